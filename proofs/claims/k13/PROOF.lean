import PyProof.Rows.All
import Wide.All
import OpenK.AllK
import Wide.FinOn
import Lean
import PyProof.EqAt
import PyProof.EqKinds
import PyProof.TupleCall
import PySem.Challenge.RW_backslope_k13_real_places_counted
local macro_rules | `(()) => `(by grind)
local macro_rules | `(tactic| ext) => `(tactic| grind)
local macro_rules | `(⋯) => `(by omega)
local macro_rules | `(∅) => `(by decide)
set_option Elab.async false
set_option linter.all false
set_option maxRecDepth 100000
theorem Zt:type_of% @if_neg:=@if_neg
theorem Zu:type_of% @if_pos:=@if_pos
theorem Zv:type_of% @decide_eq_true:=@decide_eq_true
theorem Zw:type_of% @of_decide_eq_true:=@of_decide_eq_true
theorem Zx:type_of% @decide_eq_false:=@decide_eq_false
theorem Zy:type_of% @PySem.wpAny_bind:=@PySem.wpAny_bind
theorem Zz:type_of% @PySem.wpAny_pure:=@PySem.wpAny_pure
theorem Z0:type_of% @PySem.wpAny_mono:=@PySem.wpAny_mono
theorem Z1:type_of% @Option.some.inj:=@Option.some.inj
theorem Z2:type_of% @PySem.Heap.lt_size:=@PySem.Heap.lt_size
theorem Z3:type_of% @congrFun:=@congrFun
theorem AL:type_of% @List.length_map:=@List.length_map
theorem AQ:type_of% @Rat.mul_le_mul_of_nonneg_left:=@Rat.mul_le_mul_of_nonneg_left
theorem AS:type_of% @Nat.le_refl:=@Nat.le_refl
theorem AU:type_of% @List.getD_eq_getElem?_getD:=@List.getD_eq_getElem?_getD
theorem AV:type_of% @Nat.zero_le:=@Nat.zero_le
theorem Aa:type_of% @Rat.mul_nonneg:=@Rat.mul_nonneg
theorem Af:type_of% @List.getElem?_map:=@List.getElem?_map
theorem Ah:type_of% @Int.ne_of_gt:=@Int.ne_of_gt
theorem Am:type_of% @List.getElem?_eq_getElem:=@List.getElem?_eq_getElem
theorem Ap:type_of% @Rat.pow_succ:=@Rat.pow_succ
theorem As:type_of% @Rat.mul_pos:=@Rat.mul_pos
theorem Ax:type_of% @Rat.mul_le_mul_of_nonneg_right:=@Rat.mul_le_mul_of_nonneg_right
theorem Az:type_of% @List.mem_singleton:=@List.mem_singleton
theorem A4:type_of% @Rat.le_total:=@Rat.le_total
theorem A7:type_of% @Rat.pow_zero:=@Rat.pow_zero
theorem BC:type_of% @List.mem_cons_self:=@List.mem_cons_self
theorem BF:type_of% @List.size_toArray:=@List.size_toArray
theorem BG:type_of% @Nat.lt_or_ge:=@Nat.lt_or_ge
theorem BI:type_of% @Int.natAbs_mul:=@Int.natAbs_mul
theorem BL:type_of% @Rat.intCast_mul:=@Rat.intCast_mul
theorem BN:type_of% @List.mem_cons_of_mem:=@List.mem_cons_of_mem
theorem Bb:type_of% @List.mem_cons:=@List.mem_cons
theorem Bc:type_of% @List.mem_map:=@List.mem_map
theorem Be:type_of% @Nat.le_trans:=@Nat.le_trans
theorem Bf:type_of% @Nat.pow_pos:=@Nat.pow_pos
theorem Bm:type_of% @List.length_range:=@List.length_range
theorem Bo:type_of% @Nat.ne_of_lt:=@Nat.ne_of_lt
theorem Bp:type_of% @List.getElem?_eq_some_iff:=@List.getElem?_eq_some_iff
theorem Bu:type_of% @List.mem_of_getElem?:=@List.mem_of_getElem?
theorem Bv:type_of% @List.getElem?_eq_none:=@List.getElem?_eq_none
theorem B5:type_of% @Nat.pow_succ:=@Nat.pow_succ
theorem B6:type_of% @Nat.mul_le_mul_left:=@Nat.mul_le_mul_left
theorem CB:type_of% @Rat.mul_eq_zero:=@Rat.mul_eq_zero
theorem CI:type_of% @Int.mul_ne_zero:=@Int.mul_ne_zero
theorem CJ:type_of% @Rat.mul_inv_cancel:=@Rat.mul_inv_cancel
theorem CM:type_of% @Int.emod_nonneg:=@Int.emod_nonneg
theorem CO:type_of% @Nat.lt_of_lt_of_le:=@Nat.lt_of_lt_of_le
theorem CP:type_of% @Nat.mul_le_mul_right:=@Nat.mul_le_mul_right
theorem CT:type_of% @Int.emod_lt_of_pos:=@Int.emod_lt_of_pos
theorem CU:type_of% @List.length_eq_zero_iff:=@List.length_eq_zero_iff
theorem CV:type_of% @Rat.not_le:=@Rat.not_le
theorem CZ:type_of% @List.mem_append:=@List.mem_append
theorem Ca:type_of% @Bool.false_ne_true:=@Bool.false_ne_true
theorem Cb:type_of% @List.mem_append_right:=@List.mem_append_right
theorem Cc:type_of% @Nat.pow_add:=@Nat.pow_add
theorem Cd:type_of% @Int.natAbs_dvd_natAbs:=@Int.natAbs_dvd_natAbs
theorem Ce:type_of% @Int.natAbs_natCast:=@Int.natAbs_natCast
theorem Cm:type_of% @List.length_take:=@List.length_take
theorem Co:type_of% @Nat.mul_comm:=@Nat.mul_comm
theorem Cp:type_of% @Nat.pow_le_pow_right:=@Nat.pow_le_pow_right
theorem Cq:type_of% @Int.dvd_trans:=@Int.dvd_trans
theorem Cr:type_of% @List.length_cons:=@List.length_cons
theorem C1:type_of% @Nat.le_of_lt:=@Nat.le_of_lt
theorem C2:type_of% @List.length_append:=@List.length_append
theorem C6:type_of% @Int.dvd_add:=@Int.dvd_add
theorem C7:type_of% @List.take_length:=@List.take_length
theorem C8:type_of% @Int.dvd_zero:=@Int.dvd_zero
theorem C9:type_of% @Rat.not_lt:=@Rat.not_lt
theorem DA:type_of% @Rat.intCast_neg:=@Rat.intCast_neg
theorem DB:type_of% @Rat.div_mul_cancel:=@Rat.div_mul_cancel
theorem DF:type_of% @Nat.lt_irrefl:=@Nat.lt_irrefl
theorem DG:type_of% @Nat.lt_of_le_of_lt:=@Nat.lt_of_le_of_lt
theorem DH:type_of% @Nat.eq_zero_or_pos:=@Nat.eq_zero_or_pos
theorem DI:type_of% @Nat.not_lt:=@Nat.not_lt
theorem DJ:type_of% @Nat.add_mul:=@Nat.add_mul
theorem DK:type_of% @List.countP_cons:=@List.countP_cons
theorem DR:type_of% @List.take_add_one:=@List.take_add_one
theorem DS:type_of% @List.getElem?_range:=@List.getElem?_range
theorem DZ:type_of% @Bool.and_eq_true:=@Bool.and_eq_true
theorem Db:type_of% @List.getElem_mem:=@List.getElem_mem
theorem Dc:type_of% @Int.toNat_natCast:=@Int.toNat_natCast
theorem Dd:type_of% @Int.neg_mul:=@Int.neg_mul
theorem De:type_of% @List.length_pos_iff:=@List.length_pos_iff
theorem Df:type_of% @List.forall_mem_singleton:=@List.forall_mem_singleton
theorem Dt:type_of% @Bool.false_eq_true:=@Bool.false_eq_true
theorem Du:type_of% @List.map_map:=@List.map_map
theorem Dv:type_of% @List.map_append:=@List.map_append
theorem EA:type_of% @Nat.le_of_dvd:=@Nat.le_of_dvd
theorem EB:type_of% @List.map_congr_left:=@List.map_congr_left
theorem EC:type_of% @Nat.mul_le_mul:=@Nat.mul_le_mul
theorem ER:type_of% @List.mem_range:=@List.mem_range
theorem ES:type_of% @List.mem_append_left:=@List.mem_append_left
theorem ET:type_of% @Int.gcd_dvd_right:=@Int.gcd_dvd_right
theorem EU:type_of% @Nat.lt_succ_self:=@Nat.lt_succ_self
theorem EV:type_of% @Int.mul_le_mul_of_nonneg_left:=@Int.mul_le_mul_of_nonneg_left
theorem EW:type_of% @List.ext_getElem?:=@List.ext_getElem?
theorem Ep:type_of% @Int.gcd_dvd_left:=@Int.gcd_dvd_left
theorem Er:type_of% @Int.fdiv_eq_ediv_of_nonneg:=@Int.fdiv_eq_ediv_of_nonneg
theorem Es:type_of% @Int.emod_add_mul_ediv:=@Int.emod_add_mul_ediv
theorem FI:type_of% @List.getElem?_replicate:=@List.getElem?_replicate
theorem FJ:type_of% @List.getElem_of_mem:=@List.getElem_of_mem
theorem FK:type_of% @List.dropLast_concat_getLast:=@List.dropLast_concat_getLast
theorem FM:type_of% @Int.mul_le_mul_of_nonneg_right:=@Int.mul_le_mul_of_nonneg_right
theorem Fl:type_of% @Int.dvd_mul_of_dvd_left:=@Int.dvd_mul_of_dvd_left
theorem Fm:type_of% @Nat.le_mul_of_pos_left:=@Nat.le_mul_of_pos_left
theorem Fn:type_of% @Nat.le_mul_of_pos_right:=@Nat.le_mul_of_pos_right
theorem Fo:type_of% @Int.mul_ediv_cancel_left:=@Int.mul_ediv_cancel_left
theorem Fp:type_of% @Int.dvd_mul_of_dvd_right:=@Int.dvd_mul_of_dvd_right
theorem Fs:type_of% @Rat.intCast_lt_intCast:=@Rat.intCast_lt_intCast
namespace L2
open PySem PySem.Spec PyProof.Rows
noncomputable abbrev Key:=Sum Int Str
noncomputable def Ft:Key->Value->Bool
 | .inl k,v=>Value.isInt k v
 | .inr x,v=>Value.isStrOf x v
noncomputable def Rh (w:World):Key->Int
 | .inl k=>hashInt k
 | .inr x=>hashStr w x
theorem EX:∀ {k:Key} {v:Value},Ft k v=true->(∃ i t,k=Sum.inl i/\v=Value.int i t)\/(∃ x t,k=Sum.inr x/\v=Value.str x t)
 | .inl i,v,h=>by
   obtain ⟨t,e⟩:=Value.isInt_shape (k:=i) (v:=v) h
   exact .inl ⟨i,t,rfl,e⟩
 | .inr x,v,h=>by
   obtain ⟨t,e⟩:=Value.isStrOf_shape (x:=x) (v:=v) h
   exact .inr ⟨x,t,rfl,e⟩
theorem Ri (i:Int) (t:Tok):Ft (.inl i) (.int i t)=true:=by simp [Ft,Value.isInt]
theorem Rj (x:Str) (t:Tok):Ft (.inr x) (.str x t)=true:=by simp [Ft,Value.isStrOf]
theorem Rk (a b:Int):decide ((Sum.inl a:Key)=Sum.inl b)=(a == b):=by
 by_cases e:a=b
 ·subst e;simp
 ·have h:¬ (Sum.inl a:Key)=Sum.inl b:=λq=>e (Sum.inl.inj q)
  rw [Zx h]
  exact (beq_eq_false_iff_ne.mpr e).symm
theorem Rl (a b:Str):decide ((Sum.inr a:Key)=Sum.inr b)=decide (a=b):=by
 by_cases e:a=b
 ·subst e;simp
 ·have h:¬ (Sum.inr a:Key)=Sum.inr b:=λq=>e (Sum.inr.inj q)
  rw [Zx h,Zx e]
theorem Rm (a:Int) (b:Str):decide ((Sum.inl a:Key)=Sum.inr b)=false:=Zx (λq=>nomatch q)
theorem Ro (a:Str) (b:Int):decide ((Sum.inr a:Key)=Sum.inl b)=false:=Zx (λq=>nomatch q)
noncomputable def EY (prog:Program) (w:World):PySem.KeyKind prog w Key where
 is:=Ft
 hash:=Rh w
 inj:=λv a b ha hb=>by
  rcases EX ha with ⟨i,t,rfl,rfl⟩ | ⟨x,t,rfl,rfl⟩
  ·rcases EX hb with ⟨j,u,rfl,e⟩ | ⟨y,u,rfl,e⟩
   ·injection e with e1 _;rw [e1]
   ·exact nomatch e
  ·rcases EX hb with ⟨j,u,rfl,e⟩ | ⟨y,u,rfl,e⟩
   ·exact nomatch e
   ·injection e with e1 _;rw [e1]
 byValue:=λk v h=>by
  rcases EX h with ⟨i,t,rfl,rfl⟩ | ⟨x,t,rfl,rfl⟩ <;> rfl
 pyHash:=λhv h=>by
  rcases EX hv with ⟨i,t,rfl,rfl⟩ | ⟨x,t,rfl,rfl⟩
  ·exact wpAny_pyHash_int h
  ·exact wpAny_pyHash_str h
 eqBool:=λhu hv h=>by
  rcases EX hu with ⟨i,t,rfl,rfl⟩ | ⟨x,t,rfl,rfl⟩
  ·rcases EX hv with ⟨j,u,rfl,rfl⟩ | ⟨y,u,rfl,rfl⟩
   ·rw [Rk] at h;exact wpAny_eqBool_int h
   ·rw [Rm] at h;exact SeqAt.EqAt.int_str i t y u _ _ _ _ h
  ·rcases EX hv with ⟨j,u,rfl,rfl⟩ | ⟨y,u,rfl,rfl⟩
   ·rw [Ro] at h;exact SeqAt.EqAt.str_int x t j u _ _ _ _ h
   ·rw [Rl] at h;exact wpAny_eqBool_str h
 «strs»:=λk x t v h=>by
  rcases EX h with ⟨i,u,rfl,e⟩ | ⟨y,u,rfl,e⟩
  ·exact nomatch e
  ·injection e with e1 _
   subst e1
   cases v <;> rfl
theorem Rp (prog:Program) (w:World) (i:Int) (t:Tok):(EY prog w).is (.inl i) (.int i t)=true:=Ri i t
theorem Rr (prog:Program) (w:World) (x:Str) (t:Tok):(EY prog w).is (.inr x) (.str x t)=true:=Rj x t
end L2
namespace L2
open PySem PySem.Spec PyProof.Rows
inductive V where
 | non | bl (b:Bool) | int (i:Int) | str (x:Str) | byt (b:Array UInt8) | flt (b:UInt64) | ref (a:Addr) | ty (n:String)
 deriving DecidableEq
noncomputable def RelV:V->Value->Prop
 | .non,u=>u=Value.none
 | .bl b,u=>u=Value.bool b
 | .int i,u=>∃ t,u=Value.int i t
 | .str x,u=>∃ t,u=Value.str x t
 | .byt b,u=>∃ t,u=Value.bytes b t
 | .flt b,u=>∃ t,u=Value.float b t
 | .ref a,u=>u=Value.ref a
 | .ty n,u=>u=Value.type n
noncomputable abbrev Vals:List V->List Value->Prop:=Paired RelV
theorem Vals.length {xs:List V} {us:List Value} (r:Vals xs us):xs.length=us.length:=Paired.length r
theorem Vals.get:∀ {xs:List V} {us:List Value} {i:Nat} {x:V},Vals xs us->xs[i]?=some x->∃ u,us[i]?=some u/\RelV x u
 | _,_,_,_,.nil,e=>by simp at e
 | _,_,0,_,.cons r _,e=>by simp at e;subst e;exact ⟨_,rfl,r⟩
 | _,_,i+1,x,.cons _ t,e=>by
   obtain ⟨u,h1,h2⟩:=Vals.get (i:=i) (x:=x) t (by simpa using e)
   exact ⟨u,by simpa using h1,h2⟩
theorem Vals.set {x:V} {u:Value} (r:RelV x u):∀ {xs:List V} {us:List Value} (i:Nat),Vals xs us->Vals (xs.set i x) (us.set i u)
 | _,_,_,.nil=>.nil
 | _,_,0,.cons _ t=>.cons r t
 | _,_,i+1,.cons q t=>.cons q (Vals.set r i t)
theorem Vals.append:∀ {xs ys:List V} {us ws:List Value},Vals xs us->Vals ys ws->Vals (xs++ys) (us++ws)
 | _,_,_,_,.nil,s=>s
 | _,_,_,_,.cons r t,s=>.cons r (Vals.append t s)
theorem Vals.take:∀ {xs:List V} {us:List Value} (n:Nat),Vals xs us->Vals (xs.take n) (us.take n)
 | _,_,0,_=>.nil
 | _,_,_+1,.nil=>.nil
 | _,_,n+1,.cons r t=>.cons r (Vals.take n t)
theorem Vals.drop:∀ {xs:List V} {us:List Value} (n:Nat),Vals xs us->Vals (xs.drop n) (us.drop n)
 | _,_,0,r=>r
 | _,_,_+1,.nil=>.nil
 | _,_,n+1,.cons _ t=>Vals.drop n t
noncomputable def Lh:Option V->Option Value->Prop
 | some v,some u=>RelV v u
 | none,none=>True
 | _,_=>False
noncomputable def KV {κ:Type}:List (κ×V)->List (κ×Value)->Prop:=Paired λ(p:κ×V) (q:κ×Value)=>p.1=q.1/\RelV p.2 q.2
noncomputable def kV:Key->V
 | .inl i=>.int i
 | .inr x=>.str x
inductive HO where

 | lst (xs:List V)

 | tup (xs:List V)

 | dK (kvs:List (Key×V)) | dT (kvs:List (List Key×V))

 | set (S:Int->Bool) (n:Nat)

 | ins (C dx:Addr) (fs:List (Str×V))

 | own (x:Addr)

 | xd (fs:List (Str×V))

 | met (f x:Addr)

 | rng (lo hi:Int)

 | frz (o:Obj) (u:HO)

 | tbl (ps:Array Value)

 | ext (φ:Heap->Prop)
noncomputable abbrev Hp:=Addr->Option HO
noncomputable def upd (H:Hp) (a:Addr) (o:HO):Hp:=λb=>if b=a then some o else H b
theorem upd_same {H:Hp} {a:Addr} {o:HO}:upd H a o a=some o:=by unfold upd;rw [Zu rfl]
theorem Ag {H:Hp} {a b:Addr} {o:HO} (h:b≠a):upd H a o b=H b:=by unfold upd;rw [Zt h]
theorem Li {H:Hp} {a b:Addr} {o u:HO} (h:H a=some o) (h':H b=some u) (d:o≠u):a≠b:=by
 intro e;subst e;rw [h] at h';exact d (Z1 h')
theorem BO {H:Hp} {a b:Addr} {o:HO} (h:H a=some o) (h':H b=none):a≠b:=by
 intro e;subst e;rw [h] at h';cases h'
section
variable (P:Program) (w:World)
noncomputable def ObjOk (H:Hp) (h:Heap) (a:Addr):HO->Prop
 | .lst xs=>xs.length<=sizeLine/\∃ (its:List Value) (n:Nat),Vals xs its/\h.get? a=some { cls:=.type "list", data:=.seq its.toArray n }
 | .tup xs=>xs.length<=sizeLine/\∃ its:List Value,Vals xs its/\IsTup h a its.toArray
 | .dK kvs=>kvs.length<=sizeLine/\(a == sysModules)=false/\∃ vs,KV kvs vs/\h.DictOf (EY P w) a vs
 | .dT kvs=>kvs.length<=sizeLine/\(a == sysModules)=false/\∃ xs:List (List Key×Addr×Value),
   Paired (λ(p:List Key×V) (q:List Key×Addr×Value)=>p.1=q.1/\H q.2.1=some (.tup (p.1.map kV))/\RelV p.2 q.2.2) kvs xs/\
   ∃ o es ep,h.get? a=some o/\o.ExactDict/\o.data=.dict es ep/\es.toList=xs.map (entryOfKey (tupleKind (EY P w)))/\(xs.map (·.1)).Nodup
 | .set S n=>h.SetOf (intKind P w) a S n
 | .ins C dx fs=>H dx=some (.own a)/\fs.length<=1000/\dx≠a/\h.get? a=some (PySem.W.instObj C dx)/\
   ∃ mA,h.Ns1 dx mA/\(∀ f,Lh (fs.lookup f) (mA f))/\PySem.Within mA (fs.map (·.1))
 | .own _=>∃ o,h.get? a=some o
 | .xd fs=>∃ mA,h.Ns1 a mA/\∀ f,Lh (fs.lookup f) (mA f)
 | .rng lo hi=>∃ t u v,h.get? a=some { cls:=.type "range", data:=.fields #[.int lo t,.int hi u,.int 1 v] }
 | .frz o u=>h.get? a=some o/\ObjOk H h a u
 | .tbl ps=>h.get? a=some { cls:=.none,data:=.fields ps }
 | .met f x=>h.get? a=some (PySem.W.methodObj (.ref f) (.ref x))
 | .ext φ=>φ h/\(∃ o,h.get? a=some o)/\∀ h1 h2:Heap,φ h1->(∀ o,h1.get? a=some o->h2.get? a=some o)->φ h2
noncomputable def HOk (H:Hp) (h:Heap):Prop:=∀ a o,H a=some o->ObjOk P w H h a o
end
section
variable {P:Program} {w:World} {H H':Hp} {h h':Heap} {a:Addr} {o:HO}
theorem ObjOk.lt (x:ObjOk P w H h a o):a<h.objs.size:=by
 cases o with
 | lst xs=>obtain ⟨_,_,_,_,e⟩:=x;exact Z2 e
 | tup xs=>obtain ⟨_,_,_,p⟩:=x;exact p.lt
 | dK kvs=>obtain ⟨_,_,_,_,o,_,_,e,_⟩:=x;exact Z2 e
 | dT kvs=>obtain ⟨_,_,_,_,o,_,_,e,_⟩:=x;exact Z2 e
 | set S n=>obtain ⟨o,_,_,_,e,_⟩:=x;exact Z2 e
 | ins C dx fs=>obtain ⟨_,_,_,e,_⟩:=x;exact Z2 e
 | own y=>obtain ⟨_,e⟩:=x;exact Z2 e
 | xd fs=>obtain ⟨_,⟨_,_,_,e,_⟩,_⟩:=x;exact Z2 e
 | rng lo hi=>obtain ⟨_,_,_,e⟩:=x;exact Z2 e
 | frz ob u=>obtain ⟨e,_⟩:=x;exact Z2 e
 | tbl ps=>exact Z2 (show h.get? a=some _ from x)
 | met f y=>exact Z2 (show h.get? a=some _ from x)
 | ext φ=>obtain ⟨_,⟨_,e⟩,_⟩:=x;exact Z2 e
theorem Paired.mapP {α β:Type} {F G:α->β->Prop}:∀ {l₁:List α} {l₂:List β},Paired F l₁ l₂->(∀ a b,F a b->G a b)->Paired G l₁ l₂
 | _,_,.nil,_=>.nil
 | _,_,.cons r t,f=>.cons (f _ _ r) (Paired.mapP t f)
theorem ObjOk.stay (x:ObjOk P w H h a o) (k:∀ b u,(b=a\/H b=some (.own a))->h.get? b=some u->h'.get? b=some u)
  (ho:∀ b,H b=some (.own a)->H' b=some (.own a)) (ht:∀ b xs,H b=some (.tup xs)->H' b=some (.tup xs)):ObjOk P w H' h' a o:=by
 induction o with
 | lst xs=>obtain ⟨z,its,n,r,e⟩:=x;exact ⟨z,its,n,r,k _ _ (.inl rfl) e⟩
 | tup xs=>obtain ⟨z,its,r,ob,e,c⟩:=x;exact ⟨z,its,r,ob,k _ _ (.inl rfl) e,c⟩
 | dK kvs=>obtain ⟨z,y,vs,r,ob,es,ep,e,c⟩:=x;exact ⟨z,y,vs,r,ob,es,ep,k _ _ (.inl rfl) e,c⟩
 | dT kvs=>
   obtain ⟨z,y,xs,r,ob,es,ep,e,c⟩:=x
   exact ⟨z,y,xs,Paired.mapP r λp q z=>⟨z.1,ht _ _ z.2.1,z.2.2⟩,ob,es,ep,k _ _ (.inl rfl) e,c⟩
 | set S n=>obtain ⟨ob,es,ep,t,e,c⟩:=x;exact ⟨ob,es,ep,t,k _ _ (.inl rfl) e,c⟩
 | ins C dx fs=>
   obtain ⟨d,z,ne,e,mA,⟨od,es,ep,e2,c⟩,r⟩:=x
   exact ⟨ho _ d,z,ne,k _ _ (.inl rfl) e,mA,⟨od,es,ep,k _ _ (.inr d) e2,c⟩,r⟩
 | own y=>obtain ⟨ob,e⟩:=x;exact ⟨ob,k _ _ (.inl rfl) e⟩
 | xd fs=>obtain ⟨mA,⟨od,es,ep,e,c⟩,r⟩:=x;exact ⟨mA,⟨od,es,ep,k _ _ (.inl rfl) e,c⟩,r⟩
 | rng lo hi=>obtain ⟨t,u,v,e⟩:=x;exact ⟨t,u,v,k _ _ (.inl rfl) e⟩
 | frz ob u ih=>obtain ⟨e,q⟩:=x;exact ⟨k _ _ (.inl rfl) e,ih q⟩
 | tbl ps=>
   have e:h.get? a=some { cls:=.none,data:=.fields ps }:=x
   show h'.get? a=some { cls:=.none,data:=.fields ps }
   exact k a _ (.inl rfl) e
 | met f y=>
   have e:h.get? a=some (PySem.W.methodObj (.ref f) (.ref y)):=x
   show h'.get? a=some (PySem.W.methodObj (.ref f) (.ref y))
   exact k a _ (.inl rfl) e
 | ext φ=>obtain ⟨p,⟨o,e⟩,st⟩:=x;exact ⟨st _ _ p λo q=>k _ _ (.inl rfl) q,⟨o,k _ _ (.inl rfl) e⟩,st⟩
theorem HOk.lt (x:HOk P w H h) (e:H a=some o):a<h.objs.size:=(x a o e).lt
theorem HOk.fresh (x:HOk P w H h) (e:h.objs.size<=a):H a=none:=by
 cases q:H a with
 | none=>rfl
 | some u=>exact absurd (CO (x.lt q) e) (DF _)
theorem HOk.kept (x:HOk P w H h) (k:∀ b u,h.get? b=some u->h'.get? b=some u):HOk P w H h':=λa o e=>
 (x a o e).stay (λb u _ q=>k b u q) (λ_ q=>q) λ_ _ q=>q
theorem HOk.laid (x:HOk P w H h) (k:∀ b u,h.get? b=some u->h'.get? b=some u) (hp:h.objs.size<=a) (new:ObjOk P w (upd H a o) h' a o):HOk P w (upd H a o) h':=λb u e=>by
 have hn:=x.fresh hp
 by_cases hb:b=a
 ·subst hb;rw [upd_same] at e;cases e;exact new
 ·rw [Ag hb] at e
  exact (x b u e).stay (λc v _ q=>k c v q) (λc q=>by rw [Ag (BO q hn)];exact q) λc xs q=>by rw [Ag (BO q hn)];exact q
end
noncomputable def Rd (H:Hp) (a:Addr) (u:HO):Prop:=H a=some u\/∃ o,H a=some (.frz o u)
theorem Rd.ok {P:Program} {w:World} {H:Hp} {h:Heap} {a:Addr} {u:HO} (r:Rd H a u) (x:HOk P w H h):ObjOk P w H h a u:=by
 rcases r with r | ⟨o,r⟩
 ·exact x a u r
 ·obtain ⟨_,q⟩:=x a _ r
  exact q
noncomputable def Mut:Option HO->Prop
 | some (.lst _)=>True
 | some (.dK _)=>True
 | some (.dT _)=>True
 | some (.set _ _)=>True
 | some (.ins _ _ _)=>True
 | some (.ext _)=>True
 | _=>False
section
variable {P:Program} {w:World} {H:Hp} {h h':Heap} {x e:Addr} {o':HO}
theorem HOk.write (ok:HOk P w H h) (mu:Mut (H x)) (he:e=x\/H e=some (.own x)) (k:∀ b u,b≠e->h.get? b=some u->h'.get? b=some u) (heo:∃ u,h'.get? e=some u)
  (new:ObjOk P w (upd H x o') h' x o'):HOk P w (upd H x o') h':=λb u q=>by
 have nown:∀ c y,H c=some (.own y)->c≠x:=λc y r z=>by subst z;rw [r] at mu;exact mu
 have ntup:∀ c xs,H c=some (.tup xs)->c≠x:=λc xs r z=>by subst z;rw [r] at mu;exact mu
 by_cases hb:b=x
 ·subst hb;rw [upd_same] at q;cases q;exact new
 ·rw [Ag hb] at q
  by_cases hbe:b=e
  ·have q':H b=some (.own x):=by
    rcases he with z | z
    ·exact absurd (hbe.trans z) hb
    ·rw [hbe];exact z
   rw [q] at q';cases q'
   obtain ⟨v,hv⟩:=heo
   exact ⟨v,by rw [hbe];exact hv⟩
  ·refine (ok b u q).stay (λc v hc r=>k c v ?_ r) (λc r=>by rw [Ag (nown c b r)];exact r) λc xs r=>by rw [Ag (ntup c xs r)];exact r
   rcases hc with rfl | hc
   ·exact hbe
   ·rintro rfl
    rcases he with z | z
    ·exact nown c b hc z
    ·rw [hc] at z;cases z;exact hb rfl
end
structure Un (fs ex:List Addr) (H H':Hp) (h h':Heap):Prop where
 keep:∀ b o,h.get? b=some o->H b=none->b∉fs->b∉ex->h'.get? b=some o
 slot:∀ b o,h.get? b=some o->H b=none->b∈fs->b∉ex->∃ sl,h'.get? b=some { o with slots:=sl }
 free:∀ b o,h.get? b=some o->H b=none->b∉ex->H' b=none
 there:∀ b o,h.get? b=some o->b∉ex->∃ o',h'.get? b=some o'
 tups:∀ b xs,H b=some (.tup xs)->H' b=some (.tup xs)
 frzs:∀ b o u,H b=some (.frz o u)->H' b=some (.frz o u)
 tbls:∀ b ps,H b=some (.tbl ps)->∃ more,H' b=some (.tbl (ps++more))
section
variable {fs fs' ex ex':List Addr} {H H1 H2:Hp} {h h1 h2 h':Heap} {a x e:Addr} {o:HO}
theorem Un.any (u:Un fs ex H H1 h h1) {b:Addr} {ob:Obj} (q:h.get? b=some ob) (n:H b=none) (hx:b∉ex):∃ sl,h1.get? b=some { ob with slots:=sl }:=by
 by_cases hb:b∈fs
 ·exact u.slot b ob q n hb hx
 ·exact ⟨ob.slots,u.keep b ob q n hb hx⟩
theorem Un.kept (k:∀ b u,h.get? b=some u->h'.get? b=some u):Un fs ex H H h h':=
 ⟨λb ob q _ _ _=>k b ob q,λb ob q _ _ _=>⟨ob.slots,k b ob q⟩,λ_ _ _ n _=>n,λb ob q _=>⟨ob,k b ob q⟩,λ_ _ q=>q,λ_ _ _ q=>q,λ_ ps q=>⟨#[],by rw [q];simp⟩⟩
theorem Un.refl:Un fs ex H H h h:=Un.kept λ_ _ q=>q
theorem Un.laid (k:∀ b u,h.get? b=some u->h'.get? b=some u) (hp:h.objs.size<=a) (hn:H a=none):Un fs ex H (upd H a o) h h' where
 keep:=λb u q _ _ _=>k b u q
 slot:=λb u q _ _ _=>⟨u.slots,k b u q⟩
 free:=λb u q n _=>by rw [Ag (Bo (CO (Z2 q) hp))];exact n
 there:=λb u q _=>⟨u,k b u q⟩
 tups:=λb xs q=>by rw [Ag (BO q hn)];exact q
 frzs:=λb u xs q=>by rw [Ag (BO q hn)];exact q
 tbls:=λb ps q=>⟨#[],by rw [Ag (BO q hn),q];simp⟩
theorem Un.write (mu:Mut (H x)) (he:e=x\/H e=some (.own x)) (k:∀ b u,b≠e->h.get? b=some u->h'.get? b=some u) (heo:∃ u,h'.get? e=some u):Un fs ex H (upd H x o) h h':=by
 have hx:∀ b,H b=none->b≠x:=λb n z=>by subst z;rw [n] at mu;exact mu
 have hb:∀ b,H b=none->b≠e:=λb n z=>by
  subst z
  rcases he with r | r
  ·exact hx b n r
  ·rw [n] at r;cases r
 have hm:∀ b u,H b=some u->¬ Mut (some u)->b≠x:=λb u q nm z=>by subst z;rw [q] at mu;exact nm mu
 refine ⟨λb u q n _ _=>k b u (hb b n) q,λb u q n _ _=>⟨u.slots,k b u (hb b n) q⟩,λb u q n _=>by rw [Ag (hx b n)];exact n,λb u q _=>?_,
  λb xs q=>by rw [Ag (hm b _ q λz=>z)];exact q,λb u xs q=>by rw [Ag (hm b _ q λz=>z)];exact q,λb ps q=>⟨#[],by rw [Ag (hm b _ q λz=>z),q];simp⟩⟩
 by_cases hbe:b=e
 ·subst hbe;exact heo
 ·exact ⟨u,k b u hbe q⟩
end
noncomputable def trk (h:Heap) (H:Hp):List Addr:=(List.range h.objs.size).filter λa=>(H a).isSome
noncomputable def ED (h:Heap) (H:Hp):Heap:=PySem.W.hideAll h (trk h H)
theorem Rs (h:Heap) (H:Hp):(ED h H).objs.size=h.objs.size:=PySem.W.hideAll_size _ _
theorem Ru {h:Heap} {H:Hp} {b:Addr} {o:Obj} (e:h.get? b=some o) (n:H b=none):(ED h H).get? b=some o:=
 PySem.W.hideAll_get _ e λhm=>by
  have q:(H b).isSome=true:=(List.mem_filter.mp hm).2
  rw [n] at q;simp at q
theorem Rv {h:Heap} {H:Hp} {b:Addr} {o:Obj} (e:(ED h H).get? b=some o):h.get? b=some o/\H b=none:=by
 have e':h.get? b=some o:=PySem.W.of_hideAll (trk h H) e
 refine ⟨e',?_⟩
 cases q:H b with
 | none=>rfl
 | some x=>
   have hm:b∈trk h H:=List.mem_filter.mpr ⟨ER.mpr (Z2 e'),by simp [q]⟩
   have z:(ED h H).get? b=none:=PySem.W.hideAll_none (trk h H) hm
   rw [z] at e;cases e
noncomputable def Rw (g h:Heap) (L:Addr):List (Addr×Obj):=(List.range h.objs.size).filterMap λa=>if a=L\/(g.get? a).isSome=true then none else (h.get? a).map λo=>(a,o)
noncomputable def rest (g h:Heap) (L d:Addr):List (Addr×Obj):=(Rw g h L).filter λp=>decide (p.1≠d)
end L2
namespace L2
open PySem PySem.Spec PyProof.Rows
structure Mod (K:PySem.W.Frag) (mg:Str->Option Value) (base:Heap):Prop where
 kin:K.In base
 glob:base.Ns mainGlobals mg
 blt:∃ mb,base.Ns builtinsNs mb/\∀ x:Str,x ≠ "__name__" -> mb x=bootBuiltins x
 nolimit:base.NoLimit
structure Cx where
 prog:Program
 w:World
 K:PySem.W.Frag
 mg:Str->Option Value
 base:Heap
 A:Around
 N:List Str
 s₀:Shared
 H₀:Hp
 env:Env
 outer:List Env
 stack:List Env
 ex:List Addr
 fn:Str->Bool
 calm:Bool
 pn:List (Addr×Obj)
 xe:Value->Shared->Prop
noncomputable def frs (l:List Env):List Addr:=l.filterMap (·.frame)
noncomputable abbrev Cx.fs (X:Cx):List Addr:=frs X.outer
noncomputable def Vis (sc:Scope) (x:Str):Prop:=sc.names.lookup x=some .local\/sc.names.lookup x=some .cell\/sc.names.lookup x=some .free
noncomputable def Loc (sc:Scope) (x:Str):Prop:=sc.names.lookup x=some .local\/sc.names.lookup x=some .cell
noncomputable def Look (env:Env) (h:Heap) (m:Str->Option Value) (x:Str) (u:Value):Prop:=
 (env.kindOf x=some .local/\m x=some u)\/((env.kindOf x=some .cell\/env.kindOf x=some .free)/\∃ c,env.cells.lookup x=some c/\h.IsCell c (some u))
structure Cx.Ok (X:Cx):Prop where
 mod:Mod X.K X.mg X.base
 kind:X.env.scope.kind=.function
 glob:X.env.globals=mainGlobals
 blt:X.env.builtins=builtinsNs
 above:X.s₀.heap.objs.size<=X.env.locals
 inj:∀ x y c,X.env.cells.lookup x=some c->X.env.cells.lookup y=some c->x=y
 has:∀ x,(X.env.kindOf x=some .cell\/X.env.kindOf x=some .free)->∃ c,X.env.cells.lookup x=some c
 cab:∀ x c,X.fn x=true->X.env.cells.lookup x=some c->X.s₀.heap.objs.size<=c
 hd:X.calm=true->X.A.handled=none
 frames:X.A.frames=some X.stack
 stk:X.stack=X.outer\/(X.stack=X.env::X.outer/\X.env.frame=some X.env.locals)
 exf:∀ b∈X.ex,b≠X.env.locals/\∀ x c,X.env.cells.lookup x=some c->c≠b
 bs:∀ b o,X.base.get? b=some o->X.s₀.heap.get? b=some o/\X.H₀ b=none
 bsz:X.base.objs.size<=X.s₀.heap.objs.size
 noex:∀ b o,X.base.get? b=some o->b∉X.ex
 exfs:∀ b∈X.ex,b∉X.fs
 funs:X.s₀.heap.FunFrames X.base X.outer
 frf:∀ b∈X.fs,X.H₀ b=none
 seer:X.base.NoSeer
 tree:(model X.prog X.w).prog.given.tree=none
 plr:∀ s:Shared,(∀ b o,X.base.get? b=some o->s.heap.get? b=some o)->PySem.PylongRoom (model X.prog X.w) X.A s
structure Inv (X:Cx) (pins:List (Addr×Obj)) (σ:List (Option V)) (H:Hp) (s:Shared):Prop where
 ok:X.Ok
 os:s.os=X.s₀.os
 bare:AllBare s.gens
 base:Un X.fs X.ex X.H₀ H X.s₀.heap s.heap
 loc:∃ m,s.heap.Ns X.env.locals m/\∀ (i:Nat) (x:Str) (v:V),X.N[i]?=some x->σ[i]?=some (some v)->Vis X.env.scope x->∃ u,RelV v u/\Look X.env s.heap m x u
 cell:∀ x c,X.env.cells.lookup x=some c->∃ v,s.heap.IsCell c v
 free:H X.env.locals=none
 freeC:∀ x c,X.env.cells.lookup x=some c->H c=none
 pin:∀ p∈X.pn++pins,s.heap.get? p.1=some p.2/\H p.1=none/\p.1≠X.env.locals/\p.1∉X.fs/\∀ v,p.2.data≠.cell v
 hok:HOk X.prog X.w H s.heap
 len:σ.length=X.N.length
section
variable {X:Cx} {pins:List (Addr×Obj)} {σ:List (Option V)} {H H':Hp} {s:Shared} {h':Heap}
theorem Cx.Ok.nofr (ok:X.Ok) {b:Addr} {o:Obj} (e:X.base.get? b=some o):b∉X.fs:=λhb=>by
 have:=(ok.funs.mem hb).1
 rw [e] at this;cases this
theorem Inv.bs (I:Inv X pins σ H s):∀ b o,X.base.get? b=some o->s.heap.get? b=some o/\H b=none:=λb o e=>
 ⟨I.base.keep b o (I.ok.bs b o e).1 (I.ok.bs b o e).2 (I.ok.nofr e) (I.ok.noex b o e),I.base.free b o (I.ok.bs b o e).1 (I.ok.bs b o e).2 (I.ok.noex b o e)⟩
theorem Inv.bk (I:Inv X pins σ H s):∀ b o,X.base.get? b=some o->s.heap.get? b=some o:=λb o e=>(I.bs b o e).1
theorem Inv.mod (I:Inv X pins σ H s):Mod X.K X.mg X.base:=I.ok.mod
theorem Inv.kIn (I:Inv X pins σ H s):X.K.In s.heap:=I.ok.mod.kin.keeps I.bk
theorem Inv.fr (I:Inv X pins σ H s):∃ m,Fr X.base X.env.locals s.heap m:=
 let ⟨m,hn,_⟩:=I.loc
 ⟨m,hn,I.bk,Be I.ok.bsz I.ok.above⟩
theorem Inv.lt (I:Inv X pins σ H s):X.env.locals<s.heap.objs.size:=let ⟨_,hn,_⟩:=I.loc;hn.lt
theorem Inv.sz (I:Inv X pins σ H s):X.s₀.heap.objs.size<=s.heap.objs.size:=Be I.ok.above (C1 I.lt)
theorem Inv.nofs (I:Inv X pins σ H s) {a:Addr} (h:s.heap.objs.size<=a):a∉X.fs:=λhb=>by
 obtain ⟨_,o,ho,_⟩:=I.ok.funs.mem hb
 exact absurd (CO (Z2 ho) (Be I.sz h)) (DF _)
theorem Inv.cne (I:Inv X pins σ H s):∀ x c,X.env.cells.lookup x=some c->c≠X.env.locals:=λx c e z=>by
 obtain ⟨v,o,ho,hd⟩:=I.cell x c e
 obtain ⟨m,⟨o',es,ep,ho',hd',_⟩,_⟩:=I.loc
 rw [z,ho'] at ho;cases ho;rw [hd'] at hd;cases hd
theorem Inv.funs (I:Inv X pins σ H s):s.heap.FunFrames X.base X.outer:=by
 have all:∀ (l:List Env),(∀ b∈frs l,b∈X.fs)->X.s₀.heap.FunFrames X.base l->s.heap.FunFrames X.base l:=by
  intro l
  induction l with
  | nil=>intro _ _;trivial
  | cons env r ih=>
    intro hs hl
    obtain ⟨hk,⟨L,o,hf,hn,ho,hd⟩,hr⟩:=hl
    have hL:L∈X.fs:=hs L (by unfold frs;rw [List.filterMap_cons,hf];exact BC)
    obtain ⟨sl,e⟩:=I.base.slot L o ho (I.ok.frf L hL) hL λz=>I.ok.exfs L z hL
    exact ⟨hk,⟨L,_,hf,hn,e,hd⟩,ih (λb hb=>hs b (by unfold frs;rw [List.filterMap_cons,hf];exact BN _ hb)) hr⟩
 exact all X.outer (λ_ hb=>hb) I.ok.funs
theorem Inv.stack (I:Inv X pins σ H s):s.heap.FunFrames X.base X.stack:=by
 rcases I.ok.stk with e | ⟨e,hf⟩
 ·rw [e];exact I.funs
 ·rw [e]
  obtain ⟨m,hn,_⟩:=I.loc
  refine .cons (by rw [I.ok.kind];decide) hf hn ?_ I.funs
  exact Heap.get?_none_of_le (Be I.ok.bsz I.ok.above)
theorem Inv.stkSub (I:Inv X pins σ H s):∀ b∈frs X.stack,b∈X.env.locals::X.fs:=λb hb=>by
 rcases I.ok.stk with e | ⟨e,hf⟩
 ·rw [e] at hb;exact BN _ hb
 ·rw [e] at hb
  unfold frs at hb
  rw [List.filterMap_cons,hf] at hb
  exact hb
theorem Inv.stkFree (I:Inv X pins σ H s):∀ b∈frs X.stack,H b=none:=λb hb=>by
 rcases Bb.mp (I.stkSub b hb) with e | hb
 ·rw [e];exact I.free
 ·obtain ⟨_,o,ho,_⟩:=I.ok.funs.mem hb
  exact I.base.free b o ho (I.ok.frf b hb) λz=>I.ok.exfs b z hb
theorem Inv.step {g':Array GenState} {t':Nat} {d':Drawn} {ch:List Addr} (I:Inv X pins σ H s)
  (hch:∀ b∈ch,(b∈X.ex\/X.s₀.heap.objs.size<=b)/\b≠X.env.locals/\(∀ x c,X.env.cells.lookup x=some c->c≠b)/\∀ p∈X.pn++pins,p.1≠b)
  (keep:∀ b o,b≠X.env.locals->b∉X.fs->b∉ch->s.heap.get? b=some o->H b=none->h'.get? b=some o)
  (slot:∀ b o,b≠X.env.locals->b∈X.fs->b∉ch->s.heap.get? b=some o->H b=none->∃ sl,h'.get? b=some { o with slots:=sl }) (free:∀ b o,b∉ch->s.heap.get? b=some o->H b=none->H' b=none)
  (there:∀ b o,b∉ch->s.heap.get? b=some o->∃ o',h'.get? b=some o')
  (tups:∀ b xs,H b=some (.tup xs)->H' b=some (.tup xs)) (frzs:∀ b o u,H b=some (.frz o u)->H' b=some (.frz o u)) (tbls:∀ b ps,H b=some (.tbl ps)->∃ more,H' b=some (.tbl (ps++more)))
  (ns:∀ m,s.heap.Ns X.env.locals m->h'.Ns X.env.locals m) (hok:HOk X.prog X.w H' h') (hg:AllBare g') :
  Inv X pins σ H' { s with heap:=h',gens:=g',drawn:=d',toks:=t' }:=by
 have neL:∀ b o,X.s₀.heap.get? b=some o->b≠X.env.locals:=λb o e=>Bo (CO (Z2 e) I.ok.above)
 have neC:∀ b o,X.s₀.heap.get? b=some o->b∉X.ex->b∉ch:=λb o e hx hb=>by
  rcases (hch b hb).1 with z | z
  ·exact hx z
  ·exact absurd (CO (Z2 e) z) (DF _)
 have cellK:∀ x c,X.env.cells.lookup x=some c->∀ v,s.heap.IsCell c v->h'.IsCell c v:=λx c e v ⟨o,ho,hd⟩=>by
  have nch:c∉ch:=λz=>(hch c z).2.2.1 x c e rfl
  by_cases hc:c∈X.fs
  ·obtain ⟨sl,q⟩:=slot c o (I.cne x c e) hc nch ho (I.freeC x c e)
   exact ⟨_,q,hd⟩
  ·exact ⟨o,keep c o (I.cne x c e) hc nch ho (I.freeC x c e),hd⟩
 refine ⟨I.ok,I.os,hg,⟨λb o e n hb hx=>?_,λb o e n hb hx=>?_,λb o e n hx=>?_,λb o e hx=>?_,λb xs e=>tups b xs (I.base.tups b xs e),λb o xs e=>frzs b o xs (I.base.frzs b o xs e),λb ps e=>?_⟩,?_,λx c e=>?_,?_,λx c e=>?_,λp hp=>?_,hok,I.len⟩
 ·exact keep b o (neL b o e) hb (neC b o e hx) (I.base.keep b o e n hb hx) (I.base.free b o e n hx)
 ·obtain ⟨sl,e1⟩:=I.base.slot b o e n hb hx
  obtain ⟨sl',e2⟩:=slot b _ (neL b o e) hb (neC b o e hx) e1 (I.base.free b o e n hx)
  exact ⟨sl',e2⟩
 ·obtain ⟨o',e1⟩:=I.base.there b o e hx
  exact free b o' (neC b o e hx) e1 (I.base.free b o e n hx)
 ·obtain ⟨o',e1⟩:=I.base.there b o e hx
  exact there b o' (neC b o e hx) e1
 ·obtain ⟨m1,e1⟩:=I.base.tbls b ps e
  obtain ⟨m2,e2⟩:=tbls b _ e1
  exact ⟨m1++m2,by rw [e2,Array.append_assoc]⟩
 ·obtain ⟨m,hn,hl⟩:=I.loc
  refine ⟨m,ns m hn,λi x v e1 e2 e3=>?_⟩
  obtain ⟨u,r,l⟩:=hl i x v e1 e2 e3
  refine ⟨u,r,?_⟩
  rcases l with l | ⟨k,c,e,z⟩
  ·exact .inl l
  ·exact .inr ⟨k,c,e,cellK x c e _ z⟩
 ·obtain ⟨v,z⟩:=I.cell x c e
  exact ⟨v,cellK x c e v z⟩
 ·obtain ⟨m,⟨o,_,_,ho,_⟩,_⟩:=I.loc
  exact free _ o (λz=>(hch _ z).2.1 rfl) ho I.free
 ·obtain ⟨v,o,ho,hd⟩:=I.cell x c e
  exact free c o (λz=>(hch c z).2.2.1 x c e rfl) ho (I.freeC x c e)
 ·obtain ⟨e,n,ne,nf,d⟩:=I.pin p hp
  have nch:p.1∉ch:=λz=>(hch p.1 z).2.2.2 p hp rfl
  exact ⟨keep p.1 p.2 ne nf nch e n,free p.1 p.2 nch e n,ne,nf,d⟩
theorem Inv.un {t':Nat} (I:Inv X pins σ H s) (u:Un X.fs [] H H' s.heap h') (hok:HOk X.prog X.w H' h'):Inv X pins σ H' { s with heap:=h',toks:=t' }:=by
 obtain ⟨m,⟨o,es,ep,ho,r⟩,_⟩:=id I.loc
 obtain ⟨sl,hL⟩:=u.any ho I.free (by simp)
 exact I.step (g':=s.gens) (d':=s.drawn) (ch:=[]) (λ_ z=>nomatch z) (λb o _ hb _ e n=>u.keep b o e n hb (by simp)) (λb o _ hb _ e n=>u.slot b o e n hb (by simp)) (λb o _ e n=>u.free b o e n (by simp)) (λb o _ e=>u.there b o e (by simp)) u.tups u.frzs u.tbls (λm' hm=>by
  obtain ⟨o',es',ep',ho',r'⟩:=hm
  rw [ho] at ho';cases ho'
  exact ⟨_,es',ep',hL,r'⟩) hok I.bare
theorem Inv.call {g':Array GenState} {t':Nat} {d':Drawn} {ch:List Addr} (I:Inv X pins σ H s) (u:Un (frs X.stack) ch H H' s.heap h') (hok:HOk X.prog X.w H' h') (hg:AllBare g')
  (hch:∀ b∈ch,(b∈X.ex\/X.s₀.heap.objs.size<=b)/\b≠X.env.locals/\(∀ x c,X.env.cells.lookup x=some c->c≠b)/\∀ p∈X.pn++pins,p.1≠b) :
  Inv X pins σ H' { s with heap:=h',gens:=g',drawn:=d',toks:=t' }:=by
 obtain ⟨m,⟨o,es,ep,ho,r⟩,_⟩:=id I.loc
 obtain ⟨sl,hL⟩:=u.any ho I.free λz=>(hch _ z).2.1 rfl
 exact I.step (ch:=ch) hch (λb o hL hb hc e n=>u.keep b o e n (λz=>(Bb.mp (I.stkSub b z)).elim hL hb) hc) (λb o _ _ hc e n=>u.any e n hc) (λb o hc e n=>u.free b o e n hc) (λb o hc e=>u.there b o e hc) u.tups u.frzs u.tbls (λm' hm=>by
  obtain ⟨o',es',ep',ho',r'⟩:=hm
  rw [ho] at ho';cases ho'
  exact ⟨_,es',ep',hL,r'⟩) hok hg
theorem Inv.turned {t':Nat} {it:Addr} (I:Inv X pins σ H s) (k:∀ b o,b≠it->s.heap.get? b=some o->h'.get? b=some o) (hn:H it=none) (hL:it≠X.env.locals)
  (h1:it∈X.ex\/X.s₀.heap.objs.size<=it) (h2:∀ x c,X.env.cells.lookup x=some c->c≠it) (h3:∀ p∈X.pn++pins,p.1≠it):Inv X pins σ H { s with heap:=h',toks:=t' }:=by
 have nit:∀ b u,H b=some u->b≠it:=λb u e z=>by rw [z,hn] at e;cases e
 refine I.step (g':=s.gens) (d':=s.drawn) (ch:=[it]) (λb hb=>?_) (λb o _ _ hc e _=>k b o (λz=>hc (by simp [z])) e) (λb o _ _ hc e _=>⟨o.slots,k b o (λz=>hc (by simp [z])) e⟩) (λ_ _ _ _ n=>n)
  (λb o hc e=>⟨o,k b o (λz=>hc (by simp [z])) e⟩) (λ_ _ e=>e) (λ_ _ _ e=>e) (λb ps e=>⟨#[],by rw [e];simp⟩) (λm hm=>?_) (λb u e=>?_) I.bare
 ·have e:b=it:=by simpa using hb
  subst e
  exact ⟨h1,hL,h2,h3⟩
 ·obtain ⟨o,es,ep,ho,r⟩:=hm
  exact ⟨o,es,ep,k _ o (Ne.symm hL) ho,r⟩
 ·refine (I.hok b u e).stay (λc v hc q=>k c v ?_ q) (λ_ q=>q) λ_ _ q=>q
  rcases hc with z | z
  ·rw [z];exact nit b u e
  ·exact nit c _ z
theorem Inv.tok (I:Inv X pins σ H s) (t:Nat):Inv X pins σ H { s with toks:=t }:=I.un (h':=s.heap) (t':=t) Un.refl I.hok
theorem Inv.kept {t':Nat} (I:Inv X pins σ H s) (k:∀ b u,s.heap.get? b=some u->h'.get? b=some u):Inv X pins σ H { s with heap:=h',toks:=t' }:=I.un (Un.kept k) (I.hok.kept k)
theorem Inv.laid {a:Addr} {o:HO} {t':Nat} (I:Inv X pins σ H s) (k:∀ b u,s.heap.get? b=some u->h'.get? b=some u) (hp:s.heap.objs.size<=a) (new:ObjOk X.prog X.w (upd H a o) h' a o) :
  Inv X pins σ (upd H a o) { s with heap:=h',toks:=t' }:=I.un (Un.laid k hp (I.hok.fresh hp)) (I.hok.laid k hp new)
theorem Inv.write {x e:Addr} {o:HO} {t':Nat} (I:Inv X pins σ H s) (mu:Mut (H x)) (he:e=x\/H e=some (.own x)) (k:∀ b u,b≠e->s.heap.get? b=some u->h'.get? b=some u) (heo:∃ u,h'.get? e=some u)
  (new:ObjOk X.prog X.w (upd H x o) h' x o):Inv X pins σ (upd H x o) { s with heap:=h',toks:=t' }:=I.un (Un.write mu he k heo) (I.hok.write mu he k heo new)
theorem Inv.pins_of {pins':List (Addr×Obj)} (I:Inv X pins σ H s) (h:∀ p∈pins',s.heap.get? p.1=some p.2/\H p.1=none/\p.1≠X.env.locals/\p.1∉X.fs/\∀ v,p.2.data≠.cell v):Inv X pins' σ H s:=
 ⟨I.ok,I.os,I.bare,I.base,I.loc,I.cell,I.free,I.freeC,λp hp=>(CZ.mp hp).elim (λz=>I.pin p (ES _ z)) (h p),I.hok,I.len⟩
theorem Lj {N:List Str} (hN:N.Nodup) {i j:Nat} {x:Str} (a:N[i]?=some x) (b:N[j]?=some x):i=j:=by
 obtain ⟨h1,e1⟩:=Bp.mp a
 obtain ⟨h2,e2⟩:=Bp.mp b
 exact (List.getElem_inj hN).mp (e1.trans e2.symm)
theorem Lk {M:Model} {A:Around} {E:Value->Shared->Prop} {i:Nat} {x:Str} {v:V} {u:Value} {Q:Unit->Shared->Prop} (I:Inv X pins σ H s) (hN:X.N.Nodup) (hi:X.N[i]?=some x) (hx:Loc X.env.scope x) (r:RelV v u)
  (h:∀ s',Inv X pins (σ.set i (some v)) H s'->(∃ a,Heap.SameBut a s.heap s'.heap/\(a=X.env.locals\/X.env.cells.lookup x=some a))->Q Unit.unit s') (hf:X.fn x=true\/X.env.scope.names.lookup x=some .local:=by first | exact .inl rfl | exact .inr rfl | assumption):wpAny M A (storeName X.env x u) Q E s:=by
 obtain ⟨m,hn,hl⟩:=id I.loc
 have hcls:(X.env.scope.kind == .class || (X.env.scope.kind == .module && X.env.locals != X.env.globals))=false:=by rw [I.ok.kind];rfl
 have hiσ:i<σ.length:=by rw [I.len];exact (Bp.mp hi).1
 have cne:=I.cne
 have tracked:∀ {a:Addr} {h':Heap},(∃ o,s.heap.get? a=some o/\H a=none)->Heap.SameBut a s.heap h'->HOk X.prog X.w H h':=λ{a h'} ha hs b ob e=>by
  obtain ⟨_,_,hfree⟩:=ha
  refine (I.hok b ob e).stay (λc w' hc q=>(hs.2 c ?_).trans q) (λ_ q=>q) λ_ _ q=>q
  rintro rfl
  rcases hc with rfl | hc
  ·rw [hfree] at e;cases e
  ·rw [hfree] at hc;cases hc
 rcases hx with hk | hk
 ·refine wpAny_storeName_local hk hn (λh' hn' hs=>?_) hcls
  obtain ⟨oL,_,_,hoL,_⟩:=id hn
  refine h _ ⟨I.ok,I.os,I.bare,⟨λb o e n hb hx=>?_,λb o e n hb hx=>?_,I.base.free,λb o e hx=>?_,I.base.tups,I.base.frzs,I.base.tbls⟩,⟨_,hn',λj y v' e1 e2 e3=>?_⟩,λy c e=>?_,I.free,I.freeC,λp hp=>?_,tracked ⟨oL,hoL,I.free⟩ hs,by simpa using I.len⟩ ⟨_,hs,.inl rfl⟩
  ·exact (hs.2 b (Bo (CO (Z2 e) I.ok.above))).trans (I.base.keep b o e n hb hx)
  ·obtain ⟨sl,e1⟩:=I.base.slot b o e n hb hx
   exact ⟨sl,(hs.2 b (Bo (CO (Z2 e) I.ok.above))).trans e1⟩
  ·obtain ⟨o',e1⟩:=I.base.there b o e hx
   exact ⟨o',(hs.2 b (Bo (CO (Z2 e) I.ok.above))).trans e1⟩
  ·by_cases hj:j=i
   ·subst hj
    rw [hi] at e1;cases e1
    rw [List.getElem?_set_self hiσ] at e2
    cases e2
    exact ⟨u,r,.inl ⟨hk,by simp⟩⟩
   ·rw [List.getElem?_set_ne (Ne.symm hj)] at e2
    obtain ⟨u',r',q⟩:=hl j y v' e1 e2 e3
    refine ⟨u',r',?_⟩
    rcases q with ⟨k,e⟩ | ⟨k,c,e,z⟩
    ·refine .inl ⟨k,?_⟩
     have:y≠x:=λe=>hj (Lj hN e1 (e ▸ hi))
     simp [this,e]
    ·exact .inr ⟨k,c,e,z.sameBut hs (cne y c e)⟩
  ·obtain ⟨w',z⟩:=I.cell y c e
   exact ⟨w',z.sameBut hs (cne y c e)⟩
  ·obtain ⟨e,n,ne,nf,d⟩:=I.pin p hp
   exact ⟨(hs.2 p.1 ne).trans e,n,ne,nf,d⟩
 ·have hfn:X.fn x=true:=by
   rcases hf with z | z
   ·exact z
   ·rw [z] at hk;cases hk
  obtain ⟨c,hc⟩:=I.ok.has x (.inl hk)
  obtain ⟨w',z⟩:=I.cell x c hc
  refine wpAny_storeName_cell I.ok.kind hk hc z (λh' hc' hs=>?_)
  obtain ⟨oc,hoc,hocd⟩:=id z
  refine h { s with heap:=h' } ⟨I.ok,I.os,I.bare,⟨λb o e n hb hx=>?_,λb o e n hb hx=>?_,I.base.free,λb o e hx=>?_,I.base.tups,I.base.frzs,I.base.tbls⟩,⟨m,hn.sameBut hs (Ne.symm (cne x c hc)),λj y v' e1 e2 e3=>?_⟩,λy c' e=>?_,I.free,I.freeC,λp hp=>?_,tracked ⟨oc,hoc,I.freeC x c hc⟩ hs,by simpa using I.len⟩ ⟨c,hs,.inr hc⟩
  ·exact (hs.2 b (Bo (CO (Z2 e) (I.ok.cab x c hfn hc)))).trans (I.base.keep b o e n hb hx)
  ·obtain ⟨sl,e1⟩:=I.base.slot b o e n hb hx
   exact ⟨sl,(hs.2 b (Bo (CO (Z2 e) (I.ok.cab x c hfn hc)))).trans e1⟩
  ·obtain ⟨o',e1⟩:=I.base.there b o e hx
   exact ⟨o',(hs.2 b (Bo (CO (Z2 e) (I.ok.cab x c hfn hc)))).trans e1⟩
  ·by_cases hj:j=i
   ·subst hj
    rw [hi] at e1;cases e1
    rw [List.getElem?_set_self hiσ] at e2
    cases e2
    exact ⟨u,r,.inr ⟨.inl hk,c,hc,hc'⟩⟩
   ·rw [List.getElem?_set_ne (Ne.symm hj)] at e2
    obtain ⟨u',r',q⟩:=hl j y v' e1 e2 e3
    refine ⟨u',r',?_⟩
    rcases q with q | ⟨k,c',e,z'⟩
    ·exact .inl q
    ·refine .inr ⟨k,c',e,z'.sameBut hs ?_⟩
     rintro rfl
     exact hj (Lj hN e1 (I.ok.inj _ _ _ e hc ▸ hi))
  ·by_cases hcc:c'=c
   ·subst hcc;exact ⟨_,hc'⟩
   ·obtain ⟨w2,z2⟩:=I.cell y c' e
    exact ⟨w2,z2.sameBut hs hcc⟩
  ·obtain ⟨e,n,ne,nf,d⟩:=I.pin p hp
   refine ⟨(hs.2 p.1 ?_).trans e,n,ne,nf,d⟩
   intro q
   rw [q,hoc] at e
   have q':oc=p.2:=Z1 e
   exact d w' (by rw [<-q'];exact hocd)
theorem Ga {M:Model} {A:Around} {E:Value->Shared->Prop} {i:Nat} {x:Str} {v:V} {u:Value} {Q:Unit->Shared->Prop} (I:Inv X pins σ H s) (hN:X.N.Nodup) (hi:X.N[i]?=some x) (hx:Loc X.env.scope x) (r:RelV v u)
  (h:∀ s',Inv X pins (σ.set i (some v)) H s'->Q Unit.unit s') (hf:X.fn x=true\/X.env.scope.names.lookup x=some .local:=by first | exact .inl rfl | exact .inr rfl | assumption):wpAny M A (storeName X.env x u) Q E s:=
 Lk I hN hi hx r (λs' I' _=>h s' I') hf
theorem Inv.call' {s':Shared} {ch:List Addr} (I:Inv X pins σ H s) (ho:s'.os=s.os) (u:Un (frs X.stack) ch H H' s.heap s'.heap) (hok:HOk X.prog X.w H' s'.heap) (hg:AllBare s'.gens)
  (hch:∀ b∈ch,(b∈X.ex\/X.s₀.heap.objs.size<=b)/\b≠X.env.locals/\(∀ x c,X.env.cells.lookup x=some c->c≠b)/\∀ p∈X.pn++pins,p.1≠b):Inv X pins σ H' s':=by
 obtain ⟨h',g',d',t',o'⟩:=s'
 have e:o'=s.os:=ho
 subst e
 exact I.call (g':=g') (t':=t') (d':=d') u hok hg hch
end
noncomputable abbrev XK:=Value->Option Addr->Hp->Prop
noncomputable abbrev St:=List (Option V)
noncomputable abbrev VK:=V->Hp->Prop
noncomputable abbrev TE:=St->Hp->VK->Prop
noncomputable abbrev TT:=St->Hp->(Bool->Hp->Prop)->Prop
noncomputable abbrev TA:=St->Hp->(List V->Hp->Prop)->Prop
structure Ends where
 nx:St->Hp->Prop
 rt:VK
 bk:St->Hp->Prop:=λ_ _=>False
 ct:St->Hp->Prop:=λ_ _=>False
noncomputable abbrev TS:=Ends->St->Hp->Prop
noncomputable def EP (X:Cx) (pins:List (Addr×Obj)) (σ:St) (Q:VK) (u:Value) (s':Shared):Prop:=∃ v H',Inv X pins σ H' s'/\RelV v u/\Q v H'
noncomputable def TP (X:Cx) (pins:List (Addr×Obj)) (σ:St) (Q:Bool->Hp->Prop) (b:Bool) (s':Shared):Prop:=∃ H',Inv X pins σ H' s'/\Q b H'
noncomputable def AP (X:Cx) (pins:List (Addr×Obj)) (σ:St) (Q:List V->Hp->Prop) (us:List Value) (s':Shared):Prop:=∃ vs H',Inv X pins σ H' s'/\Vals vs us/\Q vs H'
noncomputable def SP (X:Cx) (pins:List (Addr×Obj)) (D:Ends) (f:Flow) (s':Shared):Prop:=
 match f with
 | .next=>∃ σ' H',Inv X pins σ' H' s'/\D.nx σ' H'
 | .brk=>∃ σ' H',Inv X pins σ' H' s'/\D.bk σ' H'
 | .cont=>∃ σ' H',Inv X pins σ' H' s'/\D.ct σ' H'
 | .ret u=>∃ v σ' H',Inv X pins σ' H' s'/\RelV v u/\D.rt v H'
noncomputable def PE (X:Cx) (e:Expr) (t:TE):Prop:=
 ∀ (pins:List (Addr×Obj)) (s:Shared) (σ:St) (H:Hp) (Q:VK),Inv X pins σ H s->t σ H Q->wpAny (model X.prog X.w) X.A (eval e X.env) (EP X pins σ Q) X.xe s
noncomputable def PT (X:Cx) (e:Expr) (t:TT):Prop:=
 ∀ (pins:List (Addr×Obj)) (s:Shared) (σ:St) (H:Hp) (Q:Bool->Hp->Prop),Inv X pins σ H s->t σ H Q->wpAny (model X.prog X.w) X.A (isTrue e X.env (eval e X.env)) (TP X pins σ Q) X.xe s
noncomputable def PW (X:Cx) (e:Expr) (t:TT):Prop:=
 ∀ (whole:Sem Value) (pins:List (Addr×Obj)) (s:Shared) (σ:St) (H:Hp) (Q:Bool->Hp->Prop),Inv X pins σ H s->t σ H Q->wpAny (model X.prog X.w) X.A (isTrue e X.env whole) (TP X pins σ Q) X.xe s
theorem PW.pt {X:Cx} {e:Expr} {t:TT} (h:PW X e t):PT X e t:=h _
noncomputable def PA (X:Cx) (es:List Expr) (t:TA):Prop:=
 ∀ (pos:Pos) (pins:List (Addr×Obj)) (s:Shared) (σ:St) (H:Hp) (Q:List V->Hp->Prop),Inv X pins σ H s->t σ H Q->wpAny (model X.prog X.w) X.A (spliced (backTo pos (starEach es X.env))) (AP X pins σ Q) X.xe s
noncomputable def PS (X:Cx) (st:Stmt) (t:TS):Prop:=
 ∀ (pins:List (Addr×Obj)) (s:Shared) (σ:St) (H:Hp) (D:Ends),Inv X pins σ H s->t D σ H->wpAny (model X.prog X.w) X.A (exec st X.env) (SP X pins D) X.xe s
noncomputable def PSs (X:Cx) (st:List Stmt) (t:TS):Prop:=
 ∀ (pins:List (Addr×Obj)) (s:Shared) (σ:St) (H:Hp) (D:Ends),Inv X pins σ H s->t D σ H->wpAny (model X.prog X.w) X.A (execs st X.env) (SP X pins D) X.xe s
theorem thn {α:Type} {t:Sem α} {Q Q':α->Shared->Prop} {M:Model} {A:Around} {E:Value->Shared->Prop} {s:Shared} (h:wpAny M A t Q E s) (hQ:∀ a s,Q a s->Q' a s):wpAny M A t Q' E s:=Z0 h hQ λ_ _ x=>x
end L2
namespace L2
open PySem PySem.Spec PyProof.Rows
section
variable {X:Cx}
noncomputable def AA (i:Nat):TE:=λσ H Q=>∃ v,σ[i]?=some (some v)/\Q v H
noncomputable def tC (v:V):TE:=λ_ H Q=>Q v H
theorem Rx {i:Nat} {x:Str} {pos:Pos} (hN:X.N[i]?=some x) (hv:Vis X.env.scope x) (hd:(x == ("__debug__" : Str))=false:=by decide) (hcd:(x == ("__classdict__" : Str))=false:=by decide):PE X (.Name x pos) (AA i):=by
 intro pins s σ H Q I h
 obtain ⟨v,e,h⟩:=h
 obtain ⟨m,hn,hl⟩:=I.loc
 obtain ⟨u,r,l⟩:=hl i x v hN e hv
 have fin:EP X pins σ Q u s:=⟨v,H,I,r,h⟩
 rcases l with ⟨hk,hm⟩ | ⟨hk,c,hc,hcell⟩
 ·exact wpAny_Name (wpAny_loadName_local I.ok.kind hk hn hm fin) hd
 ·rcases hk with hk | hk
  ·exact wpAny_Name (wpAny_loadName_cell I.ok.kind hk hc hcell fin) hd
  ·exact wpAny_Name (wpAny_loadName_free I.ok.kind hk hc hcell fin hcd) hd
theorem AD {i j pos}:PE X (.Constant (.int i) j pos) (tC (.int i)):=λ_ _ _ H _ I h=>wpAny_Constant_int ⟨.int i,H,I.tok _,⟨_,rfl⟩,h⟩
theorem Fu {b j pos}:PE X (.Constant (.bool b) j pos) (tC (.bl b)):=λ_ _ _ H _ I h=>Constant_bool ⟨.bl b,H,I,rfl,h⟩
theorem CN {j pos}:PE X (.Constant .none j pos) (tC .non):=λ_ _ _ H _ I h=>Constant_none ⟨.non,H,I,rfl,h⟩
noncomputable def Gl (X:Cx) (x:Str):Prop:=X.env.kindOf x=some .globalImplicit
theorem Ll {E:Value->Shared->Prop} {pins:List (Addr×Obj)} {s:Shared} {σ:St} {H:Hp} {x:Str} {u:Value} {pos:Pos} {Q:Value->Shared->Prop} (I:Inv X pins σ H s) (hg:Gl X x) (hm:X.mg x=some u) (h:Q u s)
  (hd:(x == ("__debug__" : Str))=false:=by decide):wpAny (model X.prog X.w) X.A (eval (.Name x pos) X.env) Q E s:=
 Calls.Name_function_global I.ok.kind hg (Calls.loadGlobal_global (by rw [I.ok.glob];exact I.mod.glob.keeps I.bk) hm h) hd
theorem EE {E:Value->Shared->Prop} {pins:List (Addr×Obj)} {s:Shared} {σ:St} {H:Hp} {x:Str} {u:Value} {pos:Pos} {Q:Value->Shared->Prop} (I:Inv X pins σ H s) (hg:Gl X x) (hm:X.mg x=none) (hv:bootBuiltins x=some u) (h:Q u s)
  (hn:x ≠ "__name__" := by decide) (hd:(x == ("__debug__" : Str))=false:=by decide):wpAny (model X.prog X.w) X.A (eval (.Name x pos) X.env) Q E s:=by
 obtain ⟨mb,h1,h2⟩:=I.mod.blt
 exact Calls.Name_function_global I.ok.kind hg (Calls.loadGlobal_builtin (by rw [I.ok.glob];exact I.mod.glob.keeps I.bk) hm (by rw [I.ok.blt];exact h1.keeps I.bk) ((h2 x hn).trans hv) h) hd
theorem Ry {x:Str} {v:V} {u:Value} {pos:Pos} (hg:Gl X x) (hm:X.mg x=some u) (r:RelV v u) (hd:(x == ("__debug__" : Str))=false:=by decide):PE X (.Name x pos) (tC v):=
 λ_ _ _ H _ I h=>Ll I hg hm ⟨v,H,I,r,h⟩ hd
theorem Lm {x:Str} {v:V} {u:Value} {pos:Pos} (hg:Gl X x) (hm:X.mg x=none) (hv:bootBuiltins x=some u) (r:RelV v u) (hn:x ≠ "__name__" := by decide) (hd:(x == ("__debug__" : Str))=false:=by decide):PE X (.Name x pos) (tC v):=
 λ_ _ _ H _ I h=>EE I hg hm hv ⟨v,H,I,r,h⟩ hn hd
variable {a b:Expr} {ta tb:TE} {pos:Pos}
noncomputable def tB (t:TE):TT:=λσ H Q=>t σ H λx H1=>∃ c,x=.bl c/\Q c H1
theorem Et {e:Expr} {t:TE} (h:PE X e t) (he:∀ whole,isTrue e X.env whole=(do let v <-whole;standAt e.pos;holding [v] (truthy v)):=by intro _;rfl):PT X e (tB t):=by
 intro pins s σ H Q I hw
 refine isTrue_plain (thn (h pins s σ H _ I hw) λv s1 ⟨x,H1,I1,r1,q1⟩=>?_) (he _)
 obtain ⟨d,rfl,q⟩:=q1
 cases r1
 exact wpAny_truthy_bool ⟨H1,I1,q⟩
variable {tA tB':TT} {rest:List Expr}
noncomputable def DT (t u:TT):TT:=λσ H Q=>t σ H λc H1=>if c=true then u σ H1 Q else Q false H1
noncomputable def tOr (t u:TT):TT:=λσ H Q=>t σ H λc H1=>if c=true then Q true H1 else u σ H1 Q
noncomputable def Gb (t:TT):TT:=λσ H Q=>t σ H λc H1=>Q (!c) H1
theorem EF (ha:PT X a tA):PW X (.BoolOp .And [a] pos) tA:=by
 intro wh pins s σ H Q I h
 refine isTrue_and (thn (ha pins s σ H Q I h) λc s1 e=>?_)
 cases c with
 | true=>exact isTrue_and_nil e
 | false=>exact e
theorem Hb (ha:PT X a tA):PW X (.BoolOp .Or [a] pos) tA:=by
 intro wh pins s σ H Q I h
 refine isTrue_or (thn (ha pins s σ H Q I h) λc s1 e=>?_)
 cases c with
 | false=>exact isTrue_or_nil e
 | true=>exact e
theorem Dw (ha:PT X a tA) (hb:PW X (.BoolOp .And (b::rest) pos) tB'):PW X (.BoolOp .And (a::b::rest) pos) (DT tA tB'):=by
 intro wh pins s σ H Q I h
 refine isTrue_and (thn (ha pins s σ H _ I h) λc s1 ⟨H1,I1,q1⟩=>?_)
 cases c with
 | true=>exact hb wh pins s1 σ H1 Q I1 q1
 | false=>exact ⟨H1,I1,q1⟩
theorem Gc (ha:PT X a tA) (hb:PW X (.BoolOp .Or (b::rest) pos) tB'):PW X (.BoolOp .Or (a::b::rest) pos) (tOr tA tB'):=by
 intro wh pins s σ H Q I h
 refine isTrue_or (thn (ha pins s σ H _ I h) λc s1 ⟨H1,I1,q1⟩=>?_)
 cases c with
 | true=>exact ⟨H1,I1,q1⟩
 | false=>exact hb wh pins s1 σ H1 Q I1 q1
theorem JL (ha:PT X a tA):PT X (.UnaryOp .Not a pos) (Gb tA):=by
 intro pins s σ H Q I h
 exact isTrue_not (ha pins s σ H (λc H1=>Q (!c) H1) I h)
noncomputable def JM (ta tb:TE):TE:=λσ H Q=>ta σ H λx H1=>∃ c,x=.bl c/\if c=true then tb σ H1 Q else Q (.bl false) H1
noncomputable def Hf (ta tb:TE):TE:=λσ H Q=>ta σ H λx H1=>∃ c,x=.bl c/\if c=true then Q (.bl true) H1 else tb σ H1 Q
noncomputable def Rz (ta:TE):TE:=λσ H Q=>ta σ H λx H1=>∃ c,x=.bl c/\Q (.bl (!c)) H1
theorem JN {op} {t:TE} (h:PE X a t):PE X (.BoolOp op [a] pos) t:=λpins s σ H Q I hw=>BoolOp_one (h pins s σ H Q I hw)
theorem R3 (ha:PE X a ta) (hb:PE X (.BoolOp .And (b::rest) pos) tb):PE X (.BoolOp .And (a::b::rest) pos) (JM ta tb):=by
 intro pins s σ H Q I h
 refine BoolOp_and (thn (ha pins s σ H _ I h) λv s1 ⟨x,H1,I1,r1,q1⟩=>?_)
 obtain ⟨c,rfl,q1⟩:=q1
 cases r1
 refine wpAny_truthy_bool ?_
 cases c with
 | true=>exact hb pins s1 σ H1 Q I1 q1
 | false=>exact ⟨.bl false,H1,I1,rfl,q1⟩
theorem Ln (ha:PE X a ta) (hb:PE X (.BoolOp .Or (b::rest) pos) tb):PE X (.BoolOp .Or (a::b::rest) pos) (Hf ta tb):=by
 intro pins s σ H Q I h
 refine BoolOp_or (thn (ha pins s σ H _ I h) λv s1 ⟨x,H1,I1,r1,q1⟩=>?_)
 obtain ⟨c,rfl,q1⟩:=q1
 cases r1
 refine wpAny_truthy_bool ?_
 cases c with
 | false=>exact hb pins s1 σ H1 Q I1 q1
 | true=>exact ⟨.bl true,H1,I1,rfl,q1⟩
noncomputable def tIf (t:TT) (ta tb:TE):TE:=λσ H Q=>t σ H λc H1=>if c=true then ta σ H1 Q else tb σ H1 Q
theorem Fv {c:Expr} (hc:PT X c tA) (ha:PE X a ta) (hb:PE X b tb):PE X (.IfExp c a b pos) (tIf tA ta tb):=by
 intro pins s σ H Q I h
 refine wpAny_IfExp (thn (hc pins s σ H _ I h) λd s1 ⟨H1,I1,q1⟩=>?_)
 cases d with
 | true=>exact ha pins s1 σ H1 Q I1 q1
 | false=>exact hb pins s1 σ H1 Q I1 q1
end
end L2
namespace L2
open PySem PySem.Spec PyProof.Rows
noncomputable def SqL (K:PySem.W.Frag) (H:Hp) (a:Addr) (xs:List V):Prop:=
 Rd H a (.lst xs)\/
  ∃ (o:Obj) (its:Array Value) (n:Nat),K.lookup a=some o/\o.cls=.type "list" /\ o.dict=none/\o.data=.seq its n/\its.size<=sizeLine/\Vals xs its.toList
noncomputable def SqT (K:PySem.W.Frag) (H:Hp) (a:Addr) (xs:List V):Prop:=
 Rd H a (.tup xs)\/
  ∃ (o:Obj) (its:Array Value) (n:Nat),K.lookup a=some o/\o.cls=.type "tuple" /\ o.data=.seq its n/\its.size<=sizeLine/\Vals xs its.toList
noncomputable def R4:Value->Option V
 | .none=>some .non
 | .bool b=>some (.bl b)
 | .int i _=>some (.int i)
 | .str x _=>some (.str x)
 | .bytes b _=>some (.byt b)
 | .float b _=>some (.flt b)
 | .ref a=>some (.ref a)
 | .type n=>some (.ty n)
 | _=>none
theorem RelV.abs {x:V} {u:Value} (r:RelV x u):R4 u=some x:=by
 cases x with
 | non=>cases r;rfl
 | bl _=>cases r;rfl
 | int _=>obtain ⟨t,rfl⟩:=r;rfl
 | str _=>obtain ⟨t,rfl⟩:=r;rfl
 | byt _=>obtain ⟨t,rfl⟩:=r;rfl
 | flt _=>obtain ⟨t,rfl⟩:=r;rfl
 | ref _=>cases r;rfl
 | ty _=>cases r;rfl
theorem RelV.inj {x y:V} {u:Value} (r:RelV x u) (q:RelV y u):x=y:=Z1 (r.abs.symm.trans q.abs)
theorem Vals.inj:∀ {xs ys:List V} {us:List Value},Vals xs us->Vals ys us->xs=ys
 | _,_,_,.nil,.nil=>rfl
 | _,_,_,.cons r t,.cons r' t'=>by rw [r.inj r',Vals.inj t t']
section
variable {X:Cx} {pins:List (Addr×Obj)} {σ:St} {H:Hp} {s:Shared} {a:Addr} {xs ys:List V}
theorem SqL.of {K:PySem.W.Frag} (h:H a=some (.lst xs)):SqL K H a xs:=.inl (.inl h)
theorem SqT.of {K:PySem.W.Frag} (h:H a=some (.tup xs)):SqT K H a xs:=.inl (.inl h)
theorem Inv.list (I:Inv X pins σ H s) (h:SqL X.K H a xs):∃ its:List Value,Vals xs its/\PlainL s.heap a its.toArray/\xs.length<=sizeLine:=by
 rcases h with h | ⟨o,its,n,hk,hc,hd,hs,hz,r⟩
 ·obtain ⟨z,its,n,r,e⟩:=h.ok I.hok
  exact ⟨its,r,⟨_,n,e,rfl,rfl,rfl⟩,z⟩
 ·refine ⟨its.toList,r,⟨o,n,I.kIn a o hk,hc,hd,by simpa using hs⟩,?_⟩
  have e:=r.length
  simp only [Array.length_toList] at e
  omega
theorem Inv.tuple (I:Inv X pins σ H s) (h:SqT X.K H a xs):∃ its:List Value,Vals xs its/\IsTup s.heap a its.toArray/\xs.length<=sizeLine:=by
 rcases h with h | ⟨o,its,n,hk,hc,hs,hz,r⟩
 ·obtain ⟨z,its,r,p⟩:=h.ok I.hok
  exact ⟨its,r,p,z⟩
 ·refine ⟨its.toList,r,⟨o,I.kIn a o hk,hc,n,by simpa using hs⟩,?_⟩
  have e:=r.length
  simp only [Array.length_toList] at e
  omega
theorem Inv.list_inj (I:Inv X pins σ H s) (h:SqL X.K H a xs) (h':SqL X.K H a ys):xs=ys:=by
 obtain ⟨its,r,⟨o,n,e,_,_,d⟩,_⟩:=I.list h
 obtain ⟨its',r',⟨o',n',e',_,_,d'⟩,_⟩:=I.list h'
 rw [e] at e';cases e'
 rw [d] at d'
 injection d' with d1 _
 have:its=its':=by simpa using congrArg Array.toList d1
 subst this
 exact r.inj r'
theorem Inv.tuple_inj (I:Inv X pins σ H s) (h:SqT X.K H a xs) (h':SqT X.K H a ys):xs=ys:=by
 obtain ⟨its,r,⟨o,e,_,n,d⟩,_⟩:=I.tuple h
 obtain ⟨its',r',⟨o',e',_,n',d'⟩,_⟩:=I.tuple h'
 rw [e] at e';cases e'
 rw [d] at d'
 injection d' with d1 _
 have:its=its':=by simpa using congrArg Array.toList d1
 subst this
 exact r.inj r'
end
noncomputable abbrev Cx.wish (X:Cx) (E:Value->Shared->Prop):Cx:={ X with xe:=E }
noncomputable abbrev Cx.nox (X:Cx):Cx:=X.wish λ_ _=>False
theorem Cx.Ok.wish {X:Cx} (ok:X.Ok) (E:Value->Shared->Prop):(X.wish E).Ok:=
 ⟨ok.mod,ok.kind,ok.glob,ok.blt,ok.above,ok.inj,ok.has,ok.cab,ok.hd,ok.frames,ok.stk,ok.exf,ok.bs,ok.bsz,ok.noex,ok.exfs,ok.funs,ok.frf,ok.seer,ok.tree,ok.plr⟩
theorem Cx.Ok.unwish {X:Cx} {E:Value->Shared->Prop} (ok:(X.wish E).Ok):X.Ok:=
 ⟨ok.mod,ok.kind,ok.glob,ok.blt,ok.above,ok.inj,ok.has,ok.cab,ok.hd,ok.frames,ok.stk,ok.exf,ok.bs,ok.bsz,ok.noex,ok.exfs,ok.funs,ok.frf,ok.seer,ok.tree,ok.plr⟩
section
variable {X:Cx} {pins:List (Addr×Obj)} {σ:St} {H:Hp} {s:Shared} {E:Value->Shared->Prop}
theorem Inv.wish (I:Inv X pins σ H s) (E:Value->Shared->Prop):Inv (X.wish E) pins σ H s:=⟨I.ok.wish E,I.os,I.bare,I.base,I.loc,I.cell,I.free,I.freeC,I.pin,I.hok,I.len⟩
theorem Inv.unwish (I:Inv (X.wish E) pins σ H s):Inv X pins σ H s:=⟨I.ok.unwish,I.os,I.bare,I.base,I.loc,I.cell,I.free,I.freeC,I.pin,I.hok,I.len⟩
theorem SP.unwish {D:Ends} {f:Flow} {s':Shared} (h:SP (X.wish E) pins D f s'):SP X pins D f s':=by
 cases f with
 | next=>obtain ⟨σ',H',I,q⟩:=h;exact ⟨σ',H',I.unwish,q⟩
 | brk=>obtain ⟨σ',H',I,q⟩:=h;exact ⟨σ',H',I.unwish,q⟩
 | cont=>obtain ⟨σ',H',I,q⟩:=h;exact ⟨σ',H',I.unwish,q⟩
 | ret u=>obtain ⟨v,σ',H',I,r,q⟩:=h;exact ⟨v,σ',H',I.unwish,r,q⟩
theorem PSs.nox {st:List Stmt} {t:TS} (h:PSs X.nox st t):PSs X st t:=λpins s σ H D I hw=>
 Z0 (h pins s σ H D (I.wish _) hw) (λ_ _ q=>q.unwish) λ_ _ z=>False.elim z
end
section
variable {X:Cx} {st:Stmt} {rest:List Stmt} {t u:TS} {e:Expr} {te:TE} {pos:Pos}
noncomputable def BA:TS:=λD σ H=>D.nx σ H
noncomputable def AG (t u:TS):TS:=λD σ H=>t { D with nx:=u D } σ H
theorem BH:PSs X [] BA:=λ_ _ σ H _ I h=>wpAny_execs_nil ⟨σ,H,I,h⟩
theorem AH (h1:PS X st t) (h2:PSs X rest u):PSs X (st::rest) (AG t u):=by
 intro pins s σ H D I h
 refine wpAny_execs_cons (thn (h1 pins s σ H { D with nx:=u D } I h) λf s1 q=>?_)
 cases f with
 | next=>
   obtain ⟨σ',H',I',q⟩:=q
   exact h2 pins s1 σ' H' D I' q
 | ret v=>exact q
 | brk=>exact q
 | cont=>exact q
theorem AM (h1:PS X st t):PSs X [st] t:=by
 intro pins s σ H D I h
 refine wpAny_execs_cons (thn (h1 pins s σ H D I h) λf s1 q=>?_)
 cases f with
 | next=>exact wpAny_execs_nil q
 | ret v=>exact q
 | brk=>exact q
 | cont=>exact q
theorem Inv.quiet {pins:List (Addr×Obj)} {σ:St} {H:Hp} {s:Shared} (I:Inv X pins σ H s):interactive X.env=false:=by simp [interactive,I.ok.kind]
noncomputable def EZ (te:TE):TS:=λD σ H=>te σ H λ_ H1=>D.nx σ H1
theorem Fw (he:PE X e te) (hs:swapsWith e none pos.line X.env=pure false:=by rfl):PS X (.Expr e pos) (EZ te):=by
 intro pins s σ H D I h
 exact wpAny_Expr_any (thn (he pins s σ H _ I h) λv s1 ⟨x,H1,I1,r1,q1⟩=>⟨σ,H1,I1,q1⟩) I.quiet hs
noncomputable def AZ (te:TE):TS:=λD σ H=>te σ H D.rt
theorem Ad (he:PE X e te):PS X (.Return (some e) pos) (AZ te):=by
 intro pins s σ H D I h
 exact wpAny_Return_some (thn (he pins s σ H _ I h) λv s1 ⟨x,H1,I1,r1,q1⟩=>⟨x,σ,H1,I1,r1,q1⟩)
noncomputable def A5 (c:TT) (t u:TS):TS:=λD σ H=>c σ H λb H1=>if b=true then t D σ H1 else u D σ H1
theorem BD {c:Expr} {a b:List Stmt} {tc:TT} (hc:PT X c tc) (ha:PSs X a t) (hb:PSs X b u):PS X (.If c a b pos) (A5 tc t u):=by
 intro pins s σ H D I h
 refine wpAny_If (thn (hc pins s σ H _ I h) λd s1 ⟨H1,I1,q1⟩=>?_)
 cases d with
 | true=>exact ha pins s1 σ H1 D I1 q1
 | false=>exact hb pins s1 σ H1 D I1 q1
end
noncomputable abbrev TG:=V->St->Hp->(St->Hp->Prop)->Prop
noncomputable abbrev TGs:=List V->St->Hp->(St->Hp->Prop)->Prop
noncomputable def PG (X:Cx) (target:Expr) (t:TG):Prop:=
 ∀ (pins:List (Addr×Obj)) (s:Shared) (σ:St) (H:Hp) (v:V) (u:Value) (Q:St->Hp->Prop),Inv X pins σ H s->RelV v u->t v σ H Q->
   wpAny (model X.prog X.w) X.A (assign target X.env u) (λ_ s'=>∃ σ' H',Inv X pins σ' H' s'/\Q σ' H') X.xe s
noncomputable def PGs (X:Cx) (ts:List Expr) (t:TGs):Prop:=
 ∀ (pins:List (Addr×Obj)) (s:Shared) (σ:St) (H:Hp) (vs:List V) (us:List Value) (Q:St->Hp->Prop),Inv X pins σ H s->Vals vs us->t vs σ H Q->
   wpAny (model X.prog X.w) X.A (assignInOrder ((assignEach ts X.env).map (·.2)) us) (λ_ s'=>∃ σ' H',Inv X pins σ' H' s'/\Q σ' H') X.xe s
noncomputable abbrev TSet:=V->V->V->Hp->(Hp->Prop)->Prop
noncomputable def PSet (X:Cx) (t:TSet):Prop:=
 ∀ (pins:List (Addr×Obj)) (s:Shared) (σ:St) (H:Hp) (o i v:V) (ov iv u:Value) (Q:Hp->Prop),Inv X pins σ H s->RelV o ov->RelV i iv->RelV v u->t o i v H Q->
   wpAny (model X.prog X.w) X.A (setItem ov iv u) (λ_ s'=>∃ H',Inv X pins σ H' s'/\Q H') X.xe s
noncomputable abbrev TIp:=V->V->Hp->VK->Prop
noncomputable def PIp (X:Cx) (op:Operator) (t:TIp):Prop:=
 ∀ (pins:List (Addr×Obj)) (s:Shared) (σ:St) (H:Hp) (x y:V) (v u:Value) (Q:VK),Inv X pins σ H s->RelV x v->RelV y u->t x y H Q->
   wpAny (model X.prog X.w) X.A (inplaceOp op v u) (EP X pins σ Q) X.xe s
section
variable {X:Cx} {pos:Pos}
noncomputable def AF (i:Nat):TG:=λv σ H Q=>Q (σ.set i (some v)) H
theorem Ao {i:Nat} {x:Str} (hN:X.N.Nodup) (hi:X.N[i]?=some x) (hx:Loc X.env.scope x) (hf:X.fn x=true\/X.env.scope.names.lookup x=some .local:=by first | exact .inl rfl | exact .inr rfl | assumption):PG X (.Name x pos) (AF i):=by
 intro pins s σ H v u Q I r h
 exact wpAny_assign_Name (Ga I hN hi hx r (λs' I'=>⟨_,H,I',h⟩) hf)
noncomputable def Dg:TGs:=λvs σ H Q=>vs=[]/\Q σ H
noncomputable def CC (t:TG) (u:TGs):TGs:=λvs σ H Q=>∃ v r,vs=v::r/\t v σ H λσ' H'=>u r σ' H' Q
theorem Ea:PGs X [] Dg:=by
 intro pins s σ H vs us Q I r h
 obtain ⟨e,h⟩:=h
 subst e
 cases r
 exact assignInOrder_nil ⟨σ,H,I,h⟩
theorem CW {e:Expr} {es:List Expr} {t:TG} {u:TGs} (h1:PG X e t) (h2:PGs X es u)
  (hs:(assignEach (e::es) X.env).map (·.2)=assign e X.env::(assignEach es X.env).map (·.2):=by rfl):PGs X (e::es) (CC t u):=by
 intro pins s σ H vs us Q I r h
 obtain ⟨v,vr,e1,h⟩:=h
 subst e1
 cases r with
 | cons r rr=>
   rw [hs]
   refine assignInOrder_cons (thn (h1 pins s σ H _ _ _ I r h) λ_ s1 ⟨σ1,H1,I1,q1⟩=>?_)
   exact h2 pins s1 σ1 H1 _ _ Q I1 rr q1
noncomputable def R5 (K:PySem.W.Frag) (n:Nat) (t:TGs):TG:=λv σ H Q=>∃ a xs,v=.ref a/\SqT K H a xs/\xs.length=n/\t xs σ H Q
theorem R6 {es:List Expr} {k:Nat} {t:TGs} {n:Nat} (hc:X.calm=true) (h:PGs X es t)
  (hn:(assignEach es X.env).length=n:=by rfl) (hst:(assignEach es X.env).findIdx? (·.1)=none:=by rfl):PG X (.Tuple es k pos) (R5 X.K n t):=by
 intro pins s σ H v u Q I r hw
 obtain ⟨a,xs,e1,hq,hl,hw⟩:=hw
 subst e1
 cases r
 obtain ⟨its,rv,ht,hz⟩:=I.tuple hq
 refine assign_Tuple_tuple (I.ok.hd hc) ht (by simp [hn,<-hl,rv.length]) hst λh' hx=>?_
 have I1:Inv X pins σ H { s with heap:=h' }:=I.kept (t':=s.toks) λb o e=>hx b o (Bo (Z2 e)) e
 exact h pins _ σ H xs _ Q I1 (by simpa using rv) hw
noncomputable def EG (to ti:TE) (t:TSet):TG:=λv σ H Q=>to σ H λo H1=>ti σ H1 λi H2=>t o i v H2 λH3=>Q σ H3
theorem Eu {o i:Expr} {to ti:TE} {t:TSet} (ho:PE X o to) (hi:PE X i ti) (hs:PSet X t)
  (ha:∀ v,assign (.Subscript o i pos) X.env v=(do
   let ov <-holding [v] (eval o X.env)
   let iv <-holding [v,ov] (eval i X.env)
   standAt pos
   holding [v,ov,iv] (setItem ov iv v)
   release [v,ov,iv] []):=by intro _;rfl):PG X (.Subscript o i pos) (EG to ti t):=by
 intro pins s σ H v u Q I r h
 rw [ha]
 refine Zy (wpAny_holding (thn (ho pins s σ H _ I h) λov s1 ⟨x,H1,I1,r1,q1⟩=>?_))
 refine Zy (wpAny_holding (thn (hi pins s1 σ H1 _ I1 q1) λiv s2 ⟨y,H2,I2,r2,q2⟩=>?_))
 refine Zy (wpAny_standAt (Zy (wpAny_holding (thn (hs pins s2 σ H2 x y v ov iv u _ I2 r1 r2 r q2) λ_ s3 ⟨H3,I3,q3⟩=>?_))))
 exact wpAny_release ⟨σ,H3,I3,q3⟩
noncomputable def AJ (te:TE) (g:TG):TS:=λD σ H=>te σ H λx H1=>g x σ H1 D.nx
theorem Dx {tg e:Expr} {te:TE} {g:TG} (he:PE X e te) (hg:PG X tg g) (hs:swapsWithSole [tg] e pos.line X.env=pure false:=by rfl) (hw:swappedStores [tg] e X.env=pure none:=by rfl)
  (h1:(assignEach [tg] X.env).map (·.2)=[assign tg X.env]:=by rfl):PS X (.Assign [tg] e pos) (AJ te g):=by
 intro pins s σ H D I h
 refine wpAny_Assign_stores (thn (he pins s σ H _ I h) λv s1 ⟨x,H1,I1,r1,q1⟩=>?_) hs hw
 rw [h1]
 exact thn (hg pins s1 σ H1 x v _ I1 r1 q1) λ_ s2 q=>q
theorem Dy {i:Nat} {x:Str} {e:Expr} {te:TE} {pos':Pos} (hN:X.N.Nodup) (hi:X.N[i]?=some x) (hx:Loc X.env.scope x) (he:PE X e te) (hs:swapsWith e (some (.Name x pos')) pos.line X.env=pure false:=by rfl) (hf:X.fn x=true\/X.env.scope.names.lookup x=some .local:=by first | exact .inl rfl | exact .inr rfl | assumption) :
  PS X (.Assign [.Name x pos'] e pos) (AJ te (AF i)):=by
 intro pins s σ H D I h
 refine wpAny_Assign_Name (thn (he pins s σ H _ I h) λv s1 ⟨y,H1,I1,r1,q1⟩=>?_) hs
 exact Ga I1 hN hi hx r1 (λs2 I2=>⟨_,H1,I2,q1⟩) hf
noncomputable def Ge (i j:Nat) (ta:TA):TS:=λD σ H=>ta σ H λvs H1=>∃ v w,vs=[v,w]/\D.nx ((σ.set i (some v)).set j (some w)) H1
theorem JO {i j:Nat} {x y:Str} {a b:Expr} {ta:TA} {px py pt:Pos} {kt k2 pt2} (hc:X.calm=true) (hN:X.N.Nodup) (hi:X.N[i]?=some x) (hj:X.N[j]?=some y) (hij:i≠j)
  (hx:X.env.scope.names.lookup x=some .local) (hy:X.env.scope.names.lookup y=some .local) (ha:PA X [a,b] ta)
  (hw:swappedStores [.Tuple [.Name x px,.Name y py] kt pt] (.Tuple [a,b] k2 pt2) X.env=pure (some [x,y]))
  (hs:swapsWithSole [.Tuple [.Name x px,.Name y py] kt pt] (.Tuple [a,b] k2 pt2) pos.line X.env=pure false:=by rfl) :
  PS X (.Assign [.Tuple [.Name x px,.Name y py] kt pt] (.Tuple [a,b] k2 pt2) pos) (Ge i j ta):=by
 intro pins s σ H D I h
 rw [exec_Assign_arm]
 refine Zy (wpAny_standAt ?_)
 rw [hs]
 refine Zy (Zz ?_)
 rw [Zt ∅]
 refine Zy (Tuple_ (thn (ha _ pins s σ H _ I h) λus s1 ⟨vs,H1,I1,r1,q1⟩=>?_))
 obtain ⟨v,w,e1,q1⟩:=q1
 subst e1
 obtain ⟨u1,u2,rfl,rv,rw'⟩:∃ u1 u2,us=[u1,u2]/\RelV v u1/\RelV w u2:=by
  cases r1 with
  | cons p q=>
    cases q with
    | cons p' q'=>
      cases q'
      exact ⟨_,_,rfl,p,p'⟩
 refine wpAny_newObj_type ?_ (by show 2<=sizeLine;decide)
 have I2:Inv X pins σ H1 { s1 with heap:=s1.heap.push { cls:=.type "tuple", data:=.seq [u1,u2].toArray } }:=I1.kept (t':=s1.toks) λb o e=>Heap.get?_push_of_some _ e
 rw [hw]
 refine Zy (Zz ?_)
 show wpAny (model X.prog X.w) X.A (do rule "assign.swapped-stores"; let items <-unpackItems (.ref s1.heap.objs.size) 2 none;assignInOrder [λv=>bindName X.env y v,λv=>bindName X.env x v] items.reverse;pure Flow.next) _ _ _
 refine Zy (wpAny_rule (Zy (unpackItems_tuple (items:=#[u1,u2]) (I.ok.hd hc) (IsTup.new s1.heap _) λh' hx'=>?_)))
 have I3:=I2.kept (h':=h') (t':=s1.toks) λb o e=>hx' b o (Bo (Z2 e)) e
 show wpAny _ _ (assignInOrder [λv=>bindName X.env y v,λv=>bindName X.env x v] [u2,u1] >>= λ_=>pure Flow.next) _ _ _
 refine Zy (assignInOrder_cons (wpAny_bindName (Ga I3 hN hj (.inl hy) rw' (λs2 I4=>?_) (.inr hy))))
 refine assignInOrder_cons (wpAny_bindName (Ga I4 hN hi (.inl hx) rv (λs3 I5=>assignInOrder_nil (Zz ?_)) (.inr hx)))
 rw [List.set_comm _ _ (Ne.symm hij)] at I5
 exact ⟨_,H1,I5,q1⟩
noncomputable def DL (i:Nat) (te:TE) (ti:TIp):TS:=λD σ H=>∃ x,σ[i]?=some (some x)/\te σ H λy H1=>ti x y H1 λz H2=>D.nx (σ.set i (some z)) H2
theorem Dh {i:Nat} {x:Str} {e:Expr} {te:TE} {op:Operator} {ti:TIp} {pos':Pos} (hN:X.N.Nodup) (hi:X.N[i]?=some x) (hx:Loc X.env.scope x) (he:PE X e te) (ho:PIp X op ti) (hf:X.fn x=true\/X.env.scope.names.lookup x=some .local:=by first | exact .inl rfl | exact .inr rfl | assumption) :
  PS X (.AugAssign (.Name x pos') op e pos) (DL i te ti):=by
 intro pins s σ H D I h
 obtain ⟨v,e1,h⟩:=h
 obtain ⟨m,hn,hl⟩:=I.loc
 have vis:Vis X.env.scope x:=by rcases hx with k | k;exact .inl k;exact .inr (.inl k)
 obtain ⟨u,r,l⟩:=hl i x v hi e1 vis
 refine wpAny_AugAssign_Name ?_
 have go:wpAny (model X.prog X.w) X.A (eval e X.env) (λw s₂=>wpAny (model X.prog X.w) X.A (inplaceOp op u w) (λr s₃=>wpAny (model X.prog X.w) X.A (storeName X.env x r) (λ_=>SP X pins D .next) X.xe s₃) X.xe s₂) X.xe s:=by
  refine thn (he pins s σ H _ I h) λw s1 ⟨y,H1,I1,r1,q1⟩=>?_
  refine thn (ho pins s1 σ H1 v y u w _ I1 r r1 q1) λz s2 ⟨zv,H2,I2,r2,q2⟩=>?_
  exact Ga I2 hN hi hx r2 (λs3 I3=>⟨_,H2,I3,q2⟩) hf
 rcases l with ⟨hk,hm⟩ | ⟨hk,c,hc,hcell⟩
 ·exact wpAny_loadName_local I.ok.kind hk hn hm go
 ·rcases hk with hk | hk
  ·exact wpAny_loadName_cell I.ok.kind hk hc hcell go
  ·rcases hx with k | k
   ·have:X.env.scope.names.lookup x=some .free:=hk
    rw [k] at this;cases this
   ·have:X.env.scope.names.lookup x=some .free:=hk
    rw [k] at this;cases this
noncomputable def Ev (to ti te:TE) (tget:V->V->Hp->VK->Prop) (tip:TIp) (tset:TSet):TS:=λD σ H=>to σ H λo H1=>ti σ H1 λi H2=>tget o i H2 λx H3=>te σ H3 λy H4=>tip x y H4 λz H5=>tset o i z H5 λH6=>D.nx σ H6
noncomputable def PGet (X:Cx) (t:V->V->Hp->VK->Prop):Prop:=
 ∀ (pins:List (Addr×Obj)) (s:Shared) (σ:St) (H:Hp) (o i:V) (ov iv:Value) (Q:VK),Inv X pins σ H s->RelV o ov->RelV i iv->t o i H Q->
   wpAny (model X.prog X.w) X.A (getItem ov iv) (EP X pins σ Q) X.xe s
theorem Fx {o i e:Expr} {to ti te:TE} {tget:V->V->Hp->VK->Prop} {tip:TIp} {tset:TSet} {op:Operator} {tpos:Pos} (ho:PE X o to) (hi:PE X i ti) (hg:PGet X tget) (he:PE X e te) (hp:PIp X op tip) (hs:PSet X tset)
  (ha:∀ ov iv new,augStore i ov iv new=(do holding [new,ov,iv] (setItem ov iv new);release [new,ov,iv] [];pure .next):=by intros;rfl):PS X (.AugAssign (.Subscript o i tpos) op e pos) (Ev to ti te tget tip tset):=by
 intro pins s σ H D I h
 refine wpAny_AugAssign_SubscriptAny (thn (ho pins s σ H _ I h) λov s1 ⟨x1,H1,I1,r1,q1⟩=>?_) ha
 refine thn (hi pins s1 σ H1 _ I1 q1) λiv s2 ⟨x2,H2,I2,r2,q2⟩=>?_
 refine thn (hg pins s2 σ H2 x1 x2 ov iv _ I2 r1 r2 q2) λold s3 ⟨x3,H3,I3,r3,q3⟩=>?_
 refine thn (he pins s3 σ H3 _ I3 q3) λv s4 ⟨x4,H4,I4,r4,q4⟩=>?_
 refine thn (hp pins s4 σ H4 x3 x4 old v _ I4 r3 r4 q4) λnew s5 ⟨x5,H5,I5,r5,q5⟩=>?_
 exact thn (hs pins s5 σ H5 x1 x2 x5 ov iv new _ I5 r1 r2 r5 q5) λ_ s6 ⟨H6,I6,q6⟩=>⟨σ,H6,I6,q6⟩
end
section
variable {X:Cx} {pos:Pos}
noncomputable def Dz (c:TT) (tb:TS):TS:=λD σ H=>∃ W:Nat->St->Hp->Prop,(∃ m,W m σ H)/\∀ m σ H,W m σ H->
 c σ H λb H1=>if b=true then ∃ N:St->Hp->Prop,(∀ σ' H',N σ' H'->∃ m',m'<m/\W m' σ' H')/\tb { D with nx:=N,ct:=N,bk:=D.nx } σ H1 else D.nx σ H1
theorem Eb {c:Expr} {body:List Stmt} {tc:TT} {tb:TS} (hp:PassesOwn (model X.prog X.w) X.A X.env X.xe) (hc:PT X c tc) (hb:PSs X body tb):PS X (.While c body [] pos) (Dz tc tb):=by
 intro pins s σ H D I h
 obtain ⟨W,⟨m0,w0⟩,turn⟩:=h
 refine wpAny_While (codeAny_whileLoop (λn s'=>∃ σ' H',Inv X pins σ' H' s'/\W n σ' H') ?_ m0 ⟨σ,H,I,w0⟩)
 rintro n s1 ⟨σ1,H1,I1,w1⟩
 refine wpAny_passesOwn hp (thn (hc pins s1 σ1 H1 _ I1 (turn n σ1 H1 w1)) λb s2 ⟨H2,I2,q2⟩=>?_)
 cases b with
 | true=>
   obtain ⟨N,hN,q2⟩:=q2
   rw [Zu rfl]
   refine wpAny_passesOwn hp (thn (hb pins s2 σ1 H2 _ I2 q2) λf s3 q3=>?_)
   cases f with
   | next=>
     obtain ⟨σ3,H3,I3,n3⟩:=q3
     obtain ⟨m',hm,w3⟩:=hN σ3 H3 n3
     exact ⟨m',hm,σ3,H3,I3,w3⟩
   | cont=>
     obtain ⟨σ3,H3,I3,n3⟩:=q3
     obtain ⟨m',hm,w3⟩:=hN σ3 H3 n3
     exact ⟨m',hm,σ3,H3,I3,w3⟩
   | brk=>exact q3
   | ret v=>exact q3
 | false=>
   rw [Zt Ca]
   exact wpAny_execs_nil ⟨σ1,H2,I2,q2⟩
end
structure It where
 go:Nat->Hp->Prop
 yld:Nat->Hp->V->Hp->Prop
 stop:Nat->Hp->Prop
noncomputable def DM (X:Cx) (pins:List (Addr×Obj)) (H:Hp) (b:Addr):Prop:=
 H b=none/\b≠X.env.locals/\b∉X.fs/\(b∈X.ex\/X.s₀.heap.objs.size<=b)/\(∀ x c,X.env.cells.lookup x=some c->c≠b)/\∀ p∈X.pn++pins,p.1≠b
theorem Inv.fpOk {X:Cx} {pins:List (Addr×Obj)} {σ:St} {H H':Hp} {s:Shared} {b:Addr} (I:Inv X pins σ H s) (hb:s.heap.objs.size<=b) (hn:H' b=none):DM X pins H' b:=by
 refine ⟨hn,Nat.ne_of_gt (CO I.lt hb),I.nofs hb,.inr (Be I.sz hb),λx c e z=>?_,λp hp z=>?_⟩
 ·obtain ⟨v,q⟩:=I.cell x c e
  exact absurd (CO q.lt (by rw [z];exact hb)) (DF _)
 ·exact absurd (CO (Z2 (I.pin p hp).1) (by rw [z];exact hb)) (DF _)
structure Turn (P:Program) (w:World) (K:PySem.W.Frag) (tg:Expr) (J:It) (fp:List Addr) (it:Addr) (tn:Nat->Heap->Prop):Prop where
 mem:it∈fp
 obj:∀ i h,tn i h->∀ b∈fp,∃ o,h.get? b=some o/\∀ v,o.data≠.cell v
 keep:∀ i h h',tn i h->(∀ b∈fp,∀ o,h.get? b=some o->h'.get? b=some o)->tn i h'
 item:∀ (X:Cx),X.prog=P->X.w=w->X.K=K->X.calm=true->∀ (i:Nat) (pins:List (Addr×Obj)) (s:Shared) (σ:St) (H:Hp) (E:Value->Shared->Prop),Inv X pins σ H s->(∀ b∈fp,DM X pins H b)->tn i s.heap->J.go i H->
  wpAny (model P w) X.A (pyNext (.ref it)) (λr s1=>∃ u,r=some u/\
   wpAny (model P w) X.A (letOwnedTupleGo tg (.ref it) u) (λ_ s2=>∃ x H',Inv X pins σ H' s2/\RelV x u/\J.yld i H x H'/\tn (i+1) s2.heap/\∀ b∈fp,H' b=none) E s1) E s
 done:∀ (X:Cx),X.prog=P->X.w=w->X.K=K->X.calm=true->∀ (i:Nat) (pins:List (Addr×Obj)) (s:Shared) (σ:St) (H:Hp) (E:Value->Shared->Prop),Inv X pins σ H s->(∀ b∈fp,DM X pins H b)->tn i s.heap->J.stop i H->
  wpAny (model P w) X.A (pyNext (.ref it)) (λr s1=>r=none/\Inv X pins σ H s1) E s
 self:∀ (A:Around) (i:Nat) (s:Shared) (Q:Value->Shared->Prop) (E:Value->Shared->Prop),tn i s.heap->Q (.ref it) s->wpAny (model P w) A (pyIter (.ref it)) Q E s
noncomputable abbrev TI:=St->Hp->(It->Hp->Prop)->Prop
noncomputable def PIE (X:Cx) (pins:List (Addr×Obj)) (σ:St) (tg:Expr) (R:It->Hp->Prop) (itv:Value) (s2:Shared):Prop:=
 ∃ (it:Addr) (fp:List Addr) (tn:Nat->Heap->Prop) (J:It) (H':Hp),itv=.ref it/\Inv X pins σ H' s2/\Turn X.prog X.w X.K tg J fp it tn/\tn 0 s2.heap/\(∀ b∈fp,DM X pins H' b)/\R J H'
noncomputable def PI (X:Cx) (tg iter:Expr) (wi:TI):Prop:=
 ∀ (pins:List (Addr×Obj)) (s:Shared) (σ:St) (H:Hp) (R:It->Hp->Prop),Inv X pins σ H s->wi σ H R->
   wpAny (model X.prog X.w) X.A (eval iter X.env) (λv s1=>wpAny (model X.prog X.w) X.A (pyIter v) (PIE X pins σ tg R) X.xe s1) X.xe s
theorem Gf {M:Model} {A:Around} {E:Value->Shared->Prop} {s:Shared} {tg:Expr} {it:Addr} {u:Value} {o:Obj} {n:String} {vs:Array Value} {Q:Unit->Shared->Prop} (ho:s.heap.get? it=some o) (hc:o.cls=.type n) (hd:o.data=.fields vs)
  (hn:["enumerate", "zip", "dict_itemiterator", "dict_reverseitemiterator", "odict_iterator", "itertools.zip_longest", "itertools.pairwise"].contains n=false) (hQ:Q Unit.unit s):wpAny M A (letOwnedTupleGo tg (.ref it) u) Q E s:=by
 unfold letOwnedTupleGo
 cases tg <;> first
  | exact Zz hQ
  | (cases u <;> first
    | exact Zz hQ
    | (refine Zy (wpAny_load ho ?_)
       rw [hc,hd]
       show wpAny M A (if (["enumerate", "zip", "dict_itemiterator", "dict_reverseitemiterator", "odict_iterator", "itertools.zip_longest", "itertools.pairwise"].contains n && vs[0]? == some (rawInt _))=true then _ else _) Q E s
       rw [Zt (by intro h;rw [hn,Bool.false_and] at h;cases h)]
       exact Zz hQ))
noncomputable def Itl (K:PySem.W.Frag) (a:Addr):It:=
 ⟨λi H=>∃ xs x,SqL K H a xs/\xs[i]?=some x,λi H x H'=>H'=H/\∀ xs,SqL K H a xs->xs[i]?=some x,λi H=>∃ xs,SqL K H a xs/\xs.length<=i⟩
noncomputable def Itt (K:PySem.W.Frag) (a:Addr):It:=
 ⟨λi H=>∃ xs x,SqT K H a xs/\xs[i]?=some x,λi H x H'=>H'=H/\∀ xs,SqT K H a xs->xs[i]?=some x,λi H=>∃ xs,SqT K H a xs/\xs.length<=i⟩
noncomputable def Itr (lo:Int) (n:Nat):It:=⟨λi _=>i<n,λi H x H'=>H'=H/\x=.int (lo+i),λi _=>n<=i⟩
theorem R7 {P:Program} {w:World} {K:PySem.W.Frag} {tg:Expr} (a it:Addr):Turn P w K tg (Itl K a) [it] it (λi h=>h.IsListIter it a i) where
 mem:=by simp
 obj:=λi h st b hb=>by
  have e:b=it:=by simpa using hb
  subst e
  obtain ⟨o,e,c,d⟩:=st
  exact ⟨o,e,λv z=>by rw [d] at z;cases z⟩
 keep:=λi h h' st k=>st.at λo e=>k it (by simp) o e
 item:=by
  intro X hP hw hK hc i pins s σ H E I hf st hg
  subst hP hw hK
  obtain ⟨xs,x,hq,hx⟩:=hg
  obtain ⟨its,rv,p,hz⟩:=I.list hq
  obtain ⟨u,hu,ru⟩:=rv.get hx
  obtain ⟨f0,f1,f2,f3,f4,f5⟩:=hf it (by simp)
  refine wpAny_pyNext_list_item st p.isList (x:=u) (by simpa using hu) λh' st' sb=>?_
  have I1:Inv X pins σ H { s with heap:=h' }:=I.turned (t':=s.toks) (λb o hb e=>(sb.2 b hb).trans e) f0 f1 f3 f4 f5
  obtain ⟨o,e,c,d⟩:=id st'
  exact ⟨u,rfl,Gf (s:={ s with heap:=h' }) e c d ∅ ⟨x,H,I1,ru,⟨rfl,λys hy=>by rw [I.list_inj hy hq];exact hx⟩,st',λb hb=>(hf b hb).1⟩⟩
 done:=by
  intro X hP hw hK hc i pins s σ H E I hf st hg
  subst hP hw hK
  obtain ⟨xs,hq,hx⟩:=hg
  obtain ⟨its,rv,p,hz⟩:=I.list hq
  obtain ⟨f0,f1,f2,f3,f4,f5⟩:=hf it (by simp)
  have hl:=rv.length
  exact wpAny_pyNext_list_end (I.ok.hd hc) st p.isList (by simp;omega) λh' eb=>⟨rfl,I.turned (t':=s.toks) (λb o hb e=>eb b o hb e) f0 f1 f3 f4 f5⟩
 self:=λ_ _ _ _ _ st h=>wpAny_pyIter_listiter st h
theorem R8 {P:Program} {w:World} {K:PySem.W.Frag} {tg:Expr} (a it:Addr):Turn P w K tg (Itt K a) [it] it (λi h=>h.IsTupleIter it a i) where
 mem:=by simp
 obj:=λi h st b hb=>by
  have e:b=it:=by simpa using hb
  subst e
  obtain ⟨o,e,c,d⟩:=st
  exact ⟨o,e,λv z=>by rw [d] at z;cases z⟩
 keep:=λi h h' st k=>st.at λo e=>k it (by simp) o e
 item:=by
  intro X hP hw hK hc i pins s σ H E I hf st hg
  subst hP hw hK
  obtain ⟨xs,x,hq,hx⟩:=hg
  obtain ⟨its,rv,p,hz⟩:=I.tuple hq
  obtain ⟨u,hu,ru⟩:=rv.get hx
  obtain ⟨f0,f1,f2,f3,f4,f5⟩:=hf it (by simp)
  refine wpAny_pyNext_tuple_item st (show s.heap.IsTuple a its.toArray from p) (x:=u) (by simpa using hu) λh' st' sb=>?_
  have I1:Inv X pins σ H { s with heap:=h' }:=I.turned (t':=s.toks) (λb o hb e=>(sb.2 b hb).trans e) f0 f1 f3 f4 f5
  obtain ⟨o,e,c,d⟩:=id st'
  exact ⟨u,rfl,Gf (s:={ s with heap:=h' }) e c d ∅ ⟨x,H,I1,ru,⟨rfl,λys hy=>by rw [I.tuple_inj hy hq];exact hx⟩,st',λb hb=>(hf b hb).1⟩⟩
 done:=by
  intro X hP hw hK hc i pins s σ H E I hf st hg
  subst hP hw hK
  obtain ⟨xs,hq,hx⟩:=hg
  obtain ⟨its,rv,p,hz⟩:=I.tuple hq
  obtain ⟨f0,f1,f2,f3,f4,f5⟩:=hf it (by simp)
  have hl:=rv.length
  exact wpAny_pyNext_tuple_end (I.ok.hd hc) st (show s.heap.IsTuple a its.toArray from p) (by simp;omega) λh' eb=>⟨rfl,I.turned (t':=s.toks) (λb o hb e=>eb b o hb e) f0 f1 f3 f4 f5⟩
 self:=λ_ _ _ _ _ st h=>wpAny_pyIter_tupleiter st h
theorem R9 {P:Program} {w:World} {K:PySem.W.Frag} {tg:Expr} (it:Addr) (lo:Int) (n:Nat):Turn P w K tg (Itr lo n) [it] it (λi h=>IsRangeIter h it (lo+(i:Nat)*1) ((n:Int) - (i:Nat)) 1) where
 mem:=by simp
 obj:=λi h st b hb=>by
  have e:b=it:=by simpa using hb
  subst e
  exact ⟨_,st,λv z=>by
   have z':Data.fields _=Data.cell v:=z
   cases z'⟩
 keep:=λi h h' st k=>k it (by simp) _ st
 item:=by
  intro X hP hw hK hc i pins s σ H E I hf st hg
  subst hP hw hK
  obtain ⟨f0,f1,f2,f3,f4,f5⟩:=hf it (by simp)
  have W:=Walks.range (prog:=X.prog) (w:=X.w) (I.ok.hd hc) it lo 1 n
  refine W.item i s _ _ hg st λv h' tk hv st' kk=>?_
  obtain ⟨t,rfl⟩:=hv
  have I1:Inv X pins σ H { s with heap:=h',toks:=tk }:=I.turned (λb o hb e=>kk b o (by simpa using hb) e) f0 f1 f3 f4 f5
  refine ⟨_,rfl,Gf (s:={ s with heap:=h',toks:=tk }) (n := "range_iterator") st' rfl rfl ∅ ⟨.int (lo+i),H,I1,⟨t,?_⟩,⟨rfl,rfl⟩,st',λb hb=>(hf b hb).1⟩⟩
  rw [Int.mul_one]
 done:=by
  intro X hP hw hK hc i pins s σ H E I hf st hg
  subst hP hw hK
  obtain ⟨f0,f1,f2,f3,f4,f5⟩:=hf it (by simp)
  exact wpAny_pyNext_range_end (I.ok.hd hc) st (by have:n<=i:=hg;omega) λh' eb=>⟨rfl,I.turned (t':=s.toks) (λb o hb e=>eb b o hb e) f0 f1 f3 f4 f5⟩
 self:=λ_ _ _ _ _ st h=>wpAny_pyIter_rangeiter st h
end L2
namespace L2
open PySem PySem.Spec PyProof.Rows
section
variable {X:Cx} {tg:Expr}
noncomputable def CD (K:PySem.W.Frag) (tl:TE):TI:=λσ H R=>tl σ H λx H1=>∃ a,x=.ref a/\(∃ xs,SqL K H1 a xs)/\R (Itl K a) H1
noncomputable def Fy (K:PySem.W.Frag) (tl:TE):TI:=λσ H R=>tl σ H λx H1=>∃ a,x=.ref a/\(∃ xs,SqT K H1 a xs)/\R (Itt K a) H1
theorem C3 {l:Expr} {tl:TE} (hl:PE X l tl):PI X tg l (CD X.K tl):=by
 intro pins s σ H R I h
 refine thn (hl pins s σ H _ I h) λv s1 ⟨x,H1,I1,r1,q1⟩=>?_
 obtain ⟨a,e,⟨xs,hq⟩,q⟩:=q1
 subst e
 cases r1
 obtain ⟨its,rv,p,hz⟩:=I1.list hq
 refine wpAny_pyIter_list p.isList ?_
 refine ⟨s1.heap.objs.size,[s1.heap.objs.size],_,_,H1,rfl,I1.kept (t':=s1.toks) λb o e=>Heap.get?_push_of_some _ e,R7 a _,⟨_,Heap.get?_push_size _ rfl,rfl,rfl⟩,λb hb=>?_,q⟩
 have e:b=s1.heap.objs.size:=by simpa using hb
 subst e
 exact I1.fpOk (AS _) (I1.hok.fresh (AS _))
theorem JP {l:Expr} {tl:TE} (hl:PE X l tl):PI X tg l (Fy X.K tl):=by
 intro pins s σ H R I h
 refine thn (hl pins s σ H _ I h) λv s1 ⟨x,H1,I1,r1,q1⟩=>?_
 obtain ⟨a,e,⟨xs,hq⟩,q⟩:=q1
 subst e
 cases r1
 obtain ⟨its,rv,p,hz⟩:=I1.tuple hq
 refine wpAny_pyIter_tuple (show s1.heap.IsTuple a its.toArray from p) ?_
 refine ⟨s1.heap.objs.size,[s1.heap.objs.size],_,_,H1,rfl,I1.kept (t':=s1.toks) λb o e=>Heap.get?_push_of_some _ e,R8 a _,⟨_,Heap.get?_push_size _ rfl,rfl,rfl⟩,λb hb=>?_,q⟩
 have e:b=s1.heap.objs.size:=by simpa using hb
 subst e
 exact I1.fpOk (AS _) (I1.hok.fresh (AS _))
theorem Lo {pins:List (Addr×Obj)} {σ:St} {H:Hp} {s:Shared} {R:It->Hp->Prop} {E:Value->Shared->Prop} {lo hi:Int} {t u v:Tok} {tk:Nat} (I:Inv X pins σ H s) (h1:-(2 ^ 62)<=lo) (h2:lo<2 ^ 62) (h3:-(2 ^ 62)<=hi) (h4:hi<2 ^ 62)
  (q:R (Itr lo (hi - lo).toNat) H):wpAny (model X.prog X.w) X.A (pyIter (.ref s.heap.objs.size)) (PIE X pins σ tg R) E { s with heap:=s.heap.push { cls:=.type "range", data:=.fields #[.int lo t,.int hi u,.int 1 v] },toks:=tk }:=by
 refine wpAny_pyIter_range (IsRange.new ..) (small_one h1 h2 h3 h4) ?_
 have I1:Inv X pins σ H { s with heap:=s.heap.push { cls:=.type "range", data:=.fields #[.int lo t,.int hi u,.int 1 v] },toks:=tk }:=I.kept λb o e=>Heap.get?_push_of_some _ e
 refine ⟨(s.heap.push { cls:=.type "range", data:=.fields #[.int lo t,.int hi u,.int 1 v] }).objs.size,[(s.heap.push { cls:=.type "range", data:=.fields #[.int lo t,.int hi u,.int 1 v] }).objs.size],_,_,H,rfl,
  I1.kept (t':=tk) λb o e=>Heap.get?_push_of_some _ e,R9 _ lo (hi - lo).toNat,?_,λb hb=>?_,q⟩
 ·have e1:lo+((0:Nat):Int)*1=lo:=by simp
  have e2:(((hi - lo).toNat:Nat):Int) - ((0:Nat):Int)=Builtin.Range.rangeSize lo hi 1:=by rw [rangeSize_one];split <;> omega
  show IsRangeIter _ _ (lo+((0:Nat):Int)*1) ((((hi - lo).toNat:Nat):Int) - ((0:Nat):Int)) 1
  rw [e1,e2]
  exact Heap.get?_push_size _ rfl
 ·have e:b=(s.heap.push { cls:=.type "range", data:=.fields #[.int lo t,.int hi u,.int 1 v] }).objs.size:=by simpa using hb
  subst e
  exact I1.fpOk (AS _) (I1.hok.fresh (AS _))
noncomputable def D2 (ta:TA):TI:=λσ H R=>ta σ H λvs H1=>∃ j:Int,vs=[.int j]/\-(2 ^ 62)<=j/\j<2 ^ 62/\R (Itr 0 j.toNat) H1
noncomputable def Gg (ta:TA):TI:=λσ H R=>ta σ H λvs H1=>∃ i j:Int,vs=[.int i,.int j]/\(-(2 ^ 62)<=i/\i<2 ^ 62/\-(2 ^ 62)<=j/\j<2 ^ 62)/\R (Itr i (j - i).toNat) H1
theorem Ew {a:Expr} {ta:TA} {p pos:Pos} (hg:Gl X "range") (hm:X.mg "range" = none) (ha:PA X [a] ta) (hs:starEach [a] X.env=[(false,eval a X.env)]:=by rfl):PI X tg (.Call (.Name "range" p) [a] [] pos) (D2 ta):=by
 intro pins s σ H R I h
 refine Call_ (EE I hg hm boot_range (PyProof.Rows.callWith_type1 (thn (ha pos pins s σ H _ I h) λus s1 ⟨vs,H1,I1,r1,q1⟩=>?_) hs rfl))
 obtain ⟨j,e,q1,q2,q⟩:=q1
 subst e
 cases r1 with
 | cons r rr=>
   cases rr
   obtain ⟨t,rfl⟩:=r
   exact call_range_1 (Lo I1 ⋯ ⋯ q1 q2 (by simpa using q))
theorem Lp {a b:Expr} {ta:TA} {p pos:Pos} (hg:Gl X "range") (hm:X.mg "range" = none) (ha:PA X [a,b] ta) (hs:starEach [a,b] X.env=[(false,eval a X.env),(false,eval b X.env)]:=by rfl) (hs2:starEach [b] X.env=[(false,eval b X.env)]:=by rfl) :
  PI X tg (.Call (.Name "range" p) [a,b] [] pos) (Gg ta):=by
 intro pins s σ H R I h
 refine Call_ (EE I hg hm boot_range (PyProof.Rows.callWith_type1 (thn (ha pos pins s σ H _ I h) λus s1 ⟨vs,H1,I1,r1,q1⟩=>?_) (by rw [hs,hs2]) (by rw [hs2];rfl)))
 obtain ⟨i,j,e,⟨q1,q2,q3,q4⟩,q⟩:=q1
 subst e
 cases r1 with
 | cons r rr=>
   cases rr with
   | cons r' rr=>
     cases rr
     obtain ⟨t,rfl⟩:=r
     obtain ⟨t',rfl⟩:=r'
     exact call_range_2 (Lo I1 q1 q2 q3 q4 q)
noncomputable def BM (wi:TI) (g:TG) (tb:TS):TS:=λD σ H=>wi σ H λJ H1=>∃ W:Nat->Nat->St->Hp->Prop,(∃ m,W 0 m σ H1)/\∀ i m σ H,W i m σ H->
 (J.stop i H/\D.nx σ H)\/(J.go i H/\∃ N:St->Hp->Prop,(∀ σ' H',N σ' H'->∃ m',m'<m/\W (i+1) m' σ' H')/\∀ x H',J.yld i H x H'->g x σ H' λσ2 H2=>tb { D with nx:=N,ct:=N,bk:=D.nx } σ2 H2)
noncomputable def Hg (fp:List Addr) (h:Heap):List (Addr×Obj):=fp.filterMap λb=>(h.get? b).map λo=>(b,o)
theorem Hh {fp:List Addr} {h:Heap} {b:Addr} {o:Obj} (hb:b∈fp) (e:h.get? b=some o):(b,o)∈Hg fp h:=List.mem_filterMap.mpr ⟨b,hb,by rw [e];rfl⟩
theorem SC {fp:List Addr} {h:Heap} {p:Addr×Obj} (hp:p∈Hg fp h):p.1∈fp/\h.get? p.1=some p.2:=by
 obtain ⟨b,hb,e⟩:=List.mem_filterMap.mp hp
 cases q:h.get? b with
 | none=>rw [q] at e;cases e
 | some o=>
   rw [q] at e
   have e':(b,o)=p:=Z1 e
   subst e'
   exact ⟨hb,q⟩
theorem Inv.pinned {pins:List (Addr×Obj)} {σ:St} {H:Hp} {s:Shared} {fp:List Addr} (I:Inv X pins σ H s) (hf:∀ b∈fp,DM X pins H b) (ho:∀ b∈fp,∃ o,s.heap.get? b=some o/\∀ v,o.data≠.cell v):Inv X (pins++Hg fp s.heap) σ H s:=
 I.pins_of λp hp=>(CZ.mp hp).elim (λz=>I.pin p (Cb _ z)) λz=>by
  obtain ⟨hb,e⟩:=SC z
  obtain ⟨f0,f1,f2,_⟩:=hf p.1 hb
  obtain ⟨o,e',d⟩:=ho p.1 hb
  rw [e] at e';cases e'
  exact ⟨e,f0,f1,f2,d⟩
theorem Inv.unpinned {pins pl:List (Addr×Obj)} {σ:St} {H:Hp} {s:Shared} (I:Inv X (pins++pl) σ H s):Inv X pins σ H s:=I.pins_of λp hp=>I.pin p (Cb _ (ES _ hp))
theorem B7 {iter:Expr} {body:List Stmt} {wi:TI} {g:TG} {tb:TS} {pos:Pos} (hp:PassesOwn (model X.prog X.w) X.A X.env X.xe) (hc:X.calm=true) (hi:PI X tg iter wi) (hg:PG X tg g) (hb:PSs X body tb)
  (hs:∀ x,foldedSetIterable iter X.env x=pure x:=by intro _;rfl):PS X (.For tg iter body [] pos) (BM wi g tb):=by
 intro pins s σ H D I h
 refine wpAny_For (thn (hi pins s σ H _ I h) λv s1 h1=>thn h1 λitv s2 h2=>?_) hs
 obtain ⟨it,fp,tn,J,H2,e,I2,T,st2,f2,W,⟨m0,w0⟩,turn⟩:=h2
 subst e
 have stat:∀ {H':Hp},(∀ b∈fp,H' b=none)->∀ b∈fp,DM X pins H' b:=λhn b hb=>⟨hn b hb,(f2 b hb).2⟩
 refine codeAny_forLoop_any (λn s'=>∃ i σ' H',Inv X pins σ' H' s'/\tn i s'.heap/\(∀ b∈fp,H' b=none)/\W i n σ' H') ?_ m0 ⟨0,σ,H2,I2,st2,λb hb=>(f2 b hb).1,w0⟩
 rintro n s3 ⟨i,σ3,H3,I3,st3,fr3,w3⟩
 rcases turn i n σ3 H3 w3 with ⟨stop,qn⟩ | ⟨go,N,hN,step⟩
 ·refine wpAny_passesOwn hp (thn (T.done X rfl rfl rfl hc i pins s3 σ3 H3 X.xe I3 (stat fr3) st3 stop) λr s4 ⟨hr,I4⟩=>?_)
  subst hr
  exact wpAny_execs_nil ⟨σ3,H3,I4,qn⟩
 ·refine wpAny_passesOwn hp (thn (T.item X rfl rfl rfl hc i pins s3 σ3 H3 X.xe I3 (stat fr3) st3 go) λr s4 ⟨u,hr,h4⟩=>?_)
  subst hr
  refine wpAny_passesOwn hp (thn h4 λ_ s5 ⟨x,H5,I5,r5,y5,st5,fr5⟩=>?_)
  have I5':=I5.pinned (stat fr5) (T.obj _ _ st5)
  refine wpAny_passesOwn hp (thn (hg _ s5 σ3 H5 x u _ I5' r5 (step x H5 y5)) λ_ s6 ⟨σ6,H6,I6,q6⟩=>?_)
  refine wpAny_passesOwn hp (thn (hb _ s6 σ6 H6 _ I6 q6) λf s7 q7=>?_)
  have again:∀ {σ7:St} {H7:Hp},Inv X (pins++Hg fp s5.heap) σ7 H7 s7->N σ7 H7->∃ m,m<n/\∃ i σ' H',Inv X pins σ' H' s7/\tn i s7.heap/\(∀ b∈fp,H' b=none)/\W i m σ' H':=λ{σ7 H7} I7 n7=>by
   obtain ⟨m',hm,w7⟩:=hN σ7 H7 n7
   refine ⟨m',hm,i+1,σ7,H7,I7.unpinned,T.keep _ _ _ st5 λb hb o e=>(I7.pin (b,o) (Cb _ (Cb _ (Hh hb e)))).1,λb hb=>?_,w7⟩
   obtain ⟨o,e,d⟩:=T.obj _ _ st5 b hb
   exact (I7.pin (b,o) (Cb _ (Cb _ (Hh hb e)))).2.1
  cases f with
  | next=>obtain ⟨σ7,H7,I7,n7⟩:=q7;exact again I7 n7
  | cont=>obtain ⟨σ7,H7,I7,n7⟩:=q7;exact again I7 n7
  | brk=>obtain ⟨σ7,H7,I7,q7⟩:=q7;exact ⟨σ7,H7,I7.unpinned,q7⟩
  | ret v=>obtain ⟨x7,σ7,H7,I7,r7,q7⟩:=q7;exact ⟨x7,σ7,H7,I7.unpinned,r7,q7⟩
end
theorem SE {K:PySem.W.Frag} {a:Addr} {xs:List V} {g:TG} {tb:TS} {D:Ends} {σ:St} {H:Hp} (Pv:Nat->St->Hp->Prop) (h0:Pv 0 σ H) (hl:∀ i σ H,i<=xs.length->Pv i σ H->SqL K H a xs)
  (hs:∀ i x σ H,xs[i]?=some x->Pv i σ H->g x σ H λσ2 H2=>tb { D with nx:=Pv (i+1),ct:=Pv (i+1),bk:=D.nx } σ2 H2) (hd:∀ σ H,Pv xs.length σ H->D.nx σ H) :
  ∃ W:Nat->Nat->St->Hp->Prop,(∃ m,W 0 m σ H)/\∀ i m σ H,W i m σ H->
    ((Itl K a).stop i H/\D.nx σ H)\/((Itl K a).go i H/\∃ N:St->Hp->Prop,(∀ σ' H',N σ' H'->∃ m',m'<m/\W (i+1) m' σ' H')/\∀ x H',(Itl K a).yld i H x H'->g x σ H' λσ2 H2=>tb { D with nx:=N,ct:=N,bk:=D.nx } σ2 H2):=by
 refine ⟨λi m σ H=>m=xs.length - i/\i<=xs.length/\Pv i σ H,⟨xs.length,by simp,AV _,h0⟩,?_⟩
 rintro i m σ H ⟨rfl,hi,p⟩
 have q:=hl i σ H hi p
 by_cases hlt:i<xs.length
 ·refine .inr ⟨⟨xs,xs[i],q,by simp [hlt]⟩,Pv (i+1),λσ' H' p'=>⟨xs.length - (i+1),⋯,rfl,hlt,p'⟩,λx H' y=>?_⟩
  obtain ⟨e,y⟩:=y
  subst e
  exact hs i x σ _ (y xs q) p
 ·have e:i=xs.length:=by omega
  subst e
  exact .inl ⟨⟨xs,q,AS _⟩,hd σ H p⟩
theorem Lq {K:PySem.W.Frag} {a:Addr} {xs:List V} {g:TG} {tb:TS} {D:Ends} {σ:St} {H:Hp} (Pv:Nat->St->Hp->Prop) (h0:Pv 0 σ H) (hl:∀ i σ H,i<=xs.length->Pv i σ H->SqT K H a xs)
  (hs:∀ i x σ H,xs[i]?=some x->Pv i σ H->g x σ H λσ2 H2=>tb { D with nx:=Pv (i+1),ct:=Pv (i+1),bk:=D.nx } σ2 H2) (hd:∀ σ H,Pv xs.length σ H->D.nx σ H) :
  ∃ W:Nat->Nat->St->Hp->Prop,(∃ m,W 0 m σ H)/\∀ i m σ H,W i m σ H->
    ((Itt K a).stop i H/\D.nx σ H)\/((Itt K a).go i H/\∃ N:St->Hp->Prop,(∀ σ' H',N σ' H'->∃ m',m'<m/\W (i+1) m' σ' H')/\∀ x H',(Itt K a).yld i H x H'->g x σ H' λσ2 H2=>tb { D with nx:=N,ct:=N,bk:=D.nx } σ2 H2):=by
 refine ⟨λi m σ H=>m=xs.length - i/\i<=xs.length/\Pv i σ H,⟨xs.length,by simp,AV _,h0⟩,?_⟩
 rintro i m σ H ⟨rfl,hi,p⟩
 have q:=hl i σ H hi p
 by_cases hlt:i<xs.length
 ·refine .inr ⟨⟨xs,xs[i],q,by simp [hlt]⟩,Pv (i+1),λσ' H' p'=>⟨xs.length - (i+1),⋯,rfl,hlt,p'⟩,λx H' y=>?_⟩
  obtain ⟨e,y⟩:=y
  subst e
  exact hs i x σ _ (y xs q) p
 ·have e:i=xs.length:=by omega
  subst e
  exact .inl ⟨⟨xs,q,AS _⟩,hd σ H p⟩
theorem SF {lo:Int} {n:Nat} {g:TG} {tb:TS} {D:Ends} {σ:St} {H:Hp} (Pv:Nat->St->Hp->Prop) (h0:Pv 0 σ H)
  (hs:∀ i σ H,i<n->Pv i σ H->g (.int (lo+i)) σ H λσ2 H2=>tb { D with nx:=Pv (i+1),ct:=Pv (i+1),bk:=D.nx } σ2 H2) (hd:∀ σ H,Pv n σ H->D.nx σ H) :
  ∃ W:Nat->Nat->St->Hp->Prop,(∃ m,W 0 m σ H)/\∀ i m σ H,W i m σ H->
    ((Itr lo n).stop i H/\D.nx σ H)\/((Itr lo n).go i H/\∃ N:St->Hp->Prop,(∀ σ' H',N σ' H'->∃ m',m'<m/\W (i+1) m' σ' H')/\∀ x H',(Itr lo n).yld i H x H'->g x σ H' λσ2 H2=>tb { D with nx:=N,ct:=N,bk:=D.nx } σ2 H2):=by
 refine ⟨λi m σ H=>m=n - i/\i<=n/\Pv i σ H,⟨n,by simp,AV _,h0⟩,?_⟩
 rintro i m σ H ⟨rfl,hi,p⟩
 by_cases hlt:i<n
 ·refine .inr ⟨hlt,Pv (i+1),λσ' H' p'=>⟨n - (i+1),⋯,rfl,hlt,p'⟩,λx H' y=>?_⟩
  obtain ⟨e,y⟩:=y
  subst e y
  exact hs i σ _ hlt p
 ·have e:i=n:=by omega
  subst e
  exact .inl ⟨AS _,hd σ H p⟩
end L2
namespace L2
open PySem PySem.Spec PyProof.Rows
noncomputable abbrev R2:=V->V->Hp->VK->Prop
noncomputable def OpR (X:Cx) (f:Value->Value->Sem Value) (r:R2):Prop:=
 ∀ (pins:List (Addr×Obj)) (s:Shared) (σ:St) (H:Hp) (x y:V) (v u:Value) (Q:VK),Inv X pins σ H s->RelV x v->RelV y u->r x y H Q->
   wpAny (model X.prog X.w) X.A (f v u) (EP X pins σ Q) X.xe s
noncomputable def UnR (X:Cx) (f:Value->Sem Value) (r:V->Hp->VK->Prop):Prop:=
 ∀ (pins:List (Addr×Obj)) (s:Shared) (σ:St) (H:Hp) (x:V) (v:Value) (Q:VK),Inv X pins σ H s->RelV x v->r x H Q->
   wpAny (model X.prog X.w) X.A (f v) (EP X pins σ Q) X.xe s
noncomputable def CY (X:Cx) (f:Value) (r:List V->Hp->VK->Prop):Prop:=
 ∀ (pins:List (Addr×Obj)) (s:Shared) (σ:St) (H:Hp) (xs:List V) (us:List Value) (Q:VK),Inv X pins σ H s->Vals xs us->r xs H Q->
   wpAny (model X.prog X.w) X.A (call f us) (EP X pins σ Q) X.xe s
noncomputable def SG (X:Cx) (r:V->Hp->(Bool->Hp->Prop)->Prop):Prop:=
 ∀ (pins:List (Addr×Obj)) (s:Shared) (σ:St) (H:Hp) (x:V) (v:Value) (Q:Bool->Hp->Prop),Inv X pins σ H s->RelV x v->r x H Q->
   wpAny (model X.prog X.w) X.A (truthy v) (TP X pins σ Q) X.xe s
noncomputable def tOp (r:R2) (ta tb:TE):TE:=λσ H Q=>ta σ H λx H1=>tb σ H1 λy H2=>r x y H2 Q
noncomputable def tUn (r:V->Hp->VK->Prop) (ta:TE):TE:=λσ H Q=>ta σ H λx H1=>r x H1 Q
noncomputable def rI (C:Int->Int->Prop) (g:Int->Int->V):R2:=λx y H Q=>∃ i j,x=.int i/\y=.int j/\C i j/\Q (g i j) H
noncomputable def rI0 (g:Int->Int->V):R2:=λx y H Q=>∃ i j,x=.int i/\y=.int j/\Q (g i j) H
noncomputable def rU (g:Int->V):V->Hp->VK->Prop:=λx H Q=>∃ i,x=.int i/\Q (g i) H
section
variable {X:Cx} {a b c:Expr} {ta tb tc:TE} {pos:Pos}
theorem JQ (ha:PE X a ta) (hb:PE X b tb) {pins:List (Addr×Obj)} {s:Shared} {σ:St} {H:Hp} {R:V->V->Hp->Prop} (I:Inv X pins σ H s)
  (h:ta σ H λx H1=>tb σ H1 λy H2=>R x y H2) {Q:Value->Shared->Prop} {f:Value->Value->Sem Value}
  (hf:∀ v u s2 x y H2,Inv X pins σ H2 s2->RelV x v->RelV y u->R x y H2->wpAny (model X.prog X.w) X.A (f v u) Q X.xe s2) :
  wpAny (model X.prog X.w) X.A (eval a X.env) (λv s₁=>wpAny (model X.prog X.w) X.A (eval b X.env) (λu s₂=>wpAny (model X.prog X.w) X.A (f v u) Q X.xe s₂) X.xe s₁) X.xe s:=by
 refine thn (ha pins s σ H _ I h) λv s1 ⟨x,H1,I1,r1,q1⟩=>?_
 refine thn (hb pins s1 σ H1 _ I1 q1) λu s2 ⟨y,H2,I2,r2,q2⟩=>?_
 exact hf v u s2 x y H2 I2 r1 r2 q2
theorem AI {op:Operator} {r:R2} (ho:OpR X (binaryOp op) r) (ha:PE X a ta) (hb:PE X b tb):PE X (.BinOp a op b pos) (tOp r ta tb):=by
 intro pins s σ H Q I h
 exact wpAny_BinOp (JQ ha hb I h λv u s2 x y H2 I2 rx ry q=>ho pins s2 σ H2 x y v u Q I2 rx ry q)
theorem BU {op:UnaryOp} {r:V->Hp->VK->Prop} (ho:UnR X (unaryOp op) r) (ha:PE X a ta):PE X (.UnaryOp op a pos) (tUn r ta):=by
 intro pins s σ H Q I h
 exact UnaryOp_ (thn (ha pins s σ H _ I h) λv s1 ⟨x,H1,I1,r1,q1⟩=>ho pins s1 σ H1 x v Q I1 r1 q1)
theorem opI {f:Value->Value->Sem Value} {C:Int->Int->Prop} {g:Int->Int->Int}
  (rule:∀ (i j:Int) (t u:Tok) (s:Shared) (Q:Value->Shared->Prop) (E:Value->Shared->Prop),C i j->Q (.int (g i j) s.toks) { s with toks:=s.toks+1 }->wpAny (model X.prog X.w) X.A (f (.int i t) (.int j u)) Q E s) :
  OpR X f (rI C λi j=>.int (g i j)):=by
 intro pins s σ H x y v u Q I rx ry h
 obtain ⟨i,j,rfl,rfl,hc,q⟩:=h
 obtain ⟨t,rfl⟩:=rx
 obtain ⟨t',rfl⟩:=ry
 exact rule i j t t' s _ _ hc ⟨.int (g i j),H,I.tok _,⟨_,rfl⟩,q⟩
theorem Hi {f:Value->Value->Sem Value} {g:Int->Int->Int}
  (rule:∀ (i j:Int) (t u:Tok) (s:Shared) (Q:Value->Shared->Prop) (E:Value->Shared->Prop),Q (.int (g i j) s.toks) { s with toks:=s.toks+1 }->wpAny (model X.prog X.w) X.A (f (.int i t) (.int j u)) Q E s) :
  OpR X f (rI0 λi j=>.int (g i j)):=by
 intro pins s σ H x y v u Q I rx ry h
 obtain ⟨i,j,rfl,rfl,q⟩:=h
 obtain ⟨t,rfl⟩:=rx
 obtain ⟨t',rfl⟩:=ry
 exact rule i j t t' s _ _ ⟨.int (g i j),H,I.tok _,⟨_,rfl⟩,q⟩
theorem JR {f:Value->Value->Sem Value} {g:Int->Int->Bool}
  (rule:∀ (i j:Int) (t u:Tok) (s:Shared) (Q:Value->Shared->Prop) (E:Value->Shared->Prop),Q (.bool (g i j)) s->wpAny (model X.prog X.w) X.A (f (.int i t) (.int j u)) Q E s) :
  OpR X f (rI0 λi j=>.bl (g i j)):=by
 intro pins s σ H x y v u Q I rx ry h
 obtain ⟨i,j,rfl,rfl,q⟩:=h
 obtain ⟨t,rfl⟩:=rx
 obtain ⟨t',rfl⟩:=ry
 exact rule i j t t' s _ _ ⟨.bl (g i j),H,I,rfl,q⟩
theorem BQ:OpR X (binaryOp .Add) (rI0 λi j=>.int (i+j)):=Hi λ_ _ _ _ _ _ _ q=>add_int q
theorem BJ:OpR X (binaryOp .Sub) (rI0 λi j=>.int (i - j)):=Hi λ_ _ _ _ _ _ _ q=>sub_int q
theorem Ct:OpR X (binaryOp .Mod) (rI (λ_ j=>0<j) λi j=>.int (i % j)):=opI λi j _ _ _ _ _ hc q=>by
 have h1:(0:Int)<j:=hc
 exact mod_int' ⋯ (by rw [Int.fmod_eq_emod_of_nonneg i ⋯];exact q)
theorem SH:OpR X (binaryOp .Mod) (rI (λ_ j=>j≠0) λi j=>.int (i.fmod j)):=opI λ_ _ _ _ _ _ _ hc q=>mod_int' hc q
theorem Gh:OpR X (inplaceOp .Add) (rI0 λi j=>.int (i+j)):=Hi λ_ _ _ _ _ _ _ q=>iadd_int q
theorem Hj:OpR X (inplaceOp .Sub) (rI0 λi j=>.int (i - j)):=Hi λ_ _ _ _ _ _ _ q=>isub_int q
theorem SI {f:Value->Sem Value} {g:Int->Int}
  (rule:∀ (i:Int) (t:Tok) (s:Shared) (Q:Value->Shared->Prop) (E:Value->Shared->Prop),Q (.int (g i) s.toks) { s with toks:=s.toks+1 }->wpAny (model X.prog X.w) X.A (f (.int i t)) Q E s) :
  UnR X f (rU λi=>.int (g i)):=by
 intro pins s σ H x v Q I rx h
 obtain ⟨i,rfl,q⟩:=h
 obtain ⟨t,rfl⟩:=rx
 exact rule i t s _ _ ⟨.int (g i),H,I.tok _,⟨_,rfl⟩,q⟩
theorem BV:UnR X (unaryOp .USub) (rU λi=>.int (-i)):=SI λ_ _ _ _ _ q=>neg_int q
end
noncomputable def scal:V->V->Bool
 | .non,.non=>true | .non,.int _=>true | .int _,.non=>true | .non,.bl _=>true | .bl _,.non=>true | .non,.str _=>true | .str _,.non=>true
 | .int _,.int _=>true | .bl _,.bl _=>true | .str _,.str _=>true | .byt _,.byt _=>true
 | .int _,.str _=>true | .str _,.int _=>true | .bl _,.str _=>true | .str _,.bl _=>true
 | _,_=>false
noncomputable def rEq:R2:=λx y H Q=>scal x y=true/\Q (.bl (decide (x=y))) H
noncomputable def rNe:R2:=λx y H Q=>scal x y=true/\Q (.bl (!decide (x=y))) H
theorem Lr {i j:Int}:decide (V.int i=V.int j)=(i == j):=by
 rw [Bool.eq_iff_iff]
 simp
theorem Ls {i j:Bool}:decide (V.bl i=V.bl j)=(i == j):=by
 rw [Bool.eq_iff_iff]
 simp
theorem Lu {i j:Str}:decide (V.str i=V.str j)=(i == j):=by
 rw [Bool.eq_iff_iff]
 simp
theorem Lx {i j:Array UInt8}:decide (V.byt i=V.byt j)=(i.toList == j.toList):=by
 rw [Bool.eq_iff_iff]
 cases i
 cases j
 simp
section
variable {X:Cx} {a b c:Expr} {ta tb tc:TE} {pos:Pos}
theorem BR {pins:List (Addr×Obj)} {σ:St} {H:Hp} {s:Shared} {Q:VK} {k k':Bool} (I:Inv X pins σ H s) (q:Q (.bl k) H) (e:k=k'):EP X pins σ Q (.bool k') s:=by
 subst e
 exact ⟨.bl k,H,I,rfl,q⟩
theorem Cu:OpR X (compareOp .Eq) rEq:=by
 intro pins s σ H x y v u Q I rx ry h
 obtain ⟨hs,q⟩:=h
 cases x with
 | non=>
   cases rx
   cases y with
   | non=>cases ry;exact PySem.EqNone.eq_none_none (BR I q (by simp))
   | bl j=>cases ry;exact PySem.EqNone.eq_none_bool (BR I q (by simp))
   | int j=>obtain ⟨t',rfl⟩:=ry;exact PySem.EqNone.eq_none_int (BR I q (by simp))
   | str j=>obtain ⟨t',rfl⟩:=ry;exact PySem.EqNone.eq_none_str (BR I q (by simp))
   | _=>exact absurd (show false=true from hs) Ca
 | bl i=>
   cases rx
   cases y with
   | non=>cases ry;exact PySem.EqNone.eq_bool_none (BR I q (by simp))
   | bl j=>cases ry;exact eq_bool (BR I q Ls)
   | str j=>obtain ⟨t',rfl⟩:=ry;exact PySem.EqMixed.eq_bool_str (BR I q (by simp))
   | _=>exact absurd (show false=true from hs) Ca
 | int i=>
   obtain ⟨t,rfl⟩:=rx
   cases y with
   | non=>cases ry;exact PySem.EqNone.eq_int_none (BR I q (by simp))
   | int j=>obtain ⟨t',rfl⟩:=ry;exact eq_int (BR I q Lr)
   | str j=>obtain ⟨t',rfl⟩:=ry;exact PySem.EqMixed.eq_int_str (BR I q (by simp))
   | _=>exact absurd (show false=true from hs) Ca
 | str i=>
   obtain ⟨t,rfl⟩:=rx
   cases y with
   | non=>cases ry;exact PySem.EqNone.eq_str_none (BR I q (by simp))
   | bl j=>cases ry;exact PySem.EqMixed.eq_str_bool (BR I q (by simp))
   | int j=>obtain ⟨t',rfl⟩:=ry;exact PySem.EqMixed.eq_str_int (BR I q (by simp))
   | str j=>obtain ⟨t',rfl⟩:=ry;exact eq_str (BR I q Lu)
   | _=>exact absurd (show false=true from hs) Ca
 | byt i=>
   obtain ⟨t,rfl⟩:=rx
   cases y with
   | byt j=>obtain ⟨t',rfl⟩:=ry;exact PySem.W.eq_bytes (BR I q Lx)
   | _=>exact absurd (show false=true from hs) Ca
 | _=>cases y <;> exact absurd (show false=true from hs) Ca
theorem Ec:OpR X (compareOp .NotEq) rNe:=by
 intro pins s σ H x y v u Q I rx ry h
 obtain ⟨hs,q⟩:=h
 cases x with
 | non=>
   cases rx
   cases y with
   | non=>cases ry;exact PySem.EqNone.ne_none_none (BR I q (by simp))
   | bl j=>cases ry;exact PySem.EqNone.ne_none_bool (BR I q (by simp))
   | int j=>obtain ⟨t',rfl⟩:=ry;exact PySem.EqNone.ne_none_int (BR I q (by simp))
   | str j=>obtain ⟨t',rfl⟩:=ry;exact PySem.EqNone.ne_none_str (BR I q (by simp))
   | _=>exact absurd (show false=true from hs) Ca
 | bl i=>
   cases rx
   cases y with
   | non=>cases ry;exact PySem.EqNone.ne_bool_none (BR I q (by simp))
   | bl j=>cases ry;exact ne_bool (BR I q (congrArg not Ls))
   | str j=>obtain ⟨t',rfl⟩:=ry;exact PySem.EqMixed.ne_bool_str (BR I q (by simp))
   | _=>exact absurd (show false=true from hs) Ca
 | int i=>
   obtain ⟨t,rfl⟩:=rx
   cases y with
   | non=>cases ry;exact PySem.EqNone.ne_int_none (BR I q (by simp))
   | int j=>obtain ⟨t',rfl⟩:=ry;exact ne_int (BR I q (congrArg not Lr))
   | str j=>obtain ⟨t',rfl⟩:=ry;exact PySem.EqMixed.ne_int_str (BR I q (by simp))
   | _=>exact absurd (show false=true from hs) Ca
 | str i=>
   obtain ⟨t,rfl⟩:=rx
   cases y with
   | non=>cases ry;exact PySem.EqNone.ne_str_none (BR I q (by simp))
   | bl j=>cases ry;exact PySem.EqMixed.ne_str_bool (BR I q (by simp))
   | int j=>obtain ⟨t',rfl⟩:=ry;exact PySem.EqMixed.ne_str_int (BR I q (by simp))
   | str j=>obtain ⟨t',rfl⟩:=ry;exact ne_str (BR I q (congrArg not Lu))
   | _=>exact absurd (show false=true from hs) Ca
 | byt i=>
   obtain ⟨t,rfl⟩:=rx
   cases y with
   | byt j=>obtain ⟨t',rfl⟩:=ry;exact PySem.W.ne_bytes (BR I q (congrArg not Lx))
   | _=>exact absurd (show false=true from hs) Ca
 | _=>cases y <;> exact absurd (show false=true from hs) Ca
theorem EH:OpR X (compareOp .Lt) (rI0 λi j=>.bl (decide (i<j))):=JR λ_ _ _ _ _ _ _ q=>lt_int q
theorem DU:OpR X (compareOp .Gt) (rI0 λi j=>.bl (decide (j<i))):=JR λ_ _ _ _ _ _ _ q=>gt_int q
theorem SJ:OpR X (compareOp .GtE) (rI0 λi j=>.bl (decide (j<=i))):=JR λ_ _ _ _ _ _ _ q=>ge_int q
theorem Gi:OpR X (compareOp .Is) (λx y H Q=>y=.non/\Q (.bl (decide (x=.non))) H):=by
 intro pins s σ H x y v u Q I rx ry h
 obtain ⟨rfl,q⟩:=h
 cases ry
 refine is_none_gen (BR I q ?_)
 cases x <;> first
  | (cases rx;rfl)
  | (obtain ⟨t,rfl⟩:=rx;rfl)
theorem Gj:OpR X (compareOp .IsNot) (λx y H Q=>y=.non/\Q (.bl (!decide (x=.non))) H):=by
 intro pins s σ H x y v u Q I rx ry h
 obtain ⟨rfl,q⟩:=h
 cases ry
 refine isnot_none_gen (BR I q ?_)
 cases x <;> first
  | (cases rx;rfl)
  | (obtain ⟨t,rfl⟩:=rx;rfl)
theorem nomark (b:Expr) {op:CmpOp} (h:op≠.In:=by decide) (h2:op≠.NotIn:=by decide):behindInMarks op b=false:=by
 have e1:(op == CmpOp.In)=false:=by cases op <;> first | rfl | exact absurd rfl h
 have e2:(op == CmpOp.NotIn)=false:=by cases op <;> first | rfl | exact absurd rfl h2
 cases b <;> simp [behindInMarks,e1,e2]
theorem Ex {op:CmpOp} {r:R2} (ho:OpR X (compareOp op) r) (ha:PE X a ta) (hb:PE X b tb) (hm:behindInMarks op b=false):PE X (.Compare a [op] [b] pos) (tOp r ta tb):=by
 intro pins s σ H Q I h
 exact wpAny_Compare1 (JQ ha hb I h λv u s2 x y H2 I2 rx ry q=>ho pins s2 σ H2 x y v u Q I2 rx ry q) hm
noncomputable def Ab (t:TE):TT:=λσ H Q=>t σ H λx H'=>∃ k,x=.bl k/\Q k H'
theorem SK {op:CmpOp} {r:R2} (ho:OpR X (compareOp op) r) (ha:PE X a ta) (hb:PE X b tb) (hm:behindInMarks op b=false):PT X (.Compare a [op] [b] pos) (Ab (tOp r ta tb)):=by
 intro pins s σ H Q I h
 refine wpAny_isTrue_Compare1 (thn (ha pins s σ H _ I h) λv s1 ⟨x,H1,I1,r1,q1⟩=>thn (hb pins s1 σ H1 _ I1 q1) λu s2 ⟨y,H2,I2,r2,q2⟩=>
  thn (ho pins s2 σ H2 x y v u _ I2 r1 r2 q2) λc s3 ⟨z,H3,I3,r3,k,e,q3⟩=>?_) hm
 subst e
 cases r3
 exact wpAny_truthy_bool ⟨H3,I3,q3⟩
noncomputable def SL (r r':R2) (ta tb tc:TE):TE:=λσ H Q=>ta σ H λx H1=>tb σ H1 λy H2=>r x y H2 λz H3=>∃ k,z=.bl k/\
 (if k=true then tc σ H3 λw' H4=>r' y w' H4 Q else Q (.bl false) H3)
noncomputable def SM (K:PySem.W.Frag) (x:V) (H:Hp) (k:Bool):Prop:=
 match x with
 | .non=>k=false
 | .bl b=>k=b
 | .int i=>k=(i != 0)
 | .str y=>y.length<=sizeLine/\k=((y.length:Int) != 0)
 | .byt y=>y.size<=sizeLine/\k=((y.size:Int) != 0)
 | .ref p=>(∃ xs,SqL K H p xs/\k=!xs.isEmpty)\/(∃ xs,SqT K H p xs/\k=!xs.isEmpty)\/∃ kvs,H p=some (.dK kvs)/\k=!kvs.isEmpty
 | _=>False
theorem SN {κ:Type} {kvs:List (κ×V)} {vs:List (κ×Value)} (r:KV kvs vs):(!vs.isEmpty)=!kvs.isEmpty:=by
 cases r <;> rfl
theorem Ly {xs:List V} {its:List Value} (r:Vals xs its):(!its.toArray.isEmpty)=!xs.isEmpty:=by
 cases r <;> simp
theorem F1:(sizeLine:Nat)<2 ^ 63:=by rw [sizeLine_eq];decide
theorem SO:SG X (λx H Q=>∃ k,SM X.K x H k/\Q k H):=by
 intro pins s σ H x v Q I rx h
 obtain ⟨k,e,q⟩:=h
 have hl:=F1
 have hs:sizeLine=16777216:=sizeLine_eq
 cases x with
 | non=>
   cases rx
   have e':k=false:=e
   subst e'
   exact truthy_none ⟨H,I,q⟩
 | bl b=>
   cases rx
   have e':k=b:=e
   subst e'
   exact wpAny_truthy_bool ⟨H,I,q⟩
 | int i=>
   obtain ⟨t,rfl⟩:=rx
   have e':k=(i != 0):=e
   subst e'
   exact PySem.P.truthy_int ⟨H,I,q⟩
 | str y=>
   obtain ⟨t,rfl⟩:=rx
   obtain ⟨hy,e'⟩:y.length<=sizeLine/\k=((y.length:Int) != 0):=e
   subst e'
   exact PySem.P.truthy_str ⋯ ⟨H,I.tok _,q⟩
 | byt y=>
   obtain ⟨t,rfl⟩:=rx
   obtain ⟨hy,e'⟩:y.size<=sizeLine/\k=((y.size:Int) != 0):=e
   subst e'
   exact PySem.W.truthy_bytes ⋯ ⟨H,I.tok _,q⟩
 | ref p=>
   cases rx
   have e':(∃ xs,SqL X.K H p xs/\k=!xs.isEmpty)\/(∃ xs,SqT X.K H p xs/\k=!xs.isEmpty)\/∃ kvs,H p=some (.dK kvs)/\k=!kvs.isEmpty:=e
   rcases e' with ⟨xs,hx,e'⟩ | ⟨xs,hx,e'⟩ | ⟨kvs,hx,e'⟩
   ·subst e'
    obtain ⟨its,r,pl,hz⟩:=I.list hx
    have hlen:=r.length
    exact wpAny_truthy_list pl.isList (by simp only [BF];omega) ⟨H,I.tok _,by rw [Ly r];exact q⟩
   ·subst e'
    obtain ⟨its,r,pl,hz⟩:=I.tuple hx
    have hlen:=r.length
    exact truthy_tuple pl (by simp only [BF];omega) ⟨H,I.tok _,by rw [Ly r];exact q⟩
   ·subst e'
    obtain ⟨hz,hS,vs,r,m⟩:kvs.length<=sizeLine/\(p == sysModules)=false/\∃ vs,KV kvs vs/\s.heap.DictOf (EY X.prog X.w) p vs:=I.hok p _ hx
    have hlen:kvs.length=vs.length:=Paired.length r
    exact wpAny_truthy_dict hS m ⋯ ⟨H,I.tok _,by rw [SN r];exact q⟩
 | _=>exact (show False from e).elim
theorem Dj {x:V} {us:List Value} (r:Vals [x] us):∃ u,us=[u]/\RelV x u:=by
 cases r with
 | cons r1 r2=>cases r2;exact ⟨_,rfl,r1⟩
theorem vals2 {x y:V} {us:List Value} (r:Vals [x,y] us):∃ u w',us=[u,w']/\RelV x u/\RelV y w':=by
 cases r with
 | cons r1 r2=>
   cases r2 with
   | cons r3 r4=>cases r4;exact ⟨_,_,rfl,r1,r3⟩
theorem SQ:CY X (.builtin "abs") (λxs H Q=>∃ i,xs=[.int i]/\Q (.int (if i<0 then -i else i)) H):=by
 intro pins s σ H xs us Q I r h
 obtain ⟨i,rfl,q⟩:=h
 obtain ⟨u,rfl,t,rfl⟩:=Dj r
 exact call_abs_int λu tk=>⟨.int (if i<0 then -i else i),H,I.tok _,⟨_,rfl⟩,q⟩
theorem SR (hc:X.calm=true):CY X (.builtin "max") (λxs H Q=>∃ i j,xs=[.int i,.int j]/\Q (.int (if j > i then j else i)) H):=by
 intro pins s σ H xs us Q I r h
 obtain ⟨i,j,rfl,q⟩:=h
 obtain ⟨u,w',rfl,⟨t,rfl⟩,⟨t',rfl⟩⟩:=vals2 r
 refine max_two_ints (I.ok.hd hc) λh' tk k=>⟨_,H,I.kept k,?_,q⟩
 by_cases hj:j > i
 ·rw [Zu hj,Zu hj];exact ⟨_,rfl⟩
 ·rw [Zt hj,Zt hj];exact ⟨_,rfl⟩
theorem SS:CY X (.type "int") (λxs H Q=>(∃ i,xs=[.int i]/\Q (.int i) H)\/∃ k,xs=[.bl k]/\Q (.int (if k then 1 else 0)) H):=by
 intro pins s σ H xs us Q I r h
 rcases h with ⟨i,rfl,q⟩ | ⟨k,rfl,q⟩
 ·obtain ⟨u,rfl,t,rfl⟩:=Dj r
  exact call_int_int ⟨.int i,H,I,⟨_,rfl⟩,q⟩
 ·obtain ⟨u,rfl,r1⟩:=Dj r
  cases r1
  exact call_int_bool ⟨.int (if k then 1 else 0),H,I.tok _,⟨_,rfl⟩,q⟩
end
end L2
namespace L2
open PySem PySem.Spec PyProof.Rows
structure ObjM (h:Heap) (x dx C:Addr) (mA:Str->Option Value):Prop where
 obj:h.get? x=some (PySem.W.instObj C dx)
 ns:h.Ns1 dx mA
 ne:dx≠x
section
variable {prog:Program} {w:World} {A:Around} {E:Value->Shared->Prop} {s:Shared} {K:PySem.W.Frag} {x dx C f:Addr} {mA:Str->Option Value} {name:Str} {v:Value}
end
section
variable {P:Program} {w:World} {H H':Hp} {h h':Heap} {a C dx:Addr} {fs fs':List (Str×V)}
end
structure Cls (K:PySem.W.Frag) (C:Addr):Prop where
 pg:PySem.W.plainGet K C Str.empty=true
 hd:PySem.W.hasDictIn K C=true
 po:PySem.W.plainOver K C=true
 sa:PySem.W.findIn K (.ref C) "__setattr__" = some (some (.builtin "object.__setattr__"))
structure Con (K:PySem.W.Frag) (C:Addr) (f:Str) (v:V) (u:Value):Prop where
 at_:PySem.W.findIn K (.ref C) f=some (some u)
 rel:RelV v u
 get:PySem.W.specialIn K u "__get__" = some none
 cp:PySem.W.copiedNames.contains f=false
structure Meth (K:PySem.W.Frag) (C:Addr) (m:Str) (f:Addr):Prop where
 at_:PySem.W.findIn K (.ref C) m=some (some (.ref f))
 fn:PySem.W.isFn K (.ref f)=true
 kp:PySem.W.keepIn K (.ref f)=true
section
variable {X:Cx} {pins:List (Addr×Obj)} {σ:St} {H:Hp} {s:Shared} {a C dx:Addr} {fs:List (Str×V)} {f:Str} {v:V} {A:Around} {E:Value->Shared->Prop}
end
section
variable {X:Cx} {o e value:Expr} {f:Str} {pos pos' tpos:Pos} {ta tv:TE}
end
section
variable {X:Cx} {pins:List (Addr×Obj)} {σ:St} {H:Hp} {s:Shared} {A:Around} {E:Value->Shared->Prop} {Q:Value->Shared->Prop} {c:Value} {b:Bool}
inductive TyOf (K:PySem.W.Frag) (H:Hp):V->Value->Prop where
 | non:TyOf K H .non (.type "NoneType")
 | bl (x:Bool):TyOf K H (.bl x) (.type "bool")
 | int (i:Int):TyOf K H (.int i) (.type "int")
 | str (x:Str):TyOf K H (.str x) (.type "str")
 | flt (x:UInt64):TyOf K H (.flt x) (.type "float")
 | lst {a:Addr} {xs:List V} (e:H a=some (.lst xs)):TyOf K H (.ref a) (.type "list")
 | frz {a:Addr} {o:Obj} {xs:List V} (e:H a=some (.frz o (.lst xs))):TyOf K H (.ref a) (.type "list")
 | tup {a:Addr} {xs:List V} (e:H a=some (.tup xs)):TyOf K H (.ref a) (.type "tuple")
 | dK {a:Addr} {kvs:List (Key×V)} (e:H a=some (.dK kvs)):TyOf K H (.ref a) (.type "dict")
 | dT {a:Addr} {kvs:List (List Key×V)} (e:H a=some (.dT kvs)):TyOf K H (.ref a) (.type "dict")
 | ins {a C dx:Addr} {fs:List (Str×V)} (e:H a=some (.ins C dx fs)) (cl:Cls K C) (ha:PySem.W.findIn K (.ref C) "__class__" = some (some (.builtin "object.__class__")))
   (hn:PySem.W.specialIn K (.builtin "object.__class__") "__get__" = some (some (.builtin "getset_descriptor.__get__"))) (htk:PySem.W.takesIn K (.builtin "object.__class__")=some true)
   (hm:PySem.W.mroIn K C (.type "object")=some true):TyOf K H (.ref a) (.ref C)
end
end L2
namespace L2
open PySem PySem.Spec PyProof.Rows
structure Room (k:Nat) (A:Around):Prop where
 hd:A.handled=none
 dp:A.depth+3*k+105<recursionLimit
 un:A.units+16*k+200<cLine
theorem Room.mono {j k:Nat} {A:Around} (r:Room k A) (h:j<=k):Room j A:=⟨r.hd,by have:=r.dp;omega,by have:=r.un;omega⟩
theorem Room.deeper {k:Nat} {A:Around} (r:Room (k+1) A) (env:Env):Room k (A.deeper env):=
 ⟨r.hd,by have:=r.dp;show A.depth+1+3*k+105<_;omega,by have:=r.un;show A.units+3+16*k+200<_;omega⟩
theorem Room.depth {k:Nat} {A:Around} (r:Room k A):A.depth<recursionLimit:=by have:=r.dp;omega
theorem Room.units {k:Nat} {A:Around} (r:Room k A):A.units+64<cLine:=by have:=r.un;omega
theorem Room.units0 {k:Nat} {A:Around} (r:Room k A):A.units<cLine:=by have:=r.un;omega
noncomputable def AC:TA:=λ_ H Q=>Q [] H
noncomputable def AB (ta:TE) (tr:TA):TA:=λσ H Q=>ta σ H λx H1=>tr σ H1 λxs H2=>Q (x::xs) H2
section
variable {X:Cx} {e:Expr} {es:List Expr} {te:TE} {t:TA} {pos:Pos}
theorem AK:PA X [] AC:=λ_ _ _ _ H Q I h=>Calls.spliced_nil ⟨[],H,I,.nil,h⟩
theorem AE (ha:PE X e te) (hr:PA X es t) (hs:starEach (e::es) X.env=(false,eval e X.env)::starEach es X.env:=by rfl):PA X (e::es) (AB te t):=by
 intro pos pins s σ H Q I h
 rw [hs]
 show wpAny _ _ (spliced ((false,eval e X.env)::backTo pos (starEach es X.env))) _ _ s
 refine Calls.spliced_cons (thn (ha pins s σ H _ I h) λu s1 ⟨x,H1,I1,r1,q1⟩=>?_)
 exact thn (hr pos pins s1 σ H1 _ I1 q1) λus s2 ⟨xs,H2,I2,r2,q2⟩=>⟨x::xs,H2,I2,.cons r1 r2,q2⟩
noncomputable def CK (t:TA):TE:=λσ H Q=>t σ H λxs H1=>xs.length<=sizeLine/\∀ p,H1 p=none->Q (.ref p) (upd H1 p (.tup xs))
noncomputable def BW (t:TA):TE:=λσ H Q=>t σ H λxs H1=>xs.length<=sizeLine/\∀ p,H1 p=none->Q (.ref p) (upd H1 p (.lst xs))
theorem Cf {x1} (h:PA X es t):PE X (.Tuple es x1 pos) (CK t):=by
 intro pins s σ H Q I hq
 refine wpAny_Tuple_spliced (thn (h pos pins s σ H _ I hq) λus s1 ⟨xs,H1,I1,r,z,q⟩=>⟨by rw [<-r.length];exact z,?_⟩)
 have hf:H1 s1.heap.objs.size=none:=I1.hok.fresh (AS _)
 refine ⟨.ref s1.heap.objs.size,upd H1 s1.heap.objs.size (.tup xs),I1.laid (t':=s1.toks) (λb u e=>Heap.get?_push_of_some _ e) (AS _) ?_,rfl,q _ hf⟩
 exact ⟨z,us,r,⟨_,Heap.get?_push_size _ rfl,rfl,_,rfl⟩⟩
theorem B3 (h:PA X es t):PE X (.List es pos) (BW t):=by
 intro pins s σ H Q I hq
 refine wpAny_List_spliced (thn (h pos pins s σ H _ I hq) λus s1 ⟨xs,H1,I1,r,z,q⟩=>⟨by rw [<-r.length];exact z,?_⟩)
 have hf:H1 s1.heap.objs.size=none:=I1.hok.fresh (AS _)
 refine ⟨.ref s1.heap.objs.size,upd H1 s1.heap.objs.size (.lst xs),I1.laid (t':=s1.toks) (λb u e=>Heap.get?_push_of_some _ e) (AS _) ?_,rfl,q _ hf⟩
 exact ⟨z,us,0,r,Heap.get?_push_size _ rfl⟩
end
noncomputable abbrev Sp:=List V->Hp->VK->XK->Prop
noncomputable abbrev CXT:=List Env->Hp->Shared->XK->Value->Shared->Prop
structure Env0 (P:Program) (w:World) (K:PySem.W.Frag) (mg:Str->Option Value) (base:Heap) (A:Around) (outer:List Env) (s:Shared) (H:Hp):Prop where
 frames:A.frames=some outer
 mod:Mod K mg base
 bs:∀ b o,base.get? b=some o->s.heap.get? b=some o/\H b=none
 bsz:base.objs.size<=s.heap.objs.size
 funs:s.heap.FunFrames base outer
 frf:∀ b∈frs outer,H b=none
 hok:HOk P w H s.heap
 bare:AllBare s.gens
 seer:base.NoSeer
 tree:(model P w).prog.given.tree=none
noncomputable def CE (outer:List Env) (P:Program) (w:World) (H:Hp) (s:Shared) (Q:VK) (u:Value) (s':Shared):Prop:=
 ∃ v H',s'.os=s.os/\AllBare s'.gens/\Un (frs outer) [] H H' s.heap s'.heap/\HOk P w H' s'.heap/\RelV v u/\Q v H'
noncomputable def CR (CX:CXT) (outer:List Env) (P:Program) (w:World) (H:Hp) (s:Shared) (Q:VK) (E:XK) (r:Result) (s':Shared):Prop:=
 match r with
 | .ok (.ret u)=>CE outer P w H s Q u s'
 | .ok _=>False
 | .error e=>CX outer H s E e s'
structure FnOk (P:Program) (w:World) (K:PySem.W.Frag) (mg:Str->Option Value) (base:Heap) (CX:CXT) (k:Nat) (f:Addr) (fd:FuncData) (ps:List Str) (sp:Sp):Prop where
 len:∀ vs H Q E,sp vs H Q E->vs.length=ps.length
 run:∀ (A:Around) (outer:List Env) (s:Shared) (H:Hp) (args:Args) (us:List Value) (vs:List V) (Q:VK) (E:XK),Room k A->Env0 P w K mg base A outer s H->BindsTo s fd args (ps.zip us)->Vals vs us->sp vs H Q E->
  codeAny (model P w) A (.call (.ref f) args) (CR CX outer P w H s Q E) s
section
variable {X:Cx} {pins:List (Addr×Obj)} {σ:St} {H:Hp} {s s':Shared}
theorem Inv.env0 (I:Inv X pins σ H s):Env0 X.prog X.w X.K X.mg X.base X.A X.stack s H:=
 ⟨I.ok.frames,I.ok.mod,I.bs,Be I.ok.bsz I.sz,I.stack,I.stkFree,I.hok,I.bare,I.ok.seer,I.ok.tree⟩
theorem Inv.after {Q:VK} {u:Value} (I:Inv X pins σ H s) (h:CE X.stack X.prog X.w H s Q u s'):EP X pins σ Q u s':=by
 obtain ⟨v,H',os,bare,un,hok,r,q⟩:=h
 obtain ⟨hh,g,d,t,os'⟩:=s'
 obtain rfl:os'=s.os:=os
 exact ⟨v,H',I.call (h':=hh) (g':=g) (d':=d) (t':=t) (ch:=[]) un hok bare (λb z=>absurd z (by simp)),r,q⟩
end
noncomputable def AN (sp:Sp) (dvs:List V) (E:XK) (t:TA):TE:=λσ H Q=>t σ H λvs H1=>sp (vs++dvs) H1 Q E
noncomputable def Binds (K:PySem.W.Frag) (fd:FuncData) (ps:List Str) (ds:List Value):Prop:=
 ∀ (s:Shared) (us:List Value),K.In s.heap->(us++ds).length=ps.length->BindsTo s fd ⟨us,[]⟩ (ps.zip (us++ds))
theorem Binds.all {K:PySem.W.Frag} {fd:FuncData} {ps:List Str} (h:∀ us:List Value,us.length=ps.length->bindArgs fd ⟨us,[]⟩=pure (ps.zip us)):Binds K fd ps []:=λs us _ hl=>by
 rw [List.append_nil] at hl ⊢
 exact .of_eq (h us hl)
noncomputable def Passes (CX:CXT) (X:Cx) (E:XK):Prop:=∀ (pins:List (Addr×Obj)) (σ:St) (H:Hp) (s:Shared) (e:Value) (s':Shared),Inv X pins σ H s->CX X.stack H s E e s'->X.xe e s'
section
variable {X:Cx} {CX:CXT} {k:Nat} {f C:Addr} {fd:FuncData} {ps:List Str} {sp:Sp} {dvs:List V} {ds:List Value} {E:XK} {x m:Str} {p pos apos:Pos} {e o:Expr} {es:List Expr} {ta:TE} {t:TA}
theorem ST {pins:List (Addr×Obj)} {σ:St} {H:Hp} {s:Shared} {Q:VK} {us:List Value} {vs:List V} (F:FnOk X.prog X.w X.K X.mg X.base CX k f fd ps sp) (hr:Room k X.A) (hb:Binds X.K fd ps ds) (hd:Vals dvs ds) (hx:Passes CX X E)
  (I:Inv X pins σ H s) (r:Vals vs us) (h:sp (vs++dvs) H Q E):wpAny (model X.prog X.w) X.A (call (.ref f) us) (EP X pins σ Q) X.xe s:=by
 have r2:Vals (vs++dvs) (us++ds):=r.append hd
 have hl:(us++ds).length=ps.length:=by rw [<-r2.length];exact F.len _ _ _ _ h
 refine wpAny_call (codeAny_mono (F.run X.A X.stack s H ⟨us,[]⟩ (us++ds) (vs++dvs) Q E hr I.env0 (hb s us I.kIn hl) r2 h) λr s' hq=>?_)
 cases r with
 | error e=>exact hx pins σ H s e s' I hq
 | ok fl=>
   cases fl with
   | ret u=>exact I.after hq
   | next=>exact False.elim hq
   | brk=>exact False.elim hq
   | cont=>exact False.elim hq
theorem SU (F:FnOk X.prog X.w X.K X.mg X.base CX k f fd ps sp) (hr:Room k X.A) (hg:Gl X x) (hm:X.mg x=some (.ref f)) (hk:PySem.W.keepIn X.K (.ref f)=true) (hb:Binds X.K fd ps ds) (hd:Vals dvs ds) (hx:Passes CX X E)
  (ha:PA X (e::es) t) (hdb:(x == ("__debug__" : Str))=false:=by decide) (he:starEach (e::es) X.env=(false,eval e X.env)::starEach es X.env:=by rfl) (hpl:(backTo pos (starEach es X.env)).any (·.1)=false:=by rfl) :
  PE X (.Call (.Name x p) (e::es) [] pos) (AN sp dvs E t):=by
 intro pins s σ H Q I h
 refine wpAny_Call_Name_kw (Ll I hg hm ?_ hdb)
 refine PySem.W.callWith_K (h₀:=X.base) I.ok.mod.kin hk (thn (ha pos pins s σ H _ I h) λus s1 ⟨vs,H1,I1,r,q⟩=>⟨I1.kIn,?_⟩) he hpl
 exact ST F hr hb hd hx I1 r q
structure Mk (K:PySem.W.Frag) (C f:Addr):Prop where
 makes:PySem.W.makesIn K C=true
 init:PySem.W.findIn K (.ref C) "__init__" = some (some (.ref f))
 fn:PySem.W.isFn K (.ref f)=true
 kp:PySem.W.keepIn K (.ref C)=true
end
noncomputable def PK (X:Cx) (kws:List Keyword) (t:TA):Prop:=
 ∀ (pos:Pos) (pins:List (Addr×Obj)) (s:Shared) (σ:St) (H:Hp) (Q:List V->Hp->Prop),Inv X pins σ H s->t σ H Q->wpAny (model X.prog X.w) X.A (evalAll ((backToKw pos (keywordEach kws X.env)).map (·.2))) (AP X pins σ Q) X.xe s
section
variable {X:Cx} {CX:CXT} {k:Nat} {f C:Addr} {fd:FuncData} {ps ks:List Str} {sp:Sp} {E:XK} {x m:Str} {p pos apos kpos:Pos} {e o:Expr} {es:List Expr} {kws:List Keyword} {te ta:TE} {t tk:TA} {nm:Option Str}
theorem SV:PK X [] AC:=λ_ _ _ _ H Q I h=>wpAny_evalAll_nil ⟨[],H,I,.nil,h⟩
theorem SW (ha:PE X e te) (hr:PK X kws t):PK X (⟨nm,e,kpos⟩::kws) (AB te t):=by
 intro pos pins s σ H Q I h
 show wpAny _ _ (evalAll ((do let v <-eval e X.env;standAt pos;pure v)::(backToKw pos (keywordEach kws X.env)).map (·.2))) _ _ s
 refine wpAny_evalAll_cons (Zy (thn (ha pins s σ H _ I h) λu s1 ⟨x,H1,I1,r1,q1⟩=>Zy (wpAny_standAt (Zz ?_))))
 exact thn (hr pos pins s1 σ H1 _ I1 q1) λus s2 ⟨xs,H2,I2,r2,q2⟩=>⟨x::xs,H2,I2,.cons r1 r2,q2⟩
structure KBinds (K:PySem.W.Frag) (fd:FuncData) (ps ks:List Str) (g:List Value->List Value->List Value) (gV:List V->List V->List V):Prop where
 to:∀ (s:Shared) (us ws:List Value),K.In s.heap->(g us ws).length=ps.length->BindsTo s fd ⟨us,ks.zip ws⟩ (ps.zip (g us ws))
 rel:∀ {vs:List V} {us:List Value} {zs:List V} {ws:List Value},Vals vs us->Vals zs ws->Vals (gV vs zs) (g us ws)
variable {g:List Value->List Value->List Value} {gV:List V->List V->List V}
end
structure FnScope (N P:List Str) (sc:Scope):Prop where
 kind:sc.kind=.function
 co:sc.isCoroutine=false
 gen:sc.isGenerator=false
 nd:N.Nodup
 pre:N.take P.length=P
 par:∀ x∈P,sc.names.lookup x=some .local\/sc.names.lookup x=some .cell
 nofree:∀ y∈sc.names,y.2≠.free
theorem L9 {kindOf:Str->Option NameKind} {x:Str}:∀ {binds:List (Str×Value)} {m:Str->Option Value},(∀ v,(x,v)∉binds)->bindL kindOf binds m x=m x
 | [],_,_=>rfl
 | (n,v)::r,m,h=>by
   unfold bindL
   rw [L9 λw hw=>h w (BN _ hw)]
   split
   ·have:x≠n:=by rintro rfl;exact h v BC
    simp [this]
   ·rfl
theorem MA {kindOf:Str->Option NameKind} {x:Str}:∀ {binds:List (Str×Value)} {m:Str->Option Value},(∀ v,(x,v)∉binds)->bindC kindOf binds m x=m x
 | [],_,_=>rfl
 | (n,v)::r,m,h=>by
   unfold bindC
   rw [MA λw hw=>h w (BN _ hw)]
   split
   ·rfl
   ·have:x≠n:=by rintro rfl;exact h v BC
    simp [this]
theorem MB {kindOf:Str->Option NameKind} {x:Str} {v:Value}:∀ {P:List Str} {vs:List Value} {i:Nat} {m:Str->Option Value},P.Nodup->P[i]?=some x->vs[i]?=some v->kindOf x=some .local->
  bindL kindOf (P.zip vs) m x=some v
 | [],_,_,_,_,h,_,_=>by simp at h
 | _::_,[],_,_,_,_,h,_=>by simp at h
 | p::P,w::vs,0,m,nd,h1,h2,hk=>by
   simp at h1 h2;subst h1;subst h2
   show bindL kindOf ((p,w)::P.zip vs) m p=_
   unfold bindL
   rw [L9 λv hv=>(List.nodup_cons.mp nd).1 (List.of_mem_zip hv).1,Zu hk]
   simp
 | p::P,w::vs,i+1,m,nd,h1,h2,hk=>by
   show bindL kindOf ((p,w)::P.zip vs) m x=_
   unfold bindL
   exact MB (i:=i) (List.nodup_cons.mp nd).2 (by simpa using h1) (by simpa using h2) hk
theorem MD {kindOf:Str->Option NameKind} {x:Str} {v:Value}:∀ {P:List Str} {vs:List Value} {i:Nat} {m:Str->Option Value},P.Nodup->P[i]?=some x->vs[i]?=some v->kindOf x≠some .local->
  bindC kindOf (P.zip vs) m x=some v
 | [],_,_,_,_,h,_,_=>by simp at h
 | _::_,[],_,_,_,_,h,_=>by simp at h
 | p::P,w::vs,0,m,nd,h1,h2,hk=>by
   simp at h1 h2;subst h1;subst h2
   show bindC kindOf ((p,w)::P.zip vs) m p=_
   unfold bindC
   rw [MA λv hv=>(List.nodup_cons.mp nd).1 (List.of_mem_zip hv).1,Zt hk]
   simp
 | p::P,w::vs,i+1,m,nd,h1,h2,hk=>by
   show bindC kindOf ((p,w)::P.zip vs) m x=_
   unfold bindC
   exact MD (i:=i) (List.nodup_cons.mp nd).2 (by simpa using h1) (by simpa using h2) hk
noncomputable def start (N:List Str) (vs:List V):St:=vs.map some++List.replicate (N.length - vs.length) none
noncomputable def FN (CX:CXT) (P:Program) (w:World) (K:PySem.W.Frag) (mg:Str->Option Value) (base:Heap) (N:List Str) (qual:Str) (scope:Scope) (f:Addr) (cd:Value) (A:Around) (outer:List Env) (s:Shared) (H:Hp) (E:XK):Cx where
 prog:=P
 w:=w
 K:=K
 mg:=mg
 base:=base
 A:=A.deeper (envOfC qual scope s.heap.objs.size f cd)
 N:=N
 s₀:=s
 H₀:=H
 env:=envOfC qual scope s.heap.objs.size f cd
 outer:=outer
 stack:=envOfC qual scope s.heap.objs.size f cd::outer
 ex:=[]
 calm:=true
 fn:=λ_=>true
 pn:=[]
 xe:=λe s'=>wpAny (model P w) (A.deeper (envOfC qual scope s.heap.objs.size f cd)) (leaving (envOfC qual scope s.heap.objs.size f cd) e) (λ_ s''=>CX outer H s E e s'') (λe' s''=>CX outer H s E e' s'') s'
theorem ME {sc:Scope} {n:Nat} {x:Str} (h:sc.names.lookup x=some .cell):∃ c,(cellsFrom n sc.names []).lookup x=some c:=by
 have q:=PySem.W.cellsFrom_some sc.names n [] (.inl h)
 exact Option.isSome_iff_exists.mp q
theorem SX {CX:CXT} {P:Program} {w:World} {K:PySem.W.Frag} {mg:Str->Option Value} {base:Heap} {N ps:List Str} {qual:Str} {scope:Scope} {f:Addr} {cd:Value} {A:Around} {outer:List Env} {s s1:Shared} {H:Hp} {E:XK} {us:List Value} {vs:List V}
  (S:FnScope N ps scope) (hd:A.handled=none) (hdp:(A.deeper (envOfC qual scope s.heap.objs.size f cd)).depth+Builtin.pylongFrames<recursionLimit) (e0:Env0 P w K mg base A outer s H) (hl:vs.length=ps.length) (r:Vals vs us)
  (x:InCallC s s.heap.objs.size (bindL (envOfC qual scope s.heap.objs.size f cd).kindOf (ps.zip us) λ_=>none) (cellsFrom (s.heap.objs.size+1) scope.names []) (bindC (envOfC qual scope s.heap.objs.size f cd).kindOf (ps.zip us) λ_=>none) s1) :
  Inv (FN CX P w K mg base N qual scope f cd A outer s H E) [] (start N vs) H s1:=by
 have hpl:ps.length<=N.length:=by have:=congrArg List.length S.pre;rw [Cm] at this;omega
 obtain ⟨h1,tk,rfl,hk⟩:=x.done
 have noA:∀ b:Addr,b∉(FN CX P w K mg base N qual scope f cd A outer s H E).ex:=λb z=>absurd (show b∈([]:List Addr) from z) (by simp)
 refine ⟨⟨e0.mod,S.kind,rfl,rfl,AS _,λy z c h1 h2=>?_,λy hy=>?_,λy c _ h=>?_,λ_=>hd,Around.frames_deeper e0.frames,.inr ⟨rfl,rfl⟩,λb z=>absurd z (noA b),e0.bs,e0.bsz,λb _ _=>noA b,λb z=>absurd z (noA b),e0.funs,e0.frf,e0.seer,e0.tree,λs' hk'=>PySem.PylongRoom.of (e0.mod.nolimit.keeps hk') hdp (PySem.SeerAt.of (e0.seer.keeps hk') e0.tree (Around.frames_deeper e0.frames) S.gen S.co rfl rfl)⟩,
  rfl,e0.bare,Un.kept hk,⟨_,x.toInCall.ns,λi y v h1 h2 h3=>?_⟩,λy c h=>⟨_,x.cell y c h⟩,e0.hok.fresh (AS _),λy c h=>?_,λp hp=>absurd (show p∈([]:List (Addr×Obj)) from hp) (by simp),e0.hok.kept hk,?_⟩
 ·exact name_of_addr x.apart (PySem.mem_of_lookup h1) (PySem.mem_of_lookup h2)
 ·have hy:scope.names.lookup y=some .cell\/scope.names.lookup y=some .free:=hy
  rcases hy with hy | hy
  ·exact ME hy
  ·exact absurd rfl (S.nofree _ (PySem.mem_of_lookup hy))
 ·exact C1 (x.above y c (PySem.mem_of_lookup h))
 ·have hi:i<vs.length:=by
   unfold start at h2
   by_cases hi:i<vs.length
   ·exact hi
   ·rw [List.getElem?_append_right (by simpa using hi)] at h2
    rw [FI] at h2
    split at h2 <;> cases h2
  have ha:vs[i]?=some v:=by
   unfold start at h2
   rw [List.getElem?_append_left (by simpa using hi),Af] at h2
   cases e:vs[i]? with
   | none=>rw [e] at h2;cases h2
   | some a=>rw [e] at h2;cases h2;rfl
  obtain ⟨u,hu,rv⟩:=r.get ha
  have hp:ps[i]?=some y:=by
   rw [<-S.pre,List.getElem?_take_of_lt ⋯];exact h1
  have ndP:ps.Nodup:=by rw [<-S.pre];exact S.nd.sublist (List.take_sublist _ _)
  refine ⟨u,rv,?_⟩
  rcases S.par y (Bu hp) with k | k
  ·exact .inl ⟨k,MB ndP hp hu k⟩
  ·obtain ⟨c,e⟩:=ME (n:=s.heap.objs.size+1) k
   refine .inr ⟨.inl k,c,e,?_⟩
   have q:=x.cell y c e
   rw [MD ndP hp hu (by show scope.names.lookup y≠_;rw [k];decide)] at q
   exact q
 ·exact e0.hok.fresh (C1 (x.above y c (PySem.mem_of_lookup h)))
 ·unfold start
  show _=N.length
  rw [C2,AL,List.length_replicate]
  omega
theorem SY {CX:CXT} {P:Program} {w:World} {K:PySem.W.Frag} {mg:Str->Option Value} {base:Heap} {k:Nat} {f:Addr} {name qual:Str} {params:Arguments} {body:List Stmt} {scope:Scope} {dV kV doc pm cdv ct oc:Value} {an od:Option Addr}
  {osl:Array (Option Value)} {N ps:List Str} {sp:Sp} (lk:K.lookup f=some ⟨oc,od,.func (PySem.W.fnOf name qual params body scope dV kV doc pm an cdv ct),osl⟩) (hcd:PySem.W.codeIn K cdv qual=true) (S:FnScope N ps scope)
  (len:∀ vs H Q E,sp vs H Q E->vs.length=ps.length)
  (hbody:∀ (A:Around) (outer:List Env) (s:Shared) (H:Hp) (vs:List V) (Q:VK) (E:XK),Room k (A.deeper (envOfC qual scope s.heap.objs.size f cdv))->sp vs H Q E->
   ∃ t,PSs (FN CX P w K mg base N qual scope f cdv A outer s H E) body t/\t { nx:=λ_ H'=>Q .non H',rt:=Q } (start N vs) H) :
  FnOk P w K mg base CX (k+1) f (PySem.W.fnOf name qual params body scope dV kV doc pm an cdv ct) ps sp:=by
 refine ⟨len,λA outer s H args us vs Q E hr e0 hb r hsp=>?_⟩
 have hl:=len _ _ _ _ hsp
 have KX:K.In s.heap:=e0.mod.kin.keeps λb o e=>(e0.bs b o e).1
 have lim:s.heap.NoLimit:=e0.mod.nolimit.keeps λb o e=>(e0.bs b o e).1
 have hkind:∀ y∈ps.zip us,scope.names.lookup y.1=some .local\/(scope.names.lookup y.1=some .cell/\((cellsFrom (s.heap.objs.size+1) scope.names []).lookup y.1).isSome=true):=λ⟨n,v⟩ hy=>by
  rcases S.par n (List.of_mem_zip hy).1 with q | q
  ·exact .inl q
  ·exact .inr ⟨q,PySem.W.cellsFrom_some _ _ _ (.inl q)⟩
 refine codeAny_call_function hr.depth (KX _ _ lk) rfl S.co S.gen rfl (PySem.W.codeRec_of KX hcd) (hb _ _ _ _ ?_)
 refine wpAny_newFunctionEnv_cells S.kind hkind λenv he s1 x=>?_
 subst he
 refine ⟨lim.keeps x.toInCall.keep,codeAny_func ?_⟩
 obtain ⟨t,ht,hq⟩:=hbody A outer s H vs Q E (hr.deeper _) hsp
 have I:Inv (FN CX P w K mg base N qual scope f cdv A outer s H E) [] (start N vs) H s1:=SX S hr.hd (by have:=(hr.deeper (envOfC qual scope s.heap.objs.size f cdv)).dp;show _+100<_;omega) e0 hl r x
 refine Z0 (ht [] s1 (start N vs) H _ I hq) (λfl s' hs=>?_) λe s' hs=>hs
 have fin:∀ {σ':St} {H':Hp} {v:V} {u:Value},Inv (FN CX P w K mg base N qual scope f cdv A outer s H E) [] σ' H' s'->RelV v u->Q v H'->CE outer P w H s Q u s':=
  λ{σ' H' v u} J rv q=>⟨v,H',J.os,J.bare,J.base,J.hok,rv,q⟩
 cases fl with
 | ret u=>
   obtain ⟨v,σ',H',J,rv,q⟩:=hs
   exact fin J rv q
 | next=>
   obtain ⟨σ',H',J,q⟩:=hs
   exact fin (v:=V.non) (u:=Value.none) J rfl q
 | brk=>
   obtain ⟨_,_,_,q⟩:=hs
   exact False.elim q
 | cont=>
   obtain ⟨_,_,_,q⟩:=hs
   exact False.elim q
end L2
namespace L2
open PySem PySem.Spec PyProof.Rows
section
variable {X:Cx} {x:Str} {p pos:Pos} {e:Expr} {es:List Expr} {t:TA} {id T:String} {r:List V->Hp->VK->Prop}
noncomputable def tCB (r:List V->Hp->VK->Prop) (t:TA):TE:=λσ H Q=>t σ H λvs H1=>r vs H1 Q
theorem At (hc:CY X (.builtin id) r) (hg:Gl X x) (hm:X.mg x=none) (hv:bootBuiltins x=some (.builtin id)) (ha:PA X (e::es) t) (hn:x ≠ "__name__" := by decide) (hdb:(x == ("__debug__" : Str))=false:=by decide)
  (he:starEach (e::es) X.env=(false,eval e X.env)::starEach es X.env:=by rfl) (hpl:(backTo pos (starEach es X.env)).any (·.1)=false:=by rfl):PE X (.Call (.Name x p) (e::es) [] pos) (tCB r t):=by
 intro pins s σ H Q I h
 refine wpAny_Call_Name_kw (EE I hg hm hv ?_ hn hdb)
 exact PyProof.Rows.callWith_builtin1 (thn (ha pos pins s σ H _ I h) λus s1 ⟨vs,H1,I1,r1,q1⟩=>hc pins s1 σ H1 vs us Q I1 r1 q1) he hpl
theorem Ey (hc:CY X (.type T) r) (hg:Gl X x) (hm:X.mg x=none) (hv:bootBuiltins x=some (.type T)) (ha:PA X (e::es) t) (hn:x ≠ "__name__" := by decide) (hdb:(x == ("__debug__" : Str))=false:=by decide)
  (he:starEach (e::es) X.env=(false,eval e X.env)::starEach es X.env:=by rfl) (hpl:(backTo pos (starEach es X.env)).any (·.1)=false:=by rfl):PE X (.Call (.Name x p) (e::es) [] pos) (tCB r t):=by
 intro pins s σ H Q I h
 refine wpAny_Call_Name_kw (EE I hg hm hv ?_ hn hdb)
 exact PyProof.Rows.callWith_type1 (thn (ha pos pins s σ H _ I h) λus s1 ⟨vs,H1,I1,r1,q1⟩=>hc pins s1 σ H1 vs us Q I1 r1 q1) he hpl
end
end L2
namespace HT
open PySem PyProof.Rows
section
open PySem.SeqAt
open PySem.AutoSeq1 (wpAny_loadPart')
open PySem.MeetsSeq PySem.MeetsSeq2 PySem.MeetsSeq3
end
section
variable {prog:Program} {w:World} {A:Around} {E:Value->Shared->Prop} {s:Shared}
noncomputable def sIx (n d:Nat):Option Int->Nat
 | none=>d
 | some v=>if v<0 then (v+(n:Int)).toNat else min v.toNat n
end
end HT
namespace L2
open PySem PySem.Spec PyProof.Rows
noncomputable abbrev TO:=St->Hp->(Option Int->Hp->Prop)->Prop
noncomputable def PO (X:Cx) (e:Option Expr) (t:TO):Prop:=
 ∀ (pins:List (Addr×Obj)) (s:Shared) (σ:St) (H:Hp) (Q:Option Int->Hp->Prop),Inv X pins σ H s->t σ H Q->
   wpAny (model X.prog X.w) X.A (evalPart e X.env) (λu s'=>∃ o H',Inv X pins σ H' s'/\IsPart u o/\Q o H') X.xe s
noncomputable def Ed:TO:=λ_ H Q=>Q none H
noncomputable def Ee (t:TE):TO:=λσ H Q=>t σ H λx H1=>∃ i,x=.int i/\Q (some i) H1
section
variable {X:Cx} {e:Expr} {te:TE} {lo hi:Option Expr} {tl th:TO} {pos p2:Pos}
theorem FO:PO X none Ed:=by
 intro pins s σ H Q I h
 rw [evalPart_none]
 exact Zz ⟨none,H,I,.none,h⟩
theorem Ez (h:PE X e te):PO X (some e) (Ee te):=by
 intro pins s σ H Q I hw
 rw [evalPart_some]
 refine thn (h pins s σ H _ I hw) λu s1 ⟨x,H1,I1,r1,q1⟩=>?_
 obtain ⟨i,rfl,q⟩:=q1
 obtain ⟨t,rfl⟩:=r1
 exact ⟨some i,H1,I1,.int i t,q⟩
noncomputable def SlR (X:Cx) (r:V->Option Int->Option Int->Hp->VK->Prop):Prop:=
 ∀ (pins:List (Addr×Obj)) (s:Shared) (σ:St) (H:Hp) (x:V) (v vl vu:Value) (lo hi:Option Int) (sl:Addr) (Q:VK),Inv X pins σ H s->RelV x v->s.heap.IsSliceOf sl vl vu .none->IsPart vl lo->IsPart vu hi->r x lo hi H Q->
   ∃ T id,typeLookup (.type T) "__getitem__" = pure (some (.builtin id))/\s.TypeIs v T/\wpAny (model X.prog X.w) X.A (getItem v (.ref sl)) (EP X pins σ Q) X.xe s
noncomputable def tSl (r:V->Option Int->Option Int->Hp->VK->Prop) (te:TE) (tl th:TO):TE:=λσ H Q=>te σ H λx H1=>tl σ H1 λl H2=>th σ H2 λu H3=>r x l u H3 Q
theorem FP {r:V->Option Int->Option Int->Hp->VK->Prop} (hr:SlR X r) (he:PE X e te) (hl:PO X lo tl) (hu:PO X hi th):PE X (.Subscript e (.Slice lo hi none p2) pos) (tSl r te tl th):=by
 intro pins s σ H Q I h
 refine Subscript_ (thn (he pins s σ H _ I h) λv s1 ⟨x,H1,I1,r1,q1⟩=>?_)
 refine wpAny_Slice (thn (hl pins s1 σ H1 _ I1 q1) λvl s2 ⟨l,H2,I2,pl,q2⟩=>thn (hu pins s2 σ H2 _ I2 q2) λvu s3 ⟨u,H3,I3,pu,q3⟩=>?_)
 rw [evalPart_none]
 refine Zz ?_
 have I4:Inv X pins σ H3 { s3 with heap:=s3.heap.push { cls:=.type "slice", data:=.fields #[vl,vu,.none] } }:=I3.kept (t':=s3.toks) λb ob q=>Heap.get?_push_of_some _ q
 obtain ⟨T,id,hT,ht,hg⟩:=hr pins { s3 with heap:=s3.heap.push { cls:=.type "slice", data:=.fields #[vl,vu,.none] } } σ H3 x v vl vu l u s3.heap.objs.size Q I4 r1 (Heap.IsSliceOf.new ..) pl pu q3
 show wpAny (model X.prog X.w) X.A (subscriptTail e (.Slice lo hi none p2) v (.ref s3.heap.objs.size)) (EP X pins σ Q) X.xe { s3 with heap:=s3.heap.push { cls:=.type "slice", data:=.fields #[vl,vu,.none] } }
 exact tail_any (ops:=[.ref s3.heap.objs.size,v]) ht hT hg (by with_unfolding_all rfl)
noncomputable def Cg (xs:List V) (lo hi:Option Int):List V:=(xs.drop (HT.sIx xs.length 0 lo)).take (HT.sIx xs.length xs.length hi - HT.sIx xs.length 0 lo)
theorem SZ (xs:List V) (lo hi:Option Int):(Cg xs lo hi).length<=xs.length:=by
 unfold Cg
 rw [Cm,List.length_drop]
 omega
end
end L2
namespace L2
open PySem PySem.Spec PyProof.Rows
noncomputable def ixN (n:Nat) (i:Int):Option Nat:=if 0<=i then (if i<n then some i.toNat else none) else if -(n:Int)<=i then some (i+n).toNat else none
noncomputable def atI {α:Type} (xs:List α) (i:Int):Option α:=(ixN xs.length i).bind λj=>xs[j]?
theorem MF {n:Nat} {i:Int} {j:Nat} (h:ixN n i=some j):seqIndex? i n=some j/\j<n/\-(n:Int)<=i/\i<n:=by
 unfold ixN at h
 by_cases h0:0<=i
 ·rw [Zu h0] at h
  by_cases h1:i<n
  ·rw [Zu h1] at h
   have e:i.toNat=j:=Z1 h
   exact ⟨by rw [seqIndex_of h0 h1,e],⋯,⋯,h1⟩
  ·rw [Zt h1] at h;cases h
 ·rw [Zt h0] at h
  by_cases h1:-(n:Int)<=i
  ·rw [Zu h1] at h
   have e:(i+n).toNat=j:=Z1 h
   exact ⟨by rw [seqIndex_neg ⋯ h1,e],⋯,h1,⋯⟩
  ·rw [Zt h1] at h;cases h
theorem JS {α:Type} {xs:List α} {i:Int} {v:α} (h:atI xs i=some v):∃ j,seqIndex? i xs.length=some j/\xs[j]?=some v/\j<xs.length/\-(xs.length:Int)<=i/\i<xs.length:=by
 unfold atI at h
 cases e:ixN xs.length i with
 | none=>rw [e] at h;cases h
 | some j=>
   rw [e] at h
   obtain ⟨h1,h2,h3,h4⟩:=MF e
   exact ⟨j,h1,h,h2,h3,h4⟩
theorem Gk {α:Type} {xs:List α} {j:Nat} {v:α} (h:xs[j]?=some v):atI xs (j:Int)=some v:=by
 have hj:j<xs.length:=(Bp.mp h).1
 have e:ixN xs.length (j:Int)=some j:=by
  unfold ixN
  rw [Zu ⋯,Zu ⋯];simp
 unfold atI;rw [e];exact h
noncomputable def Sa (b:Expr):Prop:=∀ o i,subscripted b false o i=operate [o,i] (getItem o i)
noncomputable def IxR (X:Cx) (r:R2):Prop:=
 ∀ (value slice:Expr) (pins:List (Addr×Obj)) (s:Shared) (σ:St) (H:Hp) (x y:V) (v u:Value) (Q:VK),Inv X pins σ H s->RelV x v->RelV y u->r x y H Q->
   subscripted slice false v u=operate [v,u] (getItem v u)->wpAny (model X.prog X.w) X.A (subscriptTail value slice v u) (EP X pins σ Q) X.xe s
noncomputable def MtR (X:Cx) (id:String) (r:V->List V->Hp->VK->Prop):Prop:=
 ∀ (pins:List (Addr×Obj)) (s:Shared) (σ:St) (H:Hp) (x:V) (xs:List V) (v:Value) (us:List Value) (Q:VK),Inv X pins σ H s->RelV x v->Vals xs us->r x xs H Q->
   wpAny (model X.prog X.w) X.A (call (.builtin id) (v::us)) (EP X pins σ Q) X.xe s
section
variable {X:Cx} {a b:Expr} {ta tb:TE} {pos:Pos}
theorem B8 {r:R2} (hr:IxR X r) (ha:PE X a ta) (hb:PE X b tb) (hs:Sa b):PE X (.Subscript a b pos) (tOp r ta tb):=by
 intro pins s σ H Q I h
 exact Subscript_ (JQ ha hb I h λv u s2 x y H2 I2 rx ry q=>hr a b pins s2 σ H2 x y v u Q I2 rx ry q (hs _ _))
noncomputable def Sb (K:PySem.W.Frag):R2:=λx y H Q=>∃ p xs i v,x=.ref p/\y=.int i/\SqL K H p xs/\atI xs i=some v/\Q v H
noncomputable def Sc (K:PySem.W.Frag):R2:=λx y H Q=>∃ p xs i v,x=.ref p/\y=.int i/\SqT K H p xs/\atI xs i=some v/\Q v H
theorem Sd:IxR X (Sb X.K):=by
 intro value slice pins s σ H x y v u Q I rx ry h hs
 obtain ⟨p,xs,i,z,rfl,rfl,hq,he,q⟩:=h
 cases rx
 obtain ⟨t,rfl⟩:=ry
 obtain ⟨its,r,pl,hz⟩:=I.list hq
 obtain ⟨j,h1,h2,h3,h4,h5⟩:=JS he
 obtain ⟨w,ew,rw'⟩:=r.get h2
 have hl:=r.length
 have hn:=F1
 have fin:EP X pins σ Q w s:=⟨z,H,I,rw',q⟩
 by_cases h0:0<=i
 ·have hj:i.toNat=j:=by
   rw [seqIndex_of h0 h5] at h1
   exact Z1 h1
  exact item_listR pl.isList h0 ⋯ (by rw [hj];simpa using ew) fin hs
 ·have hj:(i+(its.toArray.size:Int)).toNat=j:=by
   rw [seqIndex_neg ⋯ h4] at h1
   rw [BF,<-hl]
   exact Z1 h1
  exact subscriptTail_builtinR (x:=w) pl.isList.typeIs slot_list_getitem.lookup
   (wpAny_getItem_list_neg (Q:=λr s'=>r=w/\EP X pins σ Q r s') pl.isList ⋯ (by rw [BF] <;> omega) ⋯ (by rw [hj];simpa using ew) ⟨rfl,fin⟩) hs
theorem Se:IxR X (Sc X.K):=by
 intro value slice pins s σ H x y v u Q I rx ry h hs
 obtain ⟨p,xs,i,z,rfl,rfl,hq,he,q⟩:=h
 cases rx
 obtain ⟨t,rfl⟩:=ry
 obtain ⟨its,r,pl,hz⟩:=I.tuple hq
 obtain ⟨j,h1,h2,h3,h4,h5⟩:=JS he
 obtain ⟨w,ew,rw'⟩:=r.get h2
 have hl:=r.length
 have hn:=F1
 have fin:EP X pins σ Q w s:=⟨z,H,I,rw',q⟩
 exact subscriptTail_builtinR (x:=w) pl.typeIs slot_tuple_getitem.lookup
  (getItem_tuple (j:=j) (Q:=λr s'=>r=w/\EP X pins σ Q r s') pl ⋯ ⋯ (by rw [BF,<-hl];exact h1) (by simpa using ew) ⟨rfl,fin⟩) hs
theorem Sg (its:List Value) (n j:Nat) (u:Value):Obj.mapSeq (·.setIfInBounds j u) { cls:=.type "list", data:=.seq its.toArray n }={ cls:=.type "list", data:=.seq (its.set j u).toArray n }:=by
 simp [Obj.mapSeq]
theorem Inv.lst {pins:List (Addr×Obj)} {σ:St} {H:Hp} {s:Shared} {p:Addr} {xs:List V} (I:Inv X pins σ H s) (h:H p=some (.lst xs)) :
  ∃ (its:List Value) (n:Nat),Vals xs its/\s.heap.get? p=some { cls:=.type "list", data:=.seq its.toArray n }/\xs.length<=sizeLine:=by
 obtain ⟨z,its,n,r,e⟩:=I.hok p _ h
 exact ⟨its,n,r,e,z⟩
theorem Inv.lstUpd {pins:List (Addr×Obj)} {σ:St} {H:Hp} {s:Shared} {p:Addr} {xs ys:List V} {its its':List Value} {n n':Nat} {f:Obj->Obj} (I:Inv X pins σ H s) (h:H p=some (.lst xs))
  (ho:s.heap.get? p=some { cls:=.type "list", data:=.seq its.toArray n }) (hf:f { cls:=.type "list", data:=.seq its.toArray n }={ cls:=.type "list", data:=.seq its'.toArray n' }) (r:Vals ys its') (hz:ys.length<=sizeLine) (t:Nat) :
  Inv X pins σ (upd H p (.lst ys)) { s with heap:=s.heap.update p f,toks:=t }:=by
 have e:(s.heap.update p f).get? p=some { cls:=.type "list", data:=.seq its'.toArray n' }:=by
  rw [Heap.get?_update_self f ho (by rw [hf] <;> rfl),hf]
 refine I.write (x:=p) (e:=p) (by rw [h];trivial) (.inl rfl) (λb u hb q=>(Heap.get?_update_other _ _ (Ne.symm hb)).trans q) ⟨_,e⟩ ?_
 exact ⟨hz,its',n',r,e⟩
noncomputable def DC:V->V->V->Hp->(Hp->Prop)->Prop:=λo i v H Q=>∃ p xs k j,o=.ref p/\i=.int k/\H p=some (.lst xs)/\ixN xs.length k=some j/\Q (upd H p (.lst (xs.set j v)))
theorem DV:PSet X DC:=by
 intro pins s σ H o i v ov iv u Q I ro ri rv h
 obtain ⟨p,xs,k,j,rfl,rfl,hp,hj,q⟩:=h
 cases ro
 obtain ⟨t,rfl⟩:=ri
 obtain ⟨its,n,r,ho,hz⟩:=I.lst hp
 obtain ⟨h1,h2,h3,h4⟩:=MF hj
 have hl:=r.length
 have hn:=F1
 have I':Inv X pins σ (upd H p (.lst (xs.set j v))) { s with heap:=s.heap.update p (Obj.mapSeq (·.setIfInBounds j u)) }:=
  I.lstUpd hp ho (Sg its n j u) (r.set rv j) (by rw [List.length_set];exact hz) s.toks
 by_cases h0:0<=k
 ·have hk:k.toNat=j:=by
   rw [seqIndex_of h0 h4] at h1
   exact Z1 h1
  exact PySem.W.ki_setAt ho h0 ⋯ (by rw [BF,<-hl];exact h4) (by rw [hk];exact ⟨_,I',q⟩)
 ·have hk:(k+(its.toArray.size:Int)).toNat=j:=by
   rw [seqIndex_neg ⋯ h3] at h1
   rw [BF,<-hl]
   exact Z1 h1
  exact PySem.W.ki_setBack ho ⋯ (by rw [BF,<-hl];exact h3) ⋯ (by rw [hk];exact ⟨_,I',q⟩)
theorem Si (lo hi:Option Int) (n:Nat):(sliceBounds lo hi none n).1=((HT.sIx n 0 lo:Nat):Int)/\(sliceBounds lo hi none n).2.1=((HT.sIx n n hi:Nat):Int)/\(sliceBounds lo hi none n).2.2=1:=by
 refine ⟨?_,?_,rfl⟩
 ·cases lo with
  | none=>simp [sliceBounds,HT.sIx]
  | some i=>
    simp only [sliceBounds,HT.sIx,Option.getD_none,show (1:Int) > 0 by decide,if_true]
    by_cases h:i<0
    ·simp only [h,if_true] <;> omega
    ·simp only [h,if_false] <;> omega
 ·cases hi with
  | none=>simp [sliceBounds,HT.sIx]
  | some i=>
    simp only [sliceBounds,HT.sIx,Option.getD_none,show (1:Int) > 0 by decide,if_true]
    by_cases h:i<0
    ·simp only [h,if_true] <;> omega
    ·simp only [h,if_false] <;> omega
theorem Sj (its:List Value) (lo hi:Option Int):slicePick its.toArray lo hi none=((its.drop (HT.sIx its.length 0 lo)).take (HT.sIx its.length its.length hi - HT.sIx its.length 0 lo)).toArray:=by
 obtain ⟨h1,h2,h3⟩:=Si lo hi its.toArray.size
 unfold slicePick
 rw [h1,h2,h3]
 simp only [sliceRange_one,pick_run,BF] <;> rfl
noncomputable def Sl (K:PySem.W.Frag):V->Option Int->Option Int->Hp->VK->Prop:=λx lo hi H Q=>∃ a xs,x=.ref a/\SqL K H a xs/\∀ p,H p=none->Q (.ref p) (upd H p (.lst (Cg xs lo hi)))
theorem MG:SlR X (Sl X.K):=by
 intro pins s σ H x v vl vu lo hi sl Q I rx hs pl pu h
 obtain ⟨a,xs,rfl,hx,q⟩:=h
 cases rx
 obtain ⟨its,r,ht,hz⟩:=I.list hx
 have hlen:=r.length
 refine ⟨"list", _,slot_list_getitem.lookup,ht.isList.typeIs,?_⟩
 refine wpAny_getItem_list_slice ht.isList hs pl pu .none (by simp) ?_ (by rw [BF] <;> omega)
 rw [Sj,<-hlen]
 refine ⟨.ref s.heap.objs.size,_,I.laid (t':=s.toks) (o:=.lst (Cg xs lo hi)) (λb ob q=>Heap.get?_push_of_some _ q) (AS _) ?_,rfl,q _ (I.hok.fresh (AS _))⟩
 exact ⟨Be (SZ xs lo hi) hz,_,0,(r.drop (HT.sIx xs.length 0 lo)).take (HT.sIx xs.length xs.length hi - HT.sIx xs.length 0 lo),Heap.get?_push_size _ rfl⟩
theorem MH:CY X (.builtin "len") (λxs H Q=>∃ p ys,xs=[.ref p]/\(SqL X.K H p ys\/SqT X.K H p ys)/\Q (.int ys.length) H):=by
 intro pins s σ H xs us Q I r h
 obtain ⟨p,ys,rfl,hq,q⟩:=h
 obtain ⟨u,rfl,rx⟩:=Dj r
 cases rx
 have hn:=F1
 rcases hq with hq | hq
 ·obtain ⟨its,r',pl,hz⟩:=I.list hq
  have hlen:=r'.length
  exact Calls.call_len_list pl.isList (by simp only [BF] <;> omega) ⟨.int ys.length,H,I.tok _,⟨s.toks+1,by rw [BF,hlen]⟩,q⟩
 ·obtain ⟨its,r',pl,hz⟩:=I.tuple hq
  have hlen:=r'.length
  exact len_tuple pl (by simp only [BF] <;> omega) ⟨.int ys.length,H,I.tok _,⟨s.toks+1,by rw [BF,hlen]⟩,q⟩
theorem Sm:CY X (.type "list") (λxs H Q=>∃ p ys,xs=[.ref p]/\(SqL X.K H p ys\/SqT X.K H p ys)/\∀ l,H l=none->Q (.ref l) (upd H l (.lst ys))):=by
 intro pins s σ H xs us Q I r h
 obtain ⟨p,ys,rfl,hq,q⟩:=h
 obtain ⟨u,rfl,rx⟩:=Dj r
 cases rx
 have fin:∀ (its:List Value),Vals ys its->ys.length<=sizeLine->∀ (h':Heap) (c':Nat),(∀ b o',s.heap.get? b=some o'->h'.get? b=some o')->
   h'.get? s.heap.objs.size=some { cls:=.type "list", dict:=none,data:=.seq its.toArray c',slots:=#[] }->EP X pins σ Q (.ref s.heap.objs.size) { s with heap:=h' }:=λits r' hz h' c' kp e=>
  ⟨.ref s.heap.objs.size,_,I.laid (t':=s.toks) kp (AS _) (show ObjOk X.prog X.w _ h' _ (.lst ys) from ⟨hz,its,c',r',e⟩),rfl,q _ (I.hok.fresh (AS _))⟩
 rcases hq with hq | hq
 ·obtain ⟨its,r',pl,hz⟩:=I.list hq
  have hlen:=r'.length
  obtain ⟨o,ho,hc,n,hd⟩:=pl.isList
  exact call_list_seq p (.inl rfl) ho hc hd (λh' c' kp e=>fin its r' hz h' c' kp e) (by simp only [BF] <;> omega)
 ·obtain ⟨its,r',pl,hz⟩:=I.tuple hq
  have hlen:=r'.length
  obtain ⟨o,ho,hc,n,hd⟩:=pl
  exact call_list_seq p (.inr rfl) ho hc hd (λh' c' kp e=>fin its r' hz h' c' kp e) (by simp only [BF] <;> omega)
theorem Sn:CY X (.type "tuple") (λxs H Q=>∃ p ys,xs=[.ref p]/\((SqL X.K H p ys/\∀ l,H l=none->Q (.ref l) (upd H l (.tup ys)))\/(SqT X.K H p ys/\Q (.ref p) H))):=by
 intro pins s σ H xs us Q I r h
 obtain ⟨p,ys,rfl,h⟩:=h
 obtain ⟨u,rfl,rx⟩:=Dj r
 cases rx
 rcases h with ⟨hq,q⟩ | ⟨hq,q⟩
 ·obtain ⟨its,r',pl,hz⟩:=I.list hq
  have hlen:=r'.length
  refine call_tuple_list pl.isList (λh' kp=>?_) (by simp only [BF] <;> omega)
  have I1:Inv X pins σ H { s with heap:=h' }:=I.kept (t':=s.toks) kp
  have I2:Inv X pins σ (upd H h'.objs.size (.tup ys)) { s with heap:=h'.push { cls:=.type "tuple", data:=.seq its.toArray } }:=
   I1.laid (t':=s.toks) (λb o e=>Heap.get?_push_of_some _ e) (AS _) (show ObjOk X.prog X.w _ _ _ (.tup ys) from ⟨hz,its,r',IsTup.new _ _⟩)
  exact ⟨.ref h'.objs.size,_,I2,rfl,q _ (I1.hok.fresh (AS _))⟩
 ·obtain ⟨its,r',pl,hz⟩:=I.tuple hq
  exact call_tuple_same pl ⟨.ref p,H,I,rfl,q⟩
noncomputable def tyV (K:PySem.W.Frag) (T:String) (x:V) (H:Hp):Prop:=match x with
 | .str _=>T = "str"
 | .int _=>T = "int"
 | .ref p=>(T = "list" /\ ∃ xs,SqL K H p xs)\/(T = "tuple" /\ ∃ o,K.lookup p=some o/\o.cls=.type "tuple" /\ o.dict=none)\/
   (T = "dict" /\ ((∃ kvs,H p=some (.dK kvs))\/∃ kvs,H p=some (.dT kvs)))\/(T = "set" /\ ∃ S n,H p=some (.set S n))
 | _=>False
theorem MI {pins:List (Addr×Obj)} {σ:St} {H:Hp} {s:Shared} {T:String} {x:V} {v:Value} (I:Inv X pins σ H s) (r:RelV x v) (ty:tyV X.K T x H) :
  s.TypeIs v T/\∀ a,v=.ref a->∃ ob,s.heap.get? a=some ob/\ob.dict=none:=by
 cases x with
 | str z=>
   obtain ⟨t,rfl⟩:=r
   cases (show T = "str" from ty)
   exact ⟨typeIs_str s z t,λ_ e=>nomatch e⟩
 | int i=>
   obtain ⟨t,rfl⟩:=r
   cases (show T = "int" from ty)
   exact ⟨typeIs_int s i t,λ_ e=>nomatch e⟩
 | ref p=>
   cases r
   rcases ty with ⟨rfl,xs,hq⟩ | ⟨rfl,o,hk,hc,hd⟩ | ⟨rfl,hk⟩ | ⟨rfl,S,n,hk⟩
   ·obtain ⟨its,_,pl,_⟩:=I.list hq
    refine ⟨pl.isList.typeIs,λa e=>?_⟩
    cases e
    obtain ⟨o,n,e,c,hd,_⟩:=pl
    exact ⟨o,e,hd⟩
   ·refine ⟨⟨o,I.kIn p o hk,hc⟩,λa e=>?_⟩
    cases e
    exact ⟨o,I.kIn _ o hk,hd⟩
   ·have z:∃ o,s.heap.get? p=some o/\o.ExactDict:=by
     rcases hk with ⟨kvs,hk⟩ | ⟨kvs,hk⟩
     ·obtain ⟨_,_,_,_,o,_,_,e,ex,_⟩:=I.hok p _ hk
      exact ⟨o,e,ex⟩
     ·obtain ⟨_,_,_,_,o,_,_,e,ex,_⟩:=I.hok p _ hk
      exact ⟨o,e,ex⟩
    obtain ⟨o,e,ex⟩:=z
    refine ⟨⟨o,e,ex.1⟩,λa e2=>?_⟩
    cases e2
    exact ⟨o,e,ex.2.1⟩
   ·obtain ⟨o,_,_,_,e,ex,_⟩:=I.hok p _ hk
    refine ⟨⟨o,e,ex.1⟩,λa e2=>?_⟩
    cases e2
    exact ⟨o,e,ex.2.1⟩
 | _=>exact False.elim ty
noncomputable def Gm (K:PySem.W.Frag) (T:String) (r:V->List V->Hp->VK->Prop) (to:TE):TE:=λσ H Q=>to σ H λx H1=>tyV K T x H1/\r x [] H1 Q
noncomputable def tBM (K:PySem.W.Frag) (T:String) (r:V->List V->Hp->VK->Prop) (to:TE) (t:TA):TE:=λσ H Q=>to σ H λx H1=>tyV K T x H1/\t σ H1 λxs H2=>r x xs H2 Q
variable {o e:Expr} {es:List Expr} {to:TE} {t:TA} {name:Str} {apos cpos:Pos} {T id:String} {r:V->List V->Hp->VK->Prop}
theorem JT (pa:PlainAttrs T) (slot:Slot T name id) (hty:typeOf (.builtin id)=pure (.type "method_descriptor")) (hm:MtR X id r) (ho:PE X o to)
  (hbase:attributeBase o name X.env (eval o X.env)=eval o X.env:=by rfl) (hline:(apos.endLine == cpos.line)=true:=by rfl):PE X (.Call (.Attribute o name apos) [] [] cpos) (Gm X.K T r to):=by
 intro pins s σ H Q I h
 refine wpAny_Call_method0_late hbase hline (thn (ho pins s σ H _ I h) λv s1 ⟨x,H1,I1,r1,ty,q1⟩=>?_)
 obtain ⟨h1,h2⟩:=MI I1 r1 ty
 exact ⟨T,id,pa,slot,hty,h1,h2,Calls.callWith_builtin rfl (PySem.evalArgs_none (hm pins s1 σ H1 x [] v [] Q I1 r1 .nil q1))⟩
theorem F2 (pa:PlainAttrs T) (slot:Slot T name id) (hty:typeOf (.builtin id)=pure (.type "method_descriptor")) (hm:MtR X id r) (ho:PE X o to) (ha:PA X (e::es) t)
  (hbase:attributeBase o name X.env (eval o X.env)=eval o X.env:=by rfl)
  (hfew:((backTo cpos (starEach (e::es) X.env)).all (λx=>!x.1) && (backToKw cpos (keywordEach [] X.env)).all (λx=>x.1.isSome)
   && decide ((e::es).length+([]:List Keyword).length+(if ([]:List Keyword).isEmpty then 0 else 1)<30))=true:=by rfl)
  (hline:(apos.endLine == cpos.line)=true:=by rfl) (hs:starEach (e::es) X.env=(false,eval e X.env)::starEach es X.env:=by rfl) (hplain:(backTo cpos (starEach es X.env)).any (·.1)=false:=by rfl) :
  PE X (.Call (.Attribute o name apos) (e::es) [] cpos) (tBM X.K T r to t):=by
 intro pins s σ H Q I h
 refine wpAny_Call_method_late hbase hfew hline rfl (thn (ho pins s σ H _ I h) λv s1 ⟨x,H1,I1,r1,ty,q1⟩=>?_)
 obtain ⟨h1,h2⟩:=MI I1 r1 ty
 refine ⟨T,id,pa,slot,hty,h1,h2,?_⟩
 have hA:=ha cpos pins s1 σ H1 _ I1 q1
 rw [hs] at hA ⊢
 refine Calls.callWith_builtin (by show (false || (backTo cpos (starEach es X.env)).any (·.1))=false;rw [hplain] <;> rfl) (Calls.evalArgs_plain ?_)
 exact thn hA λus s2 ⟨vs,H2,I2,r2,q2⟩=>hm pins s2 σ H2 x vs v us Q I2 r1 r2 q2
end
end L2
namespace L2
open PySem PySem.Spec PyProof.Rows
noncomputable def MtM (X:Cx) (id:String) (r:V->List V->Hp->VK->Prop):Prop:=
 ∀ (pins:List (Addr×Obj)) (s:Shared) (σ:St) (H:Hp) (x:V) (xs:List V) (v:Value) (us:List Value) (Q:VK),Inv X pins σ H s->RelV x v->Vals xs us->r x xs H Q->
   wpAny (model X.prog X.w) X.A (call (.builtin id) (v::us)) (EP X pins σ Q) X.xe s
theorem Vals.zero {us:List Value} (h:Vals [] us):us=[]:=by cases h;rfl
theorem Vals.inv {x:V} {xs:List V} {us:List Value} (h:Vals (x::xs) us):∃ u t,us=u::t/\RelV x u/\Vals xs t:=by cases h with | cons r t=>exact ⟨_,_,rfl,r,t⟩
theorem Vals.one {x:V} {us:List Value} (h:Vals [x] us):∃ u,us=[u]/\RelV x u:=by obtain ⟨u,t,rfl,r,h⟩:=h.inv;exact ⟨u,by rw [h.zero],r⟩
theorem Vals.two {x y:V} {us:List Value} (h:Vals [x,y] us):∃ u v,us=[u,v]/\RelV x u/\RelV y v:=by obtain ⟨u,t,rfl,r,h⟩:=h.inv;obtain ⟨v,rfl,q⟩:=h.one;exact ⟨u,v,rfl,r,q⟩
theorem Vals.dropLast {xs:List V} {us:List Value} (h:Vals xs us):Vals xs.dropLast us.dropLast:=by
 induction h with
 | nil=>exact .nil
 | cons r t ih=>
   cases t with
   | nil=>exact .nil
   | cons q t'=>exact .cons r ih
theorem Vals.reverse {xs:List V} {us:List Value} (h:Vals xs us):Vals xs.reverse us.reverse:=by
 induction h with
 | nil=>exact .nil
 | cons r t ih=>rw [List.reverse_cons,List.reverse_cons];exact Vals.append ih (.cons r .nil)
theorem Vals.rep {xs:List V} {us:List Value} (h:Vals xs us):∀ k:Nat,Vals (List.replicate k xs).flatten (List.replicate k us).flatten
 | 0=>.nil
 | k+1=>by
   rw [List.replicate_succ,List.replicate_succ,List.flatten_cons,List.flatten_cons]
   exact Vals.append h (Vals.rep h k)
theorem So {α:Type} (l:List α):l.eraseIdx (l.length - 1)=l.dropLast:=by
 induction l with
 | nil=>rfl
 | cons a r ih=>
   cases r with
   | nil=>rfl
   | cons b r=>
     have e:(a::b::r).length - 1=((b::r).length - 1)+1:=by
      have h1:(a::b::r).length=r.length+2:=rfl
      have h2:(b::r).length=r.length+1:=rfl
      omega
     rw [e,List.eraseIdx_cons_succ,ih]
     all_goals rfl
theorem MJ (its:List Value):∀ (k:Nat) (acc:List Value),
  List.foldl (λx1 x2=>x1++x2) acc.toArray (List.replicate k its.toArray)=(acc++(List.replicate k its).flatten).toArray
 | 0,acc=>by simp
 | k+1,acc=>by
   have e:acc.toArray++its.toArray=(acc++its).toArray:=by simp
   have e2:(acc++its)++(List.replicate k its).flatten=acc++(List.replicate (k+1) its).flatten:=by
    rw [List.replicate_succ,List.flatten_cons,List.append_assoc]
   rw [<-e2,<-MJ its k (acc++its),<-e,List.replicate_succ,List.foldl_cons]
section
variable {X:Cx} {pins:List (Addr×Obj)} {σ:St} {H:Hp} {s:Shared} {l b:Addr} {xs ys zs:List V}
theorem Inv.lset {its its':List Value} {n:Nat} {f:Array Value->Array Value} {t':Nat} (I:Inv X pins σ H s) (hH:H l=some (.lst xs))
  (e:s.heap.get? l=some { cls:=.type "list", data:=.seq its.toArray n }) (hf:f its.toArray=its'.toArray) (hv:Vals ys its') (hz:ys.length<=sizeLine) :
  Inv X pins σ (upd H l (.lst ys)) { s with heap:=s.heap.update l (Obj.mapSeq f),toks:=t' }:=by
 have q:=PySem.IsL.update e f
 rw [hf] at q
 refine I.write (x:=l) (e:=l) (by rw [hH];exact trivial) (.inl rfl) (λb' u hb hu=>(Heap.get?_update_other s.heap (Obj.mapSeq f) (Ne.symm hb)).trans hu) ⟨_,q⟩ ?_
 exact ⟨hz,its',_,hv,q⟩
theorem Inv.lnew {its:List Value} {t':Nat} (I:Inv X pins σ H s) (hv:Vals ys its) (hz:ys.length<=sizeLine) :
  Inv X pins σ (upd H s.heap.objs.size (.lst ys)) { s with heap:=s.heap.push { cls:=.type "list", data:=.seq its.toArray },toks:=t' }:=
 I.laid (λ_ _ q=>Heap.get?_push_of_some _ q) (AS _) ⟨hz,its,0,hv,Heap.get?_push_size _ rfl⟩
theorem Inv.fresh (I:Inv X pins σ H s):H s.heap.objs.size=none:=I.hok.fresh (AS _)
theorem Inv.lstM (I:Inv X pins σ H s) (hH:H l=some (.lst xs)):xs.length<=sizeLine/\∃ (its:List Value) (n:Nat),Vals xs its/\xs.length=its.length/\s.heap.get? l=some { cls:=.type "list", data:=.seq its.toArray n }:=by
 obtain ⟨z,its,n,r,e⟩:=I.hok l _ hH
 exact ⟨z,its,n,r,r.length,e⟩
theorem MK {n:Nat} (h:n<=sizeLine):Builtin.List.listTooLong n=false:=by
 unfold Builtin.List.listTooLong
 exact Zx ⋯
end
section
variable {X:Cx}
noncomputable def Ef:V->List V->Hp->VK->Prop:=λx vs H Q=>∃ l xs y,x=.ref l/\vs=[y]/\H l=some (.lst xs)/\xs.length<sizeLine/\Q .non (upd H l (.lst (xs++[y])))
theorem Gn:MtM X "list.append" Ef:=by
 intro pins s σ H x vs v us Q I rx rv h
 obtain ⟨l,xs,y,rfl,rfl,hH,hz,q⟩:=h
 cases rx
 obtain ⟨u,rfl,ru⟩:=rv.one
 obtain ⟨z,its,n,r,hl,e⟩:=I.lstM hH
 refine call_meets F.slot_list_append ⟨_,e,rfl⟩ F.entry_list_append (F.args_list_append_2 _ _) (PySem.list_append l its.toArray n u (by rw [BF];omega)) ⟨e,?_⟩
 refine ⟨.non,_,I.lset (its':=its++[u]) hH e (by simp) (r.append (.cons ru .nil)) ?_,rfl,q⟩
 rw [C2,List.length_singleton]
 omega
noncomputable def JU:V->List V->Hp->VK->Prop:=λx vs H Q=>∃ l b xs zs,x=.ref l/\vs=[.ref b]/\H l=some (.lst xs)/\H b=some (.lst zs)/\xs.length+zs.length<=sizeLine/\Q .non (upd H l (.lst (xs++zs)))
theorem Sq:MtM X "list.extend" JU:=by
 intro pins s σ H x vs v us Q I rx rv h
 obtain ⟨l,b,xs,zs,rfl,rfl,hH,hB,hz,q⟩:=h
 cases rx
 obtain ⟨u,rfl,ru⟩:=rv.one
 cases ru
 obtain ⟨z,its,n,r,hl,e⟩:=I.lstM hH
 obtain ⟨z2,its2,n2,r2,hl2,e2⟩:=I.lstM hB
 have hsz:its.toArray.size+its2.toArray.size<=sizeLine:=by rw [BF,BF];omega
 have hlong:¬ (!its.toArray.isEmpty && Builtin.List.listTooLong (its.toArray.size+its2.toArray.size))=true:=by
  rw [MK hsz,Bool.and_false]
  exact Ca
 refine call_meets F.slot_list_extend ⟨_,e,rfl⟩ F.entry_list_extend (F.args_list_extend_2 _ _)
  (AutoSeq1.list_extend_list_list_0 l its.toArray n b its2.toArray n2 hlong (by rw [BF];omega) ⋯) ⟨e,e2,?_⟩
 refine ⟨.non,_,I.lset (its':=its++its2) hH e (by simp) (r.append r2) ?_,rfl,q⟩
 rw [C2]
 omega
noncomputable def JV:V->List V->Hp->VK->Prop:=λx vs H Q=>∃ l xs y,x=.ref l/\vs=[]/\H l=some (.lst xs)/\xs[xs.length - 1]?=some y/\Q y (upd H l (.lst xs.dropLast))
theorem Ss:MtM X "list.pop" JV:=by
 intro pins s σ H x vs v us Q I rx rv h
 obtain ⟨l,xs,y,rfl,rfl,hH,hy,q⟩:=h
 cases rx
 have hus:=rv.zero
 subst hus
 obtain ⟨z,its,n,r,hl,e⟩:=I.lstM hH
 obtain ⟨u,hu,ru⟩:=r.get hy
 have hy':its.toArray[its.toArray.size - 1]?=some u:=by
  show its.toArray[its.length - 1]?=some u
  rw [<-Array.getElem?_toList,<-hl]
  exact hu
 refine call_meets F.slot_list_pop ⟨_,e,rfl⟩ F.entry_list_pop (F.args_list_pop_1 _) (MeetsSeq.list_pop_last l its.toArray n u hy' (by rw [BF];omega)) ⟨e,?_⟩
 refine ⟨y,_,I.lset (its':=its.dropLast) hH e ?_ r.dropLast ?_,ru,q⟩
 ·show its.toArray.eraseIdxIfInBounds (its.toArray.size - 1)=its.dropLast.toArray
  rw [BF,List.eraseIdxIfInBounds_toArray,So]
 ·rw [List.length_dropLast]
  omega
noncomputable def JW:R2:=λx y H Q=>∃ l b xs zs,x=.ref l/\y=.ref b/\H l=some (.lst xs)/\H b=some (.lst zs)/\xs.length+zs.length<=sizeLine/\∀ p,H p=none->Q (.ref p) (upd H p (.lst (xs++zs)))
theorem Su:OpR X (binaryOp .Add) JW:=by
 intro pins s σ H x y v u Q I rx ry h
 obtain ⟨l,b,xs,zs,rfl,rfl,hH,hB,hz,q⟩:=h
 cases rx
 cases ry
 obtain ⟨z,its,n,r,hl,e⟩:=I.lstM hH
 obtain ⟨z2,its2,n2,r2,hl2,e2⟩:=I.lstM hB
 refine PySem.P.add_list e e2 ?_ (by rw [BF,BF];omega)
 have ea:its.toArray++its2.toArray=(its++its2).toArray:=by simp
 rw [ea]
 exact ⟨.ref _,_,I.lnew (t':=s.toks) (r.append r2) (by rw [C2];omega),rfl,q _ I.fresh⟩
noncomputable def F3:R2:=λx y H Q=>∃ l k xs,x=.ref l/\y=.int k/\H l=some (.lst xs)/\-(2 ^ 63)<=k/\k<2 ^ 63/\xs.length*k.toNat<=sizeLine/\
 ∀ p,H p=none->Q (.ref p) (upd H p (.lst (List.replicate k.toNat xs).flatten))
theorem Sv {α:Type} (xs:List α) (k:Nat):(List.replicate k xs).flatten.length=k*xs.length:=by
 induction k with
 | zero=>simp
 | succ k ih=>rw [List.replicate_succ,List.flatten_cons,C2,ih,Nat.succ_mul,Nat.add_comm]
theorem Hk:OpR X (binaryOp .Mult) F3:=by
 intro pins s σ H x y v u Q I rx ry h
 obtain ⟨l,k,xs,rfl,rfl,hH,h1,h2,hz,q⟩:=h
 cases rx
 obtain ⟨t,rfl⟩:=ry
 obtain ⟨z,its,n,r,hl,e⟩:=I.lstM hH
 have hlen:its.toArray.size*k.toNat<=sizeLine:=by rw [BF,<-hl];exact hz
 have hcap:¬ its.toArray.size*k.toNat > (2 ^ 63 - 1) / 8:=by
  have:(sizeLine:Nat)<=(2 ^ 63 - 1) / 8:=by decide
  omega
 have hfit:¬ (!Builtin.List.listFitsIndex k)=true:=by
  rw [fitsIndex_both h1 h2]
  exact Ca
 have hlong:¬ Builtin.List.listTooLong (its.toArray.size*k.toNat)=true:=by
  rw [MK hlen]
  exact Ca
 have hnew:List.foldl (λx1 x2=>x1++x2) #[] (List.replicate (if its.toArray.isEmpty=true then 0 else k.toNat) its.toArray)=(List.replicate k.toNat its).flatten.toArray:=by
  have f0:∀ m:Nat,List.foldl (λx1 x2=>x1++x2) #[] (List.replicate m its.toArray)=(List.replicate m its).flatten.toArray:=λm=>by
   have:=MJ its m []
   rw [List.nil_append] at this
   exact this
  rw [f0]
  cases its with
  | nil=>simp
  | cons a r'=>rw [Zt (by simp)]
 refine wpAny_binaryOp_repeat_ref (T := "list") (U := "int") ∅ ⟨_,e,rfl⟩ (λs'=>typeIs_int s' k t) noFill_list_mul F.fills_int_mul F.slot_int_rmul repeat_list F.slot_int_index.lookup
  (call_meets F.slot_int_rmul (typeIs_int s k t) F.entry_int_rmul (F.args_int_rmul_2 _ _) (int___rmul___int_list k t l its.toArray n)
   ⟨e,rfl,⟨_,e,rfl⟩,call_meets F.slot_list_mul ⟨_,e,rfl⟩ F.entry_list_mul (F.args_list_mul_2 _ _) (AutoListH.list___mul___list_int_3 l its.toArray n k t hfit hcap hlong) ⟨e,?_⟩⟩)
 rw [hnew]
 exact ⟨.ref _,_,I.lnew (t':=s.toks) (r.rep k.toNat) (by rw [Sv,Co];exact hz),rfl,q _ I.fresh⟩
end
section
variable {prog:Program} {w:World} {A:Around} {E:Value->Shared->Prop} {s:Shared}
end
section
variable {X:Cx}
end
end L2
namespace Att
open PySem PySem.W PySem.Calls PyProof.Rows
theorem Sw {P:Params} {h:Heap}:∀ (ns:List Int) (vs:List Value),WellAll P h vs (ns.map WData.int)->IntsAre vs ns:=by
 intro ns
 induction ns with
 | nil=>
   intro vs w
   rw [List.map_nil] at w
   cases w
   exact .nil
 | cons n ns ih=>
   intro vs w
   rw [List.map_cons] at w
   cases w with
   | cons a b=>
     cases a
     exact .cons _ _ (ih _ b)
theorem Sx {l:OpenLaw} {n:Nat} (hn:l.most=some n) {P:Params} {h:Heap} {args:List WData} {vals:List Value}
  (hpre:l.row.toRowW.claim.pre args=true) (hwl:WellAll P h vals args) :
  ∃ a vs ns,vals=[Value.ref a]/\args=[WData.list (ns.map WData.int)]/\h.get? a=some { cls:=.type "list", data:=.seq vs.toArray }/\IntsAre vs ns/\ns.length<=n:=by
 have hsh:WShape.hasAll [] args [.list .int]=true:=(pre_splitW hpre).1
 have hc:l.pre.holds [] { args:=args }=true:=(pre_splitW hpre).2
 obtain ⟨d,r,rfl,h1,h2⟩:=hasAllW_cons hsh
 obtain rfl:=hasAllW_nil h2
 obtain ⟨xs,rfl,h3⟩:=hasW_list h1
 obtain ⟨ns,rfl⟩:=items_int h3
 have hlen:ns.length<=n:=by
  unfold OpenLaw.pre at hc
  have h4:(WTm.not (.lt (.lit (.int (n:Int))) (.len (.arg 0)))).holds [] { args:=[.list (ns.map .int)] }=true:=by
   have h4:=(holds_andW hc).1
   rw [hn] at h4
   exact h4
  have h5:=condW_of h4 (w_not (w_lt w_lit (w_len_list (w_arg rfl))))
  rw [AL] at h5
  refine Nat.le_of_not_lt λq=>?_
  have q':(n:Int)<((ns.length:Nat):Int):=by omega
  first
   | (rw [Zv q'] at h5;exact absurd h5 ∅)
   | (simp at h5;omega)
 cases hwl with
 | cons w1 w2=>
   cases w2
   cases w1 with
   | list ho hall=>exact ⟨_,_,ns,rfl,rfl,ho,Sw ns _ hall,hlen⟩
theorem Sy (l:OpenLaw) (args:List WData):l.row.toRowW.claim.post args (.bool true) args=true:=
 postW_of (r:=l.row.toRowW) (X:=(true == true))
  (show WShape.has [] (.bool true) .bool=true by first | rfl | decide | simp [WShape.has,WShape.arms,WShape.armsAll])
  (show (WTm.eq .res (.lit (.bool true))).value [] { args:=args,res:=some (.bool true),after:=args }=some (.bool (true == true)) from w_eq_bool (w_res rfl) w_lit) rfl
theorem attach_call {l:OpenLaw} {n:Nat} {q:Program} {loose:List Str} {XP:(Str->Option Value)->Heap->Prop} {YP:World->Heap->Prop} {d:DefRec}
  (hn:l.most=some n) (hdf:d.params.defaults=[])
  (call:∀ (w:World) (s₀ s₁:Shared) (mg mb:Str->Option Value) (fa:Addr) (o:Obj) (pm cd doc:Value) (a:Addr) (vs:List Value) (ns:List Int),
   Ground q loose [] XP w s₀ mg mb s₁.heap->YP w s₁.heap->
   s₁.heap.get? fa=some o->o.data=.func (docDef d.name d.params d.body d.scope pm cd doc)->s₁.heap.CodeRec cd d.name->mg d.name=some (.ref fa)->
   s₁.heap.get? a=some { cls:=.type "list", data:=.seq vs.toArray }->IntsAre vs ns->ns.length<=n->s₁.gens=#[]->
   codeAny (model l.prog w) callerA (.call (.ref fa) ⟨[.ref a],[]⟩) (λr s'=>r=.ok (.ret (.bool true))/\OldK s₁.heap s'.heap/\s'.os=s₁.os/\AllBare s'.gens) s₁) :
  WalkO q loose XP YP l.row.toRowW d [] (λf vs=>PySem.call f vs):=by
 intro w s₀ s₁ mg mb G Y fa o pm cd doc dV kV ho hd hcd hD hmg hg args vals as hpre hlay hrd hwl hlo
 obtain rfl:dV=.none:=Dflts.none hD hdf
 obtain rfl:kV=.none:=Dflts.noKw hD
 obtain ⟨a,vs,ns,rfl,rfl,hobj,hints,hlen⟩:=Sx hn hpre hwl
 refine enter_call (codeAny_mono (call w s₀ s₁ mg mb fa o pm cd doc a vs ns G Y ho (fd_plain hd) hcd hmg hobj hints hlen hg) λr s' hq=>?_)
 obtain ⟨rfl,h2,h3,h4⟩:=hq
 exact ⟨.inl ⟨.bool true,.bool true,[],rfl,λ_=>rfl,.bool true,Sy l _,λ_=>⟨List.Pairwise.nil,λ_ hm=>(nomatch hm)⟩⟩,h2,h3,h4⟩
section
variable {prog:Program} {w:World} {A:Around} {E:Value->Shared->Prop} {s:Shared} {K:Frag}
end
end Att
namespace L2
open PySem PySem.Spec PyProof.Rows
theorem ML:∀ {vs:List Value} {ns:List Int},IntsAre vs ns->Vals (ns.map V.int) vs
 | _,_,.nil=>.nil
 | _,_,.cons n t h=>.cons ⟨t,rfl⟩ (ML h)
noncomputable def Only (H:Hp):Prop:=∀ b,H b=none\/∃ o xs,H b=some (.frz o (.lst xs))
theorem Sz {P:Program} {w:World} {K:PySem.W.Frag} {mg mb:Str->Option Value} {CX:CXT} {k:Nat} {fa a:Addr} {fd:FuncData} {x:Str} {sp:Sp} {s₁:Shared} {vs:List Value} {ns:List Int}
  (KX:K.In s₁.heap) (hns:s₁.heap.Ns mainGlobals mg) (hb:s₁.heap.Ns builtinsNs mb) (hbb:∀ x:Str,x ≠ "__name__" -> mb x=bootBuiltins x) (hlim:s₁.heap.NoLimit) (hseer:s₁.heap.NoSeer) (htree:(model P w).prog.given.tree=none) (hg:s₁.gens=#[])
  (ha:s₁.heap.get? a=some { cls:=.type "list", data:=.seq vs.toArray }) (hi:IntsAre vs ns) (hl:ns.length<=sizeLine) (hr:Room k callerA)
  (F:∀ base:Heap,K.In base->base.Ns mainGlobals mg->FnOk P w K mg base CX k fa fd [x] sp) (hbind:∀ (s:Shared) (u:Value),BindsTo s fd ⟨[u],[]⟩ [(x,u)])
  (hsp:∀ H:Hp,Only H->SqL K H a (ns.map V.int)->sp [.ref a] H (λv _=>v=.bl true) λ_ _ _=>False)
  (hCX:∀ H e s',CX [] H s₁ (λ_ _ _=>False) e s'->False) :
  codeAny (model P w) callerA (.call (.ref fa) ⟨[.ref a],[]⟩) (λr s'=>r=.ok (.ret (.bool true))/\OldK s₁.heap s'.heap/\s'.os=s₁.os/\AllBare s'.gens) s₁:=by
 have rv:=ML hi
 have lenV:=hi.length
 have core:∀ H:Hp,Only H->SqL K H a (ns.map V.int)->HOk P w H s₁.heap->(∀ b,H b≠none->b=a)->(H a≠none->K.lookup a=none)->
   codeAny (model P w) callerA (.call (.ref fa) ⟨[.ref a],[]⟩) (λr s'=>r=.ok (.ret (.bool true))/\OldK s₁.heap s'.heap/\s'.os=s₁.os/\AllBare s'.gens) s₁:=by
  intro H hO hS hok hA hK
  have base_of:∀ {b:Addr} {o:Obj},s₁.heap.get? b=some o->H b=none->(ED s₁.heap H).get? b=some o:=λe n=>Ru e n
  have noA:∀ {b:Addr} {o:Obj} {es:Array DictEntry} {ep:Nat},s₁.heap.get? b=some o->o.data=.dict es ep->H b=none:=λ{b o es ep} e d=>by
   cases q:H b with
   | none=>rfl
   | some u=>
     have e':b=a:=hA b (by rw [q];simp)
     subst e'
     rw [ha] at e;cases e
     have d':Data.seq vs.toArray _=Data.dict es ep:=d
     cases d'
  have nsK:∀ {b:Addr} {m:Str->Option Value},s₁.heap.Ns b m->(ED s₁.heap H).Ns b m:=λ{b m} ⟨o,es,ep,e,d,r⟩=>⟨o,es,ep,base_of e (noA e d),d,r⟩
  have hKb:K.In (ED s₁.heap H):=λb o e=>base_of (KX b o e) (by
   cases q:H b with
   | none=>rfl
   | some u=>
     have e':b=a:=hA b (by rw [q];simp)
     subst e'
     rw [hK (by rw [q];simp)] at e;cases e)
  have hM:Mod K mg (ED s₁.heap H):=⟨hKb,nsK hns,⟨mb,nsK hb,hbb⟩,let ⟨mc,h1,h2⟩:=hlim;⟨mc,nsK h1,h2⟩⟩
  have hSe:(ED s₁.heap H).NoSeer:=⟨let ⟨mc,a,b⟩:=hseer.statics;⟨mc,nsK a,b⟩,let ⟨mc,a,b⟩:=hseer.mods;⟨mc,nsK a,b⟩,let ⟨mc,a,b⟩:=hseer.imp;⟨mc,nsK a,b⟩,
   let ⟨mg',bm,ob,a',b',c',d',e'⟩:=hseer.main;⟨mg',bm,ob,nsK a',b',base_of c' (by
    cases q:H bm with
    | none=>rfl
    | some u=>
      have z:bm=a:=hA bm (by rw [q];simp)
      subst z
      rw [ha] at c';cases c'
      simp at d'),d',e'⟩⟩
  have e0:Env0 P w K mg (ED s₁.heap H) callerA [] s₁ H:=⟨rfl,hM,λb o e=>Rv e,Nat.le_of_eq (Rs _ _),trivial,λb hb=>absurd (show b∈([]:List Addr) from hb) (by simp),hok,.of_eq hg,hSe,htree⟩
  refine codeAny_mono ((F _ hKb (nsK hns)).run callerA [] s₁ H ⟨[.ref a],[]⟩ [.ref a] [.ref a] _ _ hr e0 (hbind s₁ (.ref a)) (.cons rfl .nil) (hsp H hO hS)) λr s' h=>?_
  cases r with
  | error e=>exact (hCX H e s' h).elim
  | ok fl=>
    cases fl with
    | next=>exact False.elim h
    | brk=>exact False.elim h
    | cont=>exact False.elim h
    | ret u=>
      obtain ⟨v,H',os,bare,un,hok',r',q⟩:=h
      have q':v=.bl true:=q
      subst q'
      obtain rfl:u=Value.bool true:=r'
      refine ⟨rfl,OldK.of_keep λb o e=>?_,os,bare⟩
      cases q:H b with
      | none=>exact un.keep b o e q (by intro z;exact absurd (show b∈([]:List Addr) from z) (by simp)) (by simp)
      | some u=>
        rcases hO b with z | ⟨ob,xs,z⟩
        ·rw [q] at z;cases z
        ·have z2:=un.frzs b ob _ z
         obtain ⟨e1,_⟩:=hok b _ z
         obtain ⟨e2,_⟩:=hok' b _ z2
         rw [e] at e1;cases e1
         exact e2
 cases hk:K.lookup a with
 | some o=>
   have e:=KX a o hk
   rw [ha] at e
   cases e
   refine core (λ_=>none) (λ_=>.inl rfl) (.inr ⟨_,vs.toArray,_,hk,rfl,rfl,rfl,by rw [BF,lenV];exact hl,by simpa using rv⟩) (λb u z=>by have z':(none:Option HO)=some u:=z;cases z') (λb z=>absurd rfl z) λz=>absurd rfl z
 | none=>
   refine core (λb=>if b=a then some (.frz { cls:=.type "list", data:=.seq vs.toArray } (.lst (ns.map V.int))) else none) (λb=>?_) (.inl (.inr ⟨{ cls:=.type "list", data:=.seq vs.toArray },Zu rfl⟩)) (λb u z=>?_) (λb z=>?_) λ_=>hk
   ·by_cases hb:b=a
    ·exact .inr ⟨_,_,Zu hb⟩
    ·exact .inl (Zt hb)
   ·by_cases hb:b=a
    ·have z':=(Zu hb).symm.trans z
     cases z'
     subst hb
     exact ⟨ha,by rw [AL];exact hl,vs,_,rv,ha⟩
    ·have z':=(Zt hb).symm.trans z
     cases z'
   ·by_cases hb:b=a
    ·exact hb
    ·exact absurd (Zt hb) z
end L2
namespace L2
open PySem PySem.Spec PyProof.Rows
theorem walk_of {l:PySem.W.OpenLaw} {n k:Nat} {q:Program} {loose:List Str} {XP:(Str->Option Value)->Heap->Prop} {YP:World->Heap->Prop} {d:DefRec} {K:Params->PySem.W.Frag} {CX:World->CXT} {sp:World->Sp} {x:Str}
  (hn:l.most=some n) (hn2:n<=sizeLine) (hdf:d.params.defaults=[]) (hq:importsNone q=true) (htree:∀ w,(model l.prog w).prog.given.tree=none) (hr:Room k callerA)
  (hY:∀ (w:World) (h:Heap),YP w h->(K w.params).In h)
  (F:∀ (w:World) (mg:Str->Option Value) (fa:Addr) (h:Heap),(K w.params).In h->h.Ns mainGlobals mg->mg d.name=some (.ref fa)->
   ∃ fd:FuncData,(∀ (s:Shared) (u:Value),BindsTo s fd ⟨[u],[]⟩ [(x,u)])/\
     ∀ base:Heap,(K w.params).In base->base.Ns mainGlobals mg->FnOk l.prog w (K w.params) mg base (CX w) k fa fd [x] (sp w))
  (hsp:∀ (w:World) (H:Hp) (a:Addr) (ns:List Int),ns.length<=n->Only H->SqL (K w.params) H a (ns.map V.int)->sp w [.ref a] H (λv _=>v=.bl true) λ_ _ _=>False)
  (hCX:∀ (w:World) (H:Hp) (s:Shared) (e:Value) (s':Shared),CX w [] H s (λ_ _ _=>False) e s'->False) :
  PySem.W.WalkO q loose XP YP l.row.toRowW d [] (λf vs=>PySem.call f vs):=by
 refine Att.attach_call hn hdf λw s₀ s₁ mg mb fa o pm cd doc a vs ns G Y ho hd hcd hmg hobj hints hlen hg=>?_
 have KX:=hY w _ Y
 obtain ⟨fd,hb,hF⟩:=F w mg fa _ KX G.T.g hmg
 exact Sz KX G.T.g G.T.b G.T.builtins G.T.nolimit (G.T.seer hq) (htree w) hg hobj hints (Be hlen hn2) hr hF hb (λH hO hS=>hsp w H a ns hlen hO hS) λH e s'=>hCX w H s₁ e s'
end L2
namespace L2
open PySem PySem.Spec PyProof.Rows
noncomputable def EI (s:Stmt):Arguments:=match s with
 | .FunctionDef _ a _ _ _ _ _ _ _ _=>a
 | _=>{ posonlyargs:=[],args:=[],vararg:=none,kwonlyargs:=[],kw_defaults:=[],kwarg:=none,defaults:=[] }
noncomputable def Dk (s:Stmt):List Stmt:=match s with
 | .FunctionDef _ _ b _ _ _ _ _ _ _=>b
 | _=>[]
noncomputable def Ci (s:Stmt):Scope:=match s with
 | .FunctionDef _ _ _ _ _ _ sc _ _ _=>sc
 | _=>{ kind:=.function,names:=[],isGenerator:=false,isCoroutine:=false }
noncomputable abbrev CX0:CXT:=λ_ _ _ _ _ _=>False
noncomputable abbrev E0:XK:=λ_ _ _=>False
theorem S3 {X:Cx}:Passes CX0 X E0:=λ_ _ _ _ _ _ _ h=>h.elim
structure Fun (K:PySem.W.Frag) (x qual:Str) (st:Stmt) (f:Addr) (fd:FuncData):Prop where
 ex:∃ (oc:Value) (od:Option Addr) (kV doc pm:Value) (an:Option Addr) (cdv ct:Value) (osl:Array (Option Value)),
  fd=PySem.W.fnOf x qual (EI st) (Dk st) (Ci st) .none kV doc pm an cdv ct/\K.lookup f=some ⟨oc,od,.func fd,osl⟩/\PySem.W.codeIn K cdv qual=true
 kp:PySem.W.keepIn K (.ref f)=true
section
variable {P:Program} {w:World} {K:PySem.W.Frag} {mg:Str->Option Value} {base:Heap}
theorem Fun.ok {x qual:Str} {st:Stmt} {f:Addr} {fd:FuncData} {N ps:List Str} {k:Nat} {sp:Sp} (F:Fun K x qual st f fd) (S:FnScope N ps (Ci st)) (len:∀ vs H Q E,sp vs H Q E->vs.length=ps.length)
  (hbody:∀ (cdv:Value) (A:Around) (outer:List Env) (s:Shared) (H:Hp) (vs:List V) (Q:VK) (E:XK),Room k (A.deeper (envOfC qual (Ci st) s.heap.objs.size f cdv))->sp vs H Q E->
   ∃ t,PSs (FN CX0 P w K mg base N qual (Ci st) f cdv A outer s H E).nox (Dk st) t/\t { nx:=λ_ H'=>Q .non H',rt:=Q } (start N vs) H):FnOk P w K mg base CX0 (k+1) f fd ps sp:=by
 obtain ⟨oc,od,kV,doc,pm,an,cdv,ct,osl,rfl,lk,hcd⟩:=F.ex
 refine SY lk hcd S len λA outer s H vs Q E hr hsp=>?_
 obtain ⟨t,h,q⟩:=hbody cdv A outer s H vs Q E hr hsp
 exact ⟨t,h.nox,q⟩
theorem Fun.binds {x qual:Str} {st:Stmt} {f:Addr} {fd:FuncData} {ps:List Str} (F:Fun K x qual st f fd)
  (h:∀ (kV doc pm:Value) (an:Option Addr) (cdv ct:Value) (us:List Value),us.length=ps.length->bindArgs (PySem.W.fnOf x qual (EI st) (Dk st) (Ci st) .none kV doc pm an cdv ct) ⟨us,[]⟩=pure (ps.zip us)):Binds K fd ps []:=by
 obtain ⟨oc,od,kV,doc,pm,an,cdv,ct,osl,rfl,lk,hcd⟩:=F.ex
 exact .all (h kV doc pm an cdv ct)
theorem S5 {x qual:Str} {st:Stmt} {f:Addr} {oc:Value} {od an:Option Addr} {osl:Array (Option Value)} {kV doc pm cdv ct:Value} (l:K.lookup f=some ⟨oc,od,.func (PySem.W.fnOf x qual (EI st) (Dk st) (Ci st) .none kV doc pm an cdv ct),osl⟩)
  (c:PySem.W.codeIn K cdv qual=true) (k:PySem.W.keepIn K (.ref f)=true):Fun K x qual st f (PySem.W.fnOf x qual (EI st) (Dk st) (Ci st) .none kV doc pm an cdv ct):=⟨⟨oc,od,kV,doc,pm,an,cdv,ct,osl,rfl,l,c⟩,k⟩
end
section
variable {X:Cx}
theorem pv (i:Nat) {x:Str} {pos:Pos} (hN:X.N[i]?=some x:=by rfl) (hv:Vis X.env.scope x:=by first | exact Or.inl rfl | exact Or.inr (Or.inl rfl) | exact Or.inr (Or.inr rfl)) (hd:(x == ("__debug__" : Str))=false:=by decide)
  (hcd:(x == ("__classdict__" : Str))=false:=by decide):PE X (.Name x pos) (AA i):=Rx hN hv hd hcd
end
theorem AO {c A B:Prop} [Decidable c] (h1:c->A) (h2:¬ c->B):if c then A else B:=by
 by_cases h:c
 ·rw [Zu h]
  exact h1 h
 ·rw [Zt h]
  exact h2 h
noncomputable def Same (H H':Hp):Prop:=∀ b o,H b=some o->H' b=some o
theorem Same.refl (H:Hp):Same H H:=λ_ _ h=>h
theorem Same.trans {H H1 H2:Hp} (a:Same H H1) (b:Same H1 H2):Same H H2:=λc o h=>b c o (a c o h)
theorem Same.seq {K:PySem.W.Frag} {H H':Hp} {a:Addr} {xs:List V} (e:Same H H') (h:SqL K H a xs):SqL K H' a xs:=by
 rcases h with (h | ⟨o,h⟩) | h
 ·exact .inl (.inl (e _ _ h))
 ·exact .inl (.inr ⟨o,e _ _ h⟩)
 ·exact .inr h
end L2
local macro_rules | `(tactic| omega)=>`(tactic| lia)
namespace Bs.Hd
open PySem PySem.Spec PyProof.Rows L2
set_option maxRecDepth 100000
set_option maxHeartbeats 4000000
noncomputable def top (i:Nat):Stmt:=PySem.Challenge.pw_backslope_k13_real_places_counted.main.body.getD i (.Pass ⟨0,0,0,0⟩)
noncomputable abbrev S6:Stmt:=top 2
noncomputable abbrev S7:Stmt:=top 3
noncomputable abbrev S8:Stmt:=top 4
noncomputable abbrev S9:Stmt:=top 5
noncomputable abbrev TB:Stmt:=top 6
noncomputable abbrev TC:Stmt:=top 7
noncomputable abbrev TD:Stmt:=top 8
noncomputable abbrev TF:Stmt:=top 9
noncomputable abbrev TH:Stmt:=top 10
noncomputable abbrev TJ:Stmt:=top 11
noncomputable abbrev TK:Stmt:=top 12
noncomputable abbrev TL:Stmt:=top 13
noncomputable abbrev TM:Stmt:=top 14
noncomputable abbrev TN:Stmt:=top 15
noncomputable abbrev TQ:Stmt:=top 16
noncomputable abbrev TR:Stmt:=top 17
noncomputable abbrev TU:Stmt:=top 18
noncomputable abbrev TV:Stmt:=top 19
noncomputable abbrev TW:Stmt:=top 20
noncomputable abbrev TX:Stmt:=top 21
noncomputable abbrev TY:Stmt:=top 22
noncomputable abbrev TZ:Stmt:=top 23
noncomputable abbrev Ta:Stmt:=top 24
noncomputable abbrev Tb:Stmt:=top 25
noncomputable abbrev Tc:Stmt:=top 26
noncomputable abbrev Td:Stmt:=top 28
noncomputable abbrev Te:Stmt:=top 29
noncomputable abbrev Tf:Stmt:=top 31
noncomputable abbrev Tg:Stmt:=top 32
noncomputable abbrev Th:Stmt:=top 34
noncomputable abbrev Ti:Stmt:=top 35
noncomputable abbrev Tj:Stmt:=top 36
noncomputable abbrev Tk:Stmt:=top 37
noncomputable abbrev Tl:Stmt:=top 38
noncomputable abbrev Tm:Stmt:=top 40
noncomputable abbrev Tn:Stmt:=top 41
noncomputable abbrev To:Stmt:=top 42
noncomputable abbrev Tq:Stmt:=top 43
noncomputable abbrev Tr:Stmt:=top 44
noncomputable abbrev Ts:Stmt:=top 45
noncomputable abbrev Tt:Stmt:=top 46
noncomputable abbrev Tu:Stmt:=top 47
noncomputable abbrev Tv:Stmt:=top 48
noncomputable abbrev Tw:Stmt:=top 49
noncomputable abbrev Tx:Stmt:=top 50
noncomputable abbrev Hl:Stmt:=top 51
noncomputable abbrev N:Value:=.none
noncomputable abbrev S (x:Str) (t:Tok):Value:=.str x t
noncomputable abbrev I (i:Int):Value:=.int i 0
noncomputable abbrev R (a:Addr):Value:=.ref a
noncomputable def en (P:Params) (k:Str) (t:Tok) (v:Value):DictEntry:=⟨PyData.keyHash P k,.str k t,v⟩
noncomputable def cdO (n:Str) (t:Tok) (l c u:Int) (a:Addr) (b g d e f:Value) (x:Int) (y:Tok):Obj:=⟨.type "code", none,.fields #[S n t,S n (t+1),S "/claim/cut.py" (t+2),I l,I c,I 0,I 0,I u,R a,.bool true,I 181,b,g,d,e,f,I x,I l,S "/claim/cut.py" y],#[]⟩
noncomputable def fnO (n:Str) (s:Stmt) (pm:Value) (c:Addr):Obj:=⟨.type "function", none,.func (PySem.W.fnOf n n (EI s) (Dk s) (Ci s) .none .none .none pm none (.ref c) .none),#[]⟩
noncomputable abbrev mo0:Value:=S "backslope.wholes" 187
noncomputable abbrev mo1:Value:=S "backslope.numbers" 413
noncomputable abbrev mo2:Value:=S "backslope.polys" 432
noncomputable abbrev mo3:Value:=S "backslope.places" 452
noncomputable abbrev mo4:Value:=S "law_backslope_k13_real_places_counted" 512
noncomputable def hp (P:Params):W.Frag:=[
 (3,⟨.type "dict", none,.dict #[en P "__name__" 165 (S "law_backslope_k13_real_places_counted" 512),en P "__doc__" 166 N,en P "__package__" 167 N,en P "__loader__" 168 (.builtin "__main__.__loader__#opaque"),en P "__spec__" 169 N,en P "__annotations__" 170 (R 6),en P "__builtins__" 171 (R 4),en P "__file__" 173 (S "/claim/cut.py" 172),en P "__cached__" 174 N,en P "EXPONENTS" 197 (R 15),en P "common_divisor" 206 (R 22),en P "raised" 216 (R 29),en P "content" 222 (R 34),en P "row_trimmed" 230 (R 41),en P "row_parted" 236 (R 46),en P "row_slope" 242 (R 51),en P "row_over" 256 (R 58),en P "root_exponent" 266 (R 65),en P "row_less" 272 (R 70),en P "row_moved" 283 (R 77),en P "strand_rest" 289 (R 82),en P "strand_shortened" 295 (R 87),en P "row_shortened" 302 (R 94),en P "strand_euclid" 311 (R 101),en P "inverse_modulo" 325 (R 108),en P "rests_modulo" 331 (R 113),en P "row_modulo" 339 (R 120),en P "monic_modulo" 345 (R 125),en P "split_modulo" 360 (R 132),en P "rest_modulo" 369 (R 139),en P "euclid_modulo" 379 (R 146),en P "nearest" 388 (R 153),en P "common_by_prime" 394 (R 158),en P "row_common" 406 (R 165),en P "simple_row" 412 (R 170),en P "ratio" 423 (R 177),en P "before" 431 (R 184),en P "cleared" 439 (R 189),en P "p_at" 451 (R 196),en P "count_between" 469 (R 203),en P "stretched" 482 (R 210),en P "count_within" 495 (R 217),en P "halved" 501 (R 222),en P "sign_changes" 511 (R 229),en P "_law_hand" 521 (R 236),en P "_law_draw" 533 (R 243),en P "_law_lowest" 543 (R 250),en P "_law_row_times" 556 (R 257),en P "_law_poly_of" 562 (R 262),en P "_law_root" 572 (R 269),en P "_law_scale" 579 (R 276),en P "_law_span" 593 (R 283),en P "_law_above" 605 (R 290),en P "_law_counted" 617 (R 297),en P "_law_close" 623 (R 302),en P "law" 629 (R 307)] 56,#[]⟩),
 (15,⟨.type "tuple", none,.seq #[(.int 61 189),(.int 127 190),(.int 521 191),(.int 1279 192),(.int 4423 193),(.int 9941 194),(.int 21701 195),(.int 44497 196)] 0,#[]⟩),
 (21,cdO "common_divisor" 198 3 2 3 16 (R 17) N (R 18) (R 19) (R 20) 204 205),
 (22,fnO "common_divisor" (top 2) mo0 21),
 (28,cdO "raised" 207 9 2 3 23 (R 24) N (R 25) (R 26) (R 27) 214 215),
 (29,fnO "raised" (top 3) mo0 28),
 (33,cdO "content" 217 19 2 3 30 (R 31) N N N (R 32) 220 221),
 (34,fnO "content" (top 4) mo0 33),
 (40,cdO "row_trimmed" 223 26 1 3 35 (R 36) N (R 37) (R 38) (R 39) 228 229),
 (41,fnO "row_trimmed" (top 5) mo0 40),
 (45,cdO "row_parted" 231 31 2 3 42 (R 43) N N N (R 44) 234 235),
 (46,fnO "row_parted" (top 6) mo0 45),
 (50,cdO "row_slope" 237 33 1 3 47 (R 48) N N N (R 49) 240 241),
 (51,fnO "row_slope" (top 7) mo0 50),
 (57,cdO "row_over" 243 35 2 3 52 (R 53) N (R 54) (R 55) (R 56) 254 255),
 (58,fnO "row_over" (top 8) mo0 57),
 (64,cdO "root_exponent" 257 48 1 3 59 (R 60) N (R 61) (R 62) (R 63) 264 265),
 (65,fnO "root_exponent" (top 9) mo0 64),
 (69,cdO "row_less" 267 55 5 3 66 (R 67) N N N (R 68) 270 271),
 (70,fnO "row_less" (top 10) mo0 69),
 (76,cdO "row_moved" 273 61 2 3 71 (R 72) N (R 73) (R 74) (R 75) 281 282),
 (77,fnO "row_moved" (top 11) mo0 76),
 (81,cdO "strand_rest" 284 67 2 3 78 (R 79) N N N (R 80) 287 288),
 (82,fnO "strand_rest" (top 12) mo0 81),
 (86,cdO "strand_shortened" 290 77 1 3 83 (R 84) N N N (R 85) 293 294),
 (87,fnO "strand_shortened" (top 13) mo0 86),
 (93,cdO "row_shortened" 296 82 1 3 88 (R 89) N (R 90) (R 91) (R 92) 300 301),
 (94,fnO "row_shortened" (top 14) mo0 93),
 (100,cdO "strand_euclid" 303 84 2 3 95 (R 96) N (R 97) (R 98) (R 99) 309 310),
 (101,fnO "strand_euclid" (top 15) mo0 100),
 (107,cdO "inverse_modulo" 312 92 2 3 102 (R 103) N (R 104) (R 105) (R 106) 323 324),
 (108,fnO "inverse_modulo" (top 16) mo0 107),
 (112,cdO "rests_modulo" 326 106 2 3 109 (R 110) N N N (R 111) 329 330),
 (113,fnO "rests_modulo" (top 17) mo0 112),
 (119,cdO "row_modulo" 332 108 2 3 114 (R 115) N (R 116) (R 117) (R 118) 337 338),
 (120,fnO "row_modulo" (top 18) mo0 119),
 (124,cdO "monic_modulo" 340 110 2 3 121 (R 122) N N N (R 123) 343 344),
 (125,fnO "monic_modulo" (top 19) mo0 124),
 (131,cdO "split_modulo" 346 115 3 3 126 (R 127) N (R 128) (R 129) (R 130) 358 359),
 (132,fnO "split_modulo" (top 20) mo0 131),
 (138,cdO "rest_modulo" 361 126 3 3 133 (R 134) N (R 135) (R 136) (R 137) 367 368),
 (139,fnO "rest_modulo" (top 21) mo0 138),
 (145,cdO "euclid_modulo" 370 128 3 3 140 (R 141) N (R 142) (R 143) (R 144) 377 378),
 (146,fnO "euclid_modulo" (top 22) mo0 145),
 (152,cdO "nearest" 380 136 2 3 147 (R 148) N (R 149) (R 150) (R 151) 386 387),
 (153,fnO "nearest" (top 23) mo0 152),
 (157,cdO "common_by_prime" 389 139 3 3 154 (R 155) N N N (R 156) 392 393),
 (158,fnO "common_by_prime" (top 24) mo0 157),
 (164,cdO "row_common" 395 148 2 3 159 (R 160) N (R 161) (R 162) (R 163) 404 405),
 (165,fnO "row_common" (top 25) mo0 164),
 (169,cdO "simple_row" 407 157 1 3 166 (R 167) N N N (R 168) 410 411),
 (170,fnO "simple_row" (top 26) mo0 169),
 (176,cdO "ratio" 415 162 2 3 171 (R 172) N (R 173) (R 174) (R 175) 421 422),
 (177,fnO "ratio" (top 28) mo1 176),
 (183,cdO "before" 424 167 2 3 178 (R 179) N (R 180) (R 181) (R 182) 429 430),
 (184,fnO "before" (top 29) mo1 183),
 (188,cdO "cleared" 434 170 1 3 185 (R 186) N N N (R 187) 437 438),
 (189,fnO "cleared" (top 31) mo2 188),
 (195,cdO "p_at" 440 175 2 3 190 (R 191) N (R 192) (R 193) (R 194) 449 450),
 (196,fnO "p_at" (top 32) mo2 195),
 (202,cdO "count_between" 454 184 3 3 197 (R 198) N (R 199) (R 200) (R 201) 467 468),
 (203,fnO "count_between" (top 34) mo3 202),
 (209,cdO "stretched" 470 197 3 3 204 (R 205) N (R 206) (R 207) (R 208) 480 481),
 (210,fnO "stretched" (top 35) mo3 209),
 (216,cdO "count_within" 483 210 1 3 211 (R 212) N (R 213) (R 214) (R 215) 493 494),
 (217,fnO "count_within" (top 36) mo3 216),
 (221,cdO "halved" 496 226 1 3 218 (R 219) N N N (R 220) 499 500),
 (222,fnO "halved" (top 37) mo3 221),
 (228,cdO "sign_changes" 502 229 1 3 223 (R 224) N (R 225) (R 226) (R 227) 509 510),
 (229,fnO "sign_changes" (top 38) mo3 228),
 (235,cdO "_law_hand" 514 239 1 3 230 (R 231) N (R 232) (R 233) (R 234) 519 520),
 (236,fnO "_law_hand" (top 40) mo4 235),
 (242,cdO "_law_draw" 522 242 2 3 237 (R 238) N (R 239) (R 240) (R 241) 531 532),
 (243,fnO "_law_draw" (top 41) mo4 242),
 (249,cdO "_law_lowest" 534 255 2 3 244 (R 245) N (R 246) (R 247) (R 248) 541 542),
 (250,fnO "_law_lowest" (top 42) mo4 249),
 (256,cdO "_law_row_times" 544 262 2 3 251 (R 252) N (R 253) (R 254) (R 255) 554 555),
 (257,fnO "_law_row_times" (top 43) mo4 256),
 (261,cdO "_law_poly_of" 557 268 2 3 258 (R 259) N N N (R 260) 560 561),
 (262,fnO "_law_poly_of" (top 44) mo4 261),
 (268,cdO "_law_root" 563 270 2 3 263 (R 264) N (R 265) (R 266) (R 267) 570 571),
 (269,fnO "_law_root" (top 45) mo4 268),
 (275,cdO "_law_scale" 573 277 1 3 270 (R 271) N (R 272) (R 273) (R 274) 577 578),
 (276,fnO "_law_scale" (top 46) mo4 275),
 (282,cdO "_law_span" 580 279 2 3 277 (R 278) N (R 279) (R 280) (R 281) 591 592),
 (283,fnO "_law_span" (top 47) mo4 282),
 (289,cdO "_law_above" 594 296 2 3 284 (R 285) N (R 286) (R 287) (R 288) 603 604),
 (290,fnO "_law_above" (top 48) mo4 289),
 (296,cdO "_law_counted" 606 304 3 3 291 (R 292) N (R 293) (R 294) (R 295) 615 616),
 (297,fnO "_law_counted" (top 49) mo4 296),
 (301,cdO "_law_close" 618 312 1 3 298 (R 299) N N N (R 300) 621 622),
 (302,fnO "_law_close" (top 50) mo4 301),
 (306,cdO "law" 624 318 1 3 303 (R 304) N N N (R 305) 627 628),
 (307,fnO "law" (top 51) mo4 306)]
noncomputable def as:List Addr:=[3,15,21,22,28,29,33,34,40,41,45,46,50,51,57,58,64,65,69,70,76,77,81,82,86,87,93,94,100,101,107,108,112,113,119,120,124,125,131,132,138,139,145,146,152,153,157,158,164,165,169,170,176,177,183,184,188,189,195,196,202,203,209,210,216,217,221,222,228,229,235,236,242,243,249,250,256,257,261,262,268,269,275,276,282,283,289,290,296,297,301,302,306,307]
noncomputable def vw:Program:=PySem.W.view PySem.Challenge.pw_backslope_k13_real_places_counted [1,2,3,4,5,6,7,8,9,10,11,12,13,14,15,16,17,18,19,20,21,22,23,24,25,26,28,29,31,32,34,35,36,37,38,40,41,42,43,44,45,46,47,48,49,50,51]
noncomputable def hk:PySem.W.Hook:=PySem.W.kHook hp as (λ_=>by kernel_rfl)
theorem left:PySem.W.LeftO PySem.Challenge.pw_backslope_k13_real_places_counted vw [] (λs=>PySem.W.xlAt vw [] s && PySem.W.recOk (PySem.W.RowW.records (PySem.W.OpenRow.toRowW (PySem.W.OpenLaw.row PySem.Challenge.rw_backslope_k13_real_places_counted))) s) hk.obs hk.val 3064:=λw=>by kernel_rfl
end Bs.Hd
namespace Bs
noncomputable def Bd (n:Nat) (x:Int):Prop:=x.natAbs<2 ^ n
theorem Bd.mono {m n:Nat} {x:Int} (h:Bd m x) (hn:m<=n):Bd n x:=CO h (Cp ∅ hn)
theorem Bd.le {n:Nat} {x y:Int} (h:Bd n x) (hy:y.natAbs<=x.natAbs):Bd n y:=DG hy h
theorem Bd.neg {n:Nat} {x:Int} (h:Bd n x):Bd n (-x):=by unfold Bd at *;rw [Int.natAbs_neg];exact h
theorem Bd.add {n:Nat} {x y:Int} (h:Bd n x) (h':Bd n y):Bd (n+1) (x+y):=by
 unfold Bd at *
 have:=Int.natAbs_add_le x y
 rw [B5]
 omega
theorem Bd.sub {n:Nat} {x y:Int} (h:Bd n x) (h':Bd n y):Bd (n+1) (x - y):=by
 rw [Int.sub_eq_add_neg];exact h.add h'.neg
theorem Bd.mul {m n:Nat} {x y:Int} (h:Bd m x) (h':Bd n y):Bd (m+n) (x*y):=by
 unfold Bd at *
 rw [BI,Cc]
 exact Nat.mul_lt_mul'' h h'
theorem Ty {x:Int} (h1:-18446744073709551616<x) (h2:x<18446744073709551616):Bd 64 x:=by
 unfold Bd
 have:(2:Nat) ^ 64=18446744073709551616:=by decide
 rw [this];omega
theorem Bd.log2 {n:Nat} {x:Int} (h:Bd n x) (hn:0<n):x.natAbs.log2<n:=by
 unfold Bd at h
 rcases DH x.natAbs with h0 | hp
 ·rw [h0];simpa using hn
 ·exact (Nat.log2_lt (Nat.ne_of_gt hp)).mpr h
structure Low (t d:Int):Prop where
 pos:0<d
 one:Int.gcd t d=1
theorem MN (a b:Int):Int.gcd b (a.fmod b)=Int.gcd a b:=by
 have e:a.fmod b=a - b*a.fdiv b:=Int.fmod_def a b
 rw [e]
 apply Nat.dvd_antisymm
 ·apply Int.dvd_gcd
  ·have h1:=Ep b (a - b*a.fdiv b)
   have h2:=ET b (a - b*a.fdiv b)
   have h3:=C6 h2 (Fl (c:=a.fdiv b) h1)
   rw [Int.sub_add_cancel] at h3
   exact h3
  ·exact Ep b _
 ·apply Int.dvd_gcd
  ·exact ET a b
  ·exact Int.dvd_sub (Ep a b) (Fl (ET a b))
theorem JX (a:Int) {b:Int} (h:0<=b):Int.gcd b (a % b)=Int.gcd a b:=by
 rw [<-Int.fmod_eq_emod_of_nonneg a h,MN]
theorem T2 (a:Int) {b:Int} (h:b≠0):(a.fmod b).natAbs<b.natAbs:=by
 rcases Int.lt_or_gt_of_ne h with hb | hb
 ·rw [Int.fmod_eq_emod]
  have h1:=CM a h
  have h2:=Int.emod_lt a h
  split
  ·rename_i h'
   rcases h' with h' | h'
   ·omega
   ·have:a % b=0:=Int.emod_eq_zero_of_dvd h'
    omega
  ·rename_i h'
   have:a % b≠0:=λz=>h' (.inr (Int.dvd_of_emod_eq_zero z))
   omega
 ·rw [Int.fmod_eq_emod_of_nonneg a (Int.le_of_lt hb)]
  have h1:=CM a h
  have h2:=CT a hb
  omega
theorem Hm {a b s:Int} (hb:b≠0) (hs:s=if b<0 then -((Int.gcd a b:Nat):Int) else ((Int.gcd a b:Nat):Int)) :
  s≠0/\s.natAbs<=b.natAbs/\Low (a.fdiv s) (b.fdiv s)/\a.fdiv s*b=a*b.fdiv s/\(a.fdiv s).natAbs<=a.natAbs/\(b.fdiv s).natAbs<=b.natAbs:=by
 have g0:0<Int.gcd a b:=Int.gcd_pos_of_ne_zero_right a hb
 have sn:s.natAbs=Int.gcd a b:=by rw [hs];split <;> simp
 have s0:s≠0:=by intro z;rw [z] at sn;simp at sn;omega
 have da:s∣a:=by
  rw [<-Int.natAbs_dvd,sn];exact Ep a b
 have db:s∣b:=by
  rw [<-Int.natAbs_dvd,sn];exact ET a b
 obtain ⟨t,rfl⟩:=da
 obtain ⟨d,rfl⟩:=db
 rw [Int.mul_fdiv_cancel_left _ s0,Int.mul_fdiv_cancel_left _ s0]
 have d0:d≠0:=by rintro rfl;simp at hb
 have sp:1<=s.natAbs:=by omega
 have gd:Int.gcd t d=1:=by
  rw [Int.gcd_mul_left] at sn
  have h2:s.natAbs*Int.gcd t d=s.natAbs*1:=by omega
  exact Nat.eq_of_mul_eq_mul_left sp h2
 have dp:0<d:=by
  by_cases h:s*d<0
  ·rw [Zu h] at hs
   have sneg:s<0:=by omega
   rcases Int.lt_or_gt_of_ne d0 with h' | h'
   ·have:=Int.mul_pos_of_neg_of_neg sneg h';omega
   ·exact h'
  ·rw [Zt h] at hs
   have spos:0<s:=by omega
   rcases Int.lt_or_gt_of_ne d0 with h' | h'
   ·have:=Int.mul_neg_of_pos_of_neg spos h';omega
   ·exact h'
 have le1:∀ y:Int,y.natAbs<=(s*y).natAbs:=λy=>by
  rw [BI];exact Fm _ sp
 refine ⟨s0,?_,⟨dp,gd⟩,?_,le1 t,le1 d⟩
 ·rw [BI];exact Fn _ ⋯
 ·ext
theorem JY {a b:Int} (hb:0<b):Low (a / ((Int.gcd a b:Nat):Int)) (b / ((Int.gcd a b:Nat):Int))/\(a / ((Int.gcd a b:Nat):Int)).natAbs<=a.natAbs/\(b / ((Int.gcd a b:Nat):Int)).natAbs<=b.natAbs/\0<((Int.gcd a b:Nat):Int)/\((Int.gcd a b:Nat):Int)<=b:=by
 have g0:0<Int.gcd a b:=Int.gcd_pos_of_ne_zero_right a ⋯
 obtain ⟨_,h1,h2,h3,h4,h5⟩:=Hm (a:=a) (b:=b) (s:=((Int.gcd a b:Nat):Int)) ⋯ (by rw [Zt ⋯])
 rw [Er _ ⋯,Er _ ⋯] at h2
 rw [Er _ ⋯] at h4 h5
 exact ⟨h2,h4,h5,⋯,⋯⟩
end Bs
namespace Bs
open PySem L2
noncomputable def JZ (_ j:Int):Prop:=0<j/\Bd 9000 j
noncomputable def T3 (_ j:Int):Prop:=j≠0/\Bd 9000 j
noncomputable def MO (i j:Int):Prop:=0<=j/\j<=1000000/\i.natAbs<2 ^ 64
noncomputable abbrev A9:R2:=rI0 λi j=>.int (i+j)
noncomputable abbrev A8:R2:=rI0 λi j=>.int (i - j)
noncomputable abbrev Ac:R2:=rI IntMulOk λi j=>.int (i*j)
noncomputable abbrev FQ:R2:=rI JZ λi j=>.int (i / j)
noncomputable abbrev T4:R2:=rI T3 λi j=>.int (i.fdiv j)
noncomputable abbrev Cj:R2:=rI (λ_ j=>0<j) λi j=>.int (i % j)
noncomputable abbrev MP:R2:=rI (λ_ j=>j≠0) λi j=>.int (i.fmod j)
noncomputable abbrev FR:R2:=rI MO λi j=>.int (i ^ j.toNat)
noncomputable abbrev iLt:R2:=rI0 λi j=>.bl (decide (i<j))
noncomputable abbrev iLe:R2:=rI0 λi j=>.bl (decide (i<=j))
noncomputable abbrev iGt:R2:=rI0 λi j=>.bl (decide (j<i))
noncomputable abbrev iGe:R2:=rI0 λi j=>.bl (decide (j<=i))
noncomputable abbrev BS:V->Hp->VK->Prop:=rU λi=>.int (-i)
noncomputable def gT:R2:=λx y H Q=>∃ p i xs v,x=.ref p/\y=.int i/\H p=some (.tup xs)/\atI xs i=some v/\Q v H
noncomputable def gL:R2:=λx y H Q=>∃ p i xs v,x=.ref p/\y=.int i/\H p=some (.lst xs)/\atI xs i=some v/\Q v H
noncomputable def gS (K:W.Frag):R2:=λx y H Q=>∃ p i xs v,x=.ref p/\y=.int i/\SqL K H p xs/\atI xs i=some v/\Q v H
noncomputable def E3:List V->Hp->VK->Prop:=λxs H Q=>∃ i,xs=[.int i]/\Q (.int (if i<0 then -i else i)) H
noncomputable def FS:List V->Hp->VK->Prop:=λxs H Q=>∃ i j,xs=[.int i,.int j]/\Q (.int (if j > i then j else i)) H
noncomputable def T5:List V->Hp->VK->Prop:=λxs H Q=>∃ i j,xs=[.int i,.int j]/\Q (.int (if j<i then j else i)) H
noncomputable def Ja:List V->Hp->VK->Prop:=λxs H Q=>∃ k,xs=[.bl k]/\Q (.int (if k=true then 1 else 0)) H
noncomputable def Hn:List V->Hp->VK->Prop:=λxs H Q=>∃ p ys,xs=[.ref p]/\H p=some (.tup ys)/\Q (.int ys.length) H
noncomputable def BX:List V->Hp->VK->Prop:=λxs H Q=>∃ p ys,xs=[.ref p]/\H p=some (.lst ys)/\Q (.int ys.length) H
noncomputable def T6 (K:W.Frag):List V->Hp->VK->Prop:=λxs H Q=>∃ p ys,xs=[.ref p]/\SqL K H p ys/\Q (.int ys.length) H
noncomputable def T7:Option HO->String->Option Bool
 | some (.tup _),n=>if n = "tuple" then some true else if n = "bool" \/ n = "int" \/ n = "list" then some false else none
 | some (.lst _),n=>if n = "list" then some true else if n = "bool" \/ n = "int" \/ n = "tuple" then some false else none
 | _,_=>none
noncomputable def Ho (H:Hp):V->String->Option Bool
 | .int _,n=>if n = "int" then some true else if n = "bool" \/ n = "tuple" \/ n = "list" then some false else none
 | .bl _,n=>if n = "int" \/ n = "bool" then some true else if n = "tuple" \/ n = "list" then some false else none
 | .ref p,n=>T7 (H p) n
 | _,_=>none
noncomputable def T8:List V->Hp->VK->Prop:=λxs H Q=>∃ x n b,xs=[x,.ty n]/\Ho H x n=some b/\Q (.bl b) H
theorem T9 (H:Hp) (i:Int):Ho H (.int i) "int" = some true:=rfl
theorem UA (H:Hp) (i:Int):Ho H (.int i) "bool" = some false:=rfl
theorem UB (H:Hp) (b:Bool):Ho H (.bl b) "bool" = some true:=rfl
noncomputable def MR:V->Bool
 | .int _=>true
 | _=>false
noncomputable def eqT:R2:=λx y H Q=>∃ a b xs ys,x=.ref a/\y=.ref b/\H a=some (.tup xs)/\H b=some (.tup ys)/\xs.all MR=true/\ys.all MR=true/\Q (.bl (decide (xs=ys))) H
noncomputable def ForR (lo:Int) (n:Nat) (g:TG) (tb:TS) (D:Ends) (σ:St) (H:Hp):Prop:=∃ W:Nat->Nat->St->Hp->Prop,(∃ m,W 0 m σ H)/\∀ i m σ H,W i m σ H->
 ((Itr lo n).stop i H/\D.nx σ H)\/((Itr lo n).go i H/\∃ N:St->Hp->Prop,(∀ σ' H',N σ' H'->∃ m',m'<m/\W (i+1) m' σ' H')/\∀ x H',(Itr lo n).yld i H x H'->g x σ H' λσ2 H2=>tb { D with nx:=N,ct:=N,bk:=D.nx } σ2 H2)
theorem UC {ta:TA} {g:TG} {tb:TS} {D:Ends} {σ:St} {H:Hp}:BM (D2 ta) g tb D σ H=ta σ H (λvs H1=>∃ j:Int,vs=[.int j]/\-(2 ^ 62)<=j/\j<2 ^ 62/\ForR 0 j.toNat g tb D σ H1):=rfl
theorem UD {ta:TA} {g:TG} {tb:TS} {D:Ends} {σ:St} {H:Hp}:BM (Gg ta) g tb D σ H=ta σ H (λvs H1=>∃ i j:Int,vs=[.int i,.int j]/\(-(2 ^ 62)<=i/\i<2 ^ 62/\-(2 ^ 62)<=j/\j<2 ^ 62)/\ForR i (j - i).toNat g tb D σ H1):=rfl
theorem ForR.by {lo:Int} {n:Nat} {g:TG} {tb:TS} {D:Ends} {σ:St} {H:Hp} (Pv:Nat->St->Hp->Prop) (h0:Pv 0 σ H)
  (hs:∀ i σ H,i<n->Pv i σ H->g (.int (lo+i)) σ H λσ2 H2=>tb { D with nx:=Pv (i+1),ct:=Pv (i+1),bk:=D.nx } σ2 H2) (hd:∀ σ H,Pv n σ H->D.nx σ H):ForR lo n g tb D σ H:=SF Pv h0 hs hd
noncomputable def ForT (K:W.Frag) (a:Addr) (g:TG) (tb:TS) (D:Ends) (σ:St) (H:Hp):Prop:=∃ W:Nat->Nat->St->Hp->Prop,(∃ m,W 0 m σ H)/\∀ i m σ H,W i m σ H->
 ((Itt K a).stop i H/\D.nx σ H)\/((Itt K a).go i H/\∃ N:St->Hp->Prop,(∀ σ' H',N σ' H'->∃ m',m'<m/\W (i+1) m' σ' H')/\∀ x H',(Itt K a).yld i H x H'->g x σ H' λσ2 H2=>tb { D with nx:=N,ct:=N,bk:=D.nx } σ2 H2)
noncomputable def ForL (K:W.Frag) (a:Addr) (g:TG) (tb:TS) (D:Ends) (σ:St) (H:Hp):Prop:=∃ W:Nat->Nat->St->Hp->Prop,(∃ m,W 0 m σ H)/\∀ i m σ H,W i m σ H->
 ((Itl K a).stop i H/\D.nx σ H)\/((Itl K a).go i H/\∃ N:St->Hp->Prop,(∀ σ' H',N σ' H'->∃ m',m'<m/\W (i+1) m' σ' H')/\∀ x H',(Itl K a).yld i H x H'->g x σ H' λσ2 H2=>tb { D with nx:=N,ct:=N,bk:=D.nx } σ2 H2)
theorem UE {K:W.Frag} {tl:TE} {g:TG} {tb:TS} {D:Ends} {σ:St} {H:Hp}:BM (Fy K tl) g tb D σ H=tl σ H (λx H1=>∃ a,x=.ref a/\(∃ xs,SqT K H1 a xs)/\ForT K a g tb D σ H1):=rfl
theorem UF {K:W.Frag} {tl:TE} {g:TG} {tb:TS} {D:Ends} {σ:St} {H:Hp}:BM (CD K tl) g tb D σ H=tl σ H (λx H1=>∃ a,x=.ref a/\(∃ xs,SqL K H1 a xs)/\ForL K a g tb D σ H1):=rfl
theorem ForT.by {K:W.Frag} {a:Addr} {xs:List V} {g:TG} {tb:TS} {D:Ends} {σ:St} {H:Hp} (Pv:Nat->St->Hp->Prop) (h0:Pv 0 σ H) (hl:∀ i σ H,i<=xs.length->Pv i σ H->H a=some (.tup xs))
  (hs:∀ i x σ H,xs[i]?=some x->Pv i σ H->g x σ H λσ2 H2=>tb { D with nx:=Pv (i+1),ct:=Pv (i+1),bk:=D.nx } σ2 H2) (hd:∀ σ H,Pv xs.length σ H->D.nx σ H):ForT K a g tb D σ H:=
 Lq Pv h0 (λi σ H h p=>SqT.of (hl i σ H h p)) hs hd
theorem ForL.by {K:W.Frag} {a:Addr} {xs:List V} {g:TG} {tb:TS} {D:Ends} {σ:St} {H:Hp} (Pv:Nat->St->Hp->Prop) (h0:Pv 0 σ H) (hl:∀ i σ H,i<=xs.length->Pv i σ H->SqL K H a xs)
  (hs:∀ i x σ H,xs[i]?=some x->Pv i σ H->g x σ H λσ2 H2=>tb { D with nx:=Pv (i+1),ct:=Pv (i+1),bk:=D.nx } σ2 H2) (hd:∀ σ H,Pv xs.length σ H->D.nx σ H):ForL K a g tb D σ H:=
 SE Pv h0 hl hs hd
theorem Eg {c:TT} {tb:TS} {D:Ends} {σ:St} {H:Hp} (W:Nat->St->Hp->Prop) (m:Nat) (h0:W m σ H)
  (hs:∀ m σ H,W m σ H->c σ H λb H1=>if b=true then ∃ N:St->Hp->Prop,(∀ σ' H',N σ' H'->∃ m',m'<m/\W m' σ' H')/\tb { D with nx:=N,ct:=N,bk:=D.nx } σ H1 else D.nx σ H1):Dz c tb D σ H:=⟨W,⟨m,h0⟩,hs⟩
theorem UG {t u:TS} {D:Ends} {σ:St} {H:Hp} (h:t { D with nx:=u D } σ H):AG t u D σ H:=h
noncomputable def Kp (p:Addr) (H H':Hp):Prop:=∀ b o,b≠p->H b=some o->H' b=some o
theorem Kp.trans {p:Addr} {H H1 H2:Hp} (a:Kp p H H1) (b:Kp p H1 H2):Kp p H H2:=λc o n h=>b c o n (a c o n h)
theorem Kp.same {p:Addr} {H H1 H2:Hp} (a:Kp p H H1) (b:Same H1 H2):Kp p H H2:=λc o n h=>b c o (a c o n h)
theorem Kp.of_same {p:Addr} {H H1:Hp} (b:Same H H1):Kp p H H1:=λc o _ h=>b c o h
theorem Kp.upd {p:Addr} {H:Hp} {o:HO}:Kp p H (upd H p o):=λb u n h=>by rw [Ag n];exact h
theorem AR {H:Hp} {p:Addr} (h:H p=none) (o:HO):Same H (upd H p o):=λb u q=>by rw [Ag (BO q h)];exact q
theorem sz {n:Nat} (h:n<=1000000):n<=sizeLine:=by rw [sizeLine_eq];omega
theorem UH {α:Type} (a b:α):atI [a,b] 0=some a:=rfl
theorem UI {α:Type} (a b:α):atI [a,b] 1=some b:=rfl
theorem UJ {α:Type} (a b c:α):atI [a,b,c] 0=some a:=rfl
theorem UK {α:Type} (a b c:α):atI [a,b,c] 1=some b:=rfl
theorem UL {α:Type} (a b c:α):atI [a,b,c] 2=some c:=rfl
theorem UM (a b:Int):scal (.int a) (.int b)=true:=rfl
theorem UN (a b:Bool):scal (.bl a) (.bl b)=true:=rfl
theorem UO:ixN 3 0=some 0:=rfl
theorem UP:ixN 3 2=some 2:=rfl
end Bs
namespace Bs
open PySem PySem.Spec PyProof.Rows L2
theorem F4:bootBuiltins "abs" = some (.builtin "abs"):=by decide +kernel
theorem BY:bootBuiltins "len" = some (.builtin "len"):=by decide +kernel
theorem F5:bootBuiltins "max" = some (.builtin "max"):=by decide +kernel
theorem UQ:bootBuiltins "min" = some (.builtin "min"):=by decide +kernel
theorem MS:bootBuiltins "isinstance" = some (.builtin "isinstance"):=by decide +kernel
theorem MT:bootBuiltins "sum" = some (.builtin "sum"):=by decide +kernel
theorem MU:bootBuiltins "int" = some (.type "int"):=by decide +kernel
theorem UR:bootBuiltins "bool" = some (.type "bool"):=by decide +kernel
theorem US:bootBuiltins "tuple" = some (.type "tuple"):=by decide +kernel
theorem F6:bootBuiltins "list" = some (.type "list"):=by decide +kernel
theorem UT:bootBuiltins "enumerate" = some (.type "enumerate"):=by decide +kernel
theorem UU:bootBuiltins "zip" = some (.type "zip"):=by decide +kernel
theorem UV:bootBuiltins "reversed" = some (.type "reversed"):=by decide +kernel
section
variable {X:Cx}
theorem MV {n:Nat} {x:Int} (h:Bd n x):Builtin.Int.intBits x<=n:=by
 unfold Builtin.Int.intBits
 split
 ·exact AV _
 ·rename_i h0
  have hn:x.natAbs≠0:=λz=>h0 (by have e:x=0:=by omega
                                 subst e;rfl)
  have:=(Nat.log2_lt hn).mpr h
  omega
theorem Aq:OpR X (binaryOp .Mult) Ac:=opI λ_ _ _ _ _ _ _ hc q=>mul_int q hc
theorem E4:OpR X (inplaceOp .Mult) Ac:=opI λ_ _ _ _ _ _ _ hc q=>imul_int q hc
theorem Jb:OpR X (binaryOp .FloorDiv) FQ:=opI λi j _ _ _ _ _ hc q=>by
 refine floordiv_int (Ah hc.1) ?_ (.inl (PyProof.noPylong_of_log2 (hc.2.log2 ∅)))
 rw [Er i (Int.le_of_lt hc.1)]
 exact q
theorem Go:OpR X (binaryOp .Pow) FR:=opI λ_ _ _ _ _ _ _ hc q=>pow_int_small hc.1 hc.2.1 hc.2.2 q
theorem Ai:IxR X gT:=by
 intro value slice pins s σ H x y v u Q I rx ry h hs
 obtain ⟨p,i,xs,w,e1,e2,hp,ha,q⟩:=h
 exact Se value slice pins s σ H x y v u Q I rx ry ⟨p,xs,i,w,e1,e2,SqT.of hp,ha,q⟩ hs
theorem Aj:IxR X gL:=by
 intro value slice pins s σ H x y v u Q I rx ry h hs
 obtain ⟨p,i,xs,w,e1,e2,hp,ha,q⟩:=h
 exact Sd value slice pins s σ H x y v u Q I rx ry ⟨p,xs,i,w,e1,e2,SqL.of hp,ha,q⟩ hs
theorem F7:CY X (.builtin "abs") E3:=SQ
theorem Gp (hc:X.calm=true):CY X (.builtin "max") FS:=SR hc
theorem UW:CY X (.type "int") Ja:=λpins s σ H xs us Q I r h=>SS pins s σ H xs us Q I r (.inr h)
theorem MW:CY X (.builtin "len") Hn:=λpins s σ H xs us Q I r h=>by
 obtain ⟨p,ys,e,hp,q⟩:=h
 exact MH pins s σ H xs us Q I r ⟨p,ys,e,.inr (SqT.of hp),q⟩
theorem Bg:CY X (.builtin "len") BX:=λpins s σ H xs us Q I r h=>by
 obtain ⟨p,ys,e,hp,q⟩:=h
 exact MH pins s σ H xs us Q I r ⟨p,ys,e,.inl (SqL.of hp),q⟩
end
structure Cal (P:Program) (w:World) (K:W.Frag) (mg:Str->Option Value) (base:Heap) (n:Nat) (x:Str) (ps:List Str) (sp:Sp):Prop where
 ex:∃ (f:Addr) (fd:FuncData),FnOk P w K mg base CX0 n f fd ps sp/\Binds K fd ps []/\PySem.W.keepIn K (.ref f)=true/\mg x=some (.ref f)
theorem Cal.pe {X:Cx} {n m:Nat} {x:Str} {ps:List Str} {sp:Sp} {e:Expr} {es:List Expr} {t:TA} {p pos:Pos} (C:Cal X.prog X.w X.K X.mg X.base n x ps sp) (hr:Room m X.A) (hn:n<=m) (hg:Gl X x) (ha:PA X (e::es) t)
  (hdb:(x == ("__debug__" : Str))=false:=by decide) (he:starEach (e::es) X.env=(false,eval e X.env)::starEach es X.env:=by rfl) (hpl:(backTo pos (starEach es X.env)).any (·.1)=false:=by rfl) :
  PE X (.Call (.Name x p) (e::es) [] pos) (AN sp [] E0 t):=by
 obtain ⟨f,fd,F,b,k,m⟩:=C.ex
 exact SU F (hr.mono hn) hg m k b .nil S3 ha hdb he hpl
end Bs
namespace Bs
open PySem L2
noncomputable def Ck (capt:List (Option Nat)) (σ:L2.St):L2.St:=capt.map λo=>o.bind λj=>(σ[j]?).join
noncomputable def CF (wi:TI) (capt:List (Option Nat)) (g:TG) (te:TE):TE:=λσ H Q=>wi σ H λJ H1=>∃ (n:Nat) (W:Nat->List V->Hp->Prop),W 0 [] H1/\∀ i ys H,W i ys H->i<=n/\ys.length<=sizeLine/\
 ((J.stop i H/\∀ p,H p=none->Q (.ref p) (upd H p (.lst ys)))\/(i<n/\J.go i H/\∀ x H',J.yld i H x H'->g x (Ck capt σ) H' λσ2 H2=>te σ2 H2 λy H3=>W (i+1) (ys++[y]) H3))
noncomputable def CompJ (J:It) (capt:List (Option Nat)) (g:TG) (te:TE) (σ:L2.St) (Q:VK) (H1:Hp):Prop:=∃ (n:Nat) (W:Nat->List V->Hp->Prop),W 0 [] H1/\∀ i ys H,W i ys H->i<=n/\ys.length<=sizeLine/\
 ((J.stop i H/\∀ p,H p=none->Q (.ref p) (upd H p (.lst ys)))\/(i<n/\J.go i H/\∀ x H',J.yld i H x H'->g x (Ck capt σ) H' λσ2 H2=>te σ2 H2 λy H3=>W (i+1) (ys++[y]) H3))
section
variable {K:W.Frag} {ta:TA} {tl:TE} {capt:List (Option Nat)} {g:TG} {te:TE} {σ:L2.St} {H:Hp} {Q:VK}
theorem UX:CF (D2 ta) capt g te σ H Q=ta σ H (λvs H1=>∃ j:Int,vs=[.int j]/\-(2 ^ 62)<=j/\j<2 ^ 62/\CompJ (Itr 0 j.toNat) capt g te σ Q H1):=rfl
theorem UY:CF (Gg ta) capt g te σ H Q=ta σ H (λvs H1=>∃ i j:Int,vs=[.int i,.int j]/\(-(2 ^ 62)<=i/\i<2 ^ 62/\-(2 ^ 62)<=j/\j<2 ^ 62)/\CompJ (Itr i (j - i).toNat) capt g te σ Q H1):=rfl
theorem UZ:CF (Fy K tl) capt g te σ H Q=tl σ H (λx H1=>∃ a,x=.ref a/\(∃ xs,SqT K H1 a xs)/\CompJ (Itt K a) capt g te σ Q H1):=rfl
theorem Ua:CF (CD K tl) capt g te σ H Q=tl σ H (λx H1=>∃ a,x=.ref a/\(∃ xs,SqL K H1 a xs)/\CompJ (Itl K a) capt g te σ Q H1):=rfl
theorem CompJ.range {lo:Int} {n:Nat} (W:Nat->List V->Hp->Prop) (h0:W 0 [] H) (hb:∀ i ys H,W i ys H->i<=n/\ys.length<=sizeLine)
  (hs:∀ i ys H,i<n->W i ys H->g (.int (lo+i)) (Ck capt σ) H λσ2 H2=>te σ2 H2 λy H3=>W (i+1) (ys++[y]) H3) (hd:∀ ys H,W n ys H->∀ p,H p=none->Q (.ref p) (upd H p (.lst ys))):CompJ (Itr lo n) capt g te σ Q H:=by
 refine ⟨n,W,h0,λi ys H w=>⟨(hb i ys H w).1,(hb i ys H w).2,?_⟩⟩
 by_cases h:i<n
 ·refine .inr ⟨h,h,λx H' y=>?_⟩
  obtain ⟨e,y⟩:=y
  subst e y
  exact hs i ys _ h w
 ·have e:i=n:=Nat.le_antisymm (hb i ys H w).1 (DI.mp h)
  subst e
  exact .inl ⟨AS _,hd ys H w⟩
theorem CompJ.tup {a:Addr} {xs:List V} (W:Nat->List V->Hp->Prop) (h0:W 0 [] H) (hb:∀ i ys H,W i ys H->i<=xs.length/\ys.length<=sizeLine/\H a=some (.tup xs))
  (hs:∀ i x ys H,xs[i]?=some x->W i ys H->g x (Ck capt σ) H λσ2 H2=>te σ2 H2 λy H3=>W (i+1) (ys++[y]) H3) (hd:∀ ys H,W xs.length ys H->∀ p,H p=none->Q (.ref p) (upd H p (.lst ys))):CompJ (Itt K a) capt g te σ Q H:=by
 refine ⟨xs.length,W,h0,λi ys H w=>⟨(hb i ys H w).1,(hb i ys H w).2.1,?_⟩⟩
 have q:SqT K H a xs:=SqT.of (hb i ys H w).2.2
 by_cases h:i<xs.length
 ·refine .inr ⟨h,⟨xs,xs[i],q,by simp [h]⟩,λx H' y=>?_⟩
  obtain ⟨e,y⟩:=y
  subst e
  exact hs i x ys _ (y xs q) w
 ·have e:i=xs.length:=Nat.le_antisymm (hb i ys H w).1 (DI.mp h)
  subst e
  exact .inl ⟨⟨xs,q,AS _⟩,hd ys H w⟩
theorem CompJ.lst {a:Addr} {xs:List V} (W:Nat->List V->Hp->Prop) (h0:W 0 [] H) (hb:∀ i ys H,W i ys H->i<=xs.length/\ys.length<=sizeLine/\SqL K H a xs)
  (hs:∀ i x ys H,xs[i]?=some x->W i ys H->g x (Ck capt σ) H λσ2 H2=>te σ2 H2 λy H3=>W (i+1) (ys++[y]) H3) (hd:∀ ys H,W xs.length ys H->∀ p,H p=none->Q (.ref p) (upd H p (.lst ys))):CompJ (Itl K a) capt g te σ Q H:=by
 refine ⟨xs.length,W,h0,λi ys H w=>⟨(hb i ys H w).1,(hb i ys H w).2.1,?_⟩⟩
 have q:SqL K H a xs:=(hb i ys H w).2.2
 by_cases h:i<xs.length
 ·refine .inr ⟨h,⟨xs,xs[i],q,by simp [h]⟩,λx H' y=>?_⟩
  obtain ⟨e,y⟩:=y
  subst e
  exact hs i x ys _ (y xs q) w
 ·have e:i=xs.length:=Nat.le_antisymm (hb i ys H w).1 (DI.mp h)
  subst e
  exact .inl ⟨⟨xs,q,AS _⟩,hd ys H w⟩
end
noncomputable def FT (K:W.Frag) (a:Addr):It:=
 ⟨λi H=>∃ xs x,SqL K H a xs/\xs[i]?=some x,λi H v H'=>∃ p x,H p=none/\v=.ref p/\H'=upd H p (.tup [.int i,x])/\∀ xs,SqL K H a xs->xs[i]?=some x,λi H=>∃ xs,SqL K H a xs/\xs.length<=i⟩
noncomputable def E5 (K:W.Frag) (ta:TA):TI:=λσ H R=>ta σ H λvs H1=>∃ a,vs=[.ref a]/\(∃ xs,SqL K H1 a xs)/\R (FT K a) H1
noncomputable def ForJ (J:It) (g:TG) (tb:TS) (D:Ends) (σ:L2.St) (H:Hp):Prop:=∃ W:Nat->Nat->L2.St->Hp->Prop,(∃ m,W 0 m σ H)/\∀ i m σ H,W i m σ H->
 (J.stop i H/\D.nx σ H)\/(J.go i H/\∃ N:L2.St->Hp->Prop,(∀ σ' H',N σ' H'->∃ m',m'<m/\W (i+1) m' σ' H')/\∀ x H',J.yld i H x H'->g x σ H' λσ2 H2=>tb { D with nx:=N,ct:=N,bk:=D.nx } σ2 H2)
section
variable {K:W.Frag} {ta:TA} {g:TG} {tb:TS} {D:Ends} {σ:L2.St} {H:Hp} {a:Addr} {xs:List V}
theorem Ub:BM (E5 K ta) g tb D σ H=ta σ H (λvs H1=>∃ a,vs=[.ref a]/\(∃ xs,SqL K H1 a xs)/\ForJ (FT K a) g tb D σ H1):=rfl
theorem Uc {capt:List (Option Nat)} {te:TE} {Q:VK}:CF (E5 K ta) capt g te σ H Q=ta σ H (λvs H1=>∃ a,vs=[.ref a]/\(∃ xs,SqL K H1 a xs)/\CompJ (FT K a) capt g te σ Q H1):=rfl
theorem ForJ.enumL (Pv:Nat->L2.St->Hp->Prop) (h0:Pv 0 σ H) (hl:∀ i σ H,i<=xs.length->Pv i σ H->SqL K H a xs)
  (hs:∀ i x p σ H,xs[i]?=some x->Pv i σ H->H p=none->g (.ref p) σ (upd H p (.tup [.int i,x])) λσ2 H2=>tb { D with nx:=Pv (i+1),ct:=Pv (i+1),bk:=D.nx } σ2 H2) (hd:∀ σ H,Pv xs.length σ H->D.nx σ H):ForJ (FT K a) g tb D σ H:=by
 refine ⟨λi m σ H=>m=xs.length - i/\i<=xs.length/\Pv i σ H,⟨xs.length,by simp,AV _,h0⟩,?_⟩
 rintro i m σ H ⟨rfl,hi,pv⟩
 have q:=hl i σ H hi pv
 by_cases lt:i<xs.length
 ·refine .inr ⟨⟨xs,xs[i],q,by simp [lt]⟩,Pv (i+1),λσ' H' p'=>⟨xs.length - (i+1),⋯,rfl,lt,p'⟩,λx H' y=>?_⟩
  obtain ⟨p,x',hp,rfl,rfl,y⟩:=y
  exact hs i x' p σ _ (y xs q) pv hp
 ·have e:i=xs.length:=by omega
  subst e
  exact .inl ⟨⟨xs,q,AS _⟩,hd σ H pv⟩
end
end Bs
namespace Bs
open PySem PySem.Spec PyProof.Rows L2
noncomputable def blk (X:Cx) (N:List Str) (scope:Scope) (cl:List (Str×Addr)) (C:Addr) (s:Shared) (H:Hp) (fp:List Addr):Cx:=
 { X with N:=N,s₀:=s,H₀:=H,env:=compEnvC scope cl C X.env,outer:=X.stack,stack:=X.stack,ex:=fp,fn:=λ_=>false,pn:=[],xe:=λ_ _=>False }
structure BlkOk (X:Cx) (N:List Str) (capt:List (Option Nat)) (scope:Scope) (cl:List (Str×Addr)):Prop where
 kind:scope.kind=.function
 clos:closureFor scope X.env=pure cl
 nocell:∀ y∈scope.names,y.2≠.cell
 names:∀ y∈scope.names,y.2=.local->scope.names.lookup y.1=some .local
 cells:∀ y c,cl.lookup y=some c->X.env.cells.lookup y=some c
 has:∀ y,((relabel scope X.env).names.lookup y=some .cell\/(relabel scope X.env).names.lookup y=some .free)->∃ c,cl.lookup y=some c
 cap:∀ (i:Nat) (x:Str) (j:Nat),N[i]?=some x->capt[i]?=some (some j)->X.N[j]?=some x/\Vis X.env.scope x/\X.env.kindOf x≠some .local/\((relabel scope X.env).names.lookup x=some .cell\/(relabel scope X.env).names.lookup x=some .free)
 len:capt.length=N.length
section
variable {X:Cx} {pins:List (Addr×Obj)} {σ:L2.St} {H:Hp} {s:Shared} {N:List Str} {capt:List (Option Nat)} {scope:Scope} {cl:List (Str×Addr)} {C:Addr} {fp:List Addr}
theorem MX (B:BlkOk X N capt scope cl) (I:Inv X pins σ H s) (fo:∀ b∈fp,DM X pins H b) (fl:∀ b∈fp,b<s.heap.objs.size) (hC:s.heap.objs.size<=C):(blk X N scope cl C s H fp).Ok where
 mod:=I.ok.mod
 kind:=B.kind
 glob:=I.ok.glob
 blt:=I.ok.blt
 above:=hC
 inj:=λx y c h1 h2=>I.ok.inj x y c (B.cells x c h1) (B.cells y c h2)
 has:=λx h=>B.has x h
 cab:=λ_ _ h=>nomatch h
 hd:=I.ok.hd
 frames:=I.ok.frames
 stk:=.inl rfl
 exf:=λb hb=>⟨λe=>absurd (CO (fl b hb) hC) (by rw [show b=C from e];exact DF _),λx c e=>(fo b hb).2.2.2.2.1 x c (B.cells x c e)⟩
 bs:=I.bs
 bsz:=Be I.ok.bsz I.sz
 noex:=λb o e hb=>by
  rcases (fo b hb).2.2.2.1 with z | z
  ·exact I.ok.noex b o e z
  ·exact absurd (CO (Z2 e) (Be I.ok.bsz z)) (DF _)
 exfs:=λb hb hf=>by
  rcases Bb.mp (I.stkSub b hf) with z | z
  ·exact (fo b hb).2.1 z
  ·exact (fo b hb).2.2.1 z
 funs:=I.stack
 frf:=I.stkFree
 seer:=I.ok.seer
 tree:=I.ok.tree
 plr:=I.ok.plr
theorem Ud (B:BlkOk X N capt scope cl) (I:Inv X pins σ H s) (fo:∀ b∈fp,DM X pins H b) (fl:∀ b∈fp,b<s.heap.objs.size) (hC:s.heap.objs.size<=C) {h1:Heap} {m:Str->Option Value} {tk:Nat}
  (hn:h1.Ns C m) (hk:∀ b o,s.heap.get? b=some o->h1.get? b=some o):Inv (blk X N scope cl C s H fp) [] (Ck capt σ) H { s with heap:=h1,toks:=tk } where
 ok:=MX B I fo fl hC
 os:=rfl
 bare:=I.bare
 base:=Un.kept hk
 loc:=by
  refine ⟨m,hn,λi x v e1 e2 e3=>?_⟩
  have e2':(capt.map λo=>o.bind λj=>(σ[j]?).join)[i]?=some (some v):=e2
  rw [Af] at e2'
  cases ec:capt[i]? with
  | none=>rw [ec] at e2';cases e2'
  | some o=>
    rw [ec] at e2'
    cases o with
    | none=>cases e2'
    | some j=>
      have e4:(σ[j]?).join=some v:=Z1 e2'
      obtain ⟨c1,c2,c3,c4⟩:=B.cap i x j e1 ec
      have e5:σ[j]?=some (some v):=by
       cases q:σ[j]? with
       | none=>rw [q] at e4;cases e4
       | some w=>rw [q] at e4;exact congrArg some e4
      obtain ⟨m',_,hl⟩:=I.loc
      obtain ⟨u,r,l⟩:=hl j x v c1 e5 c2
      refine ⟨u,r,.inr ⟨c4,?_⟩⟩
      rcases l with ⟨l,_⟩ | ⟨_,c,lc,ic⟩
      ·exact absurd l c3
      ·obtain ⟨c',hc'⟩:=B.has x c4
       have:=B.cells x c' hc'
       rw [lc] at this
       cases this
       obtain ⟨o,ho,hd⟩:=ic
       exact ⟨c,hc',o,hk c o ho,hd⟩
 cell:=λx c e=>by
  obtain ⟨v,o,ho,hd⟩:=I.cell x c (B.cells x c e)
  exact ⟨v,o,hk c o ho,hd⟩
 free:=I.hok.fresh hC
 freeC:=λx c e=>I.freeC x c (B.cells x c e)
 pin:=λp hp=>nomatch hp
 hok:=I.hok.kept hk
 len:=by show (capt.map _).length=N.length;rw [AL];exact B.len
theorem MY {σ6:L2.St} {H7:Hp} {s7:Shared} {pins':List (Addr×Obj)} (B:BlkOk X N capt scope cl) (I:Inv X pins σ H s) (fo:∀ b∈fp,DM X pins H b) (I7:Inv (blk X N scope cl C s H fp) pins' σ6 H7 s7):Inv (blk X N scope cl C s H fp) pins' (Ck capt σ) H7 s7:=
 ⟨I7.ok,I7.os,I7.bare,I7.base,by
  obtain ⟨m,hn,_⟩:=I7.loc
  refine ⟨m,hn,λi x v e1 e2 e3=>?_⟩
  have e2':(capt.map λo=>o.bind λj=>(σ[j]?).join)[i]?=some (some v):=e2
  rw [Af] at e2'
  cases ec:capt[i]? with
  | none=>rw [ec] at e2';cases e2'
  | some o=>
    rw [ec] at e2'
    cases o with
    | none=>cases e2'
    | some j=>
      have e4:(σ[j]?).join=some v:=Z1 e2'
      obtain ⟨c1,c2,c3,c4⟩:=B.cap i x j e1 ec
      have e5:σ[j]?=some (some v):=by
       cases q:σ[j]? with
       | none=>rw [q] at e4;cases e4
       | some w=>rw [q] at e4;exact congrArg some e4
      obtain ⟨m',_,hl⟩:=I.loc
      obtain ⟨u,r,l⟩:=hl j x v c1 e5 c2
      refine ⟨u,r,.inr ⟨c4,?_⟩⟩
      rcases l with ⟨l,_⟩ | ⟨_,c,lc,ic⟩
      ·exact absurd l c3
      ·obtain ⟨c',hc'⟩:=B.has x c4
       have:=B.cells x c' hc'
       rw [lc] at this
       cases this
       obtain ⟨o,ho,hd⟩:=ic
       obtain ⟨sl,hk⟩:=I7.base.any ho (I.freeC x c lc) λhb=>(fo c hb).2.2.2.2.1 x c lc rfl
       exact ⟨c,hc',_,hk,hd⟩,I7.cell,I7.free,I7.freeC,I7.pin,I7.hok,by show (capt.map _).length=N.length;rw [AL];exact B.len⟩
theorem Hr {κ β:Type} [BEq κ] [LawfulBEq κ]:∀ {l:List (κ×β)} {y:κ} {c:β},l.lookup y=some c->(y,c)∈l
 | (k,v)::l,y,c,h=>by
   rw [List.lookup_cons] at h
   cases e:y == k with
   | true=>
     rw [e] at h
     cases h
     rw [eq_of_beq e]
     exact BC ..
   | false=>
     rw [e] at h
     exact BN _ (Hr h)
theorem BlkOk.of (k:scope.kind=.function) (c:closureFor scope X.env=pure cl) (n1:(scope.names.all λy=>y.2 != .cell)=true) (n2:(scope.names.all λy=>y.2 != .local || scope.names.lookup y.1 == some .local)=true)
  (cs:∀ pr∈cl,X.env.cells.lookup pr.1=some pr.2) (hs:((relabel scope X.env).names.all λpr=>(pr.2 != .cell && pr.2 != .free) || (cl.lookup pr.1).isSome)=true)
  (cp:((List.range N.length).all λi=>match N[i]?,capt[i]? with
   | some x,some (some j)=>X.N[j]? == some x && (X.env.scope.names.lookup x == some .cell || X.env.scope.names.lookup x == some .free) && ((relabel scope X.env).names.lookup x == some .cell || (relabel scope X.env).names.lookup x == some .free)
   | _,_=>true)=true) (ln:capt.length=N.length):BlkOk X N capt scope cl where
 kind:=k
 clos:=c
 nocell:=λy hy e=>by
  have z:=List.all_eq_true.mp n1 y hy
  rw [e] at z
  exact absurd z ∅
 names:=λy hy e=>by
  have z:=List.all_eq_true.mp n2 y hy
  rw [e] at z
  simpa using z
 cells:=λy c h=>cs (y,c) (Hr h)
 has:=λy h=>by
  have m:∃ kd,(y,kd)∈(relabel scope X.env).names/\(kd=.cell\/kd=.free):=by
   rcases h with h | h
   ·exact ⟨_,Hr h,.inl rfl⟩
   ·exact ⟨_,Hr h,.inr rfl⟩
  obtain ⟨kd,m,e⟩:=m
  have z:=List.all_eq_true.mp hs _ m
  have z2:(cl.lookup y).isSome=true:=by
   rcases e with rfl | rfl
   ·simpa using z
   ·simpa using z
  exact Option.isSome_iff_exists.mp z2
 cap:=λi x j e1 e2=>by
  have li:i<N.length:=(Bp.mp e1).1
  have z:=List.all_eq_true.mp cp i (ER.mpr li)
  rw [e1,e2] at z
  simp only [DZ,Bool.or_eq_true,beq_iff_eq] at z
  obtain ⟨⟨z1,z2⟩,z3⟩:=z
  refine ⟨z1,.inr z2,λq=>?_,z3⟩
  have q':X.env.scope.names.lookup x=some .local:=q
  rcases z2 with z2 | z2 <;> (rw [z2] at q';cases q')
 len:=ln
end
open PySem.AutoSeq1 (wpAny_loadPart')
section
variable {prog:Program} {w:World} {A:Around} {E:Value->Shared->Prop} {s:Shared} {e it t:Addr} {i:Nat} {zs:Array Value}
end
section
variable {X:Cx} {pins:List (Addr×Obj)} {σ:L2.St} {H:Hp} {s:Shared}
theorem Ue {e it:Addr} {g:Heap} {tk:Nat} {xs:List V} {its:List Value} (I:Inv X pins σ H s) (fe:DM X pins H e) (fi:DM X pins H it) (k:∀ b o,b≠e->b≠it->s.heap.get? b=some o->g.get? b=some o)
  (hz:xs.length<=sizeLine) (rv:Vals xs its) (ht:g.get? s.heap.objs.size=some { cls:=.type "tuple", data:=.seq its.toArray }):Inv X pins σ (upd H s.heap.objs.size (.tup xs)) { s with heap:=g,toks:=tk }:=by
 have nT:H s.heap.objs.size=none:=I.hok.fresh (AS _)
 have old:∀ b o,s.heap.get? b=some o->b≠s.heap.objs.size:=λb o q=>Bo (Z2 q)
 have tr:∀ b u,H b=some u->b≠s.heap.objs.size/\b≠e/\b≠it:=λb u q=>⟨BO q nT,BO q fe.1,BO q fi.1⟩
 have off:∀ b,b∉[e,it]->b≠e/\b≠it:=λb hb=>⟨λz=>hb (by simp [z]),λz=>hb (by simp [z])⟩
 refine I.step (g':=s.gens) (d':=s.drawn) (ch:=[e,it]) (λb hb=>?_) (λb o _ _ hc q _=>k b o (off b hc).1 (off b hc).2 q) (λb o _ _ hc q _=>⟨o.slots,k b o (off b hc).1 (off b hc).2 q⟩) (λb o _ q n=>?_) (λb o hc q=>⟨o,k b o (off b hc).1 (off b hc).2 q⟩)
  (λb ys q=>?_) (λb o u q=>?_) (λb ps q=>⟨#[],?_⟩) (λm hm=>?_) (λb u q=>?_) I.bare
 ·have z:b=e\/b=it:=by simpa using hb
  rcases z with rfl | rfl
  ·exact ⟨fe.2.2.2.1,fe.2.1,fe.2.2.2.2.1,fe.2.2.2.2.2⟩
  ·exact ⟨fi.2.2.2.1,fi.2.1,fi.2.2.2.2.1,fi.2.2.2.2.2⟩
 ·rw [Ag (old b o q)];exact n
 ·rw [Ag (tr b _ q).1];exact q
 ·rw [Ag (tr b _ q).1];exact q
 ·rw [Ag (tr b _ q).1,q];simp
 ·obtain ⟨o,es,ep,ho,hr⟩:=hm
  exact ⟨o,es,ep,k _ o fe.2.1.symm fi.2.1.symm ho,hr⟩
 ·by_cases hb:b=s.heap.objs.size
  ·subst hb
   rw [upd_same] at q
   cases q
   exact ⟨hz,its,rv,⟨_,ht,rfl,_,rfl⟩⟩
  ·rw [Ag hb] at q
   refine (I.hok b u q).stay (λc v hc z=>?_) (λc z=>by rw [Ag (tr c _ z).1];exact z) λc ys z=>by rw [Ag (tr c _ z).1];exact z
   rcases hc with y | y
   ·subst y;exact k _ v (tr _ u q).2.1 (tr _ u q).2.2 z
   ·exact k c v (tr c _ y).2.1 (tr c _ y).2.2 z
end
theorem Uf {P:Program} {w:World} {K:W.Frag} {elts:List Expr} {k:Nat} {pos:Pos} (a e it:Addr) (ne:e≠it):Turn P w K (.Tuple elts k pos) (FT K a) [e,it] e (λi h=>(∃ old,IsEnum h e it i old)/\h.IsListIter it a i) where
 mem:=by simp
 obj:=λi h st b hb=>by
  obtain ⟨⟨old,se⟩,o,ho,c,d⟩:=st
  have z:b=e\/b=it:=by simpa using hb
  rcases z with rfl | rfl
  ·exact ⟨_,se,λv z=>nomatch z⟩
  ·exact ⟨o,ho,λv z=>by rw [d] at z;cases z⟩
 keep:=λi h h' st kk=>⟨let ⟨old,se⟩:=st.1;⟨old,kk e (by simp) _ se⟩,st.2.at λo q=>kk it (by simp) o q⟩
 item:=by
  intro X hP hw hK hc i pins s σ H E I hf st hg
  subst hP hw hK
  obtain ⟨xs,x,hq,hx⟩:=hg
  obtain ⟨⟨old,se⟩,si⟩:=st
  obtain ⟨its,rv,p,hz⟩:=I.list hq
  obtain ⟨u,hu,ru⟩:=rv.get hx
  refine wpAny_pyNext_enum_item se si p.isList (x:=u) (by simpa using hu) ne λg eo gi gt _ gk=>?_
  refine ⟨_,rfl,wpAny_letOwnedTupleGo_enum eo λg' se' sb=>?_⟩
  have I1:=Ue (g:=g') (tk:=s.toks+1) (xs:=[.int i,x]) (its:=[.int i s.toks,u]) I (hf e (by simp)) (hf it (by simp)) (λb o h1 h2 q=>sb.extBut b o h1 (gk b o h1 h2 q)) (sz (by simp)) (.cons ⟨_,rfl⟩ (.cons ru .nil)) (sb.extBut _ _ (Nat.ne_of_gt (Z2 se)) gt)
  refine ⟨.ref s.heap.objs.size,_,I1,rfl,⟨_,x,I.hok.fresh (AS _),rfl,rfl,λys hy=>by rw [I.list_inj hy hq];exact hx⟩,⟨⟨_,by simpa using se'⟩,gi.at λo q=>sb.extBut it o ne.symm q⟩,λb hb=>?_⟩
  rw [Ag]
  ·exact (hf b hb).1
  ·have z:b=e\/b=it:=by simpa using hb
   rcases z with rfl | rfl
   ·exact Bo (Z2 se)
   ·obtain ⟨o,ho,_⟩:=si;exact Bo (Z2 ho)
 done:=by
  intro X hP hw hK hc i pins s σ H E I hf st hg
  subst hP hw hK
  obtain ⟨xs,hq,hx⟩:=hg
  obtain ⟨⟨old,se⟩,si⟩:=st
  obtain ⟨its,rv,p,hz⟩:=I.list hq
  obtain ⟨f0,f1,f2,f3,f4,f5⟩:=hf it (by simp)
  have hl:=rv.length
  exact wpAny_pyNext_enum_end (I.ok.hd hc) se si p.isList (by simp;omega) λg eb=>⟨rfl,I.turned (t':=s.toks) (λb o hb q=>eb b o hb q) f0 f1 f3 f4 f5⟩
 self:=λ_ _ _ _ _ st h=>let ⟨_,se⟩:=st.1;wpAny_pyIter_enum se h
section
variable {X:Cx} {elts:List Expr} {k:Nat} {tpos:Pos} {a:Expr} {ta:TA} {p pos:Pos}
theorem Hs (hg:Gl X "enumerate") (hm:X.mg "enumerate" = none) (ha:PA X [a] ta) (hs:starEach [a] X.env=[(false,eval a X.env)]:=by rfl):PI X (.Tuple elts k tpos) (.Call (.Name "enumerate" p) [a] [] pos) (E5 X.K ta):=by
 intro pins s σ H R I h
 refine Call_ (EE I hg hm UT (PyProof.Rows.callWith_type1 (thn (ha pos pins s σ H _ I h) λus s1 ⟨vs,H1,I1,r1,q1⟩=>?_) hs rfl))
 obtain ⟨b,rfl,⟨xs,hq⟩,q⟩:=q1
 obtain ⟨u,rfl,ru⟩:=Dj r1
 cases ru
 obtain ⟨its,rv,pl,hz⟩:=I1.list hq
 refine call_enumerate_list pl.isList λg se si _ gk=>?_
 have I2:Inv X pins σ H1 { s1 with heap:=g }:=I1.kept (t':=s1.toks) gk
 refine wpAny_pyIter_enum se ⟨_,[s1.heap.objs.size+1,s1.heap.objs.size],_,_,H1,rfl,I2,Uf b _ _ (Nat.succ_ne_self _),⟨⟨_,se⟩,si⟩,λc hc=>?_,q⟩
 have z:c=s1.heap.objs.size+1\/c=s1.heap.objs.size:=by simpa using hc
 rcases z with rfl | rfl
 ·exact I1.fpOk (Nat.le_succ _) (I1.hok.fresh (Nat.le_succ _))
 ·exact I1.fpOk (AS _) (I1.hok.fresh (AS _))
end
end Bs
namespace Bs
open PySem L2
mutual
inductive RepD (H:Hp):V->PySem.W.Dat->Prop
 | non:RepD H .non .none
 | int (i:Int):RepD H (.int i) (.int i)
 | tup {p:Addr} {xs:List V} {ds:List PySem.W.Dat} (h:H p=some (.tup xs)) (r:RepA H xs ds):RepD H (.ref p) (.tuple ds)
 | lst {p:Addr} {xs:List V} {ds:List PySem.W.Dat} (h:H p=some (.lst xs)) (r:RepA H xs ds):RepD H (.ref p) (.list ds)
inductive RepA (H:Hp):List V->List PySem.W.Dat->Prop
 | nil:RepA H [] []
 | cons {x:V} {xs:List V} {d:PySem.W.Dat} {ds:List PySem.W.Dat} (h:RepD H x d) (r:RepA H xs ds):RepA H (x::xs) (d::ds)
end
noncomputable def eqD:R2:=λx y H Q=>∃ (d e:PySem.W.Dat) (b:Bool),RepD H x d/\RepD H y e/\PySem.W.kqdOk 8 d=true/\PySem.W.kqdOk 8 e=true/\(b=true↔d=e)/\Q (.bl b) H
noncomputable def neD:R2:=λx y H Q=>∃ (d e:PySem.W.Dat) (b:Bool),RepD H x d/\RepD H y e/\PySem.W.kqdOk 8 d=true/\PySem.W.kqdOk 8 e=true/\(b=true↔d=e)/\Q (.bl (!b)) H
noncomputable def E6 (te:TE):TT:=λσ H Q=>te σ H λx H'=>∃ p xs,x=.ref p/\H' p=some (.lst xs)/\Q (!xs.isEmpty) H'
noncomputable def Ug (te:TE):TT:=λσ H Q=>te σ H λx H'=>∃ p xs,x=.ref p/\H' p=some (.tup xs)/\Q (!xs.isEmpty) H'
noncomputable def sL:V->Option Int->Option Int->Hp->VK->Prop:=λx lo hi H Q=>∃ a xs,x=.ref a/\H a=some (.lst xs)/\∀ p,H p=none->Q (.ref p) (upd H p (.lst (Cg xs lo hi)))
noncomputable def Jc:List V->Hp->VK->Prop:=λxs H Q=>∃ p ys,xs=[.ref p]/\H p=some (.lst ys)/\∀ l,H l=none->Q (.ref l) (upd H l (.tup ys))
noncomputable def Uh:List V->Hp->VK->Prop:=λxs H Q=>∃ p ys,xs=[.ref p]/\H p=some (.tup ys)/\∀ l,H l=none->Q (.ref l) (upd H l (.lst ys))
noncomputable def FU:List V->Hp->VK->Prop:=λxs H Q=>∃ p ys,xs=[.ref p]/\H p=some (.lst ys)/\∀ l,H l=none->Q (.ref l) (upd H l (.lst ys))
end Bs
namespace Bs
open PySem PySem.Spec PyProof.Rows L2
section
variable {X:Cx} {pins:List (Addr×Obj)} {σ:L2.St} {H:Hp} {s:Shared}
mutual
theorem Gr (I:Inv X pins σ H s):∀ {x:V} {d:PySem.W.Dat} {u:Value},RepD H x d->RelV x u->∃ as,Reads s.heap u (PySem.W.kqdP d) as
 | _,_,_,.non,e=>by cases e;rw [PySem.W.kqdP];exact ⟨_,Reads.none⟩
 | _,_,_,.int i,⟨t,e⟩=>by subst e;rw [PySem.W.kqdP];exact ⟨_,Reads.int i t⟩
 | _,_,_,.tup h r,e=>by
   cases e
   obtain ⟨its,rv,p,_⟩:=I.tuple (SqT.of h)
   obtain ⟨as,q⟩:=Jd I r rv
   obtain ⟨o,ho,hc,n,hd⟩:=p
   rw [PySem.W.kqdP]
   exact ⟨as,reads_tuple_at ho hc hd (by simpa using q)⟩
 | _,_,_,.lst h r,e=>by
   cases e
   obtain ⟨its,rv,p,_⟩:=I.list (SqL.of h)
   obtain ⟨as,q⟩:=Jd I r rv
   obtain ⟨o,n,ho,hc,_,hd⟩:=p
   rw [PySem.W.kqdP]
   exact ⟨_,reads_list_at ho hc hd (by simpa using q)⟩
theorem Jd (I:Inv X pins σ H s):∀ {xs:List V} {ds:List PySem.W.Dat} {us:List Value},RepA H xs ds->Vals xs us->∃ as,ReadsAll s.heap us (PySem.W.kqdPs ds) as
 | _,_,_,.nil,.nil=>by rw [PySem.W.kqdPs];exact ⟨_,ReadsAll.nil⟩
 | _,_,_,.cons h r,.cons e es=>by
   obtain ⟨as,q⟩:=Gr I h e
   obtain ⟨bs,q2⟩:=Jd I r es
   rw [PySem.W.kqdPs]
   exact ⟨_,ReadsAll.cons q q2⟩
end
theorem Ht {d:PySem.W.Dat} (h:PySem.W.kqdOk 8 d=true):SeqAt.shaped (PySem.W.kqdP d)=true:=by
 have z:=PySem.W.kqd_lay 8 d h
 unfold SeqAt.shaped
 rw [z.1,Bool.true_and]
 exact Zv (Be z.2 ∅)
theorem MZ {d e:PySem.W.Dat} {b:Bool} (h1:PySem.W.kqdOk 8 d=true) (h2:PySem.W.kqdOk 8 e=true) (hb:b=true↔d=e):PyData.eqv (PySem.W.kqdP d) (PySem.W.kqdP e)=b:=by
 rw [Bool.eq_iff_iff,hb]
 exact PySem.W.kqd_eqv 8 d e 8 h1 h2
theorem Je (hu:X.A.units+64<cLine):OpR X (compareOp .Eq) eqD:=by
 intro pins s σ H x y v u Q I rx ry h
 obtain ⟨d,e,b,r1,r2,k1,k2,hb,q⟩:=h
 obtain ⟨as,q1⟩:=Gr I r1 rx
 obtain ⟨bs,q2⟩:=Gr I r2 ry
 exact eq_dataH q1 q2 (Ht k1) (Ht k2) hu (by rw [MZ k1 k2 hb];exact ⟨.bl b,H,I,rfl,q⟩)
theorem Ui (hu:X.A.units+64<cLine):OpR X (compareOp .NotEq) neD:=by
 intro pins s σ H x y v u Q I rx ry h
 obtain ⟨d,e,b,r1,r2,k1,k2,hb,q⟩:=h
 obtain ⟨as,q1⟩:=Gr I r1 rx
 obtain ⟨bs,q2⟩:=Gr I r2 ry
 exact ne_dataH q1 q2 (Ht k1) (Ht k2) hu (by rw [MZ k1 k2 hb];exact ⟨.bl (!b),H,I,rfl,q⟩)
theorem F8 {a:Expr} {ta:TE} (ha:PE X a ta) (he:∀ whole,isTrue a X.env whole=(do let v <-whole;standAt a.pos;holding [v] (truthy v))):PT X a (E6 ta):=λpins s σ H Q I h=>
 isTrue_plain (thn (ha pins s σ H _ I h) λv s1 ⟨x,H1,I1,r1,q1⟩=>by
  obtain ⟨p,xs,e,hp,q⟩:=q1
  subst e
  exact SO pins s1 σ H1 _ v Q I1 r1 ⟨_,.inl ⟨xs,SqL.of hp,rfl⟩,q⟩) (he _)
theorem Gs:SlR X sL:=by
 intro pins s σ H x v vl vu lo hi sl Q I rx hs pl pu h
 obtain ⟨a,xs,e,ha,q⟩:=h
 exact MG pins s σ H x v vl vu lo hi sl Q I rx hs pl pu ⟨a,xs,e,SqL.of ha,q⟩
theorem Uj:CY X (.type "tuple") Jc:=λpins s σ H xs us Q I r h=>by
 obtain ⟨p,ys,e,hp,q⟩:=h
 exact Sn pins s σ H xs us Q I r ⟨p,ys,e,.inl ⟨SqL.of hp,q⟩⟩
theorem Gu:CY X (.type "list") FU:=λpins s σ H xs us Q I r h=>by
 obtain ⟨p,ys,e,hp,q⟩:=h
 exact Sm pins s σ H xs us Q I r ⟨p,ys,e,.inl (SqL.of hp),q⟩
theorem F9:PGet X gL:=by
 intro pins s σ H o i ov iv Q I ro ri h
 obtain ⟨p,k,xs,v,rfl,rfl,hp,ha,q⟩:=h
 cases ro
 obtain ⟨t,rfl⟩:=ri
 obtain ⟨its,r,pl,hz⟩:=I.list (SqL.of hp)
 obtain ⟨j,h1,h2,h3,h4,h5⟩:=JS ha
 obtain ⟨w,ew,rw'⟩:=r.get h2
 have hl:=r.length
 have hn:=F1
 have fin:EP X pins σ Q w s:=⟨v,H,I,rw',q⟩
 by_cases h0:0<=k
 ·have hj:k.toNat=j:=by
   rw [seqIndex_of h0 h5] at h1
   exact Z1 h1
  exact wpAny_getItem_list pl.isList h0 ⋯ (by rw [hj];simpa using ew) fin
 ·have hj:(k+(its.toArray.size:Int)).toNat=j:=by
   rw [seqIndex_neg ⋯ h4] at h1
   rw [BF,<-hl]
   exact Z1 h1
  exact wpAny_getItem_list_neg pl.isList ⋯ (by rw [BF] <;> omega) ⋯ (by rw [hj];simpa using ew) fin
theorem FV {K:W.Frag} {p:Addr} {xs:List V} (h:H p=some (.lst xs)):tyV K "list" (.ref p) H:=.inl ⟨rfl,xs,SqL.of h⟩
end
end Bs
namespace Bs
open PySem L2
noncomputable def D3 (n:Nat) (t:TGs):TG:=λv σ H Q=>∃ a xs,v=.ref a/\H a=some (.tup xs)/\xs.length=n/\t xs σ H Q
end Bs
namespace Bs
open PySem PySem.Spec PyProof.Rows L2
theorem E7 {X:Cx} {es:List Expr} {k:Nat} {pos:Pos} {t:TGs} {n:Nat} (hc:X.calm=true) (h:PGs X es t)
  (hn:(assignEach es X.env).length=n:=by rfl) (hst:(assignEach es X.env).findIdx? (·.1)=none:=by rfl):PG X (.Tuple es k pos) (D3 n t):=λpins s σ H v u Q I r q=>by
 obtain ⟨a,xs,e,ha,hl,q⟩:=q
 exact R6 hc h hn hst pins s σ H v u Q I r ⟨a,xs,e,SqT.of ha,hl,q⟩
theorem Uk {X:Cx}:OpR X (inplaceOp .FloorDiv) FQ:=opI λi j _ _ _ _ _ hc q=>by
 refine ifloordiv_int (Ah hc.1) ?_ (.inl (PyProof.noPylong_of_log2 (hc.2.log2 ∅)))
 rw [Er i (Int.le_of_lt hc.1)]
 exact q
end Bs
namespace Bs
open PySem L2
noncomputable def sT:V->Option Int->Option Int->Hp->VK->Prop:=λx lo hi H Q=>∃ a xs,x=.ref a/\H a=some (.tup xs)/\∀ p H',(H'=H/\p=a/\Cg xs lo hi=xs)\/(H p=none/\H'=upd H p (.tup (Cg xs lo hi)))->Q (.ref p) H'
end Bs
namespace HT
open PySem PySem.Spec PyProof.Rows
end HT
namespace Bs
open PySem PySem.Spec PyProof.Rows L2
end Bs
namespace Bs
open PySem L2
noncomputable def Itd (lo:Int) (n:Nat):It:=⟨λi _=>i<n,λi H x H'=>H'=H/\x=.int (lo - i),λi _=>n<=i⟩
noncomputable def Itv (K:W.Frag) (a:Addr) (n:Nat):It:=⟨λi H=>i<n/\∃ xs,SqL K H a xs/\xs.length=n,λi H x H'=>H'=H/\∀ xs,SqL K H a xs->xs[n - 1 - i]?=some x,λi _=>n=i⟩
noncomputable def FW (ta:TA):TI:=λσ H R=>ta σ H λvs H1=>∃ i j:Int,vs=[.int i,.int j,.int (-1)]/\(-(2 ^ 62)<=i/\i<2 ^ 62/\-(2 ^ 62)<=j/\j<2 ^ 62)/\R (Itd i (i - j).toNat) H1
noncomputable def Jf (K:W.Frag) (ta:TA):TI:=λσ H R=>ta σ H λvs H1=>∃ a xs,vs=[.ref a]/\SqL K H1 a xs/\R (Itv K a xs.length) H1
section
variable {K:W.Frag} {ta:TA} {g:TG} {tb:TS} {D:Ends} {σ:L2.St} {H:Hp} {a:Addr} {xs:List V}
theorem Ul:BM (FW ta) g tb D σ H=ta σ H (λvs H1=>∃ i j:Int,vs=[.int i,.int j,.int (-1)]/\(-(2 ^ 62)<=i/\i<2 ^ 62/\-(2 ^ 62)<=j/\j<2 ^ 62)/\ForJ (Itd i (i - j).toNat) g tb D σ H1):=rfl
theorem Um:BM (Jf K ta) g tb D σ H=ta σ H (λvs H1=>∃ a xs,vs=[.ref a]/\SqL K H1 a xs/\ForJ (Itv K a xs.length) g tb D σ H1):=rfl
theorem ForJ.down {lo:Int} {n:Nat} (Pv:Nat->L2.St->Hp->Prop) (h0:Pv 0 σ H)
  (hs:∀ i σ H,i<n->Pv i σ H->g (.int (lo - i)) σ H λσ2 H2=>tb { D with nx:=Pv (i+1),ct:=Pv (i+1),bk:=D.nx } σ2 H2) (hd:∀ σ H,Pv n σ H->D.nx σ H):ForJ (Itd lo n) g tb D σ H:=by
 refine ⟨λi m σ H=>m=n - i/\i<=n/\Pv i σ H,⟨n,by simp,AV _,h0⟩,?_⟩
 rintro i m σ H ⟨rfl,hi,pv⟩
 by_cases lt:i<n
 ·refine .inr ⟨lt,Pv (i+1),λσ' H' p'=>⟨n - (i+1),⋯,rfl,lt,p'⟩,λx H' y=>?_⟩
  obtain ⟨e,y⟩:=y
  subst e y
  exact hs i σ _ lt pv
 ·have e:i=n:=by omega
  subst e
  exact .inl ⟨AS _,hd σ H pv⟩
theorem ForJ.rev (Pv:Nat->L2.St->Hp->Prop) (h0:Pv 0 σ H) (hl:∀ i σ H,i<=xs.length->Pv i σ H->SqL K H a xs)
  (hs:∀ i x σ H,i<xs.length->xs[xs.length - 1 - i]?=some x->Pv i σ H->g x σ H λσ2 H2=>tb { D with nx:=Pv (i+1),ct:=Pv (i+1),bk:=D.nx } σ2 H2) (hd:∀ σ H,Pv xs.length σ H->D.nx σ H):ForJ (Itv K a xs.length) g tb D σ H:=by
 refine ⟨λi m σ H=>m=xs.length - i/\i<=xs.length/\Pv i σ H,⟨xs.length,by simp,AV _,h0⟩,?_⟩
 rintro i m σ H ⟨rfl,hi,pv⟩
 have q:=hl i σ H hi pv
 by_cases lt:i<xs.length
 ·refine .inr ⟨⟨lt,xs,q,rfl⟩,Pv (i+1),λσ' H' p'=>⟨xs.length - (i+1),⋯,rfl,lt,p'⟩,λx H' y=>?_⟩
  obtain ⟨e,y⟩:=y
  subst e
  exact hs i x σ _ lt (y xs q) pv
 ·have e:i=xs.length:=by omega
  subst e
  exact .inl ⟨rfl,hd σ H pv⟩
end
end Bs
namespace Bs
open PySem PySem.Spec PyProof.Rows L2
theorem Uo {P:Program} {w:World} {K:W.Frag} {tg:Expr} (it:Addr) (lo:Int) (n:Nat):Turn P w K tg (Itd lo n) [it] it (λi h=>IsRangeIter h it (lo+(i:Nat)*(-1)) ((n:Int) - (i:Nat)) (-1)) where
 mem:=by simp
 obj:=λi h st b hb=>by
  have e:b=it:=by simpa using hb
  subst e
  exact ⟨_,st,λv z=>by
   have z':Data.fields _=Data.cell v:=z
   cases z'⟩
 keep:=λi h h' st k=>k it (by simp) _ st
 item:=by
  intro X hP hw hK hc i pins s σ H E I hf st hg
  subst hP hw hK
  obtain ⟨f0,f1,f2,f3,f4,f5⟩:=hf it (by simp)
  have W:=Walks.range (prog:=X.prog) (w:=X.w) (I.ok.hd hc) it lo (-1) n
  refine W.item i s _ _ hg st λv h' tk hv st' kk=>?_
  obtain ⟨t,rfl⟩:=hv
  have I1:Inv X pins σ H { s with heap:=h',toks:=tk }:=I.turned (λb o hb e=>kk b o (by simpa using hb) e) f0 f1 f3 f4 f5
  refine ⟨_,rfl,Gf (s:={ s with heap:=h',toks:=tk }) (n := "range_iterator") st' rfl rfl ∅ ⟨.int (lo - i),H,I1,⟨t,?_⟩,⟨rfl,rfl⟩,st',λb hb=>(hf b hb).1⟩⟩
  rw [show lo+(i:Int)*(-1)=lo - i by omega]
 done:=by
  intro X hP hw hK hc i pins s σ H E I hf st hg
  subst hP hw hK
  obtain ⟨f0,f1,f2,f3,f4,f5⟩:=hf it (by simp)
  exact wpAny_pyNext_range_end (I.ok.hd hc) st (by have:n<=i:=hg;omega) λh' eb=>⟨rfl,I.turned (t':=s.toks) (λb o hb e=>eb b o hb e) f0 f1 f3 f4 f5⟩
 self:=λ_ _ _ _ _ st h=>wpAny_pyIter_rangeiter st h
theorem Ma (a b:Int):Builtin.Range.rangeSize a b (-1)=if b<a then a - b else 0:=by
 unfold Builtin.Range.rangeSize
 simp only [show ¬ ((-1:Int) > 0) by decide,if_false,Int.neg_neg,Int.ediv_one]
 split <;> omega
theorem Up {a b:Int} (ha:-(2 ^ 62)<=a) (ha':a<2 ^ 62) (hb:-(2 ^ 62)<=b) (hb':b<2 ^ 62):Builtin.Range.small a b (-1)=true:=by
 unfold Builtin.Range.small
 rw [Ma]
 simp only [Builtin.Range.rangeFitsLong,DZ,Bool.or_eq_true,decide_eq_true_eq,beq_iff_eq,show ¬ ((-1:Int) > 0) by decide,if_false]
 split <;> omega
theorem Hu {X:Cx} {tg:Expr} {a b c:Expr} {ta:TA} {p pos:Pos} (hg:Gl X "range") (hm:X.mg "range" = none) (ha:PA X [a,b,c] ta) (hs:starEach [a,b,c] X.env=[(false,eval a X.env),(false,eval b X.env),(false,eval c X.env)]:=by rfl) (hs2:starEach [b,c] X.env=[(false,eval b X.env),(false,eval c X.env)]:=by rfl) :
  PI X tg (.Call (.Name "range" p) [a,b,c] [] pos) (FW ta):=by
 intro pins s σ H R I h
 refine Call_ (EE I hg hm boot_range (PyProof.Rows.callWith_type1 (thn (ha pos pins s σ H _ I h) λus s1 ⟨vs,H1,I1,r1,q1⟩=>?_) (by rw [hs,hs2]) (by rw [hs2];rfl)))
 obtain ⟨i,j,e,⟨q1,q2,q3,q4⟩,q⟩:=q1
 subst e
 cases r1 with
 | cons r rr=>
   cases rr with
   | cons r' rr=>
     cases rr with
     | cons r'' rr=>
       cases rr
       obtain ⟨t,rfl⟩:=r
       obtain ⟨t',rfl⟩:=r'
       obtain ⟨t'',rfl⟩:=r''
       refine call_range_3 ∅ ?_ (.inl (PyProof.noPylong_small ∅))
       refine wpAny_pyIter_range (IsRange.new ..) (Up q1 q2 q3 q4) ?_
       have I2:Inv X pins σ H1 { s1 with heap:=s1.heap.push { cls:=.type "range", data:=.fields #[.int i t,.int j t',.int (-1) t''] },toks:=s1.toks }:=I1.kept λb o e=>Heap.get?_push_of_some _ e
       refine ⟨(s1.heap.push { cls:=.type "range", data:=.fields #[.int i t,.int j t',.int (-1) t''] }).objs.size,[(s1.heap.push { cls:=.type "range", data:=.fields #[.int i t,.int j t',.int (-1) t''] }).objs.size],_,_,H1,rfl,
        I2.kept (t':=s1.toks) λb o e=>Heap.get?_push_of_some _ e,Uo _ i (i - j).toNat,?_,λb hb=>?_,q⟩
       ·have e1:i+((0:Nat):Int)*(-1)=i:=by simp
        have e2:(((i - j).toNat:Nat):Int) - ((0:Nat):Int)=Builtin.Range.rangeSize i j (-1):=by rw [Ma];split <;> omega
        show IsRangeIter _ _ (i+((0:Nat):Int)*(-1)) ((((i - j).toNat:Nat):Int) - ((0:Nat):Int)) (-1)
        rw [e1,e2]
        exact Heap.get?_push_size _ rfl
       ·have e:b=(s1.heap.push { cls:=.type "range", data:=.fields #[.int i t,.int j t',.int (-1) t''] }).objs.size:=by simpa using hb
        subst e
        exact I2.fpOk (AS _) (I2.hok.fresh (AS _))
theorem Ur {P:Program} {w:World} {K:W.Frag} {tg:Expr} (a it:Addr) (n:Nat):Turn P w K tg (Itv K a n) [it] it (λi h=>h.IsRevIter it a ((n:Int) - 1 - (i:Int))) where
 mem:=by simp
 obj:=λi h st b hb=>by
  have e:b=it:=by simpa using hb
  subst e
  obtain ⟨o,e,c,d⟩:=st
  exact ⟨o,e,λv z=>by rw [d] at z;cases z⟩
 keep:=λi h h' st k=>st.at λo e=>k it (by simp) o e
 item:=by
  intro X hP hw hK hc i pins s σ H E I hf st hg
  subst hP hw hK
  obtain ⟨hi,xs,hq,hn⟩:=hg
  obtain ⟨its,rv,p,hz⟩:=I.list hq
  have hx:xs[n - 1 - i]?=some (xs[n - 1 - i]'⋯):=Am ⋯
  obtain ⟨u,hu,ru⟩:=rv.get hx
  obtain ⟨f0,f1,f2,f3,f4,f5⟩:=hf it (by simp)
  have st2:s.heap.IsRevIter it a ((n - 1 - i:Nat):Int):=by rw [show ((n - 1 - i:Nat):Int)=(n:Int) - 1 - (i:Int) by omega];exact st
  refine wpAny_pyNext_rev_item st2 p.isList (x:=u) (by simpa using hu) λh' st' sb=>?_
  have I1:Inv X pins σ H { s with heap:=h' }:=I.turned (t':=s.toks) (λb o hb e=>(sb.2 b hb).trans e) f0 f1 f3 f4 f5
  obtain ⟨o,e,c,d⟩:=id st'
  have st3:h'.IsRevIter it a ((n:Int) - 1 - ((i+1:Nat):Int)):=by rw [show (n:Int) - 1 - ((i+1:Nat):Int)=((n - 1 - i:Nat):Int) - 1 by omega];exact st'
  exact ⟨u,rfl,Gf (s:={ s with heap:=h' }) e c d ∅ ⟨_,H,I1,ru,⟨rfl,λys hy=>by rw [I.list_inj hy hq];exact hx⟩,st3,λb hb=>(hf b hb).1⟩⟩
 done:=by
  intro X hP hw hK hc i pins s σ H E I hf st hg
  subst hP hw hK
  have hg':n=i:=hg
  subst hg'
  obtain ⟨f0,f1,f2,f3,f4,f5⟩:=hf it (by simp)
  have st2:s.heap.IsRevIter it a (-1):=by rw [show (-1:Int)=(n:Int) - 1 - (n:Int) by omega];exact st
  exact wpAny_pyNext_rev_end (I.ok.hd hc) st2 λh' eb=>⟨rfl,I.turned (t':=s.toks) (λb o hb e=>eb b o hb e) f0 f1 f3 f4 f5⟩
 self:=λ_ _ _ _ _ st h=>wpAny_pyIter_revIter st h
theorem Us {X:Cx} {tg:Expr} {a:Expr} {ta:TA} {p pos:Pos} (hg:Gl X "reversed") (hm:X.mg "reversed" = none) (ha:PA X [a] ta) (hs:starEach [a] X.env=[(false,eval a X.env)]:=by rfl):PI X tg (.Call (.Name "reversed" p) [a] [] pos) (Jf X.K ta):=by
 intro pins s σ H R I h
 refine Call_ (EE I hg hm UV (PyProof.Rows.callWith_type1 (thn (ha pos pins s σ H _ I h) λus s1 ⟨vs,H1,I1,r1,q1⟩=>?_) hs rfl))
 obtain ⟨b,xs,rfl,hq,q⟩:=q1
 obtain ⟨u,rfl,ru⟩:=Dj r1
 cases ru
 obtain ⟨its,rv,pl,hz⟩:=I1.list hq
 refine call_reversed_list pl.isList ?_
 have I2:Inv X pins σ H1 { s1 with heap:=s1.heap.push (revObj b ((its.toArray.size:Int) - 1)) }:=I1.kept (t':=s1.toks) λb o e=>Heap.get?_push_of_some _ e
 have hl:=rv.length
 have si:(s1.heap.push (revObj b ((its.toArray.size:Int) - 1))).IsRevIter s1.heap.objs.size b ((xs.length:Int) - 1 - ((0:Nat):Int)):=by
  rw [show (xs.length:Int) - 1 - ((0:Nat):Int)=(its.toArray.size:Int) - 1 by rw [BF];omega]
  exact ⟨_,Heap.get?_push_size _ rfl,rfl,rfl⟩
 refine wpAny_pyIter_revIter si ⟨_,[s1.heap.objs.size],_,_,H1,rfl,I2,Ur b _ xs.length,si,λc hc=>?_,q⟩
 have z:c=s1.heap.objs.size:=by simpa using hc
 subst z
 exact I1.fpOk (AS _) (I1.hok.fresh (AS _))
end Bs
namespace Bs
open PySem L2
noncomputable def GA:R2:=λx y H Q=>y=.non/\Q (.bl (decide (x=.non))) H
noncomputable def GB:R2:=λx y H Q=>y=.non/\Q (.bl (!decide (x=.non))) H
noncomputable def Jg (_ j:Int):Prop:=0<j
noncomputable def GC (_ j:Int):Prop:=j≠0
noncomputable abbrev FX:R2:=rI Jg λi j=>.int (i / j)
noncomputable abbrev Eh:R2:=rI GC λi j=>.int (i.fdiv j)
noncomputable def Itz (K:W.Frag) (a b:Addr):It:=
 ⟨λi H=>∃ xs ys x y,SqL K H a xs/\SqL K H b ys/\xs[i]?=some x/\ys[i]?=some y,λi H v H'=>∃ p x y,H p=none/\v=.ref p/\H'=upd H p (.tup [x,y])/\(∀ xs,SqL K H a xs->xs[i]?=some x)/\∀ ys,SqL K H b ys->ys[i]?=some y,λi H=>∃ xs ys,SqL K H a xs/\SqL K H b ys/\xs.length<=i⟩
noncomputable def Jh (K:W.Frag) (ta:TA):TI:=λσ H R=>ta σ H λvs H1=>∃ a b,vs=[.ref a,.ref b]/\(∃ xs,SqL K H1 a xs)/\(∃ ys,SqL K H1 b ys)/\R (Itz K a b) H1
noncomputable def E8 (wi:TI) (capt:List (Option Nat)) (g:TG) (tc:TT) (te:TE):TE:=λσ H Q=>wi σ H λJ H1=>∃ (n:Nat) (W:Nat->List V->Hp->Prop),W 0 [] H1/\∀ i ys H,W i ys H->i<=n/\ys.length<=sizeLine/\
 ((J.stop i H/\∀ p,H p=none->Q (.ref p) (upd H p (.lst ys)))\/(i<n/\J.go i H/\∀ x H',J.yld i H x H'->g x (Ck capt σ) H' λσ2 H2=>tc σ2 H2 λb H3=>if b=true then te σ2 H3 λy H4=>W (i+1) (ys++[y]) H4 else W (i+1) ys H3))
noncomputable def CompF (J:It) (capt:List (Option Nat)) (g:TG) (tc:TT) (te:TE) (σ:L2.St) (Q:VK) (H1:Hp):Prop:=∃ (n:Nat) (W:Nat->List V->Hp->Prop),W 0 [] H1/\∀ i ys H,W i ys H->i<=n/\ys.length<=sizeLine/\
 ((J.stop i H/\∀ p,H p=none->Q (.ref p) (upd H p (.lst ys)))\/(i<n/\J.go i H/\∀ x H',J.yld i H x H'->g x (Ck capt σ) H' λσ2 H2=>tc σ2 H2 λb H3=>if b=true then te σ2 H3 λy H4=>W (i+1) (ys++[y]) H4 else W (i+1) ys H3))
section
variable {K:W.Frag} {ta:TA} {tl:TE} {capt:List (Option Nat)} {g:TG} {tc:TT} {te:TE} {tb:TS} {D:Ends} {σ:L2.St} {H:Hp} {Q:VK} {a b:Addr} {xs ys:List V}
theorem Ut:E8 (CD K tl) capt g tc te σ H Q=tl σ H (λx H1=>∃ a,x=.ref a/\(∃ xs,SqL K H1 a xs)/\CompF (Itl K a) capt g tc te σ Q H1):=rfl
theorem Uv:CF (Jh K ta) capt g te σ H Q=ta σ H (λvs H1=>∃ a b,vs=[.ref a,.ref b]/\(∃ xs,SqL K H1 a xs)/\(∃ ys,SqL K H1 b ys)/\CompJ (Itz K a b) capt g te σ Q H1):=rfl
theorem CompF.lst (W:Nat->List V->Hp->Prop) (h0:W 0 [] H) (hb:∀ i ys H,W i ys H->i<=xs.length/\ys.length<=sizeLine/\SqL K H a xs)
  (hs:∀ i x ys H,xs[i]?=some x->W i ys H->g x (Ck capt σ) H λσ2 H2=>tc σ2 H2 λb H3=>if b=true then te σ2 H3 λy H4=>W (i+1) (ys++[y]) H4 else W (i+1) ys H3) (hd:∀ ys H,W xs.length ys H->∀ p,H p=none->Q (.ref p) (upd H p (.lst ys))):CompF (Itl K a) capt g tc te σ Q H:=by
 refine ⟨xs.length,W,h0,λi ys H w=>⟨(hb i ys H w).1,(hb i ys H w).2.1,?_⟩⟩
 have q:SqL K H a xs:=(hb i ys H w).2.2
 by_cases h:i<xs.length
 ·refine .inr ⟨h,⟨xs,xs[i],q,by simp [h]⟩,λx H' y=>?_⟩
  obtain ⟨e,y⟩:=y
  subst e
  exact hs i x ys _ (y xs q) w
 ·have e:i=xs.length:=Nat.le_antisymm (hb i ys H w).1 (DI.mp h)
  subst e
  exact .inl ⟨⟨xs,q,AS _⟩,hd ys H w⟩
end
noncomputable def Mb:V->Hp->VK->Prop:=λx H Q=>∃ (p:Addr) (ns:List Int),x=.ref p/\H p=some (.lst (ns.map V.int))/\∀ m:Int,(ns=[]/\m=0\/m∈ns)->Q (.int m) H
noncomputable def Ji (te:TE):TE:=λσ H Q=>te σ H λx H1=>Mb x H1 Q
noncomputable def Jj:List V->Hp->VK->Prop:=λxs H Q=>∃ (p:Addr) (ns:List Int),xs=[.ref p]/\H p=some (.lst (ns.map V.int))/\Q (.bl (ns.any λz=>!decide (z=0))) H
end Bs
namespace Bs
open PySem PySem.Spec PyProof.Rows L2
section
variable {X:Cx} {pins:List (Addr×Obj)} {σ:L2.St} {H:Hp} {s:Shared}
theorem E9:OpR X (binaryOp .FloorDiv) Eh:=by
 intro pins s σ H x y v u Q I rx ry ⟨i,j,ex,ey,hc,q⟩
 subst ex ey
 obtain ⟨t,rfl⟩:=rx
 obtain ⟨t2,rfl⟩:=ry
 exact floordiv_int hc ⟨.int (i.fdiv j),H,I.tok _,⟨_,rfl⟩,q⟩ (Or.inr (I.ok.plr s I.bk))
theorem Gv:OpR X (binaryOp .FloorDiv) FX:=by
 intro pins s σ H x y v u Q I rx ry ⟨i,j,ex,ey,hc,q⟩
 have hc':0<j:=hc
 replace q:Q (.int (i / j)) H:=q
 rw [<-Er i (Int.le_of_lt hc')] at q
 exact E9 pins s σ H x y v u Q I rx ry ⟨i,j,ex,ey,Ah hc',q⟩
theorem Uw {fp:List Addr} {g:Heap} {tk:Nat} (I:Inv X pins σ H s) (ff:∀ b∈fp,DM X pins H b) (k:∀ b o,b∉fp->s.heap.get? b=some o->g.get? b=some o):Inv X pins σ H { s with heap:=g,toks:=tk }:=by
 have tr:∀ b u,H b=some u->b∉fp:=λb u q hb=>by rw [(ff b hb).1] at q;cases q
 refine I.step (g':=s.gens) (d':=s.drawn) (ch:=fp) (λb hb=>⟨(ff b hb).2.2.2.1,(ff b hb).2.1,(ff b hb).2.2.2.2.1,(ff b hb).2.2.2.2.2⟩) (λb o _ _ hc q _=>k b o hc q) (λb o _ _ hc q _=>⟨o.slots,k b o hc q⟩) (λ_ _ _ _ n=>n)
  (λb o hc q=>⟨o,k b o hc q⟩) (λ_ _ q=>q) (λ_ _ _ q=>q) (λb ps q=>⟨#[],by rw [q];simp⟩) (λm hm=>?_) (λb u q=>?_) I.bare
 ·obtain ⟨o,es,ep,ho,hr⟩:=hm
  exact ⟨o,es,ep,k _ o (λhb=>(ff _ hb).2.1 rfl) ho,hr⟩
 ·refine (I.hok b u q).stay (λc v hc z=>?_) (λ_ z=>z) λ_ _ z=>z
  rcases hc with y | y
  ·subst y;exact k _ v (tr _ u q) z
  ·exact k c v (tr c _ y) z
theorem Ux {fp:List Addr} {g:Heap} {tk:Nat} {xs:List V} {its:List Value} (I:Inv X pins σ H s) (ff:∀ b∈fp,DM X pins H b) (k:∀ b o,b∉fp->s.heap.get? b=some o->g.get? b=some o)
  (hz:xs.length<=sizeLine) (rv:Vals xs its) (ht:g.get? s.heap.objs.size=some { cls:=.type "tuple", data:=.seq its.toArray }):Inv X pins σ (upd H s.heap.objs.size (.tup xs)) { s with heap:=g,toks:=tk }:=by
 have nT:H s.heap.objs.size=none:=I.hok.fresh (AS _)
 have tn:∀ b u,H b=some u->b≠s.heap.objs.size:=λb u q=>BO q nT
 have tr:∀ b u,H b=some u->b∉fp:=λb u q hb=>by rw [(ff b hb).1] at q;cases q
 refine I.step (g':=s.gens) (d':=s.drawn) (ch:=fp) (λb hb=>⟨(ff b hb).2.2.2.1,(ff b hb).2.1,(ff b hb).2.2.2.2.1,(ff b hb).2.2.2.2.2⟩) (λb o _ _ hc q _=>k b o hc q) (λb o _ _ hc q _=>⟨o.slots,k b o hc q⟩) (λb o _ q n=>?_)
  (λb o hc q=>⟨o,k b o hc q⟩) (λb ys q=>?_) (λb o u q=>?_) (λb ps q=>⟨#[],?_⟩) (λm hm=>?_) (λb u q=>?_) I.bare
 ·rw [Ag (Bo (Z2 q))];exact n
 ·rw [Ag (tn b _ q)];exact q
 ·rw [Ag (tn b _ q)];exact q
 ·rw [Ag (tn b _ q),q];simp
 ·obtain ⟨o,es,ep,ho,hr⟩:=hm
  exact ⟨o,es,ep,k _ o (λhb=>(ff _ hb).2.1 rfl) ho,hr⟩
 ·by_cases hb:b=s.heap.objs.size
  ·subst hb
   rw [upd_same] at q
   cases q
   exact ⟨hz,its,rv,⟨_,ht,rfl,_,rfl⟩⟩
  ·rw [Ag hb] at q
   refine (I.hok b u q).stay (λc v hc z=>?_) (λc z=>by rw [Ag (tn c _ z)];exact z) λc ys z=>by rw [Ag (tn c _ z)];exact z
   rcases hc with y | y
   ·subst y;exact k _ v (tr _ u q) z
   ·exact k c v (tr c _ y) z
end
noncomputable def Uy (a b z ti to i1 i2:Addr) (i:Nat) (h:Heap):Prop:=IsZip h z ti to .none/\IsPair h ti (.ref i1) (.ref i2)/\(∃ u v,IsPair h to u v)/\h.IsListIter i1 a i/\h.IsListIter i2 b i
theorem Uz {P:Program} {w:World} {K:W.Frag} {elts:List Expr} {k:Nat} {pos:Pos} {a b z ti to i1 i2:Addr} (D:ZipApart z ti to i1 i2 a b):Turn P w K (.Tuple elts k pos) (Itz K a b) [z,ti,to,i1,i2] z (Uy a b z ti to i1 i2) where
 mem:=by simp
 obj:=λi h st c hc=>by
  obtain ⟨s1,s2,⟨u,v,s3⟩,⟨o4,s4,_,d4⟩,⟨o5,s5,_,d5⟩⟩:=st
  have hc':c=z\/c=ti\/c=to\/c=i1\/c=i2:=by simpa using hc
  rcases hc' with rfl | rfl | rfl | rfl | rfl
  ·exact ⟨_,s1,λv q=>nomatch q⟩
  ·exact ⟨_,s2,λv q=>nomatch q⟩
  ·exact ⟨_,s3,λv q=>nomatch q⟩
  ·exact ⟨_,s4,λv q=>by rw [d4] at q;cases q⟩
  ·exact ⟨_,s5,λv q=>by rw [d5] at q;cases q⟩
 keep:=λi h h' st kk=>⟨kk z (by simp) _ st.1,kk ti (by simp) _ st.2.1,let ⟨u,v,q⟩:=st.2.2.1;⟨u,v,kk to (by simp) _ q⟩,st.2.2.2.1.at λo q=>kk i1 (by simp) o q,st.2.2.2.2.at λo q=>kk i2 (by simp) o q⟩
 item:=by
  intro X hP hw hK hc i pins s σ H E I hf st hg
  subst hP hw hK
  obtain ⟨xs,ys,x,y,hq,hq2,hx,hy⟩:=hg
  obtain ⟨s1,s2,⟨u0,v0,s3⟩,s4,s5⟩:=st
  obtain ⟨its,rv,p1,_⟩:=I.list hq
  obtain ⟨jts,rw',p2,_⟩:=I.list hq2
  obtain ⟨u,hu,ru⟩:=rv.get hx
  obtain ⟨v,hv,rw2⟩:=rw'.get hy
  refine wpAny_pyNext_zip_item D s1 s2 s3 s4 s5 p1.isList p2.isList (x:=u) (y:=v) (by simpa using hu) (by simpa using hv) λg g1 g2 g3 g4 g5 _ gk=>?_
  refine ⟨_,rfl,wpAny_letOwnedTupleGo_zip g1 λg' z1 sb=>?_⟩
  have lz:z<s.heap.objs.size:=Z2 s1
  have kept:∀ c o,c∉[z,ti,to,i1,i2]->s.heap.get? c=some o->g'.get? c=some o:=λc o hc q=>by
   have hc':¬ (c=z\/c=ti\/c=to\/c=i1\/c=i2):=by simpa using hc
   exact sb.extBut c o (λe=>hc' (.inl e)) (gk c o (λe=>hc' (.inl e)) (λe=>hc' (.inr (.inr (.inl e)))) (λe=>hc' (.inr (.inr (.inr (.inl e))))) (λe=>hc' (.inr (.inr (.inr (.inr e))))) q)
  have I1:=Ux (g:=g') (tk:=s.toks) (xs:=[x,y]) (its:=[u,v]) I hf kept (sz (by simp)) (.cons ru (.cons rw2 .nil)) (sb.extBut _ _ (Nat.ne_of_gt lz) g5)
  refine ⟨.ref s.heap.objs.size,_,I1,rfl,⟨_,x,y,I.hok.fresh (AS _),rfl,rfl,λzs hz=>by rw [I.list_inj hz hq];exact hx,λzs hz=>by rw [I.list_inj hz hq2];exact hy⟩,⟨z1,?_,⟨u,v,sb.extBut _ _ D.TOz g2⟩,g3.at λo q=>sb.extBut i1 o D.i1z q,g4.at λo q=>sb.extBut i2 o D.i2z q⟩,λc hc=>?_⟩
  ·exact sb.extBut _ _ D.TIz (gk _ _ D.TIz D.TITO D.TIi1 D.TIi2 s2)
  ·rw [Ag]
   ·exact (hf c hc).1
   ·have hc':c=z\/c=ti\/c=to\/c=i1\/c=i2:=by simpa using hc
    obtain ⟨o4,s4,_⟩:=s4
    obtain ⟨o5,s5,_⟩:=s5
    rcases hc' with rfl | rfl | rfl | rfl | rfl
    ·exact Bo lz
    ·exact Bo (Z2 s2)
    ·exact Bo (Z2 s3)
    ·exact Bo (Z2 s4)
    ·exact Bo (Z2 s5)
 done:=by
  intro X hP hw hK hc i pins s σ H E I hf st hg
  subst hP hw hK
  obtain ⟨xs,ys,hq,hq2,hx⟩:=hg
  obtain ⟨s1,s2,⟨u0,v0,s3⟩,s4,s5⟩:=st
  obtain ⟨its,rv,p1,_⟩:=I.list hq
  obtain ⟨jts,_,p2,_⟩:=I.list hq2
  have hl:=rv.length
  refine wpAny_pyNext_zip_end (I.ok.hd hc) D s1 s2 s3 s4 s5 p1.isList p2.isList (.inl (by simp;omega)) λg gk=>⟨rfl,Uw (tk:=s.toks) I hf λc o hc q=>?_⟩
  have hc':¬ (c=z\/c=ti\/c=to\/c=i1\/c=i2):=by simpa using hc
  exact gk c o (λe=>hc' (.inl e)) (λe=>hc' (.inr (.inr (.inl e)))) (λe=>hc' (.inr (.inr (.inr (.inl e))))) (λe=>hc' (.inr (.inr (.inr (.inr e))))) q
 self:=λ_ _ _ _ _ st h=>wpAny_pyIter_zip st.1 h
section
variable {X:Cx} {elts:List Expr} {k:Nat} {tpos:Pos} {a b:Expr} {ta:TA} {p pos:Pos}
theorem vals2 {x y:V} {us:List Value} (r:Vals [x,y] us):∃ u v,us=[u,v]/\RelV x u/\RelV y v:=r.two
theorem U0 (hg:Gl X "zip") (hm:X.mg "zip" = none) (ha:PA X [a,b] ta) (hs:starEach [a,b] X.env=(false,eval a X.env)::starEach [b] X.env:=by rfl) (hpl:(backTo pos (starEach [b] X.env)).any (·.1)=false:=by rfl):PI X (.Tuple elts k tpos) (.Call (.Name "zip" p) [a,b] [] pos) (Jh X.K ta):=by
 intro pins s σ H R I h
 refine Call_ (EE I hg hm UU (PyProof.Rows.callWith_type1 (thn (ha pos pins s σ H _ I h) λus s1 ⟨vs,H1,I1,r1,q1⟩=>?_) hs hpl))
 obtain ⟨l1,l2,rfl,⟨xs,hq⟩,⟨ys,hq2⟩,q⟩:=q1
 obtain ⟨u,v,rfl,ru,rv⟩:=vals2 r1
 cases ru
 cases rv
 obtain ⟨its,_,p1,_⟩:=I1.list hq
 obtain ⟨jts,_,p2,_⟩:=I1.list hq2
 refine call_zip_2 p1.isList p2.isList λg z1 z2 z3 z4 z5 _ gk=>?_
 have I2:Inv X pins σ H1 { s1 with heap:=g }:=I1.kept (t':=s1.toks) gk
 have n1:@LT.lt Nat _ l1 s1.heap.objs.size:=p1.lt
 have n2:@LT.lt Nat _ l2 s1.heap.objs.size:=p2.lt
 have D:ZipApart (s1.heap.objs.size+4) (s1.heap.objs.size+2) (s1.heap.objs.size+3) s1.heap.objs.size (s1.heap.objs.size+1) l1 l2:=by
  constructor <;> (show (_:Nat)≠_;omega)
 refine wpAny_pyIter_zip z1 ⟨_,[s1.heap.objs.size+4,s1.heap.objs.size+2,s1.heap.objs.size+3,s1.heap.objs.size,s1.heap.objs.size+1],_,_,H1,rfl,I2,Uz D,⟨z1,z2,⟨_,_,z3⟩,z4,z5⟩,λc hc=>?_,q⟩
 have hc':s1.heap.objs.size<=c:=by
  have z:c=s1.heap.objs.size+4\/c=s1.heap.objs.size+2\/c=s1.heap.objs.size+3\/c=s1.heap.objs.size\/c=s1.heap.objs.size+1:=by simpa using hc
  rcases z with z | z | z | z | z <;> rw [z] <;> first | exact Nat.le_add_right _ _ | exact AS _
 exact I1.fpOk hc' (I1.hok.fresh hc')
end
theorem U3:bootBuiltins "any" = some (.builtin "any"):=by decide +kernel
theorem Gw:∀ {ns:List Int} {us:List Value} {i:Nat} {u:Value},Vals (ns.map V.int) us->us[i]?=some u->∃ n t,ns[i]?=some n/\u=Value.int n t
 | [],_,_,_,.nil,e=>by simp at e
 | n::ns,_,0,_,.cons r _,e=>by
   simp at e;subst e
   obtain ⟨t,rfl⟩:=r
   exact ⟨n,t,rfl,rfl⟩
 | _::ns,_,i+1,u,.cons _ r,e=>by
   obtain ⟨n,t,h1,h2⟩:=Gw (i:=i) (u:=u) r (by simpa using e)
   exact ⟨n,t,by simpa using h1,h2⟩
section
variable {X:Cx}
theorem U4 (hc:X.calm=true):CY X (.builtin "any") Jj:=λpins s σ H xs us Q I r ⟨p,ns,e,hp,q⟩=>by
 subst e
 obtain ⟨u,rfl,ru⟩:=Dj r
 cases ru
 obtain ⟨its,rv,pl,hz⟩:=I.list (SqL.of hp)
 have hl:ns.length=its.length:=by have:=rv.length;simpa using this
 refine call_any_walk (wpAny_pyIter_list pl.isList ⟨s.heap.objs.size,[s.heap.objs.size,p],[s.heap.objs.size],its.toArray.size,_,_,λi=>!decide (ns.getD i 0=0),rfl,Walks.list (A:=X.A.in1) (show X.A.in1.handled=none from I.ok.hd hc) s.heap.objs.size p (Bo pl.lt) _,⟨⟨_,Heap.get?_push_size _ rfl,rfl,rfl⟩,pl.isList.push _⟩,?_,λg tk gk=>?_⟩)
 ·intro i v s' Q' E' hP hQ
  obtain ⟨n,t,h1,rfl⟩:=Gw rv (show its[i]?=some v by simpa using hP)
  have e:ns.getD i 0=n:=by rw [AU,h1];rfl
  replace hQ:Q' (!decide (ns.getD i 0=0)) s':=hQ
  rw [e] at hQ
  refine PySem.P.truthy_int ?_
  have e2:(n != 0)=!decide (n=0):=by rw [Bool.eq_iff_iff];simp
  rw [e2]
  exact hQ
 ·have kk:∀ b o,s.heap.get? b=some o->g.get? b=some o:=λb o e=>gk b o (λz=>absurd (Z2 e) (by rw [Az.mp z];exact DF _)) (Heap.get?_push_of_some _ e)
  refine ⟨_,H,I.kept kk,?_,q⟩
  show Value.bool _=Value.bool _
  congr 1
  rw [Bool.eq_iff_iff]
  simp only [List.any_eq_true,ER,BF]
  constructor
  ·rintro ⟨i,hi,h⟩
   have hi2:i<ns.length:=by omega
   rw [AU,Am hi2] at h
   exact ⟨ns[i],Db hi2,h⟩
  ·rintro ⟨x,hx,h⟩
   obtain ⟨i,hi,rfl⟩:=FJ hx
   refine ⟨i,⋯,?_⟩
   rw [AU,Am hi]
   exact h
end
section
variable {prog:Program} {w:World} {A:Around} {R:Result->Shared->Prop} {I:Addr} {fp wr:List Addr} {n:Nat} {P:Nat->Value->Prop} {St:Nat->Heap->Prop} {d:Value}
end
theorem U5 (a v:Value):argsOk "min" ⟨[a],[("default", v)]⟩:=by unfold argsOk;kernel_rfl
section
variable {X:Cx} {e:Expr} {te:TE} {p pos kp1 kp2:Pos} {kk:Nat}
end
section
variable {X:Cx} {pins:List (Addr×Obj)} {σ:L2.St} {H:Hp} {s:Shared} {N:List Str} {capt:List (Option Nat)} {scope:Scope} {cl:List (Str×Addr)} {C:Addr} {fp:List Addr}
end
end Bs
namespace Bs
open PySem L2
noncomputable def sS (K:W.Frag):V->Option Int->Option Int->Hp->VK->Prop:=λx lo hi H Q=>∃ a xs,x=.ref a/\SqL K H a xs/\∀ p,H p=none->Q (.ref p) (upd H p (.lst (Cg xs lo hi)))
noncomputable def Hv:List V->Hp->VK->Prop:=λxs H Q=>∃ (p:Addr) (ns:List Int),xs=[.ref p]/\H p=some (.lst (ns.map V.int))/\Q (.int ns.sum) H
end Bs
namespace Bs
open PySem PySem.Spec PyProof.Rows L2
section
variable {X:Cx}
theorem Mc:SlR X (sS X.K):=MG
theorem Me (ns:List Int):∀ k,k<=ns.length->preSum (λi=>ns.getD i 0) k=(ns.take k).sum
 | 0,_=>rfl
 | k+1,h=>by
   have e:ns.take (k+1)=ns.take k++[ns.getD k 0]:=by
    rw [DR,AU,Am ⋯];rfl
   show preSum _ k+_=_
   rw [e,Me ns k ⋯,List.sum_append]
   simp
theorem Mf (hc:X.calm=true):CY X (.builtin "sum") Hv:=λpins s σ H xs us Q I r ⟨p,ns,e,hp,q⟩=>by
 subst e
 obtain ⟨u,rfl,ru⟩:=Dj r
 cases ru
 obtain ⟨its,rv,pl,hz⟩:=I.list (SqL.of hp)
 have hl:ns.length=its.length:=by have:=rv.length;simpa using this
 refine call_sum_walkG (wpAny_pyIter_list pl.isList ⟨s.heap.objs.size,[s.heap.objs.size,p],[s.heap.objs.size],its.toArray.size,_,_,λi=>ns.getD i 0,rfl,Walks.list (A:=X.A.in1) (show X.A.in1.handled=none from I.ok.hd hc) s.heap.objs.size p (Bo pl.lt) _,⟨⟨_,Heap.get?_push_size _ rfl,rfl,rfl⟩,pl.isList.push _⟩,?_,?_,λg tk t gk=>?_⟩)
 ·intro b hb
  have z:b=s.heap.objs.size\/b=p:=by simpa using hb
  rcases z with z | z
  ·rw [z];exact Z2 (Heap.get?_push_size _ rfl)
  ·obtain ⟨o,_,ho,_⟩:=pl
   rw [z];exact Z2 (Heap.get?_push_of_some _ ho)
 ·intro i v hP
  obtain ⟨n,t,h1,rfl⟩:=Gw rv (show its[i]?=some v by simpa using hP)
  have e:ns.getD i 0=n:=by rw [AU,h1];rfl
  exact ⟨t,by show Value.int n t=Value.int (ns.getD i 0) t;rw [e]⟩
 ·have kk:∀ b o,s.heap.get? b=some o->g.get? b=some o:=λb o e=>gk b o (λz=>absurd (Z2 e) (by rw [Az.mp z];exact DF _)) (Heap.get?_push_of_some _ e)
  refine ⟨.int ns.sum,H,I.kept kk,⟨t,?_⟩,q⟩
  have e:=Me ns ns.length (AS _)
  rw [C7] at e
  rw [BF,<-hl,e]
end
end Bs
namespace Bs
open PySem L2
noncomputable def Jk (n:Nat) (t:TGs):TG:=λv σ H Q=>∃ a xs,v=.ref a/\H a=some (.lst xs)/\xs.length=n/\t xs σ H Q
end Bs
namespace Bs
open PySem PySem.Spec PyProof.Rows L2
theorem U6 {m n:Nat} {a b:Int} (ha:Bd m a) (hb:Bd n b) (h:m+n<=134217728):IntMulOk a b:=IntMulOk.of_le (MV ha) (MV hb) h
theorem U7 {X:Cx} {es:List Expr} {k:Nat} {pos:Pos} {t:TGs} {n:Nat} (hc:X.calm=true) (h:PGs X es t)
  (hn:(assignEach es X.env).length=n:=by rfl) (hst:(assignEach es X.env).findIdx? (·.1)=none:=by rfl):PG X (.Tuple es k pos) (Jk n t):=λpins s σ H v u Q I r q=>by
 obtain ⟨a,xs,e1,ha,hl,q⟩:=q
 subst e1
 cases r
 obtain ⟨its,rv,ht,hz⟩:=I.list (SqL.of ha)
 rw [assign_Tuple]
 refine Zy (wpAny_standAt ?_)
 unfold unpack
 rw [hst,show (assignEach es X.env).length=its.toArray.size by rw [hn,<-hl,rv.length];simp]
 refine Zy (wpAny_holding (PySem.W.kun_itemsOf (I.ok.hd hc) ht.isList λh' hx=>?_))
 have I1:Inv X pins σ H { s with heap:=h' }:=I.kept (t':=s.toks) λb o e=>hx b o (Bo (Z2 e)) e
 exact h pins _ σ H xs _ Q I1 (by simpa using rv) q
end Bs
namespace Bs
open PySem L2
end Bs
namespace Bs
open PySem PySem.Spec PyProof.Rows L2
end Bs
namespace Bs
open PySem L2
end Bs
namespace Bs
open PySem PySem.Spec PyProof.Rows L2
end Bs
namespace Bs
open PySem L2
end Bs
namespace Bs
open PySem PySem.Spec PySem.Calls PyProof.Rows L2
section
variable {X:Cx}
end
section
variable {X:Cx} {pos:Pos}
end
end Bs
namespace Bs
open PySem L2
end Bs
namespace Bs
open PySem PySem.Spec PySem.Calls PyProof.Rows L2
section
variable {X:Cx}
end
end Bs
namespace Bs
open PySem PySem.Spec PyProof.Rows L2
section
variable {X:Cx} {pins:List (Addr×Obj)} {σ:L2.St} {H:Hp} {s:Shared} {N:List Str} {capt:List (Option Nat)} {scope:Scope} {cl:List (Str×Addr)} {C:Addr} {fp:List Addr}
end
end Bs
namespace Bs
open PySem L2
noncomputable def blN (i:Int):Nat:=if i=0 then 0 else i.natAbs.log2+1
noncomputable def Hw:R2:=rI (λi j=>0<=j/\(blN i:Int)+j<=134217728) λi j=>.int (i*2 ^ j.toNat)
noncomputable def Jl:V->List V->Hp->VK->Prop:=λx xs H Q=>∃ i:Int,x=.int i/\xs=[]/\Q (.int (blN i)) H
noncomputable def Mg (te:TE):TE:=λσ H Q=>te σ H λx H1=>∃ (p:Addr) (ns:List Int),x=.ref p/\H1 p=some (.lst (ns.map V.int))/\∀ M:Int,(ns=[]/\M=0\/M∈ns/\∀ z∈ns,z<=M)->Q (.int M) H1
end Bs
namespace Bs
open PySem PySem.Spec PyProof.Rows L2
section
variable {X:Cx}
theorem Mh (i:Int):Builtin.Int.intBits i=blN i:=by unfold Builtin.Int.intBits blN;by_cases h:i=0 <;> simp [h]
theorem Jm:OpR X (binaryOp .LShift) Hw:=opI λ_ _ _ _ _ _ _ hc q=>lshift_int hc.1 (by rw [Mh];exact hc.2) q
theorem Mj:MtR X "int.bit_length" Jl:=by
 intro pins s σ H x xs v us Q I rx rv h
 obtain ⟨i,rfl,rfl,q⟩:=h
 obtain ⟨t,rfl⟩:=rx
 cases rv
 exact call_int_bit_length ⟨.int (blN i),H,I.tok _,⟨_,by rw [Mh]⟩,q⟩
end
section
variable {prog:Program} {w:World} {A:Around} {R:Result->Shared->Prop} {I:Addr} {fp wr:List Addr} {n:Nat} {P:Nat->Value->Prop} {St:Nat->Heap->Prop} {d:Value}
end
theorem U8 (a v:Value):argsOk "max" ⟨[a],[("default", v)]⟩:=by unfold argsOk;kernel_rfl
section
variable {X:Cx} {e:Expr} {te:TE} {p pos kp1 kp2:Pos} {kk:Nat}
end
end Bs
namespace Bs
open PySem L2
end Bs
namespace Bs
open PySem PySem.Spec PyProof.Rows L2
section
variable {X:Cx} {c P:Addr} {lp:Pos} {params:Arguments} {body:Expr} {scope:Scope}
end
section
variable {prog:Program} {w:World} {A:Around} {E:Value->Shared->Prop} {s:Shared}
end
section
variable {X:Cx} {c P:Addr} {e:Expr} {te:TE} {p pos kp lp px pk ps:Pos} {params:Arguments} {scope:Scope} {x:Str} {kk:Nat}
end
end Bs
namespace Bs
open PySem L2
end Bs
namespace Bs
open PySem PySem.Spec PySem.Calls PySem.SeqAt PyProof.Rows L2
open AutoSeq1 (wpAny_loadPart')
end Bs
namespace Bs
open PySem PySem.Spec PyProof.Rows L2
end Bs
namespace L2
open PySem PySem.Spec PyProof.Rows
end L2
namespace Bs
open PySem L2
end Bs
namespace Bs
open PySem PySem.Spec PyProof.Rows L2
section
variable {X:Cx} {c P:Addr} {lp:Pos} {params:Arguments} {body:Expr} {scope:Scope}
end
section
variable {X:Cx} {c P:Addr} {e:Expr} {te:TE} {p pos kp lp px pk ps:Pos} {params:Arguments} {scope:Scope} {x:Str} {kk:Nat}
end
end Bs
namespace Bs
open PySem L2
noncomputable def Mm (te:TE):TE:=λσ H Q=>te σ H λx H1=>∃ (a:Addr) (xs:List V),x=.ref a/\H1 a=some (.lst xs)/\∀ p,H1 p=none->Q (.ref p) (upd H1 p (.lst xs.reverse))
end Bs
namespace Bs
open PySem PySem.Spec PyProof.Rows L2
open PySem.AutoSeq1 (wpAny_loadPart')
section
variable {prog:Program} {w:World} {A:Around} {E:Value->Shared->Prop} {s:Shared}
end
section
variable {prog:Program} {w:World} {A:Around} {E:Value->Shared->Prop} {s:Shared}
end
section
variable {X:Cx} {elts:List Expr} {k:Nat} {tpos:Pos} {a b:Expr} {ta:TA} {p pos:Pos}
end
theorem U9 {X:Cx} {e st:Expr} {te:TE} {p2 pos:Pos} (he:PE X e te) (hst:PE X st (tUn BS (tC (.int 1)))):PE X (.Subscript e (.Slice none none (some st) p2) pos) (Mm te):=by
 intro pins s σ H Q I h
 refine Subscript_ (thn (he pins s σ H _ I h) λv s1 ⟨x,H1,I1,r1,q1⟩=>?_)
 refine wpAny_Slice ?_
 rw [evalPart_none]
 refine Zz (Zz (thn (Ez hst pins s1 σ H1 (λo H2=>o=some (-1)/\H2=H1) I1 ⟨1,rfl,-1,rfl,rfl,rfl⟩) λvk s3 ⟨o,H3,I3,pk,eo,eH⟩=>?_))
 subst eo eH
 have I4:Inv X pins σ H3 { s3 with heap:=s3.heap.push { cls:=.type "slice", data:=.fields #[.none,.none,vk] } }:=I3.kept (t':=s3.toks) λb ob q=>Heap.get?_push_of_some _ q
 obtain ⟨a,xs,rfl,hx,q⟩:=q1
 cases r1
 obtain ⟨its,r,ht,hz⟩:=I4.list (SqL.of hx)
 have hlen:=r.length
 show wpAny (model X.prog X.w) X.A (subscriptTail e (.Slice none none (some st) p2) (.ref a) (.ref s3.heap.objs.size)) (EP X pins σ Q) X.xe { s3 with heap:=s3.heap.push { cls:=.type "slice", data:=.fields #[.none,.none,vk] } }
 refine tail_any (ops:=[.ref a,.ref s3.heap.objs.size]) ht.isList.typeIs slot_list_getitem.lookup ?_ (by with_unfolding_all rfl)
 refine wpAny_getItem_list_slice ht.isList (Heap.IsSliceOf.new ..) .none .none pk (by simp) ?_ (by rw [BF] <;> omega)
 rw [PySem.W.krv_pick]
 refine ⟨.ref _,_,I4.laid (t':=s3.toks) (o:=.lst xs.reverse) (λb ob q=>Heap.get?_push_of_some _ q) (AS _) ?_,rfl,q _ (I4.hok.fresh (AS _))⟩
 exact ⟨by rw [List.length_reverse];exact hz,its.reverse,0,r.reverse,Heap.get?_push_size _ rfl⟩
end Bs
namespace Bs
open PySem L2
end Bs
namespace Bs
open PySem PySem.Spec PyProof.Rows L2
end Bs
namespace Bs
open PySem L2
end Bs
namespace Bs
open PySem PySem.Spec PyProof.Rows L2
end Bs
namespace Bs
open PySem L2
noncomputable def Dn (kvs:List (List Key×V)) (k:List Key) (v:V):List (List Key×V):=
 if kvs.any (λkv=>kv.1=k) then kvs.map (λkv=>if kv.1=k then (kv.1,v) else kv) else kvs++[(k,v)]
noncomputable def Mn:TE:=λ_ H Q=>∀ p,H p=none->Q (.ref p) (upd H p (.dT []))
noncomputable def Mo:V->V->V->Hp->(Hp->Prop)->Prop:=λo i v H Q=>∃ p b ks kvs,o=.ref p/\i=.ref b/\H b=some (.tup (List.map kV ks))/\H p=some (.dT kvs)/\kvs.length<sizeLine/\Q (upd H p (.dT (Dn kvs ks v)))
noncomputable def Mq:List V->Hp->VK->Prop:=λxs H Q=>∃ p kvs,xs=[.ref p]/\H p=some (.dT kvs)/\∀ as:List Addr,as.length=kvs.length->(∀ (i:Nat) (a:Addr) (kv:List Key×V),as[i]?=some a->kvs[i]?=some kv->H a=some (.tup (kv.1.map kV)))->∀ r,H r=none->Q (.ref r) (upd H r (.lst (as.map V.ref)))
end Bs
namespace Bs
open PySem PySem.Spec PySem.Calls PyProof.Rows L2
theorem VA {P:Program} {w:World} {k:Key} {u:Value} (r:RelV (kV k) u):(EY P w).is k u=true:=by
 rcases k with i | x
 ·obtain ⟨t,rfl⟩:=r;exact Rp P w i t
 ·obtain ⟨t,rfl⟩:=r;exact Rr P w x t
theorem Mr {P:Program} {w:World}:∀ (ks:List Key) {us:List Value},Vals (ks.map kV) us->ItemsAre (EY P w) ks us
 | [],_,.nil=>.nil
 | _::ks,_,.cons h t=>.cons (VA h) (Mr ks t)
noncomputable abbrev TKv (H:Hp):List (List Key×V)->List (List Key×Addr×Value)->Prop:=Paired λp q=>p.1=q.1/\H q.2.1=some (.tup (p.1.map kV))/\RelV p.2 q.2.2
theorem TKv.any {H:Hp} {k:List Key}:∀ {kvs:List (List Key×V)} {xs:List (List Key×Addr×Value)},TKv H kvs xs->kvs.any (λkv=>kv.1=k)=(atKey xs k).isSome
 | _,_,.nil=>rfl
 | _,_,.cons (a:=p) (b:=q) h t=>by
   rw [List.any_cons,TKv.any t]
   unfold atKey
   rw [List.find?_cons,<-h.1]
   by_cases c:p.1=k
   ·rw [Zv c];rfl
   ·rw [Zx c];rfl
theorem TKv.map {H:Hp} {k:List Key} {v:V} {u:Value} (ru:RelV v u):∀ {kvs:List (List Key×V)} {xs:List (List Key×Addr×Value)},TKv H kvs xs->TKv H (kvs.map λkv=>if kv.1=k then (kv.1,v) else kv) (xs.map (putAt k u))
 | _,_,.nil=>.nil
 | _,_,.cons (a:=p) (b:=q) h t=>by
   rw [List.map_cons,List.map_cons]
   refine .cons ?_ (TKv.map ru t)
   unfold putAt
   by_cases c:p.1=k
   ·rw [Zu c,Zu (h.1 ▸ c)];exact ⟨h.1,h.2.1,ru⟩
   ·rw [Zt c,Zt (h.1 ▸ c)];exact h
theorem TKv.snoc {H:Hp} {p:List Key×V} {q:List Key×Addr×Value} (h:p.1=q.1/\H q.2.1=some (.tup (p.1.map kV))/\RelV p.2 q.2.2):∀ {kvs:List (List Key×V)} {xs:List (List Key×Addr×Value)},TKv H kvs xs->TKv H (kvs++[p]) (xs++[q])
 | _,_,.nil=>.cons h .nil
 | _,_,.cons a t=>.cons a (TKv.snoc h t)
theorem TKv.put {H:Hp} {k:List Key} {b:Addr} {v:V} {u:Value} {kvs:List (List Key×V)} {xs:List (List Key×Addr×Value)} (h:TKv H kvs xs) (hb:H b=some (.tup (k.map kV))) (ru:RelV v u):TKv H (Dn kvs k v) (storedH xs k b u):=by
 unfold Dn storedH
 rw [TKv.any h]
 split
 ·exact TKv.map ru h
 ·exact TKv.snoc ⟨rfl,hb,ru⟩ h
theorem VB {k:List Key} {v:V} {kvs:List (List Key×V)}:(Dn kvs k v).length<=kvs.length+1:=by
 unfold Dn
 split
 ·rw [AL];omega
 ·rw [C2];exact AS _
theorem TKv.mem {H:Hp}:∀ {kvs:List (List Key×V)} {xs:List (List Key×Addr×Value)},TKv H kvs xs->∀ x∈xs,H x.2.1=some (.tup (x.1.map kV))
 | _,_,.nil,x,hx=>nomatch hx
 | _,_,.cons (a:=p) (b:=q) h t,x,hx=>by
   rcases Bb.mp hx with e | e
   ·rw [e,<-h.1];exact h.2.1
   ·exact TKv.mem t x e
theorem TKv.get {H:Hp}:∀ {kvs:List (List Key×V)} {xs:List (List Key×Addr×Value)} {i:Nat} {x:List Key×Addr×Value} {kv:List Key×V},TKv H kvs xs->xs[i]?=some x->kvs[i]?=some kv->H x.2.1=some (.tup (kv.1.map kV))
 | _,_,i,x,kv,.nil,hx,_=>by cases hx
 | _,_,0,x,kv,.cons h t,hx,hk=>by cases hx;cases hk;exact h.2.1
 | _,_,i+1,x,kv,.cons h t,hx,hk=>TKv.get t hx hk
section
variable {X:Cx}
theorem Ms {pins:List (Addr×Obj)} {σ:L2.St} {H:Hp} {s:Shared} {b:Addr} {ks:List Key} (I:Inv X pins σ H s) (h:H b=some (.tup (ks.map kV))):(tupleKind (EY X.prog X.w)).is s.heap ks b:=by
 obtain ⟨_,its,r,o,e1,e2,n,e3⟩:=(show ObjOk X.prog X.w H s.heap b (.tup (ks.map kV)) from I.hok b _ h)
 exact ⟨o,its.toArray,n,e1,e2,e3,by rw [List.toList_toArray];exact Mr ks r⟩
theorem Mt {pins:List (Addr×Obj)} {σ:L2.St} {H:Hp} {s:Shared} {p:Addr} {kvs:List (List Key×V)} (I:Inv X pins σ H s) (h:H p=some (.dT kvs)) :
  kvs.length<=sizeLine/\(p == sysModules)=false/\∃ xs,TKv H kvs xs/\s.heap.DictOfH (tupleKind (EY X.prog X.w)) p xs:=by
 obtain ⟨z,y,xs,r,o,es,ep,e1,e2,e3,e4,e5⟩:=(show ObjOk X.prog X.w H s.heap p (.dT kvs) from I.hok p _ h)
 exact ⟨z,y,xs,r,o,es,ep,e1,e2,e3,e4,λx hx=>Ms I (TKv.mem r x hx),e5⟩
theorem VC (hu:X.A.units+64<cLine):PSet X Mo:=by
 intro pins s σ H o i v ov iv u Q I ro ri rv h
 obtain ⟨p,b,ks,kvs,rfl,rfl,hb,hp,hz1,q⟩:=h
 cases ro
 cases ri
 obtain ⟨hz,hS,xs,r,m⟩:=Mt I hp
 have hl:kvs.length=xs.length:=Paired.length r
 refine wpAny_setItem_heap (hsz:=by omega) (tupleKind_room_in1 ⋯) (Ms I hb) m λh' hm hs=>⟨_,I.write (x:=p) (e:=p) (o:=.dT (Dn kvs ks v)) (by rw [hp];trivial) (.inl rfl) (λb u hb e=>(hs.2 b hb).trans e) ?_ ?_,q⟩
 ·obtain ⟨o,_,_,e,_⟩:=hm
  exact ⟨o,e⟩
 ·obtain ⟨o,es,ep,e1,e2,e3,e4,_,e5⟩:=hm
  refine ⟨by have:=VB (k:=ks) (v:=v) (kvs:=kvs);omega,hS,_,Paired.mapP (TKv.put r hb rv) λx y z=>⟨z.1,?_,z.2.2⟩,o,es,ep,e1,e2,e3,e4,e5⟩
  rw [Ag (Li z.2.1 hp λw=>nomatch w)]
  exact z.2.1
theorem VD {pos:Pos}:PE X (.Dict [] [] pos) Mn:=by
 intro pins s σ H Q I h
 have hf:H s.heap.objs.size=none:=I.hok.fresh (AS _)
 obtain ⟨m,F⟩:=I.fr
 have hS:(s.heap.objs.size == sysModules)=false:=F.notModules (modules_low I.ok.mod.nolimit)
 exact wpAny_Dict_empty ⟨.ref s.heap.objs.size,_,I.laid (o:=.dT []) (t':=s.toks) (λb u e=>Heap.get?_push_of_some _ e) (AS _) ⟨AV _,hS,[],.nil,_,#[],0,Heap.get?_push_size _ rfl,⟨rfl,rfl,rfl⟩,rfl,rfl,List.nodup_nil⟩,rfl,h _ hf⟩
noncomputable def RawD (h:Heap) (d:Addr) (es:Array DictEntry) (ep:Nat):Prop:=∃ o,h.get? d=some o/\o.ExactDict/\o.data=.dict es ep
theorem RawD.ty {s:Shared} {d:Addr} {es:Array DictEntry} {ep:Nat} (m:RawD s.heap d es ep):s.TypeIs (.ref d) "dict" := let ⟨o,e,c,_⟩:=m;⟨o,e,c.1⟩
theorem RawD.by {h h':Heap} {d:Addr} {es:Array DictEntry} {ep:Nat} (m:RawD h d es ep) (k:∀ o,h.get? d=some o->h'.get? d=some o):RawD h' d es ep:=let ⟨o,e,r⟩:=m;⟨o,k o e,r⟩
section
variable {prog:Program} {w:World} {A:Around} {E:Value->Shared->Prop} {s:Shared} {d it:Addr} {es:Array DictEntry} {ep i:Nat}
theorem VE {Q:Value->Shared->Prop} (lo:(d == sysModules)=false) (m:RawD s.heap d es ep) (q:Q (.ref s.heap.objs.size) { s with heap:=s.heap.push ⟨.type "dict_keyiterator", none,.fields #[.ref d,.int 0 0,.int es.size 0,.int ep 0],#[]⟩ }) :
  wpAny (model prog w) A (pyIter (.ref d)) Q E s:=by
 obtain ⟨o,e1,e2,e3⟩:=id m
 refine wpAny_pyIter_slot m.ty PySem.F.slot_dict_iter (wpAny_call_entry PySem.F.slot_dict_iter m.ty PySem.F.entry_dict_iter ?_ (PySem.F.args_dict_iter_1 _))
 unfold Builtin.«dict.__iter__» Builtin.Dict.dictSlotNone
 refine Zy (Zy (wpAny_notOrdered_dict m.ty (Zz ?_)))
 show wpAny _ _ (Builtin.Dict.showsAll d >>= _) _ _ _
 unfold Builtin.Dict.showsAll
 rw [Zt (show ¬ (d == sysModules)=true by rw [lo];decide)]
 exact Zy (Zz (Zy (wpAny_dictEntries e1 e3 (Zy (wpAny_dictEpoch e1 e3 (Zy (wpAny_newObj_type (Zz ⟨_,rfl, "dict_keyiterator", _,⟨_,Heap.get?_push_size _ rfl,rfl⟩,PySem.F.slot_dict_keyiterator_next.lookup,q⟩))))))))
theorem VF {Q:Option Value->Shared->Prop} {x:DictEntry} (t:s.heap.IsKeyIter it d i es.size ep) (m:RawD s.heap d es ep) (hx:es[i]?=some x)
  (q:∀ h',h'.IsKeyIter it d (i+1) es.size ep->Heap.SameBut it s.heap h'->Q (some x.key) { s with heap:=h' }):wpAny (model prog w) A (pyNext (.ref it)) Q E s:=by
 obtain ⟨o,f1,f2,f3⟩:=id t
 obtain ⟨od,e1,e2,e3⟩:=id m
 unfold pyNext
 refine Zy (wpAny_attempt (wpAny_callSpecial?_slot t.typeIs PySem.F.slot_dict_keyiterator_next (wpAny_call_entry PySem.F.slot_dict_keyiterator_next t.typeIs PySem.F.entry_dict_keyiterator_next ?_ (PySem.F.args_dict_keyiterator_next_1 _))))
 refine Zy (Zz (Zy (Zy (Zy (wpAny_typeNameOfWhole_keyiter t.typeIs (Zz (Zy (wpAny_fieldsOf f1 f3 ?_))))))))
 have own:Builtin.Dict_items.ownsTuple "dict_keyiterator" = false:=by decide
 simp only [own,Dt,if_false]
 show wpAny _ _ (if (Value.ref d == Value.none)=true then _ else _) _ _ s
 rw [Zt (show ¬ (Value.ref d == Value.none)=true from Ca)]
 refine Zy (Zz (Zy (wpAny_dictEntries e1 e3 ?_)))
 rw [Zt (by simp)]
 refine Zy (Zz (Zy (wpAny_dictEpoch e1 e3 ?_)))
 rw [Zt (by simp)]
 refine Zz ?_
 simp only [show ¬ (i:Int)<0 by omega,if_false,Dc,hx]
 refine Zy (Zy (wpAny_typeNameOfWhole_keyiter t.typeIs (Zz (Zy (wpAny_isOneOf_keyiter t.typeIs ?_)))))
 show wpAny _ _ (setField (.ref it) 1 (rawInt ((i:Int)+1)) >>= _) _ _ _
 refine Zy (wpAny_setField f1 f3 (by simp) ?_)
 have t':(s.heap.update it (Obj.mapFields (·.setIfInBounds 1 (rawInt ((i:Int)+1))))).IsKeyIter it d (i+1) es.size ep:=by
  refine ⟨_,Heap.get?_update_self _ f1 (Obj.isFreed_of_fields (Obj.data_mapFields f3 _)),(Obj.cls_mapFields ..).trans f2,?_⟩
  rw [Obj.data_mapFields f3];simp [rawInt]
 refine Zy (wpAny_holding (Zy (wpAny_isOneOf_keyiter (s:={ s with heap:=s.heap.update it (Obj.mapFields (·.setIfInBounds 1 (rawInt ((i:Int)+1)))) }) t'.typeIs ?_)))
 show wpAny _ _ (pure x.key) _ _ _
 exact Zz (Zz ⟨_,rfl,Zz (q _ t' (Heap.SameBut.update ..))⟩)
theorem VG {Q:Option Value->Shared->Prop} (hh:A.handled=none) (t:s.heap.IsKeyIter it d i es.size ep) (m:RawD s.heap d es ep) (hx:es[i]?=none)
  (q:∀ h',Heap.ExtBut it s.heap h'->Q none { s with heap:=h' }):wpAny (model prog w) A (pyNext (.ref it)) Q E s:=by
 obtain ⟨o,f1,f2,f3⟩:=id t
 obtain ⟨od,e1,e2,e3⟩:=id m
 unfold pyNext
 refine Zy (wpAny_attempt (wpAny_callSpecial?_slot t.typeIs PySem.F.slot_dict_keyiterator_next (wpAny_call_entry PySem.F.slot_dict_keyiterator_next t.typeIs PySem.F.entry_dict_keyiterator_next ?_ (PySem.F.args_dict_keyiterator_next_1 _))))
 refine Zy (Zz (Zy (Zy (Zy (wpAny_typeNameOfWhole_keyiter t.typeIs (Zz (Zy (wpAny_fieldsOf f1 f3 ?_))))))))
 have own:Builtin.Dict_items.ownsTuple "dict_keyiterator" = false:=by decide
 simp only [own,Dt,if_false]
 show wpAny _ _ (if (Value.ref d == Value.none)=true then _ else _) _ _ s
 rw [Zt (show ¬ (Value.ref d == Value.none)=true from Ca)]
 refine Zy (Zz (Zy (wpAny_dictEntries e1 e3 ?_)))
 rw [Zt (by simp)]
 refine Zy (Zz (Zy (wpAny_dictEpoch e1 e3 ?_)))
 rw [Zt (by simp)]
 refine Zz ?_
 simp only [show ¬ (i:Int)<0 by omega,if_false,Dc,hx]
 refine Zy (Zy (wpAny_typeNameOfWhole_keyiter t.typeIs (Zz ?_)))
 show wpAny _ _ (setField (.ref it) 0 .none >>= _) _ _ _
 refine Zy (wpAny_setField f1 f3 (by simp) ?_)
 show wpAny _ _ (newExc (.type "StopIteration") [] >>= _) _ _ _
 simp only [newExc,newTuple]
 refine Zy (Zy (wpAny_newObj_type ?_ (by size_fits)))
 refine Zy (m:=firstArgMember _ _) (wpAny_of_eq (a:=Value.none) (by first | rfl | (simp only [firstArgMember];rfl)) (wpAny_newObj_type ?_ (by size_fits)))
 simp only [raiseNew]
 refine Zy (wpAny_handled ?_)
 rw [show A.in1.handled=none from hh]
 refine Zy (Zz (wpAny_throw ?_))
 refine Zy (wpAny_isInstance (T := "StopIteration") (b:=true) ⟨_,Heap.get?_push_size _ rfl,rfl⟩ isSubtype_stop (Zz ?_))
 exact q _ (((Heap.SameBut.update ..).extBut.push _).push _)
theorem VH (hh:A.handled=none) (ne:d≠it):Walks prog w A it [it,d] [it] es.size (λi v=>∃ x,es[i]?=some x/\v=x.key) (λi h=>h.IsKeyIter it d i es.size ep/\RawD h d es ep) where
 sub:=λb hb=>by rw [Az.mp hb];exact BC ..
 frame:=λ_ _ _ st k=>⟨st.1.at (k it (BC ..)),st.2.by (k d (BN _ (Az.mpr rfl)))⟩
 item:=λi s Q E hi st q=>VF st.1 st.2 (Array.getElem?_eq_getElem hi) λh' t' sb=>q _ h' s.toks ⟨_,Array.getElem?_eq_getElem hi,rfl⟩ ⟨t',st.2.by λo e=>(sb.2 d ne).trans e⟩ λb o hb e=>(sb.2 b λz=>hb (Az.mpr z)).trans e
 done:=λs Q E st q=>VG hh st.1 st.2 (Array.getElem?_eq_none (AS _)) λh' x=>q h' s.toks λb o hb e=>x b o (λz=>hb (Az.mpr z)) e
 self:=λ_ _ _ _ st q=>wpAny_pyIter_keyiter st.1 q
theorem VI (lo:(d == sysModules)=false):PySem.W.KdlSrc prog w "dict" d d es.size (λi v=>∃ x,es[i]?=some x/\v=x.key) (λh=>RawD h d es ep) where
 type:=λ_ m=>m.ty
 there:=λ_ ⟨_,e,_⟩=>⟨Z2 e,Z2 e⟩
 keep:=λ_ _ m k=>m.by (k d (.inl rfl))
 notList:=by decide
 notTuple:=by decide
 hint:=λ_ _ _ _ m q=>PySem.W.kdl_hint_dict m.ty q
 iter:=λA s hh m=>⟨_,_,λ_ _ q=>VE lo m q,VH hh (let ⟨_,e,_⟩:=m;Bo (Z2 e)),⟨⟨_,Heap.get?_push_size _ rfl,rfl,rfl⟩,m.by λ_ e=>Heap.get?_push_of_some _ e⟩⟩
end
theorem VJ (hc:X.calm=true):CY X (.type "list") Mq:=λpins s σ H xs us Q I r ⟨p,kvs,e,hp,q⟩=>by
 subst e
 obtain ⟨u,rfl,ru⟩:=Dj r
 cases ru
 obtain ⟨hz,hS,ys,pt,o,es,ep,e1,e2,e3,e4,_⟩:=Mt I hp
 have hl:kvs.length=ys.length:=Paired.length pt
 have hs:es.size=ys.length:=by rw [<-Array.length_toList,e4,AL]
 refine PySem.W.kdl_call (VI (ep:=ep) (es:=es) hS) (I.ok.hd hc) ⟨o,e1,e2,e3⟩ ⋯ λh' tk acc c k hd ia=>?_
 have ea:∀ i,acc[i]?=(ys.map λy=>Value.ref y.2.1)[i]?:=λi=>by
  rcases BG i ys.length with hi | hi
  ·have ha:i<acc.size:=by rw [ia.1];omega
   obtain ⟨x,h1,h2⟩:=ia.2 i _ (Array.getElem?_eq_getElem ha)
   rw [Array.getElem?_eq_getElem ha,h2,Af,Am hi]
   rw [<-Array.getElem?_toList,e4,Af,Am hi] at h1
   cases h1;rfl
  ·rw [Array.getElem?_eq_none (by rw [ia.1];omega),Bv (by rw [AL];exact hi)]
 have eacc:acc=(ys.map λy=>Value.ref y.2.1).toArray:=by
  refine Array.ext_getElem? λi=>?_
  rw [ea i,List.getElem?_toArray]
 subst eacc
 have hf:H s.heap.objs.size=none:=I.hok.fresh (AS _)
 refine ⟨.ref s.heap.objs.size,_,I.laid (o:=.lst ((ys.map λy=>y.2.1).map V.ref)) (t':=tk) k (AS _) ⟨?_,ys.map (λy=>Value.ref y.2.1),c,?_,hd⟩,rfl,q _ (by rw [AL,hl]) (λi a kv h1 h2=>?_) _ hf⟩
 ·rw [AL,AL];omega
 ·have:∀ l:List (List Key×Addr×Value),Vals ((l.map λy=>y.2.1).map V.ref) (l.map λy=>Value.ref y.2.1):=λl=>by
   induction l with
   | nil=>exact .nil
   | cons y l ih=>exact .cons rfl ih
  exact this ys
 ·rw [Af] at h1
  cases hy:ys[i]? with
  | none=>rw [hy] at h1;cases h1
  | some y=>rw [hy] at h1;cases h1;exact TKv.get pt hy h2
end
end Bs
namespace Bs
open PySem L2
noncomputable def Jn:List V->Hp->VK->Prop:=λxs H Q=>∃ (i:Int) (n:String) (b:Bool),xs=[.int i,.ty n]/\(n = "int" /\ b=true\/n = "bool" /\ b=false)/\Q (.bl b) H
end Bs
namespace Bs
open PySem PySem.Spec PyProof.Rows L2
theorem Mu {X:Cx}:CY X (.builtin "isinstance") Jn:=λpins s σ H xs us Q I r ⟨i,n,b,e,hb,q⟩=>by
 subst e
 obtain ⟨u,w',rfl,rx,rn⟩:=vals2 r
 obtain ⟨t,rfl⟩:=rx
 have rn':w'=Value.type n:=rn
 subst rn'
 rcases hb with ⟨rfl,rfl⟩ | ⟨rfl,rfl⟩
 ·exact PySem.IsiPair.int_int ⟨.bl true,H,I,rfl,q⟩
 ·exact PySem.IsiPair.int_bool ⟨.bl false,H,I.tok _,rfl,q⟩
end Bs
namespace Bs
open PySem L2
noncomputable def tMM (C:List Int->Int->Prop) (te:TE):TE:=λσ H Q=>te σ H λx H1=>∃ (p:Addr) (ns:List Int),x=.ref p/\H1 p=some (.lst (ns.map V.int))/\∀ M:Int,C ns M->Q (.int M) H1
end Bs
namespace Bs
open PySem PySem.Spec PyProof.Rows L2
section
variable {prog:Program} {w:World} {A:Around} {R:Result->Shared->Prop} {I:Addr} {fp wr:List Addr} {n:Nat} {P:Nat->Value->Prop} {St:Nat->Heap->Prop} {d:Value} {m:Bool}
theorem mmE {m:Bool}:entryFor table (cond m "max.loop" "min.loop")=some (cond m Builtin.«max.loop» Builtin.«min.loop»):=by
 cases m
 ·exact F.entry_min_loop
 ·exact F.entry_max_loop
theorem mmP {m:Bool}:plainId (cond m "max.loop" "min.loop")=true:=by
 cases m
 ·exact F.plain_min_loop
 ·exact F.plain_max_loop
theorem mmX:(toString "max" ++ toString ".loop" : String) = "max.loop" := by decide
theorem mmN:(toString "min" ++ toString ".loop" : String) = "min.loop" := by decide
theorem VL (W:Walks prog w A.in1 I fp wr n P St) (bt:Nat->Nat->Bool) (htr:∀ i j q,bt j q=true->bt i q=false->bt i j=false) (hirr:∀ i,bt i i=false) (hcmp:CmpOf prog w A.in1 (cond m .Gt .Lt) P bt) (S:Addr) (hSf:S∉fp):∀ (k j q:Nat) (s:Shared) (vb:Value) (c:Nat),n - j=k->j<=n->St j s.heap->q<n->(∀ i,i<j->bt i q=false)->P q vb->
  s.heap.get? S=some { cls:=.type "list", dict:=none,data:=.seq #[vb,vb] c,slots:=#[] }->
  (∀ q v h' tk,q<n->(∀ i,i<n->bt i q=false)->P q v->(∀ b o,b∉wr->b≠S->s.heap.get? b=some o->h'.get? b=some o)->R (.ok (.ret v)) { s with heap:=h',toks:=tk })->
  codeAny (model prog w) A (.builtin (cond m "max.loop" "min.loop") ⟨[.ref I,.none,.ref S],[("default", d)]⟩) R s:=by
 intro k
 induction k with
 | zero=>
   intro j q s vb c hk hj hst hq hB hPb hS hR
   have jn:j=n:=by omega
   refine codeAny_builtin mmE ?_
   rw [Around.under_plainId mmP _]
   cases m <;> (
    refine Zy (m:=seqItems? (.ref S)) (wpAny_seqItems hS rfl ?_)
    refine Zy (m:=tryCatch (pyNext (.ref I)) _) (wpAny_tryCatch (W.done s _ _ (jn ▸ hst) λh' tk kp=>?_))
    have hS2:=kp S _ (λz=>hSf (W.sub _ z)) hS
    refine Zy (m:=updateSeq S (λ_=>#[])) (wpAny_updateSeq hS2 rfl (Zy (wpAny_letGo (Zz ?_))))
    exact hR q vb _ tk hq (jn ▸ hB) hPb λb o h1 h2 e=>(Heap.get?_update_other _ _ h2.symm).trans (kp b o h1 e))
 | succ k ih=>
   intro j q s vb c hk hj hst hq hB hPb hS hR
   have jn:j<n:=by omega
   refine codeAny_builtin mmE ?_
   rw [Around.under_plainId mmP _]
   cases m <;> (
    refine Zy (m:=seqItems? (.ref S)) (wpAny_seqItems hS rfl ?_)
    refine Zy (m:=tryCatch (pyNext (.ref I)) _) (wpAny_tryCatch (W.item j s _ _ jn hst λv h' tk hP hst' kp=>?_))
    have hS2:=kp S _ (λz=>hSf (W.sub _ z)) hS
    refine Zy (m:=tryCatch (holding [v,v] (richCompare _ v vb >>= _)) _) (wpAny_tryCatch (wpAny_holding (Zy (hcmp j q v vb _ _ _ hP hPb ?_))))
    refine Zy (wpAny_holding (wpAny_truthy_bool (Zy (wpAny_letGo (Zz ?_)))))
    cases hbt:bt j q with
    | true=>
      simp only [if_true]
      refine Zy (wpAny_updateSeq hS2 rfl (Zy (wpAny_letGo ?_)))
      first | rw [mmX] | rw [mmN]
      refine Zz ⟨plainId_quiet (by decide +kernel) _,ih (j+1) j _ v _ ⋯ ⋯ (W.frame _ _ _ hst' λb hb o e=>(Heap.get?_update_other _ _ (λz:S=b=>hSf (by rw [z];exact hb))).trans e) jn (λi hi=>by rcases Nat.lt_succ_iff_lt_or_eq.mp hi with z | z;exact htr i j q hbt (hB i z);rw [z];exact hirr j) hP (Heap.get?_update_self _ hS2 rfl) λq' v' h2 tk2 hq' hB' hP' kp2=>?_⟩
      exact hR q' v' h2 tk2 hq' hB' hP' λb o h1 h3 e=>kp2 b o h1 h3 ((Heap.get?_update_other _ _ h3.symm).trans (kp b o h1 e))
    | false=>
      simp only [Dt,if_false]
      refine Zy (wpAny_letGo ?_)
      first | rw [mmX] | rw [mmN]
      exact Zz ⟨plainId_quiet (by decide +kernel) _,ih (j+1) q _ vb c ⋯ ⋯ hst' hq (λi hi=>by rcases Nat.lt_succ_iff_lt_or_eq.mp hi with z | z;exact hB i z;rw [z];exact hbt) hPb hS2 λq' v' h2 tk2 hq' hB' hP' kp2=>hR q' v' h2 tk2 hq' hB' hP' λb o h1 h3 e=>kp2 b o h1 h3 (kp b o h1 e)⟩)
theorem Mv (W:Walks prog w A.in1 I fp wr n P St) (bt:Nat->Nat->Bool) (htr:∀ i j q,bt j q=true->bt i q=false->bt i j=false) (hirr:∀ i,bt i i=false) (hcmp:CmpOf prog w A.in1 (cond m .Gt .Lt) P bt) (S:Addr) (hSf:S∉fp) {s:Shared} {c:Nat} (hst:St 0 s.heap)
  (hS:s.heap.get? S=some { cls:=.type "list", dict:=none,data:=.seq #[] c,slots:=#[] })
  (hR:∀ v h' tk,(n=0/\v=d\/∃ q,q<n/\(∀ i,i<n->bt i q=false)/\P q v)->(∀ b o,b∉wr->b≠S->s.heap.get? b=some o->h'.get? b=some o)->R (.ok (.ret v)) { s with heap:=h',toks:=tk }) :
  codeAny (model prog w) A (.builtin (cond m "max.loop" "min.loop") ⟨[.ref I,.none,.ref S],[("default", d)]⟩) R s:=by
 refine codeAny_builtin mmE ?_
 rw [Around.under_plainId mmP _]
 cases m <;> (
  refine Zy (m:=seqItems? (.ref S)) (wpAny_seqItems hS rfl ?_)
  rcases DH n with z | z
  ·refine Zy (m:=tryCatch (pyNext (.ref I)) _) (wpAny_tryCatch (W.done s _ _ (z ▸ hst) λh' tk kp=>?_))
   refine Zy (wpAny_rule (Zz ?_))
   exact hR d h' tk (.inl ⟨z,rfl⟩) λb o h1 _ e=>kp b o h1 e
  ·refine Zy (m:=tryCatch (pyNext (.ref I)) _) (wpAny_tryCatch (W.item 0 s _ _ z hst λv h' tk hP hst' kp=>?_))
   have hS2:=kp S _ (λz=>hSf (W.sub _ z)) hS
   refine Zy (m:=updateSeq S (λ_=>#[v,v])) (wpAny_updateSeq hS2 rfl ?_)
   first | rw [mmX] | rw [mmN]
   refine Zz ⟨plainId_quiet (by decide +kernel) _,VL W bt htr hirr hcmp S hSf _ 1 0 _ v _ rfl z (W.frame _ _ _ hst' λb hb o e=>(Heap.get?_update_other _ _ (λz:S=b=>hSf (by rw [z];exact hb))).trans e) z (λi hi=>by rw [show i=0 by omega];exact hirr 0) hP (Heap.get?_update_self _ hS2 rfl) λq' v' h2 tk2 hq' hB' hP' kp2=>?_⟩
   exact hR v' h2 tk2 (.inr ⟨q',hq',hB',hP'⟩) λb o h1 h3 e=>kp2 b o h1 h3 ((Heap.get?_update_other _ _ h3.symm).trans (kp b o h1 e)))
end
section
variable {X:Cx} {e:Expr} {te:TE} {p pos kp1 kp2:Pos} {kk:Nat}
set_option maxHeartbeats 4000000 in
theorem Mw {m:Bool} {x:Str} {C:List Int->Int->Prop} (hC:∀ ns M,(ns=[]/\M=0\/M∈ns/\∀ z∈ns,cond m (z<=M) (M<=z))->C ns M) (hx:m=true/\x = "max" \/ m=false/\x = "min") (hc:X.calm=true) (hm:X.mg x=none) (hv:bootBuiltins x=some (.builtin (cond m "max" "min"))) (ha:PE X e te) (hg:Gl X x) (hb:backTo pos (starEach [e] X.env)=(false,eval e X.env)::backTo pos (starEach [] X.env)):PE X (.Call (.Name x p) [e] [⟨some "default", .Constant (.int 0) kk kp1,kp2⟩] pos) (tMM C te):=by
 rcases hx with ⟨rfl,rfl⟩ | ⟨rfl,rfl⟩ <;> (
  intro pins s σ H Q I h
  refine wpAny_Call_Name_kw (EE I hg hm hv ?_ ∅ ∅)
  refine PyProof.Rows.callWith_kw ?_ hb (by rw [hb];rfl)
  rw [hb]
  refine Calls.spliced_cons (thn (ha pins s σ H _ I h) λu s1 ⟨x,H1,I1,r1,q1⟩=>Calls.spliced_nil ?_)
  have kw:PK X [⟨some "default", .Constant (.int 0) kk kp1,kp2⟩] (AB (tC (.int 0)) AC):=SW AD SV
  refine thn (kw pos pins s1 σ H1 (λvs H2=>vs=[.int 0]/\H2=H1) I1 ⟨rfl,rfl⟩) λws s2 ⟨zs,H2,I2,rz,ez,eh⟩=>?_
  subst ez eh
  obtain ⟨z,rfl,t,rfl⟩:=Dj rz
  obtain ⟨l,ns,rfl,hl,q⟩:=q1
  cases r1
  obtain ⟨its,rv,pl,hz⟩:=I2.list (SqL.of hl)
  have hle:ns.length=its.length:=by have:=rv.length;simpa using this
  first | refine kmb_tree F.kind_max F.plain_max F.entry_max (U8 _ _) ?_ | refine kmb_tree F.kind_min F.plain_min F.entry_min (U5 _ _) ?_
  refine Zy (m:=Builtin.Builtins.bindParams _ ["key", "default"] 0 ⟨[],[("default", Value.int 0 t)]⟩) (wpAny_of_eq (a:=[none,some (Value.int 0 t)]) rfl ?_)
  refine Zy (Zz (Zy (wpAny_pyIter_list pl.isList ?_)))
  refine Zy (wpAny_newObj_type ?_)
  first | rw [mmX] | rw [mmN]
  have lp:l<s2.heap.objs.size:=pl.lt
  have nS:(s2.heap.push { cls:=.type "list_iterator", data:=.fields #[.ref l,.int 0 0] }).objs.size=s2.heap.objs.size+1:=Heap.size_push ..
  have W:=Walks.list (prog:=X.prog) (w:=X.w) (A:=X.A.in1) (show X.A.in1.handled=none from I2.ok.hd hc) s2.heap.objs.size l (Bo lp) its.toArray
  first | refine Zz ⟨plainId_quiet (by decide +kernel) _,Mv (m:=true) W _ (λi j q h1 h2=>by have h1:=Zw h1;have h2:=of_decide_eq_false h2;exact Zx ⋯) (λi=>Zx (Int.lt_irrefl _)) (CmpOf.ints_gt (λi=>ns.getD i 0) λi v hP=>?_) _ ?_ ⟨⟨_,Heap.get?_push_of_some _ (Heap.get?_push_size _ rfl),rfl,rfl⟩,(pl.isList.push _).push _⟩ (Heap.get?_push_size _ rfl) λv g tk hv2 gk=>?_⟩ | refine Zz ⟨plainId_quiet (by decide +kernel) _,Mv (m:=false) W _ (λi j q h1 h2=>by have h1:=Zw h1;have h2:=of_decide_eq_false h2;exact Zx ⋯) (λi=>Zx (Int.lt_irrefl _)) (CmpOf.ints_lt (λi=>ns.getD i 0) λi v hP=>?_) _ ?_ ⟨⟨_,Heap.get?_push_of_some _ (Heap.get?_push_size _ rfl),rfl,rfl⟩,(pl.isList.push _).push _⟩ (Heap.get?_push_size _ rfl) λv g tk hv2 gk=>?_⟩
  ·obtain ⟨n,t2,h1,rfl⟩:=Gw rv (show its[i]?=some v by simpa using hP)
   exact ⟨t2,by rw [AU,h1];rfl⟩
  ·rw [nS]
   have:¬ (s2.heap.objs.size+1=s2.heap.objs.size\/s2.heap.objs.size+1=l):=λz=>by
    rcases z with z | z
    ·exact absurd z (Nat.succ_ne_self _)
    ·rw [<-z] at lp;exact absurd lp (DI.mpr (Nat.le_succ _))
   simpa using this
  ·have kk2:∀ b o,s2.heap.get? b=some o->g.get? b=some o:=λb o e=>by
    have lb:b<s2.heap.objs.size:=Z2 e
    refine gk b o (λz=>?_) (λz=>?_) (Heap.get?_push_of_some _ (Heap.get?_push_of_some _ e))
    ·rw [Az.mp z] at lb;exact absurd lb (DF _)
    ·rw [z,nS] at lb;exact absurd lb (DI.mpr (Nat.le_succ _))
   have I3:=I2.kept (t':=tk) kk2
   rcases hv2 with ⟨z,rfl⟩ | ⟨i,hi,hB,hP⟩
   ·exact ⟨.int 0,_,I3,⟨t,rfl⟩,q 0 (hC _ _ (.inl ⟨CU.mp (by rw [BF] at z;omega),rfl⟩))⟩
   ·obtain ⟨n,t2,h1,rfl⟩:=Gw rv (show its[i]?=some v by simpa using hP)
    refine ⟨.int n,_,I3,⟨t2,rfl⟩,q n (hC _ _ (.inr ⟨Bu h1,λz hz=>?_⟩))⟩
    obtain ⟨j,hj,rfl⟩:=FJ hz
    have:=of_decide_eq_false (hB j (by rw [BF];omega))
    rw [AU,AU,h1,Am hj] at this
    exact Int.not_lt.mp this)
theorem VM (hc:X.calm=true) (hm:X.mg "max" = none) (hv:bootBuiltins "max" = some (.builtin "max")) (ha:PE X e te) (hg:Gl X "max" := by rfl) (hb:backTo pos (starEach [e] X.env)=(false,eval e X.env)::backTo pos (starEach [] X.env):=by rfl):PE X (.Call (.Name "max" p) [e] [⟨some "default", .Constant (.int 0) kk kp1,kp2⟩] pos) (Mg te):=Mw (m:=true) (λ_ _ h=>h) (.inl ⟨rfl,rfl⟩) hc hm hv ha hg hb
theorem VN (hc:X.calm=true) (hm:X.mg "min" = none) (hv:bootBuiltins "min" = some (.builtin "min")) (ha:PE X e te) (hg:Gl X "min" := by rfl) (hb:backTo pos (starEach [e] X.env)=(false,eval e X.env)::backTo pos (starEach [] X.env):=by rfl):PE X (.Call (.Name "min" p) [e] [⟨some "default", .Constant (.int 0) kk kp1,kp2⟩] pos) (Ji te):=Mw (m:=false) (C:=λns M=>ns=[]/\M=0\/M∈ns) (λ_ _ h=>h.imp id And.left) (.inr ⟨rfl,rfl⟩) hc hm hv ha hg hb
end
section
variable {X:Cx} {pins:List (Addr×Obj)} {σ:L2.St} {H:Hp} {s:Shared} {N:List Str} {capt:List (Option Nat)} {scope:Scope} {cl:List (Str×Addr)} {C:Addr} {fp:List Addr}
noncomputable def Gx:TT:=λ_ H Q=>Q true H
noncomputable def PTs (X:Cx) (cs:List Expr) (tc:TT):Prop:=∀ (pins:List (Addr×Obj)) (s:Shared) (σ:L2.St) (H:Hp) (Q:Bool->Hp->Prop),Inv X pins σ H s->tc σ H Q->
 wpAny (model X.prog X.w) X.A (forIn cs true λc r=>if r=true then do let ok <-isTrue c X.env (eval c X.env);pure (ForInStep.yield ok) else pure (ForInStep.yield r)) (λb s'=>∃ H',Inv X pins σ H' s'/\Q b H') X.xe s
theorem Mx {X:Cx}:PTs X [] Gx:=λ_ s _ H _ I h=>wpAny_tests_nil ⟨H,I,h⟩
theorem VO {X:Cx} {c:Expr} {tc:TT} (h:L2.PT X c tc):PTs X [c] tc:=λpins s σ H Q I q=>wpAny_tests_one (h pins s σ H Q I q)
theorem VP {prog:Program} {w:World} {A:Around} {R:Result->Shared->Prop} {s:Shared} {elt target iter:Expr} {cs:List Expr} {scope:Scope} {pos:Pos} {it acc:Value} {env:Env} (I:Nat->Shared->Prop)
  (turn:∀ n s,I n s->wpAny (model prog w) A (pyNext it) (λr s₁=>match r with
   | none=>R (.ok .next) s₁
   | some v=>wpAny (model prog w) A (letOwnedTupleGo target it v) (λ_ s₂=>wpAny (model prog w) A (assign target env v) (λ_ s₃=>wpAny (model prog w) A (forIn cs true λc r=>if r=true then do let ok <-isTrue c env (eval c env);pure (ForInStep.yield ok) else pure (ForInStep.yield r)) (λokb s₆=>if okb=true then wpAny (model prog w) A (eval elt env) (λx s₄=>
     wpAny (model prog w) A (call (.builtin "list.append") [acc,x]) (λ_ s₅=>∃ m,m<n/\I m s₅) (λ_ _=>False) s₄) (λ_ _=>False) s₆ else ∃ m,m<n/\I m s₆) (λ_ _=>False) s₃) (λ_ _=>False) s₂) (λ_ _=>False) s₁) (λ_ _=>False) s)
  (n:Nat) (h:I n s):codeAny (model prog w) A (.compLoop (.ListComp elt [⟨target,iter,cs,0⟩] scope pos) 0 it acc env) R s:=by
 refine codeAny_loop rfl I (λn s hI=>?_) n h
 show wpAny _ A ((compTurn (.ListComp elt [⟨target,iter,cs,0⟩] scope pos) 0 it acc env).onRaise (λx=>do noteFrame x env;theTreesLotGoes x)) _ _ s
 refine wpAny_noted ?_
 rw [compTurn_list]
 have no:∀ {E':Value->Shared->Prop} (e:Value) (s':Shared),(λ(_:Value) (_:Shared)=>False) e s'->E' e s':=λ_ _ f=>f.elim
 refine Zy (wpAny_standAt (Zy (Z0 (turn n s hI) (λr s₁ h₁=>?_) no)))
 cases r with
 | none=>exact Zz h₁
 | some v=>
   refine Zy (Z0 h₁ (λ_ s₂ h₂=>?_) no)
   refine Zy (Z0 h₂ (λ_ s₆ h₆=>Zy (Z0 h₆ (λokb s₃ h₃=>?_) no)) no)
   cases okb with
   | false=>exact Zz ⟨rfl,h₃⟩
   | true=>exact Zy (Zy (Z0 h₃ (λx s₄ h₄=>Zy (Z0 h₄ (λ_ s₅ h₅=>Zz (Zz ⟨rfl,h₅⟩)) no)) no))
theorem Jo {elt iter tg:Expr} {cs:List Expr} {tc:TT} {pos:Pos} {wi:TI} {g:TG} {te:TE} {pins:List (Addr×Obj)} {s:Shared} {σ:L2.St} {H:Hp} {Q:VK} (RR:Value->Addr->Result->Shared->Prop) (hc:X.calm=true) (B:BlkOk X N capt scope cl) (hi:PI X tg iter wi)
  (hg:∀ C s H fp,PG (blk X N scope cl C s H fp) tg g) (ht:∀ C s H fp,PTs (blk X N scope cl C s H fp) cs tc) (he:∀ C s H fp,PE (blk X N scope cl C s H fp) elt te) (I:Inv X pins σ H s) (h:E8 wi capt g tc te σ H Q)
  (fin:∀ (D C:Addr) (s4:Shared) (Hq:Hp) (m:Str->Option Value),Inv X pins σ Hq s4->Q (.ref D) Hq->s4.heap.Ns C m->Hq C=none->C≠X.env.locals->X.s₀.heap.objs.size<=C->(∀ x c,X.env.cells.lookup x=some c->c≠C)->(∀ p∈X.pn++pins,p.1≠C)->RR (.ref D) C (.ok .next) s4) :
  wpAny (model X.prog X.w) X.A (eval iter X.env) (λx s₁=>wpAny (model X.prog X.w) X.A (pyIter x) (λit s₂=>wpAny (model X.prog X.w) X.A (newList []) (λacc s₃=>
   wpAny (model X.prog X.w) X.A (newFunctionEnv scope X.env.globals cl [] X.env.qual none .none (some X.env)) (λcenv s₄=>
    codeAny (model X.prog X.w) X.A (.compStart (.ListComp elt [⟨tg,iter,cs,0⟩] scope pos) 0 it acc { cenv with scope:=relabel scope X.env }) (RR acc cenv.locals) s₄) X.xe s₃) X.xe s₂) X.xe s₁) X.xe s:=by
 refine thn (hi pins s σ H _ I h) λv s1 h1=>thn h1 λitv s2 h2=>?_
 obtain ⟨it,fp,tn,J,H2,e,I2,T,st2,f2,n0,W,w0,turn⟩:=h2
 subst e
 have fl:∀ b∈fp,b<s2.heap.objs.size:=λb hb=>by obtain ⟨o,e,_⟩:=T.obj _ _ st2 b hb;exact Z2 e
 refine wpAny_newObj_type (wpAny_newFunctionEnv B.nocell (by intro y hy;simp at hy) (λh₁ hns₁ hsb₁=>?_) B.kind)
 dsimp only at hns₁ hsb₁ ⊢
 generalize hG:s2.heap.push { cls:=.type "list", dict:=none,data:=.seq ([]:List Value).toArray }=G at hns₁ hsb₁ ⊢
 have hC:G.objs.size=s2.heap.objs.size+1:=by rw [<-hG,Heap.size_push]
 have hCle:s2.heap.objs.size<=G.objs.size:=by rw [hC];exact Nat.le_succ _
 have hDC:s2.heap.objs.size≠G.objs.size:=by rw [hC];exact Bo (EU _)
 have old:∀ b o,s2.heap.get? b=some o->h₁.get? b=some o:=λb o e=>hsb₁.extBut b o (by rw [hC];exact Bo (Nat.lt_succ_of_lt (Z2 e))) (Heap.get?_push_of_some _ (hG ▸ Heap.get?_push_of_some _ e))
 have hacc:h₁.get? s2.heap.objs.size=some { cls:=.type "list", data:=.seq ([]:List Value).toArray }:=hsb₁.extBut _ _ hDC (Heap.get?_push_of_some _ (hG ▸ Heap.get?_push_size _ rfl))
 have ok':=MX B I2 f2 fl hCle
 have nsD:s2.heap.objs.size∉frs X.stack:=λhb=>by
  rcases Bb.mp (I2.stkSub _ hb) with z | z
  ·exact absurd I2.lt (by rw [<-z];exact DF _)
  ·exact I2.nofs (AS _) z
 have ncD:∀ x c,cl.lookup x=some c->c≠s2.heap.objs.size:=λx c e z=>by
  obtain ⟨v,q⟩:=I2.cell x c (B.cells x c e)
  exact absurd q.lt (by rw [z];exact DF _)
 have nfD:∀ b∈fp,s2.heap.objs.size≠b:=λb hb z=>absurd (fl b hb) (by rw [<-z];exact DF _)
 have I₁:Inv (blk X N scope cl G.objs.size s2 H2 fp) [] (Ck capt σ) H2 { s2 with heap:=h₁,toks:=s2.toks+([]:List (Str×Value)).length }:=Ud B I2 f2 fl hCle hns₁ old
 have loop:codeAny (model X.prog X.w) X.A (.compLoop (.ListComp elt [⟨tg,iter,cs,0⟩] scope pos) 0 (.ref it) (.ref s2.heap.objs.size) (compEnvC scope cl G.objs.size X.env))
   (RR (.ref s2.heap.objs.size) G.objs.size) { s2 with heap:=h₁,toks:=s2.toks+([]:List (Str×Value)).length }:=by
  refine VP (λn s'=>∃ (i:Nat) (ys:List V) (its:List Value) (k:Nat) (Hc:Hp),Inv (blk X N scope cl G.objs.size s2 H2 fp) [] (Ck capt σ) Hc s'/\s'.heap.get? s2.heap.objs.size=some { cls:=.type "list", data:=.seq its.toArray k }/\Vals ys its/\
   Hc s2.heap.objs.size=none/\tn i s'.heap/\(∀ b∈fp,Hc b=none)/\W i ys Hc/\n=n0 - i) ?_ n0 ⟨0,[],[],0,H2,I₁,hacc,.nil,I2.hok.fresh (AS _),T.keep _ _ _ st2 (λb _ o e=>old b o e),λb hb=>(f2 b hb).1,w0,rfl⟩
  rintro n s3 ⟨i,ys,its,k,Hc,I3,hD,hv,nD,st3,fr3,w3,en⟩
  obtain ⟨_,hl,step⟩:=turn i ys Hc w3
  have hz:its.toArray.size<=sizeLine:=by rw [BF,<-hv.length];exact hl
  have I3p:Inv (blk X N scope cl G.objs.size s2 H2 fp) [(s2.heap.objs.size,{ cls:=.type "list", data:=.seq its.toArray k })] (Ck capt σ) Hc s3:=I3.pins_of λp hp=>by
   rw [Az] at hp
   subst hp
   exact ⟨hD,nD,hDC,nsD,λv z=>nomatch z⟩
  have fo3:∀ {Hx:Hp} (_:∀ b∈fp,Hx b=none),∀ b∈fp,DM (blk X N scope cl G.objs.size s2 H2 fp) [(s2.heap.objs.size,{ cls:=.type "list", data:=.seq its.toArray k })] Hx b:=λhx b hb=>
   ⟨hx b hb,(ok'.exf b hb).1,ok'.exfs b hb,.inl hb,(ok'.exf b hb).2,λp hp=>by
    have hp':p∈[((s2.heap.objs.size,{ cls:=.type "list", data:=.seq its.toArray k }):Addr×Obj)]:=hp
    rw [Az] at hp'
    subst hp'
    exact nfD b hb⟩
  rcases step with ⟨stop,q⟩ | ⟨ltn,go,nxt⟩
  ·refine thn (T.done (blk X N scope cl G.objs.size s2 H2 fp) rfl rfl rfl hc i _ s3 _ Hc _ I3p (fo3 fr3) st3 stop) λr s4 ⟨hr,I4⟩=>?_
   subst hr
   have hD4:=(I4.pin (s2.heap.objs.size,{ cls:=.type "list", data:=.seq its.toArray k }) (Cb _ (Az.mpr rfl))).1
   obtain ⟨m,hn,_⟩:=I4.loc
   have nDt:∀ b u,Hc b=some u->b≠s2.heap.objs.size:=λb u e z=>by rw [z,nD] at e;cases e
   have oldC:∀ b o,s2.heap.get? b=some o->b≠s2.heap.objs.size:=λb o e=>Bo (Z2 e)
   have ub:Un (frs X.stack) fp H2 Hc s2.heap s4.heap:=I4.base
   have cC:∀ b,b<s2.heap.objs.size->b≠G.objs.size:=λb hb z=>absurd (CO hb hCle) (by rw [z];exact DF _)
   refine fin _ G.objs.size s4 (upd Hc s2.heap.objs.size (.lst ys)) m ?_ (q _ nD) hn (by rw [Ag (λz=>hDC z.symm)];exact I4.free) (λz=>cC _ I2.lt z.symm) (Be I2.sz hCle)
    (λx c e=>by obtain ⟨v,q⟩:=I2.cell x c e;exact cC _ q.lt) λp hp=>cC _ (Z2 (I2.pin p hp).1)
   refine I2.call' (ch:=fp) (s':=s4) I4.os ?_ ?_ I4.bare λb hb=>⟨(f2 b hb).2.2.2.1,(f2 b hb).2.1,(f2 b hb).2.2.2.2.1,(f2 b hb).2.2.2.2.2⟩
   ·refine ⟨ub.keep,ub.slot,λb o e n hx=>?_,ub.there,λb xs e=>?_,λb o u e=>?_,λb ps e=>?_⟩
    ·rw [Ag (oldC b o e)];exact ub.free b o e n hx
    ·have z:=ub.tups b xs e
     rw [Ag (nDt b _ z)];exact z
    ·have z:=ub.frzs b o u e
     rw [Ag (nDt b _ z)];exact z
    ·obtain ⟨more,z⟩:=ub.tbls b ps e
     exact ⟨more,by rw [Ag (nDt b _ z)];exact z⟩
   ·intro b u e
    by_cases hb:b=s2.heap.objs.size
    ·subst hb
     rw [upd_same] at e
     cases e
     exact ⟨hl,its,k,hv,hD4⟩
    ·rw [Ag hb] at e
     exact (I4.hok b u e).stay (λc v _ q=>q) (λc q=>by rw [Ag (nDt c _ q)];exact q) λc xs q=>by rw [Ag (nDt c _ q)];exact q
  ·refine thn (T.item (blk X N scope cl G.objs.size s2 H2 fp) rfl rfl rfl hc i _ s3 _ Hc _ I3p (fo3 fr3) st3 go) λr s4 ⟨u,hr,h4⟩=>?_
   subst hr
   refine thn h4 λ_ s5 ⟨x,H5,I5,r5,y5,st5,fr5⟩=>?_
   have I5':=I5.pinned (fo3 fr5) (T.obj _ _ st5)
   refine thn (hg _ _ _ _ _ s5 _ H5 x u _ I5' r5 (nxt x H5 y5)) λ_ s6 ⟨σ6,H6,I6,q6⟩=>?_
   refine thn (ht _ _ _ _ _ s6 σ6 H6 _ I6 q6) λokb s9 ⟨H9,I9,q9⟩=>?_
   have pF9:∀ b∈fp,∀ o,s5.heap.get? b=some o->s9.heap.get? b=some o/\H9 b=none:=λb hb o e=>by
    have z:=I9.pin (b,o) (Cb _ (Cb _ (Hh hb e)))
    exact ⟨z.1,z.2.1⟩
   cases okb with
   | false=>
     have w9:W (i+1) ys H9:=q9
     have pD9:=I9.pin (s2.heap.objs.size,{ cls:=.type "list", data:=.seq its.toArray k }) (Cb _ (ES _ (Az.mpr rfl)))
     have I9n:Inv (blk X N scope cl G.objs.size s2 H2 fp) [] σ6 H9 s9:=I9.pins_of λp hp=>nomatch hp
     exact ⟨n0 - (i+1),⋯,i+1,ys,its,k,H9,MY B I2 f2 I9n,pD9.1,hv,pD9.2.1,T.keep _ _ _ st5 (λb hb o e=>(pF9 b hb o e).1),(λb hb=>by
      obtain ⟨o,e,_⟩:=T.obj _ _ st5 b hb
      exact (pF9 b hb o e).2),w9,rfl⟩
   | true=>
   replace q9:te σ6 H9 λy H4=>W (i+1) (ys++[y]) H4:=q9
   refine thn (he _ _ _ _ _ s9 σ6 H9 _ I9 q9) λuy s7 ⟨y,H7,I7,r7,w7⟩=>?_
   have pD:=I7.pin (s2.heap.objs.size,{ cls:=.type "list", data:=.seq its.toArray k }) (Cb _ (ES _ (Az.mpr rfl)))
   have pF:∀ b∈fp,∀ o,s5.heap.get? b=some o->s7.heap.get? b=some o/\H7 b=none:=λb hb o e=>by
    have z:=I7.pin (b,o) (Cb _ (Cb _ (Hh hb e)))
    exact ⟨z.1,z.2.1⟩
   refine append_at (hsz:=hz) pD.1 λh8 sb8 hD8=>?_
   have I7n:Inv (blk X N scope cl G.objs.size s2 H2 fp) [] σ6 H7 s7:=I7.pins_of λp hp=>nomatch hp
   have I8:Inv (blk X N scope cl G.objs.size s2 H2 fp) [] σ6 H7 { s7 with heap:=h8,toks:=s7.toks }:=I7n.turned (λb o hb e=>sb8.extBut b o hb e) pD.2.1 hDC (.inr (AS _)) ncD (λp hp=>nomatch hp)
   refine ⟨n0 - (i+1),⋯,i+1,ys++[y],its++[uy],k+1,H7,MY B I2 f2 I8,?_,Paired.snoc hv r7,pD.2.1,T.keep _ _ _ st5 (λb hb o e=>sb8.extBut b o (nfD b hb).symm (pF b hb o e).1),λb hb=>?_,w7,rfl⟩
   ·show h8.get? _=_
    rw [hD8,List.push_toArray]
   ·obtain ⟨o,e,_⟩:=T.obj _ _ st5 b hb
    exact (pF b hb o e).2
 exact codeAny_compStart_list loop (T.self X.A 0 _ _ _ (T.keep _ _ _ st2 (λb _ o e=>old b o e)) loop)
theorem D4 {elt iter tg:Expr} {pos:Pos} {wi:TI} {g:TG} {te:TE} (hc:X.calm=true) (B:BlkOk X N capt scope cl) (hi:PI X tg iter wi)
  (hg:∀ C s H fp,PG (blk X N scope cl C s H fp) tg g) (he:∀ C s H fp,PE (blk X N scope cl C s H fp) elt te)
  (hs:∀ x,foldedSetIterable iter X.env x=pure x:=by intro _;rfl):PE X (.ListComp elt [⟨tg,iter,[],0⟩] scope pos) (CF wi capt g te):=by
 intro pins s σ H Q I h
 rw [eval_ListComp]
 refine wpAny_comprehension_free (use:=none) rfl hs B.clos B.kind B.names (Jo (cs:=[]) (tc:=Gx) (λacc C=>compPost (model X.prog X.w) X.A X.xe none (EP X pins σ Q) acc C) hc B hi hg (λ_ _ _ _=>Mx) he I (show E8 wi capt g Gx te σ H _ from h) λD C s4 Hq m I4 q hn hf h1 h2 h3 h4=>?_)
 exact ⟨m,hn,λh' sb=>⟨.ref D,Hq,I4.turned (λb o hb e=>sb.extBut b o hb e) hf h1 (.inr h2) h3 h4,rfl,q⟩⟩
theorem My {i:Nat} {x:Str} {pos' spos:Pos} {elt iter tg:Expr} {pos:Pos} {wi:TI} {g:TG} {te:TE} (hN:X.N.Nodup) (hi':X.N[i]?=some x) (hx:Loc X.env.scope x) (hc:X.calm=true) (B:BlkOk X N capt scope cl) (hi:PI X tg iter wi)
  (hg:∀ C s H fp,PG (blk X N scope cl C s H fp) tg g) (he:∀ C s H fp,PE (blk X N scope cl C s H fp) elt te)
  (hsw:swapsWith (.ListComp elt [⟨tg,iter,[],0⟩] scope pos) (some (.Name x pos')) spos.line X.env=pure true:=by rfl)
  (hs:∀ x,foldedSetIterable iter X.env x=pure x:=by intro _;rfl) (hf:X.fn x=true\/X.env.scope.names.lookup x=some .local:=by first | exact .inl rfl | exact .inr rfl | assumption) :
  PS X (.Assign [.Name x pos'] (.ListComp elt [⟨tg,iter,[],0⟩] scope pos) spos) (AJ (CF wi capt g te) (AF i)):=by
 intro pins s σ H D I h
 rw [exec_Assign_Name_used _ _ _ _ hsw]
 refine Zy (wpAny_standAt (Zy ?_))
 show wpAny _ X.A (do let _ <-comprehension (.ListComp elt [⟨tg,iter,[],0⟩] scope pos) scope X.env _ (newList []) false (eval iter X.env) (some (assign (.Name x pos') X.env))) _ _ s
 refine Zy (Z0 (wpAny_comprehension_free (use:=some (assign (.Name x pos') X.env)) (Q:=λ_ s'=>SP X pins D .next s') rfl hs B.clos B.kind B.names
  (Jo (cs:=[]) (tc:=Gx) (λacc C=>compPost (model X.prog X.w) X.A X.xe (some (assign (.Name x pos') X.env)) (λ_ s'=>SP X pins D .next s') acc C) hc B hi hg (λ_ _ _ _=>Mx) he I (show E8 wi capt g Gx te σ H (λx H1=>AF i x σ H1 D.nx) from h) λDa C s4 Hq m I4 q hn hfr h1 h2 h3 h4=>?_)) (λ_ s' hq=>Zz (Zz hq)) λ_ _ e=>e)
 show wpAny _ X.A (assign (.Name x pos') X.env (.ref Da)) _ _ _
 refine wpAny_assign_Name (Lk I4 hN hi' hx (v:=.ref Da) rfl (λs5 I5 ⟨a,sb5,ha⟩=>⟨m,hn.sameBut sb5 ?_,λh' sb=>⟨_,_,I5.turned (λb o hb e=>sb.extBut b o hb e) hfr h1 (.inr h2) h3 h4,q⟩⟩) hf)
 rcases ha with z | z
 ·rw [z];exact h1
 ·exact λe=>h3 x a z e.symm
theorem Mz {elt iter tg c:Expr} {tc:TT} {pos:Pos} {wi:TI} {g:TG} {te:TE} (hc:X.calm=true) (B:BlkOk X N capt scope cl) (hi:PI X tg iter wi)
  (hg:∀ C s H fp,PG (blk X N scope cl C s H fp) tg g) (ht:∀ C s H fp,L2.PT (blk X N scope cl C s H fp) c tc) (he:∀ C s H fp,PE (blk X N scope cl C s H fp) elt te)
  (hs:∀ x,foldedSetIterable iter X.env x=pure x:=by intro _;rfl):PE X (.ListComp elt [⟨tg,iter,[c],0⟩] scope pos) (E8 wi capt g tc te):=by
 intro pins s σ H Q I h
 rw [eval_ListComp]
 refine wpAny_comprehension_free (use:=none) rfl hs B.clos B.kind B.names (Jo (λacc C=>compPost (model X.prog X.w) X.A X.xe none (EP X pins σ Q) acc C) hc B hi hg (λC s H fp=>VO (ht C s H fp)) he I h λD C s4 Hq m I4 q hn hf h1 h2 h3 h4=>?_)
 exact ⟨m,hn,λh' sb=>⟨.ref D,Hq,I4.turned (λb o hb e=>sb.extBut b o hb e) hf h1 (.inr h2) h3 h4,rfl,q⟩⟩
end
section
variable {X:Cx}
theorem xI {r:R2} {a:Expr} {ta:TE} {n:Int} {j} {q pos:Pos} (hr:IxR X r) (ha:PE X a ta):PE X (.Subscript a (.Constant (.int n) j q) pos) (tOp r ta (tC (.int n))):=B8 hr ha AD (λ_ _=>rfl)
theorem asS {i:Nat} {x:Str} {e:Expr} {te:TE} {pos' pos:Pos} (hN:X.N.Nodup) (he:PE X e te) (hi:X.N[i]?=some x:=by rfl) (hx:Loc X.env.scope x:=by exact .inl rfl) (hs:swapsWith e (some (.Name x pos')) pos.line X.env=pure false:=by rfl) (hf:X.fn x=true\/X.env.scope.names.lookup x=some .local:=by first | exact .inl rfl | exact .inr rfl):PS X (.Assign [.Name x pos'] e pos) (AJ te (AF i)):=Dy hN hi hx he hs hf
theorem cR {op:CmpOp} {r:R2} {a b:Expr} {ta tb:TE} {pos:Pos} (ho:OpR X (compareOp op) r) (ha:PE X a ta) (hb:PE X b tb) (hm:behindInMarks op b=false:=by exact nomark _):L2.PT X (.Compare a [op] [b] pos) (Ab (tOp r ta tb)):=SK ho ha hb hm
variable {n m:Nat} {x:Str} {ps:List Str} {sp:Sp} {a b c:Expr} {ta tb tc:TE} {p pos:Pos} (C:Cal X.prog X.w X.K X.mg X.base n x ps sp) (hr:Room m X.A)
include C hr
theorem Cal.q1 (ha:PE X a ta) (hn:n<=m:=by decide) (hg:Gl X x:=by rfl) (hd:(x == ("__debug__" : Str))=false:=by decide) (he:starEach [a] X.env=(false,eval a X.env)::starEach [] X.env:=by rfl):PE X (.Call (.Name x p) [a] [] pos) (AN sp [] E0 (AB ta AC)):=C.pe hr hn hg (AE ha AK he) hd he rfl
theorem Cal.q2 (ha:PE X a ta) (hb:PE X b tb) (hn:n<=m:=by decide) (hg:Gl X x:=by rfl) (hd:(x == ("__debug__" : Str))=false:=by decide) (he:starEach [a,b] X.env=(false,eval a X.env)::starEach [b] X.env:=by rfl) (h2:starEach [b] X.env=(false,eval b X.env)::starEach [] X.env:=by rfl) (hp:(backTo pos (starEach [b] X.env)).any (·.1)=false:=by rfl):PE X (.Call (.Name x p) [a,b] [] pos) (AN sp [] E0 (AB ta (AB tb AC))):=C.pe hr hn hg (AE ha (AE hb AK h2) he) hd he hp
theorem Cal.q3 (ha:PE X a ta) (hb:PE X b tb) (hc:PE X c tc) (hn:n<=m:=by decide) (hg:Gl X x:=by rfl) (hd:(x == ("__debug__" : Str))=false:=by decide) (he:starEach [a,b,c] X.env=(false,eval a X.env)::starEach [b,c] X.env:=by rfl) (h2:starEach [b,c] X.env=(false,eval b X.env)::starEach [c] X.env:=by rfl) (h3:starEach [c] X.env=(false,eval c X.env)::starEach [] X.env:=by rfl) (hp:(backTo pos (starEach [b,c] X.env)).any (·.1)=false:=by rfl):PE X (.Call (.Name x p) [a,b,c] [] pos) (AN sp [] E0 (AB ta (AB tb (AB tc AC)))):=C.pe hr hn hg (AE ha (AE hb (AE hc AK h3) h2) he) hd he hp
end
end Bs
namespace Bs
theorem Bd.one:Bd 1 1:=by unfold Bd;decide
theorem Bd.pow {b:Nat} {x:Int} (h:Bd b x) (k:Nat):Bd (b*k+1) (x ^ k):=by
 induction k with
 | zero=>rw [Int.pow_zero,Nat.mul_zero];exact Bd.one
 | succ k ih=>
   have e:b*(k+1)+1=(b*k+1)+b:=by rw [Nat.mul_add,Nat.mul_one];omega
   rw [Int.pow_succ,e]
   exact ih.mul h
end Bs
namespace Bs
noncomputable abbrev Nu:=Int×Int
noncomputable def red (n m:Int):Nu:=(n / ((Int.gcd n m:Nat):Int),m / ((Int.gcd n m:Nat):Int))
noncomputable def Wo (q:Nu) (n m:Int):Prop:=q.1*m=n*q.2
theorem Gy {n m:Int} (hm:0<m):Low (red n m).1 (red n m).2:=(JY (a:=n) hm).1
theorem Jp {n m:Int} (hm:0<m):Wo (red n m) n m:=by
 have h:=(Hm (a:=n) (b:=m) (s:=((Int.gcd n m:Nat):Int)) ⋯ (by rw [Zt ⋯])).2.2.2.1
 rw [Er _ ⋯,Er _ ⋯] at h
 exact h
theorem Jq {a b d:Int} (h:Low a b) (hd:b∣a*d):b∣d:=by
 have c:Nat.Coprime b.natAbs a.natAbs:=by
  have:Nat.Coprime a.natAbs b.natAbs:=h.one
  exact this.symm
 have z:=Cd.mpr hd
 rw [BI] at z
 exact Cd.mp (c.dvd_of_dvd_mul_left z)
theorem Jr {a b c d:Int} (h1:Low a b) (h2:Low c d) (h:a*d=c*b):a=c/\b=d:=by
 have d1:b∣d:=Jq h1 ⟨c,by rw [h,Int.mul_comm]⟩
 have d2:d∣b:=Jq h2 ⟨a,by rw [<-h,Int.mul_comm]⟩
 have e:b=d:=Int.dvd_antisymm (Int.le_of_lt h1.pos) (Int.le_of_lt h2.pos) d1 d2
 subst e
 exact ⟨Int.eq_of_mul_eq_mul_right (Ah h1.pos) h,rfl⟩
theorem VQ {q r:Nu} {n m:Int} (h1:Low q.1 q.2) (h2:Low r.1 r.2) (hm:m≠0) (w1:Wo q n m) (w2:Wo r n m):q=r:=by
 unfold Wo at w1 w2
 have e:q.1*r.2=r.1*q.2:=by
  have z:m*(q.1*r.2)=m*(r.1*q.2):=by ext
  exact Int.eq_of_mul_eq_mul_left hm z
 obtain ⟨a,b⟩:=Jr h1 h2 e
 exact Prod.ext a b
theorem VR {q:Nu} {n m:Int} (h1:Low q.1 q.2) (hm:0<m) (w:Wo q n m):q.1.natAbs<=n.natAbs/\q.2.natAbs<=m.natAbs:=by
 have e:q=red n m:=VQ h1 (Gy hm) (Ah hm) w (Jp hm)
 subst e
 exact ⟨(JY (a:=n) hm).2.1,(JY (a:=n) hm).2.2.1⟩
noncomputable def Nz (l:List Nu):Prop:=∀ q,l.getLast?=some q->q.1≠0
noncomputable def DN (l:List Nu):Prop:=∀ q∈l,Low q.1 q.2
noncomputable def VS (n:Nat) (l:List Nu):Prop:=∀ q∈l,Bd n q.1/\Bd n q.2
noncomputable def DW (l:List Nu) (i:Nat):Nu:=l.getD i (0,1)
theorem M3:Low 0 1:=⟨∅,∅⟩
theorem VT {l:List Nu} (h:DN l) (i:Nat):Low (DW l i).1 (DW l i).2:=by
 unfold DW
 rw [AU]
 cases e:l[i]? with
 | none=>exact M3
 | some q=>exact h q (Bu e)
end Bs
namespace Bs
noncomputable def Bh (l:List Nu):Int:=l.foldl (λB q=>B*(q.2 / ((Int.gcd B q.2:Nat):Int))) 1
noncomputable def BZ (l:List Nu):List Int:=l.map λq=>q.1*(Bh l / q.2)
theorem Js {B d:Int} (hB:0<B) (hd:0<d):0<B*(d / ((Int.gcd B d:Nat):Int))/\B∣B*(d / ((Int.gcd B d:Nat):Int))/\d∣B*(d / ((Int.gcd B d:Nat):Int))/\(d / ((Int.gcd B d:Nat):Int)).natAbs<=d.natAbs/\0<((Int.gcd B d:Nat):Int)/\((Int.gcd B d:Nat):Int)<=d:=by
 have g0:0<Int.gcd B d:=Int.gcd_pos_of_ne_zero_right B ⋯
 obtain ⟨k,hk⟩:((Int.gcd B d:Nat):Int)∣d:=ET B d
 obtain ⟨m,hm⟩:((Int.gcd B d:Nat):Int)∣B:=Ep B d
 have gp:(0:Int)<((Int.gcd B d:Nat):Int):=by omega
 have e:d / ((Int.gcd B d:Nat):Int)=k:=by
  have z:d / ((Int.gcd B d:Nat):Int)=(((Int.gcd B d:Nat):Int)*k) / ((Int.gcd B d:Nat):Int):=by rw [<-hk]
  rw [z,Fo _ (Ah gp)]
 have kp:0<k:=by
  rcases Int.lt_or_le 0 k with h | h
  ·exact h
  ·exfalso
   have:=Int.mul_nonneg (Int.le_of_lt gp) (show 0<=-k by omega)
   rw [Int.mul_neg] at this
   omega
 have le:((Int.gcd B d:Nat):Int)<=d:=Int.le_of_dvd hd (ET B d)
 refine ⟨by rw [e];exact Int.mul_pos hB kp,Int.dvd_mul_right ..,?_,?_,gp,le⟩
 ·rw [e]
  refine ⟨m,?_⟩
  have z:d*m=((Int.gcd B d:Nat):Int)*k*m:=by rw [<-hk]
  have z2:B*k=((Int.gcd B d:Nat):Int)*m*k:=by rw [<-hm]
  rw [z,z2];ext
 ·rw [e]
  have z:d.natAbs=(Int.gcd B d)*k.natAbs:=by
   have:d.natAbs=(((Int.gcd B d:Nat):Int)*k).natAbs:=by rw [<-hk]
   rw [this,BI];simp
  rw [z]
  exact Fm _ g0
theorem M4 {b:Nat}:∀ (l:List Nu) (B:Int) (c:Nat),(∀ q∈l,0<q.2/\Bd b q.2)->0<B->Bd c B->
  0<l.foldl (λB q=>B*(q.2 / ((Int.gcd B q.2:Nat):Int))) B/\B∣l.foldl (λB q=>B*(q.2 / ((Int.gcd B q.2:Nat):Int))) B/\(∀ q∈l,q.2∣l.foldl (λB q=>B*(q.2 / ((Int.gcd B q.2:Nat):Int))) B)/\Bd (c+b*l.length) (l.foldl (λB q=>B*(q.2 / ((Int.gcd B q.2:Nat):Int))) B)
 | [],B,c,_,hB,bB=>⟨hB,Int.dvd_refl B,(λ_ h=>nomatch h),by simpa using bB⟩
 | q::l,B,c,h,hB,bB=>by
   obtain ⟨q0,qb⟩:=h q (BC ..)
   obtain ⟨s1,s2,s3,s4,_,_⟩:=Js hB q0
   obtain ⟨r1,r2,r3,r4⟩:=M4 l (B*(q.2 / ((Int.gcd B q.2:Nat):Int))) (c+b) (λr hr=>h r (BN _ hr)) s1 (bB.mul (qb.le s4))
   rw [List.foldl_cons]
   refine ⟨r1,Cq s2 r2,λr hr=>?_,r4.mono (by rw [Cr,Nat.mul_add,Nat.mul_one];omega)⟩
   rcases Bb.mp hr with rfl | hr
   ·exact Cq s3 r2
   ·exact r3 r hr
theorem VU {b:Nat} {l:List Nu} (h1:DN l) (h2:VS b l):0<Bh l/\(∀ q∈l,q.2∣Bh l)/\Bd (1+b*l.length) (Bh l):=by
 obtain ⟨r1,_,r3,r4⟩:=M4 (b:=b) l 1 1 (λq hq=>⟨(h1 q hq).pos,(h2 q hq).2⟩) ∅ Bd.one
 exact ⟨r1,r3,r4⟩
theorem VV {B d:Int} (hB:0<B) (hd:0<d):(B / d).natAbs<=B.natAbs:=by
 have h1:0<=B / d:=Int.ediv_nonneg (Int.le_of_lt hB) (Int.le_of_lt hd)
 have h2:B / d<=B:=Int.ediv_le_self d (Int.le_of_lt hB)
 omega
theorem VW {q:Nu} {B:Int} (hd:q.2∣B):Wo q (q.1*(B / q.2)) B:=by
 unfold Wo
 rw [Int.mul_assoc,Int.ediv_mul_cancel hd]
noncomputable def ps (ns ms:List Int):Nat->Nat->Int
 | 0,_=>0
 | i+1,k=>ps ns ms i k+(if i<=k/\k - i<ms.length then ns.getD i 0*ms.getD (k - i) 0 else 0)
noncomputable def in2 (ns ms:List Int) (i j k:Nat):Int:=ps ns ms i k+(if i<=k/\k - i<j then ns.getD i 0*ms.getD (k - i) 0 else 0)
theorem VX (ns ms:List Int) (i k:Nat):in2 ns ms i 0 k=ps ns ms i k:=by
 unfold in2;rw [Zt ⋯];omega
theorem M5 (ns ms:List Int) (i j k:Nat):in2 ns ms i (j+1) k=if k=i+j then in2 ns ms i j k+ns.getD i 0*ms.getD j 0 else in2 ns ms i j k:=by
 unfold in2
 by_cases h:k=i+j
 ·subst h
  rw [Zu rfl,Zu ⟨⋯,⋯⟩,Zt ⋯,show i+j - i=j by omega];omega
 ·rw [Zt h]
  congr 1
  by_cases h2:i<=k/\k - i<j
  ·rw [Zu h2,Zu ⟨h2.1,⋯⟩]
  ·rw [Zt h2,Zt ⋯]
theorem Hy {c:Nat} {ns:List Int} (h:∀ z∈ns,Bd c z) (i:Nat):Bd c (ns.getD i 0):=by
 rw [AU]
 cases e:ns[i]? with
 | none=>exact Bf ∅
 | some z=>exact h z (Bu e)
theorem FY (c:Nat):Bd c 0:=Bf ∅
theorem Jt {ns ms:List Int}:∀ i k,i+ms.length<=k+1->ps ns ms i k=0
 | 0,_,_=>rfl
 | i+1,k,h=>by
   unfold ps
   rw [Jt i k ⋯,Zt ⋯];rfl
end Bs
namespace Bs
noncomputable def val (q:Nu):Rat:=(q.1:Rat) / (q.2:Rat)
theorem zdiv (x:Rat):0 / x=0:=by rw [Rat.div_def,Rat.zero_mul]
theorem Ba {z:Int} (h:z≠0):(z:Rat)≠0:=by exact_mod_cast h
theorem Hz {q:Nu} {n m:Int} (hq:q.2≠0) (hm:m≠0) (w:Wo q n m):val q=(n:Rat) / (m:Rat):=by
 have h1:=Ba hq
 have h2:=Ba hm
 have w':(q.1:Rat)*m=n*q.2:=by unfold Wo at w;exact_mod_cast w
 unfold val
 ext
theorem IA {q r:Nu} (h1:Low q.1 q.2) (h2:Low r.1 r.2) (h:val q=val r):q=r:=by
 have a:=Ba (Ah h1.pos)
 have b:=Ba (Ah h2.pos)
 unfold val at h
 have z:(q.1:Rat)*r.2=r.1*q.2:=by ext
 have z':q.1*r.2=r.1*q.2:=by exact_mod_cast z
 obtain ⟨x,y⟩:=Jr h1 h2 z'
 exact Prod.ext x y
theorem M6 {n m:Int} (hm:0<m):val (red n m)=(n:Rat) / (m:Rat):=Hz (Ah (Gy hm).pos) (Ah hm) (Jp hm)
noncomputable def AT (n m:Int):Nu:=if m<0 then red (-n) (-m) else red n m
theorem D5 {n m:Int} (hm:m≠0):Low (AT n m).1 (AT n m).2:=by
 unfold AT
 split
 ·exact Gy ⋯
 ·exact Gy ⋯
theorem GD {n m:Int} (hm:m≠0):val (AT n m)=(n:Rat) / (m:Rat):=by
 unfold AT
 split
 ·rw [M6 ⋯]
  have:=Ba hm
  push_cast
  ext
 ·exact M6 ⋯
theorem IB {c d:Nat} {n m:Int} (hm:m≠0) (h1:Bd c n) (h2:Bd d m):Bd c (AT n m).1/\Bd d (AT n m).2:=by
 have aux:∀ {n m:Int},0<m->Bd c n->Bd d m->Bd c (red n m).1/\Bd d (red n m).2:=λ{n m} h0 h1 h2=>by
  have w:=VR (Gy h0) h0 (Jp (n:=n) h0)
  exact ⟨h1.le w.1,h2.le w.2⟩
 unfold AT
 split
 ·exact aux ⋯ h1.neg h2.neg
 ·exact aux ⋯ h1 h2
noncomputable def pwo (l:List Nu) (k:Nat):Rat:=val (DW l k)
noncomputable def cv (f g:Nat->Rat):Nat->Nat->Rat
 | 0,_=>0
 | n+1,k=>cv f g n k+(if n<=k then f n*g (k - n) else 0)
noncomputable def ovN (l:List Nu) (M:Int):List Int:=l.map λq=>q.1*(M / q.2)
noncomputable def Ov (l:List Nu) (M:Int):Prop:=0<M/\∀ q∈l,q.2∣M
theorem M7 {l:List Nu} {M:Int} (i:Nat):(ovN l M).getD i 0=(DW l i).1*(M / (DW l i).2):=by
 unfold ovN DW
 rw [AU,AU,Af]
 cases l[i]? with
 | none=>simp
 | some q=>rfl
theorem Ov.get {l:List Nu} {M:Int} (h:Ov l M) (i:Nat):(DW l i).2∣M:=by
 unfold DW
 rw [AU]
 cases e:l[i]? with
 | none=>exact Int.one_dvd M
 | some q=>exact h.2 q (Bu e)
theorem VY {l:List Nu} {M:Int} (h:Ov l M) (i:Nat):Wo (DW l i) ((ovN l M).getD i 0) M:=by
 rw [M7]
 exact VW (h.get i)
theorem M8 {l:List Nu} {M:Int} (hl:DN l) (h:Ov l M) (i:Nat):pwo l i=((ovN l M).getD i 0:Rat) / (M:Rat):=Hz (Ah (VT hl i).pos) (Ah h.1) (VY h i)
theorem lcm_dvd {B d M:Int} (hB:0<B) (hd:0<d) (h1:B∣M) (h2:d∣M):B*(d / ((Int.gcd B d:Nat):Int))∣M:=by
 have z:((Nat.lcm B.natAbs d.natAbs:Nat):Int)∣M:=Cd.mp (by rw [Ce];exact Nat.lcm_dvd (Cd.mpr h1) (Cd.mpr h2))
 have e:((Nat.lcm B.natAbs d.natAbs:Nat):Int)=B*(d / ((Int.gcd B d:Nat):Int)):=by
  unfold Nat.lcm
  rw [Nat.mul_div_assoc _ (Nat.gcd_dvd_right _ _)]
  push_cast
  rw [show ((B.natAbs:Nat):Int)=B by omega,show ((d.natAbs:Nat):Int)=d by omega]
  rfl
 rw [<-e]
 exact z
theorem Ju {M:Int}:∀ (l:List Nu) (B:Int),(∀ q∈l,0<q.2/\q.2∣M)->0<B->B∣M->0<l.foldl (λB q=>B*(q.2 / ((Int.gcd B q.2:Nat):Int))) B/\l.foldl (λB q=>B*(q.2 / ((Int.gcd B q.2:Nat):Int))) B∣M
 | [],B,_,hB,h=>⟨hB,h⟩
 | q::l,B,hq,hB,h=>by
   obtain ⟨q0,qd⟩:=hq q (BC ..)
   obtain ⟨s1,_⟩:=Js hB q0
   exact Ju l _ (λr hr=>hq r (BN _ hr)) s1 (lcm_dvd hB q0 h qd)
theorem IC {n:Nat} {a b:Int} (hb:b≠0) (h:a∣b) (bd:Bd n b):Bd n a:=bd.le (EA ⋯ (Cd.mpr h))
theorem FA {l:List Nu} (hl:DN l):Ov l (Bh l):=by
 obtain ⟨a,b,_⟩:=VU (b:=(l.foldl (λn q=>n+q.1.natAbs+q.2.natAbs) 1)) hl (λq hq=>by
  have big:∀ (l:List Nu) (n:Nat),n<=l.foldl (λn q=>n+q.1.natAbs+q.2.natAbs) n/\∀ q∈l,q.1.natAbs+q.2.natAbs<=l.foldl (λn q=>n+q.1.natAbs+q.2.natAbs) n:=by
   intro l
   induction l with
   | nil=>intro n;exact ⟨AS _,λ_ h=>nomatch h⟩
   | cons r l ih=>
     intro n
     obtain ⟨i1,i2⟩:=ih (n+r.1.natAbs+r.2.natAbs)
     rw [List.foldl_cons]
     refine ⟨⋯,λq hq=>?_⟩
     rcases Bb.mp hq with rfl | hq
     ·omega
     ·exact i2 q hq
  have z:=(big l 1).2 q hq
  exact ⟨DG ⋯ (Nat.lt_two_pow_self),DG ⋯ (Nat.lt_two_pow_self)⟩)
 exact ⟨a,b⟩
theorem M9 {l:List Nu} {M:Int} (hl:DN l) (h:Ov l M):Bh l∣M:=(Ju l 1 (λq hq=>⟨(hl q hq).pos,h.2 q hq⟩) ∅ (Int.one_dvd M)).2
theorem VZ (l:List Nu):BZ l=ovN l (Bh l):=rfl
end Bs
namespace Bs
section
variable {α:Type} [Lean.Grind.CommRing α]
noncomputable def cvL:List α->(Nat->α)->Nat->α
 | [],_,_=>0
 | x::a,b,k=>x*b k+(match k with | 0=>0 | k+1=>cvL a b k)
theorem Ay (b:Nat->α) (k:Nat):cvL [] b k=0:=rfl
theorem Ar (x:α) (a:List α) (b:Nat->α):cvL (x::a) b 0=x*b 0+0:=rfl
theorem Ak (x:α) (a:List α) (b:Nat->α) (k:Nat):cvL (x::a) b (k+1)=x*b (k+1)+cvL a b k:=rfl
theorem BK {b c:Nat->α} (h:∀ k,b k=c k):∀ (a:List α) (k:Nat),cvL a b k=cvL a c k
 | [],_=>rfl
 | x::a,0=>by rw [Ar,Ar,h 0]
 | x::a,k+1=>by rw [Ak,Ak,h (k+1),BK h a k]
theorem GE (b c:Nat->α):∀ (a:List α) (k:Nat),cvL a (λk=>b k+c k) k=cvL a b k+cvL a c k
 | [],_=>by rw [Ay,Ay,Ay];ext
 | x::a,0=>by rw [Ar,Ar,Ar];ext
 | x::a,k+1=>by rw [Ak,Ak,Ak,GE b c a k];ext
theorem DX (s:α) (b:Nat->α):∀ (a:List α) (k:Nat),cvL a (λk=>s*b k) k=s*cvL a b k
 | [],_=>by rw [Ay,Ay];ext
 | x::a,0=>by rw [Ar,Ar];ext
 | x::a,k+1=>by rw [Ak,Ak,DX s b a k];ext
noncomputable def DO (b:Nat->α):Nat->α
 | 0=>0
 | k+1=>b k
theorem Jv (b:Nat->α):∀ (a:List α) (k:Nat),cvL a (DO b) k=DO (cvL a b) k
 | [],0=>rfl
 | [],k+1=>rfl
 | x::a,0=>by rw [Ar];show x*0+0=0;ext
 | x::a,1=>by
   rw [Ak]
   have h:=Jv b a 0
   rw [h]
   show x*b 0+0=cvL (x::a) b 0
   rw [Ar]
 | x::a,k+2=>by
   rw [Ak,Jv b a (k+1)]
   show x*b (k+1)+cvL a b k=cvL (x::a) b (k+1)
   rw [Ak]
theorem FB (x:α) (a:List α) (b:Nat->α) (k:Nat):cvL (x::a) b k=x*b k+DO (cvL a b) k:=by
 cases k with
 | zero=>exact Ar x a b
 | succ k=>exact Ak x a b k
theorem GF (c:Nat->α):∀ (a b:List α) (k:Nat),cvL a (cvL b c) k=cvL b (cvL a c) k
 | [],b,k=>by
   rw [Ay]
   have e:cvL b (cvL [] c) k=cvL b (λk=>0*c k) k:=BK (λk=>by rw [Ay];ext) b k
   rw [e,DX]
   ext
 | x::a,b,k=>by
   rw [FB]
   have e:cvL b (cvL (x::a) c) k=cvL b (λk=>x*c k+DO (cvL a c) k) k:=BK (λk=>FB x a c k) b k
   rw [e,GE,DX,Jv]
   have e2:DO (cvL a (cvL b c)) k=DO (cvL b (cvL a c)) k:=by
    cases k with
    | zero=>rfl
    | succ k=>exact GF c a b k
   rw [e2]
noncomputable def AW:Nat->α
 | 0=>1
 | _+1=>0
theorem Do:∀ (a:List α) (k:Nat),cvL a AW k=a.getD k 0
 | [],k=>by rw [Ay];simp
 | x::a,0=>by rw [Ar];show x*1+0=x;ext
 | x::a,k+1=>by
   rw [Ak,Do a k]
   show x*0+a.getD k 0=(x::a).getD (k+1) 0
   rw [List.getD_cons_succ]
   ext
end
end Bs
namespace Bs
theorem Va {n k:Nat}:k∣2 ^ n↔∃ a,a<=n/\k=2 ^ a:=by
 constructor
 ·induction n generalizing k with
  | zero=>intro h;exact ⟨0,AS 0,by simpa using h⟩
  | succ n ih=>
    intro h
    by_cases h2:2∣k
    ·obtain ⟨j,rfl⟩:=h2
     rw [B5,Co (2 ^ n) 2] at h
     obtain ⟨a,ha,e⟩:=ih (Nat.dvd_of_mul_dvd_mul_left ∅ h)
     exact ⟨a+1,⋯,by rw [e,B5,Co]⟩
    ·have c:Nat.Coprime k 2:=by
      have:Nat.gcd k 2∣2:=Nat.gcd_dvd_right k 2
      have h3:=EA ∅ this
      have h4:Nat.gcd k 2≠2:=λz=>h2 (by rw [<-z];exact Nat.gcd_dvd_left k 2)
      have h5:Nat.gcd k 2≠0:=λz=>by have:=Nat.eq_zero_of_gcd_eq_zero_right z;omega
      show Nat.gcd k 2=1
      omega
     rw [B5] at h
     obtain ⟨a,ha,e⟩:=ih (c.dvd_of_dvd_mul_right h)
     exact ⟨a,⋯,e⟩
 ·rintro ⟨a,ha,rfl⟩
  exact Nat.pow_dvd_pow 2 ha
structure Pr (p:Nat):Prop where
 two:2<=p
 div:∀ d,d∣p->d=1\/d=p
theorem Pr.cop {p:Nat} (h:Pr p) {a:Nat} (ha:¬ p∣a):Nat.gcd a p=1:=by
 rcases h.div _ (Nat.gcd_dvd_right a p) with e | e
 ·exact e
 ·exact absurd (e ▸ Nat.gcd_dvd_left a p) ha
theorem Pr.mul {p:Nat} (h:Pr p) {a b:Nat} (hd:p∣a*b):p∣a\/p∣b:=by
 by_cases ha:p∣a
 ·exact .inl ha
 ·refine .inr (Nat.Coprime.dvd_of_dvd_mul_left (k:=p) (m:=a) ?_ hd)
  have:=h.cop ha
  rw [Nat.gcd_comm] at this
  exact this
theorem Pr.mulI {p:Nat} (h:Pr p) {a b:Int} (hd:(p:Int)∣a*b):(p:Int)∣a\/(p:Int)∣b:=by
 have z:=Cd.mpr hd
 rw [BI,Ce] at z
 rcases h.mul z with e | e
 ·exact .inl (Cd.mp (by rw [Ce];exact e))
 ·exact .inr (Cd.mp (by rw [Ce];exact e))
theorem NA {m:Nat} (hm:2<=m):∃ q,Pr q/\q∣m/\(q=m\/q*q<=m):=by
 have key:∀ n d,2<=d->(∀ e,2<=e->e<d->¬ e∣m)->m=d+n->∃ q,2<=q/\q∣m/\∀ e,2<=e->e<q->¬ e∣m:=by
  intro n
  induction n with
  | zero=>intro d hd h e;exact ⟨d,hd,by rw [e];exact Nat.dvd_refl _,h⟩
  | succ n ih=>
    intro d hd h e
    by_cases hdm:d∣m
    ·exact ⟨d,hd,hdm,h⟩
    ·refine ih (d+1) ⋯ (λx hx hx2=>?_) ⋯
     by_cases hxd:x=d
     ·rw [hxd];exact hdm
     ·exact h x hx ⋯
 obtain ⟨q,q2,qm,ql⟩:=key (m - 2) 2 (AS 2) (λe h1 h2=>absurd h2 ⋯) ⋯
 refine ⟨q,⟨q2,λd hd=>?_⟩,qm,?_⟩
 ·by_cases h2:2<=d
  ·right
   rcases BG d q with h | h
   ·exact absurd (Nat.dvd_trans hd qm) (ql d h2 h)
   ·exact Nat.le_antisymm (EA ⋯ hd) h
  ·left
   have:d≠0:=λz=>by rw [z] at hd;have:=Nat.eq_zero_of_zero_dvd hd;omega
   omega
 ·obtain ⟨k,hk⟩:=qm
  by_cases k1:k<=1
  ·left
   have:k=1:=by
    rcases DH k with z | z
    ·rw [z] at hk;omega
    ·omega
   rw [hk,this,Nat.mul_one]
  ·right
   rcases BG k q with h | h
   ·exact absurd ⟨q,by rw [hk,Co]⟩ (ql k ⋯ h)
   ·rw [hk];exact B6 q h
theorem pigeon:∀ (n m:Nat) (f:Nat->Nat),(∀ i,i<m->f i<n)->(∀ i j,i<m->j<m->f i=f j->i=j)->m<=n
 | 0,m,f,h,_=>by
   rcases DH m with z | z
   ·omega
   ·exact absurd (h 0 z) ⋯
 | n+1,0,_,_,_=>by omega
 | n+1,m+1,f,h,inj=>by
   have:=pigeon n m (λi=>if f i=n then f m else f i) (λi hi=>by
    show (if f i=n then f m else f i)<n
    by_cases e:f i=n
    ·rw [Zu e]
     have h1:=h m (EU m)
     have:f m≠n:=λz=>absurd (inj i m ⋯ ⋯ (by rw [e,z])) ⋯
     omega
    ·rw [Zt e]
     have h1:=h i ⋯
     omega) (λi j hi hj e=>by
    have e:(if f i=n then f m else f i)=(if f j=n then f m else f j):=e
    by_cases ei:f i=n
    ·rw [Zu ei] at e
     by_cases ej:f j=n
     ·exact inj i j ⋯ ⋯ (by rw [ei,ej])
     ·rw [Zt ej] at e
      exact absurd (inj m j ⋯ ⋯ e) ⋯
    ·rw [Zt ei] at e
     by_cases ej:f j=n
     ·rw [Zu ej] at e
      exact absurd (inj i m ⋯ ⋯ e) ⋯
     ·rw [Zt ej] at e
      exact inj i j ⋯ ⋯ e)
   omega
noncomputable abbrev Rt:=Int×Int
noncomputable def rmul (q:Int) (x y:Rt):Rt:=((x.1*y.1+3*(x.2*y.2)) % q,(x.1*y.2+x.2*y.1) % q)
noncomputable def rpow (q:Int):Nat->Rt
 | 0=>(1 % q,0 % q)
 | n+1=>rmul q (2,1) (rpow q n)
theorem FC {q a b c:Int} (h:a - b=q*c):a % q=b % q:=by
 have:a=b+q*c:=by omega
 rw [this,Int.add_mul_emod_self_left]
theorem em {a q:Int}:∃ c,a % q=a - q*c:=⟨a / q,by have:=Es a q;omega⟩
theorem GG (q:Int) (x y z:Rt):rmul q (rmul q x y) z=rmul q x (rmul q y z):=by
 obtain ⟨a,b⟩:=x
 obtain ⟨c,d⟩:=y
 obtain ⟨e,f⟩:=z
 obtain ⟨c1,h1⟩:=em (a:=a*c+3*(b*d)) (q:=q)
 obtain ⟨c2,h2⟩:=em (a:=a*d+b*c) (q:=q)
 obtain ⟨c3,h3⟩:=em (a:=c*e+3*(d*f)) (q:=q)
 obtain ⟨c4,h4⟩:=em (a:=c*f+d*e) (q:=q)
 refine Prod.ext ?_ ?_
 ·show ((a*c+3*(b*d)) % q*e+3*((a*d+b*c) % q*f)) % q=(a*((c*e+3*(d*f)) % q)+3*(b*((c*f+d*e) % q))) % q
  rw [h1,h2,h3,h4]
  exact FC (c:=a*c3+3*b*c4 - c1*e - 3*c2*f) ()
 ·show ((a*c+3*(b*d)) % q*f+((a*d+b*c) % q*e)) % q=(a*((c*f+d*e) % q)+(b*((c*e+3*(d*f)) % q))) % q
  rw [h1,h2,h3,h4]
  exact FC (c:=a*c4+b*c3 - c1*f - c2*e) ()
theorem Vb (q:Int) (x y:Rt):rmul q x y=rmul q y x:=by
 refine Prod.ext ?_ ?_
 ·show (x.1*y.1+3*(x.2*y.2)) % q=(y.1*x.1+3*(y.2*x.2)) % q
  congr 1;ext
 ·show (x.1*y.2+x.2*y.1) % q=(y.1*x.2+y.2*x.1) % q
  congr 1;ext
noncomputable def rn (q:Int) (x:Rt):Prop:=x.1 % q=x.1/\x.2 % q=x.2
theorem Vc (q:Int) (x y:Rt):rn q (rmul q x y):=⟨Int.emod_emod ..,Int.emod_emod ..⟩
theorem FZ (q:Int):∀ n,rn q (rpow q n)
 | 0=>⟨Int.emod_emod ..,Int.emod_emod ..⟩
 | _+1=>Vc q _ _
theorem rone (q:Int) {x:Rt} (h:rn q x):rmul q (rpow q 0) x=x:=by
 obtain ⟨c1,h1⟩:=em (a:=1) (q:=q)
 obtain ⟨c2,h2⟩:=em (a:=0) (q:=q)
 refine Prod.ext ?_ ?_
 ·show (1 % q*x.1+3*(0 % q*x.2)) % q=x.1
  rw [h1,h2,<-h.1]
  rw [FC (b:=x.1 % q) (c:=- c1*(x.1 % q) - 3*c2*x.2) (),Int.emod_emod]
 ·show (1 % q*x.2+0 % q*x.1) % q=x.2
  rw [h1,h2,<-h.2]
  rw [FC (b:=x.2 % q) (c:=- c1*(x.2 % q) - c2*x.1) (),Int.emod_emod]
theorem Fa (q:Int):∀ m n,rpow q (m+n)=rmul q (rpow q m) (rpow q n)
 | 0,n=>by rw [Nat.zero_add,rone q (FZ q n)]
 | m+1,n=>by
   rw [Nat.succ_add]
   show rmul q (2,1) (rpow q (m+n))=rmul q (rmul q (2,1) (rpow q m)) (rpow q n)
   rw [Fa q m n,GG]
noncomputable def rinv (q:Int):Nat->Rt
 | 0=>(1 % q,0 % q)
 | n+1=>rmul q (2,-1) (rinv q n)
theorem r21 (q:Int):rmul q (2,-1) (2,1)=rpow q 0:=by
 refine Prod.ext ?_ ?_
 ·show (2*2+3*(-1*1)) % q=1 % q;rfl
 ·show (2*1 + -1*2) % q=0 % q;rfl
theorem NB (q:Int):∀ n,rmul q (rinv q n) (rpow q n)=rpow q 0
 | 0=>rone q (FZ q 0)
 | n+1=>by
   show rmul q (rmul q (2,-1) (rinv q n)) (rmul q (2,1) (rpow q n))=_
   rw [GG,<-GG q (rinv q n),Vb q (rinv q n) (2,1),GG q (2,1),NB q n,<-GG,r21,rone q (FZ q 0)]
theorem Jw (q:Int) {m:Nat} (h:rpow q m=rpow q 0):∀ k,rpow q (m*k)=rpow q 0
 | 0=>rfl
 | k+1=>by rw [Nat.mul_succ,Fa,Jw q h k,h,rone q (FZ q 0)]
theorem rord (q:Int) {n:Nat} (h1:rpow q (2 ^ (n+1))=rpow q 0) (h2:rpow q (2 ^ n)≠rpow q 0):∀ d,0<d->d<2 ^ (n+1)->rpow q d≠rpow q 0:=by
 intro d
 induction d using Nat.strongRecOn with
 | _ d ih=>
 intro d0 hd e
 have hr:=Nat.mod_lt (2 ^ (n+1)) d0
 have er:rpow q (2 ^ (n+1) % d)=rpow q 0:=by
  have e1:=Nat.div_add_mod (2 ^ (n+1)) d
  rw [<-e1,Fa,Jw q e,rone q (FZ q _)] at h1
  exact h1
 rcases DH (2 ^ (n+1) % d) with z | z
 ·obtain ⟨k,hk⟩:=Nat.dvd_of_mod_eq_zero z
  obtain ⟨a,ha,hka⟩:=(Va (n:=n+1) (k:=d)).mp ⟨k,hk⟩
  have hlt:a<=n:=by
   rcases BG n a with h | h
   ·exfalso
    have:a=n+1:=by omega
    rw [this] at hka
    omega
   ·exact h
  apply h2
  have e2:2 ^ n=d*2 ^ (n - a):=by rw [hka,<-Cc];congr 1;omega
  rw [e2]
  exact Jw q e _
 ·exact ih _ hr z ⋯ er
theorem rnorm (q:Int):∀ n,∃ c,(rpow q n).1*(rpow q n).1 - 3*((rpow q n).2*(rpow q n).2) - 1=q*c
 | 0=>by
   obtain ⟨c1,h1⟩:=em (a:=1) (q:=q)
   obtain ⟨c2,h2⟩:=em (a:=0) (q:=q)
   refine ⟨-2*c1+q*c1*c1 - 3*q*c2*c2,?_⟩
   show (1 % q)*(1 % q) - 3*((0 % q)*(0 % q)) - 1=_
   rw [h1,h2];ext
 | n+1=>by
   obtain ⟨c,hc⟩:=rnorm q n
   obtain ⟨c1,h1⟩:=em (a:=2*(rpow q n).1+3*(1*(rpow q n).2)) (q:=q)
   obtain ⟨c2,h2⟩:=em (a:=2*(rpow q n).2+1*(rpow q n).1) (q:=q)
   have e1:(rpow q (n+1)).1=2*(rpow q n).1+3*(1*(rpow q n).2) - q*c1:=h1
   have e2:(rpow q (n+1)).2=2*(rpow q n).2+1*(rpow q n).1 - q*c2:=h2
   rw [e1,e2]
   generalize (rpow q n).1=a at *
   generalize (rpow q n).2=b at *
   exact ⟨c - 2*c1*(2*a+3*b)+q*c1*c1+6*c2*(2*b+a) - 3*q*c2*c2,()⟩
theorem Vd (q:Int) (n:Nat):∃ c,2*(rpow q (n+n)).1=(2*(rpow q n).1)*(2*(rpow q n).1) - 2+q*c:=by
 obtain ⟨c,hc⟩:=rnorm q n
 rw [Fa]
 obtain ⟨c1,h1⟩:=em (a:=(rpow q n).1*(rpow q n).1+3*((rpow q n).2*(rpow q n).2)) (q:=q)
 refine ⟨-2*c1 - 2*c,?_⟩
 show 2*(((rpow q n).1*(rpow q n).1+3*((rpow q n).2*(rpow q n).2)) % q)=_
 rw [h1];ext
noncomputable def ll (M:Nat):Nat->Nat->Nat
 | 0,s=>s
 | k+1,s=>ll M k ((s*s+(M - 2)) % M)
theorem NC {q:Int} {M:Nat} (hM:2<=M) (hq:q∣(M:Int)):∀ (k t s:Nat),q∣2*(rpow q (2 ^ t)).1 - (s:Int)->q∣2*(rpow q (2 ^ (t+k))).1 - (ll M k s:Int)
 | 0,t,s,h=>h
 | k+1,t,s,h=>by
   have:=NC hM hq k (t+1) ((s*s+(M - 2)) % M) (by
    obtain ⟨c,hc⟩:=Vd q (2 ^ t)
    obtain ⟨d,hd⟩:=h
    obtain ⟨m,hm⟩:=hq
    have e:(2:Nat) ^ (t+1)=2 ^ t+2 ^ t:=by rw [B5];omega
    rw [e,hc]
    have z:(((s*s+(M - 2)) % M:Nat):Int)=(s:Int)*s+(M - 2) - M*(((s*s+(M - 2)) / M:Nat):Int):=by
     have:=Nat.mod_add_div (s*s+(M - 2)) M
     have z2:(((s*s+(M - 2)) % M:Nat):Int)+(M:Int)*(((s*s+(M - 2)) / M:Nat):Int)=(s:Int)*s+(M - 2):=by
      have:=congrArg (λx:Nat=>(x:Int)) this
      simp only [Int.natCast_add,Int.natCast_mul] at this
      rw [this,Int.natCast_sub hM]
      rfl
     omega
    rw [z]
    generalize (((s*s+(M - 2)) / M:Nat):Int)=w
    generalize (rpow q (2 ^ t)).1=a at hd
    have hd':2*a=s+q*d:=by omega
    rw [hd',hm]
    exact ⟨2*s*d+q*d*d+c - m+m*w,()⟩)
   rw [show t+(k+1)=t+1+k by omega]
   exact this
theorem Ve {n:Nat} (h:ll (2 ^ (n+2) - 1) n 4 % (2 ^ (n+2) - 1)=0):Pr (2 ^ (n+2) - 1):=by
 have big:4<=2 ^ (n+2):=by rw [Cc];have:=Nat.one_le_two_pow (n:=n);omega
 generalize hM:2 ^ (n+2) - 1=M at h ⊢
 obtain ⟨q,pq,qM,hq⟩:=NA (m:=M) ⋯
 rcases hq with e | hq
 ·rw [<-e];exact pq
 exfalso
 have qI:(q:Int)∣(M:Int):=Int.natCast_dvd_natCast.mpr qM
 have q2:=pq.two
 have odd:q≠2:=λz=>by
  rw [z] at qM
  have:2 ^ (n+2)=2*2 ^ (n+1):=by rw [B5 2 (n+1)];omega
  omega
 have s0:(q:Int)∣2*(rpow q (2 ^ (0+n))).1 - (ll M n 4:Int):=NC ⋯ qI n 0 4 (by
  show (q:Int)∣2*(rmul q (2,1) (rpow q 0)).1 - 4
  obtain ⟨c1,h1⟩:=em (a:=1) (q:=(q:Int))
  obtain ⟨c2,h2⟩:=em (a:=0) (q:=(q:Int))
  show (q:Int)∣2*((2*(1 % (q:Int))+3*(1*(0 % (q:Int)))) % (q:Int)) - 4
  obtain ⟨c3,h3⟩:=em (a:=2*(1 % (q:Int))+3*(1*(0 % (q:Int)))) (q:=(q:Int))
  rw [h3,h1,h2]
  exact ⟨-4*c1 - 6*c2 - 2*c3,()⟩)
 have s1:(q:Int)∣(ll M n 4:Int):=Int.natCast_dvd_natCast.mpr (Nat.dvd_trans qM (Nat.dvd_of_mod_eq_zero h))
 have s2:(q:Int)∣2*(rpow q (2 ^ n)).1:=by
  have:=C6 s0 s1
  rw [Nat.zero_add] at this
  rw [Int.sub_add_cancel] at this
  exact this
 have s3:(q:Int)∣(rpow q (2 ^ n)).1:=by
  rcases pq.mulI s2 with z | z
  ·exfalso
   have z2:=Int.natCast_dvd_natCast.mp (show (q:Int)∣((2:Nat):Int) from z)
   have:=EA ∅ z2
   omega
  ·exact z
 have qne:(q:Int)≠0:=by omega
 have m1:rpow q (2 ^ (n+1))=((-1) % (q:Int),0 % (q:Int)):=by
  have e:(2:Nat) ^ (n+1)=2 ^ n+2 ^ n:=by rw [B5];omega
  rw [e,Fa]
  obtain ⟨c,hc⟩:=rnorm q (2 ^ n)
  obtain ⟨d,hd⟩:=s3
  refine Prod.ext ?_ ?_
  ·show ((rpow q (2 ^ n)).1*(rpow q (2 ^ n)).1+3*((rpow q (2 ^ n)).2*(rpow q (2 ^ n)).2)) % (q:Int)=(-1) % (q:Int)
   refine FC (c:=2*q*d*d - c) ?_
   generalize (rpow q (2 ^ n)).2=b at *
   rw [hd] at hc ⊢
   ext
  ·show ((rpow q (2 ^ n)).1*(rpow q (2 ^ n)).2+(rpow q (2 ^ n)).2*(rpow q (2 ^ n)).1) % (q:Int)=0 % (q:Int)
   refine FC (c:=2*d*(rpow q (2 ^ n)).2) ?_
   rw [hd];ext
 have h2:rpow q (2 ^ (n+1))≠rpow q 0:=λz=>by
  rw [m1] at z
  have z1:(-1) % (q:Int)=1 % (q:Int):=congrArg Prod.fst z
  have z2:(q:Int)∣-1 - 1:=Int.dvd_of_emod_eq_zero ((Int.emod_eq_emod_iff_emod_sub_eq_zero).mp z1)
  have z3:=Cd.mpr z2
  have:=EA ∅ z3
  rw [Ce] at this
  have:(-1 - 1:Int).natAbs=2:=by decide
  omega
 have h1:rpow q (2 ^ (n+1+1))=rpow q 0:=by
  have e:(2:Nat) ^ (n+1+1)=2 ^ (n+1)+2 ^ (n+1):=by rw [B5 2 (n+1)];omega
  rw [e,Fa,m1]
  obtain ⟨c1,e1⟩:=em (a:=-1) (q:=(q:Int))
  obtain ⟨c2,e2⟩:=em (a:=0) (q:=(q:Int))
  refine Prod.ext ?_ ?_
  ·show ((-1) % (q:Int)*((-1) % (q:Int))+3*(0 % (q:Int)*(0 % (q:Int)))) % (q:Int)=1 % (q:Int)
   refine FC (c:=2*c1+q*c1*c1+3*q*c2*c2) ?_
   rw [e1,e2];ext
  ·show ((-1) % (q:Int)*(0 % (q:Int))+0 % (q:Int)*((-1) % (q:Int))) % (q:Int)=0 % (q:Int)
   refine FC (c:=2*c2+2*q*c1*c2) ?_
   rw [e1,e2];ext
 have ord:=rord (q:Int) h1 h2
 have ne:∀ i d,0<d->i+d<2 ^ (n+2)->rpow q i≠rpow q (i+d):=λi d d0 hd z=>by
  have e:rpow q d=rpow q 0:=by
   have a:=NB (q:Int) i
   have b:rmul q (rinv q i) (rpow q (i+d))=rpow q d:=by
    rw [Fa,<-GG,a,rone _ (FZ _ _)]
   rw [<-b,<-z,a]
  exact ord d d0 (by have:(2:Nat) ^ (n+1+1)=2 ^ (n+2):=rfl;omega) e
 have lt:∀ i,0<=(rpow q i).1/\(rpow q i).1<q/\0<=(rpow q i).2/\(rpow q i).2<q:=λi=>by
  obtain ⟨a,b⟩:=FZ (q:Int) i
  have p0:(0:Int)<q:=by omega
  have u1:=CM (rpow q i).1 qne
  have u2:=CT (rpow q i).1 p0
  have u3:=CM (rpow q i).2 qne
  have u4:=CT (rpow q i).2 p0
  rw [a] at u1 u2
  rw [b] at u3 u4
  exact ⟨u1,u2,u3,u4⟩
 have pg:=pigeon (q*q) (2 ^ (n+2)) (λi=>(rpow q i).1.toNat*q+(rpow q i).2.toNat) (λi _=>by
  obtain ⟨a,b,c,d⟩:=lt i
  have a':(rpow q i).1.toNat+1<=q:=by omega
  have d':(rpow q i).2.toNat<q:=by omega
  have:=CP q a'
  rw [DJ,Nat.one_mul] at this
  show (rpow q i).1.toNat*q+(rpow q i).2.toNat<q*q
  omega) (λi j hi hj e=>by
  have e:(rpow q i).1.toNat*q+(rpow q i).2.toNat=(rpow q j).1.toNat*q+(rpow q j).2.toNat:=e
  obtain ⟨a,b,c,d⟩:=lt i
  obtain ⟨a',b',c',d'⟩:=lt j
  have m1:=congrArg (·% q) e
  have m2:=congrArg (·/ q) e
  simp only [Co _ q,Nat.mul_add_mod,Nat.mul_add_div (show 0<q by omega)] at m1 m2
  rw [Nat.mod_eq_of_lt ⋯,Nat.mod_eq_of_lt ⋯] at m1
  rw [Nat.div_eq_of_lt ⋯,Nat.div_eq_of_lt ⋯] at m2
  have ee:rpow q i=rpow q j:=Prod.ext ⋯ ⋯
  rcases Nat.lt_trichotomy i j with h | h | h
  ·exact absurd ee (by have:=ne i (j - i) ⋯ ⋯;rw [show i+(j - i)=j by omega] at this;exact this)
  ·exact h
  ·exact absurd ee.symm (by have:=ne j (i - j) ⋯ ⋯;rw [show j+(i - j)=i by omega] at this;exact this))
 omega
end Bs
namespace Bs
noncomputable def llk (M k s:Nat):Nat:=Nat.rec (motive:=λ_=>Nat->Nat) (λs=>s) (λ_ ih s=>ih ((s*s+(M - 2)) % M)) k s
noncomputable def llf (x:Nat) (f:Nat->Nat):Nat:=Nat.rec (motive:=λ_=>Nat) (f 0) (λn _=>f (n+1)) x
noncomputable def llo (M k j s:Nat):Nat:=Nat.rec (motive:=λ_=>Nat->Nat) (λs=>s) (λ_ ih s=>llf (llk M k s) ih) j s
theorem Jx (M:Nat):∀ k s,llk M k s=ll M k s
 | 0,_=>rfl
 | k+1,s=>Jx M k _
theorem ND (x:Nat) (f:Nat->Nat):llf x f=f x:=by cases x <;> rfl
theorem Jy (M:Nat):∀ a b s,ll M (a+b) s=ll M b (ll M a s)
 | 0,b,s=>by rw [Nat.zero_add];rfl
 | a+1,b,s=>by rw [Nat.succ_add];exact Jy M a b _
theorem NE (M k:Nat):∀ j s,llo M k j s=ll M (k*j) s
 | 0,_=>rfl
 | j+1,s=>by
   show llf (llk M k s) (llo M k j)=_
   rw [ND,Jx,NE M k j,<-Jy]
   congr 1
   rw [Nat.mul_succ,Nat.add_comm]
noncomputable def mers (e:Nat):Nat:=2 ^ e - 1
theorem FD {n r k j:Nat} (e:n=k*j+r) (h:Nat.beq (llf (llo (mers (n+2)) k j 4) (λs=>llk (mers (n+2)) r s % mers (n+2))) 0=true):Pr (mers (n+2)):=by
 refine Ve ?_
 replace h:=Nat.eq_of_beq_eq_true h
 rw [ND,NE,Jx,<-Jy,<-e] at h
 exact h
theorem Vf:Pr (mers 61):=FD (n:=59) (r:=9) (k:=10) (j:=5) rfl (by decide +kernel)
theorem Vg:Pr (mers 127):=FD (n:=125) (r:=5) (k:=20) (j:=6) rfl (by decide +kernel)
theorem Vh:Pr (mers 521):=FD (n:=519) (r:=19) (k:=50) (j:=10) rfl (by decide +kernel)
theorem Vi:Pr (mers 1279):=FD (n:=1277) (r:=77) (k:=100) (j:=12) rfl (by decide +kernel)
theorem Vj:Pr (mers 4423):=FD (n:=4421) (r:=21) (k:=100) (j:=44) rfl (by decide +kernel)
theorem Vk:Pr (mers 9941):=FD (n:=9939) (r:=39) (k:=100) (j:=99) rfl (by decide +kernel)
theorem Vl:Pr (mers 21701):=FD (n:=21699) (r:=99) (k:=150) (j:=144) rfl (by decide +kernel)
theorem Vm:Pr (mers 44497):=FD (n:=44495) (r:=95) (k:=200) (j:=222) rfl (by decide +kernel)
end Bs
namespace Bs
noncomputable def co (ns:List Int) (k:Nat):Int:=ns.getD k 0
section
variable {α:Type} [Lean.Grind.CommRing α]
noncomputable def Ae:List α->List α->List α
 | [],b=>b
 | a,[]=>a
 | x::a,y::b=>(x+y)::Ae a b
theorem ID (a:List α):Ae a []=a:=by cases a <;> rfl
theorem BT (g:Nat->α):∀ (a b:List α) (k:Nat),cvL (Ae a b) g k=cvL a g k+cvL b g k
 | [],b,k=>by show cvL b g k=0+cvL b g k;ext
 | x::a,[],k=>by rw [ID,Ay];ext
 | x::a,y::b,0=>by show cvL ((x+y)::Ae a b) g 0=_;rw [Ar,Ar,Ar];ext
 | x::a,y::b,k+1=>by show cvL ((x+y)::Ae a b) g (k+1)=_;rw [Ak,Ak,Ak,BT g a b k];ext
theorem A6 (c:α) (g:Nat->α):∀ (a:List α) (k:Nat),cvL (a.map (c*·)) g k=c*cvL a g k
 | [],k=>by show (0:α)=c*0;ext
 | x::a,0=>by rw [List.map_cons,Ar,Ar];ext
 | x::a,k+1=>by rw [List.map_cons,Ak,Ak,A6 c g a k];ext
noncomputable def Av (s:Nat) (f:Nat->α) (k:Nat):α:=if s<=k then f (k - s) else 0
theorem GH (g:Nat->α):∀ (s:Nat) (a:List α) (k:Nat),cvL (List.replicate s 0++a) g k=Av s (cvL a g) k
 | 0,a,k=>by unfold Av;rw [Zu (AV k)];rfl
 | s+1,a,0=>by unfold Av;rw [Zt ⋯];show cvL (0::(List.replicate s 0++a)) g 0=0;rw [Ar];ext
 | s+1,a,k+1=>by
   show cvL (0::(List.replicate s 0++a)) g (k+1)=_
   rw [Ak,GH g s a k]
   unfold Av
   by_cases h:s<=k
   ·rw [Zu h,Zu ⋯,show k+1 - (s+1)=k - s by omega];ext
   ·rw [Zt h,Zt ⋯];ext
noncomputable def Au:List α->List α->List α
 | [],_=>[]
 | x::a,b=>Ae (b.map (x*·)) (0::Au a b)
theorem B4 (g:Nat->α):∀ (a b:List α) (k:Nat),cvL (Au a b) g k=cvL a (cvL b g) k
 | [],b,k=>rfl
 | x::a,b,k=>by
   show cvL (Ae (b.map (x*·)) (0::Au a b)) g k=_
   rw [BT,A6,FB,FB]
   have e:DO (cvL (Au a b) g) k=DO (cvL a (cvL b g)) k:=by
    cases k with
    | zero=>rfl
    | succ k=>exact B4 g a b k
   rw [e]
   ext
theorem DY (g:Nat->α) (s:α):∀ (a:List α) (k:Nat),cvL (a++[s]) g k=cvL a g k+s*Av a.length g k
 | [],0=>by show cvL [s] g 0=0+s*g 0;rw [Ar];ext
 | [],k+1=>by show cvL [s] g (k+1)=0+s*g (k+1);rw [Ak,Ay];ext
 | x::a,0=>by show cvL (x::(a++[s])) g 0=_;rw [Ar,Ar];unfold Av;rw [Zt (by simp)];ext
 | x::a,k+1=>by
   show cvL (x::(a++[s])) g (k+1)=_
   rw [Ak,Ak,DY g s a k]
   have e:Av (x::a).length g (k+1)=Av a.length g k:=by
    unfold Av
    rw [Cr]
    by_cases h:a.length<=k
    ·rw [Zu h,Zu ⋯,show k+1 - (a.length+1)=k - a.length by omega]
    ·rw [Zt h,Zt ⋯]
   rw [e];ext
theorem FE (a:List α) {g:Nat->α} (h:∀ k,g k=0) (k:Nat):cvL a g k=0:=by
 rw [BK (c:=λk=>0*g k) (λj=>by rw [h j];ext) a k,DX]
 ext
end
theorem Bw (a:List Int) (k:Nat):co a k=cvL a AW k:=(Do a k).symm
theorem Bx (a b:List Int) (k:Nat):cvL a (co b) k=cvL b (co a) k:=by
 rw [BK (Bw b) a k,GF,BK (λj=>(Bw a j).symm) b k]
theorem AX {a:List Int} {k:Nat} (h:a.length<=k):co a k=0:=by
 unfold co;rw [AU,Bv h];rfl
theorem Dq {g:Nat->Int} {n:Nat} (h:∀ i,n<=i->g i=0):∀ (a:List Int) (k:Nat),a.length+n<=k+1->cvL a g k=0
 | [],_,_=>rfl
 | x::a,0,hk=>by
   rw [Cr] at hk
   rw [Ar,h 0 ⋯];omega
 | x::a,k+1,hk=>by
   rw [Cr] at hk
   rw [Ak,h (k+1) ⋯,Dq h a k ⋯];omega
theorem Jz {p:Int} {g:Nat->Int} {n:Nat} (h:∀ i,n<i->p∣g i):∀ (a:List Int) (k:Nat),a.length+n<=k->p∣cvL a g k
 | [],_,_=>C8 p
 | x::a,0,hk=>absurd hk (by rw [Cr];omega)
 | x::a,k+1,hk=>by
   rw [Cr] at hk
   rw [Ak]
   exact C6 (Fp (h (k+1) ⋯)) (Jz h a k ⋯)
theorem IE {p:Nat} (hp:Pr p) {g:Nat->Int} {n:Nat} (h0:¬ (p:Int)∣g n) (h:∀ i,n<i->(p:Int)∣g i) (S:List Int) :
  (∀ k,n<=k->(p:Int)∣cvL S g k)->∀ s∈S,(p:Int)∣s:=by
 induction hl:S.length generalizing S with
 | zero=>intro _ s hs;rw [CU.mp hl] at hs;exact nomatch hs
 | succ m ih=>
   intro hk
   have ne:S≠[]:=λz=>by rw [z] at hl;simp at hl
   obtain ⟨T,t,rfl⟩:∃ T t,S=T++[t]:=⟨S.dropLast,S.getLast ne,(FK ne).symm⟩
   have hT:T.length=m:=by simpa using hl
   have ht:(p:Int)∣t:=by
    have a:=hk (T.length+n) ⋯
    rw [DY] at a
    have b:=Jz h T (T.length+n) (AS _)
    have c:(p:Int)∣t*Av T.length g (T.length+n):=by
     have:=Int.dvd_sub a b
     rwa [show ∀ x y:Int,x+y - x=y by intro x y;omega] at this
    unfold Av at c
    rw [Zu ⋯,show T.length+n - T.length=n by omega] at c
    rcases hp.mulI c with z | z
    ·exact z
    ·exact absurd z h0
   have hT2:=ih T hT (λk hk2=>by
    have a:=hk k hk2
    rw [DY] at a
    have:=Int.dvd_sub a (Fl (c:=Av T.length g k) ht)
    rwa [show ∀ x y:Int,x+y - y=x by intro x y;omega] at this)
   intro s hs
   rcases CZ.mp hs with h | h
   ·exact hT2 s h
   ·rw [Az.mp h];exact ht
noncomputable def Lz (g:List Int):Prop:=0<g.length/\co g (g.length - 1)≠0
noncomputable def QI (r o f:Nat->Int):Prop:=∃ d:Int,d≠0/\∃ U V:List Int,∀ k,d*f k=cvL U r k+cvL V o k
noncomputable def MQ (g f:Nat->Int):Prop:=∃ c:Int,c≠0/\∃ A:List Int,∀ k,c*f k=cvL A g k
theorem QI.congr {r o f h:Nat->Int} (q:QI r o f) (e:∀ k,h k=f k):QI r o h:=by
 obtain ⟨d,d0,U,V,hU⟩:=q
 exact ⟨d,d0,U,V,λk=>by rw [e k];exact hU k⟩
theorem QI.left (r o:Nat->Int):QI r o r:=⟨1,∅,[1],[],λk=>by
 rw [Ay]
 cases k with
 | zero=>rw [Ar];omega
 | succ k=>rw [Ak,Ay];omega⟩
theorem QI.right (r o:Nat->Int):QI r o o:=⟨1,∅,[],[1],λk=>by
 rw [Ay]
 cases k with
 | zero=>rw [Ar];omega
 | succ k=>rw [Ak,Ay];omega⟩
theorem QI.less {r o f h:Nat->Int} (q:QI r o f) (q':QI r o h) (a w:Int) (s:Nat):QI r o (λk=>a*f k - w*Av s h k):=by
 obtain ⟨d,d0,U,V,hU⟩:=q
 obtain ⟨d',d0',U',V',hU'⟩:=q'
 refine ⟨d*d',CI d0 d0',Ae (U.map (d'*a*·)) (List.replicate s 0++U'.map (-(d*w)*·)),Ae (V.map (d'*a*·)) (List.replicate s 0++V'.map (-(d*w)*·)),λk=>?_⟩
 show d*d'*(a*f k - w*Av s h k)=_
 rw [BT,BT,A6,A6,GH,GH]
 unfold Av
 have e1:=hU k
 by_cases hs:s<=k
 ·rw [Zu hs,Zu hs,Zu hs,A6,A6]
  have e2:=hU' (k - s)
  ext
 ·rw [Zt hs,Zt hs,Zt hs]
  ext
theorem QI.scal {r o f:Nat->Int} {c:Int} (c0:c≠0) (q:QI r o (λk=>c*f k)):QI r o f:=by
 obtain ⟨d,d0,U,V,hU⟩:=q
 exact ⟨d*c,CI d0 c0,U,V,λk=>by rw [<-hU k];ext⟩
theorem MQ.refl (g:Nat->Int):MQ g g:=⟨1,∅,[1],λk=>by
 cases k with
 | zero=>rw [Ar];omega
 | succ k=>rw [Ak,Ay];omega⟩
theorem MQ.zero (g:Nat->Int) {f:Nat->Int} (h:∀ k,f k=0):MQ g f:=⟨1,∅,[],λk=>by rw [Ay,h k];rfl⟩
theorem MQ.congr {g f h:Nat->Int} (m:MQ g f) (e:∀ k,h k=f k):MQ g h:=by
 obtain ⟨c,c0,A,hA⟩:=m
 exact ⟨c,c0,A,λk=>by rw [e k];exact hA k⟩
theorem MQ.less {g f h:Nat->Int} (m:MQ g f) (m':MQ g h) (a w:Int) (s:Nat):MQ g (λk=>a*f k - w*Av s h k):=by
 obtain ⟨d,d0,U,hU⟩:=m
 obtain ⟨d',d0',U',hU'⟩:=m'
 refine ⟨d*d',CI d0 d0',Ae (U.map (d'*a*·)) (List.replicate s 0++U'.map (-(d*w)*·)),λk=>?_⟩
 show d*d'*(a*f k - w*Av s h k)=_
 rw [BT,A6,GH]
 unfold Av
 have e1:=hU k
 by_cases hs:s<=k
 ·rw [Zu hs,Zu hs,A6]
  have e2:=hU' (k - s)
  ext
 ·rw [Zt hs,Zt hs]
  ext
theorem MQ.scal {g f:Nat->Int} {c:Int} (c0:c≠0) (m:MQ g (λk=>c*f k)):MQ g f:=by
 obtain ⟨d,d0,A,hA⟩:=m
 exact ⟨d*c,CI d0 c0,A,λk=>by rw [<-hA k];ext⟩
theorem MQ.trans {g f h:Nat->Int} (m:MQ g f) (m':MQ f h):MQ g h:=by
 obtain ⟨c,c0,A,hA⟩:=m
 obtain ⟨d,d0,B,hB⟩:=m'
 refine ⟨c*d,CI c0 d0,Au B A,λk=>?_⟩
 rw [B4]
 have e:c*cvL B f k=cvL B (cvL A g) k:=by rw [<-DX];exact BK hA B k
 rw [<-e,<-hB k];ext
theorem MQ.of_QI {r o f g:Nat->Int} (m1:MQ g r) (m2:MQ g o) (q:QI r o f):MQ g f:=by
 obtain ⟨d,d0,U,V,hU⟩:=q
 obtain ⟨c,c0,A,hA⟩:=m1
 obtain ⟨e,e0,B,hB⟩:=m2
 refine ⟨c*e*d,CI (CI c0 e0) d0,Ae ((Au U A).map (e*·)) ((Au V B).map (c*·)),λk=>?_⟩
 rw [BT,A6,A6,B4,B4]
 have e1:c*cvL U r k=cvL U (cvL A g) k:=by rw [<-DX];exact BK hA U k
 have e2:e*cvL V o k=cvL V (cvL B g) k:=by rw [<-DX];exact BK hB V k
 have e3:=hU k
 ext
theorem QI.of_MQ {r o f h:Nat->Int} (q:QI r o f) (m:MQ f h):QI r o h:=by
 obtain ⟨c,c0,A,hA⟩:=m
 obtain ⟨d,d0,U,V,hU⟩:=q
 refine ⟨d*c,CI d0 c0,Au A U,Au A V,λk=>?_⟩
 rw [B4,B4]
 have e:d*cvL A f k=cvL A (cvL U r) k+cvL A (cvL V o) k:=by rw [<-DX,<-GE];exact BK hU A k
 rw [<-e,<-hA k];ext
end Bs
namespace Bs
theorem J0 {f:List Int} (h:co f (f.length - 1)=0) (k:Nat):co f.dropLast k=co f k:=by
 unfold co at *
 rw [AU,AU]
 rw [List.getElem?_dropLast]
 by_cases hk:k<f.length - 1
 ·rw [Zu hk]
 ·rw [Zt hk]
  by_cases e:k=f.length - 1
  ·subst e
   rw [AU] at h
   rw [h];rfl
  ·rw [Bv ⋯]
theorem EJ (f:List Int):(∀ k,co f k=0)\/∃ g,Lz g/\g.length<=f.length/\∀ k,co g k=co f k:=by
 induction hn:f.length generalizing f with
 | zero=>exact .inl λk=>AX ⋯
 | succ n ih=>
   by_cases h:co f (f.length - 1)=0
   ·rcases ih f.dropLast (by rw [List.length_dropLast];omega) with z | ⟨g,g1,g2,g3⟩
    ·exact .inl λk=>by rw [<-J0 h];exact z k
    ·exact .inr ⟨g,g1,⋯,λk=>by rw [g3,J0 h]⟩
   ·exact .inr ⟨f,⟨⋯,h⟩,⋯,λ_=>rfl⟩
theorem IF (n:Nat) (F:Nat->Int) (k:Nat):co ((List.range n).map F) k=if k<n then F k else 0:=by
 unfold co
 rw [AU,Af]
 by_cases h:k<n
 ·rw [Zu h,DS h];rfl
 ·rw [Zt h,Bv (by rw [Bm];omega)];rfl
structure Gen (r o:Nat->Int) (g:List Int):Prop where
 lz:Lz g
 qi:QI r o (co g)
 len:∀ h,Lz h->QI r o (co h)->g.length<=h.length
 last:∀ h,Lz h->QI r o (co h)->h.length=g.length->(co g (g.length - 1)).natAbs<=(co h (h.length - 1)).natAbs
theorem Vn {r o:Nat->Int} {f:List Int} (lf:Lz f) (q:QI r o (co f)):∃ g,Gen r o g:=by
 have L:∀ n,(∃ f,f.length=n/\Lz f/\QI r o (co f))->∃ m,(∃ f,f.length=m/\Lz f/\QI r o (co f))/\∀ h,Lz h->QI r o (co h)->m<=h.length:=by
  intro n
  induction n using Nat.strongRecOn with
  | _ n ih=>
    intro hf
    by_cases hx:∃ m,m<n/\∃ f,f.length=m/\Lz f/\QI r o (co f)
    ·obtain ⟨m,hm,hx⟩:=hx
     exact ih m hm hx
    ·refine ⟨n,hf,λh lh qh=>?_⟩
     rcases BG h.length n with z | z
     ·exact absurd ⟨h.length,z,h,rfl,lh,qh⟩ hx
     ·exact z
 obtain ⟨m,⟨f1,e1,l1,q1⟩,hm⟩:=L f.length ⟨f,rfl,lf,q⟩
 have M:∀ n,(∃ f,f.length=m/\Lz f/\QI r o (co f)/\(co f (f.length - 1)).natAbs=n)->∃ g,Gen r o g:=by
  intro n
  induction n using Nat.strongRecOn with
  | _ n ih=>
    rintro ⟨f,fm,lf,qf,fn⟩
    by_cases hx:∃ j,j<n/\∃ f,f.length=m/\Lz f/\QI r o (co f)/\(co f (f.length - 1)).natAbs=j
    ·obtain ⟨j,hj,hx⟩:=hx
     exact ih j hj hx
    ·refine ⟨f,lf,qf,λh lh qh=>by rw [fm];exact hm h lh qh,λh lh qh hl=>?_⟩
     rcases BG (co h (h.length - 1)).natAbs (co f (f.length - 1)).natAbs with z | z
     ·exact absurd ⟨_,⋯,h,⋯,lh,qh,rfl⟩ hx
     ·exact z
 exact M _ ⟨f1,e1,l1,q1,rfl⟩
theorem Gen.mq {r o:Nat->Int} {g:List Int} (G:Gen r o g):∀ (n:Nat) (f:List Int),f.length<=n->QI r o (co f)->MQ (co g) (co f)
 | 0,f,h,_=>MQ.zero _ λk=>AX ⋯
 | n+1,f,h,q=>by
   rcases EJ f with z | ⟨f1,l1,h1,e1⟩
   ·exact MQ.zero _ z
   have q1:QI r o (co f1):=q.congr e1
   have gl:=G.len f1 l1 q1
   refine MQ.congr (f:=co f1) ?_ λk=>(e1 k).symm
   generalize hs:f1.length - g.length=s
   have g0:=G.lz.1
   let F:List Int:=(List.range (f1.length - 1)).map λk=>co g (g.length - 1)*co f1 k - co f1 (f1.length - 1)*Av s (co g) k
   have eF:∀ k,co F k=co g (g.length - 1)*co f1 k - co f1 (f1.length - 1)*Av s (co g) k:=λk=>by
    rw [IF]
    by_cases hk:k<f1.length - 1
    ·rw [Zu hk]
    ·rw [Zt hk]
     unfold Av
     by_cases hk2:k=f1.length - 1
     ·rw [Zu ⋯,hk2,show f1.length - 1 - s=g.length - 1 by omega];ext
     ·rw [AX (a:=f1) ⋯]
      by_cases hk3:s<=k
      ·rw [Zu hk3,AX (a:=g) (k:=k - s) ⋯];omega
      ·rw [Zt hk3];omega
   have qF:QI r o (co F):=QI.congr (q1.less G.qi (co g (g.length - 1)) (co f1 (f1.length - 1)) s) eF
   have lF:F.length<=n:=by
    have:F.length=f1.length - 1:=by show ((List.range (f1.length - 1)).map _).length=_;rw [AL,Bm]
    omega
   have m:=Gen.mq G n F lF qF
   have m2:=MQ.less (MQ.congr m λk=>(eF k).symm) (MQ.refl (co g)) 1 (-(co f1 (f1.length - 1))) s
   refine MQ.scal (c:=co g (g.length - 1)) G.lz.2 (MQ.congr m2 λk=>?_)
   show _=1*_ - _*Av s (co g) k
   generalize Av s (co g) k=y
   ext
theorem Gen.prim {r o:Nat->Int} {g:List Int} (G:Gen r o g) {p:Nat} (hp:2<=p):∃ n,¬ (p:Int)∣co g n/\∀ i,n<i->(p:Int)∣co g i:=by
 have key:∀ n,(∀ i,n<=i->(p:Int)∣co g i)->(∀ i,(p:Int)∣co g i)\/∃ n,¬ (p:Int)∣co g n/\∀ i,n<i->(p:Int)∣co g i:=by
  intro n
  induction n with
  | zero=>intro h;exact .inl λi=>h i (AV i)
  | succ n ih=>
    intro h
    by_cases hd:(p:Int)∣co g n
    ·exact ih λi hi=>by
      by_cases e:i=n
      ·rw [e];exact hd
      ·exact h i ⋯
    ·exact .inr ⟨n,hd,λi hi=>h i ⋯⟩
 rcases key g.length (λi hi=>by rw [AX hi];exact C8 _) with h | h
 ·exfalso
  let h1:List Int:=g.map (·/ (p:Int))
  have e1:∀ k,(p:Int)*co h1 k=co g k:=λk=>by
   have:co h1 k=co g k / (p:Int):=by
    show (g.map (·/ (p:Int))).getD k 0=g.getD k 0 / (p:Int)
    rw [AU,AU,Af]
    cases g[k]? with
    | none=>exact (Int.zero_ediv _).symm
    | some z=>rfl
   rw [this,Int.mul_ediv_cancel' (h k)]
  have p0:(p:Int)≠0:=by omega
  have D6:h1.length=g.length:=AL ..
  have ne:co h1 (h1.length - 1)≠0:=λz=>G.lz.2 (by rw [<-e1,<-D6,z];omega)
  have l1:Lz h1:=⟨by rw [D6];exact G.lz.1,ne⟩
  have q1:QI r o (co h1):=QI.scal (c:=(p:Int)) p0 (QI.congr G.qi e1)
  have lt:=G.last h1 l1 q1 D6
  have e2:=e1 (g.length - 1)
  rw [<-D6] at e2
  rw [D6] at e2 lt
  rw [<-e2,BI,Ce] at lt
  rw [D6] at ne
  have pos:0<(co h1 (g.length - 1)).natAbs:=by omega
  have:=CP (co h1 (g.length - 1)).natAbs hp
  omega
 ·exact h
theorem Gen.loc {r o:Nat->Int} {g:List Int} (G:Gen r o g) {p:Nat} (hp:Pr p) {f:Nat->Int} (m:MQ (co g) f) :
  ∃ (c:Int) (A:List Int),¬ (p:Int)∣c/\∀ k,c*f k=cvL A (co g) k:=by
 obtain ⟨n,n0,n1⟩:=G.prim hp.two
 obtain ⟨c,c0,A,hA⟩:=m
 have key:∀ (m:Nat) (c:Int) (A:List Int),c.natAbs<=m->c≠0->(∀ k,c*f k=cvL A (co g) k)->∃ (c:Int) (A:List Int),¬ (p:Int)∣c/\∀ k,c*f k=cvL A (co g) k:=by
  intro m
  induction m with
  | zero=>intro c A h h0;omega
  | succ m ih=>
    intro c A h h0 hA
    by_cases hd:(p:Int)∣c
    ·have dA:∀ a∈A,(p:Int)∣a:=IE hp n0 n1 A λk _=>by rw [<-hA k];exact Fl hd
     obtain ⟨c',rfl⟩:=hd
     have p2:=hp.two
     have c0':c'≠0:=λz=>h0 (by rw [z];omega)
     have eA:A=(A.map (·/ (p:Int))).map ((p:Int)*·):=by
      rw [Du]
      conv=>lhs;rw [<-List.map_id A]
      refine EB λa ha=>?_
      show a=(p:Int)*(a / (p:Int))
      rw [Int.mul_ediv_cancel' (dA a ha)]
     refine ih c' (A.map (·/ (p:Int))) ?_ c0' λk=>?_
     ·rw [BI,Ce] at h
      have pos:0<c'.natAbs:=by omega
      have:=CP c'.natAbs p2
      omega
     ·have e:=hA k
      rw [eA,A6,Int.mul_assoc] at e
      exact Int.eq_of_mul_eq_mul_left ⋯ e
    ·exact ⟨c,A,hd,hA⟩
 exact key _ c A (AS _) c0 hA
theorem Vo (a b:Nat):∃ x y:Int,x*a+y*b=(Nat.gcd a b:Int):=by
 induction a,b using Nat.gcd.induction with
 | H0 n=>exact ⟨0,1,by simp⟩
 | H1 m n hm ih=>
   obtain ⟨x,y,h⟩:=ih
   refine ⟨y - x*((n / m:Nat):Int),x,?_⟩
   rw [Nat.gcd_rec,<-h]
   have e:(n:Int)=(m:Int)*((n / m:Nat):Int)+((n % m:Nat):Int):=by
    have:=Nat.div_add_mod n m
    exact_mod_cast this.symm
   generalize ((n / m:Nat):Int)=q at *
   generalize ((n % m:Nat):Int)=w at *
   rw [e];ext
theorem Vp (a b:Int):∃ x y:Int,x*a+y*b=(Int.gcd a b:Int):=by
 obtain ⟨x,y,h⟩:=Vo a.natAbs b.natAbs
 have s:∀ z:Int,∃ e:Int,(z.natAbs:Int)=e*z:=λz=>by
  rcases Int.natAbs_eq z with h | h
  ·exact ⟨1,⋯⟩
  ·exact ⟨-1,⋯⟩
 obtain ⟨e,he⟩:=s a
 obtain ⟨f,hf⟩:=s b
 refine ⟨x*e,y*f,?_⟩
 show _=((Nat.gcd a.natAbs b.natAbs:Nat):Int)
 rw [<-h,he,hf];ext
noncomputable def Dm (p:Int) (g f:Nat->Int):Prop:=∃ S:List Int,∀ k,p∣f k - cvL S g k
theorem Gen.dm {r o:Nat->Int} {g:List Int} (G:Gen r o g) {p:Nat} (hp:Pr p) {f:Nat->Int} (m:MQ (co g) f):Dm (p:Int) (co g) f:=by
 obtain ⟨c,A,hc,hA⟩:=G.loc hp m
 have cop:Int.gcd c (p:Int)=1:=by
  have:=hp.cop (a:=c.natAbs) λz=>hc (Cd.mp (by rw [Ce];exact z))
  exact this
 obtain ⟨x,y,hxy⟩:∃ x y:Int,x*c+y*(p:Int)=1:=by
  obtain ⟨x,y,h⟩:=Vp c (p:Int)
  exact ⟨x,y,by rw [h,cop];rfl⟩
 refine ⟨A.map (x*·),λk=>⟨f k*y,?_⟩⟩
 rw [A6,<-hA k]
 ext
theorem Dm.less {p:Int} {g f h:Nat->Int} (m:Dm p g f) (m':Dm p g h) (a w:Int) (s:Nat):Dm p g (λk=>a*f k - w*Av s h k):=by
 obtain ⟨S,hS⟩:=m
 obtain ⟨S',hS'⟩:=m'
 refine ⟨Ae (S.map (a*·)) (List.replicate s 0++S'.map (-w*·)),λk=>?_⟩
 show p∣a*f k - w*Av s h k - _
 rw [BT,A6,GH]
 unfold Av
 obtain ⟨x,hx⟩:=hS k
 by_cases hs:s<=k
 ·rw [Zu hs,Zu hs,A6]
  obtain ⟨y,hy⟩:=hS' (k - s)
  exact ⟨a*x - w*y,()⟩
 ·rw [Zt hs,Zt hs]
  exact ⟨a*x,()⟩
theorem Dm.congr {p:Int} {g f h:Nat->Int} (m:Dm p g f) (e:∀ k,p∣h k - f k):Dm p g h:=by
 obtain ⟨S,hS⟩:=m
 exact ⟨S,λk=>by have:=C6 (e k) (hS k);rwa [show ∀ x y z:Int,x - y+(y - z)=x - z by intro x y z;omega] at this⟩
theorem Dm.zero (p:Int) (g:Nat->Int) {f:Nat->Int} (h:∀ k,p∣f k):Dm p g f:=⟨[],λk=>by rw [Ay];simpa using h k⟩
theorem Gen.lead {r o:Nat->Int} {g R:List Int} (G:Gen r o g) {p:Nat} (hp:Pr p) (lR:Lz R) (m:MQ (co g) (co R)) (h:¬ (p:Int)∣co R (R.length - 1)):¬ (p:Int)∣co g (g.length - 1):=by
 intro hd
 obtain ⟨n,n0,n1⟩:=G.prim hp.two
 obtain ⟨c,A,hc,hA⟩:=G.loc hp m
 have nl:n+1<g.length:=by
  rcases BG n g.length with z | z
  ·rcases BG (n+1) g.length with y | y
   ·exact y
   ·exact absurd hd (by rw [show g.length - 1=n by omega];exact n0)
  ·exact absurd (by rw [AX z];exact C8 _) n0
 rcases EJ A with z | ⟨B,lB,_,eB⟩
 ·have:c*co R (R.length - 1)=0:=by
   rw [hA,Bx,FE g z]
  rcases Int.mul_eq_zero.mp this with e | e
  ·exact hc (by rw [e];exact C8 _)
  ·exact lR.2 e
 ·have hB:∀ k,c*co R k=cvL B (co g) k:=λk=>by rw [hA,Bx,BK (λj=>(eB j).symm) g k,<-Bx]
  have bl:B.length+g.length<=R.length+1:=by
   rcases BG (R.length+1) (B.length+g.length) with z | z
   ·exfalso
    have b0:=lB.1
    have g0:=G.lz.1
    have e:=hB (B.length - 1+(g.length - 1))
    rw [AX ⋯] at e
    have ne:B≠[]:=λz=>by rw [z] at b0;simp at b0
    obtain ⟨T,t,hT⟩:∃ T t,B=T++[t]:=⟨B.dropLast,B.getLast ne,(FK ne).symm⟩
    have tl:T.length=B.length - 1:=by rw [hT];simp
    have tc:co B (B.length - 1)=t:=by rw [<-tl,hT];unfold co;simp [AU]
    rw [hT,DY,<-hT,Dq (n:=g.length) (λi hi=>AX hi) T _ ⋯] at e
    unfold Av at e
    rw [Zu ⋯,show B.length - 1+(g.length - 1) - T.length=g.length - 1 by omega] at e
    have e2:t*co g (g.length - 1)=0:=by omega
    rcases Int.mul_eq_zero.mp e2 with x | x
    ·exact lB.2 (tc.trans x)
    ·exact G.lz.2 x
   ·exact z
  have hh:=Jz n1 B (R.length - 1) ⋯
  rw [<-hB] at hh
  rcases hp.mulI hh with x | x
  ·exact hc x
  ·exact h x
theorem Dm.len {p:Nat} (hp:Pr p) {g f:List Int} (lg:0<g.length) (hl:¬ (p:Int)∣co g (g.length - 1)) (d:Dm (p:Int) (co g) (co f)) (h0:∃ k,¬ (p:Int)∣co f k):g.length<=f.length:=by
 rcases BG f.length g.length with z | z
 ·exfalso
  obtain ⟨S,hS⟩:=d
  have sS:=IE hp hl (λi hi=>by rw [AX ⋯];exact C8 _) S λk hk=>by
   have:=hS k
   rw [AX ⋯] at this
   have e:=Int.dvd_neg.mpr this
   rwa [show ∀ x:Int,-(0 - x)=x by intro x;omega] at e
  obtain ⟨k,hk⟩:=h0
  apply hk
  have c:∀ (S:List Int),(∀ s∈S,(p:Int)∣s)->∀ k,(p:Int)∣cvL S (co g) k:=by
   intro S
   induction S with
   | nil=>intro _ k;exact C8 _
   | cons x S ih=>
     intro h k
     rw [FB]
     refine C6 (Fl (h x (BC ..))) ?_
     cases k with
     | zero=>exact C8 _
     | succ k=>exact ih (λs hs=>h s (BN _ hs)) k
  have:=C6 (hS k) (c S sS k)
  rwa [Int.sub_add_cancel] at this
 ·exact z
structure RC (r o:Nat->Int) (g:List Int):Prop where
 lz:Lz g
 left:MQ (co g) r
 right:MQ (co g) o
 qi:QI r o (co g)
theorem Gen.rc {R O g:List Int} (G:Gen (co R) (co O) g):RC (co R) (co O) g:=
 ⟨G.lz,G.mq _ R (AS _) (QI.left _ _),G.mq _ O (AS _) (QI.right _ _),G.qi⟩
theorem Vq {r o:Nat->Int} {g h:List Int} (G:RC r o g) (lh:Lz h) (m1:MQ (co h) r) (m2:MQ (co h) o) (hl:g.length<=h.length):RC r o h:=by
 refine ⟨lh,m1,m2,G.qi.of_MQ ?_⟩
 obtain ⟨d,d0,T,hT⟩:=MQ.of_QI m1 m2 G.qi
 rcases EJ T with z | ⟨B,lB,_,eB⟩
 ·exfalso
  have:d*co g (g.length - 1)=0:=by rw [hT,Bx,FE h z]
  rcases Int.mul_eq_zero.mp this with e | e
  ·exact d0 e
  ·exact G.lz.2 e
 ·have hB:∀ k,d*co g k=cvL B (co h) k:=λk=>by rw [hT,Bx,BK (λj=>(eB j).symm) h k,<-Bx]
  have b0:=lB.1
  have g0:=lh.1
  have ne:B≠[]:=λz=>by rw [z] at b0;simp at b0
  obtain ⟨X,t,hX⟩:∃ X t,B=X++[t]:=⟨B.dropLast,B.getLast ne,(FK ne).symm⟩
  have tl:X.length=B.length - 1:=by rw [hX];simp
  have tc:co B (B.length - 1)=t:=by rw [<-tl,hX];unfold co;simp [AU]
  have one:B.length=1:=by
   rcases BG 1 B.length with y | y
   ·exfalso
    have e:=hB (B.length - 1+(h.length - 1))
    rw [AX ⋯,hX,DY,<-hX,Dq (n:=h.length) (λi hi=>AX hi) X _ ⋯] at e
    unfold Av at e
    rw [Zu ⋯,show B.length - 1+(h.length - 1) - X.length=h.length - 1 by omega] at e
    have e2:t*co h (h.length - 1)=0:=by omega
    rcases Int.mul_eq_zero.mp e2 with x | x
    ·exact lB.2 (tc.trans x)
    ·exact lh.2 x
   ·omega
  have X0:X=[]:=CU.mp ⋯
  have t0:t≠0:=λz=>lB.2 (tc.trans z)
  refine ⟨t,t0,[d],λk=>?_⟩
  have e:=hB k
  rw [hX,X0] at e
  cases k with
  | zero=>rw [Ar];rw [show ([]++[t]:List Int)=[t] from rfl,Ar] at e;omega
  | succ k=>rw [Ak,Ay];rw [show ([]++[t]:List Int)=[t] from rfl,Ak,Ay] at e;omega
end Bs
namespace Bs
noncomputable def Prim (g:List Int):Prop:=∀ c:Int,(∀ k,c∣co g k)->c.natAbs=1
theorem Prim.top {g:List Int} (P:Prim g) {p:Nat} (hp:2<=p):∃ n,¬ (p:Int)∣co g n/\∀ i,n<i->(p:Int)∣co g i:=by
 have key:∀ n,(∀ i,n<=i->(p:Int)∣co g i)->(∀ i,(p:Int)∣co g i)\/∃ n,¬ (p:Int)∣co g n/\∀ i,n<i->(p:Int)∣co g i:=by
  intro n
  induction n with
  | zero=>intro h;exact .inl λi=>h i (AV i)
  | succ n ih=>
    intro h
    by_cases hd:(p:Int)∣co g n
    ·exact ih λi hi=>by
      by_cases e:i=n
      ·rw [e];exact hd
      ·exact h i ⋯
    ·exact .inr ⟨n,hd,λi hi=>h i ⋯⟩
 rcases key g.length (λi hi=>by rw [AX hi];exact C8 _) with h | h
 ·have:=P (p:Int) h
  omega
 ·exact h
theorem gauss {g:List Int} (P:Prim g) {f:Nat->Int} (m:MQ (co g) f):∃ A:List Int,∀ k,f k=cvL A (co g) k:=by
 obtain ⟨c,c0,A,hA⟩:=m
 have key:∀ (m:Nat) (c:Int) (A:List Int),c.natAbs<=m->c≠0->(∀ k,c*f k=cvL A (co g) k)->∃ A:List Int,∀ k,f k=cvL A (co g) k:=by
  intro m
  induction m with
  | zero=>intro c A h h0;omega
  | succ m ih=>
    intro c A h h0 hA
    by_cases h1:c.natAbs=1
    ·rcases Int.natAbs_eq c with e | e
     ·exact ⟨A,λk=>by rw [<-hA k,e,h1];omega⟩
     ·exact ⟨A.map (-1*·),λk=>by rw [A6,<-hA k,e,h1];omega⟩
    ·obtain ⟨p,hp,pd,_⟩:=NA (m:=c.natAbs) ⋯
     have hd:(p:Int)∣c:=Cd.mp (by rw [Ce];exact pd)
     obtain ⟨n,n0,n1⟩:=P.top hp.two
     have dA:∀ a∈A,(p:Int)∣a:=IE hp n0 n1 A λk _=>by rw [<-hA k];exact Fl hd
     obtain ⟨c',rfl⟩:=hd
     have p2:=hp.two
     have c0':c'≠0:=λz=>h0 (by rw [z];omega)
     have eA:A=(A.map (·/ (p:Int))).map ((p:Int)*·):=by
      rw [Du]
      conv=>lhs;rw [<-List.map_id A]
      refine EB λa ha=>?_
      show a=(p:Int)*(a / (p:Int))
      rw [Int.mul_ediv_cancel' (dA a ha)]
     refine ih c' (A.map (·/ (p:Int))) ?_ c0' λk=>?_
     ·rw [BI,Ce] at h
      have pos:0<c'.natAbs:=by omega
      have:=CP c'.natAbs p2
      omega
     ·have e:=hA k
      rw [eA,A6,Int.mul_assoc] at e
      exact Int.eq_of_mul_eq_mul_left ⋯ e
 exact key _ c A (AS _) c0 hA
noncomputable def evI:List Int->Int->Int
 | [],_=>0
 | a::l,x=>a+x*evI l x
theorem IG:∀ (l:List Int) (x:Int),(∀ k,co l k=0)->evI l x=0
 | [],_,_=>rfl
 | a::l,x,h=>by
   have h0:a=0:=h 0
   show a+x*evI l x=0
   rw [h0,IG l x λk=>h (k+1)];omega
theorem J7:∀ (a b:List Int) (x:Int),(∀ k,co a k=co b k)->evI a x=evI b x
 | [],b,x,h=>(IG b x λk=>(h k).symm).symm
 | a::l,[],x,h=>IG (a::l) x h
 | a::l,b::m,x,h=>by
   have h0:a=b:=h 0
   show a+x*evI l x=b+x*evI m x
   rw [h0,J7 l m x λk=>h (k+1)]
theorem NF:∀ (a b:List Int) (x:Int),evI (Ae a b) x=evI a x+evI b x
 | [],b,x=>by show evI b x=0+evI b x;omega
 | a::l,[],x=>by rw [ID];show _=_+0;omega
 | a::l,b::m,x=>by
   show (a+b)+x*evI (Ae l m) x=a+x*evI l x+(b+x*evI m x)
   rw [NF l m x];ext
theorem NG (c:Int):∀ (a:List Int) (x:Int),evI (a.map (c*·)) x=c*evI a x
 | [],x=>by show (0:Int)=c*0;omega
 | a::l,x=>by
   show c*a+x*evI (l.map (c*·)) x=c*(a+x*evI l x)
   rw [NG c l x];ext
theorem NH:∀ (a b:List Int) (x:Int),evI (Au a b) x=evI a x*evI b x
 | [],b,x=>by show (0:Int)=0*_;omega
 | a::l,b,x=>by
   show evI (Ae (b.map (a*·)) (0::Au l b)) x=(a+x*evI l x)*evI b x
   rw [NF,NG]
   show a*evI b x+(0+x*evI (Au l b) x)=_
   rw [NH l b x];ext
theorem Vr (a b:List Int) (k:Nat):co (Au a b) k=cvL a (co b) k:=by
 rw [Bw,B4]
 exact BK (λj=>(Bw b j).symm) a k
theorem Vs {r a g:List Int} (h:∀ k,co r k=cvL a (co g) k) (x:Int):evI r x=evI a x*evI g x:=by
 rw [<-NH]
 exact J7 r (Au a g) x λk=>by rw [Vr];exact h k
theorem NI {b c:Nat} {x:Int} (hx:Bd c x):∀ (l:List Int),(∀ z∈l,Bd b z)->Bd (b+l.length*(c+1)) (evI l x)
 | [],_=>FY _
 | a::l,hb=>by
   show Bd _ (a+x*evI l x)
   have h1:=hb a (BC ..)
   have h2:=hx.mul (NI hx l λz hz=>hb z (BN _ hz))
   have e:(l.length+1)*(c+1)=l.length*(c+1)+(c+1):=by rw [DJ,Nat.one_mul]
   refine ((h1.mono (n:=c+(b+l.length*(c+1))) ⋯).add h2).mono ?_
   rw [Cr,e];omega
noncomputable def syn:List Int->Int->List Int
 | [],_=>[]
 | _::l,t=>evI l t::syn l t
theorem IH:∀ (l:List Int) (t:Int),(syn l t).length=l.length
 | [],_=>rfl
 | _::l,t=>congrArg (·+1) (IH l t)
theorem J8:∀ (l:List Int) (t x:Int),evI l x - evI l t=(x - t)*evI (syn l t) x
 | [],t,x=>by show (0:Int) - 0=_*0;omega
 | a::l,t,x=>by
   show a+x*evI l x - (a+t*evI l t)=(x - t)*(evI l t+x*evI (syn l t) x)
   have:=J8 l t x
   ext
theorem II:∀ (l:List Int) (t:Int) (k:Nat),co l k=(if k=0 then evI l t else co (syn l t) (k - 1)) - t*co (syn l t) k
 | [],t,k=>by
   rw [show co (syn [] t) k=0 from AX (AV _),show co (syn [] t) (k - 1)=0 from AX (AV _),AX (AV _)]
   show 0=(if k=0 then 0 else 0) - _
   split <;> omega
 | a::l,t,0=>by
   show a=a+t*evI l t - t*evI l t
   omega
 | a::l,t,k+1=>by
   have:=II l t k
   show co l k=(if k+1=0 then _ else co (evI l t::syn l t) (k+1 - 1)) - t*co (syn l t) k
   rw [Zt ⋯,this]
   cases k with
   | zero=>rfl
   | succ k=>rw [Zt ⋯];rfl
theorem Vt (l:List Int) (t:Int):co (syn l t) (l.length - 1)=0:=by
 induction l with
 | nil=>exact AX (AV _)
 | cons a l ih=>
   show co (evI l t::syn l t) l.length=0
   cases h:l.length with
   | zero=>rw [CU.mp h];rfl
   | succ m=>rw [h] at ih;exact ih
theorem interp {c:Nat}:∀ (d:Nat) (l:List Int) (y:Nat) (x:Nat->Int),(∀ k,d<k->co l k=0)->(∀ i,i<=d->Bd c (x i))->(∀ i j,i<=d->j<=d->i≠j->x i≠x j)->(∀ i,i<=d->Bd y (evI l (x i)))->∀ k,Bd (y+d*(c+3)) (co l k)
 | 0,l,y,x,h1,_,_,h4,k=>by
   cases k with
   | zero=>
     have e:evI l (x 0)=co l 0:=by
      cases l with
      | nil=>rfl
      | cons a l=>
        show a+x 0*evI l (x 0)=a
        rw [IG l (x 0) λk=>h1 (k+1) ⋯];omega
     have:=h4 0 (AS 0)
     rw [e] at this
     exact this.mono ⋯
   | succ k=>rw [h1 (k+1) ⋯];exact FY _
 | d+1,l,y,x,h1,h2,h3,h4,k=>by
   have hs:∀ j,d<j->co (syn l (x (d+1))) j=0:=by
    have step:∀ n,∀ j,d<j->l.length<=j+n->co (syn l (x (d+1))) j=0:=by
     intro n
     induction n with
     | zero=>intro j _ h;exact AX (by rw [IH];omega)
     | succ n ih=>
       intro j hj h
       have e:=II l (x (d+1)) (j+1)
       rw [h1 (j+1) ⋯,Zt ⋯,ih (j+1) ⋯ ⋯] at e
       rw [show j+1 - 1=j by omega] at e
       omega
    intro j hj
    exact step l.length j hj ⋯
   have ih:=interp d (syn l (x (d+1))) (y+1) x hs (λi hi=>h2 i ⋯) (λi j hi hj=>h3 i j ⋯ ⋯) (λi hi=>by
    have e:=J8 l (x (d+1)) (x i)
    have ne:x i - x (d+1)≠0:=λz=>h3 i (d+1) ⋯ ⋯ ⋯ ⋯
    have b:=(h4 i ⋯).sub (h4 (d+1) ⋯)
    rw [e] at b
    refine b.le ?_
    rw [BI]
    exact Fm _ ⋯)
   have e:=II l (x (d+1)) k
   rw [e]
   have hx:=h2 (d+1) (AS _)
   have b2:=hx.mul (ih k)
   have em:(d+1)*(c+3)=d*(c+3)+(c+3):=by rw [DJ,Nat.one_mul]
   have b1:Bd (c+(y+1+d*(c+3))) (if k=0 then evI l (x (d+1)) else co (syn l (x (d+1))) (k - 1)):=by
    split
    ·exact (h4 (d+1) (AS _)).mono ⋯
    ·exact (ih (k - 1)).mono ⋯
   exact (b1.sub b2).mono ⋯
end Bs
namespace Bs
open PySem L2
noncomputable def isN (H:Hp) (v:V) (q:Nu):Prop:=∃ p,v=.ref p/\H p=some (.tup [.int q.1,.int q.2])
noncomputable def Nums (H:Hp):List V->List Nu->Prop
 | [],[]=>True
 | x::xs,q::l=>isN H x q/\Nums H xs l
 | _,_=>False
noncomputable def Tp (H H':Hp):Prop:=∀ b xs,H b=some (.tup xs)->H' b=some (.tup xs)
theorem tpS {H H':Hp} (s:Same H H'):Tp H H':=λb xs h=>s b _ h
theorem Kp.tp {p:Addr} {H H':Hp} {xs:List V} (k:Kp p H H') (h:H p=some (.lst xs)):Tp H H':=λb ys q=>k b _ (Li q h (by intro z;cases z)) q
theorem Tp.updL {p:Addr} {H:Hp} {xs ys:List V} (h:H p=some (.lst xs)):Tp H (upd H p (.lst ys)):=Kp.tp Kp.upd h
theorem isN.tp {H H':Hp} {v:V} {q:Nu} (h:isN H v q) (t:Tp H H'):isN H' v q:=let ⟨p,e,z⟩:=h;⟨p,e,t _ _ z⟩
theorem Nums.tp {H H':Hp} (t:Tp H H'):∀ {xs:List V} {l:List Nu},Nums H xs l->Nums H' xs l
 | [],[],_=>trivial
 | _::_,_::_,h=>⟨h.1.tp t,Nums.tp t h.2⟩
 | [],_::_,h=>h.elim
 | _::_,[],h=>h.elim
theorem Nums.length {H:Hp}:∀ {xs:List V} {l:List Nu},Nums H xs l->xs.length=l.length
 | [],[],_=>rfl
 | _::_,_::_,h=>congrArg (·+1) (Nums.length h.2)
 | [],_::_,h=>h.elim
 | _::_,[],h=>h.elim
theorem Nums.get {H:Hp}:∀ {xs:List V} {l:List Nu} {i:Nat} {v:V},Nums H xs l->xs[i]?=some v->∃ q,l[i]?=some q/\isN H v q
 | [],[],_,_,_,e=>by simp at e
 | _::_,q::_,0,_,h,e=>by simp at e;subst e;exact ⟨q,rfl,h.1⟩
 | _::_,_::_,i+1,_,h,e=>by
   obtain ⟨q,h1,h2⟩:=Nums.get (i:=i) h.2 (by simpa using e)
   exact ⟨q,by simpa using h1,h2⟩
 | [],_::_,_,_,h,_=>h.elim
 | _::_,[],_,_,h,_=>h.elim
theorem Nums.append {H:Hp}:∀ {xs ys:List V} {l m:List Nu},Nums H xs l->Nums H ys m->Nums H (xs++ys) (l++m)
 | [],_,[],_,_,h=>h
 | _::_,_,_::_,_,h,h2=>⟨h.1,Nums.append h.2 h2⟩
 | [],_,_::_,_,h,_=>h.elim
 | _::_,_,[],_,h,_=>h.elim
theorem Nums.one {H:Hp} {v:V} {q:Nu} (h:isN H v q):Nums H [v] [q]:=⟨h,trivial⟩
theorem J9 {α:Type} (v:α):∀ n:Nat,(List.replicate n [v]).flatten=List.replicate n v
 | 0=>rfl
 | n+1=>by rw [List.replicate_succ,List.flatten_cons,J9 v n];rfl
theorem DP {α:Type} {xs:List α} {i:Int} {j:Nat} {v:α} (e:i=(j:Int)) (h:xs[j]?=some v):atI xs i=some v:=by subst e;exact Gk h
theorem NJ {H:Hp} {p:Addr} {q:Nu}:isN (upd H p (.tup [.int q.1,.int q.2])) (.ref p) q:=⟨p,rfl,upd_same⟩
theorem Vv {xs:List V} {m:Nat} (h:m<=xs.length):Cg xs none (some (m:Int))=xs.take m:=by
 unfold Cg HT.sIx
 simp only [List.drop_zero,Nat.sub_zero,Dc]
 rw [Zt ⋯,Nat.min_eq_left h]
noncomputable def Vw (H:Hp) (Q:VK) (l:List Nu):Prop:=∀ (r:Addr) (zs:List V) (H':Hp),Same H H'->H' r=some (.tup zs)->Nums H' zs l->Q (.ref r) H'
noncomputable def Cv (q:Nu):PySem.W.Dat:=.tuple [.int q.1,.int q.2]
theorem Fb {H:Hp} {v:V} {q:Nu} (h:isN H v q):RepD H v (Cv q):=by
 obtain ⟨p,rfl,hp⟩:=h
 exact .tup hp (.cons (.int _) (.cons (.int _) .nil))
theorem NK {H:Hp}:∀ {xs:List V} {l:List Nu},Nums H xs l->RepA H xs (l.map Cv)
 | [],[],_=>.nil
 | _::_,_::_,h=>.cons (Fb h.1) (NK h.2)
 | [],_::_,h=>h.elim
 | _::_,[],h=>h.elim
theorem Vx {H:Hp} {p:Addr} {xs:List V} {l:List Nu} (hp:H p=some (.lst xs)) (h:Nums H xs l):RepD H (.ref p) (.list (l.map Cv)):=.lst hp (NK h)
theorem okN (q:Nu) (n:Nat):PySem.W.kqdOk (n+1) (Cv q)=true:=by simp [Cv,PySem.W.kqdOk]
section
variable {σ:L2.St} {H:Hp} {Q:VK} {D:Ends} {rest:TS} {sp:Sp} {E:XK}
theorem KC {i:Nat} {v:V} (h1:σ[i]?=some (some v)) (h:Q v H):AA i σ H Q:=⟨v,h1,h⟩
theorem Gz {ta:TE} {k:Nat} (h:ta σ H λx H1=>sp [x] H1 (λv H'=>rest D (σ.set k (some v)) H') E):AG (AJ (AN sp [] E (AB ta AC)) (AF k)) rest D σ H:=h
theorem Ei {ta tb:TE} {k:Nat} (h:ta σ H λx H1=>tb σ H1 λy H2=>sp [x,y] H2 (λv H'=>rest D (σ.set k (some v)) H') E):AG (AJ (AN sp [] E (AB ta (AB tb AC))) (AF k)) rest D σ H:=h
theorem Vy {ta tb tc:TE} {k:Nat} (h:ta σ H λx H1=>tb σ H1 λy H2=>tc σ H2 λz H3=>sp [x,y,z] H3 (λv H'=>rest D (σ.set k (some v)) H') E):AG (AJ (AN sp [] E (AB ta (AB tb (AB tc AC)))) (AF k)) rest D σ H:=h
theorem G1 {ta:TE} (h:ta σ H λx H1=>sp [x] H1 Q E):AN sp [] E (AB ta AC) σ H Q:=h
theorem By {ta tb:TE} (h:ta σ H λx H1=>tb σ H1 λy H2=>sp [x,y] H2 Q E):AN sp [] E (AB ta (AB tb AC)) σ H Q:=h
theorem NL {ta tb tc:TE} (h:ta σ H λx H1=>tb σ H1 λy H2=>tc σ H2 λz H3=>sp [x,y,z] H3 Q E):AN sp [] E (AB ta (AB tb (AB tc AC))) σ H Q:=h
theorem BE {te:TE} {k:Nat} (h:te σ H λx H1=>rest D (σ.set k (some x)) H1):AG (AJ te (AF k)) rest D σ H:=h
theorem EK {te:TE} (h:te σ H D.rt):AZ te D σ H:=h
theorem GI {ta tb:TE} (h:ta σ H λx H1=>tb σ H1 λy H2=>[x,y].length<=sizeLine/\∀ p,H2 p=none->Q (.ref p) (upd H2 p (.tup [x,y]))):CK (AB ta (AB tb AC)) σ H Q:=h
theorem NM {ta tb tc:TE} (h:ta σ H λx H1=>tb σ H1 λy H2=>tc σ H2 λz H3=>[x,y,z].length<=sizeLine/\∀ p,H3 p=none->Q (.ref p) (upd H3 p (.tup [x,y,z]))):CK (AB ta (AB tb (AB tc AC))) σ H Q:=h
theorem IJ {ta:TE} (h:ta σ H λx H1=>[x].length<=sizeLine/\∀ p,H1 p=none->Q (.ref p) (upd H1 p (.lst [x]))):BW (AB ta AC) σ H Q:=h
theorem IK {ta tb:TE} (h:ta σ H λx H1=>tb σ H1 λy H2=>[x,y].length<=sizeLine/\∀ p,H2 p=none->Q (.ref p) (upd H2 p (.lst [x,y]))):BW (AB ta (AB tb AC)) σ H Q:=h
theorem r_c {v:V} (h:Q v H):tC v σ H Q:=h
theorem CL {r:R2} {ta tb:TE} (h:ta σ H λx H1=>tb σ H1 λy H2=>r x y H2 Q):tOp r ta tb σ H Q:=h
theorem NN {b:List V->Hp->VK->Prop} {ta:TE} (h:ta σ H λx H1=>b [x] H1 Q):tCB b (AB ta AC) σ H Q:=h
theorem NO {ta:TA} {g:TG} {tb:TS} (h:ta σ H (λvs H1=>∃ i j:Int,vs=[.int i,.int j,.int (-1)]/\(-(2 ^ 62)<=i/\i<2 ^ 62/\-(2 ^ 62)<=j/\j<2 ^ 62)/\ForJ (Itd i (i - j).toNat) g tb { D with nx:=rest D } σ H1)):AG (BM (FW ta) g tb) rest D σ H:=h
theorem KD {te:TE} {g:TG} (h:te σ H λx H1=>g x σ H1 (rest D)):AG (AJ te g) rest D σ H:=h
theorem Vz {i:Nat} {v:V} {σ:L2.St} {H:Hp} {Q:L2.St->Hp->Prop} (h:Q (σ.set i (some v)) H):AF i v σ H Q:=h
theorem V0 {K:W.Frag} {tl:TE} {capt:List (Option Nat)} {g:TG} {te:TE} {σ:L2.St} {H:Hp} {Q:VK} (h:tl σ H (λx H1=>∃ a,x=.ref a/\(∃ xs,SqL K H1 a xs)/\CompJ (Itl K a) capt g te σ Q H1)):CF (CD K tl) capt g te σ H Q:=h
theorem Dr {te:TE} {k:Nat} {D:Ends} {σ:L2.St} {H:Hp} (h:te σ H λx H1=>D.nx (σ.set k (some x)) H1):AJ te (AF k) D σ H:=h
theorem B9 {c:TT} {t u:TS} (h:c σ H λb H1=>if b=true then t { D with nx:=rest D } σ H1 else u { D with nx:=rest D } σ H1):AG (A5 c t u) rest D σ H:=h
theorem Bz {te:TE} {Q:Bool->Hp->Prop} (h:te σ H λx H'=>∃ k,x=.bl k/\Q k H'):Ab te σ H Q:=h
theorem D6 {x:V}:[x].length<=sizeLine:=by show 1<=_;exact sz ∅
theorem Cw {x y:V}:[x,y].length<=sizeLine:=by show 2<=_;exact sz ∅
theorem GJ {x y z:V}:[x,y,z].length<=sizeLine:=by show 3<=_;exact sz ∅
theorem NP {H:Hp} {a x y:Addr} {A X Y:HO} {P:Hp->Prop} (ha:H a=none) (hx:upd H a A x=none) (hy:upd (upd H a A) x X y=none) (k:∀ H1,H1 a=some A->H1 y=some Y->Same H H1->a≠y->H y=none->P H1):P (upd (upd (upd H a A) x X) y Y):=by
 have sa:=AR ha A
 have sx:=AR hx X
 have sy:=AR hy Y
 refine k _ (sy _ _ (sx _ _ upd_same)) upd_same (λz o h=>sy z o (sx z o (sa z o h))) (BO (sx _ _ upd_same) hy) ?_
 cases e:H y with
 | none=>rfl
 | some o=>have:=sx _ _ (sa _ _ e);rw [hy] at this;cases this
end
end Bs
set_option maxHeartbeats 4000000
namespace Bs
open PySem L2
theorem NQ {g:Nat->Rat} {n:Nat} (h:∀ i,n<i->g i=0):∀ (a:List Rat) (k:Nat),a.length+n<=k->cvL a g k=0
 | [],_,_=>rfl
 | x::a,0,hk=>absurd hk (by rw [Cr];omega)
 | x::a,k+1,hk=>by
   rw [Cr] at hk
   rw [Ak,h (k+1) ⋯,NQ h a k ⋯];ext
theorem NR {g:Nat->Rat} {n:Nat} (h0:g n≠0) (h:∀ i,n<i->g i=0) (S:List Rat):(∀ k,n<=k->cvL S g k=0)->∀ s∈S,s=0:=by
 induction hl:S.length generalizing S with
 | zero=>intro _ s hs;rw [CU.mp hl] at hs;exact nomatch hs
 | succ m ih=>
   intro hk
   have ne:S≠[]:=λz=>by rw [z] at hl;simp at hl
   obtain ⟨T,t,rfl⟩:∃ T t,S=T++[t]:=⟨S.dropLast,S.getLast ne,(FK ne).symm⟩
   have ht:t=0:=by
    have a:=hk (T.length+n) ⋯
    rw [DY,NQ h T _ (AS _)] at a
    unfold Av at a
    rw [Zu ⋯,show T.length+n - T.length=n by omega] at a
    have a':t*g n=0:=by ext
    rcases CB.mp a' with z | z
    ·exact z
    ·exact absurd z h0
   have hT2:=ih T (by simpa using hl) (λk hk2=>by
    have a:=hk k hk2
    rw [DY,ht] at a
    ext)
   intro s hs
   rcases CZ.mp hs with h | h
   ·exact hT2 s h
   ·rw [Az.mp h];exact ht
theorem KE {g:Nat->Rat}:∀ (S:List Rat),(∀ s∈S,s=0)->∀ k,cvL S g k=0
 | [],_,_=>rfl
 | x::S,h,0=>by rw [Ar,h x (BC ..)];ext
 | x::S,h,k+1=>by rw [Ak,h x (BC ..),KE S (λs hs=>h s (BN _ hs)) k];ext
theorem V3 {G:Nat->Rat} {n:Nat} (h0:G n≠0) (hG:∀ i,n<i->G i=0) {A B:List Rat} (h:∀ k,cvL A G k=cvL B G k) (g:Nat->Rat) (k:Nat):cvL A g k=cvL B g k:=by
 have z:=KE (g:=g) (Ae A (B.map ((-1:Rat)*·))) (NR h0 hG _ λk _=>by rw [BT,A6,h k];ext) k
 rw [BT,A6] at z
 ext
structure Sr where
 c:Nat->Rat
theorem Sr.ext' {f g:Sr} (h:∀ k,f.c k=g.c k):f=g:=by
 cases f;cases g;congr;exact funext h
noncomputable def tr (n:Nat) (f:Nat->Rat):List Rat:=(List.range n).map f
theorem Fc (n:Nat) (f:Nat->Rat) (k:Nat):(tr n f).getD k 0=if k<n then f k else 0:=by
 unfold tr
 rw [AU,Af]
 by_cases h:k<n
 ·rw [DS h,Zu h];rfl
 ·rw [Zt h,Bv (by rw [Bm];omega)];rfl
theorem G2:∀ (a b:List Rat) (g h:Nat->Rat) (k:Nat),(∀ i,i<=k->a.getD i 0=b.getD i 0)->(∀ i,i<=k->g i=h i)->cvL a g k=cvL b h k:=by
 intro a
 induction a with
 | nil=>
   intro b
   induction b with
   | nil=>intro g h k _ _;rfl
   | cons y b ih=>
     intro g h k ab gh
     have y0:=ab 0 (AV _)
     simp at y0
     cases k with
     | zero=>rw [Ay,Ar,<-y0];ext
     | succ k=>
       rw [Ay,Ak,<-y0]
       have:=ih g h k (λi hi=>by have:=ab (i+1) ⋯;simpa using this) (λi hi=>gh i ⋯)
       rw [Ay] at this
       ext
 | cons x a ih=>
   intro b g h k ab gh
   cases b with
   | nil=>
     have x0:=ab 0 (AV _)
     simp at x0
     cases k with
     | zero=>rw [Ay,Ar,x0];ext
     | succ k=>
       rw [Ay,Ak,x0]
       have:=ih [] g h k (λi hi=>by have:=ab (i+1) ⋯;simpa using this) (λi hi=>gh i ⋯)
       rw [Ay] at this
       ext
   | cons y b=>
     have x0:=ab 0 (AV _)
     simp at x0
     cases k with
     | zero=>rw [Ar,Ar,x0,gh 0 (AS _)]
     | succ k=>
       rw [Ak,Ak,x0,gh _ (AS _),ih b g h k (λi hi=>by have:=ab (i+1) ⋯;simpa using this) (λi hi=>gh i ⋯)]
namespace Sr
noncomputable def zero:Sr:=⟨λ_=>0⟩
noncomputable def one:Sr:=⟨AW⟩
noncomputable def add (f g:Sr):Sr:=⟨λk=>f.c k+g.c k⟩
noncomputable def neg (f:Sr):Sr:=⟨λk=>- f.c k⟩
noncomputable def mul (f g:Sr):Sr:=⟨λk=>cvL (tr (k+1) f.c) g.c k⟩
noncomputable def num (x:Rat):Sr:=⟨λk=>x*AW k⟩
theorem IL (f g:Sr) {n k:Nat} (h:k<n):(mul f g).c k=cvL (tr n f.c) g.c k:=by
 refine G2 _ _ _ _ _ (λi hi=>?_) (λ_ _=>rfl)
 rw [Fc,Fc,Zu ⋯,Zu ⋯]
theorem KF (f g:Sr) {n m k:Nat} (h:k<n) (h':k<m):(mul f g).c k=cvL (tr n f.c) (cvL (tr m g.c) AW) k:=by
 rw [IL f g h]
 refine G2 _ _ _ _ _ (λ_ _=>rfl) (λi hi=>?_)
 rw [Do,Fc,Zu ⋯]
theorem mul_comm (f g:Sr):mul f g=mul g f:=ext' λk=>by
 rw [KF f g (EU k) (EU k),KF g f (EU k) (EU k),GF]
theorem mul_assoc (f g h:Sr):mul (mul f g) h=mul f (mul g h):=ext' λk=>by
 rw [IL (mul f g) h (EU k),IL f (mul g h) (EU k)]
 have e1:cvL (tr (k+1) (mul f g).c) h.c k=cvL (Au (tr (k+1) f.c) (tr (k+1) g.c)) h.c k:=by
  refine G2 _ _ _ _ _ (λi hi=>?_) (λ_ _=>rfl)
  rw [Fc,Zu ⋯,<-Do,B4,KF f g (n:=k+1) (m:=k+1) ⋯ ⋯]
 rw [e1,B4]
 exact G2 _ _ _ _ _ (λ_ _=>rfl) (λi hi=>(IL g h ⋯).symm)
theorem mul_add (f g h:Sr):mul f (add g h)=add (mul f g) (mul f h):=ext' λk=>by
 show cvL (tr (k+1) f.c) (λk=>g.c k+h.c k) k=_
 rw [GE];rfl
theorem mul_one (f:Sr):mul f one=f:=ext' λk=>by
 show cvL (tr (k+1) f.c) AW k=_
 rw [Do,Fc,Zu (EU k)]
theorem mul_zero (f:Sr):mul f zero=zero:=ext' λk=>by
 show cvL (tr (k+1) f.c) (λ_=>0) k=0
 have:=DX (0:Rat) (λ_=>0) (tr (k+1) f.c) k
 rw [show (λk:Nat=>(0:Rat)*(λ_=>(0:Rat)) k)=λ_=>0 from funext λ_=>by grind] at this
 rw [this];ext
noncomputable def npow (f:Sr):Nat->Sr
 | 0=>one
 | n+1=>mul (npow f n) f
noncomputable instance:Add Sr:=⟨add⟩
noncomputable instance:Mul Sr:=⟨mul⟩
noncomputable instance:Neg Sr:=⟨neg⟩
noncomputable instance:Sub Sr:=⟨λf g=>add f (neg g)⟩
noncomputable instance:NatCast Sr:=⟨λn=>num (n:Rat)⟩
noncomputable instance:IntCast Sr:=⟨λn=>num (n:Rat)⟩
noncomputable instance (n:Nat):OfNat Sr n:=⟨num (n:Rat)⟩
noncomputable instance:Pow Sr Nat:=⟨npow⟩
noncomputable instance:SMul Nat Sr:=⟨λn f=>mul (num (n:Rat)) f⟩
noncomputable instance:SMul Int Sr:=⟨λn f=>mul (num (n:Rat)) f⟩
theorem num0:num 0=zero:=ext' λk=>by show 0*AW k=(0:Rat);ext
theorem num1:num 1=one:=ext' λk=>by show 1*AW k=(AW k:Rat);ext
theorem NT (x y:Rat):num (x+y)=add (num x) (num y):=ext' λk=>by show (x+y)*AW k=x*AW k+y*AW k;ext
theorem KG (x:Rat):num (-x)=neg (num x):=ext' λk=>by show (-x)*AW k = -(x*AW k);ext
theorem add_comm (f g:Sr):add f g=add g f:=ext' λk=>by show f.c k+g.c k=g.c k+f.c k;ext
theorem add_assoc (f g h:Sr):add (add f g) h=add f (add g h):=ext' λk=>by show f.c k+g.c k+h.c k=f.c k+(g.c k+h.c k);ext
theorem add_zero (f:Sr):add f zero=f:=ext' λk=>by show f.c k+0=f.c k;ext
theorem KH (f:Sr):add (neg f) f=zero:=ext' λk=>by show -f.c k+f.c k=0;ext
theorem add_mul (f g h:Sr):mul (add f g) h=add (mul f h) (mul g h):=by rw [mul_comm,mul_add,mul_comm h f,mul_comm h g]
theorem neg_mul (f g:Sr):mul (neg f) g=neg (mul f g):=by
 have h:add (mul (neg f) g) (mul f g)=zero:=by rw [<-add_mul,KH,mul_comm,mul_zero]
 have h2:add (neg (mul f g)) (mul f g)=zero:=KH _
 refine ext' λk=>?_
 have a:=Z3 (congrArg Sr.c h) k
 have b:=Z3 (congrArg Sr.c h2) k
 have a:(mul (neg f) g).c k+(mul f g).c k=0:=a
 have b:(neg (mul f g)).c k+(mul f g).c k=0:=b
 ext
noncomputable instance:Lean.Grind.CommRing Sr where
 add_zero f:=(congrArg (add f) num0).trans (add_zero f)
 add_comm:=add_comm
 add_assoc:=add_assoc
 mul_assoc:=mul_assoc
 mul_comm:=mul_comm
 mul_one f:=(congrArg (mul f) num1).trans (mul_one f)
 one_mul f:=(congrArg (λz=>mul z f) num1).trans ((mul_comm _ _).trans (mul_one f))
 left_distrib:=mul_add
 right_distrib:=add_mul
 zero_mul f:=by show mul (num 0) f=num 0;rw [num0,mul_comm,mul_zero]
 mul_zero f:=by show mul f (num 0)=num 0;rw [num0,mul_zero]
 pow_zero f:=num1.symm
 pow_succ f n:=rfl
 ofNat_succ n:=by
  show num ((n+1:Nat):Rat)=add (num (n:Rat)) (num 1)
  rw [<-NT];push_cast;rfl
 ofNat_eq_natCast n:=rfl
 nsmul_eq_natCast_mul n f:=rfl
 sub_eq_add_neg f g:=rfl
 neg_add_cancel f:=(KH f).trans num0.symm
 intCast_neg n:=by show num ((-n:Int):Rat)=neg (num (n:Rat));rw [<-KG];push_cast;rfl
 intCast_ofNat n:=rfl
 neg_zsmul n f:=by show mul (num ((-n:Int):Rat)) f=neg (mul (num (n:Rat)) f);rw [show ((-n:Int):Rat) = -(n:Rat) by push_cast;rfl,KG,neg_mul]
 zsmul_natCast_eq_nsmul n f:=rfl
end Sr
namespace Sr
noncomputable def L (a:List Rat):Sr:=⟨cvL a AW⟩
theorem L_mul (a:List Rat) (g:Sr):L a*g=⟨cvL a g.c⟩:=ext' λk=>by
 refine G2 _ _ _ _ _ (λi hi=>?_) (λ_ _=>rfl)
 rw [Fc,Zu ⋯]
 exact Do a i
noncomputable def Bn (f:Sr) (n:Nat):Prop:=∀ k,n<=k->f.c k=0
theorem Bn.row {f:Sr} {n:Nat} (h:Bn f n):L (tr n f.c)=f:=ext' λk=>by
 show cvL (tr n f.c) AW k=f.c k
 rw [Do,Fc]
 by_cases hk:k<n
 ·rw [Zu hk]
 ·rw [Zt hk,h k ⋯]
noncomputable def Pol (f:Sr):Prop:=∃ a,f=L a
theorem Pol.L (a:List Rat):Pol (L a):=⟨a,rfl⟩
theorem Bn.pol {f:Sr} {n:Nat} (h:Bn f n):Pol f:=⟨_,h.row.symm⟩
theorem L_bn (a:List Rat):Bn (Sr.L a) a.length:=λk hk=>by
 show cvL a AW k=0
 rw [Do,AU,Bv hk];rfl
theorem Pol.bn {f:Sr} (h:Pol f):∃ n,Bn f n:=let ⟨a,e⟩:=h;⟨a.length,e ▸ L_bn a⟩
theorem Pol.add {f g:Sr} (h:Pol f) (h':Pol g):Pol (f+g):=by
 obtain ⟨a,rfl⟩:=h;obtain ⟨b,rfl⟩:=h'
 exact ⟨Ae a b,ext' λk=>(BT AW a b k).symm⟩
theorem Pol.mul {f g:Sr} (h:Pol f) (h':Pol g):Pol (f*g):=by
 obtain ⟨a,rfl⟩:=h;obtain ⟨b,rfl⟩:=h'
 exact ⟨Au a b,by rw [L_mul];exact ext' λk=>(B4 AW a b k).symm⟩
theorem Pol.num (x:Rat):Pol (num x):=⟨[x],ext' λk=>by
 show x*AW k=cvL [x] AW k
 cases k with
 | zero=>rw [Ar];ext
 | succ k=>rw [Ak,Ay];ext⟩
theorem Pol.nat (n:Nat):Pol (OfNat.ofNat n:Sr):=Pol.num (n:Rat)
theorem Pol.neg {f:Sr} (h:Pol f):Pol (-f):=by
 have e:-f=Sr.num (-1)*f:=by
  have:Sr.num (-1)=(-1:Sr):=KG 1
  rw [this];ext
 rw [e];exact (Pol.num _).mul h
theorem Pol.sub {f g:Sr} (h:Pol f) (h':Pol g):Pol (f - g):=by
 have e:f - g=f + -g:=by ext
 rw [e];exact h.add h'.neg
theorem Pol.pow {f:Sr} (h:Pol f):∀ n:Nat,Pol (f ^ n)
 | 0=>(num1 ▸ Pol.num 1:Pol one)
 | n+1=>(h.pow n).mul h
theorem top_ex {f:Sr}:∀ n,Bn f n->f=0\/∃ m,m<n/\f.c m≠0/\Bn f (m+1)
 | 0,h=>.inl (ext' λk=>by rw [h k (AV _)];show 0=((0:Nat):Rat)*AW k;push_cast;ext)
 | n+1,h=>by
   by_cases z:f.c n=0
   ·rcases top_ex n (λk hk=>by rcases Nat.eq_or_lt_of_le hk with e | e;exact e ▸ z;exact h k e) with q | ⟨m,m1,m2,m3⟩
    ·exact .inl q
    ·exact .inr ⟨m,⋯,m2,m3⟩
   ·exact .inr ⟨n,⋯,z,h⟩
theorem zero_c (k:Nat):(0:Sr).c k=0:=by show ((0:Nat):Rat)*AW k=0;push_cast;ext
theorem cancel {f g h:Sr} (pf:Pol f) (pg:Pol g) (ph:Pol h) (h0:h≠0) (e:f*h=g*h):f=g:=by
 obtain ⟨a,rfl⟩:=pf;obtain ⟨b,rfl⟩:=pg
 obtain ⟨n,hn⟩:=ph.bn
 rcases top_ex n hn with z | ⟨m,_,m1,m2⟩
 ·exact absurd z h0
 rw [L_mul,L_mul] at e
 exact ext' λk=>V3 m1 (λi hi=>m2 i hi) (λk=>Z3 (congrArg Sr.c e) k) AW k
theorem ne_mul {f g:Sr} (pf:Pol f) (pg:Pol g) (f0:f≠0) (g0:g≠0):f*g≠0:=λe=>f0 (cancel pf (Pol.nat 0) pg g0 (by rw [e];ext))
noncomputable def X (n:Nat):Sr:=L (List.replicate n 0++[1])
theorem IM (n:Nat) (g:Sr) (k:Nat):(X n*g).c k=if n<=k then g.c (k - n) else 0:=by
 unfold X
 rw [L_mul]
 show cvL (List.replicate n 0++[1]) g.c k=_
 rw [GH]
 unfold Av
 by_cases h:n<=k
 ·rw [Zu h,Zu h]
  cases k - n with
  | zero=>rw [Ar];ext
  | succ k=>rw [Ak,Ay];ext
 ·rw [Zt h,Zt h]
theorem num_mul (x:Rat) (g:Sr) (k:Nat):(num x*g).c k=x*g.c k:=by
 have:num x=L [x]:=ext' λk=>by
  show x*AW k=cvL [x] AW k
  cases k with
  | zero=>rw [Ar];ext
  | succ k=>rw [Ak,Ay];ext
 rw [this,L_mul]
 show cvL [x] g.c k=_
 cases k with
 | zero=>rw [Ar];ext
 | succ k=>rw [Ak,Ay];ext
theorem V4 (f g:Sr) (k:Nat):(f - g).c k=f.c k - g.c k:=by show f.c k + - g.c k=_;ext
theorem divide {g:Sr} {m:Nat} (g0:g.c m≠0) (hg:Bn g (m+1)):∀ (n:Nat) (f:Sr),Bn f n->∃ q r,Pol q/\Bn r m/\f=q*g+r
 | 0,f,h=>⟨0,f,Pol.nat 0,λk _=>h k (AV _),()⟩
 | n+1,f,h=>by
   by_cases c:n+1<=m
   ·exact ⟨0,f,Pol.nat 0,λk hk=>h k ⋯,()⟩
   ·obtain ⟨q,r,pq,br,e⟩:=divide g0 hg n (f - num (f.c n*(g.c m)⁻¹)*(X (n - m)*g)) λk hk=>by
     rw [V4,num_mul,IM,Zu ⋯]
     rcases Nat.eq_or_lt_of_le hk with z | z
     ·rw [<-z,show n - (n - m)=m by omega]
      have:(g.c m)⁻¹*g.c m=1:=Rat.inv_mul_cancel _ g0
      ext
     ·rw [h k z,hg (k - (n - m)) ⋯];ext
    exact ⟨q+num (f.c n*(g.c m)⁻¹)*X (n - m),r,pq.add ((Pol.num _).mul (Pol.L _)),br,()⟩
theorem NU:∀ (n:Nat) (S T:Sr),Pol S->Bn T n->(S≠0\/T≠0)->∃ g r e U W,Pol g/\Pol r/\Pol e/\Pol U/\Pol W/\g≠0/\S=g*r/\T=g*e/\U*r+W*e=1:=by
 intro n
 induction n using Nat.strongRecOn with
 | _ n ih=>
   intro S T pS bT h
   by_cases z:T=0
   ·exact ⟨S,1,0,1,0,pS,Pol.nat 1,Pol.nat 0,Pol.nat 1,Pol.nat 0,by rcases h with h | h;exact h;exact absurd z h,(),by rw [z];ext,()⟩
   ·rcases top_ex n bT with q | ⟨m,mn,m0,mb⟩
    ·exact absurd q z
    obtain ⟨a,rfl⟩:=pS
    obtain ⟨q,r,pq,br,e⟩:=divide m0 mb _ _ (L_bn a)
    obtain ⟨g,r1,e1,U,W,pg,pr,pe,pU,pW,g0,h1,h2,h3⟩:=ih m mn T r bT.pol br (.inl z)
    exact ⟨g,q*r1+e1,r1,W,U - W*q,pg,(pq.mul pr).add pe,pr,pW,pU.sub (pW.mul pq),g0,by rw [e,h1,h2];ext,h1,()⟩
noncomputable def D (f:Sr):Sr:=⟨λk=>((k:Rat)+1)*f.c (k+1)⟩
theorem NV (f g:Sr):D (f+g)=D f+D g:=ext' λk=>by show ((k:Rat)+1)*(f.c (k+1)+g.c (k+1))=((k:Rat)+1)*f.c (k+1)+((k:Rat)+1)*g.c (k+1);ext
theorem D_num (x:Rat) (g:Sr):D (num x*g)=num x*D g:=ext' λk=>by
 rw [num_mul]
 show ((k:Rat)+1)*(num x*g).c (k+1)=x*(((k:Rat)+1)*g.c (k+1))
 rw [num_mul];ext
theorem D_X (g:Sr):D (X 1*g)=g+X 1*D g:=ext' λk=>by
 show ((k:Rat)+1)*(X 1*g).c (k+1)=g.c k+(X 1*D g).c k
 rw [IM,IM,Zu ⋯]
 cases k with
 | zero=>rw [Zt ⋯];push_cast;show ((0:Nat)+1)*g.c 0=_;push_cast;ext
 | succ k=>rw [Zu ⋯];show (((k+1:Nat):Rat)+1)*g.c (k+1)=g.c (k+1)+((k:Rat)+1)*g.c (k+1);push_cast;ext
theorem NW (x:Rat) (a:List Rat):L (x::a)=num x+X 1*L a:=ext' λk=>by
 show cvL (x::a) AW k=x*AW k+(X 1*L a).c k
 rw [IM,FB]
 cases k with
 | zero=>rw [Zt ⋯];rfl
 | succ k=>rw [Zu ⋯];rfl
theorem V5:D (L [])=0:=ext' λk=>by show ((k:Rat)+1)*cvL [] AW (k+1)=_;rw [Ay,zero_c];ext
theorem L_nil:L []=0:=ext' λk=>by rw [zero_c];rfl
theorem NX (x:Rat):D (num x)=0:=ext' λk=>by show ((k:Rat)+1)*(x*AW (k+1))=_;rw [zero_c];show ((k:Rat)+1)*(x*0)=0;ext
theorem NY (g:Sr):∀ a:List Rat,D (L a*g)=D (L a)*g+L a*D g
 | []=>by
   have z:(0:Sr)=num 0:=rfl
   rw [V5,L_nil,z,D_num,<-z]
   ext
 | x::a=>by
   have ih:=NY g a
   have e:L (x::a)*g=num x*g+X 1*(L a*g):=by rw [NW];ext
   rw [e,NV,D_num,D_X,ih,NW,NV,D_X,NX]
   ext
theorem D_mul {f:Sr} (pf:Pol f) (g:Sr):D (f*g)=D f*g+f*D g:=by
 obtain ⟨a,rfl⟩:=pf
 exact NY g a
theorem KI {f:Sr} {n:Nat} (h:Bn f (n+1)):Bn (D f) n:=λk hk=>by show ((k:Rat)+1)*f.c (k+1)=0;rw [h (k+1) ⋯];ext
theorem V6 {f:Sr} {n:Nat} (h:f.c (n+1)≠0):D f≠0:=λe=>by
 have:=Z3 (congrArg Sr.c e) n
 rw [zero_c] at this
 have this:((n:Rat)+1)*f.c (n+1)=0:=this
 rcases CB.mp this with z | z
 ·have:((n:Rat)+1)=((n+1:Nat):Rat):=by push_cast;rfl
  rw [this] at z
  have:n+1=0:=by exact_mod_cast z
  omega
 ·exact h z
theorem Pol.D {f:Sr} (h:Pol f):Pol (D f):=by
 obtain ⟨n,hn⟩:=h.bn
 exact Bn.pol (n:=n) (KI (n:=n) λk hk=>hn k ⋯)
theorem rad_pow:∀ (n:Nat) (S R c:Sr),Bn S n->S≠0->Pol R->Pol c->D S*R=c*S->∃ (m:Nat) (a:Sr),Pol a/\R ^ m=a*S:=by
 intro n
 induction n using Nat.strongRecOn with
 | _ n ih=>
   intro S R c bS S0 pR pc e
   rcases top_ex n bS with z | ⟨m,mn,m0,mb⟩
   ·exact absurd z S0
   cases m with
   | zero=>
     refine ⟨0,num (S.c 0)⁻¹,Pol.num _,ext' λk=>?_⟩
     rw [num_mul]
     have e1:(R ^ 0).c k=AW k:=rfl
     rw [e1]
     cases k with
     | zero=>show 1=_;have:(S.c 0)⁻¹*S.c 0=1:=Rat.inv_mul_cancel _ m0;ext
     | succ k=>show 0=_;rw [mb (k+1) ⋯];ext
   | succ m=>
     obtain ⟨g,r,e1,U,W,pg,pr,pe,pU,pW,g0,h1,h2,h3⟩:=NU _ S (D S) mb.pol (KI mb) (.inl S0)
     have sR:e1*R=c*r:=cancel (pe.mul pR) (pc.mul pr) pg g0 (by rw [h2,h1] at e;ext)
     have hR:R=(U*R+W*c)*r:=by
      have:R=(U*r+W*e1)*R:=by rw [h3];ext
      ext
     have pt:Pol (U*R+W*c):=(pU.mul pR).add (pW.mul pc)
     have dS:D g*r=g*(e1 - D r):=by
      have:=D_mul pg r
      rw [<-h1,h2] at this
      ext
     have gR:D g*R=(e1 - D r)*(U*R+W*c)*g:=by
      have:D g*R=D g*r*(U*R+W*c):=by generalize U*R+W*c=t at hR;rw [hR];ext
      rw [this,dS]
      ext
     obtain ⟨N,hN⟩:=pg.bn
     obtain ⟨t,_,t0,tb⟩:=(top_ex N hN).resolve_left g0
     have tm:t<=m:=by
      rcases BG m t with q | q
      ·exfalso
       obtain ⟨E,rfl⟩:=pe
       have h2':D S=L E*g:=by rw [h2];ext
       rw [L_mul] at h2'
       refine V6 m0 (ext' λk=>?_)
       rw [h2',zero_c]
       exact KE E (NR t0 (λi hi=>tb i hi) E λk hk=>by
        exact (Z3 (congrArg Sr.c h2') k).symm.trans (KI mb k ⋯)) k
      ·exact q
     obtain ⟨M,a,pa,ea⟩:=ih (t+1) ⋯ g R _ tb g0 pR ((pe.sub pr.D).mul pt) gR
     refine ⟨M+1,a*(U*R+W*c),pa.mul pt,?_⟩
     have:R ^ (M+1)=R ^ M*R:=rfl
     rw [this,ea,h1]
     have:a*(U*R+W*c)*(g*r)=a*g*((U*R+W*c)*r):=by ext
     rw [this,<-hR]
noncomputable def Cs (f g:Sr):Prop:=∃ U W,Pol U/\Pol W/\U*f+W*g=1
end Sr
namespace Sr
theorem G3 (f:Sr) (n:Nat):f ^ (n+1)=f ^ n*f:=rfl
theorem G4 (f:Sr):f ^ 0=1:=num1.symm
theorem V7:(1:Sr)≠0:=λh=>by
 have:=Z3 (congrArg Sr.c h) 0
 rw [zero_c] at this
 have this:((1:Nat):Rat)*AW 0=0:=this
 have e:(AW 0:Rat)=1:=rfl
 rw [e] at this
 push_cast at this
 ext
theorem NZ {f:Sr} (pf:Pol f) (f0:f≠0):∀ n:Nat,f ^ n≠0
 | 0=>by rw [G4];exact V7
 | n+1=>by rw [G3];exact ne_mul (pf.pow n) pf (NZ pf f0 n) f0
theorem Na {d:Sr} (pd:Pol d):∀ n:Nat,d*D (d ^ n)=num (n:Rat)*d ^ n*D d
 | 0=>by
   rw [G4,show D 1=0 from NX _]
   show d*0=num ((0:Nat):Rat)*1*D d
   rw [show num ((0:Nat):Rat)=0 from rfl]
   ext
 | n+1=>by
   rw [G3,D_mul (pd.pow n),show num ((n+1:Nat):Rat)=num (n:Rat)+1 by rw [show ((n+1:Nat):Rat)=(n:Rat)+((1:Nat):Rat) by push_cast;rfl,NT];rfl]
   have h:=Na pd n
   ext
theorem Nb {b:Nat->Rat} {d:Nat} (h:∀ k,d<k->b k=0):∀ (a:List Rat) (k:Nat),d+a.length<=k->cvL a b k=0
 | [],_,_=>rfl
 | x::a,0,hk=>by simp at hk
 | x::a,k+1,hk=>by
   rw [Ak,Nb h a k (by simp at hk;omega),h (k+1) (by simp at hk;omega)]
   ext
theorem top_mul {f g:Sr} {m n:Nat} (hf:Bn f (m+1)) (hg:Bn g (n+1)):(f*g).c (m+n)=f.c m*g.c n/\Bn (f*g) (m+n+1):=by
 have hi:∀ (a:List Rat) (k:Nat),n+a.length<=k->cvL a g.c k=0:=Nb λk hk=>hg k hk
 rw [<-hf.row,L_mul]
 refine ⟨?_,λk hk=>hi _ k (by unfold tr;rw [AL,Bm];omega)⟩
 show cvL (tr (m+1) f.c) g.c (m+n)=_
 have e:tr (m+1) f.c=tr m f.c++[f.c m]:=by unfold tr;rw [List.range_succ,Dv];rfl
 have tl:(tr m f.c).length=m:=by unfold tr;rw [AL,Bm]
 rw [e,DY,hi (tr m f.c) _ (by rw [tl];omega),tl]
 unfold Av
 rw [Zu ⋯,show m+n - m=n by omega]
 have z:(L (tr m f.c++[f.c m])).c m=f.c m:=by
  rw [<-e]
  exact Z3 (congrArg Sr.c hf.row) m
 rw [z]
 ext
theorem V8 {d g:Sr} (pd:Pol d) (pg:Pol g) (g0:g≠0) (h:∀ k:Nat,∃ q,Pol q/\g=d ^ k*q):∃ x:Rat,x≠0/\d=num x:=by
 obtain ⟨n,hn⟩:=pd.bn
 obtain ⟨N,hN⟩:=pg.bn
 rcases top_ex n hn with z | ⟨m,_,m0,mb⟩
 ·obtain ⟨q,_,e⟩:=h 1
  exact absurd (by rw [e,G3,G4,z];ext) g0
 rcases DH m with z | mp
 ·subst z
  refine ⟨d.c 0,m0,ext' λk=>?_⟩
  show d.c k=d.c 0*AW k
  cases k with
  | zero=>show _=d.c 0*1;ext
  | succ k=>rw [mb (k+1) ⋯];show (0:Rat)=d.c 0*0;ext
 exfalso
 have key:∀ (k:Nat) (q:Sr),Pol q->q≠0->∃ j,k*m<=j/\(d ^ k*q).c j≠0/\Bn (d ^ k*q) (j+1):=λk=>by
  induction k with
  | zero=>
    intro q pq q0
    obtain ⟨r,hr⟩:=pq.bn
    rcases top_ex r hr with z | ⟨j,_,j0,jb⟩
    ·exact absurd z q0
    ·refine ⟨j,⋯,?_⟩
     rw [G4,show (1:Sr)*q=q by grind]
     exact ⟨j0,jb⟩
  | succ k ih=>
    intro q pq q0
    obtain ⟨j,j1,j2,j3⟩:=ih q pq q0
    obtain ⟨t1,t2⟩:=top_mul mb j3
    rw [show d ^ (k+1)*q=d*(d ^ k*q) by rw [G3];grind]
    refine ⟨m+j,by rw [Nat.succ_mul];omega,?_,t2⟩
    rw [t1]
    intro z
    rcases CB.mp z with z | z
    ·exact m0 z
    ·exact j2 z
 obtain ⟨q,pq,e⟩:=h (N+1)
 have q0:q≠0:=λz=>g0 (by rw [e,z];ext)
 obtain ⟨j,j1,j2,_⟩:=key (N+1) q pq q0
 rw [<-e] at j2
 refine j2 (hN j ?_)
 have:(N+1)*1<=(N+1)*m:=B6 _ mp
 omega
theorem Cs.of_unit {f g d U W:Sr} {x:Rat} (x0:x≠0) (e:d=num x) (pU:Pol U) (pW:Pol W) (h:U*f+W*g=d):Cs f g:=by
 refine ⟨num (x⁻¹)*U,num (x⁻¹)*W,(Pol.num _).mul pU,(Pol.num _).mul pW,?_⟩
 have i:num (x⁻¹)*num x=1:=ext' λk=>by
  rw [num_mul]
  show x⁻¹*(x*AW k)=_
  have:x⁻¹*x=1:=Rat.inv_mul_cancel _ x0
  show _=((1:Nat):Rat)*AW k
  push_cast
  ext
 rw [e] at h
 ext
theorem simple_cop {f g l m:Sr} (pg:Pol g) (pl:Pol l) (pm:Pol m) (f0:f≠0) (h1:f=g*l) (h2:D f=g*m) (c:Cs l m):Cs l (D l):=by
 have g0:g≠0:=λz=>f0 (by rw [h1,z];ext)
 have l0:l≠0:=λz=>f0 (by rw [h1,z];ext)
 obtain ⟨n,hn⟩:=pl.D.bn
 obtain ⟨d,r,e,U,W,pd,pr,pe,pU,pW,d0,e1,e2,e3⟩:=NU n l (D l) pl hn (.inl l0)
 obtain ⟨U1,W1,pU1,pW1,e4⟩:=c
 have hs:D g*l=g*(m - D l):=by
  have:=D_mul pg l
  rw [<-h1,h2] at this
  ext
 have dr:D d*r=d*(e - D r):=by
  have:=D_mul pd r
  rw [<-e1,e2] at this
  ext
 have dv:∀ k:Nat,∃ q,Pol q/\g=d ^ k*q:=λk=>by
  induction k with
  | zero=>exact ⟨g,pg,by rw [G4];ext⟩
  | succ k ih=>
    obtain ⟨h,ph,eh⟩:=ih
    have a1:d*D g=d ^ k*(num (k:Rat)*D d*h+d*D h):=by
     rw [eh,D_mul (pd.pow k)]
     have:=Na pd k
     ext
    have a2:d ^ k*((num (k:Rat)*D d*h+d*D h)*r)=d ^ k*(h*(m - D l)):=by
     have:d*D g*r=g*(m - D l):=by
      rw [<-hs,show D g*l=D g*(d*r) from congrArg _ e1]
      ext
     rw [a1] at this
     rw [eh] at this
     ext
    have a3:(num (k:Rat)*D d*h+d*D h)*r=h*(m - D l):=
     cancel ((((Pol.num _).mul pd.D).mul ph |>.add (pd.mul ph.D)).mul pr) (ph.mul (pm.sub pl.D)) (pd.pow k) (NZ pd d0 k) ()
    have a4:h*m=d*(num (k:Rat)*h*(e - D r)+D h*r+h*e):=by
     rw [e2] at a3
     have:num (k:Rat)*D d*h*r=num (k:Rat)*h*(d*(e - D r)):=by rw [<-dr];ext
     ext
    refine ⟨h*U1*r+W1*(num (k:Rat)*h*(e - D r)+D h*r+h*e),((ph.mul pU1).mul pr).add (pW1.mul ((((Pol.num _).mul ph).mul (pe.sub pr.D) |>.add (ph.D.mul pr)).add (ph.mul pe))),?_⟩
    have a5:h=d*(h*U1*r+W1*(num (k:Rat)*h*(e - D r)+D h*r+h*e)):=by
     rw [e1] at e4
     have:h=h*(U1*(d*r)+W1*m):=by rw [e4];ext
     ext
    rw [G3,eh]
    ext
 obtain ⟨x,x0,ex⟩:=V8 pd pg g0 dv
 exact Cs.of_unit x0 ex pU pW (by rw [e2,show U*l=U*(d*r) from congrArg _ e1];ext)
end Sr
namespace Sr
noncomputable def ev:List Rat->Rat->Rat
 | [],_=>0
 | a::l,x=>a+x*ev l x
theorem KJ:∀ (l:List Rat) (x:Rat),(∀ k,l.getD k 0=0)->ev l x=0
 | [],_,_=>rfl
 | a::l,x,h=>by
   have h0:a=0:=h 0
   show a+x*ev l x=0
   rw [h0,KJ l x λk=>by have:=h (k+1);rw [List.getD_cons_succ] at this;exact this];ext
theorem ev_congr':∀ (a b:List Rat) (x:Rat),(∀ k,a.getD k 0=b.getD k 0)->ev a x=ev b x
 | [],b,x,h=>(KJ b x λk=>(h k).symm.trans (by simp)).symm
 | a::l,[],x,h=>KJ (a::l) x λk=>(h k).trans (by simp)
 | a::l,b::m,x,h=>by
   have h0:a=b:=h 0
   show a+x*ev l x=b+x*ev m x
   rw [h0,ev_congr' l m x λk=>by have:=h (k+1);rw [List.getD_cons_succ,List.getD_cons_succ] at this;exact this]
theorem ev_congr {a b:List Rat} (h:L a=L b) (x:Rat):ev a x=ev b x:=ev_congr' a b x λk=>by rw [<-Do,<-Do];exact Z3 (congrArg Sr.c h) k
theorem ev_add:∀ (a b:List Rat) (x:Rat),ev (Ae a b) x=ev a x+ev b x
 | [],b,x=>by show ev b x=0+ev b x;ext
 | a::l,[],x=>by rw [ID];show _=_+0;ext
 | a::l,b::m,x=>by
   show (a+b)+x*ev (Ae l m) x=a+x*ev l x+(b+x*ev m x)
   rw [ev_add l m x];ext
theorem ev_scal (c:Rat):∀ (a:List Rat) (x:Rat),ev (a.map (c*·)) x=c*ev a x
 | [],x=>by show (0:Rat)=c*0;ext
 | a::l,x=>by
   show c*a+x*ev (l.map (c*·)) x=c*(a+x*ev l x)
   rw [ev_scal c l x];ext
theorem ev_mul:∀ (a b:List Rat) (x:Rat),ev (Au a b) x=ev a x*ev b x
 | [],b,x=>by show (0:Rat)=0*_;ext
 | a::l,b,x=>by
   show ev (Ae (b.map (a*·)) (0::Au l b)) x=(a+x*ev l x)*ev b x
   rw [ev_add,ev_scal]
   show a*ev b x+(0+x*ev (Au l b) x)=_
   rw [ev_mul l b x];ext
theorem L_add (a b:List Rat):L (Ae a b)=L a+L b:=ext' λk=>BT AW a b k
theorem L_scal (s:Rat) (a:List Rat):L (a.map (s*·))=num s*L a:=ext' λk=>by rw [num_mul];exact A6 s AW a k
theorem L_mulRow (a b:List Rat):L (Au a b)=L a*L b:=by rw [L_mul];exact ext' λk=>B4 AW a b k
theorem num_L (x:Rat):num x=L [x]:=ext' λk=>by
 show x*AW k=cvL [x] AW k
 cases k with
 | zero=>rw [Ar];ext
 | succ k=>rw [Ak,Ay];ext
theorem num_num (x y:Rat):num x*num y=num (x*y):=ext' λk=>by
 rw [num_mul]
 show x*(y*AW k)=x*y*AW k
 ext
theorem num_one:num 1=1:=congrArg num (show (1:Rat)=((1:Nat):Rat) by push_cast;rfl)
theorem num_inv {x:Rat} (h:x≠0):num x⁻¹*num x=1:=by
 rw [num_num,Rat.inv_mul_cancel _ h]
 exact num_one
end Sr
noncomputable def Cn (f:Rat->Rat) (b:Rat):Nat->Rat->Prop
 | 0,x=>x<b/\f x≠0
 | k+1,x=>x<b/\∃ y,x<y/\f x*f y<0/\Cn f b k y
noncomputable def Cs (f:Rat->Rat) (b s:Rat):Nat->Rat->Prop
 | 0,x=>x<b/\0<f x*s
 | k+1,x=>x<b/\∃ y,x<y/\f x*f y<0/\Cs f b s k y
noncomputable def AltN (f:Rat->Rat) (a b:Rat) (k:Nat):Prop:=∃ x,a<x/\Cn f b k x
noncomputable def IsN (f:Rat->Rat) (a b:Rat) (k:Nat):Prop:=AltN f a b k/\¬ AltN f a b (k+1)
theorem rtri (a b:Rat):a<b\/a=b\/b<a:=by
 rcases (A4:a<=b\/b<=a) with c | c
 ·rcases Rat.le_iff_lt_or_eq.mp c with d | d
  ·exact .inl d
  ·exact .inr (.inl d)
 ·rcases Rat.le_iff_lt_or_eq.mp c with d | d
  ·exact .inr (.inr d)
  ·exact .inr (.inl d.symm)
theorem mul_neg_iff' {a b:Rat}:a*b<0↔(0<a/\b<0)\/(a<0/\0<b):=by
 constructor
 ·intro h
  rcases rtri (a) 0 with c | c | c
  ·refine .inr ⟨c,CV.mp λz=>?_⟩
   have:=Aa (show 0<=-a by ext) (show 0<=-b by ext)
   ext
  ·rw [c] at h;ext
  ·refine .inl ⟨c,CV.mp λz=>?_⟩
   have:=Aa (show 0<=a by ext) z
   ext
 ·rintro (⟨h1,h2⟩ | ⟨h1,h2⟩)
  ·have:=As h1 (show 0 < -b by ext)
   ext
  ·have:=As (show 0 < -a by ext) h2
   ext
theorem mul_pos_iff' {a b:Rat}:0<a*b↔(0<a/\0<b)\/(a<0/\b<0):=by
 have h:=mul_neg_iff' (a:=a) (b:=-b)
 have e:a * -b<0↔0<a*b:=by constructor <;> intro h <;> ext
 rw [<-e,h]
 constructor
 ·rintro (⟨h1,h2⟩ | ⟨h1,h2⟩)
  ·exact .inl ⟨h1,()⟩
  ·exact .inr ⟨h1,()⟩
 ·rintro (⟨h1,h2⟩ | ⟨h1,h2⟩)
  ·exact .inl ⟨h1,()⟩
  ·exact .inr ⟨h1,()⟩
theorem Cn.lt {f:Rat->Rat} {b x:Rat}:∀ {k:Nat},Cn f b k x->x<b
 | 0,h=>h.1
 | _+1,h=>h.1
theorem Cn.ne {f:Rat->Rat} {b x:Rat}:∀ {k:Nat},Cn f b k x->f x≠0
 | 0,h=>h.2
 | _+1,⟨_,y,_,h,_⟩=>λz=>by rw [z] at h;ext
theorem Cn.less {f:Rat->Rat} {b:Rat}:∀ {k:Nat} {x:Rat},Cn f b (k+1) x->Cn f b k x
 | 0,x,h=>⟨h.1,h.ne⟩
 | k+1,x,⟨h1,y,h2,h3,h4⟩=>⟨h1,y,h2,h3,h4.less⟩
theorem Cs.cn {f:Rat->Rat} {b s:Rat}:∀ {k:Nat} {x:Rat},Cs f b s k x->Cn f b k x
 | 0,x,⟨h1,h2⟩=>⟨h1,λz=>by rw [z] at h2;ext⟩
 | k+1,x,⟨h1,y,h2,h3,h4⟩=>⟨h1,y,h2,h3,h4.cn⟩
theorem Cn.cs {f:Rat->Rat} {b s:Rat} (s0:s≠0):∀ {k:Nat} {x:Rat},Cn f b k x->Cs f b s k x\/Cs f b (-s) k x
 | 0,x,⟨h1,h2⟩=>by
   have:0<f x*s\/0<f x * -s:=by
    rcases rtri (f x*s) 0 with c | c | c
    ·exact .inr ()
    ·rcases CB.mp c with z | z
     ·exact absurd z h2
     ·exact absurd z s0
    ·exact .inl c
   rcases this with c | c
   ·exact .inl ⟨h1,c⟩
   ·exact .inr ⟨h1,c⟩
 | k+1,x,⟨h1,y,h2,h3,h4⟩=>by
   rcases h4.cs s0 with c | c
   ·exact .inl ⟨h1,y,h2,h3,c⟩
   ·exact .inr ⟨h1,y,h2,h3,c⟩
theorem AltN.less {f:Rat->Rat} {a b:Rat} {k j:Nat} (h:AltN f a b k) (l:j<=k):AltN f a b j:=by
 induction k with
 | zero=>rw [show j=0 by omega];exact h
 | succ k ih=>
   rcases BG j (k+1) with c | c
   ·obtain ⟨x,h1,h2⟩:=h
    exact ih ⟨x,h1,h2.less⟩ ⋯
   ·rw [show j=k+1 by omega];exact h
theorem IsN.uniq {f:Rat->Rat} {a b:Rat} {k j:Nat} (h:IsN f a b k) (h':IsN f a b j):k=j:=by
 rcases Nat.lt_trichotomy k j with c | c | c
 ·exact absurd (h'.1.less (show k+1<=j by omega)) h.2
 ·exact c
 ·exact absurd (h.1.less (show j+1<=k by omega)) h'.2
theorem IsN.le {f:Rat->Rat} {a b x:Rat} {k j:Nat} (h:IsN f a b k) (ax:a<x) (c:Cn f b j x):j<=k:=by
 refine DI.mp λz=>h.2 (AltN.less ⟨x,ax,c⟩ (show k+1<=j by omega))
noncomputable def Lft (f:Rat->Rat) (m s:Rat):Prop:=∃ δ,0<δ/\∀ x,m - δ<x->x<m->0<f x*s
noncomputable def Rgt (f:Rat->Rat) (m s:Rat):Prop:=∃ δ,0<δ/\∀ x,m<x->x<m+δ->0<f x*s
theorem opp {a b s:Rat} (h1:0<a * -s) (h2:0<b*s):a*b<0:=by
 rw [mul_neg_iff']
 rcases mul_pos_iff'.mp h1 with ⟨x,y⟩ | ⟨x,y⟩ <;> rcases mul_pos_iff'.mp h2 with ⟨z,w⟩ | ⟨z,w⟩
 ·ext
 ·exact .inl ⟨x,z⟩
 ·exact .inr ⟨x,z⟩
 ·ext
theorem like {a b s:Rat} (h1:0<a*s) (h2:0<b*s):0<a*b:=by
 rw [mul_pos_iff']
 rcases mul_pos_iff'.mp h1 with ⟨x,y⟩ | ⟨x,y⟩ <;> rcases mul_pos_iff'.mp h2 with ⟨z,w⟩ | ⟨z,w⟩
 ·exact .inl ⟨x,z⟩
 ·ext
 ·ext
 ·exact .inr ⟨x,z⟩
theorem Cs.ext {f:Rat->Rat} {m s:Rat} (g:Lft f m s):∀ {k:Nat} {x:Rat},Cs f m (-s) k x->Cn f m (k+1) x
 | 0,x,⟨h1,h2⟩=>by
   obtain ⟨δ,d0,g⟩:=g
   obtain ⟨y,y1,y2,y3⟩:∃ y,x<y/\m - δ<y/\y<m:=by
    rcases (A4:x<=m - δ\/m - δ<=x) with c | c
    ·exact ⟨m - δ / 2,(),(),()⟩
    ·exact ⟨(x+m) / 2,(),(),()⟩
   have q:=g y y2 y3
   exact ⟨h1,y,y1,opp h2 q,y3,λz=>by rw [z] at q;ext⟩
 | k+1,x,⟨h1,y,h2,h3,h4⟩=>⟨h1,y,h2,h3,h4.ext g⟩
theorem Cn.pre {f:Rat->Rat} {m b s x:Rat} (g:Rgt f m s) (mx:m<x) {k:Nat} (h:Cn f b k x) (hs:0<f x * -s):∃ y,m<y/\y<x/\Cn f b (k+1) y:=by
 obtain ⟨δ,d0,g⟩:=g
 have lt:=h.lt
 obtain ⟨y,y1,y2,y3⟩:∃ y,m<y/\y<x/\y<m+δ:=by
  rcases (A4:x<=m+δ\/m+δ<=x) with c | c
  ·exact ⟨(m+x) / 2,(),(),()⟩
  ·exact ⟨m+δ / 2,(),(),()⟩
 have q:=g y y1 y3
 refine ⟨y,y1,y2,(),x,y2,?_,h⟩
 have:=opp hs q
 ext
theorem Cn.first {f:Rat->Rat} {b s x:Rat} (s0:s≠0) {k:Nat} (h:Cn f b k x):0<f x*s\/0<f x * -s:=by
 have n:=h.ne
 rcases rtri (f x*s) 0 with c | c | c
 ·exact .inr ()
 ·rcases CB.mp c with z | z
  ·exact absurd z n
  ·exact absurd z s0
 ·exact .inl c
theorem Cs.joinU {f:Rat->Rat} {m b s y:Rat} (mb:m<=b) (my:m<=y) {l:Nat} (h2:Cn f b l y) (hs:0<f y * -s):∀ {k:Nat} {x:Rat},Cs f m s k x->Cn f b (k+1+l) x
 | 0,x,⟨h1,h3⟩=>by
   rw [show 0+1+l=l+1 by omega]
   exact ⟨(),y,(),by have:=opp hs h3;ext,h2⟩
 | k+1,x,⟨h1,z,h3,h4,h5⟩=>by
   rw [show k+1+1+l=(k+1+l)+1 by omega]
   exact ⟨(),z,h3,h4,h5.joinU mb my h2 hs⟩
theorem Cs.joinL {f:Rat->Rat} {m b s y:Rat} (mb:m<=b) (my:m<=y) {l:Nat} (h2:Cn f b l y) (hs:0<f y*s):∀ {k:Nat} {x:Rat},Cs f m s k x->Cn f b (k+l) x
 | 0,x,⟨h1,h3⟩=>by
   rw [show 0+l=l by omega]
   cases l with
   | zero=>exact ⟨(),λz=>by rw [z] at h3;ext⟩
   | succ l=>
     obtain ⟨q1,z,q2,q3,q4⟩:=h2
     refine ⟨(),z,(),?_,q4⟩
     have a:=like h3 hs
     rw [mul_neg_iff'] at q3 ⊢
     rcases mul_pos_iff'.mp a with ⟨u,v⟩ | ⟨u,v⟩ <;> ext
 | k+1,x,⟨h1,z,h3,h4,h5⟩=>by
   rw [show k+1+l=(k+l)+1 by omega]
   exact ⟨(),z,h3,h4,h5.joinL mb my h2 hs⟩
theorem Cn.part {f:Rat->Rat} {m b s:Rat} (s0:s≠0):∀ {K:Nat} {x:Rat},x<m->Cn f b K x->Cn f m K x\/∃ (j l:Nat) (y t:Rat),K=j+1+l/\(t=s\/t = -s)/\Cs f m t j x/\m<=y/\0<f y * -t/\Cn f b l y
 | 0,x,xm,h=>.inl ⟨xm,h.2⟩
 | K+1,x,xm,⟨h1,y,h2,h3,h4⟩=>by
   rcases (A4:m<=y\/y<=m) with c | c
   ·have:0<f x*s\/0<f x * -s:=Cn.first (b:=b) (k:=0) s0 ⟨h1,λz=>by rw [z] at h3;ext⟩
    rcases this with q | q
    ·refine .inr ⟨0,K,y,s,⋯,.inl rfl,⟨xm,q⟩,c,?_,h4⟩
     rcases h4.first s0 with r | r
     ·have:=like q r;ext
     ·exact r
    ·refine .inr ⟨0,K,y,-s,⋯,.inr rfl,⟨xm,q⟩,c,?_,h4⟩
     rcases h4.first s0 with r | r
     ·ext
     ·have:=like q r;ext
   ·by_cases e:y=m
    ·have:0<f x*s\/0<f x * -s:=Cn.first (b:=b) (k:=0) s0 ⟨h1,λz=>by rw [z] at h3;ext⟩
     rcases this with q | q
     ·refine .inr ⟨0,K,y,s,⋯,.inl rfl,⟨xm,q⟩,(),?_,h4⟩
      rcases h4.first s0 with r | r
      ·have:=like q r;ext
      ·exact r
     ·refine .inr ⟨0,K,y,-s,⋯,.inr rfl,⟨xm,q⟩,(),?_,h4⟩
      rcases h4.first s0 with r | r
      ·ext
      ·have:=like q r;ext
    ·rcases h4.part (m:=m) s0 () with r | ⟨j,l,w,t,e1,e2,e3,e4,e5,e6⟩
     ·exact .inl ⟨xm,y,h2,h3,r⟩
     ·exact .inr ⟨j+1,l,w,t,⋯,e2,⟨xm,y,h2,h3,e3⟩,e4,e5,e6⟩
theorem IsN.join {f:Rat->Rat} {a m b:Rat} {k1 k2:Nat} (am:a<m) (mb:m<b) (h1:IsN f a m k1) (h2:IsN f m b k2) (fm:f m≠0) (gl:Lft f m (f m)) (gr:Rgt f m (f m)):IsN f a b (k1+k2):=by
 have c1:∀ x,a<x->Cn f m k1 x->Cs f m (f m) k1 x:=λx ax h=>by
  rcases h.cs fm with c | c
  ·exact c
  ·have:=h1.le ax (c.ext gl);omega
 have c2:∀ y,m<y->Cn f b k2 y->0<f y*f m:=λy my h=>by
  rcases h.first fm with c | c
  ·exact c
  ·obtain ⟨z,z1,_,z3⟩:=h.pre gr my c
   have:=h2.le z1 z3;omega
 constructor
 ·obtain ⟨x,ax,hx⟩:=h1.1
  obtain ⟨y,my,hy⟩:=h2.1
  exact ⟨x,ax,(c1 x ax hx).joinL () () hy (c2 y my hy)⟩
 ·rintro ⟨x,ax,hx⟩
  have fp:0<f m*f m:=by rw [mul_pos_iff'];rcases rtri (f m) 0 with c | c | c <;> ext
  have at':∀ l,Cn f b l m->l<=k2:=λl hl=>by
   cases l with
   | zero=>omega
   | succ l=>
     obtain ⟨q1,z,q2,q3,q4⟩:=hl
     obtain ⟨w,w1,_,w3⟩:=q4.pre (s:=f m) gr q2 ()
     exact h2.le w1 w3
  rcases (A4:m<=x\/x<=m) with c | c
  ·have:k1+k2+1<=k2:=by
    by_cases e:x=m
    ·rw [e] at hx;exact at' _ hx
    ·exact h2.le () hx
   omega
  ·by_cases e:x=m
   ·rw [e] at hx;have:=at' _ hx;omega
   ·rcases hx.part (m:=m) (s:=f m) fm () with r | ⟨j,l,y,t,e1,e2,e3,e4,e5,e6⟩
    ·have:=h1.le ax r;omega
    ·have j1:=h1.le ax e3.cn
     by_cases ey:y=m
     ·rw [ey] at e5 e6
      have l2:=at' _ e6
      have et:t = -f m:=by rcases e2 with z | z;·rw [z] at e5;ext
                           ·exact z
      rw [et] at e3
      have:=h1.le ax (e3.ext gl)
      omega
     ·have my:m<y:=by ext
      have l2:=h2.le my e6
      have ej:j=k1:=by omega
      have el:l=k2:=by omega
      subst ej el
      have p:=c2 y my e6
      have q:=c1 x ax e3.cn
      rcases e2 with z | z
      ·rw [z] at e5;ext
      ·rw [z] at e3
       have:=h1.le ax (e3.ext gl);omega
theorem IsN.join0 {f:Rat->Rat} {a m b s:Rat} {k1 k2:Nat} (am:a<m) (mb:m<b) (h1:IsN f a m k1) (h2:IsN f m b k2) (fm:f m=0) (s0:s≠0) (gl:Lft f m (-s)) (gr:Rgt f m s):IsN f a b (k1+1+k2):=by
 have c1:∀ x,a<x->Cn f m k1 x->Cs f m (-s) k1 x:=λx ax h=>by
  rcases h.cs (s:=-s) () with c | c
  ·exact c
  ·have:=h1.le ax (c.ext gl);omega
 have c2:∀ y,m<y->Cn f b k2 y->0<f y*s:=λy my h=>by
  rcases h.first s0 with c | c
  ·exact c
  ·obtain ⟨z,z1,_,z3⟩:=h.pre gr my c
   have:=h2.le z1 z3;omega
 constructor
 ·obtain ⟨x,ax,hx⟩:=h1.1
  obtain ⟨y,my,hy⟩:=h2.1
  exact ⟨x,ax,(c1 x ax hx).joinU () () hy (by have:=c2 y my hy;ext)⟩
 ·rintro ⟨x,ax,hx⟩
  have nx:=hx.ne
  have xm:x≠m:=λe=>by rw [e] at nx;exact nx fm
  rcases (A4:m<=x\/x<=m) with c | c
  ·have:=h2.le () hx;omega
  ·rcases hx.part (m:=m) s0 () with r | ⟨j,l,y,t,e1,e2,e3,e4,e5,e6⟩
   ·have:=h1.le ax r;omega
   ·have j1:=h1.le ax e3.cn
    have ny:=e6.ne
    have ym:y≠m:=λe=>by rw [e] at ny;exact ny fm
    have l2:=h2.le (show m<y by ext) e6
    omega
noncomputable def Pn:Nat->(Rat->Rat)->Prop
 | 0,f=>∃ c,∀ t,f t=c
 | n+1,f=>∃ a g,Pn n g/\∀ t,f t=a+t*g t
theorem Pn.up:∀ {n:Nat} {f:Rat->Rat},Pn n f->Pn (n+1) f
 | 0,f,⟨c,h⟩=>⟨c,λ_=>0,⟨0,λ_=>rfl⟩,λt=>by rw [h];ext⟩
 | n+1,f,⟨a,g,h1,h2⟩=>⟨a,g,h1.up,h2⟩
theorem Pn.add:∀ {n:Nat} {f g:Rat->Rat},Pn n f->Pn n g->Pn n (λt=>f t+g t)
 | 0,f,g,⟨c,h⟩,⟨d,h'⟩=>⟨c+d,λt=>by show f t+g t=_;rw [h,h']⟩
 | n+1,f,g,⟨a,u,h1,h2⟩,⟨b,v,h3,h4⟩=>⟨a+b,_,h1.add h3,λt=>by show f t+g t=_;rw [h2,h4];ext⟩
theorem Pn.scale (c:Rat):∀ {n:Nat} {f:Rat->Rat},Pn n f->Pn n (λt=>c*f t)
 | 0,f,⟨d,h⟩=>⟨c*d,λt=>by show c*f t=_;rw [h]⟩
 | n+1,f,⟨a,u,h1,h2⟩=>⟨c*a,_,h1.scale c,λt=>by show c*f t=_;rw [h2];ext⟩
theorem Pn.congr {n:Nat} {f g:Rat->Rat} (h:Pn n f) (e:∀ t,f t=g t):Pn n g:=by
 have:f=g:=funext e
 rw [<-this];exact h
theorem Pn.quot:∀ {n:Nat} {f:Rat->Rat},Pn (n+1) f->∀ r,∃ g,Pn n g/\∀ t,f t - f r=(t - r)*g t
 | 0,f,⟨a,u,⟨c,h1⟩,h2⟩,r=>⟨λ_=>c,⟨c,λ_=>rfl⟩,λt=>by rw [h2,h2,h1,h1];ext⟩
 | n+1,f,⟨a,u,h1,h2⟩,r=>by
   obtain ⟨g,h3,h4⟩:=h1.quot r
   refine ⟨λt=>u t+r*g t,h1.add (h3.scale r).up,λt=>?_⟩
   have:=h4 t
   rw [h2,h2]
   have e:u t=u r+(t - r)*g t:=by ext
   rw [e];ext
theorem Pn.bound:∀ {n:Nat} {f:Rat->Rat},Pn n f->∀ R,0<=R->∃ B,0<=B/\∀ t,-R<=t->t<=R->-B<=f t/\f t<=B
 | 0,f,⟨c,h⟩,R,R0=>by
   rcases (A4:0<=c\/c<=0) with z | z
   ·exact ⟨c,z,λt _ _=>by rw [h];ext⟩
   ·exact ⟨-c,(),λt _ _=>by rw [h];ext⟩
 | n+1,f,⟨a,u,h1,h2⟩,R,R0=>by
   obtain ⟨B,B0,hB⟩:=h1.bound R R0
   have RB:=Aa R0 B0
   obtain ⟨A,A0,hA1,hA2⟩:∃ A,0<=A/\a<=A/\-a<=A:=by
    rcases (A4:0<=a\/a<=0) with z | z
    ·exact ⟨a,z,(),()⟩
    ·exact ⟨-a,(),(),()⟩
   refine ⟨A+R*B,(),λt t1 t2=>?_⟩
   obtain ⟨b1,b2⟩:=hB t t1 t2
   have p:-(R*B)<=t*u t/\t*u t<=R*B:=by
    rcases (A4:0<=t\/t<=0) with z | z
    ·have q1:=AQ b1 z
     have q2:=AQ b2 z
     have q3:=Ax t2 B0
     constructor <;> ext
    ·have q1:=AQ b1 (show 0<=-t by ext)
     have q2:=AQ b2 (show 0<=-t by ext)
     have q3:=Ax (show -t<=R by ext) B0
     constructor <;> ext
   rw [h2]
   constructor <;> ext
theorem Pn.lip {n:Nat} {f:Rat->Rat} (h:Pn n f) (R:Rat) (R0:0<=R):∃ L,0<=L/\∀ s t,-R<=s->s<=t->t<=R->f t - f s<=L*(t - s)/\f s - f t<=L*(t - s):=by
 induction n generalizing f with
 | zero=>
   obtain ⟨c,h⟩:=h
   exact ⟨0,(),λs t _ _ _=>by rw [h,h];constructor <;> ext⟩
 | succ n ih=>
   obtain ⟨a,u,h1,h2⟩:=h
   obtain ⟨B,B0,hB⟩:=h1.bound R R0
   obtain ⟨L,L0,hL⟩:=ih h1
   have RL:=Aa R0 L0
   refine ⟨B+R*L,(),λs t s1 st t1=>?_⟩
   obtain ⟨l1,l2⟩:=hL s t s1 st t1
   obtain ⟨b1,b2⟩:=hB t () t1
   have d0:0<=t - s:=by ext
   have e:f t - f s=(t - s)*u t+s*(u t - u s):=by rw [h2,h2];ext
   have q1:=AQ b1 d0
   have q2:=AQ b2 d0
   have Ld:=Aa L0 d0
   have p:-(R*(L*(t - s)))<=s*(u t - u s)/\s*(u t - u s)<=R*(L*(t - s)):=by
    rcases (A4:0<=s\/s<=0) with z | z
    ·have r1:=AQ l1 z
     have r2:=AQ l2 z
     have r3:=Ax (show s<=R by ext) Ld
     constructor <;> ext
    ·have r1:=AQ l1 (show 0<=-s by ext)
     have r2:=AQ l2 (show 0<=-s by ext)
     have r3:=Ax (show -s<=R by ext) Ld
     constructor <;> ext
   have e2:f s - f t = -(f t - f s):=by ext
   rw [e2,e]
   constructor <;> ext
theorem V9 (k:Nat):∃ h:Rat,0<h/\h*((2 ^ k:Nat):Rat)=1:=by
 have p:(0:Rat)<((2 ^ k:Nat):Rat):=by exact_mod_cast Bf ∅
 exact ⟨((2 ^ k:Nat):Rat)⁻¹,Rat.inv_pos.mpr p,by rw [Rat.mul_comm];exact CJ _ ()⟩
theorem WA (r:Rat):∃ n:Nat,r<((2 ^ n:Nat):Rat):=by
 have h:=Rat.lt_floor_add_one r
 refine ⟨(r.floor+1).toNat,?_⟩
 have h1:(r.floor+1:Int)<=(((r.floor+1).toNat:Nat):Int):=by omega
 have h2:(r.floor+1).toNat<2 ^ (r.floor+1).toNat:=Nat.lt_two_pow_self
 have h3:(r.floor+1:Int)<=((2 ^ (r.floor+1).toNat:Nat):Int):=by omega
 have h4:((r.floor+1:Int):Rat)<=(((2 ^ (r.floor+1).toNat:Nat):Int):Rat):=by exact_mod_cast h3
 have e:(((2 ^ (r.floor+1).toNat:Nat):Int):Rat)=((2 ^ (r.floor+1).toNat:Nat):Rat):=rfl
 rw [e] at h4
 ext
theorem KK {f:Rat->Rat}:∀ (k:Nat) (x y:Rat),x<y->f x*f y<0->∃ u v,x<=u/\u<v/\v<=y/\f u*f v<=0/\(v - u)*((2 ^ k:Nat):Rat)<=y - x
 | 0,x,y,h,s=>⟨x,y,(),h,(),(),by rw [show ((2 ^ 0:Nat):Rat)=1 from rfl];ext⟩
 | k+1,x,y,h,s=>by
   have e:((2 ^ (k+1):Nat):Rat)=2*((2 ^ k:Nat):Rat):=by rw [B5];push_cast;ext
   have p:(0:Rat)<((2 ^ k:Nat):Rat):=by exact_mod_cast Bf ∅
   rcases rtri (f x*f ((x+y) / 2)) 0 with c | c | c
   ·obtain ⟨u,v,h1,h2,h3,h4,h5⟩:=KK (f:=f) k x ((x+y) / 2) () c
    exact ⟨u,v,h1,h2,(),h4,by rw [e];ext⟩
   ·-- the middle is a place: a small piece beside it
    obtain ⟨t,t0,ht⟩:=V9 (k+1)
    have m0:f ((x+y) / 2)=0:=by
     rcases CB.mp c with z | z
     ·rw [z] at s;ext
     ·exact z
    have tl:t<=1 / 2:=by
     have p1:(1:Rat)<=((2 ^ k:Nat):Rat):=by exact_mod_cast Nat.one_le_two_pow
     have:=AQ p1 (show 0<=t by ext)
     rw [e] at ht
     ext
    have d:=As t0 (show 0<y - x by ext)
    have d2:=Ax tl (show 0<=y - x by ext)
    refine ⟨(x+y) / 2,(x+y) / 2+t*(y - x),(),(),(),by rw [m0];ext,?_⟩
    have:((x+y) / 2+t*(y - x) - (x+y) / 2)*((2 ^ (k+1):Nat):Rat)=(t*((2 ^ (k+1):Nat):Rat))*(y - x):=by ext
    rw [this,ht];ext
   ·have s':f ((x+y) / 2)*f y<0:=by
     rw [mul_neg_iff'] at s ⊢
     rcases mul_pos_iff'.mp c with ⟨q,r⟩ | ⟨q,r⟩ <;> ext
    obtain ⟨u,v,h1,h2,h3,h4,h5⟩:=KK (f:=f) k ((x+y) / 2) y () s'
    exact ⟨u,v,(),h2,h3,h4,by rw [e];ext⟩
theorem Pn.near {n:Nat} {f:Rat->Rat} (h:Pn n f) {x y η:Rat} (xy:x<y) (s:f x*f y<0) (e0:0<η):∃ r,x<r/\r<y/\-η<f r/\f r<η:=by
 obtain ⟨R,R0,hx,hy⟩:∃ R,0<=R/\-R<=x/\y<=R:=by
  rcases (A4:0<=y\/y<=0) with z | z <;> rcases (A4:0<=x\/x<=0) with w | w
  ·exact ⟨y,z,(),()⟩
  ·exact ⟨y - x,(),(),()⟩
  ·exact ⟨0,(),(),()⟩
  ·exact ⟨-x,(),(),()⟩
 obtain ⟨L,L0,hL⟩:=h.lip R R0
 obtain ⟨k,hk⟩:=WA (2*(L*(y - x))*η⁻¹)
 have ei:η*η⁻¹=1:=CJ _ ()
 obtain ⟨u,v,h1,h2,h3,h4,h5⟩:=KK (f:=f) k x y xy s
 have p:(0:Rat)<((2 ^ k:Nat):Rat):=by exact_mod_cast Bf ∅
 have wl:2*(L*(v - u))<η:=by
  generalize ((2 ^ k:Nat):Rat)=M at *
  refine CV.mp λz=>?_
  have q1:=Ax z (show 0<=M by ext)
  have q2:=AQ h5 L0
  have q3:=As (show 0<M - 2*(L*(y - x))*η⁻¹ by ext) e0
  have q4:(M - 2*(L*(y - x))*η⁻¹)*η=M*η - 2*(L*(y - x))*(η*η⁻¹):=by ext
  rw [q4,ei] at q3
  ext
 have Lw:=Aa L0 (show 0<=v - u by ext)
 obtain ⟨a1,a2⟩:=hL u v () () ()
 obtain ⟨b1,b2⟩:=hL u ((u+v) / 2) () () ()
 have e2:L*((u+v) / 2 - u)<=L*(v - u):=AQ () L0
 have fu:-(L*(v - u))<=f u/\f u<=L*(v - u):=by
  rcases rtri (f u) 0 with c | c | c
  ·have:0<=f v:=C9.mp λz=>by
    have:=mul_pos_iff'.mpr (.inr ⟨c,z⟩);ext
   constructor <;> ext
  ·rw [c];constructor <;> ext
  ·have:f v<=0:=C9.mp λz=>by
    have:=mul_pos_iff'.mpr (.inl ⟨c,z⟩);ext
   constructor <;> ext
 exact ⟨(u+v) / 2,(),(),(),()⟩
theorem Cn.shake {f:Rat->Rat} {b:Rat}:∀ {k:Nat} {x:Rat},Cn f b k x->∃ η,0<η/\∀ c,-η<c->c<η->Cn (λt=>f t - c) b k x
 | 0,x,⟨h1,h2⟩=>by
   rcases rtri (f x) 0 with c | c | c
   ·exact ⟨-f x,(),λd d1 d2=>⟨h1,by show f x - d≠0;ext⟩⟩
   ·exact absurd c h2
   ·exact ⟨f x,(),λd d1 d2=>⟨h1,by show f x - d≠0;ext⟩⟩
 | k+1,x,⟨h1,y,h2,h3,h4⟩=>by
   obtain ⟨η,e0,he⟩:=h4.shake
   have key:∀ p q:Rat,0<p->0<q->∃ ε,0<ε/\ε<=η/\ε<=p/\ε<=q:=λp q hp hq=>by
    rcases (A4:p<=q\/q<=p) with z | z <;> rcases (A4:p<=η\/η<=p) with w | w <;> rcases (A4:q<=η\/η<=q) with v | v
    ·exact ⟨p,hp,(),(),()⟩
    ·exact ⟨p,hp,(),(),()⟩
    ·exact ⟨η,e0,(),(),()⟩
    ·exact ⟨η,e0,(),(),()⟩
    ·exact ⟨q,hq,(),(),()⟩
    ·exact ⟨η,e0,(),(),()⟩
    ·exact ⟨q,hq,(),(),()⟩
    ·exact ⟨η,e0,(),(),()⟩
   rcases mul_neg_iff'.mp h3 with ⟨q1,q2⟩ | ⟨q1,q2⟩
   ·obtain ⟨ε,p0,p1,p2,p3⟩:=key (f x) (-f y) q1 ()
    exact ⟨ε,p0,λc c1 c2=>⟨h1,y,h2,mul_neg_iff'.mpr (.inl ⟨(),()⟩),he c () ()⟩⟩
   ·obtain ⟨ε,p0,p1,p2,p3⟩:=key (-f x) (f y) () q2
    exact ⟨ε,p0,λc c1 c2=>⟨h1,y,h2,mul_neg_iff'.mpr (.inr ⟨(),()⟩),he c () ()⟩⟩
theorem Cn.of_like {f g:Rat->Rat} {b r:Rat} (h:∀ t,r<t->(0<f t↔0<g t)/\(f t<0↔g t<0)):∀ {k:Nat} {x:Rat},r<x->Cn f b k x->Cn g b k x
 | 0,x,rx,⟨h1,h2⟩=>⟨h1,λz=>by
   have:=h x rx
   rcases rtri (f x) 0 with c | c | c
   ·have:=this.2.mp c;ext
   ·exact h2 c
   ·have:=this.1.mp c;ext⟩
 | k+1,x,rx,⟨h1,y,h2,h3,h4⟩=>by
   have a:=h x rx
   have b':=h y ()
   refine ⟨h1,y,h2,?_,h4.of_like h ()⟩
   rw [mul_neg_iff'] at h3 ⊢
   ext
theorem Pn.deg:∀ {n:Nat} {f:Rat->Rat},Pn n f->∀ {k:Nat} {b x:Rat},Cn f b k x->k<=n
 | n,f,h,0,b,x,c=>AV _
 | 0,f,⟨d,h⟩,k+1,b,x,⟨_,y,_,h3,_⟩=>by
   rw [h,h] at h3
   rcases mul_neg_iff'.mp h3 with z | z <;> ext
 | n+1,f,h,k+1,b,x,⟨h1,y,h2,h3,h4⟩=>by
   obtain ⟨η,e0,he⟩:=h4.shake
   obtain ⟨r,r1,r2,r3,r4⟩:=h.near h2 h3 e0
   have c:=he (f r) r3 r4
   obtain ⟨g,hg,eg⟩:=h.quot r
   have c2:Cn g b k y:=c.of_like (r:=r) (λt rt=>by
    have e:=eg t
    show (0<f t - f r↔_)/\(f t - f r<0↔_)
    rw [e,mul_pos_iff',mul_neg_iff']
    constructor <;> ext) r2
   have:=hg.deg c2
   omega
theorem Pn.ex {n:Nat} {f:Rat->Rat} (h:Pn n f) {a b x:Rat} (ax:a<x) (xb:x<b) (fx:f x≠0):∃ k,IsN f a b k:=by
 have key:∀ j,(∃ k,IsN f a b k)\/AltN f a b j:=λj=>by
  induction j with
  | zero=>exact .inr ⟨x,ax,xb,fx⟩
  | succ j ih=>
    rcases ih with c | c
    ·exact .inl c
    ·by_cases d:AltN f a b (j+1)
     ·exact .inr d
     ·exact .inl ⟨j,c,d⟩
 rcases key (n+1) with c | ⟨y,_,c⟩
 ·exact c
 ·have:=h.deg c;omega
noncomputable def evQ:List Int->Rat->Rat
 | [],_=>0
 | a::l,x=>(a:Rat)+x*evQ l x
noncomputable def dQ:List Int->Rat->Rat
 | [],_=>0
 | _::l,x=>evQ l x+x*dQ l x
theorem Nc (a:Int):∀ (l:List Int),Pn l.length (evQ (a::l))
 | []=>⟨a,λt=>by show (a:Rat)+t*0=a;ext⟩
 | b::l=>⟨a,evQ (b::l),Nc b l,λt=>rfl⟩
theorem evQ_pn':∀ (l:List Int),Pn l.length (evQ l)
 | []=>⟨0,λt=>rfl⟩
 | a::l=>(Nc a l).up
theorem G5:∀ (l:List Int) (m:Rat),∃ C,0<=C/\∀ h,-1<=h->h<=1->-(C*(h*h))<=evQ l (m+h) - evQ l m - h*dQ l m/\evQ l (m+h) - evQ l m - h*dQ l m<=C*(h*h)
 | [],m=>⟨0,(),λh _ _=>by show -(0*(h*h))<=(0:Rat) - 0 - h*0/\(0:Rat) - 0 - h*0<=0*(h*h);constructor <;> ext⟩
 | a::l,m=>by
   obtain ⟨C,C0,hC⟩:=G5 l m
   obtain ⟨D,D0,hD1,hD2⟩:∃ D,0<=D/\dQ l m<=D/\-dQ l m<=D:=by
    rcases (A4:0<=dQ l m\/dQ l m<=0) with z | z
    ·exact ⟨dQ l m,z,(),()⟩
    ·exact ⟨-dQ l m,(),(),()⟩
   obtain ⟨M,M0,hM1,hM2⟩:∃ M,0<=M/\m<=M/\-m<=M:=by
    rcases (A4:0<=m\/m<=0) with z | z
    ·exact ⟨m,z,(),()⟩
    ·exact ⟨-m,(),(),()⟩
   have MC:=Aa (show 0<=M+1 by ext) C0
   refine ⟨D+(M+1)*C,(),λh h1 h2=>?_⟩
   obtain ⟨q1,q2⟩:=hC h h1 h2
   have hh:0<=h*h:=by
    rcases (A4:0<=h\/h<=0) with z | z
    ·exact Aa z z
    ·have:=Aa (show 0<=-h by ext) (show 0<=-h by ext);ext
   have e:evQ (a::l) (m+h) - evQ (a::l) m - h*dQ (a::l) m=h*h*dQ l m+(m+h)*(evQ l (m+h) - evQ l m - h*dQ l m):=by
    show ((a:Rat)+(m+h)*evQ l (m+h)) - ((a:Rat)+m*evQ l m) - h*(evQ l m+m*dQ l m)=_
    ext
   rw [e]
   generalize evQ l (m+h) - evQ l m - h*dQ l m=r at *
   have Ch:=Aa C0 hh
   have p1:=AQ hD1 hh
   have p2:=AQ hD2 hh
   have s:-((M+1)*(C*(h*h)))<=(m+h)*r/\(m+h)*r<=(M+1)*(C*(h*h)):=by
    rcases (A4:0<=m+h\/m+h<=0) with z | z
    ·have r1:=AQ q1 z
     have r2:=AQ q2 z
     have r3:=Ax (show m+h<=M+1 by ext) Ch
     constructor <;> ext
    ·have r1:=AQ q1 (show 0<=-(m+h) by ext)
     have r2:=AQ q2 (show 0<=-(m+h) by ext)
     have r3:=Ax (show -(m+h)<=M+1 by ext) Ch
     constructor <;> ext
   constructor <;> ext
theorem Ds {p q:Rat} (p0:0<p) (q0:0<=q):∃ δ,0<δ/\δ<=1/\q*δ<p:=by
 have i:(p+q)*(p+q)⁻¹=1:=CJ _ ()
 have j:0<(p+q)⁻¹:=Rat.inv_pos.mpr ()
 generalize (p+q)⁻¹=t at *
 have pt:=As p0 j
 have qt:=Aa q0 (show 0<=t by ext)
 refine ⟨p*t,pt,(),?_⟩
 have e:q*(p*t)=p*(q*t):=by ext
 have l:q*t<1:=by ext
 have:=As p0 (show 0<1 - q*t by ext)
 ext
theorem WB {l:List Int} {m:Rat} (h:evQ l m≠0):∃ δ,0<δ/\∀ t,-δ<t->t<δ->0<evQ l (m+t)*evQ l m:=by
 obtain ⟨C,C0,hC⟩:=G5 l m
 obtain ⟨D,D0,hD1,hD2⟩:∃ D,0<=D/\dQ l m<=D/\-dQ l m<=D:=by
  rcases (A4:0<=dQ l m\/dQ l m<=0) with z | z
  ·exact ⟨dQ l m,z,(),()⟩
  ·exact ⟨-dQ l m,(),(),()⟩
 obtain ⟨F,F0,hF⟩:∃ F,0<F/\(evQ l m=F\/evQ l m = -F):=by
  rcases rtri (evQ l m) 0 with c | c | c
  ·exact ⟨-evQ l m,(),.inr ()⟩
  ·exact absurd c h
  ·exact ⟨evQ l m,c,.inl rfl⟩
 obtain ⟨δ,d0,d1,d2⟩:=Ds (q:=C+D) F0 ()
 refine ⟨δ,d0,λt t1 t2=>?_⟩
 obtain ⟨q1,q2⟩:=hC t () ()
 have tt:t*t<=δ:=by
  rcases (A4:0<=t\/t<=0) with z | z
  ·have a:=AQ (show t<=1 by ext) z;ext
  ·have a:=AQ (show -t<=1 by ext) (show 0<=-t by ext);ext
 have r1:=AQ tt C0
 have r2:-(D*δ)<=t*dQ l m/\t*dQ l m<=D*δ:=by
  rcases (A4:0<=t\/t<=0) with z | z
  ·have a:=AQ hD1 z
   have b:=AQ hD2 z
   have c:=Ax (show t<=δ by ext) D0
   constructor <;> ext
  ·have a:=AQ hD1 (show 0<=-t by ext)
   have b:=AQ hD2 (show 0<=-t by ext)
   have c:=Ax (show -t<=δ by ext) D0
   constructor <;> ext
 rw [mul_pos_iff']
 rcases hF with e | e
 ·exact .inl ⟨(),()⟩
 ·exact .inr ⟨(),()⟩
theorem KL {l:List Int} {m:Rat} (h:evQ l m≠0):Lft (evQ l) m (evQ l m)/\Rgt (evQ l) m (evQ l m):=by
 obtain ⟨δ,d0,g⟩:=WB h
 constructor
 ·exact ⟨δ,d0,λx h1 h2=>by have:=g (x - m) () ();rw [show m+(x - m)=x by grind] at this;exact this⟩
 ·exact ⟨δ,d0,λx h1 h2=>by have:=g (x - m) () ();rw [show m+(x - m)=x by grind] at this;exact this⟩
theorem Nd {l:List Int} {m:Rat} (h:evQ l m=0) (d:dQ l m≠0):Lft (evQ l) m (-dQ l m)/\Rgt (evQ l) m (dQ l m):=by
 obtain ⟨C,C0,hC⟩:=G5 l m
 obtain ⟨F,F0,hF⟩:∃ F,0<F/\(dQ l m=F\/dQ l m = -F):=by
  rcases rtri (dQ l m) 0 with c | c | c
  ·exact ⟨-dQ l m,(),.inr ()⟩
  ·exact absurd c d
  ·exact ⟨dQ l m,c,.inl rfl⟩
 obtain ⟨δ,d0,d1,d2⟩:=Ds (q:=C) F0 C0
 have key:∀ t,0<t->t<δ->C*(t*t)<t*F:=λt t0 t1=>by
  have a:=AQ (show t<=δ by ext) C0
  have:=As t0 (show 0<F - C*t by ext)
  ext
 constructor
 ·refine ⟨δ,d0,λx h1 h2=>?_⟩
  obtain ⟨q1,q2⟩:=hC (x - m) () ()
  have k:=key (m - x) () ()
  rw [show m+(x - m)=x by ext,h] at q1 q2
  have e:(x - m)*(x - m)=(m - x)*(m - x):=by ext
  rw [e] at q1 q2
  rw [mul_pos_iff']
  rcases hF with f | f <;> rw [f] at q1 q2 ⊢
  ·exact .inr ⟨(),()⟩
  ·exact .inl ⟨(),()⟩
 ·refine ⟨δ,d0,λx h1 h2=>?_⟩
  obtain ⟨q1,q2⟩:=hC (x - m) () ()
  have k:=key (x - m) () ()
  rw [show m+(x - m)=x by ext,h] at q1 q2
  rw [mul_pos_iff']
  rcases hF with f | f <;> rw [f] at q1 q2 ⊢
  ·exact .inl ⟨(),()⟩
  ·exact .inr ⟨(),()⟩
noncomputable def Sf (l:List Int):Prop:=∀ x,evQ l x=0->dQ l x≠0
theorem Sf.nz {l:List Int} (h:Sf l) {a b:Rat} (ab:a<b):∃ x,a<x/\x<b/\evQ l x≠0:=by
 by_cases c:evQ l ((a+b) / 2)=0
 ·obtain ⟨_,δ,d0,g⟩:=Nd c (h _ c)
  obtain ⟨x,x1,x2,x3⟩:∃ x,(a+b) / 2<x/\x<b/\x<(a+b) / 2+δ:=by
   rcases (A4:b<=(a+b) / 2+δ\/(a+b) / 2+δ<=b) with z | z
   ·exact ⟨((a+b) / 2+b) / 2,(),(),()⟩
   ·exact ⟨(a+b) / 2+δ / 2,(),(),()⟩
  have:=g x x1 x3
  exact ⟨x,(),x2,λz=>by rw [z] at this;ext⟩
 ·exact ⟨_,(),(),c⟩
noncomputable def Nf (f:Rat->Rat) (a b:Rat):Nat:=open Classical in if h:∃ k,IsN f a b k then Classical.choose h else 0
theorem EL {f:Rat->Rat} {a b:Rat} {k:Nat} (h:IsN f a b k):Nf f a b=k:=by
 unfold Nf
 rw [dif_pos ⟨k,h⟩]
 exact (Classical.choose_spec (⟨k,h⟩:∃ k,IsN f a b k)).uniq h
theorem Sf.isN {l:List Int} (h:Sf l) {a b:Rat} (ab:a<b):IsN (evQ l) a b (Nf (evQ l) a b):=by
 obtain ⟨x,x1,x2,x3⟩:=h.nz ab
 obtain ⟨k,hk⟩:=(evQ_pn' l).ex x1 x2 x3
 rw [EL hk];exact hk
theorem Sf.node {l:List Int} (h:Sf l) {a m b:Rat} (am:a<m) (mb:m<b):Nf (evQ l) a b=Nf (evQ l) a m+Nf (evQ l) m b+(if evQ l m=0 then 1 else 0):=by
 have h1:=h.isN am
 have h2:=h.isN mb
 by_cases c:evQ l m=0
 ·rw [Zu c]
  obtain ⟨gl,gr⟩:=Nd c (h m c)
  rw [EL (h1.join0 am mb h2 c (h m c) gl gr)];omega
 ·rw [Zt c]
  obtain ⟨gl,gr⟩:=KL c
  rw [EL (h1.join am mb h2 c gl gr)];omega
theorem Cn.aff {f:Rat->Rat} {u w M b:Rat} (w0:0<w) (M0:0<M):∀ {k:Nat} {x:Rat},Cn (λt=>M*f (u+w*t)) b k x↔Cn f (u+w*b) k (u+w*x):=by
 have lt:∀ p q:Rat,p<q↔u+w*p<u+w*q:=λp q=>by
  constructor
  ·intro h
   have:=As w0 (show 0<q - p by ext);ext
  ·intro h
   refine CV.mp λz=>?_
   have:=AQ z (show 0<=w by ext);ext
 have MM:=As M0 M0
 have sg:∀ p q:Rat,M*p*(M*q)<0↔p*q<0:=λp q=>by
  have e:M*p*(M*q)=(M*M)*(p*q):=by ext
  rw [e]
  constructor
  ·intro h
   rcases mul_neg_iff'.mp h with ⟨_,z⟩ | ⟨z,_⟩ <;> ext
  ·intro h
   exact mul_neg_iff'.mpr (.inl ⟨MM,h⟩)
 have wi:w*w⁻¹=1:=CJ _ ()
 intro k
 induction k with
 | zero=>
   intro x
   show (x<b/\M*f (u+w*x)≠0)↔(u+w*x<u+w*b/\f (u+w*x)≠0)
   rw [lt x b]
   refine and_congr Iff.rfl ⟨λh z=>h (by rw [z];ext),λh z=>?_⟩
   rcases CB.mp z with y | y
   ·ext
   ·exact h y
 | succ k ih=>
   intro x
   constructor
   ·rintro ⟨h1,y,h2,h3,h4⟩
    exact ⟨(lt x b).mp h1,u+w*y,(lt x y).mp h2,(sg _ _).mp h3,(ih).mp h4⟩
   ·rintro ⟨h1,z,h2,h3,h4⟩
    have e:u+w*((z - u)*w⁻¹)=z:=by
     have:w*((z - u)*w⁻¹)=(w*w⁻¹)*(z - u):=by ext
     rw [this,wi];ext
    rw [<-e] at h2 h3 h4
    exact ⟨(lt x b).mpr h1,(z - u)*w⁻¹,(lt _ _).mpr h2,(sg _ _).mpr h3,(ih).mpr h4⟩
theorem AltN.aff {f:Rat->Rat} {u w M a b:Rat} (w0:0<w) (M0:0<M) {k:Nat}:AltN (λt=>M*f (u+w*t)) a b k↔AltN f (u+w*a) (u+w*b) k:=by
 have wi:w*w⁻¹=1:=CJ _ ()
 constructor
 ·rintro ⟨x,h1,h2⟩
  exact ⟨u+w*x,by have:=As w0 (show 0<x - a by ext);ext,(Cn.aff w0 M0).mp h2⟩
 ·rintro ⟨z,h1,h2⟩
  have e:u+w*((z - u)*w⁻¹)=z:=by
   have:w*((z - u)*w⁻¹)=(w*w⁻¹)*(z - u):=by ext
   rw [this,wi];ext
  rw [<-e] at h1 h2
  refine ⟨(z - u)*w⁻¹,CV.mp λy=>?_,(Cn.aff w0 M0).mpr h2⟩
  have:=AQ y (show 0<=w by ext);ext
theorem IsN.aff {f:Rat->Rat} {u w M a b:Rat} (w0:0<w) (M0:0<M) {k:Nat}:IsN (λt=>M*f (u+w*t)) a b k↔IsN f (u+w*a) (u+w*b) k:=by
 unfold IsN
 rw [AltN.aff w0 M0,AltN.aff w0 M0]
theorem Nf.aff {f:Rat->Rat} {u w M a b:Rat} (w0:0<w) (M0:0<M):Nf (λt=>M*f (u+w*t)) a b=Nf f (u+w*a) (u+w*b):=by
 by_cases h:∃ k,IsN f (u+w*a) (u+w*b) k
 ·obtain ⟨k,hk⟩:=h
  rw [EL hk,EL ((IsN.aff w0 M0).mpr hk)]
 ·unfold Nf
  rw [dif_neg h,dif_neg λ⟨k,hk⟩=>h ⟨k,(IsN.aff w0 M0).mp hk⟩]
noncomputable def sgc:List Int->Int->Nat
 | [],_=>0
 | z::l,b=>if z≠0 then (if b*z<0 then 1 else 0)+sgc l (if z > 0 then 1 else -1) else sgc l b
theorem G6:∀ (l:List Int) (b:Int),(b=1\/b = -1)->sgc l b=0->∀ z∈l,0<=b*z
 | [],_,_,_,z,hz=>nomatch hz
 | a::l,b,hb,h,z,hz=>by
   unfold sgc at h
   by_cases c:a≠0
   ·rw [Zu c] at h
    have h1:¬ b*a<0:=λd=>by rw [Zu d] at h;omega
    rw [Zt h1] at h
    have e:(if a > 0 then (1:Int) else -1)=b:=by
     rcases hb with rfl | rfl
     ·rw [Zu ⋯]
     ·rw [Zt ⋯]
    rw [e] at h
    rcases Bb.mp hz with rfl | hz
    ·omega
    ·exact G6 l b hb ⋯ z hz
   ·rw [Zt c] at h
    rcases Bb.mp hz with rfl | hz
    ·have:z=0:=by omega
     rw [this];omega
    ·exact G6 l b hb h z hz
theorem Ng:∀ (l:List Int),sgc l 0=0->(∀ z∈l,0<=z)\/(∀ z∈l,z<=0)
 | [],_=>.inl λz hz=>nomatch hz
 | a::l,h=>by
   unfold sgc at h
   by_cases c:a≠0
   ·rw [Zu c] at h
    rcases Int.lt_trichotomy a 0 with y | y | y
    ·rw [Zt (show ¬ a > 0 by omega)] at h
     have q:=G6 l (-1) (.inr rfl) ⋯
     refine .inr λz hz=>?_
     rcases Bb.mp hz with rfl | hz
     ·omega
     ·have:=q z hz;omega
    ·exact absurd y c
    ·rw [Zu y] at h
     have q:=G6 l 1 (.inl rfl) ⋯
     refine .inl λz hz=>?_
     rcases Bb.mp hz with rfl | hz
     ·omega
     ·have:=q z hz;omega
   ·rw [Zt c] at h
    have a0:a=0:=by omega
    rcases Ng l h with q | q
    ·exact .inl λz hz=>by rcases Bb.mp hz with rfl | hz;·omega
                          ·exact q z hz
    ·exact .inr λz hz=>by rcases Bb.mp hz with rfl | hz;·omega
                          ·exact q z hz
theorem IN:∀ (l:List Int) (s:Int),(s=1\/s = -1)->sgc l (-s)=1->∃ A B,l=A++B/\(∀ a∈A,s*a<=0)/\(∀ b∈B,0<=s*b)/\∃ b∈B,0<s*b
 | [],_,_,h=>by unfold sgc at h;omega
 | a::l,s,hs,h=>by
   unfold sgc at h
   by_cases c:a≠0
   ·rw [Zu c] at h
    by_cases d:-s*a<0
    ·rw [Zu d] at h
     have e:(if a > 0 then (1:Int) else -1)=s:=by
      rcases hs with rfl | rfl
      ·rw [Zu ⋯]
      ·rw [Zt ⋯]
     rw [e] at h
     have q:=G6 l s hs ⋯
     have sa:0<s*a:=by rw [Dd] at d;omega
     refine ⟨[],a::l,rfl,(λ_ h=>nomatch h),λb hb=>?_,a,BC ..,sa⟩
     rcases Bb.mp hb with rfl | hb
     ·omega
     ·exact q b hb
    ·rw [Zt d] at h
     have e:(if a > 0 then (1:Int) else -1) = -s:=by
      rcases hs with rfl | rfl
      ·rw [Zt ⋯]
      ·rw [Zu ⋯];rfl
     rw [e] at h
     obtain ⟨A,B,h1,h2,h3,h4⟩:=IN l s hs ⋯
     refine ⟨a::A,B,by rw [h1];rfl,λb hb=>?_,h3,h4⟩
     rcases Bb.mp hb with rfl | hb
     ·rw [Dd] at d;omega
     ·exact h2 b hb
   ·rw [Zt c] at h
    obtain ⟨A,B,h1,h2,h3,h4⟩:=IN l s hs h
    refine ⟨a::A,B,by rw [h1];rfl,λb hb=>?_,h3,h4⟩
    rcases Bb.mp hb with rfl | hb
    ·have:b=0:=by omega
     rw [this];omega
    ·exact h2 b hb
theorem Nh:∀ (l:List Int),sgc l 0=1->∃ (s:Int) (A B:List Int),(s=1\/s = -1)/\l=A++B/\(∀ a∈A,s*a<=0)/\(∃ a∈A,s*a<0)/\(∀ b∈B,0<=s*b)/\∃ b∈B,0<s*b
 | [],h=>by unfold sgc at h;omega
 | a::l,h=>by
   unfold sgc at h
   by_cases c:a≠0
   ·rw [Zu c] at h
    have z:¬ (0:Int)*a<0:=by omega
    rw [Zt z] at h
    rcases Int.lt_trichotomy a 0 with y | y | y
    ·rw [Zt (show ¬ a > 0 by omega)] at h
     obtain ⟨A,B,h1,h2,h3,h4⟩:=IN l 1 (.inl rfl) (by show sgc l (-1)=1;omega)
     refine ⟨1,a::A,B,.inl rfl,by rw [h1];rfl,λb hb=>?_,⟨a,BC ..,⋯⟩,h3,h4⟩
     rcases Bb.mp hb with rfl | hb
     ·omega
     ·exact h2 b hb
    ·exact absurd y c
    ·rw [Zu y] at h
     obtain ⟨A,B,h1,h2,h3,h4⟩:=IN l (-1) (.inr rfl) (by show sgc l 1=1;omega)
     refine ⟨-1,a::A,B,.inr rfl,by rw [h1];rfl,λb hb=>?_,⟨a,BC ..,⋯⟩,h3,h4⟩
     rcases Bb.mp hb with rfl | hb
     ·omega
     ·exact h2 b hb
   ·rw [Zt c] at h
    obtain ⟨s,A,B,h0,h1,h2,⟨x,x1,x2⟩,h3,h4⟩:=Nh l h
    refine ⟨s,a::A,B,h0,by rw [h1];rfl,λb hb=>?_,⟨x,BN _ x1,x2⟩,h3,h4⟩
    rcases Bb.mp hb with rfl | hb
    ·have:b=0:=by omega
     rw [this];omega
    ·exact h2 b hb
theorem KM:∀ (l:List Int) (b:Int),(b=1\/b = -1)->1<=sgc l b->∃ j,b*l.getD j 0<0
 | [],_,_,h=>by unfold sgc at h;omega
 | a::l,b,hb,h=>by
   unfold sgc at h
   by_cases c:a≠0
   ·rw [Zu c] at h
    by_cases d:b*a<0
    ·exact ⟨0,d⟩
    ·rw [Zt d] at h
     have e:(if a > 0 then (1:Int) else -1)=b:=by
      rcases hb with rfl | rfl
      ·rw [Zu ⋯]
      ·rw [Zt ⋯]
     rw [e] at h
     obtain ⟨j,hj⟩:=KM l b hb ⋯
     exact ⟨j+1,hj⟩
   ·rw [Zt c] at h
    obtain ⟨j,hj⟩:=KM l b hb h
    exact ⟨j+1,hj⟩
theorem IO:∀ (l:List Int) (b:Int),(b=1\/b = -1)->2<=sgc l b->∃ j k,j<k/\b*l.getD j 0<0/\0<b*l.getD k 0
 | [],_,_,h=>by unfold sgc at h;omega
 | a::l,b,hb,h=>by
   unfold sgc at h
   by_cases c:a≠0
   ·rw [Zu c] at h
    by_cases d:b*a<0
    ·rw [Zu d] at h
     have e:(if a > 0 then (1:Int) else -1) = -b:=by
      rcases hb with rfl | rfl
      ·rw [Zt ⋯]
      ·rw [Zu ⋯];rfl
     rw [e] at h
     obtain ⟨j,hj⟩:=KM l (-b) ⋯ ⋯
     refine ⟨0,j+1,⋯,d,?_⟩
     show 0<b*l.getD j 0
     rw [Dd] at hj;omega
    ·rw [Zt d] at h
     have e:(if a > 0 then (1:Int) else -1)=b:=by
      rcases hb with rfl | rfl
      ·rw [Zu ⋯]
      ·rw [Zt ⋯]
     rw [e] at h
     obtain ⟨j,k,h1,h2,h3⟩:=IO l b hb ⋯
     exact ⟨j+1,k+1,⋯,h2,h3⟩
   ·rw [Zt c] at h
    obtain ⟨j,k,h1,h2,h3⟩:=IO l b hb h
    exact ⟨j+1,k+1,⋯,h2,h3⟩
theorem KN:∀ (l:List Int),2<=sgc l 0->∃ (s:Int) (i j k:Nat),(s=1\/s = -1)/\i<j/\j<k/\0<s*l.getD i 0/\s*l.getD j 0<0/\0<s*l.getD k 0
 | [],h=>by unfold sgc at h;omega
 | a::l,h=>by
   unfold sgc at h
   by_cases c:a≠0
   ·rw [Zu c] at h
    have z:¬ (0:Int)*a<0:=by omega
    rw [Zt z] at h
    rcases Int.lt_trichotomy a 0 with y | y | y
    ·rw [Zt (show ¬ a > 0 by omega)] at h
     obtain ⟨j,k,h1,h2,h3⟩:=IO l (-1) (.inr rfl) ⋯
     exact ⟨-1,0,j+1,k+1,.inr rfl,⋯,⋯,by show 0 < -1*a;omega,h2,h3⟩
    ·exact absurd y c
    ·rw [Zu y] at h
     obtain ⟨j,k,h1,h2,h3⟩:=IO l 1 (.inl rfl) ⋯
     exact ⟨1,0,j+1,k+1,.inl rfl,⋯,⋯,by show 0<1*a;omega,h2,h3⟩
   ·rw [Zt c] at h
    obtain ⟨s,i,j,k,h0,h1,h2,h3,h4,h5⟩:=KN l h
    exact ⟨s,i+1,j+1,k+1,h0,⋯,⋯,h3,h4,h5⟩
theorem GK:∀ (A B:List Int) (y:Rat),evQ (A++B) y=evQ A y+y ^ A.length*evQ B y
 | [],B,y=>by show evQ B y=0+y ^ 0*evQ B y;rw [A7];ext
 | a::A,B,y=>by
   show (a:Rat)+y*evQ (A++B) y=((a:Rat)+y*evQ A y)+y ^ (A.length+1)*evQ B y
   rw [GK A B y,Ap];ext
theorem Ni {x z:Rat} (xz:x*z=1):∀ l:List Int,x ^ l.length*evQ l.reverse z=x*evQ l x
 | []=>by show x ^ 0*0=x*0;ext
 | a::l=>by
   rw [List.reverse_cons,GK,List.length_reverse]
   show x ^ (l.length+1)*(evQ l.reverse z+z ^ l.length*((a:Rat)+z*0))=x*((a:Rat)+x*evQ l x)
   have ih:=Ni xz l
   have p:x ^ l.length*z ^ l.length=1:=by
    have e:∀ n:Nat,x ^ n*z ^ n=1:=λn=>by
     induction n with
     | zero=>rw [A7,A7];ext
     | succ n ih=>
       rw [Ap,Ap]
       have:x ^ n*x*(z ^ n*z)=(x ^ n*z ^ n)*(x*z):=by ext
       rw [this,ih,xz];ext
    exact e _
   rw [Ap]
   have e1:x ^ l.length*x*(evQ l.reverse z+z ^ l.length*((a:Rat)+z*0))=x*(x ^ l.length*evQ l.reverse z)+(x ^ l.length*z ^ l.length)*x*(a:Rat):=by ext
   rw [e1,ih,p];ext
theorem G7 {a:Rat} (h:0<=a):∀ n:Nat,0<=a ^ n
 | 0=>by rw [A7];decide
 | n+1=>by rw [Ap];exact Aa (G7 h n) h
theorem Fd {a:Rat} (h:0<a):∀ n:Nat,0<a ^ n
 | 0=>by rw [A7];decide
 | n+1=>by rw [Ap];exact As (Fd h n) h
theorem WC {s z:Int} (h:0<=s*z):0<=(s:Rat)*(z:Rat):=by
 have:(0:Rat)<=((s*z:Int):Rat):=by exact_mod_cast h
 rw [BL] at this;exact this
theorem Fe {s:Int} {y:Rat} (y0:0<=y):∀ {l:List Int},(∀ z∈l,0<=s*z)->0<=(s:Rat)*evQ l y
 | [],_=>by show 0<=(s:Rat)*0;ext
 | a::l,h=>by
   have ih:=Fe (s:=s) y0 (l:=l) λz hz=>h z (BN _ hz)
   have a0:=WC (h a (BC ..))
   have:=Aa y0 ih
   show 0<=(s:Rat)*((a:Rat)+y*evQ l y)
   ext
theorem KO {s:Int} {p q:Rat} (p0:0<=p) (pq:p<=q):∀ {l:List Int},(∀ z∈l,0<=s*z)->(s:Rat)*evQ l p<=(s:Rat)*evQ l q
 | [],_=>by show (s:Rat)*0<=(s:Rat)*0;ext
 | a::l,h=>by
   have hl:∀ z∈l,0<=s*z:=λz hz=>h z (BN _ hz)
   have ih:=KO (s:=s) p0 pq hl
   have nn:=Fe (s:=s) p0 hl
   have h1:=AQ ih (show 0<=q by ext)
   have h2:=Ax pq nn
   show (s:Rat)*((a:Rat)+p*evQ l p)<=(s:Rat)*((a:Rat)+q*evQ l q)
   ext
theorem Nj {s:Int} {p q:Rat} (p0:0<=p) (pq:p<=q):∀ {l:List Int},(∀ z∈l,s*z<=0)->q ^ l.length*((s:Rat)*evQ l p)<=p ^ l.length*((s:Rat)*evQ l q)
 | [],_=>by show q ^ 0*((s:Rat)*0)<=p ^ 0*((s:Rat)*0);ext
 | a::l,h=>by
   have ih:=Nj (s:=s) p0 pq (l:=l) λz hz=>h z (BN _ hz)
   have a0:0<=-((s:Rat)*(a:Rat)):=by
    have:=h a (BC ..)
    have:(0:Rat)<=((-(s*a):Int):Rat):=by exact_mod_cast (show 0<=-(s*a) by omega)
    rw [DA,BL] at this;exact this
   have q0:0<=q:=by ext
   have pw:∀ n:Nat,p ^ n<=q ^ n:=λn=>by
    induction n with
    | zero=>rw [A7,A7];ext
    | succ n ih=>
      rw [Ap,Ap]
      have h1:=Ax ih p0
      have h2:=AQ pq (G7 q0 n)
      ext
   have h1:=Ax (pw (l.length+1)) a0
   have h2:=AQ ih (Aa p0 q0)
   show q ^ (l.length+1)*((s:Rat)*((a:Rat)+p*evQ l p))<=p ^ (l.length+1)*((s:Rat)*((a:Rat)+q*evQ l q))
   have e1:q ^ (l.length+1)*((s:Rat)*((a:Rat)+p*evQ l p)) = -(q ^ (l.length+1) * -((s:Rat)*(a:Rat)))+p*q*(q ^ l.length*((s:Rat)*evQ l p)):=by rw [Ap];ext
   have e2:p ^ (l.length+1)*((s:Rat)*((a:Rat)+q*evQ l q)) = -(p ^ (l.length+1) * -((s:Rat)*(a:Rat)))+p*q*(p ^ l.length*((s:Rat)*evQ l q)):=by rw [Ap];ext
   rw [e1,e2];ext
theorem stays {s:Int} {A B:List Int} (hA:∀ a∈A,s*a<=0) (hB:∀ b∈B,0<=s*b) {p q:Rat} (p0:0<p) (pq:p<=q) (h:0<(s:Rat)*evQ (A++B) p):0<(s:Rat)*evQ (A++B) q:=by
 have h1:=Nj (s:=s) (show 0<=p by ext) pq hA
 have h2:=KO (s:=s) (show 0<=p by ext) pq hB
 have pp:=Fd p0 A.length
 have qp:=Fd (show 0<q by ext) A.length
 rw [GK] at h ⊢
 have h3:=AQ h2 (show 0<=p ^ A.length*q ^ A.length from Aa () ())
 have h4:=As qp h
 generalize p ^ A.length=P at *
 generalize q ^ A.length=R at *
 refine CV.mp λz=>?_
 have h5:=AQ z (show 0<=P by ext)
 ext
theorem Nk {Q T:List Int} (hT:∀ y,evQ T y=evQ Q.reverse (y+1)) {x y:Rat} (x0:0<x) (xy:x*(y+1)=1):∃ c,0<c/\evQ Q x=c*evQ T y:=by
 have h:=Ni xy Q
 rw [<-hT] at h
 have xi:x*x⁻¹=1:=CJ _ ()
 have xp:=Fd x0 Q.length
 refine ⟨x ^ Q.length*x⁻¹,As xp (Rat.inv_pos.mpr x0),?_⟩
 have e:x ^ Q.length*x⁻¹*evQ T y=(x ^ Q.length*evQ T y)*x⁻¹:=by ext
 rw [e,h]
 have e2:x*evQ Q x*x⁻¹=(x*x⁻¹)*evQ Q x:=by ext
 rw [e2,xi];ext
theorem IP {x:Rat} (x0:0<x) (x1:x<1):∃ y,0<y/\x*(y+1)=1:=by
 have xi:x*x⁻¹=1:=CJ _ ()
 have p:0<x⁻¹:=Rat.inv_pos.mpr x0
 refine ⟨x⁻¹ - 1,?_,()⟩
 refine CV.mp λz=>?_
 have:=AQ (show x⁻¹<=1 by ext) (show 0<=x by ext)
 ext
theorem Nl {y:Rat} (y0:0<y):∃ x,0<x/\x<1/\x*(y+1)=1:=by
 have yi:(y+1)*(y+1)⁻¹=1:=CJ _ ()
 have p:0<(y+1)⁻¹:=Rat.inv_pos.mpr ()
 have:=As p y0
 exact ⟨(y+1)⁻¹,p,(),()⟩
theorem KP {x x' y y':Rat} (x0:0<x) (h:x*(y+1)=1) (h':x'*(y'+1)=1) (l:x<x'):y'<y:=by
 refine CV.mp λz=>?_
 have yp:0<y+1:=by
  refine CV.mp λw=>?_
  have:=AQ w (show 0<=x by ext);ext
 have h1:=As (show 0<x' - x by ext) yp
 have h2:=AQ (show y+1<=y'+1 by ext) (show 0<=x' by ext)
 ext
theorem Nn {d v:Rat} (d0:0<d):(0<d*v↔0<v)/\(d*v<0↔v<0):=by
 rw [mul_pos_iff',mul_neg_iff']
 constructor <;> ext
theorem KQ {s:Int}:∀ {A:List Int},(∀ a∈A,s*a<=0)->(∃ a∈A,s*a<0)->∃ (i:Nat) (c:Rat),i<A.length/\0<c/\∀ y,0<=y->(s:Rat)*evQ A y<=-(c*y ^ i)
 | [],_,⟨a,ha,_⟩=>nomatch ha
 | a::A,h,hex=>by
   have hA:∀ z∈A,s*z<=0:=λz hz=>h z (BN _ hz)
   have neg:∀ y,0<=y->(s:Rat)*evQ A y<=0:=λy y0=>by
    have:=Fe (s:=-s) y0 (l:=A) λz hz=>by rw [Dd];have:=hA z hz;omega
    rw [DA] at this;ext
   by_cases c:s*a<0
   ·refine ⟨0,-((s:Rat)*(a:Rat)),Nat.succ_pos _,?_,λy y0=>?_⟩
    ·have:(0:Rat)<((-(s*a):Int):Rat):=by exact_mod_cast (show 0 < -(s*a) by omega)
     rw [DA,BL] at this;exact this
    ·have:=Aa y0 (show 0<=-((s:Rat)*evQ A y) by have:=neg y y0;ext)
     show (s:Rat)*((a:Rat)+y*evQ A y)<=_
     rw [A7];ext
   ·obtain ⟨x,hx,hx2⟩:=hex
    have xA:x∈A:=by
     rcases Bb.mp hx with rfl | hx
     ·exact absurd hx2 c
     ·exact hx
    obtain ⟨i,d,il,d0,hd⟩:=KQ hA ⟨x,xA,hx2⟩
    refine ⟨i+1,d,Nat.succ_lt_succ il,d0,λy y0=>?_⟩
    have a0:(s:Rat)*(a:Rat)<=0:=by
     have:((s*a:Int):Rat)<=((0:Int):Rat):=by exact_mod_cast h a (BC ..)
     rw [BL] at this;exact this
    have:=AQ (hd y y0) y0
    show (s:Rat)*((a:Rat)+y*evQ A y)<=_
    rw [Ap];ext
theorem No {s:Int} {y:Rat} (y1:1<=y):∀ {n:Nat} {A:List Int},A.length=n+1->(∀ a∈A,s*a<=0)->y ^ n*((s:Rat)*evQ A 1)<=(s:Rat)*evQ A y
 | n,[],h,_=>by cases h
 | 0,[a],_,_=>by
   show y ^ 0*((s:Rat)*((a:Rat)+1*0))<=(s:Rat)*((a:Rat)+y*0)
   rw [A7];ext
 | 0,a::b::A,h,_=>by simp at h
 | n+1,a::A,h,hA=>by
   have ih:=No (s:=s) y1 (n:=n) (A:=A) (by simpa using h) λz hz=>hA z (BN _ hz)
   have a0:0<=-((s:Rat)*(a:Rat)):=by
    have:=hA a (BC ..)
    have:(0:Rat)<=((-(s*a):Int):Rat):=by exact_mod_cast (show 0<=-(s*a) by omega)
    rw [DA,BL] at this;exact this
   have p1:∀ n:Nat,1<=y ^ n:=λn=>by
    induction n with
    | zero=>rw [A7];ext
    | succ n ih=>rw [Ap];have:=AQ y1 (show 0<=y ^ n by ext);ext
   have h1:=Ax (p1 (n+1)) a0
   have h2:=AQ ih (show 0<=y by ext)
   show y ^ (n+1)*((s:Rat)*((a:Rat)+1*evQ A 1))<=(s:Rat)*((a:Rat)+y*evQ A y)
   have e:y ^ (n+1)*((s:Rat)*((a:Rat)+1*evQ A 1)) = -(y ^ (n+1) * -((s:Rat)*(a:Rat)))+y*(y ^ n*((s:Rat)*evQ A 1)):=by rw [Ap];ext
   rw [e];ext
theorem WD {Q T:List Int} (hT:∀ y,evQ T y=evQ Q.reverse (y+1)) (h:sgc T 0=1):IsN (evQ Q) 0 1 1:=by
 obtain ⟨s,A,B,s1,rfl,hA,eA,hB,eB⟩:=Nh T h
 have sr:(s:Rat)=1\/(s:Rat) = -1:=by rcases s1 with rfl | rfl;·exact .inl rfl
                                     ·exact .inr rfl
 obtain ⟨i,c,il,c0,hc⟩:=KQ hA eA
 obtain ⟨i2,c2,il2,c20,hc2⟩:=KQ (s:=-s) (A:=B) (λb hb=>by rw [Dd];have:=hB b hb;omega) (by obtain ⟨b,h1,h2⟩:=eB;exact ⟨b,h1,by rw [Dd];omega⟩)
 have small:∃ y,0<y/\(s:Rat)*evQ (A++B) y<0:=by
  have K0:=Fe (s:=s) (show (0:Rat)<=1 by decide) hB
  obtain ⟨δ,d0,d1,d2⟩:=Ds c0 K0
  refine ⟨δ,d0,?_⟩
  have h1:=hc δ ()
  have h2:=KO (s:=s) (show 0<=δ by ext) d1 hB
  have pi:=Fd d0 i
  have le:δ ^ A.length<=δ ^ i*δ:=by
   have:∀ n:Nat,δ ^ (i+1+n)<=δ ^ (i+1):=λn=>by
    induction n with
    | zero=>exact Rat.le_refl
    | succ n ih=>
      rw [show i+1+(n+1)=(i+1+n)+1 by omega,Ap]
      have:=AQ d1 (G7 (show 0<=δ by ext) (i+1+n));ext
   have:=this (A.length - (i+1))
   rw [show i+1+(A.length - (i+1))=A.length by omega,Ap] at this
   exact this
  rw [GK]
  have nn:=Fe (s:=s) (show 0<=δ by ext) hB
  have h3:=Ax le nn
  have h4:=AQ h2 (show 0<=δ ^ i*δ from Aa () ())
  have h5:=As pi (show 0<c - (s:Rat)*evQ B 1*δ by ext)
  generalize δ ^ i=D at *
  generalize δ ^ A.length=E at *
  ext
 have large:∃ y,0<y/\0<(s:Rat)*evQ (A++B) y:=by
  obtain ⟨n,hn⟩:∃ n,A.length=n+1:=⟨A.length - 1,⋯⟩
  have KA:0<=-((s:Rat)*evQ A 1):=by
   have:=Fe (s:=-s) (show (0:Rat)<=1 by decide) (l:=A) λz hz=>by rw [Dd];have:=hA z hz;omega
   rw [DA] at this;ext
  obtain ⟨δ,d0,d1,d2⟩:=Ds c20 KA
  have di:δ*δ⁻¹=1:=CJ _ ()
  have dp:0<δ⁻¹:=Rat.inv_pos.mpr d0
  generalize δ⁻¹=y at *
  have y1:1<=y:=by
   have:=Ax d1 (show 0<=y by ext);ext
  refine ⟨y,dp,?_⟩
  have h1:=No (s:=s) y1 hn hA
  have h2:=hc2 y ()
  rw [DA] at h2
  have p1:∀ n:Nat,1<=y ^ n:=λn=>by
   induction n with
   | zero=>rw [A7];ext
   | succ n ih=>rw [Ap];have:=AQ y1 (show 0<=y ^ n by ext);ext
  have h3:c2<=(s:Rat)*evQ B y:=by
   have:=AQ (p1 i2) (show 0<=c2 by ext)
   ext
  have yn:=p1 n
  rw [GK,hn,Ap]
  have h4:=AQ h3 (show 0<=y ^ n*y from Aa () ())
  have h5:0<c2*y+(s:Rat)*evQ A 1:=by
   have:=As (show 0<c2 - -((s:Rat)*evQ A 1)*δ by ext) dp
   have e:(c2 - -((s:Rat)*evQ A 1)*δ)*y=c2*y+(s:Rat)*evQ A 1*(δ*y):=by ext
   rw [e,di] at this;ext
  have h6:=As (show 0<y ^ n by ext) h5
  generalize y ^ n=D at *
  ext
 have sg:∀ x y,0<x->x*(y+1)=1->(0<(s:Rat)*evQ Q x↔0<(s:Rat)*evQ (A++B) y)/\((s:Rat)*evQ Q x<0↔(s:Rat)*evQ (A++B) y<0):=λx y x0 xy=>by
  obtain ⟨d,d0,e⟩:=Nk hT x0 xy
  have e2:(s:Rat)*evQ Q x=d*((s:Rat)*evQ (A++B) y):=by rw [e];ext
  rw [e2]
  exact Nn d0
 have alt:∀ {u v:Rat},u*v<0↔(0<(s:Rat)*u/\(s:Rat)*v<0)\/((s:Rat)*u<0/\0<(s:Rat)*v):=λ{u v}=>by
  rw [mul_neg_iff']
  rcases sr with e | e <;> rw [e] <;> ext
 constructor
 ·obtain ⟨p,p0,hp⟩:=small
  obtain ⟨q,q0,hq⟩:=large
  have pq:p<q:=CV.mp λz=>by
   have:=stays hA hB q0 z hq;ext
  obtain ⟨xq,a1,a2,a3⟩:=Nl q0
  obtain ⟨xp,b1,b2,b3⟩:=Nl p0
  have lt:xq<xp:=CV.mp λz=>by
   rcases Rat.le_iff_lt_or_eq.mp z with w | w
   ·have:=KP b1 b3 a3 w;ext
   ·rw [w] at b3
    have:xq*(p - q)=0:=by ext
    rcases CB.mp this with y | y <;> ext
  have s1':=(sg xq q a1 a3).1.mpr hq
  have s2':=(sg xp p b1 b3).2.mpr hp
  exact ⟨xq,a1,a2,xp,lt,alt.mpr (.inl ⟨s1',s2'⟩),b2,λz=>by rw [z] at s2';ext⟩
 ·rintro ⟨u,u0,u1,v,uv,h3,v1,w,vw,h4,w1,_⟩
  obtain ⟨yu,yu0,eu⟩:=IP u0 u1
  obtain ⟨yv,yv0,ev⟩:=IP (show 0<v by ext) v1
  obtain ⟨yw,yw0,ew⟩:=IP (show 0<w by ext) w1
  have d1:=KP u0 eu ev uv
  have d2:=KP (show 0<v by ext) ev ew vw
  have su:=sg u yu u0 eu
  have sv:=sg v yv () ev
  have sw:=sg w yw () ew
  rcases alt.mp h3 with ⟨a,b⟩ | ⟨a,b⟩ <;> rcases alt.mp h4 with ⟨c',d⟩ | ⟨c',d⟩
  ·ext
  ·have:=stays hA hB yw0 (show yw<=yv by ext) (sw.1.mp d)
   have:=sv.2.mp b
   ext
  ·have:=stays hA hB yv0 (show yv<=yu by ext) (sv.1.mp b)
   have:=su.2.mp a
   ext
  ·ext
noncomputable def evS (g:Nat->Rat):Nat->Rat->Rat
 | 0,_=>0
 | n+1,y=>evS g n y+g n*y ^ n
theorem KR (g h:Nat->Rat) (y:Rat):∀ n:Nat,evS (λk=>g k+h k) n y=evS g n y+evS h n y
 | 0=>by show (0:Rat)=0+0;ext
 | n+1=>by show evS (λk=>g k+h k) n y+(g n+h n)*y ^ n=_;rw [KR g h y n];show _=(evS g n y+g n*y ^ n)+(evS h n y+h n*y ^ n);ext
theorem G8 (c:Rat) (g:Nat->Rat) (y:Rat):∀ n:Nat,evS (λk=>c*g k) n y=c*evS g n y
 | 0=>by show (0:Rat)=c*0;ext
 | n+1=>by show evS (λk=>c*g k) n y+c*g n*y ^ n=_;rw [G8 c g y n];show _=c*(evS g n y+g n*y ^ n);ext
theorem G9 {g h:Nat->Rat} {y:Rat}:∀ {n:Nat},(∀ k,k<n->g k=h k)->evS g n y=evS h n y
 | 0,_=>rfl
 | n+1,e=>by show evS g n y+g n*y ^ n=evS h n y+h n*y ^ n;rw [G9 λk hk=>e k ⋯,e n ⋯]
theorem Ff (g:Nat->Rat) (y:Rat):∀ n:Nat,evS g (n+1) y=g 0+y*evS (λk=>g (k+1)) n y
 | 0=>by show (0:Rat)+g 0*y ^ 0=g 0+y*0;rw [A7];ext
 | n+1=>by
   show evS g (n+1) y+g (n+1)*y ^ (n+1)=g 0+y*(evS (λk=>g (k+1)) n y+g (n+1)*y ^ n)
   rw [Ff g y n,Ap];ext
theorem GL (y:Rat):∀ l:List Int,evQ l y=evS (λk=>((l.getD k 0:Int):Rat)) l.length y
 | []=>rfl
 | a::l=>by
   rw [Cr,Ff]
   show (a:Rat)+y*evQ l y=(a:Rat)+y*evS (λk=>((l.getD k 0:Int):Rat)) l.length y
   rw [GL y l]
theorem KS (g:Nat->Rat):∀ n:Nat,∃ L,0<=L/\∀ y,0<=y->y<=1->-(L*y)<=evS g n y - evS g n 0/\evS g n y - evS g n 0<=L*y
 | 0=>⟨0,(),λy _ _=>by show -(0*y)<=(0:Rat) - 0/\(0:Rat) - 0<=0*y;constructor <;> ext⟩
 | n+1=>by
   obtain ⟨L,L0,hL⟩:=KS g n
   obtain ⟨A,A0,a1,a2⟩:∃ A,0<=A/\g n<=A/\-g n<=A:=by
    rcases (A4:0<=g n\/g n<=0) with z | z
    ·exact ⟨g n,z,(),()⟩
    ·exact ⟨-g n,(),(),()⟩
   refine ⟨L+A,(),λy y0 y1=>?_⟩
   obtain ⟨q1,q2⟩:=hL y y0 y1
   show -((L+A)*y)<=(evS g n y+g n*y ^ n) - (evS g n 0+g n*0 ^ n)/\(evS g n y+g n*y ^ n) - (evS g n 0+g n*0 ^ n)<=(L+A)*y
   cases n with
   | zero=>
     rw [A7,A7]
     have:=Aa A0 y0
     constructor <;> ext
   | succ n=>
     have z:(0:Rat) ^ (n+1)=0:=by rw [Ap];ext
     rw [z]
     have p:y ^ (n+1)<=y:=by
      rw [Ap]
      have:y ^ n<=1:=by
       clear z hL q1 q2
       induction n with
       | zero=>rw [A7];ext
       | succ n ih=>rw [Ap];have h1:=Ax (show y ^ n<=1 from by
                            have:∀ m:Nat,y ^ m<=1:=λm=>by
                             induction m with
                             | zero=>rw [A7];ext
                             | succ m im=>rw [Ap];have:=Ax im y0;ext
                            exact this n) y0;ext
      have:=Ax this y0;ext
     have pn:=G7 y0 (n+1)
     have b1:=Ax a1 pn
     have b2:=Ax a2 pn
     have b3:=AQ p A0
     constructor <;> ext
theorem KT:∀ {n:Nat} {g h:Nat->Rat},(∀ y,0<y->y<=1->evS g n y=evS h n y)->∀ k,k<n->g k=h k
 | 0,g,h,_,k,hk=>by omega
 | n+1,g,h,e,k,hk=>by
   have e0:g 0=h 0:=by
    obtain ⟨L,L0,hL⟩:=KS g (n+1)
    obtain ⟨K,K0,hK⟩:=KS h (n+1)
    have z:∀ f:Nat->Rat,evS f (n+1) 0=f 0:=λf=>by rw [Ff];ext
    rw [z] at hL hK
    have key:∀ D,0<D->D<=g 0 - h 0\/D<=h 0 - g 0->False:=λD D0 hD=>by
     obtain ⟨δ,d0,d1,d2⟩:=Ds (q:=L+K) D0 ()
     have:=e δ d0 d1
     have q:=hL δ () d1
     have r:=hK δ () d1
     rw [this] at q
     ext
    rcases rtri (g 0) (h 0) with c | c | c
    ·exact absurd (key (h 0 - g 0) () (.inr ())) (by simp)
    ·exact c
    ·exact absurd (key (g 0 - h 0) () (.inl ())) (by simp)
   cases k with
   | zero=>exact e0
   | succ k=>
     refine KT (n:=n) (g:=λk=>g (k+1)) (h:=λk=>h (k+1)) (λy y0 y1=>?_) k ⋯
     have:=e y y0 y1
     rw [Ff,Ff,e0] at this
     have:y*(evS (λk=>g (k+1)) n y - evS (λk=>h (k+1)) n y)=0:=by ext
     rcases CB.mp this with c | c <;> ext
noncomputable def bn:Nat->Nat->Nat
 | _,0=>1
 | 0,_+1=>0
 | n+1,k+1=>bn n k+bn n (k+1)
theorem Fg (n:Nat):bn n 0=1:=by cases n <;> rfl
theorem GM:∀ {n k:Nat},n<k->bn n k=0
 | 0,k+1,_=>rfl
 | n+1,k+1,h=>by show bn n k+bn n (k+1)=0;rw [GM (show n<k by omega),GM (show n<k+1 by omega)]
theorem Np:∀ {n k:Nat},k<=n->0<bn n k
 | n,0,_=>by rw [Fg];omega
 | n+1,k+1,h=>by show 0<bn n k+bn n (k+1);have:=Np (show k<=n by omega);omega
theorem WE (n k:Nat):bn n k<=bn (n+1) k:=by
 cases k with
 | zero=>rw [Fg,Fg];omega
 | succ k=>show _<=bn n k+bn n (k+1);omega
theorem Nq {m n:Nat} (h:m<=n) (k:Nat):bn m k<=bn n k:=by
 induction n with
 | zero=>rw [show m=0 by omega];exact AS _
 | succ n ih=>
   rcases BG m (n+1) with c | c
   ·exact Be (ih ⋯) (WE n k)
   ·rw [show m=n+1 by omega];exact AS _
theorem KU:∀ n k:Nat,(n+1)*bn n k+k*bn (n+1) k=(n+1)*bn (n+1) k
 | n,0=>by rw [Fg,Fg];omega
 | 0,1=>rfl
 | 0,k+2=>by rw [GM (show 0<k+2 by omega),GM (show 0+1<k+2 by omega)];omega
 | n+1,k+1=>by
   have i1:=KU n k
   have i2:=KU n (k+1)
   have e1:bn (n+1) (k+1)=bn n k+bn n (k+1):=rfl
   have e2:bn (n+1+1) (k+1)=bn (n+1) k+bn (n+1) (k+1):=rfl
   rw [e2]
   generalize bn (n+1) k=a at *
   generalize hb:bn (n+1) (k+1)=b at *
   generalize bn n k=c at *
   generalize bn n (k+1)=d at *
   have:(n+1)*b=(n+1)*c+(n+1)*d:=by rw [e1,Nat.mul_add]
   ext
theorem binom (y:Rat):∀ n:Nat,evS (λk=>((bn n k:Nat):Rat)) (n+1) y=(1+y) ^ n
 | 0=>by show (0:Rat)+((bn 0 0:Nat):Rat)*y ^ 0=(1+y) ^ 0;rw [A7,A7];show (0:Rat)+((1:Nat):Rat)*1=1;ext
 | n+1=>by
   have st:∀ m:Nat,evS (λk=>((bn (n+1) k:Nat):Rat)) (m+1) y=evS (λk=>((bn n k:Nat):Rat)) (m+1) y+y*evS (λk=>((bn n k:Nat):Rat)) m y:=λm=>by
    induction m with
    | zero=>show (0:Rat)+((bn (n+1) 0:Nat):Rat)*y ^ 0=(0+((bn n 0:Nat):Rat)*y ^ 0)+y*0;rw [Fg,Fg];ext
    | succ m ih=>
      show evS (λk=>((bn (n+1) k:Nat):Rat)) (m+1) y+((bn n m+bn n (m+1):Nat):Rat)*y ^ (m+1)=(evS (λk=>((bn n k:Nat):Rat)) (m+1) y+((bn n (m+1):Nat):Rat)*y ^ (m+1))+y*(evS (λk=>((bn n k:Nat):Rat)) m y+((bn n m:Nat):Rat)*y ^ m)
      rw [ih,Ap];push_cast;ext
   rw [st (n+1),binom y n]
   show (evS (λk=>((bn n k:Nat):Rat)) (n+1) y+((bn n (n+1):Nat):Rat)*y ^ (n+1))+_=_
   rw [binom y n,GM (show n<n+1 by omega),Ap]
   have:((0:Nat):Rat)=0:=rfl
   rw [this];ext
noncomputable def cg:List Int->Nat->Int
 | [],_=>0
 | p::l,k=>p*(bn l.length k:Nat)+cg l k
theorem IQ:∀ {l:List Int} {k:Nat},l.length<=k->cg l k=0
 | [],_,_=>rfl
 | p::l,k,h=>by
   have h:l.length+1<=k:=h
   show p*(bn l.length k:Nat)+cg l k=0
   rw [GM ⋯,IQ ⋯];omega
theorem Nr (y:Rat):∀ l:List Int,evS (λk=>((cg l k:Int):Rat)) l.length y=evQ l.reverse (y+1)
 | []=>rfl
 | p::l=>by
   rw [List.reverse_cons,GK,List.length_reverse]
   show evS (λk=>((p*(bn l.length k:Nat)+cg l k:Int):Rat)) (l.length+1) y=evQ l.reverse (y+1)+(y+1) ^ l.length*((p:Rat)+(y+1)*0)
   have e:evS (λk=>((p*(bn l.length k:Nat)+cg l k:Int):Rat)) (l.length+1) y=evS (λk=>(p:Rat)*((bn l.length k:Nat):Rat)+((cg l k:Int):Rat)) (l.length+1) y:=G9 λk _=>by rw [Rat.intCast_add,BL];rfl
   rw [e,KR,G8,binom]
   have e2:evS (λk=>((cg l k:Int):Rat)) (l.length+1) y=evS (λk=>((cg l k:Int):Rat)) l.length y:=by
    show evS (λk=>((cg l k:Int):Rat)) l.length y+((cg l l.length:Int):Rat)*y ^ l.length=_
    rw [IQ (AS _)]
    have:((0:Int):Rat)=0:=rfl
    rw [this];ext
   rw [e2,Nr y l,Rat.add_comm 1 y];ext
theorem WF {Q T:List Int} (hl:T.length=Q.length) (hT:∀ y,evQ T y=evQ Q.reverse (y+1)) (k:Nat):T.getD k 0=cg Q k:=by
 rcases BG k Q.length with c | c
 ·have:=KT (n:=Q.length) (g:=λk=>((T.getD k 0:Int):Rat)) (h:=λk=>((cg Q k:Int):Rat)) (λy _ _=>by rw [Nr,<-hT,GL,hl]) k c
  exact_mod_cast this
 ·rw [IQ c,AU,Bv ⋯];rfl
noncomputable def sz1:List Int->Nat
 | []=>0
 | a::l=>a.natAbs+sz1 l
theorem Nt {n:Nat}:∀ {l:List Int} (k:Nat),l.length<=n+1->(cg l k).natAbs<=sz1 l*bn n k
 | [],k,_=>by show 0<=_;omega
 | p::l,k,h=>by
   have h:l.length+1<=n+1:=h
   have ih:=Nt (n:=n) (l:=l) k ⋯
   have b:=Nq (show l.length<=n by omega) k
   show (p*(bn l.length k:Nat)+cg l k).natAbs<=(p.natAbs+sz1 l)*bn n k
   have h1:=Int.natAbs_add_le (p*(bn l.length k:Nat)) (cg l k)
   have h2:(p*(bn l.length k:Nat)).natAbs<=p.natAbs*bn n k:=by
    rw [BI,Ce];exact B6 _ b
   rw [DJ];omega
theorem WG {p0 p1:Int} {l T:List Int} (hl:T.length=l.length+2) (hT:∀ y,evQ T y=evQ (p0::p1::l).reverse (y+1)) (h:2<=sgc T 0):p1.natAbs<=2*(l.length+1)*sz1 l/\p0.natAbs<=p1.natAbs+sz1 l:=by
 obtain ⟨s,i,j,k,s1,ij,jk,hi,hj,hk⟩:=KN T h
 have co:=λk=>WF (Q:=p0::p1::l) (by rw [hl];rfl) hT k
 rw [co] at hi hj hk
 have kn:k<=l.length+1:=DI.mp λz=>by
  have:cg (p0::p1::l) k=0:=IQ (by show l.length+1+1<=k;omega)
  rw [this] at hk;omega
 have e:∀ m,cg (p0::p1::l) m=p0*(bn (l.length+1) m:Nat)+(p1*(bn l.length m:Nat)+cg l m):=λm=>rfl
 have bd:∀ m,(cg l m).natAbs<=sz1 l*bn (l.length+1) m:=λm=>Nt m ⋯
 have pos:∀ m,m<=l.length+1->0<bn (l.length+1) m:=λm hm=>Np hm
 have le:=λm=>Nq (show l.length<=l.length+1 by omega) m
 have id:=λm=>KU l.length m
 generalize l.length=n at *
 generalize sz1 l=S at *
 rw [e] at hi hj hk
 constructor
 ·refine DI.mp λz=>?_
  have key:∀ m,m<=n+1->∃ B r:Int,0<B/\(n+1)*cg (p0::p1::l) m=B*((n+1)*p0+(n+1 - m)*p1)+(n+1)*r/\-(S*B)<=r/\r<=S*B:=λm hm=>by
   refine ⟨(bn (n+1) m:Nat),cg l m,by have:=pos m hm;omega,?_,?_,?_⟩
   ·rw [e]
    have i:=id m
    have i:((n:Int)+1)*(bn n m:Nat)+(m:Int)*(bn (n+1) m:Nat)=((n:Int)+1)*(bn (n+1) m:Nat):=by exact_mod_cast i
    have i2:((n:Int)+1)*(bn n m:Nat)=((n:Int)+1 - m)*(bn (n+1) m:Nat):=by ext
    ext
   ·have:=bd m
    have:((cg l m).natAbs:Int)<=(S:Int)*(bn (n+1) m:Nat):=by exact_mod_cast this
    omega
   ·have:=bd m
    have:((cg l m).natAbs:Int)<=(S:Int)*(bn (n+1) m:Nat):=by exact_mod_cast this
    omega
  obtain ⟨Bi,ri,Bi0,ei,ri1,ri2⟩:=key i ⋯
  obtain ⟨Bj,rj,Bj0,ej,rj1,rj2⟩:=key j ⋯
  obtain ⟨Bk,rk,Bk0,ek,rk1,rk2⟩:=key k ⋯
  rw [<-e] at hi hj hk
  have N0:(0:Int)<(n:Int)+1:=by omega
  have up:∀ {B c b r:Int},0<B->((n:Int)+1)*c=B*b+((n:Int)+1)*r->-(S*B)<=r->r<=S*B->(0<s*c->-(((n:Int)+1)*S)<s*b)/\(s*c<0->s*b<((n:Int)+1)*S):=λ{B c b r} B0 e1 r1 r2=>by
   have q1:=EV r1 (show 0<=(n:Int)+1 by omega)
   have q2:=EV r2 (show 0<=(n:Int)+1 by omega)
   constructor
   ·intro hc
    refine Int.not_le.mp λz=>?_
    have h1:=EV z (show 0<=B by omega)
    have h2:=Int.mul_pos N0 hc
    rcases s1 with rfl | rfl <;> ext
   ·intro hc
    refine Int.not_le.mp λz=>?_
    have h1:=EV z (show 0<=B by omega)
    have h2:=Int.mul_neg_of_pos_of_neg N0 hc
    rcases s1 with rfl | rfl <;> ext
  have ui:=(up Bi0 ei ri1 ri2).1 hi
  have uj:=(up Bj0 ej rj1 rj2).2 hj
  have uk:=(up Bk0 ek rk1 rk2).1 hk
  have zz:2*(((n:Int)+1)*S)<(p1.natAbs:Int):=by
   have:((2*(n+1)*S:Nat):Int)<(p1.natAbs:Int):=by exact_mod_cast z
   push_cast at this
   ext
  generalize ((n:Int)+1)*(S:Int)=NS at *
  by_cases w:0<s*p1
  ·have a1:(p1.natAbs:Int)=s*p1:=by rcases s1 with rfl | rfl <;> omega
   have h1:s*p1<=((k:Int) - j)*(s*p1):=by
    have:=FM (show (1:Int)<=(k:Int) - j by omega) (show 0<=s*p1 by omega)
    omega
   have h2:s*(((n:Int)+1)*p0+((n:Int)+1 - j)*p1)=s*(((n:Int)+1)*p0+((n:Int)+1 - k)*p1)+((k:Int) - j)*(s*p1):=by ext
   omega
  ·have a1:(p1.natAbs:Int) = -(s*p1):=by rcases s1 with rfl | rfl <;> omega
   have h1:((j:Int) - i)*(s*p1)<=s*p1:=by
    have:=FM (show (1:Int)<=(j:Int) - i by omega) (show 0<=-(s*p1) by omega)
    ext
   have h2:s*(((n:Int)+1)*p0+((n:Int)+1 - i)*p1)=s*(((n:Int)+1)*p0+((n:Int)+1 - j)*p1)+((j:Int) - i)*(s*p1):=by ext
   omega
 ·refine DI.mp λz=>?_
  have key:∀ m,m<=n+1->(0<s*p0->0<s*cg (p0::p1::l) m)/\(s*p0<0->s*cg (p0::p1::l) m<0):=λm hm=>by
   rw [e]
   have b0:=pos m hm
   have b1:=bd m
   have b2:=le m
   generalize bn (n+1) m=B at *
   generalize bn n m=B' at *
   generalize cg l m=r at *
   have q:(p1*(B':Nat)+r).natAbs<=(p1.natAbs+S)*B:=by
    have h1:=Int.natAbs_add_le (p1*(B':Nat)) r
    have h2:(p1*(B':Nat)).natAbs<=p1.natAbs*B:=by rw [BI,Ce];exact B6 _ b2
    rw [DJ];omega
   have q2:(p1.natAbs+S+1)*B<=p0.natAbs*B:=CP _ z
   have q3:(p0*(B:Nat)).natAbs=p0.natAbs*B:=by rw [BI,Ce]
   rw [DJ,Nat.one_mul] at q2
   generalize p1*(B':Nat)+r=t at *
   have q4:t.natAbs<(p0*(B:Nat)).natAbs:=by omega
   constructor
   ·intro hp
    have:0<s*p0*(B:Nat):=Int.mul_pos hp ⋯
    rw [Int.mul_assoc] at this
    generalize p0*(B:Nat)=v at *
    rcases s1 with rfl | rfl <;> omega
   ·intro hp
    have:s*p0*(B:Nat)<0:=Int.mul_neg_of_neg_of_pos hp ⋯
    rw [Int.mul_assoc] at this
    generalize p0*(B:Nat)=v at *
    rcases s1 with rfl | rfl <;> omega
  rw [<-e] at hi hj hk
  have p0n:s*p0≠0:=λw=>by
   have:p0=0:=by rcases s1 with rfl | rfl <;> omega
   rw [this] at z;omega
  rcases Int.lt_or_gt_of_ne p0n with w | w
  ·have:=(key i ⋯).2 w;omega
  ·have:=(key j ⋯).1 w;omega
noncomputable def tq (u w:Rat):List Int->Nat->Rat
 | [],_=>0
 | a::l,0=>(a:Rat)+u*tq u w l 0
 | a::l,i+1=>u*tq u w l (i+1)+w*tq u w l i
theorem KW (u w:Rat):∀ {l:List Int} {i:Nat},l.length<=i->tq u w l i=0
 | [],_,_=>by unfold tq;rfl
 | a::l,0,h=>by cases h
 | a::l,i+1,h=>by
   have h:l.length+1<=i+1:=h
   unfold tq
   rw [KW u w (show l.length<=i+1 by omega),KW u w (show l.length<=i by omega)];ext
theorem KY (u w x:Rat):∀ l:List Int,evS (tq u w l) l.length x=evQ l (u+w*x)
 | []=>rfl
 | a::l=>by
   rw [Cr,Ff]
   show ((a:Rat)+u*tq u w l 0)+x*evS (λk=>u*tq u w l (k+1)+w*tq u w l k) l.length x=(a:Rat)+(u+w*x)*evQ l (u+w*x)
   rw [KR,G8,G8,KY u w x l,<-KY u w x l]
   have e:evS (tq u w l) l.length x=evS (tq u w l) (l.length+1) x:=by
    show _=evS (tq u w l) l.length x+tq u w l l.length*x ^ l.length
    rw [KW u w (AS _)];ext
   have e2:=Ff (tq u w l) x l.length
   rw [<-e] at e2
   generalize evS (tq u w l) l.length x=E at *
   generalize evS (λk=>tq u w l (k+1)) l.length x=G at *
   rw [e2];ext
noncomputable def gm:List Int->Nat->Nat
 | [],_=>0
 | a::l,0=>a.natAbs+gm l 0
 | a::l,i+1=>gm l (i+1)+gm l i
theorem iabs (z:Int):(z:Rat)<=((z.natAbs:Nat):Rat)/\-(z:Rat)<=((z.natAbs:Nat):Rat):=by
 have h1:z<=((z.natAbs:Nat):Int):=by omega
 have h2:-z<=((z.natAbs:Nat):Int):=by omega
 constructor
 ·exact_mod_cast h1
 ·have:((-z:Int):Rat)<=(((z.natAbs:Nat):Int):Rat):=by exact_mod_cast h2
  rw [DA] at this;exact this
theorem HA {u w:Rat} (u0:0<=u) (u1:u<=1) (w0:0<=w):∀ (l:List Int) (i:Nat),tq u w l i<=w ^ i*((gm l i:Nat):Rat)/\-tq u w l i<=w ^ i*((gm l i:Nat):Rat)
 | [],i=>by
   unfold tq gm
   have:((0:Nat):Rat)=0:=rfl
   rw [this];constructor <;> ext
 | a::l,0=>by
   obtain ⟨h1,h2⟩:=HA u0 u1 w0 l 0
   obtain ⟨a1,a2⟩:=iabs a
   unfold tq gm
   rw [A7] at *
   have g0:(0:Rat)<=((gm l 0:Nat):Rat):=by exact_mod_cast AV _
   have q1:=AQ h1 u0
   have q2:=AQ h2 u0
   have q3:=Ax u1 g0
   push_cast
   constructor <;> ext
 | a::l,i+1=>by
   obtain ⟨h1,h2⟩:=HA u0 u1 w0 l (i+1)
   obtain ⟨h3,h4⟩:=HA u0 u1 w0 l i
   unfold tq gm
   have g0:(0:Rat)<=w ^ (i+1)*((gm l (i+1):Nat):Rat):=Aa (G7 w0 _) (by exact_mod_cast AV _)
   have q1:=AQ h1 u0
   have q2:=AQ h2 u0
   have q3:=Ax u1 g0
   have q4:=AQ h3 w0
   have q5:=AQ h4 w0
   rw [Ap] at *
   push_cast
   constructor <;> ext
noncomputable def gs (l:List Int):Nat->Nat
 | 0=>0
 | n+1=>gs l n+gm l n
theorem WH (a:Int) (l:List Int):∀ n:Nat,gs (a::l) n<=a.natAbs+2*gs l n
 | 0=>by show 0<=_;omega
 | 1=>by
   show 0+gm (a::l) 0<=a.natAbs+2*(0+gm l 0)
   have:gm (a::l) 0=a.natAbs+gm l 0:=by rw [gm]
   omega
 | n+2=>by
   have key:∀ n:Nat,gs (a::l) (n+1)=a.natAbs+gs l (n+1)+gs l n:=λn=>by
    induction n with
    | zero=>
      show 0+gm (a::l) 0=a.natAbs+(0+gm l 0)+0
      have:gm (a::l) 0=a.natAbs+gm l 0:=by rw [gm]
      omega
    | succ n ih=>
      show gs (a::l) (n+1)+gm (a::l) (n+1)=a.natAbs+(gs l (n+1)+gm l (n+1))+(gs l n+gm l n)
      have:gm (a::l) (n+1)=gm l (n+1)+gm l n:=by rw [gm]
      omega
   have h:gs (a::l) (n+2)=a.natAbs+gs l (n+2)+gs l (n+1):=key (n+1)
   have:gs l (n+2)=gs l (n+1)+gm l (n+1):=rfl
   omega
theorem KZ (n:Nat):∀ (l:List Int) {B:Nat},(∀ z∈l,z.natAbs<=B)->gs l n+B<=B*2 ^ l.length
 | [],B,_=>by
   have:∀ n,gs [] n=0:=λn=>by induction n with
    | zero=>rfl
    | succ n ih=>show gs [] n+gm [] n=0;rw [ih,gm]
   rw [this];show 0+B<=B*1;omega
 | a::l,B,h=>by
   have ih:=KZ n l (B:=B) λz hz=>h z (BN _ hz)
   have a1:=h a (BC ..)
   have c:=WH a l n
   rw [Cr,B5]
   have e:B*(2 ^ l.length*2)=B*2 ^ l.length+B*2 ^ l.length:=by ext
   omega
theorem Ka (u w:Rat):∀ l:List Int,tq u w l 0=evQ l u
 | []=>by unfold tq;rfl
 | a::l=>by unfold tq;rw [Ka u w l];rfl
theorem Nv (u w:Rat):∀ l:List Int,tq u w l 1=w*dQ l u
 | []=>by unfold tq;show (0:Rat)=w*0;ext
 | a::l=>by
   show tq u w (a::l) (0+1)=w*(evQ l u+u*dQ l u)
   rw [tq,Ka,Nv u w l];ext
theorem IR {P Q:List Int} {M u w:Rat} (hl:P.length=Q.length) (hP:∀ x,evQ P x=M*evQ Q (u+w*x)) {i:Nat} (hi:i<Q.length):((P.getD i 0:Int):Rat)=M*tq u w Q i:=
 KT (n:=Q.length) (g:=λk=>((P.getD k 0:Int):Rat)) (h:=λk=>M*tq u w Q k) (λy _ _=>by rw [G8,KY,<-hP,GL,hl]) i hi
theorem Nw {Q:List Int} {K:Rat} (K0:0<=K):∀ (l:List Int) (off:Nat),(∀ i,i<l.length->(((l.getD i 0).natAbs:Nat):Rat)<=K*((gm Q (off+i):Nat):Rat))->((sz1 l:Nat):Rat)+K*((gs Q off:Nat):Rat)<=K*((gs Q (off+l.length):Nat):Rat)
 | [],off,_=>by
   show ((0:Nat):Rat)+_<=K*((gs Q (off+0):Nat):Rat)
   have:((0:Nat):Rat)=0:=rfl
   rw [this,Nat.add_zero];ext
 | a::l,off,h=>by
   have h0:=h 0 (Nat.succ_pos _)
   have ih:=Nw (Q:=Q) K0 l (off+1) λi hi=>by
    have:=h (i+1) (Nat.succ_lt_succ hi)
    rw [show off+1+i=off+(i+1) by omega];exact this
   show ((a.natAbs+sz1 l:Nat):Rat)+_<=K*((gs Q (off+(l.length+1)):Nat):Rat)
   rw [show off+(l.length+1)=off+1+l.length by omega]
   have e:gs Q (off+1)=gs Q off+gm Q off:=rfl
   rw [e] at ih
   have h0:((a.natAbs:Nat):Rat)<=K*((gm Q off:Nat):Rat):=h0
   push_cast at ih ⊢
   ext
theorem Nx {z:Int} {B:Rat} (h1:(z:Rat)<=B) (h2:-(z:Rat)<=B):((z.natAbs:Nat):Rat)<=B:=by
 rcases Int.natAbs_eq z with e | e
 ·have:(z:Rat)=(((z.natAbs:Nat):Int):Rat):=by rw [<-e]
  have e2:(((z.natAbs:Nat):Int):Rat)=((z.natAbs:Nat):Rat):=rfl
  ext
 ·have:(z:Rat)=((-((z.natAbs:Nat):Int):Int):Rat):=by rw [<-e]
  rw [DA] at this
  have e2:(((z.natAbs:Nat):Int):Rat)=((z.natAbs:Nat):Rat):=rfl
  ext
theorem deep {Q P T:List Int} {U V:Rat->Rat} {M u w H:Rat} (hl:P.length=Q.length) (hP:∀ x,evQ P x=M*evQ Q (u+w*x)) (M0:0<M) (u0:0<=u) (u1:u<=1) (w0:0<w) (w1:w<=1) (hTl:T.length=P.length) (hT:∀ y,evQ T y=evQ P.reverse (y+1)) (H0:0<=H) (hU:U u<=H/\-U u<=H) (hV:V u<=H/\-V u<=H) (hd:U u*evQ Q u+V u*dQ Q u=1) (hw:w*(H*((gs Q Q.length*(8*Q.length+8):Nat):Rat))<1):sgc T 0<=1:=by
 refine DI.mp λc=>?_
 have c:2<=sgc T 0:=c
 have GJ:3<=T.length:=by
  obtain ⟨s,i,j,k,_,ij,jk,_,_,hk⟩:=KN T c
  refine DI.mp λz=>?_
  rw [AU,Bv ⋯] at hk
  have hk:0<s*0:=hk
  omega
 match P,hl,hP,hTl,hT with
 | [],hl,hP,hTl,hT=>have:T.length=0:=hTl;omega
 | [p],hl,hP,hTl,hT=>have:T.length=1:=hTl;omega
 | p0::p1::l,hl,hP,hTl,hT=>
   have lQ:Q.length=l.length+2:=by rw [<-hl];rfl
   obtain ⟨t1,t0⟩:=WG (l:=l) (by rw [hTl];rfl) hT c
   have c0:=IR hl hP (i:=0) ⋯
   have c1:=IR hl hP (i:=1) ⋯
   rw [Ka] at c0
   rw [Nv] at c1
   have c0:(p0:Rat)=M*evQ Q u:=c0
   have c1:(p1:Rat)=M*(w*dQ Q u):=c1
   have K0:0<=M*(w*w):=Aa () (Aa () ())
   have s:=Nw (Q:=Q) K0 l 2 λi hi=>by
    have e:=IR hl hP (i:=i+2) ⋯
    have e:((l.getD i 0:Int):Rat)=M*tq u w Q (i+2):=e
    obtain ⟨b1,b2⟩:=HA u0 u1 (show 0<=w by ext) Q (i+2)
    have g0:(0:Rat)<=((gm Q (i+2):Nat):Rat):=by exact_mod_cast AV _
    have pw:w ^ (i+2)<=w*w:=by
     have:∀ n:Nat,w ^ n<=1:=λn=>by
      induction n with
      | zero=>rw [A7];ext
      | succ n ih=>rw [Ap];have:=Ax ih (show 0<=w by ext);ext
     rw [show i+2=(i+1)+1 by omega,Ap,Ap]
     have:=Ax (this i) (Aa (show 0<=w by ext) (show 0<=w by ext))
     ext
    have q:=Ax pw g0
    have q1:=AQ (Rat.le_trans b1 q) (show 0<=M by ext)
    have q2:=AQ (Rat.le_trans b2 q) (show 0<=M by ext)
    rw [show 2+i=i+2 by omega]
    refine Nx ?_ ?_
    ·rw [e];ext
    ·rw [e];ext
   rw [show 2+l.length=Q.length by omega] at s
   have gs0:(0:Rat)<=((gs Q 2:Nat):Rat):=by exact_mod_cast AV _
   have s:((sz1 l:Nat):Rat)<=M*(w*w)*((gs Q Q.length:Nat):Rat):=by
    have:=Aa K0 gs0;ext
   obtain ⟨a1,a2⟩:=iabs p1
   obtain ⟨a3,a4⟩:=iabs p0
   have t1r:((p1.natAbs:Nat):Rat)<=2*((l.length:Rat)+1)*((sz1 l:Nat):Rat):=by
    have:((p1.natAbs:Nat):Rat)<=((2*(l.length+1)*sz1 l:Nat):Rat):=by exact_mod_cast t1
    push_cast at this;exact this
   have t0r:((p0.natAbs:Nat):Rat)<=((p1.natAbs:Nat):Rat)+((sz1 l:Nat):Rat):=by
    have:((p0.natAbs:Nat):Rat)<=((p1.natAbs+sz1 l:Nat):Rat):=by exact_mod_cast t0
    push_cast at this;exact this
   obtain ⟨U1,U2⟩:=hU
   obtain ⟨V1,V2⟩:=hV
   have hw':w*(H*(((gs Q Q.length:Nat):Rat)*(8*((l.length:Rat)+2)+8)))<1:=by
    rw [lQ] at hw ⊢
    push_cast at hw
    exact hw
   have n0:(0:Rat)<=(l.length:Rat):=by exact_mod_cast AV _
   have G0:(0:Rat)<=((gs Q Q.length:Nat):Rat):=by exact_mod_cast AV _
   generalize ((gs Q Q.length:Nat):Rat)=G at *
   generalize ((sz1 l:Nat):Rat)=S at *
   generalize U u=Uu at *
   generalize V u=Vu at *
   generalize (l.length:Rat)=n at *
   generalize ((p1.natAbs:Nat):Rat)=P1 at *
   generalize ((p0.natAbs:Nat):Rat)=P0 at *
   have wG:=Aa (show 0<=w by ext) G0
   have nS:=AQ s (show 0<=2*(n+1) by ext)
   have up:∀ v B:Rat,M*v<=M*B->v<=B:=λv B h=>C9.mp λz=>by
    have:=As M0 (show 0<v - B by ext);ext
   have upw:∀ v B:Rat,w*v<=w*B->v<=B:=λv B h=>C9.mp λz=>by
    have:=As w0 (show 0<v - B by ext);ext
   have dq1:dQ Q u<=2*(n+1)*(w*G):=upw _ _ (up _ _ ())
   have dq2:-dQ Q u<=2*(n+1)*(w*G):=upw _ _ (up _ _ ())
   have wl:=Ax w1 wG
   have nw:=AQ wl (show 0<=2*(n+1)+1 by ext)
   have q1:evQ Q u<=(2*(n+1)+1)*(w*G):=by
    have:evQ Q u<=(2*(n+1)+1)*(w*(w*G)):=up _ _ ()
    ext
   have q2:-evQ Q u<=(2*(n+1)+1)*(w*G):=by
    have:-evQ Q u<=(2*(n+1)+1)*(w*(w*G)):=up _ _ ()
    ext
   have prod:∀ a b A B:Rat,0<=A->0<=B->a<=A->-a<=A->b<=B->-b<=B->a*b<=A*B/\-(a*b)<=A*B:=λa b A B A0 B0 h1 h2 h3 h4=>by
    rcases (A4:0<=a\/a<=0) with z | z
    ·have x1:=AQ h3 z
     have x2:=AQ h4 z
     have x3:=Ax h1 B0
     constructor <;> ext
    ·have x1:=AQ h3 (show 0<=-a by ext)
     have x2:=AQ h4 (show 0<=-a by ext)
     have x3:=Ax h2 B0
     constructor <;> ext
   have nG:=Aa n0 wG
   obtain ⟨x1,x2⟩:=prod Uu (evQ Q u) H _ H0 () U1 U2 q1 q2
   obtain ⟨x3,x4⟩:=prod Vu (dQ Q u) H _ H0 () V1 V2 dq1 dq2
   have y1:=Aa H0 wG
   have y3:=Aa H0 nG
   have e:w*(H*(G*(8*(n+2)+8)))=8*(H*(n*(w*G)))+24*(H*(w*G)):=by ext
   rw [e] at hw'
   ext
theorem Cn.scl {f:Rat->Rat} {κ b:Rat} (k0:κ≠0):∀ {k:Nat} {x:Rat},Cn (λt=>κ*f t) b k x↔Cn f b k x:=by
 have kk:0<κ*κ:=by rw [mul_pos_iff'];rcases rtri κ 0 with c | c | c <;> ext
 have sg:∀ p q:Rat,κ*p*(κ*q)<0↔p*q<0:=λp q=>by
  have e:κ*p*(κ*q)=(κ*κ)*(p*q):=by ext
  rw [e];exact (Nn kk).2
 intro k
 induction k with
 | zero=>
   intro x
   refine and_congr Iff.rfl ⟨λh z=>h (by show κ*f x=0;rw [z];ext),λh z=>?_⟩
   rcases CB.mp z with y | y
   ·exact k0 y
   ·exact h y
 | succ k ih=>
   intro x
   constructor
   ·rintro ⟨h1,y,h2,h3,h4⟩
    exact ⟨h1,y,h2,(sg _ _).mp h3,ih.mp h4⟩
   ·rintro ⟨h1,y,h2,h3,h4⟩
    exact ⟨h1,y,h2,(sg _ _).mpr h3,ih.mpr h4⟩
theorem Nf.scl {f:Rat->Rat} {κ a b:Rat} (k0:κ≠0):Nf (λt=>κ*f t) a b=Nf f a b:=by
 have e:∀ k,IsN (λt=>κ*f t) a b k↔IsN f a b k:=λk=>by
  unfold IsN AltN
  constructor
  ·rintro ⟨⟨x,h1,h2⟩,n⟩
   exact ⟨⟨x,h1,(Cn.scl k0).mp h2⟩,λ⟨y,h3,h4⟩=>n ⟨y,h3,(Cn.scl k0).mpr h4⟩⟩
  ·rintro ⟨⟨x,h1,h2⟩,n⟩
   exact ⟨⟨x,h1,(Cn.scl k0).mpr h2⟩,λ⟨y,h3,h4⟩=>n ⟨y,h3,(Cn.scl k0).mp h4⟩⟩
 by_cases h:∃ k,IsN f a b k
 ·obtain ⟨k,hk⟩:=h
  rw [EL hk,EL ((e k).mpr hk)]
 ·unfold Nf
  rw [dif_neg h,dif_neg λ⟨k,hk⟩=>h ⟨k,(e k).mp hk⟩]
theorem Nf.one {f:Rat->Rat} {a b s:Rat} (ab:a<b) (h:∀ x,a<x->x<b->0<f x*s):Nf f a b=0:=by
 refine EL ⟨⟨(a+b) / 2,(),(),λz=>?_⟩,?_⟩
 ·have:=h ((a+b) / 2) () ()
  rw [z] at this;ext
 ·rintro ⟨x,h1,h2,y,h3,h4,h5,_⟩
  have p:=like (h x h1 h2) (h y () h5)
  ext
theorem Sf.keeps {l:List Int} (h:Sf l) {a b:Rat} (ab:a<b) (n:Nf (evQ l) a b=0) (fa:evQ l a≠0) (fb:evQ l b≠0):∀ x,a<=x->x<=b->0<=evQ l x*evQ l a:=by
 have is:=h.isN ab
 rw [n] at is
 have no:∀ x y,a<x->x<y->y<b->¬ evQ l x*evQ l y<0:=λx y h1 h2 h3 h4=>is.2 ⟨x,h1,(),y,h2,h4,h3,λz=>by rw [z] at h4;ext⟩
 obtain ⟨_,δ,d0,gr⟩:=KL fa
 obtain ⟨⟨ε,e0,gl⟩,_⟩:=KL fb
 have near:∀ x,a<x->∃ p,a<p/\p<x/\0<evQ l p*evQ l a:=λx ax=>by
  rcases (A4:x<=a+δ\/a+δ<=x) with c | c
  ·exact ⟨(a+x) / 2,(),(),gr _ () ()⟩
  ·exact ⟨a+δ / 2,(),(),gr _ () ()⟩
 have inn:∀ x,a<x->x<b->0<=evQ l x*evQ l a:=λx h1 h2=>by
  obtain ⟨p,p1,p2,p3⟩:=near x h1
  refine C9.mp λz=>no p x p1 p2 h2 ?_
  have:0<evQ l x * -evQ l a:=by ext
  have:=opp this p3
  ext
 intro x h1 h2
 by_cases ea:x=a
 ·rw [ea]
  have:0<evQ l a*evQ l a:=by rw [mul_pos_iff'];rcases rtri (evQ l a) 0 with c | c | c <;> ext
  ext
 ·by_cases eb:x=b
  ·rw [eb]
   refine C9.mp λz=>?_
   obtain ⟨p,p1,p2,p3⟩:∃ p,a<p/\p<b/\0<evQ l p*evQ l b:=by
    rcases (A4:a<=b - ε\/b - ε<=a) with c | c
    ·exact ⟨b - ε / 2,(),(),gl _ () ()⟩
    ·exact ⟨(a+b) / 2,(),(),gl _ () ()⟩
   have q:=inn p p1 p2
   have pn:evQ l p≠0:=λw=>by rw [w] at p3;ext
   rcases mul_pos_iff'.mp p3 with ⟨u,v⟩ | ⟨u,v⟩
   ·rcases mul_neg_iff'.mp z with ⟨s,t⟩ | ⟨s,t⟩
    ·have:=mul_neg_iff'.mpr (.inl ⟨u,t⟩);ext
    ·ext
   ·rcases mul_neg_iff'.mp z with ⟨s,t⟩ | ⟨s,t⟩
    ·ext
    ·have:=mul_neg_iff'.mpr (.inr ⟨u,t⟩);ext
  ·exact inn x () ()
theorem Ny (R:Rat) (R0:0<=R):∀ (l:List Int),∃ C D,0<=C/\0<=D/\∀ m,-R<=m->m<=R->(dQ l m<=D/\-dQ l m<=D)/\∀ h,-1<=h->h<=1->-(C*(h*h))<=evQ l (m+h) - evQ l m - h*dQ l m/\evQ l (m+h) - evQ l m - h*dQ l m<=C*(h*h)
 | []=>⟨0,0,(),(),λm _ _=>⟨by show (0:Rat)<=0/\-(0:Rat)<=0;constructor <;> ext,λh _ _=>by show -(0*(h*h))<=(0:Rat) - 0 - h*0/\(0:Rat) - 0 - h*0<=0*(h*h);constructor <;> ext⟩⟩
 | a::l=>by
   obtain ⟨C,D,C0,D0,hC⟩:=Ny R R0 l
   obtain ⟨B,B0,hB⟩:=(evQ_pn' l).bound R R0
   have MC:=Aa (show 0<=R+1 by ext) C0
   have RD:=Aa R0 D0
   refine ⟨D+(R+1)*C,B+R*D,(),(),λm m1 m2=>?_⟩
   obtain ⟨⟨hD1,hD2⟩,hC⟩:=hC m m1 m2
   obtain ⟨b1,b2⟩:=hB m m1 m2
   constructor
   ·show evQ l m+m*dQ l m<=B+R*D/\-(evQ l m+m*dQ l m)<=B+R*D
    rcases (A4:0<=m\/m<=0) with z | z
    ·have r1:=AQ hD1 z
     have r2:=AQ hD2 z
     have r3:=Ax m2 D0
     constructor <;> ext
    ·have r1:=AQ hD1 (show 0<=-m by ext)
     have r2:=AQ hD2 (show 0<=-m by ext)
     have r3:=Ax (show -m<=R by ext) D0
     constructor <;> ext
   ·intro h h1 h2
    obtain ⟨q1,q2⟩:=hC h h1 h2
    have hh:0<=h*h:=by
     rcases (A4:0<=h\/h<=0) with z | z
     ·exact Aa z z
     ·have:=Aa (show 0<=-h by ext) (show 0<=-h by ext);ext
    have e:evQ (a::l) (m+h) - evQ (a::l) m - h*dQ (a::l) m=h*h*dQ l m+(m+h)*(evQ l (m+h) - evQ l m - h*dQ l m):=by
     show ((a:Rat)+(m+h)*evQ l (m+h)) - ((a:Rat)+m*evQ l m) - h*(evQ l m+m*dQ l m)=_
     ext
    rw [e]
    generalize evQ l (m+h) - evQ l m - h*dQ l m=r at *
    have Ch:=Aa C0 hh
    have p1:=AQ hD1 hh
    have p2:=AQ hD2 hh
    have s:-((R+1)*(C*(h*h)))<=(m+h)*r/\(m+h)*r<=(R+1)*(C*(h*h)):=by
     rcases (A4:0<=m+h\/m+h<=0) with z | z
     ·have r1:=AQ q1 z
      have r2:=AQ q2 z
      have r3:=Ax (show m+h<=R+1 by ext) Ch
      constructor <;> ext
     ·have r1:=AQ q1 (show 0<=-(m+h) by ext)
      have r2:=AQ q2 (show 0<=-(m+h) by ext)
      have r3:=Ax (show -(m+h)<=R+1 by ext) Ch
      constructor <;> ext
    constructor <;> ext
theorem IS {a b c d:Rat} (ha:0<a) (hb:0<b) (hc:0<c) (hd:0<d):∃ m,0<m/\m<=a/\m<=b/\m<=c/\m<=d:=by
 have two:∀ x y:Rat,0<x->0<y->∃ m,0<m/\m<=x/\m<=y:=λx y hx hy=>by
  rcases (A4:x<=y\/y<=x) with z | z
  ·exact ⟨x,hx,(),z⟩
  ·exact ⟨y,hy,z,()⟩
 obtain ⟨p,p0,p1,p2⟩:=two a b ha hb
 obtain ⟨q,q0,q1,q2⟩:=two c d hc hd
 obtain ⟨m,m0,m1,m2⟩:=two p q p0 q0
 exact ⟨m,m0,(),(),(),()⟩
theorem WI {l:List Int} {a b R H s:Rat} {U V:Rat->Rat} (ab:a<b) (R0:0<=R) (ra:-R<=a) (rb:b<=R) (s1:s=1\/s = -1) (nn:∀ x,a<=x->x<=b->0<=s*evQ l x) (fa:0<s*evQ l a) (fb:0<s*evQ l b) (H1:0<H)
  (hU:∀ x,a<=x->x<=b->U x<=H/\-U x<=H) (hV:∀ x,a<=x->x<=b->V x<=H/\-V x<=H) (hUV:∀ x,a<=x->x<=b->U x*evQ l x+V x*dQ l x=1):∃ κ,0<κ/\∀ x,a<=x->x<=b->κ<=s*evQ l x:=by
 obtain ⟨L,L0,hL⟩:=(evQ_pn' l).lip R R0
 obtain ⟨C,D,C0,D0,hC⟩:=Ny R R0 l
 obtain ⟨A,A0,A1,A2,_,_⟩:=IS fa fb fa fb
 obtain ⟨ρ,p0,p1,p2⟩:=Ds (p:=A / 2) (q:=L) () L0
 obtain ⟨m,m0,m1,m2,m3,m4⟩:=IS (a:=A / 2) (b:=ρ) (c:=1 / 2) (d:=1) () p0 () ()
 have HH:=Aa (show 0<=H by ext) (show 0<=H by ext)
 have CHH:=Aa C0 HH
 obtain ⟨ε,e0,e1,e2⟩:=Ds (p:=m) (q:=2+4*H+32*(C*(H*H))) m0 ()
 have He:=As H1 e0
 have CHe:=Aa CHH (show 0<=ε by ext)
 have q1:2*ε<m:=by ext
 have q2:4*(H*ε)<m:=by ext
 have q3:32*(C*(H*H)*ε)<m:=by ext
 refine ⟨ε,e0,λx x1 x2=>C9.mp λz=>?_⟩
 have sx:=nn x x1 x2
 have sg:∀ p q B:Rat,p - q<=B->q - p<=B->s*q - s*p<=B:=λp q B h1 h2=>by rcases s1 with e | e <;> rw [e] <;> ext
 have far1:ρ<x - a:=CV.mp λw=>by
  obtain ⟨l1,l2⟩:=hL a x ra x1 ()
  have:=sg (evQ l x) (evQ l a) _ l1 l2
  have:=AQ w L0
  ext
 have far2:ρ<b - x:=CV.mp λw=>by
  obtain ⟨l1,l2⟩:=hL x b () x2 rb
  have:=sg (evQ l x) (evQ l b) _ l2 l1
  have:=AQ w L0
  ext
 obtain ⟨U1,U2⟩:=hU x x1 x2
 obtain ⟨V1,V2⟩:=hV x x1 x2
 have uv:=hUV x x1 x2
 have prod:∀ a b A B:Rat,0<=A->0<=B->a<=A->-a<=A->b<=B->-b<=B->a*b<=A*B/\-(a*b)<=A*B:=λa b A B A0 B0 h1 h2 h3 h4=>by
  rcases (A4:0<=a\/a<=0) with z | z
  ·have x1:=AQ h3 z
   have x2:=AQ h4 z
   have x3:=Ax h1 B0
   constructor <;> ext
  ·have x1:=AQ h3 (show 0<=-a by ext)
   have x2:=AQ h4 (show 0<=-a by ext)
   have x3:=Ax h2 B0
   constructor <;> ext
 have g1:evQ l x<=ε/\-evQ l x<=ε:=by rcases s1 with e | e <;> rw [e] at sx z <;> constructor <;> ext
 obtain ⟨y1,y2⟩:=prod (U x) (evQ l x) H ε () () U1 U2 g1.1 g1.2
 obtain ⟨d,d0,hd⟩:∃ d,0<=d/\(s*dQ l x=d\/s*dQ l x = -d):=by
  rcases (A4:0<=s*dQ l x\/s*dQ l x<=0) with w | w
  ·exact ⟨_,w,.inl rfl⟩
  ·exact ⟨-(s*dQ l x),(),.inr ()⟩
 have dq:dQ l x<=d/\-dQ l x<=d:=by rcases s1 with e | e <;> rw [e] at hd <;> rcases hd with w | w <;> constructor <;> ext
 obtain ⟨y3,y4⟩:=prod (V x) (dQ l x) H d () d0 V1 V2 dq.1 dq.2
 have dl:1<=2*(H*d):=by ext
 obtain ⟨h,h1,h2,h3,h4⟩:∃ h,-(4*(H*ε))<=h/\h<=4*(H*ε)/\h*(s*dQ l x) = -(4*(H*ε)*d)/\h*h=16*(H*ε*(H*ε)):=by
  rcases hd with w | w
  ·exact ⟨-(4*(H*ε)),(),(),by rw [w];ext,()⟩
  ·exact ⟨4*(H*ε),(),(),by rw [w];ext,()⟩
 obtain ⟨_,tay⟩:=hC x () ()
 obtain ⟨t1,t2⟩:=tay h () ()
 have pos:=nn (x+h) () ()
 have up:s*evQ l (x+h)<=s*evQ l x+h*(s*dQ l x)+C*(h*h):=by rcases s1 with e | e <;> rw [e] <;> ext
 rw [h3,h4] at up
 have e5:4*(H*ε)*d=2*ε*(2*(H*d)):=by ext
 have k1:=AQ dl (show 0<=2*ε by ext)
 have e6:C*(16*(H*ε*(H*ε)))=16*(C*(H*H)*ε)*ε:=by ext
 have k2:=Ax (show 16*(C*(H*H)*ε)<=1 / 2 by ext) (show 0<=ε by ext)
 ext
theorem N3 {g κ s:Rat} (k0:0<κ) (s1:s=1\/s = -1) (h:κ<=s*g):∀ e:Nat,κ ^ e<=g ^ e\/κ ^ e<=-(g ^ e)
 | 0=>.inl (by rw [A7,A7];ext)
 | e+1=>by
   have p:=Fd k0 e
   rw [Ap,Ap]
   have two:∀ u v:Rat,κ<=v->κ ^ e<=u->κ ^ e*κ<=u*v:=λu v h1 h2=>by
    have a:=AQ h1 (show 0<=κ ^ e by ext)
    have b:=Ax h2 (show 0<=v by ext)
    ext
   rcases s1 with w | w <;> rw [w] at h <;> rcases N3 k0 () (show κ<=s*g by rw [w];exact h) e with q | q
   ·exact .inl (two _ _ () q)
   ·exact .inr (by have:=two (-(g ^ e)) g () q;ext)
   ·exact .inr (by have:=two (g ^ e) (-g) () q;ext)
   ·exact .inl (by have:=two (-(g ^ e)) (-g) () q;ext)
theorem WJ {l:List Int} {f K U V:Rat->Rat} {n k e:Nat} {a b c H:Rat} (sf:Sf l) (pf:Pn n f) (pK:Pn k K) (c0:c≠0) (hK:∀ x,f x*K x=c*evQ l x ^ e) (ab:a<b) (h:f a*f b<0) (ga:evQ l a≠0) (gb:evQ l b≠0) (H1:0<H)
  (hU:∀ x,a<=x->x<=b->U x<=H/\-U x<=H) (hV:∀ x,a<=x->x<=b->V x<=H/\-V x<=H) (hUV:∀ x,a<=x->x<=b->U x*evQ l x+V x*dQ l x=1):Nf (evQ l) a b≠0:=λn0=>by
 have keep:=sf.keeps ab n0 ga gb
 obtain ⟨s,s1,sa⟩:∃ s:Rat,(s=1\/s = -1)/\0<s*evQ l a:=by
  rcases rtri (evQ l a) 0 with w | w | w
  ·exact ⟨-1,.inr rfl,()⟩
  ·exact absurd w ga
  ·exact ⟨1,.inl rfl,()⟩
 have nn:∀ x,a<=x->x<=b->0<=s*evQ l x:=λx x1 x2=>by
  have:=keep x x1 x2
  refine C9.mp λz=>?_
  have:evQ l x*evQ l a<0:=by
   rw [mul_neg_iff']
   rcases s1 with w | w <;> rw [w] at sa z <;> ext
  ext
 have sb:0<s*evQ l b:=by
  have:=nn b () ()
  refine CV.mp λz=>gb ?_
  rcases s1 with w | w <;> rw [w] at this z <;> ext
 obtain ⟨R,R0,ra,rb⟩:∃ R,0<=R/\-R<=a/\b<=R:=by
  rcases (A4:0<=b\/b<=0) with z | z <;> rcases (A4:0<=a\/a<=0) with w | w
  ·exact ⟨b,z,(),()⟩
  ·exact ⟨b - a,(),(),()⟩
  ·exact ⟨0,(),(),()⟩
  ·exact ⟨-a,(),(),()⟩
 obtain ⟨κ,k0,hk⟩:=WI ab R0 ra rb s1 nn sa sb H1 hU hV hUV
 obtain ⟨B,B0,hB⟩:=pK.bound R R0
 have pe:=Fd k0 e
 obtain ⟨c',c1,c2⟩:∃ c',0<c'/\(c=c'\/c = -c'):=by
  rcases rtri c 0 with w | w | w
  ·exact ⟨-c,(),.inr ()⟩
  ·exact absurd w c0
  ·exact ⟨c,w,.inl rfl⟩
 obtain ⟨η,e0,_,e2⟩:=Ds (p:=c'*κ ^ e) (q:=B) (As c1 pe) B0
 obtain ⟨r,r1,r2,r3,r4⟩:=pf.near ab h e0
 have big:=N3 k0 s1 (hk r () ()) e
 obtain ⟨b1,b2⟩:=hB r () ()
 have q:=hK r
 have prod:f r*K r<=η*B/\-(f r*K r)<=η*B:=by
  rcases (A4:0<=f r\/f r<=0) with z | z
  ·have x1:=AQ b2 z
   have x2:=AQ b1 z
   have x3:=Ax (show f r<=η by ext) B0
   constructor <;> ext
  ·have x1:=AQ b2 (show 0<=-f r by ext)
   have x2:=AQ b1 (show 0<=-f r by ext)
   have x3:=Ax (show -f r<=η by ext) B0
   constructor <;> ext
 rw [q] at prod
 have m1:=λu=>AQ (a:=κ ^ e) (b:=u) (c:=c')
 rcases big with w | w
 ·have:=AQ w (show 0<=c' by ext)
  rcases c2 with y | y <;> rw [y] at prod <;> ext
 ·have:=AQ w (show 0<=c' by ext)
  rcases c2 with y | y <;> rw [y] at prod <;> ext
end Bs
namespace Bs
open PySem
noncomputable def Fh (K:W.Frag):Addr:=match PySem.W.nsIn K PySem.mainGlobals "EXPONENTS" with | some (some (.ref a))=>a | _=>0
end Bs
namespace Bs
open PySem L2
noncomputable def evF (f:Nat->Rat) (n:Nat) (x:Rat):Nat->Rat
 | 0=>0
 | d+1=>f (n - 1 - d)+x*evF f n x d
theorem N4 {f g:Nat->Rat} {n:Nat} {x:Rat}:∀ d,d<=n->(∀ i,n - d<=i->i<n->f i=g i)->evF f n x d=evF g n x d
 | 0,_,_=>rfl
 | d+1,hd,h=>by
   show f (n - 1 - d)+x*evF f n x d=g (n - 1 - d)+x*evF g n x d
   rw [N4 d ⋯ (λi h1 h2=>h i ⋯ h2),h (n - 1 - d) ⋯ ⋯]
theorem Kb {f:Nat->Rat} {n:Nat} {x B:Rat}:∀ d,evF (λi=>f i / B) n x d=evF f n x d / B
 | 0=>(zdiv B).symm
 | d+1=>by
   show f (n - 1 - d) / B+x*evF (λi=>f i / B) n x d=(f (n - 1 - d)+x*evF f n x d) / B
   rw [Kb d]
   ext
noncomputable def sy (c:Int) (R:Nat->Int) (n:Nat):Nat->Int
 | 0=>R (n - 1)
 | d+1=>R (n - 1 - (d+1))+c*sy c R n d
noncomputable def rnd (c:Int) (R:Nat->Int) (n first:Nat) (j:Nat):Int:=if j<first then R j else sy c R n (n - 1 - j)
noncomputable def toQ (R:Nat->Int) (k:Nat):Rat:=(R k:Rat)
theorem N5 {c:Int} {R:Nat->Int} {n first:Nat} {y:Rat}:∀ d,d+1+first<=n->evF (toQ R) n y (d+1)=(sy c R n d:Rat)+(y - c)*evF (toQ (rnd c R n first)) n y d
 | 0,_=>by show (R (n - 1 - 0):Rat)+y*0=(R (n - 1):Rat)+(y - c)*0;rw [Nat.sub_zero];ext
 | d+1,h=>by
   show (R (n - 1 - (d+1)):Rat)+y*evF (toQ R) n y (d+1)=((R (n - 1 - (d+1))+c*sy c R n d:Int):Rat)+(y - c)*((rnd c R n first (n - 1 - d):Rat)+y*evF (toQ (rnd c R n first)) n y d)
   rw [N5 (c:=c) (first:=first) d ⋯]
   have e:rnd c R n first (n - 1 - d)=sy c R n d:=by
    unfold rnd
    rw [Zt ⋯,show n - 1 - (n - 1 - d)=d by omega]
   rw [e]
   push_cast
   ext
noncomputable def mx (R:Nat->Int) (n:Nat) (y c:Rat):Nat->Nat->Rat
 | 0,lo=>evF (toQ R) n y (n - lo)
 | t+1,lo=>(R lo:Rat)+(y - c)*mx R n y c t (lo+1)
theorem N6 {c:Int} {R:Nat->Int} {n first:Nat} {y:Rat} (hf:first+1<=n):∀ t lo,lo+t=first->mx R n y c t lo=mx (rnd c R n first) n y c (t+1) lo
 | 0,lo,h=>by
   show evF (toQ R) n y (n - lo)=(rnd c R n first lo:Rat)+(y - c)*evF (toQ (rnd c R n first)) n y (n - (lo+1))
   have e:rnd c R n first lo=sy c R n (n - 1 - lo):=by unfold rnd;rw [Zt ⋯]
   rw [e,show n - lo=(n - 1 - lo)+1 by omega,show n - (lo+1)=n - 1 - lo by omega]
   exact N5 _ ⋯
 | t+1,lo,h=>by
   show (R lo:Rat)+(y - c)*mx R n y c t (lo+1)=(rnd c R n first lo:Rat)+(y - c)*mx (rnd c R n first) n y c (t+1) (lo+1)
   have e:rnd c R n first lo=R lo:=by unfold rnd;rw [Zu ⋯]
   rw [e,N6 hf t (lo+1) ⋯]
theorem OA {R:Nat->Int} {n:Nat} {y c:Rat}:∀ t lo,lo+t+1=n->mx R n y c t lo=evF (toQ R) n (y - c) (n - lo)
 | 0,lo,h=>by
   show evF (toQ R) n y (n - lo)=_
   rw [show n - lo=0+1 by omega]
   show toQ R (n - 1 - 0)+y*0=toQ R (n - 1 - 0)+(y - c)*0
   ext
 | t+1,lo,h=>by
   show (R lo:Rat)+(y - c)*mx R n y c t (lo+1)=_
   rw [OA t (lo+1) ⋯,show n - lo=(n - (lo+1))+1 by omega]
   show _=toQ R (n - 1 - (n - (lo+1)))+_
   rw [show n - 1 - (n - (lo+1))=lo by omega]
   rfl
noncomputable def rnds (c:Int) (R:Nat->Int) (n:Nat):Nat->Nat->Int
 | 0=>R
 | i+1=>rnd c (rnds c R n i) n i
theorem OB {c:Int} {R:Nat->Int} {n:Nat} {y:Rat}:∀ i,i+1<=n->mx (rnds c R n i) n y c i 0=evF (toQ R) n y n
 | 0,_=>rfl
 | i+1,h=>by
   rw [<-OB i ⋯]
   exact (N6 ⋯ i 0 ⋯).symm
theorem WK {c:Int} {R:Nat->Int} {n:Nat} {y:Rat} (hn:1<=n):evF (toQ (rnds c R n (n - 1))) n y n=evF (toQ R) n (y+c) n:=by
 have h:=OB (c:=c) (R:=R) (n:=n) (y:=y+c) (n - 1) ⋯
 rw [OA (n - 1) 0 ⋯] at h
 rw [<-h,Nat.sub_zero]
 congr 1
 ext
noncomputable abbrev Nm (H:Hp) (p:Addr) (t d:Int):Prop:=H p=some (.tup [.int t,.int d])
noncomputable def Ej (_:W.Frag):Sp:=λvs H Q _=>∃ a b:Int,vs=[.int a,.int b]/\Q (.int ((Int.gcd a b:Nat):Int)) H
noncomputable def IT (K:W.Frag):Sp:=λvs H Q _=>∃ (a:Addr) (ns:List Int),vs=[.ref a]/\SqL K H a (ns.map V.int)/\ns.length<=63/\∀ H',Q (.bl true) H'
noncomputable def IU (_:W.Frag):Sp:=λvs H Q _=>∃ (x n:Int) (b:Nat),vs=[.int x,.int n]/\0<=n/\Bd b x/\b*n.toNat+1<=200000/\Q (.int (x ^ n.toNat)) H
noncomputable def AY (n:Nat) (f:Nat->Int):List V:=((List.range n).map f).map V.int
noncomputable def C4 (ns:List Int):Nat->Nat
 | 0=>0
 | m+1=>if ns.getD m 1=0 then C4 ns m else m+1
noncomputable def Cy (ns:List Int):List Int:=ns.take (C4 ns ns.length)
noncomputable def GN (_:W.Frag):Sp:=λvs H Q _=>∃ (p:Addr) (ns:List Int),vs=[.ref p]/\H p=some (.lst (ns.map V.int))/\∀ r,H r=none->Q (.ref r) (upd H r (.lst ((Cy ns).map V.int)))
noncomputable def Tz (ns:List Int):Prop:=ns=[]\/co ns (ns.length - 1)≠0
noncomputable def SDs (H:Hp):List V->List (List Int)->Prop
 | [],[]=>True
 | x::xs,r::rs=>(∃ p,x=.ref p/\H p=some (.lst (r.map V.int)))/\SDs H xs rs
 | _,_=>False
noncomputable def SD (H:Hp) (p:Addr) (rs:List (List Int)):Prop:=∃ xs,H p=some (.lst xs)/\SDs H xs rs
noncomputable def IV (_:W.Frag):Sp:=λvs H Q _=>∃ (p:Addr) (ns:List Int) (st:Int),vs=[.ref p,.int st]/\H p=some (.lst (ns.map V.int))/\ns.length<=1000/\∀ (g:Int) (H':Hp),Same H H'->0<=g->g∣st->(∀ z∈ns,g∣z)->(∀ d:Int,d∣st->(∀ z∈ns,d∣z)->d∣g)->Q (.int g) H'
noncomputable def IW (_:W.Frag):Sp:=λvs H Q _=>∃ (p:Addr) (ns:List Int) (g:Int),vs=[.ref p,.int g]/\H p=some (.lst (ns.map V.int))/\(0<g\/ns=[])/\ns.length<=1000/\∀ r,H r=none->Q (.ref r) (upd H r (.lst ((ns.map (·/ g)).map V.int)))
noncomputable def IX (_:W.Frag):Sp:=λvs H Q _=>∃ (p q:Addr) (ns ms:List Int) (f w:Int) (s:Nat),vs=[.ref p,.int f,.ref q,.int w,.int (s:Int)]/\H p=some (.lst (ns.map V.int))/\H q=some (.lst (ms.map V.int))/\ns.length<=1000/\s+ms.length<=1000/\Bd 60000000 f/\Bd 60000000 w/\(∀ z∈ns,Bd 60000000 z)/\(∀ z∈ms,Bd 60000000 z)/\
 ∀ (r:Addr) (rs:List Int) (H':Hp),Same H H'->H' r=some (.lst (rs.map V.int))->Tz rs->(∀ k,co rs k=f*co ns k - w*Av s (co ms) k)->Q (.ref r) H'
noncomputable def GO (_:W.Frag):Sp:=λvs H Q _=>∃ (p q:Addr) (ns ms:List Int) (b d:Nat),vs=[.ref p,.ref q]/\H p=some (.lst (ns.map V.int))/\H q=some (.lst (ms.map V.int))/\Lz ms/\(∀ z∈ns,Bd b z)/\(∀ z∈ms,Bd d z)/\b+ns.length*(d+1)<=60000000/\d<=60000000/\ns.length<=1000/\ms.length<=1000/\((¬ ∃ A:List Int,∀ k,co ns k=cvL A (co ms) k)->∀ H',Same H H'->Q .non H')/\
 ∀ (r:Addr) (qs:List Int) (H':Hp),Same H H'->H' r=some (.lst (qs.map V.int))->qs.length=ns.length+1 - ms.length->(∀ k,co ns k=cvL qs (co ms) k)->Q (.ref r) H'
noncomputable def Sh (rows rows':List (List Int)):Prop:=∃ g:Int,0<g/\rows=rows'.map (·.map (g*·))
noncomputable def WL (rows:List (List Int)):Prop:=(∀ r∈rows,r=[])\/∀ d:Int,(∀ r∈rows,∀ z∈r,d∣z)->d.natAbs=1
noncomputable def HB (_:W.Frag):Sp:=λvs H Q _=>∃ (p:Addr) (rows:List (List Int)),vs=[.ref p]/\SD H p rows/\rows.length<=1000/\(∀ r∈rows,r.length<=1000/\Tz r)/\
 ∀ (t:Addr) (rows':List (List Int)) (H':Hp),Same H H'->SD H' t rows'->Sh rows rows'->WL rows'->Q (.ref t) H'
noncomputable def Fi (_:W.Frag):Sp:=λvs H Q _=>∃ (p:Addr) (ns:List Int),vs=[.ref p]/\H p=some (.lst (ns.map V.int))/\ns.length<=1000/\Tz ns/\
 ∀ (t:Addr) (ms:List Int) (g:Int) (H':Hp),Same H H'->H' t=some (.lst (ms.map V.int))->0<g->ns=ms.map (g*·)->(ns=[]\/Prim ms)->Q (.ref t) H'
noncomputable def IY (_:W.Frag):Sp:=λvs H Q _=>∃ (p q:Addr) (o:List Int),vs=[.ref p,.ref q]/\SD H p [[]]/\SD H q [o]/\0<o.length/\∀ (t:Addr) (H':Hp),Same H H'->SD H' t [[]]->Q (.ref t) H'
noncomputable def HC (_:W.Frag):Sp:=λvs H Q _=>∃ (p q:Addr) (s o:List Int),vs=[.ref p,.ref q]/\SD H p [s]/\SD H q [o]/\(s=[]\/o=[])/\∀ (t:Addr) (H':Hp),Same H H'->SD H' t [if o=[] then s else o]->Q (.ref t) H'
noncomputable def IZ (_:W.Frag):Sp:=λvs H Q _=>∃ a p:Int,vs=[.int a,.int p]/\2<=p/\Bd 45000 p/\∀ r:Int,0<=r->r<p->(Int.gcd a p=1->p∣r*a - 1)->Q (.int r) H
noncomputable def Ia (_:W.Frag):Sp:=λvs H Q _=>∃ (p:Addr) (ns:List Int) (m:Int),vs=[.ref p,.int m]/\H p=some (.lst (ns.map V.int))/\0<m/\ns.length<=1000/\∀ r,H r=none->Q (.ref r) (upd H r (.lst ((ns.map (·% m)).map V.int)))
noncomputable def Md (m:Int) (rs:List Int) (f:Nat->Int):Prop:=(∀ z∈rs,0<=z/\z<m)/\∀ k,m∣co rs k - f k
noncomputable def GP (_:W.Frag):Sp:=λvs H Q _=>∃ (p:Addr) (ns:List Int) (m:Int),vs=[.ref p,.int m]/\H p=some (.lst (ns.map V.int))/\0<m/\ns.length<=1000/\∀ (r:Addr) (rs:List Int) (H':Hp),Same H H'->H' r=some (.lst (rs.map V.int))->Tz rs->rs.length<=ns.length->Md m rs (co ns)->Q (.ref r) H'
noncomputable def GQ (_:W.Frag):Sp:=λvs H Q _=>∃ (q:Addr) (ns:List Int) (p:Nat),vs=[.ref q,.int (p:Int)]/\H q=some (.lst (ns.map V.int))/\2<=p/\Bd 45000 (p:Int)/\ns.length<=1000/\(∀ z∈ns,Bd 60000000 z)/\(ns≠[]->Int.gcd (co ns (ns.length - 1)) (p:Int)=1)/\
 ∀ (r:Addr) (rs:List Int) (f:Int) (H':Hp),Same H H'->H' r=some (.lst (rs.map V.int))->rs.length=ns.length->(ns≠[]->co rs (rs.length - 1)=1)->Md (p:Int) rs (λk=>f*co ns k)->Q (.ref r) H'
noncomputable def Ib (_:W.Frag):Sp:=λvs H Q _=>∃ (p q:Addr) (ns ms:List Int) (m:Int) (b:Nat),vs=[.ref p,.ref q,.int m]/\H p=some (.lst (ns.map V.int))/\H q=some (.lst (ms.map V.int))/\0<ms.length/\co ms (ms.length - 1)=1/\0<m/\Bd b m/\(∀ z∈ms,Bd b z)/\b<=60000000/\ns.length<=1000/\ms.length<=1000/\
 ∀ (t r s:Addr) (qs rs:List Int) (H':Hp),Same H H'->H' t=some (.tup [.ref r,.ref s])->H' r=some (.lst (qs.map V.int))->H' s=some (.lst (rs.map V.int))->Tz qs->Tz rs->rs.length<ms.length->Md m rs (λk=>co ns k - cvL qs (co ms) k)->(∀ z∈qs,0<=z/\z<m)->Q (.ref t) H'
noncomputable def Ic (_:W.Frag):Sp:=λvs H Q _=>∃ (p q:Addr) (ns ms:List Int) (m:Int) (b:Nat),vs=[.ref p,.ref q,.int m]/\H p=some (.lst (ns.map V.int))/\H q=some (.lst (ms.map V.int))/\0<ms.length/\co ms (ms.length - 1)=1/\0<m/\Bd b m/\(∀ z∈ms,Bd b z)/\b<=60000000/\ns.length<=1000/\ms.length<=1000/\
 ∀ (s:Addr) (qs rs:List Int) (H':Hp),Same H H'->H' s=some (.lst (rs.map V.int))->Tz rs->rs.length<ms.length->Md m rs (λk=>co ns k - cvL qs (co ms) k)->Q (.ref s) H'
noncomputable def Id (_:W.Frag):Sp:=λvs H Q _=>∃ (a b:Addr) (ns ms:List Int) (p:Nat),vs=[.ref a,.ref b,.int (p:Int)]/\H a=some (.lst (ns.map V.int))/\H b=some (.lst (ms.map V.int))/\Pr p/\Bd 45000 (p:Int)/\ns.length<=1000/\ms.length<=1000/\((∃ k,¬ (p:Int)∣co ns k)\/∃ k,¬ (p:Int)∣co ms k)/\
 ∀ (s:Addr) (rs:List Int) (H':Hp),Same H H'->H' s=some (.lst (rs.map V.int))->0<rs.length->rs.length<=1000->co rs (rs.length - 1)=1->(∀ z∈rs,0<=z/\z<(p:Int))->(∀ g:Nat->Int,Dm (p:Int) g (co ns)->Dm (p:Int) g (co ms)->Dm (p:Int) g (co rs))->Dm (p:Int) (co rs) (co ns)->Dm (p:Int) (co rs) (co ms)->Q (.ref s) H'
noncomputable def Ie (_:W.Frag):Sp:=λvs H Q _=>∃ w p:Int,vs=[.int w,.int p]/\0<p/\∀ r:Int,p∣r - w->2*r.natAbs<=p.natAbs->Q (.int r) H
noncomputable def OC (d n c p:Nat):Prop:=2 ^ ((d+n*(2*c+4)+c+2)*(2*(n - 1)))<p
noncomputable def Ig (_:W.Frag):Sp:=λvs H Q _=>∃ (a b:Addr) (ns ms:List Int) (p d n c:Nat),vs=[.ref a,.ref b,.int (p:Int)]/\H a=some (.lst (ns.map V.int))/\H b=some (.lst (ms.map V.int))/\Pr p/\Bd 45000 (p:Int)/\Lz ns/\Lz ms/\(∀ z∈ns,Bd d z)/\(∀ z∈ms,Bd d z)/\d+ns.length*45001<=1000000/\d+ms.length*45001<=1000000/\ns.length<=n/\ms.length<=n/\n<2 ^ c/\2<=n/\(¬ OC d n c p->∀ H',Same H H'->Q .non H')/\
 ∀ (s:Addr) (rs:List Int) (H':Hp),Same H H'->H' s=some (.lst (rs.map V.int))->RC (co ns) (co ms) rs->Prim rs->Q (.ref s) H'
noncomputable def Ih (_:W.Frag):Sp:=λvs H Q _=>∃ (a b:Addr) (ns ms:List Int) (d n c:Nat),vs=[.ref a,.ref b]/\H a=some (.lst (ns.map V.int))/\H b=some (.lst (ms.map V.int))/\Tz ns/\Tz ms/\(∀ z∈ns,Bd d z)/\(∀ z∈ms,Bd d z)/\ns.length<=n/\ms.length<=n/\n<=20/\2<=n/\n<2 ^ c/\(d+n*(2*c+4)+c+2)*(2*(n - 1))<=44490/\((ns=[]\/ms=[])->2*3 ^ (ns.length+ms.length)*(d+1)<=60000000)/\
 ∀ (s:Addr) (rs:List Int) (H':Hp),Same H H'->H' s=some (.lst (rs.map V.int))->((ns≠[]\/ms≠[])->RC (co ns) (co ms) rs/\Prim rs)->(ns=[]->ms=[]->rs=[])->Q (.ref s) H'
structure Gq (b c:Nat) (l:List Nu):Prop where
 low:DN l
 nz:Nz l
 ov:∃ M,Ov l M/\Bd c M/\∀ z∈ovN l M,Bd b z
noncomputable def HD (_:W.Frag):Sp:=λvs H Q _=>∃ a b:Int,vs=[.int a,.int b]/\b≠0/\∀ (p:Addr),H p=none->Q (.ref p) (upd H p (.tup [.int (AT a b).1,.int (AT a b).2]))
noncomputable def HE (_:W.Frag):Sp:=λvs H Q _=>∃ (p:Addr) (xs:List V) (l:List Nu) (M:Int),vs=[.ref p]/\H p=some (.tup xs)/\Nums H xs l/\DN l/\Ov l M/\Bd 400000 M/\(∀ q∈l,Bd 60000000 q.1)/\l.length<=1000/\
 ∀ (r a:Addr) (H':Hp),Same H H'->H' r=some (.tup [.ref a,.int (Bh l)])->H' a=some (.lst ((BZ l).map V.int))->Q (.ref r) H'
noncomputable def Cop (T B:Nat->Rat):Prop:=∃ U W:List Rat,∀ k,(AW k:Rat)=cvL U T k+cvL W B k
structure Fr (l m T B:List Nu):Prop where
 eq:∀ k,cv (pwo T) (pwo m) T.length k=cv (pwo l) (pwo B) l.length k
 st:T.length<=l.length
 sb:B.length<=m.length
structure Fq (b c:Nat) (T B:List Nu):Prop where
 gt:Gq b c T
 gb:Gq b c B
 ne:B≠[]
 one:DW B (B.length - 1)=(1,1)
 cop:Cop (pwo T) (pwo B)
structure S1 (b c n e:Nat):Prop where
 n20:n<=20
 n2:2<=n
 ne:n<2 ^ e
 lu:(b+n*(2*e+4)+e+2)*(2*(n - 1))<=44490
 cc:c<=60000
 em:2*3 ^ n*(b+1)<=60000000
 dv:(n+2)*(b+n*(2*e+4)+1)<=200000
noncomputable def D1 (b n e:Nat):Nat:=b+n*(2*e+4)
noncomputable def Bt (b n e:Nat):Nat:=3*b+2*D1 b n e+n+1
structure S2 (b n e:Nat):Prop where
 a:S1 b b n e
 n20:2*n - 1<=20
 lu:(Bt b n e+(2*n - 1)*(2*(e+1)+4)+(e+1)+2)*(2*(2*n - 1 - 1))<=44490
 cc:4*b+D1 b n e<=60000
 em:2*3 ^ n*(Bt b n e+1)<=60000000
 dv:(2*n+2)*(D1 b n e+n*(2*e+4)+1)+Bt b n e<=200000
noncomputable def rw' (l:List Nu):List Rat:=(List.range l.length).map (pwo l)
noncomputable def dv (f:Nat->Rat) (k:Nat):Rat:=((k:Rat)+1)*f (k+1)
noncomputable def evN (l:List Nu) (x:Rat):Rat:=evF (pwo l) l.length x l.length
noncomputable def bS (b n e:Nat):Nat:=(b+5)+2*D1 (b+5) n e+n+2*b+1
noncomputable def bM (b n:Nat):Nat:=b+80*n+41*n*n+3
structure Mvd (s:Rat) (b n:Nat) (l L:List Nu):Prop where
 gq:Gq (bM b n) (bM b n) L
 len:L.length=l.length
 top:pwo L (l.length - 1)=pwo l (l.length - 1)
 ev:∀ x,evN L x=evN l (x+s)
noncomputable def Kc (_:W.Frag):Sp:=λvs H Q _=>∃ (p q:Addr) (xs:List V) (l:List Nu) (a d:Int) (b:Nat),vs=[.ref p,.ref q]/\H p=some (.tup xs)/\Nm H q a d/\Nums H xs l/\Gq b b l/\b<=8000/\Low a d/\Bd 100 a/\Bd 100 d/\l.length<=20/\
 ∀ (r:Addr) (H':Hp) (z:Nu),Same H H'->isN H' (.ref r) z->Low z.1 z.2->Bd 100000 z.1->Bd 100000 z.2->val z=evN l (val (a,d))->Q (.ref r) H'
structure S4 (b n e:Nat):Prop where
 a:S1 (b+5) (b+5) n e
 n20:2*n - 1<=20
 lu:(bS b n e+(2*n - 1)*(2*(e+1)+4)+(e+1)+2)*(2*(2*n - 1 - 1))<=44490
 m:S1 (bM b n+5) (bM b n+5) n e
 s8:bS b n e+4*b<=8000
 m8:bM b n<=8000
noncomputable def Hand (H:Hp) (p a:Addr) (n:Int):Prop:=∃ (ns:List Int) (x y z:Int),H p=some (.lst [.ref a,.int x,.int y,.int z])/\H a=some (.lst (ns.map V.int))/\ns.length<=1000/\a≠p/\0<=x/\x<=n/\0<=y
noncomputable def Ii (K:W.Frag):Sp:=λvs H Q _=>∃ (s:Addr) (ns:List Int),vs=[.ref s]/\SqL K H s (ns.map V.int)/\ns.length<=63/\∀ (p a:Addr) (H':Hp),H p=none->Kp p H H'->Hand H' p a 0->Q (.ref p) H'
noncomputable def CG (_:W.Frag):Sp:=λvs H Q _=>∃ (p a:Addr) (m n:Int),vs=[.ref p,.int m]/\Hand H p a n/\n<=100000/\0<m/\m<=1000/\
 ∀ (d:Int) (H':Hp),0<=d->d<m->Hand H' p a (n+2)->Kp p H H'->Q (.int d) H'
noncomputable abbrev FF:=HD
noncomputable def FG (_:W.Frag):Sp:=λvs H Q _=>∃ (p q:Addr) (a b:List Int) (n m:Nat),vs=[.ref p,.ref q]/\H p=some (.lst (a.map V.int))/\H q=some (.lst (b.map V.int))/\0<a.length/\0<b.length/\a.length<=20/\b.length<=20/\(∀ z∈a,Bd n z)/\(∀ z∈b,Bd m z)/\n<=1000/\m<=1000/\
 ∀ (r:Addr) (c:List Int) (H':Hp),Same H H'->H r=none->H' r=some (.lst (c.map V.int))->c.length=a.length+b.length - 1->(Lz a->Lz b->Lz c)->(∀ k,co c k=ps a b a.length k)->Q (.ref r) H'
noncomputable def HF (_:W.Frag):Sp:=λvs H Q _=>∃ (p q:Addr) (ns:List Int) (t d:Int),vs=[.ref p,.ref q]/\H p=some (.lst (ns.map V.int))/\Nm H q t d/\d≠0/\Bd 1000 t/\(∀ z∈ns,Bd 1000 z)/\ns.length<=1000/\Vw H Q (ns.map λn=>AT (n*t) d)
noncomputable def Ij (_:W.Frag):Sp:=λvs H Q _=>∃ (p a:Addr) (n:Int),vs=[.ref p]/\Hand H p a n/\n<=90000/\
 ∀ (r:Addr) (t d:Int) (H':Hp),Nm H' r t d->Low t d->t≠0->Bd 4 t->Bd 4 d->Hand H' p a (n+6)->Kp p H H'->Q (.ref r) H'
noncomputable def sr (l:List Nu):Sr:=⟨pwo l⟩
noncomputable def si (ns:List Int):Sr:=⟨λk=>(co ns k:Rat)⟩
noncomputable def dI (ns:List Int):List Int:=(List.range (ns.length - 1)).map λk=>((k+1:Nat):Int)*co ns (k+1)
noncomputable def RadOf (F L:Sr):Prop:=∃ S M:Sr,Sr.Pol S/\Sr.Pol L/\Sr.Pol M/\F=S*L/\Sr.D F=S*M/\Sr.Cs L M
noncomputable def Ik (_:W.Frag):Sp:=λvs H Q _=>∃ (p:Addr) (ns:List Int) (b:Nat),vs=[.ref p]/\H p=some (.lst (ns.map V.int))/\ns.length<=100/\(∀ z∈ns,Bd b z)/\b<=100000/\∀ (r:Addr) (H':Hp),Same H H'->H' r=some (.lst ((dI ns).map V.int))->Q (.ref r) H'
noncomputable def Il (_:W.Frag):Sp:=λvs H Q _=>∃ (p:Addr) (ns:List Int),vs=[.ref p]/\H p=some (.lst (ns.map V.int))/\Lz ns/\(∀ z∈ns,Bd 40 z)/\ns.length<=9/\
 ∀ (r:Addr) (rs:List Int) (H':Hp),Same H H'->H' r=some (.lst (rs.map V.int))->Lz rs->rs.length<=9->(∀ z∈rs,Bd 148 z)->(∃ (c:Rat) (L:Sr),c≠0/\RadOf (si ns) L/\si rs=Sr.num c*L)->0<co rs (rs.length - 1)->Q (.ref r) H'
noncomputable def hw:List Int->Int->Int->Int
 | [],_,_=>0
 | a::l,t,s=>a*s ^ l.length+t*hw l t s
noncomputable def lst' (l:List Int):Int:=co l (l.length - 1)
noncomputable def HG (_:W.Frag):Sp:=λvs H Q _=>∃ (p q:Addr) (a b c d:Int),vs=[.ref p,.ref q]/\Nm H p a b/\Nm H q c d/\Bd 60000000 a/\Bd 60000000 b/\Bd 60000000 c/\Bd 60000000 d/\Q (.bl (decide (a*d<c*b))) H
noncomputable def Kd (_:W.Frag):Sp:=λvs H Q _=>∃ (a:Addr) (ns:List Int),vs=[.ref a]/\H a=some (.lst (ns.map V.int))/\Lz ns/\ns.length<=9/\(∀ z∈ns,Bd 148 z)/\0<lst' ns/\
 ∀ (e:Int) (H':Hp),Same H H'->-200<=e->e<=200->(∀ i,i+1<ns.length->2 ^ (ns.length - 1 - i)*(co ns i).natAbs*2 ^ ((ns.length - 1 - i)*(-e).toNat)<=(lst' ns).natAbs*2 ^ ((ns.length - 1 - i)*e.toNat))->Q (.int e) H'
noncomputable def GR (_:W.Frag):Sp:=λvs H Q _=>∃ (p:Addr) (ns:List Int) (c:Int) (b:Nat),vs=[.ref p,.int c]/\H p=some (.lst (ns.map V.int))/\ns.length<=20/\(Bd 60 c\/(∀ z∈ns,Bd b z)/\b<=20000/\Bd 1000 c)/\
 ∀ (r:Addr) (rs:List Int) (H':Hp),Same H H'->H r=none->H' r=some (.lst (rs.map V.int))->rs.length=ns.length->(∀ y:Rat,evQ rs y=evQ ns (y+(c:Rat)))->(∀ b',(∀ z∈ns,Bd b' z)->Bd 1000 c->∀ z∈rs,Bd (b'+1001*ns.length*ns.length) z)->Q (.ref r) H'
noncomputable def Ke (_:W.Frag):Sp:=λvs H Q _=>∃ (p:Addr) (ns:List Int),vs=[.ref p]/\H p=some (.lst (ns.map V.int))/\ns.length<=1000/\Q (.int (sgc ns 0:Nat)) H
noncomputable def Kf (_:W.Frag):Sp:=λvs H Q _=>∃ (p:Addr) (ns:List Int) (b:Nat),vs=[.ref p]/\H p=some (.lst (ns.map V.int))/\ns.length<=20/\(∀ z∈ns,Bd b z)/\b<=100000000/\
 ∀ (r:Addr) (rs:List Int) (H':Hp),Same H H'->H r=none->H' r=some (.lst (rs.map V.int))->rs.length=ns.length->(∀ z∈rs,Bd (b+20) z)->(∀ y:Rat,evQ rs y=((2 ^ (ns.length - 1):Nat):Rat)*evQ ns (y / 2))->Q (.ref r) H'
structure Sk (Q:List Int) (U V:Rat->Rat) (D:Nat):Prop where
 sf:Sf Q
 H:∃ H:Rat,0<=H/\(∀ u,0<=u->u<=1->U u<=H/\-U u<=H)/\(∀ u,0<=u->u<=1->V u<=H/\-V u<=H)/\H*((gs Q Q.length*(8*Q.length+8):Nat):Rat)<((2 ^ D:Nat):Rat)
 uv:∀ u,0<=u->u<=1->U u*evQ Q u+V u*dQ Q u=1
noncomputable def Kg (_:W.Frag):Sp:=λvs H Q _=>∃ (p:Addr) (ns:List Int) (U W:Rat->Rat) (D b:Nat),vs=[.ref p]/\H p=some (.lst (ns.map V.int))/\ns.length<=9/\(∀ z∈ns,Bd b z)/\b+60*D<=50000000/\Sk ns U W D/\
 ∀ H',Same H H'->Q (.int (Nf (evQ ns) 0 1:Nat)) H'
noncomputable def Kh (_:W.Frag):Sp:=λvs H Q _=>∃ (p s e:Addr) (ns:List Int) (a b:Nu),vs=[.ref p,.ref s,.ref e]/\H p=some (.lst (ns.map V.int))/\Nm H s a.1 a.2/\Nm H e b.1 b.2/\ns.length<=9/\(∀ z∈ns,Bd 148 z)/\0<a.2/\0<b.2/\Bd 210 a.1/\Bd 210 a.2/\Bd 210 b.1/\Bd 210 b.2/\val a<val b/\
 ∀ (r:Addr) (rs:List Int) (H':Hp),Same H H'->H' r=some (.lst (rs.map V.int))->rs.length=ns.length->(∀ z∈rs,Bd 100000 z)->(∃ M:Rat,1<=M/\∀ y:Rat,evQ rs y=M*evQ ns (val a+(val b - val a)*y))->Q (.ref r) H'
noncomputable def Rad (F S:List Int):Prop:=si F≠0/\∃ (c:Rat) (L:Sr),c≠0/\RadOf (si F) L/\si S=Sr.num c*L
noncomputable def sq (F:List Int):List Int:=open Classical in if h:∃ S,Rad F S then Classical.choose h else []
noncomputable def atE (F:List Int):Option Rat->Nat
 | none=>0
 | some h=>if evQ F h=0 then 1 else 0
noncomputable def Cnt (F S:List Int) (lo hi:Option Rat) (k:Nat):Prop:=∃ R0:Rat,∀ R R',R0<=R->R0<=R'->k=Nf (evQ S) (lo.getD (-R)) (hi.getD R')+atE F hi
noncomputable def EndV (H:Hp) (v:V):Option Nu->Prop
 | none=>v=.non
 | some q=>∃ a,v=.ref a/\Nm H a q.1 q.2/\Low q.1 q.2/\Bd 60 q.1/\Bd 60 q.2
structure Of (H:Hp) (p:Addr) (ns:List Int):Prop where
 ex:∃ (xs:List V) (l:List Nu) (κ:Rat),H p=some (.tup xs)/\Nums H xs l/\Gq 40 40 l/\0<l.length/\l.length<=9/\κ≠0/\si (BZ l)=Sr.num κ*si ns
noncomputable def HI (_:W.Frag):Sp:=λvs H Q _=>∃ (p:Addr) (ns:List Int) (lo hi:Option Nu) (v w:V),vs=[.ref p,v,w]/\Of H p ns/\EndV H v lo/\EndV H w hi/\(∀ a b,lo=some a->hi=some b->val a<val b)/\
 ∀ (k:Nat) (H':Hp),Same H H'->Rad ns (sq ns)->Cnt ns (sq ns) (lo.map val) (hi.map val) k->Q (.int (k:Int)) H'
noncomputable def sgP:List Int->Rat->Rat
 | [t,s],x=>(s:Rat)*x - (t:Rat)
 | [m,a,e],x=>if 0<e then (if x<(m:Rat) then -1 else (x - m)*(x - m) - (a:Rat)) else (if x<(m:Rat) then (a:Rat) - (x - m)*(x - m) else 1)
 | _,_=>1
noncomputable def Bq (lo hi:Option Rat) (p:List Int):Bool:=lo.all (λx=>decide (sgP p x<0)) && hi.all (λy=>!decide (sgP p y<0))
noncomputable def isA (a:Int):Prop:=a=2\/a=3\/a=5\/a=6\/a=7\/a=10
noncomputable def Pk (p:List Int):Prop:=(∃ t s:Int,p=[t,s]/\Low t s/\s<=6/\t.natAbs<=9)\/∃ m a e:Int,p=[m,a,e]/\isA a/\(e=1\/e = -1)/\m.natAbs<=4
noncomputable def Pls (H:Hp):List V->List (List Int)->Prop
 | [],[]=>True
 | v::vs,p::ps=>(∃ a,v=.ref a/\H a=some (.tup (p.map V.int)))/\Pls H vs ps
 | _,_=>False
noncomputable def Im (_:W.Frag):Sp:=λvs H Q _=>∃ (p a:Addr) (n:Int),vs=[.ref p,.bl false]/\Hand H p a n/\n<=90000/\
 ∀ (r:Addr) (t d:Int) (H':Hp),Nm H' r t d->Low t d->t.natAbs<=9->d<=6->Hand H' p a (n+4)->Kp p H H'->Q (.ref r) H'
noncomputable def Ki (_:W.Frag):Sp:=λvs H Q _=>∃ (p a q:Addr) (us:List V) (ls:List Nu) (n:Int),vs=[.ref p,.ref q]/\Hand H p a n/\n<=80000/\q≠p/\H q=some (.lst us)/\Nums H us ls/\DN ls/\(∀ c∈ls,Bd 58 c.1/\Bd 58 c.2)/\ls.length<=100/\
 ∀ (r:Addr) (v w:V) (lo hi:Option Nu) (H':Hp),H' r=some (.tup [v,w])->EndV H' v lo->EndV H' w hi->(∀ x y,lo=some x->hi=some y->val x<val y)->Hand H' p a (n+40)->Kp p H H'->Q (.ref r) H'
noncomputable def Io (_:W.Frag):Sp:=λvs H Q _=>∃ (c b:Addr) (x y:Int) (p:List Int),vs=[.ref c,.ref b]/\Nm H c x y/\0<y/\Bd 60 x/\Bd 60 y/\H b=some (.tup (p.map V.int))/\Pk p/\
 Q (.bl (decide (sgP p (val (x,y))<0))) H
noncomputable def Kj (_:W.Frag):Sp:=λvs H Q _=>∃ (q:Addr) (us:List V) (ps:List (List Int)) (lo hi:Option Nu) (v w:V),vs=[.ref q,v,w]/\H q=some (.lst us)/\Pls H us ps/\(∀ p∈ps,Pk p)/\EndV H v lo/\EndV H w hi/\
 Q (.int (ps.countP (Bq (lo.map val) (hi.map val)):Nat)) H
noncomputable def Kk (_:W.Frag):Sp:=λvs H Q _=>∃ (p a:Addr) (n:Int),vs=[.ref p]/\Hand H p a n/\n<=80000/\∀ H',Q (.bl true) H'
section
variable (K:W.Frag)
set_option linter.unusedVariables false
noncomputable def OD (_:W.Frag):TS:=
 (AG (Dz (Ab (tOp rNe (AA 1) (tC (.int 0)))) (AG (AJ (tOp MP (AA 0) (AA 1)) (AF 2))
  (AG (AJ (AA 1) (AF 0))
  (AJ (AA 2) (AF 1)))))
  (AZ (tCB E3 (AB (AA 0) AC))))
noncomputable def OE (_:W.Frag):TS:=
 (AG (AJ (tC (.int 1)) (AF 2))
  (AG (AJ (AA 0) (AF 3))
  (AG (Dz (Ab (tOp iGt (AA 1) (tC (.int 0)))) (AG (A5 (Ab (tOp rEq (tOp Cj (AA 1) (tC (.int 2))) (tC (.int 1)))) (DL 2 (AA 3) Ac) BA)
  (AG (DL 1 (tC (.int 2)) FQ)
  (A5 (Ab (tOp iGt (AA 1) (tC (.int 0)))) (DL 3 (AA 3) Ac) BA))))
  (AZ (AA 2)))))
noncomputable def OF:TS:=
 (AG (AJ (AN (Ej K) [] E0 (AB (Ji (E8 (CD K (AA 0)) [none] (AF 0) (Ab (tOp rNe (AA 0) (tC (.int 0)))) (tCB E3 (AB (AA 0) AC)))) (AB (AA 1) AC))) (AF 2))
  (AG (BM (CD K (AA 0)) (AF 3) (AG (A5 (Ab (tOp rEq (AA 2) (tC (.int 1)))) (AZ (tC (.int 1))) BA)
  (AJ (AN (Ej K) [] E0 (AB (AA 3) (AB (AA 2) AC))) (AF 2))))
  (AZ (AA 2))))
noncomputable def OG (_:W.Frag):TS:=
 (AG (AJ (tCB BX (AB (AA 0) AC)) (AF 1))
  (AG (Dz (DT (Ab (tOp iGt (AA 1) (tC (.int 0)))) (Ab (tOp rEq (tOp gL (AA 0) (tOp A8 (AA 1) (tC (.int 1)))) (tC (.int 0))))) (DL 1 (tC (.int 1)) A8))
  (AZ (tSl sL (AA 0) Ed (Ee (AA 1))))))
noncomputable def OH:TS:=
 (AZ (CF (CD K (AA 0)) [none,some 1] (AF 0) (tOp FX (AA 0) (AA 1))))
noncomputable def OI (_:W.Frag):TS:=
 (AZ (CF (Gg (AB (tC (.int 1)) (AB (tCB BX (AB (AA 0) AC)) AC))) [none,some 0] (AF 0) (tOp Ac (AA 0) (tOp gL (AA 1) (AA 0)))))
noncomputable def OJ (_:W.Frag):TS:=
 (A5 (Ab (tOp rNe (AA 6) (tC (.int 0)))) (BM (D2 (AB (AA 3) AC)) (AF 7) (Ev (AA 2) (tOp A9 (AA 5) (AA 7)) (tOp Ac (AA 6) (tOp gL (AA 1) (AA 7))) gL A8 DC)) BA)
noncomputable def WM:TS:=
 (AG (AJ (AA 6) (EG (AA 4) (AA 5) DC))
  (OJ K))
noncomputable def OK:TS:=
 (AG (A5 (Ab (tOp rNe (tOp Ac (AA 6) (tOp gL (AA 1) (tUn BS (tC (.int 1))))) (tOp gL (AA 2) (tOp A9 (AA 5) (AA 3))))) (AZ (tC .non)) BA)
  (WM K))
noncomputable def WN:TS:=
 (AG (AJ (tOp Eh (tOp gL (AA 2) (tOp A9 (AA 5) (AA 3))) (tOp gL (AA 1) (tUn BS (tC (.int 1))))) (AF 6))
  (OK K))
noncomputable def WO (_:W.Frag):TS:=
 (AZ (tIf (tB (tCB Jj (AB (tSl sL (AA 2) Ed (Ee (AA 3))) AC))) (tC .non) (AA 4)))
noncomputable def WP:TS:=
 (AG (BM (FW (AB (tOp A8 (tOp A8 (tCB BX (AB (AA 0) AC)) (AA 3)) (tC (.int 1))) (AB (tUn BS (tC (.int 1))) (AB (tUn BS (tC (.int 1))) AC)))) (AF 5) (WN K))
  (WO K))
noncomputable def OM:TS:=
 (AG (AJ (tOp F3 (BW (AB (tC (.int 0)) AC)) (tCB FS (AB (tOp A8 (tCB BX (AB (AA 0) AC)) (AA 3)) (AB (tC (.int 0)) AC)))) (AF 4))
  (WP K))
noncomputable def WQ:TS:=
 (AG (AJ (tOp A8 (tCB BX (AB (AA 1) AC)) (tC (.int 1))) (AF 3))
  (OM K))
noncomputable def WR:TS:=
 (AG (AJ (tCB FU (AB (AA 0) AC)) (AF 2))
  (WQ K))
noncomputable def WS:TS:=
 (AG (AJ (BW AC) (AF 1))
  (AG (BM (Gg (AB (tC (.int 1)) (AB (tCB BX (AB (AA 0) AC)) AC))) (AF 2) (AG (AJ (tOp gL (AA 0) (tOp A8 (tOp A8 (tCB BX (AB (AA 0) AC)) (tC (.int 1))) (AA 2))) (AF 3))
  (A5 (Ab (tOp rNe (AA 3) (tC (.int 0)))) (EZ (tBM K "list" Ef (AA 1) (AB (tUn BS (tOp FX (tOp A8 (tOp A8 (Gm K "int" Jl (tOp gL (AA 0) (tUn BS (tC (.int 1))))) (Gm K "int" Jl (AA 3))) (tC (.int 1))) (AA 2))) AC))) BA)))
  (AZ (tOp A9 (tC (.int 1)) (Mg (AA 1))))))
noncomputable def ON:TS:=
 (AG (AJ (CF (CD K (AA 0)) [none,some 1] (AF 0) (tOp Ac (AA 1) (AA 0))) (AF 5))
  (AG (EZ (tBM K "list" JU (AA 5) (AB (tOp F3 (BW (AB (tC (.int 0)) AC)) (tOp A8 (tOp A9 (tCB BX (AB (AA 2) AC)) (AA 4)) (tCB BX (AB (AA 0) AC)))) AC)))
  (AG (BM (E5 K (AB (AA 2) AC)) (D3 2 (CC (AF 6) (CC (AF 7) Dg))) (Ev (AA 5) (tOp A9 (AA 6) (AA 4)) (tOp Ac (AA 3) (AA 7)) gL A8 DC))
  (AZ (AN (GN K) [] E0 (AB (AA 5) AC))))))
noncomputable def OO (_:W.Frag):TS:=
 (AG (AJ (tCB FU (AB (AA 0) AC)) (AF 2))
  (AG (BM (D2 (AB (tOp A8 (tCB BX (AB (AA 0) AC)) (tC (.int 1))) AC)) (AF 3) (BM (FW (AB (tOp A8 (tCB BX (AB (AA 0) AC)) (tC (.int 2))) (AB (tOp A8 (AA 3) (tC (.int 1))) (AB (tUn BS (tC (.int 1))) AC)))) (AF 4) (Ev (AA 2) (AA 4) (tOp Ac (AA 1) (tOp gL (AA 2) (tOp A9 (AA 4) (tC (.int 1))))) gL A9 DC)))
  (AZ (AA 2))))
noncomputable def WT:TS:=
 (AJ (CF (Jh K (AB (AA 0) (AB (AA 1) AC))) [none,none,some 6,some 7,some 2] (D3 2 (CC (AF 0) (CC (AF 1) Dg))) (AN (IX K) [] E0 (AB (AA 0) (AB (AA 2) (AB (AA 1) (AB (AA 3) (AB (AA 4) AC))))))) (AF 0))
noncomputable def WU:TS:=
 (AG (AJ (tOp Eh (AA 3) (AA 5)) (AF 7))
  (WT K))
noncomputable def WV:TS:=
 (AG (AJ (tOp Eh (AA 4) (AA 5)) (AF 6))
  (WU K))
noncomputable def WW:TS:=
 (AG (AJ (AN (Ej K) [] E0 (AB (AA 3) (AB (AA 4) AC))) (AF 5))
  (WV K))
noncomputable def WX:TS:=
 (AG (AJ (tOp gL (tOp gL (AA 1) (tC (.int 0))) (tUn BS (tC (.int 1)))) (AF 4))
  (WW K))
noncomputable def WY:TS:=
 (AG (AJ (tOp gL (tOp gL (AA 0) (tC (.int 0))) (tUn BS (tC (.int 1)))) (AF 3))
  (WX K))
noncomputable def WZ:TS:=
 (AG (AJ (tOp A8 (tCB BX (AB (tOp gL (AA 0) (tC (.int 0))) AC)) (tCB BX (AB (tOp gL (AA 1) (tC (.int 0))) AC))) (AF 2))
  (WY K))
noncomputable def OP:TS:=
 (AZ (AN (HB K) [] E0 (AB (AA 0) AC)))
noncomputable def OQ:TS:=
 (AG (Dz (Ab (tOp iGe (tCB BX (AB (tOp gL (AA 0) (tC (.int 0))) AC)) (tCB BX (AB (tOp gL (AA 1) (tC (.int 0))) AC)))) (WZ K))
  (OP K))
noncomputable def OR:TS:=
 (AG (AJ (tC (.int 0)) (AF 1))
  (AG (BM (CD K (AA 0)) (AF 2) (AJ (AN (IV K) [] E0 (AB (AA 2) (AB (AA 1) AC))) (AF 1)))
  (AZ (CF (CD K (AA 0)) [none,some 1] (AF 0) (AN (IW K) [] E0 (AB (AA 0) (AB (AA 1) AC)))))))
noncomputable def OS:TS:=
 (AZ (tOp gL (AN (HB K) [] E0 (AB (BW (AB (AA 0) AC)) AC)) (tC (.int 0))))
noncomputable def OT:TS:=
 (AG (Dz (E6 (tOp gL (AA 1) (tC (.int 0)))) (AG (A5 (Ab (tOp rEq (tCB BX (AB (tOp gL (AA 1) (tC (.int 0))) AC)) (tC (.int 1)))) (AZ (AA 1)) BA)
  (AG (AJ (AN (IY K) [] E0 (AB (AA 0) (AB (AA 1) AC))) (AF 2))
  (AG (AJ (AA 1) (AF 0))
  (AJ (AA 2) (AF 1))))))
  (AZ (AA 0)))
noncomputable def OU (_:W.Frag):TS:=
 (AJ (AA 7) (AF 5))
noncomputable def OV:TS:=
 (AG (AJ (AA 5) (AF 4))
  (OU K))
noncomputable def OW:TS:=
 (AG (AJ (tOp A8 (AA 4) (tOp Ac (AA 6) (AA 5))) (AF 7))
  (OV K))
noncomputable def OX:TS:=
 (AG (AJ (AA 7) (AF 3))
  (OW K))
noncomputable def OY:TS:=
 (AG (AJ (AA 3) (AF 2))
  (OX K))
noncomputable def OZ:TS:=
 (AG (AJ (tOp A8 (AA 2) (tOp Ac (AA 6) (AA 3))) (AF 7))
  (OY K))
noncomputable def Oa:TS:=
 (AG (AJ (tOp FX (AA 2) (AA 3)) (AF 6))
  (OZ K))
noncomputable def Ob (_:W.Frag):TS:=
 (AZ (tOp Cj (AA 4) (AA 1)))
noncomputable def Oc:TS:=
 (AG (Dz (Ab (tOp rNe (AA 3) (tC (.int 0)))) (Oa K))
  (Ob K))
noncomputable def Od:TS:=
 (AG (AJ (tC (.int 1)) (AF 5))
  (Oc K))
noncomputable def Oe:TS:=
 (AG (AJ (tC (.int 0)) (AF 4))
  (Od K))
noncomputable def Og:TS:=
 (AG (AJ (tOp Cj (AA 0) (AA 1)) (AF 3))
  (Oe K))
noncomputable def Oh:TS:=
 (AG (AJ (AA 1) (AF 2))
  (Og K))
noncomputable def Oi:TS:=
 (AZ (CF (CD K (AA 0)) [none,some 1] (AF 0) (tOp Cj (AA 0) (AA 1))))
noncomputable def Oj:TS:=
 (AZ (AN (GN K) [] E0 (AB (AN (Ia K) [] E0 (AB (AA 0) (AB (AA 1) AC))) AC)))
noncomputable def Ol:TS:=
 (AG (A5 (Gb (E6 (AA 0))) (AZ (BW AC)) BA)
  (AG (AJ (AN (IZ K) [] E0 (AB (tOp gL (AA 0) (tUn BS (tC (.int 1)))) (AB (AA 1) AC))) (AF 2))
  (AZ (CF (CD K (AA 0)) [none,some 1,some 2] (AF 0) (tOp Cj (tOp Ac (AA 0) (AA 2)) (AA 1))))))
noncomputable def Om (_:W.Frag):TS:=
 (A5 (Ab (tOp rNe (AA 7) (tC (.int 0)))) (BM (D2 (AB (AA 4) AC)) (AF 8) (Ev (AA 3) (tOp A9 (AA 6) (AA 8)) (tOp Ac (AA 7) (tOp gL (AA 1) (AA 8))) gL A8 DC)) BA)
noncomputable def On:TS:=
 (AG (AJ (AA 7) (EG (AA 5) (AA 6) DC))
  (Om K))
noncomputable def Wa:TS:=
 (AG (AJ (tOp Cj (tOp gL (AA 3) (tOp A9 (AA 6) (AA 4))) (AA 2)) (AF 7))
  (On K))
noncomputable def Oo:TS:=
 (AZ (CK (AB (AN (GN K) [] E0 (AB (AA 5) AC)) (AB (AN (GP K) [] E0 (AB (tSl sL (AA 3) Ed (Ee (AA 4))) (AB (AA 2) AC))) AC))))
noncomputable def Wb:TS:=
 (AG (BM (FW (AB (tOp A8 (tOp A8 (tCB BX (AB (AA 0) AC)) (AA 4)) (tC (.int 1))) (AB (tUn BS (tC (.int 1))) (AB (tUn BS (tC (.int 1))) AC)))) (AF 6) (Wa K))
  (Oo K))
noncomputable def Op:TS:=
 (AG (AJ (tOp F3 (BW (AB (tC (.int 0)) AC)) (tCB FS (AB (tOp A8 (tCB BX (AB (AA 0) AC)) (AA 4)) (AB (tC (.int 0)) AC)))) (AF 5))
  (Wb K))
noncomputable def Wc:TS:=
 (AG (AJ (tOp A8 (tCB BX (AB (AA 1) AC)) (tC (.int 1))) (AF 4))
  (Op K))
noncomputable def Wd:TS:=
 (AG (AJ (tCB FU (AB (AA 0) AC)) (AF 3))
  (Wc K))
noncomputable def Oq:TS:=
 (AZ (tOp gT (AN (Ib K) [] E0 (AB (AA 0) (AB (AA 1) (AB (AA 2) AC)))) (tC (.int 1))))
noncomputable def Os:TS:=
 (AG (AJ (AN (GQ K) [] E0 (AB (AN (GP K) [] E0 (AB (AA 0) (AB (AA 2) AC))) (AB (AA 2) AC))) (AF 0))
  (AG (AJ (AN (GQ K) [] E0 (AB (AN (GP K) [] E0 (AB (AA 1) (AB (AA 2) AC))) (AB (AA 2) AC))) (AF 1))
  (AG (Dz (E6 (AA 1)) (AG (AJ (AN (Ic K) [] E0 (AB (AA 0) (AB (AA 1) (AB (AA 2) AC)))) (AF 3))
  (AG (AJ (AA 1) (AF 0))
  (AJ (AN (GQ K) [] E0 (AB (AA 3) (AB (AA 2) AC))) (AF 1)))))
  (AZ (AA 0)))))
noncomputable def Ot (_:W.Frag):TS:=
 (AG (AJ (tOp Cj (AA 0) (AA 1)) (AF 2))
  (AZ (tIf (Ab (tOp iGt (tOp Ac (tC (.int 2)) (AA 2)) (AA 1))) (tOp A8 (AA 2) (AA 1)) (AA 2))))
noncomputable def Ou:TS:=
 (AG (AJ (AN (Ej K) [] E0 (AB (tOp gL (AA 0) (tUn BS (tC (.int 1)))) (AB (tOp gL (AA 1) (tUn BS (tC (.int 1)))) AC))) (AF 3))
  (AG (A5 (Ab (tOp rEq (tOp Cj (AA 3) (AA 2)) (tC (.int 0)))) (AZ (tC .non)) BA)
  (AG (AJ (AN (Id K) [] E0 (AB (AA 0) (AB (AA 1) (AB (AA 2) AC)))) (AF 4))
  (AG (AJ (AN (Fi K) [] E0 (AB (CF (CD K (AA 4)) [none,some 2,some 3] (AF 0) (AN (Ie K) [] E0 (AB (tOp Ac (AA 2) (AA 0)) (AB (AA 1) AC)))) AC)) (AF 5))
  (AG (A5 (tOr (Ab (tOp GA (AN (GO K) [] E0 (AB (AA 0) (AB (AA 5) AC))) (tC .non))) (Ab (tOp GA (AN (GO K) [] E0 (AB (AA 1) (AB (AA 5) AC))) (tC .non)))) (AZ (tC .non)) BA)
  (AZ (AA 5)))))))
noncomputable def Ow:TS:=
 (AG (AJ (AN (Fi K) [] E0 (AB (AA 0) AC)) (AF 2))
  (AG (AJ (AN (Fi K) [] E0 (AB (AA 1) AC)) (AF 3))
  (AG (A5 (DT (E6 (AA 0)) (E6 (AA 1))) (BM (Fy K (tC (.ref (Fh K)))) (AF 4) (AG (AJ (AN (Ig K) [] E0 (AB (AA 2) (AB (AA 3) (AB (tOp A8 (AN (IU K) [] E0 (AB (tC (.int 2)) (AB (AA 4) AC))) (tC (.int 1))) AC)))) (AF 5))
  (A5 (Ab (tOp GB (AA 5) (tC .non))) (AZ (AA 5)) BA))) BA)
  (AZ (tOp gL (AN (HC K) [] E0 (AB (BW (AB (AA 2) AC)) (AB (BW (AB (AA 3) AC)) AC))) (tC (.int 0)))))))
noncomputable def Ox:TS:=
 (AZ (tIf (Ab (tOp iGt (tOp gL (AA 2) (tUn BS (tC (.int 1)))) (tC (.int 0)))) (AA 2) (CF (CD K (AA 2)) [none] (AF 0) (tUn BS (AA 0)))))
noncomputable def Oy:TS:=
 (AG (AJ (AN (GO K) [] E0 (AB (AA 1) (AB (AN (Ih K) [] E0 (AB (AA 1) (AB (AN (Ik K) [] E0 (AB (AA 1) AC)) AC))) AC))) (AF 2))
  (Ox K))
noncomputable def Oz:TS:=
 (AG (AJ (AN (Fi K) [] E0 (AB (AA 0) AC)) (AF 1))
  (Oy K))
noncomputable def O0:TS:=
 (AG (AJ (AN (Ej K) [] E0 (AB (AA 0) (AB (AA 1) AC))) (AF 2))
  (AG (A5 (Ab (tOp iLt (AA 1) (tC (.int 0)))) (AJ (tUn BS (AA 2)) (AF 2)) BA)
  (AZ (CK (AB (tOp Eh (AA 0) (AA 2)) (AB (tOp Eh (AA 1) (AA 2)) AC))))))
noncomputable def We (_:W.Frag):TS:=
 (AZ (tOp iLt (tOp Ac (tOp gT (AA 0) (tC (.int 0))) (tOp gT (AA 1) (tC (.int 1)))) (tOp Ac (tOp gT (AA 1) (tC (.int 0))) (tOp gT (AA 0) (tC (.int 1))))))
noncomputable def O1:TS:=
 (AG (AJ (tC (.int 1)) (AF 1))
  (AG (BM (Fy K (AA 0)) (AF 2) (DL 1 (tOp FX (tOp gT (AA 2) (tC (.int 1))) (AN (Ej K) [] E0 (AB (AA 1) (AB (tOp gT (AA 2) (tC (.int 1))) AC)))) Ac))
  (AZ (CK (AB (CF (Fy K (AA 0)) [none,some 1] (AF 0) (tOp Ac (tOp gT (AA 0) (tC (.int 0))) (tOp FX (AA 1) (tOp gT (AA 0) (tC (.int 1)))))) (AB (AA 1) AC))))))
noncomputable def O2:TS:=
 (AG (AJ (AN (HE K) [] E0 (AB (AA 0) AC)) (AF 2))
  (AG (AJ (tC (.int 0)) (AF 3))
  (AG (AJ (tC (.int 1)) (AF 4))
  (AG (BM (Jf K (AB (tOp gT (AA 2) (tC (.int 0))) AC)) (AF 5) (AG (AJ (tOp A9 (tOp Ac (AA 3) (tOp gT (AA 1) (tC (.int 0)))) (tOp Ac (AA 5) (AA 4))) (AF 3))
  (DL 4 (tOp gT (AA 1) (tC (.int 1))) Ac)))
  (AZ (AN (HD K) [] E0 (AB (tOp Ac (AA 3) (tOp gT (AA 1) (tC (.int 1)))) (AB (tOp Ac (tOp gT (AA 2) (tC (.int 1))) (AA 4)) AC))))))))
noncomputable def Wf (_:W.Frag):TS:=
 (AZ (AA 9))
noncomputable def O3:TS:=
 (AG (A5 (DT (Ab (tOp GB (AA 2) (tC .non))) (Ab (tOp eqD (AN (Kc K) [] E0 (AB (AA 0) (AB (AA 2) AC))) (CK (AB (tC (.int 0)) (AB (tC (.int 1)) AC)))))) (DL 9 (tC (.int 1)) A9) BA)
  (Wf K))
noncomputable def O4:TS:=
 (AG (AJ (AN (Kg K) [] E0 (AB (AN (Kh K) [] E0 (AB (AA 3) (AB (AA 7) (AB (AA 8) AC)))) AC)) (AF 9))
  (O3 K))
noncomputable def O5:TS:=
 (AG (A5 (Gb (tB (AN (HG K) [] E0 (AB (AA 7) (AB (AA 8) AC))))) (AZ (tC (.int 0))) BA)
  (O4 K))
noncomputable def O6:TS:=
 (AG (AJ (tIf (tOr (Ab (tOp GA (AA 2) (tC .non))) (tB (AN (HG K) [] E0 (AB (AA 5) (AB (AA 2) AC))))) (AA 5) (AA 2)) (AF 8))
  (O5 K))
noncomputable def O7:TS:=
 (AG (AJ (tIf (tOr (Ab (tOp GA (AA 1) (tC .non))) (tB (AN (HG K) [] E0 (AB (AA 1) (AB (AA 6) AC))))) (AA 6) (AA 1)) (AF 7))
  (O6 K))
noncomputable def Kl:TS:=
 (AG (AJ (CK (AB (tUn BS (tOp gT (AA 5) (tC (.int 0)))) (AB (tOp gT (AA 5) (tC (.int 1))) AC))) (AF 6))
  (O7 K))
noncomputable def O8:TS:=
 (AG (AJ (CK (AB (tOp Hw (tC (.int 1)) (tCB FS (AB (AA 4) (AB (tC (.int 0)) AC)))) (AB (tOp Hw (tC (.int 1)) (tCB FS (AB (tUn BS (AA 4)) (AB (tC (.int 0)) AC)))) AC))) (AF 5))
  (Kl K))
noncomputable def Wg:TS:=
 (AG (AJ (AN (Kd K) [] E0 (AB (AA 3) AC)) (AF 4))
  (O8 K))
noncomputable def Wh:TS:=
 (AG (AJ (AN (Il K) [] E0 (AB (tOp gT (AN (HE K) [] E0 (AB (AA 0) AC)) (tC (.int 0))) AC)) (AF 3))
  (Wg K))
noncomputable def Wi (_:W.Frag):TS:=
 (DL 5 (AA 3) Ac)
noncomputable def Wj:TS:=
 (AG (Ev (AA 4) (AA 6) (AA 5) gL Ac DC)
  (Wi K))
noncomputable def Wk (_:W.Frag):TS:=
 (DL 5 (tOp A8 (tOp Ac (tOp gT (AA 2) (tC (.int 0))) (tOp gT (AA 1) (tC (.int 1)))) (tOp Ac (tOp gT (AA 1) (tC (.int 0))) (tOp gT (AA 2) (tC (.int 1))))) Ac)
noncomputable def Wl:TS:=
 (AG (Ev (AA 4) (AA 6) (AA 5) gL Ac DC)
  (Wk K))
noncomputable def Wm (_:W.Frag):TS:=
 (AZ (AA 4))
noncomputable def O9:TS:=
 (AG (BM (D2 (AB (tCB BX (AB (AA 0) AC)) AC)) (AF 6) (Wl K))
  (Wm K))
noncomputable def Wn:TS:=
 (AG (AJ (tC (.int 1)) (AF 5))
  (O9 K))
noncomputable def PB:TS:=
 (AG (AJ (AN (GR K) [] E0 (AB (AA 4) (AB (tOp Ac (tOp gT (AA 1) (tC (.int 0))) (tOp gT (AA 2) (tC (.int 1)))) AC))) (AF 4))
  (Wn K))
noncomputable def PC:TS:=
 (AG (BM (FW (AB (tOp A8 (tCB BX (AB (AA 0) AC)) (tC (.int 1))) (AB (tUn BS (tC (.int 1))) (AB (tUn BS (tC (.int 1))) AC)))) (AF 6) (Wj K))
  (PB K))
noncomputable def Wp:TS:=
 (AG (AJ (tC (.int 1)) (AF 5))
  (PC K))
noncomputable def PD:TS:=
 (AG (AJ (tCB FU (AB (AA 0) AC)) (AF 4))
  (Wp K))
noncomputable def Wq:TS:=
 (AG (AJ (tOp Ac (tOp gT (AA 1) (tC (.int 1))) (tOp gT (AA 2) (tC (.int 1)))) (AF 3))
  (PD K))
noncomputable def PF:TS:=
 (EZ (tBM K "list" Ef (AA 2) (AB (AA 6) AC)))
noncomputable def PH:TS:=
 (AG (EZ (tBM K "list" Ef (AA 2) (AB (AA 5) AC)))
  (PF K))
noncomputable def PJ:TS:=
 (AG (A5 (Ab (tOp rEq (tOp gL (AA 6) (tC (.int 0))) (tC (.int 0)))) (DL 1 (tC (.int 1)) A9) BA)
  (PH K))
noncomputable def PM:TS:=
 (AG (AJ (AN (GR K) [] E0 (AB (AA 5) (AB (tC (.int 1)) AC))) (AF 6))
  (PJ K))
noncomputable def PN:TS:=
 (AG (AJ (AN (Kf K) [] E0 (AB (AA 3) AC)) (AF 5))
  (PM K))
noncomputable def Km:TS:=
 (A5 (Ab (tOp iGt (AA 4) (tC (.int 1)))) (PN K) BA)
noncomputable def PP:TS:=
 (AG (A5 (Ab (tOp rEq (AA 4) (tC (.int 1)))) (DL 1 (tC (.int 1)) A9) BA)
  (Km K))
noncomputable def PQ:TS:=
 (AG (AJ (AN (Ke K) [] E0 (AB (AN (GR K) [] E0 (AB (Mm (AA 3)) (AB (tC (.int 1)) AC))) AC)) (AF 4))
  (PP K))
noncomputable def PR:TS:=
 (AG (AJ (Gm K "list" JV (AA 2)) (AF 3))
  (PQ K))
noncomputable def PU (_:W.Frag):TS:=
 (AZ (AA 1))
noncomputable def PV:TS:=
 (AG (Dz (E6 (AA 2)) (PR K))
  (PU K))
noncomputable def PX:TS:=
 (AG (AJ (BW (AB (AA 0) AC)) (AF 2))
  (PV K))
noncomputable def Wr:TS:=
 (AG (AJ (tC (.int 0)) (AF 1))
  (PX K))
noncomputable def Ws:TS:=
 (AG (AJ (tOp A8 (tCB BX (AB (AA 0) AC)) (tC (.int 1))) (AF 1))
  (AZ (CF (E5 K (AB (AA 0) AC)) [none,none,some 1] (D3 2 (CC (AF 0) (CC (AF 1) Dg))) (tOp Hw (AA 1) (tOp A8 (AA 2) (AA 0))))))
noncomputable def PY (_:W.Frag):TS:=
 (AJ (tIf (Ab (tOp iGt (AA 3) (tC (.int 0)))) (tC (.int 1)) (tUn BS (tC (.int 1)))) (AF 2))
noncomputable def PZ:TS:=
 (AG (A5 (Ab (tOp iLt (tOp Ac (AA 2) (AA 3)) (tC (.int 0)))) (DL 1 (tC (.int 1)) A9) BA)
  (PY K))
noncomputable def Pa (_:W.Frag):TS:=
 (AZ (AA 1))
noncomputable def Pb:TS:=
 (AG (BM (CD K (AA 0)) (AF 3) (A5 (Ab (tOp rNe (AA 3) (tC (.int 0)))) (PZ K) BA))
  (Pa K))
noncomputable def Pd:TS:=
 (AG (AJ (tC (.int 0)) (AF 2))
  (Pb K))
noncomputable def Wt:TS:=
 (AG (AJ (tC (.int 0)) (AF 1))
  (Pd K))
noncomputable def Pe:TS:=
 (AG (AJ (tCB Hv (AB (tSl (sS K) (AA 0) Ed (Ee (tC (.int 1)))) AC)) (AF 1))
  (AZ (BW (AB (tCB FU (AB (tSl (sS K) (AA 0) Ed (Ee (tC (.int 63)))) AC)) (AB (tC (.int 0)) (AB (tOp FQ (tCB E3 (AB (AA 1) AC)) (tC (.int 2))) (AB (tOp Cj (AA 1) (tC (.int 2))) AC)))))))
noncomputable def Pf (_:W.Frag):TS:=
 (AJ (tCB E3 (AB (tOp gL (tOp gL (AA 0) (tC (.int 0))) (tOp gL (AA 0) (tC (.int 1)))) AC)) (EG (AA 0) (tC (.int 2)) DC))
noncomputable def Ph:TS:=
 (AG (AJ (tOp A9 (tOp gL (AA 0) (tC (.int 1))) (tC (.int 1))) (EG (AA 0) (tC (.int 1)) DC))
  (Pf K))
noncomputable def Pi (_:W.Frag):TS:=
 (AZ (AA 2))
noncomputable def Pj:TS:=
 (AG (AJ (tOp FQ (tOp gL (AA 0) (tC (.int 2))) (AA 1)) (EG (AA 0) (tC (.int 2)) DC))
  (Pi K))
noncomputable def Pl:TS:=
 (AG (AJ (tOp Cj (tOp gL (AA 0) (tC (.int 2))) (AA 1)) (AF 2))
  (Pj K))
noncomputable def Pm (_:W.Frag):TS:=
 (AZ (tOp Cj (tOp FQ (AA 5) (tC (.int 7))) (AA 1)))
noncomputable def Po:TS:=
 (AG (AJ (tOp Cj (tOp A9 (tOp Ac (AA 4) (tOp A9 (tOp Cj (AA 4) (tC (.int 39373))) (tOp gL (AA 0) (tC (.int 1))))) (tOp Ac (tC (.int 31)) (tOp gL (AA 0) (tC (.int 1))))) (tC (.int 1999999973))) (AF 5))
  (Pm K))
noncomputable def Pp:TS:=
 (AG (AJ (tOp Cj (tOp Ac (tOp A9 (tOp A9 (tOp Cj (AA 3) (tC (.int 2147483629))) (tOp Ac (tC (.int 7919)) (tOp gL (AA 0) (tC (.int 1))))) (tC (.int 11))) (tOp A9 (tC (.int 48271)) (tOp Ac (tC (.int 2)) (tOp gL (AA 0) (tC (.int 1)))))) (tC (.int 2147483647))) (AF 4))
  (Po K))
noncomputable def Pq:TS:=
 (AG (AJ (tCB Hv (AB (tSl sL (tSl sL (tOp gL (AA 0) (tC (.int 0))) (Ee (tOp Cj (tOp gL (AA 0) (tC (.int 1))) (tCB FS (AB (tC (.int 1)) (AB (tCB BX (AB (tOp gL (AA 0) (tC (.int 0))) AC)) AC))))) Ed) Ed (Ee (tC (.int 1)))) AC)) (AF 3))
  (Pp K))
noncomputable def Kn:TS:=
 (AG (AJ (tOp A9 (tOp gL (AA 0) (tC (.int 1))) (tC (.int 1))) (EG (AA 0) (tC (.int 1)) DC))
  (Pq K))
noncomputable def Ko:TS:=
 (AG (A5 (DT (Ab (tOp rEq (tOp gL (AA 0) (tC (.int 3))) (tC (.int 1)))) (Ab (tOp iGt (tOp gL (AA 0) (tC (.int 2))) (tC (.int 0))))) (Pl K) BA)
  (Kn K))
noncomputable def Ps:TS:=
 (AG (A5 (DT (Ab (tOp rEq (tOp gL (AA 0) (tC (.int 3))) (tC (.int 1)))) (DT (Ab (tOp rEq (tOp gL (AA 0) (tC (.int 2))) (tC (.int 0)))) (Ab (tOp iLt (tOp A9 (tOp gL (AA 0) (tC (.int 1))) (tC (.int 1))) (tCB BX (AB (tOp gL (AA 0) (tC (.int 0))) AC)))))) (Ph K) BA)
  (Ko K))
noncomputable def Pu (_:W.Frag):TS:=
 (AG (Ge 2 3 (AB (tCB E3 (AB (AA 0) AC)) (AB (tCB E3 (AB (AA 1) AC)) AC)))
  (AG (Dz (Ab (tOp iGt (AA 3) (tC (.int 0)))) (Ge 2 3 (AB (AA 3) (AB (tOp Cj (AA 2) (AA 3)) AC))))
  (AG (A5 (Ab (tOp iLt (AA 1) (tC (.int 0)))) (AJ (tUn BS (AA 2)) (AF 2)) BA)
  (AZ (CK (AB (tOp Eh (AA 0) (AA 2)) (AB (tOp Eh (AA 1) (AA 2)) AC)))))))
noncomputable def Pw:TS:=
 (AG (AJ (tOp F3 (BW (AB (tC (.int 0)) AC)) (tOp A8 (tOp A9 (tCB BX (AB (AA 0) AC)) (tCB BX (AB (AA 1) AC))) (tC (.int 1)))) (AF 2))
  (AG (BM (E5 K (AB (AA 0) AC)) (D3 2 (CC (AF 3) (CC (AF 4) Dg))) (BM (E5 K (AB (AA 1) AC)) (D3 2 (CC (AF 5) (CC (AF 6) Dg))) (AJ (tOp A9 (tOp gL (AA 2) (tOp A9 (AA 3) (AA 5))) (tOp Ac (AA 4) (AA 6))) (EG (AA 2) (tOp A9 (AA 3) (AA 5)) DC))))
  (AZ (AA 2))))
noncomputable def Px:TS:=
 (AZ (tCB Jc (AB (CF (CD K (AA 0)) [none,some 1] (AF 0) (AN (FF K) [] E0 (AB (tOp Ac (AA 0) (tOp gT (AA 1) (tC (.int 0)))) (AB (tOp gT (AA 1) (tC (.int 1))) AC)))) AC)))
noncomputable def Wu:TS:=
 (AG (AJ (tOp A8 (AN (CG K) [] E0 (AB (AA 0) (AB (tC (.int 19)) AC))) (tC (.int 9))) (AF 2))
  (AG (AJ (tOp A9 (tC (.int 1)) (AN (CG K) [] E0 (AB (AA 0) (AB (tC (.int 6)) AC)))) (AF 3))
  (AG (A5 (tB (AA 1)) (AG (AJ (tOp A9 (tOp A8 (AN (CG K) [] E0 (AB (AA 0) (AB (tOp A8 (tOp Ac (tC (.int 2)) (tOp FR (tC (.int 10)) (tC (.int 5)))) (tC (.int 1))) AC))) (tOp FR (tC (.int 10)) (tC (.int 5)))) (tC (.int 1))) (AF 2))
  (AJ (tOp A9 (tC (.int 1)) (AN (CG K) [] E0 (AB (AA 0) (AB (tOp FR (tC (.int 10)) (tC (.int 4))) AC)))) (AF 3))) BA)
  (AZ (AN (FF K) [] E0 (AB (AA 2) (AB (AA 3) AC)))))))
noncomputable def Py:TS:=
 (AZ (AN (FF K) [] E0 (AB (tOp Ac (tOp gL (BW (AB (tC (.int 1)) (AB (tUn BS (tC (.int 1))) AC))) (AN (CG K) [] E0 (AB (AA 0) (AB (tC (.int 2)) AC)))) (tOp A9 (tC (.int 1)) (AN (CG K) [] E0 (AB (AA 0) (AB (tC (.int 9)) AC))))) (AB (tOp A9 (tC (.int 1)) (AN (CG K) [] E0 (AB (AA 0) (AB (tC (.int 9)) AC)))) AC))))
noncomputable def Pz:TS:=
 (EZ (tBM K "list" Ef (AA 2) (AB (AA 5) AC)))
noncomputable def Kq:TS:=
 (AG (A5 (DT (Ab (tOp rEq (AA 4) (tC (.int 1)))) (Ab (tOp neD (AA 1) (BW AC)))) (AJ (tOp gL (AA 1) (AN (CG K) [] E0 (AB (AA 0) (AB (tCB BX (AB (AA 1) AC)) AC)))) (AF 5)) BA)
  (Pz K))
noncomputable def P3:TS:=
 (AG (A5 (Ab (tOp rEq (AA 4) (tC (.int 0)))) (AJ (tC .non) (AF 5)) BA)
  (Kq K))
noncomputable def P4:TS:=
 (AG (AJ (AN (FF K) [] E0 (AB (tOp A8 (AN (CG K) [] E0 (AB (AA 0) (AB (tC (.int 41)) AC))) (tC (.int 20))) (AB (tOp A9 (tC (.int 1)) (AN (CG K) [] E0 (AB (AA 0) (AB (tC (.int 4)) AC)))) AC))) (AF 5))
  (P3 K))
noncomputable def P5:TS:=
 (AG (AJ (AN (CG K) [] E0 (AB (AA 0) (AB (tC (.int 5)) AC))) (AF 4))
  (P4 K))
noncomputable def HJ (_:W.Frag):TS:=
 (AZ (CK (AB (AA 6) (AB (AA 7) AC))))
noncomputable def P6:TS:=
 (AG (A5 (DT (Ab (tOp GB (AA 6) (tC .non))) (Ab (tOp GB (AA 7) (tC .non)))) (A5 (Ab (tOp eqD (AA 6) (AA 7))) (AJ (CK (AB (tOp A9 (tOp gT (AA 6) (tC (.int 0))) (tOp gT (AA 6) (tC (.int 1)))) (AB (tOp gT (AA 6) (tC (.int 1))) AC))) (AF 7)) (A5 (Ab (tOp iGt (tOp Ac (tOp gT (AA 6) (tC (.int 0))) (tOp gT (AA 7) (tC (.int 1)))) (tOp Ac (tOp gT (AA 7) (tC (.int 0))) (tOp gT (AA 6) (tC (.int 1)))))) (Ge 6 7 (AB (AA 7) (AB (AA 6) AC))) BA)) BA)
  (HJ K))
noncomputable def Kr:TS:=
 (AG (AJ (AA 2) (Jk 2 (CC (AF 6) (CC (AF 7) Dg))))
  (P6 K))
noncomputable def P7:TS:=
 (AG (BM (D2 (AB (tC (.int 2)) AC)) (AF 3) (P5 K))
  (Kr K))
noncomputable def Wv:TS:=
 (AG (AJ (BW AC) (AF 2))
  (P7 K))
noncomputable def P8 (_:W.Frag):TS:=
 (AZ (JM (tOp iLt (AA 5) (tC (.int 0))) (tOp iLt (tOp Ac (tOp Ac (AA 3) (tOp gT (AA 0) (tC (.int 1)))) (tOp gT (AA 0) (tC (.int 1)))) (tOp Ac (AA 5) (AA 5)))))
noncomputable def P9:TS:=
 (AG (A5 (Ab (tOp iGt (AA 4) (tC (.int 0)))) (AZ (Hf (tOp iLt (AA 5) (tC (.int 0))) (tOp iGt (tOp Ac (tOp Ac (AA 3) (tOp gT (AA 0) (tC (.int 1)))) (tOp gT (AA 0) (tC (.int 1)))) (tOp Ac (AA 5) (AA 5))))) BA)
  (P8 K))
noncomputable def QA:TS:=
 (AG (AJ (tOp A8 (tOp gT (AA 0) (tC (.int 0))) (tOp Ac (AA 2) (tOp gT (AA 0) (tC (.int 1))))) (AF 5))
  (P9 K))
noncomputable def QB:TS:=
 (AG (AJ (AA 1) (D3 3 (CC (AF 2) (CC (AF 3) (CC (AF 4) Dg)))))
  (QA K))
noncomputable def Ww:TS:=
 (AG (A5 (Ab (tOp rEq (tCB Hn (AB (AA 1) AC)) (tC (.int 2)))) (AZ (tOp iGt (tOp Ac (tOp gT (AA 1) (tC (.int 0))) (tOp gT (AA 0) (tC (.int 1)))) (tOp Ac (tOp gT (AA 0) (tC (.int 0))) (tOp gT (AA 1) (tC (.int 1)))))) BA)
  (QB K))
noncomputable def Ip (_:W.Frag):TS:=
 (AJ (tOp A9 (AA 3) (tCB Ja (AB (AA 5) AC))) (AF 3))
noncomputable def QC:TS:=
 (AG (A5 (DT (Ab (tOp GB (AA 2) (tC .non))) (tB (AN (Io K) [] E0 (AB (AA 2) (AB (AA 4) AC))))) (AJ (tC (.bl false)) (AF 5)) BA)
  (Ip K))
noncomputable def Wx:TS:=
 (AG (AJ (Hf (tOp GA (AA 1) (tC .non)) (AN (Io K) [] E0 (AB (AA 1) (AB (AA 4) AC)))) (AF 5))
  (QC K))
noncomputable def Ks (_:W.Frag):TS:=
 (AZ (AA 3))
noncomputable def QD:TS:=
 (AG (BM (CD K (AA 0)) (AF 4) (Wx K))
  (Ks K))
noncomputable def Wy:TS:=
 (AG (AJ (tC (.int 0)) (AF 3))
  (QD K))
noncomputable def QE:TS:=
 (AZ (tOp eqD (CF (CD K (AA 4)) [none,none,some 3] (D3 2 (CC (AF 0) (CC (AF 1) Dg))) (AN (HI K) [] E0 (AB (AA 2) (AB (AA 0) (AB (AA 1) AC))))) (BW (AB (tC (.int 1)) (AB (tC (.int 1)) (AB (tC (.int 1)) (AB (tC (.int 2)) (AB (tC (.int 0)) (AB (tC (.int 2)) AC)))))))))
noncomputable def QF:TS:=
 (AG (AJ (BW (AB (CK (AB (tC .non) (AB (AA 1) AC))) (AB (CK (AB (AA 1) (AB (AA 2) AC))) (AB (CK (AB (AA 1) (AB (tC .non) AC))) (AB (CK (AB (tC .non) (AB (AA 2) AC))) (AB (CK (AB (AA 2) (AB (tC .non) AC))) (AB (CK (AB (tC .non) (AB (tC .non) AC))) AC))))))) (AF 4))
  (QE K))
noncomputable def QG:TS:=
 (AG (AJ (AN (HF K) [] E0 (AB (AN (FG K) [] E0 (AB (BW (AB (tUn BS (tOp gT (AA 1) (tC (.int 0)))) (AB (tOp gT (AA 1) (tC (.int 1))) AC))) (AB (BW (AB (tUn BS (tOp gT (AA 2) (tC (.int 0)))) (AB (tOp gT (AA 2) (tC (.int 1))) AC))) AC))) (AB (CK (AB (tC (.int 1)) (AB (tC (.int 1)) AC))) AC))) (AF 3))
  (QF K))
noncomputable def Wz:TS:=
 (AG (AJ (AN (FF K) [] E0 (AB (tOp A9 (tOp Ac (tOp gT (AA 1) (tC (.int 0))) (tOp FR (tC (.int 10)) (tC (.int 9)))) (tOp gT (AA 1) (tC (.int 1)))) (AB (tOp Ac (tOp gT (AA 1) (tC (.int 1))) (tOp FR (tC (.int 10)) (tC (.int 9)))) AC))) (AF 2))
  (QG K))
noncomputable def W0:TS:=
 (AG (AJ (AN (Im K) [] E0 (AB (AA 0) (AB (tC (.bl false)) AC))) (AF 1))
  (Wz K))
noncomputable def QH:TS:=
 (AJ (AN (FG K) [] E0 (AB (AA 2) (AB (BW (AB (tUn BS (tOp gT (AA 5) (tC (.int 0)))) (AB (tOp gT (AA 5) (tC (.int 1))) AC))) AC))) (AF 2))
noncomputable def QJ:TS:=
 (AG (EZ (tBM K "list" Ef (AA 3) (AB (AA 5) AC)))
  (QH K))
noncomputable def QK:TS:=
 (AG (AJ (AN (Im K) [] E0 (AB (AA 1) (AB (tC (.bl false)) AC))) (AF 5))
  (QJ K))
noncomputable def QL:TS:=
 (AJ (AN (FG K) [] E0 (AB (AA 2) (AB (BW (AB (tOp A8 (tOp Ac (AA 7) (AA 7)) (AA 6)) (AB (tOp Ac (tUn BS (tC (.int 2))) (AA 7)) (AB (tC (.int 1)) AC)))) AC))) (AF 2))
noncomputable def QM:TS:=
 (AG (AJ (tOp JW (AA 3) (BW (AB (CK (AB (AA 7) (AB (AA 6) (AB (tC (.int 1)) AC)))) (AB (CK (AB (AA 7) (AB (AA 6) (AB (tUn BS (tC (.int 1))) AC)))) AC)))) (AF 3))
  (QL K))
noncomputable def QN:TS:=
 (AG (AJ (tOp A8 (AN (CG K) [] E0 (AB (AA 1) (AB (tC (.int 9)) AC))) (tC (.int 4))) (AF 7))
  (QM K))
noncomputable def QO:TS:=
 (AG (AJ (tOp gL (BW (AB (tC (.int 2)) (AB (tC (.int 3)) (AB (tC (.int 5)) (AB (tC (.int 6)) (AB (tC (.int 7)) (AB (tC (.int 10)) AC))))))) (AN (CG K) [] E0 (AB (AA 1) (AB (tC (.int 6)) AC)))) (AF 6))
  (QN K))
noncomputable def QP:TS:=
 (AJ (AN (FG K) [] E0 (AB (AA 2) (AB (BW (AB (tOp A9 (tOp A9 (tOp Ac (AA 7) (AA 7)) (tC (.int 1))) (AN (CG K) [] E0 (AB (AA 1) (AB (tC (.int 5)) AC)))) (AB (tOp Ac (tUn BS (tC (.int 2))) (AA 7)) (AB (tC (.int 1)) AC)))) AC))) (AF 2))
noncomputable def QQ:TS:=
 (AG (AJ (tOp A8 (AN (CG K) [] E0 (AB (AA 1) (AB (tC (.int 9)) AC))) (tC (.int 4))) (AF 7))
  (QP K))
noncomputable def QR:TS:=
 (A5 (tOr (Gb (tB (tCB Jn (AB (AA 14) (AB (tC (.ty "int")) AC))))) (tOr (tB (tCB Jn (AB (AA 14) (AB (tC (.ty "bool")) AC)))) (Ab (tOp rNe (AA 14) (AN (Kj K) [] E0 (AB (tCB Mq (AB (AA 9) AC)) (AB (AA 12) (AB (AA 13) AC)))))))) (AZ (tC (.bl false))) BA)
noncomputable def QS:TS:=
 (AG (AJ (AN (HI K) [] E0 (AB (AA 8) (AB (AA 12) (AB (AA 13) AC)))) (AF 14))
  (QR K))
noncomputable def QT:TS:=
 (AG (AJ (AN (Ki K) [] E0 (AB (AA 1) (AB (E8 (CD K (AA 3)) [none] (AF 0) (Ab (tOp rEq (tCB Hn (AB (AA 0) AC)) (tC (.int 2)))) (AA 0)) AC))) (D3 2 (CC (AF 12) (CC (AF 13) Dg))))
  (QS K))
noncomputable def W2 (_:W.Frag):TS:=
 (AZ (tC (.bl true)))
noncomputable def QU:TS:=
 (AG (BM (D2 (AB (tC (.int 3)) AC)) (AF 11) (QT K))
  (W2 K))
noncomputable def QV:TS:=
 (AG (BM (CD K (AA 3)) (AF 10) (AJ (tC (.bl true)) (EG (AA 9) (AA 10) Mo)))
  (QU K))
noncomputable def QW:TS:=
 (AG (AJ Mn (AF 9))
  (QV K))
noncomputable def Kt:TS:=
 (AG (AJ (AN (HF K) [] E0 (AB (AA 2) (AB (AN (Ij K) [] E0 (AB (AA 1) AC)) AC))) (AF 8))
  (QW K))
noncomputable def Ku:TS:=
 (AG (A5 (DT (Ab (tOp iLt (tCB BX (AB (AA 2) AC)) (tC (.int 5)))) (Ab (tOp rEq (AN (CG K) [] E0 (AB (AA 1) (AB (tC (.int 3)) AC))) (tC (.int 0))))) (AJ (AN (FG K) [] E0 (AB (AA 2) (AB (AA 2) AC))) (AF 2)) BA)
  (Kt K))
noncomputable def QX:TS:=
 (AG (A5 (DT (Ab (tOp rEq (AN (CG K) [] E0 (AB (AA 1) (AB (tC (.int 2)) AC))) (tC (.int 1)))) (Ab (tOp iLt (tCB BX (AB (AA 2) AC)) (tC (.int 8))))) (QQ K) BA)
  (Ku K))
noncomputable def QY:TS:=
 (AG (BM (D2 (AB (AN (CG K) [] E0 (AB (AA 1) (AB (tC (.int 3)) AC))) AC)) (AF 4) (QO K))
  (QX K))
noncomputable def QZ:TS:=
 (AG (BM (D2 (AB (AN (CG K) [] E0 (AB (AA 1) (AB (tC (.int 4)) AC))) AC)) (AF 4) (QK K))
  (QY K))
noncomputable def Qa:TS:=
 (AG (AJ (BW AC) (AF 3))
  (QZ K))
noncomputable def Qb:TS:=
 (AG (AJ (BW (AB (tC (.int 1)) AC)) (AF 2))
  (Qa K))
noncomputable def Qc:TS:=
 (AG (A5 (Ab (tOp rEq (AN (CG K) [] E0 (AB (AA 1) (AB (tC (.int 8)) AC))) (tC (.int 0)))) (AZ (AN (Kk K) [] E0 (AB (AA 1) AC))) BA)
  (Qb K))
noncomputable def W3:TS:=
 (AG (AJ (AN (Ii K) [] E0 (AB (AA 0) AC)) (AF 1))
  (Qc K))
end
variable {K:W.Frag} {vs:List V} {H:Hp} {Q:VK} {E:XK}
local macro_rules | `(tactic| rwa [$[$t:term],*]) => do
 let l : Array Lean.Term := (("AG AJ AN AB AA AC AF EG L2.start A5 tIf Ab L2.tB tOp rI0 rI L2.tC tUn rU BA AZ CK BW Ge DL EZ tCB SL DT tOr Gb JM Hf Rz rEq rNe DC A9 A8 Ac FQ T4 Cj MP FR iLt iLe iGt iGe BS gT gL gS E3 FS T5 Ja Hn BX T6 T8 T9 UA UB eqT UC UD UE UF List.map_cons List.map_nil List.length_cons List.length_nil List.replicate List.cons_append List.nil_append List.append_nil List.getElem?_cons_zero List.getElem?_cons_succ Option.some.injEq exists_eq_left' exists_eq_left V.int.injEq V.bl.injEq V.ref.injEq V.ty.injEq HO.tup.injEq HO.lst.injEq List.cons.injEq and_true true_and and_assoc exists_and_left List.set_cons_zero List.set_cons_succ decide_eq_true_eq decide_eq_false_iff_not Bool.not_eq_true' Bool.true_eq_false Bool.false_eq_true Bool.not_true Bool.not_false if_true if_false ite_true ite_false UM UN UH UI UJ UK UL UO UP Nat.zero_add Nat.reduceAdd Nat.reduceSub upd_same Int.cast_ofNat_Int decide_true decide_false eq_self not_true_eq_false not_false_eq_true Int.natCast_add Int.natCast_zero reduceCtorEq Nm D3 CC Dg Ev tSl Ed Ee sL sT Jc Uh FU E6 Ug F3 JW Ef JU JV tBM Gm UX UY UZ Ua Uc Uv Ut Ub Ul Um Ji Mb Jj GA GB FX Eh Jg GC Ck Option.bind_some Option.bind_none Option.bind Option.join id_eq sS Hv Jk Ej IU IV GN IW GO IX IY HB Fi HC IZ Ia GP GQ Ib Ic Id Ie Ig Ih HD HE Ik Il Ii CG FG HF Ij".splitOn " ").map λs => (⟨(Lean.mkIdent s.toName).raw⟩ : Lean.Term)).toArray
 `(tactic| simp only [$[$(l ++ t):term],*])
theorem Kv {x:Int} (h1:-1099511627776<x) (h2:x<1099511627776):Bd 40 x:=by
 show x.natAbs<1099511627776
 omega
theorem GS {a b:Int} (ha:Bd 60000000 a) (hb:Bd 60000000 b):IntMulOk a b:=U6 ha hb ∅
theorem Qd {a b:Int} (h1:-18446744073709551616<b) (h2:b<18446744073709551616):IntMulOk a b:=IntMulOk.of_right (intBits_le_64 ⋯ ⋯)
theorem EM {a b:Int} (h1:-18446744073709551616<a) (h2:a<18446744073709551616):IntMulOk a b:=IntMulOk.of_left (intBits_le_64 ⋯ ⋯)
theorem W4 (h:Ej K vs H Q E):OD K { nx:=λ_ H'=>Q .non H',rt:=Q } (L2.start ["one","other","rest"] vs) H:=by
 obtain ⟨a,b,rfl,q⟩:=h
 unfold OD
 rwa []
 refine Eg (λm σ H'=>∃ (x y:Int) (r:Option V),σ=[some (.int x),some (.int y),r]/\H'=H/\Int.gcd x y=Int.gcd a b/\m=y.natAbs) b.natAbs ⟨a,b,none,rfl,rfl,rfl,rfl⟩ ?_
 rintro m σ H' ⟨x,y,r,rfl,rfl,hg,rfl⟩
 rwa []
 refine AO (λc=>?_) (λc=>?_)
 ·refine ⟨λσ' H''=>∃ m',m'<y.natAbs/\_,λ_ _ h=>h,?_⟩
  refine ⟨c,_,T2 x c,y,x.fmod y,_,rfl,rfl,?_,rfl⟩
  rw [MN];exact hg
 ·have y0:y=0:=Decidable.not_not.mp c
  subst y0
  have e:(if x<0 then -x else x)=((Int.gcd a b:Nat):Int):=by
   rw [<-hg,Int.gcd_zero_right];split <;> omega
  rw [e];exact q
theorem W5 {ns:List Int} {k:Int} (h0:0<=k) (h:k<(ns.length:Int)):∃ v:Int,atI (ns.map V.int) k=some (.int v):=by
 have hk:k.toNat<ns.length:=by omega
 have ek:k=((k.toNat:Nat):Int):=by omega
 have q:atI (ns.map V.int) ((k.toNat:Nat):Int)=some (.int ns[k.toNat]):=Gk (by rw [Af,Am hk] <;> rfl)
 rw [<-ek] at q
 exact ⟨_,q⟩
theorem W6 (h:IU K vs H Q E):OE K { nx:=λ_ H'=>Q .non H',rt:=Q } (L2.start ["whole","n","result","square"] vs) H:=by
 obtain ⟨x,n,b,rfl,n0,bx,hb,q⟩:=h
 unfold OE
 rwa []
 have BP:∀ k:Nat,k<=n.toNat->Bd 60000000 (x ^ k):=λk hk=>(bx.pow k).mono (by
  have:=B6 b hk
  omega)
 refine Eg (λm σ H'=>∃ r s:Nat,σ=[some (.int x),some (.int (m:Int)),some (.int (x ^ r)),some (.int (x ^ s))]/\H'=H/\r+s*m=n.toNat) n.toNat ⟨0,1,?_,rfl,⋯⟩ ?_
 ·have e:((n.toNat:Nat):Int)=n:=by omega
  rw [e,Int.pow_zero,show x ^ 1=x by rw [Int.pow_succ,Int.pow_zero,Int.one_mul]]
 rintro m σ H' ⟨r,s,rfl,rfl,hm⟩
 rwa []
 refine AO (λc=>?_) (λc=>?_)
 ·have m1:1<=m:=by omega
  have sl:s<=s*m:=Fn s m1
  have d2:JZ (m:Int) 2:=⟨∅,(Ty ∅ ∅).mono ∅⟩
  have hm2:s*m=(s+s)*(m / 2)+s*(m % 2):=by
   have e:m=2*(m / 2)+m % 2:=(Nat.div_add_mod m 2).symm
   generalize m / 2=u at e ⊢
   generalize m % 2=v at e ⊢
   subst e
   rw [Nat.mul_add]
   congr 1
   rw [<-Nat.mul_assoc,Co s 2]
   congr 1
   omega
  have ed:((m:Int) / 2)=((m / 2:Nat):Int):=by omega
  rw [ed]
  refine ⟨λσ' H''=>∃ m',m'<m/\_,λ_ _ h=>h,?_⟩
  have fin:∀ r':Nat,r'+(s+s)*(m / 2)=n.toNat->JZ (m:Int) 2/\if 0<((m / 2:Nat):Int) then IntMulOk (x ^ s) (x ^ s)/\∃ m',m'<m/\∃ r s_1,[some (V.int x),some (V.int ((m / 2:Nat):Int)),some (V.int (x ^ r')),some (V.int (x ^ s*x ^ s))]=[some (V.int x),some (V.int (m':Int)),some (V.int (x ^ r)),some (V.int (x ^ s_1))]/\H'=H'/\r+s_1*m'=n.toNat
    else ∃ m',m'<m/\∃ r s_1,[some (V.int x),some (V.int ((m / 2:Nat):Int)),some (V.int (x ^ r')),some (V.int (x ^ s))]=[some (V.int x),some (V.int (m':Int)),some (V.int (x ^ r)),some (V.int (x ^ s_1))]/\H'=H'/\r+s_1*m'=n.toNat:=λr' hr'=>by
   refine ⟨d2,AO (λc2=>?_) (λc2=>?_)⟩
   ·exact ⟨GS (BP s ⋯) (BP s ⋯),m / 2,⋯,r',s+s,by rw [Int.pow_add],rfl,hr'⟩
   ·have z:m / 2=0:=by omega
    rw [z] at hr' ⊢
    exact ⟨0,⋯,r',s,rfl,rfl,⋯⟩
  refine ⟨∅,AO (λc2=>⟨GS (BP r ⋯) (BP s ⋯),?_⟩) (λc2=>?_)⟩
  ·rw [<-Int.pow_add]
   have e1:m % 2=1:=by omega
   rw [e1] at hm2
   exact fin (r+s) ⋯
  ·have e1:m % 2=0:=by omega
   rw [e1] at hm2
   exact fin r ⋯
 ·have z:m=0:=by omega
  subst z
  have e:r=n.toNat:=by omega
  subst e
  exact q
theorem W7 {l:List Nu} {i:Nat} {q:Nu} (h:l[i]?=some q):(l.take (i+1)).foldl (λB q=>B*(q.2 / ((Int.gcd B q.2:Nat):Int))) 1=(l.take i).foldl (λB q=>B*(q.2 / ((Int.gcd B q.2:Nat):Int))) 1*(q.2 / ((Int.gcd ((l.take i).foldl (λB q=>B*(q.2 / ((Int.gcd B q.2:Nat):Int))) 1) q.2:Nat):Int)):=by
 rw [DR,h,List.foldl_append]
 rfl
theorem Iq {α β:Type} {l:List α} {i:Nat} {q:α} (f:α->β) (h:l[i]?=some q):(l.take (i+1)).map f=(l.take i).map f++[f q]:=by
 rw [DR,h,Dv]
 rfl
theorem Cz (n:Nat) (f:Nat->Int):(AY n f).length=n:=by unfold AY;rw [AL,AL,Bm]
theorem CQ {n k:Nat} (f:Nat->Int) (h:k<n):(AY n f)[k]?=some (.int (f k)):=by
 unfold AY
 rw [Af,Af,DS h]
 rfl
theorem Ek {n k:Nat} {f g:Nat->Int} {z:Int} (h:k<n) (h1:g k=z) (h2:∀ i,i<n->i≠k->g i=f i):(AY n f).set k (.int z)=AY n g:=by
 apply EW
 intro i
 by_cases hi:i<n
 ·by_cases e:i=k
  ·subst e
   rw [List.getElem?_set_self (by rw [Cz];exact hi),CQ g hi,h1]
  ·rw [List.getElem?_set_ne (λz=>e z.symm),CQ f hi,CQ g hi,h2 i hi e]
 ·rw [Bv (by rw [List.length_set,Cz];omega),Bv (by rw [Cz];omega)]
theorem D7 {n:Nat} {f g:Nat->Int} (h:∀ i,i<n->g i=f i):AY n f=AY n g:=by
 apply EW
 intro i
 by_cases hi:i<n
 ·rw [CQ f hi,CQ g hi,h i hi]
 ·rw [Bv (by rw [Cz];omega),Bv (by rw [Cz];omega)]
theorem Kw (n:Nat):(List.replicate n [V.int 0]).flatten=AY n λ_=>0:=by
 rw [J9]
 apply EW
 intro i
 by_cases hi:i<n
 ·rw [CQ _ hi,FI,Zu hi]
 ·rw [FI,Zt hi,Bv (by rw [Cz];omega)]
theorem El {n k:Nat} {i:Int} (e:i=(k:Int)) (h:k<n):ixN n i=some k:=by
 subst e
 unfold ixN
 rw [Zu ⋯,Zu ⋯]
 simp
theorem Br {m n:Nat} {x y:Int} (hx:Bd m x) (hy:Bd n y) (hm:m<=60000000:=by decide) (hn:n<=60000000:=by decide):IntMulOk x y:=GS (hx.mono hm) (hy.mono hn)
theorem HK (ns:List Int) (m:Nat):C4 ns (m+1)=if ns.getD m 1=0 then C4 ns m else m+1:=rfl
theorem W8 (h:GN K vs H Q E):OG K { nx:=λ_ H'=>Q .non H',rt:=Q } (L2.start ["row","many"] vs) H:=by
 obtain ⟨p,ns,rfl,hp,q⟩:=h
 unfold OG
 rwa [hp]
 have fin:∀ m:Nat,m<=ns.length->C4 ns m=C4 ns ns.length->C4 ns m=m->∀ r,H r=none->Q (V.ref r) (upd H r (.lst (Cg (ns.map V.int) none (some (m:Int))))):=λm h1 h2 h3 r hr=>by
  rw [Vv (by rw [AL];exact h1),<-List.map_take,<-h3,h2]
  exact q r hr
 refine Eg (λm σ H'=>σ=[some (.ref p),some (.int (m:Int))]/\H'=H/\C4 ns m=C4 ns ns.length/\m<=ns.length) ns.length ⟨by rw [AL],rfl,rfl,AS _⟩ ?_
 rintro m σ H' ⟨rfl,rfl,ht,hm⟩
 rwa [hp]
 refine AO (λc=>?_) (λc=>?_)
 ·obtain ⟨k,rfl⟩:∃ k,m=k+1:=⟨m - 1,⋯⟩
  have hv:(ns.map V.int)[k]?=some (V.int (ns.getD k 1)):=by
   rw [Af,Am ⋯,AU,Am ⋯];rfl
  refine ⟨_,DP ⋯ hv,rfl,AO (λc2=>?_) (λc2=>?_)⟩
  ·have z:ns.getD k 1=0:=by injection c2
   rw [HK,Zu z] at ht
   exact ⟨λσ' H''=>∃ m',m'<k+1/\_,λ_ _ h=>h,k,⋯,by rw [show ((k+1:Nat):Int) - 1=(k:Int) by omega],rfl,ht,⋯⟩
  ·have z:ns.getD k 1≠0:=λz=>c2 (by rw [z])
   exact fin (k+1) hm ht (by rw [HK,Zt z])
 ·have z:m=0:=by omega
  subst z
  exact fin 0 hm ht rfl
theorem Kx (ns:List Int):∀ m,C4 ns m<=m
 | 0=>AS 0
 | m+1=>by
   rw [HK]
   split
   ·exact Nat.le_succ_of_le (Kx ns m)
   ·exact AS _
theorem Ky {ns:List Int}:(Cy ns).length=C4 ns ns.length:=by
 unfold Cy
 rw [Cm,Nat.min_eq_left (Kx ns ns.length)]
theorem Qe {ns:List Int} (k:Nat):(Cy ns).getD k 0=ns.getD k 0:=by
 have key:∀ (m:Nat),m<=ns.length->(∀ j,m<=j->j<ns.length->ns.getD j 0=0)->∀ j,C4 ns m<=j->j<ns.length->ns.getD j 0=0:=by
  intro m
  induction m with
  | zero=>intro _ h j hj1 hj2;exact h j ⋯ hj2
  | succ m ih=>
    intro hm h j h1 h2
    rw [HK] at h1
    split at h1
    ·rename_i z
     refine ih ⋯ (λj hj1 hj2=>?_) j h1 h2
     by_cases e:j=m
     ·subst e
      rw [AU,Am hj2] at z ⊢
      exact z
     ·exact h j ⋯ hj2
    ·exact h j h1 h2
 by_cases h1:k<C4 ns ns.length
 ·unfold Cy
  rw [AU,AU,List.getElem?_take_of_lt h1]
 ·have e:(Cy ns).getD k 0=0:=by
   rw [AU,Bv (by rw [Ky];omega)]
   rfl
  rw [e]
  by_cases h2:k<ns.length
  ·exact (key ns.length (AS _) (λj a b=>absurd b ⋯) k ⋯ h2).symm
  ·rw [AU,Bv ⋯]
   rfl
theorem W9 {ns:List Int} {g:Int} (h:∀ z∈ns,g∣z) (k:Nat):g∣ns.getD k 0:=by
 rw [AU]
 cases e:ns[k]? with
 | none=>exact C8 g
 | some z=>exact h z (Bu e)
theorem XA {m:List Nu} (hm:DN m) (nm:Nz m) (h1:1<=m.length):(BZ m).getD (m.length - 1) 0≠0:=by
 rw [VZ,M7]
 have hb:m.length - 1<m.length:=by omega
 have q:=nm m[m.length - 1] (by rw [List.getLast?_eq_getElem?];exact Am hb)
 have e:DW m (m.length - 1)=m[m.length - 1]:=by unfold DW;rw [AU,Am hb];rfl
 rw [e]
 refine CI q ?_
 have o:=FA hm
 have d:=o.2 m[m.length - 1] (Db hb)
 obtain ⟨y,hy⟩:=d
 have p0:=(hm m[m.length - 1] (Db hb)).pos
 rw [hy,Fo _ (Ah p0)]
 intro z
 rw [z,Int.mul_zero] at hy
 have:=o.1
 omega
theorem XB {xs:List V} {v:V} (h:1<=xs.length) (e:xs[xs.length - 1]?=some v):atI xs (-1)=some v:=by
 unfold atI ixN
 rw [Zt ∅,Zu ⋯,show (-1+(xs.length:Int)).toNat=xs.length - 1 by omega]
 exact e
theorem XC (h:HD K vs H Q E):O0 K { nx:=λ_ H'=>Q .non H',rt:=Q } (L2.start ["top","bottom","shared"] vs) H:=by
 obtain ⟨a,b,rfl,hb,q⟩:=h
 unfold O0
 rwa []
 have go:∀ s:Int,(s=if b<0 then -((Int.gcd a b:Nat):Int) else ((Int.gcd a b:Nat):Int))->GC a s/\GC b s/\2<=sizeLine/\∀ (p:Addr),H p=none->Q (V.ref p) (upd H p (.tup [.int (a.fdiv s),.int (b.fdiv s)])):=λs hs=>by
  obtain ⟨h1,h2,h3,h4,h5,h6⟩:=Hm hb hs
  have e:AT a b=(a.fdiv s,b.fdiv s):=by
   refine IA (D5 hb) h3 ?_
   rw [GD hb,Hz (q:=(a.fdiv s,b.fdiv s)) (Ah h3.pos) hb h4]
  rw [e] at q
  exact ⟨h1,h1,sz ∅,q⟩
 refine AO (λc=>?_) (λc=>?_)
 ·exact go _ (by rw [Zu c])
 ·exact go _ (by rw [Zt c])
theorem XD (h:HE K vs H Q E):O1 K { nx:=λ_ H'=>Q .non H',rt:=Q } (L2.start ["P","bottom","number"] vs) H:=by
 obtain ⟨p,xs,l,M,rfl,hp,hN,hL,hO,bM,hB,hl,q⟩:=h
 unfold O1
 rwa [hp]
 have lx:=hN.length
 have B0:=(FA hL).1
 have BB:=IC (Ah hO.1) (M9 hL hO) bM
 have qb:∀ q∈l,Bd 400000 q.2:=λq hq=>IC (Ah hO.1) (hO.2 q hq) bM
 refine ⟨⟨_,SqT.of hp⟩,ForT.by (xs:=xs) (λi σ H'=>∃ x,σ=[some (.ref p),some (.int ((l.take i).foldl (λB q=>B*(q.2 / ((Int.gcd B q.2:Nat):Int))) 1)),x]/\H'=H) ⟨none,rfl,rfl⟩ ?_ ?_ ?_⟩
 ·rintro i σ H' _ ⟨x,rfl,rfl⟩
  exact hp
 ·rintro i x σ H' hi ⟨y,rfl,rfl⟩
  obtain ⟨z,hz,p1,rfl,hp1⟩:=hN.get hi
  have zl:=hL z (Bu hz)
  have zb:=qb z (Bu hz)
  obtain ⟨f1,f3⟩:=Ju (M:=M) (l.take i) 1 (λq hq=>⟨(hL q (List.mem_of_mem_take hq)).pos,hO.2 q (List.mem_of_mem_take hq)⟩) ∅ (Int.one_dvd M)
  have f4:=IC (Ah hO.1) f3 bM
  obtain ⟨s1,_,_,s4,s5,s6⟩:=Js f1 zl.pos
  rwa [hp1]
  refine ⟨s5,Br f4 (zb.le s4),?_,_,rfl⟩
  rw [W7 hz]
 ·rintro σ H' ⟨x,rfl,rfl⟩
  rw [lx,C7]
  rwa [hp]
  refine ⟨⟨_,SqT.of hp⟩,CompJ.tup (xs:=xs) (λi ys H''=>i<=xs.length/\ys=((BZ l).take i).map V.int/\H''=H') ⟨AV _,rfl,rfl⟩ ?_ ?_ ?_⟩
  ·rintro i ys H'' ⟨h1,rfl,rfl⟩
   refine ⟨h1,sz ?_,hp⟩
   rw [AL,Cm];omega
  ·rintro i x ys H'' hi ⟨h1,rfl,rfl⟩
   obtain ⟨z,hz,p1,rfl,hp1⟩:=hN.get hi
   have zl:=hL z (Bu hz)
   have zb:=qb z (Bu hz)
   have zn:=hB z (Bu hz)
   have hi2:i<xs.length:=(Bp.mp hi).1
   rwa [hp1]
   have eB:l.foldl (λB q=>B*(q.2 / ((Int.gcd B q.2:Nat):Int))) 1=Bh l:=rfl
   rw [eB]
   have cz:(BZ l)[i]?=some (z.1*(Bh l / z.2)):=by unfold BZ;rw [Af,hz];rfl
   refine ⟨zl.pos,Br zn (BB.le (VV B0 zl.pos)),⋯,?_⟩
   rw [Iq V.int cz]
  ·rintro ys H'' ⟨_,rfl,rfl⟩ a ha
   refine ⟨sz ∅,λr hr=>?_⟩
   have e:(BZ l).take xs.length=BZ l:=by
    rw [lx,show l.length=(BZ l).length by unfold BZ;rw [AL],C7]
   rw [e] at hr ⊢
   have s:=(AR ha (.lst ((BZ l).map V.int))).trans (AR hr (.tup [.ref a,.int (Bh l)]))
   exact q r a _ s upd_same (AR hr _ _ _ upd_same)
theorem XE {b:Nat} {l:List Nu} {M:Int} (hl:DN l) (h:Ov l M) (hb:∀ z∈ovN l M,Bd b z):∀ q∈l,Bd b q.1:=λq hq=>by
 refine (hb (q.1*(M / q.2)) (Bc.mpr ⟨q,hq,rfl⟩)).le ?_
 rw [BI]
 obtain ⟨y,hy⟩:=h.2 q hq
 have p0:=(hl q hq).pos
 have m0:=h.1
 have:M / q.2=y:=by rw [hy,Fo _ (Ah p0)]
 rw [this]
 refine Fn _ ?_
 rcases DH y.natAbs with z | z
 ·have y0:y=0:=by omega
  rw [y0] at hy;omega
 ·exact z
theorem Ir {g f:List Int} (lg:Lz g) (lf:Lz f) (mq:MQ (co g) (co f)):g.length<=f.length:=by
 obtain ⟨c,c0,A,hA⟩:=mq
 rcases BG f.length g.length with y | y
 ·exfalso
  rcases EJ A with z | ⟨B,lB,_,eB⟩
  ·have:c*co f (f.length - 1)=0:=by rw [hA,Bx,FE g z]
   rcases Int.mul_eq_zero.mp this with e | e
   ·exact c0 e
   ·exact lf.2 e
  ·have hB:∀ k,c*co f k=cvL B (co g) k:=λk=>by rw [hA,Bx,BK (λj=>(eB j).symm) g k,<-Bx]
   have b0:=lB.1
   have g0:=lg.1
   have ne:B≠[]:=De.mp b0
   obtain ⟨X,t,hX⟩:∃ X t,B=X++[t]:=⟨B.dropLast,B.getLast ne,(FK ne).symm⟩
   have tl:X.length=B.length - 1:=by rw [hX];simp
   have tc:co B (B.length - 1)=t:=by rw [<-tl,hX];unfold co;simp [AU]
   have e:=hB (B.length - 1+(g.length - 1))
   rw [AX ⋯,hX,DY,<-hX,Dq (n:=g.length) (λi hi=>AX hi) X _ ⋯] at e
   unfold Av at e
   rw [Zu ⋯,show B.length - 1+(g.length - 1) - X.length=g.length - 1 by omega] at e
   have e2:t*co g (g.length - 1)=0:=by omega
   rcases Int.mul_eq_zero.mp e2 with x | x
   ·exact lB.2 (tc.trans x)
   ·exact lg.2 x
 ·exact y
theorem php:∀ (m n:Nat) (f:Nat->Nat),(∀ i,i<n->f i<m)->m<n->∃ i j,i<j/\j<n/\f i=f j
 | 0,n,f,h,hn=>absurd (h 0 hn) (Nat.not_lt_zero _)
 | m+1,n,f,h,hn=>by
   obtain ⟨n,rfl⟩:∃ k,n=k+1:=⟨n - 1,⋯⟩
   by_cases c:∃ i,i<n/\f i=f n
   ·obtain ⟨i,hi,e⟩:=c
    exact ⟨i,n,hi,⋯,e⟩
   ·have c:∀ i,i<n->f i≠f n:=λi hi e=>c ⟨i,hi,e⟩
    have hv:=h n ⋯
    obtain ⟨i,j,hij,hj,e⟩:=php m n (λi=>if f n<f i then f i - 1 else f i) (λi hi=>by
     have h1:=h i ⋯
     have h2:=c i hi
     show (if f n<f i then f i - 1 else f i)<m
     split <;> omega) ⋯
    refine ⟨i,j,hij,⋯,?_⟩
    have c1:=c i ⋯
    have c2:=c j hj
    have e:(if f n<f i then f i - 1 else f i)=(if f n<f j then f j - 1 else f j):=e
    split at e <;> split at e <;> omega
noncomputable def enc (M:Nat):Nat->(Nat->Nat)->Nat
 | 0,_=>0
 | N+1,e=>e 0+M*enc M N (λk=>e (k+1))
theorem Kz {M:Nat}:∀ (N:Nat) (e:Nat->Nat),(∀ k,k<N->e k<M)->enc M N e<M ^ N
 | 0,_,_=>Nat.one_pos
 | N+1,e,h=>by
   have h1:=Kz N (λk=>e (k+1)) (λk hk=>h (k+1) ⋯)
   have h0:=h 0 ⋯
   show e 0+M*enc M N (λk=>e (k+1))<M ^ (N+1)
   have h2:M*(enc M N (λk=>e (k+1))+1)<=M*M ^ N:=B6 M h1
   rw [B5,Co (M ^ N)]
   rw [Nat.mul_add,Nat.mul_one] at h2
   omega
theorem K1 {M a b x y:Nat} (ha:a<M) (hb:b<M) (h:a+M*x=b+M*y):a=b/\x=y:=by
 have h1:(a+M*x) % M=a:=by rw [Nat.add_mul_mod_self_left,Nat.mod_eq_of_lt ha]
 have h2:(b+M*y) % M=b:=by rw [Nat.add_mul_mod_self_left,Nat.mod_eq_of_lt hb]
 have e:a=b:=by rw [<-h1,h,h2]
 subst e
 exact ⟨rfl,Nat.eq_of_mul_eq_mul_left ⋯ (Nat.add_left_cancel h)⟩
theorem K2 {M:Nat}:∀ (N:Nat) (e e':Nat->Nat),(∀ k,k<N->e k<M)->(∀ k,k<N->e' k<M)->enc M N e=enc M N e'->∀ k,k<N->e k=e' k
 | 0,_,_,_,_,_,k,hk=>absurd hk (Nat.not_lt_zero _)
 | N+1,e,e',h,h',q,k,hk=>by
   obtain ⟨q1,q2⟩:=K1 (h 0 ⋯) (h' 0 ⋯) q
   cases k with
   | zero=>exact q1
   | succ k=>exact K2 N _ _ (λk hk=>h (k+1) ⋯) (λk hk=>h' (k+1) ⋯) q2 k ⋯
noncomputable def digs (p:Nat):Nat->Nat->List Int
 | 0,_=>[]
 | N+1,t=>((t % p:Nat):Int)::digs p N (t / p)
theorem HL (p:Nat):∀ (N t:Nat),(digs p N t).length=N
 | 0,_=>rfl
 | N+1,t=>by show (digs p N (t / p)).length+1=N+1;rw [HL p N]
theorem HM {p:Nat} (p0:0<p):∀ (N t:Nat),∀ z∈digs p N t,0<=z/\z<(p:Int)
 | 0,_,z,h=>by cases h
 | N+1,t,z,h=>by
   rcases Bb.mp h with rfl | h
   ·have:=Nat.mod_lt t p0;omega
   ·exact HM p0 N _ z h
theorem K3 {p:Nat} (p0:0<p):∀ (N t s:Nat),t<p ^ N->s<p ^ N->digs p N t=digs p N s->t=s
 | 0,t,s,h1,h2,_=>by rw [Nat.pow_zero] at h1 h2;omega
 | N+1,t,s,h1,h2,h=>by
   injection h with a b
   rw [B5,Co] at h1 h2
   have:=K3 p0 N (t / p) (s / p) (Nat.div_lt_of_lt_mul h1) (Nat.div_lt_of_lt_mul h2) b
   have e1:=Nat.div_add_mod t p
   have e2:=Nat.div_add_mod s p
   have a:t % p=s % p:=by exact_mod_cast a
   rw [<-e1,<-e2,this,a]
theorem HN {g:Nat->Int} {h q:Nat} (hg:∀ k,(g k).natAbs<=h):∀ (a:List Int),(∀ z∈a,z.natAbs<=q)->∀ k,(cvL a g k).natAbs<=a.length*(q*h)
 | [],_,k=>by show (0:Int).natAbs<=_;simp
 | x::a,ha,0=>by
   rw [Ar]
   have h1:(x*g 0).natAbs<=q*h:=by rw [BI];exact EC (ha x (BC ..)) (hg 0)
   have:(x::a).length*(q*h)=a.length*(q*h)+q*h:=by rw [Cr,DJ,Nat.one_mul]
   omega
 | x::a,ha,k+1=>by
   rw [Ak]
   have h1:(x*g (k+1)).natAbs<=q*h:=by rw [BI];exact EC (ha x (BC ..)) (hg (k+1))
   have h2:=HN hg a (λz hz=>ha z (BN _ hz)) k
   have:(x::a).length*(q*h)=a.length*(q*h)+q*h:=by rw [Cr,DJ,Nat.one_mul]
   omega
theorem Qf {A B u v:List Int} (lA:Lz A) (lB:Lz B) (q:QI (co A) (co B) AW) (hu:u.length<B.length) (hv:v.length<A.length) (h:∀ k,cvL u (co A) k+cvL v (co B) k=0):(∀ k,co u k=0)/\∀ k,co v k=0:=by
 obtain ⟨d,d0,U,V,hd⟩:=q
 have half:∀ {A B u v U V:List Int},Lz B->(∀ k,d*AW k=cvL U (co A) k+cvL V (co B) k)->u.length<B.length->(∀ k,cvL u (co A) k+cvL v (co B) k=0)->∀ k,co u k=0:=λ{A B u v U V} lB hd hu h=>by
  rcases EJ u with z | ⟨f,lf,fl,ef⟩
  ·exact z
  ·exfalso
   have mq:MQ (co B) (co f):=by
    refine ⟨d,d0,Ae (Au V u) ((Au U v).map ((-1)*·)),λk=>?_⟩
    rw [BT,A6,B4,B4,ef k,Bw u k,<-DX,BK hd,GE,GF (co A) u U,GF (co B) u V]
    have e:cvL U (cvL u (co A)) k = - cvL U (cvL v (co B)) k:=by
     have:cvL U (cvL u (co A)) k+cvL U (cvL v (co B)) k=0:=by rw [<-GE];exact FE U h k
     omega
    rw [e];omega
   have:=Ir lB lf mq
   omega
 exact ⟨half lB hd hu h,half (A:=B) (B:=A) (u:=v) (v:=u) (U:=V) (V:=U) lA (λk=>by rw [hd k];omega) hv (λk=>by have:=h k;omega)⟩
theorem Em {a b:Int} (h:a=b):a∣b:=by rw [h];exact Int.dvd_refl b
theorem cvD {p:Int} {f g:Nat->Int} {S:List Int} (h:∀ k,p∣f k - cvL S g k):∀ (a:List Int) (k:Nat),p∣cvL a f k - cvL a (cvL S g) k
 | [],k=>by show p∣(0:Int) - 0;simp
 | x::a,0=>by
   rw [Ar,Ar]
   have:=Cq (h 0) (Int.dvd_mul_left x _)
   rw [Int.mul_sub] at this
   refine Cq this (Em ?_)
   omega
 | x::a,k+1=>by
   rw [Ak,Ak]
   have h1:=Cq (h (k+1)) (Int.dvd_mul_left x _)
   have h2:=cvD h a k
   rw [Int.mul_sub] at h1
   have:=C6 h1 h2
   refine Cq this (Em ?_)
   omega
theorem HP:∀ (a b:List Int),(Ae a b).length=max a.length b.length
 | [],b=>by show b.length=max 0 b.length;omega
 | a,[]=>by rw [ID];show a.length=max a.length 0;omega
 | x::a,y::b=>by
   show (Ae a b).length+1=max (a.length+1) (b.length+1)
   rw [HP a b];omega
theorem Iu {a b:List Int} (hl:a.length=b.length) (h:∀ k,co a k=co b k):a=b:=by
 refine List.ext_getElem hl λi h1 h2=>?_
 have:=h i
 unfold co at this
 rwa [AU,AU,Am h1,Am h2] at this
theorem lucky {A B G:List Int} {p b:Nat} (hp:Pr p) (lA:Lz A) (lB:Lz B) (q:QI (co A) (co B) AW) (hA:∀ k,Bd b (co A k)) (hB:∀ k,Bd b (co B k)) (n1:2<=A.length) (m1:2<=B.length) (g2:2<=G.length) (g1:¬ (p:Int)∣co G (G.length - 1)) (dA:Dm (p:Int) (co G) (co A)) (dB:Dm (p:Int) (co G) (co B))
  (big:(2*((A.length+B.length)*2 ^ b)) ^ (A.length+B.length - 2)<p):False:=by
 have p2:=hp.two
 have p0:0<p:=by omega
 generalize hn:A.length - 1=n at *
 generalize hm:B.length - 1=m at *
 generalize hE:(A.length+B.length)*2 ^ b=E at *
 have N1:A.length+B.length - 2=n+m:=by omega
 rw [N1] at big
 have hAn:∀ k,(co A k).natAbs<=2 ^ b:=λk=>C1 (hA k)
 have hBn:∀ k,(co B k).natAbs<=2 ^ b:=λk=>C1 (hB k)
 have E0:0<E:=by rw [<-hE];exact Nat.mul_pos ⋯ (Bf ∅)
 obtain ⟨u,hu⟩:∃ u:Nat->List Int,∀ t,u t=(digs p (m+n) t).take m:=⟨_,λ_=>rfl⟩
 obtain ⟨v,hv⟩:∃ v:Nat->List Int,∀ t,v t=(digs p (m+n) t).drop m:=⟨_,λ_=>rfl⟩
 obtain ⟨f,hf⟩:∃ f:Nat->Nat->Int,∀ t k,f t k=cvL (u t) (co A) k+cvL (v t) (co B) k:=⟨_,λ_ _=>rfl⟩
 have ul:∀ t,(u t).length=m:=λt=>by rw [hu,Cm,HL];omega
 have vl:∀ t,(v t).length=n:=λt=>by rw [hv,List.length_drop,HL];omega
 have uz:∀ t,∀ z∈u t,0<=z/\z<(p:Int):=λt z hz=>HM p0 _ t z (List.mem_of_mem_take (hu t ▸ hz))
 have vz:∀ t,∀ z∈v t,0<=z/\z<(p:Int):=λt z hz=>HM p0 _ t z (List.mem_of_mem_drop (hv t ▸ hz))
 have fb:∀ t k,(f t k).natAbs<E*p:=λt k=>by
  have h1:=HN (q:=p - 1) hAn (u t) (λz hz=>by have:=uz t z hz;omega) k
  have h2:=HN (q:=p - 1) hBn (v t) (λz hz=>by have:=vz t z hz;omega) k
  rw [ul] at h1
  rw [vl] at h2
  have h3:(f t k).natAbs<=(m+n)*((p - 1)*2 ^ b):=by
   rw [DJ,hf]
   omega
  refine DG h3 ?_
  rw [<-hE]
  have e:(m+n)*((p - 1)*2 ^ b)=((m+n)*2 ^ b)*(p - 1):=by rw [Co (p - 1),Nat.mul_assoc]
  rw [e]
  exact CO (Nat.mul_lt_mul_of_pos_left ⋯ (Nat.mul_pos ⋯ (Bf ∅))) (CP p (CP _ ⋯))
 obtain ⟨e0,he0⟩:∃ e0:Nat->Nat,∀ t,e0 t=(f t 0 / (p:Int)+(E:Int)).toNat:=⟨_,λ_=>rfl⟩
 obtain ⟨ek,hek⟩:∃ ek:Nat->Nat->Nat,∀ t k,ek t k=(f t (k+1)+((E*p:Nat):Int)).toNat:=⟨_,λ_ _=>rfl⟩
 have e0r:∀ t,0<=f t 0 / (p:Int)+(E:Int)/\f t 0 / (p:Int)+(E:Int)<2*(E:Int):=λt=>by
  have h:=fb t 0
  have h1:-((E:Int)*(p:Int))<=f t 0:=by have:((E*p:Nat):Int)=(E:Int)*(p:Int):=by push_cast;rfl
                                        omega
  have h2:f t 0<(E:Int)*(p:Int):=by have:((E*p:Nat):Int)=(E:Int)*(p:Int):=by push_cast;rfl
                                    omega
  have q1:-(E:Int)<=f t 0 / (p:Int):=by
   refine (Int.le_ediv_iff_mul_le ⋯).mpr ?_
   rw [Dd];exact h1
  have q2:f t 0 / (p:Int)<(E:Int):=Int.ediv_lt_of_lt_mul ⋯ h2
  omega
 have ekr:∀ t k,0<=f t (k+1)+((E*p:Nat):Int)/\f t (k+1)+((E*p:Nat):Int)<2*((E*p:Nat):Int):=λt k=>by
  have h:=fb t (k+1)
  omega
 have e0l:∀ t,e0 t<2*E:=λt=>by have:=e0r t;rw [he0];omega
 have ekl:∀ t k,ek t k<2*(E*p):=λt k=>by have:=ekr t k;rw [hek];omega
 have cl:∀ t,e0 t+2*E*enc (2*(E*p)) (m+n - 1) (ek t)<2*E*(2*(E*p)) ^ (m+n - 1):=λt=>by
  have h1:=Kz (M:=2*(E*p)) (m+n - 1) (ek t) (λk _=>ekl t k)
  have h2:2*E*(enc (2*(E*p)) (m+n - 1) (ek t)+1)<=2*E*(2*(E*p)) ^ (m+n - 1):=B6 _ h1
  have h3:=e0l t
  rw [Nat.mul_add,Nat.mul_one] at h2
  omega
 have room:2*E*(2*(E*p)) ^ (m+n - 1)<p ^ (m+n):=by
  obtain ⟨N,hN⟩:∃ N,m+n=N+1:=⟨m+n - 1,⋯⟩
  rw [hN,Nat.add_sub_cancel]
  rw [Nat.add_comm n m,hN] at big
  have e:2*E*(2*(E*p)) ^ N=(2*E) ^ (N+1)*p ^ N:=by
   rw [<-Nat.mul_assoc 2 E p,Nat.mul_pow (2*E) p N,B5,Co ((2*E) ^ N) (2*E),Nat.mul_assoc (2*E)]
  rw [e,B5 p,Co (p ^ N) p]
  exact Nat.mul_lt_mul_of_pos_right big (Bf p0)
 obtain ⟨s,t,st,ht,e⟩:=php _ _ _ (λi _=>cl i) room
 obtain ⟨q0,q1⟩:=K1 (e0l s) (e0l t) e
 have qk:=K2 (m+n - 1) _ _ (λk _=>ekl s k) (λk _=>ekl t k) q1
 have w0:∀ k,(co (u s) k - co (u t) k)=co (Ae (u s) ((u t).map ((-1)*·))) k:=λk=>by rw [Bw,Bw,Bw,BT,A6];omega
 have df:∀ k,f s k - f t k=cvL (Ae (u s) ((u t).map ((-1)*·))) (co A) k+cvL (Ae (v s) ((v t).map ((-1)*·))) (co B) k:=λk=>by
  rw [BT,BT,A6,A6,hf,hf]
  omega
 have hi:∀ k,0<k->f s k - f t k=0:=λk hk=>by
  rcases BG k (m+n) with c | c
  ·have:=qk (k - 1) ⋯
   have r1:=ekr s (k - 1)
   have r2:=ekr t (k - 1)
   rw [hek,hek,show k - 1+1=k by omega] at this
   rw [show k - 1+1=k by omega] at r1 r2
   omega
  ·have z:∀ t,f t k=0:=λt=>by
    rw [hf,Dq (n:=A.length) (λi hi=>AX hi) (u t) k (by rw [ul];omega),Dq (n:=B.length) (λi hi=>AX hi) (v t) k (by rw [vl];omega)];rfl
   rw [z,z];rfl
 have d0:(f s 0 - f t 0).natAbs<p:=by
  have r1:=e0r s
  have r2:=e0r t
  rw [he0,he0] at q0
  have q0:f s 0 / (p:Int)=f t 0 / (p:Int):=by omega
  have m1:=Es (f s 0) p
  have m2:=Es (f t 0) p
  have b1:=CM (f s 0) (show (p:Int)≠0 by omega)
  have b2:=CT (f s 0) (show (0:Int)<p by omega)
  have b3:=CM (f t 0) (show (p:Int)≠0 by omega)
  have b4:=CT (f t 0) (show (0:Int)<p by omega)
  rw [q0] at m1
  omega
 have dm:Dm (p:Int) (co G) (co [f s 0 - f t 0]):=by
  obtain ⟨SA,hSA⟩:=dA
  obtain ⟨SB,hSB⟩:=dB
  refine ⟨Ae (Au (Ae (u s) ((u t).map ((-1)*·))) SA) (Au (Ae (v s) ((v t).map ((-1)*·))) SB),λk=>?_⟩
  have e:co [f s 0 - f t 0] k=f s k - f t k:=by
   cases k with
   | zero=>rfl
   | succ k=>rw [hi (k+1) ⋯];exact AX (by simp)
  rw [e,df,BT (co G),B4,B4]
  have h1:=cvD (p:=(p:Int)) hSA (Ae (u s) ((u t).map ((-1)*·))) k
  have h2:=cvD (p:=(p:Int)) hSB (Ae (v s) ((v t).map ((-1)*·))) k
  have:=C6 h1 h2
  refine Cq this (Em ?_)
  omega
 have z0:f s 0 - f t 0=0:=by
  by_cases c:(p:Int)∣f s 0 - f t 0
  ·obtain ⟨y,hy⟩:=c
   rcases Int.lt_trichotomy y 0 with z | z | z
   ·have:(p:Int)*y<=(p:Int)*(-1):=EV ⋯ ⋯
    omega
   ·rw [hy,z];omega
   ·have:(p:Int)*1<=(p:Int)*y:=EV ⋯ ⋯
    omega
  ·exfalso
   have:=Dm.len hp ⋯ g1 dm ⟨0,c⟩
   simp at this
   omega
 have all:∀ k,cvL (Ae (u s) ((u t).map ((-1)*·))) (co A) k+cvL (Ae (v s) ((v t).map ((-1)*·))) (co B) k=0:=λk=>by
  rw [<-df]
  cases k with
  | zero=>exact z0
  | succ k=>exact hi (k+1) ⋯
 have ll:∀ {a c:List Int} {x:Nat},a.length=x->c.length=x->(Ae a (c.map ((-1)*·))).length=x:=λ{a c x} h1 h2=>by
  rw [HP,AL,h1,h2];omega
 obtain ⟨c1,c2⟩:=Qf lA lB q (by rw [ll (ul s) (ul t)];omega) (by rw [ll (vl s) (vl t)];omega) all
 have eu:u s=u t:=Iu (by rw [ul,ul]) λk=>by have:=c1 k;rw [<-w0] at this;omega
 have ev:v s=v t:=Iu (by rw [vl,vl]) λk=>by
  have:=c2 k
  rw [Bw,BT,A6,<-Bw,<-Bw] at this;omega
 have:digs p (m+n) s=digs p (m+n) t:=by
  rw [<-List.take_append_drop m (digs p (m+n) s),<-List.take_append_drop m (digs p (m+n) t)]
  rw [<-hu,<-hv,<-hu,<-hv,eu,ev]
 have:=K3 p0 _ _ _ ⋯ ⋯ this
 omega
theorem Qg:∀ (ts l:List Int),ts.Nodup->(∀ t∈ts,evI l t=0)->l.length<=ts.length->∀ k,co l k=0
 | [],l,_,_,h,k=>AX (by have:l.length=0:=by simpa using h
                        omega)
 | t::ts,l,nd,hr,hl,k=>by
   have nd':=List.nodup_cons.mp nd
   have e0:=hr t (BC ..)
   have sd:co (syn l t) ((syn l t).length - 1)=0:=by rw [IH];exact Vt l t
   have cd:=J0 sd
   have z:∀ k,co (syn l t) k=0:=λk=>by
    rw [<-cd k]
    refine Qg ts (syn l t).dropLast nd'.2 (λx hx=>?_) (by rw [List.length_dropLast,IH];simp at hl;omega) k
    rw [J7 _ _ x cd]
    have h1:=J8 l t x
    rw [hr x (BN _ hx),e0] at h1
    have ne:x - t≠0:=λq=>nd'.1 (by have:x=t:=by omega
                                   rw [<-this];exact hx)
    have h1:(x - t)*evI (syn l t) x=0:=by omega
    rcases Int.mul_eq_zero.mp h1 with q | q
    ·exact absurd q ne
    ·exact q
   rw [II l t k,z k]
   split
   ·rw [e0];omega
   ·rw [z (k - 1)];omega
theorem XF (n:Nat):((List.range (2*n+1)).map λi:Nat=>(i:Int) - (n:Int)).Nodup:=by
 unfold List.Nodup
 rw [List.pairwise_map]
 exact (List.nodup_range (n:=2*n+1)).imp λh q=>h ⋯
theorem Qh (f:Int->Bool):∀ P:List Int,(P.filter f).length+(P.filter λx=>!f x).length=P.length
 | []=>rfl
 | x::P=>by
   have:=Qh f P
   rw [List.filter_cons,List.filter_cons,Cr]
   cases f x
   ·simp;omega
   ·simp;omega
theorem XG {r:List Int} {n:Nat} (r0:∃ k,co r k≠0) (rl:r.length<=n):∃ x:Nat->Int,(∀ i,i<=n->evI r (x i)≠0/\(x i).natAbs<=n)/\∀ i j,i<=n->j<=n->i≠j->x i≠x j:=by
 let P:List Int:=(List.range (2*n+1)).map λi:Nat=>(i:Int) - (n:Int)
 have pl:P.length=2*n+1:=by show ((List.range (2*n+1)).map λi:Nat=>(i:Int) - (n:Int)).length=_;rw [AL,Bm]
 have pn:P.Nodup:=XF n
 have pr:∀ x∈P,x.natAbs<=n:=λx hx=>by
  obtain ⟨i,hi,rfl⟩:=Bc.mp hx
  have:=ER.mp hi
  omega
 have parts:(P.filter λx=>decide (evI r x=0)).length+(P.filter λx=>!decide (evI r x=0)).length=P.length:=by
  exact Qh _ P
 have few:(P.filter λx=>decide (evI r x=0)).length<r.length:=by
  rcases BG (P.filter λx=>decide (evI r x=0)).length r.length with c | c
  ·exact c
  ·exfalso
   obtain ⟨k,hk⟩:=r0
   exact hk (Qg _ r (pn.filter _) (λt ht=>by simpa using (List.mem_filter.mp ht).2) c k)
 let Gd:=P.filter λx=>!decide (evI r x=0)
 have gl:n+1<=Gd.length:=by
  show n+1<=(P.filter λx=>!decide (evI r x=0)).length
  omega
 have gn:Gd.Nodup:=pn.filter _
 refine ⟨λi=>Gd.getD i 0,λi hi=>?_,λi j hi hj hij e=>?_⟩
 ·have hlt:i<Gd.length:=by omega
  have e:Gd.getD i 0=Gd[i]:=by rw [AU,Am hlt];rfl
  show evI r (Gd.getD i 0)≠0/\(Gd.getD i 0).natAbs<=n
  rw [e]
  have m:=List.mem_filter.mp (Db hlt)
  exact ⟨by simpa using m.2,pr _ m.1⟩
 ·have h1:i<Gd.length:=by omega
  have h2:j<Gd.length:=by omega
  have e:Gd.getD i 0=Gd.getD j 0:=e
  rw [AU,AU,Am h1,Am h2] at e
  have e:Gd[i]=Gd[j]:=e
  have pw:=List.pairwise_iff_getElem.mp gn
  rcases Nat.lt_or_gt_of_ne hij with q | q
  ·exact pw i j h1 h2 q e
  ·exact pw j i h2 h1 q e.symm
theorem K4 {b n c:Nat} {r g A:List Int} (hr:∀ z∈r,Bd b z) (r0:∃ k,co r k≠0) (rl:r.length<=n) (gl:g.length<=n) (hn:n<2 ^ c) (hA:∀ k,co r k=cvL A (co g) k):∀ k,Bd (b+n*(2*c+4)) (co g k):=by
 by_cases g0:g.length=0
 ·intro k;rw [AX ⋯];exact FY _
 obtain ⟨x,hx,xi⟩:=XG r0 rl
 have bx:∀ i,i<=n->Bd c (x i):=λi hi=>by
  show (x i).natAbs<2 ^ c
  have:=(hx i hi).2
  omega
 intro k
 have:=interp (c:=c) (g.length - 1) g (b+n*(c+1)) x (λk hk=>AX ⋯) (λi hi=>bx i ⋯) (λi j hi hj hij=>xi i j ⋯ ⋯ hij) (λi hi=>by
  have ne:=(hx i ⋯).1
  have e:=Vs hA (x i)
  have bd:=NI (bx i ⋯) r hr
  have le:(evI g (x i)).natAbs<=(evI r (x i)).natAbs:=by
   rw [e,BI]
   refine Fm _ ?_
   rcases DH (evI A (x i)).natAbs with z | z
   ·exact absurd (by rw [e,Int.natAbs_eq_zero.mp z];omega) ne
   ·exact z
  refine (bd.le le).mono ?_
  have:=CP (c+1) rl
  omega) k
 refine this.mono ?_
 have h1:(g.length - 1)*(c+3)<=n*(c+3):=CP (c+3) ⋯
 have h2:n*(2*c+4)=n*(c+1)+n*(c+3):=by rw [<-Nat.mul_add];congr 1;omega
 omega
theorem HQ {a g:List Int} (la:Lz a) (lg:Lz g):cvL a (co g) (a.length - 1+(g.length - 1))=co a (a.length - 1)*co g (g.length - 1):=by
 obtain ⟨i,s,rfl⟩:∃ i s,a=i++[s]:=⟨a.dropLast,a.getLast (De.mp la.1),(FK _).symm⟩
 have e:(i++[s]).length - 1=i.length:=by rw [C2];simp
 have hs:co (i++[s]) i.length=s:=by
  unfold co
  rw [AU,List.getElem?_append_right (AS _),Nat.sub_self];rfl
 rw [e,hs,DY,Dq (n:=g.length) (λi hi=>AX hi) i _ (by have:=lg.1;omega)]
 unfold Av
 rw [Zu ⋯,show i.length+(g.length - 1) - i.length=g.length - 1 by omega]
 omega
theorem K5 {X ms:List Int} (lm:Lz ms) {T:Nat} (h:∀ k,T+(ms.length - 1)<=k->cvL X (co ms) k=0):(∀ j,T<=j->co X j=0)/\∀ s,T=s+1->cvL X (co ms) (s+(ms.length - 1))=co X s*co ms (ms.length - 1):=by
 rcases EJ X with z | ⟨Y,lY,_,eY⟩
 ·refine ⟨λj _=>z j,λs _=>?_⟩
  rw [Bx,FE ms z,z s];omega
 ·have hY:∀ k,cvL X (co ms) k=cvL Y (co ms) k:=λk=>by rw [Bx,BK (λj=>(eY j).symm) ms k,<-Bx]
  have tp:=HQ lY lm
  have ly:Y.length<=T:=by
   rcases BG T Y.length with c | c
   ·exfalso
    have:=h (Y.length - 1+(ms.length - 1)) ⋯
    rw [hY,tp] at this
    exact CI lY.2 lm.2 this
   ·exact c
  refine ⟨λj hj=>by rw [<-eY];exact AX ⋯,λs hs=>?_⟩
  rw [hY,<-eY]
  have y0:=lY.1
  rcases BG Y.length T with c | c
  ·rw [AX ⋯,Dq (n:=ms.length) (λi hi=>AX hi) Y _ (by have:=lm.1;omega)];omega
  ·rw [show s=Y.length - 1 by omega];exact tp
theorem D8 {m n:Nat} {x y:Int} (hx:Bd m x) (hy:Bd n y) (hm:m<=60000000:=by omega) (hn:n<=60000000:=by omega):IntMulOk x y:=GS (hx.mono hm) (hy.mono hn)
theorem XH {ns:List Int} {m:Int} (ms:List Int) (hms:ms=(ns.filter (λz=>!decide (z=0))).map λz=>if z<0 then -z else z) (h:ms=[]/\m=0\/m∈ms) (d:Int):(∀ z∈ns,d∣z)->d∣m:=by
 intro hd
 rcases h with ⟨_,e⟩ | h
 ·rw [e];exact C8 d
 ·rw [hms] at h
  obtain ⟨z,hz,rfl⟩:=Bc.mp h
  have:=hd z (List.mem_filter.mp hz).1
  show d∣if z<0 then -z else z
  split
  ·exact Int.dvd_neg.mpr this
  ·exact this
theorem XI (h:IV K vs H Q E):OF K { nx:=λ_ H'=>Q .non H',rt:=Q } (L2.start ["row","start","found","whole"] vs) H:=by
 obtain ⟨p,ns,st,rfl,hp,hl,k⟩:=h
 unfold OF
 rwa []
 refine ⟨⟨_,SqL.of hp⟩,CompF.lst (xs:=ns.map V.int) (λi ys H'=>i<=ns.length/\H'=H/\ys=(((ns.take i).filter (λz=>!decide (z=0))).map λz=>if z<0 then -z else z).map V.int) ⟨AV _,rfl,rfl⟩ ?_ ?_ ?_⟩
 ·rintro i ys H' ⟨h1,rfl,rfl⟩
  refine ⟨by rw [AL];exact h1,sz ?_,SqL.of hp⟩
  rw [AL,AL]
  exact Be (List.length_filter_le _ _) (by rw [Cm];omega)
 ·rintro i x ys H' hi ⟨h1,rfl,rfl⟩
  rw [Af] at hi
  cases e:ns[i]? with
  | none=>rw [e] at hi;cases hi
  | some n=>
    rw [e] at hi
    obtain rfl:V.int n=x:=Z1 hi
    have hi2:i<ns.length:=(Bp.mp e).1
    have et:ns.take (i+1)=ns.take i++[n]:=by rw [DR,e];rfl
    rwa []
    refine AO (λc=>?_) (λc=>?_)
    ·refine ⟨⋯,?_⟩
     have c0:¬ n=0:=by simpa using c
     simp [et,List.filter_append,c0]
    ·refine ⟨⋯,?_⟩
     have c0:n=0:=by simpa using c
     simp [et,List.filter_append,c0]
 ·rintro ys H' ⟨_,rfl,rfl⟩ a ha
  rw [AL,C7]
  have sa:=AR ha (.lst (((ns.filter (λz=>!decide (z=0))).map λz=>if z<0 then -z else z).map V.int))
  have hpa:=sa _ _ hp
  refine ⟨_,rfl,_,upd_same,λm hm=>?_⟩
  have hg:=XH _ rfl hm
  generalize hHa:upd H' a (.lst (((ns.filter (λz=>!decide (z=0))).map λz=>if z<0 then -z else z).map V.int))=Ha at sa hpa ⊢
  refine ⟨⟨_,SqL.of hpa⟩,ForL.by (xs:=ns.map V.int) (λi σ H2=>∃ (g:Int) (x:Option V),σ=[some (.ref p),some (.int st),some (.int g),x]/\H2=Ha/\0<=g/\g∣st/\(∀ z∈ns.take i,g∣z)/\(∀ d:Int,d∣st->(∀ z∈ns,d∣z)->d∣g)) ⟨_,none,rfl,rfl,⋯,ET m st,λz hz=>(by simp at hz),λd h1 h2=>Int.dvd_coe_gcd (hg d h2) h1⟩ ?_ ?_ ?_⟩
  ·rintro i σ H2 _ ⟨g,x,rfl,rfl,_⟩
   exact SqL.of hpa
  ·rintro i x σ H2 hi ⟨g,y,rfl,rfl,g0,g1,g2,g3⟩
   rw [Af] at hi
   cases e:ns[i]? with
   | none=>rw [e] at hi;cases hi
   | some n=>
     rw [e] at hi
     obtain rfl:V.int n=x:=Z1 hi
     rwa []
     refine AO (λc=>?_) (λc=>?_)
     ·have c1:g=1:=by simpa using c
      subst c1
      exact k 1 _ sa ∅ (Int.one_dvd _) (λz _=>Int.one_dvd z) g3
     ·refine ⟨⋯,Cq (ET n g) g1,λz hz=>?_,λd h1 h2=>Int.dvd_coe_gcd (h2 n (Bu e)) (g3 d h1 h2)⟩
      rw [DR,e] at hz
      rcases CZ.mp hz with z1 | z1
      ·exact Cq (ET n g) (g2 z z1)
      ·have z2:z=n:=by simpa using z1
       rw [z2];exact Ep n g
  ·rintro σ H2 ⟨g,x,rfl,rfl,g0,g1,g2,g3⟩
   rw [AL,C7] at g2
   rwa []
   exact k g _ sa g0 g1 g2 g3
theorem XJ (h:IW K vs H Q E):OH K { nx:=λ_ H'=>Q .non H',rt:=Q } (L2.start ["row","divisor"] vs) H:=by
 obtain ⟨p,ns,g,rfl,hp,g0,hl,q⟩:=h
 unfold OH
 rwa []
 refine ⟨⟨_,SqL.of hp⟩,CompJ.lst (xs:=ns.map V.int) (λi ys H'=>i<=ns.length/\H'=H/\ys=((ns.map (·/ g)).take i).map V.int) ⟨AV _,rfl,rfl⟩ ?_ ?_ ?_⟩
 ·rintro i ys H' ⟨h1,rfl,rfl⟩
  refine ⟨by rw [AL];exact h1,sz ?_,SqL.of hp⟩
  rw [AL,Cm];omega
 ·rintro i x ys H' hi ⟨h1,rfl,rfl⟩
  rw [Af] at hi
  cases e:ns[i]? with
  | none=>rw [e] at hi;cases hi
  | some n=>
    rw [e] at hi
    obtain rfl:V.int n=x:=Z1 hi
    have hi2:i<ns.length:=(Bp.mp e).1
    have gp:0<g:=by
     rcases g0 with h | h
     ·exact h
     ·rw [h] at hi2;exact absurd hi2 (by simp)
    rwa []
    refine ⟨gp,⋯,?_⟩
    rw [Iq V.int (q:=n / g) (by rw [Af,e];rfl)]
 ·rintro ys H' ⟨_,rfl,rfl⟩ a ha
  have e:(ns.map (·/ g)).take (ns.map V.int).length=ns.map (·/ g):=by rw [AL,show ns.length=(ns.map (·/ g)).length by rw [AL],C7]
  rw [e]
  exact q a ha
theorem Qi {ns:List Int} {k:Nat}:co ns k=ns.getD k 0:=rfl
theorem K6 (ns:List Int):Tz (Cy ns):=by
 have key:∀ m,m<=ns.length->C4 ns m=0\/co ns (C4 ns m - 1)≠0:=by
  intro m
  induction m with
  | zero=>intro _;exact .inl rfl
  | succ m ih=>
    intro hm
    rw [HK]
    split
    ·exact ih ⋯
    ·rename_i z
     right
     rw [show m+1 - 1=m by omega,Qi]
     rw [AU,Am ⋯] at z ⊢
     exact z
 have hl:(Cy ns).length=C4 ns ns.length:=Ky
 rcases key ns.length (AS _) with h | h
 ·left
  exact CU.mp (hl.trans h)
 ·right
  rw [hl]
  show (Cy ns).getD _ 0≠0
  rw [Qe]
  exact h
theorem K7 (ns:List Int) (k:Nat):co (Cy ns) k=co ns k:=Qe k
theorem HR (n:Nat) (F:Nat->Int):AY n F=((List.range n).map F).map V.int:=rfl
theorem XM (ns:List Int) (f:Int) (n:Nat) (h:ns.length<=n):List.map V.int (ns.map (f*·))++List.replicate (n - ns.length) (V.int 0)=AY n λk=>f*co ns k:=by
 rw [HR]
 apply EW
 intro i
 by_cases h1:i<ns.length
 ·rw [List.getElem?_append_left (by rw [AL,AL];exact h1),Af,Af,Af,Af,DS ⋯,Am h1]
  show _=some (V.int (f*ns.getD i 0))
  rw [AU,Am h1]
  rfl
 ·rw [List.getElem?_append_right (by rw [AL,AL];omega),AL,AL,Af,Af]
  by_cases h2:i<n
  ·rw [FI,Zu ⋯,DS h2]
   show _=some (V.int (f*co ns i))
   rw [AX ⋯,Int.mul_zero]
  ·rw [FI,Zt ⋯,Bv (by rw [Bm];omega)]
   rfl
theorem XN (h:IX K vs H Q E):ON K { nx:=λ_ H'=>Q .non H',rt:=Q } (L2.start ["row","factor","other","weight","shift","result","place","whole"] vs) H:=by
 obtain ⟨p,q,ns,ms,f,w,s,rfl,hp,hq,hl,hls,bf,bw,bn,bm,k⟩:=h
 unfold ON
 rwa []
 refine ⟨⟨_,SqL.of hp⟩,CompJ.lst (xs:=ns.map V.int) (λi ys H'=>i<=ns.length/\H'=H/\ys=((ns.map (f*·)).take i).map V.int) ⟨AV _,rfl,rfl⟩ ?_ ?_ ?_⟩
 ·rintro i ys H' ⟨h1,rfl,rfl⟩
  refine ⟨by rw [AL];exact h1,sz ?_,SqL.of hp⟩
  rw [AL,Cm];omega
 ·rintro i x ys H' hi ⟨h1,rfl,rfl⟩
  rw [Af] at hi
  cases e:ns[i]? with
  | none=>rw [e] at hi;cases hi
  | some n=>
    rw [e] at hi
    obtain rfl:V.int n=x:=Z1 hi
    have hi2:i<ns.length:=(Bp.mp e).1
    rwa []
    refine ⟨D8 bf (bn n (Bu e)),⋯,?_⟩
    rw [Iq V.int (q:=f*n) (by rw [Af,e];rfl)]
 ·rintro ys H' ⟨_,rfl,rfl⟩ a ha
  have e:(ns.map (f*·)).take (ns.map V.int).length=ns.map (f*·):=by rw [AL,show ns.length=(ns.map (f*·)).length by rw [AL],C7]
  rw [e]
  generalize hL:max ns.length (s+ms.length)=L
  have sa:=AR ha (.lst (List.map V.int (ns.map (f*·))))
  have hpa:=sa _ _ hp
  have hqa:=sa _ _ hq
  rwa [hpa,hqa]
  refine ⟨FV upd_same,sz ∅,λb hb=>?_⟩
  have sb:=AR hb (.lst [.int 0])
  refine ⟨_,sb _ _ hqa,_,sb _ _ hpa,?_⟩
  have e0:(((ms.map V.int).length:Int)+(s:Int) - ((ns.map V.int).length:Int))=(ms.length:Int)+(s:Int) - (ns.length:Int):=by rw [AL,AL]
  rw [e0]
  have ek:((ms.length:Int)+(s:Int) - (ns.length:Int)).toNat=L - ns.length:=by omega
  refine ⟨⋯,⋯,sz (by rw [ek];simp;omega),λc hc=>?_⟩
  rw [ek,J9]
  have sc:=AR hc (.lst (List.replicate (L - ns.length) (V.int 0)))
  have haa:upd H' a (.lst (List.map V.int (ns.map (f*·)))) a=some (HO.lst (List.map V.int (ns.map (f*·)))):=upd_same
  have hac:=sc _ _ (sb _ _ haa)
  refine ⟨_,hac,sz (by simp;omega),?_⟩
  rw [XM ns f L ⋯]
  generalize hX:upd (upd (upd H' a (.lst (List.map V.int (ns.map (f*·))))) b (.lst [.int 0])) c (.lst (List.replicate (L - ns.length) (V.int 0)))=Hx at hac ⊢
  have sx:Same H' Hx:=λx o h=>by rw [<-hX];exact sc x o (sb x o (sa x o h))
  have sd:Same H' (upd Hx a (.lst (AY L λk=>f*co ns k))):=λx o h=>Kp.upd x o (BO h ha) (sx x o h)
  have had:(upd Hx a (.lst (AY L λk=>f*co ns k))) a=_:=upd_same
  generalize upd Hx a (.lst (AY L λk=>f*co ns k))=Hd at sd had ⊢
  refine ⟨⟨_,SqL.of (sd _ _ hq)⟩,ForJ.enumL (xs:=ms.map V.int) (λj σ H2=>∃ x y:Option V,σ=[some (.ref p),some (.int f),some (.ref q),some (.int w),some (.int (s:Int)),some (.ref a),x,y]/\Same H' H2/\H2 a=some (.lst (AY L λk=>f*co ns k - (if s<=k/\k - s<j then w*co ms (k - s) else 0)))) ⟨none,none,rfl,sd,?_⟩ ?_ ?_ ?_⟩
  ·rw [had]
   exact congrArg (λl=>some (HO.lst l)) (D7 λk _=>by rw [Zt ⋯];omega)
  ·rintro j σ H2 _ ⟨_,_,_,s2,_⟩
   exact SqL.of (s2 _ _ hq)
  ·rintro j y pq σ H2 hj ⟨y3,y4,rfl,s2,hw2⟩ hpq
   rw [Af] at hj
   cases em:ms[j]? with
   | none=>rw [em] at hj;cases hj
   | some u=>
     rw [em] at hj
     obtain rfl:V.int u=y:=Z1 hj
     have jl:j<ms.length:=(Bp.mp em).1
     have ud:co ms j=u:=by rw [Qi,AU,em];rfl
     have sq:=AR hpq (.tup [.int (j:Int),.int u])
     have hw3:=sq _ _ hw2
     rwa [hw3]
     have kl:s+j<L:=by omega
     refine ⟨_,DP ⋯ (CQ _ kl),D8 bw (bm u (Bu em)),_,rfl,s+j,?_,λb o h=>Kp.upd b o (BO h ha) (sq b o (s2 b o h)),?_⟩
     ·rw [Cz];exact El ⋯ kl
     ·refine Ek kl ?_ λk _ hk=>?_
      ·rw [Zu ⋯,Zt ⋯,show s+j - s=j by omega,ud];omega
      ·by_cases h:s<=k/\k - s<j
       ·rw [Zu h,Zu ⋯]
       ·rw [Zt h,Zt ⋯]
  ·rintro σ H2 ⟨y3,y4,rfl,s2,hw2⟩
   rw [AL,HR] at hw2
   rwa [hw2]
   refine ⟨_,rfl,λr hr=>k r _ _ (s2.trans (AR hr _)) upd_same (K6 _) λi=>?_⟩
   rw [K7,IF]
   unfold Av
   by_cases hi:i<L
   ·rw [Zu hi]
    by_cases h:s<=i
    ·rw [Zu h]
     by_cases h2:i - s<ms.length
     ·rw [Zu ⟨h,h2⟩]
     ·rw [Zt ⋯,AX (a:=ms) ⋯];omega
    ·rw [Zt h,Zt ⋯];omega
   ·rw [Zt hi,AX (a:=ns) ⋯]
    by_cases h:s<=i
    ·rw [Zu h,AX (a:=ms) ⋯];omega
    ·rw [Zt h];omega
theorem XO (a b:Int):(a.fdiv b).natAbs<=a.natAbs:=by
 rw [Int.fdiv_eq_ediv]
 split
 ·rw [Int.sub_zero];exact Int.natAbs_ediv_le_natAbs a b
 ·rename_i h
  have hb:b<0:=by omega
  have hd:¬ b∣a:=λz=>h (.inr z)
  have e:=Int.mul_ediv_add_emod a b
  have r0:=CM a (show b≠0 by omega)
  have r1:=Int.emod_lt_of_neg a hb
  have rn:a % b≠0:=λz=>hd (Int.dvd_of_emod_eq_zero z)
  generalize a / b=q at *
  generalize a % b=r at *
  rcases Int.lt_or_le q 1 with hq | hq
  ·have h1:(-b)*(-q) ≥ 2*(-q):=FM ⋯ ⋯
   rw [Int.neg_mul_neg] at h1
   omega
  ·have h1:(-b)*(q - 1) ≥ 1*(q - 1):=FM ⋯ ⋯
   rw [Dd,Int.mul_sub] at h1
   omega
theorem K8 {n m:Nat} {F:Nat->Int}:Cg (AY n F) none (some (m:Int))=((List.range (min m n)).map F).map V.int:=by
 unfold Cg HT.sIx
 simp only [List.drop_zero,Nat.sub_zero,Dc]
 rw [Zt ⋯,Cz]
 unfold AY
 rw [<-List.map_take,<-List.map_take,List.take_range]
 congr 3
 omega
theorem XQ {n:Nat} {F:Nat->Int} (h:((List.range n).map F).any (λz=>!decide (z=0))=false):∀ k,k<n->F k=0:=by
 intro k hk
 have:=List.any_eq_false.mp h (F k) (Bc.mpr ⟨k,ER.mpr hk,rfl⟩)
 simpa using this
theorem Qj {n s:Nat} {F:Nat->Int} {w:Int} (hs:s<n) (h0:F s=0) (g:Nat->Int) (k:Nat) :
  cvL ((List.range n).map λj=>if j=s then w else F j) g k=cvL ((List.range n).map F) g k+w*Av s g k:=by
 have e:∀ m,m<=n->cvL ((List.range m).map λj=>if j=s then w else F j) g k=cvL ((List.range m).map F) g k+(if s<m then w*Av s g k else 0):=by
  intro m
  induction m with
  | zero=>intro _;rw [Zt ⋯];rfl
  | succ m ih=>
    intro hm
    rw [List.range_succ,Dv,Dv,List.map_singleton,List.map_singleton,DY,DY,ih ⋯,AL,AL,Bm]
    by_cases e:m=s
    ·subst e
     rw [Zu rfl,Zt ⋯,Zu ⋯,h0]
     omega
    ·rw [Zt e]
     by_cases h:s<m
     ·rw [Zu h,Zu ⋯];omega
     ·rw [Zt h,Zt ⋯];omega
 rw [e n (AS n),Zu hs]
theorem C5 {b:Nat} {ns:List Int} (h:∀ z∈ns,Bd b z) (k:Nat):Bd b (co ns k):=Hy h k
theorem Iw {n:Nat} {g:Nat->Int} (k:Nat):cvL ((List.range n).map λ_=>(0:Int)) g k=0:=by
 have e:((List.range n).map λ_=>(0:Int))=(List.replicate n (1:Int)).map (0*·):=by
  apply EW
  intro i
  rw [Af,Af]
  by_cases h:i<n
  ·rw [DS h,FI,Zu h];rfl
  ·rw [Bv (by rw [Bm];omega),FI,Zt h];rfl
 rw [e,A6];omega
theorem Fj (ns:List Int):List.map V.int ns=AY ns.length (co ns):=by
 rw [HR]
 congr 1
 apply EW
 intro i
 rw [Af]
 by_cases h:i<ns.length
 ·rw [DS h,Am h]
  show _=some (ns.getD i 0)
  rw [AU,Am h];rfl
 ·rw [Bv ⋯,Bv (by rw [Bm];omega)];rfl
theorem GT {ms:List Int} (h:0<ms.length):atI (ms.map V.int) (-1)=some (V.int (co ms (ms.length - 1))):=by
 refine XB (by rw [AL];omega) ?_
 rw [AL,Af,Am ⋯]
 show _=some (V.int (ms.getD (ms.length - 1) 0))
 rw [AU,Am ⋯];rfl
theorem XR (h:GO K vs H Q E):WR K { nx:=λ_ H'=>Q .non H',rt:=Q } (L2.start ["row","divisor","rest","last","quotient","shift","weight","place"] vs) H:=by
 obtain ⟨p,q,ns,ms,b,d,rfl,hp,hq,lm,bn,bm,bb,bd1,hn,hm,kN,kR⟩:=h
 have m0:=lm.1
 have lne:=lm.2
 obtain ⟨L,hL⟩:∃ L,ms.length=L+1:=⟨ms.length - 1,⋯⟩
 have hL1:ms.length - 1=L:=by omega
 rw [hL1] at lne
 generalize hlead:co ms L=lead at lne
 have aL:=GT m0
 rw [hL1,hlead] at aL
 generalize hc:ns.length - L=c
 refine BE (NN (KC rfl ⟨_,_,rfl,hp,λa ha=>?_⟩))
 have sa:=AR ha (.lst (ns.map V.int))
 have hpa:=sa _ _ hp
 have hqa:=sa _ _ hq
 have ela:((List.map V.int ms).length:Int) - 1=(L:Int):=by rw [AL];omega
 refine ⟨_,rfl,_,_,rfl,hqa,_,_,rfl,rfl,?_⟩
 show OM K _ [some (.ref p),some (.ref q),some (.ref a),some (.int (((List.map V.int ms).length:Int) - 1)),none,none,none,none] _
 rw [ela]
 refine BE (CL (IJ (r_c ⟨D6,λx hx=>?_⟩)))
 have sx:=AR hx (.lst [.int 0])
 have hpx:=sx _ _ hpa
 have hmax:(if (0:Int) > ((List.map V.int ns).length:Int) - (L:Int) then (0:Int) else ((List.map V.int ns).length:Int) - (L:Int))=(c:Int):=by
  rw [AL];split <;> omega
 refine ⟨_,rfl,_,_,rfl,hpx,_,rfl,_,_,rfl,rfl,_,_,rfl,?_⟩
 refine ⟨_,(c:Int),_,rfl,congrArg V.int hmax,upd_same,⋯,⋯,sz (by simp;omega),λy hy=>?_⟩
 refine NP ha hx hy λH1 hay hyy sH nay nyH=>?_
 rw [Fj ns] at hay
 rw [Dc,Kw] at hyy
 have hp1:=sH _ _ hp
 have elo:((List.map V.int ns).length:Int) - (L:Int) - 1=(ns.length:Int) - (L:Int) - 1:=by rw [AL]
 have ecn:((ns.length:Int) - (L:Int) - 1 - -1).toNat=c:=by omega
 refine NO ?_
 refine ⟨_,rfl,_,_,rfl,hp1,_,rfl,_,_,rfl,rfl,_,_,rfl,rfl,_,rfl,_,rfl,(ns.length:Int) - (L:Int) - 1,_,by rw [<-elo],⟨⋯,⋯,∅,∅⟩,?_⟩
 rw [ecn]
 let Iv:Nat->L2.St->Hp->Prop:=λi σ H2=>i<=c/\∃ (F G:Nat->Int) (u v w:Option V),σ=[some (.ref p),some (.ref q),some (.ref a),some (.int (L:Int)),some (.ref y),u,v,w]/\Same H H2/\H2 a=some (.lst (AY ns.length F))/\H2 y=some (.lst (AY c G))/\
  (∀ j,j<c - i->G j=0)/\(∀ k,k<ns.length - i->F k=co ns k - cvL ((List.range c).map G) (co ms) k)/\(∀ k,ns.length - i<=k->co ns k=cvL ((List.range c).map G) (co ms) k)/\(∀ k,k<ns.length->Bd (b+i*(d+1)) (F k))
 refine ForJ.down Iv ⟨AV _,co ns,λ_=>0,none,none,none,rfl,sH,hay,hyy,λ_ _=>rfl,λk _=>by rw [Iw];omega,λk hk=>by rw [Iw,AX ⋯],λk _=>(C5 bn k).mono ⋯⟩ ?_ ?_
 ·rintro i σ H2 hi ⟨_,F,G,u,v,w,rfl,s2,ha2,hy2,hG,hF,hF2,bF⟩
  have hq2:=s2 _ _ hq
  have ic:i<c:=hi
  have esh:((ns.length:Int) - (L:Int) - 1 - (i:Int))=((c - 1 - i:Nat):Int):=by omega
  rw [esh]
  generalize hs:c - 1 - i=s
  have hst:s+L=ns.length - 1 - i:=by omega
  have aT:atI (AY ns.length F) ((s:Int)+(L:Int))=some (V.int (F (s+L))):=DP (j:=s+L) ⋯ (CQ F ⋯)
  refine ⟨_,rfl,_,rfl,_,rfl,_,_,rfl,rfl,_,_,_,_,rfl,rfl,ha2,aT,_,rfl,_,rfl,_,_,_,_,rfl,rfl,hq2,aL,_,_,rfl,rfl,lne,?_⟩
  show OK K _ [some (.ref p),some (.ref q),some (.ref a),some (.int (L:Int)),some (.ref y),some (.int (s:Int)),some (.int ((F (s+L)).fdiv lead)),w] H2
  generalize hw:(F (s+L)).fdiv lead=wt
  have bFt:=bF (s+L) ⋯
  have bwt:Bd (b+i*(d+1)) wt:=bFt.le (by rw [<-hw];exact XO _ _)
  have bi:b+i*(d+1)<=60000000:=by
   have:=CP (d+1) (show i<=ns.length by omega)
   omega
  have bi1:b+(i+1)*(d+1)<=60000000:=by
   have:=CP (d+1) (show i+1<=ns.length by omega)
   omega
  have bld:Bd d lead:=by rw [<-hlead];exact C5 bm L
  refine ⟨_,rfl,_,rfl,_,rfl,_,_,_,_,rfl,rfl,hq2,aL,_,_,rfl,rfl,D8 bwt bld,_,rfl,_,rfl,_,rfl,_,_,rfl,rfl,_,_,_,_,rfl,rfl,ha2,aT,rfl,_,rfl,AO (λce=>?_) (λce=>?_)⟩
  ·refine kN (λ⟨A,hA⟩=>?_) _ s2
   have ce':wt*lead≠F (s+L):=by simpa using ce
   have hX:∀ k,cvL (Ae A (((List.range c).map G).map ((-1)*·))) (co ms) k=co ns k - cvL ((List.range c).map G) (co ms) k:=λk=>by rw [BT,A6,<-hA];omega
   have q:=(K5 lm (X:=Ae A (((List.range c).map G).map ((-1)*·))) (T:=s+1) (λk hk=>by rw [hX,hF2 k ⋯];omega)).2 s rfl
   rw [hX,hL1,hlead,<-hF (s+L) ⋯] at q
   exact ce' (by rw [<-hw,q,Int.mul_fdiv_cancel _ lne])
  have ex:wt*lead=F (s+L):=by simpa using ce
  refine ⟨_,rfl,_,rfl,_,rfl,_,_,_,s,rfl,rfl,hy2,by rw [Cz];exact El rfl ⋯,?_⟩
  show OJ K _ [some (.ref p),some (.ref q),some (.ref a),some (.int (L:Int)),some (.ref y),some (.int (s:Int)),some (.int wt),w] (upd H2 y (.lst ((AY c G).set s (V.int wt))))
  have hG':(AY c G).set s (V.int wt)=AY c (λj=>if j=s then wt else G j):=Ek ⋯ (Zu rfl) λj _ hj=>Zt hj
  rw [hG']
  have s3:Same H (upd H2 y (.lst (AY c λj=>if j=s then wt else G j))):=λz o h=>Kp.upd z o (BO h nyH) (s2 z o h)
  have ha3:(upd H2 y (.lst (AY c λj=>if j=s then wt else G j))) a=_:=(Ag nay).trans ha2
  have hy3:(upd H2 y (.lst (AY c λj=>if j=s then wt else G j))) y=_:=upd_same
  generalize (upd H2 y (.lst (AY c λj=>if j=s then wt else G j)))=H3 at s3 ha3 hy3 ⊢
  have cvE:∀ k,cvL ((List.range c).map λj=>if j=s then wt else G j) (co ms) k=cvL ((List.range c).map G) (co ms) k+wt*Av s (co ms) k:=λk=>Qj ⋯ (hG s ⋯) _ k
  have fin:∀ (F':Nat->Int) (u v w:Option V) (H4:Hp),Same H H4->H4 a=some (.lst (AY ns.length F'))->H4 y=some (.lst (AY c λj=>if j=s then wt else G j))->(∀ k,k<ns.length->F' k=F k - (if s<=k/\k - s<L then wt*co ms (k - s) else 0))->
    Iv (i+1) [some (.ref p),some (.ref q),some (.ref a),some (.int (L:Int)),some (.ref y),u,v,w] H4:=λF' u v w H4 s4 ha4 hy4 eF=>by
   refine ⟨⋯,F',_,u,v,w,rfl,s4,ha4,hy4,λj hj=>?_,λk hk=>?_,λk hk=>?_,λk hk=>?_⟩
   ·show (if j=s then wt else G j)=0
    rw [Zt ⋯];exact hG j ⋯
   ·rw [eF k ⋯,cvE,hF k ⋯]
    unfold Av
    by_cases h:s<=k
    ·rw [Zu h,Zu ⟨h,⋯⟩];omega
    ·rw [Zt h,Zt ⋯];omega
   ·rw [cvE]
    by_cases ek:k=s+L
    ·have hf:=hF k ⋯
     rw [ek] at hf ⊢
     unfold Av
     rw [Zu ⋯,show s+L - s=L by omega,hlead,ex];omega
    ·have h2:=hF2 k ⋯
     rw [h2]
     unfold Av
     by_cases h:s<=k
     ·rw [Zu h,AX (a:=ms) ⋯];omega
     ·rw [Zt h];omega
   ·rw [eF k hk]
    have e2:b+(i+1)*(d+1)=b+i*(d+1)+d+1:=by rw [DJ];omega
    rw [e2]
    refine Bd.sub ((bF k hk).mono ⋯) ?_
    split
    ·exact bwt.mul (C5 bm _)
    ·exact FY _
  refine ⟨_,rfl,rfl,_,rfl,AO (λcw=>?_) (λcw=>?_)⟩
  ·refine ⟨_,rfl,_,rfl,⋯,⋯,?_⟩
   rw [Dc]
   refine ForR.by (λj σ H4=>∃ (u:Option V),σ=[some (.ref p),some (.ref q),some (.ref a),some (.int (L:Int)),some (.ref y),some (.int (s:Int)),some (.int wt),u]/\Same H H4/\H4 a=some (.lst (AY ns.length λk=>F k - (if s<=k/\k - s<j then wt*co ms (k - s) else 0)))/\H4 y=some (.lst (AY c λj=>if j=s then wt else G j))) ⟨w,rfl,s3,?_,hy3⟩ ?_ ?_
   ·rw [ha3]
    exact congrArg (λl=>some (HO.lst l)) (D7 λk _=>by rw [Zt ⋯];omega)
   ·rintro j σ H4 hj ⟨u',rfl,s4,ha4,hy4⟩
    have hq4:=s4 _ _ hq
    have aj:atI (ms.map V.int) (0+(j:Int))=some (V.int (co ms j)):=DP (j:=j) ⋯ (by rw [Fj];exact CQ _ ⋯)
    refine ⟨_,rfl,_,rfl,_,rfl,_,_,rfl,rfl,_,_,_,_,rfl,rfl,ha4,DP (j:=s+j) ⋯ (CQ _ ⋯),_,rfl,_,rfl,_,rfl,_,_,_,_,rfl,rfl,hq4,aj,_,_,rfl,rfl,D8 bwt (C5 bm j),_,_,rfl,rfl,_,_,_,s+j,rfl,rfl,ha4,by rw [Cz];exact El ⋯ ⋯,?_⟩
    refine ⟨_,rfl,?_,?_,?_⟩
    ·intro z o h
     exact Kp.upd z o (BO h ha) (s4 z o h)
    ·refine upd_same.trans (congrArg (λl=>some (HO.lst l)) (Ek ⋯ ?_ λk _ hk=>?_))
     ·rw [Zu ⋯,Zt ⋯,show s+j - s=j by omega];omega
     ·by_cases h:s<=k/\k - s<j
      ·rw [Zu h,Zu ⋯]
      ·rw [Zt h,Zt ⋯]
    ·rw [Ag (Ne.symm nay)];exact hy4
   ·rintro σ H4 ⟨u',rfl,s4,ha4,hy4⟩
    exact fin _ _ _ _ _ s4 ha4 hy4 λk _=>rfl
  ·have w0:wt=0:=by simpa using cw
   exact fin F _ _ _ _ s3 ha3 hy3 λk _=>by rw [w0];split <;> omega
 ·rintro σ H2 ⟨_,F,G,u,v,w,rfl,s2,ha2,hy2,hG,hF,hF2,bF⟩
  refine ⟨_,rfl,_,rfl,_,rfl,_,_,rfl,ha2,λz hz=>?_⟩
  have sz2:=AR hz (.lst (((List.range (min L ns.length)).map F).map V.int))
  refine ⟨z,(List.range (min L ns.length)).map F,rfl,by rw [K8];exact upd_same,?_⟩
  rw [K8]
  refine ⟨_,rfl,AO (λce=>?_) (λce=>?_)⟩
  ·refine kN (λ⟨A,hA⟩=>?_) _ (s2.trans sz2)
   have hX:∀ k,cvL (Ae A (((List.range c).map G).map ((-1)*·))) (co ms) k=co ns k - cvL ((List.range c).map G) (co ms) k:=λk=>by rw [BT,A6,<-hA];omega
   have q:=(K5 lm (X:=Ae A (((List.range c).map G).map ((-1)*·))) (T:=0) (λk hk=>by rw [hX,hF2 k ⋯];omega)).1
   have ce':((List.range (min L ns.length)).map F).any (λz=>!decide (z=0))=true:=by simpa using ce
   obtain ⟨z,hz',hz0⟩:=List.any_eq_true.mp ce'
   obtain ⟨k,hk,rfl⟩:=Bc.mp hz'
   have hk:=ER.mp hk
   have e:=hX k
   rw [Bx,FE ms (λj=>q j (AV j)),<-hF k ⋯] at e
   rw [<-e] at hz0
   simp at hz0
  ·have ce':((List.range (min L ns.length)).map F).any (λz=>!decide (z=0))=false:=by simpa using ce
   have hy3:=sz2 _ _ hy2
   rw [HR] at hy3
   refine KC rfl (kR y _ _ (s2.trans sz2) hy3 (by rw [AL,Bm];omega) λk=>?_)
   by_cases hk:ns.length - c<=k
   ·exact hF2 k hk
   ·have:=hF k ⋯
    rw [XQ ce' k ⋯] at this
    omega
theorem Qk {K:W.Frag} {a:Addr} {capt:List (Option Nat)} {te:TE} {σ:L2.St} {Q:VK} {H:Hp} {ns:List Int} (F:Int->Int) (hp:H a=some (.lst (ns.map V.int))) (hl:ns.length<=1000)
  (hs:∀ n,n∈ns->∀ P:VK,P (.int (F n)) H->te ((Ck capt σ).set 0 (some (.int n))) H P) (hd:∀ p,H p=none->Q (.ref p) (upd H p (.lst ((ns.map F).map V.int)))):CompJ (Itl K a) capt (AF 0) te σ Q H:=by
 refine CompJ.lst (xs:=ns.map V.int) (λi ys H'=>i<=ns.length/\H'=H/\ys=((ns.map F).take i).map V.int) ⟨AV _,rfl,rfl⟩ ?_ ?_ ?_
 ·rintro i ys H' ⟨h1,rfl,rfl⟩
  refine ⟨by rw [AL];exact h1,sz ?_,SqL.of hp⟩
  rw [AL,Cm];omega
 ·rintro i x ys H' hi ⟨h1,rfl,rfl⟩
  rw [Af] at hi
  cases e:ns[i]? with
  | none=>rw [e] at hi;cases hi
  | some n=>
    rw [e] at hi
    obtain rfl:V.int n=x:=Z1 hi
    have hi2:i<ns.length:=(Bp.mp e).1
    show te ((Ck capt σ).set 0 (some (.int n))) H' _
    refine hs n (Bu e) _ ⟨⋯,rfl,?_⟩
    rw [Iq V.int (q:=F n) (by rw [Af,e];rfl)]
 ·rintro ys H' ⟨_,rfl,rfl⟩ p hpn
  have e:(ns.map F).take (ns.map V.int).length=ns.map F:=by rw [AL,show ns.length=(ns.map F).length by rw [AL],C7]
  rw [e]
  exact hd p hpn
theorem XS (h:Ia K vs H Q E):Oi K { nx:=λ_ H'=>Q .non H',rt:=Q } (L2.start ["row","prime"] vs) H:=by
 obtain ⟨p,ns,m,rfl,hp,m0,hl,q⟩:=h
 unfold Oi
 rwa []
 refine ⟨⟨_,SqL.of hp⟩,Qk (·% m) hp hl (λn _ P hP=>?_) q⟩
 rwa []
 exact ⟨m0,hP⟩
theorem Ix {F:Int->Int} (h0:F 0=0) (ns:List Int) (k:Nat):co (ns.map F) k=F (co ns k):=by
 unfold co
 rw [AU,AU,Af]
 cases ns[k]? with
 | none=>exact h0.symm
 | some z=>rfl
theorem Ql {ns:List Int} {z:Int} (h:z∈Cy ns):z∈ns:=List.mem_of_mem_take h
theorem XT (ns:List Int):(Cy ns).length<=ns.length:=by rw [Ky];exact Kx _ _
theorem GU (a m:Int):m∣a % m - a:=⟨-(a / m),by have:=Es a m;rw [Int.mul_neg];omega⟩
theorem XU (h:GP K vs H Q E):Oj K { nx:=λ_ H'=>Q .non H',rt:=Q } (L2.start ["row","prime"] vs) H:=by
 obtain ⟨p,ns,m,rfl,hp,m0,hl,q⟩:=h
 unfold Oj
 rwa [hp]
 refine ⟨_,rfl,m0,hl,λr hr=>?_⟩
 refine ⟨_,rfl,λt ht=>?_⟩
 refine q t _ _ ((AR hr _).trans (AR ht _)) upd_same (K6 _) (Be (XT _) (by rw [AL];exact AS _)) ⟨λz hz=>?_,λk=>?_⟩
 ·obtain ⟨y,_,rfl⟩:=Bc.mp (Ql hz)
  exact ⟨CM _ ⋯,CT _ m0⟩
 ·rw [K7,Ix (Int.zero_emod m)]
  exact GU _ _
theorem XV (h:IZ K vs H Q E):Oh K { nx:=λ_ H'=>Q .non H',rt:=Q } (L2.start ["whole","prime","one","other","one_weight","other_weight","quotient","rest"] vs) H:=by
 obtain ⟨a,p,rfl,p2,bp,q⟩:=h
 unfold Oh Og Oe Od Oc
 rwa []
 refine ⟨⋯,?_⟩
 have a0:=CM a (show p≠0 by omega)
 have a1:=CT a (show 0<p by omega)
 refine Eg (λn σ H'=>∃ (x y s t:Int) (u v:Option V),σ=[some (.int a),some (.int p),some (.int x),some (.int y),some (.int s),some (.int t),u,v]/\H'=H/\n=y.toNat/\0<=y/\y<x/\x<=p/\
  Int.gcd x y=Int.gcd a p/\p∣x - s*a/\p∣y - t*a/\(t.natAbs:Int)*x+(s.natAbs:Int)*y<=p/\(s.natAbs:Int)<=p) (a % p).toNat ⟨p,a % p,0,1,none,none,rfl,rfl,rfl,a0,a1,Int.le_refl _,?_,⟨1,⋯⟩,?_,by simp,by simp;omega⟩ ?_
 ·rw [JX a ⋯]
 ·rw [show a % p - 1*a=a % p - a by omega]
  exact GU a p
 ·rintro n σ H' ⟨x,y,s,t,u,v,rfl,rfl,rfl,y0,yx,xp,hg,hs,ht,hb,hsp⟩
  have tx:(t.natAbs:Int)*1<=(t.natAbs:Int)*x:=EV ⋯ ⋯
  have sy:0<=(s.natAbs:Int)*y:=Int.mul_nonneg ⋯ y0
  have tp:(t.natAbs:Int)<=p:=by omega
  rwa []
  refine AO (λc=>?_) (λc=>?_)
  ·have yp:0<y:=by
    have:y≠0:=by simpa using c
    omega
   unfold Oa OZ OY OX OW OV OU
   have q0:=Int.ediv_nonneg (show 0<=x by omega) y0
   have q1:x / y<=x:=Int.ediv_le_self y ⋯
   have r0:=CM x (show y≠0 by omega)
   have r1:=CT x yp
   have er:x - x / y*y=x % y:=by have:=Es x y;rw [Int.mul_comm] at this;omega
   have B:∀ {z:Int},z.natAbs<=p.natAbs->Bd 60000000 z:=λh=>(bp.le h).mono ∅
   refine ⟨λσ' H''=>∃ m',m'<y.toNat/\_,λ_ _ h=>h,?_⟩
   rwa []
   refine ⟨yp,D8 (B ⋯) (B ⋯),D8 (B ⋯) (B ⋯),?_⟩
   refine ⟨(x - x / y*y).toNat,⋯,rfl,⋯,⋯,⋯,?_,ht,?_,?_,tp⟩
   ·rw [er,JX x y0];exact hg
   ·obtain ⟨α,hα⟩:=hs
    obtain ⟨β,hβ⟩:=ht
    exact ⟨α - x / y*β,by
     generalize x / y=qq at *
     have e1:x=s*a+p*α:=by omega
     have e2:y=t*a+p*β:=by omega
     rw [e1,e2];ext⟩
   ·have n1:((s - x / y*t).natAbs:Int)<=(s.natAbs:Int)+x / y*(t.natAbs:Int):=by
     have h1:=Int.natAbs_sub_le s (x / y*t)
     rw [BI] at h1
     have h2:((x / y).natAbs:Int)=x / y:=by omega
     have h3:(((x / y).natAbs*t.natAbs:Nat):Int)=x / y*(t.natAbs:Int):=by rw [Int.natCast_mul,h2]
     omega
    have n2:=FM n1 y0
    rw [er]
    have n3:(t.natAbs:Int)*(x % y)=(t.natAbs:Int)*x - (t.natAbs:Int)*(x / y*y):=by rw [<-er,Int.mul_sub]
    rw [n3]
    generalize (t.natAbs:Int)=tt at *
    generalize (s.natAbs:Int)=ss at *
    generalize x / y=qq at *
    have n4:(ss+qq*tt)*y=ss*y+tt*(qq*y):=by ext
    omega
  ·have yz:y=0:=by simpa using c
   unfold Ob
   rwa []
   refine ⟨⋯,q _ (CM _ ⋯) (CT _ ⋯) λhc=>?_⟩
   have x1:x=1:=by
    rw [yz] at hg
    rw [Int.gcd_zero_right,hc] at hg
    omega
   obtain ⟨α,hα⟩:=hs
   obtain ⟨γ,hγ⟩:=GU s p
   refine ⟨γ*a - α,?_⟩
   have e1:s % p=s+p*γ:=by omega
   rw [e1]
   have e2:s*a=1 - p*α:=by omega
   ext
theorem mbd {p:Nat} {ns:List Int} (bp:Bd 45000 (p:Int)) (h:∀ z∈ns,0<=z/\z<(p:Int)):∀ z∈ns,Bd 60000000 z:=λz hz=>(bp.le (by have:=h z hz;omega)).mono ∅
theorem mcop {p:Nat} {ns:List Int} (pp:Pr p) (tz:Tz ns) (h:∀ z∈ns,0<=z/\z<(p:Int)) (hn:ns≠[]):Int.gcd (co ns (ns.length - 1)) (p:Int)=1:=by
 have l0:0<ns.length:=De.mpr hn
 have lne:co ns (ns.length - 1)≠0:=tz.resolve_left hn
 have lz:0<=co ns (ns.length - 1)/\co ns (ns.length - 1)<(p:Int):=h _ (by
  unfold co
  rw [AU,Am ⋯]
  exact Db _)
 exact pp.cop λz=>by
  have:=EA ⋯ z
  omega
theorem XW (h:GQ K vs H Q E):Ol K { nx:=λ_ H'=>Q .non H',rt:=Q } (L2.start ["row","prime","factor"] vs) H:=by
 obtain ⟨q,ns,p,rfl,hq,p2n,bp,hl,bz,gcd1,k⟩:=h
 have p2:(2:Int)<=(p:Int):=by omega
 unfold Ol
 rwa [hq]
 by_cases hn:ns=[]
 ·subst hn
  refine AO (λ_=>?_) (λc=>absurd rfl c)
  refine ⟨sz ∅,λr hr=>k r [] 0 _ (AR hr _) upd_same rfl (λz=>absurd rfl z) ⟨λz hz=>(by cases hz),λi=>?_⟩⟩
  show (p:Int)∣co [] i - 0*co [] i
  rw [AX (AV _)];exact ⟨0,⋯⟩
 have l0:0<ns.length:=De.mpr hn
 refine AO (λc=>absurd c (by simpa using hn)) (λ_=>?_)
 have aL:=GT l0
 rwa [aL]
 refine ⟨p2,bp,λf f0 f1 hf=>?_⟩
 have gc:=gcd1 hn
 have hf:=hf gc
 have B:∀ {z:Int},0<=z->z<(p:Int)->Bd 60000000 z:=λh1 h2=>(bp.le ⋯).mono ∅
 refine ⟨⟨_,SqL.of hq⟩,Qk (λn=>n*f % (p:Int)) hq hl (λn hn P hP=>?_) λr hr=>?_⟩
 ·rwa []
  exact ⟨D8 (bz n hn) (B f0 f1),⋯,hP⟩
 ·have cm:∀ i,co (ns.map λn=>n*f % (p:Int)) i=co ns i*f % (p:Int):=λi=>Ix (F:=λn=>n*f % (p:Int)) (by simp) ns i
  refine k r _ f _ (AR hr _) upd_same (AL ..) (λ_=>?_) ⟨λz hz=>?_,λi=>?_⟩
  ·rw [AL,cm]
   obtain ⟨c,hc⟩:=hf
   have e:co ns (ns.length - 1)*f=1+(p:Int)*c:=by rw [Int.mul_comm];omega
   rw [e,Int.add_mul_emod_self_left]
   exact Int.emod_eq_of_lt ∅ ⋯
  ·obtain ⟨y,_,rfl⟩:=Bc.mp hz
   exact ⟨CM _ ⋯,CT _ ⋯⟩
  ·rw [cm]
   show (p:Int)∣co ns i*f % (p:Int) - f*co ns i
   rw [Int.mul_comm f]
   exact GU _ _
theorem XX (h:Ie K vs H Q E):Ot K { nx:=λ_ H'=>Q .non H',rt:=Q } (L2.start ["whole","prime","rest"] vs) H:=by
 obtain ⟨w,p,rfl,p0,k⟩:=h
 unfold Ot
 rwa []
 have r0:=CM w (show p≠0 by omega)
 have r1:=CT w p0
 have rd:=GU w p
 refine ⟨p0,IntMulOk.of_left (intBits_le_64 ⋯ ⋯),AO (λc=>?_) (λc=>?_)⟩
 ·refine k _ ?_ ⋯
  obtain ⟨γ,hγ⟩:=rd
  exact ⟨γ - 1,by rw [Int.mul_sub];omega⟩
 ·exact k _ rd ⋯
theorem XY (h:Ic K vs H Q E):Oq K { nx:=λ_ H'=>Q .non H',rt:=Q } (L2.start ["row","divisor","modulus"] vs) H:=by
 obtain ⟨p,q,ns,ms,m,b,rfl,hp,hq,m0,ml,mp,bm,bms,bb,hn,hm,k⟩:=h
 unfold Oq
 rwa [hp,hq]
 refine ⟨ns,rfl,ms,rfl,m0,ml,mp,b,bm,bms,bb,hn,hm,λt r s qs rs H' sH ht hr hs tq tr lr md _=>?_⟩
 refine ⟨_,ht,?_⟩
 rwa []
 exact k s qs rs H' sH hs tr lr md
theorem XZ (h:Id K vs H Q E):Os K { nx:=λ_ H'=>Q .non H',rt:=Q } (L2.start ["row","other","prime","rest"] vs) H:=by
 obtain ⟨a,b,ns,ms,p,rfl,ha,hb,pp,bp,hn,hm,h0,k⟩:=h
 have p2:(2:Int)<=(p:Int):=by have:=pp.two;omega
 unfold Os
 rwa [ha]
 refine ⟨ns,rfl,⋯,hn,λc r1 H1 s1 hc tz1 l1 md1=>?_⟩
 refine ⟨r1,p,rfl,hc,pp.two,bp,⋯,mbd bp md1.1,mcop pp tz1 md1.1,λd r2 f H2 s2 hd l2 o2 md2=>?_⟩
 have hb2:=s2 _ _ (s1 _ _ hb)
 rwa [hb2]
 refine ⟨ms,rfl,⋯,hm,λc' r3 H3 s3 hc' tz3 l3 md3=>?_⟩
 refine ⟨r3,p,rfl,hc',pp.two,bp,⋯,mbd bp md3.1,mcop pp tz3 md3.1,λd' r4 f' H4 s4 hd' l4 o4 md4=>?_⟩
 have s04:Same H H4:=((s1.trans s2).trans s3).trans s4
 have hd4:=(s3.trans s4) _ _ hd
 have step:∀ {g h:Nat->Int} {rs:List Int} {f:Int},Dm (p:Int) g h->Md (p:Int) rs (λk=>f*h k)->Dm (p:Int) g (co rs):=λ{g h rs f} d md=>by
  refine Dm.congr (Dm.less d d f 0 0) λk=>?_
  have:=md.2 k
  show (p:Int)∣co rs k - (f*h k - 0*_)
  rw [Int.zero_mul,Int.sub_zero]
  exact this
 have nz:∀ {xs rs rs2:List Int} {f:Int},(∃ k,¬ (p:Int)∣co xs k)->Md (p:Int) rs (co xs)->rs2.length=rs.length->0<rs2.length:=λ{xs rs rs2 f} ⟨k,hk⟩ md e=>by
  rcases DH rs2.length with z | z
  ·exfalso
   have:=md.2 k
   rw [AX ⋯] at this
   have t2:=Int.dvd_neg.mpr this
   rw [show ∀ x:Int,-(0 - x)=x by intro x;omega] at t2
   exact hk t2
  ·exact z
 have M1:∀ {xs rs:List Int},Md (p:Int) rs (co xs)->∀ {g:Nat->Int},Dm (p:Int) g (co xs)->Dm (p:Int) g (co rs):=λmd g d=>Dm.congr d md.2
 have back1:∀ {g:Nat->Int} {r r2:List Int} {f:Int},Md (p:Int) r2 (λk=>f*co r k)->r2.length=r.length->(r≠[]->co r2 (r2.length - 1)=1)->Dm (p:Int) g (co r2)->Dm (p:Int) g (co r):=λ{g r r2 f} md l o d=>by
  by_cases r0:r=[]
  ·exact Dm.zero _ _ λk=>by rw [r0,AX (AV _)];exact C8 _
  ·refine Dm.congr (Dm.less d d (co r (r.length - 1)) 0 0) λk=>?_
   show (p:Int)∣co r k - (co r (r.length - 1)*co r2 k - 0*_)
   rw [Int.zero_mul,Int.sub_zero]
   have h1:=md.2 k
   have h2:=md.2 (r2.length - 1)
   rw [o r0,l] at h2
   have q1:(p:Int)∣co r (r.length - 1)*(co r2 k - f*co r k):=Fp h1
   have q2:(p:Int)∣co r k*(1 - f*co r (r.length - 1)):=Fp h2
   refine Cq (Int.dvd_sub q2 q1) (Em ?_)
   ext
 have back:∀ {g:Nat->Int} {xs r r2:List Int} {f:Int},Md (p:Int) r (co xs)->Md (p:Int) r2 (λk=>f*co r k)->r2.length=r.length->(r≠[]->co r2 (r2.length - 1)=1)->Dm (p:Int) g (co r2)->Dm (p:Int) g (co xs):=λ{g xs r r2 f} md1 md l o d=>Dm.congr (back1 md l o d) λk=>by
  have:=Int.dvd_neg.mpr (md1.2 k)
  refine Cq this (Em ?_)
  omega
 refine Eg (λm σ H'=>∃ (x y:Addr) (xs ys:List Int) (u:Option V),σ=[some (.ref x),some (.ref y),some (.int (p:Int)),u]/\Same H H'/\H' x=some (.lst (xs.map V.int))/\H' y=some (.lst (ys.map V.int))/\m=ys.length/\xs.length<=1000/\ys.length<=1000/\(0<xs.length\/0<ys.length)/\(xs≠[]->co xs (xs.length - 1)=1)/\(ys≠[]->co ys (ys.length - 1)=1)/\(∀ z∈xs,0<=z/\z<(p:Int))/\(∀ z∈ys,0<=z/\z<(p:Int))/\
  (∀ g:Nat->Int,Dm (p:Int) g (co ns)->Dm (p:Int) g (co ms)->Dm (p:Int) g (co xs)/\Dm (p:Int) g (co ys))/\(∀ g:Nat->Int,Dm (p:Int) g (co xs)->Dm (p:Int) g (co ys)->Dm (p:Int) g (co ns)/\Dm (p:Int) g (co ms))) r4.length ⟨d,d',r2,r4,none,rfl,s04,hd4,hd',rfl,⋯,⋯,?_,?_,?_,md2.1,md4.1,λg d1 d2=>⟨step (M1 md1 d1) md2,step (M1 md3 d2) md4⟩,λg d1 d2=>⟨back md1 md2 l2 o2 d1,back md3 md4 l4 o4 d2⟩⟩ ?_
 ·rcases h0 with h | h
  ·exact .inl (nz (f:=f) h md1 l2)
  ·exact .inr (nz (f:=f) h md3 l4)
 ·intro z
  exact o2 λe=>z (CU.mp (by rw [l2,e];rfl))
 ·intro z
  exact o4 λe=>z (CU.mp (by rw [l4,e];rfl))
 ·rintro m σ H' ⟨x,y,xs,ys,u,rfl,sH,hx,hy,rfl,xl,yl,ne,ox,oy,bx,bY,hD,hE⟩
  rwa [hy]
  by_cases hys:ys=[]
  ·subst hys
   refine AO (λc=>absurd c (by simp)) (λ_=>?_)
   have x0:0<xs.length:=by simpa using ne
   have rfx:Dm (p:Int) (co xs) (co xs):=⟨[1],λk=>by
    have e:cvL [1] (co xs) k=co xs k:=by
     cases k with
     | zero=>rw [Ar];omega
     | succ k=>rw [Ak,Ay];omega
    rw [e,Int.sub_self];exact C8 _⟩
   have zz:Dm (p:Int) (co xs) (co []):=Dm.zero _ _ λk=>by rw [AX (AV _)];exact C8 _
   exact k x xs H' sH hx x0 xl (ox (De.mp x0)) bx (λg d1 d2=>(hD g d1 d2).1) (hE _ rfx zz).1 (hE _ rfx zz).2
  ·have y0:0<ys.length:=De.mpr hys
   refine AO (λ_=>?_) (λc=>absurd hys (by simpa using c))
   refine ⟨λσ' H''=>∃ m',m'<ys.length/\_,λ_ _ h=>h,?_⟩
   rwa [hx,hy]
   have B:∀ z:Int,0<=z->z<(p:Int)->Bd 45000 z:=λz h1 h2=>bp.le ⋯
   refine ⟨xs,rfl,ys,rfl,y0,oy hys,⋯,45000,bp,λz hz=>B z (bY z hz).1 (bY z hz).2,∅,xl,yl,λs qs rs H2 sH2 hs trs lrs md=>?_⟩
   have whole:∀ g:Nat->Int,Dm (p:Int) g (co ys)->Dm (p:Int) g (co rs)->Dm (p:Int) g (co xs):=λg d1 d2=>by
    obtain ⟨S1,h1⟩:=d1
    obtain ⟨S2,h2⟩:=d2
    refine ⟨Ae S2 (Au qs S1),λk=>?_⟩
    rw [BT,B4]
    have e1:=cvD h1 qs k
    have m2:(p:Int)∣co rs k - (co xs k - cvL qs (co ys) k):=md.2 k
    have:=C6 (Int.dvd_sub (h2 k) m2) e1
    refine Cq this (Em ?_)
    omega
   refine ⟨rs,p,rfl,hs,pp.two,bp,⋯,mbd bp md.1,mcop pp trs md.1,λt ts f H3 sH3 ht lt ot mdt=>?_⟩
   refine ⟨ts.length,⋯,(sH.trans sH2).trans sH3,ys,(sH2.trans sH3) _ _ hy,ts,ht,rfl,yl,⋯,.inl y0,oy,λz=>ot λe=>z (CU.mp (by rw [lt,e];rfl)),bY,mdt.1,λg d1 d2=>⟨(hD g d1 d2).2,?_⟩,λg d1 d2=>hE g (whole g d1 (back1 mdt lt ot d2)) d1⟩
   obtain ⟨dx,dy⟩:=hD g d1 d2
   have dr:Dm (p:Int) g (co rs):=by
    obtain ⟨S1,h1⟩:=dx
    obtain ⟨S2,h2⟩:=dy
    refine Dm.congr (f:=λk=>co xs k - cvL qs (co ys) k) ⟨Ae S1 ((Au qs S2).map (-1*·)),λk=>?_⟩ md.2
    rw [BT,A6,B4]
    have e:(p:Int)∣cvL qs (co ys) k - cvL qs (cvL S2 g) k:=by
     have lin:∀ (A:List Int) (k:Nat),(p:Int)∣cvL A (co ys) k - cvL A (cvL S2 g) k:=by
      intro A
      induction A with
      | nil=>intro k;rw [Ay,Ay];exact ⟨0,⋯⟩
      | cons a A ih=>
        intro k
        rw [FB,FB]
        have i2:(p:Int)∣DO (cvL A (co ys)) k - DO (cvL A (cvL S2 g)) k:=by
         cases k with
         | zero=>exact ⟨0,by show (0:Int) - 0=_;omega⟩
         | succ k=>exact ih k
        have i1:(p:Int)∣a*(co ys k - cvL S2 g k):=Fp (h2 k)
        have:=C6 i1 i2
        rw [show a*(co ys k - cvL S2 g k)+(DO (cvL A (co ys)) k - DO (cvL A (cvL S2 g)) k)=a*co ys k+DO (cvL A (co ys)) k - (a*cvL S2 g k+DO (cvL A (cvL S2 g)) k) by rw [Int.mul_sub];omega] at this
        exact this
     exact lin qs k
    have:=Int.dvd_sub (h1 k) e
    rw [show co xs k - cvL S1 g k - (cvL qs (co ys) k - cvL qs (cvL S2 g) k)=co xs k - cvL qs (co ys) k - (cvL S1 g k + -1*cvL qs (cvL S2 g) k) by omega] at this
    exact this
   exact step dr mdt
theorem Xa (h:Ib K vs H Q E):Wd K { nx:=λ_ H'=>Q .non H',rt:=Q } (L2.start ["row","divisor","modulus","rest","last","quotient","shift","weight","place"] vs) H:=by
 obtain ⟨p,q,ns,ms,m,b,rfl,hp,hq,m0,ml,mp,bm,bms,bb,hn,hm,kR⟩:=h
 obtain ⟨L,hL⟩:∃ L,ms.length=L+1:=⟨ms.length - 1,⋯⟩
 have hL1:ms.length - 1=L:=by omega
 rw [hL1] at ml
 generalize hc:ns.length - L=c
 refine BE (NN (KC rfl ⟨_,_,rfl,hp,λa ha=>?_⟩))
 have sa:=AR ha (.lst (ns.map V.int))
 have hpa:=sa _ _ hp
 have hqa:=sa _ _ hq
 have ela:((List.map V.int ms).length:Int) - 1=(L:Int):=by rw [AL];omega
 refine ⟨_,rfl,_,_,rfl,hqa,_,_,rfl,rfl,?_⟩
 show Op K _ [some (.ref p),some (.ref q),some (.int m),some (.ref a),some (.int (((List.map V.int ms).length:Int) - 1)),none,none,none,none] _
 rw [ela]
 refine BE (CL (IJ (r_c ⟨D6,λx hx=>?_⟩)))
 have hpx:=AR hx (.lst [.int 0]) _ _ hpa
 have hmax:(if (0:Int) > ((List.map V.int ns).length:Int) - (L:Int) then (0:Int) else ((List.map V.int ns).length:Int) - (L:Int))=(c:Int):=by
  rw [AL];split <;> omega
 refine ⟨_,rfl,_,_,rfl,hpx,_,rfl,_,_,rfl,rfl,_,_,rfl,?_⟩
 refine ⟨_,(c:Int),_,rfl,congrArg V.int hmax,upd_same,⋯,⋯,sz (by simp;omega),λy hy=>?_⟩
 refine NP ha hx hy λH1 hay hyy sH nay nyH=>?_
 rw [Fj ns] at hay
 rw [Dc,Kw] at hyy
 have hp1:=sH _ _ hp
 have elo:((List.map V.int ns).length:Int) - (L:Int) - 1=(ns.length:Int) - (L:Int) - 1:=by rw [AL]
 have ecn:((ns.length:Int) - (L:Int) - 1 - -1).toNat=c:=by omega
 refine NO ?_
 refine ⟨_,rfl,_,_,rfl,hp1,_,rfl,_,_,rfl,rfl,_,_,rfl,rfl,_,rfl,_,rfl,(ns.length:Int) - (L:Int) - 1,_,by rw [<-elo],⟨⋯,⋯,∅,∅⟩,?_⟩
 rw [ecn]
 let Iv:Nat->L2.St->Hp->Prop:=λi σ H2=>i<=c/\∃ (F G:Nat->Int) (u v w:Option V),σ=[some (.ref p),some (.ref q),some (.int m),some (.ref a),some (.int (L:Int)),some (.ref y),u,v,w]/\Same H H2/\H2 a=some (.lst (AY ns.length F))/\H2 y=some (.lst (AY c G))/\
  (∀ j,j<c - i->G j=0)/\(∀ k,k<ns.length - i->m∣F k - (co ns k - cvL ((List.range c).map G) (co ms) k))/\(∀ k,ns.length - i<=k->m∣co ns k - cvL ((List.range c).map G) (co ms) k)/\(∀ j,j<c->0<=G j/\G j<m)
 refine ForJ.down Iv ⟨AV _,co ns,λ_=>0,none,none,none,rfl,sH,hay,hyy,λ_ _=>rfl,λk _=>by rw [Iw];exact ⟨0,⋯⟩,λk hk=>by rw [Iw,AX ⋯];exact ⟨0,⋯⟩,λk _=>⟨Int.le_refl 0,mp⟩⟩ ?_ ?_
 ·rintro i σ H2 hi ⟨_,F,G,u,v,w,rfl,s2,ha2,hy2,hG,hF,hF2,bG⟩
  have hq2:=s2 _ _ hq
  have ic:i<c:=hi
  have esh:((ns.length:Int) - (L:Int) - 1 - (i:Int))=((c - 1 - i:Nat):Int):=by omega
  rw [esh]
  generalize hs:c - 1 - i=s
  have hst:s+L=ns.length - 1 - i:=by omega
  have aT:atI (AY ns.length F) ((s:Int)+(L:Int))=some (V.int (F (s+L))):=DP (j:=s+L) ⋯ (CQ F ⋯)
  refine ⟨_,rfl,_,rfl,_,rfl,_,_,rfl,rfl,_,_,_,_,rfl,rfl,ha2,aT,_,rfl,_,_,rfl,rfl,mp,?_⟩
  show On K _ [some (.ref p),some (.ref q),some (.int m),some (.ref a),some (.int (L:Int)),some (.ref y),some (.int (s:Int)),some (.int (F (s+L) % m)),w] H2
  have w0:=CM (F (s+L)) (show m≠0 by omega)
  have w1:=CT (F (s+L)) mp
  have wd:=GU (F (s+L)) m
  generalize hw:F (s+L) % m=wt at w0 w1 wd ⊢
  have bwt:Bd b wt:=bm.le ⋯
  refine ⟨_,rfl,_,rfl,_,rfl,_,_,_,s,rfl,rfl,hy2,by rw [Cz];exact El rfl ⋯,?_⟩
  show Om K _ [some (.ref p),some (.ref q),some (.int m),some (.ref a),some (.int (L:Int)),some (.ref y),some (.int (s:Int)),some (.int wt),w] (upd H2 y (.lst ((AY c G).set s (V.int wt))))
  rw [show (AY c G).set s (V.int wt)=AY c (λj=>if j=s then wt else G j) from Ek ⋯ (Zu rfl) λj _ hj=>Zt hj]
  have s3:Same H (upd H2 y (.lst (AY c λj=>if j=s then wt else G j))):=λz o h=>Kp.upd z o (BO h nyH) (s2 z o h)
  have ha3:(upd H2 y (.lst (AY c λj=>if j=s then wt else G j))) a=_:=(Ag nay).trans ha2
  have hy3:(upd H2 y (.lst (AY c λj=>if j=s then wt else G j))) y=_:=upd_same
  generalize (upd H2 y (.lst (AY c λj=>if j=s then wt else G j)))=H3 at s3 ha3 hy3 ⊢
  have cvE:∀ k,cvL ((List.range c).map λj=>if j=s then wt else G j) (co ms) k=cvL ((List.range c).map G) (co ms) k+wt*Av s (co ms) k:=λk=>Qj ⋯ (hG s ⋯) _ k
  have fin:∀ (F':Nat->Int) (u v w:Option V) (H4:Hp),Same H H4->H4 a=some (.lst (AY ns.length F'))->H4 y=some (.lst (AY c λj=>if j=s then wt else G j))->(∀ k,k<ns.length->F' k=F k - (if s<=k/\k - s<L then wt*co ms (k - s) else 0))->
    Iv (i+1) [some (.ref p),some (.ref q),some (.int m),some (.ref a),some (.int (L:Int)),some (.ref y),u,v,w] H4:=λF' u v w H4 s4 ha4 hy4 eF=>by
   refine ⟨⋯,F',_,u,v,w,rfl,s4,ha4,hy4,λj hj=>?_,λk hk=>?_,λk hk=>?_,λj hj=>?_⟩
   ·show (if j=s then wt else G j)=0
    rw [Zt ⋯];exact hG j ⋯
   ·have hf:=hF k ⋯
    rw [eF k ⋯,cvE]
    unfold Av
    by_cases h:s<=k
    ·rw [Zu h,Zu ⟨h,⋯⟩]
     rw [show ∀ x y z w:Int,x - y - (z - (w+y))=x - (z - w) by intro x y z w;omega]
     exact hf
    ·rw [Zt h,Zt ⋯]
     rw [show ∀ x z w:Int,x - 0 - (z - (w+wt*0))=x - (z - w) by intro x z w;omega]
     exact hf
   ·rw [cvE]
    by_cases ek:k=s+L
    ·have hf:=hF k ⋯
     rw [ek] at hf ⊢
     unfold Av
     rw [Zu ⋯,show s+L - s=L by omega,ml]
     obtain ⟨α,hα⟩:=hf
     obtain ⟨β,hβ⟩:=wd
     exact ⟨-α - β,by rw [Int.mul_sub,Int.mul_neg];omega⟩
    ·have h2:=hF2 k ⋯
     unfold Av
     by_cases h:s<=k
     ·rw [Zu h,AX (a:=ms) ⋯,Int.mul_zero,Int.add_zero];exact h2
     ·rw [Zt h,Int.mul_zero,Int.add_zero];exact h2
   ·show 0<=(if j=s then wt else G j)/\(if j=s then wt else G j)<m
    split
    ·exact ⟨w0,w1⟩
    ·exact bG j hj
  refine ⟨_,rfl,rfl,_,rfl,AO (λcw=>?_) (λcw=>?_)⟩
  ·refine ⟨_,rfl,_,rfl,⋯,⋯,?_⟩
   rw [Dc]
   refine ForR.by (λj σ H4=>∃ (u:Option V),σ=[some (.ref p),some (.ref q),some (.int m),some (.ref a),some (.int (L:Int)),some (.ref y),some (.int (s:Int)),some (.int wt),u]/\Same H H4/\H4 a=some (.lst (AY ns.length λk=>F k - (if s<=k/\k - s<j then wt*co ms (k - s) else 0)))/\H4 y=some (.lst (AY c λj=>if j=s then wt else G j))) ⟨w,rfl,s3,?_,hy3⟩ ?_ ?_
   ·rw [ha3]
    exact congrArg (λl=>some (HO.lst l)) (D7 λk _=>by rw [Zt ⋯];omega)
   ·rintro j σ H4 hj ⟨u',rfl,s4,ha4,hy4⟩
    have hq4:=s4 _ _ hq
    have aj:atI (ms.map V.int) (0+(j:Int))=some (V.int (co ms j)):=DP (j:=j) ⋯ (by rw [Fj];exact CQ _ ⋯)
    refine ⟨_,rfl,_,rfl,_,rfl,_,_,rfl,rfl,_,_,_,_,rfl,rfl,ha4,DP (j:=s+j) ⋯ (CQ _ ⋯),_,rfl,_,rfl,_,rfl,_,_,_,_,rfl,rfl,hq4,aj,_,_,rfl,rfl,D8 bwt (C5 bms j),_,_,rfl,rfl,_,_,_,s+j,rfl,rfl,ha4,by rw [Cz];exact El ⋯ ⋯,?_⟩
    refine ⟨_,rfl,?_,?_,?_⟩
    ·intro z o h
     exact Kp.upd z o (BO h ha) (s4 z o h)
    ·refine upd_same.trans (congrArg (λl=>some (HO.lst l)) (Ek ⋯ ?_ λk _ hk=>?_))
     ·rw [Zu ⋯,Zt ⋯,show s+j - s=j by omega];omega
     ·by_cases h:s<=k/\k - s<j
      ·rw [Zu h,Zu ⋯]
      ·rw [Zt h,Zt ⋯]
    ·rw [Ag (Ne.symm nay)];exact hy4
   ·rintro σ H4 ⟨u',rfl,s4,ha4,hy4⟩
    exact fin _ _ _ _ _ s4 ha4 hy4 λk _=>rfl
  ·have w0':wt=0:=by simpa using cw
   exact fin F _ _ _ _ s3 ha3 hy3 λk _=>by rw [w0'];split <;> omega
 ·rintro σ H2 ⟨_,F,G,u,v,w,rfl,s2,ha2,hy2,hG,hF,hF2,bG⟩
  rw [HR] at hy2
  show Oo K _ _ _
  refine EK (GI (G1 ⟨_,rfl,_,_,rfl,hy2,λt ht=>?_⟩))
  have st:=AR ht (.lst (List.map V.int (Cy (List.map G (List.range c)))))
  have ha3:=st _ _ ha2
  have htt:upd H2 t (.lst (List.map V.int (Cy (List.map G (List.range c))))) t=_:=upd_same
  generalize upd H2 t (.lst (List.map V.int (Cy (List.map G (List.range c)))))=H3 at st ha3 htt ⊢
  refine By ⟨_,rfl,_,rfl,_,rfl,_,_,rfl,ha3,λz hz=>⟨_,rfl,z,(List.range (min L ns.length)).map F,m,rfl,by rw [K8];exact upd_same,mp,by rw [AL,Bm];omega,λr rs H4 s4 hr4 tr lr md=>?_⟩⟩
  have sz2:=(AR hz _).trans s4
  rw [AL,Bm] at lr
  refine ⟨Cw,λe he=>?_⟩
  have se:=AR he (.tup [.ref t,.ref r])
  have cq:∀ k,cvL (Cy ((List.range c).map G)) (co ms) k=cvL ((List.range c).map G) (co ms) k:=λk=>by
   rw [Bx,BK (λj=>K7 _ j) ms k,<-Bx]
  refine kR e t r _ rs _ ((s2.trans st).trans (sz2.trans se)) upd_same (se _ _ (sz2 _ _ htt)) (se _ _ hr4) (K6 _) tr ⋯ ⟨md.1,λk=>?_⟩ λz hz=>?_
  ·have:=md.2 k
   rw [IF] at this
   show m∣co rs k - (co ns k - cvL (Cy ((List.range c).map G)) (co ms) k)
   rw [cq]
   by_cases hk:k<min L ns.length
   ·rw [Zu hk] at this
    have h2:=C6 this (hF k ⋯)
    rw [show ∀ x y z:Int,x - y+(y - z)=x - z by intro x y z;omega] at h2
    exact h2
   ·rw [Zt hk] at this
    have h2:=Int.dvd_sub this (hF2 k ⋯)
    rw [show ∀ x y:Int,x - 0 - y=x - y by intro x y;omega] at h2
    exact h2
  ·obtain ⟨j,hj,rfl⟩:=Bc.mp (Ql hz)
   exact bG j (ER.mp hj)
theorem SDs.tp {H H':Hp} (s:Same H H'):∀ {xs:List V} {rs:List (List Int)},SDs H xs rs->SDs H' xs rs
 | [],[],_=>trivial
 | _::_,_::_,h=>⟨let ⟨p,e,q⟩:=h.1;⟨p,e,s _ _ q⟩,SDs.tp s h.2⟩
 | [],_::_,h=>h.elim
 | _::_,[],h=>h.elim
theorem SD.tp {H H':Hp} (s:Same H H') {p:Addr} {rs:List (List Int)} (h:SD H p rs):SD H' p rs:=let ⟨xs,e,q⟩:=h;⟨xs,s _ _ e,q.tp s⟩
theorem SDs.length {H:Hp}:∀ {xs:List V} {rs:List (List Int)},SDs H xs rs->xs.length=rs.length
 | [],[],_=>rfl
 | _::_,_::_,h=>congrArg (·+1) (SDs.length h.2)
 | [],_::_,h=>h.elim
 | _::_,[],h=>h.elim
theorem SDs.get {H:Hp}:∀ {xs:List V} {rs:List (List Int)} {i:Nat} {v:V},SDs H xs rs->xs[i]?=some v->∃ p r,v=.ref p/\rs[i]?=some r/\H p=some (.lst (r.map V.int))
 | [],[],_,_,_,e=>by simp at e
 | _::_,r::_,0,_,h,e=>by
   simp at e;subst e
   obtain ⟨p,e,q⟩:=h.1
   exact ⟨p,r,e,rfl,q⟩
 | _::_,_::_,i+1,_,h,e=>by
   obtain ⟨p,r,h1,h2,h3⟩:=SDs.get (i:=i) h.2 (by simpa using e)
   exact ⟨p,r,h1,by simpa using h2,h3⟩
 | [],_::_,_,_,h,_=>h.elim
 | _::_,[],_,_,h,_=>h.elim
theorem SDs.snoc {H:Hp} {p:Addr} {r:List Int} (hp:H p=some (.lst (r.map V.int))):∀ {xs:List V} {rs:List (List Int)},SDs H xs rs->SDs H (xs++[.ref p]) (rs++[r])
 | [],[],_=>⟨⟨p,rfl,hp⟩,trivial⟩
 | _::_,_::_,h=>⟨h.1,SDs.snoc hp h.2⟩
 | [],_::_,h=>h.elim
 | _::_,[],h=>h.elim
theorem SD.head {H:Hp} {p:Addr} {r:List Int} {rs:List (List Int)} (h:SD H p (r::rs)):∃ a xs,H p=some (.lst (.ref a::xs))/\H a=some (.lst (r.map V.int))/\SDs H (.ref a::xs) (r::rs):=by
 obtain ⟨xs,e,q⟩:=h
 match xs,q with
 | [],q=>exact q.elim
 | x::xs,q=>
   obtain ⟨a,e1,e2⟩:=q.1
   subst e1
   exact ⟨a,xs,e,e2,q⟩
theorem GV {α:Type} (x:α) (xs:List α):atI (x::xs) 0=some x:=by
 unfold atI ixN
 rw [Zu ∅,Zu (by rw [Cr];omega)]
 rfl
theorem Xb (h:HB K vs H Q E):OR K { nx:=λ_ H'=>Q .non H',rt:=Q } (L2.start ["strand","shared","row"] vs) H:=by
 obtain ⟨p,rows,rfl,⟨xs,hp,hS⟩,hl,hr,k⟩:=h
 have lx:=hS.length
 unfold OR
 rwa []
 refine ⟨⟨_,SqL.of hp⟩,ForL.by (xs:=xs) (λi σ H'=>∃ (g:Int) (u:Option V),σ=[some (.ref p),some (.int g),u]/\Same H H'/\0<=g/\(∀ r∈rows.take i,∀ z∈r,g∣z)/\(∀ d:Int,(∀ r∈rows.take i,∀ z∈r,d∣z)->d∣g)) ⟨0,none,rfl,Same.refl H,Int.le_refl 0,λr hr=>(by simp at hr),λd _=>C8 d⟩ ?_ ?_ ?_⟩
 ·rintro i σ H' _ ⟨g,u,rfl,s,_⟩
  exact SqL.of (s _ _ hp)
 ·rintro i x σ H' hi ⟨g,u,rfl,s,g0,g1,g2⟩
  obtain ⟨a,r,rfl,hri,ha⟩:=hS.get hi
  have ha':=s _ _ ha
  have hrm:=hr r (Bu hri)
  rwa [ha']
  refine ⟨r,rfl,hrm.1,λg' H2 s2 g0' d1 d2 d3=>?_⟩
  have et:rows.take (i+1)=rows.take i++[r]:=by rw [DR,hri];rfl
  refine ⟨s.trans s2,g0',λr' hr' z hz=>?_,λd hd=>d3 d ?_ λz hz=>?_⟩
  ·rw [et] at hr'
   rcases CZ.mp hr' with h | h
   ·exact Cq d1 (g1 r' h z hz)
   ·rw [Az.mp h] at hz;exact d2 z hz
  ·exact g2 d λr' hr' z hz=>hd r' (by rw [et];exact ES _ hr') z hz
  ·exact hd r (by rw [et];exact Cb _ (Az.mpr rfl)) z hz
 ·rintro σ H' ⟨g,u,rfl,s,g0,g1,g2⟩
  rw [lx,C7] at g1 g2
  have hp':=s _ _ hp
  have gz:∀ r∈rows,0<g\/r=[]:=λr hrr=>by
   rcases Int.lt_or_le 0 g with h | h
   ·exact .inl h
   ·right
    have ge:g=0:=by omega
    rcases (hr r hrr).2 with h | h
    ·exact h
    ·exfalso
     by_cases hl0:r.length=0
     ·rw [AX ⋯] at h;exact h rfl
     ·have:=g1 r hrr (co r (r.length - 1)) (by
       unfold co
       rw [AU,Am ⋯]
       exact Db _)
      rw [ge] at this
      exact h (Int.zero_dvd.mp this)
  rwa []
  refine ⟨⟨_,SqL.of hp'⟩,CompJ.lst (xs:=xs) (λi ys H2=>i<=rows.length/\Same H H2/\SDs H2 ys ((rows.take i).map λr=>r.map (·/ g))) ⟨AV _,s,trivial⟩ ?_ ?_ ?_⟩
  ·rintro i ys H2 ⟨h1,s2,hy⟩
   refine ⟨⋯,sz ?_,SqL.of (s2 _ _ hp)⟩
   rw [hy.length,AL,Cm];omega
  ·rintro i x ys H2 hi ⟨h1,s2,hy⟩
   obtain ⟨a,r,rfl,hri,ha⟩:=hS.get hi
   have ha':=s2 _ _ ha
   have hrm:=hr r (Bu hri)
   have hi2:i<rows.length:=(Bp.mp hri).1
   rwa [ha']
   refine ⟨r,rfl,gz r (Bu hri),hrm.1,λt ht=>?_⟩
   refine ⟨⋯,s2.trans (AR ht _),?_⟩
   have et:(rows.take (i+1)).map (λr=>r.map (·/ g))=(rows.take i).map (λr=>r.map (·/ g))++[r.map (·/ g)]:=by rw [DR,hri];simp
   rw [et]
   exact SDs.snoc upd_same (hy.tp (AR ht _))
  ·rintro ys H2 ⟨_,s2,hy⟩ t ht
   rw [lx,C7] at hy
   have st:=AR ht (.lst ys)
   by_cases gp:0<g
   ·refine k t _ _ (s2.trans st) ⟨ys,upd_same,hy.tp st⟩ ⟨g,gp,?_⟩ (.inr λd hd=>?_)
    ·rw [Du]
     conv=>lhs;rw [<-List.map_id rows]
     refine EB λr hrr=>?_
     show r=(r.map (·/ g)).map (g*·)
     rw [Du]
     conv=>lhs;rw [<-List.map_id r]
     refine EB λz hz=>?_
     show z=g*(z / g)
     rw [Int.mul_ediv_cancel' (g1 r hrr z hz)]
    ·have hdg:d*g∣g:=g2 (d*g) λr hrr z hz=>by
      have h1:=hd (r.map (·/ g)) (Bc.mpr ⟨r,hrr,rfl⟩) (z / g) (Bc.mpr ⟨z,hz,rfl⟩)
      obtain ⟨c,hc⟩:=h1
      refine ⟨c,?_⟩
      have:=Int.mul_ediv_cancel' (g1 r hrr z hz)
      rw [<-this,hc];ext
     obtain ⟨c,hc⟩:=hdg
     have e:g*(d*c)=g*1:=by rw [Int.mul_one];conv=>rhs;rw [hc]
                            ext
     have e1:=Int.eq_of_mul_eq_mul_left ⋯ e
     have:d.natAbs*c.natAbs=1:=by rw [<-BI,e1];rfl
     exact Nat.eq_one_of_mul_eq_one_right this
   ·have ge:∀ r∈rows,r=[]:=λr hrr=>by
     rcases gz r hrr with h | h
     ·exact absurd h gp
     ·exact h
    have em:rows.map (λr=>r.map (·/ g))=rows:=by
     conv=>rhs;rw [<-List.map_id rows]
     refine EB λr hrr=>?_
     rw [ge r hrr];rfl
    rw [em] at hy
    refine k t rows _ (s2.trans st) ⟨ys,upd_same,hy.tp st⟩ ⟨1,∅,?_⟩ (.inl ge)
    conv=>lhs;rw [<-List.map_id rows]
    refine EB λr hrr=>?_
    rw [ge r hrr];rfl
theorem Xc {r:List Int} (h:∀ d:Int,(∀ z∈r,d∣z)->d.natAbs=1):Prim r:=λc hc=>h c λz hz=>by
 obtain ⟨i,hi,rfl⟩:=FJ hz
 have:=hc i
 unfold co at this
 rw [AU,Am hi] at this
 exact this
theorem Xd (h:Fi K vs H Q E):OS K { nx:=λ_ H'=>Q .non H',rt:=Q } (L2.start ["row"] vs) H:=by
 obtain ⟨p,ns,rfl,hp,hl,tz,k⟩:=h
 unfold OS
 rwa []
 refine ⟨sz ∅,λa ha=>?_⟩
 have sa:=AR ha (.lst [.ref p])
 refine ⟨[ns],⟨[V.ref p],upd_same,⟨⟨p,rfl,sa _ _ hp⟩,trivial⟩⟩,by simp,?_,λt rows' H' s' hSD hSh hP=>?_⟩
 ·intro r hr
  rw [Az.mp hr]
  exact ⟨hl,tz⟩
 obtain ⟨g,g0,eg⟩:=hSh
 match rows',eg,hSD,hP with
 | [ms],eg,hSD,hP=>
   obtain ⟨b,xs,h1,h2,_⟩:=hSD.head
   have eg':ns=ms.map (g*·):=by simpa using eg
   refine ⟨_,h1,_,GV _ _,k b ms g H' (sa.trans s') h2 g0 eg' ?_⟩
   rcases hP with h | h
   ·left;rw [eg',h ms (Az.mpr rfl)];rfl
   ·right
    exact Xc λd hd=>h d λr hr z hz=>by rw [Az.mp hr] at hz;exact hd z hz
 | [],eg,_,_=>simp at eg
 | _::_::_,eg,_,_=>simp at eg
theorem Xe {n:Nat} {a:List Int} (h:∀ k,Bd n (co a k)):∀ z∈a,Bd n z:=λz hz=>by
 obtain ⟨i,hi,rfl⟩:=FJ hz
 have:=h i
 unfold co at this
 rw [AU,Am hi] at this
 exact this
theorem Iy (g:Int) (a:List Int) (k:Nat):co (a.map (g*·)) k=g*co a k:=Ix (F:=(g*·)) ⋯ a k
theorem K9 {g:Int} (g0:g≠0) {a:List Int} (h:Tz (a.map (g*·))):Tz a:=by
 rcases h with h | h
 ·left;exact List.map_eq_nil_iff.mp h
 ·right
  rw [Iy,AL] at h
  exact λz=>h (by rw [z];omega)
theorem LA {n:Nat} {g:Int} (g0:0<g) {a:List Int} (h:∀ z∈a.map (g*·),Bd n z):∀ z∈a,Bd n z:=λz hz=>(h (g*z) (Bc.mpr ⟨z,hz,rfl⟩)).le (by
 rw [BI]
 exact Fm _ ⋯)
theorem Xf {a b:Int} (hb:b≠0) (h:a∣b):a.natAbs<=b.natAbs:=EA ⋯ (Cd.mpr h)
theorem Xg (h:IY K vs H Q E):OQ K { nx:=λ_ H'=>Q .non H',rt:=Q } (L2.start ["strand","other","shift","top","lead","shared","factor","weight"] vs) H:=by
 obtain ⟨p,q,o,rfl,hS,hO,o0,k⟩:=h
 obtain ⟨ac,xc,hp,hac,_⟩:=hS.head
 obtain ⟨ao,xo,hq,hao,_⟩:=hO.head
 have A1:atI (V.ref ac::xc) 0=some (V.ref ac):=GV _ _
 have A2:atI (V.ref ao::xo) 0=some (V.ref ao):=GV _ _
 unfold OQ
 rwa []
 refine Eg (λn σ H'=>σ=[some (.ref p),some (.ref q),none,none,none,none,none,none]/\H'=H/\n=0) 0 ⟨rfl,rfl,rfl⟩ ?_
 rintro n σ H' ⟨rfl,rfl,rfl⟩
 rwa [hp,hq,hac,hao,A1,A2]
 refine AO (λc=>by rw [AL] at c;exfalso;omega) (λ_=>?_)
 unfold OP
 rwa []
 refine ⟨[[]],hS,∅,(λr hr=>by rw [Az.mp hr];exact ⟨∅,.inl rfl⟩),λt rows H1 s1 hSD sh _=>k t H1 s1 ?_⟩
 obtain ⟨g,_,e⟩:=sh
 have l1:rows.length=1:=by have:=congrArg List.length e;simpa using this.symm
 obtain ⟨r,rfl⟩:∃ r,rows=[r]:=List.length_eq_one_iff.mp l1
 have e:[]=r.map (g*·):=List.head_eq_of_cons_eq e
 rw [List.map_eq_nil_iff.mp e.symm] at hSD
 exact hSD
theorem GW {a:List Int} (h:Tz a) (ne:a≠[]):Lz a:=by
 refine ⟨De.mpr ne,?_⟩
 rcases h with e | e
 ·exact absurd e ne
 ·exact e
theorem Xh (h:HC K vs H Q E):OT K { nx:=λ_ H'=>Q .non H',rt:=Q } (L2.start ["strand","other","rest"] vs) H:=by
 obtain ⟨p,q,s,o,rfl,hS,hO,em,k⟩:=h
 unfold OT
 rwa []
 refine Eg (λn σ H'=>(σ=[some (.ref p),some (.ref q),none]/\H'=H/\n=1)\/∃ (t:Addr) (u:Option V),σ=[some (.ref q),some (.ref t),u]/\Same H H'/\SD H' t [[]]/\o≠[]/\n=0) 1 (.inl ⟨rfl,rfl,rfl⟩) ?_
 rintro n σ H' (⟨rfl,rfl,rfl⟩ | ⟨t,u,rfl,sH,hT,o0,rfl⟩)
 ·obtain ⟨ao,xo,hq,hao,_⟩:=hO.head
  have A2:atI (V.ref ao::xo) 0=some (V.ref ao):=GV _ _
  rwa [hq,hao,A2]
  by_cases oe:o=[]
  ·refine AO (λc=>absurd oe (by simpa using c)) (λ_=>?_)
   rw [Zu oe] at k
   exact k p _ (Same.refl _) hS
  ·refine AO (λ_=>?_) (λc=>absurd (by simpa using c) oe)
   have se:s=[]:=by
    rcases em with z | z
    ·exact z
    ·exact absurd z oe
   rw [Zt oe] at k
   refine ⟨λσ' H''=>∃ m',m'<1/\_,λ_ _ h=>h,?_⟩
   rwa [hq,hao,A2]
   refine AO (λ_=>k q _ (Same.refl _) hO) (λ_=>?_)
   refine ⟨by rw [<-se];exact hS,o,hO,De.mpr oe,λt H1 s1 hT=>?_⟩
   exact ⟨0,∅,.inr ⟨s1,hT,oe,rfl⟩⟩
 ·obtain ⟨at',xt,ht,hat,_⟩:=hT.head
  have A2:atI (V.ref at'::xt) 0=some (V.ref at'):=GV _ _
  rwa [ht,hat,A2]
  refine AO (λc=>absurd c (by simp)) (λ_=>?_)
  rw [Zt o0] at k
  exact k q _ sH (hO.tp sH)
theorem Qm {b n c:Nat} {r a g:List Int} (hr:∀ z∈r,Bd b z) (rl:r.length<=n) (hn:n<2 ^ c) (lg:Lz g) (h:∀ k,co r k=cvL a (co g) k):∀ k,Bd (b+n*(2*c+4)) (co a k):=by
 rcases EJ a with z | ⟨a',la,_,ea⟩
 ·intro k;rw [z k];exact FY _
 have h':∀ k,co r k=cvL g (co a') k:=λk=>by rw [h k,Bx,BK (λk=>(ea k).symm) g k]
 have t:co r (a'.length - 1+(g.length - 1))≠0:=by rw [h',Bx,HQ la lg];exact CI la.2 lg.2
 have al:a'.length<=r.length:=by
  rcases BG (a'.length - 1+(g.length - 1)) r.length with c | c
  ·have:=la.1;omega
  ·exact absurd (AX c) t
 intro k
 rw [<-ea k]
 exact K4 hr ⟨_,t⟩ rl (Be al rl) hn h' k
theorem Xi {G S:List Int} (lG:Lz G) (h:∀ k,cvL S (co G) k=0) (k:Nat):co S k=0:=(K5 lG (T:=0) λk _=>h k).1 k (AV k)
theorem Gen.Prim {r o:Nat->Int} {g:List Int} (G:Gen r o g):Prim g:=λc hc=>by
 rcases BG c.natAbs 2 with h | h
 ·rcases DH c.natAbs with z | z
  ·exfalso
   have c0:c=0:=by omega
   have:=hc (g.length - 1)
   rw [c0] at this
   exact G.lz.2 (Int.zero_dvd.mp this)
  ·omega
 ·exfalso
  obtain ⟨n,hn,_⟩:=G.prim h
  exact hn (Int.natAbs_dvd.mpr (hc n))
theorem Xj {R O A B G:List Int} (lG:Lz G) (hA:∀ k,co R k=cvL A (co G) k) (hB:∀ k,co O k=cvL B (co G) k) (q:QI (co R) (co O) (co G)):QI (co A) (co B) AW:=by
 obtain ⟨d,d0,U,V,h⟩:=q
 refine ⟨d,d0,U,V,λk=>?_⟩
 have z:=Xi (S:=Ae (Ae (Au U A) (Au V B)) [-d]) lG (λk=>by
  rw [BT,BT,B4,B4,<-BK hA,<-BK hB]
  have:=h k
  have e:cvL [-d] (co G) k = -d*co G k:=by
   cases k with
   | zero=>rw [Ar];omega
   | succ k=>rw [Ak,Ay];omega
  rw [e,Dd,this];omega) k
 rw [Bw,BT,BT,B4,B4,<-BK (Bw A),<-BK (Bw B)] at z
 have e:cvL [-d] AW k = -d*AW k:=by
  cases k with
  | zero=>rw [Ar];omega
  | succ k=>rw [Ak,Ay];omega
 rw [e,Dd] at z
 omega
theorem Xk (p:Nat) (p0:0<p) (S:List Int):(∀ k,(p:Int)∣co S k)\/∃ T,Lz T/\(∀ k,(p:Int)∣co S k - co T k)/\¬ (p:Int)∣co T (T.length - 1):=by
 have cm:∀ k,co (S.map (·% (p:Int))) k=co S k % (p:Int):=λk=>Ix (F:=(·% (p:Int))) (Int.zero_emod _) S k
 rcases EJ (S.map (·% (p:Int))) with z | ⟨T,lT,_,eT⟩
 ·exact .inl λk=>Int.dvd_of_emod_eq_zero (by rw [<-cm k];exact z k)
 ·refine .inr ⟨T,lT,λk=>?_,λh=>?_⟩
  ·rw [eT,cm]
   exact ⟨co S k / p,by have:=Es (co S k) p;omega⟩
  ·have h1:=eT (T.length - 1)
   rw [cm] at h1
   have b1:=CM (co S (T.length - 1)) (show (p:Int)≠0 by omega)
   have b2:=CT (co S (T.length - 1)) (show (0:Int)<p by omega)
   have:=lT.2
   have l:=Int.le_of_dvd ⋯ h
   omega
theorem cvT {p:Int} {S T:List Int} {g:Nat->Int} {n:Nat} (hg:∀ i,n<=i->g i=0) (h:∀ k,p∣co S k - co T k) (k:Nat):p∣cvL S g k - cvL T g k:=by
 have e:∀ k,g k=co ((List.range n).map g) k:=λk=>by
  rw [IF];split
  ·rfl
  ·exact hg k ⋯
 rw [BK e,BK e,Bx,Bx T]
 have:=cvD (S:=[1]) (f:=co S) (g:=co T) (λk=>by
  have e1:cvL [1] (co T) k=co T k:=by
   cases k with
   | zero=>rw [Ar];omega
   | succ k=>rw [Ak,Ay];omega
  rw [e1];exact h k) ((List.range n).map g) k
 rwa [BK (b:=cvL [1] (co T)) (c:=co T) (λk=>by
  cases k with
  | zero=>rw [Ar];omega
  | succ k=>rw [Ak,Ay];omega)] at this
theorem Qn {p:Nat} (hp:Pr p) {R A G rs T:List Int} (hA:∀ k,co R k=cvL A (co G) k) (lG:Lz G) (pG:¬ (p:Int)∣co G (G.length - 1)) (hT:∀ k,(p:Int)∣co rs k - cvL T (co G) k) (d:Dm (p:Int) (co rs) (co R)):Dm (p:Int) (co T) (co A):=by
 obtain ⟨X,hX⟩:=d
 refine ⟨X,λk=>?_⟩
 have z:=IE hp pG (λi hi=>by rw [AX ⋯];exact C8 _) (Ae A ((Au X T).map ((-1)*·))) (λk _=>by
  rw [BT,A6,B4,<-hA]
  have h1:=hX k
  have h2:=cvD hT X k
  have:=C6 h1 h2
  refine Cq this (Em ?_)
  omega)
 have e:co A k - cvL X (co T) k=co (Ae A ((Au X T).map ((-1)*·))) k:=by
  rw [Bw (Ae A _),BT,A6,B4,<-Bw,<-BK (Bw T)];omega
 rw [e]
 exact W9 z k
theorem Xl {x e c n p N:Nat} (hx:x<2 ^ (c+1)) (hN:N<=2*(n - 1)) (big:2 ^ ((e+c+2)*(2*(n - 1)))<p):(2*(x*2 ^ e)) ^ N<p:=by
 have h1:2*(x*2 ^ e)<=2 ^ (e+c+2):=by
  have:x*2 ^ e<=2 ^ (c+1)*2 ^ e:=CP _ (C1 hx)
  have e2:2 ^ (e+c+2)=2*(2 ^ (c+1)*2 ^ e):=by rw [<-Cc,show e+c+2=(c+1+e)+1 by omega,B5];omega
  omega
 refine DG ?_ big
 rw [Nat.pow_mul]
 exact Be (Nat.pow_le_pow_left h1 N) (Cp (Bf ∅) hN)
theorem Xm {ns ms rs gs G:List Int} {p d n c e:Nat} {lead:Int} (hp:Pr p) (ln:Lz ns) (lm:Lz ms) (bn:∀ z∈ns,Bd d z) (bm:∀ z∈ms,Bd d z) (nn:ns.length<=n) (mn:ms.length<=n) (hc:n<2 ^ c) (n2:2<=n) (he:e=d+n*(2*c+4)) (big:2 ^ ((e+c+2)*(2*(n - 1)))<p)
  (hld:((Int.gcd (co ns (ns.length - 1)) (co ms (ms.length - 1)):Nat):Int)=lead) (hG:Gen (co ns) (co ms) G) (r0:0<rs.length) (one:co rs (rs.length - 1)=1) (glen:G.length<=rs.length) (pG:¬ (p:Int)∣co G (G.length - 1)) (dG:Dm (p:Int) (co G) (co rs)) (dn:Dm (p:Int) (co rs) (co ns)) (dm:Dm (p:Int) (co rs) (co ms))
  (gl:gs.length=rs.length) (hg:∀ k,k<rs.length->(p:Int)∣co gs k - lead*co rs k) (hb:∀ z∈gs,2*z.natAbs<=p):MQ (co gs) (co ns)/\MQ (co gs) (co ms):=by
 have p2:=hp.two
 have P:=hG.Prim
 have lG:=hG.lz
 obtain ⟨A,hA⟩:=gauss P hG.rc.left
 obtain ⟨B,hB⟩:=gauss P hG.rc.right
 have bA:=Qm bn nn hc lG hA
 have bB:=Qm bm mn hc lG hB
 have bG:∀ k,Bd e (co G k):=by
  rw [he]
  exact K4 bn ⟨_,ln.2⟩ nn (Be (Ir lG ln hG.rc.left) nn) hc hA
 rw [<-he] at bA bB
 have n0:1<=n:=by have:=ln.1;omega
 have cop:=Xj lG hA hB hG.qi
 obtain ⟨S,hS⟩:=dG
 have p0:0<p:=by omega
 have one':¬ (p:Int)∣(1:Int):=λz=>by have:=Int.le_of_dvd ∅ z;omega
 rcases Xk p p0 S with z | ⟨T,lT,hT,pT⟩
 ·exfalso
  have h1:=hS (rs.length - 1)
  have h2:=cvT (p:=(p:Int)) (S:=S) (T:=[]) (g:=co G) (n:=G.length) (λi hi=>AX hi) (λk=>by rw [AX (a:=[]) (AV _),Int.sub_zero];exact z k) (rs.length - 1)
  rw [one] at h1
  rw [Ay,Int.sub_zero] at h2
  have:=C6 h1 h2
  rw [Int.sub_add_cancel] at this
  exact one' this
 have hTr:∀ k,(p:Int)∣co rs k - cvL T (co G) k:=λk=>by
  have:=C6 (hS k) (cvT (λi hi=>AX hi) hT k (g:=co G) (n:=G.length))
  refine Cq this (Em ?_)
  omega
 have t0:=lT.1
 have g0:=lG.1
 have tl:T.length+G.length=rs.length+1:=by
  have tp:=HQ lT lG
  have np:¬ (p:Int)∣co T (T.length - 1)*co G (G.length - 1):=λz=>by
   rcases hp.mulI z with q | q
   ·exact pT q
   ·exact pG q
  have h1:=hTr (T.length - 1+(G.length - 1))
  rw [tp] at h1
  have c1:T.length - 1+(G.length - 1)<rs.length:=by
   rcases BG (T.length - 1+(G.length - 1)) rs.length with c | c
   ·exact c
   ·exfalso
    rw [AX c,Int.zero_sub] at h1
    exact np (Int.dvd_neg.mp h1)
  have h2:=hTr (rs.length - 1)
  rw [one] at h2
  rcases BG (T.length - 1+(G.length - 1)) (rs.length - 1) with c | c
  ·exfalso
   rw [Dq (n:=G.length) (λi hi=>AX hi) T _ ⋯,Int.sub_zero] at h2
   exact one' h2
  ·omega
 have dTA:=Qn hp hA lG pG hTr dn
 have dTB:=Qn hp hB lG pG hTr dm
 have trimmed:∀ {R A:List Int},Lz R->R.length<=n->(∀ k,co R k=cvL A (co G) k)->(∀ k,Bd e (co A k))->∃ A',Lz A'/\A'.length<=n/\co A'=co A:=λ{R A} lR Rn h _=>by
  rcases EJ A with z | ⟨A',la,_,ea⟩
  ·exact absurd (by rw [h,Bx,FE G z]) lR.2
  ·refine ⟨A',la,?_,funext ea⟩
   have t:co R (A'.length - 1+(G.length - 1))≠0:=by
    rw [h,Bx,BK (λk=>(ea k).symm) G,<-Bx,HQ la lG];exact CI la.2 lG.2
   rcases BG (A'.length - 1+(G.length - 1)) R.length with c | c
   ·have:=la.1;omega
   ·exact absurd (AX c) t
 obtain ⟨A',lA,An,eA⟩:=trimmed ln nn hA bA
 obtain ⟨B',lB,Bn,eB⟩:=trimmed lm mn hB bB
 have big1:2 ^ e<p:=DG (Cp ∅ (by
  have:(e+c+2)*1<=(e+c+2)*(2*(n - 1)):=B6 _ ⋯
  omega)) big
 have T1:T.length=1:=by
  rcases BG T.length 2 with cT | cT
  ·omega
  ·exfalso
   have short:∀ {A:List Int},Lz A->(∀ k,Bd e (co A k))->Dm (p:Int) (co T) (co A)->2<=A.length:=λ{A} lA bA dA=>by
    have:=Dm.len hp t0 pT dA ⟨A.length - 1,λz=>by
     have h1:=bA (A.length - 1)
     have h2:=Cd.mpr z
     have h3:=EA (by have:=lA.2;omega) h2
     rw [Ce] at h3
     have:(co A (A.length - 1)).natAbs<2 ^ e:=h1
     omega⟩
    omega
   have a2:=short lA (λk=>by rw [eA];exact bA k) (by rw [eA];exact dTA)
   have b2:=short lB (λk=>by rw [eB];exact bB k) (by rw [eB];exact dTB)
   refine lucky hp lA lB (by rw [eA,eB];exact cop) (λk=>by rw [eA];exact bA k) (λk=>by rw [eB];exact bB k) a2 b2 cT pT (by rw [eA];exact dTA) (by rw [eB];exact dTB) (Xl (x:=A'.length+B'.length) (c:=c) (n:=n) ?_ ⋯ big)
   rw [B5];omega
 obtain ⟨s,rfl⟩:∃ s,T=[s]:=by
  match T,T1 with
  | [s],_=>exact ⟨s,rfl⟩
 have hrs:∀ k,(p:Int)∣co rs k - s*co G k:=λk=>by
  have:=hTr k
  have e1:cvL [s] (co G) k=s*co G k:=by
   cases k with
   | zero=>rw [Ar];omega
   | succ k=>rw [Ak,Ay];omega
  rwa [e1] at this
 have lr:G.length=rs.length:=by simp at tl;omega
 have lcd:∀ {R A:List Int},(∀ k,co R k=cvL A (co G) k)->Lz R->co G (G.length - 1)∣co R (R.length - 1):=λ{R A} h lR=>by
  rcases EJ A with z | ⟨A',la,_,ea⟩
  ·exact absurd (by rw [h,Bx,FE G z]) lR.2
  ·have hh:∀ k,co R k=cvL A' (co G) k:=λk=>by rw [h,Bx,BK (λk=>(ea k).symm) G,<-Bx]
   have tp:=HQ la lG
   have a0:=la.1
   have rl:R.length - 1=A'.length - 1+(G.length - 1):=by
    rcases Nat.lt_trichotomy (R.length - 1) (A'.length - 1+(G.length - 1)) with c | c | c
    ·exfalso
     have:=hh (A'.length - 1+(G.length - 1))
     rw [AX (by have:=lR.1;omega),tp] at this
     exact CI la.2 lG.2 this.symm
    ·exact c
    ·exfalso
     have:=hh (R.length - 1)
     rw [Dq (n:=G.length) (λi hi=>AX hi) A' _ ⋯] at this
     exact lR.2 this
   rw [rl,hh,tp]
   exact Int.dvd_mul_left _ _
 obtain ⟨t,ht⟩:co G (G.length - 1)∣lead:=by rw [<-hld];exact Int.dvd_coe_gcd (lcd hA ln) (lcd hB lm)
 have lead0:lead≠0:=λz=>by
  rw [<-hld] at z
  have:Int.gcd (co ns (ns.length - 1)) (co ms (ms.length - 1))=0:=by omega
  exact ln.2 (Int.gcd_eq_zero_iff.mp this).1
 have t0':t≠0:=λz=>lead0 (by rw [ht,z,Int.mul_zero])
 have bt:t.natAbs<2 ^ d:=by
  have h1:lead∣co ns (ns.length - 1):=by rw [<-hld];exact Ep ..
  have h2:=Cq (show t∣lead from ⟨co G (G.length - 1),by rw [ht,Int.mul_comm]⟩) h1
  have h3:=EA (by have:=ln.2;omega) (Cd.mpr h2)
  have h4:(co ns (ns.length - 1)).natAbs<2 ^ d:=C5 bn _
  omega
 have egs:∀ k,co gs k=t*co G k:=λk=>by
  rcases BG k rs.length with ck | ck
  ·have h1:=hg k ck
   have h2:=hrs k
   have h3:=hrs (rs.length - 1)
   rw [one,<-lr] at h3
   have dv:(p:Int)∣co gs k - t*co G k:=by
    have q1:(p:Int)∣lead*(co rs k - s*co G k):=Fp h2
    have q2:(p:Int)∣(t*co G k)*(1 - s*co G (G.length - 1)):=Fp h3
    have:=Int.dvd_sub (C6 h1 q1) q2
    refine Cq this (Em ?_)
    rw [ht]
    ext
   have b1:2*(co gs k).natAbs<=p:=by
    have:co gs k∈gs:=by
     unfold co
     rw [AU,Am ⋯]
     exact Db _
    exact hb _ this
   have b2:2*(t*co G k).natAbs<p:=by
    rw [BI]
    have h5:t.natAbs*(co G k).natAbs<=2 ^ d*2 ^ e:=EC (C1 bt) (C1 (bG k))
    have h6:2*(2 ^ d*2 ^ e)<=2 ^ ((e+c+2)*(2*(n - 1))):=by
     rw [<-Cc,show 2*2 ^ (d+e)=2 ^ (d+e+1) by rw [B5];omega]
     refine Cp ∅ ?_
     have:(e+c+2)*2<=(e+c+2)*(2*(n - 1)):=B6 _ ⋯
     omega
    omega
   obtain ⟨y,hy⟩:=dv
   have ab:(co gs k - t*co G k).natAbs<p:=by omega
   rcases Int.lt_trichotomy y 0 with z | z | z
   ·have:(p:Int)*y<=(p:Int)*(-1):=EV ⋯ ⋯
    omega
   ·rw [z] at hy;omega
   ·have:(p:Int)*1<=(p:Int)*y:=EV ⋯ ⋯
    omega
  ·rw [AX ⋯,AX (a:=G) ⋯];omega
 have fin:∀ {R A:List Int},(∀ k,co R k=cvL A (co G) k)->MQ (co gs) (co R):=λ{R A} h=>⟨t,t0',A,λk=>by rw [BK egs,DX,h k]⟩
 exact ⟨fin hA,fin hB⟩
theorem Qo {g f:List Int} {A:List Int} (h:∀ k,co f k=cvL A (co g) k):MQ (co g) (co f):=⟨1,∅,A,λk=>by rw [<-h k];omega⟩
theorem Xn (h:Ig K vs H Q E):Ou K { nx:=λ_ H'=>Q .non H',rt:=Q } (L2.start ["row","other","prime","lead","found","guess"] vs) H:=by
 obtain ⟨a,b,ns,ms,p,d,nn,cc,rfl,ha,hb,pp,bp,ln,lm,bn,bm,dn,dm,nn1,nn2,nc,nn0,kN,kR⟩:=h
 have p2:(2:Int)<=(p:Int):=by have:=pp.two;omega
 unfold Ou
 have an:=GT ln.1
 have am:=GT lm.1
 rwa [ha,hb,an,am]
 generalize hld:((Int.gcd (co ns (ns.length - 1)) (co ms (ms.length - 1)):Nat):Int)=lead
 have ld1:lead∣co ns (ns.length - 1):=by rw [<-hld];exact Ep ..
 have bl:Bd d lead:=(C5 bn (ns.length - 1)).le (Xf ln.2 ld1)
 refine ⟨⋯,AO (λc=>?_) (λc=>?_)⟩
 ·refine kN (λbg=>?_) _ (Same.refl H)
  have bl':lead.natAbs<2 ^ d:=bl
  have z:=Int.dvd_of_emod_eq_zero (show lead % (p:Int)=0 by simpa using c)
  have l0:lead≠0:=λz=>by
   rw [<-hld] at z
   have:Int.gcd (co ns (ns.length - 1)) (co ms (ms.length - 1))=0:=by omega
   exact ln.2 (Int.gcd_eq_zero_iff.mp this).1
  have h3:=EA ⋯ (Cd.mpr z)
  rw [Ce] at h3
  have:2 ^ d<=2 ^ ((d+nn*(2*cc+4)+cc+2)*(2*(nn - 1))):=by
   refine Cp ∅ ?_
   have:(d+nn*(2*cc+4)+cc+2)*1<=(d+nn*(2*cc+4)+cc+2)*(2*(nn - 1)):=B6 _ ⋯
   omega
  have bg:2 ^ ((d+nn*(2*cc+4)+cc+2)*(2*(nn - 1)))<p:=bg
  omega
 have pl:¬ (p:Int)∣lead:=λz=>c (by rw [Int.emod_eq_zero_of_dvd z])
 have hnl:¬ (p:Int)∣co ns (ns.length - 1)\/¬ (p:Int)∣co ms (ms.length - 1):=by
  by_cases h1:(p:Int)∣co ns (ns.length - 1)
  ·right
   intro h2
   exact pl (by rw [<-hld];exact Int.dvd_coe_gcd h1 h2)
  ·exact .inl h1
 refine ⟨ns,ms,p,rfl,rfl,rfl,pp,bp,⋯,⋯,?_,λs rs H1 s1 hs r0 rl one br hD dvn dvm=>?_⟩
 ·rcases hnl with h | h
  ·exact .inl ⟨_,h⟩
  ·exact .inr ⟨_,h⟩
 refine ⟨⟨_,SqL.of hs⟩,CompJ.lst (xs:=rs.map V.int) (λi ys H'=>i<=rs.length/\H'=H1/\∃ gs:List Int,ys=gs.map V.int/\gs.length=i/\(∀ k,k<i->(p:Int)∣co gs k - lead*co rs k)/\∀ z∈gs,Bd 45000 z/\2*z.natAbs<=p) ⟨AV _,rfl,[],rfl,rfl,λk hk=>absurd hk ⋯,λz hz=>nomatch hz⟩ ?_ ?_ ?_⟩
 ·rintro i ys H' ⟨h1,rfl,gs,rfl,gl,_⟩
  exact ⟨by rw [AL];exact h1,sz (by rw [AL];omega),SqL.of hs⟩
 ·rintro i x ys H' hi ⟨h1,rfl,gs,rfl,gl,hg,bg⟩
  rw [Af] at hi
  cases e:rs[i]? with
  | none=>rw [e] at hi;cases hi
  | some n=>
    rw [e] at hi
    obtain rfl:V.int n=x:=Z1 hi
    have hi2:i<rs.length:=(Bp.mp e).1
    have bnn:=br n (Bu e)
    have cn:co rs i=n:=by unfold co;rw [AU,e];rfl
    rwa []
    refine ⟨D8 bl (bp.le (x:=(p:Int)) (y:=n) ⋯),⋯,λr hr1 hr2=>⟨⋯,gs++[r],by simp,by simp;omega,λk hk=>?_,λz hz=>?_⟩⟩
    ·by_cases ek:k=i
     ·subst ek
      have:co (gs++[r]) k=r:=by unfold co;rw [AU,<-gl];simp
      rw [this,cn];exact hr1
     ·have:co (gs++[r]) k=co gs k:=by unfold co;rw [AU,AU,List.getElem?_append_left ⋯]
      rw [this];exact hg k ⋯
    ·rcases CZ.mp hz with z1 | z1
     ·exact bg z z1
     ·rw [Az.mp z1];exact ⟨bp.le ⋯,by rw [Ce] at hr2;exact hr2⟩
 ·rintro ys H' ⟨_,rfl,gs,rfl,gl,hg,bg⟩ t ht
  rw [AL] at gl hg
  have st:=AR ht (.lst (gs.map V.int))
  have htt:upd H' t (.lst (gs.map V.int)) t=_:=upd_same
  generalize upd H' t (.lst (gs.map V.int))=H2 at st htt ⊢
  have gl0:0<gs.length:=by omega
  have glast:co gs (gs.length - 1)≠0:=λz=>by
   have:=hg (gs.length - 1) ⋯
   rw [z,show gs.length - 1=rs.length - 1 by omega,one] at this
   exact pl (by have t2:=Int.dvd_neg.mpr this;rw [show -(0 - lead*1)=lead by omega] at t2;exact t2)
  rwa [htt]
  refine ⟨gs,rfl,⋯,.inr glast,λu gu g H3 s3 hu g0 eg hp=>?_⟩
  have Pg:Prim gu:=by
   rcases hp with h | h
   ·rw [h] at gl0;simp at gl0
   ·exact h
  have lgu:gu.length=gs.length:=by rw [eg,AL]
  have lzg:Lz gu:=GW (K9 (Ah g0) (by rw [<-eg];exact .inr glast)) (λz=>by rw [z] at lgu;simp at lgu;omega)
  have bgu:∀ z∈gu,Bd 45000 z:=LA g0 (by rw [<-eg];exact λz hz=>(bg z hz).1)
  have s13:Same H H3:=(s1.trans st).trans s3
  have ha3:=s13 _ _ ha
  have hb3:=s13 _ _ hb
  obtain ⟨G,hG⟩:=Vn ln (QI.left (co ns) (co ms))
  have mn:=hG.mq _ ns (AS _) (QI.left _ _)
  have mm:=hG.mq _ ms (AS _) (QI.right _ _)
  have lead':¬ (p:Int)∣co G (G.length - 1):=by
   rcases hnl with h | h
   ·exact hG.lead pp ln mn h
   ·exact hG.lead pp lm mm h
  have dG:=hD (co G) (hG.dm pp mn) (hG.dm pp mm)
  have glen:G.length<=rs.length:=Dm.len pp hG.lz.1 lead' dG ⟨rs.length - 1,by
   rw [one]
   intro z
   have:=Int.le_of_dvd ∅ z
   omega⟩
  have tells:OC d nn cc p->(∃ A:List Int,∀ k,co ns k=cvL A (co gu) k)/\∃ A:List Int,∀ k,co ms k=cvL A (co gu) k:=λbp'=>by
   obtain ⟨q1,q2⟩:=Xm pp ln lm bn bm nn1 nn2 nc nn0 rfl bp' hld hG r0 one glen lead' dG dvn dvm gl hg (λz hz=>(bg z hz).2)
   have sc:∀ k,co gs k=g*co gu k:=λk=>by rw [eg,Iy]
   have mg:MQ (co gu) (co gs):=⟨1,∅,[g],λk=>by
    have e:cvL [g] (co gu) k=g*co gu k:=by
     cases k with
     | zero=>rw [Ar];omega
     | succ k=>rw [Ak,Ay];omega
    rw [e,sc];omega⟩
   exact ⟨gauss Pg (mg.trans q1),gauss Pg (mg.trans q2)⟩
  rwa [ha3,hu]
  refine ⟨ns,rfl,gu,rfl,lzg,d,bn,45000,bgu,⋯,∅,⋯,⋯,λno=>kN (λbg=>no (tells bg).1) |> λf H4 s4=>f H4 (s13.trans s4),λr qs H4 s4 hr _ hq=>?_⟩
  have hb4:=s4 _ _ hb3
  have hu4:=s4 _ _ hu
  rwa [hb4,hu4]
  refine ⟨ms,rfl,gu,rfl,lzg,d,bm,45000,bgu,⋯,∅,⋯,⋯,λno=>kN (λbg=>no (tells bg).2) |> λf H5 s5=>f H5 ((s13.trans s4).trans s5),λr2 qs2 H5 s5 hr2 _ hq2=>?_⟩
  exact kR u gu H5 ((s13.trans s4).trans s5) (s5 _ _ hu4) (Vq hG.rc lzg (Qo hq) (Qo hq2) ⋯) Pg
noncomputable def exps:List Nat:=[61,127,521,1279,4423,9941,21701,44497]
noncomputable def Xo (K:W.Frag):Prop:=∀ H:Hp,SqT K H (Fh K) (exps.map λe:Nat=>V.int (e:Int))
theorem Xp:∀ e∈exps,Pr (mers e)/\e<=44497:=by
 intro e he
 have h:e=61\/e=127\/e=521\/e=1279\/e=4423\/e=9941\/e=21701\/e=44497:=by simpa [exps] using he
 rcases h with h | h | h | h | h | h | h | h <;> rw [h]
 ·exact ⟨Vf,∅⟩
 ·exact ⟨Vg,∅⟩
 ·exact ⟨Vh,∅⟩
 ·exact ⟨Vi,∅⟩
 ·exact ⟨Vj,∅⟩
 ·exact ⟨Vk,∅⟩
 ·exact ⟨Vl,∅⟩
 ·exact ⟨Vm,∅⟩
theorem Xq (e:Nat):(2:Int) ^ (e:Int).toNat - 1=((mers e:Nat):Int):=by
 unfold mers
 have:=Nat.one_le_two_pow (n:=e)
 rw [Int.natCast_sub this,Dc,Int.natCast_pow]
 rfl
theorem Xr {e:Nat} (h:e<=44497):Bd 45000 ((mers e:Nat):Int):=by
 unfold Bd mers
 rw [Ce]
 have h1:=Nat.one_le_two_pow (n:=e)
 have h2:=Cp (n:=2) ∅ (show e<=45000 by omega)
 omega
theorem LB {ns ms one two rs:List Int} {g h:Int} (g0:g≠0) (h0:h≠0) (e1:ns=one.map (g*·)) (e2:ms=two.map (h*·)) (R:RC (co one) (co two) rs):RC (co ns) (co ms) rs:=by
 have c1:∀ k,co ns k=g*co one k:=λk=>by rw [e1,Iy]
 have c2:∀ k,co ms k=h*co two k:=λk=>by rw [e2,Iy]
 refine ⟨R.lz,?_,?_,?_⟩
 ·obtain ⟨c,c0,A,hA⟩:=R.left
  exact ⟨c,c0,A.map (g*·),λk=>by rw [A6,<-hA k,c1 k];ext⟩
 ·obtain ⟨c,c0,A,hA⟩:=R.right
  exact ⟨c,c0,A.map (h*·),λk=>by rw [A6,<-hA k,c2 k];ext⟩
 ·obtain ⟨d,d0,U,W,hU⟩:=R.qi
  refine ⟨g*h*d,CI (CI g0 h0) d0,U.map (h*·),W.map (g*·),λk=>?_⟩
  rw [A6,A6,BK c1 U k,BK c2 W k,DX,DX]
  have:=hU k
  ext
theorem Xs {K:W.Frag} (hK:Xo K) {vs:List V} {H:Hp} {Q:VK} {E:XK} (h:Ih K vs H Q E):Ow K { nx:=λ_ H'=>Q .non H',rt:=Q } (L2.start ["row","other","one","two","exponent","found"] vs) H:=by
 obtain ⟨a,b,ns,ms,d,nn,cc,rfl,ha,hb,tn,tm,bn,bm,nN,mN,N18,n2',nc,sm,hbd0,k⟩:=h
 have d9:d<=44490:=by
  have:(d+nn*(2*cc+4)+cc+2)*1<=(d+nn*(2*cc+4)+cc+2)*(2*(nn - 1)):=B6 _ ⋯
  omega
 unfold Ow
 rwa [ha]
 refine ⟨ns,rfl,⋯,tn,λa1 one g1 H1 s1 h1 g10 e1 p1=>?_⟩
 have hb1:=s1 _ _ hb
 rwa [hb1]
 refine ⟨ms,rfl,⋯,tm,λa2 two g2 H2 s2 h2 g20 e2 p2=>?_⟩
 have s02:=s1.trans s2
 have ha2:=s02 _ _ ha
 have hb2:=s02 _ _ hb
 have h12:=s2 _ _ h1
 have l1:ns.length=one.length:=by rw [e1,AL]
 have l2:ms.length=two.length:=by rw [e2,AL]
 have t1:Tz one:=K9 (Ah g10) (by rw [<-e1];exact tn)
 have t2:Tz two:=K9 (Ah g20) (by rw [<-e2];exact tm)
 have b1:∀ z∈one,Bd d z:=LA g10 (by rw [<-e1];exact bn)
 have b2:∀ z∈two,Bd d z:=LA g20 (by rw [<-e2];exact bm)
 have n1:one=[]↔ns=[]:=by rw [<-CU,<-CU,l1]
 have n2:two=[]↔ms=[]:=by rw [<-CU,<-CU,l2]
 have last:(ns=[]\/ms=[])->∀ (H3:Hp) (u v:Option V),Same H2 H3->(AZ (tOp gL (AN (HC K) [] E0 (AB (BW (AB (AA 2) AC)) (AB (BW (AB (AA 3) AC)) AC))) (tC (.int 0)))) { nx:=λ_ H'=>Q .non H',rt:=Q } [some (.ref a),some (.ref b),some (.ref a1),some (.ref a2),u,v] H3:=λem H3 u v s3=>by
  have h13:=s3 _ _ h12
  have h23:=s3 _ _ h2
  rwa []
  refine ⟨sz ∅,λx hx=>?_⟩
  have sx:=AR hx (.lst [.ref a1])
  refine ⟨sz ∅,λy hy=>?_⟩
  have sy:=AR hy (.lst [.ref a2])
  have hxy:=sy _ _ (show upd H3 x (.lst [.ref a1]) x=_ from upd_same)
  refine ⟨one,⟨[V.ref a1],hxy,⟨⟨a1,rfl,sy _ _ (sx _ _ h13)⟩,trivial⟩⟩,two,⟨[V.ref a2],upd_same,⟨⟨a2,rfl,sy _ _ (sx _ _ h23)⟩,trivial⟩⟩,em.imp (λz=>n1.mpr z) (λz=>n2.mpr z),λt H4 s4 hSD=>?_⟩
  obtain ⟨ar,xr,ht,har,_⟩:=hSD.head
  refine ⟨_,ht,_,GV _ _,?_⟩
  refine k ar _ H4 (s02.trans (s3.trans ((sx.trans sy).trans s4))) har (λhne=>?_) λh1 h2=>by rw [Zu (n2.mpr h2)];exact n1.mpr h1
  have z0:∀ {x:List Int},x=[]->∀ k,co x k=0:=λe k=>by rw [e];exact AX (AV _)
  by_cases te:two=[]
  ·rw [Zu te]
   have oe:ns≠[]:=by
    rcases hne with h | h
    ·exact h
    ·exact absurd (n2.mp te) h
   have l1':Lz one:=GW t1 λz=>oe (n1.mp z)
   exact ⟨LB (Ah g10) (Ah g20) e1 e2 ⟨l1',MQ.refl _,MQ.zero _ (z0 te),QI.left _ _⟩,p1.resolve_left oe⟩
  ·rw [Zt te]
   have oe:one=[]:=n1.mpr (em.resolve_right λz=>te (n2.mpr z))
   exact ⟨LB (Ah g10) (Ah g20) e1 e2 ⟨GW t2 te,MQ.zero _ (z0 oe),MQ.refl _,QI.right _ _⟩,p2.resolve_left λz=>te (n2.mpr z)⟩
 have l0:=λem=>last em H2 none none (Same.refl H2)
 simp only [AG,AJ,AN,AB,AA,AC,AF,EG,L2.start,A5,tIf,Ab,tB,tOp,rI0,rI,tC,tUn,rU,BA,AZ,CK,BW,Ge,DL,EZ,tCB,SL,DT,tOr,Gb,JM,Hf,Rz,rEq,rNe,DC,A9,A8,Ac,FQ,T4,Cj,MP,FR,iLt,iLe,iGt,iGe,BS,gT,gL,gS,E3,FS,T5,Ja,Hn,BX,T6,T8,T9,UA,UB,eqT,UC,UD,UE,UF,List.map_cons,List.map_nil,Cr,List.length_nil,List.replicate,List.cons_append,List.nil_append,List.append_nil,List.getElem?_cons_zero,List.getElem?_cons_succ,Option.some.injEq,exists_eq_left',exists_eq_left,V.int.injEq,V.bl.injEq,V.ref.injEq,V.ty.injEq,HO.tup.injEq,HO.lst.injEq,List.cons.injEq,and_true,true_and,and_assoc,exists_and_left,List.set_cons_zero,List.set_cons_succ,decide_eq_true_eq,decide_eq_false_iff_not,Bool.not_eq_true',Bool.true_eq_false,Dt,Bool.not_true,Bool.not_false,if_true,if_false,ite_true,ite_false,UM,UN,UH,UI,UJ,UK,UL,UO,UP,Nat.zero_add,Nat.reduceAdd,Nat.reduceSub,upd_same,Int.cast_ofNat_Int,decide_true,decide_false,eq_self,not_true_eq_false,not_false_eq_true,Int.natCast_add,Int.natCast_zero,reduceCtorEq,Nm,D3,CC,Dg,Ev,tSl,Ed,Ee,sL,sT,Jc,Uh,FU,E6,Ug,F3,JW,Ef,JU,JV,tBM,Gm,UX,UY,UZ,Ua,Uc,Uv,Ut,Ub,Ul,Um,Ji,Mb,Jj,GA,GB,FX,Eh,Jg,GC,Ck,Option.bind_some,Option.bind_none,Option.bind,Option.join,id_eq,sS,Hv,Jk,Ej,IU,IV,GN,IW,GO,IX,IY,HB,Fi,HC,IZ,Ia,GP,GQ,Ib,Ic,Id,Ie,Ig,Ih,HD,HE,Ik,Il,Ii,CG,FG,HF,Ij] at l0
 have lne:ns≠[]->ms≠[]->Lz one/\Lz two:=λh1 h2=>⟨GW t1 λz=>h1 (n1.mp z),GW t2 λz=>h2 (n2.mp z)⟩
 refine ⟨_,ha2,AO (λc1=>⟨_,hb2,AO (λc2=>⟨⟨_,hK H2⟩,?_⟩) (λc2=>l0 (.inr (by simpa using c2)))⟩) (λc1=>l0 (.inl (by simpa using c1)))⟩
 obtain ⟨z1,z2⟩:=lne (by simpa using c1) (by simpa using c2)
 refine Lq (xs:=exps.map λe:Nat=>V.int (e:Int)) (λi σ H'=>i<8/\∃ u v,σ=[some (.ref a),some (.ref b),some (.ref a1),some (.ref a2),u,v]/\Same H2 H') ⟨∅,none,none,rfl,Same.refl H2⟩ (λi σ H' _ _=>hK H') ?_ ?_
 ·rintro i x σ H' hi ⟨i8,u,v,rfl,s3⟩
  rw [Af] at hi
  cases e:exps[i]? with
  | none=>rw [e] at hi;cases hi
  | some ex=>
    rw [e] at hi
    obtain rfl:V.int (ex:Int)=x:=Z1 hi
    obtain ⟨pe,pl⟩:=Xp ex (Bu e)
    have h13:=s3 _ _ h12
    have h23:=s3 _ _ h2
    rwa [h13,h23]
    refine ⟨⋯,2,by unfold Bd;decide,⋯,one,two,mers ex,Xq ex,rfl,rfl,pe,Xr pl,z1,z2,d,b1,b2,⋯,⋯,nn,⋯,⋯,cc,nc,n2',λnb H4 s4=>⟨?_,s3.trans s4⟩,λt rs H4 s4 ht rc pr=>?_⟩
    ·rcases BG (i+1) 8 with c8 | c8
     ·exact c8
     ·exfalso
      have i7:i=7:=by omega
      rw [i7] at e
      obtain rfl:44497=ex:=Z1 e
      refine nb ?_
      show 2 ^ ((d+nn*(2*cc+4)+cc+2)*(2*(nn - 1)))<mers 44497
      have h1:2 ^ ((d+nn*(2*cc+4)+cc+2)*(2*(nn - 1)))<=2 ^ 44490:=Cp ∅ sm
      have h2:2 ^ 44490<mers 44497:=by
       unfold mers
       have e7:2 ^ 44497=2 ^ 44490*2 ^ 7:=by rw [<-Cc]
       rw [e7]
       have:1<=2 ^ 44490:=Nat.one_le_two_pow
       omega
      omega
    exact k t rs H4 (s02.trans (s3.trans s4)) ht (λ_=>⟨LB (Ah g10) (Ah g20) e1 e2 rc,pr⟩) λh1 _=>absurd h1 (by simpa using c1)
 ·rintro σ H' ⟨i8,_⟩
  exact absurd i8 (by simp [exps])
theorem Iz (l:List Nu):(BZ l).length=l.length:=by unfold BZ;rw [AL]
theorem Xu {l:List Nu} (hl:DN l) (nl:Nz l):Tz (BZ l):=by
 by_cases h:l=[]
 ·left;rw [h];rfl
 ·right
  rw [Iz]
  exact XA hl nl (De.mpr h)
theorem Xv {l:List Nu} {M N:Int} (hl:DN l) (hM:Ov l M) (hN:Ov l N) (h:M∣N) {b:Nat} (hb:∀ z∈ovN l N,Bd b z):∀ z∈ovN l M,Bd b z:=λz hz=>by
 obtain ⟨q,hq,rfl⟩:=Bc.mp hz
 refine (hb (q.1*(N / q.2)) (Bc.mpr ⟨q,hq,rfl⟩)).le ?_
 rw [BI,BI]
 refine B6 _ ?_
 have p0:=(hl q hq).pos
 obtain ⟨x,hx⟩:=hM.2 q hq
 obtain ⟨y,hy⟩:=h
 have e1:M / q.2=x:=by rw [hx,Fo _ (Ah p0)]
 have e2:N / q.2=x*y:=by rw [hy,hx,Int.mul_assoc,Fo _ (Ah p0)]
 rw [e1,e2,BI]
 refine Fn _ ?_
 rcases DH y.natAbs with z | z
 ·have y0:y=0:=by omega
  have:=hN.1
  rw [hy,y0] at this;omega
 ·exact z
theorem Gq.clr {b c:Nat} {l:List Nu} (G:Gq b c l):(∀ z∈BZ l,Bd b z)/\Bd c (Bh l)/\(∀ q∈l,Bd b q.1):=by
 obtain ⟨M,hO,bM,hz⟩:=G.ov
 have hd:=M9 G.low hO
 exact ⟨Xv G.low (FA G.low) hO hd hz,IC (Ah hO.1) hd bM,XE G.low hO hz⟩
theorem Xw {q:Nu} {n M:Int} (hq:q.2≠0) (hM:M≠0) (h:val q=(n:Rat) / (M:Rat)):Wo q n M:=by
 unfold Wo
 unfold val at h
 have a:=Ba hq
 have b:=Ba hM
 have e:(q.1:Rat)*(M:Rat)=(n:Rat)*(q.2:Rat):=by ext
 exact_mod_cast e
theorem Xx {q:Nu} {n M:Int} (hl:Low q.1 q.2) (h:Wo q n M):q.2∣M/\q.1*(M / q.2)=n:=by
 unfold Wo at h
 have d:q.2∣M:=Jq hl ⟨n,by rw [h,Int.mul_comm]⟩
 refine ⟨d,?_⟩
 have p0:=hl.pos
 have e:q.2*(q.1*(M / q.2))=q.2*n:=by
  have:=Int.mul_ediv_cancel' d
  calc q.2*(q.1*(M / q.2))=q.1*(q.2*(M / q.2)):=by ext
   _=q.1*M:=by rw [this]
   _=q.2*n:=by rw [h,Int.mul_comm]
 exact Int.eq_of_mul_eq_mul_left (Ah p0) e
theorem Xy {lead:Int} (h0:lead≠0) {B:Nat} {ns:List Int} (hb:∀ z∈ns,Bd B z):Ov (ns.map λn=>AT n lead) (lead.natAbs:Int)/\∀ z∈ovN (ns.map λn=>AT n lead) (lead.natAbs:Int),Bd B z:=by
 have A0:(0:Int)<(lead.natAbs:Int):=by omega
 have key:∀ n∈ns,(AT n lead).2∣(lead.natAbs:Int)/\Bd B ((AT n lead).1*((lead.natAbs:Int) / (AT n lead).2)):=λn hn=>by
  have lq:=D5 (n:=n) h0
  have l1:=Ba h0
  have:∃ s:Int,val (AT n lead)=(s:Rat) / (((lead.natAbs:Int):Int):Rat)/\Bd B s:=by
   rw [GD h0]
   rcases Int.natAbs_eq lead with e | e
   ·exact ⟨n,by rw [<-e],hb n hn⟩
   ·refine ⟨-n,?_,(hb n hn).neg⟩
    have e':(lead.natAbs:Int) = -lead:=by omega
    rw [e'];push_cast;ext
  obtain ⟨s,hs,bs⟩:=this
  obtain ⟨d1,d2⟩:=Xx lq (Xw (Ah lq.pos) (Ah A0) hs)
  exact ⟨d1,by rw [d2];exact bs⟩
 refine ⟨⟨A0,λq hq=>?_⟩,λz hz=>?_⟩
 ·obtain ⟨n,hn,rfl⟩:=Bc.mp hq
  exact (key n hn).1
 ·obtain ⟨q,hq,rfl⟩:=Bc.mp hz
  obtain ⟨n,hn,rfl⟩:=Bc.mp hq
  exact (key n hn).2
theorem Xz (ns:List Int) (f:Int):List.map V.int (ns.map (f*·))=AY ns.length λk=>f*ns.getD k 0:=by
 unfold AY
 congr 1
 apply EW
 intro i
 rw [Af,Af]
 by_cases h:i<ns.length
 ·rw [DS h,Am h]
  show _=some (f*ns.getD i 0)
  rw [AU,Am h]
  rfl
 ·rw [Bv ⋯,Bv (by rw [Bm];omega)]
  rfl
theorem X1 (m:Nat) (f:Nat->Int):AY (m+1) f=AY m f++[V.int (f m)]:=by
 unfold AY
 rw [List.range_succ,Dv,Dv]
 rfl
theorem Qp (ns:List Int):ns.map V.int=AY ns.length λk=>ns.getD k 0:=by
 have h:=Xz ns 1
 have e:ns.map (1*·)=ns:=by
  have e2:(λx:Int=>1*x)=id:=funext λx=>Int.one_mul x
  rw [e2,List.map_id]
 rw [e] at h
 rw [h]
 exact D7 λi _=>by rw [Int.one_mul]
theorem I0 (ns:List Int) (lo hi:Option Int):∃ ms:List Int,Cg (ns.map V.int) lo hi=ms.map V.int/\ms.length<=ns.length:=by
 unfold Cg
 rw [<-List.map_drop,<-List.map_take]
 exact ⟨_,rfl,by rw [Cm,List.length_drop];omega⟩
theorem X2 (h:Ii K vs H Q E):Pe K { nx:=λ_ H'=>Q .non H',rt:=Q } (L2.start ["_law_script","_law_first"] vs) H:=by
 obtain ⟨s,ns,rfl,hs,n63,k⟩:=h
 unfold Pe
 rwa []
 obtain ⟨c1,e1,_⟩:=I0 ns none (some 1)
 obtain ⟨c2,e2,l2⟩:=I0 ns none (some 63)
 refine ⟨_,hs,λp hp=>⟨c1,e1,_,Same.seq (AR hp _) hs,λp1 h1 l hl=>⟨⟨∅,(Kv ∅ ∅).mono ∅⟩,∅,sz ∅,λr hr=>?_⟩⟩⟩
 have t1:=AR hp (.lst (Cg (ns.map V.int) none (some 1)))
 have t2:=AR h1 (.lst (Cg (ns.map V.int) none (some 63)))
 have t3:=AR hl (.lst (Cg (ns.map V.int) none (some 63)))
 have t4:=(t1.trans t2).trans t3
 have r0:H r=none:=by
  cases e:H r with
  | none=>rfl
  | some o=>have z:=t4 _ _ e;rw [hr] at z;cases z
 refine k r l _ r0 (Kp.of_same (t4.trans (AR hr _))) ⟨c2,0,_,_,upd_same,?_,⋯,?_,∅,∅,?_⟩
 ·rw [<-e2];exact (AR hr _) _ _ upd_same
 ·exact BO upd_same hr
 ·refine Int.ediv_nonneg ?_ ∅
  split <;> omega
theorem X3 (h:CG K vs H Q E):Ps K { nx:=λ_ H'=>Q .non H',rt:=Q } (L2.start ["_law_hand_here","_law_many","_law_found","_law_cell","_law_once","_law_twice"] vs) H:=by
 obtain ⟨p,a,m,n,rfl,⟨ns,x,y,z,hp,ha,ln,ap,x0,xn,y0⟩,n9,m0,m9,k⟩:=h
 have A0:∀ x y:Int,atI [V.ref a,V.int x,V.int y,V.int z] 0=some (V.ref a):=λ_ _=>rfl
 have A1:∀ x y:Int,atI [V.ref a,V.int x,V.int y,V.int z] 1=some (V.int x):=λ_ _=>rfl
 have A2:∀ x y:Int,atI [V.ref a,V.int x,V.int y,V.int z] 2=some (V.int y):=λ_ _=>rfl
 have A3:∀ x y:Int,atI [V.ref a,V.int x,V.int y,V.int z] 3=some (V.int z):=λ_ _=>rfl
 have I1:ixN 4 1=some 1:=rfl
 have I2:ixN 4 2=some 2:=rfl
 have kpa:∀ {H1:Hp} {o:HO},H1 a=some (.lst (ns.map V.int))->(upd H1 p o) a=some (.lst (ns.map V.int)):=λh=>by rw [Ag ap];exact h
 have go:∀ (x y:Int) (H1:Hp),H1 p=some (.lst [V.ref a,V.int x,V.int y,V.int z])->H1 a=some (.lst (ns.map V.int))->0<=x->x<=n+1->0<=y->Kp p H H1->Ko K { nx:=λx H'=>Q V.non H',rt:=Q } [some (V.ref p),some (V.int m),none,none,none,none] H1:=λx y H1 hp ha x0 xn y0 k1=>by
  have go2:Kn K { nx:=λx H'=>Q V.non H',rt:=Q } [some (V.ref p),some (V.int m),none,none,none,none] H1:=by
   unfold Kn
   rwa [hp,A1,I1]
   have k2:Kp p H (upd H1 p (.lst [.ref a,.int (x+1),.int y,.int z])):=k1.trans Kp.upd
   have hp2:upd H1 p (.lst [.ref a,.int (x+1),.int y,.int z]) p=_:=upd_same
   have ha2:upd H1 p (.lst [.ref a,.int (x+1),.int y,.int z]) a=_:=kpa ha
   generalize upd H1 p (.lst [.ref a,.int (x+1),.int y,.int z])=H2 at k2 hp2 ha2 ⊢
   unfold Pq
   rwa [hp2,ha2,A0,A1]
   obtain ⟨c1,e1,_⟩:=I0 ns (some ((x+1) % if ((ns.map V.int).length:Int) > 1 then ((ns.map V.int).length:Int) else 1)) none
   obtain ⟨c2,e2,_⟩:=I0 c1 none (some 1)
   rw [e1,e2]
   refine ⟨by split <;> omega,λq1 h1 q2 h2=>⟨c2,rfl,?_⟩⟩
   have s3:=(AR h1 (.lst (c1.map V.int))).trans (AR h2 (.lst (c2.map V.int)))
   have hp3:=s3 _ _ hp2
   have ha3:=s3 _ _ ha2
   have k3:=k2.same s3
   generalize upd (upd H2 q1 (.lst (c1.map V.int))) q2 (.lst (c2.map V.int))=H3 at hp3 ha3 k3 ⊢
   generalize c2.sum=cell
   unfold Pp
   rwa [hp3,A1]
   have L:∀ {x y:Int},0<=x->x<4611686018427387904->IntMulOk x y:=λh1 h2=>EM ⋯ ⋯
   have R:∀ {x y:Int},0<=y->y<4611686018427387904->IntMulOk x y:=λh1 h2=>Qd ⋯ ⋯
   refine ⟨∅,L ∅ ∅,L ∅ ∅,R ⋯ ⋯,∅,?_⟩
   generalize (cell % 2147483629+7919*(x+1)+11)*(48271+2*(x+1)) % 2147483647=once
   unfold Po
   rwa [hp3,A1]
   have z:=CM once (show (39373:Int)≠0 by decide)
   have z2:=CT once (show (0:Int)<39373 by decide)
   refine ⟨∅,R ⋯ ⋯,L ∅ ∅,∅,?_⟩
   unfold Pm
   rwa []
   exact ⟨⟨∅,(Kv ∅ ∅).mono ∅⟩,m0,k _ _ (CM _ ⋯) (CT _ m0) ⟨ns,x+1,y,_,hp3,ha3,ln,ap,⋯,⋯,y0⟩ k3⟩
  unfold Ko
  rwa [hp,A2,A3]
  refine AO (λ_=>?_) (λ_=>go2)
  refine AO (λ_=>?_) (λ_=>go2)
  unfold Pl
  rwa [hp,A2]
  refine ⟨m0,?_⟩
  unfold Pj Pi
  rwa [hp,A2,I2]
  exact ⟨⟨m0,(Kv ⋯ ⋯).mono ∅⟩,k _ _ (CM _ ⋯) (CT _ m0) ⟨ns,x,y / m,z,upd_same,kpa ha,ln,ap,x0,⋯,Int.ediv_nonneg y0 ⋯⟩ (k1.trans Kp.upd)⟩
 unfold Ps
 rwa [hp,ha,A0,A1,A2,A3]
 have go0:=go x y H hp ha x0 ⋯ y0 (Kp.of_same (Same.refl H))
 refine AO (λ_=>?_) (λ_=>go0)
 refine AO (λ_=>?_) (λ_=>go0)
 refine AO (λxl=>?_) (λ_=>go0)
 unfold Ph
 rwa [hp,A1,I1]
 have hp2:upd H p (.lst [.ref a,.int (x+1),.int y,.int z]) p=_:=upd_same
 have ha2:upd H p (.lst [.ref a,.int (x+1),.int y,.int z]) a=_:=kpa ha
 have k2:Kp p H (upd H p (.lst [.ref a,.int (x+1),.int y,.int z])):=Kp.upd
 generalize upd H p (.lst [.ref a,.int (x+1),.int y,.int z])=H2 at k2 hp2 ha2 ⊢
 unfold Pf
 rwa [hp2,ha2,A0,A1,I2]
 rw [AL] at xl
 obtain ⟨v,hv⟩:=W5 (ns:=ns) (k:=x+1) ⋯ ⋯
 exact ⟨_,hv,v,rfl,go (x+1) _ _ upd_same (kpa ha2) ⋯ ⋯ (by split <;> omega) (k2.trans Kp.upd)⟩
theorem X4 (h:FF K vs H Q E):Pu K { nx:=λ_ H'=>Q .non H',rt:=Q } (L2.start ["_law_top","_law_bottom","_law_one","_law_other"] vs) H:=by
 obtain ⟨a,b,rfl,hb,q⟩:=h
 unfold Pu
 rwa []
 have go:∀ s:Int,(s=if b<0 then -((Int.gcd a b:Nat):Int) else ((Int.gcd a b:Nat):Int))->GC a s/\GC b s/\2<=sizeLine/\∀ (p:Addr),H p=none->Q (V.ref p) (upd H p (.tup [.int (a.fdiv s),.int (b.fdiv s)])):=λs hs=>by
  obtain ⟨h1,h2,h3,h4,h5,h6⟩:=Hm hb hs
  have e:AT a b=(a.fdiv s,b.fdiv s):=by
   refine IA (D5 hb) h3 ?_
   rw [GD hb,Hz (q:=(a.fdiv s,b.fdiv s)) (Ah h3.pos) hb h4]
  rw [e] at q
  exact ⟨h1,h1,sz ∅,q⟩
 refine Eg (λm σ H'=>∃ x y:Int,σ=[some (.int a),some (.int b),some (.int x),some (.int y)]/\H'=H/\0<=x/\0<=y/\Int.gcd x y=Int.gcd a b/\m=y.natAbs) b.natAbs ⟨_,_,rfl,rfl,by split <;> omega,by split <;> omega,?_,by split <;> omega⟩ ?_
 ·split <;> split <;> simp [Int.neg_gcd,Int.gcd_neg]
 rintro m σ H' ⟨x,y,rfl,rfl,x0,y0,hg,rfl⟩
 rwa []
 refine AO (λc=>?_) (λc=>?_)
 ·refine ⟨λσ' H''=>∃ m',m'<y.natAbs/\_,λ_ _ h=>h,?_⟩
  have z1:=CM x (show y≠0 by omega)
  have z2:=CT x c
  refine ⟨c,(x % y).natAbs,⋯,y,x % y,rfl,rfl,y0,z1,?_,rfl⟩
  rw [JX x y0];exact hg
 ·have e:y=0:=by omega
  subst e
  have ex:x=((Int.gcd a b:Nat):Int):=by rw [<-hg,Int.gcd_zero_right];omega
  refine AO (λc2=>?_) (λc2=>?_)
  ·exact go _ (by rw [Zu c2,ex])
  ·exact go _ (by rw [Zt c2,ex])
theorem X5 (h:HF K vs H Q E):Px K { nx:=λ_ H'=>Q .non H',rt:=Q } (L2.start ["_law_row","_law_scale_here"] vs) H:=by
 obtain ⟨p,q,ns,t,d,rfl,hp,hq,d0,bt,bn,l9,k⟩:=h
 unfold Px
 rwa [hp,hq]
 refine ⟨⟨_,SqL.of hp⟩,CompJ.lst (xs:=ns.map V.int) (λi ys H'=>i<=ns.length/\Same H H'/\Nums H' ys ((ns.map λn=>AT (n*t) d).take i)) ⟨AV _,Same.refl H,trivial⟩ ?_ ?_ ?_⟩
 ·rintro i ys H' ⟨h1,s1,hZ⟩
  refine ⟨by rw [AL];exact h1,sz ?_,SqL.of (s1 _ _ hp)⟩
  rw [hZ.length,Cm];omega
 ·rintro i x ys H' hi ⟨h1,s1,hZ⟩
  rw [Af] at hi
  cases e:ns[i]? with
  | none=>rw [e] at hi;cases hi
  | some z=>
    rw [e] at hi
    obtain rfl:=Z1 hi
    have hq1:=s1 _ _ hq
    have hi2:i<ns.length:=(Bp.mp e).1
    rwa [hq1]
    refine ⟨D8 (bn z (Bu e)) bt,d0,λr hr=>⟨⋯,s1.trans (AR hr _),?_⟩⟩
    have e2:(ns.map λn=>AT (n*t) d)[i]?=some (AT (z*t) d):=by rw [Af,e];rfl
    rw [DR,e2]
    exact (hZ.tp (tpS (AR hr _))).append (Nums.one NJ)
 ·rintro ys H' ⟨_,s1,hZ⟩ a ha
  have e:(ns.map λn=>AT (n*t) d).take (ns.map V.int).length=ns.map λn=>AT (n*t) d:=by rw [AL,show ns.length=(ns.map λn=>AT (n*t) d).length by rw [AL],C7]
  rw [e] at hZ
  rwa []
  intro r hr
  have s2:=(AR ha (.lst ys)).trans (AR hr (.tup ys))
  exact k r ys _ (s1.trans s2) upd_same (hZ.tp (tpS s2))
theorem X6 {a b:List Int} (la:0<a.length) (lb:0<b.length):ps a b a.length (a.length+b.length - 1 - 1)=co a (a.length - 1)*co b (b.length - 1):=by
 obtain ⟨i,hi⟩:∃ i,a.length=i+1:=⟨a.length - 1,⋯⟩
 rw [hi]
 show ps a b i _+_=_
 rw [Jt i _ ⋯,Zu ⟨⋯,⋯⟩,show i+1+b.length - 1 - 1 - i=b.length - 1 by omega]
 show 0+co a i*co b (b.length - 1)=_
 rw [Nat.add_sub_cancel];omega
theorem X7 (h:FG K vs H Q E):Pw K { nx:=λ_ H'=>Q .non H',rt:=Q } (L2.start ["_law_one","_law_other","_law_made","_law_k","_law_a","_law_j","_law_b"] vs) H:=by
 obtain ⟨p,q,ns,ms,n,m,rfl,hp,hq,la,lb,a20,b20,ba,bb,n9,m9,k⟩:=h
 have la1:=la
 have lb1:=lb
 unfold Pw
 rwa [hp,hq]
 refine ⟨sz ∅,λa ha=>?_⟩
 have sa:=AR ha (.lst [.int 0])
 have hpa:=sa _ _ hp
 have hqa:=sa _ _ hq
 rwa [hpa,hqa]
 rw [AL,AL]
 have eL:((ns.length:Int)+(ms.length:Int) - 1).toNat=ns.length+ms.length - 1:=by omega
 rw [eL,Kw]
 refine ⟨⋯,⋯,sz ⋯,λw hw=>?_⟩
 generalize hLL:ns.length+ms.length - 1=L at hw ⊢
 have sw:=AR hw (.lst (AY L λ_=>0))
 have w0:H w=none:=by
  cases e:H w with
  | none=>rfl
  | some o=>have z:=sa _ _ e;rw [hw] at z;cases z
 refine ⟨⟨_,SqL.of (sw _ _ hpa)⟩,ForJ.enumL (xs:=ns.map V.int) (λi σ H'=>∃ x1 x2 x3 x4:Option V,σ=[some (.ref p),some (.ref q),some (.ref w),x1,x2,x3,x4]/\Same H H'/\H' w=some (.lst (AY L λk=>ps ns ms i k)))
  ⟨none,none,none,none,rfl,sa.trans sw,upd_same⟩ ?_ ?_ ?_⟩
 ·rintro i σ H' _ ⟨_,_,_,_,_,s1,_⟩
  exact SqL.of (s1 _ _ hp)
 ·rintro i x pp σ H1 hi ⟨x1,x2,x3,x4,rfl,s1,hw1⟩ hpp
  rw [Af] at hi
  cases en:ns[i]? with
  | none=>rw [en] at hi;cases hi
  | some z=>
    rw [en] at hi
    obtain rfl:V.int z=x:=Z1 hi
    have il:i<ns.length:=(Bp.mp en).1
    have zd:ns.getD i 0=z:=by rw [AU,en];rfl
    have sp:=AR hpp (.tup [.int (i:Int),.int z])
    rwa []
    refine ⟨⟨_,SqL.of (sp _ _ (s1 _ _ hq))⟩,ForJ.enumL (xs:=ms.map V.int) (λj σ H'=>∃ x3 x4:Option V,σ=[some (.ref p),some (.ref q),some (.ref w),some (.int (i:Int)),some (.int z),x3,x4]/\Same H H'/\H' w=some (.lst (AY L λk=>in2 ns ms i j k)))
      ⟨x3,x4,rfl,s1.trans sp,by rw [sp _ _ hw1];exact congrArg (λl=>some (HO.lst l)) (D7 λk _=>(VX ns ms i k))⟩ ?_ ?_ ?_⟩
    ·rintro j σ H' _ ⟨_,_,_,s2,_⟩
     exact SqL.of (s2 _ _ hq)
    ·rintro j y pq σ H2 hj ⟨y3,y4,rfl,s2,hw2⟩ hpq
     rw [Af] at hj
     cases em:ms[j]? with
     | none=>rw [em] at hj;cases hj
     | some u=>
       rw [em] at hj
       obtain rfl:V.int u=y:=Z1 hj
       have jl:j<ms.length:=(Bp.mp em).1
       have ud:ms.getD j 0=u:=by rw [AU,em];rfl
       have sq:=AR hpq (.tup [.int (j:Int),.int u])
       have hw3:=sq _ _ hw2
       rwa [hw3]
       have kl:i+j<L:=by omega
       refine ⟨_,DP ⋯ (CQ _ kl),D8 (ba z (Bu en)) (bb u (Bu em)),_,rfl,i+j,?_,λb o h=>Kp.upd b o (BO h w0) (sq b o (s2 b o h)),?_⟩
       ·rw [Cz];exact El ⋯ kl
       ·refine Ek kl ?_ λk _ hk=>?_
        ·rw [M5,Zu rfl,zd,ud]
        ·rw [M5,Zt hk]
    ·rintro σ H2 ⟨y3,y4,rfl,s2,hw2⟩
     rw [AL] at hw2
     exact ⟨_,_,_,_,rfl,s2,hw2⟩
 ·rintro σ H1 ⟨x1,x2,x3,x4,rfl,s1,hw1⟩
  rwa []
  rw [AL] at hw1
  have ck:∀ k,co ((List.range L).map λk=>ps ns ms ns.length k) k=ps ns ms ns.length k:=λk=>by
   unfold co
   rw [AU,Af]
   by_cases hk:k<L
   ·rw [DS hk];rfl
   ·rw [Bv (by rw [Bm];omega),Jt _ _ ⋯];rfl
  have cl:((List.range L).map λk=>ps ns ms ns.length k).length=L:=by rw [AL,Bm]
  refine k w _ H1 s1 w0 hw1 (by rw [cl];omega) (λla lb=>⟨by rw [cl];omega,?_⟩) ck
  rw [ck,cl,<-hLL,X6 la1 lb1]
  exact CI la.2 lb.2
theorem Hand.same {H H':Hp} {p a:Addr} {n:Int} (h:Hand H p a n) (s:Same H H'):Hand H' p a n:=by
 obtain ⟨ns,x,y,z,h1,h2,r⟩:=h
 exact ⟨ns,x,y,z,s _ _ h1,s _ _ h2,r⟩
theorem Hand.mono {H:Hp} {p a:Addr} {n n':Int} (h:Hand H p a n) (e:n<=n'):Hand H p a n':=by
 obtain ⟨ns,x,y,z,h1,h2,h3,h4,h5,h6,h7⟩:=h
 exact ⟨ns,x,y,z,h1,h2,h3,h4,h5,⋯,h7⟩
theorem Hand.ne {H:Hp} {p a q:Addr} {n:Int} (h:Hand H p a n) (e:H q=none):q≠p:=by
 obtain ⟨ns,x,y,z,h1,_⟩:=h
 exact λw=>by rw [w,h1] at e;cases e
theorem Hand.upd {H:Hp} {p a q:Addr} {n:Int} {o:HO} (h:Hand H p a n) (e:q≠p) (e2:q≠a):Hand (upd H q o) p a n:=by
 obtain ⟨ns,x,y,z,h1,h2,r⟩:=h
 exact ⟨ns,x,y,z,by rw [Ag e.symm];exact h1,by rw [Ag e2.symm];exact h2,r⟩
theorem X8 {d:Int} (h0:0<=d) (h2:d<2):∃ s:Int,atI [V.int 1,V.int (-1)] d=some (V.int s)/\s≠0/\-1<=s/\s<=1:=by
 rcases (show d=0\/d=1 by omega) with e | e <;> subst e
 ·exact ⟨1,rfl,∅,∅,∅⟩
 ·exact ⟨-1,rfl,∅,∅,∅⟩
theorem bdN {n:Nat} {x:Int} (h:x.natAbs<2 ^ n):Bd n x:=h
theorem Qq {n m:Int} (hm:m≠0) (hn:n≠0):(AT n m).1≠0:=λz=>by
 have v:=GD (n:=n) hm
 unfold val at v
 rw [z,show ((0:Int):Rat)=0 from rfl,zdiv] at v
 have a:=Ba hm
 have b:=Ba hn
 ext
theorem X9 {s d:Int} (s0:s≠0) (h1:-1<=s) (h2:s<=1):(s*d).natAbs=d.natAbs:=by
 rw [BI]
 have:s.natAbs=1:=by omega
 rw [this,Nat.one_mul]
theorem YA (h:Ij K vs H Q E):Py K { nx:=λ_ H'=>Q .non H',rt:=Q } (L2.start ["_law_hand_here"] vs) H:=by
 obtain ⟨p,ad,n,rfl,hH,n9,k⟩:=h
 unfold Py
 rwa []
 refine ⟨sz ∅,λq hq=>⟨ad,n,hH.same (AR hq _),⋯,∅,∅,λd H1 d0 d2 h1 k1=>?_⟩⟩
 obtain ⟨s,hs,s0,s1,s2⟩:=X8 d0 d2
 have k01:Kp p H H1:=(Kp.of_same (AR hq _)).trans k1
 refine ⟨_,k1 _ _ (hH.ne hq) upd_same,_,hs,ad,n+2,h1,⋯,∅,∅,λe H2 e0 e9 h2 k2=>⟨s,rfl,Qd ⋯ ⋯,ad,n+2+2,h2,⋯,∅,∅,λf H3 f0 f9 h3 k3=>⟨⋯,λr hr=>?_⟩⟩⟩
 have sr:=AR hr (.tup [.int (AT (s*(1+e)) (1+f)).1,.int (AT (s*(1+e)) (1+f)).2])
 have f1:1+f≠0:=by omega
 have sm:=X9 (d:=1+e) s0 s1 s2
 obtain ⟨b1,b2⟩:=IB (c:=4) (d:=4) (n:=s*(1+e)) f1 (bdN (by rw [sm];show _<16;omega)) (bdN (by show _<16;omega))
 exact k r _ _ _ upd_same (D5 f1) (Qq f1 (CI s0 ⋯)) b1 b2 ((h3.same sr).mono ⋯) (((k01.trans k2).trans k3).same sr)
theorem EN (p:Nat->Int):∀ (w:List Int) (k:Nat),((cvL w p k:Int):Rat)=cvL (w.map λz:Int=>(z:Rat)) (λk=>(p k:Rat)) k
 | [],_=>rfl
 | x::w,0=>by rw [Ar];show _=(x:Rat)*(p 0:Rat)+0;push_cast;rfl
 | x::w,k+1=>by rw [Ak];show _=(x:Rat)*(p (k+1):Rat)+cvL (w.map λz:Int=>(z:Rat)) (λk=>(p k:Rat)) k;rw [<-EN p w k];push_cast;rfl
theorem DQ (ns:List Int):si ns=Sr.L (ns.map λz:Int=>(z:Rat)):=Sr.ext' λk=>by
 show ((co ns k:Int):Rat)=cvL _ AW k
 rw [Do]
 unfold co
 rw [AU,AU,Af]
 cases ns[k]? <;> rfl
theorem En (ns:List Int):Sr.Pol (si ns):=⟨_,DQ ns⟩
theorem JA {ns qs ms:List Int} (h:∀ k,co ns k=cvL qs (co ms) k):si ns=si qs*si ms:=by
 rw [DQ qs,Sr.L_mul]
 refine Sr.ext' λk=>?_
 show ((co ns k:Int):Rat)=cvL _ (λk=>((co ms k:Int):Rat)) k
 rw [h k,EN]
theorem LC {ns:List Int} (h:Lz ns):si ns≠0:=λz=>h.2 (by
 have:=Z3 (congrArg Sr.c z) (ns.length - 1)
 rw [Sr.zero_c] at this
 have this:((co ns (ns.length - 1):Int):Rat)=0:=this
 exact_mod_cast this)
theorem Qr (ns:List Int):Sr.Bn (si ns) ns.length:=λk hk=>by
 show ((co ns k:Int):Rat)=0
 rw [AX hk];rfl
theorem HS (ns:List Int) (k:Nat):co (dI ns) k=((k+1:Nat):Int)*co ns (k+1):=by
 by_cases h:k<ns.length - 1
 ·unfold dI
  show ((List.range (ns.length - 1)).map _).getD k 0=_
  rw [AU,Af,DS h]
  rfl
 ·rw [AX (by unfold dI;rw [AL,Bm];omega),AX (k:=k+1) ⋯,Int.mul_zero]
theorem HU (ns:List Int):(dI ns).length=ns.length - 1:=by unfold dI;rw [AL,Bm]
theorem Qs (ns:List Int):si (dI ns)=Sr.D (si ns):=Sr.ext' λk=>by
 show ((co (dI ns) k:Int):Rat)=((k:Rat)+1)*((co ns (k+1):Int):Rat)
 rw [HS];push_cast;rfl
theorem JB {g:Int} (ms:List Int):si (ms.map (g*·))=Sr.num (g:Rat)*si ms:=Sr.ext' λk=>by
 rw [Sr.num_mul]
 show ((co (ms.map (g*·)) k:Int):Rat)=(g:Rat)*((co ms k:Int):Rat)
 have e:co (ms.map (g*·)) k=g*co ms k:=by
  unfold co
  rw [AU,AU,Af]
  cases ms[k]? with
  | none=>simp
  | some z=>rfl
 rw [e];push_cast;rfl
theorem RadOf.smul {F L:Sr} {x:Rat} (h:RadOf F L):RadOf (Sr.num x*F) L:=by
 obtain ⟨S,M,pS,pL,pM,e1,e2,c⟩:=h
 refine ⟨Sr.num x*S,M,(Sr.Pol.num x).mul pS,pL,pM,by rw [e1];ext,by rw [Sr.D_num,e2];ext,c⟩
theorem YB {g f:List Int} (m:MQ (co g) (co f)):∃ B,Sr.Pol B/\si f=B*si g:=by
 obtain ⟨c,c0,A,h⟩:=m
 have c1:=Ba c0
 refine ⟨Sr.num ((c:Rat)⁻¹)*si A,(Sr.Pol.num _).mul (En A),?_⟩
 have e:Sr.num (c:Rat)*si f=si A*si g:=by
  rw [<-JB]
  refine JA λk=>?_
  rw [<-h k]
  unfold co
  rw [AU,AU,Af]
  cases f[k]? with
  | none=>simp
  | some z=>rfl
 have i:=Sr.num_inv c1
 have:si f=Sr.num ((c:Rat)⁻¹)*Sr.num (c:Rat)*si f:=by rw [i];ext
 rw [this,show Sr.num ((c:Rat)⁻¹)*Sr.num (c:Rat)*si f=Sr.num ((c:Rat)⁻¹)*(Sr.num (c:Rat)*si f) by ext,e]
 ext
theorem YC {r o g:List Int} (R:RC (co r) (co o) g) {A B:Sr} (pA:Sr.Pol A) (pB:Sr.Pol B) (h1:si r=A*si g) (h2:si o=B*si g):Sr.Cs A B:=by
 obtain ⟨d,d0,U,W,h⟩:=R.qi
 have e:Sr.num (d:Rat)*si g=si U*si r+si W*si o:=by
  rw [DQ U,DQ W,Sr.L_mul,Sr.L_mul]
  refine Sr.ext' λk=>?_
  rw [Sr.num_mul]
  show (d:Rat)*((co g k:Int):Rat)=cvL _ (λk=>((co r k:Int):Rat)) k+cvL _ (λk=>((co o k:Int):Rat)) k
  rw [<-EN,<-EN]
  exact_mod_cast h k
 have e2:Sr.num (d:Rat)=si U*A+si W*B:=Sr.cancel (Sr.Pol.num _) (((En U).mul pA).add ((En W).mul pB)) (En g) (LC R.lz) (by rw [e,h1,h2];ext)
 exact Sr.Cs.of_unit (Ba d0) rfl (En U) (En W) e2.symm
theorem YD {ms rs qs:List Int} (R:RC (co ms) (co (dI ms)) rs) (h:∀ k,co ms k=cvL qs (co rs) k):RadOf (si ms) (si qs):=by
 obtain ⟨B,pB,eB⟩:=YB R.right
 have e:=JA h
 refine ⟨si rs,B,En rs,En qs,pB,by rw [e];ext,by rw [<-Qs,eB];ext,YC R (En qs) pB e eB⟩
theorem YE {ns qs ms:List Int} (ln:Lz ns) (lm:Lz ms) (hl:qs.length=ns.length+1 - ms.length) (h:∀ k,co ns k=cvL qs (co ms) k):Lz qs/\qs.length+ms.length=ns.length+1:=by
 have e:=JA h
 have n0:=ln.1
 have m0:=lm.1
 have q0:0<qs.length:=by
  rcases DH qs.length with z | z
  ·rw [CU.mp z] at e
   exact absurd (by rw [e,DQ []];show Sr.L []*_=0;rw [Sr.L_nil];ext) (LC ln)
  ·exact z
 refine ⟨⟨q0,λz=>?_⟩,⋯⟩
 have b1:Sr.Bn (si qs) (qs.length - 1+1):=by rw [Nat.sub_add_cancel q0];exact Qr qs
 have b2:Sr.Bn (si ms) (ms.length - 1+1):=by rw [Nat.sub_add_cancel m0];exact Qr ms
 have t:=(Sr.top_mul b1 b2).1
 rw [<-e,show qs.length - 1+(ms.length - 1)=ns.length - 1 by omega] at t
 have t:((co ns (ns.length - 1):Int):Rat)=((co qs (qs.length - 1):Int):Rat)*((co ms (ms.length - 1):Int):Rat):=t
 rw [z] at t
 have t2:((co ns (ns.length - 1):Int):Rat)=0:=by rw [t];push_cast;ext
 exact ln.2 (by exact_mod_cast t2)
noncomputable def DvI (ms g:List Int):Prop:=∃ A:List Int,∀ k,co ms k=cvL A (co g) k
theorem DvI.fac {ms g q a:List Int} (h:DvI ms g) (e:∀ k,co g k=cvL q (co a) k):DvI ms a/\DvI ms q:=by
 obtain ⟨A,hA⟩:=h
 refine ⟨⟨Au A q,λk=>?_⟩,⟨Au A a,λk=>?_⟩⟩
 ·rw [hA k,B4,BK e]
 ·have e2:∀ k,co g k=cvL a (co q) k:=λk=>by
   have h1:∀ (b:List Int) (k:Nat),co b k=cvL b AW k:=λb k=>by rw [Do];rfl
   rw [e k,BK (h1 a),BK (h1 q),GF]
  rw [hA k,B4,BK e2]
theorem DvI.self (ms:List Int):DvI ms ms:=⟨[1],λk=>by
 cases k with
 | zero=>rw [Ar];ext
 | succ k=>rw [Ak,Ay];ext⟩
theorem DvI.len {ms g:List Int} (h:DvI ms g) (l1:Lz ms) (l2:Lz g):g.length<=ms.length:=Ir l2 l1 (by
 obtain ⟨A,hA⟩:=h
 exact ⟨1,∅,A,λk=>by rw [Int.one_mul];exact hA k⟩)
theorem DvI.bd {ms g:List Int} (h:DvI ms g) (l1:Lz ms) (bm:∀ z∈ms,Bd 40 z) (m9:ms.length<=9) (l2:Lz g):∀ z∈g,Bd 148 z:=by
 have gl:=h.len l1 l2
 obtain ⟨A,hA⟩:=h
 exact Xe (K4 (n:=9) (c:=4) bm ⟨_,l1.2⟩ m9 ⋯ ∅ hA)
theorem LD {a:List Int} (h:Lz a):Tz a:=.inr h.2
theorem YF {ns:List Int} (h:Lz ns):Tz (dI ns):=by
 by_cases c:2<=ns.length
 ·refine LD ⟨by rw [HU];omega,?_⟩
  rw [HU,HS,show ns.length - 1 - 1+1=ns.length - 1 by omega]
  exact CI ⋯ h.2
 ·have e:dI ns=[]:=CU.mp (by rw [HU];omega)
  exact .inl e
theorem YG {ns:List Int} (h:∀ z∈ns,Bd 40 z) (n9:ns.length<=9):∀ z∈dI ns,Bd 148 z:=λz hz=>by
 unfold dI at hz
 obtain ⟨k,hk,rfl⟩:=Bc.mp hz
 have hk':=ER.mp hk
 have b4:Bd 4 ((k+1:Nat):Int):=by
  show ((k+1:Nat):Int).natAbs<2 ^ 4
  omega
 exact (b4.mul (C5 h (k+1))).mono ∅
theorem YH (h:Ik K vs H Q E):OI K { nx:=λ_ H'=>Q .non H',rt:=Q } (L2.start ["row"] vs) H:=by
 obtain ⟨p,ns,b,rfl,hp,l1,bn,b9,k⟩:=h
 unfold OI
 rwa [hp]
 rw [AL]
 refine ⟨∅,∅,⋯,⋯,CompJ.range (λi zs H'=>i<=ns.length - 1/\Same H H'/\zs=AY i λk=>((k+1:Nat):Int)*co ns (k+1)) ⟨AV _,Same.refl H,rfl⟩ ?_ ?_ ?_⟩
 ·rintro i zs H' ⟨h1,s1,rfl⟩
  exact ⟨⋯,sz (by rw [Cz];omega)⟩
 ·rintro i zs H' hi ⟨h1,s1,rfl⟩
  have hp1:=s1 _ _ hp
  have g1:atI (ns.map V.int) (1+(i:Int))=some (V.int (co ns (i+1))):=by
   refine DP (j:=i+1) ⋯ ?_
   rw [Qp]
   exact CQ _ ⋯
  rwa [hp1,g1]
  refine ⟨EM ⋯ ⋯,⋯,s1,?_⟩
  rw [X1 i,show (1+(i:Int))=((i+1:Nat):Int) by omega]
  rfl
 ·rintro zs H' ⟨_,s1,rfl⟩ a ha
  refine k a _ (s1.trans (AR ha _)) ?_
  rw [upd_same,show ((ns.length:Int) - 1).toNat=ns.length - 1 by omega]
  rfl
theorem YI {ns ms:List Int} {g:Int} (g0:0<g) (e:ns=ms.map (g*·)) (ln:Lz ns) (bn:∀ z∈ns,Bd 40 z):Lz ms/\(∀ z∈ms,Bd 40 z)/\ms.length=ns.length:=by
 have l:ms.length=ns.length:=by rw [e,AL]
 refine ⟨⟨by have:=ln.1;omega,λz=>ln.2 ?_⟩,λz hz=>?_,l⟩
 ·have:=Z3 (congrArg Sr.c (JB (g:=g) ms)) (ns.length - 1)
  rw [<-e,Sr.num_mul] at this
  have this:((co ns (ns.length - 1):Int):Rat)=(g:Rat)*((co ms (ns.length - 1):Int):Rat):=this
  rw [<-l,z] at this
  have t2:((co ns (ms.length - 1):Int):Rat)=0:=by rw [this];push_cast;ext
  rw [<-l]
  exact_mod_cast t2
 ·have b:=bn (g*z) (by rw [e];exact Bc.mpr ⟨z,hz,rfl⟩)
  refine Bd.le b ?_
  rw [BI]
  exact Fm _ ⋯
theorem em9 {ns ms:List Int} (h1:ns.length<=9) (h2:ms.length<=9) (h:ns=[]\/ms=[]):2*3 ^ (ns.length+ms.length)*(148+1)<=60000000:=by
 have:ns.length+ms.length<=9:=by rcases h with rfl | rfl <;> simp <;> omega
 have p:=Cp (show 0<3 by decide) this
 have:3 ^ 9=19683:=by decide
 omega
theorem YJ {ms rs qs:List Int} (lm:Lz ms) (bm:∀ z∈ms,Bd 40 z) (m9:ms.length<=9) (R:RC (co ms) (co (dI ms)) rs) (hl:qs.length=ms.length+1 - rs.length) (h:∀ k,co ms k=cvL qs (co rs) k):Lz qs/\qs.length+rs.length=ms.length+1/\qs.length<=9/\(∀ z∈qs,Bd 148 z)/\(∀ z∈rs,Bd 148 z)/\DvI ms qs/\DvI ms rs/\RadOf (si ms) (si qs):=by
 obtain ⟨lq,le⟩:=YE lm R.lz hl h
 have d:=(DvI.self ms).fac h
 have r0:=R.lz.1
 exact ⟨lq,le,⋯,d.2.bd lm bm m9 lq,d.1.bd lm bm m9 R.lz,d.2,d.1,YD R h⟩
theorem YK (qs:List Int):si (qs.map λz=>-z)=Sr.num (-1)*si qs:=by
 have e:(qs.map λz=>-z)=qs.map ((-1:Int)*·):=EB λz _=>by omega
 rw [e,JB]
 congr 1
theorem YL (h:Il K vs H Q E):Oz K { nx:=λ_ H'=>Q .non H',rt:=Q } (L2.start ["row","short","simple"] vs) H:=by
 obtain ⟨p,ns,rfl,hp,ln,bn,n9,k⟩:=h
 unfold Oz
 rwa [hp]
 refine ⟨ns,rfl,⋯,LD ln,λt ms g H1 s1 ht g0 eg pr=>?_⟩
 obtain ⟨lm,bm,ml⟩:=YI g0 eg ln bn
 have m9:ms.length<=9:=by omega
 have ne:ns≠[]:=De.mp ln.1
 have mne:ms≠[]:=De.mp lm.1
 have pm:Prim ms:=pr.resolve_left ne
 unfold Oy
 rwa [ht]
 refine ⟨ms,rfl,⋯,40,bm,∅,λa H2 s2 ha=>?_⟩
 have ht2:=s2 _ _ ht
 rwa [ht2,ha]
 refine ⟨ms,rfl,dI ms,rfl,LD lm,YF lm,148,λz hz=>(bm z hz).mono ∅,YG bm m9,9,m9,by rw [HU];omega,∅,∅,4,∅,∅,em9 m9 (by rw [HU];omega),λb rs H3 s3 hb rc _=>?_⟩
 obtain ⟨R,Pr⟩:=rc (.inl mne)
 have ht3:=s3 _ _ ht2
 have dv:∃ A:List Int,∀ k,co ms k=cvL A (co rs) k:=gauss Pr R.left
 have lrs:rs.length<=9:=by have:=Ir R.lz lm R.left;omega
 have brs:∀ z∈rs,Bd 148 z:=DvI.bd dv lm bm m9 R.lz
 rwa [ht3,hb]
 refine ⟨ms,rfl,rs,rfl,R.lz,40,bm,148,brs,⋯,∅,⋯,⋯,λno=>absurd dv no,λr qs H4 s4 hr hl hq=>?_⟩
 obtain ⟨lq,le,q9,bq,_,_,_,rad⟩:=YJ lm bm m9 R hl hq
 have S4:=((s1.trans s2).trans s3).trans s4
 have al:=GT lq.1
 have out:RadOf (si ns) (si qs):=by rw [eg,JB];exact rad.smul
 unfold Ox
 rwa [hr,al]
 refine AO (λc=>?_) (λc=>?_)
 ·exact k r qs H4 S4 hr lq q9 bq ⟨1,si qs,∅,out,by rw [Sr.num_one];ext⟩ ⋯
 ·refine ⟨⟨_,SqL.of hr⟩,CompJ.lst (xs:=qs.map V.int) (λi ys H'=>i<=qs.length/\Same H4 H'/\ys=((qs.map λz=>-z).take i).map V.int) ⟨AV _,Same.refl H4,rfl⟩ ?_ ?_ ?_⟩
  ·rintro i ys H' ⟨h1,s5,rfl⟩
   exact ⟨by rw [AL];exact h1,sz (by rw [AL,Cm];omega),SqL.of (s5 _ _ hr)⟩
  ·rintro i x ys H' hi ⟨h1,s5,rfl⟩
   rw [Af] at hi
   cases e:qs[i]? with
   | none=>rw [e] at hi;cases hi
   | some z=>
     rw [e] at hi
     obtain rfl:=Z1 hi
     have hi2:i<qs.length:=(Bp.mp e).1
     rwa []
     refine ⟨⋯,s5,?_⟩
     rw [DR,Af,e,Dv]
     rfl
  ·rintro ys H' ⟨_,s5,rfl⟩ a5 ha5
   have e:(qs.map λz=>-z).take (qs.map V.int).length=qs.map λz=>-z:=by
    rw [AL]
    exact List.take_of_length_le (by rw [AL];exact AS _)
   rw [e]
   have cn:∀ k,co (qs.map λz=>-z) k = - co qs k:=λk=>by
    unfold co
    rw [AU,AU,Af]
    cases qs[k]? <;> simp
   refine k a5 (qs.map λz=>-z) _ ((S4.trans s5).trans (AR ha5 _)) upd_same ⟨by rw [AL];exact lq.1,?_⟩ (by rw [AL];exact q9) ?_ ⟨-1,si qs,∅,out,YK qs⟩ ?_
   ·rw [AL,cn]
    have:=lq.2
    omega
   ·intro z hz
    obtain ⟨y,hy,rfl⟩:=Bc.mp hz
    exact (bq y hy).neg
   ·rw [AL,cn]
    have:=lq.2
    omega
theorem YM {ns:List Int} {t d:Int} {b c:Nat} (bc:b+c<=40) (lz:Lz ns) (bn:∀ z∈ns,Bd b z) (l:Low t d) (t0:t≠0) (bt:Bd c t) (bd:Bd 4 d):Gq 40 40 (ns.map λn=>AT (n*t) d):=by
 have d0:d≠0:=Ah l.pos
 have e:(ns.map λn=>AT (n*t) d)=(ns.map (·*t)).map λn=>AT n d:=by rw [Du];rfl
 have b4:∀ z∈ns.map (·*t),Bd 40 z:=λz hz=>by obtain ⟨y,hy,rfl⟩:=Bc.mp hz;exact ((bn y hy).mul bt).mono bc
 have r:=Xy d0 b4
 rw [<-e] at r
 refine ⟨λq hq=>?_,λq hq=>?_,_,r.1,(bd.le ⋯).mono ∅,r.2⟩
 ·obtain ⟨z,_,rfl⟩:=Bc.mp hq;exact D5 d0
 ·rw [List.getLast?_map] at hq
  have l0:=lz.1
  have hl:ns.getLast?=some (co ns (ns.length - 1)):=by
   rw [List.getLast?_eq_getElem?]
   unfold co
   rw [AU,Am ⋯];rfl
  rw [hl] at hq
  obtain rfl:=Z1 hq
  exact Qq d0 (CI lz.2 t0)
theorem Qt {F L L':Sr} (f0:F≠0) (h:RadOf F L) (h':RadOf F L'):∃ q,Sr.Pol q/\L'=q*L:=by
 obtain ⟨S,M,pS,pL,pM,e1,e2,c⟩:=h
 obtain ⟨S',M',pS',pL',pM',e1',e2',c'⟩:=h'
 have s0:S≠0:=λz=>f0 (by rw [e1,z];ext)
 have s0':S'≠0:=λz=>f0 (by rw [e1',z];ext)
 have x:L*M'=L'*M:=by
  refine Sr.cancel (pL.mul pM') (pL'.mul pM) (pS.mul pS') (Sr.ne_mul pS pS' s0 s0') ?_
  have a:S*L=S'*L':=e1.symm.trans e1'
  have b:S*M=S'*M':=e2.symm.trans e2'
  calc L*M'*(S*S')=(S*L)*(S'*M'):=by ext
   _=(S'*L')*(S*M):=by rw [a,b]
   _=L'*M*(S*S'):=by ext
 obtain ⟨U,W,pU,pW,h⟩:=c
 refine ⟨U*L'+W*M',(pU.mul pL').add (pW.mul pM'),?_⟩
 have:L'=L'*(U*L+W*M):=by rw [h];ext
 ext
theorem YN (f:Nat->Rat) (n:Nat) (x:Rat) (d:Nat):evF f n x (d+1)=f (n - 1 - d)+x*evF f n x d:=rfl
theorem LE {b:Nat} {c:Int} {R:Nat->Int} {n:Nat} (hc:Bd 1000 c) (h:∀ j,Bd b (R j)):∀ d,Bd (b+1001*d) (sy c R n d)
 | 0=>h _
 | d+1=>by
   have a1:=(hc.mul (LE (n:=n) hc h d)).mono (show 1000+(b+1001*d)<=b+1001*d+1000 by omega)
   exact (((h (n - 1 - (d+1))).mono (show b<=b+1001*d+1000 by omega)).add a1).mono ⋯
theorem YO {c:Int} {R:Nat->Int} {n p:Nat} (h:p+1<n):sy c R n (n - 1 - p)=R p+c*sy c R n (n - 1 - (p+1)):=by
 rw [show n - 1 - p=(n - 1 - (p+1))+1 by omega]
 show R (n - 1 - (n - 1 - (p+1)+1))+_=_
 rw [show n - 1 - (n - 1 - (p+1)+1)=p by omega]
theorem JC {b m:Nat} {c:Int} {R:Nat->Int} {n:Nat} (hc:Bd 1000 c) (h:∀ j,Bd b (R j)) (hn:n<=m):∀ i j,Bd (b+1001*m*i) (rnds c R n i j)
 | 0,j=>h j
 | i+1,j=>by
   show Bd _ (rnd c (rnds c R n i) n i j)
   have e:1001*m*(i+1)=1001*m*i+1001*m:=by rw [Nat.mul_add,Nat.mul_one]
   unfold rnd
   split
   ·exact (JC hc h hn i j).mono ⋯
   ·exact (LE hc (JC hc h hn i) _).mono ⋯
theorem YQ (h:Kc K vs H Q E):O2 K { nx:=λ_ H'=>Q .non H',rt:=Q } (L2.start ["P","c","row","value","scale","whole"] vs) H:=by
 obtain ⟨p,q,xs,l,a,b,bq,rfl,hp,hq,hN,G,bq8,lo,ba,bb,l9,k⟩:=h
 have hl:=G.low
 obtain ⟨bc,bB,bt⟩:=G.clr
 have OL:=FA hl
 have bL:Bd 8000 (Bh l):=bB.mono ⋯
 have cll:(BZ l).length=l.length:=by unfold BZ;rw [AL]
 have b0:0<b:=lo.pos
 unfold O2
 unfold Nm at hq
 rwa [hp]
 refine ⟨l,hN,hl,Bh l,OL,bL.mono ∅,λq hq=>(bt q hq).mono ⋯,⋯,λr c H1 s1 hr hc=>?_⟩
 have hq1:=s1 _ _ hq
 rwa [hr]
 refine ⟨_,SqL.of hc,ForJ.rev (λi σ H'=>∃ (v:Int) (x5:Option V),σ=[some (.ref p),some (.ref q),some (.ref r),some (.int v),some (.int (b ^ i)),x5]/\H'=H1/\Bd (11000+2000*i) v/\(v:Rat)*b=((b ^ i:Int):Rat)*evF (λj=>((BZ l).getD j 0:Rat)) l.length (val (a,b)) i) ⟨0,none,by rw [Int.pow_zero],rfl,FY _,?_⟩ ?_ ?_ ?_⟩
 ·show ((0:Int):Rat)*b=_*0
  push_cast
  ext
 ·rintro i σ H' _ ⟨_,_,_,rfl,_⟩
  exact SqL.of hc
 ·rintro i x σ H' hi hx ⟨v,y,rfl,rfl,bv,id⟩
  rw [AL,cll] at hi hx
  rw [Af,Am ⋯] at hx
  have ew:(BZ l).getD (l.length - 1 - i) 0=(BZ l)[l.length - 1 - i]'⋯:=by rw [AU,Am ⋯];rfl
  obtain rfl:V.int _=x:=Z1 hx
  rw [<-ew]
  have bw:Bd 8000 ((BZ l).getD (l.length - 1 - i) 0):=(Hy bc _).mono ⋯
  have bp:Bd 2001 (b ^ i):=(bb.pow i).mono ⋯
  rwa [hq1]
  refine ⟨Br (bv.mono (show _<=60000 by omega)) ba,Br bw bp,Br bp bb,?_⟩
  refine ⟨by rw [Int.pow_succ],?_,?_⟩
  ·exact (((bv.mul ba).mono (show _<=11100+2000*i by omega)).add ((bw.mul bp).mono ⋯)).mono ⋯
  ·rw [YN]
   have hb:=Ba (Ah b0)
   have hv:val (a,b)=(a:Rat) / b:=rfl
   rw [Int.pow_succ]
   push_cast at id ⊢
   ext
 ·rintro σ H' ⟨v,y,rfl,rfl,bv,id⟩
  rw [AL,cll] at *
  have bp:Bd 2001 (b ^ l.length):=(bb.pow l.length).mono ⋯
  have bpos:0<b ^ l.length:=Int.pow_pos b0
  have B0:=Int.mul_pos OL.1 bpos
  rwa [hq1,hr]
  refine ⟨Br (bv.mono (show _<=60000 by omega)) bb,Br bL bp,Ah B0,λt ht=>?_⟩
  refine k t _ (AT (v*b) (Bh l*b ^ l.length)) (s1.trans (AR ht _)) NJ (D5 (Ah B0)) ((IB (Ah B0) ((bv.mul bb).mono (show _<=60000 by omega)) (bL.mul bp)).1.mono ∅) ((IB (Ah B0) ((bv.mul bb).mono (show _<=60000 by omega)) (bL.mul bp)).2.mono ∅) ?_
  unfold evN
  rw [GD (Ah B0)]
  have e:evF (pwo l) l.length (val (a,b)) l.length=evF (λj=>((BZ l).getD j 0:Rat)) l.length (val (a,b)) l.length / (Bh l:Rat):=by
   rw [<-Kb]
   exact N4 _ (AS _) λi _ _=>M8 hl OL i
  rw [e]
  have h1:=Ba (Ah OL.1)
  have h2:=Ba (Ah bpos)
  push_cast at *
  ext
noncomputable def lin (c:Int) (q:List Int):List Int:=Ae (q.map (c*·)) (0::q)
theorem YR {a b c:Int} (h:a∣b*c) (g:Int.gcd a c=1):a∣b:=by
 have h1:Nat.Coprime a.natAbs c.natAbs:=g
 refine Cd.mp (h1.dvd_of_dvd_mul_right ?_)
 rw [<-BI]
 exact Cd.mpr h
noncomputable abbrev qR (l:List Int):List Rat:=l.map λz:Int=>(z:Rat)
theorem rpow_ne' {x:Rat} (h:x≠0):∀ n:Nat,x ^ n≠0
 | 0=>by rw [A7];ext
 | n+1=>by rw [Ap];exact λz=>(CB.mp z).elim (rpow_ne' h n) h
theorem CH (l:List Int):Sr.L (qR l)=si l:=(DQ l).symm
theorem YS {ns rs:List Int} (n0:si ns≠0) (h:∃ (c:Rat) (L:Sr),c≠0/\RadOf (si ns) L/\si rs=Sr.num c*L) (x:Rat):Sr.ev (qR ns) x=0↔Sr.ev (qR rs) x=0:=by
 obtain ⟨c,L,c0,⟨S,M,pS,pL,pM,e1,e2,cs⟩,e3⟩:=h
 obtain ⟨s,rfl⟩:=pS
 obtain ⟨l,rfl⟩:=pL
 have S0:Sr.L s≠0:=λz=>n0 (by rw [e1,z];ext)
 have en:Sr.L (qR ns)=Sr.L (Au s l):=by rw [CH,Sr.L_mulRow];exact e1
 have er:Sr.L (qR rs)=Sr.L (l.map (c*·)):=by rw [CH,Sr.L_scal];exact e3
 rw [Sr.ev_congr en,Sr.ev_congr er,Sr.ev_mul,Sr.ev_scal]
 constructor
 ·intro z
  rcases CB.mp z with q | q
  ·have hD:Sr.D (Sr.L s)*Sr.L l=(M - Sr.D (Sr.L l))*Sr.L s:=by
    rw [e1,Sr.D_mul (Sr.Pol.L s)] at e2
    ext
   obtain ⟨m,a,⟨a',rfl⟩,pw⟩:=Sr.rad_pow _ (Sr.L s) (Sr.L l) _ (Sr.L_bn s) S0 (Sr.Pol.L l) (Sr.Pol.sub pM (Sr.Pol.D (Sr.Pol.L l))) hD
   obtain ⟨lm,hlm⟩:∃ lm:Nat->List Rat,∀ n,Sr.L (lm n)=Sr.L l ^ n/\Sr.ev (lm n) x=Sr.ev l x ^ n:=by
    refine ⟨λn=>Nat.rec [1] (λ_ y=>Au y l) n,λn=>?_⟩
    induction n with
    | zero=>exact ⟨by show Sr.L [1]=_;rw [<-Sr.num_L,Sr.num_one];ext,by show (1:Rat)+x*0=_;rw [A7];ext⟩
    | succ n ih=>exact ⟨by show Sr.L (Au _ l)=_;rw [Sr.L_mulRow,ih.1];ext,by show Sr.ev (Au _ l) x=_;rw [Sr.ev_mul,ih.2,Ap]⟩
   have e:Sr.L (lm m)=Sr.L (Au a' s):=by rw [(hlm m).1,Sr.L_mulRow];exact pw
   have v:=Sr.ev_congr e x
   rw [(hlm m).2,Sr.ev_mul,q] at v
   have l0:Sr.ev l x=0:=by
    by_cases y:Sr.ev l x=0
    ·exact y
    ·exact absurd (show Sr.ev l x ^ m=0 by rw [v];ext) (rpow_ne' y m)
   rw [l0];ext
  ·rw [q];ext
 ·intro z
  rw [(CB.mp z).resolve_left c0];ext
theorem siegel {A B:List Int} {T b:Nat} (lA:Lz A) (lB:Lz B) (q:QI (co A) (co B) AW) (hA:∀ k,Bd b (co A k)) (hB:∀ k,Bd b (co B k)) (n1:2<=A.length) (m1:2<=B.length) (T0:0<T)
  (big:(2*((A.length+B.length)*2 ^ b)) ^ (A.length+B.length - 2)<T):∃ (U V:List Int) (d:Int),d≠0/\d.natAbs<T/\(∀ k,cvL U (co A) k+cvL V (co B) k=co [d] k)/\(∀ k,(co U k).natAbs<T)/\(∀ k,(co V k).natAbs<T)/\U.length=B.length - 1/\V.length=A.length - 1:=by
 generalize hn:A.length - 1=n at *
 generalize hm:B.length - 1=m at *
 generalize hE:(A.length+B.length)*2 ^ b=E at *
 have N1:A.length+B.length - 2=n+m:=by omega
 rw [N1] at big
 have hAn:∀ k,(co A k).natAbs<=2 ^ b:=λk=>C1 (hA k)
 have hBn:∀ k,(co B k).natAbs<=2 ^ b:=λk=>C1 (hB k)
 have E0:0<E:=by rw [<-hE];exact Nat.mul_pos ⋯ (Bf ∅)
 obtain ⟨u,hu⟩:∃ u:Nat->List Int,∀ t,u t=(digs T (m+n) t).take m:=⟨_,λ_=>rfl⟩
 obtain ⟨v,hv⟩:∃ v:Nat->List Int,∀ t,v t=(digs T (m+n) t).drop m:=⟨_,λ_=>rfl⟩
 obtain ⟨f,hf⟩:∃ f:Nat->Nat->Int,∀ t k,f t k=cvL (u t) (co A) k+cvL (v t) (co B) k:=⟨_,λ_ _=>rfl⟩
 have ul:∀ t,(u t).length=m:=λt=>by rw [hu,Cm,HL];omega
 have vl:∀ t,(v t).length=n:=λt=>by rw [hv,List.length_drop,HL];omega
 have uz:∀ t,∀ z∈u t,0<=z/\z<(T:Int):=λt z hz=>HM T0 _ t z (List.mem_of_mem_take (hu t ▸ hz))
 have vz:∀ t,∀ z∈v t,0<=z/\z<(T:Int):=λt z hz=>HM T0 _ t z (List.mem_of_mem_drop (hv t ▸ hz))
 have fb:∀ t k,(f t k).natAbs<E*T:=λt k=>by
  have h1:=HN (q:=T - 1) hAn (u t) (λz hz=>by have:=uz t z hz;omega) k
  have h2:=HN (q:=T - 1) hBn (v t) (λz hz=>by have:=vz t z hz;omega) k
  rw [ul] at h1
  rw [vl] at h2
  have h3:(f t k).natAbs<=(m+n)*((T - 1)*2 ^ b):=by
   rw [DJ,hf]
   omega
  refine DG h3 ?_
  rw [<-hE]
  have e:(m+n)*((T - 1)*2 ^ b)=((m+n)*2 ^ b)*(T - 1):=by rw [Co (T - 1),Nat.mul_assoc]
  rw [e]
  exact CO (Nat.mul_lt_mul_of_pos_left ⋯ (Nat.mul_pos ⋯ (Bf ∅))) (CP T (CP _ ⋯))
 obtain ⟨e0,he0⟩:∃ e0:Nat->Nat,∀ t,e0 t=(f t 0 / (T:Int)+(E:Int)).toNat:=⟨_,λ_=>rfl⟩
 obtain ⟨ek,hek⟩:∃ ek:Nat->Nat->Nat,∀ t k,ek t k=(f t (k+1)+((E*T:Nat):Int)).toNat:=⟨_,λ_ _=>rfl⟩
 have e0r:∀ t,0<=f t 0 / (T:Int)+(E:Int)/\f t 0 / (T:Int)+(E:Int)<2*(E:Int):=λt=>by
  have h:=fb t 0
  have h1:-((E:Int)*(T:Int))<=f t 0:=by have:((E*T:Nat):Int)=(E:Int)*(T:Int):=by push_cast;rfl
                                        omega
  have h2:f t 0<(E:Int)*(T:Int):=by have:((E*T:Nat):Int)=(E:Int)*(T:Int):=by push_cast;rfl
                                    omega
  have q1:-(E:Int)<=f t 0 / (T:Int):=by
   refine (Int.le_ediv_iff_mul_le ⋯).mpr ?_
   rw [Dd];exact h1
  have q2:f t 0 / (T:Int)<(E:Int):=Int.ediv_lt_of_lt_mul ⋯ h2
  omega
 have ekr:∀ t k,0<=f t (k+1)+((E*T:Nat):Int)/\f t (k+1)+((E*T:Nat):Int)<2*((E*T:Nat):Int):=λt k=>by
  have h:=fb t (k+1)
  omega
 have e0l:∀ t,e0 t<2*E:=λt=>by have:=e0r t;rw [he0];omega
 have ekl:∀ t k,ek t k<2*(E*T):=λt k=>by have:=ekr t k;rw [hek];omega
 have cl:∀ t,e0 t+2*E*enc (2*(E*T)) (m+n - 1) (ek t)<2*E*(2*(E*T)) ^ (m+n - 1):=λt=>by
  have h1:=Kz (M:=2*(E*T)) (m+n - 1) (ek t) (λk _=>ekl t k)
  have h2:2*E*(enc (2*(E*T)) (m+n - 1) (ek t)+1)<=2*E*(2*(E*T)) ^ (m+n - 1):=B6 _ h1
  have h3:=e0l t
  rw [Nat.mul_add,Nat.mul_one] at h2
  omega
 have room:2*E*(2*(E*T)) ^ (m+n - 1)<T ^ (m+n):=by
  obtain ⟨N,hN⟩:∃ N,m+n=N+1:=⟨m+n - 1,⋯⟩
  rw [hN,Nat.add_sub_cancel]
  rw [Nat.add_comm n m,hN] at big
  have e:2*E*(2*(E*T)) ^ N=(2*E) ^ (N+1)*T ^ N:=by
   rw [<-Nat.mul_assoc 2 E T,Nat.mul_pow (2*E) T N,B5,Co ((2*E) ^ N) (2*E),Nat.mul_assoc (2*E)]
  rw [e,B5 T,Co (T ^ N) T]
  exact Nat.mul_lt_mul_of_pos_right big (Bf T0)
 obtain ⟨s,t,st,ht,e⟩:=php _ _ _ (λi _=>cl i) room
 obtain ⟨q0,q1⟩:=K1 (e0l s) (e0l t) e
 have qk:=K2 (m+n - 1) _ _ (λk _=>ekl s k) (λk _=>ekl t k) q1
 have w0:∀ k,(co (u s) k - co (u t) k)=co (Ae (u s) ((u t).map ((-1)*·))) k:=λk=>by rw [Bw,Bw,Bw,BT,A6];omega
 have df:∀ k,f s k - f t k=cvL (Ae (u s) ((u t).map ((-1)*·))) (co A) k+cvL (Ae (v s) ((v t).map ((-1)*·))) (co B) k:=λk=>by
  rw [BT,BT,A6,A6,hf,hf]
  omega
 have hi:∀ k,0<k->f s k - f t k=0:=λk hk=>by
  rcases BG k (m+n) with c | c
  ·have:=qk (k - 1) ⋯
   have r1:=ekr s (k - 1)
   have r2:=ekr t (k - 1)
   rw [hek,hek,show k - 1+1=k by omega] at this
   rw [show k - 1+1=k by omega] at r1 r2
   omega
  ·have z:∀ t,f t k=0:=λt=>by
    rw [hf,Dq (n:=A.length) (λi hi=>AX hi) (u t) k (by rw [ul];omega),Dq (n:=B.length) (λi hi=>AX hi) (v t) k (by rw [vl];omega)];rfl
   rw [z,z];rfl
 have d0:(f s 0 - f t 0).natAbs<T:=by
  have r1:=e0r s
  have r2:=e0r t
  rw [he0,he0] at q0
  have q0:f s 0 / (T:Int)=f t 0 / (T:Int):=by omega
  have m1:=Es (f s 0) T
  have m2:=Es (f t 0) T
  have b1:=CM (f s 0) (show (T:Int)≠0 by omega)
  have b2:=CT (f s 0) (show (0:Int)<T by omega)
  have b3:=CM (f t 0) (show (T:Int)≠0 by omega)
  have b4:=CT (f t 0) (show (0:Int)<T by omega)
  rw [q0] at m1
  omega
 refine ⟨Ae (u s) ((u t).map ((-1)*·)),Ae (v s) ((v t).map ((-1)*·)),f s 0 - f t 0,λz0=>?_,d0,λk=>?_,λk=>?_,λk=>?_,by rw [HP,AL,ul,ul];omega,by rw [HP,AL,vl,vl];omega⟩
 ·have all:∀ k,cvL (Ae (u s) ((u t).map ((-1)*·))) (co A) k+cvL (Ae (v s) ((v t).map ((-1)*·))) (co B) k=0:=λk=>by
   rw [<-df]
   cases k with
   | zero=>exact z0
   | succ k=>exact hi (k+1) ⋯
  have ll:∀ {a c:List Int} {x:Nat},a.length=x->c.length=x->(Ae a (c.map ((-1)*·))).length=x:=λ{a c x} h1 h2=>by
   rw [HP,AL,h1,h2];omega
  obtain ⟨c1,c2⟩:=Qf lA lB q (by rw [ll (ul s) (ul t)];omega) (by rw [ll (vl s) (vl t)];omega) all
  have eu:u s=u t:=Iu (by rw [ul,ul]) λk=>by have:=c1 k;rw [<-w0] at this;omega
  have ev:v s=v t:=Iu (by rw [vl,vl]) λk=>by
   have:=c2 k
   rw [Bw,BT,A6,<-Bw,<-Bw] at this;omega
  have:digs T (m+n) s=digs T (m+n) t:=by
   rw [<-List.take_append_drop m (digs T (m+n) s),<-List.take_append_drop m (digs T (m+n) t)]
   rw [<-hu,<-hv,<-hu,<-hv,eu,ev]
  have:=K3 T0 _ _ _ ⋯ ⋯ this
  omega
 ·rw [<-df]
  cases k with
  | zero=>rfl
  | succ k=>rw [hi (k+1) ⋯];exact (AX (by simp)).symm
 ·rw [<-w0]
  have g:∀ t,0<=co (u t) k/\co (u t) k<(T:Int):=λt=>by
   by_cases hk:k<(u t).length
   ·have e:co (u t) k=(u t)[k]:=by unfold co;rw [AU,Am hk];rfl
    rw [e];exact uz t _ (Db hk)
   ·rw [AX ⋯];omega
  have:=g s;have:=g t;omega
 ·have w1:(co (v s) k - co (v t) k)=co (Ae (v s) ((v t).map ((-1)*·))) k:=by rw [Bw,Bw,Bw,BT,A6];omega
  rw [<-w1]
  have g:∀ t,0<=co (v t) k/\co (v t) k<(T:Int):=λt=>by
   by_cases hk:k<(v t).length
   ·have e:co (v t) k=(v t)[k]:=by unfold co;rw [AU,Am hk];rfl
    rw [e];exact vz t _ (Db hk)
   ·rw [AX ⋯];omega
  have:=g s;have:=g t;omega
theorem LF:∀ A:List Rat,∃ (N:Int) (Z:List Int),N≠0/\A.map ((N:Rat)*·)=Z.map λz:Int=>(z:Rat)
 | []=>⟨1,[],∅,rfl⟩
 | a::A=>by
   obtain ⟨N,Z,N0,h⟩:=LF A
   refine ⟨(a.den:Int)*N,(a.num*N)::Z.map ((a.den:Int)*·),CI (by have:=a.den_nz;omega) N0,?_⟩
   rw [List.map_cons,List.map_cons]
   congr 1
   ·have h:=Rat.num_divInt_den a
    rw [Rat.divInt_eq_div] at h
    have d:((a.den:Int):Rat)≠0:=by have:=a.den_nz;exact_mod_cast this
    have e:((a.den:Int):Rat)=(a.den:Rat):=by push_cast;rfl
    push_cast
    ext
   ·rw [Du]
    have e:A.map (λx=>(((a.den:Int)*N:Int):Rat)*x)=(A.map ((N:Rat)*·)).map ((a.den:Rat)*·):=by
     rw [Du]
     refine EB λx _=>?_
     show _=(a.den:Rat)*((N:Rat)*x)
     push_cast;ext
    rw [e,h,Du]
    refine EB λz _=>?_
    show (a.den:Rat)*(z:Rat)=(((a.den:Int)*z:Int):Rat)
    push_cast;rfl
theorem YT {rs:List Int} (c:Sr.Cs (si rs) (si (dI rs))):QI (co rs) (co (dI rs)) AW:=by
 obtain ⟨U,W,⟨u,rfl⟩,⟨w,rfl⟩,e⟩:=c
 obtain ⟨N,Z,N0,hZ⟩:=LF u
 obtain ⟨M,Y,M0,hY⟩:=LF w
 refine ⟨N*M,CI N0 M0,Z.map (M*·),Y.map (N*·),λk=>?_⟩
 rw [A6,A6]
 have e1:Sr.num (N:Rat)*Sr.L u=si Z:=by rw [<-Sr.L_scal,hZ,DQ]
 have e2:Sr.num (M:Rat)*Sr.L w=si Y:=by rw [<-Sr.L_scal,hY,DQ]
 have e3:Sr.num (M:Rat)*(si Z*si rs)+Sr.num (N:Rat)*(si Y*si (dI rs))=Sr.num ((N:Rat)*M):=by
  rw [<-e1,<-e2]
  have:Sr.num (N:Rat)*Sr.num (M:Rat)=Sr.num ((N:Rat)*M):=Sr.num_num _ _
  rw [<-this]
  have q:Sr.num (M:Rat)*(Sr.num (N:Rat)*Sr.L u*si rs)+Sr.num (N:Rat)*(Sr.num (M:Rat)*Sr.L w*si (dI rs))=Sr.num (N:Rat)*Sr.num (M:Rat)*(Sr.L u*si rs+Sr.L w*si (dI rs)):=by ext
  rw [q,e];ext
 have e4:=Z3 (congrArg Sr.c e3) k
 rw [DQ Z,DQ Y,Sr.L_mul,Sr.L_mul] at e4
 have e4:(Sr.num (M:Rat)*(⟨cvL (Z.map λz:Int=>(z:Rat)) (si rs).c⟩:Sr)).c k+(Sr.num (N:Rat)*(⟨cvL (Y.map λz:Int=>(z:Rat)) (si (dI rs)).c⟩:Sr)).c k=(Sr.num ((N:Rat)*M)).c k:=e4
 rw [Sr.num_mul,Sr.num_mul] at e4
 have e5:(M:Rat)*((cvL Z (co rs) k:Int):Rat)+(N:Rat)*((cvL Y (co (dI rs)) k:Int):Rat)=((N:Rat)*M)*AW k:=by
  rw [EN,EN];exact e4
 have e6:((AW k:Int):Rat)=AW k:=by cases k <;> rfl
 rw [<-e6] at e5
 exact_mod_cast e5.symm
theorem YU {ns rs:List Int} (n0:si ns≠0) (h:∃ (c:Rat) (L:Sr),c≠0/\RadOf (si ns) L/\si rs=Sr.num c*L):QI (co rs) (co (dI rs)) AW:=by
 obtain ⟨c,L,c0,⟨S,M,pS,pL,pM,e1,e2,cs⟩,e3⟩:=h
 obtain ⟨U,W,pU,pW,e⟩:=Sr.simple_cop pS pL pM n0 e1 e2 cs
 refine YT ⟨Sr.num c⁻¹*U,Sr.num c⁻¹*W,(Sr.Pol.num _).mul pU,(Sr.Pol.num _).mul pW,?_⟩
 have i:=Sr.num_inv c0
 have d:si (dI rs)=Sr.num c*Sr.D L:=by rw [<-Sr.D_num,<-e3,Qs]
 rw [d,e3]
 have q:Sr.num c⁻¹*U*(Sr.num c*L)+Sr.num c⁻¹*W*(Sr.num c*Sr.D L)=Sr.num c⁻¹*Sr.num c*(U*L+W*Sr.D L):=by ext
 rw [q,i,e];ext
theorem Qu (i:Int):i.natAbs<2 ^ blN i:=by
 unfold blN
 split
 ·rename_i h;rw [h];decide
 ·exact Nat.lt_log2_self
theorem LG {i:Int} (h:i≠0):2 ^ (blN i - 1)<=i.natAbs/\1<=blN i:=by
 unfold blN
 rw [Zt h,Nat.add_sub_cancel]
 exact ⟨Nat.log2_self_le ⋯,⋯⟩
theorem LH {b:Nat} {i:Int} (h:Bd b i):blN i<=b:=by
 by_cases z:i=0
 ·unfold blN;rw [Zu z];exact AV _
 ·have h1:=(LG z).1
  have h2:i.natAbs<2 ^ b:=h
  have:=(Nat.pow_lt_pow_iff_right (a:=2) ∅).mp (DG h1 h2)
  omega
theorem CA:∀ (l:List Int) (x:Rat),evQ l x=Sr.ev (qR l) x
 | [],_=>rfl
 | a::l,x=>by show (a:Rat)+x*evQ l x=(a:Rat)+x*Sr.ev (qR l) x;rw [CA l x]
theorem YV {a b:List Int} (h:si a=si b) (x:Rat):evQ a x=evQ b x:=by
 rw [CA,CA];exact Sr.ev_congr (by rw [CH,CH];exact h) x
theorem Qv:∀ (l:List Int) (x:Rat),evQ (dI l) x=dQ l x:=by
 have key:∀ (l:List Int) (c:Int) (x:Rat),∀ D:List Int,(∀ k,co D k=((k:Int)+c)*co l k)->evQ D x=(c:Rat)*evQ l x+x*dQ l x:=by
  intro l
  induction l with
  | nil=>
    intro c x D h
    have z:si D=si []:=Sr.ext' λk=>by
     show ((co D k:Int):Rat)=((co [] k:Int):Rat)
     rw [h k,show co [] k=0 from rfl,Int.mul_zero]
    rw [YV z]
    show (0:Rat)=c*0+x*0;ext
  | cons a l ih=>
    intro c x D h
    have e:=ih (c+1) x (D.drop 1) λk=>by
     have:=h (k+1)
     have e1:co (D.drop 1) k=co D (k+1):=by unfold co;rw [AU,AU,List.getElem?_drop,Nat.add_comm]
     rw [e1,this]
     show (((k+1:Nat):Int)+c)*co l k=_
     push_cast;ext
    have e2:evQ D x=((co D 0:Int):Rat)+x*evQ (D.drop 1) x:=by
     cases D with
     | nil=>
       show (0:Rat)=((0:Int):Rat)+x*0
       have:((0:Int):Rat)=0:=rfl
       rw [this];ext
     | cons d D=>rfl
    rw [e2,e,h 0]
    show (((0:Nat)+c)*a:Int)+x*(((c+1:Int):Rat)*evQ l x+x*dQ l x)=(c:Rat)*((a:Rat)+x*evQ l x)+x*(evQ l x+x*dQ l x)
    push_cast;ext
 intro l x
 cases l with
 | nil=>rfl
 | cons a l=>
   have e:=key l 1 x (dI (a::l)) λk=>by
    rw [HS]
    show ((k+1:Nat):Int)*co l k=_
    push_cast;rfl
   rw [e]
   show ((1:Int):Rat)*evQ l x+x*dQ l x=evQ l x+x*dQ l x
   have:((1:Int):Rat)=1:=rfl
   rw [this];ext
theorem bez {rs:List Int} (lz:Lz rs) (l9:rs.length<=9) (b:∀ z∈rs,Bd 148 z) (q:QI (co rs) (co (dI rs)) AW):∃ (U V:List Int) (d:Int),d≠0/\(∀ k,(co U k).natAbs<2 ^ 2400)/\(∀ k,(co V k).natAbs<2 ^ 2400)/\U.length<=9/\V.length<=9/\∀ x:Rat,evQ U x*evQ rs x+evQ V x*dQ rs x=(d:Rat):=by
 have l0:co rs (rs.length - 1)≠0:=lz.2
 have hlen:(dI rs).length=rs.length - 1:=by unfold dI;rw [AL,Bm]
 have one:∀ k,(co [(1:Int)] k).natAbs<2 ^ 2400:=λk=>by
  match k with
  | 0=>show (1:Nat)<_;decide +kernel
  | k+1=>show (0:Nat)<_;decide +kernel
 have nil:∀ k,(co ([]:List Int) k).natAbs<2 ^ 2400:=λk=>by show (0:Nat)<_;decide +kernel
 rcases BG rs.length 3 with c | c
 ·match rs,lz,l0,c with
  | [],lz,_,_=>exact absurd lz.1 (by simp)
  | [a],_,l0,_=>exact ⟨[1],[],a,l0,one,nil,∅,∅,λx=>by show (((1:Int):Rat)+x*0)*((a:Rat)+x*0)+0*_=(a:Rat);rw [show ((1:Int):Rat)=1 from rfl];ext⟩
  | [a,e],_,l0,_=>exact ⟨[],[1],e,l0,nil,one,∅,∅,λx=>by show 0*_+(((1:Int):Rat)+x*0)*(((e:Rat)+x*0)+x*(0+x*0))=(e:Rat);rw [show ((1:Int):Rat)=1 from rfl];ext⟩
 ·have bd:∀ k,Bd 152 (co (dI rs) k):=λk=>by
   rw [HS]
   by_cases hk:k+1<rs.length
   ·have e:Bd 4 ((k+1:Nat):Int):=by unfold Bd;rw [Ce];have:(2:Nat) ^ 4=16:=by decide
                                    omega
    have:=e.mul (C5 b (k+1))
    exact this
   ·rw [AX ⋯,Int.mul_zero];exact FY _
  have lB:Lz (dI rs):=by
   refine ⟨⋯,?_⟩
   rw [HS,hlen,show rs.length - 1 - 1+1=rs.length - 1 by omega]
   exact CI ⋯ l0
  obtain ⟨U,V,d,d0,db,hd,hU,hV,lU,lV⟩:=siegel (T:=2 ^ 2400) lz lB q (λk=>(C5 b k).mono ⋯) bd ⋯ ⋯ (Bf ∅) (by
   have h1:2*((rs.length+(dI rs).length)*2 ^ 152)<=2 ^ 158:=by
    have:(rs.length+(dI rs).length)*2 ^ 152<=17*2 ^ 152:=CP _ ⋯
    have e:17*2 ^ 152*2<=2 ^ 158:=by decide +kernel
    omega
   refine DG (Nat.pow_le_pow_left h1 _) (DG (Cp (Bf ∅) (show rs.length+(dI rs).length - 2<=15 by omega)) ?_)
   decide +kernel)
  refine ⟨U,V,d,d0,hU,hV,⋯,⋯,λx=>?_⟩
  have e:si [d]=si U*si rs+si V*si (dI rs):=by
   rw [DQ U,DQ V,Sr.L_mul,Sr.L_mul]
   refine Sr.ext' λk=>?_
   show ((co [d] k:Int):Rat)=cvL (U.map λz:Int=>(z:Rat)) (si rs).c k+cvL (V.map λz:Int=>(z:Rat)) (si (dI rs)).c k
   rw [<-hd k]
   have c1:=EN (co rs) U k
   have c2:=EN (co (dI rs)) V k
   push_cast
   rw [c1,c2];rfl
  have e1:Sr.L (qR [d])=Sr.L (Ae (Au (qR U) (qR rs)) (Au (qR V) (qR (dI rs)))):=by rw [Sr.L_add,Sr.L_mulRow,Sr.L_mulRow,CH,CH,CH,CH,CH];exact e
  have e2:=Sr.ev_congr e1 x
  rw [Sr.ev_add,Sr.ev_mul,Sr.ev_mul,<-CA,<-CA,<-CA,<-CA,<-CA,Qv] at e2
  rw [<-e2]
  show (d:Rat)+x*0=d;ext
theorem D9 {a b P Y:Rat} (h1:a<=P) (h2:-a<=P) (h3:b<=Y) (h4:-b<=Y):a*b<=P*Y/\-(a*b)<=P*Y:=by
 have p1:=Aa (show 0<=P - a by ext) (show 0<=Y+b by ext)
 have p2:=Aa (show 0<=P+a by ext) (show 0<=Y - b by ext)
 have p3:=Aa (show 0<=P - a by ext) (show 0<=Y - b by ext)
 have p4:=Aa (show 0<=P+a by ext) (show 0<=Y+b by ext)
 constructor <;> ext
theorem YW {l l':List Int} {M u w:Rat} (h:∀ x,evQ l x=M*evQ l' (u+w*x)) (m:Rat):dQ l m=M*(w*dQ l' (u+w*m)):=by
 obtain ⟨C,C0,hC⟩:=G5 l m
 obtain ⟨D,D0,hD⟩:=G5 l' (u+w*m)
 obtain ⟨N,N0,N1,N2⟩:∃ N:Rat,1<=N/\w<=N/\-w<=N:=by
  rcases (A4:w<=0\/0<=w) with z | z
  ·exact ⟨1 - w,(),(),()⟩
  ·exact ⟨1+w,(),(),()⟩
 obtain ⟨P,P0,P1,P2⟩:∃ P:Rat,0<=P/\M<=P/\-M<=P:=by
  rcases (A4:M<=0\/0<=M) with z | z
  ·exact ⟨-M,(),(),()⟩
  ·exact ⟨M,(),(),()⟩
 have key:∀ s:Rat,0<s->s*N<=1->∀ e:Rat,(e=1\/e = -1)->e*(dQ l m - M*(w*dQ l' (u+w*m)))<=s*(C+P*D*(w*w)):=λs s0 sN e e1=>by
  have sN':s<=s*N:=by
   have:=AQ N0 (show 0<=s by ext);ext
  have ws:-1<=w*s/\w*s<=1:=by
   have h1:=AQ N1 (show 0<=s by ext)
   have h2:=AQ N2 (show 0<=s by ext)
   constructor <;> ext
  obtain ⟨c1,c2⟩:=hC s () ()
  obtain ⟨d1,d2⟩:=hD (w*s) ws.1 ws.2
  rw [h,h,show u+w*(m+s)=u+w*m+w*s by grind] at c1 c2
  have ya:=D9 (a:=M) (b:=evQ l' (u+w*m+w*s) - evQ l' (u+w*m) - w*s*dQ l' (u+w*m)) P1 P2 d2 ()
  refine C9.mp λz=>?_
  have t:=As (show 0<e*(dQ l m - M*(w*dQ l' (u+w*m))) - s*(C+P*D*(w*w)) by ext) s0
  rcases e1 with e | e <;> rw [e] at t <;> ext
 have K0:0<=C+P*D*(w*w):=by
  have h1:=Aa P0 D0
  have h2:0<=w*w:=by
   rcases (A4:w<=0\/0<=w) with z | z
   ·have:=Aa (show 0<=-w by ext) (show 0<=-w by ext);ext
   ·exact Aa z z
  have:=Aa h1 h2
  ext
 have none:∀ e:Rat,(e=1\/e = -1)->¬ 0<e*(dQ l m - M*(w*dQ l' (u+w*m))):=λe e1 z=>by
  obtain ⟨p,p0,p1,p2,_,_⟩:=IS z (show (0:Rat)<1 by ext) z z
  obtain ⟨s,s0,s1,s2⟩:=Ds (p:=p) (q:=N+(C+P*D*(w*w))) p0 ()
  have a1:=Aa (show 0<=s by ext) K0
  have a2:=Aa (show 0<=s by ext) (show 0<=N by ext)
  have:=key s s0 () e e1
  ext
 rcases rtri (dQ l m - M*(w*dQ l' (u+w*m))) 0 with z | z | z
 ·exact absurd (show 0<(-1:Rat)*(dQ l m - M*(w*dQ l' (u+w*m))) by ext) (none (-1) (.inr rfl))
 ·ext
 ·exact absurd (show 0<(1:Rat)*(dQ l m - M*(w*dQ l' (u+w*m))) by ext) (none 1 (.inl rfl))
theorem Qw {r C:Nat} {x:Rat} (r1:1<=r) (x1:x<=(r:Rat)) (x2:-x<=(r:Rat)):∀ l:List Int,(∀ z∈l,z.natAbs<=C)->evQ l x<=((C*l.length*r ^ l.length:Nat):Rat)/\-evQ l x<=((C*l.length*r ^ l.length:Nat):Rat)
 | [],_=>by
   show (0:Rat)<=((C*0*1:Nat):Rat)/\-(0:Rat)<=((C*0*1:Nat):Rat)
   rw [Nat.mul_zero,Nat.zero_mul,show ((0:Nat):Rat)=0 from rfl];constructor <;> ext
 | a::l,h=>by
   obtain ⟨h1,h2⟩:=Qw r1 x1 x2 l λz hz=>h z (BN _ hz)
   obtain ⟨a1,a2⟩:=iabs a
   have aC:((a.natAbs:Nat):Rat)<=(C:Rat):=by exact_mod_cast h a (BC ..)
   obtain ⟨p1,p2⟩:=D9 x1 x2 h1 h2
   have le:C+r*(C*l.length*r ^ l.length)<=C*(l.length+1)*r ^ (l.length+1):=by
    rw [B5]
    have:1<=r ^ l.length*r:=Nat.mul_pos (Bf r1) r1
    have:C*1<=C*(r ^ l.length*r):=B6 _ this
    have e:C*(l.length+1)*(r ^ l.length*r)=C*(r ^ l.length*r)+r*(C*l.length*r ^ l.length):=by ext
    omega
   have le':(C:Rat)+(r:Rat)*((C*l.length*r ^ l.length:Nat):Rat)<=((C*(l.length+1)*r ^ (l.length+1):Nat):Rat):=by exact_mod_cast le
   show (a:Rat)+x*evQ l x<=((C*(l.length+1)*r ^ (l.length+1):Nat):Rat)/\-((a:Rat)+x*evQ l x)<=((C*(l.length+1)*r ^ (l.length+1):Nat):Rat)
   generalize ((C*(l.length+1)*r ^ (l.length+1):Nat):Rat)=Z at *
   generalize (r:Rat)*((C*l.length*r ^ l.length:Nat):Rat)=Y at *
   constructor <;> ext
theorem YX {rs q U V:List Int} {d:Int} {t bb:Nat} {u Δ M:Rat} (d0:d≠0) (hU:∀ z∈U,z.natAbs<=2 ^ t) (hV:∀ z∈V,z.natAbs<=2 ^ t) (lU:U.length<=9) (lV:V.length<=9) (uv:∀ x:Rat,evQ U x*evQ rs x+evQ V x*dQ rs x=(d:Rat))
  (u1:u<=((2 ^ 200:Nat):Rat)) (u2:-u<=((2 ^ 200:Nat):Rat)) (w1:u+Δ<=((2 ^ 200:Nat):Rat)) (w2:-(u+Δ)<=((2 ^ 200:Nat):Rat)) (D0:0<Δ) (D1:1<=Δ*((2 ^ 420:Nat):Rat)) (M1:1<=M) (lq:q.length<=9) (bq:∀ z∈q,Bd bb z) (eq:∀ y,evQ q y=M*evQ rs (u+Δ*y)):∃ U' V',Sk q U' V' (bb+t+2300):=by
 have dr:(d:Rat)≠0:=Ba d0
 have d1:(1:Rat)<=d\/(d:Rat)<=-1:=by
  rcases Int.lt_or_lt_of_ne d0 with z | z
  ·have h:((1:Int):Rat)<=((-d:Int):Rat):=by exact_mod_cast (show 1<=-d by omega)
   rw [DA,show ((1:Int):Rat)=1 from rfl] at h
   exact .inr ()
  ·exact .inl (by have:1<=d:=by omega
                  exact_mod_cast this)
 have di:(d:Rat)*(d:Rat)⁻¹=1:=CJ _ dr
 have Mi:M*M⁻¹=1:=CJ _ ()
 have Di:Δ*Δ⁻¹=1:=CJ _ ()
 have Mp:0<M⁻¹:=Rat.inv_pos.mpr ()
 have Dp:0<Δ⁻¹:=Rat.inv_pos.mpr D0
 have Ml:M⁻¹<=1:=by have:=Ax M1 (show 0<=M⁻¹ by ext);ext
 have Dl:Δ⁻¹<=((2 ^ 420:Nat):Rat):=by
  have:=Ax D1 (show 0<=Δ⁻¹ by ext)
  rw [show Δ*((2 ^ 420:Nat):Rat)*Δ⁻¹=Δ*Δ⁻¹*((2 ^ 420:Nat):Rat) by ext,Di] at this
  ext
 have dl:(d:Rat)⁻¹<=1/\-(d:Rat)⁻¹<=1:=by
  generalize (d:Rat)=x at *
  generalize x⁻¹=y at *
  rcases d1 with z | z
  ·constructor
   ·refine C9.mp λw=>?_
    have:=As (show 0<y - 1 by ext) (show 0<x by ext);ext
   ·refine C9.mp λw=>?_
    have:=As (show 0 < -y by ext) (show 0<x by ext);ext
  ·constructor
   ·refine C9.mp λw=>?_
    have:=As (show 0<y by ext) (show 0 < -x by ext);ext
   ·refine C9.mp λw=>?_
    have:=As (show 0 < -y - 1 by ext) (show 0 < -x by ext);ext
 have e1:∀ y,evQ U (u+Δ*y)*(M⁻¹*(d:Rat)⁻¹)*evQ q y+evQ V (u+Δ*y)*(M⁻¹*Δ⁻¹*(d:Rat)⁻¹)*dQ q y=1:=λy=>by
  rw [YW eq y,eq y]
  have h:=uv (u+Δ*y)
  generalize evQ U (u+Δ*y)=A at *
  generalize evQ V (u+Δ*y)=B at *
  generalize evQ rs (u+Δ*y)=C at *
  generalize dQ rs (u+Δ*y)=E at *
  generalize M⁻¹=m at *
  generalize Δ⁻¹=w at *
  generalize (d:Rat)⁻¹=k at *
  have:A*(m*k)*(M*C)+B*(m*w*k)*(M*(Δ*E))=(M*m)*k*(A*C)+(M*m)*(Δ*w)*k*(B*E):=by ext
  rw [this,Mi,Di,show 1*k*(A*C)+1*1*k*(B*E)=k*(A*C+B*E) by ext,h,<-di];ext
 have X:∀ y,0<=y->y<=1->u+Δ*y<=((2 ^ 200:Nat):Rat)/\-(u+Δ*y)<=((2 ^ 200:Nat):Rat):=λy y0 y1=>by
  have h1:=Aa (show 0<=Δ by ext) y0
  have h2:=AQ y1 (show 0<=Δ by ext)
  constructor <;> ext
 have G:∀ (W:List Int),(∀ z∈W,z.natAbs<=2 ^ t)->W.length<=9->∀ y,0<=y->y<=1->evQ W (u+Δ*y)<=((2 ^ t*9*(2 ^ 200) ^ 9:Nat):Rat)/\-evQ W (u+Δ*y)<=((2 ^ t*9*(2 ^ 200) ^ 9:Nat):Rat):=λW hW lW y y0 y1=>by
  obtain ⟨x1,x2⟩:=X y y0 y1
  have r1:1<=2 ^ 200:=Bf ∅
  obtain ⟨b1,b2⟩:=Qw (r:=2 ^ 200) (C:=2 ^ t) r1 x1 x2 W hW
  have le:2 ^ t*W.length*(2 ^ 200) ^ W.length<=2 ^ t*9*(2 ^ 200) ^ 9:=EC (B6 _ lW) (Cp r1 lW)
  have le':((2 ^ t*W.length*(2 ^ 200) ^ W.length:Nat):Rat)<=((2 ^ t*9*(2 ^ 200) ^ 9:Nat):Rat):=by exact_mod_cast le
  exact ⟨Rat.le_trans b1 le',Rat.le_trans b2 le'⟩
 have P0:(1:Rat)<=((2 ^ 420:Nat):Rat):=by
  have:1<=2 ^ 420:=Bf ∅
  exact_mod_cast this
 have k1:M⁻¹*(d:Rat)⁻¹<=((2 ^ 420:Nat):Rat)/\-(M⁻¹*(d:Rat)⁻¹)<=((2 ^ 420:Nat):Rat):=by
  have:=D9 (a:=M⁻¹) (b:=(d:Rat)⁻¹) Ml () dl.1 dl.2
  constructor <;> ext
 have k2:M⁻¹*Δ⁻¹*(d:Rat)⁻¹<=((2 ^ 420:Nat):Rat)/\-(M⁻¹*Δ⁻¹*(d:Rat)⁻¹)<=((2 ^ 420:Nat):Rat):=by
  have h1:=D9 (a:=M⁻¹) (b:=Δ⁻¹) Ml () Dl ()
  have h2:=D9 h1.1 h1.2 dl.1 dl.2
  constructor <;> ext
 refine ⟨λy=>evQ U (u+Δ*y)*(M⁻¹*(d:Rat)⁻¹),λy=>evQ V (u+Δ*y)*(M⁻¹*Δ⁻¹*(d:Rat)⁻¹),λx z=>?_,⟨((2 ^ t*9*(2 ^ 200) ^ 9:Nat):Rat)*((2 ^ 420:Nat):Rat),?_,λy y0 y1=>?_,λy y0 y1=>?_,?_⟩,λy _ _=>e1 y⟩
 ·intro z2
  have:=e1 x
  rw [z,z2] at this
  ext
 ·exact Aa (by exact_mod_cast AV _) ()
 ·have g:=G U hU lU y y0 y1
  exact D9 g.1 g.2 k1.1 k1.2
 ·have g:=G V hV lV y y0 y1
  exact D9 g.1 g.2 k2.1 k2.2
 ·have gb:=KZ q.length q (B:=2 ^ bb) λz hz=>C1 (bq z hz)
  have g1:gs q q.length<=2 ^ bb*2 ^ 9:=Be (Nat.le_add_right _ _) (Be gb (B6 _ (Cp ∅ lq)))
  have g2:gs q q.length*(8*q.length+8)<=2 ^ bb*2 ^ 9*2 ^ 7:=EC g1 ⋯
  have g3:2 ^ t*9*(2 ^ 200) ^ 9*2 ^ 420<=2 ^ t*2 ^ 4*2 ^ (200*9)*2 ^ 420:=by
   rw [Nat.pow_mul]
   exact CP _ (CP _ (B6 _ ∅))
  have g4:=EC g3 g2
  rw [<-Cc,<-Cc,<-Cc,<-Cc,<-Cc,<-Cc] at g4
  have g5:2 ^ t*9*(2 ^ 200) ^ 9*2 ^ 420*(gs q q.length*(8*q.length+8))<2 ^ (bb+t+2300):=DG g4 (Nat.pow_lt_pow_right ∅ ⋯)
  exact_mod_cast g5
theorem LI {lead γ y s:Rat} (l0:0<lead) (g0:0<=γ) (gy:γ<=y) (s1:s=1\/s = -1):∀ l:List Int,l≠[]->((co l (l.length - 1):Int):Rat)=lead->(∀ i,i+1<l.length->((co l i:Int):Rat)<=lead*γ ^ (l.length - 1 - i)/\-((co l i:Int):Rat)<=lead*γ ^ (l.length - 1 - i))->lead*y ^ (l.length - 1)<=s ^ (l.length - 1)*evQ l (s*(2*y))
 | [],h,_,_=>absurd rfl h
 | [a],_,e,_=>by
   have e:(a:Rat)=lead:=e
   show lead*y ^ 0<=s ^ 0*((a:Rat)+_*0)
   rw [A7,A7,e];ext
 | a::b::l,_,e,h=>by
   have ih:=LI l0 g0 gy s1 (b::l) (by simp) e λi hi=>by
    have hi:i+1<l.length+1:=hi
    have:=h (i+1) (by show i+1+1<l.length+2;omega)
    rw [show (a::b::l).length - 1 - (i+1)=(b::l).length - 1 - i by show l.length+1+1 - 1 - (i+1)=l.length+1 - 1 - i;omega] at this
    exact this
   obtain ⟨a1,a2⟩:=h 0 (by show 0+1<l.length+2;omega)
   have a1:(a:Rat)<=lead*γ ^ (l.length+1):=a1
   have a2:-(a:Rat)<=lead*γ ^ (l.length+1):=a2
   have ih:lead*y ^ l.length<=s ^ l.length*evQ (b::l) (s*(2*y)):=ih
   show lead*y ^ (l.length+1)<=s ^ (l.length+1)*((a:Rat)+s*(2*y)*evQ (b::l) (s*(2*y)))
   have gp:γ ^ (l.length+1)<=y ^ (l.length+1):=by
    have:∀ n:Nat,0<=γ ^ n/\γ ^ n<=y ^ n:=λn=>by
     induction n with
     | zero=>rw [A7,A7];constructor <;> ext
     | succ n ih=>
       rw [Ap,Ap]
       have h1:=Aa ih.1 g0
       have h2:=Ax ih.2 g0
       have h3:=AQ gy (show 0<=y ^ n by ext)
       exact ⟨h1,()⟩
    exact (this _).2
   have gl:=AQ gp (show 0<=lead by ext)
   have sp:s ^ l.length=1\/s ^ l.length = -1:=by
    have:∀ n:Nat,s ^ n=1\/s ^ n = -1:=λn=>by
     induction n with
     | zero=>exact .inl (A7 _)
     | succ n ih=>rw [Ap];rcases ih with z | z <;> rcases s1 with w | w <;> rw [z,w] <;> ext
    exact this _
   have ih2:=AQ ih (show 0<=2*y by ext)
   have yp:y*(lead*y ^ l.length)=lead*y ^ (l.length+1):=by rw [Ap];ext
   rw [Ap s]
   generalize evQ (b::l) (s*(2*y))=E at *
   generalize s ^ l.length=σ at *
   generalize lead*y ^ (l.length+1)=Y at *
   generalize lead*γ ^ (l.length+1)=Z at *
   generalize lead*y ^ l.length=W at *
   have e3:σ*s*((a:Rat)+s*(2*y)*E)=σ*s*(a:Rat)+s*s*(2*y*(σ*E)):=by ext
   have ss:s*s=1:=by rcases s1 with w | w <;> rw [w] <;> ext
   rw [e3,ss]
   have:-Z<=σ*s*(a:Rat):=by rcases sp with z | z <;> rcases s1 with w | w <;> rw [z,w] <;> ext
   ext
theorem YY:([]:List V).length<=sizeLine:=AV _
theorem YZ {K:W.Frag} {tl:TE} {g:TG} {tb rest:TS} {D:Ends} {σ:L2.St} {H:Hp} (h:tl σ H (λx H1=>∃ a,x=.ref a/\(∃ xs,SqL K H1 a xs)/\ForL K a g tb { D with nx:=rest D } σ H1)):AG (BM (CD K tl) g tb) rest D σ H:=h
theorem Yb (h:HG K vs H Q E):We K { nx:=λ_ H'=>Q .non H',rt:=Q } (L2.start ["one","other"] vs) H:=by
 obtain ⟨p,q,a,b,c,d,rfl,hp,hq,ba,bb,bc,bd,k⟩:=h
 exact EK ⟨_,rfl,_,_,_,_,rfl,rfl,hp,rfl,_,rfl,_,_,_,_,rfl,rfl,hq,rfl,_,_,rfl,rfl,GS ba bd,_,rfl,_,_,_,_,rfl,rfl,hq,rfl,_,rfl,_,_,_,_,rfl,rfl,hp,rfl,_,_,rfl,rfl,GS bc bb,_,_,rfl,rfl,k⟩
theorem Yc {w lead:Int} {st E:Nat} (l0:0<lead) (s0:0<st) (h:-(((blN lead:Int) - (blN w:Int) - 1) / (st:Int))<=(E:Int) - 1):2 ^ st*w.natAbs<=lead.natAbs*2 ^ (st*E):=by
 have q:((blN lead:Int) - (blN w:Int) - 1) / (st:Int)*(st:Int)<=(blN lead:Int) - (blN w:Int) - 1:=Int.ediv_mul_le _ ⋯
 have q2:(1 - (E:Int))*(st:Int)<=((blN lead:Int) - (blN w:Int) - 1) / (st:Int)*(st:Int):=FM ⋯ ⋯
 have q3:(blN w:Int)+(st:Int)<=(st:Int)*(E:Int)+(blN lead:Int) - 1:=by
  have:(1 - (E:Int))*(st:Int)=(st:Int) - (st:Int)*(E:Int):=by ext
  omega
 obtain ⟨h1,h2⟩:=LG (show lead≠0 by omega)
 have q4:blN w+st<=st*E+(blN lead - 1):=by
  have:((st*E:Nat):Int)=(st:Int)*(E:Int):=by push_cast;rfl
  omega
 have e1:2 ^ st*w.natAbs<=2 ^ st*2 ^ blN w:=B6 _ (C1 (Qu w))
 rw [<-Cc] at e1
 refine Be e1 (Be (Cp ∅ (show st+blN w<=(blN lead - 1)+st*E by omega)) ?_)
 rw [Cc]
 exact CP _ h1
theorem Yd {w lead e:Int} {st:Nat} (l0:0<lead) (s0:0<st) (h:-(((blN lead:Int) - (blN w:Int) - 1) / (st:Int))<=e - 1):2 ^ st*w.natAbs*2 ^ (st*(-e).toNat)<=lead.natAbs*2 ^ (st*e.toNat):=by
 by_cases c:0<=e
 ·rw [show (-e).toNat=0 by omega,Nat.mul_zero,Nat.pow_zero,Nat.mul_one]
  exact Yc l0 s0 ⋯
 ·obtain ⟨n,hn⟩:∃ n:Nat,e = -(n:Int):=⟨(-e).toNat,⋯⟩
  rw [show e.toNat=0 by omega,show (-e).toNat=n by omega,Nat.mul_zero,Nat.pow_zero,Nat.mul_one]
  have q:((blN lead:Int) - (blN w:Int) - 1) / (st:Int)*(st:Int)<=(blN lead:Int) - (blN w:Int) - 1:=Int.ediv_mul_le _ ⋯
  have q2:(1 - e)*(st:Int)<=((blN lead:Int) - (blN w:Int) - 1) / (st:Int)*(st:Int):=FM ⋯ ⋯
  have q3:(1 - e)*(st:Int)=(st:Int)+((st*n:Nat):Int):=by rw [hn];push_cast;ext
  obtain ⟨h1,h2⟩:=LG (show lead≠0 by omega)
  have q4:blN w+st+st*n<=blN lead - 1:=by omega
  have e1:2 ^ st*w.natAbs*2 ^ (st*n)<=2 ^ st*2 ^ blN w*2 ^ (st*n):=CP _ (B6 _ (C1 (Qu w)))
  rw [<-Cc,<-Cc] at e1
  exact Be e1 (Be (Cp ∅ ⋯) h1)
theorem Ye (h:Kd K vs H Q E):WS K { nx:=λ_ H'=>Q .non H',rt:=Q } (L2.start ["row","sizes","step","whole"] vs) H:=by
 obtain ⟨a,ns,rfl,ha,lz,l9,bn,l0,k⟩:=h
 have aL:atI (ns.map V.int) (-1)=some (V.int (lst' ns)):=GT lz.1
 refine BE ⟨YY,λe he=>?_⟩
 have se:=AR he (.lst [])
 have hee:upd H e (.lst []) e=_:=upd_same
 have ha1:=se _ _ ha
 have ne:a≠e:=BO ha he
 generalize upd H e (.lst [])=H1 at se hee ha1 ⊢
 have ll:((ns.map V.int).length:Int)=(ns.length:Int):=by rw [AL]
 refine ⟨_,rfl,_,_,rfl,ha1,_,_,rfl,⟨⋯,⋯,⋯,⋯⟩,?_⟩
 refine ForR.by (λi σ H'=>∃ (zs:List Int) (u v:Option V),σ=[some (.ref a),some (.ref e),u,v]/\Same H H'/\H' a=some (.lst (ns.map V.int))/\H' e=some (.lst (zs.map V.int))/\i<=ns.length - 1/\zs.length<=i/\(∀ z∈zs,-160<=z/\z<=160)/\∀ st,1<=st->st<=i->co ns (ns.length - 1 - st)≠0->-(((blN (lst' ns):Int) - (blN (co ns (ns.length - 1 - st)):Int) - 1) / (st:Int))∈zs) ⟨[],none,none,rfl,se,ha1,hee,AV _,AS _,(λz h=>nomatch h),λst h1 h2=>by omega⟩ ?_ ?_
 ·rintro i σ H' hi ⟨zs,u,v,rfl,sH,ha4,he4,il,zl,z160,hin⟩
  rw [ll] at hi
  have hi':i+1<=ns.length - 1:=by omega
  have ei:(1:Int)+(i:Int)=((i+1:Nat):Int):=by omega
  rw [ei]
  have aT:atI (ns.map V.int) (((ns.map V.int).length:Int) - 1 - ((i+1:Nat):Int))=some (V.int (co ns (ns.length - 1 - (i+1)))):=DP (j:=ns.length - 1 - (i+1)) ⋯ (by rw [Fj];exact CQ _ ⋯)
  refine ⟨_,rfl,_,rfl,_,_,rfl,ha4,_,_,rfl,rfl,_,rfl,_,_,rfl,rfl,_,_,_,_,rfl,rfl,ha4,aT,?_⟩
  generalize hw:co ns (ns.length - 1 - (i+1))=w
  have bw:blN w<=148:=by rw [<-hw];exact LH (C5 bn _)
  have bl:blN (lst' ns)<=148:=LH (C5 bn _)
  refine ⟨_,rfl,rfl,_,rfl,AO (λc=>?_) (λc=>?_)⟩
  ·have c:¬ w=0:=by simpa using c
   refine ⟨_,rfl,FV he4,_,rfl,_,rfl,_,_,_,_,rfl,rfl,ha4,aL,rfl,_,rfl,rfl,_,rfl,rfl,_,rfl,rfl,_,_,rfl,rfl,_,_,rfl,rfl,_,rfl,_,_,rfl,rfl,by unfold Jg;omega,_,rfl,_,_,_,rfl,rfl,he4,sz (by rw [AL];omega),?_⟩
   refine ⟨zs++[-(((blN (lst' ns):Int) - (blN w:Int) - 1) / ((i+1:Nat):Int))],_,_,rfl,λx o hx=>Kp.upd x o (BO hx he) (sH x o hx),(Ag ne).trans ha4,by rw [Dv];exact upd_same,hi',by rw [C2];exact Nat.succ_le_succ zl,λz hz=>?_,λst h1 h2 h3=>?_⟩
   ·rcases CZ.mp hz with q | q
    ·exact z160 z q
    ·rw [Az.mp q]
     have:-(150:Int)<=((blN (lst' ns):Int) - (blN w:Int) - 1) / ((i+1:Nat):Int):=(Int.le_ediv_iff_mul_le ⋯).mpr (by
      have:-(150:Int)*((i+1:Nat):Int)<=-(150:Int)*1:=by omega
      omega)
     have:((blN (lst' ns):Int) - (blN w:Int) - 1) / ((i+1:Nat):Int)<=150:=Int.ediv_le_of_le_mul ⋯ (by
      have:(150:Int)*1<=(150:Int)*((i+1:Nat):Int):=by omega
      omega)
     omega
   ·rcases BG st (i+1) with q | q
    ·exact ES _ (hin st h1 ⋯ h3)
    ·have:st=i+1:=by omega
     subst this
     rw [hw]
     exact Cb _ (List.mem_singleton_self _)
  ·have c:w=0:=by simpa using c
   refine ⟨zs,_,_,rfl,sH,ha4,he4,hi',⋯,z160,λst h1 h2 h3=>?_⟩
   rcases BG st (i+1) with q | q
   ·exact hin st h1 ⋯ h3
   ·have:st=i+1:=by omega
    subst this
    exact absurd (hw.trans c) h3
 ·rintro σ H' ⟨zs,u,v,rfl,sH,ha4,he4,il,zl,z160,hin⟩
  have ei:((((ns.map V.int).length:Int)) - 1).toNat=ns.length - 1:=by omega
  rw [ei] at hin
  refine ⟨_,rfl,e,zs,rfl,he4,λM hM=>⟨_,_,rfl,rfl,?_⟩⟩
  refine k (1+M) H' sH ?_ ?_ λi hi=>?_
  ·rcases hM with ⟨_,z⟩ | ⟨z,_⟩
   ·omega
   ·have:=z160 M z;omega
  ·rcases hM with ⟨_,z⟩ | ⟨z,_⟩
   ·omega
   ·have:=z160 M z;omega
  ·by_cases w0:co ns i=0
   ·rw [w0];show 2 ^ _*0*_<=_;rw [Nat.mul_zero,Nat.zero_mul];exact AV _
   ·have hm:=hin (ns.length - 1 - i) ⋯ ⋯ (by rw [show ns.length - 1 - (ns.length - 1 - i)=i by omega];exact w0)
    rw [show ns.length - 1 - (ns.length - 1 - i)=i by omega] at hm
    have hle:-(((blN (lst' ns):Int) - (blN (co ns i):Int) - 1) / ((ns.length - 1 - i:Nat):Int))<=M:=by
     rcases hM with ⟨z,_⟩ | ⟨_,z⟩
     ·rw [z] at hm;cases hm
     ·exact z _ hm
    exact Yd l0 ⋯ (Int.le_trans hle ⋯)
theorem LJ {R:Nat->Int} {n:Nat} {x:Rat}:evF (toQ R) n x n=evQ ((List.range n).map R) x:=by
 have key:∀ d,d<=n->evF (toQ R) n x d=evQ (((List.range n).map R).drop (n - d)) x:=λd=>by
  induction d with
  | zero=>
    intro _
    rw [Nat.sub_zero,List.drop_eq_nil_of_le (by rw [AL,Bm];exact AS _)];rfl
  | succ d ih=>
    intro hd
    show toQ R (n - 1 - d)+x*evF (toQ R) n x d=_
    rw [ih ⋯]
    have l:n - (d+1)<((List.range n).map R).length:=by rw [AL,Bm];omega
    rw [List.drop_eq_getElem_cons l,show n - (d+1)+1=n - d by omega]
    show _=(((List.range n).map R)[n - (d+1)]:Rat)+x*_
    rw [List.getElem_map,List.getElem_range,show n - (d+1)=n - 1 - d by omega];rfl
 rw [key n (AS _),Nat.sub_self,List.drop_zero]
theorem Yg (h:GR K vs H Q E):OO K { nx:=λ_ H'=>Q .non H',rt:=Q } (L2.start ["row","whole","result","first","place"] vs) H:=by
 obtain ⟨p,ns,c,b,rfl,hp,n20,ok,k⟩:=h
 unfold OO
 rwa [hp]
 intro w hw
 rw [Qp]
 have sw:=AR hw (.lst (AY ns.length λk=>ns.getD k 0))
 have hp1:=sw _ _ hp
 rwa [hp1]
 rw [AL]
 refine ⟨⋯,⋯,ForR.by (λi σ H'=>∃ x3 x4:Option V,σ=[some (.ref p),some (.int c),some (.ref w),x3,x4]/\Same H H'/\H' w=some (.lst (AY ns.length (rnds c (λk=>ns.getD k 0) ns.length i)))) ⟨none,none,rfl,sw,upd_same⟩ ?_ ?_⟩
 ·rintro i σ H1 hi ⟨x3,x4,rfl,s1,hw1⟩
  have hp2:=s1 _ _ hp
  rwa [hp2]
  rw [AL]
  refine ⟨⋯,⋯,⋯,⋯,?_⟩
  have en:((ns.length:Int) - 2 - (0+(i:Int) - 1)).toNat=ns.length - 1 - i:=by omega
  rw [en]
  refine ForJ.down (λj σ H'=>∃ x4:Option V,σ=[some (.ref p),some (.int c),some (.ref w),some (.int (0+(i:Int))),x4]/\Same H H'/\H' w=some (.lst (AY ns.length λq=>if q+j+1<ns.length then rnds c (λk=>ns.getD k 0) ns.length i q else sy c (rnds c (λk=>ns.getD k 0) ns.length i) ns.length (ns.length - 1 - q)))) ⟨_,rfl,s1,?_⟩ ?_ ?_
  ·rw [hw1]
   refine congrArg (λl=>some (HO.lst l)) (D7 λq hq=>?_)
   by_cases h:q+0+1<ns.length
   ·rw [Zu h]
   ·rw [Zt h,show ns.length - 1 - q=0 by omega,show q=ns.length - 1 by omega]
    rfl
  ·rintro j σ H2 hj ⟨y,rfl,s2,hw2⟩
   have e1:((ns.length:Int) - 2 - (j:Int))=((ns.length - 2 - j:Nat):Int):=by omega
   rw [e1]
   have bS:∀ q,IntMulOk c (sy c (rnds c (λk=>ns.getD k 0) ns.length i) ns.length (ns.length - 1 - q)):=λq=>by
    rcases ok with bc | ⟨bn,b2,bc⟩
    ·have bc:c.natAbs<1152921504606846976:=bc
     exact EM ⋯ ⋯
    ·have bR:∀ i j,Bd (b+1001*20*i) (rnds c (λk=>ns.getD k 0) ns.length i j):=JC bc (λj=>Hy bn j) ⋯
     exact Br bc ((LE (n:=ns.length) bc (bR i) (ns.length - 1 - q)).mono (show _<=60000000 by omega))
   generalize rnds c (λk=>ns.getD k 0) ns.length i=R at hw2 bS ⊢
   have g1:atI (AY ns.length λq=>if q+j+1<ns.length then R q else sy c R ns.length (ns.length - 1 - q)) ((ns.length - 2 - j:Nat):Int)=some (V.int (R (ns.length - 2 - j))):=by
    rw [Gk (CQ _ ⋯),Zu ⋯]
   have g2:atI (AY ns.length λq=>if q+j+1<ns.length then R q else sy c R ns.length (ns.length - 1 - q)) (((ns.length - 2 - j:Nat):Int)+1)=some (V.int (sy c R ns.length (ns.length - 1 - (ns.length - 2 - j+1)))):=by
    rw [DP (j:=ns.length - 2 - j+1) ⋯ (CQ _ ⋯),Zt ⋯]
   rwa [hw2,g1,g2]
   refine ⟨bS _,ns.length - 2 - j,?_,λb o h=>Kp.upd b o (BO h hw) (s2 b o h),?_⟩
   ·rw [Cz];exact El rfl ⋯
   ·refine Ek ⋯ ?_ λq hq hne=>?_
    ·rw [Zt ⋯]
     exact YO ⋯
    ·by_cases h:q+j+1<ns.length
     ·rw [Zu h,Zu ⋯]
     ·rw [Zt h,Zt ⋯]
  ·rintro σ H2 ⟨y,rfl,s2,hw2⟩
   refine ⟨_,_,rfl,s2,?_⟩
   rw [hw2]
   refine congrArg (λl=>some (HO.lst l)) (D7 λq hq=>?_)
   show rnd c (rnds c (λk=>ns.getD k 0) ns.length i) ns.length i q=_
   unfold rnd
   by_cases h:q<i
   ·rw [Zu h,Zu ⋯]
   ·rw [Zt h,Zt ⋯]
 ·rintro σ H1 ⟨x3,x4,rfl,s1,hw1⟩
  rwa []
  have en:((ns.length:Int) - 1).toNat=ns.length - 1:=by omega
  rw [en] at hw1
  refine k w ((List.range ns.length).map (rnds c (λk=>ns.getD k 0) ns.length (ns.length - 1))) H1 s1 hw hw1 (by rw [AL,Bm]) (λy=>?_) λb' hb hc z hz=>?_
  rotate_left
  ·obtain ⟨j,hj,rfl⟩:=Bc.mp hz
   refine (JC (m:=ns.length) hc (λj=>Hy hb j) (AS _) (ns.length - 1) j).mono ?_
   exact Nat.add_le_add_left (B6 _ (Nat.sub_le _ _)) _
  rcases DH ns.length with z | z
  ·have:ns=[]:=CU.mp z
   subst this;rfl
  ·have h:=WK (c:=c) (R:=λk=>ns.getD k 0) (n:=ns.length) (y:=y) z
   rw [LJ,LJ] at h
   have e:(List.range ns.length).map (λk=>ns.getD k 0)=ns:=by
    refine EW λi=>?_
    rw [Af]
    rcases BG i ns.length with q | q
    ·rw [DS q,Am q]
     show some (ns.getD i 0)=_
     rw [AU,Am q];rfl
    ·rw [Bv (by rw [Bm];exact q),Bv q];rfl
   rw [e] at h
   exact h
theorem Yh (z:Int) (l:List Int) (b:Int):sgc (z::l) b=if z≠0 then (if b*z<0 then 1 else 0)+sgc l (if z > 0 then 1 else -1) else sgc l b:=by rw [sgc]
theorem Yi (h:Ke K vs H Q E):Wt K { nx:=λ_ H'=>Q .non H',rt:=Q } (L2.start ["row","many","before_it","whole"] vs) H:=by
 obtain ⟨p,ns,rfl,hp,ln,k⟩:=h
 refine BE ?_
 show Pd K _ _ _
 refine BE ?_
 show Pb K _ [some (.ref p),some (.int 0),some (.int 0),none] _
 refine YZ ⟨_,rfl,p,rfl,⟨_,SqL.of hp⟩,ForL.by (xs:=ns.map V.int) (λi σ H'=>∃ (m:Nat) (b:Int) (o:Option V),σ=[some (.ref p),some (.int (m:Int)),some (.int b),o]/\H'=H/\(b=0\/b=1\/b = -1)/\m+sgc (ns.drop i) b=sgc ns 0) ⟨0,0,none,rfl,rfl,.inl rfl,by rw [List.drop_zero];omega⟩ ?_ ?_ ?_⟩
 ·rintro i σ H' _ ⟨m,b,o,rfl,rfl,_⟩
  exact SqL.of hp
 ·rintro i x σ H' hx ⟨m,b,o,rfl,rfl,hb,e⟩
  have il:i<ns.length:=by have:=(Bp.mp hx).1;rw [AL] at this;exact this
  rw [Af,Am il] at hx
  obtain rfl:=Z1 hx
  rw [List.drop_eq_getElem_cons il] at e
  generalize ns[i]=z at e
  rw [Yh] at e
  refine Vz ?_
  refine ⟨_,rfl,rfl,_,rfl,AO (λc=>?_) (λc=>?_)⟩
  ·have c:z≠0:=λw=>by
    have c:(!decide (V.int z=V.int 0))=true:=c
    rw [w] at c;simp at c
   rw [Zu c] at e
   show PZ K _ [some (.ref p),some (.int (m:Int)),some (.int b),some (.int z)] _
   have fin:∀ {m':Nat} {D:Ends},(D.nx=λσ H''=>∃ (m:Nat) (b:Int) (o:Option V),σ=[some (.ref p),some (.int (m:Int)),some (.int b),o]/\H''=H'/\(b=0\/b=1\/b = -1)/\m+sgc (ns.drop (i+1)) b=sgc ns 0)->m'+sgc (ns.drop (i+1)) (if z > 0 then 1 else -1)=sgc ns 0->PY K D [some (.ref p),some (.int (m':Int)),some (.int b),some (.int z)] H':=λ{m' D} hD hm=>by
    refine Dr (show Ab _ _ _ _ from ⟨_,rfl,_,_,rfl,rfl,_,rfl,AO (λd=>?_) (λd=>?_)⟩)
    ·have d:0<z:=Zw d
     rw [Zu d] at hm
     show D.nx _ _
     rw [hD]
     exact ⟨m',1,_,rfl,rfl,.inr (.inl rfl),hm⟩
    ·have d:¬ 0<z:=λw=>d (Zv w)
     rw [Zt d] at hm
     refine ⟨1,rfl,?_⟩
     rw [hD]
     exact ⟨m',-1,_,rfl,rfl,.inr (.inr rfl),hm⟩
   refine B9 ⟨_,rfl,_,rfl,_,_,rfl,rfl,EM ⋯ ⋯,_,_,rfl,rfl,_,rfl,AO (λd=>?_) (λd=>?_)⟩
   ·have d:b*z<0:=Zw d
    rw [Zu d] at e
    refine ⟨_,rfl,_,_,rfl,rfl,?_⟩
    exact fin (m':=m+1) rfl ⋯
   ·have d:¬ b*z<0:=λw=>d (Zv w)
    rw [Zt d] at e
    exact fin (m':=m) rfl ⋯
  ·have c:z=0:=by
    refine Classical.byContradiction λw=>c ?_
    show (!decide (V.int z=V.int 0))=true
    simp [w]
   rw [Zt ⋯] at e
   exact ⟨m,b,_,rfl,rfl,hb,e⟩
 ·rintro σ H' ⟨m,b,o,rfl,rfl,_,e⟩
  rw [AL,List.drop_length] at e
  have e:m+0=sgc ns 0:=e
  show Pa K _ _ _
  refine ⟨_,rfl,?_⟩
  rw [show m=sgc ns 0 by omega]
  exact k
noncomputable def Al {α:Type} (R:V->α->Prop):List V->List α->Prop
 | [],[]=>True
 | u::us,x::xs=>R u x/\Al R us xs
 | _,_=>False
theorem Al.ind {α:Type} {R:V->α->Prop} {M:List V->List α->Prop} (h0:M [] []) (h1:∀ u x us xs,R u x->Al R us xs->M us xs->M (u::us) (x::xs)):∀ {us:List V} {xs:List α},Al R us xs->M us xs:=by
 intro us
 induction us with
 | nil=>intro xs a;cases xs with
   | nil=>exact h0
   | cons _ _=>exact a.elim
 | cons u us ih=>intro xs a;cases xs with
   | nil=>exact a.elim
   | cons x xs=>exact h1 u x us xs a.1 a.2 (ih a.2)
theorem Al.mono {α:Type} {R R':V->α->Prop} (h:∀ u x,R u x->R' u x) {us:List V} {xs:List α} (a:Al R us xs):Al R' us xs:=
 Al.ind (M:=λus xs=>Al R' us xs) trivial (λu x _ _ r _ ih=>⟨h u x r,ih⟩) a
theorem Al.length {α:Type} {R:V->α->Prop} {us:List V} {xs:List α} (a:Al R us xs):us.length=xs.length:=
 Al.ind (M:=λ(us:List V) (xs:List α)=>us.length=xs.length) rfl (λ_ _ us xs _ _ (ih:us.length=xs.length)=>show us.length+1=xs.length+1 by rw [ih]) a
theorem Al.get {α:Type} {R:V->α->Prop} {us:List V} {xs:List α} (a:Al R us xs):∀ {i:Nat} {u:V},us[i]?=some u->∃ x,xs[i]?=some x/\R u x:=
 Al.ind (M:=λus xs=>∀ {i:Nat} {u:V},us[i]?=some u->∃ x,xs[i]?=some x/\R u x) (λe=>by cases e) (λv x _ _ r _ ih=>λ{i u} e=>by
  cases i with
  | zero=>cases e;exact ⟨x,rfl,r⟩
  | succ i=>exact ih e) a
theorem Al.append {α:Type} {R:V->α->Prop} {us:List V} {xs:List α} {vs:List V} {ys:List α} (a:Al R us xs) (b:Al R vs ys):Al R (us++vs) (xs++ys):=
 Al.ind (M:=λus xs=>Al R (us++vs) (xs++ys)) (by exact b) (λu x us xs r _ ih=>show Al R (u::(us++vs)) (x::(xs++ys)) from ⟨r,ih⟩) a
theorem Al.take {α:Type} {R:V->α->Prop} {us:List V} {xs:List α} (a:Al R us xs):∀ j:Nat,Al R (us.take j) (xs.take j):=
 Al.ind (M:=λus xs=>∀ j:Nat,Al R (us.take j) (xs.take j)) (λj=>by rw [List.take_nil,List.take_nil];trivial) (λ_ _ _ _ r t ih j=>by
  cases j with
  | zero=>trivial
  | succ j=>exact ⟨r,ih j⟩) a
theorem Al.dropLast {α:Type} {R:V->α->Prop} {us:List V} {xs:List α} (a:Al R us xs):Al R us.dropLast xs.dropLast:=by
 rw [List.dropLast_eq_take,List.dropLast_eq_take,a.length]
 exact a.take _
theorem Al.snoc {α:Type} {R:V->α->Prop} {us:List V} {xs:List α} {u:V} {x:α} (a:Al R us xs) (h:R u x):Al R (us++[u]) (xs++[x]):=a.append ⟨h,trivial⟩
theorem CompJ.enumL {K:W.Frag} {capt:List (Option Nat)} {g:TG} {te:TE} {σ:L2.St} {H:Hp} {Q:VK} {a:Addr} {xs:List V} (W:Nat->List V->Hp->Prop) (h0:W 0 [] H) (hb:∀ i ys H,W i ys H->i<=xs.length/\ys.length<=sizeLine/\SqL K H a xs)
  (hs:∀ i x p ys H,xs[i]?=some x->W i ys H->H p=none->g (.ref p) (Ck capt σ) (upd H p (.tup [.int i,x])) λσ2 H2=>te σ2 H2 λy H3=>W (i+1) (ys++[y]) H3) (hd:∀ ys H,W xs.length ys H->∀ p,H p=none->Q (.ref p) (upd H p (.lst ys))):CompJ (FT K a) capt g te σ Q H:=by
 refine ⟨xs.length,W,h0,λi ys H w=>⟨(hb i ys H w).1,(hb i ys H w).2.1,?_⟩⟩
 have q:SqL K H a xs:=(hb i ys H w).2.2
 by_cases h:i<xs.length
 ·refine .inr ⟨h,⟨xs,xs[i],q,by simp [h]⟩,λx H' y=>?_⟩
  obtain ⟨p,x',hp,rfl,rfl,y⟩:=y
  exact hs i x' p ys _ (y xs q) w hp
 ·have e:i=xs.length:=Nat.le_antisymm (hb i ys H w).1 (DI.mp h)
  subst e
  exact .inl ⟨⟨xs,q,AS _⟩,hd ys H w⟩
theorem Yj {α:Type} {l:List α} {x:α} (h:l[l.length - 1]?=some x):l=l.dropLast++[x]:=by
 have ne:l≠[]:=λz=>by rw [z] at h;cases h
 have e:=FK ne
 have:l.getLast ne=x:=by
  rw [List.getLast_eq_getElem]
  exact (Bp.mp h).2
 rw [this] at e
 exact e.symm
theorem Yk {K:W.Frag} {ta:TE} {capt:List (Option Nat)} {g:TG} {te:TE} {σ:L2.St} {H:Hp} {Q:VK} (h:ta σ H λx H1=>∃ a,[x]=[V.ref a]/\(∃ xs,SqL K H1 a xs)/\CompJ (FT K a) capt g te σ Q H1):CF (E5 K (AB ta AC)) capt g te σ H Q:=h
noncomputable def hl:List Int->List Int
 | []=>[]
 | a::l=>a*(2:Int) ^ l.length::hl l
theorem HV:∀ l:List Int,(hl l).length=l.length
 | []=>rfl
 | a::l=>by show (hl l).length+1=l.length+1;rw [HV l]
theorem Qx (y:Rat):∀ l:List Int,evQ (hl l) y*2=((2 ^ l.length:Nat):Rat)*evQ l (y / 2)
 | []=>by show (0:Rat)*2=_*0;ext
 | a::l=>by
   have ih:=Qx y l
   show (((a*(2:Int) ^ l.length:Int):Rat)+y*evQ (hl l) y)*2=((2 ^ (l.length+1):Nat):Rat)*((a:Rat)+y / 2*evQ l (y / 2))
   have e:((2 ^ (l.length+1):Nat):Rat)=2*((2 ^ l.length:Nat):Rat):=by rw [B5];push_cast;ext
   have e2:((a*(2:Int) ^ l.length:Int):Rat)=(a:Rat)*((2 ^ l.length:Nat):Rat):=by push_cast;rfl
   rw [e,e2]
   generalize ((2 ^ l.length:Nat):Rat)=P at *
   ext
theorem LK:∀ (l:List Int) {i:Nat} (h:i<l.length),(hl l)[i]?=some (l[i]*(2:Int) ^ (l.length - 1 - i))
 | a::l,0,h=>by show some (a*(2:Int) ^ l.length)=_;rfl
 | a::l,i+1,h=>by
   have h':i<l.length:=by simpa using h
   show (hl l)[i]?=some (l[i]*(2:Int) ^ (l.length+1 - 1 - (i+1)))
   rw [LK l h',show l.length+1 - 1 - (i+1)=l.length - 1 - i by omega]
theorem Yl (h:Kf K vs H Q E):Ws K { nx:=λ_ H'=>Q .non H',rt:=Q } (L2.start ["row","last"] vs) H:=by
 obtain ⟨p,ns,b,rfl,hp,n20,bn,b8,k⟩:=h
 refine BE ⟨_,rfl,p,_,rfl,hp,_,_,rfl,rfl,?_⟩
 rw [AL]
 refine EK (Yk ⟨_,rfl,p,rfl,⟨_,SqL.of hp⟩,CompJ.enumL (xs:=ns.map V.int) (λi ys H'=>i<=ns.length/\Same H H'/\ys=((hl ns).take i).map V.int) ⟨AV _,Same.refl H,by rw [List.take_zero];rfl⟩ ?_ ?_ ?_⟩)
 ·rintro i ys H' ⟨hi,s1,rfl⟩
  exact ⟨by rw [AL];exact hi,sz (by rw [AL,Cm,HV];omega),SqL.of (s1 _ _ hp)⟩
 ·rintro i x q ys H' hx ⟨hi,s1,rfl⟩ hq
  have il:i<ns.length:=by have:=(Bp.mp hx).1;rw [AL] at this;exact this
  have hg:=LK ns il
  rw [Af,Am il] at hx
  obtain rfl:=Z1 hx
  have bz:=bn ns[i] (Db il)
  generalize ns[i]=z at hg bz ⊢
  have sq:=AR hq (.tup [.int (i:Int),.int z])
  refine ⟨q,_,rfl,upd_same,rfl,_,_,rfl,_,_,rfl,rfl,?_⟩
  have bl:=LH bz
  have ej:((ns.length:Int) - 1 - (i:Int)).toNat=ns.length - 1 - i:=by omega
  refine ⟨_,rfl,_,rfl,_,rfl,_,_,rfl,rfl,_,_,rfl,rfl,⟨⋯,⋯⟩,il,s1.trans sq,?_⟩
  rw [DR,hg,Dv]
  show _++[V.int (z*2 ^ ((ns.length:Int) - 1 - (i:Int)).toNat)]=_
  rw [ej];rfl
 ·rintro ys H' ⟨_,s1,rfl⟩ r hr
  have et:(hl ns).take (ns.map V.int).length=hl ns:=by rw [AL,<-HV ns,C7]
  rw [et] at *
  have rN:H r=none:=by
   cases e:H r with
   | none=>rfl
   | some o=>have:=s1 _ _ e;rw [hr] at this;cases this
  refine k r (hl ns) _ (s1.trans (AR hr _)) rN upd_same (HV ns) (λz hz=>?_) λy=>?_
  ·obtain ⟨i,hi,rfl⟩:=FJ hz
   have il:i<ns.length:=by rw [<-HV ns];exact hi
   have hg:=LK ns il
   rw [Am hi] at hg
   rw [Z1 hg]
   have b2:Bd 20 ((2:Int) ^ (ns.length - 1 - i)):=by
    show ((2:Int) ^ (ns.length - 1 - i)).natAbs<2 ^ 20
    rw [Int.natAbs_pow]
    exact Nat.pow_lt_pow_right ∅ ⋯
   exact (bn ns[i] (Db il)).mul b2
  ·have h:=Qx y ns
   cases ns with
   | nil=>show (0:Rat)=_*0;ext
   | cons a l=>
     have e:((2 ^ (a::l).length:Nat):Rat)=2*((2 ^ ((a::l).length - 1):Nat):Rat):=by
      rw [show (a::l).length=((a::l).length - 1)+1 by simp,B5];push_cast;simp;ext
     rw [e] at h
     ext
noncomputable def hv (d:Nat):Rat:=((2 ^ d:Nat):Rat)⁻¹
theorem GX (d:Nat):hv d*((2 ^ d:Nat):Rat)=1:=by
 have p:(0:Rat)<((2 ^ d:Nat):Rat):=by exact_mod_cast Bf ∅
 unfold hv
 rw [Rat.mul_comm];exact CJ _ ()
theorem JD (d:Nat):0<hv d:=by
 have p:(0:Rat)<((2 ^ d:Nat):Rat):=by exact_mod_cast Bf ∅
 exact Rat.inv_pos.mpr p
theorem Ym (d:Nat):hv (d+1)=hv d / 2:=by
 have h1:=GX (d+1)
 have h2:=GX d
 have e:((2 ^ (d+1):Nat):Rat)=2*((2 ^ d:Nat):Rat):=by rw [B5];push_cast;ext
 have p:(0:Rat)<((2 ^ d:Nat):Rat):=by exact_mod_cast Bf ∅
 rw [e] at h1
 generalize ((2 ^ d:Nat):Rat)=P at *
 have:(hv (d+1) - hv d / 2)*P=0:=by ext
 rcases CB.mp this with c | c <;> ext
theorem Qy (d:Nat):hv d<=1:=by
 have h:=GX d
 have p:(1:Rat)<=((2 ^ d:Nat):Rat):=by exact_mod_cast Nat.one_le_two_pow
 have:=AQ p (show 0<=hv d by have:=JD d;ext)
 ext
noncomputable def Pt (Q:List Int) (b D:Nat) (w:Addr) (H:Hp) (v:V) (t:Rat×Nat):Prop:=∃ (a:Addr) (ps:List Int) (M:Rat),v=.ref a/\H a=some (.lst (ps.map V.int))/\a≠w/\ps.length=Q.length/\(∀ z∈ps,Bd (b+60*t.2) z)/\0<M/\0<=t.1/\t.1+hv t.2<=1/\t.2<=D/\∀ x,evQ ps x=M*evQ Q (t.1+hv t.2*x)
theorem Pt.kp {Q:List Int} {b D:Nat} {w:Addr} {H H':Hp} {v:V} {t:Rat×Nat} (k:Kp w H H') (h:Pt Q b D w H v t):Pt Q b D w H' v t:=by
 obtain ⟨a,ps,M,rfl,h1,h2,h3⟩:=h
 exact ⟨a,ps,M,rfl,k _ _ h2 h1,h2,h3⟩
noncomputable def SNf (Q:List Int):List (Rat×Nat)->Nat
 | []=>0
 | t::ts=>Nf (evQ Q) t.1 (t.1+hv t.2)+SNf Q ts
theorem LL (Q:List Int) (ts us:List (Rat×Nat)):SNf Q (ts++us)=SNf Q ts+SNf Q us:=by
 induction ts with
 | nil=>show SNf Q us=0+SNf Q us;omega
 | cons t ts ih=>show _+SNf Q (ts++us)=(_+SNf Q ts)+_;rw [ih];omega
noncomputable def msr (D:Nat):List (Rat×Nat)->Nat
 | []=>0
 | t::ts=>3 ^ (D+1 - t.2)+msr D ts
theorem LM (D:Nat) (ts us:List (Rat×Nat)):msr D (ts++us)=msr D ts+msr D us:=by
 induction ts with
 | nil=>show msr D us=0+msr D us;omega
 | cons t ts ih=>show _+msr D (ts++us)=(_+msr D ts)+_;rw [ih];omega
theorem leaf0' {Q T:List Int} (nz:∃ x,0<x/\x<1/\evQ Q x≠0) (hT:∀ y,evQ T y=evQ Q.reverse (y+1)) (h:sgc T 0=0):IsN (evQ Q) 0 1 0:=by
 obtain ⟨x,x0,x1,hx⟩:=nz
 obtain ⟨s,s1,hs⟩:∃ s:Int,(s=1\/s = -1)/\∀ z∈T,0<=s*z:=by
  rcases Ng T h with q | q
  ·exact ⟨1,.inl rfl,λz hz=>by have:=q z hz;omega⟩
  ·exact ⟨-1,.inr rfl,λz hz=>by have:=q z hz;omega⟩
 have key:∀ x,0<x->x<1->0<=(s:Rat)*evQ Q x:=λx h0 h1=>by
  obtain ⟨y,y0,xy⟩:=IP h0 h1
  obtain ⟨c,c0,e⟩:=Nk hT h0 xy
  have:=Aa (show 0<=c by ext) (Fe (s:=s) (show 0<=y by ext) hs)
  rw [e];ext
 refine ⟨⟨x,x0,x1,hx⟩,?_⟩
 rintro ⟨u,u0,u1,v,uv,h3,v1,_⟩
 have k1:=key u u0 u1
 have k2:=key v () v1
 have sr:(s:Rat)=1\/(s:Rat) = -1:=by rcases s1 with rfl | rfl;·exact .inl rfl
                                     ·exact .inr rfl
 rcases mul_neg_iff'.mp h3 with ⟨a,b⟩ | ⟨a,b⟩ <;> rcases sr with e | e <;> rw [e] at k1 k2 <;> ext
theorem Yn {ns rs:List Int} {B:Nat} (l9:ns.length<=9) (hl':rs.length=ns.length) (h:∀ y,evQ rs y=evQ ns (y+1)) (hb:∀ z∈ns,Bd B z):∀ z∈rs,Bd (B+10) z:=λz hz=>by
 obtain ⟨i,hi,rfl⟩:=FJ hz
 have c:=IR (P:=rs) (Q:=ns) (M:=1) (u:=1) (w:=1) hl' (λx=>by rw [h];have:(1:Rat)+1*x=x+1:=by ext
                                                             rw [this];ext) (i:=i) ⋯
 rw [AU,Am hi] at c
 have c:((rs[i]:Int):Rat)=1*tq 1 1 ns i:=c
 obtain ⟨b1,b2⟩:=HA (u:=1) (w:=1) ∅ ∅ ∅ ns i
 have pw:∀ n:Nat,(1:Rat) ^ n=1:=λn=>by
  induction n with
  | zero=>rfl
  | succ n ih=>rw [Ap,ih];ext
 rw [pw] at b1 b2
 have a:=Nx (z:=rs[i]) (B:=((gm ns i:Nat):Rat)) () ()
 have a:rs[i].natAbs<=gm ns i:=by exact_mod_cast a
 have g1:gm ns i<=gs ns (i+1):=by show _<=gs ns i+gm ns i;omega
 have g2:=KZ (i+1) ns (B:=2 ^ B) λz hz=>C1 (hb z hz)
 have p9:2 ^ ns.length<=2 ^ 9:=Cp ∅ l9
 have:2 ^ B*2 ^ ns.length<=2 ^ B*2 ^ 9:=B6 _ p9
 have e:2 ^ (B+10)=2 ^ B*2 ^ 9+2 ^ B*2 ^ 9:=by rw [Cc];omega
 have pB:0<2 ^ B:=Bf ∅
 show rs[i].natAbs<2 ^ (B+10)
 omega
theorem Yo (h:Kg K vs H Q E):Wr K { nx:=λ_ H'=>Q .non H',rt:=Q } (L2.start ["row","many","waiting","part","changes","lower","upper"] vs) H:=by
 obtain ⟨p,ns,U,W,D,b,rfl,hp,n9,bn,bD,sk,k⟩:=h
 obtain ⟨HH,H0,hU,hW,hH⟩:=sk.H
 refine BE ?_
 show PX K _ [some (.ref p),some (.int 0),none,none,none,none,none] _
 refine BE (IJ ⟨_,rfl,D6,λw hw=>?_⟩)
 have s1:=AR hw (.lst [.ref p])
 have hww:upd H w (.lst [.ref p]) w=_:=upd_same
 have pw:p≠w:=BO hp hw
 show PV K _ [some (.ref p),some (.int 0),some (.ref w),none,none,none,none] _
 have P0:Pt ns b D w (upd H w (.lst [.ref p])) (.ref p) (0,0):=⟨p,ns,1,rfl,s1 _ _ hp,pw,rfl,λz hz=>(bn z hz).mono ⋯,∅,∅,by have:=Qy 0;show (0:Rat)+hv 0<=1;ext,AV _,λx=>by
  have:hv 0=1:=by have:=GX 0;rw [show ((2 ^ 0:Nat):Rat)=1 from rfl] at this;ext
  show evQ ns x=1*evQ ns (0+hv 0*x)
  rw [this,show (0:Rat)+1*x=x by grind];ext⟩
 have N0:SNf ns [(0,0)]=Nf (evQ ns) 0 1:=by
  have:hv 0=1:=by have:=GX 0;rw [show ((2 ^ 0:Nat):Rat)=1 from rfl] at this;ext
  show Nf (evQ ns) 0 (0+hv 0)+0=_
  rw [this,show (0:Rat)+1=1 by grind];omega
 generalize upd H w (.lst [.ref p])=H1 at s1 hww P0 ⊢
 refine Eg (λm σ H'=>∃ (mn:Nat) (us:List V) (ts:List (Rat×Nat)) (o3 o4 o5 o6:Option V),σ=[some (.ref p),some (.int (mn:Int)),some (.ref w),o3,o4,o5,o6]/\Same H H'/\H' w=some (.lst us)/\Al (Pt ns b D w H') us ts/\mn+SNf ns ts=Nf (evQ ns) 0 1/\(∀ (i:Nat) (t:Rat×Nat),ts[i]?=some t->i<=t.2)/\m=msr D ts) _ ⟨0,[.ref p],[(0,0)],none,none,none,none,rfl,s1,hww,⟨P0,trivial⟩,by rw [N0];omega,λi t ht=>by
  have:i<1:=(Bp.mp ht).1
  omega,rfl⟩ ?_
 rintro m σ H2 ⟨mn,us,ts,o3,o4,o5,o6,rfl,s2,h2w,al,sum,dep,rfl⟩
 refine ⟨_,rfl,w,us,rfl,h2w,AO (λc=>?_) (λc=>?_)⟩
 ·have tl:=al.length
  have ne:0<us.length:=by
   cases us with
   | nil=>cases c
   | cons _ _=>exact Nat.succ_pos _
  have hu:us[us.length - 1]?=some (us[us.length - 1]'⋯):=Am ⋯
  generalize us[us.length - 1]'⋯=u at hu
  obtain ⟨t,ht,pu⟩:=al.get hu
  rw [tl] at ht
  have ets:=Yj ht
  have dt:=dep _ t ht
  refine ⟨_,λ_ _ h=>h,?_⟩
  show PR K _ _ _
  refine BE ⟨_,rfl,FV h2w,w,us,u,rfl,rfl,h2w,hu,?_⟩
  have k1:Kp w H2 (upd H2 w (.lst us.dropLast)):=λc o n e=>(Ag n).trans e
  have h3w:upd H2 w (.lst us.dropLast) w=_:=upd_same
  have s3:Same H (upd H2 w (.lst us.dropLast)):=λc o hc=>k1 c o (BO hc hw) (s2 c o hc)
  have al3:=al.dropLast.mono λ_ _ h=>h.kp k1
  have pu3:=pu.kp k1
  have GJ:us.dropLast.length+1=us.length:=by rw [List.length_dropLast];omega
  have sum3:mn+SNf ns ts.dropLast+Nf (evQ ns) t.1 (t.1+hv t.2)=Nf (evQ ns) 0 1:=by
   have:=congrArg (SNf ns) ets
   rw [LL] at this
   have e2:SNf ns [t]=Nf (evQ ns) t.1 (t.1+hv t.2)+0:=rfl
   omega
  have ms3:msr D ts=msr D ts.dropLast+3 ^ (D+1 - t.2):=by
   have:=congrArg (msr D) ets
   rw [LM] at this
   have e2:msr D [t]=3 ^ (D+1 - t.2)+0:=rfl
   omega
  have dep3:∀ (i:Nat) (t':Rat×Nat),ts.dropLast[i]?=some t'->i<=t'.2:=λi t' h=>dep i t' (by
   rw [ets,List.getElem?_append_left (Bp.mp h).1];exact h)
  have pos3:0<3 ^ (D+1 - t.2):=Bf ∅
  show PQ K _ [some (.ref p),some (.int (mn:Int)),some (.ref w),some u,o4,o5,o6] _
  generalize upd H2 w (.lst us.dropLast)=H3 at k1 h3w s3 al3 pu3 ⊢
  obtain ⟨a,ps,M,rfl,ha,aw,lps,bps,M0,t0,t1,tD,ev⟩:=pu3
  have hd0:=JD t.2
  have nzp:∃ x,0<x/\x<1/\evQ ps x≠0:=by
   obtain ⟨z,z1,z2,z3⟩:=sk.sf.nz (show t.1<t.1+hv t.2 by ext)
   have hi:hv t.2*(hv t.2)⁻¹=1:=CJ _ ()
   have hip:0<(hv t.2)⁻¹:=Rat.inv_pos.mpr hd0
   have e:t.1+hv t.2*((z - t.1)*(hv t.2)⁻¹)=z:=by
    have:hv t.2*((z - t.1)*(hv t.2)⁻¹)=(hv t.2*(hv t.2)⁻¹)*(z - t.1):=by ext
    rw [this,hi];ext
   refine ⟨(z - t.1)*(hv t.2)⁻¹,As () hip,?_,λy=>z3 ?_⟩
   ·have:=As (show 0<t.1+hv t.2 - z by ext) hip
    ext
   ·rw [ev,e] at y
    rcases CB.mp y with q | q
    ·ext
    ·exact q
  have nfp:Nf (evQ ns) t.1 (t.1+hv t.2)=Nf (evQ ps) 0 1:=by
   have e:evQ ps=λx=>M*evQ ns (t.1+hv t.2*x):=funext ev
   rw [e,Nf.aff hd0 M0,show t.1+hv t.2*0=t.1 by ext,show t.1+hv t.2*1=t.1+hv t.2 by grind]
  refine Gz (By ⟨_,rfl,a,_,rfl,ha,λq hq=>?_⟩)
  have sq:=AR hq (.lst (ps.map V.int).reverse)
  have hqq:upd H3 q (.lst (ps.map V.int).reverse) q=_:=upd_same
  rw [<-List.map_reverse] at *
  have kq:Kp w H3 (upd H3 q (.lst (ps.reverse.map V.int))):=Kp.of_same sq
  show ∃ _,_
  generalize upd H3 q (.lst (ps.reverse.map V.int))=H4 at sq hqq kq ⊢
  refine ⟨q,ps.reverse,1,0,rfl,hqq,by rw [List.length_reverse];omega,.inl (by unfold Bd;decide),λr rs H5 s5 _ hr lr er _=>?_⟩
  have er:∀ y,evQ rs y=evQ ps.reverse (y+1):=er
  rw [List.length_reverse] at lr
  have s35:=sq.trans s5
  have h5w:=s35 _ _ h3w
  have sH5:=s3.trans s35
  have al5:=al3.mono λ_ _ h=>h.kp (Kp.of_same s35)
  have ha5:=s35 _ _ ha
  refine ⟨r,rs,rfl,hr,⋯,?_⟩
  show PP K _ [some (.ref p),some (.int (mn:Int)),some (.ref w),some (.ref a),some (.int ((sgc rs 0:Nat):Int)),o5,o6] _
  refine B9 ⟨_,rfl,rfl,_,rfl,AO (λc1=>?_) (λc1=>?_)⟩
  ·have c1:sgc rs 0=1:=by
    have:V.int ((sgc rs 0:Nat):Int)=V.int 1:=Zw c1
    injection this with this;omega
   refine ⟨_,rfl,_,_,rfl,rfl,?_⟩
   show Km K _ [some (.ref p),some (.int ((mn:Int)+1)),some (.ref w),some (.ref a),some (.int ((sgc rs 0:Nat):Int)),o5,o6] _
   refine ⟨_,rfl,_,_,rfl,rfl,_,rfl,AO (λc2=>?_) (λ_=>?_)⟩
   ·have c2:(1:Int)<((sgc rs 0:Nat):Int):=Zw c2
    omega
   ·have one:=EL (WD (Q:=ps) er c1)
    refine ⟨msr D ts.dropLast,⋯,mn+1,us.dropLast,ts.dropLast,_,_,_,_,rfl,sH5,h5w,al5,?_,dep3,rfl⟩
    rw [nfp,one] at sum3;omega
  ·have c1:sgc rs 0≠1:=λz=>c1 (by
    show decide (V.int ((sgc rs 0:Nat):Int)=V.int 1)=true
    rw [z];exact Zv rfl)
   show Km K _ _ _
   refine ⟨_,rfl,_,_,rfl,rfl,_,rfl,AO (λc2=>?_) (λc2=>?_)⟩
   ·have c2:(1:Int)<((sgc rs 0:Nat):Int):=Zw c2
    show PN K _ [some (.ref p),some (.int (mn:Int)),some (.ref w),some (.ref a),some (.int ((sgc rs 0:Nat):Int)),o5,o6] _
    have lD:t.2<D:=by
     refine Nat.not_le.mp λz=>?_
     have eD:t.2=D:=by omega
     have small:hv t.2*(HH*((gs ns ns.length*(8*ns.length+8):Nat):Rat))<1:=by
      rw [eD]
      have:=As (JD D) (show 0<((2 ^ D:Nat):Rat) - HH*((gs ns ns.length*(8*ns.length+8):Nat):Rat) by ext)
      have:=GX D
      ext
     have:=deep (Q:=ns) (P:=ps) (T:=rs) (U:=U) (V:=W) lps ev M0 t0 () hd0 (Qy _) lr er H0 (hU _ t0 ()) (hW _ t0 ()) (sk.uv _ t0 ()) small
     omega
    have D15:60*t.2+60<=60*D:=by omega
    refine Gz ⟨_,rfl,a,ps,b+60*t.2,rfl,ha5,⋯,bps,⋯,λr1 ls H6 s6 n6 hr1 ll bl el=>?_⟩
    have h6w:=s6 _ _ h5w
    have r1w:r1≠w:=(BO h5w n6).symm
    show PM K _ [some (.ref p),some (.int (mn:Int)),some (.ref w),some (.ref a),some (.int ((sgc rs 0:Nat):Int)),some (.ref r1),o6] _
    refine Ei ⟨_,rfl,r1,ls,1,0,rfl,hr1,⋯,.inl (by unfold Bd;decide),λr2 ws H7 s7 n7 hr2 lw ew _=>?_⟩
    have ew:∀ y,evQ ws y=evQ ls (y+1):=ew
    have h7w:=s7 _ _ h6w
    have r2w:r2≠w:=(BO h6w n7).symm
    have hr1:=s7 _ _ hr1
    have s37:=s35.trans (s6.trans s7)
    have sH7:=s3.trans s37
    have al7:=al3.mono λ_ _ h=>h.kp (Kp.of_same s37)
    have bw:=Yn (B:=b+60*t.2+20) ⋯ lw ew bl
    have eh:=Ym t.2
    have el':∀ x,evQ ls x=(((2 ^ (ps.length - 1):Nat):Rat)*M)*evQ ns (t.1+hv (t.2+1)*x):=λx=>by
     rw [el,ev,eh,show t.1+hv t.2*(x / 2)=t.1+hv t.2 / 2*x by grind];ext
    have ew':∀ x,evQ ws x=(((2 ^ (ps.length - 1):Nat):Rat)*M)*evQ ns ((t.1+hv (t.2+1))+hv (t.2+1)*x):=λx=>by
     rw [ew,el',show t.1+hv (t.2+1)*(x+1)=t.1+hv (t.2+1)+hv (t.2+1)*x by grind]
    have M2:0<((2 ^ (ps.length - 1):Nat):Rat)*M:=As (by exact_mod_cast Bf ∅) M0
    have h20:=JD (t.2+1)
    have nd:=sk.sf.node (a:=t.1) (m:=t.1+hv (t.2+1)) (b:=t.1+hv t.2) () ()
    have e3:t.1+hv (t.2+1)+hv (t.2+1)=t.1+hv t.2:=by ext
    have PL:Pt ns b D w H7 (.ref r1) (t.1,t.2+1):=⟨r1,ls,_,rfl,hr1,r1w,⋯,λz hz=>(bl z hz).mono (by show _<=b+60*(t.2+1);omega),M2,t0,by show t.1+hv (t.2+1)<=1;ext,lD,el'⟩
    have PW:Pt ns b D w H7 (.ref r2) (t.1+hv (t.2+1),t.2+1):=⟨r2,ws,_,rfl,hr2,r2w,⋯,λz hz=>(bw z hz).mono (by show _<=b+60*(t.2+1);omega),M2,by show 0<=t.1+hv (t.2+1);ext,by show t.1+hv (t.2+1)+hv (t.2+1)<=1;rw [e3];exact t1,lD,ew'⟩
    obtain ⟨z0,ws',rfl⟩:∃ z0 ws',ws=z0::ws':=by
     cases ws with
     | nil=>
       have:rs.length=0:=by have:(0:Nat)=ls.length:=lw;omega
       have:rs=[]:=CU.mp this
       rw [this] at c2
       have:sgc [] 0=0:=by rw [sgc]
       omega
     | cons z ws=>exact ⟨z,ws,rfl⟩
    have ez:z0=0↔evQ ns (t.1+hv (t.2+1))=0:=by
     have h:=ew' 0
     rw [show t.1+hv (t.2+1)+hv (t.2+1)*0=t.1+hv (t.2+1) by grind] at h
     have h:(z0:Rat)+0*evQ ws' 0=((2 ^ (ps.length - 1):Nat):Rat)*M*evQ ns (t.1+hv (t.2+1)):=h
     constructor
     ·intro z
      rw [z] at h
      have h:((2 ^ (ps.length - 1):Nat):Rat)*M*evQ ns (t.1+hv (t.2+1))=0:=by rw [<-h];have:((0:Int):Rat)=0:=rfl
                                                                             rw [this];ext
      rcases CB.mp h with q | q
      ·ext
      ·exact q
     ·intro z
      rw [z] at h
      have:(z0:Rat)=0:=by ext
      exact_mod_cast this
    show PJ K _ [some (.ref p),some (.int (mn:Int)),some (.ref w),some (.ref a),some (.int ((sgc rs 0:Nat):Int)),some (.ref r1),some (.ref r2)] _
    have lenD:us.dropLast.length<=D:=by omega
    have fin:∀ {mn':Nat} {DD:Ends},(DD.nx=λx x_1=>∃ m',m'<msr D ts/\∃ (mn:Nat) (us:List V) (ts:List (Rat×Nat)) (o3 o4 o5 o6:Option V),x=[some (.ref p),some (.int (mn:Int)),some (.ref w),o3,o4,o5,o6]/\Same H x_1/\x_1 w=some (.lst us)/\Al (Pt ns b D w x_1) us ts/\mn+SNf ns ts=Nf (evQ ns) 0 1/\(∀ (i:Nat) (t:Rat×Nat),ts[i]?=some t->i<=t.2)/\m'=msr D ts)->mn'=mn+(if evQ ns (t.1+hv (t.2+1))=0 then 1 else 0)->PH K DD [some (.ref p),some (.int (mn':Int)),some (.ref w),some (.ref a),some (.int ((sgc rs 0:Nat):Int)),some (.ref r1),some (.ref r2)] H7:=λ{mn' DD} hDD hm=>by
     refine ⟨_,rfl,FV h7w,_,rfl,w,us.dropLast,_,rfl,rfl,h7w,sz ⋯,?_⟩
     have k8:Kp w H7 (upd H7 w (.lst (us.dropLast++[V.ref r1]))):=λc o n e=>(Ag n).trans e
     have h8w:upd H7 w (.lst (us.dropLast++[V.ref r1])) w=_:=upd_same
     have al8:=(al7.snoc PL).mono λ_ _ h=>h.kp k8
     have s8:Same H (upd H7 w (.lst (us.dropLast++[V.ref r1]))):=λc o hc=>k8 c o (BO hc hw) (sH7 c o hc)
     have PW8:=PW.kp k8
     show PF K _ _ _
     generalize upd H7 w (.lst (us.dropLast++[V.ref r1]))=H8 at k8 h8w al8 s8 PW8 ⊢
     refine ⟨_,rfl,FV h8w,_,rfl,w,us.dropLast++[V.ref r1],_,rfl,rfl,h8w,sz (by rw [C2];show us.dropLast.length+1+1<=_;omega),?_⟩
     have k9:Kp w H8 (upd H8 w (.lst (us.dropLast++[V.ref r1]++[V.ref r2]))):=λc o n e=>(Ag n).trans e
     rw [hDD]
     have dl:ts.dropLast.length=us.dropLast.length:=al3.length.symm
     refine ⟨msr D (ts.dropLast++[(t.1,t.2+1)]++[(t.1+hv (t.2+1),t.2+1)]),?_,mn',_,ts.dropLast++[(t.1,t.2+1)]++[(t.1+hv (t.2+1),t.2+1)],_,_,_,_,rfl,λc o hc=>k9 c o (BO hc hw) (s8 c o hc),upd_same,(al8.snoc PW8).mono λ_ _ h=>h.kp k9,?_,λi t' h=>?_,rfl⟩
     ·rw [LM,LM,ms3]
      show msr D ts.dropLast+(3 ^ (D+1 - (t.2+1))+0)+(3 ^ (D+1 - (t.2+1))+0)<_
      have e:3 ^ (D+1 - t.2)=3*3 ^ (D+1 - (t.2+1)):=by
       rw [show D+1 - t.2=(D+1 - (t.2+1))+1 by omega,B5];omega
      have:0<3 ^ (D+1 - (t.2+1)):=Bf ∅
      omega
     ·rw [LL,LL]
      show mn'+(SNf ns ts.dropLast+(Nf (evQ ns) t.1 (t.1+hv (t.2+1))+0)+(Nf (evQ ns) (t.1+hv (t.2+1)) (t.1+hv (t.2+1)+hv (t.2+1))+0))=_
      rw [e3,hm]
      omega
     ·rcases BG i ts.dropLast.length with q | q
      ·rw [List.append_assoc,List.getElem?_append_left q] at h
       exact dep3 i t' h
      ·rw [List.append_assoc,List.getElem?_append_right q] at h
       have lt:=(Bp.mp h).1
       have lt:i - ts.dropLast.length<2:=lt
       have:i - ts.dropLast.length=0\/i - ts.dropLast.length=1:=by omega
       rcases this with z | z <;> rw [z] at h <;> cases h
       ·show i<=t.2+1;omega
       ·show i<=t.2+1;omega
    refine B9 ⟨_,rfl,r2,0,(z0::ws').map V.int,V.int z0,rfl,rfl,hr2,DP (j:=0) rfl rfl,rfl,_,rfl,AO (λc3=>?_) (λc3=>?_)⟩
    ·have c3:z0=0:=by
      have:V.int z0=V.int 0:=Zw c3
      injection this
     refine ⟨_,rfl,_,_,rfl,rfl,?_⟩
     exact fin (mn':=mn+1) rfl (by rw [Zu (ez.mp c3)])
    ·have c3:z0≠0:=λz=>c3 (by show decide (V.int z0=V.int 0)=true;rw [z];exact Zv rfl)
     exact fin (mn':=mn) rfl (by rw [Zt λz=>c3 (ez.mpr z)];rfl)
   ·have c2:¬ (1:Int)<((sgc rs 0:Nat):Int):=λz=>c2 (Zv z)
    have none':=EL (leaf0' nzp er (show sgc rs 0=0 by omega))
    refine ⟨msr D ts.dropLast,⋯,mn,us.dropLast,ts.dropLast,_,_,_,_,rfl,sH5,h5w,al5,?_,dep3,rfl⟩
    rw [nfp,none'] at sum3;omega
 ·have un:us=[]:=by
   cases us with
   | nil=>rfl
   | cons _ _=>exact absurd rfl c
  have tn:ts=[]:=CU.mp (by rw [<-al.length,un];rfl)
  rw [tn] at sum
  have sum:mn+0=Nf (evQ ns) 0 1:=sum
  show PU K _ _ _
  refine ⟨_,rfl,?_⟩
  rw [show mn=Nf (evQ ns) 0 1 by omega]
  exact k H2 s2
theorem JE (a b:Rat):∀ n:Nat,(a*b) ^ n=a ^ n*b ^ n
 | 0=>by rw [A7,A7,A7];ext
 | n+1=>by rw [Ap,Ap,Ap,JE a b n];ext
theorem rpow_add' (a:Rat) (m:Nat):∀ n:Nat,a ^ (m+n)=a ^ m*a ^ n
 | 0=>by rw [Nat.add_zero,A7];ext
 | n+1=>by rw [<-Nat.add_assoc,Ap,Ap,rpow_add' a m n];ext
theorem Qz (f:Nat->Rat) (δ y:Rat):∀ n:Nat,evS (λk=>f k*δ ^ k) n y=evS f n (δ*y)
 | 0=>rfl
 | n+1=>by
   show evS (λk=>f k*δ ^ k) n y+f n*δ ^ n*y ^ n=evS f n (δ*y)+f n*(δ*y) ^ n
   rw [Qz f δ y n,JE];ext
theorem Q0 (f:Nat->Rat) (B x:Rat) (n:Nat):∀ m:Nat,m<=n->evS (λk=>f k*B ^ (n - 1 - k)) m (B*x)=B ^ (n - 1)*evS f m x
 | 0,_=>by show (0:Rat)=_*0;ext
 | m+1,h=>by
   show evS (λk=>f k*B ^ (n - 1 - k)) m (B*x)+f m*B ^ (n - 1 - m)*(B*x) ^ m=B ^ (n - 1)*(evS f m x+f m*x ^ m)
   rw [Q0 f B x n m ⋯,JE]
   have e:B ^ (n - 1)=B ^ (n - 1 - m)*B ^ m:=by rw [<-rpow_add'];congr 1;omega
   rw [e];ext
theorem Q1 (R:Nat->Int) (n:Nat) (y:Rat):evQ ((List.range n).map R) y=evS (λk=>(R k:Rat)) n y:=by
 rw [GL,AL,Bm]
 refine G9 λk hk=>?_
 rw [AU,Af,DS hk];rfl
theorem JF (z:Int):∀ n:Nat,((z ^ n:Int):Rat)=(z:Rat) ^ n
 | 0=>by rw [A7,Int.pow_zero];rfl
 | n+1=>by rw [Ap,Int.pow_succ,BL,JF z n]
theorem Yp (h:Kh K vs H Q E):Wq K { nx:=λ_ H'=>Q .non H',rt:=Q } (L2.start ["row","start","end","bottom","result","scale","place"] vs) H:=by
 obtain ⟨p,s,e,ns,a,b,rfl,hp,hs,he,n9,bn,a0,b0,ba1,ba2,bb1,bb2,lt,k⟩:=h
 refine BE ⟨_,rfl,_,_,_,_,rfl,rfl,hs,rfl,_,rfl,_,_,_,_,rfl,rfl,he,rfl,_,_,rfl,rfl,Br ba2 bb2,?_⟩
 have bb:Bd 420 (a.2*b.2):=ba2.mul bb2
 have bc:Bd 420 (a.1*b.2):=ba1.mul bb2
 have bd:Bd 421 (b.1*a.2 - a.1*b.2):=(bb1.mul ba2).sub bc
 have val1:val a*((a.2*b.2:Int):Rat)=((a.1*b.2:Int):Rat):=by
  have h2:(a.2:Rat)≠0:=Ba ⋯
  have q:=DB (a:=(a.1:Rat)) h2
  show (a.1:Rat) / (a.2:Rat)*_=_
  push_cast
  generalize (a.1:Rat) / (a.2:Rat)=x at q ⊢
  rw [<-q];ext
 have val2:(val b - val a)*((a.2*b.2:Int):Rat)=((b.1*a.2 - a.1*b.2:Int):Rat):=by
  have h2:(b.2:Rat)≠0:=Ba ⋯
  have q:=DB (a:=(b.1:Rat)) h2
  have e1:(val b - val a)*((a.2*b.2:Int):Rat)=val b*((a.2*b.2:Int):Rat) - val a*((a.2*b.2:Int):Rat):=by ext
  rw [e1,val1]
  show (b.1:Rat) / (b.2:Rat)*_ - _=_
  push_cast
  generalize (b.1:Rat) / (b.2:Rat)=x at q ⊢
  rw [<-q];ext
 have B1:(1:Int)<=a.2*b.2:=Int.mul_pos a0 b0
 show PD K _ [some (.ref p),some (.ref s),some (.ref e),some (.int (a.2*b.2)),none,none,none] H
 generalize hB:a.2*b.2=B at *
 generalize hc:a.1*b.2=c at *
 refine BE ⟨_,rfl,p,_,rfl,hp,λw hw=>?_⟩
 have sw:=AR hw (.lst (ns.map V.int))
 have hww:upd H w (.lst (ns.map V.int)) w=_:=upd_same
 generalize upd H w (.lst (ns.map V.int))=H1 at sw hww ⊢
 refine BE ?_
 have hp1:=sw _ _ hp
 show PC K _ [some (.ref p),some (.ref s),some (.ref e),some (.int B),some (.ref w),some (.int 1),none] H1
 have ll:((ns.map V.int).length:Int)=(ns.length:Int):=by rw [AL]
 refine ⟨_,rfl,p,_,rfl,hp1,_,_,rfl,rfl,_,rfl,_,rfl,_,_,rfl,⟨⋯,⋯,⋯,⋯⟩,?_⟩
 rw [ll,show ((ns.length:Int) - 1 - -1).toNat=ns.length by omega]
 refine ForJ.down (λi σ H'=>∃ x6:Option V,σ=[some (.ref p),some (.ref s),some (.ref e),some (.int B),some (.ref w),some (.int (B ^ i)),x6]/\Same H H'/\i<=ns.length/\H' w=some (.lst (AY ns.length λq=>if ns.length<=q+i then co ns q*B ^ (ns.length - 1 - q) else co ns q))) ⟨none,by rw [Int.pow_zero],sw,AV _,?_⟩ ?_ ?_
 ·rw [hww,Fj]
  exact congrArg (λl=>some (HO.lst l)) (D7 λq hq=>by rw [Zt ⋯])
 ·rintro i σ H2 hi ⟨x6,rfl,s2,il,hw2⟩
  have e1:(ns.length:Int) - 1 - (i:Int)=((ns.length - 1 - i:Nat):Int):=by omega
  rw [e1]
  have g1:atI (AY ns.length λq=>if ns.length<=q+i then co ns q*B ^ (ns.length - 1 - q) else co ns q) ((ns.length - 1 - i:Nat):Int)=some (V.int (co ns (ns.length - 1 - i))):=by
   rw [Gk (CQ _ ⋯),Zt ⋯]
  have bp:Bd 4000 (B ^ i):=(bb.pow i).mono ⋯
  refine ⟨_,rfl,_,rfl,w,_,_,_,rfl,rfl,hw2,g1,_,rfl,_,_,rfl,rfl,Br (C5 bn _) bp,w,_,_,ns.length - 1 - i,rfl,rfl,hw2,by rw [Cz];exact El rfl ⋯,?_⟩
  refine ⟨_,rfl,_,rfl,_,_,rfl,rfl,Br bp bb,_,by rw [Int.pow_succ];rfl,λx o h=>Kp.upd x o (BO h hw) (s2 x o h),⋯,?_⟩
  rw [upd_same]
  refine congrArg (λl=>some (HO.lst l)) (Ek ⋯ ?_ λq hq hne=>?_)
  ·rw [Zu ⋯,show ns.length - 1 - (ns.length - 1 - i)=i by omega]
  ·by_cases h:ns.length<=q+i
   ·rw [Zu h,Zu ⋯]
   ·rw [Zt h,Zt ⋯]
 ·rintro σ H2 ⟨x6,rfl,s2,il,hw2⟩
  have hw2:H2 w=some (.lst (((List.range ns.length).map λq=>co ns q*B ^ (ns.length - 1 - q)).map V.int)):=by
   rw [hw2]
   exact congrArg (λl=>some (HO.lst l)) (D7 λq hq=>by rw [Zu ⋯])
  generalize hR:(List.range ns.length).map (λq=>co ns q*B ^ (ns.length - 1 - q))=R at hw2
  have lR:R.length=ns.length:=by rw [<-hR,AL,Bm]
  have bR:∀ z∈R,Bd 4000 z:=λz hz=>by
   rw [<-hR] at hz
   obtain ⟨j,hj,rfl⟩:=Bc.mp hz
   have:=(C5 bn j).mul (bb.pow (ns.length - 1 - j))
   exact this.mono ⋯
  show PB K _ _ _
  refine Ei ⟨_,rfl,_,rfl,_,_,_,_,rfl,rfl,s2 _ _ hs,rfl,_,rfl,_,_,_,_,rfl,rfl,s2 _ _ he,rfl,_,_,rfl,rfl,Br ba1 bb2,?_⟩
  show GR K [V.ref w,V.int (a.1*b.2)] H2 _ _
  rw [hc]
  refine ⟨w,R,c,4000,rfl,hw2,⋯,.inr ⟨bR,⋯,bc.mono ∅⟩,λr rs H3 s3 n3 hr lr er br=>?_⟩
  have br:=br 4000 bR (bc.mono ∅)
  have br:∀ z∈rs,Bd 86000 z:=λz hz=>(br z hz).mono (by
   have:1001*R.length*R.length<=1001*9*9:=EC (B6 _ ⋯) ⋯
   omega)
  have s13:=s2.trans s3
  generalize hr3:H3=H3' at *
  refine BE ?_
  show O9 K _ [some (.ref p),some (.ref s),some (.ref e),some (.int B),some (.ref r),some (.int 1),x6] H3'
  have hp3:=s13 _ _ hp
  refine ⟨_,rfl,p,_,rfl,hp3,_,rfl,⋯,⋯,?_⟩
  rw [ll,Dc]
  have rn:H r=none:=by
   cases hz:H r with
   | none=>rfl
   | some o=>exact absurd (s2 _ _ hz) (by rw [n3];exact λz=>nomatch z)
  refine ForR.by (λi σ H'=>∃ x6:Option V,σ=[some (.ref p),some (.ref s),some (.ref e),some (.int B),some (.ref r),some (.int ((b.1*a.2 - c) ^ i)),x6]/\Same H H'/\i<=ns.length/\H' r=some (.lst (AY ns.length λq=>if q<i then co rs q*(b.1*a.2 - c) ^ q else co rs q))) ⟨_,by rw [Int.pow_zero],s13,AV _,?_⟩ ?_ ?_
  ·rw [hr,Fj,lr,lR]
   exact congrArg (λl=>some (HO.lst l)) (D7 λq hq=>by rw [Zt ⋯])
  ·rintro i σ H4 hi ⟨x6,rfl,s4,il,hr4⟩
   rw [show (0:Int)+(i:Int)=((i:Nat):Int) by omega]
   have g1:atI (AY ns.length λq=>if q<i then co rs q*(b.1*a.2 - c) ^ q else co rs q) ((i:Nat):Int)=some (V.int (co rs i)):=by
    rw [Gk (CQ _ ⋯),Zt ⋯]
   have bp:Bd 4000 ((b.1*a.2 - c) ^ i):=(bd.pow i).mono ⋯
   have hs4:=s4 _ _ hs
   have he4:=s4 _ _ he
   refine ⟨_,rfl,_,rfl,r,_,_,_,rfl,rfl,hr4,g1,_,rfl,_,_,rfl,rfl,Br (C5 br _) bp,r,_,_,i,rfl,rfl,hr4,by rw [Cz];exact El rfl ⋯,?_⟩
   have hs5:upd H4 r (.lst ((AY ns.length λq=>if q<i then co rs q*(b.1*a.2 - c) ^ q else co rs q).set i (V.int (co rs i*(b.1*a.2 - c) ^ i)))) s=_:=(Ag (BO hs rn)).trans hs4
   have he5:upd H4 r (.lst ((AY ns.length λq=>if q<i then co rs q*(b.1*a.2 - c) ^ q else co rs q).set i (V.int (co rs i*(b.1*a.2 - c) ^ i)))) e=_:=(Ag (BO he rn)).trans he4
   refine ⟨_,rfl,_,rfl,_,_,_,_,rfl,rfl,he5,rfl,_,rfl,_,_,_,_,rfl,rfl,hs5,rfl,_,_,rfl,rfl,Br bb1 ba2,_,rfl,_,_,_,_,rfl,rfl,hs5,rfl,_,rfl,_,_,_,_,rfl,rfl,he5,rfl,_,_,rfl,rfl,Br ba1 bb2,_,_,rfl,rfl,?_⟩
   refine ⟨(b.1*a.2 - c) ^ i,b.1*a.2 - c,rfl,by subst hc;rfl,Br bp bd,_,by rw [Int.pow_succ];rfl,λx o h=>Kp.upd x o (BO h rn) (s4 x o h),⋯,?_⟩
   rw [upd_same]
   refine congrArg (λl=>some (HO.lst l)) (Ek ⋯ ?_ λq hq hne=>?_)
   ·rw [Zu ⋯]
   ·by_cases h:q<i
    ·rw [Zu h,Zu ⋯]
    ·rw [Zt h,Zt ⋯]
  ·rintro σ H4 ⟨x6,rfl,s4,il,hr4⟩
   have hr4:H4 r=some (.lst (((List.range ns.length).map λq=>co rs q*(b.1*a.2 - c) ^ q).map V.int)):=by
    rw [hr4]
    exact congrArg (λl=>some (HO.lst l)) (D7 λq hq=>by rw [Zu ⋯])
   refine ⟨_,rfl,k r _ H4 s4 hr4 (by rw [AL,Bm]) (λz hz=>?_) ⟨((B ^ (ns.length - 1):Int):Rat),?_,λy=>?_⟩⟩
   ·obtain ⟨j,hj,rfl⟩:=Bc.mp hz
    have:=(C5 br j).mul (bd.pow j)
    have hj:=ER.mp hj
    exact this.mono ⋯
   ·have:(0:Int)<B ^ (ns.length - 1):=Int.pow_pos (show 0<B by omega)
    have:(1:Int)<=B ^ (ns.length - 1):=this
    exact_mod_cast this
   ·rw [Q1]
    have e1:evS (λk=>((co rs k*(b.1*a.2 - c) ^ k:Int):Rat)) ns.length y=evS (λk=>(co rs k:Rat)*((b.1*a.2 - c:Int):Rat) ^ k) ns.length y:=G9 λk _=>by rw [BL,JF]
    have e2:evS (λk=>(co rs k:Rat)) ns.length (((b.1*a.2 - c:Int):Rat)*y)=evQ rs (((b.1*a.2 - c:Int):Rat)*y):=by rw [GL,lr,lR];rfl
    rw [e1,Qz,e2,er,<-hR,Q1]
    have e3:∀ t,evS (λk=>((co ns k*B ^ (ns.length - 1 - k):Int):Rat)) ns.length t=evS (λk=>(co ns k:Rat)*(B:Rat) ^ (ns.length - 1 - k)) ns.length t:=λt=>G9 λk _=>by rw [BL,JF]
    rw [e3]
    have e4:((b.1*a.2 - c:Int):Rat)*y+(c:Rat)=(B:Rat)*(val a+(val b - val a)*y):=by rw [<-val1,<-val2];ext
    rw [e4,Q0 _ _ _ _ _ (AS _),JF]
    have e5:evS (λk=>(co ns k:Rat)) ns.length (val a+(val b - val a)*y)=evQ ns (val a+(val b - val a)*y):=by rw [GL];rfl
    rw [e5]
namespace Sr
noncomputable def mvR (c:Rat):List Rat->List Rat
 | []=>[]
 | x::a=>Ae [x] (Au [c,1] (mvR c a))
noncomputable def mv (c:Rat) (f:Sr):Sr:=open Classical in if h:Pol f then L (mvR c h.choose) else 0
end Sr
theorem Q2 (a b:List Int) (k:Nat):∀ n,n<=a.length->ps a b n k=cvL (a.take n) (co b) k
 | 0,_=>by rw [List.take_zero,Ay];rfl
 | n+1,h=>by
   have e:a.take (n+1)=a.take n++[co a n]:=by
    rw [DR,Am ⋯]
    unfold co
    rw [AU,Am ⋯];rfl
   rw [e,DY,<-Q2 a b k n ⋯,Cm,Nat.min_eq_left ⋯]
   show ps a b n k+(if n<=k/\k - n<b.length then co a n*co b (k - n) else 0)=_
   unfold Av
   by_cases c:n<=k
   ·rw [Zu c]
    by_cases d:k - n<b.length
    ·rw [Zu ⟨c,d⟩]
    ·rw [Zt (λz=>d z.2),AX (a:=b) ⋯];omega
   ·rw [Zt c,Zt (λz=>c z.1)];omega
theorem datN_inj {q c:Nu}:Cv q=Cv c↔q=c:=by
 constructor
 ·intro h
  unfold Cv at h
  injection h with h
  injection h with h1 h
  injection h with h2 h
  injection h1 with h1
  injection h2 with h2
  exact Prod.ext h1 h2
 ·intro h;rw [h]
theorem Q3 {K:W.Frag} {i:Nat} {w:Addr} {ta:TE} {D:Ends} {σ:L2.St} {H:Hp} (h1:σ[i]?=some (some (.ref w))) (h2:tyV K "list" (.ref w) H) (h:ta σ H λy H1=>Ef (.ref w) [y] H1 λ_ H2=>D.nx σ H2):EZ (tBM K "list" Ef (AA i) (AB ta AC)) D σ H:=⟨_,h1,h2,h⟩
theorem JG {c:TT} {t u:TS} {D:Ends} {σ:L2.St} {H:Hp} (h:c σ H λb H1=>if b=true then t D σ H1 else u D σ H1):A5 c t u D σ H:=h
theorem Yq {a b c:List Int} (h:si c=si a*si b) (x:Rat):evQ c x=evQ a x*evQ b x:=by
 have e:Sr.L (qR c)=Sr.L (Au (qR a) (qR b)):=by rw [Sr.L_mulRow,CH,CH,CH];exact h
 rw [CA,CA,CA,Sr.ev_congr e x,Sr.ev_mul]
theorem Q4 {a b:List Int} {κ:Rat} (h:si b=Sr.num κ*si a) (x:Rat):evQ b x=κ*evQ a x:=by
 have e:Sr.L (qR b)=Sr.L ((qR a).map (κ*·)):=by rw [Sr.L_scal,CH,CH];exact h
 rw [CA,CA,Sr.ev_congr e x,Sr.ev_scal]
theorem Q5 {F S:List Int} (h:Rad F S):Rad F (sq F):=by
 unfold sq
 rw [dif_pos ⟨S,h⟩]
 exact Classical.choose_spec (⟨S,h⟩:∃ S,Rad F S)
theorem Q6:(1:Sr)≠0:=λz=>by
 rw [<-Sr.num_one,show (0:Sr)=Sr.num 0 from rfl] at z
 have e:(1:Rat)*AW 0=0*AW 0:=Z3 (congrArg Sr.c z) 0
 have o:(AW 0:Rat)=1:=rfl
 rw [o] at e
 ext
theorem Yr:Sr.Pol 1:=Sr.num_one ▸ Sr.Pol.num 1
theorem Ys {q q':Sr} (pq:Sr.Pol q) (pq':Sr.Pol q') (h:q'*q=1):∃ c:Rat,c≠0/\q=Sr.num c:=by
 have q0:q≠0:=λz=>Q6 (by rw [<-h,z];ext)
 have q0':q'≠0:=λz=>Q6 (by rw [<-h,z];ext)
 obtain ⟨n,hn⟩:=pq.bn
 obtain ⟨n',hn'⟩:=pq'.bn
 rcases Sr.top_ex n hn with z | ⟨j,_,j0,jb⟩
 ·exact absurd z q0
 rcases Sr.top_ex n' hn' with z | ⟨i,_,i0,ib⟩
 ·exact absurd z q0'
 have tm:=(Sr.top_mul ib jb).1
 rw [h,<-Sr.num_one] at tm
 have tm:(1:Rat)*AW (i+j)=q'.c i*q.c j:=tm
 have nz:q'.c i*q.c j≠0:=λz=>(CB.mp z).elim i0 j0
 have ij:j=0:=by
  rcases DH j with z | z
  ·exact z
  ·obtain ⟨m,hm⟩:∃ m,i+j=m+1:=⟨i+j - 1,⋯⟩
   rw [hm] at tm
   have o:(AW (m+1):Rat)=0:=rfl
   rw [o] at tm
   exact absurd (by rw [<-tm];ext) nz
 subst ij
 refine ⟨q.c 0,j0,Sr.ext' λk=>?_⟩
 show q.c k=q.c 0*AW k
 cases k with
 | zero=>show _=_*(1:Rat);ext
 | succ k=>rw [jb (k+1) ⋯];show _=_*(0:Rat);ext
theorem Rad.prop {F S S':List Int} (h:Rad F S) (h':Rad F S'):∃ κ:Rat,κ≠0/\∀ x,evQ S' x=κ*evQ S x:=by
 obtain ⟨f0,c,L,c0,r,e⟩:=h
 obtain ⟨_,c',L',c0',r',e'⟩:=h'
 obtain ⟨q,pq,eq⟩:=Qt f0 r r'
 obtain ⟨q',pq',eq'⟩:=Qt f0 r' r
 obtain ⟨T,M,pT,pL,pM,e1,_⟩:=r
 have L0:L≠0:=λz=>f0 (by rw [e1,z];ext)
 have u:q'*q=1:=Sr.cancel (pq'.mul pq) Yr pL L0 (by rw [show q'*q*L=q'*(q*L) by ext,<-eq,<-eq'];ext)
 obtain ⟨k,k0,ek⟩:=Ys pq pq' u
 refine ⟨c'*k*c⁻¹,λz=>?_,λx=>Q4 ?_ x⟩
 ·rcases CB.mp z with z | z
  ·exact (CB.mp z).elim c0' k0
  ·have i:c*c⁻¹=1:=CJ _ c0
   rw [z] at i;ext
 ·rw [e',eq,ek,e,<-Sr.num_num,<-Sr.num_num]
  have i:=Sr.num_inv c0
  rw [show Sr.num c'*Sr.num k*Sr.num c⁻¹*(Sr.num c*L)=Sr.num c'*Sr.num k*(Sr.num c⁻¹*Sr.num c)*L by ext,i];ext
theorem Q7 {rs:List Int} (q:QI (co rs) (co (dI rs)) AW):∃ (U V:List Int) (d:Int),d≠0/\∀ x:Rat,evQ U x*evQ rs x+evQ V x*dQ rs x=(d:Rat):=by
 obtain ⟨d,d0,U,V,hd⟩:=q
 refine ⟨U,V,d,d0,λx=>?_⟩
 have e:si [d]=si U*si rs+si V*si (dI rs):=by
  rw [DQ U,DQ V,Sr.L_mul,Sr.L_mul]
  refine Sr.ext' λk=>?_
  show ((co [d] k:Int):Rat)=cvL (U.map λz:Int=>(z:Rat)) (si rs).c k+cvL (V.map λz:Int=>(z:Rat)) (si (dI rs)).c k
  have o:co [d] k=d*AW k:=by
   cases k with
   | zero=>show d=d*1;omega
   | succ k=>show (0:Int)=d*0;omega
  rw [o,hd k]
  have c1:=EN (co rs) U k
  have c2:=EN (co (dI rs)) V k
  push_cast
  rw [c1,c2];rfl
 have e1:Sr.L (qR [d])=Sr.L (Ae (Au (qR U) (qR rs)) (Au (qR V) (qR (dI rs)))):=by rw [Sr.L_add,Sr.L_mulRow,Sr.L_mulRow,CH,CH,CH,CH,CH];exact e
 have e2:=Sr.ev_congr e1 x
 rw [Sr.ev_add,Sr.ev_mul,Sr.ev_mul,<-CA,<-CA,<-CA,<-CA,<-CA,Qv] at e2
 rw [<-e2]
 show (d:Rat)+x*0=d;ext
theorem Rad.qi {F S:List Int} (h:Rad F S):QI (co S) (co (dI S)) AW:=YU h.1 h.2
theorem Rad.sf {F S:List Int} (h:Rad F S):Sf S:=λx z1 z2=>by
 obtain ⟨U,V,d,d0,e⟩:=Q7 h.qi
 have:=e x
 rw [z1,z2] at this
 exact Ba d0 (by rw [<-this];ext)
theorem Rad.same {F S S':List Int} (h:Rad F S) (h':Rad F S') (a b:Rat):Nf (evQ S') a b=Nf (evQ S) a b:=by
 obtain ⟨κ,k0,e⟩:=h.prop h'
 rw [show evQ S'=λt=>κ*evQ S t from funext e]
 exact Nf.scl k0
theorem Rad.zero {F S:List Int} (h:Rad F S) (x:Rat):evQ F x=0↔evQ S x=0:=by
 rw [CA,CA];exact YS h.1 h.2 x
theorem LN:∀ l:List Rat,Pn l.length (Sr.ev l)
 | []=>⟨0,λ_=>rfl⟩
 | a::l=>⟨a,Sr.ev l,LN l,λ_=>rfl⟩
theorem Rad.pow {F S:List Int} (h:Rad F S):∃ (K:Rat->Rat) (k e:Nat),Pn k K/\∀ x,evQ F x*K x=1*evQ S x ^ e:=by
 obtain ⟨f0,c,L,c0,⟨T,M,⟨t,rfl⟩,⟨l,rfl⟩,pM,e1,e2,cs⟩,e3⟩:=h
 have T0:Sr.L t≠0:=λz=>f0 (by rw [e1,z];ext)
 have hD:Sr.D (Sr.L t)*Sr.L l=(M - Sr.D (Sr.L l))*Sr.L t:=by
  rw [e1,Sr.D_mul (Sr.Pol.L t)] at e2
  ext
 obtain ⟨m,a,⟨a',rfl⟩,pw⟩:=Sr.rad_pow _ _ _ _ (Sr.L_bn t) T0 (Sr.Pol.L l) (pM.sub (Sr.Pol.L l).D) hD
 have hlm:∀ n:Nat,∃ w:List Rat,Sr.L w=Sr.L l ^ n/\∀ x,Sr.ev w x=Sr.ev l x ^ n:=λn=>by
  induction n with
  | zero=>exact ⟨[1],by rw [<-Sr.num_L,Sr.num_one];ext,λx=>by show (1:Rat)+x*0=_;rw [A7];ext⟩
  | succ n ih=>
    obtain ⟨w,h1,h2⟩:=ih
    exact ⟨Au w l,by rw [Sr.L_mulRow,h1];ext,λx=>by rw [Sr.ev_mul,h2,Ap]⟩
 obtain ⟨w,w1,w2⟩:=hlm m
 have eS:∀ x,evQ S x=c*Sr.ev l x:=λx=>by
  have er:Sr.L (qR S)=Sr.L (l.map (c*·)):=by rw [CH,Sr.L_scal];exact e3
  rw [CA,Sr.ev_congr er,Sr.ev_scal]
 have eF:∀ x,evQ F x=Sr.ev t x*Sr.ev l x:=λx=>by
  have en:Sr.L (qR F)=Sr.L (Au t l):=by rw [CH,Sr.L_mulRow];exact e1
  rw [CA,Sr.ev_congr en,Sr.ev_mul]
 refine ⟨λx=>c ^ (m+1)*Sr.ev a' x,a'.length,m+1,(LN a').scale _,λx=>?_⟩
 have v:Sr.ev l x ^ m=Sr.ev a' x*Sr.ev t x:=by
  rw [<-w2]
  have:Sr.L w=Sr.L (Au a' t):=by rw [w1,Sr.L_mulRow];exact pw
  rw [Sr.ev_congr this,Sr.ev_mul]
 rw [eF,eS]
 have mp:∀ n:Nat,(c*Sr.ev l x) ^ n=c ^ n*Sr.ev l x ^ n:=λn=>by
  induction n with
  | zero=>rw [A7,A7,A7];ext
  | succ n ih=>rw [Ap,Ap,Ap,ih];ext
 rw [mp,Ap (Sr.ev l x),v];ext
theorem LO (R:Rat) (R0:0<=R):∀ l:List Int,∃ C,0<=C/\∀ x,-R<=x->x<=R->evQ l x<=C/\-evQ l x<=C
 | []=>⟨0,(),λx _ _=>by show (0:Rat)<=0/\-(0:Rat)<=0;constructor <;> ext⟩
 | a::l=>by
   obtain ⟨C,C0,hC⟩:=LO R R0 l
   obtain ⟨a1,a2⟩:=iabs a
   have n0:(0:Rat)<=((a.natAbs:Nat):Rat):=by exact_mod_cast AV _
   refine ⟨((a.natAbs:Nat):Rat)+R*C,by have:=Aa R0 C0;ext,λx x1 x2=>?_⟩
   obtain ⟨h1,h2⟩:=hC x x1 x2
   obtain ⟨p1,p2⟩:=D9 x2 (show -x<=R by ext) h1 h2
   show (a:Rat)+x*evQ l x<=_/\-((a:Rat)+x*evQ l x)<=_
   constructor <;> ext
theorem rbd (x:Rat):∃ N:Rat,0<=N/\x<=N/\-x<=N:=by
 rcases (A4:x<=0\/0<=x) with z | z
 ·exact ⟨-x,(),(),()⟩
 ·exact ⟨x,(),(),()⟩
theorem Rad.scl {F G S:List Int} {κ:Rat} (k0:κ≠0) (e:si G=Sr.num κ*si F) (h:Rad F S):Rad G S:=by
 obtain ⟨f0,c,L,c0,⟨T,M,pT,pL,pM,e1,e2,cs⟩,e3⟩:=h
 refine ⟨λz=>f0 ?_,c,L,c0,⟨Sr.num κ*T,M,(Sr.Pol.num κ).mul pT,pL,pM,by rw [e,e1];ext,by rw [e,Sr.D_num,e2];ext,cs⟩,e3⟩
 have i:=Sr.num_inv k0
 rw [show si F=Sr.num κ⁻¹*Sr.num κ*si F by rw [i];ext,show Sr.num κ⁻¹*Sr.num κ*si F=Sr.num κ⁻¹*(Sr.num κ*si F) by ext,<-e,z];ext
theorem Rad.unscl {F G S:List Int} {κ:Rat} (k0:κ≠0) (e:si G=Sr.num κ*si F) (h:Rad G S):Rad F S:=by
 have i:=Sr.num_inv k0
 refine h.scl (κ:=κ⁻¹) (λz=>?_) ?_
 ·have j:κ*κ⁻¹=1:=CJ _ k0
  rw [z] at j;ext
 ·rw [e,show Sr.num κ⁻¹*(Sr.num κ*si F)=Sr.num κ⁻¹*Sr.num κ*si F by ext,i];ext
noncomputable def clL (β:Rat):Option Rat->Rat
 | none=>-β
 | some x=>if x < -β then -β else x
noncomputable def clR (β:Rat):Option Rat->Rat
 | none=>β
 | some x=>if β<x then β else x
theorem Yt {S:List Int} (sf:Sf S) {β s p q:Rat} (b0:0<β) (fp:∀ x,β<=x->0<evQ S x) (fm:∀ x,x<=-β->0<evQ S x*s) (pq:p<q) :
  Nf (evQ S) p q=if (if p < -β then -β else p)<(if β<q then β else q) then Nf (evQ S) (if p < -β then -β else p) (if β<q then β else q) else 0:=by
 have L:∀ p q,p<q->q<=-β->Nf (evQ S) p q=0:=λp q h1 h2=>Nf.one h1 λx _ x2=>fm x ()
 have R:∀ p q,p<q->β<=p->Nf (evQ S) p q=0:=λp q h1 h2=>Nf.one (s:=1) h1 λx x1 _=>by have:=fp x ();ext
 have zl:evQ S (-β)≠0:=λz=>by have:=fm (-β) ();rw [z] at this;ext
 have zr:evQ S β≠0:=λz=>by have:=fp β ();rw [z] at this;ext
 have right:∀ p,p<β->β<q->Nf (evQ S) p q=Nf (evQ S) p β:=λp h1 h2=>by
  rw [sf.node h1 h2,R β q h2 (),Zt zr];rfl
 by_cases c1:p < -β
 ·rw [Zu c1]
  by_cases c2:-β<q
  ·have e:Nf (evQ S) p q=Nf (evQ S) (-β) q:=by rw [sf.node c1 c2,L p (-β) c1 (),Zt zl];omega
   rw [e]
   by_cases c3:β<q
   ·rw [Zu c3,Zu (),right _ () c3]
   ·rw [Zt c3,Zu c2]
  ·rw [Zt (show ¬ β<q by ext),Zt c2,L p q pq ()]
 ·rw [Zt c1]
  by_cases c3:β<q
  ·rw [Zu c3]
   by_cases c4:p<β
   ·rw [Zu c4,right p c4 c3]
   ·rw [Zt c4,R p q pq ()]
  ·rw [Zt c3,Zu pq]
theorem JH (o:Option Rat):∃ A,0<=A/\∀ x,o=some x->x<=A/\-x<=A:=by
 cases o with
 | none=>exact ⟨0,(),λx h=>nomatch h⟩
 | some y=>
   obtain ⟨N,N0,N1,N2⟩:=rbd y
   exact ⟨N,N0,λx h=>by cases h;exact ⟨N1,N2⟩⟩
theorem Yu {ns rs:List Int} (R:Rad ns rs) {β s:Rat} (b0:0<β) (fp:∀ x,β<=x->0<evQ rs x) (fm:∀ x,x<=-β->0<evQ rs x*s) {lo hi:Option Rat} (lt:∀ x y,lo=some x->hi=some y->x<y) :
  (¬ clL β lo<clR β hi->Cnt ns (sq ns) lo hi 0)/\(clL β lo<clR β hi->Cnt ns (sq ns) lo hi (Nf (evQ rs) (clL β lo) (clR β hi)+atE ns hi)):=by
 have Rq:=Q5 R
 obtain ⟨A,A0,hA⟩:=JH lo
 obtain ⟨B,B0,hB⟩:=JH hi
 have key:∀ r r',β+1+A+B<=r->β+1+A+B<=r'->Nf (evQ (sq ns)) (lo.getD (-r)) (hi.getD r')=if clL β lo<clR β hi then Nf (evQ rs) (clL β lo) (clR β hi) else 0:=λr r' hr hr'=>by
  rw [R.same Rq]
  have pq:lo.getD (-r)<hi.getD r':=by
   cases lo with
   | none=>
     cases hi with
     | none=>show -r<r';ext
     | some y=>have:=hB y rfl;show -r<y;ext
   | some x=>
     cases hi with
     | none=>have:=hA x rfl;show x<r';ext
     | some y=>exact lt x y rfl rfl
  rw [Yt R.sf b0 fp fm pq]
  have e1:(if lo.getD (-r) < -β then -β else lo.getD (-r))=clL β lo:=by
   cases lo with
   | none=>show (if -r < -β then -β else -r) = -β;rw [Zu ()]
   | some x=>rfl
  have e2:(if β<hi.getD r' then β else hi.getD r')=clR β hi:=by
   cases hi with
   | none=>show (if β<r' then β else r')=β;rw [Zu ()]
   | some x=>rfl
  rw [e1,e2]
 constructor
 ·intro c
  refine ⟨β+1+A+B,λr r' hr hr'=>?_⟩
  rw [key r r' hr hr',Zt c]
  cases hi with
  | none=>rfl
  | some y=>
    have nz:evQ ns y≠0:=λz=>by
     have z:=(R.zero y).mp z
     have n1:¬ β<=y:=λh=>by have:=fp y h;rw [z] at this;ext
     have n2:¬ y<=-β:=λh=>by have:=fm y h;rw [z] at this;ext
     refine c ?_
     have e2:clR β (some y)=y:=Zt ()
     rw [e2]
     cases lo with
     | none=>show -β<y;ext
     | some x=>
       have:=lt x y rfl rfl
       show (if x < -β then -β else x)<y
       split <;> ext
    show 0=0+if evQ ns y=0 then 1 else 0
    rw [Zt nz]
 ·intro c
  refine ⟨β+1+A+B,λr r' hr hr'=>?_⟩
  rw [key r r' hr hr',Zu c]
theorem Yv {rs:List Int} {e:Int} (lz:Lz rs) (pos:0<lst' rs) (h:∀ i,i+1<rs.length->2 ^ (rs.length - 1 - i)*(co rs i).natAbs*2 ^ ((rs.length - 1 - i)*(-e).toNat)<=(lst' rs).natAbs*2 ^ ((rs.length - 1 - i)*e.toNat)) {β:Rat} (hβ:β*((2 ^ (-e).toNat:Nat):Rat)=((2 ^ e.toNat:Nat):Rat)) :
  0<β/\(∀ x,β<=x->0<evQ rs x)/\∃ s:Rat,∀ x,x<=-β->0<evQ rs x*s:=by
 have ne:rs≠[]:=De.mp lz.1
 have p1:(0:Rat)<((2 ^ (-e).toNat:Nat):Rat):=by exact_mod_cast Bf ∅
 have p2:(0:Rat)<((2 ^ e.toNat:Nat):Rat):=by exact_mod_cast Bf ∅
 have b0:0<β:=CV.mp λz=>by
  have:=Aa (show 0<=-β by ext) (show 0<=((2 ^ (-e).toNat:Nat):Rat) by ext)
  ext
 have l0:(0:Rat)<((lst' rs:Int):Rat):=by exact_mod_cast pos
 have ln:(((lst' rs).natAbs:Nat):Rat)=((lst' rs:Int):Rat):=by
  have:(((lst' rs).natAbs:Nat):Int)=lst' rs:=by omega
  exact_mod_cast this
 have cb:∀ i,i+1<rs.length->((co rs i:Int):Rat)<=((lst' rs:Int):Rat)*(β / 2) ^ (rs.length - 1 - i)/\-((co rs i:Int):Rat)<=((lst' rs:Int):Rat)*(β / 2) ^ (rs.length - 1 - i):=λi hi=>by
  have hh:=h i hi
  generalize rs.length - 1 - i=k at hh ⊢
  have q:(β / 2) ^ k*(((2 ^ k*2 ^ (k*(-e).toNat):Nat)):Rat)=((2 ^ (k*e.toNat):Nat):Rat):=by
   have e1:((2 ^ k*2 ^ (k*(-e).toNat):Nat):Rat)=(2*((2 ^ (-e).toNat:Nat):Rat)) ^ k:=by
    rw [Co k,Nat.pow_mul,<-Nat.mul_pow]
    push_cast
    rfl
   have e2:((2 ^ (k*e.toNat):Nat):Rat)=(((2 ^ e.toNat:Nat):Rat)) ^ k:=by
    rw [Co k,Nat.pow_mul]
    push_cast
    rfl
   rw [e1,e2,<-JE,<-hβ]
   congr 1
   ext
  have hh:(((co rs i).natAbs:Nat):Rat)*((2 ^ k*2 ^ (k*(-e).toNat):Nat):Rat)<=((lst' rs:Int):Rat)*((2 ^ (k*e.toNat):Nat):Rat):=by
   rw [<-ln]
   have:(co rs i).natAbs*(2 ^ k*2 ^ (k*(-e).toNat))<=(lst' rs).natAbs*2 ^ (k*e.toNat):=by
    rw [show (co rs i).natAbs*(2 ^ k*2 ^ (k*(-e).toNat))=2 ^ k*(co rs i).natAbs*2 ^ (k*(-e).toNat) by rw [Co (2 ^ k) (co rs i).natAbs,Nat.mul_assoc]]
    exact hh
   exact_mod_cast this
  have w0:(0:Rat)<((2 ^ k*2 ^ (k*(-e).toNat):Nat):Rat):=by exact_mod_cast Nat.mul_pos (Bf ∅) (Bf ∅)
  rw [<-q] at hh
  generalize ((2 ^ k*2 ^ (k*(-e).toNat):Nat):Rat)=w at *
  generalize (β / 2) ^ k=g at *
  have le:(((co rs i).natAbs:Nat):Rat)<=((lst' rs:Int):Rat)*g:=C9.mp λz=>by
   have:=As (show 0<(((co rs i).natAbs:Nat):Rat) - ((lst' rs:Int):Rat)*g by ext) w0
   ext
  obtain ⟨a1,a2⟩:=iabs (co rs i)
  exact ⟨Rat.le_trans a1 le,Rat.le_trans a2 le⟩
 have yp:∀ (y:Rat) (n:Nat),0<y->0<y ^ n:=λy n y0=>by
  induction n with
  | zero=>rw [A7];ext
  | succ n ih=>rw [Ap];exact As ih y0
 refine ⟨b0,λx hx=>?_,(-1) ^ (rs.length - 1),λx hx=>?_⟩
 ·have f:=LI (γ:=β / 2) (y:=x / 2) (s:=1) l0 () () (.inl rfl) rs ne rfl cb
  have o:∀ n:Nat,(1:Rat) ^ n=1:=λn=>by
   induction n with
   | zero=>rw [A7]
   | succ n ih=>rw [Ap,ih];ext
  rw [o,show (1:Rat)*(2*(x / 2))=x by grind] at f
  have:=As l0 (yp (x / 2) (rs.length - 1) ())
  ext
 ·have f:=LI (γ:=β / 2) (y:=-x / 2) (s:=-1) l0 () () (.inr rfl) rs ne rfl cb
  rw [show (-1:Rat)*(2*(-x / 2))=x by grind] at f
  have:=As l0 (yp (-x / 2) (rs.length - 1) ())
  ext
theorem EO {a b:Nu} (a0:0<a.2) (b0:0<b.2):val a<val b↔a.1*b.2<b.1*a.2:=by
 have h1:(0:Rat)<(a.2:Rat):=by exact_mod_cast a0
 have h2:(0:Rat)<(b.2:Rat):=by exact_mod_cast b0
 have q1:val a*(a.2:Rat)=a.1:=DB ()
 have q2:val b*(b.2:Rat)=b.1:=DB ()
 have p:=As h1 h2
 have e1:((a.1*b.2:Int):Rat)=val a*((a.2:Rat)*(b.2:Rat)):=by rw [BL,<-q1];ext
 have e2:((b.1*a.2:Int):Rat)=val b*((a.2:Rat)*(b.2:Rat)):=by rw [BL,<-q2];ext
 constructor
 ·intro h
  have:((a.1*b.2:Int):Rat)<((b.1*a.2:Int):Rat):=by
   rw [e1,e2]
   have:=As (show 0<val b - val a by ext) p
   ext
  exact_mod_cast this
 ·intro h
  have h:((a.1*b.2:Int):Rat)<((b.1*a.2:Int):Rat):=by exact_mod_cast h
  rw [e1,e2] at h
  refine CV.mp λz=>?_
  have:=Aa (show 0<=val a - val b by ext) (show 0<=(a.2:Rat)*(b.2:Rat) by ext)
  ext
theorem Yw {l:List Nu} (hl:DN l) (x:Rat):evN l x=evQ (BZ l) x / ((Bh l:Int):Rat):=by
 unfold evN
 have e:pwo l=λi=>toQ (co (BZ l)) i / ((Bh l:Int):Rat):=funext λi=>M8 hl (FA hl) i
 rw [e,Kb,LJ]
 congr 2
 refine EW λi=>?_
 rw [Af]
 rcases BG i l.length with q | q
 ·have q':i<(BZ l).length:=by rw [Iz];exact q
  rw [DS q,Am q']
  show some ((BZ l).getD i 0)=_
  rw [AU,Am q'];rfl
 ·rw [Bv (by rw [Bm];exact q),Bv (by rw [Iz];exact q)];rfl
theorem LP {l:List Int} {z:Int} (h:z∈l):∃ k,co l k=z:=by
 obtain ⟨i,hi,rfl⟩:=FJ h
 exact ⟨i,by unfold co;rw [AU,Am hi];rfl⟩
theorem EndV.kp {H H':Hp} {v:V} {o:Option Nu} (h:EndV H v o) (s:Same H H'):EndV H' v o:=by
 cases o with
 | none=>exact h
 | some q=>obtain ⟨a,e,n,r⟩:=h;exact ⟨a,e,s _ _ n,r⟩
structure Cl (H:Hp) (v:V) (x:Rat) (a:Nu):Prop where
 ref:∃ p,v=.ref p/\Nm H p a.1 a.2
 pos:0<a.2
 b1:Bd 210 a.1
 b2:Bd 210 a.2
 val:val a=x
theorem Yx (h:HI K vs H Q E):Wh K { nx:=λ_ H'=>Q .non H',rt:=Q } (L2.start ["P","low","high","row","exponent","bound","below","start","end","many"] vs) H:=by
 obtain ⟨p,ns,lo,hi,v,w,rfl,⟨xs,l,κ,hp,hN,G,l1,l9,k0,eκ⟩,hv,hw,lt,k⟩:=h
 obtain ⟨bZ,bB,b1⟩:=G.clr
 have cl:=Iz l
 have lzN:=GW (Xu G.low G.nz) λz=>by have:=congrArg List.length z;rw [cl] at this;have:l.length=0:=this;omega
 refine BE (G1 (CL (G1 ⟨_,rfl,p,xs,l,Bh l,rfl,hp,hN,G.low,FA G.low,bB.mono ∅,λq hq=>(b1 q hq).mono ∅,⋯,λr0 a0 H1 s1 hr0 ha0=>⟨_,_,_,_,rfl,rfl,hr0,rfl,a0,BZ l,rfl,ha0,lzN,bZ,⋯,λr rs H2 s2 hr lz l9' b148 rad pos=>?_⟩⟩)))
 have R:Rad ns rs:=Rad.unscl k0 eκ ⟨LC lzN,rad⟩
 refine Gz ⟨_,rfl,r,rs,rfl,hr,lz,l9',b148,pos,λe H3 s3 e1 e2 he=>?_⟩
 show O8 K _ [some (.ref p),some v,some w,some (.ref r),some (.int e),none,none,none,none,none] H3
 have o1:blN (1:Int)=1:=by decide
 have m1:(if (0:Int) > e then 0 else e)=((e.toNat:Nat):Int):=by split <;> omega
 have m2:(if (0:Int) > -e then 0 else -e)=(((-e).toNat:Nat):Int):=by split <;> omega
 refine BE (GI ⟨_,rfl,e,0,rfl,1,_,rfl,rfl,⟨by rw [m1];omega,by rw [m1,o1];omega⟩,_,rfl,_,rfl,-e,0,rfl,1,_,rfl,rfl,⟨by rw [m2];omega,by rw [m2,o1];omega⟩,Cw,λt ht=>?_⟩)
 rw [m1,m2]
 show Kl K _ [some (.ref p),some v,some w,some (.ref r),some (.int e),some (.ref t),none,none,none,none] (upd H3 t (.tup [.int (1*2 ^ ((e.toNat:Nat):Int).toNat),.int (1*2 ^ (((-e).toNat:Nat):Int).toNat)]))
 rw [Dc,Dc]
 have A0:(0:Int)<1*2 ^ e.toNat:=by rw [Int.one_mul];exact Int.pow_pos ∅
 have B0:(0:Int)<1*2 ^ (-e).toNat:=by rw [Int.one_mul];exact Int.pow_pos ∅
 have bA:Bd 201 (1*2 ^ e.toNat):=by
  rw [Int.one_mul]
  have:Bd (1*e.toNat+1) ((2:Int) ^ e.toNat):=by
   unfold Bd
   rw [Int.natAbs_pow]
   exact Nat.pow_lt_pow_right ∅ ⋯
  exact this.mono ⋯
 have bB2:Bd 201 (1*2 ^ (-e).toNat):=by
  rw [Int.one_mul]
  have:Bd (1*(-e).toNat+1) ((2:Int) ^ (-e).toNat):=by
   unfold Bd
   rw [Int.natAbs_pow]
   exact Nat.pow_lt_pow_right ∅ ⋯
  exact this.mono ⋯
 have eβ:val ((1*2 ^ e.toNat:Int),(1*2 ^ (-e).toNat:Int))*((2 ^ (-e).toNat:Nat):Rat)=((2 ^ e.toNat:Nat):Rat):=by
  have q:=DB (a:=((1*2 ^ e.toNat:Int):Rat)) (Ba (Ah B0))
  have c1:(((2:Nat) ^ (-e).toNat:Nat):Rat)=((1*2 ^ (-e).toNat:Int):Rat):=by rw [Int.one_mul];push_cast;rfl
  have c2:(((2:Nat) ^ e.toNat:Nat):Rat)=((1*2 ^ e.toNat:Int):Rat):=by rw [Int.one_mul];push_cast;rfl
  rw [c1,c2];exact q
 have A200:((2 ^ e.toNat:Nat):Rat)<=((2 ^ 200:Nat):Rat):=by exact_mod_cast Cp ∅ (show e.toNat<=200 by omega)
 have B1r:(1:Rat)<=((2 ^ (-e).toNat:Nat):Rat):=by
  have:1<=2 ^ (-e).toNat:=Bf ∅
  exact_mod_cast this
 obtain ⟨b0,fp,s,fm⟩:=Yv lz pos he eβ
 have vneg:val (-(1*2 ^ e.toNat:Int),(1*2 ^ (-e).toNat:Int)) = -val ((1*2 ^ e.toNat:Int),(1*2 ^ (-e).toNat:Int)):=by
  show ((-(1*2 ^ e.toNat):Int):Rat) / _ = -(((1*2 ^ e.toNat:Int):Rat) / _)
  rw [DA,Rat.div_def,Rat.div_def];ext
 generalize (1*2 ^ e.toNat:Int)=A at *
 generalize (1*2 ^ (-e).toNat:Int)=B at *
 have b200:val (A,B)<=((2 ^ 200:Nat):Rat):=by
  have:=AQ B1r (show 0<=val (A,B) by ext)
  ext
 generalize hβ:val (A,B)=β at *
 have s4:=AR ht (.tup [.int A,.int B])
 have hb:upd H3 t (.tup [.int A,.int B]) t=some (.tup [.int A,.int B]):=upd_same
 generalize upd H3 t (.tup [.int A,.int B])=H4 at s4 hb ⊢
 show Kl K _ [some (.ref p),some v,some w,some (.ref r),some (.int e),some (.ref t),none,none,none,none] H4
 refine BE (GI ⟨_,rfl,_,_,_,_,rfl,rfl,hb,rfl,_,rfl,_,rfl,_,_,_,_,rfl,rfl,hb,rfl,Cw,λt2 ht2=>?_⟩)
 have s5:=AR ht2 (.tup [.int (-A),.int B])
 have hb2:upd H4 t2 (.tup [.int (-A),.int B]) t2=some (.tup [.int (-A),.int B]):=upd_same
 show O7 K _ [some (.ref p),some v,some w,some (.ref r),some (.int e),some (.ref t),some (.ref t2),none,none,none] (upd H4 t2 (.tup [.int (-A),.int B]))
 generalize upd H4 t2 (.tup [.int (-A),.int B])=H5 at s5 hb2 ⊢
 have hb:=s5 _ _ hb
 have s05:=s1.trans (s2.trans (s3.trans (s4.trans s5)))
 have hv5:=hv.kp s05
 have hw5:=hw.kp s05
 have fin:∀ (x y:V) (a b:Nu),Cl H5 x (clL β (lo.map val)) a->Cl H5 y (clR β (hi.map val)) b->O5 K { nx:=λ_ H'=>Q V.non H',rt:=Q } [some (.ref p),some v,some w,some (.ref r),some (.int e),some (.ref t),some (.ref t2),some x,some y,none] H5:=λx y a b ca cb=>by
  obtain ⟨⟨xa,rfl,hxa⟩,ap,ab1,ab2,va⟩:=ca
  obtain ⟨⟨yb,rfl,hyb⟩,bp,bb1,bb2,vb⟩:=cb
  have lt':∀ x y,lo.map val=some x->hi.map val=some y->x<y:=λx y h1 h2=>by
   cases lo with
   | none=>cases h1
   | some a=>
     cases hi with
     | none=>cases h2
     | some b=>
       cases h1;cases h2
       exact lt a b rfl rfl
  obtain ⟨c0,c1⟩:=Yu R b0 fp fm lt'
  rw [<-va,<-vb] at c0 c1
  have Rq:=Q5 R
  refine B9 ?_
  refine By ⟨_,rfl,_,rfl,xa,yb,a.1,a.2,b.1,b.2,rfl,hxa,hyb,ab1.mono ∅,ab2.mono ∅,bb1.mono ∅,bb2.mono ∅,_,rfl,AO (λc=>?_) (λc=>?_)⟩
  ·have c:¬ val a<val b:=λz=>by
    rw [Zv ((EO ap bp).mp z)] at c;cases c
   have:=k 0 H5 s05 Rq (c0 c)
   exact this
  ·have c:val a<val b:=(EO ap bp).mpr (by
    by_cases z:a.1*b.2<b.1*a.2
    ·exact z
    ·exact absurd (by rw [Zx z];rfl) c)
   show O4 K _ _ _
   have hr5:=s5 _ _ (s4 _ _ (s3 _ _ hr))
   refine Gz (NL ⟨_,rfl,_,rfl,_,rfl,r,xa,yb,rs,a,b,rfl,hr5,hxa,hyb,l9',b148,ap,bp,ab1,ab2,bb1,bb2,c,λr6 qs H6 s6 h6 l6 b6 ⟨M,M1,eM⟩=>?_⟩)
   obtain ⟨U,W,d,d0,hU,hW,lU,lW,uv⟩:=bez lz l9' b148 R.qi
   have la:-β<=val a:=by
    rw [va]
    cases lo with
    | none=>show -β<=-β;ext
    | some x=>show -β<=if val x < -β then -β else val x;split <;> ext
   have lb:val b<=β:=by
    rw [vb]
    cases hi with
    | none=>show β<=β;ext
    | some x=>show (if β<val x then β else val x)<=β;split <;> ext
   have D1:1<=(val b - val a)*((2 ^ 420:Nat):Rat):=by
    have h1:(0:Rat)<(a.2:Rat):=by exact_mod_cast ap
    have h2:(0:Rat)<(b.2:Rat):=by exact_mod_cast bp
    have q1:val a*(a.2:Rat)=a.1:=DB ()
    have q2:val b*(b.2:Rat)=b.1:=DB ()
    have z:=(EO ap bp).mp c
    have z1:(1:Int)<=b.1*a.2 - a.1*b.2:=by omega
    have z2:(1:Rat)<=((b.1*a.2 - a.1*b.2:Int):Rat):=by exact_mod_cast z1
    have z3:((b.1*a.2 - a.1*b.2:Int):Rat)=(val b - val a)*((a.2*b.2:Int):Rat):=by
     rw [Rat.intCast_sub,BL,BL,BL,<-q1,<-q2];ext
    have z4:((a.2*b.2:Int):Rat)<=((2 ^ 420:Nat):Rat):=by
     have bm:Bd 420 (a.2*b.2):=ab2.mul bb2
     have:(a.2*b.2).natAbs<2 ^ 420:=bm
     have h3:a.2*b.2<=((2 ^ 420:Nat):Int):=by omega
     exact_mod_cast h3
    have z5:=AQ z4 (show 0<=val b - val a by ext)
    ext
   have mU:∀ z∈U,z.natAbs<=2 ^ 2400:=λz hz=>by obtain ⟨i,rfl⟩:=LP hz;exact C1 (hU i)
   have mW:∀ z∈W,z.natAbs<=2 ^ 2400:=λz hz=>by obtain ⟨i,rfl⟩:=LP hz;exact C1 (hW i)
   obtain ⟨U',W',sk⟩:=YX (Δ:=val b - val a) d0 mU mW lU lW uv () () () () () D1 M1 ⋯ b6 eM
   have nf:Nf (evQ qs) 0 1=Nf (evQ rs) (val a) (val b):=by
    rw [show evQ qs=λt=>M*evQ rs (val a+(val b - val a)*t) from funext eM,Nf.aff () (),show val a+(val b - val a)*0=val a by ext,show val a+(val b - val a)*1=val b by grind]
   refine ⟨r6,qs,U',W',_,100000,rfl,h6,⋯,b6,⋯,sk,λH7 s7=>?_⟩
   rw [nf]
   have done:=c1 c
   generalize Nf (evQ rs) (val a) (val b)=N at *
   have s67:=s6.trans s7
   have s07:=s05.trans s67
   show O3 K _ [some (.ref p),some v,some w,some (.ref r),some (.int e),some (.ref t),some (.ref t2),some (.ref xa),some (.ref yb),some (.int (N:Int))] H7
   cases hi with
   | none=>
     have hw:w=.non:=hw
     subst hw
     refine B9 ⟨_,rfl,rfl,_,rfl,AO (λc=>nomatch c) (λ_=>AO (λc=>nomatch c) (λ_=>?_))⟩
     exact ⟨_,rfl,k N H7 s07 Rq done⟩
   | some q=>
     obtain ⟨qa,rfl,hq,lq,bq1,bq2⟩:=hw.kp s07
     refine B9 ⟨_,rfl,rfl,_,rfl,AO (λ_=>?_) (λc=>absurd rfl c)⟩
     refine Bz (CL (By ⟨_,rfl,_,rfl,p,qa,xs,l,q.1,q.2,40,rfl,s07 _ _ hp,hq,hN.tp (tpS s07),G,∅,lq,bq1.mono ∅,bq2.mono ∅,⋯,λr8 H8 z s8 hz lowz _ _ ez=>?_⟩))
     refine ⟨Cw,λt9 ht9=>?_⟩
     have s9:=AR ht9 (.tup [.int 0,.int 1])
     obtain ⟨pz,ez1,hpz⟩:=hz
     have zz:z=(0,1)↔evQ ns (val q)=0:=by
      have cl2:evQ (BZ l) (val q)=κ*evQ ns (val q):=Q4 eκ _
      have B0':((Bh l:Int):Rat)≠0:=Ba (Ah (FA G.low).1)
      have ez:val z=evQ (BZ l) (val q) / ((Bh l:Int):Rat):=ez.trans (Yw G.low _)
      constructor
      ·intro h
       have v0:val z=0:=by rw [h];show ((0:Int):Rat) / _=0;rw [show ((0:Int):Rat)=0 from rfl,zdiv]
       rw [v0,cl2] at ez
       have:κ*evQ ns (val q) / ((Bh l:Int):Rat)*((Bh l:Int):Rat)=κ*evQ ns (val q):=DB B0'
       rw [<-ez] at this
       have:κ*evQ ns (val q)=0:=by rw [<-this];ext
       exact (CB.mp this).resolve_left k0
      ·intro h
       rw [cl2,h] at ez
       have v0:val z=val (0,1):=by
        rw [ez]
        show κ*0 / _=((0:Int):Rat) / _
        rw [show κ*0=(0:Rat) by ext,show ((0:Int):Rat)=0 from rfl,zdiv,zdiv]
       exact IA lowz M3 v0
     have rz:RepD (upd H8 t9 (.tup [.int 0,.int 1])) (.ref r8) (Cv z):=Fb ⟨pz,ez1,s9 _ _ hpz⟩
     have r0':RepD (upd H8 t9 (.tup [.int 0,.int 1])) (.ref t9) (Cv (0,1)):=Fb ⟨t9,rfl,upd_same⟩
     refine ⟨_,_,decide (z=(0,1)),rz,r0',okN _ _,okN _ _,?_,_,rfl,AO (λc=>?_) (λc=>?_)⟩
     ·constructor
      ·intro h;rw [Zw h]
      ·intro h
       refine Zv ?_
       have h:PySem.W.Dat.tuple [.int z.1,.int z.2]=.tuple [.int 0,.int 1]:=h
       injection h with h
       injection h with h1 h2
       injection h1 with h1
       injection h2 with h2
       injection h2 with h2
       exact Prod.ext h1 h2
     ·have c:=zz.mp (Zw c)
      refine ⟨_,rfl,_,_,rfl,rfl,_,rfl,?_⟩
      have:=k (N+1) _ (s07.trans (s8.trans s9)) Rq (by
       have e:atE ns (Option.map val (some q))=1:=Zu c
       rw [e] at done;exact done)
      exact this
     ·have c:¬ evQ ns (val q)=0:=λz=>c (Zv (zz.mpr z))
      exact ⟨_,rfl,k N _ (s07.trans (s8.trans s9)) Rq (by
       have e:atE ns (Option.map val (some q))=0:=Zt c
       rw [e] at done;exact done)⟩
 have up:∀ (x:V) (a:Nu),Cl H5 x (clL β (lo.map val)) a->O6 K { nx:=λ_ H'=>Q V.non H',rt:=Q } [some (.ref p),some v,some w,some (.ref r),some (.int e),some (.ref t),some (.ref t2),some x,none,none] H5:=λx a ca=>by
  have cb:Cl H5 (.ref t) β (A,B):=⟨⟨t,rfl,hb⟩,B0,bA.mono ∅,bB2.mono ∅,hβ⟩
  cases hi with
  | none=>
    have hw:w=.non:=hw
    subst hw
    refine BE ⟨_,rfl,rfl,_,rfl,AO (λ_=>AO (λ_=>?_) (λc=>absurd rfl c)) (λc=>absurd rfl c)⟩
    exact ⟨_,rfl,fin x _ a _ ca cb⟩
  | some q=>
    obtain ⟨qa,rfl,hq,lq,bq1,bq2⟩:=hw5
    have lq0:=lq.pos
    refine BE ⟨_,rfl,rfl,_,rfl,AO (λc=>nomatch c) (λ_=>?_)⟩
    refine By ⟨_,rfl,_,rfl,t,qa,A,B,q.1,q.2,rfl,hb,hq,bA.mono ∅,bB2.mono ∅,bq1.mono ∅,bq2.mono ∅,_,rfl,AO (λc=>?_) (λc=>?_)⟩
    ·have c:β<val q:=by rw [<-hβ];exact (EO (a:=(A,B)) (b:=q) B0 lq0).mpr (Zw c)
     refine ⟨_,rfl,fin x _ a (A,B) ca ?_⟩
     have:clR β (Option.map val (some q))=β:=Zu c
     rw [this];exact cb
    ·have c:¬ β<val q:=λz=>by rw [<-hβ] at z;exact c (Zv ((EO (a:=(A,B)) (b:=q) B0 lq0).mp z))
     refine ⟨_,rfl,fin x _ a q ca ?_⟩
     have:clR β (Option.map val (some q))=val q:=Zt c
     rw [this]
     exact ⟨⟨qa,rfl,hq⟩,lq0,bq1.mono ∅,bq2.mono ∅,rfl⟩
 have ca:Cl H5 (.ref t2) (-β) (-A,B):=⟨⟨t2,rfl,hb2⟩,B0,bA.neg.mono ∅,bB2.mono ∅,vneg⟩
 cases lo with
 | none=>
   have hv:v=.non:=hv
   subst hv
   refine BE ⟨_,rfl,rfl,_,rfl,AO (λ_=>AO (λ_=>?_) (λc=>absurd rfl c)) (λc=>absurd rfl c)⟩
   exact ⟨_,rfl,up _ _ ca⟩
 | some q=>
   obtain ⟨qa,rfl,hq,lq,bq1,bq2⟩:=hv5
   have lq0:=lq.pos
   refine BE ⟨_,rfl,rfl,_,rfl,AO (λc=>nomatch c) (λ_=>?_)⟩
   refine By ⟨_,rfl,_,rfl,qa,t2,q.1,q.2,-A,B,rfl,hq,hb2,bq1.mono ∅,bq2.mono ∅,bA.neg.mono ∅,bB2.mono ∅,_,rfl,AO (λc=>?_) (λc=>?_)⟩
   ·have c:val q < -β:=by rw [<-vneg];exact (EO (a:=q) (b:=(-A,B)) lq0 B0).mpr (Zw c)
    refine ⟨_,rfl,up _ (-A,B) ?_⟩
    have:clL β (Option.map val (some q)) = -β:=Zu c
    rw [this];exact ca
   ·have c:¬ val q < -β:=λz=>by rw [<-vneg] at z;exact c (Zv ((EO (a:=q) (b:=(-A,B)) lq0 B0).mp z))
    refine ⟨_,rfl,up _ q ?_⟩
    have:clL β (Option.map val (some q))=val q:=Zt c
    rw [this]
    exact ⟨⟨qa,rfl,hq⟩,lq0,bq1.mono ∅,bq2.mono ∅,rfl⟩
theorem LQ (a b:Rat):∃ m,a<=m/\b<=m:=by
 rcases (A4:a<=b\/b<=a) with z | z
 ·exact ⟨b,z,()⟩
 ·exact ⟨a,(),z⟩
structure Pc (σ:Rat->Rat):Prop where
 mono:∀ x y,x<y->0<=σ x->0<σ y
 opL:∀ x,σ x<0->∃ y,x<y/\σ y<0
 opR:∀ x,0<σ x->∃ y,y<x/\0<σ y
 far:∃ R,∀ x,R<=x->0<σ x/\σ (-x)<0
theorem Pc.neg {σ:Rat->Rat} (h:Pc σ) {x y:Rat} (xy:x<y) (hy:σ y<=0):σ x<0:=CV.mp λz=>by have:=h.mono x y xy z;ext
theorem Pc.lt {σ:Rat->Rat} (h:Pc σ) {x y:Rat} (hx:σ x<0) (hy:0<σ y):x<y:=CV.mp λz=>by
 rcases Rat.le_iff_lt_or_eq.mp z with c | c
 ·have:=h.mono y x c ();ext
 ·rw [c] at hy;ext
noncomputable def Sep (p q:List Int):Prop:=∃ x,sgP p x*sgP q x<0
structure Fz (F:List Int) (ps:List (List Int)):Prop where
 pc:∀ p∈ps,Pc (sgP p)
 zero:∀ x,evQ F x=0↔∃ p∈ps,sgP p x=0
 off:∀ x y,x<y->(∀ p∈ps,0<sgP p x*sgP p y)->∃ δ,0<δ/\∀ z,x<=z->z<=y->δ<=evQ F z\/evQ F z<=-δ
 chg:∀ p∈ps,∃ (q:List Int) (g:Rat->Rat) (k:Nat),Pn k g/\(∀ x,evQ F x=evQ q x*g x)/\∀ x y,sgP p x<0->0<sgP p y->(∀ p'∈ps,p'≠p->0<sgP p' x*sgP p' y)->evQ q x*evQ q y<0
theorem Fz.same {F:List Int} {ps us:List (List Int)} (h:Fz F ps) (e:∀ p,p∈us↔p∈ps):Fz F us:=
 ⟨λp hp=>h.pc p ((e p).mp hp),λx=>(h.zero x).trans ⟨λ⟨p,hp,z⟩=>⟨p,(e p).mpr hp,z⟩,λ⟨p,hp,z⟩=>⟨p,(e p).mp hp,z⟩⟩,λx y xy hs=>h.off x y xy λp hp=>hs p ((e p).mpr hp),λp hp=>by
  obtain ⟨q,g,k,pg,eF,hc⟩:=h.chg p ((e p).mp hp)
  exact ⟨q,g,k,pg,eF,λx y h1 h2 h3=>hc x y h1 h2 λp' hp'=>h3 p' ((e p').mpr hp')⟩⟩
theorem Pn.le {n m:Nat} {f:Rat->Rat} (h:Pn n f) (nm:n<=m):Pn m f:=by
 induction nm with
 | refl=>exact h
 | step _ ih=>exact ih.up
theorem Pn.mul:∀ {n m:Nat} {f g:Rat->Rat},Pn n f->Pn m g->Pn (n+m) (λt=>f t*g t)
 | 0,m,f,g,⟨c,h⟩,hg=>by
   rw [show (λt=>f t*g t)=λt=>c*g t from funext λt=>by rw [h]]
   exact (hg.scale c).le ⋯
 | n+1,m,f,g,⟨a,u,h1,h2⟩,hg=>by
   have s1:Pn (n+1+m) (λt=>a*g t):=(hg.scale a).le ⋯
   have s2:Pn (n+m+1) (λt=>t*(u t*g t)):=⟨0,_,h1.mul hg,λt=>by ext⟩
   have s2:Pn (n+1+m) (λt=>t*(u t*g t)):=s2.le ⋯
   exact (s1.add s2).congr λt=>by rw [h2];ext
theorem Fz.mul {F G M:List Int} {ps qs:List (List Int)} (h:Fz F ps) (h':Fz G qs) (e:si M=si F*si G):Fz M (ps++qs):=by
 have ev:=Yq e
 refine ⟨λp hp=>(CZ.mp hp).elim (h.pc p) (h'.pc p),λx=>?_,λx y xy hs=>?_,λp hp=>?_⟩
 ·rw [ev x]
  constructor
  ·intro z
   rcases CB.mp z with z | z
   ·obtain ⟨p,hp,e⟩:=(h.zero x).mp z;exact ⟨p,ES _ hp,e⟩
   ·obtain ⟨p,hp,e⟩:=(h'.zero x).mp z;exact ⟨p,Cb _ hp,e⟩
  ·rintro ⟨p,hp,z⟩
   rcases CZ.mp hp with c | c
   ·rw [(h.zero x).mpr ⟨p,c,z⟩];ext
   ·rw [(h'.zero x).mpr ⟨p,c,z⟩];ext
 ·obtain ⟨δ,d0,hd⟩:=h.off x y xy λp hp=>hs p (ES _ hp)
  obtain ⟨ε,e0,he⟩:=h'.off x y xy λp hp=>hs p (Cb _ hp)
  refine ⟨δ*ε,As d0 e0,λz z1 z2=>?_⟩
  rw [ev z]
  have key:∀ a b:Rat,δ<=a->ε<=b->δ*ε<=a*b:=λa b ha hb=>by
   have:=AQ hb (show 0<=δ by ext)
   have:=Ax ha (show 0<=b by ext)
   ext
  rcases hd z z1 z2 with a | a <;> rcases he z z1 z2 with b | b
  ·exact .inl (key _ _ a b)
  ·have:=key _ _ a (show ε<=-evQ G z by ext);exact .inr ()
  ·have:=key _ _ (show δ<=-evQ F z by ext) b;exact .inr ()
  ·have:=key _ _ (show δ<=-evQ F z by ext) (show ε<=-evQ G z by ext);exact .inl ()
 ·rcases CZ.mp hp with c | c
  ·obtain ⟨q,g,k,pg,eF,hc⟩:=h.chg p c
   exact ⟨q,_,_,pg.mul (evQ_pn' G),λx=>by rw [ev x,eF x];ext,λx y h1 h2 h3=>hc x y h1 h2 λp' hp'=>h3 p' (ES _ hp')⟩
  ·obtain ⟨q,g,k,pg,eF,hc⟩:=h'.chg p c
   exact ⟨q,_,_,(evQ_pn' F).mul pg,λx=>by rw [ev x,eF x];ext,λx y h1 h2 h3=>hc x y h1 h2 λp' hp'=>h3 p' (Cb _ hp')⟩
theorem Rad.div {F S:List Int} (h:Rad F S):∃ (g:Rat->Rat) (k:Nat),Pn k g/\∀ x,evQ F x=g x*evQ S x:=by
 obtain ⟨f0,c,L,c0,⟨T,M,⟨t,rfl⟩,⟨l,rfl⟩,pM,e1,e2,cs⟩,e3⟩:=h
 refine ⟨λx=>c⁻¹*Sr.ev t x,t.length,(LN t).scale _,λx=>?_⟩
 have er:Sr.L (qR S)=Sr.L (l.map (c*·)):=by rw [CH,Sr.L_scal];exact e3
 have en:Sr.L (qR F)=Sr.L (Au t l):=by rw [CH,Sr.L_mulRow];exact e1
 rw [CA,CA,Sr.ev_congr en,Sr.ev_mul,Sr.ev_congr er,Sr.ev_scal]
 have i:c*c⁻¹=1:=CJ _ c0
 rw [show c⁻¹*Sr.ev t x*(c*Sr.ev l x)=c*c⁻¹*(Sr.ev t x*Sr.ev l x) by ext,i];ext
theorem Fz.alt {F S:List Int} {ps:List (List Int)} (h:Fz F ps) (r:Rad F S) {x y:Rat} (xy:x<y) (n:evQ S x*evQ S y<0):∃ p∈ps,sgP p x<0/\0<sgP p y:=by
 refine Classical.byContradiction λno=>?_
 have nz:∀ u,evQ S u≠0->∀ p∈ps,sgP p u≠0:=λu hu p hp z=>hu ((r.zero u).mp ((h.zero u).mpr ⟨p,hp,z⟩))
 have nx:evQ S x≠0:=λz=>by rw [z] at n;ext
 have ny:evQ S y≠0:=λz=>by rw [z] at n;ext
 obtain ⟨δ,d0,hd⟩:=h.off x y xy λp hp=>by
  have a:=nz x nx p hp
  have b:=nz y ny p hp
  rw [mul_pos_iff']
  rcases rtri (sgP p x) 0 with c | c | c
  ·rcases rtri (sgP p y) 0 with d | d | d
   ·exact .inr ⟨c,d⟩
   ·exact absurd d b
   ·exact absurd ⟨p,hp,c,d⟩ no
  ·exact absurd c a
  ·exact .inl ⟨c,(h.pc p hp).mono x y xy ()⟩
 obtain ⟨g,k,pg,eF⟩:=r.div
 obtain ⟨A,A0,A1,A2⟩:=rbd x
 obtain ⟨B,B0,B1,B2⟩:=rbd y
 obtain ⟨C,C0,hC⟩:=pg.bound (A+B) ()
 obtain ⟨η,e0,e1,e2⟩:=Ds (p:=δ) (q:=C) d0 C0
 obtain ⟨z,z1,z2,z3,z4⟩:=(evQ_pn' S).near xy n e0
 obtain ⟨g1,g2⟩:=hC z (by clear hd hC;ext) (by clear hd hC;ext)
 obtain ⟨p1,p2⟩:=D9 g2 (show -g z<=C by clear hd hC;ext) (Rat.le_of_lt z4) (show -evQ S z<=η by clear hd hC;ext)
 rw [<-eF z] at p1 p2
 have hd:=hd z (Rat.le_of_lt z1) (Rat.le_of_lt z2)
 clear hC
 rcases hd with c | c <;> ext
theorem Rad.change2 {F S q:List Int} {g:Rat->Rat} {k':Nat} (h:Rad F S) (pg:Pn k' g) (eF:∀ x,evQ F x=evQ q x*g x) {a b:Rat} (ab:a<b) (n:evQ q a*evQ q b<0) (ga:evQ S a≠0) (gb:evQ S b≠0):Nf (evQ S) a b≠0:=by
 obtain ⟨K,k,e,pK,hK⟩:=h.pow
 obtain ⟨U,V,d,d0,uv⟩:=Q7 h.qi
 obtain ⟨A,A0,A1,A2⟩:=rbd a
 obtain ⟨B,B0,B1,B2⟩:=rbd b
 obtain ⟨C,C0,hC⟩:=LO (A+B) () U
 obtain ⟨D,D0,hD⟩:=LO (A+B) () V
 obtain ⟨E,E0,E1,E2⟩:=rbd ((d:Rat)⁻¹)
 have di:(d:Rat)*(d:Rat)⁻¹=1:=CJ _ (Ba d0)
 have CE:=Aa C0 E0
 have DE:=Aa D0 E0
 refine WJ (U:=λx=>evQ U x*(d:Rat)⁻¹) (V:=λx=>evQ V x*(d:Rat)⁻¹) (H:=1+C*E+D*E) h.sf (evQ_pn' q) (pg.mul pK) (show (1:Rat)≠0 by ext) (λx=>by rw [<-hK x,eF x];ext) ab n ga gb () (λx x1 x2=>?_) (λx x1 x2=>?_) λx x1 x2=>?_
 ·obtain ⟨h1,h2⟩:=hC x () ()
  obtain ⟨p1,p2⟩:=D9 h1 h2 E1 E2
  constructor <;> ext
 ·obtain ⟨h1,h2⟩:=hD x () ()
  obtain ⟨p1,p2⟩:=D9 h1 h2 E1 E2
  constructor <;> ext
 ·have:=uv x
  show evQ U x*(d:Rat)⁻¹*evQ S x+evQ V x*(d:Rat)⁻¹*dQ S x=1
  rw [show evQ U x*(d:Rat)⁻¹*evQ S x+evQ V x*(d:Rat)⁻¹*dQ S x=(evQ U x*evQ S x+evQ V x*dQ S x)*(d:Rat)⁻¹ by ext,this,di]
noncomputable def inB (x y:Rat) (p:List Int):Bool:=decide (sgP p x<0) && decide (0<sgP p y)
noncomputable def Eo (x:Rat) (p:List Int):Bool:=decide (0<sgP p x)
noncomputable def zeB (x:Rat) (p:List Int):Bool:=decide (sgP p x=0)
theorem JI {P Q:List Int->Bool}:∀ {ps:List (List Int)} {p:List Int},(∀ p∈ps,P p=true->Q p=true)->p∈ps->P p=false->Q p=true->ps.countP P+1<=ps.countP Q
 | [],p,_,hp,_,_=>nomatch hp
 | u::ps,p,h,hp,h1,h2=>by
   rw [DK,DK]
   have m:ps.countP P<=ps.countP Q:=List.countP_mono_left λx hx=>h x (BN _ hx)
   rcases Bb.mp hp with e | e
   ·subst e
    rw [h1,h2]
    simp only [Dt,if_false,if_true]
    omega
   ·have ih:=JI (λx hx=>h x (BN _ hx)) e h1 h2
    cases c:P u with
    | false=>rw [Zt (show ¬ false=true by decide)];split <;> omega
    | true=>rw [h u (BC ..) c];simp only [if_true];omega
theorem Q8 {P:List Int->Bool} {R:List Int->List Int->Prop} {ps:List (List Int)} (pw:ps.Pairwise R) (h:2<=ps.countP P):∃ p∈ps,∃ q∈ps,P p=true/\P q=true/\R p q:=by
 rw [List.countP_eq_length_filter] at h
 have pf:=pw.filter P
 have mem:∀ x,x∈ps.filter P->x∈ps/\P x=true:=λx hx=>List.mem_filter.mp hx
 cases e:ps.filter P with
 | nil=>rw [e] at h;simp at h
 | cons a l=>
   cases l with
   | nil=>rw [e] at h;simp at h
   | cons b l=>
     rw [e] at mem pf
     have ha:=mem a (BC ..)
     have hb:=mem b (BN _ (BC ..))
     exact ⟨a,ha.1,b,hb.1,ha.2,hb.2,(List.pairwise_cons.mp pf).1 b (BC ..)⟩
theorem Yy {P:List Int->Bool} {ps:List (List Int)} {p q:List Int} (h:ps.countP P<=1) (hp:p∈ps) (hq:q∈ps) (h1:P p=true) (h2:P q=true):q=p:=by
 rw [List.countP_eq_length_filter] at h
 have mp:=List.mem_filter.mpr ⟨hp,h1⟩
 have mq:=List.mem_filter.mpr ⟨hq,h2⟩
 cases e:ps.filter P with
 | nil=>rw [e] at mp;cases mp
 | cons a l=>
   cases l with
   | nil=>rw [e] at mp mq;rw [Az.mp mp,Az.mp mq]
   | cons b l=>rw [e] at h;simp at h
theorem Q9 {ps:List (List Int)} (pc:∀ p∈ps,Pc (sgP p)) (sep:ps.Pairwise Sep) (x:Rat):ps.countP (zeB x)<=1:=DI.mp λh=>by
 obtain ⟨p,hp,q,hq,h1,h2,y,hy⟩:=Q8 sep h
 have h1:sgP p x=0:=Zw h1
 have h2:sgP q x=0:=Zw h2
 rcases rtri x y with c | c | c
 ·have a:=(pc p hp).mono x y c ()
  have b:=(pc q hq).mono x y c ()
  have:=As a b;ext
 ·rw [<-c,h1] at hy;ext
 ·have a:=(pc p hp).neg c ()
  have b:=(pc q hq).neg c ()
  have:=mul_pos_iff'.mpr (.inr ⟨a,b⟩);ext
theorem RA:∀ {ps:List (List Int)} {a x b:Rat},(∀ p∈ps,Pc (sgP p))->a<x->x<b->ps.countP (inB a b)=ps.countP (inB a x)+ps.countP (inB x b)+ps.countP (zeB x)
 | [],_,_,_,_,_,_=>rfl
 | p::ps,a,x,b,pc,ax,xb=>by
   have h:=pc p (BC ..)
   rw [DK,DK,DK,DK,RA (λq hq=>pc q (BN _ hq)) ax xb]
   unfold inB zeB
   rcases rtri (sgP p x) 0 with c | c | c
   ·have ha:=h.neg ax ()
    rw [Zv ha,Zx (show ¬ 0<sgP p x by ext),Zv c,Zx (show ¬ sgP p x=0 by ext)]
    simp only [Bool.true_and,Bool.and_false,Dt,if_false]
    omega
   ·have ha:=h.neg ax ()
    have hb:=h.mono x b xb ()
    rw [Zv ha,Zv hb,Zx (show ¬ 0<sgP p x by ext),Zx (show ¬ sgP p x<0 by ext),Zv c]
    simp only [Bool.true_and,Bool.and_false,Bool.false_and,Dt,if_false,if_true]
    omega
   ·have hb:=h.mono x b xb ()
    rw [Zv hb,Zv (show 0<sgP p x from c),Zx (show ¬ sgP p x<0 by ext),Zx (show ¬ sgP p x=0 by ext)]
    simp only [Bool.false_and,Dt,if_false]
    omega
theorem Fz.chain {F S:List Int} {ps:List (List Int)} (h:Fz F ps) (r:Rad F S) {b:Rat}:∀ {k:Nat} {x:Rat},Cn (evQ S) b k x->k+ps.countP (Eo x)<=ps.countP (Eo b)
 | 0,x,⟨xb,_⟩=>by
   rw [Nat.zero_add]
   exact List.countP_mono_left λp hp z=>Zv ((h.pc p hp).mono x b xb (by have:0<sgP p x:=Zw z;ext))
 | k+1,x,⟨xb,y,xy,n,c⟩=>by
   have ih:=h.chain r c
   obtain ⟨p,hp,p1,p2⟩:=h.alt r xy n
   have:=JI (P:=Eo x) (Q:=Eo y) (λq hq z=>Zv ((h.pc q hq).mono x y xy (by have:0<sgP q x:=Zw z;ext))) hp (Zx ()) (Zv p2)
   omega
theorem RE:∀ {ps:List (List Int)} {a x b:Rat},(∀ p∈ps,Pc (sgP p))->a<x->a<b->ps.countP (Eo b)<=ps.countP (inB a b)+ps.countP (Eo x)
 | [],_,_,_,_,_,_=>AS _
 | p::ps,a,x,b,pc,ax,ab=>by
   have h:=pc p (BC ..)
   have ih:=RE (λq hq=>pc q (BN _ hq)) ax ab
   rw [DK,DK,DK]
   by_cases c:sgP p a<0
   ·have e:inB a b p=Eo b p:=by unfold inB Eo;rw [Zv c,Bool.true_and]
    rw [e];omega
   ·have e:Eo x p=true:=Zv (h.mono a x ax ())
    rw [e,Zu rfl]
    split <;> omega
theorem Fz.least {F S:List Int} {ps:List (List Int)} (h:Fz F ps) (r:Rad F S) (sep:ps.Pairwise Sep):∀ (n:Nat) (a b:Rat),a<b->ps.countP (inB a b)<=n->ps.countP (inB a b)<=Nf (evQ S) a b:=by
 intro n
 induction n with
 | zero=>intro a b ab hn;omega
 | succ n ih=>
   intro a b ab hn
   by_cases c2:2<=ps.countP (inB a b)
   ·obtain ⟨p,hp,q,hq,h1,h2,x,hx⟩:=Q8 sep c2
    have h1:=(DZ _ _).mp h1
    have h2:=(DZ _ _).mp h2
    have p1:sgP p a<0:=Zw h1.1
    have p2:0<sgP p b:=Zw h1.2
    have q1:sgP q a<0:=Zw h2.1
    have q2:0<sgP q b:=Zw h2.2
    have ends:∀ p∈ps,∀ q∈ps,sgP p b > 0->sgP q a<0->sgP p x<0->0<sgP q x->sgP p a<0->0<sgP q b->ps.countP (inB a b)<=Nf (evQ S) a b:=λp hp q hq pb qa px qx pa qb=>by
     have xb:=(h.pc p hp).lt px pb
     have ax:=(h.pc q hq).lt qa qx
     have sp:=RA h.pc ax xb
     have nd:=r.sf.node ax xb
     have l1:=JI (P:=inB a x) (Q:=inB a b) (ps:=ps) (p:=p) (λu hu z=>by
      have z:=(DZ _ _).mp z
      have z2:0<sgP u x:=Zw z.2
      exact (DZ _ _).mpr ⟨z.1,Zv ((h.pc u hu).mono x b xb ())⟩) hp (by unfold inB;rw [Zx (show ¬ 0<sgP p x by ext),Bool.and_false]) ((DZ _ _).mpr ⟨Zv pa,Zv pb⟩)
     have l2:=JI (P:=inB x b) (Q:=inB a b) (ps:=ps) (p:=q) (λu hu z=>by
      have z:=(DZ _ _).mp z
      have z2:sgP u x<0:=Zw z.1
      exact (DZ _ _).mpr ⟨Zv ((h.pc u hu).neg ax ()),z.2⟩) hq (by unfold inB;rw [Zx (show ¬ sgP q x<0 by ext),Bool.false_and]) ((DZ _ _).mpr ⟨Zv qa,Zv qb⟩)
     have i1:=ih a x ax ⋯
     have i2:=ih x b xb ⋯
     have z1:=Q9 h.pc sep x
     have z2:ps.countP (zeB x)<=if evQ S x=0 then 1 else 0:=by
      by_cases c:evQ S x=0
      ·rw [Zu c];exact z1
      ·rw [Zt c]
       refine Nat.le_of_eq (List.countP_eq_zero.mpr λu hu z=>c ((r.zero x).mp ((h.zero x).mpr ⟨u,hu,Zw z⟩)))
     omega
    rcases mul_neg_iff'.mp hx with ⟨u,v⟩ | ⟨u,v⟩
    ·exact ends q hq p hp q2 p1 v u q1 p2
    ·exact ends p hp q hq p2 q1 u v p1 q2
   ·by_cases c1:ps.countP (inB a b)=0
    ·rw [c1];exact AV _
    ·obtain ⟨p,hp,hin⟩:=List.countP_pos_iff.mp (Nat.pos_of_ne_zero c1)
     have h1:=(DZ _ _).mp hin
     have p1:sgP p a<0:=Zw h1.1
     have p2:0<sgP p b:=Zw h1.2
     obtain ⟨x,ax,px⟩:=(h.pc p hp).opL a p1
     obtain ⟨y,yb,py⟩:=(h.pc p hp).opR b p2
     have xy:=(h.pc p hp).lt px py
     have oth:∀ q∈ps,q≠p->(0<sgP q x/\0<sgP q y)\/(sgP q x<0/\sgP q y<0):=λq hq ne=>by
      by_cases ca:sgP q a<0
      ·have cb:¬ 0<sgP q b:=λcb=>ne (Yy ⋯ hp hq hin ((DZ _ _).mpr ⟨Zv ca,Zv cb⟩))
       have hy:=(h.pc q hq).neg yb ()
       exact .inr ⟨(h.pc q hq).neg xy (),hy⟩
      ·have hx:=(h.pc q hq).mono a x ax ()
       exact .inl ⟨hx,(h.pc q hq).mono x y xy ()⟩
     obtain ⟨q,g,k,pg,eF,hc⟩:=h.chg p hp
     have nz:∀ u,(∀ q∈ps,sgP q u≠0)->evQ S u≠0:=λu hu z=>by
      obtain ⟨q,hq,e⟩:=(h.zero u).mp ((r.zero u).mpr z)
      exact hu q hq e
     have ne0:=r.change2 pg eF xy (hc x y px py λq hq ne=>mul_pos_iff'.mpr (oth q hq ne)) (nz x λq hq z=>by
      by_cases e:q=p
      ·rw [e] at z;ext
      ·have:=oth q hq e;ext) (nz y λq hq z=>by
      by_cases e:q=p
      ·rw [e] at z;ext
      ·have:=oth q hq e;ext)
     have n1:=r.sf.node ax (show x<b by ext)
     have n2:=r.sf.node xy yb
     omega
theorem Fz.count {F S:List Int} {ps:List (List Int)} (h:Fz F ps) (r:Rad F S) (sep:ps.Pairwise Sep) {a b:Rat} (ab:a<b):Nf (evQ S) a b=ps.countP (inB a b):=by
 refine Nat.le_antisymm ?_ (h.least r sep _ a b ab (AS _))
 obtain ⟨x,ax,hx⟩:=(r.sf.isN ab).1
 have c:=h.chain r hx
 have:=RE h.pc ax ab
 omega
theorem RF:∀ {ps:List (List Int)},(∀ p∈ps,Pc (sgP p))->∃ R,∀ p∈ps,∀ x,R<=x->0<sgP p x/\sgP p (-x)<0
 | [],_=>⟨0,λp hp=>nomatch hp⟩
 | p::ps,h=>by
   obtain ⟨R,hR⟩:=RF λq hq=>h q (BN _ hq)
   obtain ⟨R',hR'⟩:=(h p (BC ..)).far
   obtain ⟨m,m1,m2⟩:=LQ R R'
   refine ⟨m,λq hq x hx=>?_⟩
   rcases Bb.mp hq with e | e
   ·rw [e];exact hR' x ()
   ·exact hR q e x ()
theorem RG:∀ {ps:List (List Int)} {a b:Rat},(∀ p∈ps,Pc (sgP p))->a<b->ps.countP (inB a b)+ps.countP (zeB b)=ps.countP (Bq (some a) (some b))
 | [],_,_,_,_=>rfl
 | p::ps,a,b,pc,ab=>by
   have h:=pc p (BC ..)
   rw [DK,DK,DK,<-RG (λq hq=>pc q (BN _ hq)) ab]
   have e:Bq (some a) (some b) p=(decide (sgP p a<0) && !decide (sgP p b<0)):=rfl
   rw [e]
   unfold inB zeB
   rcases rtri (sgP p b) 0 with c | c | c
   ·rw [Zv c,Zx (show ¬ 0<sgP p b by ext),Zx (show ¬ sgP p b=0 by ext),Bool.and_false,Bool.not_true,Bool.and_false]
    simp only [Dt,if_false];omega
   ·rw [Zv (h.neg ab ()),Zx (show ¬ sgP p b<0 by ext),Zx (show ¬ 0<sgP p b by ext),Zv c]
    simp only [Bool.true_and,Bool.not_false,Dt,if_false,if_true];omega
   ·rw [Zx (show ¬ sgP p b<0 by ext),Zv (show 0<sgP p b from c),Zx (show ¬ sgP p b=0 by ext),Bool.not_false]
    simp only [Dt,if_false];omega
theorem Fz.cnt {F S:List Int} {ps:List (List Int)} (h:Fz F ps) (r:Rad F S) (sep:ps.Pairwise Sep) {lo hi:Option Rat} {k:Nat} (lt:∀ x y,lo=some x->hi=some y->x<y) (c:Cnt F S lo hi k):k=ps.countP (Bq lo hi):=by
 obtain ⟨R0,hR⟩:=c
 obtain ⟨R1,far⟩:=RF h.pc
 obtain ⟨A,A0,hA⟩:=JH lo
 obtain ⟨B,B0,hB⟩:=JH hi
 obtain ⟨m,m1,m2⟩:=LQ R0 R1
 obtain ⟨m',m3,m4⟩:=LQ m (A+B+1)
 have e:=hR m' m' () ()
 have ab:lo.getD (-m')<hi.getD m':=by
  cases lo with
  | none=>
    cases hi with
    | none=>show -m'<m';ext
    | some y=>have:=hB y rfl;show -m'<y;ext
  | some x=>
    cases hi with
    | none=>have:=hA x rfl;show x<m';ext
    | some y=>exact lt x y rfl rfl
 rw [e,h.count r sep ab]
 have fars:∀ p∈ps,0<sgP p m'/\sgP p (-m')<0:=λp hp=>far p hp m' ()
 have ez:atE F hi=ps.countP (zeB (hi.getD m')):=by
  cases hi with
  | none=>exact (List.countP_eq_zero.mpr λp hp z=>by have z:sgP p m'=0:=Zw z;have:=fars p hp;ext).symm
  | some y=>
    show (if evQ F y=0 then 1 else 0)=ps.countP (zeB y)
    have o:=Q9 h.pc sep y
    by_cases z:evQ F y=0
    ·rw [Zu z]
     obtain ⟨p,hp,e⟩:=(h.zero y).mp z
     have:=List.countP_pos_iff.mpr ⟨p,hp,show zeB y p=true from Zv e⟩
     omega
    ·rw [Zt z]
     exact (List.countP_eq_zero.mpr λp hp e=>z ((h.zero y).mpr ⟨p,hp,Zw e⟩)).symm
 rw [ez,RG h.pc ab]
 refine List.countP_congr λp hp=>?_
 have ⟨f1,f2⟩:=fars p hp
 have g1:lo.all (λx=>decide (sgP p x<0))=decide (sgP p (lo.getD (-m'))<0):=by
  cases lo with
  | none=>show true=decide (sgP p (-m')<0);rw [Zv f2]
  | some x=>rfl
 have g2:hi.all (λy=>!decide (sgP p y<0))=!decide (sgP p (hi.getD m')<0):=by
  cases hi with
  | none=>show true=!decide (sgP p m'<0);rw [Zx (show ¬ sgP p m'<0 by ext)];rfl
  | some y=>rfl
 show (decide (sgP p (lo.getD (-m'))<0) && !decide (sgP p (hi.getD m')<0))=true↔(lo.all (λx=>decide (sgP p x<0)) && hi.all (λy=>!decide (sgP p y<0)))=true
 rw [g1,g2]
theorem Yz {u v:Rat} (u0:0<=u) (uv:u<v):u*u<v*v:=by
 have a:=Aa u0 (show 0<=v - u by ext)
 have b:=As (show 0<v - u by ext) (show 0<v by ext)
 ext
theorem Fk {t s:Int} (s0:0<s):Pc (sgP [t,s]):=by
 have s1:(0:Rat)<(s:Rat):=by exact_mod_cast s0
 have i:(s:Rat)*(s:Rat)⁻¹=1:=CJ _ ()
 have e:∀ x,sgP [t,s] x=(s:Rat)*x - (t:Rat):=λ_=>rfl
 have q:(s:Rat)*((t:Rat)*(s:Rat)⁻¹)=(t:Rat):=by rw [show (s:Rat)*((t:Rat)*(s:Rat)⁻¹)=(s:Rat)*(s:Rat)⁻¹*(t:Rat) by ext,i];ext
 generalize hr:(t:Rat)*(s:Rat)⁻¹=r at q
 have e:∀ x,sgP [t,s] x=(s:Rat)*(x - r):=λx=>by rw [e,<-q];ext
 generalize (s:Rat)=S at *
 have pos:∀ y,0<y->0<S*y:=λy hy=>As s1 hy
 have neg:∀ y,y<0->S*y<0:=λy hy=>by have:=As s1 (show 0 < -y by ext);ext
 have sgn:∀ y,(0<=S*y->0<=y)/\(S*y<0->y<0)/\(0<S*y->0<y):=λy=>by
  rcases rtri y 0 with c | c | c
  ·have:=neg y c;exact ⟨λ_=>by ext,λ_=>c,λ_=>by ext⟩
  ·rw [c];exact ⟨λ_=>by ext,λ_=>by ext,λ_=>by ext⟩
  ·have:=pos y c;exact ⟨λ_=>by ext,λ_=>by ext,λ_=>c⟩
 obtain ⟨A,A0,A1,A2⟩:=rbd r
 refine ⟨λx y xy h=>?_,λx h=>?_,λx h=>?_,A+1,λx h=>?_⟩
 ·rw [e] at h ⊢;have:=(sgn _).1 h;exact pos _ ()
 ·rw [e] at h;have:=(sgn _).2.1 h;exact ⟨(x+r) / 2,(),by rw [e];exact neg _ ()⟩
 ·rw [e] at h;have:=(sgn _).2.2 h;exact ⟨(x+r) / 2,(),by rw [e];exact pos _ ()⟩
 ·rw [e,e];exact ⟨pos _ (),neg _ ()⟩
theorem RH {m a e:Int} {x:Rat}:sgP [m,a,e] x=if 0<e then (if x<(m:Rat) then -1 else (x - m)*(x - m) - (a:Rat)) else (if x<(m:Rat) then (a:Rat) - (x - m)*(x - m) else 1):=rfl
theorem EQ {m a:Int} {x:Rat}:sgP [m,a,1] x=if x<(m:Rat) then -1 else (x - m)*(x - m) - (a:Rat):=by
 rw [RH,Zu ∅]
theorem FH {m a:Int} {x:Rat}:sgP [m,a,-1] x=if x<(m:Rat) then (a:Rat) - (x - m)*(x - m) else 1:=by
 rw [RH,Zt ∅]
theorem LR {m a:Int} (a0:0<a):Pc (sgP [m,a,1]):=by
 have a1:(1:Rat)<=(a:Rat):=by exact_mod_cast a0
 obtain ⟨A,A0,A1,A2⟩:=rbd (m:Rat)
 have lo:∀ x,x<(m:Rat)->sgP [m,a,1] x = -1:=λx h=>by rw [EQ,Zu h]
 have hi:∀ x,¬ x<(m:Rat)->sgP [m,a,1] x=(x - m)*(x - m) - (a:Rat):=λx h=>by rw [EQ,Zt h]
 generalize (m:Rat)=M at *
 generalize (a:Rat)=B at *
 refine ⟨λx y xy h=>?_,λx h=>?_,λx h=>?_,A+B+1,λx h=>?_⟩
 ·by_cases c:x<M
  ·rw [lo x c] at h;ext
  ·rw [hi x c] at h
   rw [hi y ()]
   have:=Yz (show 0<=x - M by ext) (show x - M<y - M by ext)
   ext
 ·by_cases c:x<M
  ·exact ⟨(x+M) / 2,(),by rw [lo _ ()];ext⟩
  ·rw [hi x c] at h
   obtain ⟨δ,d0,d1,d2⟩:=Ds (p:=B - (x - M)*(x - M)) (q:=2*(x - M)+1) () ()
   refine ⟨x+δ,(),?_⟩
   rw [hi _ ()]
   have:=AQ d1 (show 0<=δ by ext)
   rw [show (x+δ - M)*(x+δ - M)=(x - M)*(x - M)+2*(x - M)*δ+δ*δ by grind]
   ext
 ·by_cases c:x<M
  ·rw [lo x c] at h;ext
  ·rw [hi x c] at h
   have u1:1<x - M:=CV.mp λz=>by
    have:=Aa (show 0<=x - M by ext) (show 0<=1 - (x - M) by ext)
    ext
   obtain ⟨δ,d0,d1,d2⟩:=Ds (p:=(x - M)*(x - M) - B) (q:=2*(x - M)) () ()
   refine ⟨x - δ,(),?_⟩
   rw [hi _ ()]
   have:=As d0 d0
   rw [show (x - δ - M)*(x - δ - M)=(x - M)*(x - M) - 2*(x - M)*δ+δ*δ by grind]
   ext
 ·rw [hi x (),lo (-x) ()]
  have:=Aa (show 0<=x - M - B by ext) (show 0<=x - M - 1 by ext)
  have:=Aa (show 0<=B by ext) (show 0<=x - M - 1 by ext)
  constructor <;> ext
theorem Pc.flip {σ τ:Rat->Rat} (h:Pc σ) (e:∀ x,(0<τ x↔σ (-x)<0)/\(τ x<0↔0<σ (-x))):Pc τ:=by
 refine ⟨λx y xy hx=>(e y).1.mpr (h.neg (show -y < -x by ext) (C9.mp λz=>?_)),λx hx=>?_,λx hx=>?_,?_⟩
 ·have:=(e x).2.mpr z;ext
 ·obtain ⟨y,h1,h2⟩:=h.opR _ ((e x).2.mp hx)
  exact ⟨-y,(),(e _).2.mpr (by rw [Rat.neg_neg];exact h2)⟩
 ·obtain ⟨y,h1,h2⟩:=h.opL _ ((e x).1.mp hx)
  exact ⟨-y,(),(e _).1.mpr (by rw [Rat.neg_neg];exact h2)⟩
 ·obtain ⟨R,hR⟩:=h.far
  exact ⟨R,λx hx=>⟨(e x).1.mpr (hR x hx).2,(e _).2.mpr (by rw [Rat.neg_neg];exact (hR x hx).1)⟩⟩
theorem RI {m a:Int} (a0:0<a):Pc (sgP [m,a,-1]):=by
 have a1:(0:Rat)<(a:Rat):=by exact_mod_cast a0
 refine (LR (m:=-m) a0).flip λx=>?_
 rw [EQ,FH,DA]
 rcases rtri x (m:Rat) with c | c | c
 ·rw [Zu c,Zt (show ¬ -x < -(m:Rat) by ext)];constructor <;> constructor <;> intro h <;> ext
 ·rw [c,Zt (show ¬ (m:Rat)<m by ext),Zt (show ¬ -(m:Rat) < -(m:Rat) by ext)];constructor <;> constructor <;> intro h <;> ext
 ·rw [Zt (show ¬ x<(m:Rat) by ext),Zu (show -x < -(m:Rat) by ext)];constructor <;> constructor <;> intro h <;> ext
theorem Y0:Fz [1] []:=by
 have e:∀ x,evQ [1] x=1:=λx=>by show ((1:Int):Rat)+x*0=1;ext
 exact ⟨(λp h=>nomatch h),λx=>by rw [e];exact ⟨λz=>by ext,(λ⟨p,h,_⟩=>nomatch h)⟩,λx y _ _=>⟨1,(),λz _ _=>.inl (by rw [e];ext)⟩,(λp h=>nomatch h)⟩
theorem ev2 (t s:Int) (x:Rat):evQ [-t,s] x=sgP [t,s] x:=by
 show ((-t:Int):Rat)+x*((s:Rat)+x*0)=(s:Rat)*x - (t:Rat)
 rw [DA];ext
theorem LS {t s:Int} (s0:0<s):Fz [-t,s] [[t,s]]:=by
 have pc:=Fk (t:=t) s0
 refine ⟨λp h=>by rw [Az.mp h];exact pc,λx=>by rw [ev2];exact ⟨λz=>⟨_,Az.mpr rfl,z⟩,λ⟨p,h,z⟩=>by rw [Az.mp h] at z;exact z⟩,λx y xy h=>?_,λp h=>?_⟩
 ·have h:=h _ (Az.mpr rfl)
  have s1:(0:Rat)<(s:Rat):=by exact_mod_cast s0
  have up:∀ u v,u<=v->sgP [t,s] u<=sgP [t,s] v:=λu v uv=>by
   show (s:Rat)*u - (t:Rat)<=(s:Rat)*v - (t:Rat)
   have:=AQ uv (show 0<=(s:Rat) by ext)
   ext
  rcases mul_pos_iff'.mp h with ⟨c,d⟩ | ⟨c,d⟩
  ·exact ⟨_,c,λz z1 _=>.inl (by rw [ev2];exact up x z z1)⟩
  ·exact ⟨-sgP [t,s] y,(),λz _ z2=>.inr (by rw [ev2];have:=up z y z2;ext)⟩
 ·rw [Az.mp h]
  exact ⟨[-t,s],λ_=>1,0,⟨1,λ_=>rfl⟩,λx=>by rw [Rat.mul_one],λx y h1 h2 _=>by rw [ev2,ev2];exact mul_neg_iff'.mpr (.inr ⟨h1,h2⟩)⟩
theorem ev3 (m c:Int) (x:Rat):evQ [m*m+c,-2*m,1] x=(x - m)*(x - m)+(c:Rat):=by
 show ((m*m+c:Int):Rat)+x*(((-2*m:Int):Rat)+x*(((1:Int):Rat)+x*0))=_
 rw [Rat.intCast_add,BL,BL]
 have e1:((-2:Int):Rat) = -2:=rfl
 have e2:((1:Int):Rat)=1:=rfl
 rw [e1,e2];ext
theorem Y1 {m c:Int} (c0:0<c):Fz [m*m+c,-2*m,1] []:=by
 have c1:(0:Rat)<(c:Rat):=by exact_mod_cast c0
 have sq:∀ u:Rat,0<=u*u:=λu=>by
  rcases (A4:0<=u\/u<=0) with z | z
  ·exact Aa z z
  ·have:=Aa (show 0<=-u by ext) (show 0<=-u by ext);ext
 exact ⟨(λp h=>nomatch h),λx=>by rw [ev3];exact ⟨λz=>by have:=sq (x - m);ext,(λ⟨p,h,_⟩=>nomatch h)⟩,λx y _ _=>⟨c,c1,λz _ _=>.inl (by rw [ev3];have:=sq (z - m);ext)⟩,(λp h=>nomatch h)⟩
theorem HW (m a:Int) (x:Rat):evQ [m*m + -a,-2*m,1] x=sgP [m,a,1] x*sgP [m,a,-1] x:=by
 rw [ev3,EQ,FH,DA]
 split <;> ext
theorem Y2 {m a:Int} (a0:0<a):Fz [m*m + -a,-2*m,1] [[m,a,1],[m,a,-1]]:=by
 have pu:=LR (m:=m) a0
 have pd:=RI (m:=m) a0
 have mu:[m,a,1]∈[[m,a,1],[m,a,-1]]:=BC ..
 have md:[m,a,-1]∈[[m,a,1],[m,a,-1]]:=BN _ (BC ..)
 have all:∀ P:List Int->Prop,P [m,a,1]->P [m,a,-1]->∀ p∈[[m,a,1],[m,a,-1]],P p:=λP h1 h2 p hp=>by
  rcases Bb.mp hp with e | e
  ·rw [e];exact h1
  ·rw [Az.mp e];exact h2
 have nu:([m,a,-1]:List Int)≠[m,a,1]:=λz=>by injection z with _ z;injection z with _ z;injection z with z _;exact absurd z ∅
 refine ⟨all _ pu pd,λx=>?_,λx y xy h=>?_,all _ ?_ ?_⟩
 ·rw [HW]
  constructor
  ·intro z
   rcases CB.mp z with z | z
   ·exact ⟨_,mu,z⟩
   ·exact ⟨_,md,z⟩
  ·rintro ⟨p,hp,z⟩
   rcases Bb.mp hp with e | e
   ·rw [e] at z;rw [z];ext
   ·rw [Az.mp e] at z;rw [z];ext
 ·have hu:=h _ mu
  have hd:=h _ md
  have ev:=ev3 m (-a)
  rw [EQ,EQ] at hu
  rw [FH,FH] at hd
  have c:((-a:Int):Rat) = -(a:Rat):=DA ..
  have a1:(0:Rat)<(a:Rat):=by exact_mod_cast a0
  rw [c] at ev
  generalize (m:Rat)=M at *
  generalize (a:Rat)=B at *
  have mon:∀ u v:Rat,0<=u->u<=v->u*u<=v*v:=λu v h1 h2=>by
   have:=Aa (show 0<=v - u by ext) (show 0<=v+u by ext);ext
  by_cases cx:x<M
  ·rw [Zu cx] at hu hd
   by_cases cy:y<M
   ·rw [Zu cy] at hd
    rcases mul_pos_iff'.mp hd with ⟨p1,p2⟩ | ⟨p1,p2⟩
    ·refine ⟨B - (x - M)*(x - M),p1,λz z1 z2=>.inr ?_⟩
     rw [ev];have:=mon (M - z) (M - x) () ();ext
    ·refine ⟨(y - M)*(y - M) - B,(),λz z1 z2=>.inl ?_⟩
     rw [ev];have:=mon (M - y) (M - z) () ();ext
   ·rw [Zt cy] at hu hd
    have p1:0<B - (x - M)*(x - M):=by ext
    have p2:0<B - (y - M)*(y - M):=by ext
    obtain ⟨δ,d0,d1,d2,_,_⟩:=IS p1 p2 p1 p2
    refine ⟨δ,d0,λz z1 z2=>.inr ?_⟩
    rw [ev]
    by_cases cz:z<M
    ·have:=mon (M - z) (M - x) () ();ext
    ·have:=mon (z - M) (y - M) () ();ext
  ·rw [Zt cx,Zt (show ¬ y<M by ext)] at hu
   rcases mul_pos_iff'.mp hu with ⟨p1,p2⟩ | ⟨p1,p2⟩
   ·refine ⟨(x - M)*(x - M) - B,p1,λz z1 z2=>.inl ?_⟩
    rw [ev];have:=mon (x - M) (z - M) () ();ext
   ·refine ⟨B - (y - M)*(y - M),(),λz z1 z2=>.inr ?_⟩
    rw [ev];have:=mon (z - M) (y - M) () ();ext
 ·refine ⟨[m*m + -a,-2*m,1],λ_=>1,0,⟨1,λ_=>rfl⟩,λx=>by rw [Rat.mul_one],λx y h1 h2 h3=>?_⟩
  have:=h3 _ md nu
  rw [HW,HW]
  have k:=As (show 0 < -(sgP [m,a,1] x*sgP [m,a,1] y) by have:=mul_neg_iff'.mpr (.inr ⟨h1,h2⟩);ext) this
  ext
 ·refine ⟨[m*m + -a,-2*m,1],λ_=>1,0,⟨1,λ_=>rfl⟩,λx=>by rw [Rat.mul_one],λx y h1 h2 h3=>?_⟩
  have:=h3 _ mu λz=>nu z.symm
  rw [HW,HW]
  have k:=As (show 0 < -(sgP [m,a,-1] x*sgP [m,a,-1] y) by have:=mul_neg_iff'.mpr (.inr ⟨h1,h2⟩);ext) this
  ext
theorem isA.pos {a:Int} (h:isA a):0<a:=by unfold isA at h;omega
theorem Pk.pc {p:List Int} (h:Pk p):Pc (sgP p):=by
 rcases h with ⟨t,s,rfl,l,_⟩ | ⟨m,a,e,rfl,ha,he,_⟩
 ·exact Fk l.pos
 ·rcases he with rfl | rfl
  ·exact LR ha.pos
  ·exact RI ha.pos
noncomputable def rtA (a:Int):Int:=if a=2 then 1448 else if a=3 then 1773 else if a=5 then 2289 else if a=6 then 2508 else if a=7 then 2709 else 3238
noncomputable def cdP (m a e:Int):Int:=1024*m+(if 0<e then rtA a else -rtA a - 1)
theorem Y3 {a:Int} (h:isA a):0<rtA a/\rtA a*rtA a<1048576*a/\1048576*a<(rtA a+1)*(rtA a+1):=by
 rcases h with rfl | rfl | rfl | rfl | rfl | rfl <;> decide
theorem RJ {m a e:Int} (ha:isA a) (he:e=1\/e = -1):sgP [m,a,e] ((cdP m a e:Rat) / 1024)<0/\0<sgP [m,a,e] (((cdP m a e:Rat)+1) / 1024):=by
 obtain ⟨r0,r1,r2⟩:=Y3 ha
 have r0:(0:Rat)<(rtA a:Rat):=by exact_mod_cast r0
 have r1:=Fs.mpr r1
 have r2:=Fs.mpr r2
 have k1:((1048576:Int):Rat)=1048576:=rfl
 have k2:((1:Int):Rat)=1:=rfl
 rw [BL,BL,k1] at r1
 rw [BL,BL,k1,Rat.intCast_add,k2] at r2
 rcases he with rfl | rfl
 ·have c:(cdP m a 1:Rat)=1024*(m:Rat)+(rtA a:Rat):=by
   unfold cdP;rw [Zu ∅,Rat.intCast_add,BL];rfl
  rw [EQ,EQ,c]
  generalize (rtA a:Rat)=r at *
  generalize (m:Rat)=M at *
  rw [Zt (),Zt ()]
  constructor
  ·rw [show (1024*M+r) / 1024 - M=r / 1024 by grind];ext
  ·rw [show (1024*M+r+1) / 1024 - M=(r+1) / 1024 by grind];ext
 ·have c:(cdP m a (-1):Rat)=1024*(m:Rat) - (rtA a:Rat) - 1:=by
   unfold cdP;rw [Zt ∅,Rat.intCast_add,BL,Rat.intCast_sub,DA]
   have e1:((1024:Int):Rat)=1024:=rfl
   have e2:((1:Int):Rat)=1:=rfl
   rw [e1,e2];ext
  rw [FH,FH,c]
  generalize (rtA a:Rat)=r at *
  generalize (m:Rat)=M at *
  rw [Zu (),Zu ()]
  constructor
  ·rw [show (1024*M - r - 1) / 1024 - M = -((r+1) / 1024) by grind];ext
  ·rw [show (1024*M - r - 1+1) / 1024 - M = -(r / 1024) by grind];ext
theorem Y4 {m a e m' a' e':Int} (ha:isA a) (he:e=1\/e = -1) (ha':isA a') (he':e'=1\/e' = -1) (h:cdP m a e=cdP m' a' e'):[m,a,e]=[m',a',e']:=by
 have k:∀ a e,isA a->(e=1\/e = -1)->∀ a' e',isA a'->(e'=1\/e' = -1)->((if 0<e then rtA a else -rtA a - 1) - (if 0<e' then rtA a' else -rtA a' - 1)) % 1024=0->a=a'/\e=e':=by
  intro a e ha he a' e' ha' he'
  rcases ha with rfl | rfl | rfl | rfl | rfl | rfl <;> rcases he with rfl | rfl <;> rcases ha' with rfl | rfl | rfl | rfl | rfl | rfl <;> rcases he' with rfl | rfl <;> decide
 unfold cdP at h
 obtain ⟨rfl,rfl⟩:=k a e ha he a' e' ha' he' ⋯
 rw [show m=m' by omega]
theorem Y5 {t s m a:Int} (ha:isA a) (s0:0<s) (s6:s<=6) (t9:t.natAbs<=9) (m4:m.natAbs<=4):(t - m*s)*(t - m*s)≠a*(s*s):=λh=>by
 have k:∀ s:Fin 7,∀ a∈[2,3,5,6,7,10],∀ w:Fin 34,0<s.val->w.val*w.val≠a*(s.val*s.val):=by decide
 have hw:(t - m*s).natAbs<34:=by
  have h1:(m*s).natAbs<=4*6:=by rw [BI];exact EC m4 ⋯
  omega
 have an:a.natAbs∈[2,3,5,6,7,10]:=by rcases ha with rfl | rfl | rfl | rfl | rfl | rfl <;> decide
 refine k ⟨s.natAbs,⋯⟩ a.natAbs an ⟨_,hw⟩ (by show 0<s.natAbs;omega) ?_
 show (t - m*s).natAbs*(t - m*s).natAbs=a.natAbs*(s.natAbs*s.natAbs)
 rw [<-BI,<-BI,<-BI,h]
theorem RK {p q:List Int} (hp:Pc (sgP p)) (hq:Pc (sgP q)) {x y:Rat} (h1:sgP p x=0) (h2:sgP q x≠0):Sep p q:=by
 rcases rtri (sgP q x) 0 with c | c | c
 ·obtain ⟨y,xy,hy⟩:=hq.opL x c
  exact ⟨y,mul_neg_iff'.mpr (.inl ⟨hp.mono x y xy (),hy⟩)⟩
 ·exact absurd c h2
 ·obtain ⟨y,yx,hy⟩:=hq.opR x c
  exact ⟨y,mul_neg_iff'.mpr (.inr ⟨hp.neg yx (),hy⟩)⟩
theorem Sep.symm {p q:List Int} (h:Sep p q):Sep q p:=let ⟨x,e⟩:=h;⟨x,by rw [Rat.mul_comm];exact e⟩
theorem GY {t s:Int} (s0:0<s):sgP [t,s] (val (t,s))=0:=by
 show (s:Rat)*((t:Rat) / (s:Rat)) - (t:Rat)=0
 rw [Rat.mul_comm,DB (Ba (Ah s0))];ext
theorem RM {t s t' s':Int} (l:Low t s) (l':Low t' s') (ne:¬ (t,s)=(t',s')):Sep [t,s] [t',s']:=by
 refine RK (Fk l.pos) (Fk l'.pos) (x:=val (t,s)) (y:=0) (GY l.pos) λz=>ne ?_
 have z:(s':Rat)*val (t,s) - (t':Rat)=0:=z
 have e:val (t,s)=val (t',s'):=by
  show _=(t':Rat) / (s':Rat)
  have i:(s':Rat)*(s':Rat)⁻¹=1:=CJ _ (Ba (Ah l'.pos))
  rw [Rat.div_def,show (t':Rat)=(s':Rat)*val (t,s) by ext,show (s':Rat)*val (t,s)*(s':Rat)⁻¹=(s':Rat)*(s':Rat)⁻¹*val (t,s) by ext,i];ext
 exact IA (q:=(t,s)) (r:=(t',s')) l l' e
theorem Y6 {p q:List Int} (hp:Pk p) (hq:Pk q) (ne:p≠q):Sep p q:=by
 have mixed:∀ (t s m a e:Int),Low t s->s<=6->t.natAbs<=9->isA a->(e=1\/e = -1)->m.natAbs<=4->Sep [t,s] [m,a,e]:=λt s m a e l s6 t9 ha he m4=>by
  have pq:Pk [m,a,e]:=.inr ⟨m,a,e,rfl,ha,he,m4⟩
  refine RK (Fk l.pos) pq.pc (x:=val (t,s)) (y:=0) (GY l.pos) λz=>?_
  have s1:(s:Rat)≠0:=Ba (Ah l.pos)
  have v:val (t,s)*(s:Rat)=(t:Rat):=DB s1
  have z:(val (t,s) - (m:Rat))*(val (t,s) - (m:Rat))=(a:Rat):=by
   rcases he with rfl | rfl
   ·rw [EQ] at z;split at z <;> ext
   ·rw [FH] at z;split at z <;> ext
  refine Y5 ha l.pos s6 t9 m4 ?_
  have:(((t - m*s)*(t - m*s):Int):Rat)=((a*(s*s):Int):Rat):=by
   rw [BL,BL,BL,Rat.intCast_sub,BL,<-z,<-v];ext
  exact_mod_cast this
 rcases hp with ⟨t,s,rfl,l,s6,t9⟩ | ⟨m,a,e,rfl,ha,he,m4⟩
 ·rcases hq with ⟨t',s',rfl,l',_⟩ | ⟨m,a,e,rfl,ha,he,m4⟩
  ·exact RM l l' λz=>ne (by injection z with z1 z2;rw [z1,z2])
  ·exact mixed t s m a e l s6 t9 ha he m4
 ·rcases hq with ⟨t,s,rfl,l,s6,t9⟩ | ⟨m',a',e',rfl,ha',he',m4'⟩
  ·exact (mixed t s m a e l s6 t9 ha he m4).symm
  ·have pp:Pk [m,a,e]:=.inr ⟨m,a,e,rfl,ha,he,m4⟩
   have pq:Pk [m',a',e']:=.inr ⟨m',a',e',rfl,ha',he',m4'⟩
   obtain ⟨c1,c2⟩:=RJ (m:=m) ha he
   obtain ⟨d1,d2⟩:=RJ (m:=m') ha' he'
   have key:∀ {p q:List Int} {c d:Int},Pc (sgP p)->Pc (sgP q)->0<sgP p (((c:Rat)+1) / 1024)->sgP q ((d:Rat) / 1024)<0->c<d->Sep p q:=λ{p q c d} hp hq h1 h2 cd=>by
    have cd:(c:Rat)+1<=(d:Rat):=by exact_mod_cast cd
    refine ⟨((c:Rat)+1) / 1024,mul_neg_iff'.mpr (.inl ⟨h1,?_⟩)⟩
    rcases Rat.le_iff_lt_or_eq.mp cd with z | z
    ·exact hq.neg (show ((c:Rat)+1) / 1024<(d:Rat) / 1024 by ext) ()
    ·rw [z];exact h2
   rcases Int.lt_trichotomy (cdP m a e) (cdP m' a' e') with c | c | c
   ·exact key pp.pc pq.pc c2 d1 c
   ·exact absurd (Y4 ha he ha' he' c) ne
   ·exact (key pq.pc pp.pc d2 c1 c).symm
theorem JJ {W n:Int} (n0:0<n):∃ k:Int,k≠0/\W=(AT W n).1*k/\n=(AT W n).2*k:=by
 have l1:=D5 (n:=W) (m:=n) ⋯
 have v1:=GD (n:=W) (m:=n) ⋯
 have e:(AT W n).1*n=W*(AT W n).2:=by
  unfold val at v1
  have d1:((AT W n).2:Rat)≠0:=Ba (by have:=l1.pos;omega)
  have n1:(n:Rat)≠0:=Ba ⋯
  have h1:((AT W n).1:Rat) / ((AT W n).2:Rat)*((AT W n).2:Rat)=((AT W n).1:Rat):=DB d1
  have h2:(W:Rat) / (n:Rat)*n=W:=DB n1
  have:((AT W n).1:Rat)*n=W*((AT W n).2:Rat):=by rw [<-h1,<-h2,v1];ext
  exact_mod_cast this
 have d0:=l1.pos
 have hd:(AT W n).2∣n:=YR (c:=(AT W n).1) ⟨W,by rw [Int.mul_comm,e,Int.mul_comm]⟩ (by rw [Int.gcd_comm];exact l1.one)
 obtain ⟨k,hk⟩:=hd
 generalize (AT W n).1=t at *
 generalize (AT W n).2=d at *
 refine ⟨k,λz=>by rw [z] at hk;omega,?_,hk⟩
 have:W*d=t*k*d:=by rw [<-e,hk];ext
 exact Int.eq_of_mul_eq_mul_right ⋯ this
theorem tpK {H H':Hp} {p a:Addr} {n:Int} (h:Hand H p a n) (k:Kp p H H'):Tp H H':=λb xs hb=>k b _ (λz=>by
 obtain ⟨_,_,_,_,e,_⟩:=h
 rw [z,e] at hb;cases hb) hb
theorem RN {g:Int->Int} {A B:Rat}:∀ {row:List Int},(∀ n∈row,A*((g n:Int):Rat)=B*(n:Rat))->∀ k,A*((co (row.map g) k:Int):Rat)=B*((co row k:Int):Rat)
 | [],_,k=>by show A*((0:Int):Rat)=B*((0:Int):Rat);rw [show ((0:Int):Rat)=0 from rfl];ext
 | a::l,h,0=>h a (BC ..)
 | a::l,h,k+1=>RN (λn hn=>h n (BN _ hn)) k
theorem RO {H:Hp} {r:Addr} {zs:List V} {row:List Int} {t d:Int} {b c:Nat} (bc:b+c<=40) (lr:Lz row) (b36:∀ z∈row,Bd b z) (l9:row.length<=9) (lt:Low t d) (t0:t≠0) (bt:Bd c t) (bd:Bd 4 d) (h:H r=some (.tup zs)) (n:Nums H zs (row.map λn=>AT (n*t) d)):Of H r row:=by
 have G:=YM bc lr b36 lt t0 bt bd
 have ln:(row.map λn=>AT (n*t) d).length=row.length:=AL ..
 have ov:=FA G.low
 have d0:(d:Rat)≠0:=Ba (Ah lt.pos)
 have B0:((Bh (row.map λn=>AT (n*t) d):Int):Rat)≠0:=Ba (Ah ov.1)
 have tr:(t:Rat)≠0:=Ba t0
 refine ⟨zs,_,(t:Rat)*((Bh (row.map λn=>AT (n*t) d):Int):Rat) / (d:Rat),h,n,G,by rw [ln];exact lr.1,by rw [ln];exact l9,λz=>?_,?_⟩
 ·have:(t:Rat)*((Bh (row.map λn=>AT (n*t) d):Int):Rat) / (d:Rat)*(d:Rat)=(t:Rat)*((Bh (row.map λn=>AT (n*t) d):Int):Rat):=DB d0
  rw [z] at this
  have:(t:Rat)*((Bh (row.map λn=>AT (n*t) d):Int):Rat)=0:=by rw [<-this];ext
  exact (CB.mp this).elim tr B0
 ·unfold BZ
  generalize Bh (row.map λn=>AT (n*t) d)=B at ov B0 ⊢
  rw [Du]
  refine Sr.ext' λk=>?_
  rw [Sr.num_mul]
  have e:=RN (A:=(d:Rat)) (B:=((t*B:Int):Rat)) (row:=row) (g:=(λq:Nu=>q.1*(B / q.2)) ∘ λn=>AT (n*t) d) (λn hn=>by
   obtain ⟨k,k0,e1,e2⟩:=JJ (W:=n*t) lt.pos
   obtain ⟨c,hc⟩:=ov.2 _ (Bc.mpr ⟨n,hn,rfl⟩)
   have p:=(D5 (n:=n*t) (m:=d) (Ah lt.pos)).pos
   have q:d*((AT (n*t) d).1*(B / (AT (n*t) d).2))=t*B*n:=by
    generalize (AT (n*t) d).1=x at *
    generalize (AT (n*t) d).2=y at *
    rw [hc,Fo _ ⋯,show t*(y*c)*n=n*t*(y*c) by ext,e1,e2]
    ext
   show (d:Rat)*(((AT (n*t) d).1*(B / (AT (n*t) d).2):Int):Rat)=((t*B:Int):Rat)*(n:Rat)
   exact_mod_cast q) k
  show ((co (row.map ((λq:Nu=>q.1*(B / q.2)) ∘ λn=>AT (n*t) d)) k:Int):Rat)=(t:Rat)*(B:Rat) / (d:Rat)*((co row k:Int):Rat)
  rw [BL] at e
  generalize ((co (row.map ((λq:Nu=>q.1*(B / q.2)) ∘ λn=>AT (n*t) d)) k:Int):Rat)=X at *
  generalize ((co row k:Int):Rat)=Y at *
  have di:(d:Rat)*(d:Rat)⁻¹=1:=CJ _ d0
  rw [Rat.div_def]
  generalize (d:Rat)⁻¹=i at *
  rw [show (t:Rat)*(B:Rat)*i*Y=i*((t:Rat)*(B:Rat)*Y) by ext,<-e,show i*((d:Rat)*X)=((d:Rat)*i)*X by ext,di];ext
theorem Y7 {q:Nu} (h:0<q.2):val (q.1+q.2,q.2)=val q+1:=by
 have h2:(q.2:Rat)≠0:=Ba (Ah h)
 have i:(q.2:Rat)*(q.2:Rat)⁻¹=1:=CJ _ h2
 show ((q.1+q.2:Int):Rat) / (q.2:Rat)=(q.1:Rat) / (q.2:Rat)+1
 rw [Rat.intCast_add,Rat.div_def,Rat.div_def];ext
theorem LU {H:Hp}:∀ (ns:List Int),RepA H (ns.map V.int) (ns.map PySem.W.Dat.int)
 | []=>.nil
 | n::ns=>.cons (.int n) (LU ns)
theorem okI (l:List Int):PySem.W.kqdOk 8 (.list (l.map PySem.W.Dat.int))=true:=by
 show (l.map PySem.W.Dat.int).all (PySem.W.kqdOk 7)=true
 rw [List.all_eq_true]
 intro x hx
 obtain ⟨p,_,rfl⟩:=Bc.mp hx
 rfl
theorem Y8 {q:Nu} (h:Low q.1 q.2):Low (q.1+q.2) q.2:=⟨h.pos,by rw [Int.gcd_add_self_left];exact h.one⟩
theorem RP {W n:Int} (n0:0<n):(AT W n).1.natAbs<=W.natAbs:=by
 obtain ⟨k,k0,e,_⟩:=JJ (W:=W) n0
 generalize (AT W n).1=t at e
 rw [e,BI]
 exact Fn _ ⋯
theorem RQ {W n:Int} (n0:0<n):(AT W n).2.natAbs<=n.natAbs:=by
 obtain ⟨k,k0,_,e⟩:=JJ (W:=W) n0
 generalize (AT W n).2=t at e
 rw [e,BI]
 exact Fn _ ⋯
theorem Hand.ne2 {H:Hp} {p a q:Addr} {n:Int} (h:Hand H p a n) (e:H q=none):q≠a:=by
 obtain ⟨ns,x,y,z,_,h1,_⟩:=h
 exact λw=>by rw [w,h1] at e;cases e
theorem okR (l:List Nu):PySem.W.kqdOk 8 (.list (l.map Cv))=true:=by
 show (List.all (l.map Cv) (PySem.W.kqdOk 7))=true
 rw [List.all_map,List.all_eq_true]
 intro q _
 exact okN q 6
theorem Pls.tp {H H':Hp} (t:Tp H H'):∀ {us:List V} {ps:List (List Int)},Pls H us ps->Pls H' us ps
 | [],[],_=>trivial
 | _::_,_::_,⟨⟨a,e,h⟩,r⟩=>⟨⟨a,e,t _ _ h⟩,Pls.tp t r⟩
 | [],_::_,h=>h.elim
 | _::_,[],h=>h.elim
theorem Pls.length {H:Hp}:∀ {us:List V} {ps:List (List Int)},Pls H us ps->us.length=ps.length
 | [],[],_=>rfl
 | _::_,_::_,h=>congrArg (·+1) (Pls.length h.2)
 | [],_::_,h=>h.elim
 | _::_,[],h=>h.elim
theorem Pls.get {H:Hp}:∀ {us:List V} {ps:List (List Int)} {i:Nat} {v:V},Pls H us ps->us[i]?=some v->∃ p a,ps[i]?=some p/\v=.ref a/\H a=some (.tup (p.map V.int))
 | _::_,p::_,0,_,⟨⟨a,e,h⟩,_⟩,q=>by cases q;exact ⟨p,a,rfl,e,h⟩
 | _::_,_::_,i+1,_,h,q=>Pls.get (i:=i) h.2 q
 | [],[],_,_,_,q=>by cases q
 | [],_::_,_,_,h,_=>h.elim
 | _::_,[],_,_,h,_=>h.elim
theorem Pls.append {H:Hp}:∀ {us us':List V} {ps ps':List (List Int)},Pls H us ps->Pls H us' ps'->Pls H (us++us') (ps++ps')
 | [],_,[],_,_,h=>h
 | _::_,_,_::_,_,h,h'=>⟨h.1,Pls.append h.2 h'⟩
 | [],_,_::_,_,h,_=>h.elim
 | _::_,_,[],_,h,_=>h.elim
theorem EndV.tp {H H':Hp} {v:V} {o:Option Nu} (h:EndV H v o) (s:Tp H H'):EndV H' v o:=by
 cases o with
 | none=>exact h
 | some q=>obtain ⟨a,e,n,r⟩:=h;exact ⟨a,e,s _ _ n,r⟩
theorem Y9 (h:Im K vs H Q E):Wu K { nx:=λ_ H'=>Q .non H',rt:=Q } (L2.start ["_law_hand_here","_law_great","_law_top","_law_bottom"] vs) H:=by
 obtain ⟨p,a,n,rfl,hH,n9,k⟩:=h
 refine BE (CL (By ⟨_,rfl,p,a,_,_,rfl,hH,⋯,∅,∅,λd H1 d0 d1 h1 k1=>⟨_,_,rfl,rfl,?_⟩⟩))
 refine BE (CL (r_c (By ⟨_,rfl,p,a,_,_,rfl,h1,⋯,∅,∅,λe H2 e0 e1 h2 k2=>⟨_,_,rfl,rfl,?_⟩⟩)))
 refine B9 ⟨_,rfl,false,rfl,AO (λz=>nomatch z) (λ_=>?_)⟩
 show AZ (AN (FF K) [] E0 (AB (AA 2) (AB (AA 3) AC))) { nx:=λ_ H'=>Q V.non H',rt:=Q } [some (.ref p),some (.bl false),some (.int (d - 9)),some (.int (1+e))] H2
 refine EK (By ⟨_,rfl,_,rfl,d - 9,1+e,rfl,⋯,λr hr=>?_⟩)
 have sr:=AR hr (.tup [.int (AT (d - 9) (1+e)).1,.int (AT (d - 9) (1+e)).2])
 have l1:=RP (W:=d - 9) (n:=1+e) ⋯
 have l2:=RQ (W:=d - 9) (n:=1+e) ⋯
 have lo:=D5 (n:=d - 9) (m:=1+e) ⋯
 have:=lo.pos
 exact k r _ _ _ upd_same lo ⋯ ⋯ ((h2.same sr).mono ⋯) ((k1.trans k2).same sr)
theorem ZA {t s x y:Int} (y0:0<y):sgP [t,s] (val (x,y))<0↔x*s<t*y:=by
 have y1:(0:Rat)<(y:Rat):=by exact_mod_cast y0
 have v:val (x,y)*(y:Rat)=(x:Rat):=DB ()
 have e:((x*s:Int):Rat) - ((t*y:Int):Rat)=sgP [t,s] (val (x,y))*(y:Rat):=by
  show _=((s:Rat)*val (x,y) - (t:Rat))*(y:Rat)
  rw [BL,BL,<-v];ext
 have c:x*s<t*y↔((x*s:Int):Rat)<((t*y:Int):Rat):=Fs.symm
 rw [c]
 generalize sgP [t,s] (val (x,y))=g at *
 constructor
 ·intro h
  have:=As (show 0 < -g by ext) y1
  ext
 ·intro h
  have:g*(y:Rat)<0:=by ext
  rcases mul_neg_iff'.mp this with ⟨_,z⟩ | ⟨z,_⟩
  ·ext
  ·exact z
theorem RS {m a x y:Int} (y0:0<y):(val (x,y)<(m:Rat)↔x - m*y<0)/\((val (x,y) - (m:Rat))*(val (x,y) - (m:Rat))<(a:Rat)↔(x - m*y)*(x - m*y)<a*y*y)/\((a:Rat)<(val (x,y) - (m:Rat))*(val (x,y) - (m:Rat))↔a*y*y<(x - m*y)*(x - m*y)):=by
 have y1:(0:Rat)<(y:Rat):=by exact_mod_cast y0
 have v:val (x,y)*(y:Rat)=(x:Rat):=DB ()
 have c1:x - m*y<0↔((x - m*y:Int):Rat)<((0:Int):Rat):=Fs.symm
 have c2:(x - m*y)*(x - m*y)<a*y*y↔(((x - m*y)*(x - m*y):Int):Rat)<((a*y*y:Int):Rat):=Fs.symm
 have c3:a*y*y<(x - m*y)*(x - m*y)↔((a*y*y:Int):Rat)<(((x - m*y)*(x - m*y):Int):Rat):=Fs.symm
 have e1:((x - m*y:Int):Rat)=(val (x,y) - (m:Rat))*(y:Rat):=by rw [Rat.intCast_sub,BL,<-v];ext
 have e0:((0:Int):Rat)=0:=rfl
 rw [c1,c2,c3,BL,BL,BL,e1,e0]
 generalize val (x,y) - (m:Rat)=u at *
 have w:val (x,y)<(m:Rat)↔val (x,y) - (m:Rat)<0:=by constructor <;> intro h <;> ext
 have yy:=As y1 y1
 have sg:∀ g k:Rat,0<k->(g<0↔g*k<0):=λg k k0=>by
  constructor
  ·intro h;have:=As (show 0 < -g by ext) k0;ext
  ·intro h
   rcases mul_neg_iff'.mp h with ⟨_,z⟩ | ⟨z,_⟩
   ·ext
   ·exact z
 refine ⟨?_,?_,?_⟩
 ·rw [w];rw [<-e1,show ((x - m*y:Int):Rat)=(val (x,y) - (m:Rat))*(y:Rat) by rw [Rat.intCast_sub,BL,<-v];grind]
  exact sg _ _ y1
 ·have:=sg (u*u - (a:Rat)) ((y:Rat)*(y:Rat)) yy
  constructor
  ·intro h;have:=this.mp ();ext
  ·intro h;have:=this.mpr ();ext
 ·have:=sg ((a:Rat) - u*u) ((y:Rat)*(y:Rat)) yy
  constructor
  ·intro h;have:=this.mp ();ext
  ·intro h;have:=this.mpr ();ext
theorem LV {m a x y:Int} (y0:0<y):sgP [m,a,1] (val (x,y))<0↔x - m*y<0\/(x - m*y)*(x - m*y)<a*y*y:=by
 obtain ⟨h1,h2,_⟩:=RS (m:=m) (a:=a) (x:=x) y0
 rw [<-h1,<-h2,EQ]
 split
 ·rename_i c;exact ⟨λ_=>.inl c,λ_=>by ext⟩
 ·rename_i c
  constructor
  ·intro h;exact .inr ()
  ·rintro (h | h)
   ·exact absurd h c
   ·ext
theorem LW {m a x y:Int} (y0:0<y):sgP [m,a,-1] (val (x,y))<0↔x - m*y<0/\a*y*y<(x - m*y)*(x - m*y):=by
 obtain ⟨h1,_,h3⟩:=RS (m:=m) (a:=a) (x:=x) y0
 rw [<-h1,<-h3,FH]
 split
 ·rename_i c
  constructor
  ·intro h;exact ⟨c,()⟩
  ·rintro ⟨_,h⟩;ext
 ·rename_i c
  constructor
  ·intro h;ext
  ·rintro ⟨h,_⟩;exact absurd h c
theorem ZB (h:Io K vs H Q E):Ww K { nx:=λ_ H'=>Q .non H',rt:=Q } (L2.start ["_law_c","_law_place","_law_k","_law_a","_law_sign","_law_far"] vs) H:=by
 obtain ⟨c,b,x,y,p,rfl,hc,y0,bx,by',hb,pk,k⟩:=h
 rcases pk with ⟨t,s,rfl,l,s6,t9⟩ | ⟨m,a,e,rfl,ha,he,m4⟩
 ·have bt:Bd 10 t:=by show t.natAbs<1024;omega
  have bs:Bd 10 s:=by have:=l.pos;show s.natAbs<1024;omega
  refine B9 (Bz ⟨_,rfl,b,_,rfl,hb,rfl,_,rfl,AO (λ_=>?_) (λz=>absurd rfl z)⟩)
  refine EK ⟨_,rfl,_,_,_,_,rfl,rfl,hb,rfl,_,rfl,_,_,_,_,rfl,rfl,hc,rfl,_,_,rfl,rfl,Br bt by',_,rfl,_,_,_,_,rfl,rfl,hc,rfl,_,rfl,_,_,_,_,rfl,rfl,hb,rfl,_,_,rfl,rfl,Br bx bs,_,_,rfl,rfl,?_⟩
  show Q (V.bl (decide (x*s<t*y))) H
  rw [show decide (x*s<t*y)=decide (sgP [t,s] (val (x,y))<0) from decide_eq_decide.mpr (ZA y0).symm]
  exact k
 ·have ba:Bd 10 a:=by have:=ha;unfold isA at this;show a.natAbs<1024;omega
  have bm:Bd 10 m:=by show m.natAbs<1024;omega
  refine B9 (Bz ⟨_,rfl,b,_,rfl,hb,rfl,_,rfl,AO (λz=>nomatch z) (λ_=>?_)⟩)
  show QB K _ _ _
  refine KD ⟨_,rfl,b,_,rfl,hb,rfl,_,_,rfl,_,_,rfl,_,_,rfl,rfl,?_⟩
  show QA K _ _ H
  refine BE ⟨_,rfl,_,_,_,_,rfl,rfl,hc,rfl,_,rfl,_,rfl,_,_,_,_,rfl,rfl,hc,rfl,_,_,rfl,rfl,Br bm by',_,_,rfl,rfl,?_⟩
  show P9 K _ _ H
  have bf:Bd 100 (x - m*y):=by
   have h1:Bd 70 (m*y):=bm.mul by'
   have:=(bx.mono (show 60<=70 by decide)).add h1.neg
   rw [show x - m*y=x + -(m*y) by omega];exact this.mono ∅
  have bay:Bd 70 (a*y):=ba.mul by'
  rcases he with rfl | rfl
  ·refine B9 (Bz ⟨_,rfl,_,_,rfl,rfl,_,rfl,AO (λ_=>?_) (λz=>absurd rfl z)⟩)
   refine EK ⟨_,rfl,_,_,rfl,rfl,_,rfl,AO (λz=>?_) (λz=>?_)⟩
   ·have z:x - m*y<0:=Zw z
    rw [Zv ((LV y0).mpr (.inl z))] at k
    exact k
   ·have z:¬ x - m*y<0:=λw=>z (Zv w)
    refine ⟨_,rfl,_,rfl,_,_,_,_,rfl,rfl,hc,rfl,_,_,rfl,rfl,Br ba by',_,rfl,_,_,_,_,rfl,rfl,hc,rfl,_,_,rfl,rfl,Br bay by',_,rfl,_,rfl,_,_,rfl,rfl,Br bf bf,_,_,rfl,rfl,?_⟩
    show Q (V.bl (decide ((x - m*y)*(x - m*y)<a*y*y))) H
    rw [show decide ((x - m*y)*(x - m*y)<a*y*y)=decide (sgP [m,a,1] (val (x,y))<0) from decide_eq_decide.mpr ⟨λw=>(LV y0).mpr (.inr w),λw=>((LV y0).mp w).resolve_left z⟩]
    exact k
  ·refine B9 (Bz ⟨_,rfl,_,_,rfl,rfl,_,rfl,AO (λz=>nomatch z) (λ_=>?_)⟩)
   show P8 K _ _ _
   refine EK ⟨_,rfl,_,_,rfl,rfl,_,rfl,AO (λz=>?_) (λz=>?_)⟩
   ·have z:x - m*y<0:=Zw z
    refine ⟨_,rfl,_,rfl,_,_,_,_,rfl,rfl,hc,rfl,_,_,rfl,rfl,Br ba by',_,rfl,_,_,_,_,rfl,rfl,hc,rfl,_,_,rfl,rfl,Br bay by',_,rfl,_,rfl,_,_,rfl,rfl,Br bf bf,_,_,rfl,rfl,?_⟩
    show Q (V.bl (decide (a*y*y<(x - m*y)*(x - m*y)))) H
    rw [show decide (a*y*y<(x - m*y)*(x - m*y))=decide (sgP [m,a,-1] (val (x,y))<0) from decide_eq_decide.mpr ⟨λw=>(LW y0).mpr ⟨z,w⟩,λw=>((LW y0).mp w).2⟩]
    exact k
   ·have z:¬ x - m*y<0:=λw=>z (Zv w)
    rw [Zx (λw=>z ((LW y0).mp w).1)] at k
    exact k
theorem ZC (h:Kj K vs H Q E):Wy K { nx:=λ_ H'=>Q .non H',rt:=Q } (L2.start ["_law_places","_law_low","_law_high","_law_many","_law_place","_law_fits"] vs) H:=by
 obtain ⟨q,us,ps,lo,hi,v,w,rfl,hq,pl,pk,ev,ew,k⟩:=h
 have ul:=pl.length
 refine BE (r_c ?_)
 show QD K _ _ H
 refine ⟨_,rfl,q,rfl,⟨_,SqL.of hq⟩,ForL.by (xs:=us) (λi σ H'=>H=H'/\i<=us.length/\∃ o4 o5:Option V,σ=[some (.ref q),some v,some w,some (.int ((ps.take i).countP (Bq (lo.map val) (hi.map val)):Nat)),o4,o5]) ⟨rfl,AV _,none,none,rfl⟩ ?_ ?_ ?_⟩
 ·rintro i σ H' _ ⟨rfl,_⟩;exact SqL.of hq
 ·rintro i u σ H' hu ⟨rfl,iu,o4,o5,rfl⟩
  obtain ⟨p,b,hp,rfl,hb⟩:=pl.get hu
  have il:=(Bp.mp hu).1
  have pkp:=pk p (Bu hp)
  generalize hn:(ps.take i).countP (Bq (lo.map val) (hi.map val))=N
  have nx:∀ f:Bool,f=Bq (lo.map val) (hi.map val) p->∀ o,(λ(σ:L2.St) (H':Hp)=>H=H'/\i+1<=us.length/\∃ o4 o5:Option V,σ=[some (.ref q),some v,some w,some (.int ((ps.take (i+1)).countP (Bq (lo.map val) (hi.map val)):Nat)),o4,o5]) [some (.ref q),some v,some w,some (.int ((N:Nat)+if f=true then 1 else 0)),some (.ref b),o] H:=λf hf o=>by
   refine ⟨rfl,il,some (.ref b),o,?_⟩
   rw [DR,hp,List.countP_append,hn]
   show _=[some (V.ref q),some v,some w,some (V.int ((N+[p].countP (Bq (lo.map val) (hi.map val)):Nat):Int)),some (V.ref b),o]
   rw [List.countP_singleton,<-hf]
   cases f <;> rfl
  have back:∀ f:Bool,f=(lo.map val).all (λx=>decide (sgP p x<0))->QC K { nx:=λσ H'=>H=H'/\i+1<=us.length/\∃ o4 o5:Option V,σ=[some (.ref q),some v,some w,some (.int ((ps.take (i+1)).countP (Bq (lo.map val) (hi.map val)):Nat)),o4,o5],ct:=λσ H'=>H=H'/\i+1<=us.length/\∃ o4 o5:Option V,σ=[some (.ref q),some v,some w,some (.int ((ps.take (i+1)).countP (Bq (lo.map val) (hi.map val)):Nat)),o4,o5],bk:=Ks K { nx:=λ_ H'=>Q V.non H',rt:=Q },rt:=Q } [some (.ref q),some v,some w,some (.int (N:Nat)),some (.ref b),some (.bl f)] H:=λf hf=>by
   cases hi with
   | none=>
     have ew:w=.non:=ew
     subst ew
     refine B9 (Bz ⟨_,rfl,rfl,_,rfl,AO (λz=>nomatch z) (λ_=>AO (λz=>nomatch z) (λ_=>?_))⟩)
     show Ip K _ _ _
     refine Dr ⟨_,rfl,_,rfl,f,rfl,_,_,rfl,rfl,?_⟩
     refine nx f ?_ _
     rw [hf];show _=(_ && true);rw [Bool.and_true]
   | some y=>
     obtain ⟨c,rfl,hc,ly,b1,b2⟩:=ew
     refine B9 (Bz ⟨_,rfl,rfl,_,rfl,AO (λ_=>?_) (λz=>absurd rfl z)⟩)
     refine ⟨_,rfl,_,rfl,c,b,y.1,y.2,p,rfl,hc,ly.pos,b1,b2,hb,pkp,_,rfl,AO (λz=>?_) (λz=>?_)⟩
     ·refine Dr (r_c ?_)
      show Ip K _ _ _
      refine Dr ⟨_,rfl,_,rfl,false,rfl,_,_,rfl,rfl,?_⟩
      refine nx false ?_ _
      show false=(_ && !decide (sgP p (val y)<0))
      rw [z,Bool.not_true,Bool.and_false]
     ·show Ip K _ _ _
      refine Dr ⟨_,rfl,_,rfl,f,rfl,_,_,rfl,rfl,?_⟩
      refine nx f ?_ _
      have z:decide (sgP p (val y)<0)=false:=by
       cases c:decide (sgP p (val (y.1,y.2))<0) with
       | true=>exact absurd c z
       | false=>rfl
      rw [hf]
      show _=(_ && !decide (sgP p (val y)<0))
      rw [z,Bool.not_false,Bool.and_true]
  cases lo with
  | none=>
    have ev:v=.non:=ev
    subst ev
    exact BE ⟨_,rfl,rfl,_,rfl,AO (λ_=>back true rfl) (λz=>absurd rfl z)⟩
  | some y=>
    obtain ⟨c,rfl,hc,ly,b1,b2⟩:=ev
    exact BE ⟨_,rfl,rfl,_,rfl,AO (λz=>nomatch z) (λ_=>By ⟨_,rfl,_,rfl,c,b,y.1,y.2,p,rfl,hc,ly.pos,b1,b2,hb,pkp,back _ rfl⟩)⟩
 ·rintro σ H' ⟨rfl,_,o4,o5,rfl⟩
  show Ks K _ _ _
  rw [ul,C7]
  exact ⟨_,rfl,k⟩
noncomputable def E58 (o:Option Nu):Prop:=∀ q,o=some q->Bd 58 q.1/\Bd 58 q.2
noncomputable def EndL (H:Hp):List V->List (Option Nu)->Prop
 | [],[]=>True
 | v::vs,o::os=>(EndV H v o/\E58 o)/\EndL H vs os
 | _,_=>False
theorem EndL.tp {H H':Hp} (t:Tp H H'):∀ {vs:List V} {os:List (Option Nu)},EndL H vs os->EndL H' vs os
 | [],[],_=>trivial
 | _::_,_::_,h=>⟨⟨h.1.1.tp t,h.1.2⟩,EndL.tp t h.2⟩
 | [],_::_,h=>h.elim
 | _::_,[],h=>h.elim
theorem EndL.snoc {H:Hp} {v:V} {o:Option Nu} (h':EndV H v o) (h5:E58 o):∀ {vs:List V} {os:List (Option Nu)},EndL H vs os->EndL H (vs++[v]) (os++[o])
 | [],[],_=>⟨⟨h',h5⟩,trivial⟩
 | _::_,_::_,h=>⟨h.1,EndL.snoc h' h5 h.2⟩
 | [],_::_,h=>h.elim
 | _::_,[],h=>h.elim
theorem EndL.len {H:Hp}:∀ {vs:List V} {os:List (Option Nu)},EndL H vs os->vs.length=os.length
 | [],[],_=>rfl
 | _::_,_::_,h=>congrArg (·+1) (EndL.len h.2)
 | [],_::_,h=>h.elim
 | _::_,[],h=>h.elim
theorem EndL.two {H:Hp} {vs:List V} {os:List (Option Nu)} (h:EndL H vs os) (l:os.length=2):∃ v w lo hi,vs=[v,w]/\EndV H v lo/\EndV H w hi/\E58 lo:=by
 cases os with
 | nil=>cases l
 | cons lo os=>
   cases os with
   | nil=>cases l
   | cons hi os=>
     cases os with
     | cons _ _=>cases l
     | nil=>
       cases vs with
       | nil=>exact h.elim
       | cons v vs=>
         cases vs with
         | nil=>exact h.2.elim
         | cons w vs=>
           cases vs with
           | nil=>exact ⟨v,w,lo,hi,rfl,h.1.1,h.2.1.1,h.1.2⟩
           | cons _ _=>exact h.2.2.elim
theorem ZD (h:Ki K vs H Q E):Wv K { nx:=λ_ H'=>Q .non H',rt:=Q } (L2.start ["_law_hand_here","_law_some","_law_ends","_law_k","_law_kind","_law_c","_law_low","_law_high"] vs) H:=by
 obtain ⟨p,a,q,us,ls,n,rfl,hH,n8,qp,hq,nu,low,bls,l100,k⟩:=h
 have ul:=nu.length
 refine BE ⟨sz (AV _),λe he=>?_⟩
 have ep:e≠p:=hH.ne he
 have ea:e≠a:=hH.ne2 he
 have se:=AR he (.lst [])
 have hee:upd H e (.lst []) e=some (.lst []):=upd_same
 have h1:=hH.same se
 show P7 K _ _ (upd H e (.lst []))
 generalize upd H e (.lst [])=H0 at se hee h1 ⊢
 refine ⟨2,rfl,∅,∅,ForR.by (n:=2) (λi σ H'=>∃ (vs:List V) (os:List (Option Nu)) (o3 o4 o5:Option V),σ=[some (.ref p),some (.ref q),some (.ref e),o3,o4,o5,none,none]/\H' e=some (.lst vs)/\EndL H' vs os/\os.length=i/\i<=2/\Hand H' p a (n+10*i)/\Kp p H H') ⟨[],[],none,none,none,rfl,hee,trivial,rfl,∅,h1.mono ⋯,Kp.of_same se⟩ ?_ ?_⟩
 ·rintro i σ H1 hi ⟨vs,os,o3,o4,o5,rfl,he1,el,ol,i2,h1,k1⟩
  have vl:=el.len
  show P5 K _ _ H1
  refine Ei ⟨_,rfl,p,a,_,_,rfl,h1,⋯,∅,∅,λd H2 d0 d5 h2 k2=>?_⟩
  show P4 K _ _ H2
  refine Ei (CL (By ⟨_,rfl,p,a,_,_,rfl,h2,⋯,∅,∅,λx H3 x0 x1 h3 k3=>⟨_,_,rfl,rfl,CL (r_c (By ⟨_,rfl,p,a,_,_,rfl,h3,⋯,∅,∅,λy H4 y0 y1 h4 k4=>⟨_,_,rfl,rfl,x - 20,1+y,rfl,⋯,λc hc=>?_⟩⟩))⟩⟩))
  have sc:=AR hc (.tup [.int (AT (x - 20) (1+y)).1,.int (AT (x - 20) (1+y)).2])
  have hcc:upd H4 c (.tup [.int (AT (x - 20) (1+y)).1,.int (AT (x - 20) (1+y)).2]) c=some (.tup [V.int (AT (x - 20) (1+y)).1,V.int (AT (x - 20) (1+y)).2]):=upd_same
  have y1':1+y≠0:=by omega
  obtain ⟨b1,b2⟩:=IB (c:=6) (d:=6) (n:=x - 20) y1' (bdN (by show _<64;omega)) (bdN (by show _<64;omega))
  have lc:=D5 (n:=x - 20) y1'
  generalize (AT (x - 20) (1+y))=g at sc hcc b1 b2 lc ⊢
  have k14:Kp p H1 (upd H4 c (.tup [.int g.1,.int g.2])):=((k2.trans k3).trans k4).same sc
  have h5:=h4.same sc
  generalize upd H4 c (.tup [.int g.1,.int g.2])=H5 at sc hcc k14 h5 ⊢
  have tp1:=tpK h1 k14
  show P3 K _ _ H5
  have fin:∀ (v:V) (o:Option Nu) (H6:Hp),EndV H6 v o->E58 o->Hand H6 p a (n+10*i+10)->Kp p H1 H6->Pz K { nx:=λσ H'=>∃ (vs:List V) (os:List (Option Nu)) (o3 o4 o5:Option V),σ=[some (.ref p),some (.ref q),some (.ref e),o3,o4,o5,none,none]/\H' e=some (.lst vs)/\EndL H' vs os/\os.length=i+1/\i+1<=2/\Hand H' p a (n+10*((i+1:Nat):Int))/\Kp p H H',ct:=λσ H'=>∃ (vs:List V) (os:List (Option Nu)) (o3 o4 o5:Option V),σ=[some (.ref p),some (.ref q),some (.ref e),o3,o4,o5,none,none]/\H' e=some (.lst vs)/\EndL H' vs os/\os.length=i+1/\i+1<=2/\Hand H' p a (n+10*((i+1:Nat):Int))/\Kp p H H',bk:=Kr K { nx:=λ_ H'=>Q V.non H',rt:=Q },rt:=Q } [some (.ref p),some (.ref q),some (.ref e),some (.int (0+i)),some (.int d),some v,none,none] H6:=λv o H6 ev e5 h6 k6=>by
   have he6:=k6 _ _ ep he1
   refine Q3 rfl (FV he6) ⟨_,rfl,e,vs,v,rfl,rfl,he6,sz ⋯,vs++[v],os++[o],_,_,_,rfl,upd_same,(EndL.snoc ev e5 (el.tp (tpK h1 k6))).tp (Tp.updL he6),by rw [C2,ol];rfl,⋯,(h6.upd ep ea).mono ⋯,λb z bp hz=>?_⟩
   rw [Ag (BO hz he)]
   exact k6 _ _ bp (k1 _ _ bp hz)
  have evc:EndV H5 (.ref c) (some g):=⟨c,rfl,hcc,lc,b1.mono ∅,b2.mono ∅⟩
  have g58:E58 (some g):=λ_ z=>by cases z;exact ⟨b1.mono ∅,b2.mono ∅⟩
  have h5':Hand H5 p a (n+10*i+10):=h5.mono ⋯
  by_cases d0':d=0
  ·subst d0'
   refine B9 (Bz ⟨_,rfl,rfl,_,rfl,AO (λ_=>?_) (λz=>absurd rfl z)⟩)
   refine Dr (r_c ?_)
   show Kq K _ _ H5
   exact B9 (Bz ⟨_,rfl,rfl,_,rfl,AO (λz=>nomatch z) (λ_=>AO (λz=>nomatch z) (λ_=>fin .non none H5 rfl (λ_ z=>nomatch z) h5' k14))⟩)
  ·refine B9 (Bz ⟨_,rfl,rfl,_,rfl,AO (λz=>absurd (show d=0 by have:=Zw z;injection this) d0') (λ_=>?_)⟩)
   show Kq K _ _ H5
   by_cases d1':d=1
   ·subst d1'
    refine B9 (Bz ⟨_,rfl,rfl,_,rfl,AO (λ_=>?_) (λz=>absurd rfl z)⟩)
    have hq5:H5 q=some (.lst us):=k14 _ _ qp (k1 _ _ qp hq)
    have nu5:Nums H5 us ls:=(nu.tp (tpK hH k1)).tp tp1
    refine Bz ⟨_,rfl,sz (AV _),λz hz=>?_⟩
    have s6:=AR hz (.lst [])
    have hzz:upd H5 z (.lst []) z=some (.lst []):=upd_same
    have h6:=h5.same s6
    have k6:=k14.same s6
    generalize upd H5 z (.lst [])=H6 at s6 hzz h6 k6 ⊢
    have hq6:=s6 _ _ hq5
    have nu6:=nu5.tp (tpS s6)
    refine ⟨.list (ls.map Cv),.list [],ls.isEmpty,Vx hq6 nu6,.lst hzz .nil,okR ls,rfl,?_,_,rfl,AO (λw=>?_) (λw=>?_)⟩
    ·cases ls with
     | nil=>exact ⟨λ_=>rfl,λ_=>rfl⟩
     | cons x y=>exact ⟨(λw=>nomatch w),λw=>by injection w with w;cases w⟩
    ·have lpos:0<ls.length:=by
      cases ls with
      | nil=>cases w
      | cons x y=>exact Nat.succ_pos _
     refine Dr (CL ⟨_,rfl,By ⟨_,rfl,⟨_,rfl,q,us,rfl,hq6,p,a,_,_,rfl,h6,⋯,⋯,⋯,λj H7 j0 j1 h7 k7=>?_⟩⟩⟩)
     have jl:j.toNat<us.length:=by omega
     obtain ⟨u,hu,b,eu,hb⟩:=(nu6.tp (tpK h6 k7)).get (Am jl)
     have mu:=Bu hu
     have k17:=k6.trans k7
     refine ⟨q,_,us,us[j.toNat],rfl,rfl,k7 _ _ qp hq6,DP (j:=j.toNat) ⋯ (Am jl),?_⟩
     exact fin _ (some u) H7 ⟨b,eu,hb,low u mu,(bls u mu).1.mono ∅,(bls u mu).2.mono ∅⟩ (λ_ z=>by cases z;exact bls u mu) (h7.mono ⋯) k17
    ·exact fin _ (some g) H6 (evc.kp s6) g58 (h6.mono ⋯) k6
   ·exact B9 (Bz ⟨_,rfl,rfl,_,rfl,AO (λz=>absurd (show d=1 by have:=Zw z;injection this) d1') (λ_=>AO (λz=>nomatch z) (λ_=>fin _ (some g) H5 evc g58 h5' k14))⟩)
 ·rintro σ H1 ⟨vs,os,o3,o4,o5,rfl,he1,el,ol,_,h1,k1⟩
  obtain ⟨v,w,lo,hi,rfl,ev,ew,l58⟩:=el.two ol
  show Kr K _ _ _
  refine KD ⟨_,rfl,e,_,rfl,he1,rfl,_,_,rfl,_,_,rfl,rfl,?_⟩
  show P6 K _ _ H1
  have fin:∀ (v w:V) (lo hi:Option Nu) (H2:Hp),EndV H2 v lo->EndV H2 w hi->(∀ x y,lo=some x->hi=some y->val x<val y)->Same H1 H2->HJ K { nx:=λ_ H'=>Q V.non H',rt:=Q } [some (.ref p),some (.ref q),some (.ref e),o3,o4,o5,some v,some w] H2:=λv w lo hi H2 ev ew lt s2=>by
   refine EK (GI ⟨_,rfl,_,rfl,Cw,λr hr=>?_⟩)
   have sr:=AR hr (.tup [v,w])
   exact k r v w lo hi _ upd_same (ev.kp sr) (ew.kp sr) lt (((h1.same s2).same sr).mono ⋯) ((k1.same s2).same sr)
  cases lo with
  | none=>
    have e1:v=.non:=ev
    subst e1
    exact B9 (Bz ⟨_,rfl,rfl,_,rfl,AO (λz=>nomatch z) (λ_=>AO (λz=>nomatch z) (λ_=>fin _ _ none hi H1 rfl ew (λ_ _ z=>nomatch z) (λ_ _ h=>h)))⟩)
  | some x=>
    obtain ⟨c,rfl,hc,lx,bx1,bx2⟩:=ev
    have evc:EndV H1 (.ref c) (some x):=⟨c,rfl,hc,lx,bx1,bx2⟩
    cases hi with
    | none=>
      have e2:w=.non:=ew
      subst e2
      exact B9 (Bz ⟨_,rfl,rfl,_,rfl,AO (λ_=>Bz ⟨_,rfl,rfl,_,rfl,AO (λz=>nomatch z) (λ_=>fin _ _ (some x) none H1 evc rfl (λ_ _ _ z=>nomatch z) (λ_ _ h=>h))⟩) (λz=>absurd rfl z)⟩)
    | some y=>
      obtain ⟨b,rfl,hb,ly,by1,by2⟩:=ew
      have evb:EndV H1 (.ref b) (some y):=⟨b,rfl,hb,ly,by1,by2⟩
      refine B9 (Bz ⟨_,rfl,rfl,_,rfl,AO (λ_=>Bz ⟨_,rfl,rfl,_,rfl,AO (λ_=>?_) (λz=>absurd rfl z)⟩) (λz=>absurd rfl z)⟩)
      by_cases c1:x=y
      ·subst c1
       refine JG (Bz ⟨_,rfl,_,rfl,Cv x,Cv x,true,Fb ⟨c,rfl,hc⟩,Fb ⟨b,rfl,hb⟩,okN _ _,okN _ _,⟨λ_=>rfl,λ_=>rfl⟩,_,rfl,AO (λ_=>?_) (λz=>absurd rfl z)⟩)
       refine Dr (GI ⟨_,rfl,_,_,_,_,rfl,rfl,hc,rfl,_,rfl,_,_,_,_,rfl,rfl,hc,rfl,_,_,rfl,rfl,_,rfl,_,_,_,_,rfl,rfl,hc,rfl,Cw,λt ht=>?_⟩)
       have st:=AR ht (.tup [.int (x.1+x.2),.int x.2])
       have htt:upd H1 t (.tup [.int (x.1+x.2),.int x.2]) t=some (.tup [V.int (x.1+x.2),V.int x.2]):=upd_same
       show HJ K _ _ (upd H1 t (.tup [.int (x.1+x.2),.int x.2]))
       refine fin _ _ (some x) (some (x.1+x.2,x.2)) _ (evc.kp st) ⟨t,rfl,htt,Y8 lx,((l58 x rfl).1.add (l58 x rfl).2).mono ∅,bx2⟩ (λu u' hu hu'=>?_) st
       cases hu;cases hu'
       rw [Y7 lx.pos];ext
      ·refine JG (Bz ⟨_,rfl,_,rfl,Cv x,Cv y,false,Fb ⟨c,rfl,hc⟩,Fb ⟨b,rfl,hb⟩,okN _ _,okN _ _,⟨(λz=>nomatch z),λz=>absurd (datN_inj.mp z) c1⟩,_,rfl,AO (λz=>nomatch z) (λ_=>?_)⟩)
       refine JG (Bz ⟨_,rfl,_,_,_,_,rfl,rfl,hc,rfl,_,rfl,_,_,_,_,rfl,rfl,hb,rfl,_,_,rfl,rfl,Br bx1 by2,_,rfl,_,_,_,_,rfl,rfl,hb,rfl,_,rfl,_,_,_,_,rfl,rfl,hc,rfl,_,_,rfl,rfl,Br by1 bx2,_,_,rfl,rfl,_,rfl,AO (λz=>?_) (λz=>?_)⟩)
       ·have z:y.1*x.2<x.1*y.2:=Zw z
        refine ⟨_,rfl,_,rfl,_,_,rfl,?_⟩
        show HJ K _ _ H1
        refine fin _ _ (some y) (some x) H1 evb evc (λu u' hu hu'=>?_) (λ_ _ h=>h)
        cases hu;cases hu'
        exact (EO ly.pos lx.pos).mpr z
       ·have z:¬ y.1*x.2<x.1*y.2:=λw=>z (Zv w)
        show HJ K _ _ H1
        refine fin _ _ (some x) (some y) H1 evc evb (λu u' hu hu'=>?_) (λ_ _ h=>h)
        cases hu;cases hu'
        have w0:¬ x.1*y.2=y.1*x.2:=λw=>c1 (by
         obtain ⟨w1,w2⟩:=Jr lx ly w
         exact Prod.ext w1 w2)
        exact (EO lx.pos ly.pos).mpr ⋯
noncomputable def L1 (b:List Int):Nat:=(b.map Int.natAbs).sum
theorem RT {f:Nat->Int} {A:Nat} (h:∀ k,(f k).natAbs<=A):∀ (b:List Int) (k:Nat),(cvL b f k).natAbs<=L1 b*A
 | [],_=>AV _
 | x::b,0=>by
   rw [Ar,Int.add_zero,BI]
   show _<=(x.natAbs+L1 b)*A
   rw [DJ]
   have:=B6 x.natAbs (h 0)
   omega
 | x::b,k+1=>by
   have ih:=RT h b k
   rw [Ak]
   show _<=(x.natAbs+L1 b)*A
   rw [DJ]
   have h1:=B6 x.natAbs (h (k+1))
   have h2:(x*f (k+1)).natAbs=x.natAbs*(f (k+1)).natAbs:=BI ..
   have h3:=Int.natAbs_add_le (x*f (k+1)) (cvL b f k)
   omega
theorem RU {a b c:List Int} (ck:∀ k,co c k=ps a b a.length k):∀ k,co c k=cvL a (co b) k:=λk=>by rw [ck k,Q2 _ _ _ _ (AS _),C7]
theorem LX {a b c:List Int} {A:Nat} (ck:∀ k,co c k=ps a b a.length k) (ha:∀ z∈a,z.natAbs<=A):∀ z∈c,z.natAbs<=L1 b*A:=λz hz=>by
 obtain ⟨k,rfl⟩:=LP hz
 rw [RU ck,Bx]
 refine RT (λj=>?_) b k
 rcases BG j a.length with q | q
 ·have e:co a j=a[j]:=by unfold co;rw [AU,Am q];rfl
  rw [e];exact ha _ (Db q)
 ·rw [AX q];exact AV _
theorem LY {a b c:List Int} (ck:∀ k,co c k=ps a b a.length k):si c=si a*si b:=JA (RU ck)
theorem Of.kp {H H':Hp} {p:Addr} {ns:List Int} (h:Of H p ns) (s:Same H H'):Of H' p ns:=by
 obtain ⟨xs,l,κ,h1,h2,r⟩:=h
 exact ⟨xs,l,κ,s _ _ h1,h2.tp (tpS s),r⟩
theorem Of.tp {H H':Hp} {p:Addr} {ns:List Int} (h:Of H p ns) (s:Tp H H'):Of H' p ns:=by
 obtain ⟨xs,l,κ,h1,h2,r⟩:=h
 exact ⟨xs,l,κ,s _ _ h1,h2.tp s,r⟩
theorem ZE {p q:List Int} {x y:Rat} (h1:sgP p x=0) (h2:0<sgP p y) (h3:sgP q x<0) (h4:sgP q y=0) :
  [p,q].countP (Bq none (some x))=1/\[p,q].countP (Bq (some x) (some y))=1/\[p,q].countP (Bq (some x) none)=1/\[p,q].countP (Bq none (some y))=2/\[p,q].countP (Bq (some y) none)=0/\[p,q].countP (Bq none none)=2:=by
 have e1:decide (sgP p x<0)=false:=Zx ()
 have e2:decide (sgP p y<0)=false:=Zx ()
 have e3:decide (sgP q x<0)=true:=Zv h3
 have e4:decide (sgP q y<0)=false:=Zx ()
 have two:∀ lo hi,[p,q].countP (Bq lo hi)=(if Bq lo hi p=true then 1 else 0)+(if Bq lo hi q=true then 1 else 0):=λlo hi=>by
  rw [DK,DK,List.countP_nil];omega
 have fs:∀ (r:List Int) (u v:Rat),Bq none (some v) r=!decide (sgP r v<0)/\Bq (some u) none r=decide (sgP r u<0)/\Bq (some u) (some v) r=(decide (sgP r u<0) && !decide (sgP r v<0))/\Bq none none r=true:=λr u v=>
  ⟨by show (true && _)=_;rw [Bool.true_and];rfl,by show (_ && true)=_;rw [Bool.and_true];rfl,rfl,rfl⟩
 refine ⟨?_,?_,?_,?_,?_,?_⟩
 ·rw [two,(fs p x x).1,(fs q x x).1,e1,e3];rfl
 ·rw [two,(fs p x y).2.2.1,(fs q x y).2.2.1,e1,e3,e4,e2];rfl
 ·rw [two,(fs p x y).2.1,(fs q x y).2.1,e1,e3];rfl
 ·rw [two,(fs p x y).1,(fs q x y).1,e2,e4];rfl
 ·rw [two,(fs p y y).2.1,(fs q y y).2.1,e2,e4];rfl
 ·rw [two,(fs p x y).2.2.2,(fs q x y).2.2.2];rfl
theorem ZF {t s x y:Int} (s0:0<s) (y0:0<y) (h:val (t,s)<val (x,y)):0<sgP [t,s] (val (x,y)):=(Fk s0).mono _ _ h (by rw [GY s0];ext)
theorem ZG {t s x y:Int} (s0:0<s) (h:val (x,y)<val (t,s)):sgP [t,s] (val (x,y))<0:=(Fk s0).neg h (by rw [GY s0];ext)
theorem ZH (h:Kk K vs H Q E):W0 K { nx:=λ_ H'=>Q .non H',rt:=Q } (L2.start ["_law_hand_here","_law_root_here","_law_other","_law_kp","_law_spans"] vs) H:=by
 obtain ⟨p,a,n,rfl,hH,n8,k⟩:=h
 refine Ei ⟨_,rfl,p,a,_,rfl,hH,⋯,λr t d H1 hr lt t9 d6 h1 k1=>?_⟩
 have d0:=lt.pos
 have pw:MO 10 9:=⟨∅,∅,∅⟩
 refine Ei (CL ⟨_,rfl,_,_,_,_,rfl,rfl,hr,rfl,_,_,rfl,rfl,pw,_,_,rfl,rfl,EM ⋯ ⋯,_,rfl,_,_,_,_,rfl,rfl,hr,rfl,_,_,rfl,rfl,_,rfl,_,_,_,_,rfl,rfl,hr,rfl,_,_,rfl,rfl,pw,_,_,rfl,rfl,EM ⋯ ⋯,t*1000000000+d,d*1000000000,rfl,⋯,λo ho=>?_⟩)
 have so:=AR ho (.tup [.int (AT (t*1000000000+d) (d*1000000000)).1,.int (AT (t*1000000000+d) (d*1000000000)).2])
 have hoo:upd H1 o (.tup [.int (AT (t*1000000000+d) (d*1000000000)).1,.int (AT (t*1000000000+d) (d*1000000000)).2]) o=some (.tup [V.int (AT (t*1000000000+d) (d*1000000000)).1,V.int (AT (t*1000000000+d) (d*1000000000)).2]):=upd_same
 have lo:=D5 (n:=t*1000000000+d) (m:=d*1000000000) ⋯
 have b1:=RP (W:=t*1000000000+d) (n:=d*1000000000) ⋯
 have b2:=RQ (W:=t*1000000000+d) (n:=d*1000000000) ⋯
 obtain ⟨c,c0,e1,e2⟩:=JJ (W:=t*1000000000+d) (n:=d*1000000000) ⋯
 generalize (AT (t*1000000000+d) (d*1000000000))=g at so hoo lo b1 b2 e1 e2 ⊢
 obtain ⟨u,v⟩:=g
 have v0:0<v:=lo.pos
 have ub:u.natAbs<=9000000006:=by have:u.natAbs<=(t*1000000000+d).natAbs:=b1;omega
 have vb:v.natAbs<=6000000000:=by have:v.natAbs<=(d*1000000000).natAbs:=b2;omega
 have e1:t*1000000000+d=u*c:=e1
 have e2:d*1000000000=v*c:=e2
 have cp:0<c:=by
  rcases Int.lt_trichotomy c 0 with z | z | z
  ·have:=Int.mul_neg_of_pos_of_neg v0 z;omega
  ·exact absurd z c0
  ·exact z
 have near:val (t,d)<val (u,v):=by
  refine (EO (a:=(t,d)) (b:=(u,v)) d0 v0).mpr ?_
  show t*v<u*d
  refine Int.lt_of_mul_lt_mul_right (a:=c) ?_ ⋯
  have dd:=Int.mul_pos d0 d0
  rw [show t*v*c=t*(v*c) by ext,<-e2,show u*d*c=(u*c)*d by ext,<-e1]
  ext
 generalize upd H1 o (.tup [.int u,.int v])=H2 at so hoo ⊢
 have hr2:=so _ _ hr
 show QG K _ _ H2
 refine Ei (By (IK ⟨_,rfl,_,_,_,_,rfl,rfl,hr2,rfl,_,rfl,_,rfl,_,_,_,_,rfl,rfl,hr2,rfl,Cw,λw hw=>?_⟩))
 have s3:=AR hw (.lst [.int (-t),.int d])
 have hww:upd H2 w (.lst [.int (-t),.int d]) w=some (.lst ([-t,d].map V.int)):=upd_same
 generalize upd H2 w (.lst [.int (-t),.int d])=H3 at s3 hww ⊢
 have ho3:=s3 _ _ hoo
 refine IK ⟨_,rfl,_,_,_,_,rfl,rfl,ho3,rfl,_,rfl,_,rfl,_,_,_,_,rfl,rfl,ho3,rfl,Cw,λz hz=>?_⟩
 have s4:=AR hz (.lst [.int (-u),.int v])
 have hzz:upd H3 z (.lst [.int (-u),.int v]) z=some (.lst ([-u,v].map V.int)):=upd_same
 generalize upd H3 z (.lst [.int (-u),.int v])=H4 at s4 hzz ⊢
 have two:∀ {x y:Int} {P:Int->Prop},P x->P y->∀ j∈[x,y],P j:=λ{x y P} hx hy j hj=>by
  rcases Bb.mp hj with q | q
  ·rw [q];exact hx
  ·rw [Az.mp q];exact hy
 have ba:∀ j∈[-t,d],j.natAbs<=9:=two ⋯ ⋯
 have bb:∀ j∈[-u,v],Bd 40 j:=two (show (-u).natAbs<1099511627776 by omega) (show v.natAbs<1099511627776 by omega)
 refine ⟨w,z,[-t,d],[-u,v],40,40,rfl,s4 _ _ hww,hzz,(show 0<2 by decide),(show 0<2 by decide),(show 2<=20 by decide),(show 2<=20 by decide),λj hj=>(show j.natAbs<1099511627776 by have:=ba j hj;omega),bb,∅,∅,λrr G H5 s5 _ h5 gl lzG ck=>?_⟩
 have lzG:Lz G:=lzG ⟨show 0<2 by decide,show d≠0 by omega⟩ ⟨show 0<2 by decide,show v≠0 by omega⟩
 have l1:L1 [-u,v]<=15000000006:=by show (-u).natAbs+(v.natAbs+0)<=_;omega
 have bG:∀ j∈G,Bd 38 j:=λj hj=>by
  have h1:=LX ck ba j hj
  show j.natAbs<274877906944
  omega
 refine GI ⟨Cw,λtt htt=>?_⟩
 have s6:=AR htt (.tup [.int 1,.int 1])
 have h6:upd H5 tt (.tup [.int 1,.int 1]) tt=some (.tup [.int 1,.int 1]):=upd_same
 generalize upd H5 tt (.tup [.int 1,.int 1])=H6 at s6 h6 ⊢
 have bd1:∀ n,Bd (n+1) 1:=λn=>by show 1<2 ^ (n+1);exact Nat.one_lt_two_pow ⋯
 refine ⟨rr,tt,G,1,1,rfl,s6 _ _ h5,h6,∅,bd1 999,λj hj=>(bG j hj).mono ∅,by rw [gl];show 3<=1000;decide,λr7 zs H7 s7 h7 n7=>?_⟩
 have ofG:Of H7 r7 G:=RO (b:=38) (c:=1) ∅ lzG bG (by rw [gl];show 3<=9;decide) ⟨∅,∅⟩ ∅ (bd1 0) (bd1 3) h7 n7
 have s27:=s3.trans (s4.trans (s5.trans (s6.trans s7)))
 have hr7:=s27 _ _ hr2
 have ho7:=s27 _ _ hoo
 have fz:Fz G ([[t,d]]++[[u,v]]):=(LS d0).mul (LS v0) (LY ck)
 have sep:([[t,d]]++[[u,v]]).Pairwise Sep:=by
  refine List.pairwise_cons.mpr ⟨λj hj=>?_,List.pairwise_singleton ..⟩
  rw [Az.mp hj]
  refine RM lt lo λw=>?_
  injection w with w1 w2
  rw [w1,w2] at near
  exact absurd near ()
 obtain ⟨c1,c2,c3,c4,c5,c6⟩:=ZE (GY d0) (ZF d0 v0 near) (ZG v0 near) (GY v0)
 show QF K _ _ H7
 refine BE ⟨_,rfl,Cw,λa1 f1=>⟨_,rfl,_,rfl,Cw,λa2 f2=>⟨_,rfl,Cw,λa3 f3=>⟨_,rfl,Cw,λa4 f4=>⟨_,rfl,Cw,λa5 f5=>⟨Cw,λa6 f6=>⟨sz (show 6<=1000000 by decide),λl hl=>?_⟩⟩⟩⟩⟩⟩⟩
 have x1:=AR f1 (.tup [V.non,.ref r])
 have y1:upd H7 a1 (.tup [V.non,.ref r]) a1=_:=upd_same
 generalize upd H7 a1 (.tup [V.non,.ref r])=J1 at *
 have x2:=AR f2 (.tup [.ref r,.ref o])
 have y2:upd J1 a2 (.tup [.ref r,.ref o]) a2=_:=upd_same
 generalize upd J1 a2 (.tup [.ref r,.ref o])=J2 at *
 have x3:=AR f3 (.tup [.ref r,V.non])
 have y3:upd J2 a3 (.tup [.ref r,V.non]) a3=_:=upd_same
 generalize upd J2 a3 (.tup [.ref r,V.non])=J3 at *
 have x4:=AR f4 (.tup [V.non,.ref o])
 have y4:upd J3 a4 (.tup [V.non,.ref o]) a4=_:=upd_same
 generalize upd J3 a4 (.tup [V.non,.ref o])=J4 at *
 have x5:=AR f5 (.tup [.ref o,V.non])
 have y5:upd J4 a5 (.tup [.ref o,V.non]) a5=_:=upd_same
 generalize upd J4 a5 (.tup [.ref o,V.non])=J5 at *
 have x6:=AR f6 (.tup [V.non,V.non])
 have y6:upd J5 a6 (.tup [V.non,V.non]) a6=_:=upd_same
 generalize upd J5 a6 (.tup [V.non,V.non])=J6 at *
 have x7:=AR hl (.lst [.ref a1,.ref a2,.ref a3,.ref a4,.ref a5,.ref a6])
 have y7:upd J6 l (.lst [.ref a1,.ref a2,.ref a3,.ref a4,.ref a5,.ref a6]) l=_:=upd_same
 show QE K _ _ (upd J6 l (.lst [.ref a1,.ref a2,.ref a3,.ref a4,.ref a5,.ref a6]))
 generalize upd J6 l (.lst [.ref a1,.ref a2,.ref a3,.ref a4,.ref a5,.ref a6])=J at x7 y7 ⊢
 have z6:=x7 _ _ y6
 have z5:=x7 _ _ (x6 _ _ y5)
 have z4:=x7 _ _ (x6 _ _ (x5 _ _ y4))
 have z3:=x7 _ _ (x6 _ _ (x5 _ _ (x4 _ _ y3)))
 have z2:=x7 _ _ (x6 _ _ (x5 _ _ (x4 _ _ (x3 _ _ y2))))
 have z1:=x7 _ _ (x6 _ _ (x5 _ _ (x4 _ _ (x3 _ _ (x2 _ _ y1)))))
 have sJ:Same H7 J:=x1.trans (x2.trans (x3.trans (x4.trans (x5.trans (x6.trans x7)))))
 have hrJ:=sJ _ _ hr7
 have hoJ:=sJ _ _ ho7
 have evr:∀ {J':Hp},Same J J'->EndV J' (.ref r) (some (t,d)):=λs=>⟨r,rfl,s _ _ hrJ,lt,show t.natAbs<1152921504606846976 by omega,show d.natAbs<1152921504606846976 by omega⟩
 have evo:∀ {J':Hp},Same J J'->EndV J' (.ref o) (some (u,v)):=λs=>⟨o,rfl,s _ _ hoJ,lo,show u.natAbs<1152921504606846976 by omega,show v.natAbs<1152921504606846976 by omega⟩
 have cnt:∀ (lo hi:Option Nu) (k:Nat),(∀ x y,lo=some x->hi=some y->val x<val y)->Rad G (sq G)->Cnt G (sq G) (lo.map val) (hi.map val) k->k=([[t,d]]++[[u,v]]).countP (Bq (lo.map val) (hi.map val)):=λlo hi k lt rad ct=>fz.cnt rad sep (λx y h1 h2=>by
  cases lo with
  | none=>cases h1
  | some x'=>
    cases hi with
    | none=>cases h2
    | some y'=>
      cases h1;cases h2
      exact lt _ _ rfl rfl) ct
 refine EK (CL (V0 ⟨_,rfl,l,rfl,⟨_,SqL.of y7⟩,CompJ.lst (xs:=[V.ref a1,V.ref a2,V.ref a3,V.ref a4,V.ref a5,V.ref a6]) (λi ys H'=>i<=6/\Same J H'/\ys=(([1,1,1,2,0,2]:List Int).take i).map V.int) ⟨∅,λ_ _ h=>h,rfl⟩ ?_ ?_ ?_⟩))
 ·rintro i ys H' ⟨i6,s,rfl⟩
  exact ⟨i6,by rw [AL];exact sz (Be (List.length_take_le' _ _) ∅),SqL.of (s _ _ y7)⟩
 ·rintro i x ys H' hx ⟨i6,s,rfl⟩
  have i6:i<6:=(Bp.mp hx).1
  have step:∀ (aa:Addr) (v' w':V) (lo hi:Option Nu) (m:Int),J aa=some (.tup [v',w'])->EndV H' v' lo->EndV H' w' hi->(∀ x y,lo=some x->hi=some y->val x<val y)->(([[t,d]]++[[u,v]]).countP (Bq (lo.map val) (hi.map val)):Int)=m->(([1,1,1,2,0,2]:List Int).take i).map V.int++[V.int m]=(([1,1,1,2,0,2]:List Int).take (i+1)).map V.int->D3 2 (CC (AF 0) (CC (AF 1) Dg)) (.ref aa) (Ck [none,none,some 3] [some (.ref p),some (.ref r),some (.ref o),some (.ref r7),some (.ref l)]) H' λσ2 H2=>AN (HI K) [] E0 (AB (AA 2) (AB (AA 0) (AB (AA 1) AC))) σ2 H2 λy H3=>i+1<=6/\Same J H3/\(([1,1,1,2,0,2]:List Int).take i).map V.int++[y]=(([1,1,1,2,0,2]:List Int).take (i+1)).map V.int:=λaa v' w' lo hi m ha ev ew lt' hm hl=>by
   refine ⟨aa,_,rfl,s _ _ ha,rfl,_,_,rfl,_,_,rfl,rfl,_,rfl,_,rfl,_,rfl,r7,G,lo,hi,v',w',rfl,(ofG.kp sJ).kp s,ev,ew,lt',λk' H3 s3 rad ct=>⟨⋯,s.trans s3,?_⟩⟩
   rw [<-hl,<-hm,<-cnt lo hi k' lt' rad ct]
  match i,hx,step with
  | 0,hx,step=>cases hx;exact step a1 _ _ none (some (t,d)) 1 z1 rfl (evr s) (λ_ _ z=>nomatch z) (congrArg Int.ofNat c1) rfl
  | 1,hx,step=>cases hx;exact step a2 _ _ (some (t,d)) (some (u,v)) 1 z2 (evr s) (evo s) (λx y h1 h2=>by cases h1;cases h2;exact near) (congrArg Int.ofNat c2) rfl
  | 2,hx,step=>cases hx;exact step a3 _ _ (some (t,d)) none 1 z3 (evr s) rfl (λ_ _ _ z=>nomatch z) (congrArg Int.ofNat c3) rfl
  | 3,hx,step=>cases hx;exact step a4 _ _ none (some (u,v)) 2 z4 rfl (evo s) (λ_ _ z=>nomatch z) (congrArg Int.ofNat c4) rfl
  | 4,hx,step=>cases hx;exact step a5 _ _ (some (u,v)) none 0 z5 (evo s) rfl (λ_ _ _ z=>nomatch z) (congrArg Int.ofNat c5) rfl
  | 5,hx,step=>cases hx;exact step a6 _ _ none none 2 z6 rfl rfl (λ_ _ z=>nomatch z) (congrArg Int.ofNat c6) rfl
  | i+6,hx,step=>omega
 ·rintro ys H' ⟨_,s,rfl⟩ b hb
  have sb:=AR hb (.lst ((([1,1,1,2,0,2]:List Int).take 6).map V.int))
  have hbb:upd H' b (.lst ((([1,1,1,2,0,2]:List Int).take 6).map V.int)) b=some (.lst (([1,1,1,2,0,2]:List Int).map V.int)):=upd_same
  refine ⟨sz (show 6<=1000000 by decide),λe he=>?_⟩
  have se:=AR he (.lst [.int 1,.int 1,.int 1,.int 2,.int 0,.int 2])
  exact ⟨_,_,true,.lst (se _ _ hbb) (LU _),.lst (xs:=([1,1,1,2,0,2]:List Int).map V.int) upd_same (LU _),okI _,okI _,⟨λ_=>rfl,λ_=>rfl⟩,k _⟩
structure Lv (H:Hp) (p a w g:Addr) (N:Int) (row:List Int) (ps:List (List Int)):Prop where
 hrow:H w=some (.lst (row.map V.int))
 lz:Lz row
 bd:∀ z∈row,z.natAbs<=15 ^ (row.length - 1)
 fz:Fz row ps
 pl:∃ us,H g=some (.lst us)/\Pls H us ps
 pk:∀ q∈ps,Pk q
 hd:Hand H p a N
 wp:w≠p
 gp:g≠p
 ga:g≠a
 gw:g≠w
theorem Lv.to {H H':Hp} {p a w g:Addr} {N N':Int} {row:List Int} {ps:List (List Int)} (h:Lv H p a w g N row ps) (k:Kp p H H') (hh:Hand H' p a N'):Lv H' p a w g N' row ps:=by
 obtain ⟨us,h1,h2⟩:=h.pl
 exact ⟨k _ _ h.wp h.hrow,h.lz,h.bd,h.fz,⟨us,k _ _ h.gp h1,h2.tp (tpK h.hd k)⟩,h.pk,hh,h.wp,h.gp,h.ga,h.gw⟩
theorem Lv.same {H H':Hp} {p a w g:Addr} {N:Int} {row:List Int} {ps:List (List Int)} (h:Lv H p a w g N row ps) (s:Same H H'):Lv H' p a w g N row ps:=h.to (Kp.of_same s) (h.hd.same s)
theorem RV {A:Nat}:∀ {l:List Int},(∀ z∈l,z.natAbs<=A)->L1 l<=l.length*A
 | [],_=>AV _
 | x::l,h=>by
   have:=RV λz hz=>h z (BN _ hz)
   have:=h x (BC ..)
   show x.natAbs+L1 l<=(l.length+1)*A
   rw [DJ,Nat.one_mul];omega
theorem grow {row b c:List Int} {j:Nat} (bd:∀ z∈row,z.natAbs<=15 ^ (row.length - 1)) (r1:0<row.length) (bl:b.length=j+1) (b1:L1 b<=15 ^ j) (cl:c.length=row.length+b.length - 1) (ck:∀ k,co c k=ps row b row.length k):∀ z∈c,z.natAbs<=15 ^ (c.length - 1):=λz hz=>by
 have h1:=LX ck bd z hz
 have h2:=CP (15 ^ (row.length - 1)) b1
 rw [<-Cc] at h2
 rw [show c.length - 1=j+(row.length - 1) by omega]
 exact Be h1 h2
theorem b15 {l:Nat} (h:l<=9):15 ^ (l - 1)<2 ^ 36:=DG (Cp ∅ (show l - 1<=8 by omega)) ∅
theorem Lv.rowB {H:Hp} {p a w g:Addr} {N:Int} {row:List Int} {ps:List (List Int)} (h:Lv H p a w g N row ps) (l9:row.length<=9):∀ z∈row,Bd 36 z:=λz hz=>DG (h.bd z hz) (b15 l9)
theorem putT_any {kvs:List (List Key×V)} {k:List Key}:(kvs.any (λkv=>kv.1=k)=true)↔k∈kvs.map (·.1):=by
 rw [List.any_eq_true]
 constructor
 ·rintro ⟨x,hx,e⟩;exact Bc.mpr ⟨x,hx,Zw e⟩
 ·intro h
  obtain ⟨x,hx,e⟩:=Bc.mp h
  exact ⟨x,hx,Zv e⟩
theorem ZI {kvs:List (List Key×V)} {k:List Key} {v:V} (c:k∈kvs.map (·.1)):(Dn kvs k v).map (·.1)=kvs.map (·.1):=by
 unfold Dn
 rw [Zu (putT_any.mpr c),Du]
 refine EB λx _=>?_
 show (if x.1=k then (x.1,v) else x).1=x.1
 split <;> rfl
theorem ZJ {kvs:List (List Key×V)} {k:List Key} {v:V} (c:¬ k∈kvs.map (·.1)):(Dn kvs k v).map (·.1)=kvs.map (·.1)++[k]:=by
 unfold Dn
 rw [Zt (λz=>c (putT_any.mp z)),Dv];rfl
theorem ZK {p q:List Int} (h:p.map (Sum.inl:Int->Key)=q.map Sum.inl):p=q:=by
 induction p generalizing q with
 | nil=>
   cases q with
   | nil=>rfl
   | cons y q=>cases h
 | cons x p ih=>
   cases q with
   | nil=>cases h
   | cons y q=>
     injection h with h1 h2
     injection h1 with h1
     rw [h1,ih h2]
theorem RW (p:List Int):(p.map (Sum.inl:Int->Key)).map kV=p.map V.int:=by rw [Du];rfl
structure Uq (kvs:List (List Key×V)) (ps:List (List Int)) (qs:List (List Int)):Prop where
 keys:kvs.map (·.1)=qs.map (List.map Sum.inl)
 nd:qs.Nodup
 mem:∀ q,q∈qs↔q∈ps
 len:qs.length<=ps.length
theorem Uq.put {kvs:List (List Key×V)} {ps qs:List (List Int)} {p:List Int} {v:V} (h:Uq kvs ps qs):∃ qs',Uq (Dn kvs (p.map Sum.inl) v) (ps++[p]) qs':=by
 have e:p.map (Sum.inl:Int->Key)∈kvs.map (·.1)↔p∈qs:=by
  rw [h.keys]
  constructor
  ·intro m
   obtain ⟨q,hq,e⟩:=Bc.mp m
   rw [<-ZK e];exact hq
  ·intro m;exact Bc.mpr ⟨p,m,rfl⟩
 by_cases c:p∈qs
 ·refine ⟨qs,?_,h.nd,λq=>?_,by rw [C2];exact Be h.len (Nat.le_add_right _ _)⟩
  ·rw [ZI (e.mpr c)];exact h.keys
  ·rw [h.mem,CZ,Az]
   exact ⟨.inl,λz=>z.elim id λz=>by rw [z];exact (h.mem p).mp c⟩
 ·refine ⟨qs++[p],?_,?_,λq=>?_,by rw [C2,C2];exact Nat.add_le_add_right h.len _⟩
  ·rw [ZJ (λz=>c (e.mp z)),h.keys,Dv];rfl
  ·rw [List.nodup_append]
   exact ⟨h.nd,List.nodup_cons.mpr ⟨λz=>(nomatch z),.nil⟩,λx hx y hy=>by rw [Az.mp hy];exact λz=>c (z ▸ hx)⟩
  ·rw [CZ,CZ,h.mem]
theorem Uq.pls {H:Hp} {kvs:List (List Key×V)} {qs:List (List Int)} (e:kvs.map (·.1)=qs.map (List.map Sum.inl)) {as:List Addr} (al:as.length=kvs.length) (h:∀ (i:Nat) (a:Addr) (kv:List Key×V),as[i]?=some a->kvs[i]?=some kv->H a=some (.tup (kv.1.map kV))):Pls H (as.map V.ref) qs:=by
 induction as generalizing kvs qs with
 | nil=>
   cases kvs with
   | cons _ _=>cases al
   | nil=>
     cases qs with
     | nil=>trivial
     | cons _ _=>cases e
 | cons a as ih=>
   cases kvs with
   | nil=>cases al
   | cons kv kvs=>
     cases qs with
     | nil=>cases e
     | cons q qs=>
       injection e with e1 e2
       refine ⟨⟨a,rfl,?_⟩,ih e2 (Nat.succ.inj al) λi a' kv' h1 h2=>h (i+1) a' kv' h1 h2⟩
       have:=h 0 a kv rfl rfl
       rw [show kv.1=q.map Sum.inl from e1,RW] at this
       exact this
theorem ZL {qs:List (List Int)} (nd:qs.Nodup) (pk:∀ q∈qs,Pk q):qs.Pairwise Sep:=by
 induction qs with
 | nil=>exact .nil
 | cons q qs ih=>
   obtain ⟨n1,n2⟩:=List.nodup_cons.mp nd
   exact List.pairwise_cons.mpr ⟨λr hr=>Y6 (pk q (BC ..)) (pk r (BN _ hr)) λz=>n1 (z ▸ hr),ih n2 λr hr=>pk r (BN _ hr)⟩
theorem fz_irr' {m a:Int} (a0:0<a):Fz [m*m - a,-2*m,1] [[m,a,1],[m,a,-1]]:=by rw [Int.sub_eq_add_neg];exact Y2 a0
theorem fz_pos' {m d:Int} (d0:0<=d):Fz [m*m+1+d,-2*m,1] []:=by rw [Int.add_assoc];exact Y1 ⋯
theorem sq4 {m:Int} (h:m.natAbs<=4):0<=m*m/\m*m<=16:=by
 obtain rfl | rfl | rfl | rfl | rfl | rfl | rfl | rfl | rfl:m = -4\/m = -3\/m = -2\/m = -1\/m=0\/m=1\/m=2\/m=3\/m=4:=by omega
 all_goals decide
theorem three {x y z:Int} {P:Int->Prop} (hx:P x) (hy:P y) (hz:P z):∀ j∈[x,y,z],P j:=λj hj=>by
 rcases Bb.mp hj with q | q
 ·rw [q];exact hx
 ·rcases Bb.mp q with q | q
  ·rw [q];exact hy
  ·rw [Az.mp q];exact hz
theorem ZM {K:W.Frag} {tl:TE} {capt:List (Option Nat)} {g:TG} {tc:TT} {te:TE} {σ:L2.St} {H:Hp} {Q:VK} (h:tl σ H (λx H1=>∃ a,x=.ref a/\(∃ xs,SqL K H1 a xs)/\CompF (Itl K a) capt g tc te σ Q H1)):E8 (CD K tl) capt g tc te σ H Q:=h
theorem Lv.mk' {H H':Hp} {p a w g r g':Addr} {N N':Int} {row b c:List Int} {pz qs:List (List Int)} {j:Nat} (h:Lv H p a w g N row pz) (hr:H' r=some (.lst (c.map V.int))) (fq:Fz b qs) (pkq:∀ q∈qs,Pk q) (hpl:∃ us,H' g'=some (.lst us)/\Pls H' us (pz++qs)) (hd:Hand H' p a N') (rp:r≠p) (gp:g'≠p) (ga:g'≠a) (gr:g'≠r) (bl:b.length=j+1) (bn:co b j≠0) (b1:L1 b<=15 ^ j) (cl:c.length=row.length+b.length - 1) (lz:Lz row->Lz b->Lz c) (ck:∀ k,co c k=ps row b row.length k):Lv H' p a r g' N' c (pz++qs):=
 ⟨hr,lz h.lz ⟨⋯,by rw [bl,Nat.add_sub_cancel];exact bn⟩,grow h.bd h.lz.1 bl b1 cl ck,h.fz.mul fq (LY ck),hpl,λq hq=>(CZ.mp hq).elim (h.pk q) (pkq q),hd,rp,gp,ga,gr⟩
theorem ZN (h:IT K vs H Q E):W3 K { nx:=λ_ H'=>Q .non H',rt:=Q } (L2.start ["_law_script","_law_hand_here","_law_row","_law_places","_law_k","_law_root_here","_law_a","_law_m","_law_kp","_law_unlike","_law_place","_law_turn","_law_low","_law_high","_law_found"] vs) H:=by
 obtain ⟨s,ns,rfl,hs,hl,k⟩:=h
 refine Gz ⟨_,rfl,s,ns,rfl,hs,hl,λp ad H1 np k1 h1=>?_⟩
 show Qc K _ _ H1
 have last:∀ (w g:Addr) (N:Int) (row:List Int) (pz:List (List Int)) (H2:Hp) (o4 o5 o6 o7:Option V),N<=1000->H2 w=some (.lst (row.map V.int))->Lz row->row.length<=9->(∀ z∈row,Bd 36 z)->Fz row pz->(∃ us,H2 g=some (.lst us)/\Pls H2 us pz)->(∀ q∈pz,Pk q)->pz.length<=100->Hand H2 p ad N->w≠p->g≠p->Kt K { nx:=λ_ H'=>Q V.non H',rt:=Q } [some (.ref s),some (.ref p),some (.ref w),some (.ref g),o4,o5,o6,o7,none,none,none,none,none,none,none] H2:=λw g N row pz H2 o4 o5 o6 o7 N1 hw lz l9 b36 fz hpl pk p100 hd wp gp=>by
  obtain ⟨us,hg,pl⟩:=hpl
  refine Ei ⟨_,rfl,G1 ⟨_,rfl,p,ad,_,rfl,hd,⋯,λr t d H3 hr lt t0 bt bd h3 k3=>⟨w,r,row,t,d,rfl,k3 _ _ wp hw,hr,Ah lt.pos,bt.mono ∅,λz hz=>(b36 z hz).mono ∅,⋯,λr5 zs H5 s5 h5 n5=>?_⟩⟩⟩
  have ofk:Of H5 r5 row:=RO (b:=36) (c:=4) ∅ lz b36 l9 lt t0 bt bd h5 n5
  have hg5:=s5 _ _ (k3 _ _ gp hg)
  have pl5:=(pl.tp (tpK hd k3)).tp (tpS s5)
  have h5':=h3.same s5
  show QW K _ _ H5
  refine BE λu hu=>?_
  have su:=AR hu (HO.dT [])
  have huu:upd H5 u (HO.dT []) u=some (.dT []):=upd_same
  have up:u≠p:=h5'.ne hu
  have ua:u≠ad:=h5'.ne2 hu
  have ug:u≠g:=λz=>by rw [z,hg5] at hu;cases hu
  show QV K _ _ (upd H5 u (HO.dT []))
  generalize upd H5 u (HO.dT [])=H6 at su huu ⊢
  have hg6:=su _ _ hg5
  have pl6:=pl5.tp (tpS su)
  have h6:=h5'.same su
  have of6:=ofk.kp su
  have ul:=pl6.length
  refine ⟨_,rfl,g,rfl,⟨_,SqL.of hg6⟩,ForL.by (xs:=us) (λi σ H'=>i<=us.length/\∃ (kvs:List (List Key×V)) (qs:List (List Int)) (o:Option V),σ=[some (.ref s),some (.ref p),some (.ref w),some (.ref g),o4,o5,o6,o7,some (.ref r5),some (.ref u),o,none,none,none,none]/\H' u=some (.dT kvs)/\Uq kvs (pz.take i) qs/\Kp u H6 H') ⟨AV _,[],[],none,rfl,huu,⟨rfl,.nil,λq=>Iff.rfl,AV _⟩,λ_ _ _ h=>h⟩ ?_ ?_ ?_⟩
  ·rintro i σ H' _ ⟨_,kvs,qs,o,rfl,hu',uq,ku⟩
   exact SqL.of (ku _ _ ug.symm hg6)
  ·rintro i x σ H' hx ⟨_,kvs,qs,o,rfl,hu',uq,ku⟩
   obtain ⟨q,b,hq,rfl,hb⟩:=pl6.get hx
   have il:=(Bp.mp hx).1
   have hb':H' b=some (.tup (q.map V.int)):=ku _ _ (λz=>by rw [z,huu] at hb;cases hb) hb
   have kl:kvs.length=qs.length:=by have:=congrArg List.length uq.keys;rw [AL,AL] at this;exact this
   have ql:=uq.len
   rw [Cm] at ql
   refine ⟨_,rfl,_,rfl,u,b,q.map Sum.inl,kvs,rfl,rfl,by rw [RW];exact hb',hu',sz ⋯,⋯,Dn kvs (q.map Sum.inl) (V.bl true),?_⟩
   obtain ⟨qs',uq'⟩:=uq.put (p:=q) (v:=V.bl true)
   refine ⟨qs',_,rfl,upd_same,?_,λc z cu hz=>?_⟩
   ·rw [DR,hq];exact uq'
   ·rw [Ag cu];exact ku _ _ cu hz
  ·rintro σ H7 ⟨_,kvs,qs,o,rfl,hu7,uq,ku⟩
   rw [ul,C7] at uq
   show QU K _ _ _
   have ne6:∀ {b:Addr} {z:HO},H6 b=some z->(∀ l,z≠.dT l)->b≠u:=λhb hz e=>by rw [e,huu] at hb;exact hz _ (Z1 hb).symm
   have tp7:Tp H6 H7:=λb xs hb=>ku _ _ (ne6 hb λ_ z=>nomatch z) hb
   have pl7:=pl6.tp tp7
   have hg7:=ku _ _ ug.symm hg6
   have of7:=of6.tp tp7
   have h7:Hand H7 p ad (N+6):=by
    obtain ⟨l,x,y,z,e1,e2,r⟩:=h6
    exact ⟨l,x,y,z,ku _ _ up.symm e1,ku _ _ ua.symm e2,r⟩
   have kl:kvs.length=qs.length:=by have:=congrArg List.length uq.keys;rw [AL,AL] at this;exact this
   have pkq:∀ q∈qs,Pk q:=λq hq=>pk q ((uq.mem q).mp hq)
   have fzq:Fz row qs:=fz.same uq.mem
   have sep:=ZL uq.nd pkq
   refine ⟨3,rfl,∅,∅,ForR.by (n:=3) (λi σ H'=>i<=3/\(∃ o11 o12 o13 o14:Option V,σ=[some (.ref s),some (.ref p),some (.ref w),some (.ref g),o4,o5,o6,o7,some (.ref r5),some (.ref u),o,o11,o12,o13,o14])/\Hand H' p ad (N+6+40*i)/\Kp p H7 H') ⟨∅,⟨none,none,none,none,rfl⟩,h7.mono ⋯,λ_ _ _ h=>h⟩ ?_ ?_⟩
   ·rintro i σ H8 hi ⟨_,⟨o11,o12,o13,o14,rfl⟩,h8,k8⟩
    have hg8:=k8 _ _ gp hg7
    have tp8:=tpK h7 k8
    have pl8:=pl7.tp tp8
    have hu8:=k8 _ _ up hu7
    have of8:=of7.tp tp8
    show QT K _ _ H8
    refine KD (By ⟨_,rfl,ZM ⟨_,rfl,g,rfl,⟨_,SqL.of hg8⟩,CompF.lst (xs:=us) (λj ys H'=>j<=us.length/\H8=H'/\∃ ls:List Nu,Nums H8 ys ls/\DN ls/\(∀ c∈ls,Bd 58 c.1/\Bd 58 c.2)/\ls.length<=j) ⟨AV _,rfl,[],trivial,λq h=>(nomatch h),λq h=>(nomatch h),AV _⟩ ?_ ?_ ?_⟩⟩)
    ·rintro j ys H' ⟨jl,rfl,ls,nl,_,_,ll⟩
     have:=nl.length
     exact ⟨jl,sz ⋯,SqL.of hg8⟩
    ·rintro j x ys H' hx ⟨jl,rfl,ls,nl,low,bl,ll⟩
     obtain ⟨q,b,hq,rfl,hb⟩:=pl8.get hx
     have il:=(Bp.mp hx).1
     rcases pk q (Bu hq) with ⟨t',d',rfl,lo',d6,t9⟩ | ⟨m',a',e',rfl,_⟩
     ·refine ⟨_,rfl,b,_,rfl,hb,rfl,_,rfl,AO (λ_=>?_) (λz=>absurd rfl z)⟩
      have dp:=lo'.pos
      refine ⟨_,rfl,⋯,rfl,ls++[(t',d')],nl.append (Nums.one ⟨b,rfl,hb⟩),λc hc=>?_,λc hc=>?_,by rw [C2];show ls.length+1<=_;omega⟩
      ·rcases CZ.mp hc with z | z
       ·exact low c z
       ·rw [Az.mp z];exact lo'
      ·rcases CZ.mp hc with z | z
       ·exact bl c z
       ·rw [Az.mp z];exact ⟨show t'.natAbs<288230376151711744 by omega,show d'.natAbs<288230376151711744 by omega⟩
     ·exact ⟨_,rfl,b,_,rfl,hb,rfl,_,rfl,AO (λz=>nomatch z) (λ_=>⟨⋯,rfl,ls,nl,low,bl,⋯⟩)⟩
    ·rintro ys H' ⟨_,rfl,ls,nl,low,bl,ll⟩ y hy
     have sy:=AR hy (.lst ys)
     have yp:y≠p:=h8.ne hy
     refine ⟨p,ad,y,ys,ls,_,rfl,h8.same sy,⋯,yp,upd_same,nl.tp (tpS sy),low,bl,⋯,λr v x lo hi' H9 hr ev ex lt9 h9 k9=>⟨r,_,rfl,hr,rfl,_,_,rfl,_,_,rfl,rfl,?_⟩⟩
     have k89:Kp p H8 H9:=(Kp.of_same sy).trans k9
     have tp9:=tpK h8 k89
     have hu9:=k89 _ _ up hu8
     show QS K _ _ H9
     refine Vy ⟨_,rfl,_,rfl,_,rfl,r5,row,lo,hi',v,x,rfl,of8.tp tp9,ev,ex,lt9,λc H10 s10 rad ct=>?_⟩
     have ec:c=qs.countP (Bq (lo.map val) (hi'.map val)):=fzq.cnt rad sep (λz z' h1 h2=>by
      cases lo with
      | none=>cases h1
      | some x'=>
        cases hi' with
        | none=>cases h2
        | some y'=>
          cases h1;cases h2
          exact lt9 _ _ rfl rfl) ct
     show QR K _ _ H10
     refine JG ⟨_,rfl,_,_,_,rfl,.inl ⟨rfl,rfl⟩,_,rfl,AO (λz=>nomatch z) (λ_=>⟨_,rfl,_,_,_,rfl,.inr ⟨rfl,rfl⟩,_,rfl,AO (λz=>nomatch z) (λ_=>Bz (CL ⟨_,rfl,NL ⟨_,rfl,u,kvs,rfl,s10 _ _ hu9,λas al ag l hl'=>⟨_,rfl,_,rfl,?_⟩⟩⟩))⟩)⟩
     have sl:=AR hl' (.lst (as.map V.ref))
     refine ⟨l,as.map V.ref,qs,lo,hi',v,x,rfl,upd_same,(Uq.pls uq.keys al ag).tp (tpS sl),pkq,(ev.kp s10).kp sl,(ex.kp s10).kp sl,rfl,_,rfl,AO (λz=>?_) (λ_=>?_)⟩
     ·rw [ec,Zv rfl] at z;cases z
     ·exact ⟨⋯,⟨_,_,_,_,rfl⟩,((h9.same s10).same sl).mono ⋯,(k8.trans k89).same (s10.trans sl)⟩
   ·rintro σ H8 ⟨_,⟨o11,o12,o13,o14,rfl⟩,h8,k8⟩
    exact k H8
 have squared:∀ (w g:Addr) (N:Int) (row:List Int) (pz:List (List Int)) (H2:Hp) (o4 o5 o6 o7:Option V),N<=900->Lv H2 p ad w g N row pz->row.length<=9->pz.length<=100->Ku K { nx:=λ_ H'=>Q V.non H',rt:=Q } [some (.ref s),some (.ref p),some (.ref w),some (.ref g),o4,o5,o6,o7,none,none,none,none,none,none,none] H2:=λw g N row pz H2 o4 o5 o6 o7 N9 L l9 p100=>by
  have b36:=L.rowB l9
  refine B9 ⟨_,rfl,w,_,rfl,L.hrow,_,_,rfl,rfl,_,rfl,AO (λc=>?_) (λ_=>AO (λz=>nomatch z) (λ_=>last w g N row pz H2 o4 o5 o6 o7 ⋯ L.hrow L.lz l9 b36 L.fz L.pl L.pk p100 L.hd L.wp L.gp))⟩
  have c:(((row.map V.int).length:Nat):Int)<5:=Zw c
  rw [AL] at c
  refine Bz (CL (By ⟨_,rfl,p,ad,_,_,rfl,L.hd,⋯,∅,∅,λd H3 d0 d1 h3 k3=>⟨rfl,_,rfl,AO (λ_=>?_) (λ_=>?_)⟩⟩))
  ·have L3:=L.to k3 h3
   refine Dr (By ⟨_,rfl,_,rfl,w,w,row,row,36,36,rfl,L3.hrow,L3.hrow,L.lz.1,L.lz.1,⋯,⋯,b36,b36,∅,∅,λr G H4 s4 rn h4 gl lzG ck=>?_⟩)
   show Kt K _ _ H4
   have L4:=L3.same s4
   refine last r g (N+2) G pz H4 o4 o5 o6 o7 ⋯ h4 (lzG L.lz L.lz) ⋯ (λz hz=>?_) ((L.fz.mul L.fz (LY ck)).same λq=>by rw [CZ];exact ⟨.inl,λz=>z.elim id id⟩) L4.pl L.pk p100 L4.hd (h3.ne rn) L.gp
   have h1:=LX ck L.bd z hz
   have h2:=RV L.bd
   have h3:15 ^ (row.length - 1)<=15 ^ 3:=Cp ∅ ⋯
   have h4:row.length*15 ^ (row.length - 1)<=4*15 ^ 3:=EC ⋯ h3
   have h5:L1 row*15 ^ (row.length - 1)<=(4*15 ^ 3)*15 ^ 3:=EC (Be h2 h4) h3
   exact DG (Be h1 h5) ∅
  ·have L3:=L.to k3 h3
   exact last w g (N+2) row pz H3 o4 o5 o6 o7 ⋯ L3.hrow L.lz l9 b36 L.fz L3.pl L.pk p100 L3.hd L.wp L.gp
 have bare:∀ (w g:Addr) (N:Int) (row:List Int) (pz:List (List Int)) (H2:Hp) (o4 o5 o6 o7:Option V),N<=800->Lv H2 p ad w g N row pz->row.length<=9->pz.length<=100->QX K { nx:=λ_ H'=>Q V.non H',rt:=Q } [some (.ref s),some (.ref p),some (.ref w),some (.ref g),o4,o5,o6,o7,none,none,none,none,none,none,none] H2:=λw g N row pz H2 o4 o5 o6 o7 N8 L l9 p100=>by
  refine B9 (Bz (CL (By ⟨_,rfl,p,ad,_,_,rfl,L.hd,⋯,∅,∅,λd H3 d0 d1 h3 k3=>⟨rfl,_,rfl,AO (λ_=>?_) (λ_=>AO (λz=>nomatch z) (λ_=>squared w g (N+2) row pz H3 o4 o5 o6 o7 ⋯ (L.to k3 h3) l9 p100))⟩⟩)))
  have L3:=L.to k3 h3
  refine Bz ⟨_,rfl,w,_,rfl,L3.hrow,_,_,rfl,rfl,_,rfl,AO (λc=>?_) (λ_=>squared w g (N+2) row pz H3 o4 o5 o6 o7 ⋯ L3 l9 p100)⟩
  have c:(((row.map V.int).length:Nat):Int)<8:=Zw c
  rw [AL] at c
  show QQ K _ _ _
  refine BE (CL (By ⟨_,rfl,p,ad,_,_,rfl,L3.hd,⋯,∅,∅,λm' H4 m0 m1 h4 k4=>⟨_,_,rfl,rfl,?_⟩⟩))
  obtain ⟨m,hm⟩:∃ m:Int,m=m' - 4:=⟨_,rfl⟩
  have m4:m.natAbs<=4:=by omega
  have q16:=sq4 m4
  show QP K _ [some (.ref s),some (.ref p),some (.ref w),some (.ref g),o4,o5,o6,some (.int (m' - 4)),none,none,none,none,none,none,none] H4
  rw [<-hm]
  have L4:=L3.to k4 h4
  refine Dr (By ⟨_,rfl,CL (CL ⟨_,rfl,_,rfl,_,_,rfl,rfl,EM ⋯ ⋯,_,_,rfl,rfl,By ⟨_,rfl,p,ad,_,_,rfl,L4.hd,⋯,∅,∅,λe H5 e0 e1 h5 k5=>⟨_,_,rfl,rfl,2,rfl,_,rfl,_,_,rfl,rfl,EM ⋯ ⋯,GJ,λb hb=>?_⟩⟩⟩)⟩)
  have L5:=L4.to k5 h5
  have sb:=AR hb (.lst [.int (m*m+1+e),.int (-2*m),.int 1])
  have hbb:upd H5 b (.lst [.int (m*m+1+e),.int (-2*m),.int 1]) b=some (.lst ([m*m+1+e,-2*m,1].map V.int)):=upd_same
  have L6:=L5.same sb
  generalize upd H5 b (.lst [.int (m*m+1+e),.int (-2*m),.int 1])=H6 at sb hbb L6 ⊢
  refine ⟨w,b,row,[m*m+1+e,-2*m,1],36,10,rfl,L6.hrow,hbb,L.lz.1,(show 0<3 by decide),⋯,(show 3<=20 by decide),L.rowB l9,three (show (m*m+1+e).natAbs<1024 by omega) (show (-2*m).natAbs<1024 by omega) (show (1:Int).natAbs<1024 by decide),∅,∅,λr G H7 s7 rn h7 gl lzG ck=>?_⟩
  show Ku K _ _ H7
  have L7:=L6.same s7
  have gl:G.length=row.length+3 - 1:=gl
  have lv:=Lv.mk' (j:=2) L6 h7 (fz_pos' (m:=m) e0) (λq h=>nomatch h) (by rw [List.append_nil];exact L7.pl) L7.hd (L6.hd.ne rn) L.gp L.ga (λz=>by obtain ⟨us,hg,_⟩:=L6.pl;rw [<-z,hg] at rn;cases rn) rfl (show (1:Int)≠0 by decide) (by show (m*m+1+e).natAbs+((-2*m).natAbs+(1+0))<=225;omega) gl lzG ck
  rw [List.append_nil] at lv
  exact squared r g _ G pz H7 o4 o5 o6 _ ⋯ lv ⋯ p100
 have roots:∀ (w g:Addr) (N:Int) (row:List Int) (pz:List (List Int)) (H2:Hp) (o4 o5:Option V),N<=700->Lv H2 p ad w g N row pz->row.length<=4->pz.length<=3->QY K { nx:=λ_ H'=>Q V.non H',rt:=Q } [some (.ref s),some (.ref p),some (.ref w),some (.ref g),o4,o5,none,none,none,none,none,none,none,none,none] H2:=λw0 g0 N row0 pz0 H2 o4 o5 N7 L l4 p3=>by
  refine ⟨_,rfl,p,ad,_,_,rfl,L.hd,⋯,∅,∅,λd H3 d0 d1 h3 k3=>⟨d,rfl,⋯,⋯,ForR.by (λi σ H'=>i<=d.toNat/\∃ (w g:Addr) (row:List Int) (pz:List (List Int)) (o4 o6 o7:Option V),σ=[some (.ref s),some (.ref p),some (.ref w),some (.ref g),o4,o5,o6,o7,none,none,none,none,none,none,none]/\Lv H' p ad w g (N+2+4*i) row pz/\row.length<=4+2*i/\pz.length<=3+2*i) ⟨AV _,w0,g0,row0,pz0,o4,none,none,rfl,(L.to k3 h3).to (λ_ _ _ h=>h) (h3.mono ⋯),⋯,⋯⟩ ?_ ?_⟩⟩
  ·rintro i σ H4 hi ⟨_,w,g,row,pz,o4,o6,o7,rfl,L4,rl,pl⟩
   show QO K _ _ H4
   refine BE (CL ⟨sz (show 6<=1000000 by decide),λl hl'=>By ⟨_,rfl,p,ad,6,_,rfl,L4.hd.same (AR hl' _),⋯,∅,∅,λx H5 x0 x1 h5 k5=>?_⟩⟩)
   have sl:=AR hl' (.lst [.int 2,.int 3,.int 5,.int 6,.int 7,.int 10])
   have lp:l≠p:=L4.hd.ne hl'
   have hl5:=k5 _ _ lp (show upd H4 l (.lst [.int 2,.int 3,.int 5,.int 6,.int 7,.int 10]) l=_ from upd_same)
   obtain ⟨A,hA,iA⟩:∃ A:Int,atI [V.int 2,V.int 3,V.int 5,V.int 6,V.int 7,V.int 10] x=some (V.int A)/\isA A:=by
    obtain rfl | rfl | rfl | rfl | rfl | rfl:x=0\/x=1\/x=2\/x=3\/x=4\/x=5:=by omega
    ·exact ⟨2,rfl,.inl rfl⟩
    ·exact ⟨3,rfl,.inr (.inl rfl)⟩
    ·exact ⟨5,rfl,.inr (.inr (.inl rfl))⟩
    ·exact ⟨6,rfl,.inr (.inr (.inr (.inl rfl)))⟩
    ·exact ⟨7,rfl,.inr (.inr (.inr (.inr (.inl rfl))))⟩
    ·exact ⟨10,rfl,.inr (.inr (.inr (.inr (.inr rfl))))⟩
   refine ⟨l,x,_,V.int A,rfl,rfl,hl5,hA,?_⟩
   have A10:2<=A/\A<=10:=by unfold isA at iA;omega
   have L5:=(L4.same sl).to k5 h5
   show QN K _ _ H5
   refine BE (CL (By ⟨_,rfl,p,ad,_,_,rfl,L5.hd,⋯,∅,∅,λm' H6 m0 m1 h6 k6=>⟨_,_,rfl,rfl,?_⟩⟩))
   obtain ⟨m,hm⟩:∃ m:Int,m=m' - 4:=⟨_,rfl⟩
   have m4:m.natAbs<=4:=by omega
   have q16:=sq4 m4
   show QM K _ [some (.ref s),some (.ref p),some (.ref w),some (.ref g),some (.int (0+i)),o5,some (.int A),some (.int (m' - 4)),none,none,none,none,none,none,none] H6
   rw [<-hm]
   have L6:=L5.to k6 h6
   obtain ⟨us,hg,pls⟩:=L6.pl
   refine BE (CL ⟨_,rfl,IK (NM ⟨_,rfl,_,rfl,GJ,λt1 e1=>NM ⟨_,rfl,_,rfl,1,rfl,GJ,λt2 e2=>⟨Cw,λb e3=>?_⟩⟩⟩)⟩)
   have s1:=AR e1 (.tup [.int m,.int A,.int 1])
   have y1:upd H6 t1 (.tup [.int m,.int A,.int 1]) t1=some (.tup ([m,A,1].map V.int)):=upd_same
   generalize upd H6 t1 (.tup [.int m,.int A,.int 1])=J1 at *
   have s2:=AR e2 (.tup [.int m,.int A,.int (-1)])
   have y2:upd J1 t2 (.tup [.int m,.int A,.int (-1)]) t2=some (.tup ([m,A,-1].map V.int)):=upd_same
   generalize upd J1 t2 (.tup [.int m,.int A,.int (-1)])=J2 at *
   have s3:=AR e3 (.lst [.ref t1,.ref t2])
   have y3:upd J2 b (.lst [.ref t1,.ref t2]) b=some (.lst [V.ref t1,V.ref t2]):=upd_same
   generalize upd J2 b (.lst [.ref t1,.ref t2])=J3 at *
   have s13:=s1.trans (s2.trans s3)
   have hg3:=s13 _ _ hg
   have ul:=pls.length
   refine ⟨g,b,us,_,rfl,rfl,hg3,y3,sz (by show us.length+2<=_;omega),λg' hg'=>?_⟩
   have s4:=AR hg' (.lst (us++[V.ref t1,V.ref t2]))
   have y4:upd J3 g' (.lst (us++[V.ref t1,V.ref t2])) g'=some (.lst (us++[V.ref t1,V.ref t2])):=upd_same
   generalize upd J3 g' (.lst (us++[V.ref t1,V.ref t2]))=J4 at *
   have s14:=s13.trans s4
   have L7:=L6.same s14
   have pl7:Pls J4 (us++[V.ref t1,V.ref t2]) (pz++[[m,A,1],[m,A,-1]]):=(pls.tp (tpS s14)).append ⟨⟨t1,rfl,s4 _ _ (s3 _ _ (s2 _ _ y1))⟩,⟨t2,rfl,s4 _ _ (s3 _ _ y2)⟩,trivial⟩
   have g'p:g'≠p:=(L6.hd.same s13).ne hg'
   have g'a:g'≠ad:=(L6.hd.same s13).ne2 hg'
   show QL K _ _ J4
   refine Dr (By ⟨_,rfl,CL ⟨_,rfl,_,rfl,_,_,rfl,rfl,EM ⋯ ⋯,_,rfl,_,_,rfl,rfl,2,rfl,_,rfl,_,_,rfl,rfl,EM ⋯ ⋯,GJ,λf hf=>?_⟩⟩)
   have s5:=AR hf (.lst [.int (m*m - A),.int (-2*m),.int 1])
   have hff:upd J4 f (.lst [.int (m*m - A),.int (-2*m),.int 1]) f=some (.lst ([m*m - A,-2*m,1].map V.int)):=upd_same
   have L8:=L7.same s5
   generalize upd J4 f (.lst [.int (m*m - A),.int (-2*m),.int 1])=J5 at s5 hff L8 ⊢
   have r9:row.length<=9:=by omega
   refine ⟨w,f,row,[m*m - A,-2*m,1],36,10,rfl,L8.hrow,hff,L4.lz.1,(show 0<3 by decide),⋯,(show 3<=20 by decide),L4.rowB r9,three (show (m*m - A).natAbs<1024 by omega) (show (-2*m).natAbs<1024 by omega) (show (1:Int).natAbs<1024 by decide),∅,∅,λr G H9 s9 rn h9 gl lzG ck=>?_⟩
   have gl:G.length=row.length+3 - 1:=gl
   have pkq:∀ q∈[[m,A,1],[m,A,-1]],Pk q:=λq hq=>by
    rcases Bb.mp hq with z | z
    ·exact .inr ⟨m,A,1,z,iA,.inl rfl,m4⟩
    ·exact .inr ⟨m,A,-1,Az.mp z,iA,.inr rfl,m4⟩
   have hg5:=s5 _ _ y4
   have lv:=Lv.mk' (j:=2) L8 h9 (fz_irr' (m:=m) iA.pos) pkq ⟨_,s9 _ _ hg5,(pl7.tp (tpS s5)).tp (tpS s9)⟩ (L8.hd.same s9) (L8.hd.ne rn) g'p g'a (λz=>by rw [<-z,hg5] at rn;cases rn) rfl (show (1:Int)≠0 by decide) (by show (m*m - A).natAbs+((-2*m).natAbs+(1+0))<=225;omega) gl lzG ck
   exact ⟨⋯,r,g',G,_,_,_,_,rfl,lv.to (λ_ _ _ h=>h) (lv.hd.mono ⋯),⋯,by rw [C2];show pz.length+2<=_;omega⟩
  ·rintro σ H4 ⟨_,w,g,row,pz,o4,o6,o7,rfl,L4,rl,pl⟩
   have d2:d.toNat<=2:=by omega
   exact bare w g _ row pz H4 o4 o5 o6 o7 ⋯ L4 ⋯ ⋯
 refine B9 (Bz (CL (By ⟨_,rfl,p,ad,_,_,rfl,h1,∅,∅,∅,λd H2 d0 d1 h2 k2=>⟨rfl,_,rfl,AO (λ_=>EK (G1 ⟨_,rfl,p,ad,_,rfl,h2,∅,k⟩)) (λ_=>?_)⟩⟩)))
 show Qb K _ _ H2
 refine BE (IJ ⟨D6,λw hw=>?_⟩)
 have sw:=AR hw (.lst [.int 1])
 have hww:upd H2 w (.lst [.int 1]) w=some (.lst (([1]:List Int).map V.int)):=upd_same
 have wp:w≠p:=h2.ne hw
 have h3:=h2.same sw
 show Qa K _ _ (upd H2 w (.lst [.int 1]))
 generalize upd H2 w (.lst [.int 1])=H3 at sw hww h3 ⊢
 refine BE ⟨sz (AV _),λg hg=>?_⟩
 have sg:=AR hg (.lst [])
 have hgg:upd H3 g (.lst []) g=some (.lst []):=upd_same
 have gp:g≠p:=h3.ne hg
 have ga:g≠ad:=h3.ne2 hg
 have gw:g≠w:=λz=>by rw [z,hww] at hg;cases hg
 have h4:=h3.same sg
 have hw4:=sg _ _ hww
 show QZ K _ _ (upd H3 g (.lst []))
 generalize upd H3 g (.lst [])=H4 at sg hgg h4 hw4 ⊢
 have L4:Lv H4 p ad w g 2 [1] []:=⟨hw4,⟨∅,∅⟩,λz hz=>by rw [Az.mp hz];decide,Y0,⟨[],hgg,trivial⟩,(λq h=>nomatch h),h4.mono ∅,wp,gp,ga,gw⟩
 refine ⟨_,rfl,p,ad,_,_,rfl,L4.hd,∅,∅,∅,λd H5 d0 d1 h5 k5=>⟨d,rfl,⋯,⋯,ForR.by (λi σ H'=>i<=d.toNat/\∃ (w:Addr) (row:List Int) (pz:List (List Int)) (o4 o5:Option V),σ=[some (.ref s),some (.ref p),some (.ref w),some (.ref g),o4,o5,none,none,none,none,none,none,none,none,none]/\Lv H' p ad w g (4+4*i) row pz/\row.length=1+i/\pz.length=i) ⟨AV _,w,[1],[],none,none,rfl,(L4.to k5 h5).to (λ_ _ _ h=>h) (h5.mono ∅),rfl,rfl⟩ ?_ ?_⟩⟩
 ·rintro i σ H6 hi ⟨_,w,row,pz,o4,o5,rfl,L6,rl,pl⟩
  show QK K _ _ H6
  refine Ei ⟨_,rfl,p,ad,_,rfl,L6.hd,⋯,λr t d' H7 hr lt t9 d6 h7 k7=>?_⟩
  have L7:=L6.to k7 h7
  have dp:=lt.pos
  obtain ⟨us,hg,pls⟩:=L7.pl
  have ul:=pls.length
  show QJ K _ _ H7
  refine UG (Q3 rfl (FV hg) ⟨_,rfl,g,us,_,rfl,rfl,hg,sz ⋯,?_⟩)
  have tg:Tp H7 (upd H7 g (.lst (us++[V.ref r]))):=Tp.updL hg
  have kg:Kp g H7 (upd H7 g (.lst (us++[V.ref r]))):=Kp.upd
  have hg8:upd H7 g (.lst (us++[V.ref r])) g=some (.lst (us++[V.ref r])):=upd_same
  have h8:=L7.hd.upd (o:=.lst (us++[V.ref r])) gp ga
  show QH K _ _ (upd H7 g (.lst (us++[V.ref r])))
  generalize upd H7 g (.lst (us++[V.ref r]))=H8 at tg kg hg8 h8 ⊢
  have hr8:H8 r=some (.tup [.int t,.int d']):=tg _ _ hr
  have hw8:=kg _ _ L7.gw.symm L7.hrow
  have pl8:Pls H8 (us++[V.ref r]) (pz++[[t,d']]):=(pls.tp tg).append ⟨⟨r,rfl,hr8⟩,trivial⟩
  refine Dr (By ⟨_,rfl,IK ⟨_,rfl,_,_,_,_,rfl,rfl,hr8,rfl,_,rfl,_,rfl,_,_,_,_,rfl,rfl,hr8,rfl,Cw,λb hb=>?_⟩⟩)
  have sb:=AR hb (.lst [.int (-t),.int d'])
  have hbb:upd H8 b (.lst [.int (-t),.int d']) b=some (.lst ([-t,d'].map V.int)):=upd_same
  have h9:=h8.same sb
  generalize upd H8 b (.lst [.int (-t),.int d'])=H9 at sb hbb h9 ⊢
  have r9:row.length<=9:=by omega
  refine ⟨w,b,row,[-t,d'],36,10,rfl,sb _ _ hw8,hbb,L6.lz.1,(show 0<2 by decide),⋯,(show 2<=20 by decide),L6.rowB r9,λz hz=>?_,∅,∅,λr' G H10 s10 rn h10 gl lzG ck=>?_⟩
  ·rcases Bb.mp hz with q | q
   ·rw [q];show (-t).natAbs<1024;omega
   ·rw [Az.mp q];show d'.natAbs<1024;omega
  have gl:G.length=row.length+2 - 1:=gl
  have hg9:=sb _ _ hg8
  have pkq:∀ q∈[[t,d']],Pk q:=λq hq=>.inl ⟨t,d',Az.mp hq,lt,d6,t9⟩
  have lv:=Lv.mk' (j:=1) L7 h10 (LS (t:=t) dp) pkq ⟨_,s10 _ _ hg9,(pl8.tp (tpS sb)).tp (tpS s10)⟩ (h9.same s10) (h9.ne rn) gp ga (λz=>by rw [<-z,hg9] at rn;cases rn) rfl (show d'≠0 by omega) (by show (-t).natAbs+(d'.natAbs+0)<=15;omega) gl lzG ck
  exact ⟨⋯,r',G,_,_,_,rfl,lv.to (λ_ _ _ h=>h) (lv.hd.mono ⋯),⋯,by rw [C2,pl];rfl⟩
 ·rintro σ H6 ⟨_,w,row,pz,o4,o5,rfl,L6,rl,pl⟩
  have d3:d.toNat<=3:=by omega
  exact roots w g _ row pz H6 o4 o5 ⋯ L6 ⋯ ⋯
end Bs
namespace Bs
open PySem PySem.Spec PyProof.Rows L2
set_option maxHeartbeats 4000000
open Hd
structure Bl (K:W.Frag) (mg:Str->Option Value):Prop where
 abs:mg "abs" = none
 min:mg "min" = none
 len:mg "len" = none
 range:mg "range" = none
 list:mg "list" = none
 max:mg "max" = none
 any:mg "any" = none
 enumerate:mg "enumerate" = none
 zip:mg "zip" = none
 EXPONENTS:mg "EXPONENTS" = some (.ref (Fh K))
 reversed:mg "reversed" = none
 sum:mg "sum" = none
 tuple:mg "tuple" = none
 int:mg "int" = none
 isinstance:mg "isinstance" = none
 bool:mg "bool" = none
 xEXPONENTS:∀ H:Hp,SqT K H (Fh K) (exps.map λe:Nat=>V.int (e:Int))
section
variable {P:Program} {w:World} {K:W.Frag} {mg:Str->Option Value} {base:Heap} {f:Addr} {fd:FuncData}
theorem okm {n:Str} {st:Stmt} {N ps:List Str} {k:Nat} {sp:Sp} {t:TS} (F:Fun K n n st f fd) (v:∀ {vs:List V} {H:Hp} {Q:VK} {E:XK},sp vs H Q E->t { nx:=λ_ H'=>Q .non H',rt:=Q } (start N vs) H) (d:∀ {cdv:Value} {A:Around} {outer:List Env} {s:Shared} {H:Hp} {E:XK} (hr:Room k (A.deeper (envOfC n (Ci st) s.heap.objs.size f cdv))) (nd:N.Nodup) (hu:(A.deeper (envOfC n (Ci st) s.heap.objs.size f cdv)).units<cLine) (hu64:(A.deeper (envOfC n (Ci st) s.heap.objs.size f cdv)).units+64<cLine),PSs (FN CX0 P w K mg base N n (Ci st) f cdv A outer s H E).nox (Dk st) t) (S:FnScope N ps (Ci st):=by exact ⟨rfl,rfl,rfl,by decide +kernel,rfl,by decide +kernel,by decide +kernel⟩) (len:∀ vs H Q E,sp vs H Q E->vs.length=ps.length:=by intro vs H Q E h;repeat (first | (obtain ⟨rfl,_⟩:=h;rfl) | obtain ⟨_,h⟩:=h)):FnOk P w K mg base CX0 (k+1) f fd ps sp:=F.ok S len λcdv A outer s H vs Q E hr h=>⟨t,d hr S.nd hr.units0 hr.units,v h⟩
theorem li {a:Prop} {α:Type} {x:α}:x=x\/a:=Or.inl rfl
end
set_option maxHeartbeats 4000000
open Hd
theorem LZ {K:W.Frag} {st:Stmt} {f c:Addr} {n:Str} {pm:Value} (l:K.lookup f=some (fnO n st pm c)) (e:PySem.W.codeIn K (.ref c) n=true) (k:PySem.W.keepIn K (.ref f)=true):Fun K n n st f (PySem.W.fnOf n n (EI st) (Dk st) (Ci st) .none .none .none pm none (.ref c) .none):=S5 (st:=st) l e k
theorem ZO {P:Program} {K:W.Frag} {w:World} {h base:Heap} {mg:Str->Option Value} {k:Nat} {f:Addr} {fd:FuncData} {n:Str} {ps:List Str} {sp:Sp} (X:K.In h) (G:h.Ns mainGlobals mg) (ok:FnOk P w K mg base CX0 k f fd ps sp) (b:Binds K fd ps []) (e:PySem.W.keepIn K (.ref f)=true) (a:PySem.W.nsIn K mainGlobals n=some (some (.ref f))):Cal P w K mg base k n ps sp:=⟨f,fd,ok,b,e,PySem.W.mg_of X G a⟩
theorem HX {us:List Value} {n:Nat} (h:us.length=n+1):∃ x t,us=x::t/\t.length=n:=by cases us with | nil=>cases h | cons x t=>exact ⟨x,t,rfl,Nat.succ.inj h⟩
theorem RX (us:List Value) (h:us.length=1):∃ x0,us=[x0]:=by obtain ⟨x,t,rfl,q⟩:=HX h;exact ⟨x,by rw [CU.mp q]⟩
theorem RY (us:List Value) (h:us.length=2):∃ x0 x1,us=[x0,x1]:=by obtain ⟨x,t,rfl,q⟩:=HX h;obtain ⟨x1,rfl⟩:=RX t q;exact ⟨x,x1,rfl⟩
theorem RZ (us:List Value) (h:us.length=3):∃ x0 x1 x2,us=[x0,x1,x2]:=by obtain ⟨x,t,rfl,q⟩:=HX h;obtain ⟨x1,x2,rfl⟩:=RY t q;exact ⟨x,x1,x2,rfl⟩
theorem ZP (us:List Value) (h:us.length=4):∃ x0 x1 x2 x3,us=[x0,x1,x2,x3]:=by obtain ⟨x,t,rfl,q⟩:=HX h;obtain ⟨x1,x2,x3,rfl⟩:=RZ t q;exact ⟨x,x1,x2,x3,rfl⟩
theorem ZQ (us:List Value) (h:us.length=5):∃ x0 x1 x2 x3 x4,us=[x0,x1,x2,x3,x4]:=by obtain ⟨x,t,rfl,q⟩:=HX h;obtain ⟨x1,x2,x3,x4,rfl⟩:=ZP t q;exact ⟨x,x1,x2,x3,x4,rfl⟩
theorem Aw {P:Program} {K:W.Frag} {w:World} {h base:Heap} {mg:Str->Option Value} {k:Nat} {f c:Addr} {n:Str} {ps:List Str} {sp:Sp} {st:Stmt} {pm:Value} (X:K.In h) (G:h.Ns mainGlobals mg) (ok:Fun K n n st f (PySem.W.fnOf n n (EI st) (Dk st) (Ci st) .none .none .none pm none (.ref c) .none)->FnOk P w K mg base CX0 k f (PySem.W.fnOf n n (EI st) (Dk st) (Ci st) .none .none .none pm none (.ref c) .none) ps sp) (l:K.lookup f=some (fnO n st pm c):=by kernel_rfl) (e:PySem.W.codeIn K (.ref c) n=true:=by kernel_rfl) (q:PySem.W.keepIn K (.ref f)=true:=by kernel_rfl) (a:PySem.W.nsIn K mainGlobals n=some (some (.ref f)):=by kernel_rfl) (b:∀ (kV doc pm:Value) (an:Option Addr) (cdv ct:Value) (us:List Value),us.length=ps.length->bindArgs (PySem.W.fnOf n n (EI st) (Dk st) (Ci st) .none kV doc pm an cdv ct) ⟨us,[]⟩=pure (ps.zip us):=by first | exact λ_ _ _ _ _ _ us hl=>by obtain ⟨_,rfl⟩:=RX us hl;rfl | exact λ_ _ _ _ _ _ us hl=>by obtain ⟨_,_,rfl⟩:=RY us hl;rfl | exact λ_ _ _ _ _ _ us hl=>by obtain ⟨_,_,_,rfl⟩:=RZ us hl;rfl | exact λ_ _ _ _ _ _ us hl=>by obtain ⟨_,_,_,_,_,rfl⟩:=ZQ us hl;rfl):Cal P w K mg base k n ps sp:=ZO X G (ok (LZ l e q)) ((LZ l e q).binds b) q a
noncomputable abbrev CaH (P:Program) (w:World) (mg:Str->Option Value) (base:Heap) (k:Nat) (n:Str) (ps:List Str) (sp:W.Frag->Sp):Prop:=Cal P w (hp w.params) mg base k n ps (sp (hp w.params))
section
variable {P:Program} {w:World} {mg:Str->Option Value} {base h:Heap} (X:(hp w.params).In h) (G:h.Ns mainGlobals mg) (B:Bl (hp w.params) mg)
include X G B
theorem GZ:CaH P w mg base 1 "common_divisor" ["one", "other"] Ej:=Aw (f:=22) (c:=21) (pm:=mo0) (st:=S6) X G λF=>okm F (W4 ) λhr nd hu ht=>(AH (Eb PassesOwn.never (cR Ec (pv 1) AD) (AH (asS nd (AI SH (pv 0) (pv 1))) (AH (asS nd (pv 1)) (AM (asS nd (pv 2)))))) (AM (Ad (At F7 rfl B.abs F4 (AE (pv 0) AK)))))
theorem ZR:CaH P w mg base 1 "raised" ["whole", "n"] IU:=Aw (f:=29) (c:=28) (pm:=mo0) (st:=S7) X G λF=>okm F (W6 ) λhr nd hu ht=>(AH (asS nd AD) (AH (asS nd (pv 0)) (AH (Eb PassesOwn.never (cR DU (pv 1) AD) (AH (BD (cR Cu (AI Ct (pv 1) AD) AD) (AM (Dh (i:=2) nd rfl li (pv 3) E4)) BH) (AH (Dh (i:=1) nd rfl li AD Uk) (AM (BD (cR DU (pv 1) AD) (AM (Dh (i:=3) nd rfl li (pv 3) E4)) BH))))) (AM (Ad (pv 2))))))
theorem La:CaH P w mg base 1 "row_trimmed" ["row"] GN:=Aw (f:=41) (c:=40) (pm:=mo0) (st:=S9) X G λF=>okm F (W8 ) λhr nd hu ht=>(AH (asS nd (At Bg rfl B.len BY (AE (pv 0) AK))) (AH (Eb PassesOwn.never (PW.pt (Dw (cR DU (pv 1) AD) (EF (cR Cu (B8 Aj (pv 0) (AI BJ (pv 1) AD) (λ_ _=>rfl)) AD)))) (AM (Dh (i:=1) nd rfl li AD Hj))) (AM (Ad (FP Gs (pv 0) FO (Ez (pv 1)))))))
theorem ZS:CaH P w mg base 1 "row_parted" ["row", "divisor"] IW:=Aw (f:=46) (c:=45) (pm:=mo0) (st:=TB) X G λF=>okm F (XJ ) λhr nd hu ht=>(AM (Ad (D4 (N:=["whole", "divisor"]) (capt:=[none,some 1]) rfl (BlkOk.of rfl rfl rfl rfl (Df.mpr rfl) rfl rfl rfl) (C3 (pv 0)) (λ_ _ _ _=>(Ao (i:=0) (show (["whole", "divisor"]:List PySem.Str).Nodup by decide +kernel) rfl li)) (λ_ _ _ _=>(AI Gv (pv 0) (pv 1))))))
theorem ZT:CaH P w mg base 1 "row_slope" ["row"] Ik:=Aw (f:=51) (c:=50) (pm:=mo0) (st:=TC) X G λF=>okm F (YH ) λhr nd hu ht=>(AM (Ad (D4 (N:=["place", "row"]) (capt:=[none,some 0]) rfl (BlkOk.of rfl rfl rfl rfl (Df.mpr rfl) rfl rfl rfl) (Lp rfl B.range (AE AD (AE (At Bg rfl B.len BY (AE (pv 0) AK)) AK))) (λ_ _ _ _=>(Ao (i:=0) (show (["place", "row"]:List PySem.Str).Nodup by decide +kernel) rfl li)) (λ_ _ _ _=>(AI Aq (pv 0) (B8 Aj (pv 1) (pv 0) (λ_ _=>rfl)))))))
theorem Lb:CaH P w mg base 1 "row_over" ["row", "divisor"] GO:=Aw (f:=58) (c:=57) (pm:=mo0) (st:=TD) X G λF=>okm F (XR ) λhr nd hu ht=>(AH (asS nd (Ey Gu rfl B.list F6 (AE (pv 0) AK))) (AH (asS nd (AI BJ (At Bg rfl B.len BY (AE (pv 1) AK)) AD)) (AH (asS nd (AI Hk (B3 (AE AD AK)) (At (Gp rfl) rfl B.max F5 (AE (AI BJ (At Bg rfl B.len BY (AE (pv 0) AK)) (pv 3)) (AE AD AK))))) (AH (B7 PassesOwn.never rfl (Hu rfl B.range (AE (AI BJ (AI BJ (At Bg rfl B.len BY (AE (pv 0) AK)) (pv 3)) AD) (AE (BU BV AD) (AE (BU BV AD) AK)))) (Ao (i:=5) nd rfl li) (AH (asS nd (AI E9 (B8 Aj (pv 2) (AI BQ (pv 5) (pv 3)) (λ_ _=>rfl)) (B8 Aj (pv 1) (BU BV AD) (λ_ _=>rfl)))) (AH (BD (cR Ec (AI Aq (pv 6) (B8 Aj (pv 1) (BU BV AD) (λ_ _=>rfl))) (B8 Aj (pv 2) (AI BQ (pv 5) (pv 3)) (λ_ _=>rfl))) (AM (Ad CN)) BH) (AH (Dx (pv 6) (Eu (pv 4) (pv 5) DV)) (AM (BD (cR Ec (pv 6) AD) (AM (B7 PassesOwn.never rfl (Ew rfl B.range (AE (pv 3) AK)) (Ao (i:=7) nd rfl li) (AM (Fx (pv 2) (AI BQ (pv 5) (pv 7)) F9 (AI Aq (pv 6) (B8 Aj (pv 1) (pv 7) (λ_ _=>rfl))) Hj DV)))) BH)))))) (AM (Ad (Fv (Et (At (U4 rfl) rfl B.any U3 (AE (FP Gs (pv 2) FO (Ez (pv 3))) AK))) CN (pv 4))))))))
theorem ZU:CaH P w mg base 1 "root_exponent" ["row"] Kd:=Aw (f:=65) (c:=64) (pm:=mo0) (st:=TF) X G λF=>okm F (Ye ) λhr nd hu ht=>(AH (asS nd (B3 AK)) (AH (B7 PassesOwn.never rfl (Lp rfl B.range (AE AD (AE (At Bg rfl B.len BY (AE (pv 0) AK)) AK))) (Ao (i:=2) nd rfl li) (AH (asS nd (B8 Aj (pv 0) (AI BJ (AI BJ (At Bg rfl B.len BY (AE (pv 0) AK)) AD) (pv 2)) (λ_ _=>rfl))) (AM (BD (cR Ec (pv 3) AD) (AM (Fw (F2 PySem.F.plainAttrs_list PySem.F.slot_list_append PySem.F.type_list_append Gn (pv 1) (AE (BU BV (AI Gv (AI BJ (AI BJ (JT PySem.F.plainAttrs_int PySem.F.slot_int_bit_length PyProof.Rows.type_int_bit_length Mj (B8 Aj (pv 0) (BU BV AD) (λ_ _=>rfl))) (JT PySem.F.plainAttrs_int PySem.F.slot_int_bit_length PyProof.Rows.type_int_bit_length Mj (pv 3))) AD) (pv 2))) AK)))) BH)))) (AM (Ad (AI BQ AD (VM rfl B.max F5 (pv 1)))))))
theorem Lc:CaH P w mg base 1 "row_moved" ["row", "whole"] GR:=Aw (f:=77) (c:=76) (pm:=mo0) (st:=TJ) X G λF=>okm F (Yg ) λhr nd hu ht=>(AH (asS nd (Ey Gu rfl B.list F6 (AE (pv 0) AK))) (AH (B7 PassesOwn.never rfl (Ew rfl B.range (AE (AI BJ (At Bg rfl B.len BY (AE (pv 0) AK)) AD) AK)) (Ao (i:=3) nd rfl li) (AM (B7 PassesOwn.never rfl (Hu rfl B.range (AE (AI BJ (At Bg rfl B.len BY (AE (pv 0) AK)) AD) (AE (AI BJ (pv 3) AD) (AE (BU BV AD) AK)))) (Ao (i:=4) nd rfl li) (AM (Fx (pv 2) (pv 4) F9 (AI Aq (pv 1) (B8 Aj (pv 2) (AI BQ (pv 4) AD) (λ_ _=>rfl))) Gh DV))))) (AM (Ad (pv 2)))))
theorem ZV:CaH P w mg base 1 "inverse_modulo" ["whole", "prime"] IZ:=Aw (f:=108) (c:=107) (pm:=mo0) (st:=TQ) X G λF=>okm F (XV ) λhr nd hu ht=>(AH (asS nd (pv 1)) (AH (asS nd (AI Ct (pv 0) (pv 1))) (AH (asS nd AD) (AH (asS nd AD) (AH (Eb PassesOwn.never (cR Ec (pv 3) AD) (AH (asS nd (AI Gv (pv 2) (pv 3))) (AH (asS nd (AI BJ (pv 2) (AI Aq (pv 6) (pv 3)))) (AH (asS nd (pv 3)) (AH (asS nd (pv 7)) (AH (asS nd (AI BJ (pv 4) (AI Aq (pv 6) (pv 5)))) (AH (asS nd (pv 5)) (AM (asS nd (pv 7)))))))))) (AM (Ad (AI Ct (pv 4) (pv 1)))))))))
theorem ZW:CaH P w mg base 1 "rests_modulo" ["row", "prime"] Ia:=Aw (f:=113) (c:=112) (pm:=mo0) (st:=TR) X G λF=>okm F (XS ) λhr nd hu ht=>(AM (Ad (D4 (N:=["whole", "prime"]) (capt:=[none,some 1]) rfl (BlkOk.of rfl rfl rfl rfl (Df.mpr rfl) rfl rfl rfl) (C3 (pv 0)) (λ_ _ _ _=>(Ao (i:=0) (show (["whole", "prime"]:List PySem.Str).Nodup by decide +kernel) rfl li)) (λ_ _ _ _=>(AI Ct (pv 0) (pv 1))))))
theorem ZX:CaH P w mg base 1 "nearest" ["whole", "prime"] Ie:=Aw (f:=153) (c:=152) (pm:=mo0) (st:=TZ) X G λF=>okm F (XX ) λhr nd hu ht=>(AH (asS nd (AI Ct (pv 0) (pv 1))) (AM (Ad (Fv (cR DU (AI Aq AD (pv 2)) (pv 1)) (AI BJ (pv 2) (pv 1)) (pv 2)))))
theorem Le:CaH P w mg base 1 "before" ["one", "other"] HG:=Aw (f:=184) (c:=183) (pm:=mo1) (st:=Te) X G λF=>okm F (Yb ) λhr nd hu ht=>(AM (Ad (Ex EH (AI Aq (xI Ai (pv 0)) (xI Ai (pv 1))) (AI Aq (xI Ai (pv 1)) (xI Ai (pv 0))) (nomark _))))
theorem ZY:CaH P w mg base 1 "halved" ["row"] Kf:=Aw (f:=222) (c:=221) (pm:=mo3) (st:=Tk) X G λF=>okm F (Yl ) λhr nd hu ht=>(AH (Dy (i:=1) nd rfl (Or.inr rfl) (AI BJ (At Bg rfl B.len BY (AE (pv 0) AK)) AD)) (AM (Ad (D4 (N:=["place", "whole", "last"]) (capt:=[none,none,some 1]) rfl (BlkOk.of rfl rfl rfl rfl (Df.mpr rfl) rfl rfl rfl) (Hs rfl B.enumerate (AE (pv 0) AK)) (λ_ _ _ _=>(E7 rfl (CW (Ao (i:=0) (show (["place", "whole", "last"]:List PySem.Str).Nodup by decide +kernel) rfl li) (CW (Ao (i:=1) (show (["place", "whole", "last"]:List PySem.Str).Nodup by decide +kernel) rfl li) Ea)))) (λ_ _ _ _=>(AI Jm (pv 1) (AI BJ (pv 2) (pv 0))))))))
theorem ZZ:CaH P w mg base 1 "sign_changes" ["row"] Ke:=Aw (f:=229) (c:=228) (pm:=mo3) (st:=Tl) X G λF=>okm F (Yi ) λhr nd hu ht=>(AH (asS nd AD) (AH (asS nd AD) (AH (B7 PassesOwn.never rfl (C3 (pv 0)) (Ao (i:=3) nd rfl li) (AM (BD (cR Ec (pv 3) AD) (AH (BD (cR EH (AI Aq (pv 2) (pv 3)) AD) (AM (Dh (i:=1) nd rfl li AD Gh)) BH) (AM (asS nd (Fv (cR DU (pv 3) AD) AD (BU BV AD))))) BH))) (AM (Ad (pv 1))))))
theorem Za:CaH P w mg base 1 "_law_hand" ["_law_script"] Ii:=Aw (f:=236) (c:=235) (pm:=mo4) (st:=Tm) X G λF=>okm F (X2 ) λhr nd hu ht=>(AH (asS nd (At (Mf rfl) rfl B.sum MT (AE (FP Mc (pv 0) FO (Ez AD)) AK))) (AM (Ad (B3 (AE (Ey Gu rfl B.list F6 (AE (FP Mc (pv 0) FO (Ez AD)) AK)) (AE AD (AE (AI Jb (At F7 rfl B.abs F4 (AE (pv 1) AK)) AD) (AE (AI Ct (pv 1) AD) AK))))))))
theorem CS:CaH P w mg base 1 "_law_draw" ["_law_hand_here", "_law_many"] CG:=Aw (f:=243) (c:=242) (pm:=mo4) (st:=Tn) X G λF=>okm F (X3 ) λhr nd hu ht=>(AH (BD (PW.pt (Dw (cR Cu (xI Aj (pv 0)) AD) (Dw (cR Cu (xI Aj (pv 0)) AD) (EF (cR EH (AI BQ (xI Aj (pv 0)) AD) (At Bg rfl B.len BY (AE (xI Aj (pv 0)) AK))))))) (AH (Dx (AI BQ (xI Aj (pv 0)) AD) (Eu (pv 0) AD DV)) (AM (Dx (At F7 rfl B.abs F4 (AE (B8 Aj (xI Aj (pv 0)) (xI Aj (pv 0)) (λ_ _=>rfl)) AK)) (Eu (pv 0) AD DV)))) BH) (AH (BD (PW.pt (Dw (cR Cu (xI Aj (pv 0)) AD) (EF (cR DU (xI Aj (pv 0)) AD)))) (AH (asS nd (AI Ct (xI Aj (pv 0)) (pv 1))) (AH (Dx (AI Jb (xI Aj (pv 0)) (pv 1)) (Eu (pv 0) AD DV)) (AM (Ad (pv 2))))) BH) (AH (Dx (AI BQ (xI Aj (pv 0)) AD) (Eu (pv 0) AD DV)) (AH (asS nd (At (Mf rfl) rfl B.sum MT (AE (FP Gs (FP Gs (xI Aj (pv 0)) (Ez (AI Ct (xI Aj (pv 0)) (At (Gp rfl) rfl B.max F5 (AE AD (AE (At Bg rfl B.len BY (AE (xI Aj (pv 0)) AK)) AK))))) FO) FO (Ez AD)) AK))) (AH (asS nd (AI Ct (AI Aq (AI BQ (AI BQ (AI Ct (pv 3) AD) (AI Aq AD (xI Aj (pv 0)))) AD) (AI BQ AD (AI Aq AD (xI Aj (pv 0))))) AD)) (AH (asS nd (AI Ct (AI BQ (AI Aq (pv 4) (AI BQ (AI Ct (pv 4) AD) (xI Aj (pv 0)))) (AI Aq AD (xI Aj (pv 0)))) AD)) (AM (Ad (AI Ct (AI Jb (pv 5) AD) (pv 1))))))))))
theorem HY:CaH P w mg base 1 "_law_lowest" ["_law_top", "_law_bottom"] FF:=Aw (f:=250) (c:=249) (pm:=mo4) (st:=To) X G λF=>okm F (X4 ) λhr nd hu ht=>(AH (JO (i:=2) (j:=3) rfl nd rfl rfl ∅ rfl rfl (AE (At F7 rfl B.abs F4 (AE (pv 0) AK)) (AE (At F7 rfl B.abs F4 (AE (pv 1) AK)) AK)) rfl) (AH (Eb PassesOwn.never (cR DU (pv 3) AD) (AM (JO (i:=2) (j:=3) rfl nd rfl rfl ∅ rfl rfl (AE (pv 3) (AE (AI Ct (pv 2) (pv 3)) AK)) rfl))) (AH (BD (cR EH (pv 1) AD) (AM (asS nd (BU BV (pv 2)))) BH) (AM (Ad (Cf (AE (AI E9 (pv 0) (pv 2)) (AE (AI E9 (pv 1) (pv 2)) AK))))))))
theorem HZ:CaH P w mg base 1 "_law_row_times" ["_law_one", "_law_other"] FG:=Aw (f:=257) (c:=256) (pm:=mo4) (st:=Tq) X G λF=>okm F (X7 ) λhr nd hu ht=>(AH (asS nd (AI Hk (B3 (AE AD AK)) (AI BJ (AI BQ (At Bg rfl B.len BY (AE (pv 0) AK)) (At Bg rfl B.len BY (AE (pv 1) AK))) AD))) (AH (B7 PassesOwn.never rfl (Hs rfl B.enumerate (AE (pv 0) AK)) (E7 rfl (CW (Ao (i:=3) nd rfl li) (CW (Ao (i:=4) nd rfl li) Ea))) (AM (B7 PassesOwn.never rfl (Hs rfl B.enumerate (AE (pv 1) AK)) (E7 rfl (CW (Ao (i:=5) nd rfl li) (CW (Ao (i:=6) nd rfl li) Ea))) (AM (Dx (AI BQ (B8 Aj (pv 2) (AI BQ (pv 3) (pv 5)) (λ_ _=>rfl)) (AI Aq (pv 4) (pv 6))) (Eu (pv 2) (AI BQ (pv 3) (pv 5)) DV)))))) (AM (Ad (pv 2)))))
theorem Ra:CaH P w mg base 1 "_law_above" ["_law_c", "_law_place"] Io:=Aw (f:=290) (c:=289) (pm:=mo4) (st:=Tv) X G λF=>okm F (ZB ) λhr nd hu ht=>(AH (BD (cR Cu (At MW rfl B.len BY (AE (pv 1) AK)) AD) (AM (Ad (Ex DU (AI Aq (xI Ai (pv 1)) (xI Ai (pv 0))) (AI Aq (xI Ai (pv 0)) (xI Ai (pv 1))) (nomark _)))) BH) (AH (Dx (pv 1) (E7 rfl (CW (Ao (i:=2) nd rfl li) (CW (Ao (i:=3) nd rfl li) (CW (Ao (i:=4) nd rfl li) Ea))))) (AH (asS nd (AI BJ (xI Ai (pv 0)) (AI Aq (pv 2) (xI Ai (pv 0))))) (AH (BD (cR DU (pv 4) AD) (AM (Ad (Ln (Ex EH (pv 5) AD (nomark _)) (JN (Ex DU (AI Aq (AI Aq (pv 3) (xI Ai (pv 0))) (xI Ai (pv 0))) (AI Aq (pv 5) (pv 5)) (nomark _)))))) BH) (AM (Ad (R3 (Ex EH (pv 5) AD (nomark _)) (JN (Ex EH (AI Aq (AI Aq (pv 3) (xI Ai (pv 0))) (xI Ai (pv 0))) (AI Aq (pv 5) (pv 5)) (nomark _))))))))))
theorem Zb:CaH P w mg base 2 "content" ["row", "start"] IV:=Aw (f:=34) (c:=33) (pm:=mo0) (st:=S8) X G λF=>okm F (XI ) λhr nd hu ht=>(AH (asS nd ((GZ X G B).q2 hr (VN rfl B.min UQ (Mz (N:=["whole"]) (capt:=[none]) rfl (BlkOk.of rfl rfl rfl rfl (λ_ h=>nomatch h) rfl rfl rfl) (C3 (pv 0)) (λ_ _ _ _=>(Ao (i:=0) (show (["whole"]:List PySem.Str).Nodup by decide +kernel) rfl li)) (λ_ _ _ _=>(cR Ec (pv 0) AD)) (λ_ _ _ _=>(At F7 rfl B.abs F4 (AE (pv 0) AK))))) (pv 1))) (AH (B7 PassesOwn.never rfl (C3 (pv 0)) (Ao (i:=3) nd rfl li) (AH (BD (cR Cu (pv 2) AD) (AM (Ad AD)) BH) (AM (asS nd ((GZ X G B).q2 hr (pv 3) (pv 2)))))) (AM (Ad (pv 2)))))
theorem Zc:CaH P w mg base 2 "row_less" ["row", "factor", "other", "weight", "shift"] IX:=Aw (f:=70) (c:=69) (pm:=mo0) (st:=TH) X G λF=>okm F (XN ) λhr nd hu ht=>(AH (My (i:=5) (N:=["whole", "factor"]) (capt:=[none,some 1]) nd rfl li rfl (BlkOk.of rfl rfl rfl rfl (Df.mpr rfl) rfl rfl rfl) (C3 (pv 0)) (λ_ _ _ _=>(Ao (i:=0) (show (["whole", "factor"]:List PySem.Str).Nodup by decide +kernel) rfl li)) (λ_ _ _ _=>(AI Aq (pv 1) (pv 0)))) (AH (Fw (F2 PySem.F.plainAttrs_list PySem.F.slot_list_extend PySem.F.type_list_extend Sq (pv 5) (AE (AI Hk (B3 (AE AD AK)) (AI BJ (AI BQ (At Bg rfl B.len BY (AE (pv 2) AK)) (pv 4)) (At Bg rfl B.len BY (AE (pv 0) AK)))) AK))) (AH (B7 PassesOwn.never rfl (Hs rfl B.enumerate (AE (pv 2) AK)) (E7 rfl (CW (Ao (i:=6) nd rfl li) (CW (Ao (i:=7) nd rfl li) Ea))) (AM (Fx (pv 5) (AI BQ (pv 6) (pv 4)) F9 (AI Aq (pv 3) (pv 7)) Hj DV))) (AM (Ad ((La X G B).q1 hr (pv 5)))))))
theorem Lf:CaH P w mg base 2 "row_modulo" ["row", "prime"] GP:=Aw (f:=120) (c:=119) (pm:=mo0) (st:=TU) X G λF=>okm F (XU ) λhr nd hu ht=>(AM (Ad ((La X G B).q1 hr ((ZW X G B).q2 hr (pv 0) (pv 1)))))
theorem Lg:CaH P w mg base 2 "monic_modulo" ["row", "prime"] GQ:=Aw (f:=125) (c:=124) (pm:=mo0) (st:=TV) X G λF=>okm F (XW ) λhr nd hu ht=>(AH (BD (JL (F8 (pv 0) (λ_=>rfl))) (AM (Ad (B3 AK))) BH) (AH (Dy (i:=2) nd rfl (Or.inr rfl) ((ZV X G B).q2 hr (B8 Aj (pv 0) (BU BV AD) (λ_ _=>rfl)) (pv 1))) (AM (Ad (D4 (N:=["whole", "prime", "factor"]) (capt:=[none,some 1,some 2]) rfl (BlkOk.of rfl rfl rfl rfl (List.forall_mem_cons.mpr ⟨rfl,(Df.mpr rfl)⟩) rfl rfl rfl) (C3 (pv 0)) (λ_ _ _ _=>(Ao (i:=0) (show (["whole", "prime", "factor"]:List PySem.Str).Nodup by decide +kernel) rfl li)) (λ_ _ _ _=>(AI Ct (AI Aq (pv 0) (pv 2)) (pv 1))))))))
theorem Zd:CaH P w mg base 2 "ratio" ["top", "bottom"] HD:=Aw (f:=177) (c:=176) (pm:=mo1) (st:=Td) X G λF=>okm F (XC ) λhr nd hu ht=>(AH (asS nd ((GZ X G B).q2 hr (pv 0) (pv 1))) (AH (BD (cR EH (pv 1) AD) (AM (asS nd (BU BV (pv 2)))) BH) (AM (Ad (Cf (AE (AI E9 (pv 0) (pv 2)) (AE (AI E9 (pv 1) (pv 2)) AK)))))))
theorem Rb:CaH P w mg base 2 "cleared" ["P"] HE:=Aw (f:=189) (c:=188) (pm:=mo2) (st:=Tf) X G λF=>okm F (XD ) λhr nd hu ht=>(AH (Dy (i:=1) nd rfl (Or.inr rfl) AD) (AH (B7 PassesOwn.never rfl (JP (pv 0)) (Ao (i:=2) nd rfl li) (AM (Dh (i:=1) nd rfl (Or.inr rfl) (AI Gv (xI Ai (pv 2)) ((GZ X G B).q2 hr (pv 1) (xI Ai (pv 2)))) E4))) (AM (Ad (Cf (AE (D4 (N:=["number", "bottom"]) (capt:=[none,some 1]) rfl (BlkOk.of rfl rfl rfl rfl (Df.mpr rfl) rfl rfl rfl) (JP (pv 0)) (λ_ _ _ _=>(Ao (i:=0) (show (["number", "bottom"]:List PySem.Str).Nodup by decide +kernel) rfl li)) (λ_ _ _ _=>(AI Aq (xI Ai (pv 0)) (AI Gv (pv 1) (xI Ai (pv 0)))))) (AE (pv 1) AK)))))))
theorem Ze:CaH P w mg base 2 "stretched" ["row", "start", "end"] Kh:=Aw (f:=210) (c:=209) (pm:=mo3) (st:=Ti) X G λF=>okm F (Yp ) λhr nd hu ht=>(AH (asS nd (AI Aq (xI Ai (pv 1)) (xI Ai (pv 2)))) (AH (asS nd (Ey Gu rfl B.list F6 (AE (pv 0) AK))) (AH (asS nd AD) (AH (B7 PassesOwn.never rfl (Hu rfl B.range (AE (AI BJ (At Bg rfl B.len BY (AE (pv 0) AK)) AD) (AE (BU BV AD) (AE (BU BV AD) AK)))) (Ao (i:=6) nd rfl li) (AH (Fx (pv 4) (pv 6) F9 (pv 5) E4 DV) (AM (Dh (i:=5) nd rfl li (pv 3) E4)))) (AH (asS nd ((Lc X G B).q2 hr (pv 4) (AI Aq (xI Ai (pv 1)) (xI Ai (pv 2))))) (AH (asS nd AD) (AH (B7 PassesOwn.never rfl (Ew rfl B.range (AE (At Bg rfl B.len BY (AE (pv 0) AK)) AK)) (Ao (i:=6) nd rfl li) (AH (Fx (pv 4) (pv 6) F9 (pv 5) E4 DV) (AM (Dh (i:=5) nd rfl li (AI BJ (AI Aq (xI Ai (pv 2)) (xI Ai (pv 1))) (AI Aq (xI Ai (pv 1)) (xI Ai (pv 2)))) E4)))) (AM (Ad (pv 4))))))))))
theorem Zf:CaH P w mg base 2 "count_within" ["row"] Kg:=Aw (f:=217) (c:=216) (pm:=mo3) (st:=Tj) X G λF=>okm F (Yo ) λhr nd hu ht=>(AH (asS nd AD) (AH (asS nd (B3 (AE (pv 0) AK))) (AH (Eb PassesOwn.never (F8 (pv 2) (λ_=>rfl)) (AH (asS nd (JT PySem.F.plainAttrs_list PySem.F.slot_list_pop PySem.F.type_list_pop Ss (pv 2))) (AH (asS nd ((ZZ X G B).q1 hr ((Lc X G B).q2 hr (U9 (pv 3) (BU BV AD)) AD))) (AH (BD (cR Cu (pv 4) AD) (AM (Dh (i:=1) nd rfl li AD Gh)) BH) (AM (BD (cR DU (pv 4) AD) (AH (asS nd ((ZY X G B).q1 hr (pv 3))) (AH (asS nd ((Lc X G B).q2 hr (pv 5) AD)) (AH (BD (cR Cu (xI Aj (pv 6)) AD) (AM (Dh (i:=1) nd rfl li AD Gh)) BH) (AH (Fw (F2 PySem.F.plainAttrs_list PySem.F.slot_list_append PySem.F.type_list_append Gn (pv 2) (AE (pv 5) AK))) (AM (Fw (F2 PySem.F.plainAttrs_list PySem.F.slot_list_append PySem.F.type_list_append Gn (pv 2) (AE (pv 6) AK)))))))) BH)))))) (AM (Ad (pv 1))))))
theorem Rc:CaH P w mg base 2 "_law_poly_of" ["_law_row", "_law_scale_here"] HF:=Aw (f:=262) (c:=261) (pm:=mo4) (st:=Tr) X G λF=>okm F (X5 ) λhr nd hu ht=>(AM (Ad (Ey Uj rfl B.tuple US (AE (D4 (N:=["_law_one", "_law_scale_here"]) (capt:=[none,some 1]) rfl (BlkOk.of rfl rfl rfl rfl (Df.mpr rfl) rfl rfl rfl) (C3 (pv 0)) (λ_ _ _ _=>(Ao (i:=0) (show (["_law_one", "_law_scale_here"]:List PySem.Str).Nodup by decide +kernel) rfl li)) (λ_ _ _ _=>((HY X G B).q2 hr (AI Aq (pv 0) (xI Ai (pv 1))) (xI Ai (pv 1))))) AK))))
theorem Re:CaH P w mg base 2 "_law_root" ["_law_hand_here", "_law_great"] Im:=Aw (f:=269) (c:=268) (pm:=mo4) (st:=Ts) X G λF=>okm F (Y9 ) λhr nd hu ht=>(AH (asS nd (AI BJ ((CS X G B).q2 hr (pv 0) AD) AD)) (AH (asS nd (AI BQ AD ((CS X G B).q2 hr (pv 0) AD))) (AH (BD (Et (pv 1)) (AH (asS nd (AI BQ (AI BJ ((CS X G B).q2 hr (pv 0) (AI BJ (AI Aq AD (AI Go AD AD)) AD)) (AI Go AD AD)) AD)) (AM (asS nd (AI BQ AD ((CS X G B).q2 hr (pv 0) (AI Go AD AD)))))) BH) (AM (Ad ((HY X G B).q2 hr (pv 2) (pv 3)))))))
theorem Zg:CaH P w mg base 2 "_law_scale" ["_law_hand_here"] Ij:=Aw (f:=276) (c:=275) (pm:=mo4) (st:=Tt) X G λF=>okm F (YA ) λhr nd hu ht=>(AM (Ad ((HY X G B).q2 hr (AI Aq (B8 Aj (B3 (AE AD (AE (BU BV AD) AK))) ((CS X G B).q2 hr (pv 0) AD) (λ_ _=>rfl)) (AI BQ AD ((CS X G B).q2 hr (pv 0) AD))) (AI BQ AD ((CS X G B).q2 hr (pv 0) AD)))))
theorem Zh:CaH P w mg base 2 "_law_span" ["_law_hand_here", "_law_some"] Ki:=Aw (f:=283) (c:=282) (pm:=mo4) (st:=Tu) X G λF=>okm F (ZD ) λhr nd hu ht=>(AH (asS nd (B3 AK)) (AH (B7 PassesOwn.never rfl (Ew rfl B.range (AE AD AK)) (Ao (i:=3) nd rfl li) (AH (asS nd ((CS X G B).q2 hr (pv 0) AD)) (AH (asS nd ((HY X G B).q2 hr (AI BJ ((CS X G B).q2 hr (pv 0) AD) AD) (AI BQ AD ((CS X G B).q2 hr (pv 0) AD)))) (AH (BD (cR Cu (pv 4) AD) (AM (asS nd CN)) BH) (AH (BD (PW.pt (Dw (cR Cu (pv 4) AD) (EF (cR (Ui ht) (pv 1) (B3 AK))))) (AM (asS nd (B8 Aj (pv 1) ((CS X G B).q2 hr (pv 0) (At Bg rfl B.len BY (AE (pv 1) AK))) (λ_ _=>rfl)))) BH) (AM (Fw (F2 PySem.F.plainAttrs_list PySem.F.slot_list_append PySem.F.type_list_append Gn (pv 2) (AE (pv 5) AK))))))))) (AH (Dx (pv 2) (U7 rfl (CW (Ao (i:=6) nd rfl li) (CW (Ao (i:=7) nd rfl li) Ea)))) (AH (BD (PW.pt (Dw (cR Gj (pv 6) CN) (EF (cR Gj (pv 7) CN)))) (AM (BD (cR (Je ht) (pv 6) (pv 7)) (AM (asS nd (Cf (AE (AI BQ (xI Ai (pv 6)) (xI Ai (pv 6))) (AE (xI Ai (pv 6)) AK))))) (AM (BD (cR DU (AI Aq (xI Ai (pv 6)) (xI Ai (pv 7))) (AI Aq (xI Ai (pv 7)) (xI Ai (pv 6)))) (AM (JO (i:=6) (j:=7) rfl nd rfl rfl ∅ rfl rfl (AE (pv 7) (AE (pv 6) AK)) rfl)) BH)))) BH) (AM (Ad (Cf (AE (pv 6) (AE (pv 7) AK)))))))))
theorem Zi:CaH P w mg base 2 "_law_counted" ["_law_places", "_law_low", "_law_high"] Kj:=Aw (f:=297) (c:=296) (pm:=mo4) (st:=Tw) X G λF=>okm F (ZC ) λhr nd hu ht=>(AH (asS nd AD) (AH (B7 PassesOwn.never rfl (C3 (pv 0)) (Ao (i:=4) nd rfl li) (AH (asS nd (Ln (Ex Gi (pv 1) CN (nomark _)) (JN ((Ra X G B).q2 hr (pv 1) (pv 4))))) (AH (BD (PW.pt (Dw (cR Gj (pv 2) CN) (EF (Et ((Ra X G B).q2 hr (pv 2) (pv 4)))))) (AM (asS nd Fu)) BH) (AM (asS nd (AI BQ (pv 3) (Ey UW rfl B.int MU (AE (pv 5) AK)))))))) (AM (Ad (pv 3)))))
theorem Rf:CaH P w mg base 3 "strand_shortened" ["strand"] HB:=Aw (f:=87) (c:=86) (pm:=mo0) (st:=TL) X G λF=>okm F (Xb ) λhr nd hu ht=>(AH (Dy (i:=1) nd rfl (Or.inr rfl) AD) (AH (B7 PassesOwn.never rfl (C3 (pv 0)) (Ao (i:=2) nd rfl li) (AM (Dy (i:=1) nd rfl (Or.inr rfl) ((Zb X G B).q2 hr (pv 2) (pv 1))))) (AM (Ad (D4 (N:=["row", "shared"]) (capt:=[none,some 1]) rfl (BlkOk.of rfl rfl rfl rfl (Df.mpr rfl) rfl rfl rfl) (C3 (pv 0)) (λ_ _ _ _=>(Ao (i:=0) (show (["row", "shared"]:List PySem.Str).Nodup by decide +kernel) rfl li)) (λ_ _ _ _=>((ZS X G B).q2 hr (pv 0) (pv 1))))))))
theorem Zj:CaH P w mg base 3 "split_modulo" ["row", "divisor", "modulus"] Ib:=Aw (f:=132) (c:=131) (pm:=mo0) (st:=TW) X G λF=>okm F (Xa ) λhr nd hu ht=>(AH (asS nd (Ey Gu rfl B.list F6 (AE (pv 0) AK))) (AH (asS nd (AI BJ (At Bg rfl B.len BY (AE (pv 1) AK)) AD)) (AH (asS nd (AI Hk (B3 (AE AD AK)) (At (Gp rfl) rfl B.max F5 (AE (AI BJ (At Bg rfl B.len BY (AE (pv 0) AK)) (pv 4)) (AE AD AK))))) (AH (B7 PassesOwn.never rfl (Hu rfl B.range (AE (AI BJ (AI BJ (At Bg rfl B.len BY (AE (pv 0) AK)) (pv 4)) AD) (AE (BU BV AD) (AE (BU BV AD) AK)))) (Ao (i:=6) nd rfl li) (AH (asS nd (AI Ct (B8 Aj (pv 3) (AI BQ (pv 6) (pv 4)) (λ_ _=>rfl)) (pv 2))) (AH (Dx (pv 7) (Eu (pv 5) (pv 6) DV)) (AM (BD (cR Ec (pv 7) AD) (AM (B7 PassesOwn.never rfl (Ew rfl B.range (AE (pv 4) AK)) (Ao (i:=8) nd rfl li) (AM (Fx (pv 3) (AI BQ (pv 6) (pv 8)) F9 (AI Aq (pv 7) (B8 Aj (pv 1) (pv 8) (λ_ _=>rfl))) Hj DV)))) BH))))) (AM (Ad (Cf (AE ((La X G B).q1 hr (pv 5)) (AE ((Lf X G B).q2 hr (FP Gs (pv 3) FO (Ez (pv 4))) (pv 2)) AK)))))))))
theorem Zk:CaH P w mg base 3 "p_at" ["P", "c"] Kc:=Aw (f:=196) (c:=195) (pm:=mo2) (st:=Tg) X G λF=>okm F (YQ ) λhr nd hu ht=>(AH (asS nd ((Rb X G B).q1 hr (pv 0))) (AH (asS nd AD) (AH (asS nd AD) (AH (B7 PassesOwn.never rfl (Us rfl B.reversed (AE (xI Ai (pv 2)) AK)) (Ao (i:=5) nd rfl li) (AH (asS nd (AI BQ (AI Aq (pv 3) (xI Ai (pv 1))) (AI Aq (pv 5) (pv 4)))) (AM (Dh (i:=4) nd rfl li (xI Ai (pv 1)) E4)))) (AM (Ad ((Zd X G B).q2 hr (AI Aq (pv 3) (xI Ai (pv 1))) (AI Aq (xI Ai (pv 2)) (pv 4)))))))))
theorem Zl:CaH P w mg base 4 "strand_rest" ["strand", "other"] IY:=Aw (f:=82) (c:=81) (pm:=mo0) (st:=TK) X G λF=>okm F (Xg ) λhr nd hu ht=>(AH (Eb PassesOwn.never (cR SJ (At Bg rfl B.len BY (AE (xI Aj (pv 0)) AK)) (At Bg rfl B.len BY (AE (xI Aj (pv 1)) AK))) (AH (Dy (i:=2) nd rfl (Or.inr rfl) (AI BJ (At Bg rfl B.len BY (AE (xI Aj (pv 0)) AK)) (At Bg rfl B.len BY (AE (xI Aj (pv 1)) AK)))) (AH (asS nd (B8 Aj (xI Aj (pv 0)) (BU BV AD) (λ_ _=>rfl))) (AH (asS nd (B8 Aj (xI Aj (pv 1)) (BU BV AD) (λ_ _=>rfl))) (AH (asS nd ((GZ X G B).q2 hr (pv 3) (pv 4))) (AH (Dy (i:=6) nd rfl (Or.inr rfl) (AI E9 (pv 4) (pv 5))) (AH (Dy (i:=7) nd rfl (Or.inr rfl) (AI E9 (pv 3) (pv 5))) (AM (My (i:=0) (N:=["row", "follower", "factor", "weight", "shift"]) (capt:=[none,none,some 6,some 7,some 2]) nd rfl li rfl (BlkOk.of rfl rfl rfl rfl (List.forall_mem_cons.mpr ⟨rfl,(List.forall_mem_cons.mpr ⟨rfl,(Df.mpr rfl)⟩)⟩) rfl rfl rfl) (U0 rfl B.zip (AE (pv 0) (AE (pv 1) AK))) (λ_ _ _ _=>(E7 rfl (CW (Ao (i:=0) (show (["row", "follower", "factor", "weight", "shift"]:List PySem.Str).Nodup by decide +kernel) rfl li) (CW (Ao (i:=1) (show (["row", "follower", "factor", "weight", "shift"]:List PySem.Str).Nodup by decide +kernel) rfl li) Ea)))) (λ_ _ _ _=>((Zc X G B).pe hr ∅ rfl (AE (pv 0) (AE (pv 2) (AE (pv 1) (AE (pv 3) (AE (pv 4) AK)))))))))))))))) (AM (Ad ((Rf X G B).q1 hr (pv 0)))))
theorem JK:CaH P w mg base 4 "row_shortened" ["row"] Fi:=Aw (f:=94) (c:=93) (pm:=mo0) (st:=TM) X G λF=>okm F (Xd ) λhr nd hu ht=>(AM (Ad (xI Aj ((Rf X G B).q1 hr (B3 (AE (pv 0) AK))))))
theorem Zm:CaH P w mg base 4 "rest_modulo" ["row", "divisor", "modulus"] Ic:=Aw (f:=139) (c:=138) (pm:=mo0) (st:=TX) X G λF=>okm F (XY ) λhr nd hu ht=>(AM (Ad (xI Ai ((Zj X G B).q3 hr (pv 0) (pv 1) (pv 2)))))
theorem Zn:CaH P w mg base 5 "strand_euclid" ["strand", "other"] HC:=Aw (f:=101) (c:=100) (pm:=mo0) (st:=TN) X G λF=>okm F (Xh ) λhr nd hu ht=>(AH (Eb PassesOwn.never (F8 (xI Aj (pv 1)) (λ_=>rfl)) (AH (BD (cR Cu (At Bg rfl B.len BY (AE (xI Aj (pv 1)) AK)) AD) (AM (Ad (pv 1))) BH) (AH (asS nd ((Zl X G B).q2 hr (pv 0) (pv 1))) (AH (asS nd (pv 1)) (AM (asS nd (pv 2))))))) (AM (Ad (pv 0))))
theorem Zo:CaH P w mg base 5 "euclid_modulo" ["row", "other", "prime"] Id:=Aw (f:=146) (c:=145) (pm:=mo0) (st:=TY) X G λF=>okm F (XZ ) λhr nd hu ht=>(AH (asS nd ((Lg X G B).q2 hr ((Lf X G B).q2 hr (pv 0) (pv 2)) (pv 2))) (AH (asS nd ((Lg X G B).q2 hr ((Lf X G B).q2 hr (pv 1) (pv 2)) (pv 2))) (AH (Eb PassesOwn.never (F8 (pv 1) (λ_=>rfl)) (AH (asS nd ((Zm X G B).q3 hr (pv 0) (pv 1) (pv 2))) (AH (asS nd (pv 1)) (AM (asS nd ((Lg X G B).q2 hr (pv 3) (pv 2))))))) (AM (Ad (pv 0))))))
theorem Zp:CaH P w mg base 6 "common_by_prime" ["row", "other", "prime"] Ig:=Aw (f:=158) (c:=157) (pm:=mo0) (st:=Ta) X G λF=>okm F (Xn ) λhr nd hu ht=>(AH (Dy (i:=3) nd rfl (Or.inr rfl) ((GZ X G B).q2 hr (B8 Aj (pv 0) (BU BV AD) (λ_ _=>rfl)) (B8 Aj (pv 1) (BU BV AD) (λ_ _=>rfl)))) (AH (BD (cR Cu (AI Ct (pv 3) (pv 2)) AD) (AM (Ad CN)) BH) (AH (asS nd ((Zo X G B).q3 hr (pv 0) (pv 1) (pv 2))) (AH (asS nd ((JK X G B).q1 hr (D4 (N:=["whole", "prime", "lead"]) (capt:=[none,some 2,some 3]) rfl (BlkOk.of rfl rfl rfl rfl (List.forall_mem_cons.mpr ⟨rfl,(Df.mpr rfl)⟩) rfl rfl rfl) (C3 (pv 4)) (λ_ _ _ _=>(Ao (i:=0) (show (["whole", "prime", "lead"]:List PySem.Str).Nodup by decide +kernel) rfl li)) (λ_ _ _ _=>((ZX X G B).q2 hr (AI Aq (pv 2) (pv 0)) (pv 1)))))) (AH (BD (PW.pt (Gc (cR Gi ((Lb X G B).q2 hr (pv 0) (pv 5)) CN) (Hb (cR Gi ((Lb X G B).q2 hr (pv 1) (pv 5)) CN)))) (AM (Ad CN)) BH) (AM (Ad (pv 5))))))))
theorem Zq:CaH P w mg base 7 "row_common" ["row", "other"] Ih:=Aw (f:=165) (c:=164) (pm:=mo0) (st:=Tb) X G λF=>okm F (Xs B.xEXPONENTS ) λhr nd hu ht=>(AH (asS nd ((JK X G B).q1 hr (pv 0))) (AH (asS nd ((JK X G B).q1 hr (pv 1))) (AH (BD (PW.pt (Dw (F8 (pv 0) (λ_=>rfl)) (EF (F8 (pv 1) (λ_=>rfl))))) (AM (B7 PassesOwn.never rfl (JP (Ry rfl B.EXPONENTS rfl)) (Ao (i:=4) nd rfl li) (AH (asS nd ((Zp X G B).q3 hr (pv 2) (pv 3) (AI BJ ((ZR X G B).q2 hr AD (pv 4)) AD))) (AM (BD (cR Gj (pv 5) CN) (AM (Ad (pv 5))) BH))))) BH) (AM (Ad (xI Aj ((Zn X G B).q2 hr (B3 (AE (pv 2) AK)) (B3 (AE (pv 3) AK)))))))))
theorem Zr:CaH P w mg base 8 "simple_row" ["row"] Il:=Aw (f:=170) (c:=169) (pm:=mo0) (st:=Tc) X G λF=>okm F (YL ) λhr nd hu ht=>(AH (asS nd ((JK X G B).q1 hr (pv 0))) (AH (asS nd ((Lb X G B).q2 hr (pv 1) ((Zq X G B).q2 hr (pv 1) ((ZT X G B).q1 hr (pv 1))))) (AM (Ad (Fv (cR DU (B8 Aj (pv 2) (BU BV AD) (λ_ _=>rfl)) AD) (pv 2) (D4 (N:=["whole"]) (capt:=[none]) rfl (BlkOk.of rfl rfl rfl rfl (λ_ h=>nomatch h) rfl rfl rfl) (C3 (pv 2)) (λ_ _ _ _=>(Ao (i:=0) (show (["whole"]:List PySem.Str).Nodup by decide +kernel) rfl li)) (λ_ _ _ _=>(BU BV (pv 0)))))))))
theorem Rg:CaH P w mg base 9 "count_between" ["P", "low", "high"] HI:=Aw (f:=203) (c:=202) (pm:=mo3) (st:=Th) X G λF=>okm F (Yx ) λhr nd hu ht=>(AH (asS nd ((Zr X G B).q1 hr (xI Ai ((Rb X G B).q1 hr (pv 0))))) (AH (asS nd ((ZU X G B).q1 hr (pv 3))) (AH (asS nd (Cf (AE (AI Jm AD (At (Gp rfl) rfl B.max F5 (AE (pv 4) (AE AD AK)))) (AE (AI Jm AD (At (Gp rfl) rfl B.max F5 (AE (BU BV (pv 4)) (AE AD AK)))) AK)))) (AH (asS nd (Cf (AE (BU BV (xI Ai (pv 5))) (AE (xI Ai (pv 5)) AK)))) (AH (asS nd (Fv (PW.pt (Gc (cR Gi (pv 1) CN) (Hb (Et ((Le X G B).q2 hr (pv 1) (pv 6)))))) (pv 6) (pv 1))) (AH (asS nd (Fv (PW.pt (Gc (cR Gi (pv 2) CN) (Hb (Et ((Le X G B).q2 hr (pv 5) (pv 2)))))) (pv 5) (pv 2))) (AH (BD (JL (Et ((Le X G B).q2 hr (pv 7) (pv 8)))) (AM (Ad AD)) BH) (AH (asS nd ((Zf X G B).q1 hr ((Ze X G B).q3 hr (pv 3) (pv 7) (pv 8)))) (AH (BD (PW.pt (Dw (cR Gj (pv 2) CN) (EF (cR (Je ht) ((Zk X G B).q2 hr (pv 0) (pv 2)) (Cf (AE AD (AE AD AK))))))) (AM (Dh (i:=9) nd rfl li AD Gh)) BH) (AM (Ad (pv 9))))))))))))
theorem Zs:CaH P w mg base 10 "_law_close" ["_law_hand_here"] Kk:=Aw (f:=302) (c:=301) (pm:=mo4) (st:=Tx) X G λF=>okm F (ZH ) λhr nd hu ht=>(AH (asS nd ((Re X G B).q2 hr (pv 0) Fu)) (AH (asS nd ((HY X G B).q2 hr (AI BQ (AI Aq (xI Ai (pv 1)) (AI Go AD AD)) (xI Ai (pv 1))) (AI Aq (xI Ai (pv 1)) (AI Go AD AD)))) (AH (Dy (i:=3) nd rfl (Or.inr rfl) ((Rc X G B).q2 hr ((HZ X G B).q2 hr (B3 (AE (BU BV (xI Ai (pv 1))) (AE (xI Ai (pv 1)) AK))) (B3 (AE (BU BV (xI Ai (pv 2))) (AE (xI Ai (pv 2)) AK)))) (Cf (AE AD (AE AD AK))))) (AH (asS nd (B3 (AE (Cf (AE CN (AE (pv 1) AK))) (AE (Cf (AE (pv 1) (AE (pv 2) AK))) (AE (Cf (AE (pv 1) (AE CN AK))) (AE (Cf (AE CN (AE (pv 2) AK))) (AE (Cf (AE (pv 2) (AE CN AK))) (AE (Cf (AE CN (AE CN AK))) AK)))))))) (AM (Ad (Ex (Je ht) (D4 (N:=["_law_low", "_law_high", "_law_kp"]) (capt:=[none,none,some 3]) rfl (BlkOk.of rfl rfl rfl rfl (Df.mpr rfl) rfl rfl rfl) (C3 (pv 4)) (λ_ _ _ _=>(E7 rfl (CW (Ao (i:=0) (show (["_law_low", "_law_high", "_law_kp"]:List PySem.Str).Nodup by decide +kernel) rfl li) (CW (Ao (i:=1) (show (["_law_low", "_law_high", "_law_kp"]:List PySem.Str).Nodup by decide +kernel) rfl li) Ea)))) (λ_ _ _ _=>((Rg X G B).q3 hr (pv 2) (pv 0) (pv 1)))) (B3 (AE AD (AE AD (AE AD (AE AD (AE AD (AE AD AK))))))) (nomark _))))))))
end
theorem all_mk {l:PySem.W.OpenLaw} {w:World} {h:Heap} {mg:Str->Option Value} {fa:Addr} (X:(hp w.params).In h) (G:h.Ns mainGlobals mg) (hfa:mg "law" = some (.ref fa))
  : ∃ fd:FuncData,(∀ (s:Shared) (v:Value),BindsTo s fd ⟨[v],[]⟩ [("_law_script", v)])/\∀ base:Heap,(hp w.params).In base->base.Ns mainGlobals mg->FnOk l.prog w (hp w.params) mg base CX0 11 fa fd ["_law_script"] (IT (hp w.params)):=by
 have e:=hfa.symm.trans (PySem.W.mg_of X G (n := "law") (v:=.ref 307) (by kernel_rfl))
 cases e
 have qEXPONENTS:Fh (hp w.params)=15:=by kernel_rfl
 have xEXPONENTS:∀ H:Hp,SqT (hp w.params) H (Fh (hp w.params)) (exps.map λe:Nat=>V.int (e:Int)):=λH=>.inr ⟨_,_,_,(show (hp w.params).lookup (Fh (hp w.params))=some ⟨.type "tuple", none,.seq #[(.int 61 189),(.int 127 190),(.int 521 191),(.int 1279 192),(.int 4423 193),(.int 9941 194),(.int 21701 195),(.int 44497 196)] 0,#[]⟩ by rw [qEXPONENTS];kernel_rfl),rfl,rfl,by show 8<=sizeLine;rw [sizeLine_eq];decide,.cons ⟨_,rfl⟩ (.cons ⟨_,rfl⟩ (.cons ⟨_,rfl⟩ (.cons ⟨_,rfl⟩ (.cons ⟨_,rfl⟩ (.cons ⟨_,rfl⟩ (.cons ⟨_,rfl⟩ (.cons ⟨_,rfl⟩ (.nil))))))))⟩
 have B:Bl (hp w.params) mg:=⟨PySem.W.mg_none_of X G (by kernel_rfl),PySem.W.mg_none_of X G (by kernel_rfl),PySem.W.mg_none_of X G (by kernel_rfl),PySem.W.mg_none_of X G (by kernel_rfl),PySem.W.mg_none_of X G (by kernel_rfl),PySem.W.mg_none_of X G (by kernel_rfl),PySem.W.mg_none_of X G (by kernel_rfl),PySem.W.mg_none_of X G (by kernel_rfl),PySem.W.mg_none_of X G (by kernel_rfl),by rw [qEXPONENTS];exact PySem.W.mg_of X G (by kernel_rfl),PySem.W.mg_none_of X G (by kernel_rfl),PySem.W.mg_none_of X G (by kernel_rfl),PySem.W.mg_none_of X G (by kernel_rfl),PySem.W.mg_none_of X G (by kernel_rfl),PySem.W.mg_none_of X G (by kernel_rfl),PySem.W.mg_none_of X G (by kernel_rfl),xEXPONENTS⟩
 have FL:=LZ (K:=hp w.params) (st:=Hl) (f:=307) (c:=306) (n := "law") (pm:=mo4) (by kernel_rfl) (by kernel_rfl) (by kernel_rfl)
 refine ⟨PySem.W.fnOf "law" "law" (EI Hl) (Dk Hl) (Ci Hl) .none .none .none mo4 none (.ref 306) .none,λs v=>.of_eq rfl,λbase KB _=>?_⟩
 exact okm FL (ZN ) λhr nd hu ht=>(AH (asS nd ((Za X G B).q1 hr (pv 0))) (AH (BD (cR Cu ((CS X G B).q2 hr (pv 1) AD) AD) (AM (Ad ((Zs X G B).q1 hr (pv 1)))) BH) (AH (asS nd (B3 (AE AD AK))) (AH (asS nd (B3 AK)) (AH (B7 PassesOwn.never rfl (Ew rfl B.range (AE ((CS X G B).q2 hr (pv 1) AD) AK)) (Ao (i:=4) nd rfl li) (AH (asS nd ((Re X G B).q2 hr (pv 1) Fu)) (AH (Fw (F2 PySem.F.plainAttrs_list PySem.F.slot_list_append PySem.F.type_list_append Gn (pv 3) (AE (pv 5) AK))) (AM (asS nd ((HZ X G B).q2 hr (pv 2) (B3 (AE (BU BV (xI Ai (pv 5))) (AE (xI Ai (pv 5)) AK))))))))) (AH (B7 PassesOwn.never rfl (Ew rfl B.range (AE ((CS X G B).q2 hr (pv 1) AD) AK)) (Ao (i:=4) nd rfl li) (AH (asS nd (B8 Aj (B3 (AE AD (AE AD (AE AD (AE AD (AE AD (AE AD AK))))))) ((CS X G B).q2 hr (pv 1) AD) (λ_ _=>rfl))) (AH (asS nd (AI BJ ((CS X G B).q2 hr (pv 1) AD) AD)) (AH (asS nd (AI Su (pv 3) (B3 (AE (Cf (AE (pv 7) (AE (pv 6) (AE AD AK)))) (AE (Cf (AE (pv 7) (AE (pv 6) (AE (BU BV AD) AK)))) AK))))) (AM (asS nd ((HZ X G B).q2 hr (pv 2) (B3 (AE (AI BJ (AI Aq (pv 7) (pv 7)) (pv 6)) (AE (AI Aq (BU BV AD) (pv 7)) (AE AD AK))))))))))) (AH (BD (PW.pt (Dw (cR Cu ((CS X G B).q2 hr (pv 1) AD) AD) (EF (cR EH (At Bg rfl B.len BY (AE (pv 2) AK)) AD)))) (AH (asS nd (AI BJ ((CS X G B).q2 hr (pv 1) AD) AD)) (AM (asS nd ((HZ X G B).q2 hr (pv 2) (B3 (AE (AI BQ (AI BQ (AI Aq (pv 7) (pv 7)) AD) ((CS X G B).q2 hr (pv 1) AD)) (AE (AI Aq (BU BV AD) (pv 7)) (AE AD AK)))))))) BH) (AH (BD (PW.pt (Dw (cR EH (At Bg rfl B.len BY (AE (pv 2) AK)) AD) (EF (cR Cu ((CS X G B).q2 hr (pv 1) AD) AD)))) (AM (asS nd ((HZ X G B).q2 hr (pv 2) (pv 2)))) BH) (AH (asS nd ((Rc X G B).q2 hr (pv 2) ((Zg X G B).q1 hr (pv 1)))) (AH (asS nd VD) (AH (B7 PassesOwn.never rfl (C3 (pv 3)) (Ao (i:=10) nd rfl li) (AM (Dx Fu (Eu (pv 9) (pv 10) (VC ht))))) (AH (B7 PassesOwn.never rfl (Ew rfl B.range (AE AD AK)) (Ao (i:=11) nd rfl li) (AH (Dx ((Zh X G B).q2 hr (pv 1) (Mz (N:=["_law_place"]) (capt:=[none]) rfl (BlkOk.of rfl rfl rfl rfl (λ_ h=>nomatch h) rfl rfl rfl) (C3 (pv 3)) (λ_ _ _ _=>(Ao (i:=0) (show (["_law_place"]:List PySem.Str).Nodup by decide +kernel) rfl li)) (λ_ _ _ _=>(cR Cu (At MW rfl B.len BY (AE (pv 0) AK)) AD)) (λ_ _ _ _=>(pv 0)))) (E7 rfl (CW (Ao (i:=12) nd rfl li) (CW (Ao (i:=13) nd rfl li) Ea)))) (AH (asS nd ((Rg X G B).q3 hr (pv 8) (pv 12) (pv 13))) (AM (BD (PW.pt (Gc (JL (Et (At Mu rfl B.isinstance MS (AE (pv 14) (AE (Lm rfl B.int MU rfl) AK))))) (Gc (Et (At Mu rfl B.isinstance MS (AE (pv 14) (AE (Lm rfl B.bool UR rfl) AK)))) (Hb (cR Ec (pv 14) ((Zi X G B).q3 hr (Ey (VJ rfl) rfl B.list F6 (AE (pv 9) AK)) (pv 12) (pv 13))))))) (AM (Ad Fu)) BH))))) (AM (Ad Fu))))))))))))))
theorem walk {l:PySem.W.OpenLaw} {q:Program} {loose:List Str} {XP:(Str->Option Value)->Heap->Prop} {YP:World->Heap->Prop} {d:DefRec} {K:Params->W.Frag} (hn:l.most=some 63) (hdf:d.params.defaults=[]) (hq:importsNone q=true) (ht:∀ w,(model l.prog w).prog.given.tree=none)
  (hY:∀ (w:World) (h:Heap),YP w h->(K w.params).In h)
  (F:∀ (w:World) (mg:Str->Option Value) (fa:Addr) (h:Heap),(K w.params).In h->h.Ns mainGlobals mg->mg d.name=some (.ref fa)->
   ∃ fd:FuncData,(∀ (s:Shared) (u:Value),BindsTo s fd ⟨[u],[]⟩ [("_law_script", u)])/\∀ base:Heap,(K w.params).In base->base.Ns mainGlobals mg->FnOk l.prog w (K w.params) mg base CX0 11 fa fd ["_law_script"] (IT (K w.params))) :
  PySem.W.WalkO q loose XP YP l.row.toRowW d [] (λf vs=>PySem.call f vs):=
 L2.walk_of (n:=63) (k:=11) (x := "_law_script") (CX:=λ_=>CX0) (sp:=λw=>IT (K w.params)) hn ∅ hdf hq ht ⟨rfl,∅,∅⟩ hY F (λ_ _ a ns hl _ hS=>⟨a,ns,rfl,hS,hl,λ_=>rfl⟩) λ_ _ _ _ _ z=>z
end Bs
open PySem PySem.W PyProof.Rows
set_option maxRecDepth 100000 in
set_option maxHeartbeats 0 in
theorem PySem.Challenge.cw_backslope_k13_real_places_counted_holds : PySem.Challenge.rw_backslope_k13_real_places_counted.Holds := by
  w_on; o_law
  refine PySem.W.holds_open (q := Bs.Hd.vw) (loose := []) (Xt := fun s => PySem.W.xlAt Bs.Hd.vw [] s && PySem.W.recOk (PySem.W.RowW.records (PySem.W.OpenRow.toRowW (PySem.W.OpenLaw.row PySem.Challenge.rw_backslope_k13_real_places_counted))) s) (XP := PySem.W.XL Bs.Hd.vw []) (Yf := Bs.Hd.hk.obs) (Ya := Bs.Hd.hk.val) (YP := Bs.Hd.hk.says) (N := 3064) Bs.Hd.left Bs.Hd.hk.of Bs.Hd.hk.keeps (fun s e => PySem.W.xl_of s (Bool.and_eq_true_iff.mp e).1) PySem.W.XL.keeps (by rfl) (by rfl) (by rfl) (fun s e => PySem.W.recFacts_of (Bool.and_eq_true_iff.mp e).2) (by rfl) (by first | assumption | decide +kernel) (by decide +kernel) ⟨rfl, rfl, rfl, rfl, rfl, by decide +kernel⟩ ?hw ?hc
  case hw => w_witness2
  case hc => exact Bs.walk (l := PySem.Challenge.rw_backslope_k13_real_places_counted) (K := Bs.Hd.hp) rfl rfl (by decide +kernel) (fun _ => rfl) (fun w h Y => Y) (fun w mg fa h KX G hmg => Bs.all_mk KX G hmg)
#print axioms PySem.Challenge.cw_backslope_k13_real_places_counted_holds

