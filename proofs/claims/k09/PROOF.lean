import PyProof.Rows.All
import Wide.All
import OpenK.AllK
import Wide.FinOn
import Lean
import PyProof.EqAt
import PyProof.EqKinds
import PyProof.TupleCall
import PySem.Challenge.RW_backslope_k09_whole_factors_by_equations
local macro_rules | `(()) => `(by grind)
local macro_rules | `(tactic| ext) => `(tactic| grind)
local macro_rules | `(⋯) => `(by omega)
local macro_rules | `(∅) => `(by decide)
set_option Elab.async false
set_option linter.all false
set_option maxRecDepth 100000
def bT:type_of% @PySem.F.plainAttrs_list:=@PySem.F.plainAttrs_list
def cP:type_of% @PySem.F.slot_list_append:=@PySem.F.slot_list_append
def cQ:type_of% @PySem.F.type_list_append:=@PySem.F.type_list_append
def nG:type_of% @if_neg:=@if_neg
def nH:type_of% @if_pos:=@if_pos
def nI:type_of% @decide_eq_true:=@decide_eq_true
def nJ:type_of% @of_decide_eq_true:=@of_decide_eq_true
def nK:type_of% @decide_eq_false:=@decide_eq_false
def nO:type_of% @PySem.wpAny_bind:=@PySem.wpAny_bind
def nP:type_of% @PySem.wpAny_pure:=@PySem.wpAny_pure
def nQ:type_of% @PySem.wpAny_mono:=@PySem.wpAny_mono
def nR:type_of% @Option.some.inj:=@Option.some.inj
def nU:type_of% @PySem.Heap.lt_size:=@PySem.Heap.lt_size
def nV:type_of% @congrFun:=@congrFun
def AI:type_of% @List.getD_eq_getElem?_getD:=@List.getD_eq_getElem?_getD
def AK:type_of% @List.length_map:=@List.length_map
def AT:type_of% @List.getElem?_eq_getElem:=@List.getElem?_eq_getElem
def AV:type_of% @Nat.le_refl:=@Nat.le_refl
def AY:type_of% @Nat.zero_le:=@Nat.zero_le
def Aa:type_of% @List.getElem?_map:=@List.getElem?_map
def Ab:type_of% @Int.ne_of_gt:=@Int.ne_of_gt
def Ap:type_of% @List.mem_map:=@List.mem_map
def A4:type_of% @List.length_range:=@List.length_range
def BC:type_of% @List.mem_of_getElem?:=@List.mem_of_getElem?
def BF:type_of% @List.getElem?_eq_some_iff:=@List.getElem?_eq_some_iff
def BL:type_of% @List.mem_singleton:=@List.mem_singleton
def BQ:type_of% @List.length_take:=@List.length_take
def BS:type_of% @Nat.not_lt_zero:=@Nat.not_lt_zero
def BZ:type_of% @Nat.ne_of_lt:=@Nat.ne_of_lt
def Ba:type_of% @List.size_toArray:=@List.size_toArray
def Bg:type_of% @Int.toNat_natCast:=@Int.toNat_natCast
def Bk:type_of% @Nat.pow_succ:=@Nat.pow_succ
def Bp:type_of% @List.getElem?_eq_none:=@List.getElem?_eq_none
def Bq:type_of% @List.forall_mem_singleton:=@List.forall_mem_singleton
def Br:type_of% @Nat.lt_or_ge:=@Nat.lt_or_ge
def Bv:type_of% @Int.natAbs_mul:=@Int.natAbs_mul
def Bw:type_of% @Int.dvd_trans:=@Int.dvd_trans
def B9:type_of% @Int.emod_nonneg:=@Int.emod_nonneg
def CA:type_of% @List.take_length:=@List.take_length
def CF:type_of% @Nat.le_trans:=@Nat.le_trans
def CG:type_of% @Int.mul_ne_zero:=@Int.mul_ne_zero
def CL:type_of% @List.length_append:=@List.length_append
def CM:type_of% @Int.emod_lt_of_pos:=@Int.emod_lt_of_pos
def CS:type_of% @List.mem_append:=@List.mem_append
def CT:type_of% @List.getElem_mem:=@List.getElem_mem
def CU:type_of% @List.length_eq_zero_iff:=@List.length_eq_zero_iff
def CV:type_of% @List.getElem?_range:=@List.getElem?_range
def CW:type_of% @Nat.mul_le_mul_right:=@Nat.mul_le_mul_right
def Cd:type_of% @List.length_cons:=@List.length_cons
def Ce:type_of% @List.length_pos_iff:=@List.length_pos_iff
def Cp:type_of% @List.map_append:=@List.map_append
def Cq:type_of% @Int.mul_comm:=@Int.mul_comm
def Cr:type_of% @Int.natAbs_natCast:=@Int.natAbs_natCast
def Cv:type_of% @Nat.lt_of_lt_of_le:=@Nat.lt_of_lt_of_le
def C5:type_of% @List.mem_range:=@List.mem_range
def C6:type_of% @Bool.false_ne_true:=@Bool.false_ne_true
def C7:type_of% @Int.mul_assoc:=@Int.mul_assoc
def C8:type_of% @Rat.intCast_mul:=@Rat.intCast_mul
def DE:type_of% @Nat.mul_comm:=@Nat.mul_comm
def DF:type_of% @Int.dvd_add:=@Int.dvd_add
def DG:type_of% @Int.mul_pos:=@Int.mul_pos
def DH:type_of% @Int.dvd_zero:=@Int.dvd_zero
def DK:type_of% @List.mem_cons_self:=@List.mem_cons_self
def DL:type_of% @Int.natAbs_dvd_natAbs:=@Int.natAbs_dvd_natAbs
def DW:type_of% @List.mem_cons_of_mem:=@List.mem_cons_of_mem
def DX:type_of% @Nat.pow_add:=@Nat.pow_add
def DY:type_of% @List.take_add_one:=@List.take_add_one
def DZ:type_of% @Int.mul_le_mul_of_nonneg_left:=@Int.mul_le_mul_of_nonneg_left
def Dj:type_of% @List.length_replicate:=@List.length_replicate
def Dk:type_of% @List.length_set:=@List.length_set
def Dl:type_of% @Nat.mul_le_mul:=@Nat.mul_le_mul
def Dn:type_of% @Int.mul_le_mul_of_nonneg_right:=@Int.mul_le_mul_of_nonneg_right
def Dw:type_of% @Nat.lt_irrefl:=@Nat.lt_irrefl
def Dx:type_of% @Nat.le_of_lt:=@Nat.le_of_lt
def Dy:type_of% @List.mem_append_right:=@List.mem_append_right
def Dz:type_of% @List.getElem?_replicate:=@List.getElem?_replicate
def D1:type_of% @Nat.pow_pos:=@Nat.pow_pos
def D2:type_of% @Int.zero_mul:=@Int.zero_mul
def D3:type_of% @List.forall_mem_cons:=@List.forall_mem_cons
def ED:type_of% @Nat.lt_succ_self:=@Nat.lt_succ_self
def EE:type_of% @List.getElem?_append_right:=@List.getElem?_append_right
def EF:type_of% @List.getElem?_append_left:=@List.getElem?_append_left
def EG:type_of% @Nat.lt_of_le_of_lt:=@Nat.lt_of_le_of_lt
def EH:type_of% @Int.le_of_lt:=@Int.le_of_lt
def EI:type_of% @Int.fdiv_eq_ediv_of_nonneg:=@Int.fdiv_eq_ediv_of_nonneg
def EJ:type_of% @Nat.mul_le_mul_left:=@Nat.mul_le_mul_left
def EK:type_of% @Int.natCast_dvd_natCast:=@Int.natCast_dvd_natCast
def EY:type_of% @Int.gcd_dvd_right:=@Int.gcd_dvd_right
def EZ:type_of% @Int.mul_nonneg:=@Int.mul_nonneg
def Ea:type_of% @Nat.le_of_dvd:=@Nat.le_of_dvd
def Eb:type_of% @Int.mul_eq_zero:=@Int.mul_eq_zero
def Ec:type_of% @Int.mul_zero:=@Int.mul_zero
def Ed:type_of% @List.mem_iff_getElem:=@List.mem_iff_getElem
def Ep:type_of% @List.mem_cons:=@List.mem_cons
def Er:type_of% @Nat.eq_zero_or_pos:=@Nat.eq_zero_or_pos
def E5:type_of% @Nat.pow_le_pow_right:=@Nat.pow_le_pow_right
def E8:type_of% @Int.gcd_dvd_left:=@Int.gcd_dvd_left
def E9:type_of% @Nat.le_antisymm:=@Nat.le_antisymm
def FA:type_of% @Int.eq_of_mul_eq_mul_left:=@Int.eq_of_mul_eq_mul_left
def FZ:type_of% @List.range_succ:=@List.range_succ
def Fa:type_of% @Rat.inv_mul_cancel:=@Rat.inv_mul_cancel
def Fb:type_of% @List.ext_getElem?:=@List.ext_getElem?
def Fs:type_of% @List.mem_of_mem_take:=@List.mem_of_mem_take
def Ft:type_of% @Int.mul_ediv_cancel_left:=@Int.mul_ediv_cancel_left
def Fu:type_of% @Int.dvd_mul_of_dvd_right:=@Int.dvd_mul_of_dvd_right
def GF:type_of% @List.replicate_succ:=@List.replicate_succ
def GG:type_of% @Int.dvd_of_emod_eq_zero:=@Int.dvd_of_emod_eq_zero
def GH:type_of% @List.getLast?_eq_getElem?:=@List.getLast?_eq_getElem?
def GI:type_of% @List.map_congr_left:=@List.map_congr_left
def Gz:type_of% @Int.dvd_mul_of_dvd_left:=@Int.dvd_mul_of_dvd_left
def G3:type_of% @List.dropLast_concat_getLast:=@List.dropLast_concat_getLast
abbrev de:=List Int
abbrev dh:=List PySem.Value
abbrev dj:=PySem.Value->PySem.Shared->Prop
abbrev dq:=List (PySem.Addr×PySem.Obj)
abbrev dz:=PySem.Str->Option PySem.Value
abbrev dC:=List PySem.Expr
abbrev dE:=List PySem.Str
abbrev dH:=List PySem.Addr
abbrev dI:=Nat->Int
abbrev dL:=Nat->Rat
namespace L2
open PySem PySem.Spec PyProof.Rows
noncomputable abbrev Y_:=Sum Int Str
noncomputable def NO:Y_->Value->Bool
 | .inl k,v=>Value.isInt k v
 | .inr x,v=>Value.isStrOf x v
noncomputable def VH (w:World):Y_->Int
 | .inl k=>hashInt k
 | .inr x=>hashStr w x
theorem Fc:∀ {k:Y_} {v:Value},NO k v=true->(∃ i t,k=Sum.inl i/\v=Value.int i t)\/(∃ x t,k=Sum.inr x/\v=Value.str x t)
 | .inl i,v,h=>by
   obtain ⟨t,e⟩:=Value.isInt_shape (k:=i) (v:=v) h;exact .inl ⟨i,t,rfl,e⟩
 | .inr x,v,h=>by
   obtain ⟨t,e⟩:=Value.isStrOf_shape (x:=x) (v:=v) h;exact .inr ⟨x,t,rfl,e⟩
def VI (a b:Int):decide ((Sum.inl a:Y_)=Sum.inl b)=(a == b):=by
 by_cases e:a=b
 ·subst e;simp
 ·have h:¬ (Sum.inl a:Y_)=Sum.inl b:=λq=>e (Sum.inl.inj q);rw [nK h];exact (beq_eq_false_iff_ne.mpr e).symm
def VJ (a b:Str):decide ((Sum.inr a:Y_)=Sum.inr b)=decide (a=b):=by
 by_cases e:a=b
 ·subst e;simp
 ·have h:¬ (Sum.inr a:Y_)=Sum.inr b:=λq=>e (Sum.inr.inj q);rw [nK h,nK e]
def VL (a:Int) (b:Str):decide ((Sum.inl a:Y_)=Sum.inr b)=false:=nK (λq=>nomatch q)
def VM (a:Str) (b:Int):decide ((Sum.inr a:Y_)=Sum.inl b)=false:=nK (λq=>nomatch q)
noncomputable def Kq (prog:Program) (w:World):PySem.KeyKind prog w Y_ where
 is:=NO
 hash:=VH w
 inj:=λv a b g f=>by
  rcases Fc g with ⟨i,t,rfl,rfl⟩ | ⟨x,t,rfl,rfl⟩
  ·rcases Fc f with ⟨j,u,rfl,e⟩ | ⟨y,u,rfl,e⟩
   ·injection e with c _;rw [c]
   ·exact nomatch e
  ·rcases Fc f with ⟨j,u,rfl,e⟩ | ⟨y,u,rfl,e⟩
   ·exact nomatch e
   ·injection e with c _;rw [c]
 byValue:=λk v h=>by
  rcases Fc h with ⟨i,t,rfl,rfl⟩ | ⟨x,t,rfl,rfl⟩ <;> rfl
 pyHash:=λd h=>by
  rcases Fc d with ⟨i,t,rfl,rfl⟩ | ⟨x,t,rfl,rfl⟩
  ·exact wpAny_pyHash_int h
  ·exact wpAny_pyHash_str h
 eqBool:=λm d h=>by
  rcases Fc m with ⟨i,t,rfl,rfl⟩ | ⟨x,t,rfl,rfl⟩
  ·rcases Fc d with ⟨j,u,rfl,rfl⟩ | ⟨y,u,rfl,rfl⟩
   ·rw [VI] at h;exact wpAny_eqBool_int h
   ·rw [VL] at h;exact SeqAt.EqAt.int_str i t y u _ _ _ _ h
  ·rcases Fc d with ⟨j,u,rfl,rfl⟩ | ⟨y,u,rfl,rfl⟩
   ·rw [VM] at h;exact SeqAt.EqAt.str_int x t j u _ _ _ _ h
   ·rw [VJ] at h;exact wpAny_eqBool_str h
 «strs»:=λk x t v h=>by
  rcases Fc h with ⟨i,u,rfl,e⟩ | ⟨y,u,rfl,e⟩
  ·exact nomatch e
  ·injection e with c _
   subst c
   cases v <;> rfl
inductive V where
 | non | bl (b:Bool) | int (i:Int) | str (x:Str) | byt (b:Array UInt8) | flt (b:UInt64) | ref (a:Addr) | ty (n:String)
 deriving DecidableEq
noncomputable def RelV:V->Value->Prop
 | .non,u=>u=Value.none
 | .bl b,u=>u=Value.bool b
 | .int i,u=>∃ t,u=Value.int i t
 | .str x,u=>∃ t,u=Value.str x t
 | .byt b,u=>∃ t,u=Value.bytes b t
 | .flt b,u=>∃ t,u=Value.float b t
 | .ref a,u=>u=Value.ref a
 | .ty n,u=>u=Value.type n
abbrev Vals:List V->dh->Prop:=Paired RelV
def Vals.length {xs:List V} {a:dh} (r:Vals xs a):xs.length=a.length:=Paired.length r
theorem Vals.get:∀ {xs:List V} {a:dh} {i:Nat} {x:V},Vals xs a->xs[i]?=some x->∃ u,a[i]?=some u/\RelV x u
 | _,_,_,_,.nil,e=>by simp at e
 | _,_,0,_,.cons r _,e=>by simp at e;subst e;exact ⟨_,rfl,r⟩
 | _,_,i+1,x,.cons _ t,e=>by
   obtain ⟨u,b,c⟩:=Vals.get (i:=i) (x:=x) t (by simpa using e);exact ⟨u,by simpa using b,c⟩
theorem Vals.set {x:V} {u:Value} (r:RelV x u):∀ {xs:List V} {a:dh} (i:Nat),Vals xs a->Vals (xs.set i x) (a.set i u)
 | _,_,_,.nil=>.nil
 | _,_,0,.cons _ t=>.cons r t
 | _,_,i+1,.cons q t=>.cons q (Vals.set r i t)
theorem Vals.append:∀ {xs ys:List V} {a b:dh},Vals xs a->Vals ys b->Vals (xs++ys) (a++b)
 | _,_,_,_,.nil,s=>s
 | _,_,_,_,.cons r t,s=>.cons r (Vals.append t s)
theorem Vals.take:∀ {xs:List V} {a:dh} (n:Nat),Vals xs a->Vals (xs.take n) (a.take n)
 | _,_,0,_=>.nil
 | _,_,_+1,.nil=>.nil
 | _,_,n+1,.cons r t=>.cons r (Vals.take n t)
theorem Vals.drop:∀ {xs:List V} {a:dh} (n:Nat),Vals xs a->Vals (xs.drop n) (a.drop n)
 | _,_,0,r=>r
 | _,_,_+1,.nil=>.nil
 | _,_,n+1,.cons _ t=>Vals.drop n t
noncomputable def RelO:Option V->Option Value->Prop
 | some v,some u=>RelV v u
 | none,none=>True
 | _,_=>False
def KV {a:Type}:List (a×V)->List (a×Value)->Prop:=Paired λ(p:a×V) (q:a×Value)=>p.1=q.1/\RelV p.2 q.2
noncomputable def kV:Y_->V
 | .inl i=>.int i
 | .inr x=>.str x
inductive HO where

 | lst (xs:List V)

 | tup (xs:List V)

 | dK (kvs:List (Y_×V)) | dT (kvs:List (List Y_×V))

 | set (S:Int->Bool) (n:Nat)

 | ins (C dx:Addr) (fs:List (Str×V))

 | own (x:Addr)

 | xd (fs:List (Str×V))

 | met (f x:Addr)

 | rng (lo hi:Int)

 | frz (o:Obj) (u:HO)

 | tbl (ps:Array Value)

 | ext (φ:Heap->Prop)
noncomputable abbrev Hp:=Addr->Option HO
abbrev dc:=Option V
abbrev d8:=List V
noncomputable def upd (H:Hp) (a:Addr) (o:HO):Hp:=λb=>if b=a then some o else H b
def upd_same {H:Hp} {a:Addr} {o:HO}:upd H a o a=some o:=by unfold upd;rw [nH rfl]
def Au {H:Hp} {a b:Addr} {o:HO} (h:b≠a):upd H a o b=H b:=by unfold upd;rw [nG h]
def NP {H:Hp} {a:Addr} {o u:HO}:upd (upd H a o) a u=upd H a u:=by
 funext b;unfold upd;split <;> rfl
def GJ {H:Hp} {a b:Addr} {o u:HO} (h:H a=some o) (h':H b=some u) (d:o≠u):a≠b:=by
 intro e;subst e;rw [h] at h';exact d (nR h')
def Ax {H:Hp} {a b:Addr} {o:HO} (h:H a=some o) (h':H b=none):a≠b:=by
 intro e;subst e;rw [h] at h';cases h'
section
variable (P:Program) (w:World)
noncomputable def ObjOk (H:Hp) (h:Heap) (a:Addr):HO->Prop
 | .lst c=>c.length<=sizeLine/\∃ (its:dh) (n:Nat),Vals c its/\h.get? a=some { cls:=.type "list", data:=.seq its.toArray n }
 | .tup c=>c.length<=sizeLine/\∃ its:dh,Vals c its/\IsTup h a its.toArray
 | .dK b=>b.length<=sizeLine/\(a == sysModules)=false/\∃ j,KV b j/\h.DictOf (Kq P w) a j
 | .dT b=>b.length<=sizeLine/\(a == sysModules)=false/\∃ c:List (List Y_×Addr×Value),
   Paired (λ(p:List Y_×V) (q:List Y_×Addr×Value)=>p.1=q.1/\H q.2.1=some (.tup (p.1.map kV))/\RelV p.2 q.2.2) b c/\
   ∃ o k y,h.get? a=some o/\o.ExactDict/\o.data=.dict k y/\k.toList=c.map (entryOfKey (tupleKind (Kq P w)))/\(c.map (·.1)).Nodup
 | .set S n=>h.SetOf (intKind P w) a S n
 | .ins C g e=>H g=some (.own a)/\e.length<=1000/\g≠a/\h.get? a=some (W.instObj C g)/\
   ∃ d,h.Ns1 g d/\(∀ f,RelO (e.lookup f) (d f))/\PySem.Within d (e.map (·.1))
 | .own _=>∃ o,h.get? a=some o
 | .xd e=>∃ d,h.Ns1 a d/\∀ f,RelO (e.lookup f) (d f)
 | .rng lo z=>∃ t u v,h.get? a=some { cls:=.type "range", data:=.fields #[.int lo t,.int z u,.int 1 v] }
 | .frz o u=>h.get? a=some o/\ObjOk H h a u
 | .tbl ps=>h.get? a=some { cls:=.none,data:=.fields ps }
 | .met f x=>h.get? a=some (W.methodObj (.ref f) (.ref x))
 | .ext i=>i h/\(∃ o,h.get? a=some o)/\∀ m r:Heap,i m->(∀ o,m.get? a=some o->r.get? a=some o)->i r
def HOk (H:Hp) (h:Heap):Prop:=∀ a o,H a=some o->ObjOk P w H h a o
end
section
variable {P:Program} {w:World} {H H':Hp} {h h':Heap} {a:Addr} {o:HO}
theorem ObjOk.lt (x:ObjOk P w H h a o):a<h.objs.size:=by
 cases o with
 | lst c=>obtain ⟨_,_,_,_,e⟩:=x;exact nU e
 | tup c=>obtain ⟨_,_,_,p⟩:=x;exact p.lt
 | dK b=>obtain ⟨_,_,_,_,o,_,_,e,_⟩:=x;exact nU e
 | dT b=>obtain ⟨_,_,_,_,o,_,_,e,_⟩:=x;exact nU e
 | set S n=>obtain ⟨o,_,_,_,e,_⟩:=x;exact nU e
 | ins C g d=>obtain ⟨_,_,_,e,_⟩:=x;exact nU e
 | own y=>obtain ⟨_,e⟩:=x;exact nU e
 | xd d=>obtain ⟨_,⟨_,_,_,e,_⟩,_⟩:=x;exact nU e
 | rng lo i=>obtain ⟨_,_,_,e⟩:=x;exact nU e
 | frz j u=>obtain ⟨e,_⟩:=x;exact nU e
 | tbl ps=>exact nU (show h.get? a=some _ from x)
 | met f y=>exact nU (show h.get? a=some _ from x)
 | ext k=>obtain ⟨_,⟨_,e⟩,_⟩:=x;exact nU e
theorem Paired.mapP {e g:Type} {F G:e->g->Prop}:∀ {c:List e} {d:List g},Paired F c d->(∀ a b,F a b->G a b)->Paired G c d
 | _,_,.nil,_=>.nil
 | _,_,.cons r t,f=>.cons (f _ _ r) (Paired.mapP t f)
theorem ObjOk.stay (x:ObjOk P w H h a o) (k:∀ b u,(b=a\/H b=some (.own a))->h.get? b=some u->h'.get? b=some u)
  (G:∀ b,H b=some (.own a)->H' b=some (.own a)) (I:∀ b A,H b=some (.tup A)->H' b=some (.tup A)):ObjOk P w H' h' a o:=by
 induction o with
 | lst A=>obtain ⟨z,m,n,r,e⟩:=x;exact ⟨z,m,n,r,k _ _ (.inl rfl) e⟩
 | tup A=>obtain ⟨z,m,r,g,e,c⟩:=x;exact ⟨z,m,r,g,k _ _ (.inl rfl) e,c⟩
 | dK B=>obtain ⟨z,y,J,r,g,i,j,e,c⟩:=x;exact ⟨z,y,J,r,g,i,j,k _ _ (.inl rfl) e,c⟩
 | dT B=>
   obtain ⟨z,y,A,r,g,i,j,e,c⟩:=x;exact ⟨z,y,A,Paired.mapP r λp q z=>⟨z.1,I _ _ z.2.1,z.2.2⟩,g,i,j,k _ _ (.inl rfl) e,c⟩
 | set S n=>obtain ⟨g,i,j,t,e,c⟩:=x;exact ⟨g,i,j,t,k _ _ (.inl rfl) e,c⟩
 | ins C O K=>
   obtain ⟨d,z,L,e,D,⟨E,i,j,M,c⟩,r⟩:=x;exact ⟨G _ d,z,L,k _ _ (.inl rfl) e,D,⟨E,i,j,k _ _ (.inr d) M,c⟩,r⟩
 | own y=>obtain ⟨g,e⟩:=x;exact ⟨g,k _ _ (.inl rfl) e⟩
 | xd K=>obtain ⟨D,⟨E,i,j,e,c⟩,r⟩:=x;exact ⟨D,⟨E,i,j,k _ _ (.inl rfl) e,c⟩,r⟩
 | rng lo Q=>obtain ⟨t,u,v,e⟩:=x;exact ⟨t,u,v,k _ _ (.inl rfl) e⟩
 | frz g u N=>obtain ⟨e,q⟩:=x;exact ⟨k _ _ (.inl rfl) e,N q⟩
 | tbl ps=>
   have e:h.get? a=some { cls:=.none,data:=.fields ps }:=x;show h'.get? a=some { cls:=.none,data:=.fields ps };exact k a _ (.inl rfl) e
 | met f y=>
   have e:h.get? a=some (W.methodObj (.ref f) (.ref y)):=x;show h'.get? a=some (W.methodObj (.ref f) (.ref y));exact k a _ (.inl rfl) e
 | ext R=>obtain ⟨p,⟨o,e⟩,F⟩:=x;exact ⟨F _ _ p λo q=>k _ _ (.inl rfl) q,⟨o,k _ _ (.inl rfl) e⟩,F⟩
def HOk.lt (x:HOk P w H h) (e:H a=some o):a<h.objs.size:=(x a o e).lt
theorem HOk.fresh (x:HOk P w H h) (e:h.objs.size<=a):H a=none:=by
 cases q:H a with
 | none=>rfl
 | some u=>exact absurd (Cv (x.lt q) e) (Dw _)
def HOk.kept (x:HOk P w H h) (k:∀ b u,h.get? b=some u->h'.get? b=some u):HOk P w H h':=λa o e=>
 (x a o e).stay (λb u _ q=>k b u q) (λ_ q=>q) λ_ _ q=>q
def HOk.laid (x:HOk P w H h) (k:∀ b u,h.get? b=some u->h'.get? b=some u) (hp:h.objs.size<=a) (d:ObjOk P w (upd H a o) h' a o):HOk P w (upd H a o) h':=λb u e=>by
 have f:=x.fresh hp;by_cases g:b=a
 ·subst g;rw [upd_same] at e;cases e;exact d
 ·rw [Au g] at e;exact (x b u e).stay (λc v _ q=>k c v q) (λc q=>by rw [Au (Ax q f)];exact q) λc i q=>by rw [Au (Ax q f)];exact q
end
def Rd (H:Hp) (a:Addr) (u:HO):Prop:=H a=some u\/∃ o,H a=some (.frz o u)
def Rd.ok {P:Program} {w:World} {H:Hp} {h:Heap} {a:Addr} {u:HO} (r:Rd H a u) (x:HOk P w H h):ObjOk P w H h a u:=by
 rcases r with r | ⟨o,r⟩
 ·exact x a u r
 ·obtain ⟨_,q⟩:=x a _ r;exact q
noncomputable def cG:Option HO->Prop
 | some (.lst _)=>True
 | some (.dK _)=>True
 | some (.dT _)=>True
 | some (.set _ _)=>True
 | some (.ins _ _ _)=>True
 | some (.ext _)=>True
 | _=>False
section
variable {P:Program} {w:World} {H:Hp} {h h':Heap} {x e:Addr} {o':HO}
def HOk.write (ok:HOk P w H h) (g:cG (H x)) (p:e=x\/H e=some (.own x)) (k:∀ b u,b≠e->h.get? b=some u->h'.get? b=some u) (n:∃ u,h'.get? e=some u)
  (o:ObjOk P w (upd H x o') h' x o'):HOk P w (upd H x o') h':=λb u q=>by
 have d:∀ c y,H c=some (.own y)->c≠x:=λc y r z=>by subst z;rw [r] at g;exact g
 have f:∀ c i,H c=some (.tup i)->c≠x:=λc i r z=>by subst z;rw [r] at g;exact g
 by_cases j:b=x
 ·subst j;rw [upd_same] at q;cases q;exact o
 ·rw [Au j] at q;by_cases a:b=e
  ·have A:H b=some (.own x):=by
    rcases p with z | z
    ·exact absurd (a.trans z) j
    ·rw [a];exact z
   rw [q] at A;cases A;obtain ⟨v,B⟩:=n;exact ⟨v,by rw [a];exact B⟩
  ·refine (ok b u q).stay (λc v m r=>k c v ?_ r) (λc r=>by rw [Au (d c b r)];exact r) λc i r=>by rw [Au (f c i r)];exact r
   rcases m with rfl | m
   ·exact a
   ·rintro rfl;rcases p with z | z
    ·exact d c b m z
    ·rw [m] at z;cases z;exact j rfl
end
structure Un (fs ex:dH) (H H':Hp) (h h':Heap):Prop where
 keep:∀ b o,h.get? b=some o->H b=none->b∉fs->b∉ex->h'.get? b=some o
 slot:∀ b o,h.get? b=some o->H b=none->b∈fs->b∉ex->∃ sl,h'.get? b=some { o with slots:=sl }
 free:∀ b o,h.get? b=some o->H b=none->b∉ex->H' b=none
 there:∀ b o,h.get? b=some o->b∉ex->∃ o',h'.get? b=some o'
 tups:∀ b xs,H b=some (.tup xs)->H' b=some (.tup xs)
 frzs:∀ b o u,H b=some (.frz o u)->H' b=some (.frz o u)
 tbls:∀ b ps,H b=some (.tbl ps)->∃ more,H' b=some (.tbl (ps++more))
section
variable {fs fs' ex ex':dH} {H H1 H2:Hp} {h h1 h2 h':Heap} {a x e:Addr} {o:HO}
def Un.any (u:Un fs ex H H1 h h1) {b:Addr} {c:Obj} (q:h.get? b=some c) (n:H b=none) (f:b∉ex):∃ i,h1.get? b=some { c with slots:=i }:=by
 by_cases g:b∈fs
 ·exact u.slot b c q n g f
 ·exact ⟨c.slots,u.keep b c q n g f⟩
def Un.kept (k:∀ b u,h.get? b=some u->h'.get? b=some u):Un fs ex H H h h':=
 ⟨λb c q _ _ _=>k b c q,λb c q _ _ _=>⟨c.slots,k b c q⟩,λ_ _ _ n _=>n,λb c q _=>⟨c,k b c q⟩,λ_ _ q=>q,λ_ _ _ q=>q,λ_ ps q=>⟨#[],by rw [q];simp⟩⟩
def Un.refl:Un fs ex H H h h:=Un.kept λ_ _ q=>q
def Un.laid (k:∀ b u,h.get? b=some u->h'.get? b=some u) (hp:h.objs.size<=a) (c:H a=none):Un fs ex H (upd H a o) h h' where
 keep:=λb u q _ _ _=>k b u q
 slot:=λb u q _ _ _=>⟨u.slots,k b u q⟩
 free:=λb u q n _=>by rw [Au (BZ (Cv (nU q) hp))];exact n
 there:=λb u q _=>⟨u,k b u q⟩
 tups:=λb d q=>by rw [Au (Ax q c)];exact q
 frzs:=λb u d q=>by rw [Au (Ax q c)];exact q
 tbls:=λb ps q=>⟨#[],by rw [Au (Ax q c),q];simp⟩
def Un.write (d:cG (H x)) (m:e=x\/H e=some (.own x)) (k:∀ b u,b≠e->h.get? b=some u->h'.get? b=some u) (f:∃ u,h'.get? e=some u):Un fs ex H (upd H x o) h h':=by
 have i:∀ b,H b=none->b≠x:=λb n z=>by subst z;rw [n] at d;exact d
 have j:∀ b,H b=none->b≠e:=λb n z=>by
  subst z;rcases m with r | r
  ·exact i b n r
  ·rw [n] at r;cases r
 have g:∀ b u,H b=some u->¬ cG (some u)->b≠x:=λb u q p z=>by subst z;rw [q] at d;exact p d
 refine ⟨λb u q n _ _=>k b u (j b n) q,λb u q n _ _=>⟨u.slots,k b u (j b n) q⟩,λb u q n _=>by rw [Au (i b n)];exact n,λb u q _=>?_,
  λb v q=>by rw [Au (g b _ q λz=>z)];exact q,λb u v q=>by rw [Au (g b _ q λz=>z)];exact q,λb ps q=>⟨#[],by rw [Au (g b _ q λz=>z),q];simp⟩⟩
 by_cases c:b=e
 ·subst c;exact f
 ·exact ⟨u,k b u c q⟩
end
noncomputable def cH (h:Heap) (H:Hp):dH:=(List.range h.objs.size).filter λa=>(H a).isSome
noncomputable def FB (h:Heap) (H:Hp):Heap:=W.hideAll h (cH h H)
def VN (h:Heap) (H:Hp):(FB h H).objs.size=h.objs.size:=W.hideAll_size _ _
def VO {h:Heap} {H:Hp} {b:Addr} {o:Obj} (e:h.get? b=some o) (n:H b=none):(FB h H).get? b=some o:=
 W.hideAll_get _ e λa=>by
  have q:(H b).isSome=true:=(List.mem_filter.mp a).2;rw [n] at q;simp at q
theorem VP {h:Heap} {H:Hp} {b:Addr} {o:Obj} (e:(FB h H).get? b=some o):h.get? b=some o/\H b=none:=by
 have a:h.get? b=some o:=W.of_hideAll (cH h H) e;refine ⟨a,?_⟩;cases q:H b with
 | none=>rfl
 | some x=>
   have c:b∈cH h H:=List.mem_filter.mpr ⟨C5.mpr (nU a),by simp [q]⟩;have z:(FB h H).get? b=none:=W.hideAll_none (cH h H) c;rw [z] at e;cases e
noncomputable def VQ (g h:Heap) (L:Addr):dq:=(List.range h.objs.size).filterMap λa=>if a=L\/(g.get? a).isSome=true then none else (h.get? a).map λo=>(a,o)
noncomputable def rest (g h:Heap) (L d:Addr):dq:=(VQ g h L).filter λp=>decide (p.1≠d)
structure Mod (K:W.Frag) (mg:dz) (base:Heap):Prop where
 kin:K.In base
 glob:base.Ns mainGlobals mg
 blt:∃ mb,base.Ns builtinsNs mb/\∀ x:Str,x ≠ "__name__" -> mb x=bootBuiltins x
 nolimit:base.NoLimit
structure Cx where
 prog:Program
 w:World
 K:W.Frag
 mg:dz
 base:Heap
 A:Around
 N:dE
 s₀:Shared
 H₀:Hp
 env:Env
 outer:List Env
 stack:List Env
 ex:dH
 fn:Str->Bool
 calm:Bool
 pn:dq
 xe:dj
noncomputable def ak (l:List Env):dH:=l.filterMap (·.frame)
noncomputable abbrev Cx.fs (X:Cx):dH:=ak X.outer
def ca (a:Scope) (x:Str):Prop:=a.names.lookup x=some .local\/a.names.lookup x=some .cell\/a.names.lookup x=some .free
def aV (a:Scope) (x:Str):Prop:=a.names.lookup x=some .local\/a.names.lookup x=some .cell
def Look (a:Env) (h:Heap) (m:dz) (x:Str) (u:Value):Prop:=
 (a.kindOf x=some .local/\m x=some u)\/((a.kindOf x=some .cell\/a.kindOf x=some .free)/\∃ c,a.cells.lookup x=some c/\h.IsCell c (some u))
structure Cx.Ok (X:Cx):Prop where
 mod:Mod X.K X.mg X.base
 kind:X.env.scope.kind=.function
 glob:X.env.globals=mainGlobals
 blt:X.env.builtins=builtinsNs
 above:X.s₀.heap.objs.size<=X.env.locals
 inj:∀ x y c,X.env.cells.lookup x=some c->X.env.cells.lookup y=some c->x=y
 has:∀ x,(X.env.kindOf x=some .cell\/X.env.kindOf x=some .free)->∃ c,X.env.cells.lookup x=some c
 cab:∀ x c,X.fn x=true->X.env.cells.lookup x=some c->X.s₀.heap.objs.size<=c
 hd:X.calm=true->X.A.handled=none
 frames:X.A.frames=some X.stack
 stk:X.stack=X.outer\/(X.stack=X.env::X.outer/\X.env.frame=some X.env.locals)
 exf:∀ b∈X.ex,b≠X.env.locals/\∀ x c,X.env.cells.lookup x=some c->c≠b
 bs:∀ b o,X.base.get? b=some o->X.s₀.heap.get? b=some o/\X.H₀ b=none
 bsz:X.base.objs.size<=X.s₀.heap.objs.size
 noex:∀ b o,X.base.get? b=some o->b∉X.ex
 exfs:∀ b∈X.ex,b∉X.fs
 funs:X.s₀.heap.FunFrames X.base X.outer
 frf:∀ b∈X.fs,X.H₀ b=none
 seer:X.base.NoSeer
 tree:(model X.prog X.w).prog.given.tree=none
 plr:∀ s:Shared,(∀ b o,X.base.get? b=some o->s.heap.get? b=some o)->PySem.PylongRoom (model X.prog X.w) X.A s
structure Inv (X:Cx) (pins:dq) (σ:List (dc)) (H:Hp) (s:Shared):Prop where
 ok:X.Ok
 os:s.os=X.s₀.os
 bare:AllBare s.gens
 base:Un X.fs X.ex X.H₀ H X.s₀.heap s.heap
 loc:∃ m,s.heap.Ns X.env.locals m/\∀ (i:Nat) (x:Str) (v:V),X.N[i]?=some x->σ[i]?=some (some v)->ca X.env.scope x->∃ u,RelV v u/\Look X.env s.heap m x u
 cell:∀ x c,X.env.cells.lookup x=some c->∃ v,s.heap.IsCell c v
 free:H X.env.locals=none
 freeC:∀ x c,X.env.cells.lookup x=some c->H c=none
 pin:∀ p∈X.pn++pins,s.heap.get? p.1=some p.2/\H p.1=none/\p.1≠X.env.locals/\p.1∉X.fs/\∀ v,p.2.data≠.cell v
 hok:HOk X.prog X.w H s.heap
 len:σ.length=X.N.length
section
variable {X:Cx} {pins:dq} {σ:List (dc)} {H H':Hp} {s:Shared} {h':Heap}
def Cx.Ok.nofr (ok:X.Ok) {b:Addr} {o:Obj} (e:X.base.get? b=some o):b∉X.fs:=λa=>by
 have:=(ok.funs.mem a).1;rw [e] at this;cases this
def Inv.bs (I:Inv X pins σ H s):∀ b o,X.base.get? b=some o->s.heap.get? b=some o/\H b=none:=λb o e=>
 ⟨I.base.keep b o (I.ok.bs b o e).1 (I.ok.bs b o e).2 (I.ok.nofr e) (I.ok.noex b o e),I.base.free b o (I.ok.bs b o e).1 (I.ok.bs b o e).2 (I.ok.noex b o e)⟩
def Inv.bk (I:Inv X pins σ H s):∀ b o,X.base.get? b=some o->s.heap.get? b=some o:=λb o e=>(I.bs b o e).1
def Inv.mod (I:Inv X pins σ H s):Mod X.K X.mg X.base:=I.ok.mod
def Inv.kIn (I:Inv X pins σ H s):X.K.In s.heap:=I.ok.mod.kin.keeps I.bk
def Inv.lt (I:Inv X pins σ H s):X.env.locals<s.heap.objs.size:=let ⟨_,a,_⟩:=I.loc;a.lt
def Inv.sz (I:Inv X pins σ H s):X.s₀.heap.objs.size<=s.heap.objs.size:=CF I.ok.above (Dx I.lt)
def Inv.nofs (I:Inv X pins σ H s) {a:Addr} (h:s.heap.objs.size<=a):a∉X.fs:=λb=>by
 obtain ⟨_,o,c,_⟩:=I.ok.funs.mem b;exact absurd (Cv (nU c) (CF I.sz h)) (Dw _)
def Inv.cne (I:Inv X pins σ H s):∀ x c,X.env.cells.lookup x=some c->c≠X.env.locals:=λx c e z=>by
 obtain ⟨v,o,d,f⟩:=I.cell x c e;obtain ⟨m,⟨g,h,i,a,b,_⟩,_⟩:=I.loc;rw [z,a] at d;cases d;rw [b] at f;cases f
def Inv.funs (I:Inv X pins σ H s):s.heap.FunFrames X.base X.outer:=by
 have all:∀ (l:List Env),(∀ b∈ak l,b∈X.fs)->X.s₀.heap.FunFrames X.base l->s.heap.FunFrames X.base l:=by
  intro l
  induction l with
  | nil=>intro _ _;trivial
  | cons g r h=>
    intro f i;obtain ⟨hk,⟨L,o,a,j,k,m⟩,n⟩:=i;have c:L∈X.fs:=f L (by unfold ak;rw [List.filterMap_cons,a];exact DK);obtain ⟨p,e⟩:=I.base.slot L o k (I.ok.frf L c) c λz=>I.ok.exfs L z c;exact ⟨hk,⟨L,_,a,j,e,m⟩,h (λb d=>f b (by unfold ak;rw [List.filterMap_cons,a];exact DW _ d)) n⟩
 exact all X.outer (λ_ d=>d) I.ok.funs
def Inv.stack (I:Inv X pins σ H s):s.heap.FunFrames X.base X.stack:=by
 rcases I.ok.stk with e | ⟨e,a⟩
 ·rw [e];exact I.funs
 ·rw [e];obtain ⟨m,b,_⟩:=I.loc;refine .cons (by rw [I.ok.kind];decide) a b ?_ I.funs;exact Heap.get?_none_of_le (CF I.ok.bsz I.ok.above)
def Inv.stkSub (I:Inv X pins σ H s):∀ b∈ak X.stack,b∈X.env.locals::X.fs:=λb a=>by
 rcases I.ok.stk with e | ⟨e,c⟩
 ·rw [e] at a;exact DW _ a
 ·rw [e] at a;unfold ak at a;rw [List.filterMap_cons,c] at a;exact a
def Inv.stkFree (I:Inv X pins σ H s):∀ b∈ak X.stack,H b=none:=λb a=>by
 rcases Ep.mp (I.stkSub b a) with e | a
 ·rw [e];exact I.free
 ·obtain ⟨_,o,c,_⟩:=I.ok.funs.mem a;exact I.base.free b o c (I.ok.frf b a) λz=>I.ok.exfs b z a
def Inv.step {g':Array GenState} {t':Nat} {d':Drawn} {ch:dH} (I:Inv X pins σ H s)
  (g:∀ b∈ch,(b∈X.ex\/X.s₀.heap.objs.size<=b)/\b≠X.env.locals/\(∀ x c,X.env.cells.lookup x=some c->c≠b)/\∀ p∈X.pn++pins,p.1≠b)
  (h:∀ b o,b≠X.env.locals->b∉X.fs->b∉ch->s.heap.get? b=some o->H b=none->h'.get? b=some o)
  (B:∀ b o,b≠X.env.locals->b∈X.fs->b∉ch->s.heap.get? b=some o->H b=none->∃ P,h'.get? b=some { o with slots:=P }) (f:∀ b o,b∉ch->s.heap.get? b=some o->H b=none->H' b=none)
  (D:∀ b o,b∉ch->s.heap.get? b=some o->∃ G,h'.get? b=some G)
  (J:∀ b C,H b=some (.tup C)->H' b=some (.tup C)) (K:∀ b o u,H b=some (.frz o u)->H' b=some (.frz o u)) (L:∀ b ps,H b=some (.tbl ps)->∃ M,H' b=some (.tbl (ps++M)))
  (ns:∀ m,s.heap.Ns X.env.locals m->h'.Ns X.env.locals m) (R:HOk X.prog X.w H' h') (hg:AllBare g') :
  Inv X pins σ H' { s with heap:=h',gens:=g',drawn:=d',toks:=t' }:=by
 have N:∀ b o,X.s₀.heap.get? b=some o->b≠X.env.locals:=λb o e=>BZ (Cv (nU e) I.ok.above)
 have y:∀ b o,X.s₀.heap.get? b=some o->b∉X.ex->b∉ch:=λb o e a E=>by
  rcases (g b E).1 with z | z
  ·exact a z
  ·exact absurd (Cv (nU e) z) (Dw _)
 have j:∀ x c,X.env.cells.lookup x=some c->∀ v,s.heap.IsCell c v->h'.IsCell c v:=λx c e v ⟨o,F,S⟩=>by
  have w:c∉ch:=λz=>(g c z).2.2.1 x c e rfl;by_cases Z:c∈X.fs
  ·obtain ⟨P,q⟩:=B c o (I.cne x c e) Z w F (I.freeC x c e);exact ⟨_,q,S⟩
  ·exact ⟨o,h c o (I.cne x c e) Z w F (I.freeC x c e),S⟩
 refine ⟨I.ok,I.os,hg,⟨λb o e n E a=>?_,λb o e n E a=>?_,λb o e n a=>?_,λb o e a=>?_,λb C e=>J b C (I.base.tups b C e),λb o C e=>K b o C (I.base.frzs b o C e),λb ps e=>?_⟩,?_,λx c e=>?_,?_,λx c e=>?_,λp hp=>?_,R,I.len⟩
 ·exact h b o (N b o e) E (y b o e a) (I.base.keep b o e n E a) (I.base.free b o e n a)
 ·obtain ⟨P,A⟩:=I.base.slot b o e n E a;obtain ⟨T,O⟩:=B b _ (N b o e) E (y b o e a) A (I.base.free b o e n a);exact ⟨T,O⟩
 ·obtain ⟨G,A⟩:=I.base.there b o e a;exact f b G (y b o e a) A (I.base.free b o e n a)
 ·obtain ⟨G,A⟩:=I.base.there b o e a;exact D b G (y b o e a) A
 ·obtain ⟨m1,A⟩:=I.base.tbls b ps e;obtain ⟨m2,O⟩:=L b _ A;exact ⟨m1++m2,by rw [O,Array.append_assoc]⟩
 ·obtain ⟨m,hn,hl⟩:=I.loc;refine ⟨m,ns m hn,λi x v A O e3=>?_⟩;obtain ⟨u,r,l⟩:=hl i x v A O e3;refine ⟨u,r,?_⟩;rcases l with l | ⟨k,c,e,z⟩
  ·exact .inl l
  ·exact .inr ⟨k,c,e,j x c e _ z⟩
 ·obtain ⟨v,z⟩:=I.cell x c e;exact ⟨v,j x c e v z⟩
 ·obtain ⟨m,⟨o,_,_,F,_⟩,_⟩:=I.loc;exact f _ o (λz=>(g _ z).2.1 rfl) F I.free
 ·obtain ⟨v,o,F,S⟩:=I.cell x c e;exact f c o (λz=>(g c z).2.2.1 x c e rfl) F (I.freeC x c e)
 ·obtain ⟨e,n,ne,nf,d⟩:=I.pin p hp;have w:p.1∉ch:=λz=>(g p.1 z).2.2.2 p hp rfl;exact ⟨h p.1 p.2 ne nf w e n,f p.1 p.2 w e n,ne,nf,d⟩
def Inv.un {t':Nat} (I:Inv X pins σ H s) (u:Un X.fs [] H H' s.heap h') (c:HOk X.prog X.w H' h'):Inv X pins σ H' { s with heap:=h',toks:=t' }:=by
 obtain ⟨m,⟨o,v,w,j,r⟩,_⟩:=id I.loc;obtain ⟨x,k⟩:=u.any j I.free (by simp)
 exact I.step (g':=s.gens) (d':=s.drawn) (ch:=[]) (λ_ z=>nomatch z) (λb o _ d _ e n=>u.keep b o e n d (by simp)) (λb o _ d _ e n=>u.slot b o e n d (by simp)) (λb o _ e n=>u.free b o e n (by simp)) (λb o _ e=>u.there b o e (by simp)) u.tups u.frzs u.tbls (λy p=>by
  obtain ⟨A,f,g,a,q⟩:=p;rw [j] at a;cases a;exact ⟨_,f,g,k,q⟩) c I.bare
def Inv.call {g':Array GenState} {t':Nat} {d':Drawn} {ch:dH} (I:Inv X pins σ H s) (u:Un (ak X.stack) ch H H' s.heap h') (g:HOk X.prog X.w H' h') (y:AllBare g')
  (d:∀ b∈ch,(b∈X.ex\/X.s₀.heap.objs.size<=b)/\b≠X.env.locals/\(∀ x c,X.env.cells.lookup x=some c->c≠b)/\∀ p∈X.pn++pins,p.1≠b) :
  Inv X pins σ H' { s with heap:=h',gens:=g',drawn:=d',toks:=t' }:=by
 obtain ⟨m,⟨o,D,E,w,r⟩,_⟩:=id I.loc;obtain ⟨F,h⟩:=u.any w I.free λz=>(d _ z).2.1 rfl
 exact I.step (ch:=ch) d (λb o h A a e n=>u.keep b o e n (λz=>(Ep.mp (I.stkSub b z)).elim h A) a) (λb o _ _ a e n=>u.any e n a) (λb o a e n=>u.free b o e n a) (λb o a e=>u.there b o e a) u.tups u.frzs u.tbls (λG B=>by
  obtain ⟨J,i,j,f,C⟩:=B;rw [w] at f;cases f;exact ⟨_,i,j,h,C⟩) g y
def Inv.turned {t':Nat} {a:Addr} (I:Inv X pins σ H s) (k:∀ b o,b≠a->s.heap.get? b=some o->h'.get? b=some o) (j:H a=none) (g:a≠X.env.locals)
  (w:a∈X.ex\/X.s₀.heap.objs.size<=a) (y:∀ x c,X.env.cells.lookup x=some c->c≠a) (A:∀ p∈X.pn++pins,p.1≠a):Inv X pins σ H { s with heap:=h',toks:=t' }:=by
 have f:∀ b u,H b=some u->b≠a:=λb u e z=>by rw [z,j] at e;cases e
 refine I.step (g':=s.gens) (d':=s.drawn) (ch:=[a]) (λb B=>?_) (λb o _ _ d e _=>k b o (λz=>d (by simp [z])) e) (λb o _ _ d e _=>⟨o.slots,k b o (λz=>d (by simp [z])) e⟩) (λ_ _ _ _ n=>n)
  (λb o d e=>⟨o,k b o (λz=>d (by simp [z])) e⟩) (λ_ _ e=>e) (λ_ _ _ e=>e) (λb ps e=>⟨#[],by rw [e];simp⟩) (λm C=>?_) (λb u e=>?_) I.bare
 ·have e:b=a:=by simpa using B
  subst e;exact ⟨w,g,y,A⟩
 ·obtain ⟨o,D,E,F,r⟩:=C;exact ⟨o,D,E,k _ o (Ne.symm g) F,r⟩
 ·refine (I.hok b u e).stay (λc v d q=>k c v ?_ q) (λ_ q=>q) λ_ _ q=>q;rcases d with z | z
  ·rw [z];exact f b u e
  ·exact f c _ z
def Inv.tok (I:Inv X pins σ H s) (t:Nat):Inv X pins σ H { s with toks:=t }:=I.un (h':=s.heap) (t':=t) Un.refl I.hok
def Inv.kept {t':Nat} (I:Inv X pins σ H s) (k:∀ b u,s.heap.get? b=some u->h'.get? b=some u):Inv X pins σ H { s with heap:=h',toks:=t' }:=I.un (Un.kept k) (I.hok.kept k)
def Inv.laid {a:Addr} {o:HO} {t':Nat} (I:Inv X pins σ H s) (k:∀ b u,s.heap.get? b=some u->h'.get? b=some u) (hp:s.heap.objs.size<=a) (c:ObjOk X.prog X.w (upd H a o) h' a o) :
  Inv X pins σ (upd H a o) { s with heap:=h',toks:=t' }:=I.un (Un.laid k hp (I.hok.fresh hp)) (I.hok.laid k hp c)
def Inv.write {x e:Addr} {o:HO} {t':Nat} (I:Inv X pins σ H s) (d:cG (H x)) (f:e=x\/H e=some (.own x)) (k:∀ b u,b≠e->s.heap.get? b=some u->h'.get? b=some u) (a:∃ u,h'.get? e=some u)
  (c:ObjOk X.prog X.w (upd H x o) h' x o):Inv X pins σ (upd H x o) { s with heap:=h',toks:=t' }:=I.un (Un.write d f k a) (I.hok.write d f k a c)
def Inv.pins_of {a:dq} (I:Inv X pins σ H s) (h:∀ p∈a,s.heap.get? p.1=some p.2/\H p.1=none/\p.1≠X.env.locals/\p.1∉X.fs/\∀ v,p.2.data≠.cell v):Inv X a σ H s:=
 ⟨I.ok,I.os,I.bare,I.base,I.loc,I.cell,I.free,I.freeC,λp hp=>(CS.mp hp).elim (λz=>I.pin p (List.mem_append_left _ z)) (h p),I.hok,I.len⟩
def NQ {N:dE} (c:N.Nodup) {i j:Nat} {x:Str} (a:N[i]?=some x) (b:N[j]?=some x):i=j:=by
 obtain ⟨f,d⟩:=BF.mp a;obtain ⟨g,e⟩:=BF.mp b;exact (List.getElem_inj c).mp (d.trans e.symm)
def NR {M:Model} {A:Around} {E:dj} {i:Nat} {x:Str} {v:V} {u:Value} {Q:Unit->Shared->Prop} (I:Inv X pins σ H s) (hN:X.N.Nodup) (O:X.N[i]?=some x) (C:aV X.env.scope x) (r:RelV v u)
  (h:∀ s',Inv X pins (σ.set i (some v)) H s'->(∃ a,Heap.SameBut a s.heap s'.heap/\(a=X.env.locals\/X.env.cells.lookup x=some a))->Q Unit.unit s') (hf:X.fn x=true\/X.env.scope.names.lookup x=some .local:=by first | exact .inl rfl | exact .inr rfl | assumption):wpAny M A (storeName X.env x u) Q E s:=by
 obtain ⟨m,hn,hl⟩:=id I.loc;have P:(X.env.scope.kind == .class || (X.env.scope.kind == .module && X.env.locals != X.env.globals))=false:=by rw [I.ok.kind];rfl
 have G:i<σ.length:=by rw [I.len];exact (BF.mp O).1
 have J:=I.cne
 have g:∀ {a:Addr} {h':Heap},(∃ o,s.heap.get? a=some o/\H a=none)->Heap.SameBut a s.heap h'->HOk X.prog X.w H h':=λ{a h'} ha f b ob e=>by
  obtain ⟨_,_,D⟩:=ha;refine (I.hok b ob e).stay (λc W B q=>(f.2 c ?_).trans q) (λ_ q=>q) λ_ _ q=>q;rintro rfl;rcases B with rfl | B
  ·rw [D] at e;cases e
  ·rw [D] at B;cases B
 rcases C with hk | hk
 ·refine wpAny_storeName_local hk hn (λh' a0 f=>?_) P;obtain ⟨oL,_,_,a3,_⟩:=id hn;refine h _ ⟨I.ok,I.os,I.bare,⟨λb o e n K C=>?_,λb o e n K C=>?_,I.base.free,λb o e C=>?_,I.base.tups,I.base.frzs,I.base.tbls⟩,⟨_,a0,λj y v' w F e3=>?_⟩,λy c e=>?_,I.free,I.freeC,λp hp=>?_,g ⟨oL,a3,I.free⟩ f,by simpa using I.len⟩ ⟨_,f,.inl rfl⟩
  ·exact (f.2 b (BZ (Cv (nU e) I.ok.above))).trans (I.base.keep b o e n K C)
  ·obtain ⟨sl,w⟩:=I.base.slot b o e n K C;exact ⟨sl,(f.2 b (BZ (Cv (nU e) I.ok.above))).trans w⟩
  ·obtain ⟨o',w⟩:=I.base.there b o e C;exact ⟨o',(f.2 b (BZ (Cv (nU e) I.ok.above))).trans w⟩
  ·by_cases L:j=i
   ·subst L;rw [O] at w;cases w;rw [List.getElem?_set_self G] at F;cases F;exact ⟨u,r,.inl ⟨hk,by simp⟩⟩
   ·rw [List.getElem?_set_ne (Ne.symm L)] at F;obtain ⟨u',r',q⟩:=hl j y v' w F e3;refine ⟨u',r',?_⟩;rcases q with ⟨k,e⟩ | ⟨k,c,e,z⟩
    ·refine .inl ⟨k,?_⟩;have:y≠x:=λe=>L (NQ hN w (e ▸ O));simp [this,e]
    ·exact .inr ⟨k,c,e,z.sameBut f (J y c e)⟩
  ·obtain ⟨W,z⟩:=I.cell y c e;exact ⟨W,z.sameBut f (J y c e)⟩
  ·obtain ⟨e,n,Y,nf,d⟩:=I.pin p hp;exact ⟨(f.2 p.1 Y).trans e,n,Y,nf,d⟩
 ·have N:X.fn x=true:=by
   rcases hf with z | z
   ·exact z
   ·rw [z] at hk;cases hk
  obtain ⟨c,B⟩:=I.ok.has x (.inl hk);obtain ⟨W,z⟩:=I.cell x c B;refine wpAny_storeName_cell I.ok.kind hk B z (λh' R f=>?_);obtain ⟨oc,S,T⟩:=id z;refine h { s with heap:=h' } ⟨I.ok,I.os,I.bare,⟨λb o e n K C=>?_,λb o e n K C=>?_,I.base.free,λb o e C=>?_,I.base.tups,I.base.frzs,I.base.tbls⟩,⟨m,hn.sameBut f (Ne.symm (J x c B)),λj y v' w F e3=>?_⟩,λy Z e=>?_,I.free,I.freeC,λp hp=>?_,g ⟨oc,S,I.freeC x c B⟩ f,by simpa using I.len⟩ ⟨c,f,.inr B⟩
  ·exact (f.2 b (BZ (Cv (nU e) (I.ok.cab x c N B)))).trans (I.base.keep b o e n K C)
  ·obtain ⟨sl,w⟩:=I.base.slot b o e n K C;exact ⟨sl,(f.2 b (BZ (Cv (nU e) (I.ok.cab x c N B)))).trans w⟩
  ·obtain ⟨o',w⟩:=I.base.there b o e C;exact ⟨o',(f.2 b (BZ (Cv (nU e) (I.ok.cab x c N B)))).trans w⟩
  ·by_cases L:j=i
   ·subst L;rw [O] at w;cases w;rw [List.getElem?_set_self G] at F;cases F;exact ⟨u,r,.inr ⟨.inl hk,c,B,R⟩⟩
   ·rw [List.getElem?_set_ne (Ne.symm L)] at F;obtain ⟨u',r',q⟩:=hl j y v' w F e3;refine ⟨u',r',?_⟩;rcases q with q | ⟨k,Z,e,z'⟩
    ·exact .inl q
    ·refine .inr ⟨k,Z,e,z'.sameBut f ?_⟩;rintro rfl;exact L (NQ hN w (I.ok.inj _ _ _ e B ▸ O))
  ·by_cases U:Z=c
   ·subst U;exact ⟨_,R⟩
   ·obtain ⟨w2,z2⟩:=I.cell y Z e;exact ⟨w2,z2.sameBut f U⟩
  ·obtain ⟨e,n,Y,nf,d⟩:=I.pin p hp;refine ⟨(f.2 p.1 ?_).trans e,n,Y,nf,d⟩;intro q;rw [q,S] at e;have q':oc=p.2:=nR e;exact d W (by rw [<-q'];exact T)
def Hw {M:Model} {A:Around} {E:dj} {i:Nat} {x:Str} {v:V} {u:Value} {Q:Unit->Shared->Prop} (I:Inv X pins σ H s) (b:X.N.Nodup) (c:X.N[i]?=some x) (d:aV X.env.scope x) (r:RelV v u)
  (h:∀ a,Inv X pins (σ.set i (some v)) H a->Q Unit.unit a) (e:X.fn x=true\/X.env.scope.names.lookup x=some .local:=by first | exact .inl rfl | exact .inr rfl | assumption):wpAny M A (storeName X.env x u) Q E s:=
 NR I b c d r (λa f _=>h a f) e
def Inv.call' {s':Shared} {ch:dH} (I:Inv X pins σ H s) (i:s'.os=s.os) (u:Un (ak X.stack) ch H H' s.heap s'.heap) (a:HOk X.prog X.w H' s'.heap) (j:AllBare s'.gens)
  (d:∀ b∈ch,(b∈X.ex\/X.s₀.heap.objs.size<=b)/\b≠X.env.locals/\(∀ x c,X.env.cells.lookup x=some c->c≠b)/\∀ p∈X.pn++pins,p.1≠b):Inv X pins σ H' s':=by
 obtain ⟨h',f,g,h,k⟩:=s';have e:k=s.os:=i;subst e;exact I.call (g':=f) (t':=h) (d':=g) u a j d
end
noncomputable abbrev XK:=Value->Option Addr->Hp->Prop
noncomputable abbrev St:=List (dc)
noncomputable abbrev VK:=V->Hp->Prop
noncomputable abbrev TE:=St->Hp->VK->Prop
noncomputable abbrev TT:=St->Hp->(Bool->Hp->Prop)->Prop
noncomputable abbrev TA:=St->Hp->(d8->Hp->Prop)->Prop
structure Ends where
 nx:St->Hp->Prop
 rt:VK
 bk:St->Hp->Prop:=λ_ _=>False
 ct:St->Hp->Prop:=λ_ _=>False
noncomputable abbrev TS:=Ends->St->Hp->Prop
def EP (X:Cx) (a:dq) (c:St) (Q:VK) (u:Value) (s':Shared):Prop:=∃ v b,Inv X a c b s'/\RelV v u/\Q v b
def TP (X:Cx) (a:dq) (d:St) (Q:Bool->Hp->Prop) (b:Bool) (s':Shared):Prop:=∃ c,Inv X a d c s'/\Q b c
def AP (X:Cx) (a:dq) (d:St) (Q:d8->Hp->Prop) (e:dh) (s':Shared):Prop:=∃ b c,Inv X a d c s'/\Vals b e/\Q b c
def SP (X:Cx) (b:dq) (D:Ends) (f:Flow) (s':Shared):Prop:=
 match f with
 | .next=>∃ a c,Inv X b a c s'/\D.nx a c
 | .brk=>∃ a c,Inv X b a c s'/\D.bk a c
 | .cont=>∃ a c,Inv X b a c s'/\D.ct a c
 | .ret u=>∃ v a c,Inv X b a c s'/\RelV v u/\D.rt v c
def PE (X:Cx) (e:Expr) (t:TE):Prop:=
 ∀ (a:dq) (s:Shared) (b:St) (H:Hp) (Q:VK),Inv X a b H s->t b H Q->wpAny (model X.prog X.w) X.A (eval e X.env) (EP X a b Q) X.xe s
def PT (X:Cx) (e:Expr) (t:TT):Prop:=
 ∀ (a:dq) (s:Shared) (b:St) (H:Hp) (Q:Bool->Hp->Prop),Inv X a b H s->t b H Q->wpAny (model X.prog X.w) X.A (isTrue e X.env (eval e X.env)) (TP X a b Q) X.xe s
def PW (X:Cx) (e:Expr) (t:TT):Prop:=
 ∀ (b:Sem Value) (a:dq) (s:Shared) (c:St) (H:Hp) (Q:Bool->Hp->Prop),Inv X a c H s->t c H Q->wpAny (model X.prog X.w) X.A (isTrue e X.env b) (TP X a c Q) X.xe s
def PW.pt {X:Cx} {e:Expr} {t:TT} (h:PW X e t):PT X e t:=h _
def PA (X:Cx) (d:dC) (t:TA):Prop:=
 ∀ (b:Pos) (a:dq) (s:Shared) (c:St) (H:Hp) (Q:d8->Hp->Prop),Inv X a c H s->t c H Q->wpAny (model X.prog X.w) X.A (spliced (backTo b (starEach d X.env))) (AP X a c Q) X.xe s
def PS (X:Cx) (st:Stmt) (t:TS):Prop:=
 ∀ (a:dq) (s:Shared) (b:St) (H:Hp) (D:Ends),Inv X a b H s->t D b H->wpAny (model X.prog X.w) X.A (exec st X.env) (SP X a D) X.xe s
def PSs (X:Cx) (st:List Stmt) (t:TS):Prop:=
 ∀ (a:dq) (s:Shared) (b:St) (H:Hp) (D:Ends),Inv X a b H s->t D b H->wpAny (model X.prog X.w) X.A (execs st X.env) (SP X a D) X.xe s
def E_ {b:Type} {t:Sem b} {Q c:b->Shared->Prop} {M:Model} {A:Around} {E:dj} {s:Shared} (h:wpAny M A t Q E s) (d:∀ a s,Q a s->c a s):wpAny M A t c E s:=nQ h d λ_ _ x=>x
section
variable {X:Cx}
def AB (i:Nat):TE:=λa H Q=>∃ v,a[i]?=some (some v)/\Q v H
def tC (v:V):TE:=λ_ H Q=>Q v H
def VR {i:Nat} {x:Str} {f:Pos} (n:X.N[i]?=some x) (o:ca X.env.scope x) (g:(x == ("__debug__" : Str))=false:=by decide) (j:(x == ("__classdict__" : Str))=false:=by decide):PE X (.Name x f) (AB i):=by
 intro d s p H Q I h;obtain ⟨v,e,h⟩:=h;obtain ⟨m,q,w⟩:=I.loc;obtain ⟨u,r,l⟩:=w i x v n e o;have b:EP X d p Q u s:=⟨v,H,I,r,h⟩;rcases l with ⟨hk,y⟩ | ⟨hk,c,k,a⟩
 ·exact wpAny_Name (wpAny_loadName_local I.ok.kind hk q y b) g
 ·rcases hk with hk | hk
  ·exact wpAny_Name (wpAny_loadName_cell I.ok.kind hk k a b) g
  ·exact wpAny_Name (wpAny_loadName_free I.ok.kind hk k a b j) g
def AO {i j pos}:PE X (.Constant (.int i) j pos) (tC (.int i)):=λ_ _ _ H _ I h=>wpAny_Constant_int ⟨.int i,H,I.tok _,⟨_,rfl⟩,h⟩
def GK {b j pos}:PE X (.Constant (.bool b) j pos) (tC (.bl b)):=λ_ _ _ H _ I h=>Constant_bool ⟨.bl b,H,I,rfl,h⟩
def Es {j pos}:PE X (.Constant .none j pos) (tC .non):=λ_ _ _ H _ I h=>Constant_none ⟨.non,H,I,rfl,h⟩
def Kr {x j pos}:PE X (.Constant (.str x) j pos) (tC (.str x)):=λ_ _ _ H _ I h=>Calls.Constant_str ⟨.str x,H,I.tok _,⟨_,rfl⟩,h⟩
def Gl (X:Cx) (x:Str):Prop:=X.env.kindOf x=some .globalImplicit
def Ks {E:dj} {a:dq} {s:Shared} {c:St} {H:Hp} {x:Str} {u:Value} {b:Pos} {Q:dj} (I:Inv X a c H s) (d:Gl X x) (e:X.mg x=some u) (h:Q u s)
  (f:(x == ("__debug__" : Str))=false:=by decide):wpAny (model X.prog X.w) X.A (eval (.Name x b) X.env) Q E s:=
 Calls.Name_function_global I.ok.kind d (Calls.loadGlobal_global (by rw [I.ok.glob];exact I.mod.glob.keeps I.bk) e h) f
def Ee {E:dj} {a:dq} {s:Shared} {c:St} {H:Hp} {x:Str} {u:Value} {b:Pos} {Q:dj} (I:Inv X a c H s) (d:Gl X x) (e:X.mg x=none) (f:bootBuiltins x=some u) (h:Q u s)
  (g:x ≠ "__name__" := by decide) (i:(x == ("__debug__" : Str))=false:=by decide):wpAny (model X.prog X.w) X.A (eval (.Name x b) X.env) Q E s:=by
 obtain ⟨m,j,k⟩:=I.mod.blt;exact Calls.Name_function_global I.ok.kind d (Calls.loadGlobal_builtin (by rw [I.ok.glob];exact I.mod.glob.keeps I.bk) e (by rw [I.ok.blt];exact j.keeps I.bk) ((k x g).trans f) h) i
def JP {x:Str} {v:V} {u:Value} {a:Pos} (b:Gl X x) (c:X.mg x=some u) (r:RelV v u) (d:(x == ("__debug__" : Str))=false:=by decide):PE X (.Name x a) (tC v):=
 λ_ _ _ H _ I h=>Ks I b c ⟨v,H,I,r,h⟩ d
variable {a b:Expr} {ta tb:TE} {pos:Pos}
def tB (t:TE):TT:=λd H Q=>t d H λx e=>∃ c,x=.bl c/\Q c e
def G4 {e:Expr} {t:TE} (h:PE X e t) (g:∀ c,isTrue e X.env c=(do let v <-c;standAt e.pos;holding [v] (truthy v)):=by intro _;rfl):PT X e (tB t):=by
 intro f s i H Q I j;refine isTrue_plain (E_ (h f s i H _ I j) λv p ⟨x,k,m,n,o⟩=>?_) (g _);obtain ⟨d,rfl,q⟩:=o;cases n;exact wpAny_truthy_bool ⟨k,m,q⟩
variable {tA tB':TT} {rest:dC}
def FC (t u:TT):TT:=λd H Q=>t d H λc e=>if c=true then u d e Q else Q false e
def a_ (t u:TT):TT:=λd H Q=>t d H λc e=>if c=true then Q true e else u d e Q
def G5 (t:TT):TT:=λd H Q=>t d H λc e=>Q (!c) e
theorem G6 (f:PT X a tA):PW X (.BoolOp .And [a] pos) tA:=by
 intro i d s g H Q I h;refine isTrue_and (E_ (f d s g H Q I h) λc j e=>?_);cases c with
 | true=>exact isTrue_and_nil e
 | false=>exact e
theorem Kt (f:PT X a tA):PW X (.BoolOp .Or [a] pos) tA:=by
 intro i d s g H Q I h;refine isTrue_or (E_ (f d s g H Q I h) λc j e=>?_);cases c with
 | false=>exact isTrue_or_nil e
 | true=>exact e
theorem G7 (j:PT X a tA) (k:PW X (.BoolOp .And (b::rest) pos) tB'):PW X (.BoolOp .And (a::b::rest) pos) (FC tA tB'):=by
 intro m d s e H Q I h;refine isTrue_and (E_ (j d s e H _ I h) λc n ⟨f,g,i⟩=>?_);cases c with
 | true=>exact k m d n e f Q g i
 | false=>exact ⟨f,g,i⟩
theorem Ku (j:PT X a tA) (k:PW X (.BoolOp .Or (b::rest) pos) tB'):PW X (.BoolOp .Or (a::b::rest) pos) (a_ tA tB'):=by
 intro m d s e H Q I h;refine isTrue_or (E_ (j d s e H _ I h) λc n ⟨f,g,i⟩=>?_);cases c with
 | true=>exact ⟨f,g,i⟩
 | false=>exact k m d n e f Q g i
def Kv (e:PT X a tA):PT X (.UnaryOp .Not a pos) (G5 tA):=by
 intro d s f H Q I h;exact isTrue_not (e d s f H (λc g=>Q (!c) g) I h)
def JQ (ta tb:TE):TE:=λd H Q=>ta d H λx e=>∃ c,x=.bl c/\if c=true then tb d e Q else Q (.bl false) e
def VS (ta tb:TE):TE:=λd H Q=>ta d H λx e=>∃ c,x=.bl c/\if c=true then Q (.bl true) e else tb d e Q
def VT (ta:TE):TE:=λd H Q=>ta d H λx e=>∃ c,x=.bl c/\Q (.bl (!c)) e
def VU {op} {t:TE} (h:PE X a t):PE X (.BoolOp op [a] pos) t:=λc s d H Q I e=>BoolOp_one (h c s d H Q I e)
theorem VV (j:PE X a ta) (k:PE X (.BoolOp .And (b::rest) pos) tb):PE X (.BoolOp .And (a::b::rest) pos) (JQ ta tb):=by
 intro d s f H Q I h;refine BoolOp_and (E_ (j d s f H _ I h) λv m ⟨x,g,i,n,e⟩=>?_);obtain ⟨c,rfl,e⟩:=e;cases n;refine wpAny_truthy_bool ?_;cases c with
 | true=>exact k d m f g Q i e
 | false=>exact ⟨.bl false,g,i,rfl,e⟩
def au (t:TT) (ta tb:TE):TE:=λd H Q=>t d H λc e=>if c=true then ta d e Q else tb d e Q
theorem Fv {c:Expr} (m:PT X c tA) (n:PE X a ta) (o:PE X b tb):PE X (.IfExp c a b pos) (au tA ta tb):=by
 intro e s f H Q I h;refine wpAny_IfExp (E_ (m e s f H _ I h) λd g ⟨i,j,k⟩=>?_);cases d with
 | true=>exact n e g f i Q j k
 | false=>exact o e g f i Q j k
end
def SqL (K:W.Frag) (H:Hp) (a:Addr) (xs:d8):Prop:=
 Rd H a (.lst xs)\/
  ∃ (o:Obj) (b:Array Value) (n:Nat),K.lookup a=some o/\o.cls=.type "list" /\ o.dict=none/\o.data=.seq b n/\b.size<=sizeLine/\Vals xs b.toList
def SqT (K:W.Frag) (H:Hp) (a:Addr) (xs:d8):Prop:=
 Rd H a (.tup xs)\/
  ∃ (o:Obj) (b:Array Value) (n:Nat),K.lookup a=some o/\o.cls=.type "tuple" /\ o.data=.seq b n/\b.size<=sizeLine/\Vals xs b.toList
noncomputable def VW:Value->dc
 | .none=>some .non
 | .bool b=>some (.bl b)
 | .int i _=>some (.int i)
 | .str x _=>some (.str x)
 | .bytes b _=>some (.byt b)
 | .float b _=>some (.flt b)
 | .ref a=>some (.ref a)
 | .type n=>some (.ty n)
 | _=>none
theorem RelV.abs {x:V} {u:Value} (r:RelV x u):VW u=some x:=by
 cases x with
 | non=>cases r;rfl
 | bl _=>cases r;rfl
 | int _=>obtain ⟨t,rfl⟩:=r;rfl
 | str _=>obtain ⟨t,rfl⟩:=r;rfl
 | byt _=>obtain ⟨t,rfl⟩:=r;rfl
 | flt _=>obtain ⟨t,rfl⟩:=r;rfl
 | ref _=>cases r;rfl
 | ty _=>cases r;rfl
def RelV.inj {x y:V} {u:Value} (r:RelV x u) (q:RelV y u):x=y:=nR (r.abs.symm.trans q.abs)
theorem Vals.inj:∀ {xs ys:d8} {a:dh},Vals xs a->Vals ys a->xs=ys
 | _,_,_,.nil,.nil=>rfl
 | _,_,_,.cons r t,.cons b c=>by rw [r.inj b,Vals.inj t c]
section
variable {X:Cx} {pins:dq} {σ:St} {H:Hp} {s:Shared} {a:Addr} {xs ys:d8}
def SqL.of {K:W.Frag} (h:H a=some (.lst xs)):SqL K H a xs:=.inl (.inl h)
def SqT.of {K:W.Frag} (h:H a=some (.tup xs)):SqT K H a xs:=.inl (.inl h)
def Inv.list (I:Inv X pins σ H s) (h:SqL X.K H a xs):∃ b:dh,Vals xs b/\PlainL s.heap a b.toArray/\xs.length<=sizeLine:=by
 rcases h with h | ⟨o,b,n,hk,c,d,f,g,r⟩
 ·obtain ⟨z,b,n,r,e⟩:=h.ok I.hok;exact ⟨b,r,⟨_,n,e,rfl,rfl,rfl⟩,z⟩
 ·refine ⟨b.toList,r,⟨o,n,I.kIn a o hk,c,d,by simpa using f⟩,?_⟩;have e:=r.length;simp only [Array.length_toList] at e;omega
def Inv.tuple (I:Inv X pins σ H s) (h:SqT X.K H a xs):∃ b:dh,Vals xs b/\IsTup s.heap a b.toArray/\xs.length<=sizeLine:=by
 rcases h with h | ⟨o,b,n,hk,c,d,f,r⟩
 ·obtain ⟨z,b,r,p⟩:=h.ok I.hok;exact ⟨b,r,p,z⟩
 ·refine ⟨b.toList,r,⟨o,I.kIn a o hk,c,n,by simpa using d⟩,?_⟩;have e:=r.length;simp only [Array.length_toList] at e;omega
def Inv.list_inj (I:Inv X pins σ H s) (h:SqL X.K H a xs) (h':SqL X.K H a ys):xs=ys:=by
 obtain ⟨c,r,⟨o,n,e,_,_,d⟩,_⟩:=I.list h;obtain ⟨b,i,⟨k,m,f,_,_,g⟩,_⟩:=I.list h';rw [e] at f;cases f;rw [d] at g;injection g with j _;have:c=b:=by simpa using congrArg Array.toList j
 subst this;exact r.inj i
def Inv.tuple_inj (I:Inv X pins σ H s) (h:SqT X.K H a xs) (h':SqT X.K H a ys):xs=ys:=by
 obtain ⟨c,r,⟨o,e,_,n,d⟩,_⟩:=I.tuple h;obtain ⟨b,i,⟨k,f,_,m,g⟩,_⟩:=I.tuple h';rw [e] at f;cases f;rw [d] at g;injection g with j _;have:c=b:=by simpa using congrArg Array.toList j
 subst this;exact r.inj i
end
noncomputable abbrev Cx.wish (X:Cx) (E:dj):Cx:={ X with xe:=E }
noncomputable abbrev Cx.nox (X:Cx):Cx:=X.wish λ_ _=>False
def Cx.Ok.wish {X:Cx} (ok:X.Ok) (E:dj):(X.wish E).Ok:=
 ⟨ok.mod,ok.kind,ok.glob,ok.blt,ok.above,ok.inj,ok.has,ok.cab,ok.hd,ok.frames,ok.stk,ok.exf,ok.bs,ok.bsz,ok.noex,ok.exfs,ok.funs,ok.frf,ok.seer,ok.tree,ok.plr⟩
def Cx.Ok.unwish {X:Cx} {E:dj} (ok:(X.wish E).Ok):X.Ok:=
 ⟨ok.mod,ok.kind,ok.glob,ok.blt,ok.above,ok.inj,ok.has,ok.cab,ok.hd,ok.frames,ok.stk,ok.exf,ok.bs,ok.bsz,ok.noex,ok.exfs,ok.funs,ok.frf,ok.seer,ok.tree,ok.plr⟩
section
variable {X:Cx} {pins:dq} {σ:St} {H:Hp} {s:Shared} {E:dj}
def Inv.wish (I:Inv X pins σ H s) (E:dj):Inv (X.wish E) pins σ H s:=⟨I.ok.wish E,I.os,I.bare,I.base,I.loc,I.cell,I.free,I.freeC,I.pin,I.hok,I.len⟩
def Inv.unwish (I:Inv (X.wish E) pins σ H s):Inv X pins σ H s:=⟨I.ok.unwish,I.os,I.bare,I.base,I.loc,I.cell,I.free,I.freeC,I.pin,I.hok,I.len⟩
theorem SP.unwish {D:Ends} {f:Flow} {s':Shared} (h:SP (X.wish E) pins D f s'):SP X pins D f s':=by
 cases f with
 | next=>obtain ⟨a,b,I,q⟩:=h;exact ⟨a,b,I.unwish,q⟩
 | brk=>obtain ⟨a,b,I,q⟩:=h;exact ⟨a,b,I.unwish,q⟩
 | cont=>obtain ⟨a,b,I,q⟩:=h;exact ⟨a,b,I.unwish,q⟩
 | ret u=>obtain ⟨v,a,b,I,r,q⟩:=h;exact ⟨v,a,b,I.unwish,r,q⟩
def PSs.nox {st:List Stmt} {t:TS} (h:PSs X.nox st t):PSs X st t:=λpins s σ H D I a=>
 nQ (h pins s σ H D (I.wish _) a) (λ_ _ q=>q.unwish) λ_ _ z=>False.elim z
end
section
variable {X:Cx} {st:Stmt} {rest:List Stmt} {t u:TS} {e:Expr} {te:TE} {pos:Pos}
def BT:TS:=λD a H=>D.nx a H
def AH (t u:TS):TS:=λD a H=>t { D with nx:=u D } a H
def Bh:PSs X [] BT:=λ_ _ a H _ I h=>wpAny_execs_nil ⟨a,H,I,h⟩
theorem AJ (c:PS X st t) (d:PSs X rest u):PSs X (st::rest) (AH t u):=by
 intro a s g H D I h;refine wpAny_execs_cons (E_ (c a s g H { D with nx:=u D } I h) λf i q=>?_);cases f with
 | next=>
   obtain ⟨b,j,k,q⟩:=q;exact d a i b j D k q
 | ret v=>exact q
 | brk=>exact q
 | cont=>exact q
theorem AS (b:PS X st t):PSs X [st] t:=by
 intro a s c H D I h;refine wpAny_execs_cons (E_ (b a s c H D I h) λf d q=>?_);cases f with
 | next=>exact wpAny_execs_nil q
 | ret v=>exact q
 | brk=>exact q
 | cont=>exact q
def Inv.quiet {a:dq} {b:St} {H:Hp} {s:Shared} (I:Inv X a b H s):interactive X.env=false:=by simp [interactive,I.ok.kind]
def EL (te:TE):TS:=λD a H=>te a H λ_ b=>D.nx a b
def FD (c:PE X e te) (d:swapsWith e none pos.line X.env=pure false:=by rfl):PS X (.Expr e pos) (EL te):=by
 intro a s b H D I h;exact wpAny_Expr_any (E_ (c a s b H _ I h) λv j ⟨x,f,g,k,i⟩=>⟨b,f,g,i⟩) I.quiet d
def AZ (te:TE):TS:=λD a H=>te a H D.rt
def Ac (c:PE X e te):PS X (.Return (some e) pos) (AZ te):=by
 intro a s b H D I h;exact wpAny_Return_some (E_ (c a s b H _ I h) λv j ⟨x,d,f,g,i⟩=>⟨x,b,d,f,g,i⟩)
def BR (c:TT) (t u:TS):TS:=λD a H=>c a H λb d=>if b=true then t D a d else u D a d
theorem Bi {c:Expr} {a b:List Stmt} {tc:TT} (n:PT X c tc) (o:PSs X a t) (p:PSs X b u):PS X (.If c a b pos) (BR tc t u):=by
 intro f s g H D I h;refine wpAny_If (E_ (n f s g H _ I h) λd i ⟨j,k,m⟩=>?_);cases d with
 | true=>exact o f i g j D k m
 | false=>exact p f i g j D k m
end
noncomputable abbrev TG:=V->St->Hp->(St->Hp->Prop)->Prop
noncomputable abbrev aR:=d8->St->Hp->(St->Hp->Prop)->Prop
def PG (X:Cx) (a:Expr) (t:TG):Prop:=
 ∀ (b:dq) (s:Shared) (d:St) (H:Hp) (v:V) (u:Value) (Q:St->Hp->Prop),Inv X b d H s->RelV v u->t v d H Q->
   wpAny (model X.prog X.w) X.A (assign a X.env u) (λ_ f=>∃ c e,Inv X b c e f/\Q c e) X.xe s
def cg (X:Cx) (g:dC) (t:aR):Prop:=
 ∀ (a:dq) (s:Shared) (c:St) (H:Hp) (d:d8) (e:dh) (Q:St->Hp->Prop),Inv X a c H s->Vals d e->t d c H Q->
   wpAny (model X.prog X.w) X.A (assignInOrder ((assignEach g X.env).map (·.2)) e) (λ_ h=>∃ b f,Inv X a b f h/\Q b f) X.xe s
noncomputable abbrev aC:=V->V->V->Hp->(Hp->Prop)->Prop
def bo (X:Cx) (t:aC):Prop:=
 ∀ (a:dq) (s:Shared) (b:St) (H:Hp) (o i v:V) (c d u:Value) (Q:Hp->Prop),Inv X a b H s->RelV o c->RelV i d->RelV v u->t o i v H Q->
   wpAny (model X.prog X.w) X.A (setItem c d u) (λ_ f=>∃ e,Inv X a b e f/\Q e) X.xe s
noncomputable abbrev cx:=V->V->Hp->VK->Prop
def PIp (X:Cx) (c:Operator) (t:cx):Prop:=
 ∀ (a:dq) (s:Shared) (b:St) (H:Hp) (x y:V) (v u:Value) (Q:VK),Inv X a b H s->RelV x v->RelV y u->t x y H Q->
   wpAny (model X.prog X.w) X.A (inplaceOp c v u) (EP X a b Q) X.xe s
section
variable {X:Cx} {pos:Pos}
def AG (i:Nat):TG:=λv a H Q=>Q (a.set i (some v)) H
def Ad {i:Nat} {x:Str} (b:X.N.Nodup) (c:X.N[i]?=some x) (d:aV X.env.scope x) (e:X.fn x=true\/X.env.scope.names.lookup x=some .local:=by first | exact .inl rfl | exact .inr rfl | assumption):PG X (.Name x pos) (AG i):=by
 intro a s g H v u Q I r h;exact wpAny_assign_Name (Hw I b c d r (λj f=>⟨_,H,f,h⟩) e)
noncomputable def DM:aR:=λa b H Q=>a=[]/\Q b H
noncomputable def Bb (t:TG) (u:aR):aR:=λb c H Q=>∃ v r,b=v::r/\t v c H λa d=>u r a d Q
def D4:cg X [] DM:=by
 intro a s b H c d Q I r h;obtain ⟨e,h⟩:=h;subst e;cases r;exact assignInOrder_nil ⟨b,H,I,h⟩
theorem Bx {e:Expr} {b:dC} {t:TG} {u:aR} (d:PG X e t) (f:cg X b u)
  (g:(assignEach (e::b) X.env).map (·.2)=assign e X.env::(assignEach b X.env).map (·.2):=by rfl):cg X (e::b) (Bb t u):=by
 intro a s i H q w Q I r h;obtain ⟨v,vr,j,h⟩:=h;subst j;cases r with
 | cons r k=>
   rw [g];refine assignInOrder_cons (E_ (d a s i H _ _ _ I r h) λ_ m ⟨c,n,o,p⟩=>?_);exact f a m c n _ _ Q o k p
def VX (K:W.Frag) (n:Nat) (t:aR):TG:=λv c H Q=>∃ a b,v=.ref a/\SqT K H a b/\b.length=n/\t b c H Q
def VY {d:dC} {k:Nat} {t:aR} {n:Nat} (p:X.calm=true) (h:cg X d t)
  (q:(assignEach d X.env).length=n:=by rfl) (f:(assignEach d X.env).findIdx? (·.1)=none:=by rfl):PG X (.Tuple d k pos) (VX X.K n t):=by
 intro c s i H v u Q I r g;obtain ⟨a,w,x,y,z,g⟩:=g;subst x;cases r;obtain ⟨A,j,B,F⟩:=I.tuple y;refine assign_Tuple_tuple (I.ok.hd p) B (by simp [q,<-z,j.length]) f λC D=>?_;have E:Inv X c i H { s with heap:=C }:=I.kept (t':=s.toks) λb o e=>D b o (BZ (nU e)) e;exact h c _ i H w _ Q E (by simpa using j) g
def Do (b c:TE) (t:aC):TG:=λv a H Q=>b a H λo d=>c a d λi e=>t o i v e λf=>Q a f
def Ef {o i:Expr} {e f:TE} {t:aC} (g:PE X o e) (j:PE X i f) (k:bo X t)
  (m:∀ v,assign (.Subscript o i pos) X.env v=(do
   let b <-holding [v] (eval o X.env);let c <-holding [v,b] (eval i X.env)
   standAt pos
   holding [v,b,c] (setItem b c v)
   release [v,b,c] []):=by intro _;rfl):PG X (.Subscript o i pos) (Do e f t):=by
 intro a s d H v u Q I r h;rw [m];refine nO (wpAny_holding (E_ (g a s d H _ I h) λb n ⟨x,p,q,w,z⟩=>?_));refine nO (wpAny_holding (E_ (j a n d p _ q z) λc A ⟨y,B,C,D,E⟩=>?_));refine nO (wpAny_standAt (nO (wpAny_holding (E_ (k a A d B x y v b c u _ C w D r E) λ_ K ⟨F,G,J⟩=>?_))));exact wpAny_release ⟨d,F,G,J⟩
def AM (b:TE) (g:TG):TS:=λD a H=>b a H λx c=>g x a c D.nx
def Eg {b e:Expr} {c:TE} {g:TG} (f:PE X e c) (i:PG X b g) (j:swapsWithSole [b] e pos.line X.env=pure false:=by rfl) (k:swappedStores [b] e X.env=pure none:=by rfl)
  (m:(assignEach [b] X.env).map (·.2)=[assign b X.env]:=by rfl):PS X (.Assign [b] e pos) (AM c g):=by
 intro a s d H D I h;refine wpAny_Assign_stores (E_ (f a s d H _ I h) λv n ⟨x,o,p,r,u⟩=>?_) j k;rw [m];exact E_ (i a n d o x v _ p r u) λ_ w q=>q
def Ct {i:Nat} {x:Str} {e:Expr} {c:TE} {a:Pos} (d:X.N.Nodup) (f:X.N[i]?=some x) (g:aV X.env.scope x) (j:PE X e c) (k:swapsWith e (some (.Name x a)) pos.line X.env=pure false:=by rfl) (m:X.fn x=true\/X.env.scope.names.lookup x=some .local:=by first | exact .inl rfl | exact .inr rfl | assumption) :
  PS X (.Assign [.Name x a] e pos) (AM c (AG i)):=by
 intro b s n H D I h;refine wpAny_Assign_Name (E_ (j b s n H _ I h) λv w ⟨y,o,p,q,r⟩=>?_) k;exact Hw p d f g q (λz u=>⟨_,o,u,r⟩) m
def Fw (i j:Nat) (b:TA):TS:=λD a H=>b a H λc d=>∃ v w,c=[v,w]/\D.nx ((a.set i (some v)).set j (some w)) d
def Kw {i j:Nat} {x y:Str} {a b:Expr} {B:TA} {m n r:Pos} {kt k2 pt2} (O:X.calm=true) (C:X.N.Nodup) (P:X.N[i]?=some x) (Q:X.N[j]?=some y) (u:i≠j)
  (E:X.env.scope.names.lookup x=some .local) (F:X.env.scope.names.lookup y=some .local) (R:PA X [a,b] B)
  (S:swappedStores [.Tuple [.Name x m,.Name y n] kt r] (.Tuple [a,b] k2 pt2) X.env=pure (some [x,y]))
  (T:swapsWithSole [.Tuple [.Name x m,.Name y n] kt r] (.Tuple [a,b] k2 pt2) pos.line X.env=pure false:=by rfl) :
  PS X (.Assign [.Tuple [.Name x m,.Name y n] kt r] (.Tuple [a,b] k2 pt2) pos) (Fw i j B):=by
 intro d s G H D I h;rw [exec_Assign_arm];refine nO (wpAny_standAt ?_);rw [T];refine nO (nP ?_);rw [nG ∅];refine nO (Tuple_ (E_ (R _ d s G H _ I h) λU f ⟨vs,J,W,Y,z⟩=>?_));obtain ⟨v,w,Z,z⟩:=z;subst Z
 obtain ⟨g,k,rfl,rv,rw'⟩:∃ g k,U=[g,k]/\RelV v g/\RelV w k:=by
  cases Y with
  | cons p q=>
    cases q with
    | cons p' q'=>
      cases q';exact ⟨_,_,rfl,p,p'⟩
 refine wpAny_newObj_type ?_ (by show 2<=sizeLine;decide);have I2:Inv X d G J { f with heap:=f.heap.push { cls:=.type "tuple", data:=.seq [g,k].toArray } }:=W.kept (t':=f.toks) λb o e=>Heap.get?_push_of_some _ e;rw [S];refine nO (nP ?_);show wpAny (model X.prog X.w) X.A (do rule "assign.swapped-stores"; let c <-unpackItems (.ref f.heap.objs.size) 2 none;assignInOrder [λv=>bindName X.env y v,λv=>bindName X.env x v] c.reverse;pure Flow.next) _ _ _;refine nO (wpAny_rule (nO (unpackItems_tuple (items:=#[g,k]) (I.ok.hd O) (IsTup.new f.heap _) λM A=>?_)));have I3:=I2.kept (h':=M) (t':=f.toks) λb o e=>A b o (BZ (nU e)) e;show wpAny _ _ (assignInOrder [λv=>bindName X.env y v,λv=>bindName X.env x v] [k,g] >>= λ_=>pure Flow.next) _ _ _;refine nO (assignInOrder_cons (wpAny_bindName (Hw I3 C Q (.inl F) rw' (λs2 I4=>?_) (.inr F))));refine assignInOrder_cons (wpAny_bindName (Hw I4 C P (.inl E) rv (λs3 N=>assignInOrder_nil (nP ?_)) (.inr E)));rw [List.set_comm _ _ (Ne.symm u)] at N;exact ⟨_,J,N,z⟩
def C9 (i:Nat) (b:TE) (c:cx):TS:=λD a H=>∃ x,a[i]?=some (some x)/\b a H λy d=>c x y d λz e=>D.nx (a.set i (some z)) e
def Db {i:Nat} {x:Str} {e:Expr} {p:TE} {j:Operator} {q:cx} {d:Pos} (E:X.N.Nodup) (A:X.N[i]?=some x) (n:aV X.env.scope x) (F:PE X e p) (G:PIp X j q) (J:X.fn x=true\/X.env.scope.names.lookup x=some .local:=by first | exact .inl rfl | exact .inr rfl | assumption) :
  PS X (.AugAssign (.Name x d) j e pos) (C9 i p q):=by
 intro a s B H D I h;obtain ⟨v,K,h⟩:=h;obtain ⟨m,L,M⟩:=I.loc;have o:ca X.env.scope x:=by rcases n with k | k;exact .inl k;exact .inr (.inl k)
 obtain ⟨u,r,l⟩:=M i x v A K o;refine wpAny_AugAssign_Name ?_
 have C:wpAny (model X.prog X.w) X.A (eval e X.env) (λw f=>wpAny (model X.prog X.w) X.A (inplaceOp j u w) (λr g=>wpAny (model X.prog X.w) X.A (storeName X.env x r) (λ_=>SP X a D .next) X.xe g) X.xe f) X.xe s:=by
  refine E_ (F a s B H _ I h) λw N ⟨y,O,P,Q,R⟩=>?_;refine E_ (G a N B O v y u w _ P r Q R) λz s2 ⟨zv,S,T,U,W⟩=>?_;exact Hw T E A n U (λs3 Y=>⟨_,S,Y,W⟩) J
 rcases l with ⟨hk,Z⟩ | ⟨hk,c,hc,b⟩
 ·exact wpAny_loadName_local I.ok.kind hk L Z C
 ·rcases hk with hk | hk
  ·exact wpAny_loadName_cell I.ok.kind hk hc b C
  ·rcases n with k | k
   ·have:X.env.scope.names.lookup x=some .free:=hk;rw [k] at this;cases this
   ·have:X.env.scope.names.lookup x=some .free:=hk;rw [k] at this;cases this
def Hy (e f g:TE) (a:V->V->Hp->VK->Prop) (d:cx) (b:aC):TS:=λD c H=>e c H λo h=>f c h λi j=>a o i j λx k=>g c k λy m=>d x y m λz n=>b o i z n λp=>D.nx c p
def cy (X:Cx) (t:V->V->Hp->VK->Prop):Prop:=
 ∀ (a:dq) (s:Shared) (b:St) (H:Hp) (o i:V) (c d:Value) (Q:VK),Inv X a b H s->RelV o c->RelV i d->t o i H Q->
   wpAny (model X.prog X.w) X.A (getItem c d) (EP X a b Q) X.xe s
def Kx {o i e:Expr} {p q r:TE} {c:V->V->Hp->VK->Prop} {k:cx} {d:aC} {u:Operator} {m:Pos} (A:PE X o p) (B:PE X i q) (C:cy X c) (E:PE X e r) (hp:PIp X u k) (F:bo X d)
  (G:∀ f g b,augStore i f g b=(do holding [b,f,g] (setItem f g b);release [b,f,g] [];pure .next):=by intros;rfl):PS X (.AugAssign (.Subscript o i m) u e pos) (Hy p q r c k d):=by
 intro a s j H D I h;refine wpAny_AugAssign_SubscriptAny (E_ (A a s j H _ I h) λf J ⟨w,K,L,x,M⟩=>?_) G;refine E_ (B a J j K _ L M) λg N ⟨y,O,P,z,Q⟩=>?_;refine E_ (C a N j O w y f g _ P x z Q) λn R ⟨S,T,U,W,Y⟩=>?_;refine E_ (E a R j T _ U Y) λv Z ⟨x4,H4,I4,r4,q4⟩=>?_;refine E_ (hp a Z j H4 S x4 n v _ I4 W r4 q4) λb s5 ⟨x5,H5,I5,r5,q5⟩=>?_;exact E_ (F a s5 j H5 w y x5 f g b _ I5 x z r5 q5) λ_ s6 ⟨H6,I6,q6⟩=>⟨j,H6,I6,q6⟩
end
section
variable {X:Cx} {pos:Pos}
def Cw (c:TT) (h:TS):TS:=λD a H=>∃ W:Nat->St->Hp->Prop,(∃ m,W m a H)/\∀ m a H,W m a H->
 c a H λb e=>if b=true then ∃ N:St->Hp->Prop,(∀ d f,N d f->∃ g,g<m/\W g d f)/\h { D with nx:=N,ct:=N,bk:=D.nx } a e else D.nx a e
theorem DI {c:Expr} {g:List Stmt} {tc:TT} {x:TS} (hp:PassesOwn (model X.prog X.w) X.A X.env X.xe) (E:PT X c tc) (F:PSs X g x):PS X (.While c g [] pos) (Cw tc x):=by
 intro a s G H D I h;obtain ⟨W,⟨J,K⟩,i⟩:=h;refine wpAny_While (codeAny_whileLoop (λn L=>∃ j y,Inv X a j y L/\W n j y) ?_ J ⟨G,H,I,K⟩);rintro n M ⟨e,z,O,P⟩;refine wpAny_passesOwn hp (E_ (E a M e z _ O (i n e z P)) λb Q ⟨A,B,m⟩=>?_);cases b with
 | true=>
   obtain ⟨N,C,m⟩:=m;rw [nH rfl];refine wpAny_passesOwn hp (E_ (F a Q e A _ B m) λf R o=>?_);cases f with
   | next=>
     obtain ⟨d,k,p,q⟩:=o;obtain ⟨r,u,w⟩:=C d k q;exact ⟨r,u,d,k,p,w⟩
   | cont=>
     obtain ⟨d,k,p,q⟩:=o;obtain ⟨r,u,w⟩:=C d k q;exact ⟨r,u,d,k,p,w⟩
   | brk=>exact o
   | ret v=>exact o
 | false=>
   rw [nG C6];exact wpAny_execs_nil ⟨e,A,B,m⟩
end
structure It where
 go:Nat->Hp->Prop
 yld:Nat->Hp->V->Hp->Prop
 stop:Nat->Hp->Prop
def Dp (X:Cx) (a:dq) (H:Hp) (b:Addr):Prop:=
 H b=none/\b≠X.env.locals/\b∉X.fs/\(b∈X.ex\/X.s₀.heap.objs.size<=b)/\(∀ x c,X.env.cells.lookup x=some c->c≠b)/\∀ p∈X.pn++a,p.1≠b
def Inv.fpOk {X:Cx} {a:dq} {f:St} {H H':Hp} {s:Shared} {b:Addr} (I:Inv X a f H s) (d:s.heap.objs.size<=b) (g:H' b=none):Dp X a H' b:=by
 refine ⟨g,Nat.ne_of_gt (Cv I.lt d),I.nofs d,.inr (CF I.sz d),λx c e z=>?_,λp hp z=>?_⟩
 ·obtain ⟨v,q⟩:=I.cell x c e;exact absurd (Cv q.lt (by rw [z];exact d)) (Dw _)
 ·exact absurd (Cv (nU (I.pin p hp).1) (by rw [z];exact d)) (Dw _)
structure Turn (P:Program) (w:World) (K:W.Frag) (tg:Expr) (J:It) (fp:dH) (it:Addr) (tn:Nat->Heap->Prop):Prop where
 mem:it∈fp
 obj:∀ i h,tn i h->∀ b∈fp,∃ o,h.get? b=some o/\∀ v,o.data≠.cell v
 keep:∀ i h h',tn i h->(∀ b∈fp,∀ o,h.get? b=some o->h'.get? b=some o)->tn i h'
 item:∀ (X:Cx),X.prog=P->X.w=w->X.K=K->X.calm=true->∀ (i:Nat) (pins:dq) (s:Shared) (σ:St) (H:Hp) (E:dj),Inv X pins σ H s->(∀ b∈fp,Dp X pins H b)->tn i s.heap->J.go i H->
  wpAny (model P w) X.A (pyNext (.ref it)) (λr s1=>∃ u,r=some u/\
   wpAny (model P w) X.A (letOwnedTupleGo tg (.ref it) u) (λ_ s2=>∃ x H',Inv X pins σ H' s2/\RelV x u/\J.yld i H x H'/\tn (i+1) s2.heap/\∀ b∈fp,H' b=none) E s1) E s
 done:∀ (X:Cx),X.prog=P->X.w=w->X.K=K->X.calm=true->∀ (i:Nat) (pins:dq) (s:Shared) (σ:St) (H:Hp) (E:dj),Inv X pins σ H s->(∀ b∈fp,Dp X pins H b)->tn i s.heap->J.stop i H->
  wpAny (model P w) X.A (pyNext (.ref it)) (λr s1=>r=none/\Inv X pins σ H s1) E s
 self:∀ (A:Around) (i:Nat) (s:Shared) (Q:dj) (E:dj),tn i s.heap->Q (.ref it) s->wpAny (model P w) A (pyIter (.ref it)) Q E s
noncomputable abbrev TI:=St->Hp->(It->Hp->Prop)->Prop
def PIE (X:Cx) (a:dq) (i:St) (j:Expr) (R:It->Hp->Prop) (c:Value) (e:Shared):Prop:=
 ∃ (f:Addr) (g:dH) (h:Nat->Heap->Prop) (J:It) (d:Hp),c=.ref f/\Inv X a i d e/\Turn X.prog X.w X.K j J g f h/\h 0 e.heap/\(∀ b∈g,Dp X a d b)/\R J d
def PI (X:Cx) (d b:Expr) (e:TI):Prop:=
 ∀ (a:dq) (s:Shared) (c:St) (H:Hp) (R:It->Hp->Prop),Inv X a c H s->e c H R->
   wpAny (model X.prog X.w) X.A (eval b X.env) (λv f=>wpAny (model X.prog X.w) X.A (pyIter v) (PIE X a c d R) X.xe f) X.xe s
def Hz {M:Model} {A:Around} {E:dj} {s:Shared} {b:Expr} {c:Addr} {u:Value} {o:Obj} {n:String} {d:Array Value} {Q:Unit->Shared->Prop} (e:s.heap.get? c=some o) (f:o.cls=.type n) (g:o.data=.fields d)
  (i:["enumerate","zip","dict_itemiterator","dict_reverseitemiterator","odict_iterator","itertools.zip_longest","itertools.pairwise"].contains n=false) (a:Q Unit.unit s):wpAny M A (letOwnedTupleGo b (.ref c) u) Q E s:=by
 unfold letOwnedTupleGo
 cases b <;> first
  | exact nP a
  | (cases u <;> first
    | exact nP a
    | (refine nO (wpAny_load e ?_)
       rw [f,g];show wpAny M A (if (["enumerate","zip","dict_itemiterator","dict_reverseitemiterator","odict_iterator","itertools.zip_longest","itertools.pairwise"].contains n && d[0]? == some (rawInt _))=true then _ else _) Q E s;rw [nG (by intro h;rw [i,Bool.false_and] at h;cases h)];exact nP a))
noncomputable def af (K:W.Frag) (a:Addr):It:=
 ⟨λi H=>∃ b x,SqL K H a b/\b[i]?=some x,λi H x c=>c=H/\∀ b,SqL K H a b->b[i]?=some x,λi H=>∃ b,SqL K H a b/\b.length<=i⟩
noncomputable def aD (K:W.Frag) (a:Addr):It:=
 ⟨λi H=>∃ b x,SqT K H a b/\b[i]?=some x,λi H x c=>c=H/\∀ b,SqT K H a b->b[i]?=some x,λi H=>∃ b,SqT K H a b/\b.length<=i⟩
noncomputable def ad (lo:Int) (n:Nat):It:=⟨λi _=>i<n,λi H x a=>a=H/\x=.int (lo+i),λi _=>n<=i⟩
def NS {P:Program} {w:World} {K:W.Frag} {U:Expr} (a j:Addr):Turn P w K U (af K a) [j] j (λi h=>h.IsListIter j a i) where
 mem:=by simp
 obj:=λi h f b m=>by
  have e:b=j:=by simpa using m
  subst e
  obtain ⟨o,e,c,d⟩:=f
  exact ⟨o,e,λv z=>by rw [d] at z;cases z⟩
 keep:=λi h r f k=>f.at λo e=>k j (by simp) o e
 item:=by
  intro X B C D S i g s T H E I y f F
  subst B C D
  obtain ⟨Y,x,A,G⟩:=F
  obtain ⟨J,L,p,Z⟩:=I.list A
  obtain ⟨u,hu,ru⟩:=L.get G
  obtain ⟨M,N,f2,O,Q,R⟩:=y j (by simp)
  refine wpAny_pyNext_list_item f p.isList (x:=u) (by simpa using hu) λr n sb=>?_
  have I1:Inv X g T H { s with heap:=r }:=I.turned (t':=s.toks) (λb o m e=>(sb.2 b m).trans e) M N O Q R
  obtain ⟨o,e,c,d⟩:=id n
  exact ⟨u,rfl,Hz (s:={ s with heap:=r }) e c d ∅ ⟨x,H,I1,ru,⟨rfl,λys hy=>by rw [I.list_inj hy A];exact G⟩,n,λb m=>(y b m).1⟩⟩
 done:=by
  intro X B C D S i g s T H E I y f F
  subst B C D
  obtain ⟨Y,A,G⟩:=F
  obtain ⟨J,L,p,Z⟩:=I.list A
  obtain ⟨M,N,f2,O,Q,R⟩:=y j (by simp)
  have hl:=L.length
  exact wpAny_pyNext_list_end (I.ok.hd S) f p.isList (by simp;omega) λr eb=>⟨rfl,I.turned (t':=s.toks) (λb o m e=>eb b o m e) M N O Q R⟩
 self:=λ_ _ _ _ _ f h=>wpAny_pyIter_listiter f h
def NT {P:Program} {w:World} {K:W.Frag} {U:Expr} (a j:Addr):Turn P w K U (aD K a) [j] j (λi h=>h.IsTupleIter j a i) where
 mem:=by simp
 obj:=λi h f b m=>by
  have e:b=j:=by simpa using m
  subst e
  obtain ⟨o,e,c,d⟩:=f
  exact ⟨o,e,λv z=>by rw [d] at z;cases z⟩
 keep:=λi h y f k=>f.at λo e=>k j (by simp) o e
 item:=by
  intro X C D F S i g s T H E I A f G
  subst C D F
  obtain ⟨Y,x,B,J⟩:=G
  obtain ⟨n,L,p,Z⟩:=I.tuple B
  obtain ⟨u,hu,ru⟩:=L.get J
  obtain ⟨M,N,f2,O,Q,R⟩:=A j (by simp)
  refine wpAny_pyNext_tuple_item f (show s.heap.IsTuple a n.toArray from p) (x:=u) (by simpa using hu) λy q sb=>?_
  have I1:Inv X g T H { s with heap:=y }:=I.turned (t':=s.toks) (λb o m e=>(sb.2 b m).trans e) M N O Q R
  obtain ⟨o,e,c,d⟩:=id q
  exact ⟨u,rfl,Hz (s:={ s with heap:=y }) e c d ∅ ⟨x,H,I1,ru,⟨rfl,λys hy=>by rw [I.tuple_inj hy B];exact J⟩,q,λb m=>(A b m).1⟩⟩
 done:=by
  intro X C D F S i g s T H E I A f G
  subst C D F
  obtain ⟨Y,B,J⟩:=G
  obtain ⟨n,L,p,Z⟩:=I.tuple B
  obtain ⟨M,N,f2,O,Q,R⟩:=A j (by simp)
  have hl:=L.length
  exact wpAny_pyNext_tuple_end (I.ok.hd S) f (show s.heap.IsTuple a n.toArray from p) (by simp;omega) λy eb=>⟨rfl,I.turned (t':=s.toks) (λb o m e=>eb b o m e) M N O Q R⟩
 self:=λ_ _ _ _ _ f h=>wpAny_pyIter_tupleiter f h
def VZ {P:Program} {w:World} {K:W.Frag} {M:Expr} (c:Addr) (lo:Int) (n:Nat):Turn P w K M (ad lo n) [c] c (λi h=>IsRangeIter h c (lo+(i:Nat)*1) ((n:Int) - (i:Nat)) 1) where
 mem:=by simp
 obj:=λi h a b f=>by
  have e:b=c:=by simpa using f
  subst e
  exact ⟨_,a,λv z=>by
   have N:Data.fields _=Data.cell v:=z
   cases N⟩
 keep:=λi h p a k=>k c (by simp) _ a
 item:=by
  intro X r u x y i d s J H E I q a A
  subst r u x
  obtain ⟨B,C,O,D,F,G⟩:=q c (by simp)
  have W:=Walks.range (prog:=X.prog) (w:=X.w) (I.ok.hd y) c lo 1 n
  refine W.item i s _ _ A a λv p L Q g R=>?_
  obtain ⟨t,rfl⟩:=Q
  have S:Inv X d J H { s with heap:=p,toks:=L }:=I.turned (λb o f e=>R b o (by simpa using f) e) B C D F G
  refine ⟨_,rfl,Hz (s:={ s with heap:=p,toks:=L }) (n := "range_iterator") g rfl rfl ∅ ⟨.int (lo+i),H,S,⟨t,?_⟩,⟨rfl,rfl⟩,g,λb f=>(q b f).1⟩⟩
  rw [Int.mul_one]
 done:=by
  intro X r u x y i d s J H E I q a A
  subst r u x
  obtain ⟨B,C,O,D,F,G⟩:=q c (by simp)
  exact wpAny_pyNext_range_end (I.ok.hd y) a (by have:n<=i:=A;omega) λp T=>⟨rfl,I.turned (t':=s.toks) (λb o f e=>T b o f e) B C D F G⟩
 self:=λ_ _ _ _ _ a h=>wpAny_pyIter_rangeiter a h
section
variable {X:Cx} {tg:Expr}
def BU (K:W.Frag) (c:TE):TI:=λd H R=>c d H λx b=>∃ a,x=.ref a/\(∃ e,SqL K b a e)/\R (af K a) b
def IA (K:W.Frag) (c:TE):TI:=λd H R=>c d H λx b=>∃ a,x=.ref a/\(∃ e,SqT K b a e)/\R (aD K a) b
def Bz {l:Expr} {g:TE} (i:PE X l g):PI X tg l (BU X.K g):=by
 intro c s j H R I h;refine E_ (i c s j H _ I h) λv d ⟨x,k,f,m,n⟩=>?_;obtain ⟨a,e,⟨y,r⟩,q⟩:=n;subst e;cases m;obtain ⟨u,z,p,A⟩:=f.list r;refine wpAny_pyIter_list p.isList ?_;refine ⟨d.heap.objs.size,[d.heap.objs.size],_,_,k,rfl,f.kept (t':=d.toks) λb o e=>Heap.get?_push_of_some _ e,NS a _,⟨_,Heap.get?_push_size _ rfl,rfl,rfl⟩,λb w=>?_,q⟩;have e:b=d.heap.objs.size:=by simpa using w
 subst e;exact f.fpOk (AV _) (f.hok.fresh (AV _))
def NU {l:Expr} {i:TE} (j:PE X l i):PI X tg l (IA X.K i):=by
 intro c s k H R I h;refine E_ (j c s k H _ I h) λv d ⟨x,m,f,n,r⟩=>?_;obtain ⟨a,e,⟨y,u⟩,q⟩:=r;subst e;cases n;obtain ⟨g,z,p,A⟩:=f.tuple u;refine wpAny_pyIter_tuple (show d.heap.IsTuple a g.toArray from p) ?_;refine ⟨d.heap.objs.size,[d.heap.objs.size],_,_,m,rfl,f.kept (t':=d.toks) λb o e=>Heap.get?_push_of_some _ e,NT a _,⟨_,Heap.get?_push_size _ rfl,rfl,rfl⟩,λb w=>?_,q⟩;have e:b=d.heap.objs.size:=by simpa using w
 subst e;exact f.fpOk (AV _) (f.hok.fresh (AV _))
def NV {d:dq} {i:St} {H:Hp} {s:Shared} {R:It->Hp->Prop} {E:dj} {lo c:Int} {t u v:Tok} {tk:Nat} (I:Inv X d i H s) (k:-(2 ^ 62)<=lo) (m:lo<2 ^ 62) (n:-(2 ^ 62)<=c) (p:c<2 ^ 62)
  (q:R (ad lo (c - lo).toNat) H):wpAny (model X.prog X.w) X.A (pyIter (.ref s.heap.objs.size)) (PIE X d i tg R) E { s with heap:=s.heap.push { cls:=.type "range", data:=.fields #[.int lo t,.int c u,.int 1 v] },toks:=tk }:=by
 refine wpAny_pyIter_range (IsRange.new ..) (small_one k m n p) ?_;have j:Inv X d i H { s with heap:=s.heap.push { cls:=.type "range", data:=.fields #[.int lo t,.int c u,.int 1 v] },toks:=tk }:=I.kept λb o e=>Heap.get?_push_of_some _ e
 refine ⟨(s.heap.push { cls:=.type "range", data:=.fields #[.int lo t,.int c u,.int 1 v] }).objs.size,[(s.heap.push { cls:=.type "range", data:=.fields #[.int lo t,.int c u,.int 1 v] }).objs.size],_,_,H,rfl,
  j.kept (t':=tk) λb o e=>Heap.get?_push_of_some _ e,VZ _ lo (c - lo).toNat,?_,λb r=>?_,q⟩
 ·have w:lo+((0:Nat):Int)*1=lo:=by simp
  have x:(((c - lo).toNat:Nat):Int) - ((0:Nat):Int)=Builtin.Range.rangeSize lo c 1:=by rw [rangeSize_one];split <;> omega
  show IsRangeIter _ _ (lo+((0:Nat):Int)*1) ((((c - lo).toNat:Nat):Int) - ((0:Nat):Int)) 1;rw [w,x];exact Heap.get?_push_size _ rfl
 ·have e:b=(s.heap.push { cls:=.type "range", data:=.fields #[.int lo t,.int c u,.int 1 v] }).objs.size:=by simpa using r
  subst e;exact j.fpOk (AV _) (j.hok.fresh (AV _))
def DN (a:TA):TI:=λb H R=>a b H λc d=>∃ j:Int,c=[.int j]/\-(2 ^ 62)<=j/\j<2 ^ 62/\R (ad 0 j.toNat) d
def GN (a:TA):TI:=λb H R=>a b H λc d=>∃ i j:Int,c=[.int i,.int j]/\(-(2 ^ 62)<=i/\i<2 ^ 62/\-(2 ^ 62)<=j/\j<2 ^ 62)/\R (ad i (j - i).toNat) d
theorem EM {a:Expr} {f:TA} {p b:Pos} (g:Gl X "range") (i:X.mg "range" = none) (k:PA X [a] f) (m:starEach [a] X.env=[(false,eval a X.env)]:=by rfl):PI X tg (.Call (.Name "range" p) [a] [] b) (DN f):=by
 intro c s n H R I h;refine Call_ (Ee I g i boot_range (PyProof.Rows.callWith_type1 (E_ (k b c s n H _ I h) λx y ⟨z,A,o,u,d⟩=>?_) m rfl));obtain ⟨j,e,d,v,q⟩:=d;subst e;cases u with
 | cons r w=>
   cases w;obtain ⟨t,rfl⟩:=r;exact call_range_1 (NV o ⋯ ⋯ d v (by simpa using q))
theorem Ky {a b:Expr} {m:TA} {p c:Pos} (n:Gl X "range") (o:X.mg "range" = none) (u:PA X [a,b] m) (v:starEach [a,b] X.env=[(false,eval a X.env),(false,eval b X.env)]:=by rfl) (d:starEach [b] X.env=[(false,eval b X.env)]:=by rfl) :
  PI X tg (.Call (.Name "range" p) [a,b] [] c) (GN m):=by
 intro f s w H R I h;refine Call_ (Ee I n o boot_range (PyProof.Rows.callWith_type1 (E_ (u c f s w H _ I h) λD E ⟨F,G,x,y,g⟩=>?_) (by rw [v,d]) (by rw [d];rfl)));obtain ⟨i,j,e,⟨g,z,A,B⟩,q⟩:=g;subst e;cases y with
 | cons r k=>
   cases k with
   | cons C k=>
     cases k;obtain ⟨t,rfl⟩:=r;obtain ⟨J,rfl⟩:=C;exact call_range_2 (NV x g z A B q)
def Ay (f:TI) (g:TG) (h:TS):TS:=λD a H=>f a H λJ j=>∃ W:Nat->Nat->St->Hp->Prop,(∃ m,W 0 m a j)/\∀ i m a H,W i m a H->
 (J.stop i H/\D.nx a H)\/(J.go i H/\∃ N:St->Hp->Prop,(∀ b c,N b c->∃ e,e<m/\W (i+1) e b c)/\∀ x c,J.yld i H x c->g x a c λd k=>h { D with nx:=N,ct:=N,bk:=D.nx } d k)
noncomputable def JR (a:dH) (h:Heap):dq:=a.filterMap λb=>(h.get? b).map λo=>(b,o)
def JS {a:dH} {h:Heap} {b:Addr} {o:Obj} (c:b∈a) (e:h.get? b=some o):(b,o)∈JR a h:=List.mem_filterMap.mpr ⟨b,c,by rw [e];rfl⟩
theorem Va {a:dH} {h:Heap} {p:Addr×Obj} (hp:p∈JR a h):p.1∈a/\h.get? p.1=some p.2:=by
 obtain ⟨b,c,e⟩:=List.mem_filterMap.mp hp;cases q:h.get? b with
 | none=>rw [q] at e;cases e
 | some o=>
   rw [q] at e;have d:(b,o)=p:=nR e;subst d;exact ⟨c,q⟩
def Inv.pinned {a:dq} {f:St} {H:Hp} {s:Shared} {c:dH} (I:Inv X a f H s) (i:∀ b∈c,Dp X a H b) (j:∀ b∈c,∃ o,s.heap.get? b=some o/\∀ v,o.data≠.cell v):Inv X (a++JR c s.heap) f H s:=
 I.pins_of λp hp=>(CS.mp hp).elim (λz=>I.pin p (Dy _ z)) λz=>by
  obtain ⟨g,e⟩:=Va z;obtain ⟨k,m,n,_⟩:=i p.1 g;obtain ⟨o,h,d⟩:=j p.1 g;rw [e] at h;cases h;exact ⟨e,k,m,n,d⟩
def Inv.unpinned {a pl:dq} {b:St} {H:Hp} {s:Shared} (I:Inv X (a++pl) b H s):Inv X a b H s:=I.pins_of λp hp=>I.pin p (Dy _ (List.mem_append_left _ hp))
def B7 {j:Expr} {C:List Stmt} {wi:TI} {g:TG} {tb:TS} {S:Pos} (hp:PassesOwn (model X.prog X.w) X.A X.env X.xe) (hc:X.calm=true) (hi:PI X tg j wi) (hg:PG X tg g) (k:PSs X C tb)
  (hs:∀ x,foldedSetIterable j X.env x=pure x:=by intro _;rfl):PS X (.For tg j C [] S) (Ay wi g tb):=by
 intro a s σ H D I h;refine wpAny_For (E_ (hi a s σ H _ I h) λv s1 h1=>E_ h1 λa4 s2 h2=>?_) hs;obtain ⟨it,G,tn,J,H2,e,I2,T,U,f2,W,⟨m0,w0⟩,K⟩:=h2;subst e;have p:∀ {B:Hp},(∀ b∈G,B b=none)->∀ b∈G,Dp X a B b:=λhn b k=>⟨hn b k,(f2 b k).2⟩;refine codeAny_forLoop_any (λn s'=>∃ i q B,Inv X a q B s'/\tn i s'.heap/\(∀ b∈G,B b=none)/\W i n q B) ?_ m0 ⟨0,σ,H2,I2,U,λb k=>(f2 b k).1,w0⟩;rintro n s3 ⟨i,w,R,I3,L,M,w3⟩;rcases K i n w R w3 with ⟨O,qn⟩ | ⟨go,N,hN,P⟩
 ·refine wpAny_passesOwn hp (E_ (T.done X rfl rfl rfl hc i a s3 w R X.xe I3 (p M) L O) λr s4 ⟨Y,I4⟩=>?_);subst Y;exact wpAny_execs_nil ⟨w,R,I4,qn⟩
 ·refine wpAny_passesOwn hp (E_ (T.item X rfl rfl rfl hc i a s3 w R X.xe I3 (p M) L go) λr s4 ⟨u,Y,h4⟩=>?_);subst Y;refine wpAny_passesOwn hp (E_ h4 λ_ s5 ⟨x,H5,I5,r5,y5,F,Z⟩=>?_);have a0:=I5.pinned (p Z) (T.obj _ _ F);refine wpAny_passesOwn hp (E_ (hg _ s5 w H5 x u _ a0 r5 (P x H5 y5)) λ_ s6 ⟨a3,H6,I6,q6⟩=>?_);refine wpAny_passesOwn hp (E_ (k _ s6 a3 H6 _ I6 q6) λf s7 E=>?_)
  have y:∀ {c:St} {z:Hp},Inv X (a++JR G s5.heap) c z s7->N c z->∃ m,m<n/\∃ i q B,Inv X a q B s7/\tn i s7.heap/\(∀ b∈G,B b=none)/\W i m q B:=λ{c z} A Q=>by
   obtain ⟨m',hm,w7⟩:=hN c z Q;refine ⟨m',hm,i+1,c,z,A.unpinned,T.keep _ _ _ F λb k o e=>(A.pin (b,o) (Dy _ (Dy _ (JS k e)))).1,λb k=>?_,w7⟩;obtain ⟨o,e,d⟩:=T.obj _ _ F b k;exact (A.pin (b,o) (Dy _ (Dy _ (JS k e)))).2.1
  cases f with
  | next=>obtain ⟨c,z,A,Q⟩:=E;exact y A Q
  | cont=>obtain ⟨c,z,A,Q⟩:=E;exact y A Q
  | brk=>obtain ⟨c,z,A,E⟩:=E;exact ⟨c,z,A.unpinned,E⟩
  | ret v=>obtain ⟨x7,c,z,A,r7,E⟩:=E;exact ⟨x7,c,z,A.unpinned,r7,E⟩
end
def Vb {K:W.Frag} {a:Addr} {xs:d8} {g:TG} {k:TS} {D:Ends} {b:St} {H:Hp} (Pv:Nat->St->Hp->Prop) (o:Pv 0 b H) (r:∀ i b H,i<=xs.length->Pv i b H->SqL K H a xs)
  (u:∀ i x b H,xs[i]?=some x->Pv i b H->g x b H λc j=>k { D with nx:=Pv (i+1),ct:=Pv (i+1),bk:=D.nx } c j) (A:∀ b H,Pv xs.length b H->D.nx b H) :
  ∃ W:Nat->Nat->St->Hp->Prop,(∃ m,W 0 m b H)/\∀ i m b H,W i m b H->
    ((af K a).stop i H/\D.nx b H)\/((af K a).go i H/\∃ N:St->Hp->Prop,(∀ d f,N d f->∃ n,n<m/\W (i+1) n d f)/\∀ x f,(af K a).yld i H x f->g x b f λc j=>k { D with nx:=N,ct:=N,bk:=D.nx } c j):=by
 refine ⟨λi m b H=>m=xs.length - i/\i<=xs.length/\Pv i b H,⟨xs.length,by simp,AY _,o⟩,?_⟩;rintro i m b H ⟨rfl,B,p⟩;have q:=r i b H B p;by_cases h:i<xs.length
 ·refine .inr ⟨⟨xs,xs[i],q,by simp [h]⟩,Pv (i+1),λd f C=>⟨xs.length - (i+1),⋯,rfl,h,C⟩,λx f y=>?_⟩;obtain ⟨e,y⟩:=y;subst e;exact u i x b _ (y xs q) p
 ·have e:i=xs.length:=by omega
  subst e;exact .inl ⟨⟨xs,q,AV _⟩,A b H p⟩
def NW {K:W.Frag} {a:Addr} {xs:d8} {g:TG} {k:TS} {D:Ends} {b:St} {H:Hp} (Pv:Nat->St->Hp->Prop) (o:Pv 0 b H) (r:∀ i b H,i<=xs.length->Pv i b H->SqT K H a xs)
  (u:∀ i x b H,xs[i]?=some x->Pv i b H->g x b H λc j=>k { D with nx:=Pv (i+1),ct:=Pv (i+1),bk:=D.nx } c j) (A:∀ b H,Pv xs.length b H->D.nx b H) :
  ∃ W:Nat->Nat->St->Hp->Prop,(∃ m,W 0 m b H)/\∀ i m b H,W i m b H->
    ((aD K a).stop i H/\D.nx b H)\/((aD K a).go i H/\∃ N:St->Hp->Prop,(∀ d f,N d f->∃ n,n<m/\W (i+1) n d f)/\∀ x f,(aD K a).yld i H x f->g x b f λc j=>k { D with nx:=N,ct:=N,bk:=D.nx } c j):=by
 refine ⟨λi m b H=>m=xs.length - i/\i<=xs.length/\Pv i b H,⟨xs.length,by simp,AY _,o⟩,?_⟩;rintro i m b H ⟨rfl,B,p⟩;have q:=r i b H B p;by_cases h:i<xs.length
 ·refine .inr ⟨⟨xs,xs[i],q,by simp [h]⟩,Pv (i+1),λd f C=>⟨xs.length - (i+1),⋯,rfl,h,C⟩,λx f y=>?_⟩;obtain ⟨e,y⟩:=y;subst e;exact u i x b _ (y xs q) p
 ·have e:i=xs.length:=by omega
  subst e;exact .inl ⟨⟨xs,q,AV _⟩,A b H p⟩
def Vc {lo:Int} {n:Nat} {g:TG} {j:TS} {D:Ends} {a:St} {H:Hp} (Pv:Nat->St->Hp->Prop) (o:Pv 0 a H)
  (q:∀ i a H,i<n->Pv i a H->g (.int (lo+i)) a H λb h=>j { D with nx:=Pv (i+1),ct:=Pv (i+1),bk:=D.nx } b h) (w:∀ a H,Pv n a H->D.nx a H) :
  ∃ W:Nat->Nat->St->Hp->Prop,(∃ m,W 0 m a H)/\∀ i m a H,W i m a H->
    ((ad lo n).stop i H/\D.nx a H)\/((ad lo n).go i H/\∃ N:St->Hp->Prop,(∀ c d,N c d->∃ k,k<m/\W (i+1) k c d)/\∀ x d,(ad lo n).yld i H x d->g x a d λb h=>j { D with nx:=N,ct:=N,bk:=D.nx } b h):=by
 refine ⟨λi m a H=>m=n - i/\i<=n/\Pv i a H,⟨n,by simp,AY _,o⟩,?_⟩;rintro i m a H ⟨rfl,A,p⟩;by_cases f:i<n
 ·refine .inr ⟨f,Pv (i+1),λc d z=>⟨n - (i+1),⋯,rfl,f,z⟩,λx d y=>?_⟩;obtain ⟨e,y⟩:=y;subst e y;exact q i a _ f p
 ·have e:i=n:=by omega
  subst e;exact .inl ⟨AV _,w a H p⟩
noncomputable abbrev R2:=V->V->Hp->VK->Prop
def OpR (X:Cx) (f:Value->Value->Sem Value) (r:R2):Prop:=
 ∀ (a:dq) (s:Shared) (b:St) (H:Hp) (x y:V) (v u:Value) (Q:VK),Inv X a b H s->RelV x v->RelV y u->r x y H Q->
   wpAny (model X.prog X.w) X.A (f v u) (EP X a b Q) X.xe s
def UnR (X:Cx) (f:Value->Sem Value) (r:V->Hp->VK->Prop):Prop:=
 ∀ (a:dq) (s:Shared) (b:St) (H:Hp) (x:V) (v:Value) (Q:VK),Inv X a b H s->RelV x v->r x H Q->
   wpAny (model X.prog X.w) X.A (f v) (EP X a b Q) X.xe s
def Cu (X:Cx) (f:Value) (r:d8->Hp->VK->Prop):Prop:=
 ∀ (a:dq) (s:Shared) (b:St) (H:Hp) (c:d8) (d:dh) (Q:VK),Inv X a b H s->Vals c d->r c H Q->
   wpAny (model X.prog X.w) X.A (call f d) (EP X a b Q) X.xe s
def Vd (X:Cx) (r:V->Hp->(Bool->Hp->Prop)->Prop):Prop:=
 ∀ (a:dq) (s:Shared) (b:St) (H:Hp) (x:V) (v:Value) (Q:Bool->Hp->Prop),Inv X a b H s->RelV x v->r x H Q->
   wpAny (model X.prog X.w) X.A (truthy v) (TP X a b Q) X.xe s
def A_ (r:R2) (b c:TE):TE:=λa H Q=>b a H λx d=>c a d λy e=>r x y e Q
def R_ (r:V->Hp->VK->Prop) (a:TE):TE:=λb H Q=>a b H λx c=>r x c Q
def rI (C:Int->Int->Prop) (g:Int->Int->V):R2:=λx y H Q=>∃ i j,x=.int i/\y=.int j/\C i j/\Q (g i j) H
def Z_ (g:Int->Int->V):R2:=λx y H Q=>∃ i j,x=.int i/\y=.int j/\Q (g i j) H
def rU (g:Int->V):V->Hp->VK->Prop:=λx H Q=>∃ i,x=.int i/\Q (g i) H
section
variable {X:Cx} {a b c:Expr} {ta tb tc:TE} {pos:Pos}
def Kz (n:PE X a ta) (o:PE X b tb) {d:dq} {s:Shared} {e:St} {H:Hp} {R:V->V->Hp->Prop} (I:Inv X d e H s)
  (h:ta e H λx m=>tb e m λy g=>R x y g) {Q:dj} {f:Value->Value->Sem Value}
  (p:∀ v u k x y g,Inv X d e g k->RelV x v->RelV y u->R x y g->wpAny (model X.prog X.w) X.A (f v u) Q X.xe k) :
  wpAny (model X.prog X.w) X.A (eval a X.env) (λv i=>wpAny (model X.prog X.w) X.A (eval b X.env) (λu j=>wpAny (model X.prog X.w) X.A (f v u) Q X.xe j) X.xe i) X.xe s:=by
 refine E_ (n d s e H _ I h) λv q ⟨x,m,r,w,z⟩=>?_;refine E_ (o d q e m _ r z) λu k ⟨y,g,A,B,C⟩=>?_;exact p v u k x y g A w B C
def AN {e:Operator} {r:R2} (f:OpR X (binaryOp e) r) (g:PE X a ta) (i:PE X b tb):PE X (.BinOp a e b pos) (A_ r ta tb):=by
 intro d s j H Q I h;exact wpAny_BinOp (Kz g i I h λv u k x y m n o p q=>f d k j m x y v u Q n o p q)
def CY {e:UnaryOp} {r:V->Hp->VK->Prop} (g:UnR X (unaryOp e) r) (i:PE X a ta):PE X (.UnaryOp e a pos) (R_ r ta):=by
 intro d s f H Q I h;exact UnaryOp_ (E_ (i d s f H _ I h) λv j ⟨x,k,m,n,o⟩=>g d j f k x v Q m n o)
def b8 {f:Value->Value->Sem Value} {C:Int->Int->Prop} {g:Int->Int->Int}
  (rule:∀ (i j:Int) (t u:Tok) (s:Shared) (Q:dj) (E:dj),C i j->Q (.int (g i j) s.toks) { s with toks:=s.toks+1 }->wpAny (model X.prog X.w) X.A (f (.int i t) (.int j u)) Q E s) :
  OpR X f (rI C λi j=>.int (g i j)):=by
 intro e s p H x y v u Q I k m h;obtain ⟨i,j,rfl,rfl,n,q⟩:=h;obtain ⟨t,rfl⟩:=k;obtain ⟨o,rfl⟩:=m;exact rule i j t o s _ _ n ⟨.int (g i j),H,I.tok _,⟨_,rfl⟩,q⟩
def JT {f:Value->Value->Sem Value} {g:Int->Int->Int}
  (rule:∀ (i j:Int) (t u:Tok) (s:Shared) (Q:dj) (E:dj),Q (.int (g i j) s.toks) { s with toks:=s.toks+1 }->wpAny (model X.prog X.w) X.A (f (.int i t) (.int j u)) Q E s) :
  OpR X f (Z_ λi j=>.int (g i j)):=by
 intro e s o H x y v u Q I k m h;obtain ⟨i,j,rfl,rfl,q⟩:=h;obtain ⟨t,rfl⟩:=k;obtain ⟨n,rfl⟩:=m;exact rule i j t n s _ _ ⟨.int (g i j),H,I.tok _,⟨_,rfl⟩,q⟩
def JU {f:Value->Value->Sem Value} {g:Int->Int->Bool}
  (rule:∀ (i j:Int) (t u:Tok) (s:Shared) (Q:dj) (E:dj),Q (.bool (g i j)) s->wpAny (model X.prog X.w) X.A (f (.int i t) (.int j u)) Q E s) :
  OpR X f (Z_ λi j=>.bl (g i j)):=by
 intro d s n H x y v u Q I e k h;obtain ⟨i,j,rfl,rfl,q⟩:=h;obtain ⟨t,rfl⟩:=e;obtain ⟨m,rfl⟩:=k;exact rule i j t m s _ _ ⟨.bl (g i j),H,I,rfl,q⟩
def Bt:OpR X (binaryOp .Add) (Z_ λi j=>.int (i+j)):=JT λ_ _ _ _ _ _ _ q=>add_int q
def BM:OpR X (binaryOp .Sub) (Z_ λi j=>.int (i - j)):=JT λ_ _ _ _ _ _ _ q=>sub_int q
def Cf:OpR X (binaryOp .Mod) (rI (λ_ j=>0<j) λi j=>.int (i % j)):=b8 λi j _ _ _ _ _ d q=>by
 have e:(0:Int)<j:=d;exact mod_int' ⋯ (by rw [Int.fmod_eq_emod_of_nonneg i ⋯];exact q)
def Ve:OpR X (binaryOp .Mod) (rI (λ_ j=>j≠0) λi j=>.int (i.fmod j)):=b8 λ_ _ _ _ _ _ _ d q=>mod_int' d q
def JV:OpR X (inplaceOp .Add) (Z_ λi j=>.int (i+j)):=JT λ_ _ _ _ _ _ _ q=>iadd_int q
def IB:OpR X (inplaceOp .Sub) (Z_ λi j=>.int (i - j)):=JT λ_ _ _ _ _ _ _ q=>isub_int q
def Vf {f:Value->Sem Value} {g:Int->Int}
  (rule:∀ (i:Int) (t:Tok) (s:Shared) (Q:dj) (E:dj),Q (.int (g i) s.toks) { s with toks:=s.toks+1 }->wpAny (model X.prog X.w) X.A (f (.int i t)) Q E s) :
  UnR X f (rU λi=>.int (g i)):=by
 intro e s k H x v Q I j h;obtain ⟨i,rfl,q⟩:=h;obtain ⟨t,rfl⟩:=j;exact rule i t s _ _ ⟨.int (g i),H,I.tok _,⟨_,rfl⟩,q⟩
def CZ:UnR X (unaryOp .USub) (rU λi=>.int (-i)):=Vf λ_ _ _ _ _ q=>neg_int q
end
noncomputable def scal:V->V->Bool
 | .non,.non=>true | .non,.int _=>true | .int _,.non=>true | .non,.bl _=>true | .bl _,.non=>true | .non,.str _=>true | .str _,.non=>true
 | .int _,.int _=>true | .bl _,.bl _=>true | .str _,.str _=>true | .byt _,.byt _=>true
 | .int _,.str _=>true | .str _,.int _=>true | .bl _,.str _=>true | .str _,.bl _=>true
 | _,_=>false
def Z':R2:=λx y H Q=>scal x y=true/\Q (.bl (decide (x=y))) H
def av:R2:=λx y H Q=>scal x y=true/\Q (.bl (!decide (x=y))) H
def NX {i j:Int}:decide (V.int i=V.int j)=(i == j):=by
 rw [Bool.eq_iff_iff];simp
def NY {i j:Bool}:decide (V.bl i=V.bl j)=(i == j):=by
 rw [Bool.eq_iff_iff];simp
def NZ {i j:Str}:decide (V.str i=V.str j)=(i == j):=by
 rw [Bool.eq_iff_iff];simp
def Na {i j:Array UInt8}:decide (V.byt i=V.byt j)=(i.toList == j.toList):=by
 rw [Bool.eq_iff_iff];cases i;cases j;simp
section
variable {X:Cx} {a b c:Expr} {ta tb tc:TE} {pos:Pos}
def Bc {d:dq} {f:St} {H:Hp} {s:Shared} {Q:VK} {k g:Bool} (I:Inv X d f H s) (q:Q (.bl k) H) (e:k=g):EP X d f Q (.bool g) s:=by
 subst e;exact ⟨.bl k,H,I,rfl,q⟩
theorem D5:OpR X (compareOp .Eq) Z':=by
 intro k s m H x y v u Q I g d h;obtain ⟨f,q⟩:=h;cases x with
 | non=>
   cases g;cases y with
   | non=>cases d;exact PySem.EqNone.eq_none_none (Bc I q (by simp))
   | bl j=>cases d;exact PySem.EqNone.eq_none_bool (Bc I q (by simp))
   | int j=>obtain ⟨e,rfl⟩:=d;exact PySem.EqNone.eq_none_int (Bc I q (by simp))
   | str j=>obtain ⟨e,rfl⟩:=d;exact PySem.EqNone.eq_none_str (Bc I q (by simp))
   | _=>exact absurd (show false=true from f) C6
 | bl i=>
   cases g;cases y with
   | non=>cases d;exact PySem.EqNone.eq_bool_none (Bc I q (by simp))
   | bl j=>cases d;exact eq_bool (Bc I q NY)
   | str j=>obtain ⟨e,rfl⟩:=d;exact PySem.EqMixed.eq_bool_str (Bc I q (by simp))
   | _=>exact absurd (show false=true from f) C6
 | int i=>
   obtain ⟨t,rfl⟩:=g;cases y with
   | non=>cases d;exact PySem.EqNone.eq_int_none (Bc I q (by simp))
   | int j=>obtain ⟨e,rfl⟩:=d;exact eq_int (Bc I q NX)
   | str j=>obtain ⟨e,rfl⟩:=d;exact PySem.EqMixed.eq_int_str (Bc I q (by simp))
   | _=>exact absurd (show false=true from f) C6
 | str i=>
   obtain ⟨t,rfl⟩:=g;cases y with
   | non=>cases d;exact PySem.EqNone.eq_str_none (Bc I q (by simp))
   | bl j=>cases d;exact PySem.EqMixed.eq_str_bool (Bc I q (by simp))
   | int j=>obtain ⟨e,rfl⟩:=d;exact PySem.EqMixed.eq_str_int (Bc I q (by simp))
   | str j=>obtain ⟨e,rfl⟩:=d;exact eq_str (Bc I q NZ)
   | _=>exact absurd (show false=true from f) C6
 | byt i=>
   obtain ⟨t,rfl⟩:=g;cases y with
   | byt j=>obtain ⟨e,rfl⟩:=d;exact W.eq_bytes (Bc I q Na)
   | _=>exact absurd (show false=true from f) C6
 | _=>cases y <;> exact absurd (show false=true from f) C6
theorem FE:OpR X (compareOp .NotEq) av:=by
 intro k s m H x y v u Q I g d h;obtain ⟨f,q⟩:=h;cases x with
 | non=>
   cases g;cases y with
   | non=>cases d;exact PySem.EqNone.ne_none_none (Bc I q (by simp))
   | bl j=>cases d;exact PySem.EqNone.ne_none_bool (Bc I q (by simp))
   | int j=>obtain ⟨e,rfl⟩:=d;exact PySem.EqNone.ne_none_int (Bc I q (by simp))
   | str j=>obtain ⟨e,rfl⟩:=d;exact PySem.EqNone.ne_none_str (Bc I q (by simp))
   | _=>exact absurd (show false=true from f) C6
 | bl i=>
   cases g;cases y with
   | non=>cases d;exact PySem.EqNone.ne_bool_none (Bc I q (by simp))
   | bl j=>cases d;exact ne_bool (Bc I q (congrArg not NY))
   | str j=>obtain ⟨e,rfl⟩:=d;exact PySem.EqMixed.ne_bool_str (Bc I q (by simp))
   | _=>exact absurd (show false=true from f) C6
 | int i=>
   obtain ⟨t,rfl⟩:=g;cases y with
   | non=>cases d;exact PySem.EqNone.ne_int_none (Bc I q (by simp))
   | int j=>obtain ⟨e,rfl⟩:=d;exact ne_int (Bc I q (congrArg not NX))
   | str j=>obtain ⟨e,rfl⟩:=d;exact PySem.EqMixed.ne_int_str (Bc I q (by simp))
   | _=>exact absurd (show false=true from f) C6
 | str i=>
   obtain ⟨t,rfl⟩:=g;cases y with
   | non=>cases d;exact PySem.EqNone.ne_str_none (Bc I q (by simp))
   | bl j=>cases d;exact PySem.EqMixed.ne_str_bool (Bc I q (by simp))
   | int j=>obtain ⟨e,rfl⟩:=d;exact PySem.EqMixed.ne_str_int (Bc I q (by simp))
   | str j=>obtain ⟨e,rfl⟩:=d;exact ne_str (Bc I q (congrArg not NZ))
   | _=>exact absurd (show false=true from f) C6
 | byt i=>
   obtain ⟨t,rfl⟩:=g;cases y with
   | byt j=>obtain ⟨e,rfl⟩:=d;exact W.ne_bytes (Bc I q (congrArg not Na))
   | _=>exact absurd (show false=true from f) C6
 | _=>cases y <;> exact absurd (show false=true from f) C6
def JW:OpR X (compareOp .Lt) (Z_ λi j=>.bl (decide (i<j))):=JU λ_ _ _ _ _ _ _ q=>lt_int q
def Vg:OpR X (compareOp .LtE) (Z_ λi j=>.bl (decide (i<=j))):=JU λ_ _ _ _ _ _ _ q=>le_int q
def EN:OpR X (compareOp .Gt) (Z_ λi j=>.bl (decide (j<i))):=JU λ_ _ _ _ _ _ _ q=>gt_int q
def JX:OpR X (compareOp .GtE) (Z_ λi j=>.bl (decide (j<=i))):=JU λ_ _ _ _ _ _ _ q=>ge_int q
def K0:OpR X (compareOp .Is) (λx y H Q=>y=.non/\Q (.bl (decide (x=.non))) H):=by
 intro d s g H x y v u Q I e f h;obtain ⟨rfl,q⟩:=h;cases f;refine is_none_gen (Bc I q ?_)
 cases x <;> first
  | (cases e;rfl)
  | (obtain ⟨t,rfl⟩:=e;rfl)
def Nc:OpR X (compareOp .IsNot) (λx y H Q=>y=.non/\Q (.bl (!decide (x=.non))) H):=by
 intro d s g H x y v u Q I e f h;obtain ⟨rfl,q⟩:=h;cases f;refine isnot_none_gen (Bc I q ?_)
 cases x <;> first
  | (cases e;rfl)
  | (obtain ⟨t,rfl⟩:=e;rfl)
def T_ (b:Expr) {d:CmpOp} (h:d≠.In:=by decide) (e:d≠.NotIn:=by decide):behindInMarks d b=false:=by
 have f:(d == CmpOp.In)=false:=by cases d <;> first | rfl | exact absurd rfl h
 have g:(d == CmpOp.NotIn)=false:=by cases d <;> first | rfl | exact absurd rfl e
 cases b <;> simp [behindInMarks,f,g]
def JY {e:CmpOp} {r:R2} (f:OpR X (compareOp e) r) (g:PE X a ta) (i:PE X b tb) (j:behindInMarks e b=false):PE X (.Compare a [e] [b] pos) (A_ r ta tb):=by
 intro d s k H Q I h;exact wpAny_Compare1 (Kz g i I h λv u m x y n o p w q=>f d m k n x y v u Q o p w q) j
def As (t:TE):TT:=λd H Q=>t d H λx e=>∃ k,x=.bl k/\Q k e
def Nd {f:CmpOp} {r:R2} (i:OpR X (compareOp f) r) (j:PE X a ta) (m:PE X b tb) (n:behindInMarks f b=false):PT X (.Compare a [f] [b] pos) (As (A_ r ta tb)):=by
 intro d s g H Q I h
 refine wpAny_isTrue_Compare1 (E_ (j d s g H _ I h) λv o ⟨x,p,q,w,A⟩=>E_ (m d o g p _ q A) λu B ⟨y,C,D,E,F⟩=>
  E_ (i d B g C x y v u _ D w E F) λc M ⟨z,G,J,K,k,e,L⟩=>?_) n
 subst e;cases K;exact wpAny_truthy_bool ⟨G,J,L⟩
def Vh (r f:R2) (ta tb tc:TE):TE:=λd H Q=>ta d H λx g=>tb d g λy h=>r x y h λz e=>∃ k,z=.bl k/\
 (if k=true then tc d e λi j=>f y i j Q else Q (.bl false) e)
def Vi (K:W.Frag) (x:V) (H:Hp) (k:Bool):Prop:=
 match x with
 | .non=>k=false
 | .bl b=>k=b
 | .int i=>k=(i != 0)
 | .str y=>y.length<=sizeLine/\k=((y.length:Int) != 0)
 | .byt y=>y.size<=sizeLine/\k=((y.size:Int) != 0)
 | .ref p=>(∃ d,SqL K H p d/\k=!d.isEmpty)\/(∃ d,SqT K H p d/\k=!d.isEmpty)\/∃ e,H p=some (.dK e)/\k=!e.isEmpty
 | _=>False
def Vj {e:Type} {d:List (e×V)} {f:List (e×Value)} (r:KV d f):(!f.isEmpty)=!d.isEmpty:=by
 cases r <;> rfl
def Nf {xs:d8} {its:dh} (r:Vals xs its):(!its.toArray.isEmpty)=!xs.isEmpty:=by
 cases r <;> simp
def G8:(sizeLine:Nat)<2 ^ 63:=by rw [sizeLine_eq];decide
theorem Vk:Vd X (λx H Q=>∃ k,Vi X.K x H k/\Q k H):=by
 intro z s D H x v Q I n h;obtain ⟨k,e,q⟩:=h;have E:=G8;have F:sizeLine=16777216:=sizeLine_eq;cases x with
 | non=>
   cases n;have d:k=false:=e;subst d;exact truthy_none ⟨H,I,q⟩
 | bl b=>
   cases n;have d:k=b:=e;subst d;exact wpAny_truthy_bool ⟨H,I,q⟩
 | int i=>
   obtain ⟨t,rfl⟩:=n;have d:k=(i != 0):=e;subst d;exact PySem.P.truthy_int ⟨H,I,q⟩
 | str y=>
   obtain ⟨t,rfl⟩:=n;obtain ⟨B,d⟩:y.length<=sizeLine/\k=((y.length:Int) != 0):=e;subst d;exact PySem.P.truthy_str ⋯ ⟨H,I.tok _,q⟩
 | byt y=>
   obtain ⟨t,rfl⟩:=n;obtain ⟨B,d⟩:y.size<=sizeLine/\k=((y.size:Int) != 0):=e;subst d;exact W.truthy_bytes ⋯ ⟨H,I.tok _,q⟩
 | ref p=>
   cases n;have d:(∃ j,SqL X.K H p j/\k=!j.isEmpty)\/(∃ j,SqT X.K H p j/\k=!j.isEmpty)\/∃ f,H p=some (.dK f)/\k=!f.isEmpty:=e;rcases d with ⟨j,o,d⟩ | ⟨j,o,d⟩ | ⟨f,o,d⟩
   ·subst d;obtain ⟨w,r,pl,A⟩:=I.list o;have g:=r.length;exact wpAny_truthy_list pl.isList (by simp only [Ba];omega) ⟨H,I.tok _,by rw [Nf r];exact q⟩
   ·subst d;obtain ⟨w,r,pl,A⟩:=I.tuple o;have g:=r.length;exact truthy_tuple pl (by simp only [Ba];omega) ⟨H,I.tok _,by rw [Nf r];exact q⟩
   ·subst d;obtain ⟨A,C,u,r,m⟩:f.length<=sizeLine/\(p == sysModules)=false/\∃ u,KV f u/\s.heap.DictOf (Kq X.prog X.w) p u:=I.hok p _ o;have g:f.length=u.length:=Paired.length r;exact wpAny_truthy_dict C m ⋯ ⟨H,I.tok _,by rw [Vj r];exact q⟩
 | _=>exact (show False from e).elim
theorem EO {x:V} {d:dh} (r:Vals [x] d):∃ u,d=[u]/\RelV x u:=by
 cases r with
 | cons e f=>cases f;exact ⟨_,rfl,e⟩
theorem vals2 {x y:V} {d:dh} (r:Vals [x,y] d):∃ u e,d=[u,e]/\RelV x u/\RelV y e:=by
 cases r with
 | cons f g=>
   cases g with
   | cons h i=>cases i;exact ⟨_,_,rfl,f,h⟩
def Vl:Cu X (.builtin "abs") (λd H Q=>∃ i,d=[.int i]/\Q (.int (if i<0 then -i else i)) H):=by
 intro e s f H d g Q I r h;obtain ⟨i,rfl,q⟩:=h;obtain ⟨u,rfl,t,rfl⟩:=EO r;exact call_abs_int λu j=>⟨.int (if i<0 then -i else i),H,I.tok _,⟨_,rfl⟩,q⟩
def Vm (g:X.calm=true):Cu X (.builtin "max") (λe H Q=>∃ i j,e=[.int i,.int j]/\Q (.int (if j > i then j else i)) H):=by
 intro f s m H e n Q I r h;obtain ⟨i,j,rfl,q⟩:=h;obtain ⟨u,o,rfl,⟨t,rfl⟩,⟨p,rfl⟩⟩:=vals2 r;refine max_two_ints (I.ok.hd g) λv w k=>⟨_,H,I.kept k,?_,q⟩;by_cases d:j > i
 ·rw [nH d,nH d];exact ⟨_,rfl⟩
 ·rw [nG d,nG d];exact ⟨_,rfl⟩
def Vn (g:X.calm=true):Cu X (.builtin "min") (λe H Q=>∃ i j,e=[.int i,.int j]/\Q (.int (if j<i then j else i)) H):=by
 intro f s m H e n Q I r h;obtain ⟨i,j,rfl,q⟩:=h;obtain ⟨u,o,rfl,⟨t,rfl⟩,⟨p,rfl⟩⟩:=vals2 r;refine min_two_ints (I.ok.hd g) λv w k=>⟨_,H,I.kept k,?_,q⟩;by_cases d:j<i
 ·rw [nH d,nH d];exact ⟨_,rfl⟩
 ·rw [nG d,nG d];exact ⟨_,rfl⟩
def Vo:Cu X (.type "int") (λd H Q=>(∃ i,d=[.int i]/\Q (.int i) H)\/∃ k,d=[.bl k]/\Q (.int (if k then 1 else 0)) H):=by
 intro e s g H d j Q I r h;rcases h with ⟨i,rfl,q⟩ | ⟨k,rfl,q⟩
 ·obtain ⟨u,rfl,t,rfl⟩:=EO r;exact call_int_int ⟨.int i,H,I,⟨_,rfl⟩,q⟩
 ·obtain ⟨u,rfl,f⟩:=EO r;cases f;exact call_int_bool ⟨.int (if k then 1 else 0),H,I.tok _,⟨_,rfl⟩,q⟩
end
structure ObjM (h:Heap) (x dx C:Addr) (mA:dz):Prop where
 obj:h.get? x=some (W.instObj C dx)
 ns:h.Ns1 dx mA
 ne:dx≠x
def Vp {h:Heap} {d:Addr} {f:dz} (n:h.Ns1 d f):∃ g,h.get? d=some g/\∀ b,W.lookIn b g=some (f b):=by
 obtain ⟨o,i,u,j,k,hk,_,m⟩:=n;refine ⟨o,j,λb=>?_⟩;have e:=m b;unfold nsFind findBy at e;rw [<-Array.find?_toList] at e;unfold W.lookIn;rw [k];dsimp only;split
 ·rename_i y q;rw [q] at e;exact congrArg some e
 ·rename_i q;rw [q] at e
  have a:i.toList.any (·.refKey)=false:=by
   rw [List.any_eq_false];intro y p;obtain ⟨z,t,c⟩:=hk y (Array.mem_toList_iff.mp p);simp [DictEntry.refKey,c]
  have r:¬ i.toList.any (·.refKey)=true:=by rw [a];exact C6
  rw [nG r];exact congrArg some e
def ObjM.look {h:Heap} {x c C:Addr} {d:dz} (I:ObjM h x c C d):∃ b,W.InstAt h x (W.instObj C c) C (some b)/\∀ a,W.lookIn a b=some (d a):=
 let ⟨b,e,f⟩:=Vp I.ns
 ⟨b,⟨I.obj,rfl,rfl,e⟩,f⟩
section
variable {prog:Program} {w:World} {A:Around} {E:dj} {s:Shared} {K:W.Frag} {x dx C f:Addr} {mA:dz} {name:Str} {v:Value}
def Vq {a:Bool} {Q:dj} (X:K.In s.heap) (I:ObjM s.heap x dx C mA) (d:W.plainGet K C name=true) (e:W.hasDictIn K C=true)
  (g:W.findIn K (.ref C) name=some none) (i:mA name=some v) (b:W.handedIn v=true) (h:Q v { s with toks:=s.toks+1 }) :
  wpAny (model prog w) A (getAttr (.ref x) name a) Q E s:=by
 obtain ⟨k,J,j⟩:=I.look;exact W.get_value X J (W.plainGet_of d).1 (W.findObj_own e g rfl (by rw [j,i])) b h
def Vr {ns:dE} {Q:Unit->Shared->Prop} (X:K.In s.heap) (I:ObjM s.heap x dx C mA)
  (o:W.findIn K (.ref C) "__setattr__" = some (some (.builtin "object.__setattr__"))) (hp:W.plainOver K C=true) (p:W.takerIn K C name=some none) (q:W.hasDictIn K C=true)
  (u:PySem.Within mA ns) (hsz:ns.length<=sizeLine)
  (h:∀ g,ObjM g x dx C (λy=>if y=name then some v else mA y)->Heap.SameBut dx s.heap g->Q Unit.unit { s with heap:=g,toks:=s.toks+2 }) :
  wpAny (model prog w) A (setAttr (.ref x) name v) Q E s:=by
 obtain ⟨G,J,H⟩:=I.look;refine W.set_plain X J o (W.osa_open (s:={ s with toks:=s.toks+1 }) (r:=none) X J hp p λb=>?_);obtain ⟨L,z,i⟩:=W.any_some q;have B:s.heap.get? x=some ⟨.ref C,some dx,.plain,#[]⟩:=I.obj;refine nO (nP (nO (nO (wpAny_loadPart B (nO (W.Looks.here (s:={ s with toks:=s.toks+1 }) (W.looks_clsIn X z) ?_))))));rw [i];refine nP (a:=some dx) (nO (nP (nO ?_)));refine wpAny_nsSet1 (s:={ s with toks:=s.toks+1 }) I.ns λg d e=>?_;obtain ⟨M,D,F,j,k,m⟩:=d.count (PySem.Within.cons name v u);refine nO (wpAny_lookBehind j (by rw [k];exact pastItsLine_dict (CF m (by rw [Cd];omega))) ?_);exact nP (h _ ⟨(e.2 _ (Ne.symm I.ne)).trans I.obj,d,I.ne⟩ e)
def Vs {R:Result->Shared->Prop} {b:dh} {c:List (Str×Value)} (X:K.In s.heap) (i:W.makesIn K C=true)
  (j:W.findIn K (.ref C) "__init__" = some (some (.ref f))) (k:W.typeIn K (.ref f)=some (.type "function"))
  (h:codeAny (model prog w) (A.under (.builtin "type.__call__" ⟨.ref C::b,c⟩)) (.call (.ref f) ⟨.ref (s.heap.objs.size+1)::b,c⟩) (W.InitBack (s.heap.objs.size+1) R)
   { s with heap:=(s.heap.push W.emptyDict).push (W.instObj C s.heap.objs.size) }) :
  codeAny (model prog w) A (.call (.ref C) ⟨b,c⟩) R s:=by
 obtain ⟨m,g,d,t,os⟩:=s;exact W.make_core (W.makes_of X i) (W.looks_findIn X j) (λa=>W.bind_fn X a k) (.inl rfl) h
end
noncomputable def CN (f:Str) (v:V):List (Str×V)->List (Str×V)
 | []=>[(f,v)]
 | (g,x)::r=>if g=f then (g,v)::r else (g,x)::CN f v r
theorem DO (f g:Str) (v:V):∀ b:List (Str×V),(CN f v b).lookup g=if g=f then some v else b.lookup g
 | []=>by
   show List.lookup g [(f,v)]=_;by_cases h:g=f
   ·have a:(g == f)=true:=beq_iff_eq.mpr h;simp only [List.lookup,a,nH h]
   ·have a:(g == f)=false:=beq_eq_false_iff_ne.mpr h;simp only [List.lookup,a,nG h]
 | (k,x)::r=>by
   have c:=DO f g v r;rw [show CN f v ((k,x)::r)=(if k=f then (k,v)::r else (k,x)::CN f v r) from rfl];by_cases hk:k=f
   ·rw [nH hk];by_cases h:g=k
    ·have a:(g == k)=true:=beq_iff_eq.mpr h;simp only [List.lookup,a,nH (h.trans hk)]
    ·have a:(g == k)=false:=beq_eq_false_iff_ne.mpr h;simp only [List.lookup,a,nG (λe:g=f=>h (e.trans hk.symm))]
   ·rw [nG hk];by_cases h:g=k
    ·have a:(g == k)=true:=beq_iff_eq.mpr h;simp only [List.lookup,a,nG (λe:g=f=>hk (h.symm.trans e))]
    ·have a:(g == k)=false:=beq_eq_false_iff_ne.mpr h;simp only [List.lookup,a];exact c
theorem K1 (f:Str) (v:V):∀ a:List (Str×V),f∈(CN f v a).map (·.1)/\∀ g,g∈a.map (·.1)->g∈(CN f v a).map (·.1)
 | []=>⟨by simp [CN],λg h=>by simp at h⟩
 | (k,x)::r=>by
   obtain ⟨b,c⟩:=K1 f v r;rw [show CN f v ((k,x)::r)=(if k=f then (k,v)::r else (k,x)::CN f v r) from rfl];by_cases hk:k=f
   ·rw [nH hk];subst hk;exact ⟨by simp,λg h=>by simpa using h⟩
   ·rw [nG hk];refine ⟨?_,λg h=>?_⟩
    ·rw [List.map_cons];exact DW _ b
    ·rw [List.map_cons] at h ⊢;rcases Ep.mp h with e | e
     ·exact Ep.mpr (.inl e)
     ·exact DW _ (c g e)
theorem Ng (f:Str) (v:V):∀ a:List (Str×V),(CN f v a).length<=a.length+1
 | []=>by simp [CN]
 | (k,x)::r=>by
   have b:=Ng f v r;rw [show CN f v ((k,x)::r)=(if k=f then (k,v)::r else (k,x)::CN f v r) from rfl];by_cases hk:k=f
   ·rw [nH hk,Cd,Cd];omega
   ·rw [nG hk,Cd,Cd];omega
theorem RelO.some_of {v:V} {o:Option Value} (r:RelO (some v) o):∃ u,o=some u/\RelV v u:=by
 cases o with
 | none=>exact (show False from r).elim
 | some u=>exact ⟨u,rfl,r⟩
theorem Vt {v:V} {u:Value} (r:RelV v u):W.handedIn u=true:=by
 cases v with
 | non=>cases (show u=Value.none from r);rfl
 | bl b=>cases (show u=Value.bool b from r);rfl
 | int i=>obtain ⟨t,e⟩:=(show ∃ t,u=Value.int i t from r);cases e;rfl
 | str x=>obtain ⟨t,e⟩:=(show ∃ t,u=Value.str x t from r);cases e;rfl
 | byt b=>obtain ⟨t,e⟩:=(show ∃ t,u=Value.bytes b t from r);cases e;rfl
 | flt b=>obtain ⟨t,e⟩:=(show ∃ t,u=Value.float b t from r);cases e;rfl
 | ref a=>cases (show u=Value.ref a from r);rfl
 | ty n=>cases (show u=Value.type n from r);rfl
section
variable {P:Program} {w:World} {H H':Hp} {h h':Heap} {a C dx:Addr} {fs fs':List (Str×V)}
def Nh (c:HOk P w H h) (e:H a=some (.ins C dx fs)):∃ b,ObjM h a dx C b/\(∀ f,RelO (fs.lookup f) (b f))/\PySem.Within b (fs.map (·.1))/\fs.length<=1000/\H dx=some (.own a):=by
 obtain ⟨d,z,g,i,b,n,r,q⟩:=(show ObjOk P w H h a (.ins C dx fs) from c a _ e);exact ⟨b,⟨i,n,g⟩,r,q,z,d⟩
end
structure Cls (K:W.Frag) (C:Addr):Prop where
 pg:W.plainGet K C Str.empty=true
 hd:W.hasDictIn K C=true
 po:W.plainOver K C=true
 sa:W.findIn K (.ref C) "__setattr__" = some (some (.builtin "object.__setattr__"))
def Cls.get {K:W.Frag} {C:Addr} (c:Cls K C) (f:Str):W.plainGet K C f=true:=c.pg
def NoAttr (K:W.Frag) (C:Addr) (f:Str):Prop:=W.findIn K (.ref C) f=some none
def NoAttr.taker {K:W.Frag} {C:Addr} {f:Str} (n:NoAttr K C f):W.takerIn K C f=some none:=by
 unfold W.takerIn;rw [show W.findIn K (.ref C) f=some none from n];rfl
structure Con (K:W.Frag) (C:Addr) (f:Str) (v:V) (u:Value):Prop where
 at_:W.findIn K (.ref C) f=some (some u)
 rel:RelV v u
 get:W.specialIn K u "__get__" = some none
 cp:W.copiedNames.contains f=false
structure Meth (K:W.Frag) (C:Addr) (m:Str) (f:Addr):Prop where
 at_:W.findIn K (.ref C) m=some (some (.ref f))
 fn:W.isFn K (.ref f)=true
 kp:W.keepIn K (.ref f)=true
section
variable {X:Cx} {pins:dq} {σ:St} {H:Hp} {s:Shared} {a C dx:Addr} {fs:List (Str×V)} {f:Str} {v:V} {A:Around} {E:dj}
def Vu {b:Bool} {Q:dj} (I:Inv X pins σ H s) (e:H a=some (.ins C dx fs)) (c:Cls X.K C) (n:NoAttr X.K C f) (l:fs.lookup f=some v)
  (h:∀ u d,Inv X pins σ H d->RelV v u->Q u d):wpAny (model X.prog X.w) A (getAttr (.ref a) f b) Q E s:=by
 obtain ⟨i,O,r,_,_,_⟩:=Nh I.hok e;obtain ⟨u,j,g⟩:=RelO.some_of (v:=v) (o:=i f) (by rw [<-l];exact r f);exact Vq I.kIn O (c.get f) c.hd n j (Vt g) (h u _ (I.tok _) g)
def Vv {y:V} {u:Value} {Q:Unit->Shared->Prop} (I:Inv X pins σ H s) (e:H a=some (.ins C dx fs)) (c:Cls X.K C) (n:NoAttr X.K C f) (L:fs.length<1000) (p:RelV y u)
  (h:∀ i,Inv X pins σ (upd H a (.ins C dx (CN f y fs))) i->Q Unit.unit i):wpAny (model X.prog X.w) A (setAttr (.ref a) f u) Q E s:=by
 obtain ⟨j,O,r,k,_,m⟩:=Nh I.hok e;have w:(fs.map (·.1)).length<=sizeLine:=by rw [AK,sizeLine_eq];omega
 refine Vr I.kIn O c.sa c.po n.taker c.hd k w λB d D=>h _ ?_;have F:∃ o,B.get? dx=some o:=let ⟨o,_,_,G,_⟩:=d.ns;⟨o,G⟩;refine I.write (x:=a) (e:=dx) (by rw [e];exact True.intro) (.inr m) (λb q J z=>(D.2 b J).trans z) F ?_;refine ⟨by rw [Au O.ne];exact m,?_,O.ne,d.obj,_,d.ns,λg=>?_,λg K=>?_⟩
 ·have:=Ng f y fs;omega
 ·show RelO ((CN f y fs).lookup g) (if g=f then some u else j g);rw [DO];by_cases q:g=f
  ·rw [nH q,nH q];exact p
  ·rw [nG q,nG q];exact r g
 ·by_cases q:g=f
  ·rw [q];exact (K1 f y fs).1
  ·refine (K1 f y fs).2 g (k g λz=>K ?_);show (if g=f then some u else j g)=none;rw [nG q];exact z
def Inv.made (I:Inv X pins σ H s):Inv X pins σ (upd (upd H s.heap.objs.size (.own (s.heap.objs.size+1))) (s.heap.objs.size+1) (.ins C s.heap.objs.size []))
  { s with heap:=(s.heap.push W.emptyDict).push (W.instObj C s.heap.objs.size) }:=by
 have d:(s.heap.push W.emptyDict).get? s.heap.objs.size=some W.emptyDict:=Heap.get?_push_size s.heap rfl
 have h:((s.heap.push W.emptyDict).push (W.instObj C s.heap.objs.size)).get? (s.heap.objs.size+1)=some (W.instObj C s.heap.objs.size):=by
  have:=Heap.get?_push_size (s.heap.push W.emptyDict) (o:=W.instObj C s.heap.objs.size) rfl;rwa [Heap.size_push] at this
 have i:(s.heap.push W.emptyDict).Ns s.heap.objs.size (λ_=>none):=⟨W.emptyDict,#[],_,d,rfl,(λe j=>absurd j (by simp)),λ_=>rfl⟩;have k:=I.laid (a:=s.heap.objs.size) (o:=.own (s.heap.objs.size+1)) (h':=s.heap.push W.emptyDict) (t':=s.toks) (λb u q=>Heap.get?_push_of_some _ q) (AV _) ⟨_,d⟩;refine k.laid (a:=s.heap.objs.size+1) (o:=.ins C s.heap.objs.size []) (t':=s.toks) (λb u q=>Heap.get?_push_of_some _ q) (Nat.le_of_eq (Heap.size_push _ _)) ?_;have g:s.heap.objs.size≠s.heap.objs.size+1:=BZ (ED _);refine ⟨by rw [Au g,upd_same],AY _,g,h,λ_=>none,(Heap.Ns1.of_empty i).at λo q=>Heap.get?_push_of_some _ q,λ_=>True.intro,λy m=>absurd rfl m⟩
def Vw {prog:Program} {w:World} {b:Env} {e:Expr} {f:Str} {d:Pos} {s:Shared} {Q:dj} (g:attributeBase e f b (eval e b)=eval e b)
  (h:wpAny (model prog w) A (eval e b) (λo c=>wpAny (model prog w) A (getAttr o f true) Q E c) E s):wpAny (model prog w) A (eval (.Attribute e f d) b) Q E s:=
 Attribute_any_ h (by rw [arm_eval_Attribute,g])
end
def Cg (K:W.Frag) (d:TE) (f:Str):TE:=λe H Q=>d e H λx b=>∃ a C g c v,x=.ref a/\b a=some (.ins C g c)/\Cls K C/\NoAttr K C f/\c.lookup f=some v/\Q v b
def GO (K:W.Frag) (g h:TE) (f:Str):TS:=λD b H=>h b H λy i=>g b i λx d=>∃ a C e c,x=.ref a/\d a=some (.ins C e c)/\Cls K C/\NoAttr K C f/\c.length<1000/\
 D.nx b (upd d a (.ins C e (CN f y c)))
section
variable {X:Cx} {o e value:Expr} {f:Str} {pos pos' tpos:Pos} {ta tv:TE}
def Cy (d:PE X e ta) (g:attributeBase e f X.env (eval e X.env)=eval e X.env):PE X (.Attribute e f pos) (Cg X.K ta f):=by
 intro b s i H Q I h;refine Vw g (E_ (d b s i H _ I h) λu z ⟨x,j,k,m,a,C,A,B,v,p,r,c,n,l,q⟩=>?_);subst p;obtain rfl:u=Value.ref a:=m;exact Vu k r c n l λD E w y=>⟨v,j,w,y,q⟩
def IC (g:PE X o ta) (i:PE X value tv) (j:swapsWith value (some (.Attribute o f pos')) pos.line X.env=pure false):PS X (.Assign [.Attribute o f pos'] value pos) (GO X.K ta tv f):=by
 intro b s d H D I h;refine plainObj_wpAny_Assign_Attribute (E_ (i b s d H _ I h) λu k ⟨y,m,p,r,q⟩=>E_ (g b k d m _ p q) λv G ⟨x,J,w,z,a,C,K,L,A,B,c,n,l,E⟩=>?_) j;subst A;obtain rfl:v=Value.ref a:=z;exact Vv w B c n l r λM F=>⟨d,_,F,E⟩
end
section
variable {X:Cx} {pins:dq} {σ:St} {H:Hp} {s:Shared} {A:Around} {E:dj} {Q:dj} {c:Value} {b:Bool}
inductive TyOf (K:W.Frag) (H:Hp):V->Value->Prop where
 | non:TyOf K H .non (.type "NoneType")
 | bl (x:Bool):TyOf K H (.bl x) (.type "bool")
 | int (i:Int):TyOf K H (.int i) (.type "int")
 | str (x:Str):TyOf K H (.str x) (.type "str")
 | flt (x:UInt64):TyOf K H (.flt x) (.type "float")
 | lst {a:Addr} {xs:d8} (e:H a=some (.lst xs)):TyOf K H (.ref a) (.type "list")
 | frz {a:Addr} {o:Obj} {xs:d8} (e:H a=some (.frz o (.lst xs))):TyOf K H (.ref a) (.type "list")
 | tup {a:Addr} {xs:d8} (e:H a=some (.tup xs)):TyOf K H (.ref a) (.type "tuple")
 | dK {a:Addr} {kvs:List (Y_×V)} (e:H a=some (.dK kvs)):TyOf K H (.ref a) (.type "dict")
 | dT {a:Addr} {kvs:List (List Y_×V)} (e:H a=some (.dT kvs)):TyOf K H (.ref a) (.type "dict")
 | ins {a C dx:Addr} {fs:List (Str×V)} (e:H a=some (.ins C dx fs)) (cl:Cls K C) (ha:W.findIn K (.ref C) "__class__" = some (some (.builtin "object.__class__")))
   (hn:W.specialIn K (.builtin "object.__class__") "__get__" = some (some (.builtin "getset_descriptor.__get__"))) (htk:W.takesIn K (.builtin "object.__class__")=some true)
   (hm:W.mroIn K C (.type "object")=some true):TyOf K H (.ref a) (.ref C)
end
structure Room (k:Nat) (A:Around):Prop where
 hd:A.handled=none
 dp:A.depth+3*k+105<recursionLimit
 un:A.units+16*k+200<cLine
def Room.mono {j k:Nat} {A:Around} (r:Room k A) (h:j<=k):Room j A:=⟨r.hd,by have:=r.dp;omega,by have:=r.un;omega⟩
def Room.deeper {k:Nat} {A:Around} (r:Room (k+1) A) (a:Env):Room k (A.deeper a):=
 ⟨r.hd,by have:=r.dp;show A.depth+1+3*k+105<_;omega,by have:=r.un;show A.units+3+16*k+200<_;omega⟩
def Vx {A:Around} {C:Addr} {a:dh} {b:List (Str×Value)}:(A.under (.builtin "type.__call__" ⟨.ref C::a,b⟩)).depth=A.depth+1:=by
 first | rfl | simp [Around.under,Code.weight,Code.isCreation,Code.isGuard,Code.isCaller,Code.frames,Code.isFrame,guardIds]
def Vy {A:Around} {C:Addr} {a:dh} {b:List (Str×Value)}:(A.under (.builtin "type.__call__" ⟨.ref C::a,b⟩)).units=A.units+1:=by
 first | rfl | simp [Around.under,Code.cUnits,Code.frames,Code.isFrame]
def Room.make {k:Nat} {A:Around} (r:Room (k+1) A) (C:Addr) (a:dh) (b:List (Str×Value)):Room k (A.under (.builtin "type.__call__" ⟨.ref C::a,b⟩)):=
 ⟨r.hd,by have:=r.dp;rw [Vx];omega,by have:=r.un;rw [Vy];omega⟩
def Room.depth {k:Nat} {A:Around} (r:Room k A):A.depth<recursionLimit:=by have:=r.dp;omega
def Room.units {k:Nat} {A:Around} (r:Room k A):A.units+64<cLine:=by have:=r.un;omega
def Room.units0 {k:Nat} {A:Around} (r:Room k A):A.units<cLine:=by have:=r.un;omega
def AD:TA:=λ_ H Q=>Q [] H
def AC (b:TE) (tr:TA):TA:=λa H Q=>b a H λx c=>tr a c λd e=>Q (x::d) e
section
variable {X:Cx} {e:Expr} {es:dC} {te:TE} {t:TA} {pos:Pos}
def AL:PA X [] AD:=λ_ _ _ _ H Q I h=>Calls.spliced_nil ⟨[],H,I,.nil,h⟩
def AE (c:PE X e te) (d:PA X es t) (f:starEach (e::es) X.env=(false,eval e X.env)::starEach es X.env:=by rfl):PA X (e::es) (AC te t):=by
 intro pos a s b H Q I h;rw [f];show wpAny _ _ (spliced ((false,eval e X.env)::backTo pos (starEach es X.env))) _ _ s;refine Calls.spliced_cons (E_ (c a s b H _ I h) λu g ⟨x,i,j,k,m⟩=>?_);exact E_ (d pos a g b i _ j m) λv w ⟨n,o,p,q,r⟩=>⟨x::n,o,p,.cons k q,r⟩
def BJ (t:TA):TE:=λc H Q=>t c H λa b=>a.length<=sizeLine/\∀ p,b p=none->Q (.ref p) (upd b p (.tup a))
def BG (t:TA):TE:=λc H Q=>t c H λa b=>a.length<=sizeLine/\∀ p,b p=none->Q (.ref p) (upd b p (.lst a))
def Bj {x1} (h:PA X es t):PE X (.Tuple es x1 pos) (BJ t):=by
 intro a s g H Q I i;refine wpAny_Tuple_spliced (E_ (h pos a s g H _ I i) λj c ⟨k,d,f,r,z,q⟩=>⟨by rw [<-r.length];exact z,?_⟩);have m:d c.heap.objs.size=none:=f.hok.fresh (AV _);refine ⟨.ref c.heap.objs.size,upd d c.heap.objs.size (.tup k),f.laid (t':=c.toks) (λb u e=>Heap.get?_push_of_some _ e) (AV _) ?_,rfl,q _ m⟩;exact ⟨z,j,r,⟨_,Heap.get?_push_size _ rfl,rfl,_,rfl⟩⟩
def By (h:PA X es t):PE X (.List es pos) (BG t):=by
 intro a s g H Q I i;refine wpAny_List_spliced (E_ (h pos a s g H _ I i) λj c ⟨k,d,f,r,z,q⟩=>⟨by rw [<-r.length];exact z,?_⟩);have m:d c.heap.objs.size=none:=f.hok.fresh (AV _);refine ⟨.ref c.heap.objs.size,upd d c.heap.objs.size (.lst k),f.laid (t':=c.toks) (λb u e=>Heap.get?_push_of_some _ e) (AV _) ?_,rfl,q _ m⟩;exact ⟨z,j,0,r,Heap.get?_push_size _ rfl⟩
end
noncomputable abbrev Sp:=d8->Hp->VK->XK->Prop
noncomputable abbrev aE:=List Env->Hp->Shared->XK->dj
structure Env0 (P:Program) (w:World) (K:W.Frag) (mg:dz) (base:Heap) (A:Around) (outer:List Env) (s:Shared) (H:Hp):Prop where
 frames:A.frames=some outer
 mod:Mod K mg base
 bs:∀ b o,base.get? b=some o->s.heap.get? b=some o/\H b=none
 bsz:base.objs.size<=s.heap.objs.size
 funs:s.heap.FunFrames base outer
 frf:∀ b∈ak outer,H b=none
 hok:HOk P w H s.heap
 bare:AllBare s.gens
 seer:base.NoSeer
 tree:(model P w).prog.given.tree=none
def CE (a:List Env) (P:Program) (w:World) (H:Hp) (s:Shared) (Q:VK) (u:Value) (s':Shared):Prop:=
 ∃ v b,s'.os=s.os/\AllBare s'.gens/\Un (ak a) [] H b s.heap s'.heap/\HOk P w b s'.heap/\RelV v u/\Q v b
def CR (CX:aE) (a:List Env) (P:Program) (w:World) (H:Hp) (s:Shared) (Q:VK) (E:XK) (r:Result) (s':Shared):Prop:=
 match r with
 | .ok (.ret u)=>CE a P w H s Q u s'
 | .ok _=>False
 | .error e=>CX a H s E e s'
structure FnOk (P:Program) (w:World) (K:W.Frag) (mg:dz) (base:Heap) (CX:aE) (k:Nat) (f:Addr) (fd:FuncData) (ps:dE) (sp:Sp):Prop where
 len:∀ vs H Q E,sp vs H Q E->vs.length=ps.length
 run:∀ (A:Around) (outer:List Env) (s:Shared) (H:Hp) (args:Args) (us:dh) (vs:d8) (Q:VK) (E:XK),Room k A->Env0 P w K mg base A outer s H->BindsTo s fd args (ps.zip us)->Vals vs us->sp vs H Q E->
  codeAny (model P w) A (.call (.ref f) args) (CR CX outer P w H s Q E) s
def Env0.make {P:Program} {w:World} {K:W.Frag} {c:dz} {b:Heap} {A:Around} {a:List Env} {s:Shared} {H:Hp} (e:Env0 P w K c b A a s H) (C:Addr) (d:dh) (f:List (Str×Value)) :
  Env0 P w K c b (A.under (.builtin "type.__call__" ⟨.ref C::d,f⟩)) a s H:=⟨by first | exact e.frames | (simpa [Around.under,Code.envs,Code.isFrame,pushEnvs] using e.frames),e.mod,e.bs,e.bsz,e.funs,e.frf,e.hok,e.bare,e.seer,e.tree⟩
section
variable {X:Cx} {pins:dq} {σ:St} {H:Hp} {s s':Shared}
def Inv.env0 (I:Inv X pins σ H s):Env0 X.prog X.w X.K X.mg X.base X.A X.stack s H:=
 ⟨I.ok.frames,I.ok.mod,I.bs,CF I.ok.bsz I.sz,I.stack,I.stkFree,I.hok,I.bare,I.ok.seer,I.ok.tree⟩
def Inv.after {Q:VK} {u:Value} (I:Inv X pins σ H s) (h:CE X.stack X.prog X.w H s Q u s'):EP X pins σ Q u s':=by
 obtain ⟨v,f,os,a,i,c,r,q⟩:=h;obtain ⟨j,g,d,t,e⟩:=s';obtain rfl:e=s.os:=os;exact ⟨v,f,I.call (h':=j) (g':=g) (d':=d) (t':=t) (ch:=[]) i c a (λb z=>absurd z (by simp)),r,q⟩
end
def AR (sp:Sp) (a:d8) (E:XK) (t:TA):TE:=λb H Q=>t b H λc d=>sp (c++a) d Q E
def G9 (C:Addr) (sp:Sp) (b:d8) (E:XK) (t:TA):TE:=λd H Q=>t d H λe c=>∀ x a,c x=none->c a=none->a≠x->
 sp (.ref x::(e++b)) (upd (upd c a (.own x)) x (.ins C a [])) (λv f=>v=.non/\Q (.ref x) f) E
def Binds (K:W.Frag) (c:FuncData) (ps:dE) (b:dh):Prop:=
 ∀ (s:Shared) (a:dh),K.In s.heap->(a++b).length=ps.length->BindsTo s c ⟨a,[]⟩ (ps.zip (a++b))
def Binds.all {K:W.Frag} {b:FuncData} {ps:dE} (h:∀ a:dh,a.length=ps.length->bindArgs b ⟨a,[]⟩=pure (ps.zip a)):Binds K b ps []:=λs a _ c=>by
 rw [List.append_nil] at c ⊢;exact .of_eq (h a c)
def U_ (CX:aE) (X:Cx) (E:XK):Prop:=∀ (a:dq) (c:St) (H:Hp) (s:Shared) (e:Value) (b:Shared),Inv X a c H s->CX X.stack H s E e b->X.xe e b
section
variable {X:Cx} {CX:aE} {k:Nat} {f C:Addr} {fd:FuncData} {ps:dE} {sp:Sp} {dvs:d8} {ds:dh} {E:XK} {x m:Str} {p pos apos:Pos} {e o:Expr} {es:dC} {ta:TE} {t:TA}
theorem Vz {a:dq} {g:St} {H:Hp} {s:Shared} {Q:VK} {b:dh} {d:d8} (F:FnOk X.prog X.w X.K X.mg X.base CX k f fd ps sp) (j:Room k X.A) (n:Binds X.K fd ps ds) (q:Vals dvs ds) (v:U_ CX X E)
  (I:Inv X a g H s) (r:Vals d b) (h:sp (d++dvs) H Q E):wpAny (model X.prog X.w) X.A (call (.ref f) b) (EP X a g Q) X.xe s:=by
 have i:Vals (d++dvs) (b++ds):=r.append q;have w:(b++ds).length=ps.length:=by rw [<-i.length];exact F.len _ _ _ _ h
 refine wpAny_call (codeAny_mono (F.run X.A X.stack s H ⟨b,[]⟩ (b++ds) (d++dvs) Q E j I.env0 (n s b I.kIn w) i h) λr y c=>?_);cases r with
 | error e=>exact v a g H s e y I c
 | ok z=>
   cases z with
   | ret u=>exact I.after c
   | next=>exact False.elim c
   | brk=>exact False.elim c
   | cont=>exact False.elim c
def V0 (F:FnOk X.prog X.w X.K X.mg X.base CX k f fd ps sp) (g:Room k X.A) (i:Gl X x) (j:X.mg x=some (.ref f)) (hk:W.keepIn X.K (.ref f)=true) (n:Binds X.K fd ps ds) (u:Vals dvs ds) (v:U_ CX X E)
  (w:PA X (e::es) t) (b:(x == ("__debug__" : Str))=false:=by decide) (y:starEach (e::es) X.env=(false,eval e X.env)::starEach es X.env:=by rfl) (c:(backTo pos (starEach es X.env)).any (·.1)=false:=by rfl) :
  PE X (.Call (.Name x p) (e::es) [] pos) (AR sp dvs E t):=by
 intro a s z H Q I h;refine wpAny_Call_Name_kw (Ks I i j ?_ b);refine W.callWith_K (h₀:=X.base) I.ok.mod.kin hk (E_ (w pos a s z H _ I h) λA B ⟨D,G,d,r,q⟩=>⟨d.kIn,?_⟩) y c;exact Vz F g n u v d r q
structure Mk (K:W.Frag) (C f:Addr):Prop where
 makes:W.makesIn K C=true
 init:W.findIn K (.ref C) "__init__" = some (some (.ref f))
 fn:W.isFn K (.ref f)=true
 kp:W.keepIn K (.ref C)=true
theorem V1 {a:dq} {i:St} {H:Hp} {s:Shared} {Q:VK} {c:dh} {j:d8} (M:Mk X.K C f) (F:FnOk X.prog X.w X.K X.mg X.base CX k f fd ps sp) (w:Room (k+1) X.A) (y:Binds X.K fd ps ds) (z:Vals dvs ds)
  (A:U_ CX X E) (I:Inv X a i H s) (r:Vals j c)
  (h:∀ x d,H x=none->H d=none->d≠x->sp (.ref x::(j++dvs)) (upd (upd H d (.own x)) x (.ins C d [])) (λv B=>v=.non/\Q (.ref x) B) E) :
  wpAny (model X.prog X.w) X.A (call (.ref C) c) (EP X a i Q) X.xe s:=by
 have n:=h (s.heap.objs.size+1) s.heap.objs.size (I.hok.fresh (Nat.le_succ _)) (I.hok.fresh (AV _)) (BZ (ED _));have g:=Inv.made (C:=C) I;have q:Vals (V.ref (s.heap.objs.size+1)::(j++dvs)) (Value.ref (s.heap.objs.size+1)::(c++ds)):=.cons rfl (r.append z)
 have D:(Value.ref (s.heap.objs.size+1)::c++ds).length=ps.length:=by
  have e:=q.length;rw [F.len _ _ _ _ n] at e;exact e.symm
 refine wpAny_call (Vs (f:=f) I.kIn M.makes M.init (beq_iff_eq.mp M.fn) (codeAny_mono (F.run _ X.stack _ _ ⟨Value.ref (s.heap.objs.size+1)::c,[]⟩ (Value.ref (s.heap.objs.size+1)::(c++ds)) _ _ E (w.make C c [])
  (g.env0.make C c []) (y _ (Value.ref (s.heap.objs.size+1)::c) g.kIn D) q n) λr G b=>?_))
 cases r with
 | error e=>exact A a i _ _ e G g b
 | ok J=>
   cases J with
   | ret u=>
     obtain ⟨v,K,L,N,O,P⟩:=g.after b;subst O;exact ⟨N,⟨V.ref (s.heap.objs.size+1),K,L,rfl,P⟩⟩
   | next=>exact False.elim b
   | brk=>exact False.elim b
   | cont=>exact False.elim b
def V2 (M:Mk X.K C f) (F:FnOk X.prog X.w X.K X.mg X.base CX k f fd ps sp) (g:Room (k+1) X.A) (i:Gl X x) (j:X.mg x=some (.ref C)) (n:Binds X.K fd ps ds) (u:Vals dvs ds) (v:U_ CX X E)
  (w:PA X (e::es) t) (b:(x == ("__debug__" : Str))=false:=by decide) (y:starEach (e::es) X.env=(false,eval e X.env)::starEach es X.env:=by rfl) (c:(backTo pos (starEach es X.env)).any (·.1)=false:=by rfl) :
  PE X (.Call (.Name x p) (e::es) [] pos) (G9 C sp dvs E t):=by
 intro a s z H Q I h;refine wpAny_Call_Name_kw (Ks I i j ?_ b);refine W.callWith_K (h₀:=X.base) I.ok.mod.kin M.kp (E_ (w pos a s z H _ I h) λA B ⟨D,G,d,r,q⟩=>⟨d.kIn,?_⟩) y c;exact V1 M F g n u v d r q
end
def PK (X:Cx) (b:List Keyword) (t:TA):Prop:=
 ∀ (c:Pos) (a:dq) (s:Shared) (d:St) (H:Hp) (Q:d8->Hp->Prop),Inv X a d H s->t d H Q->wpAny (model X.prog X.w) X.A (evalAll ((backToKw c (keywordEach b X.env)).map (·.2))) (AP X a d Q) X.xe s
section
variable {X:Cx} {CX:aE} {k:Nat} {f C:Addr} {fd:FuncData} {ps ks:dE} {sp:Sp} {E:XK} {x m:Str} {p pos apos kpos:Pos} {e o:Expr} {es:dC} {kws:List Keyword} {te ta:TE} {t tk:TA} {nm:Option Str}
def V3:PK X [] AD:=λ_ _ _ _ H Q I h=>wpAny_evalAll_nil ⟨[],H,I,.nil,h⟩
def V4 (c:PE X e te) (d:PK X kws t):PK X (⟨nm,e,kpos⟩::kws) (AC te t):=by
 intro pos a s b H Q I h;show wpAny _ _ (evalAll ((do let v <-eval e X.env;standAt pos;pure v)::(backToKw pos (keywordEach kws X.env)).map (·.2))) _ _ s;refine wpAny_evalAll_cons (nO (E_ (c a s b H _ I h) λu g ⟨x,i,j,n,q⟩=>nO (wpAny_standAt (nP ?_))));exact E_ (d pos a g b i _ j q) λB D ⟨r,w,y,z,A⟩=>⟨x::r,w,y,.cons n z,A⟩
structure KBinds (K:W.Frag) (fd:FuncData) (ps ks:dE) (g:dh->dh->dh) (gV:d8->d8->d8):Prop where
 to:∀ (s:Shared) (us ws:dh),K.In s.heap->(g us ws).length=ps.length->BindsTo s fd ⟨us,ks.zip ws⟩ (ps.zip (g us ws))
 rel:∀ {vs:d8} {us:dh} {zs:d8} {ws:dh},Vals vs us->Vals zs ws->Vals (gV vs zs) (g us ws)
variable {g:dh->dh->dh} {gV:d8->d8->d8}
end
structure FnScope (N P:dE) (sc:Scope):Prop where
 kind:sc.kind=.function
 co:sc.isCoroutine=false
 gen:sc.isGenerator=false
 nd:N.Nodup
 pre:N.take P.length=P
 par:∀ x∈P,sc.names.lookup x=some .local\/sc.names.lookup x=some .cell
 nofree:∀ y∈sc.names,y.2≠.free
theorem Ni {kindOf:Str->Option NameKind} {x:Str}:∀ {a:List (Str×Value)} {m:dz},(∀ v,(x,v)∉a)->bindL kindOf a m x=m x
 | [],_,_=>rfl
 | (n,v)::r,m,h=>by
   unfold bindL;rw [Ni λw b=>h w (DW _ b)];split
   ·have:x≠n:=by rintro rfl;exact h v DK
    simp [this]
   ·rfl
theorem Nj {kindOf:Str->Option NameKind} {x:Str}:∀ {a:List (Str×Value)} {m:dz},(∀ v,(x,v)∉a)->bindC kindOf a m x=m x
 | [],_,_=>rfl
 | (n,v)::r,m,h=>by
   unfold bindC;rw [Nj λw b=>h w (DW _ b)];split
   ·rfl
   ·have:x≠n:=by rintro rfl;exact h v DK
    simp [this]
theorem Nk {kindOf:Str->Option NameKind} {x:Str} {v:Value}:∀ {P:dE} {a:dh} {i:Nat} {m:dz},P.Nodup->P[i]?=some x->a[i]?=some v->kindOf x=some .local->
  bindL kindOf (P.zip a) m x=some v
 | [],_,_,_,_,h,_,_=>by simp at h
 | _::_,[],_,_,_,_,h,_=>by simp at h
 | p::P,w::a,0,m,d,b,c,hk=>by
   simp at b c;subst b;subst c;show bindL kindOf ((p,w)::P.zip a) m p=_;unfold bindL;rw [Ni λv e=>(List.nodup_cons.mp d).1 (List.of_mem_zip e).1,nH hk];simp
 | p::P,w::a,i+1,m,d,b,c,hk=>by
   show bindL kindOf ((p,w)::P.zip a) m x=_;unfold bindL;exact Nk (i:=i) (List.nodup_cons.mp d).2 (by simpa using b) (by simpa using c) hk
theorem Nl {kindOf:Str->Option NameKind} {x:Str} {v:Value}:∀ {P:dE} {a:dh} {i:Nat} {m:dz},P.Nodup->P[i]?=some x->a[i]?=some v->kindOf x≠some .local->
  bindC kindOf (P.zip a) m x=some v
 | [],_,_,_,_,h,_,_=>by simp at h
 | _::_,[],_,_,_,_,h,_=>by simp at h
 | p::P,w::a,0,m,d,b,c,hk=>by
   simp at b c;subst b;subst c;show bindC kindOf ((p,w)::P.zip a) m p=_;unfold bindC;rw [Nj λv e=>(List.nodup_cons.mp d).1 (List.of_mem_zip e).1,nG hk];simp
 | p::P,w::a,i+1,m,d,b,c,hk=>by
   show bindC kindOf ((p,w)::P.zip a) m x=_;unfold bindC;exact Nl (i:=i) (List.nodup_cons.mp d).2 (by simpa using b) (by simpa using c) hk
noncomputable def start (N:dE) (a:d8):St:=a.map some++List.replicate (N.length - a.length) none
noncomputable def GP (CX:aE) (P:Program) (w:World) (K:W.Frag) (h:dz) (c:Heap) (N:dE) (qual:Str) (a:Scope) (f:Addr) (g:Value) (A:Around) (b:List Env) (s:Shared) (H:Hp) (E:XK):Cx where
 prog:=P
 w:=w
 K:=K
 mg:=h
 base:=c
 A:=A.deeper (envOfC qual a s.heap.objs.size f g)
 N:=N
 s₀:=s
 H₀:=H
 env:=envOfC qual a s.heap.objs.size f g
 outer:=b
 stack:=envOfC qual a s.heap.objs.size f g::b
 ex:=[]
 calm:=true
 fn:=λ_=>true
 pn:=[]
 xe:=λe i=>wpAny (model P w) (A.deeper (envOfC qual a s.heap.objs.size f g)) (leaving (envOfC qual a s.heap.objs.size f g) e) (λ_ d=>CX b H s E e d) (λj d=>CX b H s E j d) i
def Nn {a:Scope} {n:Nat} {x:Str} (h:a.names.lookup x=some .cell):∃ c,(cellsFrom n a.names []).lookup x=some c:=by
 have q:=W.cellsFrom_some a.names n [] (.inl h);exact Option.isSome_iff_exists.mp q
def V5 {CX:aE} {P:Program} {w:World} {K:W.Frag} {M:dz} {o:Heap} {N ps:dE} {qual:Str} {d:Scope} {f:Addr} {F:Value} {A:Around} {j:List Env} {s R:Shared} {H:Hp} {E:XK} {O:dh} {B:d8}
  (S:FnScope N ps d) (U:A.handled=none) (Q:(A.deeper (envOfC qual d s.heap.objs.size f F)).depth+Builtin.pylongFrames<recursionLimit) (g:Env0 P w K M o A j s H) (hl:B.length=ps.length) (r:Vals B O)
  (x:InCallC s s.heap.objs.size (bindL (envOfC qual d s.heap.objs.size f F).kindOf (ps.zip O) λ_=>none) (cellsFrom (s.heap.objs.size+1) d.names []) (bindC (envOfC qual d s.heap.objs.size f F).kindOf (ps.zip O) λ_=>none) R) :
  Inv (GP CX P w K M o N qual d f F A j s H E) [] (start N B) H R:=by
 have X:ps.length<=N.length:=by have:=congrArg List.length S.pre;rw [BQ] at this;omega
 obtain ⟨J,tk,rfl,hk⟩:=x.done;have C:∀ b:Addr,b∉(GP CX P w K M o N qual d f F A j s H E).ex:=λb z=>absurd (show b∈([]:dH) from z) (by simp)
 refine ⟨⟨g.mod,S.kind,rfl,rfl,AV _,λy z c J m=>?_,λy D=>?_,λy c _ h=>?_,λ_=>U,Around.frames_deeper g.frames,.inr ⟨rfl,rfl⟩,λb z=>absurd z (C b),g.bs,g.bsz,λb _ _=>C b,λb z=>absurd z (C b),g.funs,g.frf,g.seer,g.tree,λs' G=>PySem.PylongRoom.of (g.mod.nolimit.keeps G) Q (PySem.SeerAt.of (g.seer.keeps G) g.tree (Around.frames_deeper g.frames) S.gen S.co rfl rfl)⟩,
  rfl,g.bare,Un.kept hk,⟨_,x.toInCall.ns,λi y v J m h3=>?_⟩,λy c h=>⟨_,x.cell y c h⟩,g.hok.fresh (AV _),λy c h=>?_,λp hp=>absurd (show p∈([]:dq) from hp) (by simp),g.hok.kept hk,?_⟩
 ·exact name_of_addr x.apart (PySem.mem_of_lookup J) (PySem.mem_of_lookup m)
 ·have D:d.names.lookup y=some .cell\/d.names.lookup y=some .free:=D;rcases D with D | D
  ·exact Nn D
  ·exact absurd rfl (S.nofree _ (PySem.mem_of_lookup D))
 ·exact Dx (x.above y c (PySem.mem_of_lookup h))
 ·have L:i<B.length:=by
   unfold start at m;by_cases L:i<B.length
   ·exact L
   ·rw [EE (by simpa using L)] at m;rw [Dz] at m;split at m <;> cases m
  have Y:B[i]?=some v:=by
   unfold start at m;rw [EF (by simpa using L),Aa] at m;cases e:B[i]? with
   | none=>rw [e] at m;cases m
   | some a=>rw [e] at m;cases m;rfl
  obtain ⟨u,T,Z⟩:=r.get Y
  have hp:ps[i]?=some y:=by
   rw [<-S.pre,List.getElem?_take_of_lt ⋯];exact J
  have I:ps.Nodup:=by rw [<-S.pre];exact S.nd.sublist (List.take_sublist _ _)
  refine ⟨u,Z,?_⟩;rcases S.par y (BC hp) with k | k
  ·exact .inl ⟨k,Nk I hp T k⟩
  ·obtain ⟨c,e⟩:=Nn (n:=s.heap.objs.size+1) k;refine .inr ⟨.inl k,c,e,?_⟩;have q:=x.cell y c e;rw [Nl I hp T (by show d.names.lookup y≠_;rw [k];decide)] at q;exact q
 ·exact g.hok.fresh (Dx (x.above y c (PySem.mem_of_lookup h)))
 ·unfold start;show _=N.length;rw [CL,AK,Dj];omega
theorem V6 {CX:aE} {P:Program} {w:World} {K:W.Frag} {M:dz} {g:Heap} {k:Nat} {f:Addr} {name qual:Str} {h:Arguments} {i:List Stmt} {a:Scope} {Z kV D pm d ct oc:Value} {an od:Option Addr}
  {R:Array (Option Value)} {N ps:dE} {sp:Sp} (lk:K.lookup f=some ⟨oc,od,.func (W.fnOf name qual h i a Z kV D pm an d ct),R⟩) (T:W.codeIn K d qual=true) (S:FnScope N ps a)
  (len:∀ j H Q E,sp j H Q E->j.length=ps.length)
  (z:∀ (A:Around) (c:List Env) (s:Shared) (H:Hp) (j:d8) (Q:VK) (E:XK),Room k (A.deeper (envOfC qual a s.heap.objs.size f d))->sp j H Q E->
   ∃ t,PSs (GP CX P w K M g N qual a f d A c s H E) i t/\t { nx:=λ_ p=>Q .non p,rt:=Q } (start N j) H) :
  FnOk P w K M g CX (k+1) f (W.fnOf name qual h i a Z kV D pm an d ct) ps sp:=by
 refine ⟨len,λA c s H a0 us j Q E O F hb r G=>?_⟩;have hl:=len _ _ _ _ G;have KX:K.In s.heap:=F.mod.kin.keeps λb o e=>(F.bs b o e).1;have U:s.heap.NoLimit:=F.mod.nolimit.keeps λb o e=>(F.bs b o e).1
 have B:∀ y∈ps.zip us,a.names.lookup y.1=some .local\/(a.names.lookup y.1=some .cell/\((cellsFrom (s.heap.objs.size+1) a.names []).lookup y.1).isSome=true):=λ⟨n,v⟩ hy=>by
  rcases S.par n (List.of_mem_zip hy).1 with q | q
  ·exact .inl q
  ·exact .inr ⟨q,W.cellsFrom_some _ _ _ (.inl q)⟩
 refine codeAny_call_function O.depth (KX _ _ lk) rfl S.co S.gen rfl (W.codeRec_of KX T) (hb _ _ _ _ ?_);refine wpAny_newFunctionEnv_cells S.kind B λa3 he s1 x=>?_;subst he;refine ⟨U.keeps x.toInCall.keep,codeAny_func ?_⟩;obtain ⟨t,ht,hq⟩:=z A c s H j Q E (O.deeper _) G;have I:Inv (GP CX P w K M g N qual a f d A c s H E) [] (start N j) H s1:=V5 S O.hd (by have:=(O.deeper (envOfC qual a s.heap.objs.size f d)).dp;show _+100<_;omega) F hl r x;refine nQ (ht [] s1 (start N j) H _ I hq) (λfl X C=>?_) λe X C=>C
 have L:∀ {m:St} {p:Hp} {v:V} {u:Value},Inv (GP CX P w K M g N qual a f d A c s H E) [] m p X->RelV v u->Q v p->CE c P w H s Q u X:=
  λ{m p v u} J Y q=>⟨v,p,J.os,J.bare,J.base,J.hok,Y,q⟩
 cases fl with
 | ret u=>
   obtain ⟨v,m,p,J,Y,q⟩:=C;exact L J Y q
 | next=>
   obtain ⟨m,p,J,q⟩:=C;exact L (v:=V.non) (u:=Value.none) J rfl q
 | brk=>
   obtain ⟨_,_,_,q⟩:=C;exact False.elim q
 | cont=>
   obtain ⟨_,_,_,q⟩:=C;exact False.elim q
section
variable {X:Cx} {x:Str} {p pos:Pos} {e:Expr} {es:dC} {t:TA} {id T:String} {r:d8->Hp->VK->Prop}
def C' (r:d8->Hp->VK->Prop) (t:TA):TE:=λa H Q=>t a H λb c=>r b c Q
def Ak (f:Cu X (.builtin id) r) (g:Gl X x) (i:X.mg x=none) (j:bootBuiltins x=some (.builtin id)) (k:PA X (e::es) t) (m:x ≠ "__name__" := by decide) (b:(x == ("__debug__" : Str))=false:=by decide)
  (n:starEach (e::es) X.env=(false,eval e X.env)::starEach es X.env:=by rfl) (c:(backTo pos (starEach es X.env)).any (·.1)=false:=by rfl):PE X (.Call (.Name x p) (e::es) [] pos) (C' r t):=by
 intro a s d H Q I h;refine wpAny_Call_Name_kw (Ee I g i j ?_ m b);exact PyProof.Rows.callWith_builtin1 (E_ (k pos a s d H _ I h) λo q ⟨u,v,w,y,z⟩=>f a q d v u o Q w y z) n c
def Eh (f:Cu X (.type T) r) (g:Gl X x) (i:X.mg x=none) (j:bootBuiltins x=some (.type T)) (k:PA X (e::es) t) (m:x ≠ "__name__" := by decide) (b:(x == ("__debug__" : Str))=false:=by decide)
  (n:starEach (e::es) X.env=(false,eval e X.env)::starEach es X.env:=by rfl) (c:(backTo pos (starEach es X.env)).any (·.1)=false:=by rfl):PE X (.Call (.Name x p) (e::es) [] pos) (C' r t):=by
 intro a s d H Q I h;refine wpAny_Call_Name_kw (Ee I g i j ?_ m b);exact PyProof.Rows.callWith_type1 (E_ (k pos a s d H _ I h) λo q ⟨u,v,w,y,z⟩=>f a q d v u o Q w y z) n c
end
end L2
namespace HT
open PySem PyProof.Rows
section
variable {prog:Program} {w:World} {A:Around} {E:dj} {s:Shared}
noncomputable def sIx (n d:Nat):Option Int->Nat
 | none=>d
 | some v=>if v<0 then (v+(n:Int)).toNat else min v.toNat n
end
end HT
namespace L2
open PySem PySem.Spec PyProof.Rows
noncomputable abbrev TO:=St->Hp->(Option Int->Hp->Prop)->Prop
def PO (X:Cx) (e:Option Expr) (t:TO):Prop:=
 ∀ (a:dq) (s:Shared) (b:St) (H:Hp) (Q:Option Int->Hp->Prop),Inv X a b H s->t b H Q->
   wpAny (model X.prog X.w) X.A (evalPart e X.env) (λu d=>∃ o c,Inv X a b c d/\IsPart u o/\Q o c) X.xe s
noncomputable def Ei:TO:=λ_ H Q=>Q none H
noncomputable def Ej (t:TE):TO:=λa H Q=>t a H λx b=>∃ i,x=.int i/\Q (some i) b
section
variable {X:Cx} {e:Expr} {te:TE} {lo hi:Option Expr} {tl th:TO} {pos p2:Pos}
def FF:PO X none Ei:=by
 intro a s b H Q I h;rw [evalPart_none];exact nP ⟨none,H,I,.none,h⟩
def FG (h:PE X e te):PO X (some e) (Ej te):=by
 intro a s b H Q I c;rw [evalPart_some];refine E_ (h a s b H _ I c) λu k ⟨x,d,f,g,j⟩=>?_;obtain ⟨i,rfl,q⟩:=j;obtain ⟨t,rfl⟩:=g;exact ⟨some i,d,f,.int i t,q⟩
def SlR (X:Cx) (r:V->Option Int->Option Int->Hp->VK->Prop):Prop:=
 ∀ (a:dq) (s:Shared) (b:St) (H:Hp) (x:V) (v vl c:Value) (lo hi:Option Int) (d:Addr) (Q:VK),Inv X a b H s->RelV x v->s.heap.IsSliceOf d vl c .none->IsPart vl lo->IsPart c hi->r x lo hi H Q->
   ∃ T id,typeLookup (.type T) "__getitem__" = pure (some (.builtin id))/\s.TypeIs v T/\wpAny (model X.prog X.w) X.A (getItem v (.ref d)) (EP X a b Q) X.xe s
def ag (r:V->Option Int->Option Int->Hp->VK->Prop) (te:TE) (tl th:TO):TE:=λa H Q=>te a H λx b=>tl a b λl c=>th a c λu d=>r x l u d Q
def FH {r:V->Option Int->Option Int->Hp->VK->Prop} (m:SlR X r) (n:PE X e te) (o:PO X lo tl) (p:PO X hi th):PE X (.Subscript e (.Slice lo hi none p2) pos) (ag r te tl th):=by
 intro a s g H Q I h;refine Subscript_ (E_ (n a s g H _ I h) λv w ⟨x,y,z,A,B⟩=>?_);refine wpAny_Slice (E_ (o a w g y _ z B) λvl C ⟨l,D,E,pl,F⟩=>E_ (p a C g D _ E F) λj c ⟨u,k,G,J,K⟩=>?_);rw [evalPart_none];refine nP ?_;have L:Inv X a g k { c with heap:=c.heap.push { cls:=.type "slice", data:=.fields #[vl,j,.none] } }:=G.kept (t':=c.toks) λb R q=>Heap.get?_push_of_some _ q;obtain ⟨T,id,M,N,O⟩:=m a { c with heap:=c.heap.push { cls:=.type "slice", data:=.fields #[vl,j,.none] } } g k x v vl j l u c.heap.objs.size Q L A (Heap.IsSliceOf.new ..) pl J K;show wpAny (model X.prog X.w) X.A (subscriptTail e (.Slice lo hi none p2) v (.ref c.heap.objs.size)) (EP X a g Q) X.xe { c with heap:=c.heap.push { cls:=.type "slice", data:=.fields #[vl,j,.none] } };exact tail_any (ops:=[.ref c.heap.objs.size,v]) N M O (by with_unfolding_all rfl)
noncomputable def CO (xs:d8) (lo hi:Option Int):d8:=(xs.drop (HT.sIx xs.length 0 lo)).take (HT.sIx xs.length xs.length hi - HT.sIx xs.length 0 lo)
def V7 (xs:d8) (lo hi:Option Int):(CO xs lo hi).length<=xs.length:=by
 unfold CO;rw [BQ,List.length_drop];omega
end
noncomputable def a8 (n:Nat) (i:Int):Option Nat:=if 0<=i then (if i<n then some i.toNat else none) else if -(n:Int)<=i then some (i+n).toNat else none
noncomputable def M_ {a:Type} (xs:List a) (i:Int):Option a:=(a8 xs.length i).bind λj=>xs[j]?
def No {n:Nat} {i:Int} {j:Nat} (h:a8 n i=some j):seqIndex? i n=some j/\j<n/\-(n:Int)<=i/\i<n:=by
 unfold a8 at h;by_cases b:0<=i
 ·rw [nH b] at h;by_cases a:i<n
  ·rw [nH a] at h;have e:i.toNat=j:=nR h;exact ⟨by rw [seqIndex_of b a,e],⋯,⋯,a⟩
  ·rw [nG a] at h;cases h
 ·rw [nG b] at h;by_cases a:-(n:Int)<=i
  ·rw [nH a] at h;have e:(i+n).toNat=j:=nR h;exact ⟨by rw [seqIndex_neg ⋯ a,e],⋯,a,⋯⟩
  ·rw [nG a] at h;cases h
theorem K2 {a:Type} {xs:List a} {i:Int} {v:a} (h:M_ xs i=some v):∃ j,seqIndex? i xs.length=some j/\xs[j]?=some v/\j<xs.length/\-(xs.length:Int)<=i/\i<xs.length:=by
 unfold M_ at h;cases e:a8 xs.length i with
 | none=>rw [e] at h;cases h
 | some j=>
   rw [e] at h;obtain ⟨b,c,d,f⟩:=No e;exact ⟨j,b,h,c,d,f⟩
def DP {a:Type} {xs:List a} {j:Nat} {v:a} (h:xs[j]?=some v):M_ xs (j:Int)=some v:=by
 have b:j<xs.length:=(BF.mp h).1
 have e:a8 xs.length (j:Int)=some j:=by
  unfold a8;rw [nH ⋯,nH ⋯];simp
 unfold M_;rw [e];exact h
def V8 (b:Expr):Prop:=∀ o i,subscripted b false o i=operate [o,i] (getItem o i)
def bu (X:Cx) (r:R2):Prop:=
 ∀ (c a:Expr) (b:dq) (s:Shared) (d:St) (H:Hp) (x y:V) (v u:Value) (Q:VK),Inv X b d H s->RelV x v->RelV y u->r x y H Q->
   subscripted a false v u=operate [v,u] (getItem v u)->wpAny (model X.prog X.w) X.A (subscriptTail c a v u) (EP X b d Q) X.xe s
def MtR (X:Cx) (id:String) (r:V->d8->Hp->VK->Prop):Prop:=
 ∀ (a:dq) (s:Shared) (b:St) (H:Hp) (x:V) (c:d8) (v:Value) (d:dh) (Q:VK),Inv X a b H s->RelV x v->Vals c d->r x c H Q->
   wpAny (model X.prog X.w) X.A (call (.builtin id) (v::d)) (EP X a b Q) X.xe s
section
variable {X:Cx} {a b:Expr} {ta tb:TE} {pos:Pos}
def BA {r:R2} (d:bu X r) (e:PE X a ta) (f:PE X b tb) (g:V8 b):PE X (.Subscript a b pos) (A_ r ta tb):=by
 intro c s i H Q I h;exact Subscript_ (Kz e f I h λv u j x y k m n o q=>d a b c j i k x y v u Q m n o q (g _ _))
def V9 (K:W.Frag):R2:=λx y H Q=>∃ p c i v,x=.ref p/\y=.int i/\SqL K H p c/\M_ c i=some v/\Q v H
def WA (K:W.Frag):R2:=λx y H Q=>∃ p c i v,x=.ref p/\y=.int i/\SqT K H p c/\M_ c i=some v/\Q v H
def Np:bu X (V9 X.K):=by
 intro f g c s n H x y v u Q I C D h o;obtain ⟨p,N,i,z,rfl,rfl,E,F,q⟩:=h;cases C;obtain ⟨t,rfl⟩:=D;obtain ⟨k,r,pl,O⟩:=I.list E;obtain ⟨j,e,G,P,J,K⟩:=K2 F;obtain ⟨w,A,rw'⟩:=r.get G;have L:=r.length;have R:=G8;have d:EP X c n Q w s:=⟨z,H,I,rw',q⟩;by_cases B:0<=i
 ·have m:i.toNat=j:=by
   rw [seqIndex_of B K] at e;exact nR e
  exact item_listR pl.isList B ⋯ (by rw [m];simpa using A) d o
 ·have m:(i+(k.toArray.size:Int)).toNat=j:=by
   rw [seqIndex_neg ⋯ J] at e;rw [Ba,<-L];exact nR e
  exact subscriptTail_builtinR (x:=w) pl.isList.typeIs slot_list_getitem.lookup
   (wpAny_getItem_list_neg (Q:=λr M=>r=w/\EP X c n Q r M) pl.isList ⋯ (by rw [Ba] <;> omega) ⋯ (by rw [m];simpa using A) ⟨rfl,d⟩) o
def WC:bu X (WA X.K):=by
 intro d e c s g H x y v u Q I k m h n;obtain ⟨p,J,i,z,rfl,rfl,o,A,q⟩:=h;cases k;obtain ⟨t,rfl⟩:=m;obtain ⟨B,r,pl,K⟩:=I.tuple o;obtain ⟨j,C,D,L,M,N⟩:=K2 A;obtain ⟨w,E,rw'⟩:=r.get D;have F:=r.length;have O:=G8;have f:EP X c g Q w s:=⟨z,H,I,rw',q⟩
 exact subscriptTail_builtinR (x:=w) pl.typeIs slot_tuple_getitem.lookup
  (getItem_tuple (j:=j) (Q:=λr G=>r=w/\EP X c g Q r G) pl ⋯ ⋯ (by rw [Ba,<-F];exact C) (by simpa using E) ⟨rfl,f⟩) n
def WD (its:dh) (n j:Nat) (u:Value):Obj.mapSeq (·.setIfInBounds j u) { cls:=.type "list", data:=.seq its.toArray n }={ cls:=.type "list", data:=.seq (its.set j u).toArray n }:=by
 simp [Obj.mapSeq]
def Inv.lst {c:dq} {d:St} {H:Hp} {s:Shared} {p:Addr} {xs:d8} (I:Inv X c d H s) (h:H p=some (.lst xs)) :
  ∃ (its:dh) (n:Nat),Vals xs its/\s.heap.get? p=some { cls:=.type "list", data:=.seq its.toArray n }/\xs.length<=sizeLine:=by
 obtain ⟨z,its,n,r,e⟩:=I.hok p _ h;exact ⟨its,n,r,e,z⟩
def Inv.lstUpd {c:dq} {g:St} {H:Hp} {s:Shared} {p:Addr} {xs ys:d8} {its its':dh} {n d:Nat} {f:Obj->Obj} (I:Inv X c g H s) (h:H p=some (.lst xs))
  (m:s.heap.get? p=some { cls:=.type "list", data:=.seq its.toArray n }) (i:f { cls:=.type "list", data:=.seq its.toArray n }={ cls:=.type "list", data:=.seq its'.toArray d }) (r:Vals ys its') (o:ys.length<=sizeLine) (t:Nat) :
  Inv X c g (upd H p (.lst ys)) { s with heap:=s.heap.update p f,toks:=t }:=by
 have e:(s.heap.update p f).get? p=some { cls:=.type "list", data:=.seq its'.toArray d }:=by
  rw [Heap.get?_update_self f m (by rw [i] <;> rfl),i]
 refine I.write (x:=p) (e:=p) (by rw [h];trivial) (.inl rfl) (λb u v q=>(Heap.get?_update_other _ _ (Ne.symm v)).trans q) ⟨_,e⟩ ?_;exact ⟨o,its',d,r,e⟩
def DQ:V->V->V->Hp->(Hp->Prop)->Prop:=λo i v H Q=>∃ p c k j,o=.ref p/\i=.int k/\H p=some (.lst c)/\a8 c.length k=some j/\Q (upd H p (.lst (c.set j v)))
def Dq:bo X DQ:=by
 intro c s A H o i v J K u Q I B C D h;obtain ⟨p,E,k,j,rfl,rfl,hp,F,q⟩:=h;cases B;obtain ⟨t,rfl⟩:=C;obtain ⟨d,n,r,f,G⟩:=I.lst hp;obtain ⟨e,L,m,w⟩:=No F;have g:=r.length;have M:=G8
 have x:Inv X c A (upd H p (.lst (E.set j v))) { s with heap:=s.heap.update p (Obj.mapSeq (·.setIfInBounds j u)) }:=
  I.lstUpd hp f (WD d n j u) (r.set D j) (by rw [Dk];exact G) s.toks
 by_cases z:0<=k
 ·have hk:k.toNat=j:=by
   rw [seqIndex_of z w] at e;exact nR e
  exact W.ki_setAt f z ⋯ (by rw [Ba,<-g];exact w) (by rw [hk];exact ⟨_,x,q⟩)
 ·have hk:(k+(d.toArray.size:Int)).toNat=j:=by
   rw [seqIndex_neg ⋯ m] at e;rw [Ba,<-g];exact nR e
  exact W.ki_setBack f ⋯ (by rw [Ba,<-g];exact m) ⋯ (by rw [hk];exact ⟨_,x,q⟩)
def WE (lo c:Option Int) (n:Nat):(sliceBounds lo c none n).1=((HT.sIx n 0 lo:Nat):Int)/\(sliceBounds lo c none n).2.1=((HT.sIx n n c:Nat):Int)/\(sliceBounds lo c none n).2.2=1:=by
 refine ⟨?_,?_,rfl⟩
 ·cases lo with
  | none=>simp [sliceBounds,HT.sIx]
  | some i=>
    simp only [sliceBounds,HT.sIx,Option.getD_none,show (1:Int) > 0 by decide,if_true];by_cases h:i<0
    ·simp only [h,if_true] <;> omega
    ·simp only [h,if_false] <;> omega
 ·cases c with
  | none=>simp [sliceBounds,HT.sIx]
  | some i=>
    simp only [sliceBounds,HT.sIx,Option.getD_none,show (1:Int) > 0 by decide,if_true];by_cases h:i<0
    ·simp only [h,if_true] <;> omega
    ·simp only [h,if_false] <;> omega
def WF (its:dh) (lo c:Option Int):slicePick its.toArray lo c none=((its.drop (HT.sIx its.length 0 lo)).take (HT.sIx its.length its.length c - HT.sIx its.length 0 lo)).toArray:=by
 obtain ⟨d,e,f⟩:=WE lo c its.toArray.size;unfold slicePick;rw [d,e,f];simp only [sliceRange_one,pick_run,Ba] <;> rfl
def WG (K:W.Frag):V->Option Int->Option Int->Hp->VK->Prop:=λx lo d H Q=>∃ a c,x=.ref a/\SqL K H a c/\∀ p,H p=none->Q (.ref p) (upd H p (.lst (CO c lo d)))
def WH:SlR X (WG X.K):=by
 intro f s u H x v vl w lo e y Q I i j pl k h;obtain ⟨a,c,rfl,m,q⟩:=h;cases i;obtain ⟨n,r,g,p⟩:=I.list m;have d:=r.length;refine ⟨"list", _,slot_list_getitem.lookup,g.isList.typeIs,?_⟩;refine wpAny_getItem_list_slice g.isList j pl k .none (by simp) ?_ (by rw [Ba] <;> omega);rw [WF,<-d];refine ⟨.ref s.heap.objs.size,_,I.laid (t':=s.toks) (o:=.lst (CO c lo e)) (λb z q=>Heap.get?_push_of_some _ q) (AV _) ?_,rfl,q _ (I.hok.fresh (AV _))⟩;exact ⟨CF (V7 c lo e) p,_,0,(r.drop (HT.sIx c.length 0 lo)).take (HT.sIx c.length c.length e - HT.sIx c.length 0 lo),Heap.get?_push_size _ rfl⟩
def K3:Cu X (.builtin "len") (λi H Q=>∃ p d,i=[.ref p]/\(SqL X.K H p d\/SqT X.K H p d)/\Q (.int d.length) H):=by
 intro j s n H i o Q I r h;obtain ⟨p,d,rfl,e,q⟩:=h;obtain ⟨u,rfl,k⟩:=EO r;cases k;have v:=G8;rcases e with e | e
 ·obtain ⟨f,g,pl,m⟩:=I.list e;have c:=g.length;exact Calls.call_len_list pl.isList (by simp only [Ba] <;> omega) ⟨.int d.length,H,I.tok _,⟨s.toks+1,by rw [Ba,c]⟩,q⟩
 ·obtain ⟨f,g,pl,m⟩:=I.tuple e;have c:=g.length;exact len_tuple pl (by simp only [Ba] <;> omega) ⟨.int d.length,H,I.tok _,⟨s.toks+1,by rw [Ba,c]⟩,q⟩
def Nr:Cu X (.type "list") (λA H Q=>∃ p f,A=[.ref p]/\(SqL X.K H p f\/SqT X.K H p f)/\∀ l,H l=none->Q (.ref l) (upd H l (.lst f))):=by
 intro j s D H A F Q I r h;obtain ⟨p,f,rfl,k,q⟩:=h;obtain ⟨u,rfl,E⟩:=EO r;cases E
 have m:∀ (c:dh),Vals f c->f.length<=sizeLine->∀ (d:Heap) (g:Nat),(∀ b B,s.heap.get? b=some B->d.get? b=some B)->
   d.get? s.heap.objs.size=some { cls:=.type "list", dict:=none,data:=.seq c.toArray g,slots:=#[] }->EP X j D Q (.ref s.heap.objs.size) { s with heap:=d }:=λc i v d g kp e=>
  ⟨.ref s.heap.objs.size,_,I.laid (t':=s.toks) kp (AV _) (show ObjOk X.prog X.w _ d _ (.lst f) from ⟨v,c,g,i,e⟩),rfl,q _ (I.hok.fresh (AV _))⟩
 rcases k with k | k
 ·obtain ⟨c,i,pl,v⟩:=I.list k;have w:=i.length;obtain ⟨o,x,y,n,z⟩:=pl.isList;exact call_list_seq p (.inl rfl) x y z (λd g kp e=>m c i v d g kp e) (by simp only [Ba] <;> omega)
 ·obtain ⟨c,i,pl,v⟩:=I.tuple k;have w:=i.length;obtain ⟨o,x,y,n,z⟩:=pl;exact call_list_seq p (.inr rfl) x y z (λd g kp e=>m c i v d g kp e) (by simp only [Ba] <;> omega)
def WI:Cu X (.type "tuple") (λm H Q=>∃ p f,m=[.ref p]/\((SqL X.K H p f/\∀ l,H l=none->Q (.ref l) (upd H l (.tup f)))\/(SqT X.K H p f/\Q (.ref p) H))):=by
 intro c s n H m D Q I r h;obtain ⟨p,f,rfl,h⟩:=h;obtain ⟨u,rfl,z⟩:=EO r;cases z;rcases h with ⟨j,q⟩ | ⟨j,q⟩
 ·obtain ⟨d,k,pl,v⟩:=I.list j;have w:=k.length;refine call_tuple_list pl.isList (λi kp=>?_) (by simp only [Ba] <;> omega);have x:Inv X c n H { s with heap:=i }:=I.kept (t':=s.toks) kp
  have B:Inv X c n (upd H i.objs.size (.tup f)) { s with heap:=i.push { cls:=.type "tuple", data:=.seq d.toArray } }:=
   x.laid (t':=s.toks) (λb o e=>Heap.get?_push_of_some _ e) (AV _) (show ObjOk X.prog X.w _ _ _ (.tup f) from ⟨v,d,k,IsTup.new _ _⟩)
  exact ⟨.ref i.objs.size,_,B,rfl,q _ (x.hok.fresh (AV _))⟩
 ·obtain ⟨d,k,pl,v⟩:=I.tuple j;exact call_tuple_same pl ⟨.ref p,H,I,rfl,q⟩
def cI (K:W.Frag) (T:String) (x:V) (H:Hp):Prop:=match x with
 | .str _=>T = "str"
 | .int _=>T = "int"
 | .ref p=>(T = "list" /\ ∃ d,SqL K H p d)\/(T = "tuple" /\ ∃ o,K.lookup p=some o/\o.cls=.type "tuple" /\ o.dict=none)\/
   (T = "dict" /\ ((∃ c,H p=some (.dK c))\/∃ c,H p=some (.dT c)))\/(T = "set" /\ ∃ S n,H p=some (.set S n))
 | _=>False
theorem Nt {f:dq} {q:St} {H:Hp} {s:Shared} {T:String} {x:V} {v:Value} (I:Inv X f q H s) (r:RelV x v) (g:cI X.K T x H) :
  s.TypeIs v T/\∀ a,v=.ref a->∃ m,s.heap.get? a=some m/\m.dict=none:=by
 cases x with
 | str z=>
   obtain ⟨t,rfl⟩:=r;cases (show T = "str" from g);exact ⟨typeIs_str s z t,λ_ e=>nomatch e⟩
 | int i=>
   obtain ⟨t,rfl⟩:=r;cases (show T = "int" from g);exact ⟨typeIs_int s i t,λ_ e=>nomatch e⟩
 | ref p=>
   cases r;rcases g with ⟨rfl,A,u⟩ | ⟨rfl,o,hk,w,h⟩ | ⟨rfl,hk⟩ | ⟨rfl,S,n,hk⟩
   ·obtain ⟨y,_,pl,_⟩:=I.list u;refine ⟨pl.isList.typeIs,λa e=>?_⟩;cases e;obtain ⟨o,n,e,c,h,_⟩:=pl;exact ⟨o,e,h⟩
   ·refine ⟨⟨o,I.kIn p o hk,w⟩,λa e=>?_⟩;cases e;exact ⟨o,I.kIn _ o hk,h⟩
   ·have z:∃ o,s.heap.get? p=some o/\o.ExactDict:=by
     rcases hk with ⟨j,hk⟩ | ⟨j,hk⟩
     ·obtain ⟨_,_,_,_,o,_,_,e,d,_⟩:=I.hok p _ hk;exact ⟨o,e,d⟩
     ·obtain ⟨_,_,_,_,o,_,_,e,d,_⟩:=I.hok p _ hk;exact ⟨o,e,d⟩
    obtain ⟨o,e,d⟩:=z;refine ⟨⟨o,e,d.1⟩,λa k=>?_⟩;cases k;exact ⟨o,e,d.2.1⟩
   ·obtain ⟨o,_,_,_,e,d,_⟩:=I.hok p _ hk;refine ⟨⟨o,e,d.1⟩,λa k=>?_⟩;cases k;exact ⟨o,e,d.2.1⟩
 | _=>exact False.elim g
def K4 (K:W.Frag) (T:String) (r:V->d8->Hp->VK->Prop) (d:TE):TE:=λe H Q=>d e H λx c=>cI K T x c/\r x [] c Q
def ah (K:W.Frag) (T:String) (r:V->d8->Hp->VK->Prop) (e:TE) (t:TA):TE:=λc H Q=>e c H λx d=>cI K T x d/\t c d λf g=>r x f g Q
variable {o e:Expr} {es:dC} {to:TE} {t:TA} {name:Str} {apos cpos:Pos} {T id:String} {r:V->d8->Hp->VK->Prop}
def WJ (n:PlainAttrs T) (g:Slot T name id) (i:typeOf (.builtin id)=pure (.type "method_descriptor")) (p:MtR X id r) (q:PE X o to)
  (d:attributeBase o name X.env (eval o X.env)=eval o X.env:=by rfl) (f:(apos.endLine == cpos.line)=true:=by rfl):PE X (.Call (.Attribute o name apos) [] [] cpos) (K4 X.K T r to):=by
 intro c s j H Q I h;refine wpAny_Call_method0_late d f (E_ (q c s j H _ I h) λv u ⟨x,w,k,m,y,z⟩=>?_);obtain ⟨A,B⟩:=Nt k m y;exact ⟨T,id,n,g,i,A,B,Calls.callWith_builtin rfl (PySem.evalArgs_none (p c u j w x [] v [] Q k m .nil z))⟩
def FI (u:PlainAttrs T) (i:Slot T name id) (k:typeOf (.builtin id)=pure (.type "method_descriptor")) (w:MtR X id r) (y:PE X o to) (z:PA X (e::es) t)
  (f:attributeBase o name X.env (eval o X.env)=eval o X.env:=by rfl)
  (j:((backTo cpos (starEach (e::es) X.env)).all (λx=>!x.1) && (backToKw cpos (keywordEach [] X.env)).all (λx=>x.1.isSome)
   && decide ((e::es).length+([]:List Keyword).length+(if ([]:List Keyword).isEmpty then 0 else 1)<30))=true:=by rfl)
  (g:(apos.endLine == cpos.line)=true:=by rfl) (A:starEach (e::es) X.env=(false,eval e X.env)::starEach es X.env:=by rfl) (d:(backTo cpos (starEach es X.env)).any (·.1)=false:=by rfl) :
  PE X (.Call (.Attribute o name apos) (e::es) [] cpos) (ah X.K T r to t):=by
 intro c s m H Q I h;refine wpAny_Call_method_late f j g rfl (E_ (y c s m H _ I h) λv B ⟨x,C,n,p,D,E⟩=>?_);obtain ⟨F,G⟩:=Nt n p D;refine ⟨T,id,u,i,k,F,G,?_⟩;have q:=z cpos c B m C _ n E;rw [A] at q ⊢;refine Calls.callWith_builtin (by show (false || (backTo cpos (starEach es X.env)).any (·.1))=false;rw [d] <;> rfl) (Calls.evalArgs_plain ?_);exact E_ q λJ K ⟨L,M,N,O,P⟩=>w c K m M x L v J Q N p O P
end
def MtM (X:Cx) (id:String) (r:V->d8->Hp->VK->Prop):Prop:=
 ∀ (a:dq) (s:Shared) (b:St) (H:Hp) (x:V) (c:d8) (v:Value) (d:dh) (Q:VK),Inv X a b H s->RelV x v->Vals c d->r x c H Q->
   wpAny (model X.prog X.w) X.A (call (.builtin id) (v::d)) (EP X a b Q) X.xe s
def Vals.zero {a:dh} (h:Vals [] a):a=[]:=by cases h;rfl
def Vals.inv {x:V} {xs:d8} {a:dh} (h:Vals (x::xs) a):∃ u t,a=u::t/\RelV x u/\Vals xs t:=by cases h with | cons r t=>exact ⟨_,_,rfl,r,t⟩
def Vals.one {x:V} {a:dh} (h:Vals [x] a):∃ u,a=[u]/\RelV x u:=by obtain ⟨u,t,rfl,r,h⟩:=h.inv;exact ⟨u,by rw [h.zero],r⟩
def Vals.two {x y:V} {a:dh} (h:Vals [x,y] a):∃ u v,a=[u,v]/\RelV x u/\RelV y v:=by obtain ⟨u,t,rfl,r,h⟩:=h.inv;obtain ⟨v,rfl,q⟩:=h.one;exact ⟨u,v,rfl,r,q⟩
theorem Vals.rep {xs:d8} {a:dh} (h:Vals xs a):∀ k:Nat,Vals (List.replicate k xs).flatten (List.replicate k a).flatten
 | 0=>.nil
 | k+1=>by
   rw [GF,GF,List.flatten_cons,List.flatten_cons];exact Vals.append h (Vals.rep h k)
theorem Nv (its:dh):∀ (k:Nat) (a:dh),
  List.foldl (λb c=>b++c) a.toArray (List.replicate k its.toArray)=(a++(List.replicate k its).flatten).toArray
 | 0,a=>by simp
 | k+1,a=>by
   have e:a.toArray++its.toArray=(a++its).toArray:=by simp
   have d:(a++its)++(List.replicate k its).flatten=a++(List.replicate (k+1) its).flatten:=by
    rw [GF,List.flatten_cons,List.append_assoc]
   rw [<-d,<-Nv its k (a++its),<-e,GF,List.foldl_cons]
section
variable {X:Cx} {pins:dq} {σ:St} {H:Hp} {s:Shared} {l b:Addr} {xs ys zs:d8}
def Inv.lset {its its':dh} {n:Nat} {f:Array Value->Array Value} {t':Nat} (I:Inv X pins σ H s) (d:H l=some (.lst xs))
  (e:s.heap.get? l=some { cls:=.type "list", data:=.seq its.toArray n }) (g:f its.toArray=its'.toArray) (h:Vals ys its') (i:ys.length<=sizeLine) :
  Inv X pins σ (upd H l (.lst ys)) { s with heap:=s.heap.update l (Obj.mapSeq f),toks:=t' }:=by
 have q:=PySem.IsL.update e f;rw [g] at q;refine I.write (x:=l) (e:=l) (by rw [d];exact trivial) (.inl rfl) (λm u j k=>(Heap.get?_update_other s.heap (Obj.mapSeq f) (Ne.symm j)).trans k) ⟨_,q⟩ ?_;exact ⟨i,its',_,h,q⟩
def Inv.lnew {its:dh} {t':Nat} (I:Inv X pins σ H s) (e:Vals ys its) (f:ys.length<=sizeLine) :
  Inv X pins σ (upd H s.heap.objs.size (.lst ys)) { s with heap:=s.heap.push { cls:=.type "list", data:=.seq its.toArray },toks:=t' }:=
 I.laid (λ_ _ q=>Heap.get?_push_of_some _ q) (AV _) ⟨f,its,0,e,Heap.get?_push_size _ rfl⟩
def Inv.fresh (I:Inv X pins σ H s):H s.heap.objs.size=none:=I.hok.fresh (AV _)
def Inv.lstM (I:Inv X pins σ H s) (a:H l=some (.lst xs)):xs.length<=sizeLine/\∃ (its:dh) (n:Nat),Vals xs its/\xs.length=its.length/\s.heap.get? l=some { cls:=.type "list", data:=.seq its.toArray n }:=by
 obtain ⟨z,its,n,r,e⟩:=I.hok l _ a;exact ⟨z,its,n,r,r.length,e⟩
def Nw {n:Nat} (h:n<=sizeLine):Builtin.List.listTooLong n=false:=by
 unfold Builtin.List.listTooLong;exact nK ⋯
end
section
variable {X:Cx}
def D6:V->d8->Hp->VK->Prop:=λx b H Q=>∃ l a y,x=.ref l/\b=[y]/\H l=some (.lst a)/\a.length<sizeLine/\Q .non (upd H l (.lst (a++[y])))
def Fd:MtM X "list.append" D6:=by
 intro b s i H x j v k Q I d f h;obtain ⟨l,m,y,rfl,rfl,c,o,q⟩:=h;cases d;obtain ⟨u,rfl,g⟩:=f.one;obtain ⟨z,a,n,r,p,e⟩:=I.lstM c;refine call_meets F.slot_list_append ⟨_,e,rfl⟩ F.entry_list_append (F.args_list_append_2 _ _) (PySem.list_append l a.toArray n u (by rw [Ba];omega)) ⟨e,?_⟩;refine ⟨.non,_,I.lset (its':=a++[u]) c e (by simp) (r.append (.cons g .nil)) ?_,rfl,q⟩;rw [CL,List.length_singleton];omega
def K5:V->d8->Hp->VK->Prop:=λx d H Q=>∃ l b a c,x=.ref l/\d=[.ref b]/\H l=some (.lst a)/\H b=some (.lst c)/\a.length+c.length<=sizeLine/\Q .non (upd H l (.lst (a++c)))
def WK:MtM X "list.extend" K5:=by
 intro g s B H x C v D Q I j k h;obtain ⟨l,b,E,G,rfl,rfl,i,m,J,q⟩:=h;cases j;obtain ⟨u,rfl,o⟩:=k.one;cases o;obtain ⟨z,c,n,r,K,e⟩:=I.lstM i;obtain ⟨L,a,p,w,y,A⟩:=I.lstM m;have f:c.toArray.size+a.toArray.size<=sizeLine:=by rw [Ba,Ba];omega
 have d:¬ (!c.toArray.isEmpty && Builtin.List.listTooLong (c.toArray.size+a.toArray.size))=true:=by
  rw [Nw f,Bool.and_false];exact C6
 refine call_meets F.slot_list_extend ⟨_,e,rfl⟩ F.entry_list_extend (F.args_list_extend_2 _ _)
  (AutoSeq1.list_extend_list_list_0 l c.toArray n b a.toArray p d (by rw [Ba];omega) ⋯) ⟨e,A,?_⟩
 refine ⟨.non,_,I.lset (its':=c++a) i e (by simp) (r.append w) ?_,rfl,q⟩;rw [CL];omega
def WL:V->d8->Hp->VK->Prop:=λx b H Q=>∃ l a y,x=.ref l/\b=[]/\H l=some (.lst a)/\a[a.length - 1]?=some y/\Q y (upd H l (.lst a.dropLast))
def Fx:R2:=λx y H Q=>∃ l b a c,x=.ref l/\y=.ref b/\H l=some (.lst a)/\H b=some (.lst c)/\a.length+c.length<=sizeLine/\∀ p,H p=none->Q (.ref p) (upd H p (.lst (a++c)))
def ID:OpR X (binaryOp .Add) Fx:=by
 intro d s w H x y v u Q I f g h;obtain ⟨l,b,A,B,rfl,rfl,i,j,C,q⟩:=h;cases f;cases g;obtain ⟨z,c,n,r,D,e⟩:=I.lstM i;obtain ⟨E,a,F,k,m,o⟩:=I.lstM j;refine PySem.P.add_list e o ?_ (by rw [Ba,Ba];omega);have p:c.toArray++a.toArray=(c++a).toArray:=by simp
 rw [p];exact ⟨.ref _,_,I.lnew (t':=s.toks) (r.append k) (by rw [CL];omega),rfl,q _ I.fresh⟩
def D7:R2:=λx y H Q=>∃ l k a,x=.ref l/\y=.int k/\H l=some (.lst a)/\-(2 ^ 63)<=k/\k<2 ^ 63/\a.length*k.toNat<=sizeLine/\
 ∀ p,H p=none->Q (.ref p) (upd H p (.lst (List.replicate k.toNat a).flatten))
theorem WM {a:Type} (xs:List a) (k:Nat):(List.replicate k xs).flatten.length=k*xs.length:=by
 induction k with
 | zero=>simp
 | succ k b=>rw [GF,List.flatten_cons,CL,b,Nat.succ_mul,Nat.add_comm]
def Et:OpR X (binaryOp .Mult) D7:=by
 intro p s L H x y v u Q I A B h;obtain ⟨l,k,M,rfl,rfl,C,D,E,w,q⟩:=h;cases A;obtain ⟨t,rfl⟩:=B;obtain ⟨z,b,n,r,G,e⟩:=I.lstM C;have d:b.toArray.size*k.toNat<=sizeLine:=by rw [Ba,<-G];exact w
 have f:¬ b.toArray.size*k.toNat > (2 ^ 63 - 1) / 8:=by
  have:(sizeLine:Nat)<=(2 ^ 63 - 1) / 8:=by decide
  omega
 have g:¬ (!Builtin.List.listFitsIndex k)=true:=by
  rw [fitsIndex_both D E];exact C6
 have c:¬ Builtin.List.listTooLong (b.toArray.size*k.toNat)=true:=by
  rw [Nw d];exact C6
 have i:List.foldl (λj o=>j++o) #[] (List.replicate (if b.toArray.isEmpty=true then 0 else k.toNat) b.toArray)=(List.replicate k.toNat b).flatten.toArray:=by
  have J:∀ m:Nat,List.foldl (λj o=>j++o) #[] (List.replicate m b.toArray)=(List.replicate m b).flatten.toArray:=λm=>by
   have:=Nv b m [];rw [List.nil_append] at this;exact this
  rw [J];cases b with
  | nil=>simp
  | cons a N=>rw [nG (by simp)]
 refine wpAny_binaryOp_repeat_ref (T := "list") (U := "int") ∅ ⟨_,e,rfl⟩ (λK=>typeIs_int K k t) noFill_list_mul F.fills_int_mul F.slot_int_rmul repeat_list F.slot_int_index.lookup
  (call_meets F.slot_int_rmul (typeIs_int s k t) F.entry_int_rmul (F.args_int_rmul_2 _ _) (int___rmul___int_list k t l b.toArray n)
   ⟨e,rfl,⟨_,e,rfl⟩,call_meets F.slot_list_mul ⟨_,e,rfl⟩ F.entry_list_mul (F.args_list_mul_2 _ _) (AutoListH.list___mul___list_int_3 l b.toArray n k t g f c) ⟨e,?_⟩⟩)
 rw [i];exact ⟨.ref _,_,I.lnew (t':=s.toks) (r.rep k.toNat) (by rw [WM,DE];exact w),rfl,q _ I.fresh⟩
end
end L2
namespace Att
open PySem PySem.W PySem.Calls PyProof.Rows
theorem WN {P:Params} {h:Heap}:∀ (ns:de) (c:dh),WellAll P h c (ns.map WData.int)->IntsAre c ns:=by
 intro ns
 induction ns with
 | nil=>
   intro c w;rw [List.map_nil] at w;cases w;exact .nil
 | cons n ns d=>
   intro c w;rw [List.map_cons] at w;cases w with
   | cons a b=>
     cases a;exact .cons _ _ (d _ b)
theorem WO {l:OpenLaw} {n:Nat} (v:l.most=some n) {P:Params} {h:Heap} {b:List WData} {e:dh}
  (f:l.row.toRowW.claim.pre b=true) (m:WellAll P h e b) :
  ∃ a p c,e=[Value.ref a]/\b=[WData.list (c.map WData.int)]/\h.get? a=some { cls:=.type "list", data:=.seq p.toArray }/\IntsAre p c/\c.length<=n:=by
 have o:WShape.hasAll [] b [.list .int]=true:=(pre_splitW f).1;have u:l.pre.holds [] { args:=b }=true:=(pre_splitW f).2;obtain ⟨d,r,rfl,w,x⟩:=hasAllW_cons o;obtain rfl:=hasAllW_nil x;obtain ⟨D,rfl,y⟩:=hasW_list w;obtain ⟨c,rfl⟩:=items_int y
 have g:c.length<=n:=by
  unfold OpenLaw.pre at u
  have j:(WTm.not (.lt (.lit (.int (n:Int))) (.len (.arg 0)))).holds [] { args:=[.list (c.map .int)] }=true:=by
   have j:=(holds_andW u).1;rw [v] at j;exact j
  have k:=condW_of j (w_not (w_lt w_lit (w_len_list (w_arg rfl))));rw [AK] at k;refine Nat.le_of_not_lt λq=>?_;have z:(n:Int)<((c.length:Nat):Int):=by omega
  first
   | (rw [nI z] at k;exact absurd k ∅)
   | (simp at k;omega)
 cases m with
 | cons A B=>
   cases B;cases A with
   | list C i=>exact ⟨_,_,c,rfl,rfl,C,WN c _ i,g⟩
def WP (l:OpenLaw) (a:List WData):l.row.toRowW.claim.post a (.bool true) a=true:=
 postW_of (r:=l.row.toRowW) (X:=(true == true))
  (show WShape.has [] (.bool true) .bool=true by first | rfl | decide | simp [WShape.has,WShape.arms,WShape.armsAll])
  (show (WTm.eq .res (.lit (.bool true))).value [] { args:=a,res:=some (.bool true),after:=a }=some (.bool (true == true)) from w_eq_bool (w_res rfl) w_lit) rfl
def attach_call {l:OpenLaw} {n:Nat} {q:Program} {loose:dE} {XP:(dz)->Heap->Prop} {YP:World->Heap->Prop} {d:DefRec}
  (F:l.most=some n) (v:d.params.defaults=[])
  (call:∀ (w:World) (b s₁:Shared) (m x:dz) (h:Addr) (o:Obj) (pm p c:Value) (a:Addr) (g:dh) (ns:de),
   Ground q loose [] XP w b m x s₁.heap->YP w s₁.heap->
   s₁.heap.get? h=some o->o.data=.func (docDef d.name d.params d.body d.scope pm p c)->s₁.heap.CodeRec p d.name->m d.name=some (.ref h)->
   s₁.heap.get? a=some { cls:=.type "list", data:=.seq g.toArray }->IntsAre g ns->ns.length<=n->s₁.gens=#[]->
   codeAny (model l.prog w) callerA (.call (.ref h) ⟨[.ref a],[]⟩) (λr u=>r=.ok (.ret (.bool true))/\OldK s₁.heap u.heap/\u.os=s₁.os/\AllBare u.gens) s₁) :
  WalkO q loose XP YP l.row.toRowW d [] (λf g=>PySem.call f g):=by
 intro w b s₁ m x G Y h o pm p c H kV I J y B z K C D as i E L A M;obtain rfl:H=.none:=Dflts.none B v;obtain rfl:kV=.none:=Dflts.noKw B;obtain ⟨a,g,ns,rfl,rfl,j,e,k⟩:=WO F i A;refine enter_call (codeAny_mono (call w b s₁ m x h o pm p c a g ns G Y I (fd_plain J) y z j e k K) λr u N=>?_);obtain ⟨rfl,O,P,Q⟩:=N;exact ⟨.inl ⟨.bool true,.bool true,[],rfl,λ_=>rfl,.bool true,WP l _,λ_=>⟨List.Pairwise.nil,λ_ R=>(nomatch R)⟩⟩,O,P,Q⟩
end Att
namespace L2
open PySem PySem.Spec PyProof.Rows
theorem Nx:∀ {a:dh} {ns:de},IntsAre a ns->Vals (ns.map V.int) a
 | _,_,.nil=>.nil
 | _,_,.cons n t h=>.cons ⟨t,rfl⟩ (Nx h)
def bH (H:Hp):Prop:=∀ b,H b=none\/∃ o a,H b=some (.frz o (.lst a))
theorem WQ {P:Program} {w:World} {K:W.Frag} {E Z:dz} {CX:aE} {k:Nat} {fa a:Addr} {fd:FuncData} {x:Str} {sp:Sp} {s₁:Shared} {A:dh} {ns:de}
  (KX:K.In s₁.heap) (G:s₁.heap.Ns mainGlobals E) (i:s₁.heap.Ns builtinsNs Z) (a0:∀ x:Str,x ≠ "__name__" -> Z x=bootBuiltins x) (I:s₁.heap.NoLimit) (f:s₁.heap.NoSeer) (B:(model P w).prog.given.tree=none) (hg:s₁.gens=#[])
  (J:s₁.heap.get? a=some { cls:=.type "list", data:=.seq A.toArray }) (hi:IntsAre A ns) (hl:ns.length<=sizeLine) (hr:Room k callerA)
  (F:∀ j:Heap,K.In j->j.Ns mainGlobals E->FnOk P w K E j CX k fa fd [x] sp) (C:∀ (s:Shared) (u:Value),BindsTo s fd ⟨[u],[]⟩ [(x,u)])
  (a3:∀ H:Hp,bH H->SqL K H a (ns.map V.int)->sp [.ref a] H (λv _=>v=.bl true) λ_ _ _=>False)
  (a4:∀ H e p,CX [] H s₁ (λ_ _ _=>False) e p->False) :
  codeAny (model P w) callerA (.call (.ref fa) ⟨[.ref a],[]⟩) (λr p=>r=.ok (.ret (.bool true))/\OldK s₁.heap p.heap/\p.os=s₁.os/\AllBare p.gens) s₁:=by
 have rv:=Nx hi;have L:=hi.length
 have y:∀ H:Hp,bH H->SqL K H a (ns.map V.int)->HOk P w H s₁.heap->(∀ b,H b≠none->b=a)->(H a≠none->K.lookup a=none)->
   codeAny (model P w) callerA (.call (.ref fa) ⟨[.ref a],[]⟩) (λr p=>r=.ok (.ret (.bool true))/\OldK s₁.heap p.heap/\p.os=s₁.os/\AllBare p.gens) s₁:=by
  intro H hO hS M hA hK;have c:∀ {b:Addr} {o:Obj},s₁.heap.get? b=some o->H b=none->(FB s₁.heap H).get? b=some o:=λe n=>VO e n
  have a5:∀ {b:Addr} {o:Obj} {N:Array DictEntry} {O:Nat},s₁.heap.get? b=some o->o.data=.dict N O->H b=none:=λ{b o N O} e d=>by
   cases q:H b with
   | none=>rfl
   | some u=>
     have Q:b=a:=hA b (by rw [q];simp);subst Q;rw [J] at e;cases e;have X:Data.seq A.toArray _=Data.dict N O:=d;cases X
  have g:∀ {b:Addr} {m:dz},s₁.heap.Ns b m->(FB s₁.heap H).Ns b m:=λ{b m} ⟨o,N,O,e,d,r⟩=>⟨o,N,O,c e (a5 e d),d,r⟩
  have R:K.In (FB s₁.heap H):=λb o e=>c (KX b o e) (by
   cases q:H b with
   | none=>rfl
   | some u=>
     have Q:b=a:=hA b (by rw [q];simp);subst Q;rw [hK (by rw [q];simp)] at e;cases e)
  have hM:Mod K E (FB s₁.heap H):=⟨R,g G,⟨Z,g i,a0⟩,let ⟨D,h1,h2⟩:=I;⟨D,g h1,h2⟩⟩
  have ab:(FB s₁.heap H).NoSeer:=⟨let ⟨D,a,b⟩:=f.statics;⟨D,g a,b⟩,let ⟨D,a,b⟩:=f.mods;⟨D,g a,b⟩,let ⟨D,a,b⟩:=f.imp;⟨D,g a,b⟩,
   let ⟨ac,Y,ob,a',b',c',X,Q⟩:=f.main;⟨ac,Y,ob,g a',b',c c' (by
    cases q:H Y with
    | none=>rfl
    | some u=>
      have z:Y=a:=hA Y (by rw [q];simp);subst z;rw [J] at c';cases c';simp at X),X,Q⟩⟩
  have e0:Env0 P w K E (FB s₁.heap H) callerA [] s₁ H:=⟨rfl,hM,λb o e=>VP e,Nat.le_of_eq (VN _ _),trivial,λb i=>absurd (show b∈([]:dH) from i) (by simp),M,.of_eq hg,ab,B⟩;refine codeAny_mono ((F _ R (g G)).run callerA [] s₁ H ⟨[.ref a],[]⟩ [.ref a] [.ref a] _ _ hr e0 (C s₁ (.ref a)) (.cons rfl .nil) (a3 H hO hS)) λr p h=>?_;cases r with
  | error e=>exact (a4 H e p h).elim
  | ok fl=>
    cases fl with
    | next=>exact False.elim h
    | brk=>exact False.elim h
    | cont=>exact False.elim h
    | ret u=>
      obtain ⟨v,H',os,S,un,T,r',q⟩:=h;have q':v=.bl true:=q;subst q';obtain rfl:u=Value.bool true:=r';refine ⟨rfl,OldK.of_keep λb o e=>?_,os,S⟩;cases q:H b with
      | none=>exact un.keep b o e q (by intro z;exact absurd (show b∈([]:dH) from z) (by simp)) (by simp)
      | some u=>
        rcases hO b with z | ⟨ob,xs,z⟩
        ·rw [q] at z;cases z
        ·have z2:=un.frzs b ob _ z;obtain ⟨e1,_⟩:=M b _ z;obtain ⟨e2,_⟩:=T b _ z2;rw [e] at e1;cases e1;exact e2
 cases hk:K.lookup a with
 | some o=>
   have e:=KX a o hk;rw [J] at e;cases e;refine y (λ_=>none) (λ_=>.inl rfl) (.inr ⟨_,A.toArray,_,hk,rfl,rfl,rfl,by rw [Ba,L];exact hl,by simpa using rv⟩) (λb u z=>by have U:(none:Option HO)=some u:=z;cases U) (λb z=>absurd rfl z) λz=>absurd rfl z
 | none=>
   refine y (λb=>if b=a then some (.frz { cls:=.type "list", data:=.seq A.toArray } (.lst (ns.map V.int))) else none) (λb=>?_) (.inl (.inr ⟨{ cls:=.type "list", data:=.seq A.toArray },nH rfl⟩)) (λb u z=>?_) (λb z=>?_) λ_=>hk
   ·by_cases i:b=a
    ·exact .inr ⟨_,_,nH i⟩
    ·exact .inl (nG i)
   ·by_cases i:b=a
    ·have U:=(nH i).symm.trans z;cases U;subst i;exact ⟨J,by rw [AK];exact hl,A,_,rv,J⟩
    ·have U:=(nG i).symm.trans z;cases U
   ·by_cases i:b=a
    ·exact i
    ·exact absurd (nG i) z
def walk_of {l:W.OpenLaw} {n k:Nat} {q:Program} {loose:dE} {XP:(dz)->Heap->Prop} {YP:World->Heap->Prop} {d:DefRec} {K:Params->W.Frag} {CX:World->aE} {sp:World->Sp} {x:Str}
  (L:l.most=some n) (y:n<=sizeLine) (z:d.params.defaults=[]) (M:importsNone q=true) (g:∀ w,(model l.prog w).prog.given.tree=none) (N:Room k callerA)
  (O:∀ (w:World) (h:Heap),YP w h->(K w.params).In h)
  (F:∀ (w:World) (j:dz) (r:Addr) (h:Heap),(K w.params).In h->h.Ns mainGlobals j->j d.name=some (.ref r)->
   ∃ A:FuncData,(∀ (s:Shared) (u:Value),BindsTo s A ⟨[u],[]⟩ [(x,u)])/\
     ∀ b:Heap,(K w.params).In b->b.Ns mainGlobals j->FnOk l.prog w (K w.params) j b (CX w) k r A [x] (sp w))
  (B:∀ (w:World) (H:Hp) (a:Addr) (ns:de),ns.length<=n->bH H->SqL (K w.params) H a (ns.map V.int)->sp w [.ref a] H (λv _=>v=.bl true) λ_ _ _=>False)
  (C:∀ (w:World) (H:Hp) (s:Shared) (e:Value) (s':Shared),CX w [] H s (λ_ _ _=>False) e s'->False) :
  W.WalkO q loose XP YP l.row.toRowW d [] (λf E=>PySem.call f E):=by
 refine Att.attach_call L z λw I m j Z r o pm cd P a E ns G Y ho hd Q D p i c R=>?_;have J:=O w _ Y;obtain ⟨A,S,T⟩:=F w j r _ J G.T.g D;exact WQ J G.T.g G.T.b G.T.builtins G.T.nolimit (G.T.seer M) (g w) R p i (CF c y) N T S (λH U X=>B w H a ns c U X) λH e s'=>C w H m e s'
noncomputable def inClass (s:Stmt) (j:Nat):Stmt:=match s with
 | .ClassDef _ _ _ a _ _ _ _ _ _ _=>a.getD j (.Pass ⟨0,0,0,0⟩)
 | _=>.Pass ⟨0,0,0,0⟩
noncomputable def Ev (s:Stmt):Arguments:=match s with
 | .FunctionDef _ a _ _ _ _ _ _ _ _=>a
 | _=>{ posonlyargs:=[],args:=[],vararg:=none,kwonlyargs:=[],kw_defaults:=[],kwarg:=none,defaults:=[] }
noncomputable def EQ (s:Stmt):List Stmt:=match s with
 | .FunctionDef _ _ b _ _ _ _ _ _ _=>b
 | _=>[]
noncomputable def DA (s:Stmt):Scope:=match s with
 | .FunctionDef _ _ _ _ _ _ a _ _ _=>a
 | _=>{ kind:=.function,names:=[],isGenerator:=false,isCoroutine:=false }
noncomputable abbrev az:aE:=λ_ _ _ _ _ _=>False
abbrev E0:XK:=λ_ _ _=>False
def Ny {X:Cx}:U_ az X E0:=λ_ _ _ _ _ _ _ h=>h.elim
structure Fun (K:W.Frag) (x qual:Str) (st:Stmt) (f:Addr) (fd:FuncData):Prop where
 ex:∃ (oc:Value) (od:Option Addr) (kV doc pm:Value) (an:Option Addr) (cdv ct:Value) (osl:Array (Option Value)),
  fd=W.fnOf x qual (Ev st) (EQ st) (DA st) .none kV doc pm an cdv ct/\K.lookup f=some ⟨oc,od,.func fd,osl⟩/\W.codeIn K cdv qual=true
 kp:W.keepIn K (.ref f)=true
section
variable {P:Program} {w:World} {K:W.Frag} {mg:dz} {base:Heap}
def Fun.ok {x qual:Str} {st:Stmt} {f:Addr} {i:FuncData} {N ps:dE} {k:Nat} {sp:Sp} (F:Fun K x qual st f i) (S:FnScope N ps (DA st)) (len:∀ c H Q E,sp c H Q E->c.length=ps.length)
  (d:∀ (b:Value) (A:Around) (a:List Env) (s:Shared) (H:Hp) (c:d8) (Q:VK) (E:XK),Room k (A.deeper (envOfC qual (DA st) s.heap.objs.size f b))->sp c H Q E->
   ∃ t,PSs (GP az P w K mg base N qual (DA st) f b A a s H E).nox (EQ st) t/\t { nx:=λ_ j=>Q .non j,rt:=Q } (start N c) H):FnOk P w K mg base az (k+1) f i ps sp:=by
 obtain ⟨r,u,kV,m,v,y,b,z,n,rfl,o,e⟩:=F.ex;refine V6 o e S len λA a s H c Q E p g=>?_;obtain ⟨t,h,q⟩:=d b A a s H c Q E p g;exact ⟨t,h.nox,q⟩
def Fun.binds {x qual:Str} {st:Stmt} {f:Addr} {g:FuncData} {ps:dE} (F:Fun K x qual st f g)
  (h:∀ (kV a pm:Value) (c:Option Addr) (b d:Value) (e:dh),e.length=ps.length->bindArgs (W.fnOf x qual (Ev st) (EQ st) (DA st) .none kV a pm c b d) ⟨e,[]⟩=pure (ps.zip e)):Binds K g ps []:=by
 obtain ⟨k,m,kV,a,pm,c,b,d,i,rfl,n,j⟩:=F.ex;exact .all (h kV a pm c b d)
def N3 {x qual:Str} {st:Stmt} {f:Addr} {h:Value} {i e:Option Addr} {d:Array (Option Value)} {kV b pm a g:Value} (l:K.lookup f=some ⟨h,i,.func (W.fnOf x qual (Ev st) (EQ st) (DA st) .none kV b pm e a g),d⟩)
  (c:W.codeIn K a qual=true) (k:W.keepIn K (.ref f)=true):Fun K x qual st f (W.fnOf x qual (Ev st) (EQ st) (DA st) .none kV b pm e a g):=⟨⟨h,i,kV,b,pm,e,a,g,d,rfl,l,c⟩,k⟩
end
section
variable {X:Cx}
def pv (i:Nat) {x:Str} {a:Pos} (c:X.N[i]?=some x:=by rfl) (d:ca X.env.scope x:=by first | exact Or.inl rfl | exact Or.inr (Or.inl rfl) | exact Or.inr (Or.inr rfl)) (e:(x == ("__debug__" : Str))=false:=by decide)
  (b:(x == ("__classdict__" : Str))=false:=by decide):PE X (.Name x a) (AB i):=VR c d e b
end
def Ah {c A B:Prop} [Decidable c] (a:c->A) (b:¬ c->B):if c then A else B:=by
 by_cases h:c
 ·rw [nH h];exact a h
 ·rw [nG h];exact b h
def Same (H H':Hp):Prop:=∀ b o,H b=some o->H' b=some o
def Same.refl (H:Hp):Same H H:=λ_ _ h=>h
def Same.trans {H d e:Hp} (a:Same H d) (b:Same d e):Same H e:=λc o h=>b c o (a c o h)
theorem Same.free {H H':Hp} (e:Same H H') {l:Addr} (h:H' l=Option.none):H l=Option.none:=by
 cases q:H l with
 | none=>rfl
 | some o=>
   rw [e l o q] at h;cases h
def Same.seq {K:W.Frag} {H H':Hp} {a:Addr} {xs:d8} (e:Same H H') (h:SqL K H a xs):SqL K H' a xs:=by
 rcases h with (h | ⟨o,h⟩) | h
 ·exact .inl (.inl (e _ _ h))
 ·exact .inl (.inr ⟨o,e _ _ h⟩)
 ·exact .inr h
end L2
local macro_rules | `(tactic| omega)=>`(tactic| lia)
namespace Bs.Hd
open PySem PySem.Spec PyProof.Rows L2
set_option maxRecDepth 100000
set_option maxHeartbeats 4000000
noncomputable def top (i:Nat):Stmt:=PySem.Challenge.pw_backslope_k09_whole_factors_by_equations.main.body.getD i (.Pass ⟨0,0,0,0⟩)
noncomputable abbrev WR:Stmt:=top 4
noncomputable abbrev WS:Stmt:=top 5
noncomputable abbrev WT:Stmt:=top 6
noncomputable abbrev WU:Stmt:=top 7
noncomputable abbrev WV:Stmt:=top 8
noncomputable abbrev WW:Stmt:=top 9
noncomputable abbrev WX:Stmt:=top 10
noncomputable abbrev WY:Stmt:=top 11
noncomputable abbrev WZ:Stmt:=top 12
noncomputable abbrev Wa:Stmt:=top 13
noncomputable abbrev Wb:Stmt:=top 14
noncomputable abbrev Wc:Stmt:=top 15
noncomputable abbrev Wd:Stmt:=top 16
noncomputable abbrev We:Stmt:=top 17
noncomputable abbrev Wf:Stmt:=top 18
noncomputable abbrev Wg:Stmt:=top 19
noncomputable abbrev Wj:Stmt:=top 20
noncomputable abbrev Wk:Stmt:=top 21
noncomputable abbrev Wl:Stmt:=top 22
noncomputable abbrev Wm:Stmt:=top 23
noncomputable abbrev Wn:Stmt:=top 24
noncomputable abbrev Wp:Stmt:=top 25
noncomputable abbrev Wr:Stmt:=top 26
noncomputable abbrev Ws:Stmt:=top 27
noncomputable abbrev Wt:Stmt:=top 28
noncomputable abbrev Wu:Stmt:=top 29
noncomputable abbrev Wv:Stmt:=top 30
noncomputable abbrev Ww:Stmt:=top 31
noncomputable abbrev Wx:Stmt:=top 32
noncomputable abbrev Wy:Stmt:=top 34
noncomputable abbrev Wz:Stmt:=top 35
noncomputable abbrev W1:Stmt:=top 37
noncomputable abbrev W2:Stmt:=top 38
noncomputable abbrev W3:Stmt:=top 39
noncomputable abbrev W4:Stmt:=top 40
noncomputable abbrev W5:Stmt:=top 41
noncomputable abbrev W6:Stmt:=top 42
noncomputable abbrev W7:Stmt:=top 43
noncomputable abbrev W8:Stmt:=top 44
noncomputable abbrev W9:Stmt:=top 45
noncomputable abbrev XA:Stmt:=top 47
noncomputable abbrev N6:Stmt:=L2.inClass (top 48) 0
noncomputable abbrev XB:Stmt:=top 49
noncomputable abbrev XC:Stmt:=top 50
noncomputable abbrev XD:Stmt:=top 51
noncomputable abbrev XE:Stmt:=top 52
noncomputable abbrev XF:Stmt:=top 53
noncomputable abbrev XG:Stmt:=top 54
noncomputable abbrev XH:Stmt:=top 55
noncomputable abbrev XI:Stmt:=top 56
noncomputable abbrev XJ:Stmt:=top 57
noncomputable abbrev XM:Stmt:=top 58
noncomputable abbrev XN:Stmt:=top 59
noncomputable abbrev XO:Stmt:=top 60
noncomputable abbrev XQ:Stmt:=top 61
noncomputable abbrev XR:Stmt:=top 63
noncomputable abbrev XS:Stmt:=top 64
noncomputable abbrev XT:Stmt:=top 65
noncomputable abbrev XU:Stmt:=top 67
noncomputable abbrev XV:Stmt:=top 68
noncomputable abbrev XW:Stmt:=top 69
noncomputable abbrev XX:Stmt:=top 70
noncomputable abbrev XY:Stmt:=top 72
noncomputable abbrev XZ:Stmt:=top 73
noncomputable abbrev Xa:Stmt:=top 74
noncomputable abbrev JZ:Stmt:=top 75
noncomputable abbrev N:Value:=.none
noncomputable abbrev S (x:Str) (t:Tok):Value:=.str x t
noncomputable abbrev I (i:Int):Value:=.int i 0
noncomputable abbrev R (a:Addr):Value:=.ref a
noncomputable def D' (P:Params) (k:Str) (t:Tok) (v:Value):DictEntry:=⟨PyData.keyHash P k,.str k t,v⟩
noncomputable def I_ (n:Str) (t:Tok) (l c u:Int) (a:Addr) (b g d e f:Value) (x:Int) (y:Tok):Obj:=⟨.type "code", none,.fields #[S n t,S n (t+1),S "/claim/cut.py" (t+2),I l,I c,I 0,I 0,I u,R a,.bool true,I 181,b,g,d,e,f,I x,I l,S "/claim/cut.py" y],#[]⟩
noncomputable def G_ (n:Str) (s:Stmt) (pm:Value) (c:Addr):Obj:=⟨.type "function", none,.func (W.fnOf n n (Ev s) (EQ s) (DA s) .none .none .none pm none (.ref c) .none),#[]⟩
noncomputable def fnQ (n q:Str) (s:Stmt) (pm:Value) (c:Addr):Obj:=⟨.type "function", none,.func (W.fnOf n q (Ev s) (EQ s) (DA s) .none .none .none pm none (.ref c) .none),#[]⟩
noncomputable abbrev J':Value:=S "backslope.wholes" 187
noncomputable abbrev cJ:Value:=S "backslope.numbers" 447
noncomputable abbrev a6:Value:=S "backslope.polys" 466
noncomputable abbrev P':Value:=S "backslope.linear" 549
noncomputable abbrev V_:Value:=S "law_backslope_k09_whole_factors_by_equations" 688
noncomputable def hp (P:Params):W.Frag:=[
 (3,⟨.type "dict", none,.dict #[D' P "__name__" 165 (S "law_backslope_k09_whole_factors_by_equations" 688),D' P "__doc__" 166 N,D' P "__package__" 167 N,D' P "__loader__" 168 (.builtin "__main__.__loader__#opaque"),D' P "__spec__" 169 N,D' P "__annotations__" 170 (R 6),D' P "__builtins__" 171 (R 4),D' P "__file__" 173 (S "/claim/cut.py" 172),D' P "__cached__" 174 N,D' P "EXPONENTS" 197 (R 15),D' P "FIRST_PRIME" 199 (.int 170141183460469231731687303715884105727 198),D' P "SECOND_PRIME" 201 (.int 2147483647 200),D' P "common_divisor" 210 (R 22),D' P "raised" 220 (R 29),D' P "is_prime" 228 (R 36),D' P "prime_after" 236 (R 43),D' P "other_prime" 243 (R 50),D' P "dot" 249 (R 55),D' P "content" 255 (R 60),D' P "row_trimmed" 263 (R 67),D' P "row_parted" 269 (R 72),D' P "row_over" 283 (R 79),D' P "row_less" 289 (R 84),D' P "row_power" 301 (R 91),D' P "strand_rest" 307 (R 96),D' P "strand_shortened" 313 (R 101),D' P "row_shortened" 320 (R 108),D' P "strand_euclid" 329 (R 115),D' P "inverse_modulo" 343 (R 122),D' P "rests_modulo" 349 (R 127),D' P "row_modulo" 357 (R 134),D' P "monic_modulo" 363 (R 139),D' P "split_modulo" 378 (R 146),D' P "rest_modulo" 387 (R 153),D' P "euclid_modulo" 397 (R 160),D' P "reduced_modulo" 403 (R 165),D' P "swapped" 413 (R 172),D' P "row_cleared" 419 (R 177),D' P "nearest" 428 (R 184),D' P "common_by_prime" 434 (R 189),D' P "row_common" 446 (R 196),D' P "ratio" 457 (R 203),D' P "over" 465 (R 210),D' P "poly" 475 (R 217),D' P "degree" 482 (R 224),D' P "cleared" 488 (R 229),D' P "uncleared" 494 (R 234),D' P "p_split" 511 (R 241),D' P "monic" 517 (R 246),D' P "common" 526 (R 253),D' P "p_at" 538 (R 260),D' P "p_power" 548 (R 267),D' P "solved" 556 (R 272),D' P "Core" 587 (R 287),D' P "width_of" 594 (R 298),D' P "picked" 600 (R 303),D' P "spread" 612 (R 310),D' P "numbers_over" 618 (R 315),D' P "crossed" 624 (R 320),D' P "picked_column" 630 (R 325),D' P "inverse_rows" 636 (R 330),D' P "frees_of" 642 (R 335),D' P "weights_against" 648 (R 340),D' P "settled" 654 (R 345),D' P "solves" 665 (R 352),D' P "guessed" 671 (R 357),D' P "bottom_modulo" 687 (R 364),D' P "_law_box" 699 (R 371),D' P "_law_take" 709 (R 378),D' P "_law_lowest" 719 (R 385),D' P "_law_number" 727 (R 392),D' P "_law_sum" 735 (R 399),D' P "_law_product" 743 (R 406),D' P "_law_poly_of" 751 (R 413),D' P "_law_short" 761 (R 420),D' P "_law_added" 771 (R 427),D' P "_law_multiplied" 784 (R 434),D' P "_law_frees" 796 (R 441),D' P "_law_back" 802 (R 446),D' P "law" 817 (R 453)] 80,#[]⟩),
 (15,⟨.type "tuple", none,.seq #[(.int 61 189),(.int 127 190),(.int 521 191),(.int 1279 192),(.int 4423 193),(.int 9941 194),(.int 21701 195),(.int 44497 196)] 0,#[]⟩),
 (21,I_ "common_divisor" 202 5 2 3 16 (R 17) N (R 18) (R 19) (R 20) 208 209),
 (22,G_ "common_divisor" (top 4) J' 21),
 (28,I_ "raised" 211 11 2 3 23 (R 24) N (R 25) (R 26) (R 27) 218 219),
 (29,G_ "raised" (top 5) J' 28),
 (35,I_ "is_prime" 221 21 1 3 30 (R 31) N (R 32) (R 33) (R 34) 226 227),
 (36,G_ "is_prime" (top 6) J' 35),
 (42,I_ "prime_after" 229 28 1 3 37 (R 38) N (R 39) (R 40) (R 41) 234 235),
 (43,G_ "prime_after" (top 7) J' 42),
 (49,I_ "other_prime" 237 33 1 3 44 (R 45) N (R 46) (R 47) (R 48) 241 242),
 (50,G_ "other_prime" (top 8) J' 49),
 (54,I_ "dot" 244 35 2 3 51 (R 52) N N N (R 53) 247 248),
 (55,G_ "dot" (top 9) J' 54),
 (59,I_ "content" 250 37 2 3 56 (R 57) N N N (R 58) 253 254),
 (60,G_ "content" (top 10) J' 59),
 (66,I_ "row_trimmed" 256 44 1 3 61 (R 62) N (R 63) (R 64) (R 65) 261 262),
 (67,G_ "row_trimmed" (top 11) J' 66),
 (71,I_ "row_parted" 264 49 2 3 68 (R 69) N N N (R 70) 267 268),
 (72,G_ "row_parted" (top 12) J' 71),
 (78,I_ "row_over" 270 51 2 3 73 (R 74) N (R 75) (R 76) (R 77) 281 282),
 (79,G_ "row_over" (top 13) J' 78),
 (83,I_ "row_less" 284 64 5 3 80 (R 81) N N N (R 82) 287 288),
 (84,G_ "row_less" (top 14) J' 83),
 (90,I_ "row_power" 290 70 2 3 85 (R 86) N (R 87) (R 88) (R 89) 299 300),
 (91,G_ "row_power" (top 15) J' 90),
 (95,I_ "strand_rest" 302 78 2 3 92 (R 93) N N N (R 94) 305 306),
 (96,G_ "strand_rest" (top 16) J' 95),
 (100,I_ "strand_shortened" 308 88 1 3 97 (R 98) N N N (R 99) 311 312),
 (101,G_ "strand_shortened" (top 17) J' 100),
 (107,I_ "row_shortened" 314 93 1 3 102 (R 103) N (R 104) (R 105) (R 106) 318 319),
 (108,G_ "row_shortened" (top 18) J' 107),
 (114,I_ "strand_euclid" 321 95 2 3 109 (R 110) N (R 111) (R 112) (R 113) 327 328),
 (115,G_ "strand_euclid" (top 19) J' 114),
 (121,I_ "inverse_modulo" 330 103 2 3 116 (R 117) N (R 118) (R 119) (R 120) 341 342),
 (122,G_ "inverse_modulo" (top 20) J' 121),
 (126,I_ "rests_modulo" 344 117 2 3 123 (R 124) N N N (R 125) 347 348),
 (127,G_ "rests_modulo" (top 21) J' 126),
 (133,I_ "row_modulo" 350 119 2 3 128 (R 129) N (R 130) (R 131) (R 132) 355 356),
 (134,G_ "row_modulo" (top 22) J' 133),
 (138,I_ "monic_modulo" 358 121 2 3 135 (R 136) N N N (R 137) 361 362),
 (139,G_ "monic_modulo" (top 23) J' 138),
 (145,I_ "split_modulo" 364 126 3 3 140 (R 141) N (R 142) (R 143) (R 144) 376 377),
 (146,G_ "split_modulo" (top 24) J' 145),
 (152,I_ "rest_modulo" 379 137 3 3 147 (R 148) N (R 149) (R 150) (R 151) 385 386),
 (153,G_ "rest_modulo" (top 25) J' 152),
 (159,I_ "euclid_modulo" 388 139 3 3 154 (R 155) N (R 156) (R 157) (R 158) 395 396),
 (160,G_ "euclid_modulo" (top 26) J' 159),
 (164,I_ "reduced_modulo" 398 147 2 3 161 (R 162) N N N (R 163) 401 402),
 (165,G_ "reduced_modulo" (top 27) J' 164),
 (171,I_ "swapped" 404 163 3 3 166 (R 167) N (R 168) (R 169) (R 170) 411 412),
 (172,G_ "swapped" (top 28) J' 171),
 (176,I_ "row_cleared" 414 168 4 3 173 (R 174) N N N (R 175) 417 418),
 (177,G_ "row_cleared" (top 29) J' 176),
 (183,I_ "nearest" 420 173 2 3 178 (R 179) N (R 180) (R 181) (R 182) 426 427),
 (184,G_ "nearest" (top 30) J' 183),
 (188,I_ "common_by_prime" 429 176 3 3 185 (R 186) N N N (R 187) 432 433),
 (189,G_ "common_by_prime" (top 31) J' 188),
 (195,I_ "row_common" 435 185 2 3 190 (R 191) N (R 192) (R 193) (R 194) 444 445),
 (196,G_ "row_common" (top 32) J' 195),
 (202,I_ "ratio" 449 195 2 3 197 (R 198) N (R 199) (R 200) (R 201) 455 456),
 (203,G_ "ratio" (top 34) cJ 202),
 (209,I_ "over" 458 200 2 3 204 (R 205) N (R 206) (R 207) (R 208) 463 464),
 (210,G_ "over" (top 35) cJ 209),
 (216,I_ "poly" 468 203 1 3 211 (R 212) N (R 213) (R 214) (R 215) 473 474),
 (217,G_ "poly" (top 37) a6 216),
 (223,I_ "degree" 476 208 1 3 218 (R 219) N (R 220) (R 221) (R 222) 480 481),
 (224,G_ "degree" (top 38) a6 223),
 (228,I_ "cleared" 483 210 1 3 225 (R 226) N N N (R 227) 486 487),
 (229,G_ "cleared" (top 39) a6 228),
 (233,I_ "uncleared" 489 215 2 3 230 (R 231) N N N (R 232) 492 493),
 (234,G_ "uncleared" (top 40) a6 233),
 (240,I_ "p_split" 495 217 2 3 235 (R 236) N (R 237) (R 238) (R 239) 509 510),
 (241,G_ "p_split" (top 41) a6 240),
 (245,I_ "monic" 512 234 1 3 242 (R 243) N N N (R 244) 515 516),
 (246,G_ "monic" (top 42) a6 245),
 (252,I_ "common" 518 236 2 3 247 (R 248) N (R 249) (R 250) (R 251) 524 525),
 (253,G_ "common" (top 43) a6 252),
 (259,I_ "p_at" 527 239 2 3 254 (R 255) N (R 256) (R 257) (R 258) 536 537),
 (260,G_ "p_at" (top 44) a6 259),
 (266,I_ "p_power" 539 247 2 3 261 (R 262) N (R 263) (R 264) (R 265) 546 547),
 (267,G_ "p_power" (top 45) a6 266),
 (271,I_ "solved" 551 258 2 3 268 (R 269) N N N (R 270) 554 555),
 (272,G_ "solved" (top 47) P' 271),
 (297,I_ "width_of" 588 284 1 3 292 (R 293) N (R 294) (R 295) (R 296) 592 593),
 (298,G_ "width_of" (top 49) P' 297),
 (302,I_ "picked" 595 286 2 3 299 (R 300) N N N (R 301) 598 599),
 (303,G_ "picked" (top 50) P' 302),
 (309,I_ "spread" 601 288 3 3 304 (R 305) N (R 306) (R 307) (R 308) 610 611),
 (310,G_ "spread" (top 51) P' 309),
 (314,I_ "numbers_over" 613 293 2 3 311 (R 312) N N N (R 313) 616 617),
 (315,G_ "numbers_over" (top 52) P' 314),
 (319,I_ "crossed" 619 295 1 3 316 (R 317) N N N (R 318) 622 623),
 (320,G_ "crossed" (top 53) P' 319),
 (324,I_ "picked_column" 625 297 2 3 321 (R 322) N N N (R 323) 628 629),
 (325,G_ "picked_column" (top 54) P' 324),
 (329,I_ "inverse_rows" 631 299 2 3 326 (R 327) N N N (R 328) 634 635),
 (330,G_ "inverse_rows" (top 55) P' 329),
 (334,I_ "frees_of" 637 303 2 3 331 (R 332) N N N (R 333) 640 641),
 (335,G_ "frees_of" (top 56) P' 334),
 (339,I_ "weights_against" 643 316 3 3 336 (R 337) N N N (R 338) 646 647),
 (340,G_ "weights_against" (top 57) P' 339),
 (344,I_ "settled" 649 322 4 3 341 (R 342) N N N (R 343) 652 653),
 (345,G_ "settled" (top 58) P' 344),
 (351,I_ "solves" 655 338 3 3 346 (R 347) N (R 348) (R 349) (R 350) 663 664),
 (352,G_ "solves" (top 59) P' 351),
 (356,I_ "guessed" 666 343 2 3 353 (R 354) N N N (R 355) 669 670),
 (357,G_ "guessed" (top 60) P' 356),
 (363,I_ "bottom_modulo" 672 352 3 3 358 (R 359) N (R 360) (R 361) (R 362) 685 686),
 (364,G_ "bottom_modulo" (top 61) P' 363),
 (370,I_ "_law_box" 690 367 2 3 365 (R 366) N (R 367) (R 368) (R 369) 697 698),
 (371,G_ "_law_box" (top 63) V_ 370),
 (377,I_ "_law_take" 700 373 2 3 372 (R 373) N (R 374) (R 375) (R 376) 707 708),
 (378,G_ "_law_take" (top 64) V_ 377),
 (384,I_ "_law_lowest" 710 383 2 3 379 (R 380) N (R 381) (R 382) (R 383) 717 718),
 (385,G_ "_law_lowest" (top 65) V_ 384),
 (398,I_ "_law_sum" 728 397 2 3 393 (R 394) N (R 395) (R 396) (R 397) 733 734),
 (399,G_ "_law_sum" (top 67) V_ 398),
 (405,I_ "_law_product" 736 399 2 3 400 (R 401) N (R 402) (R 403) (R 404) 741 742),
 (406,G_ "_law_product" (top 68) V_ 405),
 (412,I_ "_law_poly_of" 744 401 1 3 407 (R 408) N (R 409) (R 410) (R 411) 749 750),
 (413,G_ "_law_poly_of" (top 69) V_ 412),
 (419,I_ "_law_short" 752 406 2 3 414 (R 415) N (R 416) (R 417) (R 418) 759 760),
 (420,G_ "_law_short" (top 70) V_ 419),
 (433,I_ "_law_multiplied" 772 418 2 3 428 (R 429) N (R 430) (R 431) (R 432) 782 783),
 (434,G_ "_law_multiplied" (top 72) V_ 433),
 (440,I_ "_law_frees" 785 424 2 3 435 (R 436) N (R 437) (R 438) (R 439) 794 795),
 (441,G_ "_law_frees" (top 73) V_ 440),
 (445,I_ "_law_back" 797 436 1 3 442 (R 443) N N N (R 444) 800 801),
 (446,G_ "_law_back" (top 74) V_ 445),
 (452,I_ "law" 803 444 1 3 447 (R 448) N (R 449) (R 450) (R 451) 815 816),
 (453,G_ "law" (top 75) V_ 452),
 (287,⟨.type "type", none,.cls { name := "Core", bases:=[(.type "object")],mro:=[(R 287),(.type "object")],ns:=286,qualname := "Core", hasDict:=true,slotNames:=[],subclasses:=[],abstract:=false,collection:=none,hasDel:=false },#[none,none,(some (S "Core" 557)),(some (S "Core" 565)),(some (.builtin "object.__new__")),(some (.bool true))]⟩),
 (286,⟨.type "dict", none,.dict #[D' P "__module__" 564 (S "backslope.linear" 549),D' P "__firstlineno__" 568 (.int 275 567),D' P "__init__" 574 (R 284),D' P "__static_attributes__" 580 (R 285),D' P "__dict__" 582 (R 288),D' P "__weakref__" 584 (R 289),D' P "__doc__" 585 N] 4,#[]⟩),
 (283,⟨.type "code", none,.fields #[(S "__init__" 569),(S "Core.__init__" 570),(S "/claim/cut.py" 571),(I 277),(I 3),(I 0),(I 0),(I 3),(R 280),(.bool true),(I 181),(R 281),N,N,N,(R 282),(I 572),(I 277),(S "/claim/cut.py" 573)],#[]⟩),
 (284,fnQ "__init__" "Core.__init__" (L2.inClass (top 48) 0) P' 283)]
noncomputable def as:dH:=[3,15,21,22,28,29,35,36,42,43,49,50,54,55,59,60,66,67,71,72,78,79,83,84,90,91,95,96,100,101,107,108,114,115,121,122,126,127,133,134,138,139,145,146,152,153,159,160,164,165,171,172,176,177,183,184,188,189,195,196,202,203,209,210,216,217,223,224,228,229,233,234,240,241,245,246,252,253,259,260,266,267,271,272,297,298,302,303,309,310,314,315,319,320,324,325,329,330,334,335,339,340,344,345,351,352,356,357,363,364,370,371,377,378,384,385,398,399,405,406,412,413,419,420,433,434,440,441,445,446,452,453,287,286,283,284]
noncomputable def vw:Program:=W.view PySem.Challenge.pw_backslope_k09_whole_factors_by_equations [75]
noncomputable def lo:dE:=(["EXPONENTS","FIRST_PRIME","SECOND_PRIME","common_divisor","raised","is_prime","prime_after","other_prime","dot","content","row_trimmed","row_parted","row_over","row_less","row_power","strand_rest","strand_shortened","row_shortened","strand_euclid","inverse_modulo","rests_modulo","row_modulo","monic_modulo","split_modulo","rest_modulo"]:dE)++(["euclid_modulo","reduced_modulo","swapped","row_cleared","nearest","common_by_prime","row_common","ratio","over","poly","degree","cleared","uncleared","p_split","monic","common","p_at","p_power","solved","Core","width_of","picked","spread","numbers_over","crossed"]:dE)++(["picked_column","inverse_rows","frees_of","weights_against","settled","solves","guessed","bottom_modulo","_law_box","_law_take","_law_lowest","_law_number","_law_sum","_law_product","_law_poly_of","_law_short","_law_added","_law_multiplied","_law_frees","_law_back"]:dE)
noncomputable def hk:W.Hook:=W.kHook hp as (λ_=>by kernel_rfl)
def left:W.LeftO PySem.Challenge.pw_backslope_k09_whole_factors_by_equations vw lo (λs=>W.xlAt vw [] s && W.recOk (W.RowW.records (W.OpenRow.toRowW (W.OpenLaw.row PySem.Challenge.rw_backslope_k09_whole_factors_by_equations))) s) hk.obs hk.val 4734:=λw=>by kernel_rfl
def sd:PySem.Challenge.rw_backslope_k09_whole_factors_by_equations.wellSaid=true:=by decide +kernel
end Bs.Hd
namespace Bs
def Bd (n:Nat) (x:Int):Prop:=x.natAbs<2 ^ n
def Bd.mono {m n:Nat} {x:Int} (h:Bd m x) (a:m<=n):Bd n x:=Cv h (E5 ∅ a)
def Bd.le {n:Nat} {x y:Int} (h:Bd n x) (a:y.natAbs<=x.natAbs):Bd n y:=EG a h
def Bd.neg {n:Nat} {x:Int} (h:Bd n x):Bd n (-x):=by unfold Bd at *;rw [Int.natAbs_neg];exact h
def Bd.add {n:Nat} {x y:Int} (h:Bd n x) (h':Bd n y):Bd (n+1) (x+y):=by
 unfold Bd at *;have:=Int.natAbs_add_le x y;rw [Bk];omega
def Bd.sub {n:Nat} {x y:Int} (h:Bd n x) (h':Bd n y):Bd (n+1) (x - y):=by
 rw [Int.sub_eq_add_neg];exact h.add h'.neg
def Bd.mul {m n:Nat} {x y:Int} (h:Bd m x) (h':Bd n y):Bd (m+n) (x*y):=by
 unfold Bd at *;rw [Bv,DX];exact Nat.mul_lt_mul'' h h'
def Fe {x:Int} (a:-18446744073709551616<x) (b:x<18446744073709551616):Bd 64 x:=by
 unfold Bd;have:(2:Nat) ^ 64=18446744073709551616:=by decide
 rw [this];omega
def Bd.log2 {n:Nat} {x:Int} (h:Bd n x) (a:0<n):x.natAbs.log2<n:=by
 unfold Bd at h;rcases Er x.natAbs with b | hp
 ·rw [b];simpa using a
 ·exact (Nat.log2_lt (Nat.ne_of_gt hp)).mpr h
structure Low (t d:Int):Prop where
 pos:0<d
 one:Int.gcd t d=1
def N7 (a b:Int):Int.gcd b (a.fmod b)=Int.gcd a b:=by
 have e:a.fmod b=a - b*a.fdiv b:=Int.fmod_def a b;rw [e];apply Nat.dvd_antisymm
 ·apply Int.dvd_gcd
  ·have f:=E8 b (a - b*a.fdiv b);have g:=EY b (a - b*a.fdiv b);have d:=DF g (Gz (c:=a.fdiv b) f);rw [Int.sub_add_cancel] at d;exact d
  ·exact E8 b _
 ·apply Int.dvd_gcd
  ·exact EY a b
  ·exact Int.dvd_sub (E8 a b) (Gz (EY a b))
def K6 (a:Int) {b:Int} (h:0<=b):Int.gcd b (a % b)=Int.gcd a b:=by
 rw [<-Int.fmod_eq_emod_of_nonneg a h,N7]
def Xb (a:Int) {b:Int} (h:b≠0):(a.fmod b).natAbs<b.natAbs:=by
 rcases Int.lt_or_gt_of_ne h with d | d
 ·rw [Int.fmod_eq_emod];have e:=B9 a h;have f:=Int.emod_lt a h;split
  ·rename_i c;rcases c with c | c
   ·omega
   ·have:a % b=0:=Int.emod_eq_zero_of_dvd c;omega
  ·rename_i c;have:a % b≠0:=λz=>c (.inr (GG z));omega
 ·rw [Int.fmod_eq_emod_of_nonneg a (EH d)];have e:=B9 a h;have f:=CM a d;omega
def K7 {a b s:Int} (m:b≠0) (j:s=if b<0 then -((Int.gcd a b:Nat):Int) else ((Int.gcd a b:Nat):Int)) :
  s≠0/\s.natAbs<=b.natAbs/\Low (a.fdiv s) (b.fdiv s)/\a.fdiv s*b=a*b.fdiv s/\(a.fdiv s).natAbs<=a.natAbs/\(b.fdiv s).natAbs<=b.natAbs:=by
 have w:0<Int.gcd a b:=Int.gcd_pos_of_ne_zero_right a m;have e:s.natAbs=Int.gcd a b:=by rw [j];split <;> simp
 have k:s≠0:=by intro z;rw [z] at e;simp at e;omega
 have p:s∣a:=by
  rw [<-Int.natAbs_dvd,e];exact E8 a b
 have q:s∣b:=by
  rw [<-Int.natAbs_dvd,e];exact EY a b
 obtain ⟨t,rfl⟩:=p;obtain ⟨d,rfl⟩:=q;rw [Int.mul_fdiv_cancel_left _ k,Int.mul_fdiv_cancel_left _ k];have n:d≠0:=by rintro rfl;simp at m
 have o:1<=s.natAbs:=by omega
 have r:Int.gcd t d=1:=by
  rw [Int.gcd_mul_left] at e;have u:s.natAbs*Int.gcd t d=s.natAbs*1:=by omega
  exact Nat.eq_of_mul_eq_mul_left o u
 have v:0<d:=by
  by_cases h:s*d<0
  ·rw [nH h] at j;have f:s<0:=by omega
   rcases Int.lt_or_gt_of_ne n with c | c
   ·have:=Int.mul_pos_of_neg_of_neg f c;omega
   ·exact c
  ·rw [nG h] at j;have g:0<s:=by omega
   rcases Int.lt_or_gt_of_ne n with c | c
   ·have:=Int.mul_neg_of_pos_of_neg g c;omega
   ·exact c
 have i:∀ y:Int,y.natAbs<=(s*y).natAbs:=λy=>by
  rw [Bv];exact Nat.le_mul_of_pos_left _ o
 refine ⟨k,?_,⟨v,r⟩,?_,i t,i d⟩
 ·rw [Bv];exact Nat.le_mul_of_pos_right _ ⋯
 ·ext
def K8 {a b:Int} (f:0<b):Low (a / ((Int.gcd a b:Nat):Int)) (b / ((Int.gcd a b:Nat):Int))/\(a / ((Int.gcd a b:Nat):Int)).natAbs<=a.natAbs/\(b / ((Int.gcd a b:Nat):Int)).natAbs<=b.natAbs/\0<((Int.gcd a b:Nat):Int)/\((Int.gcd a b:Nat):Int)<=b:=by
 have g:0<Int.gcd a b:=Int.gcd_pos_of_ne_zero_right a ⋯;obtain ⟨_,h,c,i,d,e⟩:=K7 (a:=a) (b:=b) (s:=((Int.gcd a b:Nat):Int)) ⋯ (by rw [nG ⋯]);rw [EI _ ⋯,EI _ ⋯] at c;rw [EI _ ⋯] at d e;exact ⟨c,d,e,⋯,⋯⟩
end Bs
namespace Bs
open PySem L2
def Ja (_ j:Int):Prop:=0<j/\Bd 9000 j
def Xc (_ j:Int):Prop:=j≠0/\Bd 9000 j
def Xd (i j:Int):Prop:=0<=j/\j<=1000000/\i.natAbs<2 ^ 64
abbrev BV:R2:=Z_ λi j=>.int (i+j)
abbrev BE:R2:=Z_ λi j=>.int (i - j)
abbrev Am:R2:=rI IntMulOk λi j=>.int (i*j)
abbrev HF:R2:=rI Ja λi j=>.int (i / j)
abbrev K9:R2:=rI Xc λi j=>.int (i.fdiv j)
abbrev CP:R2:=rI (λ_ j=>0<j) λi j=>.int (i % j)
abbrev N8:R2:=rI (λ_ j=>j≠0) λi j=>.int (i.fmod j)
abbrev Xe:R2:=rI Xd λi j=>.int (i ^ j.toNat)
abbrev bQ:R2:=Z_ λi j=>.bl (decide (i<j))
abbrev iLe:R2:=Z_ λi j=>.bl (decide (i<=j))
abbrev ae:R2:=Z_ λi j=>.bl (decide (j<i))
abbrev bI:R2:=Z_ λi j=>.bl (decide (j<=i))
abbrev CH:V->Hp->VK->Prop:=rU λi=>.int (-i)
def gT:R2:=λx y H Q=>∃ p i a v,x=.ref p/\y=.int i/\H p=some (.tup a)/\M_ a i=some v/\Q v H
def gL:R2:=λx y H Q=>∃ p i a v,x=.ref p/\y=.int i/\H p=some (.lst a)/\M_ a i=some v/\Q v H
def gS (K:W.Frag):R2:=λx y H Q=>∃ p i a v,x=.ref p/\y=.int i/\SqL K H p a/\M_ a i=some v/\Q v H
def Ek:d8->Hp->VK->Prop:=λa H Q=>∃ i,a=[.int i]/\Q (.int (if i<0 then -i else i)) H
def HG:d8->Hp->VK->Prop:=λa H Q=>∃ i j,a=[.int i,.int j]/\Q (.int (if j > i then j else i)) H
def Jb:d8->Hp->VK->Prop:=λa H Q=>∃ i j,a=[.int i,.int j]/\Q (.int (if j<i then j else i)) H
def IE:d8->Hp->VK->Prop:=λa H Q=>∃ k,a=[.bl k]/\Q (.int (if k=true then 1 else 0)) H
def Ca:d8->Hp->VK->Prop:=λb H Q=>∃ p a,b=[.ref p]/\H p=some (.tup a)/\Q (.int a.length) H
def BK:d8->Hp->VK->Prop:=λb H Q=>∃ p a,b=[.ref p]/\H p=some (.lst a)/\Q (.int a.length) H
def HH (K:W.Frag):d8->Hp->VK->Prop:=λb H Q=>∃ p a,b=[.ref p]/\SqL K H p a/\Q (.int a.length) H
noncomputable def Xf:Option HO->String->Option Bool
 | some (.tup _),n=>if n = "tuple" then some true else if n = "bool" \/ n = "int" \/ n = "list" then some false else none
 | some (.lst _),n=>if n = "list" then some true else if n = "bool" \/ n = "int" \/ n = "tuple" then some false else none
 | _,_=>none
noncomputable def Jc (H:Hp):V->String->Option Bool
 | .int _,n=>if n = "int" then some true else if n = "bool" \/ n = "tuple" \/ n = "list" then some false else none
 | .bl _,n=>if n = "int" \/ n = "bool" then some true else if n = "tuple" \/ n = "list" then some false else none
 | .ref p,n=>Xf (H p) n
 | _,_=>none
def Xg:d8->Hp->VK->Prop:=λa H Q=>∃ x n b,a=[x,.ty n]/\Jc H x n=some b/\Q (.bl b) H
def Xh (H:Hp) (i:Int):Jc H (.int i) "int" = some true:=rfl
def Xi (H:Hp) (i:Int):Jc H (.int i) "bool" = some false:=rfl
def Xj (H:Hp) (b:Bool):Jc H (.bl b) "bool" = some true:=rfl
noncomputable def N9:V->Bool
 | .int _=>true
 | _=>false
def eqT:R2:=λx y H Q=>∃ a b c d,x=.ref a/\y=.ref b/\H a=some (.tup c)/\H b=some (.tup d)/\c.all N9=true/\d.all N9=true/\Q (.bl (decide (c=d))) H
def ForR (lo:Int) (n:Nat) (g:TG) (f:TS) (D:Ends) (a:St) (H:Hp):Prop:=∃ W:Nat->Nat->St->Hp->Prop,(∃ m,W 0 m a H)/\∀ i m a H,W i m a H->
 ((ad lo n).stop i H/\D.nx a H)\/((ad lo n).go i H/\∃ N:St->Hp->Prop,(∀ b c,N b c->∃ e,e<m/\W (i+1) e b c)/\∀ x c,(ad lo n).yld i H x c->g x a c λd h=>f { D with nx:=N,ct:=N,bk:=D.nx } d h)
def Xk {b:TA} {g:TG} {c:TS} {D:Ends} {a:St} {H:Hp}:Ay (DN b) g c D a H=b a H (λd e=>∃ j:Int,d=[.int j]/\-(2 ^ 62)<=j/\j<2 ^ 62/\ForR 0 j.toNat g c D a e):=rfl
def Xl {b:TA} {g:TG} {c:TS} {D:Ends} {a:St} {H:Hp}:Ay (GN b) g c D a H=b a H (λd e=>∃ i j:Int,d=[.int i,.int j]/\(-(2 ^ 62)<=i/\i<2 ^ 62/\-(2 ^ 62)<=j/\j<2 ^ 62)/\ForR i (j - i).toNat g c D a e):=rfl
def ForR.by {lo:Int} {n:Nat} {g:TG} {c:TS} {D:Ends} {a:St} {H:Hp} (Pv:Nat->St->Hp->Prop) (d:Pv 0 a H)
  (e:∀ i a H,i<n->Pv i a H->g (.int (lo+i)) a H λb f=>c { D with nx:=Pv (i+1),ct:=Pv (i+1),bk:=D.nx } b f) (h:∀ a H,Pv n a H->D.nx a H):ForR lo n g c D a H:=Vc Pv d e h
def ForT (K:W.Frag) (a:Addr) (g:TG) (h:TS) (D:Ends) (b:St) (H:Hp):Prop:=∃ W:Nat->Nat->St->Hp->Prop,(∃ m,W 0 m b H)/\∀ i m b H,W i m b H->
 ((aD K a).stop i H/\D.nx b H)\/((aD K a).go i H/\∃ N:St->Hp->Prop,(∀ c d,N c d->∃ f,f<m/\W (i+1) f c d)/\∀ x d,(aD K a).yld i H x d->g x b d λe j=>h { D with nx:=N,ct:=N,bk:=D.nx } e j)
def ForL (K:W.Frag) (a:Addr) (g:TG) (h:TS) (D:Ends) (b:St) (H:Hp):Prop:=∃ W:Nat->Nat->St->Hp->Prop,(∃ m,W 0 m b H)/\∀ i m b H,W i m b H->
 ((af K a).stop i H/\D.nx b H)\/((af K a).go i H/\∃ N:St->Hp->Prop,(∀ c d,N c d->∃ f,f<m/\W (i+1) f c d)/\∀ x d,(af K a).yld i H x d->g x b d λe j=>h { D with nx:=N,ct:=N,bk:=D.nx } e j)
def Xm {K:W.Frag} {c:TE} {g:TG} {d:TS} {D:Ends} {b:St} {H:Hp}:Ay (IA K c) g d D b H=c b H (λx e=>∃ a,x=.ref a/\(∃ f,SqT K e a f)/\ForT K a g d D b e):=rfl
def Xn {K:W.Frag} {c:TE} {g:TG} {d:TS} {D:Ends} {b:St} {H:Hp}:Ay (BU K c) g d D b H=c b H (λx e=>∃ a,x=.ref a/\(∃ f,SqL K e a f)/\ForL K a g d D b e):=rfl
def ForT.by {K:W.Frag} {a:Addr} {xs:d8} {g:TG} {d:TS} {D:Ends} {b:St} {H:Hp} (Pv:Nat->St->Hp->Prop) (e:Pv 0 b H) (f:∀ i b H,i<=xs.length->Pv i b H->H a=some (.tup xs))
  (j:∀ i x b H,xs[i]?=some x->Pv i b H->g x b H λc k=>d { D with nx:=Pv (i+1),ct:=Pv (i+1),bk:=D.nx } c k) (m:∀ b H,Pv xs.length b H->D.nx b H):ForT K a g d D b H:=
 NW Pv e (λi b H h p=>SqT.of (f i b H h p)) j m
def ForL.by {K:W.Frag} {a:Addr} {xs:d8} {g:TG} {d:TS} {D:Ends} {b:St} {H:Hp} (Pv:Nat->St->Hp->Prop) (e:Pv 0 b H) (f:∀ i b H,i<=xs.length->Pv i b H->SqL K H a xs)
  (h:∀ i x b H,xs[i]?=some x->Pv i b H->g x b H λc j=>d { D with nx:=Pv (i+1),ct:=Pv (i+1),bk:=D.nx } c j) (k:∀ b H,Pv xs.length b H->D.nx b H):ForL K a g d D b H:=
 Vb Pv e f h k
def DJ {c:TT} {e:TS} {D:Ends} {a:St} {H:Hp} (W:Nat->St->Hp->Prop) (m:Nat) (i:W m a H)
  (j:∀ m a H,W m a H->c a H λb f=>if b=true then ∃ N:St->Hp->Prop,(∀ d g,N d g->∃ h,h<m/\W h d g)/\e { D with nx:=N,ct:=N,bk:=D.nx } a f else D.nx a f):Cw c e D a H:=⟨W,⟨m,i⟩,j⟩
def Ff {t u:TS} {D:Ends} {a:St} {H:Hp} (h:t { D with nx:=u D } a H):AH t u D a H:=h
def Kp (p:Addr) (H H':Hp):Prop:=∀ b o,b≠p->H b=some o->H' b=some o
def Kp.trans {p:Addr} {H d e:Hp} (a:Kp p H d) (b:Kp p d e):Kp p H e:=λc o n h=>b c o n (a c o n h)
def Kp.same {p:Addr} {H d e:Hp} (a:Kp p H d) (b:Same d e):Kp p H e:=λc o n h=>b c o (a c o n h)
def Kp.of_same {p:Addr} {H a:Hp} (b:Same H a):Kp p H a:=λc o _ h=>b c o h
def Kp.upd {p:Addr} {H:Hp} {o:HO}:Kp p H (upd H p o):=λb u n h=>by rw [Au n];exact h
def AQ {H:Hp} {p:Addr} (h:H p=none) (o:HO):Same H (upd H p o):=λb u q=>by rw [Au (Ax q h)];exact q
def sz {n:Nat} (h:n<=1000000):n<=sizeLine:=by rw [sizeLine_eq];omega
def El {c:Type} (a b:c):M_ [a,b] 0=some a:=rfl
def Dd {c:Type} (a b:c):M_ [a,b] 1=some b:=rfl
def IF {d:Type} (a b c:d):M_ [a,b,c] 0=some a:=rfl
def LA {d:Type} (a b c:d):M_ [a,b,c] 1=some b:=rfl
def GR {d:Type} (a b c:d):M_ [a,b,c] 2=some c:=rfl
def Xo (a b:Int):scal (.int a) (.int b)=true:=rfl
def Xp (a b:Bool):scal (.bl a) (.bl b)=true:=rfl
def Xq:a8 3 0=some 0:=rfl
def Xr:a8 3 2=some 2:=rfl
end Bs
namespace Bs
open PySem PySem.Spec PyProof.Rows L2
def HI:bootBuiltins "abs" = some (.builtin "abs"):=by decide +kernel
def Aw:bootBuiltins "len" = some (.builtin "len"):=by decide +kernel
def Jd:bootBuiltins "max" = some (.builtin "max"):=by decide +kernel
def LB:bootBuiltins "min" = some (.builtin "min"):=by decide +kernel
def Xs:bootBuiltins "sum" = some (.builtin "sum"):=by decide +kernel
def Xu:bootBuiltins "int" = some (.type "int"):=by decide +kernel
def IG:bootBuiltins "tuple" = some (.type "tuple"):=by decide +kernel
def GS:bootBuiltins "list" = some (.type "list"):=by decide +kernel
def OA:bootBuiltins "enumerate" = some (.type "enumerate"):=by decide +kernel
def Xv:bootBuiltins "zip" = some (.type "zip"):=by decide +kernel
def Xw:bootBuiltins "reversed" = some (.type "reversed"):=by decide +kernel
section
variable {X:Cx}
def OB {n:Nat} {x:Int} (h:Bd n x):Builtin.Int.intBits x<=n:=by
 unfold Builtin.Int.intBits;split
 ·exact AY _
 ·rename_i a
  have b:x.natAbs≠0:=λz=>a (by have e:x=0:=by omega
                               subst e;rfl)
  have:=(Nat.log2_lt b).mpr h;omega
def A7:OpR X (binaryOp .Mult) Am:=b8 λ_ _ _ _ _ _ _ a q=>mul_int q a
def Fy:OpR X (inplaceOp .Mult) Am:=b8 λ_ _ _ _ _ _ _ a q=>imul_int q a
def OC:OpR X (binaryOp .FloorDiv) HF:=b8 λi j _ _ _ _ _ a q=>by
 refine floordiv_int (Ab a.1) ?_ (.inl (PyProof.noPylong_of_log2 (a.2.log2 ∅)));rw [EI i (EH a.1)];exact q
def Xx:OpR X (binaryOp .FloorDiv) K9:=b8 λ_ _ _ _ _ _ _ a q=>floordiv_int a.1 q (.inl (PyProof.noPylong_of_log2 (a.2.log2 ∅)))
def At:bu X gT:=by
 intro a b c s d H x y v u Q I e f h g;obtain ⟨p,i,j,w,k,m,hp,n,q⟩:=h;exact WC a b c s d H x y v u Q I e f ⟨p,j,i,w,k,m,SqT.of hp,n,q⟩ g
def Al:bu X gL:=by
 intro a b c s d H x y v u Q I e f h g;obtain ⟨p,i,j,w,k,m,hp,n,q⟩:=h;exact Np a b c s d H x y v u Q I e f ⟨p,j,i,w,k,m,SqL.of hp,n,q⟩ g
def OD:bu X (gS X.K):=by
 intro a b c s d H x y v u Q I e f h g;obtain ⟨p,i,j,w,k,m,hp,n,q⟩:=h;exact Np a b c s d H x y v u Q I e f ⟨p,j,i,w,k,m,hp,n,q⟩ g
def HJ:Cu X (.builtin "abs") Ek:=Vl
def Je (a:X.calm=true):Cu X (.builtin "max") HG:=Vm a
def OF (a:X.calm=true):Cu X (.builtin "min") Jb:=Vn a
def Xy:Cu X (.type "int") IE:=λa s b H c d Q I r h=>Vo a s b H c d Q I r (.inr h)
def DB:Cu X (.builtin "len") Ca:=λa s b H c d Q I r h=>by
 obtain ⟨p,f,e,hp,q⟩:=h;exact K3 a s b H c d Q I r ⟨p,f,e,.inr (SqT.of hp),q⟩
def Be:Cu X (.builtin "len") BK:=λa s b H c d Q I r h=>by
 obtain ⟨p,f,e,hp,q⟩:=h;exact K3 a s b H c d Q I r ⟨p,f,e,.inl (SqL.of hp),q⟩
def LC:Cu X (.builtin "len") (HH X.K):=λa s b H c d Q I r h=>by
 obtain ⟨p,f,e,hp,q⟩:=h;exact K3 a s b H c d Q I r ⟨p,f,e,.inl hp,q⟩
end
structure Cal (P:Program) (w:World) (K:W.Frag) (mg:dz) (base:Heap) (n:Nat) (x:Str) (ps:dE) (sp:Sp):Prop where
 ex:∃ (f:Addr) (fd:FuncData),FnOk P w K mg base az n f fd ps sp/\Binds K fd ps []/\W.keepIn K (.ref f)=true/\mg x=some (.ref f)
def Cal.pe {X:Cx} {n m:Nat} {x:Str} {ps:dE} {sp:Sp} {e:Expr} {a:dC} {t:TA} {p c:Pos} (C:Cal X.prog X.w X.K X.mg X.base n x ps sp) (h:Room m X.A) (i:n<=m) (j:Gl X x) (o:PA X (e::a) t)
  (d:(x == ("__debug__" : Str))=false:=by decide) (q:starEach (e::a) X.env=(false,eval e X.env)::starEach a X.env:=by rfl) (g:(backTo c (starEach a X.env)).any (·.1)=false:=by rfl) :
  PE X (.Call (.Name x p) (e::a) [] c) (AR sp [] E0 t):=by
 obtain ⟨f,r,F,b,k,m⟩:=C.ex;exact V0 F (h.mono i) j m k b .nil Ny o d q g
end Bs
namespace Bs
open PySem L2
noncomputable def Ch (capt:List (Option Nat)) (a:L2.St):L2.St:=capt.map λo=>o.bind λj=>(a[j]?).join
def A8 (e:TI) (capt:List (Option Nat)) (g:TG) (f:TE):TE:=λc H Q=>e c H λJ h=>∃ (n:Nat) (W:Nat->d8->Hp->Prop),W 0 [] h/\∀ i a H,W i a H->i<=n/\a.length<=sizeLine/\
 ((J.stop i H/\∀ p,H p=none->Q (.ref p) (upd H p (.lst a)))\/(i<n/\J.go i H/\∀ x d,J.yld i H x d->g x (Ch capt c) d λb j=>f b j λy k=>W (i+1) (a++[y]) k))
def CompJ (J:It) (capt:List (Option Nat)) (g:TG) (d:TE) (e:L2.St) (Q:VK) (f:Hp):Prop:=∃ (n:Nat) (W:Nat->d8->Hp->Prop),W 0 [] f/\∀ i a H,W i a H->i<=n/\a.length<=sizeLine/\
 ((J.stop i H/\∀ p,H p=none->Q (.ref p) (upd H p (.lst a)))\/(i<n/\J.go i H/\∀ x c,J.yld i H x c->g x (Ch capt e) c λb h=>d b h λy j=>W (i+1) (a++[y]) j))
section
variable {K:W.Frag} {ta:TA} {tl:TE} {capt:List (Option Nat)} {g:TG} {te:TE} {σ:L2.St} {H:Hp} {Q:VK}
def Xz:A8 (DN ta) capt g te σ H Q=ta σ H (λa b=>∃ j:Int,a=[.int j]/\-(2 ^ 62)<=j/\j<2 ^ 62/\CompJ (ad 0 j.toNat) capt g te σ Q b):=rfl
def X1:A8 (GN ta) capt g te σ H Q=ta σ H (λa b=>∃ i j:Int,a=[.int i,.int j]/\(-(2 ^ 62)<=i/\i<2 ^ 62/\-(2 ^ 62)<=j/\j<2 ^ 62)/\CompJ (ad i (j - i).toNat) capt g te σ Q b):=rfl
def X2:A8 (IA K tl) capt g te σ H Q=tl σ H (λx b=>∃ a,x=.ref a/\(∃ c,SqT K b a c)/\CompJ (aD K a) capt g te σ Q b):=rfl
def X3:A8 (BU K tl) capt g te σ H Q=tl σ H (λx b=>∃ a,x=.ref a/\(∃ c,SqL K b a c)/\CompJ (af K a) capt g te σ Q b):=rfl
def CompJ.range {lo:Int} {n:Nat} (W:Nat->d8->Hp->Prop) (d:W 0 [] H) (b:∀ i a H,W i a H->i<=n/\a.length<=sizeLine)
  (f:∀ i a H,i<n->W i a H->g (.int (lo+i)) (Ch capt σ) H λc j=>te c j λy k=>W (i+1) (a++[y]) k) (m:∀ a H,W n a H->∀ p,H p=none->Q (.ref p) (upd H p (.lst a))):CompJ (ad lo n) capt g te σ Q H:=by
 refine ⟨n,W,d,λi a H w=>⟨(b i a H w).1,(b i a H w).2,?_⟩⟩;by_cases h:i<n
 ·refine .inr ⟨h,h,λx o y=>?_⟩;obtain ⟨e,y⟩:=y;subst e y;exact f i a _ h w
 ·have e:i=n:=E9 (b i a H w).1 (Nat.not_lt.mp h);subst e;exact .inl ⟨AV _,m a H w⟩
def CompJ.tup {a:Addr} {xs:d8} (W:Nat->d8->Hp->Prop) (f:W 0 [] H) (c:∀ i b H,W i b H->i<=xs.length/\b.length<=sizeLine/\H a=some (.tup xs))
  (j:∀ i x b H,xs[i]?=some x->W i b H->g x (Ch capt σ) H λd k=>te d k λy m=>W (i+1) (b++[y]) m) (n:∀ b H,W xs.length b H->∀ p,H p=none->Q (.ref p) (upd H p (.lst b))):CompJ (aD K a) capt g te σ Q H:=by
 refine ⟨xs.length,W,f,λi b H w=>⟨(c i b H w).1,(c i b H w).2.1,?_⟩⟩;have q:SqT K H a xs:=SqT.of (c i b H w).2.2;by_cases h:i<xs.length
 ·refine .inr ⟨h,⟨xs,xs[i],q,by simp [h]⟩,λx o y=>?_⟩;obtain ⟨e,y⟩:=y;subst e;exact j i x b _ (y xs q) w
 ·have e:i=xs.length:=E9 (c i b H w).1 (Nat.not_lt.mp h);subst e;exact .inl ⟨⟨xs,q,AV _⟩,n b H w⟩
def CompJ.lst {a:Addr} {xs:d8} (W:Nat->d8->Hp->Prop) (f:W 0 [] H) (c:∀ i b H,W i b H->i<=xs.length/\b.length<=sizeLine/\SqL K H a xs)
  (j:∀ i x b H,xs[i]?=some x->W i b H->g x (Ch capt σ) H λd k=>te d k λy m=>W (i+1) (b++[y]) m) (n:∀ b H,W xs.length b H->∀ p,H p=none->Q (.ref p) (upd H p (.lst b))):CompJ (af K a) capt g te σ Q H:=by
 refine ⟨xs.length,W,f,λi b H w=>⟨(c i b H w).1,(c i b H w).2.1,?_⟩⟩;have q:SqL K H a xs:=(c i b H w).2.2;by_cases h:i<xs.length
 ·refine .inr ⟨h,⟨xs,xs[i],q,by simp [h]⟩,λx o y=>?_⟩;obtain ⟨e,y⟩:=y;subst e;exact j i x b _ (y xs q) w
 ·have e:i=xs.length:=E9 (c i b H w).1 (Nat.not_lt.mp h);subst e;exact .inl ⟨⟨xs,q,AV _⟩,n b H w⟩
end
noncomputable def GT (K:W.Frag) (a:Addr):It:=
 ⟨λi H=>∃ b x,SqL K H a b/\b[i]?=some x,λi H v c=>∃ p x,H p=none/\v=.ref p/\c=upd H p (.tup [.int i,x])/\∀ b,SqL K H a b->b[i]?=some x,λi H=>∃ b,SqL K H a b/\b.length<=i⟩
noncomputable def Jf (K:W.Frag) (a:Addr):It:=
 ⟨λi H=>∃ b x,SqT K H a b/\b[i]?=some x,λi H v c=>∃ p x,H p=none/\v=.ref p/\c=upd H p (.tup [.int i,x])/\∀ b,SqT K H a b->b[i]?=some x,λi H=>∃ b,SqT K H a b/\b.length<=i⟩
def Fz (K:W.Frag) (c:TA):TI:=λd H R=>c d H λe b=>∃ a,e=[.ref a]/\(∃ f,SqL K b a f)/\R (GT K a) b
def Jg (K:W.Frag) (c:TA):TI:=λd H R=>c d H λe b=>∃ a,e=[.ref a]/\(∃ f,SqT K b a f)/\R (Jf K a) b
def ForJ (J:It) (g:TG) (f:TS) (D:Ends) (a:L2.St) (H:Hp):Prop:=∃ W:Nat->Nat->L2.St->Hp->Prop,(∃ m,W 0 m a H)/\∀ i m a H,W i m a H->
 (J.stop i H/\D.nx a H)\/(J.go i H/\∃ N:L2.St->Hp->Prop,(∀ b c,N b c->∃ e,e<m/\W (i+1) e b c)/\∀ x c,J.yld i H x c->g x a c λd h=>f { D with nx:=N,ct:=N,bk:=D.nx } d h)
section
variable {K:W.Frag} {ta:TA} {g:TG} {tb:TS} {D:Ends} {σ:L2.St} {H:Hp} {a:Addr} {xs:d8}
def X4:Ay (Fz K ta) g tb D σ H=ta σ H (λc b=>∃ a,c=[.ref a]/\(∃ xs,SqL K b a xs)/\ForJ (GT K a) g tb D σ b):=rfl
def X5:Ay (Jg K ta) g tb D σ H=ta σ H (λc b=>∃ a,c=[.ref a]/\(∃ xs,SqT K b a xs)/\ForJ (Jf K a) g tb D σ b):=rfl
def X6 {capt:List (Option Nat)} {b:TE} {Q:VK}:A8 (Fz K ta) capt g b σ H Q=ta σ H (λd c=>∃ a,d=[.ref a]/\(∃ xs,SqL K c a xs)/\CompJ (GT K a) capt g b σ Q c):=rfl
def ForJ.enumL (Pv:Nat->L2.St->Hp->Prop) (d:Pv 0 σ H) (f:∀ i σ H,i<=xs.length->Pv i σ H->SqL K H a xs)
  (h:∀ i x p σ H,xs[i]?=some x->Pv i σ H->H p=none->g (.ref p) σ (upd H p (.tup [.int i,x])) λb j=>tb { D with nx:=Pv (i+1),ct:=Pv (i+1),bk:=D.nx } b j) (k:∀ σ H,Pv xs.length σ H->D.nx σ H):ForJ (GT K a) g tb D σ H:=by
 refine ⟨λi m σ H=>m=xs.length - i/\i<=xs.length/\Pv i σ H,⟨xs.length,by simp,AY _,d⟩,?_⟩;rintro i m σ H ⟨rfl,n,pv⟩;have q:=f i σ H n pv;by_cases c:i<xs.length
 ·refine .inr ⟨⟨xs,xs[i],q,by simp [c]⟩,Pv (i+1),λo r u=>⟨xs.length - (i+1),⋯,rfl,c,u⟩,λx r y=>?_⟩;obtain ⟨p,v,hp,rfl,rfl,y⟩:=y;exact h i v p σ _ (y xs q) pv hp
 ·have e:i=xs.length:=by omega
  subst e;exact .inl ⟨⟨xs,q,AV _⟩,k σ H pv⟩
def ForJ.enumT (Pv:Nat->L2.St->Hp->Prop) (d:Pv 0 σ H) (f:∀ i σ H,i<=xs.length->Pv i σ H->H a=some (.tup xs))
  (h:∀ i x p σ H,xs[i]?=some x->Pv i σ H->H p=none->g (.ref p) σ (upd H p (.tup [.int i,x])) λb j=>tb { D with nx:=Pv (i+1),ct:=Pv (i+1),bk:=D.nx } b j) (k:∀ σ H,Pv xs.length σ H->D.nx σ H):ForJ (Jf K a) g tb D σ H:=by
 refine ⟨λi m σ H=>m=xs.length - i/\i<=xs.length/\Pv i σ H,⟨xs.length,by simp,AY _,d⟩,?_⟩;rintro i m σ H ⟨rfl,n,pv⟩;have q:SqT K H a xs:=SqT.of (f i σ H n pv);by_cases c:i<xs.length
 ·refine .inr ⟨⟨xs,xs[i],q,by simp [c]⟩,Pv (i+1),λo r u=>⟨xs.length - (i+1),⋯,rfl,c,u⟩,λx r y=>?_⟩;obtain ⟨p,v,hp,rfl,rfl,y⟩:=y;exact h i v p σ _ (y xs q) pv hp
 ·have e:i=xs.length:=by omega
  subst e;exact .inl ⟨⟨xs,q,AV _⟩,k σ H pv⟩
end
end Bs
namespace Bs
open PySem PySem.Spec PyProof.Rows L2
noncomputable def Q_ (X:Cx) (N:dE) (a:Scope) (e:List (Str×Addr)) (C:Addr) (s:Shared) (H:Hp) (f:dH):Cx:=
 { X with N:=N,s₀:=s,H₀:=H,env:=compEnvC a e C X.env,outer:=X.stack,stack:=X.stack,ex:=f,fn:=λ_=>false,pn:=[],xe:=λ_ _=>False }
structure BlkOk (X:Cx) (N:dE) (capt:List (Option Nat)) (scope:Scope) (cl:List (Str×Addr)):Prop where
 kind:scope.kind=.function
 clos:closureFor scope X.env=pure cl
 nocell:∀ y∈scope.names,y.2≠.cell
 names:∀ y∈scope.names,y.2=.local->scope.names.lookup y.1=some .local
 cells:∀ y c,cl.lookup y=some c->X.env.cells.lookup y=some c
 has:∀ y,((relabel scope X.env).names.lookup y=some .cell\/(relabel scope X.env).names.lookup y=some .free)->∃ c,cl.lookup y=some c
 cap:∀ (i:Nat) (x:Str) (j:Nat),N[i]?=some x->capt[i]?=some (some j)->X.N[j]?=some x/\ca X.env.scope x/\X.env.kindOf x≠some .local/\((relabel scope X.env).names.lookup x=some .cell\/(relabel scope X.env).names.lookup x=some .free)
 len:capt.length=N.length
section
variable {X:Cx} {pins:dq} {σ:L2.St} {H:Hp} {s:Shared} {N:dE} {capt:List (Option Nat)} {scope:Scope} {cl:List (Str×Addr)} {C:Addr} {fp:dH}
def OG (B:BlkOk X N capt scope cl) (I:Inv X pins σ H s) (d:∀ b∈fp,Dp X pins H b) (g:∀ b∈fp,b<s.heap.objs.size) (f:s.heap.objs.size<=C):(Q_ X N scope cl C s H fp).Ok where
 mod:=I.ok.mod
 kind:=B.kind
 glob:=I.ok.glob
 blt:=I.ok.blt
 above:=f
 inj:=λx y c i j=>I.ok.inj x y c (B.cells x c i) (B.cells y c j)
 has:=λx h=>B.has x h
 cab:=λ_ _ h=>nomatch h
 hd:=I.ok.hd
 frames:=I.ok.frames
 stk:=.inl rfl
 exf:=λb a=>⟨λe=>absurd (Cv (g b a) f) (by rw [show b=C from e];exact Dw _),λx c e=>(d b a).2.2.2.2.1 x c (B.cells x c e)⟩
 bs:=I.bs
 bsz:=CF I.ok.bsz I.sz
 noex:=λb o e a=>by
  rcases (d b a).2.2.2.1 with z | z
  ·exact I.ok.noex b o e z
  ·exact absurd (Cv (nU e) (CF I.ok.bsz z)) (Dw _)
 exfs:=λb a k=>by
  rcases Ep.mp (I.stkSub b k) with z | z
  ·exact (d b a).2.1 z
  ·exact (d b a).2.2.1 z
 funs:=I.stack
 frf:=I.stkFree
 seer:=I.ok.seer
 tree:=I.ok.tree
 plr:=I.ok.plr
def X7 (B:BlkOk X N capt scope cl) (I:Inv X pins σ H s) (E:∀ b∈fp,Dp X pins H b) (F:∀ b∈fp,b<s.heap.objs.size) (y:s.heap.objs.size<=C) {g:Heap} {m:dz} {tk:Nat}
  (G:g.Ns C m) (hk:∀ b o,s.heap.get? b=some o->g.get? b=some o):Inv (Q_ X N scope cl C s H fp) [] (Ch capt σ) H { s with heap:=g,toks:=tk } where
 ok:=OG B I E F y
 os:=rfl
 bare:=I.bare
 base:=Un.kept hk
 loc:=by
  refine ⟨m,G,λi x v J K U=>?_⟩;have a:(capt.map λo=>o.bind λj=>(σ[j]?).join)[i]?=some (some v):=K;rw [Aa] at a;cases h:capt[i]? with
  | none=>rw [h] at a;cases a
  | some o=>
    rw [h] at a;cases o with
    | none=>cases a
    | some j=>
      have f:(σ[j]?).join=some v:=nR a;obtain ⟨L,M,O,D⟩:=B.cap i x j J h
      have P:σ[j]?=some (some v):=by
       cases q:σ[j]? with
       | none=>rw [q] at f;cases f
       | some w=>rw [q] at f;exact congrArg some f
      obtain ⟨W,_,Q⟩:=I.loc;obtain ⟨u,r,l⟩:=Q j x v L P M;refine ⟨u,r,.inr ⟨D,?_⟩⟩;rcases l with ⟨l,_⟩ | ⟨_,c,R,S⟩
      ·exact absurd l O
      ·obtain ⟨T,d⟩:=B.has x D;have:=B.cells x T d;rw [R] at this;cases this;obtain ⟨o,k,n⟩:=S;exact ⟨c,d,o,hk c o k,n⟩
 cell:=λx c e=>by
  obtain ⟨v,o,k,n⟩:=I.cell x c (B.cells x c e);exact ⟨v,o,hk c o k,n⟩
 free:=I.hok.fresh y
 freeC:=λx c e=>I.freeC x c (B.cells x c e)
 pin:=λp hp=>nomatch hp
 hok:=I.hok.kept hk
 len:=by show (capt.map _).length=N.length;rw [AK];exact B.len
def OH {h:L2.St} {p:Hp} {y:Shared} {d:dq} (B:BlkOk X N capt scope cl) (I:Inv X pins σ H s) (A:∀ b∈fp,Dp X pins H b) (e:Inv (Q_ X N scope cl C s H fp) d h p y):Inv (Q_ X N scope cl C s H fp) d (Ch capt σ) p y:=
 ⟨e.ok,e.os,e.bare,e.base,by
  obtain ⟨m,D,_⟩:=e.loc;refine ⟨m,D,λi x v E F T=>?_⟩;have a:(capt.map λo=>o.bind λj=>(σ[j]?).join)[i]?=some (some v):=F;rw [Aa] at a;cases k:capt[i]? with
  | none=>rw [k] at a;cases a
  | some o=>
    rw [k] at a;cases o with
    | none=>cases a
    | some j=>
      have g:(σ[j]?).join=some v:=nR a;obtain ⟨G,J,K,z⟩:=B.cap i x j E k
      have L:σ[j]?=some (some v):=by
       cases q:σ[j]? with
       | none=>rw [q] at g;cases g
       | some w=>rw [q] at g;exact congrArg some g
      obtain ⟨U,_,M⟩:=I.loc;obtain ⟨u,r,l⟩:=M j x v G L J;refine ⟨u,r,.inr ⟨z,?_⟩⟩;rcases l with ⟨l,_⟩ | ⟨_,c,n,O⟩
      ·exact absurd l K
      ·obtain ⟨P,f⟩:=B.has x z;have:=B.cells x P f;rw [n] at this;cases this;obtain ⟨o,Q,R⟩:=O;obtain ⟨W,hk⟩:=e.base.any Q (I.freeC x c n) λS=>(A c S).2.2.2.2.1 x c n rfl;exact ⟨c,f,_,hk,R⟩,e.cell,e.free,e.freeC,e.pin,e.hok,by show (capt.map _).length=N.length;rw [AK];exact B.len⟩
theorem Jh {a b:Type} [BEq a] [LawfulBEq a]:∀ {l:List (a×b)} {y:a} {c:b},l.lookup y=some c->(y,c)∈l
 | (k,v)::l,y,c,h=>by
   rw [List.lookup_cons] at h;cases e:y == k with
   | true=>
     rw [e] at h;cases h;rw [eq_of_beq e];exact DK ..
   | false=>
     rw [e] at h;exact DW _ (Jh h)
def BlkOk.of (k:scope.kind=.function) (c:closureFor scope X.env=pure cl) (o:(scope.names.all λy=>y.2 != .cell)=true) (p:(scope.names.all λy=>y.2 != .local || scope.names.lookup y.1 == some .local)=true)
  (cs:∀ b∈cl,X.env.cells.lookup b.1=some b.2) (r:((relabel scope X.env).names.all λb=>(b.2 != .cell && b.2 != .free) || (cl.lookup b.1).isSome)=true)
  (u:((List.range N.length).all λi=>match N[i]?,capt[i]? with
   | some x,some (some j)=>X.N[j]? == some x && (X.env.scope.names.lookup x == some .cell || X.env.scope.names.lookup x == some .free) && ((relabel scope X.env).names.lookup x == some .cell || (relabel scope X.env).names.lookup x == some .free)
   | _,_=>true)=true) (v:capt.length=N.length):BlkOk X N capt scope cl where
 kind:=k
 clos:=c
 nocell:=λy f e=>by
  have z:=List.all_eq_true.mp o y f;rw [e] at z;exact absurd z ∅
 names:=λy f e=>by
  have z:=List.all_eq_true.mp p y f;rw [e] at z;simpa using z
 cells:=λy c h=>cs (y,c) (Jh h)
 has:=λy h=>by
  have m:∃ d,(y,d)∈(relabel scope X.env).names/\(d=.cell\/d=.free):=by
   rcases h with h | h
   ·exact ⟨_,Jh h,.inl rfl⟩
   ·exact ⟨_,Jh h,.inr rfl⟩
  obtain ⟨d,m,e⟩:=m;have z:=List.all_eq_true.mp r _ m
  have a:(cl.lookup y).isSome=true:=by
   rcases e with rfl | rfl
   ·simpa using z
   ·simpa using z
  exact Option.isSome_iff_exists.mp a
 cap:=λi x j g w=>by
  have li:i<N.length:=(BF.mp g).1;have z:=List.all_eq_true.mp u i (C5.mpr li);rw [g,w] at z;simp only [Bool.and_eq_true,Bool.or_eq_true,beq_iff_eq] at z;obtain ⟨⟨A,a⟩,B⟩:=z;refine ⟨A,.inr a,λq=>?_,B⟩;have n:X.env.scope.names.lookup x=some .local:=q;rcases a with a | a <;> (rw [a] at n;cases n)
 len:=v
end
open PySem.AutoSeq1 (wpAny_loadPart')
section
variable {prog:Program} {w:World} {A:Around} {E:dj} {s:Shared} {e it t:Addr} {i:Nat} {zs:Array Value}
def X8 {x:Value} {Q:dj} (si:s.heap.IsTupleIter it t i) (st:s.heap.IsTuple t zs) (d:zs[i]?=some x)
  (f:∀ g,g.IsTupleIter it t (i+1)->Heap.SameBut it s.heap g->Q x { s with heap:=g }):wpAny (model prog w) A (Builtin.SmallTypes.nextOf (.ref it)) Q E s:=by
 obtain ⟨m,b,h,a⟩:=id si;obtain ⟨n,j,_,o,k⟩:=st;unfold Builtin.SmallTypes.nextOf;refine nO (wpAny_callSpecial?_slot (name:=Str.ofString "__next__") si.typeIs F.slot_tuple_iterator_next (wpAny_call_entry F.slot_tuple_iterator_next si.typeIs F.entry_tuple_iterator_next ?_ (F.args_tuple_iterator_next_1 _)));show wpAny _ _ (field (.ref it) 0 >>= _) _ _ s;refine nO (wpAny_field b a (x:=.ref t) rfl ?_);show wpAny _ _ (if (Value.ref t == Value.none)=true then _ else _) _ _ s;rw [nG (λq:(Value.ref t == Value.none)=true=>C6 q)];show wpAny _ _ (field (.ref it) 1 >>= _) _ _ s;refine nO (wpAny_field b a (x:=.int i 0) rfl ?_);show wpAny _ _ (seqItems? (.ref t) >>= _) _ _ s;refine nO (wpAny_seqItems j k ?_);simp only [Bg,d];refine nO (wpAny_setField b a (by simp) (nP ⟨x,rfl,nP (f _ ⟨_,Heap.get?_update_self _ b (Obj.isFreed_of_fields (Obj.data_mapFields a _)),(Obj.cls_mapFields ..).trans h,?_⟩ (Heap.SameBut.update ..))⟩));rw [Obj.data_mapFields a];simp [rawInt]
def X9 {Q:dj} (d:A.handled=none) (si:s.heap.IsTupleIter it t i) (st:s.heap.IsTuple t zs) (h:zs[i]?=none)
  (j:∀ g x,Heap.ExtBut it s.heap g->(∃ o,g.get? x=some o/\o.cls=.type "StopIteration")->E (.ref x) { s with heap:=g }):wpAny (model prog w) A (Builtin.SmallTypes.nextOf (.ref it)) Q E s:=by
 obtain ⟨p,b,r,c⟩:=id si;obtain ⟨u,k,_,v,n⟩:=st;unfold Builtin.SmallTypes.nextOf;refine nO (wpAny_callSpecial?_slot (name:=Str.ofString "__next__") si.typeIs F.slot_tuple_iterator_next (wpAny_call_entry F.slot_tuple_iterator_next si.typeIs F.entry_tuple_iterator_next ?_ (F.args_tuple_iterator_next_1 _)));show wpAny _ _ (field (.ref it) 0 >>= _) _ _ s;refine nO (wpAny_field b c (x:=.ref t) rfl ?_);show wpAny _ _ (if (Value.ref t == Value.none)=true then _ else _) _ _ s;rw [nG (λq:(Value.ref t == Value.none)=true=>C6 q)];show wpAny _ _ (field (.ref it) 1 >>= _) _ _ s;refine nO (wpAny_field b c (x:=.int i 0) rfl ?_);show wpAny _ _ (seqItems? (.ref t) >>= _) _ _ s;refine nO (wpAny_seqItems k n ?_);simp only [Bg,h];refine nO (wpAny_rule (nO (wpAny_setField b c (by simp) (nO ?_))));simp only [newExc,newTuple];refine nO (wpAny_newObj_type (nO (m:=firstArgMember _ _) (wpAny_of_eq (a:=Value.none) (by first | rfl | (simp only [firstArgMember];rfl)) (wpAny_newObj_type ?_ (by size_fits)))) (by size_fits));simp only [raiseNew];refine nO (wpAny_handled ?_)
 first
  | rw [show A.in1.handled=none from d]
  | rw [d]
 exact nO (nP (wpAny_throw (j _ _ (((Heap.SameBut.update ..).extBut.push _).push _) ⟨_,Heap.get?_push_size _ rfl,rfl⟩)))
def YA {x a:Value} {Q:dj} (J:IsEnum s.heap e it i a) (si:s.heap.IsTupleIter it t i) (st:s.heap.IsTuple t zs) (hx:zs[i]?=some x) (z:e≠it)
  (hQ:∀ g,IsEnumOut g e it ((i:Int)+1) x s.heap.objs.size->g.IsTupleIter it t (i+1)->g.get? s.heap.objs.size=some { cls:=.type "tuple", data:=.seq #[.int i s.toks,x] }->
   (∀ b o,b≠e->b≠it->s.heap.get? b=some o->g.get? b=some o)->Q (.ref s.heap.objs.size) { s with heap:=g,toks:=s.toks+1 }) :
  wpAny (model prog w) A (Builtin.«enumerate.__next__» ⟨[.ref e],[]⟩) (λK s'=>∃ v,K=.done (.ret v)/\Q v s') E s:=by
 obtain ⟨f,h,j,c,os⟩:=s;show wpAny _ _ (field (.ref e) 2 >>= _) _ _ _;refine nO (wpAny_field J rfl (x:=.ref it) rfl ?_);refine nO (X8 si st hx λk i1 n=>?_);replace n:Heap.SameBut it f k:=n;have B:IsEnum k e it i a:=(n.2 e z).trans J;show wpAny _ _ (field (.ref e) 3 >>= _) _ _ ⟨k,h,j,c,os⟩;refine nO (wpAny_field B rfl (x:=rawInt i) rfl ?_);show wpAny _ _ (field (.ref e) 4 >>= _) _ _ ⟨k,h,j,c,os⟩;refine nO (wpAny_field B rfl (x:=.none) rfl ?_);show wpAny _ _ (mkInt i >>= _) _ _ ⟨k,h,j,c,os⟩;refine nO (wpAny_mkInt ?_);show wpAny _ _ (setField (.ref e) 3 (rawInt ((i:Int)+1)) >>= _) _ _ ⟨k,h,j,c+1,os⟩;refine nO (wpAny_setField_rec B (by simp) λu C p=>?_);replace p:Heap.SameBut e k u:=p;replace C:IsEnum u e it ((i:Int)+1) a:=C;show wpAny _ _ (setField (.ref e) 4 .none >>= _) _ _ ⟨u,h,j,c+1,os⟩;refine nO (wpAny_setField_rec C (by simp) λm D q=>?_);replace q:Heap.SameBut e u m:=q;replace D:IsEnum m e it ((i:Int)+1) a:=D;show wpAny _ _ (newTuple [.int i c,x] >>= _) _ _ ⟨m,h,j,c+1,os⟩;refine nO (wpAny_newTuple ?_);have F:IsEnum (m.push { cls:=.type "tuple", data:=.seq #[.int i c,x] }) e it ((i:Int)+1) a:=Heap.get?_push_of_some _ D;generalize G:m.push { cls:=.type "tuple", data:=.seq #[.int i c,x] }=r at F;have L:m.objs.size=f.objs.size:=by rw [q.1,p.1,n.1]
 have le:e<f.objs.size:=nU J;have t4:r.get? f.objs.size=some { cls:=.type "tuple", data:=.seq #[.int i c,x] }:=by rw [<-G,<-L];exact Heap.get?_push_size _ rfl
 have k4:∀ b o,b≠e->b≠it->f.get? b=some o->r.get? b=some o:=λb o d y M=>by
  rw [<-G];exact Heap.get?_push_of_some _ (q.extBut b o d (p.extBut b o d (n.extBut b o y M)))
 have i4:r.IsTupleIter it t (i+1):=by
  obtain ⟨o,N,O⟩:=i1;exact ⟨o,by rw [<-G];exact Heap.get?_push_of_some _ (q.extBut it o z.symm (p.extBut it o z.symm N)),O⟩
 show wpAny _ _ (Builtin.SmallTypes.ownedTupleIsFree (.ref e) >>= _) _ _ ⟨r,h,j,c+1,os⟩;rw [L];clear G D q C p B n i1 L m u k;refine nO ?_;unfold Builtin.SmallTypes.ownedTupleIsFree;refine nO (wpAny_field F rfl (x:=.none) rfl (nP ?_));simp only [if_true];refine nO (wpAny_rule (nO (wpAny_field F rfl (x:=a) rfl (nO (wpAny_setField_rec F (by simp) λH P R=>?_)))));replace R:Heap.SameBut e r H:=R;replace P:IsEnum H e it ((i:Int)+1) x:=P;show wpAny _ _ (Builtin.SmallTypes.ownedTupleHandOut (.ref e) (.ref f.objs.size) >>= _) _ _ ⟨H,h,j,c+1,os⟩;refine nO ?_;unfold Builtin.SmallTypes.ownedTupleHandOut;refine nO (wpAny_setField_rec P (by simp) λS T U=>?_);replace U:Heap.SameBut e H S:=U;replace T:IsEnumOut S e it ((i:Int)+1) x f.objs.size:=T;refine wpAny_setField_rec T (by simp) λI W X=>?_;replace X:Heap.SameBut e S I:=X;replace W:IsEnumOut I e it ((i:Int)+1) x f.objs.size:=W;have Y:∀ b o,b≠e->r.get? b=some o->I.get? b=some o:=λb o d y=>X.extBut b o d (U.extBut b o d (R.extBut b o d y));refine nO (wpAny_letGo (nP ⟨_,rfl,hQ I W ?_ (Y _ _ (Nat.ne_of_gt le) t4) λb o d y M=>Y b o d (k4 b o d y M)⟩));obtain ⟨o,N,O⟩:=i4;exact ⟨o,Y it o z.symm N,O⟩
def YB {x d:Value} {Q:Option Value->Shared->Prop} (f:IsEnum s.heap e it i d) (si:s.heap.IsTupleIter it t i) (st:s.heap.IsTuple t zs) (n:zs[i]?=some x) (p:e≠it)
  (q:∀ g,IsEnumOut g e it ((i:Int)+1) x s.heap.objs.size->g.IsTupleIter it t (i+1)->g.get? s.heap.objs.size=some { cls:=.type "tuple", data:=.seq #[.int i s.toks,x] }->
   (∀ b o,b≠e->b≠it->s.heap.get? b=some o->g.get? b=some o)->Q (some (.ref s.heap.objs.size)) { s with heap:=g,toks:=s.toks+1 }):wpAny (model prog w) A (pyNext (.ref e)) Q E s:=by
 have m:s.TypeIs (.ref e) "enumerate" := ⟨_,f,rfl⟩;unfold pyNext;exact nO (wpAny_attempt (wpAny_callSpecial?_slot (name:=Str.ofString "__next__") m F.slot_enumerate_next (wpAny_call_entry F.slot_enumerate_next m F.entry_enumerate_next (YA f si st n p λg a b c k=>nP (q g a b c k)) (F.args_enumerate_next_1 _))))
def YC {a:Value} {Q:Option Value->Shared->Prop} (h:A.handled=none) (c:IsEnum s.heap e it i a) (si:s.heap.IsTupleIter it t i) (st:s.heap.IsTuple t zs) (j:zs[i]?=none)
  (k:∀ g,Heap.ExtBut it s.heap g->Q none { s with heap:=g }):wpAny (model prog w) A (pyNext (.ref e)) Q E s:=by
 have f:s.TypeIs (.ref e) "enumerate" := ⟨_,c,rfl⟩;unfold pyNext;refine nO (wpAny_attempt (wpAny_callSpecial?_slot (name:=Str.ofString "__next__") f F.slot_enumerate_next (wpAny_call_entry F.slot_enumerate_next f F.entry_enumerate_next ?_ (F.args_enumerate_next_1 _))));show wpAny _ _ (field (.ref e) 2 >>= _) _ _ _;refine nO (wpAny_field c rfl (x:=.ref it) rfl (nO (X9 h si st j λg x m ⟨o,n,p⟩=>?_)));exact nO (wpAny_isInstance (T := "StopIteration") (b:=true) ⟨o,n,p⟩ isSubtype_stop (nP (k _ m)))
def YD (n:Nat) (f:Option Addr) (m:Array (Option Value)) :
  Meets (Builtin.«enumerate.__new__» ⟨[.type "enumerate", .ref t],[]⟩) (λ_ R s=>s.heap.get? t=some { cls:=.type "tuple", dict:=f,data:=.seq zs n,slots:=m }/\
   R (.ok (.ret (.ref (s.heap.push { cls:=.type "tuple_iterator", data:=.fields #[.ref t,.int 0 0] }).objs.size)))
     { s with heap:=(s.heap.push { cls:=.type "tuple_iterator", data:=.fields #[.ref t,.int 0 0] }).push { cls:=.type "enumerate", data:=.fields #[.none,.bool false,.ref s.heap.objs.size,rawInt 0,.none,.none] } }):=
 .of_wp λprog w A R s h=>by
  obtain ⟨o,p,q,r,os⟩:=s;obtain ⟨d,h⟩:=h;have j:=sub_enumerate;have k:Heap.IsTuple (Shared.heap ⟨o,p,q,r,os⟩) t zs:=⟨_,d,rfl,n,rfl⟩
  wp_walk using wpAny_loadPart' d
  refine wpAny_stack_any λu=>nP ?_;split
  ·rename_i c _ _ _ _ _;cases (c == Value.type "enumerate") <;> (wp_walk using wpAny_loadPart' d,wpAny_pyIter_tuple k;exact ⟨_,rfl,h⟩)
  ·wp_walk using wpAny_loadPart' d,wpAny_pyIter_tuple k
   exact ⟨_,rfl,h⟩
def YE {Q:dj} (q:s.heap.IsTuple t zs)
  (h:∀ g,IsEnum g (s.heap.objs.size+1) s.heap.objs.size 0 .none->g.IsTupleIter s.heap.objs.size t 0->(∀ b o,s.heap.get? b=some o->g.get? b=some o)->Q (.ref (s.heap.objs.size+1)) { s with heap:=g }) :
  wpAny (model prog w) A (call (.type "enumerate") [.ref t]) Q E s:=by
 obtain ⟨⟨c,a,r,u⟩,v,d,n,f⟩:=q;replace d:c=.type "tuple" := d;replace f:r=.seq zs n:=f;subst d f;refine callType_new F.called_enumerate ∅ (F.typeCall_enumerate_1 _) (F.newCall_enumerate_1 _) (λj=>F.args_object_init_2 j _) F.entry_enumerate_new (YD n a u) ⟨v,?_⟩;have m:(s.heap.push { cls:=.type "tuple_iterator", data:=.fields #[.ref t,.int 0 0] }).objs.size=s.heap.objs.size+1:=Heap.size_push ..;show _/\_;rw [m]
 have p:IsEnum ((s.heap.push { cls:=.type "tuple_iterator", data:=.fields #[.ref t,.int 0 0] }).push { cls:=.type "enumerate", data:=.fields #[.none,.bool false,.ref s.heap.objs.size,rawInt 0,.none,.none] }) (s.heap.objs.size+1) s.heap.objs.size 0 .none:=by
  have z:=Heap.get?_push_size (s.heap.push { cls:=.type "tuple_iterator", data:=.fields #[.ref t,.int 0 0] }) (o:={ cls:=.type "enumerate", data:=.fields #[.none,.bool false,.ref s.heap.objs.size,rawInt 0,.none,.none] }) rfl;rw [m] at z;exact z
 exact ⟨⟨_,p,rfl⟩,h _ p ⟨_,Heap.get?_push_of_some _ (Heap.get?_push_size _ rfl),rfl,rfl⟩ λb o x=>Heap.get?_push_of_some _ (Heap.get?_push_of_some _ x)⟩
end
section
variable {X:Cx} {pins:dq} {σ:L2.St} {H:Hp} {s:Shared}
def OI {e f:Addr} {g:Heap} {tk:Nat} {xs:d8} {its:dh} (I:Inv X pins σ H s) (i:Dp X pins H e) (j:Dp X pins H f) (k:∀ b o,b≠e->b≠f->s.heap.get? b=some o->g.get? b=some o)
  (x:xs.length<=sizeLine) (A:Vals xs its) (B:g.get? s.heap.objs.size=some { cls:=.type "tuple", data:=.seq its.toArray }):Inv X pins σ (upd H s.heap.objs.size (.tup xs)) { s with heap:=g,toks:=tk }:=by
 have C:H s.heap.objs.size=none:=I.hok.fresh (AV _);have p:∀ b o,s.heap.get? b=some o->b≠s.heap.objs.size:=λb o q=>BZ (nU q);have tr:∀ b u,H b=some u->b≠s.heap.objs.size/\b≠e/\b≠f:=λb u q=>⟨Ax q C,Ax q i.1,Ax q j.1⟩;have a:∀ b,b∉[e,f]->b≠e/\b≠f:=λb h=>⟨λz=>h (by simp [z]),λz=>h (by simp [z])⟩
 refine I.step (g':=s.gens) (d':=s.drawn) (ch:=[e,f]) (λb h=>?_) (λb o _ _ d q _=>k b o (a b d).1 (a b d).2 q) (λb o _ _ d q _=>⟨o.slots,k b o (a b d).1 (a b d).2 q⟩) (λb o _ q n=>?_) (λb o d q=>⟨o,k b o (a b d).1 (a b d).2 q⟩)
  (λb D q=>?_) (λb o u q=>?_) (λb ps q=>⟨#[],?_⟩) (λm E=>?_) (λb u q=>?_) I.bare
 ·have z:b=e\/b=f:=by simpa using h
  rcases z with rfl | rfl
  ·exact ⟨i.2.2.2.1,i.2.1,i.2.2.2.2.1,i.2.2.2.2.2⟩
  ·exact ⟨j.2.2.2.1,j.2.1,j.2.2.2.2.1,j.2.2.2.2.2⟩
 ·rw [Au (p b o q)];exact n
 ·rw [Au (tr b _ q).1];exact q
 ·rw [Au (tr b _ q).1];exact q
 ·rw [Au (tr b _ q).1,q];simp
 ·obtain ⟨o,F,G,J,K⟩:=E;exact ⟨o,F,G,k _ o i.2.1.symm j.2.1.symm J,K⟩
 ·by_cases h:b=s.heap.objs.size
  ·subst h;rw [upd_same] at q;cases q;exact ⟨x,its,A,⟨_,B,rfl,_,rfl⟩⟩
  ·rw [Au h] at q;refine (I.hok b u q).stay (λc v d z=>?_) (λc z=>by rw [Au (tr c _ z).1];exact z) λc D z=>by rw [Au (tr c _ z).1];exact z
   rcases d with y | y
   ·subst y;exact k _ v (tr _ u q).2.1 (tr _ u q).2.2 z
   ·exact k c v (tr c _ y).2.1 (tr c _ y).2.2 z
end
def YF {P:Program} {w:World} {K:W.Frag} {y:dC} {k:Nat} {F:Pos} (a e m:Addr) (T:e≠m):Turn P w K (.Tuple y k F) (GT K a) [e,m] e (λi h=>(∃ f,IsEnum h e m i f)/\h.IsListIter m a i) where
 mem:=by simp
 obj:=λi h n b r=>by
  obtain ⟨⟨f,j⟩,o,G,c,d⟩:=n
  have z:b=e\/b=m:=by simpa using r
  rcases z with rfl | rfl
  ·exact ⟨_,j,λv z=>nomatch z⟩
  ·exact ⟨o,G,λv z=>by rw [d] at z;cases z⟩
 keep:=λi h h' n U=>⟨let ⟨f,j⟩:=n.1;⟨f,U e (by simp) _ j⟩,n.2.at λo q=>U m (by simp) o q⟩
 item:=by
  intro X J L M Y i A s σ H E I B n N
  subst J L M
  obtain ⟨Z,x,D,O⟩:=N
  obtain ⟨⟨f,j⟩,si⟩:=n
  obtain ⟨C,Q,p,hz⟩:=I.list D
  obtain ⟨u,hu,ru⟩:=Q.get O
  refine wpAny_pyNext_enum_item j si p.isList (x:=u) (by simpa using hu) T λg eo gi gt _ gk=>?_
  refine ⟨_,rfl,wpAny_letOwnedTupleGo_enum eo λg' R S=>?_⟩
  have I1:=OI (g:=g') (tk:=s.toks+1) (xs:=[.int i,x]) (its:=[.int i s.toks,u]) I (B e (by simp)) (B m (by simp)) (λb o h1 h2 q=>S.extBut b o h1 (gk b o h1 h2 q)) (sz (by simp)) (.cons ⟨_,rfl⟩ (.cons ru .nil)) (S.extBut _ _ (Nat.ne_of_gt (nU j)) gt)
  refine ⟨.ref s.heap.objs.size,_,I1,rfl,⟨_,x,I.hok.fresh (AV _),rfl,rfl,λys hy=>by rw [I.list_inj hy D];exact O⟩,⟨⟨_,by simpa using R⟩,gi.at λo q=>S.extBut m o T.symm q⟩,λb r=>?_⟩
  rw [Au]
  ·exact (B b r).1
  ·have z:b=e\/b=m:=by simpa using r
   rcases z with rfl | rfl
   ·exact BZ (nU j)
   ·obtain ⟨o,G,_⟩:=si;exact BZ (nU G)
 done:=by
  intro X J L M Y i A s σ H E I B n N
  subst J L M
  obtain ⟨Z,D,O⟩:=N
  obtain ⟨⟨f,j⟩,si⟩:=n
  obtain ⟨C,Q,p,hz⟩:=I.list D
  obtain ⟨f0,f1,f2,f3,f4,f5⟩:=B m (by simp)
  have hl:=Q.length
  exact wpAny_pyNext_enum_end (I.ok.hd Y) j si p.isList (by simp;omega) λg eb=>⟨rfl,I.turned (t':=s.toks) (λb o r q=>eb b o r q) f0 f1 f3 f4 f5⟩
 self:=λ_ _ _ _ _ n h=>let ⟨_,j⟩:=n.1;wpAny_pyIter_enum j h
def YG {P:Program} {w:World} {K:W.Frag} {A:dC} {k:Nat} {F:Pos} (a e m:Addr) (T:e≠m):Turn P w K (.Tuple A k F) (Jf K a) [e,m] e (λi h=>(∃ f,IsEnum h e m i f)/\h.IsTupleIter m a i) where
 mem:=by simp
 obj:=λi h n b y=>by
  obtain ⟨⟨f,j⟩,o,G,c,d⟩:=n
  have z:b=e\/b=m:=by simpa using y
  rcases z with rfl | rfl
  ·exact ⟨_,j,λv z=>nomatch z⟩
  ·exact ⟨o,G,λv z=>by rw [d] at z;cases z⟩
 keep:=λi h h' n U=>⟨let ⟨f,j⟩:=n.1;⟨f,U e (by simp) _ j⟩,n.2.at λo q=>U m (by simp) o q⟩
 item:=by
  intro X J L M Y i B s σ H E I C n N
  subst J L M
  obtain ⟨Z,x,D,O⟩:=N
  obtain ⟨⟨f,j⟩,si⟩:=n
  obtain ⟨r,Q,p,hz⟩:=I.tuple D
  obtain ⟨u,hu,ru⟩:=Q.get O
  refine YB j si (show s.heap.IsTuple a r.toArray from p) (x:=u) (by simpa using hu) T λg eo gi gt gk=>?_
  refine ⟨_,rfl,wpAny_letOwnedTupleGo_enum eo λg' R S=>?_⟩
  have I1:=OI (g:=g') (tk:=s.toks+1) (xs:=[.int i,x]) (its:=[.int i s.toks,u]) I (C e (by simp)) (C m (by simp)) (λb o h1 h2 q=>S.extBut b o h1 (gk b o h1 h2 q)) (sz (by simp)) (.cons ⟨_,rfl⟩ (.cons ru .nil)) (S.extBut _ _ (Nat.ne_of_gt (nU j)) gt)
  refine ⟨.ref s.heap.objs.size,_,I1,rfl,⟨_,x,I.hok.fresh (AV _),rfl,rfl,λys hy=>by rw [I.tuple_inj hy D];exact O⟩,⟨⟨_,by simpa using R⟩,gi.at λo q=>S.extBut m o T.symm q⟩,λb y=>?_⟩
  rw [Au]
  ·exact (C b y).1
  ·have z:b=e\/b=m:=by simpa using y
   rcases z with rfl | rfl
   ·exact BZ (nU j)
   ·obtain ⟨o,G,_⟩:=si;exact BZ (nU G)
 done:=by
  intro X J L M Y i B s σ H E I C n N
  subst J L M
  obtain ⟨Z,D,O⟩:=N
  obtain ⟨⟨f,j⟩,si⟩:=n
  obtain ⟨r,Q,p,hz⟩:=I.tuple D
  obtain ⟨f0,f1,f2,f3,f4,f5⟩:=C m (by simp)
  have hl:=Q.length
  exact YC (I.ok.hd Y) j si (show s.heap.IsTuple a r.toArray from p) (by simp;omega) λg eb=>⟨rfl,I.turned (t':=s.toks) (λb o y q=>eb b o y q) f0 f1 f3 f4 f5⟩
 self:=λ_ _ _ _ _ n h=>let ⟨_,j⟩:=n.1;wpAny_pyIter_enum j h
section
variable {X:Cx} {elts:dC} {k:Nat} {tpos:Pos} {a:Expr} {ta:TA} {p pos:Pos}
def LD (o:Gl X "enumerate") (r:X.mg "enumerate" = none) (v:PA X [a] ta) (w:starEach [a] X.env=[(false,eval a X.env)]:=by rfl):PI X (.Tuple elts k tpos) (.Call (.Name "enumerate" p) [a] [] pos) (Fz X.K ta):=by
 intro d s i H R I h;refine Call_ (Ee I o r OA (PyProof.Rows.callWith_type1 (E_ (v pos d s i H _ I h) λG e ⟨J,j,f,x,y⟩=>?_) w rfl));obtain ⟨b,rfl,⟨K,A⟩,q⟩:=y;obtain ⟨u,rfl,B⟩:=EO x;cases B;obtain ⟨C,L,pl,M⟩:=f.list A;refine call_enumerate_list pl.isList λg m si _ D=>?_;have E:Inv X d i j { e with heap:=g }:=f.kept (t':=e.toks) D;refine wpAny_pyIter_enum m ⟨_,[e.heap.objs.size+1,e.heap.objs.size],_,_,j,rfl,E,YF b _ _ (Nat.succ_ne_self _),⟨⟨_,m⟩,si⟩,λc F=>?_,q⟩;have z:c=e.heap.objs.size+1\/c=e.heap.objs.size:=by simpa using F
 rcases z with rfl | rfl
 ·exact f.fpOk (Nat.le_succ _) (f.hok.fresh (Nat.le_succ _))
 ·exact f.fpOk (AV _) (f.hok.fresh (AV _))
def OJ (r:Gl X "enumerate") (v:X.mg "enumerate" = none) (w:PA X [a] ta) (x:starEach [a] X.env=[(false,eval a X.env)]:=by rfl):PI X (.Tuple elts k tpos) (.Call (.Name "enumerate" p) [a] [] pos) (Jg X.K ta):=by
 intro d s j H R I h;refine Call_ (Ee I r v OA (PyProof.Rows.callWith_type1 (E_ (w pos d s j H _ I h) λG e ⟨J,m,f,y,A⟩=>?_) x rfl));obtain ⟨b,rfl,⟨K,B⟩,q⟩:=A;obtain ⟨u,rfl,C⟩:=EO y;cases C;obtain ⟨i,L,pl,M⟩:=f.tuple B;refine YE (show e.heap.IsTuple b i.toArray from pl) λg n si D=>?_;have E:Inv X d j m { e with heap:=g }:=f.kept (t':=e.toks) D;refine wpAny_pyIter_enum n ⟨_,[e.heap.objs.size+1,e.heap.objs.size],_,_,m,rfl,E,YG b _ _ (Nat.succ_ne_self _),⟨⟨_,n⟩,si⟩,λc F=>?_,q⟩;have z:c=e.heap.objs.size+1\/c=e.heap.objs.size:=by simpa using F
 rcases z with rfl | rfl
 ·exact f.fpOk (Nat.le_succ _) (f.hok.fresh (Nat.le_succ _))
 ·exact f.fpOk (AV _) (f.hok.fresh (AV _))
end
end Bs
namespace Bs
open PySem L2
mutual
inductive RepD (H:Hp):V->W.Dat->Prop
 | non:RepD H .non .none
 | int (i:Int):RepD H (.int i) (.int i)
 | tup {p:Addr} {xs:d8} {ds:List W.Dat} (h:H p=some (.tup xs)) (r:RepA H xs ds):RepD H (.ref p) (.tuple ds)
 | lst {p:Addr} {xs:d8} {ds:List W.Dat} (h:H p=some (.lst xs)) (r:RepA H xs ds):RepD H (.ref p) (.list ds)
inductive RepA (H:Hp):d8->List W.Dat->Prop
 | nil:RepA H [] []
 | cons {x:V} {xs:d8} {d:W.Dat} {ds:List W.Dat} (h:RepD H x d) (r:RepA H xs ds):RepA H (x::xs) (d::ds)
end
def eqD:R2:=λx y H Q=>∃ (d e:W.Dat) (b:Bool),RepD H x d/\RepD H y e/\W.kqdOk 8 d=true/\W.kqdOk 8 e=true/\(b=true↔d=e)/\Q (.bl b) H
def neD:R2:=λx y H Q=>∃ (d e:W.Dat) (b:Bool),RepD H x d/\RepD H y e/\W.kqdOk 8 d=true/\W.kqdOk 8 e=true/\(b=true↔d=e)/\Q (.bl (!b)) H
def ER (c:TE):TT:=λd H Q=>c d H λx a=>∃ p b,x=.ref p/\a p=some (.lst b)/\Q (!b.isEmpty) a
def YH (c:TE):TT:=λd H Q=>c d H λx a=>∃ p b,x=.ref p/\a p=some (.tup b)/\Q (!b.isEmpty) a
def sL:V->Option Int->Option Int->Hp->VK->Prop:=λx lo c H Q=>∃ a b,x=.ref a/\H a=some (.lst b)/\∀ p,H p=none->Q (.ref p) (upd H p (.lst (CO b lo c)))
def GU:d8->Hp->VK->Prop:=λb H Q=>∃ p a,b=[.ref p]/\H p=some (.lst a)/\∀ l,H l=none->Q (.ref l) (upd H l (.tup a))
def IH:d8->Hp->VK->Prop:=λb H Q=>∃ p a,b=[.ref p]/\H p=some (.tup a)/\∀ l,H l=none->Q (.ref l) (upd H l (.lst a))
def HK:d8->Hp->VK->Prop:=λb H Q=>∃ p a,b=[.ref p]/\H p=some (.lst a)/\∀ l,H l=none->Q (.ref l) (upd H l (.lst a))
end Bs
namespace Bs
open PySem PySem.Spec PyProof.Rows L2
section
variable {X:Cx} {pins:dq} {σ:L2.St} {H:Hp} {s:Shared}
mutual
theorem GV (I:Inv X pins σ H s):∀ {x:V} {d:W.Dat} {u:Value},RepD H x d->RelV x u->∃ as,Reads s.heap u (W.kqdP d) as
 | _,_,_,.non,e=>by cases e;rw [W.kqdP];exact ⟨_,Reads.none⟩
 | _,_,_,.int i,⟨t,e⟩=>by subst e;rw [W.kqdP];exact ⟨_,Reads.int i t⟩
 | _,_,_,.tup h r,e=>by
   cases e;obtain ⟨a,b,p,_⟩:=I.tuple (SqT.of h);obtain ⟨as,q⟩:=Ji I r b;obtain ⟨o,c,f,n,g⟩:=p;rw [W.kqdP];exact ⟨as,reads_tuple_at c f g (by simpa using q)⟩
 | _,_,_,.lst h r,e=>by
   cases e;obtain ⟨a,b,p,_⟩:=I.list (SqL.of h);obtain ⟨as,q⟩:=Ji I r b;obtain ⟨o,n,c,f,_,g⟩:=p;rw [W.kqdP];exact ⟨_,reads_list_at c f g (by simpa using q)⟩
theorem Ji (I:Inv X pins σ H s):∀ {xs:d8} {a:List W.Dat} {b:dh},RepA H xs a->Vals xs b->∃ as,ReadsAll s.heap b (W.kqdPs a) as
 | _,_,_,.nil,.nil=>by rw [W.kqdPs];exact ⟨_,ReadsAll.nil⟩
 | _,_,_,.cons h r,.cons e c=>by
   obtain ⟨as,q⟩:=GV I h e;obtain ⟨f,d⟩:=Ji I r c;rw [W.kqdPs];exact ⟨_,ReadsAll.cons q d⟩
end
def HL {d:W.Dat} (h:W.kqdOk 8 d=true):SeqAt.shaped (W.kqdP d)=true:=by
 have z:=W.kqd_lay 8 d h;unfold SeqAt.shaped;rw [z.1,Bool.true_and];exact nI (CF z.2 ∅)
def LE {d e:W.Dat} {b:Bool} (a:W.kqdOk 8 d=true) (c:W.kqdOk 8 e=true) (f:b=true↔d=e):PyData.eqv (W.kqdP d) (W.kqdP e)=b:=by
 rw [Bool.eq_iff_iff,f];exact W.kqd_eqv 8 d e 8 a c
def OK (f:X.A.units+64<cLine):OpR X (compareOp .Eq) eqD:=by
 intro pins s σ H x y v u Q I g i h;obtain ⟨d,e,b,j,k,a,c,m,q⟩:=h;obtain ⟨as,n⟩:=GV I j g;obtain ⟨p,o⟩:=GV I k i;exact eq_dataH n o (HL a) (HL c) f (by rw [LE a c m];exact ⟨.bl b,H,I,rfl,q⟩)
def OM (f:X.A.units+64<cLine):OpR X (compareOp .NotEq) neD:=by
 intro pins s σ H x y v u Q I g i h;obtain ⟨d,e,b,j,k,a,c,m,q⟩:=h;obtain ⟨as,n⟩:=GV I j g;obtain ⟨p,o⟩:=GV I k i;exact ne_dataH n o (HL a) (HL c) f (by rw [LE a c m];exact ⟨.bl (!b),H,I,rfl,q⟩)
def Fg {a:Expr} {c:TE} (d:PE X a c) (f:∀ b,isTrue a X.env b=(do let v <-b;standAt a.pos;holding [v] (truthy v))):PT X a (ER c):=λpins s σ H Q I h=>
 isTrue_plain (E_ (d pins s σ H _ I h) λv g ⟨x,i,j,k,m⟩=>by
  obtain ⟨p,n,e,hp,q⟩:=m;subst e;exact Vk pins g σ i _ v Q j k ⟨_,.inl ⟨n,SqL.of hp,rfl⟩,q⟩) (f _)
def FJ:SlR X sL:=by
 intro pins s σ H x v vl b lo c d Q I f g pl i h;obtain ⟨a,j,e,k,q⟩:=h;exact WH pins s σ H x v vl b lo c d Q I f g pl i ⟨a,j,e,SqL.of k,q⟩
def II:Cu X (.type "tuple") GU:=λpins s σ H a b Q I r h=>by
 obtain ⟨p,c,e,hp,q⟩:=h;exact WI pins s σ H a b Q I r ⟨p,c,e,.inl ⟨SqL.of hp,q⟩⟩
def ON:Cu X (.type "list") IH:=λpins s σ H a b Q I r h=>by
 obtain ⟨p,c,e,hp,q⟩:=h;exact Nr pins s σ H a b Q I r ⟨p,c,e,.inr (SqT.of hp),q⟩
def Jj:Cu X (.type "list") HK:=λpins s σ H a b Q I r h=>by
 obtain ⟨p,c,e,hp,q⟩:=h;exact Nr pins s σ H a b Q I r ⟨p,c,e,.inl (SqL.of hp),q⟩
def LF:cy X gL:=by
 intro pins s σ H o i A B Q I g m h;obtain ⟨p,k,C,v,rfl,rfl,hp,n,q⟩:=h;cases g;obtain ⟨t,rfl⟩:=m;obtain ⟨c,r,pl,D⟩:=I.list (SqL.of hp);obtain ⟨j,b,u,E,x,y⟩:=K2 n;obtain ⟨w,e,rw'⟩:=r.get u;have z:=r.length;have F:=G8;have a:EP X pins σ Q w s:=⟨v,H,I,rw',q⟩;by_cases f:0<=k
 ·have d:k.toNat=j:=by
   rw [seqIndex_of f y] at b;exact nR b
  exact wpAny_getItem_list pl.isList f ⋯ (by rw [d];simpa using e) a
 ·have d:(k+(c.toArray.size:Int)).toNat=j:=by
   rw [seqIndex_neg ⋯ x] at b;rw [Ba,<-z];exact nR b
  exact wpAny_getItem_list_neg pl.isList ⋯ (by rw [Ba] <;> omega) ⋯ (by rw [d];simpa using e) a
def OO {K:W.Frag} {p:Addr} {xs:d8} (h:H p=some (.lst xs)):cI K "list" (.ref p) H:=.inl ⟨rfl,xs,SqL.of h⟩
end
end Bs
namespace Bs
open PySem L2
def DR (n:Nat) (t:aR):TG:=λv c H Q=>∃ a b,v=.ref a/\H a=some (.tup b)/\b.length=n/\t b c H Q
end Bs
namespace Bs
open PySem PySem.Spec PyProof.Rows L2
def D9 {X:Cx} {c:dC} {k:Nat} {d:Pos} {t:aR} {n:Nat} (g:X.calm=true) (h:cg X c t)
  (i:(assignEach c X.env).length=n:=by rfl) (f:(assignEach c X.env).findIdx? (·.1)=none:=by rfl):PG X (.Tuple c k d) (DR n t):=λb s j H v u Q I r q=>by
 obtain ⟨a,m,e,o,p,q⟩:=q;exact VY g h i f b s j H v u Q I r ⟨a,m,e,SqT.of o,p,q⟩
def YI {X:Cx}:OpR X (inplaceOp .FloorDiv) HF:=b8 λi j _ _ _ _ _ a q=>by
 refine ifloordiv_int (Ab a.1) ?_ (.inl (PyProof.noPylong_of_log2 (a.2.log2 ∅)));rw [EI i (EH a.1)];exact q
end Bs
namespace Bs
open PySem L2
def sT:V->Option Int->Option Int->Hp->VK->Prop:=λx lo d H Q=>∃ a b,x=.ref a/\H a=some (.tup b)/\∀ p c,(c=H/\p=a/\CO b lo d=b)\/(H p=none/\c=upd H p (.tup (CO b lo d)))->Q (.ref p) c
noncomputable def cA (lo:Int) (n:Nat):It:=⟨λi _=>i<n,λi H x a=>a=H/\x=.int (lo - i),λi _=>n<=i⟩
noncomputable def cK (K:W.Frag) (a:Addr) (n:Nat):It:=⟨λi H=>i<n/\∃ b,SqL K H a b/\b.length=n,λi H x c=>c=H/\∀ b,SqL K H a b->b[n - 1 - i]?=some x,λi _=>n=i⟩
def IJ (a:TA):TI:=λb H R=>a b H λc d=>∃ i j:Int,c=[.int i,.int j,.int (-1)]/\(-(2 ^ 62)<=i/\i<2 ^ 62/\-(2 ^ 62)<=j/\j<2 ^ 62)/\R (cA i (i - j).toNat) d
def LG (K:W.Frag) (d:TA):TI:=λe H R=>d e H λf b=>∃ a c,f=[.ref a]/\SqL K b a c/\R (cK K a c.length) b
section
variable {K:W.Frag} {ta:TA} {g:TG} {tb:TS} {D:Ends} {σ:L2.St} {H:Hp} {a:Addr} {xs:d8}
def YJ:Ay (IJ ta) g tb D σ H=ta σ H (λb c=>∃ i j:Int,b=[.int i,.int j,.int (-1)]/\(-(2 ^ 62)<=i/\i<2 ^ 62/\-(2 ^ 62)<=j/\j<2 ^ 62)/\ForJ (cA i (i - j).toNat) g tb D σ c):=rfl
def YK:Ay (LG K ta) g tb D σ H=ta σ H (λc b=>∃ a xs,c=[.ref a]/\SqL K b a xs/\ForJ (cK K a xs.length) g tb D σ b):=rfl
def ForJ.down {lo:Int} {n:Nat} (Pv:Nat->L2.St->Hp->Prop) (d:Pv 0 σ H)
  (f:∀ i σ H,i<n->Pv i σ H->g (.int (lo - i)) σ H λb h=>tb { D with nx:=Pv (i+1),ct:=Pv (i+1),bk:=D.nx } b h) (j:∀ σ H,Pv n σ H->D.nx σ H):ForJ (cA lo n) g tb D σ H:=by
 refine ⟨λi m σ H=>m=n - i/\i<=n/\Pv i σ H,⟨n,by simp,AY _,d⟩,?_⟩;rintro i m σ H ⟨rfl,v,pv⟩;by_cases c:i<n
 ·refine .inr ⟨c,Pv (i+1),λk o p=>⟨n - (i+1),⋯,rfl,c,p⟩,λx o y=>?_⟩;obtain ⟨e,y⟩:=y;subst e y;exact f i σ _ c pv
 ·have e:i=n:=by omega
  subst e;exact .inl ⟨AV _,j σ H pv⟩
def ForJ.rev (Pv:Nat->L2.St->Hp->Prop) (d:Pv 0 σ H) (f:∀ i σ H,i<=xs.length->Pv i σ H->SqL K H a xs)
  (h:∀ i x σ H,i<xs.length->xs[xs.length - 1 - i]?=some x->Pv i σ H->g x σ H λb j=>tb { D with nx:=Pv (i+1),ct:=Pv (i+1),bk:=D.nx } b j) (k:∀ σ H,Pv xs.length σ H->D.nx σ H):ForJ (cK K a xs.length) g tb D σ H:=by
 refine ⟨λi m σ H=>m=xs.length - i/\i<=xs.length/\Pv i σ H,⟨xs.length,by simp,AY _,d⟩,?_⟩;rintro i m σ H ⟨rfl,n,pv⟩;have q:=f i σ H n pv;by_cases c:i<xs.length
 ·refine .inr ⟨⟨c,xs,q,rfl⟩,Pv (i+1),λo p r=>⟨xs.length - (i+1),⋯,rfl,c,r⟩,λx p y=>?_⟩;obtain ⟨e,y⟩:=y;subst e;exact h i x σ _ c (y xs q) pv
 ·have e:i=xs.length:=by omega
  subst e;exact .inl ⟨rfl,k σ H pv⟩
end
end Bs
namespace Bs
open PySem PySem.Spec PyProof.Rows L2
def YL {P:Program} {w:World} {K:W.Frag} {M:Expr} (c:Addr) (lo:Int) (n:Nat):Turn P w K M (cA lo n) [c] c (λi h=>IsRangeIter h c (lo+(i:Nat)*(-1)) ((n:Int) - (i:Nat)) (-1)) where
 mem:=by simp
 obj:=λi h a b f=>by
  have e:b=c:=by simpa using f
  subst e
  exact ⟨_,a,λv z=>by
   have N:Data.fields _=Data.cell v:=z
   cases N⟩
 keep:=λi h p a k=>k c (by simp) _ a
 item:=by
  intro X r u x y i d s J H E I q a A
  subst r u x
  obtain ⟨B,C,O,D,F,G⟩:=q c (by simp)
  have W:=Walks.range (prog:=X.prog) (w:=X.w) (I.ok.hd y) c lo (-1) n
  refine W.item i s _ _ A a λv p L Q g R=>?_
  obtain ⟨t,rfl⟩:=Q
  have S:Inv X d J H { s with heap:=p,toks:=L }:=I.turned (λb o f e=>R b o (by simpa using f) e) B C D F G
  refine ⟨_,rfl,Hz (s:={ s with heap:=p,toks:=L }) (n := "range_iterator") g rfl rfl ∅ ⟨.int (lo - i),H,S,⟨t,?_⟩,⟨rfl,rfl⟩,g,λb f=>(q b f).1⟩⟩
  rw [show lo+(i:Int)*(-1)=lo - i by omega]
 done:=by
  intro X r u x y i d s J H E I q a A
  subst r u x
  obtain ⟨B,C,O,D,F,G⟩:=q c (by simp)
  exact wpAny_pyNext_range_end (I.ok.hd y) a (by have:n<=i:=A;omega) λp T=>⟨rfl,I.turned (t':=s.toks) (λb o f e=>T b o f e) B C D F G⟩
 self:=λ_ _ _ _ _ a h=>wpAny_pyIter_rangeiter a h
def OP (a b:Int):Builtin.Range.rangeSize a b (-1)=if b<a then a - b else 0:=by
 unfold Builtin.Range.rangeSize;simp only [show ¬ ((-1:Int) > 0) by decide,if_false,Int.neg_neg,Int.ediv_one];split <;> omega
def YM {a b:Int} (e:-(2 ^ 62)<=a) (c:a<2 ^ 62) (f:-(2 ^ 62)<=b) (d:b<2 ^ 62):Builtin.Range.small a b (-1)=true:=by
 unfold Builtin.Range.small;rw [OP];simp only [Builtin.Range.rangeFitsLong,Bool.and_eq_true,Bool.or_eq_true,decide_eq_true_eq,beq_iff_eq,show ¬ ((-1:Int) > 0) by decide,if_false];split <;> omega
theorem OQ {X:Cx} {F:Expr} {a b c:Expr} {A:TA} {p n:Pos} (G:Gl X "range") (J:X.mg "range" = none) (K:PA X [a,b,c] A) (L:starEach [a,b,c] X.env=[(false,eval a X.env),(false,eval b X.env),(false,eval c X.env)]:=by rfl) (u:starEach [b,c] X.env=[(false,eval b X.env),(false,eval c X.env)]:=by rfl) :
  PI X F (.Call (.Name "range" p) [a,b,c] [] n) (IJ A):=by
 intro g s B H R I h;refine Call_ (Ee I G J boot_range (PyProof.Rows.callWith_type1 (E_ (K n g s B H _ I h) λY k ⟨Z,C,M,N,x⟩=>?_) (by rw [L,u]) (by rw [u];rfl)));obtain ⟨i,j,e,⟨x,O,P,Q⟩,q⟩:=x;subst e;cases N with
 | cons r v=>
   cases v with
   | cons S v=>
     cases v with
     | cons y v=>
       cases v;obtain ⟨t,rfl⟩:=r;obtain ⟨w,rfl⟩:=S;obtain ⟨f,rfl⟩:=y;refine call_range_3 ∅ ?_ (.inl (PyProof.noPylong_small ∅));refine wpAny_pyIter_range (IsRange.new ..) (YM x O P Q) ?_;have z:Inv X g B C { k with heap:=k.heap.push { cls:=.type "range", data:=.fields #[.int i t,.int j w,.int (-1) f] },toks:=k.toks }:=M.kept λb o e=>Heap.get?_push_of_some _ e
       refine ⟨(k.heap.push { cls:=.type "range", data:=.fields #[.int i t,.int j w,.int (-1) f] }).objs.size,[(k.heap.push { cls:=.type "range", data:=.fields #[.int i t,.int j w,.int (-1) f] }).objs.size],_,_,C,rfl,
        z.kept (t':=k.toks) λb o e=>Heap.get?_push_of_some _ e,YL _ i (i - j).toNat,?_,λb T=>?_,q⟩
       ·have U:i+((0:Nat):Int)*(-1)=i:=by simp
        have W:(((i - j).toNat:Nat):Int) - ((0:Nat):Int)=Builtin.Range.rangeSize i j (-1):=by rw [OP];split <;> omega
        show IsRangeIter _ _ (i+((0:Nat):Int)*(-1)) ((((i - j).toNat:Nat):Int) - ((0:Nat):Int)) (-1);rw [U,W];exact Heap.get?_push_size _ rfl
       ·have e:b=(k.heap.push { cls:=.type "range", data:=.fields #[.int i t,.int j w,.int (-1) f] }).objs.size:=by simpa using T
        subst e;exact z.fpOk (AV _) (z.hok.fresh (AV _))
def YN {P:Program} {w:World} {K:W.Frag} {tg:Expr} (a f:Addr) (n:Nat):Turn P w K tg (cK K a n) [f] f (λi h=>h.IsRevIter f a ((n:Int) - 1 - (i:Int))) where
 mem:=by simp
 obj:=λi h g b m=>by
  have e:b=f:=by simpa using m
  subst e
  obtain ⟨o,e,c,d⟩:=g
  exact ⟨o,e,λv z=>by rw [d] at z;cases z⟩
 keep:=λi h r g k=>g.at λo e=>k f (by simp) o e
 item:=by
  intro X C D F S i j s T H E I B g G
  subst C D F
  obtain ⟨hi,U,Y,hn⟩:=G
  obtain ⟨a0,rv,p,hz⟩:=I.list Y
  have Z:U[n - 1 - i]?=some (U[n - 1 - i]'⋯):=AT ⋯
  obtain ⟨u,hu,ru⟩:=rv.get Z
  obtain ⟨J,L,f2,M,N,O⟩:=B f (by simp)
  have q:s.heap.IsRevIter f a ((n - 1 - i:Nat):Int):=by rw [show ((n - 1 - i:Nat):Int)=(n:Int) - 1 - (i:Int) by omega];exact g
  refine wpAny_pyNext_rev_item q p.isList (x:=u) (by simpa using hu) λr y sb=>?_
  have I1:Inv X j T H { s with heap:=r }:=I.turned (t':=s.toks) (λb o m e=>(sb.2 b m).trans e) J L M N O
  obtain ⟨o,e,c,d⟩:=id y
  have Q:r.IsRevIter f a ((n:Int) - 1 - ((i+1:Nat):Int)):=by rw [show (n:Int) - 1 - ((i+1:Nat):Int)=((n - 1 - i:Nat):Int) - 1 by omega];exact y
  exact ⟨u,rfl,Hz (s:={ s with heap:=r }) e c d ∅ ⟨_,H,I1,ru,⟨rfl,λys hy=>by rw [I.list_inj hy Y];exact Z⟩,Q,λb m=>(B b m).1⟩⟩
 done:=by
  intro X C D F S i j s T H E I B g G
  subst C D F
  have R:n=i:=G
  subst R
  obtain ⟨J,L,f2,M,N,O⟩:=B f (by simp)
  have q:s.heap.IsRevIter f a (-1):=by rw [show (-1:Int)=(n:Int) - 1 - (n:Int) by omega];exact g
  exact wpAny_pyNext_rev_end (I.ok.hd S) q λr eb=>⟨rfl,I.turned (t':=s.toks) (λb o m e=>eb b o m e) J L M N O⟩
 self:=λ_ _ _ _ _ g h=>wpAny_pyIter_revIter g h
def YO {X:Cx} {w:Expr} {a:Expr} {m:TA} {p i:Pos} (x:Gl X "reversed") (y:X.mg "reversed" = none) (A:PA X [a] m) (B:starEach [a] X.env=[(false,eval a X.env)]:=by rfl):PI X w (.Call (.Name "reversed" p) [a] [] i) (LG X.K m):=by
 intro d s n H R I h;refine Call_ (Ee I x y Xw (PyProof.Rows.callWith_type1 (E_ (A i d s n H _ I h) λL f ⟨M,r,j,C,D⟩=>?_) B rfl));obtain ⟨b,k,rfl,E,q⟩:=D;obtain ⟨u,rfl,F⟩:=EO C;cases F;obtain ⟨g,G,pl,N⟩:=j.list E;refine call_reversed_list pl.isList ?_;have J:Inv X d n r { f with heap:=f.heap.push (revObj b ((g.toArray.size:Int) - 1)) }:=j.kept (t':=f.toks) λb o e=>Heap.get?_push_of_some _ e;have P:=G.length
 have si:(f.heap.push (revObj b ((g.toArray.size:Int) - 1))).IsRevIter f.heap.objs.size b ((k.length:Int) - 1 - ((0:Nat):Int)):=by
  rw [show (k.length:Int) - 1 - ((0:Nat):Int)=(g.toArray.size:Int) - 1 by rw [Ba];omega];exact ⟨_,Heap.get?_push_size _ rfl,rfl,rfl⟩
 refine wpAny_pyIter_revIter si ⟨_,[f.heap.objs.size],_,_,r,rfl,J,YN b _ k.length,si,λc K=>?_,q⟩;have z:c=f.heap.objs.size:=by simpa using K
 subst z;exact j.fpOk (AV _) (j.hok.fresh (AV _))
end Bs
namespace Bs
open PySem L2
def Jk:R2:=λx y H Q=>y=.non/\Q (.bl (decide (x=.non))) H
def LH:R2:=λx y H Q=>y=.non/\Q (.bl (!decide (x=.non))) H
def OR (_ j:Int):Prop:=0<j
def Jl (_ j:Int):Prop:=j≠0
abbrev Em:R2:=rI OR λi j=>.int (i / j)
abbrev ES:R2:=rI Jl λi j=>.int (i.fdiv j)
noncomputable def bJ (K:W.Frag) (a b:Addr):It:=
 ⟨λi H=>∃ c d x y,SqL K H a c/\SqL K H b d/\c[i]?=some x/\d[i]?=some y,λi H v e=>∃ p x y,H p=none/\v=.ref p/\e=upd H p (.tup [x,y])/\(∀ c,SqL K H a c->c[i]?=some x)/\∀ d,SqL K H b d->d[i]?=some y,λi H=>∃ c d,SqL K H a c/\SqL K H b d/\c.length<=i⟩
def EA (K:W.Frag) (d:TA):TI:=λe H R=>d e H λf c=>∃ a b,f=[.ref a,.ref b]/\(∃ g,SqL K c a g)/\(∃ h,SqL K c b h)/\R (bJ K a b) c
def Fh (h:TI) (capt:List (Option Nat)) (g:TG) (tc:TT) (j:TE):TE:=λd H Q=>h d H λJ k=>∃ (n:Nat) (W:Nat->d8->Hp->Prop),W 0 [] k/\∀ i a H,W i a H->i<=n/\a.length<=sizeLine/\
 ((J.stop i H/\∀ p,H p=none->Q (.ref p) (upd H p (.lst a)))\/(i<n/\J.go i H/\∀ x e,J.yld i H x e->g x (Ch capt d) e λc m=>tc c m λb f=>if b=true then j c f λy o=>W (i+1) (a++[y]) o else W (i+1) a f))
def CompF (J:It) (capt:List (Option Nat)) (g:TG) (tc:TT) (f:TE) (h:L2.St) (Q:VK) (j:Hp):Prop:=∃ (n:Nat) (W:Nat->d8->Hp->Prop),W 0 [] j/\∀ i a H,W i a H->i<=n/\a.length<=sizeLine/\
 ((J.stop i H/\∀ p,H p=none->Q (.ref p) (upd H p (.lst a)))\/(i<n/\J.go i H/\∀ x d,J.yld i H x d->g x (Ch capt h) d λc k=>tc c k λb e=>if b=true then f c e λy m=>W (i+1) (a++[y]) m else W (i+1) a e))
section
variable {K:W.Frag} {ta:TA} {tl:TE} {capt:List (Option Nat)} {g:TG} {tc:TT} {te:TE} {tb:TS} {D:Ends} {σ:L2.St} {H:Hp} {Q:VK} {a b:Addr} {xs ys:d8}
def YQ:Fh (BU K tl) capt g tc te σ H Q=tl σ H (λx c=>∃ a,x=.ref a/\(∃ xs,SqL K c a xs)/\CompF (af K a) capt g tc te σ Q c):=rfl
def YR:A8 (EA K ta) capt g te σ H Q=ta σ H (λd c=>∃ a b,d=[.ref a,.ref b]/\(∃ xs,SqL K c a xs)/\(∃ ys,SqL K c b ys)/\CompJ (bJ K a b) capt g te σ Q c):=rfl
def CompF.lst (W:Nat->d8->Hp->Prop) (j:W 0 [] H) (d:∀ i ys H,W i ys H->i<=xs.length/\ys.length<=sizeLine/\SqL K H a xs)
  (k:∀ i x ys H,xs[i]?=some x->W i ys H->g x (Ch capt σ) H λc m=>tc c m λb f=>if b=true then te c f λy n=>W (i+1) (ys++[y]) n else W (i+1) ys f) (o:∀ ys H,W xs.length ys H->∀ p,H p=none->Q (.ref p) (upd H p (.lst ys))):CompF (af K a) capt g tc te σ Q H:=by
 refine ⟨xs.length,W,j,λi ys H w=>⟨(d i ys H w).1,(d i ys H w).2.1,?_⟩⟩;have q:SqL K H a xs:=(d i ys H w).2.2;by_cases h:i<xs.length
 ·refine .inr ⟨h,⟨xs,xs[i],q,by simp [h]⟩,λx r y=>?_⟩;obtain ⟨e,y⟩:=y;subst e;exact k i x ys _ (y xs q) w
 ·have e:i=xs.length:=E9 (d i ys H w).1 (Nat.not_lt.mp h);subst e;exact .inl ⟨⟨xs,q,AV _⟩,o ys H w⟩
def CompJ.zip (k:xs.length=ys.length) (W:Nat->d8->Hp->Prop) (m:W 0 [] H) (d:∀ i c H,W i c H->i<=xs.length/\c.length<=sizeLine/\SqL K H a xs/\SqL K H b ys)
  (n:∀ i x y c H p,xs[i]?=some x->ys[i]?=some y->W i c H->H p=none->g (.ref p) (Ch capt σ) (upd H p (.tup [x,y])) λf o=>te f o λz r=>W (i+1) (c++[z]) r) (u:∀ c H,W xs.length c H->∀ p,H p=none->Q (.ref p) (upd H p (.lst c))):CompJ (bJ K a b) capt g te σ Q H:=by
 refine ⟨xs.length,W,m,λi c H w=>⟨(d i c H w).1,(d i c H w).2.1,?_⟩⟩;obtain ⟨_,_,q,j⟩:=d i c H w;by_cases h:i<xs.length
 ·refine .inr ⟨h,⟨xs,ys,xs[i],ys[i],q,j,by simp [h],by simp [k ▸ h]⟩,λv F y=>?_⟩;obtain ⟨p,x,y,hp,A,B,C,E⟩:=y;subst A B;exact n i x y c _ p (C xs q) (E ys j) w hp
 ·have e:i=xs.length:=E9 (d i c H w).1 (Nat.not_lt.mp h);subst e;exact .inl ⟨⟨xs,ys,q,j,AV _⟩,u c H w⟩
end
def OS:V->Hp->VK->Prop:=λx H Q=>∃ (p:Addr) (a:de),x=.ref p/\H p=some (.lst (a.map V.int))/\∀ m:Int,(a=[]/\m=0\/m∈a)->Q (.int m) H
def LI (a:TE):TE:=λb H Q=>a b H λx c=>OS x c Q
def Jm:d8->Hp->VK->Prop:=λb H Q=>∃ (p:Addr) (a:de),b=[.ref p]/\H p=some (.lst (a.map V.int))/\Q (.bl (a.any λz=>!decide (z=0))) H
end Bs
namespace Bs
open PySem PySem.Spec PyProof.Rows L2
section
variable {X:Cx} {pins:dq} {σ:L2.St} {H:Hp} {s:Shared}
def Ew:OpR X (binaryOp .FloorDiv) ES:=by
 intro pins s σ H x y v u Q I a b ⟨i,j,c,d,e,q⟩;subst c d;obtain ⟨t,rfl⟩:=a;obtain ⟨f,rfl⟩:=b;exact floordiv_int e ⟨.int (i.fdiv j),H,I.tok _,⟨_,rfl⟩,q⟩ (Or.inr (I.ok.plr s I.bk))
def F1:OpR X (binaryOp .FloorDiv) Em:=by
 intro pins s σ H x y v u Q I b c ⟨i,j,d,e,f,q⟩;have a:0<j:=f;replace q:Q (.int (i / j)) H:=q;rw [<-EI i (EH a)] at q;exact Ew pins s σ H x y v u Q I b c ⟨i,j,d,e,Ab a,q⟩
def YS {f:dH} {g:Heap} {tk:Nat} (I:Inv X pins σ H s) (e:∀ b∈f,Dp X pins H b) (k:∀ b o,b∉f->s.heap.get? b=some o->g.get? b=some o):Inv X pins σ H { s with heap:=g,toks:=tk }:=by
 have tr:∀ b u,H b=some u->b∉f:=λb u q a=>by rw [(e b a).1] at q;cases q
 refine I.step (g':=s.gens) (d':=s.drawn) (ch:=f) (λb a=>⟨(e b a).2.2.2.1,(e b a).2.1,(e b a).2.2.2.2.1,(e b a).2.2.2.2.2⟩) (λb o _ _ d q _=>k b o d q) (λb o _ _ d q _=>⟨o.slots,k b o d q⟩) (λ_ _ _ _ n=>n)
  (λb o d q=>⟨o,k b o d q⟩) (λ_ _ q=>q) (λ_ _ _ q=>q) (λb ps q=>⟨#[],by rw [q];simp⟩) (λm j=>?_) (λb u q=>?_) I.bare
 ·obtain ⟨o,p,r,w,x⟩:=j;exact ⟨o,p,r,k _ o (λa=>(e _ a).2.1 rfl) w,x⟩
 ·refine (I.hok b u q).stay (λc v d z=>?_) (λ_ z=>z) λ_ _ z=>z;rcases d with y | y
  ·subst y;exact k _ v (tr _ u q) z
  ·exact k c v (tr c _ y) z
def YT {h:dH} {g:Heap} {tk:Nat} {xs:d8} {its:dh} (I:Inv X pins σ H s) (e:∀ b∈h,Dp X pins H b) (k:∀ b o,b∉h->s.heap.get? b=some o->g.get? b=some o)
  (p:xs.length<=sizeLine) (r:Vals xs its) (w:g.get? s.heap.objs.size=some { cls:=.type "tuple", data:=.seq its.toArray }):Inv X pins σ (upd H s.heap.objs.size (.tup xs)) { s with heap:=g,toks:=tk }:=by
 have x:H s.heap.objs.size=none:=I.hok.fresh (AV _);have f:∀ b u,H b=some u->b≠s.heap.objs.size:=λb u q=>Ax q x;have tr:∀ b u,H b=some u->b∉h:=λb u q a=>by rw [(e b a).1] at q;cases q
 refine I.step (g':=s.gens) (d':=s.drawn) (ch:=h) (λb a=>⟨(e b a).2.2.2.1,(e b a).2.1,(e b a).2.2.2.2.1,(e b a).2.2.2.2.2⟩) (λb o _ _ d q _=>k b o d q) (λb o _ _ d q _=>⟨o.slots,k b o d q⟩) (λb o _ q n=>?_)
  (λb o d q=>⟨o,k b o d q⟩) (λb A q=>?_) (λb o u q=>?_) (λb ps q=>⟨#[],?_⟩) (λm B=>?_) (λb u q=>?_) I.bare
 ·rw [Au (BZ (nU q))];exact n
 ·rw [Au (f b _ q)];exact q
 ·rw [Au (f b _ q)];exact q
 ·rw [Au (f b _ q),q];simp
 ·obtain ⟨o,C,D,E,F⟩:=B;exact ⟨o,C,D,k _ o (λa=>(e _ a).2.1 rfl) E,F⟩
 ·by_cases a:b=s.heap.objs.size
  ·subst a;rw [upd_same] at q;cases q;exact ⟨p,its,r,⟨_,w,rfl,_,rfl⟩⟩
  ·rw [Au a] at q;refine (I.hok b u q).stay (λc v d z=>?_) (λc z=>by rw [Au (f c _ z)];exact z) λc A z=>by rw [Au (f c _ z)];exact z
   rcases d with y | y
   ·subst y;exact k _ v (tr _ u q) z
   ·exact k c v (tr c _ y) z
end
def YU (a b z c d e f:Addr) (i:Nat) (h:Heap):Prop:=IsZip h z c d .none/\IsPair h c (.ref e) (.ref f)/\(∃ u v,IsPair h d u v)/\h.IsListIter e a i/\h.IsListIter f b i
def YV {P:Program} {w:World} {K:W.Frag} {M:dC} {k:Nat} {Y:Pos} {a b z p r m n:Addr} (D:ZipApart z p r m n a b):Turn P w K (.Tuple M k Y) (bJ K a b) [z,p,r,m,n] z (YU a b z p r m n) where
 mem:=by simp
 obj:=λi h f c j=>by
  obtain ⟨G,F,⟨u,v,J⟩,⟨o4,B,_,d4⟩,⟨o5,C,_,d5⟩⟩:=f
  have d:c=z\/c=p\/c=r\/c=m\/c=n:=by simpa using j
  rcases d with rfl | rfl | rfl | rfl | rfl
  ·exact ⟨_,G,λv q=>nomatch q⟩
  ·exact ⟨_,F,λv q=>nomatch q⟩
  ·exact ⟨_,J,λv q=>nomatch q⟩
  ·exact ⟨_,B,λv q=>by rw [d4] at q;cases q⟩
  ·exact ⟨_,C,λv q=>by rw [d5] at q;cases q⟩
 keep:=λi h h' f N=>⟨N z (by simp) _ f.1,N p (by simp) _ f.2.1,let ⟨u,v,q⟩:=f.2.2.1;⟨u,v,N r (by simp) _ q⟩,f.2.2.2.1.at λo q=>N m (by simp) o q,f.2.2.2.2.at λo q=>N n (by simp) o q⟩
 item:=by
  intro X Z hw hK j i O s σ H E I S f hg
  subst Z hw hK
  obtain ⟨xs,ys,x,y,T,A,hx,hy⟩:=hg
  obtain ⟨G,F,⟨u0,v0,J⟩,B,C⟩:=f
  obtain ⟨Q,rv,p1,_⟩:=I.list T
  obtain ⟨a0,rw',p2,_⟩:=I.list A
  obtain ⟨u,hu,ru⟩:=rv.get hx
  obtain ⟨v,hv,a3⟩:=rw'.get hy
  refine wpAny_pyNext_zip_item D G F J B C p1.isList p2.isList (x:=u) (y:=v) (by simpa using hu) (by simpa using hv) λg g1 g2 g3 g4 g5 _ U=>?_
  refine ⟨_,rfl,wpAny_letOwnedTupleGo_zip g1 λg' z1 L=>?_⟩
  have lz:z<s.heap.objs.size:=nU G
  have R:∀ c o,c∉[z,p,r,m,n]->s.heap.get? c=some o->g'.get? c=some o:=λc o j q=>by
   have d:¬ (c=z\/c=p\/c=r\/c=m\/c=n):=by simpa using j
   exact L.extBut c o (λe=>d (.inl e)) (U c o (λe=>d (.inl e)) (λe=>d (.inr (.inr (.inl e)))) (λe=>d (.inr (.inr (.inr (.inl e))))) (λe=>d (.inr (.inr (.inr (.inr e))))) q)
  have I1:=YT (g:=g') (tk:=s.toks) (xs:=[x,y]) (its:=[u,v]) I S R (sz (by simp)) (.cons ru (.cons a3 .nil)) (L.extBut _ _ (Nat.ne_of_gt lz) g5)
  refine ⟨.ref s.heap.objs.size,_,I1,rfl,⟨_,x,y,I.hok.fresh (AV _),rfl,rfl,λzs hz=>by rw [I.list_inj hz T];exact hx,λzs hz=>by rw [I.list_inj hz A];exact hy⟩,⟨z1,?_,⟨u,v,L.extBut _ _ D.TOz g2⟩,g3.at λo q=>L.extBut m o D.i1z q,g4.at λo q=>L.extBut n o D.i2z q⟩,λc j=>?_⟩
  ·exact L.extBut _ _ D.TIz (U _ _ D.TIz D.TITO D.TIi1 D.TIi2 F)
  ·rw [Au]
   ·exact (S c j).1
   ·have d:c=z\/c=p\/c=r\/c=m\/c=n:=by simpa using j
    obtain ⟨o4,B,_⟩:=B
    obtain ⟨o5,C,_⟩:=C
    rcases d with rfl | rfl | rfl | rfl | rfl
    ·exact BZ lz
    ·exact BZ (nU F)
    ·exact BZ (nU J)
    ·exact BZ (nU B)
    ·exact BZ (nU C)
 done:=by
  intro X Z hw hK j i O s σ H E I S f hg
  subst Z hw hK
  obtain ⟨xs,ys,T,A,hx⟩:=hg
  obtain ⟨G,F,⟨u0,v0,J⟩,B,C⟩:=f
  obtain ⟨Q,rv,p1,_⟩:=I.list T
  obtain ⟨a0,_,p2,_⟩:=I.list A
  have hl:=rv.length
  refine wpAny_pyNext_zip_end (I.ok.hd j) D G F J B C p1.isList p2.isList (.inl (by simp;omega)) λg U=>⟨rfl,YS (tk:=s.toks) I S λc o j q=>?_⟩
  have d:¬ (c=z\/c=p\/c=r\/c=m\/c=n):=by simpa using j
  exact U c o (λe=>d (.inl e)) (λe=>d (.inr (.inr (.inl e)))) (λe=>d (.inr (.inr (.inr (.inl e))))) (λe=>d (.inr (.inr (.inr (.inr e))))) q
 self:=λ_ _ _ _ _ f h=>wpAny_pyIter_zip f.1 h
section
variable {X:Cx} {elts:dC} {k:Nat} {tpos:Pos} {a b:Expr} {ta:TA} {p pos:Pos}
def vals2 {x y:V} {c:dh} (r:Vals [x,y] c):∃ u v,c=[u,v]/\RelV x u/\RelV y v:=r.two
def Fj (C:Gl X "zip") (E:X.mg "zip" = none) (F:PA X [a,b] ta) (G:starEach [a,b] X.env=(false,eval a X.env)::starEach [b] X.env:=by rfl) (j:(backTo pos (starEach [b] X.env)).any (·.1)=false:=by rfl):PI X (.Tuple elts k tpos) (.Call (.Name "zip" p) [a,b] [] pos) (EA X.K ta):=by
 intro e s n H R I h;refine Call_ (Ee I C E Xv (PyProof.Rows.callWith_type1 (E_ (F pos e s n H _ I h) λus d ⟨vs,o,f,J,K⟩=>?_) G j));obtain ⟨r,w,rfl,⟨xs,L⟩,⟨ys,m⟩,q⟩:=K;obtain ⟨u,v,rfl,M,N⟩:=vals2 J;cases M;cases N;obtain ⟨O,_,x,_⟩:=f.list L;obtain ⟨P,_,y,_⟩:=f.list m;refine call_zip_2 x.isList y.isList λg A Q S T U _ W=>?_;have Y:Inv X e n o { d with heap:=g }:=f.kept (t':=d.toks) W;have n1:@LT.lt Nat _ r d.heap.objs.size:=x.lt;have n2:@LT.lt Nat _ w d.heap.objs.size:=y.lt
 have D:ZipApart (d.heap.objs.size+4) (d.heap.objs.size+2) (d.heap.objs.size+3) d.heap.objs.size (d.heap.objs.size+1) r w:=by
  constructor <;> (show (_:Nat)≠_;omega)
 refine wpAny_pyIter_zip A ⟨_,[d.heap.objs.size+4,d.heap.objs.size+2,d.heap.objs.size+3,d.heap.objs.size,d.heap.objs.size+1],_,_,o,rfl,Y,YV D,⟨A,Q,⟨_,_,S⟩,T,U⟩,λc Z=>?_,q⟩
 have i:d.heap.objs.size<=c:=by
  have z:c=d.heap.objs.size+4\/c=d.heap.objs.size+2\/c=d.heap.objs.size+3\/c=d.heap.objs.size\/c=d.heap.objs.size+1:=by simpa using Z
  rcases z with z | z | z | z | z <;> rw [z] <;> first | exact Nat.le_add_right _ _ | exact AV _
 exact f.fpOk i (f.hok.fresh i)
end
def OT:bootBuiltins "any" = some (.builtin "any"):=by decide +kernel
theorem IK:∀ {ns:de} {a:dh} {i:Nat} {u:Value},Vals (ns.map V.int) a->a[i]?=some u->∃ n t,ns[i]?=some n/\u=Value.int n t
 | [],_,_,_,.nil,e=>by simp at e
 | n::ns,_,0,_,.cons r _,e=>by
   simp at e;subst e;obtain ⟨t,rfl⟩:=r;exact ⟨n,t,rfl,rfl⟩
 | _::ns,_,i+1,u,.cons _ r,e=>by
   obtain ⟨n,t,b,c⟩:=IK (i:=i) (u:=u) r (by simpa using e);exact ⟨n,t,by simpa using b,c⟩
section
variable {X:Cx}
def OU (w:X.calm=true):Cu X (.builtin "any") Jm:=λj s L H M N Q I r ⟨p,c,e,hp,q⟩=>by
 subst e;obtain ⟨u,rfl,y⟩:=EO r;cases y;obtain ⟨a,k,pl,O⟩:=I.list (SqL.of hp);have P:c.length=a.length:=by have:=k.length;simpa using this
 refine call_any_walk (wpAny_pyIter_list pl.isList ⟨s.heap.objs.size,[s.heap.objs.size,p],[s.heap.objs.size],a.toArray.size,_,_,λi=>!decide (c.getD i 0=0),rfl,Walks.list (A:=X.A.in1) (show X.A.in1.handled=none from I.ok.hd w) s.heap.objs.size p (BZ pl.lt) _,⟨⟨_,Heap.get?_push_size _ rfl,rfl,rfl⟩,pl.isList.push _⟩,?_,λg R B=>?_⟩)
 ·intro i v C D S E f;obtain ⟨n,t,F,rfl⟩:=IK k (show a[i]?=some v by simpa using E);have e:c.getD i 0=n:=by rw [AI,F];rfl
  replace f:D (!decide (c.getD i 0=0)) C:=f;rw [e] at f;refine PySem.P.truthy_int ?_;have G:(n != 0)=!decide (n=0):=by rw [Bool.eq_iff_iff];simp
  rw [G];exact f
 ·have J:∀ b o,s.heap.get? b=some o->g.get? b=some o:=λb o e=>B b o (λz=>absurd (nU e) (by rw [BL.mp z];exact Dw _)) (Heap.get?_push_of_some _ e);refine ⟨_,H,I.kept J,?_,q⟩;show Value.bool _=Value.bool _;congr 1;rw [Bool.eq_iff_iff];simp only [List.any_eq_true,C5,Ba];constructor
  ·rintro ⟨i,m,h⟩;have d:i<c.length:=by omega
   rw [AI,AT d] at h;exact ⟨c[i],CT d,h⟩
  ·rintro ⟨x,K,h⟩;obtain ⟨i,m,rfl⟩:=List.getElem_of_mem K;refine ⟨i,⋯,?_⟩;rw [AI,AT m];exact h
end
section
variable {prog:Program} {w:World} {A:Around} {R:Result->Shared->Prop} {I:Addr} {fp wr:dH} {n:Nat} {P:Nat->Value->Prop} {St:Nat->Heap->Prop} {d:Value}
theorem LJ (W:Walks prog w A.in1 I fp wr n P St) (G:Nat->Nat->Bool) (a:CmpOf prog w A.in1 .Lt P G) (S:Addr) (f:S∉fp):∀ (k j q:Nat) (s:Shared) (h:Value) (c:Nat),n - j=k->j<=n->St j s.heap->q<n->P q h->
  s.heap.get? S=some { cls:=.type "list", dict:=none,data:=.seq #[h,h] c,slots:=#[] }->
  (∀ q v H J,q<n->P q v->(∀ b o,b∉wr->b≠S->s.heap.get? b=some o->H.get? b=some o)->R (.ok (.ret v)) { s with heap:=H,toks:=J })->
  codeAny (model prog w) A (.builtin "min.loop" ⟨[.ref I,.none,.ref S],[("default", d)]⟩) R s
 | 0,j,q,s,h,c,hk,Z,r,N,i,D,K=>by
   have L:j=n:=by omega
   refine codeAny_builtin F.entry_min_loop ?_;rw [Around.under_plainId F.plain_min_loop _];refine nO (m:=seqItems? (.ref S)) (wpAny_seqItems D rfl ?_);refine nO (m:=tryCatch (pyNext (.ref I)) _) (wpAny_tryCatch (W.done s _ _ (L ▸ r) λH J kp=>?_));have g:=kp S _ (λz=>f (W.sub _ z)) D;refine nO (m:=updateSeq S (λ_=>#[])) (wpAny_updateSeq g rfl (nO (wpAny_letGo (nP ?_))));exact K q h _ J N i λb o u E e=>(Heap.get?_update_other _ _ E.symm).trans (kp b o u e)
 | k+1,j,q,s,h,c,hk,Z,r,N,i,D,K=>by
   have L:j<n:=by omega
   refine codeAny_builtin F.entry_min_loop ?_;rw [Around.under_plainId F.plain_min_loop _];refine nO (m:=seqItems? (.ref S)) (wpAny_seqItems D rfl ?_);refine nO (m:=tryCatch (pyNext (.ref I)) _) (wpAny_tryCatch (W.item j s _ _ L r λv H J X p kp=>?_));have g:=kp S _ (λz=>f (W.sub _ z)) D;refine nO (m:=tryCatch (holding [v,v] (richCompare .Lt v h >>= _)) _) (wpAny_tryCatch (wpAny_holding (nO (a j q v h _ _ _ X i ?_))));refine nO (wpAny_holding (wpAny_truthy_bool (nO (wpAny_letGo (nP ?_)))));have Y:(toString "min" ++ toString ".loop" : String) = "min.loop" := by decide
   cases G j q with
   | true=>
     simp only [if_true];refine nO (wpAny_updateSeq g rfl (nO (wpAny_letGo ?_)));rw [Y];refine nP ⟨plainId_quiet F.plain_min_loop _,LJ W G a S f k (j+1) j _ v _ ⋯ ⋯ (W.frame _ _ _ p λb hb o e=>(Heap.get?_update_other _ _ (λz:S=b=>f (by rw [z];exact hb))).trans e) L X (Heap.get?_update_self _ g rfl) λO Q E x y B C=>?_⟩;exact K O Q E x y B λb o u M e=>C b o u M ((Heap.get?_update_other _ _ M.symm).trans (kp b o u e))
   | false=>
     simp only [Bool.false_eq_true,if_false];refine nO (wpAny_letGo ?_);rw [Y];exact nP ⟨plainId_quiet F.plain_min_loop _,LJ W G a S f k (j+1) q _ h c ⋯ ⋯ p N i g λO Q E x y B C=>K O Q E x y B λb o u M e=>C b o u M (kp b o u e)⟩
def YW (W:Walks prog w A.in1 I fp wr n P St) (B:Nat->Nat->Bool) (f:CmpOf prog w A.in1 .Lt P B) (S:Addr) (a:S∉fp) {s:Shared} {c:Nat} (g:St 0 s.heap)
  (C:s.heap.get? S=some { cls:=.type "list", dict:=none,data:=.seq #[] c,slots:=#[] })
  (D:∀ v h k,(n=0/\v=d\/∃ q,q<n/\P q v)->(∀ b o,b∉wr->b≠S->s.heap.get? b=some o->h.get? b=some o)->R (.ok (.ret v)) { s with heap:=h,toks:=k }) :
  codeAny (model prog w) A (.builtin "min.loop" ⟨[.ref I,.none,.ref S],[("default", d)]⟩) R s:=by
 refine codeAny_builtin F.entry_min_loop ?_;rw [Around.under_plainId F.plain_min_loop _];refine nO (m:=seqItems? (.ref S)) (wpAny_seqItems C rfl ?_);rcases Er n with z | z
 ·refine nO (m:=tryCatch (pyNext (.ref I)) _) (wpAny_tryCatch (W.done s _ _ (z ▸ g) λh k kp=>?_));refine nO (wpAny_rule (nP ?_));exact D d h k (.inl ⟨z,rfl⟩) λb o p _ e=>kp b o p e
 ·refine nO (m:=tryCatch (pyNext (.ref I)) _) (wpAny_tryCatch (W.item 0 s _ _ z g λv h k J i kp=>?_));have j:=kp S _ (λz=>a (W.sub _ z)) C;have K:(toString "min" ++ toString ".loop" : String) = "min.loop" := by decide
  refine nO (m:=updateSeq S (λ_=>#[v,v])) (wpAny_updateSeq j rfl ?_);rw [K];refine nP ⟨plainId_quiet F.plain_min_loop _,LJ W B f S a _ 1 0 _ v _ rfl z (W.frame _ _ _ i λb L o e=>(Heap.get?_update_other _ _ (λz:S=b=>a (by rw [z];exact L))).trans e) z J (Heap.get?_update_self _ j rfl) λM N O r u x y=>?_⟩;exact D N O r (.inr ⟨M,u,x⟩) λb o p H e=>y b o p H ((Heap.get?_update_other _ _ H.symm).trans (kp b o p e))
end
def YX (a v:Value):argsOk "min" ⟨[a],[("default", v)]⟩:=by unfold argsOk;kernel_rfl
section
variable {X:Cx} {e:Expr} {te:TE} {p pos kp1 kp2:Pos} {kk:Nat}
abbrev aM (i:Int):TE:=tC (.int i)
abbrev bA (s:Sp) (t:TA):TE:=AR s [] E0 t
def YY (R:X.calm=true) (S:X.mg "min" = none) (T:bootBuiltins "min" = some (.builtin "min")) (U:PE X e te) (Y:Gl X "min" := by rfl)
  (hs:starEach [e] X.env=(false,eval e X.env)::starEach [] X.env:=by rfl) (k:backTo pos (starEach [e] X.env)=(false,eval e X.env)::backTo pos (starEach [] X.env):=by rfl):PE X (.Call (.Name "min" p) [e] [⟨some "default", .Constant (.int 0) kk kp1,kp2⟩] pos) (LI te):=by
 intro f s K H Q I h;refine wpAny_Call_Name_kw (Ee I Y S T ?_ ∅ ∅);refine PyProof.Rows.callWith_kw ?_ k (by rw [k];rfl);rw [k];refine Calls.spliced_cons (E_ (U f s K H _ I h) λu Z ⟨x,L,I1,r1,q1⟩=>Calls.spliced_nil ?_);have kw:PK X [⟨some "default", .Constant (.int 0) kk kp1,kp2⟩] (AC (aM 0) AD):=V4 AO V3;refine E_ (kw pos f Z K L (λvs M=>vs=[.int 0]/\M=L) I1 ⟨rfl,rfl⟩) λws c ⟨zs,M,r,rz,ez,eh⟩=>?_;subst ez eh;obtain ⟨z,rfl,t,rfl⟩:=EO rz;obtain ⟨l,N,rfl,hl,q⟩:=q1;cases r1;obtain ⟨d,y,pl,hz⟩:=r.list (SqL.of hl);have a0:N.length=d.length:=by have:=y.length;simpa using this
 have nm:(toString "min" ++ toString ".loop" : String) = "min.loop" := by decide
 refine kmb_tree F.kind_min F.plain_min F.entry_min (YX _ _) ?_;refine nO (m:=Builtin.Builtins.bindParams "min" ["key","default"] 0 ⟨[],[("default", Value.int 0 t)]⟩) (wpAny_of_eq (a:=[none,some (Value.int 0 t)]) rfl ?_);refine nO (nP (nO (wpAny_pyIter_list pl.isList ?_)));refine nO (wpAny_newObj_type ?_);rw [nm];have B:l<c.heap.objs.size:=pl.lt;have O:(c.heap.push { cls:=.type "list_iterator", data:=.fields #[.ref l,.int 0 0] }).objs.size=c.heap.objs.size+1:=Heap.size_push ..;have W:=Walks.list (prog:=X.prog) (w:=X.w) (A:=X.A.in1) (show X.A.in1.handled=none from r.ok.hd R) c.heap.objs.size l (BZ B) d.toArray;refine nP ⟨plainId_quiet F.plain_min_loop _,YW W _ (CmpOf.ints_lt (λi=>N.getD i 0) λi v C=>?_) _ ?_ ⟨⟨_,Heap.get?_push_of_some _ (Heap.get?_push_size _ rfl),rfl,rfl⟩,(pl.isList.push _).push _⟩ (Heap.get?_push_size _ rfl) λv g tk D gk=>?_⟩
 ·obtain ⟨n,E,G,rfl⟩:=IK y (show d[i]?=some v by simpa using C);exact ⟨E,by rw [AI,G];rfl⟩
 ·rw [O]
  have:¬ (c.heap.objs.size+1=c.heap.objs.size\/c.heap.objs.size+1=l):=λz=>by
   rcases z with z | z
   ·exact absurd z (Nat.succ_ne_self _)
   ·rw [<-z] at B;exact absurd B (Nat.not_lt.mpr (Nat.le_succ _))
  simpa using this
 ·have J:∀ b o,c.heap.get? b=some o->g.get? b=some o:=λb o e=>by
   have j:b<c.heap.objs.size:=nU e;refine gk b o (λz=>?_) (λz=>?_) (Heap.get?_push_of_some _ (Heap.get?_push_of_some _ e))
   ·rw [BL.mp z] at j;exact absurd j (Dw _)
   ·rw [z,O] at j;exact absurd j (Nat.not_lt.mpr (Nat.le_succ _))
  have P:=r.kept (t':=tk) J;rcases D with ⟨z,rfl⟩ | ⟨i,hi,C⟩
  ·exact ⟨.int 0,_,P,⟨t,rfl⟩,q 0 (.inl ⟨CU.mp (by rw [Ba] at z;omega),rfl⟩)⟩
  ·obtain ⟨n,E,G,rfl⟩:=IK y (show d[i]?=some v by simpa using C);exact ⟨.int n,_,P,⟨E,rfl⟩,q n (.inr (BC G))⟩
end
end Bs
namespace Bs
open PySem L2
def sS (K:W.Frag):V->Option Int->Option Int->Hp->VK->Prop:=λx lo c H Q=>∃ a b,x=.ref a/\SqL K H a b/\∀ p,H p=none->Q (.ref p) (upd H p (.lst (CO b lo c)))
def OV:d8->Hp->VK->Prop:=λb H Q=>∃ (p:Addr) (a:de),b=[.ref p]/\H p=some (.lst (a.map V.int))/\Q (.int a.sum) H
end Bs
namespace Bs
open PySem PySem.Spec PyProof.Rows L2
section
variable {X:Cx}
def YZ:OpR X (inplaceOp .FloorDiv) ES:=by
 intro a s g H x y v u Q I b c ⟨i,j,d,e,f,q⟩;subst d e;obtain ⟨t,rfl⟩:=b;obtain ⟨h,rfl⟩:=c;exact ifloordiv_int f ⟨.int (i.fdiv j),H,I.tok _,⟨_,rfl⟩,q⟩ (Or.inr (I.ok.plr s I.bk))
def Yb:OpR X (inplaceOp .FloorDiv) Em:=by
 intro a s c H x y v u Q I d e ⟨i,j,f,g,h,q⟩;have b:0<j:=h;replace q:Q (.int (i / j)) H:=q;rw [<-EI i (EH b)] at q;exact YZ a s c H x y v u Q I d e ⟨i,j,f,g,Ab b,q⟩
theorem OW (ns:de):∀ k,k<=ns.length->preSum (λi=>ns.getD i 0) k=(ns.take k).sum
 | 0,_=>rfl
 | k+1,h=>by
   have e:ns.take (k+1)=ns.take k++[ns.getD k 0]:=by
    rw [DY,AI,AT ⋯];rfl
   show preSum _ k+_=_;rw [e,OW ns k ⋯,List.sum_append];simp
def Yc (h:X.calm=true):Cu X (.builtin "sum") OV:=λd s D H E F Q I r ⟨p,a,e,hp,q⟩=>by
 subst e;obtain ⟨u,rfl,j⟩:=EO r;cases j;obtain ⟨c,f,pl,G⟩:=I.list (SqL.of hp);have k:a.length=c.length:=by have:=f.length;simpa using this
 refine call_sum_walkG (wpAny_pyIter_list pl.isList ⟨s.heap.objs.size,[s.heap.objs.size,p],[s.heap.objs.size],c.toArray.size,_,_,λi=>a.getD i 0,rfl,Walks.list (A:=X.A.in1) (show X.A.in1.handled=none from I.ok.hd h) s.heap.objs.size p (BZ pl.lt) _,⟨⟨_,Heap.get?_push_size _ rfl,rfl,rfl⟩,pl.isList.push _⟩,?_,?_,λg J t m=>?_⟩)
 ·intro b w;have z:b=s.heap.objs.size\/b=p:=by simpa using w
  rcases z with z | z
  ·rw [z];exact nU (Heap.get?_push_size _ rfl)
  ·obtain ⟨o,_,x,_⟩:=pl;rw [z];exact nU (Heap.get?_push_of_some _ x)
 ·intro i v y;obtain ⟨n,t,B,rfl⟩:=IK f (show c[i]?=some v by simpa using y);have e:a.getD i 0=n:=by rw [AI,B];rfl
  exact ⟨t,by show Value.int n t=Value.int (a.getD i 0) t;rw [e]⟩
 ·have C:∀ b o,s.heap.get? b=some o->g.get? b=some o:=λb o e=>m b o (λz=>absurd (nU e) (by rw [BL.mp z];exact Dw _)) (Heap.get?_push_of_some _ e);refine ⟨.int a.sum,H,I.kept C,⟨t,?_⟩,q⟩;have e:=OW a a.length (AV _);rw [CA] at e;rw [Ba,<-k,e]
end
end Bs
namespace Bs
open PySem L2
def Yd (n:Nat) (t:aR):TG:=λv c H Q=>∃ a b,v=.ref a/\H a=some (.lst b)/\b.length=n/\t b c H Q
end Bs
namespace Bs
open PySem PySem.Spec PyProof.Rows L2
def Ye {m n:Nat} {a b:Int} (c:Bd m a) (d:Bd n b) (h:m+n<=134217728):IntMulOk a b:=IntMulOk.of_le (OB c) (OB d) h
end Bs
namespace Bs
open PySem L2
def Yg (i j k:Nat) (b:TA):TS:=λD a H=>b a H λc d=>∃ u v w,c=[u,v,w]/\D.nx (((a.set i (some u)).set j (some v)).set k (some w)) d
def inD (neg:Bool):R2:=λx y H Q=>∃ (p:Addr) (c:d8) (d:W.Dat) (a:List W.Dat) (b:Bool),y=.ref p/\H p=some (.lst c)/\RepD H x d/\RepA H c a/\W.kqdOk 8 d=true/\(∀ e∈a,W.kqdOk 8 e=true)/\(b=true↔d∈a)/\Q (.bl (if neg=true then !b else b)) H
end Bs
namespace Bs
open PySem PySem.Spec PyProof.Rows L2
def Yh {d:W.Dat} {a:List W.Dat} {b:Bool} (c:W.kqdOk 8 d=true) (f:∀ e∈a,W.kqdOk 8 e=true) (g:b=true↔d∈a):((W.kqdPs a).any λy=>PyData.eqv y (W.kqdP d))=b:=by
 rw [Bool.eq_iff_iff,g];exact W.kqd_any a d f c
def Yi {X:Cx} (F:X.A.units+64<cLine):OpR X (compareOp .NotIn) (inD true):=by
 intro a s G H x y v u Q I g i h;obtain ⟨p,J,d,j,b,e,hp,k,m,c,f,r,q⟩:=h;subst e;obtain ⟨as,w⟩:=GV I k g;cases i;obtain ⟨z,A,pl,_⟩:=I.list (SqL.of hp);obtain ⟨K,B⟩:=Ji I m A;obtain ⟨o,n,C,D,_,E⟩:=pl;have l:=W.kqd_layL f;have ld:=W.kqd_lay 8 d c;have L:=ld.2;refine SeqAt.notIn_list_reads (reads_list_at C D E (by simpa using B)) w l.1 ld.1 ?_ (by rw [Yh c f r];exact ⟨.bl (!b),H,I,rfl,q⟩);have:=Nat.min_le_right (PyData.depthAll (W.kqdPs j)) (W.kqdP d).depth;omega
end Bs
namespace Bs
open PySem L2
noncomputable def Yj (a:List (Y_×V)) (k:Y_):dc:=(a.find? λb=>b.1=k).map (·.2)
def gD:R2:=λx y H Q=>∃ p k a v,x=.ref p/\y=.str k/\H p=some (.dK a)/\Yj a (.inr k)=some v/\Q v H
noncomputable def blN (i:Int):Nat:=if i=0 then 0 else i.natAbs.log2+1
def OX:R2:=rI (λi j=>0<=j/\(blN i:Int)+j<=134217728) λi j=>.int (i*2 ^ j.toNat)
def OY:V->d8->Hp->VK->Prop:=λx a H Q=>∃ i:Int,x=.int i/\a=[]/\Q (.int (blN i)) H
end Bs
namespace Bs
open PySem PySem.Spec PyProof.Rows L2
section
variable {X:Cx}
def OZ (i:Int):Builtin.Int.intBits i=blN i:=by unfold Builtin.Int.intBits blN;by_cases h:i=0 <;> simp [h]
def Yk:OpR X (binaryOp .LShift) OX:=b8 λ_ _ _ _ _ _ _ a q=>lshift_int a.1 (by rw [OZ];exact a.2) q
def Yl:MtR X "int.bit_length" OY:=by
 intro a s d H x e v f Q I b c h;obtain ⟨i,rfl,rfl,q⟩:=h;obtain ⟨t,rfl⟩:=b;cases c;exact call_int_bit_length ⟨.int (blN i),H,I.tok _,⟨_,by rw [OZ]⟩,q⟩
end
section
variable {X:Cx} {pins:dq} {σ:L2.St} {H:Hp} {s:Shared} {N:dE} {capt:List (Option Nat)} {scope:Scope} {cl:List (Str×Addr)} {C:Addr} {fp:dH}
def LK:TT:=λ_ H Q=>Q true H
def cL (X:Cx) (cs:dC) (tc:TT):Prop:=∀ (pins:dq) (s:Shared) (σ:L2.St) (H:Hp) (Q:Bool->Hp->Prop),Inv X pins σ H s->tc σ H Q->
 wpAny (model X.prog X.w) X.A (forIn cs true λc r=>if r=true then do let ok <-isTrue c X.env (eval c X.env);pure (ForInStep.yield ok) else pure (ForInStep.yield r)) (λb d=>∃ a,Inv X pins σ a d/\Q b a) X.xe s
def Oa {X:Cx}:cL X [] LK:=λ_ s _ H _ I h=>wpAny_tests_nil ⟨H,I,h⟩
def Ob {X:Cx} {c:Expr} {tc:TT} (h:L2.PT X c tc):cL X [c] tc:=λpins s σ H Q I q=>wpAny_tests_one (h pins s σ H Q I q)
theorem Ym {prog:Program} {w:World} {A:Around} {R:Result->Shared->Prop} {s:Shared} {y a i:Expr} {cs:dC} {scope:Scope} {E:Pos} {M z:Value} {b:Env} (I:Nat->Shared->Prop)
  (F:∀ n s,I n s->wpAny (model prog w) A (pyNext M) (λr d=>match r with
   | none=>R (.ok .next) d
   | some v=>wpAny (model prog w) A (letOwnedTupleGo a M v) (λ_ j=>wpAny (model prog w) A (assign a b v) (λ_ k=>wpAny (model prog w) A (forIn cs true λc r=>if r=true then do let ok <-isTrue c b (eval c b);pure (ForInStep.yield ok) else pure (ForInStep.yield r)) (λB g=>if B=true then wpAny (model prog w) A (eval y b) (λx o=>
     wpAny (model prog w) A (call (.builtin "list.append") [z,x]) (λ_ p=>∃ m,m<n/\I m p) (λ_ _=>False) o) (λ_ _=>False) g else ∃ m,m<n/\I m g) (λ_ _=>False) k) (λ_ _=>False) j) (λ_ _=>False) d) (λ_ _=>False) s)
  (n:Nat) (h:I n s):codeAny (model prog w) A (.compLoop (.ListComp y [⟨a,i,cs,0⟩] scope E) 0 M z b) R s:=by
 refine codeAny_loop rfl I (λn s P=>?_) n h;show wpAny _ A ((compTurn (.ListComp y [⟨a,i,cs,0⟩] scope E) 0 M z b).onRaise (λx=>do noteFrame x b;theTreesLotGoes x)) _ _ s;refine wpAny_noted ?_;rw [compTurn_list];have D:∀ {Q:dj} (e:Value) (O:Shared),(λ(_:Value) (_:Shared)=>False) e O->Q e O:=λ_ _ f=>f.elim;refine nO (wpAny_standAt (nO (nQ (F n s P) (λr d q=>?_) D)));cases r with
 | none=>exact nP q
 | some v=>
   refine nO (nQ q (λ_ j G=>?_) D);refine nO (nQ G (λ_ g J=>nO (nQ J (λB k u=>?_) D)) D);cases B with
   | false=>exact nP ⟨rfl,u⟩
   | true=>exact nO (nO (nQ u (λx o K=>nO (nQ K (λ_ p L=>nP (nP ⟨rfl,L⟩)) D)) D))
def LM {ab A tg:Expr} {cs:dC} {tc:TT} {an:Pos} {wi:TI} {g:TG} {te:TE} {pins:dq} {s:Shared} {σ:L2.St} {H:Hp} {Q:VK} (RR:Value->Addr->Result->Shared->Prop) (hc:X.calm=true) (B:BlkOk X N capt scope cl) (hi:PI X tg A wi)
  (hg:∀ C s H fp,PG (Q_ X N scope cl C s H fp) tg g) (ht:∀ C s H fp,cL (Q_ X N scope cl C s H fp) cs tc) (he:∀ C s H fp,PE (Q_ X N scope cl C s H fp) ab te) (I:Inv X pins σ H s) (h:Fh wi capt g tc te σ H Q)
  (bi:∀ (D C:Addr) (Z:Shared) (Hq:Hp) (m:dz),Inv X pins σ Hq Z->Q (.ref D) Hq->Z.heap.Ns C m->Hq C=none->C≠X.env.locals->X.s₀.heap.objs.size<=C->(∀ x c,X.env.cells.lookup x=some c->c≠C)->(∀ p∈X.pn++pins,p.1≠C)->RR (.ref D) C (.ok .next) Z) :
  wpAny (model X.prog X.w) X.A (eval A X.env) (λx ao=>wpAny (model X.prog X.w) X.A (pyIter x) (λit ap=>wpAny (model X.prog X.w) X.A (newList []) (λaq ar=>
   wpAny (model X.prog X.w) X.A (newFunctionEnv scope X.env.globals cl [] X.env.qual none .none (some X.env)) (λa0 b0=>
    codeAny (model X.prog X.w) X.A (.compStart (.ListComp ab [⟨tg,A,cs,0⟩] scope an) 0 it aq { a0 with scope:=relabel scope X.env }) (RR aq a0.locals) b0) X.xe ar) X.xe ap) X.xe ao) X.xe s:=by
 refine E_ (hi pins s σ H _ I h) λv s1 h1=>E_ h1 λbw d h2=>?_;obtain ⟨it,fp,tn,J,M,e,E,T,ac,S,n0,W,w0,b1⟩:=h2;subst e;have fl:∀ b∈fp,b<d.heap.objs.size:=λb a=>by obtain ⟨o,e,_⟩:=T.obj _ _ ac b a;exact nU e
 refine wpAny_newObj_type (wpAny_newFunctionEnv B.nocell (by intro y hy;simp at hy) (λF w j=>?_) B.kind);dsimp only at w j ⊢;generalize hG:d.heap.push { cls:=.type "list", dict:=none,data:=.seq ([]:dh).toArray }=G at w j ⊢;have hC:G.objs.size=d.heap.objs.size+1:=by rw [<-hG,Heap.size_push]
 have K:d.heap.objs.size<=G.objs.size:=by rw [hC];exact Nat.le_succ _
 have U:d.heap.objs.size≠G.objs.size:=by rw [hC];exact BZ (ED _)
 have aj:∀ b o,d.heap.get? b=some o->F.get? b=some o:=λb o e=>j.extBut b o (by rw [hC];exact BZ (Nat.lt_succ_of_lt (nU e))) (Heap.get?_push_of_some _ (hG ▸ Heap.get?_push_of_some _ e));have b2:F.get? d.heap.objs.size=some { cls:=.type "list", data:=.seq ([]:dh).toArray }:=j.extBut _ _ U (Heap.get?_push_of_some _ (hG ▸ Heap.get?_push_size _ rfl));have al:=OG B E S fl K
 have bj:d.heap.objs.size∉ak X.stack:=λa=>by
  rcases Ep.mp (E.stkSub _ a) with z | z
  ·exact absurd E.lt (by rw [<-z];exact Dw _)
  ·exact E.nofs (AV _) z
 have bk:∀ x c,cl.lookup x=some c->c≠d.heap.objs.size:=λx c e z=>by
  obtain ⟨v,q⟩:=E.cell x c (B.cells x c e);exact absurd q.lt (by rw [z];exact Dw _)
 have b3:∀ b∈fp,d.heap.objs.size≠b:=λb a z=>absurd (fl b a) (by rw [<-z];exact Dw _);have b4:Inv (Q_ X N scope cl G.objs.size d M fp) [] (Ch capt σ) M { d with heap:=F,toks:=d.toks+([]:List (Str×Value)).length }:=X7 B E S fl K w aj
 have a5:codeAny (model X.prog X.w) X.A (.compLoop (.ListComp ab [⟨tg,A,cs,0⟩] scope an) 0 (.ref it) (.ref d.heap.objs.size) (compEnvC scope cl G.objs.size X.env))
   (RR (.ref d.heap.objs.size) G.objs.size) { d with heap:=F,toks:=d.toks+([]:List (Str×Value)).length }:=by
  refine Ym (λn s'=>∃ (i:Nat) (Y:d8) (f:dh) (k:Nat) (O:Hp),Inv (Q_ X N scope cl G.objs.size d M fp) [] (Ch capt σ) O s'/\s'.heap.get? d.heap.objs.size=some { cls:=.type "list", data:=.seq f.toArray k }/\Vals Y f/\
   O d.heap.objs.size=none/\tn i s'.heap/\(∀ b∈fp,O b=none)/\W i Y O/\n=n0 - i) ?_ n0 ⟨0,[],[],0,M,b4,b2,.nil,E.hok.fresh (AV _),T.keep _ _ _ ac (λb _ o e=>aj b o e),λb a=>(S b a).1,w0,rfl⟩
  rintro n s3 ⟨i,Y,f,k,O,I3,hD,hv,nD,b5,b6,w3,en⟩;obtain ⟨_,hl,b7⟩:=b1 i Y O w3;have hz:f.toArray.size<=sizeLine:=by rw [Ba,<-hv.length];exact hl
  have b9:Inv (Q_ X N scope cl G.objs.size d M fp) [(d.heap.objs.size,{ cls:=.type "list", data:=.seq f.toArray k })] (Ch capt σ) O s3:=I3.pins_of λp hp=>by
   rw [BL] at hp;subst hp;exact ⟨hD,nD,U,bj,λv z=>nomatch z⟩
  have am:∀ {Hx:Hp} (_:∀ b∈fp,Hx b=none),∀ b∈fp,Dp (Q_ X N scope cl G.objs.size d M fp) [(d.heap.objs.size,{ cls:=.type "list", data:=.seq f.toArray k })] Hx b:=λhx b a=>
   ⟨hx b a,(al.exf b a).1,al.exfs b a,.inl a,(al.exf b a).2,λp hp=>by
    have ba:p∈[((d.heap.objs.size,{ cls:=.type "list", data:=.seq f.toArray k }):Addr×Obj)]:=hp;rw [BL] at ba;subst ba;exact b3 b a⟩
  rcases b7 with ⟨bb,q⟩ | ⟨bx,go,bl⟩
  ·refine E_ (T.done (Q_ X N scope cl G.objs.size d M fp) rfl rfl rfl hc i _ s3 _ O _ b9 (am b6) b5 bb) λr Z ⟨hr,I4⟩=>?_;subst hr;have bm:=(I4.pin (d.heap.objs.size,{ cls:=.type "list", data:=.seq f.toArray k }) (Dy _ (BL.mpr rfl))).1;obtain ⟨m,hn,_⟩:=I4.loc;have P:∀ b u,O b=some u->b≠d.heap.objs.size:=λb u e z=>by rw [z,nD] at e;cases e
   have bc:∀ b o,d.heap.get? b=some o->b≠d.heap.objs.size:=λb o e=>BZ (nU e);have ub:Un (ak X.stack) fp M O d.heap Z.heap:=I4.base;have cC:∀ b,b<d.heap.objs.size->b≠G.objs.size:=λb a z=>absurd (Cv a K) (by rw [z];exact Dw _)
   refine bi _ G.objs.size Z (upd O d.heap.objs.size (.lst Y)) m ?_ (q _ nD) hn (by rw [Au (λz=>U z.symm)];exact I4.free) (λz=>cC _ E.lt z.symm) (CF E.sz K)
    (λx c e=>by obtain ⟨v,q⟩:=E.cell x c e;exact cC _ q.lt) λp hp=>cC _ (nU (E.pin p hp).1)
   refine E.call' (ch:=fp) (s':=Z) I4.os ?_ ?_ I4.bare λb a=>⟨(S b a).2.2.2.1,(S b a).2.1,(S b a).2.2.2.2.1,(S b a).2.2.2.2.2⟩
   ·refine ⟨ub.keep,ub.slot,λb o e n hx=>?_,ub.there,λb xs e=>?_,λb o u e=>?_,λb ps e=>?_⟩
    ·rw [Au (bc b o e)];exact ub.free b o e n hx
    ·have z:=ub.tups b xs e;rw [Au (P b _ z)];exact z
    ·have z:=ub.frzs b o u e;rw [Au (P b _ z)];exact z
    ·obtain ⟨bd,z⟩:=ub.tbls b ps e;exact ⟨bd,by rw [Au (P b _ z)];exact z⟩
   ·intro b u e;by_cases a:b=d.heap.objs.size
    ·subst a;rw [upd_same] at e;cases e;exact ⟨hl,f,k,hv,bm⟩
    ·rw [Au a] at e;exact (I4.hok b u e).stay (λc v _ q=>q) (λc q=>by rw [Au (P c _ q)];exact q) λc xs q=>by rw [Au (P c _ q)];exact q
  ·refine E_ (T.item (Q_ X N scope cl G.objs.size d M fp) rfl rfl rfl hc i _ s3 _ O _ b9 (am b6) b5 go) λr Z ⟨u,hr,h4⟩=>?_;subst hr;refine E_ h4 λ_ s5 ⟨x,H5,I5,r5,y5,R,bp⟩=>?_;have bq:=I5.pinned (am bp) (T.obj _ _ R);refine E_ (hg _ _ _ _ _ s5 _ H5 x u _ bq r5 (bl x H5 y5)) λ_ s6 ⟨L,H6,I6,q6⟩=>?_;refine E_ (ht _ _ _ _ _ s6 L H6 _ I6 q6) λbr s9 ⟨H9,I9,q9⟩=>?_
   have be:∀ b∈fp,∀ o,s5.heap.get? b=some o->s9.heap.get? b=some o/\H9 b=none:=λb a o e=>by
    have z:=I9.pin (b,o) (Dy _ (Dy _ (JS a e)));exact ⟨z.1,z.2.1⟩
   cases br with
   | false=>
     have w9:W (i+1) Y H9:=q9;have bf:=I9.pin (d.heap.objs.size,{ cls:=.type "list", data:=.seq f.toArray k }) (Dy _ (List.mem_append_left _ (BL.mpr rfl)));have bs:Inv (Q_ X N scope cl G.objs.size d M fp) [] L H9 s9:=I9.pins_of λp hp=>nomatch hp
     exact ⟨n0 - (i+1),⋯,i+1,Y,f,k,H9,OH B E S bs,bf.1,hv,bf.2.1,T.keep _ _ _ R (λb a o e=>(be b a o e).1),(λb a=>by
      obtain ⟨o,e,_⟩:=T.obj _ _ R b a;exact (be b a o e).2),w9,rfl⟩
   | true=>
   replace q9:te L H9 λy H4=>W (i+1) (Y++[y]) H4:=q9;refine E_ (he _ _ _ _ _ s9 L H9 _ I9 q9) λuy s7 ⟨y,H7,I7,r7,w7⟩=>?_;have pD:=I7.pin (d.heap.objs.size,{ cls:=.type "list", data:=.seq f.toArray k }) (Dy _ (List.mem_append_left _ (BL.mpr rfl)))
   have pF:∀ b∈fp,∀ o,s5.heap.get? b=some o->s7.heap.get? b=some o/\H7 b=none:=λb a o e=>by
    have z:=I7.pin (b,o) (Dy _ (Dy _ (JS a e)));exact ⟨z.1,z.2.1⟩
   refine append_at (hsz:=hz) pD.1 λh8 bg bt=>?_;have bv:Inv (Q_ X N scope cl G.objs.size d M fp) [] L H7 s7:=I7.pins_of λp hp=>nomatch hp;have I8:Inv (Q_ X N scope cl G.objs.size d M fp) [] L H7 { s7 with heap:=h8,toks:=s7.toks }:=bv.turned (λb o a e=>bg.extBut b o a e) pD.2.1 U (.inr (AV _)) bk (λp hp=>nomatch hp);refine ⟨n0 - (i+1),⋯,i+1,Y++[y],f++[uy],k+1,H7,OH B E S I8,?_,Paired.snoc hv r7,pD.2.1,T.keep _ _ _ R (λb a o e=>bg.extBut b o (b3 b a).symm (pF b a o e).1),λb a=>?_,w7,rfl⟩
   ·show h8.get? _=_;rw [bt,List.push_toArray]
   ·obtain ⟨o,e,_⟩:=T.obj _ _ R b a;exact (pF b a o e).2
 exact codeAny_compStart_list a5 (T.self X.A 0 _ _ _ (T.keep _ _ _ ac (λb _ o e=>aj b o e)) a5)
def CI {c a d:Expr} {f:Pos} {i:TI} {g:TG} {j:TE} (n:X.calm=true) (B:BlkOk X N capt scope cl) (p:PI X d a i)
  (r:∀ C s H fp,PG (Q_ X N scope cl C s H fp) d g) (u:∀ C s H fp,PE (Q_ X N scope cl C s H fp) c j)
  (v:∀ x,foldedSetIterable a X.env x=pure x:=by intro _;rfl):PE X (.ListComp c [⟨d,a,[],0⟩] scope f) (A8 i capt g j):=by
 intro pins s σ H Q I h;rw [eval_ListComp];refine wpAny_comprehension_free (use:=none) rfl v B.clos B.kind B.names (LM (cs:=[]) (tc:=LK) (λk C=>compPost (model X.prog X.w) X.A X.xe none (EP X pins σ Q) k C) n B p r (λ_ _ _ _=>Oa) u I (show Fh i capt g LK j σ H _ from h) λD C M w m y q z A E F G J=>?_);exact ⟨m,z,λO K=>⟨.ref D,w,y.turned (λb o L e=>K.extBut b o L e) A E (.inr F) G J,rfl,q⟩⟩
def Oc {i:Nat} {x:Str} {c j:Pos} {f d n:Expr} {cs:dC} {tc:TT} {k:Pos} {E:TI} {g:TG} {F:TE} (K:X.N.Nodup) (r:X.N[i]?=some x) (L:aV X.env.scope x) (M:X.calm=true) (B:BlkOk X N capt scope cl) (O:PI X n d E)
  (P:∀ C s H fp,PG (Q_ X N scope cl C s H fp) n g) (R:∀ C s H fp,cL (Q_ X N scope cl C s H fp) cs tc) (S:∀ C s H fp,PE (Q_ X N scope cl C s H fp) f F)
  (u:swapsWith (.ListComp f [⟨n,d,cs,0⟩] scope k) (some (.Name x c)) j.line X.env=pure true)
  (T:∀ x,foldedSetIterable d X.env x=pure x) (U:X.fn x=true\/X.env.scope.names.lookup x=some .local) :
  PS X (.Assign [.Name x c] (.ListComp f [⟨n,d,cs,0⟩] scope k) j) (AM (Fh E capt g tc F) (AG i)):=by
 intro pins s σ H D I h;rw [exec_Assign_Name_used _ _ _ _ u];refine nO (wpAny_standAt (nO ?_));show wpAny _ X.A (do let _ <-comprehension (.ListComp f [⟨n,d,cs,0⟩] scope k) scope X.env _ (newList []) false (eval d X.env) (some (assign (.Name x c) X.env))) _ _ s
 refine nO (nQ (wpAny_comprehension_free (use:=some (assign (.Name x c) X.env)) (Q:=λ_ p=>SP X pins D .next p) rfl T B.clos B.kind B.names
  (LM (λw C=>compPost (model X.prog X.w) X.A X.xe (some (assign (.Name x c) X.env)) (λ_ p=>SP X pins D .next p) w C) M B O P R S I h λDa C s4 Hq m W q Y y G Z J h4=>?_)) (λ_ p hq=>nP (nP hq)) λ_ _ e=>e)
 show wpAny _ X.A (assign (.Name x c) X.env (.ref Da)) _ _ _;refine wpAny_assign_Name (NR W K r L (v:=.ref Da) rfl (λs5 I5 ⟨a,A,ha⟩=>⟨m,Y.sameBut A ?_,λh' sb=>⟨_,_,I5.turned (λb o hb e=>sb.extBut b o hb e) y G (.inr Z) J h4,q⟩⟩) U);rcases ha with z | z
 ·rw [z];exact G
 ·exact λe=>J x a z e.symm
def FK {i:Nat} {x:Str} {b c:Pos} {d a f:Expr} {e:Pos} {k:TI} {g:TG} {m:TE} (n:X.N.Nodup) (h:X.N[i]?=some x) (o:aV X.env.scope x) (p:X.calm=true) (B:BlkOk X N capt scope cl) (q:PI X f a k)
  (r:∀ C s H fp,PG (Q_ X N scope cl C s H fp) f g) (u:∀ C s H fp,PE (Q_ X N scope cl C s H fp) d m)
  (j:swapsWith (.ListComp d [⟨f,a,[],0⟩] scope e) (some (.Name x b)) c.line X.env=pure true:=by rfl)
  (v:∀ x,foldedSetIterable a X.env x=pure x:=by intro _;rfl) (w:X.fn x=true\/X.env.scope.names.lookup x=some .local:=by first | exact .inl rfl | exact .inr rfl | assumption) :
  PS X (.Assign [.Name x b] (.ListComp d [⟨f,a,[],0⟩] scope e) c) (AM (A8 k capt g m) (AG i)):=
 Oc n h o p B q r (λC s H fp=>Oa) u j v w
def Yn {i:Nat} {x:Str} {b d:Pos} {e a h c:Expr} {tc:TT} {f:Pos} {m:TI} {g:TG} {n:TE} (o:X.N.Nodup) (j:X.N[i]?=some x) (p:aV X.env.scope x) (q:X.calm=true) (B:BlkOk X N capt scope cl) (r:PI X h a m)
  (u:∀ C s H fp,PG (Q_ X N scope cl C s H fp) h g) (v:∀ C s H fp,L2.PT (Q_ X N scope cl C s H fp) c tc) (w:∀ C s H fp,PE (Q_ X N scope cl C s H fp) e n)
  (k:swapsWith (.ListComp e [⟨h,a,[c],0⟩] scope f) (some (.Name x b)) d.line X.env=pure true:=by rfl)
  (y:∀ x,foldedSetIterable a X.env x=pure x:=by intro _;rfl) (z:X.fn x=true\/X.env.scope.names.lookup x=some .local:=by first | exact .inl rfl | exact .inr rfl | assumption) :
  PS X (.Assign [.Name x b] (.ListComp e [⟨h,a,[c],0⟩] scope f) d) (AM (Fh m capt g tc n) (AG i)):=
 Oc o j p q B r u (λC s H fp=>Ob (v C s H fp)) w k y z
def Yo {d a f c:Expr} {tc:TT} {i:Pos} {k:TI} {g:TG} {n:TE} (p:X.calm=true) (B:BlkOk X N capt scope cl) (r:PI X f a k)
  (u:∀ C s H fp,PG (Q_ X N scope cl C s H fp) f g) (v:∀ C s H fp,L2.PT (Q_ X N scope cl C s H fp) c tc) (w:∀ C s H fp,PE (Q_ X N scope cl C s H fp) d n)
  (y:∀ x,foldedSetIterable a X.env x=pure x:=by intro _;rfl):PE X (.ListComp d [⟨f,a,[c],0⟩] scope i) (Fh k capt g tc n):=by
 intro pins s σ H Q I h;rw [eval_ListComp];refine wpAny_comprehension_free (use:=none) rfl y B.clos B.kind B.names (LM (λj C=>compPost (model X.prog X.w) X.A X.xe none (EP X pins σ Q) j C) p B r u (λC s H fp=>Ob (v C s H fp)) w I h λD C P z m A q E F G J K L=>?_);exact ⟨m,E,λR M=>⟨.ref D,z,A.turned (λb o O e=>M.extBut b o O e) F G (.inr J) K L,rfl,q⟩⟩
end
section
variable {X:Cx}
def xI {r:R2} {a:Expr} {c:TE} {n:Int} {j} {q b:Pos} (d:bu X r) (e:PE X a c):PE X (.Subscript a (.Constant (.int n) j q) b) (A_ r c (tC (.int n))):=BA d e AO (λ_ _=>rfl)
def C_ {i:Nat} {x:Str} {e:Expr} {c:TE} {a b:Pos} (d:X.N.Nodup) (f:PE X e c) (g:X.N[i]?=some x:=by rfl) (h:aV X.env.scope x:=by exact .inl rfl) (j:swapsWith e (some (.Name x a)) b.line X.env=pure false:=by rfl) (k:X.fn x=true\/X.env.scope.names.lookup x=some .local:=by first | exact .inl rfl | exact .inr rfl):PS X (.Assign [.Name x a] e b) (AM c (AG i)):=Ct d g h f j k
def cR {c:CmpOp} {r:R2} {a b:Expr} {e f:TE} {d:Pos} (g:OpR X (compareOp c) r) (h:PE X a e) (i:PE X b f) (j:behindInMarks c b=false:=by exact T_ _):L2.PT X (.Compare a [c] [b] d) (As (A_ r e f)):=Nd g h i j
variable {n m:Nat} {x:Str} {ps:dE} {sp:Sp} {a b c:Expr} {ta tb tc:TE} {p pos:Pos} (C:Cal X.prog X.w X.K X.mg X.base n x ps sp) (hr:Room m X.A)
include C hr
theorem Cal.q1 (e:PE X a ta) (f:n<=m:=by decide) (g:Gl X x:=by rfl) (h:(x == ("__debug__" : Str))=false:=by decide) (d:starEach [a] X.env=(false,eval a X.env)::starEach [] X.env:=by rfl):PE X (.Call (.Name x p) [a] [] pos) (AR sp [] E0 (AC ta AD)):=C.pe hr f g (AE e AL d) h d rfl
theorem Cal.q2 (e:PE X a ta) (f:PE X b tb) (g:n<=m:=by decide) (h:Gl X x:=by rfl) (i:(x == ("__debug__" : Str))=false:=by decide) (d:starEach [a,b] X.env=(false,eval a X.env)::starEach [b] X.env:=by rfl) (j:starEach [b] X.env=(false,eval b X.env)::starEach [] X.env:=by rfl) (hp:(backTo pos (starEach [b] X.env)).any (·.1)=false:=by rfl):PE X (.Call (.Name x p) [a,b] [] pos) (AR sp [] E0 (AC ta (AC tb AD))):=C.pe hr g h (AE e (AE f AL j) d) i d hp
theorem Cal.q3 (e:PE X a ta) (f:PE X b tb) (g:PE X c tc) (h:n<=m:=by decide) (i:Gl X x:=by rfl) (j:(x == ("__debug__" : Str))=false:=by decide) (d:starEach [a,b,c] X.env=(false,eval a X.env)::starEach [b,c] X.env:=by rfl) (k:starEach [b,c] X.env=(false,eval b X.env)::starEach [c] X.env:=by rfl) (o:starEach [c] X.env=(false,eval c X.env)::starEach [] X.env:=by rfl) (hp:(backTo pos (starEach [b,c] X.env)).any (·.1)=false:=by rfl):PE X (.Call (.Name x p) [a,b,c] [] pos) (AR sp [] E0 (AC ta (AC tb (AC tc AD)))):=C.pe hr h i (AE e (AE f (AE g AL o) k) d) j d hp
end
end Bs
namespace Bs
open PySem PySem.W PyProof.Rows
section
variable {k:dI} {N:Nat} {p:Array Nat}
noncomputable def kc (k:dI) (i j:Nat):Bool:=decide (k i<k j)
noncomputable def kp (k:dI) (p:Array Nat) (i:Nat):Int:=k (p.getD i 0)
end
end Bs
namespace Bs
open PySem PySem.Spec PySem.Calls PyProof.Rows L2
structure ZFp (z TI TO i1 i2 l1 l2 N0:Addr):Prop where
 D:ZipApart z TI TO i1 i2 l1 l2
 zN:z<N0
 oN:TO<N0
 aN:i1<N0
 bN:i2<N0
end Bs
namespace Bs
open PySem PySem.Spec PySem.Calls PySem.W PyProof.Rows L2
open Classical in
noncomputable def zF (as:dH) (ns:de) (ys:d8) (D:Addr) (b:d8):Hp:=λa=>if a=D then some (.lst b) else if h:∃ j:Nat,as[j]?=some a then some (.tup [.int (ns.getD h.choose 0),ys.getD h.choose .non]) else none
end Bs
namespace Bs
open PySem PySem.Spec PyProof.Rows L2
structure Z3A (z TI TO i1 i2 i3:Addr):Prop where
 nd:[z,TI,TO,i1,i2,i3].Nodup
end Bs
namespace Bs
open PySem L2
def IL (K:W.Frag) (d:TE):TI:=λe H R=>d e H λx b=>∃ a,x=.ref a/\((∃ c,SqL K b a c)/\R (af K a) b\/(∃ c,SqT K b a c)/\R (aD K a) b)
def Yp {K:W.Frag} {a:Addr} {i:Nat} {xs:d8} {g:TG} {f rest:TS} {D:Ends} {b:L2.St} {H:Hp} (c:H a=some (.tup xs)\/H a=some (.lst xs)) (o:b[i]?=some (some (.ref a))) (Pv:Nat->L2.St->Hp->Prop) (h:Pv 0 b H) (j:∀ i b d,Pv i b d->d a=H a)
  (k:∀ i x b H,xs[i]?=some x->Pv i b H->g x b H λe q=>f { D with nx:=Pv (i+1),ct:=Pv (i+1),bk:=rest D } e q) (n:∀ b H,Pv xs.length b H->rest D b H):AH (Ay (IL K (AB i)) g f) rest D b H:=by
 refine ⟨_,o,a,rfl,?_⟩;rcases c with c | c
 ·exact .inr ⟨⟨_,SqT.of c⟩,ForT.by (D:={ D with nx:=rest D }) Pv h (λi b d _ p=>(j i b d p).trans c) k n⟩
 ·exact .inl ⟨⟨_,SqL.of c⟩,ForL.by (D:={ D with nx:=rest D }) Pv h (λi b d _ p=>SqL.of ((j i b d p).trans c)) k n⟩
def Yq {K:W.Frag} {a:Addr} {i:Nat} {xs:d8} {capt:List (Option Nat)} {g:TG} {j:TE} {f:L2.St} {H:Hp} {Q:VK} (d:H a=some (.tup xs)\/H a=some (.lst xs)) (o:f[i]?=some (some (.ref a))) (W:Nat->d8->Hp->Prop) (k:W 0 [] H) (e:∀ i b c,W i b c->i<=xs.length/\b.length<=sizeLine/\c a=H a)
  (m:∀ i x b H,xs[i]?=some x->W i b H->g x (Ch capt f) H λh q=>j h q λy r=>W (i+1) (b++[y]) r) (n:∀ b H,W xs.length b H->∀ p,H p=none->Q (.ref p) (upd H p (.lst b))):A8 (IL K (AB i)) capt g j f H Q:=by
 refine ⟨_,o,a,rfl,?_⟩;rcases d with d | d
 ·exact .inr ⟨⟨_,SqT.of d⟩,CompJ.tup W k (λi b c p=>⟨(e i b c p).1,(e i b c p).2.1,(e i b c p).2.2.trans d⟩) m n⟩
 ·exact .inl ⟨⟨_,SqL.of d⟩,CompJ.lst W k (λi b c p=>⟨(e i b c p).1,(e i b c p).2.1,SqL.of ((e i b c p).2.2.trans d)⟩) m n⟩
end Bs
namespace Bs
open PySem PySem.Spec PyProof.Rows L2
def Od {X:Cx} {r:Expr} {l:Expr} {m:TE} (u:PE X l m):PI X r l (IL X.K m):=by
 intro c s w H R I h;refine E_ (u c s w H _ I h) λv d ⟨x,i,f,y,j⟩=>?_;obtain ⟨a,e,j⟩:=j;subst e;cases y
 have n:∀ b,b∈[d.heap.objs.size]->Dp X c i b:=λb z=>by
  rw [BL.mp z];exact f.fpOk (AV _) (f.hok.fresh (AV _))
 rcases j with ⟨⟨A,k⟩,q⟩ | ⟨⟨A,k⟩,q⟩
 ·obtain ⟨g,B,p,C⟩:=f.list k;refine wpAny_pyIter_list p.isList ?_;exact ⟨d.heap.objs.size,[d.heap.objs.size],_,_,i,rfl,f.kept (t':=d.toks) λb o e=>Heap.get?_push_of_some _ e,NS a _,⟨_,Heap.get?_push_size _ rfl,rfl,rfl⟩,n,q⟩
 ·obtain ⟨g,B,p,C⟩:=f.tuple k;refine wpAny_pyIter_tuple (show d.heap.IsTuple a g.toArray from p) ?_;exact ⟨d.heap.objs.size,[d.heap.objs.size],_,_,i,rfl,f.kept (t':=d.toks) λb o e=>Heap.get?_push_of_some _ e,NT a _,⟨_,Heap.get?_push_size _ rfl,rfl,rfl⟩,n,q⟩
end Bs
namespace Bs
open PySem L2
def LN (b:TA):TE:=λc H Q=>b c H λd a=>∃ n:Nat,d=[.int (n:Int)]/\n<=1000/\∀ p,a p=none->Q (.ref p) (upd a p (.lst ((List.range n).map λi:Nat=>V.int (i:Int))))
def ForJ.zip {K:W.Frag} {g:TG} {j:TS} {D:Ends} {c:L2.St} {H:Hp} {a b:Addr} {xs ys:d8} (k:xs.length=ys.length) (Pv:Nat->L2.St->Hp->Prop) (n:Pv 0 c H) (o:∀ i c H,i<=xs.length->Pv i c H->H a=some (.lst xs)/\H b=some (.lst ys))
  (r:∀ i x y p c H,xs[i]?=some x->ys[i]?=some y->Pv i c H->H p=none->g (.ref p) c (upd H p (.tup [x,y])) λf u=>j { D with nx:=Pv (i+1),ct:=Pv (i+1),bk:=D.nx } f u) (v:∀ c H,Pv xs.length c H->D.nx c H):ForJ (bJ K a b) g j D c H:=by
 refine ⟨λi m c H=>m=xs.length - i/\i<=xs.length/\Pv i c H,⟨xs.length,by simp,AY _,n⟩,?_⟩;rintro i m c H ⟨rfl,w,pv⟩;obtain ⟨z,d⟩:=o i c H w pv;have q:SqL K H a xs:=SqL.of z;have d:SqL K H b ys:=SqL.of d;by_cases h:i<xs.length
 ·refine .inr ⟨⟨xs,ys,xs[i],ys[i],q,d,by simp [h],by simp [k ▸ h]⟩,Pv (i+1),λA B C=>⟨xs.length - (i+1),⋯,rfl,h,C⟩,λx B y=>?_⟩;obtain ⟨p,E,F,hp,rfl,rfl,G,I⟩:=y;exact r i E F p c _ (G xs q) (I ys d) pv hp
 ·have e:i=xs.length:=by omega
  subst e;exact .inl ⟨⟨xs,ys,q,d,AV _⟩,v c H pv⟩
end Bs
namespace Bs
open PySem PySem.Spec PyProof.Rows L2
open PySem.AutoSeq1 (wpAny_loadPart')
section
variable {X:Cx} {elts:dC} {k:Nat} {tpos:Pos} {a b:Expr} {ta:TA} {p pos:Pos}
theorem Yr:∀ (n:Nat) (c:dh),c.length=n->(∀ (i:Nat) v,c[i]?=some v->∃ t,v=.int (i:Int) t)->Vals ((List.range n).map λi:Nat=>V.int (i:Int)) c:=λn c f h=>by
 induction n generalizing c with
 | zero=>cases CU.mp f;exact .nil
 | succ n g=>
   have e:c=c.take n++[c[n]]:=by rw [List.take_append_getElem];exact (List.take_of_length_le ⋯).symm
   rw [e,FZ,Cp];refine Vals.append (g _ (by rw [BQ];omega) λi v d=>h i v ?_) (.cons (h n _ (AT ⋯)) .nil);have:i<(c.take n).length:=Classical.byContradiction λz=>by rw [Bp ⋯] at d;cases d
   rw [BQ] at this;rw [List.getElem?_take,nH ⋯] at d;exact d
def Ys {a:Expr} {r d:Pos} (F:Gl X "list") (G:X.mg "list" = none) (w:Gl X "range") (x:X.mg "range" = none) (J:X.calm=true) (K:PA X [a] ta) (L:starEach [a] X.env=[(false,eval a X.env)]:=by rfl)
  (g:starEach [.Call (.Name "range" r) [a] [] d] X.env=[(false,eval (.Call (.Name "range" r) [a] [] d) X.env)]:=by rfl):PE X (.Call (.Name "list" p) [.Call (.Name "range" r) [a] [] d] [] pos) (LN ta):=by
 intro f s y H Q I h;refine wpAny_Call_Name_kw (Ee I F G GS ?_ ∅ ∅);refine PyProof.Rows.callWith_type1 (rest:=[]) ?_ g rfl;rw [g];refine Calls.spliced_cons (Call_ (Ee I w x boot_range (PyProof.Rows.callWith_type1 (E_ (K d f s y H _ I h) λY j ⟨Z,M,N,O,P⟩=>?_) L rfl)));obtain ⟨n,rfl,n1,q⟩:=P;obtain ⟨u,rfl,R⟩:=EO O;obtain ⟨t,rfl⟩:=R;refine call_range_1 (Calls.spliced_nil ?_);have z:Inv X f y M { j with heap:=j.heap.push { cls:=.type "range", data:=.fields #[.int 0 j.toks,.int (n:Int) t,.int 1 (j.toks+1)] },toks:=j.toks+1+1 }:=N.kept λb o e=>Heap.get?_push_of_some _ e
 have T:(n:Int)<2 ^ 62:=by have:(n:Int)<=1000:=by omega
                           omega
 refine call_list_range (n:=n) (I.ok.hd J) (IsRange.new ..) (small_one ⋯ ⋯ ⋯ T) (by rw [rangeSize_one];split <;> omega) ⋯ λh' U m c hk W D=>?_;refine ⟨.ref _,_,z.laid (o:=.lst ((List.range n).map λi:Nat=>V.int (i:Int))) (t':=U) hk (AV _) ⟨?_,m.toList,c,Yr n m.toList (by rw [Array.length_toList];exact D.1) λi v E=>?_,?_⟩,rfl,q _ (z.hok.fresh (AV _))⟩
 ·rw [AK,A4];exact sz ⋯
 ·rw [Array.getElem?_toList] at E;obtain ⟨t,e⟩:=D.2 i v E;exact ⟨t,by rw [e];congr 1;omega⟩
 ·rw [Array.toArray_toList];exact W
end
structure Mak (P:Program) (w:World) (K:W.Frag) (mg:dz) (base:Heap) (n:Nat) (x:Str) (C:Addr) (ps:dE) (sp:Sp):Prop where
 ex:∃ (f:Addr) (fd:FuncData),Mk K C f/\FnOk P w K mg base az n f fd ps sp/\Binds K fd ps []/\mg x=some (.ref C)
def Mak.pe {X:Cx} {n m:Nat} {x:Str} {C:Addr} {ps:dE} {sp:Sp} {e:Expr} {a:dC} {t:TA} {p c:Pos} (M:Mak X.prog X.w X.K X.mg X.base n x C ps sp) (h:Room m X.A) (i:n+1<=m) (j:Gl X x) (o:PA X (e::a) t)
  (d:(x == ("__debug__" : Str))=false:=by decide) (q:starEach (e::a) X.env=(false,eval e X.env)::starEach a X.env:=by rfl) (g:(backTo c (starEach a X.env)).any (·.1)=false:=by rfl) :
  PE X (.Call (.Name x p) (e::a) [] c) (G9 C sp [] E0 t):=by
 obtain ⟨f,r,k,F,b,m⟩:=M.ex;exact V2 k F (h.mono i) j m b .nil Ny o d q g
end Bs
namespace Bs
open PySem L2
noncomputable def LO (H:Hp):d8->List W.Dat->Prop
 | [],[]=>True
 | x::a,d::b=>(RepD H x d\/∃ s,x=.str s/\d=.str s)/\LO H a b
 | _,_=>False
def LP (H:Hp) (x:V) (d:W.Dat):Prop:=∃ (a:Addr) (b:d8) (c:List W.Dat),x=.ref a/\H a=some (.tup b)/\d=.tuple c/\LO H b c
def Oe:R2:=λx y H Q=>∃ (d e:W.Dat) (b:Bool),LP H x d/\LP H y e/\W.kqdOk 8 d=true/\W.kqdOk 8 e=true/\(b=true↔d=e)/\Q (.bl b) H
end Bs
namespace Bs
open PySem PySem.Spec PyProof.Rows L2
section
variable {X:Cx} {pins:dq} {σ:L2.St} {H:Hp} {s:Shared}
theorem Of (I:Inv X pins σ H s):∀ {xs:d8} {a:List W.Dat} {b:dh},LO H xs a->Vals xs b->∃ as,ReadsAll s.heap b (W.kqdPs a) as
 | [],[],_,_,.nil=>by rw [W.kqdPs];exact ⟨_,ReadsAll.nil⟩
 | x::_,d::_,_,h,.cons e c=>by
   obtain ⟨as,q⟩:∃ as,Reads s.heap _ (W.kqdP d) as:=by
    rcases h.1 with z | ⟨x,rfl,rfl⟩
    ·exact GV I z e
    ·obtain ⟨t,rfl⟩:=e;rw [W.kqdP];exact ⟨_,Reads.str x t⟩
   obtain ⟨g,f⟩:=Of I h.2 c;rw [W.kqdPs];exact ⟨_,ReadsAll.cons q f⟩
def Og (I:Inv X pins σ H s) {x:V} {d:W.Dat} {u:Value} (h:LP H x d) (e:RelV x u):∃ as,Reads s.heap u (W.kqdP d) as:=by
 obtain ⟨a,k,m,rfl,b,rfl,h⟩:=h;cases e;obtain ⟨c,f,p,_⟩:=I.tuple (SqT.of b);obtain ⟨as,q⟩:=Of I h f;obtain ⟨o,g,i,n,j⟩:=p;rw [W.kqdP];exact ⟨as,reads_tuple_at g i j (by simpa using q)⟩
def Yt (f:X.A.units+64<cLine):OpR X (compareOp .Eq) Oe:=by
 intro pins s σ H x y v u Q I g i h;obtain ⟨d,e,b,j,k,a,c,m,q⟩:=h;obtain ⟨as,n⟩:=Og I j g;obtain ⟨p,o⟩:=Og I k i;exact eq_dataH n o (HL a) (HL c) f (by rw [LE a c m];exact ⟨.bl b,H,I,rfl,q⟩)
end
end Bs
namespace Bs
def Bd.one:Bd 1 1:=by unfold Bd;decide
theorem Bd.pow {b:Nat} {x:Int} (h:Bd b x) (k:Nat):Bd (b*k+1) (x ^ k):=by
 induction k with
 | zero=>rw [Int.pow_zero,Nat.mul_zero];exact Bd.one
 | succ k a=>
   have e:b*(k+1)+1=(b*k+1)+b:=by rw [Nat.mul_add,Nat.mul_one];omega
   rw [Int.pow_succ,e];exact a.mul h
noncomputable abbrev Nu:=Int×Int
abbrev cZ:=List Nu
abbrev cY:=(cZ)
noncomputable def K_ (n m:Int):Nu:=(n / ((Int.gcd n m:Nat):Int),m / ((Int.gcd n m:Nat):Int))
noncomputable def X_ (q r:Nu):Nu:=K_ (q.1*r.2+r.1*q.2) (q.2*r.2)
noncomputable def N' (q r:Nu):Nu:=K_ (q.1*r.1) (q.2*r.2)
def Wo (q:Nu) (n m:Int):Prop:=q.1*m=n*q.2
def ET {n m:Int} (b:0<m):Low (K_ n m).1 (K_ n m).2:=(K8 (a:=n) b).1
def F2 {n m:Int} (c:0<m):Wo (K_ n m) n m:=by
 have h:=(K7 (a:=n) (b:=m) (s:=((Int.gcd n m:Nat):Int)) ⋯ (by rw [nG ⋯])).2.2.2.1;rw [EI _ ⋯,EI _ ⋯] at h;exact h
def LQ {a b d:Int} (h:Low a b) (e:b∣a*d):b∣d:=by
 have c:Nat.Coprime b.natAbs a.natAbs:=by
  have:Nat.Coprime a.natAbs b.natAbs:=h.one;exact this.symm
 have z:=DL.mpr e;rw [Bv] at z;exact DL.mp (c.dvd_of_dvd_mul_left z)
def Oh {a b c d:Int} (f:Low a b) (g:Low c d) (h:a*d=c*b):a=c/\b=d:=by
 have i:b∣d:=LQ f ⟨c,by rw [h,Cq]⟩;have j:d∣b:=LQ g ⟨a,by rw [<-h,Cq]⟩;have e:b=d:=Int.dvd_antisymm (EH f.pos) (EH g.pos) i j;subst e;exact ⟨Int.eq_of_mul_eq_mul_right (Ab f.pos) h,rfl⟩
def LR {q r:Nu} {n m:Int} (c:Low q.1 q.2) (d:Low r.1 r.2) (f:m≠0) (g:Wo q n m) (h:Wo r n m):q=r:=by
 unfold Wo at g h
 have e:q.1*r.2=r.1*q.2:=by
  have z:m*(q.1*r.2)=m*(r.1*q.2):=by ext
  exact FA f z
 obtain ⟨a,b⟩:=Oh c d e;exact Prod.ext a b
def Yu {q:Nu} {n m:Int} (c:Low q.1 q.2) (b:0<m) (w:Wo q n m):q.1.natAbs<=n.natAbs/\q.2.natAbs<=m.natAbs:=by
 have e:q=K_ n m:=LR c (ET b) (Ab b) w (F2 b);subst e;exact ⟨(K8 (a:=n) b).2.1,(K8 (a:=n) b).2.2.1⟩
def Yv {q r:Nu} (a:0<q.2) (b:0<r.2):Low (X_ q r).1 (X_ q r).2:=ET (DG a b)
def Oi {q r:Nu} (a:0<q.2) (b:0<r.2):Low (N' q r).1 (N' q r).2:=ET (DG a b)
def Yw {q r:Nu} {n k m:Int} (a:0<q.2) (b:0<r.2) (c:Wo q n m) (d:Wo r k m):Wo (X_ q r) (n+k) m:=by
 have w:=F2 (n:=q.1*r.2+r.1*q.2) (DG a b);unfold Wo at *;unfold X_;have z:(q.2*r.2)*((K_ (q.1*r.2+r.1*q.2) (q.2*r.2)).1*m)=(q.2*r.2)*((n+k)*(K_ (q.1*r.2+r.1*q.2) (q.2*r.2)).2):=by ext
 exact FA (Ab (DG a b)) z
def Yx {q r:Nu} {n k m l:Int} (a:0<q.2) (b:0<r.2) (c:Wo q n m) (d:Wo r k l):Wo (N' q r) (n*k) (m*l):=by
 have w:=F2 (n:=q.1*r.1) (DG a b);unfold Wo at *;unfold N';have z:(q.2*r.2)*((K_ (q.1*r.1) (q.2*r.2)).1*(m*l))=(q.2*r.2)*((n*k)*(K_ (q.1*r.1) (q.2*r.2)).2):=by ext
 exact FA (Ab (DG a b)) z
def Yy {m:Int} (a:0<m):K_ 0 m=(0,1):=LR (ET a) ⟨∅,∅⟩ (Ab a) (F2 a) (by unfold Wo;omega)
noncomputable def Ci (l:cZ):Nat->Nat
 | 0=>0
 | m+1=>if (l.getD m (1,1)).1=0 then Ci l m else m+1
noncomputable def K' (l:cZ):cZ:=l.take (Ci l l.length)
theorem Oj (l:cZ):∀ m,Ci l m<=m
 | 0=>AV 0
 | m+1=>by
   unfold Ci;split
   ·exact Nat.le_succ_of_le (Oj l m)
   ·exact AV _
theorem Ol (l:cZ):∀ m,Ci l m=0\/(l.getD (Ci l m - 1) (1,1)).1≠0
 | 0=>.inl rfl
 | m+1=>by
   unfold Ci;split
   ·exact Ol l m
   ·rename_i h;exact .inr h
def Nz (l:cZ):Prop:=∀ q,l.getLast?=some q->q.1≠0
def Yz {l:cZ} (h:Nz l):K' l=l:=by
 unfold K'
 have e:Ci l l.length=l.length:=by
  cases b:l.length with
  | zero=>rfl
  | succ m=>
    unfold Ci;have a:m<l.length:=by omega
    have z:(l.getD m (1,1)).1≠0:=by
     have q:=h l[m] (by rw [GH,b];simp [a]);rw [AI,AT a];exact q
    rw [nG z]
 rw [e,CA]
def HM (l:cZ):Nz (K' l):=by
 intro q a;unfold K' at a;have b:=Oj l l.length;rw [GH,BQ,Nat.min_eq_left b] at a;rcases Ol l l.length with z | z
 ·rw [z] at a;simp at a
 ·by_cases c:Ci l l.length=0
  ·rw [c] at a;simp at a
  ·rw [List.getElem?_take_of_lt ⋯] at a;rw [AI,a] at z;exact z
def GW {l:cZ} {q:Nu} (h:q∈K' l):q∈l:=Fs h
def Jn (l:cZ):(K' l).length<=l.length:=by
 unfold K';rw [BQ];omega
def Aj (l:cZ):Prop:=∀ q∈l,Low q.1 q.2
def Y1 (n:Nat) (l:cZ):Prop:=∀ q∈l,Bd n q.1/\Bd n q.2
noncomputable def Ae (l:cZ) (i:Nat):Nu:=l.getD i (0,1)
def LS:Low 0 1:=⟨∅,∅⟩
theorem FM {l:cZ} (h:Aj l) (i:Nat):Low (Ae l i).1 (Ae l i).2:=by
 unfold Ae;rw [AI];cases e:l[i]? with
 | none=>exact LS
 | some q=>exact h q (BC e)
noncomputable def Ai (l:cZ):Int:=l.foldl (λB q=>B*(q.2 / ((Int.gcd B q.2:Nat):Int))) 1
noncomputable def AW (l:cZ):de:=l.map λq=>q.1*(Ai l / q.2)
def LU {B d:Int} (b:0<B) (c:0<d):0<B*(d / ((Int.gcd B d:Nat):Int))/\B∣B*(d / ((Int.gcd B d:Nat):Int))/\d∣B*(d / ((Int.gcd B d:Nat):Int))/\(d / ((Int.gcd B d:Nat):Int)).natAbs<=d.natAbs/\0<((Int.gcd B d:Nat):Int)/\((Int.gcd B d:Nat):Int)<=d:=by
 have f:0<Int.gcd B d:=Int.gcd_pos_of_ne_zero_right B ⋯;obtain ⟨k,hk⟩:((Int.gcd B d:Nat):Int)∣d:=EY B d;obtain ⟨m,g⟩:((Int.gcd B d:Nat):Int)∣B:=E8 B d;have a:(0:Int)<((Int.gcd B d:Nat):Int):=by omega
 have e:d / ((Int.gcd B d:Nat):Int)=k:=by
  have z:d / ((Int.gcd B d:Nat):Int)=(((Int.gcd B d:Nat):Int)*k) / ((Int.gcd B d:Nat):Int):=by rw [<-hk]
  rw [z,Ft _ (Ab a)]
 have kp:0<k:=by
  rcases Int.lt_or_le 0 k with h | h
  ·exact h
  ·exfalso;have:=EZ (EH a) (show 0<=-k by omega);rw [Int.mul_neg] at this;omega
 have i:((Int.gcd B d:Nat):Int)<=d:=Int.le_of_dvd c (EY B d);refine ⟨by rw [e];exact DG b kp,Int.dvd_mul_right ..,?_,?_,a,i⟩
 ·rw [e];refine ⟨m,?_⟩;have z:d*m=((Int.gcd B d:Nat):Int)*k*m:=by rw [<-hk]
  have j:B*k=((Int.gcd B d:Nat):Int)*m*k:=by rw [<-g]
  rw [z,j];ext
 ·rw [e]
  have z:d.natAbs=(Int.gcd B d)*k.natAbs:=by
   have:d.natAbs=(((Int.gcd B d:Nat):Int)*k).natAbs:=by rw [<-hk]
   rw [this,Bv];simp
  rw [z];exact Nat.le_mul_of_pos_left _ f
theorem Om {b:Nat}:∀ (l:cZ) (B:Int) (c:Nat),(∀ q∈l,0<q.2/\Bd b q.2)->0<B->Bd c B->
  0<l.foldl (λB q=>B*(q.2 / ((Int.gcd B q.2:Nat):Int))) B/\B∣l.foldl (λB q=>B*(q.2 / ((Int.gcd B q.2:Nat):Int))) B/\(∀ q∈l,q.2∣l.foldl (λB q=>B*(q.2 / ((Int.gcd B q.2:Nat):Int))) B)/\Bd (c+b*l.length) (l.foldl (λB q=>B*(q.2 / ((Int.gcd B q.2:Nat):Int))) B)
 | [],B,c,_,d,e=>⟨d,Int.dvd_refl B,(λ_ h=>nomatch h),by simpa using e⟩
 | q::l,B,c,h,d,e=>by
   obtain ⟨g,i⟩:=h q (DK ..);obtain ⟨j,k,m,n,_,_⟩:=LU d g;obtain ⟨o,f,p,u⟩:=Om l (B*(q.2 / ((Int.gcd B q.2:Nat):Int))) (c+b) (λr a=>h r (DW _ a)) j (e.mul (i.le n));rw [List.foldl_cons];refine ⟨o,Bw k f,λr a=>?_,u.mono (by rw [Cd,Nat.mul_add,Nat.mul_one];omega)⟩;rcases Ep.mp a with rfl | a
   ·exact Bw m f
   ·exact p r a
def Y2 {b:Nat} {l:cZ} (c:Aj l) (d:Y1 b l):0<Ai l/\(∀ q∈l,q.2∣Ai l)/\Bd (1+b*l.length) (Ai l):=by
 obtain ⟨e,_,f,g⟩:=Om (b:=b) l 1 1 (λq a=>⟨(c q a).pos,(d q a).2⟩) ∅ Bd.one;exact ⟨e,f,g⟩
def On {B d:Int} (a:0<B) (b:0<d):(B / d).natAbs<=B.natAbs:=by
 have c:0<=B / d:=Int.ediv_nonneg (EH a) (EH b);have e:B / d<=B:=Int.ediv_le_self d (EH a);omega
def Y3 {q:Nu} {B:Int} (a:q.2∣B):Wo q (q.1*(B / q.2)) B:=by
 unfold Wo;rw [C7,Int.ediv_mul_cancel a]
noncomputable def ps (ns a:de):Nat->dI
 | 0,_=>0
 | i+1,k=>ps ns a i k+(if i<=k/\k - i<a.length then ns.getD i 0*a.getD (k - i) 0 else 0)
noncomputable def a7 (ns a:de) (i j k:Nat):Int:=ps ns a i k+(if i<=k/\k - i<j then ns.getD i 0*a.getD (k - i) 0 else 0)
def Y4 (ns a:de) (i k:Nat):a7 ns a i 0 k=ps ns a i k:=by
 unfold a7;rw [nG ⋯];omega
def Oo (ns a:de) (i j k:Nat):a7 ns a i (j+1) k=if k=i+j then a7 ns a i j k+ns.getD i 0*a.getD j 0 else a7 ns a i j k:=by
 unfold a7;by_cases h:k=i+j
 ·subst h;rw [nH rfl,nH ⟨⋯,⋯⟩,nG ⋯,show i+j - i=j by omega];omega
 ·rw [nG h];congr 1;by_cases b:i<=k/\k - i<j
  ·rw [nH b,nH ⟨b.1,⋯⟩]
  ·rw [nG b,nG ⋯]
theorem FN {c:Nat} {ns:de} (h:∀ z∈ns,Bd c z) (i:Nat):Bd c (ns.getD i 0):=by
 rw [AI];cases e:ns[i]? with
 | none=>exact D1 ∅
 | some z=>exact h z (BC e)
def Cj (c:Nat):Bd c 0:=D1 ∅
theorem LV {c d:Nat} {ns a:de} (b:∀ z∈ns,Bd c z) (e:∀ z∈a,Bd d z):∀ i k,Bd (c+d+i) (ps ns a i k)
 | 0,_=>Cj _
 | i+1,k=>by
   unfold ps;refine (LV b e i k).add ?_;split
   ·exact ((FN b i).mul (FN e (k - i))).mono ⋯
   ·exact Cj _
def Y5 {c d:Nat} {ns a:de} (b:∀ z∈ns,Bd c z) (e:∀ z∈a,Bd d z) (i j k:Nat):Bd (c+d+i+1) (a7 ns a i j k):=by
 unfold a7;refine (LV b e i k).add ?_;split
 ·exact ((FN b i).mul (FN e (k - i))).mono ⋯
 ·exact Cj _
theorem Op {ns a:de}:∀ i k,i+a.length<=k+1->ps ns a i k=0
 | 0,_,_=>rfl
 | i+1,k,h=>by
   unfold ps;rw [Op i k ⋯,nG ⋯];rfl
noncomputable def val (q:Nu):Rat:=(q.1:Rat) / (q.2:Rat)
def O_ (x:Rat):0 / x=0:=by rw [Rat.div_def,Rat.zero_mul]
def BH {z:Int} (h:z≠0):(z:Rat)≠0:=by exact_mod_cast h
def LW {q:Nu} {n m:Int} (a:q.2≠0) (b:m≠0) (w:Wo q n m):val q=(n:Rat) / (m:Rat):=by
 have c:=BH a;have d:=BH b;have e:(q.1:Rat)*m=n*q.2:=by unfold Wo at w;exact_mod_cast w
 unfold val;ext
def HN {q r:Nu} (c:Low q.1 q.2) (d:Low r.1 r.2) (h:val q=val r):q=r:=by
 have a:=BH (Ab c.pos);have b:=BH (Ab d.pos);unfold val at h;have z:(q.1:Rat)*r.2=r.1*q.2:=by ext
 have e:q.1*r.2=r.1*q.2:=by exact_mod_cast z
 obtain ⟨x,y⟩:=Oh c d e;exact Prod.ext x y
def LX {n m:Int} (a:0<m):val (K_ n m)=(n:Rat) / (m:Rat):=LW (Ab (ET a).pos) (Ab a) (F2 a)
noncomputable def Af (n m:Int):Nu:=if m<0 then K_ (-n) (-m) else K_ n m
def Fk {n m:Int} (a:m≠0):Low (Af n m).1 (Af n m).2:=by
 unfold Af;split
 ·exact ET ⋯
 ·exact ET ⋯
def Fl {n m:Int} (a:m≠0):val (Af n m)=(n:Rat) / (m:Rat):=by
 unfold Af;split
 ·rw [LX ⋯];have:=BH a;push_cast;ext
 ·exact LX ⋯
def Y6 {n m N:Int} (b:m≠0) (h:m∣N):(Af n m).2∣N:=by
 have a:∀ {n m:Int},0<m->(K_ n m).2∣m:=λ{n m} c=>by
  unfold K_;exact Int.ediv_dvd_of_dvd (EY n m)
 unfold Af;split
 ·exact Bw (a ⋯) (Bw (Int.neg_dvd.mpr (Int.dvd_refl m)) h)
 ·exact Bw (a ⋯) h
def IM {c d:Nat} {n m:Int} (g:m≠0) (b:Bd c n) (e:Bd d m):Bd c (Af n m).1/\Bd d (Af n m).2:=by
 have a:∀ {n m:Int},0<m->Bd c n->Bd d m->Bd c (K_ n m).1/\Bd d (K_ n m).2:=λ{n m} f b e=>by
  have w:=Yu (ET f) f (F2 (n:=n) f);exact ⟨b.le w.1,e.le w.2⟩
 unfold Af;split
 ·exact a ⋯ b.neg e.neg
 ·exact a ⋯ b e
noncomputable def D_ (l:cZ) (k:Nat):Rat:=val (Ae l k)
def Y7 {q:Nu} (h:Low q.1 q.2) (z:q.1=0):q=(0,1):=HN h LS (by unfold val;rw [z];show ((0:Int):Rat) / _=((0:Int):Rat) / _;rw [show ((0:Int):Rat)=0 from rfl,O_,O_])
def Y8 {l:cZ} (n:Aj l) (k:Nat):Ae (K' l) k=Ae l k:=by
 have g:∀ (m:Nat),m<=l.length->(∀ j,m<=j->j<l.length->(Ae l j).1=0)->∀ j,Ci l m<=j->j<l.length->(Ae l j).1=0:=by
  intro m
  induction m with
  | zero=>intro _ h j i c;exact h j ⋯ c
  | succ m o=>
    intro p h j d f;rw [show Ci l (m+1)=if (l.getD m (1,1)).1=0 then Ci l m else m+1 from rfl] at d;split at d
    ·rename_i z;refine o ⋯ (λj i c=>?_) j d f;by_cases e:j=m
     ·subst e;unfold Ae;rw [AI,AT c] at z ⊢;exact z
     ·exact h j ⋯ c
    ·exact h j d f
 unfold K';by_cases d:k<Ci l l.length
 ·unfold Ae;rw [AI,AI,List.getElem?_take_of_lt d]
 ·have e:Ae (l.take (Ci l l.length)) k=(0,1):=by
   unfold Ae;rw [AI,Bp (by rw [BQ];omega)];rfl
  rw [e];by_cases f:k<l.length
  ·exact (Y7 (FM n k) (g l.length (AV _) (λj a b=>absurd b ⋯) k ⋯ f)).symm
  ·unfold Ae;rw [AI,Bp ⋯];rfl
def Jo {l:cZ} (a:Aj l) (k:Nat):D_ (K' l) k=D_ l k:=by unfold D_;rw [Y8 a]
def Oq {l:cZ} {k:Nat} (h:l.length<=k):Ae l k=(0,1):=by
 unfold Ae;rw [AI,Bp h];rfl
def EU {l:cZ} {k:Nat} (h:l.length<=k):D_ l k=0:=by
 unfold D_;rw [Oq h];exact O_ _
def Os {a b:cZ} (f:Nz b) (h:∀ k,Ae a k=Ae b k):b.length<=a.length:=by
 rcases Br a.length b.length with g | c
 ·exfalso;have d:b.length - 1<b.length:=by omega
  have q:=f b[b.length - 1] (by rw [GH];exact AT d);have e:=h (b.length - 1);rw [Oq ⋯] at e;unfold Ae at e;rw [AI,AT d] at e;have i:((0,1):Nu)=b[b.length - 1]:=e;rw [<-i] at q;exact q rfl
 ·exact c
def Y9 {a b:cZ} (c:Aj a) (d:Aj b) (f:Nz a) (j:Nz b) (h:∀ k,D_ a k=D_ b k):a=b:=by
 have g:∀ k,Ae a k=Ae b k:=λk=>HN (FM c k) (FM d k) (h k);have e:a.length=b.length:=E9 (Os f λk=>(g k).symm) (Os j g);refine List.ext_getElem e λi m n=>?_;have z:=g i;unfold Ae at z;rw [AI,AI,AT m,AT n] at z;exact z
noncomputable def cv (f g:dL):Nat->dL
 | 0,_=>0
 | n+1,k=>cv f g n k+(if n<=k then f n*g (k - n) else 0)
theorem Ot {f f' g:dL} {s:Nat} {x:Rat} (a:f s=0) (b:f' s=x) (c:∀ i,i≠s->f' i=f i):∀ n k,cv f' g n k=cv f g n k+(if s<n/\s<=k then x*g (k - s) else 0)
 | 0,k=>by unfold cv;rw [nG ⋯];exact (Rat.add_zero 0).symm
 | n+1,k=>by
   unfold cv;rw [Ot a b c n k];by_cases e:n=s
   ·subst e;rw [a,b];by_cases hk:n<=k
    ·rw [nH hk,nH hk,nG ⋯,nH ⟨⋯,hk⟩];ext
    ·rw [nG hk,nG hk,nG ⋯,nG ⋯]
   ·rw [c n e];have d:(s<n+1/\s<=k)↔(s<n/\s<=k):=by omega
    simp only [d];ext
theorem Ou {f g:dL}:∀ n k,(∀ i,i<n->f i=0)->cv f g n k=0
 | 0,_,_=>rfl
 | n+1,k,h=>by
   unfold cv;rw [Ou n k λi a=>h i ⋯,h n ⋯];split <;> ext
theorem Ow {f g:dL} {n:Nat} (h:∀ i,n<=i->f i=0):∀ d k,cv f g (n+d) k=cv f g n k
 | 0,_=>rfl
 | d+1,k=>by
   show cv f g (n+d) k+(if n+d<=k then f (n+d)*g (k - (n+d)) else 0)=_;rw [Ow h d k,h (n+d) ⋯];split <;> ext
theorem Ox {f f' g:dL} (h:∀ i,f i=f' i):∀ n k,cv f g n k=cv f' g n k
 | 0,_=>rfl
 | n+1,k=>by unfold cv;rw [Ox h n k,h n]
noncomputable def L_ (l:cZ) (M:Int):de:=l.map λq=>q.1*(M / q.2)
def Ov (l:cZ) (M:Int):Prop:=0<M/\∀ q∈l,q.2∣M
theorem Oy {l:cZ} {M:Int} (i:Nat):(L_ l M).getD i 0=(Ae l i).1*(M / (Ae l i).2):=by
 unfold L_ Ae;rw [AI,AI,Aa];cases l[i]? with
 | none=>simp
 | some q=>rfl
theorem Ov.get {l:cZ} {M:Int} (h:Ov l M) (i:Nat):(Ae l i).2∣M:=by
 unfold Ae;rw [AI];cases e:l[i]? with
 | none=>exact Int.one_dvd M
 | some q=>exact h.2 q (BC e)
def LY {l:cZ} {M:Int} (h:Ov l M) (i:Nat):Wo (Ae l i) ((L_ l M).getD i 0) M:=by
 rw [Oy];exact Y3 (h.get i)
def HP {l:cZ} {M:Int} (a:Aj l) (h:Ov l M) (i:Nat):D_ l i=((L_ l M).getD i 0:Rat) / (M:Rat):=LW (Ab (FM a i).pos) (Ab h.1) (LY h i)
noncomputable def GX (l m:cZ) (a b:Int) (n:Nat):cZ:=(List.range n).map λk=>K_ (ps (L_ l a) (L_ m b) l.length k) (a*b)
theorem LZ {l m:cZ} {d c:Int} (g:Aj l) (h:Aj m) (e:Ov l d) (f:Ov m c):∀ n k,(ps (L_ l d) (L_ m c) n k:Rat) / ((d*c:Int):Rat)=cv (D_ l) (D_ m) n k
 | 0,k=>O_ _
 | n+1,k=>by
   have a:=BH (Ab e.1);have b:=BH (Ab f.1);have i:=LZ g h e f n k;unfold ps cv;rw [<-i];by_cases hk:n<=k
   ·rw [nH hk,HP g e,HP h f];by_cases j:k - n<(L_ m c).length
    ·rw [nH ⟨hk,j⟩];push_cast;ext
    ·rw [nG ⋯,show (L_ m c).getD (k - n) 0=0 by rw [AI,Bp ⋯];rfl];push_cast;ext
   ·rw [nG hk,nG ⋯];push_cast;ext
def ZA {l m:cZ} {a b:Int} {n:Nat} (c:Ov l a) (d:Ov m b):Aj (GX l m a b n):=by
 intro q e;obtain ⟨k,_,rfl⟩:=Ap.mp e;exact ET (DG c.1 d.1)
def ZB {l m:cZ} {a b:Int} (f:Aj l) (g:Aj m) (c:Ov l a) (d:Ov m b) (k:Nat):D_ (GX l m a b (l.length+m.length)) k=cv (D_ l) (D_ m) l.length k:=by
 rw [<-LZ f g c d];have i:=DG c.1 d.1;by_cases h:k<l.length+m.length
 ·have e:Ae (GX l m a b (l.length+m.length)) k=K_ (ps (L_ l a) (L_ m b) l.length k) (a*b):=by
   unfold GX Ae;rw [AI,Aa,CV h];rfl
  unfold D_;rw [e,LX i]
 ·rw [EU (by unfold GX;rw [AK,A4];omega),Op l.length k (by unfold L_;rw [AK];omega)];exact (O_ _).symm
def lcm_dvd {B d M:Int} (c:0<B) (f:0<d) (a:B∣M) (b:d∣M):B*(d / ((Int.gcd B d:Nat):Int))∣M:=by
 have z:((Nat.lcm B.natAbs d.natAbs:Nat):Int)∣M:=DL.mp (by rw [Cr];exact Nat.lcm_dvd (DL.mpr a) (DL.mpr b))
 have e:((Nat.lcm B.natAbs d.natAbs:Nat):Int)=B*(d / ((Int.gcd B d:Nat):Int)):=by
  unfold Nat.lcm;rw [Nat.mul_div_assoc _ (Nat.gcd_dvd_right _ _)];push_cast;rw [show ((B.natAbs:Nat):Int)=B by omega,show ((d.natAbs:Nat):Int)=d by omega];rfl
 rw [<-e];exact z
theorem La {M:Int}:∀ (l:cZ) (B:Int),(∀ q∈l,0<q.2/\q.2∣M)->0<B->B∣M->0<l.foldl (λB q=>B*(q.2 / ((Int.gcd B q.2:Nat):Int))) B/\l.foldl (λB q=>B*(q.2 / ((Int.gcd B q.2:Nat):Int))) B∣M
 | [],B,_,a,h=>⟨a,h⟩
 | q::l,B,b,a,h=>by
   obtain ⟨c,d⟩:=b q (DK ..);obtain ⟨e,_⟩:=LU a c;exact La l _ (λr f=>b r (DW _ f)) e (lcm_dvd a c h d)
def Dr {n:Nat} {a b:Int} (d:b≠0) (h:a∣b) (c:Bd n b):Bd n a:=c.le (Ea ⋯ (DL.mpr h))
def De {l:cZ} (e:Aj l):Ov l (Ai l):=by
 obtain ⟨a,b,_⟩:=Y2 (b:=(l.foldl (λn q=>n+q.1.natAbs+q.2.natAbs) 1)) e (λq c=>by
  have d:∀ (l:cZ) (n:Nat),n<=l.foldl (λn q=>n+q.1.natAbs+q.2.natAbs) n/\∀ q∈l,q.1.natAbs+q.2.natAbs<=l.foldl (λn q=>n+q.1.natAbs+q.2.natAbs) n:=by
   intro l
   induction l with
   | nil=>intro n;exact ⟨AV _,λ_ h=>nomatch h⟩
   | cons r l f=>
     intro n;obtain ⟨i,g⟩:=f (n+r.1.natAbs+r.2.natAbs);rw [List.foldl_cons];refine ⟨⋯,λq c=>?_⟩;rcases Ep.mp c with rfl | c
     ·omega
     ·exact g q c
  have z:=(d l 1).2 q c;exact ⟨EG ⋯ (Nat.lt_two_pow_self),EG ⋯ (Nat.lt_two_pow_self)⟩)
 exact ⟨a,b⟩
def Lb {l:cZ} {M:Int} (b:Aj l) (h:Ov l M):Ai l∣M:=(La l 1 (λq a=>⟨(b q a).pos,h.2 q a⟩) ∅ (Int.one_dvd M)).2
def Jp (l:cZ):AW l=L_ l (Ai l):=rfl
section
variable {α:Type} [Lean.Grind.CommRing α]
noncomputable def cvL:List α->(Nat->α)->Nat->α
 | [],_,_=>0
 | x::a,b,k=>x*b k+(match k with | 0=>0 | k+1=>cvL a b k)
def BD (b:Nat->α) (k:Nat):cvL [] b k=0:=rfl
def Az (x:α) (a:List α) (b:Nat->α):cvL (x::a) b 0=x*b 0+0:=rfl
def Ar (x:α) (a:List α) (b:Nat->α) (k:Nat):cvL (x::a) b (k+1)=x*b (k+1)+cvL a b k:=rfl
theorem BN {b c:Nat->α} (h:∀ k,b k=c k):∀ (a:List α) (k:Nat),cvL a b k=cvL a c k
 | [],_=>rfl
 | x::a,0=>by rw [Az,Az,h 0]
 | x::a,k+1=>by rw [Ar,Ar,h (k+1),BN h a k]
theorem GY (b c:Nat->α):∀ (a:List α) (k:Nat),cvL a (λk=>b k+c k) k=cvL a b k+cvL a c k
 | [],_=>by rw [BD,BD,BD];ext
 | x::a,0=>by rw [Az,Az,Az];ext
 | x::a,k+1=>by rw [Ar,Ar,Ar,GY b c a k];ext
theorem Ds (s:α) (b:Nat->α):∀ (a:List α) (k:Nat),cvL a (λk=>s*b k) k=s*cvL a b k
 | [],_=>by rw [BD,BD];ext
 | x::a,0=>by rw [Az,Az];ext
 | x::a,k+1=>by rw [Ar,Ar,Ds s b a k];ext
noncomputable def Dt (b:Nat->α):Nat->α
 | 0=>0
 | k+1=>b k
theorem Jq (b:Nat->α):∀ (a:List α) (k:Nat),cvL a (Dt b) k=Dt (cvL a b) k
 | [],0=>rfl
 | [],k+1=>rfl
 | x::a,0=>by rw [Az];show x*0+0=0;ext
 | x::a,1=>by
   rw [Ar];have h:=Jq b a 0;rw [h];show x*b 0+0=cvL (x::a) b 0;rw [Az]
 | x::a,k+2=>by
   rw [Ar,Jq b a (k+1)];show x*b (k+1)+cvL a b k=cvL (x::a) b (k+1);rw [Ar]
theorem F3 (x:α) (a:List α) (b:Nat->α) (k:Nat):cvL (x::a) b k=x*b k+Dt (cvL a b) k:=by
 cases k with
 | zero=>exact Az x a b
 | succ k=>exact Ar x a b k
theorem HQ (c:Nat->α):∀ (a b:List α) (k:Nat),cvL a (cvL b c) k=cvL b (cvL a c) k
 | [],b,k=>by
   rw [BD];have e:cvL b (cvL [] c) k=cvL b (λk=>0*c k) k:=BN (λk=>by rw [BD];ext) b k;rw [e,Ds];ext
 | x::a,b,k=>by
   rw [F3];have e:cvL b (cvL (x::a) c) k=cvL b (λk=>x*c k+Dt (cvL a c) k) k:=BN (λk=>F3 x a c k) b k;rw [e,GY,Ds,Jq]
   have d:Dt (cvL a (cvL b c)) k=Dt (cvL b (cvL a c)) k:=by
    cases k with
    | zero=>rfl
    | succ k=>exact HQ c a b k
   rw [d]
noncomputable def A3:Nat->α
 | 0=>1
 | _+1=>0
theorem FO:∀ (a:List α) (k:Nat),cvL a A3 k=a.getD k 0
 | [],k=>by rw [BD];simp
 | x::a,0=>by rw [Az];show x*1+0=x;ext
 | x::a,k+1=>by
   rw [Ar,FO a k];show x*0+a.getD k 0=(x::a).getD (k+1) 0;rw [List.getD_cons_succ];ext
noncomputable def Av (f:List α):Nat->Nat->α
 | 0=>A3
 | n+1=>cvL f (Av f n)
end
def ZC {n k:Nat}:k∣2 ^ n↔∃ a,a<=n/\k=2 ^ a:=by
 constructor
 ·induction n generalizing k with
  | zero=>intro h;exact ⟨0,AV 0,by simpa using h⟩
  | succ n d=>
    intro h;by_cases f:2∣k
    ·obtain ⟨j,rfl⟩:=f;rw [Bk,DE (2 ^ n) 2] at h;obtain ⟨a,b,e⟩:=d (Nat.dvd_of_mul_dvd_mul_left ∅ h);exact ⟨a+1,⋯,by rw [e,Bk,DE]⟩
    ·have c:Nat.Coprime k 2:=by
      have:Nat.gcd k 2∣2:=Nat.gcd_dvd_right k 2;have g:=Ea ∅ this;have i:Nat.gcd k 2≠2:=λz=>f (by rw [<-z];exact Nat.gcd_dvd_left k 2);have m:Nat.gcd k 2≠0:=λz=>by have:=Nat.eq_zero_of_gcd_eq_zero_right z;omega
      show Nat.gcd k 2=1;omega
     rw [Bk] at h;obtain ⟨a,b,e⟩:=d (c.dvd_of_dvd_mul_right h);exact ⟨a,⋯,e⟩
 ·rintro ⟨a,b,rfl⟩;exact Nat.pow_dvd_pow 2 b
structure Pr (p:Nat):Prop where
 two:2<=p
 div:∀ d,d∣p->d=1\/d=p
def Pr.cop {p:Nat} (h:Pr p) {a:Nat} (b:¬ p∣a):Nat.gcd a p=1:=by
 rcases h.div _ (Nat.gcd_dvd_right a p) with e | e
 ·exact e
 ·exact absurd (e ▸ Nat.gcd_dvd_left a p) b
def Pr.mul {p:Nat} (h:Pr p) {a b:Nat} (d:p∣a*b):p∣a\/p∣b:=by
 by_cases c:p∣a
 ·exact .inl c
 ·refine .inr (Nat.Coprime.dvd_of_dvd_mul_left (k:=p) (m:=a) ?_ d);have:=h.cop c;rw [Nat.gcd_comm] at this;exact this
def Pr.mulI {p:Nat} (h:Pr p) {a b:Int} (c:(p:Int)∣a*b):(p:Int)∣a\/(p:Int)∣b:=by
 have z:=DL.mpr c;rw [Bv,Cr] at z;rcases h.mul z with e | e
 ·exact .inl (DL.mp (by rw [Cr];exact e))
 ·exact .inr (DL.mp (by rw [Cr];exact e))
def Oz {m:Nat} (v:2<=m):∃ q,Pr q/\q∣m/\(q=m\/q*q<=m):=by
 have c:∀ n d,2<=d->(∀ e,2<=e->e<d->¬ e∣m)->m=d+n->∃ q,2<=q/\q∣m/\∀ e,2<=e->e<q->¬ e∣m:=by
  intro n
  induction n with
  | zero=>intro d a h e;exact ⟨d,a,by rw [e];exact Nat.dvd_refl _,h⟩
  | succ n o=>
    intro d a h e;by_cases b:d∣m
    ·exact ⟨d,a,b,h⟩
    ·refine o (d+1) ⋯ (λx p r=>?_) ⋯;by_cases f:x=d
     ·rw [f];exact b
     ·exact h x p ⋯
 obtain ⟨q,u,g,j⟩:=c (m - 2) 2 (AV 2) (λe w i=>absurd i ⋯) ⋯;refine ⟨q,⟨u,λd a=>?_⟩,g,?_⟩
 ·by_cases i:2<=d
  ·right;rcases Br d q with h | h
   ·exact absurd (Nat.dvd_trans a g) (j d i h)
   ·exact E9 (Ea ⋯ a) h
  ·left;have:d≠0:=λz=>by rw [z] at a;have:=Nat.eq_zero_of_zero_dvd a;omega
   omega
 ·obtain ⟨k,hk⟩:=g;by_cases y:k<=1
  ·left
   have:k=1:=by
    rcases Er k with z | z
    ·rw [z] at hk;omega
    ·omega
   rw [hk,this,Nat.mul_one]
  ·right;rcases Br k q with h | h
   ·exact absurd ⟨q,by rw [hk,DE]⟩ (j k ⋯ h)
   ·rw [hk];exact EJ q h
theorem aF:∀ (n m:Nat) (f:Nat->Nat),(∀ i,i<m->f i<n)->(∀ i j,i<m->j<m->f i=f j->i=j)->m<=n
 | 0,m,f,h,_=>by
   rcases Er m with z | z
   ·omega
   ·exact absurd (h 0 z) ⋯
 | n+1,0,_,_,_=>by omega
 | n+1,m+1,f,h,a=>by
   have:=aF n m (λi=>if f i=n then f m else f i) (λi d=>by
    show (if f i=n then f m else f i)<n;by_cases e:f i=n
    ·rw [nH e];have g:=h m (ED m);have:f m≠n:=λz=>absurd (a i m ⋯ ⋯ (by rw [e,z])) ⋯;omega
    ·rw [nG e];have g:=h i ⋯;omega) (λi j d k e=>by
    have e:(if f i=n then f m else f i)=(if f j=n then f m else f j):=e;by_cases c:f i=n
    ·rw [nH c] at e;by_cases b:f j=n
     ·exact a i j ⋯ ⋯ (by rw [c,b])
     ·rw [nG b] at e;exact absurd (a m j ⋯ ⋯ e) ⋯
    ·rw [nG c] at e;by_cases b:f j=n
     ·rw [nH b] at e;exact absurd (a i m ⋯ ⋯ e) ⋯
     ·rw [nG b] at e;exact a i j ⋯ ⋯ e)
   omega
noncomputable abbrev Rt:=Int×Int
noncomputable def N_ (q:Int) (x y:Rt):Rt:=((x.1*y.1+3*(x.2*y.2)) % q,(x.1*y.2+x.2*y.1) % q)
noncomputable def B_ (q:Int):Nat->Rt
 | 0=>(1 % q,0 % q)
 | n+1=>N_ q (2,1) (B_ q n)
def F4 {q a b c:Int} (h:a - b=q*c):a % q=b % q:=by
 have:a=b+q*c:=by omega
 rw [this,Int.add_mul_emod_self_left]
def em {a q:Int}:∃ c,a % q=a - q*c:=⟨a / q,by have:=Int.emod_add_mul_ediv a q;omega⟩
def HR (q:Int) (x y z:Rt):N_ q (N_ q x y) z=N_ q x (N_ q y z):=by
 obtain ⟨a,b⟩:=x;obtain ⟨c,d⟩:=y;obtain ⟨e,f⟩:=z;obtain ⟨g,h⟩:=em (a:=a*c+3*(b*d)) (q:=q);obtain ⟨i,j⟩:=em (a:=a*d+b*c) (q:=q);obtain ⟨k,m⟩:=em (a:=c*e+3*(d*f)) (q:=q);obtain ⟨n,o⟩:=em (a:=c*f+d*e) (q:=q);refine Prod.ext ?_ ?_
 ·show ((a*c+3*(b*d)) % q*e+3*((a*d+b*c) % q*f)) % q=(a*((c*e+3*(d*f)) % q)+3*(b*((c*f+d*e) % q))) % q;rw [h,j,m,o];exact F4 (c:=a*k+3*b*n - g*e - 3*i*f) ()
 ·show ((a*c+3*(b*d)) % q*f+((a*d+b*c) % q*e)) % q=(a*((c*f+d*e) % q)+(b*((c*e+3*(d*f)) % q))) % q;rw [h,j,m,o];exact F4 (c:=a*n+b*k - g*f - i*e) ()
def ZD (q:Int) (x y:Rt):N_ q x y=N_ q y x:=by
 refine Prod.ext ?_ ?_
 ·show (x.1*y.1+3*(x.2*y.2)) % q=(y.1*x.1+3*(y.2*x.2)) % q;congr 1;ext
 ·show (x.1*y.2+x.2*y.1) % q=(y.1*x.2+y.2*x.1) % q;congr 1;ext
def rn (q:Int) (x:Rt):Prop:=x.1 % q=x.1/\x.2 % q=x.2
def ZE (q:Int) (x y:Rt):rn q (N_ q x y):=⟨Int.emod_emod ..,Int.emod_emod ..⟩
theorem GZ (q:Int):∀ n,rn q (B_ q n)
 | 0=>⟨Int.emod_emod ..,Int.emod_emod ..⟩
 | _+1=>ZE q _ _
def aw (q:Int) {x:Rt} (h:rn q x):N_ q (B_ q 0) x=x:=by
 obtain ⟨d,e⟩:=em (a:=1) (q:=q);obtain ⟨f,g⟩:=em (a:=0) (q:=q);refine Prod.ext ?_ ?_
 ·show (1 % q*x.1+3*(0 % q*x.2)) % q=x.1;rw [e,g,<-h.1];rw [F4 (b:=x.1 % q) (c:=- d*(x.1 % q) - 3*f*x.2) (),Int.emod_emod]
 ·show (1 % q*x.2+0 % q*x.1) % q=x.2;rw [e,g,<-h.2];rw [F4 (b:=x.2 % q) (c:=- d*(x.2 % q) - f*x.1) (),Int.emod_emod]
theorem Gc (q:Int):∀ m n,B_ q (m+n)=N_ q (B_ q m) (B_ q n)
 | 0,n=>by rw [Nat.zero_add,aw q (GZ q n)]
 | m+1,n=>by
   rw [Nat.succ_add];show N_ q (2,1) (B_ q (m+n))=N_ q (N_ q (2,1) (B_ q m)) (B_ q n);rw [Gc q m n,HR]
noncomputable def ax (q:Int):Nat->Rt
 | 0=>(1 % q,0 % q)
 | n+1=>N_ q (2,-1) (ax q n)
def r21 (q:Int):N_ q (2,-1) (2,1)=B_ q 0:=by
 refine Prod.ext ?_ ?_
 ·show (2*2+3*(-1*1)) % q=1 % q;rfl
 ·show (2*1 + -1*2) % q=0 % q;rfl
theorem O0 (q:Int):∀ n,N_ q (ax q n) (B_ q n)=B_ q 0
 | 0=>aw q (GZ q 0)
 | n+1=>by
   show N_ q (N_ q (2,-1) (ax q n)) (N_ q (2,1) (B_ q n))=_;rw [HR,<-HR q (ax q n),ZD q (ax q n) (2,1),HR q (2,1),O0 q n,<-HR,r21,aw q (GZ q 0)]
theorem Lc (q:Int) {m:Nat} (h:B_ q m=B_ q 0):∀ k,B_ q (m*k)=B_ q 0
 | 0=>rfl
 | k+1=>by rw [Nat.mul_succ,Gc,Lc q h k,h,aw q (GZ q 0)]
theorem rord (q:Int) {n:Nat} (c:B_ q (2 ^ (n+1))=B_ q 0) (f:B_ q (2 ^ n)≠B_ q 0):∀ d,0<d->d<2 ^ (n+1)->B_ q d≠B_ q 0:=by
 intro d
 induction d using Nat.strongRecOn with
 | _ d g=>
 intro i u e;have j:=Nat.mod_lt (2 ^ (n+1)) i
 have m:B_ q (2 ^ (n+1) % d)=B_ q 0:=by
  have o:=Nat.div_add_mod (2 ^ (n+1)) d;rw [<-o,Gc,Lc q e,aw q (GZ q _)] at c;exact c
 rcases Er (2 ^ (n+1) % d) with z | z
 ·obtain ⟨k,hk⟩:=Nat.dvd_of_mod_eq_zero z;obtain ⟨a,v,b⟩:=(ZC (n:=n+1) (k:=d)).mp ⟨k,hk⟩
  have p:a<=n:=by
   rcases Br n a with h | h
   ·exfalso;have:a=n+1:=by omega
    rw [this] at b;omega
   ·exact h
  apply f;have r:2 ^ n=d*2 ^ (n - a):=by rw [b,<-DX];congr 1;omega
  rw [r];exact Lc q e _
 ·exact g _ j z ⋯ m
theorem aG (q:Int):∀ n,∃ c,(B_ q n).1*(B_ q n).1 - 3*((B_ q n).2*(B_ q n).2) - 1=q*c
 | 0=>by
   obtain ⟨d,f⟩:=em (a:=1) (q:=q);obtain ⟨e,g⟩:=em (a:=0) (q:=q);refine ⟨-2*d+q*d*d - 3*q*e*e,?_⟩;show (1 % q)*(1 % q) - 3*((0 % q)*(0 % q)) - 1=_;rw [f,g];ext
 | n+1=>by
   obtain ⟨c,j⟩:=aG q n;obtain ⟨d,f⟩:=em (a:=2*(B_ q n).1+3*(1*(B_ q n).2)) (q:=q);obtain ⟨e,g⟩:=em (a:=2*(B_ q n).2+1*(B_ q n).1) (q:=q);have h:(B_ q (n+1)).1=2*(B_ q n).1+3*(1*(B_ q n).2) - q*d:=f;have i:(B_ q (n+1)).2=2*(B_ q n).2+1*(B_ q n).1 - q*e:=g;rw [h,i];generalize (B_ q n).1=a at *;generalize (B_ q n).2=b at *;exact ⟨c - 2*d*(2*a+3*b)+q*d*d+6*e*(2*b+a) - 3*q*e*e,()⟩
def ZF (q:Int) (n:Nat):∃ c,2*(B_ q (n+n)).1=(2*(B_ q n).1)*(2*(B_ q n).1) - 2+q*c:=by
 obtain ⟨c,e⟩:=aG q n;rw [Gc];obtain ⟨b,d⟩:=em (a:=(B_ q n).1*(B_ q n).1+3*((B_ q n).2*(B_ q n).2)) (q:=q);refine ⟨-2*b - 2*c,?_⟩;show 2*(((B_ q n).1*(B_ q n).1+3*((B_ q n).2*(B_ q n).2)) % q)=_;rw [d];ext
noncomputable def ll (M:Nat):Nat->Nat->Nat
 | 0,s=>s
 | k+1,s=>ll M k ((s*s+(M - 2)) % M)
theorem O3 {q:Int} {M:Nat} (f:2<=M) (g:q∣(M:Int)):∀ (k t s:Nat),q∣2*(B_ q (2 ^ t)).1 - (s:Int)->q∣2*(B_ q (2 ^ (t+k))).1 - (ll M k s:Int)
 | 0,t,s,h=>h
 | k+1,t,s,h=>by
   have:=O3 f g k (t+1) ((s*s+(M - 2)) % M) (by
    obtain ⟨c,i⟩:=ZF q (2 ^ t);obtain ⟨d,j⟩:=h;obtain ⟨m,n⟩:=g;have e:(2:Nat) ^ (t+1)=2 ^ t+2 ^ t:=by rw [Bk];omega
    rw [e,i]
    have z:(((s*s+(M - 2)) % M:Nat):Int)=(s:Int)*s+(M - 2) - M*(((s*s+(M - 2)) / M:Nat):Int):=by
     have:=Nat.mod_add_div (s*s+(M - 2)) M
     have o:(((s*s+(M - 2)) % M:Nat):Int)+(M:Int)*(((s*s+(M - 2)) / M:Nat):Int)=(s:Int)*s+(M - 2):=by
      have:=congrArg (λx:Nat=>(x:Int)) this;simp only [Int.natCast_add,Int.natCast_mul] at this;rw [this,Int.natCast_sub f];rfl
     omega
    rw [z];generalize (((s*s+(M - 2)) / M:Nat):Int)=w;generalize (B_ q (2 ^ t)).1=a at j;have b:2*a=s+q*d:=by omega
    rw [b,n];exact ⟨2*s*d+q*d*d+c - m+m*w,()⟩)
   rw [show t+(k+1)=t+1+k by omega];exact this
def ZG {n:Nat} (h:ll (2 ^ (n+2) - 1) n 4 % (2 ^ (n+2) - 1)=0):Pr (2 ^ (n+2) - 1):=by
 have K:4<=2 ^ (n+2):=by rw [DX];have:=Nat.one_le_two_pow (n:=n);omega
 generalize hM:2 ^ (n+2) - 1=M at h ⊢;obtain ⟨q,o,p,y⟩:=Oz (m:=M) ⋯;rcases y with e | y
 ·rw [<-e];exact o
 exfalso;have L:(q:Int)∣(M:Int):=EK.mpr p;have q2:=o.two
 have N:q≠2:=λz=>by
  rw [z] at p;have:2 ^ (n+2)=2*2 ^ (n+1):=by rw [Bk 2 (n+1)];omega
  omega
 have O:(q:Int)∣2*(B_ q (2 ^ (0+n))).1 - (ll M n 4:Int):=O3 ⋯ L n 0 4 (by
  show (q:Int)∣2*(N_ q (2,1) (B_ q 0)).1 - 4;obtain ⟨f,r⟩:=em (a:=1) (q:=(q:Int));obtain ⟨g,u⟩:=em (a:=0) (q:=(q:Int));show (q:Int)∣2*((2*(1 % (q:Int))+3*(1*(0 % (q:Int)))) % (q:Int)) - 4;obtain ⟨P,Q⟩:=em (a:=2*(1 % (q:Int))+3*(1*(0 % (q:Int)))) (q:=(q:Int));rw [Q,r,u];exact ⟨-4*f - 6*g - 2*P,()⟩)
 have R:(q:Int)∣(ll M n 4:Int):=EK.mpr (Nat.dvd_trans p (Nat.dvd_of_mod_eq_zero h))
 have S:(q:Int)∣2*(B_ q (2 ^ n)).1:=by
  have:=DF O R;rw [Nat.zero_add] at this;rw [Int.sub_add_cancel] at this;exact this
 have T:(q:Int)∣(B_ q (2 ^ n)).1:=by
  rcases o.mulI S with z | z
  ·exfalso;have v:=EK.mp (show (q:Int)∣((2:Nat):Int) from z);have:=Ea ∅ v;omega
  ·exact z
 have k:(q:Int)≠0:=by omega
 have m1:B_ q (2 ^ (n+1))=((-1) % (q:Int),0 % (q:Int)):=by
  have e:(2:Nat) ^ (n+1)=2 ^ n+2 ^ n:=by rw [Bk];omega
  rw [e,Gc];obtain ⟨c,U⟩:=aG q (2 ^ n);obtain ⟨d,w⟩:=T;refine Prod.ext ?_ ?_
  ·show ((B_ q (2 ^ n)).1*(B_ q (2 ^ n)).1+3*((B_ q (2 ^ n)).2*(B_ q (2 ^ n)).2)) % (q:Int)=(-1) % (q:Int);refine F4 (c:=2*q*d*d - c) ?_;generalize (B_ q (2 ^ n)).2=b at *;rw [w] at U ⊢;ext
  ·show ((B_ q (2 ^ n)).1*(B_ q (2 ^ n)).2+(B_ q (2 ^ n)).2*(B_ q (2 ^ n)).1) % (q:Int)=0 % (q:Int);refine F4 (c:=2*d*(B_ q (2 ^ n)).2) ?_;rw [w];ext
 have u:B_ q (2 ^ (n+1))≠B_ q 0:=λz=>by
  rw [m1] at z;have W:(-1) % (q:Int)=1 % (q:Int):=congrArg Prod.fst z;have v:(q:Int)∣-1 - 1:=GG ((Int.emod_eq_emod_iff_emod_sub_eq_zero).mp W);have X:=DL.mpr v;have:=Ea ∅ X;rw [Cr] at this;have:(-1 - 1:Int).natAbs=2:=by decide
  omega
 have r:B_ q (2 ^ (n+1+1))=B_ q 0:=by
  have e:(2:Nat) ^ (n+1+1)=2 ^ (n+1)+2 ^ (n+1):=by rw [Bk 2 (n+1)];omega
  rw [e,Gc,m1];obtain ⟨f,A⟩:=em (a:=-1) (q:=(q:Int));obtain ⟨g,B⟩:=em (a:=0) (q:=(q:Int));refine Prod.ext ?_ ?_
  ·show ((-1) % (q:Int)*((-1) % (q:Int))+3*(0 % (q:Int)*(0 % (q:Int)))) % (q:Int)=1 % (q:Int);refine F4 (c:=2*f+q*f*f+3*q*g*g) ?_;rw [A,B];ext
  ·show ((-1) % (q:Int)*(0 % (q:Int))+0 % (q:Int)*((-1) % (q:Int))) % (q:Int)=0 % (q:Int);refine F4 (c:=2*g+2*q*f*g) ?_;rw [A,B];ext
 have ord:=rord (q:Int) r u
 have C:∀ i d,0<d->i+d<2 ^ (n+2)->B_ q i≠B_ q (i+d):=λi d Y w z=>by
  have e:B_ q d=B_ q 0:=by
   have a:=O0 (q:Int) i
   have b:N_ q (ax q i) (B_ q (i+d))=B_ q d:=by
    rw [Gc,<-HR,a,aw _ (GZ _ _)]
   rw [<-b,<-z,a]
  exact ord d Y (by have:(2:Nat) ^ (n+1+1)=2 ^ (n+2):=rfl;omega) e
 have x:∀ i,0<=(B_ q i).1/\(B_ q i).1<q/\0<=(B_ q i).2/\(B_ q i).2<q:=λi=>by
  obtain ⟨a,b⟩:=GZ (q:Int) i;have D:(0:Int)<q:=by omega
  have E:=B9 (B_ q i).1 k;have F:=CM (B_ q i).1 D;have G:=B9 (B_ q i).2 k;have H:=CM (B_ q i).2 D;rw [a] at E F;rw [b] at G H;exact ⟨E,F,G,H⟩
 have pg:=aF (q*q) (2 ^ (n+2)) (λi=>(B_ q i).1.toNat*q+(B_ q i).2.toNat) (λi _=>by
  obtain ⟨a,b,c,d⟩:=x i;have I:(B_ q i).1.toNat+1<=q:=by omega
  have Z:(B_ q i).2.toNat<q:=by omega
  have:=CW q I;rw [Nat.add_mul,Nat.one_mul] at this;show (B_ q i).1.toNat*q+(B_ q i).2.toNat<q*q;omega) (λi j hi hj e=>by
  have e:(B_ q i).1.toNat*q+(B_ q i).2.toNat=(B_ q j).1.toNat*q+(B_ q j).2.toNat:=e;obtain ⟨a,b,c,d⟩:=x i;obtain ⟨I,b',c',Z⟩:=x j;have m1:=congrArg (·% q) e;have m2:=congrArg (·/ q) e;simp only [DE _ q,Nat.mul_add_mod,Nat.mul_add_div (show 0<q by omega)] at m1 m2;rw [Nat.mod_eq_of_lt ⋯,Nat.mod_eq_of_lt ⋯] at m1;rw [Nat.div_eq_of_lt ⋯,Nat.div_eq_of_lt ⋯] at m2;have J:B_ q i=B_ q j:=Prod.ext ⋯ ⋯;rcases Nat.lt_trichotomy i j with h | h | h
  ·exact absurd J (by have:=C i (j - i) ⋯ ⋯;rw [show i+(j - i)=j by omega] at this;exact this)
  ·exact h
  ·exact absurd J.symm (by have:=C j (i - j) ⋯ ⋯;rw [show j+(i - j)=i by omega] at this;exact this))
 omega
noncomputable def cM (M k s:Nat):Nat:=Nat.rec (motive:=λ_=>Nat->Nat) (λs=>s) (λ_ a s=>a ((s*s+(M - 2)) % M)) k s
noncomputable def cN (x:Nat) (f:Nat->Nat):Nat:=Nat.rec (motive:=λ_=>Nat) (f 0) (λn _=>f (n+1)) x
noncomputable def llo (M k j s:Nat):Nat:=Nat.rec (motive:=λ_=>Nat->Nat) (λs=>s) (λ_ a s=>cN (cM M k s) a) j s
theorem Ld (M:Nat):∀ k s,cM M k s=ll M k s
 | 0,_=>rfl
 | k+1,s=>Ld M k _
def O4 (x:Nat) (f:Nat->Nat):cN x f=f x:=by cases x <;> rfl
theorem Le (M:Nat):∀ a b s,ll M (a+b) s=ll M b (ll M a s)
 | 0,b,s=>by rw [Nat.zero_add];rfl
 | a+1,b,s=>by rw [Nat.succ_add];exact Le M a b _
theorem O5 (M k:Nat):∀ j s,llo M k j s=ll M (k*j) s
 | 0,_=>rfl
 | j+1,s=>by
   show cN (cM M k s) (llo M k j)=_;rw [O4,Ld,O5 M k j,<-Le];congr 1;rw [Nat.mul_succ,Nat.add_comm]
noncomputable def mers (e:Nat):Nat:=2 ^ e - 1
def Fm {n r k j:Nat} (e:n=k*j+r) (h:Nat.beq (cN (llo (mers (n+2)) k j 4) (λs=>cM (mers (n+2)) r s % mers (n+2))) 0=true):Pr (mers (n+2)):=by
 refine ZG ?_;replace h:=Nat.eq_of_beq_eq_true h;rw [O4,O5,Ld,<-Le,<-e] at h;exact h
def ZH:Pr (mers 61):=Fm (n:=59) (r:=9) (k:=10) (j:=5) rfl (by decide +kernel)
def O6:Pr (mers 127):=Fm (n:=125) (r:=5) (k:=20) (j:=6) rfl (by decide +kernel)
def ZI:Pr (mers 521):=Fm (n:=519) (r:=19) (k:=50) (j:=10) rfl (by decide +kernel)
def ZJ:Pr (mers 1279):=Fm (n:=1277) (r:=77) (k:=100) (j:=12) rfl (by decide +kernel)
def ZK:Pr (mers 4423):=Fm (n:=4421) (r:=21) (k:=100) (j:=44) rfl (by decide +kernel)
def ZL:Pr (mers 9941):=Fm (n:=9939) (r:=39) (k:=100) (j:=99) rfl (by decide +kernel)
def ZM:Pr (mers 21701):=Fm (n:=21699) (r:=99) (k:=150) (j:=144) rfl (by decide +kernel)
def ZN:Pr (mers 44497):=Fm (n:=44495) (r:=95) (k:=200) (j:=222) rfl (by decide +kernel)
noncomputable def co (ns:de) (k:Nat):Int:=ns.getD k 0
section
variable {α:Type} [Lean.Grind.CommRing α]
noncomputable def BI:List α->List α->List α
 | [],b=>b
 | a,[]=>a
 | x::a,y::b=>(x+y)::BI a b
def Lf (a:List α):BI a []=a:=by cases a <;> rfl
theorem CB (g:Nat->α):∀ (a b:List α) (k:Nat),cvL (BI a b) g k=cvL a g k+cvL b g k
 | [],b,k=>by show cvL b g k=0+cvL b g k;ext
 | x::a,[],k=>by rw [Lf,BD];ext
 | x::a,y::b,0=>by show cvL ((x+y)::BI a b) g 0=_;rw [Az,Az,Az];ext
 | x::a,y::b,k+1=>by show cvL ((x+y)::BI a b) g (k+1)=_;rw [Ar,Ar,Ar,CB g a b k];ext
theorem BX (c:α) (g:Nat->α):∀ (a:List α) (k:Nat),cvL (a.map (c*·)) g k=c*cvL a g k
 | [],k=>by show (0:α)=c*0;ext
 | x::a,0=>by rw [List.map_cons,Az,Az];ext
 | x::a,k+1=>by rw [List.map_cons,Ar,Ar,BX c g a k];ext
noncomputable def A5 (s:Nat) (f:Nat->α) (k:Nat):α:=if s<=k then f (k - s) else 0
theorem HS (g:Nat->α):∀ (s:Nat) (a:List α) (k:Nat),cvL (List.replicate s 0++a) g k=A5 s (cvL a g) k
 | 0,a,k=>by unfold A5;rw [nH (AY k)];rfl
 | s+1,a,0=>by unfold A5;rw [nG ⋯];show cvL (0::(List.replicate s 0++a)) g 0=0;rw [Az];ext
 | s+1,a,k+1=>by
   show cvL (0::(List.replicate s 0++a)) g (k+1)=_;rw [Ar,HS g s a k];unfold A5;by_cases h:s<=k
   ·rw [nH h,nH ⋯,show k+1 - (s+1)=k - s by omega];ext
   ·rw [nG h,nG ⋯];ext
noncomputable def CC:List α->List α->List α
 | [],_=>[]
 | x::a,b=>BI (b.map (x*·)) (0::CC a b)
theorem Ck (g:Nat->α):∀ (a b:List α) (k:Nat),cvL (CC a b) g k=cvL a (cvL b g) k
 | [],b,k=>rfl
 | x::a,b,k=>by
   show cvL (BI (b.map (x*·)) (0::CC a b)) g k=_;rw [CB,BX,F3,F3]
   have e:Dt (cvL (CC a b) g) k=Dt (cvL a (cvL b g)) k:=by
    cases k with
    | zero=>rfl
    | succ k=>exact Ck g a b k
   rw [e];ext
theorem EV (g:Nat->α) (s:α):∀ (a:List α) (k:Nat),cvL (a++[s]) g k=cvL a g k+s*A5 a.length g k
 | [],0=>by show cvL [s] g 0=0+s*g 0;rw [Az];ext
 | [],k+1=>by show cvL [s] g (k+1)=0+s*g (k+1);rw [Ar,BD];ext
 | x::a,0=>by show cvL (x::(a++[s])) g 0=_;rw [Az,Az];unfold A5;rw [nG (by simp)];ext
 | x::a,k+1=>by
   show cvL (x::(a++[s])) g (k+1)=_;rw [Ar,Ar,EV g s a k]
   have e:A5 (x::a).length g (k+1)=A5 a.length g k:=by
    unfold A5;rw [Cd];by_cases h:a.length<=k
    ·rw [nH h,nH ⋯,show k+1 - (a.length+1)=k - a.length by omega]
    ·rw [nG h,nG ⋯]
   rw [e];ext
def F5 (a:List α) {g:Nat->α} (h:∀ k,g k=0) (k:Nat):cvL a g k=0:=by
 rw [BN (c:=λk=>0*g k) (λj=>by rw [h j];ext) a k,Ds];ext
end
def DS (a:de) (k:Nat):co a k=cvL a A3 k:=(FO a k).symm
def CJ (a b:de) (k:Nat):cvL a (co b) k=cvL b (co a) k:=by
 rw [BN (DS b) a k,HQ,BN (λj=>(DS a j).symm) b k]
def Aq {a:de} {k:Nat} (h:a.length<=k):co a k=0:=by
 unfold co;rw [AI,Bp h];rfl
theorem FP {g:dI} {n:Nat} (h:∀ i,n<=i->g i=0):∀ (a:de) (k:Nat),a.length+n<=k+1->cvL a g k=0
 | [],_,_=>rfl
 | x::a,0,hk=>by
   rw [Cd] at hk;rw [Az,h 0 ⋯];omega
 | x::a,k+1,hk=>by
   rw [Cd] at hk;rw [Ar,h (k+1) ⋯,FP h a k ⋯];omega
theorem Lg {p:Int} {g:dI} {n:Nat} (h:∀ i,n<i->p∣g i):∀ (a:de) (k:Nat),a.length+n<=k->p∣cvL a g k
 | [],_,_=>DH p
 | x::a,0,hk=>absurd hk (by rw [Cd];omega)
 | x::a,k+1,hk=>by
   rw [Cd] at hk;rw [Ar];exact DF (Fu (h (k+1) ⋯)) (Lg h a k ⋯)
theorem Jr {p:Nat} (hp:Pr p) {g:dI} {n:Nat} (q:¬ (p:Int)∣g n) (h:∀ i,n<i->(p:Int)∣g i) (S:de) :
  (∀ k,n<=k->(p:Int)∣cvL S g k)->∀ s∈S,(p:Int)∣s:=by
 induction hl:S.length generalizing S with
 | zero=>intro _ s d;rw [CU.mp hl] at d;exact nomatch d
 | succ m r=>
   intro hk;have j:S≠[]:=λz=>by rw [z] at hl;simp at hl
   obtain ⟨T,t,rfl⟩:∃ T t,S=T++[t]:=⟨S.dropLast,S.getLast j,(G3 j).symm⟩;have u:T.length=m:=by simpa using hl
   have o:(p:Int)∣t:=by
    have a:=hk (T.length+n) ⋯;rw [EV] at a;have b:=Lg h T (T.length+n) (AV _)
    have c:(p:Int)∣t*A5 T.length g (T.length+n):=by
     have:=Int.dvd_sub a b;rwa [show ∀ x y:Int,x+y - x=y by intro x y;omega] at this
    unfold A5 at c;rw [nH ⋯,show T.length+n - T.length=n by omega] at c;rcases hp.mulI c with z | z
    ·exact z
    ·exact absurd z q
   have e:=r T u (λk f=>by
    have a:=hk k f;rw [EV] at a;have:=Int.dvd_sub a (Gz (c:=A5 T.length g k) o);rwa [show ∀ x y:Int,x+y - y=x by intro x y;omega] at this)
   intro s d;rcases CS.mp d with h | h
   ·exact e s h
   ·rw [BL.mp h];exact o
def Lz (g:de):Prop:=0<g.length/\co g (g.length - 1)≠0
def QI (r o f:dI):Prop:=∃ d:Int,d≠0/\∃ U V:de,∀ k,d*f k=cvL U r k+cvL V o k
def MQ (g f:dI):Prop:=∃ c:Int,c≠0/\∃ A:de,∀ k,c*f k=cvL A g k
def QI.congr {r o f h:dI} (q:QI r o f) (e:∀ k,h k=f k):QI r o h:=by
 obtain ⟨d,a,U,V,b⟩:=q;exact ⟨d,a,U,V,λk=>by rw [e k];exact b k⟩
theorem QI.left (r o:dI):QI r o r:=⟨1,∅,[1],[],λk=>by
 rw [BD];cases k with
 | zero=>rw [Az];omega
 | succ k=>rw [Ar,BD];omega⟩
theorem QI.right (r o:dI):QI r o o:=⟨1,∅,[],[1],λk=>by
 rw [BD];cases k with
 | zero=>rw [Az];omega
 | succ k=>rw [Ar,BD];omega⟩
def QI.less {r o f h:dI} (q:QI r o f) (i:QI r o h) (a w:Int) (s:Nat):QI r o (λk=>a*f k - w*A5 s h k):=by
 obtain ⟨d,j,U,V,m⟩:=q;obtain ⟨c,e,n,p,g⟩:=i;refine ⟨d*c,CG j e,BI (U.map (c*a*·)) (List.replicate s 0++n.map (-(d*w)*·)),BI (V.map (c*a*·)) (List.replicate s 0++p.map (-(d*w)*·)),λk=>?_⟩;show d*c*(a*f k - w*A5 s h k)=_;rw [CB,CB,BX,BX,HS,HS];unfold A5;have u:=m k;by_cases b:s<=k
 ·rw [nH b,nH b,nH b,BX,BX];have v:=g (k - s);ext
 ·rw [nG b,nG b,nG b];ext
def QI.scal {r o f:dI} {c:Int} (a:c≠0) (q:QI r o (λk=>c*f k)):QI r o f:=by
 obtain ⟨d,b,U,V,e⟩:=q;exact ⟨d*c,CG b a,U,V,λk=>by rw [<-e k];ext⟩
theorem MQ.refl (g:dI):MQ g g:=⟨1,∅,[1],λk=>by
 cases k with
 | zero=>rw [Az];omega
 | succ k=>rw [Ar,BD];omega⟩
def MQ.zero (g:dI) {f:dI} (h:∀ k,f k=0):MQ g f:=⟨1,∅,[],λk=>by rw [BD,h k];rfl⟩
def MQ.congr {g f h:dI} (m:MQ g f) (e:∀ k,h k=f k):MQ g h:=by
 obtain ⟨c,a,A,b⟩:=m;exact ⟨c,a,A,λk=>by rw [e k];exact b k⟩
def MQ.less {g f h:dI} (m:MQ g f) (j:MQ g h) (a w:Int) (s:Nat):MQ g (λk=>a*f k - w*A5 s h k):=by
 obtain ⟨d,n,U,o⟩:=m;obtain ⟨c,e,p,i⟩:=j;refine ⟨d*c,CG n e,BI (U.map (c*a*·)) (List.replicate s 0++p.map (-(d*w)*·)),λk=>?_⟩;show d*c*(a*f k - w*A5 s h k)=_;rw [CB,BX,HS];unfold A5;have q:=o k;by_cases b:s<=k
 ·rw [nH b,nH b,BX];have r:=i (k - s);ext
 ·rw [nG b,nG b];ext
def MQ.scal {g f:dI} {c:Int} (a:c≠0) (m:MQ g (λk=>c*f k)):MQ g f:=by
 obtain ⟨d,b,A,e⟩:=m;exact ⟨d*c,CG b a,A,λk=>by rw [<-e k];ext⟩
def MQ.trans {g f h:dI} (m:MQ g f) (a:MQ f h):MQ g h:=by
 obtain ⟨c,b,A,i⟩:=m;obtain ⟨d,j,B,n⟩:=a;refine ⟨c*d,CG b j,CC B A,λk=>?_⟩;rw [Ck];have e:c*cvL B f k=cvL B (cvL A g) k:=by rw [<-Ds];exact BN i B k
 rw [<-e,<-n k];ext
def MQ.of_QI {r o f g:dI} (m1:MQ g r) (m2:MQ g o) (q:QI r o f):MQ g f:=by
 obtain ⟨d,a,U,V,b⟩:=q;obtain ⟨c,h,A,i⟩:=m1;obtain ⟨e,j,B,m⟩:=m2;refine ⟨c*e*d,CG (CG h j) a,BI ((CC U A).map (e*·)) ((CC V B).map (c*·)),λk=>?_⟩;rw [CB,BX,BX,Ck,Ck];have n:c*cvL U r k=cvL U (cvL A g) k:=by rw [<-Ds];exact BN i U k
 have p:e*cvL V o k=cvL V (cvL B g) k:=by rw [<-Ds];exact BN m V k
 have u:=b k;ext
def QI.of_MQ {r o f h:dI} (q:QI r o f) (m:MQ f h):QI r o h:=by
 obtain ⟨c,a,A,b⟩:=m;obtain ⟨d,g,U,V,i⟩:=q;refine ⟨d*c,CG g a,CC A U,CC A V,λk=>?_⟩;rw [Ck,Ck];have e:d*cvL A f k=cvL A (cvL U r) k+cvL A (cvL V o) k:=by rw [<-Ds,<-GY];exact BN i A k
 rw [<-e,<-b k];ext
def Lh {f:de} (h:co f (f.length - 1)=0) (k:Nat):co f.dropLast k=co f k:=by
 unfold co at *;rw [AI,AI];rw [List.getElem?_dropLast];by_cases hk:k<f.length - 1
 ·rw [nH hk]
 ·rw [nG hk];by_cases e:k=f.length - 1
  ·subst e;rw [AI] at h;rw [h];rfl
  ·rw [Bp ⋯]
theorem FQ (f:de):(∀ k,co f k=0)\/∃ g,Lz g/\g.length<=f.length/\∀ k,co g k=co f k:=by
 induction hn:f.length generalizing f with
 | zero=>exact .inl λk=>Aq ⋯
 | succ n a=>
   by_cases h:co f (f.length - 1)=0
   ·rcases a f.dropLast (by rw [List.length_dropLast];omega) with z | ⟨g,b,d,c⟩
    ·exact .inl λk=>by rw [<-Lh h];exact z k
    ·exact .inr ⟨g,b,⋯,λk=>by rw [c,Lh h]⟩
   ·exact .inr ⟨f,⟨⋯,h⟩,⋯,λ_=>rfl⟩
def Js (n:Nat) (F:dI) (k:Nat):co ((List.range n).map F) k=if k<n then F k else 0:=by
 unfold co;rw [AI,Aa];by_cases h:k<n
 ·rw [nH h,CV h];rfl
 ·rw [nG h,Bp (by rw [A4];omega)];rfl
structure Gen (r o:dI) (g:de):Prop where
 lz:Lz g
 qi:QI r o (co g)
 len:∀ h,Lz h->QI r o (co h)->g.length<=h.length
 last:∀ h,Lz h->QI r o (co h)->h.length=g.length->(co g (g.length - 1)).natAbs<=(co h (h.length - 1)).natAbs
def ZO {r o:dI} {f:de} (lf:Lz f) (q:QI r o (co f)):∃ g,Gen r o g:=by
 have L:∀ n,(∃ f,f.length=n/\Lz f/\QI r o (co f))->∃ m,(∃ f,f.length=m/\Lz f/\QI r o (co f))/\∀ h,Lz h->QI r o (co h)->m<=h.length:=by
  intro n
  induction n using Nat.strongRecOn with
  | _ n d=>
    intro i;by_cases a:∃ m,m<n/\∃ f,f.length=m/\Lz f/\QI r o (co f)
    ·obtain ⟨m,e,a⟩:=a;exact d m e a
    ·refine ⟨n,i,λh b c=>?_⟩;rcases Br h.length n with z | z
     ·exact absurd ⟨h.length,z,h,rfl,b,c⟩ a
     ·exact z
 obtain ⟨m,⟨k,p,u,v⟩,e⟩:=L f.length ⟨f,rfl,lf,q⟩
 have M:∀ n,(∃ f,f.length=m/\Lz f/\QI r o (co f)/\(co f (f.length - 1)).natAbs=n)->∃ g,Gen r o g:=by
  intro n
  induction n using Nat.strongRecOn with
  | _ n d=>
    rintro ⟨f,w,lf,x,A⟩;by_cases a:∃ j,j<n/\∃ f,f.length=m/\Lz f/\QI r o (co f)/\(co f (f.length - 1)).natAbs=j
    ·obtain ⟨j,y,a⟩:=a;exact d j y a
    ·refine ⟨f,lf,x,λh b c=>by rw [w];exact e h b c,λh b c B=>?_⟩;rcases Br (co h (h.length - 1)).natAbs (co f (f.length - 1)).natAbs with z | z
     ·exact absurd ⟨_,⋯,h,⋯,b,c,rfl⟩ a
     ·exact z
 exact M _ ⟨k,p,u,v,rfl⟩
theorem Gen.mq {r o:dI} {g:de} (G:Gen r o g):∀ (n:Nat) (f:de),f.length<=n->QI r o (co f)->MQ (co g) (co f)
 | 0,f,h,_=>MQ.zero _ λk=>Aq ⋯
 | n+1,f,h,q=>by
   rcases FQ f with z | ⟨b,u,x,i⟩
   ·exact MQ.zero _ z
   have j:QI r o (co b):=q.congr i;have A:=G.len b u j;refine MQ.congr (f:=co b) ?_ λk=>(i k).symm;generalize B:b.length - g.length=s;have C:=G.lz.1;let F:de:=(List.range (b.length - 1)).map λk=>co g (g.length - 1)*co b k - co b (b.length - 1)*A5 s (co g) k
   have p:∀ k,co F k=co g (g.length - 1)*co b k - co b (b.length - 1)*A5 s (co g) k:=λk=>by
    rw [Js];by_cases hk:k<b.length - 1
    ·rw [nH hk]
    ·rw [nG hk];unfold A5;by_cases e:k=b.length - 1
     ·rw [nH ⋯,e,show b.length - 1 - s=g.length - 1 by omega];ext
     ·rw [Aq (a:=b) ⋯];by_cases d:s<=k
      ·rw [nH d,Aq (a:=g) (k:=k - s) ⋯];omega
      ·rw [nG d];omega
   have v:QI r o (co F):=QI.congr (j.less G.qi (co g (g.length - 1)) (co b (b.length - 1)) s) p
   have w:F.length<=n:=by
    have:F.length=b.length - 1:=by show ((List.range (b.length - 1)).map _).length=_;rw [AK,A4]
    omega
   have m:=Gen.mq G n F w v;have m2:=MQ.less (MQ.congr m λk=>(p k).symm) (MQ.refl (co g)) 1 (-(co b (b.length - 1))) s;refine MQ.scal (c:=co g (g.length - 1)) G.lz.2 (MQ.congr m2 λk=>?_);show _=1*_ - _*A5 s (co g) k;generalize A5 s (co g) k=y;ext
def Gen.prim {r o:dI} {g:de} (G:Gen r o g) {p:Nat} (hp:2<=p):∃ n,¬ (p:Int)∣co g n/\∀ i,n<i->(p:Int)∣co g i:=by
 have b:∀ n,(∀ i,n<=i->(p:Int)∣co g i)->(∀ i,(p:Int)∣co g i)\/∃ n,¬ (p:Int)∣co g n/\∀ i,n<i->(p:Int)∣co g i:=by
  intro n
  induction n with
  | zero=>intro h;exact .inl λi=>h i (AY i)
  | succ n v=>
    intro h;by_cases m:(p:Int)∣co g n
    ·exact v λi d=>by
      by_cases e:i=n
      ·rw [e];exact m
      ·exact h i ⋯
    ·exact .inr ⟨n,m,λi d=>h i ⋯⟩
 rcases b g.length (λi d=>by rw [Aq d];exact DH _) with h | h
 ·exfalso;let a:de:=g.map (·/ (p:Int))
  have f:∀ k,(p:Int)*co a k=co g k:=λk=>by
   have:co a k=co g k / (p:Int):=by
    show (g.map (·/ (p:Int))).getD k 0=g.getD k 0 / (p:Int);rw [AI,AI,Aa];cases g[k]? with
    | none=>exact (Int.zero_ediv _).symm
    | some z=>rfl
   rw [this,Int.mul_ediv_cancel' (h k)]
  have w:(p:Int)≠0:=by omega
  have Cz:a.length=g.length:=AK ..;have q:co a (a.length - 1)≠0:=λz=>G.lz.2 (by rw [<-f,<-Cz,z];omega);have x:Lz a:=⟨by rw [Cz];exact G.lz.1,q⟩;have y:QI r o (co a):=QI.scal (c:=(p:Int)) w (QI.congr G.qi f);have u:=G.last a x y Cz;have j:=f (g.length - 1);rw [<-Cz] at j;rw [Cz] at j u;rw [<-j,Bv,Cr] at u;rw [Cz] at q;have A:0<(co a (g.length - 1)).natAbs:=by omega
  have:=CW (co a (g.length - 1)).natAbs hp;omega
 ·exact h
def Gen.loc {r o:dI} {g:de} (G:Gen r o g) {p:Nat} (hp:Pr p) {f:dI} (m:MQ (co g) f) :
  ∃ (c:Int) (A:de),¬ (p:Int)∣c/\∀ k,c*f k=cvL A (co g) k:=by
 obtain ⟨n,v,w⟩:=G.prim hp.two;obtain ⟨c,x,A,b⟩:=m
 have i:∀ (m:Nat) (c:Int) (A:de),c.natAbs<=m->c≠0->(∀ k,c*f k=cvL A (co g) k)->∃ (c:Int) (A:de),¬ (p:Int)∣c/\∀ k,c*f k=cvL A (co g) k:=by
  intro m
  induction m with
  | zero=>intro c A h u;omega
  | succ m y=>
    intro c A h u b;by_cases j:(p:Int)∣c
    ·have B:∀ a∈A,(p:Int)∣a:=Jr hp v w A λk _=>by rw [<-b k];exact Gz j
     obtain ⟨d,rfl⟩:=j;have C:=hp.two;have q:d≠0:=λz=>u (by rw [z];omega)
     have D:A=(A.map (·/ (p:Int))).map ((p:Int)*·):=by
      rw [List.map_map]
      conv=>lhs;rw [<-List.map_id A]
      refine GI λa E=>?_;show a=(p:Int)*(a / (p:Int));rw [Int.mul_ediv_cancel' (B a E)]
     refine y d (A.map (·/ (p:Int))) ?_ q λk=>?_
     ·rw [Bv,Cr] at h;have F:0<d.natAbs:=by omega
      have:=CW d.natAbs C;omega
     ·have e:=b k;rw [D,BX,C7] at e;exact FA ⋯ e
    ·exact ⟨c,A,j,b⟩
 exact i _ c A (AV _) x b
theorem ZP (a b:Nat):∃ x y:Int,x*a+y*b=(Nat.gcd a b:Int):=by
 induction a,b using Nat.gcd.induction with
 | H0 n=>exact ⟨0,1,by simp⟩
 | H1 m n d c=>
   obtain ⟨x,y,h⟩:=c;refine ⟨y - x*((n / m:Nat):Int),x,?_⟩;rw [Nat.gcd_rec,<-h]
   have e:(n:Int)=(m:Int)*((n / m:Nat):Int)+((n % m:Nat):Int):=by
    have:=Nat.div_add_mod n m;exact_mod_cast this.symm
   generalize ((n / m:Nat):Int)=q at *;generalize ((n % m:Nat):Int)=w at *;rw [e];ext
def ZQ (a b:Int):∃ x y:Int,x*a+y*b=(Int.gcd a b:Int):=by
 obtain ⟨x,y,h⟩:=ZP a.natAbs b.natAbs
 have s:∀ z:Int,∃ e:Int,(z.natAbs:Int)=e*z:=λz=>by
  rcases Int.natAbs_eq z with h | h
  ·exact ⟨1,⋯⟩
  ·exact ⟨-1,⋯⟩
 obtain ⟨e,c⟩:=s a;obtain ⟨f,d⟩:=s b;refine ⟨x*e,y*f,?_⟩;show _=((Nat.gcd a.natAbs b.natAbs:Nat):Int);rw [<-h,c,d];ext
def Dm (p:Int) (g f:dI):Prop:=∃ S:de,∀ k,p∣f k - cvL S g k
def Gen.dm {r o:dI} {g:de} (G:Gen r o g) {p:Nat} (hp:Pr p) {f:dI} (m:MQ (co g) f):Dm (p:Int) (co g) f:=by
 obtain ⟨c,A,d,e⟩:=G.loc hp m
 have b:Int.gcd c (p:Int)=1:=by
  have:=hp.cop (a:=c.natAbs) λz=>d (DL.mp (by rw [Cr];exact z));exact this
 obtain ⟨x,y,i⟩:∃ x y:Int,x*c+y*(p:Int)=1:=by
  obtain ⟨x,y,h⟩:=ZQ c (p:Int);exact ⟨x,y,by rw [h,b];rfl⟩
 refine ⟨A.map (x*·),λk=>⟨f k*y,?_⟩⟩;rw [BX,<-e k];ext
def Dm.less {p:Int} {g f h:dI} (m:Dm p g f) (d:Dm p g h) (a w:Int) (s:Nat):Dm p g (λk=>a*f k - w*A5 s h k):=by
 obtain ⟨S,e⟩:=m;obtain ⟨i,c⟩:=d;refine ⟨BI (S.map (a*·)) (List.replicate s 0++i.map (-w*·)),λk=>?_⟩;show p∣a*f k - w*A5 s h k - _;rw [CB,BX,HS];unfold A5;obtain ⟨x,j⟩:=e k;by_cases b:s<=k
 ·rw [nH b,nH b,BX];obtain ⟨y,n⟩:=c (k - s);exact ⟨a*x - w*y,()⟩
 ·rw [nG b,nG b];exact ⟨a*x,()⟩
def Dm.congr {p:Int} {g f h:dI} (m:Dm p g f) (e:∀ k,p∣h k - f k):Dm p g h:=by
 obtain ⟨S,a⟩:=m;exact ⟨S,λk=>by have:=DF (e k) (a k);rwa [show ∀ x y z:Int,x - y+(y - z)=x - z by intro x y z;omega] at this⟩
def Dm.zero (p:Int) (g:dI) {f:dI} (h:∀ k,p∣f k):Dm p g f:=⟨[],λk=>by rw [BD];simpa using h k⟩
def Gen.lead {r o:dI} {g R:de} (G:Gen r o g) {p:Nat} (hp:Pr p) (D:Lz R) (m:MQ (co g) (co R)) (h:¬ (p:Int)∣co R (R.length - 1)):¬ (p:Int)∣co g (g.length - 1):=by
 intro E;obtain ⟨n,b,F⟩:=G.prim hp.two;obtain ⟨c,A,d,f⟩:=G.loc hp m
 have M:n+1<g.length:=by
  rcases Br n g.length with z | z
  ·rcases Br (n+1) g.length with y | y
   ·exact y
   ·exact absurd E (by rw [show g.length - 1=n by omega];exact b)
  ·exact absurd (by rw [Aq z];exact DH _) b
 rcases FQ A with z | ⟨B,q,_,H⟩
 ·have:c*co R (R.length - 1)=0:=by
   rw [f,CJ,F5 g z]
  rcases Eb.mp this with e | e
  ·exact d (by rw [e];exact DH _)
  ·exact D.2 e
 ·have u:∀ k,c*co R k=cvL B (co g) k:=λk=>by rw [f,CJ,BN (λj=>(H j).symm) g k,<-CJ]
  have N:B.length+g.length<=R.length+1:=by
   rcases Br (R.length+1) (B.length+g.length) with z | z
   ·exfalso;have v:=q.1;have O:=G.lz.1;have e:=u (B.length - 1+(g.length - 1));rw [Aq ⋯] at e;have w:B≠[]:=λz=>by rw [z] at v;simp at v
    obtain ⟨T,t,a⟩:∃ T t,B=T++[t]:=⟨B.dropLast,B.getLast w,(G3 w).symm⟩;have I:T.length=B.length - 1:=by rw [a];simp
    have J:co B (B.length - 1)=t:=by rw [<-I,a];unfold co;simp [AI]
    rw [a,EV,<-a,FP (n:=g.length) (λi K=>Aq K) T _ ⋯] at e;unfold A5 at e;rw [nH ⋯,show B.length - 1+(g.length - 1) - T.length=g.length - 1 by omega] at e;have L:t*co g (g.length - 1)=0:=by omega
    rcases Eb.mp L with x | x
    ·exact q.2 (J.trans x)
    ·exact G.lz.2 x
   ·exact z
  have C:=Lg F B (R.length - 1) ⋯;rw [<-u] at C;rcases hp.mulI C with x | x
  ·exact d x
  ·exact h x
def Dm.len {p:Nat} (hp:Pr p) {g f:de} (o:0<g.length) (b:¬ (p:Int)∣co g (g.length - 1)) (d:Dm (p:Int) (co g) (co f)) (j:∃ k,¬ (p:Int)∣co f k):g.length<=f.length:=by
 rcases Br f.length g.length with z | z
 ·exfalso;obtain ⟨S,a⟩:=d
  have sS:=Jr hp b (λi q=>by rw [Aq ⋯];exact DH _) S λk hk=>by
   have:=a k;rw [Aq ⋯] at this;have e:=Int.dvd_neg.mpr this;rwa [show ∀ x:Int,-(0 - x)=x by intro x;omega] at e
  obtain ⟨k,hk⟩:=j;apply hk
  have c:∀ (S:de),(∀ s∈S,(p:Int)∣s)->∀ k,(p:Int)∣cvL S (co g) k:=by
   intro S
   induction S with
   | nil=>intro _ k;exact DH _
   | cons x S m=>
     intro h k;rw [F3];refine DF (Gz (h x (DK ..))) ?_;cases k with
     | zero=>exact DH _
     | succ k=>exact m (λs n=>h s (DW _ n)) k
  have:=DF (a k) (c S sS k);rwa [Int.sub_add_cancel] at this
 ·exact z
structure RC (r o:dI) (g:de):Prop where
 lz:Lz g
 left:MQ (co g) r
 right:MQ (co g) o
 qi:QI r o (co g)
def Gen.rc {R O g:de} (G:Gen (co R) (co O) g):RC (co R) (co O) g:=
 ⟨G.lz,G.mq _ R (AV _) (QI.left _ _),G.mq _ O (AV _) (QI.right _ _),G.qi⟩
def ZR {r o:dI} {g h:de} (G:RC r o g) (b:Lz h) (m1:MQ (co h) r) (m2:MQ (co h) o) (H:g.length<=h.length):RC r o h:=by
 refine ⟨b,m1,m2,G.qi.of_MQ ?_⟩;obtain ⟨d,v,T,f⟩:=MQ.of_QI m1 m2 G.qi;rcases FQ T with z | ⟨B,c,_,w⟩
 ·exfalso;have:d*co g (g.length - 1)=0:=by rw [f,CJ,F5 h z]
  rcases Eb.mp this with e | e
  ·exact v e
  ·exact G.lz.2 e
 ·have m:∀ k,d*co g k=cvL B (co h) k:=λk=>by rw [f,CJ,BN (λj=>(w j).symm) h k,<-CJ]
  have p:=c.1;have I:=b.1;have q:B≠[]:=λz=>by rw [z] at p;simp at p
  obtain ⟨X,t,a⟩:∃ X t,B=X++[t]:=⟨B.dropLast,B.getLast q,(G3 q).symm⟩;have A:X.length=B.length - 1:=by rw [a];simp
  have u:co B (B.length - 1)=t:=by rw [<-A,a];unfold co;simp [AI]
  have one:B.length=1:=by
   rcases Br 1 B.length with y | y
   ·exfalso;have e:=m (B.length - 1+(h.length - 1));rw [Aq ⋯,a,EV,<-a,FP (n:=h.length) (λi C=>Aq C) X _ ⋯] at e;unfold A5 at e;rw [nH ⋯,show B.length - 1+(h.length - 1) - X.length=h.length - 1 by omega] at e;have D:t*co h (h.length - 1)=0:=by omega
    rcases Eb.mp D with x | x
    ·exact c.2 (u.trans x)
    ·exact b.2 x
   ·omega
  have E:X=[]:=CU.mp ⋯;have F:t≠0:=λz=>c.2 (u.trans z);refine ⟨t,F,[d],λk=>?_⟩;have e:=m k;rw [a,E] at e;cases k with
  | zero=>rw [Az];rw [show ([]++[t]:de)=[t] from rfl,Az] at e;omega
  | succ k=>rw [Ar,BD];rw [show ([]++[t]:de)=[t] from rfl,Ar,BD] at e;omega
def Prim (g:de):Prop:=∀ c:Int,(∀ k,c∣co g k)->c.natAbs=1
def Prim.top {g:de} (P:Prim g) {p:Nat} (hp:2<=p):∃ n,¬ (p:Int)∣co g n/\∀ i,n<i->(p:Int)∣co g i:=by
 have a:∀ n,(∀ i,n<=i->(p:Int)∣co g i)->(∀ i,(p:Int)∣co g i)\/∃ n,¬ (p:Int)∣co g n/\∀ i,n<i->(p:Int)∣co g i:=by
  intro n
  induction n with
  | zero=>intro h;exact .inl λi=>h i (AY i)
  | succ n d=>
    intro h;by_cases c:(p:Int)∣co g n
    ·exact d λi b=>by
      by_cases e:i=n
      ·rw [e];exact c
      ·exact h i ⋯
    ·exact .inr ⟨n,c,λi b=>h i ⋯⟩
 rcases a g.length (λi b=>by rw [Aq b];exact DH _) with h | h
 ·have:=P (p:Int) h;omega
 ·exact h
def a9 {g:de} (P:Prim g) {f:dI} (m:MQ (co g) f):∃ A:de,∀ k,f k=cvL A (co g) k:=by
 obtain ⟨c,u,A,b⟩:=m
 have i:∀ (m:Nat) (c:Int) (A:de),c.natAbs<=m->c≠0->(∀ k,c*f k=cvL A (co g) k)->∃ A:de,∀ k,f k=cvL A (co g) k:=by
  intro m
  induction m with
  | zero=>intro c A h o;omega
  | succ m v=>
    intro c A h o b;by_cases q:c.natAbs=1
    ·rcases Int.natAbs_eq c with e | e
     ·exact ⟨A,λk=>by rw [<-b k,e,q];omega⟩
     ·exact ⟨A.map (-1*·),λk=>by rw [BX,<-b k,e,q];omega⟩
    ·obtain ⟨p,hp,pd,_⟩:=Oz (m:=c.natAbs) ⋯;have r:(p:Int)∣c:=DL.mp (by rw [Cr];exact pd);obtain ⟨n,w,x⟩:=P.top hp.two;have y:∀ a∈A,(p:Int)∣a:=Jr hp w x A λk _=>by rw [<-b k];exact Gz r
     obtain ⟨d,rfl⟩:=r;have B:=hp.two;have j:d≠0:=λz=>o (by rw [z];omega)
     have C:A=(A.map (·/ (p:Int))).map ((p:Int)*·):=by
      rw [List.map_map]
      conv=>lhs;rw [<-List.map_id A]
      refine GI λa D=>?_;show a=(p:Int)*(a / (p:Int));rw [Int.mul_ediv_cancel' (y a D)]
     refine v d (A.map (·/ (p:Int))) ?_ j λk=>?_
     ·rw [Bv,Cr] at h;have E:0<d.natAbs:=by omega
      have:=CW d.natAbs B;omega
     ·have e:=b k;rw [C,BX,C7] at e;exact FA ⋯ e
 exact i _ c A (AV _) u b
noncomputable def evI:de->Int->Int
 | [],_=>0
 | a::l,x=>a+x*evI l x
theorem Jt:∀ (l:de) (x:Int),(∀ k,co l k=0)->evI l x=0
 | [],_,_=>rfl
 | a::l,x,h=>by
   have b:a=0:=h 0;show a+x*evI l x=0;rw [b,Jt l x λk=>h (k+1)];omega
theorem Li:∀ (a b:de) (x:Int),(∀ k,co a k=co b k)->evI a x=evI b x
 | [],b,x,h=>(Jt b x λk=>(h k).symm).symm
 | a::l,[],x,h=>Jt (a::l) x h
 | a::l,b::m,x,h=>by
   have c:a=b:=h 0;show a+x*evI l x=b+x*evI m x;rw [c,Li l m x λk=>h (k+1)]
theorem O7:∀ (a b:de) (x:Int),evI (BI a b) x=evI a x+evI b x
 | [],b,x=>by show evI b x=0+evI b x;omega
 | a::l,[],x=>by rw [Lf];show _=_+0;omega
 | a::l,b::m,x=>by
   show (a+b)+x*evI (BI l m) x=a+x*evI l x+(b+x*evI m x);rw [O7 l m x];ext
theorem O8 (c:Int):∀ (a:de) (x:Int),evI (a.map (c*·)) x=c*evI a x
 | [],x=>by show (0:Int)=c*0;omega
 | a::l,x=>by
   show c*a+x*evI (l.map (c*·)) x=c*(a+x*evI l x);rw [O8 c l x];ext
theorem O9:∀ (a b:de) (x:Int),evI (CC a b) x=evI a x*evI b x
 | [],b,x=>by show (0:Int)=0*_;omega
 | a::l,b,x=>by
   show evI (BI (b.map (a*·)) (0::CC l b)) x=(a+x*evI l x)*evI b x;rw [O7,O8];show a*evI b x+(0+x*evI (CC l b) x)=_;rw [O9 l b x];ext
def ZS (a b:de) (k:Nat):co (CC a b) k=cvL a (co b) k:=by
 rw [DS,Ck];exact BN (λj=>(DS b j).symm) a k
def ZT {r a g:de} (h:∀ k,co r k=cvL a (co g) k) (x:Int):evI r x=evI a x*evI g x:=by
 rw [<-O9];exact Li r (CC a g) x λk=>by rw [ZS];exact h k
theorem PB {b c:Nat} {x:Int} (d:Bd c x):∀ (l:de),(∀ z∈l,Bd b z)->Bd (b+l.length*(c+1)) (evI l x)
 | [],_=>Cj _
 | a::l,f=>by
   show Bd _ (a+x*evI l x);have g:=f a (DK ..);have h:=d.mul (PB d l λz i=>f z (DW _ i));have e:(l.length+1)*(c+1)=l.length*(c+1)+(c+1):=by rw [Nat.add_mul,Nat.one_mul]
   refine ((g.mono (n:=c+(b+l.length*(c+1))) ⋯).add h).mono ?_;rw [Cd,e];omega
noncomputable def X':de->Int->de
 | [],_=>[]
 | _::l,t=>evI l t::X' l t
theorem Ju:∀ (l:de) (t:Int),(X' l t).length=l.length
 | [],_=>rfl
 | _::l,t=>congrArg (·+1) (Ju l t)
theorem Lj:∀ (l:de) (t x:Int),evI l x - evI l t=(x - t)*evI (X' l t) x
 | [],t,x=>by show (0:Int) - 0=_*0;omega
 | a::l,t,x=>by
   show a+x*evI l x - (a+t*evI l t)=(x - t)*(evI l t+x*evI (X' l t) x);have:=Lj l t x;ext
theorem Jv:∀ (l:de) (t:Int) (k:Nat),co l k=(if k=0 then evI l t else co (X' l t) (k - 1)) - t*co (X' l t) k
 | [],t,k=>by
   rw [show co (X' [] t) k=0 from Aq (AY _),show co (X' [] t) (k - 1)=0 from Aq (AY _),Aq (AY _)];show 0=(if k=0 then 0 else 0) - _;split <;> omega
 | a::l,t,0=>by
   show a=a+t*evI l t - t*evI l t;omega
 | a::l,t,k+1=>by
   have:=Jv l t k;show co l k=(if k+1=0 then _ else co (evI l t::X' l t) (k+1 - 1)) - t*co (X' l t) k;rw [nG ⋯,this];cases k with
   | zero=>rfl
   | succ k=>rw [nG ⋯];rfl
theorem ZU (l:de) (t:Int):co (X' l t) (l.length - 1)=0:=by
 induction l with
 | nil=>exact Aq (AY _)
 | cons a l b=>
   show co (evI l t::X' l t) l.length=0;cases h:l.length with
   | zero=>rw [CU.mp h];rfl
   | succ m=>rw [h] at b;exact b
theorem aH {c:Nat}:∀ (d:Nat) (l:de) (y:Nat) (x:dI),(∀ k,d<k->co l k=0)->(∀ i,i<=d->Bd c (x i))->(∀ i j,i<=d->j<=d->i≠j->x i≠x j)->(∀ i,i<=d->Bd y (evI l (x i)))->∀ k,Bd (y+d*(c+3)) (co l k)
 | 0,l,y,x,m,_,_,f,k=>by
   cases k with
   | zero=>
     have e:evI l (x 0)=co l 0:=by
      cases l with
      | nil=>rfl
      | cons a l=>
        show a+x 0*evI l (x 0)=a;rw [Jt l (x 0) λk=>m (k+1) ⋯];omega
     have:=f 0 (AV 0);rw [e] at this;exact this.mono ⋯
   | succ k=>rw [m (k+1) ⋯];exact Cj _
 | d+1,l,y,x,m,q,r,f,k=>by
   have v:∀ j,d<j->co (X' l (x (d+1))) j=0:=by
    have g:∀ n,∀ j,d<j->l.length<=j+n->co (X' l (x (d+1))) j=0:=by
     intro n
     induction n with
     | zero=>intro j _ h;exact Aq (by rw [Ju];omega)
     | succ n o=>
       intro j p h;have e:=Jv l (x (d+1)) (j+1);rw [m (j+1) ⋯,nG ⋯,o (j+1) ⋯ ⋯] at e;rw [show j+1 - 1=j by omega] at e;omega
    intro j p;exact g l.length j p ⋯
   have o:=aH d (X' l (x (d+1))) (y+1) x v (λi u=>q i ⋯) (λi j u p=>r i j ⋯ ⋯) (λi u=>by
    have e:=Lj l (x (d+1)) (x i);have C:x i - x (d+1)≠0:=λz=>r i (d+1) ⋯ ⋯ ⋯ ⋯;have b:=(f i ⋯).sub (f (d+1) ⋯);rw [e] at b;refine b.le ?_;rw [Bv];exact Nat.le_mul_of_pos_left _ ⋯)
   have e:=Jv l (x (d+1)) k;rw [e];have w:=q (d+1) (AV _);have A:=w.mul (o k);have em:(d+1)*(c+3)=d*(c+3)+(c+3):=by rw [Nat.add_mul,Nat.one_mul]
   have B:Bd (c+(y+1+d*(c+3))) (if k=0 then evI l (x (d+1)) else co (X' l (x (d+1))) (k - 1)):=by
    split
    ·exact (f (d+1) (AV _)).mono ⋯
    ·exact (o (k - 1)).mono ⋯
   exact (B.sub A).mono ⋯
end Bs
namespace Bs
open PySem L2
def isN (H:Hp) (v:V) (q:Nu):Prop:=∃ p,v=.ref p/\H p=some (.tup [.int q.1,.int q.2])
noncomputable def Nums (H:Hp):d8->cZ->Prop
 | [],[]=>True
 | x::a,q::l=>isN H x q/\Nums H a l
 | _,_=>False
def Tp (H H':Hp):Prop:=∀ b a,H b=some (.tup a)->H' b=some (.tup a)
def L' {H H':Hp} (s:Same H H'):Tp H H':=λb a h=>s b _ h
def Tp.trans {H d e:Hp} (a:Tp H d) (b:Tp d e):Tp H e:=λc f h=>b c f (a c f h)
def Kp.tp {p:Addr} {H H':Hp} {xs:d8} (k:Kp p H H') (h:H p=some (.lst xs)):Tp H H':=λb a q=>k b _ (GJ q h (by intro z;cases z)) q
def Tp.updL {p:Addr} {H:Hp} {xs ys:d8} (h:H p=some (.lst xs)):Tp H (upd H p (.lst ys)):=Kp.tp Kp.upd h
def isN.tp {H H':Hp} {v:V} {q:Nu} (h:isN H v q) (t:Tp H H'):isN H' v q:=let ⟨p,e,z⟩:=h;⟨p,e,t _ _ z⟩
theorem Nums.tp {H H':Hp} (t:Tp H H'):∀ {xs:d8} {l:cZ},Nums H xs l->Nums H' xs l
 | [],[],_=>trivial
 | _::_,_::_,h=>⟨h.1.tp t,Nums.tp t h.2⟩
 | [],_::_,h=>h.elim
 | _::_,[],h=>h.elim
theorem Nums.length {H:Hp}:∀ {xs:d8} {l:cZ},Nums H xs l->xs.length=l.length
 | [],[],_=>rfl
 | _::_,_::_,h=>congrArg (·+1) (Nums.length h.2)
 | [],_::_,h=>h.elim
 | _::_,[],h=>h.elim
theorem Nums.get {H:Hp}:∀ {xs:d8} {l:cZ} {i:Nat} {v:V},Nums H xs l->xs[i]?=some v->∃ q,l[i]?=some q/\isN H v q
 | [],[],_,_,_,e=>by simp at e
 | _::_,q::_,0,_,h,e=>by simp at e;subst e;exact ⟨q,rfl,h.1⟩
 | _::_,_::_,i+1,_,h,e=>by
   obtain ⟨q,a,b⟩:=Nums.get (i:=i) h.2 (by simpa using e);exact ⟨q,by simpa using a,b⟩
 | [],_::_,_,_,h,_=>h.elim
 | _::_,[],_,_,h,_=>h.elim
def Nums.at {H:Hp} {xs:d8} {l:cZ} {i:Nat} (h:Nums H xs l) (b:i<l.length) (d:Nu):∃ v,xs[i]?=some v/\isN H v (l.getD i d):=by
 have a:i<xs.length:=by rw [h.length];exact b
 obtain ⟨q,c,e⟩:=h.get (AT a);refine ⟨_,AT a,?_⟩;rw [AI,c];exact e
theorem Nums.append {H:Hp}:∀ {xs ys:d8} {l m:cZ},Nums H xs l->Nums H ys m->Nums H (xs++ys) (l++m)
 | [],_,[],_,_,h=>h
 | _::_,_,_::_,_,h,a=>⟨h.1,Nums.append h.2 a⟩
 | [],_,_::_,_,h,_=>h.elim
 | _::_,_,[],_,h,_=>h.elim
def Nums.one {H:Hp} {v:V} {q:Nu} (h:isN H v q):Nums H [v] [q]:=⟨h,trivial⟩
theorem Nums.take {H:Hp}:∀ {xs:d8} {l:cZ} (n:Nat),Nums H xs l->Nums H (xs.take n) (l.take n)
 | [],[],n,_=>by simp [Nums]
 | _::_,_::_,0,_=>trivial
 | _::_,_::_,n+1,h=>⟨h.1,Nums.take n h.2⟩
 | [],_::_,_,h=>h.elim
 | _::_,[],_,h=>h.elim
theorem Nums.set {H:Hp} {v:V} {q:Nu} (a:isN H v q):∀ {xs:d8} {l:cZ} (i:Nat),Nums H xs l->Nums H (xs.set i v) (l.set i q)
 | [],[],_,_=>trivial
 | _::_,_::_,0,h=>⟨a,h.2⟩
 | _::_,_::_,i+1,h=>⟨h.1,Nums.set a i h.2⟩
 | [],_::_,_,h=>h.elim
 | _::_,[],_,h=>h.elim
theorem Nums.rep {H:Hp} {v:V} {q:Nu} (a:isN H v q):∀ n:Nat,Nums H (List.replicate n v) (List.replicate n q)
 | 0=>trivial
 | n+1=>⟨a,Nums.rep a n⟩
theorem FR {a:Type} (v:a):∀ n:Nat,(List.replicate n [v]).flatten=List.replicate n v
 | 0=>rfl
 | n+1=>by rw [GF,List.flatten_cons,FR v n];rfl
def DC {a:Type} {xs:List a} {i:Int} {j:Nat} {v:a} (e:i=(j:Int)) (h:xs[j]?=some v):M_ xs i=some v:=by subst e;exact DP h
def IN {H:Hp} {p:Addr} {q:Nu}:isN (upd H p (.tup [.int q.1,.int q.2])) (.ref p) q:=⟨p,rfl,upd_same⟩
def IO {xs:d8} {m:Nat} (h:m<=xs.length):CO xs none (some (m:Int))=xs.take m:=by
 unfold CO HT.sIx;simp only [List.drop_zero,Nat.sub_zero,Bg];rw [nG ⋯,Nat.min_eq_left h]
def Ge (H:Hp) (Q:VK) (l:cZ):Prop:=∀ (r:Addr) (b:d8) (a:Hp),Same H a->a r=some (.tup b)->Nums a b l->Q (.ref r) a
noncomputable def FS (q:Nu):W.Dat:=.tuple [.int q.1,.int q.2]
noncomputable def DD (l:cZ):W.Dat:=.tuple (l.map FS)
def ZV {H:Hp} {v:V} {q:Nu} (h:isN H v q):RepD H v (FS q):=by
 obtain ⟨p,rfl,hp⟩:=h;exact .tup hp (.cons (.int _) (.cons (.int _) .nil))
theorem Lk {H:Hp}:∀ {xs:d8} {l:cZ},Nums H xs l->RepA H xs (l.map FS)
 | [],[],_=>.nil
 | _::_,_::_,h=>.cons (ZV h.1) (Lk h.2)
 | [],_::_,h=>h.elim
 | _::_,[],h=>h.elim
def F6 {H:Hp} {p:Addr} {xs:d8} {l:cZ} (hp:H p=some (.tup xs)) (h:Nums H xs l):RepD H (.ref p) (DD l):=.tup hp (Lk h)
def ZW {H:Hp} {p:Addr} {xs:d8} {l:cZ} (hp:H p=some (.lst xs)) (h:Nums H xs l):RepD H (.ref p) (.list (l.map FS)):=.lst hp (Lk h)
def okN (q:Nu) (n:Nat):W.kqdOk (n+1) (FS q)=true:=by simp [FS,W.kqdOk]
def bR (l:cZ) (n:Nat):W.kqdOk (n+2) (DD l)=true:=by
 simp only [DD,W.kqdOk,List.all_map,List.all_eq_true,Function.comp];intro q _;exact okN q n
section
variable {σ:L2.St} {H:Hp} {Q:VK} {D:Ends} {rest:TS} {sp:Sp} {E:XK}
def AF {i:Nat} {v:V} (a:σ[i]?=some (some v)) (h:Q v H):AB i σ H Q:=⟨v,a,h⟩
def Bu {i:Nat} {k:Int} {a:Addr} {xs:d8} {v:V} (b:σ[i]?=some (some (.ref a))) (c:H a=some (.tup xs)) (d:M_ xs k=some v) (h:Q v H):A_ gT (AB i) (tC (.int k)) σ H Q:=⟨_,b,a,k,xs,v,rfl,rfl,c,d,h⟩
def F7 {i:Nat} {k:Int} {a:Addr} {xs:d8} {v:V} (b:σ[i]?=some (some (.ref a))) (c:H a=some (.lst xs)) (d:M_ xs k=some v) (h:Q v H):A_ gL (AB i) (tC (.int k)) σ H Q:=⟨_,b,a,k,xs,v,rfl,rfl,c,d,h⟩
def Ll {a:TE} {k:Nat} (h:a σ H λx b=>sp [x] b (λv c=>rest D (σ.set k (some v)) c) E):AH (AM (AR sp [] E (AC a AD)) (AG k)) rest D σ H:=h
def Gf {a b:TE} {k:Nat} (h:a σ H λx c=>b σ c λy d=>sp [x,y] d (λv e=>rest D (σ.set k (some v)) e) E):AH (AM (AR sp [] E (AC a (AC b AD))) (AG k)) rest D σ H:=h
def Lm {a b tc:TE} {k:Nat} (h:a σ H λx c=>b σ c λy d=>tc σ d λz e=>sp [x,y,z] e (λv f=>rest D (σ.set k (some v)) f) E):AH (AM (AR sp [] E (AC a (AC b (AC tc AD)))) (AG k)) rest D σ H:=h
def Df {a:TE} (h:a σ H λx b=>sp [x] b Q E):AR sp [] E (AC a AD) σ H Q:=h
def A9 {a b:TE} (h:a σ H λx c=>b σ c λy d=>sp [x,y] d Q E):AR sp [] E (AC a (AC b AD)) σ H Q:=h
def HU {a b tc:TE} (h:a σ H λx c=>b σ c λy d=>tc σ d λz e=>sp [x,y,z] e Q E):AR sp [] E (AC a (AC b (AC tc AD))) σ H Q:=h
def Ag {a:TE} {k:Nat} (h:a σ H λx b=>rest D (σ.set k (some x)) b):AH (AM a (AG k)) rest D σ H:=h
def BY {a:TE} (h:a σ H D.rt):AZ a D σ H:=h
def ZX {a:TE} (h:a σ H λx b=>[x].length<=sizeLine/\∀ p,b p=none->Q (.ref p) (upd b p (.tup [x]))):BJ (AC a AD) σ H Q:=h
def DT {a b:TE} (h:a σ H λx d=>b σ d λy c=>[x,y].length<=sizeLine/\∀ p,c p=none->Q (.ref p) (upd c p (.tup [x,y]))):BJ (AC a (AC b AD)) σ H Q:=h
def Ln {a b tc:TE} (h:a σ H λx d=>b σ d λy e=>tc σ e λz c=>[x,y,z].length<=sizeLine/\∀ p,c p=none->Q (.ref p) (upd c p (.tup [x,y,z]))):BJ (AC a (AC b (AC tc AD))) σ H Q:=h
def En {a:TE} (h:a σ H λx b=>[x].length<=sizeLine/\∀ p,b p=none->Q (.ref p) (upd b p (.lst [x]))):BG (AC a AD) σ H Q:=h
def F_ {v:V} (h:Q v H):tC v σ H Q:=h
def AX {r:R2} {a b:TE} (h:a σ H λx c=>b σ c λy d=>r x y d Q):A_ r a b σ H Q:=h
def Jw {k:Int} {a:Addr} {xs:d8} {v:V} (b:H a=some (.tup xs)) (c:M_ xs k=some v) (h:Q v H):gT (.ref a) (.int k) H Q:=⟨a,k,xs,v,rfl,rfl,b,c,h⟩
def Cl {k:Int} {a:Addr} {xs:d8} {v:V} (b:H a=some (.lst xs)) (c:M_ xs k=some v) (h:Q v H):gL (.ref a) (.int k) H Q:=⟨a,k,xs,v,rfl,rfl,b,c,h⟩
def FT {a:TE} (h:a σ H λx b=>BK [x] b Q):C' BK (AC a AD) σ H Q:=h
def FU {a:Addr} {xs:d8} (b:H a=some (.lst xs)) (h:Q (.int xs.length) H):BK [.ref a] H Q:=⟨a,xs,rfl,b,h⟩
def Cm {b:d8->Hp->VK->Prop} {a:TE} (h:a σ H λx c=>b [x] c Q):C' b (AC a AD) σ H Q:=h
def PC {a:TA} {g:TG} {b:TS} (h:a σ H (λc d=>∃ i j:Int,c=[.int i,.int j,.int (-1)]/\(-(2 ^ 62)<=i/\i<2 ^ 62/\-(2 ^ 62)<=j/\j<2 ^ 62)/\ForJ (cA i (i - j).toNat) g b { D with nx:=rest D } σ d)):AH (Ay (IJ a) g b) rest D σ H:=h
def F8 {a:TE} {g:TG} (h:a σ H λx b=>g x σ b (rest D)):AH (AM a g) rest D σ H:=h
def Jx {b c tc d:TE} (h:b σ H λx e=>c σ e λy f=>tc σ f λz g=>d σ g λa i=>sp [x,y,z,a] i Q E):AR sp [] E (AC b (AC c (AC tc (AC d AD)))) σ H Q:=h
def PD {b:d8->Hp->VK->Prop} {a c:TE} (h:a σ H λx d=>c σ d λy e=>b [x,y] e Q):C' b (AC a (AC c AD)) σ H Q:=h
def ZY {c d tc e f:TE} (h:c σ H λx g=>d σ g λy i=>tc σ i λz j=>e σ j λa k=>f σ k λb m=>sp [x,y,z,a,b] m Q E):AR sp [] E (AC c (AC d (AC tc (AC e (AC f AD))))) σ H Q:=h
def CD {i:Nat} {v:V} {σ:L2.St} {H:Hp} {Q:L2.St->Hp->Prop} (h:Q (σ.set i (some v)) H):AG i v σ H Q:=h
def Dg {K:W.Frag} {b:TE} {capt:List (Option Nat)} {g:TG} {c:TE} {σ:L2.St} {H:Hp} {Q:VK} (h:b σ H (λx d=>∃ a,x=.ref a/\(∃ e,SqL K d a e)/\CompJ (af K a) capt g c σ Q d)):A8 (BU K b) capt g c σ H Q:=h
def PH {a:TE} {k:Nat} {D:Ends} {σ:L2.St} {H:Hp} (h:a σ H λx b=>D.nx (σ.set k (some x)) b):AM a (AG k) D σ H:=h
def Fn {c:TT} {t u:TS} (h:c σ H λb a=>if b=true then t { D with nx:=rest D } σ a else u { D with nx:=rest D } σ a):AH (BR c t u) rest D σ H:=h
def Dh {a:TE} {Q:Bool->Hp->Prop} (h:a σ H λx b=>∃ k,x=.bl k/\Q k b):As a σ H Q:=h
def Cz {x:V}:[x].length<=sizeLine:=by show 1<=_;exact sz ∅
def Cn {x y:V}:[x,y].length<=sizeLine:=by show 2<=_;exact sz ∅
def Jy {x y z:V}:[x,y,z].length<=sizeLine:=by show 3<=_;exact sz ∅
theorem Lo {H:Hp} {a x y:Addr} {A X Y:HO} {P:Hp->Prop} (i:H a=none) (j:upd H a A x=none) (d:upd (upd H a A) x X y=none) (k:∀ b,b a=some A->b y=some Y->Same H b->a≠y->H y=none->P b):P (upd (upd (upd H a A) x X) y Y):=by
 have f:=AQ i A;have c:=AQ j X;have g:=AQ d Y;refine k _ (g _ _ (c _ _ upd_same)) upd_same (λz o h=>g z o (c z o (f z o h))) (Ax (c _ _ upd_same) d) ?_;cases e:H y with
 | none=>rfl
 | some o=>have:=c _ _ (f _ _ e);rw [d] at this;cases this
def ZZ {e H:Hp} {t w:Addr} {X:HO} {i ys:d8} {P:Hp->Prop} (f:H t=none) (g:H w=some (.lst i)) (j:e w=none) (s:Same e H) (k:∀ a,Same e a->a w=some (.lst ys)->a t=some X->Tp H a->(∀ c o,c≠w->H c=some o->a c=some o)->P a):P (upd (upd H t X) w (.lst ys)):=by
 have d:=AQ f X;exact k _ (λb o h=>Kp.upd b o (Ax h j) (d b o (s b o h))) upd_same (Kp.upd _ _ (Ax g f).symm upd_same) (λb o h=>Tp.updL (d _ _ g) b o (d _ _ h)) λc o n h=>Kp.upd c o n (d _ _ h)
end
end Bs
set_option maxHeartbeats 4000000
namespace Bs
open PySem L2
theorem PJ {g:dL} {n:Nat} (h:∀ i,n<i->g i=0):∀ (a:List Rat) (k:Nat),a.length+n<=k->cvL a g k=0
 | [],_,_=>rfl
 | x::a,0,hk=>absurd hk (by rw [Cd];omega)
 | x::a,k+1,hk=>by
   rw [Cd] at hk;rw [Ar,h (k+1) ⋯,PJ h a k ⋯];ext
theorem Za {g:dL} {n:Nat} (j:g n≠0) (h:∀ i,n<i->g i=0) (S:List Rat):(∀ k,n<=k->cvL S g k=0)->∀ s∈S,s=0:=by
 induction hl:S.length generalizing S with
 | zero=>intro _ s b;rw [CU.mp hl] at b;exact nomatch b
 | succ m o=>
   intro hk;have e:S≠[]:=λz=>by rw [z] at hl;simp at hl
   obtain ⟨T,t,rfl⟩:∃ T t,S=T++[t]:=⟨S.dropLast,S.getLast e,(G3 e).symm⟩
   have f:t=0:=by
    have a:=hk (T.length+n) ⋯;rw [EV,PJ h T _ (AV _)] at a;unfold A5 at a;rw [nH ⋯,show T.length+n - T.length=n by omega] at a;have p:t*g n=0:=by ext
    rcases Rat.mul_eq_zero.mp p with z | z
    ·exact z
    ·exact absurd z j
   have c:=o T (by simpa using hl) (λk d=>by
    have a:=hk k d;rw [EV,f] at a;ext)
   intro s b;rcases CS.mp b with h | h
   ·exact c s h
   ·rw [BL.mp h];exact f
theorem PM {g:dL}:∀ (S:List Rat),(∀ s∈S,s=0)->∀ k,cvL S g k=0
 | [],_,_=>rfl
 | x::S,h,0=>by rw [Az,h x (DK ..)];ext
 | x::S,h,k+1=>by rw [Ar,h x (DK ..),PM S (λs a=>h s (DW _ a)) k];ext
def Zb {G:dL} {n:Nat} (a:G n≠0) (b:∀ i,n<i->G i=0) {A B:List Rat} (h:∀ k,cvL A G k=cvL B G k) (g:dL) (k:Nat):cvL A g k=cvL B g k:=by
 have z:=PM (g:=g) (BI A (B.map ((-1:Rat)*·))) (Za a b _ λk _=>by rw [CB,BX,h k];ext) k;rw [CB,BX] at z;ext
structure Sr where
 c:dL
def Sr.ext' {f g:Sr} (h:∀ k,f.c k=g.c k):f=g:=by
 cases f;cases g;congr;exact funext h
noncomputable def tr (n:Nat) (f:dL):List Rat:=(List.range n).map f
def Gh (n:Nat) (f:dL) (k:Nat):(tr n f).getD k 0=if k<n then f k else 0:=by
 unfold tr;rw [AI,Aa];by_cases h:k<n
 ·rw [CV h,nH h];rfl
 ·rw [nG h,Bp (by rw [A4];omega)];rfl
theorem IP:∀ (a b:List Rat) (g h:dL) (k:Nat),(∀ i,i<=k->a.getD i 0=b.getD i 0)->(∀ i,i<=k->g i=h i)->cvL a g k=cvL b h k:=by
 intro a
 induction a with
 | nil=>
   intro b
   induction b with
   | nil=>intro g h k _ _;rfl
   | cons y b j=>
     intro g h k c e;have m:=c 0 (AY _);simp at m;cases k with
     | zero=>rw [BD,Az,<-m];ext
     | succ k=>
       rw [BD,Ar,<-m];have:=j g h k (λi f=>by have:=c (i+1) ⋯;simpa using this) (λi f=>e i ⋯);rw [BD] at this;ext
 | cons x a j=>
   intro b g h k c e;cases b with
   | nil=>
     have d:=c 0 (AY _);simp at d;cases k with
     | zero=>rw [BD,Az,d];ext
     | succ k=>
       rw [BD,Ar,d];have:=j [] g h k (λi f=>by have:=c (i+1) ⋯;simpa using this) (λi f=>e i ⋯);rw [BD] at this;ext
   | cons y b=>
     have d:=c 0 (AY _);simp at d;cases k with
     | zero=>rw [Az,Az,d,e 0 (AV _)]
     | succ k=>
       rw [Ar,Ar,d,e _ (AV _),j b g h k (λi f=>by have:=c (i+1) ⋯;simpa using this) (λi f=>e i ⋯)]
namespace Sr
noncomputable def zero:Sr:=⟨λ_=>0⟩
noncomputable def one:Sr:=⟨A3⟩
noncomputable def add (f g:Sr):Sr:=⟨λk=>f.c k+g.c k⟩
noncomputable def neg (f:Sr):Sr:=⟨λk=>- f.c k⟩
noncomputable def mul (f g:Sr):Sr:=⟨λk=>cvL (tr (k+1) f.c) g.c k⟩
noncomputable def num (x:Rat):Sr:=⟨λk=>x*A3 k⟩
def Jz (f g:Sr) {n k:Nat} (h:k<n):(mul f g).c k=cvL (tr n f.c) g.c k:=by
 refine IP _ _ _ _ _ (λi a=>?_) (λ_ _=>rfl);rw [Gh,Gh,nH ⋯,nH ⋯]
def Lp (f g:Sr) {n m k:Nat} (h:k<n) (h':k<m):(mul f g).c k=cvL (tr n f.c) (cvL (tr m g.c) A3) k:=by
 rw [Jz f g h];refine IP _ _ _ _ _ (λ_ _=>rfl) (λi a=>?_);rw [FO,Gh,nH ⋯]
def mul_comm (f g:Sr):mul f g=mul g f:=ext' λk=>by
 rw [Lp f g (ED k) (ED k),Lp g f (ED k) (ED k),HQ]
def mul_assoc (f g h:Sr):mul (mul f g) h=mul f (mul g h):=ext' λk=>by
 rw [Jz (mul f g) h (ED k),Jz f (mul g h) (ED k)]
 have a:cvL (tr (k+1) (mul f g).c) h.c k=cvL (CC (tr (k+1) f.c) (tr (k+1) g.c)) h.c k:=by
  refine IP _ _ _ _ _ (λi b=>?_) (λ_ _=>rfl);rw [Gh,nH ⋯,<-FO,Ck,Lp f g (n:=k+1) (m:=k+1) ⋯ ⋯]
 rw [a,Ck];exact IP _ _ _ _ _ (λ_ _=>rfl) (λi b=>(Jz g h ⋯).symm)
def mul_add (f g h:Sr):mul f (add g h)=add (mul f g) (mul f h):=ext' λk=>by
 show cvL (tr (k+1) f.c) (λk=>g.c k+h.c k) k=_;rw [GY];rfl
def mul_one (f:Sr):mul f one=f:=ext' λk=>by
 show cvL (tr (k+1) f.c) A3 k=_;rw [FO,Gh,nH (ED k)]
def mul_zero (f:Sr):mul f zero=zero:=ext' λk=>by
 show cvL (tr (k+1) f.c) (λ_=>0) k=0;have:=Ds (0:Rat) (λ_=>0) (tr (k+1) f.c) k;rw [show (λk:Nat=>(0:Rat)*(λ_=>(0:Rat)) k)=λ_=>0 from funext λ_=>by grind] at this;rw [this];ext
noncomputable def npow (f:Sr):Nat->Sr
 | 0=>one
 | n+1=>mul (npow f n) f
noncomputable instance:Add Sr:=⟨add⟩
noncomputable instance:Mul Sr:=⟨mul⟩
noncomputable instance:Neg Sr:=⟨neg⟩
noncomputable instance:Sub Sr:=⟨λf g=>add f (neg g)⟩
noncomputable instance:NatCast Sr:=⟨λn=>num (n:Rat)⟩
noncomputable instance:IntCast Sr:=⟨λn=>num (n:Rat)⟩
noncomputable instance (n:Nat):OfNat Sr n:=⟨num (n:Rat)⟩
noncomputable instance:Pow Sr Nat:=⟨npow⟩
noncomputable instance:SMul Nat Sr:=⟨λn f=>mul (num (n:Rat)) f⟩
noncomputable instance:SMul Int Sr:=⟨λn f=>mul (num (n:Rat)) f⟩
def num0:num 0=zero:=ext' λk=>by show 0*A3 k=(0:Rat);ext
def num1:num 1=one:=ext' λk=>by show 1*A3 k=(A3 k:Rat);ext
def Zc (x y:Rat):num (x+y)=add (num x) (num y):=ext' λk=>by show (x+y)*A3 k=x*A3 k+y*A3 k;ext
def Lq (x:Rat):num (-x)=neg (num x):=ext' λk=>by show (-x)*A3 k = -(x*A3 k);ext
def add_comm (f g:Sr):add f g=add g f:=ext' λk=>by show f.c k+g.c k=g.c k+f.c k;ext
def add_assoc (f g h:Sr):add (add f g) h=add f (add g h):=ext' λk=>by show f.c k+g.c k+h.c k=f.c k+(g.c k+h.c k);ext
def add_zero (f:Sr):add f zero=f:=ext' λk=>by show f.c k+0=f.c k;ext
def Lr (f:Sr):add (neg f) f=zero:=ext' λk=>by show -f.c k+f.c k=0;ext
def add_mul (f g h:Sr):mul (add f g) h=add (mul f h) (mul g h):=by rw [mul_comm,mul_add,mul_comm h f,mul_comm h g]
def neg_mul (f g:Sr):mul (neg f) g=neg (mul f g):=by
 have h:add (mul (neg f) g) (mul f g)=zero:=by rw [<-add_mul,Lr,mul_comm,mul_zero]
 have c:add (neg (mul f g)) (mul f g)=zero:=Lr _;refine ext' λk=>?_;have a:=nV (congrArg Sr.c h) k;have b:=nV (congrArg Sr.c c) k;have a:(mul (neg f) g).c k+(mul f g).c k=0:=a;have b:(neg (mul f g)).c k+(mul f g).c k=0:=b;ext
noncomputable instance:Lean.Grind.CommRing Sr where
 add_zero f:=(congrArg (add f) num0).trans (add_zero f)
 add_comm:=add_comm
 add_assoc:=add_assoc
 mul_assoc:=mul_assoc
 mul_comm:=mul_comm
 mul_one f:=(congrArg (mul f) num1).trans (mul_one f)
 one_mul f:=(congrArg (λz=>mul z f) num1).trans ((mul_comm _ _).trans (mul_one f))
 left_distrib:=mul_add
 right_distrib:=add_mul
 zero_mul f:=by show mul (num 0) f=num 0;rw [num0,mul_comm,mul_zero]
 mul_zero f:=by show mul f (num 0)=num 0;rw [num0,mul_zero]
 pow_zero f:=num1.symm
 pow_succ f n:=rfl
 ofNat_succ n:=by
  show num ((n+1:Nat):Rat)=add (num (n:Rat)) (num 1)
  rw [<-Zc];push_cast;rfl
 ofNat_eq_natCast n:=rfl
 nsmul_eq_natCast_mul n f:=rfl
 sub_eq_add_neg f g:=rfl
 neg_add_cancel f:=(Lr f).trans num0.symm
 intCast_neg n:=by show num ((-n:Int):Rat)=neg (num (n:Rat));rw [<-Lq];push_cast;rfl
 intCast_ofNat n:=rfl
 neg_zsmul n f:=by show mul (num ((-n:Int):Rat)) f=neg (mul (num (n:Rat)) f);rw [show ((-n:Int):Rat) = -(n:Rat) by push_cast;rfl,Lq,neg_mul]
 zsmul_natCast_eq_nsmul n f:=rfl
noncomputable def L (a:List Rat):Sr:=⟨cvL a A3⟩
def L_mul (a:List Rat) (g:Sr):L a*g=⟨cvL a g.c⟩:=ext' λk=>by
 refine IP _ _ _ _ _ (λi b=>?_) (λ_ _=>rfl);rw [Gh,nH ⋯];exact FO a i
def Bn (f:Sr) (n:Nat):Prop:=∀ k,n<=k->f.c k=0
def Bn.row {f:Sr} {n:Nat} (h:Bn f n):L (tr n f.c)=f:=ext' λk=>by
 show cvL (tr n f.c) A3 k=f.c k;rw [FO,Gh];by_cases hk:k<n
 ·rw [nH hk]
 ·rw [nG hk,h k ⋯]
def Pol (f:Sr):Prop:=∃ a,f=L a
def Pol.L (a:List Rat):Pol (L a):=⟨a,rfl⟩
def Bn.pol {f:Sr} {n:Nat} (h:Bn f n):Pol f:=⟨_,h.row.symm⟩
def PN (a:List Rat):Bn (Sr.L a) a.length:=λk hk=>by
 show cvL a A3 k=0;rw [FO,AI,Bp hk];rfl
def Pol.bn {f:Sr} (h:Pol f):∃ n,Bn f n:=let ⟨a,e⟩:=h;⟨a.length,e ▸ PN a⟩
def Pol.add {f g:Sr} (h:Pol f) (h':Pol g):Pol (f+g):=by
 obtain ⟨a,rfl⟩:=h;obtain ⟨b,rfl⟩:=h';exact ⟨BI a b,ext' λk=>(CB A3 a b k).symm⟩
def Pol.mul {f g:Sr} (h:Pol f) (h':Pol g):Pol (f*g):=by
 obtain ⟨a,rfl⟩:=h;obtain ⟨b,rfl⟩:=h';exact ⟨CC a b,by rw [L_mul];exact ext' λk=>(Ck A3 a b k).symm⟩
theorem Pol.num (x:Rat):Pol (num x):=⟨[x],ext' λk=>by
 show x*A3 k=cvL [x] A3 k;cases k with
 | zero=>rw [Az];ext
 | succ k=>rw [Ar,BD];ext⟩
def Pol.nat (n:Nat):Pol (OfNat.ofNat n:Sr):=Pol.num (n:Rat)
def Pol.neg {f:Sr} (h:Pol f):Pol (-f):=by
 have e:-f=Sr.num (-1)*f:=by
  have:Sr.num (-1)=(-1:Sr):=Lq 1;rw [this];ext
 rw [e];exact (Pol.num _).mul h
def Pol.sub {f g:Sr} (h:Pol f) (h':Pol g):Pol (f - g):=by
 have e:f - g=f + -g:=by ext
 rw [e];exact h.add h'.neg
theorem top_ex {f:Sr}:∀ n,Bn f n->f=0\/∃ m,m<n/\f.c m≠0/\Bn f (m+1)
 | 0,h=>.inl (ext' λk=>by rw [h k (AY _)];show 0=((0:Nat):Rat)*A3 k;push_cast;ext)
 | n+1,h=>by
   by_cases z:f.c n=0
   ·rcases top_ex n (λk hk=>by rcases Nat.eq_or_lt_of_le hk with e | e;exact e ▸ z;exact h k e) with q | ⟨m,m1,m2,m3⟩
    ·exact .inl q
    ·exact .inr ⟨m,⋯,m2,m3⟩
   ·exact .inr ⟨n,⋯,z,h⟩
def zero_c (k:Nat):(0:Sr).c k=0:=by show ((0:Nat):Rat)*A3 k=0;push_cast;ext
def cancel {f g h:Sr} (c:Pol f) (d:Pol g) (j:Pol h) (o:h≠0) (e:f*h=g*h):f=g:=by
 obtain ⟨a,rfl⟩:=c;obtain ⟨b,rfl⟩:=d;obtain ⟨n,p⟩:=j.bn;rcases top_ex n p with z | ⟨m,_,m1,m2⟩
 ·exact absurd z o
 rw [L_mul,L_mul] at e;exact ext' λk=>Zb m1 (λi q=>m2 i q) (λk=>nV (congrArg Sr.c e) k) A3 k
noncomputable def X (n:Nat):Sr:=L (List.replicate n 0++[1])
def J0 (n:Nat) (g:Sr) (k:Nat):(X n*g).c k=if n<=k then g.c (k - n) else 0:=by
 unfold X;rw [L_mul];show cvL (List.replicate n 0++[1]) g.c k=_;rw [HS];unfold A5;by_cases h:n<=k
 ·rw [nH h,nH h];cases k - n with
  | zero=>rw [Az];ext
  | succ k=>rw [Ar,BD];ext
 ·rw [nG h,nG h]
theorem num_mul (x:Rat) (g:Sr) (k:Nat):(num x*g).c k=x*g.c k:=by
 have:num x=L [x]:=ext' λk=>by
  show x*A3 k=cvL [x] A3 k;cases k with
  | zero=>rw [Az];ext
  | succ k=>rw [Ar,BD];ext
 rw [this,L_mul];show cvL [x] g.c k=_;cases k with
 | zero=>rw [Az];ext
 | succ k=>rw [Ar,BD];ext
def Zd (f g:Sr) (k:Nat):(f - g).c k=f.c k - g.c k:=by show f.c k + - g.c k=_;ext
theorem aI {g:Sr} {m:Nat} (a:g.c m≠0) (b:Bn g (m+1)):∀ (n:Nat) (f:Sr),Bn f n->∃ q r,Pol q/\Bn r m/\f=q*g+r
 | 0,f,h=>⟨0,f,Pol.nat 0,λk _=>h k (AY _),()⟩
 | n+1,f,h=>by
   by_cases c:n+1<=m
   ·exact ⟨0,f,Pol.nat 0,λk hk=>h k ⋯,()⟩
   ·obtain ⟨q,r,d,i,e⟩:=aI a b n (f - num (f.c n*(g.c m)⁻¹)*(X (n - m)*g)) λk hk=>by
     rw [Zd,num_mul,J0,nH ⋯];rcases Nat.eq_or_lt_of_le hk with z | z
     ·rw [<-z,show n - (n - m)=m by omega];have:(g.c m)⁻¹*g.c m=1:=Fa _ a;ext
     ·rw [h k z,b (k - (n - m)) ⋯];ext
    exact ⟨q+num (f.c n*(g.c m)⁻¹)*X (n - m),r,d.add ((Pol.num _).mul (Pol.L _)),i,()⟩
theorem Ze:∀ (n:Nat) (S T:Sr),Pol S->Bn T n->(S≠0\/T≠0)->∃ g r e U W,Pol g/\Pol r/\Pol e/\Pol U/\Pol W/\g≠0/\S=g*r/\T=g*e/\U*r+W*e=1:=by
 intro n
 induction n using Nat.strongRecOn with
 | _ n o=>
   intro S T b c h;by_cases z:T=0
   ·exact ⟨S,1,0,1,0,b,Pol.nat 1,Pol.nat 0,Pol.nat 1,Pol.nat 0,by rcases h with h | h;exact h;exact absurd z h,(),by rw [z];ext,()⟩
   ·rcases top_ex n c with q | ⟨m,p,u,v⟩
    ·exact absurd q z
    obtain ⟨a,rfl⟩:=b;obtain ⟨q,r,d,w,e⟩:=aI u v _ _ (PN a);obtain ⟨g,f,x,U,W,y,i,A,B,j,C,k,D,E⟩:=o m p T r c.pol w (.inl z);exact ⟨g,q*f+x,f,W,U - W*q,y,(d.mul i).add A,i,j,B.sub (j.mul d),C,by rw [e,k,D];ext,k,()⟩
noncomputable def D (f:Sr):Sr:=⟨λk=>((k:Rat)+1)*f.c (k+1)⟩
def Cs (f g:Sr):Prop:=∃ U W,Pol U/\Pol W/\U*f+W*g=1
def Cs.one {f:Sr}:Cs f 1:=⟨0,1,Pol.nat 0,Pol.nat 1,()⟩
def pow_s (f:Sr) (n:Nat):f ^ (n+1)=f ^ n*f:=rfl
def pow_z (f:Sr):f ^ 0=1:=num1.symm
def one_ne:(1:Sr)≠0:=λh=>by
 have:=nV (congrArg Sr.c h) 0;rw [zero_c] at this;have this:((1:Nat):Rat)*A3 0=0:=this;have e:(A3 0:Rat)=1:=rfl;rw [e] at this;push_cast at this;ext
theorem PP {b:dL} {d:Nat} (h:∀ k,d<k->b k=0):∀ (a:List Rat) (k:Nat),d+a.length<=k->cvL a b k=0
 | [],_,_=>rfl
 | x::a,0,hk=>by simp at hk
 | x::a,k+1,hk=>by
   rw [Ar,PP h a k (by simp at hk;omega),h (k+1) (by simp at hk;omega)];ext
def top_mul {f g:Sr} {m n:Nat} (b:Bn f (m+1)) (h:Bn g (n+1)):(f*g).c (m+n)=f.c m*g.c n/\Bn (f*g) (m+n+1):=by
 have c:∀ (a:List Rat) (k:Nat),n+a.length<=k->cvL a g.c k=0:=PP λk hk=>h k hk;rw [<-b.row,L_mul];refine ⟨?_,λk hk=>c _ k (by unfold tr;rw [AK,A4];omega)⟩;show cvL (tr (m+1) f.c) g.c (m+n)=_;have e:tr (m+1) f.c=tr m f.c++[f.c m]:=by unfold tr;rw [FZ,Cp];rfl
 have d:(tr m f.c).length=m:=by unfold tr;rw [AK,A4]
 rw [e,EV,c (tr m f.c) _ (by rw [d];omega),d];unfold A5;rw [nH ⋯,show m+n - m=n by omega]
 have z:(L (tr m f.c++[f.c m])).c m=f.c m:=by
  rw [<-e];exact nV (congrArg Sr.c b.row) m
 rw [z];ext
def Cs.of_unit {f g d U W:Sr} {x:Rat} (a:x≠0) (e:d=num x) (b:Pol U) (c:Pol W) (h:U*f+W*g=d):Cs f g:=by
 refine ⟨num (x⁻¹)*U,num (x⁻¹)*W,(Pol.num _).mul b,(Pol.num _).mul c,?_⟩
 have i:num (x⁻¹)*num x=1:=ext' λk=>by
  rw [num_mul];show x⁻¹*(x*A3 k)=_;have:x⁻¹*x=1:=Fa _ a;show _=((1:Nat):Rat)*A3 k;push_cast;ext
 rw [e] at h;ext
end Sr
noncomputable def dJ:de->Int->de
 | [],_=>[]
 | x::a,s=>s*x::dJ a (s+1)
noncomputable def dF (b:dI) (k:Nat):Int:=(k:Int)*b k
theorem Ls (b:dI):∀ (a:de) (s:Int) (k:Nat),(k:Int)*cvL a b k+s*cvL a b k=cvL (dJ a s) b k+cvL a (dF b) k
 | [],s,k=>by show _=cvL [] b k+_;rw [BD,BD];ext
 | x::a,s,0=>by show _=cvL (s*x::dJ a (s+1)) b 0+_;rw [Az,Az,Az];show _=s*x*b 0+0+(x*(((0:Nat):Int)*b 0)+0);ext
 | x::a,s,k+1=>by
   show _=cvL (s*x::dJ a (s+1)) b (k+1)+_;rw [Ar,Ar,Ar];have h:=Ls b a (s+1) k;show _=s*x*b (k+1)+cvL (dJ a (s+1)) b k+(x*(((k+1:Nat):Int)*b (k+1))+cvL a (dF b) k);push_cast;ext
theorem PQ (f:de):∀ (n k:Nat),cvL f (dF (Av f n)) k=(n:Int)*cvL (dJ f 0) (Av f n) k
 | 0,k=>by
   have e:∀ k,dF (Av f 0) k=0*A3 k:=λk=>by
    cases k with
    | zero=>rfl
    | succ k=>show ((k+1:Nat):Int)*0=0*0;ext
   rw [BN e,Ds];show 0*_=0*_;ext
 | n+1,k=>by
   have e:∀ k,dF (Av f (n+1)) k=cvL (dJ f 0) (Av f n) k+cvL f (dF (Av f n)) k:=λk=>by
    have h:=Ls (Av f n) f 0 k;show (k:Int)*cvL f (Av f n) k=_;ext
   have a:cvL f (cvL f (dF (Av f n))) k=(n:Int)*cvL f (cvL (dJ f 0) (Av f n)) k:=by
    rw [BN (PQ f n),Ds]
   rw [BN e,GY,a,HQ (Av f n) f (dJ f 0) k];show cvL (dJ f 0) (Av f (n+1)) k+(n:Int)*cvL (dJ f 0) (Av f (n+1)) k=_;push_cast;ext
def Zf (f:de) (n k:Nat):(k:Int)*cvL f (Av f n) k=((n:Int)+1)*cvL (dJ f 0) (Av f n) k:=by
 have h:=Ls (Av f n) f 0 k;have a:=PQ f n k;ext
theorem PR {c:Type} [Lean.Grind.CommRing c] (x:c) (b:Nat->c):∀ (a:List c) (k:Nat),cvL (a++[x]) b k=cvL a b k+(if a.length<=k then x*b (k - a.length) else 0)
 | [],0=>by show x*b 0+0=0+(if 0<=0 then x*b 0 else 0);rw [nH (AV 0)];ext
 | [],k+1=>by show x*b (k+1)+0=0+(if 0<=k+1 then x*b (k+1) else 0);rw [nH (AY _)];ext
 | y::a,0=>by
   show y*b 0+0=y*b 0+0+(if a.length+1<=0 then _ else 0);rw [nG ⋯];ext
 | y::a,k+1=>by
   show y*b (k+1)+cvL (a++[x]) b k=y*b (k+1)+cvL a b k+(if a.length+1<=k+1 then x*b (k+1 - (a.length+1)) else 0);rw [PR x b a k,show k+1 - (a.length+1)=k - a.length by omega];have e:(a.length+1<=k+1)↔(a.length<=k):=by omega
   simp only [e];ext
def J1 {c:Type} [Lean.Grind.CommRing c] {a:List c} {b:Nat->c} {i k:Nat} (h:i<a.length) (hk:i<=k):cvL (a.take (i+1)) b k=cvL (a.take i) b k+a.getD i 0*b (k - i):=by
 rw [DY,AT h,Option.toList_some,PR,nH (by rw [BQ];omega),BQ,Nat.min_eq_left (Dx h),AI,AT h];rfl
theorem PU {c:Type} [Lean.Grind.CommRing c] (b:Nat->c):∀ (a:List c) (m k:Nat),k<m->cvL (a.take m) b k=cvL a b k
 | [],m,k,_=>by rw [List.take_nil]
 | x::a,0,k,h=>absurd h ⋯
 | x::a,m+1,0,_=>rfl
 | x::a,m+1,k+1,h=>by
   rw [List.take_succ_cons,Ar,Ar,PU b a m k ⋯]
theorem J2:∀ (a:de) (s:Int),(dJ a s).length=a.length
 | [],_=>rfl
 | _::a,s=>by show (dJ a (s+1)).length+1=a.length+1;rw [J2 a (s+1)]
theorem Lu:∀ (a:de) (s:Int) (i:Nat),(dJ a s).getD i 0=(s+i)*a.getD i 0
 | [],s,i=>by show ([]:de).getD i 0=_*([]:de).getD i 0;simp
 | x::a,s,0=>by show s*x=(s+((0:Nat):Int))*x;ext
 | x::a,s,i+1=>by
   show (dJ a (s+1)).getD i 0=(s+((i+1:Nat):Int))*a.getD i 0;rw [Lu a (s+1) i];push_cast;ext
noncomputable def bS (f:de) (c:dI) (n k:Nat):dI
 | 0=>0
 | m+1=>bS f c n k m+(((n:Int)+1)*((m+1:Nat):Int) - (k:Int))*f.getD (m+1) 0*c (k - (m+1))
theorem PV {f:de} {c:dI} {n k:Nat} (a:0<f.length):∀ m,m<f.length->m<=k->bS f c n k m=((n:Int)+1)*cvL ((dJ f 0).take (m+1)) c k - (k:Int)*cvL (f.take (m+1)) c k+(k:Int)*f.getD 0 0*c k
 | 0,_,_=>by
   rw [J1 (by rw [J2];exact a) (AY k),J1 a (AY k),Lu,List.take_zero,List.take_zero,BD];show (0:Int)=_;push_cast;rw [Nat.sub_zero];ext
 | m+1,b,d=>by
   rw [J1 (by rw [J2];exact b) d,J1 b d,Lu];show bS f c n k m+_=_;rw [PV a m ⋯ ⋯];push_cast;ext
def Zg {f:de} {n k:Nat} (c:0<f.length):bS f (Av f n) n k (min k (f.length - 1))=(k:Int)*f.getD 0 0*Av f n k:=by
 have h:=Zf f n k;rw [PV c _ ⋯ ⋯]
 have b:∀ a:de,a.length=f.length->cvL (a.take (min k (f.length - 1)+1)) (Av f n) k=cvL a (Av f n) k:=λa d=>by
  by_cases hk:k<=f.length - 1
  ·exact PU _ a _ k ⋯
  ·rw [List.take_of_length_le ⋯]
 rw [b f rfl,b (dJ f 0) (J2 f 0)];ext
theorem pow_zero (f:de):∀ n,Av f n 0=f.getD 0 0 ^ n
 | 0=>by show (1:Int)=_;simp
 | n+1=>by
   show cvL f (Av f n) 0=_;cases f with
   | nil=>rw [BD];simp [Int.pow_succ]
   | cons x a=>
     rw [Az,pow_zero (x::a) n];show x*x ^ n+0=x ^ (n+1);rw [Int.pow_succ];ext
theorem PX {c:Type} [Lean.Grind.CommRing c] {b:Nat->c} {d:Nat} (h:∀ k,d<k->b k=0):∀ (a:List c) (k:Nat),d+a.length<=k->cvL a b k=0
 | [],_,_=>rfl
 | x::a,0,hk=>absurd hk (by simp)
 | x::a,k+1,hk=>by
   have e:d+a.length<=k:=by rw [Cd] at hk;omega
   rw [Ar,PX h a k e,h (k+1) ⋯];ext
theorem PY {f:de} (a:0<f.length):∀ n k,n*(f.length - 1)<k->Av f n k=0
 | 0,0,h=>absurd h ⋯
 | 0,_+1,_=>rfl
 | n+1,k,h=>PX (PY a n) f k (by rw [Nat.add_mul] at h;omega)
def Zh:∀ n k,Av ([]:de) (n+1) k=0:=λ_ _=>rfl
noncomputable def Du {a:Type} [Lean.Grind.CommRing a] (m:Nat) (b:Nat->a) (k:Nat):a:=if k<m then 0 else b (k - m)
theorem Lv {a:Type} [Lean.Grind.CommRing a] (m:Nat) (b:Nat->a) (k:Nat):Du (m+1) b k=Dt (Du m b) k:=by
 cases k with
 | zero=>exact nH ⋯
 | succ k=>
   show (if k+1<m+1 then 0 else b (k+1 - (m+1)))=(if k<m then 0 else b (k - m));rw [show k+1 - (m+1)=k - m by omega];have e:(k+1<m+1)↔(k<m):=by omega
   simp only [e]
theorem PZ {c:Type} [Lean.Grind.CommRing c] (b:Nat->c) (a:List c):∀ (m k:Nat),cvL a (Du m b) k=Du m (cvL a b) k
 | 0,k=>BN (λk=>rfl) a k
 | m+1,k=>by
   rw [BN (Lv m b) a k,Jq,Lv];cases k with
   | zero=>rfl
   | succ k=>exact PZ b a m k
theorem Pa {c:Type} [Lean.Grind.CommRing c] (b:Nat->c) (a:List c):∀ (m k:Nat),cvL (List.replicate m 0++a) b k=Du m (cvL a b) k
 | 0,k=>rfl
 | m+1,k=>by
   rw [GF,List.cons_append,F3,Lv];cases k with
   | zero=>show 0*b 0+0=0;ext
   | succ k=>
     show 0*b (k+1)+cvL (List.replicate m 0++a) b k=Du m (cvL a b) k;rw [Pa b a m k];ext
def Zi {a:Type} [Lean.Grind.CommRing a] (m n:Nat) (b:Nat->a) (k:Nat):Du m (Du n b) k=Du (m+n) b k:=by
 unfold Du;by_cases c:k<m
 ·rw [nH c,nH ⋯]
 ·rw [nG c];by_cases d:k - m<n
  ·rw [nH d,nH ⋯]
  ·rw [nG d,nG ⋯,show k - m - n=k - (m+n) by omega]
def Pb {a:Type} [Lean.Grind.CommRing a] {m:Nat} {b c:Nat->a} (h:∀ k,b k=c k) (k:Nat):Du m b k=Du m c k:=by
 unfold Du;rw [h]
theorem Pc (a:de) (m:Nat):∀ n k,Av (List.replicate m 0++a) n k=Du (m*n) (Av a n) k
 | 0,k=>by show A3 k=if k<m*0 then 0 else A3 (k - m*0);rw [nG ⋯];simp
 | n+1,k=>by
   show cvL (List.replicate m 0++a) (Av (List.replicate m 0++a) n) k=_;rw [Pa,Pb (λk=>BN (Pc a m n) a k),Pb (λk=>PZ (Av a n) a (m*n) k),Zi,show m+m*n=m*(n+1) by rw [Nat.mul_succ];omega];rfl
noncomputable def aa (f:dL) (n:Nat) (x:Rat):dL
 | 0=>0
 | d+1=>f (n - 1 - d)+x*aa f n x d
theorem Pd {f g:dL} {n:Nat} {x:Rat}:∀ d,d<=n->(∀ i,n - d<=i->i<n->f i=g i)->aa f n x d=aa g n x d
 | 0,_,_=>rfl
 | d+1,b,h=>by
   show f (n - 1 - d)+x*aa f n x d=g (n - 1 - d)+x*aa g n x d;rw [Pd d ⋯ (λi c a=>h i ⋯ a),h (n - 1 - d) ⋯ ⋯]
theorem Pe {f:dL} {n:Nat} {x B:Rat}:∀ d,aa (λi=>f i / B) n x d=aa f n x d / B
 | 0=>(O_ B).symm
 | d+1=>by
   show f (n - 1 - d) / B+x*aa (λi=>f i / B) n x d=(f (n - 1 - d)+x*aa f n x d) / B;rw [Pe d];ext
theorem cO:∀ (m n:Nat) (f:Nat->Nat),(∀ i,i<n->f i<m)->m<n->∃ i j,i<j/\j<n/\f i=f j
 | 0,n,f,h,d=>absurd (h 0 d) (BS _)
 | m+1,n,f,h,d=>by
   obtain ⟨n,rfl⟩:∃ k,n=k+1:=⟨n - 1,⋯⟩;by_cases c:∃ i,i<n/\f i=f n
   ·obtain ⟨i,a,e⟩:=c;exact ⟨i,n,a,⋯,e⟩
   ·have c:∀ i,i<n->f i≠f n:=λi a e=>c ⟨i,a,e⟩;have o:=h n ⋯
    obtain ⟨i,j,b,g,e⟩:=cO m n (λi=>if f n<f i then f i - 1 else f i) (λi a=>by
     have p:=h i ⋯;have q:=c i a;show (if f n<f i then f i - 1 else f i)<m;split <;> omega) ⋯
    refine ⟨i,j,b,⋯,?_⟩;have r:=c i ⋯;have u:=c j g;have e:(if f n<f i then f i - 1 else f i)=(if f n<f j then f j - 1 else f j):=e;split at e <;> split at e <;> omega
noncomputable def aW (M:Nat):Nat->(Nat->Nat)->Nat
 | 0,_=>0
 | N+1,e=>e 0+M*aW M N (λk=>e (k+1))
theorem Lw {M:Nat}:∀ (N:Nat) (e:Nat->Nat),(∀ k,k<N->e k<M)->aW M N e<M ^ N
 | 0,_,_=>Nat.one_pos
 | N+1,e,h=>by
   have a:=Lw N (λk=>e (k+1)) (λk hk=>h (k+1) ⋯);have c:=h 0 ⋯;show e 0+M*aW M N (λk=>e (k+1))<M ^ (N+1);have b:M*(aW M N (λk=>e (k+1))+1)<=M*M ^ N:=EJ M a;rw [Bk,DE (M ^ N)];rw [Nat.mul_add,Nat.mul_one] at b;omega
def Pf {M a b x y:Nat} (c:a<M) (d:b<M) (h:a+M*x=b+M*y):a=b/\x=y:=by
 have f:(a+M*x) % M=a:=by rw [Nat.add_mul_mod_self_left,Nat.mod_eq_of_lt c]
 have g:(b+M*y) % M=b:=by rw [Nat.add_mul_mod_self_left,Nat.mod_eq_of_lt d]
 have e:a=b:=by rw [<-f,h,g]
 subst e;exact ⟨rfl,Nat.eq_of_mul_eq_mul_left ⋯ (Nat.add_left_cancel h)⟩
theorem Lx {M:Nat}:∀ (N:Nat) (e a:Nat->Nat),(∀ k,k<N->e k<M)->(∀ k,k<N->a k<M)->aW M N e=aW M N a->∀ k,k<N->e k=a k
 | 0,_,_,_,_,_,k,hk=>absurd hk (BS _)
 | N+1,e,a,h,b,q,k,hk=>by
   obtain ⟨c,d⟩:=Pf (h 0 ⋯) (b 0 ⋯) q;cases k with
   | zero=>exact c
   | succ k=>exact Lx N _ _ (λk hk=>h (k+1) ⋯) (λk hk=>b (k+1) ⋯) d k ⋯
noncomputable def P_ (p:Nat):Nat->Nat->de
 | 0,_=>[]
 | N+1,t=>((t % p:Nat):Int)::P_ p N (t / p)
theorem HV (p:Nat):∀ (N t:Nat),(P_ p N t).length=N
 | 0,_=>rfl
 | N+1,t=>by show (P_ p N (t / p)).length+1=N+1;rw [HV p N]
theorem J3 {p:Nat} (a:0<p):∀ (N t:Nat),∀ z∈P_ p N t,0<=z/\z<(p:Int)
 | 0,_,z,h=>by cases h
 | N+1,t,z,h=>by
   rcases Ep.mp h with rfl | h
   ·have:=Nat.mod_lt t a;omega
   ·exact J3 a N _ z h
theorem Ly {p:Nat} (e:0<p):∀ (N t s:Nat),t<p ^ N->s<p ^ N->P_ p N t=P_ p N s->t=s
 | 0,t,s,c,d,_=>by rw [Nat.pow_zero] at c d;omega
 | N+1,t,s,c,d,h=>by
   injection h with a b;rw [Bk,DE] at c d;have:=Ly e N (t / p) (s / p) (Nat.div_lt_of_lt_mul c) (Nat.div_lt_of_lt_mul d) b;have f:=Nat.div_add_mod t p;have g:=Nat.div_add_mod s p;have a:t % p=s % p:=by exact_mod_cast a
   rw [<-f,<-g,this,a]
section
variable {R:Type} [Lean.Grind.CommRing R]
noncomputable def su:Nat->(Nat->R)->R
 | 0,_=>0
 | n+1,f=>su n f+f n
theorem AU {f g:Nat->R}:∀ n,(∀ i,i<n->f i=g i)->su n f=su n g
 | 0,_=>rfl
 | n+1,h=>by
   show su n f+f n=su n g+g n;rw [AU n λi a=>h i ⋯,h n ⋯]
theorem CK:∀ {n:Nat} {f:Nat->R},(∀ i,i<n->f i=0)->su n f=0
 | 0,_,_=>rfl
 | n+1,f,h=>by
   show su n f+f n=0;rw [CK λi a=>h i ⋯,h n ⋯];ext
theorem Fo (f g:Nat->R):∀ n,su n (λi=>f i+g i)=su n f+su n g
 | 0=>by show (0:R)=0+0;ext
 | n+1=>by
   show su n _+(f n+g n)=su n f+f n+(su n g+g n);rw [Fo f g n];ext
theorem BO (c:R) (f:Nat->R):∀ n,su n (λi=>c*f i)=c*su n f
 | 0=>by show (0:R)=c*0;ext
 | n+1=>by
   show su n _+c*f n=c*(su n f+f n);rw [BO c f n];ext
def Fq (f g:Nat->R) (n:Nat):su n (λi=>f i - g i)=su n f - su n g:=by
 have h:=Fo (λi=>f i - g i) g n;rw [AU (f:=λi=>f i - g i+g i) (g:=f) n λi _=>by grind] at h;ext
def Cb (c:R) (f:Nat->R) (n:Nat):su n (λi=>f i*c)=su n f*c:=by
 rw [AU (g:=λi=>c*f i) n λi _=>by ext,BO];ext
theorem Dv (f:Nat->Nat->R) (m:Nat):∀ n,su n (λi=>su m (f i))=su m λj=>su n λi=>f i j
 | 0=>(CK λ_ _=>rfl).symm
 | n+1=>by
   show su n (λi=>su m (f i))+su m (f n)=su m λj=>su n (λi=>f i j)+f n j;rw [Fo,Dv f m n]
noncomputable def dl (i j:Nat):R:=if i=j then 1 else 0
theorem Ex (f:Nat->R) (k:Nat):∀ n,su n (λi=>f i*dl i k)=if k<n then f k else 0
 | 0=>rfl
 | n+1=>by
   show su n _+f n*dl n k=_;rw [Ex f k n];unfold dl;by_cases h:n=k
   ·rw [nH h,nG ⋯,nH ⋯,h];ext
   ·rw [nG h];by_cases q:k<n
    ·rw [nH q,nH ⋯];ext
    ·rw [nG q,nG ⋯];ext
def bK (f:Nat->R) {k n:Nat} (h:k<n):su n (λi=>dl i k*f i)=f k:=by
 rw [AU (g:=λi=>f i*dl i k) n λi _=>by ext,Ex,nH h]
def L1 (i j:Nat):(dl i j:R)=dl j i:=by
 unfold dl;by_cases q:i=j
 ·rw [nH q,nH q.symm]
 ·rw [nG q,nG (λz=>q z.symm)]
def F9 (f:Nat->R) {k n:Nat} (h:k<n):su n (λi=>dl k i*f i)=f k:=by
 rw [AU (g:=λi=>dl i k*f i) n λi _=>by rw [L1],bK f h]
def swp {k l M:Nat} (h:k<M):(if (if k=l then M else k)=M then l else (if k=l then M else k))=k:=by
 by_cases q:k=l
 ·rw [nH q,nH rfl,q]
 ·rw [nG q,nG ⋯]
def Zj (f:Nat->R) {l m:Nat} (h:l<=m):su (m+1) f=su m (λi=>f (if i=l then m else i))+f l:=by
 have e:su m (λi=>f (if i=l then m else i))=su m f+(if l<m then f m - f l else 0):=by
  rw [AU (g:=λi=>f i+(λ_=>f m - f l) i*dl i l) m λi _=>by
   unfold dl;by_cases q:i=l
   ·rw [nH q,nH q,q];ext
   ·rw [nG q,nG q];ext,Fo,Ex]
 rw [e];show su m f+f m=_;by_cases q:l<m
 ·rw [nH q];ext
 ·rw [nG q,show l=m by omega];ext
structure Dom (R:Type) [Lean.Grind.CommRing R]:Prop where
 one:(1:R)≠0
 mul:∀ {a b:R},a*b=0->a=0\/b=0
theorem bh (D:Dom R):∀ (n m:Nat) (a:Nat->Nat->R),n<m->∃ c:Nat->R,(∃ i,i<m/\c i≠0)/\∀ j,j<n->su m (λi=>c i*a i j)=0
 | 0,m,a,h=>⟨λ_=>1,⟨0,h,D.one⟩,λj d=>absurd d (BS j)⟩
 | n+1,m,a,h=>by
   by_cases z:∀ i,i<m->a i n=0
   ·obtain ⟨c,o,e⟩:=bh D n m a ⋯;refine ⟨c,o,λj d=>?_⟩;by_cases q:j=n
    ·rw [q];exact CK λi b=>by rw [z i b];ext
    ·exact e j ⋯
   ·obtain ⟨l,v,p⟩:∃ l,l<m/\a l n≠0:=Classical.byContradiction λx=>z λi b=>Classical.byContradiction λy=>x ⟨i,b,y⟩;obtain ⟨M,rfl⟩:∃ M,m=M+1:=⟨m - 1,⋯⟩;obtain ⟨c,⟨k,hk,r⟩,e⟩:=bh D n M (λi j=>a l n*a (if i=l then M else i) j - a (if i=l then M else i) n*a l j) ⋯
    obtain ⟨C,f,u⟩:∃ C:Nat->R,(∀ k,k<M->C (if k=l then M else k)=a l n*c k)/\C l = - su M (λk=>c k*a (if k=l then M else k) n):=
     ⟨λi=>if i=l then - su M (λk=>c k*a (if k=l then M else k) n) else a l n*c (if i=M then l else i),λk hk=>by
      have e:=swp (l:=l) hk;show (if (if k=l then M else k)=l then _ else a l n*c (if (if k=l then M else k)=M then l else (if k=l then M else k)))=_;rw [nG (by split <;> omega),e],by show (if l=l then _ else _)=_;rw [nH rfl]⟩
    refine ⟨C,⟨if k=l then M else k,by split <;> omega,?_⟩,λj d=>?_⟩
    ·rw [f k hk];exact λy=>(D.mul y).elim p r
    ·rw [Zj _ (by omega:l<=M),u]
     rw [AU (g:=λi=>a l n*(c i*a (if i=l then M else i) j)) M λi b=>by
      rw [f i b];ext,BO]
     have w:su M (λi=>c i*(a l n*a (if i=l then M else i) j - a (if i=l then M else i) n*a l j))=a l n*su M (λi=>c i*a (if i=l then M else i) j) - su M (λk=>c k*a (if k=l then M else k) n)*a l j:=by
      rw [<-BO,<-Cb,<-Fq];exact AU M λi _=>by ext
     by_cases q:j=n
     ·rw [q];ext
     ·have:=e j ⋯;ext
def ker (D:Dom R) {k:Nat} {W M:Nat->Nat->R} (h:∀ i,i<k->∀ j,j<k->su k (λt=>W i t*M t j)=dl i j) {v:Nat->R} (o:∀ j,j<k->su k (λt=>v t*M t j)=0):∀ t,t<k->v t=0:=by
 obtain ⟨c,⟨l,w,m⟩,e⟩:=bh D k (k+1) (λi t=>if i=k then v t else W i t) ⋯
 have n:∀ j,j<k->c j=0:=λj b=>by
  have a:su k (λt=>su (k+1) (λi=>c i*(if i=k then v t else W i t))*M t j)=0:=CK λt d=>by rw [e t d];ext
  rw [AU (g:=λt=>su (k+1) (λi=>c i*((if i=k then v t else W i t)*M t j))) k λt _=>by rw [<-Cb];exact AU _ λi _=>by ext,Dv] at a;rw [AU (g:=λi=>c i*su k (λt=>(if i=k then v t else W i t)*M t j)) (k+1) λi _=>by rw [BO]] at a
  have p:su k (λi=>c i*su k (λt=>(if i=k then v t else W i t)*M t j))=c j:=by
   rw [AU (g:=λi=>c i*dl i j) k λi f=>by
    rw [AU (g:=λt=>W i t*M t j) k λt _=>by rw [nG ⋯],h i f j b],Ex,nH b]
  have q:su k (λt=>(if k=k then v t else W k t)*M t j)=0:=by
   rw [AU (g:=λt=>v t*M t j) k λt _=>by rw [nH rfl],o j b]
  have a:su k (λi=>c i*su k (λt=>(if i=k then v t else W i t)*M t j))+c k*su k (λt=>(if k=k then v t else W k t)*M t j)=0:=a;rw [p,q] at a;ext
 have r:l=k:=Classical.byContradiction λz=>m (n l ⋯);intro t d;have:=e t d;have u:su k (λi=>c i*(if i=k then v t else W i t))=0:=CK λi f=>by rw [n i f];ext
 have this:su k (λi=>c i*(if i=k then v t else W i t))+c k*(if k=k then v t else W k t)=0:=this;rw [u,nH rfl] at this;exact (D.mul (show c k*v t=0 by ext)).elim (λz=>absurd z (r ▸ m)) id
def Ph (D:Dom R) {k:Nat} {W M:Nat->Nat->R} (h:∀ i,i<k->∀ j,j<k->su k (λt=>W i t*M t j)=dl i j):∀ i,i<k->∀ j,j<k->su k (λt=>M i t*W t j)=dl i j:=λi b j c=>by
 have:=ker D h (v:=λj=>su k (λt=>M i t*W t j) - dl i j) (λs a=>by
  have d:∀ j,(su k (λt=>M i t*W t j) - dl i j)*M j s=su k (λt=>M i t*(W t j*M j s)) - dl i j*M j s:=λj=>by
   have:su k (λt=>M i t*(W t j*M j s))=su k (λt=>M i t*W t j)*M j s:=by
    rw [<-Cb];exact AU k λx _=>by ext
   clear h;ext
  rw [AU k λj _=>d j,Fq,Dv,F9 _ b];rw [AU (g:=λt=>M i t*dl t s) k λt e=>by rw [BO,h t e s a],Ex,nH a];ext) j c
 ext
end
noncomputable def aX (q:Int):Setoid Int:=⟨λa b=>q∣a - b,λa=>⟨0,⋯⟩,λ{a b} h=>by obtain ⟨c,h⟩:=h;exact ⟨-c,by rw [Int.mul_neg,<-h];omega⟩,λ{a b c} h g=>by obtain ⟨x,h⟩:=h;obtain ⟨y,g⟩:=g;exact ⟨x+y,by rw [Int.mul_add,<-h,<-g];omega⟩⟩
noncomputable def Zm (q:Int):Type:=Quotient (aX q)
namespace Zm
variable {q:Int}
noncomputable def of (q a:Int):Zm q:=Quotient.mk (aX q) a
def of_eq {a b:Int}:of q a=of q b↔q∣a - b:=⟨λh=>Quotient.exact (s:=aX q) h,λh=>Quotient.sound (s:=aX q) h⟩
def sur (x:Zm q):∃ a,of q a=x:=Quotient.exists_rep (s:=aX q) x
noncomputable def add (x y:Zm q):Zm q:=Quotient.lift₂ (s₁:=aX q) (s₂:=aX q) (λa b=>of q (a+b)) (λa b c d h g=>of_eq.mpr (by obtain ⟨x,h⟩:=h;obtain ⟨y,g⟩:=g;exact ⟨x+y,by rw [Int.mul_add,<-h,<-g];omega⟩)) x y
def mulc {a b c d:Int} (h:q∣a - c) (g:q∣b - d):q∣a*b - c*d:=by
 obtain ⟨x,h⟩:=h;obtain ⟨y,g⟩:=g;refine ⟨x*b+c*y,?_⟩;have e:a=q*x+c:=by omega
 have f:b=q*y+d:=by omega
 ext
noncomputable def mul (x y:Zm q):Zm q:=Quotient.lift₂ (s₁:=aX q) (s₂:=aX q) (λa b=>of q (a*b)) (λa b c d h g=>of_eq.mpr (mulc h g)) x y
noncomputable def npow (x:Zm q):Nat->Zm q
 | 0=>of q 1
 | n+1=>mul (npow x n) x
noncomputable instance:Add (Zm q):=⟨add⟩
noncomputable instance:Mul (Zm q):=⟨mul⟩
noncomputable instance:Neg (Zm q):=⟨λx=>mul (of q (-1)) x⟩
noncomputable instance:Sub (Zm q):=⟨λx y=>add x (mul (of q (-1)) y)⟩
noncomputable instance:NatCast (Zm q):=⟨λn=>of q n⟩
noncomputable instance:IntCast (Zm q):=⟨λn=>of q n⟩
noncomputable instance (n:Nat):OfNat (Zm q) n:=⟨of q n⟩
noncomputable instance:Pow (Zm q) Nat:=⟨npow⟩
noncomputable instance:SMul Nat (Zm q):=⟨λn f=>mul (of q n) f⟩
noncomputable instance:SMul Int (Zm q):=⟨λn f=>mul (of q n) f⟩
def Zk (a b:Int):of q (a+b)=of q a+of q b:=rfl
def of_mul (a b:Int):of q (a*b)=of q a*of q b:=rfl
def a1 (x y:Zm q):add x y=add y x:=by
 obtain ⟨a,rfl⟩:=sur x;obtain ⟨b,rfl⟩:=sur y;exact congrArg (of q) (Int.add_comm a b)
def a2 (x y z:Zm q):add (add x y) z=add x (add y z):=by
 obtain ⟨a,rfl⟩:=sur x;obtain ⟨b,rfl⟩:=sur y;obtain ⟨c,rfl⟩:=sur z;exact congrArg (of q) (Int.add_assoc a b c)
def m1 (x y:Zm q):mul x y=mul y x:=by
 obtain ⟨a,rfl⟩:=sur x;obtain ⟨b,rfl⟩:=sur y;exact congrArg (of q) (Cq a b)
def m2 (x y z:Zm q):mul (mul x y) z=mul x (mul y z):=by
 obtain ⟨a,rfl⟩:=sur x;obtain ⟨b,rfl⟩:=sur y;obtain ⟨c,rfl⟩:=sur z;exact congrArg (of q) (C7 a b c)
def m3 (x y z:Zm q):mul x (add y z)=add (mul x y) (mul x z):=by
 obtain ⟨a,rfl⟩:=sur x;obtain ⟨b,rfl⟩:=sur y;obtain ⟨c,rfl⟩:=sur z;exact congrArg (of q) (Int.mul_add a b c)
def m4 (x:Zm q):mul (of q 1) x=x:=by
 obtain ⟨a,rfl⟩:=sur x;exact congrArg (of q) (Int.one_mul a)
def m5 (x:Zm q):mul (of q 0) x=of q 0:=by
 obtain ⟨a,rfl⟩:=sur x;exact congrArg (of q) (D2 a)
noncomputable instance:Lean.Grind.CommRing (Zm q) where
 add_zero x:=by
  obtain ⟨a,rfl⟩:=sur x
  exact congrArg (of q) (Int.add_zero a)
 add_comm:=a1
 add_assoc:=a2
 mul_assoc:=m2
 mul_comm:=m1
 mul_one x:=(m1 _ _).trans (m4 x)
 one_mul:=m4
 left_distrib:=m3
 right_distrib x y z:=by show mul (add x y) z=add (mul x z) (mul y z);rw [m1,m3,m1 z x,m1 z y]
 zero_mul:=m5
 mul_zero x:=(m1 _ _).trans (m5 x)
 pow_zero _:=rfl
 pow_succ _ _:=rfl
 ofNat_succ n:=congrArg (of q) (by show ((n+1:Nat):Int)=(n:Int)+1;omega)
 neg_add_cancel x:=by
  obtain ⟨a,rfl⟩:=sur x
  exact congrArg (of q) (show -1*a+a=((0:Nat):Int) by omega)
 sub_eq_add_neg _ _:=rfl
 neg_zsmul n x:=by
  obtain ⟨a,rfl⟩:=sur x
  exact congrArg (of q) (show -n*a = -1*(n*a) by rw [Int.neg_mul,Int.neg_mul,Int.one_mul])
 zsmul_natCast_eq_nsmul _ _:=rfl
 intCast_neg n:=congrArg (of q) (show -n = -1*n by omega)
def of_sub (a b:Int):of q (a - b)=of q a - of q b:=congrArg (of q) (show a - b=a + -1*b by omega)
def of_zero {a:Int}:of q a=0↔q∣a:=by
 have h:of q a=of q 0↔q∣a - 0:=of_eq;rw [Int.sub_zero] at h;exact h
def of_mod (a:Int):of q (a % q)=of q a:=of_eq.mpr ⟨-(a / q),by have:=Int.emod_def a q;rw [Int.mul_neg,this];omega⟩
theorem of_su (f:dI):∀ n,of q (su n f)=su n λi=>of q (f i)
 | 0=>rfl
 | n+1=>by
   show of q (su n f+f n)=su n (λi=>of q (f i))+of q (f n);rw [Zk,of_su f n]
def dom {p:Nat} (c:p≠1) (h:∀ a b:Int,(p:Int)∣a*b->(p:Int)∣a\/(p:Int)∣b):Dom (Zm (p:Int)):=⟨λz=>c (by
  have:=of_zero.mp (show of (p:Int) 1=0 from z);have:=EK.mp (show (p:Int)∣((1:Nat):Int) from this);exact Nat.dvd_one.mp this),λ{a b} e=>by
 obtain ⟨x,rfl⟩:=sur a;obtain ⟨y,rfl⟩:=sur b;rw [<-of_mul,of_zero] at e;exact (h x y e).imp of_zero.mpr of_zero.mpr⟩
end Zm
def Zl:Dom Int:=⟨∅,λ{_ _} e=>Eb.mp e⟩
section
variable {R:Type} [Lean.Grind.CommRing R]
structure RE (n w:Nat) (a:Nat->Nat->R) (col d:Nat) (o c:Nat->Nat) (u l:Nat->Nat->R):Prop where
 dn:d<=n
 on:∀ i,i<n->o i<n
 inj:∀ i j,i<n->j<n->o i=o j->i=j
 cl:∀ s,s<d->c s<col
 cr:∀ s t,s<t->t<d->c s<c t
 row:∀ i,i<d->∀ j,j<w->l i j=su d λt=>u i t*a (o t) j
 row2:∀ i,d<=i->i<n->∀ j,j<w->l i j=a (o i) j+su d λt=>u i t*a (o t) j
 piv:∀ s,s<d->∀ i,i<n->l i (c s)=dl i s
 zer:∀ i,d<=i->i<n->∀ j,j<col->l i j=0
 ech:∀ i,i<d->∀ j,j<c i->l i j=0
def RE.start (n w:Nat) (a:Nat->Nat->R) (c:Nat->Nat) (u:Nat->Nat->R):RE n w a 0 0 (λi=>i) c u a:=
 ⟨AY _,λ_ h=>h,λ_ _ _ _ h=>h,λs h=>absurd h (BS s),λs t _ h=>absurd h (BS t),λi h=>absurd h (BS i),λi _ _ j _=>by show a i j=a i j+0;ext,λs h=>absurd h (BS s),λ_ _ _ j h=>absurd h (BS j),λi h=>absurd h (BS i)⟩
variable {n w col d:Nat} {a u l:Nat->Nat->R} {o c:Nat->Nat}
def RE.skip (I:RE n w a col d o c u l) (h:∀ i,d<=i->i<n->l i col=0):RE n w a (col+1) d o c u l:=
 ⟨I.dn,I.on,I.inj,λs f=>Nat.lt_succ_of_lt (I.cl s f),I.cr,I.row,I.row2,I.piv,λi b e j g=>by
  rcases Nat.lt_succ_iff_lt_or_eq.mp g with q | q
  ·exact I.zer i b e j q
  ·rw [q];exact h i b e,I.ech⟩
noncomputable def tw (x y i:Nat):Nat:=if i=x then y else if i=y then x else i
def L3 (x y:Nat):tw x y x=y:=by unfold tw;rw [nH rfl]
def IQ {x y i n:Nat} (b:x<n) (e:y<n) (f:i<n):tw x y i<n:=by unfold tw;split;exact e;split;exact b;exact f
def Zn {x y i:Nat} (h:i<x) (b:i<y):tw x y i=i:=by unfold tw;rw [nG ⋯,nG ⋯]
def Zo {x y i j:Nat} (h:tw x y i=tw x y j):i=j:=by unfold tw at h;split at h <;> split at h <;> (try split at h) <;> (try split at h) <;> omega
def L4 {x y i:Nat} (h:x<i) (b:x<=y):x<=tw x y i/\tw x y i≠y:=by unfold tw;rw [nG ⋯];split <;> omega
def Pi (f b:Nat->R) (z:R) (d:Nat):su (d+1) (λt=>(if t=d then z else f t)*b t)=su d (λt=>f t*b t)+z*b d:=by
 show su d (λt=>(if t=d then z else f t)*b t)+(if d=d then z else f d)*b d=_;rw [nH rfl,AU (f:=λt=>(if t=d then z else f t)*b t) d λt e=>by rw [nG ⋯]]
def RE.step (I:RE n w a col d o c u l) {k:Nat} {y:R} {o' c':Nat->Nat} {l':Nat->Nat->R} (Q:col<w) (x:d<=k) (A:k<n) (M:l k col*y=1)
  (B:∀ i,i<n->o' i=o (tw d k i)) (F:∀ s,s<d->c' s=c s) (v:c' d=col) (H:∀ j,j<w->l' d j=l k j*y)
  (C:∀ i,i<n->i≠d->∀ j,j<w->l' i j=l (tw d k i) j - l (tw d k i) col*(l k j*y)):∃ W,RE n w a (col+1) (d+1) o' c' W l':=by
 have N:d<n:=by omega
 have D:∀ i,i<n->tw d k i<n:=λi b=>IQ N A b;have J:∀ i,i<d->tw d k i=i:=λi b=>Zn b ⋯;have S:∀ t,t<d->o' t=o t:=λt E=>by rw [B t ⋯,J t E]
 have O:o' d=o k:=by rw [B d N,L3]
 have kc:∀ s,s<d->l k (c s)=0:=λs P=>by rw [I.piv s P k A];unfold dl;rw [nG ⋯]
 have K:∀ s,s<d->c s<col:=I.cl
 have m:∀ j,j<w->l k j*y=su (d+1) λt=>(if t=d then y else y*u k t)*a (o' t) j:=λj h=>by
  rw [Pi,O,I.row2 k x A j h,AU (f:=λt=>y*u k t*a (o' t) j) (g:=λt=>y*(u k t*a (o t) j)) d λt E=>by rw [S t E,Lean.Grind.Semiring.mul_assoc],BO,Lean.Grind.Semiring.right_distrib,Lean.Grind.CommSemiring.mul_comm y,Lean.Grind.CommSemiring.mul_comm y,Lean.Grind.Semiring.add_comm]
 have G:∀ f:Nat->R,∀ j,su d (λt=>f t*a (o t) j)=su (d+1) (λt=>(if t=d then 0 else f t)*a (o' t) j):=λf j=>by
  rw [Pi,AU (f:=λt=>f t*a (o' t) j) d λt E=>by rw [S t E],Lean.Grind.Semiring.zero_mul,Lean.Grind.Semiring.add_zero]
 refine ⟨λi t=>if i=d then (if t=d then y else y*u k t) else (if t=d then 0 else u (tw d k i) t) - l (tw d k i) col*(if t=d then y else y*u k t),N,λi b=>?_,λi j b h e=>?_,λs P=>?_,λs t X E=>?_,λi b j h=>?_,λi Y b j h=>?_,λs P i b=>?_,λi Y b j h=>?_,λi b j h=>?_⟩
 ·rw [B i b];exact I.on _ (D i b)
 ·rw [B i b,B j h] at e;exact Zo (I.inj _ _ (D i b) (D j h) e)
 ·by_cases q:s=d
  ·rw [q,v];omega
  ·rw [F s ⋯];have:=K s ⋯;omega
 ·rw [F s ⋯];by_cases q:t=d
  ·rw [q,v];exact K s ⋯
  ·rw [F t ⋯];exact I.cr s t X ⋯
 ·by_cases q:i=d
  ·rw [q,H j h,m j h];exact AU _ λt _=>by rw [nH rfl]
  ·have id:i<d:=by omega
   rw [C i ⋯ q j h,J i id,m j h,I.row i id j h,<-BO];rw [G (u i),<-Fq];exact AU _ λt _=>by rw [nG q];ext
 ·have q:i≠d:=by omega
  obtain ⟨L,T⟩:=L4 (y:=k) (show d<i by omega) x;rw [C i b q j h,m j h,I.row2 _ L (D i b) j h,B i b,<-BO];rw [G (u (tw d k i))]
  have Z:su (d+1) (λt=>(if i=d then (if t=d then y else y*u k t) else (if t=d then 0 else u (tw d k i) t) - l (tw d k i) col*(if t=d then y else y*u k t))*a (o' t) j)=su (d+1) (λt=>(if t=d then 0 else u (tw d k i) t)*a (o' t) j) - su (d+1) (λt=>l (tw d k i) col*((if t=d then y else y*u k t)*a (o' t) j)):=by
   rw [<-Fq];exact AU _ λt _=>by rw [nG q];ext
  rw [Z];ext
 ·by_cases q:s=d
  ·rw [q,v];by_cases p:i=d
   ·rw [p,H _ Q,M];unfold dl;rw [nH rfl]
   ·rw [C i b p col Q,M];unfold dl;rw [nG p];ext
  ·have sd:s<d:=by omega
   have U:c s<w:=by have:=K s sd;omega
   rw [F s sd];by_cases p:i=d
   ·rw [p,H _ U,kc s sd];unfold dl;rw [nG ⋯];ext
   ·rw [C i b p (c s) U,kc s sd,I.piv s sd _ (D i b)];by_cases r:i<d
    ·rw [J i r];ext
    ·obtain ⟨L,T⟩:=L4 (y:=k) (show d<i by omega) x;unfold dl;rw [nG ⋯,nG ⋯];ext
 ·have q:i≠d:=by omega
  obtain ⟨L,T⟩:=L4 (y:=k) (show d<i by omega) x;rw [C i b q j ⋯];rcases Nat.lt_succ_iff_lt_or_eq.mp h with z | z
  ·rw [I.zer _ L (D i b) j z,I.zer k x A j z];ext
  ·rw [z,M];ext
 ·by_cases q:i=d
  ·rw [q,v] at h;rw [q,H j ⋯,I.zer k x A j h];ext
  ·have id:i<d:=by omega
   rw [F i id] at h;have:=K i id;rw [C i ⋯ q j ⋯,J i id,I.ech i id j h,I.zer k x A j ⋯];ext
def RE.minor (I:RE n w a col d o c u l) (f:col<=w):∀ i,i<d->∀ s,s<d->su d (λt=>u i t*a (o t) (c s))=dl i s:=λi e s b=>by
 rw [<-I.row i e (c s) (by have:=I.cl s b;omega)];exact I.piv s b i (by have:=I.dn;omega)
end
section
variable {R:Type} [Lean.Grind.CommRing R]
variable {n w col d:Nat} {a u l:Nat->Nat->R} {o c:Nat->Nat}
def J4 (h:∀ t,t<d->o t<n) (v:Nat->R) (b:Nat->R):su n (λr=>su d (λt=>v t*dl (o t) r)*b r)=su d λt=>v t*b (o t):=by
 rw [AU (g:=λr=>su d λt=>v t*(dl (o t) r*b r)) n λr _=>by rw [<-Cb];exact AU d λt _=>by rw [Lean.Grind.Semiring.mul_assoc],Dv];exact AU d λt e=>by rw [BO,F9 b (h t e)]
def RE.inverse {k:Nat} {M W:Nat->Nat->R} (D:Dom R) (H:∀ i,i<k->∀ j,j<k->su k (λt=>W i t*M t j)=dl i j) (A:∀ r,r<k->∀ j,j<k->a r j=M r j) (p:∀ r,r<k->∀ j,j<k->a r (k+j)=dl r j)
  (I:RE k (k+k) a (k+k) d o c u l):d=k/\∀ i,i<k->∀ j,j<k->su k (λt=>l i (k+t)*M t j)=dl i j:=by
 have J:d=k:=by
  have:=I.dn;refine E9 this (Nat.le_of_not_lt λq=>?_);have C:=I.on d q;have e:=I.row2 d (AV _) q (k+o d) ⋯
  rw [I.zer d (AV _) q _ ⋯,p _ C _ C,CK λt E=>by
   rw [p _ (I.on t ⋯) _ C];unfold dl;rw [nG λz=>by have:=I.inj t d ⋯ q z;omega,Lean.Grind.Semiring.mul_zero]] at e
  unfold dl at e;rw [nH rfl,Lean.Grind.Semiring.add_zero] at e;exact D.one e.symm
 subst J
 have U:∀ i,i<d->∀ j,j<d+d->l i j=su d λr=>su d (λt=>u i t*dl (o t) r)*a r j:=λi f j b=>by
  rw [J4 (λt E=>I.on t E),I.row i f j b]
 have x:∀ i,i<d->∀ j,j<d->l i (d+j)=su d (λt=>u i t*dl (o t) j):=λi f j b=>by
  rw [U i f (d+j) ⋯,AU (g:=λr=>su d (λt=>u i t*dl (o t) r)*dl r j) d λr B=>by rw [p r B j b],Ex (λr=>su d (λt=>u i t*dl (o t) r)),nH b]
 have one:∀ i,i<d->∀ j,j<d->l i j=su d λr=>l i (d+r)*M r j:=λi f j b=>by
  rw [U i f j ⋯];exact AU d λr B=>by rw [A r B j b,x i f r B]
 have K:∀ s,s<d->c s<d:=by
  by_cases z:d=0
  ·intro s h;omega
  have y:c (d - 1)<d:=Nat.lt_of_not_le λq=>by
   have L:=ker D H (v:=λr=>l (d - 1) (d+r)) λj b=>by
    rw [<-one (d - 1) ⋯ j b];exact I.ech (d - 1) ⋯ j ⋯
   have e:=I.piv (d - 1) ⋯ (d - 1) ⋯;have Q:=I.cl (d - 1) ⋯;have F:=L (c (d - 1) - d) ⋯;simp only [show d+(c (d - 1) - d)=c (d - 1) by omega] at F;rw [F] at e;unfold dl at e;rw [nH rfl] at e;exact D.one e.symm
  intro s h;by_cases q:s=d - 1
  ·rw [q];exact y
  ·have:=I.cr s (d - 1) ⋯ ⋯;omega
 have G:∀ m s,s+m<d->c s+m<=c (s+m):=λm=>by
  induction m with
  | zero=>intro s _;exact AV _
  | succ m N=>
    intro s h;have A:=N s ⋯;have p:=I.cr (s+m) (s+(m+1)) ⋯ h;omega
 have O:∀ s,s<d->s<=c s:=λs h=>by have:=G s 0 ⋯;rw [Nat.zero_add] at this;omega
 have P:∀ s,s<d->c s=s:=λs h=>by
  have A:=G (d - 1 - s) s ⋯;have p:=K (d - 1) ⋯;rw [show s+(d - 1 - s)=d - 1 by omega] at A;have:=O s h;omega
 refine ⟨rfl,λi f j b=>?_⟩;rw [<-one i f j b];have:=I.piv j b i f;rw [P j b] at this;exact this
end
def onto {n:Nat} {o:Nat->Nat} (b:∀ i,i<n->o i<n) (a:∀ i j,i<n->j<n->o i=o j->i=j) {r:Nat} (c:r<n):∃ i,i<n/\o i=r:=by
 obtain ⟨i,j,d,f,e⟩:=cO n (n+1) (λi=>if i=n then r else o i) (λi g=>by
  show (if i=n then r else o i)<n;by_cases q:i=n
  ·rw [nH q];exact c
  ·rw [nG q];exact b i ⋯) ⋯
 have e:(if i=n then r else o i)=(if j=n then r else o j):=e;rw [nG ⋯] at e;by_cases q:j=n
 ·rw [nH q] at e;exact ⟨i,⋯,e⟩
 ·rw [nG q] at e;have:=a i j ⋯ ⋯ e;omega
section
variable {R:Type} [Lean.Grind.CommRing R]
variable {n w d:Nat} {a u l:Nat->Nat->R} {o c:Nat->Nat}
def RE.span (I:RE n w a w d o c u l) {r:Nat} (h:r<n):∃ z:Nat->R,∀ j,j<w->a r j=su d λt=>z t*a (o t) j:=by
 obtain ⟨i,b,rfl⟩:=onto I.on I.inj h;by_cases q:i<d
 ·exact ⟨λt=>dl i t,λj _=>(F9 (λt=>a (o t) j) q).symm⟩
 ·refine ⟨λt=>- u i t,λj f=>?_⟩;have e:=I.row2 i ⋯ b j f;rw [I.zer i ⋯ b j f] at e;rw [AU (g:=λt=>(-1)*(u i t*a (o t) j)) d λt _=>by ext,BO];ext
theorem RE.all (n w:Nat) (a:Nat->Nat->R) (f:∀ x:R,x≠0->∃ y,x*y=1):∀ b,b<=w->∃ (d:Nat) (o c:Nat->Nat) (u l:Nat->Nat->R),RE n w a b d o c u l
 | 0,_=>⟨0,_,λ_=>0,λ_ _=>0,a,RE.start n w a _ _⟩
 | b+1,h=>by
   obtain ⟨d,o,c,u,l,I⟩:=RE.all n w a f b ⋯;by_cases q:∀ i,d<=i->i<n->l i b=0
   ·exact ⟨d,o,c,u,l,I.skip q⟩
   ·obtain ⟨k,m,p,e⟩:∃ k,d<=k/\k<n/\l k b≠0:=Classical.byContradiction λx=>q λi r g=>Classical.byContradiction λy=>x ⟨i,r,g,y⟩;obtain ⟨y,v⟩:=f _ e
    obtain ⟨z,A⟩:=I.step (k:=k) (y:=y) (o':=λi=>o (tw d k i)) (c':=λs=>if s=d then b else c s) (l':=λi j=>if i=d then l k j*y else l (tw d k i) j - l (tw d k i) b*(l k j*y)) ⋯ m p v (λ_ _=>rfl)
     (λs B=>by show (if s=d then _ else _)=_;rw [nG ⋯]) (by show (if d=d then _ else _)=_;rw [nH rfl]) (λj _=>by show (if d=d then _ else _)=_;rw [nH rfl]) (λi _ g j _=>by show (if i=d then _ else _)=_;rw [nG g])
    exact ⟨_,_,_,z,_,A⟩
end
theorem L7 {A B:Nat} {f g:dI}:∀ n,(∀ i,i<n->(f i).natAbs<=A)->(∀ i,i<n->(g i).natAbs<=B)->(su n λi=>f i*g i).natAbs<=n*(A*B)
 | 0,_,_=>by show (0:Int).natAbs<=_;omega
 | n+1,a,b=>by
   show (su n (λi=>f i*g i)+f n*g n).natAbs<=_;have d:=L7 n (λi c=>a i ⋯) (λi c=>b i ⋯);have e:(f n*g n).natAbs<=A*B:=by rw [Bv];exact Dl (a n ⋯) (b n ⋯)
   have h:=Int.natAbs_add_le (su n λi=>f i*g i) (f n*g n);rw [Nat.add_mul,Nat.one_mul];omega
def Pj {k A X:Nat} {M:Nat->dI} (F:∀ i,i<k->∀ j,j<k+1->(M i j).natAbs<=A) (G:1<=A) (B:X=(2*((k+1)*A)) ^ k) :
  ∃ x:dI,(∃ j,j<k+1/\x j≠0)/\(∀ j,(x j).natAbs<=X)/\∀ i,i<k->su (k+1) (λj=>M i j*x j)=0:=by
 obtain ⟨E,h⟩:∃ E,E=(k+1)*A:=⟨_,rfl⟩;rw [<-h] at B;have J:1<=E:=by rw [h];exact Nat.mul_pos ⋯ G
 obtain ⟨y,m⟩:∃ y:Nat->dI,∀ t j,y t j=(P_ (X+1) (k+1) t).getD j 0:=⟨_,λ_ _=>rfl⟩
 have n:∀ t j,0<=y t j/\y t j<=(X:Int):=λt j=>by
  rw [m];rcases Br j (P_ (X+1) (k+1) t).length with q | q
  ·rw [AI,AT q];have:=J3 (Nat.succ_pos X) (k+1) t _ (CT q);show 0<=(P_ (X+1) (k+1) t)[j]/\(P_ (X+1) (k+1) t)[j]<=(X:Int);omega
  ·rw [AI,Bp q];show (0:Int)<=0/\(0:Int)<=X;omega
 obtain ⟨f,o⟩:∃ f:Nat->dI,∀ t i,f t i=su (k+1) λj=>M i j*y t j:=⟨_,λ_ _=>rfl⟩
 have r:∀ t i,i<k->(f t i).natAbs<=E*X:=λt i c=>by
  rw [o,h,Nat.mul_assoc];exact L7 (k+1) (λj a=>F i c j a) (λj _=>by have:=n t j;omega)
 obtain ⟨e,u⟩:∃ e:Nat->Nat->Nat,∀ t i,e t i=(f t i+((E*X:Nat):Int)).toNat:=⟨_,λ_ _=>rfl⟩;have v:∀ t i,i<k->e t i<2*(E*X)+1:=λt i c=>by have:=r t i c;rw [u];omega
 have d:(2*(E*X)+1) ^ k<(X+1) ^ (k+1):=by
  have b:(2*(E*X)+1) ^ k<=(2*E*(X+1)) ^ k:=Nat.pow_le_pow_left (by rw [Nat.mul_add,Nat.mul_assoc];omega) k;rw [Nat.mul_pow,<-B] at b;rw [Bk,DE ((X+1) ^ k)];exact EG b (Nat.mul_lt_mul_of_pos_right (ED X) (D1 (Nat.succ_pos X)))
 obtain ⟨s,t,K,H,q⟩:=cO _ _ (λt=>aW (2*(E*X)+1) k (e t)) (λi _=>Lw k (e i) λj a=>v i j a) d;have I:=Lx k _ _ (λj a=>v s j a) (λj a=>v t j a) q;refine ⟨λj=>y t j - y s j,?_,λj=>by have:=n t j;have:=n s j;show (y t j - y s j).natAbs<=X;omega,λi c=>?_⟩
 ·refine Classical.byContradiction λz=>?_;have z:∀ j,j<k+1->y t j=y s j:=λj a=>Classical.byContradiction λw=>z ⟨j,a,by show y t j - y s j≠0;omega⟩
  have:t=s:=Ly (p:=X+1) (Nat.succ_pos X) (k+1) t s H ⋯ (List.ext_getElem (by rw [HV,HV]) λj b C=>by
   have:=z j (by rw [HV] at b;exact b);rw [m,m,AI,AT b,AI,AT C] at this;exact this)
  omega
 ·have b:=I i c;have C:=r t i c;have L:=r s i c;have D:f t i=f s i:=by rw [u,u] at b;omega
  rw [o,o] at D;rw [AU (g:=λj=>M i j*y t j - M i j*y s j) (k+1) λj _=>Int.mul_sub _ _ _,Fq,D];omega
structure Inv2 (p:Int) (k:Nat) (M T:Nat->dI):Prop where
 mt:∀ i,i<k->∀ j,j<k->p∣su k (λt=>M i t*T t j) - dl i j
 tm:∀ i,i<k->∀ j,j<k->p∣su k (λt=>T i t*M t j) - dl i j
theorem L8 {p:Int} {f:dI}:∀ n,(∀ i,i<n->p∣f i)->p∣su n f
 | 0,_=>⟨0,by show (0:Int)=p*0;omega⟩
 | n+1,h=>DF (L8 n λi a=>h i ⋯) (h n ⋯)
def Zp {p:Int} {f g:dI} (n:Nat) (h:∀ i,i<n->p∣f i - g i):p∣su n f - su n g:=by
 rw [<-Fq];exact L8 n h
def Inv2.flip {p:Int} {k:Nat} {M T:Nat->dI} (I:Inv2 p k M T):Inv2 p k (λi j=>M j i) (λi j=>T j i):=
 ⟨λi a j b=>by rw [AU (g:=λt=>T j t*M t i) k λt _=>Cq _ _,L1];exact I.tm j b i a,λi a j b=>by rw [AU (g:=λt=>M j t*T t i) k λt _=>Cq _ _,L1];exact I.mt j b i a⟩
theorem Inv2.zero {p:Int} {k:Nat} {M T:Nat->dI} (I:Inv2 p k M T):∀ (e:Nat) {x:dI},(∀ i,i<k->p ^ e∣su k λj=>M i j*x j)->∀ j,j<k->p ^ e∣x j
 | 0,_,_=>λj _=>by rw [Int.pow_zero];exact Int.one_dvd _
 | e+1,x,h=>λj b=>by
   have o:=Inv2.zero I e (x:=x) λi a=>Bw ⟨p,Int.pow_succ p e⟩ (h i a);have c:p ^ (e+1)∣su k λi=>T j i*su k λt=>M i t*x t:=L8 k λi a=>Bw (h i a) (Int.dvd_mul_left _ _);rw [AU (g:=λi=>su k λt=>T j i*(M i t*x t)) k λi _=>by rw [BO],Dv,AU (g:=λt=>(su k λi=>T j i*M i t)*x t) k λt _=>by rw [<-Cb];exact AU k λi _=>by rw [C7]] at c
   have d:p ^ (e+1)∣su k (λt=>(su k λi=>T j i*M i t)*x t) - su k (λt=>dl j t*x t):=Zp k λt f=>by
    rw [<-Int.sub_mul,Int.pow_succ,Cq];obtain ⟨y,m⟩:=I.tm j b t f;obtain ⟨z,n⟩:=o t f;exact ⟨y*z,by rw [m,n];ext⟩
   rw [F9 x b] at d;obtain ⟨y,m⟩:=c;obtain ⟨z,n⟩:=d;exact ⟨y - z,by rw [Int.mul_sub];omega⟩
def Inv2.null {p k:Nat} {M T:Nat->dI} (f:2<=p) (I:Inv2 (p:Int) k M T) {x:dI} (h:∀ i,i<k->(su k λj=>M i j*x j)=0):∀ j,j<k->x j=0:=λj a=>by
 have d:=I.zero (x j).natAbs (x:=x) (λi b=>by rw [h i b];exact DH _) j a
 have c:p ^ (x j).natAbs∣(x j).natAbs:=by
  have:=DL.mpr d;rwa [Int.natAbs_pow,Cr] at this
 have e:(x j).natAbs<p ^ (x j).natAbs:=Nat.lt_pow_self ⋯;have:=Nat.eq_zero_of_dvd_of_lt c e;omega
def Inv2.small {p k A X:Nat} {M T:Nat->dI} {b:dI} (f:2<=p) (I:Inv2 (p:Int) k M T) (m:∀ i,i<k->∀ j,j<k->(M i j).natAbs<=A) (n:∀ i,i<k->(b i).natAbs<=A) (o:1<=A) (r:X=(2*((k+1)*A)) ^ k) :
  ∃ (x:dI) (D:Int),0<D/\D<=X/\(∀ j,(x j).natAbs<=X)/\∀ i,i<k->su k (λj=>M i j*x j)=b i*D:=by
 obtain ⟨x,⟨j,d,u⟩,c,v⟩:=Pj (k:=k) (A:=A) (M:=λi j=>if j=k then - b i else M i j) (λi a j d=>by
  show (if j=k then - b i else M i j).natAbs<=A;by_cases q:j=k
  ·rw [nH q];have:=n i a;omega
  ·rw [nG q];exact m i a j ⋯) o r
 have e:∀ i,i<k->su k (λj=>M i j*x j)=b i*x k:=λi a=>by
  have h:su k (λj=>(if j=k then - b i else M i j)*x j)+(if k=k then - b i else M i k)*x k=0:=v i a;rw [nH rfl,AU (g:=λj=>M i j*x j) k λj d=>by rw [nG ⋯],Int.neg_mul] at h;omega
 have w:x k≠0:=λz=>u (by
  by_cases q:j=k
  ·rw [q];exact z
  ·exact I.null f (x:=x) (λi a=>by rw [e i a,z,Ec]) j ⋯)
 have y:=c k;rcases Int.lt_or_gt_of_ne w with q | q
 ·exact ⟨λj=>- x j,- x k,⋯,⋯,λj=>by have:=c j;show (- x j).natAbs<=X;omega,λi a=>by
   rw [AU (g:=λj=>(-1)*(M i j*x j)) k λj _=>by rw [Int.mul_neg,Int.neg_mul,Int.one_mul],BO,e i a,Int.mul_neg];omega⟩
 ·exact ⟨x,x k,q,⋯,c,e⟩
structure Eu (m w one oth s t:Int):Prop where
 s0:0<=s
 t1:1<=t
 o0:0<=oth
 lt:oth<one
 det:one*t+oth*s=m
 sg:(m∣oth - t*w/\m∣one+s*w)\/(m∣oth+t*w/\m∣one - s*w)
def Eu.start {m w:Int} (a:0<=w) (b:w<m):Eu m w m w 0 1:=
 ⟨⋯,⋯,a,b,⋯,.inl ⟨⟨0,⋯⟩,⟨1,⋯⟩⟩⟩
def Eu.next {m w one a s t:Int} (E:Eu m w one a s t) (h:0<a):Eu m w a (one - one / a*a) t (s+one / a*t):=by
 have r:one - one / a*a=one % a:=by rw [Int.emod_def,Cq]
 have b:0<=one / a:=Int.ediv_nonneg (by have:=E.lt;omega) E.o0;have f:0<=one / a*t:=EZ b (by have:=E.t1;omega);have c:1<=one / a:=(Int.le_ediv_iff_mul_le h).mpr (by have:=E.lt;omega);have g:1*t<=one / a*t:=Dn c (by have:=E.t1;omega);generalize one / a=q at *;refine ⟨by have:=E.t1;omega,by have:=E.t1;have:=E.s0;omega,by rw [r];exact B9 _ ⋯,by rw [r];exact CM _ h,?_,?_⟩
 ·have:=E.det;ext
 ·rcases E.sg with ⟨⟨x,d⟩,⟨y,e⟩⟩ | ⟨⟨x,d⟩,⟨y,e⟩⟩
  ·exact .inr ⟨⟨y - q*x,()⟩,⟨x,()⟩⟩
  ·exact .inl ⟨⟨y - q*x,()⟩,⟨x,()⟩⟩
def Pk {m w one b s t u v:Int} (h:one*t+b*s=m) (r:1<=t) (i:0<=b) (A:0<m) (B:0<v) (j:m∣b - t*w) (k:m∣one+s*w) (g:m∣v*w - u) (sz:(u.natAbs:Int)*t+b*v<m):∃ c,0<c/\v=t*c/\u=b*c:=by
 have C:0<=b*v:=EZ i ⋯
 have z:u*t - b*v=0:=by
  have d:m∣u*t - b*v:=by
   obtain ⟨x,o⟩:=j;obtain ⟨y,p⟩:=g;exact ⟨- (x*v) - y*t,()⟩
  have q:(u*t - b*v).natAbs<m.natAbs:=by
   have a1:(u*t).natAbs=u.natAbs*t.natAbs:=Bv u t;have a2:((u.natAbs*t.natAbs:Nat):Int)=(u.natAbs:Int)*t:=by push_cast;rw [show ((t.natAbs:Nat):Int)=t by omega]
   generalize u.natAbs*t.natAbs=n at *;omega
  exact Int.eq_zero_of_dvd_of_natAbs_lt_natAbs d q
 obtain ⟨c,D⟩:m∣one*v+s*u:=by
  obtain ⟨x,o⟩:=k;obtain ⟨y,p⟩:=g;exact ⟨x*v - y*s,()⟩
 have e:m*v=m*(t*c):=by ext
 have f:m*u=m*(b*c):=by ext
 have e:=FA ⋯ e;have f:=FA ⋯ f;refine ⟨c,Int.pos_of_mul_pos_right (a:=t) ⋯ ⋯,e,f⟩
def Eu.pair {m w one a s t u v:Int} (E:Eu m w one a s t) (g:0<m) (h:m∣v*w - u) (i:0<v) (sz:(u.natAbs:Int)*t+a*v<m):∃ c y:Int,0<c/\v=t*c/\y*c=u/\m∣y - t*w:=by
 rcases E.sg with ⟨b,d⟩ | ⟨b,d⟩
 ·obtain ⟨c,e,f,j⟩:=Pk E.det E.t1 E.o0 g i b d h sz;exact ⟨c,a,e,f,j.symm,b⟩
 ·obtain ⟨c,e,f,j⟩:=Pk (w:=-w) (u:=-u) E.det E.t1 E.o0 g i (by rw [Int.mul_neg,Int.sub_neg];exact b) (by rw [Int.mul_neg];exact d) (by obtain ⟨x,k⟩:=h;exact ⟨-x,()⟩) (by rw [Int.natAbs_neg];exact sz);exact ⟨c,- a,e,f,(),by obtain ⟨x,k⟩:=b;exact ⟨-x,()⟩⟩
def Eu.fits {m w one b s t u v a X:Int} (E:Eu m w one b s t) (d:b<=a) (lo:a<one) (h:a*a<=m) (c:4*X<=a) (e:(u.natAbs:Int)<=X) (f:v<=X) (i:0<v):(u.natAbs:Int)*t+b*v<m:=by
 have j:=E.t1;have g:=E.o0;have k:(u.natAbs:Int)*t<=X*t:=Dn e ⋯;have n:b*v<=a*X:=Int.le_trans (Dn d ⋯) (DZ f ⋯);have o:4*X*t<=a*t:=Dn c ⋯;have p:a*t<=one*t:=Dn ⋯ ⋯;have q:a*(4*X)<=a*a:=DZ c ⋯;have r:0<=b*s:=EZ g E.s0;have x:=E.det;have y:4*X*t=4*(X*t):=C7 _ _ _;have z:a*(4*X)=4*(a*X):=by rw [<-C7,Cq a 4,C7]
 have:0<a*X:=DG ⋯ ⋯;omega
def domQ:Dom Rat:=⟨∅,λ{a b} e=>by
 by_cases h:a=0
 ·exact .inl h
 ·refine .inr ?_;have:a⁻¹*(a*b)=0:=by rw [e];ext
  rw [<-Rat.mul_assoc,Fa a h] at this;ext⟩
def Zq (x:Rat) (h:x≠0):∃ y,x*y=1:=⟨x⁻¹,Rat.mul_inv_cancel x h⟩
theorem GA (f:dI):∀ n,((su n f:Int):Rat)=su n λi=>(f i:Rat)
 | 0=>rfl
 | n+1=>by
   show ((su n f+f n:Int):Rat)=su n (λi=>(f i:Rat))+(f n:Rat);rw [Rat.intCast_add,GA f n]
def HW {a b:Int} (h:(a:Rat)=(b:Rat)):a=b:=Rat.intCast_inj.mp h
theorem Pm (v:dL):∀ n,∃ (D:Int) (V:dI),D≠0/\∀ i,i<n->(V i:Rat)=(D:Rat)*v i
 | 0=>⟨1,λ_=>0,∅,λi h=>absurd h (BS i)⟩
 | n+1=>by
   obtain ⟨D,V,g,h⟩:=Pm v n;have b:((v n).den:Int)≠0:=by have:=(v n).den_nz;omega
   have e:(v n)*((v n).den:Rat)=((v n).num:Rat):=by
    have c:((v n).num:Rat) / (((v n).den:Int):Rat)=v n:=(Rat.divInt_eq_div (v n).num ((v n).den:Int)).symm.trans (Rat.num_divInt_den (v n));have j:(((v n).den:Int):Rat)=((v n).den:Rat):=rfl;have d:(((v n).den:Int):Rat)≠0:=λz=>b (HW z);rw [j] at c d;have:=Rat.div_mul_cancel (a:=((v n).num:Rat)) d;rw [c] at this;exact this
   refine ⟨D*((v n).den:Int),λi=>if i=n then D*(v n).num else V i*((v n).den:Int),CG g b,λi k=>?_⟩;have f:(((v n).den:Int):Rat)=((v n).den:Rat):=Rat.intCast_natCast _;by_cases q:i=n
   ·show ((if i=n then D*(v n).num else _:Int):Rat)=_;rw [nH q,q,C8,C8,f];ext
   ·show ((if i=n then _ else V i*((v n).den:Int):Int):Rat)=_;rw [nG q,C8,C8,h i ⋯,f];ext
def RE.dw {R:Type} [Lean.Grind.CommRing R] {n w d:Nat} {a u l:Nat->Nat->R} {o c:Nat->Nat} (I:RE n w a w d o c u l):d<=w:=by
 have b:∀ m,m<d->m<=c m:=λm=>by
  induction m with
  | zero=>intro _;omega
  | succ m e=>
    intro h;have f:=e ⋯;have g:=I.cr m (m+1) ⋯ h;omega
 by_cases z:d=0
 ·omega
 ·have f:=b (d - 1) ⋯;have g:=I.cl (d - 1) ⋯;omega
def Zr {n w A:Nat} {b:Nat->dI} (G:∀ r,r<n->∀ j,j<w->(b r j).natAbs<=A) (H:1<=A) :
  ∃ (d:Nat) (o c:Nat->Nat) (D:dI),d<=w/\(∀ t,t<d->o t<n)/\(∀ s,s<d->c s<w)/\(∀ s,s<d->D s≠0/\(D s).natAbs<=(2*((d+1)*A)) ^ d)/\(∀ s,s<d->∃ x:dI,∀ a,a<d->su d (λt=>x t*b (o t) (c a))=D s*dl s a)/\
    ∀ i,i<n->∃ z:dL,∀ j,j<w->(b i j:Rat)=su d (λt=>z t*(b (o t) j:Rat)):=by
 obtain ⟨d,o,c,u,l,I⟩:=RE.all n w (λr j=>(b r j:Rat)) Zq w (AV _);have R:=I.dn;have U:=I.minor (AV _);have J:=Ph domQ (W:=u) (M:=λt s=>(b (o t) (c s):Rat)) U;have C:∀ s,s<d->c s<w:=λs p=>I.cl s p
 have f:∀ s,s<d->∃ (D:Int) (x:dI),(D≠0/\D.natAbs<=(2*((d+1)*A)) ^ d)/\∀ a,a<d->su d (λt=>x t*b (o t) (c a))=D*dl s a:=λs p=>by
  obtain ⟨x,⟨j,S,K⟩,L,N⟩:=Pj (k:=d) (A:=A) (M:=λa t=>if t=d then - dl s a else b (o t) (c a)) (λa m t B=>by
   show (if t=d then - dl s a else b (o t) (c a)).natAbs<=A;by_cases q:t=d
   ·rw [nH q];unfold dl;split <;> (show Int.natAbs _<=A) <;> simp <;> omega
   ·rw [nG q];exact G _ (I.on t ⋯) _ (C a m)) H rfl
  have e:∀ a,a<d->su d (λt=>x t*b (o t) (c a))=x d*dl s a:=λa m=>by
   have h:su d (λt=>(if t=d then - dl s a else b (o t) (c a))*x t)+(if d=d then - dl s a else b (o d) (c a))*x d=0:=N a m;rw [nH rfl,AU (g:=λt=>x t*b (o t) (c a)) d λt B=>by rw [nG ⋯,Cq]] at h;ext
  have O:x d≠0:=λz=>K (by
   by_cases q:j=d
   ·rw [q];exact z
   ·have v:j<d:=by omega
    refine HW ?_
    have P:∀ a,a<d->su d (λt=>(x t:Rat)*(b (o t) (c a):Rat))=0:=λa m=>by
     have:=e a m;rw [z,D2] at this;have:=congrArg (λy:Int=>(y:Rat)) this;simp only [GA] at this;rw [AU (g:=λt=>(x t:Rat)*(b (o t) (c a):Rat)) d λt _=>C8 _ _] at this;exact this
    have E:su d (λa=>su d (λt=>(x t:Rat)*(b (o t) (c a):Rat))*u a j)=0:=CK λa m=>by rw [P a m,Rat.zero_mul]
    rw [AU (g:=λa=>su d λt=>(x t:Rat)*((b (o t) (c a):Rat)*u a j)) d λa _=>by rw [<-Cb];exact AU d λt _=>by rw [Rat.mul_assoc],Dv,AU (g:=λt=>(x t:Rat)*dl t j) d λt B=>by rw [BO,J t B j v],Ex,nH v] at E;exact E)
  exact ⟨x d,x,⟨O,L d⟩,e⟩
 obtain ⟨D,F⟩:∃ D:dI,∀ s (h:s<d),D s=Classical.choose (f s h):=⟨λs=>if h:s<d then Classical.choose (f s h) else 1,λs h=>dif_pos h⟩;refine ⟨d,o,c,D,I.dw,λt B=>I.on t ⋯,C,λs p=>?_,λs p=>?_,λi Q=>I.span Q⟩
 ·rw [F s p];exact (Classical.choose_spec (Classical.choose_spec (f s p))).1
 ·rw [F s p];exact ⟨_,(Classical.choose_spec (Classical.choose_spec (f s p))).2⟩
noncomputable def pd:Nat->(dI)->Int
 | 0,_=>1
 | n+1,f=>pd n f*f n
theorem Pn {f:dI}:∀ n,(∀ s,s<n->f s≠0)->pd n f≠0
 | 0,_=>Int.one_ne_zero
 | n+1,h=>CG (Pn n λs a=>h s ⋯) (h n ⋯)
theorem Po {f:dI}:∀ {n s:Nat},s<n->f s∣pd n f
 | n+1,s,h=>by
   by_cases q:s=n
   ·rw [q];exact ⟨pd n f,Cq _ _⟩
   ·exact Bw (Po (n:=n) ⋯) ⟨f n,rfl⟩
theorem Pp {f:dI} {X:Nat}:∀ n,(∀ s,s<n->(f s).natAbs<=X)->(pd n f).natAbs<=X ^ n
 | 0,_=>AV _
 | n+1,h=>by
   show (pd n f*f n).natAbs<=_;rw [Bv,Bk];exact Dl (Pp n λs a=>h s ⋯) (h n ⋯)
noncomputable def bn:Nat->Nat->Nat
 | _,0=>1
 | 0,_+1=>0
 | n+1,k+1=>bn n k+bn n (k+1)
def J5 (n:Nat):bn n 0=1:=by cases n <;> rfl
theorem IR:∀ n k:Nat,(k+1)*bn (n+1) (k+1)=(n+1)*bn n k
 | 0,0=>rfl
 | 0,k+1=>by show (k+2)*(0+0)=1*0;omega
 | n+1,k=>by
   show (k+1)*(bn (n+1) k+bn (n+1) (k+1))=_;cases k with
   | zero=>
     have h:=IR n 0;rw [J5] at h ⊢;omega
   | succ k=>
     have c:=IR n k;have d:=IR n (k+1);have e:bn (n+1) (k+1)=bn n k+bn n (k+1):=rfl;generalize bn (n+1) (k+1+1)=x at *;generalize bn (n+1) (k+1)=y at *;generalize bn n k=a at *;generalize bn n (k+1)=b at *;ext
theorem bO {M N:Nat} (h:∀ m,0<m->m<=N->m∣M):∀ k n:Nat,k<=n->n+1<=N->∃ t:Int,t*(((n:Int)+1)*(bn n k:Int))=(M:Int)
 | 0,n,_,d=>by
   obtain ⟨t,e⟩:=h (n+1) ⋯ d;refine ⟨(t:Int),?_⟩;rw [J5,e];push_cast;ext
 | k+1,0,hk,_=>absurd hk ⋯
 | k+1,n+1,hk,d=>by
   obtain ⟨f,p⟩:=bO h k n ⋯ ⋯;obtain ⟨g,i⟩:=bO h k (n+1) ⋯ d;refine ⟨f - g,?_⟩;have q:((k:Int)+1)*(bn (n+1) (k+1):Int)=((n:Int)+1)*(bn n k:Int):=by exact_mod_cast IR n k
   have r:((n:Int)+1 - k)*(bn (n+1) k:Int)=((n:Int)+1)*(bn n k:Int):=by
    cases k with
    | zero=>rw [J5,J5];push_cast;omega
    | succ j=>
      have u:((j:Int)+1)*(bn (n+1) (j+1):Int)=((n:Int)+1)*(bn n j:Int):=by exact_mod_cast IR n j
      have v:(bn (n+1) (j+1):Int)=(bn n j:Int)+(bn n (j+1):Int):=by
       have:bn (n+1) (j+1)=bn n j+bn n (j+1):=rfl;omega
      push_cast;ext
   push_cast at i ⊢;have o:((k:Int)+1)≠0:=by omega
   refine FA o ?_;generalize (bn (n+1) (k+1):Int)=b at *;generalize (bn n k:Int)=a at *;generalize (bn (n+1) k:Int)=c at *;ext
theorem Pq:∀ n:Nat,2 ^ n<=bn (2*n) n
 | 0=>AV _
 | n+1=>by
   have a:=Pq n;have e:2*(n+1)=2*n+1+1:=by omega
   rw [e,Bk];have b:bn (2*n+1+1) (n+1)=bn (2*n+1) n+bn (2*n+1) (n+1):=rfl;have c:bn (2*n+1) (n+1)=bn (2*n) n+bn (2*n) (n+1):=rfl
   have d:bn (2*n) n<=bn (2*n+1) n:=by
    cases n with
    | zero=>exact AV _
    | succ m=>
      show _<=bn (2*(m+1)) m+bn (2*(m+1)) (m+1);omega
   omega
def Zs {M n:Nat} (a:0<M) (h:∀ m,0<m->m<=2*n+1->m∣M):2 ^ n<=M:=by
 obtain ⟨t,c⟩:=bO h n (2*n) ⋯ ⋯;have b:=Pq n;have e:0<2 ^ n:=D1 ∅;have d:(bn (2*n) n:Int)∣(M:Int):=⟨t*(((2*n:Nat):Int)+1),by rw [<-c];ext⟩;have:=Ea a (EK.mp d);omega
theorem Zt:∀ m:Nat,2<=m->∃ q,Pr q/\q∣m:=by
 intro m
 induction m using Nat.strongRecOn with
 | _ m c=>
   intro h;by_cases p:Pr m
   ·exact ⟨m,p,Nat.dvd_refl m⟩
   ·obtain ⟨d,a,g,i⟩:∃ d,d∣m/\d≠1/\d≠m:=Classical.byContradiction λz=>p ⟨h,λd b=>Classical.byContradiction λy=>z ⟨d,b,λe=>y (.inl e),λe=>y (.inr e)⟩⟩;have:=Ea ⋯ a;have j:d≠0:=λz=>by rw [z] at a;have:=Nat.eq_zero_of_zero_dvd a;omega
    obtain ⟨q,f,b⟩:=c d ⋯ ⋯;exact ⟨q,f,Nat.dvd_trans b a⟩
noncomputable def aB:Nat->Nat
 | 0=>1
 | n+1=>(n+1)*aB n
theorem Ps:∀ n,0<aB n
 | 0=>Nat.one_pos
 | n+1=>Nat.mul_pos (Nat.succ_pos n) (Ps n)
theorem Pt:∀ {n m:Nat},0<m->m<=n->m∣aB n
 | 0,_,h,a=>absurd h ⋯
 | n+1,m,h,a=>by
   by_cases q:m=n+1
   ·rw [q];exact ⟨aB n,rfl⟩
   ·exact Nat.dvd_trans (Pt h ⋯) ⟨n+1,DE _ _⟩
theorem Pu {b:Nat}:∀ {n:Nat},n<=2 ^ b->aB n<=2 ^ (b*n)
 | 0,_=>Nat.one_le_two_pow
 | n+1,h=>by
   show (n+1)*aB n<=_;rw [Nat.mul_succ,DX,DE (n+1)];exact Dl (Pu ⋯) h
theorem aJ {F:Nat} (h:∀ q,Pr q->q<2 ^ 61->q∣F):∀ e m:Nat,0<m->m<2 ^ e->m<2 ^ 61->m∣F ^ e
 | 0,m,f,a,_=>by
   have:m<1:=a;omega
 | e+1,m,f,a,k=>by
   by_cases q:m=1
   ·rw [q];exact Nat.one_dvd _
   ·obtain ⟨q,b,c,d⟩:=Zt m ⋯;have g:=b.two;have n:c≠0:=λz=>by rw [z] at d;omega
    have o:2*c<=q*c:=CW c g;have i:q*1<=q*c:=EJ q ⋯;rw [Bk] at a;have j:=aJ h e c ⋯ ⋯ ⋯;rw [d,DE,Bk];exact Nat.mul_dvd_mul j (h q b ⋯)
def Zu {D:Nat} (g:0<D) (h:D<=2 ^ 1000000):∃ q,Pr q/\2 ^ 31<q/\q<2 ^ 61/\¬ q∣D:=by
 refine Classical.byContradiction λi=>?_
 have all:∀ q,Pr q->q<2 ^ 61->q∣aB (2 ^ 31)*D:=λq e j=>by
  rcases Br (2 ^ 31) q with c | c
  ·exact Nat.dvd_trans (Classical.byContradiction λz=>i ⟨q,e,c,j,z⟩) ⟨aB (2 ^ 31),DE _ _⟩
  ·exact Nat.dvd_trans (Pt (by have:=e.two;omega) c) ⟨D,rfl⟩
 obtain ⟨N,v⟩:∃ N:Nat,N=576460752303423488:=⟨_,rfl⟩;obtain ⟨E,k⟩:∃ E:Nat,E=66571993088:=⟨_,rfl⟩
 have o:aB (2 ^ 31)<=2 ^ E:=by
  have:=Pu (b:=31) (n:=2 ^ 31) (AV _);rw [show 31*2 ^ 31=E by rw [k]] at this;exact this
 have p:aB (2 ^ 31)*D<=2 ^ (E+1000000):=by
  rw [DX];exact Dl o h
 have d:0<aB (2 ^ 31)*D:=Nat.mul_pos (Ps _) g;generalize aB (2 ^ 31)*D=F at *;have r:=Zs (M:=F ^ 61) (n:=N) (D1 d) λm u w=>aJ all 61 m u ⋯ ⋯;have f:F ^ 61<=(2 ^ (E+1000000)) ^ 61:=Nat.pow_le_pow_left p 61;rw [<-Nat.pow_mul] at f;have:=(Nat.pow_le_pow_iff_right (a:=2) ∅).mp (CF r f);omega
inductive Sn (w:Nat) (P:(dL)->Prop):(dL)->Prop
 | zer {v:dL} (h:∀ j,j<w->v j=0):Sn w P v
 | add {u v x:dL} (c:Rat) (hu:P u) (hv:Sn w P v) (h:∀ j,j<w->x j=c*u j+v j):Sn w P x
def Sn.of {w:Nat} {P:(dL)->Prop} {u x:dL} (c:Rat) (a:P u) (h:∀ j,j<w->x j=c*u j):Sn w P x:=.add c a (.zer (v:=λ_=>0) λ_ _=>rfl) λj b=>by rw [h j b];ext
def aK (w r:Nat) (b:Nat->dL):Prop:=∀ c:dL,(∀ j,j<w->su r (λt=>c t*b t j)=0)->∀ t,t<r->c t=0
structure Rk (w:Nat) (P:(dL)->Prop) (r:Nat):Prop where
 ex:∃ b:Nat->dL,aK w r b/\(∀ t,t<r->Sn w P (b t))/\∀ u,P u->∃ z:dL,∀ j,j<w->u j=su r λt=>z t*b t j
theorem L9 {f:dL} (r:Nat):∀ k,su (r+k) f=su r f+su k λs=>f (r+s)
 | 0=>by show su r f=su r f+0;ext
 | k+1=>by show su (r+k) f+f (r+k)=su r f+(su k (λs=>f (r+s))+f (r+k));rw [L9 r k];ext
theorem Pw {f:dL}:∀ n,(∀ j,j<n->0<=f j)->0<=su n f
 | 0,_=>Rat.le_refl
 | n+1,h=>by
   have a:=Pw n λj c=>h j ⋯;have b:=h n ⋯;show 0<=su n f+f n;ext
theorem Px {f:dL}:∀ n,(∀ j,j<n->0<=f j)->su n f=0->∀ j,j<n->f j=0
 | 0,_,_,j,c=>absurd c (BS j)
 | n+1,h,e,j,c=>by
   have a:=Pw n λj c=>h j ⋯;have b:=h n ⋯;have e:su n f+f n=0:=e;by_cases q:j=n
   ·rw [q];ext
   ·exact Px n (λj c=>h j ⋯) () j ⋯
def Zv (x:Rat):0<=x*x:=by
 rcases Rat.le_total (a:=0) (b:=x) with h | h
 ·exact Rat.mul_nonneg h h
 ·have:0<=(-x)*(-x):=Rat.mul_nonneg () ();ext
theorem Sn.dot {w:Nat} {P:(dL)->Prop} {c v:dL} (h:∀ u,P u->su w (λj=>u j*c j)=0) (b:Sn w P v):su w (λj=>v j*c j)=0:=by
 induction b with
 | zer e=>exact CK λj a=>by rw [e j a];ext
 | @add u v x d hp _ f i=>
   rw [AU (g:=λj=>d*(u j*c j)+v j*c j) w λj a=>by rw [f j a];ext,Fo,BO,h u hp,i];ext
def Rk.null {w r k:Nat} {P:(dL)->Prop} (h:Rk w P r) {c:Nat->dL} (C:aK w k c) (D:∀ u,P u->∀ t,t<k->su w (λj=>u j*c t j)=0):r+k<=w:=by
 obtain ⟨b,E,m,_⟩:=h.ex;refine Classical.byContradiction λK=>?_;obtain ⟨e,⟨i,L,z⟩,F⟩:=bh domQ w (r+k) (λi j=>if i<r then b i j else c (i - r) j) ⋯;obtain ⟨x,o⟩:∃ x:dL,∀ j,x j=su r λt=>e t*b t j:=⟨_,λ_=>rfl⟩;obtain ⟨y,p⟩:∃ y:dL,∀ j,y j=su k λs=>e (r+s)*c s j:=⟨_,λ_=>rfl⟩
 have A:∀ j,j<w->x j+y j=0:=λj a=>by
  have:=F j a;rw [L9,AU (g:=λt=>e t*b t j) r λt v=>by rw [nH v],AU (g:=λs=>e (r+s)*c s j) k λs _=>by rw [nG ⋯,show r+s - r=s by omega]] at this;rw [o,p];exact this
 have d:su w (λj=>x j*y j)=0:=by
  rw [AU (g:=λj=>su r λt=>e t*(b t j*y j)) w λj _=>by rw [o,<-Cb];exact AU r λt _=>by ext,Dv];refine CK λt v=>?_;rw [BO,AU (g:=λj=>su k λs=>e (r+s)*(b t j*c s j)) w λj _=>by rw [p,<-BO];exact AU k λs _=>by ext,Dv,CK (n:=k) λs G=>by rw [BO,Sn.dot (λu H=>D u H s G) (m t v)];grind];ext
 have B:∀ j,j<w->x j=0:=λj a=>by
  have:=Px (f:=λj=>x j*x j) w (λj _=>Zv _) (by
   rw [AU (g:=λj=>(-1)*(x j*y j)) w λj a=>by have:=A j a;ext,BO,d];ext) j a
  exact (domQ.mul this).elim id id
 have I:=E e λj a=>by rw [<-o];exact B j a
 have J:=C (λs=>e (r+s)) λj a=>by rw [<-p];have:=A j a;have:=B j a;ext
 by_cases q:i<r
 ·exact z (I i q)
 ·have:=J (i - r) ⋯;rw [show r+(i - r)=i by omega] at this;exact z this
theorem Py {R:Type} [Lean.Grind.CommRing R] (f:Nat->R):∀ n,su (n+1) f=f 0+su n λi=>f (i+1)
 | 0=>by show (0:R)+f 0=f 0+0;ext
 | n+1=>by show su (n+1) f+f (n+1)=f 0+(su n (λi=>f (i+1))+f (n+1));rw [Py f n];ext
namespace Sr
noncomputable def pl (n:Nat) (c:dL):Sr:=⟨λk=>if k<n then c k else 0⟩
def HX (n:Nat) (c:dL):Bn (pl n c) n:=λk hk=>by show (if k<n then c k else 0)=0;rw [nG ⋯]
def MA (n:Nat) (c:dL):Pol (pl n c):=(HX n c).pol
def IS (f g:Sr) (k:Nat):(f+g).c k=f.c k+g.c k:=rfl
def X_c (n k:Nat):(X n).c k=if n=k then 1 else 0:=by
 have h:=J0 n 1 k;rw [show X n*1=X n by grind] at h;rw [h];by_cases q:n<=k
 ·rw [nH q];show ((1:Nat):Rat)*A3 (k - n)=_;by_cases e:n=k
  ·rw [nH e,e,Nat.sub_self];show ((1:Nat):Rat)*1=1;push_cast;ext
  ·rw [nG e];obtain ⟨j,a⟩:∃ j,k - n=j+1:=⟨k - n - 1,⋯⟩;rw [a];show ((1:Nat):Rat)*0=0;ext
 ·rw [nG q,nG ⋯]
def Zw (n:Nat) (c:dL):pl (n+1) c=pl n c+num (c n)*X n:=ext' λk=>by
 rw [IS,num_mul,X_c];show (if k<n+1 then c k else 0)=(if k<n then c k else 0)+_;by_cases q:k<n
 ·rw [nH q,nH ⋯,nG ⋯];ext
 ·by_cases e:n=k
  ·rw [nG q,nH e,nH ⋯,e];ext
  ·rw [nG q,nG e,nG ⋯];ext
def Zx (c:dL):pl 0 c=0:=ext' λk=>by rw [zero_c];exact HX 0 c k (AY k)
theorem IT (c:dL) (g:Sr) (h:Nat):∀ n,(pl n c*g).c h=su n λj=>c j*(if j<=h then g.c (h - j) else 0)
 | 0=>by rw [Zx,show (0:Sr)*g=0 by ext,zero_c];rfl
 | n+1=>by
   rw [Zw,show (pl n c+num (c n)*X n)*g=pl n c*g+num (c n)*(X n*g) by ext,IS,IT c g h n,num_mul,J0];rfl
def MB {f:Sr} {n:Nat} (h:Bn f n):pl n f.c=f:=ext' λk=>by
 show (if k<n then f.c k else 0)=f.c k;by_cases q:k<n
 ·rw [nH q]
 ·rw [nG q,h k ⋯]
theorem MC (f:Nat->Sr) (k:Nat):∀ n,(su n f).c k=su n λt=>(f t).c k
 | 0=>zero_c k
 | n+1=>by show (su n f+f n).c k=su n (λt=>(f t).c k)+(f n).c k;rw [IS,MC f k n]
def IU {f g:Sr} {a b:Nat} (c:Bn f a) (d:Bn g (b+1)):Bn (f*g) (a+b):=λh e=>by
 rw [<-MB c,IT];refine CK λj i=>?_;by_cases q:j<=h
 ·rw [nH q,d _ ⋯];ext
 ·rw [nG q];ext
noncomputable def eqn (P Q:Sr) (n h j:Nat):Rat:=if j<n then (if j<=h then P.c (h - j) else 0) else if j - n<=h then Q.c (h - (j - n)) else 0
def Pz (P Q:Sr) (n m h:Nat) (c:dL):su (n+m) (λj=>eqn P Q n h j*c j)=(pl n c*P+pl m (λj=>c (n+j))*Q).c h:=by
 rw [L9,IS,IT,IT];congr 1
 ·exact AU n λj a=>by unfold eqn;rw [nH a];ext
 ·exact AU m λj a=>by unfold eqn;rw [nG ⋯,show n+j - n=j by omega];ext
def quo_bn {q B:Sr} {n b:Nat} (c:Pol q) (d:B.c b≠0) (f:Bn B (b+1)) (h:Bn (q*B) n):Bn q (n - b):=by
 obtain ⟨k,hk⟩:=c.bn;rcases top_ex k hk with z | ⟨e,_,g,a⟩
 ·rw [z];exact λk _=>zero_c k
 ·obtain ⟨t,_⟩:=top_mul a f
  have:e+b<n:=Classical.byContradiction λi=>by
   have:=h (e+b) ⋯;rw [t] at this;rcases domQ.mul this with z | z
   ·exact g z
   ·exact d z
  exact λk hk=>a k ⋯
section
variable {P Q G A B:Sr} {p q d:Nat}
structure Gcd (P Q G A B:Sr) (p q d:Nat):Prop where
 pA:Pol A
 pB:Pol B
 eP:P=A*G
 eQ:Q=B*G
 cs:Cs A B
 g0:G.c d≠0
 hG:Bn G (d+1)
 a0:A.c p≠0
 hA:Bn A (p+1)
 b0:B.c q≠0
 hB:Bn B (q+1)
def Gcd.ker (g:Gcd P Q G A B p q d) {u v:Sr} (a:Pol u) (pv:Pol v) (h:u*P+v*Q=0):∃ t,Pol t/\u=t*B/\v = - (t*A):=by
 have i:G≠0:=λz=>g.g0 (by rw [z,zero_c]);have j:B≠0:=λz=>g.b0 (by rw [z,zero_c]);have b:=g.pA;have c:=g.pB;have e:u*A+v*B=0:=cancel ((a.mul b).add (pv.mul c)) (Pol.nat 0) g.hG.pol i (by have:=g.eP;have:=g.eQ;ext);obtain ⟨S,R,f,pR,one⟩:=g.cs;refine ⟨R*u - S*v,(pR.mul a).sub (f.mul pv),(),?_⟩;refine cancel pv (((pR.mul a).sub (f.mul pv)).mul b).neg c j ?_;have k:u=(R*u - S*v)*B:=by ext
 have:v*B = - (u*A):=by ext
 rw [this];ext
def Gcd.le (g:Gcd P Q G A B p q d) {k:Nat} {b:Nat->dL} (r:aK (q+d+(p+d)) k b) (hk:∀ t,t<k->pl (q+d) (b t)*P+pl (p+d) (λj=>b t (q+d+j))*Q=0):k<=d:=by
 have o:∀ t,∃ s,t<k->Pol s/\pl (q+d) (b t)=s*B/\pl (p+d) (λj=>b t (q+d+j)) = - (s*A):=λt=>by
  by_cases a:t<k
  ·obtain ⟨s,c⟩:=g.ker (MA _ _) (MA _ _) (hk t a);exact ⟨s,λ_=>c⟩
  ·exact ⟨0,λh=>absurd h a⟩
 obtain ⟨s,c⟩:∃ s:Nat->Sr,∀ t,t<k->Pol (s t)/\pl (q+d) (b t)=s t*B/\pl (p+d) (λj=>b t (q+d+j)) = - (s t*A):=⟨λt=>Classical.choose (o t),λt=>Classical.choose_spec (o t)⟩
 have u:∀ t,t<k->Bn (s t) d:=λt a=>by
  have:=quo_bn (n:=q+d) (c t a).1 g.b0 g.hB (by rw [<-(c t a).2.1];exact HX _ _);rwa [show q+d - q=d by omega] at this
 refine Classical.byContradiction λD=>?_;obtain ⟨e,⟨i,v,w⟩,x⟩:=bh domQ d k (λt j=>(s t).c j) ⋯
 have z:su k (λt=>num (e t)*s t)=0:=ext' λj=>by
  rw [MC,zero_c,AU (g:=λt=>e t*(s t).c j) k λt _=>num_mul _ _ _];by_cases q:j<d
  ·exact x j q
  ·exact CK λt a=>by rw [u t a j ⋯];ext
 have m:∀ (f:Nat->Sr) (C:Sr),(∀ t,t<k->f t=s t*C)->∀ j,su k (λt=>e t*(f t).c j)=0:=λf C h j=>by
  rw [AU (g:=λt=>(num (e t)*s t*C).c j) k λt a=>by rw [h t a,show num (e t)*s t*C=num (e t)*(s t*C) by ext,num_mul],<-MC,Cb,z,show (0:Sr)*C=0 by ext,zero_c]
 refine w (r e (λj E=>?_) i v);by_cases y:j<q+d
 ·have:=m (λt=>pl (q+d) (b t)) B (λt a=>(c t a).2.1) j;rw [AU (g:=λt=>e t*b t j) k λt _=>by show e t*(if j<q+d then b t j else 0)=_;rw [nH y]] at this;exact this
 ·have:=m (λt=>pl (p+d) (λj=>b t (q+d+j))) (-A) (λt a=>by rw [(c t a).2.2];ext) (j - (q+d));rw [AU (g:=λt=>e t*b t j) k λt _=>by show e t*(if j - (q+d)<p+d then b t (q+d+(j - (q+d))) else 0)=_;rw [nH ⋯,show q+d+(j - (q+d))=j by omega]] at this;exact this
noncomputable def aO (A B:Sr) (n:Nat) (t j:Nat):Rat:=if j<n then (X t*B).c j else - (X t*A).c (j - n)
def P3 (n:Nat):Bn (X n) (n+1):=λk hk=>by rw [X_c,nG ⋯]
def Gcd.shift (g:Gcd P Q G A B p q d) {t:Nat} (e:t<d):pl (q+d) (aO A B (q+d) t)*P+pl (p+d) (λj=>aO A B (q+d) t (q+d+j))*Q=0:=by
 have a:pl (q+d) (aO A B (q+d) t)=X t*B:=by
  refine Eq.trans (ext' λk=>?_) (MB (n:=q+d) λk hk=>IU (P3 t) g.hB k ⋯);show (if k<q+d then aO A B (q+d) t k else 0)=if k<q+d then _ else 0
  by_cases z:k<q+d
  ·rw [nH z,nH z];unfold aO;rw [nH z]
  ·rw [nG z,nG z]
 have b:pl (p+d) (λj=>aO A B (q+d) t (q+d+j)) = - (X t*A):=by
  have c:Bn (- (X t*A)) (p+d):=λk hk=>by
   show - (X t*A).c k=0;rw [IU (P3 t) g.hA k ⋯];ext
  refine Eq.trans (ext' λk=>?_) (MB c);show (if k<p+d then aO A B (q+d) t (q+d+k) else 0)=if k<p+d then _ else 0
  by_cases z:k<p+d
  ·rw [nH z,nH z];unfold aO;rw [nG ⋯,show q+d+k - (q+d)=k by omega];rfl
  ·rw [nG z,nG z]
 rw [a,b,g.eP,g.eQ];ext
def Gcd.ind (g:Gcd P Q G A B p q d):aK (q+d+(p+d)) d (aO A B (q+d)):=λe h t a=>by
 have b:B≠0:=λz=>g.b0 (by rw [z,zero_c])
 have z:pl d e*B=0:=ext' λj=>by
  rw [zero_c];by_cases c:j<q+d
  ·have:=h j ⋯;rw [AU (g:=λt=>e t*(if t<=j then B.c (j - t) else 0)) d λt _=>by unfold aO;rw [nH c,J0],<-IT] at this;exact this
  ·exact IU (HX d e) g.hB j ⋯
 have:pl d e=0:=cancel (MA d e) (Pol.nat 0) g.pB b (by rw [z];ext);have:=nV (congrArg Sr.c this) t;rw [zero_c] at this;rw [<-this];show e t=if t<d then e t else 0
 rw [nH a]
def Gcd.frees (g:Gcd P Q G A B p q d) {PA n:(dL)->Prop} {r k:Nat} (J:r+k=q+d+(p+d)) (o:Rk (q+d+(p+d)) PA r) (w:Rk (q+d+(p+d)) n k) (x:∀ u,PA u->∃ h,∀ j,j<q+d+(p+d)->u j=eqn P Q (q+d) h j) (a:∀ h,h<q+d+(p+d)->∃ u,PA u/\∀ j,j<q+d+(p+d)->u j=eqn P Q (q+d) h j) (y:∀ v,n v->∀ u,PA u->su (q+d+(p+d)) (λj=>u j*v j)=0):k=d:=by
 have K:r+d<=q+d+(p+d):=o.null g.ind λu e t f=>by
  obtain ⟨h,z⟩:=x u e;rw [AU (g:=λj=>eqn P Q (q+d) h j*aO A B (q+d) t j) _ λj i=>by rw [z j i],Pz,g.shift f,zero_c]
 obtain ⟨b,C,m,_⟩:=w.ex
 have L:k<=d:=g.le C λt f=>ext' λh=>by
  rw [zero_c];by_cases D:h<q+d+(p+d)
  ·obtain ⟨u,e,E⟩:=a h D;have:=Sn.dot (c:=u) (λv F=>by rw [AU (g:=λj=>u j*v j) _ λj _=>by grind];exact y v F u e) (m t f);rw [AU (g:=λj=>eqn P Q (q+d) h j*b t j) _ λj i=>by rw [E j i];ext,Pz] at this;exact this
  ·rw [IS];have H:Bn P (p+d+1):=by rw [g.eP];exact (top_mul g.hA g.hG).2
   have I:Bn Q (q+d+1):=by rw [g.eQ];exact (top_mul g.hB g.hG).2
   rw [IU (HX _ _) H h ⋯,IU (HX _ _) I h ⋯];ext
 omega
end
end Sr
noncomputable def wr:List Rat->Rat->Rat
 | [],_=>0
 | y::a,x=>y+x*wr a x
theorem P4:∀ (a:List Rat) (x:Rat),(∀ k,a.getD k 0=0)->wr a x=0
 | [],_,_=>rfl
 | y::a,x,h=>by
   have b:y=0:=h 0;show y+x*wr a x=0;rw [P4 a x λk=>h (k+1),b];ext
noncomputable def bU (r:Rat):List Rat->List Rat
 | []=>[]
 | _::a=>wr a r::bU r a
theorem J6 (r:Rat):∀ (a:List Rat) (k:Nat),(bU r a).getD k 0=wr (a.drop (k+1)) r
 | [],k=>by show ([]:List Rat).getD k 0=wr ([]:List Rat) r;rfl
 | y::a,0=>rfl
 | y::a,k+1=>J6 r a k
theorem P5 (r x:Rat):∀ a:List Rat,wr a x=(x - r)*wr (bU r a) x+wr a r
 | []=>by show (0:Rat)=(x - r)*0+0;ext
 | y::a=>by
   show y+x*wr a x=(x - r)*(wr a r+x*wr (bU r a) x)+(y+r*wr a r);have:=P5 r x a;rw [this];ext
theorem P6 (r:Rat):∀ (a:List Rat) (k:Nat),wr (a.drop k) r=a.getD k 0+r*wr (a.drop (k+1)) r
 | [],k=>by rw [List.drop_nil,List.drop_nil];show (0:Rat)=0+r*0;ext
 | y::a,0=>rfl
 | y::a,k+1=>P6 r a k
theorem places:∀ (n:Nat) (a:List Rat) (x:dL),(∀ i j,i<j->j<n->x i≠x j)->(∀ k,n<=k->a.getD k 0=0)->(∀ i,i<n->wr a (x i)=0)->∀ k,a.getD k 0=0
 | 0,a,x,_,h,_=>λk=>h k (AY k)
 | n+1,a,x,c,o,h=>by
   have d:=h n ⋯
   have f:=places n (bU (x n) a) x (λi j b q=>c i j b ⋯) (λk hk=>by
    rw [J6];refine P4 _ _ λj=>?_;rw [AI,List.getElem?_drop,<-AI];exact o _ ⋯) (λi b=>by
    have:=P5 (x n) (x i) a;rw [h i ⋯,d] at this;have p:=c i n b ⋯;have:(x i - x n)*wr (bU (x n) a) (x i)=0:=by ext
    exact (domQ.mul this).resolve_left λz=>p ())
   intro k;have e:=P6 (x n) a k;have g:=f k;rw [J6] at g;rw [g] at e;cases k with
   | zero=>rw [List.drop_zero,d] at e;ext
   | succ k=>
     have m:=f k;rw [J6] at m;rw [m] at e;ext
theorem P7 (x z:Rat):∀ a:List Rat,wr (a++[z]) x=wr a x+x ^ a.length*z
 | []=>by show z+x*0=0+x ^ 0*z;ext
 | y::a=>by
   show y+x*wr (a++[z]) x=y+x*wr a x+x ^ (a.length+1)*z;rw [P7 x z a];ext
theorem P8 (c:dL) (x:Rat):∀ n,wr ((List.range n).map c) x=su n λj=>x ^ j*c j
 | 0=>rfl
 | n+1=>by
   rw [FZ,Cp,List.map_cons,List.map_nil,P7,P8 c x n,AK,A4];rfl
def cB {n:Nat} {c x:dL} (a:∀ i j,i<j->j<n->x i≠x j) (h:∀ i,i<n->su n (λj=>x i ^ j*c j)=0):∀ j,j<n->c j=0:=λj b=>by
 have:=places n ((List.range n).map c) x a (λk hk=>by rw [AI,Bp (by rw [AK,A4];omega)];rfl) (λi d=>by rw [P8];exact h i d) j;rw [AI,Aa,CV b] at this;exact this
theorem P9 {f:dL} {n:Nat} {x:Rat}:∀ d,d<=n->aa f n x d=su d λi=>x ^ i*f (n - d+i)
 | 0,_=>rfl
 | d+1,h=>by
   rw [Py];show f (n - 1 - d)+x*aa f n x d=_;rw [P9 d ⋯,<-BO,show n - (d+1)+0=n - 1 - d by omega,show x ^ 0*f (n - 1 - d)=f (n - 1 - d) by grind];congr 1;exact AU d λi _=>by rw [show n - (d+1)+(i+1)=n - d+i by omega];ext
end Bs
namespace Bs
open PySem
noncomputable def Gi (K:W.Frag):Addr:=match W.nsIn K PySem.mainGlobals "EXPONENTS" with | some (some (.ref a))=>a | _=>0
end Bs
namespace Bs
open PySem L2
abbrev eC (Q:VK):Ends:={ nx:=λ_ h=>Q .non h,rt:=Q }
noncomputable def B8 (K:W.Frag):Addr:=match W.nsIn K PySem.mainGlobals "Core" with | some (some (.ref a))=>a | _=>0
noncomputable def sr (l:cZ):Sr:=⟨D_ l⟩
noncomputable def si (ns:de):Sr:=⟨λk=>(co ns k:Rat)⟩
abbrev Nm (H:Hp) (p:Addr) (t d:Int):Prop:=H p=some (.tup [.int t,.int d])
def FV (_:W.Frag):Sp:=λc H Q _=>∃ a b:Int,c=[.int a,.int b]/\Q (.int ((Int.gcd a b:Nat):Int)) H
def J7 (K:W.Frag):Sp:=λc H Q _=>∃ (a:Addr) (b:de),c=[.ref a]/\SqL K H a (b.map V.int)/\b.length<=63/\∀ d,Q (.bl true) d
def HY (_:W.Frag):Sp:=λa H Q _=>∃ (x n:Int) (b:Nat),a=[.int x,.int n]/\0<=n/\Bd b x/\b*n.toNat+1<=200000/\Q (.int (x ^ n.toNat)) H
noncomputable def A6 (n:Nat) (f:dI):d8:=((List.range n).map f).map V.int
noncomputable def Di (ns:de):Nat->Nat
 | 0=>0
 | m+1=>if ns.getD m 1=0 then Di ns m else m+1
noncomputable def DU (ns:de):de:=ns.take (Di ns ns.length)
def Pl (H:Hp) (r:Addr) (L:cZ):Prop:=∃ a,H r=some (.tup a)/\Nums H a L
def HZ (_:W.Frag):Sp:=λb H Q _=>∃ (p:Addr) (a:de),b=[.ref p]/\H p=some (.lst (a.map V.int))/\∀ r,H r=none->Q (.ref r) (upd H r (.lst ((DU a).map V.int)))
def Tz (ns:de):Prop:=ns=[]\/co ns (ns.length - 1)≠0
noncomputable def SDs (H:Hp):d8->List (de)->Prop
 | [],[]=>True
 | x::a,r::b=>(∃ p,x=.ref p/\H p=some (.lst (r.map V.int)))/\SDs H a b
 | _,_=>False
def SD (H:Hp) (p:Addr) (b:List (de)):Prop:=∃ a,H p=some (.lst a)/\SDs H a b
def IV (_:W.Frag):Sp:=λe H Q _=>∃ (p:Addr) (a:de) (b:Int),e=[.ref p,.int b]/\H p=some (.lst (a.map V.int))/\a.length<=1000/\∀ (g:Int) (c:Hp),Same H c->0<=g->g∣b->(∀ z∈a,g∣z)->(∀ d:Int,d∣b->(∀ z∈a,d∣z)->d∣g)->Q (.int g) c
def IW (_:W.Frag):Sp:=λb H Q _=>∃ (p:Addr) (a:de) (g:Int),b=[.ref p,.int g]/\H p=some (.lst (a.map V.int))/\(0<g\/a=[])/\a.length<=1000/\∀ r,H r=none->Q (.ref r) (upd H r (.lst ((a.map (·/ g)).map V.int)))
def IX (_:W.Frag):Sp:=λe H Q _=>∃ (p q:Addr) (a b:de) (f w:Int) (s:Nat),e=[.ref p,.int f,.ref q,.int w,.int (s:Int)]/\H p=some (.lst (a.map V.int))/\H q=some (.lst (b.map V.int))/\a.length<=1000/\s+b.length<=1000/\Bd 60000000 f/\Bd 60000000 w/\(∀ z∈a,Bd 60000000 z)/\(∀ z∈b,Bd 60000000 z)/\
 ∀ (r:Addr) (c:de) (d:Hp),Same H d->d r=some (.lst (c.map V.int))->Tz c->(∀ k,co c k=f*co a k - w*A5 s (co b) k)->Q (.ref r) d
def IY (_:W.Frag):Sp:=λg H Q _=>∃ (p q:Addr) (a c:de) (b d:Nat),g=[.ref p,.ref q]/\H p=some (.lst (a.map V.int))/\H q=some (.lst (c.map V.int))/\Lz c/\(∀ z∈a,Bd b z)/\(∀ z∈c,Bd d z)/\b+a.length*(d+1)<=60000000/\d<=60000000/\a.length<=1000/\c.length<=1000/\((¬ ∃ A:de,∀ k,co a k=cvL A (co c) k)->∀ e,Same H e->Q .non e)/\
 ∀ (r:Addr) (f:de) (e:Hp),Same H e->e r=some (.lst (f.map V.int))->(∀ k,co a k=cvL f (co c) k)->Q (.ref r) e
def Sh (b a:List (de)):Prop:=∃ g:Int,0<g/\b=a.map (·.map (g*·))
def Zy (a:List (de)):Prop:=(∀ r∈a,r=[])\/∀ d:Int,(∀ r∈a,∀ z∈r,d∣z)->d.natAbs=1
def IZ (_:W.Frag):Sp:=λd H Q _=>∃ (p:Addr) (b:List (de)),d=[.ref p]/\SD H p b/\b.length<=1000/\(∀ r∈b,r.length<=1000/\Tz r)/\
 ∀ (t:Addr) (a:List (de)) (c:Hp),Same H c->SD c t a->Sh b a->Zy a->Q (.ref t) c
def Hb (_:W.Frag):Sp:=λd H Q _=>∃ (p:Addr) (a:de),d=[.ref p]/\H p=some (.lst (a.map V.int))/\a.length<=1000/\Tz a/\
 ∀ (t:Addr) (b:de) (g:Int) (c:Hp),Same H c->c t=some (.lst (b.map V.int))->0<g->a=b.map (g*·)->(a=[]\/Prim b)->Q (.ref t) c
def J8 (_:W.Frag):Sp:=λb H Q _=>∃ (p q:Addr) (o:de),b=[.ref p,.ref q]/\SD H p [[]]/\SD H q [o]/\0<o.length/\∀ (t:Addr) (a:Hp),Same H a->SD a t [[]]->Q (.ref t) a
def Ia (_:W.Frag):Sp:=λb H Q _=>∃ (p q:Addr) (s o:de),b=[.ref p,.ref q]/\SD H p [s]/\SD H q [o]/\(s=[]\/o=[])/\∀ (t:Addr) (a:Hp),Same H a->SD a t [if o=[] then s else o]->Q (.ref t) a
def Ib (_:W.Frag):Sp:=λb H Q _=>∃ a p:Int,b=[.int a,.int p]/\2<=p/\Bd 45000 p/\∀ r:Int,0<=r->r<p->(Int.gcd a p=1->p∣r*a - 1)->Q (.int r) H
def Ic (_:W.Frag):Sp:=λb H Q _=>∃ (p:Addr) (a:de) (m:Int),b=[.ref p,.int m]/\H p=some (.lst (a.map V.int))/\0<m/\a.length<=1000/\∀ r,H r=none->Q (.ref r) (upd H r (.lst ((a.map (·% m)).map V.int)))
def Md (m:Int) (a:de) (f:dI):Prop:=(∀ z∈a,0<=z/\z<m)/\∀ k,m∣co a k - f k
def He (_:W.Frag):Sp:=λd H Q _=>∃ (p:Addr) (a:de) (m:Int),d=[.ref p,.int m]/\H p=some (.lst (a.map V.int))/\0<m/\a.length<=1000/\∀ (r:Addr) (b:de) (c:Hp),Same H c->c r=some (.lst (b.map V.int))->Tz b->b.length<=a.length->Md m b (co a)->Q (.ref r) c
def Hf (_:W.Frag):Sp:=λd H Q _=>∃ (q:Addr) (a:de) (p:Nat),d=[.ref q,.int (p:Int)]/\H q=some (.lst (a.map V.int))/\Pr p/\Bd 45000 (p:Int)/\a.length<=1000/\Tz a/\(∀ z∈a,0<=z/\z<(p:Int))/\
 ∀ (r:Addr) (b:de) (f:Int) (c:Hp),Same H c->c r=some (.lst (b.map V.int))->b.length=a.length->(a≠[]->co b (b.length - 1)=1)->Md (p:Int) b (λk=>f*co a k)->Q (.ref r) c
def J9 (_:W.Frag):Sp:=λg H Q _=>∃ (p q:Addr) (f a:de) (m:Int) (b:Nat),g=[.ref p,.ref q,.int m]/\H p=some (.lst (f.map V.int))/\H q=some (.lst (a.map V.int))/\0<a.length/\co a (a.length - 1)=1/\0<m/\Bd b m/\(∀ z∈a,Bd b z)/\b<=60000000/\f.length<=1000/\a.length<=1000/\
 ∀ (t r s:Addr) (d e:de) (c:Hp),Same H c->c t=some (.tup [.ref r,.ref s])->c r=some (.lst (d.map V.int))->c s=some (.lst (e.map V.int))->Tz d->Tz e->e.length<a.length->Md m e (λk=>co f k - cvL d (co a) k)->(∀ z∈d,0<=z/\z<m)->Q (.ref t) c
def KA (_:W.Frag):Sp:=λf H Q _=>∃ (p q:Addr) (d a:de) (m:Int) (b:Nat),f=[.ref p,.ref q,.int m]/\H p=some (.lst (d.map V.int))/\H q=some (.lst (a.map V.int))/\0<a.length/\co a (a.length - 1)=1/\0<m/\Bd b m/\(∀ z∈a,Bd b z)/\b<=60000000/\d.length<=1000/\a.length<=1000/\
 ∀ (s:Addr) (g c:de) (e:Hp),Same H e->e s=some (.lst (c.map V.int))->Tz c->c.length<a.length->Md m c (λk=>co d k - cvL g (co a) k)->Q (.ref s) e
def KC (_:W.Frag):Sp:=λh H Q _=>∃ (a b:Addr) (d e:de) (p:Nat),h=[.ref a,.ref b,.int (p:Int)]/\H a=some (.lst (d.map V.int))/\H b=some (.lst (e.map V.int))/\Pr p/\Bd 45000 (p:Int)/\d.length<=1000/\e.length<=1000/\((∃ k,¬ (p:Int)∣co d k)\/∃ k,¬ (p:Int)∣co e k)/\
 ∀ (s:Addr) (c:de) (f:Hp),Same H f->f s=some (.lst (c.map V.int))->0<c.length->c.length<=1000->co c (c.length - 1)=1->(∀ z∈c,0<=z/\z<(p:Int))->(∀ g:dI,Dm (p:Int) g (co d)->Dm (p:Int) g (co e)->Dm (p:Int) g (co c))->Dm (p:Int) (co c) (co d)->Dm (p:Int) (co c) (co e)->Q (.ref s) f
def Hg (_:W.Frag):Sp:=λa H Q _=>∃ w p:Int,a=[.int w,.int p]/\0<p/\∀ r:Int,p∣r - w->2*r.natAbs<=p.natAbs->Q (.int r) H
def Fi (e:Nat) (ns:de):Prop:=∀ A g:de,(∀ k,co ns k=cvL A (co g) k)->∀ k,Bd e (co g k)
def Fp (e:Nat) (ns:de):Prop:=∀ g:de,Lz g->Prim g->MQ (co g) (co ns)->∀ k,Bd e (co g k)
def QA (e c N p:Nat):Prop:=2 ^ ((e+c+2)*N)<p
def KD (_:W.Frag):Sp:=λj H Q _=>∃ (a b:Addr) (f g:de) (p d e c N:Nat),j=[.ref a,.ref b,.int (p:Int)]/\H a=some (.lst (f.map V.int))/\H b=some (.lst (g.map V.int))/\Pr p/\Bd 45000 (p:Int)/\Lz f/\Lz g/\(∀ z∈f,Bd d z)/\(∀ z∈g,Bd d z)/\d+f.length*45001<=3000000/\d+g.length*45001<=3000000/\Fi e f/\Fi e g/\f.length+g.length<2 ^ (c+1)/\f.length+g.length<=N+2/\2<=N/\(¬ QA e c N p->∀ h,Same H h->Q .non h)/\
 ∀ (s:Addr) (i:de) (h:Hp),Same H h->h s=some (.lst (i.map V.int))->RC (co f) (co g) i->Prim i->Q (.ref s) h
def KE (_:W.Frag):Sp:=λj H Q _=>∃ (a b:Addr) (f g:de) (d e c N:Nat),j=[.ref a,.ref b]/\H a=some (.lst (f.map V.int))/\H b=some (.lst (g.map V.int))/\Tz f/\Tz g/\(∀ z∈f,Bd d z)/\(∀ z∈g,Bd d z)/\d<=200000/\f.length<=60/\g.length<=60/\(f≠[]->g≠[]->Fp e f/\Fp e g)/\f.length+g.length<2 ^ (c+1)/\f.length+g.length<=N+2/\2<=N/\(e+c+2)*N<=44490/\
 ∀ (s:Addr) (h:de) (i:Hp),Same H i->i s=some (.lst (h.map V.int))->((f≠[]\/g≠[])->RC (co f) (co g) h/\Prim h)->(f=[]->g=[]->h=[])->Q (.ref s) i
structure Gq (b c:Nat) (l:cZ):Prop where
 low:Aj l
 nz:Nz l
 ov:∃ M,Ov l M/\Bd c M/\∀ z∈L_ l M,Bd b z
noncomputable def ay (g:de):cZ:=g.map λn=>Af n (co g (g.length - 1))
def MR (g f:dL):Prop:=∃ A:List Rat,∀ k,f k=cvL A g k
def GB (_:W.Frag):Sp:=λc H Q _=>∃ a b:Int,c=[.int a,.int b]/\b≠0/\∀ (p:Addr),H p=none->Q (.ref p) (upd H p (.tup [.int (Af a b).1,.int (Af a b).2]))
def Hh (_:W.Frag):Sp:=λb H Q _=>∃ (p:Addr) (a:d8) (l:cZ),b=[.ref p]/\H p=some (.lst a)/\Nums H a l/\l.length<=1000/\Ge H Q (K' l)
def FW (_:W.Frag):Sp:=λd H Q _=>∃ (p:Addr) (c:d8) (l:cZ) (M:Int),d=[.ref p]/\(H p=some (.tup c)\/H p=some (.lst c))/\Nums H c l/\Aj l/\Ov l M/\Bd 400000 M/\(∀ q∈l,Bd 60000000 q.1)/\l.length<=1000/\
 ∀ (r a:Addr) (b:Hp),Same H b->b r=some (.tup [.ref a,.int (Ai l)])->b a=some (.lst ((AW l).map V.int))->Q (.ref r) b
def Hi (_:W.Frag):Sp:=λb H Q _=>∃ (p:Addr) (a:de) (B:Int),b=[.ref p,.int B]/\H p=some (.lst (a.map V.int))/\B≠0/\a.length<=1000/\Ge H Q (K' (a.map λn=>Af n B))
def Hj (_:W.Frag):Sp:=λh H Q _=>∃ (p q:Addr) (a f:d8) (l m:cZ) (b c e d N:Nat),h=[.ref p,.ref q]/\H p=some (.tup a)/\H q=some (.tup f)/\Nums H a l/\Nums H f m/\Gq b c l/\Gq b c m/\b<=200000/\c<=200000/\l.length<=60/\m.length<=60/\(l≠[]->m≠[]->Fp e (AW l)/\Fp e (AW m))/\l.length+m.length<2 ^ (d+1)/\l.length+m.length<=N+2/\2<=N/\(e+d+2)*N<=44490/\
 (l=[]->m=[]->Ge H Q [])/\((l≠[]\/m≠[])->∀ g,RC (co (AW l)) (co (AW m)) g->Prim g->Ge H Q (ay g))
def KF (_:W.Frag):Sp:=λj H Q _=>∃ (p q:Addr) (h i:d8) (l m:cZ) (b c d e:Nat),j=[.ref p,.ref q]/\H p=some (.tup h)/\H q=some (.tup i)/\Nums H h l/\Nums H i m/\Gq b c l/\Gq d e m/\m≠[]/\l.length<=100/\m.length<=100/\
 c+(l.length+1 - m.length)*d<=400000/\b+(l.length+1 - m.length)*(d+1)+e<=900000/\e<=400000/\d<=400000/\
 ∀ (t u v:Addr) (f:Hp) (a g:cZ),Same H f->f t=some (.tup [.ref u,.ref v])->Pl f u a->Pl f v g->Aj a->Nz a->a.length<=l.length+1 - m.length->Gq (b+(l.length+1 - m.length)*(d+1)) (c+(l.length+1 - m.length)*d) g->g.length<m.length->
   (∀ k,D_ l k=cv (D_ a) (D_ m) a.length k+D_ g k)->Q (.ref t) f
def KG (_:W.Frag):Sp:=λe H Q _=>∃ (p q:Addr) (a b c d:Int),e=[.ref p,.ref q]/\Nm H p a b/\Nm H q c d/\0<b/\c≠0/\Bd 60000000 a/\Bd 60000000 b/\Bd 60000000 c/\Bd 60000000 d/\
 ∀ (r:Addr),H r=none->Q (.ref r) (upd H r (.tup [.int (Af (a*d) (b*c)).1,.int (Af (a*d) (b*c)).2]))
noncomputable def rw' (l:cZ):List Rat:=(List.range l.length).map (D_ l)
noncomputable def bV (l:cZ) (x:Rat):Rat:=aa (D_ l) l.length x l.length
def KH (_:W.Frag):Sp:=λf H Q _=>∃ (p q:Addr) (e:d8) (l:cZ) (a d:Int) (b:Nat),f=[.ref p,.ref q]/\H p=some (.tup e)/\Nm H q a d/\Nums H e l/\Gq b b l/\b<=20/\Low a d/\Bd 10 a/\Bd 10 d/\l.length<=6/\
 ∀ (r:Addr) (c:Hp) (z:Nu),Same H c->isN c (.ref r) z->Low z.1 z.2->Bd 300 z.1->Bd 300 z.2->val z=bV l (val (a,d))->Q (.ref r) c
def KI (_:W.Frag):Sp:=λb H Q _=>∃ (p:Addr) (a:d8),b=[.ref p]/\H p=some (.tup a)/\Q (.int ((a.length:Int) - 1)) H
noncomputable def en (L:List (de)) (i j:Nat):Int:=co (L.getD i []) j
def Rect (L:List (de)) (n w:Nat):Prop:=L.length=n/\∀ r∈L,r.length=w
noncomputable def iN (os:List Nat):d8:=os.map λi:Nat=>V.int (i:Int)
noncomputable def nth (os:List Nat) (i:Nat):Nat:=os.getD i 0
def aP (p:Int) (L:List (de)):Prop:=∀ r∈L,∀ z∈r,0<=z/\z<p
def aQ (b:Nat) (L:List (de)):Prop:=∀ r∈L,∀ z∈r,Bd b z
def Gj (_:W.Frag):Sp:=λf H Q _=>∃ (a b:Addr) (c d:de) (n:Nat),f=[.ref a,.ref b]/\H a=some (.lst (c.map V.int))/\H b=some (.lst (d.map V.int))/\c.length=n/\d.length=n/\n<=1000/\(∀ z∈c,Bd 1000000 z)/\(∀ z∈d,Bd 1000000 z)/\∀ e,Same H e->Q (.int (su n λi=>co c i*co d i)) e
def MD (_:W.Frag):Sp:=λa H Q _=>∃ n:Nat,a=[.int (n:Int)]/\n<2 ^ 45000/\∀ b:Bool,(b=true↔Pr n)->Q (.bl b) H
def ME (_:W.Frag):Sp:=λa H Q _=>∃ n g:Nat,a=[.int (n:Int)]/\Pr g/\n<g/\g<2 ^ 45000/\∀ p:Nat,Pr p->n<p->p<=g->Q (.int (p:Int)) H
noncomputable def Ey:Nat:=2 ^ 127 - 1
noncomputable def bX:Nat:=2 ^ 31 - 1
def MF (_:W.Frag):Sp:=λa H Q _=>∃ n g:Nat,a=[.int (n:Int)]/\Pr g/\(n=Ey\/n<g)/\g<2 ^ 45000/\bX<=g/\∀ p:Nat,Pr p->(n=Ey/\p=bX\/n≠Ey/\n<p)->p<=g->Q (.int (p:Int)) H
def KJ (_:W.Frag):Sp:=λd H Q _=>∃ (a:Addr) (b:d8) (i j:Nat),d=[.ref a,.int (i:Int),.int (j:Int)]/\H a=some (.lst b)/\i<b.length/\j<b.length/\b.length<=1000/\∀ (r:Addr) (c:d8),H r=none->c.length=b.length->(∀ k,k<b.length->c[k]?=b[tw i j k]?)->Q (.ref r) (upd H r (.lst c))
def KK (_:W.Frag):Sp:=λh H Q _=>∃ (a b:Addr) (d e:de) (n c:Nat) (p:Int),h=[.ref a,.ref b,.int (c:Int),.int p]/\H a=some (.lst (d.map V.int))/\H b=some (.lst (e.map V.int))/\d.length=n/\e.length=n/\n<=1000/\c<n/\0<p/\Bd 45000 p/\(∀ z∈d,0<=z/\z<p)/\(∀ z∈e,0<=z/\z<p)/\
 ∀ (r:Addr) (f:de) (g:Hp),Same H g->(r=a\/H r=none)->g r=some (.lst (f.map V.int))->f.length=n->(∀ z∈f,0<=z/\z<p)->(∀ j,j<n->Zm.of p (co f j)=Zm.of p (co d j) - Zm.of p (co d c)*Zm.of p (co e j))->Q (.ref r) g
structure Rdc (p:Int) (L:List (de)) (n w:Nat) (LL:List (de)) (os cs:List Nat):Prop where
 rc:Rect LL os.length w
 lc:cs.length=os.length
 ip:aP p LL
 ri:∃ (o c:Nat->Nat) (u l:Nat->Nat->Zm p),RE n w (λi j=>Zm.of p (en L i j)) w os.length o c u l/\(∀ i,i<os.length->nth os i=o i)/\(∀ i,i<os.length->nth cs i=c i)/\∀ i,i<os.length->∀ j,j<w->l i j=Zm.of p (en LL i j)
def KL (_:W.Frag):Sp:=λe H Q _=>∃ (a:Addr) (L:List (de)) (n w p:Nat),e=[.ref a,.int (p:Int)]/\SD H a L/\Rect L n w/\n<=100/\w<=100/\Pr p/\Bd 45000 (p:Int)/\
 ∀ (r x y z:Addr) (c:List (de)) (os d:List Nat) (b:Hp),Same H b->b r=some (.tup [.ref x,.ref y,.ref z])->SD b x c->b y=some (.lst (iN os))->b z=some (.lst (iN d))->Rdc (p:Int) L n w c os d->Q (.ref r) b
def Id (_:W.Frag):Sp:=λb H Q _=>∃ (a:Addr) (L:List (de)) (n w:Nat),b=[.ref a]/\SD H a L/\Rect L n w/\(n=0->w=0)/\Q (.int (w:Int)) H
def Ie (_:W.Frag):Sp:=λd H Q _=>∃ (a b:Addr) (c:de) (ps:List Nat),d=[.ref a,.ref b]/\H a=some (.lst (c.map V.int))/\H b=some (.lst (iN ps))/\(∀ i∈ps,i<c.length)/\ps.length<=1000/\∀ r,H r=none->Q (.ref r) (upd H r (.lst ((ps.map (co c)).map V.int)))
def Hk (_:W.Frag):Sp:=λf H Q _=>∃ (a b:Addr) (ps:List Nat) (d:de) (w:Nat),f=[.ref a,.ref b,.int (w:Int)]/\H a=some (.lst (iN ps))/\H b=some (.lst (d.map V.int))/\ps.length=d.length/\(∀ i∈ps,i<w)/\ps.Nodup/\w<=1000/\
 ∀ (r:Addr) (c:de) (e:Hp),Same H e->H r=none->e r=some (.lst (c.map V.int))->c.length=w->(∀ i,i<ps.length->co c (nth ps i)=co d i)->(∀ j,(∀ i,i<ps.length->nth ps i≠j)->co c j=0)->Q (.ref r) e
def Ig (_:W.Frag):Sp:=λf H Q _=>∃ (a:Addr) (d:de) (b:Int),f=[.ref a,.int b]/\H a=some (.lst (d.map V.int))/\d.length<=1000/\b≠0/\∀ (r:Addr) (e:d8) (c:Hp),Same H c->c r=some (.tup e)->Nums c e (d.map λz=>Af z b)->Q (.ref r) c
def MG (_:W.Frag):Sp:=λb H Q _=>∃ (a:Addr) (L:List (de)) (n w j:Nat),b=[.ref a,.int (j:Int)]/\SD H a L/\Rect L n w/\n<=1000/\j<w/\∀ r,H r=none->Q (.ref r) (upd H r (.lst ((L.map λl=>co l j).map V.int)))
def KM (_:W.Frag):Sp:=λd H Q _=>∃ (a:Addr) (L:List (de)) (n w:Nat),d=[.ref a]/\SD H a L/\Rect L n w/\(n=0->w=0)/\n<=1000/\w<=1000/\∀ (r:Addr) (b:List (de)) (c:Hp),Same H c->SD c r b->Rect b w n->(∀ i,i<n->∀ j,j<w->en b j i=en L i j)->(∀ P:Int->Prop,(∀ l∈L,∀ z∈l,P z)->∀ l∈b,∀ z∈l,P z)->Q (.ref r) c
def MH (_:W.Frag):Sp:=λc H Q _=>∃ (a:Addr) (M:List (de)) (k p:Nat) (W:Nat->Nat->Zm (p:Int)),c=[.ref a,.int (p:Int)]/\SD H a M/\Rect M k k/\k<=50/\Pr p/\Bd 45000 (p:Int)/\(∀ i,i<k->∀ j,j<k->su k (λt=>W i t*Zm.of (p:Int) (en M t j))=dl i j)/\
 ∀ (r:Addr) (T:List (de)) (b:Hp),Same H b->SD b r T->Rect T k k->aP (p:Int) T->Inv2 (p:Int) k (en M) (en T)->Q (.ref r) b
structure CorM (L:List (de)) (n w p:Nat) (os cs:List Nat) (M T:List (de)):Prop where
 lc:cs.length=os.length
 rM:Rect M os.length os.length
 rT:Rect T os.length os.length
 iT:aP (p:Int) T
 inv:Inv2 (p:Int) os.length (en M) (en T)
 ol:∀ i∈os,i<n
 ou:os.Nodup
 cl:∀ j∈cs,j<w
 cu:cs.Pairwise (·<·)
 eM:∀ i,i<os.length->∀ s,s<os.length->en M i s=en L (nth os i) (nth cs s)
 span:∀ r,r<n->∃ z:dI,∀ j,j<w->(p:Int)∣en L r j - su os.length λt=>z t*en L (nth os t) j
structure FsOk (fs:List (Str×V)) (p:Nat) (y z m t:Addr):Prop where
 f1:fs.lookup ("prime" : Str)=some (.int (p:Int))
 f2:fs.lookup ("lines" : Str)=some (.ref y)
 f3:fs.lookup ("columns" : Str)=some (.ref z)
 f4:fs.lookup ("minor" : Str)=some (.ref m)
 f5:fs.lookup ("turned" : Str)=some (.ref t)
structure Cor (C:Addr) (H:Hp) (x:Addr) (L:List (de)) (n w p:Nat) (os cs:List Nat) (M T:List (de)) (y z m t:Addr):Prop where
 at':∃ dx fs,H x=some (.ins C dx fs)/\FsOk fs p y z m t
 hy:H y=some (.lst (iN os))
 hz:H z=some (.lst (iN cs))
 hm:SD H m M
 ht:SD H t T
 c:CorM L n w p os cs M T
structure ClsOk (K:W.Frag) (C:Addr):Prop where
 cl:Cls K C
 a1:NoAttr K C "prime"
 a2:NoAttr K C "lines"
 a3:NoAttr K C "columns"
 a4:NoAttr K C "minor"
 a5:NoAttr K C "turned"
def Gk (K:W.Frag):Sp:=λc H Q _=>∃ (x a:Addr) (d:Addr) (L:List (de)) (n w p:Nat),c=[.ref x,.ref a,.int (p:Int)]/\H x=some (.ins (B8 K) d [])/\SD H a L/\Rect L n w/\n<=50/\w<=50/\Pr p/\Bd 45000 (p:Int)/\
 ∀ (os e:List Nat) (M T:List (de)) (y z m t:Addr) (b:Hp),Kp x H b->Cor (B8 K) b x L n w p os e M T y z m t->Q .non b
def MI (_:W.Frag):Sp:=λc H Q _=>∃ w m a:Int,c=[.int w,.int m,.int a]/\0<=w/\w<m/\0<=a/\a<m/\Bd 500000 m/\∀ one b s t:Int,Eu m w one b s t->b<=a->a<one->Q (.int t) H
structure Fits (m X:Int) (ps:de) (x:dI) (D:Int):Prop where
 d0:0<D
 dX:D<=X
 xX:∀ j,((x j).natAbs:Int)<=X
 dv:∀ j,j<ps.length->m∣D*co ps j - x j
 m0:256*X*X<m
def MJ (_:W.Frag):Sp:=λe H Q _=>∃ (a:Addr) (ps:de) (m:Int),e=[.ref a,.int m]/\H a=some (.lst (ps.map V.int))/\ps.length<=1000/\(∀ z∈ps,Bd 500000 z)/\2<=m/\Bd 250000 m/\(∀ c,Same H c->(∀ X x D,¬ Fits m X ps x D)->Q .non c)/\
 ∀ (r b:Addr) (d:de) (B:Int) (c:Hp),Same H c->c r=some (.tup [.ref b,.int B])->c b=some (.lst (d.map V.int))->d.length=ps.length->0<B->B<=m->(∀ z∈d,z.natAbs<=m.natAbs)->(∀ X x D,Fits m X ps x D->∀ j,j<ps.length->co d j*D=x j*B)->Q (.ref r) c
def MK (_:W.Frag):Sp:=λf H Q _=>∃ (m g y b:Addr) (M:List (de)) (a d:de) (B:Int) (k:Nat),f=[.ref m,.ref g,.ref b]/\SD H m M/\Rect M k k/\H g=some (.tup [.ref y,.int B])/\H y=some (.lst (a.map V.int))/\H b=some (.lst (d.map V.int))/\a.length=k/\d.length=k/\k<=50/\aQ 1000000 M/\(∀ z∈a,Bd 1000000 z)/\(∀ z∈d,Bd 1000000 z)/\Bd 1000000 B/\
 ∀ (e:Hp) (c:Bool),Same H e->(c=true↔∀ i,i<k->su k (λj=>en M i j*co a j)=co d i*B)->Q (.bl c) e
def Ih (_:W.Frag):Sp:=λe H Q _=>∃ (m t b:Addr) (M T:List (de)) (a:de) (k p:Nat),e=[.ref m,.ref t,.ref b,.int (p:Int)]/\SD H m M/\SD H t T/\H b=some (.lst (a.map V.int))/\Rect M k k/\Rect T k k/\a.length=k/\k<=10/\2<=p/\Bd 44500 (p:Int)/\aP (p:Int) T/\Inv2 (p:Int) k (en M) (en T)/\aQ 4000 M/\(∀ z∈a,Bd 4000 z)/\
 ∀ (r y:Addr) (c:de) (B:Int) (d:Hp),Same H d->d r=some (.tup [.ref y,.int B])->d y=some (.lst (c.map V.int))->c.length=k->0<B->Bd 250000 B->(∀ z∈c,Bd 250000 z)->(∀ i,i<k->su k (λj=>en M i j*co c j)=co a i*B)->Q (.ref r) d
structure Fre (L:List (de)) (n w:Nat) (cs:List Nat) (q:Nat) (f:de) (D:Int):Prop where
 lf:f.length=w
 d0:0<D
 bD:Bd 250000 D
 bf:∀ z∈f,Bd 250000 z
 sol:∀ i,i<n->su w (λj=>en L i j*co f j)=0
 qw:q<w
 qc:q∉cs
 one:co f q=D
 zer:∀ j,j<w->j∉cs->j≠q->co f j=0
noncomputable def FRs (H:Hp) (L:List (de)) (n w:Nat) (cs:List Nat):d8->List (Nat×de×Int)->Prop
 | [],[]=>True
 | x::b,q::l=>(∃ u a,x=.ref u/\H u=some (.tup a)/\Nums H a (q.2.1.map λz=>Af z q.2.2)/\Fre L n w cs q.1 q.2.1 q.2.2)/\FRs H L n w cs b l
 | _,_=>False
noncomputable def W_ (w:Nat) (cs:List Nat):List Nat:=(List.range w).filter λj=>decide (j∉cs)
def KN (L:List (de)) (n w:Nat) (os:List Nat):Prop:=∃ (i:Nat) (f:dI),i<n/\(∀ t,t<os.length->su w (λj=>en L (nth os t) j*f j)=0)/\su w (λj=>en L i j*f j)≠0
def Ii (K:W.Frag):Sp:=λe H Q _=>∃ (a x y z m t:Addr) (L M T:List (de)) (n w p:Nat) (os c:List Nat),e=[.ref a,.ref x]/\SD H a L/\Rect L n w/\(n=0->w=0)/\n<=20/\w<=10/\aQ 4000 L/\2<=p/\Bd 44500 (p:Int)/\Cor (B8 K) H x L n w p os c M T y z m t/\
 (∀ b,Same H b->KN L n w os->Q .non b)/\
 ∀ (r:Addr) (d:d8) (F:List (Nat×de×Int)) (b:Hp),Same H b->b r=some (.lst d)->FRs b L n w c d F->F.map (λq=>q.1)=W_ w c->Q (.ref r) b
def ML (K:W.Frag):Sp:=λd H Q _=>∃ (a x y z m t:Addr) (L M T:List (de)) (n w p:Nat) (os c:List Nat) (i:Nat),d=[.ref a,.ref x,.int (i:Int)]/\SD H a L/\Rect L n w/\n<=20/\w<=10/\aQ 4000 L/\2<=p/\Bd 44500 (p:Int)/\Cor (B8 K) H x L n w p os c M T y z m t/\i<n/\i∉os/\
 ∀ (r u:Addr) (W:de) (B:Int) (b:Hp),Same H b->b r=some (.tup [.ref u,.int B])->b u=some (.lst (W.map V.int))->W.length=n->0<B->Bd 250000 B->(∀ z∈W,Bd 250000 z)->co W i=B->(∀ j,j<n->j∉os->j≠i->co W j=0)->(∀ s,s<os.length->su n (λj=>co W j*en L j (nth c s))=0)->Q (.ref r) b
noncomputable def NRs (H:Hp):d8->List cY->Prop
 | [],[]=>True
 | x::c,l::d=>(∃ a b,x=.ref a/\H a=some (.lst b)/\Nums H b l)/\NRs H c d
 | _,_=>False
noncomputable def vl (l:cZ) (j:Nat):Rat:=val (l.getD j (0,1))
noncomputable def vr (A:List cY) (i j:Nat):Rat:=vl (A.getD i []) j
def FX (b:Nat) (l:cZ):Prop:=Aj l/\∀ q∈l,Bd b q.1/\Bd b q.2
noncomputable def TFs (H:Hp) (w:Nat) (A:List cY):d8->List cY->Prop
 | [],[]=>True
 | x::b,l::c=>(∃ u a,x=.ref u/\H u=some (.tup a)/\Nums H a l/\l.length=w/\FX 250000 l/\∀ i,i<A.length->su w (λj=>vr A i j*vl l j)=0)/\TFs H w A b c
 | _,_=>False
def PL (A:List cY):(dL)->Prop:=λu=>∃ l∈A,u=vl l
structure Wh (A:List cY) (w:Nat) (F:List cY):Prop where
 ex:∃ r,r+F.length=w/\Rk w (PL A) r/\Rk w (PL F) F.length
def KO (_:W.Frag):Sp:=λk H Q _=>∃ (a b:Addr) (e g:d8) (A:List cY) (B:cZ) (n w:Nat),k=[.ref a,.ref b]/\H a=some (.lst e)/\H b=some (.lst g)/\NRs H e A/\Nums H g B/\A.length=n/\B.length=n/\(∀ l∈A,l.length=w)/\(n=0->w=0)/\n<=20/\w<=10/\(∀ i,i<n->FX 2000 (A.getD i []++[B.getD i (0,1)])/\∃ m,Ov (A.getD i []++[B.getD i (0,1)]) m/\Bd 1900 m)/\
 (∀ (r x f:Addr) (d h:d8) (X:cZ) (F:List cY) (c:Hp),Same H c->c r=some (.tup [.str "told", .ref x,.ref f])->c x=some (.tup d)->Nums c d X->X.length=w->FX 250000 X->(∀ i,i<n->su w (λj=>vr A i j*vl X j)=vl B i)->c f=some (.tup h)->TFs c w A h F->Wh A w F->Q (.ref r) c)/\
 ∀ (r x:Addr) (d:d8) (W:cZ) (c:Hp),0<n->Same H c->c r=some (.tup [.str "none", .ref x])->c x=some (.tup d)->Nums c d W->W.length=n->FX 260000 W->(∀ j,j<w->su n (λi=>vr A i j*vl W i)=0)->su n (λi=>vl B i*vl W i)≠0->Q (.ref r) c
def Box (H:Hp) (p:Addr) (n:Int):Prop:=∃ a b c:Int,H p=some (.lst [.int a,.int b,.int c])/\0<=a/\0<=b/\0<=c/\c<=n
def KP (K:W.Frag):Sp:=λb H Q _=>∃ (s:Addr) (c:de) (k:Int),b=[.ref s,.int k]/\SqL K H s (c.map V.int)/\0<=k/\k<=1000/\∀ (p:Addr) (a:Hp),H p=none->Same H a->Box a p 7000->Q (.ref p) a
def Ij (_:W.Frag):Sp:=λb H Q _=>∃ (p:Addr) (m n:Int),b=[.ref p,.int m]/\Box H p n/\n<=1000000/\0<m/\m<4611686018427387904/\∀ (d:Int) (a:Hp),0<=d->d<m->Box a p (n+1)->Kp p H a->Q (.int d) a
def Ik (_:W.Frag):Sp:=λc H Q _=>∃ a b:Int,c=[.int a,.int b]/\0<b/\∀ p,H p=none->Q (.ref p) (upd H p (.tup [.int (K_ a b).1,.int (K_ a b).2]))
def Nb (b:Nat) (q:Nu):Prop:=Low q.1 q.2/\Bd b q.1/\Bd b q.2
def KQ (f:Nu->Nu->Nu) (_:W.Frag):Sp:=λa H Q _=>∃ (x y:Addr) (q r:Nu),a=[.ref x,.ref y]/\isN H (.ref x) q/\isN H (.ref y) r/\Nb 50000000 q/\Nb 50000000 r/\∀ p,H p=none->Q (.ref p) (upd H p (.tup [.int (f q r).1,.int (f q r).2]))
noncomputable abbrev QB:=KQ X_
noncomputable abbrev MM:=KQ N'
noncomputable abbrev Il:=Hh
def Im (_:W.Frag):Sp:=λg H Q _=>∃ (p q:Addr) (d e:d8) (l m:cZ) (b c:Nat),g=[.ref p,.ref q]/\H p=some (.tup d)/\H q=some (.tup e)/\Nums H d l/\Nums H e m/\Gq b c l/\Gq b c m/\b<=1000/\c<=1000/\l.length<=100/\m.length<=100/\
 ∀ (r:Addr) (f:d8) (L:cZ) (a:Hp),Same H a->a r=some (.tup f)->Nums a f L->Aj L->Nz L->sr L=sr l*sr m->Gq (b+b+l.length) (c+c) L->Q (.ref r) a
def Io (_:W.Frag):Sp:=λc H Q _=>∃ (p:Addr) (m n:Int),c=[.ref p,.int m]/\Box H p n/\n<=800000/\0<=m/\m<=3/\
 ∀ (r:Addr) (b:d8) (l:cZ) (a:Hp),a r=some (.tup b)->Nums a b l->Gq 5 3 l->l≠[]->(l.length:Int)<=m+1->Box a p (n+20)->Kp p H a->Q (.ref r) a
def MN (_:W.Frag):Sp:=λg H Q _=>∃ (p q:Addr) (c e:d8) (l m:cZ) (G A B:Sr) (a b d:Nat),g=[.ref p,.ref q]/\H p=some (.tup c)/\H q=some (.tup e)/\Nums H c l/\Nums H e m/\Gq 14 6 l/\Gq 14 6 m/\l.length=a+d+1/\m.length=b+d+1/\l.length<=6/\m.length<=6/\Sr.Gcd (sr l) (sr m) G A B a b d/\
 ∀ f,Same H f->Q (.int (d:Int)) f
def MO (_:W.Frag):Sp:=λc H Q _=>∃ (p:Addr) (a:d8) (l:cZ),c=[.ref p]/\H p=some (.tup a)/\Nums H a l/\Gq 14 6 l/\l≠[]/\l.length<=6/\∀ b,Same H b->Q (.bl true) b
def KR (_:W.Frag):Sp:=λc H Q _=>∃ (p:Addr) (f:de) (n b:Nat),c=[.ref p,.int (n:Int)]/\H p=some (.lst (f.map V.int))/\0<f.length/\f.getD 0 0≠0/\(∀ z∈f,Bd b z)/\(b+f.length)*n+1<=8000/\b<=300/\f.length<=9/\n<=60/\
 ∀ (r:Addr) (a:Hp),Same H a->a r=some (.lst (((List.range (n*(f.length - 1)+1)).map (Av f n)).map V.int))->Q (.ref r) a
def Ip (_:W.Frag):Sp:=λc H Q _=>∃ (p:Addr) (b:d8) (l:cZ) (n:Nat),c=[.ref p,.int (n:Int)]/\H p=some (.tup b)/\Nums H b l/\Gq 5 3 l/\l.length<=3/\n<=12/\
 ∀ (r:Addr) (a:Hp) (L:cZ),Same H a->Pl a r L->Aj L->Nz L->Gq 97 37 L->sr L=sr l ^ n->Q (.ref r) a
noncomputable def Y' (l:cZ):cZ:=l.map λq=>Af (q.1*(Ae l (l.length - 1)).2) (q.2*(Ae l (l.length - 1)).1)
def KS (_:W.Frag):Sp:=λb H Q _=>∃ (p:Addr) (a:d8) (l:cZ),b=[.ref p]/\H p=some (.tup a)/\Nums H a l/\Aj l/\Nz l/\(∀ q∈l,Bd 1000 q.1/\Bd 1000 q.2)/\l.length<=1000/\Ge H Q (Y' l)
section
variable (K:W.Frag)
set_option linter.unusedVariables false
def QC (_:W.Frag):TS:=
 (AH (Cw (As (A_ av (AB 1) (aM 0))) (AH (AM (A_ N8 (AB 0) (AB 1)) (AG 2))
  (AH (AM (AB 1) (AG 0))
  (AM (AB 2) (AG 1)))))
  (AZ (C' Ek (AC (AB 0) AD))))
def QD (_:W.Frag):TS:=
 (AH (AM (aM 1) (AG 2))
  (AH (AM (AB 0) (AG 3))
  (AH (Cw (As (A_ ae (AB 1) (aM 0))) (AH (BR (As (A_ Z' (A_ CP (AB 1) (aM 2)) (aM 1))) (C9 2 (AB 3) Am) BT)
  (AH (C9 1 (aM 2) HF)
  (BR (As (A_ ae (AB 1) (aM 0))) (C9 3 (AB 3) Am) BT))))
  (AZ (AB 2)))))
def Zz (_:W.Frag):TS:=
 (AH (AM (aM 2) (AG 1))
  (AH (Cw (As (A_ iLe (A_ Am (AB 1) (AB 1)) (AB 0))) (AH (BR (As (A_ Z' (A_ CP (AB 0) (AB 1)) (aM 0))) (AZ (tC (.bl false))) BT)
  (C9 1 (aM 1) BV)))
  (AZ (A_ ae (AB 0) (aM 1)))))
def Z0:TS:=
 (AH (AM (A_ BV (AB 0) (aM 1)) (AG 1))
  (AH (Cw (G5 (tB (bA (MD K) (AC (AB 1) AD)))) (C9 1 (aM 1) BV))
  (AZ (AB 1))))
def Z1:TS:=
 (AZ (au (As (A_ Z' (AB 0) (aM 170141183460469231731687303715884105727))) (aM 2147483647) (bA (ME K) (AC (AB 0) AD))))
def Z2:TS:=
 (AZ (C' OV (AC (A8 (EA K (AC (AB 0) (AC (AB 1) AD))) [none,none] (DR 2 (Bb (AG 0) (Bb (AG 1) DM))) (A_ Am (AB 0) (AB 1))) AD)))
def QE:TS:=
 (AH (AM (bA (FV K) (AC (LI (Fh (BU K (AB 0)) [none] (AG 0) (As (A_ av (AB 0) (aM 0))) (C' Ek (AC (AB 0) AD)))) (AC (AB 1) AD))) (AG 2))
  (AH (Ay (BU K (AB 0)) (AG 3) (AH (BR (As (A_ Z' (AB 2) (aM 1))) (AZ (aM 1)) BT)
  (AM (bA (FV K) (AC (AB 3) (AC (AB 2) AD))) (AG 2))))
  (AZ (AB 2))))
def QF (_:W.Frag):TS:=
 (AH (AM (C' BK (AC (AB 0) AD)) (AG 1))
  (AH (Cw (FC (As (A_ ae (AB 1) (aM 0))) (As (A_ Z' (A_ gL (AB 0) (A_ BE (AB 1) (aM 1))) (aM 0)))) (C9 1 (aM 1) BE))
  (AZ (ag sL (AB 0) Ei (Ej (AB 1))))))
def QG:TS:=
 (AZ (A8 (BU K (AB 0)) [none,some 1] (AG 0) (A_ Em (AB 0) (AB 1))))
def QH (_:W.Frag):TS:=
 (BR (As (A_ av (AB 6) (aM 0))) (Ay (DN (AC (AB 3) AD)) (AG 7) (Hy (AB 2) (A_ BV (AB 5) (AB 7)) (A_ Am (AB 6) (A_ gL (AB 1) (AB 7))) gL BE DQ)) BT)
def Z3:TS:=
 (AH (AM (AB 6) (Do (AB 4) (AB 5) DQ))
  (QH K))
def QJ:TS:=
 (AH (BR (As (A_ av (A_ Am (AB 6) (A_ gL (AB 1) (R_ CH (aM 1)))) (A_ gL (AB 2) (A_ BV (AB 5) (AB 3))))) (AZ (tC .non)) BT)
  (Z3 K))
def Z4:TS:=
 (AH (AM (A_ ES (A_ gL (AB 2) (A_ BV (AB 5) (AB 3))) (A_ gL (AB 1) (R_ CH (aM 1)))) (AG 6))
  (QJ K))
def Z5 (_:W.Frag):TS:=
 (AZ (au (tB (C' Jm (AC (ag sL (AB 2) Ei (Ej (AB 3))) AD))) (tC .non) (AB 4)))
def Z6:TS:=
 (AH (Ay (IJ (AC (A_ BE (A_ BE (C' BK (AC (AB 0) AD)) (AB 3)) (aM 1)) (AC (R_ CH (aM 1)) (AC (R_ CH (aM 1)) AD)))) (AG 5) (Z4 K))
  (Z5 K))
def QK:TS:=
 (AH (AM (A_ D7 (BG (AC (aM 0) AD)) (C' HG (AC (A_ BE (C' BK (AC (AB 0) AD)) (AB 3)) (AC (aM 0) AD)))) (AG 4))
  (Z6 K))
def Z7:TS:=
 (AH (AM (A_ BE (C' BK (AC (AB 1) AD)) (aM 1)) (AG 3))
  (QK K))
def Z8:TS:=
 (AH (AM (C' HK (AC (AB 0) AD)) (AG 2))
  (Z7 K))
def QL:TS:=
 (AH (AM (A8 (BU K (AB 0)) [none,some 1] (AG 0) (A_ Am (AB 1) (AB 0))) (AG 5))
  (AH (EL (ah K "list" K5 (AB 5) (AC (A_ D7 (BG (AC (aM 0) AD)) (A_ BE (A_ BV (C' BK (AC (AB 2) AD)) (AB 4)) (C' BK (AC (AB 0) AD)))) AD)))
  (AH (Ay (Fz K (AC (AB 2) AD)) (DR 2 (Bb (AG 6) (Bb (AG 7) DM))) (Hy (AB 5) (A_ BV (AB 6) (AB 4)) (A_ Am (AB 3) (AB 7)) gL BE DQ))
  (AZ (bA (HZ K) (AC (AB 5) AD))))))
def QM:TS:=
 (EL (ah K "list" D6 (AB 2) (AC (A_ K9 (AB 4) (A_ Am (AB 3) (A_ gL (AB 0) (tC (.int 0))))) AD)))
def QN:TS:=
 (AH (Ay (GN (AC (tC (.int 1)) (AC (A_ BV (C' Jb (AC (AB 3) (AC (A_ BE (C' BK (AC (AB 0) AD)) (tC (.int 1))) AD))) (tC (.int 1))) AD))) (AG 5) (C9 4 (A_ Am (A_ Am (A_ BE (A_ Am (A_ BV (AB 1) (tC (.int 1))) (AB 5)) (AB 3)) (A_ gL (AB 0) (AB 5))) (A_ gL (AB 2) (A_ BE (AB 3) (AB 5)))) BV))
  (QM K))
def QO:TS:=
 (AH (AM (tC (.int 0)) (AG 4))
  (QN K))
def QP (_:W.Frag):TS:=
 (AZ (AB 2))
def QQ:TS:=
 (AH (Ay (GN (AC (tC (.int 1)) (AC (A_ BV (A_ Am (AB 1) (A_ BE (C' BK (AC (AB 0) AD)) (tC (.int 1)))) (tC (.int 1))) AD))) (AG 3) (QO K))
  (QP K))
def QR:TS:=
 (AH (AM (BG (AC (AR (HY K) [] E0 (AC (A_ gL (AB 0) (tC (.int 0))) (AC (AB 1) AD))) AD)) (AG 2))
  (QQ K))
def Z9:TS:=
 (AM (A8 (EA K (AC (AB 0) (AC (AB 1) AD))) [none,none,some 6,some 7,some 2] (DR 2 (Bb (AG 0) (Bb (AG 1) DM))) (bA (IX K) (AC (AB 0) (AC (AB 2) (AC (AB 1) (AC (AB 3) (AC (AB 4) AD))))))) (AG 0))
def zA:TS:=
 (AH (AM (A_ ES (AB 3) (AB 5)) (AG 7))
  (Z9 K))
def zB:TS:=
 (AH (AM (A_ ES (AB 4) (AB 5)) (AG 6))
  (zA K))
def zC:TS:=
 (AH (AM (bA (FV K) (AC (AB 3) (AC (AB 4) AD))) (AG 5))
  (zB K))
def zD:TS:=
 (AH (AM (A_ gL (A_ gL (AB 1) (aM 0)) (R_ CH (aM 1))) (AG 4))
  (zC K))
def zE:TS:=
 (AH (AM (A_ gL (A_ gL (AB 0) (aM 0)) (R_ CH (aM 1))) (AG 3))
  (zD K))
def zG:TS:=
 (AH (AM (A_ BE (C' BK (AC (A_ gL (AB 0) (aM 0)) AD)) (C' BK (AC (A_ gL (AB 1) (aM 0)) AD))) (AG 2))
  (zE K))
def QS:TS:=
 (AZ (bA (IZ K) (AC (AB 0) AD)))
def QT:TS:=
 (AH (Cw (As (A_ bI (C' BK (AC (A_ gL (AB 0) (aM 0)) AD)) (C' BK (AC (A_ gL (AB 1) (aM 0)) AD)))) (zG K))
  (QS K))
def QU:TS:=
 (AH (AM (aM 0) (AG 1))
  (AH (Ay (BU K (AB 0)) (AG 2) (AM (bA (IV K) (AC (AB 2) (AC (AB 1) AD))) (AG 1)))
  (AZ (A8 (BU K (AB 0)) [none,some 1] (AG 0) (bA (IW K) (AC (AB 0) (AC (AB 1) AD)))))))
def QV:TS:=
 (AZ (A_ gL (bA (IZ K) (AC (BG (AC (AB 0) AD)) AD)) (aM 0)))
def QW:TS:=
 (AH (Cw (ER (A_ gL (AB 1) (aM 0))) (AH (BR (As (A_ Z' (C' BK (AC (A_ gL (AB 1) (aM 0)) AD)) (aM 1))) (AZ (AB 1)) BT)
  (AH (AM (bA (J8 K) (AC (AB 0) (AC (AB 1) AD))) (AG 2))
  (AH (AM (AB 1) (AG 0))
  (AM (AB 2) (AG 1))))))
  (AZ (AB 0)))
def QX (_:W.Frag):TS:=
 (AM (AB 7) (AG 5))
def QY:TS:=
 (AH (AM (AB 5) (AG 4))
  (QX K))
def QZ:TS:=
 (AH (AM (A_ BE (AB 4) (A_ Am (AB 6) (AB 5))) (AG 7))
  (QY K))
def Qa:TS:=
 (AH (AM (AB 7) (AG 3))
  (QZ K))
def Qb:TS:=
 (AH (AM (AB 3) (AG 2))
  (Qa K))
def Qc:TS:=
 (AH (AM (A_ BE (AB 2) (A_ Am (AB 6) (AB 3))) (AG 7))
  (Qb K))
def Qd:TS:=
 (AH (AM (A_ Em (AB 2) (AB 3)) (AG 6))
  (Qc K))
def Qe (_:W.Frag):TS:=
 (AZ (A_ CP (AB 4) (AB 1)))
def Qf:TS:=
 (AH (Cw (As (A_ av (AB 3) (aM 0))) (Qd K))
  (Qe K))
def Qg:TS:=
 (AH (AM (aM 1) (AG 5))
  (Qf K))
def Qh:TS:=
 (AH (AM (aM 0) (AG 4))
  (Qg K))
def Qi:TS:=
 (AH (AM (A_ CP (AB 0) (AB 1)) (AG 3))
  (Qh K))
def Qj:TS:=
 (AH (AM (AB 1) (AG 2))
  (Qi K))
def Qk:TS:=
 (AZ (A8 (BU K (AB 0)) [none,some 1] (AG 0) (A_ CP (AB 0) (AB 1))))
def Ql:TS:=
 (AZ (bA (HZ K) (AC (bA (Ic K) (AC (AB 0) (AC (AB 1) AD))) AD)))
def Qm:TS:=
 (AH (BR (G5 (ER (AB 0))) (AZ (BG AD)) BT)
  (AH (AM (bA (Ib K) (AC (A_ gL (AB 0) (R_ CH (aM 1))) (AC (AB 1) AD))) (AG 2))
  (AZ (A8 (BU K (AB 0)) [none,some 1,some 2] (AG 0) (A_ CP (A_ Am (AB 0) (AB 2)) (AB 1))))))
def Qn (_:W.Frag):TS:=
 (BR (As (A_ av (AB 7) (aM 0))) (Ay (DN (AC (AB 4) AD)) (AG 8) (Hy (AB 3) (A_ BV (AB 6) (AB 8)) (A_ Am (AB 7) (A_ gL (AB 1) (AB 8))) gL BE DQ)) BT)
def Qo:TS:=
 (AH (AM (AB 7) (Do (AB 5) (AB 6) DQ))
  (Qn K))
def zH:TS:=
 (AH (AM (A_ CP (A_ gL (AB 3) (A_ BV (AB 6) (AB 4))) (AB 2)) (AG 7))
  (Qo K))
def Qp:TS:=
 (AZ (BJ (AC (bA (HZ K) (AC (AB 5) AD)) (AC (bA (He K) (AC (ag sL (AB 3) Ei (Ej (AB 4))) (AC (AB 2) AD))) AD))))
def zJ:TS:=
 (AH (Ay (IJ (AC (A_ BE (A_ BE (C' BK (AC (AB 0) AD)) (AB 4)) (aM 1)) (AC (R_ CH (aM 1)) (AC (R_ CH (aM 1)) AD)))) (AG 6) (zH K))
  (Qp K))
def Qq:TS:=
 (AH (AM (A_ D7 (BG (AC (aM 0) AD)) (C' HG (AC (A_ BE (C' BK (AC (AB 0) AD)) (AB 4)) (AC (aM 0) AD)))) (AG 5))
  (zJ K))
def zK:TS:=
 (AH (AM (A_ BE (C' BK (AC (AB 1) AD)) (aM 1)) (AG 4))
  (Qq K))
def zL:TS:=
 (AH (AM (C' HK (AC (AB 0) AD)) (AG 3))
  (zK K))
def Qr:TS:=
 (AZ (A_ gT (bA (J9 K) (AC (AB 0) (AC (AB 1) (AC (AB 2) AD)))) (aM 1)))
def Qs:TS:=
 (AH (AM (bA (Hf K) (AC (bA (He K) (AC (AB 0) (AC (AB 2) AD))) (AC (AB 2) AD))) (AG 0))
  (AH (AM (bA (Hf K) (AC (bA (He K) (AC (AB 1) (AC (AB 2) AD))) (AC (AB 2) AD))) (AG 1))
  (AH (Cw (ER (AB 1)) (AH (AM (bA (KA K) (AC (AB 0) (AC (AB 1) (AC (AB 2) AD)))) (AG 3))
  (AH (AM (AB 1) (AG 0))
  (AM (bA (Hf K) (AC (AB 3) (AC (AB 2) AD))) (AG 1)))))
  (AZ (AB 0)))))
def Qt:TS:=
 (EL (ah K "list" D6 (AB 4) (AC (AB 5) AD)))
def Qu:TS:=
 (AH (AM (AB 9) (Do (AB 2) (AB 6) DQ))
  (Qt K))
def Qv:TS:=
 (AH (AM (A8 (BU K (AB 2)) [none,some 9,some 5,some 1] (AG 0) (bA (KK K) (AC (AB 0) (AC (AB 1) (AC (AB 2) (AC (AB 3) AD)))))) (AG 2))
  (Qu K))
def Qw:TS:=
 (AH (AM (A8 (BU K (A_ gL (AB 2) (AB 6))) [none,some 1,some 8] (AG 0) (A_ CP (A_ Am (AB 0) (AB 2)) (AB 1))) (AG 9))
  (Qv K))
def Qx:TS:=
 (AH (AM (bA (Ib K) (AC (A_ gL (A_ gL (AB 2) (AB 6)) (AB 5)) (AC (AB 1) AD))) (AG 8))
  (Qw K))
def Qy:TS:=
 (AH (AM (bA (KJ K) (AC (AB 3) (AC (AB 6) (AC (A_ gL (AB 7) (aM 0)) AD)))) (AG 3))
  (Qx K))
def zM:TS:=
 (AH (AM (bA (KJ K) (AC (AB 2) (AC (AB 6) (AC (A_ gL (AB 7) (aM 0)) AD)))) (AG 2))
  (Qy K))
def Qz:TS:=
 (BR (ER (AB 7)) (zM K) BT)
def Q1:TS:=
 (AH (AM (Fh (GN (AC (AB 6) (AC (C' BK (AC (AB 2) AD)) AD))) [none,some 5,some 2] (AG 0) (As (A_ av (A_ gL (A_ gL (AB 2) (AB 0)) (AB 1)) (aM 0))) (AB 0)) (AG 7))
  (Qz K))
def Q2:TS:=
 (AH (AM (C' BK (AC (AB 4) AD)) (AG 6))
  (Q1 K))
def Q3 (_:W.Frag):TS:=
 (AZ (BJ (AC (ag sL (AB 2) Ei (Ej (C' BK (AC (AB 4) AD)))) (AC (ag sL (AB 3) Ei (Ej (C' BK (AC (AB 4) AD)))) (AC (AB 4) AD)))))
def Q4:TS:=
 (AH (Ay (DN (AC (au (ER (AB 0)) (C' BK (AC (A_ gL (AB 0) (aM 0)) AD)) (aM 0)) AD)) (AG 5) (Q2 K))
  (Q3 K))
def Q5:TS:=
 (AH (AM (BG AD) (AG 4))
  (Q4 K))
def Q6:TS:=
 (AH (AM (LN (AC (C' BK (AC (AB 0) AD)) AD)) (AG 3))
  (Q5 K))
def zO:TS:=
 (AH (AM (A8 (BU K (AB 0)) [none,some 1] (AG 0) (bA (Ic K) (AC (AB 0) (AC (AB 1) AD)))) (AG 2))
  (Q6 K))
def zP (_:W.Frag):TS:=
 (AH (AM (C' HK (AC (AB 0) AD)) (AG 3))
  (AH (AM (A_ gL (AB 0) (AB 2)) (Do (AB 3) (AB 1) DQ))
  (AH (AM (A_ gL (AB 0) (AB 1)) (Do (AB 3) (AB 2) DQ))
  (AZ (AB 3)))))
def zQ:TS:=
 (AH (AM (A_ gL (AB 0) (AB 2)) (AG 4))
  (AH (BR (As (A_ Z' (AB 4) (aM 0))) (AZ (AB 0)) BT)
  (AZ (A8 (EA K (AC (AB 0) (AC (AB 1) AD))) [none,none,some 3,some 4] (DR 2 (Bb (AG 0) (Bb (AG 1) DM))) (A_ CP (A_ BE (AB 0) (A_ Am (AB 3) (AB 1))) (AB 2))))))
def Q7 (_:W.Frag):TS:=
 (AH (AM (A_ CP (AB 0) (AB 1)) (AG 2))
  (AZ (au (As (A_ ae (A_ Am (aM 2) (AB 2)) (AB 1))) (A_ BE (AB 2) (AB 1)) (AB 2))))
def Q8:TS:=
 (AH (AM (bA (FV K) (AC (A_ gL (AB 0) (R_ CH (aM 1))) (AC (A_ gL (AB 1) (R_ CH (aM 1))) AD))) (AG 3))
  (AH (BR (As (A_ Z' (A_ CP (AB 3) (AB 2)) (aM 0))) (AZ (tC .non)) BT)
  (AH (AM (bA (KC K) (AC (AB 0) (AC (AB 1) (AC (AB 2) AD)))) (AG 4))
  (AH (AM (bA (Hb K) (AC (A8 (BU K (AB 4)) [none,some 2,some 3] (AG 0) (bA (Hg K) (AC (A_ Am (AB 2) (AB 0)) (AC (AB 1) AD)))) AD)) (AG 5))
  (AH (BR (a_ (As (A_ Jk (bA (IY K) (AC (AB 0) (AC (AB 5) AD))) (tC .non))) (As (A_ Jk (bA (IY K) (AC (AB 1) (AC (AB 5) AD))) (tC .non)))) (AZ (tC .non)) BT)
  (AZ (AB 5)))))))
def Q9:TS:=
 (AH (AM (bA (Hb K) (AC (AB 0) AD)) (AG 2))
  (AH (AM (bA (Hb K) (AC (AB 1) AD)) (AG 3))
  (AH (BR (FC (ER (AB 0)) (ER (AB 1))) (Ay (IA K (tC (.ref (Gi K)))) (AG 4) (AH (AM (bA (KD K) (AC (AB 2) (AC (AB 3) (AC (A_ BE (bA (HY K) (AC (aM 2) (AC (AB 4) AD))) (aM 1)) AD)))) (AG 5))
  (BR (As (A_ LH (AB 5) (tC .non))) (AZ (AB 5)) BT))) BT)
  (AZ (A_ gL (bA (Ia K) (AC (BG (AC (AB 2) AD)) (AC (BG (AC (AB 3) AD)) AD))) (aM 0))))))
def RA:TS:=
 (AH (AM (bA (FV K) (AC (AB 0) (AC (AB 1) AD))) (AG 2))
  (AH (BR (As (A_ bQ (AB 1) (aM 0))) (AM (R_ CH (AB 2)) (AG 2)) BT)
  (AZ (BJ (AC (A_ ES (AB 0) (AB 2)) (AC (A_ ES (AB 1) (AB 2)) AD))))))
def RD:TS:=
 (AZ (bA (GB K) (AC (A_ Am (A_ gT (AB 0) (aM 0)) (A_ gT (AB 1) (aM 1))) (AC (A_ Am (A_ gT (AB 0) (aM 1)) (A_ gT (AB 1) (aM 0))) AD))))
def RF (_:W.Frag):TS:=
 (AH (AM (C' BK (AC (AB 0) AD)) (AG 1))
  (AH (Cw (FC (As (A_ ae (AB 1) (aM 0))) (As (A_ Z' (A_ gT (A_ gL (AB 0) (A_ BE (AB 1) (aM 1))) (aM 0)) (aM 0)))) (C9 1 (aM 1) BE))
  (AZ (C' GU (AC (ag sL (AB 0) Ei (Ej (AB 1))) AD)))))
def RG (_:W.Frag):TS:=
 (AZ (A_ BE (C' Ca (AC (AB 0) AD)) (aM 1)))
def zR:TS:=
 (AH (AM (tC (.int 1)) (AG 1))
  (AH (Ay (IL K (AB 0)) (AG 2) (C9 1 (A_ Em (A_ gT (AB 2) (tC (.int 1))) (AR (FV K) [] E0 (AC (AB 1) (AC (A_ gT (AB 2) (tC (.int 1))) AD)))) Am))
  (AZ (BJ (AC (A8 (IL K (AB 0)) [none,some 1] (AG 0) (A_ Am (A_ gT (AB 0) (tC (.int 0))) (A_ Em (AB 1) (A_ gT (AB 0) (tC (.int 1)))))) (AC (AB 1) AD))))))
def RH:TS:=
 (AZ (bA (Hh K) (AC (A8 (BU K (AB 0)) [none,some 1] (AG 0) (bA (GB K) (AC (AB 0) (AC (AB 1) AD)))) AD)))
def zS (_:W.Frag):TS:=
 (C9 5 (AB 10) Em)
def zT:TS:=
 (AH (AM (bA (IW K) (AC (AB 4) (AC (AB 10) AD))) (AG 4))
  (zS K))
def RI:TS:=
 (AH (AM (bA (IV K) (AC (AB 4) (AC (AB 5) AD))) (AG 10))
  (zT K))
def zU:TS:=
 (AH (C9 5 (A_ ES (AB 6) (AB 9)) Am)
  (RI K))
def RJ:TS:=
 (AH (AM (bA (IX K) (AC (AB 4) (AC (A_ ES (AB 6) (AB 9)) (AC (A_ gT (AB 3) (aM 0)) (AC (A_ ES (A_ gL (AB 4) (R_ CH (aM 1))) (AB 9)) (AC (AB 8) AD)))))) (AG 4))
  (zU K))
def zV:TS:=
 (AH (AM (bA (FV K) (AC (A_ gL (AB 4) (R_ CH (aM 1))) (AC (AB 6) AD))) (AG 9))
  (RJ K))
def RK:TS:=
 (AH (AM (bA (GB K) (AC (A_ Am (A_ gL (AB 4) (R_ CH (aM 1))) (A_ gT (AB 3) (aM 1))) (AC (A_ Am (AB 5) (AB 6)) AD))) (Do (AB 7) (AB 8) DQ))
  (zV K))
def zX:TS:=
 (AH (AM (A_ BE (C' BK (AC (AB 4) AD)) (C' Ca (AC (AB 1) AD))) (AG 8))
  (RK K))
def RL:TS:=
 (AZ (BJ (AC (bA (Hh K) (AC (AB 7) AD)) (AC (bA (Hi K) (AC (AB 4) (AC (AB 5) AD))) AD))))
def zY:TS:=
 (AH (Cw (As (A_ bI (C' BK (AC (AB 4) AD)) (C' Ca (AC (AB 1) AD)))) (zX K))
  (RL K))
def zZ:TS:=
 (AH (AM (A_ D7 (BG (AC (BJ (AC (aM 0) (AC (aM 1) AD))) AD)) (C' HG (AC (A_ BV (A_ BE (C' Ca (AC (AB 0) AD)) (C' Ca (AC (AB 1) AD))) (aM 1)) (AC (aM 0) AD)))) (AG 7))
  (zY K))
def yA:TS:=
 (AH (AM (A_ gL (A_ gT (AB 3) (aM 0)) (R_ CH (aM 1))) (AG 6))
  (zZ K))
def yB:TS:=
 (AH (AM (A_ gT (AB 2) (aM 1)) (AG 5))
  (yA K))
def yC:TS:=
 (AH (AM (A_ gT (AB 2) (aM 0)) (AG 4))
  (yB K))
def yD:TS:=
 (AH (AM (bA (FW K) (AC (AB 1) AD)) (AG 3))
  (yC K))
def yE:TS:=
 (AH (AM (bA (FW K) (AC (AB 0) AD)) (AG 2))
  (yD K))
def RN:TS:=
 (AZ (C' GU (AC (A8 (IA K (AB 0)) [none,some 0] (AG 0) (bA (KG K) (AC (AB 0) (AC (A_ gT (AB 1) (R_ CH (aM 1))) AD)))) AD)))
def RP:TS:=
 (AH (AM (bA (KE K) (AC (A_ gT (bA (FW K) (AC (AB 0) AD)) (aM 0)) (AC (A_ gT (bA (FW K) (AC (AB 1) AD)) (aM 0)) AD))) (AG 2))
  (AZ (au (ER (AB 2)) (bA (Hi K) (AC (AB 2) (AC (A_ gL (AB 2) (R_ CH (aM 1))) AD))) (BJ AD))))
def RQ:TS:=
 (AH (AM (bA (FW K) (AC (AB 0) AD)) (AG 2))
  (AH (AM (aM 0) (AG 3))
  (AH (AM (aM 1) (AG 4))
  (AH (Ay (LG K (AC (A_ gT (AB 2) (aM 0)) AD)) (AG 5) (AH (AM (A_ BV (A_ Am (AB 3) (A_ gT (AB 1) (aM 0))) (A_ Am (AB 5) (AB 4))) (AG 3))
  (C9 4 (A_ gT (AB 1) (aM 1)) Am)))
  (AZ (bA (GB K) (AC (A_ Am (AB 3) (A_ gT (AB 1) (aM 1))) (AC (A_ Am (A_ gT (AB 2) (aM 1)) (AB 4)) AD))))))))
def RU:TS:=
 (AZ (bA (Hi K) (AC (A_ Fx (A_ D7 (BG (AC (aM 0) AD)) (A_ Am (AB 3) (AB 1))) (bA (KR K) (AC (ag sL (A_ gT (AB 2) (aM 0)) (Ej (AB 3)) Ei) (AC (AB 1) AD)))) (AC (bA (HY K) (AC (A_ gT (AB 2) (aM 1)) (AC (AB 1) AD))) AD))))
def MP:TS:=
 (AH (BR (As (A_ Z' (AB 3) (C' Ca (AC (AB 0) AD)))) (AZ (BJ AD)) BT)
  (RU K))
def RV:TS:=
 (AH (Cw (FC (As (A_ bQ (AB 3) (C' Ca (AC (AB 0) AD)))) (As (A_ Z' (A_ gL (A_ gT (AB 2) (aM 0)) (AB 3)) (aM 0)))) (C9 3 (aM 1) BV))
  (MP K))
def RW:TS:=
 (AH (AM (aM 0) (AG 3))
  (RV K))
def RX:TS:=
 (AH (AM (bA (FW K) (AC (AB 0) AD)) (AG 2))
  (RW K))
def RY:TS:=
 (AH (BR (As (A_ Z' (AB 1) (aM 0))) (AZ (BJ (AC (BJ (AC (aM 1) (AC (aM 1) AD))) AD))) BT)
  (RX K))
def MS:TS:=
 (AM (bA (Ii K) (AC (AB 3) (AC (AB 5) AD))) (AG 6))
def RZ:TS:=
 (AH (AM (G9 (B8 K) (Gk K) [] E0 (AC (AB 3) (AC (bA (MF K) (AC (Cg K (AB 5) "prime") AD)) AD))) (AG 5))
  (MS K))
def Ra:TS:=
 (AZ (BJ (AC (tC (.str "none")) (AC (bA (Ig K) (AC (AB 12) (AC (A_ gT (AB 11) (aM 1)) AD))) AD))))
def Rb:TS:=
 (AH (AM (A8 (EA K (AC (A_ gT (AB 11) (aM 0)) (AC (AB 2) AD))) [none,none] (DR 2 (Bb (AG 0) (Bb (AG 1) DM))) (A_ Am (AB 0) (A_ gT (AB 1) (aM 1)))) (AG 12))
  (Ra K))
def Rc:TS:=
 (AH (AM (bA (ML K) (AC (AB 3) (AC (AB 5) (AC (AB 9) AD)))) (AG 11))
  (Rb K))
def Re:TS:=
 (AZ (BJ (AC (tC (.str "told")) (AC (bA (Ig K) (AC (AB 8) (AC (A_ gT (AB 7) (aM 1)) AD))) (AC (C' GU (AC (AB 6) AD)) AD)))))
def Rf:TS:=
 (AH (Ay (Fz K (AC (AB 3) AD)) (DR 2 (Bb (AG 9) (Bb (AG 10) DM))) (BR (As (A_ av (bA (Gj K) (AC (AB 10) (AC (AB 8) AD))) (A_ Am (A_ gL (AB 4) (AB 9)) (A_ gT (AB 7) (aM 1))))) (Rc K) BT))
  (Re K))
def Rg:TS:=
 (AH (AM (bA (Hk K) (AC (Cg K (AB 5) "columns") (AC (A_ gT (AB 7) (aM 0)) (AC (bA (Id K) (AC (AB 3) AD)) AD)))) (AG 8))
  (Rf K))
def Rh:TS:=
 (AH (AM (bA (Ih K) (AC (Cg K (AB 5) "minor") (AC (Cg K (AB 5) "turned") (AC (bA (Ie K) (AC (AB 4) (AC (Cg K (AB 5) "lines") AD))) (AC (Cg K (AB 5) "prime") AD))))) (AG 7))
  (Rg K))
def Ri:TS:=
 (AH (Cw (As (A_ Jk (AB 6) (tC .non))) (RZ K))
  (Rh K))
def MT:TS:=
 (AH (AM (bA (Ii K) (AC (AB 3) (AC (AB 5) AD))) (AG 6))
  (Ri K))
def Rj:TS:=
 (AH (AM (G9 (B8 K) (Gk K) [] E0 (AC (AB 3) (AC (aM 170141183460469231731687303715884105727) AD))) (AG 5))
  (MT K))
def Rl:TS:=
 (AH (AM (A8 (BU K (AB 2)) [none] (AG 0) (A_ gL (A_ gT (AB 0) (aM 0)) (R_ CH (aM 1)))) (AG 4))
  (Rj K))
def Rm:TS:=
 (AH (AM (A8 (BU K (AB 2)) [none] (AG 0) (ag sL (A_ gT (AB 0) (aM 0)) Ei (Ej (R_ CH (aM 1))))) (AG 3))
  (Rl K))
def Ro:TS:=
 (AH (AM (A8 (EA K (AC (AB 0) (AC (AB 1) AD))) [none,none] (DR 2 (Bb (AG 0) (Bb (AG 1) DM))) (bA (FW K) (AC (A_ Fx (C' HK (AC (AB 0) AD)) (BG (AC (AB 1) AD))) AD))) (AG 2))
  (Rm K))
def Rp:TS:=
 (GO K (AB 0) (bA (MH K) (AC (Cg K (AB 0) "minor") (AC (AB 2) AD))) "turned")
def Rq:TS:=
 (AH (GO K (AB 0) (A8 (BU K (Cg K (AB 0) "lines")) [none,some 1,some 0] (AG 0) (bA (Ie K) (AC (A_ gL (AB 1) (AB 0)) (AC (Cg K (AB 2) "columns") AD)))) "minor")
  (Rp K))
def Rs:TS:=
 (AH (GO K (AB 0) (A_ gT (AB 3) (aM 2)) "columns")
  (Rq K))
def Ru:TS:=
 (AH (GO K (AB 0) (A_ gT (AB 3) (aM 1)) "lines")
  (Rs K))
def Rv:TS:=
 (AH (GO K (AB 0) (AB 2) "prime")
  (Ru K))
def yF:TS:=
 (AH (AM (bA (KL K) (AC (AB 1) (AC (AB 2) AD))) (AG 3))
  (Rv K))
def yG (_:W.Frag):TS:=
 (AZ (au (ER (AB 0)) (C' BK (AC (A_ gL (AB 0) (aM 0)) AD)) (aM 0)))
def yH:TS:=
 (AZ (A8 (BU K (AB 1)) [none,some 0] (AG 0) (A_ gL (AB 1) (AB 0))))
def yI:TS:=
 (AH (AM (A_ D7 (BG (AC (aM 0) AD)) (AB 2)) (AG 3))
  (AH (Ay (EA K (AC (AB 0) (AC (AB 1) AD))) (DR 2 (Bb (AG 4) (Bb (AG 5) DM))) (AM (AB 5) (Do (AB 3) (AB 4) DQ)))
  (AZ (AB 3))))
def yJ:TS:=
 (AZ (C' GU (AC (A8 (BU K (AB 0)) [none,some 1] (AG 0) (bA (GB K) (AC (AB 0) (AC (AB 1) AD)))) AD)))
def yK:TS:=
 (AZ (A8 (DN (AC (bA (Id K) (AC (AB 0) AD)) AD)) [none,some 0] (AG 0) (bA (MG K) (AC (AB 1) (AC (AB 0) AD)))))
def yL:TS:=
 (AZ (A8 (BU K (AB 0)) [none,some 1] (AG 0) (A_ gL (AB 0) (AB 1))))
def Rw:TS:=
 (AZ (A8 (BU K (A_ gT (bA (KL K) (AC (AB 3) (AC (AB 1) AD))) (aM 0))) [none,some 2] (AG 0) (ag sL (AB 0) (Ej (AB 1)) Ei)))
def Rx:TS:=
 (AH (AM (A8 (Fz K (AC (AB 0) AD)) [none,none,some 2] (DR 2 (Bb (AG 0) (Bb (AG 1) DM))) (A_ Fx (AB 1) (bA (Hk K) (AC (BG (AC (AB 0) AD)) (AC (BG (AC (aM 1) AD)) (AC (AB 2) AD)))))) (AG 3))
  (Rw K))
def yM:TS:=
 (AH (AM (C' BK (AC (AB 0) AD)) (AG 2))
  (Rx K))
def Ry:TS:=
 (EL (ah K "list" D6 (AB 3) (AC (bA (Ig K) (AC (AB 7) (AC (A_ gT (AB 6) (aM 1)) AD))) AD)))
def Rz:TS:=
 (AH (BR (tB (C' Jm (AC (A8 (BU K (AB 0)) [none,some 7] (AG 0) (bA (Gj K) (AC (AB 0) (AC (AB 1) AD)))) AD))) (AZ (tC .non)) BT)
  (Ry K))
def R1:TS:=
 (AH (AM (A_ gT (AB 6) (aM 1)) (Do (AB 7) (AB 4) DQ))
  (Rz K))
def R3:TS:=
 (AH (AM (bA (Hk K) (AC (Cg K (AB 1) "columns") (AC (A_ gT (AB 6) (aM 0)) (AC (AB 2) AD)))) (AG 7))
  (R1 K))
def R4:TS:=
 (AH (AM (bA (Ih K) (AC (Cg K (AB 1) "minor") (AC (Cg K (AB 1) "turned") (AC (AB 5) (AC (Cg K (AB 1) "prime") AD))))) (AG 6))
  (R3 K))
def R7:TS:=
 (AH (AM (A8 (BU K (Cg K (AB 1) "lines")) [none,some 4,some 0] (AG 0) (R_ CH (A_ gL (A_ gL (AB 2) (AB 0)) (AB 1)))) (AG 5))
  (R4 K))
def R8 (_:W.Frag):TS:=
 (AZ (AB 3))
def R9:TS:=
 (AH (Ay (DN (AC (AB 2) AD)) (AG 4) (BR (As (A_ (inD true) (AB 4) (Cg K (AB 1) "columns"))) (R7 K) BT))
  (R8 K))
def SC:TS:=
 (AH (AM (BG AD) (AG 3))
  (R9 K))
def yN:TS:=
 (AH (AM (bA (Id K) (AC (AB 0) AD)) (AG 2))
  (SC K))
def SE (_:W.Frag):TS:=
 (AZ (BJ (AC (AB 5) (AC (A_ gT (AB 4) (aM 1)) AD))))
def SF:TS:=
 (AH (AM (A_ gT (AB 4) (aM 1)) (Do (AB 5) (AB 2) DQ))
  (SE K))
def SG:TS:=
 (AH (AM (bA (Hk K) (AC (Cg K (AB 1) "lines") (AC (A8 (BU K (A_ gT (AB 4) (aM 0))) [none] (AG 0) (R_ CH (AB 0))) (AC (C' BK (AC (AB 0) AD)) AD)))) (AG 5))
  (SF K))
def SH:TS:=
 (AH (AM (bA (Ih K) (AC (bA (KM K) (AC (Cg K (AB 1) "minor") AD)) (AC (bA (KM K) (AC (Cg K (AB 1) "turned") AD)) (AC (AB 3) (AC (Cg K (AB 1) "prime") AD))))) (AG 4))
  (SG K))
def yO:TS:=
 (AH (AM (bA (Ie K) (AC (A_ gL (AB 0) (AB 2)) (AC (Cg K (AB 1) "columns") AD))) (AG 3))
  (SH K))
def SI (_:W.Frag):TS:=
 (C9 6 (AB 3) Am)
def SJ:TS:=
 (AH (AM (A8 (EA K (AC (AB 4) (AC (AB 0) AD))) [none,none,some 3,some 10] (DR 2 (Bb (AG 0) (Bb (AG 1) DM))) (A_ Em (A_ BE (AB 0) (bA (Gj K) (AC (AB 1) (AC (AB 3) AD)))) (AB 2))) (AG 4))
  (SI K))
def SK:TS:=
 (AH (AM (A8 (EA K (AC (AB 5) (AC (AB 10) AD))) [none,none,some 6] (DR 2 (Bb (AG 0) (Bb (AG 1) DM))) (A_ BV (AB 0) (A_ Am (AB 2) (AB 1)))) (AG 5))
  (SJ K))
def SL:TS:=
 (AH (AM (A8 (BU K (AB 1)) [none,some 3,some 9] (AG 0) (A_ CP (bA (Gj K) (AC (AB 0) (AC (AB 2) AD))) (AB 1))) (AG 10))
  (SK K))
def SM:TS:=
 (AH (AM (A8 (BU K (AB 4)) [none,some 3] (AG 0) (A_ CP (AB 0) (AB 1))) (AG 9))
  (SL K))
def SN (_:W.Frag):TS:=
 (C9 7 (aM 2) Am)
def MU:TS:=
 (AH (BR (FC (As (A_ LH (AB 11) (tC .non))) (tB (bA (MK K) (AC (AB 0) (AC (AB 11) (AC (AB 2) AD)))))) (AZ (AB 11)) BT)
  (SN K))
def SO:TS:=
 (AH (AM (bA (MJ K) (AC (AB 5) (AC (AB 6) AD))) (AG 11))
  (MU K))
def SQ:TS:=
 (AH (Ay (DN (AC (AB 7) AD)) (AG 8) (SM K))
  (SO K))
def SR:TS:=
 (Cw (tB (tC (.bl true))) (SQ K))
def SS:TS:=
 (AH (AM (aM 1) (AG 7))
  (SR K))
def SU:TS:=
 (AH (AM (aM 1) (AG 6))
  (SS K))
def SV:TS:=
 (AH (AM (A_ D7 (BG (AC (aM 0) AD)) (C' BK (AC (AB 2) AD))) (AG 5))
  (SU K))
def yP:TS:=
 (AH (AM (AB 2) (AG 4))
  (SV K))
def yQ:TS:=
 (AH (Ay (EA K (AC (AB 0) (AC (AB 2) AD))) (DR 2 (Bb (AG 3) (Bb (AG 4) DM))) (BR (As (A_ av (bA (Gj K) (AC (AB 3) (AC (A_ gT (AB 1) (aM 0)) AD))) (A_ Am (AB 4) (A_ gT (AB 1) (aM 1))))) (AZ (tC (.bl false))) BT))
  (AZ (tC (.bl true))))
def SW (_:W.Frag):TS:=
 (BR (As (A_ ae (AB 3) (AB 2))) (AZ (tC .non)) BT)
def SX:TS:=
 (AH (C9 3 (bA (MI K) (AC (A_ CP (A_ Am (AB 4) (AB 3)) (AB 1)) (AC (AB 1) (AC (AB 2) AD)))) Am)
  (SW K))
def SY:TS:=
 (AZ (BJ (AC (A8 (BU K (AB 0)) [none,some 1,some 3] (AG 0) (bA (Hg K) (AC (A_ Am (AB 0) (AB 2)) (AC (AB 1) AD)))) (AC (AB 3) AD))))
def SZ:TS:=
 (AH (Ay (BU K (AB 0)) (AG 4) (BR (As (A_ ae (C' Ek (AC (bA (Hg K) (AC (A_ Am (AB 4) (AB 3)) (AC (AB 1) AD))) AD)) (AB 2))) (SX K) BT))
  (SY K))
def Sa:TS:=
 (AH (AM (aM 1) (AG 3))
  (SZ K))
def yR:TS:=
 (AH (AM (A_ OX (aM 1) (A_ Em (A_ BE (K4 K "int" OY (AB 1)) (aM 2)) (aM 2))) (AG 2))
  (Sa K))
def Sb (_:W.Frag):TS:=
 (AM (AB 9) (AG 6))
def Sc:TS:=
 (AH (AM (AB 6) (AG 5))
  (Sb K))
def Sd:TS:=
 (AH (AM (A_ BV (AB 5) (A_ Am (AB 7) (AB 6))) (AG 9))
  (Sc K))
def Se:TS:=
 (AH (AM (AB 8) (AG 4))
  (Sd K))
def Sf:TS:=
 (AH (AM (AB 4) (AG 3))
  (Se K))
def Sg:TS:=
 (AH (AM (A_ BE (AB 3) (A_ Am (AB 7) (AB 4))) (AG 8))
  (Sf K))
def Si:TS:=
 (AH (AM (A_ Em (AB 3) (AB 4)) (AG 7))
  (Sg K))
def Sj (_:W.Frag):TS:=
 (AZ (AB 6))
def Sk:TS:=
 (AH (Cw (As (A_ ae (AB 4) (AB 2))) (Si K))
  (Sj K))
def Sl:TS:=
 (AH (AM (aM 1) (AG 6))
  (Sk K))
def Sm:TS:=
 (AH (AM (aM 0) (AG 5))
  (Sl K))
def So:TS:=
 (AH (AM (AB 0) (AG 4))
  (Sm K))
def yS:TS:=
 (AH (AM (AB 1) (AG 3))
  (So K))
def yT:TS:=
 (AH (AM (aM 0) (AG 2))
  (AH (BR (As (A_ bQ (AB 1) (C' (HH K) (AC (AB 0) AD)))) (AM (A_ (gS K) (AB 0) (AB 1)) (AG 2)) BT)
  (AH (AM (JQ (A_ ae (C' (HH K) (AC (AB 0) AD)) (aM 0)) (A_ Z' (A_ CP (A_ (gS K) (AB 0) (aM 0)) (aM 2)) (aM 0))) (AG 3))
  (AZ (BG (AC (A_ Am (C' Ek (AC (AB 2) AD)) (C' IE (AC (AB 3) AD))) (AC (C' Ek (AC (AB 2) AD)) (AC (A_ Am (aM 7) (AB 1)) AD))))))))
def Sq (_:W.Frag):TS:=
 (AZ (AB 2))
def Ss:TS:=
 (AH (AM (A_ Em (A_ gL (AB 0) (aM 0)) (AB 1)) (Do (AB 0) (aM 0) DQ))
  (Sq K))
def Su:TS:=
 (AH (AM (A_ CP (A_ gL (AB 0) (aM 0)) (AB 1)) (AG 2))
  (Ss K))
def Sv (_:W.Frag):TS:=
 (AZ (A_ CP (A_ BV (A_ HF (A_ Am (AB 3) (AB 3)) (aM 97)) (A_ HF (AB 3) (aM 31))) (AB 1)))
def Sw:TS:=
 (AH (AM (A_ CP (A_ Am (AB 3) (A_ BV (A_ BV (A_ CP (AB 3) (aM 1000003)) (A_ Am (A_ gL (AB 0) (aM 2)) (aM 69621))) (aM 11))) (aM 2305843009213693907)) (AG 3))
  (Sv K))
def Sx:TS:=
 (AH (AM (A_ CP (A_ Am (AB 3) (A_ BV (aM 48271) (A_ Am (A_ gL (AB 0) (aM 2)) (A_ gL (AB 0) (aM 2))))) (aM 2305843009213693921)) (AG 3))
  (Sw K))
def Sy:TS:=
 (AH (AM (A_ BV (A_ CP (A_ gL (AB 0) (aM 1)) (aM 2305843009213693951)) (aM 3)) (AG 3))
  (Sx K))
def Sz:TS:=
 (AH (AM (A_ BV (A_ gL (AB 0) (aM 2)) (aM 1)) (Do (AB 0) (aM 2) DQ))
  (Sy K))
def yU:TS:=
 (AH (BR (As (A_ ae (A_ gL (AB 0) (aM 0)) (aM 0))) (Su K) BT)
  (Sz K))
def yV (_:W.Frag):TS:=
 (AH (Fw 2 3 (AC (C' Ek (AC (AB 0) AD)) (AC (AB 1) AD)))
  (AH (Cw (As (A_ ae (AB 3) (aM 0))) (Fw 2 3 (AC (AB 3) (AC (A_ CP (AB 2) (AB 3)) AD))))
  (AZ (BJ (AC (A_ ES (AB 0) (AB 2)) (AC (A_ ES (AB 1) (AB 2)) AD))))))
def yW:TS:=
 (AZ (bA (Ik K) (AC (A_ BV (A_ Am (A_ gT (AB 0) (aM 0)) (A_ gT (AB 1) (aM 1))) (A_ Am (A_ gT (AB 1) (aM 0)) (A_ gT (AB 0) (aM 1)))) (AC (A_ Am (A_ gT (AB 0) (aM 1)) (A_ gT (AB 1) (aM 1))) AD))))
def yX:TS:=
 (AZ (bA (Ik K) (AC (A_ Am (A_ gT (AB 0) (aM 0)) (A_ gT (AB 1) (aM 0))) (AC (A_ Am (A_ gT (AB 0) (aM 1)) (A_ gT (AB 1) (aM 1))) AD))))
def S6 (_:W.Frag):TS:=
 (AH (AM (C' BK (AC (AB 0) AD)) (AG 1))
  (AH (Cw (FC (As (A_ ae (AB 1) (aM 0))) (As (A_ Z' (A_ gT (A_ gL (AB 0) (A_ BE (AB 1) (aM 1))) (aM 0)) (aM 0)))) (AM (A_ BE (AB 1) (aM 1)) (AG 1)))
  (AZ (C' GU (AC (ag sL (AB 0) Ei (Ej (AB 1))) AD)))))
def S7:TS:=
 (AZ (bA (Il K) (AC (AB 2) AD)))
def S8:TS:=
 (AH (BR (As (A_ eqD (bA (Il K) (AC (AB 2) AD)) (BJ AD))) (AZ (BJ (AC (BJ (AC (aM 2) (AC (aM 3) AD))) AD))) BT)
  (S7 K))
def S9:TS:=
 (AH (Ay (DN (AC (bA (Ij K) (AC (AB 0) (AC (A_ BV (AB 1) (aM 2)) AD))) AD)) (AG 3) (EL (ah K "list" D6 (AB 2) (AC (bA (Ik K) (AC (A_ BE (bA (Ij K) (AC (AB 0) (AC (aM 9) AD))) (aM 4)) (AC (A_ BV (aM 1) (bA (Ij K) (AC (AB 0) (AC (aM 3) AD)))) AD))) AD))))
  (S8 K))
def yY:TS:=
 (AH (AM (BG AD) (AG 2))
  (S9 K))
def yZ:TS:=
 (AH (AM (A_ D7 (BG (AC (BJ (AC (aM 0) (AC (aM 1) AD))) AD)) (A_ BV (C' Ca (AC (AB 0) AD)) (C' Ca (AC (AB 1) AD)))) (AG 2))
  (AH (Ay (Jg K (AC (AB 0) AD)) (DR 2 (Bb (AG 3) (Bb (AG 4) DM))) (Ay (Jg K (AC (AB 1) AD)) (DR 2 (Bb (AG 5) (Bb (AG 6) DM))) (AM (bA (QB K) (AC (A_ gL (AB 2) (A_ BV (AB 3) (AB 5))) (AC (bA (MM K) (AC (AB 4) (AC (AB 6) AD))) AD))) (Do (AB 2) (A_ BV (AB 3) (AB 5)) DQ))))
  (AZ (bA (Il K) (AC (AB 2) AD)))))
def TC:TS:=
 (EL (ah K "list" D6 (AB 2) (AC (AB 4) AD)))
def TD:TS:=
 (AH (Ay (DN (AC (A_ BE (C' Ca (AC (AB 0) AD)) (aM 1)) AD)) (AG 5) (EL (ah K "list" D6 (AB 4) (AC (au (As (A_ bI (AB 3) (AB 5))) (A_ gL (A_ Fx (C' IH (AC (AB 1) AD)) (A_ D7 (BG (AC (BJ (AC (aM 0) (AC (aM 1) AD))) AD)) (C' Ca (AC (AB 0) AD)))) (A_ BE (AB 3) (AB 5))) (BJ (AC (aM 0) (AC (aM 1) AD)))) AD))))
  (TC K))
def TF:TS:=
 (AH (Ay (DN (AC (A_ BE (C' Ca (AC (AB 1) AD)) (aM 1)) AD)) (AG 5) (EL (ah K "list" D6 (AB 4) (AC (au (As (A_ bI (AB 3) (AB 5))) (A_ gL (A_ Fx (C' IH (AC (AB 0) AD)) (A_ D7 (BG (AC (BJ (AC (aM 0) (AC (aM 1) AD))) AD)) (C' Ca (AC (AB 1) AD)))) (A_ BE (AB 3) (AB 5))) (BJ (AC (aM 0) (AC (aM 1) AD)))) AD))))
  (TD K))
def TH:TS:=
 (AH (AM (BG AD) (AG 4))
  (TF K))
def TJ:TS:=
 (AZ (C' Ca (AC (A_ gT (bA (KO K) (AC (AB 2) (AC (A_ D7 (BG (AC (BJ (AC (aM 0) (AC (aM 1) AD))) AD)) (C' BK (AC (AB 2) AD))) AD))) (aM 2)) AD)))
def TK:TS:=
 (AH (BR (As (A_ eqD (AB 2) (BG AD))) (AZ (aM 0)) BT)
  (TJ K))
def TL:TS:=
 (AH (Ay (DN (AC (A_ BE (A_ BV (C' Ca (AC (AB 0) AD)) (C' Ca (AC (AB 1) AD))) (aM 2)) AD)) (AG 3) (TH K))
  (TK K))
def xA:TS:=
 (AH (AM (BG AD) (AG 2))
  (TL K))
def xB:TS:=
 (EL (ah K "list" D6 (AB 1) (AC (AB 3) AD)))
def TM:TS:=
 (AH (Cw (As (A_ bQ (C' BK (AC (AB 3) AD)) (C' Ca (AC (AB 0) AD)))) (EL (ah K "list" D6 (AB 3) (AC (bA (MM K) (AC (A_ gL (AB 3) (R_ CH (aM 1))) (AC (BJ (AC (A_ BE (AB 2) (aM 1)) (AC (aM 1) AD))) AD))) AD))))
  (xB K))
def TN:TS:=
 (AH (AM (BG (AC (BJ (AC (aM 1) (AC (aM 1) AD))) AD)) (AG 3))
  (TM K))
def TQ:TS:=
 (AZ (A_ Oe (bA (KO K) (AC (AB 1) (AC (A8 (DN (AC (C' Ca (AC (AB 0) AD)) AD)) [none,some 0] (AG 0) (bA (KH K) (AC (AB 1) (AC (BJ (AC (A_ BE (AB 0) (aM 1)) (AC (aM 1) AD))) AD)))) AD))) (BJ (AC (tC (.str "told")) (AC (AB 0) (AC (BJ AD) AD))))))
def TR:TS:=
 (AH (Ay (DN (AC (C' Ca (AC (AB 0) AD)) AD)) (AG 2) (TN K))
  (TQ K))
def xC:TS:=
 (AH (AM (BG AD) (AG 1))
  (TR K))
def TU:TS:=
 (BR (a_ (As (A_ neD (bA (Hj K) (AC (AB 7) (AC (AB 8) AD))) (bA (KS K) (AC (AB 8) AD)))) (As (A_ neD (bA (KF K) (AC (AB 7) (AC (AB 8) AD))) (BJ (AC (bA (Im K) (AC (AB 4) (AC (AB 4) AD))) (AC (BJ AD) AD)))))) (AZ (tC (.bl false))) BT)
def TV:TS:=
 (AH (Fw 7 8 (AC (bA (Ip K) (AC (AB 4) (AC (aM 12) AD))) (AC (bA (Ip K) (AC (AB 4) (AC (aM 10) AD))) AD)))
  (TU K))
def TW:TS:=
 (AH (BR (a_ (As (A_ av (bA (MN K) (AC (AB 5) (AC (AB 6) AD))) (bA (KI K) (AC (bA (Hj K) (AC (AB 5) (AC (AB 6) AD))) AD)))) (G5 (tB (bA (MO K) (AC (AB 5) AD))))) (AZ (tC (.bl false))) BT)
  (TV K))
def TX:TS:=
 (AH (AM (bA (Im K) (AC (bA (Io K) (AC (AB 3) (AC (aM 3) AD))) (AC (AB 4) AD))) (AG 6))
  (TW K))
def TY:TS:=
 (AH (AM (bA (Im K) (AC (bA (Io K) (AC (AB 2) (AC (aM 3) AD))) (AC (AB 4) AD))) (AG 5))
  (TX K))
def TZ:TS:=
 (AH (AM (bA (Io K) (AC (AB 2) (AC (aM 2) AD))) (AG 4))
  (TY K))
def Ta:TS:=
 (AH (AM (bA (KP K) (AC (AB 0) (AC (A_ BV (AB 1) (aM 1)) AD))) (AG 3))
  (TZ K))
def Tb:TS:=
 (AH (AM (bA (KP K) (AC (AB 0) (AC (AB 1) AD))) (AG 2))
  (Ta K))
def xD (_:W.Frag):TS:=
 (AZ (tC (.bl true)))
def xE:TS:=
 (AH (Ay (DN (AC (C' HG (AC (aM 1) (AC (C' Jb (AC (C' (HH K) (AC (AB 0) AD)) (AC (aM 8) AD))) AD))) AD)) (AG 1) (Tb K))
  (xD K))
end
variable {K:W.Frag} {vs:d8} {H:Hp} {Q:VK} {E:XK}
local macro_rules | `(tactic| rwa [$[$t:term],*]) => do
 let l : Array Lean.Term := (("AH AM AR AC AB AD AG Do L2.start BR au As L2.tB A_ Z_ rI L2.tC R_ rU BT AZ BJ BG Fw C9 EL C' Vh FC a_ G5 JQ VS VT Z' av DQ BV BE Am HF K9 CP N8 Xe bQ iLe ae bI CH gT gL gS Ek HG Jb IE Ca BK HH Xg Xh Xi Xj eqT Xk Xl Xm Xn List.map_cons List.map_nil List.length_cons List.length_nil List.replicate List.cons_append List.nil_append List.append_nil List.getElem?_cons_zero List.getElem?_cons_succ Option.some.injEq exists_eq_left' exists_eq_left V.int.injEq V.bl.injEq V.ref.injEq V.ty.injEq HO.tup.injEq HO.lst.injEq List.cons.injEq and_true true_and and_assoc exists_and_left List.set_cons_zero List.set_cons_succ decide_eq_true_eq decide_eq_false_iff_not Bool.not_eq_true' Bool.true_eq_false Bool.false_eq_true Bool.not_true Bool.not_false if_true if_false ite_true ite_false Xo Xp El Dd IF LA GR Xq Xr Nat.zero_add Nat.reduceAdd Nat.reduceSub upd_same Int.cast_ofNat_Int decide_true decide_false eq_self not_true_eq_false not_false_eq_true Int.natCast_add Int.natCast_zero reduceCtorEq Nm DR Bb DM Hy ag Ei Ej sL sT GU IH HK ER YH D7 Fx D6 K5 WL ah K4 Xz X1 X2 X3 X6 YR YQ X4 X5 YJ YK LI OS Jm Jk LH Em ES OR Jl Ch Option.bind_some Option.bind_none Option.bind Option.join id_eq sS Yd Yg FV HY HZ IV IW IX IY IZ Hb J8 Ia Ib Ic He Hf J9 KA KC Hg KD KE GB Hh Hi Hj KF KG KR Ip KH KI KS".splitOn " ").map λs => (⟨(Lean.mkIdent s.toName).raw⟩ : Lean.Term)).toArray
 `(tactic| simp only [$[$(l ++ t):term],*])
def Hl {a b:Int} (c:Bd 60000000 a) (d:Bd 60000000 b):IntMulOk a b:=Ye c d ∅
def KT {a b:Int} (c:-18446744073709551616<b) (d:b<18446744073709551616):IntMulOk a b:=IntMulOk.of_right (intBits_le_64 ⋯ ⋯)
def Tc {a b:Int} (c:-18446744073709551616<a) (d:a<18446744073709551616):IntMulOk a b:=IntMulOk.of_left (intBits_le_64 ⋯ ⋯)
def xF (h:FV K vs H Q E):QC K { nx:=λ_ d=>Q .non d,rt:=Q } (L2.start ["one","other","rest"] vs) H:=by
 obtain ⟨a,b,rfl,q⟩:=h;unfold QC;rwa [];refine DJ (λm f d=>∃ (x y:Int) (r:dc),f=[some (.int x),some (.int y),r]/\d=H/\Int.gcd x y=Int.gcd a b/\m=y.natAbs) b.natAbs ⟨a,b,none,rfl,rfl,rfl,rfl⟩ ?_;rintro m f d ⟨x,y,r,rfl,rfl,g,rfl⟩;rwa [];refine Ah (λc=>?_) (λc=>?_)
 ·refine ⟨λi j=>∃ k,k<y.natAbs/\_,λ_ _ h=>h,?_⟩;refine ⟨c,_,Xb x c,y,x.fmod y,_,rfl,rfl,?_,rfl⟩;rw [N7];exact g
 ·have n:y=0:=Decidable.not_not.mp c;subst n
  have e:(if x<0 then -x else x)=((Int.gcd a b:Nat):Int):=by
   rw [<-g,Int.gcd_zero_right];split <;> omega
  rw [e];exact q
def Td {ns:de} {k:Int} (b:0<=k) (h:k<(ns.length:Int)):∃ v:Int,M_ (ns.map V.int) k=some (.int v):=by
 have hk:k.toNat<ns.length:=by omega
 have a:k=((k.toNat:Nat):Int):=by omega
 have q:M_ (ns.map V.int) ((k.toNat:Nat):Int)=some (.int ns[k.toNat]):=DP (by rw [Aa,AT hk] <;> rfl);rw [<-a] at q;exact ⟨_,q⟩
def xG (h:HY K vs H Q E):QD K { nx:=λ_ f=>Q .non f,rt:=Q } (L2.start ["whole","n","result","square"] vs) H:=by
 obtain ⟨x,n,b,rfl,I,B,J,q⟩:=h;unfold QD;rwa []
 have p:∀ k:Nat,k<=n.toNat->Bd 60000000 (x ^ k):=λk hk=>(B.pow k).mono (by
  have:=EJ b hk;omega)
 refine DJ (λm A f=>∃ r s:Nat,A=[some (.int x),some (.int (m:Int)),some (.int (x ^ r)),some (.int (x ^ s))]/\f=H/\r+s*m=n.toNat) n.toNat ⟨0,1,?_,rfl,⋯⟩ ?_
 ·have e:((n.toNat:Nat):Int)=n:=by omega
  rw [e,Int.pow_zero,show x ^ 1=x by rw [Int.pow_succ,Int.pow_zero,Int.one_mul]]
 rintro m A f ⟨r,s,rfl,rfl,L⟩;rwa [];refine Ah (λc=>?_) (λc=>?_)
 ·have m1:1<=m:=by omega
  have M:s<=s*m:=Nat.le_mul_of_pos_right s m1;have C:Ja (m:Int) 2:=⟨∅,(Fe ∅ ∅).mono ∅⟩
  have i:s*m=(s+s)*(m / 2)+s*(m % 2):=by
   have e:m=2*(m / 2)+m % 2:=(Nat.div_add_mod m 2).symm;generalize m / 2=u at e ⊢;generalize m % 2=v at e ⊢;subst e;rw [Nat.mul_add];congr 1;rw [<-Nat.mul_assoc,DE s 2];congr 1;omega
  have D:((m:Int) / 2)=((m / 2:Nat):Int):=by omega
  rw [D];refine ⟨λF G=>∃ d,d<m/\_,λ_ _ h=>h,?_⟩
  have j:∀ g:Nat,g+(s+s)*(m / 2)=n.toNat->Ja (m:Int) 2/\if 0<((m / 2:Nat):Int) then IntMulOk (x ^ s) (x ^ s)/\∃ d,d<m/\∃ r a,[some (V.int x),some (V.int ((m / 2:Nat):Int)),some (V.int (x ^ g)),some (V.int (x ^ s*x ^ s))]=[some (V.int x),some (V.int (d:Int)),some (V.int (x ^ r)),some (V.int (x ^ a))]/\f=f/\r+a*d=n.toNat
    else ∃ d,d<m/\∃ r a,[some (V.int x),some (V.int ((m / 2:Nat):Int)),some (V.int (x ^ g)),some (V.int (x ^ s))]=[some (V.int x),some (V.int (d:Int)),some (V.int (x ^ r)),some (V.int (x ^ a))]/\f=f/\r+a*d=n.toNat:=λg o=>by
   refine ⟨C,Ah (λw=>?_) (λw=>?_)⟩
   ·exact ⟨Hl (p s ⋯) (p s ⋯),m / 2,⋯,g,s+s,by rw [Int.pow_add],rfl,o⟩
   ·have z:m / 2=0:=by omega
    rw [z] at o ⊢;exact ⟨0,⋯,g,s,rfl,rfl,⋯⟩
  refine ⟨∅,Ah (λw=>⟨Hl (p r ⋯) (p s ⋯),?_⟩) (λw=>?_)⟩
  ·rw [<-Int.pow_add];have y:m % 2=1:=by omega
   rw [y] at i;exact j (r+s) ⋯
  ·have y:m % 2=0:=by omega
   rw [y] at i;exact j r ⋯
 ·have z:m=0:=by omega
  subst z;have e:r=n.toNat:=by omega
  subst e;exact q
def KU {H:Hp} {Q:VK} {xs:d8} {l:cZ} {m:Nat} (a:Nums H xs l) (b:m<=l.length) (e:Ci l l.length=m) (q:Ge H Q (K' l)) :
  ∀ (p:Addr),H p=none->∀ (r:Addr),upd H p (.lst (CO xs none (some (m:Int)))) r=none->Q (V.ref r) (upd (upd H p (.lst (CO xs none (some (m:Int))))) r (.tup (CO xs none (some (m:Int))))):=λp hp r c=>by
 have s:=(AQ hp (.lst (CO xs none (some (m:Int))))).trans (AQ c (.tup (CO xs none (some (m:Int)))));refine q r _ _ s upd_same ?_;rw [IO (by rw [a.length];exact b)];rw [IO (by rw [a.length];exact b)] at s;unfold K';rw [e];exact (a.take m).tp (L' s)
def Te (l:cZ) (m:Nat):Ci l (m+1)=if (l.getD m (1,1)).1=0 then Ci l m else m+1:=rfl
def xH (h:Hh K vs H Q E):RF K { nx:=λ_ b=>Q .non b,rt:=Q } (L2.start ["row","many"] vs) H:=by
 obtain ⟨p,n,l,rfl,hp,d,A,q⟩:=h;unfold RF;rwa [hp];have o:=d.length;refine DJ (λm g b=>g=[some (.ref p),some (.int (m:Int))]/\b=H/\Ci l m=Ci l l.length/\m<=l.length) n.length ⟨rfl,rfl,by rw [o],⋯⟩ ?_;rintro m g b ⟨rfl,rfl,a,j⟩;rwa [hp];refine Ah (λc=>?_) (λc=>?_)
 ·obtain ⟨k,rfl⟩:∃ k,m=k+1:=⟨m - 1,⋯⟩;obtain ⟨v,r,u,rfl,e⟩:=d.at (i:=k) ⋯ (1,1);rw [Te] at a;refine ⟨_,DC ⋯ r,u,rfl,_,e,_,rfl,rfl,Ah (λf=>?_) (λf=>?_)⟩
  ·have z:(l.getD k (1,1)).1=0:=by injection f
   rw [nH z] at a;exact ⟨λw x=>∃ y,y<k+1/\_,λ_ _ h=>h,k,⋯,by rw [show ((k+1:Nat):Int) - 1=(k:Int) by omega],rfl,a,⋯⟩
  ·have z:(l.getD k (1,1)).1≠0:=λz=>f (by rw [z]);rw [nG z] at a;exact KU d j a.symm q
 ·have z:m=0:=by omega
  subst z;exact KU d j a.symm q
def xJ {l:cZ} {i:Nat} {q:Nu} (h:l[i]?=some q):(l.take (i+1)).foldl (λB q=>B*(q.2 / ((Int.gcd B q.2:Nat):Int))) 1=(l.take i).foldl (λB q=>B*(q.2 / ((Int.gcd B q.2:Nat):Int))) 1*(q.2 / ((Int.gcd ((l.take i).foldl (λB q=>B*(q.2 / ((Int.gcd B q.2:Nat):Int))) 1) q.2:Nat):Int)):=by
 rw [DY,h,List.foldl_append];rfl
def Ez {a b:Type} {l:List a} {i:Nat} {q:a} (f:a->b) (h:l[i]?=some q):(l.take (i+1)).map f=(l.take i).map f++[f q]:=by
 rw [DY,h,Cp];rfl
def EW (n:Nat) (f:dI):(A6 n f).length=n:=by unfold A6;rw [AK,AK,A4]
def EB {n k:Nat} (f:dI) (h:k<n):(A6 n f)[k]?=some (.int (f k)):=by
 unfold A6;rw [Aa,Aa,CV h];rfl
def Iq {n k:Nat} {f g:dI} {z:Int} (h:k<n) (b:g k=z) (c:∀ i,i<n->i≠k->g i=f i):(A6 n f).set k (.int z)=A6 n g:=by
 apply Fb;intro i;by_cases a:i<n
 ·by_cases e:i=k
  ·subst e;rw [List.getElem?_set_self (by rw [EW];exact a),EB g a,b]
  ·rw [List.getElem?_set_ne (λz=>e z.symm),EB f a,EB g a,c i a e]
 ·rw [Bp (by rw [Dk,EW];omega),Bp (by rw [EW];omega)]
def MV {n:Nat} {f g:dI} (h:∀ i,i<n->g i=f i):A6 n f=A6 n g:=by
 apply Fb;intro i;by_cases a:i<n
 ·rw [EB f a,EB g a,h i a]
 ·rw [Bp (by rw [EW];omega),Bp (by rw [EW];omega)]
def Tf (n:Nat):(List.replicate n [V.int 0]).flatten=A6 n λ_=>0:=by
 rw [FR];apply Fb;intro i;by_cases a:i<n
 ·rw [EB _ a,Dz,nH a]
 ·rw [Dz,nG a,Bp (by rw [EW];omega)]
def Gn {n k:Nat} {i:Int} (e:i=(k:Int)) (h:k<n):a8 n i=some k:=by
 subst e;unfold a8;rw [nH ⋯,nH ⋯];simp
def Pl.same {H H':Hp} {r:Addr} {L:cZ} (h:Pl H r L) (s:Same H H'):Pl H' r L:=let ⟨c,a,b⟩:=h;⟨c,s _ _ a,b.tp (L' s)⟩
def EX {m n:Nat} {x y:Int} (a:Bd m x) (b:Bd n y) (c:m<=60000000:=by decide) (d:n<=60000000:=by decide):IntMulOk x y:=Hl (a.mono c) (b.mono d)
def Ir (ns:de) (m:Nat):Di ns (m+1)=if ns.getD m 1=0 then Di ns m else m+1:=rfl
def xK (h:HZ K vs H Q E):QF K { nx:=λ_ d=>Q .non d,rt:=Q } (L2.start ["row","many"] vs) H:=by
 obtain ⟨p,a,rfl,hp,q⟩:=h;unfold QF;rwa [hp]
 have b:∀ m:Nat,m<=a.length->Di a m=Di a a.length->Di a m=m->∀ r,H r=none->Q (V.ref r) (upd H r (.lst (CO (a.map V.int) none (some (m:Int))))):=λm j n o r u=>by
  rw [IO (by rw [AK];exact j),<-List.map_take,<-o,n];exact q r u
 refine DJ (λm g d=>g=[some (.ref p),some (.int (m:Int))]/\d=H/\Di a m=Di a a.length/\m<=a.length) a.length ⟨by rw [AK],rfl,rfl,AV _⟩ ?_;rintro m g d ⟨rfl,rfl,e,i⟩;rwa [hp];refine Ah (λc=>?_) (λc=>?_)
 ·obtain ⟨k,rfl⟩:∃ k,m=k+1:=⟨m - 1,⋯⟩
  have v:(a.map V.int)[k]?=some (V.int (a.getD k 1)):=by
   rw [Aa,AT ⋯,AI,AT ⋯];rfl
  refine ⟨_,DC ⋯ v,rfl,Ah (λf=>?_) (λf=>?_)⟩
  ·have z:a.getD k 1=0:=by injection f
   rw [Ir,nH z] at e;exact ⟨λw x=>∃ y,y<k+1/\_,λ_ _ h=>h,k,⋯,by rw [show ((k+1:Nat):Int) - 1=(k:Int) by omega],rfl,e,⋯⟩
  ·have z:a.getD k 1≠0:=λz=>f (by rw [z]);exact b (k+1) i e (by rw [Ir,nG z])
 ·have z:m=0:=by omega
  subst z;exact b 0 i e rfl
theorem MW (ns:de):∀ m,Di ns m<=m
 | 0=>AV 0
 | m+1=>by
   rw [Ir];split
   ·exact Nat.le_succ_of_le (MW ns m)
   ·exact AV _
def MX {ns:de}:(DU ns).length=Di ns ns.length:=by
 unfold DU;rw [BQ,Nat.min_eq_left (MW ns ns.length)]
def Tg {ns:de} (k:Nat):(DU ns).getD k 0=ns.getD k 0:=by
 have g:∀ (m:Nat),m<=ns.length->(∀ j,m<=j->j<ns.length->ns.getD j 0=0)->∀ j,Di ns m<=j->j<ns.length->ns.getD j 0=0:=by
  intro m
  induction m with
  | zero=>intro _ h j i c;exact h j ⋯ c
  | succ m n=>
    intro o h j d f;rw [Ir] at d;split at d
    ·rename_i z;refine n ⋯ (λj i c=>?_) j d f;by_cases e:j=m
     ·subst e;rw [AI,AT c] at z ⊢;exact z
     ·exact h j ⋯ c
    ·exact h j d f
 by_cases d:k<Di ns ns.length
 ·unfold DU;rw [AI,AI,List.getElem?_take_of_lt d]
 ·have e:(DU ns).getD k 0=0:=by
   rw [AI,Bp (by rw [MX];omega)];rfl
  rw [e];by_cases f:k<ns.length
  ·exact (g ns.length (AV _) (λj a b=>absurd b ⋯) k ⋯ f).symm
  ·rw [AI,Bp ⋯];rfl
def MY {n:Nat} {z g:Int} (h:g∣z) (b:Bd n z):Bd n (z / g):=by
 by_cases a:z=0
 ·rw [a,Int.zero_ediv];exact Cj n
 ·exact Dr a (Int.ediv_dvd_of_dvd h) b
def Th {z g:Int} (a:g≠0) (h:g∣z):((z / g:Int):Rat)=(z:Rat) / (g:Rat):=by
 obtain ⟨y,rfl⟩:=h;rw [Ft _ a];have:=BH a;push_cast;ext
theorem Ti {ns:de} {g:Int} (h:∀ z∈ns,g∣z) (k:Nat):g∣ns.getD k 0:=by
 rw [AI];cases e:ns[k]? with
 | none=>exact DH g
 | some z=>exact h z (BC e)
def Iu {m:cZ} (b:Aj m) (f:Nz m) (h:1<=m.length):(AW m).getD (m.length - 1) 0≠0:=by
 rw [Jp,Oy];have a:m.length - 1<m.length:=by omega
 have q:=f m[m.length - 1] (by rw [GH];exact AT a);have e:Ae m (m.length - 1)=m[m.length - 1]:=by unfold Ae;rw [AI,AT a];rfl
 rw [e];refine CG q ?_;have o:=De b;have d:=o.2 m[m.length - 1] (CT a);obtain ⟨y,c⟩:=d;have g:=(b m[m.length - 1] (CT a)).pos;rw [c,Ft _ (Ab g)];intro z;rw [z,Ec] at c;have:=o.1;omega
def MZ {xs:d8} {v:V} (h:1<=xs.length) (e:xs[xs.length - 1]?=some v):M_ xs (-1)=some v:=by
 unfold M_ a8;rw [nG ∅,nH ⋯,show (-1+(xs.length:Int)).toNat=xs.length - 1 by omega];exact e
def xL (h:GB K vs H Q E):RA K { nx:=λ_ j=>Q .non j,rt:=Q } (L2.start ["top","bottom","shared"] vs) H:=by
 obtain ⟨a,b,rfl,d,q⟩:=h;unfold RA;rwa []
 have f:∀ s:Int,(s=if b<0 then -((Int.gcd a b:Nat):Int) else ((Int.gcd a b:Nat):Int))->Jl a s/\Jl b s/\2<=sizeLine/\∀ (p:Addr),H p=none->Q (V.ref p) (upd H p (.tup [.int (a.fdiv s),.int (b.fdiv s)])):=λs k=>by
  obtain ⟨g,n,i,m,o,r⟩:=K7 d k
  have e:Af a b=(a.fdiv s,b.fdiv s):=by
   refine HN (Fk d) i ?_;rw [Fl d,LW (q:=(a.fdiv s,b.fdiv s)) (Ab i.pos) d m]
  rw [e] at q;exact ⟨g,g,sz ∅,q⟩
 refine Ah (λc=>?_) (λc=>?_)
 ·exact f _ (by rw [nH c])
 ·exact f _ (by rw [nG c])
def bZ {K:W.Frag} {p:Addr} {xs:d8} {H:Hp} {Q:VK} {E:XK} (hp:H p=some (.tup xs)) (h:∃ l,Nums H xs l/\Aj l/\∃ M,Ov l M/\Bd 400000 M/\(∀ q∈l,Bd 60000000 q.1)/\l.length<=1000/\∀ (r a:Addr) (H':Hp),Same H H'->H' r=some (.tup [.ref a,.int (Ai l)])->H' a=some (.lst ((AW l).map V.int))->Q (.ref r) H'):FW K [.ref p] H Q E:=let ⟨l,a,b,M,c⟩:=h;⟨p,xs,l,M,rfl,.inl hp,a,b,c⟩
def xM (h:FW K vs H Q E):zR K { nx:=λ_ d=>Q .non d,rt:=Q } (L2.start ["P","bottom","number"] vs) H:=by
 obtain ⟨p,f,l,M,rfl,hp,w,k,j,A,J,hl,q⟩:=h;have D:=w.length;have L:=(De k).1;have N:=Dr (Ab j.1) (Lb k j) A;have F:∀ q∈l,Bd 400000 q.2:=λq m=>Dr (Ab j.1) (j.2 q m) A;refine Ag (F_ (Yp (xs:=f) hp rfl (λi n d=>∃ x,n=[some (.ref p),some (.int ((l.take i).foldl (λB q=>B*(q.2 / ((Int.gcd B q.2:Nat):Int))) 1)),x]/\d=H) ⟨none,rfl,rfl⟩ ?_ ?_ ?_))
 ·rintro i n d ⟨x,rfl,rfl⟩;rfl
 ·rintro i x n d o ⟨y,rfl,rfl⟩;obtain ⟨z,c,O,rfl,g⟩:=w.get o;have u:=k z (BC c);have G:=F z (BC c);obtain ⟨P,R⟩:=La (M:=M) (l.take i) 1 (λq m=>⟨(k q (Fs m)).pos,j.2 q (Fs m)⟩) ∅ (Int.one_dvd M);have S:=Dr (Ab j.1) R A;obtain ⟨s1,_,_,T,U,s6⟩:=LU P u.pos;rwa [g];refine ⟨U,EX S (G.le T),?_,_,rfl⟩;rw [xJ c]
 ·rintro n d ⟨x,rfl,rfl⟩;rw [D,CA];refine BY (DT (Yq (xs:=f) hp rfl (λi v b=>i<=f.length/\v=((AW l).take i).map V.int/\b=d) ⟨AY _,rfl,rfl⟩ ?_ ?_ ?_))
  ·rintro i v b ⟨I,rfl,rfl⟩;refine ⟨I,sz ?_,rfl⟩;rw [AK,BQ];omega
  ·rintro i x v b o ⟨I,rfl,rfl⟩;obtain ⟨z,c,O,rfl,g⟩:=w.get o;have u:=k z (BC c);have G:=F z (BC c);have W:=J z (BC c);have X:i<f.length:=(BF.mp o).1;rwa [g];have Y:l.foldl (λB q=>B*(q.2 / ((Int.gcd B q.2:Nat):Int))) 1=Ai l:=rfl;rw [Y];have Z:(AW l)[i]?=some (z.1*(Ai l / z.2)):=by unfold AW;rw [Aa,c];rfl
   refine ⟨u.pos,EX W (N.le (On L u.pos)),⋯,?_⟩;rw [Ez V.int Z]
  ·rintro v b ⟨_,rfl,rfl⟩ a ha;refine AF rfl ⟨Cn,λr C=>?_⟩
   have e:(AW l).take f.length=AW l:=by
    rw [D,show l.length=(AW l).length by unfold AW;rw [AK],CA]
   rw [e] at C ⊢;have s:=(AQ ha (.lst ((AW l).map V.int))).trans (AQ C (.tup [.ref a,.int (Ai l)]));exact q r a _ s upd_same (AQ C _ _ _ upd_same)
def xN (h:Hi K vs H Q E):RH K { nx:=λ_ b=>Q .non b,rt:=Q } (L2.start ["row","bottom"] vs) H:=by
 obtain ⟨p,d,B,rfl,hp,v,w,q⟩:=h;unfold RH;rwa [hp];refine ⟨⟨_,SqL.of hp⟩,CompJ.lst (xs:=d.map V.int) (λi f b=>i<=d.length/\Same H b/\Nums b f ((d.take i).map λn=>Af n B)) ⟨AY _,Same.refl H,trivial⟩ ?_ ?_ ?_⟩
 ·rintro i f b ⟨o,g,c⟩;refine ⟨by rw [AK];exact o,sz ?_,SqL.of (g _ _ hp)⟩;rw [c.length,AK,BQ];omega
 ·rintro i x f b j ⟨o,g,c⟩;rw [Aa] at j;cases e:d[i]? with
  | none=>rw [e] at j;cases j
  | some n=>
    rw [e] at j;obtain rfl:V.int n=x:=nR j;have y:i<d.length:=(BF.mp e).1;rwa [];refine ⟨v,λr k=>⟨⋯,g.trans (AQ k _),?_⟩⟩;rw [Ez _ e];exact (c.tp (L' (AQ k _))).append (Nums.one IN)
 ·rintro f b ⟨_,g,c⟩ a z;rw [AK,CA] at c;have u:=AQ z (.lst f);rwa [];refine ⟨_,c.tp (L' u),by rw [AK];exact w,λr A m C k D=>q r A m ((g.trans u).trans C) k D⟩
def Ma {b:Nat} {l:cZ} {M:Int} (d:Aj l) (h:Ov l M) (e:∀ z∈L_ l M,Bd b z):∀ q∈l,Bd b q.1:=λq a=>by
 refine (e (q.1*(M / q.2)) (Ap.mpr ⟨q,a,rfl⟩)).le ?_;rw [Bv];obtain ⟨y,c⟩:=h.2 q a;have f:=(d q a).pos;have i:=h.1;have:M / q.2=y:=by rw [c,Ft _ (Ab f)]
 rw [this];refine Nat.le_mul_of_pos_right _ ?_;rcases Er y.natAbs with z | z
 ·have g:y=0:=by omega
  rw [g] at c;omega
 ·exact z
def KW {g f:de} (b:Lz g) (lf:Lz f) (o:MQ (co g) (co f)):g.length<=f.length:=by
 obtain ⟨c,p,A,d⟩:=o;rcases Br f.length g.length with y | y
 ·exfalso;rcases FQ A with z | ⟨B,h,_,q⟩
  ·have:c*co f (f.length - 1)=0:=by rw [d,CJ,F5 g z]
   rcases Eb.mp this with e | e
   ·exact p e
   ·exact lf.2 e
  ·have r:∀ k,c*co f k=cvL B (co g) k:=λk=>by rw [d,CJ,BN (λj=>(q j).symm) g k,<-CJ]
   have u:=h.1;have F:=b.1;have m:B≠[]:=Ce.mp u;obtain ⟨X,t,a⟩:∃ X t,B=X++[t]:=⟨B.dropLast,B.getLast m,(G3 m).symm⟩;have v:X.length=B.length - 1:=by rw [a];simp
   have w:co B (B.length - 1)=t:=by rw [<-v,a];unfold co;simp [AI]
   have e:=r (B.length - 1+(g.length - 1));rw [Aq ⋯,a,EV,<-a,FP (n:=g.length) (λi C=>Aq C) X _ ⋯] at e;unfold A5 at e;rw [nH ⋯,show B.length - 1+(g.length - 1) - X.length=g.length - 1 by omega] at e;have D:t*co g (g.length - 1)=0:=by omega
   rcases Eb.mp D with x | x
   ·exact h.2 (w.trans x)
   ·exact b.2 x
 ·exact y
theorem Mb {g:dI} {h q:Nat} (c:∀ k,(g k).natAbs<=h):∀ (a:de),(∀ z∈a,z.natAbs<=q)->∀ k,(cvL a g k).natAbs<=a.length*(q*h)
 | [],_,k=>by show (0:Int).natAbs<=_;simp
 | x::a,b,0=>by
   rw [Az];have d:(x*g 0).natAbs<=q*h:=by rw [Bv];exact Dl (b x (DK ..)) (c 0)
   have:(x::a).length*(q*h)=a.length*(q*h)+q*h:=by rw [Cd,Nat.add_mul,Nat.one_mul]
   omega
 | x::a,b,k+1=>by
   rw [Ar];have d:(x*g (k+1)).natAbs<=q*h:=by rw [Bv];exact Dl (b x (DK ..)) (c (k+1))
   have f:=Mb c a (λz e=>b z (DW _ e)) k;have:(x::a).length*(q*h)=a.length*(q*h)+q*h:=by rw [Cd,Nat.add_mul,Nat.one_mul]
   omega
def xO {A B u v:de} (i:Lz A) (c:Lz B) (q:QI (co A) (co B) A3) (g:u.length<B.length) (j:v.length<A.length) (h:∀ k,cvL u (co A) k+cvL v (co B) k=0):(∀ k,co u k=0)/\∀ k,co v k=0:=by
 obtain ⟨d,m,U,V,b⟩:=q
 have a:∀ {A B u v U V:de},Lz B->(∀ k,d*A3 k=cvL U (co A) k+cvL V (co B) k)->u.length<B.length->(∀ k,cvL u (co A) k+cvL v (co B) k=0)->∀ k,co u k=0:=λ{A B u v U V} c b g h=>by
  rcases FQ u with z | ⟨f,n,r,o⟩
  ·exact z
  ·exfalso
   have p:MQ (co B) (co f):=by
    refine ⟨d,m,BI (CC V u) ((CC U v).map ((-1)*·)),λk=>?_⟩;rw [CB,BX,Ck,Ck,o k,DS u k,<-Ds,BN b,GY,HQ (co A) u U,HQ (co B) u V]
    have e:cvL U (cvL u (co A)) k = - cvL U (cvL v (co B)) k:=by
     have:cvL U (cvL u (co A)) k+cvL U (cvL v (co B)) k=0:=by rw [<-GY];exact F5 U h k
     omega
    rw [e];omega
   have:=KW c n p;omega
 exact ⟨a c b g h,a (A:=B) (B:=A) (u:=v) (v:=u) (U:=V) (V:=U) i (λk=>by rw [b k];omega) j (λk=>by have:=h k;omega)⟩
def Fr {a b:Int} (h:a=b):a∣b:=by rw [h];exact Int.dvd_refl b
theorem b_ {p:Int} {f g:dI} {S:de} (h:∀ k,p∣f k - cvL S g k):∀ (a:de) (k:Nat),p∣cvL a f k - cvL a (cvL S g) k
 | [],k=>by show p∣(0:Int) - 0;simp
 | x::a,0=>by
   rw [Az,Az];have:=Bw (h 0) (Int.dvd_mul_left x _);rw [Int.mul_sub] at this;refine Bw this (Fr ?_);omega
 | x::a,k+1=>by
   rw [Ar,Ar];have b:=Bw (h (k+1)) (Int.dvd_mul_left x _);have c:=b_ h a k;rw [Int.mul_sub] at b;have:=DF b c;refine Bw this (Fr ?_);omega
theorem Tj:∀ (a b:de),(BI a b).length=max a.length b.length
 | [],b=>by show b.length=max 0 b.length;omega
 | a,[]=>by rw [Lf];show a.length=max a.length 0;omega
 | x::a,y::b=>by
   show (BI a b).length+1=max (a.length+1) (b.length+1);rw [Tj a b];omega
def Tk {a b:de} (c:a.length=b.length) (h:∀ k,co a k=co b k):a=b:=by
 refine List.ext_getElem c λi d e=>?_;have:=h i;unfold co at this;rwa [AI,AI,AT d,AT e] at this
def cD {A B G:de} {p b:Nat} (hp:Pr p) (lA:Lz A) (lB:Lz B) (q:QI (co A) (co B) A3) (hA:∀ k,Bd b (co A k)) (hB:∀ k,Bd b (co B k)) (n1:2<=A.length) (m1:2<=B.length) (g2:2<=G.length) (g1:¬ (p:Int)∣co G (G.length - 1)) (dA:Dm (p:Int) (co G) (co A)) (dB:Dm (p:Int) (co G) (co B))
  (j:(2*((A.length+B.length)*2 ^ b)) ^ (A.length+B.length - 2)<p):False:=by
 have p2:=hp.two;have R:0<p:=by omega
 generalize hn:A.length - 1=n at *;generalize hm:B.length - 1=m at *;generalize hE:(A.length+B.length)*2 ^ b=E at *;have N1:A.length+B.length - 2=n+m:=by omega
 rw [N1] at j;have X:∀ k,(co A k).natAbs<=2 ^ b:=λk=>Dx (hA k);have Y:∀ k,(co B k).natAbs<=2 ^ b:=λk=>Dx (hB k);have E0:0<E:=by rw [<-hE];exact Nat.mul_pos ⋯ (D1 ∅)
 obtain ⟨u,S⟩:∃ u:Nat->de,∀ t,u t=(P_ p (m+n) t).take m:=⟨_,λ_=>rfl⟩;obtain ⟨v,T⟩:∃ v:Nat->de,∀ t,v t=(P_ p (m+n) t).drop m:=⟨_,λ_=>rfl⟩;obtain ⟨f,U⟩:∃ f:Nat->dI,∀ t k,f t k=cvL (u t) (co A) k+cvL (v t) (co B) k:=⟨_,λ_ _=>rfl⟩;have J:∀ t,(u t).length=m:=λt=>by rw [S,BQ,HV];omega
 have vl:∀ t,(v t).length=n:=λt=>by rw [T,List.length_drop,HV];omega
 have uz:∀ t,∀ z∈u t,0<=z/\z<(p:Int):=λt z o=>J3 R _ t z (Fs (S t ▸ o));have vz:∀ t,∀ z∈v t,0<=z/\z<(p:Int):=λt z o=>J3 R _ t z (List.mem_of_mem_drop (T t ▸ o))
 have fb:∀ t k,(f t k).natAbs<E*p:=λt k=>by
  have d:=Mb (q:=p - 1) X (u t) (λz o=>by have:=uz t z o;omega) k;have g:=Mb (q:=p - 1) Y (v t) (λz o=>by have:=vz t z o;omega) k;rw [J] at d;rw [vl] at g
  have h3:(f t k).natAbs<=(m+n)*((p - 1)*2 ^ b):=by
   rw [Nat.add_mul,U];omega
  refine EG h3 ?_;rw [<-hE];have e:(m+n)*((p - 1)*2 ^ b)=((m+n)*2 ^ b)*(p - 1):=by rw [DE (p - 1),Nat.mul_assoc]
  rw [e];exact Cv (Nat.mul_lt_mul_of_pos_left ⋯ (Nat.mul_pos ⋯ (D1 ∅))) (CW p (CW _ ⋯))
 obtain ⟨W,r⟩:∃ W:Nat->Nat,∀ t,W t=(f t 0 / (p:Int)+(E:Int)).toNat:=⟨_,λ_=>rfl⟩;obtain ⟨L,w⟩:∃ L:Nat->Nat->Nat,∀ t k,L t k=(f t (k+1)+((E*p:Nat):Int)).toNat:=⟨_,λ_ _=>rfl⟩
 have C:∀ t,0<=f t 0 / (p:Int)+(E:Int)/\f t 0 / (p:Int)+(E:Int)<2*(E:Int):=λt=>by
  have h:=fb t 0
  have d:-((E:Int)*(p:Int))<=f t 0:=by have:((E*p:Nat):Int)=(E:Int)*(p:Int):=by push_cast;rfl
                                       omega
  have g:f t 0<(E:Int)*(p:Int):=by have:((E*p:Nat):Int)=(E:Int)*(p:Int):=by push_cast;rfl
                                   omega
  have q1:-(E:Int)<=f t 0 / (p:Int):=by
   refine (Int.le_ediv_iff_mul_le ⋯).mpr ?_;rw [Int.neg_mul];exact d
  have q2:f t 0 / (p:Int)<(E:Int):=Int.ediv_lt_of_lt_mul ⋯ g;omega
 have D:∀ t k,0<=f t (k+1)+((E*p:Nat):Int)/\f t (k+1)+((E*p:Nat):Int)<2*((E*p:Nat):Int):=λt k=>by
  have h:=fb t (k+1);omega
 have F:∀ t,W t<2*E:=λt=>by have:=C t;rw [r];omega
 have I:∀ t k,L t k<2*(E*p):=λt k=>by have:=D t k;rw [w];omega
 have cl:∀ t,W t+2*E*aW (2*(E*p)) (m+n - 1) (L t)<2*E*(2*(E*p)) ^ (m+n - 1):=λt=>by
  have d:=Lw (M:=2*(E*p)) (m+n - 1) (L t) (λk _=>I t k);have g:2*E*(aW (2*(E*p)) (m+n - 1) (L t)+1)<=2*E*(2*(E*p)) ^ (m+n - 1):=EJ _ d;have h3:=F t;rw [Nat.mul_add,Nat.mul_one] at g;omega
 have P:2*E*(2*(E*p)) ^ (m+n - 1)<p ^ (m+n):=by
  obtain ⟨N,hN⟩:∃ N,m+n=N+1:=⟨m+n - 1,⋯⟩;rw [hN,Nat.add_sub_cancel];rw [Nat.add_comm n m,hN] at j
  have e:2*E*(2*(E*p)) ^ N=(2*E) ^ (N+1)*p ^ N:=by
   rw [<-Nat.mul_assoc 2 E p,Nat.mul_pow (2*E) p N,Bk,DE ((2*E) ^ N) (2*E),Nat.mul_assoc (2*E)]
  rw [e,Bk p,DE (p ^ N) p];exact Nat.mul_lt_mul_of_pos_right j (D1 R)
 obtain ⟨s,t,st,ht,e⟩:=cO _ _ _ (λi _=>cl i) P;obtain ⟨Z,q1⟩:=Pf (F s) (F t) e;have qk:=Lx (m+n - 1) _ _ (λk _=>I s k) (λk _=>I t k) q1;have w0:∀ k,(co (u s) k - co (u t) k)=co (BI (u s) ((u t).map ((-1)*·))) k:=λk=>by rw [DS,DS,DS,CB,BX];omega
 have df:∀ k,f s k - f t k=cvL (BI (u s) ((u t).map ((-1)*·))) (co A) k+cvL (BI (v s) ((v t).map ((-1)*·))) (co B) k:=λk=>by
  rw [CB,CB,BX,BX,U,U];omega
 have O:∀ k,0<k->f s k - f t k=0:=λk hk=>by
  rcases Br k (m+n) with c | c
  ·have:=qk (k - 1) ⋯;have r1:=D s (k - 1);have r2:=D t (k - 1);rw [w,w,show k - 1+1=k by omega] at this;rw [show k - 1+1=k by omega] at r1 r2;omega
  ·have z:∀ t,f t k=0:=λt=>by
    rw [U,FP (n:=A.length) (λi O=>Aq O) (u t) k (by rw [J];omega),FP (n:=B.length) (λi O=>Aq O) (v t) k (by rw [vl];omega)];rfl
   rw [z,z];rfl
 have d0:(f s 0 - f t 0).natAbs<p:=by
  have r1:=C s;have r2:=C t;rw [r,r] at Z;have Z:f s 0 / (p:Int)=f t 0 / (p:Int):=by omega
  have m1:=Int.emod_add_mul_ediv (f s 0) p;have m2:=Int.emod_add_mul_ediv (f t 0) p;have b1:=B9 (f s 0) (show (p:Int)≠0 by omega);have b2:=CM (f s 0) (show (0:Int)<p by omega);have b3:=B9 (f t 0) (show (p:Int)≠0 by omega);have b4:=CM (f t 0) (show (0:Int)<p by omega);rw [Z] at m1;omega
 have dm:Dm (p:Int) (co G) (co [f s 0 - f t 0]):=by
  obtain ⟨SA,a0⟩:=dA;obtain ⟨SB,a3⟩:=dB;refine ⟨BI (CC (BI (u s) ((u t).map ((-1)*·))) SA) (CC (BI (v s) ((v t).map ((-1)*·))) SB),λk=>?_⟩
  have e:co [f s 0 - f t 0] k=f s k - f t k:=by
   cases k with
   | zero=>rfl
   | succ k=>rw [O (k+1) ⋯];exact Aq (by simp)
  rw [e,df,CB (co G),Ck,Ck];have d:=b_ (p:=(p:Int)) a0 (BI (u s) ((u t).map ((-1)*·))) k;have g:=b_ (p:=(p:Int)) a3 (BI (v s) ((v t).map ((-1)*·))) k;have:=DF d g;refine Bw this (Fr ?_);omega
 have z0:f s 0 - f t 0=0:=by
  by_cases c:(p:Int)∣f s 0 - f t 0
  ·obtain ⟨y,hy⟩:=c;rcases Int.lt_trichotomy y 0 with z | z | z
   ·have:(p:Int)*y<=(p:Int)*(-1):=DZ ⋯ ⋯;omega
   ·rw [hy,z];omega
   ·have:(p:Int)*1<=(p:Int)*y:=DZ ⋯ ⋯;omega
  ·exfalso;have:=Dm.len hp ⋯ g1 dm ⟨0,c⟩;simp at this;omega
 have all:∀ k,cvL (BI (u s) ((u t).map ((-1)*·))) (co A) k+cvL (BI (v s) ((v t).map ((-1)*·))) (co B) k=0:=λk=>by
  rw [<-df];cases k with
  | zero=>exact z0
  | succ k=>exact O (k+1) ⋯
 have ll:∀ {a c:de} {x:Nat},a.length=x->c.length=x->(BI a (c.map ((-1)*·))).length=x:=λ{a c x} d g=>by
  rw [Tj,AK,d,g];omega
 obtain ⟨c1,c2⟩:=xO lA lB q (by rw [ll (J s) (J t)];omega) (by rw [ll (vl s) (vl t)];omega) all;have eu:u s=u t:=Tk (by rw [J,J]) λk=>by have:=c1 k;rw [<-w0] at this;omega
 have ev:v s=v t:=Tk (by rw [vl,vl]) λk=>by
  have:=c2 k;rw [DS,CB,BX,<-DS,<-DS] at this;omega
 have:P_ p (m+n) s=P_ p (m+n) t:=by
  rw [<-List.take_append_drop m (P_ p (m+n) s),<-List.take_append_drop m (P_ p (m+n) t)];rw [<-S,<-T,<-S,<-T,eu,ev]
 have:=Ly R _ _ _ ⋯ ⋯ this;omega
theorem Tl:∀ (a l:de),a.Nodup->(∀ t∈a,evI l t=0)->l.length<=a.length->∀ k,co l k=0
 | [],l,_,_,h,k=>Aq (by have:l.length=0:=by simpa using h
                        omega)
 | t::a,l,i,d,j,k=>by
   have b:=List.nodup_cons.mp i;have e:=d t (DK ..);have sd:co (X' l t) ((X' l t).length - 1)=0:=by rw [Ju];exact ZU l t
   have f:=Lh sd
   have z:∀ k,co (X' l t) k=0:=λk=>by
    rw [<-f k];refine Tl a (X' l t).dropLast b.2 (λx g=>?_) (by rw [List.length_dropLast,Ju];simp at j;omega) k;rw [Li _ _ x f];have c:=Lj l t x;rw [d x (DW _ g),e] at c
    have m:x - t≠0:=λq=>b.1 (by have:x=t:=by omega
                                rw [<-this];exact g)
    have c:(x - t)*evI (X' l t) x=0:=by omega
    rcases Eb.mp c with q | q
    ·exact absurd q m
    ·exact q
   rw [Jv l t k,z k];split
   ·rw [e];omega
   ·rw [z (k - 1)];omega
def xP (n:Nat):((List.range (2*n+1)).map λi:Nat=>(i:Int) - (n:Int)).Nodup:=by
 unfold List.Nodup;rw [List.pairwise_map];exact (List.nodup_range (n:=2*n+1)).imp λh q=>h ⋯
theorem Tm (f:Int->Bool):∀ P:de,(P.filter f).length+(P.filter λx=>!f x).length=P.length
 | []=>rfl
 | x::P=>by
   have:=Tm f P;rw [List.filter_cons,List.filter_cons,Cd];cases f x
   ·simp;omega
   ·simp;omega
def xR {r:de} {n:Nat} (v:∃ k,co r k≠0) (C:r.length<=n):∃ x:dI,(∀ i,i<=n->evI r (x i)≠0/\(x i).natAbs<=n)/\∀ i j,i<=n->j<=n->i≠j->x i≠x j:=by
 let P:de:=(List.range (2*n+1)).map λi:Nat=>(i:Int) - (n:Int);have pl:P.length=2*n+1:=by show ((List.range (2*n+1)).map λi:Nat=>(i:Int) - (n:Int)).length=_;rw [AK,A4]
 have p:P.Nodup:=xP n
 have w:∀ x∈P,x.natAbs<=n:=λx y=>by
  obtain ⟨i,d,rfl⟩:=Ap.mp y;have:=C5.mp d;omega
 have f:(P.filter λx=>decide (evI r x=0)).length+(P.filter λx=>!decide (evI r x=0)).length=P.length:=by
  exact Tm _ P
 have z:(P.filter λx=>decide (evI r x=0)).length<r.length:=by
  rcases Br (P.filter λx=>decide (evI r x=0)).length r.length with c | c
  ·exact c
  ·exfalso;obtain ⟨k,hk⟩:=v;exact hk (Tl _ r (p.filter _) (λt A=>by simpa using (List.mem_filter.mp A).2) c k)
 let a:=P.filter λx=>!decide (evI r x=0)
 have D:n+1<=a.length:=by
  show n+1<=(P.filter λx=>!decide (evI r x=0)).length;omega
 have B:a.Nodup:=p.filter _;refine ⟨λi=>a.getD i 0,λi d=>?_,λi j d F g e=>?_⟩
 ·have b:i<a.length:=by omega
  have e:a.getD i 0=a[i]:=by rw [AI,AT b];rfl
  show evI r (a.getD i 0)≠0/\(a.getD i 0).natAbs<=n;rw [e];have m:=List.mem_filter.mp (CT b);exact ⟨by simpa using m.2,w _ m.1⟩
 ·have h:i<a.length:=by omega
  have o:j<a.length:=by omega
  have e:a.getD i 0=a.getD j 0:=e;rw [AI,AI,AT h,AT o] at e;have e:a[i]=a[j]:=e;have u:=List.pairwise_iff_getElem.mp B;rcases Nat.lt_or_gt_of_ne g with q | q
  ·exact u i j h o q e
  ·exact u j i o h q e.symm
def xS {b n c:Nat} {r g A:de} (o:∀ z∈r,Bd b z) (p:∃ k,co r k≠0) (f:r.length<=n) (B:g.length<=n) (C:n<2 ^ c) (q:∀ k,co r k=cvL A (co g) k):∀ k,Bd (b+n*(2*c+4)) (co g k):=by
 by_cases D:g.length=0
 ·intro k;rw [Aq ⋯];exact Cj _
 obtain ⟨x,h,u⟩:=xR p f
 have m:∀ i,i<=n->Bd c (x i):=λi a=>by
  show (x i).natAbs<2 ^ c;have:=(h i a).2;omega
 intro k
 have:=aH (c:=c) (g.length - 1) g (b+n*(c+1)) x (λk hk=>Aq ⋯) (λi a=>m i ⋯) (λi j a F d=>u i j ⋯ ⋯ d) (λi a=>by
  have v:=(h i ⋯).1;have e:=ZT q (x i);have w:=PB (m i ⋯) r o
  have y:(evI g (x i)).natAbs<=(evI r (x i)).natAbs:=by
   rw [e,Bv];refine Nat.le_mul_of_pos_left _ ?_;rcases Er (evI A (x i)).natAbs with z | z
   ·exact absurd (by rw [e,Int.natAbs_eq_zero.mp z];omega) v
   ·exact z
  refine (w.le y).mono ?_;have:=CW (c+1) f;omega) k
 refine this.mono ?_;have G:(g.length - 1)*(c+3)<=n*(c+3):=CW (c+3) ⋯;have I:n*(2*c+4)=n*(c+1)+n*(c+3):=by rw [<-Nat.mul_add];congr 1;omega
 omega
def KY {a g:de} (b:Lz a) (c:Lz g):cvL a (co g) (a.length - 1+(g.length - 1))=co a (a.length - 1)*co g (g.length - 1):=by
 obtain ⟨i,s,rfl⟩:∃ i s,a=i++[s]:=⟨a.dropLast,a.getLast (Ce.mp b.1),(G3 _).symm⟩;have e:(i++[s]).length - 1=i.length:=by rw [CL];simp
 have d:co (i++[s]) i.length=s:=by
  unfold co;rw [AI,EE (AV _),Nat.sub_self];rfl
 rw [e,d,EV,FP (n:=g.length) (λi f=>Aq f) i _ (by have:=c.1;omega)];unfold A5;rw [nH ⋯,show i.length+(g.length - 1) - i.length=g.length - 1 by omega];omega
def Mc {X a:de} (b:Lz a) {T:Nat} (h:∀ k,T+(a.length - 1)<=k->cvL X (co a) k=0):(∀ j,T<=j->co X j=0)/\∀ s,T=s+1->cvL X (co a) (s+(a.length - 1))=co X s*co a (a.length - 1):=by
 rcases FQ X with z | ⟨Y,d,_,e⟩
 ·refine ⟨λj _=>z j,λs _=>?_⟩;rw [CJ,F5 a z,z s];omega
 ·have f:∀ k,cvL X (co a) k=cvL Y (co a) k:=λk=>by rw [CJ,BN (λj=>(e j).symm) a k,<-CJ]
  have g:=KY d b
  have o:Y.length<=T:=by
   rcases Br T Y.length with c | c
   ·exfalso;have:=h (Y.length - 1+(a.length - 1)) ⋯;rw [f,g] at this;exact CG d.2 b.2 this
   ·exact c
  refine ⟨λj p=>by rw [<-e];exact Aq ⋯,λs q=>?_⟩;rw [f,<-e];have r:=d.1;rcases Br Y.length T with c | c
  ·rw [Aq ⋯,FP (n:=a.length) (λi m=>Aq m) Y _ (by have:=b.1;omega)];omega
  ·rw [show s=Y.length - 1 by omega];exact g
def Bf {m n:Nat} {x y:Int} (a:Bd m x) (b:Bd n y) (c:m<=60000000:=by omega) (d:n<=60000000:=by omega):IntMulOk x y:=Hl (a.mono c) (b.mono d)
def xT {ns:de} {m:Int} (a:de) (b:a=(ns.filter (λz=>!decide (z=0))).map λz=>if z<0 then -z else z) (h:a=[]/\m=0\/m∈a) (d:Int):(∀ z∈ns,d∣z)->d∣m:=by
 intro c;rcases h with ⟨_,e⟩ | h
 ·rw [e];exact DH d
 ·rw [b] at h;obtain ⟨z,f,rfl⟩:=Ap.mp h;have:=c z (List.mem_filter.mp f).1;show d∣if z<0 then -z else z
  split
  ·exact Int.dvd_neg.mpr this
  ·exact this
def xU (h:IV K vs H Q E):QE K { nx:=λ_ j=>Q .non j,rt:=Q } (L2.start ["row","start","found","whole"] vs) H:=by
 obtain ⟨p,b,r,rfl,hp,X,k⟩:=h;unfold QE;rwa [];refine ⟨⟨_,SqL.of hp⟩,CompF.lst (xs:=b.map V.int) (λi u j=>i<=b.length/\j=H/\u=(((b.take i).filter (λz=>!decide (z=0))).map λz=>if z<0 then -z else z).map V.int) ⟨AY _,rfl,rfl⟩ ?_ ?_ ?_⟩
 ·rintro i u j ⟨q,rfl,rfl⟩;refine ⟨by rw [AK];exact q,sz ?_,SqL.of hp⟩;rw [AK,AK];exact CF (List.length_filter_le _ _) (by rw [BQ];omega)
 ·rintro i x u j f ⟨q,rfl,rfl⟩;rw [Aa] at f;cases e:b[i]? with
  | none=>rw [e] at f;cases f
  | some n=>
    rw [e] at f;obtain rfl:V.int n=x:=nR f;have N:i<b.length:=(BF.mp e).1;have L:b.take (i+1)=b.take i++[n]:=by rw [DY,e];rfl
    rwa [];refine Ah (λc=>?_) (λc=>?_)
    ·refine ⟨⋯,?_⟩;have G:¬ n=0:=by simpa using c
     simp [L,List.filter_append,G]
    ·refine ⟨⋯,?_⟩;have G:n=0:=by simpa using c
     simp [L,List.filter_append,G]
 ·rintro u j ⟨_,rfl,rfl⟩ a O;rw [AK,CA];have v:=AQ O (.lst (((b.filter (λz=>!decide (z=0))).map λz=>if z<0 then -z else z).map V.int));have o:=v _ _ hp;refine ⟨_,rfl,_,upd_same,λm P=>?_⟩;have R:=xT _ rfl P;generalize S:upd j a (.lst (((b.filter (λz=>!decide (z=0))).map λz=>if z<0 then -z else z).map V.int))=T at v o ⊢;refine ⟨⟨_,SqL.of o⟩,ForL.by (xs:=b.map V.int) (λi w A=>∃ (g:Int) (x:dc),w=[some (.ref p),some (.int r),some (.int g),x]/\A=T/\0<=g/\g∣r/\(∀ z∈b.take i,g∣z)/\(∀ d:Int,d∣r->(∀ z∈b,d∣z)->d∣g)) ⟨_,none,rfl,rfl,⋯,EY m r,λz B=>(by simp at B),λd q C=>Int.dvd_coe_gcd (R d C) q⟩ ?_ ?_ ?_⟩
  ·rintro i w A _ ⟨g,x,rfl,rfl,_⟩;exact SqL.of o
  ·rintro i x w A f ⟨g,y,rfl,rfl,M,I,D,F⟩;rw [Aa] at f;cases e:b[i]? with
   | none=>rw [e] at f;cases f
   | some n=>
     rw [e] at f;obtain rfl:V.int n=x:=nR f;rwa [];refine Ah (λc=>?_) (λc=>?_)
     ·have U:g=1:=by simpa using c
      subst U;exact k 1 _ v ∅ (Int.one_dvd _) (λz _=>Int.one_dvd z) F
     ·refine ⟨⋯,Bw (EY n g) I,λz B=>?_,λd q C=>Int.dvd_coe_gcd (C n (BC e)) (F d q C)⟩;rw [DY,e] at B;rcases CS.mp B with J | J
      ·exact Bw (EY n g) (D z J)
      ·have W:z=n:=by simpa using J
       rw [W];exact E8 n g
  ·rintro w A ⟨g,x,rfl,rfl,M,I,D,F⟩;rw [AK,CA] at D;rwa [];exact k g _ v M I D F
def xV (h:IW K vs H Q E):QG K { nx:=λ_ c=>Q .non c,rt:=Q } (L2.start ["row","divisor"] vs) H:=by
 obtain ⟨p,b,g,rfl,hp,m,u,q⟩:=h;unfold QG;rwa [];refine ⟨⟨_,SqL.of hp⟩,CompJ.lst (xs:=b.map V.int) (λi j c=>i<=b.length/\c=H/\j=((b.map (·/ g)).take i).map V.int) ⟨AY _,rfl,rfl⟩ ?_ ?_ ?_⟩
 ·rintro i j c ⟨k,rfl,rfl⟩;refine ⟨by rw [AK];exact k,sz ?_,SqL.of hp⟩;rw [AK,BQ];omega
 ·rintro i x j c d ⟨k,rfl,rfl⟩;rw [Aa] at d;cases e:b[i]? with
  | none=>rw [e] at d;cases d
  | some n=>
    rw [e] at d;obtain rfl:V.int n=x:=nR d;have f:i<b.length:=(BF.mp e).1
    have o:0<g:=by
     rcases m with h | h
     ·exact h
     ·rw [h] at f;exact absurd f (by simp)
    rwa [];refine ⟨o,⋯,?_⟩;rw [Ez V.int (q:=n / g) (by rw [Aa,e];rfl)]
 ·rintro j c ⟨_,rfl,rfl⟩ a r;have e:(b.map (·/ g)).take (b.map V.int).length=b.map (·/ g):=by rw [AK,show b.length=(b.map (·/ g)).length by rw [AK],CA]
  rw [e];exact q a r
def Tn {ns:de} {k:Nat}:co ns k=ns.getD k 0:=rfl
def Me (ns:de):Tz (DU ns):=by
 have a:∀ m,m<=ns.length->Di ns m=0\/co ns (Di ns m - 1)≠0:=by
  intro m
  induction m with
  | zero=>intro _;exact .inl rfl
  | succ m c=>
    intro d;rw [Ir];split
    ·exact c ⋯
    ·rename_i z;right;rw [show m+1 - 1=m by omega,Tn];rw [AI,AT ⋯] at z ⊢;exact z
 have b:(DU ns).length=Di ns ns.length:=MX;rcases a ns.length (AV _) with h | h
 ·left;exact CU.mp (b.trans h)
 ·right;rw [b];show (DU ns).getD _ 0≠0;rw [Tg];exact h
def Mf (ns:de) (k:Nat):co (DU ns) k=co ns k:=Tg k
def Iw (n:Nat) (F:dI):A6 n F=((List.range n).map F).map V.int:=rfl
def xW (ns:de) (f:Int) (n:Nat) (h:ns.length<=n):List.map V.int (ns.map (f*·))++List.replicate (n - ns.length) (V.int 0)=A6 n λk=>f*co ns k:=by
 rw [Iw];apply Fb;intro i;by_cases a:i<ns.length
 ·rw [EF (by rw [AK,AK];exact a),Aa,Aa,Aa,Aa,CV ⋯,AT a];show _=some (V.int (f*ns.getD i 0));rw [AI,AT a];rfl
 ·rw [EE (by rw [AK,AK];omega),AK,AK,Aa,Aa];by_cases b:i<n
  ·rw [Dz,nH ⋯,CV b];show _=some (V.int (f*co ns i));rw [Aq ⋯,Ec]
  ·rw [Dz,nG ⋯,Bp (by rw [A4];omega)];rfl
def xY (h:IX K vs H Q E):QL K { nx:=λ_ m=>Q .non m,rt:=Q } (L2.start ["row","factor","other","weight","shift","result","place","whole"] vs) H:=by
 obtain ⟨p,q,d,g,f,w,s,rfl,hp,P,hl,a0,bf,bw,bn,bm,k⟩:=h;unfold QL;rwa [];refine ⟨⟨_,SqL.of hp⟩,CompJ.lst (xs:=d.map V.int) (λi J m=>i<=d.length/\m=H/\J=((d.map (f*·)).take i).map V.int) ⟨AY _,rfl,rfl⟩ ?_ ?_ ?_⟩
 ·rintro i J m ⟨Y,rfl,rfl⟩;refine ⟨by rw [AK];exact Y,sz ?_,SqL.of hp⟩;rw [AK,BQ];omega
 ·rintro i x J m z ⟨Y,rfl,rfl⟩;rw [Aa] at z;cases e:d[i]? with
  | none=>rw [e] at z;cases z
  | some n=>
    rw [e] at z;obtain rfl:V.int n=x:=nR z;have a3:i<d.length:=(BF.mp e).1;rwa [];refine ⟨Bf bf (bn n (BC e)),⋯,?_⟩;rw [Ez V.int (q:=f*n) (by rw [Aa,e];rfl)]
 ·rintro J m ⟨_,rfl,rfl⟩ a R;have e:(d.map (f*·)).take (d.map V.int).length=d.map (f*·):=by rw [AK,show d.length=(d.map (f*·)).length by rw [AK],CA]
  rw [e];generalize hL:max d.length (s+g.length)=L;have S:=AQ R (.lst (List.map V.int (d.map (f*·))));have A:=S _ _ hp;have B:=S _ _ P;rwa [A,B];refine ⟨OO upd_same,sz ∅,λb hb=>?_⟩;have M:=AQ hb (.lst [.int 0]);refine ⟨_,M _ _ B,_,M _ _ A,?_⟩;have e0:(((g.map V.int).length:Int)+(s:Int) - ((d.map V.int).length:Int))=(g.length:Int)+(s:Int) - (d.length:Int):=by rw [AK,AK]
  rw [e0];have Z:((g.length:Int)+(s:Int) - (d.length:Int)).toNat=L - d.length:=by omega
  refine ⟨⋯,⋯,sz (by rw [Z];simp;omega),λc hc=>?_⟩;rw [Z,FR];have sc:=AQ hc (.lst (List.replicate (L - d.length) (V.int 0)));have T:upd m a (.lst (List.map V.int (d.map (f*·)))) a=some (HO.lst (List.map V.int (d.map (f*·)))):=upd_same;have C:=sc _ _ (M _ _ T);refine ⟨_,C,sz (by simp;omega),?_⟩;rw [xW d f L ⋯];generalize hX:upd (upd (upd m a (.lst (List.map V.int (d.map (f*·))))) b (.lst [.int 0])) c (.lst (List.replicate (L - d.length) (V.int 0)))=N at C ⊢;have sx:Same m N:=λx o h=>by rw [<-hX];exact sc x o (M x o (S x o h))
  have sd:Same m (upd N a (.lst (A6 L λk=>f*co d k))):=λx o h=>Kp.upd x o (Ax h R) (sx x o h);have D:(upd N a (.lst (A6 L λk=>f*co d k))) a=_:=upd_same;generalize upd N a (.lst (A6 L λk=>f*co d k))=Hd at sd D ⊢;refine ⟨⟨_,SqL.of (sd _ _ P)⟩,ForJ.enumL (xs:=g.map V.int) (λj O F=>∃ x y:dc,O=[some (.ref p),some (.int f),some (.ref q),some (.int w),some (.int (s:Int)),some (.ref a),x,y]/\Same m F/\F a=some (.lst (A6 L λk=>f*co d k - (if s<=k/\k - s<j then w*co g (k - s) else 0)))) ⟨none,none,rfl,sd,?_⟩ ?_ ?_ ?_⟩
  ·rw [D];exact congrArg (λl=>some (HO.lst l)) (MV λk _=>by rw [nG ⋯];omega)
  ·rintro j O F _ ⟨_,_,_,G,_⟩;exact SqL.of (G _ _ P)
  ·rintro j y pq O F I ⟨y3,y4,rfl,G,v⟩ U;rw [Aa] at I;cases em:g[j]? with
   | none=>rw [em] at I;cases I
   | some u=>
     rw [em] at I;obtain rfl:V.int u=y:=nR I;have jl:j<g.length:=(BF.mp em).1;have ud:co g j=u:=by rw [Tn,AI,em];rfl
     have sq:=AQ U (.tup [.int (j:Int),.int u]);have W:=sq _ _ v;rwa [W];have X:s+j<L:=by omega
     refine ⟨_,DC ⋯ (EB _ X),Bf bw (bm u (BC em)),_,rfl,s+j,?_,λb o h=>Kp.upd b o (Ax h R) (sq b o (G b o h)),?_⟩
     ·rw [EW];exact Gn ⋯ X
     ·refine Iq X ?_ λk _ hk=>?_
      ·rw [nH ⋯,nG ⋯,show s+j - s=j by omega,ud];omega
      ·by_cases h:s<=k/\k - s<j
       ·rw [nH h,nH ⋯]
       ·rw [nG h,nG ⋯]
  ·rintro O F ⟨y3,y4,rfl,G,v⟩;rw [AK,Iw] at v;rwa [v];refine ⟨_,rfl,λr hr=>k r _ _ (G.trans (AQ hr _)) upd_same (Me _) λi=>?_⟩;rw [Mf,Js];unfold A5;by_cases z:i<L
   ·rw [nH z];by_cases h:s<=i
    ·rw [nH h];by_cases h2:i - s<g.length
     ·rw [nH ⟨h,h2⟩]
     ·rw [nG ⋯,Aq (a:=g) ⋯];omega
    ·rw [nG h,nG ⋯];omega
   ·rw [nG z,Aq (a:=d) ⋯];by_cases h:s<=i
    ·rw [nH h,Aq (a:=g) ⋯];omega
    ·rw [nG h];omega
def xZ (a b:Int):(a.fdiv b).natAbs<=a.natAbs:=by
 rw [Int.fdiv_eq_ediv];split
 ·rw [Int.sub_zero];exact Int.natAbs_ediv_le_natAbs a b
 ·rename_i h;have d:b<0:=by omega
  have f:¬ b∣a:=λz=>h (.inr z);have e:=Int.mul_ediv_add_emod a b;have i:=B9 a (show b≠0 by omega);have j:=Int.emod_lt_of_neg a d;have rn:a % b≠0:=λz=>f (GG z);generalize a / b=q at *;generalize a % b=r at *;rcases Int.lt_or_le q 1 with g | g
  ·have c:(-b)*(-q) ≥ 2*(-q):=Dn ⋯ ⋯;rw [Int.neg_mul_neg] at c;omega
  ·have c:(-b)*(q - 1) ≥ 1*(q - 1):=Dn ⋯ ⋯;rw [Int.neg_mul,Int.mul_sub] at c;omega
def Mg {n m:Nat} {F:dI}:CO (A6 n F) none (some (m:Int))=((List.range (min m n)).map F).map V.int:=by
 unfold CO HT.sIx;simp only [List.drop_zero,Nat.sub_zero,Bg];rw [nG ⋯,EW];unfold A6;rw [<-List.map_take,<-List.map_take,List.take_range];congr 3;omega
def wA {n:Nat} {F:dI} (h:((List.range n).map F).any (λz=>!decide (z=0))=false):∀ k,k<n->F k=0:=by
 intro k hk;have:=List.any_eq_false.mp h (F k) (Ap.mpr ⟨k,C5.mpr hk,rfl⟩);simpa using this
def To {n s:Nat} {F:dI} {w:Int} (a:s<n) (b:F s=0) (g:dI) (k:Nat) :
  cvL ((List.range n).map λj=>if j=s then w else F j) g k=cvL ((List.range n).map F) g k+w*A5 s g k:=by
 have e:∀ m,m<=n->cvL ((List.range m).map λj=>if j=s then w else F j) g k=cvL ((List.range m).map F) g k+(if s<m then w*A5 s g k else 0):=by
  intro m
  induction m with
  | zero=>intro _;rw [nG ⋯];rfl
  | succ m c=>
    intro d;rw [FZ,Cp,Cp,List.map_singleton,List.map_singleton,EV,EV,c ⋯,AK,AK,A4];by_cases e:m=s
    ·subst e;rw [nH rfl,nG ⋯,nH ⋯,b];omega
    ·rw [nG e];by_cases h:s<m
     ·rw [nH h,nH ⋯];omega
     ·rw [nG h,nG ⋯];omega
 rw [e n (AV n),nH a]
def FY {b:Nat} {ns:de} (h:∀ z∈ns,Bd b z) (k:Nat):Bd b (co ns k):=FN h k
def KZ {n:Nat} {g:dI} (k:Nat):cvL ((List.range n).map λ_=>(0:Int)) g k=0:=by
 have e:((List.range n).map λ_=>(0:Int))=(List.replicate n (1:Int)).map (0*·):=by
  apply Fb;intro i;rw [Aa,Aa];by_cases h:i<n
  ·rw [CV h,Dz,nH h];rfl
  ·rw [Bp (by rw [A4];omega),Dz,nG h];rfl
 rw [e,BX];omega
def Ka (ns:de):List.map V.int ns=A6 ns.length (co ns):=by
 rw [Iw];congr 1;apply Fb;intro i;rw [Aa];by_cases h:i<ns.length
 ·rw [CV h,AT h];show _=some (ns.getD i 0);rw [AI,AT h];rfl
 ·rw [Bp ⋯,Bp (by rw [A4];omega)];rfl
def Ix {a:de} (h:0<a.length):M_ (a.map V.int) (-1)=some (V.int (co a (a.length - 1))):=by
 refine MZ (by rw [AK];omega) ?_;rw [AK,Aa,AT ⋯];show _=some (V.int (a.getD (a.length - 1) 0));rw [AI,AT ⋯];rfl
def wB (h:IY K vs H Q E):Z8 K (eC Q) (L2.start ["row","divisor","rest","last","quotient","shift","weight","place"] vs) H:=by
 obtain ⟨p,q,f,g,b,d,rfl,hp,hq,lm,bn,bm,bb,bc,hn,hm,kN,kR⟩:=h;have m0:=lm.1;have P:=lm.2;obtain ⟨L,hL⟩:∃ L,g.length=L+1:=⟨g.length - 1,⋯⟩;have R:g.length - 1=L:=by omega
 rw [R] at P;generalize n:co g L=r at P;have aL:=Ix m0;rw [R,n] at aL;generalize hc:f.length - L=c;refine Ag (Cm (AF rfl ⟨_,_,rfl,hp,λa ha=>?_⟩));have sa:=AQ ha (.lst (f.map V.int));have ao:=sa _ _ hp;have ap:=sa _ _ hq;have aq:((List.map V.int g).length:Int) - 1=(L:Int):=by rw [AK];omega
 refine ⟨_,rfl,_,_,rfl,ap,_,_,rfl,rfl,?_⟩;show QK K _ [some (.ref p),some (.ref q),some (.ref a),some (.int (((List.map V.int g).length:Int) - 1)),none,none,none,none] _;rw [aq];refine Ag (AX (En (F_ ⟨Cz,λx hx=>?_⟩)));have sx:=AQ hx (.lst [.int 0]);have ar:=sx _ _ ao
 have a3:(if (0:Int) > ((List.map V.int f).length:Int) - (L:Int) then (0:Int) else ((List.map V.int f).length:Int) - (L:Int))=(c:Int):=by
  rw [AK];split <;> omega
 refine ⟨_,rfl,_,_,rfl,ar,_,rfl,_,_,rfl,rfl,_,_,rfl,?_⟩;refine ⟨_,(c:Int),_,rfl,congrArg V.int a3,upd_same,⋯,⋯,sz (by simp;omega),λy hy=>?_⟩;refine Lo ha hx hy λH1 a4 a5 sH ab b0=>?_;rw [Ka f] at a4;rw [Bg,Tf] at a5;have b1:=sH _ _ hp;have b2:((List.map V.int f).length:Int) - (L:Int) - 1=(f.length:Int) - (L:Int) - 1:=by rw [AK]
 have b3:((f.length:Int) - (L:Int) - 1 - -1).toNat=c:=by omega
 refine PC ?_;refine ⟨_,rfl,_,_,rfl,b1,_,rfl,_,_,rfl,rfl,_,_,rfl,rfl,_,rfl,_,rfl,(f.length:Int) - (L:Int) - 1,_,by rw [<-b2],⟨⋯,⋯,∅,∅⟩,?_⟩;rw [b3]
 let Iv:Nat->L2.St->Hp->Prop:=λi S D=>i<=c/\∃ (F G:dI) (u v w:dc),S=[some (.ref p),some (.ref q),some (.ref a),some (.int (L:Int)),some (.ref y),u,v,w]/\Same H D/\D a=some (.lst (A6 f.length F))/\D y=some (.lst (A6 c G))/\
  (∀ j,j<c - i->G j=0)/\(∀ k,k<f.length - i->F k=co f k - cvL ((List.range c).map G) (co g) k)/\(∀ k,f.length - i<=k->co f k=cvL ((List.range c).map G) (co g) k)/\(∀ k,k<f.length->Bd (b+i*(d+1)) (F k))
 refine ForJ.down Iv ⟨AY _,co f,λ_=>0,none,none,none,rfl,sH,a4,a5,λ_ _=>rfl,λk _=>by rw [KZ];omega,λk hk=>by rw [KZ,Aq ⋯],λk _=>(FY bn k).mono ⋯⟩ ?_ ?_
 ·rintro i S D hi ⟨_,F,G,u,v,w,rfl,s2,I,U,hG,hF,J,bF⟩;have ac:=s2 _ _ hq;have ic:i<c:=hi;have b4:((f.length:Int) - (L:Int) - 1 - (i:Int))=((c - 1 - i:Nat):Int):=by omega
  rw [b4];generalize hs:c - 1 - i=s;have bd:s+L=f.length - 1 - i:=by omega
  have aT:M_ (A6 f.length F) ((s:Int)+(L:Int))=some (V.int (F (s+L))):=DC (j:=s+L) ⋯ (EB F ⋯);refine ⟨_,rfl,_,rfl,_,rfl,_,_,rfl,rfl,_,_,_,_,rfl,rfl,I,aT,_,rfl,_,rfl,_,_,_,_,rfl,rfl,ac,aL,_,_,rfl,rfl,P,?_⟩;show QJ K _ [some (.ref p),some (.ref q),some (.ref a),some (.int (L:Int)),some (.ref y),some (.int (s:Int)),some (.int ((F (s+L)).fdiv r)),w] D;generalize hw:(F (s+L)).fdiv r=m;have b5:=bF (s+L) ⋯;have W:Bd (b+i*(d+1)) m:=b5.le (by rw [<-hw];exact xZ _ _)
  have bi:b+i*(d+1)<=60000000:=by
   have:=CW (d+1) (show i<=f.length by omega);omega
  have be:b+(i+1)*(d+1)<=60000000:=by
   have:=CW (d+1) (show i+1<=f.length by omega);omega
  have b6:Bd d r:=by rw [<-n];exact FY bm L
  refine ⟨_,rfl,_,rfl,_,rfl,_,_,_,_,rfl,rfl,ac,aL,_,_,rfl,rfl,Bf W b6,_,rfl,_,rfl,_,rfl,_,_,rfl,rfl,_,_,_,_,rfl,rfl,I,aT,rfl,_,rfl,Ah (λY=>?_) (λY=>?_)⟩
  ·refine kN (λ⟨A,hA⟩=>?_) _ s2;have M:m*r≠F (s+L):=by simpa using Y
   have hX:∀ k,cvL (BI A (((List.range c).map G).map ((-1)*·))) (co g) k=co f k - cvL ((List.range c).map G) (co g) k:=λk=>by rw [CB,BX,<-hA];omega
   have q:=(Mc lm (X:=BI A (((List.range c).map G).map ((-1)*·))) (T:=s+1) (λk hk=>by rw [hX,J k ⋯];omega)).2 s rfl;rw [hX,R,n,<-hF (s+L) ⋯] at q;exact M (by rw [<-hw,q,Int.mul_fdiv_cancel _ P])
  have ex:m*r=F (s+L):=by simpa using Y
  refine ⟨_,rfl,_,rfl,_,rfl,_,_,_,s,rfl,rfl,U,by rw [EW];exact Gn rfl ⋯,?_⟩;show QH K _ [some (.ref p),some (.ref q),some (.ref a),some (.int (L:Int)),some (.ref y),some (.int (s:Int)),some (.int m),w] (upd D y (.lst ((A6 c G).set s (V.int m))));have b7:(A6 c G).set s (V.int m)=A6 c (λj=>if j=s then m else G j):=Iq ⋯ (nH rfl) λj _ hj=>nG hj;rw [b7];have s3:Same H (upd D y (.lst (A6 c λj=>if j=s then m else G j))):=λz o h=>Kp.upd z o (Ax h b0) (s2 z o h);have Z:(upd D y (.lst (A6 c λj=>if j=s then m else G j))) a=_:=(Au ab).trans I;have B:(upd D y (.lst (A6 c λj=>if j=s then m else G j))) y=_:=upd_same;generalize (upd D y (.lst (A6 c λj=>if j=s then m else G j)))=H3 at s3 Z B ⊢;have al:∀ k,cvL ((List.range c).map λj=>if j=s then m else G j) (co g) k=cvL ((List.range c).map G) (co g) k+m*A5 s (co g) k:=λk=>To ⋯ (hG s ⋯) _ k
  have am:∀ (F':dI) (u v w:dc) (N:Hp),Same H N->N a=some (.lst (A6 f.length F'))->N y=some (.lst (A6 c λj=>if j=s then m else G j))->(∀ k,k<f.length->F' k=F k - (if s<=k/\k - s<L then m*co g (k - s) else 0))->
    Iv (i+1) [some (.ref p),some (.ref q),some (.ref a),some (.int (L:Int)),some (.ref y),u,v,w] N:=λF' u v w N s4 C O eF=>by
   refine ⟨⋯,F',_,u,v,w,rfl,s4,C,O,λj hj=>?_,λk hk=>?_,λk hk=>?_,λk hk=>?_⟩
   ·show (if j=s then m else G j)=0;rw [nG ⋯];exact hG j ⋯
   ·rw [eF k ⋯,al,hF k ⋯];unfold A5;by_cases h:s<=k
    ·rw [nH h,nH ⟨h,⋯⟩];omega
    ·rw [nG h,nG ⋯];omega
   ·rw [al];by_cases ek:k=s+L
    ·have hf:=hF k ⋯;rw [ek] at hf ⊢;unfold A5;rw [nH ⋯,show s+L - s=L by omega,n,ex];omega
    ·have h2:=J k ⋯;rw [h2];unfold A5;by_cases h:s<=k
     ·rw [nH h,Aq (a:=g) ⋯];omega
     ·rw [nG h];omega
   ·rw [eF k hk];have e2:b+(i+1)*(d+1)=b+i*(d+1)+d+1:=by rw [Nat.add_mul];omega
    rw [e2];refine Bd.sub ((bF k hk).mono ⋯) ?_;split
    ·exact W.mul (FY bm _)
    ·exact Cj _
  refine ⟨_,rfl,rfl,_,rfl,Ah (λcw=>?_) (λcw=>?_)⟩
  ·refine ⟨_,rfl,_,rfl,⋯,⋯,?_⟩;rw [Bg];refine ForR.by (λj S N=>∃ (u:dc),S=[some (.ref p),some (.ref q),some (.ref a),some (.int (L:Int)),some (.ref y),some (.int (s:Int)),some (.int m),u]/\Same H N/\N a=some (.lst (A6 f.length λk=>F k - (if s<=k/\k - s<j then m*co g (k - s) else 0)))/\N y=some (.lst (A6 c λj=>if j=s then m else G j))) ⟨w,rfl,s3,?_,B⟩ ?_ ?_
   ·rw [Z];exact congrArg (λl=>some (HO.lst l)) (MV λk _=>by rw [nG ⋯];omega)
   ·rintro j S N hj ⟨u',rfl,s4,C,O⟩;have b9:=s4 _ _ hq;have aj:M_ (g.map V.int) (0+(j:Int))=some (V.int (co g j)):=DC (j:=j) ⋯ (by rw [Ka];exact EB _ ⋯);refine ⟨_,rfl,_,rfl,_,rfl,_,_,rfl,rfl,_,_,_,_,rfl,rfl,C,DC (j:=s+j) ⋯ (EB _ ⋯),_,rfl,_,rfl,_,rfl,_,_,_,_,rfl,rfl,b9,aj,_,_,rfl,rfl,Bf W (FY bm j),_,_,rfl,rfl,_,_,_,s+j,rfl,rfl,C,by rw [EW];exact Gn ⋯ ⋯,?_⟩;refine ⟨_,rfl,?_,?_,?_⟩
    ·intro z o h;exact Kp.upd z o (Ax h ha) (s4 z o h)
    ·refine upd_same.trans (congrArg (λl=>some (HO.lst l)) (Iq ⋯ ?_ λk _ hk=>?_))
     ·rw [nH ⋯,nG ⋯,show s+j - s=j by omega];omega
     ·by_cases h:s<=k/\k - s<j
      ·rw [nH h,nH ⋯]
      ·rw [nG h,nG ⋯]
    ·rw [Au (Ne.symm ab)];exact O
   ·rintro S N ⟨u',rfl,s4,C,O⟩;exact am _ _ _ _ _ s4 C O λk _=>rfl
  ·have w0:m=0:=by simpa using cw
   exact am F _ _ _ _ s3 Z B λk _=>by rw [w0];split <;> omega
 ·rintro S D ⟨_,F,G,u,v,w,rfl,s2,I,U,hG,hF,J,bF⟩;refine ⟨_,rfl,_,rfl,_,rfl,_,_,rfl,I,λz hz=>?_⟩;have a0:=AQ hz (.lst (((List.range (min L f.length)).map F).map V.int));refine ⟨z,(List.range (min L f.length)).map F,rfl,by rw [Mg];exact upd_same,?_⟩;rw [Mg];refine ⟨_,rfl,Ah (λY=>?_) (λY=>?_)⟩
  ·refine kN (λ⟨A,hA⟩=>?_) _ (s2.trans a0);have hX:∀ k,cvL (BI A (((List.range c).map G).map ((-1)*·))) (co g) k=co f k - cvL ((List.range c).map G) (co g) k:=λk=>by rw [CB,BX,<-hA];omega
   have q:=(Mc lm (X:=BI A (((List.range c).map G).map ((-1)*·))) (T:=0) (λk hk=>by rw [hX,J k ⋯];omega)).1;have M:((List.range (min L f.length)).map F).any (λz=>!decide (z=0))=true:=by simpa using Y
   obtain ⟨z,ba,an⟩:=List.any_eq_true.mp M;obtain ⟨k,hk,rfl⟩:=Ap.mp ba;have hk:=C5.mp hk;have e:=hX k;rw [CJ,F5 g (λj=>q j (AY j)),<-hF k ⋯] at e;rw [<-e] at an;simp at an
  ·have M:((List.range (min L f.length)).map F).any (λz=>!decide (z=0))=false:=by simpa using Y
   have B:=a0 _ _ U;rw [Iw] at B;refine AF rfl (kR y _ _ (s2.trans a0) B λk=>?_);by_cases hk:f.length - c<=k
   ·exact J k hk
   ·have:=hF k ⋯;rw [wA M k ⋯] at this;omega
def Iy {K:W.Frag} {a:Addr} {capt:List (Option Nat)} {f:TE} {g:L2.St} {Q:VK} {H:Hp} {ns:de} (F:Int->Int) (hp:H a=some (.lst (ns.map V.int))) (r:ns.length<=1000)
  (k:∀ n,n∈ns->∀ P:VK,P (.int (F n)) H->f ((Ch capt g).set 0 (some (.int n))) H P) (m:∀ p,H p=none->Q (.ref p) (upd H p (.lst ((ns.map F).map V.int)))):CompJ (af K a) capt (AG 0) f g Q H:=by
 refine CompJ.lst (xs:=ns.map V.int) (λi d b=>i<=ns.length/\b=H/\d=((ns.map F).take i).map V.int) ⟨AY _,rfl,rfl⟩ ?_ ?_ ?_
 ·rintro i d b ⟨j,rfl,rfl⟩;refine ⟨by rw [AK];exact j,sz ?_,SqL.of hp⟩;rw [AK,BQ];omega
 ·rintro i x d b c ⟨j,rfl,rfl⟩;rw [Aa] at c;cases e:ns[i]? with
  | none=>rw [e] at c;cases c
  | some n=>
    rw [e] at c;obtain rfl:V.int n=x:=nR c;have o:i<ns.length:=(BF.mp e).1;show f ((Ch capt g).set 0 (some (.int n))) b _;refine k n (BC e) _ ⟨⋯,rfl,?_⟩;rw [Ez V.int (q:=F n) (by rw [Aa,e];rfl)]
 ·rintro d b ⟨_,rfl,rfl⟩ p h;have e:(ns.map F).take (ns.map V.int).length=ns.map F:=by rw [AK,show ns.length=(ns.map F).length by rw [AK],CA]
  rw [e];exact m p h
def wC (h:Ic K vs H Q E):Qk K { nx:=λ_ a=>Q .non a,rt:=Q } (L2.start ["row","prime"] vs) H:=by
 obtain ⟨p,e,m,rfl,hp,b,c,q⟩:=h;unfold Qk;rwa [];refine ⟨⟨_,SqL.of hp⟩,Iy (·% m) hp c (λn _ P d=>?_) q⟩;rwa [];exact ⟨b,d⟩
theorem Iz {F:Int->Int} (a:F 0=0) (ns:de) (k:Nat):co (ns.map F) k=F (co ns k):=by
 unfold co;rw [AI,AI,Aa];cases ns[k]? with
 | none=>exact a.symm
 | some z=>rfl
def Tq {ns:de} {z:Int} (h:z∈DU ns):z∈ns:=Fs h
def wD (ns:de):(DU ns).length<=ns.length:=by rw [MX];exact MW _ _
def GC (a m:Int):m∣a % m - a:=⟨-(a / m),by have:=Int.emod_add_mul_ediv a m;rw [Int.mul_neg];omega⟩
def wE (h:He K vs H Q E):Ql K { nx:=λ_ b=>Q .non b,rt:=Q } (L2.start ["row","prime"] vs) H:=by
 obtain ⟨p,g,m,rfl,hp,a,c,q⟩:=h;unfold Ql;rwa [hp];refine ⟨_,rfl,a,c,λr d=>?_⟩;refine ⟨_,rfl,λt e=>?_⟩;refine q t _ _ ((AQ d _).trans (AQ e _)) upd_same (Me _) (CF (wD _) (by rw [AK];exact AV _)) ⟨λz f=>?_,λk=>?_⟩
 ·obtain ⟨y,_,rfl⟩:=Ap.mp (Tq f);exact ⟨B9 _ ⋯,CM _ a⟩
 ·rw [Mf,Iz (Int.zero_emod m)];exact GC _ _
def wF (h:Ib K vs H Q E):Qj K { nx:=λ_ d=>Q .non d,rt:=Q } (L2.start ["whole","prime","one","other","one_weight","other_weight","quotient","rest"] vs) H:=by
 obtain ⟨a,p,rfl,p2,I,q⟩:=h;unfold Qj Qi Qh Qg Qf;rwa [];refine ⟨⋯,?_⟩;have J:=B9 a (show p≠0 by omega);have a1:=CM a (show 0<p by omega)
 refine DJ (λn m d=>∃ (x y s t:Int) (u v:dc),m=[some (.int a),some (.int p),some (.int x),some (.int y),some (.int s),some (.int t),u,v]/\d=H/\n=y.toNat/\0<=y/\y<x/\x<=p/\
  Int.gcd x y=Int.gcd a p/\p∣x - s*a/\p∣y - t*a/\(t.natAbs:Int)*x+(s.natAbs:Int)*y<=p/\(s.natAbs:Int)<=p) (a % p).toNat ⟨p,a % p,0,1,none,none,rfl,rfl,rfl,J,a1,Int.le_refl _,?_,⟨1,⋯⟩,?_,by simp,by simp;omega⟩ ?_
 ·rw [K6 a ⋯]
 ·rw [show a % p - 1*a=a % p - a by omega];exact GC a p
 ·rintro n m d ⟨x,y,s,t,u,v,rfl,rfl,rfl,e,yx,xp,f,o,r,hb,L⟩;have tx:(t.natAbs:Int)*1<=(t.natAbs:Int)*x:=DZ ⋯ ⋯;have sy:0<=(s.natAbs:Int)*y:=EZ ⋯ e;have M:(t.natAbs:Int)<=p:=by omega
  rwa [];refine Ah (λc=>?_) (λc=>?_)
  ·have w:0<y:=by
    have:y≠0:=by simpa using c
    omega
   unfold Qd Qc Qb Qa QZ QY QX;have q0:=Int.ediv_nonneg (show 0<=x by omega) e;have q1:x / y<=x:=Int.ediv_le_self y ⋯;have r0:=B9 x (show y≠0 by omega);have r1:=CM x w;have g:x - x / y*y=x % y:=by have:=Int.emod_add_mul_ediv x y;rw [Cq] at this;omega
   have B:∀ {z:Int},z.natAbs<=p.natAbs->Bd 60000000 z:=λh=>(I.le h).mono ∅;refine ⟨λN O=>∃ P,P<y.toNat/\_,λ_ _ h=>h,?_⟩;rwa [];refine ⟨w,Bf (B ⋯) (B ⋯),Bf (B ⋯) (B ⋯),?_⟩;refine ⟨(x - x / y*y).toNat,⋯,rfl,⋯,⋯,⋯,?_,r,?_,?_,M⟩
   ·rw [g,K6 x e];exact f
   ·obtain ⟨b,i⟩:=o;obtain ⟨A,R⟩:=r
    exact ⟨b - x / y*A,by
     generalize x / y=j at *;have k:x=s*a+p*b:=by omega
     have C:y=t*a+p*A:=by omega
     rw [k,C];ext⟩
   ·have S:((s - x / y*t).natAbs:Int)<=(s.natAbs:Int)+x / y*(t.natAbs:Int):=by
     have T:=Int.natAbs_sub_le s (x / y*t);rw [Bv] at T;have U:((x / y).natAbs:Int)=x / y:=by omega
     have h3:(((x / y).natAbs*t.natAbs:Nat):Int)=x / y*(t.natAbs:Int):=by rw [Int.natCast_mul,U]
     omega
    have n2:=Dn S e;rw [g];have W:(t.natAbs:Int)*(x % y)=(t.natAbs:Int)*x - (t.natAbs:Int)*(x / y*y):=by rw [<-g,Int.mul_sub]
    rw [W];generalize (t.natAbs:Int)=D at *;generalize (s.natAbs:Int)=F at *;generalize x / y=j at *;have n4:(F+j*D)*y=F*y+D*(j*y):=by ext
    omega
  ·have X:y=0:=by simpa using c
   unfold Qe;rwa [];refine ⟨⋯,q _ (B9 _ ⋯) (CM _ ⋯) λY=>?_⟩
   have x1:x=1:=by
    rw [X] at f;rw [Int.gcd_zero_right,Y] at f;omega
   obtain ⟨b,i⟩:=o;obtain ⟨G,Z⟩:=GC s p;refine ⟨G*a - b,?_⟩;have k:s % p=s+p*G:=by omega
   rw [k];have C:s*a=1 - p*b:=by omega
   ext
def wG (h:Hf K vs H Q E):Qm K { nx:=λ_ w=>Q .non w,rt:=Q } (L2.start ["row","prime","factor"] vs) H:=by
 obtain ⟨q,a,p,rfl,g,o,u,x,A,b,k⟩:=h;have C:(2:Int)<=(p:Int):=by have:=o.two;omega
 unfold Qm;rwa [g];by_cases d:a=[]
 ·subst d;refine Ah (λ_=>?_) (λc=>absurd rfl c);refine ⟨sz ∅,λr j=>k r [] 0 _ (AQ j _) upd_same rfl (λz=>absurd rfl z) ⟨λz b=>(by cases b),λi=>?_⟩⟩;show (p:Int)∣co [] i - 0*co [] i;rw [Aq (AY _)];exact ⟨0,⋯⟩
 have D:0<a.length:=Ce.mpr d;refine Ah (λc=>absurd c (by simpa using d)) (λ_=>?_);have G:=Ix D;rwa [G];refine ⟨C,u,λf I J m=>?_⟩
 have L:co a (a.length - 1)≠0:=by
  rcases A with h | h
  ·exact absurd h d
  ·exact h
 have O:0<=co a (a.length - 1)/\co a (a.length - 1)<(p:Int):=b _ (by
  unfold co;rw [AI,AT ⋯];exact CT _)
 have M:Int.gcd (co a (a.length - 1)) (p:Int)=1:=o.cop λz=>by
  have:=Ea ⋯ z;omega
 have m:=m M;have B:∀ {z:Int},0<=z->z<(p:Int)->Bd 60000000 z:=λR S=>(u.le ⋯).mono ∅;refine ⟨⟨_,SqL.of g⟩,Iy (λn=>n*f % (p:Int)) g x (λn d P N=>?_) λr j=>?_⟩
 ·rwa [];exact ⟨Bf (B (b n d).1 (b n d).2) (B I J),⋯,N⟩
 ·have v:∀ i,co (a.map λn=>n*f % (p:Int)) i=co a i*f % (p:Int):=λi=>Iz (F:=λn=>n*f % (p:Int)) (by simp) a i;refine k r _ f _ (AQ j _) upd_same (AK ..) (λ_=>?_) ⟨λz b=>?_,λi=>?_⟩
  ·rw [AK,v];obtain ⟨c,T⟩:=m;have e:co a (a.length - 1)*f=1+(p:Int)*c:=by rw [Cq];omega
   rw [e,Int.add_mul_emod_self_left];exact Int.emod_eq_of_lt ∅ ⋯
  ·obtain ⟨y,_,rfl⟩:=Ap.mp b;exact ⟨B9 _ ⋯,CM _ ⋯⟩
  ·rw [v];show (p:Int)∣co a i*f % (p:Int) - f*co a i;rw [Cq f];exact GC _ _
def wH (h:Hg K vs H Q E):Q7 K { nx:=λ_ d=>Q .non d,rt:=Q } (L2.start ["whole","prime","rest"] vs) H:=by
 obtain ⟨w,p,rfl,a,k⟩:=h;unfold Q7;rwa [];have g:=B9 w (show p≠0 by omega);have i:=CM w a;have b:=GC w p;refine ⟨a,IntMulOk.of_left (intBits_le_64 ⋯ ⋯),Ah (λc=>?_) (λc=>?_)⟩
 ·refine k _ ?_ ⋯;obtain ⟨e,f⟩:=b;exact ⟨e - 1,by rw [Int.mul_sub];omega⟩
 ·exact k _ b ⋯
def wI (h:KA K vs H Q E):Qr K { nx:=λ_ a=>Q .non a,rt:=Q } (L2.start ["row","divisor","modulus"] vs) H:=by
 obtain ⟨p,q,d,e,m,b,rfl,hp,f,g,i,j,n,c,o,u,v,k⟩:=h;unfold Qr;rwa [hp,f];refine ⟨d,rfl,e,rfl,g,i,j,b,n,c,o,u,v,λt r s w x a y z D A F tr B C _=>?_⟩;refine ⟨_,z,?_⟩;rwa [];exact k s w x a y A tr B C
def wJ (h:KC K vs H Q E):Qs K { nx:=λ_ P=>Q .non P,rt:=Q } (L2.start ["row","other","prime","rest"] vs) H:=by
 obtain ⟨a,b,ns,ms,p,rfl,ha,hb,pp,Y,hn,hm,h0,k⟩:=h;have p2:(2:Int)<=(p:Int):=by have:=pp.two;omega
 unfold Qs;rwa [ha];refine ⟨ns,rfl,⋯,hn,λc r1 H1 s1 hc a4 l1 w=>?_⟩;refine ⟨r1,p,rfl,hc,pp,Y,⋯,a4,w.1,λd n f H2 s2 hd l2 o2 R=>?_⟩;have a5:=s2 _ _ (s1 _ _ hb);rwa [a5];refine ⟨ms,rfl,⋯,hm,λc' r3 H3 s3 ab ac l3 L=>?_⟩;refine ⟨r3,p,rfl,ab,pp,Y,⋯,ac,L.1,λd' r4 f' H4 s4 aj l4 o4 S=>?_⟩;have al:Same H H4:=((s1.trans s2).trans s3).trans s4;have am:=(s3.trans s4) _ _ hd
 have I:∀ {g h:dI} {q:de} {f:Int},Dm (p:Int) g h->Md (p:Int) q (λk=>f*h k)->Dm (p:Int) g (co q):=λ{g h q f} d v=>by
  refine Dm.congr (Dm.less d d f 0 0) λk=>?_;have:=v.2 k;show (p:Int)∣co q k - (f*h k - 0*_);rw [D2,Int.sub_zero];exact this
 have nz:∀ {i q M:de} {f:Int},(∃ k,¬ (p:Int)∣co i k)->Md (p:Int) q (co i)->M.length=q.length->0<M.length:=λ{i q M f} ⟨k,hk⟩ v e=>by
  rcases Er M.length with z | z
  ·exfalso;have:=v.2 k;rw [Aq ⋯] at this;have t2:=Int.dvd_neg.mpr this;rw [show ∀ x:Int,-(0 - x)=x by intro x;omega] at t2;exact hk t2
  ·exact z
 have M1:∀ {i q:de},Md (p:Int) q (co i)->∀ {g:dI},Dm (p:Int) g (co i)->Dm (p:Int) g (co q):=λv g d=>Dm.congr d v.2
 have J:∀ {g:dI} {r n:de} {f:Int},Md (p:Int) n (λk=>f*co r k)->n.length=r.length->(r≠[]->co n (n.length - 1)=1)->Dm (p:Int) g (co n)->Dm (p:Int) g (co r):=λ{g r n f} v l o d=>by
  by_cases r0:r=[]
  ·exact Dm.zero _ _ λk=>by rw [r0,Aq (AY _)];exact DH _
  ·refine Dm.congr (Dm.less d d (co r (r.length - 1)) 0 0) λk=>?_;show (p:Int)∣co r k - (co r (r.length - 1)*co n k - 0*_);rw [D2,Int.sub_zero];have X:=v.2 k;have T:=v.2 (n.length - 1);rw [o r0,l] at T;have q1:(p:Int)∣co r (r.length - 1)*(co n k - f*co r k):=Fu X;have q2:(p:Int)∣co r k*(1 - f*co r (r.length - 1)):=Fu T;refine Bw (Int.dvd_sub q2 q1) (Fr ?_);ext
 have O:∀ {g:dI} {i r n:de} {f:Int},Md (p:Int) r (co i)->Md (p:Int) n (λk=>f*co r k)->n.length=r.length->(r≠[]->co n (n.length - 1)=1)->Dm (p:Int) g (co n)->Dm (p:Int) g (co i):=λ{g i r n f} w v l o d=>Dm.congr (J v l o d) λk=>by
  have:=Int.dvd_neg.mpr (w.2 k);refine Bw this (Fr ?_);omega
 refine DJ (λm σ P=>∃ (x y:Addr) (i j:de) (u:dc),σ=[some (.ref x),some (.ref y),some (.int (p:Int)),u]/\Same H P/\P x=some (.lst (i.map V.int))/\P y=some (.lst (j.map V.int))/\m=j.length/\i.length<=1000/\j.length<=1000/\(0<i.length\/0<j.length)/\(i≠[]->co i (i.length - 1)=1)/\(j≠[]->co j (j.length - 1)=1)/\(∀ z∈i,0<=z/\z<(p:Int))/\(∀ z∈j,0<=z/\z<(p:Int))/\
  (∀ g:dI,Dm (p:Int) g (co ns)->Dm (p:Int) g (co ms)->Dm (p:Int) g (co i)/\Dm (p:Int) g (co j))/\(∀ g:dI,Dm (p:Int) g (co i)->Dm (p:Int) g (co j)->Dm (p:Int) g (co ns)/\Dm (p:Int) g (co ms))) r4.length ⟨d,d',n,r4,none,rfl,al,am,aj,rfl,⋯,⋯,?_,?_,?_,R.1,S.1,λg C F=>⟨I (M1 w C) R,I (M1 L F) S⟩,λg C F=>⟨O w R l2 o2 C,O L S l4 o4 F⟩⟩ ?_
 ·rcases h0 with h | h
  ·exact .inl (nz (f:=f) h w l2)
  ·exact .inr (nz (f:=f) h L l4)
 ·intro z;exact o2 λe=>z (CU.mp (by rw [l2,e];rfl))
 ·intro z;exact o4 λe=>z (CU.mp (by rw [l4,e];rfl))
 ·rintro m σ P ⟨x,y,i,j,u,rfl,sH,hx,hy,rfl,xl,yl,ne,ox,oy,bx,bY,hD,hE⟩;rwa [hy];by_cases N:j=[]
  ·subst N;refine Ah (λc=>absurd c (by simp)) (λ_=>?_);have x0:0<i.length:=by simpa using ne
   have Z:Dm (p:Int) (co i) (co i):=⟨[1],λk=>by
    have e:cvL [1] (co i) k=co i k:=by
     cases k with
     | zero=>rw [Az];omega
     | succ k=>rw [Ar,BD];omega
    rw [e,Int.sub_self];exact DH _⟩
   have zz:Dm (p:Int) (co i) (co []):=Dm.zero _ _ λk=>by rw [Aq (AY _)];exact DH _
   exact k x i P sH hx x0 xl (ox (Ce.mp x0)) bx (λg C F=>(hD g C F).1) (hE _ Z zz).1 (hE _ Z zz).2
  ·have y0:0<j.length:=Ce.mpr N;refine Ah (λ_=>?_) (λc=>absurd N (by simpa using c));refine ⟨λap aq=>∃ m',m'<j.length/\_,λ_ _ h=>h,?_⟩;rwa [hx,hy];have B:∀ z:Int,0<=z->z<(p:Int)->Bd 45000 z:=λz X T=>Y.le ⋯;refine ⟨i,rfl,j,rfl,y0,oy N,⋯,45000,Y,λz hz=>B z (bY z hz).1 (bY z hz).2,∅,xl,yl,λs G q H2 a0 hs an ar v=>?_⟩
   have U:∀ g:dI,Dm (p:Int) g (co j)->Dm (p:Int) g (co q)->Dm (p:Int) g (co i):=λg C F=>by
    obtain ⟨S1,X⟩:=C;obtain ⟨D,T⟩:=F;refine ⟨BI D (CC G S1),λk=>?_⟩;rw [CB,Ck];have e1:=b_ X G k;have m2:(p:Int)∣co q k - (co i k - cvL G (co j) k):=v.2 k;have:=DF (Int.dvd_sub (T k) m2) e1;refine Bw this (Fr ?_);omega
   refine ⟨q,p,rfl,hs,pp,Y,⋯,an,v.1,λt ts f H3 a3 ht lt ot W=>?_⟩;refine ⟨ts.length,⋯,(sH.trans a0).trans a3,j,(a0.trans a3) _ _ hy,ts,ht,rfl,yl,⋯,.inl y0,oy,λz=>ot λe=>z (CU.mp (by rw [lt,e];rfl)),bY,W.1,λg C F=>⟨(hD g C F).2,?_⟩,λg C F=>hE g (U g C (J W lt ot F)) C⟩;obtain ⟨dx,dy⟩:=hD g C F
   have dr:Dm (p:Int) g (co q):=by
    obtain ⟨S1,X⟩:=dx;obtain ⟨D,T⟩:=dy;refine Dm.congr (f:=λk=>co i k - cvL G (co j) k) ⟨BI S1 ((CC G D).map (-1*·)),λk=>?_⟩ v.2;rw [CB,BX,Ck]
    have e:(p:Int)∣cvL G (co j) k - cvL G (cvL D g) k:=by
     have ao:∀ (A:de) (k:Nat),(p:Int)∣cvL A (co j) k - cvL A (cvL D g) k:=by
      intro A
      induction A with
      | nil=>intro k;rw [BD,BD];exact ⟨0,⋯⟩
      | cons a A ih=>
        intro k;rw [F3,F3]
        have i2:(p:Int)∣Dt (cvL A (co j)) k - Dt (cvL A (cvL D g)) k:=by
         cases k with
         | zero=>exact ⟨0,by show (0:Int) - 0=_;omega⟩
         | succ k=>exact ih k
        have i1:(p:Int)∣a*(co j k - cvL D g k):=Fu (T k);have:=DF i1 i2;rw [show a*(co j k - cvL D g k)+(Dt (cvL A (co j)) k - Dt (cvL A (cvL D g)) k)=a*co j k+Dt (cvL A (co j)) k - (a*cvL D g k+Dt (cvL A (cvL D g)) k) by rw [Int.mul_sub];omega] at this;exact this
     exact ao G k
    have:=Int.dvd_sub (X k) e;rw [show co i k - cvL S1 g k - (cvL G (co j) k - cvL G (cvL D g) k)=co i k - cvL G (co j) k - (cvL S1 g k + -1*cvL G (cvL D g) k) by omega] at this;exact this
   exact I dr W
def wK (h:J9 K vs H Q E):zL K (eC Q) (L2.start ["row","divisor","modulus","rest","last","quotient","shift","weight","place"] vs) H:=by
 obtain ⟨p,q,d,g,m,b,rfl,hp,hq,m0,ml,mp,bm,a4,bb,hn,hm,kR⟩:=h;obtain ⟨L,hL⟩:∃ L,g.length=L+1:=⟨g.length - 1,⋯⟩;have a5:g.length - 1=L:=by omega
 rw [a5] at ml;generalize hc:d.length - L=c;refine Ag (Cm (AF rfl ⟨_,_,rfl,hp,λa ha=>?_⟩));have sa:=AQ ha (.lst (d.map V.int));have ab:=sa _ _ hp;have ac:=sa _ _ hq;have al:((List.map V.int g).length:Int) - 1=(L:Int):=by rw [AK];omega
 refine ⟨_,rfl,_,_,rfl,ac,_,_,rfl,rfl,?_⟩;show Qq K _ [some (.ref p),some (.ref q),some (.int m),some (.ref a),some (.int (((List.map V.int g).length:Int) - 1)),none,none,none,none] _;rw [al];refine Ag (AX (En (F_ ⟨Cz,λx hx=>?_⟩)));have am:=AQ hx (.lst [.int 0]) _ _ ab
 have T:(if (0:Int) > ((List.map V.int d).length:Int) - (L:Int) then (0:Int) else ((List.map V.int d).length:Int) - (L:Int))=(c:Int):=by
  rw [AK];split <;> omega
 refine ⟨_,rfl,_,_,rfl,am,_,rfl,_,_,rfl,rfl,_,_,rfl,?_⟩;refine ⟨_,(c:Int),_,rfl,congrArg V.int T,upd_same,⋯,⋯,sz (by simp;omega),λy hy=>?_⟩;refine Lo ha hx hy λH1 U W sH X an=>?_;rw [Ka d] at U;rw [Bg,Tf] at W;have ao:=sH _ _ hp;have ap:((List.map V.int d).length:Int) - (L:Int) - 1=(d.length:Int) - (L:Int) - 1:=by rw [AK]
 have aq:((d.length:Int) - (L:Int) - 1 - -1).toNat=c:=by omega
 refine PC ?_;refine ⟨_,rfl,_,_,rfl,ao,_,rfl,_,_,rfl,rfl,_,_,rfl,rfl,_,rfl,_,rfl,(d.length:Int) - (L:Int) - 1,_,by rw [<-ap],⟨⋯,⋯,∅,∅⟩,?_⟩;rw [aq]
 let Iv:Nat->L2.St->Hp->Prop:=λi O n=>i<=c/\∃ (F G:dI) (u v w:dc),O=[some (.ref p),some (.ref q),some (.int m),some (.ref a),some (.int (L:Int)),some (.ref y),u,v,w]/\Same H n/\n a=some (.lst (A6 d.length F))/\n y=some (.lst (A6 c G))/\
  (∀ j,j<c - i->G j=0)/\(∀ k,k<d.length - i->m∣F k - (co d k - cvL ((List.range c).map G) (co g) k))/\(∀ k,d.length - i<=k->m∣co d k - cvL ((List.range c).map G) (co g) k)/\(∀ j,j<c->0<=G j/\G j<m)
 refine ForJ.down Iv ⟨AY _,co d,λ_=>0,none,none,none,rfl,sH,U,W,λ_ _=>rfl,λk _=>by rw [KZ];exact ⟨0,⋯⟩,λk hk=>by rw [KZ,Aq ⋯];exact ⟨0,⋯⟩,λk _=>⟨Int.le_refl 0,mp⟩⟩ ?_ ?_
 ·rintro i O n hi ⟨_,F,G,u,v,w,rfl,s2,I,J,hG,hF,P,bG⟩;have b4:=s2 _ _ hq;have ic:i<c:=hi;have ar:((d.length:Int) - (L:Int) - 1 - (i:Int))=((c - 1 - i:Nat):Int):=by omega
  rw [ar];generalize hs:c - 1 - i=s;have b5:s+L=d.length - 1 - i:=by omega
  have aT:M_ (A6 d.length F) ((s:Int)+(L:Int))=some (V.int (F (s+L))):=DC (j:=s+L) ⋯ (EB F ⋯);refine ⟨_,rfl,_,rfl,_,rfl,_,_,rfl,rfl,_,_,_,_,rfl,rfl,I,aT,_,rfl,_,_,rfl,rfl,mp,?_⟩;show Qo K _ [some (.ref p),some (.ref q),some (.int m),some (.ref a),some (.int (L:Int)),some (.ref y),some (.int (s:Int)),some (.int (F (s+L) % m)),w] n;have w0:=B9 (F (s+L)) (show m≠0 by omega);have w1:=CM (F (s+L)) mp;have wd:=GC (F (s+L)) m;generalize hw:F (s+L) % m=f at w0 w1 wd ⊢;have b0:Bd b f:=bm.le ⋯;refine ⟨_,rfl,_,rfl,_,rfl,_,_,_,s,rfl,rfl,J,by rw [EW];exact Gn rfl ⋯,?_⟩;show Qn K _ [some (.ref p),some (.ref q),some (.int m),some (.ref a),some (.int (L:Int)),some (.ref y),some (.int (s:Int)),some (.int f),w] (upd n y (.lst ((A6 c G).set s (V.int f))));rw [show (A6 c G).set s (V.int f)=A6 c (λj=>if j=s then f else G j) from Iq ⋯ (nH rfl) λj _ R=>nG R];have s3:Same H (upd n y (.lst (A6 c λj=>if j=s then f else G j))):=λz o h=>Kp.upd z o (Ax h an) (s2 z o h);have A:(upd n y (.lst (A6 c λj=>if j=s then f else G j))) a=_:=(Au X).trans I;have S:(upd n y (.lst (A6 c λj=>if j=s then f else G j))) y=_:=upd_same;generalize (upd n y (.lst (A6 c λj=>if j=s then f else G j)))=H3 at s3 A S ⊢;have Y:∀ k,cvL ((List.range c).map λj=>if j=s then f else G j) (co g) k=cvL ((List.range c).map G) (co g) k+f*A5 s (co g) k:=λk=>To ⋯ (hG s ⋯) _ k
  have Z:∀ (F':dI) (u v w:dc) (C:Hp),Same H C->C a=some (.lst (A6 d.length F'))->C y=some (.lst (A6 c λj=>if j=s then f else G j))->(∀ k,k<d.length->F' k=F k - (if s<=k/\k - s<L then f*co g (k - s) else 0))->
    Iv (i+1) [some (.ref p),some (.ref q),some (.int m),some (.ref a),some (.int (L:Int)),some (.ref y),u,v,w] C:=λF' u v w C M B D eF=>by
   refine ⟨⋯,F',_,u,v,w,rfl,M,B,D,λj R=>?_,λk hk=>?_,λk hk=>?_,λj R=>?_⟩
   ·show (if j=s then f else G j)=0;rw [nG ⋯];exact hG j ⋯
   ·have hf:=hF k ⋯;rw [eF k ⋯,Y];unfold A5;by_cases h:s<=k
    ·rw [nH h,nH ⟨h,⋯⟩];rw [show ∀ x y z w:Int,x - y - (z - (w+y))=x - (z - w) by intro x y z w;omega];exact hf
    ·rw [nG h,nG ⋯];rw [show ∀ x z w:Int,x - 0 - (z - (w+f*0))=x - (z - w) by intro x z w;omega];exact hf
   ·rw [Y];by_cases ek:k=s+L
    ·have hf:=hF k ⋯;rw [ek] at hf ⊢;unfold A5;rw [nH ⋯,show s+L - s=L by omega,ml];obtain ⟨α,b6⟩:=hf;obtain ⟨β,b7⟩:=wd;exact ⟨-α - β,by rw [Int.mul_sub,Int.mul_neg];omega⟩
    ·have N:=P k ⋯;unfold A5;by_cases h:s<=k
     ·rw [nH h,Aq (a:=g) ⋯,Ec,Int.add_zero];exact N
     ·rw [nG h,Ec,Int.add_zero];exact N
   ·show 0<=(if j=s then f else G j)/\(if j=s then f else G j)<m;split
    ·exact ⟨w0,w1⟩
    ·exact bG j R
  refine ⟨_,rfl,rfl,_,rfl,Ah (λcw=>?_) (λcw=>?_)⟩
  ·refine ⟨_,rfl,_,rfl,⋯,⋯,?_⟩;rw [Bg];refine ForR.by (λj O C=>∃ (u:dc),O=[some (.ref p),some (.ref q),some (.int m),some (.ref a),some (.int (L:Int)),some (.ref y),some (.int (s:Int)),some (.int f),u]/\Same H C/\C a=some (.lst (A6 d.length λk=>F k - (if s<=k/\k - s<j then f*co g (k - s) else 0)))/\C y=some (.lst (A6 c λj=>if j=s then f else G j))) ⟨w,rfl,s3,?_,S⟩ ?_ ?_
   ·rw [A];exact congrArg (λl=>some (HO.lst l)) (MV λk _=>by rw [nG ⋯];omega)
   ·rintro j O C R ⟨u',rfl,M,B,D⟩;have b1:=M _ _ hq;have aj:M_ (g.map V.int) (0+(j:Int))=some (V.int (co g j)):=DC (j:=j) ⋯ (by rw [Ka];exact EB _ ⋯);refine ⟨_,rfl,_,rfl,_,rfl,_,_,rfl,rfl,_,_,_,_,rfl,rfl,B,DC (j:=s+j) ⋯ (EB _ ⋯),_,rfl,_,rfl,_,rfl,_,_,_,_,rfl,rfl,b1,aj,_,_,rfl,rfl,Bf b0 (FY a4 j),_,_,rfl,rfl,_,_,_,s+j,rfl,rfl,B,by rw [EW];exact Gn ⋯ ⋯,?_⟩;refine ⟨_,rfl,?_,?_,?_⟩
    ·intro z o h;exact Kp.upd z o (Ax h ha) (M z o h)
    ·refine upd_same.trans (congrArg (λl=>some (HO.lst l)) (Iq ⋯ ?_ λk _ hk=>?_))
     ·rw [nH ⋯,nG ⋯,show s+j - s=j by omega];omega
     ·by_cases h:s<=k/\k - s<j
      ·rw [nH h,nH ⋯]
      ·rw [nG h,nG ⋯]
    ·rw [Au (Ne.symm X)];exact D
   ·rintro O C ⟨u',rfl,M,B,D⟩;exact Z _ _ _ _ _ M B D λk _=>rfl
  ·have b2:f=0:=by simpa using cw
   exact Z F _ _ _ _ s3 A S λk _=>by rw [b2];split <;> omega
 ·rintro O n ⟨_,F,G,u,v,w,rfl,s2,I,J,hG,hF,P,bG⟩;rw [Iw] at J;show Qp K _ _ _;refine BY (DT (Df ⟨_,rfl,_,_,rfl,J,λt ht=>?_⟩));have st:=AQ ht (.lst (List.map V.int (DU (List.map G (List.range c)))));have A:=st _ _ I;have a0:upd n t (.lst (List.map V.int (DU (List.map G (List.range c))))) t=_:=upd_same;generalize upd n t (.lst (List.map V.int (DU (List.map G (List.range c)))))=H3 at st A a0 ⊢;refine A9 ⟨_,rfl,_,rfl,_,rfl,_,_,rfl,A,λz hz=>⟨_,rfl,z,(List.range (min L d.length)).map F,m,rfl,by rw [Mg];exact upd_same,mp,by rw [AK,A4];omega,λr rs C M b3 tr lr md=>?_⟩⟩;have a3:=(AQ hz _).trans M;rw [AK,A4] at lr;refine ⟨Cn,λe he=>?_⟩;have se:=AQ he (.tup [.ref t,.ref r])
  have cq:∀ k,cvL (DU ((List.range c).map G)) (co g) k=cvL ((List.range c).map G) (co g) k:=λk=>by
   rw [CJ,BN (λj=>Mf _ j) g k,<-CJ]
  refine kR e t r _ rs _ ((s2.trans st).trans (a3.trans se)) upd_same (se _ _ (a3 _ _ a0)) (se _ _ b3) (Me _) tr ⋯ ⟨md.1,λk=>?_⟩ λz hz=>?_
  ·have:=md.2 k;rw [Js] at this;show m∣co rs k - (co d k - cvL (DU ((List.range c).map G)) (co g) k);rw [cq];by_cases hk:k<min L d.length
   ·rw [nH hk] at this;have N:=DF this (hF k ⋯);rw [show ∀ x y z:Int,x - y+(y - z)=x - z by intro x y z;omega] at N;exact N
   ·rw [nG hk] at this;have N:=Int.dvd_sub this (P k ⋯);rw [show ∀ x y:Int,x - 0 - y=x - y by intro x y;omega] at N;exact N
  ·obtain ⟨j,R,rfl⟩:=Ap.mp (Tq hz);exact bG j (C5.mp R)
theorem SDs.tp {H H':Hp} (s:Same H H'):∀ {xs:d8} {a:List (de)},SDs H xs a->SDs H' xs a
 | [],[],_=>trivial
 | _::_,_::_,h=>⟨let ⟨p,e,q⟩:=h.1;⟨p,e,s _ _ q⟩,SDs.tp s h.2⟩
 | [],_::_,h=>h.elim
 | _::_,[],h=>h.elim
def SD.tp {H H':Hp} (s:Same H H') {p:Addr} {a:List (de)} (h:SD H p a):SD H' p a:=let ⟨b,e,q⟩:=h;⟨b,s _ _ e,q.tp s⟩
theorem SDs.length {H:Hp}:∀ {xs:d8} {a:List (de)},SDs H xs a->xs.length=a.length
 | [],[],_=>rfl
 | _::_,_::_,h=>congrArg (·+1) (SDs.length h.2)
 | [],_::_,h=>h.elim
 | _::_,[],h=>h.elim
theorem SDs.get {H:Hp}:∀ {xs:d8} {a:List (de)} {i:Nat} {v:V},SDs H xs a->xs[i]?=some v->∃ p r,v=.ref p/\a[i]?=some r/\H p=some (.lst (r.map V.int))
 | [],[],_,_,_,e=>by simp at e
 | _::_,r::_,0,_,h,e=>by
   simp at e;subst e;obtain ⟨p,e,q⟩:=h.1;exact ⟨p,r,e,rfl,q⟩
 | _::_,_::_,i+1,_,h,e=>by
   obtain ⟨p,r,b,c,d⟩:=SDs.get (i:=i) h.2 (by simpa using e);exact ⟨p,r,b,by simpa using c,d⟩
 | [],_::_,_,_,h,_=>h.elim
 | _::_,[],_,_,h,_=>h.elim
theorem SDs.snoc {H:Hp} {p:Addr} {r:de} (hp:H p=some (.lst (r.map V.int))):∀ {xs:d8} {a:List (de)},SDs H xs a->SDs H (xs++[.ref p]) (a++[r])
 | [],[],_=>⟨⟨p,rfl,hp⟩,trivial⟩
 | _::_,_::_,h=>⟨h.1,SDs.snoc hp h.2⟩
 | [],_::_,h=>h.elim
 | _::_,[],h=>h.elim
theorem SD.head {H:Hp} {p:Addr} {r:de} {c:List (de)} (h:SD H p (r::c)):∃ a b,H p=some (.lst (.ref a::b))/\H a=some (.lst (r.map V.int))/\SDs H (.ref a::b) (r::c):=by
 obtain ⟨b,e,q⟩:=h
 match b,q with
 | [],q=>exact q.elim
 | x::b,q=>
   obtain ⟨a,d,f⟩:=q.1;subst d;exact ⟨a,b,e,f,q⟩
def Hm {a:Type} (x:a) (xs:List a):M_ (x::xs) 0=some x:=by
 unfold M_ a8;rw [nH ∅,nH (by rw [Cd];omega)];rfl
def wL (h:IZ K vs H Q E):QU K { nx:=λ_ A=>Q .non A,rt:=Q } (L2.start ["strand","shared","row"] vs) H:=by
 obtain ⟨p,b,rfl,⟨I,hp,P⟩,hl,D,k⟩:=h;have lx:=P.length;unfold QU;rwa [];refine ⟨⟨_,SqL.of hp⟩,ForL.by (xs:=I) (λi J A=>∃ (g:Int) (u:dc),J=[some (.ref p),some (.int g),u]/\Same H A/\0<=g/\(∀ r∈b.take i,∀ z∈r,g∣z)/\(∀ d:Int,(∀ r∈b.take i,∀ z∈r,d∣z)->d∣g)) ⟨0,none,rfl,Same.refl H,Int.le_refl 0,λr D=>(by simp at D),λd _=>DH d⟩ ?_ ?_ ?_⟩
 ·rintro i J A _ ⟨g,u,rfl,s,_⟩;exact SqL.of (s _ _ hp)
 ·rintro i x J A R ⟨g,u,rfl,s,g0,B,L⟩;obtain ⟨a,r,rfl,j,S⟩:=P.get R;have v:=s _ _ S;have w:=D r (BC j);rwa [v];refine ⟨r,rfl,w.1,λg' C n T d1 d2 d3=>?_⟩;have F:b.take (i+1)=b.take i++[r]:=by rw [DY,j];rfl
  refine ⟨s.trans n,T,λU o z m=>?_,λd M=>d3 d ?_ λz m=>?_⟩
  ·rw [F] at o;rcases CS.mp o with h | h
   ·exact Bw d1 (B U h z m)
   ·rw [BL.mp h] at m;exact d2 z m
  ·exact L d λU o z m=>M U (by rw [F];exact List.mem_append_left _ o) z m
  ·exact M r (by rw [F];exact Dy _ (BL.mpr rfl)) z m
 ·rintro J A ⟨g,u,rfl,s,g0,B,L⟩;rw [lx,CA] at B L;have W:=s _ _ hp
  have gz:∀ r∈b,0<g\/r=[]:=λr f=>by
   rcases Int.lt_or_le 0 g with h | h
   ·exact .inl h
   ·right;have G:g=0:=by omega
    rcases (D r f).2 with h | h
    ·exact h
    ·exfalso;by_cases a0:r.length=0
     ·rw [Aq ⋯] at h;exact h rfl
     ·have:=B r f (co r (r.length - 1)) (by
       unfold co;rw [AI,AT ⋯];exact CT _)
      rw [G] at this;exact h (Int.zero_dvd.mp this)
  rwa [];refine ⟨⟨_,SqL.of W⟩,CompJ.lst (xs:=I) (λi y C=>i<=b.length/\Same H C/\SDs C y ((b.take i).map λr=>r.map (·/ g))) ⟨AY _,s,trivial⟩ ?_ ?_ ?_⟩
  ·rintro i y C ⟨X,n,q⟩;refine ⟨⋯,sz ?_,SqL.of (n _ _ hp)⟩;rw [q.length,AK,BQ];omega
  ·rintro i x y C R ⟨X,n,q⟩;obtain ⟨a,r,rfl,j,S⟩:=P.get R;have v:=n _ _ S;have w:=D r (BC j);have a3:i<b.length:=(BF.mp j).1;rwa [v];refine ⟨r,rfl,gz r (BC j),w.1,λt N=>?_⟩;refine ⟨⋯,n.trans (AQ N _),?_⟩;have F:(b.take (i+1)).map (λr=>r.map (·/ g))=(b.take i).map (λr=>r.map (·/ g))++[r.map (·/ g)]:=by rw [DY,j];simp
   rw [F];exact SDs.snoc upd_same (q.tp (AQ N _))
  ·rintro y C ⟨_,n,q⟩ t N;rw [lx,CA] at q;have O:=AQ N (.lst y);by_cases gp:0<g
   ·refine k t _ _ (n.trans O) ⟨y,upd_same,q.tp O⟩ ⟨g,gp,?_⟩ (.inr λd M=>?_)
    ·rw [List.map_map]
     conv=>lhs;rw [<-List.map_id b]
     refine GI λr f=>?_;show r=(r.map (·/ g)).map (g*·);rw [List.map_map]
     conv=>lhs;rw [<-List.map_id r]
     refine GI λz m=>?_;show z=g*(z / g);rw [Int.mul_ediv_cancel' (B r f z m)]
    ·have Y:d*g∣g:=L (d*g) λr f z m=>by
      have X:=M (r.map (·/ g)) (Ap.mpr ⟨r,f,rfl⟩) (z / g) (Ap.mpr ⟨z,m,rfl⟩);obtain ⟨c,Z⟩:=X;refine ⟨c,?_⟩;have:=Int.mul_ediv_cancel' (B r f z m);rw [<-this,Z];ext
     obtain ⟨c,Z⟩:=Y
     have e:g*(d*c)=g*1:=by rw [Int.mul_one];conv=>rhs;rw [Z]
                            ext
     have e1:=FA ⋯ e;have:d.natAbs*c.natAbs=1:=by rw [<-Bv,e1];rfl
     exact Nat.eq_one_of_mul_eq_one_right this
   ·have G:∀ r∈b,r=[]:=λr f=>by
     rcases gz r f with h | h
     ·exact absurd h gp
     ·exact h
    have em:b.map (λr=>r.map (·/ g))=b:=by
     conv=>rhs;rw [<-List.map_id b]
     refine GI λr f=>?_;rw [G r f];rfl
    rw [em] at q;refine k t b _ (n.trans O) ⟨y,upd_same,q.tp O⟩ ⟨1,∅,?_⟩ (.inl G)
    conv=>lhs;rw [<-List.map_id b]
    refine GI λr f=>?_;rw [G r f];rfl
def wM {r:de} (h:∀ d:Int,(∀ z∈r,d∣z)->d.natAbs=1):Prim r:=λc a=>h c λz b=>by
 obtain ⟨i,e,rfl⟩:=List.getElem_of_mem b;have:=a i;unfold co at this;rw [AI,AT e] at this;exact this
theorem wN (h:Hb K vs H Q E):QV K { nx:=λ_ j=>Q .non j,rt:=Q } (L2.start ["row"] vs) H:=by
 obtain ⟨p,u,rfl,hp,x,y,k⟩:=h;unfold QV;rwa [];refine ⟨sz ∅,λa A=>?_⟩;have v:=AQ A (.lst [.ref p]);refine ⟨[u],⟨[V.ref p],upd_same,⟨⟨p,rfl,v _ _ hp⟩,trivial⟩⟩,by simp,?_,λt c j B e m n=>?_⟩
 ·intro r o;rw [BL.mp o];exact ⟨x,y⟩
 obtain ⟨g,C,f⟩:=m
 match c,f,e,n with
 | [q],f,e,n=>
   obtain ⟨b,I,D,F,_⟩:=e.head;have i:u=q.map (g*·):=by simpa using f
   refine ⟨_,D,_,Hm _ _,k b q g j (v.trans B) F C i ?_⟩;rcases n with h | h
   ·left;rw [i,h q (BL.mpr rfl)];rfl
   ·right;exact wM λd G=>h d λr o z w=>by rw [BL.mp o] at w;exact G z w
 | [],f,_,_=>simp at f
 | _::_::_,f,_,_=>simp at f
def Tr {a b:de} (c:Tz a) (n:Nat) (h:∀ k,n<=k->co a k=0):a.length<=n:=by
 rcases Br n a.length with z | z
 ·rcases c with e | e
  ·rw [e] at z;simp at z
  ·exact absurd (h _ ⋯) e
 ·exact z
def wO {n:Nat} {a:de} (h:∀ k,Bd n (co a k)):∀ z∈a,Bd n z:=λz b=>by
 obtain ⟨i,c,rfl⟩:=List.getElem_of_mem b;have:=h i;unfold co at this;rw [AI,AT c] at this;exact this
def JA (g:Int) (a:de) (k:Nat):co (a.map (g*·)) k=g*co a k:=Iz (F:=(g*·)) ⋯ a k
def Mh {g:Int} (b:g≠0) {a:de} (h:Tz (a.map (g*·))):Tz a:=by
 rcases h with h | h
 ·left;exact List.map_eq_nil_iff.mp h
 ·right;rw [JA,AK] at h;exact λz=>h (by rw [z];omega)
def Mi {n:Nat} {g:Int} (c:0<g) {a:de} (h:∀ z∈a.map (g*·),Bd n z):∀ z∈a,Bd n z:=λz b=>(h (g*z) (Ap.mpr ⟨z,b,rfl⟩)).le (by
 rw [Bv];exact Nat.le_mul_of_pos_left _ ⋯)
def Ts {a b:Int} (c:b≠0) (h:a∣b):a.natAbs<=b.natAbs:=Ea ⋯ (DL.mpr h)
def wP (h:J8 K vs H Q E):QT K { nx:=λ_ d=>Q .non d,rt:=Q } (L2.start ["strand","other","shift","top","lead","shared","factor","weight"] vs) H:=by
 obtain ⟨p,q,o,rfl,j,w,J,k⟩:=h;obtain ⟨m,x,hp,f,_⟩:=j.head;obtain ⟨u,y,z,i,_⟩:=w.head;have A:M_ (V.ref m::x) 0=some (V.ref m):=Hm _ _;have B:M_ (V.ref u::y) 0=some (V.ref u):=Hm _ _;unfold QT;rwa [];refine DJ (λn v d=>v=[some (.ref p),some (.ref q),none,none,none,none,none,none]/\d=H/\n=0) 0 ⟨rfl,rfl,rfl⟩ ?_;rintro n v d ⟨rfl,rfl,rfl⟩;rwa [hp,z,f,i,A,B];refine Ah (λc=>by rw [AK] at c;exfalso;omega) (λ_=>?_);unfold QS;rwa [];refine ⟨[[]],j,∅,(λr C=>by rw [BL.mp C];exact ⟨∅,.inl rfl⟩),λt a D F b G _=>k t D F ?_⟩;obtain ⟨g,_,e⟩:=G;have I:a.length=1:=by have:=congrArg List.length e;simpa using this.symm
 obtain ⟨r,rfl⟩:∃ r,a=[r]:=List.length_eq_one_iff.mp I;have e:[]=r.map (g*·):=List.head_eq_of_cons_eq e;rw [List.map_eq_nil_iff.mp e.symm] at b;exact b
def Go {a:de} (h:Tz a) (b:a≠[]):Lz a:=by
 refine ⟨Ce.mpr b,?_⟩;rcases h with e | e
 ·exact absurd e b
 ·exact e
def wQ (h:Ia K vs H Q E):QW K { nx:=λ_ b=>Q .non b,rt:=Q } (L2.start ["strand","other","rest"] vs) H:=by
 obtain ⟨p,q,s,o,rfl,r,f,em,k⟩:=h;unfold QW;rwa [];refine DJ (λn i b=>(i=[some (.ref p),some (.ref q),none]/\b=H/\n=1)\/∃ (t:Addr) (u:dc),i=[some (.ref q),some (.ref t),u]/\Same H b/\SD b t [[]]/\o≠[]/\n=0) 1 (.inl ⟨rfl,rfl,rfl⟩) ?_;rintro n i b (⟨rfl,rfl,rfl⟩ | ⟨t,u,rfl,v,j,y,rfl⟩)
 ·obtain ⟨w,A,x,d,_⟩:=f.head;have g:M_ (V.ref w::A) 0=some (V.ref w):=Hm _ _;rwa [x,d,g];by_cases a:o=[]
  ·refine Ah (λc=>absurd a (by simpa using c)) (λ_=>?_);rw [nH a] at k;exact k p _ (Same.refl _) r
  ·refine Ah (λ_=>?_) (λc=>absurd (by simpa using c) a)
   have B:s=[]:=by
    rcases em with z | z
    ·exact z
    ·exact absurd z a
   rw [nG a] at k;refine ⟨λC D=>∃ F,F<1/\_,λ_ _ h=>h,?_⟩;rwa [x,d,g];refine Ah (λ_=>k q _ (Same.refl _) f) (λ_=>?_);refine ⟨by rw [<-B];exact r,o,f,Ce.mpr a,λt L G j=>?_⟩;exact ⟨0,∅,.inr ⟨G,j,a,rfl⟩⟩
 ·obtain ⟨e,I,J,m,_⟩:=j.head;have g:M_ (V.ref e::I) 0=some (V.ref e):=Hm _ _;rwa [J,m,g];refine Ah (λc=>absurd c (by simp)) (λ_=>?_);rw [nG y] at k;exact k q _ v (f.tp v)
def wR {G S:de} (a:Lz G) (h:∀ k,cvL S (co G) k=0) (k:Nat):co S k=0:=(Mc a (T:=0) λk _=>h k).1 k (AY k)
def Gen.Prim {r o:dI} {g:de} (G:Gen r o g):Prim g:=λc a=>by
 rcases Br c.natAbs 2 with h | h
 ·rcases Er c.natAbs with z | z
  ·exfalso;have b:c=0:=by omega
   have:=a (g.length - 1);rw [b] at this;exact G.lz.2 (Int.zero_dvd.mp this)
  ·omega
 ·exfalso;obtain ⟨n,d,_⟩:=G.prim h;exact d (Int.natAbs_dvd.mpr (a n))
def wS {R O A B G:de} (a:Lz G) (b:∀ k,co R k=cvL A (co G) k) (c:∀ k,co O k=cvL B (co G) k) (q:QI (co R) (co O) (co G)):QI (co A) (co B) A3:=by
 obtain ⟨d,f,U,V,h⟩:=q;refine ⟨d,f,U,V,λk=>?_⟩
 have z:=wR (S:=BI (BI (CC U A) (CC V B)) [-d]) a (λk=>by
  rw [CB,CB,Ck,Ck,<-BN b,<-BN c];have:=h k
  have e:cvL [-d] (co G) k = -d*co G k:=by
   cases k with
   | zero=>rw [Az];omega
   | succ k=>rw [Ar,BD];omega
  rw [e,Int.neg_mul,this];omega) k
 rw [DS,CB,CB,Ck,Ck,<-BN (DS A),<-BN (DS B)] at z
 have e:cvL [-d] A3 k = -d*A3 k:=by
  cases k with
  | zero=>rw [Az];omega
  | succ k=>rw [Ar,BD];omega
 rw [e,Int.neg_mul] at z;omega
def wT (p:Nat) (e:0<p) (S:de):(∀ k,(p:Int)∣co S k)\/∃ T,Lz T/\(∀ k,(p:Int)∣co S k - co T k)/\¬ (p:Int)∣co T (T.length - 1):=by
 have a:∀ k,co (S.map (·% (p:Int))) k=co S k % (p:Int):=λk=>Iz (F:=(·% (p:Int))) (Int.zero_emod _) S k;rcases FQ (S.map (·% (p:Int))) with z | ⟨T,b,_,c⟩
 ·exact .inl λk=>GG (by rw [<-a k];exact z k)
 ·refine .inr ⟨T,b,λk=>?_,λh=>?_⟩
  ·rw [c,a];exact ⟨co S k / p,by have:=Int.emod_add_mul_ediv (co S k) p;omega⟩
  ·have d:=c (T.length - 1);rw [a] at d;have f:=B9 (co S (T.length - 1)) (show (p:Int)≠0 by omega);have g:=CM (co S (T.length - 1)) (show (0:Int)<p by omega);have:=b.2;have l:=Int.le_of_dvd ⋯ h;omega
def cvT {p:Int} {S T:de} {g:dI} {n:Nat} (a:∀ i,n<=i->g i=0) (h:∀ k,p∣co S k - co T k) (k:Nat):p∣cvL S g k - cvL T g k:=by
 have e:∀ k,g k=co ((List.range n).map g) k:=λk=>by
  rw [Js];split
  ·rfl
  ·exact a k ⋯
 rw [BN e,BN e,CJ,CJ T]
 have:=b_ (S:=[1]) (f:=co S) (g:=co T) (λk=>by
  have d:cvL [1] (co T) k=co T k:=by
   cases k with
   | zero=>rw [Az];omega
   | succ k=>rw [Ar,BD];omega
  rw [d];exact h k) ((List.range n).map g) k
 rwa [BN (b:=cvL [1] (co T)) (c:=co T) (λk=>by
  cases k with
  | zero=>rw [Az];omega
  | succ k=>rw [Ar,BD];omega)] at this
def Tt {p:Nat} (hp:Pr p) {R A G a T:de} (b:∀ k,co R k=cvL A (co G) k) (m:Lz G) (c:¬ (p:Int)∣co G (G.length - 1)) (f:∀ k,(p:Int)∣co a k - cvL T (co G) k) (d:Dm (p:Int) (co a) (co R)):Dm (p:Int) (co T) (co A):=by
 obtain ⟨X,g⟩:=d;refine ⟨X,λk=>?_⟩
 have z:=Jr hp c (λi n=>by rw [Aq ⋯];exact DH _) (BI A ((CC X T).map ((-1)*·))) (λk _=>by
  rw [CB,BX,Ck,<-b];have h:=g k;have j:=b_ f X k;have:=DF h j;refine Bw this (Fr ?_);omega)
 have e:co A k - cvL X (co T) k=co (BI A ((CC X T).map ((-1)*·))) k:=by
  rw [DS (BI A _),CB,BX,Ck,<-DS,<-BN (DS T)];omega
 rw [e];exact Ti z k
def wU {x e c M p N:Nat} (b:x<2 ^ (c+1)) (d:N<=M) (a:2 ^ ((e+c+2)*M)<p):(2*(x*2 ^ e)) ^ N<p:=by
 have f:2*(x*2 ^ e)<=2 ^ (e+c+2):=by
  have:x*2 ^ e<=2 ^ (c+1)*2 ^ e:=CW _ (Dx b);have g:2 ^ (e+c+2)=2*(2 ^ (c+1)*2 ^ e):=by rw [<-DX,show e+c+2=(c+1+e)+1 by omega,Bk];omega
  omega
 refine EG ?_ a;rw [Nat.pow_mul];exact CF (Nat.pow_le_pow_left f N) (E5 (D1 ∅) d)
theorem Tu (g:dI):∀ k,cvL [1] g k=g k
 | 0=>by rw [Az];omega
 | k+1=>by rw [Ar,BD];omega
def wV {ns u b m G:de} {p c e N:Nat} {d:Int} (hp:Pr p) (ln:Lz ns) (lm:Lz u) (fn:Fi e ns) (fm:Fi e u) (hc:ns.length+u.length<2 ^ (c+1)) (hN:ns.length+u.length<=N+2) (n2:2<=N) (W:2 ^ ((e+c+2)*N)<p)
  (I:((Int.gcd (co ns (ns.length - 1)) (co u (u.length - 1)):Nat):Int)=d) (X:Gen (co ns) (co u) G) (r0:0<b.length) (one:co b (b.length - 1)=1) (ao:G.length<=b.length) (pG:¬ (p:Int)∣co G (G.length - 1)) (dG:Dm (p:Int) (co G) (co b)) (dn:Dm (p:Int) (co b) (co ns)) (dm:Dm (p:Int) (co b) (co u))
  (gl:m.length=b.length) (hg:∀ k,k<b.length->(p:Int)∣co m k - d*co b k) (hb:∀ z∈m,2*z.natAbs<=p):MQ (co m) (co ns)/\MQ (co m) (co u):=by
 have p2:=hp.two;have P:=X.Prim;have C:=X.lz;obtain ⟨A,J⟩:=a9 P X.rc.left;obtain ⟨B,U⟩:=a9 P X.rc.right;have Y:=fn G A (λk=>by rw [J k,CJ]);have bB:=fm G B (λk=>by rw [U k,CJ]);have bG:=fn A G J;have aj:=fn [1] ns (λk=>(Tu _ k).symm);have al:=wS C J U X.qi;obtain ⟨S,hS⟩:=dG;have p0:0<p:=by omega
 have D:¬ (p:Int)∣(1:Int):=λz=>by have:=Int.le_of_dvd ∅ z;omega
 rcases wT p p0 S with z | ⟨T,lT,hT,pT⟩
 ·exfalso;have o:=hS (b.length - 1);have r:=cvT (p:=(p:Int)) (S:=S) (T:=[]) (g:=co G) (n:=G.length) (λi L=>Aq L) (λk=>by rw [Aq (a:=[]) (AY _),Int.sub_zero];exact z k) (b.length - 1);rw [one] at o;rw [BD,Int.sub_zero] at r;have:=DF o r;rw [Int.sub_add_cancel] at this;exact D this
 have v:∀ k,(p:Int)∣co b k - cvL T (co G) k:=λk=>by
  have:=DF (hS k) (cvT (λi L=>Aq L) hT k (g:=co G) (n:=G.length));refine Bw this (Fr ?_);omega
 have t0:=lT.1;have g0:=C.1
 have tl:T.length+G.length=b.length+1:=by
  have tp:=KY lT C
  have np:¬ (p:Int)∣co T (T.length - 1)*co G (G.length - 1):=λz=>by
   rcases hp.mulI z with q | q
   ·exact pT q
   ·exact pG q
  have o:=v (T.length - 1+(G.length - 1));rw [tp] at o
  have c1:T.length - 1+(G.length - 1)<b.length:=by
   rcases Br (T.length - 1+(G.length - 1)) b.length with c | c
   ·exact c
   ·exfalso;rw [Aq c,Int.zero_sub] at o;exact np (Int.dvd_neg.mp o)
  have r:=v (b.length - 1);rw [one] at r;rcases Br (T.length - 1+(G.length - 1)) (b.length - 1) with c | c
  ·exfalso;rw [FP (n:=G.length) (λi L=>Aq L) T _ ⋯,Int.sub_zero] at r;exact D r
  ·omega
 have Z:=Tt hp J C pG v dn;have a3:=Tt hp U C pG v dm
 have f:∀ {R A:de},Lz R->(∀ k,co R k=cvL A (co G) k)->(∀ k,Bd e (co A k))->∃ j,Lz j/\j.length<=R.length/\co j=co A:=λ{R A} lR h _=>by
  rcases FQ A with z | ⟨j,F,_,ea⟩
  ·exact absurd (by rw [h,CJ,F5 G z]) lR.2
  ·refine ⟨j,F,?_,funext ea⟩
   have t:co R (j.length - 1+(G.length - 1))≠0:=by
    rw [h,CJ,BN (λk=>(ea k).symm) G,<-CJ,KY F C];exact CG F.2 C.2
   rcases Br (j.length - 1+(G.length - 1)) R.length with c | c
   ·have:=F.1;omega
   ·exact absurd (Aq c) t
 obtain ⟨j,lA,An,eA⟩:=f ln J Y;obtain ⟨B',lB,Bn,eB⟩:=f lm U bB
 have ap:2 ^ e<p:=EG (E5 ∅ (by
  have:(e+c+2)*1<=(e+c+2)*N:=EJ _ ⋯;omega)) W
 have T1:T.length=1:=by
  rcases Br T.length 2 with cT | cT
  ·omega
  ·exfalso
   have w:∀ {A:de},Lz A->(∀ k,Bd e (co A k))->Dm (p:Int) (co T) (co A)->2<=A.length:=λ{A} lA Y dA=>by
    have:=Dm.len hp t0 pT dA ⟨A.length - 1,λz=>by
     have o:=Y (A.length - 1);have r:=DL.mpr z;have h3:=Ea (by have:=lA.2;omega) r;rw [Cr] at h3;have:(co A (A.length - 1)).natAbs<2 ^ e:=o;omega⟩
    omega
   have a2:=w lA (λk=>by rw [eA];exact Y k) (by rw [eA];exact Z);have b2:=w lB (λk=>by rw [eB];exact bB k) (by rw [eB];exact a3);refine cD hp lA lB (by rw [eA,eB];exact al) (λk=>by rw [eA];exact Y k) (λk=>by rw [eB];exact bB k) a2 b2 cT pT (by rw [eA];exact Z) (by rw [eB];exact a3) (wU (x:=j.length+B'.length) (c:=c) (M:=N) ⋯ ⋯ W)
 obtain ⟨s,rfl⟩:∃ s,T=[s]:=by
  match T,T1 with
  | [s],_=>exact ⟨s,rfl⟩
 have a4:∀ k,(p:Int)∣co b k - s*co G k:=λk=>by
  have:=v k
  have e1:cvL [s] (co G) k=s*co G k:=by
   cases k with
   | zero=>rw [Az];omega
   | succ k=>rw [Ar,BD];omega
  rwa [e1] at this
 have lr:G.length=b.length:=by simp at tl;omega
 have a5:∀ {R A:de},(∀ k,co R k=cvL A (co G) k)->Lz R->co G (G.length - 1)∣co R (R.length - 1):=λ{R A} h lR=>by
  rcases FQ A with z | ⟨j,F,_,ea⟩
  ·exact absurd (by rw [h,CJ,F5 G z]) lR.2
  ·have hh:∀ k,co R k=cvL j (co G) k:=λk=>by rw [h,CJ,BN (λk=>(ea k).symm) G,<-CJ]
   have tp:=KY F C;have a0:=F.1
   have rl:R.length - 1=j.length - 1+(G.length - 1):=by
    rcases Nat.lt_trichotomy (R.length - 1) (j.length - 1+(G.length - 1)) with c | c | c
    ·exfalso;have:=hh (j.length - 1+(G.length - 1));rw [Aq (by have:=lR.1;omega),tp] at this;exact CG F.2 C.2 this.symm
    ·exact c
    ·exfalso;have:=hh (R.length - 1);rw [FP (n:=G.length) (λi L=>Aq L) j _ ⋯] at this;exact lR.2 this
   rw [rl,hh,tp];exact Int.dvd_mul_left _ _
 obtain ⟨t,ht⟩:co G (G.length - 1)∣d:=by rw [<-I];exact Int.dvd_coe_gcd (a5 J ln) (a5 U lm)
 have O:d≠0:=λz=>by
  rw [<-I] at z;have:Int.gcd (co ns (ns.length - 1)) (co u (u.length - 1))=0:=by omega
  exact ln.2 (Int.gcd_eq_zero_iff.mp this).1
 have am:t≠0:=λz=>O (by rw [ht,z,Ec])
 have bt:t.natAbs<2 ^ e:=by
  have o:d∣co ns (ns.length - 1):=by rw [<-I];exact E8 ..
  have r:=Bw (show t∣d from ⟨co G (G.length - 1),by rw [ht,Cq]⟩) o;have h3:=Ea (by have:=ln.2;omega) (DL.mpr r);have h4:(co ns (ns.length - 1)).natAbs<2 ^ e:=aj _;omega
 have an:∀ k,co m k=t*co G k:=λk=>by
  rcases Br k b.length with ck | ck
  ·have o:=hg k ck;have r:=a4 k;have h3:=a4 (b.length - 1);rw [one,<-lr] at h3
   have dv:(p:Int)∣co m k - t*co G k:=by
    have q1:(p:Int)∣d*(co b k - s*co G k):=Fu r;have q2:(p:Int)∣(t*co G k)*(1 - s*co G (G.length - 1)):=Fu h3;have:=Int.dvd_sub (DF o q1) q2;refine Bw this (Fr ?_);rw [ht];ext
   have b1:2*(co m k).natAbs<=p:=by
    have:co m k∈m:=by
     unfold co;rw [AI,AT ⋯];exact CT _
    exact hb _ this
   have b2:2*(t*co G k).natAbs<p:=by
    rw [Bv];have h5:t.natAbs*(co G k).natAbs<=2 ^ e*2 ^ e:=Dl (Dx bt) (Dx (bG k))
    have h6:2*(2 ^ e*2 ^ e)<=2 ^ ((e+c+2)*N):=by
     rw [<-DX,show 2*2 ^ (e+e)=2 ^ (e+e+1) by rw [Bk];omega];refine E5 ∅ ?_;have:(e+c+2)*2<=(e+c+2)*N:=EJ _ ⋯;omega
    omega
   obtain ⟨y,hy⟩:=dv;have ab:(co m k - t*co G k).natAbs<p:=by omega
   rcases Int.lt_trichotomy y 0 with z | z | z
   ·have:(p:Int)*y<=(p:Int)*(-1):=DZ ⋯ ⋯;omega
   ·rw [z] at hy;omega
   ·have:(p:Int)*1<=(p:Int)*y:=DZ ⋯ ⋯;omega
  ·rw [Aq ⋯,Aq (a:=G) ⋯];omega
 have ac:∀ {R A:de},(∀ k,co R k=cvL A (co G) k)->MQ (co m) (co R):=λ{R A} h=>⟨t,am,A,λk=>by rw [BN an,Ds,h k]⟩;exact ⟨ac J,ac U⟩
def Tv {g f:de} {A:de} (h:∀ k,co f k=cvL A (co g) k):MQ (co g) (co f):=⟨1,∅,A,λk=>by rw [<-h k];omega⟩
def wW (h:KD K vs H Q E):Q8 K { nx:=λ_ M=>Q .non M,rt:=Q } (L2.start ["row","other","prime","lead","found","guess"] vs) H:=by
 obtain ⟨a,b,o,v,p,d,O,W,NN,rfl,ha,hb,N,bp,P,lm,bn,bm,dn,dm,fn,fm,nc,hN,aj,kN,kR⟩:=h;have p2:(2:Int)<=(p:Int):=by have:=N.two;omega
 unfold Q8;have an:=Ix P.1;have am:=Ix lm.1;rwa [ha,hb,an,am];generalize I:((Int.gcd (co o (o.length - 1)) (co v (v.length - 1)):Nat):Int)=j;have X:j∣co o (o.length - 1):=by rw [<-I];exact E8 ..
 have bl:Bd d j:=(FY bn (o.length - 1)).le (Ts P.2 X);refine ⟨⋯,Ah (λc=>?_) (λc=>?_)⟩
 ·refine kN (λw=>?_) _ (Same.refl H);have b3:j.natAbs<2 ^ O:=(fn [1] o (λk=>(Tu _ k).symm) (o.length - 1)).le (Ts P.2 X);have z:=GG (show j % (p:Int)=0 by simpa using c)
  have l0:j≠0:=λz=>by
   rw [<-I] at z;have:Int.gcd (co o (o.length - 1)) (co v (v.length - 1))=0:=by omega
   exact P.2 (Int.gcd_eq_zero_iff.mp this).1
  have h3:=Ea ⋯ (DL.mpr z);rw [Cr] at h3
  have:2 ^ O<=2 ^ ((O+W+2)*NN):=by
   refine E5 ∅ ?_;have:(O+W+2)*1<=(O+W+2)*NN:=EJ _ ⋯;omega
  have w:2 ^ ((O+W+2)*NN)<p:=w;omega
 have pl:¬ (p:Int)∣j:=λz=>c (by rw [Int.emod_eq_zero_of_dvd z])
 have Y:¬ (p:Int)∣co o (o.length - 1)\/¬ (p:Int)∣co v (v.length - 1):=by
  by_cases Z:(p:Int)∣co o (o.length - 1)
  ·right;intro h2;exact pl (by rw [<-I];exact Int.dvd_coe_gcd Z h2)
  ·exact .inl Z
 refine ⟨o,v,p,rfl,rfl,rfl,N,bp,⋯,⋯,?_,λs J H1 s1 hs r0 rl one br hD al ao=>?_⟩
 ·rcases Y with h | h
  ·exact .inl ⟨_,h⟩
  ·exact .inr ⟨_,h⟩
 refine ⟨⟨_,SqL.of hs⟩,CompJ.lst (xs:=J.map V.int) (λi ys M=>i<=J.length/\M=H1/\∃ m:de,ys=m.map V.int/\m.length=i/\(∀ k,k<i->(p:Int)∣co m k - j*co J k)/\∀ z∈m,Bd 45000 z/\2*z.natAbs<=p) ⟨AY _,rfl,[],rfl,rfl,λk hk=>absurd hk ⋯,λz R=>nomatch R⟩ ?_ ?_ ?_⟩
 ·rintro i ys M ⟨Z,rfl,m,rfl,gl,_⟩;exact ⟨by rw [AK];exact Z,sz (by rw [AK];omega),SqL.of hs⟩
 ·rintro i x ys M hi ⟨Z,rfl,m,rfl,gl,hg,w⟩;rw [Aa] at hi;cases e:J[i]? with
  | none=>rw [e] at hi;cases hi
  | some n=>
    rw [e] at hi;obtain rfl:V.int n=x:=nR hi;have b4:i<J.length:=(BF.mp e).1;have b5:=br n (BC e);have cn:co J i=n:=by unfold co;rw [AI,e];rfl
    rwa [];refine ⟨Bf bl (bp.le (x:=(p:Int)) (y:=n) ⋯),⋯,λr ap S=>⟨⋯,m++[r],by simp,by simp;omega,λk hk=>?_,λz R=>?_⟩⟩
    ·by_cases ek:k=i
     ·subst ek;have:co (m++[r]) k=r:=by unfold co;rw [AI,<-gl];simp
      rw [this,cn];exact ap
     ·have:co (m++[r]) k=co m k:=by unfold co;rw [AI,AI,EF ⋯]
      rw [this];exact hg k ⋯
    ·rcases CS.mp R with z1 | z1
     ·exact w z z1
     ·rw [BL.mp z1];exact ⟨bp.le ⋯,by rw [Cr] at S;exact S⟩
 ·rintro ys M ⟨_,rfl,m,rfl,gl,hg,w⟩ t ht;rw [AK] at gl hg;have st:=AQ ht (.lst (m.map V.int));have a0:upd M t (.lst (m.map V.int)) t=_:=upd_same;generalize upd M t (.lst (m.map V.int))=H2 at st a0 ⊢;have a3:0<m.length:=by omega
  have B:co m (m.length - 1)≠0:=λz=>by
   have:=hg (m.length - 1) ⋯;rw [z,show m.length - 1=J.length - 1 by omega,one] at this;exact pl (by have t2:=Int.dvd_neg.mpr this;rw [show -(0 - j*1)=j by omega] at t2;exact t2)
  rwa [a0];refine ⟨m,rfl,⋯,.inr B,λu q g H3 s3 hu g0 eg hp=>?_⟩
  have Pg:Prim q:=by
   rcases hp with h | h
   ·rw [h] at a3;simp at a3
   ·exact h
  have a4:q.length=m.length:=by rw [eg,AK]
  have T:Lz q:=Go (Mh (Ab g0) (by rw [<-eg];exact .inr B)) (λz=>by rw [z] at a4;simp at a4;omega);have a5:∀ z∈q,Bd 45000 z:=Mi g0 (by rw [<-eg];exact λz R=>(w z R).1);have C:Same H H3:=(s1.trans st).trans s3;have aq:=C _ _ ha;have ar:=C _ _ hb;obtain ⟨G,L⟩:=ZO P (QI.left (co o) (co v));have mn:=L.mq _ o (AV _) (QI.left _ _);have mm:=L.mq _ v (AV _) (QI.right _ _)
  have D:¬ (p:Int)∣co G (G.length - 1):=by
   rcases Y with h | h
   ·exact L.lead N P mn h
   ·exact L.lead N lm mm h
  have dG:=hD (co G) (L.dm N mn) (L.dm N mm)
  have ab:G.length<=J.length:=Dm.len N L.lz.1 D dG ⟨J.length - 1,by
   rw [one];intro z;have:=Int.le_of_dvd ∅ z;omega⟩
  have F:QA O W NN p->(∃ A:de,∀ k,co o k=cvL A (co q) k)/\∃ A:de,∀ k,co v k=cvL A (co q) k:=λb0=>by
   obtain ⟨q1,q2⟩:=wV N P lm fn fm nc hN aj b0 I L r0 one ab D dG al ao gl hg (λz R=>(w z R).2);have sc:∀ k,co m k=g*co q k:=λk=>by rw [eg,JA]
   have mg:MQ (co q) (co m):=⟨1,∅,[g],λk=>by
    have e:cvL [g] (co q) k=g*co q k:=by
     cases k with
     | zero=>rw [Az];omega
     | succ k=>rw [Ar,BD];omega
    rw [e,sc];omega⟩
   exact ⟨a9 Pg (mg.trans q1),a9 Pg (mg.trans q2)⟩
  rwa [aq,hu];refine ⟨o,rfl,q,rfl,T,d,bn,45000,a5,⋯,∅,⋯,⋯,λno=>kN (λw=>no (F w).1) |> λf H4 U=>f H4 (C.trans U),λr qs H4 U hr hq=>?_⟩;have b1:=U _ _ ar;have ac:=U _ _ hu;rwa [b1,ac];refine ⟨v,rfl,q,rfl,T,d,bm,45000,a5,⋯,∅,⋯,⋯,λno=>kN (λw=>no (F w).2) |> λf H5 s5=>f H5 ((C.trans U).trans s5),λr2 b6 H5 s5 S b2=>?_⟩;exact kR u q H5 ((C.trans U).trans s5) (s5 _ _ ac) (ZR L.rc T (Tv hq) (Tv b2) ⋯) Pg
noncomputable def exps:List Nat:=[61,127,521,1279,4423,9941,21701,44497]
def wX (K:W.Frag):Prop:=∀ H:Hp,SqT K H (Gi K) (exps.map λe:Nat=>V.int (e:Int))
def wY:∀ e∈exps,Pr (mers e)/\e<=44497:=by
 intro e a;have h:e=61\/e=127\/e=521\/e=1279\/e=4423\/e=9941\/e=21701\/e=44497:=by simpa [exps] using a
 rcases h with h | h | h | h | h | h | h | h <;> rw [h]
 ·exact ⟨ZH,∅⟩
 ·exact ⟨O6,∅⟩
 ·exact ⟨ZI,∅⟩
 ·exact ⟨ZJ,∅⟩
 ·exact ⟨ZK,∅⟩
 ·exact ⟨ZL,∅⟩
 ·exact ⟨ZM,∅⟩
 ·exact ⟨ZN,∅⟩
def wZ (e:Nat):(2:Int) ^ (e:Int).toNat - 1=((mers e:Nat):Int):=by
 unfold mers;have:=Nat.one_le_two_pow (n:=e);rw [Int.natCast_sub this,Bg,Int.natCast_pow];rfl
def vC {e:Nat} (h:e<=44497):Bd 45000 ((mers e:Nat):Int):=by
 unfold Bd mers;rw [Cr];have a:=Nat.one_le_two_pow (n:=e);have b:=E5 (n:=2) ∅ (show e<=45000 by omega);omega
def Mj {ns b one a i:de} {g h:Int} (n:g≠0) (o:h≠0) (p:ns=one.map (g*·)) (q:b=a.map (h*·)) (R:RC (co one) (co a) i):RC (co ns) (co b) i:=by
 have j:∀ k,co ns k=g*co one k:=λk=>by rw [p,JA]
 have m:∀ k,co b k=h*co a k:=λk=>by rw [q,JA]
 refine ⟨R.lz,?_,?_,?_⟩
 ·obtain ⟨c,e,A,f⟩:=R.left;exact ⟨c,e,A.map (g*·),λk=>by rw [BX,<-f k,j k];ext⟩
 ·obtain ⟨c,e,A,f⟩:=R.right;exact ⟨c,e,A.map (h*·),λk=>by rw [BX,<-f k,m k];ext⟩
 ·obtain ⟨d,r,U,W,u⟩:=R.qi;refine ⟨g*h*d,CG (CG n o) r,U.map (h*·),W.map (g*·),λk=>?_⟩;rw [BX,BX,BN j U k,BN m W k,Ds,Ds];have:=u k;ext
def Tw {e:Nat} {a:Int} {one ns:de} (m:a≠0) (b:ns=one.map (a*·)) (h:Fp e ns):Fp e one:=λg d f ⟨c,i,A,j⟩=>h g d f ⟨c,i,A.map (a*·),λk=>by
 rw [BX,<-j k,b,JA];ext⟩
theorem Tx {c:Int} {g:dI} (h:∀ k,c∣g k):∀ (A:de) (k:Nat),c∣cvL A g k
 | [],_=>by rw [BD];exact DH c
 | x::A,0=>by rw [Az];exact DF (Fu (h 0)) (DH c)
 | x::A,k+1=>by rw [Ar];exact DF (Fu (h _)) (Tx h A k)
def Ty {e:Nat} {one:de} (p:Prim one) (h:Fp e one):Fi e one:=λA g b k=>by
 rcases FQ g with z | ⟨d,f,_,a⟩
 ·rw [z k];exact Cj _
 ·rw [<-a k];refine h d f (λc i=>p c λk=>?_) ⟨1,∅,A,λk=>by rw [Int.one_mul,b k];exact BN (λk=>(a k).symm) A k⟩ k;rw [b k];exact Tx (λk=>by rw [<-a k];exact i k) A k
def vD {K:W.Frag} (hK:wX K) {vs:d8} {H:Hp} {Q:VK} {E:XK} (h:KE K vs H Q E):Q9 K { nx:=λ_ j=>Q .non j,rt:=Q } (L2.start ["row","other","one","two","exponent","found"] vs) H:=by
 obtain ⟨a,b,p,D,d,I,cc,NN,rfl,ha,hb,tn,tm,bn,bm,d9,nN,mN,J,nc,hN,a0,sm,k⟩:=h;unfold Q9;rwa [ha];refine ⟨p,rfl,⋯,tn,λa1 one g1 H1 s1 n f q p1=>?_⟩;have a3:=s1 _ _ hb;rwa [a3];refine ⟨D,rfl,⋯,tm,λa2 c g2 F s2 r g w p2=>?_⟩;have m:=s1.trans s2;have a4:=m _ _ ha;have a5:=m _ _ hb;have L:=s2 _ _ n;have l1:p.length=one.length:=by rw [q,AK]
 have l2:D.length=c.length:=by rw [w,AK]
 have t1:Tz one:=Mh (Ab f) (by rw [<-q];exact tn);have t2:Tz c:=Mh (Ab g) (by rw [<-w];exact tm);have b1:∀ z∈one,Bd d z:=Mi f (by rw [<-q];exact bn);have b2:∀ z∈c,Bd d z:=Mi g (by rw [<-w];exact bm);have M:one=[]↔p=[]:=by rw [<-CU,<-CU,l1]
 have G:c=[]↔D=[]:=by rw [<-CU,<-CU,l2]
 have N:(p=[]\/D=[])->∀ (S:Hp) (u v:dc),Same F S->(AZ (A_ gL (bA (Ia K) (AC (BG (AC (AB 2) AD)) (AC (BG (AC (AB 3) AD)) AD))) (aM 0))) { nx:=λ_ j=>Q .non j,rt:=Q } [some (.ref a),some (.ref b),some (.ref a1),some (.ref a2),u,v] S:=λem S u v o=>by
  have A:=o _ _ L;have B:=o _ _ r;rwa [];refine ⟨sz ∅,λx hx=>?_⟩;have sx:=AQ hx (.lst [.ref a1]);refine ⟨sz ∅,λy hy=>?_⟩;have T:=AQ hy (.lst [.ref a2]);have ab:=T _ _ (show upd S x (.lst [.ref a1]) x=_ from upd_same);refine ⟨one,⟨[V.ref a1],ab,⟨⟨a1,rfl,T _ _ (sx _ _ A)⟩,trivial⟩⟩,c,⟨[V.ref a2],upd_same,⟨⟨a2,rfl,T _ _ (sx _ _ B)⟩,trivial⟩⟩,em.imp (λz=>M.mpr z) (λz=>G.mpr z),λt U O ac=>?_⟩;obtain ⟨ar,xr,ht,aj,_⟩:=ac.head;refine ⟨_,ht,_,Hm _ _,?_⟩;refine k ar _ U (m.trans (o.trans ((sx.trans T).trans O))) aj (λal=>?_) λn r=>by rw [nH (G.mpr r)];exact M.mpr n
  have z0:∀ {x:de},x=[]->∀ k,co x k=0:=λe k=>by rw [e];exact Aq (AY _)
  by_cases C:c=[]
  ·rw [nH C]
   have X:p≠[]:=by
    rcases al with h | h
    ·exact h
    ·exact absurd (G.mp C) h
   have am:Lz one:=Go t1 λz=>X (M.mp z);exact ⟨Mj (Ab f) (Ab g) q w ⟨am,MQ.refl _,MQ.zero _ (z0 C),QI.left _ _⟩,p1.resolve_left X⟩
  ·rw [nG C];have X:one=[]:=M.mpr (em.resolve_right λz=>C (G.mpr z));exact ⟨Mj (Ab f) (Ab g) q w ⟨Go t2 C,MQ.zero _ (z0 X),MQ.refl _,QI.right _ _⟩,p2.resolve_left λz=>C (G.mpr z)⟩
 have l0:=λem=>N em F none none (Same.refl F);simp only [AH,AM,AR,AC,AB,AD,AG,Do,L2.start,BR,au,As,tB,A_,Z_,rI,tC,R_,rU,BT,AZ,BJ,BG,Fw,C9,EL,C',Vh,FC,a_,G5,JQ,VS,VT,Z',av,DQ,BV,BE,Am,HF,K9,CP,N8,Xe,bQ,iLe,ae,bI,CH,gT,gL,gS,Ek,HG,Jb,IE,Ca,BK,HH,Xg,Xh,Xi,Xj,eqT,Xk,Xl,Xm,Xn,List.map_cons,List.map_nil,Cd,List.length_nil,List.replicate,List.cons_append,List.nil_append,List.append_nil,List.getElem?_cons_zero,List.getElem?_cons_succ,Option.some.injEq,exists_eq_left',exists_eq_left,V.int.injEq,V.bl.injEq,V.ref.injEq,V.ty.injEq,HO.tup.injEq,HO.lst.injEq,List.cons.injEq,and_true,true_and,and_assoc,exists_and_left,List.set_cons_zero,List.set_cons_succ,decide_eq_true_eq,decide_eq_false_iff_not,Bool.not_eq_true',Bool.true_eq_false,Bool.false_eq_true,Bool.not_true,Bool.not_false,if_true,if_false,ite_true,ite_false,Xo,Xp,El,Dd,IF,LA,GR,Xq,Xr,Nat.zero_add,Nat.reduceAdd,Nat.reduceSub,upd_same,Int.cast_ofNat_Int,decide_true,decide_false,eq_self,not_true_eq_false,not_false_eq_true,Int.natCast_add,Int.natCast_zero,reduceCtorEq,Nm,DR,Bb,DM,Hy,ag,Ei,Ej,sL,sT,GU,IH,HK,ER,YH,D7,Fx,D6,K5,WL,ah,K4,Xz,X1,X2,X3,X6,YR,YQ,X4,X5,YJ,YK,LI,OS,Jm,Jk,LH,Em,ES,OR,Jl,Ch,Option.bind_some,Option.bind_none,Option.bind,Option.join,id_eq,sS,Yd,Yg,FV,HY,HZ,IV,IW,IX,IY,IZ,Hb,J8,Ia,Ib,Ic,He,Hf,J9,KA,KC,Hg,KD,KE,GB,Hh,Hi,Hj,KF,KG,KR,Ip,KH,KI,KS] at l0;have an:p≠[]->D≠[]->Lz one/\Lz c:=λn r=>⟨Go t1 λz=>n (M.mp z),Go t2 λz=>r (G.mp z)⟩;refine ⟨_,a4,Ah (λY=>⟨_,a5,Ah (λc2=>⟨⟨_,hK F⟩,?_⟩) (λc2=>l0 (.inr (by simpa using c2)))⟩) (λY=>l0 (.inl (by simpa using Y)))⟩;have Z:p≠[]:=by simpa using Y
 have y2:D≠[]:=by simpa using c2
 obtain ⟨z1,z2⟩:=an Z y2;have ao:Fi I one:=Ty (p1.resolve_left Z) (Tw (Ab f) q (J Z y2).1);have ap:Fi I c:=Ty (p2.resolve_left y2) (Tw (Ab g) w (J Z y2).2);refine NW (xs:=exps.map λe:Nat=>V.int (e:Int)) (λi σ j=>i<8/\∃ u v,σ=[some (.ref a),some (.ref b),some (.ref a1),some (.ref a2),u,v]/\Same F j) ⟨∅,none,none,rfl,Same.refl F⟩ (λi σ j _ _=>hK j) ?_ ?_
 ·rintro i x σ j P ⟨i8,u,v,rfl,o⟩;rw [Aa] at P;cases e:exps[i]? with
  | none=>rw [e] at P;cases P
  | some R=>
    rw [e] at P;obtain rfl:V.int (R:Int)=x:=nR P;obtain ⟨pe,pl⟩:=wY R (BC e);have A:=o _ _ L;have B:=o _ _ r;rwa [A,B];refine ⟨⋯,2,by unfold Bd;decide,⋯,one,c,mers R,wZ R,rfl,rfl,pe,vC pl,z1,z2,d,b1,b2,⋯,⋯,I,ao,ap,cc,⋯,NN,⋯,a0,λnb U O=>⟨?_,o.trans O⟩,λt rs U O ht rc pr=>?_⟩
    ·rcases Br (i+1) 8 with c8 | c8
     ·exact c8
     ·exfalso;have i7:i=7:=by omega
      rw [i7] at e;obtain rfl:44497=R:=nR e;refine nb ?_;show 2 ^ ((I+cc+2)*NN)<mers 44497;have n:2 ^ ((I+cc+2)*NN)<=2 ^ 44490:=E5 ∅ sm
      have r:2 ^ 44490<mers 44497:=by
       unfold mers;have e7:2 ^ 44497=2 ^ 44490*2 ^ 7:=by rw [<-DX]
       rw [e7];have:1<=2 ^ 44490:=Nat.one_le_two_pow;omega
      omega
    exact k t rs U (m.trans (o.trans O)) ht (λ_=>⟨Mj (Ab f) (Ab g) q w rc,pr⟩) λn _=>absurd n (by simpa using Y)
 ·rintro σ j ⟨i8,_⟩;exact absurd i8 (by simp [exps])
def DV (l:cZ):(AW l).length=l.length:=by unfold AW;rw [AK]
def JB {l:cZ} (a:Aj l) (b:Nz l):Tz (AW l):=by
 by_cases h:l=[]
 ·left;rw [h];rfl
 ·right;rw [DV];exact Iu a b (Ce.mpr h)
def vF {l:cZ} {M N:Int} (f:Aj l) (g:Ov l M) (i:Ov l N) (h:M∣N) {b:Nat} (j:∀ z∈L_ l N,Bd b z):∀ z∈L_ l M,Bd b z:=λz k=>by
 obtain ⟨q,a,rfl⟩:=Ap.mp k;refine (j (q.1*(N / q.2)) (Ap.mpr ⟨q,a,rfl⟩)).le ?_;rw [Bv,Bv];refine EJ _ ?_;have c:=(f q a).pos;obtain ⟨x,d⟩:=g.2 q a;obtain ⟨y,e⟩:=h;have m:M / q.2=x:=by rw [d,Ft _ (Ab c)]
 have n:N / q.2=x*y:=by rw [e,d,C7,Ft _ (Ab c)]
 rw [m,n,Bv];refine Nat.le_mul_of_pos_right _ ?_;rcases Er y.natAbs with z | z
 ·have o:y=0:=by omega
  have:=i.1;rw [e,o] at this;omega
 ·exact z
def Gq.clr {b c:Nat} {l:cZ} (G:Gq b c l):(∀ z∈AW l,Bd b z)/\Bd c (Ai l)/\(∀ q∈l,Bd b q.1):=by
 obtain ⟨M,a,f,d⟩:=G.ov;have e:=Lb G.low a;exact ⟨vF G.low (De G.low) a e d,Dr (Ab a.1) e f,Ma G.low a d⟩
def Ml (g:de):(ay g).length=g.length:=by unfold ay;rw [AK]
def T0 {g:de} (a:Lz g):Aj (ay g):=λq b=>by
 obtain ⟨z,_,rfl⟩:=Ap.mp b;exact Fk a.2
theorem Mm {g:de} (a:Lz g) (k:Nat):D_ (ay g) k=(co g k:Rat) / (co g (g.length - 1):Rat):=by
 unfold D_ Ae ay;rw [AI,Aa];unfold co;rw [AI (l:=g) (i:=k)];cases e:g[k]? with
 | none=>
   show val (0,1)=((0:Int):Rat) / _;unfold val;show ((0:Int):Rat) / _=_;rw [show ((0:Int):Rat)=0 from rfl,O_,O_]
 | some z=>exact Fl a.2
def vG {g:de} (a:Lz g):Ae (ay g) (g.length - 1)=(1,1):=HN (FM (T0 a) _) ⟨∅,∅⟩ (by
 have h:=Mm a (g.length - 1);unfold D_ at h;rw [h];have:=BH a.2;have b:val (1,1)=1:=by unfold val;show ((1:Int):Rat) / ((1:Int):Rat)=1;ext
 rw [b];ext)
def vH {g:de} (b:Lz g):Nz (ay g):=λq a=>by
 have h:=vG b;rw [GH,Ml] at a;unfold Ae at h;rw [AI,a] at h;have c:q=(1,1):=h;rw [c];decide
def vI (h:Hj K vs H Q E):RP K { nx:=λ_ H'=>Q .non H',rt:=Q } (L2.start ["P","Q","row"] vs) H:=by
 obtain ⟨p,q,xs,ys,l,m,b,c,ee,dd,NN,rfl,hp,j,hN,hM,f,g,b9,c9,lN,mN,A,B,C,D,sm,k0,k1⟩:=h;obtain ⟨F,a0,G⟩:=f.clr;obtain ⟨I,a3,J⟩:=g.clr;obtain ⟨M1,O1,L,_⟩:=f.ov;obtain ⟨M2,O2,M,_⟩:=g.ov;unfold RP;rwa [hp];refine bZ hp ⟨l,hN,f.low,M1,O1,L.mono ⋯,λq j=>(G q j).mono ⋯,⋯,λr a H1 N hr ha=>?_⟩;have k:=N _ _ j;rwa [hr,k];refine bZ k ⟨m,hM.tp (L' N),g.low,M2,O2,M.mono ⋯,λq j=>(J q j).mono ⋯,⋯,λr2 a2 H2 Y O S=>?_⟩;have T:=Y _ _ ha;rwa [O,T,S];have w:AW l=[]↔l=[]:=by rw [<-CU,<-CU,DV]
 have x:AW m=[]↔m=[]:=by rw [<-CU,<-CU,DV]
 refine ⟨AW l,rfl,AW m,rfl,JB f.low f.nz,JB g.low g.nz,b,F,I,b9,by rw [DV];exact lN,by rw [DV];exact mN,ee,λy U=>A (λz=>y (w.mpr z)) (λz=>U (x.mpr z)),dd,by rw [DV,DV];exact B,NN,by rw [DV,DV];exact C,D,sm,λs d H3 s3 Z rc r0=>?_⟩;have o:=(N.trans Y).trans s3;rwa [Z];by_cases u:l=[]/\m=[]
 ·have e:=r0 (w.mpr u.1) (x.mpr u.2);subst e;refine Ah (λz=>absurd z (by simp)) (λ_=>?_);exact ⟨sz ∅,λt W=>k0 u.1 u.2 t [] _ (o.trans (AQ W _)) upd_same trivial⟩
 ·have i:l≠[]\/m≠[]:=by
   by_cases y:l=[]
   ·exact .inr λU=>u ⟨y,U⟩
   ·exact .inl y
  obtain ⟨R,P⟩:=rc (i.imp (λh z=>h (w.mp z)) (λh z=>h (x.mp z)));have X:d≠[]:=Ce.mp R.lz.1;refine Ah (λ_=>?_) (λz=>absurd X (by simpa using z));have al:=Ix R.lz.1
  have rl:d.length<=1000:=by
   rcases i with h | h
   ·have:=KW R.lz (Go (JB f.low f.nz) λz=>h (w.mp z)) R.left;rw [DV] at this;omega
   ·have:=KW R.lz (Go (JB g.low g.nz) λz=>h (x.mp z)) R.right;rw [DV] at this;omega
  rwa [Z,al];refine ⟨d,rfl,R.lz.2,rl,λt zs H4 s4 W v=>?_⟩;have e:K' (d.map λn=>Af n (co d (d.length - 1)))=ay d:=Yz (vH R.lz);rw [e] at v;exact k1 i d R P t zs H4 (o.trans s4) W v
def T3 {q:Nu} {n M:Int} (c:q.2≠0) (d:M≠0) (h:val q=(n:Rat) / (M:Rat)):Wo q n M:=by
 unfold Wo;unfold val at h;have a:=BH c;have b:=BH d;have e:(q.1:Rat)*(M:Rat)=(n:Rat)*(q.2:Rat):=by ext
 exact_mod_cast e
def T4 {q:Nu} {n M:Int} (a:Low q.1 q.2) (h:Wo q n M):q.2∣M/\q.1*(M / q.2)=n:=by
 unfold Wo at h;have d:q.2∣M:=LQ a ⟨n,by rw [h,Cq]⟩;refine ⟨d,?_⟩;have b:=a.pos
 have e:q.2*(q.1*(M / q.2))=q.2*n:=by
  have:=Int.mul_ediv_cancel' d
  calc q.2*(q.1*(M / q.2))=q.1*(q.2*(M / q.2)):=by ext
   _=q.1*M:=by rw [this]
   _=q.2*n:=by rw [h,Cq]
 exact FA (Ab b) e
structure RS (m:cZ) (z:dL) (b c d i:Nat) (L:cZ):Prop where
 low:Aj L
 ov:∃ D,Ov L D/\Bd (c+i*d) D/\∀ z∈L_ L D,Bd (b+i*(d+1)) z
 mr:MR (D_ m) (λk=>D_ L k - z k)
def vJ {m:cZ} (b:Nz m) (c:m≠[]):(Ae m (m.length - 1)).1≠0:=by
 have a:m.length - 1<m.length:=by have:=Ce.mpr c;omega
 have q:=b m[m.length - 1] (by rw [GH];exact AT a);have e:Ae m (m.length - 1)=m[m.length - 1]:=by unfold Ae;rw [AI,AT a];rfl
 rw [e];exact q
def T5 {m:cZ} (c:Aj m) (d:Nz m) (e:m≠[]):D_ m (m.length - 1)≠0:=by
 have a:=BH (vJ d e);have b:=BH (Ab (FM c (m.length - 1)).pos);unfold D_ val;ext
def vK {l:cZ} (a:Aj l) (k:Nat):D_ l k=((Ai l:Rat))⁻¹*(co (AW l) k:Rat):=by
 rw [HP a (De a),<-Jp];show (co (AW l) k:Rat) / _=_;ext
def vL {g:de} (a:Lz g) (k:Nat):D_ (ay g) k=((co g (g.length - 1):Rat))⁻¹*(co g k:Rat):=by
 rw [Mm a];ext
def vM {a:Int} (d:a≠0) {B:Nat} {ns:de} (g:∀ z∈ns,Bd B z):Ov (ns.map λn=>Af n a) (a.natAbs:Int)/\∀ z∈L_ (ns.map λn=>Af n a) (a.natAbs:Int),Bd B z:=by
 have h:(0:Int)<(a.natAbs:Int):=by omega
 have c:∀ n∈ns,(Af n a).2∣(a.natAbs:Int)/\Bd B ((Af n a).1*((a.natAbs:Int) / (Af n a).2)):=λn b=>by
  have i:=Fk (n:=n) d;have u:=BH d
  have:∃ s:Int,val (Af n a)=(s:Rat) / (((a.natAbs:Int):Int):Rat)/\Bd B s:=by
   rw [Fl d];rcases Int.natAbs_eq a with e | e
   ·exact ⟨n,by rw [<-e],g n b⟩
   ·refine ⟨-n,?_,(g n b).neg⟩;have j:(a.natAbs:Int) = -a:=by omega
    rw [j];push_cast;ext
  obtain ⟨s,k,m⟩:=this;obtain ⟨o,p⟩:=T4 i (T3 (Ab i.pos) (Ab h) k);exact ⟨o,by rw [p];exact m⟩
 refine ⟨⟨h,λq f=>?_⟩,λz r=>?_⟩
 ·obtain ⟨n,b,rfl⟩:=Ap.mp f;exact (c n b).1
 ·obtain ⟨q,f,rfl⟩:=Ap.mp r;obtain ⟨n,b,rfl⟩:=Ap.mp f;exact (c n b).2
def Mn {l:cZ} {M:Int} {B:Nat} (h:Ov l M) (b:∀ z∈L_ l M,Bd B z):Ov (K' l) M/\∀ z∈L_ (K' l) M,Bd B z:=by
 refine ⟨⟨h.1,λq a=>h.2 q (GW a)⟩,λz c=>?_⟩;obtain ⟨q,a,rfl⟩:=Ap.mp c;exact b _ (Ap.mpr ⟨q,GW a,rfl⟩)
structure PS (l m:cZ) (b c d e nq:Nat) (r:de) (B:Int) (qs:cZ):Prop where
 len:r.length<=l.length
 tz:Tz r
 B0:B≠0
 N:∃ N,0<N/\B∣N/\Bd (c+(nq - (r.length+1 - m.length))*d) N/\∀ q∈qs,q.2∣N
 low:Aj qs
 qb:∀ q∈qs,Bd (b+nq*(d+1)+e) q.1
 rb:∀ z∈r,Bd (b+(nq - (r.length+1 - m.length))*(d+1)) z
 ql:qs.length=nq
 zer:∀ j,j+m.length<=r.length->Ae qs j=(0,1)
 idn:∀ k,D_ l k=cv (D_ qs) (D_ m) nq k+(co r k:Rat) / (B:Rat)
def T6 {ns:de} {g:Int} (k:Nat):co (ns.map (·/ g)) k=co ns k / g:=Iz (F:=(·/ g)) (Int.zero_ediv g) ns k
def T7 {ns:de} {g:Int} (h:∀ z∈ns,g∣z) (k:Nat):g∣co ns k:=Ti h k
def PS.step {l m:cZ} {b c d e u:Nat} {r:de} {B:Int} {D:cZ} (S:PS l m b c d e u r B D) (U:Aj m) (nm:Nz m) (m1:1<=m.length) (bC:∀ z∈AW m,Bd d z) (bE:Bd e (Ai m)) (M:u=l.length+1 - m.length) (hr:m.length<=r.length)
  {o top I f w g:Int} (v:o=co (AW m) (m.length - 1)) (J:top=co r (r.length - 1)) (X:0<I) (O:f*I=o) (W:w*I=top) {A:de} (t1:Tz A) (F:∀ k,co A k=f*co r k - w*A5 (r.length - m.length) (co (AW m)) k) (Y:0<g) (Z:g∣B*f) (gr:∀ z∈A,g∣z) :
  PS l m b c d e u (A.map (·/ g)) (B*f / g) (D.set (r.length - m.length) (Af (top*Ai m) (B*o)))/\A.length<r.length:=by
 have G:o≠0:=by rw [v];exact Iu U nm m1
 have cl:(AW m).length=m.length:=DV m;have P:f≠0:=λz=>G (by rw [<-O,z,D2])
 have a0:A.length<r.length:=by
  have:A.length<=r.length - 1:=Tr (b:=[]) t1 _ λk hk=>by
   rw [F k];unfold A5;rw [nH ⋯];by_cases ek:k=r.length - 1
   ·rw [ek,<-J,show r.length - 1 - (r.length - m.length)=m.length - 1 by omega,<-v,<-W,<-O];ext
   ·rw [Aq (a:=r) ⋯,Aq (a:=AW m) (k:=k - (r.length - m.length)) ⋯];omega
  omega
 have Cn:(A.map (·/ g)).length=A.length:=AK ..;obtain ⟨N,N0,NB,Nb,Nq⟩:=S.N;have a4:=S.len;have bl:Bd d o:=by rw [v];exact FY bC _
 have bt:Bd (b+(u - (r.length+1 - m.length))*(d+1)) top:=by rw [J];exact FY S.rb _
 have bf:Bd d f:=Dr G ⟨I,by rw [O]⟩ bl
 have bw:Bd (b+(u - (r.length+1 - m.length))*(d+1)) w:=by
  by_cases z:top=0
  ·have w0:w=0:=by
    rcases Eb.mp (W.trans z) with h | h
    ·exact h
    ·omega
   rw [w0];exact Cj _
  ·exact Dr z ⟨I,by rw [W]⟩ bt
 have R:r.length - m.length<u:=by omega
 have bne:B*o≠0:=CG S.B0 G;have T:=Fk (n:=top*Ai m) bne;have p:∀ {q:Nu},q∈D.set (r.length - m.length) (Af (top*Ai m) (B*o))->q∈D\/q=Af (top*Ai m) (B*o):=λ{q} h=>List.mem_or_eq_of_mem_set h
 have C:∀ j,Ae (D.set (r.length - m.length) (Af (top*Ai m) (B*o))) j=if j=r.length - m.length then Af (top*Ai m) (B*o) else Ae D j:=λj=>by
  unfold Ae;rw [AI,AI];by_cases e:j=r.length - m.length
  ·rw [nH e,e,List.getElem?_set_self (by rw [S.ql];exact R)];rfl
  ·rw [nG e,List.getElem?_set_ne (λz=>e z.symm)]
 have L:∀ x:Nat,(u - (r.length+1 - m.length))*x+x<=(u - (A.length+1 - m.length))*x:=λx=>by
  have:=CW x (show u - (r.length+1 - m.length)+1<=u - (A.length+1 - m.length) by omega);rw [Nat.add_mul,Nat.one_mul] at this;exact this
 refine ⟨⟨⋯,?_,?_,⟨N*(o.natAbs:Int),?_,?_,?_,?_⟩,?_,?_,?_,?_,?_,?_⟩,a0⟩
 ·rcases t1 with h | h
  ·left;rw [h];rfl
  ·right;rw [Cn,T6];intro z;have:=Int.ediv_mul_cancel (T7 gr (A.length - 1));rw [z,D2] at this;exact h this.symm
 ·intro z;have d:=Int.ediv_mul_cancel Z;rw [z,D2] at d;exact CG S.B0 P d.symm
 ·exact DG N0 ⋯
 ·refine Bw (Int.ediv_dvd_of_dvd Z) (Int.mul_dvd_mul NB ?_);exact Int.dvd_natAbs.mpr ⟨I,by rw [O]⟩
 ·have a3:Bd d (o.natAbs:Int):=bl.le (by rw [Cr];exact AV _);refine (Nb.mul a3).mono ?_;rw [Cn];have:=L d;omega
 ·intro q M;rcases p M with h | h
  ·exact Bw (Nq q h) (Int.dvd_mul_right ..)
  ·rw [h];exact Y6 bne (Int.mul_dvd_mul NB (Int.dvd_natAbs.mpr (Int.dvd_refl _)))
 ·intro q M;rcases p M with h | h
  ·exact S.low q h
  ·rw [h];exact T
 ·intro q M;rcases p M with h | h
  ·exact S.qb q h
  ·rw [h];refine (IM bne (bt.mul bE) (Nat.lt_two_pow_self:Bd _ (B*o))).1.mono ?_;have:=CW (d+1) (show u - (r.length+1 - m.length)<=u by omega);omega
 ·intro z hz;obtain ⟨y,hy,rfl⟩:=Ap.mp hz;refine MY (gr y hy) ?_;refine wO (n:=b+(u - ((A.map (·/ g)).length+1 - m.length))*(d+1)) (λk=>?_) y hy;rw [F k,Cn];have gw:=L (d+1);refine Bd.mono (m:=(b+(u - (r.length+1 - m.length))*(d+1)+d)+1) (Bd.sub ((bf.mul (FY S.rb k)).mono ⋯) ?_) ⋯;unfold A5;split
  ·exact bw.mul (FY bC _)
  ·rw [Ec];exact Cj _
 ·rw [Dk];exact S.ql
 ·intro j hj;rw [Cn] at hj;rw [C,nG ⋯];exact S.zer j ⋯
 ·intro k;have hB:=BH S.B0;have hL:=BH G;have hg:=BH (Ab Y);have hF:=BH P;have hE:=BH (Ab (De U).1)
  have c1:=Ot (f:=D_ D) (f':=D_ (D.set (r.length - m.length) (Af (top*Ai m) (B*o)))) (g:=D_ m) (s:=r.length - m.length) (x:=val (Af (top*Ai m) (B*o)))
   (by unfold D_;rw [S.zer _ ⋯];exact O_ _) (by unfold D_;rw [C,nH rfl]) (λi hi=>by unfold D_;rw [C,nG hi]) u k
  have gd:g∣f*co r k - w*A5 (r.length - m.length) (co (AW m)) k:=by rw [<-F k];exact T7 gr k
  rw [c1,S.idn k,T6,F k,Th (Ab Y) gd,Th (Ab Y) Z,Fl bne];have a5:(f:Rat)*I=o:=by exact_mod_cast O
  have ab:(w:Rat)*I=top:=by exact_mod_cast W
  have hS:=BH (Ab X);unfold A5;by_cases hk:r.length - m.length<=k
  ·rw [nH hk,nH ⟨R,hk⟩,HP U (De U),<-Jp];show _+(co r k:Rat) / _=_+_*((co (AW m) (k - (r.length - m.length)):Rat) / _)+_;push_cast;generalize (co (AW m) (k - (r.length - m.length)):Rat)=dk;generalize cv (D_ D) (D_ m) u k=c;generalize (co r k:Rat)=x;ext
  ·rw [nG hk,nG ⋯];push_cast;generalize cv (D_ D) (D_ m) u k=c;generalize (co r k:Rat)=x;ext
def vN (h:KF K vs H Q E):yE K (eC Q) (L2.start ["P","Q","row","divisor","rest","bottom","lead","quotient","shift","shared","spare"] vs) H:=by
 obtain ⟨p,q,xs,ys,l,m,b0,c0,d0,e0,rfl,hp,v,hN,hM,GL,GM,m0,c8,m6,hc,hb,he,hd,k⟩:=h;obtain ⟨bd,be,bf⟩:=GL.clr;obtain ⟨T,bg,bi⟩:=GM.clr;obtain ⟨M,hO,bM,cb⟩:=GL.ov;obtain ⟨M',cd,ce,_⟩:=GM.ov;have hl:=GL.low;have hm:=GM.low;have nm:=GM.nz;have m1:1<=m.length:=Ce.mpr m0;have b9:b0<=900000:=by omega
 have c9:c0<=400000:=by omega
 have lx:=hN.length;have ly:=hM.length;have bj:∀ q∈m,Bd 60000000 q.1:=λq v=>(bi q v).mono ⋯;have bE:Bd e0 (Ai m):=bg;have OE:=De hm;have OL:=De hl;have bL:Bd c0 (Ai l):=be;have cl:(AW m).length=m.length:=by unfold AW;rw [AK]
 have bk:(AW l).length=l.length:=by unfold AW;rw [AK]
 refine Ll (AF rfl (bZ hp ⟨l,hN,hl,M,hO,bM.mono ⋯,λq v=>(bf q v).mono ⋯,⋯,λra a H1 s1 F G=>?_⟩));have bl:=s1 _ _ v;refine Ll (AF rfl (bZ bl ⟨m,hM.tp (L' s1),hm,Ai m,OE,bE.mono ⋯,bj,⋯,λrb b H2 s2 U W=>?_⟩));have F:=s2 _ _ F;have G:=s2 _ _ G;have X:=s1.trans s2;have bm:=X _ _ hp;have al:=X _ _ v
 have A:∀ {r:de},1<=r.length->M_ (r.map V.int) (-1)=some (V.int (r.getD (r.length - 1) 0)):=λ{r} h=>by
  unfold M_ a8;rw [nG ∅,nH (by rw [AK];omega),AK,show (-1+(r.length:Int)).toNat=r.length - 1 by omega];show (r.map V.int)[r.length - 1]?=_;rw [Aa,AI,AT ⋯];rfl
 have el:=A (r:=AW m) ⋯;rw [cl] at el;generalize x:(AW m).getD (m.length - 1) 0=e at el;have Y:e≠0:=by rw [<-x];exact Iu hm nm m1
 have am:Bd d0 e:=by rw [<-x];exact FN T _
 refine Ag (Bu rfl F rfl (Ag (Bu rfl F rfl (Ag (AX (Bu rfl U rfl ⟨_,rfl,_,_,_,_,rfl,rfl,W,el,?_⟩))))));refine Ag (AX (En (DT (F_ (F_ ⟨Cn,λe1 an=>⟨Cz,λe2 ao=>?_⟩⟩)))));have u:=(AQ an (.tup [.int 0,.int 1])).trans (AQ ao (.lst [.ref e1]));have en:(if (0:Int) > (xs.length:Int) - (ys.length:Int)+1 then 0 else (xs.length:Int) - (ys.length:Int)+1)=((l.length+1 - m.length:Nat):Int):=by split <;> omega
 refine ⟨_,rfl,_,_,rfl,u _ _ bm,_,rfl,_,_,rfl,u _ _ al,_,_,rfl,rfl,_,_,rfl,rfl,_,_,rfl,?_⟩;refine ⟨_,((l.length+1 - m.length:Nat):Int),_,rfl,congrArg V.int en,upd_same,⋯,⋯,sz (by simp;omega),λw hw=>?_⟩;refine Lo an ao hw λH3 h1 ap u _ w2=>?_;rw [Bg,FR] at ap;have N0:Nums H3 (List.replicate (l.length+1 - m.length) (V.ref e1)) (List.replicate (l.length+1 - m.length) (0,1)):=Nums.rep ⟨e1,rfl,h1⟩ _
 have gz:∀ n j:Nat,Ae (List.replicate n ((0,1):Nu)) j=(0,1):=λn j=>by
  unfold Ae;rw [AI,Dz];split <;> rfl
 refine DJ (λn σ H'=>∃ (c:Addr) (r:de) (B:Int) (zs:d8) (I:cZ) (x8 x9 J:dc),σ=[some (.ref p),some (.ref q),some (.ref ra),some (.ref rb),some (.ref c),some (.int B),some (.int e),some (.ref w),x8,x9,J]/\Same H2 H'/\H' c=some (.lst (r.map V.int))/\c≠w/\H' w=some (.lst zs)/\Nums H' zs I/\PS l m b0 c0 d0 e0 (l.length+1 - m.length) r B I/\n=r.length) l.length
  ⟨a,AW l,Ai l,_,_,none,none,none,rfl,u,u _ _ G,Ax G w2,ap,N0,⟨⋯,JB hl GL.nz,Ab OL.1,⟨Ai l,OL.1,Int.dvd_refl _,bL.mono ⋯,λq v=>?_⟩,λq v=>?_,λq v=>?_,λz hz=>?_,Dj ..,λj _=>gz _ j,λk=>?_⟩,bk.symm⟩ ?_
 ·rw [(List.mem_replicate.mp v).2];exact Int.one_dvd _
 ·rw [(List.mem_replicate.mp v).2];exact LS
 ·rw [(List.mem_replicate.mp v).2];exact Cj _
 ·exact (bd z hz).mono ⋯
 ·rw [Ou _ _ (λi _=>by unfold D_;rw [gz];exact O_ _),HP hl OL,Jp];exact (Rat.zero_add _).symm
 rintro n σ H4 ⟨c,r,B,zs,I,x8,x9,J,rfl,s4,C,cw,Z,N4,o,rfl⟩;have aq:=s4 _ _ al;refine ⟨_,rfl,_,_,rfl,C,_,rfl,_,_,rfl,aq,_,_,rfl,rfl,_,rfl,Ah (λcc=>?_) (λcc=>?_)⟩
 ·have ar:m.length<=r.length:=by have cc:=nJ cc;rw [AK] at cc;omega
  refine ⟨_,λ_ _ h=>h,?_⟩;have es:((r.map V.int).length:Int) - (ys.length:Int)=((r.length - m.length:Nat):Int):=by rw [AK];omega
  have lt:=A (r:=r) ⋯;generalize P:r.getD (r.length - 1) 0=top at lt;have b1:=s4 _ _ U;have c4:=s4 _ _ W;obtain ⟨N,L,NB,Nb,Nq⟩:=o.N;have a0:Bd 400000 B:=(Dr (Ab L) NB Nb).mono (CF (Nat.add_le_add_left (CW _ (Nat.sub_le _ _)) _) hc)
  have bp:b0+(l.length+1 - m.length - (r.length+1 - m.length))*(d0+1)<=900000:=by
   have:=CW (d0+1) (Nat.sub_le (l.length+1 - m.length) (r.length+1 - m.length));omega
  have R:Bd 900000 top:=by rw [<-P];exact (FN o.rb _).mono bp
  have bq:∀ z∈r,Bd 60000000 z:=λz hz=>(o.rb z hz).mono ⋯;refine ⟨_,rfl,_,_,rfl,C,_,rfl,_,_,rfl,aq,_,_,rfl,rfl,?_⟩;show RK K _ [some (.ref p),some (.ref q),some (.ref ra),some (.ref rb),some (.ref c),some (.int B),some (.int e),some (.ref w),some (.int (((r.map V.int).length:Int) - (ys.length:Int))),x9,J] _;rw [es];have bne:B*e≠0:=CG o.B0 Y;refine F8 (A9 ⟨_,rfl,_,rfl,_,_,_,_,rfl,rfl,C,lt,_,rfl,_,_,_,_,rfl,rfl,b1,rfl,_,_,rfl,rfl,Bf R bE,_,rfl,_,rfl,_,_,rfl,rfl,Bf a0 am,_,_,rfl,bne,λt1 b2=>?_⟩);have cf:zs.length=l.length+1 - m.length:=by rw [N4.length,o.ql]
  have c5:=o.len;refine ⟨_,rfl,_,rfl,_,zs,_,r.length - m.length,rfl,rfl,AQ b2 _ _ _ Z,Gn rfl ⋯,?_⟩;refine ZZ b2 Z w2 s4 λH5 s5 b3 h5 br k5=>?_;have hn:=Nums.set (q:=Af (top*Ai m) (B*e)) ⟨t1,rfl,h5⟩ (r.length - m.length) (N4.tp br);have D:=k5 _ _ cw C;have b4:=s5 _ _ U;have b5:=s5 _ _ W;refine Gf ⟨_,rfl,_,rfl,_,_,_,_,rfl,rfl,D,lt,_,rfl,_,_,rfl,?_⟩;show RJ K _ [some (.ref p),some (.ref q),some (.ref ra),some (.ref rb),some (.ref c),some (.int B),some (.int e),some (.ref w),some (.int ((r.length - m.length:Nat):Int)),some (.int ((Int.gcd top e:Nat):Int)),J] _;have y:(0:Int)<((Int.gcd top e:Nat):Int):=by have:=Int.gcd_pos_of_ne_zero_right top Y;omega
  have a3:((Int.gcd top e:Nat):Int)∣e:=EY top e;have a4:((Int.gcd top e:Nat):Int)∣top:=E8 top e;have hf:=Int.ediv_mul_cancel a3;have a5:=Int.ediv_mul_cancel a4;generalize c6:((Int.gcd top e:Nat):Int)=sh at y a3 a4 hf a5 ⊢;have ab:=MY a3 am;have b6:=MY a4 R;have ac:e.fdiv sh=e / sh:=EI e (EH y);have b7:top.fdiv sh=top / sh:=EI top (EH y);generalize ch:e / sh=f at hf ab ac ⊢;generalize top / sh=wt at a5 b6 b7 ⊢;refine Ag (ZY ⟨_,rfl,_,rfl,_,rfl,_,_,rfl,rfl,Ab y,_,rfl,_,_,_,_,rfl,rfl,b4,rfl,_,rfl,_,rfl,_,_,_,_,rfl,rfl,D,lt,_,rfl,_,_,rfl,rfl,Ab y,_,rfl,?_⟩);refine ⟨_,_,r,AW m,f,wt,r.length - m.length,by rw [<-ac,<-b7],D,b5,⋯,⋯,ab.mono ⋯,b6.mono ∅,bq,λz hz=>(T z hz).mono ⋯,λc1 O H6 s6 ba t6 e6=>?_⟩;have bs:f≠0:=λz=>Y (by rw [<-hf,z,D2])
  have l6:O.length<=1000:=by
   have:O.length<=1000:=Tr (b:=[]) t6 1000 λk hk=>by
    rw [e6 k,Aq (a:=r) ⋯];unfold A5;split
    ·rw [Aq (a:=AW m) ⋯];omega
    ·omega
   exact this
  refine ⟨_,rfl,_,rfl,_,rfl,_,_,rfl,rfl,Ab y,_,_,rfl,rfl,?_⟩;rw [ac];refine ⟨Bf a0 ab,?_⟩;show RI K _ _ _;refine Gf ⟨_,rfl,_,rfl,_,O,_,rfl,ba,l6,λg H7 s7 gn gB gr _=>?_⟩
  have g0:0<g:=by
   rcases Int.lt_or_eq_of_le gn with z | z
   ·exact z
   ·exact absurd (Int.zero_dvd.mp (z ▸ gB)) (CG o.B0 bs)
  have bt:=s7 _ _ ba;obtain ⟨S5,bv⟩:=o.step hm nm m1 T bE rfl ar x.symm P.symm y hf a5 t6 e6 g0 gB gr;have bw:(O.map (·/ g)).length=O.length:=AK ..;refine Gf ⟨_,rfl,_,rfl,_,O,_,rfl,bt,.inl g0,⋯,λc2 bb=>⟨_,rfl,_,rfl,_,_,rfl,rfl,g0,?_⟩⟩;have bx:=AQ bb (.lst ((O.map (·/ g)).map V.int));have bc:=s6.trans s7;have aj:=bc.trans bx;exact ⟨O.length,bv,_,O.map (·/ g),_,_,_,_,_,_,rfl,s5.trans aj,upd_same,(Ax (bc _ _ b3) bb).symm,aj _ _ b3,hn.tp (L' aj),S5,bw.symm⟩
 ·have ar:r.length<m.length:=by have cc:=of_decide_eq_false (Bool.eq_false_iff.mpr cc);rw [AK] at cc;omega
  obtain ⟨N,L,NB,Nb,Nq⟩:=o.N;have a0:Bd 400000 B:=(Dr (Ab L) NB Nb).mono (CF (Nat.add_le_add_left (CW _ (Nat.sub_le _ _)) _) hc);have c7:=o.ql;show RL K _ _ _;refine BY (DT (Df ⟨_,rfl,_,_,I,rfl,Z,N4,⋯,λt1 z1 H5 s5 h5 n5=>?_⟩));have D:=s5 _ _ C;have bz:=o.len;refine A9 ⟨_,rfl,_,rfl,_,r,_,rfl,D,o.B0,⋯,λt2 z2 H6 s6 h6 n6=>⟨Cn,λt ht=>?_⟩⟩;have st:=AQ ht (.tup [.ref t1,.ref t2]);have S:Aj (r.map λn=>Af n B):=λq v=>by obtain ⟨n,_,rfl⟩:=Ap.mp v;exact Fk o.B0
  have c3:∀ k,D_ (r.map λn=>Af n B) k=(r.getD k 0:Rat) / (B:Rat):=λk=>by
   unfold D_ Ae;rw [AI,AI,Aa];cases r[k]? with
   | none=>exact (O_ _).trans (O_ _).symm
   | some z=>exact Fl o.B0
  have Bo:=o.rb;have r0:r.length+1 - m.length=0:=by omega
  rw [r0,Nat.sub_zero] at Bo Nb;have bB:Bd (c0+(l.length+1 - m.length)*d0) B:=Dr (Ab L) NB Nb;obtain ⟨RO,RB⟩:=vM o.B0 Bo;obtain ⟨TO,TB⟩:=Mn RO RB;refine k t t1 t2 _ (K' I) (K' (r.map λn=>Af n B)) ((((X.trans s4).trans s5).trans s6).trans st) upd_same (Pl.same ⟨z1,h5,n5⟩ (s6.trans st)) (Pl.same ⟨z2,h6,n6⟩ st) (λq v=>o.low q (GW v)) (HM _) ?_ ⟨λq v=>S q (GW v),HM _,_,TO,bB.le ⋯,TB⟩ ?_ λk=>?_
  ·have:=Jn I;omega
  ·have:=Jn (r.map λn=>Af n B);rw [AK] at this;omega
  ·obtain ⟨d,hd⟩:∃ d,l.length+1 - m.length=(K' I).length+d:=⟨l.length+1 - m.length - (K' I).length,by have:=Jn I;omega⟩;rw [Jo S,c3,o.idn k,Ox (λi=>(Jo o.low i).symm),hd,Ow (λi hi=>EU hi)];rfl
theorem T8 (F G:dL) (k:Nat):∀ n,cv F G n k=cvL ((List.range n).map F) G k
 | 0=>rfl
 | n+1=>by
   show cv F G n k+(if n<=k then F n*G (k - n) else 0)=_;rw [T8 F G k n,FZ,Cp,List.map_singleton,EV,AK,A4];unfold A5;by_cases hk:n<=k
   ·rw [nH hk,nH hk]
   ·rw [nG hk,nG hk];ext
def vO {F:dL} {n:Nat} (h:∀ i,n<=i->F i=0) (k:Nat):F k=cvL ((List.range n).map F) A3 k:=by
 rw [FO,AI,Aa];by_cases hk:k<n
 ·rw [CV hk];rfl
 ·rw [Bp (by rw [A4];omega),h k ⋯];rfl
def T9 {T:cZ} {b c:Nat} (g:Aj T) (n:Nz T) {M:Int} (j:0<M) (o:Bd c M) {N:dI} (h:∀ k,D_ T k=(N k:Rat) / (M:Rat)) (p:∀ k,Bd b (N k)):Gq b c T:=by
 have f:∀ q∈T,∃ k,q.2∣M/\q.1*(M / q.2)=N k:=λq d=>by
  obtain ⟨i,r,rfl⟩:=List.getElem_of_mem d;have e:Ae T i=T[i]:=by unfold Ae;rw [AI,AT r];rfl
  have m:=g _ d;have v:=h i;unfold D_ at v;rw [e] at v;exact ⟨i,T4 m (T3 (Ab m.pos) (Ab j) v)⟩
 refine ⟨g,n,M,⟨j,λq d=>?_⟩,o,λz u=>?_⟩
 ·obtain ⟨k,a,_⟩:=f q d;exact a
 ·obtain ⟨q,d,rfl⟩:=Ap.mp u;obtain ⟨k,_,a⟩:=f q d;rw [a];exact p k
def vP (h:KG K vs H Q E):RD K { nx:=λ_ e=>Q .non e,rt:=Q } (L2.start ["one","other"] vs) H:=by
 obtain ⟨p,q,a,b,c,d,rfl,hp,f,g,i,j,m,n,o,k⟩:=h;unfold RD;rwa [hp,f];exact ⟨Hl j o,Hl m n,CG (Ab g) i,k⟩
def vQ (l:cZ) (k:Nat):cvL (rw' l) A3 k=D_ l k:=(vO (λi a=>EU a) k).symm
def UA (l:cZ) (g:dL) (k:Nat):cv (D_ l) g l.length k=cvL (rw' l) g k:=T8 _ _ k _
def aS {n:Nat} {x:Int} (h:x.natAbs<2 ^ n):Bd n x:=h
def vR (f:dL) (n:Nat) (x:Rat) (d:Nat):aa f n x (d+1)=f (n - 1 - d)+x*aa f n x d:=rfl
def CompJ.enumL {K:W.Frag} {capt:List (Option Nat)} {g:TG} {f:TE} {j:L2.St} {H:Hp} {Q:VK} {a:Addr} {xs:d8} (W:Nat->d8->Hp->Prop) (k:W 0 [] H) (c:∀ i b H,W i b H->i<=xs.length/\b.length<=sizeLine/\SqL K H a xs)
  (m:∀ i x p b H,xs[i]?=some x->W i b H->H p=none->g (.ref p) (Ch capt j) (upd H p (.tup [.int i,x])) λd n=>f d n λy o=>W (i+1) (b++[y]) o) (r:∀ b H,W xs.length b H->∀ p,H p=none->Q (.ref p) (upd H p (.lst b))):CompJ (GT K a) capt g f j Q H:=by
 refine ⟨xs.length,W,k,λi b H w=>⟨(c i b H w).1,(c i b H w).2.1,?_⟩⟩;have q:SqL K H a xs:=(c i b H w).2.2;by_cases h:i<xs.length
 ·refine .inr ⟨h,⟨xs,xs[i],q,by simp [h]⟩,λx v y=>?_⟩;obtain ⟨p,u,hp,rfl,rfl,y⟩:=y;exact m i u p b _ (y xs q) w hp
 ·have e:i=xs.length:=E9 (c i b H w).1 (Nat.not_lt.mp h);subst e;exact .inl ⟨⟨xs,q,AV _⟩,r b H w⟩
def vS (h:KH K vs H Q E):RQ K { nx:=λ_ g=>Q .non g,rt:=Q } (L2.start ["P","c","row","value","scale","whole"] vs) H:=by
 obtain ⟨p,q,xs,l,a,b,bq,rfl,hp,z,P,G,R,lo,I,m,l9,k⟩:=h;have D:=G.low;obtain ⟨S,T,U⟩:=G.clr;have A:=De D;have B:Bd 20 (Ai l):=T.mono ⋯;have o:(AW l).length=l.length:=by unfold AW;rw [AK]
 have J:0<b:=lo.pos;unfold RQ;unfold Nm at z;rwa [hp];refine bZ hp ⟨l,P,D,Ai l,A,B.mono ∅,λq z=>(U q z).mono ⋯,⋯,λr c W L M N=>?_⟩;have u:=L _ _ z;rwa [M];refine ⟨_,SqL.of N,ForJ.rev (λi C g=>∃ (v:Int) (X:dc),C=[some (.ref p),some (.ref q),some (.ref r),some (.int v),some (.int (b ^ i)),X]/\g=W/\Bd (100+30*i) v/\(v:Rat)*b=((b ^ i:Int):Rat)*aa (λj=>((AW l).getD j 0:Rat)) l.length (val (a,b)) i) ⟨0,none,by rw [Int.pow_zero],rfl,Cj _,?_⟩ ?_ ?_ ?_⟩
 ·show ((0:Int):Rat)*b=_*0;push_cast;ext
 ·rintro i C g _ ⟨_,_,_,rfl,_⟩;exact SqL.of N
 ·rintro i x C g Y F ⟨v,y,rfl,rfl,n,id⟩;rw [AK,o] at Y F;rw [Aa,AT ⋯] at F;have Z:(AW l).getD (l.length - 1 - i) 0=(AW l)[l.length - 1 - i]'⋯:=by rw [AI,AT ⋯];rfl
  obtain rfl:V.int _=x:=nR F;rw [<-Z];have O:Bd 20 ((AW l).getD (l.length - 1 - i) 0):=(FN S _).mono ⋯;have f:Bd 61 (b ^ i):=(m.pow i).mono ⋯;rwa [u];refine ⟨EX (n.mono (show _<=400 by omega)) I,EX O f,EX f m,?_⟩;refine ⟨by rw [Int.pow_succ],?_,?_⟩
  ·exact (((n.mul I).mono (show _<=110+30*i by omega)).add ((O.mul f).mono ⋯)).mono ⋯
  ·rw [vR];have hb:=BH (Ab J);have hv:val (a,b)=(a:Rat) / b:=rfl;rw [Int.pow_succ];push_cast at id ⊢;ext
 ·rintro C g ⟨v,y,rfl,rfl,n,id⟩;rw [AK,o] at *;have f:Bd 61 (b ^ l.length):=(m.pow l.length).mono ⋯;have d:0<b ^ l.length:=Int.pow_pos J;have w:=DG A.1 d;rwa [u,M];refine ⟨EX (n.mono (show _<=400 by omega)) m,EX B f,Ab w,λt ht=>?_⟩;refine k t _ (Af (v*b) (Ai l*b ^ l.length)) (L.trans (AQ ht _)) IN (Fk (Ab w)) ((IM (Ab w) ((n.mul m).mono (show _<=300 by omega)) (B.mul f)).1.mono ∅) ((IM (Ab w) ((n.mul m).mono (show _<=300 by omega)) (B.mul f)).2.mono ∅) ?_;unfold bV;rw [Fl (Ab w)]
  have e:aa (D_ l) l.length (val (a,b)) l.length=aa (λj=>((AW l).getD j 0:Rat)) l.length (val (a,b)) l.length / (Ai l:Rat):=by
   rw [<-Pe];exact Pd _ (AV _) λi _ _=>HP D A i
  rw [e];have h1:=BH (Ab A.1);have h2:=BH (Ab d);push_cast at *;ext
def UB (l:cZ):sr l=Sr.L (rw' l):=Sr.ext' λk=>(vQ l k).symm
def Hn (l:cZ):Sr.Pol (sr l):=⟨_,UB l⟩
def UC (l:cZ) (g:dL):(⟨cvL (rw' l) g⟩:Sr)=sr l*⟨g⟩:=by rw [UB,Sr.L_mul]
def vT {P A C:cZ} (h:∀ k,D_ P k=cv (D_ A) (D_ C) A.length k):sr P=sr A*sr C:=by
 refine Eq.trans ?_ (UC A (D_ C));exact Sr.ext' λk=>(h k).trans (UA _ _ _)
def Kb {l:cZ} (a:Aj l) (b:Nz l) (c:l≠[]):sr l≠0:=λz=>T5 a b c (by
 have:=nV (congrArg Sr.c z) (l.length - 1);rw [Sr.zero_c] at this;exact this)
def vU {l m:cZ} (a:Aj l) (b:Aj m) (c:Nz l) (d:Nz m) (h:sr l=sr m):l=m:=Y9 a b c d λk=>nV (congrArg Sr.c h) k
def vV (k:Nat):(1:Sr).c k=A3 k:=by show ((1:Nat):Rat)*A3 k=_;push_cast;ext
def vW (h:KI K vs H Q E):RG K { nx:=λ_ a=>Q .non a,rt:=Q } (L2.start ["P"] vs) H:=by
 obtain ⟨p,b,rfl,hp,k⟩:=h;unfold RG;rwa [hp];exact k
theorem JC (p:dI):∀ (w:de) (k:Nat),((cvL w p k:Int):Rat)=cvL (w.map λz:Int=>(z:Rat)) (λk=>(p k:Rat)) k
 | [],_=>rfl
 | x::w,0=>by rw [Az];show _=(x:Rat)*(p 0:Rat)+0;push_cast;rfl
 | x::w,k+1=>by rw [Ar];show _=(x:Rat)*(p (k+1):Rat)+cvL (w.map λz:Int=>(z:Rat)) (λk=>(p k:Rat)) k;rw [<-JC p w k];push_cast;rfl
def JD (ns:de):si ns=Sr.L (ns.map λz:Int=>(z:Rat)):=Sr.ext' λk=>by
 show ((co ns k:Int):Rat)=cvL _ A3 k;rw [FO];unfold co;rw [AI,AI,Aa];cases ns[k]? <;> rfl
def GD (ns:de):Sr.Pol (si ns):=⟨_,JD ns⟩
def vY {ns a b:de} (h:∀ k,co ns k=cvL a (co b) k):si ns=si a*si b:=by
 rw [JD a,Sr.L_mul];refine Sr.ext' λk=>?_;show ((co ns k:Int):Rat)=cvL _ (λk=>((co b k:Int):Rat)) k;rw [h k,JC]
def vZ {ns:de} (h:Lz ns):si ns≠0:=λz=>h.2 (by
 have:=nV (congrArg Sr.c z) (ns.length - 1);rw [Sr.zero_c] at this;have this:((co ns (ns.length - 1):Int):Rat)=0:=this;exact_mod_cast this)
def uA (ns:de):Sr.Bn (si ns) ns.length:=λk hk=>by
 show ((co ns k:Int):Rat)=0;rw [Aq hk];rfl
def uB {g:Int} (a:de):si (a.map (g*·))=Sr.num (g:Rat)*si a:=Sr.ext' λk=>by
 rw [Sr.num_mul];show ((co (a.map (g*·)) k:Int):Rat)=(g:Rat)*((co a k:Int):Rat)
 have e:co (a.map (g*·)) k=g*co a k:=by
  unfold co;rw [AI,AI,Aa];cases a[k]? with
  | none=>simp
  | some z=>rfl
 rw [e];push_cast;rfl
namespace Sr
def num_num (x y:Rat):num x*num y=num (x*y):=ext' λk=>by
 rw [num_mul];show x*(y*A3 k)=x*y*A3 k;ext
def num_one:num 1=1:=congrArg num (show (1:Rat)=((1:Nat):Rat) by push_cast;rfl)
def num_inv {x:Rat} (h:x≠0):num x⁻¹*num x=1:=by
 rw [num_num,Fa _ h];exact num_one
theorem mul_pow {f g:Sr}:∀ n:Nat,(f*g) ^ n=f ^ n*g ^ n
 | 0=>by rw [pow_z,pow_z,pow_z];ext
 | n+1=>by rw [pow_s,pow_s,pow_s,mul_pow n];ext
theorem num_pow (x:Rat):∀ n:Nat,num x ^ n=num (x ^ n)
 | 0=>by rw [pow_z,Rat.pow_zero];exact num_one.symm
 | n+1=>by rw [pow_s,num_pow x n,num_num,Rat.pow_succ]
end Sr
def uC {x:Rat} (h:x≠0):x⁻¹≠0:=λz=>by
 have:=Fa _ h;rw [z] at this;ext
def UD {g f:de} (m:MQ (co g) (co f)):∃ B,Sr.Pol B/\si f=B*si g:=by
 obtain ⟨c,a,A,h⟩:=m;have b:=BH a;refine ⟨Sr.num ((c:Rat)⁻¹)*si A,(Sr.Pol.num _).mul (GD A),?_⟩
 have e:Sr.num (c:Rat)*si f=si A*si g:=by
  rw [<-uB];refine vY λk=>?_;rw [<-h k];unfold co;rw [AI,AI,Aa];cases f[k]? with
  | none=>simp
  | some z=>rfl
 have i:=Sr.num_inv b;have:si f=Sr.num ((c:Rat)⁻¹)*Sr.num (c:Rat)*si f:=by rw [i];ext
 rw [this,show Sr.num ((c:Rat)⁻¹)*Sr.num (c:Rat)*si f=Sr.num ((c:Rat)⁻¹)*(Sr.num (c:Rat)*si f) by ext,e];ext
def uD {r o g:de} (R:RC (co r) (co o) g) {A B:Sr} (a:Sr.Pol A) (b:Sr.Pol B) (c:si r=A*si g) (f:si o=B*si g):Sr.Cs A B:=by
 obtain ⟨d,i,U,W,h⟩:=R.qi
 have e:Sr.num (d:Rat)*si g=si U*si r+si W*si o:=by
  rw [JD U,JD W,Sr.L_mul,Sr.L_mul];refine Sr.ext' λk=>?_;rw [Sr.num_mul];show (d:Rat)*((co g k:Int):Rat)=cvL _ (λk=>((co r k:Int):Rat)) k+cvL _ (λk=>((co o k:Int):Rat)) k;rw [<-JC,<-JC];exact_mod_cast h k
 have j:Sr.num (d:Rat)=si U*A+si W*B:=Sr.cancel (Sr.Pol.num _) (((GD U).mul a).add ((GD W).mul b)) (GD g) (vZ R.lz) (by rw [e,c,f];ext);exact Sr.Cs.of_unit (BH i) rfl (GD U) (GD W) j.symm
def uE {ns:de} (h:Lz ns):sr (ay ns)=Sr.num ((co ns (ns.length - 1):Rat))⁻¹*si ns:=Sr.ext' λk=>by
 rw [Sr.num_mul];exact vL h k
def Mo {l:cZ} (h:Aj l):sr l=Sr.num ((Ai l:Rat))⁻¹*si (AW l):=Sr.ext' λk=>by
 rw [Sr.num_mul];exact vK h k
def aY {x y:Rat} (a:x≠0) (b:y≠0):x*y≠0:=λz=>by
 rcases Rat.mul_eq_zero.mp z with z | z
 ·exact a z
 ·exact b z
structure Mon (b:Nat) (R:cZ):Prop where
 gq:Gq b b R
 ne:R≠[]
 one:Ae R (R.length - 1)=(1,1)
def Kc {a H:Hp} {p:Addr} (s:Same a H) (h:H p=none) (o:HO):Same a (L2.upd H p o):=s.trans (AQ h o)
def Mp {K:W.Frag} {capt:List (Option Nat)} {e:TE} {f:L2.St} {H:Hp} {Q:VK} {a b:Addr} {ns c:de} (F:Int->Int->Int) (k:H a=some (.lst (ns.map V.int))) (o:H b=some (.lst (c.map V.int))) (q:ns.length=c.length) (z:ns.length<=1000)
  (r:∀ x y,x∈ns->y∈c->∀ (H':Hp) (P:VK),Same H H'->P (.int (F x y)) H'->e (((Ch capt f).set 0 (some (.int x))).set 1 (some (.int y))) H' P) (u:∀ (p:Addr) (H':Hp),Same H H'->H' p=none->Q (.ref p) (upd H' p (.lst ((List.zipWith F ns c).map V.int)))) :
  CompJ (bJ K a b) capt (DR 2 (Bb (AG 0) (Bb (AG 1) DM))) e f Q H:=by
 have v:(List.zipWith F ns c).length=ns.length:=by rw [List.length_zipWith];omega
 refine CompJ.zip (xs:=ns.map V.int) (ys:=c.map V.int) (by rw [AK,AK,q]) (λi d H'=>i<=ns.length/\Same H H'/\d=((List.zipWith F ns c).take i).map V.int) ⟨AY _,Same.refl H,rfl⟩ ?_ ?_ ?_
 ·rintro i d H' ⟨g,s,rfl⟩;refine ⟨by rw [AK];exact g,sz ?_,SqL.of (s _ _ k),SqL.of (s _ _ o)⟩;rw [AK,BQ];omega
 ·rintro i x y d H' p h j ⟨g,s,rfl⟩ hp;rw [Aa] at h j;obtain ⟨m,em,rfl⟩:=Option.map_eq_some_iff.mp h;obtain ⟨n,en,rfl⟩:=Option.map_eq_some_iff.mp j;have w:(List.zipWith F ns c)[i]?=some (F m n):=by rw [List.getElem?_zipWith,em,en]
  refine ⟨p,_,rfl,upd_same,rfl,_,_,rfl,_,_,rfl,rfl,?_⟩;refine r m n (BC em) (BC en) _ _ (Kc s hp _) ?_;refine ⟨?_,Kc s hp _,?_⟩
  ·have:=(BF.mp em).1;omega
  ·rw [Ez V.int w]
 ·rintro d H' ⟨_,s,rfl⟩ p hp;rw [AK,<-v,CA];exact u p H' s hp
theorem UE (f:dI):∀ a:de,(∀ i,i<a.length->f i=co a.reverse i)->a.reverse.sum=su a.length f
 | [],_=>rfl
 | x::a,h=>by
   rw [List.reverse_cons] at h ⊢;rw [List.sum_append];show _=su a.length f+f a.length;have c:=h a.length (ED _);rw [UE f a λi b=>?_,c]
   ·unfold co;rw [AI,EE (by rw [List.length_reverse];exact AV _),List.length_reverse,Nat.sub_self];simp
   ·rw [h i (Nat.lt_succ_of_lt b)];unfold co;rw [AI,EF (by rw [List.length_reverse];exact b),AI]
def uF (f:dI) (ns:de) (h:∀ i,i<ns.length->f i=co ns i):ns.sum=su ns.length f:=by
 have:=UE f ns.reverse (by rw [List.length_reverse,List.reverse_reverse];exact h);rwa [List.reverse_reverse,List.length_reverse] at this
def Ho {K:W.Frag} {e:TA} {capt:List (Option Nat)} {g:TG} {f:TE} {c:L2.St} {H:Hp} {Q:VK} (h:e c H (λvs d=>∃ a b,vs=[.ref a,.ref b]/\(∃ i,SqL K d a i)/\(∃ j,SqL K d b j)/\CompJ (bJ K a b) capt g f c Q d)):A8 (EA K e) capt g f c H Q:=h
def Mq {F:Int->Int->Int} {ns a:de} {i:Nat} (b:i<ns.length) (c:i<a.length):co (List.zipWith F ns a) i=F (co ns i) (co a i):=by
 unfold co;rw [AI,List.getElem?_zipWith,AT b,AT c,AI,AT b,AI,AT c];rfl
def uG (h:Gj K vs H Q E):Z2 K (eC Q) (L2.start ["row","other"] vs) H:=by
 obtain ⟨a,b,d,e,n,rfl,f,g,r,u,v,bn,j,k⟩:=h;refine BY (Cm (Ho ⟨_,rfl,_,rfl,a,b,rfl,⟨_,SqL.of f⟩,⟨_,SqL.of g⟩,Mp (·*·) f g ⋯ ⋯ (λx y m o c P s p=>⟨_,rfl,_,rfl,_,_,rfl,rfl,Bf (bn x m) (j y o),p⟩) λp c s hp=>⟨p,_,rfl,upd_same,?_⟩⟩))
 rw [uF (λi=>co d i*co e i) _ λi q=>by
  rw [List.length_zipWith] at q;exact (Mq ⋯ ⋯).symm,List.length_zipWith,show min d.length e.length=n by omega]
 exact k _ (Kc s hp _)
def Kd {a b:Nat} (h:a<=b):2 ^ a<=2 ^ b:=E5 ∅ h
def uH (h:MD K vs H Q E):Zz K (eC Q) (L2.start ["whole","divisor"] vs) H:=by
 obtain ⟨n,rfl,v,k⟩:=h;have i:(2:Nat) ^ 45001=2 ^ 45000*2:=Bk 2 45000;have j:(2:Nat) ^ 2<=2 ^ 45000:=Kd ∅;refine DJ (λm r g=>∃ d:Nat,r=[some (.int (n:Int)),some (.int (d:Int))]/\g=H/\2<=d/\m=n+2 - d/\d<=n+2/\∀ e,2<=e->e<d->¬ e∣n) n ⟨2,rfl,rfl,⋯,⋯,⋯,λe C D=>by omega⟩ ?_;rintro m r g ⟨d,rfl,rfl,w,rfl,F,o⟩
 have u:Bd 45001 (d:Int):=by
  unfold Bd;rw [Cr,i];generalize (2:Nat) ^ 45000=Z at *;omega
 clear i j v;refine ⟨_,rfl,_,rfl,_,_,rfl,rfl,Bf u u,_,rfl,_,_,rfl,rfl,_,rfl,Ah (λc=>?_) (λc=>?_)⟩
 ·have c:=nJ c;have x:d*d<=n:=by exact_mod_cast c
  have dl:d<n:=by
   have:d*2<=d*d:=EJ d w;omega
  refine ⟨_,λ_ _ h=>h,?_⟩;refine ⟨_,rfl,_,rfl,_,_,rfl,rfl,⋯,rfl,_,rfl,Ah (λz=>?_) (λz=>?_)⟩
  ·refine k false ⟨(λz=>by cases z),λhp=>?_⟩;have z:(n:Int) % (d:Int)=0:=by simpa using z
   have A:d∣n:=EK.mp (GG z);rcases hp.div d A with y | y <;> omega
  ·have z:¬ (n:Int) % (d:Int)=0:=by simpa using z
   refine ⟨_,rfl,_,_,rfl,rfl,?_⟩;refine ⟨n+2 - (d+1),⋯,d+1,rfl,rfl,⋯,rfl,⋯,λe j B a=>?_⟩;rcases Nat.lt_succ_iff_lt_or_eq.mp B with y | y
   ·exact o e j y a
   ·rw [y] at a;exact z (Int.emod_eq_zero_of_dvd (EK.mpr a))
 ·have c:¬ (d:Int)*(d:Int)<=(n:Int):=λy=>c (nI y)
  have x:n<d*d:=by have:(n:Int)<((d*d:Nat):Int):=by push_cast;omega
                   omega
  refine ⟨_,rfl,_,_,rfl,rfl,k _ ?_⟩;constructor
  ·intro y;have G:1<(n:Int):=nJ y;refine ⟨⋯,λe a=>?_⟩;obtain ⟨f,b⟩:=a;by_cases i:e=1
   ·exact .inl i
   by_cases en:e=n
   ·exact .inr en
   exfalso;have I:e≠0:=λz=>by rw [z] at b;omega
   have J:f≠0:=λz=>by rw [z] at b;omega
   have L:f≠1:=λz=>by rw [z] at b;omega
   rcases Br e d with p | p
   ·exact o e ⋯ p ⟨f,b⟩
   ·rcases Br f d with q | q
    ·exact o f ⋯ q ⟨e,by rw [b,DE]⟩
    ·have:=Dl p q;omega
  ·intro y;have:=y.two;exact nI ⋯
theorem uI (h:ME K vs H Q E):Z0 K (eC Q) (L2.start ["whole","found"] vs) H:=by
 obtain ⟨n,g,rfl,o,q,e,k⟩:=h;refine ⟨_,rfl,_,_,rfl,rfl,?_⟩;refine DJ (λm f a=>∃ d:Nat,f=[some (.int (n:Int)),some (.int (d:Int))]/\a=H/\n<d/\d<=g/\m=g - d) (g - (n+1)) ⟨n+1,rfl,rfl,⋯,⋯,rfl⟩ ?_;rintro m f a ⟨d,rfl,rfl,p,i,rfl⟩;refine Df ⟨_,rfl,d,rfl,EG i e,λb j=>⟨_,rfl,?_⟩⟩;clear e;cases b with
 | true=>
   show (if (!true)=true then _ else _);refine Ah (λc=>by cases c) (λ_=>?_);exact ⟨_,rfl,k d (j.mp rfl) p i⟩
 | false=>
   refine Ah (λ_=>?_) (λc=>absurd rfl c);have r:d≠g:=λz=>by have:=j.mpr (z ▸ o);cases this
   refine ⟨_,λ_ _ h=>h,?_⟩;exact ⟨_,rfl,_,_,rfl,rfl,g - (d+1),⋯,d+1,rfl,rfl,⋯,⋯,rfl⟩
def uJ:Pr bX:=Fm (n:=29) (r:=9) (k:=10) (j:=2) rfl (by decide +kernel)
def uK (h:MF K vs H Q E):Z1 K (eC Q) (L2.start ["prime"] vs) H:=by
 obtain ⟨n,g,rfl,d,f,i,a,k⟩:=h;have e:(Ey:Int)=170141183460469231731687303715884105727:=by decide
 refine ⟨_,rfl,rfl,_,rfl,Ah (λc=>?_) (λc=>?_)⟩
 ·have c:(n:Int)=170141183460469231731687303715884105727:=by simpa using c
  exact k bX uJ (.inl ⟨⋯,rfl⟩) a
 ·have c:¬ (n:Int)=170141183460469231731687303715884105727:=by simpa using c
  exact Df (AF rfl ⟨n,g,rfl,d,f.resolve_left ⋯,i,λp j m o=>k p j (.inr ⟨⋯,m⟩) o⟩)
def uL {a:Type} {xs:List a} {i j k:Nat} {x y:a} (d:xs[j]?=some x) (b:xs[i]?=some y) (e:i<xs.length) (c:j<xs.length) (hk:k<xs.length):((xs.set i x).set j y)[k]?=xs[tw i j k]?:=by
 rw [List.getElem?_set,Dk,List.getElem?_set];unfold tw;by_cases q:k=j
 ·by_cases r:k=i
  ·rw [nH q.symm,nH c,nH r,<-q,r,b]
  ·rw [nH q.symm,nH c,nG r,nH q,b]
 ·rw [nG (λz=>q z.symm)];by_cases r:k=i
  ·rw [nH r.symm,nH e,nH r,d]
  ·rw [nG (λz=>r z.symm),nG r,nG q]
def Hr {n i:Nat} (h:i<n):a8 n (i:Int)=some i:=by
 unfold a8;rw [nH ⋯,nH ⋯];simp
def uM (h:KJ K vs H Q E):zP K (eC Q) (L2.start ["row","one","other","result"] vs) H:=by
 obtain ⟨a,b,i,j,rfl,c,d,e,p,k⟩:=h;refine Ag (Cm (AF rfl ⟨a,b,rfl,c,λr f=>?_⟩));have g:a≠r:=Ax c f;obtain ⟨x,m⟩:∃ x,b[j]?=some x:=⟨_,AT e⟩;obtain ⟨y,n⟩:∃ y,b[i]?=some y:=⟨_,AT d⟩;refine F8 (AX (AF rfl (AF rfl (Cl (by rw [Au g];exact c) (DP m) ?_))));refine ⟨_,rfl,_,rfl,r,b,_,i,rfl,rfl,upd_same,Hr d,?_⟩;rw [NP];refine F8 (AX (AF rfl (AF rfl (Cl (by rw [Au g];exact c) (DP n) ?_))));refine ⟨_,rfl,_,rfl,r,_,_,j,rfl,rfl,upd_same,Hr (by rw [Dk];exact e),?_⟩;rw [NP];exact BY (AF rfl (k r _ f (by rw [Dk,Dk]) λk hk=>uL m n d e hk))
def Hs {D:Ends} {t:TS} {a:L2.St} {H:Hp} (h:t D a H):BT { D with nx:=t D } a H:=h
def uN (h:KK K vs H Q E):zQ K (eC Q) (L2.start ["row","lead","column","prime","weight"] vs) H:=by
 obtain ⟨a,b,d,G,n,c,p,rfl,e,g,v,I,J,L,m,w,rn,rm,k⟩:=h
 have A:(d.map V.int)[c]?=some (.int (co d c)):=by
  rw [Aa,AT ⋯];unfold co;rw [AI,AT ⋯];rfl
 have C:co d c∈d:=by
  unfold co;rw [AI,AT ⋯];exact CT _
 refine Ag (AX (AF rfl (AF rfl (Cl e (DP A) ?_))));refine Fn (Dh (AX (AF rfl (F_ ⟨rfl,_,rfl,Ah (λz=>?_) (λ_=>?_)⟩))))
 ·have z:co d c=0:=by simpa using z
  refine BY (AF rfl (k a d H (Same.refl H) (.inl rfl) e v rn λj D=>?_));rw [z,show Zm.of p 0=0 from rfl];ext
 ·refine Hs (BY (Ho ⟨_,rfl,_,rfl,a,b,rfl,⟨_,SqL.of e⟩,⟨_,SqL.of g⟩,Mp (λx y=>(x - co d c*y) % p) e g ⋯ ⋯ (λx y M F f P s q=>?_) λr f s o=>?_⟩))
  ·have B:∀ z,0<=z/\z<p->Bd 45000 z:=λz u=>w.le ⋯;exact ⟨_,rfl,_,rfl,_,rfl,_,_,rfl,rfl,Bf (B _ (rn _ C)) (B _ (rm y F)),_,_,rfl,rfl,_,rfl,_,_,rfl,rfl,m,q⟩
  ·refine k r _ _ (Kc s o _) (.inr (s.free o)) upd_same (by rw [List.length_zipWith];omega) (λz u=>?_) λj D=>?_
   ·obtain ⟨i,N,rfl⟩:=Ed.mp u;rw [List.getElem_zipWith];exact ⟨B9 _ ⋯,CM _ m⟩
   ·rw [Mq ⋯ ⋯,Zm.of_mod,Zm.of_sub,Zm.of_mul]
noncomputable def rm (H:Hp) (c:Addr):Hp:=λb=>if b=c then none else H b
def Eo {H:Hp} {c:Addr}:Same (rm H c) H:=λb o h=>by
 unfold rm at h;by_cases q:b=c
 ·rw [nH q] at h;cases h
 ·rwa [nG q] at h
def Gu {H:Hp} {b c:Addr} {o:HO} (n:b≠c) (h:H b=some o):rm H c b=some o:=by unfold rm;rw [nG n];exact h
def Ht {H H':Hp} (c:Addr) (s:Same H H'):Same (rm H c) (rm H' c):=λb o h=>by
 unfold rm at h ⊢;by_cases q:b=c
 ·rw [nH q] at h;cases h
 ·rw [nG q] at h ⊢;exact s b o h
def Ke {H:Hp} {c:Addr} {o:HO}:Same (rm H c) (rm (upd H c o) c):=λb u h=>by
 unfold rm at h ⊢;by_cases q:b=c
 ·rw [nH q] at h;cases h
 ·rw [nG q] at h ⊢;rw [Au q];exact h
theorem SDs.mk {H:Hp}:∀ {xs:d8} {b:List (de)},xs.length=b.length->(∀ (i:Nat) r,b[i]?=some r->∃ a,xs[i]?=some (.ref a)/\H a=some (.lst (r.map V.int)))->SDs H xs b
 | [],[],_,_=>trivial
 | x::xs,r::b,h,k=>by
   obtain ⟨a,e,q⟩:=k 0 r rfl;cases nR e;exact ⟨⟨a,rfl,q⟩,SDs.mk (Nat.succ.inj h) λi r c=>k (i+1) r (by simpa using c)⟩
 | [],_::_,h,_=>nomatch h
 | _::_,[],h,_=>nomatch h
def SDs.at {H:Hp} {xs:d8} {b:List (de)} (h:SDs H xs b) {i:Nat} (d:i<b.length):∃ a,xs[i]?=some (.ref a)/\H a=some (.lst ((b.getD i []).map V.int)):=by
 have c:i<xs.length:=by rw [h.length];exact d
 obtain ⟨a,r,e,f,g⟩:=h.get (AT c);refine ⟨a,by rw [AT c,e],?_⟩;rw [AI,f];exact g
def Rect.row {L:List (de)} {n w i:Nat} (R:Rect L n w) (h:i<n):L.getD i []∈L/\(L.getD i []).length=w:=by
 have a:i<L.length:=by rw [R.1];exact h
 have m:L.getD i []∈L:=by rw [AI,AT a];exact CT a
 exact ⟨m,R.2 _ m⟩
def Co {ns:de} {i:Nat} (h:i<ns.length):co ns i∈ns:=by
 unfold co;rw [AI,AT h];exact CT h
def EC {ns:de} {i:Nat} (h:i<ns.length):(ns.map V.int)[i]?=some (.int (co ns i)):=by
 rw [Aa,AT h];unfold co;rw [AI,AT h];rfl
def Rect.en_mem {L:List (de)} {n w i j:Nat} (R:Rect L n w) (h:i<n) (a:j<w):∃ r∈L,en L i j∈r:=⟨_,(R.row h).1,Co (by rw [(R.row h).2];exact a)⟩
def Hu {os:List Nat} {i:Nat} (h:i<os.length):(iN os)[i]?=some (.int (nth os i:Int)):=by
 unfold iN nth;rw [Aa,AT h,AI,AT h];rfl
def Cc (os:List Nat):(iN os).length=os.length:=by unfold iN;rw [AK]
def Gv {a:Type} (f:Nat->a) (d:a) {n i:Nat} (h:i<n):((List.range n).map f).getD i d=f i:=by
 rw [AI,Aa,CV h];rfl
def CQ {os:List Nat} {i:Nat} (h:i<os.length):nth os i∈os:=by
 unfold nth;rw [AI,AT h];exact CT h
def uO {p:Nat} (a:Pr p) {x f:Int} (c:0<=x) (e:x<(p:Int)) (i:x≠0) (b:Int.gcd x (p:Int)=1->(p:Int)∣f*x - 1):Zm.of (p:Int) x*Zm.of (p:Int) f=1:=by
 have g:Int.gcd x (p:Int)=1:=by
  rcases a.div _ (EK.mp (EY x (p:Int))) with q | q
  ·exact q
  ·have d:=E8 x (p:Int);rw [q] at d;have:=Int.le_of_dvd ⋯ d;omega
 have h:=b g;rw [<-Zm.of_mul,show (1:Zm (p:Int))=Zm.of (p:Int) 1 from rfl,Zm.of_eq,Cq];exact h
structure RSm (H H':Hp) (L:List (de)) (n w p i:Nat) (lf od cm:Addr) (LL:List (de)) (ob cb:List Nat):Prop where
 s:Same H H'
 cn:H cm=none
 hl:SD (rm H' cm) lf LL
 ho:rm H' cm od=some (.lst (iN ob))
 hc:H' cm=some (.lst (iN cb))
 rc:Rect LL n w
 lo:ob.length=n
 ip:aP (p:Int) LL
 re:∃ u,RE n w (λi j=>Zm.of (p:Int) (en L i j)) i cb.length (nth ob) (nth cb) u (λi j=>Zm.of (p:Int) (en LL i j))
def uP {K:W.Frag} {H:Hp} {Q:VK} {d:L2.St} {lf cm ld:Addr} {LL:List (de)} {ls:de} {n w p c:Nat} (D:d[2]?=some (some (.ref lf))) (m:d[9]?=some (some (.ref ld))) (u:d[5]?=some (some (.int (c:Int)))) (v:d[1]?=some (some (.int (p:Int))))
  (hl:SD (rm H cm) lf LL) (hc:∃ o,H cm=some o) (hd:H ld=some (.lst (ls.map V.int))) (R:Rect LL n w) (n1:n<=100) (w1:w<=100) (lw:ls.length=w) (cw:c<w) (p0:0<p) (bp:Bd 45000 (p:Int)) (ip:aP (p:Int) LL) (il:∀ z∈ls,0<=z/\z<(p:Int))
  (k:∀ (r:Addr) (ys:d8) (b:List (de)) (H':Hp),Same H H'->H' r=none->SDs (rm H' cm) ys b->Rect b n w->aP (p:Int) b->(∀ t,t<n->∀ j,j<w->Zm.of (p:Int) (en b t j)=Zm.of (p:Int) (en LL t j) - Zm.of (p:Int) (en LL t c)*Zm.of (p:Int) (co ls j))->Q (.ref r) (upd H' r (.lst ys))) :
  A8 (BU K (AB 2)) [none,some 9,some 5,some 1] (AG 0) (bA (KK K) (AC (AB 0) (AC (AB 1) (AC (AB 2) (AC (AB 3) AD))))) d H Q:=by
 obtain ⟨B,F,X⟩:=hl;have a0:=X.length;have g:=Eo _ _ F;obtain ⟨oc,G⟩:=hc;refine Dg (AF D ⟨lf,rfl,⟨_,SqL.of g⟩,CompJ.lst (xs:=B) (λi ys H'=>i<=B.length/\Same H H'/\∃ b:List (de),SDs (rm H' cm) ys b/\b.length=i/\(∀ r∈b,r.length=w)/\aP (p:Int) b/\∀ t,t<i->∀ j,j<w->Zm.of (p:Int) (en b t j)=Zm.of (p:Int) (en LL t j) - Zm.of (p:Int) (en LL t c)*Zm.of (p:Int) (co ls j)) ⟨AY _,Same.refl H,[],trivial,rfl,(λ_ h=>nomatch h),(λ_ h=>nomatch h),λt h=>absurd h (BS t)⟩ ?_ ?_ ?_⟩)
 ·rintro i ys H' ⟨Y,s,b,y,A,_⟩;refine ⟨Y,sz ?_,SqL.of (s _ _ g)⟩;rw [y.length,A,<-R.1.symm.symm] at *;have:=R.1;omega
 ·rintro i x ys H' Z ⟨Y,s,b,y,A,rw',I,J⟩;have L:i<B.length:=(BF.mp Z).1;have M:i<n:=by have:=R.1;omega
  obtain ⟨a,r,rfl,er,C⟩:=X.get Z;have eg:LL.getD i []=r:=by rw [AI,er];rfl
  have f:=R.row M;rw [eg] at f
  have N:a≠cm:=λz=>by
   unfold rm at C;rw [nH z] at C;cases C
  have b5:(Ch [none,some 9,some 5,some 1] d)=[none,some (.ref ld),some (.int (c:Int)),some (.int (p:Int))]:=by
   show [none,(d[9]?).join,(d[5]?).join,(d[1]?).join]=_;rw [m,u,v];rfl
  rw [b5];refine CD (Jx (AF rfl (AF rfl (AF rfl (AF rfl ⟨a,ld,r,ls,w,c,_,rfl,s _ _ (Eo _ _ C),s _ _ hd,f.2,lw,⋯,cw,⋯,bp,ip r f.1,il,λq rs H2 s2 hq O P S T=>?_⟩)))))
  have U:q≠cm:=by
   rcases hq with z | z
   ·rw [z];exact N
   ·exact (Ax (s _ _ G) z).symm
  refine ⟨L,s.trans s2,b++[rs],(y.tp (Ht cm s2)).snoc (Gu U O),by rw [CL,A];rfl,λr f=>?_,λr f=>?_,λt ht j hj=>?_⟩
  ·rcases CS.mp f with z | z
   ·exact rw' r z
   ·rw [BL.mp z];exact P
  ·rcases CS.mp f with z | z
   ·exact I r z
   ·rw [BL.mp z];exact S
  ·unfold en;by_cases z:t<i
   ·rw [AI,EF ⋯,<-AI];exact J t z j hj
   ·have e:t=i:=by omega
    subst e;rw [AI,EE ⋯,A,Nat.sub_self];show Zm.of _ (co rs j)=_;rw [eg];exact T j hj
 ·rintro ys H' ⟨_,s,b,y,A,rw',I,J⟩ r f;have e:B.length=n:=by have:=R.1;omega
  exact k r ys b H' s f y ⟨⋯,rw'⟩ I λt ht=>J t ⋯
def CompF.range {capt:List (Option Nat)} {g:TG} {tc:TT} {f:TE} {j:L2.St} {H:Hp} {Q:VK} {lo:Int} {n:Nat} (W:Nat->d8->Hp->Prop) (m:W 0 [] H) (d:∀ i a H,W i a H->i<=n/\a.length<=sizeLine)
  (o:∀ i a H,i<n->W i a H->g (.int (lo+i)) (Ch capt j) H λc q=>tc c q λb k=>if b=true then f c k λy r=>W (i+1) (a++[y]) r else W (i+1) a k) (u:∀ a H,W n a H->∀ p,H p=none->Q (.ref p) (upd H p (.lst a))):CompF (ad lo n) capt g tc f j Q H:=by
 refine ⟨n,W,m,λi a H w=>⟨(d i a H w).1,(d i a H w).2,?_⟩⟩;by_cases h:i<n
 ·refine .inr ⟨h,h,λx v y=>?_⟩;obtain ⟨e,y⟩:=y;subst e y;exact o i a _ h w
 ·have e:i=n:=E9 (d i a H w).1 (Nat.not_lt.mp h);subst e;exact .inl ⟨AV _,u a H w⟩
def uQ {b:TA} {capt:List (Option Nat)} {g:TG} {tc:TT} {c:TE} {a:L2.St} {H:Hp} {Q:VK} (h:b a H (λvs d=>∃ i j:Int,vs=[.int i,.int j]/\(-(2 ^ 62)<=i/\i<2 ^ 62/\-(2 ^ 62)<=j/\j<2 ^ 62)/\CompF (ad i (j - i).toNat) capt g tc c a Q d)):Fh (GN b) capt g tc c a H Q:=h
def Gw {c:TT} {t u:TS} {D:Ends} {a:L2.St} {H:Hp} (h:c a H λb d=>if b=true then t D a d else u D a d):BR c t u D a H:=h
def UF {a:TE} {b:L2.St} {H:Hp} {Q:Bool->Hp->Prop} (h:a b H λx c=>∃ p d,x=.ref p/\c p=some (.lst d)/\Q (!d.isEmpty) c):ER a b H Q:=h
def Kf (F:Int->Int) {ns:de} {j:Nat} (h:j<ns.length):co (ns.map F) j=F (co ns j):=by
 unfold co;rw [AI,Aa,AT h,AI,AT h];rfl
def RSm.step {K:W.Frag} {H H':Hp} {L:List (de)} {n w p i:Nat} {a lf od cm:Addr} {LL:List (de)} {ob C:List Nat} {x6 x7 x8 x9:dc} {D:Ends} (I:RSm H H' L n w p i lf od cm LL ob C) (iw:i<w) (n1:n<=100) (w1:w<=100) (pp:Pr p) (bp:Bd 45000 (p:Int))
  (nx:∀ U lf od LL ob C x6 x7 x8 x9,RSm H U L n w p (i+1) lf od cm LL ob C->D.nx [some (.ref a),some (.int (p:Int)),some (.ref lf),some (.ref od),some (.ref cm),some (.int (i:Int)),x6,x7,x8,x9] U) :
  Q2 K D [some (.ref a),some (.int (p:Int)),some (.ref lf),some (.ref od),some (.ref cm),some (.int (i:Int)),x6,x7,x8,x9] H':=by
 have p2:=pp.two;obtain ⟨s,cn,⟨ws,am,hS⟩,ho,X,R,lo,ip,u,re⟩:=I;have bk:=hS.length;have wn:ws.length=n:=by rw [bk,R.1]
 have M:=Eo _ _ am;have bl:=Eo _ _ ho;have dn:=re.dn;have di:C.length<=100:=by omega
 obtain ⟨d,hd⟩:∃ d,d=C.length:=⟨_,rfl⟩;rw [<-hd] at re dn;refine Ag (FT (AF rfl (FU X ?_)));rw [Cc,<-hd];show Q1 K _ _ _;refine Ag (uQ ⟨_,rfl,_,rfl,lf,ws,rfl,M,_,_,rfl,by rw [wn];omega,?_⟩);rw [wn,show ((n:Int) - (d:Int)).toNat=n - d by omega];refine CompF.range (λk S U=>k<=n - d/\U=H'/\∃ A:List Nat,S=iN A/\A.length<=k/\(∀ z∈A,d<=z/\z<n/\en LL z i≠0)/\(A=[]->∀ z,d<=z->z<d+k->en LL z i=0)) ⟨AY _,rfl,[],rfl,AV _,(λ_ h=>nomatch h),λ_ z h1 h2=>by omega⟩ ?_ ?_ ?_
 ·rintro k S U ⟨hk,rfl,A,rfl,ld,_⟩;exact ⟨hk,sz (by rw [Cc];omega)⟩
 ·rintro k S U hk ⟨_,rfl,A,rfl,ld,h1,h2⟩;obtain ⟨ra,bm,bq⟩:=hS.at (i:=d+k) (by rw [R.1];omega);have g:=R.row (i:=d+k) ⋯;have ec:(((LL.getD (d+k) []).map V.int))[i]?=some (.int (en LL (d+k) i)):=EC (by rw [g.2];exact iw);refine CD (Dh (AX (AX (AX (AF rfl (AF rfl (Cl M (DC (j:=d+k) ⋯ bm) (AF rfl (Cl (Eo _ _ bq) (DP ec) (F_ ⟨rfl,_,rfl,Ah (λz=>?_) (λz=>?_)⟩))))))))))
  ·have z:en LL (d+k) i≠0:=by simpa using z
   refine ⟨_,rfl,⋯,rfl,A++[d+k],?_,by rw [CL];exact Nat.succ_le_succ ld,λy hy=>?_,λe=>by simp at e⟩
   ·unfold iN;rw [Cp];show _++[V.int ((d:Int)+(k:Int))]=_++[V.int ((d+k:Nat):Int)];rw [Int.natCast_add]
   ·rcases CS.mp hy with q | q
    ·exact h1 y q
    ·rw [BL.mp q];exact ⟨⋯,⋯,z⟩
  ·have z:en LL (d+k) i=0:=by simpa using z
   refine ⟨⋯,rfl,A,rfl,⋯,h1,λe y y1 y2=>?_⟩;by_cases q:y=d+k
   ·rw [q];exact z
   ·exact h2 e y y1 ⋯
 rintro S U ⟨_,rfl,A,rfl,ld,h1,h2⟩ ch an;have c6:ch≠cm:=(Ax X an).symm;have T:=AQ an (.lst (iN A));show Qz K _ _ _;refine Gw (UF (AF rfl ⟨ch,_,rfl,upd_same,Ah (λc=>?_) (λc=>?_)⟩))
 ·-- a pivot
  obtain ⟨k,m,rfl⟩:∃ k m,A=k::m:=by
   cases A with
   | nil=>cases c
   | cons k m=>exact ⟨k,m,rfl⟩
  obtain ⟨dk,kn,br⟩:=h1 k (DK ..);clear c h2;have ao:(iN (k::m))[0]?=some (.int (k:Int)):=rfl;generalize bs:upd U ch (.lst (iN (k::m)))=H3 at *;have a0:H3 ch=some (.lst (iN (k::m))):=by rw [<-bs];exact upd_same
  refine Lm (AF rfl (AF rfl (AX (AF rfl (F_ (Cl a0 (DC (j:=0) rfl ao) ⟨lf,ws,d,k,rfl,T _ _ M,⋯,⋯,⋯,λl2 S ap ly ey=>?_⟩))))));have s2:=AQ ap (.lst S);have aq:l2≠cm:=(Ax (T _ _ X) ap).symm;generalize bt:upd H3 l2 (.lst S)=H4 at *;have N:H4 l2=some (.lst S):=by rw [<-bt];exact upd_same
  show Qy K _ _ _;refine Lm (AF rfl (AF rfl (AX (AF rfl (F_ (Cl (s2 _ _ a0) (DC (j:=0) rfl ao) ⟨od,iN ob,d,k,rfl,s2 _ _ (T _ _ bl),by rw [Cc];omega,by rw [Cc];omega,by rw [Cc];omega,λo2 zs ar lz ez=>?_⟩))))));have s3:=AQ ar (.lst zs);have b0:o2≠cm:=(Ax (s2 _ _ (T _ _ X)) ar).symm;generalize bv:upd H4 o2 (.lst zs)=H5 at *;have a3:H5 o2=some (.lst zs):=by rw [<-bv];exact upd_same
  have a5:=(T.trans s2).trans s3;rw [Cc] at lz ez
  have bw:zs=iN ((List.range n).map λt=>nth ob (tw d k t)):=by
   refine Fb λt=>?_;rcases Br t n with q | q
   ·rw [ez t ⋯,Hu (by rw [lo];exact IQ ⋯ ⋯ q),Hu (by simpa using q)];unfold nth;rw [Gv _ _ q]
   ·rw [Bp ⋯,Bp (by rw [Cc];simpa using q)]
  have b1:SDs (rm H5 cm) S ((List.range n).map λt=>LL.getD (tw d k t) []):=SDs.mk (by rw [ly,wn];simp) λt r g=>by
   have q:t<n:=by
    have:=(BF.mp g).1;simpa using this
   rw [Aa,CV q] at g;obtain ⟨b,eb,F⟩:=hS.at (i:=tw d k t) (by rw [R.1];exact IQ ⋯ kn q);refine ⟨b,by rw [ey t ⋯,eb],?_⟩;cases g;exact Ht cm a5 _ _ F
  have e5:∀ t,t<n->∀ j,en ((List.range n).map λt=>LL.getD (tw d k t) []) t j=en LL (tw d k t) j:=λt B j=>by
   unfold en;rw [Gv _ _ B]
  have R5:Rect ((List.range n).map λt=>LL.getD (tw d k t) []) n w:=⟨by simp,λr g=>by
   obtain ⟨t,B,rfl⟩:=Ap.mp g;exact (R.row (IQ ⋯ kn (C5.mp B))).2⟩
  have ab:aP (p:Int) ((List.range n).map λt=>LL.getD (tw d k t) []):=λr g=>by
   obtain ⟨t,B,rfl⟩:=Ap.mp g;exact ip _ (R.row (IQ ⋯ kn (C5.mp B))).1
  generalize c7:((List.range n).map λt=>LL.getD (tw d k t) [])=L5 at *;show Qx K _ _ _;obtain ⟨rd,b2,ac⟩:=b1.at (i:=d) (by rw [R5.1];omega);have x:=R5.row (i:=d) ⋯;have ec:(((L5.getD d []).map V.int))[i]?=some (.int (en L5 d i)):=EC (by rw [x.2];exact iw);have b3:en L5 d i=en LL k i:=by rw [e5 d ⋯,L3]
  have zi:=ab _ x.1 _ (Co (i:=i) (by rw [x.2];exact iw));refine Gf (AX (AX (AF rfl (AF rfl (Cl (s3 _ _ N) (DP b2) (AF rfl (Cl (Eo _ _ ac) (DP ec) (AF rfl ⟨_,_,rfl,⋯,bp,λf f0 f1 hf=>?_⟩))))))))
  have b4:Zm.of (p:Int) (en LL k i)*Zm.of (p:Int) f=1:=by
   rw [<-b3];exact uO pp zi.1 zi.2 (by show en L5 d i≠0;rw [b3];exact br) hf
  show Qw K _ _ _;refine Ag (Dg (AX (AF rfl (AF rfl (Cl (s3 _ _ N) (DP b2) ⟨rd,rfl,⟨_,SqL.of (Eo _ _ ac)⟩,Iy (λz=>z*f % (p:Int)) (Eo _ _ ac) (by rw [x.2];omega) (λz hz P hP=>?_) λld b5=>?_⟩)))))
  ·have zb:=ab _ x.1 z hz;exact ⟨_,rfl,_,rfl,_,_,rfl,rfl,Bf (bp.le ⋯) (bp.le ⋯),_,rfl,_,_,rfl,rfl,⋯,hP⟩
  have s4:=AQ b5 (.lst (((L5.getD d []).map λz=>z*f % (p:Int)).map V.int));have bx:ld≠cm:=(Ax (a5 _ _ X) b5).symm;obtain ⟨v,Y⟩:∃ v,v=(L5.getD d []).map λz=>z*f % (p:Int):=⟨_,rfl⟩;rw [<-Y] at s4 ⊢;have b6:v.length=w:=by rw [Y,AK];exact x.2
  have b7:∀ j,j<w->Zm.of (p:Int) (co v j)=Zm.of (p:Int) (en LL k j)*Zm.of (p:Int) f:=λj hj=>by
   have e:co v j=en L5 d j*f % (p:Int):=by
    rw [Y];exact Kf _ (by rw [x.2];exact hj)
   rw [e,Zm.of_mod,Zm.of_mul,e5 d ⋯,L3]
  have b9:∀ z∈v,0<=z/\z<(p:Int):=λz hz=>by
   rw [Y] at hz;obtain ⟨y,_,rfl⟩:=Ap.mp hz;exact ⟨B9 _ ⋯,CM _ ⋯⟩
  generalize bz:upd H5 ld (.lst (v.map V.int))=H6 at *;have O:H6 ld=some (.lst (v.map V.int)):=by rw [<-bz];exact upd_same
  have ba:=a5.trans s4;show Qv K _ _ _;refine Ag (uP (lf:=l2) (cm:=cm) (ld:=ld) (LL:=L5) (ls:=v) (n:=n) (w:=w) (p:=p) (c:=i) rfl rfl rfl rfl ⟨S,Gu aq (s4 _ _ (s3 _ _ N)),b1.tp (Ht cm s4)⟩ ⟨_,ba _ _ X⟩ O R5 n1 w1 b6 iw ⋯ bp ab b9 λl3 G L6 H7 s5 J bb R6 c0 e6=>?_);have Z:=ba.trans s5;have a4:l3≠cm:=(Ax (Z _ _ X) J).symm;have s6:=AQ J (.lst G);generalize c1:upd H7 l3 (.lst G)=H8 at *;have bc:H8 l3=some (.lst G):=by rw [<-c1];exact upd_same
  have bd:ld≠l3:=Ax (s5 _ _ O) J;show Qu K _ _ _;have aj:=bb.length;refine F8 (AF rfl ⟨_,rfl,_,rfl,l3,G,_,d,rfl,rfl,bc,Hr (by rw [aj,R6.1];omega),?_⟩);show Qt K _ _ _;have be:H8 ld=some (.lst (v.map V.int)):=s6 _ _ (s5 _ _ O);have c2:H8 cm=some (.lst (iN C)):=s6 _ _ (Z _ _ X);generalize al:upd H8 l3 (.lst (G.set d (.ref ld)))=H9 at *;have bf:H9 cm=some (.lst (iN C)):=by rw [<-al,Au a4.symm];exact c2
  refine ⟨_,rfl,.inl ⟨rfl,_,SqL.of bf⟩,_,rfl,cm,_,_,rfl,rfl,bf,sz (by rw [Cc];omega),?_⟩;have k9:Kp l3 H8 H9:=by rw [<-al];exact Kp.upd
  refine nx _ l3 o2 (L6.set d v) ((List.range n).map λt=>nth ob (tw d k t)) (C++[i]) _ _ _ _ ?_
  have c3:Same U H9:=by
   intro b o F;exact k9 b o (Ax (Z b o F) J) (s6 _ _ (Z b o F))
  have bg:iN C++[V.int (i:Int)]=iN (C++[i]):=by unfold iN;rw [Cp];rfl
  rw [bg]
  have bi:∀ t,t<n->∀ j,en (L6.set d v) t j=if t=d then co v j else en L6 t j:=λt B j=>by
   unfold en;rw [AI,List.getElem?_set];by_cases q:t=d
   ·rw [nH q.symm,nH (by rw [R6.1];omega),nH q];rfl
   ·rw [nG (λz=>q z.symm),nG q,<-AI]
  refine ⟨λb o F=>?_,cn,⟨G.set d (.ref ld),?_,?_⟩,?_,upd_same,⟨by rw [Dk];exact R6.1,λr g=>?_⟩,by simp,λr g=>?_,?_⟩
  ·rw [Au (Ax F cn)];exact c3 _ _ (s _ _ F)
  ·refine Ke _ _ (Gu a4 ?_);rw [<-al];exact upd_same
  ·refine SDs.mk (by rw [Dk,Dk];exact aj) λt r g=>?_
   have tn:t<n:=by
    have:=(BF.mp g).1;rw [Dk,R6.1] at this;exact this
   rw [List.getElem?_set] at g ⊢;by_cases q:d=t
   ·rw [nH q,nH (by rw [R6.1];omega)] at g;rw [nH q,nH (by rw [aj,R6.1];omega)];cases g;exact ⟨ld,rfl,Ke _ _ (Gu bx (k9 _ _ bd be))⟩
   ·rw [nG q] at g ⊢;obtain ⟨b,eb,F⟩:=bb.at (i:=t) (by rw [R6.1];exact tn);refine ⟨b,eb,?_⟩;rw [AI,g] at F
    have c4:b≠cm:=λz=>by
     unfold rm at F;rw [nH z] at F;cases F
    have bj:=Eo _ _ F;exact Ke _ _ (Gu c4 (k9 _ _ (Ax bj J) (s6 _ _ bj)))
  ·have:=s6 _ _ (s5 _ _ (s4 _ _ a3));rw [bw] at this;exact Ke _ _ (Gu b0 (k9 _ _ (Ax (s5 _ _ (s4 _ _ a3)) J) this))
  ·rcases List.mem_or_eq_of_mem_set g with q | q
   ·exact R6.2 r q
   ·rw [q];exact b6
  ·rcases List.mem_or_eq_of_mem_set g with q | q
   ·exact c0 r q
   ·rw [q];exact b9
  ·rw [CL,<-hd]
   have c5:∀ t,t<d->nth (C++[i]) t=nth C t:=λt B=>by
    unfold nth;rw [AI,EF ⋯,<-AI]
   refine re.step (k:=k) (y:=Zm.of (p:Int) f) iw dk kn b4 (λt B=>?_) c5 ?_ (λj hj=>?_) (λt B q j hj=>?_)
   ·unfold nth;rw [Gv _ _ B]
   ·unfold nth;rw [AI,EE ⋯,<-hd,Nat.sub_self];rfl
   ·show Zm.of _ (en (L6.set d v) d j)=_;rw [bi d ⋯,nH rfl];exact b7 j hj
   ·show Zm.of _ (en (L6.set d v) t j)=_;rw [bi t B,nG q,e6 t B j hj,e5 t B,e5 t B,b7 j hj]
 ·have e:A=[]:=by
   cases A with
   | nil=>rfl
   | cons k m=>exact absurd rfl c
  refine nx _ lf od LL ob C _ _ _ _ ⟨s.trans T,cn,⟨ws,Ht cm T _ _ am,hS.tp (Ht cm T)⟩,Ht cm T _ _ ho,T _ _ X,R,lo,ip,u,?_⟩;rw [<-hd];refine re.skip λt dt tn=>?_;rw [h2 e t dt ⋯];rfl
def uR {H:Hp} {c:Addr} {o:HO} (h:H c=none):Same H (rm (upd H c o) c):=λb u a=>Gu (Ax a h) (AQ h o b u a)
def Rect.nil {n w:Nat} {L:List (de)} (R:Rect L n w) (h:n=0):L=[]:=CU.mp (R.1.trans h)
def UG {a:Addr} {L:List (de)} {n w:Nat} {f:L2.St} {H:Hp} {Q:VK} (d:f[0]?=some (some (.ref a))) (h:SD H a L) (R:Rect L n w) (o:n=0->Q (.int 0) H) (p:n≠0->Q (.int (w:Int)) H):au (ER (AB 0)) (C' BK (AC (A_ gL (AB 0) (aM 0)) AD)) (aM 0) f H Q:=by
 obtain ⟨g,k,m⟩:=h;have e:=m.length;refine UF (AF d ⟨a,g,rfl,k,Ah (λc=>?_) (λc=>?_)⟩)
 ·have q:n≠0:=λz=>by
   rw [R.nil z] at e;rw [CU.mp e] at c;cases c
  obtain ⟨b,r,u⟩:=m.at (i:=0) (by rw [R.1];omega);refine FT (AX (AF d (F_ (Cl k (DC (j:=0) rfl r) (FU u ?_)))));rw [AK,(R.row (i:=0) ⋯).2];exact p q
 ·refine o (Classical.byContradiction λz=>c ?_);cases g with
  | nil=>have:0=L.length:=e;have:=R.1;omega
  | cons=>rfl
def RE.none {R:Type} [Lean.Grind.CommRing R] {w d:Nat} {a u l:Nat->Nat->R} {o c:Nat->Nat} (I:RE 0 w a 0 d o c u l):RE 0 w a w d o c u l:=by
 have:d=0:=by have:=I.dn;omega
 subst this;exact ⟨AV _,I.on,I.inj,λs h=>absurd h (BS s),I.cr,I.row,λi _ h=>absurd h (BS i),λs h=>absurd h (BS s),λi _ h=>absurd h (BS i),I.ech⟩
theorem SDs.take {H:Hp}:∀ {xs:d8} {a:List (de)} (n:Nat),SDs H xs a->SDs H (xs.take n) (a.take n)
 | [],[],n,_=>by simp [SDs]
 | _::_,_::_,0,_=>trivial
 | _::_,_::_,n+1,h=>⟨h.1,SDs.take n h.2⟩
 | [],_::_,_,h=>h.elim
 | _::_,[],_,h=>h.elim
def uS {os:List Nat} {d i:Nat} (h:i<d):nth (os.take d) i=nth os i:=by
 unfold nth;rw [AI,List.getElem?_take,nH h,<-AI]
def uT {L:List (de)} {d i j:Nat} (h:i<d):en (L.take d) i j=en L i j:=by
 unfold en;rw [AI,List.getElem?_take,nH h,<-AI]
def uU (h:KL K vs H Q E):zO K { nx:=λ_ c=>Q .non c,rt:=Q } (L2.start ["rows","prime","left","order","columns","column","done","chosen","factor","lead"] vs) H:=by
 obtain ⟨a,L,n,w,p,rfl,hL,R,n1,w1,pp,bp,k⟩:=h;have p2:=pp.two;obtain ⟨D,ha,hS⟩:=hL;have F:=hS.length;have wn:D.length=n:=by rw [F,R.1]
 obtain ⟨g,B⟩:∃ g:List (de),g=L.map λr=>r.map (·% (p:Int)):=⟨_,rfl⟩;refine Ag (Dg (AF rfl ⟨a,rfl,⟨_,SqL.of ha⟩,CompJ.lst (xs:=D) (λi N c=>i<=D.length/\Same H c/\SDs c N (g.take i)) ⟨AY _,Same.refl H,trivial⟩ ?_ ?_ ?_⟩))
 ·rintro i N c ⟨d,s,hR⟩;refine ⟨d,sz ?_,SqL.of (s _ _ ha)⟩;rw [hR.length,BQ];omega
 ·rintro i x N c hx ⟨d,s,hR⟩;have an:i<D.length:=(BF.mp hx).1;obtain ⟨b,r,rfl,er,hb⟩:=hS.get hx;have C:r∈L:=BC er;refine CD (A9 (AF rfl (AF rfl ⟨b,r,_,rfl,s _ _ hb,⋯,by rw [R.2 r C];omega,λq hq=>?_⟩)));have G:=AQ hq (.lst ((r.map (·% (p:Int))).map V.int));refine ⟨an,s.trans G,?_⟩;have e0:g[i]?=some (r.map (·% (p:Int))):=by rw [B,Aa,er];rfl
  have et:g.take (i+1)=g.take i++[r.map (·% (p:Int))]:=by rw [DY,e0];rfl
  rw [et];exact (hR.tp G).snoc upd_same
 rintro N H1 ⟨_,s1,hR⟩ m W;have e0:g.take D.length=g:=by rw [F,show L.length=g.length by rw [B,AK],CA]
 rw [e0] at hR;have G:=AQ W (.lst N);generalize ao:upd H1 m (.lst N)=H2 at *;have a0:H2 m=some (.lst N):=by rw [<-ao];exact upd_same
 have a3:=s1.trans G;show Q6 K _ _ _;refine Ag (show LN _ _ _ _ from FT (AF rfl (FU (a3 _ _ ha) ⟨n,by rw [wn],⋯,λo ap=>?_⟩)));have s3:=AQ ap (.lst ((List.range n).map λi:Nat=>V.int (i:Int)));generalize aq:upd H2 o (.lst ((List.range n).map λi:Nat=>V.int (i:Int)))=H3 at *;have a4:H3 o=some (.lst (iN (List.range n))):=by rw [<-aq];exact upd_same
 show Q5 K _ _ _;refine Ag (show BG AD _ _ _ from ⟨AY _,λA X=>?_⟩);have s4:=AQ X (.lst []);have a5:=a3.trans s3;have Y:=a5.trans s4;have cn:H A=none:=a5.free X;have r4:Same H3 (rm (upd H3 A (.lst [])) A):=uR X;generalize ar:upd H3 A (.lst [])=H4 at *;have O:H4 A=some (.lst (iN [])):=by rw [<-ar];exact upd_same
 have R0:Rect g n w:=⟨by rw [B,AK];exact R.1,λr C=>by
  rw [B] at C;obtain ⟨r',h',rfl⟩:=Ap.mp C;rw [AK];exact R.2 r' h'⟩
 have ab:aP (p:Int) g:=λr C z hz=>by
  rw [B] at C;obtain ⟨r',h',rfl⟩:=Ap.mp C;obtain ⟨y,_,rfl⟩:=Ap.mp hz;exact ⟨B9 _ ⋯,CM _ ⋯⟩
 have ez:∀ i,i<n->∀ j,j<w->Zm.of (p:Int) (en g i j)=Zm.of (p:Int) (en L i j):=λi d j hj=>by
  have e:en g i j=en L i j % (p:Int):=by
   have ac:i<L.length:=by rw [R.1];exact d
   have e1:g.getD i []=(L.getD i []).map (·% (p:Int)):=by
    rw [B,AI,Aa,AT ac,AI,AT ac];rfl
   show co (g.getD i []) j=co (L.getD i []) j % _;rw [e1];exact Kf _ (by rw [(R.row d).2];exact hj)
  rw [e,Zm.of_mod]
 have aj:∃ u,RE n w (λi j=>Zm.of (p:Int) (en L i j)) 0 0 (nth (List.range n)) (nth []) u (λi j=>Zm.of (p:Int) (en g i j)):=by
  have nr:∀ i,i<n->nth (List.range n) i=i:=λi d=>by
   unfold nth;rw [AI,CV d];rfl
  refine ⟨λ_ _=>0,AY _,λi d=>by rw [nr i d];exact d,λi j d hj e=>by rw [nr i d,nr j hj] at e;exact e,λs h=>absurd h (BS s),λs t _ h=>absurd h (BS t),λi h=>absurd h (BS i),λi _ d j hj=>?_,λs h=>absurd h (BS s),λ_ _ _ j h=>absurd h (BS j),λi h=>absurd h (BS i)⟩;show Zm.of _ (en g i j)=Zm.of _ (en L (nth (List.range n) i) j)+0;rw [nr i d,ez i d j hj];ext
 have I0:RSm H H4 L n w p 0 m o A g (List.range n) []:=⟨Y,cn,⟨N,r4 _ _ (s3 _ _ a0),(hR.tp (G.trans s3)).tp r4⟩,r4 _ _ a4,O,R0,A4,ab,aj⟩
 have al:∀ c m o M v f x5 P S T U,RSm H c L n w p w m o A M v f->Q3 K { nx:=λ_ c=>Q .non c,rt:=Q } [some (.ref a),some (.int (p:Int)),some (.ref m),some (.ref o),some (.ref A),x5,P,S,T,U] c:=by
  rintro c m o M v f x5 P S T U ⟨s,cn,⟨D,W,hS⟩,ho,hc,R',lo,ip,u,re⟩;have F:=hS.length;have dn:=re.dn;have am:=Eo _ _ W;have b0:=Eo _ _ ho;have b1:=hS.tp Eo;refine BY (Ln (AF rfl (FT (AF rfl (FU hc ⟨_,rfl,m,D,rfl,am,λl2 b2=>?_⟩)))));rw [Cc,IO (by rw [F,R'.1];exact dn)];have G:=AQ b2 (.lst (D.take f.length));refine AF rfl (FT (AF rfl (FU (G _ _ hc) ⟨_,rfl,o,_,rfl,G _ _ b0,λo2 b3=>?_⟩)));rw [Cc,IO (by rw [Cc,lo];exact dn)];have s3:=AQ b3 (.lst ((iN v).take f.length));refine AF rfl ⟨Jy,λr C=>?_⟩;have s4:=AQ C (.tup [.ref l2,.ref o2,.ref A]);have st:Same c (upd (upd (upd c l2 (.lst (D.take f.length))) o2 (.lst ((iN v).take f.length))) r (.tup [.ref l2,.ref o2,.ref A])):=(G.trans s3).trans s4;have ol:(v.take f.length).length=f.length:=by rw [BQ];omega
  refine k r l2 o2 A (M.take f.length) (v.take f.length) f _ (s.trans st) upd_same ⟨D.take f.length,s4 _ _ (s3 _ _ upd_same),((b1.take _).tp st)⟩ ?_ (st _ _ hc) ⟨⟨?_,λr C=>R'.2 r (Fs C)⟩,ol.symm,λr C=>ip r (Fs C),?_⟩
  ·have:iN (v.take f.length)=(iN v).take f.length:=by unfold iN;rw [List.map_take]
   rw [this];exact s4 _ _ upd_same
  ·rw [ol,BQ,R'.1];omega
  ·rw [ol];exact ⟨nth v,nth f,u,_,re,λi d=>uS d,λi _=>rfl,λi d j hj=>by rw [uT d]⟩
 show Q4 K _ _ _;refine (show Ay _ _ _ _ _ _ from UG rfl (⟨D,Y _ _ ha,hS.tp Y⟩:SD H4 a L) R (λn0=>⟨0,rfl,∅,∅,?_⟩) (λn0=>⟨(w:Int),rfl,⋯,⋯,?_⟩))
 ·refine ForR.by (λi Z c=>i=0/\Z=[some (.ref a),some (.int (p:Int)),some (.ref m),some (.ref o),some (.ref A),none,none,none,none,none]/\c=H4) ⟨rfl,rfl,rfl⟩ (λi Z c d=>absurd d (BS i)) ?_;rintro Z c ⟨_,rfl,rfl⟩;obtain ⟨u,re⟩:=aj;refine al _ _ _ _ _ _ _ _ _ _ _ ⟨I0.s,cn,I0.hl,I0.ho,O,R0,A4,ab,u,?_⟩;subst n0;exact re.none
 ·refine ForR.by (λi Z c=>∃ m o M v f x5 P S T U,Z=[some (.ref a),some (.int (p:Int)),some (.ref m),some (.ref o),some (.ref A),x5,P,S,T,U]/\RSm H c L n w p i m o A M v f) ⟨m,o,g,_,_,none,none,none,none,none,rfl,I0⟩ ?_ ?_
  ·rintro i Z c d ⟨m,o,M,v,f,x5,P,S,T,U,rfl,I⟩;have iw:i<w:=by omega
   refine CD ?_;rw [show ((0:Int)+(i:Int))=(i:Int) by omega];exact I.step iw n1 w1 pp bp λH2 m o M v f P S T U J=>⟨m,o,M,v,f,_,P,S,T,U,rfl,J⟩
  ·rintro Z c ⟨m,o,M,v,f,x5,P,S,T,U,rfl,I⟩;exact al _ _ _ _ _ _ _ _ _ _ _ I
def uV (h:Id K vs H Q E):yG K (eC Q) (L2.start ["sides"] vs) H:=by
 obtain ⟨a,L,n,w,rfl,c,R,z,k⟩:=h;refine BY (UG rfl c R (λd=>?_) (λ_=>k));have:=z d;subst this;exact k
def uW (h:Ie K vs H Q E):yH K (eC Q) (L2.start ["row","places"] vs) H:=by
 obtain ⟨a,b,d,ps,rfl,o,m,hp,u,k⟩:=h;refine BY (Dg (AF rfl ⟨b,rfl,⟨_,SqL.of m⟩,CompJ.lst (xs:=iN ps) (λi g f=>i<=ps.length/\f=H/\g=((ps.map (co d)).take i).map V.int) ⟨AY _,rfl,rfl⟩ ?_ ?_ ?_⟩))
 ·rintro i g f ⟨n,rfl,rfl⟩;refine ⟨by rw [Cc];exact n,sz ?_,SqL.of m⟩;rw [AK,BQ];omega
 ·rintro i x g f j ⟨n,rfl,rfl⟩;have c:i<ps.length:=by have:=(BF.mp j).1;rw [Cc] at this;exact this
  rw [Hu c] at j;cases j;have p:nth ps i<d.length:=hp _ (CQ c);refine CD (AX (AF rfl (AF rfl (Cl o (DP (EC p)) ⟨c,rfl,?_⟩))))
  have e:(ps.map (co d))[i]?=some (co d (nth ps i)):=by
   unfold nth;rw [Aa,AT c,AI,AT c];rfl
  rw [Ez V.int e]
 ·rintro g f ⟨_,rfl,rfl⟩ r q;have e:(ps.map (co d)).take (iN ps).length=ps.map (co d):=by rw [Cc,show ps.length=(ps.map (co d)).length by rw [AK],CA]
  rw [e];exact k r q
def Kg {a:de} {i j:Nat} {z:Int} (h:i<a.length):co (a.set i z) j=if j=i then z else co a j:=by
 unfold co;rw [AI,List.getElem?_set];by_cases q:j=i
 ·rw [nH q.symm,nH h,nH q];rfl
 ·rw [nG (λz=>q z.symm),nG q,AI]
def JE {ps:List Nat} (h:ps.Nodup) {i j:Nat} (a:i<ps.length) (b:j<ps.length) (e:nth ps i=nth ps j):i=j:=by
 unfold nth at e;rw [AI,AT a,AI,AT b] at e;exact (List.getElem_inj h).mp e
def UH (w j:Nat):co (List.replicate w (0:Int)) j=0:=by
 unfold co;rw [AI,Dz];split <;> rfl
def uY (h:Hk K vs H Q E):yI K (eC Q) (L2.start ["places","wholes","width","result","place","whole"] vs) H:=by
 obtain ⟨a,b,ps,n,w,rfl,L,p,S,hp,T,w1,k⟩:=h;refine Ag (AX (En (F_ ⟨Cz,λt F=>AF rfl ⟨t,_,_,rfl,rfl,upd_same,⋯,⋯,?_,λr M=>?_⟩⟩)))
 ·rw [Bg,show [V.int 0].length=1 from rfl,Nat.one_mul];exact sz ⋯
 rw [Bg,FR];have N:=AQ F (.lst [.int 0]);have U:=AQ M (.lst (List.replicate w (V.int 0)));have g:=N.trans U;have rn:H r=none:=N.free M;generalize G:upd (upd H t (.lst [.int 0])) r (.lst (List.replicate w (V.int 0)))=W at *;have I:W r=some (.lst ((List.replicate w (0:Int)).map V.int)):=by rw [List.map_replicate,<-G];exact upd_same
 have X:(iN ps).length=(n.map V.int).length:=by rw [Cc,AK,S]
 refine (show Ay (EA K _) _ _ _ _ _ from ⟨_,rfl,_,rfl,a,b,rfl,⟨_,SqL.of (g _ _ L)⟩,⟨_,SqL.of (g _ _ p)⟩,ForJ.zip (xs:=iN ps) (ys:=n.map V.int) X (λi u f=>i<=ps.length/\∃ (c:de) (v A:dc),u=[some (.ref a),some (.ref b),some (.int (w:Int)),some (.ref r),v,A]/\Same H f/\f r=some (.lst (c.map V.int))/\c.length=w/\(∀ t,t<i->co c (nth ps t)=co n t)/\(∀ j,(∀ t,t<i->nth ps t≠j)->co c j=0))
  ⟨AY _,List.replicate w 0,none,none,rfl,g,I,Dj,λt h=>absurd h (BS t),λj _=>UH w j⟩ ?_ ?_ ?_⟩)
 ·rintro i u f _ ⟨_,c,v,A,rfl,s,_⟩;exact ⟨s _ _ L,s _ _ p⟩
 ·rintro i x y q u f J O ⟨_,c,v,A,rfl,s,m,B,C,D⟩ Y;have d:i<ps.length:=by have:=(BF.mp J).1;rw [Cc] at this;exact this
  rw [Hu d] at J;rw [EC ⋯] at O;cases J;cases O;have P:=AQ Y (.tup [V.int (nth ps i:Int),.int (co n i)]);have Z:nth ps i<w:=hp _ (CQ d);refine ⟨q,_,rfl,upd_same,rfl,_,_,rfl,_,_,rfl,rfl,?_⟩;refine ⟨_,rfl,_,rfl,_,rfl,r,_,_,nth ps i,rfl,rfl,P _ _ m,Hr (by rw [AK,B];exact Z),?_⟩;refine ⟨d,c.set (nth ps i) (co n i),_,_,rfl,?_,by rw [List.map_set];exact upd_same,by rw [Dk];exact B,λt F=>?_,λj R=>?_⟩
  ·exact λb o p=>by rw [Au (Ax p rn)];exact P _ _ (s b o p)
  ·rw [Kg ⋯];by_cases e:t=i
   ·rw [e,nH rfl]
   ·rw [nG λz=>e (JE T ⋯ d z)];exact C t ⋯
  ·rw [Kg ⋯,nG λz=>R i ⋯ z.symm];exact D j λt F=>R t ⋯
 ·rintro u f ⟨_,c,v,A,rfl,s,m,B,C,D⟩;rw [Cc] at C D;exact BY (AF rfl (k r c f s rn m B C D))
def uZ (h:Ig K vs H Q E):yJ K (eC Q) (L2.start ["wholes","bottom"] vs) H:=by
 obtain ⟨a,c,b,rfl,p,B,w,k⟩:=h;refine BY (Cm (Dg (AF rfl ⟨a,rfl,⟨_,SqL.of p⟩,CompJ.lst (xs:=c.map V.int) (λi f g=>i<=c.length/\Same H g/\Nums g f ((c.map λz=>Af z b).take i)) ⟨AY _,Same.refl H,trivial⟩ ?_ ?_ ?_⟩)))
 ·rintro i f g ⟨u,s,j⟩;refine ⟨by rw [AK];exact u,sz ?_,SqL.of (s _ _ p)⟩;rw [j.length,BQ];omega
 ·rintro i x f g n ⟨u,s,j⟩;have d:i<c.length:=by have:=(BF.mp n).1;rw [AK] at this;exact this
  rw [EC d] at n;cases n;refine CD (A9 (AF rfl (AF rfl ⟨_,b,rfl,w,λq o=>?_⟩)));have m:=AQ o (.tup [.int (Af (co c i) b).1,.int (Af (co c i) b).2]);refine ⟨d,s.trans m,?_⟩
  have e:(c.map λz=>Af z b)[i]?=some (Af (co c i) b):=by
   unfold co;rw [Aa,AT d,AI,AT d];rfl
  have y:(c.map λz=>Af z b).take (i+1)=(c.map λz=>Af z b).take i++[Af (co c i) b]:=by rw [DY,e];rfl
  rw [y];exact (j.tp (L' m)).append (Nums.one IN)
 ·rintro f g ⟨_,s,j⟩ r A;have e:(c.map λz=>Af z b).take (c.map V.int).length=c.map λz=>Af z b:=by rw [show (c.map V.int).length=(c.map λz=>Af z b).length by rw [AK,AK],CA]
  rw [e] at j;have m:=AQ A (.lst f);refine ⟨r,f,rfl,upd_same,λq o=>?_⟩;have v:=AQ o (.tup f);exact k q f _ ((s.trans m).trans v) upd_same (j.tp (L' (m.trans v)))
def tD (h:MG K vs H Q E):yL K (eC Q) (L2.start ["rows","place"] vs) H:=by
 obtain ⟨a,L,n,w,j,rfl,⟨d,m,o⟩,R,B,v,k⟩:=h;have y:=o.length;have C:=R.1;refine BY (Dg (AF rfl ⟨a,rfl,⟨_,SqL.of m⟩,CompJ.lst (xs:=d) (λi f c=>i<=d.length/\c=H/\f=((L.map λl=>co l j).take i).map V.int) ⟨AY _,rfl,rfl⟩ ?_ ?_ ?_⟩))
 ·rintro i f c ⟨p,rfl,rfl⟩;refine ⟨p,sz ?_,SqL.of m⟩;rw [AK,BQ];omega
 ·rintro i x f c q ⟨p,rfl,rfl⟩;have g:i<d.length:=(BF.mp q).1;obtain ⟨b,r,rfl,u,z⟩:=o.get q;refine CD (AX (AF rfl (AF rfl (Cl z (DP (EC (by rw [R.2 r (BC u)];exact v))) ⟨g,rfl,?_⟩))));rw [Ez V.int (show (L.map λl=>co l j)[i]?=some (co r j) by rw [Aa,u];rfl)]
 ·rintro f c ⟨_,rfl,rfl⟩ r A;have e:(L.map λl=>co l j).take d.length=L.map λl=>co l j:=by rw [y,show L.length=(L.map λl=>co l j).length by rw [AK],CA]
  rw [e];exact k r A
def UI {b:TA} {capt:List (Option Nat)} {g:TG} {c:TE} {a:L2.St} {H:Hp} {Q:VK} (h:b a H (λvs d=>∃ j:Int,vs=[.int j]/\-(2 ^ 62)<=j/\j<2 ^ 62/\CompJ (ad 0 j.toNat) capt g c a Q d)):A8 (DN b) capt g c a H Q:=h
def tE (h:KM K vs H Q E):yK K (eC Q) (L2.start ["rows"] vs) H:=by
 obtain ⟨a,L,n,w,rfl,A,R,z,B,G,k⟩:=h;obtain ⟨b,c⟩:∃ b:List (de),b=(List.range w).map λj=>L.map λl=>co l j:=⟨_,rfl⟩;have p:b.length=w:=by rw [c,AK,A4]
 refine BY (UI (Df (AF rfl ⟨a,L,n,w,rfl,A,R,z,(w:Int),rfl,⋯,⋯,?_⟩)));rw [Bg];refine CompJ.range (λi g d=>i<=w/\Same H d/\SDs d g (b.take i)) ⟨AY _,Same.refl H,trivial⟩ ?_ ?_ ?_
 ·rintro i g d ⟨f,s,m⟩;refine ⟨f,sz ?_⟩;rw [m.length,BQ];omega
 ·rintro i g d f ⟨_,s,m⟩;rw [show ((0:Int)+(i:Int))=(i:Int) by omega];refine CD (A9 (AF rfl (AF rfl ⟨a,L,n,w,i,rfl,A.tp s,R,B,f,λr o=>?_⟩)));have q:=AQ o (.lst ((L.map λl=>co l i).map V.int));refine ⟨f,s.trans q,?_⟩;have e:b[i]?=some (L.map λl=>co l i):=by rw [c,Aa,CV f];rfl
  have C:b.take (i+1)=b.take i++[L.map λl=>co l i]:=by rw [DY,e];rfl
  rw [C];exact (m.tp q).snoc upd_same
 ·rintro g d ⟨_,s,m⟩ r o;rw [show b.take w=b by rw [<-p,CA]] at m;have q:=AQ o (.lst g);refine k r b _ (s.trans q) ⟨g,upd_same,m.tp q⟩ ⟨p,λl u=>?_⟩ (λi f j x=>?_) λP D l u y F=>?_
  ·rw [c] at u;obtain ⟨j,_,rfl⟩:=Ap.mp u;rw [AK];exact R.1
  ·have v:i<L.length:=by rw [R.1];exact f
   show co (b.getD j []) i=co (L.getD i []) j;rw [c,Gv _ _ x];unfold co;rw [AI,Aa,AT v,AI (l:=L),AT v];rfl
  ·rw [c] at u;obtain ⟨j,x,rfl⟩:=Ap.mp u;obtain ⟨r,o,rfl⟩:=Ap.mp F;exact D r o _ (Co (by rw [R.2 r o];exact C5.mp x))
def tF {K:W.Frag} {c:TA} {capt:List (Option Nat)} {g:TG} {d:TE} {b:L2.St} {H:Hp} {Q:VK} (h:c b H (λvs e=>∃ a,vs=[.ref a]/\(∃ f,SqL K e a f)/\CompJ (GT K a) capt g d b Q e)):A8 (Fz K c) capt g d b H Q:=h
def Pr.dom {p:Nat} (h:Pr p):Dom (Zm (p:Int)):=Zm.dom (by have:=h.two;omega) λa b c=>by
 by_cases q:p∣a.natAbs
 ·exact .inl (Int.dvd_natAbs.mp (EK.mpr q))
 ·refine .inr (Int.dvd_natAbs.mp (EK.mpr ?_));have g:=h.cop q;have d:p∣a.natAbs*b.natAbs:=by rw [<-Bv];exact EK.mp (Int.dvd_natAbs.mpr c)
  exact (Nat.Coprime.symm g).dvd_of_dvd_mul_left d
def UJ {q:Int} (i j:Nat):Zm.of q (dl i j)=dl i j:=by
 unfold dl;by_cases h:i=j
 ·rw [nH h,nH h];rfl
 ·rw [nG h,nG h];rfl
def zm_dvd {q:Int} {k:Nat} {f g:dI} {i j:Nat}:(q∣su k (λt=>f t*g t) - dl i j)↔su k (λt=>Zm.of q (f t)*Zm.of q (g t))=dl i j:=by
 rw [<-Zm.of_eq,Zm.of_su,UJ,AU (f:=λt=>Zm.of q (f t*g t)) (g:=λt=>Zm.of q (f t)*Zm.of q (g t)) k λt _=>Zm.of_mul _ _]
def tG {xs:d8} {m:Nat} (h:m<=xs.length):CO xs (some (m:Int)) none=xs.drop m:=by
 unfold CO HT.sIx;simp only [Bg];rw [nG ⋯,Nat.min_eq_left h];exact List.take_of_length_le (by rw [List.length_drop];omega)
def JF {a b:de} {j:Nat} (h:j<a.length):co (a++b) j=co a j:=by
 unfold co;rw [AI,EF h,AI]
def JG {a b:de} {j:Nat}:co (a++b) (a.length+j)=co b j:=by
 unfold co;rw [AI,EE ⋯,Nat.add_sub_cancel_left,AI]
def tH {a:de} {k j:Nat}:co (a.drop k) j=co a (k+j):=by
 unfold co;rw [AI,List.getElem?_drop,AI]
def UK {c:Type} {a b:List c} {i:Nat} {d:c} (h:i<a.length):(a++b).getD i d=a.getD i d:=by
 rw [AI,EF h,AI]
def UL {c:Type} {a:List c} {b d:c}:(a++[b]).getD a.length d=b:=by
 rw [AI,EE (AV _),Nat.sub_self];rfl
def tI (h:MH K vs H Q E):yM K (eC Q) (L2.start ["rows","prime","many","beside"] vs) H:=by
 obtain ⟨a,M,k,p,W,rfl,hM,R,k1,pp,bp,hW,q⟩:=h;have p2:=pp.two;obtain ⟨ws,ha,hS⟩:=hM;have lw:=hS.length;have wk:ws.length=k:=by rw [lw,R.1]
 refine Ag (FT (AF rfl (FU ha ?_)));rw [wk];show Rx K _ _ _;refine Ag (tF ⟨_,rfl,a,rfl,⟨_,SqL.of ha⟩,CompJ.enumL (xs:=ws) (λi d g=>i<=ws.length/\Same H g/\∃ n:List (de),SDs g d n/\n.length=i/\(∀ r∈n,r.length=k+k)/\∀ t,t<i->∀ j,j<k->en n t j=en M t j/\en n t (k+j)=dl t j) ⟨AY _,Same.refl H,[],trivial,rfl,(λ_ h=>nomatch h),λt h=>absurd h (BS t)⟩ ?_ ?_ ?_⟩)
 ·rintro i d g ⟨A,s,n,S,lB,_⟩;exact ⟨A,sz (by rw [S.length];omega),SqL.of (s _ _ ha)⟩
 ·rintro i x t d g hx ⟨A,s,n,S,lB,rB,eB⟩ ht;have I:i<ws.length:=(BF.mp hx).1;obtain ⟨b,r,rfl,T,hb⟩:=hS.get hx;have eg:M.getD i []=r:=by rw [AI,T];rfl
  have lr:=R.2 r (BC T);have s2:=AQ ht (.tup [.int (i:Int),.ref b]);refine ⟨t,_,rfl,upd_same,rfl,_,_,rfl,_,_,rfl,rfl,?_⟩;generalize U:upd g t (.tup [.int (i:Int),.ref b])=H2 at *;refine AX (AF rfl (HU (En (AF rfl ⟨Cz,λc hc=>En (F_ ⟨Cz,λe he=>AF rfl ?_⟩)⟩))));have s3:=AQ hc (.lst [V.int (i:Int)]);have F:=AQ he (.lst [V.int 1]);refine ⟨c,e,[i],[1],k,rfl,F _ _ upd_same,upd_same,rfl,λz X=>by rw [BL.mp X];omega,(List.pairwise_singleton _ _),⋯,λu rs H5 s5 hu a4 a5 e1 e0=>?_⟩;have J:=((s2.trans s3).trans F).trans s5;refine ⟨b,u,_,_,rfl,rfl,J _ _ (s _ _ hb),a4,sz (by rw [AK,AK];omega),λv P=>?_⟩;have s6:=AQ P (.lst (r.map V.int++rs.map V.int));refine ⟨I,(s.trans J).trans s6,n++[r++rs],(S.tp (J.trans s6)).snoc (by rw [Cp];exact upd_same),by rw [CL,lB];rfl,λz X=>?_,λm hm j C=>?_⟩
  ·rcases CS.mp X with y | y
   ·exact rB z y
   ·rw [BL.mp y,CL,lr,a5]
  ·by_cases y:m<i
   ·unfold en;rw [UK ⋯];exact eB m y j C
   ·have ye:m=n.length:=by omega
    unfold en;rw [ye,UL,lB,eg];refine ⟨JF ⋯,?_⟩;rw [<-lr,JG];unfold dl;by_cases x:i=j
    ·rw [nH x,<-x];exact e1 0 Nat.one_pos
    ·rw [nG x];refine e0 j λt ht=>?_;have:t=0:=by have:t<1:=ht;omega
     rw [this];exact x
 rintro d H1 ⟨_,s1,n,S,lB,rB,eB⟩ be ab;have s2:=AQ ab (.lst d);generalize U:upd H1 be (.lst d)=H2 at *;have Y:H2 be=some (.lst d):=by rw [<-U];exact upd_same
 show Rw K _ _ _;refine BY (Dg (AX (A9 (AF rfl (AF rfl ⟨be,n,k,k+k,p,rfl,⟨d,Y,S.tp s2⟩,⟨⋯,rB⟩,⋯,⋯,pp,bp,λr x y z f os cs H3 s3 L hx _ _ D=>F_ (Jw L (IF _ _ _) ?_)⟩)))));obtain ⟨O,Z,a0⟩:=hx;obtain ⟨o,c,u,l,re,eo,ec,el⟩:=D.ri;have N:=re.inverse pp.dom (M:=λi j=>Zm.of (p:Int) (en M i j)) (W:=W) hW (λr L j C=>by show Zm.of _ (en n r j)=_;rw [(eB r ⋯ j C).1]) (λr L j C=>by show Zm.of _ (en n r (k+j))=_;rw [(eB r ⋯ j C).2,UJ]);obtain ⟨dk,N⟩:=N;have Rr:=D.rc;have ip:=D.ip;have ac:=a0.length;have aj:f.length=k:=Rr.1.trans dk;refine ⟨x,rfl,⟨_,SqL.of Z⟩,CompJ.lst (xs:=O) (λi d g=>i<=O.length/\Same H3 g/\SDs g d ((f.map λr=>r.drop k).take i)) ⟨AY _,Same.refl H3,trivial⟩ ?_ ?_ ?_⟩
 ·rintro i d g ⟨A,s,B⟩;exact ⟨A,sz (by rw [B.length,BQ];omega),SqL.of (s _ _ Z)⟩
 ·rintro i v d g P ⟨A,s,B⟩;have I:i<O.length:=(BF.mp P).1;obtain ⟨b,G,rfl,T,hb⟩:=a0.get P;have lr:=Rr.2 G (BC T);refine CD (show ag sL _ _ _ _ _ _ from AF rfl (AF rfl ⟨_,rfl,b,_,rfl,s _ _ hb,λw hw=>?_⟩));rw [tG (by rw [AK];omega)];have F:=AQ hw (.lst ((G.map V.int).drop k));refine ⟨I,s.trans F,?_⟩;have e:(f.map λr=>r.drop k)[i]?=some (G.drop k):=by rw [Aa,T];rfl
  have et:(f.map λr=>r.drop k).take (i+1)=(f.map λr=>r.drop k).take i++[G.drop k]:=by rw [DY,e];rfl
  rw [et];exact (B.tp F).snoc (by rw [List.map_drop];exact upd_same)
 ·rintro d g ⟨_,s,B⟩ v P;rw [show (f.map λr=>r.drop k).take O.length=f.map λr=>r.drop k by rw [ac,show f.length=(f.map λr=>r.drop k).length by rw [AK],CA]] at B;have F:=AQ P (.lst d)
  have al:∀ i,i<k->∀ j,en (f.map λr=>r.drop k) i j=en f i (k+j):=λi A j=>by
   have a3:i<f.length:=by omega
   unfold en;rw [AI,Aa,AT a3,AI (l:=f),AT a3];exact tH
  have tm:∀ i,i<k->∀ j,j<k->su k (λt=>Zm.of (p:Int) (en (f.map λr=>r.drop k) i t)*Zm.of (p:Int) (en M t j))=dl i j:=λi A j C=>by
   rw [<-N i A j C];exact AU k λt ht=>by rw [al i A t,<-el i ⋯ (k+t) ⋯]
  refine q v _ _ (((s1.trans s2).trans s3).trans (s.trans F)) ⟨d,upd_same,B.tp F⟩ ⟨by rw [AK];exact aj,λr L=>?_⟩ (λr L z X=>?_) ⟨λi A j C=>zm_dvd.mpr (Ph pp.dom tm i A j C),λi A j C=>zm_dvd.mpr (tm i A j C)⟩
  ·obtain ⟨G,h',rfl⟩:=Ap.mp L;rw [List.length_drop,Rr.2 G h'];omega
  ·obtain ⟨G,h',rfl⟩:=Ap.mp L;exact ip G h' z (List.mem_of_mem_drop X)
def Kh {K:W.Frag} {d e:TE} {f:Str} {rest:TS} {D:Ends} {b:L2.St} {H:Hp} (h:e b H λy j=>d b j λx g=>∃ a C i c,x=.ref a/\g a=some (.ins C i c)/\Cls K C/\NoAttr K C f/\c.length<1000/\rest D b (upd g a (.ins C i (CN f y c)))):AH (GO K d e f) rest D b H:=h
def C0 {K:W.Frag} {b:TE} {f:Str} {c:L2.St} {H:Hp} {Q:VK} (h:b c H λx d=>∃ a C g e v,x=.ref a/\d a=some (.ins C g e)/\Cls K C/\NoAttr K C f/\e.lookup f=some v/\Q v d):Cg K b f c H Q:=h
def SD.kx {H H':Hp} {x a:Addr} {C m:Addr} {n:List (Str×V)} {L:List (de)} (h:SD H a L) (o:H x=some (.ins C m n)) (k:Kp x H H'):SD H' a L:=by
 have d:∀ b e,H b=some (.lst e)->b≠x:=λb e c=>GJ c o (by intro z;cases z);obtain ⟨p,f,g⟩:=h;refine ⟨p,k _ _ (d _ _ f) f,SDs.mk g.length λi r j=>?_⟩;have q:i<L.length:=(BF.mp j).1;obtain ⟨b,u,c⟩:=g.at q;rw [AI,j] at c;exact ⟨b,u,k _ _ (d _ _ c) c⟩
def E2 {os:List Nat} {z:Nat} (h:z∈os):∃ i,i<os.length/\nth os i=z:=by
 obtain ⟨i,a,rfl⟩:=Ed.mp h;refine ⟨i,a,?_⟩;unfold nth;rw [AI,AT a];rfl
def E3 {os:List Nat} {i:Nat} (h:i<os.length):os[i]=nth os i:=by
 unfold nth;rw [AI,AT h];rfl
theorem JH (f:Str) (v:V):∀ a:List (Str×V),(CN f v a).length<=a.length+1
 | []=>AV _
 | (g,x)::r=>by
   unfold CN;by_cases h:g=f
   ·rw [nH h];show r.length+1<=r.length+1+1;omega
   ·rw [nG h];exact Nat.succ_le_succ (JH f v r)
def tJ {K:W.Frag} (g:ClsOk K (B8 K)) {vs:d8} {H:Hp} {Q:VK} {E:XK} (h:Gk K vs H Q E):yF K (eC Q) (L2.start ["self","sides","prime","reduced"] vs) H:=by
 obtain ⟨x,a,d,L,n,w,p,rfl,hx,hL,R,n1,w1,pp,bp,k⟩:=h;generalize B8 K=C at *;refine Gf (AF rfl (AF rfl ⟨a,L,n,w,p,rfl,hL,R,⋯,⋯,pp,bp,λr l y z LL os I H1 s1 X hl hy hz D=>?_⟩));have Y:=s1 _ _ hx;have aq:=hL.tp s1;show Rv K _ _ _;refine Kh (AF rfl (AF rfl ⟨x,C,d,_,rfl,Y,g.cl,g.a1,∅,?_⟩));obtain ⟨f1,a3⟩:∃ f1,f1=CN "prime" (.int (p:Int)) []:=⟨_,rfl⟩;rw [<-a3];have bi:f1.length<=1:=by rw [a3];exact JH _ _ _
 have k2:Kp x H1 (upd H1 x (.ins C d f1)):=Kp.upd;have nl:∀ {b xs},H1 b=some (.lst xs)->b≠x:=λhb=>GJ hb Y (by intro z;cases z);have nt:∀ {b xs},H1 b=some (.tup xs)->b≠x:=λhb=>GJ hb Y (by intro z;cases z);generalize ar:upd H1 x (.ins C d f1)=H2 at *;have b0:H2 x=some (.ins C d f1):=by rw [<-ar];exact upd_same
 show Ru K _ _ _;refine Kh (AX (AF rfl (F_ (Jw (k2 _ _ (nt X) X) (LA _ _ _) (AF rfl ⟨x,C,d,_,rfl,b0,g.cl,g.a2,⋯,?_⟩)))));obtain ⟨f2,Z⟩:∃ f2,f2=CN "lines" (.ref y) f1:=⟨_,rfl⟩;rw [<-Z];have bj:f2.length<=2:=by have:=JH "lines" (.ref y) f1;rw [Z];omega
 have k3:Kp x H2 (upd H2 x (.ins C d f2)):=Kp.upd;generalize b1:upd H2 x (.ins C d f2)=H3 at *;have b2:H3 x=some (.ins C d f2):=by rw [<-b1];exact upd_same
 have ab:=k2.trans k3;show Rs K _ _ _;refine Kh (AX (AF rfl (F_ (Jw (ab _ _ (nt X) X) (GR _ _ _) (AF rfl ⟨x,C,d,_,rfl,b2,g.cl,g.a3,⋯,?_⟩)))));obtain ⟨U,J⟩:∃ U,U=CN "columns" (.ref z) f2:=⟨_,rfl⟩;rw [<-J];have bk:U.length<=3:=by have:=JH "columns" (.ref z) f2;rw [J];omega
 have k4:Kp x H3 (upd H3 x (.ins C d U)):=Kp.upd;generalize b3:upd H3 x (.ins C d U)=H4 at *;have a4:H4 x=some (.ins C d U):=by rw [<-b3];exact upd_same
 have a0:=ab.trans k4;have ac:=a0 _ _ (nl hy) hy;have b4:=a0 _ _ (nl hz) hz;have b5:=aq.kx Y a0;have N:U.lookup ("lines" : Str)=some (.ref y):=by rw [J,DO,nG ∅,Z,DO,nH rfl]
 have O:U.lookup ("columns" : Str)=some (.ref z):=by rw [J,DO,nH rfl]
 obtain ⟨o,c,u,l',re,eo,ec,el⟩:=D.ri;have lc:=D.lc;have dn:=re.dn;have on:∀ i,i<os.length->nth os i<n:=λi f=>by rw [eo i f];exact re.on i ⋯
 have cw:∀ i,i<os.length->nth I i<w:=λi f=>by rw [ec i f];exact re.cl i f
 obtain ⟨M,hM⟩:∃ M:List (de),M=os.map λt=>I.map (co (L.getD t [])):=⟨_,rfl⟩;have lM:M.length=os.length:=by rw [hM,AK]
 show Rq K _ _ _;refine Kh (Dg (C0 (AF rfl ⟨x,C,d,_,_,rfl,a4,g.cl,g.a2,N,y,rfl,⟨_,SqL.of ac⟩,CompJ.lst (xs:=iN os) (λi ys H'=>i<=os.length/\Same H4 H'/\SDs H' ys (M.take i)) ⟨AY _,Same.refl H4,trivial⟩ ?_ ?_ ?_⟩)))
 ·rintro i ys H' ⟨f,s,hS⟩;exact ⟨by rw [Cc];exact f,sz (by rw [hS.length,BQ];omega),SqL.of (s _ _ ac)⟩
 ·rintro i v ys H' hv ⟨f,s,hS⟩;have B:i<os.length:=by have:=(BF.mp hv).1;rw [Cc] at this;exact this
  rw [Hu B] at hv;cases hv;obtain ⟨ws,b6,b7⟩:=b5;obtain ⟨b,eb,hb⟩:=b7.at (i:=nth os i) (by rw [R.1];exact on i B);have lr:=(R.row (on i B)).2;refine CD (A9 (AX (AF rfl (AF rfl (Cl (s _ _ b6) (DP eb) (C0 (AF rfl ⟨x,C,d,_,_,rfl,s _ _ a4,g.cl,g.a3,O,⟨b,z,_,I,rfl,s _ _ hb,s _ _ b4,λj A=>?_,⋯,λq hq=>?_⟩⟩)))))))
  ·obtain ⟨t,ht,rfl⟩:=E2 A;rw [lr];exact cw t ⋯
  ·have s2:=AQ hq (.lst ((I.map (co (L.getD (nth os i) []))).map V.int));refine ⟨B,s.trans s2,?_⟩;have e:M[i]?=some (I.map (co (L.getD (nth os i) []))):=by rw [hM,Aa,AT B,E3 B];rfl
   have et:M.take (i+1)=M.take i++[I.map (co (L.getD (nth os i) []))]:=by rw [DY,e];rfl
   rw [et];exact (hS.tp s2).snoc upd_same
 rintro ys H5 ⟨_,s5,aj⟩ m hm;rw [show M.take (iN os).length=M by rw [Cc,<-lM,CA]] at aj;have s6:=AQ hm (.lst ys);generalize b9:upd H5 m (.lst ys)=H6 at *;have ba:H6 m=some (.lst ys):=by rw [<-b9];exact upd_same
 have al:=s5.trans s6;have a5:=al _ _ a4;have am:SD H6 m M:=⟨ys,ba,aj.tp s6⟩;refine AF rfl ⟨x,C,d,_,rfl,a5,g.cl,g.a4,⋯,?_⟩;obtain ⟨f4,F⟩:∃ f4,f4=CN "minor" (.ref m) U:=⟨_,rfl⟩;rw [<-F];have bl:f4.length<=4:=by have:=JH "minor" (.ref m) U;rw [F];omega
 have k7:Kp x H6 (upd H6 x (.ins C d f4)):=Kp.upd;generalize bb:upd H6 x (.ins C d f4)=H7 at *;have an:H7 x=some (.ins C d f4):=by rw [<-bb];exact upd_same
 have P:f4.lookup ("minor" : Str)=some (.ref m):=by rw [F,DO,nH rfl]
 have bc:=am.kx a5 k7
 have RM:Rect M os.length os.length:=⟨lM,λr X=>by
  rw [hM] at X;obtain ⟨t,_,rfl⟩:=Ap.mp X;rw [AK];exact lc⟩
 have eM:∀ i,i<os.length->∀ s,s<os.length->en M i s=en L (nth os i) (nth I s):=λi f s hs=>by
  have e:M.getD i []=I.map (co (L.getD (nth os i) [])):=by rw [hM,AI,Aa,AT f,E3 f];rfl
  have ao:s<I.length:=by omega
  unfold en;rw [e];show (I.map (co (L.getD (nth os i) []))).getD s 0=_;rw [AI,Aa,AT ao,E3 ao];rfl
 show Rp K _ _ _;refine (show AR _ _ _ _ _ _ _ from A9 (C0 (AF rfl ⟨x,C,d,_,_,rfl,an,g.cl,g.a4,P,AF rfl ⟨m,M,os.length,p,u,rfl,bc,RM,⋯,pp,bp,λi f j A=>?_,λt T H8 s8 hT RT iT bd=>?_⟩⟩)))
 ·rw [<-re.minor (AV _) i f j A];exact AU _ λt ht=>by rw [eM t ht j A,eo t ht,ec j A]
 have ap:=s8 _ _ an;refine AF rfl ⟨x,C,d,_,rfl,ap,g.cl,g.a5,⋯,?_⟩;obtain ⟨f5,G⟩:∃ f5,f5=CN "turned" (.ref t) f4:=⟨_,rfl⟩;rw [<-G];have k9:Kp x H8 (upd H8 x (.ins C d f5)):=Kp.upd;generalize be:upd H8 x (.ins C d f5)=H9 at *;have bf:H9 x=some (.ins C d f5):=by rw [<-be];exact upd_same
 have S:Kp x H1 H9:=((a0.same al).trans k7 |>.same s8).trans k9;have bg:Kp x H6 H9:=(k7.same s8).trans k9;refine k os I M T y z m t H9 (λb o nb hb=>S b o nb (s1 _ _ hb)) ⟨⟨d,f5,bf,⟨?_,?_,?_,?_,?_⟩⟩,S _ _ (nl hy) hy,S _ _ (nl hz) hz,am.kx a5 bg,hT.kx ap k9,⟨lc,RM,RT,iT,bd,λi f=>?_,?_,λj A=>?_,?_,eM,λr X=>?_⟩⟩
 ·rw [G,DO,nG ∅,F,DO,nG ∅,J,DO,nG ∅,Z,DO,nG ∅,a3,DO,nH rfl]
 ·rw [G,DO,nG ∅,F,DO,nG ∅,N]
 ·rw [G,DO,nG ∅,F,DO,nG ∅,O]
 ·rw [G,DO,nG ∅,P]
 ·rw [G,DO,nH rfl]
 ·obtain ⟨t,ht,rfl⟩:=E2 f;exact on t ht
 ·refine List.pairwise_iff_getElem.mpr λi j f A ij e=>?_;rw [E3 f,E3 A,eo i f,eo j A] at e;have:=re.inj i j ⋯ ⋯ e;omega
 ·obtain ⟨t,ht,rfl⟩:=E2 A;exact cw t ⋯
 ·refine List.pairwise_iff_getElem.mpr λi j f A ij=>?_;rw [E3 f,E3 A,ec i ⋯,ec j ⋯];exact re.cr i j ij ⋯
 ·obtain ⟨v,hv⟩:=re.span X;refine ⟨λt=>Classical.choose (Zm.sur (v t)),λj A=>?_⟩;rw [<-Zm.of_eq,Zm.of_su];refine (hv j A).trans (AU _ λt ht=>?_);rw [Zm.of_mul,Classical.choose_spec (Zm.sur (v t)),eo t ht]
def tK (i:Int):i.natAbs<2 ^ blN i:=by
 unfold blN;split
 ·rename_i h;rw [h];decide
 ·exact Nat.lt_log2_self
def UM {i:Int} (h:i≠0):2 ^ (blN i - 1)<=i.natAbs/\1<=blN i:=by
 unfold blN;rw [nG h,Nat.add_sub_cancel];exact ⟨Nat.log2_self_le ⋯,⋯⟩
def tL {b:Nat} {i:Int} (h:Bd b i):blN i<=b:=by
 by_cases z:i=0
 ·unfold blN;rw [nH z];exact AY _
 ·have c:=(UM z).1;have d:i.natAbs<2 ^ b:=h;have:=(Nat.pow_lt_pow_iff_right (a:=2) ∅).mp (EG c d);omega
def tN {K:W.Frag} {c:TE} {g:TG} {d rest:TS} {D:Ends} {b:L2.St} {H:Hp} (h:c b H (λx e=>∃ a,x=.ref a/\(∃ f,SqL K e a f)/\ForL K a g d { D with nx:=rest D } b e)):AH (Ay (BU K c) g d) rest D b H:=h
def tO (h:MI K vs H Q E):yS K (eC Q) (L2.start ["whole","modulus","limit","one","other","one_weight","other_weight","quotient","rest","size"] vs) H:=by
 obtain ⟨w,m,b,rfl,q,r,D,u,v,k⟩:=h;refine Ag (AF rfl ?_);show So K _ _ _;refine Ag (AF rfl ?_);show Sm K _ _ _;refine Ag (F_ ?_);show Sl K _ _ _;refine Ag (F_ ?_);show Sk K _ _ _;refine Ff (DJ (λn g e=>∃ (one a s t:Int) (i j o:dc),g=[some (.int w),some (.int m),some (.int b),some (.int one),some (.int a),some (.int s),some (.int t),i,j,o]/\e=H/\n=a.toNat/\b<one/\Eu m w one a s t) w.toNat ⟨m,w,0,1,none,none,none,rfl,rfl,rfl,u,Eu.start q r⟩ ?_);rintro n g e ⟨one,a,s,t,i,j,o,rfl,rfl,rfl,lo,I⟩;have x:=I.s0;have y:=I.t1;have f:=I.o0;have F:=I.lt;have A:=I.det;have G:one*1<=one*t:=DZ y ⋯;have J:1*t<=one*t:=Dn ⋯ ⋯;have L:0<=a*s:=EZ f x;refine ⟨_,rfl,_,rfl,_,_,rfl,rfl,_,rfl,Ah (λc=>?_) (λc=>?_)⟩
 ·have c:b<a:=nJ c;refine ⟨_,λ_ _ h=>h,?_⟩;have d:=I.next ⋯;have C:0<=one / a:=Int.ediv_nonneg ⋯ f;have M:one / a<=one:=Int.ediv_le_self a ⋯;have B:∀ z:Int,0<=z->z<=m->Bd 500000 z:=λz N O=>v.le ⋯;have p:Bd 500000 (one / a):=B _ C ⋯;show Si K _ _ _;refine Ag ⟨_,rfl,_,rfl,_,_,rfl,rfl,show (0:Int)<a by omega,?_⟩;show Sg K _ _ _;refine Ag ⟨_,rfl,_,rfl,_,rfl,_,_,rfl,rfl,Bf p (B a f ⋯),_,_,rfl,rfl,?_⟩;show Sf K _ _ _;refine Ag (AF rfl ?_);show Se K _ _ _;refine Ag (AF rfl ?_);show Sd K _ _ _;refine Ag ⟨_,rfl,_,rfl,_,rfl,_,_,rfl,rfl,Bf p (B t ⋯ ⋯),_,_,rfl,rfl,?_⟩;show Sc K _ _ _;refine Ag (AF rfl ?_);show Sb K _ _ _;refine PH (AF rfl ⟨(one - one / a*a).toNat,?_,a,one - one / a*a,t,s+one / a*t,_,_,_,rfl,rfl,rfl,c,d⟩);have:=d.lt;have:=d.o0;omega
 ·have c:¬ b<a:=λz=>c (nI z);show Sj K _ _ _;exact BY (AF rfl (k one a s t I ⋯ lo))
def tP {m:Int} (m2:2<=m):∃ e:Nat,(((blN m:Int) - 2) / 2)=(e:Int)/\(2:Int) ^ e*2 ^ e*2<=m/\m<(2:Int) ^ e*2 ^ e*8/\1<=(2:Int) ^ e/\(e:Int)<=blN m:=by
 have a:=tK m;obtain ⟨c,h⟩:=UM (show m≠0 by omega)
 have i:2<=blN m:=Nat.le_of_not_lt λz=>by
  have:blN m=1:=by omega
  rw [this] at a;omega
 obtain ⟨e,d⟩:∃ e:Nat,blN m=2*e+2\/blN m=2*e+3:=⟨(blN m - 2) / 2,⋯⟩;have j:1<=2 ^ e:=D1 ∅;have f:(2:Nat) ^ (2*e)=2 ^ e*2 ^ e:=by rw [Nat.two_mul,DX]
 have b:((2:Int) ^ e)=((2 ^ e:Nat):Int):=by push_cast;rfl
 have g:((2 ^ e:Nat):Int)*((2 ^ e:Nat):Int)=((2 ^ e*2 ^ e:Nat):Int):=by push_cast;rfl
 refine ⟨e,⋯,?_,?_,by rw [b];omega,⋯⟩
 ·rw [b,g,<-f];rcases d with q | q
  ·rw [q,show 2*e+2 - 1=2*e+1 by omega,Bk] at c;omega
  ·rw [q,show 2*e+3 - 1=2*e+1+1 by omega,Bk,Bk] at c;omega
 ·rw [b,g,<-f];rcases d with q | q
  ·rw [q,show 2*e+2=2*e+1+1 by omega,Bk,Bk] at a;omega
  ·rw [q,show 2*e+3=2*e+1+1+1 by omega,Bk,Bk,Bk] at a;omega
def Fits.lim {m X D l:Int} {ps:de} {x:dI} (F:Fits m X ps x D) (h:m<l*l*8) (a:0<=l):4*X<=l:=by
 have b:=F.d0;have c:=F.dX;have d:=F.m0;refine Int.le_of_not_gt λz=>?_;have e:l*l<=l*(4*X):=DZ ⋯ a;have f:l*(4*X)<=4*X*(4*X):=Dn ⋯ ⋯;have g:4*X*(4*X)=16*(X*X):=by ext
 have i:256*X*X=256*(X*X):=C7 _ _ _;have j:0<=X*X:=EZ ⋯ ⋯;omega
def UN {m y z:Int} (h:m∣y - z) (b:(y.natAbs:Int)+(z.natAbs:Int)<m):y=z:=by
 have:=Int.eq_zero_of_dvd_of_natAbs_lt_natAbs h ⋯;omega
def Gs (m:Int) (ps:de) (B:Int) (i:Nat):Prop:=∀ X x D,Fits m X ps x D->∃ c,0<c/\D=B*c/\∀ j,j<i->∃ y,y*c=x j/\m∣y - co ps j*B
def tQ (h:MJ K vs H Q E):yR K (eC Q) (L2.start ["places","modulus","limit","bottom","place"] vs) H:=by
 obtain ⟨a,ps,m,rfl,S,p1,bp,m2,bm,kN,k⟩:=h;obtain ⟨e,ee,l1,T,l3,el⟩:=tP m2;have bl:=tL bm;refine Ag ⟨_,rfl,rfl,m,rfl,rfl,_,_,rfl,rfl,_,_,rfl,rfl,show (0:Int)<2 by decide,_,_,rfl,rfl,?_,?_⟩
 ·show (0:Int)<=((blN m:Int) - 2) / 2/\(blN 1:Int)+((blN m:Int) - 2) / 2<=134217728;rw [ee,show (blN 1:Int)=1 by decide];omega
 show Sa K _ (List.set _ 2 (some (.int (1*2 ^ (((blN m:Int) - 2) / 2).toNat)))) _;rw [ee,Bg,Int.one_mul];generalize (2:Int) ^ e=f at *;have lm:f*1<=f*f:=DZ l3 ⋯;have B5:∀ z:Int,0<=z->z<=m->Bd 250000 z:=λz z0 zm=>bm.le ⋯;refine Ag (F_ ?_);show SZ K _ _ _;refine tN ⟨_,rfl,a,rfl,⟨_,SqL.of S⟩,ForL.by (xs:=ps.map V.int) (λi U A=>∃ (B:Int) (o:dc),U=[some (.ref a),some (.int m),some (.int f),some (.int B),o]/\A=H/\i<=ps.length/\0<B/\B<=f/\Gs m ps B i) ⟨1,none,rfl,rfl,AY _,∅,l3,λX x D F=>⟨D,F.d0,⋯,λj h=>absurd h (BS j)⟩⟩ ?_ ?_ ?_⟩
 ·rintro i U A _ ⟨B,o,rfl,rfl,_⟩;exact SqL.of S
 ·rintro i v U A n ⟨B,o,rfl,rfl,_,W,Bl,I⟩;have p:i<ps.length:=by have:=(BF.mp n).1;rw [AK] at this;exact this
  rw [EC p] at n;cases n;have bz:Bd 500000 (co ps i):=bp _ (Co p);have O:Bd 250000 B:=B5 B ⋯ ⋯;refine CD (Gw (Dh (AX (Cm (A9 ⟨_,rfl,_,rfl,_,_,rfl,rfl,Bf bz O,_,rfl,_,_,rfl,⋯,λN Y hN=>⟨N,rfl,_,rfl,_,_,rfl,rfl,_,rfl,Ah (λc=>?_) (λc=>?_)⟩⟩)))))
  ·have c:f<(if N<0 then -N else N):=nJ c;show SX K _ _ _;refine (show C9 _ _ _ _ _ _ from ⟨_,rfl,HU ⟨_,rfl,_,rfl,_,_,rfl,rfl,Bf bz O,_,rfl,_,_,rfl,rfl,show (0:Int)<m by omega,_,rfl,_,rfl,co ps i*B % m,m,f,rfl,B9 _ ⋯,CM _ ⋯,⋯,⋯,bm.mono ∅,λone a0 s t Eu ol lo=>?_⟩⟩);have t1:=Eu.t1
   have tm:t<=m:=by
    have h2:1*t<=one*t:=Dn ⋯ ⋯;have h3:0<=a0*s:=EZ Eu.o0 Eu.s0;have:=Eu.det;omega
   refine ⟨_,_,rfl,rfl,Bf O (B5 t ⋯ tm),?_⟩
   have C:Gs m ps (B*t) (i+1):=λX x D F=>by
    obtain ⟨c,G,J,P⟩:=I X x D F;have o:=F.lim T ⋯
    have cX:c<=X:=by
     have Z:1*c<=B*c:=Dn ⋯ ⋯;have:=F.dX;omega
    have hd:m∣c*(co ps i*B % m) - x i:=by
     obtain ⟨u,hu⟩:=F.dv i p;obtain ⟨v,n⟩:=GC (co ps i*B) m;exact ⟨c*v+u,()⟩
    obtain ⟨c',y,a3,e1,e2,e3⟩:=Eu.pair ⋯ hd G (Eu.fits ol lo ⋯ o (F.xX i) cX G);refine ⟨c',a3,by rw [J,e1,C7],λj R=>?_⟩;by_cases q:j=i
    ·rw [q];refine ⟨y,e2,?_⟩;obtain ⟨u,hu⟩:=e3;obtain ⟨v,n⟩:=GC (co ps i*B) m;exact ⟨u+t*v,()⟩
    ·obtain ⟨z,L,⟨u,hu⟩⟩:=P j ⋯;exact ⟨z*t,by rw [<-L,e1,C7],⟨u*t,()⟩⟩
   show SW K _ _ _;refine Gw (Dh ⟨_,rfl,_,rfl,_,_,rfl,rfl,_,rfl,Ah (λd=>?_) (λd=>?_)⟩)
   ·have d:f<B*t:=nJ d;refine kN _ (Same.refl A) λX x D F=>?_;obtain ⟨c,G,J,_⟩:=C X x D F;have o:=F.lim T ⋯;have Z:B*t*1<=B*t*c:=DZ ⋯ ⋯;have:=F.dX;have:=F.d0;omega
   ·have d:¬ f<B*t:=λz=>d (nI z);exact ⟨B*t,_,rfl,rfl,⋯,DG W ⋯,⋯,C⟩
  ·have c:¬ f<(if N<0 then -N else N):=λz=>c (nI z);have nl:(N.natAbs:Int)<=f:=by split at c <;> omega
   refine ⟨B,_,rfl,rfl,⋯,W,Bl,λX x D F=>?_⟩;obtain ⟨c,G,J,P⟩:=I X x D F;refine ⟨c,G,J,λj R=>?_⟩;by_cases q:j=i
   ·rw [q];refine ⟨N,?_,Y⟩;have o:=F.lim T ⋯
    have cX:c<=X:=by
     have Z:1*c<=B*c:=Dn ⋯ ⋯;have:=F.dX;omega
    have xX:=F.xX i;refine UN (m:=m) ?_ ?_
    ·obtain ⟨u,hu⟩:=F.dv i p;obtain ⟨v,n⟩:=Y;exact ⟨v*c+u,()⟩
    ·have e1:((N*c).natAbs:Int)=(N.natAbs:Int)*c:=by rw [Bv];push_cast;rw [show ((c.natAbs:Nat):Int)=c by omega]
     have Z:(N.natAbs:Int)*c<=f*X:=Int.le_trans (Dn nl ⋯) (DZ cX ⋯);have h2:f*(4*X)<=f*f:=DZ o ⋯;have e2:f*(4*X)=4*(f*X):=by ext
     omega
   ·exact P j ⋯
 ·rintro U A ⟨B,o,rfl,rfl,_,W,Bl,I⟩;rw [AK] at I;have O:Bd 250000 B:=B5 B ⋯ ⋯;show SY K _ _ _;refine BY (DT (Dg (AF rfl ⟨a,rfl,⟨_,SqL.of S⟩,CompJ.lst (xs:=ps.map V.int) (λi ys w=>i<=ps.length/\w=A/\∃ g:de,ys=g.map V.int/\g.length=i/\(∀ z∈g,2*z.natAbs<=m.natAbs)/\∀ j,j<i->m∣co g j - co ps j*B) ⟨AY _,rfl,[],rfl,rfl,(λ_ h=>nomatch h),λj h=>absurd h (BS j)⟩ ?_ ?_ ?_⟩)))
  ·rintro i ys w ⟨p,rfl,g,rfl,M,_⟩;exact ⟨by rw [AK];exact p,sz (by rw [AK];omega),SqL.of S⟩
  ·rintro i v ys w n ⟨_,rfl,g,rfl,M,L,z2⟩;have p:i<ps.length:=by have:=(BF.mp n).1;rw [AK] at this;exact this
   rw [EC p] at n;cases n;refine CD (A9 ⟨_,rfl,_,rfl,_,_,rfl,rfl,Bf (bp _ (Co p)) O,_,rfl,_,_,rfl,⋯,λN Y hN=>⟨p,rfl,g++[N],by rw [Cp];rfl,by rw [CL,M];rfl,λz hz=>?_,λj R=>?_⟩⟩)
   ·rcases CS.mp hz with q | q
    ·exact L z q
    ·rw [BL.mp q];exact hN
   ·by_cases q:j<i
    ·rw [JF ⋯];exact z2 j q
    ·have e:j=g.length+0:=by omega
     rw [e,JG,Nat.add_zero,M];exact Y
  ·rintro ys w ⟨_,rfl,g,rfl,M,L,z2⟩ b hb;rw [AK] at M z2;have s1:=AQ hb (.lst (g.map V.int));refine AF rfl ⟨Cn,λr hr=>?_⟩;have s2:=AQ hr (.tup [.ref b,.int B]);refine k r b g B _ (s1.trans s2) upd_same (s2 _ _ upd_same) M W ⋯ (λz hz=>by have:=L z hz;omega) λX x D F j R=>?_;obtain ⟨c,G,J,P⟩:=I X x D F;obtain ⟨y,y1,y2⟩:=P j R;have o:=F.lim T ⋯
   have e:co g j=y:=by
    refine UN (m:=m) ?_ ?_
    ·obtain ⟨u,hu⟩:=z2 j R;obtain ⟨v,n⟩:=y2;exact ⟨u - v,()⟩
    ·have Z:=L (co g j) (Co ⋯)
     have h2:(y.natAbs:Int)<=X:=by
      have:=F.xX j;have e:(y*c).natAbs=y.natAbs*c.natAbs:=Bv y c;have h3:y.natAbs*1<=y.natAbs*c.natAbs:=EJ _ ⋯;rw [<-y1] at this;omega
     omega
   rw [e,J,<-y1];ext
def tR (h:MK K vs H Q E):yQ K (eC Q) (L2.start ["minor","guess","due","row","whole"] vs) H:=by
 obtain ⟨m,g,y,b,M,o,e,B,n,rfl,⟨A,J,L⟩,R,N,W,O,X,lb,n1,Y,C,Z,bB,k⟩:=h;have lw:=L.length;have wn:A.length=n:=by rw [lw,R.1]
 refine (show Ay (EA K _) _ _ _ _ _ from ⟨_,rfl,_,rfl,m,b,rfl,⟨_,SqL.of J⟩,⟨_,SqL.of O⟩,ForJ.zip (xs:=A) (ys:=e.map V.int) (by rw [AK];omega) (λi u d=>∃ w x,u=[some (.ref m),some (.ref g),some (.ref b),w,x]/\Same H d/\∀ t,t<i->su n (λj=>en M t j*co o j)=co e t*B) ⟨none,none,rfl,Same.refl H,λt h=>absurd h (BS t)⟩ ?_ ?_ ?_⟩)
 ·rintro i u d _ ⟨w,x,rfl,s,_⟩;exact ⟨s _ _ J,s _ _ O⟩
 ·rintro i v z p u d P S ⟨w,x,rfl,s,I⟩ hp;have hi:i<A.length:=(BF.mp P).1;obtain ⟨r,f,rfl,T,hr⟩:=L.get P;rw [EC ⋯] at S;cases S;have U:M.getD i []=f:=by rw [AI,T];rfl
  have rm:=BC T;have s2:=AQ hp (.tup [.ref r,.int (co e i)]);generalize D:upd d p (.tup [.ref r,.int (co e i)])=H2 at *;have F:H2 p=some (.tup [.ref r,.int (co e i)]):=by rw [<-D];exact upd_same
  have a:=s.trans s2;refine ⟨p,_,rfl,F,rfl,_,_,rfl,_,_,rfl,rfl,?_⟩;refine Gw (Dh (AX (A9 (AF rfl (Bu rfl (a _ _ N) (El _ _) ⟨r,y,f,o,n,rfl,a _ _ hr,a _ _ W,R.2 f rm,X,⋯,Y f rm,C,λH3 G=>?_⟩)))));refine AX (AF rfl (Bu rfl (G _ _ (a _ _ N)) (Dd _ _) ⟨_,_,rfl,rfl,Bf (Z _ (Co ⋯)) bB,rfl,_,rfl,Ah (λc=>?_) (λc=>?_)⟩))
  ·have c:su n (λi=>co f i*co o i)≠co e i*B:=by simpa using c
   refine k H3 false (a.trans G) ⟨(λz=>by cases z),λz=>absurd ?_ c⟩;have:=z i ⋯;unfold en at this;rw [U] at this;exact this
  ·have c:su n (λi=>co f i*co o i)=co e i*B:=by simpa using c
   refine ⟨_,_,rfl,a.trans G,λt ht=>?_⟩;by_cases q:t=i
   ·unfold en;rw [q,U];exact c
   ·exact I t ⋯
 ·rintro u d ⟨w,x,rfl,s,I⟩;exact k d true s ⟨λ_ i hi=>I i ⋯,λ_=>rfl⟩
structure ST (p k:Nat) (M:List (de)) (bs ls qs:de) (e:Nat):Prop where
 ll:ls.length=k
 lq:qs.length=k
 eq:∀ i,i<k->co bs i=su k (λj=>en M i j*co qs j)+(p:Int) ^ e*co ls i
 bl:∀ z∈ls,Bd 4020 z
 bq:∀ z∈qs,0<=z/\z<(p:Int) ^ e
def ST.dvd {p k e:Nat} {M T:List (de)} {ls c a:de} (I:Inv2 (p:Int) k (en M) (en T)) (f:∀ t,t<k->co c t=co ls t % (p:Int)) (h:∀ j,j<k->co a j=su k (λt=>en T j t*co c t) % (p:Int)) {i:Nat} (d:i<k):(p:Int)∣co ls i - su k λj=>en M i j*co a j:=by
 rw [<-Zm.of_eq,Zm.of_su]
 have m:∀ j,j<k->Zm.of (p:Int) (en M i j*co a j)=su k λt=>Zm.of (p:Int) (en M i j)*Zm.of (p:Int) (en T j t)*Zm.of (p:Int) (co ls t):=λj n=>by
  rw [Zm.of_mul,h j n,Zm.of_mod,Zm.of_su,<-BO];exact AU k λt b=>by rw [f t b,Zm.of_mul,Zm.of_mod,Lean.Grind.Semiring.mul_assoc]
 rw [AU k m,Dv,AU (g:=λt=>dl i t*Zm.of (p:Int) (co ls t)) k λt b=>by rw [Cb,zm_dvd.mp (I.mt i d t b)],F9 (λt=>Zm.of (p:Int) (co ls t)) d]
def tS {p k:Nat} {x s y:Int} (g:2<=p) (b:k<=10) (c:Bd 4020 x) (d:s.natAbs<=k*(2 ^ 4000*p)) (h:x - s=(p:Int)*y):Bd 4020 y:=by
 unfold Bd at *;have e:(2:Nat) ^ 4020=2 ^ 4000*1048576:=by rw [show 4020=4000+20 from rfl,DX]
 have f:k*(2 ^ 4000*p)=2 ^ 4000*(k*p):=Nat.mul_left_comm ..;rw [f] at d;rw [e] at c ⊢;have i:0<(2:Nat) ^ 4000:=D1 ∅;generalize (2:Nat) ^ 4000=Y at *
 have j:p*y.natAbs<=x.natAbs+s.natAbs:=by
  have:(x - s).natAbs=p*y.natAbs:=by rw [h,Bv,Cr]
  omega
 refine Nat.lt_of_not_le λz=>?_;have m:p*(Y*1048576)<=p*y.natAbs:=EJ _ z;have n:Y*(k*p)<=Y*(10*p):=EJ _ (CW _ b);have o:p*(Y*1048576)=Y*(1048576*p):=by rw [Nat.mul_left_comm,DE p]
 have a:Y*(1048576*p)<Y*1048576+Y*(10*p):=by omega
 rw [<-Nat.mul_add] at a;have:=Nat.lt_of_mul_lt_mul_left a;omega
def tT {K:W.Frag} {H H0:Hp} {m t b lf pl:Addr} {M T:List (de)} {bs ls F:de} {k p e:Nat} {st:Int} {x8 x9 R a3:dc} {D:Ends}
  (hm:SD H0 m M) (ht:SD H0 t T) (s0:Same H0 H) (hl:H lf=some (.lst (ls.map V.int))) (hq:H pl=some (.lst (F.map V.int))) (RM:Rect M k k) (RT:Rect T k k) (k1:k<=10) (p2:2<=p) (bp:Bd 44500 (p:Int)) (iT:aP (p:Int) T) (I:Inv2 (p:Int) k (en M) (en T)) (bM:aQ 4000 M) (S:ST p k M bs ls F e) (be:Bd 250000 ((p:Int) ^ (e+1)))
  (nx:∀ (lf pl:Addr) (ls F:de) (H':Hp) x9 R,Same H0 H'->H' lf=some (.lst (ls.map V.int))->H' pl=some (.lst (F.map V.int))->ST p k M bs ls F (e+1)->D.nx [some (.ref m),some (.ref t),some (.ref b),some (.int (p:Int)),some (.ref lf),some (.ref pl),some (.int ((p:Int) ^ (e+1))),some (.int st),x8,x9,R,a3] H') :
  SM K D [some (.ref m),some (.ref t),some (.ref b),some (.int (p:Int)),some (.ref lf),some (.ref pl),some (.int ((p:Int) ^ e)),some (.int st),x8,x9,R,a3] H:=by
 have p0:(0:Int)<(p:Int):=by omega
 have bk:(0:Int)<(p:Int) ^ e:=Int.pow_pos p0;have G:(p:Int) ^ (e+1)=(p:Int) ^ e*(p:Int):=Int.pow_succ _ _
 have bE:Bd 250000 ((p:Int) ^ e):=be.le (by
  have:(p:Int) ^ e*1<=(p:Int) ^ e*(p:Int):=DZ ⋯ ⋯;rw [G];omega)
 have bP:∀ z:Int,0<=z/\z<(p:Int)->Bd 44500 z:=λz d=>bp.le ⋯;obtain ⟨ws,a4,a5⟩:=hm;obtain ⟨vs,ab,ac⟩:=ht;have bl:=a5.length;have ap:=ac.length;have bm:=RM.1;have aq:=RT.1;have ll:=S.ll;have lq:=S.lq;refine Ag (Dg (AF rfl ⟨lf,rfl,⟨_,SqL.of hl⟩,Iy (·% (p:Int)) hl ⋯ (λn hn P hP=>⟨_,rfl,_,rfl,_,_,rfl,rfl,p0,hP⟩) λsh ar=>?_⟩));obtain ⟨w,J⟩:∃ w,w=ls.map (·% (p:Int)):=⟨_,rfl⟩;rw [<-J];have b0:w.length=k:=by rw [J,AK];exact ll
 have b3:∀ t,t<k->co w t=co ls t % (p:Int):=λt ht=>by rw [J];exact Kf _ ⋯
 have b4:∀ z∈w,0<=z/\z<(p:Int):=λz d=>by
  rw [J] at d;obtain ⟨y,_,rfl⟩:=Ap.mp d;exact ⟨B9 _ ⋯,CM _ p0⟩
 have s1:=AQ ar (.lst (w.map V.int));generalize b5:upd H sh (.lst (w.map V.int))=H1 at *;have aj:H1 sh=some (.lst (w.map V.int)):=by rw [<-b5];exact upd_same
 have L:=s0.trans s1;show SL K _ _ _;refine Ag (Dg (AF rfl ⟨t,rfl,⟨_,SqL.of (L _ _ ab)⟩,CompJ.lst (xs:=vs) (λi ys H'=>i<=vs.length/\Same H1 H'/\∃ a:de,ys=a.map V.int/\a.length=i/\(∀ z∈a,0<=z/\z<(p:Int))/\∀ j,j<i->co a j=su k (λt=>en T j t*co w t) % (p:Int)) ⟨AY _,Same.refl H1,[],rfl,rfl,(λ_ h=>nomatch h),λj h=>absurd h (BS j)⟩ ?_ ?_ ?_⟩))
 ·rintro i ys H' ⟨f,s,a,rfl,g,_⟩;exact ⟨f,sz (by rw [AK];omega),SqL.of (s _ _ (L _ _ ab))⟩
 ·rintro i v ys H' hv ⟨_,s,a,rfl,g,f1,f2⟩;have f:i<vs.length:=(BF.mp hv).1;obtain ⟨r,u,rfl,er,hr⟩:=ac.get hv;have eg:T.getD i []=u:=by rw [AI,er];rfl
  have rm:=BC er;refine CD (AX (A9 (AF rfl (AF rfl ⟨r,sh,u,w,k,rfl,s _ _ (L _ _ hr),s _ _ aj,RT.2 u rm,b0,⋯,λz d=>(bP z (iT u rm z d)).mono ∅,λz d=>(bP z (b4 z d)).mono ∅,λH2 s2=>?_⟩))));refine AF rfl ⟨_,_,rfl,rfl,p0,f,s.trans s2,a++[su k (λi=>co u i*co w i) % (p:Int)],by rw [Cp];rfl,by rw [CL,g];rfl,λz d=>?_,λj hj=>?_⟩
  ·rcases CS.mp d with q | q
   ·exact f1 z q
   ·rw [BL.mp q];exact ⟨B9 _ ⋯,CM _ p0⟩
  ·by_cases q:j<i
   ·rw [JF ⋯];exact f2 j q
   ·have ej:j=a.length+0:=by omega
    rw [ej,JG,Nat.add_zero,g];unfold en;rw [eg];rfl
 rintro ys H2 ⟨_,s2,a,rfl,g,f1,f2⟩ fo b6;rw [ap,aq] at g f2;have s3:=AQ b6 (.lst (a.map V.int));generalize b7:upd H2 fo (.lst (a.map V.int))=H3 at *;have C:H3 fo=some (.lst (a.map V.int)):=by rw [<-b7];exact upd_same
 have N:=s2.trans s3;have b9:=L.trans N;show SK K _ _ _;refine Ag (Ho ⟨_,rfl,_,rfl,pl,fo,rfl,⟨_,SqL.of (N _ _ (s1 _ _ hq))⟩,⟨_,SqL.of C⟩,Mp (λx y=>x+(p:Int) ^ e*y) (N _ _ (s1 _ _ hq)) C ⋯ ⋯ (λx y hx U H' P s q=>⟨_,rfl,_,rfl,_,rfl,_,_,rfl,rfl,Bf bE (bP y (f1 y U)),_,_,rfl,rfl,q⟩) λX H4 s4 ba=>?_⟩);obtain ⟨c,Y⟩:∃ c,c=List.zipWith (λx y=>x+(p:Int) ^ e*y) F a:=⟨_,rfl⟩;rw [<-Y];have bb:c.length=k:=by rw [Y,List.length_zipWith];omega
 have al:∀ j,j<k->co c j=co F j+(p:Int) ^ e*co a j:=λj hj=>by rw [Y];exact Mq ⋯ ⋯
 have s5:=AQ ba (.lst (c.map V.int));generalize bc:upd H4 X (.lst (c.map V.int))=H5 at *;have am:H5 X=some (.lst (c.map V.int)):=by rw [<-bc];exact upd_same
 have Z:=s4.trans s5;have O:=b9.trans Z;have an:H5 lf=some (.lst (ls.map V.int)):=Z _ _ (N _ _ (s1 _ _ hl));show SJ K _ _ _;have dv:∀ i,i<k->(p:Int)∣co ls i - su k λj=>en M i j*co a j:=λi f=>ST.dvd (e:=e) I b3 f2 f;refine Ag (Ho ⟨_,rfl,_,rfl,lf,m,rfl,⟨_,SqL.of an⟩,⟨_,SqL.of (O _ _ a4)⟩,CompJ.zip (xs:=ls.map V.int) (ys:=ws) (by rw [AK];omega) (λi zs H'=>i<=ls.length/\Same H5 H'/\∃ o:de,zs=o.map V.int/\o.length=i/\(∀ z∈o,Bd 4020 z)/\∀ j,j<i->co ls j - su k (λt=>en M j t*co a t)=(p:Int)*co o j) ⟨AY _,Same.refl H5,[],rfl,rfl,(λ_ h=>nomatch h),λj h=>absurd h (BS j)⟩ ?_ ?_ ?_⟩)
 ·rintro i zs H' ⟨f,s,o,rfl,lg,_⟩;exact ⟨by rw [AK];exact f,sz (by rw [AK];omega),SqL.of (s _ _ an),SqL.of (s _ _ (O _ _ a4))⟩
 ·rintro i v y zs H' q hv U ⟨_,s,o,rfl,lg,g1,g2⟩ bd;have f:i<ls.length:=by have:=(BF.mp hv).1;rw [AK] at this;exact this
  rw [EC f] at hv;cases hv;obtain ⟨r,u,rfl,er,hr⟩:=a5.get U;have eg:M.getD i []=u:=by rw [AI,er];rfl
  have rm:=BC er;have s6:=AQ bd (.tup [.int (co ls i),.ref r]);refine ⟨q,_,rfl,upd_same,rfl,_,_,rfl,_,_,rfl,rfl,?_⟩;generalize bq:upd H' q (.tup [.int (co ls i),.ref r])=H6 at *;have a0:=s.trans s6;refine AX (AX (AF rfl (A9 (AF rfl (AF rfl ⟨r,fo,u,a,k,rfl,a0 _ _ (O _ _ hr),a0 _ _ (Z _ _ C),RM.2 u rm,g,⋯,λz d=>(bM u rm z d).mono ∅,λz d=>(bP z (f1 z d)).mono ∅,λH7 s7=>⟨_,_,rfl,rfl,AF rfl ⟨_,_,rfl,rfl,p0,?_⟩⟩⟩)))));have ee:su k (λi=>co u i*co a i)=su k (λt=>en M i t*co a t):=by unfold en;rw [eg]
  obtain ⟨y,U⟩:=dv i ⋯;have ey:(co ls i - su k (λi=>co u i*co a i)) / (p:Int)=y:=by rw [ee,U];exact Ft _ ⋯
  show i+1<=_/\_/\_;refine ⟨f,a0.trans s7,o++[y],by rw [Cp,<-ey];rfl,by rw [CL,lg];rfl,λz d=>?_,λj hj=>?_⟩
  ·rcases CS.mp d with q | q
   ·exact g1 z q
   ·rw [BL.mp q];refine tS p2 k1 (S.bl _ (Co f)) (L7 (A:=2 ^ 4000) (B:=p) k (λt ht=>?_) λt ht=>?_) U
    ·obtain ⟨r',bf,bg⟩:=RM.en_mem (i:=i) (j:=t) ⋯ ht;exact Dx (bM r' bf _ bg)
    ·have:=f1 (co a t) (Co ⋯);omega
  ·by_cases q:j<i
   ·rw [JF ⋯];exact g2 j q
   ·have ej:j=o.length+0:=by omega
    rw [ej,JG,Nat.add_zero,lg];exact U
 rintro zs H6 ⟨_,s6,o,rfl,lg,g1,g2⟩ l2 bi;rw [AK] at lg g2;have s7:=AQ bi (.lst (o.map V.int));generalize bj:upd H6 l2 (.lst (o.map V.int))=H7 at *;have ao:H7 l2=some (.lst (o.map V.int)):=by rw [<-bj];exact upd_same
 show SI K _ _ _;refine ⟨_,rfl,_,rfl,_,_,rfl,rfl,Bf bE bp,?_⟩;show D.nx (List.set _ 6 (some (.int ((p:Int) ^ e*(p:Int))))) _;rw [<-G];refine nx l2 X o c H7 _ _ (O.trans (s6.trans s7)) ao ((s6.trans s7) _ _ am) ⟨⋯,bb,λi f=>?_,g1,λz d=>?_⟩
 ·have e1:=S.eq i f;have e2:=g2 i ⋯
  have e3:su k (λj=>en M i j*co c j)=su k (λj=>en M i j*co F j)+(p:Int) ^ e*su k (λt=>en M i t*co a t):=by
   rw [<-BO,<-Fo];exact AU k λj hj=>by rw [al j hj];ext
  rw [e1,e3,G];ext
 ·obtain ⟨j,hj,rfl⟩:=Ed.mp d;have ej:c[j]=co c j:=by unfold co;rw [AI,AT hj];rfl
  rw [ej,al j ⋯,G];have b1:=S.bq (co F j) (Co ⋯);have b2:=f1 (co a j) (Co ⋯);have h1:0<=(p:Int) ^ e*co a j:=EZ ⋯ b2.1;have h2:(p:Int) ^ e*(co a j+1)<=(p:Int) ^ e*(p:Int):=DZ ⋯ ⋯;rw [Int.mul_add,Int.mul_one] at h2;omega
def UO {k:Nat} (b:k<=10):(2*((k+1)*2 ^ 4000)) ^ k<=2 ^ 40050:=by
 have a:2*((k+1)*2 ^ 4000)<=2 ^ 4005:=by
  have e:(2:Nat) ^ 4005=32*2 ^ 4000:=by rw [show 4005=5+4000 from rfl,DX]
  rw [e];generalize (2:Nat) ^ 4000=Y;have:(k+1)*Y<=11*Y:=CW _ ⋯;omega
 refine CF (Nat.pow_le_pow_left a k) ?_;rw [<-Nat.pow_mul];exact Kd ⋯
def ST.fits {p k e:Nat} {M T:List (de)} {a ls d:de} (o:2<=p) (q:k<=10) (I:Inv2 (p:Int) k (en M) (en T)) (u:Rect M k k) (v:aQ 4000 M) (O:a.length=k) (w:∀ z∈a,Bd 4000 z) (S:ST p k M a ls d e) (f:(2:Int) ^ 80110<(p:Int) ^ e) :
  ∃ X x D,Fits ((p:Int) ^ e) X d x D/\∀ i,i<k->su k (λj=>en M i j*x j)=co a i*D:=by
 obtain ⟨x,D,y,B,C,h⟩:=I.small (A:=2 ^ 4000) (b:=co a) o (λi c j m=>by
  obtain ⟨r,F,G⟩:=u.en_mem c m;exact Dx (v r F _ G)) (λi c=>Dx (w _ (Co ⋯))) (D1 ∅) rfl
 have n:=UO q;generalize (2*((k+1)*2 ^ 4000)) ^ k=X at *;refine ⟨(X:Int),x,D,⟨y,B,λj=>by have:=C j;omega,λj m=>?_,?_⟩,h⟩
 ·refine I.zero e (x:=λj=>D*co d j - x j) (λi c=>?_) j (by have:=S.lq;omega);rw [AU (g:=λj=>D*(en M i j*co d j) - en M i j*x j) k λj _=>by ext,Fq,BO,h i c,S.eq i c];exact ⟨-(co ls i*D),()⟩
 ·refine Int.lt_of_le_of_lt ?_ f;have J:(2:Nat) ^ 80110=1024*(2 ^ 40050*2 ^ 40050):=by rw [show 80110=10+(40050+40050) from rfl,DX,DX]
  have L:(2:Int) ^ 80110=((2 ^ 80110:Nat):Int):=by rw [Int.natCast_pow];rfl
  have P:X*X<=2 ^ 40050*2 ^ 40050:=Dl n n;rw [L,J];generalize (2:Nat) ^ 40050=Y at *;have N:256*(X:Int)*(X:Int)=((256*(X*X):Nat):Int):=by push_cast;rw [C7]
  rw [N];omega
def UP {p e Z:Nat} (b:2<=p) (h:p ^ e<=2 ^ Z):e<=Z:=by
 have c:2 ^ e<=p ^ e:=Nat.pow_le_pow_left b e;exact (Nat.pow_le_pow_iff_right (a:=2) ∅).mp (CF c h)
def UQ {p st i:Nat} (f:2<=p) (a:Bd 44500 (p:Int)) (h:p ^ (st - 1)<=2 ^ 80110) (g:1<=st) (j:i<=st):Bd 250000 ((p:Int) ^ (st - 1+i)):=by
 have a:p<2 ^ 44500:=by unfold Bd at a;rw [Cr] at a;exact a
 have e:((p:Int) ^ (st - 1+i)).natAbs=p ^ (st - 1+i):=by rw [Int.natAbs_pow,Cr]
 unfold Bd;rw [e];have b:p ^ (st - 1+i)<=p ^ ((st - 1)+(st - 1)+1):=E5 ⋯ ⋯;refine EG b ?_;rw [Bk,DX];have c:p ^ (st - 1)*p ^ (st - 1)<=2 ^ 80110*2 ^ 80110:=Dl h h;have d:p ^ (st - 1)*p ^ (st - 1)*p<=2 ^ 80110*2 ^ 80110*2 ^ 44500:=Dl c (Dx a);refine EG d ?_;rw [<-DX,<-DX];exact Nat.pow_lt_pow_right ∅ ∅
def tU (h:Ih K vs H Q E):yP K (eC Q) (L2.start ["minor","turned","due","prime","left","places","scale","steps","step","short","found","guess"] vs) H:=by
 obtain ⟨m,t,b,M,T,R,k,p,rfl,hm,ht,hb,RM,RT,lb,k1,W,bp,iT,I,bM,bb,kk⟩:=h;refine Ag (AF rfl ?_);show SV K _ _ _;refine Ag (AX (En (F_ ⟨Cz,λc hc=>FT (AF rfl (FU (AQ hc _ _ _ hb) ⟨c,_,_,rfl,rfl,upd_same,?_,?_,?_,λpl ab=>?_⟩))⟩)))
 ·rw [AK];omega
 ·rw [AK];omega
 ·rw [AK,lb,Bg,show [V.int 0].length=1 from rfl,Nat.one_mul];exact sz ⋯
 rw [AK,lb,Bg,FR];have s1:=AQ hc (.lst [V.int 0]);have s2:=AQ ab (.lst (List.replicate k (V.int 0)));have a0:=s1.trans s2;generalize ac:upd (upd H c (.lst [V.int 0])) pl (.lst (List.replicate k (V.int 0)))=H2 at *;have a3:H2 pl=some (.lst ((List.replicate k (0:Int)).map V.int)):=by rw [List.map_replicate,<-ac];exact upd_same
 show SU K _ _ _;refine Ag (F_ ?_);show SS K _ _ _;refine Ag (F_ ?_);show SR K _ _ _
 have S0:ST p k M R R (List.replicate k 0) 0:=⟨lb,Dj,λi hi=>by
  rw [CK (n:=k) (f:=λj=>en M i j*co (List.replicate k 0) j) λj _=>by rw [UH,Ec]];rw [Int.pow_zero];omega,λz A=>(bb z A).mono ∅,λz A=>by
  rw [(List.mem_replicate.mp A).2,Int.pow_zero];decide⟩
 refine DJ (λn Y P=>∃ (w pl:Addr) (C v:de) (a:Nat) (L G o u:dc),Y=[some (.ref m),some (.ref t),some (.ref b),some (.int (p:Int)),some (.ref w),some (.ref pl),some (.int ((p:Int) ^ (a - 1))),some (.int (a:Int)),L,G,o,u]/\Same H P/\P w=some (.lst (C.map V.int))/\P pl=some (.lst (v.map V.int))/\ST p k M R C v (a - 1)/\1<=a/\p ^ (a - 1)<=2 ^ 80110/\n=80200 - a) 80199 ⟨b,pl,R,List.replicate k 0,1,none,none,none,none,rfl,a0,a0 _ _ hb,a3,S0,AV _,by rw [Nat.sub_self,Nat.pow_zero];exact D1 ∅,rfl⟩ ?_;rintro n Y P ⟨w,pl,C,v,a,L,G,o,u,rfl,s,hl,Z,S,a4,U,rfl⟩;have ap:a - 1<=80110:=UP W U;refine ⟨true,rfl,Ah (λ_=>?_) (λz=>absurd rfl z)⟩;refine ⟨_,λ_ _ h=>h,?_⟩;show SQ K _ _ _;refine (show Ay _ _ _ _ _ _ from ⟨_,rfl,(a:Int),rfl,⋯,⋯,?_⟩);rw [Bg];refine ForR.by (λi Y J=>∃ (w pl:Addr) (C v:de) (L G o:dc),Y=[some (.ref m),some (.ref t),some (.ref b),some (.int (p:Int)),some (.ref w),some (.ref pl),some (.int ((p:Int) ^ (a - 1+i))),some (.int (a:Int)),L,G,o,u]/\Same H J/\J w=some (.lst (C.map V.int))/\J pl=some (.lst (v.map V.int))/\ST p k M R C v (a - 1+i)) ⟨w,pl,C,v,L,G,o,rfl,s,hl,Z,S⟩ ?_ ?_
 ·rintro i Y J hi ⟨w,pl,C,v,L,G,o,rfl,s,hl,Z,S⟩;refine CD ?_;exact tT hm ht s hl Z RM RT k1 W bp iT I bM S (UQ W bp U a4 (i:=i+1) hi) λw pl C v H3 G o N aj al S3=>⟨w,pl,C,v,_,G,o,rfl,N,aj,al,S3⟩
 rintro Y J ⟨w,pl,C,v,L,G,o,rfl,s,hl,Z,S⟩;have be:=UQ W bp U a4 (AV a);obtain ⟨e,he⟩:∃ e,e=a - 1+a:=⟨_,rfl⟩;rw [<-he] at be S ⊢;have lq:=S.lq
 have am:(2:Int)<=(p:Int) ^ e:=by
  have h1:p ^ 1<=p ^ e:=E5 ⋯ ⋯;rw [Nat.pow_one] at h1;have:(p:Int) ^ e=((p ^ e:Nat):Int):=by rw [Int.natCast_pow]
  rw [this];omega
 have bq:∀ z∈v,Bd 250000 z:=λz A=>be.le (by have:=S.bq z A;omega)
 have q:(∀ X x D,Fits ((p:Int) ^ e) X v x D->(∀ i,i<k->su k (λj=>en M i j*x j)=co R i*D)->False)->p ^ e<=2 ^ 80110:=λno=>by
  refine Nat.le_of_not_lt λz=>?_;have e1:(p:Int) ^ e=((p ^ e:Nat):Int):=by rw [Int.natCast_pow]
  have e2:(2:Int) ^ 80110=((2 ^ 80110:Nat):Int):=by rw [Int.natCast_pow];rfl
  obtain ⟨X,x,D,F,hs⟩:=S.fits W k1 I RM bM lb bb (by rw [e1,e2];exact Int.ofNat_lt.mpr z);exact no X x D F hs
 have O:∀ (u:dc) (H3:Hp),Same J H3->p ^ e<=2 ^ 80110->SN K { nx:=λan P=>∃ m',m'<80200 - a/\∃ (w pl:Addr) (C v:de) (a:Nat) (L G o u:dc),an=[some (.ref m),some (.ref t),some (.ref b),some (.int (p:Int)),some (.ref w),some (.ref pl),some (.int ((p:Int) ^ (a - 1))),some (.int (a:Int)),L,G,o,u]/\Same H P/\P w=some (.lst (C.map V.int))/\P pl=some (.lst (v.map V.int))/\ST p k M R C v (a - 1)/\1<=a/\p ^ (a - 1)<=2 ^ 80110/\m'=80200 - a,rt:=Q } [some (.ref m),some (.ref t),some (.ref b),some (.int (p:Int)),some (.ref w),some (.ref pl),some (.int ((p:Int) ^ e)),some (.int (a:Int)),L,G,o,u] H3:=λu H3 N q=>by
  refine ⟨_,rfl,_,_,rfl,rfl,KT ∅ ∅,?_⟩;have ez:=UP W q;refine ⟨80200 - (2*a),⋯,w,pl,C,v,2*a,L,G,o,u,?_,s.trans N,N _ _ hl,N _ _ Z,?_,⋯,?_,rfl⟩
  ·show [some (.ref m),some (.ref t),some (.ref b),some (.int (p:Int)),some (.ref w),some (.ref pl),some (.int ((p:Int) ^ e)),some (.int ((a:Int)*2)),L,G,o,u]=_;rw [show 2*a - 1=e by omega,show (a:Int)*2=((2*a:Nat):Int) by omega]
  ·rw [show 2*a - 1=e by omega];exact S
  ·rw [show 2*a - 1=e by omega];exact q
 show SO K _ _ _;refine Gf (AF rfl (AF rfl ⟨pl,v,_,rfl,Z,⋯,λz A=>(bq z A).mono ∅,am,be,λH3 N no=>?_,λg y ys B H3 N hg hy ly B0 Bm ym ao=>?_⟩))
 ·show MU K _ _ _;refine Fn (show FC _ _ _ _ _ from ⟨_,rfl,rfl,_,rfl,Ah (λz=>by cases z) (λ_=>Ah (λz=>by cases z) (λ_=>?_))⟩);exact O _ _ N (q λX x D F _=>no X x D F)
 ·have bB:Bd 250000 B:=be.le ⋯;have a5:∀ z∈ys,Bd 250000 z:=λz A=>be.le (ym z A);show MU K _ _ _;refine Fn (show FC _ _ _ _ _ from ⟨_,rfl,rfl,_,rfl,Ah (λ_=>?_) (λz=>absurd rfl z)⟩);refine (show AR _ _ _ _ _ _ _ from HU (AF rfl (AF rfl (AF rfl ⟨m,g,y,b,M,ys,R,B,k,rfl,hm.tp (s.trans N),RM,hg,hy,(s.trans N) _ _ hb,⋯,lb,⋯,λr hr z A=>(bM r hr z A).mono ∅,λz A=>(a5 z A).mono ∅,λz A=>(bb z A).mono ∅,bB.mono ∅,λH4 c s4 hc=>⟨c,rfl,Ah (λd=>?_) (λd=>?_)⟩⟩))))
  ·exact BY (AF rfl (kk g y ys B H4 ((s.trans N).trans s4) (s4 _ _ hg) (s4 _ _ hy) ⋯ B0 bB a5 (hc.mp d)))
  ·refine O _ _ (N.trans s4) (q λX x D F hs=>d (hc.mpr λi hi=>?_));have f:=ao X x D F;have d0:=F.d0
   have e1:su k (λj=>en M i j*co ys j)*D=co R i*B*D:=by
    rw [<-Cb,AU (g:=λj=>B*(en M i j*x j)) k λj hj=>by
     have:=f j ⋯;rw [C7,this];ext,BO,hs i hi]
    ext
   exact Int.eq_of_mul_eq_mul_right ⋯ e1
def Cor.tp {C:Addr} {H H':Hp} {x:Addr} {L:List (de)} {n w p:Nat} {os cs:List Nat} {M T:List (de)} {y z m t:Addr} (c:Cor C H x L n w p os cs M T y z m t) (s:Same H H'):Cor C H' x L n w p os cs M T y z m t:=
 ⟨let ⟨a,b,h,f⟩:=c.at';⟨a,b,s _ _ h,f⟩,s _ _ c.hy,s _ _ c.hz,c.hm.tp s,c.ht.tp s,c.c⟩
theorem S_ {w:Nat}:∀ (cs:List Nat) (lo:Nat),cs.Pairwise (·<·)->(∀ j∈cs,lo<=j/\j<w)->cs=[]\/cs.length+lo<=w
 | [],_,_,_=>.inl rfl
 | c::cs,lo,hp,a=>by
   obtain ⟨d,e⟩:=List.pairwise_cons.mp hp;have f:=a c (DK ..);refine .inr ?_;rcases S_ cs (c+1) e (λj b=>⟨d j b,(a j (DW _ b)).2⟩) with q | q
   ·rw [q];show 1+lo<=w;omega
   ·show cs.length+1+lo<=w;omega
def Mr {cs:List Nat} {w:Nat} (h:cs.Pairwise (·<·)) (a:∀ j∈cs,j<w):cs.length<=w:=by
 rcases S_ cs 0 h (λj b=>⟨AY _,a j b⟩) with q | q
 ·rw [q];exact AY _
 ·exact q
def Ms {R:Type} [Lean.Grind.CommRing R] {w d q:Nat} {c:Nat->Nat} {f:Nat->R} (g:Nat->R) (r:∀ s,s<d->c s<w) (i:∀ s t,s<d->t<d->c s=c t->s=t) (u:q<w) (v:∀ s,s<d->c s≠q) (k:∀ j,j<w->(∀ s,s<d->c s≠j)->j≠q->f j=0) :
  su w (λj=>g j*f j)=su d (λs=>g (c s)*f (c s))+g q*f q:=by
 have m:∀ j,j<w->f j=su d (λs=>f (c s)*dl (c s) j)+f q*dl q j:=λj n=>by
  by_cases a:∃ s,s<d/\c s=j
  ·obtain ⟨h,o,rfl⟩:=a
   rw [AU (g:=λs=>(λs=>f (c s)) s*dl s h) d λs b=>by
    unfold dl;by_cases e:c s=c h
    ·rw [nH e,nH (i s h b o e)]
    ·rw [nG e,nG λz=>e (by rw [z])],Ex (λs=>f (c s)),nH o]
   unfold dl;rw [nG λz=>v h o z.symm];ext
  ·have a:∀ s,s<d->c s≠j:=λs b z=>a ⟨s,b,z⟩
   rw [CK λs b=>by
    unfold dl;rw [nG (a s b)];grind]
   by_cases p:j=q
   ·rw [p];unfold dl;rw [nH rfl];ext
   ·rw [k j n a p];unfold dl;rw [nG λz=>p z.symm];ext
 rw [AU (g:=λj=>su d (λs=>f (c s)*dl (c s) j)*g j+f q*(dl q j*g j)) w λj n=>by rw [m j n];ext,Fo,J4 r (λs=>f (c s)) g,BO,F9 g u];rw [AU (f:=λt=>f (c t)*g (c t)) (g:=λs=>g (c s)*f (c s)) d λs _=>by grind];ext
theorem FRs.tp {H H':Hp} {L:List (de)} {n w:Nat} {cs:List Nat} (t:Tp H H'):∀ {xs:d8} {F:List (Nat×de×Int)},FRs H L n w cs xs F->FRs H' L n w cs xs F
 | [],[],_=>trivial
 | _::_,_::_,h=>⟨let ⟨u,a,e,b,c,f⟩:=h.1;⟨u,a,e,t _ _ b,c.tp t,f⟩,FRs.tp t h.2⟩
 | [],_::_,h=>h.elim
 | _::_,[],h=>h.elim
theorem FRs.length {H:Hp} {L:List (de)} {n w:Nat} {cs:List Nat}:∀ {xs:d8} {F:List (Nat×de×Int)},FRs H L n w cs xs F->xs.length=F.length
 | [],[],_=>rfl
 | _::_,_::_,h=>congrArg (·+1) (FRs.length h.2)
 | [],_::_,h=>h.elim
 | _::_,[],h=>h.elim
theorem FRs.snoc {H:Hp} {L:List (de)} {n w:Nat} {cs:List Nat} {u:Addr} {a:d8} {q:Nat×de×Int} (b:H u=some (.tup a)) (c:Nums H a (q.2.1.map λz=>Af z q.2.2)) (f:Fre L n w cs q.1 q.2.1 q.2.2):∀ {xs:d8} {F:List (Nat×de×Int)},FRs H L n w cs xs F->FRs H L n w cs (xs++[.ref u]) (F++[q])
 | [],[],_=>⟨⟨u,a,rfl,b,c,f⟩,trivial⟩
 | _::_,_::_,h=>⟨h.1,FRs.snoc b c f h.2⟩
 | [],_::_,h=>h.elim
 | _::_,[],h=>h.elim
def UR (i:Nat) (cs:List Nat):W_ (i+1) cs=W_ i cs++(if i∈cs then [] else [i]):=by
 unfold W_;rw [FZ,List.filter_append];by_cases h:i∈cs
 ·rw [nH h];simp [h]
 ·rw [nG h];simp [h]
def tV (w:Nat) (cs:List Nat):(W_ w cs).length<=w:=by
 unfold W_;have:=List.length_filter_le (λj=>decide (j∉cs)) (List.range w);rw [A4] at this;exact this
theorem US {H:Hp}:∀ a:List Nat,RepA H (iN a) (a.map λj:Nat=>W.Dat.int (j:Int))
 | []=>.nil
 | _::a=>.cons (.int _) (US a)
def Mt {a:TE} {b:L2.St} {H:Hp} {Q:VK} (h:a b H λx c=>∃ i:Int,x=.int i/\Q (.int (-i)) c):R_ CH a b H Q:=h
def tW {K:W.Frag} (U:ClsOk K (B8 K)) {vs:d8} {H:Hp} {Q:VK} {E:XK} (h:Ii K vs H Q E):yN K (eC Q) (L2.start ["sides","core","width","frees","column","due","solution","row"] vs) H:=by
 obtain ⟨a,x,y,z,m,t,L,M,T,n,w,p,os,G,rfl,hL,R,nw,n1,w1,bL,p2,bp,C,kN,k⟩:=h;generalize B8 K=A at *;have c:=C.c;have lc:=c.lc;have ol:=c.ol;have cl:=c.cl;have dw:os.length<=10:=by have:=Mr c.cu c.cl;omega
 have aq:G.Nodup:=c.cu.imp λh=>BZ h
 have bM:aQ 4000 M:=λr hr z X=>by
  obtain ⟨i,hi,rfl⟩:=Ed.mp hr;obtain ⟨j,D,rfl⟩:=Ed.mp X;have ar:i<os.length:=by have:=c.rM.1;omega
  have b7:j<os.length:=by have:=c.rM.2 _ hr;omega
  have e:M[i][j]=en M i j:=by
   unfold en co;rw [AI (l:=M),AT hi];show M[i][j]=(M[i]).getD j 0;rw [AI,AT D];rfl
  rw [e,c.eM i ar j b7];obtain ⟨r,hr,hm⟩:=R.en_mem (ol _ (CQ ar)) (cl _ (CQ (by omega:j<G.length)));exact bL r hr _ hm
 refine Ll (AF rfl ⟨a,L,n,w,rfl,hL,R,nw,?_⟩);show SC K _ _ _;refine Ag (show BG AD _ _ _ from ⟨AY _,λfr b0=>?_⟩);have s0:=AQ b0 (.lst []);show R9 K _ _ _;refine (show Ay _ _ _ _ _ _ from ⟨_,rfl,(w:Int),rfl,⋯,⋯,?_⟩);rw [Bg];refine ForR.by (λi σ J=>i<=w/\∃ (Z:d8) (F:List (Nat×de×Int)) (x4 x5 x6 x7:dc),σ=[some (.ref a),some (.ref x),some (.int (w:Int)),some (.ref fr),x4,x5,x6,x7]/\Same H J/\J fr=some (.lst Z)/\FRs J L n w G Z F/\F.map (λq=>q.1)=W_ i G) ⟨AY _,[],[],none,none,none,none,rfl,s0,upd_same,trivial,rfl⟩ ?_ ?_
 ·rintro i σ H1 hi ⟨_,Z,F,x4,x5,x6,x7,rfl,s1,I,hF,eF⟩;refine CD ?_;rw [show ((0:Int)+(i:Int))=(i:Int) by omega];have C1:=C.tp s1;obtain ⟨dx,fs,aj,fo⟩:=C1.at';refine Gw (Dh (AX (AF rfl (C0 (AF rfl ⟨x,A,dx,fs,_,rfl,aj,U.cl,U.a3,fo.f3,z,_,.int (i:Int),G.map (λj:Nat=>.int (j:Int)),decide (i∈G),rfl,C1.hz,.int _,US G,rfl,λe he=>?_,?_,_,rfl,Ah (λq=>?_) (λq=>?_)⟩)))))
  ·obtain ⟨j,_,rfl⟩:=Ap.mp he;rfl
  ·constructor
   ·intro h;exact Ap.mpr ⟨i,nJ h,rfl⟩
   ·intro h;obtain ⟨j,D,e⟩:=Ap.mp h;have:(j:Int)=(i:Int):=by injection e
    rw [show i=j by omega];exact nI D
  ·-- a column that isn't the core's
   have ic:i∉G:=by simpa using q
   show R7 K _ _ _;obtain ⟨ws,al,hS⟩:=hL;have lw:=hS.length;obtain ⟨P,a3⟩:∃ P:de,P=os.map λo=>-(en L o i):=⟨_,rfl⟩;have b1:P.length=os.length:=by rw [a3,AK]
   refine Ag (Dg (C0 (AF rfl ⟨x,A,dx,fs,_,rfl,aj,U.cl,U.a2,fo.f2,y,rfl,⟨_,SqL.of C1.hy⟩,CompJ.lst (xs:=iN os) (λj O J=>j<=os.length/\J=H1/\O=(P.take j).map V.int) ⟨AY _,rfl,rfl⟩ ?_ ?_ ?_⟩)))
   ·rintro j O J ⟨D,rfl,rfl⟩;exact ⟨by rw [Cc];exact D,sz (by rw [AK,BQ];omega),SqL.of C1.hy⟩
   ·rintro j v O J hv ⟨_,rfl,rfl⟩;have D:j<os.length:=by have:=(BF.mp hv).1;rw [Cc] at this;exact this
    rw [Hu D] at hv;cases hv;have on:=ol _ (CQ D);obtain ⟨b,eb,Y⟩:=hS.at (i:=nth os j) (by rw [R.1];exact on);have lr:=(R.row on).2;refine CD (Mt (AX (AX (AF rfl (AF rfl (Cl (s1 _ _ al) (DP eb) (AF rfl (Cl (s1 _ _ Y) (DP (EC (by rw [lr];exact hi))) ⟨_,rfl,D,rfl,?_⟩))))))));have e:P[j]?=some (-(en L (nth os j) i)):=by rw [a3,Aa,AT D,E3 D];rfl
    rw [Ez V.int e];rfl
   rintro br J ⟨_,rfl,rfl⟩ du b9;rw [show P.take (iN os).length=P by rw [Cc,<-b1,CA]];have s2:=AQ b9 (.lst (P.map V.int));generalize ba:upd J du (.lst (P.map V.int))=H2 at *;have b2:H2 du=some (.lst (P.map V.int)):=by rw [<-ba];exact upd_same
   have C2:=C1.tp s2;have a4:=s2 _ _ aj
   have bb:∀ z∈P,Bd 4000 z:=λz X=>by
    rw [a3] at X;obtain ⟨o,ho,rfl⟩:=Ap.mp X;obtain ⟨r,hr,hm⟩:=R.en_mem (ol o ho) hi;exact (bL r hr _ hm).neg
   show R4 K _ _ _;refine Ag (Jx (C0 (AF rfl ⟨x,A,dx,fs,_,rfl,a4,U.cl,U.a4,fo.f4,C0 (AF rfl ⟨x,A,dx,fs,_,rfl,a4,U.cl,U.a5,fo.f5,AF rfl (C0 (AF rfl ⟨x,A,dx,fs,_,rfl,a4,U.cl,U.a1,fo.f1,m,t,du,M,T,P,os.length,p,rfl,C2.hm,C2.ht,b2,c.rM,c.rT,b1,dw,p2,bp,c.iT,c.inv,bM,bb,λso yy O B H3 s3 a5 bc bt B0 bB bd be=>?_⟩))⟩)⟩)));have C3:=C2.tp s3;have bg:=s3 _ _ a4;show R3 K _ _ _;refine Ag (HU (C0 (AF rfl ⟨x,A,dx,fs,_,rfl,bg,U.cl,U.a3,fo.f3,Bu rfl a5 (El _ _) (AF rfl ⟨z,yy,G,O,w,rfl,C3.hz,bc,⋯,cl,aq,⋯,λro rs H4 s4 b3 am bi r1 r0=>?_⟩)⟩)));have ab:=(s2.trans s3).trans s4;have bj:H ro=none:=(s1.trans (s2.trans s3)).free b3;have b4:fr≠ro:=Ax (s3 _ _ (s2 _ _ I)) b3;show R1 K _ _ _;refine F8 (Bu rfl (s4 _ _ a5) (Dd _ _) ⟨_,rfl,_,rfl,ro,_,_,i,rfl,rfl,am,Hr (by rw [AK];omega),?_⟩);rw [<-List.map_set];obtain ⟨f,hf⟩:∃ f,f=rs.set i B:=⟨_,rfl⟩;rw [<-hf];have k5:Kp ro H4 (upd H4 ro (.lst (f.map V.int))):=Kp.upd;generalize bk:upd H4 ro (.lst (f.map V.int))=H5 at *;have ac:H5 ro=some (.lst (f.map V.int)):=by rw [<-bk];exact upd_same
   have s5:Same H H5:=λb o Y=>k5 b o (Ax Y bj) (ab _ _ (s1 _ _ Y));have cf:∀ j,co f j=if j=i then B else co rs j:=λj=>by rw [hf];exact Kg ⋯
   have lf:f.length=w:=by rw [hf,Dk];exact bi
   have fB:co f i=B:=by rw [cf,nH rfl]
   have fc:∀ s,s<os.length->co f (nth G s)=co O s:=λs hs=>by
    rw [cf,nG λe=>ic (by rw [<-e];exact CQ ⋯)];exact r1 s ⋯
   have f0:∀ j,j<w->j∉G->j≠i->co f j=0:=λj D jc ji=>by
    rw [cf,nG ji];exact r0 j λs hs e=>jc (by rw [<-e];exact CQ hs)
   have bf:∀ z∈f,Bd 250000 z:=λzz X=>by
    obtain ⟨j,D,rfl⟩:=Ed.mp X;have e:f[j]=co f j:=by unfold co;rw [AI,AT D];rfl
    rw [e];by_cases ji:j=i
    ·rw [ji,fB];exact bB
    ·by_cases jc:j∈G
     ·obtain ⟨s,hs,rfl⟩:=E2 jc;rw [fc s ⋯];exact bd _ (Co ⋯)
     ·rw [f0 j ⋯ jc ji];exact Cj _
   have sum:∀ o,su w (λj=>en L o j*co f j)=su os.length (λs=>en L o (nth G s)*co O s)+en L o i*B:=λo=>by
    rw [Ms (d:=os.length) (c:=nth G) (q:=i) (f:=co f) (λj=>en L o j) (λs hs=>cl _ (CQ ⋯)) (λs t hs ht e=>JE aq ⋯ ⋯ e) hi (λs hs e=>ic (by rw [<-e];exact CQ ⋯)) (λj D h1 h2=>f0 j D (λjc=>by
     obtain ⟨s,hs,e⟩:=E2 jc;exact h1 s ⋯ e) h2),fB,AU (f:=λs=>en L o (nth G s)*co f (nth G s)) (g:=λs=>en L o (nth G s)*co O s) os.length λs hs=>by rw [fc s hs]]
   have ao:∀ tt,tt<os.length->su w (λj=>en L (nth os tt) j*co f j)=0:=λtt ht=>by
    rw [sum,AU (g:=λs=>en M tt s*co O s) os.length λs hs=>by rw [c.eM tt ht s hs],be tt ht]
    have e:co P tt = -(en L (nth os tt) i):=by
     unfold co;rw [a3,AI,Aa,AT ht,E3 ht];rfl
    rw [e];ext
   show Rz K _ _ _;refine Fn (show tB _ _ _ _ from Cm (Dg (AF rfl ⟨a,rfl,⟨_,SqL.of (s5 _ _ al)⟩,CompJ.lst (xs:=ws) (λj O J=>j<=ws.length/\Same H5 J/\∃ N:de,O=N.map V.int/\N.length=j/\∀ o,o<j->co N o=su w λq=>en L o q*co f q) ⟨AY _,Same.refl H5,[],rfl,rfl,λo h=>absurd h (BS o)⟩ ?_ ?_ ?_⟩)))
   ·rintro j O J ⟨D,s,N,rfl,ld,_⟩;exact ⟨D,sz (by rw [AK];have:=R.1;omega),SqL.of (s _ _ (s5 _ _ al))⟩
   ·rintro j v O J hv ⟨_,s,N,rfl,ld,hd⟩;have D:j<ws.length:=(BF.mp hv).1;obtain ⟨b,rr,rfl,er,Y⟩:=hS.get hv;have eg:L.getD j []=rr:=by rw [AI,er];rfl
    have rm:=BC er;refine CD (A9 (AF rfl (AF rfl ⟨b,ro,rr,f,w,rfl,s _ _ (s5 _ _ Y),s _ _ ac,R.2 rr rm,lf,⋯,λzz X=>(bL rr rm zz X).mono ∅,λzz X=>(bf zz X).mono ∅,λH6 s6=>⟨D,s.trans s6,N++[su w λq=>co rr q*co f q],by rw [Cp];rfl,by rw [CL,ld];rfl,λo ho=>?_⟩⟩)));by_cases q:o<j
    ·rw [JF ⋯];exact hd o q
    ·have eo:o=N.length+0:=by omega
     rw [eo,JG,Nat.add_zero,ld];unfold en;rw [eg];rfl
   rintro O H6 ⟨_,s6,N,rfl,ld,hd⟩ an bl;have wn:ws.length=n:=by rw [lw,R.1]
   rw [wn] at ld hd;have s7:=AQ bl (.lst (N.map V.int));generalize bm:upd H6 an (.lst (N.map V.int))=H7 at *;have b5:H7 an=some (.lst (N.map V.int)):=by rw [<-bm];exact upd_same
   have S:=s6.trans s7;refine ⟨an,N,rfl,b5,_,rfl,Ah (λq=>?_) (λq=>?_)⟩
   ·obtain ⟨zz,X,nz⟩:=List.any_eq_true.mp q;obtain ⟨o,ho,rfl⟩:=Ed.mp X;have e:N[o]=co N o:=by unfold co;rw [AI,AT ho];rfl
    rw [e,hd o ⋯] at nz;exact kN _ (s5.trans S) ⟨o,co f,⋯,ao,by simpa using nz⟩
   ·have all:∀ o,o<n->su w (λj=>en L o j*co f j)=0:=λo ho=>Classical.byContradiction λnz=>q (List.any_eq_true.mpr ⟨co N o,Co ⋯,by rw [hd o ho];simpa using nz⟩);refine Hs ?_;show Ry K _ _ _;have a0:H7 fr=some (.lst Z):=S _ _ (k5 _ _ b4 (ab _ _ I));have b6:H7 so=some (.tup [.ref yy,.int B]):=S _ _ (k5 _ _ (GJ (s4 _ _ a5) am (by intro z;cases z)) (s4 _ _ a5));have bq:Tp J H7:=λb o Y=>S _ _ (k5 _ _ (GJ (ab _ _ Y) am (by intro z;cases z)) (ab _ _ Y));have lF:=hF.length
    have bv:F.length<=w:=by
     have:=congrArg List.length eF;rw [AK] at this;have:=tV i G;omega
    refine ⟨_,rfl,.inl ⟨rfl,_,SqL.of a0⟩,A9 (AF rfl (Bu rfl b6 (Dd _ _) ⟨ro,f,B,rfl,S _ _ ac,⋯,⋯,λu zs H8 s8 hu hN=>⟨fr,_,_,rfl,rfl,s8 _ _ a0,sz ⋯,hi,Z++[.ref u],F++[(i,f,B)],_,_,_,_,rfl,λb o Y=>?_,upd_same,?_,?_⟩⟩))⟩
    ·rw [Au (Ax Y b0)];exact s8 _ _ (S _ _ (s5 _ _ Y))
    ·have ap:Tp H8 (upd H8 fr (.lst (Z++[.ref u]))):=Tp.updL (s8 _ _ a0);exact ((hF.tp bq).tp (L' s8)).tp ap |> FRs.snoc (q:=(i,f,B)) (ap _ _ hu) (hN.tp ap) ⟨lf,B0,bB,bf,all,hi,ic,fB,f0⟩
    ·rw [Cp,eF,UR,nG ic];rfl
  ·have ic:i∈G:=by simpa using q
   refine ⟨hi,Z,F,_,_,_,_,rfl,s1,I,hF,?_⟩;rw [UR,nH ic,List.append_nil];exact eF
 ·rintro σ H1 ⟨_,Z,F,x4,x5,x6,x7,rfl,s1,I,hF,eF⟩;show R8 K _ _ _;exact BY (AF rfl (k fr Z F H1 s1 I hF eF))
theorem bez (a b:Nat):∃ x y:Int,(a:Int)*x+(b:Int)*y=((Nat.gcd a b:Nat):Int):=by
 induction a,b using Nat.gcd.induction with
 | H0 n=>exact ⟨0,1,by rw [Nat.gcd_zero_left];omega⟩
 | H1 m n h c=>
   obtain ⟨x,y,e⟩:=c;refine ⟨y - (n / m:Nat)*x,x,?_⟩;rw [Nat.gcd_rec,<-e]
   have d:(n:Int)=(m:Int)*((n / m:Nat):Int)+((n % m:Nat):Int):=by
    have:=Nat.div_add_mod n m;omega
   ext
def Pr.inv {p:Nat} (h:Pr p) (D:Int) (a:¬ (p:Int)∣D):∃ E,Zm.of (p:Int) E*Zm.of (p:Int) D=1:=by
 have g:Nat.gcd D.natAbs p=1:=h.cop λz=>a (Int.dvd_natAbs.mp (EK.mpr z));obtain ⟨x,y,e⟩:=bez D.natAbs p;rw [g] at e;refine ⟨x*D.sign,?_⟩;rw [<-Zm.of_mul,show (1:Zm (p:Int))=Zm.of (p:Int) 1 from rfl,Zm.of_eq];refine ⟨-y,?_⟩;have b:D.sign*D=(D.natAbs:Int):=Int.sign_mul_self D;have c:x*D.sign*D=(D.natAbs:Int)*x:=by rw [C7,b,Cq]
 rw [c];have e:(D.natAbs:Int)*x+(p:Int)*y=1:=e;rw [Int.mul_neg];omega
def tX {L:List (de)} {n w:Nat} (R:Rect L n w) (bL:aQ 4000 L) (w1:w<=10) :
  ∃ D:Nat,0<D/\D<=2 ^ 1000000/\∀ (p:Nat) (os cs:List Nat) (M T:List (de)),CorM L n w p os cs M T->Pr p->¬ p∣D->¬ KN L n w os:=by
 obtain ⟨r,o,c,D,rw',on,cw,D0,P,y⟩:=Zr (n:=n) (w:=w) (A:=2 ^ 4000) (b:=en L) (λi S j F=>by
  obtain ⟨r',U,hm⟩:=R.en_mem S F;exact Dx (bL r' U _ hm)) (D1 ∅)
 have xs:=UO (k:=r) ⋯;have nz:=Pn r λs a=>(D0 s a).1;refine ⟨(pd r D).natAbs,⋯,?_,λp os cs M T C O pD=>?_⟩
 ·refine CF (Pp r λs a=>CF (D0 s a).2 xs) ?_;rw [<-Nat.pow_mul];exact Kd ⋯
 rintro ⟨i,f,S,u,X⟩;have p2:=O.two;obtain ⟨d,hd⟩:∃ d,d=os.length:=⟨_,rfl⟩;have lc:=C.lc;have N:=C.inv;have eM:=C.eM;rw [<-hd] at u lc N eM;have G:∀ s,s<r->∃ E,Zm.of (p:Int) E*Zm.of (p:Int) (D s)=1:=λs a=>O.inv (D s) λz=>pD (EK.mp (Int.dvd_natAbs.mpr (Bw z (Po a))))
 obtain ⟨W,hW⟩:∃ W:Nat->Nat->Zm (p:Int),∀ s,s<r->∀ J,J<r->su r (λt=>W s t*Zm.of (p:Int) (en L (o t) (c J)))=dl s J:=by
  refine ⟨λs t=>if h:s<r then Zm.of (p:Int) (Classical.choose (G s h))*Zm.of (p:Int) (Classical.choose (P s h) t) else 0,λs a J Y=>?_⟩;have ce:=Classical.choose_spec (G s a);have y:=Classical.choose_spec (P s a) J Y
  rw [AU (g:=λt=>Zm.of (p:Int) (Classical.choose (G s a))*Zm.of (p:Int) (Classical.choose (P s a) t*en L (o t) (c J))) r λt _=>by
   show (if h:s<r then _ else _)*_=_;rw [dif_pos a,Zm.of_mul,Lean.Grind.Semiring.mul_assoc],BO,<-Zm.of_su,y,Zm.of_mul,<-Lean.Grind.Semiring.mul_assoc,ce]
  unfold dl;split
  ·show (1:Zm (p:Int))*1=1;ext
  ·show (1:Zm (p:Int))*0=0;ext
 have Z:r<=d:=Nat.le_of_not_lt λlt=>by
  have y:∀ t,t<r->∃ z:dI,∀ j,j<w->(p:Int)∣en L (o t) j - su d λs=>z s*en L (nth os s) j:=λt m=>by rw [hd];exact C.span (o t) (on t m)
  obtain ⟨I,⟨l,hl,nl⟩,e⟩:=bh O.dom d r (λt s=>if h:t<r then Zm.of (p:Int) (Classical.choose (y t h) s) else 0) lt;refine nl (ker O.dom (k:=r) (W:=W) (M:=λt s=>Zm.of (p:Int) (en L (o t) (c s))) hW (v:=I) (λs a=>?_) l hl)
  have ez:∀ t,t<r->Zm.of (p:Int) (en L (o t) (c s))=su d λq=>(if h:t<r then Zm.of (p:Int) (Classical.choose (y t h) q) else 0)*Zm.of (p:Int) (en L (nth os q) (c s)):=λt m=>by
   have:=Zm.of_eq.mpr (Classical.choose_spec (y t m) (c s) (cw s a));rw [this,Zm.of_su];exact AU d λq _=>by rw [dif_pos m,Zm.of_mul]
  rw [AU (g:=λt=>su d λq=>I t*(if h:t<r then Zm.of (p:Int) (Classical.choose (y t h) q) else 0)*Zm.of (p:Int) (en L (nth os q) (c s))) r λt m=>by
   rw [ez t m,<-BO];exact AU d λq _=>by rw [Lean.Grind.Semiring.mul_assoc],Dv]
  exact CK λq hq=>by rw [Cb,e q hq,Lean.Grind.Semiring.zero_mul]
 obtain ⟨I,⟨l,hl,nl⟩,e⟩:=bh domQ r (d+1) (λt s=>if h:(if t=d then i else nth os t)<n then Classical.choose (y _ h) s else 0) ⋯
 have bn:∀ t,t<d+1->(if t=d then i else nth os t)<n:=λt m=>by
  by_cases q:t=d
  ·rw [nH q];exact S
  ·rw [nG q];exact C.ol _ (CQ ⋯)
 have zero:∀ j,j<w->su (d+1) (λt=>I t*(en L (if t=d then i else nth os t) j:Rat))=0:=λj F=>by
  rw [AU (g:=λt=>su r λq=>I t*(if h:(if t=d then i else nth os t)<n then Classical.choose (y _ h) q else 0)*(en L (o q) j:Rat)) (d+1) λt m=>by
   rw [Classical.choose_spec (y _ (bn t m)) j F,<-BO];exact AU r λq _=>by rw [dif_pos (bn t m),Rat.mul_assoc],Dv]
  exact CK λq hq=>by rw [Cb,e q hq,Rat.zero_mul]
 obtain ⟨B,V,b0,hV⟩:=Pm I (d+1)
 have zI:∀ j,j<w->su d (λt=>V t*en L (nth os t) j)+V d*en L i j=0:=λj F=>by
  have h:su (d+1) (λt=>V t*en L (if t=d then i else nth os t) j)=0:=HW (by
   rw [GA,AU (g:=λt=>(B:Rat)*(I t*(en L (if t=d then i else nth os t) j:Rat))) (d+1) λt m=>by rw [C8,hV t m,Rat.mul_assoc],BO,zero j F,Rat.mul_zero];rfl)
  have h:su d (λt=>V t*en L (if t=d then i else nth os t) j)+V d*en L (if d=d then i else nth os d) j=0:=h;rw [nH rfl,AU (f:=λt=>V t*en L (if t=d then i else nth os t) j) (g:=λt=>V t*en L (nth os t) j) d λt m=>by rw [nG ⋯]] at h;exact h
 have vd:V d=0:=by
  have Z:su w (λj=>(su d (λr=>V r*en L (nth os r) j)+V d*en L i j)*f j)=0:=CK λj F=>by rw [zI j F,D2]
  rw [AU (g:=λj=>su d (λr=>V r*(en L (nth os r) j*f j))+V d*(en L i j*f j)) w λj _=>by
   rw [Int.add_mul,<-Cb,C7,AU (f:=λr=>V r*en L (nth os r) j*f j) (g:=λr=>V r*(en L (nth os r) j*f j)) d λr _=>C7 ..],Fo,Dv,BO,CK (n:=d) (λr hr=>by rw [BO,u r hr,Ec]),Int.zero_add] at Z
  exact (Eb.mp Z).resolve_right X
 have vz:=N.flip.null p2 (x:=V) (λs a=>by
  have:=zI (nth cs s) (C.cl _ (CQ ⋯));rw [vd,D2,Int.add_zero] at this;rw [AU (g:=λr=>V r*en L (nth os r) (nth cs s)) d λr hr=>by rw [eM r hr s a,Cq]];exact this)
 have vl:V l=0:=by
  by_cases q:l=d
  ·rw [q];exact vd
  ·exact vz l ⋯
 have:=hV l hl;rw [vl] at this;have a0:(B:Rat)≠0:=λz=>b0 (HW z);exact nl ((domQ.mul this.symm).resolve_left a0)
def Inv2.congr {p:Int} {k:Nat} {M T d e:Nat->dI} (I:Inv2 p k M T) (f:∀ i,i<k->∀ j,j<k->d i j=M i j) (h:∀ i,i<k->∀ j,j<k->e i j=T i j):Inv2 p k d e:=
 ⟨λi a j b=>by rw [AU (g:=λt=>M i t*T t j) k λt c=>by rw [f i a t c,h t c j b]];exact I.mt i a j b,λi a j b=>by rw [AU (g:=λt=>T i t*M t j) k λt c=>by rw [h i a t c,f t c j b]];exact I.tm i a j b⟩
def CorM.bM {L M T:List (de)} {n w p b:Nat} {os cs:List Nat} (c:CorM L n w p os cs M T) (R:Rect L n w) (g:aQ b L):aQ b M:=λr d z h=>by
 obtain ⟨i,k,rfl⟩:=Ed.mp d;obtain ⟨j,m,rfl⟩:=Ed.mp h;have q:=c.lc;have a:i<os.length:=by have:=c.rM.1;omega
 have f:j<os.length:=by have:=c.rM.2 _ d;omega
 have e:M[i][j]=en M i j:=by
  unfold en co;rw [AI (l:=M),AT k];show M[i][j]=(M[i]).getD j 0;rw [AI,AT m];rfl
 rw [e,c.eM i a j f];obtain ⟨r,d,o⟩:=R.en_mem (c.ol _ (CQ a)) (c.cl _ (CQ (by omega:j<cs.length)));exact g r d _ o
def tY {K:W.Frag} (F:ClsOk K (B8 K)) {vs:d8} {H:Hp} {Q:VK} {E:XK} (h:ML K vs H Q E):yO K (eC Q) (L2.start ["sides","core","place","due","solution","weights"] vs) H:=by
 obtain ⟨a,x,y,z,m,t,L,M,T,n,w,p,os,I,i,rfl,hL,R,n1,w1,bL,p2,bp,C,U,io,k⟩:=h;generalize B8 K=A at *;have c:=C.c;have lc:=c.lc;have ol:=c.ol;have cl:=c.cl;have dw:os.length<=10:=by have:=Mr c.cu c.cl;omega
 have bM:=c.bM R bL;obtain ⟨dx,fs,hx,fo⟩:=C.at';obtain ⟨ws,a3,hS⟩:=hL;obtain ⟨b,eb,hb⟩:=hS.at (i:=i) (by rw [R.1];exact U);have lr:=(R.row U).2;refine Ag (A9 (AX (AF rfl (AF rfl (Cl a3 (DP eb) (C0 (AF rfl ⟨x,A,dx,fs,_,rfl,hx,F.cl,F.a3,fo.f3,b,z,_,I,rfl,hb,C.hz,λj u=>by rw [lr];exact cl j u,⋯,λdu ao=>?_⟩)))))));obtain ⟨G,J⟩:∃ G,G=I.map (co (L.getD i [])):=⟨_,rfl⟩;rw [<-J];have ap:G.length=os.length:=by rw [J,AK];exact lc
 have aq:∀ s,s<os.length->co G s=en L i (nth I s):=λs N=>by
  have a4:s<I.length:=by omega
  show G.getD s 0=_;rw [J,AI,Aa,AT a4,E3 a4];rfl
 have ar:∀ z∈G,Bd 4000 z:=λz hz=>by
  rw [J] at hz;obtain ⟨j,u,rfl⟩:=Ap.mp hz;exact bL _ (R.row U).1 _ (Co (by rw [lr];exact cl j u))
 have s1:=AQ ao (.lst (G.map V.int));generalize b0:upd H du (.lst (G.map V.int))=H1 at *;have a5:H1 du=some (.lst (G.map V.int)):=by rw [<-b0];exact upd_same
 have C1:=C.tp s1;have O:=s1 _ _ hx;show SH K _ _ _;refine Ag (Jx (Df (C0 (AF rfl ⟨x,A,dx,fs,_,rfl,O,F.cl,F.a4,fo.f4,m,M,os.length,os.length,rfl,C1.hm,c.rM,id,⋯,⋯,λm2 M2 H2 s2 b1 b2 ab b3=>Df (C0 (AF rfl ⟨x,A,dx,fs,_,rfl,s2 _ _ O,F.cl,F.a5,fo.f5,t,T,os.length,os.length,rfl,C1.ht.tp s2,c.rT,id,⋯,⋯,λt2 T2 H3 s3 b4 b5 b6 b7=>AF rfl (C0 (AF rfl ⟨x,A,dx,fs,_,rfl,s3 _ _ (s2 _ _ O),F.cl,F.a1,fo.f1,m2,t2,du,M2,T2,G,os.length,p,rfl,b1.tp s3,b4,s3 _ _ (s2 _ _ a5),b2,b5,ap,dw,p2,bp,b7 (λz=>0<=z/\z<(p:Int)) c.iT,c.inv.flip.congr (λi U j u=>ab j u i U) (λi U j u=>b6 j u i U),b3 (λz=>Bd 4000 z) bM,ar,λso yy Y B H4 s4 S ac bl B0 bB b9 ba=>?_⟩))⟩))⟩))));have Z:=(s2.trans s3).trans s4;have C4:=C1.tp Z;have bb:=Z _ _ O;have bc:=s1.trans Z;show SG K _ _ _;refine Ag (HU (C0 (AF rfl ⟨x,A,dx,fs,_,rfl,bb,F.cl,F.a2,fo.f2,Dg (Bu rfl S (El _ _) ⟨yy,rfl,⟨_,SqL.of ac⟩,Iy (λz=>-z) ac ⋯ (λn hn P hP=>⟨_,rfl,_,rfl,hP⟩) λng bd=>?_⟩)⟩)));have s5:=AQ bd (.lst ((Y.map λz=>-z).map V.int));generalize be:upd H4 ng (.lst ((Y.map λz=>-z).map V.int))=H5 at *;have aj:H5 ng=some (.lst ((Y.map λz=>-z).map V.int)):=by rw [<-be];exact upd_same
 have a0:=bc.trans s5;have wn:ws.length=n:=by rw [hS.length,R.1]
 refine FT (AF rfl (FU (a0 _ _ a3) ⟨y,ng,os,Y.map λz=>-z,n,by rw [wn],s5 _ _ C4.hy,aj,by rw [AK];omega,ol,c.ou,⋯,λX rs H6 s6 bf al bg r1 r0=>?_⟩));show SF K _ _ _;refine F8 (Bu rfl (s6 _ _ (s5 _ _ S)) (Dd _ _) ⟨_,rfl,_,rfl,X,_,_,i,rfl,rfl,al,Hr (by rw [AK];omega),?_⟩);rw [<-List.map_set];have bi:H X=none:=a0.free bf;obtain ⟨W,hW⟩:∃ W,W=rs.set i B:=⟨_,rfl⟩;rw [<-hW];have k7:Kp X H6 (upd H6 X (.lst (W.map V.int))):=Kp.upd;generalize bj:upd H6 X (.lst (W.map V.int))=H7 at *;have am:H7 X=some (.lst (W.map V.int)):=by rw [<-bj];exact upd_same
 have bk:Same H H7:=λb o hb=>k7 b o (Ax hb bi) (s6 _ _ (a0 _ _ hb));have lW:W.length=n:=by rw [hW,Dk];exact bg
 have cW:∀ j,co W j=if j=i then B else co rs j:=λj=>by rw [hW];exact Kg ⋯
 have WB:co W i=B:=by rw [cW,nH rfl]
 have Wo:∀ D,D<os.length->co W (nth os D) = - co Y D:=λD v=>by
  rw [cW,nG λe=>io (by rw [<-e];exact CQ v),r1 D v];exact Kf _ ⋯
 have W0:∀ j,j<n->j∉os->j≠i->co W j=0:=λj u jo ji=>by
  rw [cW,nG ji];exact r0 j λs N e=>jo (by rw [<-e];exact CQ N)
 show SE K _ _ _;refine BY (DT (AF rfl (Bu rfl (k7 _ _ (GJ (s6 _ _ (s5 _ _ S)) al (by intro z;cases z)) (s6 _ _ (s5 _ _ S))) (Dd _ _) ⟨Cn,λr hr=>?_⟩)));have s8:=AQ hr (.tup [.ref X,.int B]);refine k r X W B _ (bk.trans s8) upd_same (s8 _ _ am) lW B0 bB (λzz hz=>?_) WB W0 λs N=>?_
 ·obtain ⟨j,u,rfl⟩:=Ed.mp hz;have e:W[j]=co W j:=by unfold co;rw [AI,AT u];rfl
  rw [e];by_cases ji:j=i
  ·rw [ji,WB];exact bB
  ·by_cases jo:j∈os
   ·obtain ⟨D,v,rfl⟩:=E2 jo;rw [Wo D v];exact (b9 _ (Co ⋯)).neg
   ·rw [W0 j ⋯ jo ji];exact Cj _
 ·rw [AU (g:=λj=>en L j (nth I s)*co W j) n λj _=>Cq _ _,Ms (d:=os.length) (c:=nth os) (q:=i) (f:=co W) (λj=>en L j (nth I s)) (λD v=>ol _ (CQ v)) (λs t N v e=>JE c.ou N v e) U (λD v e=>io (by rw [<-e];exact CQ v)) (λj u h1 h2=>W0 j u (λjo=>by
   obtain ⟨D,v,e⟩:=E2 jo;exact h1 D v e) h2),WB]
  have e:=ba s N;rw [AU (g:=λj=>en L (nth os j) (nth I s)*co Y j) os.length λj u=>by rw [ab j u s N,c.eM j u s N],aq s N] at e;rw [AU (f:=λan=>en L (nth os an) (nth I s)*co W (nth os an)) (g:=λj=>(-1)*(en L (nth os j) (nth I s)*co Y j)) os.length λj u=>by rw [Wo j u];ext,BO,e];omega
def tZ {R:Type} [Lean.Grind.CommRing R] {w d:Nat} {c:Nat->Nat} {f:Nat->R} (g:Nat->R) (p:∀ s,s<d->c s<w) (h:∀ s t,s<d->t<d->c s=c t->s=t) (i:∀ j,j<w->(∀ s,s<d->c s≠j)->f j=0) :
  su w (λj=>g j*f j)=su d (λs=>g (c s)*f (c s)):=by
 have k:∀ j,j<w->f j=su d (λs=>f (c s)*dl (c s) j):=λj m=>by
  by_cases a:∃ s,s<d/\c s=j
  ·obtain ⟨n,o,rfl⟩:=a
   rw [AU (g:=λs=>(λs=>f (c s)) s*dl s n) d λs b=>by
    unfold dl;by_cases e:c s=c n
    ·rw [nH e,nH (h s n b o e)]
    ·rw [nG e,nG λz=>e (by rw [z])],Ex (λs=>f (c s)),nH o]
  ·have a:∀ s,s<d->c s≠j:=λs b z=>a ⟨s,b,z⟩
   rw [CK λs b=>by
    unfold dl;rw [nG (a s b)];grind]
   exact i j m a
 rw [AU (g:=λj=>su d (λs=>f (c s)*dl (c s) j)*g j) w λj m=>by rw [<-k j m];ext,J4 p (λs=>f (c s)) g];exact AU d λs _=>by ext
def UT {l:cZ} (b:Aj l) {j:Nat} (a:j<l.length):((co (AW l) j:Int):Rat)=vl l j*((Ai l:Int):Rat):=by
 have c:=(De b).2 _ (CT a);have lo:=b _ (CT a)
 have d:co (AW l) j=l[j].1*(Ai l / l[j].2):=by
  unfold co AW;rw [AI,Aa,AT a];rfl
 have e:vl l j=(l[j].1:Rat) / (l[j].2:Rat):=by
  unfold vl val;rw [AI,AT a];rfl
 obtain ⟨t,f⟩:=c;have p:=lo.pos;have g:((l[j].2:Int):Rat)≠0:=BH ⋯;rw [d,e,f,Ft _ ⋯];push_cast;ext
def Mu {b m:Nat} {l:cZ} {M:Int} (h:FX b l) (o:Ov l M) (e:Bd m M):(∀ z∈AW l,Bd (b+m) z)/\Bd m (Ai l):=by
 have f:=(De h.1).1;have a:Bd m (Ai l):=Dr (Ab o.1) (Lb h.1 o) e;refine ⟨λz c=>?_,a⟩;unfold AW at c;obtain ⟨q,d,rfl⟩:=Ap.mp c;exact ((h.2 q d).1).mul (a.le (On f (h.1 q d).pos))
def Ki (l:cZ):(AW l).length=l.length:=by unfold AW;rw [AK]
noncomputable def CLs (H:Hp):d8->List cY->Prop
 | [],[]=>True
 | x::b,l::c=>(∃ r a,x=.ref r/\H r=some (.tup [.ref a,.int (Ai l)])/\H a=some (.lst ((AW l).map V.int)))/\CLs H b c
 | _,_=>False
theorem CLs.tp {H H':Hp} (s:Same H H'):∀ {xs:d8} {ls:List cY},CLs H xs ls->CLs H' xs ls
 | [],[],_=>trivial
 | _::_,_::_,h=>⟨let ⟨r,a,e,b,c⟩:=h.1;⟨r,a,e,s _ _ b,s _ _ c⟩,CLs.tp s h.2⟩
 | [],_::_,h=>h.elim
 | _::_,[],h=>h.elim
theorem CLs.length {H:Hp}:∀ {xs:d8} {ls:List cY},CLs H xs ls->xs.length=ls.length
 | [],[],_=>rfl
 | _::_,_::_,h=>congrArg (·+1) (CLs.length h.2)
 | [],_::_,h=>h.elim
 | _::_,[],h=>h.elim
theorem CLs.get {H:Hp}:∀ {xs:d8} {ls:List cY} {i:Nat} {v:V},CLs H xs ls->xs[i]?=some v->∃ r a l,v=.ref r/\ls[i]?=some l/\H r=some (.tup [.ref a,.int (Ai l)])/\H a=some (.lst ((AW l).map V.int))
 | [],[],_,_,_,e=>by simp at e
 | _::_,l::_,0,_,h,e=>by
   simp at e;subst e;obtain ⟨r,a,e,b,c⟩:=h.1;exact ⟨r,a,l,e,rfl,b,c⟩
 | _::_,_::_,i+1,_,h,e=>by
   obtain ⟨r,a,l,d,f,g⟩:=CLs.get (i:=i) h.2 (by simpa using e);exact ⟨r,a,l,d,by simpa using f,g⟩
 | [],_::_,_,_,h,_=>h.elim
 | _::_,[],_,_,h,_=>h.elim
theorem CLs.snoc {H:Hp} {r a:Addr} {l:cZ} (b:H r=some (.tup [.ref a,.int (Ai l)])) (c:H a=some (.lst ((AW l).map V.int))):∀ {xs:d8} {ls:List cY},CLs H xs ls->CLs H (xs++[.ref r]) (ls++[l])
 | [],[],_=>⟨⟨r,a,rfl,b,c⟩,trivial⟩
 | _::_,_::_,h=>⟨h.1,CLs.snoc b c h.2⟩
 | [],_::_,h=>h.elim
 | _::_,[],h=>h.elim
theorem NRs.get {H:Hp}:∀ {xs:d8} {A:List cY} {i:Nat} {v:V},NRs H xs A->xs[i]?=some v->∃ a b l,v=.ref a/\A[i]?=some l/\H a=some (.lst b)/\Nums H b l
 | [],[],_,_,_,e=>by simp at e
 | _::_,l::_,0,_,h,e=>by
   simp at e;subst e;obtain ⟨a,b,e,c,d⟩:=h.1;exact ⟨a,b,l,e,rfl,c,d⟩
 | _::_,_::_,i+1,_,h,e=>by
   obtain ⟨a,b,l,f,g,j⟩:=NRs.get (i:=i) h.2 (by simpa using e);exact ⟨a,b,l,f,by simpa using g,j⟩
 | [],_::_,_,_,h,_=>h.elim
 | _::_,[],_,_,h,_=>h.elim
theorem NRs.length {H:Hp}:∀ {xs:d8} {A:List cY},NRs H xs A->xs.length=A.length
 | [],[],_=>rfl
 | _::_,_::_,h=>congrArg (·+1) (NRs.length h.2)
 | [],_::_,h=>h.elim
 | _::_,[],h=>h.elim
def sG {xs:d8} {w:Nat} (h:xs.length=w+1):CO xs none (some (-1))=xs.take w:=by
 unfold CO HT.sIx;simp only [List.drop_zero,Nat.sub_zero];rw [nH ∅,show ((-1:Int)+(xs.length:Int)).toNat=w by omega]
def sI {xs:d8} {w:Nat} {v:V} (h:xs.length=w+1) (a:xs[w]?=some v):M_ xs (-1)=some v:=by
 unfold M_ a8;rw [nG ∅,nH ⋯,show ((-1:Int)+(xs.length:Int)).toNat=w by omega];exact a
structure Eqs (H:Hp) (A:List cY) (B:cZ) (n w:Nat) (ln sd du:Addr) (ls:List cY) (L:List (de)) (ds:de):Prop where
 hl:∃ zs,H ln=some (.lst zs)/\CLs H zs ls
 hs:SD H sd L
 hd:H du=some (.lst (ds.map V.int))
 ll:ls.length=n
 ld:ds.length=n
 rL:Rect L n w
 bL:aQ 4000 L
 bd:∀ z∈ds,Bd 4000 z
 b0:∀ l∈ls,0<Ai l/\Bd 1900 (Ai l)
 eL:∀ i,i<n->∀ j,j<w->((en L i j:Int):Rat)=vr A i j*((Ai (ls.getD i []):Int):Rat)
 ed:∀ i,i<n->((co ds i:Int):Rat)=vl B i*((Ai (ls.getD i []):Int):Rat)
def Eqs.tp {H H':Hp} {A:List cY} {B:cZ} {n w:Nat} {a sd b:Addr} {ls:List cY} {L:List (de)} {d:de} (e:Eqs H A B n w a sd b ls L d) (s:Same H H'):Eqs H' A B n w a sd b ls L d:=
 ⟨let ⟨f,h,c⟩:=e.hl;⟨f,s _ _ h,c.tp s⟩,e.hs.tp s,s _ _ e.hd,e.ll,e.ld,e.rL,e.bL,e.bd,e.b0,e.eL,e.ed⟩
def sJ {K:W.Frag} {H:Hp} {D:Ends} {a b:Addr} {xs ys:d8} {A:List cY} {B:cZ} {n w:Nat} {x5 x6 x7 x8 x9 a4 a5 ab:dc} (ha:H a=some (.lst xs)) (hb:H b=some (.lst ys)) (hA:NRs H xs A) (hB:Nums H ys B) (lA:A.length=n) (lB:B.length=n) (rA:∀ l∈A,l.length=w) (n1:n<=20) (w1:w<=10)
  (ok:∀ i,i<n->FX 2000 (A.getD i []++[B.getD i (0,1)])/\∃ m,Ov (A.getD i []++[B.getD i (0,1)]) m/\Bd 1900 m)
  (k:∀ (S sd du:Addr) (ls:List cY) (L:List (de)) (F:de) (H':Hp),Same H H'->Eqs H' A B n w S sd du ls L F->Rj K D [some (.ref a),some (.ref b),some (.ref S),some (.ref sd),some (.ref du),x5,x6,x7,x8,x9,a4,a5,ab] H') :
  Ro K D [some (.ref a),some (.ref b),none,none,none,x5,x6,x7,x8,x9,a4,a5,ab] H:=by
 have lx:=hA.length;have ly:=hB.length;obtain ⟨ls,G⟩:∃ ls:List cY,ls=(List.range n).map λi=>A.getD i []++[B.getD i (0,1)]:=⟨_,rfl⟩;have U:ls.length=n:=by rw [G,AK,A4]
 have ac:∀ i,i<n->ls.getD i []=A.getD i []++[B.getD i (0,1)]:=λi h=>by rw [G,Gv _ _ h]
 have gA:∀ i,i<n->A.getD i []∈A:=λi h=>by rw [AI,AT ⋯];exact CT _
 have lw:∀ l∈ls,l.length=w+1:=λl C=>by
  rw [G] at C;obtain ⟨i,h,rfl⟩:=Ap.mp C;rw [CL,rA _ (gA i (C5.mp h))];rfl
 have I:∀ l∈ls,FX 2000 l/\∃ m,Ov l m/\Bd 1900 m:=λl C=>by
  rw [G] at C;obtain ⟨i,h,rfl⟩:=Ap.mp C;exact ok i (C5.mp h)
 refine Ag (Ho ⟨_,rfl,_,rfl,a,b,rfl,⟨_,SqL.of ha⟩,⟨_,SqL.of hb⟩,CompJ.zip (xs:=xs) (ys:=ys) ⋯ (λi o H'=>i<=xs.length/\Same H H'/\CLs H' o (ls.take i)) ⟨AY _,Same.refl H,trivial⟩ ?_ ?_ ?_⟩)
 ·rintro i o H' ⟨h,s,X⟩;exact ⟨h,sz (by rw [X.length,BQ];omega),SqL.of (s _ _ ha),SqL.of (s _ _ hb)⟩
 ·rintro i x y o H' p hx hy ⟨_,s,X⟩ hp;have h:i<xs.length:=(BF.mp hx).1;have Y:i<n:=by omega
  obtain ⟨r,Z,l,rfl,el,J,hN⟩:=hA.get hx;obtain ⟨q,eq,hq⟩:=hB.get hy;have e1:A.getD i []=l:=by rw [AI,el];rfl
  have e2:B.getD i (0,1)=q:=by rw [AI,eq];rfl
  have s2:=AQ hp (.tup [.ref r,y]);refine ⟨p,_,rfl,upd_same,rfl,_,_,rfl,_,_,rfl,rfl,?_⟩;generalize aj:upd H' p (.tup [.ref r,y])=H2 at *;have al:=s.trans s2;obtain ⟨N,m,T,o3⟩:=ok i Y;rw [e1,e2] at N T;refine Df (AX (Cm (AF rfl ⟨r,Z,rfl,al _ _ J,λc hc=>?_⟩)));have s3:=AQ hc (.lst Z);refine En (AF rfl ⟨Cz,λd hd=>?_⟩);have s4:=AQ hd (.lst [y]);have ao:Z.length=w:=by rw [hN.length];rw [<-e1];exact rA _ (gA i Y)
  refine ⟨c,d,Z,[y],rfl,rfl,s4 _ _ upd_same,upd_same,sz (by show Z.length+1<=_;omega),λe he=>?_⟩;have s5:=AQ he (.lst (Z++[y]));have am:=((al.trans s3).trans s4).trans s5;refine ⟨e,Z++[y],l++[q],m,rfl,.inr upd_same,(hN.tp (L' am)).append (Nums.one (hq.tp (L' am))),N.1,T,o3.mono ∅,λz hz=>((N.2 z hz).1).mono ∅,by rw [CL,<-hN.length,ao];show w+1<=_;omega,λf g H6 s6 hf hg=>?_⟩;have st:=((s2.trans s3).trans s4).trans (s5.trans s6);refine ⟨h,s.trans st,?_⟩;have e0:ls[i]?=some (l++[q]):=by rw [G,Aa,CV Y,<-e1,<-e2];rfl
  have et:ls.take (i+1)=ls.take i++[l++[q]]:=by rw [DY,e0];rfl
  rw [et];exact (X.tp st).snoc hf hg
 rintro o H1 ⟨_,s1,X⟩ S ap;rw [show ls.take xs.length=ls by rw [show xs.length=ls.length by omega,CA]] at X;have lz:=X.length;have s2:=AQ ap (.lst o);generalize aj:upd H1 S (.lst o)=H2 at *;have u:H2 S=some (.lst o):=by rw [<-aj];exact upd_same
 have a0:=X.tp s2;show Rm K _ _ _;obtain ⟨L,hL⟩:∃ L:List (de),L=ls.map λl=>(AW l).take w:=⟨_,rfl⟩;refine Ag (Dg (AF rfl ⟨S,rfl,⟨_,SqL.of u⟩,CompJ.lst (xs:=o) (λi ys H'=>i<=o.length/\Same H2 H'/\SDs H' ys (L.take i)) ⟨AY _,Same.refl H2,trivial⟩ ?_ ?_ ?_⟩))
 ·rintro i ys H' ⟨h,s,hS⟩;exact ⟨h,sz (by rw [hS.length,BQ];omega),SqL.of (s _ _ u)⟩
 ·rintro i v ys H' hv ⟨_,s,hS⟩;have h:i<o.length:=(BF.mp hv).1;obtain ⟨r,c,l,rfl,el,J,hc⟩:=a0.get hv;have O:=BC el;refine CD (show ag sL _ _ _ _ _ _ from Bu rfl (s _ _ J) (El _ _) (Mt (F_ ⟨1,rfl,_,rfl,c,_,rfl,s _ _ hc,λp hp=>?_⟩)));rw [sG (w:=w) (by rw [AK,Ki];exact lw l O)];have s3:=AQ hp (.lst (((AW l).map V.int).take w));refine ⟨h,s.trans s3,?_⟩;have e0:L[i]?=some ((AW l).take w):=by rw [hL,Aa,el];rfl
  have et:L.take (i+1)=L.take i++[(AW l).take w]:=by rw [DY,e0];rfl
  rw [et];exact (hS.tp s3).snoc (by rw [List.map_take];exact upd_same)
 rintro P H3 ⟨_,s3,hS⟩ sd aq;rw [show L.take o.length=L by rw [show o.length=L.length by rw [hL,AK];omega,CA]] at hS;have s4:=AQ aq (.lst P);generalize ar:upd H3 sd (.lst P)=H4 at *;have an:H4 sd=some (.lst P):=by rw [<-ar];exact upd_same
 have R:=s3.trans s4;have b0:=a0.tp R;show Rl K _ _ _;obtain ⟨F,M⟩:∃ F:de,F=ls.map λl=>co (AW l) w:=⟨_,rfl⟩;refine Ag (Dg (AF rfl ⟨S,rfl,⟨_,SqL.of (R _ _ u)⟩,CompJ.lst (xs:=o) (λi ys H'=>i<=o.length/\H'=H4/\ys=(F.take i).map V.int) ⟨AY _,rfl,rfl⟩ ?_ ?_ ?_⟩))
 ·rintro i ys H' ⟨h,rfl,rfl⟩;exact ⟨h,sz (by rw [AK,BQ];omega),SqL.of (R _ _ u)⟩
 ·rintro i v ys H' hv ⟨_,rfl,rfl⟩;have h:i<o.length:=(BF.mp hv).1;obtain ⟨r,c,l,rfl,el,J,hc⟩:=b0.get hv;have O:=BC el;have ll:(AW l).length=w+1:=by rw [Ki];exact lw l O
  refine CD (AX (Bu rfl J (El _ _) (Mt (F_ ⟨1,rfl,Cl hc (sI (w:=w) (by rw [AK];exact ll) (EC ⋯)) ⟨h,rfl,?_⟩⟩))));have e0:F[i]?=some (co (AW l) w):=by rw [M,Aa,el];rfl
  rw [Ez V.int e0]
 rintro b3 H' ⟨_,rfl,rfl⟩ du b1;rw [show F.take o.length=F by rw [show o.length=F.length by rw [M,AK];omega,CA]];have s5:=AQ b1 (.lst (F.map V.int));have a3:=R.trans s5;have lL:L.length=n:=by rw [hL,AK];exact U
 have gl:∀ i,i<n->ls.getD i []∈ls:=λi h=>by rw [AI,AT ⋯];exact CT _
 refine k S sd du ls L F _ (s1.trans (s2.trans a3)) ⟨⟨o,a3 _ _ u,a0.tp a3⟩,⟨P,s5 _ _ an,hS.tp (s4.trans s5)⟩,upd_same,U,by rw [M,AK];exact U,⟨lL,λr J=>?_⟩,λr J z hz=>?_,λz hz=>?_,λl C=>?_,λi h j hj=>?_,λi h=>?_⟩
 ·rw [hL] at J;obtain ⟨l,C,rfl⟩:=Ap.mp J;rw [BQ,Ki,lw l C];omega
 ·rw [hL] at J;obtain ⟨l,C,rfl⟩:=Ap.mp J;obtain ⟨N,m,T,o3⟩:=I l C;exact ((Mu N T o3).1 z (Fs hz)).mono ∅
 ·rw [M] at hz;obtain ⟨l,C,rfl⟩:=Ap.mp hz;obtain ⟨N,m,T,o3⟩:=I l C;exact ((Mu N T o3).1 _ (Co (by rw [Ki,lw l C];omega))).mono ∅
 ·obtain ⟨N,m,T,o3⟩:=I l C;exact ⟨(De N.1).1,(Mu N T o3).2⟩
 ·have O:=gl i h;have b2:=lw _ O
  have e:en L i j=co (AW (ls.getD i [])) j:=by
   have e1:L.getD i []=(AW (ls.getD i [])).take w:=by
    rw [hL,AI,Aa,AT ⋯,AI,AT ⋯];rfl
   show (L.getD i []).getD j 0=(AW (ls.getD i [])).getD j 0;rw [e1];generalize AW (ls.getD i [])=cl;rw [AI,List.getElem?_take,nH hj,<-AI]
  rw [e,UT (I _ O).1.1 ⋯];congr 1;unfold vr vl;rw [ac i h,UK (by rw [rA _ (gA i h)];exact hj)]
 ·have O:=gl i h;have b2:=lw _ O
  have e:co F i=co (AW (ls.getD i [])) w:=by
   show F.getD i 0=_;rw [M,AI,Aa,AT ⋯,AI,AT ⋯];rfl
  rw [e,UT (I _ O).1.1 ⋯];congr 1;unfold vl;rw [ac i h,show w=(A.getD i []).length from (rA _ (gA i h)).symm,UL]
def Kj {a:de} {b:Int} (d:b≠0) {j:Nat} (c:j<a.length):vl (a.map λz=>Af z b) j=((co a j:Int):Rat) / ((b:Int):Rat):=by
 unfold vl co;rw [AI,Aa,AT c,AI,AT c];exact Fl d
def Mv {d:de} {b:Int} {c:Nat} (e:b≠0) (f:∀ z∈d,Bd c z) (g:Bd c b):FX c (d.map λz=>Af z b):=
 ⟨λq a=>by obtain ⟨z,_,rfl⟩:=Ap.mp a;exact Fk e,λq a=>by obtain ⟨z,h,rfl⟩:=Ap.mp a;exact IM e (f z h) g⟩
section
variable {H:Hp} {A:List cY} {B:cZ} {n w:Nat} {ln sd du:Addr} {ls:List cY} {L:List (de)} {ds:de}
def Eqs.bt (E:Eqs H A B n w ln sd du ls L ds) {i:Nat} (a:i<n):ls.getD i []∈ls/\((Ai (ls.getD i []):Int):Rat)≠0:=by
 have m:ls.getD i []∈ls:=by rw [AI,AT (by have:=E.ll;omega)];exact CT _
 exact ⟨m,BH (by have:=(E.b0 _ m).1;omega)⟩
def Eqs.sum (E:Eqs H A B n w ln sd du ls L ds) {i:Nat} (b:i<n) {f:de} {D:Int} (a:D≠0) (lf:f.length=w):su w (λj=>vr A i j*vl (f.map λz=>Af z D) j)*(((Ai (ls.getD i []):Int):Rat)*((D:Int):Rat))=((su w (λj=>en L i j*co f j):Int):Rat):=by
 have d:=BH a;rw [<-Cb,GA];refine AU w λj c=>?_;rw [Kj a ⋯,C8,E.eL i b j c];ext
def Eqs.zero (E:Eqs H A B n w ln sd du ls L ds) {i:Nat} (a:i<n) {f:de} {D:Int} (c:D≠0) (lf:f.length=w) (h:su w (λj=>en L i j*co f j)=0):su w (λj=>vr A i j*vl (f.map λz=>Af z D) j)=0:=by
 have e:=E.sum a c lf;have b:=(E.bt a).2;have d:=BH c;rw [h] at e;have e:su w (λj=>vr A i j*vl (f.map λz=>Af z D) j)*(((Ai (ls.getD i []):Int):Rat)*((D:Int):Rat))=0:=e;exact (domQ.mul e).resolve_right λz=>(domQ.mul z).elim b d
def Eqs.told (E:Eqs H A B n w ln sd du ls L ds) {i:Nat} (a:i<n) {f:de} {D:Int} (c:D≠0) (lf:f.length=w) (h:su w (λj=>en L i j*co f j)=co ds i*D):su w (λj=>vr A i j*vl (f.map λz=>Af z D) j)=vl B i:=by
 have e:=E.sum a c lf;have b:=(E.bt a).2;have d:=BH c;rw [h,C8,E.ed i a] at e;have g:(su w (λj=>vr A i j*vl (f.map λz=>Af z D) j) - vl B i)*(((Ai (ls.getD i []):Int):Rat)*((D:Int):Rat))=0:=by ext
 have:=(domQ.mul g).resolve_right λz=>(domQ.mul z).elim b d;ext
theorem TFs.of (E:Eqs H A B n w ln sd du ls L ds) (a:A.length=n) {H':Hp} {cs:List Nat}:∀ {xs:d8} {F:List (Nat×de×Int)},FRs H' L n w cs xs F->TFs H' w A xs (F.map λq=>q.2.1.map λz=>Af z q.2.2)
 | [],[],_=>trivial
 | _::_,q::_,h=>⟨let ⟨u,b,e,c,d,f⟩:=h.1;⟨u,b,e,c,d,by rw [AK];exact f.lf,Mv (Ab f.d0) f.bf f.bD,λi g=>E.zero ⋯ (Ab f.d0) f.lf (f.sol i ⋯)⟩,TFs.of E a h.2⟩
 | [],_::_,h=>h.elim
 | _::_,[],h=>h.elim
end
theorem TFs.tp {H H':Hp} {w:Nat} {A:List cY} (t:Tp H H'):∀ {xs:d8} {F:List cY},TFs H w A xs F->TFs H' w A xs F
 | [],[],_=>trivial
 | _::_,_::_,h=>⟨let ⟨u,a,e,b,c,f⟩:=h.1;⟨u,a,e,t _ _ b,c.tp t,f⟩,TFs.tp t h.2⟩
 | [],_::_,h=>h.elim
 | _::_,[],h=>h.elim
theorem FRs.get {H:Hp} {L:List (de)} {n w:Nat} {cs:List Nat}:∀ {xs:d8} {F:List (Nat×de×Int)},FRs H L n w cs xs F->∀ q∈F,Fre L n w cs q.1 q.2.1 q.2.2
 | [],[],_,_,h=>nomatch h
 | _::_,p::_,h,q,a=>by
   rcases Ep.mp a with e | e
   ·rw [e];obtain ⟨_,_,_,_,_,f⟩:=h.1;exact f
   ·exact FRs.get h.2 q e
 | [],_::_,h,_,_=>h.elim
 | _::_,[],h,_,_=>h.elim
def UU {K:W.Frag} {H:Hp} {Q:VK} {a:Addr} {L:List (de)} {n w p:Nat} (h:SD H a L) (R:Rect L n w) (i:n<=50) (j:w<=50) (q:Pr p) (r:Bd 45000 (p:Int))
  (k:∀ (x:Addr) (os cs:List Nat) (M T:List (de)) (y z m t:Addr) (H':Hp),Same H H'->Cor (B8 K) H' x L n w p os cs M T y z m t->Q (.ref x) H') :
  ∀ x d,H x=none->H d=none->d≠x->Gk K (.ref x::([.ref a,.int (p:Int)]++[])) (upd (upd H d (.own x)) x (.ins (B8 K) d [])) (λv u=>v=.non/\Q (.ref x) u) E0:=λx d g f B=>by
 have s:∀ b o,H b=some o->upd (upd H d (.own x)) x (.ins (B8 K) d []) b=some o:=λb o e=>by
  rw [Au (Ax e g),Au (Ax e f)];exact e
 exact ⟨x,a,d,L,n,w,p,rfl,upd_same,h.tp s,R,i,j,q,r,λos cs M T y z m t H' A c=>⟨rfl,k x os cs M T y z m t H' (λb o e=>A b o (Ax e g) (s b o e)) c⟩⟩
def FrO (H:Hp) (L:List (de)) (n w:Nat) (os cs:List Nat) (v:V):Prop:=(v=.non/\KN L n w os)\/∃ r a F,v=.ref r/\H r=some (.lst a)/\FRs H L n w cs a F/\F.map (λq=>q.1)=W_ w cs
def sK:bX=2147483647:=by decide
def sM:Ey=170141183460469231731687303715884105727:=by decide
def cE {p:Nat} {b:Nat} (h:p<2 ^ 130) (a:130<=b):Bd b (p:Int):=by
 have:Bd 130 (p:Int):=by unfold Bd;rw [Cr];exact h
 exact this.mono a
def ai:Pr Ey:=O6
def UV {L:List (de)} {n w p:Nat} {os cs:List Nat} {M T:List (de)} {F:List (Nat×de×Int)} {W:de} (c:CorM L n w p os cs M T) (v:∀ q∈F,Fre L n w cs q.1 q.2.1 q.2.2) (x:F.map (λq=>q.1)=W_ w cs) (r:∀ s,s<os.length->su n (λj=>co W j*en L j (nth cs s))=0) {j:Nat} (k:j<w):su n (λi=>co W i*en L i j)=0:=by
 by_cases b:j∈cs
 ·obtain ⟨s,a,rfl⟩:=E2 b;exact r s (by have:=c.lc;omega)
 ·have u:j∈W_ w cs:=by unfold W_;exact List.mem_filter.mpr ⟨C5.mpr k,nI b⟩
  rw [<-x] at u;obtain ⟨q,y,rfl⟩:=Ap.mp u;have f:=v q y
  have m:su w (λj=>su n (λi=>co W i*en L i j)*co q.2.1 j)=0:=by
   rw [AU (g:=λj=>su n λi=>co W i*(en L i j*co q.2.1 j)) w λj _=>by rw [<-Cb];exact AU n λi _=>C7 ..,Dv];exact CK λi z=>by rw [BO,f.sol i z,Ec]
  have o:cs.Nodup:=c.cu.imp λh=>BZ h
  rw [Ms (d:=cs.length) (c:=nth cs) (q:=q.1) (f:=co q.2.1) (λj=>su n λi=>co W i*en L i j) (λs a=>c.cl _ (CQ a)) (λs t a A e=>JE o a A e) k (λs a e=>b (by rw [<-e];exact CQ a)) (λj k m B=>f.zer j k (λb=>by
   obtain ⟨s,a,e⟩:=E2 b;exact m s a e) B),CK (n:=cs.length) (λs a=>by rw [r s (by have:=c.lc;omega),D2]),Int.zero_add,f.one] at m
  exact (Eb.mp m).resolve_right (Ab f.d0)
def sN {L:List (de)} {n w:Nat} {os:List Nat} {W b a:de} {B i:Int} {q:Nat} (d:∀ j,j<w->su n (λi=>co W i*en L i j)=0) (h:q<n) (k:co W q≠0) (m:∀ j,j<n->j∉os->j≠q->co W j=0) (p:∀ o∈os,su w (λj=>en L o j*co a j)=co b o*B) (r:su w (λj=>en L q j*co a j)≠co b q*B) (x:q∉os):su n (λi=>co W i*co b i)≠0:=λz=>by
 have c:su n (λi=>co W i*(su w (λj=>en L i j*co a j) - co b i*B))=0:=by
  rw [AU (g:=λi=>su w (λj=>co W i*en L i j*co a j) - co W i*co b i*B) n λi _=>by
   rw [Int.mul_sub,<-BO,AU (f:=λj=>co W i*(en L i j*co a j)) (g:=λj=>co W i*en L i j*co a j) w λj _=>(C7 ..).symm];ext,Fq,Dv,Cb,z,CK (n:=w) (λj u=>by rw [Cb,d j u,D2])]
  omega
 rw [AU (g:=λi=>(λi=>co W i*(su w (λj=>en L i j*co a j) - co b i*B)) i*dl i q) n λi v=>by
  unfold dl;by_cases e:i=q
  ·rw [nH e,Int.mul_one]
  ·rw [nG e,Ec];by_cases o:i∈os
   ·rw [p i o,Int.sub_self,Ec]
   ·rw [m i v o e,D2],Ex (λi=>co W i*(su w (λj=>en L i j*co a j) - co b i*B)),nH h] at c
 rcases Eb.mp c with y | y
 ·exact k y
 ·exact r ⋯
theorem UW:∀ (k:Nat) (v:dL),∃ (D:Int) (x:dI),D≠0/\∀ j,j<k->v j*(D:Rat)=(x j:Rat)
 | 0,_=>⟨1,λ_=>0,∅,λj h=>absurd h (BS j)⟩
 | k+1,v=>by
   obtain ⟨D,x,a,e⟩:=UW k v;have d:=(v k).den_nz;have h:=Rat.num_divInt_den (v k);rw [Rat.divInt_eq_div] at h;have b:(((v k).den:Int):Rat)≠0:=BH ⋯;refine ⟨D*((v k).den:Int),λj=>if j=k then (v k).num*D else x j*((v k).den:Int),CG a ⋯,λj c=>?_⟩;show v j*((D*((v k).den:Int):Int):Rat)=(((if j=k then (v k).num*D else x j*((v k).den:Int)):Int):Rat);rw [C8];by_cases q:j=k
   ·rw [nH q,q,C8];ext
   ·rw [nG q,C8,<-e j ⋯];ext
def PL.at {A:List cY} {i:Nat} (h:i<A.length):PL A (λj=>vr A i j):=⟨A.getD i [],by rw [AI,AT h];exact CT _,rfl⟩
def PL.get {A:List cY} {u:dL} (h:PL A u):∃ i,i<A.length/\∀ j,u j=vr A i j:=by
 obtain ⟨l,b,rfl⟩:=h;obtain ⟨i,a,rfl⟩:=Ed.mp b;exact ⟨i,a,λj=>by unfold vr;rw [AI (l:=A),AT a];rfl⟩
section
variable {L:List (de)} {n w p:Nat} {os cs:List Nat} {M T:List (de)} {F:List (Nat×de×Int)}
def sO (c:CorM L n w p os cs M T) (u:2<=p) (v:∀ q∈F,Fre L n w cs q.1 q.2.1 q.2.2) (y:F.map (λq=>q.1)=W_ w cs) {i:Nat} (A:i<n):∃ (e:Int) (z:dI),e≠0/\∀ j,j<w->e*en L i j=su os.length (λt=>z t*en L (nth os t) j):=by
 obtain ⟨g,⟨m,B,k⟩,C⟩:=bh Zl os.length (os.length+1) (λt s=>if t=os.length then en L i (nth cs s) else en L (nth os t) (nth cs s)) ⋯
 have o:∀ s,s<os.length->su os.length (λt=>g t*en L (nth os t) (nth cs s))+g os.length*en L i (nth cs s)=0:=λs b=>by
  have h:su os.length (λt=>g t*(if t=os.length then en L i (nth cs s) else en L (nth os t) (nth cs s)))+g os.length*(if os.length=os.length then en L i (nth cs s) else _)=0:=C s b;rw [nH rfl,AU (g:=λt=>g t*en L (nth os t) (nth cs s)) os.length λt d=>by rw [nG ⋯]] at h;exact h
 have D:g os.length≠0:=λz=>k (by
  by_cases q:m=os.length
  ·rw [q];exact z
  ·refine c.inv.flip.null u (x:=g) (λs b=>?_) m ⋯;have:=o s b;rw [z,D2,Int.add_zero] at this;rw [AU (g:=λt=>g t*en L (nth os t) (nth cs s)) os.length λt d=>by rw [c.eM t d s b,Cq]];exact this)
 obtain ⟨W,G⟩:∃ W:de,W=(List.range n).map λa=>su os.length (λt=>g t*dl (nth os t) a)+g os.length*dl i a:=⟨_,rfl⟩
 have I:∀ a,a<n->co W a=su os.length (λt=>g t*dl (nth os t) a)+g os.length*dl i a:=λa h=>by
  show W.getD a 0=_;rw [G,Gv _ _ h]
 have r:∀ f:dI,su n (λa=>co W a*f a)=su os.length (λt=>g t*f (nth os t))+g os.length*f i:=λf=>by
  rw [AU (g:=λa=>su os.length (λt=>g t*dl (nth os t) a)*f a+g os.length*(dl i a*f a)) n λa h=>by rw [I a h];ext,Fo,BO,F9 f A,J4 (λt d=>c.ol _ (CQ d)) g f]
 refine ⟨g os.length,λt=>- g t,D,λj J=>?_⟩;have h:=UV (W:=W) c v y (λs b=>by rw [r λi=>en L i (nth cs s)];exact o s b) J;rw [r λi=>en L i j] at h;rw [AU (g:=λt=>(-1)*(g t*en L (nth os t) j)) os.length λt _=>by ext,BO];omega
def sP (c:CorM L n w p os cs M T) (b:2<=p):aK w os.length λt j=>((en L (nth os t) j:Int):Rat):=λv h t a=>by
 obtain ⟨D,x,d,e⟩:=UW os.length v
 have f:∀ t,t<os.length->x t=0:=c.inv.flip.null b (x:=x) λs i=>by
  refine HW ?_;have:=congrArg (λy:Rat=>y*(D:Rat)) (h (nth cs s) (c.cl _ (CQ (by have:=c.lc;omega))));simp only [<-Cb] at this;rw [GA,AU (g:=λt=>v t*((en L (nth os t) (nth cs s):Int):Rat)*(D:Rat)) os.length λt a=>by rw [C8,<-e t a,c.eM t a s i];ext,this];ext
 have:=e t a;rw [f t a] at this;exact (domQ.mul (show v t*(D:Rat)=0 from this)).resolve_right (BH d)
end
def UX (w:Nat) (cs:List Nat):(W_ w cs).Nodup:=List.Pairwise.filter _ List.nodup_range
def frC_mem {w:Nat} {cs:List Nat} {j:Nat}:j∈W_ w cs↔j<w/\j∉cs:=by unfold W_;rw [List.mem_filter,C5];exact and_congr_right λ_=>⟨nJ,nI⟩
def sQ {w:Nat} {cs:List Nat} (c:cs.Nodup) (d:∀ j∈cs,j<w):cs.length+(W_ w cs).length=w:=by
 have h:(cs++W_ w cs).Perm (List.range w):=(List.perm_ext_iff_of_nodup (List.nodup_append.mpr ⟨c,UX w cs,λa f b g e=>(frC_mem.mp g).2 (e ▸ f)⟩) List.nodup_range).mpr λj=>by
  rw [CS,frC_mem,C5];exact ⟨λh=>h.elim (d j) λz=>z.1,λh=>Classical.byCases (λz:j∈cs=>.inl z) λz=>.inr ⟨h,z⟩⟩
 have:=h.length_eq;rw [CL,A4] at this;exact this
section
variable {H:Hp} {A:List cY} {B:cZ} {n w:Nat} {ln sd du:Addr} {ls:List cY} {L:List (de)} {ds:de} {p:Nat} {os cs:List Nat} {M T:List (de)}
def sR {F:List (Nat×de×Int)} (E:Eqs H A B n w ln sd du ls L ds) (O:A.length=n) (c:CorM L n w p os cs M T) (r:2<=p) (y:∀ q∈F,Fre L n w cs q.1 q.2.1 q.2.2) (C:F.map (λq=>q.1)=W_ w cs):Rk w (PL A) os.length:=by
 obtain ⟨m,x⟩:∃ m:dL,∀ i,m i=((Ai (ls.getD i []):Int):Rat):=⟨_,λ_=>rfl⟩;have k:∀ i,i<n->m i≠0:=λi b=>by rw [x];exact (E.bt b).2
 have o:∀ i,i<n->∀ j,j<w->((en L i j:Int):Rat)=vr A i j*m i:=λi b j d=>by rw [x];exact E.eL i b j d
 have f:∀ t,t<os.length->nth os t<n:=λt a=>c.ol _ (CQ a);refine ⟨λt j=>vr A (nth os t) j,λv h t a=>?_,λt a=>.of 1 (PL.at (i:=nth os t) (by have:=f t a;omega)) λj _=>(Rat.one_mul _).symm,λu D=>?_⟩
 ·have:=sP c r (λt=>v t / m (nth os t)) (λj d=>by
   rw [AU (g:=λt=>v t*vr A (nth os t) j) os.length λt a=>by
    show v t / m (nth os t)*((en L (nth os t) j:Int):Rat)=_;rw [o _ (f t a) j d];have:=k _ (f t a);grind]
   exact h j d) t a
  have q:=k _ (f t a);ext
 ·obtain ⟨i,b,G⟩:=D.get;have b:i<n:=by omega
  obtain ⟨e,z,I,J⟩:=sO c r y C b;have P:=BH I;have R:=k i b;refine ⟨λt=>(z t:Rat)*m (nth os t) / ((e:Rat)*m i),λj d=>?_⟩
  have N:(e:Rat)*(vr A i j*m i)=su os.length λt=>(z t:Rat)*m (nth os t)*vr A (nth os t) j:=by
   rw [<-o i b j d,<-C8,J j d,GA];exact AU os.length λt a=>by rw [C8,o _ (f t a) j d];ext
  rw [G,AU (g:=λt=>(z t:Rat)*m (nth os t)*vr A (nth os t) j*((e:Rat)*m i)⁻¹) os.length λt _=>by ext,Cb,<-N];ext
def sU {F:List (Nat×de×Int)} (r:∀ q∈F,Fre L n w cs q.1 q.2.1 q.2.2) (y:F.map (λq=>q.1)=W_ w cs):Rk w (PL (F.map λq=>q.2.1.map λz=>Af z q.2.2)) (F.map λq=>q.2.1.map λz=>Af z q.2.2).length:=by
 obtain ⟨G,k⟩:∃ G,G=F.map λq:Nat×de×Int=>q.2.1.map λz=>Af z q.2.2:=⟨_,rfl⟩;rw [<-k];have O:G.length=F.length:=by rw [k,AK]
 have c:∀ u,u<F.length->∃ q,F[u]?=some q/\Fre L n w cs q.1 q.2.1 q.2.2/\(W_ w cs)[u]?=some q.1/\∀ j,j<w->vr G u j=((co q.2.1 j:Int):Rat) / ((q.2.2:Int):Rat):=λu b=>by
  have f:=r _ (CT b);refine ⟨F[u],AT b,f,by rw [<-y,Aa,AT b];rfl,λj C=>?_⟩;unfold vr;rw [show G.getD u []=F[u].2.1.map λz=>Af z F[u].2.2 by rw [k,AI,Aa,AT b];rfl];exact Kj (Ab f.d0) (by have:=f.lf;omega)
 refine ⟨λu j=>vr G u j,λv h u b=>?_,λu b=>.of 1 (PL.at b) λj _=>(Rat.one_mul _).symm,λx D=>?_⟩
 ·obtain ⟨q,_,f,m,P⟩:=c u ⋯;have:=h q.1 f.qw
  rw [AU (g:=λt=>v t*dl t u) G.length λt R=>by
   obtain ⟨I,_,d,a,o⟩:=c t ⋯;show v t*vr G t q.1=v t*dl t u;rw [o q.1 f.qw];unfold dl;by_cases e:t=u
   ·rw [nH e];rw [e,m] at a;have J:q.1=I.1:=by injection a
    rw [J,d.one];have:=BH (Ab d.d0);ext
   ·rw [nG e,d.zer q.1 f.qw f.qc λz=>e ?_]
    ·have:=BH (Ab d.d0);show v t*(((0:Int):Rat) / _)=v t*0;ext
    ·rw [z,<-a] at m;exact (List.getElem?_inj (BF.mp a).1 (UX w cs)).mp m.symm,Ex v,nH b] at this
  exact this
 ·obtain ⟨i,N,e⟩:=D.get;refine ⟨λt=>dl i t,λj C=>?_⟩;rw [F9 (λt=>vr G t j) N];exact e j
def sV {H':Hp} {e:d8} {F:List (Nat×de×Int)} (E:Eqs H A B n w ln sd du ls L ds) (f:A.length=n) (c:CorM L n w p os cs M T) (g:2<=p) (j:w<=10) (d:FRs H' L n w cs e F) (a:F.map (λq=>q.1)=W_ w cs):Wh A w (F.map λq=>q.2.1.map λz=>Af z q.2.2):=by
 have b:cs.Nodup:=c.cu.imp λh=>BZ h;have i:F.length=(W_ w cs).length:=by rw [<-a,AK]
 refine ⟨os.length,?_,sR E f c g d.get a,sU d.get a⟩
 ·rw [AK,i,<-c.lc];exact sQ b c.cl
end
def sX {C:Addr} {sp:Sp} {E:XK} {d e:TE} {b:L2.St} {H:Hp} {Q:VK} (h:d b H λu f=>e b f λv c=>∀ x a,c x=none->c a=none->a≠x->sp (.ref x::([u,v]++[])) (upd (upd c a (.own x)) x (.ins C a [])) (λy g=>y=.non/\Q (.ref x) g) E):G9 C sp [] E (AC d (AC e AD)) b H Q:=h
def sY {K:W.Frag} (X:ClsOk K (B8 K)) {vs:d8} {H:Hp} {Q:VK} {E:XK} (h:KO K vs H Q E):Ro K { nx:=λ_ C=>Q .non C,rt:=Q } (L2.start ["rows","due","lines","sides","dues","core","frees","solution","row","place","side","weights","wholes"] vs) H:=by
 obtain ⟨a,b,xs,ys,A,B,n,w,rfl,ha,hb,hA,hB,lA,lB,rA,nw,n1,w1,ok,kT,kN⟩:=h;refine sJ ha hb hA hB lA lB rA n1 w1 ok λln sd du ls L ds H1 s1 E1=>?_;have R:=E1.rL;have bL:=E1.bL;obtain ⟨D,d0,dD,ar⟩:=tX R bL w1;obtain ⟨g,pg,cp,bv,gD⟩:=Zu d0 dD;have cq:=sK;have b0:=sM;have bw:g<2 ^ 45000:=Nat.lt_trans bv (Nat.pow_lt_pow_right ∅ ∅);have bg:∀ p:Nat,p=Ey\/p<=g->p<2 ^ 130:=λp hp=>by omega
 have frees:∀ {x y z m t:Addr} {p:Nat} {os J:List Nat} {M T:List (de)} {C:Hp} {Q':VK},Same H1 C->Cor (B8 K) C x L n w p os J M T y z m t->Pr p->p<2 ^ 130->(∀ v H2,Same C H2->FrO H2 L n w os J v->Q' v H2)->Ii K [.ref sd,.ref x] C Q' E0:=λ{x y z m t p os J M T C Q'} s c pp pb k=>
  ⟨sd,x,y,z,m,t,L,M,T,n,w,p,os,J,rfl,E1.hs.tp s,R,nw,n1,w1,bL,pp.two,cE pb ∅,c,λH2 s2 no=>k _ H2 s2 (.inl ⟨rfl,no⟩),λr xs F H2 s2 hr hF eF=>k _ H2 s2 (.inr ⟨r,xs,F,rfl,hr,hF,eF⟩)⟩
 refine Ag (show G9 _ _ _ _ _ _ _ _ from ⟨_,rfl,?_⟩);show ∀ x Y,H1 x=none->H1 Y=none->Y≠x->Gk K (.ref x::([.ref sd,.int 170141183460469231731687303715884105727]++[])) _ _ _;rw [show (170141183460469231731687303715884105727:Int)=(Ey:Int) by rw [b0];rfl];refine UU (Q:=λv C=>MT K { nx:=λ_ C=>Q .non C,rt:=Q } [some (.ref a),some (.ref b),some (.ref ln),some (.ref sd),some (.ref du),some v,none,none,none,none,none,none,none] C) E1.hs R ⋯ ⋯ ai (cE (bg _ (.inl rfl)) ∅) λx os J M T y z m t H2 s2 c2=>?_;show MT K _ _ _;refine Gf (AF rfl (AF rfl (frees s2 c2 ai (bg _ (.inl rfl)) λv H3 s3 f3=>?_)));show Ri K _ _ _;refine Ff (DJ (λmm σ C=>∃ (x y z m t:Addr) (p:Nat) (os J:List Nat) (M T:List (de)) (v:V),σ=[some (.ref a),some (.ref b),some (.ref ln),some (.ref sd),some (.ref du),some (.ref x),some v,none,none,none,none,none,none]/\Same H1 C/\Cor (B8 K) C x L n w p os J M T y z m t/\Pr p/\(p=Ey/\mm=g+1\/p≠Ey/\bX<=p/\p<=g/\mm=g - p)/\FrO C L n w os J v) (g+1) ⟨x,y,z,m,t,Ey,os,J,M,T,v,rfl,s2.trans s3,c2.tp s3,ai,.inl ⟨rfl,rfl⟩,f3⟩ ?_);rintro mm σ H4 ⟨x,y,z,m,t,p,os,J,M,T,v,rfl,s4,c4,pp,hp,f4⟩;obtain ⟨Y,fs,O,fo⟩:=c4.at';have c:=c4.c;have pb:p<2 ^ 130:=bg p (by rcases hp with q | q;exact .inl q.1;exact .inr q.2.2.1);refine ⟨_,rfl,rfl,_,rfl,Ah (λq=>?_) (λq=>?_)⟩
 ·-- another prime
  have no:KN L n w os:=by
   rcases f4 with ⟨_,h⟩ | ⟨r,_,_,e,_⟩
   ·exact h
   ·rw [e] at q;cases nJ q
  have cr:p≠g:=λe=>by
   have:=Classical.byContradiction λnd=>ar p os J M T c pp nd no;exact gD (by rw [<-e];exact this)
  refine ⟨_,λ_ _ h=>h,?_⟩;show RZ K _ _ _;refine Ag (sX (AF rfl (Df (C0 (AF rfl ⟨x,B8 K,Y,fs,_,rfl,O,X.cl,X.a1,fo.f1,p,g,rfl,pg,?_,bw,⋯,λp' aj b1 b2=>?_⟩)))))
  ·rcases hp with q | q
   ·exact .inl q.1
   ·exact .inr ⋯
  show ∀ x Y,H4 x=none->H4 Y=none->Y≠x->Gk K (.ref x::([.ref sd,.int (p':Int)]++[])) _ _ _;have b3:=bg p' (.inr b2);refine UU (Q:=λv C=>MS K _ [some (.ref a),some (.ref b),some (.ref ln),some (.ref sd),some (.ref du),some v,some _,none,none,none,none,none,none] C) (E1.hs.tp s4) R ⋯ ⋯ aj (cE b3 ∅) λx os J M T y z m t H5 s5 c5=>?_;show MS K _ _ _;refine PH (A9 (AF rfl (AF rfl (frees (s4.trans s5) c5 aj b3 λv H6 s6 f6=>⟨g - p',?_,x,y,z,m,t,p',os,J,M,T,v,rfl,(s4.trans s5).trans s6,c5.tp s6,aj,.inr ⟨⋯,?_,b2,rfl⟩,f6⟩))))
  ·rcases hp with q | q <;> rcases b1 with r | r <;> omega
  ·rcases b1 with r | r
   ·omega
   ·rcases hp with q | q
    ·exact absurd q.1 r.1
    ·omega
 ·-- solved by this one
  have fr:∃ r xs F,v=.ref r/\H4 r=some (.lst xs)/\FRs H4 L n w J xs F/\F.map (λq=>q.1)=W_ w J:=by
   rcases f4 with ⟨e,_⟩ | h
   ·exact absurd (nI e) q
   ·exact h
  obtain ⟨fr,gs,F,rfl,bx,hF,eF⟩:=fr;clear q f4;have E4:=E1.tp s4;have lc:=c.lc;have ol:=c.ol;have cl:=c.cl;have dw:os.length<=10:=by have:=Mr c.cu c.cl;omega
  have b4:J.Nodup:=c.cu.imp λh=>BZ h;have ldn:=E4.ld;show Rh K _ _ _;refine Ag (Jx (C0 (AF rfl ⟨x,B8 K,Y,fs,_,rfl,O,X.cl,X.a4,fo.f4,C0 (AF rfl ⟨x,B8 K,Y,fs,_,rfl,O,X.cl,X.a5,fo.f5,A9 (AF rfl (C0 (AF rfl ⟨x,B8 K,Y,fs,_,rfl,O,X.cl,X.a2,fo.f2,du,y,ds,os,rfl,E4.hd,c4.hy,λi G=>by rw [ldn];exact ol i G,⋯,λpk bz=>?_⟩)))⟩)⟩)));obtain ⟨bs,a3⟩:∃ bs,bs=os.map (co ds):=⟨_,rfl⟩;rw [<-a3];have c0:bs.length=os.length:=by rw [a3,AK]
  have c1:∀ t,t<os.length->co bs t=co ds (nth os t):=λt ht=>by
   show bs.getD t 0=_;rw [a3,AI,Aa,AT ht,E3 ht];rfl
  have c3:∀ z∈bs,Bd 4000 z:=λz hz=>by
   rw [a3] at hz;obtain ⟨o,ho,rfl⟩:=Ap.mp hz;exact E4.bd _ (Co (by rw [ldn];exact ol o ho))
  have s5:=AQ bz (.lst (bs.map V.int));generalize c8:upd H4 pk (.lst (bs.map V.int))=H5 at *;have b5:H5 pk=some (.lst (bs.map V.int)):=by rw [<-c8];exact upd_same
  have c5:=c4.tp s5;refine C0 (AF rfl ⟨x,B8 K,Y,fs,_,rfl,s5 _ _ O,X.cl,X.a1,fo.f1,m,t,pk,M,T,bs,os.length,p,rfl,c5.hm,c5.ht,b5,c.rM,c.rT,c0,dw,pp.two,cE pb ∅,c.iT,c.inv,c.bM R bL,c3,λso yy zs B' H6 s6 b6 c9 ct B0 bB cb cc=>?_⟩);have c6:=c5.tp s6;have al:=s5.trans s6;have cd:=al _ _ O;have E6:=E4.tp al;have am:B'≠0:=by omega
  show Rg K _ _ _;refine Ag (HU (C0 (AF rfl ⟨x,B8 K,Y,fs,_,rfl,cd,X.cl,X.a3,fo.f3,Bu rfl b6 (El _ _) (Df (AF rfl ⟨sd,L,n,w,rfl,E6.hs,R,nw,z,yy,J,zs,w,rfl,c6.hz,c9,⋯,cl,b4,⋯,λro Z H7 s7 cu b7 an r1 r0=>?_⟩))⟩)));have b9:=al.trans s7;have P:=E6.tp s7;have c7:=c6.tp s7
  have ba:∀ z∈Z,Bd 250000 z:=λzz hz=>by
   obtain ⟨j,hj,rfl⟩:=Ed.mp hz;have e:Z[j]=co Z j:=by unfold co;rw [AI,AT hj];rfl
   rw [e];by_cases jc:j∈J
   ·obtain ⟨s,hs,rfl⟩:=E2 jc;rw [r1 s hs];exact cb _ (Co ⋯)
   ·rw [r0 j λs hs e=>jc (by rw [<-e];exact CQ hs)];exact Cj _
  have a0:∀ o∈os,su w (λj=>en L o j*co Z j)=co ds o*B':=λo ho=>by
   obtain ⟨tt,ht,rfl⟩:=E2 ho;rw [tZ (d:=os.length) (c:=nth J) (f:=co Z) (λj=>en L (nth os tt) j) (λs hs=>cl _ (CQ ⋯)) (λs t hs ht e=>JE b4 ⋯ ⋯ e) (λj hj h1=>r0 j λs hs=>h1 s ⋯),AU (g:=λs=>en M tt s*co zs s) os.length λs hs=>by rw [c.eM tt ht s hs,r1 s ⋯],cc tt ht,c1 tt ht]
  have ac:=s7 _ _ b6;obtain ⟨ws,bb,bc⟩:=P.hs;have ce:=bc.length;have wn:ws.length=n:=by rw [ce,R.1]
  show Rf K _ _ _;refine (show Ay (Fz K _) _ _ _ _ _ from ⟨_,rfl,sd,rfl,⟨_,SqL.of bb⟩,ForJ.enumL (xs:=ws) (λi σ C=>∃ x9 a4,σ=[some (.ref a),some (.ref b),some (.ref ln),some (.ref sd),some (.ref du),some (.ref x),some (.ref fr),some (.ref so),some (.ref ro),x9,a4,none,none]/\Same H7 C/\∀ t,t<i->su w (λj=>en L t j*co Z j)=co ds t*B') ⟨none,none,rfl,Same.refl H7,λt h=>absurd h (BS t)⟩ ?_ ?_ ?_⟩)
  ·rintro i σ C _ ⟨x9,a4,rfl,s,_⟩;exact SqL.of (s _ _ bb)
  ·rintro i v q σ H8 hv ⟨x9,a4,rfl,s8,I⟩ hq;have G:i<ws.length:=(BF.mp hv).1;have bd:i<n:=by omega
   obtain ⟨r,rr,rfl,er,hr⟩:=bc.get hv;have eg:L.getD i []=rr:=by rw [AI,er];rfl
   have rm:=BC er;have s9:=AQ hq (.tup [.int (i:Int),.ref r]);refine ⟨q,_,rfl,upd_same,rfl,_,_,rfl,_,_,rfl,rfl,?_⟩;generalize cw:upd H8 q (.tup [.int (i:Int),.ref r])=H9 at *;have ao:=s8.trans s9;refine Gw (Dh (AX (A9 (AF rfl (AF rfl ⟨r,ro,rr,Z,w,rfl,ao _ _ hr,ao _ _ b7,R.2 rr rm,an,⋯,λz hz=>(bL rr rm z hz).mono ∅,λz hz=>(ba z hz).mono ∅,λHA sA=>?_⟩)))));have S:=ao.trans sA;have cf:co ds i∈ds:=Co ⋯;refine AX (AX (AF rfl (AF rfl (Cl (S _ _ P.hd) (DP (EC ⋯)) (Bu rfl (S _ _ ac) (Dd _ _) ⟨_,_,rfl,rfl,Bf (E4.bd _ cf) bB,rfl,_,rfl,Ah (λq=>?_) (λq=>?_)⟩)))))
   ·-- none
    have ne:su w (λj=>en L i j*co Z j)≠co ds i*B':=by
     have q:su w (λi=>co rr i*co Z i)≠co ds i*B':=by simpa using q
     unfold en;rw [eg];exact q
    have io:i∉os:=λh=>ne (a0 i h);show Rc K _ _ _;refine Lm (AF rfl (AF rfl (AF rfl ⟨sd,x,y,z,m,t,L,M,T,n,w,p,os,J,i,rfl,P.hs.tp S,R,n1,w1,bL,pp.two,cE pb ∅,c7.tp S,bd,io,λwr wu W BW HB sB be bf lW cz ch bW Wi W0 zc=>?_⟩)));have bi:=S.trans sB;have U:BW≠0:=by omega
    obtain ⟨zl,bj,bk⟩:=(P.tp bi).hl;have d1:=bk.length;have d2:=P.ll;obtain ⟨N,a5⟩:∃ N:de,N=(List.range n).map λi=>co W i*Ai (ls.getD i []):=⟨_,rfl⟩;have bm:N.length=n:=by rw [a5,AK,A4]
    show Rb K _ _ _;refine Ag (Ho (Bu rfl be (El _ _) ⟨_,rfl,wu,ln,rfl,⟨_,SqL.of bf⟩,⟨_,SqL.of bj⟩,CompJ.zip (xs:=W.map V.int) (ys:=zl) (by rw [AK];omega) (λi zs C=>i<=n/\Same HB C/\zs=(N.take i).map V.int) ⟨AY _,Same.refl HB,rfl⟩ ?_ ?_ ?_⟩))
    ·rintro i zs C ⟨G,s,rfl⟩;exact ⟨by rw [AK];omega,sz (by rw [AK,BQ];omega),SqL.of (s _ _ bf),SqL.of (s _ _ bj)⟩
    ·rintro i v u zs C q hv hu ⟨_,s,rfl⟩ hq;have G:i<W.length:=by have:=(BF.mp hv).1;rw [AK] at this;exact this
     rw [EC G] at hv;cases hv;obtain ⟨r,c',l,rfl,el,hr,_⟩:=bk.get hu;have gl:ls.getD i []=l:=by rw [AI,el];rfl
     have bl:=P.b0 l (BC el);have s2:=AQ hq (.tup [.int (co W i),.ref r]);refine ⟨q,_,rfl,upd_same,rfl,_,_,rfl,_,_,rfl,rfl,?_⟩;refine AX (AF rfl (Bu rfl (s2 _ _ (s _ _ hr)) (Dd _ _) ⟨_,_,rfl,rfl,Bf (bW _ (Co G)) bl.2,⋯,s.trans s2,?_⟩));have e0:N[i]?=some (co W i*Ai l):=by rw [a5,Aa,CV ⋯,<-gl];rfl
     rw [Ez V.int e0]
    rintro d3 HC ⟨_,sC,rfl⟩ wl ci;rw [AK,lW,show N.take n=N by rw [<-bm,CA]];have sD:=AQ ci (.lst (N.map V.int));generalize cj:upd HC wl (.lst (N.map V.int))=HD at *;have bp:HD wl=some (.lst (N.map V.int)):=by rw [<-cj];exact upd_same
    have bq:=sC.trans sD
    have ck:∀ z∈N,Bd 260000 z:=λz hz=>by
     rw [a5] at hz;obtain ⟨i,G,rfl⟩:=Ap.mp hz;have G:=C5.mp G;exact ((bW _ (Co ⋯)).mul (P.b0 _ (P.bt G).1).2).mono ∅
    show Ra K _ _ _;refine BY (DT (F_ (A9 (AF rfl (Bu rfl (bq _ _ be) (Dd _ _) ⟨wl,N,BW,rfl,bp,⋯,U,λu us HE sE hu hN=>⟨Cn,λrr ap=>?_⟩⟩)))));have sF:=AQ ap (.tup [.str "none", .ref u]);have zW:∀ j,j<w->su n (λi=>co W i*en L i j)=0:=λj hj=>UV c hF.get eF zc hj
    have br:∀ i,i<n->((co N i:Int):Rat)=((co W i:Int):Rat)*((Ai (ls.getD i []):Int):Rat):=λi G=>by
     have:co N i=co W i*Ai (ls.getD i []):=by
      show N.getD i 0=_;rw [a5,Gv _ _ G]
     rw [this,C8]
    have cm:=BH U;have bt:Same H (upd HE rr (.tup [.str "none", .ref u])):=(s1.trans (s4.trans (b9.trans (bi.trans (bq.trans (sE.trans sF))))));refine kN rr u us (N.map λz=>Af z BW) _ ⋯ bt upd_same (sF _ _ hu) (hN.tp (L' sF)) (by rw [AK];exact bm) (Mv U ck (ch.mono ∅)) (λj hj=>?_) ?_
    ·have e:su n (λi=>vr A i j*vl (N.map λz=>Af z BW) i)*((BW:Int):Rat)=((su n (λi=>co W i*en L i j):Int):Rat):=by
      rw [<-Cb,GA];refine AU n λi G=>?_;rw [Kj U ⋯,br i G,C8,P.eL i G j hj];ext
     rw [zW j hj] at e;exact (domQ.mul (show _*((BW:Int):Rat)=0 from e)).resolve_right cm
    ·have e:su n (λi=>vl B i*vl (N.map λz=>Af z BW) i)*((BW:Int):Rat)=((su n (λi=>co W i*co ds i):Int):Rat):=by
      rw [<-Cb,GA];refine AU n λi G=>?_;rw [Kj U ⋯,br i G,C8,P.ed i G];ext
     intro z0;rw [z0,Rat.zero_mul] at e;exact sN (B:=B') (i:=0) zW bd (by rw [Wi];exact U) W0 a0 ne io (HW e.symm)
   ·have q:su w (λi=>co rr i*co Z i)=co ds i*B':=by simpa using q
    refine ⟨_,_,rfl,S,λt ht=>?_⟩;by_cases e:t=i
    ·unfold en;rw [e,eg];exact q
    ·exact I t ⋯
  ·rintro σ H8 ⟨x9,a4,rfl,s8,I⟩;rw [wn] at I;show Re K _ _ _;have aq:=b9.trans s8;refine BY (Ln (F_ (A9 (AF rfl (Bu rfl (s8 _ _ ac) (Dd _ _) ⟨ro,Z,B',rfl,s8 _ _ b7,⋯,am,λu us H9 s9 hu hN=>Cm (AF rfl ⟨fr,gs,rfl,s9 _ _ (aq _ _ bx),λft cn=>⟨Jy,λrr ap=>?_⟩⟩)⟩)))));have sA:=AQ cn (.tup gs);have sB:=AQ ap (.tup [.str "told", .ref u,.ref ft]);have ab:=sA.trans sB;refine kT rr u ft us gs (Z.map λz=>Af z B') _ _ (s1.trans (s4.trans (aq.trans (s9.trans ab)))) upd_same (ab _ _ hu) (hN.tp (L' ab)) (by rw [AK];exact an) (Mv am ba bB) (λi G=>P.told G am an (I i G)) (sB _ _ upd_same) ((TFs.of P lA hF).tp (L' (aq.trans (s9.trans ab)))) (sV P lA c pp.two w1 hF eF)
def sZ (h:KP K vs H Q E):yT K { nx:=λ_ b=>Q .non b,rt:=Q } (L2.start ["_law_script","_law_k","_law_cell","_law_plain"] vs) H:=by
 obtain ⟨s,f,k,rfl,g,j,o,q⟩:=h
 have d:∀ (a:Int) (pl:Bool),AZ (BG (AC (A_ Am (C' Ek (AC (AB 2) AD)) (C' IE (AC (AB 3) AD))) (AC (C' Ek (AC (AB 2) AD)) (AC (A_ Am (aM 7) (AB 1)) AD)))) { nx:=λ_ b=>Q .non b,rt:=Q } [some (.ref s),some (.int k),some (.int a),some (.bl pl)] H:=λa pl=>by
  have i:0<=(if a<0 then -a else a):=by split <;> omega
  refine ⟨_,rfl,_,rfl,_,rfl,pl,rfl,_,_,rfl,rfl,KT (by cases pl <;> decide) (by cases pl <;> decide),_,rfl,_,rfl,_,rfl,_,_,rfl,rfl,Tc ∅ ∅,Jy,λp hp=>q p _ hp (AQ hp _) ⟨_,_,_,upd_same,EZ i (by cases pl <;> decide),i,⋯,⋯⟩⟩
 have e:∀ a:Int,AH (AM (JQ (A_ ae (C' (HH K) (AC (AB 0) AD)) (aM 0)) (A_ Z' (A_ CP (A_ (gS K) (AB 0) (aM 0)) (aM 2)) (aM 0))) (AG 3)) (AZ (BG (AC (A_ Am (C' Ek (AC (AB 2) AD)) (C' IE (AC (AB 3) AD))) (AC (C' Ek (AC (AB 2) AD)) (AC (A_ Am (aM 7) (AB 1)) AD))))) { nx:=λ_ b=>Q .non b,rt:=Q } [some (.ref s),some (.int k),some (.int a),none] H:=λa=>by
  refine ⟨_,rfl,_,_,rfl,g,_,_,rfl,rfl,_,rfl,Ah (λc=>?_) (λc=>?_)⟩
  ·have c:=nJ c;rw [AK] at c;obtain ⟨w,m⟩:=Td (ns:=f) (Int.le_refl 0) ⋯;exact ⟨_,rfl,_,_,_,_,rfl,rfl,g,m,_,_,rfl,rfl,show (0:Int)<2 by decide,rfl,d a _⟩
  ·exact d a false
 refine Ag (F_ (Fn ⟨_,rfl,_,rfl,_,_,rfl,g,_,_,rfl,rfl,_,rfl,Ah (λc=>?_) (λ_=>e 0)⟩));have c:=nJ c;rw [AK] at c;obtain ⟨v,n⟩:=Td (ns:=f) j c;exact ⟨_,rfl,_,rfl,_,_,_,_,rfl,rfl,g,n,e v⟩
def rC (h:Ij K vs H Q E):yU K (eC Q) (L2.start ["_law_box_here","_law_many","_law_digit","_law_m"] vs) H:=by
 obtain ⟨p,m,n,rfl,⟨a,b,c,hp,j,o,v,w⟩,C,e,z,k⟩:=h;have L:∀ {x y:Int},0<=x->x<4611686018427387904->IntMulOk x y:=λf g=>Tc ⋯ ⋯;have Z:∀ (x:Int) {y:Int},0<y->y<4611686018427387904->0<=x % y/\x % y<4611686018427387904:=λx y f g=>⟨B9 x ⋯,by have:=CM x f;omega⟩;refine Fn (Dh (AX (F7 rfl hp (IF _ _ _) (F_ ⟨_,_,rfl,rfl,_,rfl,Ah (λA=>?_) (λA=>?_)⟩))))
 ·show Su K _ _ _;refine Ag (AX (F7 rfl hp (IF _ _ _) (AF rfl ⟨_,_,rfl,rfl,e,?_⟩)));show Ss K _ _ _;refine F8 (AX (F7 rfl hp (IF _ _ _) (AF rfl ⟨_,_,rfl,rfl,e,_,rfl,p,_,_,0,rfl,rfl,hp,rfl,?_⟩)));show Sq K _ _ _;exact BY (AF rfl (k _ _ (B9 _ ⋯) (CM _ e) ⟨_,_,_,upd_same,Int.ediv_nonneg j ⋯,o,v,⋯⟩ Kp.upd))
 ·refine Hs ?_;show Sz K _ _ _;refine F8 (AX (F7 rfl hp (GR _ _ _) (F_ ⟨_,_,rfl,rfl,_,rfl,p,_,_,2,rfl,rfl,hp,rfl,?_⟩)));have kp:Kp p H (upd H p (.lst (([V.int a,.int b,.int c]:d8).set 2 (.int (c+1))))):=Kp.upd;generalize i:upd H p (.lst (([V.int a,.int b,.int c]:d8).set 2 (.int (c+1))))=B at *;have d:B p=some (.lst [.int a,.int b,.int (c+1)]):=by rw [<-i];exact upd_same
  show Sy K _ _ _;refine Ag (AX (AX (F7 rfl d (LA _ _ _) (F_ ⟨_,_,rfl,rfl,show (0:Int)<2305843009213693951 by decide,F_ ⟨_,_,rfl,rfl,?_⟩⟩))));have F:=Z b (y:=2305843009213693951) ∅ ∅;generalize b % 2305843009213693951=m1 at *;show Sx K _ _ _;refine Ag (AX (AX (AF rfl (AX (F_ (AX (F7 rfl d (GR _ _ _) (F7 rfl d (GR _ _ _) ⟨_,_,rfl,rfl,L ⋯ ⋯,_,_,rfl,rfl,_,_,rfl,rfl,?_,F_ ⟨_,_,rfl,rfl,show (0:Int)<2305843009213693921 by decide,?_⟩⟩))))))))
  ·have f:(c+1)*(c+1)<=2000000*2000000:=Int.le_trans (DZ ⋯ ⋯) (Dn ⋯ ⋯);have g:0<=(c+1)*(c+1):=EZ ⋯ ⋯;exact KT ⋯ ⋯
  have q:=Z ((m1+3)*(48271+(c+1)*(c+1))) (y:=2305843009213693921) ∅ ∅;show Sw K _ (List.set _ 3 (some (.int ((m1+3)*(48271+(c+1)*(c+1)) % 2305843009213693921)))) _;generalize (m1+3)*(48271+(c+1)*(c+1)) % 2305843009213693921=m2 at *;refine Ag (AX (AX (AF rfl (AX (AX (AX (AF rfl (F_ ⟨_,_,rfl,rfl,show (0:Int)<1000003 by decide,AX (F7 rfl d (GR _ _ _) (F_ ⟨_,_,rfl,rfl,KT ∅ ∅,_,_,rfl,rfl,F_ ⟨_,_,rfl,rfl,_,_,rfl,rfl,L q.1 q.2,F_ ⟨_,_,rfl,rfl,show (0:Int)<2305843009213693907 by decide,?_⟩⟩⟩))⟩))))))));have r:=Z (m2*(m2 % 1000003+(c+1)*69621+11)) (y:=2305843009213693907) ∅ ∅;show Sv K _ (List.set _ 3 (some (.int (m2*(m2 % 1000003+(c+1)*69621+11) % 2305843009213693907)))) _;generalize m2*(m2 % 1000003+(c+1)*69621+11) % 2305843009213693907=m3 at *;have D:∀ x y:Int,0<y->y<100->Ja x y:=λx y f g=>⟨f,aS (Cv (show y.natAbs<2 ^ 7 by omega) (Kd ∅))⟩;refine BY (AX (AX (AX (AX (AF rfl (AF rfl ⟨_,_,rfl,rfl,L r.1 r.2,F_ ⟨_,_,rfl,rfl,D _ _ ∅ ∅,AX (AF rfl (F_ ⟨_,_,rfl,rfl,D _ _ ∅ ∅,_,_,rfl,rfl,AF rfl ⟨_,_,rfl,rfl,e,?_⟩⟩))⟩⟩))))));exact k _ _ (B9 _ ⋯) (CM _ e) ⟨_,_,_,d,j,o,⋯,⋯⟩ kp
def cF {D:Ends} {t:TS} {a:L2.St} {H:Hp} (h:t D a H):t D a H:=h
def rD (h:Ik K vs H Q E):yV K (eC Q) (L2.start ["_law_top","_law_bottom","_law_one","_law_other"] vs) H:=by
 obtain ⟨a,b,rfl,n,q⟩:=h;refine (show Fw _ _ _ _ _ _ from ⟨_,rfl,_,rfl,_,rfl,_,_,rfl,?_⟩);refine Ff (DJ (λm f d=>∃ x y:Int,f=[some (.int a),some (.int b),some (.int x),some (.int y)]/\d=H/\0<=x/\0<=y/\Int.gcd x y=Int.gcd a b/\m=y.natAbs) b.natAbs ⟨(if a<0 then -a else a),b,rfl,rfl,by split <;> omega,⋯,?_,rfl⟩ ?_)
 ·split
  ·rw [Int.neg_gcd]
  ·rfl
 rintro m f d ⟨x,y,rfl,rfl,o,g,i,rfl⟩;refine Dh (AX (AF rfl (F_ ⟨_,_,rfl,rfl,_,rfl,Ah (λc=>?_) (λc=>?_)⟩)))
 ·have c:0<y:=nJ c;have j:=B9 x (show y≠0 by omega);have r:=CM x c;refine ⟨_,λ_ _ h=>h,?_⟩;refine (show Fw _ _ _ _ _ _ from ⟨_,rfl,_,rfl,_,rfl,_,_,rfl,rfl,c,_,_,rfl,(x % y).natAbs,⋯,y,x % y,rfl,rfl,g,j,?_,rfl⟩);rw [K6 x g];exact i
 ·have c:¬ 0<y:=λz=>c (nI z);have e:y=0:=by omega
  subst e;have k:x=((Int.gcd a b:Nat):Int):=by rw [<-i,Int.gcd_zero_right];omega
  have u:0<x:=by
   have:Int.gcd a b≠0:=λz=>by have:=Int.gcd_eq_zero_iff.mp z;omega
   omega
  refine cF (BY (DT (AX (AF rfl (AF rfl ⟨_,_,rfl,rfl,show x≠0 by omega,AX (AF rfl (AF rfl ⟨_,_,rfl,rfl,show x≠0 by omega,Cn,λp hp=>?_⟩))⟩)))));show Q (.ref p) (upd d p (.tup [.int (a.fdiv x),.int (b.fdiv x)]));rw [EI _ ⋯,EI _ ⋯,k];exact q p hp
def Box.same {H H':Hp} {p:Addr} {n:Int} (h:Box H p n) (k:Same H H'):Box H' p n:=by
 obtain ⟨a,b,c,d,e⟩:=h;exact ⟨a,b,c,k _ _ d,e⟩
def Box.mono {H:Hp} {p:Addr} {m n:Int} (h:Box H p m) (i:m<=n):Box H p n:=by
 obtain ⟨a,b,c,d,e,f,g,j⟩:=h;exact ⟨a,b,c,d,e,f,g,⋯⟩
def Mw (z:Int):Low z 1:=⟨∅,by rw [Int.gcd_one_right]⟩
def UY {b:Nat} {x y:Int} (a:0<y) (c:Bd b x) (d:Bd b y):Nb b (K_ x y):=by
 have e:Af x y=K_ x y:=by unfold Af;rw [nG ⋯]
 have:=IM (Ab a) c d;rw [e] at this;exact ⟨ET a,this⟩
def rE (h:KQ X_ K vs H Q E):yW K (eC Q) (L2.start ["_law_one","_law_other"] vs) H:=by
 obtain ⟨x,y,q,r,rfl,⟨_,f,c⟩,⟨_,g,d⟩,a,b,k⟩:=h;cases f;cases g;exact BY (A9 (AX (AX (Bu rfl c (El _ _) (Bu rfl d (Dd _ _) ⟨_,_,rfl,rfl,Bf a.2.1 b.2.2,AX (Bu rfl d (El _ _) (Bu rfl c (Dd _ _) ⟨_,_,rfl,rfl,Bf b.2.1 a.2.2,_,_,rfl,rfl,AX (Bu rfl c (Dd _ _) (Bu rfl d (Dd _ _) ⟨_,_,rfl,rfl,Bf a.2.2 b.2.2,_,_,rfl,DG a.1.pos b.1.pos,k⟩))⟩))⟩)))))
def rG (h:KQ N' K vs H Q E):yX K (eC Q) (L2.start ["_law_one","_law_other"] vs) H:=by
 obtain ⟨x,y,q,r,rfl,⟨_,f,c⟩,⟨_,g,d⟩,a,b,k⟩:=h;cases f;cases g;exact BY (A9 (AX (Bu rfl c (El _ _) (Bu rfl d (El _ _) ⟨_,_,rfl,rfl,Bf a.2.1 b.2.1,AX (Bu rfl c (Dd _ _) (Bu rfl d (Dd _ _) ⟨_,_,rfl,rfl,Bf a.2.2 b.2.2,_,_,rfl,DG a.1.pos b.1.pos,k⟩))⟩))))
def rH {a b:Nat} {q r:Nu} (c:Nb a q) (d:Nb b r):Nb (a+b) (N' q r):=UY (DG c.1.pos d.1.pos) (c.2.1.mul d.2.1) (c.2.2.mul d.2.2)
def Nb.mono {a b:Nat} {q:Nu} (h:Nb a q) (c:a<=b):Nb b q:=⟨h.1,h.2.1.mono c,h.2.2.mono c⟩
theorem NRs.tp {H H':Hp} (s:Same H H'):∀ {xs:d8} {A:List cY},NRs H xs A->NRs H' xs A
 | [],[],_=>trivial
 | _::_,_::_,h=>⟨let ⟨a,b,e,c,d⟩:=h.1;⟨a,b,e,s _ _ c,d.tp (L' s)⟩,NRs.tp s h.2⟩
 | [],_::_,h=>h.elim
 | _::_,[],h=>h.elim
noncomputable def aU (H:Hp) (p q:Addr):Hp:=λb=>if b=p\/b=q then none else H b
def Kk {H:Hp} {p q:Addr}:Same (aU H p q) H:=λb o h=>by
 unfold aU at h;by_cases e:b=p\/b=q
 ·rw [nH e] at h;cases h
 ·rwa [nG e] at h
def GE {H:Hp} {p q b:Addr} {o:HO} (h:aU H p q b=some o):b≠p/\b≠q:=by
 unfold aU at h;by_cases e:b=p\/b=q
 ·rw [nH e] at h;cases h
 ·exact ⟨λz=>e (.inl z),λz=>e (.inr z)⟩
def JI {H:Hp} {p q b:Addr} {o:HO} (a:b≠p) (c:b≠q) (h:H b=some o):aU H p q b=some o:=by unfold aU;rw [nG λz=>z.elim a c];exact h
def UZ {H H':Hp} {p q:Addr} (k:∀ b o,b≠p->b≠q->H b=some o->H' b=some o):Same (aU H p q) (aU H' p q):=λb o h=>JI (GE h).1 (GE h).2 (k b o (GE h).1 (GE h).2 (Kk _ _ h))
def Box.kp {H H':Hp} {p q:Addr} {n:Int} (h:Box H p n) (k:Kp q H H') (e:p≠q):Box H' p n:=by
 obtain ⟨a,b,c,d,f⟩:=h;exact ⟨a,b,c,k _ _ e d,f⟩
def Box.at {H:Hp} {p:Addr} {n:Int} (h:Box H p n):∃ a,H p=some (.lst a):=let ⟨_,_,_,b,_⟩:=h;⟨_,b⟩
def Box.tp {H H':Hp} {p:Addr} {n:Int} (h:Box H p n) (k:Kp p H H'):Tp H H':=let ⟨_,a⟩:=h.at;Kp.tp k a
def Box.ne {H:Hp} {p q:Addr} {n:Int} (h:Box H p n) (e:H q=none):q≠p:=let ⟨_,a⟩:=h.at;(Ax a e).symm
theorem NRs.snoc {H:Hp} {a:Addr} {b:d8} {l:cZ} (c:H a=some (.lst b)) (d:Nums H b l):∀ {xs:d8} {A:List cY},NRs H xs A->NRs H (xs++[.ref a]) (A++[l])
 | [],[],_=>⟨⟨a,b,rfl,c,d⟩,trivial⟩
 | _::_,_::_,h=>⟨h.1,NRs.snoc c d h.2⟩
 | [],_::_,h=>h.elim
 | _::_,[],h=>h.elim
def Kl {a:Type} {n k:Nat} (f:Nat->a) (h:k<n):((List.range n).map f)[k]?=some (f k):=by
 rw [Aa,CV h];rfl
def rJ {b:Type} {n k:Nat} {f g:Nat->b} {z:b} (h:k<n) (c:g k=z) (d:∀ i,i<n->i≠k->g i=f i):((List.range n).map f).set k z=(List.range n).map g:=by
 apply Fb;intro i;by_cases a:i<n
 ·by_cases e:i=k
  ·subst e;rw [List.getElem?_set_self (by rw [AK,A4];exact a),Kl g a,c]
  ·rw [List.getElem?_set_ne (λz=>e z.symm),Kl f a,Kl g a,d i a e]
 ·rw [Bp (by rw [Dk,AK,A4];omega),Bp (by rw [AK,A4];omega)]
def Ua {a:Type} {n:Nat} {f g:Nat->a} (h:∀ i,i<n->f i=g i):(List.range n).map f=(List.range n).map g:=
 GI λi b=>h i (C5.mp b)
theorem Ub {a:Type} (z:a):∀ n:Nat,(List.range n).map (λ_=>z)=List.replicate n z
 | 0=>rfl
 | n+1=>by rw [FZ,Cp,Ub z n,List.replicate_succ'];rfl
def rK {n k B:Int} {q r:Nu} {a b c:Int} (d:0<B) (f:0<q.2) (g:0<r.2) (h:Wo q a b) (i:Wo r c k) (e:B=b*k):X_ (K_ n B) (N' q r)=K_ (n+a*c) B:=by
 subst e;refine LR (Yv (ET d).pos (Oi f g).pos) (ET d) (Ab d) (Yw (ET d).pos (Oi f g).pos (F2 d) (Yx f g h i)) (F2 d)
def rN (h:Il K vs H Q E):S6 K { nx:=λ_ b=>Q .non b,rt:=Q } (L2.start ["_law_row","_law_many"] vs) H:=by
 obtain ⟨p,n,l,rfl,hp,d,A,q⟩:=h;unfold S6;rwa [hp];have o:=d.length;refine DJ (λm g b=>g=[some (.ref p),some (.int (m:Int))]/\b=H/\Ci l m=Ci l l.length/\m<=l.length) n.length ⟨rfl,rfl,by rw [o],⋯⟩ ?_;rintro m g b ⟨rfl,rfl,a,j⟩;rwa [hp];refine Ah (λc=>?_) (λc=>?_)
 ·obtain ⟨k,rfl⟩:∃ k,m=k+1:=⟨m - 1,⋯⟩;obtain ⟨v,r,u,rfl,e⟩:=d.at (i:=k) ⋯ (1,1);rw [Te] at a;refine ⟨_,DC ⋯ r,u,rfl,_,e,_,rfl,rfl,Ah (λf=>?_) (λf=>?_)⟩
  ·have z:(l.getD k (1,1)).1=0:=by injection f
   rw [nH z] at a;exact ⟨λw x=>∃ y,y<k+1/\_,λ_ _ h=>h,k,⋯,by rw [show ((k+1:Nat):Int) - 1=(k:Int) by omega],rfl,a,⋯⟩
  ·have z:(l.getD k (1,1)).1≠0:=λz=>f (by rw [z]);rw [nG z] at a;exact KU d j a.symm q
 ·have z:m=0:=by omega
  subst z;exact KU d j a.symm q
theorem Uc {c d:Nat} {b:dI} (e:∀ k,Bd d (b k)):∀ (a:de) (k:Nat),(∀ z∈a,Bd c z)->Bd (c+d+a.length) (cvL a b k)
 | [],_,_=>Cj _
 | x::a,0,h=>by
   rw [Az,Int.add_zero];exact ((h x (DK ..)).mul (e 0)).mono ⋯
 | x::a,k+1,h=>by
   rw [Ar];exact (((h x (DK ..)).mul (e (k+1))).mono (by omega:c+d<=c+d+a.length)).add (Uc e a k λz f=>h z (DW _ f))
theorem Mx {b:Nat} {f:de} (h:∀ z∈f,Bd b z):∀ (n k:Nat),Bd ((b+f.length)*n+1) (Av f n k)
 | 0,0=>Bd.one.mono ⋯
 | 0,_+1=>Cj _
 | n+1,k=>(Uc (Mx h n) f k h).mono (by rw [Nat.mul_add];omega)
def rO (m:Nat) (f:dI):A6 (m+1) f=A6 m f++[V.int (f m)]:=by
 unfold A6;rw [FZ,Cp,Cp];rfl
def rP (h:KR K vs H Q E):QR K { nx:=λ_ e=>Q .non e,rt:=Q } (L2.start ["row","n","result","place","found","step"] vs) H:=by
 obtain ⟨p,f,n,b,rfl,hp,F,O,u,P,q,Y,v,k⟩:=h;unfold QR;have G:M_ (f.map V.int) 0=some (V.int (f.getD 0 0)):=DC (j:=0) rfl (by rw [Aa,AI,AT F];rfl);have z:Bd b (f.getD 0 0):=FN u 0;rwa [hp,G];refine ⟨⋯,b,z,?_,sz ∅,λw I=>?_⟩
 ·rw [Bg];have:=CW n (Nat.le_add_right b f.length);omega
 have J:=AQ I (.lst [.int (f.getD 0 0 ^ n)]);have A:=J _ _ hp;rw [Bg];unfold QQ;rwa [A];have Z:n*(f.length - 1)<=480:=CF (Dl v (show f.length - 1<=8 by omega)) ∅
 have eN:(n:Int)*(((f.map V.int).length:Int) - 1)=((n*(f.length - 1):Nat):Int):=by
  rw [AK];push_cast;rw [show ((f.length - 1:Nat):Int)=(f.length:Int) - 1 by omega]
 have R:∀ k,Bd 8000 (Av f n k):=λk=>(Mx u n k).mono P;rw [eN];refine ⟨EX (Fe (x:=(n:Int)) ⋯ ⋯) (Fe (x:=((f.map V.int).length:Int) - 1) (by rw [AK];omega) (by rw [AK];omega)),∅,∅,⋯,⋯,?_⟩;rw [show (((n*(f.length - 1):Nat):Int)+1 - 1).toNat=n*(f.length - 1) by omega];refine ForR.by (λi c e=>∃ B C g:dc,c=[some (.ref p),some (.int (n:Int)),some (.ref w),B,C,g]/\Same H e/\e w=some (.lst (A6 (i+1) (Av f n)))) ⟨none,none,none,rfl,J,?_⟩ ?_ ?_
 ·rw [upd_same,<-pow_zero];rfl
 ·rintro i c D hi ⟨B,C,g,rfl,r,a⟩;have d:=r _ _ hp;unfold QO QN;rwa [d];have S:(1:Int)+(i:Int)=((i+1:Nat):Int):=by omega
  rw [S]
  have em:(if (((f.map V.int).length:Int) - 1)<((i+1:Nat):Int) then ((f.map V.int).length:Int) - 1 else ((i+1:Nat):Int))=((min (i+1) (f.length - 1):Nat):Int):=by
   rw [AK];split <;> omega
  rw [em];refine ⟨∅,∅,⋯,⋯,?_⟩;rw [show (((min (i+1) (f.length - 1):Nat):Int)+1 - 1).toNat=min (i+1) (f.length - 1) by omega];refine ForR.by (λj c e=>∃ g:dc,c=[some (.ref p),some (.int (n:Int)),some (.ref w),some (.int ((i+1:Nat):Int)),some (.int (bS f (Av f n) n (i+1) j)),g]/\e=D) ⟨_,rfl,rfl⟩ ?_ ?_
  ·rintro j c T hj ⟨y,rfl,rfl⟩;have U:M_ (f.map V.int) (1+(j:Int))=some (V.int (f.getD (j+1) 0)):=DC (j:=j+1) ⋯ (by rw [Aa,AI,AT ⋯];rfl);have W:M_ (A6 (i+1) (Av f n)) (((i+1:Nat):Int) - (1+(j:Int)))=some (V.int (Av f n (i - j))):=DC (j:=i - j) ⋯ (EB _ ⋯);rwa [d,a,U];have X:M_ (A6 (i+1) (Av f n)) ((i:Int)+1 - (1+(j:Int)))=some (V.int (Av f n (i - j))):=by rw [<-W];congr 1
   have L:Bd 64 (((n:Int)+1)*(1+(j:Int)) - ((i:Int)+1)):=by
    have h1:((n:Int)+1)*(1+(j:Int))<=61*9:=by
     have:=Int.mul_le_mul (show (n:Int)+1<=61 by omega) (show 1+(j:Int)<=9 by omega) ⋯ ∅;exact this
    have h2:0<=((n:Int)+1)*(1+(j:Int)):=EZ ⋯ ⋯;exact Fe ⋯ ⋯
   have M:=FN u (j+1);refine ⟨EX (Fe (x:=(n:Int)+1) ⋯ ⋯) (Fe (x:=1+(j:Int)) ⋯ ⋯),EX L (M.mono q),_,X,_,rfl,EX (L.mul (M.mono q)) (R _),?_,_,rfl⟩;show _=bS f (Av f n) n (i+1) j+(((n:Int)+1)*((j+1:Nat):Int) - ((i+1:Nat):Int))*f.getD (j+1) 0*Av f n (i+1 - (j+1));rw [show i+1 - (j+1)=i - j by omega,show ((j+1:Nat):Int)=1+(j:Int) by omega,show ((i+1:Nat):Int)=(i:Int)+1 by omega]
  ·rintro c T ⟨y,rfl,rfl⟩;rw [Zg F];unfold QM;rwa [d,G,a];have m:((i:Int)+1)*f.getD 0 0≠0:=CG ⋯ O;have N:Bd 64 ((i:Int)+1):=Fe ⋯ ⋯;refine ⟨OO a,EX N (z.mono q),⟨m,(N.mul (z.mono q)).mono ∅⟩,EG (show _<=1000 by rw [EW];omega) (by rw [sizeLine_eq];omega),λb o h=>Kp.upd b o (Ax h I) (r b o h),?_⟩;rw [Int.mul_fdiv_cancel_left _ m,rO (i+1)]
 ·rintro c D ⟨B,C,g,rfl,r,a⟩;unfold QP;rwa [];exact k w D r a
def rQ (xs:d8) (j:Nat):CO xs (some (j:Int)) none=xs.drop j:=by
 unfold CO HT.sIx;simp only [Bg];rw [nG ⋯];by_cases h:j<=xs.length
 ·rw [Nat.min_eq_left h,List.take_of_length_le (by rw [List.length_drop];omega)]
 ·rw [Nat.min_eq_right ⋯,List.drop_length,List.take_nil,List.drop_eq_nil_of_le ⋯]
theorem rR (k:Nat):D_ [(1,1)] k=((A3 k:Int):Rat):=by
 cases k with
 | zero=>unfold D_ Ae;show ((1:Int):Rat) / ((1:Int):Rat)=((1:Int):Rat);ext
 | succ k=>rw [EU (by simp)];rfl
def rS {l:cZ} (a:Aj l) (b:Nz l) (h:1<=l.length):(AW l).getD (l.length - 1) 0≠0:=Iu a b h
def rV {w:de} {m:Nat} (b:m<=w.length) (h:∀ j,j<m->w.getD j 0=0):List.replicate m 0++w.drop m=w:=by
 apply Fb;intro i;by_cases a:i<m
 ·rw [EF (by rw [Dj];exact a),Dz,nH a];have z:=h i a;rw [AI,AT ⋯] at z;rw [AT ⋯];exact congrArg some z.symm
 ·rw [EE (by rw [Dj];omega),Dj,List.getElem?_drop,show m+(i - m)=i by omega]
theorem Ud (ns:de):∀ n:Nat,(⟨λk=>((Av ns n k:Int):Rat)⟩:Sr)=si ns ^ n
 | 0=>by
   rw [Sr.pow_z]
   exact Sr.ext' λk=>by
    show ((A3 k:Int):Rat)=(((1:Nat)):Rat)*A3 k;cases k with
    | zero=>show ((1:Int):Rat)=((1:Nat):Rat)*1;push_cast;ext
    | succ k=>show ((0:Int):Rat)=((1:Nat):Rat)*0;push_cast;ext
 | n+1=>by
   have e:(⟨λk=>((Av ns (n+1) k:Int):Rat)⟩:Sr)=si ns*⟨λk=>((Av ns n k:Int):Rat)⟩:=by
    rw [JD,Sr.L_mul];exact Sr.ext' λk=>JC (Av ns n) ns k
   rw [e,Ud ns n,Sr.pow_s];ext
theorem My {x:Rat} (h:x≠0):∀ n:Nat,x⁻¹ ^ n*x ^ n=1
 | 0=>by ext
 | n+1=>by
   have:=My h n;have i:x⁻¹*x=1:=Fa _ h;ext
def rW {x:Rat} (h:x≠0) (n:Nat):x ^ n≠0:=λz=>by
 have:=My h n;rw [z] at this;ext
def rX {l L:cZ} {n:Nat} (a:Aj l) (h:∀ k,D_ L k=((Av (AW l) n k:Int):Rat) / ((Ai l ^ n:Int):Rat)):sr L=sr l ^ n:=by
 rw [Mo a,Sr.mul_pow,Sr.num_pow,<-Ud];refine Sr.ext' λk=>?_;rw [Sr.num_mul];show D_ L k=_*((Av (AW l) n k:Int):Rat);rw [h k,Rat.div_def,Rat.mul_comm];congr 1;rw [Rat.intCast_pow];have b:=BH (Ab (De a).1);have:=My b n;have:=Fa _ (rW b n);ext
def rY (h:Ip K vs H Q E):RY K { nx:=λ_ b=>Q .non b,rt:=Q } (L2.start ["P","n","row","low"] vs) H:=by
 obtain ⟨p,xs,l,n,rfl,hp,hN,G,l4,o,k⟩:=h;obtain ⟨bw,P,bt⟩:=G.clr;have D:=G.low;have nl:=G.nz;have hb:(5+l.length)*n+1<=97:=by have:=Dl (show 5+l.length<=8 by omega) o;omega
 have k:∀ (r:Addr) (b:Hp) (L:cZ),Same H b->Pl b r L->Aj L->Nz L->(∀ k,D_ L k=((Av (AW l) n k:Int):Rat) / ((Ai l ^ n:Int):Rat))->Q (.ref r) b:=λr b L u p1 aL nL e=>k r b L u p1 aL nL (T9 aL nL (Int.pow_pos (De D).1) ((P.pow n).mono ⋯) e λk=>(Mx bw n k).mono (by rw [DV];exact hb)) (rX D e);have OL:=De D;have lx:=hN.length;have R:(AW l).length=l.length:=by unfold AW;rw [AK]
 unfold RY;rwa [];refine Ah (λn0=>?_) (λn0=>?_)
 ·have S:n=0:=by omega
  subst S;refine ⟨sz ∅,λB v=>⟨sz (by simp),λC y=>?_⟩⟩;have u:=AQ v (.tup [.int 1,.int 1]);have s2:=AQ y (.tup [.ref B]);refine k C _ [(1,1)] (u.trans s2) ⟨_,upd_same,⟨B,rfl,s2 _ _ upd_same⟩,trivial⟩ ?_ ?_ λk=>?_
  ·intro q f;rw [BL.mp f];exact ⟨∅,∅⟩
  ·intro q f;obtain rfl:=nR f;decide
  ·rw [rR,Int.pow_zero];show ((A3 k:Int):Rat)=((A3 k:Int):Rat) / ((1:Int):Rat);push_cast;ext
 unfold RX;rwa [hp];refine bZ hp ⟨l,hN,D,Ai l,OL,P.mono ∅,λq f=>(bt q f).mono ∅,⋯,λr a T u hr ha=>?_⟩;have F:=u _ _ hp;unfold RW RV;rwa []
 have I:∀ m:Nat,m<=l.length->(∀ j,j<m->(AW l).getD j 0=0)->(m<l.length->(AW l).getD m 0≠0)->MP K { nx:=λ_ b=>Q .non b,rt:=Q } [some (.ref p),some (.int (n:Int)),some (.ref r),some (.int (m:Int))] T:=by
  intro m U g A;unfold MP;rwa [F];refine Ah (λcc=>?_) (λcc=>?_)
  ·have l0:l=[]:=by
    rcases Er l.length with h | h
    ·exact CU.mp h
    ·exact absurd (g (l.length - 1) ⋯) (rS D nl h)
   subst l0;refine ⟨sz ∅,λe he=>k e _ [] (u.trans (AQ he _)) ⟨[],upd_same,trivial⟩ (λ_ h=>nomatch h) (λ_ h=>nomatch h) λc=>?_⟩;obtain ⟨W,rfl⟩:∃ W,n=W+1:=⟨n - 1,⋯⟩;show (D_ [] c:Rat)=((Av [] (W+1) c:Int):Rat) / _;rw [Zh,EU (by simp)];exact (O_ _).symm
  ·have X:m<l.length:=by omega
   have A:=A X;unfold RU;have mn:m*n<=160:=CF (Dl (show m<=4 by omega) o) ∅;have Y:(m:Int)*(n:Int)=((m*n:Nat):Int):=by push_cast;rfl
   rwa [];refine ⟨sz ∅,λB v=>⟨EX (Fe (x:=(m:Int)) ⋯ ⋯) (Fe (x:=(n:Int)) ⋯ ⋯),?_⟩⟩;have Z:=AQ v (.lst [.int 0]);rw [Y];refine ⟨⋯,⋯,sz ⋯,λC y=>?_⟩;rw [Bg,FR];have a0:=AQ y (.lst (List.replicate (m*n) (V.int 0)));have u2:=Z.trans a0;have J:=u2 _ _ hr;have a3:=u2 _ _ ha;rwa [J,a3];rw [rQ,<-List.map_drop];intro e3 a4;have a5:=AQ a4 (.lst (((AW l).drop m).map V.int));have dl:((AW l).drop m).length=l.length - m:=by rw [List.length_drop,R]
   have d0:((AW l).drop m).getD 0 0=(AW l).getD m 0:=by rw [AI,AI,List.getElem?_drop,Nat.add_zero]
   refine ⟨(AW l).drop m,n,rfl,rfl,⋯,by rw [d0];exact A,5,λz g=>bw z (List.mem_of_mem_drop g),?_,∅,⋯,⋯,λe4 H4 s4 h4=>?_⟩
   ·have:=CW n (show 5+((AW l).drop m).length<=5+l.length by omega);omega
   have u4:=a5.trans s4;have ab:upd (upd T B (.lst [.int 0])) C (.lst (List.replicate (m*n) (V.int 0))) C=some (HO.lst (List.replicate (m*n) (V.int 0))):=upd_same;have ac:=u4 _ _ ab;rwa [ac,h4];have aj:=u4 _ _ J;have nl:n*(((AW l).drop m).length - 1)<=160:=CF (Dl o (show _<=4 by omega)) ∅;refine ⟨sz (by rw [Dj,AK,AK,A4];omega),λe5 al=>?_⟩;have M:=AQ al (.lst (List.replicate (m*n) (V.int 0)++((List.range (n*(((AW l).drop m).length - 1)+1)).map (Av ((AW l).drop m) n)).map V.int));have Bn:0<Ai l ^ n:=Int.pow_pos OL.1;refine ⟨_,M _ _ aj,_,rfl,Ai l,rfl,⋯,3,P,by rw [Bg];omega,List.replicate (m*n) 0++(List.range (n*(((AW l).drop m).length - 1)+1)).map (Av ((AW l).drop m) n),?_,?_,?_,?_⟩
   ·rw [Cp,List.map_replicate]
   ·rw [Bg];exact Ab Bn
   ·rw [CL,Dj,AK,A4];omega
   rw [Bg];intro t zs H6 s6 h6 n6;have i:Aj ((List.replicate (m*n) 0++(List.range (n*(((AW l).drop m).length - 1)+1)).map (Av ((AW l).drop m) n)).map λz=>Af z (Ai l ^ n)):=λq f=>by obtain ⟨z,_,rfl⟩:=Ap.mp f;exact Fk (Ab Bn)
   refine k t H6 _ ((((u.trans u2).trans u4).trans M).trans s6) ⟨zs,h6,n6⟩ (λq f=>i q (GW f)) (HM _) λc=>?_;rw [Jo i]
   have B:∀ N:de,D_ (N.map λz=>Af z (Ai l ^ n)) c=(N.getD c 0:Rat) / ((Ai l ^ n:Int):Rat):=λN=>by
    unfold D_ Ae;rw [AI,AI,Aa];cases N[c]? with
    | none=>exact (O_ _).trans (O_ _).symm
    | some z=>exact Fl (Ab Bn)
   rw [B]
   have C:(List.replicate (m*n) 0++(List.range (n*(((AW l).drop m).length - 1)+1)).map (Av ((AW l).drop m) n)).getD c 0=Av (AW l) n c:=by
    have w:Av (AW l) n c=Av (List.replicate m 0++(AW l).drop m) n c:=by rw [rV ⋯ g]
    rw [w,Pc];unfold Du;rw [AI];by_cases O:c<m*n
    ·rw [nH O,EF (by rw [Dj];exact O),Dz,nH O];rfl
    ·rw [nG O,EE (by rw [Dj];omega),Dj,Aa];by_cases h2:c - m*n<n*(((AW l).drop m).length - 1)+1
     ·rw [CV h2];rfl
     ·rw [Bp (by rw [A4];omega),PY ⋯ n _ ⋯];rfl
   rw [C]
 refine DJ (λd σ b=>∃ m:Nat,σ=[some (.ref p),some (.int (n:Int)),some (.ref r),some (.int (m:Int))]/\b=T/\m<=l.length/\(∀ j,j<m->(AW l).getD j 0=0)/\d=l.length - m) l.length ⟨0,rfl,rfl,AY _,λj hj=>absurd hj ⋯,rfl⟩ ?_;rintro d σ b ⟨m,rfl,rfl,U,g,rfl⟩;rwa [F,hr,ha];refine Ah (λc1=>?_) (λc1=>?_)
 ·have hv:M_ ((AW l).map V.int) (m:Int)=some (V.int ((AW l).getD m 0)):=DP (by rw [Aa,AI,AT ⋯];rfl);rwa [hv];refine Ah (λc2=>?_) (λc2=>?_)
  ·refine ⟨_,λ_ _ h=>h,l.length - (m+1),⋯,m+1,?_,rfl,⋯,λj hj=>?_,rfl⟩
   ·push_cast;rfl
   ·by_cases e:j=m
    ·rw [e];exact c2
    ·exact g j ⋯
  ·exact I m U g λ_=>c2
 ·exact I m U g λh=>absurd h ⋯
theorem rZ {n m:Nat} {l:cZ} (b:1<=n) (a:1<=m) (h:∀ q∈l,Bd n q.1/\Bd m q.2) (i:Nat):Bd n (Ae l i).1/\Bd m (Ae l i).2:=by
 unfold Ae;rw [AI];cases e:l[i]? with
 | none=>exact ⟨Cj n,Bd.one.mono a⟩
 | some q=>exact h q (BC e)
def Ue {l:cZ} (b:Nz l) (h:1<=l.length):(Ae l (l.length - 1)).1≠0:=by
 have a:l.length - 1<l.length:=by omega
 have q:=b l[l.length - 1] (by rw [GH];exact AT a);have e:Ae l (l.length - 1)=l[l.length - 1]:=by unfold Ae;rw [AI,AT a];rfl
 rw [e];exact q
def qA (h:KS K vs H Q E):RN K { nx:=λ_ c=>Q .non c,rt:=Q } (L2.start ["P"] vs) H:=by
 obtain ⟨p,f,l,rfl,hp,o,A,L,B,M,k⟩:=h;unfold RN;rwa [hp];have C:=o.length;refine ⟨⟨_,SqT.of hp⟩,CompJ.tup (xs:=f) (λi d c=>i<=f.length/\Same H c/\Nums c d ((Y' l).take i)) ⟨AY _,Same.refl H,trivial⟩ ?_ ?_ ?_⟩
 ·rintro i d c ⟨D,b,g⟩;refine ⟨D,sz ?_,b _ _ hp⟩;rw [g.length,BQ];omega
 ·rintro i x d c F ⟨D,b,g⟩;have N:i<f.length:=(BF.mp F).1;obtain ⟨z,q,W,rfl,u⟩:=o.get F;obtain ⟨v,O,P,rfl,w⟩:=o.at (i:=l.length - 1) ⋯ (0,1);have y:=b _ _ hp;have R:M_ f (-1)=some (V.ref P):=MZ ⋯ (by rw [C];exact O);have j:=b _ _ u;have m:=b _ _ w;have S:=A z (BC q);have G:=B z (BC q);have X:=FM A (l.length - 1);have I:=rZ ∅ ∅ B (l.length - 1);have T:=Ue L ⋯;rwa [y,R,j,m];refine ⟨S.pos,T,G.1.mono ∅,G.2.mono ∅,I.1.mono ∅,I.2.mono ∅,λr n=>⟨⋯,b.trans (AQ n _),?_⟩⟩;have e:(Y' l)[i]?=some (Af (z.1*(Ae l (l.length - 1)).2) (z.2*(Ae l (l.length - 1)).1)):=by unfold Y';rw [Aa,q];rfl
  rw [DY,e];exact (g.tp (L' (AQ n _))).append (Nums.one IN)
 ·rintro d c ⟨_,b,g⟩ a U;have e:(Y' l).take f.length=Y' l:=by rw [C,show l.length=(Y' l).length by unfold Y';rw [AK],CA]
  rw [e] at g;rwa [];intro r n;have J:=(AQ U (.lst d)).trans (AQ n (.tup d));exact k r d _ (b.trans J) upd_same (g.tp (L' J))
def qB {l:cZ} (d:Aj l) (k:Nz l) (m:l≠[]):Aj (Y' l)/\(Y' l).length=l.length/\(∀ i,D_ (Y' l) i=D_ l i / D_ l (l.length - 1)):=by
 have n:1<=l.length:=Ce.mpr m;have o:=FM d (l.length - 1);have len:(Y' l).length=l.length:=by unfold Y';rw [AK]
 have f:=Ue k n;have p:∀ q∈l,q.2*(Ae l (l.length - 1)).1≠0:=λq g=>CG (Ab (d q g).pos) f;refine ⟨λq g=>?_,len,λi=>?_⟩
 ·obtain ⟨z,r,rfl⟩:=Ap.mp g;exact Fk (p z r)
 ·by_cases h:i<l.length
  ·have e:Ae (Y' l) i=Af ((Ae l i).1*(Ae l (l.length - 1)).2) ((Ae l i).2*(Ae l (l.length - 1)).1):=by
    unfold Y';show (l.map _).getD i (0,1)=_;rw [AI,Aa,show Ae l i=l[i] by unfold Ae;rw [AI,AT h];rfl,AT h];rfl
   have j:=FM d i;unfold D_;rw [e,Fl (CG (Ab j.pos) f)];unfold val;have a:=BH (Ab j.pos);have b:=BH f;have c:=BH (Ab o.pos);rw [C8,C8];ext
  ·rw [EU ⋯,EU ⋯];exact (O_ _).symm
theorem qC {d q:Sr} (pd:Sr.Pol d) (e:Sr.Pol q) (h:d*q=1):∃ x:Rat,x≠0/\d=Sr.num x:=by
 have f:d≠0:=λz=>Sr.one_ne (by rw [<-h,z];ext);have g:q≠0:=λz=>Sr.one_ne (by rw [<-h,z];ext);obtain ⟨n,i⟩:=pd.bn;obtain ⟨p,a⟩:=e.bn;rcases Sr.top_ex n i with z | ⟨m,_,b,c⟩
 ·exact absurd z f
 rcases Sr.top_ex p a with z | ⟨j,_,r,u⟩
 ·exact absurd z g
 have t:=(Sr.top_mul c u).1;rw [h] at t;cases m with
 | zero=>
   refine ⟨d.c 0,b,Sr.ext' λk=>?_⟩;cases k with
   | zero=>show d.c 0=d.c 0*1;ext
   | succ k=>rw [c (k+1) ⋯];show (0:Rat)=d.c 0*0;ext
 | succ m=>
   exfalso;have o:(1:Sr).c (m+1+j)=0:=by rw [vV,show m+1+j=(m+j)+1 by omega];rfl
   rw [o] at t;exact aY b r t.symm
def fpI {b n e:Nat} {ns:de} (a:Lz ns) (d:∀ z∈ns,Bd b z) (f:ns.length<=n) (h:n<2 ^ e):Fp (b+n*(2*e+4)) ns:=λg i j c=>by
 obtain ⟨A,k⟩:=a9 j c;have m:=KW i a c;exact xS d ⟨_,a.2⟩ f ⋯ h k
def qD (h:Im K vs H Q E):yZ K (eC Q) (L2.start ["_law_kp","_law_kq","_law_row","_law_k","_law_one","_law_j","_law_other"] vs) H:=by
 obtain ⟨p,q,T,ys,l,m,b0,c0,rfl,hp,U,hN,hM,Gl,W,b1,c1,ll,lm,k⟩:=h;obtain ⟨d,G,M,bl⟩:=Gl.ov;obtain ⟨a,I,O,bm⟩:=W.ov;have lx:=hN.length;have ly:=hM.length;have BP:=DG G.1 I.1;have a0:Bd 2000 (d*a):=(M.mul O).mono ⋯;have n2:(L_ m a).length=m.length:=by unfold L_;rw [AK]
 have bd:∀ i j k,i<=100->Bd 2101 (a7 (L_ l d) (L_ m a) i j k):=λi j k hi=>(Y5 bl bm i j k).mono ⋯;refine Ag (AX (En (DT (F_ (F_ ⟨Cn,λb hb=>⟨Cz,λc hc=>?_⟩⟩)))));have sb:=AQ hb (.tup [.int 0,.int 1]);have sc:=AQ hc (.lst [.ref b]);have s0:=sb.trans sc;have a3:upd (upd H b (.tup [.int 0,.int 1])) c (.lst [.ref b]) b=some (HO.tup [V.int 0,V.int 1]):=sc _ _ upd_same;have a4:upd (upd H b (.tup [.int 0,.int 1])) c (.lst [.ref b]) c=some (HO.lst [V.ref b]):=upd_same;generalize upd (upd H b (.tup [.int 0,.int 1])) c (.lst [.ref b])=H0 at *;refine AX (Cm (AF rfl ⟨p,T,rfl,s0 _ _ hp,Cm (AF rfl ⟨q,ys,rfl,s0 _ _ U,_,_,rfl,rfl,c,_,[.ref b],rfl,rfl,a4,⋯,⋯,sz (by rw [List.length_singleton];omega),λw hw=>?_⟩)⟩));rw [show ((T.length:Int)+(ys.length:Int)).toNat=l.length+m.length by omega,FR];have sw:=AQ hw (.lst (List.replicate (l.length+m.length) (V.ref b)));have w0:H w=none:=s0.free hw;have C:=s0.trans sw;refine (show Ay _ _ _ _ _ _ from ⟨_,rfl,p,rfl,⟨_,SqT.of (C _ _ hp)⟩,ForJ.enumT (xs:=T) (λi D f=>∃ x1 x2 R S:dc,D=[some (.ref p),some (.ref q),some (.ref w),x1,x2,R,S]/\Same H f/\∃ J,f w=some (.lst J)/\Nums f J ((List.range (l.length+m.length)).map λk=>K_ (ps (L_ l d) (L_ m a) i k) (d*a))) ⟨none,none,none,none,rfl,C,_,upd_same,?_⟩ ?_ ?_ ?_⟩)
 ·rw [show (λk=>K_ (ps (L_ l d) (L_ m a) 0 k) (d*a))=λ_=>((0,1):Nu) from funext λk=>Yy BP,Ub];exact Nums.rep ⟨b,rfl,sw _ _ a3⟩ _
 ·rintro i D f _ ⟨_,_,_,_,_,C,_⟩;exact C _ _ hp
 ·rintro i x pp D H1 hi ⟨x1,x2,R,S,rfl,C,J,P,F⟩ a5;obtain ⟨z,X,px,rfl,ab⟩:=hN.get hi;have il:i<l.length:=(BF.mp X).1;have zd:Ae l i=z:=by unfold Ae;rw [AI,X];rfl
  have sp:=AQ a5 (.tup [.int (i:Int),.ref px]);refine ⟨pp,_,rfl,upd_same,rfl,_,_,rfl,_,_,rfl,rfl,?_⟩;have lq:=Gl.low z (BC X);have zq:Bd 1000 z.1/\Bd 1000 z.2:=⟨(Ma Gl.low G bl z (BC X)).mono b1,(Dr (Ab G.1) (G.2 z (BC X)) M).mono c1⟩;refine (show Ay _ _ _ _ _ _ from ⟨_,rfl,q,rfl,⟨_,SqT.of (sp _ _ (C _ _ U))⟩,ForJ.enumT (xs:=ys) (λj D f=>∃ R S:dc,D=[some (.ref p),some (.ref q),some (.ref w),some (.int (i:Int)),some (.ref px),R,S]/\Same H f/\∃ J,f w=some (.lst J)/\Nums f J ((List.range (l.length+m.length)).map λk=>K_ (a7 (L_ l d) (L_ m a) i j k) (d*a))) ⟨R,S,rfl,C.trans sp,_,sp _ _ P,?_⟩ ?_ ?_ ?_⟩)
  ·rw [Ua λk _=>congrArg (λz=>K_ z (d*a)) (Y4 (L_ l d) (L_ m a) i k)];exact F.tp (L' sp)
  ·rintro j D f _ ⟨_,_,_,L,_⟩;exact L _ _ U
  ·rintro j y pq D H2 hj ⟨y3,y4,rfl,L,A,B,e⟩ ac;obtain ⟨u,Y,py,rfl,aj⟩:=hM.get hj;have jl:j<m.length:=(BF.mp Y).1;have ud:Ae m j=u:=by unfold Ae;rw [AI,Y];rfl
   have sq:=AQ ac (.tup [.int (j:Int),.ref py]);have kl:i+j<l.length+m.length:=by omega
   have al:=e.tp (L' sq);obtain ⟨v,hv,g,rfl,hg⟩:=al.at (i:=i+j) (by rw [AK,A4];exact kl) (1,1);rw [AI,Kl _ kl] at hg;have lu:=W.low u (BC Y);have zu:Bd 1000 u.1/\Bd 1000 u.2:=⟨(Ma W.low I bm u (BC Y)).mono b1,(Dr (Ab I.1) (I.2 u (BC Y)) O).mono c1⟩;refine ⟨pq,_,rfl,upd_same,rfl,_,_,rfl,_,_,rfl,rfl,?_⟩;generalize upd H2 pq (.tup [.int (j:Int),.ref py])=H3 at *;have nq:Nb 1000 z:=⟨lq,zq⟩;have nu:Nb 1000 u:=⟨lu,zu⟩;have s3:=L.trans sq;have am:Nb 2101 (K_ (a7 (L_ l d) (L_ m a) i j (i+j)) (d*a)):=UY BP (bd i j (i+j) ⋯) (a0.mono ∅);have an:=rH nq nu;refine (show AR _ _ _ _ _ _ _ from A9 (AX (AF rfl (AX (AF rfl (AF rfl ⟨_,_,rfl,rfl,Cl (sq _ _ B) (DC (j:=i+j) ⋯ hv) (A9 (AF rfl (AF rfl ⟨px,py,z,u,rfl,⟨px,rfl,s3 _ _ ab⟩,⟨py,rfl,s3 _ _ aj⟩,nq.mono ∅,nu.mono ∅,λr1 ao=>?_⟩)))⟩))))));have Z:=AQ ao (.tup [.int (N' z u).1,.int (N' z u).2]);refine ⟨g,r1,_,N' z u,rfl,⟨g,rfl,Z _ _ hg⟩,⟨r1,rfl,upd_same⟩,am.mono ∅,an.mono ∅,λr2 ap=>?_⟩;have aq:=AQ ap (.tup [.int (X_ (K_ (a7 (L_ l d) (L_ m a) i j (i+j)) (d*a)) (N' z u)).1,.int (X_ (K_ (a7 (L_ l d) (L_ m a) i j (i+j)) (d*a)) (N' z u)).2]);have st:=(sq.trans Z).trans aq;have lz:A.length=l.length+m.length:=by rw [e.length,AK,A4]
   refine (show Do _ _ _ _ _ _ _ from AF rfl (AX (AF rfl (AF rfl ⟨_,_,rfl,rfl,w,A,_,i+j,rfl,rfl,st _ _ B,Gn ⋯ ⋯,⟨_,_,rfl,λb o h=>Kp.upd b o (Ax h w0) (st b o (L b o h)),_,upd_same,?_⟩⟩))));have hn:=(Nums.set (q:=X_ (K_ (a7 (L_ l d) (L_ m a) i j (i+j)) (d*a)) (N' z u)) ⟨r2,rfl,upd_same⟩ (i+j) (e.tp (L' st))).tp (Tp.updL (ys:=A.set (i+j) (V.ref r2)) (st _ _ B));rw [rJ (g:=λk=>K_ (a7 (L_ l d) (L_ m a) i (j+1) k) (d*a)) kl ?_ λk _ hk=>?_] at hn
   ·exact hn
   ·have w1:=LY G i;have w2:=LY I j;rw [zd] at w1;rw [ud] at w2;show K_ (a7 (L_ l d) (L_ m a) i (j+1) (i+j)) (d*a)=_;rw [Oo,nH rfl,rK BP lq.pos lu.pos w1 w2 rfl]
   ·show K_ (a7 (L_ l d) (L_ m a) i (j+1) k) (d*a)=_;rw [Oo,nG hk]
  ·rintro D H2 ⟨y3,y4,rfl,L,A,B,e⟩;rw [ly,Ua λk _=>congrArg (λz=>K_ z (d*a)) (show a7 (L_ l d) (L_ m a) i m.length k=ps (L_ l d) (L_ m a) (i+1) k by rw [<-n2];rfl)] at e;exact ⟨_,_,_,_,rfl,L,A,B,e⟩
 ·rintro D H1 ⟨x1,x2,R,S,rfl,C,J,P,F⟩;rw [lx] at F;have lo:=ZA (n:=l.length+m.length) G I;have pv:∀ k,D_ (K' (GX l m d a (l.length+m.length))) k=cv (D_ l) (D_ m) l.length k:=λk=>by rw [Jo lo,ZB Gl.low W.low G I]
  have aL:Aj (K' (GX l m d a (l.length+m.length))):=λq U=>lo q (GW U);refine BY (Df (AF rfl ⟨w,J,_,rfl,P,F,by rw [AK,A4];omega,λr vs H2 L hr hv=>k r vs _ H2 (C.trans L) hr hv aL (HM _) (vT pv) (T9 aL (HM _) BP (M.mul O) (N:=ps (L_ l d) (L_ m a) l.length) (λk=>?_) λk=>?_)⟩))
  ·exact (pv k).trans (LZ Gl.low W.low G I l.length k).symm
  ·exact LV bl bm l.length k
def qE {x y:Int} (a:x.natAbs<=4) (b:1<=y) (d:y<=3):Low (K_ x y).1 (K_ x y).2/\(K_ x y).2∣6/\Bd 5 ((K_ x y).1*(6 / (K_ x y).2)):=by
 have c:∀ x:Fin 9,∀ y:Fin 3,(0<(K_ ((x.val:Int) - 4) ((y.val:Int)+1)).2/\Int.gcd (K_ ((x.val:Int) - 4) ((y.val:Int)+1)).1 (K_ ((x.val:Int) - 4) ((y.val:Int)+1)).2=1)/\(6:Int) % (K_ ((x.val:Int) - 4) ((y.val:Int)+1)).2=0/\((K_ ((x.val:Int) - 4) ((y.val:Int)+1)).1*(6 / (K_ ((x.val:Int) - 4) ((y.val:Int)+1)).2)).natAbs<32:=by decide +kernel
 have h:=c ⟨(x+4).toNat,⋯⟩ ⟨(y - 1).toNat,⋯⟩;rw [show (((x+4).toNat:Nat):Int) - 4=x by omega,show (((y - 1).toNat:Nat):Int)+1=y by omega] at h;exact ⟨⟨h.1.1,h.1.2⟩,GG h.2.1,h.2.2⟩
def Sma (l:cZ):Prop:=Aj l/\Ov l 6/\∀ z∈L_ l 6,Bd 5 z
def Sma.snoc {l:cZ} {q:Nu} (h:Sma l) (c:Low q.1 q.2) (d:q.2∣6) (f:Bd 5 (q.1*(6 / q.2))):Sma (l++[q]):=by
 refine ⟨λr a=>(CS.mp a).elim (h.1 r) λz=>by rw [BL.mp z];exact c,⟨∅,λr a=>(CS.mp a).elim (h.2.1.2 r) λz=>by rw [BL.mp z];exact d⟩,λz b=>?_⟩;unfold L_ at b;rw [Cp] at b;exact (CS.mp b).elim (h.2.2 z) λe=>by rw [BL.mp e];exact f
def Sma.gq {l:cZ} (h:Sma l):Gq 5 3 (K' l):=⟨λq a=>h.1 q (GW a),HM l,6,(Mn h.2.1 h.2.2).1,aS ∅,(Mn h.2.1 h.2.2).2⟩
def qG (h:Io K vs H Q E):yY K (eC Q) (L2.start ["_law_box_here","_law_most","_law_row","_law_k"] vs) H:=by
 obtain ⟨p,m,n,rfl,hB,n1,m0,m3,k⟩:=h;refine Ag (show BG AD _ _ _ from ⟨AY _,λw N=>?_⟩);have sw:=AQ N (.lst []);have L:w≠p:=hB.ne N;have kw:Kp p H (upd H w (.lst [])):=λb o _ h=>sw b o h;have O:=hB.same sw;have P:upd H w (.lst []) w=some (HO.lst []):=upd_same;generalize upd H w (.lst [])=H1 at *;show S9 K _ _ _;refine Ff (show Ay _ _ _ _ _ _ from A9 (AF rfl (AX (AF rfl (F_ ⟨_,_,rfl,rfl,p,m+2,n,rfl,O,⋯,⋯,⋯,λd H2 d0 v B2 k2=>⟨d,rfl,⋯,⋯,?_⟩⟩)))));obtain ⟨u,rfl⟩:∃ u:Nat,d=(u:Int):=⟨d.toNat,⋯⟩;rw [Bg];have R:Kp p H H2:=kw.trans k2;refine ForR.by (λi T C=>i<=u/\∃ (A:d8) (l:cZ) (U:dc),T=[some (.ref p),some (.int m),some (.ref w),U]/\Box C p (n+1+2*i)/\Kp p H C/\C w=some (.lst A)/\Nums C A l/\l.length=i/\Sma l) ⟨AY _,[],[],none,rfl,B2.mono ⋯,R,k2 _ _ L P,trivial,rfl,(λ_ h=>nomatch h),⟨∅,(λ_ h=>nomatch h)⟩,(λ_ h=>nomatch h)⟩ ?_ ?_
 ·rintro i T H3 hi ⟨_,A,l,U,rfl,F,M,f,D,ll,S⟩;refine CD ?_;refine (show ah _ _ _ _ _ _ _ _ from ⟨_,rfl,.inl ⟨rfl,_,SqL.of f⟩,A9 (AX (A9 (AF rfl (F_ ⟨p,9,_,rfl,F,⋯,∅,∅,λv H4 a5 ab B4 W=>F_ ⟨_,_,rfl,rfl,AX (F_ (A9 (AF rfl (F_ ⟨p,3,_,rfl,B4,⋯,∅,∅,λB H5 ac aj B5 X=>⟨_,_,rfl,rfl,v - 4,1+B,rfl,⋯,λt Y=>?_⟩⟩))))⟩⟩))))⟩);have g:=AQ Y (.tup [.int (K_ (v - 4) (1+B)).1,.int (K_ (v - 4) (1+B)).2]);have G:=X _ _ L (W _ _ L f);have lz:=D.length;obtain ⟨c1,c2,c3⟩:=qE (x:=v - 4) (y:=1+B) ⋯ ⋯ ⋯;have t6:Tp H3 (upd H5 t (.tup [.int (K_ (v - 4) (1+B)).1,.int (K_ (v - 4) (1+B)).2])):=((F.tp W).trans (B4.tp X)).trans (L' g);refine ⟨w,A,_,rfl,rfl,g _ _ G,sz ⋯,⋯,_,l++[K_ (v - 4) (1+B)],_,rfl,((B5.same g).kp Kp.upd L.symm).mono ⋯,?_,upd_same,?_,by rw [CL,ll];rfl,S.snoc c1 c2 c3⟩
  ·have kk:=(M.trans W).trans X;have w0:H w=none:=N;exact λb o hb h=>Kp.upd b o (Ax h w0) (g b o (kk b o hb h))
  ·exact ((D.tp t6).append (Nums.one ⟨t,rfl,upd_same⟩)).tp (Tp.updL (g _ _ G))
 ·rintro T H3 ⟨_,A,l,U,rfl,F,M,f,D,ll,S⟩;have lz:=D.length;have u5:(u:Int)<=m+1:=by omega
  show S8 K _ _ _;refine Fn (Dh (AX (Df (AF rfl ⟨w,A,l,rfl,f,D,⋯,λr vs H4 s4 hr hv=>(show BJ AD _ _ _ from ⟨AY _,λe he=>?_⟩)⟩))));have Z:=AQ he (.tup []);have j:=s4.trans Z;refine ⟨DD (K' l),.tuple [],decide (K' l=[]),F6 (Z _ _ hr) (hv.tp (L' Z)),.tup upd_same .nil,bR _ 6,∅,?_,_,rfl,Ah (λc=>?_) (λc=>?_)⟩
  ·rw [decide_eq_true_iff];unfold DD;refine ⟨λz=>by rw [z];rfl,λz=>?_⟩;injection z with z;exact List.map_eq_nil_iff.mp z
  ·refine BY (ZX (DT (F_ (F_ ⟨Cn,λa ha=>⟨Cz,λt Y=>?_⟩⟩))));have g:=AQ ha (.tup [.int 2,.int 3]);have s7:=AQ Y (.tup [.ref a]);have I:=j.trans (g.trans s7);refine k t [.ref a] [(2,3)] _ upd_same ⟨⟨a,rfl,s7 _ _ upd_same⟩,trivial⟩ ⟨?_,?_,6,⟨∅,?_⟩,aS ∅,?_⟩ (by simp) (by show ((1:Nat):Int)<=m+1;omega) ((F.same I).mono ⋯) (M.trans (Kp.of_same I))
   ·intro q J;rw [BL.mp J];exact ⟨∅,∅⟩
   ·intro q J;obtain rfl:=nR J;decide
   ·intro q J;rw [BL.mp J];decide
   ·intro z hz;unfold L_ at hz;rw [BL.mp hz];exact aS ∅
  ·refine Hs ?_;show S7 K _ _ _;have c:K' l≠[]:=λz=>c (nI z);refine BY (Df (AF rfl ⟨w,A,l,rfl,j _ _ f,D.tp (L' j),⋯,λr2 a0 H6 g a3 a4=>?_⟩));have I:=j.trans g;have tl:=Jn l;exact k r2 a0 (K' l) H6 a3 a4 S.gq c ⋯ ((F.same I).mono ⋯) (M.trans (Kp.of_same I))
structure Rws (H H':Hp) (rw q:Addr) (xs:d8) (A:List cY):Prop where
 s:Same H H'
 rn:H rw=none
 hr:H' rw=some (.lst xs)
 nr:NRs (aU H' rw q) xs A
def Rws.len {H H':Hp} {rw q:Addr} {xs:d8} {A:List cY} (I:Rws H H' rw q xs A):xs.length=A.length:=I.nr.length
def Rws.new {H H':Hp} {rw r:Addr} {xs:d8} {A:List cY} {o:HO} (I:Rws H H' rw rw xs A) (h:H' r=none):Rws H (upd H' r o) rw r xs A/\r≠rw/\H r=none:=by
 have c:=AQ h o;refine ⟨⟨I.s.trans c,I.rn,c _ _ I.hr,I.nr.tp λb z d=>?_⟩,(Ax I.hr h).symm,I.s.free h⟩;have a:=Kk _ _ d;exact JI (GE d).1 (Ax a h) (c _ _ a)
def Rws.ext {H H' a:Hp} {rw q:Addr} {xs:d8} {A:List cY} (I:Rws H H' rw q xs A) (s:Same H' a):Rws H a rw q xs A:=
 ⟨I.s.trans s,I.rn,s _ _ I.hr,I.nr.tp (UZ λb o _ _ h=>s b o h)⟩
def Rws.put {H H':Hp} {rw r:Addr} {xs:d8} {A:List cY} {o:HO} (I:Rws H H' rw r xs A) (n:r≠rw) (h:H r=none):Rws H (upd H' r o) rw r xs A:=
 ⟨λb z a=>Kp.upd b z (Ax a h) (I.s b z a),I.rn,Kp.upd _ _ n.symm I.hr,I.nr.tp (UZ λb z _ c a=>Kp.upd b z c a)⟩
def Rws.app {H H':Hp} {rw r:Addr} {xs d:d8} {A:List cY} {l:cZ} (I:Rws H H' rw r xs A) (n:r≠rw) (h:H' r=some (.lst d)) (e:Nums H' d l):Rws H (upd H' rw (.lst (xs++[.ref r]))) rw rw (xs++[.ref r]) (A++[l]):=by
 have k:Kp rw H' (upd H' rw (.lst (xs++[.ref r]))):=Kp.upd;refine ⟨λb z a=>k b z (Ax a I.rn) (I.s b z a),I.rn,upd_same,(I.nr.tp (H':=aU (upd H' rw (.lst (xs++[.ref r]))) rw rw) λb z a=>?_).snoc (JI n n (k _ _ n h)) ?_⟩
 ·exact JI (GE a).1 (GE a).1 (k _ _ (GE a).1 (Kk _ _ a))
 ·refine e.tp λb f a=>?_;have c:b≠rw:=λz=>by rw [z,I.hr] at a;cases a
  exact JI c c (k _ _ c a)
def Rws.nrs {H H':Hp} {rw q:Addr} {xs:d8} {A:List cY} (I:Rws H H' rw q xs A):NRs H' xs A:=I.nr.tp Kk
noncomputable def eN (l:cZ) (h j:Nat):Nu:=if j<=h then Ae l (h - j) else (0,1)
noncomputable def eR (l m:cZ) (h:Nat):cZ:=(List.range (m.length - 1)).map (eN l h)++(List.range (l.length - 1)).map (eN m h)
def Uf {b c:Nat} {l:cZ} (G:Gq b c l) (h j:Nat):Low (eN l h j).1 (eN l h j).2:=by
 unfold eN;by_cases q:j<=h
 ·rw [nH q];exact FM G.low _
 ·rw [nG q];exact ⟨∅,∅⟩
def qH {l:cZ} {n k:Nat} (h:k<l.length+n):(l++List.replicate n ((0,1):Nu))[k]?=some (Ae l k):=by
 unfold Ae;by_cases q:k<l.length
 ·rw [EF q,AI,AT q];rfl
 ·rw [EE ⋯,Dz,nH ⋯,AI,Bp ⋯];rfl
def Ug {P:V->Hp->Prop} {H:Hp} {f:L2.St} {p q:Addr} {xs ys:d8} {l m:cZ} {w x:Nat} {h j:Nat} (N:f[w]?=some (some (.ref p))) (O:f[x]?=some (some (.ref q))) (y:f[3]?=some (some (.int (h:Int)))) (A:f[5]?=some (some (.int (j:Int)))) (hp:H p=some (.tup xs)) (R:H q=some (.tup ys)) (B:Nums H xs l) (S:ys.length=m.length) (l9:l.length<=20) (m9:m.length<=20) (hh:h<l.length+m.length)
  (k:∀ v g,Same H g->isN g v (eN l h j)->P v g):au (As (A_ bI (AB 3) (AB 5))) (A_ gL (A_ Fx (C' IH (AC (AB w) AD)) (A_ D7 (BG (AC (BJ (AC (aM 0) (AC (aM 1) AD))) AD)) (C' Ca (AC (AB x) AD)))) (A_ BE (AB 3) (AB 5))) (BJ (AC (aM 0) (AC (aM 1) AD))) f H P:=by
 have lx:=B.length;refine Dh (AX (AF y (AF A ⟨_,_,rfl,rfl,_,rfl,Ah (λc=>?_) (λc=>?_)⟩)))
 ·have c:(j:Int)<=(h:Int):=nJ c;refine AX (AX (Cm (AF N ⟨p,xs,rfl,hp,λa n=>?_⟩)));have C:=AQ n (.lst xs);have r:upd H a (.lst xs) a=some (HO.lst xs):=upd_same;generalize upd H a (.lst xs)=T at *;refine AX (En (DT (F_ (F_ ⟨Cn,λb D=>⟨Cz,λc F=>Cm (AF O ⟨q,ys,rfl,?_,c,_,[.ref b],rfl,rfl,upd_same,⋯,⋯,sz (by rw [List.length_singleton];omega),λd U=>?_⟩)⟩⟩))))
  ·exact AQ F _ _ _ (AQ D _ _ _ (C _ _ R))
  rw [Bg,FR,S];have W:=AQ D (.tup [.int 0,.int 1]);have G:=AQ F (.lst [.ref b]);have sd:=AQ U (.lst (List.replicate m.length (V.ref b)));have I:=(W.trans G).trans sd;have u:=sd _ _ (G _ _ (upd_same (H:=T) (a:=b) (o:=HO.tup [V.int 0,V.int 1])));refine ⟨a,d,xs,_,rfl,rfl,I _ _ r,upd_same,sz (by rw [Dj];omega),λe X=>?_⟩;have J:=AQ X (.lst (xs++List.replicate m.length (V.ref b)));have L:=(C.trans I).trans J;have Y:Nums _ (xs++List.replicate m.length (V.ref b)) (l++List.replicate m.length (0,1)):=(B.tp (L' L)).append (Nums.rep ⟨b,rfl,J _ _ u⟩ _);obtain ⟨v,Z,M⟩:=Y.at (i:=h - j) (by rw [CL,Dj];omega) (0,1);refine AX (AF y (AF A ⟨_,_,rfl,rfl,Cl upd_same (DC (j:=h - j) ⋯ Z) (k v _ L ?_)⟩));rw [AI,qH ⋯] at M;unfold eN;rw [nH ⋯];exact M
 ·have c:¬ (j:Int)<=(h:Int):=λz=>c (nI z);refine DT (F_ (F_ ⟨Cn,λa n=>k _ _ (AQ n _) ?_⟩));unfold eN;rw [nG ⋯];exact ⟨a,rfl,upd_same⟩
def JJ {a:Type} (f:Nat->a) (n:Nat):(List.range (n+1)).map f=(List.range n).map f++[f n]:=by rw [FZ,Cp];rfl
def JK {w:Addr} {xs:d8} {y:V} {H:Hp} {Q:VK} (a:H w=some (.lst xs)) (b:xs.length<=1000) (h:Q .non (upd H w (.lst (xs++[y])))):D6 (.ref w) [y] H Q:=⟨w,xs,y,rfl,rfl,a,EG b (by rw [sizeLine_eq];decide),h⟩
def JL {K:W.Frag} {i:Nat} {w:Addr} {b:TE} {D:Ends} {a:L2.St} {H:Hp} {xs:d8} (c:a[i]?=some (some (.ref w))) (d:H w=some (.lst xs)) (h:b a H λy e=>D6 (.ref w) [y] e λ_ f=>D.nx a f):EL (ah K "list" D6 (AB i) (AC b AD)) D a H:=⟨_,c,.inl ⟨rfl,_,SqL.of d⟩,h⟩
def qJ (l m:cZ) (h:Nat):(eR l m h).length=m.length - 1+(l.length - 1):=by unfold eR;rw [CL,AK,AK,A4,A4]
def qK (l m:cZ) (h j:Nat) (a:j<m.length - 1+(l.length - 1)):vl (eR l m h) j=Sr.eqn (sr l) (sr m) (m.length - 1) h j:=by
 have e:∀ (l:cZ) (k:Nat),val (eN l h k)=if k<=h then (sr l).c (h - k) else 0:=λl k=>by
  unfold eN;by_cases q:k<=h
  ·rw [nH q,nH q];rfl
  ·rw [nG q,nG q];show ((0:Int):Rat) / ((1:Int):Rat)=0;ext
 unfold vl eR Sr.eqn;by_cases q:j<m.length - 1
 ·rw [nH q,<-e,AI,EF (by rw [AK,A4];exact q),Aa,CV q];rfl
 ·rw [nG q,<-e,AI,EE (by rw [AK,A4];omega),AK,A4,Aa,CV ⋯];rfl
def qL {l m:cZ} {h:Nat} {P:Nu->Prop} (a:∀ j,P (eN l h j)) (b:∀ j,P (eN m h j)):∀ q∈eR l m h,P q:=λq c=>by
 rcases CS.mp c with z | z
 ·obtain ⟨j,_,rfl⟩:=Ap.mp z;exact a j
 ·obtain ⟨j,_,rfl⟩:=Ap.mp z;exact b j
def Uh {b c:Nat} {l:cZ} (d:1<=b) (f:1<=c) {M:Int} (G:Gq b c l) (a:Ov l M) (h j:Nat):Bd b (eN l h j).1/\(eN l h j).2∣M:=by
 unfold eN;by_cases q:j<=h
 ·rw [nH q];unfold Ae;rw [AI];cases e:l[h - j]? with
  | none=>exact ⟨Cj b,Int.one_dvd M⟩
  | some z=>exact ⟨G.clr.2.2 z (BC e),a.2 z (BC e)⟩
 ·rw [nG q];exact ⟨Cj b,Int.one_dvd M⟩
theorem TFs.ker {H:Hp} {w:Nat} {A:List cY}:∀ {xs:d8} {F:List cY},TFs H w A xs F->xs.length=F.length/\∀ l∈F,∀ i,i<A.length->su w (λj=>vr A i j*vl l j)=0
 | [],[],_=>⟨rfl,(λ_ h=>nomatch h)⟩
 | _::_,_::_,h=>by
   obtain ⟨⟨u,f,_,_,_,_,_,e⟩,a⟩:=h;obtain ⟨b,c⟩:=TFs.ker a;exact ⟨by rw [Cd,Cd,b],λl d=>(Ep.mp d).elim (λz=>by rw [z];exact e) (c l)⟩
 | [],_::_,h=>h.elim
 | _::_,[],h=>h.elim
noncomputable def Mz (A:List cY):W.Dat:=.list (A.map λl=>.list (l.map FS))
theorem Ui {H:Hp}:∀ {xs:d8} {A:List cY},NRs H xs A->RepA H xs (A.map λl=>.list (l.map FS))
 | [],[],_=>.nil
 | _::_,_::_,h=>by
   obtain ⟨⟨a,e,rfl,b,c⟩,d⟩:=h;exact .cons (ZW b c) (Ui d)
 | [],_::_,h=>h.elim
 | _::_,[],h=>h.elim
def qN (A:List cY):W.kqdOk 8 (Mz A)=true:=by
 show (List.all (A.map λl=>W.Dat.list (l.map FS)) (W.kqdOk 7))=true;rw [List.all_map,List.all_eq_true];intro l _;show (List.all (l.map FS) (W.kqdOk 6))=true;rw [List.all_map,List.all_eq_true];intro q _;exact okN q 5
def qO (n i:Nat):vl (List.replicate n (0,1)) i=0:=by
 unfold vl;rw [AI,Dz];by_cases h:i<n
 ·rw [nH h];show ((0:Int):Rat) / ((1:Int):Rat)=0;ext
 ·rw [nG h];show ((0:Int):Rat) / ((1:Int):Rat)=0;ext
def qP {l m:cZ} (Gl:Gq 14 6 l) (e:Gq 14 6 m) (h:Nat):FX 2000 (eR l m h++[(0,1)])/\∃ M,Ov (eR l m h++[(0,1)]) M/\Bd 1900 M:=by
 obtain ⟨c,i,f,_⟩:=Gl.ov;obtain ⟨d,k,g,_⟩:=e.ov;have n:=Uh ∅ ∅ Gl i h;have o:=Uh ∅ ∅ e k h;have p:=DG i.1 k.1
 have one:∀ q∈eR l m h++[((0,1):Nu)],Low q.1 q.2/\Bd 14 q.1/\q.2∣c*d:=λq a=>by
  rcases CS.mp a with z | z
  ·exact qL (P:=λq=>Low q.1 q.2/\Bd 14 q.1/\q.2∣c*d) (λj=>⟨Uf Gl h j,(n j).1,Bw (n j).2 (Int.dvd_mul_right ..)⟩) (λj=>⟨Uf e h j,(o j).1,Bw (o j).2 (Int.dvd_mul_left ..)⟩) q z
  ·rw [BL.mp z];exact ⟨⟨∅,∅⟩,Cj _,Int.one_dvd _⟩
 have b:Bd 12 (c*d):=f.mul g;exact ⟨⟨λq a=>(one q a).1,λq a=>⟨(one q a).2.1.mono ∅,(Dr (Ab p) (one q a).2.2 b).mono ∅⟩⟩,c*d,⟨p,λq a=>(one q a).2.2⟩,b.mono ∅⟩
def Uj {f:Nat->cZ} {n i:Nat} (h:i<n):((List.range n).map f).getD i []=f i:=by rw [AI,Aa,CV h];rfl
def qQ {n i:Nat} (h:i<n):(List.replicate n ((0,1):Nu)).getD i (0,1)=(0,1):=by rw [AI,Dz,nH h];rfl
def qR (h:MN K vs H Q E):xA K (eC Q) (L2.start ["_law_kp","_law_kq","_law_rows","_law_high","_law_row","_law_j"] vs) H:=by
 obtain ⟨p,q,xs,ys,l,m,G,A,B,a,b,d,rfl,hp,hq,hN,hM,Gl,Gm,ll,lm,l6,m6,g,k⟩:=h;have lx:=hN.length;have ly:=hM.length;refine Ag (show BG AD _ _ _ from ⟨AY _,λw hw=>?_⟩);have I0:Rws H (upd H w (.lst [])) w w [] []:=⟨AQ hw _,hw,upd_same,trivial⟩;generalize upd H w (.lst [])=H0 at *;show TL K _ _ _;refine Ff (show Ay _ _ _ _ _ _ from AX (AX (Cm (AF rfl ⟨p,xs,rfl,I0.s _ _ hp,Cm (AF rfl ⟨q,ys,rfl,I0.s _ _ hq,_,_,rfl,rfl,F_ ⟨_,_,rfl,rfl,_,rfl,⋯,⋯,?_⟩⟩)⟩))));rw [show ((xs.length:Int)+(ys.length:Int) - 2).toNat=b+d+(a+d) by omega];refine ForR.by (λi J I=>i<=b+d+(a+d)/\∃ (S:d8) (x3 x4 C:dc),J=[some (.ref p),some (.ref q),some (.ref w),x3,x4,C]/\Rws H I w w S ((List.range i).map (eR l m))) ⟨AY _,[],none,none,none,rfl,I0⟩ ?_ ?_
 ·rintro i J U R ⟨_,S,x3,x4,C,rfl,N⟩;refine CD ?_;rw [show (0:Int)+(i:Int)=(i:Int) by omega];have lu:=N.len;rw [AK,A4] at lu;show TH K _ _ _;refine Ag (show BG AD _ _ _ from ⟨AY _,λr T=>?_⟩);obtain ⟨I2,nr,r0⟩:=N.new (o:=.lst []) T;have a0:upd U r (.lst []) r=some (.lst []):=upd_same;generalize upd U r (.lst [])=H2 at *;show TF K _ _ _;refine Ff (show Ay _ _ _ _ _ _ from AX (Cm (AF rfl ⟨q,ys,rfl,I2.s _ _ hq,F_ ⟨_,_,rfl,rfl,_,rfl,⋯,⋯,?_⟩⟩)));rw [show ((ys.length:Int) - 1).toNat=m.length - 1 by omega];refine ForR.by (λj J I=>j<=m.length - 1/\∃ (D:d8) (C:dc),J=[some (.ref p),some (.ref q),some (.ref w),some (.int (i:Int)),some (.ref r),C]/\Rws H I w r S ((List.range i).map (eR l m))/\I r=some (.lst D)/\Nums I D ((List.range j).map (eN l i))) ⟨AY _,[],C,rfl,I2,a0,trivial⟩ ?_ ?_
  ·rintro j J H3 Y ⟨_,D,C,rfl,y,n,O⟩;refine CD ?_;rw [show (0:Int)+(j:Int)=(j:Int) by omega];have lz:=O.length;rw [AK,A4] at lz;refine JL rfl n (Ug (m:=m) (h:=i) (j:=j) rfl rfl rfl rfl (y.s _ _ hp) (y.s _ _ hq) (hN.tp (L' y.s)) ly ⋯ ⋯ ⋯ λv H4 P nv=>JK (P _ _ n) ⋯ ⟨⋯,_,_,rfl,(y.ext P).put nr r0,upd_same,?_⟩);rw [JJ];exact ((O.tp (L' P)).append (Nums.one nv)).tp (Tp.updL (P _ _ n))
  rintro J H3 ⟨_,D,C,rfl,y,n,O⟩;show TD K _ _ _;refine Ff (show Ay _ _ _ _ _ _ from AX (Cm (AF rfl ⟨p,xs,rfl,y.s _ _ hp,F_ ⟨_,_,rfl,rfl,_,rfl,⋯,⋯,?_⟩⟩)));rw [show ((xs.length:Int) - 1).toNat=l.length - 1 by omega];refine ForR.by (λj J I=>j<=l.length - 1/\∃ (D:d8) (C:dc),J=[some (.ref p),some (.ref q),some (.ref w),some (.int (i:Int)),some (.ref r),C]/\Rws H I w r S ((List.range i).map (eR l m))/\I r=some (.lst D)/\Nums I D ((List.range (m.length - 1)).map (eN l i)++(List.range j).map (eN m i))) ⟨AY _,D,C,rfl,y,n,by rw [List.range_zero,List.map_nil,List.append_nil];exact O⟩ ?_ ?_
  ·rintro j J H3 Y ⟨_,D,C,rfl,y,n,O⟩;refine CD ?_;rw [show (0:Int)+(j:Int)=(j:Int) by omega];have lz:=O.length;rw [CL,AK,A4,AK,A4] at lz;refine JL rfl n (Ug (m:=l) (h:=i) (j:=j) rfl rfl rfl rfl (y.s _ _ hq) (y.s _ _ hp) (hM.tp (L' y.s)) lx ⋯ ⋯ ⋯ λv H4 P nv=>JK (P _ _ n) ⋯ ⟨⋯,_,_,rfl,(y.ext P).put nr r0,upd_same,?_⟩);rw [JJ,<-List.append_assoc];exact ((O.tp (L' P)).append (Nums.one nv)).tp (Tp.updL (P _ _ n))
  rintro J H3 ⟨_,D,C,rfl,y,n,O⟩;show TC K _ _ _;refine JL rfl y.hr (AF rfl (JK y.hr ⋯ ⟨⋯,S++[.ref r],_,_,_,rfl,?_⟩));rw [JJ];exact y.app nr n O
 rintro J U ⟨_,S,x3,x4,C,rfl,N⟩;have lu:=N.len;rw [AK,A4] at lu;obtain ⟨L,M⟩:∃ L,L=(List.range (b+d+(a+d))).map (eR l m):=⟨_,rfl⟩;rw [<-M] at N;have lA:L.length=b+d+(a+d):=by rw [M,AK,A4]
 have aA:∀ i,i<b+d+(a+d)->L.getD i []=eR l m i:=λi R=>by rw [M,Uj R]
 show TK K _ _ _;refine Fn (Dh (AX (AF rfl (show BG AD _ _ _ from ⟨AY _,λe he=>?_⟩))));have s2:=AQ he (.lst []);refine ⟨Mz L,.list [],decide (L=[]),.lst (s2 _ _ N.hr) (Ui (N.nrs.tp s2)),.lst upd_same .nil,qN L,∅,?_,_,rfl,Ah (λc=>?_) (λc=>?_)⟩
 ·rw [decide_eq_true_iff];unfold Mz;refine ⟨λz=>by rw [z];rfl,λz=>?_⟩;injection z with z;exact List.map_eq_nil_iff.mp z
 ·have c:L=[]:=nJ c;rw [c] at lA;have lA:0=b+d+(a+d):=lA;obtain rfl:d=0:=by omega
  exact BY (F_ (k _ (N.s.trans s2)))
 have c:L≠[]:=λz=>c (nI z);have I2:=N.ext s2;generalize upd U e (.lst [])=H2 at *;refine Hs ?_;show TJ K _ _ _;refine BY (Cm (AX (A9 (AF rfl (AX (En (DT (F_ (F_ ⟨Cn,λt ht=>⟨Cz,λt2 a3=>?_⟩⟩)))))))));have st:=AQ ht (.tup [.int 0,.int 1]);have Z:=AQ a3 (.lst [.ref t]);have I4:=I2.ext (st.trans Z);refine FT (AF rfl (FU I4.hr ⟨t2,_,[.ref t],rfl,rfl,upd_same,⋯,⋯,sz (by rw [List.length_singleton];omega),λz hz=>?_⟩));rw [Bg,FR,lu];have s5:=AQ hz (.lst (List.replicate (b+d+(a+d)) (V.ref t)));have I5:=I4.ext s5;have N5:Nums _ (List.replicate (b+d+(a+d)) (V.ref t)) (List.replicate (b+d+(a+d)) (0,1)):=Nums.rep ⟨t,rfl,s5 _ _ (Z _ _ upd_same)⟩ _;refine ⟨w,z,S,_,L,_,b+d+(a+d),b+d+(a+d),rfl,I5.hr,upd_same,I5.nrs,N5,lA,Dj,λr T=>?_,λz=>z,⋯,⋯,λi R=>?_,λr x f D gs X F H6 s6 T hx hX lX oX eX hf hF hW=>?_,λr x D W H6 n0 s6 T hx hW lW oW sW nW=>?_⟩
 ·rw [M] at T;obtain ⟨i,_,rfl⟩:=Ap.mp T;rw [qJ];omega
 ·rw [aA i R,qQ R];exact qP Gl Gm i
 ·refine (show gT (.ref r) (.int 2) H6 (λx U=>Ca [x] U Q) from Jw T (GR _ _ _) ⟨f,gs,rfl,hf,?_⟩);obtain ⟨lg,kF⟩:=hF.ker;obtain ⟨rr,rk,rA,rF⟩:=hW.ex;have em:m.length - 1=b+d:=by omega
  have vE:∀ h j,j<b+d+(a+d)->vl (eR l m h) j=Sr.eqn (sr l) (sr m) (b+d) h j:=λh j Y=>by rw [<-em];exact qK l m h j ⋯
  have e:=g.frees rk rA rF (λu hu=>by
   obtain ⟨i,R,eu⟩:=hu.get;exact ⟨i,λj Y=>by rw [eu j];unfold vr;rw [aA i ⋯];exact vE i j Y⟩) (λh hh=>⟨vl (eR l m h),⟨eR l m h,by rw [M];exact Ap.mpr ⟨h,C5.mpr hh,rfl⟩,rfl⟩,λj Y=>vE h j Y⟩) (λv hv u hu=>by
   obtain ⟨lv,a4,rfl⟩:=hv;obtain ⟨i,R,eu⟩:=hu.get;rw [AU (g:=λj=>vr L i j*vl lv j) _ λj _=>by rw [eu j]];exact kF lv a4 i R)
  rw [lg,e];exact k _ (I5.s.trans s6)
 ·refine absurd (CK λi _=>?_) nW;rw [qO];ext
theorem Sn.nought {w:Nat} {P:(dL)->Prop} (h:∀ u,P u->∀ j,j<w->u j=0) {v:dL} (b:Sn w P v):∀ j,j<w->v j=0:=by
 induction b with
 | zer e=>exact e
 | add c hp _ d f=>exact λj a=>by rw [d j a,h _ hp j a,f j a];ext
def qS {w k:Nat} {P:(dL)->Prop} (r:Rk w P k) (h:∀ u,P u->∀ j,j<w->u j=0):k=0:=by
 obtain ⟨b,a,c,_⟩:=r.ex;refine Classical.byContradiction λf=>?_;have:=a (λ_=>1) (λj d=>CK λt e=>by rw [Sn.nought h (c t e) j d];ext) 0 ⋯;exact absurd this ∅
noncomputable def pN (i j:Nat):Nu:=(((i:Int) - 1) ^ j,1)
noncomputable def pR (n i:Nat):cZ:=(List.range n).map (pN i)
noncomputable def xQ (i:Nat):Rat:=(((i:Int) - 1:Int):Rat)
def qT (i j:Nat):val (pN i j)=xQ i ^ j:=by
 unfold val pN xQ;show ((((i:Int) - 1) ^ j:Int):Rat) / ((1:Int):Rat)=_;rw [Rat.intCast_pow,show ((1:Int):Rat)=1 from rfl];ext
def Uk {i j:Nat} (a:i<=6) (c:j<=6):Nb 20 (pN i j):=by
 refine ⟨Mw _,?_,aS (show (1:Int).natAbs<2 ^ 20 by decide)⟩;have b:Bd 3 ((i:Int) - 1):=aS (by show ((i:Int) - 1).natAbs<8;omega);exact (b.pow j).mono ⋯
def qU (n:Int):K_ n 1=(n,1):=by
 unfold K_;rw [Int.gcd_one_right];show (n / 1,(1:Int) / 1)=(n,1);rw [Int.ediv_one];rfl
def qV (i j:Nat):N' (pN i j) ((i:Int) - 1,1)=pN i (j+1):=by
 unfold N' pN;show K_ (((i:Int) - 1) ^ j*((i:Int) - 1)) (1*1)=_;rw [show (1:Int)*1=1 by decide,qU,Int.pow_succ]
def qW {i j:Nat} (h:i<j):xQ i≠xQ j:=λe=>by
 have:((i:Int) - 1)=(j:Int) - 1:=by unfold xQ at e;exact_mod_cast e
 omega
def qX (l:cZ) (x:Rat):bV l x=su l.length λj=>x ^ j*D_ l j:=by
 unfold bV;rw [P9 l.length (AV _)];exact AU _ λi _=>by rw [Nat.sub_self,Nat.zero_add]
structure Due (l:cZ) (B:cZ) (i:Nat):Prop where
 ln:B.length=i
 ok:∀ t,t<i->Nb 300 (B.getD t (0,1))/\val (B.getD t (0,1))=bV l (xQ t)
def Due.snoc {l B:cZ} {i:Nat} {z:Nu} (h:Due l B i) (a:Nb 300 z) (b:val z=bV l (xQ i)):Due l (B++[z]) (i+1):=by
 refine ⟨by rw [CL,h.ln];rfl,λt c=>?_⟩;by_cases q:t<i
 ·rw [AI,EF (by rw [h.ln];exact q),<-AI];exact h.ok t q
 ·obtain rfl:t=i:=by omega
  rw [AI,EE (by rw [h.ln];exact AV _),h.ln,Nat.sub_self];exact ⟨a,b⟩
def qY {l B:cZ} {n i:Nat} (D:Due l B n) (b:i<n) (e:n<=6):FX 2000 (pR n i++[B.getD i (0,1)])/\∃ M,Ov (pR n i++[B.getD i (0,1)]) M/\Bd 1900 M:=by
 have d:=(D.ok i b).1
 have p:∀ q∈pR n i,Nb 20 q/\q.2=1:=λq a=>by
  obtain ⟨j,c,rfl⟩:=Ap.mp a;have:=C5.mp c;exact ⟨Uk ⋯ ⋯,rfl⟩
 refine ⟨⟨λq a=>?_,λq a=>?_⟩,(B.getD i (0,1)).2,⟨d.1.pos,λq a=>?_⟩,d.2.2.mono ∅⟩
 ·rcases CS.mp a with z | z
  ·exact (p q z).1.1
  ·rw [BL.mp z];exact d.1
 ·rcases CS.mp a with z | z
  ·exact ⟨(p q z).1.2.1.mono ∅,(p q z).1.2.2.mono ∅⟩
  ·rw [BL.mp z];exact ⟨d.2.1.mono ∅,d.2.2.mono ∅⟩
 ·rcases CS.mp a with z | z
  ·rw [(p q z).2];exact Int.one_dvd _
  ·rw [BL.mp z];exact Int.dvd_refl _
def qZ {n i j:Nat} (a:j<n):vl (pR n i) j=xQ i ^ j:=by
 unfold vl pR;rw [AI,Aa,CV a];exact qT i j
def pC {l X:cZ} {n:Nat} (c:Aj l) (d:Aj X) (ll:l.length=n) (f:X.length=n) (e:∀ j,j<n->vl X j=D_ l j):X=l:=by
 refine List.ext_getElem ⋯ λj a b=>?_;have:=e j ⋯;unfold vl D_ Ae at this;rw [AI,AI,AT a,AT b] at this;exact HN (d _ (CT a)) (c _ (CT b)) this
def Ul (l:cZ):W.kqdOk 8 (.tuple [.str "told", DD l,.tuple []])=true:=by
 have a:=bR l 5;have b:W.kqdOk 7 (.str "told")=true:=by first | decide | decide +kernel
 have c:W.kqdOk 7 (.tuple [])=true:=by first | decide | decide +kernel
 show (List.all [.str "told", DD l,.tuple []] (W.kqdOk 7))=true;rw [List.all_cons,List.all_cons,List.all_cons,List.all_nil,a,b,c];rfl
def pE {K:W.Frag} {H H':Hp} {D:Ends} {p w:Addr} {xs e:d8} {l:cZ} {i:Nat} {P:dc} (hp:H p=some (.tup xs)) (lx:xs.length=l.length) (R:1<=l.length) (l6:l.length<=6) (S:i<=6) (I:Rws H H' w w e ((List.range i).map (pR l.length)))
  (k:∀ e r u,Rws H u w w e ((List.range (i+1)).map (pR l.length))->D.nx [some (.ref p),some (.ref w),some (.int (i:Int)),some (.ref r)] u) :
  TN K D [some (.ref p),some (.ref w),some (.int (i:Int)),P] H':=by
 have T:=I.len;rw [AK,A4] at T;refine Ag (En (DT (F_ (F_ ⟨Cn,λt x=>⟨Cz,λr J=>?_⟩⟩))));have h:=AQ x (.tup [.int 1,.int 1]);obtain ⟨U,L,X⟩:=(I.ext h).new (o:=.lst [.ref t]) J;have y:=AQ J (.lst [.ref t]);have Y:Nums (upd (upd H' t (.tup [.int 1,.int 1])) r (.lst [.ref t])) [.ref t] ((List.range 1).map (pN i)):=⟨⟨t,rfl,by rw [y _ _ upd_same];unfold pN;rw [Int.pow_zero]⟩,trivial⟩;have A:upd (upd H' t (.tup [.int 1,.int 1])) r (.lst [.ref t]) r=some (HO.lst [V.ref t]):=upd_same;generalize upd (upd H' t (.tup [.int 1,.int 1])) r (.lst [.ref t])=u at *;show TM K _ _ _;refine Ff (DJ (λm M H'=>∃ (j:Nat) (d:d8),m=l.length - j/\1<=j/\j<=l.length/\M=[some (.ref p),some (.ref w),some (.int (i:Int)),some (.ref r)]/\Rws H H' w r e ((List.range i).map (pR l.length))/\H' r=some (.lst d)/\Nums H' d ((List.range j).map (pN i))) (l.length - 1) ⟨1,_,rfl,AV _,R,rfl,U,A,Y⟩ ?_);rintro m M H3 ⟨j,d,rfl,j1,jl,rfl,f,a,n⟩;have N:=n.length;rw [AK,A4] at N;refine Dh (AX (FT (AF rfl (FU a (Cm (AF rfl ⟨p,xs,rfl,f.s _ _ hp,_,_,rfl,rfl,_,rfl,Ah (λc=>?_) (λc=>?_)⟩))))))
 ·have c:(d.length:Int)<(xs.length:Int):=nJ c;obtain ⟨j,rfl⟩:∃ Z,j=Z+1:=⟨j - 1,⋯⟩;obtain ⟨v,hv,O⟩:=n.at (i:=j) (by rw [AK,A4];omega) (0,1);rw [AI,Aa,CV ⋯] at O;obtain ⟨pv,rfl,B⟩:=O;refine ⟨λg b=>∃ d,g=[some (.ref p),some (.ref w),some (.int (i:Int)),some (.ref r)]/\Rws H b w r e ((List.range i).map (pR l.length))/\b r=some (.lst d)/\Nums b d ((List.range (j+2)).map (pN i)),λg b ⟨C,e1,e2,e3,e4⟩=>⟨l.length - (j+2),⋯,j+2,C,rfl,⋯,⋯,e1,e2,e3,e4⟩,?_⟩;refine JL rfl a (A9 (AX (AF rfl (show R_ _ _ _ _ _ from ⟨_,rfl,Cl a (MZ ⋯ (by rw [N];exact hv)) (DT (AX (AF rfl (F_ ⟨_,_,rfl,rfl,F_ ⟨Cn,λt x=>?_⟩⟩))))⟩))));have h:=AQ x (.tup [.int ((i:Int) - 1),.int 1]);have F:Nb 20 (((i:Int) - 1,1):Nu):=⟨Mw _,aS (by show ((i:Int) - 1).natAbs<2 ^ 20;omega),aS (show (1:Int).natAbs<2 ^ 20 by decide)⟩;refine ⟨pv,t,pN i j,((i:Int) - 1,1),rfl,⟨pv,rfl,h _ _ B⟩,⟨t,rfl,upd_same⟩,(Uk S ⋯).mono ∅,F.mono ∅,λz hz=>?_⟩;rw [qV];have G:=AQ hz (.tup [.int (pN i (j+1)).1,.int (pN i (j+1)).2]);have q:=h.trans G;refine JK (q _ _ a) ⋯ ⟨_,rfl,(f.ext q).put L X,upd_same,?_⟩;rw [JJ];exact ((n.tp (L' q)).append (Nums.one IN)).tp (Tp.updL (q _ _ a))
 ·have c:¬ (d.length:Int)<(xs.length:Int):=λz=>c (nI z);obtain rfl:j=l.length:=by omega
  refine JL rfl f.hr (AF rfl (JK f.hr ⋯ (k (e++[.ref r]) r _ ?_)));rw [JJ];exact f.app L a n
def pH (h:MO K vs H Q E):xC K (eC Q) (L2.start ["_law_kp","_law_rows","_law_place","_law_row"] vs) H:=by
 obtain ⟨p,J,l,rfl,hp,L,G,l0,N,k⟩:=h;have O:=L.length;have l1:1<=l.length:=Ce.mpr l0;refine Ag (show BG AD _ _ _ from ⟨AY _,λw hw=>?_⟩);have I0:Rws H (upd H w (.lst [])) w w [] []:=⟨AQ hw _,hw,upd_same,trivial⟩;generalize upd H w (.lst [])=H0 at *;show TR K _ _ _;refine Ff (show Ay _ _ _ _ _ _ from Cm (AF rfl ⟨p,J,rfl,I0.s _ _ hp,_,rfl,⋯,⋯,?_⟩));rw [Bg,O];refine ForR.by (λi P q=>i<=l.length/\∃ (y:d8) (R S:dc),P=[some (.ref p),some (.ref w),R,S]/\Rws H q w w y ((List.range i).map (pR l.length))) ⟨AY _,[],none,none,rfl,I0⟩ ?_ ?_
 ·rintro i P T d ⟨_,y,R,S,rfl,v⟩;refine CD ?_;rw [show (0:Int)+(i:Int)=(i:Int) by omega];exact pE hp O l1 N ⋯ v λy r H2 I2=>⟨⋯,y,_,_,rfl,I2⟩
 rintro P T ⟨_,y,R,S,rfl,v⟩;have lu:=v.len;rw [AK,A4] at lu;obtain ⟨n,o⟩:∃ n,n=(List.range l.length).map (pR l.length):=⟨_,rfl⟩;rw [<-o] at v;have lA:n.length=l.length:=by rw [o,AK,A4]
 have aA:∀ i,i<l.length->n.getD i []=pR l.length i:=λi d=>by rw [o,Uj d]
 have U:∀ i,i<l.length->∀ j,j<l.length->vr n i j=xQ i ^ j:=λi d j m=>by unfold vr;rw [aA i d,qZ m]
 show TQ K _ _ _;refine BY (AX (A9 (AF rfl (UI (Cm (AF rfl ⟨p,J,rfl,v.s _ _ hp,_,rfl,⋯,⋯,?_⟩))))));rw [Bg,O];refine CompJ.range (λi A q=>i<=l.length/\Same T q/\∃ B:cZ,Nums q A B/\Due l B i) ⟨AY _,Same.refl T,[],trivial,rfl,λt h=>absurd h (BS t)⟩ ?_ ?_ ?_
 ·rintro i A q ⟨d,s,B,C,D⟩;exact ⟨d,sz (by rw [C.length,D.ln];omega)⟩
 ·rintro i A H2 d ⟨_,s,B,C,D⟩;refine CD ?_;rw [show (0:Int)+(i:Int)=(i:Int) by omega];refine A9 (AF rfl (DT (AX (AF rfl (F_ ⟨_,_,rfl,rfl,F_ ⟨Cn,λt ht=>?_⟩⟩)))));have Y:=AQ ht (.tup [.int ((i:Int) - 1),.int 1]);have s2:=(v.s.trans s).trans Y;refine ⟨p,t,J,l,(i:Int) - 1,1,14,rfl,s2 _ _ hp,upd_same,L.tp (L' s2),⟨G.low,G.nz,let ⟨M,a,b,c⟩:=G.ov;⟨M,a,b.mono ∅,c⟩⟩,∅,Mw _,aS (by show ((i:Int) - 1).natAbs<2 ^ 10;omega),aS ∅,N,λr q z s3 nz lz b1 b2 vz=>⟨⋯,s.trans (Y.trans s3),B++[z],(C.tp (L' (Y.trans s3))).append (Nums.one nz),D.snoc ⟨lz,b1,b2⟩ ?_⟩⟩;rw [vz];congr 1;show (((i:Int) - 1:Int):Rat) / ((1:Int):Rat)=xQ i;unfold xQ;rw [show ((1:Int):Rat)=1 from rfl];ext
 ·rintro A H2 ⟨_,s,B,C,D⟩ a ha;have sa:=AQ ha (.lst A);have Z:=(v.ext s).ext sa
  have vB:∀ i,i<l.length->vl B i=su l.length λj=>xQ i ^ j*D_ l j:=λi d=>by
   rw [<-qX,<-(D.ok i d).2];rfl
  refine ⟨w,a,y,A,n,B,l.length,l.length,rfl,Z.hr,upd_same,Z.nrs,C.tp (L' sa),lA,D.ln,λr I=>?_,λz=>z,⋯,⋯,λi d=>?_,λr x f zs gs X F H6 s6 I hx hX lX oX eX hf hF hW=>?_,λr x zs W H6 n0 s6 I hx hW lW oW sW nW=>?_⟩
  ·rw [o] at I;obtain ⟨i,_,rfl⟩:=Ap.mp I;unfold pR;rw [AK,A4]
  ·rw [aA i d];exact qY D d N
  ·have xi:∀ i j,i<j->j<l.length->xQ i≠xQ j:=λi j h _=>qW h
   obtain rfl:X=l:=pC G.low oX.1 rfl lX λj m=>by
    have:=cB (c:=λj=>vl X j - D_ l j) xi (λi d=>by
     have e1:su l.length (λj=>xQ i ^ j*vl X j)=vl B i:=by rw [<-eX i d];exact AU _ λj m=>by rw [U i d j m]
     rw [AU (g:=λj=>xQ i ^ j*vl X j - xQ i ^ j*D_ l j) _ λj _=>by ext,Fq,e1,vB i d];ext) j m
    ext
   obtain ⟨lg,kF⟩:=hF.ker;obtain ⟨rr,rk,rA,rF⟩:=hW.ex
   have F0:=qS rF λu hu j m=>by
    obtain ⟨lv,a0,rfl⟩:=hu
    exact cB (c:=vl lv) xi (λi d=>by
     have:=kF lv a0 i ⋯;rw [AU (g:=λj=>xQ i ^ j*vl lv j) _ λj m=>by rw [U i d j m]] at this;exact this) j m
   have g0:gs=[]:=CU.mp ⋯;subst g0;have sA:=Z.s.trans s6;refine Ln (F_ (AF rfl (show BJ AD _ _ _ from ⟨AY _,λq2 a3=>⟨Jy,λq3 a4=>?_⟩⟩)));have t2:=AQ a3 (.tup []);have t3:=AQ a4 (.tup [.str "told", .ref p,.ref q2]);have e:=t2.trans t3;exact ⟨.tuple [.str "told", DD X,.tuple []],.tuple [.str "told", DD X,.tuple []],true,⟨r,_,_,rfl,e _ _ I,rfl,.inr ⟨_,rfl,rfl⟩,.inl (F6 (e _ _ hx) (hX.tp (L' e))),.inl (.tup (e _ _ hf) .nil),trivial⟩,⟨q3,_,_,rfl,upd_same,rfl,.inr ⟨_,rfl,rfl⟩,.inl (F6 (e _ _ (sA _ _ hp)) (L.tp (L' (sA.trans e)))),.inl (.tup (t3 _ _ upd_same) .nil),trivial⟩,Ul X,Ul X,by simp,k _ (sA.trans e)⟩
  ·refine absurd ?_ nW;have e2:∀ i,i<l.length->vl B i=su l.length λj=>vr n i j*D_ l j:=λi d=>by rw [vB i d];exact AU _ λj m=>by rw [U i d j m]
   rw [AU (g:=λi=>su l.length λj=>vr n i j*D_ l j*vl W i) _ λi d=>by rw [Cb,e2 i d],Dv];refine CK λj m=>?_;rw [AU (g:=λi=>vr n i j*vl W i*D_ l j) _ λi d=>by ext,Cb,sW j m];ext
namespace Sr
def assoc_ex {P Q G A B a b d:Sr} (u:Pol A) (v:Pol B) (e:Pol b) (f:Pol d) (w:Pol a) (y:G≠0) (z:Pol G) (c:Cs A B) (c':Cs b d) (k:P=A*G) (m:Q=B*G) (n:P=b*a) (p:Q=d*a):∃ x:Rat,x≠0/\a=num x*G:=by
 obtain ⟨U,W,C,D,o⟩:=c;obtain ⟨g,h,i,j,M⟩:=c'
 have N:G=(U*b+W*d)*a:=by
  have:G=U*P+W*Q:=by rw [k,m];ext
  rw [this,n,p];ext
 have F:a=(g*A+h*B)*G:=by
  have:a=g*P+h*Q:=by rw [n,p];ext
  rw [this,k,m];ext
 have q:=(C.mul e).add (D.mul f);have r:=(i.mul u).add (j.mul v);have I:(g*A+h*B)*(U*b+W*d)=1:=cancel (r.mul q) (Pol.nat 1) z y ();obtain ⟨x,J,L⟩:=qC r q I;exact ⟨x,J,by rw [<-L];exact F⟩
def M3 {f:Sr} (a:Pol f) (b:f≠0):∃ m,f.c m≠0/\Bn f (m+1):=by
 obtain ⟨n,c⟩:=a.bn;rcases top_ex n c with z | ⟨m,_,d,e⟩
 ·exact absurd z b
 ·exact ⟨m,d,e⟩
def top_eq {f g:Sr} {x:Rat} {m n:Nat} (a:x≠0) (e:f=num x*g) (b:f.c m≠0) (c:Bn f (m+1)) (d:g.c n≠0) (i:Bn g (n+1)):m=n:=by
 rcases Nat.lt_trichotomy m n with h | h | h
 ·have:=c n ⋯;rw [e,num_mul] at this;exact absurd this λz=>(domQ.mul z).elim a d
 ·exact h
 ·refine absurd ?_ b;rw [e,num_mul,i m ⋯];ext
def Gcd.of {P Q:Sr} (k:Pol P) (m:Pol Q) (c:P≠0) (p:Q≠0):∃ G A B a b d,Gcd P Q G A B a b d:=by
 obtain ⟨n,q⟩:=m.bn;obtain ⟨g,r,e,U,W,u,f,h,v,w,x,i,j,o⟩:=Ze n P Q k q (.inl c);have y:r≠0:=λz=>c (by rw [i,z];ext);have C:e≠0:=λz=>p (by rw [j,z];ext);obtain ⟨d,D,F⟩:=M3 u x;obtain ⟨a,I,J⟩:=M3 f y;obtain ⟨b,L,M⟩:=M3 h C;exact ⟨g,r,e,a,b,d,f,h,by rw [i];ext,by rw [j];ext,⟨U,W,v,w,o⟩,D,F,I,J,L,M⟩
end Sr
def Hv {l:cZ} (b:Aj l) (c:Nz l) (a:l≠[]):(sr l).c (l.length - 1)≠0/\Sr.Bn (sr l) (l.length - 1+1):=⟨T5 b c a,λk hk=>EU (by have:=Ce.mpr a;omega)⟩
def Km {l:cZ} (c:Aj l) (d:Nz l) (a:l≠[]) {m:Nat} (h:(sr l).c m≠0) (e:Sr.Bn (sr l) (m+1)):l.length=m+1:=by
 have b:=Hv c d a;have:=Sr.top_eq (f:=sr l) (g:=sr l) (x:=1) ∅ (by rw [Sr.num_one];ext) b.1 b.2 h e;have:=Ce.mpr a;omega
def Um {l m:cZ} {g:de} (a:Aj l) (b:Aj m) (R:RC (co (AW l)) (co (AW m)) g):∃ A B,Sr.Pol A/\Sr.Pol B/\sr l=A*si g/\sr m=B*si g/\Sr.Cs A B:=by
 obtain ⟨A,d,e⟩:=UD R.left;obtain ⟨B,f,h⟩:=UD R.right;have c:=uD R d f e h;have i:∀ {k:cZ},Aj k->((Ai k:Int):Rat)≠0:=λhk=>BH (Ab (De hk).1);have j:=Fa _ (i a);have n:=Fa _ (i b);have r:Sr.num ((Ai l:Rat))*Sr.num ((Ai l:Rat))⁻¹=1:=by rw [Sr.num_num,Rat.mul_comm,j];exact Sr.num_one
 have u:Sr.num ((Ai m:Rat))*Sr.num ((Ai m:Rat))⁻¹=1:=by rw [Sr.num_num,Rat.mul_comm,n];exact Sr.num_one
 obtain ⟨U,W,p,q,o⟩:=c;refine ⟨Sr.num ((Ai l:Rat))⁻¹*A,Sr.num ((Ai m:Rat))⁻¹*B,(Sr.Pol.num _).mul d,(Sr.Pol.num _).mul f,by rw [Mo a,e];ext,by rw [Mo b,h];ext,U*Sr.num (Ai l:Rat),W*Sr.num (Ai m:Rat),p.mul (Sr.Pol.num _),q.mul (Sr.Pol.num _),?_⟩;ext
def Uo {g:de} (h:Lz g):(si g).c (g.length - 1)≠0/\Sr.Bn (si g) (g.length - 1+1):=⟨BH h.2,λk hk=>uA g k ⋯⟩
def pI {l m:cZ} {g:de} {G A B:Sr} {a b d:Nat} (i:Aj l) (j:Aj m) (R:RC (co (AW l)) (co (AW m)) g) (e:Sr.Gcd (sr l) (sr m) G A B a b d):g.length=d+1:=by
 obtain ⟨r,u,f,h,k,n,c⟩:=Um i j R;have o:G≠0:=λz=>e.g0 (by rw [z,Sr.zero_c]);obtain ⟨x,p,q⟩:=Sr.assoc_ex e.pA e.pB f h (GD g) o e.hG.pol e.cs c e.eP e.eQ k n;have t:=Uo R.lz;have:=Sr.top_eq p q t.1 t.2 e.g0 e.hG;have:=R.lz.1;omega
def pJ {p q:cZ} {x:Rat} (hp:Aj p) (g:Aj q) (h:p≠[]) (i:q≠[]) (a:D_ p (p.length - 1)=1) (b:D_ q (q.length - 1)=1) (m:x≠0) (e:sr p=Sr.num x*sr q):p=q:=by
 have o:=Ce.mpr h;have r:=Ce.mpr i;have one:(1:Rat)≠0:=by decide
 have t:p.length - 1=q.length - 1:=Sr.top_eq m e (by show D_ p _≠0;rw [a];exact one) (λk hk=>EU ⋯) (by show D_ q _≠0;rw [b];exact one) (λk hk=>EU ⋯)
 have c:∀ k,D_ p k=x*D_ q k:=λk=>by
  have:=nV (congrArg Sr.c e) k;rw [Sr.num_mul] at this;exact this
 have n:x=1:=by
  have:=c (p.length - 1);rw [a,t,b] at this;ext
 refine List.ext_getElem ⋯ λj d f=>?_;have:=c j;rw [n] at this;unfold D_ Ae at this;rw [AI,AI,AT d,AT f] at this;exact HN (hp _ (CT d)) (g _ (CT f)) (by rw [show val p[j]=1*val q[j] from this];ext)
def pK {L M:cZ} {g:de} {G:Sr} (u:Aj L) (a:Aj M) (d:Nz M) (b:M≠[]) (n:Sr.Pol G) (v:sr L=G ^ 12) (w:sr M=G ^ 10) (R:RC (co (AW L)) (co (AW M)) g):ay g=Y' M:=by
 obtain ⟨O,S,e,f,C,D,c⟩:=Um u a R;have F:=Kb a d b;obtain ⟨x,o,p⟩:=Sr.assoc_ex (P:=sr L) (Q:=sr M) (G:=sr M) (A:=G*G) (B:=1) (n.mul n) (Sr.Pol.nat 1) e f (GD g) F (Hn M) Sr.Cs.one c (by rw [v,w];ext) () C D;have T:=R.lz.1;have t:=Uo R.lz;have h:=Hv a d b;have U:=Ce.mpr b;have W:=Sr.top_eq o p t.1 t.2 h.1 h.2;obtain ⟨I,j,q⟩:=qB a d b
 have J:sr (Y' M)=Sr.num ((D_ M (M.length - 1)))⁻¹*sr M:=Sr.ext' λk=>by
  rw [Sr.num_mul];show D_ (Y' M) k=_*D_ M k;rw [q k,Rat.div_def,Rat.mul_comm]
 have r:D_ M (M.length - 1)≠0:=h.1;have N:((co g (g.length - 1):Int):Rat)≠0:=t.1;have m:=Ml (g:=g);refine pJ (x:=((co g (g.length - 1):Int):Rat)⁻¹*x*D_ M (M.length - 1)) (T0 R.lz) I (λz=>?_) (λz=>?_) ?_ ?_ ?_ ?_
 ·rw [z] at m;have:0=g.length:=m;omega
 ·rw [z] at j;have:0=M.length:=j;omega
 ·rw [m,Mm R.lz];ext
 ·rw [j,q];ext
 ·exact λz=>(domQ.mul z).elim (λy=>(domQ.mul y).elim (uC N) o) r
 ·rw [uE R.lz,p,J];have:Sr.num (((co g (g.length - 1):Int):Rat)⁻¹*x*D_ M (M.length - 1))=Sr.num ((co g (g.length - 1):Int):Rat)⁻¹*Sr.num x*Sr.num (D_ M (M.length - 1)):=by rw [Sr.num_num,Sr.num_num]
  have i:=Sr.num_inv r;rw [this];ext
def pL {L M Z a c:cZ} (f:Aj M) (g:Nz M) (i:M≠[]) (j:Aj a) (m:Nz a) (o:Aj c) (p:Nz c) (q:Aj Z) (r:Nz Z) (v:c.length<M.length) (e:sr L=sr a*sr M+sr c) (w:sr L=sr Z*sr M):a=Z/\c=[]:=by
 have d:=Hv f g i;have h:(sr Z - sr a)*sr M=sr c:=by ext
 have b:=Sr.quo_bn (n:=M.length - 1) ((Hn Z).sub (Hn a)) d.1 d.2 (by rw [h];exact λk hk=>EU ⋯);rw [Nat.sub_self] at b;have z:sr Z - sr a=0:=Sr.ext' λk=>by rw [Sr.zero_c];exact b k (AY k)
 refine ⟨vU j q m r (),Classical.byContradiction λu=>Kb o p u ?_⟩;rw [<-h,z];ext
def Gq.up {a b c d:Nat} {l:cZ} (G:Gq a b l) (e:a<=c) (f:b<=d):Gq c d l:=⟨G.low,G.nz,let ⟨M,x,y,z⟩:=G.ov;⟨M,x,y.mono f,λw g=>(z w g).mono e⟩⟩
def Up {l:cZ} (b:Aj l) (c:Nz l) (a:l≠[]):Lz (AW l):=⟨by rw [DV];exact Ce.mpr a,by rw [DV];exact Iu b c (Ce.mpr a)⟩
def Uq {l m L:cZ} (i:Aj l) (j:Nz l) (a:l≠[]) (k:Aj m) (n:Nz m) (b:m≠[]) (o:Aj L) (p:Nz L) (e:sr L=sr l*sr m):L≠[]/\L.length+1=l.length+m.length:=by
 have c:=Hv i j a;have d:=Hv k n b;obtain ⟨t,f⟩:=Sr.top_mul c.2 d.2;rw [<-e] at t f;have g:(sr L).c (l.length - 1+(m.length - 1))≠0:=by rw [t];exact λz=>(domQ.mul z).elim c.1 d.1
 have h:L≠[]:=λz=>g (by rw [z];exact EU (AY _));have:=Km o p h g f;have:=Ce.mpr a;have:=Ce.mpr b;exact ⟨h,⋯⟩
def Ur {l L:cZ} (h:Aj l) (i:Nz l) (m:l≠[]) (o:Aj L) (p:Nz L) {n:Nat} (e:sr L=sr l ^ n):L≠[]/\L.length=n*(l.length - 1)+1:=by
 have c:=Hv h i m
 have a:∀ n:Nat,(sr l ^ n).c (n*(l.length - 1))≠0/\Sr.Bn (sr l ^ n) (n*(l.length - 1)+1):=λn=>by
  induction n with
  | zero=>
    rw [Sr.pow_z,Nat.zero_mul];refine ⟨λz=>(by have z:((1:Nat):Rat)*1=0:=z;have:((1:Nat):Rat)=1:=rfl;ext),λk hk=>?_⟩;obtain ⟨j,rfl⟩:∃ j,k=j+1:=⟨k - 1,⋯⟩;show ((1:Nat):Rat)*0=0;ext
  | succ n d=>
    rw [Sr.pow_s,Nat.succ_mul];obtain ⟨t,q⟩:=Sr.top_mul d.2 c.2;exact ⟨by rw [t];exact λz=>(domQ.mul z).elim d.1 c.1,q⟩
 obtain ⟨b,f⟩:=a n;rw [<-e] at b f;have g:L≠[]:=λz=>b (by rw [z];exact EU (AY _));exact ⟨g,Km o p g b f⟩
def Us {K:W.Frag} {H:Hp} {Q:VK} {E:XK} {p q:Addr} {xs ys:d8} {l m:cZ} {b n e N:Nat} (hp:H p=some (.tup xs)) (f:H q=some (.tup ys)) (h:Nums H xs l) (i:Nums H ys m) (Gl:Gq b b l) (a:Gq b b m) (c:l≠[]) (j:m≠[]) (u:b<=1000) (o:l.length<=n) (m1:m.length<=n) (v:n<=60) (d:n<2 ^ e) (nN:l.length+m.length<=N+2) (r:2<=N) (sz:(b+n*(2*e+4)+e+2)*N<=44490)
  (k:∀ g,RC (co (AW l)) (co (AW m)) g->Ge H Q (ay g)):Hj K [.ref p,.ref q] H Q E:=
 ⟨p,q,xs,ys,l,m,b,b,b+n*(2*e+4),e,N,rfl,hp,f,h,i,Gl,a,⋯,⋯,⋯,⋯,λ_ _=>⟨fpI (Up Gl.low Gl.nz c) Gl.clr.1 (by rw [DV];exact o) d,fpI (Up a.low a.nz j) a.clr.1 (by rw [DV];exact m1) d⟩,by rw [Bk];omega,nN,r,sz,λz=>absurd z c,λ_ g R _=>k g R⟩
def Ut (l m:cZ):W.kqdOk 8 (.tuple [DD l,DD m])=true:=by
 have a:=bR l 5;have b:=bR m 5;show (List.all [DD l,DD m] (W.kqdOk 7))=true;rw [List.all_cons,List.all_cons,List.all_nil,a,b];rfl
def pM {b c:Nat} {l:cZ} (G:Gq b c l) (d:b<=1000) (e:c<=1000):∀ q∈l,Bd 1000 q.1/\Bd 1000 q.2:=λq a=>by
 obtain ⟨M,O,f,g⟩:=G.ov;exact ⟨(G.clr.2.2 q a).mono d,(Dr (Ab O.1) (O.2 q a) f).mono e⟩
def pO {K:W.Frag} {H:Hp} {D:Ends} {s p1 p2 h rp rq:Addr} {kk:Int} {j:d8} {d:cZ} {C F:dc} (w:H h=some (.tup j)) (x:Nums H j d) (G:Gq 5 3 d) (g0:d≠[]) (g3:d.length<=3)
  (nx:∀ C F H',Same H H'->D.nx [some (.ref s),some (.int kk),some (.ref p1),some (.ref p2),some (.ref h),some (.ref rp),some (.ref rq),C,F] H') :
  TV K D [some (.ref s),some (.int kk),some (.ref p1),some (.ref p2),some (.ref h),some (.ref rp),some (.ref rq),C,F] H:=by
 refine (show Fw _ _ _ _ _ _ from A9 (AF rfl (F_ ⟨h,j,d,12,rfl,w,x,G,g3,∅,λI H1 L J P1 aL nL GL O=>A9 (AF rfl (F_ ⟨h,j,d,10,rfl,J _ _ w,x.tp (L' J),G,g3,∅,λo H2 M P P2 y A GM S=>⟨_,_,rfl,?_⟩⟩))⟩)));obtain ⟨zl,hl,nl⟩:=P1;obtain ⟨zm,T,U⟩:=P2;have p:=P _ _ hl;have q:=nl.tp (L' P);obtain ⟨L0,lL⟩:=Ur G.low G.nz g0 aL nL O;obtain ⟨B,lM⟩:=Ur G.low G.nz g0 y A S;have al:d.length - 1<=2:=by omega
 have X:L.length<=25:=by omega
 have am:M.length<=21:=by omega
 show TU K _ _ _;refine Gw (show a_ _ _ _ _ _ from Dh (AX (A9 (AF rfl (AF rfl (Us (n:=25) (e:=5) (N:=44) p T q U (GL.up (AV 97) ∅) (GM.up (AV 97) ∅) L0 B ∅ X ⋯ ∅ ∅ ⋯ ∅ ∅ λg R=>?_))))));intro r zs H3 Y hr hz;refine Df (AF rfl ⟨o,zm,M,rfl,Y _ _ T,U.tp (L' Y),y,A,pM GM ∅ ∅,⋯,λr' an H4 s4 a0 a3=>?_⟩);have ec:=pK aL y A B (Hn d) O S R;rw [ec] at hz;refine ⟨DD (Y' M),DD (Y' M),true,F6 (s4 _ _ hr) (hz.tp (L' s4)),F6 a0 a3,bR _ 6,bR _ 6,by simp,_,rfl,Ah (λz=>by cases z) (λ_=>?_)⟩;have b:=Y.trans s4;refine Dh (AX (A9 (AF rfl (AF rfl ⟨I,o,zl,zm,L,M,97,37,97,37,rfl,b _ _ p,b _ _ T,q.tp (L' b),U.tp (L' b),GL,GM,B,⋯,⋯,?_,?_,∅,∅,λt u v H5 m rs s5 ht hu hv aq nq lq Gr lr a4=>?_⟩))))
 ·have:=CW 97 (show L.length+1 - M.length<=26 by omega);omega
 ·have:=CW 98 (show L.length+1 - M.length<=26 by omega);omega
 have a5:=b.trans s5;have c:=J.trans (P.trans a5);refine DT (A9 (AF rfl (AF rfl ⟨h,h,j,j,d,d,5,3,rfl,c _ _ w,c _ _ w,x.tp (L' c),x.tp (L' c),G,G,∅,∅,⋯,⋯,λr6 z6 Z H6 s6 ab ac aZ nZ eZ _=>(show BJ AD _ _ _ from ⟨AY _,λe he=>⟨Cn,λf hf=>?_⟩⟩)⟩)));have se:=AQ he (.tup []);have sf:=AQ hf (.tup [.ref r6,.ref e]);have i:=se.trans sf
 have aj:sr L=sr m*sr M+sr rs:=by
  have:sr L=⟨λk=>cv (D_ m) (D_ M) m.length k⟩+sr rs:=Sr.ext' λk=>a4 k;rw [this];congr 1;refine Eq.trans ?_ (UC m (D_ M));exact Sr.ext' λk=>UA _ _ _
 obtain ⟨e1,e2⟩:=pL (Z:=Z) y A B aq nq Gr.low Gr.nz aZ nZ lr aj (by rw [O,eZ,S];ext);subst e1;subst e2;obtain ⟨zu,hu,nu⟩:=hu;obtain ⟨zv,hv,nv⟩:=hv;have a:=s6.trans i;refine ⟨.tuple [DD m,DD []],.tuple [DD m,DD []],true,.tup (a _ _ ht) (.cons (F6 (a _ _ hu) (nu.tp (L' a))) (.cons (F6 (a _ _ hv) (nv.tp (L' a))) .nil)),.tup upd_same (.cons (F6 (i _ _ ab) (ac.tp (L' i))) (.cons (.tup (sf _ _ upd_same) .nil) .nil)),Ut _ _,Ut _ _,by simp,_,rfl,Ah (λz=>by cases z) (λ_=>nx _ _ _ ?_)⟩;exact c.trans a
def pV {i j:Int} {p:Prop} (e:i=j) (h:(!decide (V.int i=V.int j))=true):p:=by rw [e,nI rfl] at h;cases h
def pX (h:J7 K vs H Q E):xE K { nx:=λ_ F=>Q .non F,rt:=Q } (L2.start ["_law_script","_law_k","_law_box_here","_law_other","_law_kg","_law_kp","_law_kq","_law_high","_law_low"] vs) H:=by
 obtain ⟨s,m,rfl,hS,b2,k⟩:=h;refine (show Ay _ _ _ _ _ _ from PD (F_ (PD (Cm (AF rfl ⟨s,_,rfl,hS,F_ ?_⟩)))));rw [AK]
 have hL:∀ L:Int,L=(if (if (8:Int)<(m.length:Int) then (8:Int) else (m.length:Int)) > 1 then (if (8:Int)<(m.length:Int) then (8:Int) else (m.length:Int)) else 1)->1<=L/\L<=8:=λL e=>by
  rw [e];split <;> split <;> omega
 refine ⟨_,_,rfl,_,_,rfl,?_⟩;generalize a3:(if (if (8:Int)<(m.length:Int) then (8:Int) else (m.length:Int)) > 1 then (if (8:Int)<(m.length:Int) then (8:Int) else (m.length:Int)) else 1)=L;obtain ⟨b3,b4⟩:=hL L a3.symm;refine ⟨L,rfl,⋯,⋯,?_⟩;refine ForR.by (λi σ F=>∃ x1 x2 x3 x4 x5 x6 x7 x8:dc,σ=[some (.ref s),x1,x2,x3,x4,x5,x6,x7,x8]/\Same H F) ⟨none,none,none,none,none,none,none,none,rfl,Same.refl H⟩ ?_ ?_
 ·rintro i σ H0 hi ⟨x1,x2,x3,x4,x5,x6,x7,x8,rfl,s0⟩;refine CD ?_;have ki:(0:Int)+(i:Int)<=62/\0<=(0:Int)+(i:Int):=by omega
  generalize (0:Int)+(i:Int)=kk at ki ⊢;obtain ⟨k1,k0⟩:=ki;show Tb K _ _ _;refine Ag (A9 (AF rfl (AF rfl ⟨s,m,kk,rfl,s0.seq hS,k0,⋯,λp H1 pn s1 B1=>?_⟩)));have t1:=s0.trans s1;show Ta K _ _ _;refine Ag (A9 (AF rfl (AX (AF rfl (F_ ⟨_,_,rfl,rfl,s,m,kk+1,rfl,t1.seq hS,⋯,⋯,λq H2 qn s2 B2=>?_⟩)))));have a4:=B1.same s2;have qp:q≠p:=B1.ne qn;have I:H p=none:=s0.free pn;have a5:H q=none:=t1.free qn;have t2:=t1.trans s2;show TZ K _ _ _;refine Ag (A9 (AF rfl (F_ ⟨p,2,_,rfl,a4,⋯,∅,∅,λrg zg lg H3 hg ng u g0 gl B3 k3=>?_⟩)));have t3:Same H H3:=λb o h=>k3 b o (Ax h I) (t2 b o h);have ab:=B2.kp k3 qp;show TY K _ _ _;refine Ag (A9 (A9 (AF rfl (F_ ⟨p,3,_,rfl,B3,⋯,∅,∅,λra za la H4 ha na Ga a0 al B4 k4=>AF rfl ?_⟩))));have t4:Same H H4:=λb o h=>k4 b o (Ax h I) (t3 b o h);have J:=B3.tp k4;have M:=J _ _ hg;have O:=ng.tp J;have P:=ab.kp k4 qp;refine ⟨ra,rg,za,zg,la,lg,5,3,rfl,ha,M,na,O,Ga,u,∅,∅,⋯,⋯,λrp zp S H5 s5 hp np ap v ep Gp=>?_⟩;obtain ⟨p0,pl⟩:=Uq Ga.low Ga.nz a0 u.low u.nz g0 ap v ep;have w:Gq 14 6 S:=Gp.up ⋯ ∅;have T:=P.same s5;have U:=s5 _ _ M;have W:=O.tp (L' s5);have t5:=t4.trans s5;show TX K _ _ _;refine Ag (A9 (A9 (AF rfl (F_ ⟨q,3,_,rfl,T,⋯,∅,∅,λrb zb lb H6 hb nb Gb b0 bl B6 k6=>AF rfl ?_⟩))));have t6:Same H H6:=λb o h=>k6 b o (Ax h a5) (t5 b o h);have c:=T.tp k6;refine ⟨rb,rg,zb,zg,lb,lg,5,3,rfl,hb,c _ _ U,nb,W.tp c,Gb,u,∅,∅,⋯,⋯,λrq zq lq H7 X hq nq aq x eq ac=>?_⟩;obtain ⟨q0,ql⟩:=Uq Gb.low Gb.nz b0 u.low u.nz g0 aq x eq;have GQ:Gq 14 6 lq:=ac.up ⋯ ∅;have aj:=X _ _ (c _ _ U);have am:=(W.tp c).tp (L' X);have y:=X _ _ (c _ _ hp);have C:=(np.tp c).tp (L' X);have t7:=t6.trans X;obtain ⟨G,A,B,a,b,d,f⟩:=Sr.Gcd.of (Hn S) (Hn lq) (Kb ap v p0) (Kb aq x q0)
  have an:S.length=a+d+1:=by
   obtain ⟨t,Y⟩:=Sr.top_mul f.hA f.hG;rw [<-f.eP] at t Y;exact Km ap v p0 (by rw [t];exact λz=>(domQ.mul z).elim f.a0 f.g0) Y
  have ao:lq.length=b+d+1:=by
   obtain ⟨t,Y⟩:=Sr.top_mul f.hB f.hG;rw [<-f.eQ] at t Y;exact Km aq x q0 (by rw [t];exact λz=>(domQ.mul z).elim f.b0 f.g0) Y
  show TW K _ _ _;refine Fn (show a_ _ _ _ _ _ from Dh (AX (A9 (AF rfl (AF rfl ⟨rp,rq,zp,zq,S,lq,G,A,B,a,b,d,rfl,y,hq,C,nq,w,GQ,an,ao,⋯,⋯,f,λH8 Z=>?_⟩)))));refine Df (A9 (AF rfl (AF rfl (Us (n:=6) (e:=3) (N:=10) (Z _ _ y) (Z _ _ hq) (C.tp (L' Z)) (nq.tp (L' Z)) (w.up (AV 14) ∅) (GQ.up (AV 14) ∅) p0 q0 ∅ ⋯ ⋯ ∅ ∅ ⋯ ∅ ∅ λg R=>?_))));intro r zs H9 s9 hr hz;refine ⟨r,zs,rfl,hr,rfl,_,rfl,Ah (λz=>pV ?_ z) (λ_=>?_)⟩
  ·rw [hz.length,Ml,pI ap aq R f];omega
  have D:=Z.trans s9;refine (show G5 _ _ _ _ from (show tB _ _ _ _ from Df (AF rfl ⟨rp,zp,S,rfl,D _ _ y,C.tp (L' D),w,p0,⋯,λb5 ar=>⟨_,rfl,Ah (λz=>by cases z) (λ_=>Hs ?_)⟩⟩)));have j:=D.trans ar;exact pO (j _ _ aj) (am.tp (L' j)) u g0 ⋯ λy7 y8 b6 b1=>⟨_,_,_,_,_,_,_,_,rfl,(t7.trans j).trans b1⟩
 ·rintro σ H0 ⟨x1,x2,x3,x4,x5,x6,x7,x8,rfl,s0⟩;exact (show AZ (tC (.bl true)) { nx:=λ_ F=>Q .non F,rt:=Q } [some (.ref s),x1,x2,x3,x4,x5,x6,x7,x8] H0 from BY (F_ (k _)))
end Bs
namespace Bs
open PySem PySem.Spec PyProof.Rows L2
set_option maxHeartbeats 4000000
open Hd
structure Bl (K:W.Frag) (mg:dz):Prop where
 abs:mg "abs" = none
 FIRST_PRIME:mg "FIRST_PRIME" = some (.int 170141183460469231731687303715884105727 198)
 SECOND_PRIME:mg "SECOND_PRIME" = some (.int 2147483647 200)
 zip:mg "zip" = none
 sum:mg "sum" = none
 min:mg "min" = none
 len:mg "len" = none
 list:mg "list" = none
 max:mg "max" = none
 range:mg "range" = none
 any:mg "any" = none
 enumerate:mg "enumerate" = none
 EXPONENTS:mg "EXPONENTS" = some (.ref (Gi K))
 tuple:mg "tuple" = none
 reversed:mg "reversed" = none
 int:mg "int" = none
 xEXPONENTS:∀ H:Hp,SqT K H (Gi K) (exps.map λe:Nat=>V.int (e:Int))
section
variable {P:Program} {w:World} {K:W.Frag} {mg:dz} {base:Heap} {f:Addr} {fd:FuncData}
def H_ {n q:Str} {st:Stmt} {N ps:dE} {k:Nat} {sp:Sp} {t:TS} (F:Fun K n q st f fd) (v:∀ {c:d8} {H:Hp} {Q:VK} {E:XK},sp c H Q E->t (eC Q) (start N c) H) (d:∀ {a:Value} {A:Around} {b:List Env} {s:Shared} {H:Hp} {E:XK} (e:Room k (A.deeper (envOfC q (DA st) s.heap.objs.size f a))) (j:N.Nodup) (m:(A.deeper (envOfC q (DA st) s.heap.objs.size f a)).units<cLine) (g:(A.deeper (envOfC q (DA st) s.heap.objs.size f a)).units+64<cLine),PSs (GP az P w K mg base N q (DA st) f a A b s H E).nox (EQ st) t) (S:FnScope N ps (DA st):=by exact ⟨rfl,rfl,rfl,by decide +kernel,rfl,by decide +kernel,by decide +kernel⟩) (len:∀ c H Q E,sp c H Q E->c.length=ps.length:=by intro c H Q E h;repeat (first | (obtain ⟨rfl,_⟩:=h;rfl) | obtain ⟨_,h⟩:=h)):FnOk P w K mg base az (k+1) f fd ps sp:=F.ok S len λa A b s H c Q E e h=>⟨t,d e S.nd e.units0 e.units,v h⟩
def li {a:Prop} {b:Type} {x:b}:x=x\/a:=Or.inl rfl
end
set_option maxHeartbeats 4000000
open Hd
def M4 {K:W.Frag} {st:Stmt} {f c:Addr} {n:Str} {pm:Value} (l:K.lookup f=some (G_ n st pm c)) (e:W.codeIn K (.ref c) n=true) (k:W.keepIn K (.ref f)=true):Fun K n n st f (W.fnOf n n (Ev st) (EQ st) (DA st) .none .none .none pm none (.ref c) .none):=N3 (st:=st) l e k
def pY {P:Program} {K:W.Frag} {w:World} {h c:Heap} {d:dz} {k:Nat} {f:Addr} {g:FuncData} {n:Str} {ps:dE} {sp:Sp} (X:K.In h) (G:h.Ns mainGlobals d) (ok:FnOk P w K d c az k f g ps sp) (b:Binds K g ps []) (e:W.keepIn K (.ref f)=true) (a:W.nsIn K mainGlobals n=some (some (.ref f))):Cal P w K d c k n ps sp:=⟨f,g,ok,b,e,W.mg_of X G a⟩
def JM {a:dh} {n:Nat} (h:a.length=n+1):∃ x t,a=x::t/\t.length=n:=by cases a with | nil=>cases h | cons x t=>exact ⟨x,t,rfl,Nat.succ.inj h⟩
def Uu (a:dh) (h:a.length=1):∃ b,a=[b]:=by obtain ⟨x,t,rfl,q⟩:=JM h;exact ⟨x,by rw [CU.mp q]⟩
def Uv (b:dh) (h:b.length=2):∃ c a,b=[c,a]:=by obtain ⟨x,t,rfl,q⟩:=JM h;obtain ⟨a,rfl⟩:=Uu t q;exact ⟨x,a,rfl⟩
def M5 (c:dh) (h:c.length=3):∃ d a b,c=[d,a,b]:=by obtain ⟨x,t,rfl,q⟩:=JM h;obtain ⟨a,b,rfl⟩:=Uv t q;exact ⟨x,a,b,rfl⟩
def Uw (d:dh) (h:d.length=4):∃ e a b c,d=[e,a,b,c]:=by obtain ⟨x,t,rfl,q⟩:=JM h;obtain ⟨a,b,c,rfl⟩:=M5 t q;exact ⟨x,a,b,c,rfl⟩
def pZ (e:dh) (h:e.length=5):∃ f a b c d,e=[f,a,b,c,d]:=by obtain ⟨x,t,rfl,q⟩:=JM h;obtain ⟨a,b,c,d,rfl⟩:=Uw t q;exact ⟨x,a,b,c,d,rfl⟩
def Ao {P:Program} {K:W.Frag} {w:World} {h i:Heap} {j:dz} {k:Nat} {f c:Addr} {n:Str} {ps:dE} {sp:Sp} {st:Stmt} {pm:Value} (X:K.In h) (G:h.Ns mainGlobals j) (ok:Fun K n n st f (W.fnOf n n (Ev st) (EQ st) (DA st) .none .none .none pm none (.ref c) .none)->FnOk P w K j i az k f (W.fnOf n n (Ev st) (EQ st) (DA st) .none .none .none pm none (.ref c) .none) ps sp) (l:K.lookup f=some (G_ n st pm c):=by kernel_rfl) (e:W.codeIn K (.ref c) n=true:=by kernel_rfl) (q:W.keepIn K (.ref f)=true:=by kernel_rfl) (a:W.nsIn K mainGlobals n=some (some (.ref f)):=by kernel_rfl) (b:∀ (kV m pm:Value) (p:Option Addr) (o r:Value) (d:dh),d.length=ps.length->bindArgs (W.fnOf n n (Ev st) (EQ st) (DA st) .none kV m pm p o r) ⟨d,[]⟩=pure (ps.zip d):=by first | exact λ_ _ _ _ _ _ d g=>by obtain ⟨_,rfl⟩:=Uu d g;rfl | exact λ_ _ _ _ _ _ d g=>by obtain ⟨_,_,rfl⟩:=Uv d g;rfl | exact λ_ _ _ _ _ _ d g=>by obtain ⟨_,_,_,rfl⟩:=M5 d g;rfl | exact λ_ _ _ _ _ _ d g=>by obtain ⟨_,_,_,_,rfl⟩:=Uw d g;rfl | exact λ_ _ _ _ _ _ d g=>by obtain ⟨_,_,_,_,_,rfl⟩:=pZ d g;rfl):Cal P w K j i k n ps sp:=pY X G (ok (M4 l e q)) ((M4 l e q).binds b) q a
abbrev J_ (P:Program) (w:World) (b:dz) (a:Heap) (k:Nat) (n:Str) (ps:dE) (sp:W.Frag->Sp):Prop:=Cal P w (hp w.params) b a k n ps (sp (hp w.params))
def Ux {P:Params}:B8 (hp P)=287:=by kernel_rfl
def Kn {P:Params}:ClsOk (hp P) (B8 (hp P)):=by
 rw [Ux];exact ⟨⟨by kernel_rfl,by kernel_rfl,by kernel_rfl,by kernel_rfl⟩,(show W.findIn _ _ _=_ by kernel_rfl),(show W.findIn _ _ _=_ by kernel_rfl),(show W.findIn _ _ _=_ by kernel_rfl),(show W.findIn _ _ _=_ by kernel_rfl),(show W.findIn _ _ _=_ by kernel_rfl)⟩
section
variable {P:Program} {w:World} {mg:dz} {base h:Heap} (X:(hp w.params).In h) (G:h.Ns mainGlobals mg) (B:Bl (hp w.params) mg)
include X G B
theorem Gx:J_ P w mg base 1 "common_divisor" ["one","other"] FV:=Ao (f:=22) (c:=21) (pm:=J') (st:=WR) X G λF=>H_ F (xF ) λb a d e=>(AJ (DI PassesOwn.never (cR FE (pv 1) AO) (AJ (C_ a (AN Ve (pv 0) (pv 1))) (AJ (C_ a (pv 1)) (AS (C_ a (pv 2)))))) (AS (Ac (Ak HJ rfl B.abs HI (AE (pv 0) AL)))))
theorem M6:J_ P w mg base 1 "raised" ["whole","n"] HY:=Ao (f:=29) (c:=28) (pm:=J') (st:=WS) X G λF=>H_ F (xG ) λb a d e=>(AJ (C_ a AO) (AJ (C_ a (pv 0)) (AJ (DI PassesOwn.never (cR EN (pv 1) AO) (AJ (Bi (cR D5 (AN Cf (pv 1) AO) AO) (AS (Db (i:=2) a rfl li (pv 3) Fy)) Bh) (AJ (Db (i:=1) a rfl li AO YI) (AS (Bi (cR EN (pv 1) AO) (AS (Db (i:=3) a rfl li (pv 3) Fy)) Bh))))) (AS (Ac (pv 2))))))
theorem oA:J_ P w mg base 1 "is_prime" ["whole"] MD:=Ao (f:=36) (c:=35) (pm:=J') (st:=WT) X G λF=>H_ F (uH ) λb a d e=>(AJ (C_ a AO) (AJ (DI PassesOwn.never (cR Vg (AN A7 (pv 1) (pv 1)) (pv 0)) (AJ (Bi (cR D5 (AN Cf (pv 0) (pv 1)) AO) (AS (Ac GK)) Bh) (AS (Db (i:=1) a rfl li AO JV)))) (AS (Ac (JY EN (pv 0) AO (T_ _))))))
theorem JN:J_ P w mg base 1 "dot" ["row","other"] Gj:=Ao (f:=55) (c:=54) (pm:=J') (st:=WW) X G λF=>H_ F (uG ) λa b d e=>(AS (Ac (Ak (Yc rfl) rfl B.sum Xs (AE (CI (N:=["whole","factor"]) (capt:=[none,none]) rfl (BlkOk.of rfl rfl rfl rfl (λ_ h=>nomatch h) rfl rfl rfl) (Fj rfl B.zip (AE (pv 0) (AE (pv 1) AL))) (λ_ _ _ _=>(D9 rfl (Bx (Ad (i:=0) (show (["whole","factor"]:dE).Nodup by decide +kernel) rfl li) (Bx (Ad (i:=1) (show (["whole","factor"]:dE).Nodup by decide +kernel) rfl li) D4)))) (λ_ _ _ _=>(AN A7 (pv 0) (pv 1)))) AL))))
theorem M7:J_ P w mg base 1 "row_trimmed" ["row"] HZ:=Ao (f:=67) (c:=66) (pm:=J') (st:=WY) X G λF=>H_ F (xK ) λb a d e=>(AJ (C_ a (Ak Be rfl B.len Aw (AE (pv 0) AL))) (AJ (DI PassesOwn.never (PW.pt (G7 (cR EN (pv 1) AO) (G6 (cR D5 (BA Al (pv 0) (AN BM (pv 1) AO) (λ_ _=>rfl)) AO)))) (AS (Db (i:=1) a rfl li AO IB))) (AS (Ac (FH FJ (pv 0) FF (FG (pv 1)))))))
theorem Uy:J_ P w mg base 1 "row_parted" ["row","divisor"] IW:=Ao (f:=72) (c:=71) (pm:=J') (st:=WZ) X G λF=>H_ F (xV ) λa b d e=>(AS (Ac (CI (N:=["whole","divisor"]) (capt:=[none,some 1]) rfl (BlkOk.of rfl rfl rfl rfl (Bq.mpr rfl) rfl rfl rfl) (Bz (pv 0)) (λ_ _ _ _=>(Ad (i:=0) (show (["whole","divisor"]:dE).Nodup by decide +kernel) rfl li)) (λ_ _ _ _=>(AN F1 (pv 0) (pv 1))))))
theorem Uz:J_ P w mg base 1 "row_over" ["row","divisor"] IY:=Ao (f:=79) (c:=78) (pm:=J') (st:=Wa) X G λF=>H_ F (wB ) λb a d e=>(AJ (C_ a (Eh Jj rfl B.list GS (AE (pv 0) AL))) (AJ (C_ a (AN BM (Ak Be rfl B.len Aw (AE (pv 1) AL)) AO)) (AJ (C_ a (AN Et (By (AE AO AL)) (Ak (Je rfl) rfl B.max Jd (AE (AN BM (Ak Be rfl B.len Aw (AE (pv 0) AL)) (pv 3)) (AE AO AL))))) (AJ (B7 PassesOwn.never rfl (OQ rfl B.range (AE (AN BM (AN BM (Ak Be rfl B.len Aw (AE (pv 0) AL)) (pv 3)) AO) (AE (CY CZ AO) (AE (CY CZ AO) AL)))) (Ad (i:=5) a rfl li) (AJ (C_ a (AN Ew (BA Al (pv 2) (AN Bt (pv 5) (pv 3)) (λ_ _=>rfl)) (BA Al (pv 1) (CY CZ AO) (λ_ _=>rfl)))) (AJ (Bi (cR FE (AN A7 (pv 6) (BA Al (pv 1) (CY CZ AO) (λ_ _=>rfl))) (BA Al (pv 2) (AN Bt (pv 5) (pv 3)) (λ_ _=>rfl))) (AS (Ac Es)) Bh) (AJ (Eg (pv 6) (Ef (pv 4) (pv 5) Dq)) (AS (Bi (cR FE (pv 6) AO) (AS (B7 PassesOwn.never rfl (EM rfl B.range (AE (pv 3) AL)) (Ad (i:=7) a rfl li) (AS (Kx (pv 2) (AN Bt (pv 5) (pv 7)) LF (AN A7 (pv 6) (BA Al (pv 1) (pv 7) (λ_ _=>rfl))) IB Dq)))) Bh)))))) (AS (Ac (Fv (G4 (Ak (OU rfl) rfl B.any OT (AE (FH FJ (pv 2) FF (FG (pv 3))) AL))) Es (pv 4))))))))
theorem U0:J_ P w mg base 1 "inverse_modulo" ["whole","prime"] Ib:=Ao (f:=122) (c:=121) (pm:=J') (st:=Wj) X G λF=>H_ F (wF ) λb a d e=>(AJ (C_ a (pv 1)) (AJ (C_ a (AN Cf (pv 0) (pv 1))) (AJ (C_ a AO) (AJ (C_ a AO) (AJ (DI PassesOwn.never (cR FE (pv 3) AO) (AJ (C_ a (AN F1 (pv 2) (pv 3))) (AJ (C_ a (AN BM (pv 2) (AN A7 (pv 6) (pv 3)))) (AJ (C_ a (pv 3)) (AJ (C_ a (pv 7)) (AJ (C_ a (AN BM (pv 4) (AN A7 (pv 6) (pv 5)))) (AJ (C_ a (pv 5)) (AS (C_ a (pv 7)))))))))) (AS (Ac (AN Cf (pv 4) (pv 1)))))))))
theorem U1:J_ P w mg base 1 "rests_modulo" ["row","prime"] Ic:=Ao (f:=127) (c:=126) (pm:=J') (st:=Wk) X G λF=>H_ F (wC ) λa b d e=>(AS (Ac (CI (N:=["whole","prime"]) (capt:=[none,some 1]) rfl (BlkOk.of rfl rfl rfl rfl (Bq.mpr rfl) rfl rfl rfl) (Bz (pv 0)) (λ_ _ _ _=>(Ad (i:=0) (show (["whole","prime"]:dE).Nodup by decide +kernel) rfl li)) (λ_ _ _ _=>(AN Cf (pv 0) (pv 1))))))
theorem U3:J_ P w mg base 1 "swapped" ["row","one","other"] KJ:=Ao (f:=172) (c:=171) (pm:=J') (st:=Wt) X G λF=>H_ F (uM ) λb a d e=>(AJ (C_ a (Eh Jj rfl B.list GS (AE (pv 0) AL))) (AJ (Eg (BA Al (pv 0) (pv 2) (λ_ _=>rfl)) (Ef (pv 3) (pv 1) Dq)) (AJ (Eg (BA Al (pv 0) (pv 1) (λ_ _=>rfl)) (Ef (pv 3) (pv 2) Dq)) (AS (Ac (pv 3))))))
theorem oB:J_ P w mg base 1 "row_cleared" ["row","lead","column","prime"] KK:=Ao (f:=177) (c:=176) (pm:=J') (st:=Wu) X G λF=>H_ F (uN ) λb a d e=>(AJ (Ct (i:=4) a rfl (Or.inr rfl) (BA Al (pv 0) (pv 2) (λ_ _=>rfl))) (AJ (Bi (cR D5 (pv 4) AO) (AS (Ac (pv 0))) Bh) (AS (Ac (CI (N:=["whole","other","prime","weight"]) (capt:=[none,none,some 3,some 4]) rfl (BlkOk.of rfl rfl rfl rfl (D3.mpr ⟨rfl,(Bq.mpr rfl)⟩) rfl rfl rfl) (Fj rfl B.zip (AE (pv 0) (AE (pv 1) AL))) (λ_ _ _ _=>(D9 rfl (Bx (Ad (i:=0) (show (["whole","other","prime","weight"]:dE).Nodup by decide +kernel) rfl li) (Bx (Ad (i:=1) (show (["whole","other","prime","weight"]:dE).Nodup by decide +kernel) rfl li) D4)))) (λ_ _ _ _=>(AN Cf (AN BM (pv 0) (AN A7 (pv 3) (pv 1))) (pv 2))))))))
theorem M8:J_ P w mg base 1 "nearest" ["whole","prime"] Hg:=Ao (f:=184) (c:=183) (pm:=J') (st:=Wv) X G λF=>H_ F (wH ) λb a d e=>(AJ (C_ a (AN Cf (pv 0) (pv 1))) (AS (Ac (Fv (cR EN (AN A7 AO (pv 2)) (pv 1)) (AN BM (pv 2) (pv 1)) (pv 2)))))
theorem U4:J_ P w mg base 1 "poly" ["row"] Hh:=Ao (f:=217) (c:=216) (pm:=a6) (st:=W1) X G λF=>H_ F (xH ) λb a d e=>(AJ (C_ a (Ak Be rfl B.len Aw (AE (pv 0) AL))) (AJ (DI PassesOwn.never (PW.pt (G7 (cR EN (pv 1) AO) (G6 (cR D5 (xI At (BA Al (pv 0) (AN BM (pv 1) AO) (λ_ _=>rfl))) AO)))) (AS (Db (i:=1) a rfl li AO IB))) (AS (Ac (Eh II rfl B.tuple IG (AE (FH FJ (pv 0) FF (FG (pv 1))) AL))))))
theorem oC:J_ P w mg base 1 "degree" ["P"] KI:=Ao (f:=224) (c:=223) (pm:=a6) (st:=W2) X G λF=>H_ F (vW ) λa b d e=>(AS (Ac (AN BM (Ak DB rfl B.len Aw (AE (pv 0) AL)) AO)))
theorem M9:J_ P w mg base 1 "width_of" ["sides"] Id:=Ao (f:=298) (c:=297) (pm:=P') (st:=XB) X G λF=>H_ F (uV ) λa b d e=>(AS (Ac (Fv (Fg (pv 0) (λ_=>rfl)) (Ak Be rfl B.len Aw (AE (xI Al (pv 0)) AL)) AO)))
theorem NA:J_ P w mg base 1 "picked" ["row","places"] Ie:=Ao (f:=303) (c:=302) (pm:=P') (st:=XC) X G λF=>H_ F (uW ) λa b d e=>(AS (Ac (CI (N:=["place","row"]) (capt:=[none,some 0]) rfl (BlkOk.of rfl rfl rfl rfl (Bq.mpr rfl) rfl rfl rfl) (Bz (pv 1)) (λ_ _ _ _=>(Ad (i:=0) (show (["place","row"]:dE).Nodup by decide +kernel) rfl li)) (λ_ _ _ _=>(BA Al (pv 1) (pv 0) (λ_ _=>rfl))))))
theorem Ko:J_ P w mg base 1 "spread" ["places","wholes","width"] Hk:=Ao (f:=310) (c:=309) (pm:=P') (st:=XD) X G λF=>H_ F (uY ) λb a d e=>(AJ (C_ a (AN Et (By (AE AO AL)) (pv 2))) (AJ (B7 PassesOwn.never rfl (Fj rfl B.zip (AE (pv 0) (AE (pv 1) AL))) (D9 rfl (Bx (Ad (i:=4) a rfl li) (Bx (Ad (i:=5) a rfl li) D4))) (AS (Eg (pv 5) (Ef (pv 3) (pv 4) Dq)))) (AS (Ac (pv 3)))))
theorem oE:J_ P w mg base 1 "picked_column" ["rows","place"] MG:=Ao (f:=325) (c:=324) (pm:=P') (st:=XG) X G λF=>H_ F (tD ) λa b d e=>(AS (Ac (CI (N:=["row","place"]) (capt:=[none,some 1]) rfl (BlkOk.of rfl rfl rfl rfl (Bq.mpr rfl) rfl rfl rfl) (Bz (pv 0)) (λ_ _ _ _=>(Ad (i:=0) (show (["row","place"]:dE).Nodup by decide +kernel) rfl li)) (λ_ _ _ _=>(BA Al (pv 0) (pv 1) (λ_ _=>rfl))))))
theorem oF:J_ P w mg base 1 "bottom_modulo" ["whole","modulus","limit"] MI:=Ao (f:=364) (c:=363) (pm:=P') (st:=XQ) X G λF=>H_ F (tO ) λb a d e=>(AJ (C_ a (pv 1)) (AJ (C_ a (pv 0)) (AJ (C_ a AO) (AJ (C_ a AO) (AJ (DI PassesOwn.never (cR EN (pv 4) (pv 2)) (AJ (C_ a (AN F1 (pv 3) (pv 4))) (AJ (C_ a (AN BM (pv 3) (AN A7 (pv 7) (pv 4)))) (AJ (C_ a (pv 4)) (AJ (C_ a (pv 8)) (AJ (C_ a (AN Bt (pv 5) (AN A7 (pv 7) (pv 6)))) (AJ (C_ a (pv 6)) (AS (C_ a (pv 9)))))))))) (AS (Ac (pv 6))))))))
theorem U5:J_ P w mg base 1 "_law_box" ["_law_script","_law_k"] KP:=Ao (f:=371) (c:=370) (pm:=V_) (st:=XR) X G λF=>H_ F (sZ ) λb a d e=>(AJ (C_ a AO) (AJ (Bi (cR JW (pv 1) (Ak LC rfl B.len Aw (AE (pv 0) AL))) (AS (C_ a (BA OD (pv 0) (pv 1) (λ_ _=>rfl)))) Bh) (AJ (C_ a (VV (JY EN (Ak LC rfl B.len Aw (AE (pv 0) AL)) AO (T_ _)) (VU (JY D5 (AN Cf (xI OD (pv 0)) AO) AO (T_ _))))) (AS (Ac (By (AE (AN A7 (Ak HJ rfl B.abs HI (AE (pv 2) AL)) (Eh Xy rfl B.int Xu (AE (pv 3) AL))) (AE (Ak HJ rfl B.abs HI (AE (pv 2) AL)) (AE (AN A7 AO (pv 1)) AL)))))))))
theorem NC:J_ P w mg base 1 "_law_take" ["_law_box_here","_law_many"] Ij:=Ao (f:=378) (c:=377) (pm:=V_) (st:=XS) X G λF=>H_ F (rC ) λb a d e=>(AJ (Bi (cR EN (xI Al (pv 0)) AO) (AJ (C_ a (AN Cf (xI Al (pv 0)) (pv 1))) (AJ (Eg (AN F1 (xI Al (pv 0)) (pv 1)) (Ef (pv 0) AO Dq)) (AS (Ac (pv 2))))) Bh) (AJ (Eg (AN Bt (xI Al (pv 0)) AO) (Ef (pv 0) AO Dq)) (AJ (C_ a (AN Bt (AN Cf (xI Al (pv 0)) AO) AO)) (AJ (C_ a (AN Cf (AN A7 (pv 3) (AN Bt AO (AN A7 (xI Al (pv 0)) (xI Al (pv 0))))) AO)) (AJ (C_ a (AN Cf (AN A7 (pv 3) (AN Bt (AN Bt (AN Cf (pv 3) AO) (AN A7 (xI Al (pv 0)) AO)) AO)) AO)) (AS (Ac (AN Cf (AN Bt (AN OC (AN A7 (pv 3) (pv 3)) AO) (AN OC (pv 3) AO)) (pv 1)))))))))
theorem ND:J_ P w mg base 1 "_law_lowest" ["_law_top","_law_bottom"] Ik:=Ao (f:=385) (c:=384) (pm:=V_) (st:=XT) X G λF=>H_ F (rD ) λb a d e=>(AJ (Kw (i:=2) (j:=3) rfl a rfl rfl ∅ rfl rfl (AE (Ak HJ rfl B.abs HI (AE (pv 0) AL)) (AE (pv 1) AL)) rfl) (AJ (DI PassesOwn.never (cR EN (pv 3) AO) (AS (Kw (i:=2) (j:=3) rfl a rfl rfl ∅ rfl rfl (AE (pv 3) (AE (AN Cf (pv 2) (pv 3)) AL)) rfl))) (AS (Ac (Bj (AE (AN Ew (pv 0) (pv 2)) (AE (AN Ew (pv 1) (pv 2)) AL)))))))
theorem NE:J_ P w mg base 1 "_law_poly_of" ["_law_row"] Il:=Ao (f:=413) (c:=412) (pm:=V_) (st:=XW) X G λF=>H_ F (rN ) λb a d e=>(AJ (C_ a (Ak Be rfl B.len Aw (AE (pv 0) AL))) (AJ (DI PassesOwn.never (PW.pt (G7 (cR EN (pv 1) AO) (G6 (cR D5 (xI At (BA Al (pv 0) (AN BM (pv 1) AO) (λ_ _=>rfl))) AO)))) (AS (C_ a (AN BM (pv 1) AO)))) (AS (Ac (Eh II rfl B.tuple IG (AE (FH FJ (pv 0) FF (FG (pv 1))) AL))))))
theorem oG:J_ P w mg base 2 "prime_after" ["whole"] ME:=Ao (f:=43) (c:=42) (pm:=J') (st:=WU) X G λF=>H_ F (uI ) λb a d e=>(AJ (C_ a (AN Bt (pv 0) AO)) (AJ (DI PassesOwn.never (Kv (G4 ((oA X G B).q1 b (pv 1)))) (AS (Db (i:=1) a rfl li AO JV))) (AS (Ac (pv 1)))))
theorem U6:J_ P w mg base 2 "content" ["row","start"] IV:=Ao (f:=60) (c:=59) (pm:=J') (st:=WX) X G λF=>H_ F (xU ) λb a d e=>(AJ (C_ a ((Gx X G B).q2 b (YY rfl B.min LB (Yo (N:=["whole"]) (capt:=[none]) rfl (BlkOk.of rfl rfl rfl rfl (λ_ h=>nomatch h) rfl rfl rfl) (Bz (pv 0)) (λ_ _ _ _=>(Ad (i:=0) (show (["whole"]:dE).Nodup by decide +kernel) rfl li)) (λ_ _ _ _=>(cR FE (pv 0) AO)) (λ_ _ _ _=>(Ak HJ rfl B.abs HI (AE (pv 0) AL))))) (pv 1))) (AJ (B7 PassesOwn.never rfl (Bz (pv 0)) (Ad (i:=3) a rfl li) (AJ (Bi (cR D5 (pv 2) AO) (AS (Ac AO)) Bh) (AS (C_ a ((Gx X G B).q2 b (pv 3) (pv 2)))))) (AS (Ac (pv 2)))))
theorem U7:J_ P w mg base 2 "row_less" ["row","factor","other","weight","shift"] IX:=Ao (f:=84) (c:=83) (pm:=J') (st:=Wb) X G λF=>H_ F (xY ) λb a d e=>(AJ (FK (i:=5) (N:=["whole","factor"]) (capt:=[none,some 1]) a rfl li rfl (BlkOk.of rfl rfl rfl rfl (Bq.mpr rfl) rfl rfl rfl) (Bz (pv 0)) (λ_ _ _ _=>(Ad (i:=0) (show (["whole","factor"]:dE).Nodup by decide +kernel) rfl li)) (λ_ _ _ _=>(AN A7 (pv 1) (pv 0)))) (AJ (FD (FI bT PySem.F.slot_list_extend PySem.F.type_list_extend WK (pv 5) (AE (AN Et (By (AE AO AL)) (AN BM (AN Bt (Ak Be rfl B.len Aw (AE (pv 2) AL)) (pv 4)) (Ak Be rfl B.len Aw (AE (pv 0) AL)))) AL))) (AJ (B7 PassesOwn.never rfl (LD rfl B.enumerate (AE (pv 2) AL)) (D9 rfl (Bx (Ad (i:=6) a rfl li) (Bx (Ad (i:=7) a rfl li) D4))) (AS (Kx (pv 5) (AN Bt (pv 6) (pv 4)) LF (AN A7 (pv 3) (pv 7)) IB Dq))) (AS (Ac ((M7 X G B).q1 b (pv 5)))))))
theorem oH:J_ P w mg base 2 "row_power" ["row","n"] KR:=Ao (f:=91) (c:=90) (pm:=J') (st:=Wc) X G λF=>H_ F (rP ) λb a d e=>(AJ (C_ a (By (AE ((M6 X G B).q2 b (xI Al (pv 0)) (pv 1)) AL))) (AJ (B7 PassesOwn.never rfl (Ky rfl B.range (AE AO (AE (AN Bt (AN A7 (pv 1) (AN BM (Ak Be rfl B.len Aw (AE (pv 0) AL)) AO)) AO) AL))) (Ad (i:=3) a rfl li) (AJ (C_ a AO) (AJ (B7 PassesOwn.never rfl (Ky rfl B.range (AE AO (AE (AN Bt (Ak (OF rfl) rfl B.min LB (AE (pv 3) (AE (AN BM (Ak Be rfl B.len Aw (AE (pv 0) AL)) AO) AL))) AO) AL))) (Ad (i:=5) a rfl li) (AS (Db (i:=4) a rfl li (AN A7 (AN A7 (AN BM (AN A7 (AN Bt (pv 1) AO) (pv 5)) (pv 3)) (BA Al (pv 0) (pv 5) (λ_ _=>rfl))) (BA Al (pv 2) (AN BM (pv 3) (pv 5)) (λ_ _=>rfl))) JV))) (AS (FD (FI bT cP cQ Fd (pv 2) (AE (AN Xx (pv 4) (AN A7 (pv 3) (xI Al (pv 0)))) AL))))))) (AS (Ac (pv 2)))))
theorem NF:J_ P w mg base 2 "row_modulo" ["row","prime"] He:=Ao (f:=134) (c:=133) (pm:=J') (st:=Wl) X G λF=>H_ F (wE ) λa b d e=>(AS (Ac ((M7 X G B).q1 a ((U1 X G B).q2 a (pv 0) (pv 1)))))
theorem NG:J_ P w mg base 2 "monic_modulo" ["row","prime"] Hf:=Ao (f:=139) (c:=138) (pm:=J') (st:=Wm) X G λF=>H_ F (wG ) λa b d e=>(AJ (Bi (Kv (Fg (pv 0) (λ_=>rfl))) (AS (Ac (By AL))) Bh) (AJ (Ct (i:=2) b rfl (Or.inr rfl) ((U0 X G B).q2 a (BA Al (pv 0) (CY CZ AO) (λ_ _=>rfl)) (pv 1))) (AS (Ac (CI (N:=["whole","prime","factor"]) (capt:=[none,some 1,some 2]) rfl (BlkOk.of rfl rfl rfl rfl (D3.mpr ⟨rfl,(Bq.mpr rfl)⟩) rfl rfl rfl) (Bz (pv 0)) (λ_ _ _ _=>(Ad (i:=0) (show (["whole","prime","factor"]:dE).Nodup by decide +kernel) rfl li)) (λ_ _ _ _=>(AN Cf (AN A7 (pv 0) (pv 2)) (pv 1))))))))
theorem U8:J_ P w mg base 2 "reduced_modulo" ["rows","prime"] KL:=Ao (f:=165) (c:=164) (pm:=J') (st:=Ws) X G λF=>H_ F (uU ) λb a d e=>(AJ (Ct (i:=2) a rfl (Or.inr rfl) (CI (N:=["row","prime"]) (capt:=[none,some 1]) rfl (BlkOk.of rfl rfl rfl rfl (Bq.mpr rfl) rfl rfl rfl) (Bz (pv 0)) (λ_ _ _ _=>(Ad (i:=0) (show (["row","prime"]:dE).Nodup by decide +kernel) rfl li)) (λ_ _ _ _=>((U1 X G B).q2 b (pv 0) (pv 1))))) (AJ (C_ a (Ys rfl B.list rfl B.range rfl (AE (Ak Be rfl B.len Aw (AE (pv 0) AL)) AL))) (AJ (C_ a (By AL)) (AJ (B7 PassesOwn.never rfl (EM rfl B.range (AE (Fv (Fg (pv 0) (λ_=>rfl)) (Ak Be rfl B.len Aw (AE (xI Al (pv 0)) AL)) AO) AL)) (Ad (i:=5) a rfl (Or.inr rfl)) (AJ (C_ a (Ak Be rfl B.len Aw (AE (pv 4) AL))) (AJ (Yn (i:=7) (N:=["place","column","left"]) (capt:=[none,some 5,some 2]) a rfl li rfl (BlkOk.of rfl rfl rfl rfl (D3.mpr ⟨rfl,(Bq.mpr rfl)⟩) rfl rfl rfl) (Ky rfl B.range (AE (pv 6) (AE (Ak Be rfl B.len Aw (AE (pv 2) AL)) AL))) (λ_ _ _ _=>(Ad (i:=0) (show (["place","column","left"]:dE).Nodup by decide +kernel) rfl li)) (λ_ _ _ _=>(cR FE (BA Al (BA Al (pv 2) (pv 0) (λ_ _=>rfl)) (pv 1) (λ_ _=>rfl)) AO)) (λ_ _ _ _=>(pv 0))) (AS (Bi (Fg (pv 7) (λ_=>rfl)) (AJ (Ct (i:=2) a rfl (Or.inr rfl) ((U3 X G B).q3 b (pv 2) (pv 6) (xI Al (pv 7)))) (AJ (C_ a ((U3 X G B).q3 b (pv 3) (pv 6) (xI Al (pv 7)))) (AJ (Ct (i:=8) a rfl (Or.inr rfl) ((U0 X G B).q2 b (BA Al (BA Al (pv 2) (pv 6) (λ_ _=>rfl)) (pv 5) (λ_ _=>rfl)) (pv 1))) (AJ (Ct (i:=9) a rfl (Or.inr rfl) (CI (N:=["whole","prime","factor"]) (capt:=[none,some 1,some 8]) rfl (BlkOk.of rfl rfl rfl rfl (D3.mpr ⟨rfl,(Bq.mpr rfl)⟩) rfl rfl rfl) (Bz (BA Al (pv 2) (pv 6) (λ_ _=>rfl))) (λ_ _ _ _=>(Ad (i:=0) (show (["whole","prime","factor"]:dE).Nodup by decide +kernel) rfl li)) (λ_ _ _ _=>(AN Cf (AN A7 (pv 0) (pv 2)) (pv 1))))) (AJ (Ct (i:=2) a rfl (Or.inr rfl) (CI (N:=["row","lead","column","prime"]) (capt:=[none,some 9,some 5,some 1]) rfl (BlkOk.of rfl rfl rfl rfl (D3.mpr ⟨rfl,(D3.mpr ⟨rfl,(Bq.mpr rfl)⟩)⟩) rfl rfl rfl) (Bz (pv 2)) (λ_ _ _ _=>(Ad (i:=0) (show (["row","lead","column","prime"]:dE).Nodup by decide +kernel) rfl li)) (λ_ _ _ _=>((oB X G B).pe b ∅ rfl (AE (pv 0) (AE (pv 1) (AE (pv 2) (AE (pv 3) AL)))))))) (AJ (Eg (pv 9) (Ef (pv 2) (pv 6) Dq)) (AS (FD (FI bT cP cQ Fd (pv 4) (AE (pv 5) AL)))))))))) Bh))))) (AS (Ac (Bj (AE (FH FJ (pv 2) FF (FG (Ak Be rfl B.len Aw (AE (pv 4) AL)))) (AE (FH FJ (pv 3) FF (FG (Ak Be rfl B.len Aw (AE (pv 4) AL)))) (AE (pv 4) AL))))))))))
theorem JO:J_ P w mg base 2 "ratio" ["top","bottom"] GB:=Ao (f:=203) (c:=202) (pm:=cJ) (st:=Wy) X G λF=>H_ F (xL ) λb a d e=>(AJ (C_ a ((Gx X G B).q2 b (pv 0) (pv 1))) (AJ (Bi (cR JW (pv 1) AO) (AS (C_ a (CY CZ (pv 2)))) Bh) (AS (Ac (Bj (AE (AN Ew (pv 0) (pv 2)) (AE (AN Ew (pv 1) (pv 2)) AL)))))))
theorem Gy:J_ P w mg base 2 "cleared" ["P"] FW:=Ao (f:=229) (c:=228) (pm:=a6) (st:=W3) X G λF=>H_ F (xM ) λb a d e=>(AJ (Ct (i:=1) a rfl (Or.inr rfl) AO) (AJ (B7 PassesOwn.never rfl (Od (pv 0)) (Ad (i:=2) a rfl li) (AS (Db (i:=1) a rfl (Or.inr rfl) (AN F1 (xI At (pv 2)) ((Gx X G B).q2 b (pv 1) (xI At (pv 2)))) Fy))) (AS (Ac (Bj (AE (CI (N:=["number","bottom"]) (capt:=[none,some 1]) rfl (BlkOk.of rfl rfl rfl rfl (Bq.mpr rfl) rfl rfl rfl) (Od (pv 0)) (λ_ _ _ _=>(Ad (i:=0) (show (["number","bottom"]:dE).Nodup by decide +kernel) rfl li)) (λ_ _ _ _=>(AN A7 (xI At (pv 0)) (AN F1 (pv 1) (xI At (pv 0)))))) (AE (pv 1) AL)))))))
theorem U9:J_ P w mg base 2 "crossed" ["rows"] KM:=Ao (f:=320) (c:=319) (pm:=P') (st:=XF) X G λF=>H_ F (tE ) λa b d e=>(AS (Ac (CI (N:=["place","rows"]) (capt:=[none,some 0]) rfl (BlkOk.of rfl rfl rfl rfl (Bq.mpr rfl) rfl rfl rfl) (EM rfl B.range (AE ((M9 X G B).q1 a (pv 0)) AL)) (λ_ _ _ _=>(Ad (i:=0) (show (["place","rows"]:dE).Nodup by decide +kernel) rfl li)) (λ_ _ _ _=>((oE X G B).q2 a (pv 1) (pv 0))))))
theorem oI:J_ P w mg base 2 "solves" ["minor","guess","due"] MK:=Ao (f:=352) (c:=351) (pm:=P') (st:=XN) X G λF=>H_ F (tR ) λb a d e=>(AJ (B7 PassesOwn.never rfl (Fj rfl B.zip (AE (pv 0) (AE (pv 2) AL))) (D9 rfl (Bx (Ad (i:=3) a rfl li) (Bx (Ad (i:=4) a rfl li) D4))) (AS (Bi (cR FE ((JN X G B).q2 b (pv 3) (xI At (pv 1))) (AN A7 (pv 4) (xI At (pv 1)))) (AS (Ac GK)) Bh))) (AS (Ac GK)))
theorem oJ:J_ P w mg base 2 "guessed" ["places","modulus"] MJ:=Ao (f:=357) (c:=356) (pm:=P') (st:=XO) X G λF=>H_ F (tQ ) λb a d e=>(AJ (C_ a (AN Yk AO (AN F1 (AN BM (WJ PySem.F.plainAttrs_int PySem.F.slot_int_bit_length PyProof.Rows.type_int_bit_length Yl (pv 1)) AO) AO))) (AJ (Ct (i:=3) a rfl (Or.inr rfl) AO) (AJ (B7 PassesOwn.never rfl (Bz (pv 0)) (Ad (i:=4) a rfl li) (AS (Bi (cR EN (Ak HJ rfl B.abs HI (AE ((M8 X G B).q2 b (AN A7 (pv 4) (pv 3)) (pv 1)) AL)) (pv 2)) (AJ (Db (i:=3) a rfl (Or.inr rfl) ((oF X G B).q3 b (AN Cf (AN A7 (pv 4) (pv 3)) (pv 1)) (pv 1) (pv 2)) Fy) (AS (Bi (cR EN (pv 3) (pv 2)) (AS (Ac Es)) Bh))) Bh))) (AS (Ac (Bj (AE (CI (N:=["place","modulus","bottom"]) (capt:=[none,some 1,some 3]) rfl (BlkOk.of rfl rfl rfl rfl (D3.mpr ⟨rfl,(Bq.mpr rfl)⟩) rfl rfl rfl) (Bz (pv 0)) (λ_ _ _ _=>(Ad (i:=0) (show (["place","modulus","bottom"]:dE).Nodup by decide +kernel) rfl li)) (λ_ _ _ _=>((M8 X G B).q2 b (AN A7 (pv 0) (pv 2)) (pv 1)))) (AE (pv 3) AL))))))))
theorem oK:J_ P w mg base 2 "_law_sum" ["_law_one","_law_other"] QB:=Ao (f:=399) (c:=398) (pm:=V_) (st:=XU) X G λF=>H_ F (rE ) λa b d e=>(AS (Ac ((ND X G B).q2 a (AN Bt (AN A7 (xI At (pv 0)) (xI At (pv 1))) (AN A7 (xI At (pv 1)) (xI At (pv 0)))) (AN A7 (xI At (pv 0)) (xI At (pv 1))))))
theorem VA:J_ P w mg base 2 "_law_product" ["_law_one","_law_other"] MM:=Ao (f:=406) (c:=405) (pm:=V_) (st:=XV) X G λF=>H_ F (rG ) λa b d e=>(AS (Ac ((ND X G B).q2 a (AN A7 (xI At (pv 0)) (xI At (pv 1))) (AN A7 (xI At (pv 0)) (xI At (pv 1))))))
theorem NH:J_ P w mg base 2 "_law_short" ["_law_box_here","_law_most"] Io:=Ao (f:=420) (c:=419) (pm:=V_) (st:=XX) X G λF=>H_ F (qG ) λa b e d=>(AJ (C_ b (By AL)) (AJ (B7 PassesOwn.never rfl (EM rfl B.range (AE ((NC X G B).q2 a (pv 0) (AN Bt (pv 1) AO)) AL)) (Ad (i:=3) b rfl li) (AS (FD (FI bT cP cQ Fd (pv 2) (AE ((ND X G B).q2 a (AN BM ((NC X G B).q2 a (pv 0) AO) AO) (AN Bt AO ((NC X G B).q2 a (pv 0) AO))) AL))))) (AJ (Bi (cR (OK d) ((NE X G B).q1 a (pv 2)) (Bj AL)) (AS (Ac (Bj (AE (Bj (AE AO (AE AO AL))) AL)))) Bh) (AS (Ac ((NE X G B).q1 a (pv 2)))))))
theorem oM:J_ P w mg base 3 "other_prime" ["prime"] MF:=Ao (f:=50) (c:=49) (pm:=J') (st:=WV) X G λF=>H_ F (uK ) λa b d e=>(AS (Ac (Fv (cR D5 (pv 0) (JP rfl B.FIRST_PRIME ⟨_,rfl⟩)) (JP rfl B.SECOND_PRIME ⟨_,rfl⟩) ((oG X G B).q1 a (pv 0)))))
theorem VB:J_ P w mg base 3 "strand_shortened" ["strand"] IZ:=Ao (f:=101) (c:=100) (pm:=J') (st:=We) X G λF=>H_ F (wL ) λb a d e=>(AJ (Ct (i:=1) a rfl (Or.inr rfl) AO) (AJ (B7 PassesOwn.never rfl (Bz (pv 0)) (Ad (i:=2) a rfl li) (AS (Ct (i:=1) a rfl (Or.inr rfl) ((U6 X G B).q2 b (pv 2) (pv 1))))) (AS (Ac (CI (N:=["row","shared"]) (capt:=[none,some 1]) rfl (BlkOk.of rfl rfl rfl rfl (Bq.mpr rfl) rfl rfl rfl) (Bz (pv 0)) (λ_ _ _ _=>(Ad (i:=0) (show (["row","shared"]:dE).Nodup by decide +kernel) rfl li)) (λ_ _ _ _=>((Uy X G B).q2 b (pv 0) (pv 1))))))))
theorem oO:J_ P w mg base 3 "split_modulo" ["row","divisor","modulus"] J9:=Ao (f:=146) (c:=145) (pm:=J') (st:=Wn) X G λF=>H_ F (wK ) λb a d e=>(AJ (C_ a (Eh Jj rfl B.list GS (AE (pv 0) AL))) (AJ (C_ a (AN BM (Ak Be rfl B.len Aw (AE (pv 1) AL)) AO)) (AJ (C_ a (AN Et (By (AE AO AL)) (Ak (Je rfl) rfl B.max Jd (AE (AN BM (Ak Be rfl B.len Aw (AE (pv 0) AL)) (pv 4)) (AE AO AL))))) (AJ (B7 PassesOwn.never rfl (OQ rfl B.range (AE (AN BM (AN BM (Ak Be rfl B.len Aw (AE (pv 0) AL)) (pv 4)) AO) (AE (CY CZ AO) (AE (CY CZ AO) AL)))) (Ad (i:=6) a rfl li) (AJ (C_ a (AN Cf (BA Al (pv 3) (AN Bt (pv 6) (pv 4)) (λ_ _=>rfl)) (pv 2))) (AJ (Eg (pv 7) (Ef (pv 5) (pv 6) Dq)) (AS (Bi (cR FE (pv 7) AO) (AS (B7 PassesOwn.never rfl (EM rfl B.range (AE (pv 4) AL)) (Ad (i:=8) a rfl li) (AS (Kx (pv 3) (AN Bt (pv 6) (pv 8)) LF (AN A7 (pv 7) (BA Al (pv 1) (pv 8) (λ_ _=>rfl))) IB Dq)))) Bh))))) (AS (Ac (Bj (AE ((M7 X G B).q1 b (pv 5)) (AE ((NF X G B).q2 b (FH FJ (pv 3) FF (FG (pv 4))) (pv 2)) AL)))))))))
theorem oP:J_ P w mg base 3 "over" ["one","other"] KG:=Ao (f:=210) (c:=209) (pm:=cJ) (st:=Wz) X G λF=>H_ F (vP ) λa b d e=>(AS (Ac ((JO X G B).q2 a (AN A7 (xI At (pv 0)) (xI At (pv 1))) (AN A7 (xI At (pv 0)) (xI At (pv 1))))))
theorem NI:J_ P w mg base 3 "uncleared" ["row","bottom"] Hi:=Ao (f:=234) (c:=233) (pm:=a6) (st:=W4) X G λF=>H_ F (xN ) λa b d e=>(AS (Ac ((U4 X G B).q1 a (CI (N:=["whole","bottom"]) (capt:=[none,some 1]) rfl (BlkOk.of rfl rfl rfl rfl (Bq.mpr rfl) rfl rfl rfl) (Bz (pv 0)) (λ_ _ _ _=>(Ad (i:=0) (show (["whole","bottom"]:dE).Nodup by decide +kernel) rfl li)) (λ_ _ _ _=>((JO X G B).q2 a (pv 0) (pv 1)))))))
theorem oQ:J_ P w mg base 3 "p_at" ["P","c"] KH:=Ao (f:=260) (c:=259) (pm:=a6) (st:=W8) X G λF=>H_ F (vS ) λb a d e=>(AJ (C_ a ((Gy X G B).q1 b (pv 0))) (AJ (C_ a AO) (AJ (C_ a AO) (AJ (B7 PassesOwn.never rfl (YO rfl B.reversed (AE (xI At (pv 2)) AL)) (Ad (i:=5) a rfl li) (AJ (C_ a (AN Bt (AN A7 (pv 3) (xI At (pv 1))) (AN A7 (pv 5) (pv 4)))) (AS (Db (i:=4) a rfl li (xI At (pv 1)) Fy)))) (AS (Ac ((JO X G B).q2 b (AN A7 (pv 3) (xI At (pv 1))) (AN A7 (xI At (pv 2)) (pv 4)))))))))
theorem NJ:J_ P w mg base 3 "numbers_over" ["wholes","bottom"] Ig:=Ao (f:=315) (c:=314) (pm:=P') (st:=XE) X G λF=>H_ F (uZ ) λa b d e=>(AS (Ac (Eh II rfl B.tuple IG (AE (CI (N:=["whole","bottom"]) (capt:=[none,some 1]) rfl (BlkOk.of rfl rfl rfl rfl (Bq.mpr rfl) rfl rfl rfl) (Bz (pv 0)) (λ_ _ _ _=>(Ad (i:=0) (show (["whole","bottom"]:dE).Nodup by decide +kernel) rfl li)) (λ_ _ _ _=>((JO X G B).q2 a (pv 0) (pv 1)))) AL))))
theorem oR:J_ P w mg base 3 "inverse_rows" ["rows","prime"] MH:=Ao (f:=330) (c:=329) (pm:=P') (st:=XH) X G λF=>H_ F (tI ) λa b d e=>(AJ (Ct (i:=2) b rfl (Or.inr rfl) (Ak Be rfl B.len Aw (AE (pv 0) AL))) (AJ (FK (i:=3) (N:=["place","row","many"]) (capt:=[none,none,some 2]) b rfl li rfl (BlkOk.of rfl rfl rfl rfl (Bq.mpr rfl) rfl rfl rfl) (LD rfl B.enumerate (AE (pv 0) AL)) (λ_ _ _ _=>(D9 rfl (Bx (Ad (i:=0) (show (["place","row","many"]:dE).Nodup by decide +kernel) rfl li) (Bx (Ad (i:=1) (show (["place","row","many"]:dE).Nodup by decide +kernel) rfl li) D4)))) (λ_ _ _ _=>(AN ID (pv 1) ((Ko X G B).q3 a (By (AE (pv 0) AL)) (By (AE AO AL)) (pv 2))))) (AS (Ac (CI (N:=["row","many"]) (capt:=[none,some 2]) rfl (BlkOk.of rfl rfl rfl rfl (Bq.mpr rfl) rfl rfl rfl) (Bz (xI At ((U8 X G B).q2 a (pv 3) (pv 1)))) (λ_ _ _ _=>(Ad (i:=0) (show (["row","many"]:dE).Nodup by decide +kernel) rfl li)) (λ_ _ _ _=>(FH FJ (pv 0) (FG (pv 1)) FF)))))))
theorem NK:J_ P w mg base 3 "settled" ["minor","turned","due","prime"] Ih:=Ao (f:=345) (c:=344) (pm:=P') (st:=XM) X G λF=>H_ F (tU ) λb a d e=>(AJ (C_ a (pv 2)) (AJ (C_ a (AN Et (By (AE AO AL)) (Ak Be rfl B.len Aw (AE (pv 2) AL)))) (AJ (Ct (i:=6) a rfl (Or.inr rfl) AO) (AJ (C_ a AO) (AS (DI PassesOwn.never (G4 GK) (AJ (B7 PassesOwn.never rfl (EM rfl B.range (AE (pv 7) AL)) (Ad (i:=8) a rfl li) (AJ (Ct (i:=9) a rfl (Or.inr rfl) (CI (N:=["whole","prime"]) (capt:=[none,some 3]) rfl (BlkOk.of rfl rfl rfl rfl (Bq.mpr rfl) rfl rfl rfl) (Bz (pv 4)) (λ_ _ _ _=>(Ad (i:=0) (show (["whole","prime"]:dE).Nodup by decide +kernel) rfl li)) (λ_ _ _ _=>(AN Cf (pv 0) (pv 1))))) (AJ (Ct (i:=10) a rfl (Or.inr rfl) (CI (N:=["row","prime","short"]) (capt:=[none,some 3,some 9]) rfl (BlkOk.of rfl rfl rfl rfl (D3.mpr ⟨rfl,(Bq.mpr rfl)⟩) rfl rfl rfl) (Bz (pv 1)) (λ_ _ _ _=>(Ad (i:=0) (show (["row","prime","short"]:dE).Nodup by decide +kernel) rfl li)) (λ_ _ _ _=>(AN Cf ((JN X G B).q2 b (pv 0) (pv 2)) (pv 1))))) (AJ (FK (i:=5) (N:=["whole","more","scale"]) (capt:=[none,none,some 6]) a rfl li rfl (BlkOk.of rfl rfl rfl rfl (Bq.mpr rfl) rfl rfl rfl) (Fj rfl B.zip (AE (pv 5) (AE (pv 10) AL))) (λ_ _ _ _=>(D9 rfl (Bx (Ad (i:=0) (show (["whole","more","scale"]:dE).Nodup by decide +kernel) rfl li) (Bx (Ad (i:=1) (show (["whole","more","scale"]:dE).Nodup by decide +kernel) rfl li) D4)))) (λ_ _ _ _=>(AN Bt (pv 0) (AN A7 (pv 2) (pv 1))))) (AJ (FK (i:=4) (N:=["whole","row","prime","found"]) (capt:=[none,none,some 3,some 10]) a rfl li rfl (BlkOk.of rfl rfl rfl rfl (D3.mpr ⟨rfl,(Bq.mpr rfl)⟩) rfl rfl rfl) (Fj rfl B.zip (AE (pv 4) (AE (pv 0) AL))) (λ_ _ _ _=>(D9 rfl (Bx (Ad (i:=0) (show (["whole","row","prime","found"]:dE).Nodup by decide +kernel) rfl li) (Bx (Ad (i:=1) (show (["whole","row","prime","found"]:dE).Nodup by decide +kernel) rfl li) D4)))) (λ_ _ _ _=>(AN F1 (AN BM (pv 0) ((JN X G B).q2 b (pv 1) (pv 3))) (pv 2)))) (AS (Db (i:=6) a rfl (Or.inr rfl) (pv 3) Fy))))))) (AJ (C_ a ((oJ X G B).q2 b (pv 5) (pv 6))) (AJ (Bi (PW.pt (G7 (cR Nc (pv 11) Es) (G6 (G4 ((oI X G B).q3 b (pv 0) (pv 11) (pv 2)))))) (AS (Ac (pv 11))) Bh) (AS (Db (i:=7) a rfl li AO Fy)))))))))))
theorem NL:J_ P w mg base 3 "_law_multiplied" ["_law_kp","_law_kq"] Im:=Ao (f:=434) (c:=433) (pm:=V_) (st:=XY) X G λF=>H_ F (qD ) λb a d e=>(AJ (C_ a (AN Et (By (AE (Bj (AE AO (AE AO AL))) AL)) (AN Bt (Ak DB rfl B.len Aw (AE (pv 0) AL)) (Ak DB rfl B.len Aw (AE (pv 1) AL))))) (AJ (B7 PassesOwn.never rfl (OJ rfl B.enumerate (AE (pv 0) AL)) (D9 rfl (Bx (Ad (i:=3) a rfl li) (Bx (Ad (i:=4) a rfl li) D4))) (AS (B7 PassesOwn.never rfl (OJ rfl B.enumerate (AE (pv 1) AL)) (D9 rfl (Bx (Ad (i:=5) a rfl li) (Bx (Ad (i:=6) a rfl li) D4))) (AS (Eg ((oK X G B).q2 b (BA Al (pv 2) (AN Bt (pv 3) (pv 5)) (λ_ _=>rfl)) ((VA X G B).q2 b (pv 4) (pv 6))) (Ef (pv 2) (AN Bt (pv 3) (pv 5)) Dq)))))) (AS (Ac ((NE X G B).q1 b (pv 2))))))
theorem oS:J_ P w mg base 4 "strand_rest" ["strand","other"] J8:=Ao (f:=96) (c:=95) (pm:=J') (st:=Wd) X G λF=>H_ F (wP ) λb a d e=>(AJ (DI PassesOwn.never (cR JX (Ak Be rfl B.len Aw (AE (xI Al (pv 0)) AL)) (Ak Be rfl B.len Aw (AE (xI Al (pv 1)) AL))) (AJ (Ct (i:=2) a rfl (Or.inr rfl) (AN BM (Ak Be rfl B.len Aw (AE (xI Al (pv 0)) AL)) (Ak Be rfl B.len Aw (AE (xI Al (pv 1)) AL)))) (AJ (C_ a (BA Al (xI Al (pv 0)) (CY CZ AO) (λ_ _=>rfl))) (AJ (C_ a (BA Al (xI Al (pv 1)) (CY CZ AO) (λ_ _=>rfl))) (AJ (C_ a ((Gx X G B).q2 b (pv 3) (pv 4))) (AJ (Ct (i:=6) a rfl (Or.inr rfl) (AN Ew (pv 4) (pv 5))) (AJ (Ct (i:=7) a rfl (Or.inr rfl) (AN Ew (pv 3) (pv 5))) (AS (FK (i:=0) (N:=["row","follower","factor","weight","shift"]) (capt:=[none,none,some 6,some 7,some 2]) a rfl li rfl (BlkOk.of rfl rfl rfl rfl (D3.mpr ⟨rfl,(D3.mpr ⟨rfl,(Bq.mpr rfl)⟩)⟩) rfl rfl rfl) (Fj rfl B.zip (AE (pv 0) (AE (pv 1) AL))) (λ_ _ _ _=>(D9 rfl (Bx (Ad (i:=0) (show (["row","follower","factor","weight","shift"]:dE).Nodup by decide +kernel) rfl li) (Bx (Ad (i:=1) (show (["row","follower","factor","weight","shift"]:dE).Nodup by decide +kernel) rfl li) D4)))) (λ_ _ _ _=>((U7 X G B).pe b ∅ rfl (AE (pv 0) (AE (pv 2) (AE (pv 1) (AE (pv 3) (AE (pv 4) AL)))))))))))))))) (AS (Ac ((VB X G B).q1 b (pv 0)))))
theorem NM:J_ P w mg base 4 "row_shortened" ["row"] Hb:=Ao (f:=108) (c:=107) (pm:=J') (st:=Wf) X G λF=>H_ F (wN ) λa b d e=>(AS (Ac (xI Al ((VB X G B).q1 a (By (AE (pv 0) AL))))))
theorem oT:J_ P w mg base 4 "rest_modulo" ["row","divisor","modulus"] KA:=Ao (f:=153) (c:=152) (pm:=J') (st:=Wp) X G λF=>H_ F (wI ) λa b d e=>(AS (Ac (xI At ((oO X G B).q3 a (pv 0) (pv 1) (pv 2)))))
theorem oU:J_ P w mg base 4 "p_split" ["P","Q"] KF:=Ao (f:=241) (c:=240) (pm:=a6) (st:=W5) X G λF=>H_ F (vN ) λb a d e=>(AJ (C_ a ((Gy X G B).q1 b (pv 0))) (AJ (C_ a ((Gy X G B).q1 b (pv 1))) (AJ (C_ a (xI At (pv 2))) (AJ (C_ a (xI At (pv 2))) (AJ (C_ a (BA Al (xI At (pv 3)) (CY CZ AO) (λ_ _=>rfl))) (AJ (C_ a (AN Et (By (AE (Bj (AE AO (AE AO AL))) AL)) (Ak (Je rfl) rfl B.max Jd (AE (AN Bt (AN BM (Ak DB rfl B.len Aw (AE (pv 0) AL)) (Ak DB rfl B.len Aw (AE (pv 1) AL))) AO) (AE AO AL))))) (AJ (DI PassesOwn.never (cR JX (Ak Be rfl B.len Aw (AE (pv 4) AL)) (Ak DB rfl B.len Aw (AE (pv 1) AL))) (AJ (C_ a (AN BM (Ak Be rfl B.len Aw (AE (pv 4) AL)) (Ak DB rfl B.len Aw (AE (pv 1) AL)))) (AJ (Eg ((JO X G B).q2 b (AN A7 (BA Al (pv 4) (CY CZ AO) (λ_ _=>rfl)) (xI At (pv 3))) (AN A7 (pv 5) (pv 6))) (Ef (pv 7) (pv 8) Dq)) (AJ (C_ a ((Gx X G B).q2 b (BA Al (pv 4) (CY CZ AO) (λ_ _=>rfl)) (pv 6))) (AJ (C_ a ((U7 X G B).pe b ∅ rfl (AE (pv 4) (AE (AN Ew (pv 6) (pv 9)) (AE (xI At (pv 3)) (AE (AN Ew (BA Al (pv 4) (CY CZ AO) (λ_ _=>rfl)) (pv 9)) (AE (pv 8) AL))))))) (AJ (Db (i:=5) a rfl li (AN Ew (pv 6) (pv 9)) Fy) (AJ (C_ a ((U6 X G B).q2 b (pv 4) (pv 5))) (AJ (C_ a ((Uy X G B).q2 b (pv 4) (pv 10))) (AS (Db (i:=5) a rfl li (pv 10) Yb)))))))))) (AS (Ac (Bj (AE ((U4 X G B).q1 b (pv 7)) (AE ((NI X G B).q2 b (pv 4) (pv 5)) AL))))))))))))
theorem oV:J_ P w mg base 4 "monic" ["P"] KS:=Ao (f:=246) (c:=245) (pm:=a6) (st:=W6) X G λF=>H_ F (qA ) λa b d e=>(AS (Ac (Eh II rfl B.tuple IG (AE (CI (N:=["number","P"]) (capt:=[none,some 0]) rfl (BlkOk.of rfl rfl rfl rfl (Bq.mpr rfl) rfl rfl rfl) (NU (pv 0)) (λ_ _ _ _=>(Ad (i:=0) (show (["number","P"]:dE).Nodup by decide +kernel) rfl li)) (λ_ _ _ _=>((oP X G B).q2 a (pv 0) (BA At (pv 1) (CY CZ AO) (λ_ _=>rfl))))) AL))))
theorem VC:J_ P w mg base 4 "p_power" ["P","n"] Ip:=Ao (f:=267) (c:=266) (pm:=a6) (st:=W9) X G λF=>H_ F (rY ) λa b d e=>(AJ (Bi (cR D5 (pv 1) AO) (AS (Ac (Bj (AE (Bj (AE AO (AE AO AL))) AL)))) Bh) (AJ (C_ b ((Gy X G B).q1 a (pv 0))) (AJ (C_ b AO) (AJ (DI PassesOwn.never (PW.pt (G7 (cR JW (pv 3) (Ak DB rfl B.len Aw (AE (pv 0) AL))) (G6 (cR D5 (BA Al (xI At (pv 2)) (pv 3) (λ_ _=>rfl)) AO)))) (AS (Db (i:=3) b rfl li AO JV))) (AJ (Bi (cR D5 (pv 3) (Ak DB rfl B.len Aw (AE (pv 0) AL))) (AS (Ac (Bj AL))) Bh) (AS (Ac ((NI X G B).q2 a (AN ID (AN Et (By (AE AO AL)) (AN A7 (pv 3) (pv 1))) ((oH X G B).q2 a (FH FJ (xI At (pv 2)) (FG (pv 3)) FF) (pv 1))) ((M6 X G B).q2 a (xI At (pv 2)) (pv 1))))))))))
theorem VD:Mak P w (hp w.params) mg base 4 "Core" (B8 (hp w.params)) ["self","sides","prime"] (Gk (hp w.params)):=by
 rw [Ux];have F:=N3 (x := "__init__") (qual := "Core.__init__") (st:=N6) (show (hp w.params).lookup 284=some (fnQ "__init__" "Core.__init__" N6 P' 283) by kernel_rfl) (by kernel_rfl) (by kernel_rfl);exact ⟨284,_,⟨by kernel_rfl,by kernel_rfl,by kernel_rfl,by kernel_rfl⟩,H_ F (tJ Kn) λa b e f=>(AJ (C_ b ((U8 X G B).q2 a (pv 1) (pv 2))) (AJ (IC (pv 0) (pv 2) rfl) (AJ (IC (pv 0) (xI At (pv 3)) rfl) (AJ (IC (pv 0) (xI At (pv 3)) rfl) (AJ (IC (pv 0) (CI (N:=["line","sides","self"]) (capt:=[none,some 1,some 0]) rfl (BlkOk.of rfl rfl rfl rfl (D3.mpr ⟨rfl,(Bq.mpr rfl)⟩) rfl rfl rfl) (Bz (Cy (pv 0) rfl)) (λ_ _ _ _=>(Ad (i:=0) (show (["line","sides","self"]:dE).Nodup by decide +kernel) rfl li)) (λ_ _ _ _=>((NA X G B).q2 a (BA Al (pv 1) (pv 0) (λ_ _=>rfl)) (Cy (pv 2) rfl)))) rfl) (AS (IC (pv 0) ((oR X G B).q2 a (Cy (pv 0) rfl) (pv 2)) rfl))))))),F.binds λ_ _ _ _ _ _ c d=>by obtain ⟨_,_,_,rfl⟩:=M5 c d;rfl,W.mg_of X G (by kernel_rfl)⟩
theorem VE:J_ P w mg base 4 "frees_of" ["sides","core"] Ii:=Ao (f:=335) (c:=334) (pm:=P') (st:=XI) X G λF=>H_ F (tW Kn) λb a e d=>(AJ (C_ a ((M9 X G B).q1 b (pv 0))) (AJ (C_ a (By AL)) (AJ (B7 PassesOwn.never rfl (EM rfl B.range (AE (pv 2) AL)) (Ad (i:=4) a rfl (Or.inr rfl)) (AS (Bi (Nd (Yi d) (pv 4) (Cy (pv 1) rfl) rfl) (AJ (FK (i:=5) (N:=["line","column","sides"]) (capt:=[none,some 4,some 0]) a rfl li rfl (BlkOk.of rfl rfl rfl rfl (D3.mpr ⟨rfl,(Bq.mpr rfl)⟩) rfl rfl rfl) (Bz (Cy (pv 1) rfl)) (λ_ _ _ _=>(Ad (i:=0) (show (["line","column","sides"]:dE).Nodup by decide +kernel) rfl li)) (λ_ _ _ _=>(CY CZ (BA Al (BA Al (pv 2) (pv 0) (λ_ _=>rfl)) (pv 1) (λ_ _=>rfl))))) (AJ (C_ a ((NK X G B).pe b ∅ rfl (AE (Cy (pv 1) rfl) (AE (Cy (pv 1) rfl) (AE (pv 5) (AE (Cy (pv 1) rfl) AL)))))) (AJ (Ct (i:=7) a rfl (Or.inr rfl) ((Ko X G B).q3 b (Cy (pv 1) rfl) (xI At (pv 6)) (pv 2))) (AJ (Eg (xI At (pv 6)) (Ef (pv 7) (pv 4) Dq)) (AJ (Bi (G4 (Ak (OU rfl) rfl B.any OT (AE (CI (N:=["side","row"]) (capt:=[none,some 7]) rfl (BlkOk.of rfl rfl rfl rfl (Bq.mpr rfl) rfl rfl rfl) (Bz (pv 0)) (λ_ _ _ _=>(Ad (i:=0) (show (["side","row"]:dE).Nodup by decide +kernel) rfl li)) (λ_ _ _ _=>((JN X G B).q2 b (pv 0) (pv 1)))) AL))) (AS (Ac Es)) Bh) (AS (FD (FI bT cP cQ Fd (pv 3) (AE ((NJ X G B).q2 b (pv 7) (xI At (pv 6))) AL))))))))) Bh))) (AS (Ac (pv 3))))))
theorem oY:J_ P w mg base 4 "weights_against" ["sides","core","place"] ML:=Ao (f:=340) (c:=339) (pm:=P') (st:=XJ) X G λF=>H_ F (tY Kn) λa b d e=>(AJ (C_ b ((NA X G B).q2 a (BA Al (pv 0) (pv 2) (λ_ _=>rfl)) (Cy (pv 1) rfl))) (AJ (C_ b ((NK X G B).pe a ∅ rfl (AE ((U9 X G B).q1 a (Cy (pv 1) rfl)) (AE ((U9 X G B).q1 a (Cy (pv 1) rfl)) (AE (pv 3) (AE (Cy (pv 1) rfl) AL)))))) (AJ (C_ b ((Ko X G B).q3 a (Cy (pv 1) rfl) (CI (N:=["whole"]) (capt:=[none]) rfl (BlkOk.of rfl rfl rfl rfl (λ_ h=>nomatch h) rfl rfl rfl) (Bz (xI At (pv 4))) (λ_ _ _ _=>(Ad (i:=0) (show (["whole"]:dE).Nodup by decide +kernel) rfl li)) (λ_ _ _ _=>(CY CZ (pv 0)))) (Ak Be rfl B.len Aw (AE (pv 0) AL)))) (AJ (Eg (xI At (pv 4)) (Ef (pv 5) (pv 2) Dq)) (AS (Ac (Bj (AE (pv 5) (AE (xI At (pv 4)) AL)))))))))
theorem oZ:J_ P w mg base 5 "strand_euclid" ["strand","other"] Ia:=Ao (f:=115) (c:=114) (pm:=J') (st:=Wg) X G λF=>H_ F (wQ ) λb a d e=>(AJ (DI PassesOwn.never (Fg (xI Al (pv 1)) (λ_=>rfl)) (AJ (Bi (cR D5 (Ak Be rfl B.len Aw (AE (xI Al (pv 1)) AL)) AO) (AS (Ac (pv 1))) Bh) (AJ (C_ a ((oS X G B).q2 b (pv 0) (pv 1))) (AJ (C_ a (pv 1)) (AS (C_ a (pv 2))))))) (AS (Ac (pv 0))))
theorem nA:J_ P w mg base 5 "euclid_modulo" ["row","other","prime"] KC:=Ao (f:=160) (c:=159) (pm:=J') (st:=Wr) X G λF=>H_ F (wJ ) λa b d e=>(AJ (C_ b ((NG X G B).q2 a ((NF X G B).q2 a (pv 0) (pv 2)) (pv 2))) (AJ (C_ b ((NG X G B).q2 a ((NF X G B).q2 a (pv 1) (pv 2)) (pv 2))) (AJ (DI PassesOwn.never (Fg (pv 1) (λ_=>rfl)) (AJ (C_ b ((oT X G B).q3 a (pv 0) (pv 1) (pv 2))) (AJ (C_ b (pv 1)) (AS (C_ b ((NG X G B).q2 a (pv 3) (pv 2))))))) (AS (Ac (pv 0))))))
theorem nB:J_ P w mg base 6 "common_by_prime" ["row","other","prime"] KD:=Ao (f:=189) (c:=188) (pm:=J') (st:=Ww) X G λF=>H_ F (wW ) λa b d e=>(AJ (Ct (i:=3) b rfl (Or.inr rfl) ((Gx X G B).q2 a (BA Al (pv 0) (CY CZ AO) (λ_ _=>rfl)) (BA Al (pv 1) (CY CZ AO) (λ_ _=>rfl)))) (AJ (Bi (cR D5 (AN Cf (pv 3) (pv 2)) AO) (AS (Ac Es)) Bh) (AJ (C_ b ((nA X G B).q3 a (pv 0) (pv 1) (pv 2))) (AJ (C_ b ((NM X G B).q1 a (CI (N:=["whole","prime","lead"]) (capt:=[none,some 2,some 3]) rfl (BlkOk.of rfl rfl rfl rfl (D3.mpr ⟨rfl,(Bq.mpr rfl)⟩) rfl rfl rfl) (Bz (pv 4)) (λ_ _ _ _=>(Ad (i:=0) (show (["whole","prime","lead"]:dE).Nodup by decide +kernel) rfl li)) (λ_ _ _ _=>((M8 X G B).q2 a (AN A7 (pv 2) (pv 0)) (pv 1)))))) (AJ (Bi (PW.pt (Ku (cR K0 ((Uz X G B).q2 a (pv 0) (pv 5)) Es) (Kt (cR K0 ((Uz X G B).q2 a (pv 1) (pv 5)) Es)))) (AS (Ac Es)) Bh) (AS (Ac (pv 5))))))))
theorem VF:J_ P w mg base 6 "solved" ["rows","due"] KO:=Ao (f:=272) (c:=271) (pm:=P') (st:=XA) X G λF=>H_ F (sY Kn) λa b d e=>(AJ (FK (i:=2) (N:=["row","number"]) (capt:=[none,none]) b rfl li rfl (BlkOk.of rfl rfl rfl rfl (λ_ h=>nomatch h) rfl rfl rfl) (Fj rfl B.zip (AE (pv 0) (AE (pv 1) AL))) (λ_ _ _ _=>(D9 rfl (Bx (Ad (i:=0) (show (["row","number"]:dE).Nodup by decide +kernel) rfl li) (Bx (Ad (i:=1) (show (["row","number"]:dE).Nodup by decide +kernel) rfl li) D4)))) (λ_ _ _ _=>((Gy X G B).q1 a (AN ID (Eh Jj rfl B.list GS (AE (pv 0) AL)) (By (AE (pv 1) AL)))))) (AJ (FK (i:=3) (N:=["line"]) (capt:=[none]) b rfl li rfl (BlkOk.of rfl rfl rfl rfl (λ_ h=>nomatch h) rfl rfl rfl) (Bz (pv 2)) (λ_ _ _ _=>(Ad (i:=0) (show (["line"]:dE).Nodup by decide +kernel) rfl li)) (λ_ _ _ _=>(FH FJ (xI At (pv 0)) FF (FG (CY CZ AO))))) (AJ (FK (i:=4) (N:=["line"]) (capt:=[none]) b rfl li rfl (BlkOk.of rfl rfl rfl rfl (λ_ h=>nomatch h) rfl rfl rfl) (Bz (pv 2)) (λ_ _ _ _=>(Ad (i:=0) (show (["line"]:dE).Nodup by decide +kernel) rfl li)) (λ_ _ _ _=>(BA Al (xI At (pv 0)) (CY CZ AO) (λ_ _=>rfl)))) (AJ (C_ b ((VD X G B).pe a ∅ rfl (AE (pv 3) (AE (JP rfl B.FIRST_PRIME ⟨_,rfl⟩) AL)))) (AJ (C_ b ((VE X G B).q2 a (pv 3) (pv 5))) (AJ (DI PassesOwn.never (cR K0 (pv 6) Es) (AJ (C_ b ((VD X G B).pe a ∅ rfl (AE (pv 3) (AE ((oM X G B).q1 a (Cy (pv 5) rfl)) AL)))) (AS (C_ b ((VE X G B).q2 a (pv 3) (pv 5)))))) (AJ (C_ b ((NK X G B).pe a ∅ rfl (AE (Cy (pv 5) rfl) (AE (Cy (pv 5) rfl) (AE ((NA X G B).q2 a (pv 4) (Cy (pv 5) rfl)) (AE (Cy (pv 5) rfl) AL)))))) (AJ (C_ b ((Ko X G B).q3 a (Cy (pv 5) rfl) (xI At (pv 7)) ((M9 X G B).q1 a (pv 3)))) (AJ (B7 PassesOwn.never rfl (LD rfl B.enumerate (AE (pv 3) AL)) (D9 rfl (Bx (Ad (i:=9) b rfl li) (Bx (Ad (i:=10) b rfl li) D4))) (AS (Bi (cR FE ((JN X G B).q2 a (pv 10) (pv 8)) (AN A7 (BA Al (pv 4) (pv 9) (λ_ _=>rfl)) (xI At (pv 7)))) (AJ (C_ b ((oY X G B).q3 a (pv 3) (pv 5) (pv 9))) (AJ (FK (i:=12) (N:=["weight","line"]) (capt:=[none,none]) b rfl li rfl (BlkOk.of rfl rfl rfl rfl (λ_ h=>nomatch h) rfl rfl rfl) (Fj rfl B.zip (AE (xI At (pv 11)) (AE (pv 2) AL))) (λ_ _ _ _=>(D9 rfl (Bx (Ad (i:=0) (show (["weight","line"]:dE).Nodup by decide +kernel) rfl li) (Bx (Ad (i:=1) (show (["weight","line"]:dE).Nodup by decide +kernel) rfl li) D4)))) (λ_ _ _ _=>(AN A7 (pv 0) (xI At (pv 1))))) (AS (Ac (Bj (AE Kr (AE ((NJ X G B).q2 a (pv 12) (xI At (pv 11))) AL))))))) Bh))) (AS (Ac (Bj (AE Kr (AE ((NJ X G B).q2 a (pv 8) (xI At (pv 7))) (AE (Eh II rfl B.tuple IG (AE (pv 6) AL)) AL)))))))))))))))
theorem nC:J_ P w mg base 7 "row_common" ["row","other"] KE:=Ao (f:=196) (c:=195) (pm:=J') (st:=Wx) X G λF=>H_ F (vD B.xEXPONENTS ) λa b d e=>(AJ (C_ b ((NM X G B).q1 a (pv 0))) (AJ (C_ b ((NM X G B).q1 a (pv 1))) (AJ (Bi (PW.pt (G7 (Fg (pv 0) (λ_=>rfl)) (G6 (Fg (pv 1) (λ_=>rfl))))) (AS (B7 PassesOwn.never rfl (NU (JP rfl B.EXPONENTS rfl)) (Ad (i:=4) b rfl li) (AJ (C_ b ((nB X G B).q3 a (pv 2) (pv 3) (AN BM ((M6 X G B).q2 a AO (pv 4)) AO))) (AS (Bi (cR Nc (pv 5) Es) (AS (Ac (pv 5))) Bh))))) Bh) (AS (Ac (xI Al ((oZ X G B).q2 a (By (AE (pv 2) AL)) (By (AE (pv 3) AL)))))))))
theorem nE:J_ P w mg base 7 "_law_frees" ["_law_kp","_law_kq"] MN:=Ao (f:=441) (c:=440) (pm:=V_) (st:=XZ) X G λF=>H_ F (qR ) λb a e d=>(AJ (C_ a (By AL)) (AJ (B7 PassesOwn.never rfl (EM rfl B.range (AE (AN BM (AN Bt (Ak DB rfl B.len Aw (AE (pv 0) AL)) (Ak DB rfl B.len Aw (AE (pv 1) AL))) AO) AL)) (Ad (i:=3) a rfl li) (AJ (C_ a (By AL)) (AJ (B7 PassesOwn.never rfl (EM rfl B.range (AE (AN BM (Ak DB rfl B.len Aw (AE (pv 1) AL)) AO) AL)) (Ad (i:=5) a rfl li) (AS (FD (FI bT cP cQ Fd (pv 4) (AE (Fv (cR JX (pv 3) (pv 5)) (BA Al (AN ID (Eh ON rfl B.list GS (AE (pv 0) AL)) (AN Et (By (AE (Bj (AE AO (AE AO AL))) AL)) (Ak DB rfl B.len Aw (AE (pv 1) AL)))) (AN BM (pv 3) (pv 5)) (λ_ _=>rfl)) (Bj (AE AO (AE AO AL)))) AL))))) (AJ (B7 PassesOwn.never rfl (EM rfl B.range (AE (AN BM (Ak DB rfl B.len Aw (AE (pv 0) AL)) AO) AL)) (Ad (i:=5) a rfl li) (AS (FD (FI bT cP cQ Fd (pv 4) (AE (Fv (cR JX (pv 3) (pv 5)) (BA Al (AN ID (Eh ON rfl B.list GS (AE (pv 1) AL)) (AN Et (By (AE (Bj (AE AO (AE AO AL))) AL)) (Ak DB rfl B.len Aw (AE (pv 0) AL)))) (AN BM (pv 3) (pv 5)) (λ_ _=>rfl)) (Bj (AE AO (AE AO AL)))) AL))))) (AS (FD (FI bT cP cQ Fd (pv 2) (AE (pv 4) AL)))))))) (AJ (Bi (cR (OK d) (pv 2) (By AL)) (AS (Ac AO)) Bh) (AS (Ac (Ak DB rfl B.len Aw (AE (xI At ((VF X G B).q2 b (pv 2) (AN Et (By (AE (Bj (AE AO (AE AO AL))) AL)) (Ak Be rfl B.len Aw (AE (pv 2) AL))))) AL)))))))
theorem nF:J_ P w mg base 7 "_law_back" ["_law_kp"] MO:=Ao (f:=446) (c:=445) (pm:=V_) (st:=Xa) X G λF=>H_ F (pH ) λa b e d=>(AJ (C_ b (By AL)) (AJ (B7 PassesOwn.never rfl (EM rfl B.range (AE (Ak DB rfl B.len Aw (AE (pv 0) AL)) AL)) (Ad (i:=2) b rfl li) (AJ (C_ b (By (AE (Bj (AE AO (AE AO AL))) AL))) (AJ (DI PassesOwn.never (cR JW (Ak Be rfl B.len Aw (AE (pv 3) AL)) (Ak DB rfl B.len Aw (AE (pv 0) AL))) (AS (FD (FI bT cP cQ Fd (pv 3) (AE ((VA X G B).q2 a (BA Al (pv 3) (CY CZ AO) (λ_ _=>rfl)) (Bj (AE (AN BM (pv 2) AO) (AE AO AL)))) AL))))) (AS (FD (FI bT cP cQ Fd (pv 1) (AE (pv 3) AL))))))) (AS (Ac (JY (Yt d) ((VF X G B).q2 a (pv 1) (CI (N:=["_law_place","_law_kp"]) (capt:=[none,some 0]) rfl (BlkOk.of rfl rfl rfl rfl (Bq.mpr rfl) rfl rfl rfl) (EM rfl B.range (AE (Ak DB rfl B.len Aw (AE (pv 0) AL)) AL)) (λ_ _ _ _=>(Ad (i:=0) (show (["_law_place","_law_kp"]:dE).Nodup by decide +kernel) rfl li)) (λ_ _ _ _=>((oQ X G B).q2 a (pv 1) (Bj (AE (AN BM (pv 0) AO) (AE AO AL))))))) (Bj (AE Kr (AE (pv 0) (AE (Bj AL) AL)))) (T_ _))))))
theorem VG:J_ P w mg base 8 "common" ["P","Q"] Hj:=Ao (f:=253) (c:=252) (pm:=a6) (st:=W7) X G λF=>H_ F (vI ) λa b d e=>(AJ (C_ b ((nC X G B).q2 a (xI At ((Gy X G B).q1 a (pv 0))) (xI At ((Gy X G B).q1 a (pv 1))))) (AS (Ac (Fv (Fg (pv 2) (λ_=>rfl)) ((NI X G B).q2 a (pv 2) (BA Al (pv 2) (CY CZ AO) (λ_ _=>rfl))) (Bj AL)))))
end
def all_mk {l:W.OpenLaw} {w:World} {h:Heap} {m:dz} {p:Addr} (X:(hp w.params).In h) (G:h.Ns mainGlobals m) (o:m "law" = some (.ref p))
  : ∃ q:FuncData,(∀ (s:Shared) (v:Value),BindsTo s q ⟨[v],[]⟩ [("_law_script", v)])/\∀ g:Heap,(hp w.params).In g->g.Ns mainGlobals m->FnOk l.prog w (hp w.params) m g az 9 p q ["_law_script"] (J7 (hp w.params)):=by
 have e:=o.symm.trans (W.mg_of X G (n := "law") (v:=.ref 453) (by kernel_rfl));cases e;have a:Gi (hp w.params)=15:=by kernel_rfl
 have b:∀ H:Hp,SqT (hp w.params) H (Gi (hp w.params)) (exps.map λe:Nat=>V.int (e:Int)):=λH=>.inr ⟨_,_,_,(show (hp w.params).lookup (Gi (hp w.params))=some ⟨.type "tuple", none,.seq #[(.int 61 189),(.int 127 190),(.int 521 191),(.int 1279 192),(.int 4423 193),(.int 9941 194),(.int 21701 195),(.int 44497 196)] 0,#[]⟩ by rw [a];kernel_rfl),rfl,rfl,by show 8<=sizeLine;rw [sizeLine_eq];decide,.cons ⟨_,rfl⟩ (.cons ⟨_,rfl⟩ (.cons ⟨_,rfl⟩ (.cons ⟨_,rfl⟩ (.cons ⟨_,rfl⟩ (.cons ⟨_,rfl⟩ (.cons ⟨_,rfl⟩ (.cons ⟨_,rfl⟩ (.nil))))))))⟩;have B:Bl (hp w.params) m:=⟨W.mg_none_of X G (by kernel_rfl),W.mg_of X G (by kernel_rfl),W.mg_of X G (by kernel_rfl),W.mg_none_of X G (by kernel_rfl),W.mg_none_of X G (by kernel_rfl),W.mg_none_of X G (by kernel_rfl),W.mg_none_of X G (by kernel_rfl),W.mg_none_of X G (by kernel_rfl),W.mg_none_of X G (by kernel_rfl),W.mg_none_of X G (by kernel_rfl),W.mg_none_of X G (by kernel_rfl),W.mg_none_of X G (by kernel_rfl),by rw [a];exact W.mg_of X G (by kernel_rfl),W.mg_none_of X G (by kernel_rfl),W.mg_none_of X G (by kernel_rfl),W.mg_none_of X G (by kernel_rfl),b⟩;have u:=M4 (K:=hp w.params) (st:=JZ) (f:=453) (c:=452) (n := "law") (pm:=V_) (by kernel_rfl) (by kernel_rfl) (by kernel_rfl);refine ⟨W.fnOf "law" "law" (Ev JZ) (EQ JZ) (DA JZ) .none .none .none V_ none (.ref 452) .none,λs v=>.of_eq rfl,λg KB _=>?_⟩;exact H_ u (pX ) λd k x r=>(AJ (B7 PassesOwn.never rfl (EM rfl B.range (AE (Ak (Je rfl) rfl B.max Jd (AE AO (AE (Ak (OF rfl) rfl B.min LB (AE (Ak LC rfl B.len Aw (AE (pv 0) AL)) (AE AO AL))) AL))) AL)) (Ad (i:=1) k rfl li) (AJ (C_ k ((U5 X G B).q2 d (pv 0) (pv 1))) (AJ (C_ k ((U5 X G B).q2 d (pv 0) (AN Bt (pv 1) AO))) (AJ (C_ k ((NH X G B).q2 d (pv 2) AO)) (AJ (C_ k ((NL X G B).q2 d ((NH X G B).q2 d (pv 2) AO) (pv 4))) (AJ (C_ k ((NL X G B).q2 d ((NH X G B).q2 d (pv 3) AO) (pv 4))) (AJ (Bi (PW.pt (Ku (cR FE ((nE X G B).q2 d (pv 5) (pv 6)) ((oC X G B).q1 d ((VG X G B).q2 d (pv 5) (pv 6)))) (Kt (Kv (G4 ((nF X G B).q1 d (pv 5))))))) (AS (Ac GK)) Bh) (AJ (Kw (i:=7) (j:=8) rfl k rfl rfl ∅ rfl rfl (AE ((VC X G B).q2 d (pv 4) AO) (AE ((VC X G B).q2 d (pv 4) AO) AL)) rfl) (AS (Bi (PW.pt (Ku (cR (OM r) ((VG X G B).q2 d (pv 7) (pv 8)) ((oV X G B).q1 d (pv 8))) (Kt (cR (OM r) ((oU X G B).q2 d (pv 7) (pv 8)) (Bj (AE ((NL X G B).q2 d (pv 4) (pv 4)) (AE (Bj AL) AL))))))) (AS (Ac GK)) Bh)))))))))) (AS (Ac GK)))
def row_said {l:W.OpenLaw} (h:l.wellSaid=true):l.row.wellSaid=true:=by
 unfold W.OpenLaw.wellSaid at h;simp only [Bool.and_eq_true] at h;exact h.1.1.1.1.1.1.1.1.1.1.1.1.1.1.1.1.1.1
def walk {l:W.OpenLaw} {q:Program} {loose:dE} {XP:(dz)->Heap->Prop} {YP:World->Heap->Prop} {d:DefRec} {K:Params->W.Frag} (j:l.most=some 63) (e:d.params.defaults=[]) (m:importsNone q=true) (o:∀ w,(model l.prog w).prog.given.tree=none)
  (p:∀ (w:World) (h:Heap),YP w h->(K w.params).In h)
  (F:∀ (w:World) (c:dz) (g:Addr) (h:Heap),(K w.params).In h->h.Ns mainGlobals c->c d.name=some (.ref g)->
   ∃ i:FuncData,(∀ (s:Shared) (u:Value),BindsTo s i ⟨[u],[]⟩ [("_law_script", u)])/\∀ b:Heap,(K w.params).In b->b.Ns mainGlobals c->FnOk l.prog w (K w.params) c b az 9 g i ["_law_script"] (J7 (K w.params))) :
  W.WalkO q loose XP YP l.row.toRowW d [] (λf r=>PySem.call f r):=
 L2.walk_of (n:=63) (k:=9) (x := "_law_script") (CX:=λ_=>az) (sp:=λw=>J7 (K w.params)) j ∅ e m o ⟨rfl,∅,∅⟩ p F (λ_ _ a v y _ A=>⟨a,v,rfl,A,y,λ_=>rfl⟩) λ_ _ _ _ _ z=>z
end Bs
open PySem PySem.W PyProof.Rows
set_option maxRecDepth 100000 in
set_option maxHeartbeats 0 in
theorem PySem.Challenge.cw_backslope_k09_whole_factors_by_equations_holds : PySem.Challenge.rw_backslope_k09_whole_factors_by_equations.Holds := by
  have a : PySem.Challenge.rw_backslope_k09_whole_factors_by_equations.wellSaid = true := Bs.Hd.sd;refine ⟨a, ?_⟩;refine W.holds_open (q := Bs.Hd.vw) (loose := Bs.Hd.lo) (Xt := fun s => W.xlAt Bs.Hd.vw [] s && W.recOk (W.RowW.records (W.OpenRow.toRowW (W.OpenLaw.row PySem.Challenge.rw_backslope_k09_whole_factors_by_equations))) s) (XP := W.XL Bs.Hd.vw []) (Yf := Bs.Hd.hk.obs) (Ya := Bs.Hd.hk.val) (YP := Bs.Hd.hk.says) (N := 4734) Bs.Hd.left Bs.Hd.hk.of Bs.Hd.hk.keeps (fun s e => W.xl_of s (Bool.and_eq_true_iff.mp e).1) W.XL.keeps (by rfl) (by rfl) (by rfl) (fun s e => W.recFacts_of (Bool.and_eq_true_iff.mp e).2) (by rfl) (Bs.row_said a) (by decide +kernel) ⟨rfl, rfl, rfl, rfl, rfl, by decide +kernel⟩ ?hw ?hc
  case hw => w_witness2
  case hc => exact Bs.walk (l := PySem.Challenge.rw_backslope_k09_whole_factors_by_equations) (K := Bs.Hd.hp) rfl rfl (by decide +kernel) (fun _ => rfl) (fun w h Y => Y) (fun w d f h c G b => Bs.all_mk c G b)
#print axioms PySem.Challenge.cw_backslope_k09_whole_factors_by_equations_holds

