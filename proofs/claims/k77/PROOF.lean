import PyProof.Rows.All
import Wide.All
import OpenK.AllK
import Wide.FinOn
import Lean
import PyProof.EqAt
import PyProof.EqKinds
import PyProof.TupleCall
import PySem.Challenge.RW_backslope_k77_holes_counted
local macro_rules | `(()) => `(by grind)
local macro_rules | `(tactic| ext) => `(tactic| grind)
local macro_rules | `(⋯) => `(by omega)
local macro_rules | `(∅) => `(by decide)
set_option Elab.async false
set_option linter.all false
set_option maxRecDepth 100000
def dR:type_of% @PySem.F.plainAttrs_list:=@PySem.F.plainAttrs_list
def dS:type_of% @PySem.F.slot_list_append:=@PySem.F.slot_list_append
def dU:type_of% @PySem.F.type_list_append:=@PySem.F.type_list_append
def sY:type_of% @if_neg:=@if_neg
def sZ:type_of% @if_pos:=@if_pos
def rA:type_of% @decide_eq_true:=@decide_eq_true
def rB:type_of% @of_decide_eq_true:=@of_decide_eq_true
def rC:type_of% @decide_eq_false:=@decide_eq_false
def rD:type_of% @PySem.wpAny_bind:=@PySem.wpAny_bind
def rE:type_of% @PySem.wpAny_pure:=@PySem.wpAny_pure
def rF:type_of% @PySem.wpAny_mono:=@PySem.wpAny_mono
def rG:type_of% @Option.some.inj:=@Option.some.inj
def rH:type_of% @PySem.Heap.lt_size:=@PySem.Heap.lt_size
def rJ:type_of% @congrFun:=@congrFun
def AJ:type_of% @List.length_map:=@List.length_map
def AO:type_of% @List.getD_eq_getElem?_getD:=@List.getD_eq_getElem?_getD
def AR:type_of% @Rat.mul_le_mul_of_nonneg_left:=@Rat.mul_le_mul_of_nonneg_left
def AS:type_of% @Nat.le_refl:=@Nat.le_refl
def AU:type_of% @Int.ne_of_gt:=@Int.ne_of_gt
def Aa:type_of% @Nat.zero_le:=@Nat.zero_le
def Ab:type_of% @Rat.mul_nonneg:=@Rat.mul_nonneg
def Ae:type_of% @List.getElem?_map:=@List.getElem?_map
def Ag:type_of% @List.getElem?_eq_getElem:=@List.getElem?_eq_getElem
def Aq:type_of% @List.mem_singleton:=@List.mem_singleton
def Ar:type_of% @Rat.mul_pos:=@Rat.mul_pos
def Au:type_of% @Rat.intCast_mul:=@Rat.intCast_mul
def Az:type_of% @Int.natAbs_mul:=@Int.natAbs_mul
def A3:type_of% @Rat.pow_succ:=@Rat.pow_succ
def A9:type_of% @Rat.mul_le_mul_of_nonneg_right:=@Rat.mul_le_mul_of_nonneg_right
def BD:type_of% @List.mem_map:=@List.mem_map
def BE:type_of% @Rat.le_total:=@Rat.le_total
def BI:type_of% @List.length_range:=@List.length_range
def BJ:type_of% @Rat.pow_zero:=@Rat.pow_zero
def BN:type_of% @Nat.lt_or_ge:=@Nat.lt_or_ge
def BS:type_of% @List.mem_cons_self:=@List.mem_cons_self
def BX:type_of% @List.size_toArray:=@List.size_toArray
def Ba:type_of% @List.getElem?_eq_none:=@List.getElem?_eq_none
def Bp:type_of% @List.mem_cons_of_mem:=@List.mem_cons_of_mem
def Bq:type_of% @List.mem_append:=@List.mem_append
def Bu:type_of% @List.mem_of_getElem?:=@List.mem_of_getElem?
def Bx:type_of% @Nat.le_trans:=@Nat.le_trans
def By:type_of% @List.mem_cons:=@List.mem_cons
def Bz:type_of% @Nat.pow_pos:=@Nat.pow_pos
def B5:type_of% @Nat.lt_of_le_of_lt:=@Nat.lt_of_le_of_lt
def B6:type_of% @Rat.mul_eq_zero:=@Rat.mul_eq_zero
def B8:type_of% @Nat.lt_of_lt_of_le:=@Nat.lt_of_lt_of_le
def CD:type_of% @Nat.mul_le_mul_left:=@Nat.mul_le_mul_left
def CF:type_of% @Nat.mul_le_mul_right:=@Nat.mul_le_mul_right
def CI:type_of% @Nat.ne_of_lt:=@Nat.ne_of_lt
def CJ:type_of% @List.length_take:=@List.length_take
def CK:type_of% @Nat.pow_le_pow_right:=@Nat.pow_le_pow_right
def CL:type_of% @Nat.pow_succ:=@Nat.pow_succ
def CM:type_of% @List.length_eq_zero_iff:=@List.length_eq_zero_iff
def CN:type_of% @Int.mul_pos:=@Int.mul_pos
def CO:type_of% @Int.mul_ne_zero:=@Int.mul_ne_zero
def CT:type_of% @List.getElem?_eq_some_iff:=@List.getElem?_eq_some_iff
def CU:type_of% @Int.dvd_trans:=@Int.dvd_trans
def CV:type_of% @Rat.not_le:=@Rat.not_le
def Ca:type_of% @Int.emod_nonneg:=@Int.emod_nonneg
def Cd:type_of% @List.mem_append_right:=@List.mem_append_right
def Ce:type_of% @Int.natAbs_natCast:=@Int.natAbs_natCast
def Cf:type_of% @Rat.mul_inv_cancel:=@Rat.mul_inv_cancel
def Ck:type_of% @Nat.pow_add:=@Nat.pow_add
def Cm:type_of% @Int.emod_lt_of_pos:=@Int.emod_lt_of_pos
def Co:type_of% @List.getElem?_range:=@List.getElem?_range
def Cr:type_of% @List.length_append:=@List.length_append
def Ct:type_of% @Int.natAbs_dvd_natAbs:=@Int.natAbs_dvd_natAbs
def Cu:type_of% @Rat.not_lt:=@Rat.not_lt
def Cy:type_of% @Nat.mul_comm:=@Nat.mul_comm
def Cz:type_of% @List.take_length:=@List.take_length
def C1:type_of% @List.length_cons:=@List.length_cons
def C2:type_of% @Rat.intCast_neg:=@Rat.intCast_neg
def C3:type_of% @List.length_pos_iff:=@List.length_pos_iff
def C4:type_of% @List.countP_cons:=@List.countP_cons
def C9:type_of% @Nat.le_of_lt:=@Nat.le_of_lt
def DA:type_of% @Bool.false_ne_true:=@Bool.false_ne_true
def DB:type_of% @Int.toNat_natCast:=@Int.toNat_natCast
def DC:type_of% @List.map_append:=@List.map_append
def DF:type_of% @Rat.div_mul_cancel:=@Rat.div_mul_cancel
def DL:type_of% @Int.dvd_add:=@Int.dvd_add
def DM:type_of% @List.getElem_mem:=@List.getElem_mem
def DN:type_of% @Int.dvd_zero:=@Int.dvd_zero
def DS:type_of% @Nat.eq_zero_or_pos:=@Nat.eq_zero_or_pos
def DT:type_of% @Int.le_of_lt:=@Int.le_of_lt
def DU:type_of% @Nat.not_lt:=@Nat.not_lt
def DV:type_of% @Nat.add_mul:=@Nat.add_mul
def Dj:type_of% @Nat.lt_irrefl:=@Nat.lt_irrefl
def Dk:type_of% @Bool.and_eq_true:=@Bool.and_eq_true
def Dn:type_of% @Int.one_mul:=@Int.one_mul
def Do:type_of% @Nat.mul_le_mul:=@Nat.mul_le_mul
def D8:type_of% @Int.neg_mul:=@Int.neg_mul
def D9:type_of% @List.forall_mem_singleton:=@List.forall_mem_singleton
def EJ:type_of% @Int.gcd_dvd_right:=@Int.gcd_dvd_right
def EK:type_of% @Int.fdiv_eq_ediv_of_nonneg:=@Int.fdiv_eq_ediv_of_nonneg
def EL:type_of% @List.map_congr_left:=@List.map_congr_left
def Ea:type_of% @List.mem_filter:=@List.mem_filter
def Eb:type_of% @List.mem_range:=@List.mem_range
def Ec:type_of% @List.mem_append_left:=@List.mem_append_left
def Ed:type_of% @List.map_cons:=@List.map_cons
def Ee:type_of% @Nat.le_of_dvd:=@Nat.le_of_dvd
def Ef:type_of% @Rat.inv_mul_cancel:=@Rat.inv_mul_cancel
def Eg:type_of% @List.take_add_one:=@List.take_add_one
def Eh:type_of% @List.ext_getElem?:=@List.ext_getElem?
def E5:type_of% @Int.gcd_dvd_left:=@Int.gcd_dvd_left
def E6:type_of% @Bool.false_eq_true:=@Bool.false_eq_true
def E7:type_of% @Nat.lt_succ_self:=@Nat.lt_succ_self
def E8:type_of% @Int.mul_le_mul_of_nonneg_left:=@Int.mul_le_mul_of_nonneg_left
def FV:type_of% @List.getElem?_replicate:=@List.getElem?_replicate
def FW:type_of% @List.append_assoc:=@List.append_assoc
def FX:type_of% @List.getElem_of_mem:=@List.getElem_of_mem
def FY:type_of% @Int.emod_add_mul_ediv:=@Int.emod_add_mul_ediv
def FZ:type_of% @Int.lt_trichotomy:=@Int.lt_trichotomy
def Fo:type_of% @Int.eq_of_mul_eq_mul_left:=@Int.eq_of_mul_eq_mul_left
def Fp:type_of% @List.getLast?_eq_getElem?:=@List.getLast?_eq_getElem?
def Fq:type_of% @List.dropLast_concat_getLast:=@List.dropLast_concat_getLast
def Fs:type_of% @Rat.le_iff_lt_or_eq:=@Rat.le_iff_lt_or_eq
def Ft:type_of% @Int.mul_le_mul_of_nonneg_right:=@Int.mul_le_mul_of_nonneg_right
def GT:type_of% @Int.dvd_mul_of_dvd_left:=@Int.dvd_mul_of_dvd_left
def GU:type_of% @Nat.le_mul_of_pos_left:=@Nat.le_mul_of_pos_left
def GV:type_of% @Nat.le_mul_of_pos_right:=@Nat.le_mul_of_pos_right
def GW:type_of% @Int.mul_ediv_cancel_left:=@Int.mul_ediv_cancel_left
def GX:type_of% @Int.dvd_mul_of_dvd_right:=@Int.dvd_mul_of_dvd_right
abbrev dD:=List Int
abbrev dE:=List PySem.Value
abbrev dF:=PySem.Value->PySem.Shared->Prop
abbrev dH:=List (PySem.Addr×PySem.Obj)
abbrev dJ:=PySem.Str->Option PySem.Value
abbrev dL:=List PySem.Expr
abbrev dM:=List PySem.Str
abbrev dN:=List PySem.Addr
abbrev dO:=Nat->Int
abbrev dP:=Nat->Rat
namespace L2
open PySem PySem.Spec PyProof.Rows
noncomputable abbrev J':=Sum Int Str
noncomputable def GY:J'->Value->Bool
 | .inl k,v=>Value.isInt k v
 | .inr x,v=>Value.isStrOf x v
noncomputable def UP (w:World):J'->Int
 | .inl k=>hashInt k
 | .inr x=>hashStr w x
theorem E9:∀ {k:J'} {v:Value},GY k v=true->(∃ i t,k=Sum.inl i/\v=Value.int i t)\/(∃ x t,k=Sum.inr x/\v=Value.str x t)
 | .inl i,v,h=>by
   obtain ⟨t,e⟩:=Value.isInt_shape (k:=i) (v:=v) h;exact .inl ⟨i,t,rfl,e⟩
 | .inr x,v,h=>by
   obtain ⟨t,e⟩:=Value.isStrOf_shape (x:=x) (v:=v) h;exact .inr ⟨x,t,rfl,e⟩
def UQ (i:Int) (t:Tok):GY (.inl i) (.int i t)=true:=by simp [GY,Value.isInt]
def UR (x:Str) (t:Tok):GY (.inr x) (.str x t)=true:=by simp [GY,Value.isStrOf]
def US (a b:Int):decide ((Sum.inl a:J')=Sum.inl b)=(a == b):=by
 by_cases e:a=b
 ·subst e;simp
 ·have h:¬ (Sum.inl a:J')=Sum.inl b:=λq=>e (Sum.inl.inj q);rw [rC h];exact (beq_eq_false_iff_ne.mpr e).symm
def UT (a b:Str):decide ((Sum.inr a:J')=Sum.inr b)=decide (a=b):=by
 by_cases e:a=b
 ·subst e;simp
 ·have h:¬ (Sum.inr a:J')=Sum.inr b:=λq=>e (Sum.inr.inj q);rw [rC h,rC e]
def UU (a:Int) (b:Str):decide ((Sum.inl a:J')=Sum.inr b)=false:=rC (λq=>nomatch q)
def UV (a:Str) (b:Int):decide ((Sum.inr a:J')=Sum.inl b)=false:=rC (λq=>nomatch q)
noncomputable def FA (prog:Program) (w:World):PySem.KeyKind prog w J' where
 is:=GY
 hash:=UP w
 inj:=λv a b f d=>by
  rcases E9 f with ⟨i,t,rfl,rfl⟩ | ⟨x,t,rfl,rfl⟩
  ·rcases E9 d with ⟨j,u,rfl,e⟩ | ⟨y,u,rfl,e⟩
   ·injection e with c _;rw [c]
   ·exact nomatch e
  ·rcases E9 d with ⟨j,u,rfl,e⟩ | ⟨y,u,rfl,e⟩
   ·exact nomatch e
   ·injection e with c _;rw [c]
 byValue:=λk v h=>by
  rcases E9 h with ⟨i,t,rfl,rfl⟩ | ⟨x,t,rfl,rfl⟩ <;> rfl
 pyHash:=λhv h=>by
  rcases E9 hv with ⟨i,t,rfl,rfl⟩ | ⟨x,t,rfl,rfl⟩
  ·exact wpAny_pyHash_int h
  ·exact wpAny_pyHash_str h
 eqBool:=λg hv h=>by
  rcases E9 g with ⟨i,t,rfl,rfl⟩ | ⟨x,t,rfl,rfl⟩
  ·rcases E9 hv with ⟨j,u,rfl,rfl⟩ | ⟨y,u,rfl,rfl⟩
   ·rw [US] at h;exact wpAny_eqBool_int h
   ·rw [UU] at h;exact SeqAt.EqAt.int_str i t y u _ _ _ _ h
  ·rcases E9 hv with ⟨j,u,rfl,rfl⟩ | ⟨y,u,rfl,rfl⟩
   ·rw [UV] at h;exact SeqAt.EqAt.str_int x t j u _ _ _ _ h
   ·rw [UT] at h;exact wpAny_eqBool_str h
 «strs»:=λk x t v h=>by
  rcases E9 h with ⟨i,u,rfl,e⟩ | ⟨y,u,rfl,e⟩
  ·exact nomatch e
  ·injection e with c _
   subst c
   cases v <;> rfl
def UW (prog:Program) (w:World) (i:Int) (t:Tok):(FA prog w).is (.inl i) (.int i t)=true:=UQ i t
def UX (prog:Program) (w:World) (x:Str) (t:Tok):(FA prog w).is (.inr x) (.str x t)=true:=UR x t
inductive V where
 | non | bl (b:Bool) | int (i:Int) | str (x:Str) | byt (b:Array UInt8) | flt (b:UInt64) | ref (a:Addr) | ty (n:String)
 deriving DecidableEq
noncomputable def RelV:V->Value->Prop
 | .non,u=>u=Value.none
 | .bl b,u=>u=Value.bool b
 | .int i,u=>∃ t,u=Value.int i t
 | .str x,u=>∃ t,u=Value.str x t
 | .byt b,u=>∃ t,u=Value.bytes b t
 | .flt b,u=>∃ t,u=Value.float b t
 | .ref a,u=>u=Value.ref a
 | .ty n,u=>u=Value.type n
abbrev Vals:List V->dE->Prop:=Paired RelV
def Vals.length {xs:List V} {a:dE} (r:Vals xs a):xs.length=a.length:=Paired.length r
theorem Vals.get:∀ {xs:List V} {a:dE} {i:Nat} {x:V},Vals xs a->xs[i]?=some x->∃ u,a[i]?=some u/\RelV x u
 | _,_,_,_,.nil,e=>by simp at e
 | _,_,0,_,.cons r _,e=>by simp at e;subst e;exact ⟨_,rfl,r⟩
 | _,_,i+1,x,.cons _ t,e=>by
   obtain ⟨u,b,c⟩:=Vals.get (i:=i) (x:=x) t (by simpa using e);exact ⟨u,by simpa using b,c⟩
theorem Vals.set {x:V} {u:Value} (r:RelV x u):∀ {xs:List V} {a:dE} (i:Nat),Vals xs a->Vals (xs.set i x) (a.set i u)
 | _,_,_,.nil=>.nil
 | _,_,0,.cons _ t=>.cons r t
 | _,_,i+1,.cons q t=>.cons q (Vals.set r i t)
theorem Vals.append:∀ {xs ys:List V} {a b:dE},Vals xs a->Vals ys b->Vals (xs++ys) (a++b)
 | _,_,_,_,.nil,s=>s
 | _,_,_,_,.cons r t,s=>.cons r (Vals.append t s)
theorem Vals.take:∀ {xs:List V} {a:dE} (n:Nat),Vals xs a->Vals (xs.take n) (a.take n)
 | _,_,0,_=>.nil
 | _,_,_+1,.nil=>.nil
 | _,_,n+1,.cons r t=>.cons r (Vals.take n t)
theorem Vals.drop:∀ {xs:List V} {a:dE} (n:Nat),Vals xs a->Vals (xs.drop n) (a.drop n)
 | _,_,0,r=>r
 | _,_,_+1,.nil=>.nil
 | _,_,n+1,.cons _ t=>Vals.drop n t
noncomputable def NH:Option V->Option Value->Prop
 | some v,some u=>RelV v u
 | none,none=>True
 | _,_=>False
def KV {κ:Type}:List (κ×V)->List (κ×Value)->Prop:=Paired λ(p:κ×V) (q:κ×Value)=>p.1=q.1/\RelV p.2 q.2
noncomputable def kV:J'->V
 | .inl i=>.int i
 | .inr x=>.str x
inductive HO where

 | lst (xs:List V)

 | tup (xs:List V)

 | dK (kvs:List (J'×V)) | dT (kvs:List (List J'×V))

 | set (S:Int->Bool) (n:Nat)

 | ins (C dx:Addr) (fs:List (Str×V))

 | own (x:Addr)

 | xd (fs:List (Str×V))

 | met (f x:Addr)

 | rng (lo hi:Int)

 | frz (o:Obj) (u:HO)

 | tbl (ps:Array Value)

 | ext (φ:Heap->Prop)
noncomputable abbrev Hp:=Addr->Option HO
abbrev dC:=Option V
abbrev dz:=List V
noncomputable def upd (H:Hp) (a:Addr) (o:HO):Hp:=λb=>if b=a then some o else H b
def upd_same {H:Hp} {a:Addr} {o:HO}:upd H a o a=some o:=by unfold upd;rw [sZ rfl]
def Aw {H:Hp} {a b:Addr} {o:HO} (h:b≠a):upd H a o b=H b:=by unfold upd;rw [sY h]
def NI {H:Hp} {a b:Addr} {o u:HO} (h:H a=some o) (h':H b=some u) (d:o≠u):a≠b:=by
 intro e;subst e;rw [h] at h';exact d (rG h')
def BA {H:Hp} {a b:Addr} {o:HO} (h:H a=some o) (h':H b=none):a≠b:=by
 intro e;subst e;rw [h] at h';cases h'
section
variable (P:Program) (w:World)
noncomputable def ObjOk (H:Hp) (h:Heap) (a:Addr):HO->Prop
 | .lst c=>c.length<=sizeLine/\∃ (its:dE) (n:Nat),Vals c its/\h.get? a=some { cls:=.type "list", data:=.seq its.toArray n }
 | .tup c=>c.length<=sizeLine/\∃ its:dE,Vals c its/\IsTup h a its.toArray
 | .dK b=>b.length<=sizeLine/\(a == sysModules)=false/\∃ j,KV b j/\h.DictOf (FA P w) a j
 | .dT b=>b.length<=sizeLine/\(a == sysModules)=false/\∃ c:List (List J'×Addr×Value),
   Paired (λ(p:List J'×V) (q:List J'×Addr×Value)=>p.1=q.1/\H q.2.1=some (.tup (p.1.map kV))/\RelV p.2 q.2.2) b c/\
   ∃ o k y,h.get? a=some o/\o.ExactDict/\o.data=.dict k y/\k.toList=c.map (entryOfKey (tupleKind (FA P w)))/\(c.map (·.1)).Nodup
 | .set S n=>h.SetOf (intKind P w) a S n
 | .ins C g e=>H g=some (.own a)/\e.length<=1000/\g≠a/\h.get? a=some (W.instObj C g)/\
   ∃ d,h.Ns1 g d/\(∀ f,NH (e.lookup f) (d f))/\PySem.Within d (e.map (·.1))
 | .own _=>∃ o,h.get? a=some o
 | .xd e=>∃ d,h.Ns1 a d/\∀ f,NH (e.lookup f) (d f)
 | .rng lo z=>∃ t u v,h.get? a=some { cls:=.type "range", data:=.fields #[.int lo t,.int z u,.int 1 v] }
 | .frz o u=>h.get? a=some o/\ObjOk H h a u
 | .tbl ps=>h.get? a=some { cls:=.none,data:=.fields ps }
 | .met f x=>h.get? a=some (W.methodObj (.ref f) (.ref x))
 | .ext i=>i h/\(∃ o,h.get? a=some o)/\∀ m r:Heap,i m->(∀ o,m.get? a=some o->r.get? a=some o)->i r
def HOk (H:Hp) (h:Heap):Prop:=∀ a o,H a=some o->ObjOk P w H h a o
end
section
variable {P:Program} {w:World} {H H':Hp} {h h':Heap} {a:Addr} {o:HO}
theorem ObjOk.lt (x:ObjOk P w H h a o):a<h.objs.size:=by
 cases o with
 | lst c=>obtain ⟨_,_,_,_,e⟩:=x;exact rH e
 | tup c=>obtain ⟨_,_,_,p⟩:=x;exact p.lt
 | dK b=>obtain ⟨_,_,_,_,o,_,_,e,_⟩:=x;exact rH e
 | dT b=>obtain ⟨_,_,_,_,o,_,_,e,_⟩:=x;exact rH e
 | set S n=>obtain ⟨o,_,_,_,e,_⟩:=x;exact rH e
 | ins C g d=>obtain ⟨_,_,_,e,_⟩:=x;exact rH e
 | own y=>obtain ⟨_,e⟩:=x;exact rH e
 | xd d=>obtain ⟨_,⟨_,_,_,e,_⟩,_⟩:=x;exact rH e
 | rng lo i=>obtain ⟨_,_,_,e⟩:=x;exact rH e
 | frz j u=>obtain ⟨e,_⟩:=x;exact rH e
 | tbl ps=>exact rH (show h.get? a=some _ from x)
 | met f y=>exact rH (show h.get? a=some _ from x)
 | ext k=>obtain ⟨_,⟨_,e⟩,_⟩:=x;exact rH e
theorem Paired.mapP {e g:Type} {F G:e->g->Prop}:∀ {c:List e} {d:List g},Paired F c d->(∀ a b,F a b->G a b)->Paired G c d
 | _,_,.nil,_=>.nil
 | _,_,.cons r t,f=>.cons (f _ _ r) (Paired.mapP t f)
theorem ObjOk.stay (x:ObjOk P w H h a o) (k:∀ b u,(b=a\/H b=some (.own a))->h.get? b=some u->h'.get? b=some u)
  (G:∀ b,H b=some (.own a)->H' b=some (.own a)) (I:∀ b A,H b=some (.tup A)->H' b=some (.tup A)):ObjOk P w H' h' a o:=by
 induction o with
 | lst A=>obtain ⟨z,m,n,r,e⟩:=x;exact ⟨z,m,n,r,k _ _ (.inl rfl) e⟩
 | tup A=>obtain ⟨z,m,r,g,e,c⟩:=x;exact ⟨z,m,r,g,k _ _ (.inl rfl) e,c⟩
 | dK B=>obtain ⟨z,y,J,r,g,i,j,e,c⟩:=x;exact ⟨z,y,J,r,g,i,j,k _ _ (.inl rfl) e,c⟩
 | dT B=>
   obtain ⟨z,y,A,r,g,i,j,e,c⟩:=x;exact ⟨z,y,A,Paired.mapP r λp q z=>⟨z.1,I _ _ z.2.1,z.2.2⟩,g,i,j,k _ _ (.inl rfl) e,c⟩
 | set S n=>obtain ⟨g,i,j,t,e,c⟩:=x;exact ⟨g,i,j,t,k _ _ (.inl rfl) e,c⟩
 | ins C O K=>
   obtain ⟨d,z,L,e,D,⟨E,i,j,M,c⟩,r⟩:=x;exact ⟨G _ d,z,L,k _ _ (.inl rfl) e,D,⟨E,i,j,k _ _ (.inr d) M,c⟩,r⟩
 | own y=>obtain ⟨g,e⟩:=x;exact ⟨g,k _ _ (.inl rfl) e⟩
 | xd K=>obtain ⟨D,⟨E,i,j,e,c⟩,r⟩:=x;exact ⟨D,⟨E,i,j,k _ _ (.inl rfl) e,c⟩,r⟩
 | rng lo Q=>obtain ⟨t,u,v,e⟩:=x;exact ⟨t,u,v,k _ _ (.inl rfl) e⟩
 | frz g u N=>obtain ⟨e,q⟩:=x;exact ⟨k _ _ (.inl rfl) e,N q⟩
 | tbl ps=>
   have e:h.get? a=some { cls:=.none,data:=.fields ps }:=x;show h'.get? a=some { cls:=.none,data:=.fields ps };exact k a _ (.inl rfl) e
 | met f y=>
   have e:h.get? a=some (W.methodObj (.ref f) (.ref y)):=x;show h'.get? a=some (W.methodObj (.ref f) (.ref y));exact k a _ (.inl rfl) e
 | ext R=>obtain ⟨p,⟨o,e⟩,F⟩:=x;exact ⟨F _ _ p λo q=>k _ _ (.inl rfl) q,⟨o,k _ _ (.inl rfl) e⟩,F⟩
def HOk.lt (x:HOk P w H h) (e:H a=some o):a<h.objs.size:=(x a o e).lt
theorem HOk.fresh (x:HOk P w H h) (e:h.objs.size<=a):H a=none:=by
 cases q:H a with
 | none=>rfl
 | some u=>exact absurd (B8 (x.lt q) e) (Dj _)
def HOk.kept (x:HOk P w H h) (k:∀ b u,h.get? b=some u->h'.get? b=some u):HOk P w H h':=λa o e=>
 (x a o e).stay (λb u _ q=>k b u q) (λ_ q=>q) λ_ _ q=>q
def HOk.laid (x:HOk P w H h) (k:∀ b u,h.get? b=some u->h'.get? b=some u) (hp:h.objs.size<=a) (d:ObjOk P w (upd H a o) h' a o):HOk P w (upd H a o) h':=λb u e=>by
 have f:=x.fresh hp;by_cases g:b=a
 ·subst g;rw [upd_same] at e;cases e;exact d
 ·rw [Aw g] at e;exact (x b u e).stay (λc v _ q=>k c v q) (λc q=>by rw [Aw (BA q f)];exact q) λc i q=>by rw [Aw (BA q f)];exact q
end
def Rd (H:Hp) (a:Addr) (u:HO):Prop:=H a=some u\/∃ o,H a=some (.frz o u)
def Rd.ok {P:Program} {w:World} {H:Hp} {h:Heap} {a:Addr} {u:HO} (r:Rd H a u) (x:HOk P w H h):ObjOk P w H h a u:=by
 rcases r with r | ⟨o,r⟩
 ·exact x a u r
 ·obtain ⟨_,q⟩:=x a _ r;exact q
noncomputable def cI:Option HO->Prop
 | some (.lst _)=>True
 | some (.dK _)=>True
 | some (.dT _)=>True
 | some (.set _ _)=>True
 | some (.ins _ _ _)=>True
 | some (.ext _)=>True
 | _=>False
section
variable {P:Program} {w:World} {H:Hp} {h h':Heap} {x e:Addr} {o':HO}
def HOk.write (ok:HOk P w H h) (g:cI (H x)) (p:e=x\/H e=some (.own x)) (k:∀ b u,b≠e->h.get? b=some u->h'.get? b=some u) (n:∃ u,h'.get? e=some u)
  (o:ObjOk P w (upd H x o') h' x o'):HOk P w (upd H x o') h':=λb u q=>by
 have d:∀ c y,H c=some (.own y)->c≠x:=λc y r z=>by subst z;rw [r] at g;exact g
 have f:∀ c i,H c=some (.tup i)->c≠x:=λc i r z=>by subst z;rw [r] at g;exact g
 by_cases j:b=x
 ·subst j;rw [upd_same] at q;cases q;exact o
 ·rw [Aw j] at q;by_cases a:b=e
  ·have A:H b=some (.own x):=by
    rcases p with z | z
    ·exact absurd (a.trans z) j
    ·rw [a];exact z
   rw [q] at A;cases A;obtain ⟨v,hv⟩:=n;exact ⟨v,by rw [a];exact hv⟩
  ·refine (ok b u q).stay (λc v m r=>k c v ?_ r) (λc r=>by rw [Aw (d c b r)];exact r) λc i r=>by rw [Aw (f c i r)];exact r
   rcases m with rfl | m
   ·exact a
   ·rintro rfl;rcases p with z | z
    ·exact d c b m z
    ·rw [m] at z;cases z;exact j rfl
end
structure Un (fs ex:dN) (H H':Hp) (h h':Heap):Prop where
 keep:∀ b o,h.get? b=some o->H b=none->b∉fs->b∉ex->h'.get? b=some o
 slot:∀ b o,h.get? b=some o->H b=none->b∈fs->b∉ex->∃ sl,h'.get? b=some { o with slots:=sl }
 free:∀ b o,h.get? b=some o->H b=none->b∉ex->H' b=none
 there:∀ b o,h.get? b=some o->b∉ex->∃ o',h'.get? b=some o'
 tups:∀ b xs,H b=some (.tup xs)->H' b=some (.tup xs)
 frzs:∀ b o u,H b=some (.frz o u)->H' b=some (.frz o u)
 tbls:∀ b ps,H b=some (.tbl ps)->∃ more,H' b=some (.tbl (ps++more))
section
variable {fs fs' ex ex':dN} {H H1 H2:Hp} {h h1 h2 h':Heap} {a x e:Addr} {o:HO}
def Un.any (u:Un fs ex H H1 h h1) {b:Addr} {c:Obj} (q:h.get? b=some c) (n:H b=none) (f:b∉ex):∃ i,h1.get? b=some { c with slots:=i }:=by
 by_cases g:b∈fs
 ·exact u.slot b c q n g f
 ·exact ⟨c.slots,u.keep b c q n g f⟩
def Un.kept (k:∀ b u,h.get? b=some u->h'.get? b=some u):Un fs ex H H h h':=
 ⟨λb c q _ _ _=>k b c q,λb c q _ _ _=>⟨c.slots,k b c q⟩,λ_ _ _ n _=>n,λb c q _=>⟨c,k b c q⟩,λ_ _ q=>q,λ_ _ _ q=>q,λ_ ps q=>⟨#[],by rw [q];simp⟩⟩
def Un.refl:Un fs ex H H h h:=Un.kept λ_ _ q=>q
def Un.laid (k:∀ b u,h.get? b=some u->h'.get? b=some u) (hp:h.objs.size<=a) (c:H a=none):Un fs ex H (upd H a o) h h' where
 keep:=λb u q _ _ _=>k b u q
 slot:=λb u q _ _ _=>⟨u.slots,k b u q⟩
 free:=λb u q n _=>by rw [Aw (CI (B8 (rH q) hp))];exact n
 there:=λb u q _=>⟨u,k b u q⟩
 tups:=λb d q=>by rw [Aw (BA q c)];exact q
 frzs:=λb u d q=>by rw [Aw (BA q c)];exact q
 tbls:=λb ps q=>⟨#[],by rw [Aw (BA q c),q];simp⟩
def Un.write (d:cI (H x)) (m:e=x\/H e=some (.own x)) (k:∀ b u,b≠e->h.get? b=some u->h'.get? b=some u) (f:∃ u,h'.get? e=some u):Un fs ex H (upd H x o) h h':=by
 have i:∀ b,H b=none->b≠x:=λb n z=>by subst z;rw [n] at d;exact d
 have j:∀ b,H b=none->b≠e:=λb n z=>by
  subst z;rcases m with r | r
  ·exact i b n r
  ·rw [n] at r;cases r
 have g:∀ b u,H b=some u->¬ cI (some u)->b≠x:=λb u q p z=>by subst z;rw [q] at d;exact p d
 refine ⟨λb u q n _ _=>k b u (j b n) q,λb u q n _ _=>⟨u.slots,k b u (j b n) q⟩,λb u q n _=>by rw [Aw (i b n)];exact n,λb u q _=>?_,
  λb v q=>by rw [Aw (g b _ q λz=>z)];exact q,λb u v q=>by rw [Aw (g b _ q λz=>z)];exact q,λb ps q=>⟨#[],by rw [Aw (g b _ q λz=>z),q];simp⟩⟩
 by_cases c:b=e
 ·subst c;exact f
 ·exact ⟨u,k b u c q⟩
end
noncomputable def cJ (h:Heap) (H:Hp):dN:=(List.range h.objs.size).filter λa=>(H a).isSome
noncomputable def Ei (h:Heap) (H:Hp):Heap:=W.hideAll h (cJ h H)
def UY (h:Heap) (H:Hp):(Ei h H).objs.size=h.objs.size:=W.hideAll_size _ _
def UZ {h:Heap} {H:Hp} {b:Addr} {o:Obj} (e:h.get? b=some o) (n:H b=none):(Ei h H).get? b=some o:=
 W.hideAll_get _ e λa=>by
  have q:(H b).isSome=true:=(Ea.mp a).2;rw [n] at q;simp at q
theorem Ua {h:Heap} {H:Hp} {b:Addr} {o:Obj} (e:(Ei h H).get? b=some o):h.get? b=some o/\H b=none:=by
 have a:h.get? b=some o:=W.of_hideAll (cJ h H) e;refine ⟨a,?_⟩;cases q:H b with
 | none=>rfl
 | some x=>
   have c:b∈cJ h H:=Ea.mpr ⟨Eb.mpr (rH a),by simp [q]⟩;have z:(Ei h H).get? b=none:=W.hideAll_none (cJ h H) c;rw [z] at e;cases e
noncomputable def Ub (g h:Heap) (L:Addr):dH:=(List.range h.objs.size).filterMap λa=>if a=L\/(g.get? a).isSome=true then none else (h.get? a).map λo=>(a,o)
noncomputable def rest (g h:Heap) (L d:Addr):dH:=(Ub g h L).filter λp=>decide (p.1≠d)
structure Mod (K:W.Frag) (mg:dJ) (base:Heap):Prop where
 kin:K.In base
 glob:base.Ns mainGlobals mg
 blt:∃ mb,base.Ns builtinsNs mb/\∀ x:Str,x ≠ "__name__" -> mb x=bootBuiltins x
 nolimit:base.NoLimit
structure Cx where
 prog:Program
 w:World
 K:W.Frag
 mg:dJ
 base:Heap
 A:Around
 N:dM
 s₀:Shared
 H₀:Hp
 env:Env
 outer:List Env
 stack:List Env
 ex:dN
 fn:Str->Bool
 calm:Bool
 pn:dH
 xe:dF
noncomputable def az (l:List Env):dN:=l.filterMap (·.frame)
noncomputable abbrev Cx.fs (X:Cx):dN:=az X.outer
def cf (a:Scope) (x:Str):Prop:=a.names.lookup x=some .local\/a.names.lookup x=some .cell\/a.names.lookup x=some .free
def bJ (a:Scope) (x:Str):Prop:=a.names.lookup x=some .local\/a.names.lookup x=some .cell
def Look (a:Env) (h:Heap) (m:dJ) (x:Str) (u:Value):Prop:=
 (a.kindOf x=some .local/\m x=some u)\/((a.kindOf x=some .cell\/a.kindOf x=some .free)/\∃ c,a.cells.lookup x=some c/\h.IsCell c (some u))
structure Cx.Ok (X:Cx):Prop where
 mod:Mod X.K X.mg X.base
 kind:X.env.scope.kind=.function
 glob:X.env.globals=mainGlobals
 blt:X.env.builtins=builtinsNs
 above:X.s₀.heap.objs.size<=X.env.locals
 inj:∀ x y c,X.env.cells.lookup x=some c->X.env.cells.lookup y=some c->x=y
 has:∀ x,(X.env.kindOf x=some .cell\/X.env.kindOf x=some .free)->∃ c,X.env.cells.lookup x=some c
 cab:∀ x c,X.fn x=true->X.env.cells.lookup x=some c->X.s₀.heap.objs.size<=c
 hd:X.calm=true->X.A.handled=none
 frames:X.A.frames=some X.stack
 stk:X.stack=X.outer\/(X.stack=X.env::X.outer/\X.env.frame=some X.env.locals)
 exf:∀ b∈X.ex,b≠X.env.locals/\∀ x c,X.env.cells.lookup x=some c->c≠b
 bs:∀ b o,X.base.get? b=some o->X.s₀.heap.get? b=some o/\X.H₀ b=none
 bsz:X.base.objs.size<=X.s₀.heap.objs.size
 noex:∀ b o,X.base.get? b=some o->b∉X.ex
 exfs:∀ b∈X.ex,b∉X.fs
 funs:X.s₀.heap.FunFrames X.base X.outer
 frf:∀ b∈X.fs,X.H₀ b=none
 seer:X.base.NoSeer
 tree:(model X.prog X.w).prog.given.tree=none
 plr:∀ s:Shared,(∀ b o,X.base.get? b=some o->s.heap.get? b=some o)->PySem.PylongRoom (model X.prog X.w) X.A s
structure Inv (X:Cx) (pins:dH) (σ:List (dC)) (H:Hp) (s:Shared):Prop where
 ok:X.Ok
 os:s.os=X.s₀.os
 bare:AllBare s.gens
 base:Un X.fs X.ex X.H₀ H X.s₀.heap s.heap
 loc:∃ m,s.heap.Ns X.env.locals m/\∀ (i:Nat) (x:Str) (v:V),X.N[i]?=some x->σ[i]?=some (some v)->cf X.env.scope x->∃ u,RelV v u/\Look X.env s.heap m x u
 cell:∀ x c,X.env.cells.lookup x=some c->∃ v,s.heap.IsCell c v
 free:H X.env.locals=none
 freeC:∀ x c,X.env.cells.lookup x=some c->H c=none
 pin:∀ p∈X.pn++pins,s.heap.get? p.1=some p.2/\H p.1=none/\p.1≠X.env.locals/\p.1∉X.fs/\∀ v,p.2.data≠.cell v
 hok:HOk X.prog X.w H s.heap
 len:σ.length=X.N.length
section
variable {X:Cx} {pins:dH} {σ:List (dC)} {H H':Hp} {s:Shared} {h':Heap}
def Cx.Ok.nofr (ok:X.Ok) {b:Addr} {o:Obj} (e:X.base.get? b=some o):b∉X.fs:=λa=>by
 have:=(ok.funs.mem a).1;rw [e] at this;cases this
def Inv.bs (I:Inv X pins σ H s):∀ b o,X.base.get? b=some o->s.heap.get? b=some o/\H b=none:=λb o e=>
 ⟨I.base.keep b o (I.ok.bs b o e).1 (I.ok.bs b o e).2 (I.ok.nofr e) (I.ok.noex b o e),I.base.free b o (I.ok.bs b o e).1 (I.ok.bs b o e).2 (I.ok.noex b o e)⟩
def Inv.bk (I:Inv X pins σ H s):∀ b o,X.base.get? b=some o->s.heap.get? b=some o:=λb o e=>(I.bs b o e).1
def Inv.mod (I:Inv X pins σ H s):Mod X.K X.mg X.base:=I.ok.mod
def Inv.kIn (I:Inv X pins σ H s):X.K.In s.heap:=I.ok.mod.kin.keeps I.bk
def Inv.fr (I:Inv X pins σ H s):∃ m,Fr X.base X.env.locals s.heap m:=
 let ⟨m,a,_⟩:=I.loc
 ⟨m,a,I.bk,Bx I.ok.bsz I.ok.above⟩
def Inv.lt (I:Inv X pins σ H s):X.env.locals<s.heap.objs.size:=let ⟨_,a,_⟩:=I.loc;a.lt
def Inv.sz (I:Inv X pins σ H s):X.s₀.heap.objs.size<=s.heap.objs.size:=Bx I.ok.above (C9 I.lt)
def Inv.nofs (I:Inv X pins σ H s) {a:Addr} (h:s.heap.objs.size<=a):a∉X.fs:=λb=>by
 obtain ⟨_,o,c,_⟩:=I.ok.funs.mem b;exact absurd (B8 (rH c) (Bx I.sz h)) (Dj _)
def Inv.cne (I:Inv X pins σ H s):∀ x c,X.env.cells.lookup x=some c->c≠X.env.locals:=λx c e z=>by
 obtain ⟨v,o,d,f⟩:=I.cell x c e;obtain ⟨m,⟨g,h,i,a,b,_⟩,_⟩:=I.loc;rw [z,a] at d;cases d;rw [b] at f;cases f
def Inv.funs (I:Inv X pins σ H s):s.heap.FunFrames X.base X.outer:=by
 have all:∀ (l:List Env),(∀ b∈az l,b∈X.fs)->X.s₀.heap.FunFrames X.base l->s.heap.FunFrames X.base l:=by
  intro l
  induction l with
  | nil=>intro _ _;trivial
  | cons g r h=>
    intro f hl;obtain ⟨hk,⟨L,o,a,i,j,k⟩,m⟩:=hl;have c:L∈X.fs:=f L (by unfold az;rw [List.filterMap_cons,a];exact BS);obtain ⟨n,e⟩:=I.base.slot L o j (I.ok.frf L c) c λz=>I.ok.exfs L z c;exact ⟨hk,⟨L,_,a,i,e,k⟩,h (λb d=>f b (by unfold az;rw [List.filterMap_cons,a];exact Bp _ d)) m⟩
 exact all X.outer (λ_ d=>d) I.ok.funs
def Inv.stack (I:Inv X pins σ H s):s.heap.FunFrames X.base X.stack:=by
 rcases I.ok.stk with e | ⟨e,a⟩
 ·rw [e];exact I.funs
 ·rw [e];obtain ⟨m,b,_⟩:=I.loc;refine .cons (by rw [I.ok.kind];decide) a b ?_ I.funs;exact Heap.get?_none_of_le (Bx I.ok.bsz I.ok.above)
def Inv.stkSub (I:Inv X pins σ H s):∀ b∈az X.stack,b∈X.env.locals::X.fs:=λb a=>by
 rcases I.ok.stk with e | ⟨e,c⟩
 ·rw [e] at a;exact Bp _ a
 ·rw [e] at a;unfold az at a;rw [List.filterMap_cons,c] at a;exact a
def Inv.stkFree (I:Inv X pins σ H s):∀ b∈az X.stack,H b=none:=λb a=>by
 rcases By.mp (I.stkSub b a) with e | a
 ·rw [e];exact I.free
 ·obtain ⟨_,o,c,_⟩:=I.ok.funs.mem a;exact I.base.free b o c (I.ok.frf b a) λz=>I.ok.exfs b z a
def Inv.step {g':Array GenState} {t':Nat} {d':Drawn} {ch:dN} (I:Inv X pins σ H s)
  (g:∀ b∈ch,(b∈X.ex\/X.s₀.heap.objs.size<=b)/\b≠X.env.locals/\(∀ x c,X.env.cells.lookup x=some c->c≠b)/\∀ p∈X.pn++pins,p.1≠b)
  (h:∀ b o,b≠X.env.locals->b∉X.fs->b∉ch->s.heap.get? b=some o->H b=none->h'.get? b=some o)
  (B:∀ b o,b≠X.env.locals->b∈X.fs->b∉ch->s.heap.get? b=some o->H b=none->∃ P,h'.get? b=some { o with slots:=P }) (f:∀ b o,b∉ch->s.heap.get? b=some o->H b=none->H' b=none)
  (D:∀ b o,b∉ch->s.heap.get? b=some o->∃ G,h'.get? b=some G)
  (J:∀ b C,H b=some (.tup C)->H' b=some (.tup C)) (K:∀ b o u,H b=some (.frz o u)->H' b=some (.frz o u)) (L:∀ b ps,H b=some (.tbl ps)->∃ M,H' b=some (.tbl (ps++M)))
  (ns:∀ m,s.heap.Ns X.env.locals m->h'.Ns X.env.locals m) (R:HOk X.prog X.w H' h') (hg:AllBare g') :
  Inv X pins σ H' { s with heap:=h',gens:=g',drawn:=d',toks:=t' }:=by
 have N:∀ b o,X.s₀.heap.get? b=some o->b≠X.env.locals:=λb o e=>CI (B8 (rH e) I.ok.above)
 have y:∀ b o,X.s₀.heap.get? b=some o->b∉X.ex->b∉ch:=λb o e a E=>by
  rcases (g b E).1 with z | z
  ·exact a z
  ·exact absurd (B8 (rH e) z) (Dj _)
 have j:∀ x c,X.env.cells.lookup x=some c->∀ v,s.heap.IsCell c v->h'.IsCell c v:=λx c e v ⟨o,F,S⟩=>by
  have w:c∉ch:=λz=>(g c z).2.2.1 x c e rfl;by_cases Z:c∈X.fs
  ·obtain ⟨P,q⟩:=B c o (I.cne x c e) Z w F (I.freeC x c e);exact ⟨_,q,S⟩
  ·exact ⟨o,h c o (I.cne x c e) Z w F (I.freeC x c e),S⟩
 refine ⟨I.ok,I.os,hg,⟨λb o e n E a=>?_,λb o e n E a=>?_,λb o e n a=>?_,λb o e a=>?_,λb C e=>J b C (I.base.tups b C e),λb o C e=>K b o C (I.base.frzs b o C e),λb ps e=>?_⟩,?_,λx c e=>?_,?_,λx c e=>?_,λp hp=>?_,R,I.len⟩
 ·exact h b o (N b o e) E (y b o e a) (I.base.keep b o e n E a) (I.base.free b o e n a)
 ·obtain ⟨P,A⟩:=I.base.slot b o e n E a;obtain ⟨T,O⟩:=B b _ (N b o e) E (y b o e a) A (I.base.free b o e n a);exact ⟨T,O⟩
 ·obtain ⟨G,A⟩:=I.base.there b o e a;exact f b G (y b o e a) A (I.base.free b o e n a)
 ·obtain ⟨G,A⟩:=I.base.there b o e a;exact D b G (y b o e a) A
 ·obtain ⟨m1,A⟩:=I.base.tbls b ps e;obtain ⟨m2,O⟩:=L b _ A;exact ⟨m1++m2,by rw [O,Array.append_assoc]⟩
 ·obtain ⟨m,hn,hl⟩:=I.loc;refine ⟨m,ns m hn,λi x v A O e3=>?_⟩;obtain ⟨u,r,l⟩:=hl i x v A O e3;refine ⟨u,r,?_⟩;rcases l with l | ⟨k,c,e,z⟩
  ·exact .inl l
  ·exact .inr ⟨k,c,e,j x c e _ z⟩
 ·obtain ⟨v,z⟩:=I.cell x c e;exact ⟨v,j x c e v z⟩
 ·obtain ⟨m,⟨o,_,_,F,_⟩,_⟩:=I.loc;exact f _ o (λz=>(g _ z).2.1 rfl) F I.free
 ·obtain ⟨v,o,F,S⟩:=I.cell x c e;exact f c o (λz=>(g c z).2.2.1 x c e rfl) F (I.freeC x c e)
 ·obtain ⟨e,n,ne,nf,d⟩:=I.pin p hp;have w:p.1∉ch:=λz=>(g p.1 z).2.2.2 p hp rfl;exact ⟨h p.1 p.2 ne nf w e n,f p.1 p.2 w e n,ne,nf,d⟩
def Inv.un {t':Nat} (I:Inv X pins σ H s) (u:Un X.fs [] H H' s.heap h') (c:HOk X.prog X.w H' h'):Inv X pins σ H' { s with heap:=h',toks:=t' }:=by
 obtain ⟨m,⟨o,v,w,j,r⟩,_⟩:=id I.loc;obtain ⟨x,k⟩:=u.any j I.free (by simp)
 exact I.step (g':=s.gens) (d':=s.drawn) (ch:=[]) (λ_ z=>nomatch z) (λb o _ d _ e n=>u.keep b o e n d (by simp)) (λb o _ d _ e n=>u.slot b o e n d (by simp)) (λb o _ e n=>u.free b o e n (by simp)) (λb o _ e=>u.there b o e (by simp)) u.tups u.frzs u.tbls (λy p=>by
  obtain ⟨A,f,g,a,q⟩:=p;rw [j] at a;cases a;exact ⟨_,f,g,k,q⟩) c I.bare
def Inv.call {g':Array GenState} {t':Nat} {d':Drawn} {ch:dN} (I:Inv X pins σ H s) (u:Un (az X.stack) ch H H' s.heap h') (g:HOk X.prog X.w H' h') (y:AllBare g')
  (d:∀ b∈ch,(b∈X.ex\/X.s₀.heap.objs.size<=b)/\b≠X.env.locals/\(∀ x c,X.env.cells.lookup x=some c->c≠b)/\∀ p∈X.pn++pins,p.1≠b) :
  Inv X pins σ H' { s with heap:=h',gens:=g',drawn:=d',toks:=t' }:=by
 obtain ⟨m,⟨o,D,E,w,r⟩,_⟩:=id I.loc;obtain ⟨F,h⟩:=u.any w I.free λz=>(d _ z).2.1 rfl
 exact I.step (ch:=ch) d (λb o h A a e n=>u.keep b o e n (λz=>(By.mp (I.stkSub b z)).elim h A) a) (λb o _ _ a e n=>u.any e n a) (λb o a e n=>u.free b o e n a) (λb o a e=>u.there b o e a) u.tups u.frzs u.tbls (λG B=>by
  obtain ⟨J,i,j,f,C⟩:=B;rw [w] at f;cases f;exact ⟨_,i,j,h,C⟩) g y
def Inv.turned {t':Nat} {a:Addr} (I:Inv X pins σ H s) (k:∀ b o,b≠a->s.heap.get? b=some o->h'.get? b=some o) (j:H a=none) (g:a≠X.env.locals)
  (w:a∈X.ex\/X.s₀.heap.objs.size<=a) (y:∀ x c,X.env.cells.lookup x=some c->c≠a) (A:∀ p∈X.pn++pins,p.1≠a):Inv X pins σ H { s with heap:=h',toks:=t' }:=by
 have f:∀ b u,H b=some u->b≠a:=λb u e z=>by rw [z,j] at e;cases e
 refine I.step (g':=s.gens) (d':=s.drawn) (ch:=[a]) (λb B=>?_) (λb o _ _ d e _=>k b o (λz=>d (by simp [z])) e) (λb o _ _ d e _=>⟨o.slots,k b o (λz=>d (by simp [z])) e⟩) (λ_ _ _ _ n=>n)
  (λb o d e=>⟨o,k b o (λz=>d (by simp [z])) e⟩) (λ_ _ e=>e) (λ_ _ _ e=>e) (λb ps e=>⟨#[],by rw [e];simp⟩) (λm C=>?_) (λb u e=>?_) I.bare
 ·have e:b=a:=by simpa using B
  subst e;exact ⟨w,g,y,A⟩
 ·obtain ⟨o,D,E,F,r⟩:=C;exact ⟨o,D,E,k _ o (Ne.symm g) F,r⟩
 ·refine (I.hok b u e).stay (λc v d q=>k c v ?_ q) (λ_ q=>q) λ_ _ q=>q;rcases d with z | z
  ·rw [z];exact f b u e
  ·exact f c _ z
def Inv.tok (I:Inv X pins σ H s) (t:Nat):Inv X pins σ H { s with toks:=t }:=I.un (h':=s.heap) (t':=t) Un.refl I.hok
def Inv.kept {t':Nat} (I:Inv X pins σ H s) (k:∀ b u,s.heap.get? b=some u->h'.get? b=some u):Inv X pins σ H { s with heap:=h',toks:=t' }:=I.un (Un.kept k) (I.hok.kept k)
def Inv.laid {a:Addr} {o:HO} {t':Nat} (I:Inv X pins σ H s) (k:∀ b u,s.heap.get? b=some u->h'.get? b=some u) (hp:s.heap.objs.size<=a) (c:ObjOk X.prog X.w (upd H a o) h' a o) :
  Inv X pins σ (upd H a o) { s with heap:=h',toks:=t' }:=I.un (Un.laid k hp (I.hok.fresh hp)) (I.hok.laid k hp c)
def Inv.write {x e:Addr} {o:HO} {t':Nat} (I:Inv X pins σ H s) (d:cI (H x)) (f:e=x\/H e=some (.own x)) (k:∀ b u,b≠e->s.heap.get? b=some u->h'.get? b=some u) (a:∃ u,h'.get? e=some u)
  (c:ObjOk X.prog X.w (upd H x o) h' x o):Inv X pins σ (upd H x o) { s with heap:=h',toks:=t' }:=I.un (Un.write d f k a) (I.hok.write d f k a c)
def Inv.pins_of {a:dH} (I:Inv X pins σ H s) (h:∀ p∈a,s.heap.get? p.1=some p.2/\H p.1=none/\p.1≠X.env.locals/\p.1∉X.fs/\∀ v,p.2.data≠.cell v):Inv X a σ H s:=
 ⟨I.ok,I.os,I.bare,I.base,I.loc,I.cell,I.free,I.freeC,λp hp=>(Bq.mp hp).elim (λz=>I.pin p (Ec _ z)) (h p),I.hok,I.len⟩
def NJ {N:dM} (c:N.Nodup) {i j:Nat} {x:Str} (a:N[i]?=some x) (b:N[j]?=some x):i=j:=by
 obtain ⟨f,d⟩:=CT.mp a;obtain ⟨g,e⟩:=CT.mp b;exact (List.getElem_inj c).mp (d.trans e.symm)
def NK {M:Model} {A:Around} {E:dF} {i:Nat} {x:Str} {v:V} {u:Value} {Q:Unit->Shared->Prop} (I:Inv X pins σ H s) (hN:X.N.Nodup) (hi:X.N[i]?=some x) (C:bJ X.env.scope x) (r:RelV v u)
  (h:∀ Z,Inv X pins (σ.set i (some v)) H Z->(∃ a,Heap.SameBut a s.heap Z.heap/\(a=X.env.locals\/X.env.cells.lookup x=some a))->Q Unit.unit Z) (hf:X.fn x=true\/X.env.scope.names.lookup x=some .local:=by first | exact .inl rfl | exact .inr rfl | assumption):wpAny M A (storeName X.env x u) Q E s:=by
 obtain ⟨m,hn,hl⟩:=id I.loc;have O:(X.env.scope.kind == .class || (X.env.scope.kind == .module && X.env.locals != X.env.globals))=false:=by rw [I.ok.kind];rfl
 have G:i<σ.length:=by rw [I.len];exact (CT.mp hi).1
 have J:=I.cne
 have g:∀ {a:Addr} {h':Heap},(∃ o,s.heap.get? a=some o/\H a=none)->Heap.SameBut a s.heap h'->HOk X.prog X.w H h':=λ{a h'} ha f b ob e=>by
  obtain ⟨_,_,D⟩:=ha;refine (I.hok b ob e).stay (λc U B q=>(f.2 c ?_).trans q) (λ_ q=>q) λ_ _ q=>q;rintro rfl;rcases B with rfl | B
  ·rw [D] at e;cases e
  ·rw [D] at B;cases B
 rcases C with hk | hk
 ·refine wpAny_storeName_local hk hn (λh' a0 f=>?_) O;obtain ⟨oL,_,_,a1,_⟩:=id hn;refine h _ ⟨I.ok,I.os,I.bare,⟨λb o e n K C=>?_,λb o e n K C=>?_,I.base.free,λb o e C=>?_,I.base.tups,I.base.frzs,I.base.tbls⟩,⟨_,a0,λj y v' w F e3=>?_⟩,λy c e=>?_,I.free,I.freeC,λp hp=>?_,g ⟨oL,a1,I.free⟩ f,by simpa using I.len⟩ ⟨_,f,.inl rfl⟩
  ·exact (f.2 b (CI (B8 (rH e) I.ok.above))).trans (I.base.keep b o e n K C)
  ·obtain ⟨sl,w⟩:=I.base.slot b o e n K C;exact ⟨sl,(f.2 b (CI (B8 (rH e) I.ok.above))).trans w⟩
  ·obtain ⟨o',w⟩:=I.base.there b o e C;exact ⟨o',(f.2 b (CI (B8 (rH e) I.ok.above))).trans w⟩
  ·by_cases L:j=i
   ·subst L;rw [hi] at w;cases w;rw [List.getElem?_set_self G] at F;cases F;exact ⟨u,r,.inl ⟨hk,by simp⟩⟩
   ·rw [List.getElem?_set_ne (Ne.symm L)] at F;obtain ⟨u',r',q⟩:=hl j y v' w F e3;refine ⟨u',r',?_⟩;rcases q with ⟨k,e⟩ | ⟨k,c,e,z⟩
    ·refine .inl ⟨k,?_⟩;have:y≠x:=λe=>L (NJ hN w (e ▸ hi));simp [this,e]
    ·exact .inr ⟨k,c,e,z.sameBut f (J y c e)⟩
  ·obtain ⟨U,z⟩:=I.cell y c e;exact ⟨U,z.sameBut f (J y c e)⟩
  ·obtain ⟨e,n,W,nf,d⟩:=I.pin p hp;exact ⟨(f.2 p.1 W).trans e,n,W,nf,d⟩
 ·have N:X.fn x=true:=by
   rcases hf with z | z
   ·exact z
   ·rw [z] at hk;cases hk
  obtain ⟨c,B⟩:=I.ok.has x (.inl hk);obtain ⟨U,z⟩:=I.cell x c B;refine wpAny_storeName_cell I.ok.kind hk B z (λh' P f=>?_);obtain ⟨oc,R,S⟩:=id z;refine h { s with heap:=h' } ⟨I.ok,I.os,I.bare,⟨λb o e n K C=>?_,λb o e n K C=>?_,I.base.free,λb o e C=>?_,I.base.tups,I.base.frzs,I.base.tbls⟩,⟨m,hn.sameBut f (Ne.symm (J x c B)),λj y v' w F e3=>?_⟩,λy Y e=>?_,I.free,I.freeC,λp hp=>?_,g ⟨oc,R,I.freeC x c B⟩ f,by simpa using I.len⟩ ⟨c,f,.inr B⟩
  ·exact (f.2 b (CI (B8 (rH e) (I.ok.cab x c N B)))).trans (I.base.keep b o e n K C)
  ·obtain ⟨sl,w⟩:=I.base.slot b o e n K C;exact ⟨sl,(f.2 b (CI (B8 (rH e) (I.ok.cab x c N B)))).trans w⟩
  ·obtain ⟨o',w⟩:=I.base.there b o e C;exact ⟨o',(f.2 b (CI (B8 (rH e) (I.ok.cab x c N B)))).trans w⟩
  ·by_cases L:j=i
   ·subst L;rw [hi] at w;cases w;rw [List.getElem?_set_self G] at F;cases F;exact ⟨u,r,.inr ⟨.inl hk,c,B,P⟩⟩
   ·rw [List.getElem?_set_ne (Ne.symm L)] at F;obtain ⟨u',r',q⟩:=hl j y v' w F e3;refine ⟨u',r',?_⟩;rcases q with q | ⟨k,Y,e,z'⟩
    ·exact .inl q
    ·refine .inr ⟨k,Y,e,z'.sameBut f ?_⟩;rintro rfl;exact L (NJ hN w (I.ok.inj _ _ _ e B ▸ hi))
  ·by_cases T:Y=c
   ·subst T;exact ⟨_,P⟩
   ·obtain ⟨w2,z2⟩:=I.cell y Y e;exact ⟨w2,z2.sameBut f T⟩
  ·obtain ⟨e,n,W,nf,d⟩:=I.pin p hp;refine ⟨(f.2 p.1 ?_).trans e,n,W,nf,d⟩;intro q;rw [q,R] at e;have q':oc=p.2:=rG e;exact d U (by rw [<-q'];exact S)
def HR {M:Model} {A:Around} {E:dF} {i:Nat} {x:Str} {v:V} {u:Value} {Q:Unit->Shared->Prop} (I:Inv X pins σ H s) (b:X.N.Nodup) (hi:X.N[i]?=some x) (c:bJ X.env.scope x) (r:RelV v u)
  (h:∀ a,Inv X pins (σ.set i (some v)) H a->Q Unit.unit a) (d:X.fn x=true\/X.env.scope.names.lookup x=some .local:=by first | exact .inl rfl | exact .inr rfl | assumption):wpAny M A (storeName X.env x u) Q E s:=
 NK I b hi c r (λa e _=>h a e) d
def Inv.call' {s':Shared} {ch:dN} (I:Inv X pins σ H s) (f:s'.os=s.os) (u:Un (az X.stack) ch H H' s.heap s'.heap) (a:HOk X.prog X.w H' s'.heap) (g:AllBare s'.gens)
  (d:∀ b∈ch,(b∈X.ex\/X.s₀.heap.objs.size<=b)/\b≠X.env.locals/\(∀ x c,X.env.cells.lookup x=some c->c≠b)/\∀ p∈X.pn++pins,p.1≠b):Inv X pins σ H' s':=by
 obtain ⟨h',g',d',t',h⟩:=s';have e:h=s.os:=f;subst e;exact I.call (g':=g') (t':=t') (d':=d') u a g d
end
noncomputable abbrev XK:=Value->Option Addr->Hp->Prop
noncomputable abbrev St:=List (dC)
noncomputable abbrev VK:=V->Hp->Prop
noncomputable abbrev TE:=St->Hp->VK->Prop
noncomputable abbrev TT:=St->Hp->(Bool->Hp->Prop)->Prop
noncomputable abbrev TA:=St->Hp->(dz->Hp->Prop)->Prop
structure Ends where
 nx:St->Hp->Prop
 rt:VK
 bk:St->Hp->Prop:=λ_ _=>False
 ct:St->Hp->Prop:=λ_ _=>False
noncomputable abbrev TS:=Ends->St->Hp->Prop
def EP (X:Cx) (a:dH) (σ:St) (Q:VK) (u:Value) (s':Shared):Prop:=∃ v b,Inv X a σ b s'/\RelV v u/\Q v b
def TP (X:Cx) (a:dH) (σ:St) (Q:Bool->Hp->Prop) (b:Bool) (s':Shared):Prop:=∃ c,Inv X a σ c s'/\Q b c
def AP (X:Cx) (a:dH) (σ:St) (Q:dz->Hp->Prop) (d:dE) (s':Shared):Prop:=∃ b c,Inv X a σ c s'/\Vals b d/\Q b c
def SP (X:Cx) (b:dH) (D:Ends) (f:Flow) (s':Shared):Prop:=
 match f with
 | .next=>∃ a c,Inv X b a c s'/\D.nx a c
 | .brk=>∃ a c,Inv X b a c s'/\D.bk a c
 | .cont=>∃ a c,Inv X b a c s'/\D.ct a c
 | .ret u=>∃ v a c,Inv X b a c s'/\RelV v u/\D.rt v c
def PE (X:Cx) (e:Expr) (t:TE):Prop:=
 ∀ (a:dH) (s:Shared) (b:St) (H:Hp) (Q:VK),Inv X a b H s->t b H Q->wpAny (model X.prog X.w) X.A (eval e X.env) (EP X a b Q) X.xe s
def PT (X:Cx) (e:Expr) (t:TT):Prop:=
 ∀ (a:dH) (s:Shared) (b:St) (H:Hp) (Q:Bool->Hp->Prop),Inv X a b H s->t b H Q->wpAny (model X.prog X.w) X.A (isTrue e X.env (eval e X.env)) (TP X a b Q) X.xe s
def PW (X:Cx) (e:Expr) (t:TT):Prop:=
 ∀ (b:Sem Value) (a:dH) (s:Shared) (c:St) (H:Hp) (Q:Bool->Hp->Prop),Inv X a c H s->t c H Q->wpAny (model X.prog X.w) X.A (isTrue e X.env b) (TP X a c Q) X.xe s
def PW.pt {X:Cx} {e:Expr} {t:TT} (h:PW X e t):PT X e t:=h _
def PA (X:Cx) (d:dL) (t:TA):Prop:=
 ∀ (b:Pos) (a:dH) (s:Shared) (c:St) (H:Hp) (Q:dz->Hp->Prop),Inv X a c H s->t c H Q->wpAny (model X.prog X.w) X.A (spliced (backTo b (starEach d X.env))) (AP X a c Q) X.xe s
def PS (X:Cx) (st:Stmt) (t:TS):Prop:=
 ∀ (a:dH) (s:Shared) (b:St) (H:Hp) (D:Ends),Inv X a b H s->t D b H->wpAny (model X.prog X.w) X.A (exec st X.env) (SP X a D) X.xe s
def PSs (X:Cx) (st:List Stmt) (t:TS):Prop:=
 ∀ (a:dH) (s:Shared) (b:St) (H:Hp) (D:Ends),Inv X a b H s->t D b H->wpAny (model X.prog X.w) X.A (execs st X.env) (SP X a D) X.xe s
def F_ {b:Type} {t:Sem b} {Q c:b->Shared->Prop} {M:Model} {A:Around} {E:dF} {s:Shared} (h:wpAny M A t Q E s) (d:∀ a s,Q a s->c a s):wpAny M A t c E s:=rF h d λ_ _ x=>x
section
variable {X:Cx}
def AA (i:Nat):TE:=λa H Q=>∃ v,a[i]?=some (some v)/\Q v H
def tC (v:V):TE:=λ_ H Q=>Q v H
def Uc {i:Nat} {x:Str} {f:Pos} (n:X.N[i]?=some x) (hv:cf X.env.scope x) (g:(x == ("__debug__" : Str))=false:=by decide) (j:(x == ("__classdict__" : Str))=false:=by decide):PE X (.Name x f) (AA i):=by
 intro d s o H Q I h;obtain ⟨v,e,h⟩:=h;obtain ⟨m,p,hl⟩:=I.loc;obtain ⟨u,r,l⟩:=hl i x v n e hv;have b:EP X d o Q u s:=⟨v,H,I,r,h⟩;rcases l with ⟨hk,q⟩ | ⟨hk,c,k,a⟩
 ·exact wpAny_Name (wpAny_loadName_local I.ok.kind hk p q b) g
 ·rcases hk with hk | hk
  ·exact wpAny_Name (wpAny_loadName_cell I.ok.kind hk k a b) g
  ·exact wpAny_Name (wpAny_loadName_free I.ok.kind hk k a b j) g
def AD {i j pos}:PE X (.Constant (.int i) j pos) (tC (.int i)):=λ_ _ _ H _ I h=>wpAny_Constant_int ⟨.int i,H,I.tok _,⟨_,rfl⟩,h⟩
def GZ {b j pos}:PE X (.Constant (.bool b) j pos) (tC (.bl b)):=λ_ _ _ H _ I h=>Constant_bool ⟨.bl b,H,I,rfl,h⟩
def Ej {j pos}:PE X (.Constant .none j pos) (tC .non):=λ_ _ _ H _ I h=>Constant_none ⟨.non,H,I,rfl,h⟩
def Gl (X:Cx) (x:Str):Prop:=X.env.kindOf x=some .globalImplicit
def NL {E:dF} {a:dH} {s:Shared} {σ:St} {H:Hp} {x:Str} {u:Value} {b:Pos} {Q:dF} (I:Inv X a σ H s) (c:Gl X x) (d:X.mg x=some u) (h:Q u s)
  (e:(x == ("__debug__" : Str))=false:=by decide):wpAny (model X.prog X.w) X.A (eval (.Name x b) X.env) Q E s:=
 Calls.Name_function_global I.ok.kind c (Calls.loadGlobal_global (by rw [I.ok.glob];exact I.mod.glob.keeps I.bk) d h) e
def Ek {E:dF} {a:dH} {s:Shared} {σ:St} {H:Hp} {x:Str} {u:Value} {b:Pos} {Q:dF} (I:Inv X a σ H s) (c:Gl X x) (d:X.mg x=none) (hv:bootBuiltins x=some u) (h:Q u s)
  (e:x ≠ "__name__" := by decide) (f:(x == ("__debug__" : Str))=false:=by decide):wpAny (model X.prog X.w) X.A (eval (.Name x b) X.env) Q E s:=by
 obtain ⟨j,g,i⟩:=I.mod.blt;exact Calls.Name_function_global I.ok.kind c (Calls.loadGlobal_builtin (by rw [I.ok.glob];exact I.mod.glob.keeps I.bk) d (by rw [I.ok.blt];exact g.keeps I.bk) ((i x e).trans hv) h) f
def Ud {x:Str} {v:V} {u:Value} {a:Pos} (b:Gl X x) (c:X.mg x=some u) (r:RelV v u) (d:(x == ("__debug__" : Str))=false:=by decide):PE X (.Name x a) (tC v):=
 λ_ _ _ H _ I h=>NL I b c ⟨v,H,I,r,h⟩ d
def NM {x:Str} {v:V} {u:Value} {a:Pos} (b:Gl X x) (c:X.mg x=none) (hv:bootBuiltins x=some u) (r:RelV v u) (d:x ≠ "__name__" := by decide) (e:(x == ("__debug__" : Str))=false:=by decide):PE X (.Name x a) (tC v):=
 λ_ _ _ H _ I h=>Ek I b c hv ⟨v,H,I,r,h⟩ d e
variable {a b:Expr} {ta tb:TE} {pos:Pos}
def tB (t:TE):TT:=λd H Q=>t d H λx e=>∃ c,x=.bl c/\Q c e
def Dr {e:Expr} {t:TE} (h:PE X e t) (g:∀ c,isTrue e X.env c=(do let v <-c;standAt e.pos;holding [v] (truthy v)):=by intro _;rfl):PT X e (tB t):=by
 intro f s i H Q I hw;refine isTrue_plain (F_ (h f s i H _ I hw) λv o ⟨x,j,k,m,n⟩=>?_) (g _);obtain ⟨d,rfl,q⟩:=n;cases m;exact wpAny_truthy_bool ⟨j,k,q⟩
variable {tA tB':TT} {rest:dL}
def Cv (t u:TT):TT:=λd H Q=>t d H λc e=>if c=true then u d e Q else Q false e
def bK (t u:TT):TT:=λd H Q=>t d H λc e=>if c=true then Q true e else u d e Q
def Fu (t:TT):TT:=λd H Q=>t d H λc e=>Q (!c) e
theorem EM (f:PT X a tA):PW X (.BoolOp .And [a] pos) tA:=by
 intro i d s g H Q I h;refine isTrue_and (F_ (f d s g H Q I h) λc j e=>?_);cases c with
 | true=>exact isTrue_and_nil e
 | false=>exact e
theorem Il (f:PT X a tA):PW X (.BoolOp .Or [a] pos) tA:=by
 intro i d s g H Q I h;refine isTrue_or (F_ (f d s g H Q I h) λc j e=>?_);cases c with
 | false=>exact isTrue_or_nil e
 | true=>exact e
theorem EA (j:PT X a tA) (k:PW X (.BoolOp .And (b::rest) pos) tB'):PW X (.BoolOp .And (a::b::rest) pos) (Cv tA tB'):=by
 intro m d s e H Q I h;refine isTrue_and (F_ (j d s e H _ I h) λc n ⟨f,g,i⟩=>?_);cases c with
 | true=>exact k m d n e f Q g i
 | false=>exact ⟨f,g,i⟩
theorem Im (j:PT X a tA) (k:PW X (.BoolOp .Or (b::rest) pos) tB'):PW X (.BoolOp .Or (a::b::rest) pos) (bK tA tB'):=by
 intro m d s e H Q I h;refine isTrue_or (F_ (j d s e H _ I h) λc n ⟨f,g,i⟩=>?_);cases c with
 | true=>exact ⟨f,g,i⟩
 | false=>exact k m d n e f Q g i
def HS (e:PT X a tA):PT X (.UnaryOp .Not a pos) (Fu tA):=by
 intro d s f H Q I h;exact isTrue_not (e d s f H (λc g=>Q (!c) g) I h)
def Io (ta tb:TE):TE:=λd H Q=>ta d H λx e=>∃ c,x=.bl c/\if c=true then tb d e Q else Q (.bl false) e
def Ip (ta tb:TE):TE:=λd H Q=>ta d H λx e=>∃ c,x=.bl c/\if c=true then Q (.bl true) e else tb d e Q
def Iq (ta:TE):TE:=λd H Q=>ta d H λx e=>∃ c,x=.bl c/\Q (.bl (!c)) e
def NN {op} {t:TE} (h:PE X a t):PE X (.BoolOp op [a] pos) t:=λc s d H Q I hw=>BoolOp_one (h c s d H Q I hw)
theorem Ue (j:PE X a ta) (k:PE X (.BoolOp .And (b::rest) pos) tb):PE X (.BoolOp .And (a::b::rest) pos) (Io ta tb):=by
 intro d s f H Q I h;refine BoolOp_and (F_ (j d s f H _ I h) λv m ⟨x,g,i,n,e⟩=>?_);obtain ⟨c,rfl,e⟩:=e;cases n;refine wpAny_truthy_bool ?_;cases c with
 | true=>exact k d m f g Q i e
 | false=>exact ⟨.bl false,g,i,rfl,e⟩
theorem Uf (j:PE X a ta) (k:PE X (.BoolOp .Or (b::rest) pos) tb):PE X (.BoolOp .Or (a::b::rest) pos) (Ip ta tb):=by
 intro d s f H Q I h;refine BoolOp_or (F_ (j d s f H _ I h) λv m ⟨x,g,i,n,e⟩=>?_);obtain ⟨c,rfl,e⟩:=e;cases n;refine wpAny_truthy_bool ?_;cases c with
 | false=>exact k d m f g Q i e
 | true=>exact ⟨.bl true,g,i,rfl,e⟩
def Ug (f:PE X a ta):PE X (.UnaryOp .Not a pos) (Iq ta):=by
 intro d s g H Q I h;refine UnaryOp_ (F_ (f d s g H _ I h) λv m ⟨x,i,j,k,e⟩=>?_);obtain ⟨c,rfl,e⟩:=e;cases k;exact not_of (wpAny_truthy_bool ⟨.bl (!c),i,j,rfl,e⟩)
def aA (t:TT) (ta tb:TE):TE:=λd H Q=>t d H λc e=>if c=true then ta d e Q else tb d e Q
theorem FB {c:Expr} (m:PT X c tA) (n:PE X a ta) (o:PE X b tb):PE X (.IfExp c a b pos) (aA tA ta tb):=by
 intro e s f H Q I h;refine wpAny_IfExp (F_ (m e s f H _ I h) λd g ⟨i,j,k⟩=>?_);cases d with
 | true=>exact n e g f i Q j k
 | false=>exact o e g f i Q j k
end
def SqL (K:W.Frag) (H:Hp) (a:Addr) (xs:dz):Prop:=
 Rd H a (.lst xs)\/
  ∃ (o:Obj) (b:Array Value) (n:Nat),K.lookup a=some o/\o.cls=.type "list" /\ o.dict=none/\o.data=.seq b n/\b.size<=sizeLine/\Vals xs b.toList
def SqT (K:W.Frag) (H:Hp) (a:Addr) (xs:dz):Prop:=
 Rd H a (.tup xs)\/
  ∃ (o:Obj) (b:Array Value) (n:Nat),K.lookup a=some o/\o.cls=.type "tuple" /\ o.data=.seq b n/\b.size<=sizeLine/\Vals xs b.toList
noncomputable def Uh:Value->dC
 | .none=>some .non
 | .bool b=>some (.bl b)
 | .int i _=>some (.int i)
 | .str x _=>some (.str x)
 | .bytes b _=>some (.byt b)
 | .float b _=>some (.flt b)
 | .ref a=>some (.ref a)
 | .type n=>some (.ty n)
 | _=>none
theorem RelV.abs {x:V} {u:Value} (r:RelV x u):Uh u=some x:=by
 cases x with
 | non=>cases r;rfl
 | bl _=>cases r;rfl
 | int _=>obtain ⟨t,rfl⟩:=r;rfl
 | str _=>obtain ⟨t,rfl⟩:=r;rfl
 | byt _=>obtain ⟨t,rfl⟩:=r;rfl
 | flt _=>obtain ⟨t,rfl⟩:=r;rfl
 | ref _=>cases r;rfl
 | ty _=>cases r;rfl
def RelV.inj {x y:V} {u:Value} (r:RelV x u) (q:RelV y u):x=y:=rG (r.abs.symm.trans q.abs)
theorem Vals.inj:∀ {xs ys:dz} {a:dE},Vals xs a->Vals ys a->xs=ys
 | _,_,_,.nil,.nil=>rfl
 | _,_,_,.cons r t,.cons b c=>by rw [r.inj b,Vals.inj t c]
section
variable {X:Cx} {pins:dH} {σ:St} {H:Hp} {s:Shared} {a:Addr} {xs ys:dz}
def SqL.of {K:W.Frag} (h:H a=some (.lst xs)):SqL K H a xs:=.inl (.inl h)
def SqT.of {K:W.Frag} (h:H a=some (.tup xs)):SqT K H a xs:=.inl (.inl h)
def Inv.list (I:Inv X pins σ H s) (h:SqL X.K H a xs):∃ b:dE,Vals xs b/\PlainL s.heap a b.toArray/\xs.length<=sizeLine:=by
 rcases h with h | ⟨o,b,n,hk,c,d,f,g,r⟩
 ·obtain ⟨z,b,n,r,e⟩:=h.ok I.hok;exact ⟨b,r,⟨_,n,e,rfl,rfl,rfl⟩,z⟩
 ·refine ⟨b.toList,r,⟨o,n,I.kIn a o hk,c,d,by simpa using f⟩,?_⟩;have e:=r.length;simp only [Array.length_toList] at e;omega
def Inv.tuple (I:Inv X pins σ H s) (h:SqT X.K H a xs):∃ b:dE,Vals xs b/\IsTup s.heap a b.toArray/\xs.length<=sizeLine:=by
 rcases h with h | ⟨o,b,n,hk,c,d,f,r⟩
 ·obtain ⟨z,b,r,p⟩:=h.ok I.hok;exact ⟨b,r,p,z⟩
 ·refine ⟨b.toList,r,⟨o,I.kIn a o hk,c,n,by simpa using d⟩,?_⟩;have e:=r.length;simp only [Array.length_toList] at e;omega
def Inv.list_inj (I:Inv X pins σ H s) (h:SqL X.K H a xs) (h':SqL X.K H a ys):xs=ys:=by
 obtain ⟨c,r,⟨o,n,e,_,_,d⟩,_⟩:=I.list h;obtain ⟨b,i,⟨k,m,f,_,_,g⟩,_⟩:=I.list h';rw [e] at f;cases f;rw [d] at g;injection g with j _;have:c=b:=by simpa using congrArg Array.toList j
 subst this;exact r.inj i
def Inv.tuple_inj (I:Inv X pins σ H s) (h:SqT X.K H a xs) (h':SqT X.K H a ys):xs=ys:=by
 obtain ⟨c,r,⟨o,e,_,n,d⟩,_⟩:=I.tuple h;obtain ⟨b,i,⟨k,f,_,m,g⟩,_⟩:=I.tuple h';rw [e] at f;cases f;rw [d] at g;injection g with j _;have:c=b:=by simpa using congrArg Array.toList j
 subst this;exact r.inj i
end
noncomputable abbrev Cx.wish (X:Cx) (E:dF):Cx:={ X with xe:=E }
noncomputable abbrev Cx.nox (X:Cx):Cx:=X.wish λ_ _=>False
def Cx.Ok.wish {X:Cx} (ok:X.Ok) (E:dF):(X.wish E).Ok:=
 ⟨ok.mod,ok.kind,ok.glob,ok.blt,ok.above,ok.inj,ok.has,ok.cab,ok.hd,ok.frames,ok.stk,ok.exf,ok.bs,ok.bsz,ok.noex,ok.exfs,ok.funs,ok.frf,ok.seer,ok.tree,ok.plr⟩
def Cx.Ok.unwish {X:Cx} {E:dF} (ok:(X.wish E).Ok):X.Ok:=
 ⟨ok.mod,ok.kind,ok.glob,ok.blt,ok.above,ok.inj,ok.has,ok.cab,ok.hd,ok.frames,ok.stk,ok.exf,ok.bs,ok.bsz,ok.noex,ok.exfs,ok.funs,ok.frf,ok.seer,ok.tree,ok.plr⟩
section
variable {X:Cx} {pins:dH} {σ:St} {H:Hp} {s:Shared} {E:dF}
def Inv.wish (I:Inv X pins σ H s) (E:dF):Inv (X.wish E) pins σ H s:=⟨I.ok.wish E,I.os,I.bare,I.base,I.loc,I.cell,I.free,I.freeC,I.pin,I.hok,I.len⟩
def Inv.unwish (I:Inv (X.wish E) pins σ H s):Inv X pins σ H s:=⟨I.ok.unwish,I.os,I.bare,I.base,I.loc,I.cell,I.free,I.freeC,I.pin,I.hok,I.len⟩
theorem SP.unwish {D:Ends} {f:Flow} {s':Shared} (h:SP (X.wish E) pins D f s'):SP X pins D f s':=by
 cases f with
 | next=>obtain ⟨a,b,I,q⟩:=h;exact ⟨a,b,I.unwish,q⟩
 | brk=>obtain ⟨a,b,I,q⟩:=h;exact ⟨a,b,I.unwish,q⟩
 | cont=>obtain ⟨a,b,I,q⟩:=h;exact ⟨a,b,I.unwish,q⟩
 | ret u=>obtain ⟨v,a,b,I,r,q⟩:=h;exact ⟨v,a,b,I.unwish,r,q⟩
def PSs.nox {st:List Stmt} {t:TS} (h:PSs X.nox st t):PSs X st t:=λpins s σ H D I hw=>
 rF (h pins s σ H D (I.wish _) hw) (λ_ _ q=>q.unwish) λ_ _ z=>False.elim z
end
section
variable {X:Cx} {st:Stmt} {rest:List Stmt} {t u:TS} {e:Expr} {te:TE} {pos:Pos}
def BL:TS:=λD a H=>D.nx a H
def AF (t u:TS):TS:=λD a H=>t { D with nx:=u D } a H
def Be:PSs X [] BL:=λ_ _ a H _ I h=>wpAny_execs_nil ⟨a,H,I,h⟩
theorem AH (c:PS X st t) (d:PSs X rest u):PSs X (st::rest) (AF t u):=by
 intro a s g H D I h;refine wpAny_execs_cons (F_ (c a s g H { D with nx:=u D } I h) λf i q=>?_);cases f with
 | next=>
   obtain ⟨b,j,k,q⟩:=q;exact d a i b j D k q
 | ret v=>exact q
 | brk=>exact q
 | cont=>exact q
theorem AN (b:PS X st t):PSs X [st] t:=by
 intro a s c H D I h;refine wpAny_execs_cons (F_ (b a s c H D I h) λf d q=>?_);cases f with
 | next=>exact wpAny_execs_nil q
 | ret v=>exact q
 | brk=>exact q
 | cont=>exact q
def Inv.quiet {a:dH} {σ:St} {H:Hp} {s:Shared} (I:Inv X a σ H s):interactive X.env=false:=by simp [interactive,I.ok.kind]
def El (te:TE):TS:=λD a H=>te a H λ_ b=>D.nx a b
def Fv (c:PE X e te) (d:swapsWith e none pos.line X.env=pure false:=by rfl):PS X (.Expr e pos) (El te):=by
 intro a s b H D I h;exact wpAny_Expr_any (F_ (c a s b H _ I h) λv j ⟨x,f,g,k,i⟩=>⟨b,f,g,i⟩) I.quiet d
def AX (te:TE):TS:=λD a H=>te a H D.rt
def Ac (c:PE X e te):PS X (.Return (some e) pos) (AX te):=by
 intro a s b H D I h;exact wpAny_Return_some (F_ (c a s b H _ I h) λv j ⟨x,d,f,g,i⟩=>⟨x,b,d,f,g,i⟩)
def BO (c:TT) (t u:TS):TS:=λD a H=>c a H λb d=>if b=true then t D a d else u D a d
theorem Bf {c:Expr} {a b:List Stmt} {tc:TT} (n:PT X c tc) (o:PSs X a t) (p:PSs X b u):PS X (.If c a b pos) (BO tc t u):=by
 intro f s g H D I h;refine wpAny_If (F_ (n f s g H _ I h) λd i ⟨j,k,m⟩=>?_);cases d with
 | true=>exact o f i g j D k m
 | false=>exact p f i g j D k m
end
noncomputable abbrev TG:=V->St->Hp->(St->Hp->Prop)->Prop
noncomputable abbrev aY:=dz->St->Hp->(St->Hp->Prop)->Prop
def PG (X:Cx) (a:Expr) (t:TG):Prop:=
 ∀ (b:dH) (s:Shared) (d:St) (H:Hp) (v:V) (u:Value) (Q:St->Hp->Prop),Inv X b d H s->RelV v u->t v d H Q->
   wpAny (model X.prog X.w) X.A (assign a X.env u) (λ_ f=>∃ c e,Inv X b c e f/\Q c e) X.xe s
def ci (X:Cx) (g:dL) (t:aY):Prop:=
 ∀ (a:dH) (s:Shared) (c:St) (H:Hp) (d:dz) (e:dE) (Q:St->Hp->Prop),Inv X a c H s->Vals d e->t d c H Q->
   wpAny (model X.prog X.w) X.A (assignInOrder ((assignEach g X.env).map (·.2)) e) (λ_ h=>∃ b f,Inv X a b f h/\Q b f) X.xe s
noncomputable abbrev aN:=V->V->V->Hp->(Hp->Prop)->Prop
def bu (X:Cx) (t:aN):Prop:=
 ∀ (a:dH) (s:Shared) (b:St) (H:Hp) (o i v:V) (c d u:Value) (Q:Hp->Prop),Inv X a b H s->RelV o c->RelV i d->RelV v u->t o i v H Q->
   wpAny (model X.prog X.w) X.A (setItem c d u) (λ_ f=>∃ e,Inv X a b e f/\Q e) X.xe s
noncomputable abbrev cj:=V->V->Hp->VK->Prop
def PIp (X:Cx) (c:Operator) (t:cj):Prop:=
 ∀ (a:dH) (s:Shared) (b:St) (H:Hp) (x y:V) (v u:Value) (Q:VK),Inv X a b H s->RelV x v->RelV y u->t x y H Q->
   wpAny (model X.prog X.w) X.A (inplaceOp c v u) (EP X a b Q) X.xe s
section
variable {X:Cx} {pos:Pos}
def AG (i:Nat):TG:=λv a H Q=>Q (a.set i (some v)) H
def A8 {i:Nat} {x:Str} (b:X.N.Nodup) (hi:X.N[i]?=some x) (c:bJ X.env.scope x) (d:X.fn x=true\/X.env.scope.names.lookup x=some .local:=by first | exact .inl rfl | exact .inr rfl | assumption):PG X (.Name x pos) (AG i):=by
 intro a s f H v u Q I r h;exact wpAny_assign_Name (HR I b hi c r (λg e=>⟨_,H,e,h⟩) d)
noncomputable def Ga:aY:=λa b H Q=>a=[]/\Q b H
noncomputable def EB (t:TG) (u:aY):aY:=λb c H Q=>∃ v r,b=v::r/\t v c H λa d=>u r a d Q
def Ir:ci X [] Ga:=by
 intro a s b H c d Q I r h;obtain ⟨e,h⟩:=h;subst e;cases r;exact assignInOrder_nil ⟨b,H,I,h⟩
theorem Em {e:Expr} {b:dL} {t:TG} {u:aY} (d:PG X e t) (f:ci X b u)
  (g:(assignEach (e::b) X.env).map (·.2)=assign e X.env::(assignEach b X.env).map (·.2):=by rfl):ci X (e::b) (EB t u):=by
 intro a s i H q w Q I r h;obtain ⟨v,x,j,h⟩:=h;subst j;cases r with
 | cons r k=>
   rw [g];refine assignInOrder_cons (F_ (d a s i H _ _ _ I r h) λ_ m ⟨c,n,o,p⟩=>?_);exact f a m c n _ _ Q o k p
def Ui (K:W.Frag) (n:Nat) (t:aY):TG:=λv c H Q=>∃ a b,v=.ref a/\SqT K H a b/\b.length=n/\t b c H Q
def Uj {d:dL} {k:Nat} {t:aY} {n:Nat} (m:X.calm=true) (h:ci X d t)
  (p:(assignEach d X.env).length=n:=by rfl) (f:(assignEach d X.env).findIdx? (·.1)=none:=by rfl):PG X (.Tuple d k pos) (Ui X.K n t):=by
 intro c s g H v u Q I r hw;obtain ⟨a,q,w,x,hl,hw⟩:=hw;subst w;cases r;obtain ⟨y,i,z,D⟩:=I.tuple x;refine assign_Tuple_tuple (I.ok.hd m) z (by simp [p,<-hl,i.length]) f λA B=>?_;have C:Inv X c g H { s with heap:=A }:=I.kept (t':=s.toks) λb o e=>B b o (CI (rH e)) e;exact h c _ g H q _ Q C (by simpa using i) hw
def En (b c:TE) (t:aN):TG:=λv a H Q=>b a H λo d=>c a d λi e=>t o i v e λf=>Q a f
def Fw {o i:Expr} {e f:TE} {t:aN} (g:PE X o e) (hi:PE X i f) (j:bu X t)
  (k:∀ v,assign (.Subscript o i pos) X.env v=(do
   let b <-holding [v] (eval o X.env);let c <-holding [v,b] (eval i X.env)
   standAt pos
   holding [v,b,c] (setItem b c v)
   release [v,b,c] []):=by intro _;rfl):PG X (.Subscript o i pos) (En e f t):=by
 intro a s d H v u Q I r h;rw [k];refine rD (wpAny_holding (F_ (g a s d H _ I h) λb m ⟨x,n,p,q,w⟩=>?_));refine rD (wpAny_holding (F_ (hi a m d n _ p w) λc z ⟨y,A,B,C,D⟩=>?_));refine rD (wpAny_standAt (rD (wpAny_holding (F_ (j a z d A x y v b c u _ B q C r D) λ_ J ⟨E,F,G⟩=>?_))));exact wpAny_release ⟨d,E,F,G⟩
def AM (te:TE) (g:TG):TS:=λD a H=>te a H λx b=>g x a b D.nx
def Fa {b e:Expr} {te:TE} {g:TG} (d:PE X e te) (f:PG X b g) (i:swapsWithSole [b] e pos.line X.env=pure false:=by rfl) (hw:swappedStores [b] e X.env=pure none:=by rfl)
  (j:(assignEach [b] X.env).map (·.2)=[assign b X.env]:=by rfl):PS X (.Assign [b] e pos) (AM te g):=by
 intro a s c H D I h;refine wpAny_Assign_stores (F_ (d a s c H _ I h) λv k ⟨x,m,n,o,p⟩=>?_) i hw;rw [j];exact F_ (f a k c m x v _ n o p) λ_ r q=>q
def Eo {i:Nat} {x:Str} {e:Expr} {te:TE} {a:Pos} (c:X.N.Nodup) (hi:X.N[i]?=some x) (d:bJ X.env.scope x) (f:PE X e te) (g:swapsWith e (some (.Name x a)) pos.line X.env=pure false:=by rfl) (j:X.fn x=true\/X.env.scope.names.lookup x=some .local:=by first | exact .inl rfl | exact .inr rfl | assumption) :
  PS X (.Assign [.Name x a] e pos) (AM te (AG i)):=by
 intro b s k H D I h;refine wpAny_Assign_Name (F_ (f b s k H _ I h) λv r ⟨y,m,n,o,p⟩=>?_) g;exact HR n c hi d o (λu q=>⟨_,m,q,p⟩) j
def Iu (i j:Nat) (b:TA):TS:=λD a H=>b a H λc d=>∃ v w,c=[v,w]/\D.nx ((a.set i (some v)).set j (some w)) d
def NO {i j:Nat} {x y:Str} {a b:Expr} {B:TA} {m n r:Pos} {kt k2 pt2} (N:X.calm=true) (C:X.N.Nodup) (hi:X.N[i]?=some x) (O:X.N[j]?=some y) (u:i≠j)
  (E:X.env.scope.names.lookup x=some .local) (F:X.env.scope.names.lookup y=some .local) (P:PA X [a,b] B)
  (hw:swappedStores [.Tuple [.Name x m,.Name y n] kt r] (.Tuple [a,b] k2 pt2) X.env=pure (some [x,y]))
  (Q:swapsWithSole [.Tuple [.Name x m,.Name y n] kt r] (.Tuple [a,b] k2 pt2) pos.line X.env=pure false:=by rfl) :
  PS X (.Assign [.Tuple [.Name x m,.Name y n] kt r] (.Tuple [a,b] k2 pt2) pos) (Iu i j B):=by
 intro d s G H D I h;rw [exec_Assign_arm];refine rD (wpAny_standAt ?_);rw [Q];refine rD (rE ?_);rw [sY ∅];refine rD (Tuple_ (F_ (P _ d s G H _ I h) λR f ⟨vs,J,S,T,z⟩=>?_));obtain ⟨v,w,U,z⟩:=z;subst U
 obtain ⟨g,k,rfl,W,rw'⟩:∃ g k,R=[g,k]/\RelV v g/\RelV w k:=by
  cases T with
  | cons p q=>
    cases q with
    | cons Y Z=>
      cases Z;exact ⟨_,_,rfl,p,Y⟩
 refine wpAny_newObj_type ?_ (by show 2<=sizeLine;decide);have I2:Inv X d G J { f with heap:=f.heap.push { cls:=.type "tuple", data:=.seq [g,k].toArray } }:=S.kept (t':=f.toks) λb o e=>Heap.get?_push_of_some _ e;rw [hw];refine rD (rE ?_);show wpAny (model X.prog X.w) X.A (do rule "assign.swapped-stores"; let c <-unpackItems (.ref f.heap.objs.size) 2 none;assignInOrder [λv=>bindName X.env y v,λv=>bindName X.env x v] c.reverse;pure Flow.next) _ _ _;refine rD (wpAny_rule (rD (unpackItems_tuple (items:=#[g,k]) (I.ok.hd N) (IsTup.new f.heap _) λh' A=>?_)));have I3:=I2.kept (h':=h') (t':=f.toks) λb o e=>A b o (CI (rH e)) e;show wpAny _ _ (assignInOrder [λv=>bindName X.env y v,λv=>bindName X.env x v] [k,g] >>= λ_=>pure Flow.next) _ _ _;refine rD (assignInOrder_cons (wpAny_bindName (HR I3 C O (.inl F) rw' (λs2 I4=>?_) (.inr F))));refine assignInOrder_cons (wpAny_bindName (HR I4 C hi (.inl E) W (λs3 M=>assignInOrder_nil (rE ?_)) (.inr E)));rw [List.set_comm _ _ (Ne.symm u)] at M;exact ⟨_,J,M,z⟩
def C5 (i:Nat) (te:TE) (b:cj):TS:=λD a H=>∃ x,a[i]?=some (some x)/\te a H λy c=>b x y c λz d=>D.nx (a.set i (some z)) d
def DO {i:Nat} {x:Str} {e:Expr} {te:TE} {j:Operator} {p:cj} {d:Pos} (B:X.N.Nodup) (hi:X.N[i]?=some x) (n:bJ X.env.scope x) (C:PE X e te) (E:PIp X j p) (F:X.fn x=true\/X.env.scope.names.lookup x=some .local:=by first | exact .inl rfl | exact .inr rfl | assumption) :
  PS X (.AugAssign (.Name x d) j e pos) (C5 i te p):=by
 intro a s q H D I h;obtain ⟨v,G,h⟩:=h;obtain ⟨m,J,hl⟩:=I.loc;have o:cf X.env.scope x:=by rcases n with k | k;exact .inl k;exact .inr (.inl k)
 obtain ⟨u,r,l⟩:=hl i x v hi G o;refine wpAny_AugAssign_Name ?_
 have A:wpAny (model X.prog X.w) X.A (eval e X.env) (λw f=>wpAny (model X.prog X.w) X.A (inplaceOp j u w) (λr g=>wpAny (model X.prog X.w) X.A (storeName X.env x r) (λ_=>SP X a D .next) X.xe g) X.xe f) X.xe s:=by
  refine F_ (C a s q H _ I h) λw K ⟨y,L,M,N,O⟩=>?_;refine F_ (E a K q L v y u w _ M r N O) λz Y ⟨Z,P,Q,R,S⟩=>?_;exact HR Q B hi n R (λs3 T=>⟨_,P,T,S⟩) F
 rcases l with ⟨hk,U⟩ | ⟨hk,c,W,b⟩
 ·exact wpAny_loadName_local I.ok.kind hk J U A
 ·rcases hk with hk | hk
  ·exact wpAny_loadName_cell I.ok.kind hk W b A
  ·rcases n with k | k
   ·have:X.env.scope.names.lookup x=some .free:=hk;rw [k] at this;cases this
   ·have:X.env.scope.names.lookup x=some .free:=hk;rw [k] at this;cases this
def Fb (e f te:TE) (a:V->V->Hp->VK->Prop) (d:cj) (b:aN):TS:=λD c H=>e c H λo g=>f c g λi h=>a o i h λx j=>te c j λy k=>d x y k λz m=>b o i z m λn=>D.nx c n
def cr (X:Cx) (t:V->V->Hp->VK->Prop):Prop:=
 ∀ (a:dH) (s:Shared) (b:St) (H:Hp) (o i:V) (c d:Value) (Q:VK),Inv X a b H s->RelV o c->RelV i d->t o i H Q->
   wpAny (model X.prog X.w) X.A (getItem c d) (EP X a b Q) X.xe s
def Gb {o i e:Expr} {p q te:TE} {c:V->V->Hp->VK->Prop} {k:cj} {d:aN} {r:Operator} {m:Pos} (z:PE X o p) (hi:PE X i q) (A:cr X c) (B:PE X e te) (hp:PIp X r k) (C:bu X d)
  (E:∀ f g b,augStore i f g b=(do holding [b,f,g] (setItem f g b);release [b,f,g] [];pure .next):=by intros;rfl):PS X (.AugAssign (.Subscript o i m) r e pos) (Fb p q te c k d):=by
 intro a s j H D I h;refine wpAny_AugAssign_SubscriptAny (F_ (z a s j H _ I h) λf F ⟨u,G,J,w,K⟩=>?_) E;refine F_ (hi a F j G _ J K) λg L ⟨x,M,N,y,O⟩=>?_;refine F_ (A a L j M u x f g _ N w y O) λn P ⟨Q,R,S,T,U⟩=>?_;refine F_ (B a P j R _ S U) λv W ⟨Y,Z,I4,r4,q4⟩=>?_;refine F_ (hp a W j Z Q Y n v _ I4 T r4 q4) λb s5 ⟨x5,H5,I5,r5,q5⟩=>?_;exact F_ (C a s5 j H5 u x x5 f g b _ I5 w y r5 q5) λ_ s6 ⟨H6,I6,q6⟩=>⟨j,H6,I6,q6⟩
end
section
variable {X:Cx} {pos:Pos}
def Ds (c:TT) (h:TS):TS:=λD a H=>∃ W:Nat->St->Hp->Prop,(∃ m,W m a H)/\∀ m a H,W m a H->
 c a H λb e=>if b=true then ∃ N:St->Hp->Prop,(∀ d f,N d f->∃ g,g<m/\W g d f)/\h { D with nx:=N,ct:=N,bk:=D.nx } a e else D.nx a e
theorem EN {c:Expr} {g:List Stmt} {tc:TT} {x:TS} (hp:PassesOwn (model X.prog X.w) X.A X.env X.xe) (E:PT X c tc) (F:PSs X g x):PS X (.While c g [] pos) (Ds tc x):=by
 intro a s G H D I h;obtain ⟨W,⟨J,K⟩,i⟩:=h;refine wpAny_While (codeAny_whileLoop (λn L=>∃ j y,Inv X a j y L/\W n j y) ?_ J ⟨G,H,I,K⟩);rintro n M ⟨e,z,O,P⟩;refine wpAny_passesOwn hp (F_ (E a M e z _ O (i n e z P)) λb Q ⟨A,B,m⟩=>?_);cases b with
 | true=>
   obtain ⟨N,C,m⟩:=m;rw [sZ rfl];refine wpAny_passesOwn hp (F_ (F a Q e A _ B m) λf R o=>?_);cases f with
   | next=>
     obtain ⟨d,k,p,q⟩:=o;obtain ⟨r,u,w⟩:=C d k q;exact ⟨r,u,d,k,p,w⟩
   | cont=>
     obtain ⟨d,k,p,q⟩:=o;obtain ⟨r,u,w⟩:=C d k q;exact ⟨r,u,d,k,p,w⟩
   | brk=>exact o
   | ret v=>exact o
 | false=>
   rw [sY DA];exact wpAny_execs_nil ⟨e,A,B,m⟩
end
structure It where
 go:Nat->Hp->Prop
 yld:Nat->Hp->V->Hp->Prop
 stop:Nat->Hp->Prop
def DW (X:Cx) (a:dH) (H:Hp) (b:Addr):Prop:=
 H b=none/\b≠X.env.locals/\b∉X.fs/\(b∈X.ex\/X.s₀.heap.objs.size<=b)/\(∀ x c,X.env.cells.lookup x=some c->c≠b)/\∀ p∈X.pn++a,p.1≠b
def Inv.fpOk {X:Cx} {a:dH} {σ:St} {H f:Hp} {s:Shared} {b:Addr} (I:Inv X a σ H s) (d:s.heap.objs.size<=b) (g:f b=none):DW X a f b:=by
 refine ⟨g,Nat.ne_of_gt (B8 I.lt d),I.nofs d,.inr (Bx I.sz d),λx c e z=>?_,λp hp z=>?_⟩
 ·obtain ⟨v,q⟩:=I.cell x c e;exact absurd (B8 q.lt (by rw [z];exact d)) (Dj _)
 ·exact absurd (B8 (rH (I.pin p hp).1) (by rw [z];exact d)) (Dj _)
structure Turn (P:Program) (w:World) (K:W.Frag) (tg:Expr) (J:It) (fp:dN) (it:Addr) (tn:Nat->Heap->Prop):Prop where
 mem:it∈fp
 obj:∀ i h,tn i h->∀ b∈fp,∃ o,h.get? b=some o/\∀ v,o.data≠.cell v
 keep:∀ i h h',tn i h->(∀ b∈fp,∀ o,h.get? b=some o->h'.get? b=some o)->tn i h'
 item:∀ (X:Cx),X.prog=P->X.w=w->X.K=K->X.calm=true->∀ (i:Nat) (pins:dH) (s:Shared) (σ:St) (H:Hp) (E:dF),Inv X pins σ H s->(∀ b∈fp,DW X pins H b)->tn i s.heap->J.go i H->
  wpAny (model P w) X.A (pyNext (.ref it)) (λr s1=>∃ u,r=some u/\
   wpAny (model P w) X.A (letOwnedTupleGo tg (.ref it) u) (λ_ s2=>∃ x H',Inv X pins σ H' s2/\RelV x u/\J.yld i H x H'/\tn (i+1) s2.heap/\∀ b∈fp,H' b=none) E s1) E s
 done:∀ (X:Cx),X.prog=P->X.w=w->X.K=K->X.calm=true->∀ (i:Nat) (pins:dH) (s:Shared) (σ:St) (H:Hp) (E:dF),Inv X pins σ H s->(∀ b∈fp,DW X pins H b)->tn i s.heap->J.stop i H->
  wpAny (model P w) X.A (pyNext (.ref it)) (λr s1=>r=none/\Inv X pins σ H s1) E s
 self:∀ (A:Around) (i:Nat) (s:Shared) (Q:dF) (E:dF),tn i s.heap->Q (.ref it) s->wpAny (model P w) A (pyIter (.ref it)) Q E s
noncomputable abbrev TI:=St->Hp->(It->Hp->Prop)->Prop
def PIE (X:Cx) (a:dH) (σ:St) (i:Expr) (R:It->Hp->Prop) (c:Value) (e:Shared):Prop:=
 ∃ (f:Addr) (g:dN) (h:Nat->Heap->Prop) (J:It) (d:Hp),c=.ref f/\Inv X a σ d e/\Turn X.prog X.w X.K i J g f h/\h 0 e.heap/\(∀ b∈g,DW X a d b)/\R J d
def PI (X:Cx) (d b:Expr) (e:TI):Prop:=
 ∀ (a:dH) (s:Shared) (c:St) (H:Hp) (R:It->Hp->Prop),Inv X a c H s->e c H R->
   wpAny (model X.prog X.w) X.A (eval b X.env) (λv f=>wpAny (model X.prog X.w) X.A (pyIter v) (PIE X a c d R) X.xe f) X.xe s
def HU {M:Model} {A:Around} {E:dF} {s:Shared} {b:Expr} {c:Addr} {u:Value} {o:Obj} {n:String} {d:Array Value} {Q:Unit->Shared->Prop} (e:s.heap.get? c=some o) (f:o.cls=.type n) (g:o.data=.fields d)
  (i:["enumerate","zip","dict_itemiterator","dict_reverseitemiterator","odict_iterator","itertools.zip_longest","itertools.pairwise"].contains n=false) (a:Q Unit.unit s):wpAny M A (letOwnedTupleGo b (.ref c) u) Q E s:=by
 unfold letOwnedTupleGo
 cases b <;> first
  | exact rE a
  | (cases u <;> first
    | exact rE a
    | (refine rD (wpAny_load e ?_)
       rw [f,g];show wpAny M A (if (["enumerate","zip","dict_itemiterator","dict_reverseitemiterator","odict_iterator","itertools.zip_longest","itertools.pairwise"].contains n && d[0]? == some (rawInt _))=true then _ else _) Q E s;rw [sY (by intro h;rw [i,Bool.false_and] at h;cases h)];exact rE a))
noncomputable def aB (K:W.Frag) (a:Addr):It:=
 ⟨λi H=>∃ b x,SqL K H a b/\b[i]?=some x,λi H x c=>c=H/\∀ b,SqL K H a b->b[i]?=some x,λi H=>∃ b,SqL K H a b/\b.length<=i⟩
noncomputable def aZ (K:W.Frag) (a:Addr):It:=
 ⟨λi H=>∃ b x,SqT K H a b/\b[i]?=some x,λi H x c=>c=H/\∀ b,SqT K H a b->b[i]?=some x,λi H=>∃ b,SqT K H a b/\b.length<=i⟩
noncomputable def aD (lo:Int) (n:Nat):It:=⟨λi _=>i<n,λi H x a=>a=H/\x=.int (lo+i),λi _=>n<=i⟩
def Uk {P:Program} {w:World} {K:W.Frag} {T:Expr} (a j:Addr):Turn P w K T (aB K a) [j] j (λi h=>h.IsListIter j a i) where
 mem:=by simp
 obj:=λi h f b m=>by
  have e:b=j:=by simpa using m
  subst e
  obtain ⟨o,e,c,d⟩:=f
  exact ⟨o,e,λv z=>by rw [d] at z;cases z⟩
 keep:=λi h r f k=>f.at λo e=>k j (by simp) o e
 item:=by
  intro X B hw C R i g s S H E I y f D
  subst B hw C
  obtain ⟨U,x,A,F⟩:=D
  obtain ⟨G,J,p,Y⟩:=I.list A
  obtain ⟨u,Z,ru⟩:=J.get F
  obtain ⟨L,M,f2,N,O,Q⟩:=y j (by simp)
  refine wpAny_pyNext_list_item f p.isList (x:=u) (by simpa using Z) λr n sb=>?_
  have I1:Inv X g S H { s with heap:=r }:=I.turned (t':=s.toks) (λb o m e=>(sb.2 b m).trans e) L M N O Q
  obtain ⟨o,e,c,d⟩:=id n
  exact ⟨u,rfl,HU (s:={ s with heap:=r }) e c d ∅ ⟨x,H,I1,ru,⟨rfl,λys hy=>by rw [I.list_inj hy A];exact F⟩,n,λb m=>(y b m).1⟩⟩
 done:=by
  intro X B hw C R i g s S H E I y f D
  subst B hw C
  obtain ⟨U,A,F⟩:=D
  obtain ⟨G,J,p,Y⟩:=I.list A
  obtain ⟨L,M,f2,N,O,Q⟩:=y j (by simp)
  have hl:=J.length
  exact wpAny_pyNext_list_end (I.ok.hd R) f p.isList (by simp;omega) λr eb=>⟨rfl,I.turned (t':=s.toks) (λb o m e=>eb b o m e) L M N O Q⟩
 self:=λ_ _ _ _ _ f h=>wpAny_pyIter_listiter f h
def Ul {P:Program} {w:World} {K:W.Frag} {T:Expr} (a j:Addr):Turn P w K T (aZ K a) [j] j (λi h=>h.IsTupleIter j a i) where
 mem:=by simp
 obj:=λi h f b m=>by
  have e:b=j:=by simpa using m
  subst e
  obtain ⟨o,e,c,d⟩:=f
  exact ⟨o,e,λv z=>by rw [d] at z;cases z⟩
 keep:=λi h y f k=>f.at λo e=>k j (by simp) o e
 item:=by
  intro X C hw D R i g s S H E I A f F
  subst C hw D
  obtain ⟨U,x,B,G⟩:=F
  obtain ⟨n,J,p,Y⟩:=I.tuple B
  obtain ⟨u,Z,ru⟩:=J.get G
  obtain ⟨L,M,f2,N,O,Q⟩:=A j (by simp)
  refine wpAny_pyNext_tuple_item f (show s.heap.IsTuple a n.toArray from p) (x:=u) (by simpa using Z) λy q sb=>?_
  have I1:Inv X g S H { s with heap:=y }:=I.turned (t':=s.toks) (λb o m e=>(sb.2 b m).trans e) L M N O Q
  obtain ⟨o,e,c,d⟩:=id q
  exact ⟨u,rfl,HU (s:={ s with heap:=y }) e c d ∅ ⟨x,H,I1,ru,⟨rfl,λys hy=>by rw [I.tuple_inj hy B];exact G⟩,q,λb m=>(A b m).1⟩⟩
 done:=by
  intro X C hw D R i g s S H E I A f F
  subst C hw D
  obtain ⟨U,B,G⟩:=F
  obtain ⟨n,J,p,Y⟩:=I.tuple B
  obtain ⟨L,M,f2,N,O,Q⟩:=A j (by simp)
  have hl:=J.length
  exact wpAny_pyNext_tuple_end (I.ok.hd R) f (show s.heap.IsTuple a n.toArray from p) (by simp;omega) λy eb=>⟨rfl,I.turned (t':=s.toks) (λb o m e=>eb b o m e) L M N O Q⟩
 self:=λ_ _ _ _ _ f h=>wpAny_pyIter_tupleiter f h
def Um {P:Program} {w:World} {K:W.Frag} {L:Expr} (c:Addr) (lo:Int) (n:Nat):Turn P w K L (aD lo n) [c] c (λi h=>IsRangeIter h c (lo+(i:Nat)*1) ((n:Int) - (i:Nat)) 1) where
 mem:=by simp
 obj:=λi h a b f=>by
  have e:b=c:=by simpa using f
  subst e
  exact ⟨_,a,λv z=>by
   have M:Data.fields _=Data.cell v:=z
   cases M⟩
 keep:=λi h p a k=>k c (by simp) _ a
 item:=by
  intro X r hw u x i d s G H E I q a y
  subst r hw u
  obtain ⟨A,B,N,C,D,F⟩:=q c (by simp)
  have W:=Walks.range (prog:=X.prog) (w:=X.w) (I.ok.hd x) c lo 1 n
  refine W.item i s _ _ y a λv p J hv g O=>?_
  obtain ⟨t,rfl⟩:=hv
  have Q:Inv X d G H { s with heap:=p,toks:=J }:=I.turned (λb o f e=>O b o (by simpa using f) e) A B C D F
  refine ⟨_,rfl,HU (s:={ s with heap:=p,toks:=J }) (n := "range_iterator") g rfl rfl ∅ ⟨.int (lo+i),H,Q,⟨t,?_⟩,⟨rfl,rfl⟩,g,λb f=>(q b f).1⟩⟩
  rw [Int.mul_one]
 done:=by
  intro X r hw u x i d s G H E I q a y
  subst r hw u
  obtain ⟨A,B,N,C,D,F⟩:=q c (by simp)
  exact wpAny_pyNext_range_end (I.ok.hd x) a (by have:n<=i:=y;omega) λp R=>⟨rfl,I.turned (t':=s.toks) (λb o f e=>R b o f e) A B C D F⟩
 self:=λ_ _ _ _ _ a h=>wpAny_pyIter_rangeiter a h
section
variable {X:Cx} {tg:Expr}
def Cb (K:W.Frag) (c:TE):TI:=λd H R=>c d H λx b=>∃ a,x=.ref a/\(∃ e,SqL K b a e)/\R (aB K a) b
def FC (K:W.Frag) (c:TE):TI:=λd H R=>c d H λx b=>∃ a,x=.ref a/\(∃ e,SqT K b a e)/\R (aZ K a) b
def DG {l:Expr} {g:TE} (hl:PE X l g):PI X tg l (Cb X.K g):=by
 intro c s i H R I h;refine F_ (hl c s i H _ I h) λv d ⟨x,j,f,k,m⟩=>?_;obtain ⟨a,e,⟨w,n⟩,q⟩:=m;subst e;cases k;obtain ⟨r,y,p,z⟩:=f.list n;refine wpAny_pyIter_list p.isList ?_;refine ⟨d.heap.objs.size,[d.heap.objs.size],_,_,j,rfl,f.kept (t':=d.toks) λb o e=>Heap.get?_push_of_some _ e,Uk a _,⟨_,Heap.get?_push_size _ rfl,rfl,rfl⟩,λb u=>?_,q⟩;have e:b=d.heap.objs.size:=by simpa using u
 subst e;exact f.fpOk (AS _) (f.hok.fresh (AS _))
def HV {l:Expr} {i:TE} (hl:PE X l i):PI X tg l (FC X.K i):=by
 intro c s j H R I h;refine F_ (hl c s j H _ I h) λv d ⟨x,k,f,m,n⟩=>?_;obtain ⟨a,e,⟨w,r⟩,q⟩:=n;subst e;cases m;obtain ⟨g,y,p,z⟩:=f.tuple r;refine wpAny_pyIter_tuple (show d.heap.IsTuple a g.toArray from p) ?_;refine ⟨d.heap.objs.size,[d.heap.objs.size],_,_,k,rfl,f.kept (t':=d.toks) λb o e=>Heap.get?_push_of_some _ e,Ul a _,⟨_,Heap.get?_push_size _ rfl,rfl,rfl⟩,λb u=>?_,q⟩;have e:b=d.heap.objs.size:=by simpa using u
 subst e;exact f.fpOk (AS _) (f.hok.fresh (AS _))
def NP {c:dH} {σ:St} {H:Hp} {s:Shared} {R:It->Hp->Prop} {E:dF} {lo hi:Int} {t u v:Tok} {tk:Nat} (I:Inv X c σ H s) (i:-(2 ^ 62)<=lo) (j:lo<2 ^ 62) (k:-(2 ^ 62)<=hi) (m:hi<2 ^ 62)
  (q:R (aD lo (hi - lo).toNat) H):wpAny (model X.prog X.w) X.A (pyIter (.ref s.heap.objs.size)) (PIE X c σ tg R) E { s with heap:=s.heap.push { cls:=.type "range", data:=.fields #[.int lo t,.int hi u,.int 1 v] },toks:=tk }:=by
 refine wpAny_pyIter_range (IsRange.new ..) (small_one i j k m) ?_;have h:Inv X c σ H { s with heap:=s.heap.push { cls:=.type "range", data:=.fields #[.int lo t,.int hi u,.int 1 v] },toks:=tk }:=I.kept λb o e=>Heap.get?_push_of_some _ e
 refine ⟨(s.heap.push { cls:=.type "range", data:=.fields #[.int lo t,.int hi u,.int 1 v] }).objs.size,[(s.heap.push { cls:=.type "range", data:=.fields #[.int lo t,.int hi u,.int 1 v] }).objs.size],_,_,H,rfl,
  h.kept (t':=tk) λb o e=>Heap.get?_push_of_some _ e,Um _ lo (hi - lo).toNat,?_,λb n=>?_,q⟩
 ·have p:lo+((0:Nat):Int)*1=lo:=by simp
  have r:(((hi - lo).toNat:Nat):Int) - ((0:Nat):Int)=Builtin.Range.rangeSize lo hi 1:=by rw [rangeSize_one];split <;> omega
  show IsRangeIter _ _ (lo+((0:Nat):Int)*1) ((((hi - lo).toNat:Nat):Int) - ((0:Nat):Int)) 1;rw [p,r];exact Heap.get?_push_size _ rfl
 ·have e:b=(s.heap.push { cls:=.type "range", data:=.fields #[.int lo t,.int hi u,.int 1 v] }).objs.size:=by simpa using n
  subst e;exact h.fpOk (AS _) (h.hok.fresh (AS _))
def EC (a:TA):TI:=λb H R=>a b H λc d=>∃ j:Int,c=[.int j]/\-(2 ^ 62)<=j/\j<2 ^ 62/\R (aD 0 j.toNat) d
def HW (a:TA):TI:=λb H R=>a b H λc d=>∃ i j:Int,c=[.int i,.int j]/\(-(2 ^ 62)<=i/\i<2 ^ 62/\-(2 ^ 62)<=j/\j<2 ^ 62)/\R (aD i (j - i).toNat) d
theorem FD {a:Expr} {f:TA} {p b:Pos} (g:Gl X "range") (i:X.mg "range" = none) (k:PA X [a] f) (m:starEach [a] X.env=[(false,eval a X.env)]:=by rfl):PI X tg (.Call (.Name "range" p) [a] [] b) (EC f):=by
 intro c s n H R I h;refine Call_ (Ek I g i boot_range (PyProof.Rows.callWith_type1 (F_ (k b c s n H _ I h) λx y ⟨z,A,o,u,d⟩=>?_) m rfl));obtain ⟨j,e,d,v,q⟩:=d;subst e;cases u with
 | cons r w=>
   cases w;obtain ⟨t,rfl⟩:=r;exact call_range_1 (NP o ⋯ ⋯ d v (by simpa using q))
theorem NQ {a b:Expr} {m:TA} {p c:Pos} (n:Gl X "range") (o:X.mg "range" = none) (u:PA X [a,b] m) (v:starEach [a,b] X.env=[(false,eval a X.env),(false,eval b X.env)]:=by rfl) (d:starEach [b] X.env=[(false,eval b X.env)]:=by rfl) :
  PI X tg (.Call (.Name "range" p) [a,b] [] c) (HW m):=by
 intro f s w H R I h;refine Call_ (Ek I n o boot_range (PyProof.Rows.callWith_type1 (F_ (u c f s w H _ I h) λD E ⟨F,G,x,y,g⟩=>?_) (by rw [v,d]) (by rw [d];rfl)));obtain ⟨i,j,e,⟨g,z,A,B⟩,q⟩:=g;subst e;cases y with
 | cons r k=>
   cases k with
   | cons C k=>
     cases k;obtain ⟨t,rfl⟩:=r;obtain ⟨J,rfl⟩:=C;exact call_range_2 (NP x g z A B q)
def BH (f:TI) (g:TG) (h:TS):TS:=λD a H=>f a H λJ j=>∃ W:Nat->Nat->St->Hp->Prop,(∃ m,W 0 m a j)/\∀ i m a H,W i m a H->
 (J.stop i H/\D.nx a H)\/(J.go i H/\∃ N:St->Hp->Prop,(∀ b c,N b c->∃ e,e<m/\W (i+1) e b c)/\∀ x c,J.yld i H x c->g x a c λd k=>h { D with nx:=N,ct:=N,bk:=D.nx } d k)
noncomputable def Iw (a:dN) (h:Heap):dH:=a.filterMap λb=>(h.get? b).map λo=>(b,o)
def Ix {a:dN} {h:Heap} {b:Addr} {o:Obj} (c:b∈a) (e:h.get? b=some o):(b,o)∈Iw a h:=List.mem_filterMap.mpr ⟨b,c,by rw [e];rfl⟩
theorem Uo {a:dN} {h:Heap} {p:Addr×Obj} (hp:p∈Iw a h):p.1∈a/\h.get? p.1=some p.2:=by
 obtain ⟨b,c,e⟩:=List.mem_filterMap.mp hp;cases q:h.get? b with
 | none=>rw [q] at e;cases e
 | some o=>
   rw [q] at e;have d:(b,o)=p:=rG e;subst d;exact ⟨c,q⟩
def Inv.pinned {a:dH} {σ:St} {H:Hp} {s:Shared} {c:dN} (I:Inv X a σ H s) (h:∀ b∈c,DW X a H b) (i:∀ b∈c,∃ o,s.heap.get? b=some o/\∀ v,o.data≠.cell v):Inv X (a++Iw c s.heap) σ H s:=
 I.pins_of λp hp=>(Bq.mp hp).elim (λz=>I.pin p (Cd _ z)) λz=>by
  obtain ⟨f,e⟩:=Uo z;obtain ⟨j,k,m,_⟩:=h p.1 f;obtain ⟨o,g,d⟩:=i p.1 f;rw [e] at g;cases g;exact ⟨e,j,k,m,d⟩
def Inv.unpinned {a b:dH} {σ:St} {H:Hp} {s:Shared} (I:Inv X (a++b) σ H s):Inv X a σ H s:=I.pins_of λp hp=>I.pin p (Cd _ (Ec _ hp))
def B9 {j:Expr} {C:List Stmt} {wi:TI} {g:TG} {tb:TS} {S:Pos} (hp:PassesOwn (model X.prog X.w) X.A X.env X.xe) (hc:X.calm=true) (hi:PI X tg j wi) (hg:PG X tg g) (k:PSs X C tb)
  (hs:∀ x,foldedSetIterable j X.env x=pure x:=by intro _;rfl):PS X (.For tg j C [] S) (BH wi g tb):=by
 intro a s σ H D I h;refine wpAny_For (F_ (hi a s σ H _ I h) λv s1 h1=>F_ h1 λa2 s2 h2=>?_) hs;obtain ⟨it,G,tn,J,H2,e,I2,T,U,f2,W,⟨m0,w0⟩,K⟩:=h2;subst e;have p:∀ {B:Hp},(∀ b∈G,B b=none)->∀ b∈G,DW X a B b:=λhn b k=>⟨hn b k,(f2 b k).2⟩;refine codeAny_forLoop_any (λn s'=>∃ i q B,Inv X a q B s'/\tn i s'.heap/\(∀ b∈G,B b=none)/\W i n q B) ?_ m0 ⟨0,σ,H2,I2,U,λb k=>(f2 b k).1,w0⟩;rintro n s3 ⟨i,w,R,I3,L,M,w3⟩;rcases K i n w R w3 with ⟨O,qn⟩ | ⟨go,N,hN,P⟩
 ·refine wpAny_passesOwn hp (F_ (T.done X rfl rfl rfl hc i a s3 w R X.xe I3 (p M) L O) λr s4 ⟨Y,I4⟩=>?_);subst Y;exact wpAny_execs_nil ⟨w,R,I4,qn⟩
 ·refine wpAny_passesOwn hp (F_ (T.item X rfl rfl rfl hc i a s3 w R X.xe I3 (p M) L go) λr s4 ⟨u,Y,h4⟩=>?_);subst Y;refine wpAny_passesOwn hp (F_ h4 λ_ s5 ⟨x,H5,I5,r5,y5,F,Z⟩=>?_);have a0:=I5.pinned (p Z) (T.obj _ _ F);refine wpAny_passesOwn hp (F_ (hg _ s5 w H5 x u _ a0 r5 (P x H5 y5)) λ_ s6 ⟨a1,H6,I6,q6⟩=>?_);refine wpAny_passesOwn hp (F_ (k _ s6 a1 H6 _ I6 q6) λf s7 E=>?_)
  have y:∀ {c:St} {z:Hp},Inv X (a++Iw G s5.heap) c z s7->N c z->∃ m,m<n/\∃ i q B,Inv X a q B s7/\tn i s7.heap/\(∀ b∈G,B b=none)/\W i m q B:=λ{c z} A Q=>by
   obtain ⟨m',hm,w7⟩:=hN c z Q;refine ⟨m',hm,i+1,c,z,A.unpinned,T.keep _ _ _ F λb k o e=>(A.pin (b,o) (Cd _ (Cd _ (Ix k e)))).1,λb k=>?_,w7⟩;obtain ⟨o,e,d⟩:=T.obj _ _ F b k;exact (A.pin (b,o) (Cd _ (Cd _ (Ix k e)))).2.1
  cases f with
  | next=>obtain ⟨c,z,A,Q⟩:=E;exact y A Q
  | cont=>obtain ⟨c,z,A,Q⟩:=E;exact y A Q
  | brk=>obtain ⟨c,z,A,E⟩:=E;exact ⟨c,z,A.unpinned,E⟩
  | ret v=>obtain ⟨x7,c,z,A,r7,E⟩:=E;exact ⟨x7,c,z,A.unpinned,r7,E⟩
end
def Up {K:W.Frag} {a:Addr} {xs:dz} {g:TG} {j:TS} {D:Ends} {σ:St} {H:Hp} (Pv:Nat->St->Hp->Prop) (n:Pv 0 σ H) (hl:∀ i σ H,i<=xs.length->Pv i σ H->SqL K H a xs)
  (o:∀ i x σ H,xs[i]?=some x->Pv i σ H->g x σ H λb h=>j { D with nx:=Pv (i+1),ct:=Pv (i+1),bk:=D.nx } b h) (w:∀ σ H,Pv xs.length σ H->D.nx σ H) :
  ∃ W:Nat->Nat->St->Hp->Prop,(∃ m,W 0 m σ H)/\∀ i m σ H,W i m σ H->
    ((aB K a).stop i H/\D.nx σ H)\/((aB K a).go i H/\∃ N:St->Hp->Prop,(∀ c d,N c d->∃ k,k<m/\W (i+1) k c d)/\∀ x d,(aB K a).yld i H x d->g x σ d λb h=>j { D with nx:=N,ct:=N,bk:=D.nx } b h):=by
 refine ⟨λi m σ H=>m=xs.length - i/\i<=xs.length/\Pv i σ H,⟨xs.length,by simp,Aa _,n⟩,?_⟩;rintro i m σ H ⟨rfl,z,p⟩;have q:=hl i σ H z p;by_cases f:i<xs.length
 ·refine .inr ⟨⟨xs,xs[i],q,by simp [f]⟩,Pv (i+1),λc d A=>⟨xs.length - (i+1),⋯,rfl,f,A⟩,λx d y=>?_⟩;obtain ⟨e,y⟩:=y;subst e;exact o i x σ _ (y xs q) p
 ·have e:i=xs.length:=by omega
  subst e;exact .inl ⟨⟨xs,q,AS _⟩,w σ H p⟩
def NR {K:W.Frag} {a:Addr} {xs:dz} {g:TG} {j:TS} {D:Ends} {σ:St} {H:Hp} (Pv:Nat->St->Hp->Prop) (n:Pv 0 σ H) (hl:∀ i σ H,i<=xs.length->Pv i σ H->SqT K H a xs)
  (o:∀ i x σ H,xs[i]?=some x->Pv i σ H->g x σ H λb h=>j { D with nx:=Pv (i+1),ct:=Pv (i+1),bk:=D.nx } b h) (w:∀ σ H,Pv xs.length σ H->D.nx σ H) :
  ∃ W:Nat->Nat->St->Hp->Prop,(∃ m,W 0 m σ H)/\∀ i m σ H,W i m σ H->
    ((aZ K a).stop i H/\D.nx σ H)\/((aZ K a).go i H/\∃ N:St->Hp->Prop,(∀ c d,N c d->∃ k,k<m/\W (i+1) k c d)/\∀ x d,(aZ K a).yld i H x d->g x σ d λb h=>j { D with nx:=N,ct:=N,bk:=D.nx } b h):=by
 refine ⟨λi m σ H=>m=xs.length - i/\i<=xs.length/\Pv i σ H,⟨xs.length,by simp,Aa _,n⟩,?_⟩;rintro i m σ H ⟨rfl,z,p⟩;have q:=hl i σ H z p;by_cases f:i<xs.length
 ·refine .inr ⟨⟨xs,xs[i],q,by simp [f]⟩,Pv (i+1),λc d A=>⟨xs.length - (i+1),⋯,rfl,f,A⟩,λx d y=>?_⟩;obtain ⟨e,y⟩:=y;subst e;exact o i x σ _ (y xs q) p
 ·have e:i=xs.length:=by omega
  subst e;exact .inl ⟨⟨xs,q,AS _⟩,w σ H p⟩
def Uq {lo:Int} {n:Nat} {g:TG} {h:TS} {D:Ends} {σ:St} {H:Hp} (Pv:Nat->St->Hp->Prop) (k:Pv 0 σ H)
  (o:∀ i σ H,i<n->Pv i σ H->g (.int (lo+i)) σ H λa f=>h { D with nx:=Pv (i+1),ct:=Pv (i+1),bk:=D.nx } a f) (v:∀ σ H,Pv n σ H->D.nx σ H) :
  ∃ W:Nat->Nat->St->Hp->Prop,(∃ m,W 0 m σ H)/\∀ i m σ H,W i m σ H->
    ((aD lo n).stop i H/\D.nx σ H)\/((aD lo n).go i H/\∃ N:St->Hp->Prop,(∀ b c,N b c->∃ j,j<m/\W (i+1) j b c)/\∀ x c,(aD lo n).yld i H x c->g x σ c λa f=>h { D with nx:=N,ct:=N,bk:=D.nx } a f):=by
 refine ⟨λi m σ H=>m=n - i/\i<=n/\Pv i σ H,⟨n,by simp,Aa _,k⟩,?_⟩;rintro i m σ H ⟨rfl,z,p⟩;by_cases d:i<n
 ·refine .inr ⟨d,Pv (i+1),λb c w=>⟨n - (i+1),⋯,rfl,d,w⟩,λx c y=>?_⟩;obtain ⟨e,y⟩:=y;subst e y;exact o i σ _ d p
 ·have e:i=n:=by omega
  subst e;exact .inl ⟨AS _,v σ H p⟩
noncomputable abbrev R2:=V->V->Hp->VK->Prop
def OpR (X:Cx) (f:Value->Value->Sem Value) (r:R2):Prop:=
 ∀ (a:dH) (s:Shared) (b:St) (H:Hp) (x y:V) (v u:Value) (Q:VK),Inv X a b H s->RelV x v->RelV y u->r x y H Q->
   wpAny (model X.prog X.w) X.A (f v u) (EP X a b Q) X.xe s
def UnR (X:Cx) (f:Value->Sem Value) (r:V->Hp->VK->Prop):Prop:=
 ∀ (a:dH) (s:Shared) (b:St) (H:Hp) (x:V) (v:Value) (Q:VK),Inv X a b H s->RelV x v->r x H Q->
   wpAny (model X.prog X.w) X.A (f v) (EP X a b Q) X.xe s
def Cp (X:Cx) (f:Value) (r:dz->Hp->VK->Prop):Prop:=
 ∀ (a:dH) (s:Shared) (b:St) (H:Hp) (c:dz) (d:dE) (Q:VK),Inv X a b H s->Vals c d->r c H Q->
   wpAny (model X.prog X.w) X.A (call f d) (EP X a b Q) X.xe s
def Ur (X:Cx) (r:V->Hp->(Bool->Hp->Prop)->Prop):Prop:=
 ∀ (a:dH) (s:Shared) (b:St) (H:Hp) (x:V) (v:Value) (Q:Bool->Hp->Prop),Inv X a b H s->RelV x v->r x H Q->
   wpAny (model X.prog X.w) X.A (truthy v) (TP X a b Q) X.xe s
def B_ (r:R2) (b c:TE):TE:=λa H Q=>b a H λx d=>c a d λy e=>r x y e Q
def Q_ (r:V->Hp->VK->Prop) (a:TE):TE:=λb H Q=>a b H λx c=>r x c Q
def rI (C:Int->Int->Prop) (g:Int->Int->V):R2:=λx y H Q=>∃ i j,x=.int i/\y=.int j/\C i j/\Q (g i j) H
def a8 (g:Int->Int->V):R2:=λx y H Q=>∃ i j,x=.int i/\y=.int j/\Q (g i j) H
def rU (g:Int->V):V->Hp->VK->Prop:=λx H Q=>∃ i,x=.int i/\Q (g i) H
section
variable {X:Cx} {a b c:Expr} {ta tb tc:TE} {pos:Pos}
def Kf (m:PE X a ta) (n:PE X b tb) {d:dH} {s:Shared} {σ:St} {H:Hp} {R:V->V->Hp->Prop} (I:Inv X d σ H s)
  (h:ta σ H λx k=>tb σ k λy e=>R x y e) {Q:dF} {f:Value->Value->Sem Value}
  (o:∀ v u j x y e,Inv X d σ e j->RelV x v->RelV y u->R x y e->wpAny (model X.prog X.w) X.A (f v u) Q X.xe j) :
  wpAny (model X.prog X.w) X.A (eval a X.env) (λv g=>wpAny (model X.prog X.w) X.A (eval b X.env) (λu i=>wpAny (model X.prog X.w) X.A (f v u) Q X.xe i) X.xe g) X.xe s:=by
 refine F_ (m d s σ H _ I h) λv p ⟨x,k,q,r,w⟩=>?_;refine F_ (n d p σ k _ q w) λu j ⟨y,e,z,A,B⟩=>?_;exact o v u j x y e z r A B
def AI {e:Operator} {r:R2} (f:OpR X (binaryOp e) r) (g:PE X a ta) (i:PE X b tb):PE X (.BinOp a e b pos) (B_ r ta tb):=by
 intro d s j H Q I h;exact wpAny_BinOp (Kf g i I h λv u k x y m n o p q=>f d k j m x y v u Q n o p q)
def Bb {e:UnaryOp} {r:V->Hp->VK->Prop} (g:UnR X (unaryOp e) r) (i:PE X a ta):PE X (.UnaryOp e a pos) (Q_ r ta):=by
 intro d s f H Q I h;exact UnaryOp_ (F_ (i d s f H _ I h) λv j ⟨x,k,m,n,o⟩=>g d j f k x v Q m n o)
def bH {f:Value->Value->Sem Value} {C:Int->Int->Prop} {g:Int->Int->Int}
  (rule:∀ (i j:Int) (t u:Tok) (s:Shared) (Q:dF) (E:dF),C i j->Q (.int (g i j) s.toks) { s with toks:=s.toks+1 }->wpAny (model X.prog X.w) X.A (f (.int i t) (.int j u)) Q E s) :
  OpR X f (rI C λi j=>.int (g i j)):=by
 intro e s p H x y v u Q I k m h;obtain ⟨i,j,rfl,rfl,n,q⟩:=h;obtain ⟨t,rfl⟩:=k;obtain ⟨o,rfl⟩:=m;exact rule i j t o s _ _ n ⟨.int (g i j),H,I.tok _,⟨_,rfl⟩,q⟩
def Iy {f:Value->Value->Sem Value} {g:Int->Int->Int}
  (rule:∀ (i j:Int) (t u:Tok) (s:Shared) (Q:dF) (E:dF),Q (.int (g i j) s.toks) { s with toks:=s.toks+1 }->wpAny (model X.prog X.w) X.A (f (.int i t) (.int j u)) Q E s) :
  OpR X f (a8 λi j=>.int (g i j)):=by
 intro e s o H x y v u Q I k m h;obtain ⟨i,j,rfl,rfl,q⟩:=h;obtain ⟨t,rfl⟩:=k;obtain ⟨n,rfl⟩:=m;exact rule i j t n s _ _ ⟨.int (g i j),H,I.tok _,⟨_,rfl⟩,q⟩
def Iz {f:Value->Value->Sem Value} {g:Int->Int->Bool}
  (rule:∀ (i j:Int) (t u:Tok) (s:Shared) (Q:dF) (E:dF),Q (.bool (g i j)) s->wpAny (model X.prog X.w) X.A (f (.int i t) (.int j u)) Q E s) :
  OpR X f (a8 λi j=>.bl (g i j)):=by
 intro d s n H x y v u Q I e k h;obtain ⟨i,j,rfl,rfl,q⟩:=h;obtain ⟨t,rfl⟩:=e;obtain ⟨m,rfl⟩:=k;exact rule i j t m s _ _ ⟨.bl (g i j),H,I,rfl,q⟩
def B3:OpR X (binaryOp .Add) (a8 λi j=>.int (i+j)):=Iy λ_ _ _ _ _ _ _ q=>add_int q
def Bg:OpR X (binaryOp .Sub) (a8 λi j=>.int (i - j)):=Iy λ_ _ _ _ _ _ _ q=>sub_int q
def DP:OpR X (binaryOp .Mod) (rI (λ_ j=>0<j) λi j=>.int (i % j)):=bH λi j _ _ _ _ _ d q=>by
 have e:(0:Int)<j:=d;exact mod_int' ⋯ (by rw [Int.fmod_eq_emod_of_nonneg i ⋯];exact q)
def Us:OpR X (binaryOp .Mod) (rI (λ_ j=>j≠0) λi j=>.int (i.fmod j)):=bH λ_ _ _ _ _ _ _ d q=>mod_int' d q
def HX:OpR X (inplaceOp .Add) (a8 λi j=>.int (i+j)):=Iy λ_ _ _ _ _ _ _ q=>iadd_int q
def HY:OpR X (inplaceOp .Sub) (a8 λi j=>.int (i - j)):=Iy λ_ _ _ _ _ _ _ q=>isub_int q
def Ut {f:Value->Sem Value} {g:Int->Int}
  (rule:∀ (i:Int) (t:Tok) (s:Shared) (Q:dF) (E:dF),Q (.int (g i) s.toks) { s with toks:=s.toks+1 }->wpAny (model X.prog X.w) X.A (f (.int i t)) Q E s) :
  UnR X f (rU λi=>.int (g i)):=by
 intro e s k H x v Q I j h;obtain ⟨i,rfl,q⟩:=h;obtain ⟨t,rfl⟩:=j;exact rule i t s _ _ ⟨.int (g i),H,I.tok _,⟨_,rfl⟩,q⟩
def Bc:UnR X (unaryOp .USub) (rU λi=>.int (-i)):=Ut λ_ _ _ _ _ q=>neg_int q
end
noncomputable def scal:V->V->Bool
 | .non,.non=>true | .non,.int _=>true | .int _,.non=>true | .non,.bl _=>true | .bl _,.non=>true | .non,.str _=>true | .str _,.non=>true
 | .int _,.int _=>true | .bl _,.bl _=>true | .str _,.str _=>true | .byt _,.byt _=>true
 | .int _,.str _=>true | .str _,.int _=>true | .bl _,.str _=>true | .str _,.bl _=>true
 | _,_=>false
def au:R2:=λx y H Q=>scal x y=true/\Q (.bl (decide (x=y))) H
def aM:R2:=λx y H Q=>scal x y=true/\Q (.bl (!decide (x=y))) H
def NT {i j:Int}:decide (V.int i=V.int j)=(i == j):=by
 rw [Bool.eq_iff_iff];simp
def NU {i j:Bool}:decide (V.bl i=V.bl j)=(i == j):=by
 rw [Bool.eq_iff_iff];simp
def NV {i j:Str}:decide (V.str i=V.str j)=(i == j):=by
 rw [Bool.eq_iff_iff];simp
def NW {i j:Array UInt8}:decide (V.byt i=V.byt j)=(i.toList == j.toList):=by
 rw [Bool.eq_iff_iff];cases i;cases j;simp
section
variable {X:Cx} {a b c:Expr} {ta tb tc:TE} {pos:Pos}
def Br {d:dH} {σ:St} {H:Hp} {s:Shared} {Q:VK} {k f:Bool} (I:Inv X d σ H s) (q:Q (.bl k) H) (e:k=f):EP X d σ Q (.bool f) s:=by
 subst e;exact ⟨.bl k,H,I,rfl,q⟩
theorem EO:OpR X (compareOp .Eq) au:=by
 intro k s m H x y v u Q I g d h;obtain ⟨f,q⟩:=h;cases x with
 | non=>
   cases g;cases y with
   | non=>cases d;exact PySem.EqNone.eq_none_none (Br I q (by simp))
   | bl j=>cases d;exact PySem.EqNone.eq_none_bool (Br I q (by simp))
   | int j=>obtain ⟨e,rfl⟩:=d;exact PySem.EqNone.eq_none_int (Br I q (by simp))
   | str j=>obtain ⟨e,rfl⟩:=d;exact PySem.EqNone.eq_none_str (Br I q (by simp))
   | _=>exact absurd (show false=true from f) DA
 | bl i=>
   cases g;cases y with
   | non=>cases d;exact PySem.EqNone.eq_bool_none (Br I q (by simp))
   | bl j=>cases d;exact eq_bool (Br I q NU)
   | str j=>obtain ⟨e,rfl⟩:=d;exact PySem.EqMixed.eq_bool_str (Br I q (by simp))
   | _=>exact absurd (show false=true from f) DA
 | int i=>
   obtain ⟨t,rfl⟩:=g;cases y with
   | non=>cases d;exact PySem.EqNone.eq_int_none (Br I q (by simp))
   | int j=>obtain ⟨e,rfl⟩:=d;exact eq_int (Br I q NT)
   | str j=>obtain ⟨e,rfl⟩:=d;exact PySem.EqMixed.eq_int_str (Br I q (by simp))
   | _=>exact absurd (show false=true from f) DA
 | str i=>
   obtain ⟨t,rfl⟩:=g;cases y with
   | non=>cases d;exact PySem.EqNone.eq_str_none (Br I q (by simp))
   | bl j=>cases d;exact PySem.EqMixed.eq_str_bool (Br I q (by simp))
   | int j=>obtain ⟨e,rfl⟩:=d;exact PySem.EqMixed.eq_str_int (Br I q (by simp))
   | str j=>obtain ⟨e,rfl⟩:=d;exact eq_str (Br I q NV)
   | _=>exact absurd (show false=true from f) DA
 | byt i=>
   obtain ⟨t,rfl⟩:=g;cases y with
   | byt j=>obtain ⟨e,rfl⟩:=d;exact W.eq_bytes (Br I q NW)
   | _=>exact absurd (show false=true from f) DA
 | _=>cases y <;> exact absurd (show false=true from f) DA
theorem FE:OpR X (compareOp .NotEq) aM:=by
 intro k s m H x y v u Q I g d h;obtain ⟨f,q⟩:=h;cases x with
 | non=>
   cases g;cases y with
   | non=>cases d;exact PySem.EqNone.ne_none_none (Br I q (by simp))
   | bl j=>cases d;exact PySem.EqNone.ne_none_bool (Br I q (by simp))
   | int j=>obtain ⟨e,rfl⟩:=d;exact PySem.EqNone.ne_none_int (Br I q (by simp))
   | str j=>obtain ⟨e,rfl⟩:=d;exact PySem.EqNone.ne_none_str (Br I q (by simp))
   | _=>exact absurd (show false=true from f) DA
 | bl i=>
   cases g;cases y with
   | non=>cases d;exact PySem.EqNone.ne_bool_none (Br I q (by simp))
   | bl j=>cases d;exact ne_bool (Br I q (congrArg not NU))
   | str j=>obtain ⟨e,rfl⟩:=d;exact PySem.EqMixed.ne_bool_str (Br I q (by simp))
   | _=>exact absurd (show false=true from f) DA
 | int i=>
   obtain ⟨t,rfl⟩:=g;cases y with
   | non=>cases d;exact PySem.EqNone.ne_int_none (Br I q (by simp))
   | int j=>obtain ⟨e,rfl⟩:=d;exact ne_int (Br I q (congrArg not NT))
   | str j=>obtain ⟨e,rfl⟩:=d;exact PySem.EqMixed.ne_int_str (Br I q (by simp))
   | _=>exact absurd (show false=true from f) DA
 | str i=>
   obtain ⟨t,rfl⟩:=g;cases y with
   | non=>cases d;exact PySem.EqNone.ne_str_none (Br I q (by simp))
   | bl j=>cases d;exact PySem.EqMixed.ne_str_bool (Br I q (by simp))
   | int j=>obtain ⟨e,rfl⟩:=d;exact PySem.EqMixed.ne_str_int (Br I q (by simp))
   | str j=>obtain ⟨e,rfl⟩:=d;exact ne_str (Br I q (congrArg not NV))
   | _=>exact absurd (show false=true from f) DA
 | byt i=>
   obtain ⟨t,rfl⟩:=g;cases y with
   | byt j=>obtain ⟨e,rfl⟩:=d;exact W.ne_bytes (Br I q (congrArg not NW))
   | _=>exact absurd (show false=true from f) DA
 | _=>cases y <;> exact absurd (show false=true from f) DA
def Dt:OpR X (compareOp .Lt) (a8 λi j=>.bl (decide (i<j))):=Iz λ_ _ _ _ _ _ _ q=>lt_int q
def NX:OpR X (compareOp .LtE) (a8 λi j=>.bl (decide (i<=j))):=Iz λ_ _ _ _ _ _ _ q=>le_int q
def EQ:OpR X (compareOp .Gt) (a8 λi j=>.bl (decide (j<i))):=Iz λ_ _ _ _ _ _ _ q=>gt_int q
def NY:OpR X (compareOp .GtE) (a8 λi j=>.bl (decide (j<=i))):=Iz λ_ _ _ _ _ _ _ q=>ge_int q
def JA:OpR X (compareOp .Is) (λx y H Q=>y=.non/\Q (.bl (decide (x=.non))) H):=by
 intro d s g H x y v u Q I e f h;obtain ⟨rfl,q⟩:=h;cases f;refine is_none_gen (Br I q ?_)
 cases x <;> first
  | (cases e;rfl)
  | (obtain ⟨t,rfl⟩:=e;rfl)
def NZ:OpR X (compareOp .IsNot) (λx y H Q=>y=.non/\Q (.bl (!decide (x=.non))) H):=by
 intro d s g H x y v u Q I e f h;obtain ⟨rfl,q⟩:=h;cases f;refine isnot_none_gen (Br I q ?_)
 cases x <;> first
  | (cases e;rfl)
  | (obtain ⟨t,rfl⟩:=e;rfl)
def T' (b:Expr) {d:CmpOp} (h:d≠.In:=by decide) (e:d≠.NotIn:=by decide):behindInMarks d b=false:=by
 have f:(d == CmpOp.In)=false:=by cases d <;> first | rfl | exact absurd rfl h
 have g:(d == CmpOp.NotIn)=false:=by cases d <;> first | rfl | exact absurd rfl e
 cases b <;> simp [behindInMarks,f,g]
def Fx {e:CmpOp} {r:R2} (f:OpR X (compareOp e) r) (g:PE X a ta) (i:PE X b tb) (j:behindInMarks e b=false):PE X (.Compare a [e] [b] pos) (B_ r ta tb):=by
 intro d s k H Q I h;exact wpAny_Compare1 (Kf g i I h λv u m x y n o p w q=>f d m k n x y v u Q o p w q) j
def As (t:TE):TT:=λd H Q=>t d H λx e=>∃ k,x=.bl k/\Q k e
def Uv {f:CmpOp} {r:R2} (i:OpR X (compareOp f) r) (j:PE X a ta) (m:PE X b tb) (n:behindInMarks f b=false):PT X (.Compare a [f] [b] pos) (As (B_ r ta tb)):=by
 intro d s g H Q I h
 refine wpAny_isTrue_Compare1 (F_ (j d s g H _ I h) λv o ⟨x,p,q,w,A⟩=>F_ (m d o g p _ q A) λu B ⟨y,C,D,E,F⟩=>
  F_ (i d B g C x y v u _ D w E F) λc M ⟨z,G,J,K,k,e,L⟩=>?_) n
 subst e;cases K;exact wpAny_truthy_bool ⟨G,J,L⟩
def Kg (r f:R2) (ta tb tc:TE):TE:=λd H Q=>ta d H λx g=>tb d g λy h=>r x y h λz e=>∃ k,z=.bl k/\
 (if k=true then tc d e λi j=>f y i j Q else Q (.bl false) e)
theorem Uw {j g:CmpOp} {r n:R2} (A:OpR X (compareOp j) r) (m:OpR X (compareOp g) n) (B:PE X a ta) (C:PE X b tb) (D:PE X c tc)
  (E:lastMarks [j,g] [b,c]=false:=by with_unfolding_all rfl):PT X (.Compare a [j,g] [b,c] pos) (As (Kg r n ta tb tc)):=by
 intro f s i H Q I h
 refine isTrue_chain (F_ (B f s i H _ I h) λv F ⟨x,G,J,K,L⟩=>test_link (F_ (C f F i G _ J L) λu M ⟨y,N,O,o,P⟩=>
  F_ (A f M i N x y v u _ O K o P) λd R ⟨z,p,q,S,k,e,w⟩=>?_)) E
 subst e;cases S;refine wpAny_truthy_bool ?_;cases k with
 | false=>
   obtain ⟨k',T,U⟩:=w;cases T;exact ite_ff ⟨p,q,U⟩
 | true=>
   refine ite_tt (test_last (F_ (D f R i p _ q w) λW Y ⟨Z,H4,I4,r4,q4⟩=>F_ (m f Y i H4 y Z u W _ I4 o r4 q4) λd' s5 ⟨z2,H5,I5,r5,k2,e2,q5⟩=>?_));subst e2;cases r5;exact wpAny_truthy_bool ⟨H5,I5,q5⟩
def Ux (K:W.Frag) (x:V) (H:Hp) (k:Bool):Prop:=
 match x with
 | .non=>k=false
 | .bl b=>k=b
 | .int i=>k=(i != 0)
 | .str y=>y.length<=sizeLine/\k=((y.length:Int) != 0)
 | .byt y=>y.size<=sizeLine/\k=((y.size:Int) != 0)
 | .ref p=>(∃ d,SqL K H p d/\k=!d.isEmpty)\/(∃ d,SqT K H p d/\k=!d.isEmpty)\/∃ e,H p=some (.dK e)/\k=!e.isEmpty
 | _=>False
def Uy {κ:Type} {kvs:List (κ×V)} {d:List (κ×Value)} (r:KV kvs d):(!d.isEmpty)=!kvs.isEmpty:=by
 cases r <;> rfl
def Na {xs:dz} {its:dE} (r:Vals xs its):(!its.toArray.isEmpty)=!xs.isEmpty:=by
 cases r <;> simp
def Fy:(sizeLine:Nat)<2 ^ 63:=by rw [sizeLine_eq];decide
theorem Uz:Ur X (λx H Q=>∃ k,Ux X.K x H k/\Q k H):=by
 intro A s E H x v Q I n h;obtain ⟨k,e,q⟩:=h;have hl:=Fy;have F:sizeLine=16777216:=sizeLine_eq;cases x with
 | non=>
   cases n;have d:k=false:=e;subst d;exact truthy_none ⟨H,I,q⟩
 | bl b=>
   cases n;have d:k=b:=e;subst d;exact wpAny_truthy_bool ⟨H,I,q⟩
 | int i=>
   obtain ⟨t,rfl⟩:=n;have d:k=(i != 0):=e;subst d;exact PySem.P.truthy_int ⟨H,I,q⟩
 | str y=>
   obtain ⟨t,rfl⟩:=n;obtain ⟨C,d⟩:y.length<=sizeLine/\k=((y.length:Int) != 0):=e;subst d;exact PySem.P.truthy_str ⋯ ⟨H,I.tok _,q⟩
 | byt y=>
   obtain ⟨t,rfl⟩:=n;obtain ⟨C,d⟩:y.size<=sizeLine/\k=((y.size:Int) != 0):=e;subst d;exact W.truthy_bytes ⋯ ⟨H,I.tok _,q⟩
 | ref p=>
   cases n;have d:(∃ j,SqL X.K H p j/\k=!j.isEmpty)\/(∃ j,SqT X.K H p j/\k=!j.isEmpty)\/∃ f,H p=some (.dK f)/\k=!f.isEmpty:=e;rcases d with ⟨j,o,d⟩ | ⟨j,o,d⟩ | ⟨f,o,d⟩
   ·subst d;obtain ⟨w,r,z,B⟩:=I.list o;have g:=r.length;exact wpAny_truthy_list z.isList (by simp only [BX];omega) ⟨H,I.tok _,by rw [Na r];exact q⟩
   ·subst d;obtain ⟨w,r,z,B⟩:=I.tuple o;have g:=r.length;exact truthy_tuple z (by simp only [BX];omega) ⟨H,I.tok _,by rw [Na r];exact q⟩
   ·subst d;obtain ⟨B,D,u,r,m⟩:f.length<=sizeLine/\(p == sysModules)=false/\∃ u,KV f u/\s.heap.DictOf (FA X.prog X.w) p u:=I.hok p _ o;have g:f.length=u.length:=Paired.length r;exact wpAny_truthy_dict D m ⋯ ⟨H,I.tok _,by rw [Uy r];exact q⟩
 | _=>exact (show False from e).elim
theorem ER {x:V} {d:dE} (r:Vals [x] d):∃ u,d=[u]/\RelV x u:=by
 cases r with
 | cons e f=>cases f;exact ⟨_,rfl,e⟩
theorem vals2 {x y:V} {d:dE} (r:Vals [x,y] d):∃ u e,d=[u,e]/\RelV x u/\RelV y e:=by
 cases r with
 | cons f g=>
   cases g with
   | cons h i=>cases i;exact ⟨_,_,rfl,f,h⟩
def U0:Cp X (.builtin "abs") (λd H Q=>∃ i,d=[.int i]/\Q (.int (if i<0 then -i else i)) H):=by
 intro e s f H d g Q I r h;obtain ⟨i,rfl,q⟩:=h;obtain ⟨u,rfl,t,rfl⟩:=ER r;exact call_abs_int λu j=>⟨.int (if i<0 then -i else i),H,I.tok _,⟨_,rfl⟩,q⟩
def U3 (g:X.calm=true):Cp X (.builtin "max") (λe H Q=>∃ i j,e=[.int i,.int j]/\Q (.int (if j > i then j else i)) H):=by
 intro f s m H e n Q I r h;obtain ⟨i,j,rfl,q⟩:=h;obtain ⟨u,o,rfl,⟨t,rfl⟩,⟨p,rfl⟩⟩:=vals2 r;refine max_two_ints (I.ok.hd g) λv w k=>⟨_,H,I.kept k,?_,q⟩;by_cases d:j > i
 ·rw [sZ d,sZ d];exact ⟨_,rfl⟩
 ·rw [sY d,sY d];exact ⟨_,rfl⟩
def U4:Cp X (.type "int") (λd H Q=>(∃ i,d=[.int i]/\Q (.int i) H)\/∃ k,d=[.bl k]/\Q (.int (if k then 1 else 0)) H):=by
 intro e s g H d j Q I r h;rcases h with ⟨i,rfl,q⟩ | ⟨k,rfl,q⟩
 ·obtain ⟨u,rfl,t,rfl⟩:=ER r;exact call_int_int ⟨.int i,H,I,⟨_,rfl⟩,q⟩
 ·obtain ⟨u,rfl,f⟩:=ER r;cases f;exact call_int_bool ⟨.int (if k then 1 else 0),H,I.tok _,⟨_,rfl⟩,q⟩
end
structure Room (k:Nat) (A:Around):Prop where
 hd:A.handled=none
 dp:A.depth+3*k+105<recursionLimit
 un:A.units+16*k+200<cLine
def Room.mono {j k:Nat} {A:Around} (r:Room k A) (h:j<=k):Room j A:=⟨r.hd,by have:=r.dp;omega,by have:=r.un;omega⟩
def Room.deeper {k:Nat} {A:Around} (r:Room (k+1) A) (a:Env):Room k (A.deeper a):=
 ⟨r.hd,by have:=r.dp;show A.depth+1+3*k+105<_;omega,by have:=r.un;show A.units+3+16*k+200<_;omega⟩
def Room.depth {k:Nat} {A:Around} (r:Room k A):A.depth<recursionLimit:=by have:=r.dp;omega
def Room.units {k:Nat} {A:Around} (r:Room k A):A.units+64<cLine:=by have:=r.un;omega
def Room.units0 {k:Nat} {A:Around} (r:Room k A):A.units<cLine:=by have:=r.un;omega
def AC:TA:=λ_ H Q=>Q [] H
def AB (b:TE) (tr:TA):TA:=λa H Q=>b a H λx c=>tr a c λd e=>Q (x::d) e
section
variable {X:Cx} {e:Expr} {es:dL} {te:TE} {t:TA} {pos:Pos}
def AL:PA X [] AC:=λ_ _ _ _ H Q I h=>Calls.spliced_nil ⟨[],H,I,.nil,h⟩
def AE (c:PE X e te) (d:PA X es t) (f:starEach (e::es) X.env=(false,eval e X.env)::starEach es X.env:=by rfl):PA X (e::es) (AB te t):=by
 intro pos a s b H Q I h;rw [f];show wpAny _ _ (spliced ((false,eval e X.env)::backTo pos (starEach es X.env))) _ _ s;refine Calls.spliced_cons (F_ (c a s b H _ I h) λu g ⟨x,i,j,k,m⟩=>?_);exact F_ (d pos a g b i _ j m) λv w ⟨n,o,p,q,r⟩=>⟨x::n,o,p,.cons k q,r⟩
def A5 (t:TA):TE:=λc H Q=>t c H λa b=>a.length<=sizeLine/\∀ p,b p=none->Q (.ref p) (upd b p (.tup a))
def BT (t:TA):TE:=λc H Q=>t c H λa b=>a.length<=sizeLine/\∀ p,b p=none->Q (.ref p) (upd b p (.lst a))
def BY {x1} (h:PA X es t):PE X (.Tuple es x1 pos) (A5 t):=by
 intro a s g H Q I i;refine wpAny_Tuple_spliced (F_ (h pos a s g H _ I i) λj c ⟨k,d,f,r,z,q⟩=>⟨by rw [<-r.length];exact z,?_⟩);have m:d c.heap.objs.size=none:=f.hok.fresh (AS _);refine ⟨.ref c.heap.objs.size,upd d c.heap.objs.size (.tup k),f.laid (t':=c.toks) (λb u e=>Heap.get?_push_of_some _ e) (AS _) ?_,rfl,q _ m⟩;exact ⟨z,j,r,⟨_,Heap.get?_push_size _ rfl,rfl,_,rfl⟩⟩
def CW (h:PA X es t):PE X (.List es pos) (BT t):=by
 intro a s g H Q I i;refine wpAny_List_spliced (F_ (h pos a s g H _ I i) λj c ⟨k,d,f,r,z,q⟩=>⟨by rw [<-r.length];exact z,?_⟩);have m:d c.heap.objs.size=none:=f.hok.fresh (AS _);refine ⟨.ref c.heap.objs.size,upd d c.heap.objs.size (.lst k),f.laid (t':=c.toks) (λb u e=>Heap.get?_push_of_some _ e) (AS _) ?_,rfl,q _ m⟩;exact ⟨z,j,0,r,Heap.get?_push_size _ rfl⟩
end
noncomputable abbrev Sp:=dz->Hp->VK->XK->Prop
noncomputable abbrev aO:=List Env->Hp->Shared->XK->dF
structure Env0 (P:Program) (w:World) (K:W.Frag) (mg:dJ) (base:Heap) (A:Around) (outer:List Env) (s:Shared) (H:Hp):Prop where
 frames:A.frames=some outer
 mod:Mod K mg base
 bs:∀ b o,base.get? b=some o->s.heap.get? b=some o/\H b=none
 bsz:base.objs.size<=s.heap.objs.size
 funs:s.heap.FunFrames base outer
 frf:∀ b∈az outer,H b=none
 hok:HOk P w H s.heap
 bare:AllBare s.gens
 seer:base.NoSeer
 tree:(model P w).prog.given.tree=none
def CE (a:List Env) (P:Program) (w:World) (H:Hp) (s:Shared) (Q:VK) (u:Value) (s':Shared):Prop:=
 ∃ v b,s'.os=s.os/\AllBare s'.gens/\Un (az a) [] H b s.heap s'.heap/\HOk P w b s'.heap/\RelV v u/\Q v b
def CR (CX:aO) (a:List Env) (P:Program) (w:World) (H:Hp) (s:Shared) (Q:VK) (E:XK) (r:Result) (s':Shared):Prop:=
 match r with
 | .ok (.ret u)=>CE a P w H s Q u s'
 | .ok _=>False
 | .error e=>CX a H s E e s'
structure FnOk (P:Program) (w:World) (K:W.Frag) (mg:dJ) (base:Heap) (CX:aO) (k:Nat) (f:Addr) (fd:FuncData) (ps:dM) (sp:Sp):Prop where
 len:∀ vs H Q E,sp vs H Q E->vs.length=ps.length
 run:∀ (A:Around) (outer:List Env) (s:Shared) (H:Hp) (args:Args) (us:dE) (vs:dz) (Q:VK) (E:XK),Room k A->Env0 P w K mg base A outer s H->BindsTo s fd args (ps.zip us)->Vals vs us->sp vs H Q E->
  codeAny (model P w) A (.call (.ref f) args) (CR CX outer P w H s Q E) s
section
variable {X:Cx} {pins:dH} {σ:St} {H:Hp} {s s':Shared}
def Inv.env0 (I:Inv X pins σ H s):Env0 X.prog X.w X.K X.mg X.base X.A X.stack s H:=
 ⟨I.ok.frames,I.ok.mod,I.bs,Bx I.ok.bsz I.sz,I.stack,I.stkFree,I.hok,I.bare,I.ok.seer,I.ok.tree⟩
def Inv.after {Q:VK} {u:Value} (I:Inv X pins σ H s) (h:CE X.stack X.prog X.w H s Q u s'):EP X pins σ Q u s':=by
 obtain ⟨v,f,os,a,i,c,r,q⟩:=h;obtain ⟨j,g,d,t,e⟩:=s';obtain rfl:e=s.os:=os;exact ⟨v,f,I.call (h':=j) (g':=g) (d':=d) (t':=t) (ch:=[]) i c a (λb z=>absurd z (by simp)),r,q⟩
end
def AK (sp:Sp) (a:dz) (E:XK) (t:TA):TE:=λb H Q=>t b H λc d=>sp (c++a) d Q E
def Binds (K:W.Frag) (c:FuncData) (ps:dM) (b:dE):Prop:=
 ∀ (s:Shared) (a:dE),K.In s.heap->(a++b).length=ps.length->BindsTo s c ⟨a,[]⟩ (ps.zip (a++b))
def Binds.all {K:W.Frag} {b:FuncData} {ps:dM} (h:∀ a:dE,a.length=ps.length->bindArgs b ⟨a,[]⟩=pure (ps.zip a)):Binds K b ps []:=λs a _ hl=>by
 rw [List.append_nil] at hl ⊢;exact .of_eq (h a hl)
def ag (CX:aO) (X:Cx) (E:XK):Prop:=∀ (a:dH) (c:St) (H:Hp) (s:Shared) (e:Value) (b:Shared),Inv X a c H s->CX X.stack H s E e b->X.xe e b
section
variable {X:Cx} {CX:aO} {k:Nat} {f C:Addr} {fd:FuncData} {ps:dM} {sp:Sp} {dvs:dz} {ds:dE} {E:XK} {x m:Str} {p pos apos:Pos} {e o:Expr} {es:dL} {ta:TE} {t:TA}
theorem U5 {a:dH} {σ:St} {H:Hp} {s:Shared} {Q:VK} {b:dE} {d:dz} (F:FnOk X.prog X.w X.K X.mg X.base CX k f fd ps sp) (i:Room k X.A) (j:Binds X.K fd ps ds) (n:Vals dvs ds) (q:ag CX X E)
  (I:Inv X a σ H s) (r:Vals d b) (h:sp (d++dvs) H Q E):wpAny (model X.prog X.w) X.A (call (.ref f) b) (EP X a σ Q) X.xe s:=by
 have g:Vals (d++dvs) (b++ds):=r.append n;have hl:(b++ds).length=ps.length:=by rw [<-g.length];exact F.len _ _ _ _ h
 refine wpAny_call (codeAny_mono (F.run X.A X.stack s H ⟨b,[]⟩ (b++ds) (d++dvs) Q E i I.env0 (j s b I.kIn hl) g h) λr v c=>?_);cases r with
 | error e=>exact q a σ H s e v I c
 | ok w=>
   cases w with
   | ret u=>exact I.after c
   | next=>exact False.elim c
   | brk=>exact False.elim c
   | cont=>exact False.elim c
def U6 (F:FnOk X.prog X.w X.K X.mg X.base CX k f fd ps sp) (g:Room k X.A) (i:Gl X x) (j:X.mg x=some (.ref f)) (hk:W.keepIn X.K (.ref f)=true) (n:Binds X.K fd ps ds) (u:Vals dvs ds) (v:ag CX X E)
  (w:PA X (e::es) t) (b:(x == ("__debug__" : Str))=false:=by decide) (y:starEach (e::es) X.env=(false,eval e X.env)::starEach es X.env:=by rfl) (c:(backTo pos (starEach es X.env)).any (·.1)=false:=by rfl) :
  PE X (.Call (.Name x p) (e::es) [] pos) (AK sp dvs E t):=by
 intro a s z H Q I h;refine wpAny_Call_Name_kw (NL I i j ?_ b);refine W.callWith_K (h₀:=X.base) I.ok.mod.kin hk (F_ (w pos a s z H _ I h) λA B ⟨D,G,d,r,q⟩=>⟨d.kIn,?_⟩) y c;exact U5 F g n u v d r q
end
def PK (X:Cx) (b:List Keyword) (t:TA):Prop:=
 ∀ (c:Pos) (a:dH) (s:Shared) (d:St) (H:Hp) (Q:dz->Hp->Prop),Inv X a d H s->t d H Q->wpAny (model X.prog X.w) X.A (evalAll ((backToKw c (keywordEach b X.env)).map (·.2))) (AP X a d Q) X.xe s
section
variable {X:Cx} {CX:aO} {k:Nat} {f C:Addr} {fd:FuncData} {ps ks:dM} {sp:Sp} {E:XK} {x m:Str} {p pos apos kpos:Pos} {e o:Expr} {es:dL} {kws:List Keyword} {te ta:TE} {t tk:TA} {nm:Option Str}
def U7:PK X [] AC:=λ_ _ _ _ H Q I h=>wpAny_evalAll_nil ⟨[],H,I,.nil,h⟩
def U8 (c:PE X e te) (d:PK X kws t):PK X (⟨nm,e,kpos⟩::kws) (AB te t):=by
 intro pos a s b H Q I h;show wpAny _ _ (evalAll ((do let v <-eval e X.env;standAt pos;pure v)::(backToKw pos (keywordEach kws X.env)).map (·.2))) _ _ s;refine wpAny_evalAll_cons (rD (F_ (c a s b H _ I h) λu g ⟨x,i,j,n,q⟩=>rD (wpAny_standAt (rE ?_))));exact F_ (d pos a g b i _ j q) λB D ⟨r,w,y,z,A⟩=>⟨x::r,w,y,.cons n z,A⟩
variable {g:dE->dE->dE} {gV:dz->dz->dz}
end
structure FnScope (N P:dM) (sc:Scope):Prop where
 kind:sc.kind=.function
 co:sc.isCoroutine=false
 gen:sc.isGenerator=false
 nd:N.Nodup
 pre:N.take P.length=P
 par:∀ x∈P,sc.names.lookup x=some .local\/sc.names.lookup x=some .cell
 nofree:∀ y∈sc.names,y.2≠.free
theorem Nc {kindOf:Str->Option NameKind} {x:Str}:∀ {a:List (Str×Value)} {m:dJ},(∀ v,(x,v)∉a)->bindL kindOf a m x=m x
 | [],_,_=>rfl
 | (n,v)::r,m,h=>by
   unfold bindL;rw [Nc λw hw=>h w (Bp _ hw)];split
   ·have:x≠n:=by rintro rfl;exact h v BS
    simp [this]
   ·rfl
theorem Nd {kindOf:Str->Option NameKind} {x:Str}:∀ {a:List (Str×Value)} {m:dJ},(∀ v,(x,v)∉a)->bindC kindOf a m x=m x
 | [],_,_=>rfl
 | (n,v)::r,m,h=>by
   unfold bindC;rw [Nd λw hw=>h w (Bp _ hw)];split
   ·rfl
   ·have:x≠n:=by rintro rfl;exact h v BS
    simp [this]
theorem Ng {kindOf:Str->Option NameKind} {x:Str} {v:Value}:∀ {P:dM} {a:dE} {i:Nat} {m:dJ},P.Nodup->P[i]?=some x->a[i]?=some v->kindOf x=some .local->
  bindL kindOf (P.zip a) m x=some v
 | [],_,_,_,_,h,_,_=>by simp at h
 | _::_,[],_,_,_,_,h,_=>by simp at h
 | p::P,w::a,0,m,d,b,c,hk=>by
   simp at b c;subst b;subst c;show bindL kindOf ((p,w)::P.zip a) m p=_;unfold bindL;rw [Nc λv hv=>(List.nodup_cons.mp d).1 (List.of_mem_zip hv).1,sZ hk];simp
 | p::P,w::a,i+1,m,d,b,c,hk=>by
   show bindL kindOf ((p,w)::P.zip a) m x=_;unfold bindL;exact Ng (i:=i) (List.nodup_cons.mp d).2 (by simpa using b) (by simpa using c) hk
theorem Nh {kindOf:Str->Option NameKind} {x:Str} {v:Value}:∀ {P:dM} {a:dE} {i:Nat} {m:dJ},P.Nodup->P[i]?=some x->a[i]?=some v->kindOf x≠some .local->
  bindC kindOf (P.zip a) m x=some v
 | [],_,_,_,_,h,_,_=>by simp at h
 | _::_,[],_,_,_,_,h,_=>by simp at h
 | p::P,w::a,0,m,d,b,c,hk=>by
   simp at b c;subst b;subst c;show bindC kindOf ((p,w)::P.zip a) m p=_;unfold bindC;rw [Nd λv hv=>(List.nodup_cons.mp d).1 (List.of_mem_zip hv).1,sY hk];simp
 | p::P,w::a,i+1,m,d,b,c,hk=>by
   show bindC kindOf ((p,w)::P.zip a) m x=_;unfold bindC;exact Nh (i:=i) (List.nodup_cons.mp d).2 (by simpa using b) (by simpa using c) hk
noncomputable def start (N:dM) (a:dz):St:=a.map some++List.replicate (N.length - a.length) none
noncomputable def F1 (CX:aO) (P:Program) (w:World) (K:W.Frag) (i:dJ) (d:Heap) (N:dM) (c:Str) (a:Scope) (f:Addr) (h:Value) (A:Around) (b:List Env) (s:Shared) (H:Hp) (E:XK):Cx where
 prog:=P
 w:=w
 K:=K
 mg:=i
 base:=d
 A:=A.deeper (envOfC c a s.heap.objs.size f h)
 N:=N
 s₀:=s
 H₀:=H
 env:=envOfC c a s.heap.objs.size f h
 outer:=b
 stack:=envOfC c a s.heap.objs.size f h::b
 ex:=[]
 calm:=true
 fn:=λ_=>true
 pn:=[]
 xe:=λe j=>wpAny (model P w) (A.deeper (envOfC c a s.heap.objs.size f h)) (leaving (envOfC c a s.heap.objs.size f h) e) (λ_ g=>CX b H s E e g) (λk g=>CX b H s E k g) j
def Ni {a:Scope} {n:Nat} {x:Str} (h:a.names.lookup x=some .cell):∃ c,(cellsFrom n a.names []).lookup x=some c:=by
 have q:=W.cellsFrom_some a.names n [] (.inl h);exact Option.isSome_iff_exists.mp q
def U9 {CX:aO} {P:Program} {w:World} {K:W.Frag} {O:dJ} {B:Heap} {N ps:dM} {g:Str} {d:Scope} {f:Addr} {G:Value} {A:Around} {m:List Env} {s T:Shared} {H:Hp} {E:XK} {Q:dE} {C:dz}
  (S:FnScope N ps d) (X:A.handled=none) (R:(A.deeper (envOfC g d s.heap.objs.size f G)).depth+Builtin.pylongFrames<recursionLimit) (j:Env0 P w K O B A m s H) (hl:C.length=ps.length) (r:Vals C Q)
  (x:InCallC s s.heap.objs.size (bindL (envOfC g d s.heap.objs.size f G).kindOf (ps.zip Q) λ_=>none) (cellsFrom (s.heap.objs.size+1) d.names []) (bindC (envOfC g d s.heap.objs.size f G).kindOf (ps.zip Q) λ_=>none) T) :
  Inv (F1 CX P w K O B N g d f G A m s H E) [] (start N C) H T:=by
 have Y:ps.length<=N.length:=by have:=congrArg List.length S.pre;rw [CJ] at this;omega
 obtain ⟨L,tk,rfl,hk⟩:=x.done;have D:∀ b:Addr,b∉(F1 CX P w K O B N g d f G A m s H E).ex:=λb z=>absurd (show b∈([]:dN) from z) (by simp)
 refine ⟨⟨j.mod,S.kind,rfl,rfl,AS _,λy z c L o=>?_,λy F=>?_,λy c _ h=>?_,λ_=>X,Around.frames_deeper j.frames,.inr ⟨rfl,rfl⟩,λb z=>absurd z (D b),j.bs,j.bsz,λb _ _=>D b,λb z=>absurd z (D b),j.funs,j.frf,j.seer,j.tree,λs' I=>PySem.PylongRoom.of (j.mod.nolimit.keeps I) R (PySem.SeerAt.of (j.seer.keeps I) j.tree (Around.frames_deeper j.frames) S.gen S.co rfl rfl)⟩,
  rfl,j.bare,Un.kept hk,⟨_,x.toInCall.ns,λi y v L o h3=>?_⟩,λy c h=>⟨_,x.cell y c h⟩,j.hok.fresh (AS _),λy c h=>?_,λp hp=>absurd (show p∈([]:dH) from hp) (by simp),j.hok.kept hk,?_⟩
 ·exact name_of_addr x.apart (PySem.mem_of_lookup L) (PySem.mem_of_lookup o)
 ·have F:d.names.lookup y=some .cell\/d.names.lookup y=some .free:=F;rcases F with F | F
  ·exact Ni F
  ·exact absurd rfl (S.nofree _ (PySem.mem_of_lookup F))
 ·exact C9 (x.above y c (PySem.mem_of_lookup h))
 ·have M:i<C.length:=by
   unfold start at o;by_cases M:i<C.length
   ·exact M
   ·rw [List.getElem?_append_right (by simpa using M)] at o;rw [FV] at o;split at o <;> cases o
  have Z:C[i]?=some v:=by
   unfold start at o;rw [List.getElem?_append_left (by simpa using M),Ae] at o;cases e:C[i]? with
   | none=>rw [e] at o;cases o
   | some a=>rw [e] at o;cases o;rfl
  obtain ⟨u,U,rv⟩:=r.get Z
  have hp:ps[i]?=some y:=by
   rw [<-S.pre,List.getElem?_take_of_lt ⋯];exact L
  have J:ps.Nodup:=by rw [<-S.pre];exact S.nd.sublist (List.take_sublist _ _)
  refine ⟨u,rv,?_⟩;rcases S.par y (Bu hp) with k | k
  ·exact .inl ⟨k,Ng J hp U k⟩
  ·obtain ⟨c,e⟩:=Ni (n:=s.heap.objs.size+1) k;refine .inr ⟨.inl k,c,e,?_⟩;have q:=x.cell y c e;rw [Nh J hp U (by show d.names.lookup y≠_;rw [k];decide)] at q;exact q
 ·exact j.hok.fresh (C9 (x.above y c (PySem.mem_of_lookup h)))
 ·unfold start;show _=N.length;rw [Cr,AJ,List.length_replicate];omega
theorem VA {CX:aO} {P:Program} {w:World} {K:W.Frag} {R:dJ} {h:Heap} {k:Nat} {f:Addr} {z d:Str} {i:Arguments} {j:List Stmt} {a:Scope} {dV kV G pm g ct oc:Value} {an od:Option Addr}
  {U:Array (Option Value)} {N ps:dM} {sp:Sp} (lk:K.lookup f=some ⟨oc,od,.func (W.fnOf z d i j a dV kV G pm an g ct),U⟩) (X:W.codeIn K g d=true) (S:FnScope N ps a)
  (len:∀ m H Q E,sp m H Q E->m.length=ps.length)
  (C:∀ (A:Around) (c:List Env) (s:Shared) (H:Hp) (m:dz) (Q:VK) (E:XK),Room k (A.deeper (envOfC d a s.heap.objs.size f g))->sp m H Q E->
   ∃ t,PSs (F1 CX P w K R h N d a f g A c s H E) j t/\t { nx:=λ_ B=>Q .non B,rt:=Q } (start N m) H) :
  FnOk P w K R h CX (k+1) f (W.fnOf z d i j a dV kV G pm an g ct) ps sp:=by
 refine ⟨len,λA c s H a0 us m Q E T L hb r M=>?_⟩;have hl:=len _ _ _ _ M;have KX:K.In s.heap:=L.mod.kin.keeps λb o e=>(L.bs b o e).1;have Y:s.heap.NoLimit:=L.mod.nolimit.keeps λb o e=>(L.bs b o e).1
 have D:∀ y∈ps.zip us,a.names.lookup y.1=some .local\/(a.names.lookup y.1=some .cell/\((cellsFrom (s.heap.objs.size+1) a.names []).lookup y.1).isSome=true):=λ⟨n,v⟩ hy=>by
  rcases S.par n (List.of_mem_zip hy).1 with q | q
  ·exact .inl q
  ·exact .inr ⟨q,W.cellsFrom_some _ _ _ (.inl q)⟩
 refine codeAny_call_function T.depth (KX _ _ lk) rfl S.co S.gen rfl (W.codeRec_of KX X) (hb _ _ _ _ ?_);refine wpAny_newFunctionEnv_cells S.kind D λa1 he s1 x=>?_;subst he;refine ⟨Y.keeps x.toInCall.keep,codeAny_func ?_⟩;obtain ⟨t,ht,hq⟩:=C A c s H m Q E (T.deeper _) M;have I:Inv (F1 CX P w K R h N d a f g A c s H E) [] (start N m) H s1:=U9 S T.hd (by have:=(T.deeper (envOfC d a s.heap.objs.size f g)).dp;show _+100<_;omega) L hl r x;refine rF (ht [] s1 (start N m) H _ I hq) (λfl Z F=>?_) λe Z F=>F
 have O:∀ {p:St} {B:Hp} {v:V} {u:Value},Inv (F1 CX P w K R h N d a f g A c s H E) [] p B Z->RelV v u->Q v B->CE c P w H s Q u Z:=
  λ{p B v u} J rv q=>⟨v,B,J.os,J.bare,J.base,J.hok,rv,q⟩
 cases fl with
 | ret u=>
   obtain ⟨v,p,B,J,rv,q⟩:=F;exact O J rv q
 | next=>
   obtain ⟨p,B,J,q⟩:=F;exact O (v:=V.non) (u:=Value.none) J rfl q
 | brk=>
   obtain ⟨_,_,_,q⟩:=F;exact False.elim q
 | cont=>
   obtain ⟨_,_,_,q⟩:=F;exact False.elim q
section
variable {X:Cx} {x:Str} {p pos:Pos} {e:Expr} {es:dL} {t:TA} {id T:String} {r:dz->Hp->VK->Prop}
def I_ (r:dz->Hp->VK->Prop) (t:TA):TE:=λa H Q=>t a H λb c=>r b c Q
def A6 (f:Cp X (.builtin id) r) (g:Gl X x) (i:X.mg x=none) (hv:bootBuiltins x=some (.builtin id)) (j:PA X (e::es) t) (k:x ≠ "__name__" := by decide) (b:(x == ("__debug__" : Str))=false:=by decide)
  (m:starEach (e::es) X.env=(false,eval e X.env)::starEach es X.env:=by rfl) (c:(backTo pos (starEach es X.env)).any (·.1)=false:=by rfl):PE X (.Call (.Name x p) (e::es) [] pos) (I_ r t):=by
 intro a s d H Q I h;refine wpAny_Call_Name_kw (Ek I g i hv ?_ k b);exact PyProof.Rows.callWith_builtin1 (F_ (j pos a s d H _ I h) λn o ⟨q,u,v,w,y⟩=>f a o d u q n Q v w y) m c
def F2 (f:Cp X (.type T) r) (g:Gl X x) (i:X.mg x=none) (hv:bootBuiltins x=some (.type T)) (j:PA X (e::es) t) (k:x ≠ "__name__" := by decide) (b:(x == ("__debug__" : Str))=false:=by decide)
  (m:starEach (e::es) X.env=(false,eval e X.env)::starEach es X.env:=by rfl) (c:(backTo pos (starEach es X.env)).any (·.1)=false:=by rfl):PE X (.Call (.Name x p) (e::es) [] pos) (I_ r t):=by
 intro a s d H Q I h;refine wpAny_Call_Name_kw (Ek I g i hv ?_ k b);exact PyProof.Rows.callWith_type1 (F_ (j pos a s d H _ I h) λn o ⟨q,u,v,w,y⟩=>f a o d u q n Q v w y) m c
end
end L2
namespace HT
open PySem PyProof.Rows
section
variable {prog:Program} {w:World} {A:Around} {E:dF} {s:Shared}
noncomputable def sIx (n d:Nat):Option Int->Nat
 | none=>d
 | some v=>if v<0 then (v+(n:Int)).toNat else min v.toNat n
end
end HT
namespace L2
open PySem PySem.Spec PyProof.Rows
noncomputable abbrev TO:=St->Hp->(Option Int->Hp->Prop)->Prop
def PO (X:Cx) (e:Option Expr) (t:TO):Prop:=
 ∀ (a:dH) (s:Shared) (b:St) (H:Hp) (Q:Option Int->Hp->Prop),Inv X a b H s->t b H Q->
   wpAny (model X.prog X.w) X.A (evalPart e X.env) (λu d=>∃ o c,Inv X a b c d/\IsPart u o/\Q o c) X.xe s
noncomputable def Gc:TO:=λ_ H Q=>Q none H
noncomputable def Fd (t:TE):TO:=λa H Q=>t a H λx b=>∃ i,x=.int i/\Q (some i) b
section
variable {X:Cx} {e:Expr} {te:TE} {lo hi:Option Expr} {tl th:TO} {pos p2:Pos}
def JB:PO X none Gc:=by
 intro a s b H Q I h;rw [evalPart_none];exact rE ⟨none,H,I,.none,h⟩
def F3 (h:PE X e te):PO X (some e) (Fd te):=by
 intro a s b H Q I hw;rw [evalPart_some];refine F_ (h a s b H _ I hw) λu j ⟨x,c,d,f,g⟩=>?_;obtain ⟨i,rfl,q⟩:=g;obtain ⟨t,rfl⟩:=f;exact ⟨some i,c,d,.int i t,q⟩
def cK (X:Cx) (r:V->Option Int->Option Int->Hp->VK->Prop):Prop:=
 ∀ (a:dH) (s:Shared) (b:St) (H:Hp) (x:V) (v c d:Value) (lo hi:Option Int) (f:Addr) (Q:VK),Inv X a b H s->RelV x v->s.heap.IsSliceOf f c d .none->IsPart c lo->IsPart d hi->r x lo hi H Q->
   ∃ T id,typeLookup (.type T) "__getitem__" = pure (some (.builtin id))/\s.TypeIs v T/\wpAny (model X.prog X.w) X.A (getItem v (.ref f)) (EP X a b Q) X.xe s
def bN (r:V->Option Int->Option Int->Hp->VK->Prop) (te:TE) (tl th:TO):TE:=λa H Q=>te a H λx b=>tl a b λl c=>th a c λu d=>r x l u d Q
def HZ {r:V->Option Int->Option Int->Hp->VK->Prop} (n:cK X r) (o:PE X e te) (hl:PO X lo tl) (p:PO X hi th):PE X (.Subscript e (.Slice lo hi none p2) pos) (bN r te tl th):=by
 intro a s g H Q I h;refine Subscript_ (F_ (o a s g H _ I h) λv w ⟨x,y,z,A,B⟩=>?_);refine wpAny_Slice (F_ (hl a w g y _ z B) λj C ⟨l,D,E,F,G⟩=>F_ (p a C g D _ E G) λk c ⟨u,m,J,K,L⟩=>?_);rw [evalPart_none];refine rE ?_;have M:Inv X a g m { c with heap:=c.heap.push { cls:=.type "slice", data:=.fields #[j,k,.none] } }:=J.kept (t':=c.toks) λb R q=>Heap.get?_push_of_some _ q;obtain ⟨T,id,N,O,P⟩:=n a { c with heap:=c.heap.push { cls:=.type "slice", data:=.fields #[j,k,.none] } } g m x v j k l u c.heap.objs.size Q M A (Heap.IsSliceOf.new ..) F K L;show wpAny (model X.prog X.w) X.A (subscriptTail e (.Slice lo hi none p2) v (.ref c.heap.objs.size)) (EP X a g Q) X.xe { c with heap:=c.heap.push { cls:=.type "slice", data:=.fields #[j,k,.none] } };exact tail_any (ops:=[.ref c.heap.objs.size,v]) O N P (by with_unfolding_all rfl)
noncomputable def Cg (xs:dz) (lo hi:Option Int):dz:=(xs.drop (HT.sIx xs.length 0 lo)).take (HT.sIx xs.length xs.length hi - HT.sIx xs.length 0 lo)
def VB (xs:dz) (lo hi:Option Int):(Cg xs lo hi).length<=xs.length:=by
 unfold Cg;rw [CJ,List.length_drop];omega
end
noncomputable def av (n:Nat) (i:Int):Option Nat:=if 0<=i then (if i<n then some i.toNat else none) else if -(n:Int)<=i then some (i+n).toNat else none
noncomputable def O' {a:Type} (xs:List a) (i:Int):Option a:=(av xs.length i).bind λj=>xs[j]?
def Nj {n:Nat} {i:Int} {j:Nat} (h:av n i=some j):seqIndex? i n=some j/\j<n/\-(n:Int)<=i/\i<n:=by
 unfold av at h;by_cases b:0<=i
 ·rw [sZ b] at h;by_cases a:i<n
  ·rw [sZ a] at h;have e:i.toNat=j:=rG h;exact ⟨by rw [seqIndex_of b a,e],⋯,⋯,a⟩
  ·rw [sY a] at h;cases h
 ·rw [sY b] at h;by_cases a:-(n:Int)<=i
  ·rw [sZ a] at h;have e:(i+n).toNat=j:=rG h;exact ⟨by rw [seqIndex_neg ⋯ a,e],⋯,a,⋯⟩
  ·rw [sY a] at h;cases h
theorem Kh {a:Type} {xs:List a} {i:Int} {v:a} (h:O' xs i=some v):∃ j,seqIndex? i xs.length=some j/\xs[j]?=some v/\j<xs.length/\-(xs.length:Int)<=i/\i<xs.length:=by
 unfold O' at h;cases e:av xs.length i with
 | none=>rw [e] at h;cases h
 | some j=>
   rw [e] at h;obtain ⟨b,c,d,f⟩:=Nj e;exact ⟨j,b,h,c,d,f⟩
def F4 {a:Type} {xs:List a} {j:Nat} {v:a} (h:xs[j]?=some v):O' xs (j:Int)=some v:=by
 have b:j<xs.length:=(CT.mp h).1
 have e:av xs.length (j:Int)=some j:=by
  unfold av;rw [sZ ⋯,sZ ⋯];simp
 unfold O';rw [e];exact h
def VC (b:Expr):Prop:=∀ o i,subscripted b false o i=operate [o,i] (getItem o i)
def bP (X:Cx) (r:R2):Prop:=
 ∀ (c a:Expr) (b:dH) (s:Shared) (d:St) (H:Hp) (x y:V) (v u:Value) (Q:VK),Inv X b d H s->RelV x v->RelV y u->r x y H Q->
   subscripted a false v u=operate [v,u] (getItem v u)->wpAny (model X.prog X.w) X.A (subscriptTail c a v u) (EP X b d Q) X.xe s
def MtR (X:Cx) (id:String) (r:V->dz->Hp->VK->Prop):Prop:=
 ∀ (a:dH) (s:Shared) (b:St) (H:Hp) (x:V) (c:dz) (v:Value) (d:dE) (Q:VK),Inv X a b H s->RelV x v->Vals c d->r x c H Q->
   wpAny (model X.prog X.w) X.A (call (.builtin id) (v::d)) (EP X a b Q) X.xe s
section
variable {X:Cx} {a b:Expr} {ta tb:TE} {pos:Pos}
def Bh {r:R2} (d:bP X r) (e:PE X a ta) (f:PE X b tb) (g:VC b):PE X (.Subscript a b pos) (B_ r ta tb):=by
 intro c s i H Q I h;exact Subscript_ (Kf e f I h λv u j x y k m n o q=>d a b c j i k x y v u Q m n o q (g _ _))
def VD (K:W.Frag):R2:=λx y H Q=>∃ p c i v,x=.ref p/\y=.int i/\SqL K H p c/\O' c i=some v/\Q v H
def VE (K:W.Frag):R2:=λx y H Q=>∃ p c i v,x=.ref p/\y=.int i/\SqT K H p c/\O' c i=some v/\Q v H
def Nk:bP X (VD X.K):=by
 intro f g c s o H x y v u Q I D E h A;obtain ⟨p,N,i,z,rfl,rfl,F,G,q⟩:=h;cases D;obtain ⟨t,rfl⟩:=E;obtain ⟨k,r,m,O⟩:=I.list F;obtain ⟨j,e,J,P,K,L⟩:=Kh G;obtain ⟨w,B,rw'⟩:=r.get J;have hl:=r.length;have R:=Fy;have d:EP X c o Q w s:=⟨z,H,I,rw',q⟩;by_cases C:0<=i
 ·have n:i.toNat=j:=by
   rw [seqIndex_of C L] at e;exact rG e
  exact item_listR m.isList C ⋯ (by rw [n];simpa using B) d A
 ·have n:(i+(k.toArray.size:Int)).toNat=j:=by
   rw [seqIndex_neg ⋯ K] at e;rw [BX,<-hl];exact rG e
  exact subscriptTail_builtinR (x:=w) m.isList.typeIs slot_list_getitem.lookup
   (wpAny_getItem_list_neg (Q:=λr M=>r=w/\EP X c o Q r M) m.isList ⋯ (by rw [BX] <;> omega) ⋯ (by rw [n];simpa using B) ⟨rfl,d⟩) A
def VF:bP X (VE X.K):=by
 intro d e c s g H x y v u Q I m n h o;obtain ⟨p,J,i,z,rfl,rfl,A,B,q⟩:=h;cases m;obtain ⟨t,rfl⟩:=n;obtain ⟨C,r,k,K⟩:=I.tuple A;obtain ⟨j,D,E,L,M,N⟩:=Kh B;obtain ⟨w,F,rw'⟩:=r.get E;have hl:=r.length;have O:=Fy;have f:EP X c g Q w s:=⟨z,H,I,rw',q⟩
 exact subscriptTail_builtinR (x:=w) k.typeIs slot_tuple_getitem.lookup
  (getItem_tuple (j:=j) (Q:=λr G=>r=w/\EP X c g Q r G) k ⋯ ⋯ (by rw [BX,<-hl];exact D) (by simpa using F) ⟨rfl,f⟩) o
def VG (its:dE) (n j:Nat) (u:Value):Obj.mapSeq (·.setIfInBounds j u) { cls:=.type "list", data:=.seq its.toArray n }={ cls:=.type "list", data:=.seq (its.set j u).toArray n }:=by
 simp [Obj.mapSeq]
def Inv.lst {c:dH} {σ:St} {H:Hp} {s:Shared} {p:Addr} {xs:dz} (I:Inv X c σ H s) (h:H p=some (.lst xs)) :
  ∃ (its:dE) (n:Nat),Vals xs its/\s.heap.get? p=some { cls:=.type "list", data:=.seq its.toArray n }/\xs.length<=sizeLine:=by
 obtain ⟨z,its,n,r,e⟩:=I.hok p _ h;exact ⟨its,n,r,e,z⟩
def Inv.lstUpd {c:dH} {σ:St} {H:Hp} {s:Shared} {p:Addr} {xs ys:dz} {its its':dE} {n d:Nat} {f:Obj->Obj} (I:Inv X c σ H s) (h:H p=some (.lst xs))
  (k:s.heap.get? p=some { cls:=.type "list", data:=.seq its.toArray n }) (g:f { cls:=.type "list", data:=.seq its.toArray n }={ cls:=.type "list", data:=.seq its'.toArray d }) (r:Vals ys its') (m:ys.length<=sizeLine) (t:Nat) :
  Inv X c σ (upd H p (.lst ys)) { s with heap:=s.heap.update p f,toks:=t }:=by
 have e:(s.heap.update p f).get? p=some { cls:=.type "list", data:=.seq its'.toArray d }:=by
  rw [Heap.get?_update_self f k (by rw [g] <;> rfl),g]
 refine I.write (x:=p) (e:=p) (by rw [h];trivial) (.inl rfl) (λb u o q=>(Heap.get?_update_other _ _ (Ne.symm o)).trans q) ⟨_,e⟩ ?_;exact ⟨m,its',d,r,e⟩
def ED:V->V->V->Hp->(Hp->Prop)->Prop:=λo i v H Q=>∃ p c k j,o=.ref p/\i=.int k/\H p=some (.lst c)/\av c.length k=some j/\Q (upd H p (.lst (c.set j v)))
def Ep:bu X ED:=by
 intro c s z H o i v G J u Q I A B C h;obtain ⟨p,D,k,j,rfl,rfl,hp,E,q⟩:=h;cases A;obtain ⟨t,rfl⟩:=B;obtain ⟨d,n,r,f,F⟩:=I.lst hp;obtain ⟨e,K,g,m⟩:=Nj E;have hl:=r.length;have L:=Fy
 have w:Inv X c z (upd H p (.lst (D.set j v))) { s with heap:=s.heap.update p (Obj.mapSeq (·.setIfInBounds j u)) }:=
  I.lstUpd hp f (VG d n j u) (r.set C j) (by rw [List.length_set];exact F) s.toks
 by_cases y:0<=k
 ·have hk:k.toNat=j:=by
   rw [seqIndex_of y m] at e;exact rG e
  exact W.ki_setAt f y ⋯ (by rw [BX,<-hl];exact m) (by rw [hk];exact ⟨_,w,q⟩)
 ·have hk:(k+(d.toArray.size:Int)).toNat=j:=by
   rw [seqIndex_neg ⋯ g] at e;rw [BX,<-hl];exact rG e
  exact W.ki_setBack f ⋯ (by rw [BX,<-hl];exact g) ⋯ (by rw [hk];exact ⟨_,w,q⟩)
def VH (lo hi:Option Int) (n:Nat):(sliceBounds lo hi none n).1=((HT.sIx n 0 lo:Nat):Int)/\(sliceBounds lo hi none n).2.1=((HT.sIx n n hi:Nat):Int)/\(sliceBounds lo hi none n).2.2=1:=by
 refine ⟨?_,?_,rfl⟩
 ·cases lo with
  | none=>simp [sliceBounds,HT.sIx]
  | some i=>
    simp only [sliceBounds,HT.sIx,Option.getD_none,show (1:Int) > 0 by decide,if_true];by_cases h:i<0
    ·simp only [h,if_true] <;> omega
    ·simp only [h,if_false] <;> omega
 ·cases hi with
  | none=>simp [sliceBounds,HT.sIx]
  | some i=>
    simp only [sliceBounds,HT.sIx,Option.getD_none,show (1:Int) > 0 by decide,if_true];by_cases h:i<0
    ·simp only [h,if_true] <;> omega
    ·simp only [h,if_false] <;> omega
def VI (its:dE) (lo hi:Option Int):slicePick its.toArray lo hi none=((its.drop (HT.sIx its.length 0 lo)).take (HT.sIx its.length its.length hi - HT.sIx its.length 0 lo)).toArray:=by
 obtain ⟨c,d,e⟩:=VH lo hi its.toArray.size;unfold slicePick;rw [c,d,e];simp only [sliceRange_one,pick_run,BX] <;> rfl
def VJ (K:W.Frag):V->Option Int->Option Int->Hp->VK->Prop:=λx lo d H Q=>∃ a c,x=.ref a/\SqL K H a c/\∀ p,H p=none->Q (.ref p) (upd H p (.lst (Cg c lo d)))
def Nl:cK X (VJ X.K):=by
 intro f s w H x v y z lo e A Q I i j k m h;obtain ⟨a,c,rfl,n,q⟩:=h;cases i;obtain ⟨p,r,g,u⟩:=I.list n;have d:=r.length;refine ⟨"list", _,slot_list_getitem.lookup,g.isList.typeIs,?_⟩;refine wpAny_getItem_list_slice g.isList j k m .none (by simp) ?_ (by rw [BX] <;> omega);rw [VI,<-d];refine ⟨.ref s.heap.objs.size,_,I.laid (t':=s.toks) (o:=.lst (Cg c lo e)) (λb B q=>Heap.get?_push_of_some _ q) (AS _) ?_,rfl,q _ (I.hok.fresh (AS _))⟩;exact ⟨Bx (VB c lo e) u,_,0,(r.drop (HT.sIx c.length 0 lo)).take (HT.sIx c.length c.length e - HT.sIx c.length 0 lo),Heap.get?_push_size _ rfl⟩
def Ki:Cp X (.builtin "len") (λj H Q=>∃ p d,j=[.ref p]/\(SqL X.K H p d\/SqT X.K H p d)/\Q (.int d.length) H):=by
 intro k s o H j v Q I r h;obtain ⟨p,d,rfl,e,q⟩:=h;obtain ⟨u,rfl,m⟩:=ER r;cases m;have w:=Fy;rcases e with e | e
 ·obtain ⟨f,g,i,n⟩:=I.list e;have c:=g.length;exact Calls.call_len_list i.isList (by simp only [BX] <;> omega) ⟨.int d.length,H,I.tok _,⟨s.toks+1,by rw [BX,c]⟩,q⟩
 ·obtain ⟨f,g,i,n⟩:=I.tuple e;have c:=g.length;exact len_tuple i (by simp only [BX] <;> omega) ⟨.int d.length,H,I.tok _,⟨s.toks+1,by rw [BX,c]⟩,q⟩
def VL:Cp X (.type "list") (λB H Q=>∃ p f,B=[.ref p]/\(SqL X.K H p f\/SqT X.K H p f)/\∀ l,H l=none->Q (.ref l) (upd H l (.lst f))):=by
 intro j s E H B G Q I r h;obtain ⟨p,f,rfl,k,q⟩:=h;obtain ⟨u,rfl,F⟩:=ER r;cases F
 have m:∀ (c:dE),Vals f c->f.length<=sizeLine->∀ (d:Heap) (g:Nat),(∀ b C,s.heap.get? b=some C->d.get? b=some C)->
   d.get? s.heap.objs.size=some { cls:=.type "list", dict:=none,data:=.seq c.toArray g,slots:=#[] }->EP X j E Q (.ref s.heap.objs.size) { s with heap:=d }:=λc i v d g kp e=>
  ⟨.ref s.heap.objs.size,_,I.laid (t':=s.toks) kp (AS _) (show ObjOk X.prog X.w _ d _ (.lst f) from ⟨v,c,g,i,e⟩),rfl,q _ (I.hok.fresh (AS _))⟩
 rcases k with k | k
 ·obtain ⟨c,i,x,v⟩:=I.list k;have w:=i.length;obtain ⟨o,y,z,n,A⟩:=x.isList;exact call_list_seq p (.inl rfl) y z A (λd g kp e=>m c i v d g kp e) (by simp only [BX] <;> omega)
 ·obtain ⟨c,i,x,v⟩:=I.tuple k;have w:=i.length;obtain ⟨o,y,z,n,A⟩:=x;exact call_list_seq p (.inr rfl) y z A (λd g kp e=>m c i v d g kp e) (by simp only [BX] <;> omega)
def VM:Cp X (.type "tuple") (λn H Q=>∃ p f,n=[.ref p]/\((SqL X.K H p f/\∀ l,H l=none->Q (.ref l) (upd H l (.tup f)))\/(SqT X.K H p f/\Q (.ref p) H))):=by
 intro c s v H n D Q I r h;obtain ⟨p,f,rfl,h⟩:=h;obtain ⟨u,rfl,A⟩:=ER r;cases A;rcases h with ⟨j,q⟩ | ⟨j,q⟩
 ·obtain ⟨d,k,m,w⟩:=I.list j;have x:=k.length;refine call_tuple_list m.isList (λi kp=>?_) (by simp only [BX] <;> omega);have y:Inv X c v H { s with heap:=i }:=I.kept (t':=s.toks) kp
  have B:Inv X c v (upd H i.objs.size (.tup f)) { s with heap:=i.push { cls:=.type "tuple", data:=.seq d.toArray } }:=
   y.laid (t':=s.toks) (λb o e=>Heap.get?_push_of_some _ e) (AS _) (show ObjOk X.prog X.w _ _ _ (.tup f) from ⟨w,d,k,IsTup.new _ _⟩)
  exact ⟨.ref i.objs.size,_,B,rfl,q _ (y.hok.fresh (AS _))⟩
 ·obtain ⟨d,k,m,w⟩:=I.tuple j;exact call_tuple_same m ⟨.ref p,H,I,rfl,q⟩
def cL (K:W.Frag) (T:String) (x:V) (H:Hp):Prop:=match x with
 | .str _=>T = "str"
 | .int _=>T = "int"
 | .ref p=>(T = "list" /\ ∃ d,SqL K H p d)\/(T = "tuple" /\ ∃ o,K.lookup p=some o/\o.cls=.type "tuple" /\ o.dict=none)\/
   (T = "dict" /\ ((∃ c,H p=some (.dK c))\/∃ c,H p=some (.dT c)))\/(T = "set" /\ ∃ S n,H p=some (.set S n))
 | _=>False
theorem Nn {f:dH} {σ:St} {H:Hp} {s:Shared} {T:String} {x:V} {v:Value} (I:Inv X f σ H s) (r:RelV x v) (g:cL X.K T x H) :
  s.TypeIs v T/\∀ a,v=.ref a->∃ m,s.heap.get? a=some m/\m.dict=none:=by
 cases x with
 | str z=>
   obtain ⟨t,rfl⟩:=r;cases (show T = "str" from g);exact ⟨typeIs_str s z t,λ_ e=>nomatch e⟩
 | int i=>
   obtain ⟨t,rfl⟩:=r;cases (show T = "int" from g);exact ⟨typeIs_int s i t,λ_ e=>nomatch e⟩
 | ref p=>
   cases r;rcases g with ⟨rfl,A,u⟩ | ⟨rfl,o,hk,w,h⟩ | ⟨rfl,hk⟩ | ⟨rfl,S,n,hk⟩
   ·obtain ⟨y,_,q,_⟩:=I.list u;refine ⟨q.isList.typeIs,λa e=>?_⟩;cases e;obtain ⟨o,n,e,c,h,_⟩:=q;exact ⟨o,e,h⟩
   ·refine ⟨⟨o,I.kIn p o hk,w⟩,λa e=>?_⟩;cases e;exact ⟨o,I.kIn _ o hk,h⟩
   ·have z:∃ o,s.heap.get? p=some o/\o.ExactDict:=by
     rcases hk with ⟨j,hk⟩ | ⟨j,hk⟩
     ·obtain ⟨_,_,_,_,o,_,_,e,d,_⟩:=I.hok p _ hk;exact ⟨o,e,d⟩
     ·obtain ⟨_,_,_,_,o,_,_,e,d,_⟩:=I.hok p _ hk;exact ⟨o,e,d⟩
    obtain ⟨o,e,d⟩:=z;refine ⟨⟨o,e,d.1⟩,λa k=>?_⟩;cases k;exact ⟨o,e,d.2.1⟩
   ·obtain ⟨o,_,_,_,e,d,_⟩:=I.hok p _ hk;refine ⟨⟨o,e,d.1⟩,λa k=>?_⟩;cases k;exact ⟨o,e,d.2.1⟩
 | _=>exact False.elim g
def Hb (K:W.Frag) (T:String) (r:V->dz->Hp->VK->Prop) (d:TE):TE:=λe H Q=>d e H λx c=>cL K T x c/\r x [] c Q
def aP (K:W.Frag) (T:String) (r:V->dz->Hp->VK->Prop) (e:TE) (t:TA):TE:=λc H Q=>e c H λx d=>cL K T x d/\t c d λf g=>r x f g Q
variable {o e:Expr} {es:dL} {to:TE} {t:TA} {name:Str} {apos cpos:Pos} {T id:String} {r:V->dz->Hp->VK->Prop}
def Kj (n:PlainAttrs T) (g:Slot T name id) (i:typeOf (.builtin id)=pure (.type "method_descriptor")) (p:MtR X id r) (q:PE X o to)
  (d:attributeBase o name X.env (eval o X.env)=eval o X.env:=by rfl) (f:(apos.endLine == cpos.line)=true:=by rfl):PE X (.Call (.Attribute o name apos) [] [] cpos) (Hb X.K T r to):=by
 intro c s j H Q I h;refine wpAny_Call_method0_late d f (F_ (q c s j H _ I h) λv u ⟨x,w,k,m,y,z⟩=>?_);obtain ⟨A,B⟩:=Nn k m y;exact ⟨T,id,n,g,i,A,B,Calls.callWith_builtin rfl (PySem.evalArgs_none (p c u j w x [] v [] Q k m .nil z))⟩
def F5 (u:PlainAttrs T) (i:Slot T name id) (k:typeOf (.builtin id)=pure (.type "method_descriptor")) (w:MtR X id r) (y:PE X o to) (z:PA X (e::es) t)
  (f:attributeBase o name X.env (eval o X.env)=eval o X.env:=by rfl)
  (j:((backTo cpos (starEach (e::es) X.env)).all (λx=>!x.1) && (backToKw cpos (keywordEach [] X.env)).all (λx=>x.1.isSome)
   && decide ((e::es).length+([]:List Keyword).length+(if ([]:List Keyword).isEmpty then 0 else 1)<30))=true:=by rfl)
  (g:(apos.endLine == cpos.line)=true:=by rfl) (A:starEach (e::es) X.env=(false,eval e X.env)::starEach es X.env:=by rfl) (d:(backTo cpos (starEach es X.env)).any (·.1)=false:=by rfl) :
  PE X (.Call (.Attribute o name apos) (e::es) [] cpos) (aP X.K T r to t):=by
 intro c s m H Q I h;refine wpAny_Call_method_late f j g rfl (F_ (y c s m H _ I h) λv B ⟨x,C,n,p,D,E⟩=>?_);obtain ⟨F,G⟩:=Nn n p D;refine ⟨T,id,u,i,k,F,G,?_⟩;have q:=z cpos c B m C _ n E;rw [A] at q ⊢;refine Calls.callWith_builtin (by show (false || (backTo cpos (starEach es X.env)).any (·.1))=false;rw [d] <;> rfl) (Calls.evalArgs_plain ?_);exact F_ q λJ K ⟨L,M,N,O,P⟩=>w c K m M x L v J Q N p O P
end
def MtM (X:Cx) (id:String) (r:V->dz->Hp->VK->Prop):Prop:=
 ∀ (a:dH) (s:Shared) (b:St) (H:Hp) (x:V) (c:dz) (v:Value) (d:dE) (Q:VK),Inv X a b H s->RelV x v->Vals c d->r x c H Q->
   wpAny (model X.prog X.w) X.A (call (.builtin id) (v::d)) (EP X a b Q) X.xe s
def Vals.zero {a:dE} (h:Vals [] a):a=[]:=by cases h;rfl
def Vals.inv {x:V} {xs:dz} {a:dE} (h:Vals (x::xs) a):∃ u t,a=u::t/\RelV x u/\Vals xs t:=by cases h with | cons r t=>exact ⟨_,_,rfl,r,t⟩
def Vals.one {x:V} {a:dE} (h:Vals [x] a):∃ u,a=[u]/\RelV x u:=by obtain ⟨u,t,rfl,r,h⟩:=h.inv;exact ⟨u,by rw [h.zero],r⟩
def Vals.two {x y:V} {a:dE} (h:Vals [x,y] a):∃ u v,a=[u,v]/\RelV x u/\RelV y v:=by obtain ⟨u,t,rfl,r,h⟩:=h.inv;obtain ⟨v,rfl,q⟩:=h.one;exact ⟨u,v,rfl,r,q⟩
theorem Vals.dropLast {xs:dz} {a:dE} (h:Vals xs a):Vals xs.dropLast a.dropLast:=by
 induction h with
 | nil=>exact .nil
 | cons r t b=>
   cases t with
   | nil=>exact .nil
   | cons q c=>exact .cons r b
theorem Vals.reverse {xs:dz} {a:dE} (h:Vals xs a):Vals xs.reverse a.reverse:=by
 induction h with
 | nil=>exact .nil
 | cons r t b=>rw [List.reverse_cons,List.reverse_cons];exact Vals.append b (.cons r .nil)
theorem Vals.rep {xs:dz} {a:dE} (h:Vals xs a):∀ k:Nat,Vals (List.replicate k xs).flatten (List.replicate k a).flatten
 | 0=>.nil
 | k+1=>by
   rw [List.replicate_succ,List.replicate_succ,List.flatten_cons,List.flatten_cons];exact Vals.append h (Vals.rep h k)
theorem VN {c:Type} (l:List c):l.eraseIdx (l.length - 1)=l.dropLast:=by
 induction l with
 | nil=>rfl
 | cons a r d=>
   cases r with
   | nil=>rfl
   | cons b r=>
     have e:(a::b::r).length - 1=((b::r).length - 1)+1:=by
      have f:(a::b::r).length=r.length+2:=rfl;have g:(b::r).length=r.length+1:=rfl;omega
     rw [e,List.eraseIdx_cons_succ,d]
     all_goals rfl
theorem No (its:dE):∀ (k:Nat) (a:dE),
  List.foldl (λb c=>b++c) a.toArray (List.replicate k its.toArray)=(a++(List.replicate k its).flatten).toArray
 | 0,a=>by simp
 | k+1,a=>by
   have e:a.toArray++its.toArray=(a++its).toArray:=by simp
   have d:(a++its)++(List.replicate k its).flatten=a++(List.replicate (k+1) its).flatten:=by
    rw [List.replicate_succ,List.flatten_cons,FW]
   rw [<-d,<-No its k (a++its),<-e,List.replicate_succ,List.foldl_cons]
section
variable {X:Cx} {pins:dH} {σ:St} {H:Hp} {s:Shared} {l b:Addr} {xs ys zs:dz}
def Inv.lset {its its':dE} {n:Nat} {f:Array Value->Array Value} {t':Nat} (I:Inv X pins σ H s) (d:H l=some (.lst xs))
  (e:s.heap.get? l=some { cls:=.type "list", data:=.seq its.toArray n }) (g:f its.toArray=its'.toArray) (hv:Vals ys its') (h:ys.length<=sizeLine) :
  Inv X pins σ (upd H l (.lst ys)) { s with heap:=s.heap.update l (Obj.mapSeq f),toks:=t' }:=by
 have q:=PySem.IsL.update e f;rw [g] at q;refine I.write (x:=l) (e:=l) (by rw [d];exact trivial) (.inl rfl) (λk u i j=>(Heap.get?_update_other s.heap (Obj.mapSeq f) (Ne.symm i)).trans j) ⟨_,q⟩ ?_;exact ⟨h,its',_,hv,q⟩
def Inv.lnew {its:dE} {t':Nat} (I:Inv X pins σ H s) (hv:Vals ys its) (e:ys.length<=sizeLine) :
  Inv X pins σ (upd H s.heap.objs.size (.lst ys)) { s with heap:=s.heap.push { cls:=.type "list", data:=.seq its.toArray },toks:=t' }:=
 I.laid (λ_ _ q=>Heap.get?_push_of_some _ q) (AS _) ⟨e,its,0,hv,Heap.get?_push_size _ rfl⟩
def Inv.fresh (I:Inv X pins σ H s):H s.heap.objs.size=none:=I.hok.fresh (AS _)
def Inv.lstM (I:Inv X pins σ H s) (a:H l=some (.lst xs)):xs.length<=sizeLine/\∃ (its:dE) (n:Nat),Vals xs its/\xs.length=its.length/\s.heap.get? l=some { cls:=.type "list", data:=.seq its.toArray n }:=by
 obtain ⟨z,its,n,r,e⟩:=I.hok l _ a;exact ⟨z,its,n,r,r.length,e⟩
def Np {n:Nat} (h:n<=sizeLine):Builtin.List.listTooLong n=false:=by
 unfold Builtin.List.listTooLong;exact rC ⋯
end
section
variable {X:Cx}
def ES:V->dz->Hp->VK->Prop:=λx b H Q=>∃ l a y,x=.ref l/\b=[y]/\H l=some (.lst a)/\a.length<sizeLine/\Q .non (upd H l (.lst (a++[y])))
def Ge:MtM X "list.append" ES:=by
 intro b s i H x j v k Q I d f h;obtain ⟨l,m,y,rfl,rfl,c,o,q⟩:=h;cases d;obtain ⟨u,rfl,g⟩:=f.one;obtain ⟨z,a,n,r,hl,e⟩:=I.lstM c;refine call_meets F.slot_list_append ⟨_,e,rfl⟩ F.entry_list_append (F.args_list_append_2 _ _) (PySem.list_append l a.toArray n u (by rw [BX];omega)) ⟨e,?_⟩;refine ⟨.non,_,I.lset (its':=a++[u]) c e (by simp) (r.append (.cons g .nil)) ?_,rfl,q⟩;rw [Cr,List.length_singleton];omega
def Kk:V->dz->Hp->VK->Prop:=λx d H Q=>∃ l b a c,x=.ref l/\d=[.ref b]/\H l=some (.lst a)/\H b=some (.lst c)/\a.length+c.length<=sizeLine/\Q .non (upd H l (.lst (a++c)))
def VO:MtM X "list.extend" Kk:=by
 intro g s B H x C v D Q I j k h;obtain ⟨l,b,E,G,rfl,rfl,i,m,J,q⟩:=h;cases j;obtain ⟨u,rfl,o⟩:=k.one;cases o;obtain ⟨z,c,n,r,hl,e⟩:=I.lstM i;obtain ⟨K,a,p,w,y,A⟩:=I.lstM m;have f:c.toArray.size+a.toArray.size<=sizeLine:=by rw [BX,BX];omega
 have d:¬ (!c.toArray.isEmpty && Builtin.List.listTooLong (c.toArray.size+a.toArray.size))=true:=by
  rw [Np f,Bool.and_false];exact DA
 refine call_meets F.slot_list_extend ⟨_,e,rfl⟩ F.entry_list_extend (F.args_list_extend_2 _ _)
  (AutoSeq1.list_extend_list_list_0 l c.toArray n b a.toArray p d (by rw [BX];omega) ⋯) ⟨e,A,?_⟩
 refine ⟨.non,_,I.lset (its':=c++a) i e (by simp) (r.append w) ?_,rfl,q⟩;rw [Cr];omega
def Kl:V->dz->Hp->VK->Prop:=λx b H Q=>∃ l a y,x=.ref l/\b=[]/\H l=some (.lst a)/\a[a.length - 1]?=some y/\Q y (upd H l (.lst a.dropLast))
def VP:MtM X "list.pop" Kl:=by
 intro d s o H x p v w Q I g i h;obtain ⟨l,A,y,rfl,rfl,f,j,q⟩:=h;cases g;have b:=i.zero;subst b;obtain ⟨z,a,n,r,hl,e⟩:=I.lstM f;obtain ⟨u,k,m⟩:=r.get j
 have c:a.toArray[a.toArray.size - 1]?=some u:=by
  show a.toArray[a.length - 1]?=some u;rw [<-Array.getElem?_toList,<-hl];exact k
 refine call_meets F.slot_list_pop ⟨_,e,rfl⟩ F.entry_list_pop (F.args_list_pop_1 _) (MeetsSeq.list_pop_last l a.toArray n u c (by rw [BX];omega)) ⟨e,?_⟩;refine ⟨y,_,I.lset (its':=a.dropLast) f e ?_ r.dropLast ?_,m,q⟩
 ·show a.toArray.eraseIdxIfInBounds (a.toArray.size - 1)=a.dropLast.toArray;rw [BX,List.eraseIdxIfInBounds_toArray,VN]
 ·rw [List.length_dropLast];omega
def Km:R2:=λx y H Q=>∃ l b a c,x=.ref l/\y=.ref b/\H l=some (.lst a)/\H b=some (.lst c)/\a.length+c.length<=sizeLine/\∀ p,H p=none->Q (.ref p) (upd H p (.lst (a++c)))
def VQ:OpR X (binaryOp .Add) Km:=by
 intro d s w H x y v u Q I f g h;obtain ⟨l,b,A,B,rfl,rfl,i,j,C,q⟩:=h;cases f;cases g;obtain ⟨z,c,n,r,hl,e⟩:=I.lstM i;obtain ⟨D,a,E,k,m,o⟩:=I.lstM j;refine PySem.P.add_list e o ?_ (by rw [BX,BX];omega);have p:c.toArray++a.toArray=(c++a).toArray:=by simp
 rw [p];exact ⟨.ref _,_,I.lnew (t':=s.toks) (r.append k) (by rw [Cr];omega),rfl,q _ I.fresh⟩
def F6:R2:=λx y H Q=>∃ l k a,x=.ref l/\y=.int k/\H l=some (.lst a)/\-(2 ^ 63)<=k/\k<2 ^ 63/\a.length*k.toNat<=sizeLine/\
 ∀ p,H p=none->Q (.ref p) (upd H p (.lst (List.replicate k.toNat a).flatten))
theorem VR {a:Type} (xs:List a) (k:Nat):(List.replicate k xs).flatten.length=k*xs.length:=by
 induction k with
 | zero=>simp
 | succ k b=>rw [List.replicate_succ,List.flatten_cons,Cr,b,Nat.succ_mul,Nat.add_comm]
def Hf:OpR X (binaryOp .Mult) F6:=by
 intro p s K H x y v u Q I A B h;obtain ⟨l,k,L,rfl,rfl,C,D,E,w,q⟩:=h;cases A;obtain ⟨t,rfl⟩:=B;obtain ⟨z,b,n,r,hl,e⟩:=I.lstM C;have d:b.toArray.size*k.toNat<=sizeLine:=by rw [BX,<-hl];exact w
 have f:¬ b.toArray.size*k.toNat > (2 ^ 63 - 1) / 8:=by
  have:(sizeLine:Nat)<=(2 ^ 63 - 1) / 8:=by decide
  omega
 have g:¬ (!Builtin.List.listFitsIndex k)=true:=by
  rw [fitsIndex_both D E];exact DA
 have c:¬ Builtin.List.listTooLong (b.toArray.size*k.toNat)=true:=by
  rw [Np d];exact DA
 have i:List.foldl (λj o=>j++o) #[] (List.replicate (if b.toArray.isEmpty=true then 0 else k.toNat) b.toArray)=(List.replicate k.toNat b).flatten.toArray:=by
  have G:∀ m:Nat,List.foldl (λj o=>j++o) #[] (List.replicate m b.toArray)=(List.replicate m b).flatten.toArray:=λm=>by
   have:=No b m [];rw [List.nil_append] at this;exact this
  rw [G];cases b with
  | nil=>simp
  | cons a M=>rw [sY (by simp)]
 refine wpAny_binaryOp_repeat_ref (T := "list") (U := "int") ∅ ⟨_,e,rfl⟩ (λJ=>typeIs_int J k t) noFill_list_mul F.fills_int_mul F.slot_int_rmul repeat_list F.slot_int_index.lookup
  (call_meets F.slot_int_rmul (typeIs_int s k t) F.entry_int_rmul (F.args_int_rmul_2 _ _) (int___rmul___int_list k t l b.toArray n)
   ⟨e,rfl,⟨_,e,rfl⟩,call_meets F.slot_list_mul ⟨_,e,rfl⟩ F.entry_list_mul (F.args_list_mul_2 _ _) (AutoListH.list___mul___list_int_3 l b.toArray n k t g f c) ⟨e,?_⟩⟩)
 rw [i];exact ⟨.ref _,_,I.lnew (t':=s.toks) (r.rep k.toNat) (by rw [VR,Cy];exact w),rfl,q _ I.fresh⟩
end
end L2
namespace Att
open PySem PySem.W PySem.Calls PyProof.Rows
theorem VS {P:Params} {h:Heap}:∀ (c:dD) (d:dE),WellAll P h d (c.map WData.int)->IntsAre d c:=by
 intro c
 induction c with
 | nil=>
   intro d w;rw [List.map_nil] at w;cases w;exact .nil
 | cons n c e=>
   intro d w;rw [Ed] at w;cases w with
   | cons a b=>
     cases a;exact .cons _ _ (e _ b)
theorem VT {l:OpenLaw} {n:Nat} (v:l.most=some n) {P:Params} {h:Heap} {b:List WData} {e:dE}
  (f:l.row.toRowW.claim.pre b=true) (m:WellAll P h e b) :
  ∃ a p c,e=[Value.ref a]/\b=[WData.list (c.map WData.int)]/\h.get? a=some { cls:=.type "list", data:=.seq p.toArray }/\IntsAre p c/\c.length<=n:=by
 have o:WShape.hasAll [] b [.list .int]=true:=(pre_splitW f).1;have u:l.pre.holds [] { args:=b }=true:=(pre_splitW f).2;obtain ⟨d,r,rfl,w,x⟩:=hasAllW_cons o;obtain rfl:=hasAllW_nil x;obtain ⟨D,rfl,y⟩:=hasW_list w;obtain ⟨c,rfl⟩:=items_int y
 have g:c.length<=n:=by
  unfold OpenLaw.pre at u
  have j:(WTm.not (.lt (.lit (.int (n:Int))) (.len (.arg 0)))).holds [] { args:=[.list (c.map .int)] }=true:=by
   have j:=(holds_andW u).1;rw [v] at j;exact j
  have k:=condW_of j (w_not (w_lt w_lit (w_len_list (w_arg rfl))));rw [AJ] at k;refine Nat.le_of_not_lt λq=>?_;have z:(n:Int)<((c.length:Nat):Int):=by omega
  first
   | (rw [rA z] at k;exact absurd k ∅)
   | (simp at k;omega)
 cases m with
 | cons A B=>
   cases B;cases A with
   | list C i=>exact ⟨_,_,c,rfl,rfl,C,VS c _ i,g⟩
def VU (l:OpenLaw) (a:List WData):l.row.toRowW.claim.post a (.bool true) a=true:=
 postW_of (r:=l.row.toRowW) (X:=(true == true))
  (show WShape.has [] (.bool true) .bool=true by first | rfl | decide | simp [WShape.has,WShape.arms,WShape.armsAll])
  (show (WTm.eq .res (.lit (.bool true))).value [] { args:=a,res:=some (.bool true),after:=a }=some (.bool (true == true)) from w_eq_bool (w_res rfl) w_lit) rfl
def attach_call {l:OpenLaw} {n:Nat} {q:Program} {loose:dM} {XP:(dJ)->Heap->Prop} {YP:World->Heap->Prop} {d:DefRec}
  (I:l.most=some n) (y:d.params.defaults=[])
  (call:∀ (w:World) (c b:Shared) (p z:dJ) (i:Addr) (o:Obj) (pm u e:Value) (a:Addr) (h:dE) (v:dD),
   Ground q loose [] XP w c p z b.heap->YP w b.heap->
   b.heap.get? i=some o->o.data=.func (docDef d.name d.params d.body d.scope pm u e)->b.heap.CodeRec u d.name->p d.name=some (.ref i)->
   b.heap.get? a=some { cls:=.type "list", data:=.seq h.toArray }->IntsAre h v->v.length<=n->b.gens=#[]->
   codeAny (model l.prog w) callerA (.call (.ref i) ⟨[.ref a],[]⟩) (λr x=>r=.ok (.ret (.bool true))/\OldK b.heap x.heap/\x.os=b.os/\AllBare x.gens) b) :
  WalkO q loose XP YP l.row.toRowW d [] (λf h=>PySem.call f h):=by
 intro w c b p z G Y i o pm u e J kV K L A D B M E F as j H N C O;obtain rfl:J=.none:=Dflts.none D y;obtain rfl:kV=.none:=Dflts.noKw D;obtain ⟨a,h,v,rfl,rfl,k,g,m⟩:=VT I j C;refine enter_call (codeAny_mono (call w c b p z i o pm u e a h v G Y K (fd_plain L) A B k g m M) λr x P=>?_);obtain ⟨rfl,Q,R,S⟩:=P;exact ⟨.inl ⟨.bool true,.bool true,[],rfl,λ_=>rfl,.bool true,VU l _,λ_=>⟨List.Pairwise.nil,λ_ T=>(nomatch T)⟩⟩,Q,R,S⟩
end Att
namespace L2
open PySem PySem.Spec PyProof.Rows
theorem Nr:∀ {a:dE} {b:dD},IntsAre a b->Vals (b.map V.int) a
 | _,_,.nil=>.nil
 | _,_,.cons n t h=>.cons ⟨t,rfl⟩ (Nr h)
def bQ (H:Hp):Prop:=∀ b,H b=none\/∃ o a,H b=some (.frz o (.lst a))
theorem VV {P:Program} {w:World} {K:W.Frag} {G mb:dJ} {CX:aO} {k:Nat} {fa a:Addr} {fd:FuncData} {x:Str} {sp:Sp} {c:Shared} {B:dE} {I:dD}
  (KX:K.In c.heap) (J:c.heap.Ns mainGlobals G) (j:c.heap.Ns builtinsNs mb) (a0:∀ x:Str,x ≠ "__name__" -> mb x=bootBuiltins x) (L:c.heap.NoLimit) (g:c.heap.NoSeer) (C:(model P w).prog.given.tree=none) (hg:c.gens=#[])
  (M:c.heap.get? a=some { cls:=.type "list", data:=.seq B.toArray }) (hi:IntsAre B I) (hl:I.length<=sizeLine) (hr:Room k callerA)
  (F:∀ p:Heap,K.In p->p.Ns mainGlobals G->FnOk P w K G p CX k fa fd [x] sp) (D:∀ (s:Shared) (u:Value),BindsTo s fd ⟨[u],[]⟩ [(x,u)])
  (a1:∀ H:Hp,bQ H->SqL K H a (I.map V.int)->sp [.ref a] H (λv _=>v=.bl true) λ_ _ _=>False)
  (a2:∀ H e y,CX [] H c (λ_ _ _=>False) e y->False) :
  codeAny (model P w) callerA (.call (.ref fa) ⟨[.ref a],[]⟩) (λr y=>r=.ok (.ret (.bool true))/\OldK c.heap y.heap/\y.os=c.os/\AllBare y.gens) c:=by
 have rv:=Nr hi;have N:=hi.length
 have A:∀ H:Hp,bQ H->SqL K H a (I.map V.int)->HOk P w H c.heap->(∀ b,H b≠none->b=a)->(H a≠none->K.lookup a=none)->
   codeAny (model P w) callerA (.call (.ref fa) ⟨[.ref a],[]⟩) (λr y=>r=.ok (.ret (.bool true))/\OldK c.heap y.heap/\y.os=c.os/\AllBare y.gens) c:=by
  intro H hO hS O hA hK;have f:∀ {b:Addr} {o:Obj},c.heap.get? b=some o->H b=none->(Ei c.heap H).get? b=some o:=λe n=>UZ e n
  have a3:∀ {b:Addr} {o:Obj} {Q:Array DictEntry} {R:Nat},c.heap.get? b=some o->o.data=.dict Q R->H b=none:=λ{b o Q R} e d=>by
   cases q:H b with
   | none=>rfl
   | some u=>
     have S:b=a:=hA b (by rw [q];simp);subst S;rw [M] at e;cases e;have Z:Data.seq B.toArray _=Data.dict Q R:=d;cases Z
  have i:∀ {b:Addr} {m:dJ},c.heap.Ns b m->(Ei c.heap H).Ns b m:=λ{b m} ⟨o,Q,R,e,d,r⟩=>⟨o,Q,R,f e (a3 e d),d,r⟩
  have T:K.In (Ei c.heap H):=λb o e=>f (KX b o e) (by
   cases q:H b with
   | none=>rfl
   | some u=>
     have S:b=a:=hA b (by rw [q];simp);subst S;rw [hK (by rw [q];simp)] at e;cases e)
  have hM:Mod K G (Ei c.heap H):=⟨T,i J,⟨mb,i j,a0⟩,let ⟨E,h1,h2⟩:=L;⟨E,i h1,h2⟩⟩
  have a4:(Ei c.heap H).NoSeer:=⟨let ⟨E,a,b⟩:=g.statics;⟨E,i a,b⟩,let ⟨E,a,b⟩:=g.mods;⟨E,i a,b⟩,let ⟨E,a,b⟩:=g.imp;⟨E,i a,b⟩,
   let ⟨a5,bm,ob,a',b',c',Z,S⟩:=g.main;⟨a5,bm,ob,i a',b',f c' (by
    cases q:H bm with
    | none=>rfl
    | some u=>
      have z:bm=a:=hA bm (by rw [q];simp);subst z;rw [M] at c';cases c';simp at Z),Z,S⟩⟩
  have e0:Env0 P w K G (Ei c.heap H) callerA [] c H:=⟨rfl,hM,λb o e=>Ua e,Nat.le_of_eq (UY _ _),trivial,λb j=>absurd (show b∈([]:dN) from j) (by simp),O,.of_eq hg,a4,C⟩;refine codeAny_mono ((F _ T (i J)).run callerA [] c H ⟨[.ref a],[]⟩ [.ref a] [.ref a] _ _ hr e0 (D c (.ref a)) (.cons rfl .nil) (a1 H hO hS)) λr y h=>?_;cases r with
  | error e=>exact (a2 H e y h).elim
  | ok fl=>
    cases fl with
    | next=>exact False.elim h
    | brk=>exact False.elim h
    | cont=>exact False.elim h
    | ret u=>
      obtain ⟨v,H',os,U,un,X,r',q⟩:=h;have q':v=.bl true:=q;subst q';obtain rfl:u=Value.bool true:=r';refine ⟨rfl,OldK.of_keep λb o e=>?_,os,U⟩;cases q:H b with
      | none=>exact un.keep b o e q (by intro z;exact absurd (show b∈([]:dN) from z) (by simp)) (by simp)
      | some u=>
        rcases hO b with z | ⟨ob,xs,z⟩
        ·rw [q] at z;cases z
        ·have z2:=un.frzs b ob _ z;obtain ⟨e1,_⟩:=O b _ z;obtain ⟨e2,_⟩:=X b _ z2;rw [e] at e1;cases e1;exact e2
 cases hk:K.lookup a with
 | some o=>
   have e:=KX a o hk;rw [M] at e;cases e;refine A (λ_=>none) (λ_=>.inl rfl) (.inr ⟨_,B.toArray,_,hk,rfl,rfl,rfl,by rw [BX,N];exact hl,by simpa using rv⟩) (λb u z=>by have Y:(none:Option HO)=some u:=z;cases Y) (λb z=>absurd rfl z) λz=>absurd rfl z
 | none=>
   refine A (λb=>if b=a then some (.frz { cls:=.type "list", data:=.seq B.toArray } (.lst (I.map V.int))) else none) (λb=>?_) (.inl (.inr ⟨{ cls:=.type "list", data:=.seq B.toArray },sZ rfl⟩)) (λb u z=>?_) (λb z=>?_) λ_=>hk
   ·by_cases j:b=a
    ·exact .inr ⟨_,_,sZ j⟩
    ·exact .inl (sY j)
   ·by_cases j:b=a
    ·have Y:=(sZ j).symm.trans z;cases Y;subst j;exact ⟨M,by rw [AJ];exact hl,B,_,rv,M⟩
    ·have Y:=(sY j).symm.trans z;cases Y
   ·by_cases j:b=a
    ·exact j
    ·exact absurd (sY j) z
def walk_of {l:W.OpenLaw} {n k:Nat} {q:Program} {loose:dM} {XP:(dJ)->Heap->Prop} {YP:World->Heap->Prop} {d:DefRec} {K:Params->W.Frag} {CX:World->aO} {sp:World->Sp} {x:Str}
  (M:l.most=some n) (z:n<=sizeLine) (A:d.params.defaults=[]) (N:importsNone q=true) (g:∀ w,(model l.prog w).prog.given.tree=none) (O:Room k callerA)
  (P:∀ (w:World) (h:Heap),YP w h->(K w.params).In h)
  (F:∀ (w:World) (j:dJ) (r:Addr) (h:Heap),(K w.params).In h->h.Ns mainGlobals j->j d.name=some (.ref r)->
   ∃ B:FuncData,(∀ (s:Shared) (u:Value),BindsTo s B ⟨[u],[]⟩ [(x,u)])/\
     ∀ b:Heap,(K w.params).In b->b.Ns mainGlobals j->FnOk l.prog w (K w.params) j b (CX w) k r B [x] (sp w))
  (C:∀ (w:World) (H:Hp) (a:Addr) (y:dD),y.length<=n->bQ H->SqL (K w.params) H a (y.map V.int)->sp w [.ref a] H (λv _=>v=.bl true) λ_ _ _=>False)
  (D:∀ (w:World) (H:Hp) (s:Shared) (e:Value) (s':Shared),CX w [] H s (λ_ _ _=>False) e s'->False) :
  W.WalkO q loose XP YP l.row.toRowW d [] (λf I=>PySem.call f I):=by
 refine Att.attach_call M A λw J m j mb r o pm cd Q a I y G Y ho hd R E p i c S=>?_;have L:=P w _ Y;obtain ⟨B,T,U⟩:=F w j r _ L G.T.g E;exact VV L G.T.g G.T.b G.T.builtins G.T.nolimit (G.T.seer N) (g w) S p i (Bx c z) O U T (λH X Z=>C w H a y c X Z) λH e s'=>D w H m e s'
noncomputable def Er (s:Stmt):Arguments:=match s with
 | .FunctionDef _ a _ _ _ _ _ _ _ _=>a
 | _=>{ posonlyargs:=[],args:=[],vararg:=none,kwonlyargs:=[],kw_defaults:=[],kwarg:=none,defaults:=[] }
noncomputable def EE (s:Stmt):List Stmt:=match s with
 | .FunctionDef _ _ b _ _ _ _ _ _ _=>b
 | _=>[]
noncomputable def Cw (s:Stmt):Scope:=match s with
 | .FunctionDef _ _ _ _ _ _ a _ _ _=>a
 | _=>{ kind:=.function,names:=[],isGenerator:=false,isCoroutine:=false }
noncomputable abbrev aQ:aO:=λ_ _ _ _ _ _=>False
abbrev E0:XK:=λ_ _ _=>False
def VW {X:Cx}:ag aQ X E0:=λ_ _ _ _ _ _ _ h=>h.elim
structure Fun (K:W.Frag) (x qual:Str) (st:Stmt) (f:Addr) (fd:FuncData):Prop where
 ex:∃ (oc:Value) (od:Option Addr) (kV doc pm:Value) (an:Option Addr) (cdv ct:Value) (osl:Array (Option Value)),
  fd=W.fnOf x qual (Er st) (EE st) (Cw st) .none kV doc pm an cdv ct/\K.lookup f=some ⟨oc,od,.func fd,osl⟩/\W.codeIn K cdv qual=true
 kp:W.keepIn K (.ref f)=true
section
variable {P:Program} {w:World} {K:W.Frag} {mg:dJ} {base:Heap}
def Fun.ok {x b:Str} {st:Stmt} {f:Addr} {j:FuncData} {N ps:dM} {k:Nat} {sp:Sp} (F:Fun K x b st f j) (S:FnScope N ps (Cw st)) (len:∀ d H Q E,sp d H Q E->d.length=ps.length)
  (e:∀ (c:Value) (A:Around) (a:List Env) (s:Shared) (H:Hp) (d:dz) (Q:VK) (E:XK),Room k (A.deeper (envOfC b (Cw st) s.heap.objs.size f c))->sp d H Q E->
   ∃ t,PSs (F1 aQ P w K mg base N b (Cw st) f c A a s H E).nox (EE st) t/\t { nx:=λ_ m=>Q .non m,rt:=Q } (start N d) H):FnOk P w K mg base aQ (k+1) f j ps sp:=by
 obtain ⟨u,v,kV,n,y,z,c,B,o,rfl,p,g⟩:=F.ex;refine VA p g S len λA a s H d Q E r i=>?_;obtain ⟨t,h,q⟩:=e c A a s H d Q E r i;exact ⟨t,h.nox,q⟩
def Fun.binds {x a:Str} {st:Stmt} {f:Addr} {i:FuncData} {ps:dM} (F:Fun K x a st f i)
  (h:∀ (kV b pm:Value) (d:Option Addr) (c e:Value) (g:dE),g.length=ps.length->bindArgs (W.fnOf x a (Er st) (EE st) (Cw st) .none kV b pm d c e) ⟨g,[]⟩=pure (ps.zip g)):Binds K i ps []:=by
 obtain ⟨m,n,kV,b,pm,d,c,e,j,rfl,o,k⟩:=F.ex;exact .all (h kV b pm d c e)
def VX {x a:Str} {st:Stmt} {f:Addr} {i:Value} {j g:Option Addr} {e:Array (Option Value)} {kV d pm b h:Value} (l:K.lookup f=some ⟨i,j,.func (W.fnOf x a (Er st) (EE st) (Cw st) .none kV d pm g b h),e⟩)
  (c:W.codeIn K b a=true) (k:W.keepIn K (.ref f)=true):Fun K x a st f (W.fnOf x a (Er st) (EE st) (Cw st) .none kV d pm g b h):=⟨⟨i,j,kV,d,pm,g,b,h,e,rfl,l,c⟩,k⟩
end
section
variable {X:Cx}
def pv (i:Nat) {x:Str} {a:Pos} (c:X.N[i]?=some x:=by rfl) (hv:cf X.env.scope x:=by first | exact Or.inl rfl | exact Or.inr (Or.inl rfl) | exact Or.inr (Or.inr rfl)) (d:(x == ("__debug__" : Str))=false:=by decide)
  (b:(x == ("__classdict__" : Str))=false:=by decide):PE X (.Name x a) (AA i):=Uc c hv d b
end
def AV {c A B:Prop} [Decidable c] (a:c->A) (b:¬ c->B):if c then A else B:=by
 by_cases h:c
 ·rw [sZ h];exact a h
 ·rw [sY h];exact b h
def Same (H a:Hp):Prop:=∀ b o,H b=some o->a b=some o
def Same.refl (H:Hp):Same H H:=λ_ _ h=>h
def Same.trans {H d e:Hp} (a:Same H d) (b:Same d e):Same H e:=λc o h=>b c o (a c o h)
theorem Same.free {H a:Hp} (e:Same H a) {l:Addr} (h:a l=Option.none):H l=Option.none:=by
 cases q:H l with
 | none=>rfl
 | some o=>
   rw [e l o q] at h;cases h
def Same.seq {K:W.Frag} {H b:Hp} {a:Addr} {xs:dz} (e:Same H b) (h:SqL K H a xs):SqL K b a xs:=by
 rcases h with (h | ⟨o,h⟩) | h
 ·exact .inl (.inl (e _ _ h))
 ·exact .inl (.inr ⟨o,e _ _ h⟩)
 ·exact .inr h
end L2
local macro_rules | `(tactic| omega)=>`(tactic| lia)
namespace Bs.Hd
open PySem PySem.Spec PyProof.Rows L2
set_option maxRecDepth 100000
set_option maxHeartbeats 4000000
noncomputable def top (i:Nat):Stmt:=PySem.Challenge.pw_backslope_k77_holes_counted.main.body.getD i (.Pass ⟨0,0,0,0⟩)
noncomputable abbrev VY:Stmt:=top 2
noncomputable abbrev VZ:Stmt:=top 3
noncomputable abbrev Va:Stmt:=top 4
noncomputable abbrev Vb:Stmt:=top 5
noncomputable abbrev Vc:Stmt:=top 6
noncomputable abbrev Vd:Stmt:=top 7
noncomputable abbrev Ve:Stmt:=top 8
noncomputable abbrev Vf:Stmt:=top 9
noncomputable abbrev Vg:Stmt:=top 10
noncomputable abbrev Vh:Stmt:=top 11
noncomputable abbrev Vi:Stmt:=top 12
noncomputable abbrev Vj:Stmt:=top 13
noncomputable abbrev Vk:Stmt:=top 14
noncomputable abbrev Vl:Stmt:=top 15
noncomputable abbrev Vm:Stmt:=top 16
noncomputable abbrev Vn:Stmt:=top 17
noncomputable abbrev Vo:Stmt:=top 18
noncomputable abbrev Vp:Stmt:=top 19
noncomputable abbrev Vq:Stmt:=top 20
noncomputable abbrev Vr:Stmt:=top 21
noncomputable abbrev Vs:Stmt:=top 22
noncomputable abbrev Vt:Stmt:=top 23
noncomputable abbrev Vv:Stmt:=top 24
noncomputable abbrev Vw:Stmt:=top 25
noncomputable abbrev Vx:Stmt:=top 26
noncomputable abbrev Vy:Stmt:=top 28
noncomputable abbrev Vz:Stmt:=top 29
noncomputable abbrev V0:Stmt:=top 30
noncomputable abbrev V3:Stmt:=top 31
noncomputable abbrev V4:Stmt:=top 33
noncomputable abbrev V5:Stmt:=top 34
noncomputable abbrev V6:Stmt:=top 35
noncomputable abbrev V7:Stmt:=top 36
noncomputable abbrev V8:Stmt:=top 37
noncomputable abbrev V9:Stmt:=top 38
noncomputable abbrev WA:Stmt:=top 39
noncomputable abbrev WB:Stmt:=top 41
noncomputable abbrev WC:Stmt:=top 42
noncomputable abbrev WD:Stmt:=top 43
noncomputable abbrev WE:Stmt:=top 45
noncomputable abbrev WF:Stmt:=top 46
noncomputable abbrev WG:Stmt:=top 47
noncomputable abbrev WH:Stmt:=top 48
noncomputable abbrev WI:Stmt:=top 49
noncomputable abbrev WJ:Stmt:=top 51
noncomputable abbrev WK:Stmt:=top 53
noncomputable abbrev WL:Stmt:=top 54
noncomputable abbrev WM:Stmt:=top 55
noncomputable abbrev WN:Stmt:=top 56
noncomputable abbrev WO:Stmt:=top 57
noncomputable abbrev WP:Stmt:=top 58
noncomputable abbrev WQ:Stmt:=top 60
noncomputable abbrev WR:Stmt:=top 61
noncomputable abbrev WS:Stmt:=top 62
noncomputable abbrev WT:Stmt:=top 63
noncomputable abbrev WU:Stmt:=top 64
noncomputable abbrev JC:Stmt:=top 65
noncomputable abbrev N:Value:=.none
noncomputable abbrev S (x:Str) (t:Tok):Value:=.str x t
noncomputable abbrev I (i:Int):Value:=.int i 0
noncomputable abbrev R (a:Addr):Value:=.ref a
noncomputable def en (P:Params) (k:Str) (t:Tok) (v:Value):DictEntry:=⟨PyData.keyHash P k,.str k t,v⟩
noncomputable def L_ (n:Str) (t:Tok) (l c u:Int) (a:Addr) (b g d e f:Value) (x:Int) (y:Tok):Obj:=⟨.type "code", none,.fields #[S n t,S n (t+1),S "/claim/cut.py" (t+2),I l,I c,I 0,I 0,I u,R a,.bool true,I 181,b,g,d,e,f,I x,I l,S "/claim/cut.py" y],#[]⟩
noncomputable def K_ (n:Str) (s:Stmt) (pm:Value) (c:Addr):Obj:=⟨.type "function", none,.func (W.fnOf n n (Er s) (EE s) (Cw s) .none .none .none pm none (.ref c) .none),#[]⟩
noncomputable abbrev O_:Value:=S "backslope.wholes" 187
noncomputable abbrev bO:Value:=S "backslope.numbers" 413
noncomputable abbrev ay:Value:=S "backslope.polys" 448
noncomputable abbrev b_:Value:=S "backslope.fractions" 514
noncomputable abbrev a_:Value:=S "backslope.places" 542
noncomputable abbrev mo5:Value:=S "backslope.areas" 602
noncomputable abbrev Y_:Value:=S "law_backslope_k77_holes_counted" 614
noncomputable def hp (P:Params):W.Frag:=[
 (3,⟨.type "dict", none,.dict #[en P "__name__" 165 (S "law_backslope_k77_holes_counted" 614),en P "__doc__" 166 N,en P "__package__" 167 N,en P "__loader__" 168 (.builtin "__main__.__loader__#opaque"),en P "__spec__" 169 N,en P "__annotations__" 170 (R 6),en P "__builtins__" 171 (R 4),en P "__file__" 173 (S "/claim/cut.py" 172),en P "__cached__" 174 N,en P "EXPONENTS" 197 (R 15),en P "common_divisor" 206 (R 22),en P "raised" 216 (R 29),en P "content" 222 (R 34),en P "row_trimmed" 230 (R 41),en P "row_parted" 236 (R 46),en P "row_slope" 242 (R 51),en P "row_over" 256 (R 58),en P "root_exponent" 266 (R 65),en P "row_less" 272 (R 70),en P "row_moved" 283 (R 77),en P "strand_rest" 289 (R 82),en P "strand_shortened" 295 (R 87),en P "row_shortened" 302 (R 94),en P "strand_euclid" 311 (R 101),en P "inverse_modulo" 325 (R 108),en P "rests_modulo" 331 (R 113),en P "row_modulo" 339 (R 120),en P "monic_modulo" 345 (R 125),en P "split_modulo" 360 (R 132),en P "rest_modulo" 369 (R 139),en P "euclid_modulo" 379 (R 146),en P "nearest" 388 (R 153),en P "common_by_prime" 394 (R 158),en P "row_common" 406 (R 165),en P "simple_row" 412 (R 170),en P "ratio" 423 (R 177),en P "times" 431 (R 184),en P "over" 439 (R 191),en P "before" 447 (R 198),en P "poly" 457 (R 205),en P "cleared" 463 (R 210),en P "uncleared" 469 (R 215),en P "p_scaled" 475 (R 220),en P "p_split" 492 (R 227),en P "common" 501 (R 234),en P "p_at" 513 (R 241),en P "fraction" 524 (R 248),en P "evened" 533 (R 255),en P "quotient" 541 (R 262),en P "count_between" 559 (R 269),en P "stretched" 572 (R 276),en P "count_within" 585 (R 283),en P "halved" 591 (R 288),en P "sign_changes" 601 (R 295),en P "holes" 613 (R 302),en P "_law_at" 623 (R 309),en P "_law_draw" 633 (R 316),en P "_law_number" 643 (R 323),en P "_law_plus" 651 (R 330),en P "_law_times" 659 (R 337),en P "_law_not_above" 667 (R 344),en P "_law_is_number" 675 (R 351),en P "_law_product" 686 (R 358),en P "_law_bottom" 702 (R 365),en P "_law_below_root" 712 (R 372),en P "_law_below_cube" 720 (R 379),en P "_law_due" 735 (R 386),en P "law" 751 (R 393)] 68,#[]⟩),
 (15,⟨.type "tuple", none,.seq #[(.int 61 189),(.int 127 190),(.int 521 191),(.int 1279 192),(.int 4423 193),(.int 9941 194),(.int 21701 195),(.int 44497 196)] 0,#[]⟩),
 (21,L_ "common_divisor" 198 3 2 3 16 (R 17) N (R 18) (R 19) (R 20) 204 205),
 (22,K_ "common_divisor" (top 2) O_ 21),
 (28,L_ "raised" 207 9 2 3 23 (R 24) N (R 25) (R 26) (R 27) 214 215),
 (29,K_ "raised" (top 3) O_ 28),
 (33,L_ "content" 217 19 2 3 30 (R 31) N N N (R 32) 220 221),
 (34,K_ "content" (top 4) O_ 33),
 (40,L_ "row_trimmed" 223 26 1 3 35 (R 36) N (R 37) (R 38) (R 39) 228 229),
 (41,K_ "row_trimmed" (top 5) O_ 40),
 (45,L_ "row_parted" 231 31 2 3 42 (R 43) N N N (R 44) 234 235),
 (46,K_ "row_parted" (top 6) O_ 45),
 (50,L_ "row_slope" 237 33 1 3 47 (R 48) N N N (R 49) 240 241),
 (51,K_ "row_slope" (top 7) O_ 50),
 (57,L_ "row_over" 243 35 2 3 52 (R 53) N (R 54) (R 55) (R 56) 254 255),
 (58,K_ "row_over" (top 8) O_ 57),
 (64,L_ "root_exponent" 257 48 1 3 59 (R 60) N (R 61) (R 62) (R 63) 264 265),
 (65,K_ "root_exponent" (top 9) O_ 64),
 (69,L_ "row_less" 267 55 5 3 66 (R 67) N N N (R 68) 270 271),
 (70,K_ "row_less" (top 10) O_ 69),
 (76,L_ "row_moved" 273 61 2 3 71 (R 72) N (R 73) (R 74) (R 75) 281 282),
 (77,K_ "row_moved" (top 11) O_ 76),
 (81,L_ "strand_rest" 284 67 2 3 78 (R 79) N N N (R 80) 287 288),
 (82,K_ "strand_rest" (top 12) O_ 81),
 (86,L_ "strand_shortened" 290 77 1 3 83 (R 84) N N N (R 85) 293 294),
 (87,K_ "strand_shortened" (top 13) O_ 86),
 (93,L_ "row_shortened" 296 82 1 3 88 (R 89) N (R 90) (R 91) (R 92) 300 301),
 (94,K_ "row_shortened" (top 14) O_ 93),
 (100,L_ "strand_euclid" 303 84 2 3 95 (R 96) N (R 97) (R 98) (R 99) 309 310),
 (101,K_ "strand_euclid" (top 15) O_ 100),
 (107,L_ "inverse_modulo" 312 92 2 3 102 (R 103) N (R 104) (R 105) (R 106) 323 324),
 (108,K_ "inverse_modulo" (top 16) O_ 107),
 (112,L_ "rests_modulo" 326 106 2 3 109 (R 110) N N N (R 111) 329 330),
 (113,K_ "rests_modulo" (top 17) O_ 112),
 (119,L_ "row_modulo" 332 108 2 3 114 (R 115) N (R 116) (R 117) (R 118) 337 338),
 (120,K_ "row_modulo" (top 18) O_ 119),
 (124,L_ "monic_modulo" 340 110 2 3 121 (R 122) N N N (R 123) 343 344),
 (125,K_ "monic_modulo" (top 19) O_ 124),
 (131,L_ "split_modulo" 346 115 3 3 126 (R 127) N (R 128) (R 129) (R 130) 358 359),
 (132,K_ "split_modulo" (top 20) O_ 131),
 (138,L_ "rest_modulo" 361 126 3 3 133 (R 134) N (R 135) (R 136) (R 137) 367 368),
 (139,K_ "rest_modulo" (top 21) O_ 138),
 (145,L_ "euclid_modulo" 370 128 3 3 140 (R 141) N (R 142) (R 143) (R 144) 377 378),
 (146,K_ "euclid_modulo" (top 22) O_ 145),
 (152,L_ "nearest" 380 136 2 3 147 (R 148) N (R 149) (R 150) (R 151) 386 387),
 (153,K_ "nearest" (top 23) O_ 152),
 (157,L_ "common_by_prime" 389 139 3 3 154 (R 155) N N N (R 156) 392 393),
 (158,K_ "common_by_prime" (top 24) O_ 157),
 (164,L_ "row_common" 395 148 2 3 159 (R 160) N (R 161) (R 162) (R 163) 404 405),
 (165,K_ "row_common" (top 25) O_ 164),
 (169,L_ "simple_row" 407 157 1 3 166 (R 167) N N N (R 168) 410 411),
 (170,K_ "simple_row" (top 26) O_ 169),
 (176,L_ "ratio" 415 162 2 3 171 (R 172) N (R 173) (R 174) (R 175) 421 422),
 (177,K_ "ratio" (top 28) bO 176),
 (183,L_ "times" 424 167 2 3 178 (R 179) N (R 180) (R 181) (R 182) 429 430),
 (184,K_ "times" (top 29) bO 183),
 (190,L_ "over" 432 169 2 3 185 (R 186) N (R 187) (R 188) (R 189) 437 438),
 (191,K_ "over" (top 30) bO 190),
 (197,L_ "before" 440 171 2 3 192 (R 193) N (R 194) (R 195) (R 196) 445 446),
 (198,K_ "before" (top 31) bO 197),
 (204,L_ "poly" 450 174 1 3 199 (R 200) N (R 201) (R 202) (R 203) 455 456),
 (205,K_ "poly" (top 33) ay 204),
 (209,L_ "cleared" 458 179 1 3 206 (R 207) N N N (R 208) 461 462),
 (210,K_ "cleared" (top 34) ay 209),
 (214,L_ "uncleared" 464 184 2 3 211 (R 212) N N N (R 213) 467 468),
 (215,K_ "uncleared" (top 35) ay 214),
 (219,L_ "p_scaled" 470 186 2 3 216 (R 217) N N N (R 218) 473 474),
 (220,K_ "p_scaled" (top 36) ay 219),
 (226,L_ "p_split" 476 188 2 3 221 (R 222) N (R 223) (R 224) (R 225) 490 491),
 (227,K_ "p_split" (top 37) ay 226),
 (233,L_ "common" 493 205 2 3 228 (R 229) N (R 230) (R 231) (R 232) 499 500),
 (234,K_ "common" (top 38) ay 233),
 (240,L_ "p_at" 502 208 2 3 235 (R 236) N (R 237) (R 238) (R 239) 511 512),
 (241,K_ "p_at" (top 39) ay 240),
 (247,L_ "fraction" 516 217 2 3 242 (R 243) N (R 244) (R 245) (R 246) 522 523),
 (248,K_ "fraction" (top 41) b_ 247),
 (254,L_ "evened" 525 220 2 3 249 (R 250) N (R 251) (R 252) (R 253) 531 532),
 (255,K_ "evened" (top 42) b_ 254),
 (261,L_ "quotient" 534 223 2 3 256 (R 257) N (R 258) (R 259) (R 260) 539 540),
 (262,K_ "quotient" (top 43) b_ 261),
 (268,L_ "count_between" 544 226 3 3 263 (R 264) N (R 265) (R 266) (R 267) 557 558),
 (269,K_ "count_between" (top 45) a_ 268),
 (275,L_ "stretched" 560 239 3 3 270 (R 271) N (R 272) (R 273) (R 274) 570 571),
 (276,K_ "stretched" (top 46) a_ 275),
 (282,L_ "count_within" 573 252 1 3 277 (R 278) N (R 279) (R 280) (R 281) 583 584),
 (283,K_ "count_within" (top 47) a_ 282),
 (287,L_ "halved" 586 268 1 3 284 (R 285) N N N (R 286) 589 590),
 (288,K_ "halved" (top 48) a_ 287),
 (294,L_ "sign_changes" 592 271 1 3 289 (R 290) N (R 291) (R 292) (R 293) 599 600),
 (295,K_ "sign_changes" (top 49) a_ 294),
 (301,L_ "holes" 604 281 3 3 296 (R 297) N (R 298) (R 299) (R 300) 611 612),
 (302,K_ "holes" (top 51) mo5 301),
 (308,L_ "_law_at" 616 285 2 3 303 (R 304) N (R 305) (R 306) (R 307) 621 622),
 (309,K_ "_law_at" (top 53) Y_ 308),
 (315,L_ "_law_draw" 624 289 3 3 310 (R 311) N (R 312) (R 313) (R 314) 631 632),
 (316,K_ "_law_draw" (top 54) Y_ 315),
 (322,L_ "_law_number" 634 294 2 3 317 (R 318) N (R 319) (R 320) (R 321) 641 642),
 (323,K_ "_law_number" (top 55) Y_ 322),
 (329,L_ "_law_plus" 644 301 2 3 324 (R 325) N (R 326) (R 327) (R 328) 649 650),
 (330,K_ "_law_plus" (top 56) Y_ 329),
 (336,L_ "_law_times" 652 303 2 3 331 (R 332) N (R 333) (R 334) (R 335) 657 658),
 (337,K_ "_law_times" (top 57) Y_ 336),
 (343,L_ "_law_not_above" 660 305 2 3 338 (R 339) N (R 340) (R 341) (R 342) 665 666),
 (344,K_ "_law_not_above" (top 58) Y_ 343),
 (357,L_ "_law_product" 676 314 2 3 352 (R 353) N (R 354) (R 355) (R 356) 684 685),
 (358,K_ "_law_product" (top 60) Y_ 357),
 (364,L_ "_law_bottom" 687 320 1 3 359 (R 360) N (R 361) (R 362) (R 363) 700 701),
 (365,K_ "_law_bottom" (top 61) Y_ 364),
 (371,L_ "_law_below_root" 703 341 3 3 366 (R 367) N (R 368) (R 369) (R 370) 710 711),
 (372,K_ "_law_below_root" (top 62) Y_ 371),
 (378,L_ "_law_below_cube" 713 346 2 3 373 (R 374) N (R 375) (R 376) (R 377) 718 719),
 (379,K_ "_law_below_cube" (top 63) Y_ 378),
 (385,L_ "_law_due" 721 348 5 3 380 (R 381) N (R 382) (R 383) (R 384) 733 734),
 (386,K_ "_law_due" (top 64) Y_ 385),
 (392,L_ "law" 736 361 1 3 387 (R 388) N (R 389) (R 390) (R 391) 749 750),
 (393,K_ "law" (top 65) Y_ 392)]
noncomputable def as:dN:=[3,15,21,22,28,29,33,34,40,41,45,46,50,51,57,58,64,65,69,70,76,77,81,82,86,87,93,94,100,101,107,108,112,113,119,120,124,125,131,132,138,139,145,146,152,153,157,158,164,165,169,170,176,177,183,184,190,191,197,198,204,205,209,210,214,215,219,220,226,227,233,234,240,241,247,248,254,255,261,262,268,269,275,276,282,283,287,288,294,295,301,302,308,309,315,316,322,323,329,330,336,337,343,344,357,358,364,365,371,372,378,379,385,386,392,393]
noncomputable def vw:Program:=W.view PySem.Challenge.pw_backslope_k77_holes_counted [65]
noncomputable def lo:dM:=(["EXPONENTS","common_divisor","raised","content","row_trimmed","row_parted","row_slope","row_over","root_exponent","row_less","row_moved","strand_rest","strand_shortened","row_shortened","strand_euclid","inverse_modulo","rests_modulo","row_modulo","monic_modulo","split_modulo","rest_modulo","euclid_modulo","nearest","common_by_prime","row_common"]:dM)++(["simple_row","ratio","times","over","before","poly","cleared","uncleared","p_scaled","p_split","common","p_at","fraction","evened","quotient","count_between","stretched","count_within","halved","sign_changes","holes","_law_at","_law_draw","_law_number","_law_plus"]:dM)++(["_law_times","_law_not_above","_law_is_number","_law_product","_law_bottom","_law_below_root","_law_below_cube","_law_due"]:dM)
noncomputable def hk:W.Hook:=W.kHook hp as (λ_=>by kernel_rfl)
def left:W.LeftO PySem.Challenge.pw_backslope_k77_holes_counted vw lo (λs=>W.xlAt vw [] s && W.recOk (W.RowW.records (W.OpenRow.toRowW (W.OpenLaw.row PySem.Challenge.rw_backslope_k77_holes_counted))) s) hk.obs hk.val 3868:=λw=>by kernel_rfl
def sd:PySem.Challenge.rw_backslope_k77_holes_counted.wellSaid=true:=by decide +kernel
end Bs.Hd
namespace Bs
def Bd (n:Nat) (x:Int):Prop:=x.natAbs<2 ^ n
def Bd.mono {m n:Nat} {x:Int} (h:Bd m x) (a:m<=n):Bd n x:=B8 h (CK ∅ a)
def Bd.le {n:Nat} {x y:Int} (h:Bd n x) (a:y.natAbs<=x.natAbs):Bd n y:=B5 a h
def Bd.neg {n:Nat} {x:Int} (h:Bd n x):Bd n (-x):=by unfold Bd at *;rw [Int.natAbs_neg];exact h
def Bd.add {n:Nat} {x y:Int} (h:Bd n x) (h':Bd n y):Bd (n+1) (x+y):=by
 unfold Bd at *;have:=Int.natAbs_add_le x y;rw [CL];omega
def Bd.sub {n:Nat} {x y:Int} (h:Bd n x) (h':Bd n y):Bd (n+1) (x - y):=by
 rw [Int.sub_eq_add_neg];exact h.add h'.neg
def Bd.mul {m n:Nat} {x y:Int} (h:Bd m x) (h':Bd n y):Bd (m+n) (x*y):=by
 unfold Bd at *;rw [Az,Ck];exact Nat.mul_lt_mul'' h h'
def WV {x:Int} (a:-18446744073709551616<x) (b:x<18446744073709551616):Bd 64 x:=by
 unfold Bd;have:(2:Nat) ^ 64=18446744073709551616:=by decide
 rw [this];omega
def Bd.log2 {n:Nat} {x:Int} (h:Bd n x) (a:0<n):x.natAbs.log2<n:=by
 unfold Bd at h;rcases DS x.natAbs with b | hp
 ·rw [b];simpa using a
 ·exact (Nat.log2_lt (Nat.ne_of_gt hp)).mpr h
structure Low (t d:Int):Prop where
 pos:0<d
 one:Int.gcd t d=1
def Nt (a b:Int):Int.gcd b (a.fmod b)=Int.gcd a b:=by
 have e:a.fmod b=a - b*a.fdiv b:=Int.fmod_def a b;rw [e];apply Nat.dvd_antisymm
 ·apply Int.dvd_gcd
  ·have f:=E5 b (a - b*a.fdiv b);have g:=EJ b (a - b*a.fdiv b);have d:=DL g (GT (c:=a.fdiv b) f);rw [Int.sub_add_cancel] at d;exact d
  ·exact E5 b _
 ·apply Int.dvd_gcd
  ·exact EJ a b
  ·exact Int.dvd_sub (E5 a b) (GT (EJ a b))
def Kn (a:Int) {b:Int} (h:0<=b):Int.gcd b (a % b)=Int.gcd a b:=by
 rw [<-Int.fmod_eq_emod_of_nonneg a h,Nt]
def WW (a:Int) {b:Int} (h:b≠0):(a.fmod b).natAbs<b.natAbs:=by
 rcases Int.lt_or_gt_of_ne h with d | d
 ·rw [Int.fmod_eq_emod];have e:=Ca a h;have f:=Int.emod_lt a h;split
  ·rename_i c;rcases c with c | c
   ·omega
   ·have:a % b=0:=Int.emod_eq_zero_of_dvd c;omega
  ·rename_i c;have:a % b≠0:=λz=>c (.inr (Int.dvd_of_emod_eq_zero z));omega
 ·rw [Int.fmod_eq_emod_of_nonneg a (DT d)];have e:=Ca a h;have f:=Cm a d;omega
def JD {a b s:Int} (m:b≠0) (j:s=if b<0 then -((Int.gcd a b:Nat):Int) else ((Int.gcd a b:Nat):Int)) :
  s≠0/\s.natAbs<=b.natAbs/\Low (a.fdiv s) (b.fdiv s)/\a.fdiv s*b=a*b.fdiv s/\(a.fdiv s).natAbs<=a.natAbs/\(b.fdiv s).natAbs<=b.natAbs:=by
 have w:0<Int.gcd a b:=Int.gcd_pos_of_ne_zero_right a m;have e:s.natAbs=Int.gcd a b:=by rw [j];split <;> simp
 have k:s≠0:=by intro z;rw [z] at e;simp at e;omega
 have p:s∣a:=by
  rw [<-Int.natAbs_dvd,e];exact E5 a b
 have q:s∣b:=by
  rw [<-Int.natAbs_dvd,e];exact EJ a b
 obtain ⟨t,rfl⟩:=p;obtain ⟨d,rfl⟩:=q;rw [Int.mul_fdiv_cancel_left _ k,Int.mul_fdiv_cancel_left _ k];have n:d≠0:=by rintro rfl;simp at m
 have o:1<=s.natAbs:=by omega
 have r:Int.gcd t d=1:=by
  rw [Int.gcd_mul_left] at e;have u:s.natAbs*Int.gcd t d=s.natAbs*1:=by omega
  exact Nat.eq_of_mul_eq_mul_left o u
 have v:0<d:=by
  by_cases h:s*d<0
  ·rw [sZ h] at j;have f:s<0:=by omega
   rcases Int.lt_or_gt_of_ne n with c | c
   ·have:=Int.mul_pos_of_neg_of_neg f c;omega
   ·exact c
  ·rw [sY h] at j;have g:0<s:=by omega
   rcases Int.lt_or_gt_of_ne n with c | c
   ·have:=Int.mul_neg_of_pos_of_neg g c;omega
   ·exact c
 have i:∀ y:Int,y.natAbs<=(s*y).natAbs:=λy=>by
  rw [Az];exact GU _ o
 refine ⟨k,?_,⟨v,r⟩,?_,i t,i d⟩
 ·rw [Az];exact GV _ ⋯
 ·ext
def Ko {a b:Int} (f:0<b):Low (a / ((Int.gcd a b:Nat):Int)) (b / ((Int.gcd a b:Nat):Int))/\(a / ((Int.gcd a b:Nat):Int)).natAbs<=a.natAbs/\(b / ((Int.gcd a b:Nat):Int)).natAbs<=b.natAbs/\0<((Int.gcd a b:Nat):Int)/\((Int.gcd a b:Nat):Int)<=b:=by
 have g:0<Int.gcd a b:=Int.gcd_pos_of_ne_zero_right a ⋯;obtain ⟨_,h,c,i,d,e⟩:=JD (a:=a) (b:=b) (s:=((Int.gcd a b:Nat):Int)) ⋯ (by rw [sY ⋯]);rw [EK _ ⋯,EK _ ⋯] at c;rw [EK _ ⋯] at d e;exact ⟨c,d,e,⋯,⋯⟩
end Bs
namespace Bs
open PySem L2
def Kq (_ j:Int):Prop:=0<j/\Bd 9000 j
def WX (_ j:Int):Prop:=j≠0/\Bd 9000 j
def WY (i j:Int):Prop:=0<=j/\j<=1000000/\i.natAbs<2 ^ 64
abbrev BQ:R2:=a8 λi j=>.int (i+j)
abbrev BM:R2:=a8 λi j=>.int (i - j)
abbrev Ah:R2:=rI IntMulOk λi j=>.int (i*j)
abbrev Hg:R2:=rI Kq λi j=>.int (i / j)
abbrev WZ:R2:=rI WX λi j=>.int (i.fdiv j)
abbrev DH:R2:=rI (λ_ j=>0<j) λi j=>.int (i % j)
abbrev Nv:R2:=rI (λ_ j=>j≠0) λi j=>.int (i.fmod j)
abbrev Kr:R2:=rI WY λi j=>.int (i ^ j.toNat)
abbrev ah:R2:=a8 λi j=>.bl (decide (i<j))
abbrev cM:R2:=a8 λi j=>.bl (decide (i<=j))
abbrev aE:R2:=a8 λi j=>.bl (decide (j<i))
abbrev cN:R2:=a8 λi j=>.bl (decide (j<=i))
abbrev BZ:V->Hp->VK->Prop:=rU λi=>.int (-i)
def gT:R2:=λx y H Q=>∃ p i a v,x=.ref p/\y=.int i/\H p=some (.tup a)/\O' a i=some v/\Q v H
def gL:R2:=λx y H Q=>∃ p i a v,x=.ref p/\y=.int i/\H p=some (.lst a)/\O' a i=some v/\Q v H
def gS (K:W.Frag):R2:=λx y H Q=>∃ p i a v,x=.ref p/\y=.int i/\SqL K H p a/\O' a i=some v/\Q v H
def Gf:dz->Hp->VK->Prop:=λa H Q=>∃ i,a=[.int i]/\Q (.int (if i<0 then -i else i)) H
def F7:dz->Hp->VK->Prop:=λa H Q=>∃ i j,a=[.int i,.int j]/\Q (.int (if j > i then j else i)) H
def Wa:dz->Hp->VK->Prop:=λa H Q=>∃ i j,a=[.int i,.int j]/\Q (.int (if j<i then j else i)) H
def Ks:dz->Hp->VK->Prop:=λa H Q=>∃ k,a=[.bl k]/\Q (.int (if k=true then 1 else 0)) H
def Gg:dz->Hp->VK->Prop:=λb H Q=>∃ p a,b=[.ref p]/\H p=some (.tup a)/\Q (.int a.length) H
def BU:dz->Hp->VK->Prop:=λb H Q=>∃ p a,b=[.ref p]/\H p=some (.lst a)/\Q (.int a.length) H
def Kt (K:W.Frag):dz->Hp->VK->Prop:=λb H Q=>∃ p a,b=[.ref p]/\SqL K H p a/\Q (.int a.length) H
noncomputable def Wc:Option HO->String->Option Bool
 | some (.tup _),n=>if n = "tuple" then some true else if n = "bool" \/ n = "int" \/ n = "list" then some false else none
 | some (.lst _),n=>if n = "list" then some true else if n = "bool" \/ n = "int" \/ n = "tuple" then some false else none
 | _,_=>none
noncomputable def JE (H:Hp):V->String->Option Bool
 | .int _,n=>if n = "int" then some true else if n = "bool" \/ n = "tuple" \/ n = "list" then some false else none
 | .bl _,n=>if n = "int" \/ n = "bool" then some true else if n = "tuple" \/ n = "list" then some false else none
 | .ref p,n=>Wc (H p) n
 | _,_=>none
def Wd:dz->Hp->VK->Prop:=λa H Q=>∃ x n b,a=[x,.ty n]/\JE H x n=some b/\Q (.bl b) H
def We (H:Hp) (i:Int):JE H (.int i) "int" = some true:=rfl
def Wf (H:Hp) (i:Int):JE H (.int i) "bool" = some false:=rfl
def Wg (H:Hp) (b:Bool):JE H (.bl b) "bool" = some true:=rfl
noncomputable def Nw:V->Bool
 | .int _=>true
 | _=>false
def eqT:R2:=λx y H Q=>∃ a b c d,x=.ref a/\y=.ref b/\H a=some (.tup c)/\H b=some (.tup d)/\c.all Nw=true/\d.all Nw=true/\Q (.bl (decide (c=d))) H
def ForR (lo:Int) (n:Nat) (g:TG) (e:TS) (D:Ends) (σ:St) (H:Hp):Prop:=∃ W:Nat->Nat->St->Hp->Prop,(∃ m,W 0 m σ H)/\∀ i m σ H,W i m σ H->
 ((aD lo n).stop i H/\D.nx σ H)\/((aD lo n).go i H/\∃ N:St->Hp->Prop,(∀ a b,N a b->∃ d,d<m/\W (i+1) d a b)/\∀ x b,(aD lo n).yld i H x b->g x σ b λc f=>e { D with nx:=N,ct:=N,bk:=D.nx } c f)
def Wh {a:TA} {g:TG} {b:TS} {D:Ends} {σ:St} {H:Hp}:BH (EC a) g b D σ H=a σ H (λc d=>∃ j:Int,c=[.int j]/\-(2 ^ 62)<=j/\j<2 ^ 62/\ForR 0 j.toNat g b D σ d):=rfl
def Wi {a:TA} {g:TG} {b:TS} {D:Ends} {σ:St} {H:Hp}:BH (HW a) g b D σ H=a σ H (λc d=>∃ i j:Int,c=[.int i,.int j]/\(-(2 ^ 62)<=i/\i<2 ^ 62/\-(2 ^ 62)<=j/\j<2 ^ 62)/\ForR i (j - i).toNat g b D σ d):=rfl
def ForR.by {lo:Int} {n:Nat} {g:TG} {b:TS} {D:Ends} {σ:St} {H:Hp} (Pv:Nat->St->Hp->Prop) (c:Pv 0 σ H)
  (d:∀ i σ H,i<n->Pv i σ H->g (.int (lo+i)) σ H λa e=>b { D with nx:=Pv (i+1),ct:=Pv (i+1),bk:=D.nx } a e) (f:∀ σ H,Pv n σ H->D.nx σ H):ForR lo n g b D σ H:=Uq Pv c d f
def ForT (K:W.Frag) (a:Addr) (g:TG) (f:TS) (D:Ends) (σ:St) (H:Hp):Prop:=∃ W:Nat->Nat->St->Hp->Prop,(∃ m,W 0 m σ H)/\∀ i m σ H,W i m σ H->
 ((aZ K a).stop i H/\D.nx σ H)\/((aZ K a).go i H/\∃ N:St->Hp->Prop,(∀ b c,N b c->∃ e,e<m/\W (i+1) e b c)/\∀ x c,(aZ K a).yld i H x c->g x σ c λd h=>f { D with nx:=N,ct:=N,bk:=D.nx } d h)
def ForL (K:W.Frag) (a:Addr) (g:TG) (f:TS) (D:Ends) (σ:St) (H:Hp):Prop:=∃ W:Nat->Nat->St->Hp->Prop,(∃ m,W 0 m σ H)/\∀ i m σ H,W i m σ H->
 ((aB K a).stop i H/\D.nx σ H)\/((aB K a).go i H/\∃ N:St->Hp->Prop,(∀ b c,N b c->∃ e,e<m/\W (i+1) e b c)/\∀ x c,(aB K a).yld i H x c->g x σ c λd h=>f { D with nx:=N,ct:=N,bk:=D.nx } d h)
def Wj {K:W.Frag} {b:TE} {g:TG} {c:TS} {D:Ends} {σ:St} {H:Hp}:BH (FC K b) g c D σ H=b σ H (λx d=>∃ a,x=.ref a/\(∃ e,SqT K d a e)/\ForT K a g c D σ d):=rfl
def Wk {K:W.Frag} {b:TE} {g:TG} {c:TS} {D:Ends} {σ:St} {H:Hp}:BH (Cb K b) g c D σ H=b σ H (λx d=>∃ a,x=.ref a/\(∃ e,SqL K d a e)/\ForL K a g c D σ d):=rfl
def ForT.by {K:W.Frag} {a:Addr} {xs:dz} {g:TG} {c:TS} {D:Ends} {σ:St} {H:Hp} (Pv:Nat->St->Hp->Prop) (d:Pv 0 σ H) (hl:∀ i σ H,i<=xs.length->Pv i σ H->H a=some (.tup xs))
  (e:∀ i x σ H,xs[i]?=some x->Pv i σ H->g x σ H λb f=>c { D with nx:=Pv (i+1),ct:=Pv (i+1),bk:=D.nx } b f) (j:∀ σ H,Pv xs.length σ H->D.nx σ H):ForT K a g c D σ H:=
 NR Pv d (λi σ H h p=>SqT.of (hl i σ H h p)) e j
def ForL.by {K:W.Frag} {a:Addr} {xs:dz} {g:TG} {c:TS} {D:Ends} {σ:St} {H:Hp} (Pv:Nat->St->Hp->Prop) (d:Pv 0 σ H) (hl:∀ i σ H,i<=xs.length->Pv i σ H->SqL K H a xs)
  (e:∀ i x σ H,xs[i]?=some x->Pv i σ H->g x σ H λb f=>c { D with nx:=Pv (i+1),ct:=Pv (i+1),bk:=D.nx } b f) (h:∀ σ H,Pv xs.length σ H->D.nx σ H):ForL K a g c D σ H:=
 Up Pv d hl e h
def ET {c:TT} {d:TS} {D:Ends} {σ:St} {H:Hp} (W:Nat->St->Hp->Prop) (m:Nat) (h:W m σ H)
  (i:∀ m σ H,W m σ H->c σ H λb e=>if b=true then ∃ N:St->Hp->Prop,(∀ a f,N a f->∃ g,g<m/\W g a f)/\d { D with nx:=N,ct:=N,bk:=D.nx } σ e else D.nx σ e):Ds c d D σ H:=⟨W,⟨m,h⟩,i⟩
def Gh {t u:TS} {D:Ends} {σ:St} {H:Hp} (h:t { D with nx:=u D } σ H):AF t u D σ H:=h
def Kp (p:Addr) (H a:Hp):Prop:=∀ b o,b≠p->H b=some o->a b=some o
def Kp.of_same {p:Addr} {H a:Hp} (b:Same H a):Kp p H a:=λc o _ h=>b c o h
def Kp.upd {p:Addr} {H:Hp} {o:HO}:Kp p H (upd H p o):=λb u n h=>by rw [Aw n];exact h
def AQ {H:Hp} {p:Addr} (h:H p=none) (o:HO):Same H (upd H p o):=λb u q=>by rw [Aw (BA q h)];exact q
def sz {n:Nat} (h:n<=1000000):n<=sizeLine:=by rw [sizeLine_eq];omega
def DX {c:Type} (a b:c):O' [a,b] 0=some a:=rfl
def DY {c:Type} (a b:c):O' [a,b] 1=some b:=rfl
def Wl {d:Type} (a b c:d):O' [a,b,c] 0=some a:=rfl
def Wm {d:Type} (a b c:d):O' [a,b,c] 1=some b:=rfl
def Wn {d:Type} (a b c:d):O' [a,b,c] 2=some c:=rfl
def Wp (a b:Int):scal (.int a) (.int b)=true:=rfl
def Wq (a b:Bool):scal (.bl a) (.bl b)=true:=rfl
def Wr:av 3 0=some 0:=rfl
def Ws:av 3 2=some 2:=rfl
end Bs
namespace Bs
open PySem PySem.Spec PyProof.Rows L2
def JF:bootBuiltins "abs" = some (.builtin "abs"):=by decide +kernel
def BR:bootBuiltins "len" = some (.builtin "len"):=by decide +kernel
def Gi:bootBuiltins "max" = some (.builtin "max"):=by decide +kernel
def Wt:bootBuiltins "min" = some (.builtin "min"):=by decide +kernel
def Nx:bootBuiltins "isinstance" = some (.builtin "isinstance"):=by decide +kernel
def Ny:bootBuiltins "int" = some (.type "int"):=by decide +kernel
def Wu:bootBuiltins "bool" = some (.type "bool"):=by decide +kernel
def N5:bootBuiltins "tuple" = some (.type "tuple"):=by decide +kernel
def JG:bootBuiltins "list" = some (.type "list"):=by decide +kernel
def Wv:bootBuiltins "enumerate" = some (.type "enumerate"):=by decide +kernel
def Ww:bootBuiltins "zip" = some (.type "zip"):=by decide +kernel
def Wx:bootBuiltins "reversed" = some (.type "reversed"):=by decide +kernel
section
variable {X:Cx}
def N6 {n:Nat} {x:Int} (h:Bd n x):Builtin.Int.intBits x<=n:=by
 unfold Builtin.Int.intBits;split
 ·exact Aa _
 ·rename_i a
  have b:x.natAbs≠0:=λz=>a (by have e:x=0:=by omega
                               subst e;rfl)
  have:=(Nat.log2_lt b).mpr h;omega
def Ay:OpR X (binaryOp .Mult) Ah:=bH λ_ _ _ _ _ _ _ a q=>mul_int q a
def FF:OpR X (inplaceOp .Mult) Ah:=bH λ_ _ _ _ _ _ _ a q=>imul_int q a
def Wy:OpR X (binaryOp .FloorDiv) Hg:=bH λi j _ _ _ _ _ a q=>by
 refine floordiv_int (AU a.1) ?_ (.inl (PyProof.noPylong_of_log2 (a.2.log2 ∅)));rw [EK i (DT a.1)];exact q
def Wz:OpR X (binaryOp .Pow) Kr:=bH λ_ _ _ _ _ _ _ a q=>pow_int_small a.1 a.2.1 a.2.2 q
def AY:bP X gT:=by
 intro a b c s d H x y v u Q I e f h g;obtain ⟨p,i,j,w,k,m,hp,n,q⟩:=h;exact VF a b c s d H x y v u Q I e f ⟨p,j,i,w,k,m,SqT.of hp,n,q⟩ g
def BK:bP X gL:=by
 intro a b c s d H x y v u Q I e f h g;obtain ⟨p,i,j,w,k,m,hp,n,q⟩:=h;exact Nk a b c s d H x y v u Q I e f ⟨p,j,i,w,k,m,SqL.of hp,n,q⟩ g
def W0:bP X (gS X.K):=by
 intro a b c s d H x y v u Q I e f h g;obtain ⟨p,i,j,w,k,m,hp,n,q⟩:=h;exact Nk a b c s d H x y v u Q I e f ⟨p,j,i,w,k,m,hp,n,q⟩ g
def JH:Cp X (.builtin "abs") Gf:=U0
def Hh (a:X.calm=true):Cp X (.builtin "max") F7:=U3 a
def W2:Cp X (.type "int") Ks:=λa s b H c d Q I r h=>U4 a s b H c d Q I r (.inr h)
def JI:Cp X (.builtin "len") Gg:=λa s b H c d Q I r h=>by
 obtain ⟨p,f,e,hp,q⟩:=h;exact Ki a s b H c d Q I r ⟨p,f,e,.inr (SqT.of hp),q⟩
def Bv:Cp X (.builtin "len") BU:=λa s b H c d Q I r h=>by
 obtain ⟨p,f,e,hp,q⟩:=h;exact Ki a s b H c d Q I r ⟨p,f,e,.inl (SqL.of hp),q⟩
def W3:Cp X (.builtin "len") (Kt X.K):=λa s b H c d Q I r h=>by
 obtain ⟨p,f,e,hp,q⟩:=h;exact Ki a s b H c d Q I r ⟨p,f,e,.inl hp,q⟩
end
structure Cal (P:Program) (w:World) (K:W.Frag) (mg:dJ) (base:Heap) (n:Nat) (x:Str) (ps:dM) (sp:Sp):Prop where
 ex:∃ (f:Addr) (fd:FuncData),FnOk P w K mg base aQ n f fd ps sp/\Binds K fd ps []/\W.keepIn K (.ref f)=true/\mg x=some (.ref f)
def Cal.pe {X:Cx} {n m:Nat} {x:Str} {ps:dM} {sp:Sp} {e:Expr} {a:dL} {t:TA} {p c:Pos} (C:Cal X.prog X.w X.K X.mg X.base n x ps sp) (h:Room m X.A) (i:n<=m) (j:Gl X x) (o:PA X (e::a) t)
  (d:(x == ("__debug__" : Str))=false:=by decide) (q:starEach (e::a) X.env=(false,eval e X.env)::starEach a X.env:=by rfl) (g:(backTo c (starEach a X.env)).any (·.1)=false:=by rfl) :
  PE X (.Call (.Name x p) (e::a) [] c) (AK sp [] E0 t):=by
 obtain ⟨f,r,F,b,k,m⟩:=C.ex;exact U6 F (h.mono i) j m k b .nil VW o d q g
end Bs
namespace Bs
open PySem L2
noncomputable def C6 (capt:List (Option Nat)) (σ:L2.St):L2.St:=capt.map λo=>o.bind λj=>(σ[j]?).join
def CY (e:TI) (capt:List (Option Nat)) (g:TG) (te:TE):TE:=λc H Q=>e c H λJ f=>∃ (n:Nat) (W:Nat->dz->Hp->Prop),W 0 [] f/\∀ i a H,W i a H->i<=n/\a.length<=sizeLine/\
 ((J.stop i H/\∀ p,H p=none->Q (.ref p) (upd H p (.lst a)))\/(i<n/\J.go i H/\∀ x d,J.yld i H x d->g x (C6 capt c) d λb h=>te b h λy j=>W (i+1) (a++[y]) j))
def CompJ (J:It) (capt:List (Option Nat)) (g:TG) (te:TE) (σ:L2.St) (Q:VK) (d:Hp):Prop:=∃ (n:Nat) (W:Nat->dz->Hp->Prop),W 0 [] d/\∀ i a H,W i a H->i<=n/\a.length<=sizeLine/\
 ((J.stop i H/\∀ p,H p=none->Q (.ref p) (upd H p (.lst a)))\/(i<n/\J.go i H/\∀ x c,J.yld i H x c->g x (C6 capt σ) c λb e=>te b e λy f=>W (i+1) (a++[y]) f))
section
variable {K:W.Frag} {ta:TA} {tl:TE} {capt:List (Option Nat)} {g:TG} {te:TE} {σ:L2.St} {H:Hp} {Q:VK}
def W4:CY (EC ta) capt g te σ H Q=ta σ H (λa b=>∃ j:Int,a=[.int j]/\-(2 ^ 62)<=j/\j<2 ^ 62/\CompJ (aD 0 j.toNat) capt g te σ Q b):=rfl
def W5:CY (HW ta) capt g te σ H Q=ta σ H (λa b=>∃ i j:Int,a=[.int i,.int j]/\(-(2 ^ 62)<=i/\i<2 ^ 62/\-(2 ^ 62)<=j/\j<2 ^ 62)/\CompJ (aD i (j - i).toNat) capt g te σ Q b):=rfl
def W6:CY (FC K tl) capt g te σ H Q=tl σ H (λx b=>∃ a,x=.ref a/\(∃ c,SqT K b a c)/\CompJ (aZ K a) capt g te σ Q b):=rfl
def W7:CY (Cb K tl) capt g te σ H Q=tl σ H (λx b=>∃ a,x=.ref a/\(∃ c,SqL K b a c)/\CompJ (aB K a) capt g te σ Q b):=rfl
def CompJ.range {lo:Int} {n:Nat} (W:Nat->dz->Hp->Prop) (d:W 0 [] H) (b:∀ i a H,W i a H->i<=n/\a.length<=sizeLine)
  (f:∀ i a H,i<n->W i a H->g (.int (lo+i)) (C6 capt σ) H λc j=>te c j λy k=>W (i+1) (a++[y]) k) (m:∀ a H,W n a H->∀ p,H p=none->Q (.ref p) (upd H p (.lst a))):CompJ (aD lo n) capt g te σ Q H:=by
 refine ⟨n,W,d,λi a H w=>⟨(b i a H w).1,(b i a H w).2,?_⟩⟩;by_cases h:i<n
 ·refine .inr ⟨h,h,λx o y=>?_⟩;obtain ⟨e,y⟩:=y;subst e y;exact f i a _ h w
 ·have e:i=n:=Nat.le_antisymm (b i a H w).1 (DU.mp h);subst e;exact .inl ⟨AS _,m a H w⟩
def CompJ.tup {a:Addr} {xs:dz} (W:Nat->dz->Hp->Prop) (f:W 0 [] H) (c:∀ i b H,W i b H->i<=xs.length/\b.length<=sizeLine/\H a=some (.tup xs))
  (j:∀ i x b H,xs[i]?=some x->W i b H->g x (C6 capt σ) H λd k=>te d k λy m=>W (i+1) (b++[y]) m) (n:∀ b H,W xs.length b H->∀ p,H p=none->Q (.ref p) (upd H p (.lst b))):CompJ (aZ K a) capt g te σ Q H:=by
 refine ⟨xs.length,W,f,λi b H w=>⟨(c i b H w).1,(c i b H w).2.1,?_⟩⟩;have q:SqT K H a xs:=SqT.of (c i b H w).2.2;by_cases h:i<xs.length
 ·refine .inr ⟨h,⟨xs,xs[i],q,by simp [h]⟩,λx o y=>?_⟩;obtain ⟨e,y⟩:=y;subst e;exact j i x b _ (y xs q) w
 ·have e:i=xs.length:=Nat.le_antisymm (c i b H w).1 (DU.mp h);subst e;exact .inl ⟨⟨xs,q,AS _⟩,n b H w⟩
def CompJ.lst {a:Addr} {xs:dz} (W:Nat->dz->Hp->Prop) (f:W 0 [] H) (c:∀ i b H,W i b H->i<=xs.length/\b.length<=sizeLine/\SqL K H a xs)
  (j:∀ i x b H,xs[i]?=some x->W i b H->g x (C6 capt σ) H λd k=>te d k λy m=>W (i+1) (b++[y]) m) (n:∀ b H,W xs.length b H->∀ p,H p=none->Q (.ref p) (upd H p (.lst b))):CompJ (aB K a) capt g te σ Q H:=by
 refine ⟨xs.length,W,f,λi b H w=>⟨(c i b H w).1,(c i b H w).2.1,?_⟩⟩;have q:SqL K H a xs:=(c i b H w).2.2;by_cases h:i<xs.length
 ·refine .inr ⟨h,⟨xs,xs[i],q,by simp [h]⟩,λx o y=>?_⟩;obtain ⟨e,y⟩:=y;subst e;exact j i x b _ (y xs q) w
 ·have e:i=xs.length:=Nat.le_antisymm (c i b H w).1 (DU.mp h);subst e;exact .inl ⟨⟨xs,q,AS _⟩,n b H w⟩
end
noncomputable def F8 (K:W.Frag) (a:Addr):It:=
 ⟨λi H=>∃ b x,SqL K H a b/\b[i]?=some x,λi H v c=>∃ p x,H p=none/\v=.ref p/\c=upd H p (.tup [.int i,x])/\∀ b,SqL K H a b->b[i]?=some x,λi H=>∃ b,SqL K H a b/\b.length<=i⟩
def Gj (K:W.Frag) (c:TA):TI:=λd H R=>c d H λe b=>∃ a,e=[.ref a]/\(∃ f,SqL K b a f)/\R (F8 K a) b
def ForJ (J:It) (g:TG) (e:TS) (D:Ends) (σ:L2.St) (H:Hp):Prop:=∃ W:Nat->Nat->L2.St->Hp->Prop,(∃ m,W 0 m σ H)/\∀ i m σ H,W i m σ H->
 (J.stop i H/\D.nx σ H)\/(J.go i H/\∃ N:L2.St->Hp->Prop,(∀ a b,N a b->∃ d,d<m/\W (i+1) d a b)/\∀ x b,J.yld i H x b->g x σ b λc f=>e { D with nx:=N,ct:=N,bk:=D.nx } c f)
section
variable {K:W.Frag} {ta:TA} {g:TG} {tb:TS} {D:Ends} {σ:L2.St} {H:Hp} {a:Addr} {xs:dz}
def W8:BH (Gj K ta) g tb D σ H=ta σ H (λc b=>∃ a,c=[.ref a]/\(∃ xs,SqL K b a xs)/\ForJ (F8 K a) g tb D σ b):=rfl
def W9 {capt:List (Option Nat)} {te:TE} {Q:VK}:CY (Gj K ta) capt g te σ H Q=ta σ H (λc b=>∃ a,c=[.ref a]/\(∃ xs,SqL K b a xs)/\CompJ (F8 K a) capt g te σ Q b):=rfl
def ForJ.enumL (Pv:Nat->L2.St->Hp->Prop) (d:Pv 0 σ H) (hl:∀ i σ H,i<=xs.length->Pv i σ H->SqL K H a xs)
  (f:∀ i x p σ H,xs[i]?=some x->Pv i σ H->H p=none->g (.ref p) σ (upd H p (.tup [.int i,x])) λb h=>tb { D with nx:=Pv (i+1),ct:=Pv (i+1),bk:=D.nx } b h) (j:∀ σ H,Pv xs.length σ H->D.nx σ H):ForJ (F8 K a) g tb D σ H:=by
 refine ⟨λi m σ H=>m=xs.length - i/\i<=xs.length/\Pv i σ H,⟨xs.length,by simp,Aa _,d⟩,?_⟩;rintro i m σ H ⟨rfl,k,pv⟩;have q:=hl i σ H k pv;by_cases c:i<xs.length
 ·refine .inr ⟨⟨xs,xs[i],q,by simp [c]⟩,Pv (i+1),λn o r=>⟨xs.length - (i+1),⋯,rfl,c,r⟩,λx o y=>?_⟩;obtain ⟨p,u,hp,rfl,rfl,y⟩:=y;exact f i u p σ _ (y xs q) pv hp
 ·have e:i=xs.length:=by omega
  subst e;exact .inl ⟨⟨xs,q,AS _⟩,j σ H pv⟩
end
end Bs
namespace Bs
open PySem PySem.Spec PyProof.Rows L2
noncomputable def X' (X:Cx) (N:dM) (a:Scope) (e:List (Str×Addr)) (C:Addr) (s:Shared) (H:Hp) (f:dN):Cx:=
 { X with N:=N,s₀:=s,H₀:=H,env:=compEnvC a e C X.env,outer:=X.stack,stack:=X.stack,ex:=f,fn:=λ_=>false,pn:=[],xe:=λ_ _=>False }
structure BlkOk (X:Cx) (N:dM) (capt:List (Option Nat)) (scope:Scope) (cl:List (Str×Addr)):Prop where
 kind:scope.kind=.function
 clos:closureFor scope X.env=pure cl
 nocell:∀ y∈scope.names,y.2≠.cell
 names:∀ y∈scope.names,y.2=.local->scope.names.lookup y.1=some .local
 cells:∀ y c,cl.lookup y=some c->X.env.cells.lookup y=some c
 has:∀ y,((relabel scope X.env).names.lookup y=some .cell\/(relabel scope X.env).names.lookup y=some .free)->∃ c,cl.lookup y=some c
 cap:∀ (i:Nat) (x:Str) (j:Nat),N[i]?=some x->capt[i]?=some (some j)->X.N[j]?=some x/\cf X.env.scope x/\X.env.kindOf x≠some .local/\((relabel scope X.env).names.lookup x=some .cell\/(relabel scope X.env).names.lookup x=some .free)
 len:capt.length=N.length
section
variable {X:Cx} {pins:dH} {σ:L2.St} {H:Hp} {s:Shared} {N:dM} {capt:List (Option Nat)} {scope:Scope} {cl:List (Str×Addr)} {C:Addr} {fp:dN}
def N7 (B:BlkOk X N capt scope cl) (I:Inv X pins σ H s) (d:∀ b∈fp,DW X pins H b) (g:∀ b∈fp,b<s.heap.objs.size) (f:s.heap.objs.size<=C):(X' X N scope cl C s H fp).Ok where
 mod:=I.ok.mod
 kind:=B.kind
 glob:=I.ok.glob
 blt:=I.ok.blt
 above:=f
 inj:=λx y c i j=>I.ok.inj x y c (B.cells x c i) (B.cells y c j)
 has:=λx h=>B.has x h
 cab:=λ_ _ h=>nomatch h
 hd:=I.ok.hd
 frames:=I.ok.frames
 stk:=.inl rfl
 exf:=λb a=>⟨λe=>absurd (B8 (g b a) f) (by rw [show b=C from e];exact Dj _),λx c e=>(d b a).2.2.2.2.1 x c (B.cells x c e)⟩
 bs:=I.bs
 bsz:=Bx I.ok.bsz I.sz
 noex:=λb o e a=>by
  rcases (d b a).2.2.2.1 with z | z
  ·exact I.ok.noex b o e z
  ·exact absurd (B8 (rH e) (Bx I.ok.bsz z)) (Dj _)
 exfs:=λb a k=>by
  rcases By.mp (I.stkSub b k) with z | z
  ·exact (d b a).2.1 z
  ·exact (d b a).2.2.1 z
 funs:=I.stack
 frf:=I.stkFree
 seer:=I.ok.seer
 tree:=I.ok.tree
 plr:=I.ok.plr
def XA (B:BlkOk X N capt scope cl) (I:Inv X pins σ H s) (E:∀ b∈fp,DW X pins H b) (F:∀ b∈fp,b<s.heap.objs.size) (y:s.heap.objs.size<=C) {g:Heap} {m:dJ} {tk:Nat}
  (G:g.Ns C m) (hk:∀ b o,s.heap.get? b=some o->g.get? b=some o):Inv (X' X N scope cl C s H fp) [] (C6 capt σ) H { s with heap:=g,toks:=tk } where
 ok:=N7 B I E F y
 os:=rfl
 bare:=I.bare
 base:=Un.kept hk
 loc:=by
  refine ⟨m,G,λi x v J K T=>?_⟩;have a:(capt.map λo=>o.bind λj=>(σ[j]?).join)[i]?=some (some v):=K;rw [Ae] at a;cases h:capt[i]? with
  | none=>rw [h] at a;cases a
  | some o=>
    rw [h] at a;cases o with
    | none=>cases a
    | some j=>
      have f:(σ[j]?).join=some v:=rG a;obtain ⟨L,M,O,D⟩:=B.cap i x j J h
      have P:σ[j]?=some (some v):=by
       cases q:σ[j]? with
       | none=>rw [q] at f;cases f
       | some w=>rw [q] at f;exact congrArg some f
      obtain ⟨U,_,hl⟩:=I.loc;obtain ⟨u,r,l⟩:=hl j x v L P M;refine ⟨u,r,.inr ⟨D,?_⟩⟩;rcases l with ⟨l,_⟩ | ⟨_,c,Q,R⟩
      ·exact absurd l O
      ·obtain ⟨S,d⟩:=B.has x D;have:=B.cells x S d;rw [Q] at this;cases this;obtain ⟨o,k,n⟩:=R;exact ⟨c,d,o,hk c o k,n⟩
 cell:=λx c e=>by
  obtain ⟨v,o,k,n⟩:=I.cell x c (B.cells x c e);exact ⟨v,o,hk c o k,n⟩
 free:=I.hok.fresh y
 freeC:=λx c e=>I.freeC x c (B.cells x c e)
 pin:=λp hp=>nomatch hp
 hok:=I.hok.kept hk
 len:=by show (capt.map _).length=N.length;rw [AJ];exact B.len
def N8 {h:L2.St} {p:Hp} {y:Shared} {d:dH} (B:BlkOk X N capt scope cl) (I:Inv X pins σ H s) (A:∀ b∈fp,DW X pins H b) (e:Inv (X' X N scope cl C s H fp) d h p y):Inv (X' X N scope cl C s H fp) d (C6 capt σ) p y:=
 ⟨e.ok,e.os,e.bare,e.base,by
  obtain ⟨m,D,_⟩:=e.loc;refine ⟨m,D,λi x v E F S=>?_⟩;have a:(capt.map λo=>o.bind λj=>(σ[j]?).join)[i]?=some (some v):=F;rw [Ae] at a;cases k:capt[i]? with
  | none=>rw [k] at a;cases a
  | some o=>
    rw [k] at a;cases o with
    | none=>cases a
    | some j=>
      have g:(σ[j]?).join=some v:=rG a;obtain ⟨G,J,K,z⟩:=B.cap i x j E k
      have L:σ[j]?=some (some v):=by
       cases q:σ[j]? with
       | none=>rw [q] at g;cases g
       | some w=>rw [q] at g;exact congrArg some g
      obtain ⟨T,_,hl⟩:=I.loc;obtain ⟨u,r,l⟩:=hl j x v G L J;refine ⟨u,r,.inr ⟨z,?_⟩⟩;rcases l with ⟨l,_⟩ | ⟨_,c,n,M⟩
      ·exact absurd l K
      ·obtain ⟨O,f⟩:=B.has x z;have:=B.cells x O f;rw [n] at this;cases this;obtain ⟨o,P,Q⟩:=M;obtain ⟨U,hk⟩:=e.base.any P (I.freeC x c n) λR=>(A c R).2.2.2.2.1 x c n rfl;exact ⟨c,f,_,hk,Q⟩,e.cell,e.free,e.freeC,e.pin,e.hok,by show (capt.map _).length=N.length;rw [AJ];exact B.len⟩
theorem JJ {κ a:Type} [BEq κ] [LawfulBEq κ]:∀ {l:List (κ×a)} {y:κ} {c:a},l.lookup y=some c->(y,c)∈l
 | (k,v)::l,y,c,h=>by
   rw [List.lookup_cons] at h;cases e:y == k with
   | true=>
     rw [e] at h;cases h;rw [eq_of_beq e];exact BS ..
   | false=>
     rw [e] at h;exact Bp _ (JJ h)
def BlkOk.of (k:scope.kind=.function) (c:closureFor scope X.env=pure cl) (o:(scope.names.all λy=>y.2 != .cell)=true) (p:(scope.names.all λy=>y.2 != .local || scope.names.lookup y.1 == some .local)=true)
  (cs:∀ b∈cl,X.env.cells.lookup b.1=some b.2) (r:((relabel scope X.env).names.all λb=>(b.2 != .cell && b.2 != .free) || (cl.lookup b.1).isSome)=true)
  (u:((List.range N.length).all λi=>match N[i]?,capt[i]? with
   | some x,some (some j)=>X.N[j]? == some x && (X.env.scope.names.lookup x == some .cell || X.env.scope.names.lookup x == some .free) && ((relabel scope X.env).names.lookup x == some .cell || (relabel scope X.env).names.lookup x == some .free)
   | _,_=>true)=true) (v:capt.length=N.length):BlkOk X N capt scope cl where
 kind:=k
 clos:=c
 nocell:=λy f e=>by
  have z:=List.all_eq_true.mp o y f;rw [e] at z;exact absurd z ∅
 names:=λy f e=>by
  have z:=List.all_eq_true.mp p y f;rw [e] at z;simpa using z
 cells:=λy c h=>cs (y,c) (JJ h)
 has:=λy h=>by
  have m:∃ d,(y,d)∈(relabel scope X.env).names/\(d=.cell\/d=.free):=by
   rcases h with h | h
   ·exact ⟨_,JJ h,.inl rfl⟩
   ·exact ⟨_,JJ h,.inr rfl⟩
  obtain ⟨d,m,e⟩:=m;have z:=List.all_eq_true.mp r _ m
  have a:(cl.lookup y).isSome=true:=by
   rcases e with rfl | rfl
   ·simpa using z
   ·simpa using z
  exact Option.isSome_iff_exists.mp a
 cap:=λi x j g w=>by
  have li:i<N.length:=(CT.mp g).1;have z:=List.all_eq_true.mp u i (Eb.mpr li);rw [g,w] at z;simp only [Dk,Bool.or_eq_true,beq_iff_eq] at z;obtain ⟨⟨A,a⟩,B⟩:=z;refine ⟨A,.inr a,λq=>?_,B⟩;have n:X.env.scope.names.lookup x=some .local:=q;rcases a with a | a <;> (rw [a] at n;cases n)
 len:=v
end
open PySem.AutoSeq1 (wpAny_loadPart')
section
variable {X:Cx} {pins:dH} {σ:L2.St} {H:Hp} {s:Shared}
def XB {e f:Addr} {g:Heap} {tk:Nat} {xs:dz} {its:dE} (I:Inv X pins σ H s) (i:DW X pins H e) (j:DW X pins H f) (k:∀ b o,b≠e->b≠f->s.heap.get? b=some o->g.get? b=some o)
  (x:xs.length<=sizeLine) (A:Vals xs its) (B:g.get? s.heap.objs.size=some { cls:=.type "tuple", data:=.seq its.toArray }):Inv X pins σ (upd H s.heap.objs.size (.tup xs)) { s with heap:=g,toks:=tk }:=by
 have C:H s.heap.objs.size=none:=I.hok.fresh (AS _);have p:∀ b o,s.heap.get? b=some o->b≠s.heap.objs.size:=λb o q=>CI (rH q);have tr:∀ b u,H b=some u->b≠s.heap.objs.size/\b≠e/\b≠f:=λb u q=>⟨BA q C,BA q i.1,BA q j.1⟩;have a:∀ b,b∉[e,f]->b≠e/\b≠f:=λb h=>⟨λz=>h (by simp [z]),λz=>h (by simp [z])⟩
 refine I.step (g':=s.gens) (d':=s.drawn) (ch:=[e,f]) (λb h=>?_) (λb o _ _ d q _=>k b o (a b d).1 (a b d).2 q) (λb o _ _ d q _=>⟨o.slots,k b o (a b d).1 (a b d).2 q⟩) (λb o _ q n=>?_) (λb o d q=>⟨o,k b o (a b d).1 (a b d).2 q⟩)
  (λb D q=>?_) (λb o u q=>?_) (λb ps q=>⟨#[],?_⟩) (λm E=>?_) (λb u q=>?_) I.bare
 ·have z:b=e\/b=f:=by simpa using h
  rcases z with rfl | rfl
  ·exact ⟨i.2.2.2.1,i.2.1,i.2.2.2.2.1,i.2.2.2.2.2⟩
  ·exact ⟨j.2.2.2.1,j.2.1,j.2.2.2.2.1,j.2.2.2.2.2⟩
 ·rw [Aw (p b o q)];exact n
 ·rw [Aw (tr b _ q).1];exact q
 ·rw [Aw (tr b _ q).1];exact q
 ·rw [Aw (tr b _ q).1,q];simp
 ·obtain ⟨o,F,G,J,K⟩:=E;exact ⟨o,F,G,k _ o i.2.1.symm j.2.1.symm J,K⟩
 ·by_cases h:b=s.heap.objs.size
  ·subst h;rw [upd_same] at q;cases q;exact ⟨x,its,A,⟨_,B,rfl,_,rfl⟩⟩
  ·rw [Aw h] at q;refine (I.hok b u q).stay (λc v d z=>?_) (λc z=>by rw [Aw (tr c _ z).1];exact z) λc D z=>by rw [Aw (tr c _ z).1];exact z
   rcases d with y | y
   ·subst y;exact k _ v (tr _ u q).2.1 (tr _ u q).2.2 z
   ·exact k c v (tr c _ y).2.1 (tr c _ y).2.2 z
end
def XC {P:Program} {w:World} {K:W.Frag} {y:dL} {k:Nat} {F:Pos} (a e m:Addr) (S:e≠m):Turn P w K (.Tuple y k F) (F8 K a) [e,m] e (λi h=>(∃ f,IsEnum h e m i f)/\h.IsListIter m a i) where
 mem:=by simp
 obj:=λi h n b r=>by
  obtain ⟨⟨f,j⟩,o,G,c,d⟩:=n
  have z:b=e\/b=m:=by simpa using r
  rcases z with rfl | rfl
  ·exact ⟨_,j,λv z=>nomatch z⟩
  ·exact ⟨o,G,λv z=>by rw [d] at z;cases z⟩
 keep:=λi h h' n T=>⟨let ⟨f,j⟩:=n.1;⟨f,T e (by simp) _ j⟩,n.2.at λo q=>T m (by simp) o q⟩
 item:=by
  intro X J hw L U i A s σ H E I B n M
  subst J hw L
  obtain ⟨Y,x,D,N⟩:=M
  obtain ⟨⟨f,j⟩,si⟩:=n
  obtain ⟨C,O,p,hz⟩:=I.list D
  obtain ⟨u,hu,ru⟩:=O.get N
  refine wpAny_pyNext_enum_item j si p.isList (x:=u) (by simpa using hu) S λg eo gi gt _ gk=>?_
  refine ⟨_,rfl,wpAny_letOwnedTupleGo_enum eo λg' Q R=>?_⟩
  have I1:=XB (g:=g') (tk:=s.toks+1) (xs:=[.int i,x]) (its:=[.int i s.toks,u]) I (B e (by simp)) (B m (by simp)) (λb o Z h2 q=>R.extBut b o Z (gk b o Z h2 q)) (sz (by simp)) (.cons ⟨_,rfl⟩ (.cons ru .nil)) (R.extBut _ _ (Nat.ne_of_gt (rH j)) gt)
  refine ⟨.ref s.heap.objs.size,_,I1,rfl,⟨_,x,I.hok.fresh (AS _),rfl,rfl,λys hy=>by rw [I.list_inj hy D];exact N⟩,⟨⟨_,by simpa using Q⟩,gi.at λo q=>R.extBut m o S.symm q⟩,λb r=>?_⟩
  rw [Aw]
  ·exact (B b r).1
  ·have z:b=e\/b=m:=by simpa using r
   rcases z with rfl | rfl
   ·exact CI (rH j)
   ·obtain ⟨o,G,_⟩:=si;exact CI (rH G)
 done:=by
  intro X J hw L U i A s σ H E I B n M
  subst J hw L
  obtain ⟨Y,D,N⟩:=M
  obtain ⟨⟨f,j⟩,si⟩:=n
  obtain ⟨C,O,p,hz⟩:=I.list D
  obtain ⟨f0,f1,f2,f3,f4,f5⟩:=B m (by simp)
  have hl:=O.length
  exact wpAny_pyNext_enum_end (I.ok.hd U) j si p.isList (by simp;omega) λg eb=>⟨rfl,I.turned (t':=s.toks) (λb o r q=>eb b o r q) f0 f1 f3 f4 f5⟩
 self:=λ_ _ _ _ _ n h=>let ⟨_,j⟩:=n.1;wpAny_pyIter_enum j h
section
variable {X:Cx} {elts:dL} {k:Nat} {tpos:Pos} {a:Expr} {ta:TA} {p pos:Pos}
def N9 (o:Gl X "enumerate") (r:X.mg "enumerate" = none) (v:PA X [a] ta) (w:starEach [a] X.env=[(false,eval a X.env)]:=by rfl):PI X (.Tuple elts k tpos) (.Call (.Name "enumerate" p) [a] [] pos) (Gj X.K ta):=by
 intro d s i H R I h;refine Call_ (Ek I o r Wv (PyProof.Rows.callWith_type1 (F_ (v pos d s i H _ I h) λJ e ⟨K,j,f,x,y⟩=>?_) w rfl));obtain ⟨b,rfl,⟨L,A⟩,q⟩:=y;obtain ⟨u,rfl,B⟩:=ER x;cases B;obtain ⟨C,M,D,N⟩:=f.list A;refine call_enumerate_list D.isList λg m si _ E=>?_;have F:Inv X d i j { e with heap:=g }:=f.kept (t':=e.toks) E;refine wpAny_pyIter_enum m ⟨_,[e.heap.objs.size+1,e.heap.objs.size],_,_,j,rfl,F,XC b _ _ (Nat.succ_ne_self _),⟨⟨_,m⟩,si⟩,λc G=>?_,q⟩;have z:c=e.heap.objs.size+1\/c=e.heap.objs.size:=by simpa using G
 rcases z with rfl | rfl
 ·exact f.fpOk (Nat.le_succ _) (f.hok.fresh (Nat.le_succ _))
 ·exact f.fpOk (AS _) (f.hok.fresh (AS _))
end
end Bs
namespace Bs
open PySem L2
mutual
inductive RepD (H:Hp):V->W.Dat->Prop
 | non:RepD H .non .none
 | int (i:Int):RepD H (.int i) (.int i)
 | tup {p:Addr} {xs:dz} {ds:List W.Dat} (h:H p=some (.tup xs)) (r:RepA H xs ds):RepD H (.ref p) (.tuple ds)
 | lst {p:Addr} {xs:dz} {ds:List W.Dat} (h:H p=some (.lst xs)) (r:RepA H xs ds):RepD H (.ref p) (.list ds)
inductive RepA (H:Hp):dz->List W.Dat->Prop
 | nil:RepA H [] []
 | cons {x:V} {xs:dz} {d:W.Dat} {ds:List W.Dat} (h:RepD H x d) (r:RepA H xs ds):RepA H (x::xs) (d::ds)
end
def cO:R2:=λx y H Q=>∃ (d e:W.Dat) (b:Bool),RepD H x d/\RepD H y e/\W.kqdOk 8 d=true/\W.kqdOk 8 e=true/\(b=true↔d=e)/\Q (.bl b) H
def neD:R2:=λx y H Q=>∃ (d e:W.Dat) (b:Bool),RepD H x d/\RepD H y e/\W.kqdOk 8 d=true/\W.kqdOk 8 e=true/\(b=true↔d=e)/\Q (.bl (!b)) H
def FG (te:TE):TT:=λc H Q=>te c H λx a=>∃ p b,x=.ref p/\a p=some (.lst b)/\Q (!b.isEmpty) a
def XD (te:TE):TT:=λc H Q=>te c H λx a=>∃ p b,x=.ref p/\a p=some (.tup b)/\Q (!b.isEmpty) a
def sL:V->Option Int->Option Int->Hp->VK->Prop:=λx lo c H Q=>∃ a b,x=.ref a/\H a=some (.lst b)/\∀ p,H p=none->Q (.ref p) (upd H p (.lst (Cg b lo c)))
def JK:dz->Hp->VK->Prop:=λb H Q=>∃ p a,b=[.ref p]/\H p=some (.lst a)/\∀ l,H l=none->Q (.ref l) (upd H l (.tup a))
def XE:dz->Hp->VK->Prop:=λb H Q=>∃ p a,b=[.ref p]/\H p=some (.tup a)/\∀ l,H l=none->Q (.ref l) (upd H l (.lst a))
def Gk:dz->Hp->VK->Prop:=λb H Q=>∃ p a,b=[.ref p]/\H p=some (.lst a)/\∀ l,H l=none->Q (.ref l) (upd H l (.lst a))
end Bs
namespace Bs
open PySem PySem.Spec PyProof.Rows L2
section
variable {X:Cx} {pins:dH} {σ:L2.St} {H:Hp} {s:Shared}
mutual
theorem Hi (I:Inv X pins σ H s):∀ {x:V} {d:W.Dat} {u:Value},RepD H x d->RelV x u->∃ as,Reads s.heap u (W.kqdP d) as
 | _,_,_,.non,e=>by cases e;rw [W.kqdP];exact ⟨_,Reads.none⟩
 | _,_,_,.int i,⟨t,e⟩=>by subst e;rw [W.kqdP];exact ⟨_,Reads.int i t⟩
 | _,_,_,.tup h r,e=>by
   cases e;obtain ⟨a,b,p,_⟩:=I.tuple (SqT.of h);obtain ⟨as,q⟩:=Ku I r b;obtain ⟨o,c,f,n,g⟩:=p;rw [W.kqdP];exact ⟨as,reads_tuple_at c f g (by simpa using q)⟩
 | _,_,_,.lst h r,e=>by
   cases e;obtain ⟨a,b,p,_⟩:=I.list (SqL.of h);obtain ⟨as,q⟩:=Ku I r b;obtain ⟨o,n,c,f,_,g⟩:=p;rw [W.kqdP];exact ⟨_,reads_list_at c f g (by simpa using q)⟩
theorem Ku (I:Inv X pins σ H s):∀ {xs:dz} {a:List W.Dat} {b:dE},RepA H xs a->Vals xs b->∃ as,ReadsAll s.heap b (W.kqdPs a) as
 | _,_,_,.nil,.nil=>by rw [W.kqdPs];exact ⟨_,ReadsAll.nil⟩
 | _,_,_,.cons h r,.cons e c=>by
   obtain ⟨as,q⟩:=Hi I h e;obtain ⟨f,d⟩:=Ku I r c;rw [W.kqdPs];exact ⟨_,ReadsAll.cons q d⟩
end
def JL {d:W.Dat} (h:W.kqdOk 8 d=true):SeqAt.shaped (W.kqdP d)=true:=by
 have z:=W.kqd_lay 8 d h;unfold SeqAt.shaped;rw [z.1,Bool.true_and];exact rA (Bx z.2 ∅)
def OA {d e:W.Dat} {b:Bool} (a:W.kqdOk 8 d=true) (c:W.kqdOk 8 e=true) (f:b=true↔d=e):PyData.eqv (W.kqdP d) (W.kqdP e)=b:=by
 rw [Bool.eq_iff_iff,f];exact W.kqd_eqv 8 d e 8 a c
def Kv (f:X.A.units+64<cLine):OpR X (compareOp .Eq) cO:=by
 intro pins s σ H x y v u Q I g i h;obtain ⟨d,e,b,j,k,a,c,m,q⟩:=h;obtain ⟨as,n⟩:=Hi I j g;obtain ⟨p,o⟩:=Hi I k i;exact eq_dataH n o (JL a) (JL c) f (by rw [OA a c m];exact ⟨.bl b,H,I,rfl,q⟩)
def XF (f:X.A.units+64<cLine):OpR X (compareOp .NotEq) neD:=by
 intro pins s σ H x y v u Q I g i h;obtain ⟨d,e,b,j,k,a,c,m,q⟩:=h;obtain ⟨as,n⟩:=Hi I j g;obtain ⟨p,o⟩:=Hi I k i;exact ne_dataH n o (JL a) (JL c) f (by rw [OA a c m];exact ⟨.bl (!b),H,I,rfl,q⟩)
def F9 {a:Expr} {c:TE} (d:PE X a c) (f:∀ b,isTrue a X.env b=(do let v <-b;standAt a.pos;holding [v] (truthy v))):PT X a (FG c):=λpins s σ H Q I h=>
 isTrue_plain (F_ (d pins s σ H _ I h) λv g ⟨x,i,j,k,m⟩=>by
  obtain ⟨p,n,e,hp,q⟩:=m;subst e;exact Uz pins g σ i _ v Q j k ⟨_,.inl ⟨n,SqL.of hp,rfl⟩,q⟩) (f _)
def JM:cK X sL:=by
 intro pins s σ H x v b c lo d f Q I g i j k h;obtain ⟨a,m,e,n,q⟩:=h;exact Nl pins s σ H x v b c lo d f Q I g i j k ⟨a,m,e,SqL.of n,q⟩
def OB:Cp X (.type "tuple") JK:=λpins s σ H a b Q I r h=>by
 obtain ⟨p,c,e,hp,q⟩:=h;exact VM pins s σ H a b Q I r ⟨p,c,e,.inl ⟨SqL.of hp,q⟩⟩
def JN:Cp X (.type "list") Gk:=λpins s σ H a b Q I r h=>by
 obtain ⟨p,c,e,hp,q⟩:=h;exact VL pins s σ H a b Q I r ⟨p,c,e,.inl (SqL.of hp),q⟩
def Gn:cr X gL:=by
 intro pins s σ H o i A B Q I m n h;obtain ⟨p,k,C,v,rfl,rfl,hp,u,q⟩:=h;cases m;obtain ⟨t,rfl⟩:=n;obtain ⟨c,r,e,D⟩:=I.list (SqL.of hp);obtain ⟨j,b,x,E,y,z⟩:=Kh u;obtain ⟨w,f,rw'⟩:=r.get x;have hl:=r.length;have F:=Fy;have a:EP X pins σ Q w s:=⟨v,H,I,rw',q⟩;by_cases g:0<=k
 ·have d:k.toNat=j:=by
   rw [seqIndex_of g z] at b;exact rG b
  exact wpAny_getItem_list e.isList g ⋯ (by rw [d];simpa using f) a
 ·have d:(k+(c.toArray.size:Int)).toNat=j:=by
   rw [seqIndex_neg ⋯ y] at b;rw [BX,<-hl];exact rG b
  exact wpAny_getItem_list_neg e.isList ⋯ (by rw [BX] <;> omega) ⋯ (by rw [d];simpa using f) a
def Hj {K:W.Frag} {p:Addr} {xs:dz} (h:H p=some (.lst xs)):cL K "list" (.ref p) H:=.inl ⟨rfl,xs,SqL.of h⟩
end
end Bs
namespace Bs
open PySem L2
def Go (n:Nat) (t:aY):TG:=λv c H Q=>∃ a b,v=.ref a/\H a=some (.tup b)/\b.length=n/\t b c H Q
end Bs
namespace Bs
open PySem PySem.Spec PyProof.Rows L2
def JO {X:Cx} {c:dL} {k:Nat} {d:Pos} {t:aY} {n:Nat} (g:X.calm=true) (h:ci X c t)
  (i:(assignEach c X.env).length=n:=by rfl) (f:(assignEach c X.env).findIdx? (·.1)=none:=by rfl):PG X (.Tuple c k d) (Go n t):=λb s j H v u Q I r q=>by
 obtain ⟨a,m,e,o,hl,q⟩:=q;exact Uj g h i f b s j H v u Q I r ⟨a,m,e,SqT.of o,hl,q⟩
def XG {X:Cx}:OpR X (inplaceOp .FloorDiv) Hg:=bH λi j _ _ _ _ _ a q=>by
 refine ifloordiv_int (AU a.1) ?_ (.inl (PyProof.noPylong_of_log2 (a.2.log2 ∅)));rw [EK i (DT a.1)];exact q
end Bs
namespace Bs
open PySem L2
def sT:V->Option Int->Option Int->Hp->VK->Prop:=λx lo d H Q=>∃ a b,x=.ref a/\H a=some (.tup b)/\∀ p c,(c=H/\p=a/\Cg b lo d=b)\/(H p=none/\c=upd H p (.tup (Cg b lo d)))->Q (.ref p) c
noncomputable def cu (lo:Int) (n:Nat):It:=⟨λi _=>i<n,λi H x a=>a=H/\x=.int (lo - i),λi _=>n<=i⟩
noncomputable def cP (K:W.Frag) (a:Addr) (n:Nat):It:=⟨λi H=>i<n/\∃ b,SqL K H a b/\b.length=n,λi H x c=>c=H/\∀ b,SqL K H a b->b[n - 1 - i]?=some x,λi _=>n=i⟩
def GA (a:TA):TI:=λb H R=>a b H λc d=>∃ i j:Int,c=[.int i,.int j,.int (-1)]/\(-(2 ^ 62)<=i/\i<2 ^ 62/\-(2 ^ 62)<=j/\j<2 ^ 62)/\R (cu i (i - j).toNat) d
def Kw (K:W.Frag) (d:TA):TI:=λe H R=>d e H λf b=>∃ a c,f=[.ref a]/\SqL K b a c/\R (cP K a c.length) b
section
variable {K:W.Frag} {ta:TA} {g:TG} {tb:TS} {D:Ends} {σ:L2.St} {H:Hp} {a:Addr} {xs:dz}
def XH:BH (GA ta) g tb D σ H=ta σ H (λb c=>∃ i j:Int,b=[.int i,.int j,.int (-1)]/\(-(2 ^ 62)<=i/\i<2 ^ 62/\-(2 ^ 62)<=j/\j<2 ^ 62)/\ForJ (cu i (i - j).toNat) g tb D σ c):=rfl
def XI:BH (Kw K ta) g tb D σ H=ta σ H (λc b=>∃ a xs,c=[.ref a]/\SqL K b a xs/\ForJ (cP K a xs.length) g tb D σ b):=rfl
def ForJ.down {lo:Int} {n:Nat} (Pv:Nat->L2.St->Hp->Prop) (d:Pv 0 σ H)
  (f:∀ i σ H,i<n->Pv i σ H->g (.int (lo - i)) σ H λb h=>tb { D with nx:=Pv (i+1),ct:=Pv (i+1),bk:=D.nx } b h) (j:∀ σ H,Pv n σ H->D.nx σ H):ForJ (cu lo n) g tb D σ H:=by
 refine ⟨λi m σ H=>m=n - i/\i<=n/\Pv i σ H,⟨n,by simp,Aa _,d⟩,?_⟩;rintro i m σ H ⟨rfl,v,pv⟩;by_cases c:i<n
 ·refine .inr ⟨c,Pv (i+1),λk o p=>⟨n - (i+1),⋯,rfl,c,p⟩,λx o y=>?_⟩;obtain ⟨e,y⟩:=y;subst e y;exact f i σ _ c pv
 ·have e:i=n:=by omega
  subst e;exact .inl ⟨AS _,j σ H pv⟩
def ForJ.rev (Pv:Nat->L2.St->Hp->Prop) (d:Pv 0 σ H) (hl:∀ i σ H,i<=xs.length->Pv i σ H->SqL K H a xs)
  (f:∀ i x σ H,i<xs.length->xs[xs.length - 1 - i]?=some x->Pv i σ H->g x σ H λb h=>tb { D with nx:=Pv (i+1),ct:=Pv (i+1),bk:=D.nx } b h) (j:∀ σ H,Pv xs.length σ H->D.nx σ H):ForJ (cP K a xs.length) g tb D σ H:=by
 refine ⟨λi m σ H=>m=xs.length - i/\i<=xs.length/\Pv i σ H,⟨xs.length,by simp,Aa _,d⟩,?_⟩;rintro i m σ H ⟨rfl,k,pv⟩;have q:=hl i σ H k pv;by_cases c:i<xs.length
 ·refine .inr ⟨⟨c,xs,q,rfl⟩,Pv (i+1),λn o p=>⟨xs.length - (i+1),⋯,rfl,c,p⟩,λx o y=>?_⟩;obtain ⟨e,y⟩:=y;subst e;exact f i x σ _ c (y xs q) pv
 ·have e:i=xs.length:=by omega
  subst e;exact .inl ⟨rfl,j σ H pv⟩
end
end Bs
namespace Bs
open PySem PySem.Spec PyProof.Rows L2
def XJ {P:Program} {w:World} {K:W.Frag} {L:Expr} (c:Addr) (lo:Int) (n:Nat):Turn P w K L (cu lo n) [c] c (λi h=>IsRangeIter h c (lo+(i:Nat)*(-1)) ((n:Int) - (i:Nat)) (-1)) where
 mem:=by simp
 obj:=λi h a b f=>by
  have e:b=c:=by simpa using f
  subst e
  exact ⟨_,a,λv z=>by
   have M:Data.fields _=Data.cell v:=z
   cases M⟩
 keep:=λi h p a k=>k c (by simp) _ a
 item:=by
  intro X r hw u x i d s G H E I q a y
  subst r hw u
  obtain ⟨A,B,N,C,D,F⟩:=q c (by simp)
  have W:=Walks.range (prog:=X.prog) (w:=X.w) (I.ok.hd x) c lo (-1) n
  refine W.item i s _ _ y a λv p J hv g O=>?_
  obtain ⟨t,rfl⟩:=hv
  have Q:Inv X d G H { s with heap:=p,toks:=J }:=I.turned (λb o f e=>O b o (by simpa using f) e) A B C D F
  refine ⟨_,rfl,HU (s:={ s with heap:=p,toks:=J }) (n := "range_iterator") g rfl rfl ∅ ⟨.int (lo - i),H,Q,⟨t,?_⟩,⟨rfl,rfl⟩,g,λb f=>(q b f).1⟩⟩
  rw [show lo+(i:Int)*(-1)=lo - i by omega]
 done:=by
  intro X r hw u x i d s G H E I q a y
  subst r hw u
  obtain ⟨A,B,N,C,D,F⟩:=q c (by simp)
  exact wpAny_pyNext_range_end (I.ok.hd x) a (by have:n<=i:=y;omega) λp R=>⟨rfl,I.turned (t':=s.toks) (λb o f e=>R b o f e) A B C D F⟩
 self:=λ_ _ _ _ _ a h=>wpAny_pyIter_rangeiter a h
def OC (a b:Int):Builtin.Range.rangeSize a b (-1)=if b<a then a - b else 0:=by
 unfold Builtin.Range.rangeSize;simp only [show ¬ ((-1:Int) > 0) by decide,if_false,Int.neg_neg,Int.ediv_one];split <;> omega
def XM {a b:Int} (e:-(2 ^ 62)<=a) (c:a<2 ^ 62) (f:-(2 ^ 62)<=b) (d:b<2 ^ 62):Builtin.Range.small a b (-1)=true:=by
 unfold Builtin.Range.small;rw [OC];simp only [Builtin.Range.rangeFitsLong,Dk,Bool.or_eq_true,decide_eq_true_eq,beq_iff_eq,show ¬ ((-1:Int) > 0) by decide,if_false];split <;> omega
theorem JP {X:Cx} {E:Expr} {a b c:Expr} {z:TA} {p n:Pos} (F:Gl X "range") (G:X.mg "range" = none) (J:PA X [a,b,c] z) (K:starEach [a,b,c] X.env=[(false,eval a X.env),(false,eval b X.env),(false,eval c X.env)]:=by rfl) (u:starEach [b,c] X.env=[(false,eval b X.env),(false,eval c X.env)]:=by rfl) :
  PI X E (.Call (.Name "range" p) [a,b,c] [] n) (GA z):=by
 intro g s A H R I h;refine Call_ (Ek I F G boot_range (PyProof.Rows.callWith_type1 (F_ (J n g s A H _ I h) λW k ⟨Y,B,L,M,w⟩=>?_) (by rw [K,u]) (by rw [u];rfl)));obtain ⟨i,j,e,⟨w,N,O,P⟩,q⟩:=w;subst e;cases M with
 | cons r v=>
   cases v with
   | cons Q v=>
     cases v with
     | cons x v=>
       cases v;obtain ⟨t,rfl⟩:=r;obtain ⟨t',rfl⟩:=Q;obtain ⟨f,rfl⟩:=x;refine call_range_3 ∅ ?_ (.inl (PyProof.noPylong_small ∅));refine wpAny_pyIter_range (IsRange.new ..) (XM w N O P) ?_;have y:Inv X g A B { k with heap:=k.heap.push { cls:=.type "range", data:=.fields #[.int i t,.int j t',.int (-1) f] },toks:=k.toks }:=L.kept λb o e=>Heap.get?_push_of_some _ e
       refine ⟨(k.heap.push { cls:=.type "range", data:=.fields #[.int i t,.int j t',.int (-1) f] }).objs.size,[(k.heap.push { cls:=.type "range", data:=.fields #[.int i t,.int j t',.int (-1) f] }).objs.size],_,_,B,rfl,
        y.kept (t':=k.toks) λb o e=>Heap.get?_push_of_some _ e,XJ _ i (i - j).toNat,?_,λb S=>?_,q⟩
       ·have T:i+((0:Nat):Int)*(-1)=i:=by simp
        have U:(((i - j).toNat:Nat):Int) - ((0:Nat):Int)=Builtin.Range.rangeSize i j (-1):=by rw [OC];split <;> omega
        show IsRangeIter _ _ (i+((0:Nat):Int)*(-1)) ((((i - j).toNat:Nat):Int) - ((0:Nat):Int)) (-1);rw [T,U];exact Heap.get?_push_size _ rfl
       ·have e:b=(k.heap.push { cls:=.type "range", data:=.fields #[.int i t,.int j t',.int (-1) f] }).objs.size:=by simpa using S
        subst e;exact y.fpOk (AS _) (y.hok.fresh (AS _))
def XN {P:Program} {w:World} {K:W.Frag} {Z:Expr} (a f:Addr) (n:Nat):Turn P w K Z (cP K a n) [f] f (λi h=>h.IsRevIter f a ((n:Int) - 1 - (i:Int))) where
 mem:=by simp
 obj:=λi h g b m=>by
  have e:b=f:=by simpa using m
  subst e
  obtain ⟨o,e,c,d⟩:=g
  exact ⟨o,e,λv z=>by rw [d] at z;cases z⟩
 keep:=λi h r g k=>g.at λo e=>k f (by simp) o e
 item:=by
  intro X C hw D R i j s S H E I B g F
  subst C hw D
  obtain ⟨hi,T,U,hn⟩:=F
  obtain ⟨a0,rv,p,hz⟩:=I.list U
  have Y:T[n - 1 - i]?=some (T[n - 1 - i]'⋯):=Ag ⋯
  obtain ⟨u,hu,ru⟩:=rv.get Y
  obtain ⟨G,J,f2,L,M,N⟩:=B f (by simp)
  have q:s.heap.IsRevIter f a ((n - 1 - i:Nat):Int):=by rw [show ((n - 1 - i:Nat):Int)=(n:Int) - 1 - (i:Int) by omega];exact g
  refine wpAny_pyNext_rev_item q p.isList (x:=u) (by simpa using hu) λr y sb=>?_
  have I1:Inv X j S H { s with heap:=r }:=I.turned (t':=s.toks) (λb o m e=>(sb.2 b m).trans e) G J L M N
  obtain ⟨o,e,c,d⟩:=id y
  have O:r.IsRevIter f a ((n:Int) - 1 - ((i+1:Nat):Int)):=by rw [show (n:Int) - 1 - ((i+1:Nat):Int)=((n - 1 - i:Nat):Int) - 1 by omega];exact y
  exact ⟨u,rfl,HU (s:={ s with heap:=r }) e c d ∅ ⟨_,H,I1,ru,⟨rfl,λys hy=>by rw [I.list_inj hy U];exact Y⟩,O,λb m=>(B b m).1⟩⟩
 done:=by
  intro X C hw D R i j s S H E I B g F
  subst C hw D
  have Q:n=i:=F
  subst Q
  obtain ⟨G,J,f2,L,M,N⟩:=B f (by simp)
  have q:s.heap.IsRevIter f a (-1):=by rw [show (-1:Int)=(n:Int) - 1 - (n:Int) by omega];exact g
  exact wpAny_pyNext_rev_end (I.ok.hd R) q λr eb=>⟨rfl,I.turned (t':=s.toks) (λb o m e=>eb b o m e) G J L M N⟩
 self:=λ_ _ _ _ _ g h=>wpAny_pyIter_revIter g h
def XO {X:Cx} {w:Expr} {a:Expr} {m:TA} {p i:Pos} (x:Gl X "reversed") (y:X.mg "reversed" = none) (A:PA X [a] m) (B:starEach [a] X.env=[(false,eval a X.env)]:=by rfl):PI X w (.Call (.Name "reversed" p) [a] [] i) (Kw X.K m):=by
 intro d s n H R I h;refine Call_ (Ek I x y Wx (PyProof.Rows.callWith_type1 (F_ (A i d s n H _ I h) λM f ⟨N,r,j,C,D⟩=>?_) B rfl));obtain ⟨b,k,rfl,E,q⟩:=D;obtain ⟨u,rfl,F⟩:=ER C;cases F;obtain ⟨g,G,J,O⟩:=j.list E;refine call_reversed_list J.isList ?_;have K:Inv X d n r { f with heap:=f.heap.push (revObj b ((g.toArray.size:Int) - 1)) }:=j.kept (t':=f.toks) λb o e=>Heap.get?_push_of_some _ e;have hl:=G.length
 have si:(f.heap.push (revObj b ((g.toArray.size:Int) - 1))).IsRevIter f.heap.objs.size b ((k.length:Int) - 1 - ((0:Nat):Int)):=by
  rw [show (k.length:Int) - 1 - ((0:Nat):Int)=(g.toArray.size:Int) - 1 by rw [BX];omega];exact ⟨_,Heap.get?_push_size _ rfl,rfl,rfl⟩
 refine wpAny_pyIter_revIter si ⟨_,[f.heap.objs.size],_,_,r,rfl,K,XN b _ k.length,si,λc L=>?_,q⟩;have z:c=f.heap.objs.size:=by simpa using L
 subst z;exact j.fpOk (AS _) (j.hok.fresh (AS _))
end Bs
namespace Bs
open PySem L2
def Hk:R2:=λx y H Q=>y=.non/\Q (.bl (decide (x=.non))) H
def Kx:R2:=λx y H Q=>y=.non/\Q (.bl (!decide (x=.non))) H
def Ky (_ j:Int):Prop:=0<j
def Gp (_ j:Int):Prop:=j≠0
abbrev FH:R2:=rI Ky λi j=>.int (i / j)
abbrev Dv:R2:=rI Gp λi j=>.int (i.fdiv j)
noncomputable def Itz (K:W.Frag) (a b:Addr):It:=
 ⟨λi H=>∃ c d x y,SqL K H a c/\SqL K H b d/\c[i]?=some x/\d[i]?=some y,λi H v e=>∃ p x y,H p=none/\v=.ref p/\e=upd H p (.tup [x,y])/\(∀ c,SqL K H a c->c[i]?=some x)/\∀ d,SqL K H b d->d[i]?=some y,λi H=>∃ c d,SqL K H a c/\SqL K H b d/\c.length<=i⟩
def Kz (K:W.Frag) (d:TA):TI:=λe H R=>d e H λf c=>∃ a b,f=[.ref a,.ref b]/\(∃ g,SqL K c a g)/\(∃ h,SqL K c b h)/\R (Itz K a b) c
def Gs (h:TI) (capt:List (Option Nat)) (g:TG) (tc:TT) (te:TE):TE:=λd H Q=>h d H λJ j=>∃ (n:Nat) (W:Nat->dz->Hp->Prop),W 0 [] j/\∀ i a H,W i a H->i<=n/\a.length<=sizeLine/\
 ((J.stop i H/\∀ p,H p=none->Q (.ref p) (upd H p (.lst a)))\/(i<n/\J.go i H/\∀ x e,J.yld i H x e->g x (C6 capt d) e λc k=>tc c k λb f=>if b=true then te c f λy m=>W (i+1) (a++[y]) m else W (i+1) a f))
def CompF (J:It) (capt:List (Option Nat)) (g:TG) (tc:TT) (te:TE) (σ:L2.St) (Q:VK) (f:Hp):Prop:=∃ (n:Nat) (W:Nat->dz->Hp->Prop),W 0 [] f/\∀ i a H,W i a H->i<=n/\a.length<=sizeLine/\
 ((J.stop i H/\∀ p,H p=none->Q (.ref p) (upd H p (.lst a)))\/(i<n/\J.go i H/\∀ x d,J.yld i H x d->g x (C6 capt σ) d λc h=>tc c h λb e=>if b=true then te c e λy j=>W (i+1) (a++[y]) j else W (i+1) a e))
section
variable {K:W.Frag} {ta:TA} {tl:TE} {capt:List (Option Nat)} {g:TG} {tc:TT} {te:TE} {tb:TS} {D:Ends} {σ:L2.St} {H:Hp} {Q:VK} {a b:Addr} {xs ys:dz}
def XQ:Gs (Cb K tl) capt g tc te σ H Q=tl σ H (λx c=>∃ a,x=.ref a/\(∃ xs,SqL K c a xs)/\CompF (aB K a) capt g tc te σ Q c):=rfl
def XR:CY (Kz K ta) capt g te σ H Q=ta σ H (λd c=>∃ a b,d=[.ref a,.ref b]/\(∃ xs,SqL K c a xs)/\(∃ ys,SqL K c b ys)/\CompJ (Itz K a b) capt g te σ Q c):=rfl
def CompF.lst (W:Nat->dz->Hp->Prop) (j:W 0 [] H) (d:∀ i ys H,W i ys H->i<=xs.length/\ys.length<=sizeLine/\SqL K H a xs)
  (k:∀ i x ys H,xs[i]?=some x->W i ys H->g x (C6 capt σ) H λc m=>tc c m λb f=>if b=true then te c f λy n=>W (i+1) (ys++[y]) n else W (i+1) ys f) (o:∀ ys H,W xs.length ys H->∀ p,H p=none->Q (.ref p) (upd H p (.lst ys))):CompF (aB K a) capt g tc te σ Q H:=by
 refine ⟨xs.length,W,j,λi ys H w=>⟨(d i ys H w).1,(d i ys H w).2.1,?_⟩⟩;have q:SqL K H a xs:=(d i ys H w).2.2;by_cases h:i<xs.length
 ·refine .inr ⟨h,⟨xs,xs[i],q,by simp [h]⟩,λx r y=>?_⟩;obtain ⟨e,y⟩:=y;subst e;exact k i x ys _ (y xs q) w
 ·have e:i=xs.length:=Nat.le_antisymm (d i ys H w).1 (DU.mp h);subst e;exact .inl ⟨⟨xs,q,AS _⟩,o ys H w⟩
end
def OD:V->Hp->VK->Prop:=λx H Q=>∃ (p:Addr) (a:dD),x=.ref p/\H p=some (.lst (a.map V.int))/\∀ m:Int,(a=[]/\m=0\/m∈a)->Q (.int m) H
def K1 (te:TE):TE:=λa H Q=>te a H λx b=>OD x b Q
def K2:dz->Hp->VK->Prop:=λb H Q=>∃ (p:Addr) (a:dD),b=[.ref p]/\H p=some (.lst (a.map V.int))/\Q (.bl (a.any λz=>!decide (z=0))) H
end Bs
namespace Bs
open PySem PySem.Spec PyProof.Rows L2
section
variable {X:Cx} {pins:dH} {σ:L2.St} {H:Hp} {s:Shared}
def EU:OpR X (binaryOp .FloorDiv) Dv:=by
 intro pins s σ H x y v u Q I a b ⟨i,j,c,d,e,q⟩;subst c d;obtain ⟨t,rfl⟩:=a;obtain ⟨f,rfl⟩:=b;exact floordiv_int e ⟨.int (i.fdiv j),H,I.tok _,⟨_,rfl⟩,q⟩ (Or.inr (I.ok.plr s I.bk))
def Hl:OpR X (binaryOp .FloorDiv) FH:=by
 intro pins s σ H x y v u Q I b c ⟨i,j,d,e,f,q⟩;have a:0<j:=f;replace q:Q (.int (i / j)) H:=q;rw [<-EK i (DT a)] at q;exact EU pins s σ H x y v u Q I b c ⟨i,j,d,e,AU a,q⟩
def XS {f:dN} {g:Heap} {tk:Nat} (I:Inv X pins σ H s) (e:∀ b∈f,DW X pins H b) (k:∀ b o,b∉f->s.heap.get? b=some o->g.get? b=some o):Inv X pins σ H { s with heap:=g,toks:=tk }:=by
 have tr:∀ b u,H b=some u->b∉f:=λb u q a=>by rw [(e b a).1] at q;cases q
 refine I.step (g':=s.gens) (d':=s.drawn) (ch:=f) (λb a=>⟨(e b a).2.2.2.1,(e b a).2.1,(e b a).2.2.2.2.1,(e b a).2.2.2.2.2⟩) (λb o _ _ d q _=>k b o d q) (λb o _ _ d q _=>⟨o.slots,k b o d q⟩) (λ_ _ _ _ n=>n)
  (λb o d q=>⟨o,k b o d q⟩) (λ_ _ q=>q) (λ_ _ _ q=>q) (λb ps q=>⟨#[],by rw [q];simp⟩) (λm j=>?_) (λb u q=>?_) I.bare
 ·obtain ⟨o,p,r,w,x⟩:=j;exact ⟨o,p,r,k _ o (λa=>(e _ a).2.1 rfl) w,x⟩
 ·refine (I.hok b u q).stay (λc v d z=>?_) (λ_ z=>z) λ_ _ z=>z;rcases d with y | y
  ·subst y;exact k _ v (tr _ u q) z
  ·exact k c v (tr c _ y) z
def XT {h:dN} {g:Heap} {tk:Nat} {xs:dz} {its:dE} (I:Inv X pins σ H s) (e:∀ b∈h,DW X pins H b) (k:∀ b o,b∉h->s.heap.get? b=some o->g.get? b=some o)
  (p:xs.length<=sizeLine) (r:Vals xs its) (w:g.get? s.heap.objs.size=some { cls:=.type "tuple", data:=.seq its.toArray }):Inv X pins σ (upd H s.heap.objs.size (.tup xs)) { s with heap:=g,toks:=tk }:=by
 have x:H s.heap.objs.size=none:=I.hok.fresh (AS _);have f:∀ b u,H b=some u->b≠s.heap.objs.size:=λb u q=>BA q x;have tr:∀ b u,H b=some u->b∉h:=λb u q a=>by rw [(e b a).1] at q;cases q
 refine I.step (g':=s.gens) (d':=s.drawn) (ch:=h) (λb a=>⟨(e b a).2.2.2.1,(e b a).2.1,(e b a).2.2.2.2.1,(e b a).2.2.2.2.2⟩) (λb o _ _ d q _=>k b o d q) (λb o _ _ d q _=>⟨o.slots,k b o d q⟩) (λb o _ q n=>?_)
  (λb o d q=>⟨o,k b o d q⟩) (λb A q=>?_) (λb o u q=>?_) (λb ps q=>⟨#[],?_⟩) (λm B=>?_) (λb u q=>?_) I.bare
 ·rw [Aw (CI (rH q))];exact n
 ·rw [Aw (f b _ q)];exact q
 ·rw [Aw (f b _ q)];exact q
 ·rw [Aw (f b _ q),q];simp
 ·obtain ⟨o,C,D,E,F⟩:=B;exact ⟨o,C,D,k _ o (λa=>(e _ a).2.1 rfl) E,F⟩
 ·by_cases a:b=s.heap.objs.size
  ·subst a;rw [upd_same] at q;cases q;exact ⟨p,its,r,⟨_,w,rfl,_,rfl⟩⟩
  ·rw [Aw a] at q;refine (I.hok b u q).stay (λc v d z=>?_) (λc z=>by rw [Aw (f c _ z)];exact z) λc A z=>by rw [Aw (f c _ z)];exact z
   rcases d with y | y
   ·subst y;exact k _ v (tr _ u q) z
   ·exact k c v (tr c _ y) z
end
def XU (a b z c d e f:Addr) (i:Nat) (h:Heap):Prop:=IsZip h z c d .none/\IsPair h c (.ref e) (.ref f)/\(∃ u v,IsPair h d u v)/\h.IsListIter e a i/\h.IsListIter f b i
def XV {P:Program} {w:World} {K:W.Frag} {M:dL} {k:Nat} {Y:Pos} {a b z p r m n:Addr} (D:ZipApart z p r m n a b):Turn P w K (.Tuple M k Y) (Itz K a b) [z,p,r,m,n] z (XU a b z p r m n) where
 mem:=by simp
 obj:=λi h f c j=>by
  obtain ⟨G,F,⟨u,v,J⟩,⟨o4,B,_,d4⟩,⟨o5,C,_,d5⟩⟩:=f
  have d:c=z\/c=p\/c=r\/c=m\/c=n:=by simpa using j
  rcases d with rfl | rfl | rfl | rfl | rfl
  ·exact ⟨_,G,λv q=>nomatch q⟩
  ·exact ⟨_,F,λv q=>nomatch q⟩
  ·exact ⟨_,J,λv q=>nomatch q⟩
  ·exact ⟨_,B,λv q=>by rw [d4] at q;cases q⟩
  ·exact ⟨_,C,λv q=>by rw [d5] at q;cases q⟩
 keep:=λi h h' f N=>⟨N z (by simp) _ f.1,N p (by simp) _ f.2.1,let ⟨u,v,q⟩:=f.2.2.1;⟨u,v,N r (by simp) _ q⟩,f.2.2.2.1.at λo q=>N m (by simp) o q,f.2.2.2.2.at λo q=>N n (by simp) o q⟩
 item:=by
  intro X Z hw hK j i O s σ H E I S f hg
  subst Z hw hK
  obtain ⟨xs,ys,x,y,T,A,hx,hy⟩:=hg
  obtain ⟨G,F,⟨u0,v0,J⟩,B,C⟩:=f
  obtain ⟨Q,rv,p1,_⟩:=I.list T
  obtain ⟨a0,rw',p2,_⟩:=I.list A
  obtain ⟨u,hu,ru⟩:=rv.get hx
  obtain ⟨v,hv,a1⟩:=rw'.get hy
  refine wpAny_pyNext_zip_item D G F J B C p1.isList p2.isList (x:=u) (y:=v) (by simpa using hu) (by simpa using hv) λg g1 g2 g3 g4 g5 _ U=>?_
  refine ⟨_,rfl,wpAny_letOwnedTupleGo_zip g1 λg' z1 L=>?_⟩
  have lz:z<s.heap.objs.size:=rH G
  have R:∀ c o,c∉[z,p,r,m,n]->s.heap.get? c=some o->g'.get? c=some o:=λc o j q=>by
   have d:¬ (c=z\/c=p\/c=r\/c=m\/c=n):=by simpa using j
   exact L.extBut c o (λe=>d (.inl e)) (U c o (λe=>d (.inl e)) (λe=>d (.inr (.inr (.inl e)))) (λe=>d (.inr (.inr (.inr (.inl e))))) (λe=>d (.inr (.inr (.inr (.inr e))))) q)
  have I1:=XT (g:=g') (tk:=s.toks) (xs:=[x,y]) (its:=[u,v]) I S R (sz (by simp)) (.cons ru (.cons a1 .nil)) (L.extBut _ _ (Nat.ne_of_gt lz) g5)
  refine ⟨.ref s.heap.objs.size,_,I1,rfl,⟨_,x,y,I.hok.fresh (AS _),rfl,rfl,λzs hz=>by rw [I.list_inj hz T];exact hx,λzs hz=>by rw [I.list_inj hz A];exact hy⟩,⟨z1,?_,⟨u,v,L.extBut _ _ D.TOz g2⟩,g3.at λo q=>L.extBut m o D.i1z q,g4.at λo q=>L.extBut n o D.i2z q⟩,λc j=>?_⟩
  ·exact L.extBut _ _ D.TIz (U _ _ D.TIz D.TITO D.TIi1 D.TIi2 F)
  ·rw [Aw]
   ·exact (S c j).1
   ·have d:c=z\/c=p\/c=r\/c=m\/c=n:=by simpa using j
    obtain ⟨o4,B,_⟩:=B
    obtain ⟨o5,C,_⟩:=C
    rcases d with rfl | rfl | rfl | rfl | rfl
    ·exact CI lz
    ·exact CI (rH F)
    ·exact CI (rH J)
    ·exact CI (rH B)
    ·exact CI (rH C)
 done:=by
  intro X Z hw hK j i O s σ H E I S f hg
  subst Z hw hK
  obtain ⟨xs,ys,T,A,hx⟩:=hg
  obtain ⟨G,F,⟨u0,v0,J⟩,B,C⟩:=f
  obtain ⟨Q,rv,p1,_⟩:=I.list T
  obtain ⟨a0,_,p2,_⟩:=I.list A
  have hl:=rv.length
  refine wpAny_pyNext_zip_end (I.ok.hd j) D G F J B C p1.isList p2.isList (.inl (by simp;omega)) λg U=>⟨rfl,XS (tk:=s.toks) I S λc o j q=>?_⟩
  have d:¬ (c=z\/c=p\/c=r\/c=m\/c=n):=by simpa using j
  exact U c o (λe=>d (.inl e)) (λe=>d (.inr (.inr (.inl e)))) (λe=>d (.inr (.inr (.inr (.inl e))))) (λe=>d (.inr (.inr (.inr (.inr e))))) q
 self:=λ_ _ _ _ _ f h=>wpAny_pyIter_zip f.1 h
section
variable {X:Cx} {elts:dL} {k:Nat} {tpos:Pos} {a b:Expr} {ta:TA} {p pos:Pos}
def vals2 {x y:V} {c:dE} (r:Vals [x,y] c):∃ u v,c=[u,v]/\RelV x u/\RelV y v:=r.two
def XW (C:Gl X "zip") (E:X.mg "zip" = none) (F:PA X [a,b] ta) (G:starEach [a,b] X.env=(false,eval a X.env)::starEach [b] X.env:=by rfl) (j:(backTo pos (starEach [b] X.env)).any (·.1)=false:=by rfl):PI X (.Tuple elts k tpos) (.Call (.Name "zip" p) [a,b] [] pos) (Kz X.K ta):=by
 intro e s n H R I h;refine Call_ (Ek I C E Ww (PyProof.Rows.callWith_type1 (F_ (F pos e s n H _ I h) λus d ⟨vs,o,f,J,K⟩=>?_) G j));obtain ⟨r,w,rfl,⟨xs,L⟩,⟨ys,m⟩,q⟩:=K;obtain ⟨u,v,rfl,M,N⟩:=vals2 J;cases M;cases N;obtain ⟨O,_,x,_⟩:=f.list L;obtain ⟨P,_,y,_⟩:=f.list m;refine call_zip_2 x.isList y.isList λg A Q S T U _ W=>?_;have Y:Inv X e n o { d with heap:=g }:=f.kept (t':=d.toks) W;have n1:@LT.lt Nat _ r d.heap.objs.size:=x.lt;have n2:@LT.lt Nat _ w d.heap.objs.size:=y.lt
 have D:ZipApart (d.heap.objs.size+4) (d.heap.objs.size+2) (d.heap.objs.size+3) d.heap.objs.size (d.heap.objs.size+1) r w:=by
  constructor <;> (show (_:Nat)≠_;omega)
 refine wpAny_pyIter_zip A ⟨_,[d.heap.objs.size+4,d.heap.objs.size+2,d.heap.objs.size+3,d.heap.objs.size,d.heap.objs.size+1],_,_,o,rfl,Y,XV D,⟨A,Q,⟨_,_,S⟩,T,U⟩,λc Z=>?_,q⟩
 have i:d.heap.objs.size<=c:=by
  have z:c=d.heap.objs.size+4\/c=d.heap.objs.size+2\/c=d.heap.objs.size+3\/c=d.heap.objs.size\/c=d.heap.objs.size+1:=by simpa using Z
  rcases z with z | z | z | z | z <;> rw [z] <;> first | exact Nat.le_add_right _ _ | exact AS _
 exact f.fpOk i (f.hok.fresh i)
end
def XX:bootBuiltins "any" = some (.builtin "any"):=by decide +kernel
theorem JQ:∀ {a:dD} {b:dE} {i:Nat} {u:Value},Vals (a.map V.int) b->b[i]?=some u->∃ n t,a[i]?=some n/\u=Value.int n t
 | [],_,_,_,.nil,e=>by simp at e
 | n::a,_,0,_,.cons r _,e=>by
   simp at e;subst e;obtain ⟨t,rfl⟩:=r;exact ⟨n,t,rfl,rfl⟩
 | _::a,_,i+1,u,.cons _ r,e=>by
   obtain ⟨n,t,c,d⟩:=JQ (i:=i) (u:=u) r (by simpa using e);exact ⟨n,t,by simpa using c,d⟩
section
variable {X:Cx}
def XY (y:X.calm=true):Cp X (.builtin "any") K2:=λk s M H N O Q I r ⟨p,c,e,hp,q⟩=>by
 subst e;obtain ⟨u,rfl,B⟩:=ER r;cases B;obtain ⟨a,m,j,P⟩:=I.list (SqL.of hp);have hl:c.length=a.length:=by have:=m.length;simpa using this
 refine call_any_walk (wpAny_pyIter_list j.isList ⟨s.heap.objs.size,[s.heap.objs.size,p],[s.heap.objs.size],a.toArray.size,_,_,λi=>!decide (c.getD i 0=0),rfl,Walks.list (A:=X.A.in1) (show X.A.in1.handled=none from I.ok.hd y) s.heap.objs.size p (CI j.lt) _,⟨⟨_,Heap.get?_push_size _ rfl,rfl,rfl⟩,j.isList.push _⟩,?_,λg R C=>?_⟩)
 ·intro i v D E S F f;obtain ⟨n,t,G,rfl⟩:=JQ m (show a[i]?=some v by simpa using F);have e:c.getD i 0=n:=by rw [AO,G];rfl
  replace f:E (!decide (c.getD i 0=0)) D:=f;rw [e] at f;refine PySem.P.truthy_int ?_;have J:(n != 0)=!decide (n=0):=by rw [Bool.eq_iff_iff];simp
  rw [J];exact f
 ·have K:∀ b o,s.heap.get? b=some o->g.get? b=some o:=λb o e=>C b o (λz=>absurd (rH e) (by rw [Aq.mp z];exact Dj _)) (Heap.get?_push_of_some _ e);refine ⟨_,H,I.kept K,?_,q⟩;show Value.bool _=Value.bool _;congr 1;rw [Bool.eq_iff_iff];simp only [List.any_eq_true,Eb,BX];constructor
  ·rintro ⟨i,w,h⟩;have d:i<c.length:=by omega
   rw [AO,Ag d] at h;exact ⟨c[i],DM d,h⟩
  ·rintro ⟨x,L,h⟩;obtain ⟨i,w,rfl⟩:=FX L;refine ⟨i,⋯,?_⟩;rw [AO,Ag w];exact h
end
def XZ (a v:Value):argsOk "min" ⟨[a],[("default", v)]⟩:=by unfold argsOk;kernel_rfl
end Bs
namespace Bs
open PySem L2
def sS (K:W.Frag):V->Option Int->Option Int->Hp->VK->Prop:=λx lo c H Q=>∃ a b,x=.ref a/\SqL K H a b/\∀ p,H p=none->Q (.ref p) (upd H p (.lst (Cg b lo c)))
def Xa:dz->Hp->VK->Prop:=λb H Q=>∃ (p:Addr) (a:dD),b=[.ref p]/\H p=some (.lst (a.map V.int))/\Q (.int a.sum) H
end Bs
namespace Bs
open PySem PySem.Spec PyProof.Rows L2
section
variable {X:Cx}
def Xb:OpR X (inplaceOp .FloorDiv) Dv:=by
 intro a s g H x y v u Q I b c ⟨i,j,d,e,f,q⟩;subst d e;obtain ⟨t,rfl⟩:=b;obtain ⟨h,rfl⟩:=c;exact ifloordiv_int f ⟨.int (i.fdiv j),H,I.tok _,⟨_,rfl⟩,q⟩ (Or.inr (I.ok.plr s I.bk))
def Xc:OpR X (inplaceOp .FloorDiv) FH:=by
 intro a s c H x y v u Q I d e ⟨i,j,f,g,h,q⟩;have b:0<j:=h;replace q:Q (.int (i / j)) H:=q;rw [<-EK i (DT b)] at q;exact Xb a s c H x y v u Q I d e ⟨i,j,f,g,AU b,q⟩
def Xd:cK X (sS X.K):=Nl
end
end Bs
namespace Bs
open PySem L2
def Xe (n:Nat) (t:aY):TG:=λv c H Q=>∃ a b,v=.ref a/\H a=some (.lst b)/\b.length=n/\t b c H Q
end Bs
namespace Bs
open PySem PySem.Spec PyProof.Rows L2
def Xf {m n:Nat} {a b:Int} (c:Bd m a) (d:Bd n b) (h:m+n<=134217728):IntMulOk a b:=IntMulOk.of_le (N6 c) (N6 d) h
end Bs
namespace Bs
open PySem L2
noncomputable def blN (i:Int):Nat:=if i=0 then 0 else i.natAbs.log2+1
def JR:R2:=rI (λi j=>0<=j/\(blN i:Int)+j<=134217728) λi j=>.int (i*2 ^ j.toNat)
def K3:V->dz->Hp->VK->Prop:=λx a H Q=>∃ i:Int,x=.int i/\a=[]/\Q (.int (blN i)) H
def OF (te:TE):TE:=λc H Q=>te c H λx b=>∃ (p:Addr) (a:dD),x=.ref p/\b p=some (.lst (a.map V.int))/\∀ M:Int,(a=[]/\M=0\/M∈a/\∀ z∈a,z<=M)->Q (.int M) b
end Bs
namespace Bs
open PySem PySem.Spec PyProof.Rows L2
section
variable {X:Cx}
def OG (i:Int):Builtin.Int.intBits i=blN i:=by unfold Builtin.Int.intBits blN;by_cases h:i=0 <;> simp [h]
def K4:OpR X (binaryOp .LShift) JR:=bH λ_ _ _ _ _ _ _ a q=>lshift_int a.1 (by rw [OG];exact a.2) q
def OH:MtR X "int.bit_length" K3:=by
 intro a s d H x e v f Q I b c h;obtain ⟨i,rfl,rfl,q⟩:=h;obtain ⟨t,rfl⟩:=b;cases c;exact call_int_bit_length ⟨.int (blN i),H,I.tok _,⟨_,by rw [OG]⟩,q⟩
end
def Xg (a v:Value):argsOk "max" ⟨[a],[("default", v)]⟩:=by unfold argsOk;kernel_rfl
end Bs
namespace Bs
open PySem L2
abbrev OI:R2:=rI (λ_ j=>0<=j) λi j=>.int (i.fdiv (2 ^ j.toNat))
end Bs
namespace Bs
open PySem PySem.Spec PySem.Calls PySem.SeqAt PyProof.Rows L2
open AutoSeq1 (wpAny_loadPart')
def Xh {X:Cx}:OpR X (binaryOp .RShift) OI:=bH λ_ _ _ _ _ _ _ a q=>rshift_int a q
end Bs
namespace Bs
open PySem L2
def OJ (te:TE):TE:=λd H Q=>te d H λx b=>∃ (a:Addr) (c:dz),x=.ref a/\b a=some (.lst c)/\∀ p,b p=none->Q (.ref p) (upd b p (.lst c.reverse))
end Bs
namespace Bs
open PySem PySem.Spec PyProof.Rows L2
open PySem.AutoSeq1 (wpAny_loadPart')
abbrev aC (i:Int):TE:=tC (.int i)
abbrev bT (s:Sp) (t:TA):TE:=AK s [] E0 t
def Xi {X:Cx} {e st:Expr} {te:TE} {u j:Pos} (B:PE X e te) (k:PE X st (Q_ BZ (aC 1))):PE X (.Subscript e (.Slice none none (some st) u) j) (OJ te):=by
 intro c s i H Q I h;refine Subscript_ (F_ (B c s i H _ I h) λv C ⟨x,w,D,E,F⟩=>?_);refine wpAny_Slice ?_;rw [evalPart_none];refine rE (rE (F_ (F3 k c C i w (λo G=>o=some (-1)/\G=w) D ⟨1,rfl,-1,rfl,rfl,rfl⟩) λy d ⟨o,J,K,L,M,N⟩=>?_));subst M N;have m:Inv X c i J { d with heap:=d.heap.push { cls:=.type "slice", data:=.fields #[.none,.none,y] } }:=K.kept (t':=d.toks) λb O q=>Heap.get?_push_of_some _ q;obtain ⟨a,P,rfl,R,q⟩:=F;cases E;obtain ⟨p,r,z,S⟩:=m.list (SqL.of R);have A:=r.length;show wpAny (model X.prog X.w) X.A (subscriptTail e (.Slice none none (some st) u) (.ref a) (.ref d.heap.objs.size)) (EP X c i Q) X.xe { d with heap:=d.heap.push { cls:=.type "slice", data:=.fields #[.none,.none,y] } };refine tail_any (ops:=[.ref a,.ref d.heap.objs.size]) z.isList.typeIs slot_list_getitem.lookup ?_ (by with_unfolding_all rfl);refine wpAny_getItem_list_slice z.isList (Heap.IsSliceOf.new ..) .none .none L (by simp) ?_ (by rw [BX] <;> omega);rw [W.krv_pick];refine ⟨.ref _,_,m.laid (t':=d.toks) (o:=.lst P.reverse) (λb O q=>Heap.get?_push_of_some _ q) (AS _) ?_,rfl,q _ (m.hok.fresh (AS _))⟩;exact ⟨by rw [List.length_reverse];exact S,p.reverse,0,r.reverse,Heap.get?_push_size _ rfl⟩
end Bs
namespace Bs
open PySem L2
noncomputable def EV (kvs:List (List J'×V)) (k:List J') (v:V):List (List J'×V):=
 if kvs.any (λa=>a.1=k) then kvs.map (λa=>if a.1=k then (a.1,v) else a) else kvs++[(k,v)]
def OK:TE:=λ_ H Q=>∀ p,H p=none->Q (.ref p) (upd H p (.dT []))
def Hm:V->V->V->Hp->(Hp->Prop)->Prop:=λo i v H Q=>∃ p b c a,o=.ref p/\i=.ref b/\H b=some (.tup (List.map kV c))/\H p=some (.dT a)/\a.length<sizeLine/\Q (upd H p (.dT (EV a c v)))
end Bs
namespace Bs
open PySem PySem.Spec PySem.Calls PyProof.Rows L2
def Xj {P:Program} {w:World} {k:J'} {u:Value} (r:RelV (kV k) u):(FA P w).is k u=true:=by
 rcases k with i | x
 ·obtain ⟨t,rfl⟩:=r;exact UW P w i t
 ·obtain ⟨t,rfl⟩:=r;exact UX P w x t
theorem OM {P:Program} {w:World}:∀ (a:List J') {b:dE},Vals (a.map kV) b->ItemsAre (FA P w) a b
 | [],_,.nil=>.nil
 | _::a,_,.cons h t=>.cons (Xj h) (OM a t)
abbrev TKv (H:Hp):List (List J'×V)->List (List J'×Addr×Value)->Prop:=Paired λp q=>p.1=q.1/\H q.2.1=some (.tup (p.1.map kV))/\RelV p.2 q.2.2
theorem TKv.any {H:Hp} {k:List J'}:∀ {kvs:List (List J'×V)} {xs:List (List J'×Addr×Value)},TKv H kvs xs->kvs.any (λd=>d.1=k)=(atKey xs k).isSome
 | _,_,.nil=>rfl
 | _,_,.cons (a:=p) (b:=q) h t=>by
   rw [List.any_cons,TKv.any t];unfold atKey;rw [List.find?_cons,<-h.1];by_cases c:p.1=k
   ·rw [rA c];rfl
   ·rw [rC c];rfl
theorem TKv.map {H:Hp} {k:List J'} {v:V} {u:Value} (e:RelV v u):∀ {kvs:List (List J'×V)} {xs:List (List J'×Addr×Value)},TKv H kvs xs->TKv H (kvs.map λd=>if d.1=k then (d.1,v) else d) (xs.map (putAt k u))
 | _,_,.nil=>.nil
 | _,_,.cons (a:=p) (b:=q) h t=>by
   rw [Ed,Ed];refine .cons ?_ (TKv.map e t);unfold putAt;by_cases c:p.1=k
   ·rw [sZ c,sZ (h.1 ▸ c)];exact ⟨h.1,h.2.1,e⟩
   ·rw [sY c,sY (h.1 ▸ c)];exact h
theorem TKv.snoc {H:Hp} {p:List J'×V} {q:List J'×Addr×Value} (h:p.1=q.1/\H q.2.1=some (.tup (p.1.map kV))/\RelV p.2 q.2.2):∀ {kvs:List (List J'×V)} {xs:List (List J'×Addr×Value)},TKv H kvs xs->TKv H (kvs++[p]) (xs++[q])
 | _,_,.nil=>.cons h .nil
 | _,_,.cons a t=>.cons a (TKv.snoc h t)
def TKv.put {H:Hp} {k:List J'} {b:Addr} {v:V} {u:Value} {kvs:List (List J'×V)} {xs:List (List J'×Addr×Value)} (h:TKv H kvs xs) (c:H b=some (.tup (k.map kV))) (a:RelV v u):TKv H (EV kvs k v) (storedH xs k b u):=by
 unfold EV storedH;rw [TKv.any h];split
 ·exact TKv.map a h
 ·exact TKv.snoc ⟨rfl,c,a⟩ h
def Xk {k:List J'} {v:V} {kvs:List (List J'×V)}:(EV kvs k v).length<=kvs.length+1:=by
 unfold EV;split
 ·rw [AJ];omega
 ·rw [Cr];exact AS _
theorem TKv.mem {H:Hp}:∀ {kvs:List (List J'×V)} {xs:List (List J'×Addr×Value)},TKv H kvs xs->∀ x∈xs,H x.2.1=some (.tup (x.1.map kV))
 | _,_,.nil,x,c=>nomatch c
 | _,_,.cons (a:=p) (b:=q) h t,x,c=>by
   rcases By.mp c with e | e
   ·rw [e,<-h.1];exact h.2.1
   ·exact TKv.mem t x e
section
variable {X:Cx}
def ON {a:dH} {σ:L2.St} {H:Hp} {s:Shared} {b:Addr} {c:List J'} (I:Inv X a σ H s) (h:H b=some (.tup (c.map kV))):(tupleKind (FA X.prog X.w)).is s.heap c b:=by
 obtain ⟨_,d,r,o,e,f,n,g⟩:=(show ObjOk X.prog X.w H s.heap b (.tup (c.map kV)) from I.hok b _ h);exact ⟨o,d.toArray,n,e,f,g,by rw [List.toList_toArray];exact OM c r⟩
def OO {a:dH} {σ:L2.St} {H:Hp} {s:Shared} {p:Addr} {kvs:List (List J'×V)} (I:Inv X a σ H s) (h:H p=some (.dT kvs)) :
  kvs.length<=sizeLine/\(p == sysModules)=false/\∃ b,TKv H kvs b/\s.heap.DictOfH (tupleKind (FA X.prog X.w)) p b:=by
 obtain ⟨z,y,b,r,o,c,d,e,f,g,i,j⟩:=(show ObjOk X.prog X.w H s.heap p (.dT kvs) from I.hok p _ h);exact ⟨z,y,b,r,o,c,d,e,f,g,i,λx k=>ON I (TKv.mem r x k),j⟩
def K5 (O:X.A.units+64<cLine):bu X Hm:=by
 intro d s P H o i v R S u Q I j n A h;obtain ⟨p,b,f,a,rfl,rfl,c,hp,B,q⟩:=h;cases j;cases n;obtain ⟨T,C,D,r,m⟩:=OO I hp;have hl:a.length=D.length:=Paired.length r;refine wpAny_setItem_heap (hsz:=by omega) (tupleKind_room_in1 ⋯) (ON I c) m λU g E=>⟨_,I.write (x:=p) (e:=p) (o:=.dT (EV a f v)) (by rw [hp];trivial) (.inl rfl) (λb u c e=>(E.2 b c).trans e) ?_ ?_,q⟩
 ·obtain ⟨o,_,_,e,_⟩:=g;exact ⟨o,e⟩
 ·obtain ⟨o,F,G,J,K,L,M,_,N⟩:=g;refine ⟨by have:=Xk (k:=f) (v:=v) (kvs:=a);omega,C,_,Paired.mapP (TKv.put r c A) λx y z=>⟨z.1,?_,z.2.2⟩,o,F,G,J,K,L,M,N⟩;rw [Aw (NI z.2.1 hp λw=>nomatch w)];exact z.2.1
def Xl {a:Pos}:PE X (.Dict [] [] a) OK:=by
 intro c s g H Q I h;have d:H s.heap.objs.size=none:=I.hok.fresh (AS _);obtain ⟨m,F⟩:=I.fr;have f:(s.heap.objs.size == sysModules)=false:=F.notModules (modules_low I.ok.mod.nolimit);exact wpAny_Dict_empty ⟨.ref s.heap.objs.size,_,I.laid (o:=.dT []) (t':=s.toks) (λb u e=>Heap.get?_push_of_some _ e) (AS _) ⟨Aa _,f,[],.nil,_,#[],0,Heap.get?_push_size _ rfl,⟨rfl,rfl,rfl⟩,rfl,rfl,List.nodup_nil⟩,rfl,h _ d⟩
end
end Bs
namespace Bs
open PySem L2
def K6:dz->Hp->VK->Prop:=λa H Q=>∃ (i:Int) (n:String) (b:Bool),a=[.int i,.ty n]/\(n = "int" /\ b=true\/n = "bool" /\ b=false)/\Q (.bl b) H
end Bs
namespace Bs
open PySem PySem.Spec PyProof.Rows L2
def OP {X:Cx}:Cp X (.builtin "isinstance") K6:=λc s h H j k Q I r ⟨i,n,b,e,d,q⟩=>by
 subst e;obtain ⟨u,f,rfl,g,rn⟩:=vals2 r;obtain ⟨t,rfl⟩:=g;have a:f=Value.type n:=rn;subst a;rcases d with ⟨rfl,rfl⟩ | ⟨rfl,rfl⟩
 ·exact PySem.IsiPair.int_int ⟨.bl true,H,I,rfl,q⟩
 ·exact PySem.IsiPair.int_bool ⟨.bl false,H,I.tok _,rfl,q⟩
end Bs
namespace Bs
open PySem L2
def tMM (C:dD->Int->Prop) (te:TE):TE:=λc H Q=>te c H λx a=>∃ (p:Addr) (b:dD),x=.ref p/\a p=some (.lst (b.map V.int))/\∀ M:Int,C b M->Q (.int M) a
end Bs
namespace Bs
open PySem PySem.Spec PyProof.Rows L2
section
variable {prog:Program} {w:World} {A:Around} {R:Result->Shared->Prop} {I:Addr} {fp wr:dN} {n:Nat} {P:Nat->Value->Prop} {St:Nat->Heap->Prop} {d:Value} {m:Bool}
def mmE {m:Bool}:entryFor table (cond m "max.loop" "min.loop")=some (cond m Builtin.«max.loop» Builtin.«min.loop»):=by
 cases m
 ·exact F.entry_min_loop
 ·exact F.entry_max_loop
def mmP {m:Bool}:plainId (cond m "max.loop" "min.loop")=true:=by
 cases m
 ·exact F.plain_min_loop
 ·exact F.plain_max_loop
def cQ:(toString "max" ++ toString ".loop" : String) = "max.loop" := by decide
def cS:(toString "min" ++ toString ".loop" : String) = "min.loop" := by decide
theorem Xm (W:Walks prog w A.in1 I fp wr n P St) (h:Nat->Nat->Bool) (U:∀ i j q,h j q=true->h i q=false->h i j=false) (F:∀ i,h i i=false) (G:CmpOf prog w A.in1 (cond m .Gt .Lt) P h) (S:Addr) (r:S∉fp):∀ (k j q:Nat) (s:Shared) (f:Value) (c:Nat),n - j=k->j<=n->St j s.heap->q<n->(∀ i,i<j->h i q=false)->P q f->
  s.heap.get? S=some { cls:=.type "list", dict:=none,data:=.seq #[f,f] c,slots:=#[] }->
  (∀ q v M N,q<n->(∀ i,i<n->h i q=false)->P q v->(∀ b o,b∉wr->b≠S->s.heap.get? b=some o->M.get? b=some o)->R (.ok (.ret v)) { s with heap:=M,toks:=N })->
  codeAny (model prog w) A (.builtin (cond m "max.loop" "min.loop") ⟨[.ref I,.none,.ref S],[("default", d)]⟩) R s:=by
 intro k
 induction k with
 | zero=>
   intro j q s f c hk hj u X O g H Q;have J:j=n:=by omega
   refine codeAny_builtin mmE ?_;rw [Around.under_plainId mmP _]
   cases m <;> (
    refine rD (m:=seqItems? (.ref S)) (wpAny_seqItems H rfl ?_);refine rD (m:=tryCatch (pyNext (.ref I)) _) (wpAny_tryCatch (W.done s _ _ (J ▸ u) λM N kp=>?_));have a:=kp S _ (λz=>r (W.sub _ z)) H;refine rD (m:=updateSeq S (λ_=>#[])) (wpAny_updateSeq a rfl (rD (wpAny_letGo (rE ?_))));exact Q q f _ N X (J ▸ O) g λb o x K e=>(Heap.get?_update_other _ _ K.symm).trans (kp b o x e))
 | succ k ih=>
   intro j q s f c hk hj u X O g H Q;have J:j<n:=by omega
   refine codeAny_builtin mmE ?_;rw [Around.under_plainId mmP _]
   cases m <;> (
    refine rD (m:=seqItems? (.ref S)) (wpAny_seqItems H rfl ?_);refine rD (m:=tryCatch (pyNext (.ref I)) _) (wpAny_tryCatch (W.item j s _ _ J u λv M N hP p kp=>?_));have a:=kp S _ (λz=>r (W.sub _ z)) H;refine rD (m:=tryCatch (holding [v,v] (richCompare _ v f >>= _)) _) (wpAny_tryCatch (wpAny_holding (rD (G j q v f _ _ _ hP g ?_))));refine rD (wpAny_holding (wpAny_truthy_bool (rD (wpAny_letGo (rE ?_)))));cases L:h j q with
    | true=>
      simp only [if_true];refine rD (wpAny_updateSeq a rfl (rD (wpAny_letGo ?_)))
      first | rw [cQ] | rw [cS]
      refine rE ⟨plainId_quiet (by decide +kernel) _,ih (j+1) j _ v _ ⋯ ⋯ (W.frame _ _ _ p λb hb o e=>(Heap.get?_update_other _ _ (λz:S=b=>r (by rw [z];exact hb))).trans e) J (λi Y=>by rcases Nat.lt_succ_iff_lt_or_eq.mp Y with z | z;exact U i j q L (O i z);rw [z];exact F j) hP (Heap.get?_update_self _ a rfl) λZ v' K y B C D E=>?_⟩;exact Q Z v' K y B C D λb o x T e=>E b o x T ((Heap.get?_update_other _ _ T.symm).trans (kp b o x e))
    | false=>
      simp only [E6,if_false];refine rD (wpAny_letGo ?_)
      first | rw [cQ] | rw [cS]
      exact rE ⟨plainId_quiet (by decide +kernel) _,ih (j+1) q _ f c ⋯ ⋯ p X (λi Y=>by rcases Nat.lt_succ_iff_lt_or_eq.mp Y with z | z;exact O i z;rw [z];exact L) g a λZ v' K y B C D E=>Q Z v' K y B C D λb o x T e=>E b o x T (kp b o x e)⟩)
def OQ (W:Walks prog w A.in1 I fp wr n P St) (f:Nat->Nat->Bool) (B:∀ i j q,f j q=true->f i q=false->f i j=false) (a:∀ i,f i i=false) (h:CmpOf prog w A.in1 (cond m .Gt .Lt) P f) (S:Addr) (g:S∉fp) {s:Shared} {c:Nat} (k:St 0 s.heap)
  (H:s.heap.get? S=some { cls:=.type "list", dict:=none,data:=.seq #[] c,slots:=#[] })
  (J:∀ v p x,(n=0/\v=d\/∃ q,q<n/\(∀ i,i<n->f i q=false)/\P q v)->(∀ b o,b∉wr->b≠S->s.heap.get? b=some o->p.get? b=some o)->R (.ok (.ret v)) { s with heap:=p,toks:=x }) :
  codeAny (model prog w) A (.builtin (cond m "max.loop" "min.loop") ⟨[.ref I,.none,.ref S],[("default", d)]⟩) R s:=by
 refine codeAny_builtin mmE ?_;rw [Around.under_plainId mmP _]
 cases m <;> (
  refine rD (m:=seqItems? (.ref S)) (wpAny_seqItems H rfl ?_);rcases DS n with z | z
  ·refine rD (m:=tryCatch (pyNext (.ref I)) _) (wpAny_tryCatch (W.done s _ _ (z ▸ k) λp x kp=>?_));refine rD (wpAny_rule (rE ?_));exact J d p x (.inl ⟨z,rfl⟩) λb o y _ e=>kp b o y e
  ·refine rD (m:=tryCatch (pyNext (.ref I)) _) (wpAny_tryCatch (W.item 0 s _ _ z k λv p x N r kp=>?_));have u:=kp S _ (λz=>g (W.sub _ z)) H;refine rD (m:=updateSeq S (λ_=>#[v,v])) (wpAny_updateSeq u rfl ?_)
   first | rw [cQ] | rw [cS]
   refine rE ⟨plainId_quiet (by decide +kernel) _,Xm W f B a h S g _ 1 0 _ v _ rfl z (W.frame _ _ _ r λb O o e=>(Heap.get?_update_other _ _ (λz:S=b=>g (by rw [z];exact O))).trans e) z (λi X=>by rw [show i=0 by omega];exact a 0) N (Heap.get?_update_self _ u rfl) λQ T U C D E F G=>?_⟩;exact J T U C (.inr ⟨Q,D,E,F⟩) λb o y M e=>G b o y M ((Heap.get?_update_other _ _ M.symm).trans (kp b o y e)))
end
section
variable {X:Cx} {e:Expr} {te:TE} {p pos kp1 kp2:Pos} {kk:Nat}
set_option maxHeartbeats 4000000 in
def OR {m:Bool} {x:Str} {C:dD->Int->Prop} (R:∀ k M,(k=[]/\M=0\/M∈k/\∀ z∈k,cond m (z<=M) (M<=z))->C k M) (hx:m=true/\x = "max" \/ m=false/\x = "min") (hc:X.calm=true) (hm:X.mg x=none) (hv:bootBuiltins x=some (.builtin (cond m "max" "min"))) (ha:PE X e te) (hg:Gl X x) (J:backTo pos (starEach [e] X.env)=(false,eval e X.env)::backTo pos (starEach [] X.env)):PE X (.Call (.Name x p) [e] [⟨some "default", .Constant (.int 0) kk kp1,kp2⟩] pos) (tMM C te):=by
 rcases hx with ⟨rfl,rfl⟩ | ⟨rfl,rfl⟩ <;> (
  intro r s S H Q I h;refine wpAny_Call_Name_kw (Ek I hg hm hv ?_ ∅ ∅);refine PyProof.Rows.callWith_kw ?_ J (by rw [J];rfl);rw [J];refine Calls.spliced_cons (F_ (ha r s S H _ I h) λu s1 ⟨x,T,I1,r1,q1⟩=>Calls.spliced_nil ?_);have kw:PK X [⟨some "default", .Constant (.int 0) kk kp1,kp2⟩] (AB (aC 0) AC):=U8 AD U7;refine F_ (kw pos r s1 S T (λvs U=>vs=[.int 0]/\U=T) I1 ⟨rfl,rfl⟩) λws d ⟨zs,U,K,rz,ez,eh⟩=>?_;subst ez eh;obtain ⟨z,rfl,t,rfl⟩:=ER rz;obtain ⟨l,k,rfl,hl,q⟩:=q1;cases r1;obtain ⟨f,L,D,Y⟩:=K.list (SqL.of hl);have a0:k.length=f.length:=by have:=L.length;simpa using this
  first | refine kmb_tree F.kind_max F.plain_max F.entry_max (Xg _ _) ?_ | refine kmb_tree F.kind_min F.plain_min F.entry_min (XZ _ _) ?_
  refine rD (m:=Builtin.Builtins.bindParams _ ["key","default"] 0 ⟨[],[("default", Value.int 0 t)]⟩) (wpAny_of_eq (a:=[none,some (Value.int 0 t)]) rfl ?_);refine rD (rE (rD (wpAny_pyIter_list D.isList ?_)));refine rD (wpAny_newObj_type ?_)
  first | rw [cQ] | rw [cS]
  have N:l<d.heap.objs.size:=D.lt;have Z:(d.heap.push { cls:=.type "list_iterator", data:=.fields #[.ref l,.int 0 0] }).objs.size=d.heap.objs.size+1:=Heap.size_push ..;have W:=Walks.list (prog:=X.prog) (w:=X.w) (A:=X.A.in1) (show X.A.in1.handled=none from K.ok.hd hc) d.heap.objs.size l (CI N) f.toArray
  first | refine rE ⟨plainId_quiet (by decide +kernel) _,OQ (m:=true) W _ (λi j q c y=>by have c:=rB c;have y:=of_decide_eq_false y;exact rC ⋯) (λi=>rC (Int.lt_irrefl _)) (CmpOf.ints_gt (λi=>k.getD i 0) λi v E=>?_) _ ?_ ⟨⟨_,Heap.get?_push_of_some _ (Heap.get?_push_size _ rfl),rfl,rfl⟩,(D.isList.push _).push _⟩ (Heap.get?_push_size _ rfl) λv g tk B gk=>?_⟩ | refine rE ⟨plainId_quiet (by decide +kernel) _,OQ (m:=false) W _ (λi j q c y=>by have c:=rB c;have y:=of_decide_eq_false y;exact rC ⋯) (λi=>rC (Int.lt_irrefl _)) (CmpOf.ints_lt (λi=>k.getD i 0) λi v E=>?_) _ ?_ ⟨⟨_,Heap.get?_push_of_some _ (Heap.get?_push_size _ rfl),rfl,rfl⟩,(D.isList.push _).push _⟩ (Heap.get?_push_size _ rfl) λv g tk B gk=>?_⟩
  ·obtain ⟨n,O,c,rfl⟩:=JQ L (show f[i]?=some v by simpa using E);exact ⟨O,by rw [AO,c];rfl⟩
  ·rw [Z]
   have:¬ (d.heap.objs.size+1=d.heap.objs.size\/d.heap.objs.size+1=l):=λz=>by
    rcases z with z | z
    ·exact absurd z (Nat.succ_ne_self _)
    ·rw [<-z] at N;exact absurd N (DU.mpr (Nat.le_succ _))
   simpa using this
  ·have P:∀ b o,d.heap.get? b=some o->g.get? b=some o:=λb o e=>by
    have G:b<d.heap.objs.size:=rH e;refine gk b o (λz=>?_) (λz=>?_) (Heap.get?_push_of_some _ (Heap.get?_push_of_some _ e))
    ·rw [Aq.mp z] at G;exact absurd G (Dj _)
    ·rw [z,Z] at G;exact absurd G (DU.mpr (Nat.le_succ _))
   have I3:=K.kept (t':=tk) P;rcases B with ⟨z,rfl⟩ | ⟨i,hi,hB,E⟩
   ·exact ⟨.int 0,_,I3,⟨t,rfl⟩,q 0 (R _ _ (.inl ⟨CM.mp (by rw [BX] at z;omega),rfl⟩))⟩
   ·obtain ⟨n,O,c,rfl⟩:=JQ L (show f[i]?=some v by simpa using E);refine ⟨.int n,_,I3,⟨O,rfl⟩,q n (R _ _ (.inr ⟨Bu c,λz Y=>?_⟩))⟩;obtain ⟨j,hj,rfl⟩:=FX Y;have:=of_decide_eq_false (hB j (by rw [BX];omega));rw [AO,AO,c,Ag hj] at this;exact Int.not_lt.mp this)
def Xn (a:X.calm=true) (b:X.mg "max" = none) (hv:bootBuiltins "max" = some (.builtin "max")) (c:PE X e te) (d:Gl X "max" := by rfl) (f:backTo pos (starEach [e] X.env)=(false,eval e X.env)::backTo pos (starEach [] X.env):=by rfl):PE X (.Call (.Name "max" p) [e] [⟨some "default", .Constant (.int 0) kk kp1,kp2⟩] pos) (OF te):=OR (m:=true) (λ_ _ h=>h) (.inl ⟨rfl,rfl⟩) a b hv c d f
def Xo (b:X.calm=true) (c:X.mg "min" = none) (hv:bootBuiltins "min" = some (.builtin "min")) (d:PE X e te) (f:Gl X "min" := by rfl) (g:backTo pos (starEach [e] X.env)=(false,eval e X.env)::backTo pos (starEach [] X.env):=by rfl):PE X (.Call (.Name "min" p) [e] [⟨some "default", .Constant (.int 0) kk kp1,kp2⟩] pos) (K1 te):=OR (m:=false) (C:=λa M=>a=[]/\M=0\/M∈a) (λ_ _ h=>h.imp id And.left) (.inr ⟨rfl,rfl⟩) b c hv d f g
end
section
variable {X:Cx} {pins:dH} {σ:L2.St} {H:Hp} {s:Shared} {N:dM} {capt:List (Option Nat)} {scope:Scope} {cl:List (Str×Addr)} {C:Addr} {fp:dN}
def K7:TT:=λ_ H Q=>Q true H
def cU (X:Cx) (cs:dL) (tc:TT):Prop:=∀ (pins:dH) (s:Shared) (σ:L2.St) (H:Hp) (Q:Bool->Hp->Prop),Inv X pins σ H s->tc σ H Q->
 wpAny (model X.prog X.w) X.A (forIn cs true λc r=>if r=true then do let ok <-isTrue c X.env (eval c X.env);pure (ForInStep.yield ok) else pure (ForInStep.yield r)) (λb d=>∃ a,Inv X pins σ a d/\Q b a) X.xe s
def OS {X:Cx}:cU X [] K7:=λ_ s _ H _ I h=>wpAny_tests_nil ⟨H,I,h⟩
def Xp {X:Cx} {c:Expr} {tc:TT} (h:L2.PT X c tc):cU X [c] tc:=λpins s σ H Q I q=>wpAny_tests_one (h pins s σ H Q I q)
theorem Xq {prog:Program} {w:World} {A:Around} {R:Result->Shared->Prop} {s:Shared} {y a i:Expr} {cs:dL} {scope:Scope} {E:Pos} {M z:Value} {b:Env} (I:Nat->Shared->Prop)
  (F:∀ n s,I n s->wpAny (model prog w) A (pyNext M) (λr d=>match r with
   | none=>R (.ok .next) d
   | some v=>wpAny (model prog w) A (letOwnedTupleGo a M v) (λ_ j=>wpAny (model prog w) A (assign a b v) (λ_ k=>wpAny (model prog w) A (forIn cs true λc r=>if r=true then do let ok <-isTrue c b (eval c b);pure (ForInStep.yield ok) else pure (ForInStep.yield r)) (λB g=>if B=true then wpAny (model prog w) A (eval y b) (λx o=>
     wpAny (model prog w) A (call (.builtin "list.append") [z,x]) (λ_ p=>∃ m,m<n/\I m p) (λ_ _=>False) o) (λ_ _=>False) g else ∃ m,m<n/\I m g) (λ_ _=>False) k) (λ_ _=>False) j) (λ_ _=>False) d) (λ_ _=>False) s)
  (n:Nat) (h:I n s):codeAny (model prog w) A (.compLoop (.ListComp y [⟨a,i,cs,0⟩] scope E) 0 M z b) R s:=by
 refine codeAny_loop rfl I (λn s P=>?_) n h;show wpAny _ A ((compTurn (.ListComp y [⟨a,i,cs,0⟩] scope E) 0 M z b).onRaise (λx=>do noteFrame x b;theTreesLotGoes x)) _ _ s;refine wpAny_noted ?_;rw [compTurn_list];have D:∀ {Q:dF} (e:Value) (O:Shared),(λ(_:Value) (_:Shared)=>False) e O->Q e O:=λ_ _ f=>f.elim;refine rD (wpAny_standAt (rD (rF (F n s P) (λr d q=>?_) D)));cases r with
 | none=>exact rE q
 | some v=>
   refine rD (rF q (λ_ j G=>?_) D);refine rD (rF G (λ_ g J=>rD (rF J (λB k u=>?_) D)) D);cases B with
   | false=>exact rE ⟨rfl,u⟩
   | true=>exact rD (rD (rF u (λx o K=>rD (rF K (λ_ p L=>rE (rE ⟨rfl,L⟩)) D)) D))
def K8 {a4 A tg:Expr} {cs:dL} {tc:TT} {al:Pos} {wi:TI} {g:TG} {te:TE} {pins:dH} {s:Shared} {σ:L2.St} {H:Hp} {Q:VK} (RR:Value->Addr->Result->Shared->Prop) (hc:X.calm=true) (B:BlkOk X N capt scope cl) (hi:PI X tg A wi)
  (hg:∀ C s H fp,PG (X' X N scope cl C s H fp) tg g) (ht:∀ C s H fp,cU (X' X N scope cl C s H fp) cs tc) (he:∀ C s H fp,PE (X' X N scope cl C s H fp) a4 te) (I:Inv X pins σ H s) (h:Gs wi capt g tc te σ H Q)
  (bg:∀ (D C:Addr) (Z:Shared) (Hq:Hp) (m:dJ),Inv X pins σ Hq Z->Q (.ref D) Hq->Z.heap.Ns C m->Hq C=none->C≠X.env.locals->X.s₀.heap.objs.size<=C->(∀ x c,X.env.cells.lookup x=some c->c≠C)->(∀ p∈X.pn++pins,p.1≠C)->RR (.ref D) C (.ok .next) Z) :
  wpAny (model X.prog X.w) X.A (eval A X.env) (λx am=>wpAny (model X.prog X.w) X.A (pyIter x) (λit an=>wpAny (model X.prog X.w) X.A (newList []) (λao ap=>
   wpAny (model X.prog X.w) X.A (newFunctionEnv scope X.env.globals cl [] X.env.qual none .none (some X.env)) (λa0 ar=>
    codeAny (model X.prog X.w) X.A (.compStart (.ListComp a4 [⟨tg,A,cs,0⟩] scope al) 0 it ao { a0 with scope:=relabel scope X.env }) (RR ao a0.locals) ar) X.xe ap) X.xe an) X.xe am) X.xe s:=by
 refine F_ (hi pins s σ H _ I h) λv s1 h1=>F_ h1 λbw d h2=>?_;obtain ⟨it,fp,tn,J,M,e,E,T,a5,S,n0,W,w0,aw⟩:=h2;subst e;have fl:∀ b∈fp,b<d.heap.objs.size:=λb a=>by obtain ⟨o,e,_⟩:=T.obj _ _ a5 b a;exact rH e
 refine wpAny_newObj_type (wpAny_newFunctionEnv B.nocell (by intro y hy;simp at hy) (λF w j=>?_) B.kind);dsimp only at w j ⊢;generalize hG:d.heap.push { cls:=.type "list", dict:=none,data:=.seq ([]:dE).toArray }=G at w j ⊢;have hC:G.objs.size=d.heap.objs.size+1:=by rw [<-hG,Heap.size_push]
 have K:d.heap.objs.size<=G.objs.size:=by rw [hC];exact Nat.le_succ _
 have U:d.heap.objs.size≠G.objs.size:=by rw [hC];exact CI (E7 _)
 have ab:∀ b o,d.heap.get? b=some o->F.get? b=some o:=λb o e=>j.extBut b o (by rw [hC];exact CI (Nat.lt_succ_of_lt (rH e))) (Heap.get?_push_of_some _ (hG ▸ Heap.get?_push_of_some _ e));have ax:F.get? d.heap.objs.size=some { cls:=.type "list", data:=.seq ([]:dE).toArray }:=j.extBut _ _ U (Heap.get?_push_of_some _ (hG ▸ Heap.get?_push_size _ rfl));have ac:=N7 B E S fl K
 have bi:d.heap.objs.size∉az X.stack:=λa=>by
  rcases By.mp (E.stkSub _ a) with z | z
  ·exact absurd E.lt (by rw [<-z];exact Dj _)
  ·exact E.nofs (AS _) z
 have bk:∀ x c,cl.lookup x=some c->c≠d.heap.objs.size:=λx c e z=>by
  obtain ⟨v,q⟩:=E.cell x c (B.cells x c e);exact absurd q.lt (by rw [z];exact Dj _)
 have b0:∀ b∈fp,d.heap.objs.size≠b:=λb a z=>absurd (fl b a) (by rw [<-z];exact Dj _);have b1:Inv (X' X N scope cl G.objs.size d M fp) [] (C6 capt σ) M { d with heap:=F,toks:=d.toks+([]:List (Str×Value)).length }:=XA B E S fl K w ab
 have a3:codeAny (model X.prog X.w) X.A (.compLoop (.ListComp a4 [⟨tg,A,cs,0⟩] scope al) 0 (.ref it) (.ref d.heap.objs.size) (compEnvC scope cl G.objs.size X.env))
   (RR (.ref d.heap.objs.size) G.objs.size) { d with heap:=F,toks:=d.toks+([]:List (Str×Value)).length }:=by
  refine Xq (λn s'=>∃ (i:Nat) (Y:dz) (f:dE) (k:Nat) (O:Hp),Inv (X' X N scope cl G.objs.size d M fp) [] (C6 capt σ) O s'/\s'.heap.get? d.heap.objs.size=some { cls:=.type "list", data:=.seq f.toArray k }/\Vals Y f/\
   O d.heap.objs.size=none/\tn i s'.heap/\(∀ b∈fp,O b=none)/\W i Y O/\n=n0 - i) ?_ n0 ⟨0,[],[],0,M,b1,ax,.nil,E.hok.fresh (AS _),T.keep _ _ _ a5 (λb _ o e=>ab b o e),λb a=>(S b a).1,w0,rfl⟩
  rintro n s3 ⟨i,Y,f,k,O,I3,hD,hv,nD,b2,b3,w3,en⟩;obtain ⟨_,hl,b4⟩:=aw i Y O w3;have hz:f.toArray.size<=sizeLine:=by rw [BX,<-hv.length];exact hl
  have b6:Inv (X' X N scope cl G.objs.size d M fp) [(d.heap.objs.size,{ cls:=.type "list", data:=.seq f.toArray k })] (C6 capt σ) O s3:=I3.pins_of λp hp=>by
   rw [Aq] at hp;subst hp;exact ⟨hD,nD,U,bi,λv z=>nomatch z⟩
  have aj:∀ {Hx:Hp} (_:∀ b∈fp,Hx b=none),∀ b∈fp,DW (X' X N scope cl G.objs.size d M fp) [(d.heap.objs.size,{ cls:=.type "list", data:=.seq f.toArray k })] Hx b:=λhx b a=>
   ⟨hx b a,(ac.exf b a).1,ac.exfs b a,.inl a,(ac.exf b a).2,λp hp=>by
    have b8:p∈[((d.heap.objs.size,{ cls:=.type "list", data:=.seq f.toArray k }):Addr×Obj)]:=hp;rw [Aq] at b8;subst b8;exact b0 b a⟩
  rcases b4 with ⟨b9,q⟩ | ⟨bx,go,bl⟩
  ·refine F_ (T.done (X' X N scope cl G.objs.size d M fp) rfl rfl rfl hc i _ s3 _ O _ b6 (aj b3) b2 b9) λr Z ⟨hr,I4⟩=>?_;subst hr;have bm:=(I4.pin (d.heap.objs.size,{ cls:=.type "list", data:=.seq f.toArray k }) (Cd _ (Aq.mpr rfl))).1;obtain ⟨m,hn,_⟩:=I4.loc;have P:∀ b u,O b=some u->b≠d.heap.objs.size:=λb u e z=>by rw [z,nD] at e;cases e
   have ba:∀ b o,d.heap.get? b=some o->b≠d.heap.objs.size:=λb o e=>CI (rH e);have ub:Un (az X.stack) fp M O d.heap Z.heap:=I4.base;have cC:∀ b,b<d.heap.objs.size->b≠G.objs.size:=λb a z=>absurd (B8 a K) (by rw [z];exact Dj _)
   refine bg _ G.objs.size Z (upd O d.heap.objs.size (.lst Y)) m ?_ (q _ nD) hn (by rw [Aw (λz=>U z.symm)];exact I4.free) (λz=>cC _ E.lt z.symm) (Bx E.sz K)
    (λx c e=>by obtain ⟨v,q⟩:=E.cell x c e;exact cC _ q.lt) λp hp=>cC _ (rH (E.pin p hp).1)
   refine E.call' (ch:=fp) (s':=Z) I4.os ?_ ?_ I4.bare λb a=>⟨(S b a).2.2.2.1,(S b a).2.1,(S b a).2.2.2.2.1,(S b a).2.2.2.2.2⟩
   ·refine ⟨ub.keep,ub.slot,λb o e n hx=>?_,ub.there,λb xs e=>?_,λb o u e=>?_,λb ps e=>?_⟩
    ·rw [Aw (ba b o e)];exact ub.free b o e n hx
    ·have z:=ub.tups b xs e;rw [Aw (P b _ z)];exact z
    ·have z:=ub.frzs b o u e;rw [Aw (P b _ z)];exact z
    ·obtain ⟨bb,z⟩:=ub.tbls b ps e;exact ⟨bb,by rw [Aw (P b _ z)];exact z⟩
   ·intro b u e;by_cases a:b=d.heap.objs.size
    ·subst a;rw [upd_same] at e;cases e;exact ⟨hl,f,k,hv,bm⟩
    ·rw [Aw a] at e;exact (I4.hok b u e).stay (λc v _ q=>q) (λc q=>by rw [Aw (P c _ q)];exact q) λc xs q=>by rw [Aw (P c _ q)];exact q
  ·refine F_ (T.item (X' X N scope cl G.objs.size d M fp) rfl rfl rfl hc i _ s3 _ O _ b6 (aj b3) b2 go) λr Z ⟨u,hr,h4⟩=>?_;subst hr;refine F_ h4 λ_ s5 ⟨x,H5,I5,r5,y5,R,bp⟩=>?_;have bq:=I5.pinned (aj bp) (T.obj _ _ R);refine F_ (hg _ _ _ _ _ s5 _ H5 x u _ bq r5 (bl x H5 y5)) λ_ s6 ⟨L,H6,I6,q6⟩=>?_;refine F_ (ht _ _ _ _ _ s6 L H6 _ I6 q6) λbr s9 ⟨H9,I9,q9⟩=>?_
   have bc:∀ b∈fp,∀ o,s5.heap.get? b=some o->s9.heap.get? b=some o/\H9 b=none:=λb a o e=>by
    have z:=I9.pin (b,o) (Cd _ (Cd _ (Ix a e)));exact ⟨z.1,z.2.1⟩
   cases br with
   | false=>
     have w9:W (i+1) Y H9:=q9;have bd:=I9.pin (d.heap.objs.size,{ cls:=.type "list", data:=.seq f.toArray k }) (Cd _ (Ec _ (Aq.mpr rfl)));have bs:Inv (X' X N scope cl G.objs.size d M fp) [] L H9 s9:=I9.pins_of λp hp=>nomatch hp
     exact ⟨n0 - (i+1),⋯,i+1,Y,f,k,H9,N8 B E S bs,bd.1,hv,bd.2.1,T.keep _ _ _ R (λb a o e=>(bc b a o e).1),(λb a=>by
      obtain ⟨o,e,_⟩:=T.obj _ _ R b a;exact (bc b a o e).2),w9,rfl⟩
   | true=>
   replace q9:te L H9 λy H4=>W (i+1) (Y++[y]) H4:=q9;refine F_ (he _ _ _ _ _ s9 L H9 _ I9 q9) λuy s7 ⟨y,H7,I7,r7,w7⟩=>?_;have pD:=I7.pin (d.heap.objs.size,{ cls:=.type "list", data:=.seq f.toArray k }) (Cd _ (Ec _ (Aq.mpr rfl)))
   have pF:∀ b∈fp,∀ o,s5.heap.get? b=some o->s7.heap.get? b=some o/\H7 b=none:=λb a o e=>by
    have z:=I7.pin (b,o) (Cd _ (Cd _ (Ix a e)));exact ⟨z.1,z.2.1⟩
   refine append_at (hsz:=hz) pD.1 λh8 bf bt=>?_;have bv:Inv (X' X N scope cl G.objs.size d M fp) [] L H7 s7:=I7.pins_of λp hp=>nomatch hp;have I8:Inv (X' X N scope cl G.objs.size d M fp) [] L H7 { s7 with heap:=h8,toks:=s7.toks }:=bv.turned (λb o a e=>bf.extBut b o a e) pD.2.1 U (.inr (AS _)) bk (λp hp=>nomatch hp);refine ⟨n0 - (i+1),⋯,i+1,Y++[y],f++[uy],k+1,H7,N8 B E S I8,?_,Paired.snoc hv r7,pD.2.1,T.keep _ _ _ R (λb a o e=>bf.extBut b o (b0 b a).symm (pF b a o e).1),λb a=>?_,w7,rfl⟩
   ·show h8.get? _=_;rw [bt,List.push_toArray]
   ·obtain ⟨o,e,_⟩:=T.obj _ _ R b a;exact (pF b a o e).2
 exact codeAny_compStart_list a3 (T.self X.A 0 _ _ _ (T.keep _ _ _ a5 (λb _ o e=>ab b o e)) a3)
def EW {c a d:Expr} {f:Pos} {i:TI} {g:TG} {te:TE} (k:X.calm=true) (B:BlkOk X N capt scope cl) (hi:PI X d a i)
  (n:∀ C s H fp,PG (X' X N scope cl C s H fp) d g) (p:∀ C s H fp,PE (X' X N scope cl C s H fp) c te)
  (r:∀ x,foldedSetIterable a X.env x=pure x:=by intro _;rfl):PE X (.ListComp c [⟨d,a,[],0⟩] scope f) (CY i capt g te):=by
 intro pins s σ H Q I h;rw [eval_ListComp];refine wpAny_comprehension_free (use:=none) rfl r B.clos B.kind B.names (K8 (cs:=[]) (tc:=K7) (λj C=>compPost (model X.prog X.w) X.A X.xe none (EP X pins σ Q) j C) k B hi n (λ_ _ _ _=>OS) p I (show Gs i capt g K7 te σ H _ from h) λD C K u m v q w y z A E F=>?_);exact ⟨m,w,λL G=>⟨.ref D,u,v.turned (λb o J e=>G.extBut b o J e) y z (.inr A) E F,rfl,q⟩⟩
def Xr {i:Nat} {x:Str} {c j:Pos} {f d n:Expr} {cs:dL} {tc:TT} {k:Pos} {E:TI} {g:TG} {te:TE} (J:X.N.Nodup) (r:X.N[i]?=some x) (K:bJ X.env.scope x) (L:X.calm=true) (B:BlkOk X N capt scope cl) (hi:PI X n d E)
  (M:∀ C s H fp,PG (X' X N scope cl C s H fp) n g) (O:∀ C s H fp,cU (X' X N scope cl C s H fp) cs tc) (P:∀ C s H fp,PE (X' X N scope cl C s H fp) f te)
  (u:swapsWith (.ListComp f [⟨n,d,cs,0⟩] scope k) (some (.Name x c)) j.line X.env=pure true)
  (R:∀ x,foldedSetIterable d X.env x=pure x) (S:X.fn x=true\/X.env.scope.names.lookup x=some .local) :
  PS X (.Assign [.Name x c] (.ListComp f [⟨n,d,cs,0⟩] scope k) j) (AM (Gs E capt g tc te) (AG i)):=by
 intro pins s σ H D I h;rw [exec_Assign_Name_used _ _ _ _ u];refine rD (wpAny_standAt (rD ?_));show wpAny _ X.A (do let _ <-comprehension (.ListComp f [⟨n,d,cs,0⟩] scope k) scope X.env _ (newList []) false (eval d X.env) (some (assign (.Name x c) X.env))) _ _ s
 refine rD (rF (wpAny_comprehension_free (use:=some (assign (.Name x c) X.env)) (Q:=λ_ p=>SP X pins D .next p) rfl R B.clos B.kind B.names
  (K8 (λw C=>compPost (model X.prog X.w) X.A X.xe (some (assign (.Name x c) X.env)) (λ_ p=>SP X pins D .next p) w C) L B hi M O P I h λDa C s4 Hq m T q U y F W G Y=>?_)) (λ_ p Z=>rE (rE Z)) λ_ _ e=>e)
 show wpAny _ X.A (assign (.Name x c) X.env (.ref Da)) _ _ _;refine wpAny_assign_Name (NK T J r K (v:=.ref Da) rfl (λs5 I5 ⟨a,A,ha⟩=>⟨m,U.sameBut A ?_,λh' sb=>⟨_,_,I5.turned (λb o hb e=>sb.extBut b o hb e) y F (.inr W) G Y,q⟩⟩) S);rcases ha with z | z
 ·rw [z];exact F
 ·exact λe=>G x a z e.symm
def OT {i:Nat} {x:Str} {b c:Pos} {d a f:Expr} {e:Pos} {k:TI} {g:TG} {te:TE} (m:X.N.Nodup) (h:X.N[i]?=some x) (n:bJ X.env.scope x) (o:X.calm=true) (B:BlkOk X N capt scope cl) (hi:PI X f a k)
  (p:∀ C s H fp,PG (X' X N scope cl C s H fp) f g) (q:∀ C s H fp,PE (X' X N scope cl C s H fp) d te)
  (j:swapsWith (.ListComp d [⟨f,a,[],0⟩] scope e) (some (.Name x b)) c.line X.env=pure true:=by rfl)
  (r:∀ x,foldedSetIterable a X.env x=pure x:=by intro _;rfl) (u:X.fn x=true\/X.env.scope.names.lookup x=some .local:=by first | exact .inl rfl | exact .inr rfl | assumption) :
  PS X (.Assign [.Name x b] (.ListComp d [⟨f,a,[],0⟩] scope e) c) (AM (CY k capt g te) (AG i)):=
 Xr m h n o B hi p (λC s H fp=>OS) q j r u
def Xs {d a f c:Expr} {tc:TT} {i:Pos} {k:TI} {g:TG} {te:TE} (n:X.calm=true) (B:BlkOk X N capt scope cl) (hi:PI X f a k)
  (p:∀ C s H fp,PG (X' X N scope cl C s H fp) f g) (r:∀ C s H fp,L2.PT (X' X N scope cl C s H fp) c tc) (u:∀ C s H fp,PE (X' X N scope cl C s H fp) d te)
  (v:∀ x,foldedSetIterable a X.env x=pure x:=by intro _;rfl):PE X (.ListComp d [⟨f,a,[c],0⟩] scope i) (Gs k capt g tc te):=by
 intro pins s σ H Q I h;rw [eval_ListComp];refine wpAny_comprehension_free (use:=none) rfl v B.clos B.kind B.names (K8 (λj C=>compPost (model X.prog X.w) X.A X.xe none (EP X pins σ Q) j C) n B hi p (λC s H fp=>Xp (r C s H fp)) u I h λD C M w m y q z A E F G J=>?_);exact ⟨m,z,λO K=>⟨.ref D,w,y.turned (λb o L e=>K.extBut b o L e) A E (.inr F) G J,rfl,q⟩⟩
end
section
variable {X:Cx}
def xI {r:R2} {a:Expr} {c:TE} {n:Int} {j} {q b:Pos} (d:bP X r) (e:PE X a c):PE X (.Subscript a (.Constant (.int n) j q) b) (B_ r c (tC (.int n))):=Bh d e AD (λ_ _=>rfl)
def D_ {i:Nat} {x:Str} {e:Expr} {te:TE} {a b:Pos} (c:X.N.Nodup) (d:PE X e te) (hi:X.N[i]?=some x:=by rfl) (f:bJ X.env.scope x:=by exact .inl rfl) (g:swapsWith e (some (.Name x a)) b.line X.env=pure false:=by rfl) (h:X.fn x=true\/X.env.scope.names.lookup x=some .local:=by first | exact .inl rfl | exact .inr rfl):PS X (.Assign [.Name x a] e b) (AM te (AG i)):=Eo c hi f d g h
def cR {c:CmpOp} {r:R2} {a b:Expr} {e f:TE} {d:Pos} (g:OpR X (compareOp c) r) (h:PE X a e) (i:PE X b f) (j:behindInMarks c b=false:=by exact T' _):L2.PT X (.Compare a [c] [b] d) (As (B_ r e f)):=Uv g h i j
variable {n m:Nat} {x:Str} {ps:dM} {sp:Sp} {a b c:Expr} {ta tb tc:TE} {p pos:Pos} (C:Cal X.prog X.w X.K X.mg X.base n x ps sp) (hr:Room m X.A)
include C hr
theorem Cal.q1 (e:PE X a ta) (f:n<=m:=by decide) (g:Gl X x:=by rfl) (h:(x == ("__debug__" : Str))=false:=by decide) (d:starEach [a] X.env=(false,eval a X.env)::starEach [] X.env:=by rfl):PE X (.Call (.Name x p) [a] [] pos) (AK sp [] E0 (AB ta AC)):=C.pe hr f g (AE e AL d) h d rfl
theorem Cal.q2 (e:PE X a ta) (f:PE X b tb) (g:n<=m:=by decide) (h:Gl X x:=by rfl) (i:(x == ("__debug__" : Str))=false:=by decide) (d:starEach [a,b] X.env=(false,eval a X.env)::starEach [b] X.env:=by rfl) (j:starEach [b] X.env=(false,eval b X.env)::starEach [] X.env:=by rfl) (hp:(backTo pos (starEach [b] X.env)).any (·.1)=false:=by rfl):PE X (.Call (.Name x p) [a,b] [] pos) (AK sp [] E0 (AB ta (AB tb AC))):=C.pe hr g h (AE e (AE f AL j) d) i d hp
theorem Cal.q3 (e:PE X a ta) (f:PE X b tb) (g:PE X c tc) (h:n<=m:=by decide) (i:Gl X x:=by rfl) (j:(x == ("__debug__" : Str))=false:=by decide) (d:starEach [a,b,c] X.env=(false,eval a X.env)::starEach [b,c] X.env:=by rfl) (k:starEach [b,c] X.env=(false,eval b X.env)::starEach [c] X.env:=by rfl) (o:starEach [c] X.env=(false,eval c X.env)::starEach [] X.env:=by rfl) (hp:(backTo pos (starEach [b,c] X.env)).any (·.1)=false:=by rfl):PE X (.Call (.Name x p) [a,b,c] [] pos) (AK sp [] E0 (AB ta (AB tb (AB tc AC)))):=C.pe hr h i (AE e (AE f (AE g AL o) k) d) j d hp
end
end Bs
namespace Bs
open PySem PySem.W PyProof.Rows
section
variable {k:dO} {N:Nat} {p:Array Nat}
noncomputable def kp (k:dO) (p:Array Nat) (i:Nat):Int:=k (p.getD i 0)
end
end Bs
namespace Bs
open PySem L2
def OU:dz->Hp->VK->Prop:=λb H Q=>∃ p a,b=[.ref p]/\H p=some (.dT a)/\Q (.int a.length) H
end Bs
namespace Bs
open PySem PySem.Spec PySem.Calls PyProof.Rows L2
theorem TKv.len {H:Hp}:∀ {kvs:List (List J'×V)} {xs:List (List J'×Addr×Value)},TKv H kvs xs->kvs.length=xs.length
 | _,_,.nil=>rfl
 | _,_,.cons _ t=>congrArg (·+1) (TKv.len t)
def Xu {X:Cx}:Cp X (.builtin "len") OU:=by
 intro c s x H y z Q I r h;obtain ⟨p,a,rfl,hp,q⟩:=h;obtain ⟨u,rfl,e⟩:=ER r;cases e;have A:=Fy;obtain ⟨B,f,C,g,o,i,D,d,j,k,m,_⟩:=OO I hp;have b:s.TypeIs (.ref p) "dict" := ⟨o,d,j.1⟩;have v:i.size=a.length:=by rw [g.len,<-Array.length_toList,m,AJ]
 refine call_len_slot b PySem.F.slot_dict_len (n:=(a.length:Int)) (λE w=>wpAny_call_entry PySem.F.slot_dict_len b PySem.F.entry_dict_len ?_ (PySem.F.args_dict_len_1 _)) ⋯ ⋯ ⟨.int a.length,H,I.tok _,⟨_,rfl⟩,q⟩;unfold Builtin.«dict.__len__» Builtin.Dict.dictSlotNone;refine rD (rD (wpAny_notOrdered_dict b (rD (rE (rE (rD (rE ?_)))))));unfold dictSize Builtin.Dict.pendingCount;refine rD (rD (wpAny_dictEntries d k (rE ?_)));rw [sY (show ¬ (p == sysModules)=true by rw [f];decide)];refine rD (rE ?_);unfold retInt;rw [v];exact rD (wpAny_mkInt (rE (by simpa using w)))
end Bs
namespace Bs
def Bd.one:Bd 1 1:=by unfold Bd;decide
theorem Bd.pow {b:Nat} {x:Int} (h:Bd b x) (k:Nat):Bd (b*k+1) (x ^ k):=by
 induction k with
 | zero=>rw [Int.pow_zero,Nat.mul_zero];exact Bd.one
 | succ k a=>
   have e:b*(k+1)+1=(b*k+1)+b:=by rw [Nat.mul_add,Nat.mul_one];omega
   rw [Int.pow_succ,e];exact a.mul h
noncomputable abbrev Nu:=Int×Int
abbrev dg:=List Nu
noncomputable def P' (n m:Int):Nu:=(n / ((Int.gcd n m:Nat):Int),m / ((Int.gcd n m:Nat):Int))
noncomputable def U_ (q r:Nu):Nu:=P' (q.1*r.2+r.1*q.2) (q.2*r.2)
noncomputable def H_ (q r:Nu):Nu:=P' (q.1*r.1) (q.2*r.2)
def Wo (q:Nu) (n m:Int):Prop:=q.1*m=n*q.2
def Dw {n m:Int} (b:0<m):Low (P' n m).1 (P' n m).2:=(Ko (a:=n) b).1
def FI {n m:Int} (c:0<m):Wo (P' n m) n m:=by
 have h:=(JD (a:=n) (b:=m) (s:=((Int.gcd n m:Nat):Int)) ⋯ (by rw [sY ⋯])).2.2.2.1;rw [EK _ ⋯,EK _ ⋯] at h;exact h
def K9 {a b d:Int} (h:Low a b) (e:b∣a*d):b∣d:=by
 have c:Nat.Coprime b.natAbs a.natAbs:=by
  have:Nat.Coprime a.natAbs b.natAbs:=h.one;exact this.symm
 have z:=Ct.mpr e;rw [Az] at z;exact Ct.mp (c.dvd_of_dvd_mul_left z)
def OV {a b c d:Int} (f:Low a b) (g:Low c d) (h:a*d=c*b):a=c/\b=d:=by
 have i:b∣d:=K9 f ⟨c,by rw [h,Int.mul_comm]⟩;have j:d∣b:=K9 g ⟨a,by rw [<-h,Int.mul_comm]⟩;have e:b=d:=Int.dvd_antisymm (DT f.pos) (DT g.pos) i j;subst e;exact ⟨Int.eq_of_mul_eq_mul_right (AU f.pos) h,rfl⟩
def LA {q r:Nu} {n m:Int} (c:Low q.1 q.2) (d:Low r.1 r.2) (f:m≠0) (g:Wo q n m) (h:Wo r n m):q=r:=by
 unfold Wo at g h
 have e:q.1*r.2=r.1*q.2:=by
  have z:m*(q.1*r.2)=m*(r.1*q.2):=by ext
  exact Fo f z
 obtain ⟨a,b⟩:=OV c d e;exact Prod.ext a b
def Xv {q:Nu} {n m:Int} (c:Low q.1 q.2) (b:0<m) (w:Wo q n m):q.1.natAbs<=n.natAbs/\q.2.natAbs<=m.natAbs:=by
 have e:q=P' n m:=LA c (Dw b) (AU b) w (FI b);subst e;exact ⟨(Ko (a:=n) b).2.1,(Ko (a:=n) b).2.2.1⟩
def LB {q r:Nu} (a:0<q.2) (b:0<r.2):Low (U_ q r).1 (U_ q r).2:=Dw (CN a b)
def JS {q r:Nu} (a:0<q.2) (b:0<r.2):Low (H_ q r).1 (H_ q r).2:=Dw (CN a b)
def Xw {q r:Nu} {n k m:Int} (a:0<q.2) (b:0<r.2) (c:Wo q n m) (d:Wo r k m):Wo (U_ q r) (n+k) m:=by
 have w:=FI (n:=q.1*r.2+r.1*q.2) (CN a b);unfold Wo at *;unfold U_;have z:(q.2*r.2)*((P' (q.1*r.2+r.1*q.2) (q.2*r.2)).1*m)=(q.2*r.2)*((n+k)*(P' (q.1*r.2+r.1*q.2) (q.2*r.2)).2):=by ext
 exact Fo (AU (CN a b)) z
def Xx {q r:Nu} {n k m l:Int} (a:0<q.2) (b:0<r.2) (c:Wo q n m) (d:Wo r k l):Wo (H_ q r) (n*k) (m*l):=by
 have w:=FI (n:=q.1*r.1) (CN a b);unfold Wo at *;unfold H_;have z:(q.2*r.2)*((P' (q.1*r.1) (q.2*r.2)).1*(m*l))=(q.2*r.2)*((n*k)*(P' (q.1*r.1) (q.2*r.2)).2):=by ext
 exact Fo (AU (CN a b)) z
def OW {m:Int} (a:0<m):P' 0 m=(0,1):=LA (Dw a) ⟨∅,∅⟩ (AU a) (FI a) (by unfold Wo;omega)
noncomputable def Ci (l:dg):Nat->Nat
 | 0=>0
 | m+1=>if (l.getD m (1,1)).1=0 then Ci l m else m+1
noncomputable def K' (l:dg):dg:=l.take (Ci l l.length)
theorem OX (l:dg):∀ m,Ci l m<=m
 | 0=>AS 0
 | m+1=>by
   unfold Ci;split
   ·exact Nat.le_succ_of_le (OX l m)
   ·exact AS _
theorem OY (l:dg):∀ m,Ci l m=0\/(l.getD (Ci l m - 1) (1,1)).1≠0
 | 0=>.inl rfl
 | m+1=>by
   unfold Ci;split
   ·exact OY l m
   ·rename_i h;exact .inr h
def Nz (l:dg):Prop:=∀ q,l.getLast?=some q->q.1≠0
def Xy {l:dg} (h:Nz l):K' l=l:=by
 unfold K'
 have e:Ci l l.length=l.length:=by
  cases hl:l.length with
  | zero=>rfl
  | succ m=>
    unfold Ci;have a:m<l.length:=by omega
    have z:(l.getD m (1,1)).1≠0:=by
     have q:=h l[m] (by rw [Fp,hl];simp [a]);rw [AO,Ag a];exact q
    rw [sY z]
 rw [e,Cz]
def LC (l:dg):Nz (K' l):=by
 intro q a;unfold K' at a;have b:=OX l l.length;rw [Fp,CJ,Nat.min_eq_left b] at a;rcases OY l l.length with z | z
 ·rw [z] at a;simp at a
 ·by_cases c:Ci l l.length=0
  ·rw [c] at a;simp at a
  ·rw [List.getElem?_take_of_lt ⋯] at a;rw [AO,a] at z;exact z
def Hn {l:dg} {q:Nu} (h:q∈K' l):q∈l:=List.mem_of_mem_take h
def JT (l:dg):(K' l).length<=l.length:=by
 unfold K';rw [CJ];omega
def A7 (l:dg):Prop:=∀ q∈l,Low q.1 q.2
def Xz (n:Nat) (l:dg):Prop:=∀ q∈l,Bd n q.1/\Bd n q.2
noncomputable def AW (l:dg) (i:Nat):Nu:=l.getD i (0,1)
def Ho:Low 0 1:=⟨∅,∅⟩
theorem FJ {l:dg} (h:A7 l) (i:Nat):Low (AW l i).1 (AW l i).2:=by
 unfold AW;rw [AO];cases e:l[i]? with
 | none=>exact Ho
 | some q=>exact h q (Bu e)
noncomputable def Ao (l:dg):Int:=l.foldl (λB q=>B*(q.2 / ((Int.gcd B q.2:Nat):Int))) 1
noncomputable def Aj (l:dg):dD:=l.map λq=>q.1*(Ao l / q.2)
def LD {B d:Int} (b:0<B) (c:0<d):0<B*(d / ((Int.gcd B d:Nat):Int))/\B∣B*(d / ((Int.gcd B d:Nat):Int))/\d∣B*(d / ((Int.gcd B d:Nat):Int))/\(d / ((Int.gcd B d:Nat):Int)).natAbs<=d.natAbs/\0<((Int.gcd B d:Nat):Int)/\((Int.gcd B d:Nat):Int)<=d:=by
 have f:0<Int.gcd B d:=Int.gcd_pos_of_ne_zero_right B ⋯;obtain ⟨k,hk⟩:((Int.gcd B d:Nat):Int)∣d:=EJ B d;obtain ⟨m,g⟩:((Int.gcd B d:Nat):Int)∣B:=E5 B d;have a:(0:Int)<((Int.gcd B d:Nat):Int):=by omega
 have e:d / ((Int.gcd B d:Nat):Int)=k:=by
  have z:d / ((Int.gcd B d:Nat):Int)=(((Int.gcd B d:Nat):Int)*k) / ((Int.gcd B d:Nat):Int):=by rw [<-hk]
  rw [z,GW _ (AU a)]
 have kp:0<k:=by
  rcases Int.lt_or_le 0 k with h | h
  ·exact h
  ·exfalso;have:=Int.mul_nonneg (DT a) (show 0<=-k by omega);rw [Int.mul_neg] at this;omega
 have i:((Int.gcd B d:Nat):Int)<=d:=Int.le_of_dvd c (EJ B d);refine ⟨by rw [e];exact CN b kp,Int.dvd_mul_right ..,?_,?_,a,i⟩
 ·rw [e];refine ⟨m,?_⟩;have z:d*m=((Int.gcd B d:Nat):Int)*k*m:=by rw [<-hk]
  have j:B*k=((Int.gcd B d:Nat):Int)*m*k:=by rw [<-g]
  rw [z,j];ext
 ·rw [e]
  have z:d.natAbs=(Int.gcd B d)*k.natAbs:=by
   have:d.natAbs=(((Int.gcd B d:Nat):Int)*k).natAbs:=by rw [<-hk]
   rw [this,Az];simp
  rw [z];exact GU _ f
theorem OZ {b:Nat}:∀ (l:dg) (B:Int) (c:Nat),(∀ q∈l,0<q.2/\Bd b q.2)->0<B->Bd c B->
  0<l.foldl (λB q=>B*(q.2 / ((Int.gcd B q.2:Nat):Int))) B/\B∣l.foldl (λB q=>B*(q.2 / ((Int.gcd B q.2:Nat):Int))) B/\(∀ q∈l,q.2∣l.foldl (λB q=>B*(q.2 / ((Int.gcd B q.2:Nat):Int))) B)/\Bd (c+b*l.length) (l.foldl (λB q=>B*(q.2 / ((Int.gcd B q.2:Nat):Int))) B)
 | [],B,c,_,d,e=>⟨d,Int.dvd_refl B,(λ_ h=>nomatch h),by simpa using e⟩
 | q::l,B,c,h,d,e=>by
   obtain ⟨g,i⟩:=h q (BS ..);obtain ⟨j,k,m,n,_,_⟩:=LD d g;obtain ⟨o,f,p,u⟩:=OZ l (B*(q.2 / ((Int.gcd B q.2:Nat):Int))) (c+b) (λr a=>h r (Bp _ a)) j (e.mul (i.le n));rw [List.foldl_cons];refine ⟨o,CU k f,λr a=>?_,u.mono (by rw [C1,Nat.mul_add,Nat.mul_one];omega)⟩;rcases By.mp a with rfl | a
   ·exact CU m f
   ·exact p r a
def X1 {b:Nat} {l:dg} (c:A7 l) (d:Xz b l):0<Ao l/\(∀ q∈l,q.2∣Ao l)/\Bd (1+b*l.length) (Ao l):=by
 obtain ⟨e,_,f,g⟩:=OZ (b:=b) l 1 1 (λq a=>⟨(c q a).pos,(d q a).2⟩) ∅ Bd.one;exact ⟨e,f,g⟩
def X2 {B d:Int} (a:0<B) (b:0<d):(B / d).natAbs<=B.natAbs:=by
 have c:0<=B / d:=Int.ediv_nonneg (DT a) (DT b);have e:B / d<=B:=Int.ediv_le_self d (DT a);omega
def X3 {q:Nu} {B:Int} (a:q.2∣B):Wo q (q.1*(B / q.2)) B:=by
 unfold Wo;rw [Int.mul_assoc,Int.ediv_mul_cancel a]
noncomputable def ps (b a:dD):Nat->dO
 | 0,_=>0
 | i+1,k=>ps b a i k+(if i<=k/\k - i<a.length then b.getD i 0*a.getD (k - i) 0 else 0)
noncomputable def aa (a b:dD) (i j k:Nat):Int:=ps a b i k+(if i<=k/\k - i<j then a.getD i 0*b.getD (k - i) 0 else 0)
def X4 (a b:dD) (i k:Nat):aa a b i 0 k=ps a b i k:=by
 unfold aa;rw [sY ⋯];omega
def Oa (a b:dD) (i j k:Nat):aa a b i (j+1) k=if k=i+j then aa a b i j k+a.getD i 0*b.getD j 0 else aa a b i j k:=by
 unfold aa;by_cases h:k=i+j
 ·subst h;rw [sZ rfl,sZ ⟨⋯,⋯⟩,sY ⋯,show i+j - i=j by omega];omega
 ·rw [sY h];congr 1;by_cases c:i<=k/\k - i<j
  ·rw [sZ c,sZ ⟨c.1,⋯⟩]
  ·rw [sY c,sY ⋯]
theorem Es {c:Nat} {a:dD} (h:∀ z∈a,Bd c z) (i:Nat):Bd c (a.getD i 0):=by
 rw [AO];cases e:a[i]? with
 | none=>exact Bz ∅
 | some z=>exact h z (Bu e)
def DZ (c:Nat):Bd c 0:=Bz ∅
theorem Ob {c d:Nat} {a b:dD} (e:∀ z∈a,Bd c z) (f:∀ z∈b,Bd d z):∀ i k,Bd (c+d+i) (ps a b i k)
 | 0,_=>DZ _
 | i+1,k=>by
   unfold ps;refine (Ob e f i k).add ?_;split
   ·exact ((Es e i).mul (Es f (k - i))).mono ⋯
   ·exact DZ _
def X5 {c d:Nat} {a b:dD} (e:∀ z∈a,Bd c z) (f:∀ z∈b,Bd d z) (i j k:Nat):Bd (c+d+i+1) (aa a b i j k):=by
 unfold aa;refine (Ob e f i k).add ?_;split
 ·exact ((Es e i).mul (Es f (k - i))).mono ⋯
 ·exact DZ _
theorem JU {b a:dD}:∀ i k,i+a.length<=k+1->ps b a i k=0
 | 0,_,_=>rfl
 | i+1,k,h=>by
   unfold ps;rw [JU i k ⋯,sY ⋯];rfl
noncomputable def val (q:Nu):Rat:=(q.1:Rat) / (q.2:Rat)
def R_ (x:Rat):0 / x=0:=by rw [Rat.div_def,Rat.zero_mul]
def Am {z:Int} (h:z≠0):(z:Rat)≠0:=by exact_mod_cast h
def JV {q:Nu} {n m:Int} (a:q.2≠0) (b:m≠0) (w:Wo q n m):val q=(n:Rat) / (m:Rat):=by
 have c:=Am a;have d:=Am b;have e:(q.1:Rat)*m=n*q.2:=by unfold Wo at w;exact_mod_cast w
 unfold val;ext
def FK {q r:Nu} (c:Low q.1 q.2) (d:Low r.1 r.2) (h:val q=val r):q=r:=by
 have a:=Am (AU c.pos);have b:=Am (AU d.pos);unfold val at h;have z:(q.1:Rat)*r.2=r.1*q.2:=by ext
 have e:q.1*r.2=r.1*q.2:=by exact_mod_cast z
 obtain ⟨x,y⟩:=OV c d e;exact Prod.ext x y
def Hr {n m:Int} (a:0<m):val (P' n m)=(n:Rat) / (m:Rat):=JV (AU (Dw a).pos) (AU a) (FI a)
def X6 {q r:Nu} (c:0<q.2) (d:0<r.2):val (U_ q r)=val q+val r:=by
 unfold U_;rw [Hr (CN c d)];have a:=Am (AU c);have b:=Am (AU d);unfold val;push_cast;ext
def Oc {q r:Nu} (c:0<q.2) (d:0<r.2):val (H_ q r)=val q*val r:=by
 unfold H_;rw [Hr (CN c d)];have a:=Am (AU c);have b:=Am (AU d);unfold val;push_cast;ext
noncomputable def AT (n m:Int):Nu:=if m<0 then P' (-n) (-m) else P' n m
def Db {n m:Int} (a:m≠0):Low (AT n m).1 (AT n m).2:=by
 unfold AT;split
 ·exact Dw ⋯
 ·exact Dw ⋯
def FM {n m:Int} (a:m≠0):val (AT n m)=(n:Rat) / (m:Rat):=by
 unfold AT;split
 ·rw [Hr ⋯];have:=Am a;push_cast;ext
 ·exact Hr ⋯
def X7 {n m N:Int} (b:m≠0) (h:m∣N):(AT n m).2∣N:=by
 have a:∀ {n m:Int},0<m->(P' n m).2∣m:=λ{n m} c=>by
  unfold P';exact Int.ediv_dvd_of_dvd (EJ n m)
 unfold AT;split
 ·exact CU (a ⋯) (CU (Int.neg_dvd.mpr (Int.dvd_refl m)) h)
 ·exact CU (a ⋯) h
def Hs {c d:Nat} {n m:Int} (g:m≠0) (b:Bd c n) (e:Bd d m):Bd c (AT n m).1/\Bd d (AT n m).2:=by
 have a:∀ {n m:Int},0<m->Bd c n->Bd d m->Bd c (P' n m).1/\Bd d (P' n m).2:=λ{n m} f b e=>by
  have w:=Xv (Dw f) f (FI (n:=n) f);exact ⟨b.le w.1,e.le w.2⟩
 unfold AT;split
 ·exact a ⋯ b.neg e.neg
 ·exact a ⋯ b e
noncomputable def E_ (l:dg) (k:Nat):Rat:=val (AW l k)
def X8 {q:Nu} (h:Low q.1 q.2) (z:q.1=0):q=(0,1):=FK h Ho (by unfold val;rw [z];show ((0:Int):Rat) / _=((0:Int):Rat) / _;rw [show ((0:Int):Rat)=0 from rfl,R_,R_])
def X9 {l:dg} (hl:A7 l) (k:Nat):AW (K' l) k=AW l k:=by
 have g:∀ (m:Nat),m<=l.length->(∀ j,m<=j->j<l.length->(AW l j).1=0)->∀ j,Ci l m<=j->j<l.length->(AW l j).1=0:=by
  intro m
  induction m with
  | zero=>intro _ h j i c;exact h j ⋯ c
  | succ m n=>
    intro o h j d f;rw [show Ci l (m+1)=if (l.getD m (1,1)).1=0 then Ci l m else m+1 from rfl] at d;split at d
    ·rename_i z;refine n ⋯ (λj i c=>?_) j d f;by_cases e:j=m
     ·subst e;unfold AW;rw [AO,Ag c] at z ⊢;exact z
     ·exact h j ⋯ c
    ·exact h j d f
 unfold K';by_cases d:k<Ci l l.length
 ·unfold AW;rw [AO,AO,List.getElem?_take_of_lt d]
 ·have e:AW (l.take (Ci l l.length)) k=(0,1):=by
   unfold AW;rw [AO,Ba (by rw [CJ];omega)];rfl
  rw [e];by_cases f:k<l.length
  ·exact (X8 (FJ hl k) (g l.length (AS _) (λj a b=>absurd b ⋯) k ⋯ f)).symm
  ·unfold AW;rw [AO,Ba ⋯];rfl
def LE {l:dg} (hl:A7 l) (k:Nat):E_ (K' l) k=E_ l k:=by unfold E_;rw [X9 hl]
def Od {l:dg} {k:Nat} (h:l.length<=k):AW l k=(0,1):=by
 unfold AW;rw [AO,Ba h];rfl
def GB {l:dg} {k:Nat} (h:l.length<=k):E_ l k=0:=by
 unfold E_;rw [Od h];exact R_ _
def Oe {a b:dg} (f:Nz b) (h:∀ k,AW a k=AW b k):b.length<=a.length:=by
 rcases BN a.length b.length with g | c
 ·exfalso;have d:b.length - 1<b.length:=by omega
  have q:=f b[b.length - 1] (by rw [Fp];exact Ag d);have e:=h (b.length - 1);rw [Od ⋯] at e;unfold AW at e;rw [AO,Ag d] at e;have i:((0,1):Nu)=b[b.length - 1]:=e;rw [<-i] at q;exact q rfl
 ·exact c
def YA {a b:dg} (c:A7 a) (d:A7 b) (f:Nz a) (j:Nz b) (h:∀ k,E_ a k=E_ b k):a=b:=by
 have g:∀ k,AW a k=AW b k:=λk=>FK (FJ c k) (FJ d k) (h k);have e:a.length=b.length:=Nat.le_antisymm (Oe f λk=>(g k).symm) (Oe j g);refine List.ext_getElem e λi m n=>?_;have z:=g i;unfold AW at z;rw [AO,AO,Ag m,Ag n] at z;exact z
noncomputable def cv (f g:dP):Nat->dP
 | 0,_=>0
 | n+1,k=>cv f g n k+(if n<=k then f n*g (k - n) else 0)
theorem Og {f f' g:dP} {s:Nat} {x:Rat} (a:f s=0) (b:f' s=x) (c:∀ i,i≠s->f' i=f i):∀ n k,cv f' g n k=cv f g n k+(if s<n/\s<=k then x*g (k - s) else 0)
 | 0,k=>by unfold cv;rw [sY ⋯];exact (Rat.add_zero 0).symm
 | n+1,k=>by
   unfold cv;rw [Og a b c n k];by_cases e:n=s
   ·subst e;rw [a,b];by_cases hk:n<=k
    ·rw [sZ hk,sZ hk,sY ⋯,sZ ⟨⋯,hk⟩];ext
    ·rw [sY hk,sY hk,sY ⋯,sY ⋯]
   ·rw [c n e];have d:(s<n+1/\s<=k)↔(s<n/\s<=k):=by omega
    simp only [d];ext
theorem Oh {f g:dP}:∀ n k,(∀ i,i<n->f i=0)->cv f g n k=0
 | 0,_,_=>rfl
 | n+1,k,h=>by
   unfold cv;rw [Oh n k λi a=>h i ⋯,h n ⋯];split <;> ext
theorem Oi {f g:dP} {n:Nat} (h:∀ i,n<=i->f i=0):∀ d k,cv f g (n+d) k=cv f g n k
 | 0,_=>rfl
 | d+1,k=>by
   show cv f g (n+d) k+(if n+d<=k then f (n+d)*g (k - (n+d)) else 0)=_;rw [Oi h d k,h (n+d) ⋯];split <;> ext
theorem Oj {f f' g:dP} (h:∀ i,f i=f' i):∀ n k,cv f g n k=cv f' g n k
 | 0,_=>rfl
 | n+1,k=>by unfold cv;rw [Oj h n k,h n]
noncomputable def J_ (l:dg) (M:Int):dD:=l.map λq=>q.1*(M / q.2)
def Ov (l:dg) (M:Int):Prop:=0<M/\∀ q∈l,q.2∣M
theorem Ol {l:dg} {M:Int} (i:Nat):(J_ l M).getD i 0=(AW l i).1*(M / (AW l i).2):=by
 unfold J_ AW;rw [AO,AO,Ae];cases l[i]? with
 | none=>simp
 | some q=>rfl
theorem Ov.get {l:dg} {M:Int} (h:Ov l M) (i:Nat):(AW l i).2∣M:=by
 unfold AW;rw [AO];cases e:l[i]? with
 | none=>exact Int.one_dvd M
 | some q=>exact h.2 q (Bu e)
def LF {l:dg} {M:Int} (h:Ov l M) (i:Nat):Wo (AW l i) ((J_ l M).getD i 0) M:=by
 rw [Ol];exact X3 (h.get i)
def GC {l:dg} {M:Int} (hl:A7 l) (h:Ov l M) (i:Nat):E_ l i=((J_ l M).getD i 0:Rat) / (M:Rat):=JV (AU (FJ hl i).pos) (AU h.1) (LF h i)
noncomputable def Fe (l m:dg) (a b:Int) (n:Nat):dg:=(List.range n).map λk=>P' (ps (J_ l a) (J_ m b) l.length k) (a*b)
theorem Om {l m:dg} {d c:Int} (hl:A7 l) (g:A7 m) (e:Ov l d) (f:Ov m c):∀ n k,(ps (J_ l d) (J_ m c) n k:Rat) / ((d*c:Int):Rat)=cv (E_ l) (E_ m) n k
 | 0,k=>R_ _
 | n+1,k=>by
   have a:=Am (AU e.1);have b:=Am (AU f.1);have h:=Om hl g e f n k;unfold ps cv;rw [<-h];by_cases hk:n<=k
   ·rw [sZ hk,GC hl e,GC g f];by_cases i:k - n<(J_ m c).length
    ·rw [sZ ⟨hk,i⟩];push_cast;ext
    ·rw [sY ⋯,show (J_ m c).getD (k - n) 0=0 by rw [AO,Ba ⋯];rfl];push_cast;ext
   ·rw [sY hk,sY ⋯];push_cast;ext
def YB {l m:dg} {a b:Int} {n:Nat} (c:Ov l a) (d:Ov m b):A7 (Fe l m a b n):=by
 intro q e;obtain ⟨k,_,rfl⟩:=BD.mp e;exact Dw (CN c.1 d.1)
def YC {l m:dg} {a b:Int} (hl:A7 l) (f:A7 m) (c:Ov l a) (d:Ov m b) (k:Nat):E_ (Fe l m a b (l.length+m.length)) k=cv (E_ l) (E_ m) l.length k:=by
 rw [<-Om hl f c d];have g:=CN c.1 d.1;by_cases h:k<l.length+m.length
 ·have e:AW (Fe l m a b (l.length+m.length)) k=P' (ps (J_ l a) (J_ m b) l.length k) (a*b):=by
   unfold Fe AW;rw [AO,Ae,Co h];rfl
  unfold E_;rw [e,Hr g]
 ·rw [GB (by unfold Fe;rw [AJ,BI];omega),JU l.length k (by unfold J_;rw [AJ];omega)];exact (R_ _).symm
def lcm_dvd {B d M:Int} (c:0<B) (f:0<d) (a:B∣M) (b:d∣M):B*(d / ((Int.gcd B d:Nat):Int))∣M:=by
 have z:((Nat.lcm B.natAbs d.natAbs:Nat):Int)∣M:=Ct.mp (by rw [Ce];exact Nat.lcm_dvd (Ct.mpr a) (Ct.mpr b))
 have e:((Nat.lcm B.natAbs d.natAbs:Nat):Int)=B*(d / ((Int.gcd B d:Nat):Int)):=by
  unfold Nat.lcm;rw [Nat.mul_div_assoc _ (Nat.gcd_dvd_right _ _)];push_cast;rw [show ((B.natAbs:Nat):Int)=B by omega,show ((d.natAbs:Nat):Int)=d by omega];rfl
 rw [<-e];exact z
theorem LG {M:Int}:∀ (l:dg) (B:Int),(∀ q∈l,0<q.2/\q.2∣M)->0<B->B∣M->0<l.foldl (λB q=>B*(q.2 / ((Int.gcd B q.2:Nat):Int))) B/\l.foldl (λB q=>B*(q.2 / ((Int.gcd B q.2:Nat):Int))) B∣M
 | [],B,_,a,h=>⟨a,h⟩
 | q::l,B,b,a,h=>by
   obtain ⟨c,d⟩:=b q (BS ..);obtain ⟨e,_⟩:=LD a c;exact LG l _ (λr f=>b r (Bp _ f)) e (lcm_dvd a c h d)
def EF {n:Nat} {a b:Int} (d:b≠0) (h:a∣b) (c:Bd n b):Bd n a:=c.le (Ee ⋯ (Ct.mpr h))
def Dc {l:dg} (hl:A7 l):Ov l (Ao l):=by
 obtain ⟨a,b,_⟩:=X1 (b:=(l.foldl (λn q=>n+q.1.natAbs+q.2.natAbs) 1)) hl (λq c=>by
  have d:∀ (l:dg) (n:Nat),n<=l.foldl (λn q=>n+q.1.natAbs+q.2.natAbs) n/\∀ q∈l,q.1.natAbs+q.2.natAbs<=l.foldl (λn q=>n+q.1.natAbs+q.2.natAbs) n:=by
   intro l
   induction l with
   | nil=>intro n;exact ⟨AS _,λ_ h=>nomatch h⟩
   | cons r l e=>
     intro n;obtain ⟨g,f⟩:=e (n+r.1.natAbs+r.2.natAbs);rw [List.foldl_cons];refine ⟨⋯,λq c=>?_⟩;rcases By.mp c with rfl | c
     ·omega
     ·exact f q c
  have z:=(d l 1).2 q c;exact ⟨B5 ⋯ (Nat.lt_two_pow_self),B5 ⋯ (Nat.lt_two_pow_self)⟩)
 exact ⟨a,b⟩
def On {l:dg} {M:Int} (hl:A7 l) (h:Ov l M):Ao l∣M:=(LG l 1 (λq a=>⟨(hl q a).pos,h.2 q a⟩) ∅ (Int.one_dvd M)).2
def LH (l:dg):Aj l=J_ l (Ao l):=rfl
section
variable {α:Type} [Lean.Grind.CommRing α]
noncomputable def cvL:List α->(Nat->α)->Nat->α
 | [],_,_=>0
 | x::a,b,k=>x*b k+(match k with | 0=>0 | k+1=>cvL a b k)
def BF (b:Nat->α) (k:Nat):cvL [] b k=0:=rfl
def A4 (x:α) (a:List α) (b:Nat->α):cvL (x::a) b 0=x*b 0+0:=rfl
def Av (x:α) (a:List α) (b:Nat->α) (k:Nat):cvL (x::a) b (k+1)=x*b (k+1)+cvL a b k:=rfl
theorem BV {b c:Nat->α} (h:∀ k,b k=c k):∀ (a:List α) (k:Nat),cvL a b k=cvL a c k
 | [],_=>rfl
 | x::a,0=>by rw [A4,A4,h 0]
 | x::a,k+1=>by rw [Av,Av,h (k+1),BV h a k]
theorem Gu (b c:Nat->α):∀ (a:List α) (k:Nat),cvL a (λk=>b k+c k) k=cvL a b k+cvL a c k
 | [],_=>by rw [BF,BF,BF];ext
 | x::a,0=>by rw [A4,A4,A4];ext
 | x::a,k+1=>by rw [Av,Av,Av,Gu b c a k];ext
theorem Dd (s:α) (b:Nat->α):∀ (a:List α) (k:Nat),cvL a (λk=>s*b k) k=s*cvL a b k
 | [],_=>by rw [BF,BF];ext
 | x::a,0=>by rw [A4,A4];ext
 | x::a,k+1=>by rw [Av,Av,Dd s b a k];ext
noncomputable def De (b:Nat->α):Nat->α
 | 0=>0
 | k+1=>b k
theorem LI (b:Nat->α):∀ (a:List α) (k:Nat),cvL a (De b) k=De (cvL a b) k
 | [],0=>rfl
 | [],k+1=>rfl
 | x::a,0=>by rw [A4];show x*0+0=0;ext
 | x::a,1=>by
   rw [Av];have h:=LI b a 0;rw [h];show x*b 0+0=cvL (x::a) b 0;rw [A4]
 | x::a,k+2=>by
   rw [Av,LI b a (k+1)];show x*b (k+1)+cvL a b k=cvL (x::a) b (k+1);rw [Av]
theorem Ff (x:α) (a:List α) (b:Nat->α) (k:Nat):cvL (x::a) b k=x*b k+De (cvL a b) k:=by
 cases k with
 | zero=>exact A4 x a b
 | succ k=>exact Av x a b k
theorem Gv (c:Nat->α):∀ (a b:List α) (k:Nat),cvL a (cvL b c) k=cvL b (cvL a c) k
 | [],b,k=>by
   rw [BF];have e:cvL b (cvL [] c) k=cvL b (λk=>0*c k) k:=BV (λk=>by rw [BF];ext) b k;rw [e,Dd];ext
 | x::a,b,k=>by
   rw [Ff];have e:cvL b (cvL (x::a) c) k=cvL b (λk=>x*c k+De (cvL a c) k) k:=BV (λk=>Ff x a c k) b k;rw [e,Gu,Dd,LI]
   have d:De (cvL a (cvL b c)) k=De (cvL b (cvL a c)) k:=by
    cases k with
    | zero=>rfl
    | succ k=>exact Gv c a b k
   rw [d]
noncomputable def Ad:Nat->α
 | 0=>1
 | _+1=>0
theorem Dx:∀ (a:List α) (k:Nat),cvL a Ad k=a.getD k 0
 | [],k=>by rw [BF];simp
 | x::a,0=>by rw [A4];show x*1+0=x;ext
 | x::a,k+1=>by
   rw [Av,Dx a k];show x*0+a.getD k 0=(x::a).getD (k+1) 0;rw [List.getD_cons_succ];ext
end
def YD {n k:Nat}:k∣2 ^ n↔∃ a,a<=n/\k=2 ^ a:=by
 constructor
 ·induction n generalizing k with
  | zero=>intro h;exact ⟨0,AS 0,by simpa using h⟩
  | succ n d=>
    intro h;by_cases f:2∣k
    ·obtain ⟨j,rfl⟩:=f;rw [CL,Cy (2 ^ n) 2] at h;obtain ⟨a,b,e⟩:=d (Nat.dvd_of_mul_dvd_mul_left ∅ h);exact ⟨a+1,⋯,by rw [e,CL,Cy]⟩
    ·have c:Nat.Coprime k 2:=by
      have:Nat.gcd k 2∣2:=Nat.gcd_dvd_right k 2;have g:=Ee ∅ this;have i:Nat.gcd k 2≠2:=λz=>f (by rw [<-z];exact Nat.gcd_dvd_left k 2);have m:Nat.gcd k 2≠0:=λz=>by have:=Nat.eq_zero_of_gcd_eq_zero_right z;omega
      show Nat.gcd k 2=1;omega
     rw [CL] at h;obtain ⟨a,b,e⟩:=d (c.dvd_of_dvd_mul_right h);exact ⟨a,⋯,e⟩
 ·rintro ⟨a,b,rfl⟩;exact Nat.pow_dvd_pow 2 b
structure Pr (p:Nat):Prop where
 two:2<=p
 div:∀ d,d∣p->d=1\/d=p
def Pr.cop {p:Nat} (h:Pr p) {a:Nat} (b:¬ p∣a):Nat.gcd a p=1:=by
 rcases h.div _ (Nat.gcd_dvd_right a p) with e | e
 ·exact e
 ·exact absurd (e ▸ Nat.gcd_dvd_left a p) b
def Pr.mul {p:Nat} (h:Pr p) {a b:Nat} (d:p∣a*b):p∣a\/p∣b:=by
 by_cases c:p∣a
 ·exact .inl c
 ·refine .inr (Nat.Coprime.dvd_of_dvd_mul_left (k:=p) (m:=a) ?_ d);have:=h.cop c;rw [Nat.gcd_comm] at this;exact this
def Pr.mulI {p:Nat} (h:Pr p) {a b:Int} (c:(p:Int)∣a*b):(p:Int)∣a\/(p:Int)∣b:=by
 have z:=Ct.mpr c;rw [Az,Ce] at z;rcases h.mul z with e | e
 ·exact .inl (Ct.mp (by rw [Ce];exact e))
 ·exact .inr (Ct.mp (by rw [Ce];exact e))
def Oo {m:Nat} (v:2<=m):∃ q,Pr q/\q∣m/\(q=m\/q*q<=m):=by
 have c:∀ n d,2<=d->(∀ e,2<=e->e<d->¬ e∣m)->m=d+n->∃ q,2<=q/\q∣m/\∀ e,2<=e->e<q->¬ e∣m:=by
  intro n
  induction n with
  | zero=>intro d a h e;exact ⟨d,a,by rw [e];exact Nat.dvd_refl _,h⟩
  | succ n o=>
    intro d a h e;by_cases b:d∣m
    ·exact ⟨d,a,b,h⟩
    ·refine o (d+1) ⋯ (λx p r=>?_) ⋯;by_cases f:x=d
     ·rw [f];exact b
     ·exact h x p ⋯
 obtain ⟨q,u,g,j⟩:=c (m - 2) 2 (AS 2) (λe w i=>absurd i ⋯) ⋯;refine ⟨q,⟨u,λd a=>?_⟩,g,?_⟩
 ·by_cases i:2<=d
  ·right;rcases BN d q with h | h
   ·exact absurd (Nat.dvd_trans a g) (j d i h)
   ·exact Nat.le_antisymm (Ee ⋯ a) h
  ·left;have:d≠0:=λz=>by rw [z] at a;have:=Nat.eq_zero_of_zero_dvd a;omega
   omega
 ·obtain ⟨k,hk⟩:=g;by_cases y:k<=1
  ·left
   have:k=1:=by
    rcases DS k with z | z
    ·rw [z] at hk;omega
    ·omega
   rw [hk,this,Nat.mul_one]
  ·right;rcases BN k q with h | h
   ·exact absurd ⟨q,by rw [hk,Cy]⟩ (j k ⋯ h)
   ·rw [hk];exact CD q h
theorem aR:∀ (n m:Nat) (f:Nat->Nat),(∀ i,i<m->f i<n)->(∀ i j,i<m->j<m->f i=f j->i=j)->m<=n
 | 0,m,f,h,_=>by
   rcases DS m with z | z
   ·omega
   ·exact absurd (h 0 z) ⋯
 | n+1,0,_,_,_=>by omega
 | n+1,m+1,f,h,a=>by
   have:=aR n m (λi=>if f i=n then f m else f i) (λi d=>by
    show (if f i=n then f m else f i)<n;by_cases e:f i=n
    ·rw [sZ e];have g:=h m (E7 m);have:f m≠n:=λz=>absurd (a i m ⋯ ⋯ (by rw [e,z])) ⋯;omega
    ·rw [sY e];have g:=h i ⋯;omega) (λi j d k e=>by
    have e:(if f i=n then f m else f i)=(if f j=n then f m else f j):=e;by_cases c:f i=n
    ·rw [sZ c] at e;by_cases b:f j=n
     ·exact a i j ⋯ ⋯ (by rw [c,b])
     ·rw [sY b] at e;exact absurd (a m j ⋯ ⋯ e) ⋯
    ·rw [sY c] at e;by_cases b:f j=n
     ·rw [sZ b] at e;exact absurd (a i m ⋯ ⋯ e) ⋯
     ·rw [sY b] at e;exact a i j ⋯ ⋯ e)
   omega
noncomputable abbrev Rt:=Int×Int
noncomputable def P_ (q:Int) (x y:Rt):Rt:=((x.1*y.1+3*(x.2*y.2)) % q,(x.1*y.2+x.2*y.1) % q)
noncomputable def C_ (q:Int):Nat->Rt
 | 0=>(1 % q,0 % q)
 | n+1=>P_ q (2,1) (C_ q n)
def Fg {q a b c:Int} (h:a - b=q*c):a % q=b % q:=by
 have:a=b+q*c:=by omega
 rw [this,Int.add_mul_emod_self_left]
def em {a q:Int}:∃ c,a % q=a - q*c:=⟨a / q,by have:=FY a q;omega⟩
def Gw (q:Int) (x y z:Rt):P_ q (P_ q x y) z=P_ q x (P_ q y z):=by
 obtain ⟨a,b⟩:=x;obtain ⟨c,d⟩:=y;obtain ⟨e,f⟩:=z;obtain ⟨g,h⟩:=em (a:=a*c+3*(b*d)) (q:=q);obtain ⟨i,j⟩:=em (a:=a*d+b*c) (q:=q);obtain ⟨k,m⟩:=em (a:=c*e+3*(d*f)) (q:=q);obtain ⟨n,o⟩:=em (a:=c*f+d*e) (q:=q);refine Prod.ext ?_ ?_
 ·show ((a*c+3*(b*d)) % q*e+3*((a*d+b*c) % q*f)) % q=(a*((c*e+3*(d*f)) % q)+3*(b*((c*f+d*e) % q))) % q;rw [h,j,m,o];exact Fg (c:=a*k+3*b*n - g*e - 3*i*f) ()
 ·show ((a*c+3*(b*d)) % q*f+((a*d+b*c) % q*e)) % q=(a*((c*f+d*e) % q)+(b*((c*e+3*(d*f)) % q))) % q;rw [h,j,m,o];exact Fg (c:=a*n+b*k - g*f - i*e) ()
def YE (q:Int) (x y:Rt):P_ q x y=P_ q y x:=by
 refine Prod.ext ?_ ?_
 ·show (x.1*y.1+3*(x.2*y.2)) % q=(y.1*x.1+3*(y.2*x.2)) % q;congr 1;ext
 ·show (x.1*y.2+x.2*y.1) % q=(y.1*x.2+y.2*x.1) % q;congr 1;ext
def rn (q:Int) (x:Rt):Prop:=x.1 % q=x.1/\x.2 % q=x.2
def YF (q:Int) (x y:Rt):rn q (P_ q x y):=⟨Int.emod_emod ..,Int.emod_emod ..⟩
theorem GD (q:Int):∀ n,rn q (C_ q n)
 | 0=>⟨Int.emod_emod ..,Int.emod_emod ..⟩
 | _+1=>YF q _ _
def aF (q:Int) {x:Rt} (h:rn q x):P_ q (C_ q 0) x=x:=by
 obtain ⟨d,e⟩:=em (a:=1) (q:=q);obtain ⟨f,g⟩:=em (a:=0) (q:=q);refine Prod.ext ?_ ?_
 ·show (1 % q*x.1+3*(0 % q*x.2)) % q=x.1;rw [e,g,<-h.1];rw [Fg (b:=x.1 % q) (c:=- d*(x.1 % q) - 3*f*x.2) (),Int.emod_emod]
 ·show (1 % q*x.2+0 % q*x.1) % q=x.2;rw [e,g,<-h.2];rw [Fg (b:=x.2 % q) (c:=- d*(x.2 % q) - f*x.1) (),Int.emod_emod]
theorem GE (q:Int):∀ m n,C_ q (m+n)=P_ q (C_ q m) (C_ q n)
 | 0,n=>by rw [Nat.zero_add,aF q (GD q n)]
 | m+1,n=>by
   rw [Nat.succ_add];show P_ q (2,1) (C_ q (m+n))=P_ q (P_ q (2,1) (C_ q m)) (C_ q n);rw [GE q m n,Gw]
noncomputable def aG (q:Int):Nat->Rt
 | 0=>(1 % q,0 % q)
 | n+1=>P_ q (2,-1) (aG q n)
def r21 (q:Int):P_ q (2,-1) (2,1)=C_ q 0:=by
 refine Prod.ext ?_ ?_
 ·show (2*2+3*(-1*1)) % q=1 % q;rfl
 ·show (2*1 + -1*2) % q=0 % q;rfl
theorem Op (q:Int):∀ n,P_ q (aG q n) (C_ q n)=C_ q 0
 | 0=>aF q (GD q 0)
 | n+1=>by
   show P_ q (P_ q (2,-1) (aG q n)) (P_ q (2,1) (C_ q n))=_;rw [Gw,<-Gw q (aG q n),YE q (aG q n) (2,1),Gw q (2,1),Op q n,<-Gw,r21,aF q (GD q 0)]
theorem LJ (q:Int) {m:Nat} (h:C_ q m=C_ q 0):∀ k,C_ q (m*k)=C_ q 0
 | 0=>rfl
 | k+1=>by rw [Nat.mul_succ,GE,LJ q h k,h,aF q (GD q 0)]
theorem rord (q:Int) {n:Nat} (c:C_ q (2 ^ (n+1))=C_ q 0) (f:C_ q (2 ^ n)≠C_ q 0):∀ d,0<d->d<2 ^ (n+1)->C_ q d≠C_ q 0:=by
 intro d
 induction d using Nat.strongRecOn with
 | _ d g=>
 intro i u e;have j:=Nat.mod_lt (2 ^ (n+1)) i
 have m:C_ q (2 ^ (n+1) % d)=C_ q 0:=by
  have o:=Nat.div_add_mod (2 ^ (n+1)) d;rw [<-o,GE,LJ q e,aF q (GD q _)] at c;exact c
 rcases DS (2 ^ (n+1) % d) with z | z
 ·obtain ⟨k,hk⟩:=Nat.dvd_of_mod_eq_zero z;obtain ⟨a,v,b⟩:=(YD (n:=n+1) (k:=d)).mp ⟨k,hk⟩
  have p:a<=n:=by
   rcases BN n a with h | h
   ·exfalso;have:a=n+1:=by omega
    rw [this] at b;omega
   ·exact h
  apply f;have r:2 ^ n=d*2 ^ (n - a):=by rw [b,<-Ck];congr 1;omega
  rw [r];exact LJ q e _
 ·exact g _ j z ⋯ m
theorem aS (q:Int):∀ n,∃ c,(C_ q n).1*(C_ q n).1 - 3*((C_ q n).2*(C_ q n).2) - 1=q*c
 | 0=>by
   obtain ⟨d,f⟩:=em (a:=1) (q:=q);obtain ⟨e,g⟩:=em (a:=0) (q:=q);refine ⟨-2*d+q*d*d - 3*q*e*e,?_⟩;show (1 % q)*(1 % q) - 3*((0 % q)*(0 % q)) - 1=_;rw [f,g];ext
 | n+1=>by
   obtain ⟨c,j⟩:=aS q n;obtain ⟨d,f⟩:=em (a:=2*(C_ q n).1+3*(1*(C_ q n).2)) (q:=q);obtain ⟨e,g⟩:=em (a:=2*(C_ q n).2+1*(C_ q n).1) (q:=q);have h:(C_ q (n+1)).1=2*(C_ q n).1+3*(1*(C_ q n).2) - q*d:=f;have i:(C_ q (n+1)).2=2*(C_ q n).2+1*(C_ q n).1 - q*e:=g;rw [h,i];generalize (C_ q n).1=a at *;generalize (C_ q n).2=b at *;exact ⟨c - 2*d*(2*a+3*b)+q*d*d+6*e*(2*b+a) - 3*q*e*e,()⟩
def YG (q:Int) (n:Nat):∃ c,2*(C_ q (n+n)).1=(2*(C_ q n).1)*(2*(C_ q n).1) - 2+q*c:=by
 obtain ⟨c,e⟩:=aS q n;rw [GE];obtain ⟨b,d⟩:=em (a:=(C_ q n).1*(C_ q n).1+3*((C_ q n).2*(C_ q n).2)) (q:=q);refine ⟨-2*b - 2*c,?_⟩;show 2*(((C_ q n).1*(C_ q n).1+3*((C_ q n).2*(C_ q n).2)) % q)=_;rw [d];ext
noncomputable def ll (M:Nat):Nat->Nat->Nat
 | 0,s=>s
 | k+1,s=>ll M k ((s*s+(M - 2)) % M)
theorem Oq {q:Int} {M:Nat} (f:2<=M) (g:q∣(M:Int)):∀ (k t s:Nat),q∣2*(C_ q (2 ^ t)).1 - (s:Int)->q∣2*(C_ q (2 ^ (t+k))).1 - (ll M k s:Int)
 | 0,t,s,h=>h
 | k+1,t,s,h=>by
   have:=Oq f g k (t+1) ((s*s+(M - 2)) % M) (by
    obtain ⟨c,i⟩:=YG q (2 ^ t);obtain ⟨d,j⟩:=h;obtain ⟨m,n⟩:=g;have e:(2:Nat) ^ (t+1)=2 ^ t+2 ^ t:=by rw [CL];omega
    rw [e,i]
    have z:(((s*s+(M - 2)) % M:Nat):Int)=(s:Int)*s+(M - 2) - M*(((s*s+(M - 2)) / M:Nat):Int):=by
     have:=Nat.mod_add_div (s*s+(M - 2)) M
     have o:(((s*s+(M - 2)) % M:Nat):Int)+(M:Int)*(((s*s+(M - 2)) / M:Nat):Int)=(s:Int)*s+(M - 2):=by
      have:=congrArg (λx:Nat=>(x:Int)) this;simp only [Int.natCast_add,Int.natCast_mul] at this;rw [this,Int.natCast_sub f];rfl
     omega
    rw [z];generalize (((s*s+(M - 2)) / M:Nat):Int)=w;generalize (C_ q (2 ^ t)).1=a at j;have b:2*a=s+q*d:=by omega
    rw [b,n];exact ⟨2*s*d+q*d*d+c - m+m*w,()⟩)
   rw [show t+(k+1)=t+1+k by omega];exact this
def YH {n:Nat} (h:ll (2 ^ (n+2) - 1) n 4 % (2 ^ (n+2) - 1)=0):Pr (2 ^ (n+2) - 1):=by
 have N:4<=2 ^ (n+2):=by rw [Ck];have:=Nat.one_le_two_pow (n:=n);omega
 generalize hM:2 ^ (n+2) - 1=M at h ⊢;obtain ⟨q,p,r,A⟩:=Oo (m:=M) ⋯;rcases A with e | A
 ·rw [<-e];exact p
 exfalso;have O:(q:Int)∣(M:Int):=Int.natCast_dvd_natCast.mpr r;have q2:=p.two
 have P:q≠2:=λz=>by
  rw [z] at r;have:2 ^ (n+2)=2*2 ^ (n+1):=by rw [CL 2 (n+1)];omega
  omega
 have Q:(q:Int)∣2*(C_ q (2 ^ (0+n))).1 - (ll M n 4:Int):=Oq ⋯ O n 0 4 (by
  show (q:Int)∣2*(P_ q (2,1) (C_ q 0)).1 - 4;obtain ⟨f,u⟩:=em (a:=1) (q:=(q:Int));obtain ⟨g,v⟩:=em (a:=0) (q:=(q:Int));show (q:Int)∣2*((2*(1 % (q:Int))+3*(1*(0 % (q:Int)))) % (q:Int)) - 4;obtain ⟨R,S⟩:=em (a:=2*(1 % (q:Int))+3*(1*(0 % (q:Int)))) (q:=(q:Int));rw [S,u,v];exact ⟨-4*f - 6*g - 2*R,()⟩)
 have T:(q:Int)∣(ll M n 4:Int):=Int.natCast_dvd_natCast.mpr (Nat.dvd_trans r (Nat.dvd_of_mod_eq_zero h))
 have U:(q:Int)∣2*(C_ q (2 ^ n)).1:=by
  have:=DL Q T;rw [Nat.zero_add] at this;rw [Int.sub_add_cancel] at this;exact this
 have W:(q:Int)∣(C_ q (2 ^ n)).1:=by
  rcases p.mulI U with z | z
  ·exfalso;have w:=Int.natCast_dvd_natCast.mp (show (q:Int)∣((2:Nat):Int) from z);have:=Ee ∅ w;omega
  ·exact z
 have k:(q:Int)≠0:=by omega
 have o:C_ q (2 ^ (n+1))=((-1) % (q:Int),0 % (q:Int)):=by
  have e:(2:Nat) ^ (n+1)=2 ^ n+2 ^ n:=by rw [CL];omega
  rw [e,GE];obtain ⟨c,X⟩:=aS q (2 ^ n);obtain ⟨d,x⟩:=W;refine Prod.ext ?_ ?_
  ·show ((C_ q (2 ^ n)).1*(C_ q (2 ^ n)).1+3*((C_ q (2 ^ n)).2*(C_ q (2 ^ n)).2)) % (q:Int)=(-1) % (q:Int);refine Fg (c:=2*q*d*d - c) ?_;generalize (C_ q (2 ^ n)).2=b at *;rw [x] at X ⊢;ext
  ·show ((C_ q (2 ^ n)).1*(C_ q (2 ^ n)).2+(C_ q (2 ^ n)).2*(C_ q (2 ^ n)).1) % (q:Int)=0 % (q:Int);refine Fg (c:=2*d*(C_ q (2 ^ n)).2) ?_;rw [x];ext
 have v:C_ q (2 ^ (n+1))≠C_ q 0:=λz=>by
  rw [o] at z;have Y:(-1) % (q:Int)=1 % (q:Int):=congrArg Prod.fst z;have w:(q:Int)∣-1 - 1:=Int.dvd_of_emod_eq_zero ((Int.emod_eq_emod_iff_emod_sub_eq_zero).mp Y);have Z:=Ct.mpr w;have:=Ee ∅ Z;rw [Ce] at this;have:(-1 - 1:Int).natAbs=2:=by decide
  omega
 have u:C_ q (2 ^ (n+1+1))=C_ q 0:=by
  have e:(2:Nat) ^ (n+1+1)=2 ^ (n+1)+2 ^ (n+1):=by rw [CL 2 (n+1)];omega
  rw [e,GE,o];obtain ⟨f,B⟩:=em (a:=-1) (q:=(q:Int));obtain ⟨g,C⟩:=em (a:=0) (q:=(q:Int));refine Prod.ext ?_ ?_
  ·show ((-1) % (q:Int)*((-1) % (q:Int))+3*(0 % (q:Int)*(0 % (q:Int)))) % (q:Int)=1 % (q:Int);refine Fg (c:=2*f+q*f*f+3*q*g*g) ?_;rw [B,C];ext
  ·show ((-1) % (q:Int)*(0 % (q:Int))+0 % (q:Int)*((-1) % (q:Int))) % (q:Int)=0 % (q:Int);refine Fg (c:=2*g+2*q*f*g) ?_;rw [B,C];ext
 have ord:=rord (q:Int) u v
 have D:∀ i d,0<d->i+d<2 ^ (n+2)->C_ q i≠C_ q (i+d):=λi d d0 x z=>by
  have e:C_ q d=C_ q 0:=by
   have a:=Op (q:Int) i
   have b:P_ q (aG q i) (C_ q (i+d))=C_ q d:=by
    rw [GE,<-Gw,a,aF _ (GD _ _)]
   rw [<-b,<-z,a]
  exact ord d d0 (by have:(2:Nat) ^ (n+1+1)=2 ^ (n+2):=rfl;omega) e
 have y:∀ i,0<=(C_ q i).1/\(C_ q i).1<q/\0<=(C_ q i).2/\(C_ q i).2<q:=λi=>by
  obtain ⟨a,b⟩:=GD (q:Int) i;have E:(0:Int)<q:=by omega
  have F:=Ca (C_ q i).1 k;have G:=Cm (C_ q i).1 E;have H:=Ca (C_ q i).2 k;have I:=Cm (C_ q i).2 E;rw [a] at F G;rw [b] at H I;exact ⟨F,G,H,I⟩
 have pg:=aR (q*q) (2 ^ (n+2)) (λi=>(C_ q i).1.toNat*q+(C_ q i).2.toNat) (λi _=>by
  obtain ⟨a,b,c,d⟩:=y i;have J:(C_ q i).1.toNat+1<=q:=by omega
  have d':(C_ q i).2.toNat<q:=by omega
  have:=CF q J;rw [DV,Nat.one_mul] at this;show (C_ q i).1.toNat*q+(C_ q i).2.toNat<q*q;omega) (λi j hi hj e=>by
  have e:(C_ q i).1.toNat*q+(C_ q i).2.toNat=(C_ q j).1.toNat*q+(C_ q j).2.toNat:=e;obtain ⟨a,b,c,d⟩:=y i;obtain ⟨J,b',c',d'⟩:=y j;have o:=congrArg (·% q) e;have K:=congrArg (·/ q) e;simp only [Cy _ q,Nat.mul_add_mod,Nat.mul_add_div (show 0<q by omega)] at o K;rw [Nat.mod_eq_of_lt ⋯,Nat.mod_eq_of_lt ⋯] at o;rw [Nat.div_eq_of_lt ⋯,Nat.div_eq_of_lt ⋯] at K;have L:C_ q i=C_ q j:=Prod.ext ⋯ ⋯;rcases Nat.lt_trichotomy i j with h | h | h
  ·exact absurd L (by have:=D i (j - i) ⋯ ⋯;rw [show i+(j - i)=j by omega] at this;exact this)
  ·exact h
  ·exact absurd L.symm (by have:=D j (i - j) ⋯ ⋯;rw [show j+(i - j)=i by omega] at this;exact this))
 omega
noncomputable def cV (M k s:Nat):Nat:=Nat.rec (motive:=λ_=>Nat->Nat) (λs=>s) (λ_ a s=>a ((s*s+(M - 2)) % M)) k s
noncomputable def cW (x:Nat) (f:Nat->Nat):Nat:=Nat.rec (motive:=λ_=>Nat) (f 0) (λn _=>f (n+1)) x
noncomputable def llo (M k j s:Nat):Nat:=Nat.rec (motive:=λ_=>Nat->Nat) (λs=>s) (λ_ a s=>cW (cV M k s) a) j s
theorem LK (M:Nat):∀ k s,cV M k s=ll M k s
 | 0,_=>rfl
 | k+1,s=>LK M k _
def Os (x:Nat) (f:Nat->Nat):cW x f=f x:=by cases x <;> rfl
theorem LL (M:Nat):∀ a b s,ll M (a+b) s=ll M b (ll M a s)
 | 0,b,s=>by rw [Nat.zero_add];rfl
 | a+1,b,s=>by rw [Nat.succ_add];exact LL M a b _
theorem Ot (M k:Nat):∀ j s,llo M k j s=ll M (k*j) s
 | 0,_=>rfl
 | j+1,s=>by
   show cW (cV M k s) (llo M k j)=_;rw [Os,LK,Ot M k j,<-LL];congr 1;rw [Nat.mul_succ,Nat.add_comm]
noncomputable def mers (e:Nat):Nat:=2 ^ e - 1
def Fh {n r k j:Nat} (e:n=k*j+r) (h:Nat.beq (cW (llo (mers (n+2)) k j 4) (λs=>cV (mers (n+2)) r s % mers (n+2))) 0=true):Pr (mers (n+2)):=by
 refine YH ?_;replace h:=Nat.eq_of_beq_eq_true h;rw [Os,Ot,LK,<-LL,<-e] at h;exact h
def YI:Pr (mers 61):=Fh (n:=59) (r:=9) (k:=10) (j:=5) rfl (by decide +kernel)
def YJ:Pr (mers 127):=Fh (n:=125) (r:=5) (k:=20) (j:=6) rfl (by decide +kernel)
def YK:Pr (mers 521):=Fh (n:=519) (r:=19) (k:=50) (j:=10) rfl (by decide +kernel)
def YL:Pr (mers 1279):=Fh (n:=1277) (r:=77) (k:=100) (j:=12) rfl (by decide +kernel)
def YM:Pr (mers 4423):=Fh (n:=4421) (r:=21) (k:=100) (j:=44) rfl (by decide +kernel)
def YN:Pr (mers 9941):=Fh (n:=9939) (r:=39) (k:=100) (j:=99) rfl (by decide +kernel)
def YO:Pr (mers 21701):=Fh (n:=21699) (r:=99) (k:=150) (j:=144) rfl (by decide +kernel)
def YQ:Pr (mers 44497):=Fh (n:=44495) (r:=95) (k:=200) (j:=222) rfl (by decide +kernel)
noncomputable def co (a:dD) (k:Nat):Int:=a.getD k 0
section
variable {α:Type} [Lean.Grind.CommRing α]
noncomputable def Ap:List α->List α->List α
 | [],b=>b
 | a,[]=>a
 | x::a,y::b=>(x+y)::Ap a b
def JW (a:List α):Ap a []=a:=by cases a <;> rfl
theorem Bm (g:Nat->α):∀ (a b:List α) (k:Nat),cvL (Ap a b) g k=cvL a g k+cvL b g k
 | [],b,k=>by show cvL b g k=0+cvL b g k;ext
 | x::a,[],k=>by rw [JW,BF];ext
 | x::a,y::b,0=>by show cvL ((x+y)::Ap a b) g 0=_;rw [A4,A4,A4];ext
 | x::a,y::b,k+1=>by show cvL ((x+y)::Ap a b) g (k+1)=_;rw [Av,Av,Av,Bm g a b k];ext
theorem BG (c:α) (g:Nat->α):∀ (a:List α) (k:Nat),cvL (a.map (c*·)) g k=c*cvL a g k
 | [],k=>by show (0:α)=c*0;ext
 | x::a,0=>by rw [Ed,A4,A4];ext
 | x::a,k+1=>by rw [Ed,Av,Av,BG c g a k];ext
noncomputable def Ax (s:Nat) (f:Nat->α) (k:Nat):α:=if s<=k then f (k - s) else 0
theorem Gx (g:Nat->α):∀ (s:Nat) (a:List α) (k:Nat),cvL (List.replicate s 0++a) g k=Ax s (cvL a g) k
 | 0,a,k=>by unfold Ax;rw [sZ (Aa k)];rfl
 | s+1,a,0=>by unfold Ax;rw [sY ⋯];show cvL (0::(List.replicate s 0++a)) g 0=0;rw [A4];ext
 | s+1,a,k+1=>by
   show cvL (0::(List.replicate s 0++a)) g (k+1)=_;rw [Av,Gx g s a k];unfold Ax;by_cases h:s<=k
   ·rw [sZ h,sZ ⋯,show k+1 - (s+1)=k - s by omega];ext
   ·rw [sY h,sY ⋯];ext
noncomputable def BC:List α->List α->List α
 | [],_=>[]
 | x::a,b=>Ap (b.map (x*·)) (0::BC a b)
theorem CG (g:Nat->α):∀ (a b:List α) (k:Nat),cvL (BC a b) g k=cvL a (cvL b g) k
 | [],b,k=>rfl
 | x::a,b,k=>by
   show cvL (Ap (b.map (x*·)) (0::BC a b)) g k=_;rw [Bm,BG,Ff,Ff]
   have e:De (cvL (BC a b) g) k=De (cvL a (cvL b g)) k:=by
    cases k with
    | zero=>rfl
    | succ k=>exact CG g a b k
   rw [e];ext
theorem DQ (g:Nat->α) (s:α):∀ (a:List α) (k:Nat),cvL (a++[s]) g k=cvL a g k+s*Ax a.length g k
 | [],0=>by show cvL [s] g 0=0+s*g 0;rw [A4];ext
 | [],k+1=>by show cvL [s] g (k+1)=0+s*g (k+1);rw [Av,BF];ext
 | x::a,0=>by show cvL (x::(a++[s])) g 0=_;rw [A4,A4];unfold Ax;rw [sY (by simp)];ext
 | x::a,k+1=>by
   show cvL (x::(a++[s])) g (k+1)=_;rw [Av,Av,DQ g s a k]
   have e:Ax (x::a).length g (k+1)=Ax a.length g k:=by
    unfold Ax;rw [C1];by_cases h:a.length<=k
    ·rw [sZ h,sZ ⋯,show k+1 - (a.length+1)=k - a.length by omega]
    ·rw [sY h,sY ⋯]
   rw [e];ext
def Fi (a:List α) {g:Nat->α} (h:∀ k,g k=0) (k:Nat):cvL a g k=0:=by
 rw [BV (c:=λk=>0*g k) (λj=>by rw [h j];ext) a k,Dd];ext
end
def CA (a:dD) (k:Nat):co a k=cvL a Ad k:=(Dx a k).symm
def CB (a b:dD) (k:Nat):cvL a (co b) k=cvL b (co a) k:=by
 rw [BV (CA b) a k,Gv,BV (λj=>(CA a j).symm) b k]
def AZ {a:dD} {k:Nat} (h:a.length<=k):co a k=0:=by
 unfold co;rw [AO,Ba h];rfl
theorem EG {g:dO} {n:Nat} (h:∀ i,n<=i->g i=0):∀ (a:dD) (k:Nat),a.length+n<=k+1->cvL a g k=0
 | [],_,_=>rfl
 | x::a,0,hk=>by
   rw [C1] at hk;rw [A4,h 0 ⋯];omega
 | x::a,k+1,hk=>by
   rw [C1] at hk;rw [Av,h (k+1) ⋯,EG h a k ⋯];omega
theorem LM {p:Int} {g:dO} {n:Nat} (h:∀ i,n<i->p∣g i):∀ (a:dD) (k:Nat),a.length+n<=k->p∣cvL a g k
 | [],_,_=>DN p
 | x::a,0,hk=>absurd hk (by rw [C1];omega)
 | x::a,k+1,hk=>by
   rw [C1] at hk;rw [Av];exact DL (GX (h (k+1) ⋯)) (LM h a k ⋯)
theorem JX {p:Nat} (hp:Pr p) {g:dO} {n:Nat} (q:¬ (p:Int)∣g n) (h:∀ i,n<i->(p:Int)∣g i) (S:dD) :
  (∀ k,n<=k->(p:Int)∣cvL S g k)->∀ s∈S,(p:Int)∣s:=by
 induction hl:S.length generalizing S with
 | zero=>intro _ s d;rw [CM.mp hl] at d;exact nomatch d
 | succ m r=>
   intro hk;have j:S≠[]:=λz=>by rw [z] at hl;simp at hl
   obtain ⟨T,t,rfl⟩:∃ T t,S=T++[t]:=⟨S.dropLast,S.getLast j,(Fq j).symm⟩;have u:T.length=m:=by simpa using hl
   have o:(p:Int)∣t:=by
    have a:=hk (T.length+n) ⋯;rw [DQ] at a;have b:=LM h T (T.length+n) (AS _)
    have c:(p:Int)∣t*Ax T.length g (T.length+n):=by
     have:=Int.dvd_sub a b;rwa [show ∀ x y:Int,x+y - x=y by intro x y;omega] at this
    unfold Ax at c;rw [sZ ⋯,show T.length+n - T.length=n by omega] at c;rcases hp.mulI c with z | z
    ·exact z
    ·exact absurd z q
   have e:=r T u (λk f=>by
    have a:=hk k f;rw [DQ] at a;have:=Int.dvd_sub a (GT (c:=Ax T.length g k) o);rwa [show ∀ x y:Int,x+y - y=x by intro x y;omega] at this)
   intro s d;rcases Bq.mp d with h | h
   ·exact e s h
   ·rw [Aq.mp h];exact o
def Lz (g:dD):Prop:=0<g.length/\co g (g.length - 1)≠0
def QI (r o f:dO):Prop:=∃ d:Int,d≠0/\∃ U V:dD,∀ k,d*f k=cvL U r k+cvL V o k
def MQ (g f:dO):Prop:=∃ c:Int,c≠0/\∃ A:dD,∀ k,c*f k=cvL A g k
def QI.congr {r o f h:dO} (q:QI r o f) (e:∀ k,h k=f k):QI r o h:=by
 obtain ⟨d,a,U,V,b⟩:=q;exact ⟨d,a,U,V,λk=>by rw [e k];exact b k⟩
theorem QI.left (r o:dO):QI r o r:=⟨1,∅,[1],[],λk=>by
 rw [BF];cases k with
 | zero=>rw [A4];omega
 | succ k=>rw [Av,BF];omega⟩
theorem QI.right (r o:dO):QI r o o:=⟨1,∅,[],[1],λk=>by
 rw [BF];cases k with
 | zero=>rw [A4];omega
 | succ k=>rw [Av,BF];omega⟩
def QI.less {r o f h:dO} (q:QI r o f) (i:QI r o h) (a w:Int) (s:Nat):QI r o (λk=>a*f k - w*Ax s h k):=by
 obtain ⟨d,j,U,V,m⟩:=q;obtain ⟨c,e,n,p,g⟩:=i;refine ⟨d*c,CO j e,Ap (U.map (c*a*·)) (List.replicate s 0++n.map (-(d*w)*·)),Ap (V.map (c*a*·)) (List.replicate s 0++p.map (-(d*w)*·)),λk=>?_⟩;show d*c*(a*f k - w*Ax s h k)=_;rw [Bm,Bm,BG,BG,Gx,Gx];unfold Ax;have u:=m k;by_cases b:s<=k
 ·rw [sZ b,sZ b,sZ b,BG,BG];have v:=g (k - s);ext
 ·rw [sY b,sY b,sY b];ext
def QI.scal {r o f:dO} {c:Int} (a:c≠0) (q:QI r o (λk=>c*f k)):QI r o f:=by
 obtain ⟨d,b,U,V,e⟩:=q;exact ⟨d*c,CO b a,U,V,λk=>by rw [<-e k];ext⟩
theorem MQ.refl (g:dO):MQ g g:=⟨1,∅,[1],λk=>by
 cases k with
 | zero=>rw [A4];omega
 | succ k=>rw [Av,BF];omega⟩
def MQ.zero (g:dO) {f:dO} (h:∀ k,f k=0):MQ g f:=⟨1,∅,[],λk=>by rw [BF,h k];rfl⟩
def MQ.congr {g f h:dO} (m:MQ g f) (e:∀ k,h k=f k):MQ g h:=by
 obtain ⟨c,a,A,b⟩:=m;exact ⟨c,a,A,λk=>by rw [e k];exact b k⟩
def MQ.less {g f h:dO} (m:MQ g f) (m':MQ g h) (a w:Int) (s:Nat):MQ g (λk=>a*f k - w*Ax s h k):=by
 obtain ⟨d,j,U,n⟩:=m;obtain ⟨c,e,o,i⟩:=m';refine ⟨d*c,CO j e,Ap (U.map (c*a*·)) (List.replicate s 0++o.map (-(d*w)*·)),λk=>?_⟩;show d*c*(a*f k - w*Ax s h k)=_;rw [Bm,BG,Gx];unfold Ax;have p:=n k;by_cases b:s<=k
 ·rw [sZ b,sZ b,BG];have q:=i (k - s);ext
 ·rw [sY b,sY b];ext
def MQ.scal {g f:dO} {c:Int} (a:c≠0) (m:MQ g (λk=>c*f k)):MQ g f:=by
 obtain ⟨d,b,A,e⟩:=m;exact ⟨d*c,CO b a,A,λk=>by rw [<-e k];ext⟩
def MQ.trans {g f h:dO} (m:MQ g f) (m':MQ f h):MQ g h:=by
 obtain ⟨c,a,A,b⟩:=m;obtain ⟨d,i,B,j⟩:=m';refine ⟨c*d,CO a i,BC B A,λk=>?_⟩;rw [CG];have e:c*cvL B f k=cvL B (cvL A g) k:=by rw [<-Dd];exact BV b B k
 rw [<-e,<-j k];ext
def MQ.of_QI {r o f g:dO} (a:MQ g r) (b:MQ g o) (q:QI r o f):MQ g f:=by
 obtain ⟨d,h,U,V,i⟩:=q;obtain ⟨c,j,A,m⟩:=a;obtain ⟨e,n,B,p⟩:=b;refine ⟨c*e*d,CO (CO j n) h,Ap ((BC U A).map (e*·)) ((BC V B).map (c*·)),λk=>?_⟩;rw [Bm,BG,BG,CG,CG];have u:c*cvL U r k=cvL U (cvL A g) k:=by rw [<-Dd];exact BV m U k
 have v:e*cvL V o k=cvL V (cvL B g) k:=by rw [<-Dd];exact BV p V k
 have w:=i k;ext
def QI.of_MQ {r o f h:dO} (q:QI r o f) (m:MQ f h):QI r o h:=by
 obtain ⟨c,a,A,b⟩:=m;obtain ⟨d,g,U,V,i⟩:=q;refine ⟨d*c,CO g a,BC A U,BC A V,λk=>?_⟩;rw [CG,CG];have e:d*cvL A f k=cvL A (cvL U r) k+cvL A (cvL V o) k:=by rw [<-Dd,<-Gu];exact BV i A k
 rw [<-e,<-b k];ext
def LN {f:dD} (h:co f (f.length - 1)=0) (k:Nat):co f.dropLast k=co f k:=by
 unfold co at *;rw [AO,AO];rw [List.getElem?_dropLast];by_cases hk:k<f.length - 1
 ·rw [sZ hk]
 ·rw [sY hk];by_cases e:k=f.length - 1
  ·subst e;rw [AO] at h;rw [h];rfl
  ·rw [Ba ⋯]
theorem Et (f:dD):(∀ k,co f k=0)\/∃ g,Lz g/\g.length<=f.length/\∀ k,co g k=co f k:=by
 induction hn:f.length generalizing f with
 | zero=>exact .inl λk=>AZ ⋯
 | succ n a=>
   by_cases h:co f (f.length - 1)=0
   ·rcases a f.dropLast (by rw [List.length_dropLast];omega) with z | ⟨g,b,d,c⟩
    ·exact .inl λk=>by rw [<-LN h];exact z k
    ·exact .inr ⟨g,b,⋯,λk=>by rw [c,LN h]⟩
   ·exact .inr ⟨f,⟨⋯,h⟩,⋯,λ_=>rfl⟩
def JY (n:Nat) (F:dO) (k:Nat):co ((List.range n).map F) k=if k<n then F k else 0:=by
 unfold co;rw [AO,Ae];by_cases h:k<n
 ·rw [sZ h,Co h];rfl
 ·rw [sY h,Ba (by rw [BI];omega)];rfl
structure Gen (r o:dO) (g:dD):Prop where
 lz:Lz g
 qi:QI r o (co g)
 len:∀ h,Lz h->QI r o (co h)->g.length<=h.length
 last:∀ h,Lz h->QI r o (co h)->h.length=g.length->(co g (g.length - 1)).natAbs<=(co h (h.length - 1)).natAbs
def YR {r o:dO} {f:dD} (d:Lz f) (q:QI r o (co f)):∃ g,Gen r o g:=by
 have L:∀ n,(∃ f,f.length=n/\Lz f/\QI r o (co f))->∃ m,(∃ f,f.length=m/\Lz f/\QI r o (co f))/\∀ h,Lz h->QI r o (co h)->m<=h.length:=by
  intro n
  induction n using Nat.strongRecOn with
  | _ n e=>
    intro k;by_cases a:∃ m,m<n/\∃ f,f.length=m/\Lz f/\QI r o (co f)
    ·obtain ⟨m,i,a⟩:=a;exact e m i a
    ·refine ⟨n,k,λh b c=>?_⟩;rcases BN h.length n with z | z
     ·exact absurd ⟨h.length,z,h,rfl,b,c⟩ a
     ·exact z
 obtain ⟨m,⟨p,u,v,w⟩,i⟩:=L f.length ⟨f,rfl,d,q⟩
 have M:∀ n,(∃ f,f.length=m/\Lz f/\QI r o (co f)/\(co f (f.length - 1)).natAbs=n)->∃ g,Gen r o g:=by
  intro n
  induction n using Nat.strongRecOn with
  | _ n e=>
    rintro ⟨f,x,d,y,B⟩;by_cases a:∃ j,j<n/\∃ f,f.length=m/\Lz f/\QI r o (co f)/\(co f (f.length - 1)).natAbs=j
    ·obtain ⟨j,A,a⟩:=a;exact e j A a
    ·refine ⟨f,d,y,λh b c=>by rw [x];exact i h b c,λh b c hl=>?_⟩;rcases BN (co h (h.length - 1)).natAbs (co f (f.length - 1)).natAbs with z | z
     ·exact absurd ⟨_,⋯,h,⋯,b,c,rfl⟩ a
     ·exact z
 exact M _ ⟨p,u,v,w,rfl⟩
theorem Gen.mq {r o:dO} {g:dD} (G:Gen r o g):∀ (n:Nat) (f:dD),f.length<=n->QI r o (co f)->MQ (co g) (co f)
 | 0,f,h,_=>MQ.zero _ λk=>AZ ⋯
 | n+1,f,h,q=>by
   rcases Et f with z | ⟨b,u,A,i⟩
   ·exact MQ.zero _ z
   have j:QI r o (co b):=q.congr i;have B:=G.len b u j;refine MQ.congr (f:=co b) ?_ λk=>(i k).symm;generalize C:b.length - g.length=s;have D:=G.lz.1;let F:dD:=(List.range (b.length - 1)).map λk=>co g (g.length - 1)*co b k - co b (b.length - 1)*Ax s (co g) k
   have p:∀ k,co F k=co g (g.length - 1)*co b k - co b (b.length - 1)*Ax s (co g) k:=λk=>by
    rw [JY];by_cases hk:k<b.length - 1
    ·rw [sZ hk]
    ·rw [sY hk];unfold Ax;by_cases e:k=b.length - 1
     ·rw [sZ ⋯,e,show b.length - 1 - s=g.length - 1 by omega];ext
     ·rw [AZ (a:=b) ⋯];by_cases d:s<=k
      ·rw [sZ d,AZ (a:=g) (k:=k - s) ⋯];omega
      ·rw [sY d];omega
   have v:QI r o (co F):=QI.congr (j.less G.qi (co g (g.length - 1)) (co b (b.length - 1)) s) p
   have w:F.length<=n:=by
    have:F.length=b.length - 1:=by show ((List.range (b.length - 1)).map _).length=_;rw [AJ,BI]
    omega
   have m:=Gen.mq G n F w v;have x:=MQ.less (MQ.congr m λk=>(p k).symm) (MQ.refl (co g)) 1 (-(co b (b.length - 1))) s;refine MQ.scal (c:=co g (g.length - 1)) G.lz.2 (MQ.congr x λk=>?_);show _=1*_ - _*Ax s (co g) k;generalize Ax s (co g) k=y;ext
def Gen.prim {r o:dO} {g:dD} (G:Gen r o g) {p:Nat} (hp:2<=p):∃ n,¬ (p:Int)∣co g n/\∀ i,n<i->(p:Int)∣co g i:=by
 have b:∀ n,(∀ i,n<=i->(p:Int)∣co g i)->(∀ i,(p:Int)∣co g i)\/∃ n,¬ (p:Int)∣co g n/\∀ i,n<i->(p:Int)∣co g i:=by
  intro n
  induction n with
  | zero=>intro h;exact .inl λi=>h i (Aa i)
  | succ n v=>
    intro h;by_cases m:(p:Int)∣co g n
    ·exact v λi d=>by
      by_cases e:i=n
      ·rw [e];exact m
      ·exact h i ⋯
    ·exact .inr ⟨n,m,λi d=>h i ⋯⟩
 rcases b g.length (λi d=>by rw [AZ d];exact DN _) with h | h
 ·exfalso;let a:dD:=g.map (·/ (p:Int))
  have f:∀ k,(p:Int)*co a k=co g k:=λk=>by
   have:co a k=co g k / (p:Int):=by
    show (g.map (·/ (p:Int))).getD k 0=g.getD k 0 / (p:Int);rw [AO,AO,Ae];cases g[k]? with
    | none=>exact (Int.zero_ediv _).symm
    | some z=>rfl
   rw [this,Int.mul_ediv_cancel' (h k)]
  have w:(p:Int)≠0:=by omega
  have Df:a.length=g.length:=AJ ..;have q:co a (a.length - 1)≠0:=λz=>G.lz.2 (by rw [<-f,<-Df,z];omega);have x:Lz a:=⟨by rw [Df];exact G.lz.1,q⟩;have y:QI r o (co a):=QI.scal (c:=(p:Int)) w (QI.congr G.qi f);have u:=G.last a x y Df;have j:=f (g.length - 1);rw [<-Df] at j;rw [Df] at j u;rw [<-j,Az,Ce] at u;rw [Df] at q;have A:0<(co a (g.length - 1)).natAbs:=by omega
  have:=CF (co a (g.length - 1)).natAbs hp;omega
 ·exact h
def Gen.loc {r o:dO} {g:dD} (G:Gen r o g) {p:Nat} (hp:Pr p) {f:dO} (m:MQ (co g) f) :
  ∃ (c:Int) (A:dD),¬ (p:Int)∣c/\∀ k,c*f k=cvL A (co g) k:=by
 obtain ⟨n,v,w⟩:=G.prim hp.two;obtain ⟨c,x,A,b⟩:=m
 have i:∀ (m:Nat) (c:Int) (A:dD),c.natAbs<=m->c≠0->(∀ k,c*f k=cvL A (co g) k)->∃ (c:Int) (A:dD),¬ (p:Int)∣c/\∀ k,c*f k=cvL A (co g) k:=by
  intro m
  induction m with
  | zero=>intro c A h u;omega
  | succ m y=>
    intro c A h u b;by_cases j:(p:Int)∣c
    ·have B:∀ a∈A,(p:Int)∣a:=JX hp v w A λk _=>by rw [<-b k];exact GT j
     obtain ⟨d,rfl⟩:=j;have C:=hp.two;have q:d≠0:=λz=>u (by rw [z];omega)
     have D:A=(A.map (·/ (p:Int))).map ((p:Int)*·):=by
      rw [List.map_map]
      conv=>lhs;rw [<-List.map_id A]
      refine EL λa E=>?_;show a=(p:Int)*(a / (p:Int));rw [Int.mul_ediv_cancel' (B a E)]
     refine y d (A.map (·/ (p:Int))) ?_ q λk=>?_
     ·rw [Az,Ce] at h;have F:0<d.natAbs:=by omega
      have:=CF d.natAbs C;omega
     ·have e:=b k;rw [D,BG,Int.mul_assoc] at e;exact Fo ⋯ e
    ·exact ⟨c,A,j,b⟩
 exact i _ c A (AS _) x b
theorem YS (a b:Nat):∃ x y:Int,x*a+y*b=(Nat.gcd a b:Int):=by
 induction a,b using Nat.gcd.induction with
 | H0 n=>exact ⟨0,1,by simp⟩
 | H1 m n d c=>
   obtain ⟨x,y,h⟩:=c;refine ⟨y - x*((n / m:Nat):Int),x,?_⟩;rw [Nat.gcd_rec,<-h]
   have e:(n:Int)=(m:Int)*((n / m:Nat):Int)+((n % m:Nat):Int):=by
    have:=Nat.div_add_mod n m;exact_mod_cast this.symm
   generalize ((n / m:Nat):Int)=q at *;generalize ((n % m:Nat):Int)=w at *;rw [e];ext
def YT (a b:Int):∃ x y:Int,x*a+y*b=(Int.gcd a b:Int):=by
 obtain ⟨x,y,h⟩:=YS a.natAbs b.natAbs
 have s:∀ z:Int,∃ e:Int,(z.natAbs:Int)=e*z:=λz=>by
  rcases Int.natAbs_eq z with h | h
  ·exact ⟨1,⋯⟩
  ·exact ⟨-1,⋯⟩
 obtain ⟨e,c⟩:=s a;obtain ⟨f,d⟩:=s b;refine ⟨x*e,y*f,?_⟩;show _=((Nat.gcd a.natAbs b.natAbs:Nat):Int);rw [<-h,c,d];ext
def Dm (p:Int) (g f:dO):Prop:=∃ S:dD,∀ k,p∣f k - cvL S g k
def Gen.dm {r o:dO} {g:dD} (G:Gen r o g) {p:Nat} (hp:Pr p) {f:dO} (m:MQ (co g) f):Dm (p:Int) (co g) f:=by
 obtain ⟨c,A,d,e⟩:=G.loc hp m
 have b:Int.gcd c (p:Int)=1:=by
  have:=hp.cop (a:=c.natAbs) λz=>d (Ct.mp (by rw [Ce];exact z));exact this
 obtain ⟨x,y,i⟩:∃ x y:Int,x*c+y*(p:Int)=1:=by
  obtain ⟨x,y,h⟩:=YT c (p:Int);exact ⟨x,y,by rw [h,b];rfl⟩
 refine ⟨A.map (x*·),λk=>⟨f k*y,?_⟩⟩;rw [BG,<-e k];ext
def Dm.less {p:Int} {g f h:dO} (m:Dm p g f) (m':Dm p g h) (a w:Int) (s:Nat):Dm p g (λk=>a*f k - w*Ax s h k):=by
 obtain ⟨S,d⟩:=m;obtain ⟨e,c⟩:=m';refine ⟨Ap (S.map (a*·)) (List.replicate s 0++e.map (-w*·)),λk=>?_⟩;show p∣a*f k - w*Ax s h k - _;rw [Bm,BG,Gx];unfold Ax;obtain ⟨x,i⟩:=d k;by_cases b:s<=k
 ·rw [sZ b,sZ b,BG];obtain ⟨y,j⟩:=c (k - s);exact ⟨a*x - w*y,()⟩
 ·rw [sY b,sY b];exact ⟨a*x,()⟩
def Dm.congr {p:Int} {g f h:dO} (m:Dm p g f) (e:∀ k,p∣h k - f k):Dm p g h:=by
 obtain ⟨S,a⟩:=m;exact ⟨S,λk=>by have:=DL (e k) (a k);rwa [show ∀ x y z:Int,x - y+(y - z)=x - z by intro x y z;omega] at this⟩
def Dm.zero (p:Int) (g:dO) {f:dO} (h:∀ k,p∣f k):Dm p g f:=⟨[],λk=>by rw [BF];simpa using h k⟩
def Gen.lead {r o:dO} {g R:dD} (G:Gen r o g) {p:Nat} (hp:Pr p) (D:Lz R) (m:MQ (co g) (co R)) (h:¬ (p:Int)∣co R (R.length - 1)):¬ (p:Int)∣co g (g.length - 1):=by
 intro E;obtain ⟨n,b,F⟩:=G.prim hp.two;obtain ⟨c,A,d,f⟩:=G.loc hp m
 have M:n+1<g.length:=by
  rcases BN n g.length with z | z
  ·rcases BN (n+1) g.length with y | y
   ·exact y
   ·exact absurd E (by rw [show g.length - 1=n by omega];exact b)
  ·exact absurd (by rw [AZ z];exact DN _) b
 rcases Et A with z | ⟨B,q,_,H⟩
 ·have:c*co R (R.length - 1)=0:=by
   rw [f,CB,Fi g z]
  rcases Int.mul_eq_zero.mp this with e | e
  ·exact d (by rw [e];exact DN _)
  ·exact D.2 e
 ·have u:∀ k,c*co R k=cvL B (co g) k:=λk=>by rw [f,CB,BV (λj=>(H j).symm) g k,<-CB]
  have N:B.length+g.length<=R.length+1:=by
   rcases BN (R.length+1) (B.length+g.length) with z | z
   ·exfalso;have v:=q.1;have O:=G.lz.1;have e:=u (B.length - 1+(g.length - 1));rw [AZ ⋯] at e;have w:B≠[]:=λz=>by rw [z] at v;simp at v
    obtain ⟨T,t,a⟩:∃ T t,B=T++[t]:=⟨B.dropLast,B.getLast w,(Fq w).symm⟩;have I:T.length=B.length - 1:=by rw [a];simp
    have J:co B (B.length - 1)=t:=by rw [<-I,a];unfold co;simp [AO]
    rw [a,DQ,<-a,EG (n:=g.length) (λi K=>AZ K) T _ ⋯] at e;unfold Ax at e;rw [sZ ⋯,show B.length - 1+(g.length - 1) - T.length=g.length - 1 by omega] at e;have L:t*co g (g.length - 1)=0:=by omega
    rcases Int.mul_eq_zero.mp L with x | x
    ·exact q.2 (J.trans x)
    ·exact G.lz.2 x
   ·exact z
  have C:=LM F B (R.length - 1) ⋯;rw [<-u] at C;rcases hp.mulI C with x | x
  ·exact d x
  ·exact h x
def Dm.len {p:Nat} (hp:Pr p) {g f:dD} (n:0<g.length) (hl:¬ (p:Int)∣co g (g.length - 1)) (d:Dm (p:Int) (co g) (co f)) (b:∃ k,¬ (p:Int)∣co f k):g.length<=f.length:=by
 rcases BN f.length g.length with z | z
 ·exfalso;obtain ⟨S,a⟩:=d
  have sS:=JX hp hl (λi o=>by rw [AZ ⋯];exact DN _) S λk hk=>by
   have:=a k;rw [AZ ⋯] at this;have e:=Int.dvd_neg.mpr this;rwa [show ∀ x:Int,-(0 - x)=x by intro x;omega] at e
  obtain ⟨k,hk⟩:=b;apply hk
  have c:∀ (S:dD),(∀ s∈S,(p:Int)∣s)->∀ k,(p:Int)∣cvL S (co g) k:=by
   intro S
   induction S with
   | nil=>intro _ k;exact DN _
   | cons x S j=>
     intro h k;rw [Ff];refine DL (GT (h x (BS ..))) ?_;cases k with
     | zero=>exact DN _
     | succ k=>exact j (λs m=>h s (Bp _ m)) k
  have:=DL (a k) (c S sS k);rwa [Int.sub_add_cancel] at this
 ·exact z
structure RC (r o:dO) (g:dD):Prop where
 lz:Lz g
 left:MQ (co g) r
 right:MQ (co g) o
 qi:QI r o (co g)
def Gen.rc {R O g:dD} (G:Gen (co R) (co O) g):RC (co R) (co O) g:=
 ⟨G.lz,G.mq _ R (AS _) (QI.left _ _),G.mq _ O (AS _) (QI.right _ _),G.qi⟩
def YU {r o:dO} {g h:dD} (G:RC r o g) (b:Lz h) (f:MQ (co h) r) (m:MQ (co h) o) (hl:g.length<=h.length):RC r o h:=by
 refine ⟨b,f,m,G.qi.of_MQ ?_⟩;obtain ⟨d,A,T,p⟩:=MQ.of_QI f m G.qi;rcases Et T with z | ⟨B,c,_,C⟩
 ·exfalso;have:d*co g (g.length - 1)=0:=by rw [p,CB,Fi h z]
  rcases Int.mul_eq_zero.mp this with e | e
  ·exact A e
  ·exact G.lz.2 e
 ·have q:∀ k,d*co g k=cvL B (co h) k:=λk=>by rw [p,CB,BV (λj=>(C j).symm) h k,<-CB]
  have u:=c.1;have J:=b.1;have v:B≠[]:=λz=>by rw [z] at u;simp at u
  obtain ⟨X,t,a⟩:∃ X t,B=X++[t]:=⟨B.dropLast,B.getLast v,(Fq v).symm⟩;have D:X.length=B.length - 1:=by rw [a];simp
  have w:co B (B.length - 1)=t:=by rw [<-D,a];unfold co;simp [AO]
  have one:B.length=1:=by
   rcases BN 1 B.length with y | y
   ·exfalso;have e:=q (B.length - 1+(h.length - 1));rw [AZ ⋯,a,DQ,<-a,EG (n:=h.length) (λi E=>AZ E) X _ ⋯] at e;unfold Ax at e;rw [sZ ⋯,show B.length - 1+(h.length - 1) - X.length=h.length - 1 by omega] at e;have F:t*co h (h.length - 1)=0:=by omega
    rcases Int.mul_eq_zero.mp F with x | x
    ·exact c.2 (w.trans x)
    ·exact b.2 x
   ·omega
  have H:X=[]:=CM.mp ⋯;have I:t≠0:=λz=>c.2 (w.trans z);refine ⟨t,I,[d],λk=>?_⟩;have e:=q k;rw [a,H] at e;cases k with
  | zero=>rw [A4];rw [show ([]++[t]:dD)=[t] from rfl,A4] at e;omega
  | succ k=>rw [Av,BF];rw [show ([]++[t]:dD)=[t] from rfl,Av,BF] at e;omega
def Prim (g:dD):Prop:=∀ c:Int,(∀ k,c∣co g k)->c.natAbs=1
def Prim.top {g:dD} (P:Prim g) {p:Nat} (hp:2<=p):∃ n,¬ (p:Int)∣co g n/\∀ i,n<i->(p:Int)∣co g i:=by
 have a:∀ n,(∀ i,n<=i->(p:Int)∣co g i)->(∀ i,(p:Int)∣co g i)\/∃ n,¬ (p:Int)∣co g n/\∀ i,n<i->(p:Int)∣co g i:=by
  intro n
  induction n with
  | zero=>intro h;exact .inl λi=>h i (Aa i)
  | succ n d=>
    intro h;by_cases c:(p:Int)∣co g n
    ·exact d λi b=>by
      by_cases e:i=n
      ·rw [e];exact c
      ·exact h i ⋯
    ·exact .inr ⟨n,c,λi b=>h i ⋯⟩
 rcases a g.length (λi b=>by rw [AZ b];exact DN _) with h | h
 ·have:=P (p:Int) h;omega
 ·exact h
def ad {g:dD} (P:Prim g) {f:dO} (m:MQ (co g) f):∃ A:dD,∀ k,f k=cvL A (co g) k:=by
 obtain ⟨c,u,A,b⟩:=m
 have i:∀ (m:Nat) (c:Int) (A:dD),c.natAbs<=m->c≠0->(∀ k,c*f k=cvL A (co g) k)->∃ A:dD,∀ k,f k=cvL A (co g) k:=by
  intro m
  induction m with
  | zero=>intro c A h o;omega
  | succ m v=>
    intro c A h o b;by_cases q:c.natAbs=1
    ·rcases Int.natAbs_eq c with e | e
     ·exact ⟨A,λk=>by rw [<-b k,e,q];omega⟩
     ·exact ⟨A.map (-1*·),λk=>by rw [BG,<-b k,e,q];omega⟩
    ·obtain ⟨p,hp,w,_⟩:=Oo (m:=c.natAbs) ⋯;have r:(p:Int)∣c:=Ct.mp (by rw [Ce];exact w);obtain ⟨n,x,y⟩:=P.top hp.two;have B:∀ a∈A,(p:Int)∣a:=JX hp x y A λk _=>by rw [<-b k];exact GT r
     obtain ⟨d,rfl⟩:=r;have C:=hp.two;have j:d≠0:=λz=>o (by rw [z];omega)
     have D:A=(A.map (·/ (p:Int))).map ((p:Int)*·):=by
      rw [List.map_map]
      conv=>lhs;rw [<-List.map_id A]
      refine EL λa E=>?_;show a=(p:Int)*(a / (p:Int));rw [Int.mul_ediv_cancel' (B a E)]
     refine v d (A.map (·/ (p:Int))) ?_ j λk=>?_
     ·rw [Az,Ce] at h;have F:0<d.natAbs:=by omega
      have:=CF d.natAbs C;omega
     ·have e:=b k;rw [D,BG,Int.mul_assoc] at e;exact Fo ⋯ e
 exact i _ c A (AS _) u b
noncomputable def evI:dD->Int->Int
 | [],_=>0
 | a::l,x=>a+x*evI l x
theorem JZ:∀ (l:dD) (x:Int),(∀ k,co l k=0)->evI l x=0
 | [],_,_=>rfl
 | a::l,x,h=>by
   have b:a=0:=h 0;show a+x*evI l x=0;rw [b,JZ l x λk=>h (k+1)];omega
theorem LO:∀ (a b:dD) (x:Int),(∀ k,co a k=co b k)->evI a x=evI b x
 | [],b,x,h=>(JZ b x λk=>(h k).symm).symm
 | a::l,[],x,h=>JZ (a::l) x h
 | a::l,b::m,x,h=>by
   have c:a=b:=h 0;show a+x*evI l x=b+x*evI m x;rw [c,LO l m x λk=>h (k+1)]
theorem Ou:∀ (a b:dD) (x:Int),evI (Ap a b) x=evI a x+evI b x
 | [],b,x=>by show evI b x=0+evI b x;omega
 | a::l,[],x=>by rw [JW];show _=_+0;omega
 | a::l,b::m,x=>by
   show (a+b)+x*evI (Ap l m) x=a+x*evI l x+(b+x*evI m x);rw [Ou l m x];ext
theorem Ow (c:Int):∀ (a:dD) (x:Int),evI (a.map (c*·)) x=c*evI a x
 | [],x=>by show (0:Int)=c*0;omega
 | a::l,x=>by
   show c*a+x*evI (l.map (c*·)) x=c*(a+x*evI l x);rw [Ow c l x];ext
theorem Ox:∀ (a b:dD) (x:Int),evI (BC a b) x=evI a x*evI b x
 | [],b,x=>by show (0:Int)=0*_;omega
 | a::l,b,x=>by
   show evI (Ap (b.map (a*·)) (0::BC l b)) x=(a+x*evI l x)*evI b x;rw [Ou,Ow];show a*evI b x+(0+x*evI (BC l b) x)=_;rw [Ox l b x];ext
def YV (a b:dD) (k:Nat):co (BC a b) k=cvL a (co b) k:=by
 rw [CA,CG];exact BV (λj=>(CA b j).symm) a k
def YW {r a g:dD} (h:∀ k,co r k=cvL a (co g) k) (x:Int):evI r x=evI a x*evI g x:=by
 rw [<-Ox];exact LO r (BC a g) x λk=>by rw [YV];exact h k
theorem Oy {b c:Nat} {x:Int} (d:Bd c x):∀ (l:dD),(∀ z∈l,Bd b z)->Bd (b+l.length*(c+1)) (evI l x)
 | [],_=>DZ _
 | a::l,f=>by
   show Bd _ (a+x*evI l x);have g:=f a (BS ..);have h:=d.mul (Oy d l λz i=>f z (Bp _ i));have e:(l.length+1)*(c+1)=l.length*(c+1)+(c+1):=by rw [DV,Nat.one_mul]
   refine ((g.mono (n:=c+(b+l.length*(c+1))) ⋯).add h).mono ?_;rw [C1,e];omega
noncomputable def Y':dD->Int->dD
 | [],_=>[]
 | _::l,t=>evI l t::Y' l t
theorem Ja:∀ (l:dD) (t:Int),(Y' l t).length=l.length
 | [],_=>rfl
 | _::l,t=>congrArg (·+1) (Ja l t)
theorem LP:∀ (l:dD) (t x:Int),evI l x - evI l t=(x - t)*evI (Y' l t) x
 | [],t,x=>by show (0:Int) - 0=_*0;omega
 | a::l,t,x=>by
   show a+x*evI l x - (a+t*evI l t)=(x - t)*(evI l t+x*evI (Y' l t) x);have:=LP l t x;ext
theorem Jb:∀ (l:dD) (t:Int) (k:Nat),co l k=(if k=0 then evI l t else co (Y' l t) (k - 1)) - t*co (Y' l t) k
 | [],t,k=>by
   rw [show co (Y' [] t) k=0 from AZ (Aa _),show co (Y' [] t) (k - 1)=0 from AZ (Aa _),AZ (Aa _)];show 0=(if k=0 then 0 else 0) - _;split <;> omega
 | a::l,t,0=>by
   show a=a+t*evI l t - t*evI l t;omega
 | a::l,t,k+1=>by
   have:=Jb l t k;show co l k=(if k+1=0 then _ else co (evI l t::Y' l t) (k+1 - 1)) - t*co (Y' l t) k;rw [sY ⋯,this];cases k with
   | zero=>rfl
   | succ k=>rw [sY ⋯];rfl
theorem YX (l:dD) (t:Int):co (Y' l t) (l.length - 1)=0:=by
 induction l with
 | nil=>exact AZ (Aa _)
 | cons a l b=>
   show co (evI l t::Y' l t) l.length=0;cases h:l.length with
   | zero=>rw [CM.mp h];rfl
   | succ m=>rw [h] at b;exact b
theorem aU {c:Nat}:∀ (d:Nat) (l:dD) (y:Nat) (x:dO),(∀ k,d<k->co l k=0)->(∀ i,i<=d->Bd c (x i))->(∀ i j,i<=d->j<=d->i≠j->x i≠x j)->(∀ i,i<=d->Bd y (evI l (x i)))->∀ k,Bd (y+d*(c+3)) (co l k)
 | 0,l,y,x,m,_,_,f,k=>by
   cases k with
   | zero=>
     have e:evI l (x 0)=co l 0:=by
      cases l with
      | nil=>rfl
      | cons a l=>
        show a+x 0*evI l (x 0)=a;rw [JZ l (x 0) λk=>m (k+1) ⋯];omega
     have:=f 0 (AS 0);rw [e] at this;exact this.mono ⋯
   | succ k=>rw [m (k+1) ⋯];exact DZ _
 | d+1,l,y,x,m,q,r,f,k=>by
   have v:∀ j,d<j->co (Y' l (x (d+1))) j=0:=by
    have g:∀ n,∀ j,d<j->l.length<=j+n->co (Y' l (x (d+1))) j=0:=by
     intro n
     induction n with
     | zero=>intro j _ h;exact AZ (by rw [Ja];omega)
     | succ n o=>
       intro j p h;have e:=Jb l (x (d+1)) (j+1);rw [m (j+1) ⋯,sY ⋯,o (j+1) ⋯ ⋯] at e;rw [show j+1 - 1=j by omega] at e;omega
    intro j p;exact g l.length j p ⋯
   have o:=aU d (Y' l (x (d+1))) (y+1) x v (λi u=>q i ⋯) (λi j u p=>r i j ⋯ ⋯) (λi u=>by
    have e:=LP l (x (d+1)) (x i);have C:x i - x (d+1)≠0:=λz=>r i (d+1) ⋯ ⋯ ⋯ ⋯;have b:=(f i ⋯).sub (f (d+1) ⋯);rw [e] at b;refine b.le ?_;rw [Az];exact GU _ ⋯)
   have e:=Jb l (x (d+1)) k;rw [e];have w:=q (d+1) (AS _);have A:=w.mul (o k);have em:(d+1)*(c+3)=d*(c+3)+(c+3):=by rw [DV,Nat.one_mul]
   have B:Bd (c+(y+1+d*(c+3))) (if k=0 then evI l (x (d+1)) else co (Y' l (x (d+1))) (k - 1)):=by
    split
    ·exact (f (d+1) (AS _)).mono ⋯
    ·exact (o (k - 1)).mono ⋯
   exact (B.sub A).mono ⋯
end Bs
namespace Bs
open PySem L2
def isN (H:Hp) (v:V) (q:Nu):Prop:=∃ p,v=.ref p/\H p=some (.tup [.int q.1,.int q.2])
noncomputable def Nums (H:Hp):dz->dg->Prop
 | [],[]=>True
 | x::a,q::l=>isN H x q/\Nums H a l
 | _,_=>False
def Tp (H c:Hp):Prop:=∀ b a,H b=some (.tup a)->c b=some (.tup a)
def V_ {H a:Hp} (s:Same H a):Tp H a:=λb c h=>s b _ h
def Kp.tp {p:Addr} {H a:Hp} {xs:dz} (k:Kp p H a) (h:H p=some (.lst xs)):Tp H a:=λb c q=>k b _ (NI q h (by intro z;cases z)) q
def Tp.updL {p:Addr} {H:Hp} {xs ys:dz} (h:H p=some (.lst xs)):Tp H (upd H p (.lst ys)):=Kp.tp Kp.upd h
def isN.tp {H a:Hp} {v:V} {q:Nu} (h:isN H v q) (t:Tp H a):isN a v q:=let ⟨p,e,z⟩:=h;⟨p,e,t _ _ z⟩
theorem Nums.tp {H a:Hp} (t:Tp H a):∀ {xs:dz} {l:dg},Nums H xs l->Nums a xs l
 | [],[],_=>trivial
 | _::_,_::_,h=>⟨h.1.tp t,Nums.tp t h.2⟩
 | [],_::_,h=>h.elim
 | _::_,[],h=>h.elim
theorem Nums.length {H:Hp}:∀ {xs:dz} {l:dg},Nums H xs l->xs.length=l.length
 | [],[],_=>rfl
 | _::_,_::_,h=>congrArg (·+1) (Nums.length h.2)
 | [],_::_,h=>h.elim
 | _::_,[],h=>h.elim
theorem Nums.get {H:Hp}:∀ {xs:dz} {l:dg} {i:Nat} {v:V},Nums H xs l->xs[i]?=some v->∃ q,l[i]?=some q/\isN H v q
 | [],[],_,_,_,e=>by simp at e
 | _::_,q::_,0,_,h,e=>by simp at e;subst e;exact ⟨q,rfl,h.1⟩
 | _::_,_::_,i+1,_,h,e=>by
   obtain ⟨q,a,b⟩:=Nums.get (i:=i) h.2 (by simpa using e);exact ⟨q,by simpa using a,b⟩
 | [],_::_,_,_,h,_=>h.elim
 | _::_,[],_,_,h,_=>h.elim
def Nums.at {H:Hp} {xs:dz} {l:dg} {i:Nat} (h:Nums H xs l) (hi:i<l.length) (d:Nu):∃ v,xs[i]?=some v/\isN H v (l.getD i d):=by
 have a:i<xs.length:=by rw [h.length];exact hi
 obtain ⟨q,b,c⟩:=h.get (Ag a);refine ⟨_,Ag a,?_⟩;rw [AO,b];exact c
theorem Nums.append {H:Hp}:∀ {xs ys:dz} {l m:dg},Nums H xs l->Nums H ys m->Nums H (xs++ys) (l++m)
 | [],_,[],_,_,h=>h
 | _::_,_,_::_,_,h,a=>⟨h.1,Nums.append h.2 a⟩
 | [],_,_::_,_,h,_=>h.elim
 | _::_,_,[],_,h,_=>h.elim
def Nums.one {H:Hp} {v:V} {q:Nu} (h:isN H v q):Nums H [v] [q]:=⟨h,trivial⟩
theorem Nums.take {H:Hp}:∀ {xs:dz} {l:dg} (n:Nat),Nums H xs l->Nums H (xs.take n) (l.take n)
 | [],[],n,_=>by simp [Nums]
 | _::_,_::_,0,_=>trivial
 | _::_,_::_,n+1,h=>⟨h.1,Nums.take n h.2⟩
 | [],_::_,_,h=>h.elim
 | _::_,[],_,h=>h.elim
theorem Nums.set {H:Hp} {v:V} {q:Nu} (hv:isN H v q):∀ {xs:dz} {l:dg} (i:Nat),Nums H xs l->Nums H (xs.set i v) (l.set i q)
 | [],[],_,_=>trivial
 | _::_,_::_,0,h=>⟨hv,h.2⟩
 | _::_,_::_,i+1,h=>⟨h.1,Nums.set hv i h.2⟩
 | [],_::_,_,h=>h.elim
 | _::_,[],_,h=>h.elim
theorem Nums.rep {H:Hp} {v:V} {q:Nu} (hv:isN H v q):∀ n:Nat,Nums H (List.replicate n v) (List.replicate n q)
 | 0=>trivial
 | n+1=>⟨hv,Nums.rep hv n⟩
theorem Ht {a:Type} (v:a):∀ n:Nat,(List.replicate n [v]).flatten=List.replicate n v
 | 0=>rfl
 | n+1=>by rw [List.replicate_succ,List.flatten_cons,Ht v n];rfl
def DI {a:Type} {xs:List a} {i:Int} {j:Nat} {v:a} (e:i=(j:Int)) (h:xs[j]?=some v):O' xs i=some v:=by subst e;exact F4 h
def LQ {H:Hp} {p:Addr} {q:Nu}:isN (upd H p (.tup [.int q.1,.int q.2])) (.ref p) q:=⟨p,rfl,upd_same⟩
def LR {xs:dz} {m:Nat} (h:m<=xs.length):Cg xs none (some (m:Int))=xs.take m:=by
 unfold Cg HT.sIx;simp only [List.drop_zero,Nat.sub_zero,DB];rw [sY ⋯,Nat.min_eq_left h]
def Gy (H:Hp) (Q:VK) (l:dg):Prop:=∀ (r:Addr) (b:dz) (a:Hp),Same H a->a r=some (.tup b)->Nums a b l->Q (.ref r) a
noncomputable def GF (q:Nu):W.Dat:=.tuple [.int q.1,.int q.2]
def Jc {H:Hp} {v:V} {q:Nu} (h:isN H v q):RepD H v (GF q):=by
 obtain ⟨p,rfl,hp⟩:=h;exact .tup hp (.cons (.int _) (.cons (.int _) .nil))
def cX (q:Nu) (n:Nat):W.kqdOk (n+1) (GF q)=true:=by simp [GF,W.kqdOk]
section
variable {σ:L2.St} {H:Hp} {Q:VK} {D:Ends} {rest:TS} {sp:Sp} {E:XK}
def Ak {i:Nat} {v:V} (a:σ[i]?=some (some v)) (h:Q v H):AA i σ H Q:=⟨v,a,h⟩
def CC {i:Nat} {k:Int} {a:Addr} {xs:dz} {v:V} (b:σ[i]?=some (some (.ref a))) (c:H a=some (.tup xs)) (d:O' xs k=some v) (h:Q v H):B_ gT (AA i) (tC (.int k)) σ H Q:=⟨_,b,a,k,xs,v,rfl,rfl,c,d,h⟩
def YY {i:Nat} {k:Int} {a:Addr} {xs:dz} {v:V} (b:σ[i]?=some (some (.ref a))) (c:H a=some (.lst xs)) (d:O' xs k=some v) (h:Q v H):B_ gL (AA i) (tC (.int k)) σ H Q:=⟨_,b,a,k,xs,v,rfl,rfl,c,d,h⟩
def Jd {a:TE} {k:Nat} (h:a σ H λx b=>sp [x] b (λv c=>rest D (σ.set k (some v)) c) E):AF (AM (AK sp [] E (AB a AC)) (AG k)) rest D σ H:=h
def Je {a b:TE} {k:Nat} (h:a σ H λx c=>b σ c λy d=>sp [x,y] d (λv e=>rest D (σ.set k (some v)) e) E):AF (AM (AK sp [] E (AB a (AB b AC))) (AG k)) rest D σ H:=h
def YZ {a b tc:TE} {k:Nat} (h:a σ H λx c=>b σ c λy d=>tc σ d λz e=>sp [x,y,z] e (λv f=>rest D (σ.set k (some v)) f) E):AF (AM (AK sp [] E (AB a (AB b (AB tc AC)))) (AG k)) rest D σ H:=h
def Jf {a:TE} (h:a σ H λx b=>sp [x] b Q E):AK sp [] E (AB a AC) σ H Q:=h
def B4 {a b:TE} (h:a σ H λx c=>b σ c λy d=>sp [x,y] d Q E):AK sp [] E (AB a (AB b AC)) σ H Q:=h
def CZ {a b tc:TE} (h:a σ H λx c=>b σ c λy d=>tc σ d λz e=>sp [x,y,z] e Q E):AK sp [] E (AB a (AB b (AB tc AC))) σ H Q:=h
def BW {te:TE} {k:Nat} (h:te σ H λx a=>rest D (σ.set k (some x)) a):AF (AM te (AG k)) rest D σ H:=h
def Dg {te:TE} (h:te σ H D.rt):AX te D σ H:=h
def Yb {a:TE} (h:a σ H λx b=>[x].length<=sizeLine/\∀ p,b p=none->Q (.ref p) (upd b p (.tup [x]))):A5 (AB a AC) σ H Q:=h
def C7 {a b:TE} (h:a σ H λx d=>b σ d λy c=>[x,y].length<=sizeLine/\∀ p,c p=none->Q (.ref p) (upd c p (.tup [x,y]))):A5 (AB a (AB b AC)) σ H Q:=h
def Oz {a b tc:TE} (h:a σ H λx d=>b σ d λy e=>tc σ e λz c=>[x,y,z].length<=sizeLine/\∀ p,c p=none->Q (.ref p) (upd c p (.tup [x,y,z]))):A5 (AB a (AB b (AB tc AC))) σ H Q:=h
def Gz {a:TE} (h:a σ H λx b=>[x].length<=sizeLine/\∀ p,b p=none->Q (.ref p) (upd b p (.lst [x]))):BT (AB a AC) σ H Q:=h
def Yc {a b:TE} (h:a σ H λx d=>b σ d λy c=>[x,y].length<=sizeLine/\∀ p,c p=none->Q (.ref p) (upd c p (.lst [x,y]))):BT (AB a (AB b AC)) σ H Q:=h
def G_ {v:V} (h:Q v H):tC v σ H Q:=h
def Af {r:R2} {a b:TE} (h:a σ H λx c=>b σ c λy d=>r x y d Q):B_ r a b σ H Q:=h
def Jg {k:Int} {a:Addr} {xs:dz} {v:V} (b:H a=some (.lst xs)) (c:O' xs k=some v) (h:Q v H):gL (.ref a) (.int k) H Q:=⟨a,k,xs,v,rfl,rfl,b,c,h⟩
def Yd {g:Int->Int->V} {i j:Int} (h:Q (g i j) H):a8 g (.int i) (.int j) H Q:=⟨i,j,rfl,rfl,h⟩
def Hu {a:TE} (h:a σ H λx b=>BU [x] b Q):I_ BU (AB a AC) σ H Q:=h
def Hv {a:Addr} {xs:dz} (b:H a=some (.lst xs)) (h:Q (.int xs.length) H):BU [.ref a] H Q:=⟨a,xs,rfl,b,h⟩
def Jh {b:dz->Hp->VK->Prop} {a:TE} (h:a σ H λx c=>b [x] c Q):I_ b (AB a AC) σ H Q:=h
def O0 {a:TA} {g:TG} {b:TS} (h:a σ H (λc d=>∃ i j:Int,c=[.int i,.int j,.int (-1)]/\(-(2 ^ 62)<=i/\i<2 ^ 62/\-(2 ^ 62)<=j/\j<2 ^ 62)/\ForJ (cu i (i - j).toNat) g b { D with nx:=rest D } σ d)):AF (BH (GA a) g b) rest D σ H:=h
def Ye {te:TE} {g:TG} (h:te σ H λx a=>g x σ a (rest D)):AF (AM te g) rest D σ H:=h
def O3 {b:dz->Hp->VK->Prop} {a c:TE} (h:a σ H λx d=>c σ d λy e=>b [x,y] e Q):I_ b (AB a (AB c AC)) σ H Q:=h
def Yg {c d tc e te:TE} (h:c σ H λx f=>d σ f λy g=>tc σ g λz i=>e σ i λa j=>te σ j λb k=>sp [x,y,z,a,b] k Q E):AK sp [] E (AB c (AB d (AB tc (AB e (AB te AC))))) σ H Q:=h
def EX {i:Nat} {v:V} {σ:L2.St} {H:Hp} {Q:L2.St->Hp->Prop} (h:Q (σ.set i (some v)) H):AG i v σ H Q:=h
def G3 {te:TE} {k:Nat} {D:Ends} {σ:L2.St} {H:Hp} (h:te σ H λx a=>D.nx (σ.set k (some x)) a):AM te (AG k) D σ H:=h
def Dy {c:TT} {t u:TS} (h:c σ H λb a=>if b=true then t { D with nx:=rest D } σ a else u { D with nx:=rest D } σ a):AF (BO c t u) rest D σ H:=h
def EY {te:TE} {Q:Bool->Hp->Prop} (h:te σ H λx a=>∃ k,x=.bl k/\Q k a):As te σ H Q:=h
def Df {x:V}:[x].length<=sizeLine:=by show 1<=_;exact sz ∅
def CP {x y:V}:[x,y].length<=sizeLine:=by show 2<=_;exact sz ∅
def Hw {x y z:V}:[x,y,z].length<=sizeLine:=by show 3<=_;exact sz ∅
theorem O4 {H:Hp} {a x y:Addr} {A X Y:HO} {P:Hp->Prop} (g:H a=none) (i:upd H a A x=none) (d:upd (upd H a A) x X y=none) (k:∀ b,b a=some A->b y=some Y->Same H b->a≠y->H y=none->P b):P (upd (upd (upd H a A) x X) y Y):=by
 have f:=AQ g A;have c:=AQ i X;have sy:=AQ d Y;refine k _ (sy _ _ (c _ _ upd_same)) upd_same (λz o h=>sy z o (c z o (f z o h))) (BA (c _ _ upd_same) d) ?_;cases e:H y with
 | none=>rfl
 | some o=>have:=c _ _ (f _ _ e);rw [d] at this;cases this
end
end Bs
set_option maxHeartbeats 4000000
namespace Bs
open PySem L2
theorem O5 {g:dP} {n:Nat} (h:∀ i,n<i->g i=0):∀ (a:List Rat) (k:Nat),a.length+n<=k->cvL a g k=0
 | [],_,_=>rfl
 | x::a,0,hk=>absurd hk (by rw [C1];omega)
 | x::a,k+1,hk=>by
   rw [C1] at hk;rw [Av,h (k+1) ⋯,O5 h a k ⋯];ext
theorem LS {g:dP} {n:Nat} (j:g n≠0) (h:∀ i,n<i->g i=0) (S:List Rat):(∀ k,n<=k->cvL S g k=0)->∀ s∈S,s=0:=by
 induction hl:S.length generalizing S with
 | zero=>intro _ s b;rw [CM.mp hl] at b;exact nomatch b
 | succ m o=>
   intro hk;have e:S≠[]:=λz=>by rw [z] at hl;simp at hl
   obtain ⟨T,t,rfl⟩:∃ T t,S=T++[t]:=⟨S.dropLast,S.getLast e,(Fq e).symm⟩
   have f:t=0:=by
    have a:=hk (T.length+n) ⋯;rw [DQ,O5 h T _ (AS _)] at a;unfold Ax at a;rw [sZ ⋯,show T.length+n - T.length=n by omega] at a;have p:t*g n=0:=by ext
    rcases B6.mp p with z | z
    ·exact z
    ·exact absurd z j
   have c:=o T (by simpa using hl) (λk d=>by
    have a:=hk k d;rw [DQ,f] at a;ext)
   intro s b;rcases Bq.mp b with h | h
   ·exact c s h
   ·rw [Aq.mp h];exact f
theorem Ji {g:dP}:∀ (S:List Rat),(∀ s∈S,s=0)->∀ k,cvL S g k=0
 | [],_,_=>rfl
 | x::S,h,0=>by rw [A4,h x (BS ..)];ext
 | x::S,h,k+1=>by rw [Av,h x (BS ..),Ji S (λs a=>h s (Bp _ a)) k];ext
def Yh {G:dP} {n:Nat} (a:G n≠0) (b:∀ i,n<i->G i=0) {A B:List Rat} (h:∀ k,cvL A G k=cvL B G k) (g:dP) (k:Nat):cvL A g k=cvL B g k:=by
 have z:=Ji (g:=g) (Ap A (B.map ((-1:Rat)*·))) (LS a b _ λk _=>by rw [Bm,BG,h k];ext) k;rw [Bm,BG] at z;ext
structure Sr where
 c:dP
def Sr.ext' {f g:Sr} (h:∀ k,f.c k=g.c k):f=g:=by
 cases f;cases g;congr;exact funext h
noncomputable def tr (n:Nat) (f:dP):List Rat:=(List.range n).map f
def GG (n:Nat) (f:dP) (k:Nat):(tr n f).getD k 0=if k<n then f k else 0:=by
 unfold tr;rw [AO,Ae];by_cases h:k<n
 ·rw [Co h,sZ h];rfl
 ·rw [sY h,Ba (by rw [BI];omega)];rfl
theorem Hy:∀ (a b:List Rat) (g h:dP) (k:Nat),(∀ i,i<=k->a.getD i 0=b.getD i 0)->(∀ i,i<=k->g i=h i)->cvL a g k=cvL b h k:=by
 intro a
 induction a with
 | nil=>
   intro b
   induction b with
   | nil=>intro g h k _ _;rfl
   | cons y b j=>
     intro g h k c e;have m:=c 0 (Aa _);simp at m;cases k with
     | zero=>rw [BF,A4,<-m];ext
     | succ k=>
       rw [BF,Av,<-m];have:=j g h k (λi f=>by have:=c (i+1) ⋯;simpa using this) (λi f=>e i ⋯);rw [BF] at this;ext
 | cons x a j=>
   intro b g h k c e;cases b with
   | nil=>
     have d:=c 0 (Aa _);simp at d;cases k with
     | zero=>rw [BF,A4,d];ext
     | succ k=>
       rw [BF,Av,d];have:=j [] g h k (λi f=>by have:=c (i+1) ⋯;simpa using this) (λi f=>e i ⋯);rw [BF] at this;ext
   | cons y b=>
     have d:=c 0 (Aa _);simp at d;cases k with
     | zero=>rw [A4,A4,d,e 0 (AS _)]
     | succ k=>
       rw [Av,Av,d,e _ (AS _),j b g h k (λi f=>by have:=c (i+1) ⋯;simpa using this) (λi f=>e i ⋯)]
namespace Sr
noncomputable def zero:Sr:=⟨λ_=>0⟩
noncomputable def one:Sr:=⟨Ad⟩
noncomputable def add (f g:Sr):Sr:=⟨λk=>f.c k+g.c k⟩
noncomputable def neg (f:Sr):Sr:=⟨λk=>- f.c k⟩
noncomputable def mul (f g:Sr):Sr:=⟨λk=>cvL (tr (k+1) f.c) g.c k⟩
noncomputable def num (x:Rat):Sr:=⟨λk=>x*Ad k⟩
def Jj (f g:Sr) {n k:Nat} (h:k<n):(mul f g).c k=cvL (tr n f.c) g.c k:=by
 refine Hy _ _ _ _ _ (λi a=>?_) (λ_ _=>rfl);rw [GG,GG,sZ ⋯,sZ ⋯]
def LU (f g:Sr) {n m k:Nat} (h:k<n) (h':k<m):(mul f g).c k=cvL (tr n f.c) (cvL (tr m g.c) Ad) k:=by
 rw [Jj f g h];refine Hy _ _ _ _ _ (λ_ _=>rfl) (λi a=>?_);rw [Dx,GG,sZ ⋯]
def mul_comm (f g:Sr):mul f g=mul g f:=ext' λk=>by
 rw [LU f g (E7 k) (E7 k),LU g f (E7 k) (E7 k),Gv]
def mul_assoc (f g h:Sr):mul (mul f g) h=mul f (mul g h):=ext' λk=>by
 rw [Jj (mul f g) h (E7 k),Jj f (mul g h) (E7 k)]
 have a:cvL (tr (k+1) (mul f g).c) h.c k=cvL (BC (tr (k+1) f.c) (tr (k+1) g.c)) h.c k:=by
  refine Hy _ _ _ _ _ (λi b=>?_) (λ_ _=>rfl);rw [GG,sZ ⋯,<-Dx,CG,LU f g (n:=k+1) (m:=k+1) ⋯ ⋯]
 rw [a,CG];exact Hy _ _ _ _ _ (λ_ _=>rfl) (λi b=>(Jj g h ⋯).symm)
def mul_add (f g h:Sr):mul f (add g h)=add (mul f g) (mul f h):=ext' λk=>by
 show cvL (tr (k+1) f.c) (λk=>g.c k+h.c k) k=_;rw [Gu];rfl
def mul_one (f:Sr):mul f one=f:=ext' λk=>by
 show cvL (tr (k+1) f.c) Ad k=_;rw [Dx,GG,sZ (E7 k)]
def mul_zero (f:Sr):mul f zero=zero:=ext' λk=>by
 show cvL (tr (k+1) f.c) (λ_=>0) k=0;have:=Dd (0:Rat) (λ_=>0) (tr (k+1) f.c) k;rw [show (λk:Nat=>(0:Rat)*(λ_=>(0:Rat)) k)=λ_=>0 from funext λ_=>by grind] at this;rw [this];ext
noncomputable def cA (f:Sr):Nat->Sr
 | 0=>one
 | n+1=>mul (cA f n) f
noncomputable instance:Add Sr:=⟨add⟩
noncomputable instance:Mul Sr:=⟨mul⟩
noncomputable instance:Neg Sr:=⟨neg⟩
noncomputable instance:Sub Sr:=⟨λf g=>add f (neg g)⟩
noncomputable instance:NatCast Sr:=⟨λn=>num (n:Rat)⟩
noncomputable instance:IntCast Sr:=⟨λn=>num (n:Rat)⟩
noncomputable instance (n:Nat):OfNat Sr n:=⟨num (n:Rat)⟩
noncomputable instance:Pow Sr Nat:=⟨cA⟩
noncomputable instance:SMul Nat Sr:=⟨λn f=>mul (num (n:Rat)) f⟩
noncomputable instance:SMul Int Sr:=⟨λn f=>mul (num (n:Rat)) f⟩
def num0:num 0=zero:=ext' λk=>by show 0*Ad k=(0:Rat);ext
def num1:num 1=one:=ext' λk=>by show 1*Ad k=(Ad k:Rat);ext
def O6 (x y:Rat):num (x+y)=add (num x) (num y):=ext' λk=>by show (x+y)*Ad k=x*Ad k+y*Ad k;ext
def LV (x:Rat):num (-x)=neg (num x):=ext' λk=>by show (-x)*Ad k = -(x*Ad k);ext
def add_comm (f g:Sr):add f g=add g f:=ext' λk=>by show f.c k+g.c k=g.c k+f.c k;ext
def add_assoc (f g h:Sr):add (add f g) h=add f (add g h):=ext' λk=>by show f.c k+g.c k+h.c k=f.c k+(g.c k+h.c k);ext
def add_zero (f:Sr):add f zero=f:=ext' λk=>by show f.c k+0=f.c k;ext
def LW (f:Sr):add (neg f) f=zero:=ext' λk=>by show -f.c k+f.c k=0;ext
def add_mul (f g h:Sr):mul (add f g) h=add (mul f h) (mul g h):=by rw [mul_comm,mul_add,mul_comm h f,mul_comm h g]
def neg_mul (f g:Sr):mul (neg f) g=neg (mul f g):=by
 have h:add (mul (neg f) g) (mul f g)=zero:=by rw [<-add_mul,LW,mul_comm,mul_zero]
 have c:add (neg (mul f g)) (mul f g)=zero:=LW _;refine ext' λk=>?_;have a:=rJ (congrArg Sr.c h) k;have b:=rJ (congrArg Sr.c c) k;have a:(mul (neg f) g).c k+(mul f g).c k=0:=a;have b:(neg (mul f g)).c k+(mul f g).c k=0:=b;ext
noncomputable instance:Lean.Grind.CommRing Sr where
 add_zero f:=(congrArg (add f) num0).trans (add_zero f)
 add_comm:=add_comm
 add_assoc:=add_assoc
 mul_assoc:=mul_assoc
 mul_comm:=mul_comm
 mul_one f:=(congrArg (mul f) num1).trans (mul_one f)
 one_mul f:=(congrArg (λz=>mul z f) num1).trans ((mul_comm _ _).trans (mul_one f))
 left_distrib:=mul_add
 right_distrib:=add_mul
 zero_mul f:=by show mul (num 0) f=num 0;rw [num0,mul_comm,mul_zero]
 mul_zero f:=by show mul f (num 0)=num 0;rw [num0,mul_zero]
 pow_zero f:=num1.symm
 pow_succ f n:=rfl
 ofNat_succ n:=by
  show num ((n+1:Nat):Rat)=add (num (n:Rat)) (num 1)
  rw [<-O6];push_cast;rfl
 ofNat_eq_natCast n:=rfl
 nsmul_eq_natCast_mul n f:=rfl
 sub_eq_add_neg f g:=rfl
 neg_add_cancel f:=(LW f).trans num0.symm
 intCast_neg n:=by show num ((-n:Int):Rat)=neg (num (n:Rat));rw [<-LV];push_cast;rfl
 intCast_ofNat n:=rfl
 neg_zsmul n f:=by show mul (num ((-n:Int):Rat)) f=neg (mul (num (n:Rat)) f);rw [show ((-n:Int):Rat) = -(n:Rat) by push_cast;rfl,LV,neg_mul]
 zsmul_natCast_eq_nsmul n f:=rfl
noncomputable def L (a:List Rat):Sr:=⟨cvL a Ad⟩
def L_mul (a:List Rat) (g:Sr):L a*g=⟨cvL a g.c⟩:=ext' λk=>by
 refine Hy _ _ _ _ _ (λi b=>?_) (λ_ _=>rfl);rw [GG,sZ ⋯];exact Dx a i
def Bn (f:Sr) (n:Nat):Prop:=∀ k,n<=k->f.c k=0
def Bn.row {f:Sr} {n:Nat} (h:Bn f n):L (tr n f.c)=f:=ext' λk=>by
 show cvL (tr n f.c) Ad k=f.c k;rw [Dx,GG];by_cases hk:k<n
 ·rw [sZ hk]
 ·rw [sY hk,h k ⋯]
def Pol (f:Sr):Prop:=∃ a,f=L a
def Pol.L (a:List Rat):Pol (L a):=⟨a,rfl⟩
def Bn.pol {f:Sr} {n:Nat} (h:Bn f n):Pol f:=⟨_,h.row.symm⟩
def L_bn (a:List Rat):Bn (Sr.L a) a.length:=λk hk=>by
 show cvL a Ad k=0;rw [Dx,AO,Ba hk];rfl
def Pol.bn {f:Sr} (h:Pol f):∃ n,Bn f n:=let ⟨a,e⟩:=h;⟨a.length,e ▸ L_bn a⟩
def Pol.add {f g:Sr} (h:Pol f) (h':Pol g):Pol (f+g):=by
 obtain ⟨a,rfl⟩:=h;obtain ⟨b,rfl⟩:=h';exact ⟨Ap a b,ext' λk=>(Bm Ad a b k).symm⟩
def Pol.mul {f g:Sr} (h:Pol f) (h':Pol g):Pol (f*g):=by
 obtain ⟨a,rfl⟩:=h;obtain ⟨b,rfl⟩:=h';exact ⟨BC a b,by rw [L_mul];exact ext' λk=>(CG Ad a b k).symm⟩
theorem Pol.num (x:Rat):Pol (num x):=⟨[x],ext' λk=>by
 show x*Ad k=cvL [x] Ad k;cases k with
 | zero=>rw [A4];ext
 | succ k=>rw [Av,BF];ext⟩
def Pol.nat (n:Nat):Pol (OfNat.ofNat n:Sr):=Pol.num (n:Rat)
def Pol.neg {f:Sr} (h:Pol f):Pol (-f):=by
 have e:-f=Sr.num (-1)*f:=by
  have:Sr.num (-1)=(-1:Sr):=LV 1;rw [this];ext
 rw [e];exact (Pol.num _).mul h
def Pol.sub {f g:Sr} (h:Pol f) (h':Pol g):Pol (f - g):=by
 have e:f - g=f + -g:=by ext
 rw [e];exact h.add h'.neg
theorem Pol.pow {f:Sr} (h:Pol f):∀ n:Nat,Pol (f ^ n)
 | 0=>(num1 ▸ Pol.num 1:Pol one)
 | n+1=>(h.pow n).mul h
theorem top_ex {f:Sr}:∀ n,Bn f n->f=0\/∃ m,m<n/\f.c m≠0/\Bn f (m+1)
 | 0,h=>.inl (ext' λk=>by rw [h k (Aa _)];show 0=((0:Nat):Rat)*Ad k;push_cast;ext)
 | n+1,h=>by
   by_cases z:f.c n=0
   ·rcases top_ex n (λk hk=>by rcases Nat.eq_or_lt_of_le hk with e | e;exact e ▸ z;exact h k e) with q | ⟨m,c,a,b⟩
    ·exact .inl q
    ·exact .inr ⟨m,⋯,a,b⟩
   ·exact .inr ⟨n,⋯,z,h⟩
def zero_c (k:Nat):(0:Sr).c k=0:=by show ((0:Nat):Rat)*Ad k=0;push_cast;ext
def cancel {f g h:Sr} (c:Pol f) (d:Pol g) (j:Pol h) (o:h≠0) (e:f*h=g*h):f=g:=by
 obtain ⟨a,rfl⟩:=c;obtain ⟨b,rfl⟩:=d;obtain ⟨n,p⟩:=j.bn;rcases top_ex n p with z | ⟨m,_,q,r⟩
 ·exact absurd z o
 rw [L_mul,L_mul] at e;exact ext' λk=>Yh q (λi u=>r i u) (λk=>rJ (congrArg Sr.c e) k) Ad k
def ne_mul {f g:Sr} (a:Pol f) (b:Pol g) (c:f≠0) (d:g≠0):f*g≠0:=λe=>c (cancel a (Pol.nat 0) b d (by rw [e];ext))
noncomputable def X (n:Nat):Sr:=L (List.replicate n 0++[1])
def Jk (n:Nat) (g:Sr) (k:Nat):(X n*g).c k=if n<=k then g.c (k - n) else 0:=by
 unfold X;rw [L_mul];show cvL (List.replicate n 0++[1]) g.c k=_;rw [Gx];unfold Ax;by_cases h:n<=k
 ·rw [sZ h,sZ h];cases k - n with
  | zero=>rw [A4];ext
  | succ k=>rw [Av,BF];ext
 ·rw [sY h,sY h]
theorem num_mul (x:Rat) (g:Sr) (k:Nat):(num x*g).c k=x*g.c k:=by
 have:num x=L [x]:=ext' λk=>by
  show x*Ad k=cvL [x] Ad k;cases k with
  | zero=>rw [A4];ext
  | succ k=>rw [Av,BF];ext
 rw [this,L_mul];show cvL [x] g.c k=_;cases k with
 | zero=>rw [A4];ext
 | succ k=>rw [Av,BF];ext
def Yi (f g:Sr) (k:Nat):(f - g).c k=f.c k - g.c k:=by show f.c k + - g.c k=_;ext
theorem aV {g:Sr} {m:Nat} (a:g.c m≠0) (b:Bn g (m+1)):∀ (n:Nat) (f:Sr),Bn f n->∃ q r,Pol q/\Bn r m/\f=q*g+r
 | 0,f,h=>⟨0,f,Pol.nat 0,λk _=>h k (Aa _),()⟩
 | n+1,f,h=>by
   by_cases c:n+1<=m
   ·exact ⟨0,f,Pol.nat 0,λk hk=>h k ⋯,()⟩
   ·obtain ⟨q,r,d,i,e⟩:=aV a b n (f - num (f.c n*(g.c m)⁻¹)*(X (n - m)*g)) λk hk=>by
     rw [Yi,num_mul,Jk,sZ ⋯];rcases Nat.eq_or_lt_of_le hk with z | z
     ·rw [<-z,show n - (n - m)=m by omega];have:(g.c m)⁻¹*g.c m=1:=Ef _ a;ext
     ·rw [h k z,b (k - (n - m)) ⋯];ext
    exact ⟨q+num (f.c n*(g.c m)⁻¹)*X (n - m),r,d.add ((Pol.num _).mul (Pol.L _)),i,()⟩
theorem O7:∀ (n:Nat) (S T:Sr),Pol S->Bn T n->(S≠0\/T≠0)->∃ g r e U W,Pol g/\Pol r/\Pol e/\Pol U/\Pol W/\g≠0/\S=g*r/\T=g*e/\U*r+W*e=1:=by
 intro n
 induction n using Nat.strongRecOn with
 | _ n o=>
   intro S T b c h;by_cases z:T=0
   ·exact ⟨S,1,0,1,0,b,Pol.nat 1,Pol.nat 0,Pol.nat 1,Pol.nat 0,by rcases h with h | h;exact h;exact absurd z h,(),by rw [z];ext,()⟩
   ·rcases top_ex n c with q | ⟨m,p,u,v⟩
    ·exact absurd q z
    obtain ⟨a,rfl⟩:=b;obtain ⟨q,r,d,w,e⟩:=aV u v _ _ (L_bn a);obtain ⟨g,f,x,U,W,y,i,A,B,j,C,k,D,E⟩:=o m p T r c.pol w (.inl z);exact ⟨g,q*f+x,f,W,U - W*q,y,(d.mul i).add A,i,j,B.sub (j.mul d),C,by rw [e,k,D];ext,k,()⟩
noncomputable def D (f:Sr):Sr:=⟨λk=>((k:Rat)+1)*f.c (k+1)⟩
def O8 (f g:Sr):D (f+g)=D f+D g:=ext' λk=>by show ((k:Rat)+1)*(f.c (k+1)+g.c (k+1))=((k:Rat)+1)*f.c (k+1)+((k:Rat)+1)*g.c (k+1);ext
def D_num (x:Rat) (g:Sr):D (num x*g)=num x*D g:=ext' λk=>by
 rw [num_mul];show ((k:Rat)+1)*(num x*g).c (k+1)=x*(((k:Rat)+1)*g.c (k+1));rw [num_mul];ext
theorem D_X (g:Sr):D (X 1*g)=g+X 1*D g:=ext' λk=>by
 show ((k:Rat)+1)*(X 1*g).c (k+1)=g.c k+(X 1*D g).c k;rw [Jk,Jk,sZ ⋯];cases k with
 | zero=>rw [sY ⋯];push_cast;show ((0:Nat)+1)*g.c 0=_;push_cast;ext
 | succ k=>rw [sZ ⋯];show (((k+1:Nat):Rat)+1)*g.c (k+1)=g.c (k+1)+((k:Rat)+1)*g.c (k+1);push_cast;ext
theorem O9 (x:Rat) (a:List Rat):L (x::a)=num x+X 1*L a:=ext' λk=>by
 show cvL (x::a) Ad k=x*Ad k+(X 1*L a).c k;rw [Jk,Ff];cases k with
 | zero=>rw [sY ⋯];rfl
 | succ k=>rw [sZ ⋯];rfl
def Yj:D (L [])=0:=ext' λk=>by show ((k:Rat)+1)*cvL [] Ad (k+1)=_;rw [BF,zero_c];ext
def L_nil:L []=0:=ext' λk=>by rw [zero_c];rfl
def PB (x:Rat):D (num x)=0:=ext' λk=>by show ((k:Rat)+1)*(x*Ad (k+1))=_;rw [zero_c];show ((k:Rat)+1)*(x*0)=0;ext
theorem PC (g:Sr):∀ a:List Rat,D (L a*g)=D (L a)*g+L a*D g
 | []=>by
   have z:(0:Sr)=num 0:=rfl;rw [Yj,L_nil,z,D_num,<-z];ext
 | x::a=>by
   have b:=PC g a;have e:L (x::a)*g=num x*g+X 1*(L a*g):=by rw [O9];ext
   rw [e,O8,D_num,D_X,b,O9,O8,D_X,PB];ext
def D_mul {f:Sr} (b:Pol f) (g:Sr):D (f*g)=D f*g+f*D g:=by
 obtain ⟨a,rfl⟩:=b;exact PC g a
def LX {f:Sr} {n:Nat} (h:Bn f (n+1)):Bn (D f) n:=λk hk=>by show ((k:Rat)+1)*f.c (k+1)=0;rw [h (k+1) ⋯];ext
def Yk {f:Sr} {n:Nat} (h:f.c (n+1)≠0):D f≠0:=λe=>by
 have:=rJ (congrArg Sr.c e) n;rw [zero_c] at this;have this:((n:Rat)+1)*f.c (n+1)=0:=this;rcases B6.mp this with z | z
 ·have:((n:Rat)+1)=((n+1:Nat):Rat):=by push_cast;rfl
  rw [this] at z;have:n+1=0:=by exact_mod_cast z
  omega
 ·exact h z
def Pol.D {f:Sr} (h:Pol f):Pol (D f):=by
 obtain ⟨n,a⟩:=h.bn;exact Bn.pol (n:=n) (LX (n:=n) λk hk=>a k ⋯)
theorem rad_pow:∀ (n:Nat) (S R c:Sr),Bn S n->S≠0->Pol R->Pol c->D S*R=c*S->∃ (m:Nat) (a:Sr),Pol a/\R ^ m=a*S:=by
 intro n
 induction n using Nat.strongRecOn with
 | _ n G=>
   intro S R c bS x h y e;rcases top_ex n bS with z | ⟨m,Z,A,f⟩
   ·exact absurd z x
   cases m with
   | zero=>
     refine ⟨0,num (S.c 0)⁻¹,Pol.num _,ext' λk=>?_⟩;rw [num_mul];have d:(R ^ 0).c k=Ad k:=rfl;rw [d];cases k with
     | zero=>show 1=_;have:(S.c 0)⁻¹*S.c 0=1:=Ef _ A;ext
     | succ k=>show 0=_;rw [f (k+1) ⋯];ext
   | succ m=>
     obtain ⟨g,r,d,U,W,j,B,o,H,I,p,u,v,J⟩:=O7 _ S (D S) f.pol (LX f) (.inl x);have sR:d*R=c*r:=cancel (o.mul h) (y.mul B) j p (by rw [v,u] at e;ext)
     have w:R=(U*R+W*c)*r:=by
      have:R=(U*r+W*d)*R:=by rw [J];ext
      ext
     have C:Pol (U*R+W*c):=(H.mul h).add (I.mul y)
     have K:D g*r=g*(d - D r):=by
      have:=D_mul j r;rw [<-u,v] at this;ext
     have O:D g*R=(d - D r)*(U*R+W*c)*g:=by
      have:D g*R=D g*r*(U*R+W*c):=by generalize U*R+W*c=t at w;rw [w];ext
      rw [this,K];ext
     obtain ⟨N,P⟩:=j.bn;obtain ⟨t,_,Q,F⟩:=(top_ex N P).resolve_left p
     have tm:t<=m:=by
      rcases BN m t with q | q
      ·exfalso;obtain ⟨E,rfl⟩:=o;have b:D S=L E*g:=by rw [v];ext
       rw [L_mul] at b;refine Yk A (ext' λk=>?_);rw [b,zero_c]
       exact Ji E (LS Q (λi T=>F i T) E λk hk=>by
        exact (rJ (congrArg Sr.c b) k).symm.trans (LX f k ⋯)) k
      ·exact q
     obtain ⟨M,a,X,Y⟩:=G (t+1) ⋯ g R _ F p h ((o.sub B.D).mul C) O;refine ⟨M+1,a*(U*R+W*c),X.mul C,?_⟩;have:R ^ (M+1)=R ^ M*R:=rfl;rw [this,Y,u];have:a*(U*R+W*c)*(g*r)=a*g*((U*R+W*c)*r):=by ext
     rw [this,<-w]
def Cs (f g:Sr):Prop:=∃ U W,Pol U/\Pol W/\U*f+W*g=1
def Hz (f:Sr) (n:Nat):f ^ (n+1)=f ^ n*f:=rfl
def IA (f:Sr):f ^ 0=1:=num1.symm
def Yl:(1:Sr)≠0:=λh=>by
 have:=rJ (congrArg Sr.c h) 0;rw [zero_c] at this;have this:((1:Nat):Rat)*Ad 0=0:=this;have e:(Ad 0:Rat)=1:=rfl;rw [e] at this;push_cast at this;ext
theorem PD {f:Sr} (a:Pol f) (b:f≠0):∀ n:Nat,f ^ n≠0
 | 0=>by rw [IA];exact Yl
 | n+1=>by rw [Hz];exact ne_mul (a.pow n) a (PD a b n) b
theorem PF {d:Sr} (a:Pol d):∀ n:Nat,d*D (d ^ n)=num (n:Rat)*d ^ n*D d
 | 0=>by
   rw [IA,show D 1=0 from PB _];show d*0=num ((0:Nat):Rat)*1*D d;rw [show num ((0:Nat):Rat)=0 from rfl];ext
 | n+1=>by
   rw [Hz,D_mul (a.pow n),show num ((n+1:Nat):Rat)=num (n:Rat)+1 by rw [show ((n+1:Nat):Rat)=(n:Rat)+((1:Nat):Rat) by push_cast;rfl,O6];rfl];have h:=PF a n;ext
theorem PH {b:dP} {d:Nat} (h:∀ k,d<k->b k=0):∀ (a:List Rat) (k:Nat),d+a.length<=k->cvL a b k=0
 | [],_,_=>rfl
 | x::a,0,hk=>by simp at hk
 | x::a,k+1,hk=>by
   rw [Av,PH h a k (by simp at hk;omega),h (k+1) (by simp at hk;omega)];ext
def top_mul {f g:Sr} {m n:Nat} (b:Bn f (m+1)) (h:Bn g (n+1)):(f*g).c (m+n)=f.c m*g.c n/\Bn (f*g) (m+n+1):=by
 have c:∀ (a:List Rat) (k:Nat),n+a.length<=k->cvL a g.c k=0:=PH λk hk=>h k hk;rw [<-b.row,L_mul];refine ⟨?_,λk hk=>c _ k (by unfold tr;rw [AJ,BI];omega)⟩;show cvL (tr (m+1) f.c) g.c (m+n)=_;have e:tr (m+1) f.c=tr m f.c++[f.c m]:=by unfold tr;rw [List.range_succ,DC];rfl
 have d:(tr m f.c).length=m:=by unfold tr;rw [AJ,BI]
 rw [e,DQ,c (tr m f.c) _ (by rw [d];omega),d];unfold Ax;rw [sZ ⋯,show m+n - m=n by omega]
 have z:(L (tr m f.c++[f.c m])).c m=f.c m:=by
  rw [<-e];exact rJ (congrArg Sr.c b.row) m
 rw [z];ext
def Ym {d g:Sr} (u:Pol d) (v:Pol g) (i:g≠0) (h:∀ k:Nat,∃ q,Pol q/\g=d ^ k*q):∃ x:Rat,x≠0/\d=num x:=by
 obtain ⟨n,w⟩:=u.bn;obtain ⟨N,y⟩:=v.bn;rcases top_ex n w with z | ⟨m,_,o,p⟩
 ·obtain ⟨q,_,e⟩:=h 1;exact absurd (by rw [e,Hz,IA,z];ext) i
 rcases DS m with z | A
 ·subst z;refine ⟨d.c 0,o,ext' λk=>?_⟩;show d.c k=d.c 0*Ad k;cases k with
  | zero=>show _=d.c 0*1;ext
  | succ k=>rw [p (k+1) ⋯];show (0:Rat)=d.c 0*0;ext
 exfalso
 have f:∀ (k:Nat) (q:Sr),Pol q->q≠0->∃ j,k*m<=j/\(d ^ k*q).c j≠0/\Bn (d ^ k*q) (j+1):=λk=>by
  induction k with
  | zero=>
    intro q a b;obtain ⟨r,B⟩:=a.bn;rcases top_ex r B with z | ⟨j,_,C,D⟩
    ·exact absurd z b
    ·refine ⟨j,⋯,?_⟩;rw [IA,show (1:Sr)*q=q by grind];exact ⟨C,D⟩
  | succ k E=>
    intro q a b;obtain ⟨j,F,c,G⟩:=E q a b;obtain ⟨H,I⟩:=top_mul p G;rw [show d ^ (k+1)*q=d*(d ^ k*q) by rw [Hz];grind];refine ⟨m+j,by rw [Nat.succ_mul];omega,?_,I⟩;rw [H];intro z;rcases B6.mp z with z | z
    ·exact o z
    ·exact c z
 obtain ⟨q,a,e⟩:=h (N+1);have b:q≠0:=λz=>i (by rw [e,z];ext);obtain ⟨j,F,c,_⟩:=f (N+1) q a b;rw [<-e] at c;refine c (y j ?_);have:(N+1)*1<=(N+1)*m:=CD _ A;omega
def Cs.of_unit {f g d U W:Sr} {x:Rat} (a:x≠0) (e:d=num x) (b:Pol U) (c:Pol W) (h:U*f+W*g=d):Cs f g:=by
 refine ⟨num (x⁻¹)*U,num (x⁻¹)*W,(Pol.num _).mul b,(Pol.num _).mul c,?_⟩
 have i:num (x⁻¹)*num x=1:=ext' λk=>by
  rw [num_mul];show x⁻¹*(x*Ad k)=_;have:x⁻¹*x=1:=Ef _ a;show _=((1:Nat):Rat)*Ad k;push_cast;ext
 rw [e] at h;ext
def simple_cop {f g l m:Sr} (o:Pol g) (p:Pol l) (pm:Pol m) (E:f≠0) (u:f=g*l) (H:D f=g*m) (c:Cs l m):Cs l (D l):=by
 have I:g≠0:=λz=>E (by rw [u,z];ext);have J:l≠0:=λz=>E (by rw [u,z];ext);obtain ⟨n,K⟩:=p.D.bn;obtain ⟨d,r,e,U,W,a,i,F,L,M,N,j,v,Y⟩:=O7 n l (D l) p K (.inl J);obtain ⟨w,y,A,B,G⟩:=c
 have O:D g*l=g*(m - D l):=by
  have:=D_mul o l;rw [<-u,H] at this;ext
 have P:D d*r=d*(e - D r):=by
  have:=D_mul a r;rw [<-j,v] at this;ext
 have dv:∀ k:Nat,∃ q,Pol q/\g=d ^ k*q:=λk=>by
  induction k with
  | zero=>exact ⟨g,o,by rw [IA];ext⟩
  | succ k Q=>
    obtain ⟨h,b,C⟩:=Q
    have R:d*D g=d ^ k*(num (k:Rat)*D d*h+d*D h):=by
     rw [C,D_mul (a.pow k)];have:=PF a k;ext
    have Z:d ^ k*((num (k:Rat)*D d*h+d*D h)*r)=d ^ k*(h*(m - D l)):=by
     have:d*D g*r=g*(m - D l):=by
      rw [<-O,show D g*l=D g*(d*r) from congrArg _ j];ext
     rw [R] at this;rw [C] at this;ext
    have S:(num (k:Rat)*D d*h+d*D h)*r=h*(m - D l):=
     cancel ((((Pol.num _).mul a.D).mul b |>.add (a.mul b.D)).mul i) (b.mul (pm.sub p.D)) (a.pow k) (PD a N k) ()
    have a4:h*m=d*(num (k:Rat)*h*(e - D r)+D h*r+h*e):=by
     rw [v] at S;have:num (k:Rat)*D d*h*r=num (k:Rat)*h*(d*(e - D r)):=by rw [<-P];ext
     ext
    refine ⟨h*w*r+y*(num (k:Rat)*h*(e - D r)+D h*r+h*e),((b.mul A).mul i).add (B.mul ((((Pol.num _).mul b).mul (F.sub i.D) |>.add (b.D.mul i)).add (b.mul F))),?_⟩
    have a5:h=d*(h*w*r+y*(num (k:Rat)*h*(e - D r)+D h*r+h*e)):=by
     rw [j] at G;have:h=h*(w*(d*r)+y*m):=by rw [G];ext
     ext
    rw [Hz,C];ext
 obtain ⟨x,T,X⟩:=Ym a o I dv;exact Cs.of_unit T X L M (by rw [v,show U*l=U*(d*r) from congrArg _ j];ext)
noncomputable def ev:List Rat->Rat->Rat
 | [],_=>0
 | a::l,x=>a+x*ev l x
theorem LY:∀ (l:List Rat) (x:Rat),(∀ k,l.getD k 0=0)->ev l x=0
 | [],_,_=>rfl
 | a::l,x,h=>by
   have b:a=0:=h 0;show a+x*ev l x=0;rw [b,LY l x λk=>by have:=h (k+1);rw [List.getD_cons_succ] at this;exact this];ext
theorem Z':∀ (a b:List Rat) (x:Rat),(∀ k,a.getD k 0=b.getD k 0)->ev a x=ev b x
 | [],b,x,h=>(LY b x λk=>(h k).symm.trans (by simp)).symm
 | a::l,[],x,h=>LY (a::l) x λk=>(h k).trans (by simp)
 | a::l,b::m,x,h=>by
   have c:a=b:=h 0;show a+x*ev l x=b+x*ev m x;rw [c,Z' l m x λk=>by have:=h (k+1);rw [List.getD_cons_succ,List.getD_cons_succ] at this;exact this]
def ev_congr {a b:List Rat} (h:L a=L b) (x:Rat):ev a x=ev b x:=Z' a b x λk=>by rw [<-Dx,<-Dx];exact rJ (congrArg Sr.c h) k
theorem ev_add:∀ (a b:List Rat) (x:Rat),ev (Ap a b) x=ev a x+ev b x
 | [],b,x=>by show ev b x=0+ev b x;ext
 | a::l,[],x=>by rw [JW];show _=_+0;ext
 | a::l,b::m,x=>by
   show (a+b)+x*ev (Ap l m) x=a+x*ev l x+(b+x*ev m x);rw [ev_add l m x];ext
theorem ev_scal (c:Rat):∀ (a:List Rat) (x:Rat),ev (a.map (c*·)) x=c*ev a x
 | [],x=>by show (0:Rat)=c*0;ext
 | a::l,x=>by
   show c*a+x*ev (l.map (c*·)) x=c*(a+x*ev l x);rw [ev_scal c l x];ext
theorem ev_mul:∀ (a b:List Rat) (x:Rat),ev (BC a b) x=ev a x*ev b x
 | [],b,x=>by show (0:Rat)=0*_;ext
 | a::l,b,x=>by
   show ev (Ap (b.map (a*·)) (0::BC l b)) x=(a+x*ev l x)*ev b x;rw [ev_add,ev_scal];show a*ev b x+(0+x*ev (BC l b) x)=_;rw [ev_mul l b x];ext
def L_add (a b:List Rat):L (Ap a b)=L a+L b:=ext' λk=>Bm Ad a b k
def L_scal (s:Rat) (a:List Rat):L (a.map (s*·))=num s*L a:=ext' λk=>by rw [num_mul];exact BG s Ad a k
def L_mulRow (a b:List Rat):L (BC a b)=L a*L b:=by rw [L_mul];exact ext' λk=>CG Ad a b k
theorem num_L (x:Rat):num x=L [x]:=ext' λk=>by
 show x*Ad k=cvL [x] Ad k;cases k with
 | zero=>rw [A4];ext
 | succ k=>rw [Av,BF];ext
def num_num (x y:Rat):num x*num y=num (x*y):=ext' λk=>by
 rw [num_mul];show x*(y*Ad k)=x*y*Ad k;ext
def num_one:num 1=1:=congrArg num (show (1:Rat)=((1:Nat):Rat) by push_cast;rfl)
def num_inv {x:Rat} (h:x≠0):num x⁻¹*num x=1:=by
 rw [num_num,Ef _ h];exact num_one
end Sr
noncomputable def Cn (f:Rat->Rat) (b:Rat):Nat->Rat->Prop
 | 0,x=>x<b/\f x≠0
 | k+1,x=>x<b/\∃ y,x<y/\f x*f y<0/\Cn f b k y
noncomputable def Cs (f:Rat->Rat) (b s:Rat):Nat->Rat->Prop
 | 0,x=>x<b/\0<f x*s
 | k+1,x=>x<b/\∃ y,x<y/\f x*f y<0/\Cs f b s k y
def AltN (f:Rat->Rat) (a b:Rat) (k:Nat):Prop:=∃ x,a<x/\Cn f b k x
def IsN (f:Rat->Rat) (a b:Rat) (k:Nat):Prop:=AltN f a b k/\¬ AltN f a b (k+1)
def N' (a b:Rat):a<b\/a=b\/b<a:=by
 rcases (BE:a<=b\/b<=a) with c | c
 ·rcases Fs.mp c with d | d
  ·exact .inl d
  ·exact .inr (.inl d)
 ·rcases Fs.mp c with d | d
  ·exact .inr (.inr d)
  ·exact .inr (.inl d.symm)
def mul_neg_iff' {a b:Rat}:a*b<0↔(0<a/\b<0)\/(a<0/\0<b):=by
 constructor
 ·intro h;rcases N' (a) 0 with c | c | c
  ·refine .inr ⟨c,CV.mp λz=>?_⟩;have:=Ab (show 0<=-a by ext) (show 0<=-b by ext);ext
  ·rw [c] at h;ext
  ·refine .inl ⟨c,CV.mp λz=>?_⟩;have:=Ab (show 0<=a by ext) z;ext
 ·rintro (⟨d,e⟩ | ⟨d,e⟩)
  ·have:=Ar d (show 0 < -b by ext);ext
  ·have:=Ar (show 0 < -a by ext) e;ext
def mul_pos_iff' {a b:Rat}:0<a*b↔(0<a/\0<b)\/(a<0/\b<0):=by
 have h:=mul_neg_iff' (a:=a) (b:=-b);have e:a * -b<0↔0<a*b:=by constructor <;> intro h <;> ext
 rw [<-e,h];constructor
 ·rintro (⟨c,d⟩ | ⟨c,d⟩)
  ·exact .inl ⟨c,()⟩
  ·exact .inr ⟨c,()⟩
 ·rintro (⟨c,d⟩ | ⟨c,d⟩)
  ·exact .inl ⟨c,()⟩
  ·exact .inr ⟨c,()⟩
theorem Cn.lt {f:Rat->Rat} {b x:Rat}:∀ {k:Nat},Cn f b k x->x<b
 | 0,h=>h.1
 | _+1,h=>h.1
theorem Cn.ne {f:Rat->Rat} {b x:Rat}:∀ {k:Nat},Cn f b k x->f x≠0
 | 0,h=>h.2
 | _+1,⟨_,y,_,h,_⟩=>λz=>by rw [z] at h;ext
theorem Cn.less {f:Rat->Rat} {b:Rat}:∀ {k:Nat} {x:Rat},Cn f b (k+1) x->Cn f b k x
 | 0,x,h=>⟨h.1,h.ne⟩
 | k+1,x,⟨a,y,c,d,e⟩=>⟨a,y,c,d,e.less⟩
theorem Cs.cn {f:Rat->Rat} {b s:Rat}:∀ {k:Nat} {x:Rat},Cs f b s k x->Cn f b k x
 | 0,x,⟨a,c⟩=>⟨a,λz=>by rw [z] at c;ext⟩
 | k+1,x,⟨a,y,c,d,e⟩=>⟨a,y,c,d,e.cn⟩
theorem Cn.cs {f:Rat->Rat} {b s:Rat} (e:s≠0):∀ {k:Nat} {x:Rat},Cn f b k x->Cs f b s k x\/Cs f b (-s) k x
 | 0,x,⟨a,d⟩=>by
   have:0<f x*s\/0<f x * -s:=by
    rcases N' (f x*s) 0 with c | c | c
    ·exact .inr ()
    ·rcases B6.mp c with z | z
     ·exact absurd z d
     ·exact absurd z e
    ·exact .inl c
   rcases this with c | c
   ·exact .inl ⟨a,c⟩
   ·exact .inr ⟨a,c⟩
 | k+1,x,⟨a,y,d,g,h⟩=>by
   rcases h.cs e with c | c
   ·exact .inl ⟨a,y,d,g,c⟩
   ·exact .inr ⟨a,y,d,g,c⟩
theorem AltN.less {f:Rat->Rat} {a b:Rat} {k j:Nat} (h:AltN f a b k) (l:j<=k):AltN f a b j:=by
 induction k with
 | zero=>rw [show j=0 by omega];exact h
 | succ k d=>
   rcases BN j (k+1) with c | c
   ·obtain ⟨x,e,g⟩:=h;exact d ⟨x,e,g.less⟩ ⋯
   ·rw [show j=k+1 by omega];exact h
def IsN.uniq {f:Rat->Rat} {a b:Rat} {k j:Nat} (h:IsN f a b k) (h':IsN f a b j):k=j:=by
 rcases Nat.lt_trichotomy k j with c | c | c
 ·exact absurd (h'.1.less (show k+1<=j by omega)) h.2
 ·exact c
 ·exact absurd (h.1.less (show j+1<=k by omega)) h'.2
def IsN.le {f:Rat->Rat} {a b x:Rat} {k j:Nat} (h:IsN f a b k) (d:a<x) (c:Cn f b j x):j<=k:=by
 refine DU.mp λz=>h.2 (AltN.less ⟨x,d,c⟩ (show k+1<=j by omega))
def cB (f:Rat->Rat) (m s:Rat):Prop:=∃ a,0<a/\∀ x,m - a<x->x<m->0<f x*s
def cD (f:Rat->Rat) (m s:Rat):Prop:=∃ a,0<a/\∀ x,m<x->x<m+a->0<f x*s
def cY {a b s:Rat} (c:0<a * -s) (d:0<b*s):a*b<0:=by
 rw [mul_neg_iff'];rcases mul_pos_iff'.mp c with ⟨x,y⟩ | ⟨x,y⟩ <;> rcases mul_pos_iff'.mp d with ⟨z,w⟩ | ⟨z,w⟩
 ·ext
 ·exact .inl ⟨x,z⟩
 ·exact .inr ⟨x,z⟩
 ·ext
def aH {a b s:Rat} (c:0<a*s) (d:0<b*s):0<a*b:=by
 rw [mul_pos_iff'];rcases mul_pos_iff'.mp c with ⟨x,y⟩ | ⟨x,y⟩ <;> rcases mul_pos_iff'.mp d with ⟨z,w⟩ | ⟨z,w⟩
 ·exact .inl ⟨x,z⟩
 ·ext
 ·ext
 ·exact .inr ⟨x,z⟩
theorem Cs.ext {f:Rat->Rat} {m s:Rat} (g:cB f m s):∀ {k:Nat} {x:Rat},Cs f m (-s) k x->Cn f m (k+1) x
 | 0,x,⟨b,d⟩=>by
   obtain ⟨a,o,g⟩:=g
   obtain ⟨y,h,i,e⟩:∃ y,x<y/\m - a<y/\y<m:=by
    rcases (BE:x<=m - a\/m - a<=x) with c | c
    ·exact ⟨m - a / 2,(),(),()⟩
    ·exact ⟨(x+m) / 2,(),(),()⟩
   have q:=g y i e;exact ⟨b,y,h,cY d q,e,λz=>by rw [z] at q;ext⟩
 | k+1,x,⟨b,y,d,j,n⟩=>⟨b,y,d,j,n.ext g⟩
def Cn.pre {f:Rat->Rat} {m b s x:Rat} (g:cD f m s) (mx:m<x) {k:Nat} (h:Cn f b k x) (i:0<f x * -s):∃ y,m<y/\y<x/\Cn f b (k+1) y:=by
 obtain ⟨a,n,g⟩:=g;have o:=h.lt
 obtain ⟨y,d,e,j⟩:∃ y,m<y/\y<x/\y<m+a:=by
  rcases (BE:x<=m+a\/m+a<=x) with c | c
  ·exact ⟨(m+x) / 2,(),(),()⟩
  ·exact ⟨m+a / 2,(),(),()⟩
 have q:=g y d j;refine ⟨y,d,e,(),x,e,?_,h⟩;have:=cY i q;ext
def Cn.first {f:Rat->Rat} {b s x:Rat} (a:s≠0) {k:Nat} (h:Cn f b k x):0<f x*s\/0<f x * -s:=by
 have n:=h.ne;rcases N' (f x*s) 0 with c | c | c
 ·exact .inr ()
 ·rcases B6.mp c with z | z
  ·exact absurd z n
  ·exact absurd z a
 ·exact .inl c
theorem Cs.joinU {f:Rat->Rat} {m b s y:Rat} (e:m<=b) (g:m<=y) {l:Nat} (c:Cn f b l y) (d:0<f y * -s):∀ {k:Nat} {x:Rat},Cs f m s k x->Cn f b (k+1+l) x
 | 0,x,⟨h,a⟩=>by
   rw [show 0+1+l=l+1 by omega];exact ⟨(),y,(),by have:=cY d a;ext,c⟩
 | k+1,x,⟨h,z,a,i,j⟩=>by
   rw [show k+1+1+l=(k+1+l)+1 by omega];exact ⟨(),z,a,i,j.joinU e g c d⟩
theorem Cs.joinL {f:Rat->Rat} {m b s y:Rat} (g:m<=b) (h:m<=y) {l:Nat} (d:Cn f b l y) (e:0<f y*s):∀ {k:Nat} {x:Rat},Cs f m s k x->Cn f b (k+l) x
 | 0,x,⟨i,c⟩=>by
   rw [show 0+l=l by omega];cases l with
   | zero=>exact ⟨(),λz=>by rw [z] at c;ext⟩
   | succ l=>
     obtain ⟨q,z,r,j,n⟩:=d;refine ⟨(),z,(),?_,n⟩;have a:=aH c e;rw [mul_neg_iff'] at j ⊢;rcases mul_pos_iff'.mp a with ⟨u,v⟩ | ⟨u,v⟩ <;> ext
 | k+1,x,⟨i,z,c,o,p⟩=>by
   rw [show k+1+l=(k+l)+1 by omega];exact ⟨(),z,c,o,p.joinL g h d e⟩
theorem Cn.part {f:Rat->Rat} {m b s:Rat} (g:s≠0):∀ {K:Nat} {x:Rat},x<m->Cn f b K x->Cn f m K x\/∃ (j l:Nat) (y t:Rat),K=j+1+l/\(t=s\/t = -s)/\Cs f m t j x/\m<=y/\0<f y * -t/\Cn f b l y
 | 0,x,d,h=>.inl ⟨d,h.2⟩
 | K+1,x,d,⟨n,y,o,i,a⟩=>by
   rcases (BE:m<=y\/y<=m) with c | c
   ·have:0<f x*s\/0<f x * -s:=Cn.first (b:=b) (k:=0) g ⟨n,λz=>by rw [z] at i;ext⟩;rcases this with q | q
    ·refine .inr ⟨0,K,y,s,⋯,.inl rfl,⟨d,q⟩,c,?_,a⟩;rcases a.first g with r | r
     ·have:=aH q r;ext
     ·exact r
    ·refine .inr ⟨0,K,y,-s,⋯,.inr rfl,⟨d,q⟩,c,?_,a⟩;rcases a.first g with r | r
     ·ext
     ·have:=aH q r;ext
   ·by_cases e:y=m
    ·have:0<f x*s\/0<f x * -s:=Cn.first (b:=b) (k:=0) g ⟨n,λz=>by rw [z] at i;ext⟩;rcases this with q | q
     ·refine .inr ⟨0,K,y,s,⋯,.inl rfl,⟨d,q⟩,(),?_,a⟩;rcases a.first g with r | r
      ·have:=aH q r;ext
      ·exact r
     ·refine .inr ⟨0,K,y,-s,⋯,.inr rfl,⟨d,q⟩,(),?_,a⟩;rcases a.first g with r | r
      ·ext
      ·have:=aH q r;ext
    ·rcases a.part (m:=m) g () with r | ⟨j,l,w,t,C,p,u,v,A,B⟩
     ·exact .inl ⟨d,y,o,i,r⟩
     ·exact .inr ⟨j+1,l,w,t,⋯,p,⟨d,y,o,i,u⟩,v,A,B⟩
def IsN.join {f:Rat->Rat} {a m b:Rat} {n i:Nat} (W:a<m) (X:m<b) (o:IsN f a m n) (A:IsN f m b i) (C:f m≠0) (D:cB f m (f m)) (F:cD f m (f m)):IsN f a b (n+i):=by
 have G:∀ x,a<x->Cn f m n x->Cs f m (f m) n x:=λx d h=>by
  rcases h.cs C with c | c
  ·exact c
  ·have:=o.le d (c.ext D);omega
 have H:∀ y,m<y->Cn f b i y->0<f y*f m:=λy u h=>by
  rcases h.first C with c | c
  ·exact c
  ·obtain ⟨z,K,_,L⟩:=h.pre F u c;have:=A.le K L;omega
 constructor
 ·obtain ⟨x,d,g⟩:=o.1;obtain ⟨y,u,I⟩:=A.1;exact ⟨x,d,(G x d g).joinL () () I (H y u I)⟩
 ·rintro ⟨x,d,g⟩;have Y:0<f m*f m:=by rw [mul_pos_iff'];rcases N' (f m) 0 with c | c | c <;> ext
  have k:∀ l,Cn f b l m->l<=i:=λl hl=>by
   cases l with
   | zero=>omega
   | succ l=>
     obtain ⟨Z,z,M,q3,N⟩:=hl;obtain ⟨w,O,_,P⟩:=N.pre (s:=f m) F M ();exact A.le O P
  rcases (BE:m<=x\/x<=m) with c | c
  ·have:n+i+1<=i:=by
    by_cases e:x=m
    ·rw [e] at g;exact k _ g
    ·exact A.le () g
   omega
  ·by_cases e:x=m
   ·rw [e] at g;have:=k _ g;omega
   ·rcases g.part (m:=m) (s:=f m) C () with r | ⟨j,l,y,t,e1,J,v,e4,E,B⟩
    ·have:=o.le d r;omega
    ·have j1:=o.le d v.cn;by_cases Q:y=m
     ·rw [Q] at E B;have R:=k _ B
      have S:t = -f m:=by rcases J with z | z;·rw [z] at E;ext
                          ·exact z
      rw [S] at v;have:=o.le d (v.ext D);omega
     ·have u:m<y:=by ext
      have R:=A.le u B;have T:j=n:=by omega
      have U:l=i:=by omega
      subst T U;have p:=H y u B;have q:=G x d v.cn;rcases J with z | z
      ·rw [z] at E;ext
      ·rw [z] at v;have:=o.le d (v.ext D);omega
def IsN.join0 {f:Rat->Rat} {a m b s:Rat} {i o:Nat} (J:a<m) (K:m<b) (k:IsN f a m i) (n:IsN f m b o) (q:f m=0) (u:s≠0) (C:cB f m (-s)) (D:cD f m s):IsN f a b (i+1+o):=by
 have E:∀ x,a<x->Cn f m i x->Cs f m (-s) i x:=λx d h=>by
  rcases h.cs (s:=-s) () with c | c
  ·exact c
  ·have:=k.le d (c.ext C);omega
 have F:∀ y,m<y->Cn f b o y->0<f y*s:=λy p h=>by
  rcases h.first u with c | c
  ·exact c
  ·obtain ⟨z,G,_,H⟩:=h.pre D p c;have:=n.le G H;omega
 constructor
 ·obtain ⟨x,d,g⟩:=k.1;obtain ⟨y,p,v⟩:=n.1;exact ⟨x,d,(E x d g).joinU () () v (by have:=F y p v;ext)⟩
 ·rintro ⟨x,d,g⟩;have w:=g.ne;have L:x≠m:=λe=>by rw [e] at w;exact w q
  rcases (BE:m<=x\/x<=m) with c | c
  ·have:=n.le () g;omega
  ·rcases g.part (m:=m) u () with r | ⟨j,l,y,t,M,N,I,O,P,A⟩
   ·have:=k.le d r;omega
   ·have Q:=k.le d I.cn;have B:=A.ne;have R:y≠m:=λe=>by rw [e] at B;exact B q
    have S:=n.le (show m<y by ext) A;omega
noncomputable def Pn:Nat->(Rat->Rat)->Prop
 | 0,f=>∃ c,∀ t,f t=c
 | n+1,f=>∃ a g,Pn n g/\∀ t,f t=a+t*g t
theorem Pn.up:∀ {n:Nat} {f:Rat->Rat},Pn n f->Pn (n+1) f
 | 0,f,⟨c,h⟩=>⟨c,λ_=>0,⟨0,λ_=>rfl⟩,λt=>by rw [h];ext⟩
 | n+1,f,⟨a,g,b,d⟩=>⟨a,g,b.up,d⟩
theorem Pn.add:∀ {n:Nat} {f g:Rat->Rat},Pn n f->Pn n g->Pn n (λt=>f t+g t)
 | 0,f,g,⟨c,h⟩,⟨d,e⟩=>⟨c+d,λt=>by show f t+g t=_;rw [h,e]⟩
 | n+1,f,g,⟨a,u,i,j⟩,⟨b,v,k,m⟩=>⟨a+b,_,i.add k,λt=>by show f t+g t=_;rw [j,m];ext⟩
theorem Pn.scale (c:Rat):∀ {n:Nat} {f:Rat->Rat},Pn n f->Pn n (λt=>c*f t)
 | 0,f,⟨d,h⟩=>⟨c*d,λt=>by show c*f t=_;rw [h]⟩
 | n+1,f,⟨a,u,b,e⟩=>⟨c*a,_,b.scale c,λt=>by show c*f t=_;rw [e];ext⟩
def Pn.congr {n:Nat} {f g:Rat->Rat} (h:Pn n f) (e:∀ t,f t=g t):Pn n g:=by
 have:f=g:=funext e;rw [<-this];exact h
theorem Pn.quot:∀ {n:Nat} {f:Rat->Rat},Pn (n+1) f->∀ r,∃ g,Pn n g/\∀ t,f t - f r=(t - r)*g t
 | 0,f,⟨a,u,⟨c,b⟩,d⟩,r=>⟨λ_=>c,⟨c,λ_=>rfl⟩,λt=>by rw [d,d,b,b];ext⟩
 | n+1,f,⟨a,u,b,d⟩,r=>by
   obtain ⟨g,h,i⟩:=b.quot r;refine ⟨λt=>u t+r*g t,b.add (h.scale r).up,λt=>?_⟩;have:=i t;rw [d,d];have e:u t=u r+(t - r)*g t:=by ext
   rw [e];ext
theorem Pn.bound:∀ {n:Nat} {f:Rat->Rat},Pn n f->∀ R,0<=R->∃ B,0<=B/\∀ t,-R<=t->t<=R->-B<=f t/\f t<=B
 | 0,f,⟨c,h⟩,R,b=>by
   rcases (BE:0<=c\/c<=0) with z | z
   ·exact ⟨c,z,λt _ _=>by rw [h];ext⟩
   ·exact ⟨-c,(),λt _ _=>by rw [h];ext⟩
 | n+1,f,⟨a,u,j,k⟩,R,b=>by
   obtain ⟨B,d,m⟩:=j.bound R b;have y:=Ab b d
   obtain ⟨A,C,o,q⟩:∃ A,0<=A/\a<=A/\-a<=A:=by
    rcases (BE:0<=a\/a<=0) with z | z
    ·exact ⟨a,z,(),()⟩
    ·exact ⟨-a,(),(),()⟩
   refine ⟨A+R*B,(),λt r e=>?_⟩;obtain ⟨g,i⟩:=m t r e
   have p:-(R*B)<=t*u t/\t*u t<=R*B:=by
    rcases (BE:0<=t\/t<=0) with z | z
    ·have v:=AR g z;have w:=AR i z;have x:=A9 e d;constructor <;> ext
    ·have v:=AR g (show 0<=-t by ext);have w:=AR i (show 0<=-t by ext);have x:=A9 (show -t<=R by ext) d;constructor <;> ext
   rw [k];constructor <;> ext
theorem Pn.lip {n:Nat} {f:Rat->Rat} (h:Pn n f) (R:Rat) (d:0<=R):∃ L,0<=L/\∀ s t,-R<=s->s<=t->t<=R->f t - f s<=L*(t - s)/\f s - f t<=L*(t - s):=by
 induction n generalizing f with
 | zero=>
   obtain ⟨c,h⟩:=h;exact ⟨0,(),λs t _ _ _=>by rw [h,h];constructor <;> ext⟩
 | succ n r=>
   obtain ⟨a,u,g,i⟩:=h;obtain ⟨B,H,v⟩:=g.bound R d;obtain ⟨L,j,w⟩:=r g;have I:=Ab d j;refine ⟨B+R*L,(),λs t x y k=>?_⟩;obtain ⟨m,o⟩:=w s t x y k;obtain ⟨A,C⟩:=v t () k;have b:0<=t - s:=by ext
   have e:f t - f s=(t - s)*u t+s*(u t - u s):=by rw [i,i];ext
   have J:=AR A b;have K:=AR C b;have q:=Ab j b
   have p:-(R*(L*(t - s)))<=s*(u t - u s)/\s*(u t - u s)<=R*(L*(t - s)):=by
    rcases (BE:0<=s\/s<=0) with z | z
    ·have D:=AR m z;have E:=AR o z;have F:=A9 (show s<=R by ext) q;constructor <;> ext
    ·have D:=AR m (show 0<=-s by ext);have E:=AR o (show 0<=-s by ext);have F:=A9 (show -s<=R by ext) q;constructor <;> ext
   have G:f s - f t = -(f t - f s):=by ext
   rw [G,e];constructor <;> ext
def Yn (k:Nat):∃ h:Rat,0<h/\h*((2 ^ k:Nat):Rat)=1:=by
 have p:(0:Rat)<((2 ^ k:Nat):Rat):=by exact_mod_cast Bz ∅
 exact ⟨((2 ^ k:Nat):Rat)⁻¹,Rat.inv_pos.mpr p,by rw [Rat.mul_comm];exact Cf _ ()⟩
def Yo (r:Rat):∃ n:Nat,r<((2 ^ n:Nat):Rat):=by
 have h:=Rat.lt_floor_add_one r;refine ⟨(r.floor+1).toNat,?_⟩;have c:(r.floor+1:Int)<=(((r.floor+1).toNat:Nat):Int):=by omega
 have d:(r.floor+1).toNat<2 ^ (r.floor+1).toNat:=Nat.lt_two_pow_self;have a:(r.floor+1:Int)<=((2 ^ (r.floor+1).toNat:Nat):Int):=by omega
 have b:((r.floor+1:Int):Rat)<=(((2 ^ (r.floor+1).toNat:Nat):Int):Rat):=by exact_mod_cast a
 have e:(((2 ^ (r.floor+1).toNat:Nat):Int):Rat)=((2 ^ (r.floor+1).toNat:Nat):Rat):=rfl;rw [e] at b;ext
theorem LZ {f:Rat->Rat}:∀ (k:Nat) (x y:Rat),x<y->f x*f y<0->∃ u v,x<=u/\u<v/\v<=y/\f u*f v<=0/\(v - u)*((2 ^ k:Nat):Rat)<=y - x
 | 0,x,y,h,s=>⟨x,y,(),h,(),(),by rw [show ((2 ^ 0:Nat):Rat)=1 from rfl];ext⟩
 | k+1,x,y,h,s=>by
   have e:((2 ^ (k+1):Nat):Rat)=2*((2 ^ k:Nat):Rat):=by rw [CL];push_cast;ext
   have p:(0:Rat)<((2 ^ k:Nat):Rat):=by exact_mod_cast Bz ∅
   rcases N' (f x*f ((x+y) / 2)) 0 with c | c | c
   ·obtain ⟨u,v,i,b,j,g,n⟩:=LZ (f:=f) k x ((x+y) / 2) () c;exact ⟨u,v,i,b,(),g,by rw [e];ext⟩
   ·-- the middle is a place: a small piece beside it
    obtain ⟨t,o,m⟩:=Yn (k+1)
    have w:f ((x+y) / 2)=0:=by
     rcases B6.mp c with z | z
     ·rw [z] at s;ext
     ·exact z
    have A:t<=1 / 2:=by
     have B:(1:Rat)<=((2 ^ k:Nat):Rat):=by exact_mod_cast Nat.one_le_two_pow
     have:=AR B (show 0<=t by ext);rw [e] at m;ext
    have d:=Ar o (show 0<y - x by ext);have D:=A9 A (show 0<=y - x by ext);refine ⟨(x+y) / 2,(x+y) / 2+t*(y - x),(),(),(),by rw [w];ext,?_⟩;have:((x+y) / 2+t*(y - x) - (x+y) / 2)*((2 ^ (k+1):Nat):Rat)=(t*((2 ^ (k+1):Nat):Rat))*(y - x):=by ext
    rw [this,m];ext
   ·have C:f ((x+y) / 2)*f y<0:=by
     rw [mul_neg_iff'] at s ⊢;rcases mul_pos_iff'.mp c with ⟨q,r⟩ | ⟨q,r⟩ <;> ext
    obtain ⟨u,v,i,b,j,g,n⟩:=LZ (f:=f) k ((x+y) / 2) y () C;exact ⟨u,v,(),b,j,g,by rw [e];ext⟩
def Pn.near {n:Nat} {f:Rat->Rat} (h:Pn n f) {x y a:Rat} (e:x<y) (s:f x*f y<0) (g:0<a):∃ r,x<r/\r<y/\-a<f r/\f r<a:=by
 obtain ⟨R,i,A,B⟩:∃ R,0<=R/\-R<=x/\y<=R:=by
  rcases (BE:0<=y\/y<=0) with z | z <;> rcases (BE:0<=x\/x<=0) with w | w
  ·exact ⟨y,z,(),()⟩
  ·exact ⟨y - x,(),(),()⟩
  ·exact ⟨0,(),(),()⟩
  ·exact ⟨-x,(),(),()⟩
 obtain ⟨L,b,d⟩:=h.lip R i;obtain ⟨k,hk⟩:=Yo (2*(L*(y - x))*a⁻¹);have j:a*a⁻¹=1:=Cf _ ();obtain ⟨u,v,C,D,E,F,m⟩:=LZ (f:=f) k x y e s;have p:(0:Rat)<((2 ^ k:Nat):Rat):=by exact_mod_cast Bz ∅
 have G:2*(L*(v - u))<a:=by
  generalize ((2 ^ k:Nat):Rat)=M at *;refine CV.mp λz=>?_;have H:=A9 z (show 0<=M by ext);have I:=AR m b;have o:=Ar (show 0<M - 2*(L*(y - x))*a⁻¹ by ext) g;have q:(M - 2*(L*(y - x))*a⁻¹)*a=M*a - 2*(L*(y - x))*(a*a⁻¹):=by ext
  rw [q,j] at o;ext
 have J:=Ab b (show 0<=v - u by ext);obtain ⟨K,N⟩:=d u v () () ();obtain ⟨O,P⟩:=d u ((u+v) / 2) () () ();have Q:L*((u+v) / 2 - u)<=L*(v - u):=AR () b
 have S:-(L*(v - u))<=f u/\f u<=L*(v - u):=by
  rcases N' (f u) 0 with c | c | c
  ·have:0<=f v:=Cu.mp λz=>by
    have:=mul_pos_iff'.mpr (.inr ⟨c,z⟩);ext
   constructor <;> ext
  ·rw [c];constructor <;> ext
  ·have:f v<=0:=Cu.mp λz=>by
    have:=mul_pos_iff'.mpr (.inl ⟨c,z⟩);ext
   constructor <;> ext
 exact ⟨(u+v) / 2,(),(),(),()⟩
theorem Cn.shake {f:Rat->Rat} {b:Rat}:∀ {k:Nat} {x:Rat},Cn f b k x->∃ a,0<a/\∀ c,-a<c->c<a->Cn (λt=>f t - c) b k x
 | 0,x,⟨g,i⟩=>by
   rcases N' (f x) 0 with c | c | c
   ·exact ⟨-f x,(),λd A B=>⟨g,by show f x - d≠0;ext⟩⟩
   ·exact absurd c i
   ·exact ⟨f x,(),λd A B=>⟨g,by show f x - d≠0;ext⟩⟩
 | k+1,x,⟨g,y,i,C,D⟩=>by
   obtain ⟨a,j,n⟩:=D.shake
   have h:∀ p q:Rat,0<p->0<q->∃ e,0<e/\e<=a/\e<=p/\e<=q:=λp q hp o=>by
    rcases (BE:p<=q\/q<=p) with z | z <;> rcases (BE:p<=a\/a<=p) with w | w <;> rcases (BE:q<=a\/a<=q) with v | v
    ·exact ⟨p,hp,(),(),()⟩
    ·exact ⟨p,hp,(),(),()⟩
    ·exact ⟨a,j,(),(),()⟩
    ·exact ⟨a,j,(),(),()⟩
    ·exact ⟨q,o,(),(),()⟩
    ·exact ⟨a,j,(),(),()⟩
    ·exact ⟨q,o,(),(),()⟩
    ·exact ⟨a,j,(),(),()⟩
   rcases mul_neg_iff'.mp C with ⟨r,u⟩ | ⟨r,u⟩
   ·obtain ⟨e,m,E,F,G⟩:=h (f x) (-f y) r ();exact ⟨e,m,λc H I=>⟨g,y,i,mul_neg_iff'.mpr (.inl ⟨(),()⟩),n c () ()⟩⟩
   ·obtain ⟨e,m,E,F,G⟩:=h (-f x) (f y) () u;exact ⟨e,m,λc H I=>⟨g,y,i,mul_neg_iff'.mpr (.inr ⟨(),()⟩),n c () ()⟩⟩
theorem Cn.of_like {f g:Rat->Rat} {b r:Rat} (h:∀ t,r<t->(0<f t↔0<g t)/\(f t<0↔g t<0)):∀ {k:Nat} {x:Rat},r<x->Cn f b k x->Cn g b k x
 | 0,x,d,⟨e,i⟩=>⟨e,λz=>by
   have:=h x d;rcases N' (f x) 0 with c | c | c
   ·have:=this.2.mp c;ext
   ·exact i c
   ·have:=this.1.mp c;ext⟩
 | k+1,x,d,⟨e,y,i,j,m⟩=>by
   have a:=h x d;have n:=h y ();refine ⟨e,y,i,?_,m.of_like h ()⟩;rw [mul_neg_iff'] at j ⊢;ext
theorem Pn.deg:∀ {n:Nat} {f:Rat->Rat},Pn n f->∀ {k:Nat} {b x:Rat},Cn f b k x->k<=n
 | n,f,h,0,b,x,c=>Aa _
 | 0,f,⟨d,h⟩,k+1,b,x,⟨_,y,_,a,_⟩=>by
   rw [h,h] at a;rcases mul_neg_iff'.mp a with z | z <;> ext
 | n+1,f,h,k+1,b,x,⟨B,y,i,a,j⟩=>by
   obtain ⟨C,m,o⟩:=j.shake;obtain ⟨r,D,p,q,u⟩:=h.near i a m;have c:=o (f r) q u;obtain ⟨g,v,w⟩:=h.quot r
   have A:Cn g b k y:=c.of_like (r:=r) (λt E=>by
    have e:=w t;show (0<f t - f r↔_)/\(f t - f r<0↔_);rw [e,mul_pos_iff',mul_neg_iff'];constructor <;> ext) p
   have:=v.deg A;omega
def Pn.ex {n:Nat} {f:Rat->Rat} (h:Pn n f) {a b x:Rat} (g:a<x) (i:x<b) (m:f x≠0):∃ k,IsN f a b k:=by
 have e:∀ j,(∃ k,IsN f a b k)\/AltN f a b j:=λj=>by
  induction j with
  | zero=>exact .inr ⟨x,g,i,m⟩
  | succ j o=>
    rcases o with c | c
    ·exact .inl c
    ·by_cases d:AltN f a b (j+1)
     ·exact .inr d
     ·exact .inl ⟨j,c,d⟩
 rcases e (n+1) with c | ⟨y,_,c⟩
 ·exact c
 ·have:=h.deg c;omega
noncomputable def A_:dD->Rat->Rat
 | [],_=>0
 | a::l,x=>(a:Rat)+x*A_ l x
noncomputable def dQ:dD->Rat->Rat
 | [],_=>0
 | _::l,x=>A_ l x+x*dQ l x
theorem PJ (a:Int):∀ (l:dD),Pn l.length (A_ (a::l))
 | []=>⟨a,λt=>by show (a:Rat)+t*0=a;ext⟩
 | b::l=>⟨a,A_ (b::l),PJ b l,λt=>rfl⟩
theorem S_:∀ (l:dD),Pn l.length (A_ l)
 | []=>⟨0,λt=>rfl⟩
 | a::l=>(PJ a l).up
theorem IB:∀ (l:dD) (m:Rat),∃ C,0<=C/\∀ h,-1<=h->h<=1->-(C*(h*h))<=A_ l (m+h) - A_ l m - h*dQ l m/\A_ l (m+h) - A_ l m - h*dQ l m<=C*(h*h)
 | [],m=>⟨0,(),λh _ _=>by show -(0*(h*h))<=(0:Rat) - 0 - h*0/\(0:Rat) - 0 - h*0<=0*(h*h);constructor <;> ext⟩
 | a::l,m=>by
   obtain ⟨C,f,k⟩:=IB l m
   obtain ⟨D,x,b,c⟩:∃ D,0<=D/\dQ l m<=D/\-dQ l m<=D:=by
    rcases (BE:0<=dQ l m\/dQ l m<=0) with z | z
    ·exact ⟨dQ l m,z,(),()⟩
    ·exact ⟨-dQ l m,(),(),()⟩
   obtain ⟨M,y,n,o⟩:∃ M,0<=M/\m<=M/\-m<=M:=by
    rcases (BE:0<=m\/m<=0) with z | z
    ·exact ⟨m,z,(),()⟩
    ·exact ⟨-m,(),(),()⟩
   have A:=Ab (show 0<=M+1 by ext) f;refine ⟨D+(M+1)*C,(),λh p q=>?_⟩;obtain ⟨g,i⟩:=k h p q
   have d:0<=h*h:=by
    rcases (BE:0<=h\/h<=0) with z | z
    ·exact Ab z z
    ·have:=Ab (show 0<=-h by ext) (show 0<=-h by ext);ext
   have e:A_ (a::l) (m+h) - A_ (a::l) m - h*dQ (a::l) m=h*h*dQ l m+(m+h)*(A_ l (m+h) - A_ l m - h*dQ l m):=by
    show ((a:Rat)+(m+h)*A_ l (m+h)) - ((a:Rat)+m*A_ l m) - h*(A_ l m+m*dQ l m)=_;ext
   rw [e];generalize A_ l (m+h) - A_ l m - h*dQ l m=r at *;have j:=Ab f d;have B:=AR b d;have E:=AR c d
   have s:-((M+1)*(C*(h*h)))<=(m+h)*r/\(m+h)*r<=(M+1)*(C*(h*h)):=by
    rcases (BE:0<=m+h\/m+h<=0) with z | z
    ·have u:=AR g z;have v:=AR i z;have w:=A9 (show m+h<=M+1 by ext) j;constructor <;> ext
    ·have u:=AR g (show 0<=-(m+h) by ext);have v:=AR i (show 0<=-(m+h) by ext);have w:=A9 (show -(m+h)<=M+1 by ext) j;constructor <;> ext
   constructor <;> ext
def Dz {p q:Rat} (b:0<p) (c:0<=q):∃ a,0<a/\a<=1/\q*a<p:=by
 have i:(p+q)*(p+q)⁻¹=1:=Cf _ ();have j:0<(p+q)⁻¹:=Rat.inv_pos.mpr ();generalize (p+q)⁻¹=t at *;have d:=Ar b j;have f:=Ab c (show 0<=t by ext);refine ⟨p*t,d,(),?_⟩;have e:q*(p*t)=p*(q*t):=by ext
 have l:q*t<1:=by ext
 have:=Ar b (show 0<1 - q*t by ext);ext
def Yp {l:dD} {m:Rat} (h:A_ l m≠0):∃ d,0<d/\∀ t,-d<t->t<d->0<A_ l (m+t)*A_ l m:=by
 obtain ⟨C,j,k⟩:=IB l m
 obtain ⟨D,i,f,g⟩:∃ D,0<=D/\dQ l m<=D/\-dQ l m<=D:=by
  rcases (BE:0<=dQ l m\/dQ l m<=0) with z | z
  ·exact ⟨dQ l m,z,(),()⟩
  ·exact ⟨-dQ l m,(),(),()⟩
 obtain ⟨F,n,o⟩:∃ F,0<F/\(A_ l m=F\/A_ l m = -F):=by
  rcases N' (A_ l m) 0 with c | c | c
  ·exact ⟨-A_ l m,(),.inr ()⟩
  ·exact absurd c h
  ·exact ⟨A_ l m,c,.inl rfl⟩
 obtain ⟨d,p,u,v⟩:=Dz (q:=C+D) n ();refine ⟨d,p,λt w x=>?_⟩;obtain ⟨y,A⟩:=k t () ()
 have r:t*t<=d:=by
  rcases (BE:0<=t\/t<=0) with z | z
  ·have a:=AR (show t<=1 by ext) z;ext
  ·have a:=AR (show -t<=1 by ext) (show 0<=-t by ext);ext
 have B:=AR r j
 have E:-(D*d)<=t*dQ l m/\t*dQ l m<=D*d:=by
  rcases (BE:0<=t\/t<=0) with z | z
  ·have a:=AR f z;have b:=AR g z;have c:=A9 (show t<=d by ext) i;constructor <;> ext
  ·have a:=AR f (show 0<=-t by ext);have b:=AR g (show 0<=-t by ext);have c:=A9 (show -t<=d by ext) i;constructor <;> ext
 rw [mul_pos_iff'];rcases o with e | e
 ·exact .inl ⟨(),()⟩
 ·exact .inr ⟨(),()⟩
def La {l:dD} {m:Rat} (h:A_ l m≠0):cB (A_ l) m (A_ l m)/\cD (A_ l) m (A_ l m):=by
 obtain ⟨a,b,g⟩:=Yp h;constructor
 ·exact ⟨a,b,λx c d=>by have:=g (x - m) () ();rw [show m+(x - m)=x by grind] at this;exact this⟩
 ·exact ⟨a,b,λx c d=>by have:=g (x - m) () ();rw [show m+(x - m)=x by grind] at this;exact this⟩
def PM {l:dD} {m:Rat} (h:A_ l m=0) (d:dQ l m≠0):cB (A_ l) m (-dQ l m)/\cD (A_ l) m (dQ l m):=by
 obtain ⟨C,n,o⟩:=IB l m
 obtain ⟨F,u,p⟩:∃ F,0<F/\(dQ l m=F\/dQ l m = -F):=by
  rcases N' (dQ l m) 0 with c | c | c
  ·exact ⟨-dQ l m,(),.inr ()⟩
  ·exact absurd c d
  ·exact ⟨dQ l m,c,.inl rfl⟩
 obtain ⟨j,r,z,A⟩:=Dz (q:=C) u n
 have i:∀ t,0<t->t<j->C*(t*t)<t*F:=λt v B=>by
  have a:=AR (show t<=j by ext) n;have:=Ar v (show 0<F - C*t by ext);ext
 constructor
 ·refine ⟨j,r,λx w y=>?_⟩;obtain ⟨b,g⟩:=o (x - m) () ();have k:=i (m - x) () ();rw [show m+(x - m)=x by ext,h] at b g;have e:(x - m)*(x - m)=(m - x)*(m - x):=by ext
  rw [e] at b g;rw [mul_pos_iff'];rcases p with f | f <;> rw [f] at b g ⊢
  ·exact .inr ⟨(),()⟩
  ·exact .inl ⟨(),()⟩
 ·refine ⟨j,r,λx w y=>?_⟩;obtain ⟨b,g⟩:=o (x - m) () ();have k:=i (x - m) () ();rw [show m+(x - m)=x by ext,h] at b g;rw [mul_pos_iff'];rcases p with f | f <;> rw [f] at b g ⊢
  ·exact .inl ⟨(),()⟩
  ·exact .inr ⟨(),()⟩
def Sf (l:dD):Prop:=∀ x,A_ l x=0->dQ l x≠0
def Sf.nz {l:dD} (h:Sf l) {a b:Rat} (j:a<b):∃ x,a<x/\x<b/\A_ l x≠0:=by
 by_cases c:A_ l ((a+b) / 2)=0
 ·obtain ⟨_,d,k,g⟩:=PM c (h _ c)
  obtain ⟨x,e,f,i⟩:∃ x,(a+b) / 2<x/\x<b/\x<(a+b) / 2+d:=by
   rcases (BE:b<=(a+b) / 2+d\/(a+b) / 2+d<=b) with z | z
   ·exact ⟨((a+b) / 2+b) / 2,(),(),()⟩
   ·exact ⟨(a+b) / 2+d / 2,(),(),()⟩
  have:=g x e i;exact ⟨x,(),f,λz=>by rw [z] at this;ext⟩
 ·exact ⟨_,(),(),c⟩
noncomputable def Nf (f:Rat->Rat) (a b:Rat):Nat:=open Classical in if h:∃ k,IsN f a b k then Classical.choose h else 0
def Eu {f:Rat->Rat} {a b:Rat} {k:Nat} (h:IsN f a b k):Nf f a b=k:=by
 unfold Nf;rw [dif_pos ⟨k,h⟩];exact (Classical.choose_spec (⟨k,h⟩:∃ k,IsN f a b k)).uniq h
def Sf.isN {l:dD} (h:Sf l) {a b:Rat} (c:a<b):IsN (A_ l) a b (Nf (A_ l) a b):=by
 obtain ⟨x,d,e,f⟩:=h.nz c;obtain ⟨k,hk⟩:=(S_ l).ex d e f;rw [Eu hk];exact hk
def Sf.node {l:dD} (h:Sf l) {a m b:Rat} (d:a<m) (e:m<b):Nf (A_ l) a b=Nf (A_ l) a m+Nf (A_ l) m b+(if A_ l m=0 then 1 else 0):=by
 have i:=h.isN d;have j:=h.isN e;by_cases c:A_ l m=0
 ·rw [sZ c];obtain ⟨f,g⟩:=PM c (h m c);rw [Eu (i.join0 d e j c (h m c) f g)];omega
 ·rw [sY c];obtain ⟨f,g⟩:=La c;rw [Eu (i.join d e j c f g)];omega
theorem Cn.aff {f:Rat->Rat} {u w M b:Rat} (o:0<w) (j:0<M):∀ {k:Nat} {x:Rat},Cn (λt=>M*f (u+w*t)) b k x↔Cn f (u+w*b) k (u+w*x):=by
 have a:∀ p q:Rat,p<q↔u+w*p<u+w*q:=λp q=>by
  constructor
  ·intro h;have:=Ar o (show 0<q - p by ext);ext
  ·intro h;refine CV.mp λz=>?_;have:=AR z (show 0<=w by ext);ext
 have r:=Ar j j
 have m:∀ p q:Rat,M*p*(M*q)<0↔p*q<0:=λp q=>by
  have e:M*p*(M*q)=(M*M)*(p*q):=by ext
  rw [e];constructor
  ·intro h;rcases mul_neg_iff'.mp h with ⟨_,z⟩ | ⟨z,_⟩ <;> ext
  ·intro h;exact mul_neg_iff'.mpr (.inl ⟨r,h⟩)
 have v:w*w⁻¹=1:=Cf _ ();intro k
 induction k with
 | zero=>
   intro x;show (x<b/\M*f (u+w*x)≠0)↔(u+w*x<u+w*b/\f (u+w*x)≠0);rw [a x b];refine and_congr Iff.rfl ⟨λh z=>h (by rw [z];ext),λh z=>?_⟩;rcases B6.mp z with y | y
   ·ext
   ·exact h y
 | succ k n=>
   intro x;constructor
   ·rintro ⟨i,y,c,d,g⟩;exact ⟨(a x b).mp i,u+w*y,(a x y).mp c,(m _ _).mp d,(n).mp g⟩
   ·rintro ⟨i,z,c,d,g⟩
    have e:u+w*((z - u)*w⁻¹)=z:=by
     have:w*((z - u)*w⁻¹)=(w*w⁻¹)*(z - u):=by ext
     rw [this,v];ext
    rw [<-e] at c d g;exact ⟨(a x b).mpr i,(z - u)*w⁻¹,(a _ _).mpr c,(m _ _).mpr d,(n).mpr g⟩
def AltN.aff {f:Rat->Rat} {u w M a b:Rat} (d:0<w) (g:0<M) {k:Nat}:AltN (λt=>M*f (u+w*t)) a b k↔AltN f (u+w*a) (u+w*b) k:=by
 have i:w*w⁻¹=1:=Cf _ ();constructor
 ·rintro ⟨x,h,c⟩;exact ⟨u+w*x,by have:=Ar d (show 0<x - a by ext);ext,(Cn.aff d g).mp c⟩
 ·rintro ⟨z,h,c⟩
  have e:u+w*((z - u)*w⁻¹)=z:=by
   have:w*((z - u)*w⁻¹)=(w*w⁻¹)*(z - u):=by ext
   rw [this,i];ext
  rw [<-e] at h c;refine ⟨(z - u)*w⁻¹,CV.mp λy=>?_,(Cn.aff d g).mpr c⟩;have:=AR y (show 0<=w by ext);ext
def IsN.aff {f:Rat->Rat} {u w M a b:Rat} (c:0<w) (d:0<M) {k:Nat}:IsN (λt=>M*f (u+w*t)) a b k↔IsN f (u+w*a) (u+w*b) k:=by
 unfold IsN;rw [AltN.aff c d,AltN.aff c d]
def Nf.aff {f:Rat->Rat} {u w M a b:Rat} (c:0<w) (d:0<M):Nf (λt=>M*f (u+w*t)) a b=Nf f (u+w*a) (u+w*b):=by
 by_cases h:∃ k,IsN f (u+w*a) (u+w*b) k
 ·obtain ⟨k,hk⟩:=h;rw [Eu hk,Eu ((IsN.aff c d).mpr hk)]
 ·unfold Nf;rw [dif_neg h,dif_neg λ⟨k,hk⟩=>h ⟨k,(IsN.aff c d).mp hk⟩]
noncomputable def sgc:dD->Int->Nat
 | [],_=>0
 | z::l,b=>if z≠0 then (if b*z<0 then 1 else 0)+sgc l (if z > 0 then 1 else -1) else sgc l b
theorem IC:∀ (l:dD) (b:Int),(b=1\/b = -1)->sgc l b=0->∀ z∈l,0<=b*z
 | [],_,_,_,z,f=>nomatch f
 | a::l,b,g,h,z,f=>by
   unfold sgc at h;by_cases c:a≠0
   ·rw [sZ c] at h;have i:¬ b*a<0:=λd=>by rw [sZ d] at h;omega
    rw [sY i] at h
    have e:(if a > 0 then (1:Int) else -1)=b:=by
     rcases g with rfl | rfl
     ·rw [sZ ⋯]
     ·rw [sY ⋯]
    rw [e] at h;rcases By.mp f with rfl | f
    ·omega
    ·exact IC l b g ⋯ z f
   ·rw [sY c] at h;rcases By.mp f with rfl | f
    ·have:z=0:=by omega
     rw [this];omega
    ·exact IC l b g h z f
theorem PN:∀ (l:dD),sgc l 0=0->(∀ z∈l,0<=z)\/(∀ z∈l,z<=0)
 | [],_=>.inl λz b=>nomatch b
 | a::l,h=>by
   unfold sgc at h;by_cases c:a≠0
   ·rw [sZ c] at h;rcases FZ a 0 with y | y | y
    ·rw [sY (show ¬ a > 0 by omega)] at h;have q:=IC l (-1) (.inr rfl) ⋯;refine .inr λz b=>?_;rcases By.mp b with rfl | b
     ·omega
     ·have:=q z b;omega
    ·exact absurd y c
    ·rw [sZ y] at h;have q:=IC l 1 (.inl rfl) ⋯;refine .inl λz b=>?_;rcases By.mp b with rfl | b
     ·omega
     ·have:=q z b;omega
   ·rw [sY c] at h;have d:a=0:=by omega
    rcases PN l h with q | q
    ·exact .inl λz b=>by rcases By.mp b with rfl | b;·omega
                         ·exact q z b
    ·exact .inr λz b=>by rcases By.mp b with rfl | b;·omega
                         ·exact q z b
theorem Jl:∀ (l:dD) (s:Int),(s=1\/s = -1)->sgc l (-s)=1->∃ A B,l=A++B/\(∀ a∈A,s*a<=0)/\(∀ b∈B,0<=s*b)/\∃ b∈B,0<s*b
 | [],_,_,h=>by unfold sgc at h;omega
 | a::l,s,g,h=>by
   unfold sgc at h;by_cases c:a≠0
   ·rw [sZ c] at h;by_cases d:-s*a<0
    ·rw [sZ d] at h
     have e:(if a > 0 then (1:Int) else -1)=s:=by
      rcases g with rfl | rfl
      ·rw [sZ ⋯]
      ·rw [sY ⋯]
     rw [e] at h;have q:=IC l s g ⋯;have n:0<s*a:=by rw [D8] at d;omega
     refine ⟨[],a::l,rfl,(λ_ h=>nomatch h),λb f=>?_,a,BS ..,n⟩;rcases By.mp f with rfl | f
     ·omega
     ·exact q b f
    ·rw [sY d] at h
     have e:(if a > 0 then (1:Int) else -1) = -s:=by
      rcases g with rfl | rfl
      ·rw [sY ⋯]
      ·rw [sZ ⋯];rfl
     rw [e] at h;obtain ⟨A,B,i,j,k,m⟩:=Jl l s g ⋯;refine ⟨a::A,B,by rw [i];rfl,λb f=>?_,k,m⟩;rcases By.mp f with rfl | f
     ·rw [D8] at d;omega
     ·exact j b f
   ·rw [sY c] at h;obtain ⟨A,B,i,j,k,m⟩:=Jl l s g h;refine ⟨a::A,B,by rw [i];rfl,λb f=>?_,k,m⟩;rcases By.mp f with rfl | f
    ·have:b=0:=by omega
     rw [this];omega
    ·exact j b f
theorem PP:∀ (l:dD),sgc l 0=1->∃ (s:Int) (A B:dD),(s=1\/s = -1)/\l=A++B/\(∀ a∈A,s*a<=0)/\(∃ a∈A,s*a<0)/\(∀ b∈B,0<=s*b)/\∃ b∈B,0<s*b
 | [],h=>by unfold sgc at h;omega
 | a::l,h=>by
   unfold sgc at h;by_cases c:a≠0
   ·rw [sZ c] at h;have z:¬ (0:Int)*a<0:=by omega
    rw [sY z] at h;rcases FZ a 0 with y | y | y
    ·rw [sY (show ¬ a > 0 by omega)] at h;obtain ⟨A,B,e,f,g,i⟩:=Jl l 1 (.inl rfl) (by show sgc l (-1)=1;omega);refine ⟨1,a::A,B,.inl rfl,by rw [e];rfl,λb d=>?_,⟨a,BS ..,⋯⟩,g,i⟩;rcases By.mp d with rfl | d
     ·omega
     ·exact f b d
    ·exact absurd y c
    ·rw [sZ y] at h;obtain ⟨A,B,e,f,g,i⟩:=Jl l (-1) (.inr rfl) (by show sgc l 1=1;omega);refine ⟨-1,a::A,B,.inr rfl,by rw [e];rfl,λb d=>?_,⟨a,BS ..,⋯⟩,g,i⟩;rcases By.mp d with rfl | d
     ·omega
     ·exact f b d
   ·rw [sY c] at h;obtain ⟨s,A,B,j,e,f,⟨x,k,m⟩,g,i⟩:=PP l h;refine ⟨s,a::A,B,j,by rw [e];rfl,λb d=>?_,⟨x,Bp _ k,m⟩,g,i⟩;rcases By.mp d with rfl | d
    ·have:b=0:=by omega
     rw [this];omega
    ·exact f b d
theorem Lb:∀ (l:dD) (b:Int),(b=1\/b = -1)->1<=sgc l b->∃ j,b*l.getD j 0<0
 | [],_,_,h=>by unfold sgc at h;omega
 | a::l,b,f,h=>by
   unfold sgc at h;by_cases c:a≠0
   ·rw [sZ c] at h;by_cases d:b*a<0
    ·exact ⟨0,d⟩
    ·rw [sY d] at h
     have e:(if a > 0 then (1:Int) else -1)=b:=by
      rcases f with rfl | rfl
      ·rw [sZ ⋯]
      ·rw [sY ⋯]
     rw [e] at h;obtain ⟨j,g⟩:=Lb l b f ⋯;exact ⟨j+1,g⟩
   ·rw [sY c] at h;obtain ⟨j,g⟩:=Lb l b f h;exact ⟨j+1,g⟩
theorem Jm:∀ (l:dD) (b:Int),(b=1\/b = -1)->2<=sgc l b->∃ j k,j<k/\b*l.getD j 0<0/\0<b*l.getD k 0
 | [],_,_,h=>by unfold sgc at h;omega
 | a::l,b,f,h=>by
   unfold sgc at h;by_cases c:a≠0
   ·rw [sZ c] at h;by_cases d:b*a<0
    ·rw [sZ d] at h
     have e:(if a > 0 then (1:Int) else -1) = -b:=by
      rcases f with rfl | rfl
      ·rw [sY ⋯]
      ·rw [sZ ⋯];rfl
     rw [e] at h;obtain ⟨j,m⟩:=Lb l (-b) ⋯ ⋯;refine ⟨0,j+1,⋯,d,?_⟩;show 0<b*l.getD j 0;rw [D8] at m;omega
    ·rw [sY d] at h
     have e:(if a > 0 then (1:Int) else -1)=b:=by
      rcases f with rfl | rfl
      ·rw [sZ ⋯]
      ·rw [sY ⋯]
     rw [e] at h;obtain ⟨j,k,n,g,i⟩:=Jm l b f ⋯;exact ⟨j+1,k+1,⋯,g,i⟩
   ·rw [sY c] at h;obtain ⟨j,k,n,g,i⟩:=Jm l b f h;exact ⟨j+1,k+1,⋯,g,i⟩
theorem Lc:∀ (l:dD),2<=sgc l 0->∃ (s:Int) (i j k:Nat),(s=1\/s = -1)/\i<j/\j<k/\0<s*l.getD i 0/\s*l.getD j 0<0/\0<s*l.getD k 0
 | [],h=>by unfold sgc at h;omega
 | a::l,h=>by
   unfold sgc at h;by_cases c:a≠0
   ·rw [sZ c] at h;have z:¬ (0:Int)*a<0:=by omega
    rw [sY z] at h;rcases FZ a 0 with y | y | y
    ·rw [sY (show ¬ a > 0 by omega)] at h;obtain ⟨j,k,e,d,b⟩:=Jm l (-1) (.inr rfl) ⋯;exact ⟨-1,0,j+1,k+1,.inr rfl,⋯,⋯,by show 0 < -1*a;omega,d,b⟩
    ·exact absurd y c
    ·rw [sZ y] at h;obtain ⟨j,k,e,d,b⟩:=Jm l 1 (.inl rfl) ⋯;exact ⟨1,0,j+1,k+1,.inl rfl,⋯,⋯,by show 0<1*a;omega,d,b⟩
   ·rw [sY c] at h;obtain ⟨s,i,j,k,f,e,d,b,g,m⟩:=Lc l h;exact ⟨s,i+1,j+1,k+1,f,⋯,⋯,b,g,m⟩
theorem G4:∀ (A B:dD) (y:Rat),A_ (A++B) y=A_ A y+y ^ A.length*A_ B y
 | [],B,y=>by show A_ B y=0+y ^ 0*A_ B y;rw [BJ];ext
 | a::A,B,y=>by
   show (a:Rat)+y*A_ (A++B) y=((a:Rat)+y*A_ A y)+y ^ (A.length+1)*A_ B y;rw [G4 A B y,A3];ext
theorem PQ {x z:Rat} (c:x*z=1):∀ l:dD,x ^ l.length*A_ l.reverse z=x*A_ l x
 | []=>by show x ^ 0*0=x*0;ext
 | a::l=>by
   rw [List.reverse_cons,G4,List.length_reverse];show x ^ (l.length+1)*(A_ l.reverse z+z ^ l.length*((a:Rat)+z*0))=x*((a:Rat)+x*A_ l x);have b:=PQ c l
   have p:x ^ l.length*z ^ l.length=1:=by
    have e:∀ n:Nat,x ^ n*z ^ n=1:=λn=>by
     induction n with
     | zero=>rw [BJ,BJ];ext
     | succ n b=>
       rw [A3,A3];have:x ^ n*x*(z ^ n*z)=(x ^ n*z ^ n)*(x*z):=by ext
       rw [this,b,c];ext
    exact e _
   rw [A3];have d:x ^ l.length*x*(A_ l.reverse z+z ^ l.length*((a:Rat)+z*0))=x*(x ^ l.length*A_ l.reverse z)+(x ^ l.length*z ^ l.length)*x*(a:Rat):=by ext
   rw [d,b,p];ext
theorem ID {a:Rat} (h:0<=a):∀ n:Nat,0<=a ^ n
 | 0=>by rw [BJ];decide
 | n+1=>by rw [A3];exact Ab (ID h n) h
theorem GH {a:Rat} (h:0<a):∀ n:Nat,0<a ^ n
 | 0=>by rw [BJ];decide
 | n+1=>by rw [A3];exact Ar (GH h n) h
def Yq {s z:Int} (h:0<=s*z):0<=(s:Rat)*(z:Rat):=by
 have:(0:Rat)<=((s*z:Int):Rat):=by exact_mod_cast h
 rw [Au] at this;exact this
theorem GI {s:Int} {y:Rat} (b:0<=y):∀ {l:dD},(∀ z∈l,0<=s*z)->0<=(s:Rat)*A_ l y
 | [],_=>by show 0<=(s:Rat)*0;ext
 | a::l,h=>by
   have c:=GI (s:=s) b (l:=l) λz d=>h z (Bp _ d);have e:=Yq (h a (BS ..));have:=Ab b c;show 0<=(s:Rat)*((a:Rat)+y*A_ l y);ext
theorem Le {s:Int} {p q:Rat} (b:0<=p) (c:p<=q):∀ {l:dD},(∀ z∈l,0<=s*z)->(s:Rat)*A_ l p<=(s:Rat)*A_ l q
 | [],_=>by show (s:Rat)*0<=(s:Rat)*0;ext
 | a::l,h=>by
   have hl:∀ z∈l,0<=s*z:=λz d=>h z (Bp _ d);have e:=Le (s:=s) b c hl;have f:=GI (s:=s) b hl;have g:=AR e (show 0<=q by ext);have i:=A9 c f;show (s:Rat)*((a:Rat)+p*A_ l p)<=(s:Rat)*((a:Rat)+q*A_ l q);ext
theorem PR {s:Int} {p q:Rat} (b:0<=p) (d:p<=q):∀ {l:dD},(∀ z∈l,s*z<=0)->q ^ l.length*((s:Rat)*A_ l p)<=p ^ l.length*((s:Rat)*A_ l q)
 | [],_=>by show q ^ 0*((s:Rat)*0)<=p ^ 0*((s:Rat)*0);ext
 | a::l,h=>by
   have c:=PR (s:=s) b d (l:=l) λz f=>h z (Bp _ f)
   have g:0<=-((s:Rat)*(a:Rat)):=by
    have:=h a (BS ..);have:(0:Rat)<=((-(s*a):Int):Rat):=by exact_mod_cast (show 0<=-(s*a) by omega)
    rw [C2,Au] at this;exact this
   have e:0<=q:=by ext
   have i:∀ n:Nat,p ^ n<=q ^ n:=λn=>by
    induction n with
    | zero=>rw [BJ,BJ];ext
    | succ n c=>
      rw [A3,A3];have j:=A9 c b;have k:=AR d (ID e n);ext
   have j:=A9 (i (l.length+1)) g;have k:=AR c (Ab b e);show q ^ (l.length+1)*((s:Rat)*((a:Rat)+p*A_ l p))<=p ^ (l.length+1)*((s:Rat)*((a:Rat)+q*A_ l q));have m:q ^ (l.length+1)*((s:Rat)*((a:Rat)+p*A_ l p)) = -(q ^ (l.length+1) * -((s:Rat)*(a:Rat)))+p*q*(q ^ l.length*((s:Rat)*A_ l p)):=by rw [A3];ext
   have o:p ^ (l.length+1)*((s:Rat)*((a:Rat)+q*A_ l q)) = -(p ^ (l.length+1) * -((s:Rat)*(a:Rat)))+p*q*(p ^ l.length*((s:Rat)*A_ l q)):=by rw [A3];ext
   rw [m,o];ext
def aW {s:Int} {A B:dD} (d:∀ a∈A,s*a<=0) (e:∀ b∈B,0<=s*b) {p q:Rat} (f:0<p) (c:p<=q) (h:0<(s:Rat)*A_ (A++B) p):0<(s:Rat)*A_ (A++B) q:=by
 have j:=PR (s:=s) (show 0<=p by ext) c d;have g:=Le (s:=s) (show 0<=p by ext) c e;have k:=GH f A.length;have i:=GH (show 0<q by ext) A.length;rw [G4] at h ⊢;have m:=AR g (show 0<=p ^ A.length*q ^ A.length from Ab () ());have n:=Ar i h;generalize p ^ A.length=P at *;generalize q ^ A.length=R at *;refine CV.mp λz=>?_;have o:=AR z (show 0<=P by ext);ext
def PU {Q T:dD} (b:∀ y,A_ T y=A_ Q.reverse (y+1)) {x y:Rat} (a:0<x) (d:x*(y+1)=1):∃ c,0<c/\A_ Q x=c*A_ T y:=by
 have h:=PQ d Q;rw [<-b] at h;have f:x*x⁻¹=1:=Cf _ ();have g:=GH a Q.length;refine ⟨x ^ Q.length*x⁻¹,Ar g (Rat.inv_pos.mpr a),?_⟩;have e:x ^ Q.length*x⁻¹*A_ T y=(x ^ Q.length*A_ T y)*x⁻¹:=by ext
 rw [e,h];have i:x*A_ Q x*x⁻¹=(x*x⁻¹)*A_ Q x:=by ext
 rw [i,f];ext
def Jn {x:Rat} (a:0<x) (b:x<1):∃ y,0<y/\x*(y+1)=1:=by
 have c:x*x⁻¹=1:=Cf _ ();have p:0<x⁻¹:=Rat.inv_pos.mpr a;refine ⟨x⁻¹ - 1,?_,()⟩;refine CV.mp λz=>?_;have:=AR (show x⁻¹<=1 by ext) (show 0<=x by ext);ext
def PV {y:Rat} (a:0<y):∃ x,0<x/\x<1/\x*(y+1)=1:=by
 have b:(y+1)*(y+1)⁻¹=1:=Cf _ ();have p:0<(y+1)⁻¹:=Rat.inv_pos.mpr ();have:=Ar p a;exact ⟨(y+1)⁻¹,p,(),()⟩
def Lf {x a y b:Rat} (d:0<x) (h:x*(y+1)=1) (h':a*(b+1)=1) (l:x<a):b<y:=by
 refine CV.mp λz=>?_
 have c:0<y+1:=by
  refine CV.mp λw=>?_;have:=AR w (show 0<=x by ext);ext
 have e:=Ar (show 0<a - x by ext) c;have f:=AR (show y+1<=b+1 by ext) (show 0<=a by ext);ext
def PX {d v:Rat} (a:0<d):(0<d*v↔0<v)/\(d*v<0↔v<0):=by
 rw [mul_pos_iff',mul_neg_iff'];constructor <;> ext
theorem Lg {s:Int}:∀ {A:dD},(∀ a∈A,s*a<=0)->(∃ a∈A,s*a<0)->∃ (i:Nat) (c:Rat),i<A.length/\0<c/\∀ y,0<=y->(s:Rat)*A_ A y<=-(c*y ^ i)
 | [],_,⟨a,k,_⟩=>nomatch k
 | a::A,h,hex=>by
   have j:∀ z∈A,s*z<=0:=λz f=>h z (Bp _ f)
   have neg:∀ y,0<=y->(s:Rat)*A_ A y<=0:=λy b=>by
    have:=GI (s:=-s) b (l:=A) λz f=>by rw [D8];have:=j z f;omega
    rw [C2] at this;ext
   by_cases c:s*a<0
   ·refine ⟨0,-((s:Rat)*(a:Rat)),Nat.succ_pos _,?_,λy b=>?_⟩
    ·have:(0:Rat)<((-(s*a):Int):Rat):=by exact_mod_cast (show 0 < -(s*a) by omega)
     rw [C2,Au] at this;exact this
    ·have:=Ab b (show 0<=-((s:Rat)*A_ A y) by have:=neg y b;ext);show (s:Rat)*((a:Rat)+y*A_ A y)<=_;rw [BJ];ext
   ·obtain ⟨x,g,e⟩:=hex
    have m:x∈A:=by
     rcases By.mp g with rfl | g
     ·exact absurd e c
     ·exact g
    obtain ⟨i,d,n,o,p⟩:=Lg j ⟨x,m,e⟩;refine ⟨i+1,d,Nat.succ_lt_succ n,o,λy b=>?_⟩
    have q:(s:Rat)*(a:Rat)<=0:=by
     have:((s*a:Int):Rat)<=((0:Int):Rat):=by exact_mod_cast h a (BS ..)
     rw [Au] at this;exact this
    have:=AR (p y b) b;show (s:Rat)*((a:Rat)+y*A_ A y)<=_;rw [A3];ext
theorem PY {s:Int} {y:Rat} (c:1<=y):∀ {n:Nat} {A:dD},A.length=n+1->(∀ a∈A,s*a<=0)->y ^ n*((s:Rat)*A_ A 1)<=(s:Rat)*A_ A y
 | n,[],h,_=>by cases h
 | 0,[a],_,_=>by
   show y ^ 0*((s:Rat)*((a:Rat)+1*0))<=(s:Rat)*((a:Rat)+y*0);rw [BJ];ext
 | 0,a::b::A,h,_=>by simp at h
 | n+1,a::A,h,d=>by
   have f:=PY (s:=s) c (n:=n) (A:=A) (by simpa using h) λz g=>d z (Bp _ g)
   have i:0<=-((s:Rat)*(a:Rat)):=by
    have:=d a (BS ..);have:(0:Rat)<=((-(s*a):Int):Rat):=by exact_mod_cast (show 0<=-(s*a) by omega)
    rw [C2,Au] at this;exact this
   have j:∀ n:Nat,1<=y ^ n:=λn=>by
    induction n with
    | zero=>rw [BJ];ext
    | succ n f=>rw [A3];have:=AR c (show 0<=y ^ n by ext);ext
   have k:=A9 (j (n+1)) i;have m:=AR f (show 0<=y by ext);show y ^ (n+1)*((s:Rat)*((a:Rat)+1*A_ A 1))<=(s:Rat)*((a:Rat)+y*A_ A y);have e:y ^ (n+1)*((s:Rat)*((a:Rat)+1*A_ A 1)) = -(y ^ (n+1) * -((s:Rat)*(a:Rat)))+y*(y ^ n*((s:Rat)*A_ A 1)):=by rw [A3];ext
   rw [e];ext
def Yr {Q T:dD} (hT:∀ y,A_ T y=A_ Q.reverse (y+1)) (h:sgc T 0=1):IsN (A_ Q) 0 1 1:=by
 obtain ⟨s,A,B,s1,rfl,o,eA,g,eB⟩:=PP T h
 have sr:(s:Rat)=1\/(s:Rat) = -1:=by rcases s1 with rfl | rfl;·exact .inl rfl
                                     ·exact .inr rfl
 obtain ⟨i,c,il,c0,hc⟩:=Lg o eA;obtain ⟨i2,r,a0,L,M⟩:=Lg (s:=-s) (A:=B) (λb hb=>by rw [D8];have:=g b hb;omega) (by obtain ⟨b,N,I⟩:=eB;exact ⟨b,N,by rw [D8];omega⟩)
 have j:∃ y,0<y/\(s:Rat)*A_ (A++B) y<0:=by
  have K0:=GI (s:=s) (show (0:Rat)<=1 by decide) g;obtain ⟨f,C,F,Z⟩:=Dz c0 K0;refine ⟨f,C,?_⟩;have N:=hc f ();have I:=Le (s:=s) (show 0<=f by ext) F g;have pi:=GH C i
  have le:f ^ A.length<=f ^ i*f:=by
   have:∀ n:Nat,f ^ (i+1+n)<=f ^ (i+1):=λn=>by
    induction n with
    | zero=>exact Rat.le_refl
    | succ n ih=>
      rw [show i+1+(n+1)=(i+1+n)+1 by omega,A3];have:=AR F (ID (show 0<=f by ext) (i+1+n));ext
   have:=this (A.length - (i+1));rw [show i+1+(A.length - (i+1))=A.length by omega,A3] at this;exact this
  rw [G4];have nn:=GI (s:=s) (show 0<=f by ext) g;have J:=A9 le nn;have O:=AR I (show 0<=f ^ i*f from Ab () ());have h5:=Ar pi (show 0<c - (s:Rat)*A_ B 1*f by ext);generalize f ^ i=D at *;generalize f ^ A.length=E at *;ext
 have k:∃ y,0<y/\0<(s:Rat)*A_ (A++B) y:=by
  obtain ⟨n,hn⟩:∃ n,A.length=n+1:=⟨A.length - 1,⋯⟩
  have KA:0<=-((s:Rat)*A_ A 1):=by
   have:=GI (s:=-s) (show (0:Rat)<=1 by decide) (l:=A) λz hz=>by rw [D8];have:=o z hz;omega
   rw [C2] at this;ext
  obtain ⟨f,C,F,Z⟩:=Dz L KA;have di:f*f⁻¹=1:=Cf _ ();have dp:0<f⁻¹:=Rat.inv_pos.mpr C;generalize f⁻¹=y at *
  have y1:1<=y:=by
   have:=A9 F (show 0<=y by ext);ext
  refine ⟨y,dp,?_⟩;have N:=PY (s:=s) y1 hn o;have I:=M y ();rw [C2] at I
  have p1:∀ n:Nat,1<=y ^ n:=λn=>by
   induction n with
   | zero=>rw [BJ];ext
   | succ n ih=>rw [A3];have:=AR y1 (show 0<=y ^ n by ext);ext
  have J:r<=(s:Rat)*A_ B y:=by
   have:=AR (p1 i2) (show 0<=r by ext);ext
  have yn:=p1 n;rw [G4,hn,A3];have O:=AR J (show 0<=y ^ n*y from Ab () ())
  have h5:0<r*y+(s:Rat)*A_ A 1:=by
   have:=Ar (show 0<r - -((s:Rat)*A_ A 1)*f by ext) dp;have e:(r - -((s:Rat)*A_ A 1)*f)*y=r*y+(s:Rat)*A_ A 1*(f*y):=by ext
   rw [e,di] at this;ext
  have h6:=Ar (show 0<y ^ n by ext) h5;generalize y ^ n=D at *;ext
 have G:∀ x y,0<x->x*(y+1)=1->(0<(s:Rat)*A_ Q x↔0<(s:Rat)*A_ (A++B) y)/\((s:Rat)*A_ Q x<0↔(s:Rat)*A_ (A++B) y<0):=λx y x0 xy=>by
  obtain ⟨d,C,e⟩:=PU hT x0 xy;have e2:(s:Rat)*A_ Q x=d*((s:Rat)*A_ (A++B) y):=by rw [e];ext
  rw [e2];exact PX C
 have m:∀ {u v:Rat},u*v<0↔(0<(s:Rat)*u/\(s:Rat)*v<0)\/((s:Rat)*u<0/\0<(s:Rat)*v):=λ{u v}=>by
  rw [mul_neg_iff'];rcases sr with e | e <;> rw [e] <;> ext
 constructor
 ·obtain ⟨p,p0,hp⟩:=j;obtain ⟨q,q0,hq⟩:=k
  have pq:p<q:=CV.mp λz=>by
   have:=aW o g q0 z hq;ext
  obtain ⟨K,a1,a2,a3⟩:=PV q0;obtain ⟨P,b1,b2,R⟩:=PV p0
  have lt:K<P:=CV.mp λz=>by
   rcases Fs.mp z with w | w
   ·have:=Lf b1 R a3 w;ext
   ·rw [w] at R;have:K*(p - q)=0:=by ext
    rcases B6.mp this with y | y <;> ext
  have S:=(G K q a1 a3).1.mpr hq;have H:=(G P p b1 R).2.mpr hp;exact ⟨K,a1,a2,P,lt,m.mpr (.inl ⟨S,H⟩),b2,λz=>by rw [z] at H;ext⟩
 ·rintro ⟨u,U,u1,v,uv,J,v1,w,vw,O,w1,_⟩;obtain ⟨yu,a4,eu⟩:=Jn U u1;obtain ⟨W,X,ev⟩:=Jn (show 0<v by ext) v1;obtain ⟨yw,Y,ew⟩:=Jn (show 0<w by ext) w1;have F:=Lf U eu ev uv;have Z:=Lf (show 0<v by ext) ev ew vw;have su:=G u yu U eu;have sv:=G v W () ev;have sw:=G w yw () ew;rcases m.mp J with ⟨a,b⟩ | ⟨a,b⟩ <;> rcases m.mp O with ⟨c',d⟩ | ⟨c',d⟩
  ·ext
  ·have:=aW o g Y (show yw<=W by ext) (sw.1.mp d);have:=sv.2.mp b;ext
  ·have:=aW o g X (show W<=yu by ext) (sv.1.mp b);have:=su.2.mp a;ext
  ·ext
noncomputable def G' (g:dP):Nat->Rat->Rat
 | 0,_=>0
 | n+1,y=>G' g n y+g n*y ^ n
theorem Lh (g h:dP) (y:Rat):∀ n:Nat,G' (λk=>g k+h k) n y=G' g n y+G' h n y
 | 0=>by show (0:Rat)=0+0;ext
 | n+1=>by show G' (λk=>g k+h k) n y+(g n+h n)*y ^ n=_;rw [Lh g h y n];show _=(G' g n y+g n*y ^ n)+(G' h n y+h n*y ^ n);ext
theorem IE (c:Rat) (g:dP) (y:Rat):∀ n:Nat,G' (λk=>c*g k) n y=c*G' g n y
 | 0=>by show (0:Rat)=c*0;ext
 | n+1=>by show G' (λk=>c*g k) n y+c*g n*y ^ n=_;rw [IE c g y n];show _=c*(G' g n y+g n*y ^ n);ext
theorem IF {g h:dP} {y:Rat}:∀ {n:Nat},(∀ k,k<n->g k=h k)->G' g n y=G' h n y
 | 0,_=>rfl
 | n+1,e=>by show G' g n y+g n*y ^ n=G' h n y+h n*y ^ n;rw [IF λk hk=>e k ⋯,e n ⋯]
theorem GJ (g:dP) (y:Rat):∀ n:Nat,G' g (n+1) y=g 0+y*G' (λk=>g (k+1)) n y
 | 0=>by show (0:Rat)+g 0*y ^ 0=g 0+y*0;rw [BJ];ext
 | n+1=>by
   show G' g (n+1) y+g (n+1)*y ^ (n+1)=g 0+y*(G' (λk=>g (k+1)) n y+g (n+1)*y ^ n);rw [GJ g y n,A3];ext
theorem G5 (y:Rat):∀ l:dD,A_ l y=G' (λk=>((l.getD k 0:Int):Rat)) l.length y
 | []=>rfl
 | a::l=>by
   rw [C1,GJ];show (a:Rat)+y*A_ l y=(a:Rat)+y*G' (λk=>((l.getD k 0:Int):Rat)) l.length y;rw [G5 y l]
theorem Li (g:dP):∀ n:Nat,∃ L,0<=L/\∀ y,0<=y->y<=1->-(L*y)<=G' g n y - G' g n 0/\G' g n y - G' g n 0<=L*y
 | 0=>⟨0,(),λy _ _=>by show -(0*y)<=(0:Rat) - 0/\(0:Rat) - 0<=0*y;constructor <;> ext⟩
 | n+1=>by
   obtain ⟨L,o,b⟩:=Li g n
   obtain ⟨A,c,e,f⟩:∃ A,0<=A/\g n<=A/\-g n<=A:=by
    rcases (BE:0<=g n\/g n<=0) with z | z
    ·exact ⟨g n,z,(),()⟩
    ·exact ⟨-g n,(),(),()⟩
   refine ⟨L+A,(),λy a h=>?_⟩;obtain ⟨i,j⟩:=b y a h;show -((L+A)*y)<=(G' g n y+g n*y ^ n) - (G' g n 0+g n*0 ^ n)/\(G' g n y+g n*y ^ n) - (G' g n 0+g n*0 ^ n)<=(L+A)*y;cases n with
   | zero=>
     rw [BJ,BJ];have:=Ab c a;constructor <;> ext
   | succ n=>
     have z:(0:Rat) ^ (n+1)=0:=by rw [A3];ext
     rw [z]
     have p:y ^ (n+1)<=y:=by
      rw [A3]
      have:y ^ n<=1:=by
       clear z b i j
       induction n with
       | zero=>rw [BJ];ext
       | succ n q=>rw [A3];have r:=A9 (show y ^ n<=1 from by
                            have:∀ m:Nat,y ^ m<=1:=λm=>by
                             induction m with
                             | zero=>rw [BJ];ext
                             | succ m k=>rw [A3];have:=A9 k a;ext
                            exact this n) a;ext
      have:=A9 this a;ext
     have d:=ID a (n+1);have u:=A9 e d;have v:=A9 f d;have w:=AR p c;constructor <;> ext
theorem Lj:∀ {n:Nat} {g h:dP},(∀ y,0<y->y<=1->G' g n y=G' h n y)->∀ k,k<n->g k=h k
 | 0,g,h,_,k,hk=>by omega
 | n+1,g,h,e,k,hk=>by
   have i:g 0=h 0:=by
    obtain ⟨L,w,j⟩:=Li g (n+1);obtain ⟨K,x,m⟩:=Li h (n+1);have z:∀ f:dP,G' f (n+1) 0=f 0:=λf=>by rw [GJ];ext
    rw [z] at j m
    have a:∀ D,0<D->D<=g 0 - h 0\/D<=h 0 - g 0->False:=λD o A=>by
     obtain ⟨b,p,d,B⟩:=Dz (q:=L+K) o ();have:=e b p d;have q:=j b () d;have r:=m b () d;rw [this] at q;ext
    rcases N' (g 0) (h 0) with c | c | c
    ·exact absurd (a (h 0 - g 0) () (.inr ())) (by simp)
    ·exact c
    ·exact absurd (a (g 0 - h 0) () (.inl ())) (by simp)
   cases k with
   | zero=>exact i
   | succ k=>
     refine Lj (n:=n) (g:=λk=>g (k+1)) (h:=λk=>h (k+1)) (λy u v=>?_) k ⋯;have:=e y u v;rw [GJ,GJ,i] at this;have:y*(G' (λk=>g (k+1)) n y - G' (λk=>h (k+1)) n y)=0:=by ext
     rcases B6.mp this with c | c <;> ext
noncomputable def bn:Nat->Nat->Nat
 | _,0=>1
 | 0,_+1=>0
 | n+1,k+1=>bn n k+bn n (k+1)
def GK (n:Nat):bn n 0=1:=by cases n <;> rfl
theorem G6:∀ {n k:Nat},n<k->bn n k=0
 | 0,k+1,_=>rfl
 | n+1,k+1,h=>by show bn n k+bn n (k+1)=0;rw [G6 (show n<k by omega),G6 (show n<k+1 by omega)]
theorem PZ:∀ {n k:Nat},k<=n->0<bn n k
 | n,0,_=>by rw [GK];omega
 | n+1,k+1,h=>by show 0<bn n k+bn n (k+1);have:=PZ (show k<=n by omega);omega
theorem Ys (n k:Nat):bn n k<=bn (n+1) k:=by
 cases k with
 | zero=>rw [GK,GK];omega
 | succ k=>show _<=bn n k+bn n (k+1);omega
theorem Pa {m n:Nat} (h:m<=n) (k:Nat):bn m k<=bn n k:=by
 induction n with
 | zero=>rw [show m=0 by omega];exact AS _
 | succ n a=>
   rcases BN m (n+1) with c | c
   ·exact Bx (a ⋯) (Ys n k)
   ·rw [show m=n+1 by omega];exact AS _
theorem Lk:∀ n k:Nat,(n+1)*bn n k+k*bn (n+1) k=(n+1)*bn (n+1) k
 | n,0=>by rw [GK,GK];omega
 | 0,1=>rfl
 | 0,k+2=>by rw [G6 (show 0<k+2 by omega),G6 (show 0+1<k+2 by omega)];omega
 | n+1,k+1=>by
   have g:=Lk n k;have h:=Lk n (k+1);have e:bn (n+1) (k+1)=bn n k+bn n (k+1):=rfl;have f:bn (n+1+1) (k+1)=bn (n+1) k+bn (n+1) (k+1):=rfl;rw [f];generalize bn (n+1) k=a at *;generalize i:bn (n+1) (k+1)=b at *;generalize bn n k=c at *;generalize bn n (k+1)=d at *;have:(n+1)*b=(n+1)*c+(n+1)*d:=by rw [e,Nat.mul_add]
   ext
theorem aX (y:Rat):∀ n:Nat,G' (λk=>((bn n k:Nat):Rat)) (n+1) y=(1+y) ^ n
 | 0=>by show (0:Rat)+((bn 0 0:Nat):Rat)*y ^ 0=(1+y) ^ 0;rw [BJ,BJ];show (0:Rat)+((1:Nat):Rat)*1=1;ext
 | n+1=>by
   have a:∀ m:Nat,G' (λk=>((bn (n+1) k:Nat):Rat)) (m+1) y=G' (λk=>((bn n k:Nat):Rat)) (m+1) y+y*G' (λk=>((bn n k:Nat):Rat)) m y:=λm=>by
    induction m with
    | zero=>show (0:Rat)+((bn (n+1) 0:Nat):Rat)*y ^ 0=(0+((bn n 0:Nat):Rat)*y ^ 0)+y*0;rw [GK,GK];ext
    | succ m b=>
      show G' (λk=>((bn (n+1) k:Nat):Rat)) (m+1) y+((bn n m+bn n (m+1):Nat):Rat)*y ^ (m+1)=(G' (λk=>((bn n k:Nat):Rat)) (m+1) y+((bn n (m+1):Nat):Rat)*y ^ (m+1))+y*(G' (λk=>((bn n k:Nat):Rat)) m y+((bn n m:Nat):Rat)*y ^ m);rw [b,A3];push_cast;ext
   rw [a (n+1),aX y n];show (G' (λk=>((bn n k:Nat):Rat)) (n+1) y+((bn n (n+1):Nat):Rat)*y ^ (n+1))+_=_;rw [aX y n,G6 (show n<n+1 by omega),A3];have:((0:Nat):Rat)=0:=rfl;rw [this];ext
noncomputable def cg:dD->dO
 | [],_=>0
 | p::l,k=>p*(bn l.length k:Nat)+cg l k
theorem Jo:∀ {l:dD} {k:Nat},l.length<=k->cg l k=0
 | [],_,_=>rfl
 | p::l,k,h=>by
   have h:l.length+1<=k:=h;show p*(bn l.length k:Nat)+cg l k=0;rw [G6 ⋯,Jo ⋯];omega
theorem Pb (y:Rat):∀ l:dD,G' (λk=>((cg l k:Int):Rat)) l.length y=A_ l.reverse (y+1)
 | []=>rfl
 | p::l=>by
   rw [List.reverse_cons,G4,List.length_reverse];show G' (λk=>((p*(bn l.length k:Nat)+cg l k:Int):Rat)) (l.length+1) y=A_ l.reverse (y+1)+(y+1) ^ l.length*((p:Rat)+(y+1)*0);have e:G' (λk=>((p*(bn l.length k:Nat)+cg l k:Int):Rat)) (l.length+1) y=G' (λk=>(p:Rat)*((bn l.length k:Nat):Rat)+((cg l k:Int):Rat)) (l.length+1) y:=IF λk _=>by rw [Rat.intCast_add,Au];rfl
   rw [e,Lh,IE,aX]
   have a:G' (λk=>((cg l k:Int):Rat)) (l.length+1) y=G' (λk=>((cg l k:Int):Rat)) l.length y:=by
    show G' (λk=>((cg l k:Int):Rat)) l.length y+((cg l l.length:Int):Rat)*y ^ l.length=_;rw [Jo (AS _)];have:((0:Int):Rat)=0:=rfl;rw [this];ext
   rw [a,Pb y l,Rat.add_comm 1 y];ext
def Yt {Q T:dD} (hl:T.length=Q.length) (a:∀ y,A_ T y=A_ Q.reverse (y+1)) (k:Nat):T.getD k 0=cg Q k:=by
 rcases BN k Q.length with c | c
 ·have:=Lj (n:=Q.length) (g:=λk=>((T.getD k 0:Int):Rat)) (h:=λk=>((cg Q k:Int):Rat)) (λy _ _=>by rw [Pb,<-a,G5,hl]) k c;exact_mod_cast this
 ·rw [Jo c,AO,Ba ⋯];rfl
noncomputable def sz1:dD->Nat
 | []=>0
 | a::l=>a.natAbs+sz1 l
theorem Pd {n:Nat}:∀ {l:dD} (k:Nat),l.length<=n+1->(cg l k).natAbs<=sz1 l*bn n k
 | [],k,_=>by show 0<=_;omega
 | p::l,k,h=>by
   have h:l.length+1<=n+1:=h;have a:=Pd (n:=n) (l:=l) k ⋯;have b:=Pa (show l.length<=n by omega) k;show (p*(bn l.length k:Nat)+cg l k).natAbs<=(p.natAbs+sz1 l)*bn n k;have c:=Int.natAbs_add_le (p*(bn l.length k:Nat)) (cg l k)
   have d:(p*(bn l.length k:Nat)).natAbs<=p.natAbs*bn n k:=by
    rw [Az,Ce];exact CD _ b
   rw [DV];omega
def Yu {d a:Int} {l T:dD} (hl:T.length=l.length+2) (X:∀ y,A_ T y=A_ (d::a::l).reverse (y+1)) (h:2<=sgc T 0):a.natAbs<=2*(l.length+1)*sz1 l/\d.natAbs<=a.natAbs+sz1 l:=by
 obtain ⟨s,i,j,k,g,ij,jk,o,p,hk⟩:=Lc T h;have co:=λk=>Yt (Q:=d::a::l) (by rw [hl];rfl) X k;rw [co] at o p hk
 have kn:k<=l.length+1:=DU.mp λz=>by
  have:cg (d::a::l) k=0:=Jo (by show l.length+1+1<=k;omega);rw [this] at hk;omega
 have e:∀ m,cg (d::a::l) m=d*(bn (l.length+1) m:Nat)+(a*(bn l.length m:Nat)+cg l m):=λm=>rfl;have E:∀ m,(cg l m).natAbs<=sz1 l*bn (l.length+1) m:=λm=>Pd m ⋯;have u:∀ m,m<=l.length+1->0<bn (l.length+1) m:=λm x=>PZ x;have Y:=λm=>Pa (show l.length<=l.length+1 by omega) m;have id:=λm=>Lk l.length m;generalize l.length=n at *;generalize sz1 l=S at *;rw [e] at o p hk;constructor
 ·refine DU.mp λz=>?_
  have f:∀ m,m<=n+1->∃ B r:Int,0<B/\(n+1)*cg (d::a::l) m=B*((n+1)*d+(n+1 - m)*a)+(n+1)*r/\-(S*B)<=r/\r<=S*B:=λm x=>by
   refine ⟨(bn (n+1) m:Nat),cg l m,by have:=u m x;omega,?_,?_,?_⟩
   ·rw [e];have i:=id m;have i:((n:Int)+1)*(bn n m:Nat)+(m:Int)*(bn (n+1) m:Nat)=((n:Int)+1)*(bn (n+1) m:Nat):=by exact_mod_cast i
    have i2:((n:Int)+1)*(bn n m:Nat)=((n:Int)+1 - m)*(bn (n+1) m:Nat):=by ext
    ext
   ·have:=E m;have:((cg l m).natAbs:Int)<=(S:Int)*(bn (n+1) m:Nat):=by exact_mod_cast this
    omega
   ·have:=E m;have:((cg l m).natAbs:Int)<=(S:Int)*(bn (n+1) m:Nat):=by exact_mod_cast this
    omega
  obtain ⟨Bi,ri,F,Z,G,H⟩:=f i ⋯;obtain ⟨Bj,rj,I,ej,J,K⟩:=f j ⋯;obtain ⟨Bk,rk,L,ek,M,N⟩:=f k ⋯;rw [<-e] at o p hk;have U:(0:Int)<(n:Int)+1:=by omega
  have O:∀ {B c b r:Int},0<B->((n:Int)+1)*c=B*b+((n:Int)+1)*r->-(S*B)<=r->r<=S*B->(0<s*c->-(((n:Int)+1)*S)<s*b)/\(s*c<0->s*b<((n:Int)+1)*S):=λ{B c b r} B0 e1 r1 r2=>by
   have q1:=E8 r1 (show 0<=(n:Int)+1 by omega);have W:=E8 r2 (show 0<=(n:Int)+1 by omega);constructor
   ·intro P;refine Int.not_le.mp λz=>?_;have A:=E8 z (show 0<=B by omega);have C:=CN U P;rcases g with rfl | rfl <;> ext
   ·intro P;refine Int.not_le.mp λz=>?_;have A:=E8 z (show 0<=B by omega);have C:=Int.mul_neg_of_pos_of_neg U P;rcases g with rfl | rfl <;> ext
  have ui:=(O F Z G H).1 o;have uj:=(O I ej J K).2 p;have uk:=(O L ek M N).1 hk
  have zz:2*(((n:Int)+1)*S)<(a.natAbs:Int):=by
   have:((2*(n+1)*S:Nat):Int)<(a.natAbs:Int):=by exact_mod_cast z
   push_cast at this;ext
  generalize ((n:Int)+1)*(S:Int)=NS at *;by_cases w:0<s*a
  ·have a1:(a.natAbs:Int)=s*a:=by rcases g with rfl | rfl <;> omega
   have A:s*a<=((k:Int) - j)*(s*a):=by
    have:=Ft (show (1:Int)<=(k:Int) - j by omega) (show 0<=s*a by omega);omega
   have C:s*(((n:Int)+1)*d+((n:Int)+1 - j)*a)=s*(((n:Int)+1)*d+((n:Int)+1 - k)*a)+((k:Int) - j)*(s*a):=by ext
   omega
  ·have a1:(a.natAbs:Int) = -(s*a):=by rcases g with rfl | rfl <;> omega
   have A:((j:Int) - i)*(s*a)<=s*a:=by
    have:=Ft (show (1:Int)<=(j:Int) - i by omega) (show 0<=-(s*a) by omega);ext
   have C:s*(((n:Int)+1)*d+((n:Int)+1 - i)*a)=s*(((n:Int)+1)*d+((n:Int)+1 - j)*a)+((j:Int) - i)*(s*a):=by ext
   omega
 ·refine DU.mp λz=>?_
  have f:∀ m,m<=n+1->(0<s*d->0<s*cg (d::a::l) m)/\(s*d<0->s*cg (d::a::l) m<0):=λm x=>by
   rw [e];have b0:=u m x;have b1:=E m;have b2:=Y m;generalize bn (n+1) m=B at *;generalize bn n m=D at *;generalize cg l m=r at *
   have q:(a*(D:Nat)+r).natAbs<=(a.natAbs+S)*B:=by
    have A:=Int.natAbs_add_le (a*(D:Nat)) r;have C:(a*(D:Nat)).natAbs<=a.natAbs*B:=by rw [Az,Ce];exact CD _ b2
    rw [DV];omega
   have W:(a.natAbs+S+1)*B<=d.natAbs*B:=CF _ z;have q3:(d*(B:Nat)).natAbs=d.natAbs*B:=by rw [Az,Ce]
   rw [DV,Nat.one_mul] at W;generalize a*(D:Nat)+r=t at *;have q4:t.natAbs<(d*(B:Nat)).natAbs:=by omega
   constructor
   ·intro hp;have:0<s*d*(B:Nat):=CN hp ⋯;rw [Int.mul_assoc] at this;generalize d*(B:Nat)=v at *;rcases g with rfl | rfl <;> omega
   ·intro hp;have:s*d*(B:Nat)<0:=Int.mul_neg_of_neg_of_pos hp ⋯;rw [Int.mul_assoc] at this;generalize d*(B:Nat)=v at *;rcases g with rfl | rfl <;> omega
  rw [<-e] at o p hk
  have R:s*d≠0:=λw=>by
   have:d=0:=by rcases g with rfl | rfl <;> omega
   rw [this] at z;omega
  rcases Int.lt_or_gt_of_ne R with w | w
  ·have:=(f i ⋯).2 w;omega
  ·have:=(f j ⋯).1 w;omega
noncomputable def tq (u w:Rat):dD->dP
 | [],_=>0
 | a::l,0=>(a:Rat)+u*tq u w l 0
 | a::l,i+1=>u*tq u w l (i+1)+w*tq u w l i
theorem Ll (u w:Rat):∀ {l:dD} {i:Nat},l.length<=i->tq u w l i=0
 | [],_,_=>by unfold tq;rfl
 | a::l,0,h=>by cases h
 | a::l,i+1,h=>by
   have h:l.length+1<=i+1:=h;unfold tq;rw [Ll u w (show l.length<=i+1 by omega),Ll u w (show l.length<=i by omega)];ext
theorem Lm (u w x:Rat):∀ l:dD,G' (tq u w l) l.length x=A_ l (u+w*x)
 | []=>rfl
 | a::l=>by
   rw [C1,GJ];show ((a:Rat)+u*tq u w l 0)+x*G' (λk=>u*tq u w l (k+1)+w*tq u w l k) l.length x=(a:Rat)+(u+w*x)*A_ l (u+w*x);rw [Lh,IE,IE,Lm u w x l,<-Lm u w x l]
   have e:G' (tq u w l) l.length x=G' (tq u w l) (l.length+1) x:=by
    show _=G' (tq u w l) l.length x+tq u w l l.length*x ^ l.length;rw [Ll u w (AS _)];ext
   have b:=GJ (tq u w l) x l.length;rw [<-e] at b;generalize G' (tq u w l) l.length x=E at *;generalize G' (λk=>tq u w l (k+1)) l.length x=G at *;rw [b];ext
noncomputable def gm:dD->Nat->Nat
 | [],_=>0
 | a::l,0=>a.natAbs+gm l 0
 | a::l,i+1=>gm l (i+1)+gm l i
def aI (z:Int):(z:Rat)<=((z.natAbs:Nat):Rat)/\-(z:Rat)<=((z.natAbs:Nat):Rat):=by
 have a:z<=((z.natAbs:Nat):Int):=by omega
 have b:-z<=((z.natAbs:Nat):Int):=by omega
 constructor
 ·exact_mod_cast a
 ·have:((-z:Int):Rat)<=(((z.natAbs:Nat):Int):Rat):=by exact_mod_cast b
  rw [C2] at this;exact this
theorem IG {u w:Rat} (b:0<=u) (d:u<=1) (c:0<=w):∀ (l:dD) (i:Nat),tq u w l i<=w ^ i*((gm l i:Nat):Rat)/\-tq u w l i<=w ^ i*((gm l i:Nat):Rat)
 | [],i=>by
   unfold tq gm;have:((0:Nat):Rat)=0:=rfl;rw [this];constructor <;> ext
 | a::l,0=>by
   obtain ⟨e,f⟩:=IG b d c l 0;obtain ⟨o,p⟩:=aI a;unfold tq gm;rw [BJ] at *;have g:(0:Rat)<=((gm l 0:Nat):Rat):=by exact_mod_cast Aa _
   have h:=AR e b;have j:=AR f b;have k:=A9 d g;push_cast;constructor <;> ext
 | a::l,i+1=>by
   obtain ⟨e,f⟩:=IG b d c l (i+1);obtain ⟨m,n⟩:=IG b d c l i;unfold tq gm;have g:(0:Rat)<=w ^ (i+1)*((gm l (i+1):Nat):Rat):=Ab (ID c _) (by exact_mod_cast Aa _);have h:=AR e b;have j:=AR f b;have k:=A9 d g;have q:=AR m c;have r:=AR n c;rw [A3] at *;push_cast;constructor <;> ext
noncomputable def gs (l:dD):Nat->Nat
 | 0=>0
 | n+1=>gs l n+gm l n
theorem Yv (a:Int) (l:dD):∀ n:Nat,gs (a::l) n<=a.natAbs+2*gs l n
 | 0=>by show 0<=_;omega
 | 1=>by
   show 0+gm (a::l) 0<=a.natAbs+2*(0+gm l 0);have:gm (a::l) 0=a.natAbs+gm l 0:=by rw [gm]
   omega
 | n+2=>by
   have b:∀ n:Nat,gs (a::l) (n+1)=a.natAbs+gs l (n+1)+gs l n:=λn=>by
    induction n with
    | zero=>
      show 0+gm (a::l) 0=a.natAbs+(0+gm l 0)+0;have:gm (a::l) 0=a.natAbs+gm l 0:=by rw [gm]
      omega
    | succ n c=>
      show gs (a::l) (n+1)+gm (a::l) (n+1)=a.natAbs+(gs l (n+1)+gm l (n+1))+(gs l n+gm l n);have:gm (a::l) (n+1)=gm l (n+1)+gm l n:=by rw [gm]
      omega
   have h:gs (a::l) (n+2)=a.natAbs+gs l (n+2)+gs l (n+1):=b (n+1);have:gs l (n+2)=gs l (n+1)+gm l (n+1):=rfl;omega
theorem Ln (n:Nat):∀ (l:dD) {B:Nat},(∀ z∈l,z.natAbs<=B)->gs l n+B<=B*2 ^ l.length
 | [],B,_=>by
   have:∀ n,gs [] n=0:=λn=>by induction n with
    | zero=>rfl
    | succ n b=>show gs [] n+gm [] n=0;rw [b,gm]
   rw [this];show 0+B<=B*1;omega
 | a::l,B,h=>by
   have b:=Ln n l (B:=B) λz d=>h z (Bp _ d);have f:=h a (BS ..);have c:=Yv a l n;rw [C1,CL];have e:B*(2 ^ l.length*2)=B*2 ^ l.length+B*2 ^ l.length:=by ext
   omega
theorem Lo (u w:Rat):∀ l:dD,tq u w l 0=A_ l u
 | []=>by unfold tq;rfl
 | a::l=>by unfold tq;rw [Lo u w l];rfl
theorem Pe (u w:Rat):∀ l:dD,tq u w l 1=w*dQ l u
 | []=>by unfold tq;show (0:Rat)=w*0;ext
 | a::l=>by
   show tq u w (a::l) (0+1)=w*(A_ l u+u*dQ l u);rw [tq,Lo,Pe u w l];ext
def Jp {P Q:dD} {M u w:Rat} (hl:P.length=Q.length) (a:∀ x,A_ P x=M*A_ Q (u+w*x)) {i:Nat} (hi:i<Q.length):((P.getD i 0:Int):Rat)=M*tq u w Q i:=
 Lj (n:=Q.length) (g:=λk=>((P.getD k 0:Int):Rat)) (h:=λk=>M*tq u w Q k) (λy _ _=>by rw [IE,Lm,<-a,G5,hl]) i hi
theorem Pf {Q:dD} {K:Rat} (f:0<=K):∀ (l:dD) (b:Nat),(∀ i,i<l.length->(((l.getD i 0).natAbs:Nat):Rat)<=K*((gm Q (b+i):Nat):Rat))->((sz1 l:Nat):Rat)+K*((gs Q b:Nat):Rat)<=K*((gs Q (b+l.length):Nat):Rat)
 | [],b,_=>by
   show ((0:Nat):Rat)+_<=K*((gs Q (b+0):Nat):Rat);have:((0:Nat):Rat)=0:=rfl;rw [this,Nat.add_zero];ext
 | a::l,b,h=>by
   have c:=h 0 (Nat.succ_pos _)
   have d:=Pf (Q:=Q) f l (b+1) λi g=>by
    have:=h (i+1) (Nat.succ_lt_succ g);rw [show b+1+i=b+(i+1) by omega];exact this
   show ((a.natAbs+sz1 l:Nat):Rat)+_<=K*((gs Q (b+(l.length+1)):Nat):Rat);rw [show b+(l.length+1)=b+1+l.length by omega];have e:gs Q (b+1)=gs Q b+gm Q b:=rfl;rw [e] at d;have c:((a.natAbs:Nat):Rat)<=K*((gm Q b:Nat):Rat):=c;push_cast at d ⊢;ext
def Ph {z:Int} {B:Rat} (b:(z:Rat)<=B) (c:-(z:Rat)<=B):((z.natAbs:Nat):Rat)<=B:=by
 rcases Int.natAbs_eq z with e | e
 ·have:(z:Rat)=(((z.natAbs:Nat):Int):Rat):=by rw [<-e]
  have a:(((z.natAbs:Nat):Int):Rat)=((z.natAbs:Nat):Rat):=rfl;ext
 ·have:(z:Rat)=((-((z.natAbs:Nat):Int):Int):Rat):=by rw [<-e]
  rw [C2] at this;have a:(((z.natAbs:Nat):Int):Rat)=((z.natAbs:Nat):Rat):=rfl;ext
theorem deep {Q P T:dD} {U V:Rat->Rat} {M u w H:Rat} (hl:P.length=Q.length) (g:∀ x,A_ P x=M*A_ Q (u+w*x)) (M0:0<M) (u0:0<=u) (u1:u<=1) (w0:0<w) (w1:w<=1) (d:T.length=P.length) (o:∀ y,A_ T y=A_ P.reverse (y+1)) (D:0<=H) (hU:U u<=H/\-U u<=H) (hV:V u<=H/\-V u<=H) (hd:U u*A_ Q u+V u*dQ Q u=1) (hw:w*(H*((gs Q Q.length*(8*Q.length+8):Nat):Rat))<1):sgc T 0<=1:=by
 refine DU.mp λc=>?_;have c:2<=sgc T 0:=c
 have Hw:3<=T.length:=by
  obtain ⟨s,i,j,k,_,ij,jk,_,_,hk⟩:=Lc T c;refine DU.mp λz=>?_;rw [AO,Ba ⋯] at hk;have hk:0<s*0:=hk;omega
 match P,hl,g,d,o with
 | [],hl,g,d,o=>have:T.length=0:=d;omega
 | [p],hl,g,d,o=>have:T.length=1:=d;omega
 | r::m::l,hl,g,d,o=>
   have lQ:Q.length=l.length+2:=by rw [<-hl];rfl
   obtain ⟨t1,t0⟩:=Yu (l:=l) (by rw [d];rfl) o c;have F:=Jp hl g (i:=0) ⋯;have I:=Jp hl g (i:=1) ⋯;rw [Lo] at F;rw [Pe] at I;have F:(r:Rat)=M*A_ Q u:=F;have I:(m:Rat)=M*(w*dQ Q u):=I;have R:0<=M*(w*w):=Ab () (Ab () ())
   have s:=Pf (Q:=Q) R l 2 λi hi=>by
    have e:=Jp hl g (i:=i+2) ⋯;have e:((l.getD i 0:Int):Rat)=M*tq u w Q (i+2):=e;obtain ⟨b1,b2⟩:=IG u0 u1 (show 0<=w by ext) Q (i+2);have g0:(0:Rat)<=((gm Q (i+2):Nat):Rat):=by exact_mod_cast Aa _
    have pw:w ^ (i+2)<=w*w:=by
     have:∀ n:Nat,w ^ n<=1:=λn=>by
      induction n with
      | zero=>rw [BJ];ext
      | succ n ih=>rw [A3];have:=A9 ih (show 0<=w by ext);ext
     rw [show i+2=(i+1)+1 by omega,A3,A3];have:=A9 (this i) (Ab (show 0<=w by ext) (show 0<=w by ext));ext
    have q:=A9 pw g0;have W:=AR (Rat.le_trans b1 q) (show 0<=M by ext);have X:=AR (Rat.le_trans b2 q) (show 0<=M by ext);rw [show 2+i=i+2 by omega];refine Ph ?_ ?_
    ·rw [e];ext
    ·rw [e];ext
   rw [show 2+l.length=Q.length by omega] at s;have J:(0:Rat)<=((gs Q 2:Nat):Rat):=by exact_mod_cast Aa _
   have s:((sz1 l:Nat):Rat)<=M*(w*w)*((gs Q Q.length:Nat):Rat):=by
    have:=Ab R J;ext
   obtain ⟨a1,a2⟩:=aI m;obtain ⟨a3,a4⟩:=aI r
   have a0:((m.natAbs:Nat):Rat)<=2*((l.length:Rat)+1)*((sz1 l:Nat):Rat):=by
    have:((m.natAbs:Nat):Rat)<=((2*(l.length+1)*sz1 l:Nat):Rat):=by exact_mod_cast t1
    push_cast at this;exact this
   have a5:((r.natAbs:Nat):Rat)<=((m.natAbs:Nat):Rat)+((sz1 l:Nat):Rat):=by
    have:((r.natAbs:Nat):Rat)<=((m.natAbs+sz1 l:Nat):Rat):=by exact_mod_cast t0
    push_cast at this;exact this
   obtain ⟨U1,U2⟩:=hU;obtain ⟨V1,V2⟩:=hV
   have K:w*(H*(((gs Q Q.length:Nat):Rat)*(8*((l.length:Rat)+2)+8)))<1:=by
    rw [lQ] at hw ⊢;push_cast at hw;exact hw
   have n0:(0:Rat)<=(l.length:Rat):=by exact_mod_cast Aa _
   have G0:(0:Rat)<=((gs Q Q.length:Nat):Rat):=by exact_mod_cast Aa _
   generalize ((gs Q Q.length:Nat):Rat)=G at *;generalize ((sz1 l:Nat):Rat)=S at *;generalize U u=Uu at *;generalize V u=Vu at *;generalize (l.length:Rat)=n at *;generalize ((m.natAbs:Nat):Rat)=P1 at *;generalize ((r.natAbs:Nat):Rat)=P0 at *;have L:=Ab (show 0<=w by ext) G0;have nS:=AR s (show 0<=2*(n+1) by ext)
   have E:∀ v B:Rat,M*v<=M*B->v<=B:=λv B h=>Cu.mp λz=>by
    have:=Ar M0 (show 0<v - B by ext);ext
   have C:∀ v B:Rat,w*v<=w*B->v<=B:=λv B h=>Cu.mp λz=>by
    have:=Ar w0 (show 0<v - B by ext);ext
   have N:dQ Q u<=2*(n+1)*(w*G):=C _ _ (E _ _ ());have O:-dQ Q u<=2*(n+1)*(w*G):=C _ _ (E _ _ ());have wl:=A9 w1 L;have nw:=AR wl (show 0<=2*(n+1)+1 by ext)
   have W:A_ Q u<=(2*(n+1)+1)*(w*G):=by
    have:A_ Q u<=(2*(n+1)+1)*(w*(w*G)):=E _ _ ();ext
   have X:-A_ Q u<=(2*(n+1)+1)*(w*G):=by
    have:-A_ Q u<=(2*(n+1)+1)*(w*(w*G)):=E _ _ ();ext
   have f:∀ a b A B:Rat,0<=A->0<=B->a<=A->-a<=A->b<=B->-b<=B->a*b<=A*B/\-(a*b)<=A*B:=λa b A B A0 Y h1 h2 Z h4=>by
    rcases (BE:0<=a\/a<=0) with z | z
    ·have x1:=AR Z z;have x2:=AR h4 z;have x3:=A9 h1 Y;constructor <;> ext
    ·have x1:=AR Z (show 0<=-a by ext);have x2:=AR h4 (show 0<=-a by ext);have x3:=A9 h2 Y;constructor <;> ext
   have nG:=Ab n0 L;obtain ⟨x1,x2⟩:=f Uu (A_ Q u) H _ D () U1 U2 W X;obtain ⟨x3,x4⟩:=f Vu (dQ Q u) H _ D () V1 V2 N O;have y1:=Ab D L;have y3:=Ab D nG;have e:w*(H*(G*(8*(n+2)+8)))=8*(H*(n*(w*G)))+24*(H*(w*G)):=by ext
   rw [e] at K;ext
theorem Cn.scl {f:Rat->Rat} {κ b:Rat} (n:κ≠0):∀ {k:Nat} {x:Rat},Cn (λt=>κ*f t) b k x↔Cn f b k x:=by
 have o:0<κ*κ:=by rw [mul_pos_iff'];rcases N' κ 0 with c | c | c <;> ext
 have j:∀ p q:Rat,κ*p*(κ*q)<0↔p*q<0:=λp q=>by
  have e:κ*p*(κ*q)=(κ*κ)*(p*q):=by ext
  rw [e];exact (PX o).2
 intro k
 induction k with
 | zero=>
   intro x;refine and_congr Iff.rfl ⟨λh z=>h (by show κ*f x=0;rw [z];ext),λh z=>?_⟩;rcases B6.mp z with y | y
   ·exact n y
   ·exact h y
 | succ k m=>
   intro x;constructor
   ·rintro ⟨a,y,d,g,i⟩;exact ⟨a,y,d,(j _ _).mp g,m.mp i⟩
   ·rintro ⟨a,y,d,g,i⟩;exact ⟨a,y,d,(j _ _).mpr g,m.mpr i⟩
def Nf.scl {f:Rat->Rat} {κ a b:Rat} (c:κ≠0):Nf (λt=>κ*f t) a b=Nf f a b:=by
 have e:∀ k,IsN (λt=>κ*f t) a b k↔IsN f a b k:=λk=>by
  unfold IsN AltN;constructor
  ·rintro ⟨⟨x,d,g⟩,n⟩;exact ⟨⟨x,d,(Cn.scl c).mp g⟩,λ⟨y,i,j⟩=>n ⟨y,i,(Cn.scl c).mpr j⟩⟩
  ·rintro ⟨⟨x,d,g⟩,n⟩;exact ⟨⟨x,d,(Cn.scl c).mpr g⟩,λ⟨y,i,j⟩=>n ⟨y,i,(Cn.scl c).mp j⟩⟩
 by_cases h:∃ k,IsN f a b k
 ·obtain ⟨k,hk⟩:=h;rw [Eu hk,Eu ((e k).mpr hk)]
 ·unfold Nf;rw [dif_neg h,dif_neg λ⟨k,hk⟩=>h ⟨k,(e k).mp hk⟩]
def Nf.one {f:Rat->Rat} {a b s:Rat} (g:a<b) (h:∀ x,a<x->x<b->0<f x*s):Nf f a b=0:=by
 refine Eu ⟨⟨(a+b) / 2,(),(),λz=>?_⟩,?_⟩
 ·have:=h ((a+b) / 2) () ();rw [z] at this;ext
 ·rintro ⟨x,c,d,y,i,j,e,_⟩;have p:=aH (h x c d) (h y () e);ext
def Sf.keeps {l:dD} (h:Sf l) {a b:Rat} (D:a<b) (n:Nf (A_ l) a b=0) (E:A_ l a≠0) (F:A_ l b≠0):∀ x,a<=x->x<=b->0<=A_ l x*A_ l a:=by
 have r:=h.isN D;rw [n] at r;have G:∀ x y,a<x->x<y->y<b->¬ A_ l x*A_ l y<0:=λx y f g H A=>r.2 ⟨x,f,(),y,g,A,H,λz=>by rw [z] at A;ext⟩;obtain ⟨_,j,K,B⟩:=La E;obtain ⟨⟨k,L,C⟩,_⟩:=La F
 have d:∀ x,a<x->∃ p,a<p/\p<x/\0<A_ l p*A_ l a:=λx M=>by
  rcases (BE:x<=a+j\/a+j<=x) with c | c
  ·exact ⟨(a+x) / 2,(),(),B _ () ()⟩
  ·exact ⟨a+j / 2,(),(),B _ () ()⟩
 have e:∀ x,a<x->x<b->0<=A_ l x*A_ l a:=λx f g=>by
  obtain ⟨p,m,o,i⟩:=d x f;refine Cu.mp λz=>G p x m o g ?_;have:0<A_ l x * -A_ l a:=by ext
  have:=cY this i;ext
 intro x f g;by_cases I:x=a
 ·rw [I];have:0<A_ l a*A_ l a:=by rw [mul_pos_iff'];rcases N' (A_ l a) 0 with c | c | c <;> ext
  ext
 ·by_cases J:x=b
  ·rw [J];refine Cu.mp λz=>?_
   obtain ⟨p,m,o,i⟩:∃ p,a<p/\p<b/\0<A_ l p*A_ l b:=by
    rcases (BE:a<=b - k\/b - k<=a) with c | c
    ·exact ⟨b - k / 2,(),(),C _ () ()⟩
    ·exact ⟨(a+b) / 2,(),(),C _ () ()⟩
   have q:=e p m o;have N:A_ l p≠0:=λw=>by rw [w] at i;ext
   rcases mul_pos_iff'.mp i with ⟨u,v⟩ | ⟨u,v⟩
   ·rcases mul_neg_iff'.mp z with ⟨s,t⟩ | ⟨s,t⟩
    ·have:=mul_neg_iff'.mpr (.inl ⟨u,t⟩);ext
    ·ext
   ·rcases mul_neg_iff'.mp z with ⟨s,t⟩ | ⟨s,t⟩
    ·ext
    ·have:=mul_neg_iff'.mpr (.inr ⟨u,t⟩);ext
  ·exact e x () ()
theorem Pi (R:Rat) (d:0<=R):∀ (l:dD),∃ C D,0<=C/\0<=D/\∀ m,-R<=m->m<=R->(dQ l m<=D/\-dQ l m<=D)/\∀ h,-1<=h->h<=1->-(C*(h*h))<=A_ l (m+h) - A_ l m - h*dQ l m/\A_ l (m+h) - A_ l m - h*dQ l m<=C*(h*h)
 | []=>⟨0,0,(),(),λm _ _=>⟨by show (0:Rat)<=0/\-(0:Rat)<=0;constructor <;> ext,λh _ _=>by show -(0*(h*h))<=(0:Rat) - 0 - h*0/\(0:Rat) - 0 - h*0<=0*(h*h);constructor <;> ext⟩⟩
 | a::l=>by
   obtain ⟨C,D,p,f,g⟩:=Pi R d l;obtain ⟨B,E,x⟩:=(S_ l).bound R d;have F:=Ab (show 0<=R+1 by ext) p;have G:=Ab d f;refine ⟨D+(R+1)*C,B+R*D,(),(),λm q i=>?_⟩;obtain ⟨⟨b,c⟩,g⟩:=g m q i;obtain ⟨H,I⟩:=x m q i;constructor
   ·show A_ l m+m*dQ l m<=B+R*D/\-(A_ l m+m*dQ l m)<=B+R*D;rcases (BE:0<=m\/m<=0) with z | z
    ·have j:=AR b z;have k:=AR c z;have n:=A9 i f;constructor <;> ext
    ·have j:=AR b (show 0<=-m by ext);have k:=AR c (show 0<=-m by ext);have n:=A9 (show -m<=R by ext) f;constructor <;> ext
   ·intro h y A;obtain ⟨u,v⟩:=g h y A
    have o:0<=h*h:=by
     rcases (BE:0<=h\/h<=0) with z | z
     ·exact Ab z z
     ·have:=Ab (show 0<=-h by ext) (show 0<=-h by ext);ext
    have e:A_ (a::l) (m+h) - A_ (a::l) m - h*dQ (a::l) m=h*h*dQ l m+(m+h)*(A_ l (m+h) - A_ l m - h*dQ l m):=by
     show ((a:Rat)+(m+h)*A_ l (m+h)) - ((a:Rat)+m*A_ l m) - h*(A_ l m+m*dQ l m)=_;ext
    rw [e];generalize A_ l (m+h) - A_ l m - h*dQ l m=r at *;have w:=Ab p o;have J:=AR b o;have K:=AR c o
    have s:-((R+1)*(C*(h*h)))<=(m+h)*r/\(m+h)*r<=(R+1)*(C*(h*h)):=by
     rcases (BE:0<=m+h\/m+h<=0) with z | z
     ·have j:=AR u z;have k:=AR v z;have n:=A9 (show m+h<=R+1 by ext) w;constructor <;> ext
     ·have j:=AR u (show 0<=-(m+h) by ext);have k:=AR v (show 0<=-(m+h) by ext);have n:=A9 (show -(m+h)<=R+1 by ext) w;constructor <;> ext
    constructor <;> ext
def Jq {a b c d:Rat} (f:0<a) (g:0<b) (h:0<c) (i:0<d):∃ m,0<m/\m<=a/\m<=b/\m<=c/\m<=d:=by
 have e:∀ x y:Rat,0<x->0<y->∃ m,0<m/\m<=x/\m<=y:=λx y j k=>by
  rcases (BE:x<=y\/y<=x) with z | z
  ·exact ⟨x,j,(),z⟩
  ·exact ⟨y,k,z,()⟩
 obtain ⟨p,n,u,v⟩:=e a b f g;obtain ⟨q,o,w,A⟩:=e c d h i;obtain ⟨m,r,B,C⟩:=e p q n o;exact ⟨m,r,(),(),(),()⟩
def Yw {l:dD} {a b R H s:Rat} {U V:Rat->Rat} (ab:a<b) (M:0<=R) (ra:-R<=a) (rb:b<=R) (k:s=1\/s = -1) (N:∀ x,a<=x->x<=b->0<=s*A_ l x) (O:0<s*A_ l a) (P:0<s*A_ l b) (H1:0<H)
  (hU:∀ x,a<=x->x<=b->U x<=H/\-U x<=H) (hV:∀ x,a<=x->x<=b->V x<=H/\-V x<=H) (r:∀ x,a<=x->x<=b->U x*A_ l x+V x*dQ l x=1):∃ Q,0<Q/\∀ x,a<=x->x<=b->Q<=s*A_ l x:=by
 obtain ⟨L,u,S⟩:=(S_ l).lip R M;obtain ⟨C,D,C0,D0,hC⟩:=Pi R M l;obtain ⟨A,A0,A1,A2,_,_⟩:=Jq O P O P;obtain ⟨v,p0,p1,p2⟩:=Dz (p:=A / 2) (q:=L) () u;obtain ⟨m,m0,m1,m2,m3,m4⟩:=Jq (a:=A / 2) (b:=v) (c:=1 / 2) (d:=1) () p0 () ();have HH:=Ab (show 0<=H by ext) (show 0<=H by ext);have y:=Ab C0 HH;obtain ⟨f,T,e1,e2⟩:=Dz (p:=m) (q:=2+4*H+32*(C*(H*H))) m0 ();have He:=Ar H1 T;have a0:=Ab y (show 0<=f by ext);have q1:2*f<m:=by ext
 have q2:4*(H*f)<m:=by ext
 have q3:32*(C*(H*H)*f)<m:=by ext
 refine ⟨f,T,λx i j=>Cu.mp λz=>?_⟩;have sx:=N x i j;have W:∀ p q B:Rat,p - q<=B->q - p<=B->s*q - s*p<=B:=λp q B E F=>by rcases k with e | e <;> rw [e] <;> ext
 have X:v<x - a:=CV.mp λw=>by
  obtain ⟨G,I⟩:=S a x ra i ();have:=W (A_ l x) (A_ l a) _ G I;have:=AR w u;ext
 have Y:v<b - x:=CV.mp λw=>by
  obtain ⟨G,I⟩:=S x b () j rb;have:=W (A_ l x) (A_ l b) _ I G;have:=AR w u;ext
 obtain ⟨U1,U2⟩:=hU x i j;obtain ⟨V1,V2⟩:=hV x i j;have uv:=r x i j
 have g:∀ a b A B:Rat,0<=A->0<=B->a<=A->-a<=A->b<=B->-b<=B->a*b<=A*B/\-(a*b)<=A*B:=λa b A B A0 Z E F n o=>by
  rcases (BE:0<=a\/a<=0) with z | z
  ·have i:=AR n z;have j:=AR o z;have x3:=A9 E Z;constructor <;> ext
  ·have i:=AR n (show 0<=-a by ext);have j:=AR o (show 0<=-a by ext);have x3:=A9 F Z;constructor <;> ext
 have g1:A_ l x<=f/\-A_ l x<=f:=by rcases k with e | e <;> rw [e] at sx z <;> constructor <;> ext
 obtain ⟨y1,y2⟩:=g (U x) (A_ l x) H f () () U1 U2 g1.1 g1.2
 obtain ⟨d,d0,J⟩:∃ d,0<=d/\(s*dQ l x=d\/s*dQ l x = -d):=by
  rcases (BE:0<=s*dQ l x\/s*dQ l x<=0) with w | w
  ·exact ⟨_,w,.inl rfl⟩
  ·exact ⟨-(s*dQ l x),(),.inr ()⟩
 have dq:dQ l x<=d/\-dQ l x<=d:=by rcases k with e | e <;> rw [e] at J <;> rcases J with w | w <;> constructor <;> ext
 obtain ⟨y3,y4⟩:=g (V x) (dQ l x) H d () d0 V1 V2 dq.1 dq.2;have dl:1<=2*(H*d):=by ext
 obtain ⟨h,E,F,n,o⟩:∃ h,-(4*(H*f))<=h/\h<=4*(H*f)/\h*(s*dQ l x) = -(4*(H*f)*d)/\h*h=16*(H*f*(H*f)):=by
  rcases J with w | w
  ·exact ⟨-(4*(H*f)),(),(),by rw [w];ext,()⟩
  ·exact ⟨4*(H*f),(),(),by rw [w];ext,()⟩
 obtain ⟨_,K⟩:=hC x () ();obtain ⟨t1,t2⟩:=K h () ();have a1:=N (x+h) () ();have up:s*A_ l (x+h)<=s*A_ l x+h*(s*dQ l x)+C*(h*h):=by rcases k with e | e <;> rw [e] <;> ext
 rw [n,o] at up;have e5:4*(H*f)*d=2*f*(2*(H*d)):=by ext
 have k1:=AR dl (show 0<=2*f by ext);have e6:C*(16*(H*f*(H*f)))=16*(C*(H*H)*f)*f:=by ext
 have k2:=A9 (show 16*(C*(H*H)*f)<=1 / 2 by ext) (show 0<=f by ext);ext
theorem Pj {g κ s:Rat} (d:0<κ) (f:s=1\/s = -1) (h:κ<=s*g):∀ e:Nat,κ ^ e<=g ^ e\/κ ^ e<=-(g ^ e)
 | 0=>.inl (by rw [BJ,BJ];ext)
 | e+1=>by
   have p:=GH d e;rw [A3,A3]
   have c:∀ u v:Rat,κ<=v->κ ^ e<=u->κ ^ e*κ<=u*v:=λu v i j=>by
    have a:=AR i (show 0<=κ ^ e by ext);have b:=A9 j (show 0<=v by ext);ext
   rcases f with w | w <;> rw [w] at h <;> rcases Pj d () (show κ<=s*g by rw [w];exact h) e with q | q
   ·exact .inl (c _ _ () q)
   ·exact .inr (by have:=c (-(g ^ e)) g () q;ext)
   ·exact .inr (by have:=c (g ^ e) (-g) () q;ext)
   ·exact .inl (by have:=c (-(g ^ e)) (-g) () q;ext)
def Yx {l:dD} {f K U V:Rat->Rat} {n k e:Nat} {a b c H:Rat} (S:Sf l) (T:Pn n f) (W:Pn k K) (X:c≠0) (Y:∀ x,f x*K x=c*A_ l x ^ e) (o:a<b) (h:f a*f b<0) (F:A_ l a≠0) (G:A_ l b≠0) (Z:0<H)
  (hU:∀ x,a<=x->x<=b->U x<=H/\-U x<=H) (hV:∀ x,a<=x->x<=b->V x<=H/\-V x<=H) (v:∀ x,a<=x->x<=b->U x*A_ l x+V x*dQ l x=1):Nf (A_ l) a b≠0:=λn0=>by
 have i:=S.keeps o n0 F G
 obtain ⟨s,j,I⟩:∃ s:Rat,(s=1\/s = -1)/\0<s*A_ l a:=by
  rcases N' (A_ l a) 0 with w | w | w
  ·exact ⟨-1,.inr rfl,()⟩
  ·exact absurd w F
  ·exact ⟨1,.inl rfl,()⟩
 have J:∀ x,a<=x->x<=b->0<=s*A_ l x:=λx A C=>by
  have:=i x A C;refine Cu.mp λz=>?_
  have:A_ l x*A_ l a<0:=by
   rw [mul_neg_iff'];rcases j with w | w <;> rw [w] at I z <;> ext
  ext
 have sb:0<s*A_ l b:=by
  have:=J b () ();refine CV.mp λz=>G ?_;rcases j with w | w <;> rw [w] at this z <;> ext
 obtain ⟨R,L,ra,rb⟩:∃ R,0<=R/\-R<=a/\b<=R:=by
  rcases (BE:0<=b\/b<=0) with z | z <;> rcases (BE:0<=a\/a<=0) with w | w
  ·exact ⟨b,z,(),()⟩
  ·exact ⟨b - a,(),(),()⟩
  ·exact ⟨0,(),(),()⟩
  ·exact ⟨-a,(),(),()⟩
 obtain ⟨M,N,hk⟩:=Yw o L ra rb j J I sb Z hU hV v;obtain ⟨B,D,hB⟩:=W.bound R L;have pe:=GH N e
 obtain ⟨g,c1,O⟩:∃ g,0<g/\(c=g\/c = -g):=by
  rcases N' c 0 with w | w | w
  ·exact ⟨-c,(),.inr ()⟩
  ·exact absurd w X
  ·exact ⟨c,w,.inl rfl⟩
 obtain ⟨m,e0,_,e2⟩:=Dz (p:=g*M ^ e) (q:=B) (Ar c1 pe) D;obtain ⟨r,r1,r2,r3,r4⟩:=T.near o h e0;have E:=Pj N j (hk r () ()) e;obtain ⟨P,Q⟩:=hB r () ();have q:=Y r
 have d:f r*K r<=m*B/\-(f r*K r)<=m*B:=by
  rcases (BE:0<=f r\/f r<=0) with z | z
  ·have A:=AR Q z;have C:=AR P z;have x3:=A9 (show f r<=m by ext) D;constructor <;> ext
  ·have A:=AR Q (show 0<=-f r by ext);have C:=AR P (show 0<=-f r by ext);have x3:=A9 (show -f r<=m by ext) D;constructor <;> ext
 rw [q] at d;have m1:=λu=>AR (a:=M ^ e) (b:=u) (c:=g);rcases E with w | w
 ·have:=AR w (show 0<=g by ext);rcases O with y | y <;> rw [y] at d <;> ext
 ·have:=AR w (show 0<=g by ext);rcases O with y | y <;> rw [y] at d <;> ext
end Bs
namespace Bs
open PySem
noncomputable def GN (K:W.Frag):Addr:=match W.nsIn K PySem.mainGlobals "EXPONENTS" with | some (some (.ref a))=>a | _=>0
end Bs
namespace Bs
open PySem L2
abbrev eC (Q:VK):Ends:={ nx:=λ_ h=>Q .non h,rt:=Q }
noncomputable def W_ (f:dP) (n:Nat) (x:Rat):dP
 | 0=>0
 | d+1=>f (n - 1 - d)+x*W_ f n x d
theorem Pm {f g:dP} {n:Nat} {x:Rat}:∀ d,d<=n->(∀ i,n - d<=i->i<n->f i=g i)->W_ f n x d=W_ g n x d
 | 0,_,_=>rfl
 | d+1,b,h=>by
   show f (n - 1 - d)+x*W_ f n x d=g (n - 1 - d)+x*W_ g n x d;rw [Pm d ⋯ (λi c a=>h i ⋯ a),h (n - 1 - d) ⋯ ⋯]
theorem Lp {f:dP} {n:Nat} {x B:Rat}:∀ d,W_ (λi=>f i / B) n x d=W_ f n x d / B
 | 0=>(R_ B).symm
 | d+1=>by
   show f (n - 1 - d) / B+x*W_ (λi=>f i / B) n x d=(f (n - 1 - d)+x*W_ f n x d) / B;rw [Lp d];ext
noncomputable def sy (c:Int) (R:dO) (n:Nat):dO
 | 0=>R (n - 1)
 | d+1=>R (n - 1 - (d+1))+c*sy c R n d
noncomputable def rnd (c:Int) (R:dO) (n first:Nat) (j:Nat):Int:=if j<first then R j else sy c R n (n - 1 - j)
noncomputable def a6 (R:dO) (k:Nat):Rat:=(R k:Rat)
theorem Po {c:Int} {R:dO} {n first:Nat} {y:Rat}:∀ d,d+1+first<=n->W_ (a6 R) n y (d+1)=(sy c R n d:Rat)+(y - c)*W_ (a6 (rnd c R n first)) n y d
 | 0,_=>by show (R (n - 1 - 0):Rat)+y*0=(R (n - 1):Rat)+(y - c)*0;rw [Nat.sub_zero];ext
 | d+1,h=>by
   show (R (n - 1 - (d+1)):Rat)+y*W_ (a6 R) n y (d+1)=((R (n - 1 - (d+1))+c*sy c R n d:Int):Rat)+(y - c)*((rnd c R n first (n - 1 - d):Rat)+y*W_ (a6 (rnd c R n first)) n y d);rw [Po (c:=c) (first:=first) d ⋯]
   have e:rnd c R n first (n - 1 - d)=sy c R n d:=by
    unfold rnd;rw [sY ⋯,show n - 1 - (n - 1 - d)=d by omega]
   rw [e];push_cast;ext
noncomputable def mx (R:dO) (n:Nat) (y c:Rat):Nat->dP
 | 0,lo=>W_ (a6 R) n y (n - lo)
 | t+1,lo=>(R lo:Rat)+(y - c)*mx R n y c t (lo+1)
theorem Pp {c:Int} {R:dO} {n first:Nat} {y:Rat} (a:first+1<=n):∀ t lo,lo+t=first->mx R n y c t lo=mx (rnd c R n first) n y c (t+1) lo
 | 0,lo,h=>by
   show W_ (a6 R) n y (n - lo)=(rnd c R n first lo:Rat)+(y - c)*W_ (a6 (rnd c R n first)) n y (n - (lo+1));have e:rnd c R n first lo=sy c R n (n - 1 - lo):=by unfold rnd;rw [sY ⋯]
   rw [e,show n - lo=(n - 1 - lo)+1 by omega,show n - (lo+1)=n - 1 - lo by omega];exact Po _ ⋯
 | t+1,lo,h=>by
   show (R lo:Rat)+(y - c)*mx R n y c t (lo+1)=(rnd c R n first lo:Rat)+(y - c)*mx (rnd c R n first) n y c (t+1) (lo+1);have e:rnd c R n first lo=R lo:=by unfold rnd;rw [sZ ⋯]
   rw [e,Pp a t (lo+1) ⋯]
theorem Pq {R:dO} {n:Nat} {y c:Rat}:∀ t lo,lo+t+1=n->mx R n y c t lo=W_ (a6 R) n (y - c) (n - lo)
 | 0,lo,h=>by
   show W_ (a6 R) n y (n - lo)=_;rw [show n - lo=0+1 by omega];show a6 R (n - 1 - 0)+y*0=a6 R (n - 1 - 0)+(y - c)*0;ext
 | t+1,lo,h=>by
   show (R lo:Rat)+(y - c)*mx R n y c t (lo+1)=_;rw [Pq t (lo+1) ⋯,show n - lo=(n - (lo+1))+1 by omega];show _=a6 R (n - 1 - (n - (lo+1)))+_;rw [show n - 1 - (n - (lo+1))=lo by omega];rfl
noncomputable def X_ (c:Int) (R:dO) (n:Nat):Nat->dO
 | 0=>R
 | i+1=>rnd c (X_ c R n i) n i
theorem Ps {c:Int} {R:dO} {n:Nat} {y:Rat}:∀ i,i+1<=n->mx (X_ c R n i) n y c i 0=W_ (a6 R) n y n
 | 0,_=>rfl
 | i+1,h=>by
   rw [<-Ps i ⋯];exact (Pp ⋯ i 0 ⋯).symm
def Yy {c:Int} {R:dO} {n:Nat} {y:Rat} (a:1<=n):W_ (a6 (X_ c R n (n - 1))) n y n=W_ (a6 R) n (y+c) n:=by
 have h:=Ps (c:=c) (R:=R) (n:=n) (y:=y+c) (n - 1) ⋯;rw [Pq (n - 1) 0 ⋯] at h;rw [<-h,Nat.sub_zero];congr 1;ext
abbrev Nm (H:Hp) (p:Addr) (t d:Int):Prop:=H p=some (.tup [.int t,.int d])
def Ev (_:W.Frag):Sp:=λc H Q _=>∃ a b:Int,c=[.int a,.int b]/\Q (.int ((Int.gcd a b:Nat):Int)) H
def Jr (K:W.Frag):Sp:=λc H Q _=>∃ (a:Addr) (b:dD),c=[.ref a]/\SqL K H a (b.map V.int)/\b.length<=63/\∀ d,Q (.bl true) d
def Js (_:W.Frag):Sp:=λa H Q _=>∃ (x n:Int) (b:Nat),a=[.int x,.int n]/\0<=n/\Bd b x/\b*n.toNat+1<=200000/\Q (.int (x ^ n.toNat)) H
noncomputable def Ai (n:Nat) (f:dO):dz:=((List.range n).map f).map V.int
noncomputable def DJ (a:dD):Nat->Nat
 | 0=>0
 | m+1=>if a.getD m 1=0 then DJ a m else m+1
noncomputable def C8 (a:dD):dD:=a.take (DJ a a.length)
def Pl (H:Hp) (r:Addr) (L:dg):Prop:=∃ a,H r=some (.tup a)/\Nums H a L
def G7 (_:W.Frag):Sp:=λb H Q _=>∃ (p:Addr) (a:dD),b=[.ref p]/\H p=some (.lst (a.map V.int))/\∀ r,H r=none->Q (.ref r) (upd H r (.lst ((C8 a).map V.int)))
def Tz (a:dD):Prop:=a=[]\/co a (a.length - 1)≠0
noncomputable def SDs (H:Hp):dz->List (dD)->Prop
 | [],[]=>True
 | x::a,r::b=>(∃ p,x=.ref p/\H p=some (.lst (r.map V.int)))/\SDs H a b
 | _,_=>False
def SD (H:Hp) (p:Addr) (b:List (dD)):Prop:=∃ a,H p=some (.lst a)/\SDs H a b
def IH (_:W.Frag):Sp:=λe H Q _=>∃ (p:Addr) (a:dD) (b:Int),e=[.ref p,.int b]/\H p=some (.lst (a.map V.int))/\a.length<=1000/\∀ (g:Int) (c:Hp),Same H c->0<=g->g∣b->(∀ z∈a,g∣z)->(∀ d:Int,d∣b->(∀ z∈a,d∣z)->d∣g)->Q (.int g) c
def II (_:W.Frag):Sp:=λb H Q _=>∃ (p:Addr) (a:dD) (g:Int),b=[.ref p,.int g]/\H p=some (.lst (a.map V.int))/\(0<g\/a=[])/\a.length<=1000/\∀ r,H r=none->Q (.ref r) (upd H r (.lst ((a.map (·/ g)).map V.int)))
def IJ (_:W.Frag):Sp:=λe H Q _=>∃ (p q:Addr) (a b:dD) (f w:Int) (s:Nat),e=[.ref p,.int f,.ref q,.int w,.int (s:Int)]/\H p=some (.lst (a.map V.int))/\H q=some (.lst (b.map V.int))/\a.length<=1000/\s+b.length<=1000/\Bd 60000000 f/\Bd 60000000 w/\(∀ z∈a,Bd 60000000 z)/\(∀ z∈b,Bd 60000000 z)/\
 ∀ (r:Addr) (c:dD) (d:Hp),Same H d->d r=some (.lst (c.map V.int))->Tz c->(∀ k,co c k=f*co a k - w*Ax s (co b) k)->Q (.ref r) d
def G8 (_:W.Frag):Sp:=λg H Q _=>∃ (p q:Addr) (a c:dD) (b d:Nat),g=[.ref p,.ref q]/\H p=some (.lst (a.map V.int))/\H q=some (.lst (c.map V.int))/\Lz c/\(∀ z∈a,Bd b z)/\(∀ z∈c,Bd d z)/\b+a.length*(d+1)<=60000000/\d<=60000000/\a.length<=1000/\c.length<=1000/\((¬ ∃ A:dD,∀ k,co a k=cvL A (co c) k)->∀ e,Same H e->Q .non e)/\
 ∀ (r:Addr) (f:dD) (e:Hp),Same H e->e r=some (.lst (f.map V.int))->f.length=a.length+1 - c.length->(∀ k,co a k=cvL f (co c) k)->Q (.ref r) e
def Sh (b a:List (dD)):Prop:=∃ g:Int,0<g/\b=a.map (·.map (g*·))
def Yz (a:List (dD)):Prop:=(∀ r∈a,r=[])\/∀ d:Int,(∀ r∈a,∀ z∈r,d∣z)->d.natAbs=1
def IK (_:W.Frag):Sp:=λd H Q _=>∃ (p:Addr) (b:List (dD)),d=[.ref p]/\SD H p b/\b.length<=1000/\(∀ r∈b,r.length<=1000/\Tz r)/\
 ∀ (t:Addr) (a:List (dD)) (c:Hp),Same H c->SD c t a->Sh b a->Yz a->Q (.ref t) c
def GO (_:W.Frag):Sp:=λd H Q _=>∃ (p:Addr) (a:dD),d=[.ref p]/\H p=some (.lst (a.map V.int))/\a.length<=1000/\Tz a/\
 ∀ (t:Addr) (b:dD) (g:Int) (c:Hp),Same H c->c t=some (.lst (b.map V.int))->0<g->a=b.map (g*·)->(a=[]\/Prim b)->Q (.ref t) c
def Jt (_:W.Frag):Sp:=λb H Q _=>∃ (p q:Addr) (o:dD),b=[.ref p,.ref q]/\SD H p [[]]/\SD H q [o]/\0<o.length/\∀ (t:Addr) (a:Hp),Same H a->SD a t [[]]->Q (.ref t) a
def IL (_:W.Frag):Sp:=λb H Q _=>∃ (p q:Addr) (s o:dD),b=[.ref p,.ref q]/\SD H p [s]/\SD H q [o]/\(s=[]\/o=[])/\∀ (t:Addr) (a:Hp),Same H a->SD a t [if o=[] then s else o]->Q (.ref t) a
def Ju (_:W.Frag):Sp:=λb H Q _=>∃ a p:Int,b=[.int a,.int p]/\2<=p/\Bd 45000 p/\∀ r:Int,0<=r->r<p->(Int.gcd a p=1->p∣r*a - 1)->Q (.int r) H
def Jv (_:W.Frag):Sp:=λb H Q _=>∃ (p:Addr) (a:dD) (m:Int),b=[.ref p,.int m]/\H p=some (.lst (a.map V.int))/\0<m/\a.length<=1000/\∀ r,H r=none->Q (.ref r) (upd H r (.lst ((a.map (·% m)).map V.int)))
def Md (m:Int) (a:dD) (f:dO):Prop:=(∀ z∈a,0<=z/\z<m)/\∀ k,m∣co a k - f k
def G9 (_:W.Frag):Sp:=λd H Q _=>∃ (p:Addr) (a:dD) (m:Int),d=[.ref p,.int m]/\H p=some (.lst (a.map V.int))/\0<m/\a.length<=1000/\∀ (r:Addr) (b:dD) (c:Hp),Same H c->c r=some (.lst (b.map V.int))->Tz b->b.length<=a.length->Md m b (co a)->Q (.ref r) c
def HA (_:W.Frag):Sp:=λd H Q _=>∃ (q:Addr) (a:dD) (p:Nat),d=[.ref q,.int (p:Int)]/\H q=some (.lst (a.map V.int))/\2<=p/\Bd 45000 (p:Int)/\a.length<=1000/\(∀ z∈a,Bd 60000000 z)/\(a≠[]->Int.gcd (co a (a.length - 1)) (p:Int)=1)/\
 ∀ (r:Addr) (b:dD) (f:Int) (c:Hp),Same H c->c r=some (.lst (b.map V.int))->b.length=a.length->(a≠[]->co b (b.length - 1)=1)->Md (p:Int) b (λk=>f*co a k)->Q (.ref r) c
def Jw (_:W.Frag):Sp:=λg H Q _=>∃ (p q:Addr) (f a:dD) (m:Int) (b:Nat),g=[.ref p,.ref q,.int m]/\H p=some (.lst (f.map V.int))/\H q=some (.lst (a.map V.int))/\0<a.length/\co a (a.length - 1)=1/\0<m/\Bd b m/\(∀ z∈a,Bd b z)/\b<=60000000/\f.length<=1000/\a.length<=1000/\
 ∀ (t r s:Addr) (d e:dD) (c:Hp),Same H c->c t=some (.tup [.ref r,.ref s])->c r=some (.lst (d.map V.int))->c s=some (.lst (e.map V.int))->Tz d->Tz e->e.length<a.length->Md m e (λk=>co f k - cvL d (co a) k)->(∀ z∈d,0<=z/\z<m)->Q (.ref t) c
def Jx (_:W.Frag):Sp:=λf H Q _=>∃ (p q:Addr) (d a:dD) (m:Int) (b:Nat),f=[.ref p,.ref q,.int m]/\H p=some (.lst (d.map V.int))/\H q=some (.lst (a.map V.int))/\0<a.length/\co a (a.length - 1)=1/\0<m/\Bd b m/\(∀ z∈a,Bd b z)/\b<=60000000/\d.length<=1000/\a.length<=1000/\
 ∀ (s:Addr) (g c:dD) (e:Hp),Same H e->e s=some (.lst (c.map V.int))->Tz c->c.length<a.length->Md m c (λk=>co d k - cvL g (co a) k)->Q (.ref s) e
def Jy (_:W.Frag):Sp:=λh H Q _=>∃ (a b:Addr) (d e:dD) (p:Nat),h=[.ref a,.ref b,.int (p:Int)]/\H a=some (.lst (d.map V.int))/\H b=some (.lst (e.map V.int))/\Pr p/\Bd 45000 (p:Int)/\d.length<=1000/\e.length<=1000/\((∃ k,¬ (p:Int)∣co d k)\/∃ k,¬ (p:Int)∣co e k)/\
 ∀ (s:Addr) (c:dD) (f:Hp),Same H f->f s=some (.lst (c.map V.int))->0<c.length->c.length<=1000->co c (c.length - 1)=1->(∀ z∈c,0<=z/\z<(p:Int))->(∀ g:dO,Dm (p:Int) g (co d)->Dm (p:Int) g (co e)->Dm (p:Int) g (co c))->Dm (p:Int) (co c) (co d)->Dm (p:Int) (co c) (co e)->Q (.ref s) f
def Jz (_:W.Frag):Sp:=λa H Q _=>∃ w p:Int,a=[.int w,.int p]/\0<p/\∀ r:Int,p∣r - w->2*r.natAbs<=p.natAbs->Q (.int r) H
def Pu (d n c p:Nat):Prop:=2 ^ ((d+n*(2*c+4)+c+2)*(2*(n - 1)))<p
def J0 (_:W.Frag):Sp:=λi H Q _=>∃ (a b:Addr) (e f:dD) (p d n c:Nat),i=[.ref a,.ref b,.int (p:Int)]/\H a=some (.lst (e.map V.int))/\H b=some (.lst (f.map V.int))/\Pr p/\Bd 45000 (p:Int)/\Lz e/\Lz f/\(∀ z∈e,Bd d z)/\(∀ z∈f,Bd d z)/\d+e.length*45001<=1000000/\d+f.length*45001<=1000000/\e.length<=n/\f.length<=n/\n<2 ^ c/\2<=n/\(¬ Pu d n c p->∀ g,Same H g->Q .non g)/\
 ∀ (s:Addr) (h:dD) (g:Hp),Same H g->g s=some (.lst (h.map V.int))->RC (co e) (co f) h->Prim h->Q (.ref s) g
def IM (_:W.Frag):Sp:=λi H Q _=>∃ (a b:Addr) (e f:dD) (d n c:Nat),i=[.ref a,.ref b]/\H a=some (.lst (e.map V.int))/\H b=some (.lst (f.map V.int))/\Tz e/\Tz f/\(∀ z∈e,Bd d z)/\(∀ z∈f,Bd d z)/\e.length<=n/\f.length<=n/\n<=20/\2<=n/\n<2 ^ c/\(d+n*(2*c+4)+c+2)*(2*(n - 1))<=44490/\((e=[]\/f=[])->2*3 ^ (e.length+f.length)*(d+1)<=60000000)/\
 ∀ (s:Addr) (g:dD) (h:Hp),Same H h->h s=some (.lst (g.map V.int))->((e≠[]\/f≠[])->RC (co e) (co f) g/\Prim g)->(e=[]->f=[]->g=[])->Q (.ref s) h
structure Gq (b c:Nat) (l:dg):Prop where
 low:A7 l
 nz:Nz l
 ov:∃ M,Ov l M/\Bd c M/\∀ z∈J_ l M,Bd b z
noncomputable def ai (g:dD):dg:=g.map λn=>AT n (co g (g.length - 1))
def MR (g f:dP):Prop:=∃ A:List Rat,∀ k,f k=cvL A g k
def Fj (_:W.Frag):Sp:=λc H Q _=>∃ a b:Int,c=[.int a,.int b]/\b≠0/\∀ (p:Addr),H p=none->Q (.ref p) (upd H p (.tup [.int (AT a b).1,.int (AT a b).2]))
def HB (_:W.Frag):Sp:=λb H Q _=>∃ (p:Addr) (a:dz) (l:dg),b=[.ref p]/\H p=some (.lst a)/\Nums H a l/\l.length<=1000/\Gy H Q (K' l)
def FN (_:W.Frag):Sp:=λd H Q _=>∃ (p:Addr) (c:dz) (l:dg) (M:Int),d=[.ref p]/\H p=some (.tup c)/\Nums H c l/\A7 l/\Ov l M/\Bd 400000 M/\(∀ q∈l,Bd 60000000 q.1)/\l.length<=1000/\
 ∀ (r a:Addr) (b:Hp),Same H b->b r=some (.tup [.ref a,.int (Ao l)])->b a=some (.lst ((Aj l).map V.int))->Q (.ref r) b
def IN (_:W.Frag):Sp:=λb H Q _=>∃ (p:Addr) (a:dD) (B:Int),b=[.ref p,.int B]/\H p=some (.lst (a.map V.int))/\B≠0/\a.length<=1000/\Gy H Q (K' (a.map λn=>AT n B))
def J1 (_:W.Frag):Sp:=λf H Q _=>∃ (p q:Addr) (a d:dz) (l m:dg) (b c n e:Nat),f=[.ref p,.ref q]/\H p=some (.tup a)/\H q=some (.tup d)/\Nums H a l/\Nums H d m/\Gq b c l/\Gq b c m/\l.length<=n/\m.length<=n/\n<=20/\2<=n/\n<2 ^ e/\(b+n*(2*e+4)+e+2)*(2*(n - 1))<=44490/\c<=90000/\((l=[]\/m=[])->2*3 ^ (l.length+m.length)*(b+1)<=60000000)/\
 (l=[]->m=[]->Gy H Q [])/\((l≠[]\/m≠[])->∀ g,RC (co (Aj l)) (co (Aj m)) g->Prim g->Gy H Q (ai g))
def Pw (f:Nu->Nu->Nu) (_:W.Frag):Sp:=λe H Q _=>∃ (p q:Addr) (a b c d:Int),e=[.ref p,.ref q]/\Nm H p a b/\Nm H q c d/\0<b/\0<d/\Bd 60000000 a/\Bd 60000000 b/\Bd 60000000 c/\Bd 60000000 d/\
 ∀ (r:Addr),H r=none->Q (.ref r) (upd H r (.tup [.int (f (a,b) (c,d)).1,.int (f (a,b) (c,d)).2]))
def J2 (_:W.Frag):Sp:=λj H Q _=>∃ (p q:Addr) (h i:dz) (l m:dg) (b c d e:Nat),j=[.ref p,.ref q]/\H p=some (.tup h)/\H q=some (.tup i)/\Nums H h l/\Nums H i m/\Gq b c l/\Gq d e m/\m≠[]/\l.length<=100/\m.length<=100/\
 c+(l.length+1 - m.length)*d<=400000/\b+(l.length+1 - m.length)*(d+1)+e<=900000/\e<=400000/\d<=400000/\
 ∀ (t u v:Addr) (f:Hp) (a g:dg),Same H f->f t=some (.tup [.ref u,.ref v])->Pl f u a->Pl f v g->A7 a->Nz a->a.length<=l.length+1 - m.length->Gq (b+(l.length+1 - m.length)*(d+1)) (c+(l.length+1 - m.length)*d) g->g.length<m.length->
   (∀ k,E_ l k=cv (E_ a) (E_ m) a.length k+E_ g k)->Q (.ref t) f
noncomputable abbrev Lq:=Pw H_
def J3 (_:W.Frag):Sp:=λe H Q _=>∃ (p q:Addr) (a b c d:Int),e=[.ref p,.ref q]/\Nm H p a b/\Nm H q c d/\0<b/\c≠0/\Bd 60000000 a/\Bd 60000000 b/\Bd 60000000 c/\Bd 60000000 d/\
 ∀ (r:Addr),H r=none->Q (.ref r) (upd H r (.tup [.int (AT (a*d) (b*c)).1,.int (AT (a*d) (b*c)).2]))
def Y0 (_:W.Frag):Sp:=λf H Q _=>∃ (p q:Addr) (a c:dD) (b d:Nat),f=[.ref p,.ref q]/\H p=some (.lst (a.map V.int))/\H q=some (.lst (c.map V.int))/\(∀ z∈a,Bd b z)/\(∀ z∈c,Bd d z)/\b<=900000/\d<=900000/\a.length<=100/\c.length<=100/\
 ∀ (r:Addr) (e:Hp),Same H e->e r=some (.lst ((if a.length=0\/c.length=0 then [] else (List.range (a.length+c.length - 1)).map λk=>ps a c a.length k).map V.int))->Q (.ref r) e
def IO (_:W.Frag):Sp:=λe H Q _=>∃ (p c:Addr) (d:dz) (l:dg) (a b:Int),e=[.ref p,.ref c]/\H p=some (.tup d)/\Nm H c a b/\Nums H d l/\A7 l/\0<b/\Bd 60000000 a/\Bd 60000000 b/\(∀ q∈l,Bd 60000000 q.1/\Bd 60000000 q.2)/\l.length<=1000/\Gy H Q (K' (l.map λq=>H_ q (a,b)))
def HC (_:W.Frag):Sp:=λh H Q _=>∃ (p q:Addr) (f g:dz) (l m:dg) (b c d e:Nat),h=[.ref p,.ref q]/\H p=some (.tup f)/\H q=some (.tup g)/\Nums H f l/\Nums H g m/\Gq b c l/\Gq d e m/\m≠[]/\l.length<=100/\m.length<=100/\
 c+(l.length+1 - m.length)*d<=400000/\b+(l.length+1 - m.length)*(d+1)+e<=900000/\e<=400000/\d<=400000/\MR (E_ m) (E_ l)/\
 ∀ (r:Addr) (R:dg) (a:Hp),Same H a->Pl a r R->A7 R->Nz R->R.length<=l.length+1 - m.length->(∀ k,E_ l k=cv (E_ R) (E_ m) R.length k)->Q (.ref r) a
structure Fr (l m T B:dg):Prop where
 eq:∀ k,cv (E_ T) (E_ m) T.length k=cv (E_ l) (E_ B) l.length k
 st:T.length<=l.length
 sb:B.length<=m.length
structure S1 (b c n e:Nat):Prop where
 n20:n<=20
 n2:2<=n
 ne:n<2 ^ e
 lu:(b+n*(2*e+4)+e+2)*(2*(n - 1))<=44490
 cc:c<=60000
 em:2*3 ^ n*(b+1)<=60000000
 dv:(n+2)*(b+n*(2*e+4)+1)<=200000
noncomputable def D1 (b n e:Nat):Nat:=b+n*(2*e+4)
noncomputable def Bt (b n e:Nat):Nat:=3*b+2*D1 b n e+n+1
structure S2 (b n e:Nat):Prop where
 a:S1 b b n e
 n20:2*n - 1<=20
 lu:(Bt b n e+(2*n - 1)*(2*(e+1)+4)+(e+1)+2)*(2*(2*n - 1 - 1))<=44490
 cc:4*b+D1 b n e<=60000
 em:2*3 ^ n*(Bt b n e+1)<=60000000
 dv:(2*n+2)*(D1 b n e+n*(2*e+4)+1)+Bt b n e<=200000
noncomputable def rw' (l:dg):List Rat:=(List.range l.length).map (E_ l)
noncomputable def dv (f:dP) (k:Nat):Rat:=((k:Rat)+1)*f (k+1)
noncomputable def cE (l:dg) (x:Rat):Rat:=W_ (E_ l) l.length x l.length
noncomputable def bS (b n e:Nat):Nat:=(b+5)+2*D1 (b+5) n e+n+2*b+1
noncomputable def bM (b n:Nat):Nat:=b+80*n+41*n*n+3
def Y1 (_:W.Frag):Sp:=λe H Q _=>∃ (p:Addr) (d:dz) (l:dg) (b c:Nat),e=[.ref p]/\H p=some (.tup d)/\Nums H d l/\Gq b c l/\l.length<=31/\b<=200000/\c<=200000/\
 ∀ (r:Addr) (R:dg) (a:Hp),Same H a->Pl a r R->Gq (b+5) c R->R.length=l.length - 1->(∀ k,E_ R k=dv (E_ l) k)->Q (.ref r) a
def IP (_:W.Frag):Sp:=λf H Q _=>∃ (p q:Addr) (e:dz) (l:dg) (a d:Int) (b:Nat),f=[.ref p,.ref q]/\H p=some (.tup e)/\Nm H q a d/\Nums H e l/\Gq b b l/\b<=8000/\Low a d/\Bd 100 a/\Bd 100 d/\l.length<=20/\
 ∀ (r:Addr) (c:Hp) (z:Nu),Same H c->isN c (.ref r) z->Low z.1 z.2->Bd 100000 z.1->Bd 100000 z.2->val z=cE l (val (a,d))->Q (.ref r) c
structure S4 (b n e:Nat):Prop where
 a:S1 (b+5) (b+5) n e
 n20:2*n - 1<=20
 lu:(bS b n e+(2*n - 1)*(2*(e+1)+4)+(e+1)+2)*(2*(2*n - 1 - 1))<=44490
 m:S1 (bM b n+5) (bM b n+5) n e
 s8:bS b n e+4*b<=8000
 m8:bM b n<=8000
noncomputable def sr (l:dg):Sr:=⟨E_ l⟩
noncomputable def si (a:dD):Sr:=⟨λk=>(co a k:Rat)⟩
noncomputable def dI (a:dD):dD:=(List.range (a.length - 1)).map λk=>((k+1:Nat):Int)*co a (k+1)
def RadOf (F L:Sr):Prop:=∃ S M:Sr,Sr.Pol S/\Sr.Pol L/\Sr.Pol M/\F=S*L/\Sr.D F=S*M/\Sr.Cs L M
def J4 (_:W.Frag):Sp:=λd H Q _=>∃ (p:Addr) (a:dD) (b:Nat),d=[.ref p]/\H p=some (.lst (a.map V.int))/\a.length<=100/\(∀ z∈a,Bd b z)/\b<=100000/\∀ (r:Addr) (c:Hp),Same H c->c r=some (.lst ((dI a).map V.int))->Q (.ref r) c
def J5 (_:W.Frag):Sp:=λe H Q _=>∃ (p:Addr) (b:dD),e=[.ref p]/\H p=some (.lst (b.map V.int))/\Lz b/\(∀ z∈b,Bd 40 z)/\b.length<=9/\
 ∀ (r:Addr) (a:dD) (d:Hp),Same H d->d r=some (.lst (a.map V.int))->Lz a->a.length<=9->(∀ z∈a,Bd 148 z)->(∃ (c:Rat) (L:Sr),c≠0/\RadOf (si b) L/\si a=Sr.num c*L)->0<co a (a.length - 1)->Q (.ref r) d
def J6 (_:W.Frag):Sp:=λc H Q _=>∃ (p q:Addr) (l m:dg),c=[.ref p,.ref q]/\Pl H p l/\Pl H q m/\A7 l/\A7 m/\Nz m/\m≠[]/\(∀ q∈l,Bd 1000000 q.1/\Bd 1000000 q.2)/\(∀ q∈m,Bd 1000000 q.1/\Bd 1000000 q.2)/\l.length<=1000/\m.length<=1000/\
 ∀ a:Nu,Low a.1 a.2->val a*val (AW m (m.length - 1))=1->∀ (t u v:Addr) (b:Hp),Same H b->b t=some (.tup [.ref u,.ref v])->Pl b u (K' (l.map λq=>H_ q (a.1,a.2)))->Pl b v (K' (m.map λq=>H_ q (a.1,a.2)))->Q (.ref t) b
noncomputable def hw:dD->Int->Int->Int
 | [],_,_=>0
 | a::l,t,s=>a*s ^ l.length+t*hw l t s
noncomputable def lst' (l:dD):Int:=co l (l.length - 1)
def GP (_:W.Frag):Sp:=λe H Q _=>∃ (p q:Addr) (a b c d:Int),e=[.ref p,.ref q]/\Nm H p a b/\Nm H q c d/\Bd 60000000 a/\Bd 60000000 b/\Bd 60000000 c/\Bd 60000000 d/\Q (.bl (decide (a*d<c*b))) H
def Lr (_:W.Frag):Sp:=λd H Q _=>∃ (a:Addr) (b:dD),d=[.ref a]/\H a=some (.lst (b.map V.int))/\Lz b/\b.length<=9/\(∀ z∈b,Bd 148 z)/\0<lst' b/\
 ∀ (e:Int) (c:Hp),Same H c->-200<=e->e<=200->(∀ i,i+1<b.length->2 ^ (b.length - 1 - i)*(co b i).natAbs*2 ^ ((b.length - 1 - i)*(-e).toNat)<=(lst' b).natAbs*2 ^ ((b.length - 1 - i)*e.toNat))->Q (.int e) c
def HD (_:W.Frag):Sp:=λg H Q _=>∃ (p:Addr) (a:dD) (c:Int) (b:Nat),g=[.ref p,.int c]/\H p=some (.lst (a.map V.int))/\a.length<=20/\(Bd 60 c\/(∀ z∈a,Bd b z)/\b<=20000/\Bd 1000 c)/\
 ∀ (r:Addr) (d:dD) (e:Hp),Same H e->H r=none->e r=some (.lst (d.map V.int))->d.length=a.length->(∀ y:Rat,A_ d y=A_ a (y+(c:Rat)))->(∀ f,(∀ z∈a,Bd f z)->Bd 1000 c->∀ z∈d,Bd (f+1001*a.length*a.length) z)->Q (.ref r) e
def Ls (_:W.Frag):Sp:=λb H Q _=>∃ (p:Addr) (a:dD),b=[.ref p]/\H p=some (.lst (a.map V.int))/\a.length<=1000/\Q (.int (sgc a 0:Nat)) H
def Lu (_:W.Frag):Sp:=λe H Q _=>∃ (p:Addr) (a:dD) (b:Nat),e=[.ref p]/\H p=some (.lst (a.map V.int))/\a.length<=20/\(∀ z∈a,Bd b z)/\b<=100000000/\
 ∀ (r:Addr) (c:dD) (d:Hp),Same H d->H r=none->d r=some (.lst (c.map V.int))->c.length=a.length->(∀ z∈c,Bd (b+20) z)->(∀ y:Rat,A_ c y=((2 ^ (a.length - 1):Nat):Rat)*A_ a (y / 2))->Q (.ref r) d
structure Sk (Q:dD) (U V:Rat->Rat) (D:Nat):Prop where
 sf:Sf Q
 H:∃ H:Rat,0<=H/\(∀ u,0<=u->u<=1->U u<=H/\-U u<=H)/\(∀ u,0<=u->u<=1->V u<=H/\-V u<=H)/\H*((gs Q Q.length*(8*Q.length+8):Nat):Rat)<((2 ^ D:Nat):Rat)
 uv:∀ u,0<=u->u<=1->U u*A_ Q u+V u*dQ Q u=1
def Lv (_:W.Frag):Sp:=λd H Q _=>∃ (p:Addr) (a:dD) (U W:Rat->Rat) (D b:Nat),d=[.ref p]/\H p=some (.lst (a.map V.int))/\a.length<=9/\(∀ z∈a,Bd b z)/\b+60*D<=50000000/\Sk a U W D/\
 ∀ c,Same H c->Q (.int (Nf (A_ a) 0 1:Nat)) c
def Lx (_:W.Frag):Sp:=λg H Q _=>∃ (p s e:Addr) (c:dD) (a b:Nu),g=[.ref p,.ref s,.ref e]/\H p=some (.lst (c.map V.int))/\Nm H s a.1 a.2/\Nm H e b.1 b.2/\c.length<=9/\(∀ z∈c,Bd 148 z)/\0<a.2/\0<b.2/\Bd 210 a.1/\Bd 210 a.2/\Bd 210 b.1/\Bd 210 b.2/\val a<val b/\
 ∀ (r:Addr) (d:dD) (f:Hp),Same H f->f r=some (.lst (d.map V.int))->d.length=c.length->(∀ z∈d,Bd 100000 z)->(∃ M:Rat,1<=M/\∀ y:Rat,A_ d y=M*A_ c (val a+(val b - val a)*y))->Q (.ref r) f
def Rad (F S:dD):Prop:=si F≠0/\∃ (c:Rat) (L:Sr),c≠0/\RadOf (si F) L/\si S=Sr.num c*L
noncomputable def sq (F:dD):dD:=open Classical in if h:∃ S,Rad F S then Classical.choose h else []
noncomputable def cF (F:dD):Option Rat->Nat
 | none=>0
 | some h=>if A_ F h=0 then 1 else 0
def c6 (F S:dD) (lo hi:Option Rat) (k:Nat):Prop:=∃ a:Rat,∀ R b,a<=R->a<=b->k=Nf (A_ S) (lo.getD (-R)) (hi.getD b)+cF F hi
noncomputable def EndV (H:Hp) (v:V):Option Nu->Prop
 | none=>v=.non
 | some q=>∃ a,v=.ref a/\Nm H a q.1 q.2/\Low q.1 q.2/\Bd 60 q.1/\Bd 60 q.2
structure Of (H:Hp) (p:Addr) (ns:dD):Prop where
 ex:∃ (xs:dz) (l:dg) (κ:Rat),H p=some (.tup xs)/\Nums H xs l/\Gq 40 40 l/\0<l.length/\l.length<=9/\κ≠0/\si (Aj l)=Sr.num κ*si ns
def J7 (_:W.Frag):Sp:=λf H Q _=>∃ (p:Addr) (c:dD) (lo d:Option Nu) (v w:V),f=[.ref p,v,w]/\Of H p c/\EndV H v lo/\EndV H w d/\(∀ a b,lo=some a->d=some b->val a<val b)/\
 ∀ (k:Nat) (e:Hp),Same H e->Rad c (sq c)->c6 c (sq c) (lo.map val) (d.map val) k->Q (.int (k:Int)) e
noncomputable def C':dD->Rat->Rat
 | [t,s],x=>(s:Rat)*x - (t:Rat)
 | [m,a,e],x=>if 0<e then (if x<(m:Rat) then -1 else (x - m)*(x - m) - (a:Rat)) else (if x<(m:Rat) then (a:Rat) - (x - m)*(x - m) else 1)
 | [a,_,_,_],x=>x*x*x - (a:Rat)
 | _,_=>1
structure Pc (σ:Rat->Rat):Prop where
 mono:∀ x y,x<y->0<=σ x->0<σ y
 opL:∀ x,σ x<0->∃ y,x<y/\σ y<0
 opR:∀ x,0<σ x->∃ y,y<x/\0<σ y
 far:∃ R,∀ x,R<=x->0<σ x/\σ (-x)<0
structure Fz (F:dD) (ps:List (dD)):Prop where
 pc:∀ p∈ps,Pc (C' p)
 zero:∀ x,A_ F x=0↔∃ p∈ps,C' p x=0
 off:∀ x y,x<y->(∀ p∈ps,0<C' p x*C' p y)->∃ δ,0<δ/\∀ z,x<=z->z<=y->δ<=A_ F z\/A_ F z<=-δ
 chg:∀ p∈ps,∃ (q:dD) (g:Rat->Rat) (k:Nat),Pn k g/\(∀ x,A_ F x=A_ q x*g x)/\∀ x y,C' p x<0->0<C' p y->(∀ p'∈ps,p'≠p->0<C' p' x*C' p' y)->A_ q x*A_ q y<0
noncomputable def IQ (lo hi:Option Rat) (p:dD):Bool:=lo.all (λx=>decide (C' p x<0)) && hi.all (λy=>!decide (C' p y<0))
def isA (a:Int):Prop:=a=2\/a=3\/a=5\/a=6\/a=7\/a=10
def Pk (p:dD):Prop:=(∃ t s:Int,p=[t,s]/\Low t s/\s<=6/\t.natAbs<=9)\/∃ m a e:Int,p=[m,a,e]/\isA a/\(e=1\/e = -1)/\m.natAbs<=4
def b5 (c:Int):Prop:=c=2\/c=3\/c=5\/c=7\/c = -2\/c = -3\/c = -5\/c = -7
noncomputable def Pls (H:Hp):dz->List (dD)->Prop
 | [],[]=>True
 | v::b,p::ps=>(∃ a,v=.ref a/\H a=some (.tup (p.map V.int)))/\Pls H b ps
 | _,_=>False
noncomputable def ak (as:List (dD)) (a cs:dD):List (dD):=as++((a.map λs=>[0,s,-1])++(a.map λs=>[0,s,1]))++cs.map λc=>[c,0,0,0]
structure PkL (as:List (dD)) (ss cs:dD):Prop where
 a:∀ p∈as,∃ t s:Int,p=[t,s]/\Low t s/\s<=3/\t.natAbs<=6
 s:∀ s∈ss,s=2\/s=3\/s=5\/s=6\/s=7
 c:cs=[]\/ss=[]/\∃ c,cs=[c]/\b5 c
 la:as.length<=3
 ls:ss.length<=2
noncomputable def B7 (lo hi:Rat) (p:dD):Bool:=decide (C' p lo<=0) && decide (0<=C' p hi)
def Ly (K:W.Frag):Sp:=λb H Q _=>∃ (a:Addr) (c:dD) (k:Int),b=[.ref a,.int k]/\SqL K H a (c.map V.int)/\0<=k/\∀ n:Int,Q (.int n) H
def CH (_:W.Frag):Sp:=λa H Q _=>∃ c k m:Int,a=[.int c,.int k,.int m]/\0<=k/\k<=100/\0<m/\∀ d:Int,0<=d->d<m->Q (.int d) H
def FO (_:W.Frag):Sp:=λc H Q _=>∃ a b:Int,c=[.int a,.int b]/\b≠0/\∀ (p:Addr),H p=none->Q (.ref p) (upd H p (.tup [.int (AT a b).1,.int (AT a b).2]))
def Nb (b:Nat) (q:Nu):Prop:=Low q.1 q.2/\Bd b q.1/\Bd b q.2
def Sm7 (q:Nu):Prop:=Low q.1 q.2/\q.1.natAbs<=200/\q.2<=9
def Px (f:Nu->Nu->Nu) (_:W.Frag):Sp:=λa H Q _=>∃ (x y:Addr) (q r:Nu),a=[.ref x,.ref y]/\isN H (.ref x) q/\isN H (.ref y) r/\Nb 1000000 q/\Nb 1000000 r/\∀ p,H p=none->Q (.ref p) (upd H p (.tup [.int (f q r).1,.int (f q r).2]))
noncomputable abbrev HE:=Px U_
noncomputable abbrev J8:=Px H_
def J9 (_:W.Frag):Sp:=λa H Q _=>∃ (x y:Addr) (q r:Nu),a=[.ref x,.ref y]/\isN H (.ref x) q/\isN H (.ref y) r/\Nb 1000 q/\Nb 1000 r/\Q (.bl (decide (q.1*r.2<=r.1*q.2))) H
def KC (_:W.Frag):Sp:=λa H Q _=>∃ (x:Addr) (q:Nu) (s e:Int),a=[.ref x,.int s,.int e]/\isN H (.ref x) q/\Sm7 q/\(s=2\/s=3\/s=5\/s=6\/s=7)/\(e=1\/e = -1)/\Q (.bl (decide (C' [0,s,e] (val q)<0))) H
def KD (_:W.Frag):Sp:=λa H Q _=>∃ (x:Addr) (q:Nu) (c:Int),a=[.ref x,.int c]/\isN H (.ref x) q/\Nb 1000 q/\c.natAbs<=10/\Q (.bl (decide (C' [c,0,0,0] (val q)<0))) H
structure Rr (L:dg) (R:dD):Prop where
 low:A7 L
 len:L.length=R.length
 lz:Lz R
 ex:∃ c M:Int,0<c/\c<=5/\0<M/\M.natAbs<=3 ^ (R.length - 1)/\sr L=Sr.num ((c:Rat) / (M:Rat))*si R
 bd:∀ z∈R,z.natAbs<=15 ^ (R.length - 1)
def FP (_:W.Frag):Sp:=λe H Q _=>∃ (p q:Addr) (b c:dz) (l m:dg),e=[.ref p,.ref q]/\H p=some (.lst b)/\H q=some (.lst c)/\Nums H b l/\Nums H c m/\A7 l/\A7 m/\(∃ M,Ov l M/\Bd 100 M/\∀ z∈J_ l M,Bd 100 z)/\(∃ M,Ov m M/\Bd 100 M/\∀ z∈J_ m M,Bd 100 z)/\1<=l.length/\1<=m.length/\l.length<=20/\m.length<=20/\
 ∀ (r:Addr) (d:dz) (L:dg) (a:Hp),Same H a->H r=none->a r=some (.lst d)->Nums a d L->A7 L->L.length=l.length+m.length - 1->(∀ k,E_ L k=cv (E_ l) (E_ m) l.length k)->Q (.ref r) a
def L3 (_:W.Frag):Sp:=λj H Q _=>∃ c:Int,j=[.int c]/\∀ (r w a b d:Addr) (h i:dz) (L:dg) (R:dD) (as:List (dD)) (f g:dD) (e:Hp),Same H e->e r=some (.tup [.ref w,.ref a,.ref b,.ref d])->e w=some (.lst h)->Nums e h L->Rr L R->R.length<=9->e a=some (.lst i)->Pls e i as->e b=some (.lst (f.map V.int))->e d=some (.lst (g.map V.int))->PkL as f g->Fz R (ak as f g)->Q (.ref r) e
def L4 (_:W.Frag):Sp:=λj H Q _=>∃ (a b d x y:Addr) (h:dz) (as:List (dD)) (c e:dD) (lo f:Nu),j=[.ref a,.ref b,.ref d,.ref x,.ref y]/\H a=some (.lst h)/\Pls H h as/\H b=some (.lst (c.map V.int))/\H d=some (.lst (e.map V.int))/\PkL as c e/\isN H (.ref x) lo/\isN H (.ref y) f/\Sm7 lo/\Sm7 f/\
 ∀ (n:Nat) (i:Hp),Same H i->(∃ g:List (dD),g.Nodup/\(∀ q,q∈g↔q∈ak as c e)/\n=g.countP (B7 (val lo) (val f)))->Q (.int (n:Int)) i
def L5 (_:W.Frag):Sp:=λd H Q _=>∃ (p q:Addr) (b c:dz) (m:dg) (R:dD),d=[.ref p,.ref q]/\H p=some (.tup b)/\Nums H b [(3,2)]/\H q=some (.tup c)/\Nums H c m/\Rr m R/\R.length<=9/\
 ∀ (t u v:Addr) (a:Hp),Same H a->a t=some (.tup [.ref u,.ref v])->Of a v R->Q (.ref t) a
def L6 (_:W.Frag):Sp:=λg H Q _=>∃ (f u v a b:Addr) (R:dD) (lo c:Nu),g=[.ref f,.ref a,.ref b]/\H f=some (.tup [.ref u,.ref v])/\Of H v R/\isN H (.ref a) lo/\isN H (.ref b) c/\Nb 60 lo/\Nb 60 c/\
 ∀ (k:Nat) (d:Hp),Same H d->(val lo<val c->Rad R (sq R)/\∃ e,k=(if A_ R (val lo)=0 then 1 else 0)+e/\c6 R (sq R) (some (val lo)) (some (val c)) e)->(¬ val lo<val c->k=if A_ R (val lo)=0 then 1 else 0)->Q (.int (k:Int)) d
section
variable (K:W.Frag)
set_option linter.unusedVariables false
def Py (_:W.Frag):TS:=
 (AF (Ds (As (B_ aM (AA 1) (aC 0))) (AF (AM (B_ Nv (AA 0) (AA 1)) (AG 2))
  (AF (AM (AA 1) (AG 0))
  (AM (AA 2) (AG 1)))))
  (AX (I_ Gf (AB (AA 0) AC))))
def P3 (_:W.Frag):TS:=
 (AF (AM (aC 1) (AG 2))
  (AF (AM (AA 0) (AG 3))
  (AF (Ds (As (B_ aE (AA 1) (aC 0))) (AF (BO (As (B_ au (B_ DH (AA 1) (aC 2)) (aC 1))) (C5 2 (AA 3) Ah) BL)
  (AF (C5 1 (aC 2) Hg)
  (BO (As (B_ aE (AA 1) (aC 0))) (C5 3 (AA 3) Ah) BL))))
  (AX (AA 2)))))
def P4:TS:=
 (AF (AM (bT (Ev K) (AB (K1 (Gs (Cb K (AA 0)) [none] (AG 0) (As (B_ aM (AA 0) (aC 0))) (I_ Gf (AB (AA 0) AC)))) (AB (AA 1) AC))) (AG 2))
  (AF (BH (Cb K (AA 0)) (AG 3) (AF (BO (As (B_ au (AA 2) (aC 1))) (AX (aC 1)) BL)
  (AM (bT (Ev K) (AB (AA 3) (AB (AA 2) AC))) (AG 2))))
  (AX (AA 2))))
def P5 (_:W.Frag):TS:=
 (AF (AM (I_ BU (AB (AA 0) AC)) (AG 1))
  (AF (Ds (Cv (As (B_ aE (AA 1) (aC 0))) (As (B_ au (B_ gL (AA 0) (B_ BM (AA 1) (aC 1))) (aC 0)))) (C5 1 (aC 1) BM))
  (AX (bN sL (AA 0) Gc (Fd (AA 1))))))
def P6:TS:=
 (AX (CY (Cb K (AA 0)) [none,some 1] (AG 0) (B_ FH (AA 0) (AA 1))))
def P7 (_:W.Frag):TS:=
 (AX (CY (HW (AB (aC 1) (AB (I_ BU (AB (AA 0) AC)) AC))) [none,some 0] (AG 0) (B_ Ah (AA 0) (B_ gL (AA 1) (AA 0)))))
def P8 (_:W.Frag):TS:=
 (BO (As (B_ aM (AA 6) (aC 0))) (BH (EC (AB (AA 3) AC)) (AG 7) (Fb (AA 2) (B_ BQ (AA 5) (AA 7)) (B_ Ah (AA 6) (B_ gL (AA 1) (AA 7))) gL BM ED)) BL)
def Y2:TS:=
 (AF (AM (AA 6) (En (AA 4) (AA 5) ED))
  (P8 K))
def P9:TS:=
 (AF (BO (As (B_ aM (B_ Ah (AA 6) (B_ gL (AA 1) (Q_ BZ (aC 1)))) (B_ gL (AA 2) (B_ BQ (AA 5) (AA 3))))) (AX (tC .non)) BL)
  (Y2 K))
def Y3:TS:=
 (AF (AM (B_ Dv (B_ gL (AA 2) (B_ BQ (AA 5) (AA 3))) (B_ gL (AA 1) (Q_ BZ (aC 1)))) (AG 6))
  (P9 K))
def Y4 (_:W.Frag):TS:=
 (AX (aA (tB (I_ K2 (AB (bN sL (AA 2) Gc (Fd (AA 3))) AC))) (tC .non) (AA 4)))
def Y5:TS:=
 (AF (BH (GA (AB (B_ BM (B_ BM (I_ BU (AB (AA 0) AC)) (AA 3)) (aC 1)) (AB (Q_ BZ (aC 1)) (AB (Q_ BZ (aC 1)) AC)))) (AG 5) (Y3 K))
  (Y4 K))
def QA:TS:=
 (AF (AM (B_ F6 (BT (AB (aC 0) AC)) (I_ F7 (AB (B_ BM (I_ BU (AB (AA 0) AC)) (AA 3)) (AB (aC 0) AC)))) (AG 4))
  (Y5 K))
def Y6:TS:=
 (AF (AM (B_ BM (I_ BU (AB (AA 1) AC)) (aC 1)) (AG 3))
  (QA K))
def Y7:TS:=
 (AF (AM (I_ Gk (AB (AA 0) AC)) (AG 2))
  (Y6 K))
def Y8:TS:=
 (AF (AM (BT AC) (AG 1))
  (AF (BH (HW (AB (aC 1) (AB (I_ BU (AB (AA 0) AC)) AC))) (AG 2) (AF (AM (B_ gL (AA 0) (B_ BM (B_ BM (I_ BU (AB (AA 0) AC)) (aC 1)) (AA 2))) (AG 3))
  (BO (As (B_ aM (AA 3) (aC 0))) (El (aP K "list" ES (AA 1) (AB (Q_ BZ (B_ FH (B_ BM (B_ BM (Hb K "int" K3 (B_ gL (AA 0) (Q_ BZ (aC 1)))) (Hb K "int" K3 (AA 3))) (aC 1)) (AA 2))) AC))) BL)))
  (AX (B_ BQ (aC 1) (OF (AA 1))))))
def QB:TS:=
 (AF (AM (CY (Cb K (AA 0)) [none,some 1] (AG 0) (B_ Ah (AA 1) (AA 0))) (AG 5))
  (AF (El (aP K "list" Kk (AA 5) (AB (B_ F6 (BT (AB (aC 0) AC)) (B_ BM (B_ BQ (I_ BU (AB (AA 2) AC)) (AA 4)) (I_ BU (AB (AA 0) AC)))) AC)))
  (AF (BH (Gj K (AB (AA 2) AC)) (Go 2 (EB (AG 6) (EB (AG 7) Ga))) (Fb (AA 5) (B_ BQ (AA 6) (AA 4)) (B_ Ah (AA 3) (AA 7)) gL BM ED))
  (AX (bT (G7 K) (AB (AA 5) AC))))))
def QC (_:W.Frag):TS:=
 (AF (AM (I_ Gk (AB (AA 0) AC)) (AG 2))
  (AF (BH (EC (AB (B_ BM (I_ BU (AB (AA 0) AC)) (aC 1)) AC)) (AG 3) (BH (GA (AB (B_ BM (I_ BU (AB (AA 0) AC)) (aC 2)) (AB (B_ BM (AA 3) (aC 1)) (AB (Q_ BZ (aC 1)) AC)))) (AG 4) (Fb (AA 2) (AA 4) (B_ Ah (AA 1) (B_ gL (AA 2) (B_ BQ (AA 4) (aC 1)))) gL BQ ED)))
  (AX (AA 2))))
def Y9:TS:=
 (AM (CY (Kz K (AB (AA 0) (AB (AA 1) AC))) [none,none,some 6,some 7,some 2] (Go 2 (EB (AG 0) (EB (AG 1) Ga))) (bT (IJ K) (AB (AA 0) (AB (AA 2) (AB (AA 1) (AB (AA 3) (AB (AA 4) AC))))))) (AG 0))
def ZA:TS:=
 (AF (AM (B_ Dv (AA 3) (AA 5)) (AG 7))
  (Y9 K))
def ZB:TS:=
 (AF (AM (B_ Dv (AA 4) (AA 5)) (AG 6))
  (ZA K))
def ZC:TS:=
 (AF (AM (bT (Ev K) (AB (AA 3) (AB (AA 4) AC))) (AG 5))
  (ZB K))
def ZD:TS:=
 (AF (AM (B_ gL (B_ gL (AA 1) (aC 0)) (Q_ BZ (aC 1))) (AG 4))
  (ZC K))
def ZE:TS:=
 (AF (AM (B_ gL (B_ gL (AA 0) (aC 0)) (Q_ BZ (aC 1))) (AG 3))
  (ZD K))
def ZF:TS:=
 (AF (AM (B_ BM (I_ BU (AB (B_ gL (AA 0) (aC 0)) AC)) (I_ BU (AB (B_ gL (AA 1) (aC 0)) AC))) (AG 2))
  (ZE K))
def QD:TS:=
 (AX (bT (IK K) (AB (AA 0) AC)))
def QE:TS:=
 (AF (Ds (As (B_ cN (I_ BU (AB (B_ gL (AA 0) (aC 0)) AC)) (I_ BU (AB (B_ gL (AA 1) (aC 0)) AC)))) (ZF K))
  (QD K))
def QF:TS:=
 (AF (AM (aC 0) (AG 1))
  (AF (BH (Cb K (AA 0)) (AG 2) (AM (bT (IH K) (AB (AA 2) (AB (AA 1) AC))) (AG 1)))
  (AX (CY (Cb K (AA 0)) [none,some 1] (AG 0) (bT (II K) (AB (AA 0) (AB (AA 1) AC)))))))
def QG:TS:=
 (AX (B_ gL (bT (IK K) (AB (BT (AB (AA 0) AC)) AC)) (aC 0)))
def QH:TS:=
 (AF (Ds (FG (B_ gL (AA 1) (aC 0))) (AF (BO (As (B_ au (I_ BU (AB (B_ gL (AA 1) (aC 0)) AC)) (aC 1))) (AX (AA 1)) BL)
  (AF (AM (bT (Jt K) (AB (AA 0) (AB (AA 1) AC))) (AG 2))
  (AF (AM (AA 1) (AG 0))
  (AM (AA 2) (AG 1))))))
  (AX (AA 0)))
def QJ (_:W.Frag):TS:=
 (AM (AA 7) (AG 5))
def QK:TS:=
 (AF (AM (AA 5) (AG 4))
  (QJ K))
def QL:TS:=
 (AF (AM (B_ BM (AA 4) (B_ Ah (AA 6) (AA 5))) (AG 7))
  (QK K))
def QM:TS:=
 (AF (AM (AA 7) (AG 3))
  (QL K))
def QN:TS:=
 (AF (AM (AA 3) (AG 2))
  (QM K))
def QO:TS:=
 (AF (AM (B_ BM (AA 2) (B_ Ah (AA 6) (AA 3))) (AG 7))
  (QN K))
def QP:TS:=
 (AF (AM (B_ FH (AA 2) (AA 3)) (AG 6))
  (QO K))
def QQ (_:W.Frag):TS:=
 (AX (B_ DH (AA 4) (AA 1)))
def QR:TS:=
 (AF (Ds (As (B_ aM (AA 3) (aC 0))) (QP K))
  (QQ K))
def QS:TS:=
 (AF (AM (aC 1) (AG 5))
  (QR K))
def QT:TS:=
 (AF (AM (aC 0) (AG 4))
  (QS K))
def QU:TS:=
 (AF (AM (B_ DH (AA 0) (AA 1)) (AG 3))
  (QT K))
def QV:TS:=
 (AF (AM (AA 1) (AG 2))
  (QU K))
def QW:TS:=
 (AX (CY (Cb K (AA 0)) [none,some 1] (AG 0) (B_ DH (AA 0) (AA 1))))
def QX:TS:=
 (AX (bT (G7 K) (AB (bT (Jv K) (AB (AA 0) (AB (AA 1) AC))) AC)))
def QY:TS:=
 (AF (BO (Fu (FG (AA 0))) (AX (BT AC)) BL)
  (AF (AM (bT (Ju K) (AB (B_ gL (AA 0) (Q_ BZ (aC 1))) (AB (AA 1) AC))) (AG 2))
  (AX (CY (Cb K (AA 0)) [none,some 1,some 2] (AG 0) (B_ DH (B_ Ah (AA 0) (AA 2)) (AA 1))))))
def QZ (_:W.Frag):TS:=
 (BO (As (B_ aM (AA 7) (aC 0))) (BH (EC (AB (AA 4) AC)) (AG 8) (Fb (AA 3) (B_ BQ (AA 6) (AA 8)) (B_ Ah (AA 7) (B_ gL (AA 1) (AA 8))) gL BM ED)) BL)
def Qa:TS:=
 (AF (AM (AA 7) (En (AA 5) (AA 6) ED))
  (QZ K))
def ZG:TS:=
 (AF (AM (B_ DH (B_ gL (AA 3) (B_ BQ (AA 6) (AA 4))) (AA 2)) (AG 7))
  (Qa K))
def Qb:TS:=
 (AX (A5 (AB (bT (G7 K) (AB (AA 5) AC)) (AB (bT (G9 K) (AB (bN sL (AA 3) Gc (Fd (AA 4))) (AB (AA 2) AC))) AC))))
def ZH:TS:=
 (AF (BH (GA (AB (B_ BM (B_ BM (I_ BU (AB (AA 0) AC)) (AA 4)) (aC 1)) (AB (Q_ BZ (aC 1)) (AB (Q_ BZ (aC 1)) AC)))) (AG 6) (ZG K))
  (Qb K))
def Qc:TS:=
 (AF (AM (B_ F6 (BT (AB (aC 0) AC)) (I_ F7 (AB (B_ BM (I_ BU (AB (AA 0) AC)) (AA 4)) (AB (aC 0) AC)))) (AG 5))
  (ZH K))
def ZI:TS:=
 (AF (AM (B_ BM (I_ BU (AB (AA 1) AC)) (aC 1)) (AG 4))
  (Qc K))
def ZJ:TS:=
 (AF (AM (I_ Gk (AB (AA 0) AC)) (AG 3))
  (ZI K))
def Qd:TS:=
 (AX (B_ gT (bT (Jw K) (AB (AA 0) (AB (AA 1) (AB (AA 2) AC)))) (aC 1)))
def Qe:TS:=
 (AF (AM (bT (HA K) (AB (bT (G9 K) (AB (AA 0) (AB (AA 2) AC))) (AB (AA 2) AC))) (AG 0))
  (AF (AM (bT (HA K) (AB (bT (G9 K) (AB (AA 1) (AB (AA 2) AC))) (AB (AA 2) AC))) (AG 1))
  (AF (Ds (FG (AA 1)) (AF (AM (bT (Jx K) (AB (AA 0) (AB (AA 1) (AB (AA 2) AC)))) (AG 3))
  (AF (AM (AA 1) (AG 0))
  (AM (bT (HA K) (AB (AA 3) (AB (AA 2) AC))) (AG 1)))))
  (AX (AA 0)))))
def Qf (_:W.Frag):TS:=
 (AF (AM (B_ DH (AA 0) (AA 1)) (AG 2))
  (AX (aA (As (B_ aE (B_ Ah (aC 2) (AA 2)) (AA 1))) (B_ BM (AA 2) (AA 1)) (AA 2))))
def Qg:TS:=
 (AF (AM (bT (Ev K) (AB (B_ gL (AA 0) (Q_ BZ (aC 1))) (AB (B_ gL (AA 1) (Q_ BZ (aC 1))) AC))) (AG 3))
  (AF (BO (As (B_ au (B_ DH (AA 3) (AA 2)) (aC 0))) (AX (tC .non)) BL)
  (AF (AM (bT (Jy K) (AB (AA 0) (AB (AA 1) (AB (AA 2) AC)))) (AG 4))
  (AF (AM (bT (GO K) (AB (CY (Cb K (AA 4)) [none,some 2,some 3] (AG 0) (bT (Jz K) (AB (B_ Ah (AA 2) (AA 0)) (AB (AA 1) AC)))) AC)) (AG 5))
  (AF (BO (bK (As (B_ Hk (bT (G8 K) (AB (AA 0) (AB (AA 5) AC))) (tC .non))) (As (B_ Hk (bT (G8 K) (AB (AA 1) (AB (AA 5) AC))) (tC .non)))) (AX (tC .non)) BL)
  (AX (AA 5)))))))
def Qh:TS:=
 (AF (AM (bT (GO K) (AB (AA 0) AC)) (AG 2))
  (AF (AM (bT (GO K) (AB (AA 1) AC)) (AG 3))
  (AF (BO (Cv (FG (AA 0)) (FG (AA 1))) (BH (FC K (tC (.ref (GN K)))) (AG 4) (AF (AM (bT (J0 K) (AB (AA 2) (AB (AA 3) (AB (B_ BM (bT (Js K) (AB (aC 2) (AB (AA 4) AC))) (aC 1)) AC)))) (AG 5))
  (BO (As (B_ Kx (AA 5) (tC .non))) (AX (AA 5)) BL))) BL)
  (AX (B_ gL (bT (IL K) (AB (BT (AB (AA 2) AC)) (AB (BT (AB (AA 3) AC)) AC))) (aC 0))))))
def Qi:TS:=
 (AX (aA (As (B_ aE (B_ gL (AA 2) (Q_ BZ (aC 1))) (aC 0))) (AA 2) (CY (Cb K (AA 2)) [none] (AG 0) (Q_ BZ (AA 0)))))
def Qj:TS:=
 (AF (AM (bT (G8 K) (AB (AA 1) (AB (bT (IM K) (AB (AA 1) (AB (bT (J4 K) (AB (AA 1) AC)) AC))) AC))) (AG 2))
  (Qi K))
def Qk:TS:=
 (AF (AM (bT (GO K) (AB (AA 0) AC)) (AG 1))
  (Qj K))
def Ql:TS:=
 (AF (AM (bT (Ev K) (AB (AA 0) (AB (AA 1) AC))) (AG 2))
  (AF (BO (As (B_ ah (AA 1) (aC 0))) (AM (Q_ BZ (AA 2)) (AG 2)) BL)
  (AX (A5 (AB (B_ Dv (AA 0) (AA 2)) (AB (B_ Dv (AA 1) (AA 2)) AC))))))
def Qm:TS:=
 (AX (bT (Fj K) (AB (B_ Ah (B_ gT (AA 0) (aC 0)) (B_ gT (AA 1) (aC 0))) (AB (B_ Ah (B_ gT (AA 0) (aC 1)) (B_ gT (AA 1) (aC 1))) AC))))
def Qn:TS:=
 (AX (bT (Fj K) (AB (B_ Ah (B_ gT (AA 0) (aC 0)) (B_ gT (AA 1) (aC 1))) (AB (B_ Ah (B_ gT (AA 0) (aC 1)) (B_ gT (AA 1) (aC 0))) AC))))
def ZK (_:W.Frag):TS:=
 (AX (B_ ah (B_ Ah (B_ gT (AA 0) (aC 0)) (B_ gT (AA 1) (aC 1))) (B_ Ah (B_ gT (AA 1) (aC 0)) (B_ gT (AA 0) (aC 1)))))
def Qo (_:W.Frag):TS:=
 (AF (AM (I_ BU (AB (AA 0) AC)) (AG 1))
  (AF (Ds (Cv (As (B_ aE (AA 1) (aC 0))) (As (B_ au (B_ gT (B_ gL (AA 0) (B_ BM (AA 1) (aC 1))) (aC 0)) (aC 0)))) (C5 1 (aC 1) BM))
  (AX (I_ JK (AB (bN sL (AA 0) Gc (Fd (AA 1))) AC)))))
def Qp:TS:=
 (AF (AM (tC (.int 1)) (AG 1))
  (AF (BH (FC K (AA 0)) (AG 2) (C5 1 (B_ FH (B_ gT (AA 2) (tC (.int 1))) (AK (Ev K) [] E0 (AB (AA 1) (AB (B_ gT (AA 2) (tC (.int 1))) AC)))) Ah))
  (AX (A5 (AB (CY (FC K (AA 0)) [none,some 1] (AG 0) (B_ Ah (B_ gT (AA 0) (tC (.int 0))) (B_ FH (AA 1) (B_ gT (AA 0) (tC (.int 1)))))) (AB (AA 1) AC))))))
def Qq:TS:=
 (AX (bT (HB K) (AB (CY (Cb K (AA 0)) [none,some 1] (AG 0) (bT (Fj K) (AB (AA 0) (AB (AA 1) AC)))) AC)))
def Qr:TS:=
 (AX (bT (HB K) (AB (CY (FC K (AA 0)) [none,some 1] (AG 0) (bT (Lq K) (AB (AA 0) (AB (AA 1) AC)))) AC)))
def Qs (_:W.Frag):TS:=
 (C5 5 (AA 10) FH)
def Qt:TS:=
 (AF (AM (bT (II K) (AB (AA 4) (AB (AA 10) AC))) (AG 4))
  (Qs K))
def Qu:TS:=
 (AF (AM (bT (IH K) (AB (AA 4) (AB (AA 5) AC))) (AG 10))
  (Qt K))
def Qv:TS:=
 (AF (C5 5 (B_ Dv (AA 6) (AA 9)) Ah)
  (Qu K))
def Qw:TS:=
 (AF (AM (bT (IJ K) (AB (AA 4) (AB (B_ Dv (AA 6) (AA 9)) (AB (B_ gT (AA 3) (aC 0)) (AB (B_ Dv (B_ gL (AA 4) (Q_ BZ (aC 1))) (AA 9)) (AB (AA 8) AC)))))) (AG 4))
  (Qv K))
def Qx:TS:=
 (AF (AM (bT (Ev K) (AB (B_ gL (AA 4) (Q_ BZ (aC 1))) (AB (AA 6) AC))) (AG 9))
  (Qw K))
def Qy:TS:=
 (AF (AM (bT (Fj K) (AB (B_ Ah (B_ gL (AA 4) (Q_ BZ (aC 1))) (B_ gT (AA 3) (aC 1))) (AB (B_ Ah (AA 5) (AA 6)) AC))) (En (AA 7) (AA 8) ED))
  (Qx K))
def Qz:TS:=
 (AF (AM (B_ BM (I_ BU (AB (AA 4) AC)) (I_ Gg (AB (AA 1) AC))) (AG 8))
  (Qy K))
def Q0:TS:=
 (AX (A5 (AB (bT (HB K) (AB (AA 7) AC)) (AB (bT (IN K) (AB (AA 4) (AB (AA 5) AC))) AC))))
def Q1:TS:=
 (AF (Ds (As (B_ cN (I_ BU (AB (AA 4) AC)) (I_ Gg (AB (AA 1) AC)))) (Qz K))
  (Q0 K))
def Q2:TS:=
 (AF (AM (B_ F6 (BT (AB (A5 (AB (aC 0) (AB (aC 1) AC))) AC)) (I_ F7 (AB (B_ BQ (B_ BM (I_ Gg (AB (AA 0) AC)) (I_ Gg (AB (AA 1) AC))) (aC 1)) (AB (aC 0) AC)))) (AG 7))
  (Q1 K))
def Q3:TS:=
 (AF (AM (B_ gL (B_ gT (AA 3) (aC 0)) (Q_ BZ (aC 1))) (AG 6))
  (Q2 K))
def Q4:TS:=
 (AF (AM (B_ gT (AA 2) (aC 1)) (AG 5))
  (Q3 K))
def Q5:TS:=
 (AF (AM (B_ gT (AA 2) (aC 0)) (AG 4))
  (Q4 K))
def Q6:TS:=
 (AF (AM (bT (FN K) (AB (AA 1) AC)) (AG 3))
  (Q5 K))
def Q7:TS:=
 (AF (AM (bT (FN K) (AB (AA 0) AC)) (AG 2))
  (Q6 K))
def Q8:TS:=
 (AF (AM (bT (IM K) (AB (B_ gT (bT (FN K) (AB (AA 0) AC)) (aC 0)) (AB (B_ gT (bT (FN K) (AB (AA 1) AC)) (aC 0)) AC))) (AG 2))
  (AX (aA (FG (AA 2)) (bT (IN K) (AB (AA 2) (AB (B_ gL (AA 2) (Q_ BZ (aC 1))) AC))) (A5 AC))))
def Q9:TS:=
 (AF (AM (bT (FN K) (AB (AA 0) AC)) (AG 2))
  (AF (AM (aC 0) (AG 3))
  (AF (AM (aC 1) (AG 4))
  (AF (BH (Kw K (AB (B_ gT (AA 2) (aC 0)) AC)) (AG 5) (AF (AM (B_ BQ (B_ Ah (AA 3) (B_ gT (AA 1) (aC 0))) (B_ Ah (AA 5) (AA 4))) (AG 3))
  (C5 4 (B_ gT (AA 1) (aC 1)) Ah)))
  (AX (bT (Fj K) (AB (B_ Ah (AA 3) (B_ gT (AA 1) (aC 1))) (AB (B_ Ah (B_ gT (AA 2) (aC 1)) (AA 4)) AC))))))))
def RA:TS:=
 (AF (AM (bT (J1 K) (AB (AA 0) (AB (AA 1) AC))) (AG 2))
  (AX (bT (J6 K) (AB (bT (HC K) (AB (AA 0) (AB (AA 2) AC))) (AB (bT (HC K) (AB (AA 1) (AB (AA 2) AC))) AC)))))
def RE:TS:=
 (AF (AM (bT (J3 K) (AB (A5 (AB (aC 1) (AB (aC 1) AC))) (AB (B_ gT (AA 1) (Q_ BZ (aC 1))) AC))) (AG 2))
  (AX (A5 (AB (bT (IO K) (AB (AA 0) (AB (AA 2) AC))) (AB (bT (IO K) (AB (AA 1) (AB (AA 2) AC))) AC)))))
def RF:TS:=
 (AX (B_ gT (bT (J2 K) (AB (AA 0) (AB (AA 1) AC))) (aC 0)))
def ZL (_:W.Frag):TS:=
 (AX (AA 9))
def RG:TS:=
 (AF (BO (Cv (As (B_ Kx (AA 2) (tC .non))) (As (B_ cO (bT (IP K) (AB (AA 0) (AB (AA 2) AC))) (A5 (AB (aC 0) (AB (aC 1) AC)))))) (C5 9 (aC 1) BQ) BL)
  (ZL K))
def RH:TS:=
 (AF (AM (bT (Lv K) (AB (bT (Lx K) (AB (AA 3) (AB (AA 7) (AB (AA 8) AC)))) AC)) (AG 9))
  (RG K))
def RI:TS:=
 (AF (BO (Fu (tB (bT (GP K) (AB (AA 7) (AB (AA 8) AC))))) (AX (aC 0)) BL)
  (RH K))
def RJ:TS:=
 (AF (AM (aA (bK (As (B_ Hk (AA 2) (tC .non))) (tB (bT (GP K) (AB (AA 5) (AB (AA 2) AC))))) (AA 5) (AA 2)) (AG 8))
  (RI K))
def RK:TS:=
 (AF (AM (aA (bK (As (B_ Hk (AA 1) (tC .non))) (tB (bT (GP K) (AB (AA 1) (AB (AA 6) AC))))) (AA 6) (AA 1)) (AG 7))
  (RJ K))
def L7:TS:=
 (AF (AM (A5 (AB (Q_ BZ (B_ gT (AA 5) (aC 0))) (AB (B_ gT (AA 5) (aC 1)) AC))) (AG 6))
  (RK K))
def RM:TS:=
 (AF (AM (A5 (AB (B_ JR (aC 1) (I_ F7 (AB (AA 4) (AB (aC 0) AC)))) (AB (B_ JR (aC 1) (I_ F7 (AB (Q_ BZ (AA 4)) (AB (aC 0) AC)))) AC))) (AG 5))
  (L7 K))
def ZM:TS:=
 (AF (AM (bT (Lr K) (AB (AA 3) AC)) (AG 4))
  (RM K))
def ZN:TS:=
 (AF (AM (bT (J5 K) (AB (B_ gT (bT (FN K) (AB (AA 0) AC)) (aC 0)) AC)) (AG 3))
  (ZM K))
def ZO (_:W.Frag):TS:=
 (C5 5 (AA 3) Ah)
def ZP:TS:=
 (AF (Fb (AA 4) (AA 6) (AA 5) gL Ah ED)
  (ZO K))
def ZQ (_:W.Frag):TS:=
 (C5 5 (B_ BM (B_ Ah (B_ gT (AA 2) (aC 0)) (B_ gT (AA 1) (aC 1))) (B_ Ah (B_ gT (AA 1) (aC 0)) (B_ gT (AA 2) (aC 1)))) Ah)
def ZR:TS:=
 (AF (Fb (AA 4) (AA 6) (AA 5) gL Ah ED)
  (ZQ K))
def ZS (_:W.Frag):TS:=
 (AX (AA 4))
def RN:TS:=
 (AF (BH (EC (AB (I_ BU (AB (AA 0) AC)) AC)) (AG 6) (ZR K))
  (ZS K))
def ZT:TS:=
 (AF (AM (aC 1) (AG 5))
  (RN K))
def RP:TS:=
 (AF (AM (bT (HD K) (AB (AA 4) (AB (B_ Ah (B_ gT (AA 1) (aC 0)) (B_ gT (AA 2) (aC 1))) AC))) (AG 4))
  (ZT K))
def RQ:TS:=
 (AF (BH (GA (AB (B_ BM (I_ BU (AB (AA 0) AC)) (aC 1)) (AB (Q_ BZ (aC 1)) (AB (Q_ BZ (aC 1)) AC)))) (AG 6) (ZP K))
  (RP K))
def ZU:TS:=
 (AF (AM (aC 1) (AG 5))
  (RQ K))
def RS:TS:=
 (AF (AM (I_ Gk (AB (AA 0) AC)) (AG 4))
  (ZU K))
def ZV:TS:=
 (AF (AM (B_ Ah (B_ gT (AA 1) (aC 1)) (B_ gT (AA 2) (aC 1))) (AG 3))
  (RS K))
def RT:TS:=
 (El (aP K "list" ES (AA 2) (AB (AA 6) AC)))
def RU:TS:=
 (AF (El (aP K "list" ES (AA 2) (AB (AA 5) AC)))
  (RT K))
def RV:TS:=
 (AF (BO (As (B_ au (B_ gL (AA 6) (aC 0)) (aC 0))) (C5 1 (aC 1) BQ) BL)
  (RU K))
def RW:TS:=
 (AF (AM (bT (HD K) (AB (AA 5) (AB (aC 1) AC))) (AG 6))
  (RV K))
def RX:TS:=
 (AF (AM (bT (Lu K) (AB (AA 3) AC)) (AG 5))
  (RW K))
def L8:TS:=
 (BO (As (B_ aE (AA 4) (aC 1))) (RX K) BL)
def RY:TS:=
 (AF (BO (As (B_ au (AA 4) (aC 1))) (C5 1 (aC 1) BQ) BL)
  (L8 K))
def RZ:TS:=
 (AF (AM (bT (Ls K) (AB (bT (HD K) (AB (OJ (AA 3)) (AB (aC 1) AC))) AC)) (AG 4))
  (RY K))
def Ra:TS:=
 (AF (AM (Hb K "list" Kl (AA 2)) (AG 3))
  (RZ K))
def Rb (_:W.Frag):TS:=
 (AX (AA 1))
def Rc:TS:=
 (AF (Ds (FG (AA 2)) (Ra K))
  (Rb K))
def Re:TS:=
 (AF (AM (BT (AB (AA 0) AC)) (AG 2))
  (Rc K))
def ZW:TS:=
 (AF (AM (aC 0) (AG 1))
  (Re K))
def ZX:TS:=
 (AF (AM (B_ BM (I_ BU (AB (AA 0) AC)) (aC 1)) (AG 1))
  (AX (CY (Gj K (AB (AA 0) AC)) [none,none,some 1] (Go 2 (EB (AG 0) (EB (AG 1) Ga))) (B_ JR (AA 1) (B_ BM (AA 2) (AA 0))))))
def Rf (_:W.Frag):TS:=
 (AM (aA (As (B_ aE (AA 3) (aC 0))) (aC 1) (Q_ BZ (aC 1))) (AG 2))
def Rg:TS:=
 (AF (BO (As (B_ ah (B_ Ah (AA 2) (AA 3)) (aC 0))) (C5 1 (aC 1) BQ) BL)
  (Rf K))
def Rh (_:W.Frag):TS:=
 (AX (AA 1))
def Ri:TS:=
 (AF (BH (Cb K (AA 0)) (AG 3) (BO (As (B_ aM (AA 3) (aC 0))) (Rg K) BL))
  (Rh K))
def Rj:TS:=
 (AF (AM (aC 0) (AG 2))
  (Ri K))
def ZY:TS:=
 (AF (AM (aC 0) (AG 1))
  (Rj K))
def Rk:TS:=
 (AF (AM (aA (As (B_ cO (bT (IP K) (AB (B_ gT (AA 0) (aC 1)) (AB (AA 1) AC))) (A5 (AB (aC 0) (AB (aC 1) AC))))) (aC 1) (aC 0)) (AG 3))
  (AX (aA (tB (bT (GP K) (AB (AA 1) (AB (AA 2) AC)))) (B_ BQ (AA 3) (bT (J7 K) (AB (B_ gT (AA 0) (aC 1)) (AB (AA 1) (AB (AA 2) AC))))) (AA 3))))
def ZZ:TS:=
 (AF (BO (As (Kg cM ah (aC 0) (AA 1) (I_ (Kt K) (AB (AA 0) AC)))) (AX (B_ (gS K) (AA 0) (AA 1))) BL)
  (AX (aC 0)))
def Rl (_:W.Frag):TS:=
 (AX (B_ DH (B_ Hg (B_ DH (B_ Ah (AA 3) (AA 3)) (aC 1999999973)) (aC 7)) (AA 2)))
def Rm:TS:=
 (AF (AM (B_ DH (B_ Ah (B_ BQ (B_ BQ (B_ DH (AA 0) (aC 2147483629)) (B_ Ah (B_ Ah (AA 1) (AA 1)) (aC 7919))) (aC 11)) (aC 48271)) (aC 2147483647)) (AG 3))
  (Rl K))
def Za:TS:=
 (AF (BO (Cv (As (B_ aE (AA 0) (B_ Kr (aC 2) (aC 60)))) (As (B_ ah (AA 2) (aC 200)))) (AX (B_ DH (B_ DH (B_ OI (AA 0) (B_ Ah (aC 8) (AA 1))) (aC 256)) (AA 2))) BL)
  (Rm K))
def Ro (_:W.Frag):TS:=
 (AF (Iu 2 3 (AB (I_ Gf (AB (AA 0) AC)) (AB (I_ Gf (AB (AA 1) AC)) AC)))
  (AF (Ds (As (B_ aE (AA 3) (aC 0))) (Iu 2 3 (AB (AA 3) (AB (B_ DH (AA 2) (AA 3)) AC))))
  (AF (BO (As (B_ ah (AA 1) (aC 0))) (AM (Q_ BZ (AA 2)) (AG 2)) BL)
  (AX (A5 (AB (B_ Dv (AA 0) (AA 2)) (AB (B_ Dv (AA 1) (AA 2)) AC)))))))
def Zb:TS:=
 (AX (bT (FO K) (AB (B_ BQ (B_ Ah (B_ gT (AA 0) (aC 0)) (B_ gT (AA 1) (aC 1))) (B_ Ah (B_ gT (AA 1) (aC 0)) (B_ gT (AA 0) (aC 1)))) (AB (B_ Ah (B_ gT (AA 0) (aC 1)) (B_ gT (AA 1) (aC 1))) AC))))
def Zc:TS:=
 (AX (bT (FO K) (AB (B_ Ah (B_ gT (AA 0) (aC 0)) (B_ gT (AA 1) (aC 0))) (AB (B_ Ah (B_ gT (AA 0) (aC 1)) (B_ gT (AA 1) (aC 1))) AC))))
def Zd (_:W.Frag):TS:=
 (AX (B_ cM (B_ Ah (B_ gT (AA 0) (aC 0)) (B_ gT (AA 1) (aC 1))) (B_ Ah (B_ gT (AA 1) (aC 0)) (B_ gT (AA 0) (aC 1)))))
def Rp (_:W.Frag):TS:=
 (AX (AA 2))
def Rs:TS:=
 (AF (BH (EC (AB (I_ BU (AB (AA 0) AC)) AC)) (AG 3) (BH (EC (AB (I_ BU (AB (AA 1) AC)) AC)) (AG 4) (AM (bT (HE K) (AB (B_ gL (AA 2) (B_ BQ (AA 3) (AA 4))) (AB (bT (J8 K) (AB (B_ gL (AA 0) (AA 3)) (AB (B_ gL (AA 1) (AA 4)) AC))) AC))) (En (AA 2) (B_ BQ (AA 3) (AA 4)) ED))))
  (Rp K))
def Ze:TS:=
 (AF (AM (B_ F6 (BT (AB (A5 (AB (aC 0) (AB (aC 1) AC))) AC)) (B_ BM (B_ BQ (I_ BU (AB (AA 0) AC)) (I_ BU (AB (AA 1) AC))) (aC 1))) (AG 2))
  (Rs K))
def Ru:TS:=
 (BH (EC (AB (B_ BQ (aC 1) (B_ Ah (I_ Ks (AB (B_ ah (AA 4) (aC 3)) AC)) (bT (CH K) (AB (AA 0) (AB (B_ BQ (aC 9) (AA 5)) (AB (aC 2) AC)))))) AC)) (AG 7) (AM (bT (FP K) (AB (AA 3) (AB (BT (AB (bT (J8 K) (AB (AA 6) (AB (A5 (AB (Q_ BZ (aC 1)) (AB (aC 1) AC))) AC))) (AB (A5 (AB (aC 1) (AB (aC 1) AC))) AC))) AC))) (AG 3)))
def Rv:TS:=
 (AF (El (aP K "list" ES (AA 1) (AB (AA 6) AC)))
  (Ru K))
def Rw:TS:=
 (AF (AM (bT (FO K) (AB (B_ BM (bT (CH K) (AB (AA 0) (AB (B_ BQ (aC 2) (AA 5)) (AB (aC 13) AC)))) (aC 6)) (AB (B_ BQ (aC 1) (bT (CH K) (AB (AA 0) (AB (B_ BQ (aC 6) (AA 5)) (AB (aC 3) AC))))) AC))) (AG 6))
  (Rv K))
def Rx:TS:=
 (AM (bT (FP K) (AB (AA 3) (AB (BT (AB (A5 (AB (Q_ BZ (AA 8)) (AB (aC 1) AC))) (AB (A5 (AB (aC 0) (AB (aC 1) AC))) (AB (A5 (AB (aC 1) (AB (aC 1) AC))) AC)))) AC))) (AG 3))
def Ry:TS:=
 (AF (El (aP K "list" ES (AA 2) (AB (AA 8) AC)))
  (Rx K))
def Rz:TS:=
 (AF (AM (B_ gT (A5 (AB (aC 2) (AB (aC 3) (AB (aC 5) (AB (aC 6) (AB (aC 7) AC)))))) (bT (CH K) (AB (AA 0) (AB (B_ BQ (aC 13) (AA 5)) (AB (aC 5) AC))))) (AG 8))
  (Ry K))
def L9:TS:=
 (AM (bT (FP K) (AB (AA 3) (AB (BT (AB (A5 (AB (Q_ BZ (B_ gL (AA 9) (aC 0))) (AB (aC 1) AC))) (AB (A5 (AB (aC 0) (AB (aC 1) AC))) (AB (A5 (AB (aC 0) (AB (aC 1) AC))) (AB (A5 (AB (aC 1) (AB (aC 1) AC))) AC))))) AC))) (AG 3))
def R3:TS:=
 (AF (El (aP K "list" ES (AA 9) (AB (B_ Ah (B_ gT (A5 (AB (aC 2) (AB (aC 3) (AB (aC 5) (AB (aC 7) AC))))) (bT (CH K) (AB (AA 0) (AB (aC 21) (AB (aC 4) AC))))) (B_ BM (aC 1) (B_ Ah (aC 2) (bT (CH K) (AB (AA 0) (AB (aC 22) (AB (aC 2) AC))))))) AC)))
  (L9 K))
def MA (_:W.Frag):TS:=
 (AX (A5 (AB (AA 3) (AB (AA 1) (AB (AA 2) (AB (AA 9) AC))))))
def MB:TS:=
 (AF (BO (Cv (As (B_ ah (I_ BU (AB (AA 2) AC)) (aC 2))) (As (B_ au (bT (CH K) (AB (AA 0) (AB (aC 18) (AB (aC 2) AC)))) (aC 0)))) (AM (bT (FP K) (AB (AA 3) (AB (BT (AB (A5 (AB (B_ BQ (aC 1) (bT (CH K) (AB (AA 0) (AB (aC 19) (AB (aC 9) AC))))) (AB (aC 1) AC))) (AB (A5 (AB (aC 0) (AB (aC 1) AC))) (AB (A5 (AB (aC 1) (AB (aC 1) AC))) AC)))) AC))) (AG 3)) BL)
  (MA K))
def R4:TS:=
 (AF (BO (Cv (As (B_ ah (AA 4) (aC 2))) (Cv (As (B_ cO (AA 2) (BT AC))) (As (B_ au (bT (CH K) (AB (AA 0) (AB (aC 20) (AB (aC 2) AC)))) (aC 0))))) (R3 K) BL)
  (MB K))
def R5:TS:=
 (AF (AM (BT AC) (AG 9))
  (R4 K))
def R6:TS:=
 (AF (BH (EC (AB (bT (CH K) (AB (AA 0) (AB (aC 12) (AB (aC 3) AC)))) AC)) (AG 5) (Rz K))
  (R5 K))
def R7:TS:=
 (AF (BH (EC (AB (AA 4) AC)) (AG 5) (Rw K))
  (R6 K))
def R8:TS:=
 (AF (AM (bT (CH K) (AB (AA 0) (AB (aC 1) (AB (aC 4) AC)))) (AG 4))
  (R7 K))
def R9:TS:=
 (AF (AM (BT (AB (A5 (AB (B_ BQ (aC 1) (bT (CH K) (AB (AA 0) (AB (aC 0) (AB (aC 5) AC))))) (AB (aC 1) AC))) AC)) (AG 3))
  (R8 K))
def SC:TS:=
 (AF (AM (BT AC) (AG 2))
  (R9 K))
def Zf:TS:=
 (AF (AM (BT AC) (AG 1))
  (SC K))
def Zg (_:W.Frag):TS:=
 (AF (AM (B_ ah (B_ Ah (B_ gT (AA 0) (aC 0)) (B_ gT (AA 0) (aC 0))) (B_ Ah (B_ Ah (AA 1) (B_ gT (AA 0) (aC 1))) (B_ gT (AA 0) (aC 1)))) (AG 3))
  (AF (BO (As (B_ aE (AA 2) (aC 0))) (AX (Ip (B_ ah (B_ gT (AA 0) (aC 0)) (aC 0)) (AA 3))) BL)
  (AX (Io (B_ ah (B_ gT (AA 0) (aC 0)) (aC 0)) (Iq (AA 3))))))
def Zh (_:W.Frag):TS:=
 (AX (B_ ah (B_ Ah (B_ Ah (B_ gT (AA 0) (aC 0)) (B_ gT (AA 0) (aC 0))) (B_ gT (AA 0) (aC 0))) (B_ Ah (B_ Ah (B_ Ah (AA 1) (B_ gT (AA 0) (aC 1))) (B_ gT (AA 0) (aC 1))) (B_ gT (AA 0) (aC 1)))))
def SE (_:W.Frag):TS:=
 (AX (I_ OU (AB (AA 5) AC)))
def SF:TS:=
 (AF (BH (Cb K (AA 1)) (AG 6) (BH (FC K (A5 (AB (Q_ BZ (aC 1)) (AB (aC 1) AC)))) (AG 8) (BO (Cv (tB (bT (KC K) (AB (AA 3) (AB (AA 6) (AB (AA 8) AC))))) (Fu (tB (bT (KC K) (AB (AA 4) (AB (AA 6) (AB (AA 8) AC))))))) (AM (tC (.bl true)) (En (AA 5) (A5 (AB (AA 6) (AB (aC 0) (AB (AA 8) AC)))) Hm)) BL)))
  (SE K))
def SG:TS:=
 (AF (BH (Cb K (AA 0)) (AG 7) (BO (Cv (tB (bT (J9 K) (AB (AA 3) (AB (AA 7) AC)))) (tB (bT (J9 K) (AB (AA 7) (AB (AA 4) AC))))) (AM (tC (.bl true)) (En (AA 5) (AA 7) Hm)) BL))
  (SF K))
def SH:TS:=
 (AF (BH (Cb K (AA 2)) (AG 6) (BO (Cv (tB (bT (KD K) (AB (AA 3) (AB (AA 6) AC)))) (Fu (tB (bT (KD K) (AB (AA 4) (AB (AA 6) AC)))))) (AM (tC (.bl true)) (En (AA 5) (A5 (AB (AA 6) (AB (aC 0) (AB (aC 3) AC)))) Hm)) BL))
  (SG K))
def Zi:TS:=
 (AF (AM OK (AG 5))
  (SH K))
def SI:TS:=
 (AM (bT (HE K) (AB (AA 7) (AB (bT (FO K) (AB (bT (CH K) (AB (AA 6) (AB (aC 2) (AB (aC 13) AC)))) (AB (B_ BQ (aC 1) (bT (CH K) (AB (AA 6) (AB (aC 3) (AB (aC 3) AC))))) AC))) AC))) (AG 8))
def SJ:TS:=
 (AF (AM (B_ gL (AA 2) (bT (CH K) (AB (AA 6) (AB (aC 5) (AB (I_ BU (AB (AA 2) AC)) AC))))) (AG 7))
  (SI K))
def SK:TS:=
 (BO (As (B_ aM (AA 9) (bT (L4 K) (AB (AA 2) (AB (AA 3) (AB (AA 4) (AB (AA 7) (AB (AA 8) AC)))))))) (AX (tC (.bl false))) BL)
def SL:TS:=
 (AF (BO (bK (Fu (tB (I_ K6 (AB (AA 9) (AB (tC (.ty "int")) AC))))) (tB (I_ K6 (AB (AA 9) (AB (tC (.ty "bool")) AC))))) (AX (tC (.bl false))) BL)
  (SK K))
def SM:TS:=
 (AF (AM (bT (L6 K) (AB (AA 5) (AB (AA 7) (AB (AA 8) AC)))) (AG 9))
  (SL K))
def SN:TS:=
 (AF (BO (Cv (As (B_ neD (AA 2) (BT AC))) (As (B_ au (bT (CH K) (AB (AA 6) (AB (aC 4) (AB (aC 3) AC)))) (aC 0)))) (SJ K) BL)
  (SM K))
def SO:TS:=
 (AF (AM (bT (HE K) (AB (AA 7) (AB (bT (FO K) (AB (bT (CH K) (AB (AA 6) (AB (aC 2) (AB (aC 13) AC)))) (AB (B_ BQ (aC 1) (bT (CH K) (AB (AA 6) (AB (aC 3) (AB (aC 3) AC))))) AC))) AC))) (AG 8))
  (SN K))
def SQ:TS:=
 (AF (AM (bT (FO K) (AB (B_ BM (bT (CH K) (AB (AA 6) (AB (aC 0) (AB (aC 19) AC)))) (aC 9)) (AB (B_ BQ (aC 1) (bT (CH K) (AB (AA 6) (AB (aC 1) (AB (aC 3) AC))))) AC))) (AG 7))
  (SO K))
def Zj (_:W.Frag):TS:=
 (AX (tC (.bl true)))
def SR:TS:=
 (AF (BH (Cb K (B_ Km (bN (sS K) (AA 0) (Fd (aC 1)) (Fd (aC 11))) (BT (AB (aC 7) AC)))) (AG 6) (SQ K))
  (Zj K))
def SS:TS:=
 (AF (AM (bT (L5 K) (AB (A5 (AB (A5 (AB (aC 3) (AB (aC 2) AC))) AC)) (AB (I_ JK (AB (AA 1) AC)) AC))) (AG 5))
  (SR K))
def Zk:TS:=
 (AF (AM (bT (L3 K) (AB (bT (Ly K) (AB (AA 0) (AB (aC 0) AC))) AC)) (Go 4 (EB (AG 1) (EB (AG 2) (EB (AG 3) (EB (AG 4) Ga))))))
  (SS K))
end
variable {K:W.Frag} {vs:dz} {H:Hp} {Q:VK} {E:XK}
local macro_rules | `(tactic| rwa [$[$t:term],*]) => do
 let l : Array Lean.Term := (("AF AM AK AB AA AC AG En L2.start BO aA As L2.tB B_ a8 rI L2.tC Q_ rU BL AX A5 BT Iu C5 El I_ Kg Cv bK Fu Io Ip Iq au aM ED BQ BM Ah Hg WZ DH Nv Kr ah cM aE cN BZ gT gL gS Gf F7 Wa Ks Gg BU Kt Wd We Wf Wg eqT Wh Wi Wj Wk List.map_cons List.map_nil List.length_cons List.length_nil List.replicate List.cons_append List.nil_append List.append_nil List.getElem?_cons_zero List.getElem?_cons_succ Option.some.injEq exists_eq_left' exists_eq_left V.int.injEq V.bl.injEq V.ref.injEq V.ty.injEq HO.tup.injEq HO.lst.injEq List.cons.injEq and_true true_and and_assoc exists_and_left List.set_cons_zero List.set_cons_succ decide_eq_true_eq decide_eq_false_iff_not Bool.not_eq_true' Bool.true_eq_false Bool.false_eq_true Bool.not_true Bool.not_false if_true if_false ite_true ite_false Wp Wq DX DY Wl Wm Wn Wr Ws Nat.zero_add Nat.reduceAdd Nat.reduceSub upd_same Int.cast_ofNat_Int decide_true decide_false eq_self not_true_eq_false not_false_eq_true Int.natCast_add Int.natCast_zero reduceCtorEq Nm Go EB Ga Fb bN Gc Fd sL sT JK XE Gk FG XD F6 Km ES Kk Kl aP Hb W4 W5 W6 W7 W9 XR XQ W8 XH XI K1 OD K2 Hk Kx FH Dv Ky Gp C6 Option.bind_some Option.bind_none Option.bind Option.join id_eq sS Xa Xe Ev Js IH G7 II G8 IJ Jt IK GO IL Ju Jv G9 HA Jw Jx Jy Jz J0 IM Fj Y1 J4 J5 CH Y0 J3 IO J2 HC IP Pw HB IN J1 FN".splitOn " ").map λs => (⟨(Lean.mkIdent s.toName).raw⟩ : Lean.Term)).toArray
 `(tactic| simp only [$[$(l ++ t):term],*])
def Ew {a b:Int} (c:Bd 60000000 a) (d:Bd 60000000 b):IntMulOk a b:=Xf c d ∅
def ST {a b:Int} (c:-18446744073709551616<b) (d:b<18446744073709551616):IntMulOk a b:=IntMulOk.of_right (intBits_le_64 ⋯ ⋯)
def FQ {a b:Int} (c:-18446744073709551616<a) (d:a<18446744073709551616):IntMulOk a b:=IntMulOk.of_left (intBits_le_64 ⋯ ⋯)
def Zl (h:Ev K vs H Q E):Py K { nx:=λ_ d=>Q .non d,rt:=Q } (L2.start ["one","other","rest"] vs) H:=by
 obtain ⟨a,b,rfl,q⟩:=h;unfold Py;rwa [];refine ET (λm f d=>∃ (x y:Int) (r:dC),f=[some (.int x),some (.int y),r]/\d=H/\Int.gcd x y=Int.gcd a b/\m=y.natAbs) b.natAbs ⟨a,b,none,rfl,rfl,rfl,rfl⟩ ?_;rintro m f d ⟨x,y,r,rfl,rfl,g,rfl⟩;rwa [];refine AV (λc=>?_) (λc=>?_)
 ·refine ⟨λi j=>∃ k,k<y.natAbs/\_,λ_ _ h=>h,?_⟩;refine ⟨c,_,WW x c,y,x.fmod y,_,rfl,rfl,?_,rfl⟩;rw [Nt];exact g
 ·have n:y=0:=Decidable.not_not.mp c;subst n
  have e:(if x<0 then -x else x)=((Int.gcd a b:Nat):Int):=by
   rw [<-g,Int.gcd_zero_right];split <;> omega
  rw [e];exact q
def Zm (h:Js K vs H Q E):P3 K { nx:=λ_ f=>Q .non f,rt:=Q } (L2.start ["whole","n","result","square"] vs) H:=by
 obtain ⟨x,n,b,rfl,J,B,L,q⟩:=h;unfold P3;rwa []
 have p:∀ k:Nat,k<=n.toNat->Bd 60000000 (x ^ k):=λk hk=>(B.pow k).mono (by
  have:=CD b hk;omega)
 refine ET (λm A f=>∃ r s:Nat,A=[some (.int x),some (.int (m:Int)),some (.int (x ^ r)),some (.int (x ^ s))]/\f=H/\r+s*m=n.toNat) n.toNat ⟨0,1,?_,rfl,⋯⟩ ?_
 ·have e:((n.toNat:Nat):Int)=n:=by omega
  rw [e,Int.pow_zero,show x ^ 1=x by rw [Int.pow_succ,Int.pow_zero,Dn]]
 rintro m A f ⟨r,s,rfl,rfl,M⟩;rwa [];refine AV (λc=>?_) (λc=>?_)
 ·have C:1<=m:=by omega
  have N:s<=s*m:=GV s C;have D:Kq (m:Int) 2:=⟨∅,(WV ∅ ∅).mono ∅⟩
  have i:s*m=(s+s)*(m / 2)+s*(m % 2):=by
   have e:m=2*(m / 2)+m % 2:=(Nat.div_add_mod m 2).symm;generalize m / 2=u at e ⊢;generalize m % 2=v at e ⊢;subst e;rw [Nat.mul_add];congr 1;rw [<-Nat.mul_assoc,Cy s 2];congr 1;omega
  have F:((m:Int) / 2)=((m / 2:Nat):Int):=by omega
  rw [F];refine ⟨λG I=>∃ d,d<m/\_,λ_ _ h=>h,?_⟩
  have j:∀ g:Nat,g+(s+s)*(m / 2)=n.toNat->Kq (m:Int) 2/\if 0<((m / 2:Nat):Int) then IntMulOk (x ^ s) (x ^ s)/\∃ d,d<m/\∃ r a,[some (V.int x),some (V.int ((m / 2:Nat):Int)),some (V.int (x ^ g)),some (V.int (x ^ s*x ^ s))]=[some (V.int x),some (V.int (d:Int)),some (V.int (x ^ r)),some (V.int (x ^ a))]/\f=f/\r+a*d=n.toNat
    else ∃ d,d<m/\∃ r a,[some (V.int x),some (V.int ((m / 2:Nat):Int)),some (V.int (x ^ g)),some (V.int (x ^ s))]=[some (V.int x),some (V.int (d:Int)),some (V.int (x ^ r)),some (V.int (x ^ a))]/\f=f/\r+a*d=n.toNat:=λg o=>by
   refine ⟨D,AV (λw=>?_) (λw=>?_)⟩
   ·exact ⟨Ew (p s ⋯) (p s ⋯),m / 2,⋯,g,s+s,by rw [Int.pow_add],rfl,o⟩
   ·have z:m / 2=0:=by omega
    rw [z] at o ⊢;exact ⟨0,⋯,g,s,rfl,rfl,⋯⟩
  refine ⟨∅,AV (λw=>⟨Ew (p r ⋯) (p s ⋯),?_⟩) (λw=>?_)⟩
  ·rw [<-Int.pow_add];have y:m % 2=1:=by omega
   rw [y] at i;exact j (r+s) ⋯
  ·have y:m % 2=0:=by omega
   rw [y] at i;exact j r ⋯
 ·have z:m=0:=by omega
  subst z;have e:r=n.toNat:=by omega
  subst e;exact q
def SU {H:Hp} {Q:VK} {xs:dz} {l:dg} {m:Nat} (a:Nums H xs l) (b:m<=l.length) (e:Ci l l.length=m) (q:Gy H Q (K' l)) :
  ∀ (p:Addr),H p=none->∀ (r:Addr),upd H p (.lst (Cg xs none (some (m:Int)))) r=none->Q (V.ref r) (upd (upd H p (.lst (Cg xs none (some (m:Int))))) r (.tup (Cg xs none (some (m:Int))))):=λp hp r c=>by
 have s:=(AQ hp (.lst (Cg xs none (some (m:Int))))).trans (AQ c (.tup (Cg xs none (some (m:Int)))));refine q r _ _ s upd_same ?_;rw [LR (by rw [a.length];exact b)];rw [LR (by rw [a.length];exact b)] at s;unfold K';rw [e];exact (a.take m).tp (V_ s)
def Zn (l:dg) (m:Nat):Ci l (m+1)=if (l.getD m (1,1)).1=0 then Ci l m else m+1:=rfl
def Zo (h:HB K vs H Q E):Qo K { nx:=λ_ b=>Q .non b,rt:=Q } (L2.start ["row","many"] vs) H:=by
 obtain ⟨p,n,l,rfl,hp,d,hl,q⟩:=h;unfold Qo;rwa [hp];have o:=d.length;refine ET (λm g b=>g=[some (.ref p),some (.int (m:Int))]/\b=H/\Ci l m=Ci l l.length/\m<=l.length) n.length ⟨rfl,rfl,by rw [o],⋯⟩ ?_;rintro m g b ⟨rfl,rfl,a,j⟩;rwa [hp];refine AV (λc=>?_) (λc=>?_)
 ·obtain ⟨k,rfl⟩:∃ k,m=k+1:=⟨m - 1,⋯⟩;obtain ⟨v,hv,r,rfl,e⟩:=d.at (i:=k) ⋯ (1,1);rw [Zn] at a;refine ⟨_,DI ⋯ hv,r,rfl,_,e,_,rfl,rfl,AV (λf=>?_) (λf=>?_)⟩
  ·have z:(l.getD k (1,1)).1=0:=by injection f
   rw [sZ z] at a;exact ⟨λu w=>∃ x,x<k+1/\_,λ_ _ h=>h,k,⋯,by rw [show ((k+1:Nat):Int) - 1=(k:Int) by omega],rfl,a,⋯⟩
  ·have z:(l.getD k (1,1)).1≠0:=λz=>f (by rw [z]);rw [sY z] at a;exact SU d j a.symm q
 ·have z:m=0:=by omega
  subst z;exact SU d j a.symm q
def Zp {l:dg} {i:Nat} {q:Nu} (h:l[i]?=some q):(l.take (i+1)).foldl (λB q=>B*(q.2 / ((Int.gcd B q.2:Nat):Int))) 1=(l.take i).foldl (λB q=>B*(q.2 / ((Int.gcd B q.2:Nat):Int))) 1*(q.2 / ((Int.gcd ((l.take i).foldl (λB q=>B*(q.2 / ((Int.gcd B q.2:Nat):Int))) 1) q.2:Nat):Int)):=by
 rw [Eg,h,List.foldl_append];rfl
def HF {a b:Type} {l:List a} {i:Nat} {q:a} (f:a->b) (h:l[i]?=some q):(l.take (i+1)).map f=(l.take i).map f++[f q]:=by
 rw [Eg,h,DC];rfl
def DK (n:Nat) (f:dO):(Ai n f).length=n:=by unfold Ai;rw [AJ,AJ,BI]
def Cq {n k:Nat} (f:dO) (h:k<n):(Ai n f)[k]?=some (.int (f k)):=by
 unfold Ai;rw [Ae,Ae,Co h];rfl
def Fk {n k:Nat} {f g:dO} {z:Int} (h:k<n) (b:g k=z) (c:∀ i,i<n->i≠k->g i=f i):(Ai n f).set k (.int z)=Ai n g:=by
 apply Eh;intro i;by_cases a:i<n
 ·by_cases e:i=k
  ·subst e;rw [List.getElem?_set_self (by rw [DK];exact a),Cq g a,b]
  ·rw [List.getElem?_set_ne (λz=>e z.symm),Cq f a,Cq g a,c i a e]
 ·rw [Ba (by rw [List.length_set,DK];omega),Ba (by rw [DK];omega)]
def Ex {n:Nat} {f g:dO} (h:∀ i,i<n->g i=f i):Ai n f=Ai n g:=by
 apply Eh;intro i;by_cases a:i<n
 ·rw [Cq f a,Cq g a,h i a]
 ·rw [Ba (by rw [DK];omega),Ba (by rw [DK];omega)]
def SV (n:Nat):(List.replicate n [V.int 0]).flatten=Ai n λ_=>0:=by
 rw [Ht];apply Eh;intro i;by_cases a:i<n
 ·rw [Cq _ a,FV,sZ a]
 ·rw [FV,sY a,Ba (by rw [DK];omega)]
def Ey {n k:Nat} {i:Int} (e:i=(k:Int)) (h:k<n):av n i=some k:=by
 subst e;unfold av;rw [sZ ⋯,sZ ⋯];simp
def Bw {m n:Nat} {x y:Int} (a:Bd m x) (b:Bd n y) (c:m<=60000000:=by decide) (d:n<=60000000:=by decide):IntMulOk x y:=Ew (a.mono c) (b.mono d)
def IR (a:dD) (m:Nat):DJ a (m+1)=if a.getD m 1=0 then DJ a m else m+1:=rfl
def Zq (h:G7 K vs H Q E):P5 K { nx:=λ_ d=>Q .non d,rt:=Q } (L2.start ["row","many"] vs) H:=by
 obtain ⟨p,a,rfl,hp,q⟩:=h;unfold P5;rwa [hp]
 have b:∀ m:Nat,m<=a.length->DJ a m=DJ a a.length->DJ a m=m->∀ r,H r=none->Q (V.ref r) (upd H r (.lst (Cg (a.map V.int) none (some (m:Int))))):=λm j n o r u=>by
  rw [LR (by rw [AJ];exact j),<-List.map_take,<-o,n];exact q r u
 refine ET (λm g d=>g=[some (.ref p),some (.int (m:Int))]/\d=H/\DJ a m=DJ a a.length/\m<=a.length) a.length ⟨by rw [AJ],rfl,rfl,AS _⟩ ?_;rintro m g d ⟨rfl,rfl,e,i⟩;rwa [hp];refine AV (λc=>?_) (λc=>?_)
 ·obtain ⟨k,rfl⟩:∃ k,m=k+1:=⟨m - 1,⋯⟩
  have hv:(a.map V.int)[k]?=some (V.int (a.getD k 1)):=by
   rw [Ae,Ag ⋯,AO,Ag ⋯];rfl
  refine ⟨_,DI ⋯ hv,rfl,AV (λf=>?_) (λf=>?_)⟩
  ·have z:a.getD k 1=0:=by injection f
   rw [IR,sZ z] at e;exact ⟨λv w=>∃ x,x<k+1/\_,λ_ _ h=>h,k,⋯,by rw [show ((k+1:Nat):Int) - 1=(k:Int) by omega],rfl,e,⋯⟩
  ·have z:a.getD k 1≠0:=λz=>f (by rw [z]);exact b (k+1) i e (by rw [IR,sY z])
 ·have z:m=0:=by omega
  subst z;exact b 0 i e rfl
theorem MD (a:dD):∀ m,DJ a m<=m
 | 0=>AS 0
 | m+1=>by
   rw [IR];split
   ·exact Nat.le_succ_of_le (MD a m)
   ·exact AS _
def ME {a:dD}:(C8 a).length=DJ a a.length:=by
 unfold C8;rw [CJ,Nat.min_eq_left (MD a a.length)]
def SW {c:dD} (k:Nat):(C8 c).getD k 0=c.getD k 0:=by
 have i:∀ (m:Nat),m<=c.length->(∀ j,m<=j->j<c.length->c.getD j 0=0)->∀ j,DJ c m<=j->j<c.length->c.getD j 0=0:=by
  intro m
  induction m with
  | zero=>intro _ h j n d;exact h j ⋯ d
  | succ m o=>
    intro p h j f g;rw [IR] at f;split at f
    ·rename_i z;refine o ⋯ (λj n d=>?_) j f g;by_cases e:j=m
     ·subst e;rw [AO,Ag d] at z ⊢;exact z
     ·exact h j ⋯ d
    ·exact h j f g
 by_cases f:k<DJ c c.length
 ·unfold C8;rw [AO,AO,List.getElem?_take_of_lt f]
 ·have e:(C8 c).getD k 0=0:=by
   rw [AO,Ba (by rw [ME];omega)];rfl
  rw [e];by_cases g:k<c.length
  ·exact (i c.length (AS _) (λj a b=>absurd b ⋯) k ⋯ g).symm
  ·rw [AO,Ba ⋯];rfl
theorem SX {a:dD} {g:Int} (h:∀ z∈a,g∣z) (k:Nat):g∣a.getD k 0:=by
 rw [AO];cases e:a[k]? with
 | none=>exact DN g
 | some z=>exact h z (Bu e)
def MF {m:dg} (b:A7 m) (f:Nz m) (h:1<=m.length):(Aj m).getD (m.length - 1) 0≠0:=by
 rw [LH,Ol];have a:m.length - 1<m.length:=by omega
 have q:=f m[m.length - 1] (by rw [Fp];exact Ag a);have e:AW m (m.length - 1)=m[m.length - 1]:=by unfold AW;rw [AO,Ag a];rfl
 rw [e];refine CO q ?_;have o:=Dc b;have d:=o.2 m[m.length - 1] (DM a);obtain ⟨y,c⟩:=d;have g:=(b m[m.length - 1] (DM a)).pos;rw [c,GW _ (AU g)];intro z;rw [z,Int.mul_zero] at c;have:=o.1;omega
def SY {xs:dz} {v:V} (h:1<=xs.length) (e:xs[xs.length - 1]?=some v):O' xs (-1)=some v:=by
 unfold O' av;rw [sY ∅,sZ ⋯,show (-1+(xs.length:Int)).toNat=xs.length - 1 by omega];exact e
def Zr {n m:Int} (h:0<m):AT n m=P' n m:=by unfold AT;rw [sY ⋯]
def Zs (h:Fj K vs H Q E):Ql K { nx:=λ_ j=>Q .non j,rt:=Q } (L2.start ["top","bottom","shared"] vs) H:=by
 obtain ⟨a,b,rfl,d,q⟩:=h;unfold Ql;rwa []
 have f:∀ s:Int,(s=if b<0 then -((Int.gcd a b:Nat):Int) else ((Int.gcd a b:Nat):Int))->Gp a s/\Gp b s/\2<=sizeLine/\∀ (p:Addr),H p=none->Q (V.ref p) (upd H p (.tup [.int (a.fdiv s),.int (b.fdiv s)])):=λs k=>by
  obtain ⟨g,n,i,m,o,r⟩:=JD d k
  have e:AT a b=(a.fdiv s,b.fdiv s):=by
   refine FK (Db d) i ?_;rw [FM d,JV (q:=(a.fdiv s,b.fdiv s)) (AU i.pos) d m]
  rw [e] at q;exact ⟨g,g,sz ∅,q⟩
 refine AV (λc=>?_) (λc=>?_)
 ·exact f _ (by rw [sZ c])
 ·exact f _ (by rw [sY c])
def Zt (h:FN K vs H Q E):Qp K { nx:=λ_ d=>Q .non d,rt:=Q } (L2.start ["P","bottom","number"] vs) H:=by
 obtain ⟨p,f,l,M,rfl,hp,w,k,j,bM,I,hl,q⟩:=h;unfold Qp;rwa [hp];have C:=w.length;have J:=(Dc k).1;have L:=EF (AU j.1) (On k j) bM;have D:∀ q∈l,Bd 400000 q.2:=λq m=>EF (AU j.1) (j.2 q m) bM;refine ⟨⟨_,SqT.of hp⟩,ForT.by (xs:=f) (λi n d=>∃ x,n=[some (.ref p),some (.int ((l.take i).foldl (λB q=>B*(q.2 / ((Int.gcd B q.2:Nat):Int))) 1)),x]/\d=H) ⟨none,rfl,rfl⟩ ?_ ?_ ?_⟩
 ·rintro i n d _ ⟨x,rfl,rfl⟩;exact hp
 ·rintro i x n d o ⟨y,rfl,rfl⟩;obtain ⟨z,c,N,rfl,g⟩:=w.get o;have u:=k z (Bu c);have F:=D z (Bu c);obtain ⟨O,P⟩:=LG (M:=M) (l.take i) 1 (λq m=>⟨(k q (List.mem_of_mem_take m)).pos,j.2 q (List.mem_of_mem_take m)⟩) ∅ (Int.one_dvd M);have R:=EF (AU j.1) P bM;obtain ⟨s1,_,_,S,T,s6⟩:=LD O u.pos;rwa [g];refine ⟨T,Bw R (F.le S),?_,_,rfl⟩;rw [Zp c]
 ·rintro n d ⟨x,rfl,rfl⟩;rw [C,Cz];rwa [hp];refine ⟨⟨_,SqT.of hp⟩,CompJ.tup (xs:=f) (λi v b=>i<=f.length/\v=((Aj l).take i).map V.int/\b=d) ⟨Aa _,rfl,rfl⟩ ?_ ?_ ?_⟩
  ·rintro i v b ⟨G,rfl,rfl⟩;refine ⟨G,sz ?_,hp⟩;rw [AJ,CJ];omega
  ·rintro i x v b o ⟨G,rfl,rfl⟩;obtain ⟨z,c,N,rfl,g⟩:=w.get o;have u:=k z (Bu c);have F:=D z (Bu c);have U:=I z (Bu c);have W:i<f.length:=(CT.mp o).1;rwa [g];have X:l.foldl (λB q=>B*(q.2 / ((Int.gcd B q.2:Nat):Int))) 1=Ao l:=rfl;rw [X];have Y:(Aj l)[i]?=some (z.1*(Ao l / z.2)):=by unfold Aj;rw [Ae,c];rfl
   refine ⟨u.pos,Bw U (L.le (X2 J u.pos)),⋯,?_⟩;rw [HF V.int Y]
  ·rintro v b ⟨_,rfl,rfl⟩ a Z;refine ⟨sz ∅,λr A=>?_⟩
   have e:(Aj l).take f.length=Aj l:=by
    rw [C,show l.length=(Aj l).length by unfold Aj;rw [AJ],Cz]
   rw [e] at A ⊢;have s:=(AQ Z (.lst ((Aj l).map V.int))).trans (AQ A (.tup [.ref a,.int (Ao l)]));exact q r a _ s upd_same (AQ A _ _ _ upd_same)
def Zu (h:IN K vs H Q E):Qq K { nx:=λ_ b=>Q .non b,rt:=Q } (L2.start ["row","bottom"] vs) H:=by
 obtain ⟨p,d,B,rfl,hp,v,hl,q⟩:=h;unfold Qq;rwa [hp];refine ⟨⟨_,SqL.of hp⟩,CompJ.lst (xs:=d.map V.int) (λi f b=>i<=d.length/\Same H b/\Nums b f ((d.take i).map λn=>AT n B)) ⟨Aa _,Same.refl H,trivial⟩ ?_ ?_ ?_⟩
 ·rintro i f b ⟨o,g,c⟩;refine ⟨by rw [AJ];exact o,sz ?_,SqL.of (g _ _ hp)⟩;rw [c.length,AJ,CJ];omega
 ·rintro i x f b j ⟨o,g,c⟩;rw [Ae] at j;cases e:d[i]? with
  | none=>rw [e] at j;cases j
  | some n=>
    rw [e] at j;obtain rfl:V.int n=x:=rG j;have w:i<d.length:=(CT.mp e).1;rwa [];refine ⟨v,λr k=>⟨⋯,g.trans (AQ k _),?_⟩⟩;rw [HF _ e];exact (c.tp (V_ (AQ k _))).append (Nums.one LQ)
 ·rintro f b ⟨_,g,c⟩ a y;rw [AJ,Cz] at c;have u:=AQ y (.lst f);rwa [];refine ⟨_,c.tp (V_ u),by rw [AJ];exact hl,λr z m A k C=>q r z m ((g.trans u).trans A) k C⟩
def MG {b:Nat} {l:dg} {M:Int} (hl:A7 l) (h:Ov l M) (d:∀ z∈J_ l M,Bd b z):∀ q∈l,Bd b q.1:=λq a=>by
 refine (d (q.1*(M / q.2)) (BD.mpr ⟨q,a,rfl⟩)).le ?_;rw [Az];obtain ⟨y,c⟩:=h.2 q a;have e:=(hl q a).pos;have g:=h.1;have:M / q.2=y:=by rw [c,GW _ (AU e)]
 rw [this];refine GV _ ?_;rcases DS y.natAbs with z | z
 ·have f:y=0:=by omega
  rw [f] at c;omega
 ·exact z
def HG {g f:dD} (b:Lz g) (o:Lz f) (p:MQ (co g) (co f)):g.length<=f.length:=by
 obtain ⟨c,q,A,d⟩:=p;rcases BN f.length g.length with y | y
 ·exfalso;rcases Et A with z | ⟨B,h,_,r⟩
  ·have:c*co f (f.length - 1)=0:=by rw [d,CB,Fi g z]
   rcases Int.mul_eq_zero.mp this with e | e
   ·exact q e
   ·exact o.2 e
  ·have u:∀ k,c*co f k=cvL B (co g) k:=λk=>by rw [d,CB,BV (λj=>(r j).symm) g k,<-CB]
   have v:=h.1;have G:=b.1;have m:B≠[]:=C3.mp v;obtain ⟨X,t,a⟩:∃ X t,B=X++[t]:=⟨B.dropLast,B.getLast m,(Fq m).symm⟩;have w:X.length=B.length - 1:=by rw [a];simp
   have C:co B (B.length - 1)=t:=by rw [<-w,a];unfold co;simp [AO]
   have e:=u (B.length - 1+(g.length - 1));rw [AZ ⋯,a,DQ,<-a,EG (n:=g.length) (λi D=>AZ D) X _ ⋯] at e;unfold Ax at e;rw [sZ ⋯,show B.length - 1+(g.length - 1) - X.length=g.length - 1 by omega] at e;have F:t*co g (g.length - 1)=0:=by omega
   rcases Int.mul_eq_zero.mp F with x | x
   ·exact h.2 (C.trans x)
   ·exact b.2 x
 ·exact y
theorem php:∀ (m n:Nat) (f:Nat->Nat),(∀ i,i<n->f i<m)->m<n->∃ i j,i<j/\j<n/\f i=f j
 | 0,n,f,h,d=>absurd (h 0 d) (Nat.not_lt_zero _)
 | m+1,n,f,h,d=>by
   obtain ⟨n,rfl⟩:∃ k,n=k+1:=⟨n - 1,⋯⟩;by_cases c:∃ i,i<n/\f i=f n
   ·obtain ⟨i,a,e⟩:=c;exact ⟨i,n,a,⋯,e⟩
   ·have c:∀ i,i<n->f i≠f n:=λi a e=>c ⟨i,a,e⟩;have hv:=h n ⋯
    obtain ⟨i,j,b,g,e⟩:=php m n (λi=>if f n<f i then f i - 1 else f i) (λi a=>by
     have o:=h i ⋯;have p:=c i a;show (if f n<f i then f i - 1 else f i)<m;split <;> omega) ⋯
    refine ⟨i,j,b,⋯,?_⟩;have q:=c i ⋯;have r:=c j g;have e:(if f n<f i then f i - 1 else f i)=(if f n<f j then f j - 1 else f j):=e;split at e <;> split at e <;> omega
noncomputable def b7 (M:Nat):Nat->(Nat->Nat)->Nat
 | 0,_=>0
 | N+1,e=>e 0+M*b7 M N (λk=>e (k+1))
theorem MH {M:Nat}:∀ (N:Nat) (e:Nat->Nat),(∀ k,k<N->e k<M)->b7 M N e<M ^ N
 | 0,_,_=>Nat.one_pos
 | N+1,e,h=>by
   have a:=MH N (λk=>e (k+1)) (λk hk=>h (k+1) ⋯);have c:=h 0 ⋯;show e 0+M*b7 M N (λk=>e (k+1))<M ^ (N+1);have b:M*(b7 M N (λk=>e (k+1))+1)<=M*M ^ N:=CD M a;rw [CL,Cy (M ^ N)];rw [Nat.mul_add,Nat.mul_one] at b;omega
def MI {M a b x y:Nat} (c:a<M) (d:b<M) (h:a+M*x=b+M*y):a=b/\x=y:=by
 have f:(a+M*x) % M=a:=by rw [Nat.add_mul_mod_self_left,Nat.mod_eq_of_lt c]
 have g:(b+M*y) % M=b:=by rw [Nat.add_mul_mod_self_left,Nat.mod_eq_of_lt d]
 have e:a=b:=by rw [<-f,h,g]
 subst e;exact ⟨rfl,Nat.eq_of_mul_eq_mul_left ⋯ (Nat.add_left_cancel h)⟩
theorem MJ {M:Nat}:∀ (N:Nat) (e a:Nat->Nat),(∀ k,k<N->e k<M)->(∀ k,k<N->a k<M)->b7 M N e=b7 M N a->∀ k,k<N->e k=a k
 | 0,_,_,_,_,_,k,hk=>absurd hk (Nat.not_lt_zero _)
 | N+1,e,a,h,b,q,k,hk=>by
   obtain ⟨c,d⟩:=MI (h 0 ⋯) (b 0 ⋯) q;cases k with
   | zero=>exact c
   | succ k=>exact MJ N _ _ (λk hk=>h (k+1) ⋯) (λk hk=>b (k+1) ⋯) d k ⋯
noncomputable def T_ (p:Nat):Nat->Nat->dD
 | 0,_=>[]
 | N+1,t=>((t % p:Nat):Int)::T_ p N (t / p)
theorem IS (p:Nat):∀ (N t:Nat),(T_ p N t).length=N
 | 0,_=>rfl
 | N+1,t=>by show (T_ p N (t / p)).length+1=N+1;rw [IS p N]
theorem IT {p:Nat} (a:0<p):∀ (N t:Nat),∀ z∈T_ p N t,0<=z/\z<(p:Int)
 | 0,_,z,h=>by cases h
 | N+1,t,z,h=>by
   rcases By.mp h with rfl | h
   ·have:=Nat.mod_lt t a;omega
   ·exact IT a N _ z h
theorem MK {p:Nat} (e:0<p):∀ (N t s:Nat),t<p ^ N->s<p ^ N->T_ p N t=T_ p N s->t=s
 | 0,t,s,c,d,_=>by rw [Nat.pow_zero] at c d;omega
 | N+1,t,s,c,d,h=>by
   injection h with a b;rw [CL,Cy] at c d;have:=MK e N (t / p) (s / p) (Nat.div_lt_of_lt_mul c) (Nat.div_lt_of_lt_mul d) b;have f:=Nat.div_add_mod t p;have g:=Nat.div_add_mod s p;have a:t % p=s % p:=by exact_mod_cast a
   rw [<-f,<-g,this,a]
theorem IU {g:dO} {h q:Nat} (c:∀ k,(g k).natAbs<=h):∀ (a:dD),(∀ z∈a,z.natAbs<=q)->∀ k,(cvL a g k).natAbs<=a.length*(q*h)
 | [],_,k=>by show (0:Int).natAbs<=_;simp
 | x::a,b,0=>by
   rw [A4];have d:(x*g 0).natAbs<=q*h:=by rw [Az];exact Do (b x (BS ..)) (c 0)
   have:(x::a).length*(q*h)=a.length*(q*h)+q*h:=by rw [C1,DV,Nat.one_mul]
   omega
 | x::a,b,k+1=>by
   rw [Av];have d:(x*g (k+1)).natAbs<=q*h:=by rw [Az];exact Do (b x (BS ..)) (c (k+1))
   have f:=IU c a (λz e=>b z (Bp _ e)) k;have:(x::a).length*(q*h)=a.length*(q*h)+q*h:=by rw [C1,DV,Nat.one_mul]
   omega
def SZ {A B u v:dD} (i:Lz A) (c:Lz B) (q:QI (co A) (co B) Ad) (g:u.length<B.length) (hv:v.length<A.length) (h:∀ k,cvL u (co A) k+cvL v (co B) k=0):(∀ k,co u k=0)/\∀ k,co v k=0:=by
 obtain ⟨d,j,U,V,b⟩:=q
 have a:∀ {A B u v U V:dD},Lz B->(∀ k,d*Ad k=cvL U (co A) k+cvL V (co B) k)->u.length<B.length->(∀ k,cvL u (co A) k+cvL v (co B) k=0)->∀ k,co u k=0:=λ{A B u v U V} c b g h=>by
  rcases Et u with z | ⟨f,m,p,n⟩
  ·exact z
  ·exfalso
   have o:MQ (co B) (co f):=by
    refine ⟨d,j,Ap (BC V u) ((BC U v).map ((-1)*·)),λk=>?_⟩;rw [Bm,BG,CG,CG,n k,CA u k,<-Dd,BV b,Gu,Gv (co A) u U,Gv (co B) u V]
    have e:cvL U (cvL u (co A)) k = - cvL U (cvL v (co B)) k:=by
     have:cvL U (cvL u (co A)) k+cvL U (cvL v (co B)) k=0:=by rw [<-Gu];exact Fi U h k
     omega
    rw [e];omega
   have:=HG c m o;omega
 exact ⟨a c b g h,a (A:=B) (B:=A) (u:=v) (v:=u) (U:=V) (V:=U) i (λk=>by rw [b k];omega) hv (λk=>by have:=h k;omega)⟩
def FR {a b:Int} (h:a=b):a∣b:=by rw [h];exact Int.dvd_refl b
theorem c7 {p:Int} {f g:dO} {S:dD} (h:∀ k,p∣f k - cvL S g k):∀ (a:dD) (k:Nat),p∣cvL a f k - cvL a (cvL S g) k
 | [],k=>by show p∣(0:Int) - 0;simp
 | x::a,0=>by
   rw [A4,A4];have:=CU (h 0) (Int.dvd_mul_left x _);rw [Int.mul_sub] at this;refine CU this (FR ?_);omega
 | x::a,k+1=>by
   rw [Av,Av];have b:=CU (h (k+1)) (Int.dvd_mul_left x _);have c:=c7 h a k;rw [Int.mul_sub] at b;have:=DL b c;refine CU this (FR ?_);omega
theorem IV:∀ (a b:dD),(Ap a b).length=max a.length b.length
 | [],b=>by show b.length=max 0 b.length;omega
 | a,[]=>by rw [JW];show a.length=max a.length 0;omega
 | x::a,y::b=>by
   show (Ap a b).length+1=max (a.length+1) (b.length+1);rw [IV a b];omega
def KE {a b:dD} (hl:a.length=b.length) (h:∀ k,co a k=co b k):a=b:=by
 refine List.ext_getElem hl λi c d=>?_;have:=h i;unfold co at this;rwa [AO,AO,Ag c,Ag d] at this
def cG {A B G:dD} {p b:Nat} (hp:Pr p) (lA:Lz A) (lB:Lz B) (q:QI (co A) (co B) Ad) (hA:∀ k,Bd b (co A k)) (hB:∀ k,Bd b (co B k)) (n1:2<=A.length) (m1:2<=B.length) (g2:2<=G.length) (g1:¬ (p:Int)∣co G (G.length - 1)) (dA:Dm (p:Int) (co G) (co A)) (dB:Dm (p:Int) (co G) (co B))
  (j:(2*((A.length+B.length)*2 ^ b)) ^ (A.length+B.length - 2)<p):False:=by
 have p2:=hp.two;have S:0<p:=by omega
 generalize hn:A.length - 1=n at *;generalize hm:B.length - 1=m at *;generalize hE:(A.length+B.length)*2 ^ b=E at *;have N1:A.length+B.length - 2=n+m:=by omega
 rw [N1] at j;have X:∀ k,(co A k).natAbs<=2 ^ b:=λk=>C9 (hA k);have Y:∀ k,(co B k).natAbs<=2 ^ b:=λk=>C9 (hB k);have E0:0<E:=by rw [<-hE];exact Nat.mul_pos ⋯ (Bz ∅)
 obtain ⟨u,T⟩:∃ u:Nat->dD,∀ t,u t=(T_ p (m+n) t).take m:=⟨_,λ_=>rfl⟩;obtain ⟨v,hv⟩:∃ v:Nat->dD,∀ t,v t=(T_ p (m+n) t).drop m:=⟨_,λ_=>rfl⟩;obtain ⟨f,U⟩:∃ f:Nat->dO,∀ t k,f t k=cvL (u t) (co A) k+cvL (v t) (co B) k:=⟨_,λ_ _=>rfl⟩;have J:∀ t,(u t).length=m:=λt=>by rw [T,CJ,IS];omega
 have L:∀ t,(v t).length=n:=λt=>by rw [hv,List.length_drop,IS];omega
 have uz:∀ t,∀ z∈u t,0<=z/\z<(p:Int):=λt z o=>IT S _ t z (List.mem_of_mem_take (T t ▸ o));have vz:∀ t,∀ z∈v t,0<=z/\z<(p:Int):=λt z o=>IT S _ t z (List.mem_of_mem_drop (hv t ▸ o))
 have fb:∀ t k,(f t k).natAbs<E*p:=λt k=>by
  have d:=IU (q:=p - 1) X (u t) (λz o=>by have:=uz t z o;omega) k;have g:=IU (q:=p - 1) Y (v t) (λz o=>by have:=vz t z o;omega) k;rw [J] at d;rw [L] at g
  have h3:(f t k).natAbs<=(m+n)*((p - 1)*2 ^ b):=by
   rw [DV,U];omega
  refine B5 h3 ?_;rw [<-hE];have e:(m+n)*((p - 1)*2 ^ b)=((m+n)*2 ^ b)*(p - 1):=by rw [Cy (p - 1),Nat.mul_assoc]
  rw [e];exact B8 (Nat.mul_lt_mul_of_pos_left ⋯ (Nat.mul_pos ⋯ (Bz ∅))) (CF p (CF _ ⋯))
 obtain ⟨W,r⟩:∃ W:Nat->Nat,∀ t,W t=(f t 0 / (p:Int)+(E:Int)).toNat:=⟨_,λ_=>rfl⟩;obtain ⟨O,w⟩:∃ O:Nat->Nat->Nat,∀ t k,O t k=(f t (k+1)+((E*p:Nat):Int)).toNat:=⟨_,λ_ _=>rfl⟩
 have C:∀ t,0<=f t 0 / (p:Int)+(E:Int)/\f t 0 / (p:Int)+(E:Int)<2*(E:Int):=λt=>by
  have h:=fb t 0
  have d:-((E:Int)*(p:Int))<=f t 0:=by have:((E*p:Nat):Int)=(E:Int)*(p:Int):=by push_cast;rfl
                                       omega
  have g:f t 0<(E:Int)*(p:Int):=by have:((E*p:Nat):Int)=(E:Int)*(p:Int):=by push_cast;rfl
                                   omega
  have q1:-(E:Int)<=f t 0 / (p:Int):=by
   refine (Int.le_ediv_iff_mul_le ⋯).mpr ?_;rw [D8];exact d
  have q2:f t 0 / (p:Int)<(E:Int):=Int.ediv_lt_of_lt_mul ⋯ g;omega
 have D:∀ t k,0<=f t (k+1)+((E*p:Nat):Int)/\f t (k+1)+((E*p:Nat):Int)<2*((E*p:Nat):Int):=λt k=>by
  have h:=fb t (k+1);omega
 have F:∀ t,W t<2*E:=λt=>by have:=C t;rw [r];omega
 have I:∀ t k,O t k<2*(E*p):=λt k=>by have:=D t k;rw [w];omega
 have cl:∀ t,W t+2*E*b7 (2*(E*p)) (m+n - 1) (O t)<2*E*(2*(E*p)) ^ (m+n - 1):=λt=>by
  have d:=MH (M:=2*(E*p)) (m+n - 1) (O t) (λk _=>I t k);have g:2*E*(b7 (2*(E*p)) (m+n - 1) (O t)+1)<=2*E*(2*(E*p)) ^ (m+n - 1):=CD _ d;have h3:=F t;rw [Nat.mul_add,Nat.mul_one] at g;omega
 have R:2*E*(2*(E*p)) ^ (m+n - 1)<p ^ (m+n):=by
  obtain ⟨N,hN⟩:∃ N,m+n=N+1:=⟨m+n - 1,⋯⟩;rw [hN,Nat.add_sub_cancel];rw [Nat.add_comm n m,hN] at j
  have e:2*E*(2*(E*p)) ^ N=(2*E) ^ (N+1)*p ^ N:=by
   rw [<-Nat.mul_assoc 2 E p,Nat.mul_pow (2*E) p N,CL,Cy ((2*E) ^ N) (2*E),Nat.mul_assoc (2*E)]
  rw [e,CL p,Cy (p ^ N) p];exact Nat.mul_lt_mul_of_pos_right j (Bz S)
 obtain ⟨s,t,st,ht,e⟩:=php _ _ _ (λi _=>cl i) R;obtain ⟨Z,q1⟩:=MI (F s) (F t) e;have qk:=MJ (m+n - 1) _ _ (λk _=>I s k) (λk _=>I t k) q1;have w0:∀ k,(co (u s) k - co (u t) k)=co (Ap (u s) ((u t).map ((-1)*·))) k:=λk=>by rw [CA,CA,CA,Bm,BG];omega
 have df:∀ k,f s k - f t k=cvL (Ap (u s) ((u t).map ((-1)*·))) (co A) k+cvL (Ap (v s) ((v t).map ((-1)*·))) (co B) k:=λk=>by
  rw [Bm,Bm,BG,BG,U,U];omega
 have P:∀ k,0<k->f s k - f t k=0:=λk hk=>by
  rcases BN k (m+n) with c | c
  ·have:=qk (k - 1) ⋯;have r1:=D s (k - 1);have r2:=D t (k - 1);rw [w,w,show k - 1+1=k by omega] at this;rw [show k - 1+1=k by omega] at r1 r2;omega
  ·have z:∀ t,f t k=0:=λt=>by
    rw [U,EG (n:=A.length) (λi P=>AZ P) (u t) k (by rw [J];omega),EG (n:=B.length) (λi P=>AZ P) (v t) k (by rw [L];omega)];rfl
   rw [z,z];rfl
 have d0:(f s 0 - f t 0).natAbs<p:=by
  have r1:=C s;have r2:=C t;rw [r,r] at Z;have Z:f s 0 / (p:Int)=f t 0 / (p:Int):=by omega
  have m1:=FY (f s 0) p;have m2:=FY (f t 0) p;have b1:=Ca (f s 0) (show (p:Int)≠0 by omega);have b2:=Cm (f s 0) (show (0:Int)<p by omega);have b3:=Ca (f t 0) (show (p:Int)≠0 by omega);have b4:=Cm (f t 0) (show (0:Int)<p by omega);rw [Z] at m1;omega
 have dm:Dm (p:Int) (co G) (co [f s 0 - f t 0]):=by
  obtain ⟨SA,a0⟩:=dA;obtain ⟨SB,a1⟩:=dB;refine ⟨Ap (BC (Ap (u s) ((u t).map ((-1)*·))) SA) (BC (Ap (v s) ((v t).map ((-1)*·))) SB),λk=>?_⟩
  have e:co [f s 0 - f t 0] k=f s k - f t k:=by
   cases k with
   | zero=>rfl
   | succ k=>rw [P (k+1) ⋯];exact AZ (by simp)
  rw [e,df,Bm (co G),CG,CG];have d:=c7 (p:=(p:Int)) a0 (Ap (u s) ((u t).map ((-1)*·))) k;have g:=c7 (p:=(p:Int)) a1 (Ap (v s) ((v t).map ((-1)*·))) k;have:=DL d g;refine CU this (FR ?_);omega
 have z0:f s 0 - f t 0=0:=by
  by_cases c:(p:Int)∣f s 0 - f t 0
  ·obtain ⟨y,hy⟩:=c;rcases FZ y 0 with z | z | z
   ·have:(p:Int)*y<=(p:Int)*(-1):=E8 ⋯ ⋯;omega
   ·rw [hy,z];omega
   ·have:(p:Int)*1<=(p:Int)*y:=E8 ⋯ ⋯;omega
  ·exfalso;have:=Dm.len hp ⋯ g1 dm ⟨0,c⟩;simp at this;omega
 have all:∀ k,cvL (Ap (u s) ((u t).map ((-1)*·))) (co A) k+cvL (Ap (v s) ((v t).map ((-1)*·))) (co B) k=0:=λk=>by
  rw [<-df];cases k with
  | zero=>exact z0
  | succ k=>exact P (k+1) ⋯
 have ll:∀ {a c:dD} {x:Nat},a.length=x->c.length=x->(Ap a (c.map ((-1)*·))).length=x:=λ{a c x} d g=>by
  rw [IV,AJ,d,g];omega
 obtain ⟨c1,c2⟩:=SZ lA lB q (by rw [ll (J s) (J t)];omega) (by rw [ll (L s) (L t)];omega) all;have eu:u s=u t:=KE (by rw [J,J]) λk=>by have:=c1 k;rw [<-w0] at this;omega
 have ev:v s=v t:=KE (by rw [L,L]) λk=>by
  have:=c2 k;rw [CA,Bm,BG,<-CA,<-CA] at this;omega
 have:T_ p (m+n) s=T_ p (m+n) t:=by
  rw [<-List.take_append_drop m (T_ p (m+n) s),<-List.take_append_drop m (T_ p (m+n) t)];rw [<-T,<-hv,<-T,<-hv,eu,ev]
 have:=MK S _ _ _ ⋯ ⋯ this;omega
theorem Sa:∀ (a l:dD),a.Nodup->(∀ t∈a,evI l t=0)->l.length<=a.length->∀ k,co l k=0
 | [],l,_,_,h,k=>AZ (by have:l.length=0:=by simpa using h
                        omega)
 | t::a,l,i,d,hl,k=>by
   have b:=List.nodup_cons.mp i;have e:=d t (BS ..);have sd:co (Y' l t) ((Y' l t).length - 1)=0:=by rw [Ja];exact YX l t
   have f:=LN sd
   have z:∀ k,co (Y' l t) k=0:=λk=>by
    rw [<-f k];refine Sa a (Y' l t).dropLast b.2 (λx g=>?_) (by rw [List.length_dropLast,Ja];simp at hl;omega) k;rw [LO _ _ x f];have c:=LP l t x;rw [d x (Bp _ g),e] at c
    have j:x - t≠0:=λq=>b.1 (by have:x=t:=by omega
                                rw [<-this];exact g)
    have c:(x - t)*evI (Y' l t) x=0:=by omega
    rcases Int.mul_eq_zero.mp c with q | q
    ·exact absurd q j
    ·exact q
   rw [Jb l t k,z k];split
   ·rw [e];omega
   ·rw [z (k - 1)];omega
def Zv (n:Nat):((List.range (2*n+1)).map λi:Nat=>(i:Int) - (n:Int)).Nodup:=by
 unfold List.Nodup;rw [List.pairwise_map];exact (List.nodup_range (n:=2*n+1)).imp λh q=>h ⋯
theorem Sb (f:Int->Bool):∀ P:dD,(P.filter f).length+(P.filter λx=>!f x).length=P.length
 | []=>rfl
 | x::P=>by
   have:=Sb f P;rw [List.filter_cons,List.filter_cons,C1];cases f x
   ·simp;omega
   ·simp;omega
def Zw {r:dD} {n:Nat} (v:∃ k,co r k≠0) (B:r.length<=n):∃ x:dO,(∀ i,i<=n->evI r (x i)≠0/\(x i).natAbs<=n)/\∀ i j,i<=n->j<=n->i≠j->x i≠x j:=by
 let P:dD:=(List.range (2*n+1)).map λi:Nat=>(i:Int) - (n:Int);have C:P.length=2*n+1:=by show ((List.range (2*n+1)).map λi:Nat=>(i:Int) - (n:Int)).length=_;rw [AJ,BI]
 have p:P.Nodup:=Zv n
 have w:∀ x∈P,x.natAbs<=n:=λx y=>by
  obtain ⟨i,d,rfl⟩:=BD.mp y;have:=Eb.mp d;omega
 have f:(P.filter λx=>decide (evI r x=0)).length+(P.filter λx=>!decide (evI r x=0)).length=P.length:=by
  exact Sb _ P
 have few:(P.filter λx=>decide (evI r x=0)).length<r.length:=by
  rcases BN (P.filter λx=>decide (evI r x=0)).length r.length with c | c
  ·exact c
  ·exfalso;obtain ⟨k,hk⟩:=v;exact hk (Sa _ r (p.filter _) (λt z=>by simpa using (Ea.mp z).2) c k)
 let a:=P.filter λx=>!decide (evI r x=0)
 have D:n+1<=a.length:=by
  show n+1<=(P.filter λx=>!decide (evI r x=0)).length;omega
 have A:a.Nodup:=p.filter _;refine ⟨λi=>a.getD i 0,λi d=>?_,λi j d F g e=>?_⟩
 ·have b:i<a.length:=by omega
  have e:a.getD i 0=a[i]:=by rw [AO,Ag b];rfl
  show evI r (a.getD i 0)≠0/\(a.getD i 0).natAbs<=n;rw [e];have m:=Ea.mp (DM b);exact ⟨by simpa using m.2,w _ m.1⟩
 ·have h:i<a.length:=by omega
  have o:j<a.length:=by omega
  have e:a.getD i 0=a.getD j 0:=e;rw [AO,AO,Ag h,Ag o] at e;have e:a[i]=a[j]:=e;have u:=List.pairwise_iff_getElem.mp A;rcases Nat.lt_or_gt_of_ne g with q | q
  ·exact u i j h o q e
  ·exact u j i o h q e.symm
def ML {b n c:Nat} {r g A:dD} (o:∀ z∈r,Bd b z) (p:∃ k,co r k≠0) (f:r.length<=n) (B:g.length<=n) (C:n<2 ^ c) (q:∀ k,co r k=cvL A (co g) k):∀ k,Bd (b+n*(2*c+4)) (co g k):=by
 by_cases D:g.length=0
 ·intro k;rw [AZ ⋯];exact DZ _
 obtain ⟨x,h,u⟩:=Zw p f
 have m:∀ i,i<=n->Bd c (x i):=λi a=>by
  show (x i).natAbs<2 ^ c;have:=(h i a).2;omega
 intro k
 have:=aU (c:=c) (g.length - 1) g (b+n*(c+1)) x (λk hk=>AZ ⋯) (λi a=>m i ⋯) (λi j a F d=>u i j ⋯ ⋯ d) (λi a=>by
  have v:=(h i ⋯).1;have e:=YW q (x i);have w:=Oy (m i ⋯) r o
  have y:(evI g (x i)).natAbs<=(evI r (x i)).natAbs:=by
   rw [e,Az];refine GU _ ?_;rcases DS (evI A (x i)).natAbs with z | z
   ·exact absurd (by rw [e,Int.natAbs_eq_zero.mp z];omega) v
   ·exact z
  refine (w.le y).mono ?_;have:=CF (c+1) f;omega) k
 refine this.mono ?_;have G:(g.length - 1)*(c+3)<=n*(c+3):=CF (c+3) ⋯;have I:n*(2*c+4)=n*(c+1)+n*(c+3):=by rw [<-Nat.mul_add];congr 1;omega
 omega
def IW {a g:dD} (b:Lz a) (c:Lz g):cvL a (co g) (a.length - 1+(g.length - 1))=co a (a.length - 1)*co g (g.length - 1):=by
 obtain ⟨i,s,rfl⟩:∃ i s,a=i++[s]:=⟨a.dropLast,a.getLast (C3.mp b.1),(Fq _).symm⟩;have e:(i++[s]).length - 1=i.length:=by rw [Cr];simp
 have d:co (i++[s]) i.length=s:=by
  unfold co;rw [AO,List.getElem?_append_right (AS _),Nat.sub_self];rfl
 rw [e,d,DQ,EG (n:=g.length) (λi f=>AZ f) i _ (by have:=c.1;omega)];unfold Ax;rw [sZ ⋯,show i.length+(g.length - 1) - i.length=g.length - 1 by omega];omega
def MN {X a:dD} (b:Lz a) {T:Nat} (h:∀ k,T+(a.length - 1)<=k->cvL X (co a) k=0):(∀ j,T<=j->co X j=0)/\∀ s,T=s+1->cvL X (co a) (s+(a.length - 1))=co X s*co a (a.length - 1):=by
 rcases Et X with z | ⟨Y,d,_,e⟩
 ·refine ⟨λj _=>z j,λs _=>?_⟩;rw [CB,Fi a z,z s];omega
 ·have f:∀ k,cvL X (co a) k=cvL Y (co a) k:=λk=>by rw [CB,BV (λj=>(e j).symm) a k,<-CB]
  have g:=IW d b
  have o:Y.length<=T:=by
   rcases BN T Y.length with c | c
   ·exfalso;have:=h (Y.length - 1+(a.length - 1)) ⋯;rw [f,g] at this;exact CO d.2 b.2 this
   ·exact c
  refine ⟨λj p=>by rw [<-e];exact AZ ⋯,λs q=>?_⟩;rw [f,<-e];have r:=d.1;rcases BN Y.length T with c | c
  ·rw [AZ ⋯,EG (n:=a.length) (λi m=>AZ m) Y _ (by have:=b.1;omega)];omega
  ·rw [show s=Y.length - 1 by omega];exact g
def EH {m n:Nat} {x y:Int} (a:Bd m x) (b:Bd n y) (c:m<=60000000:=by omega) (d:n<=60000000:=by omega):IntMulOk x y:=Ew (a.mono c) (b.mono d)
def Zx {c:dD} {m:Int} (a:dD) (b:a=(c.filter (λz=>!decide (z=0))).map λz=>if z<0 then -z else z) (h:a=[]/\m=0\/m∈a) (d:Int):(∀ z∈c,d∣z)->d∣m:=by
 intro f;rcases h with ⟨_,e⟩ | h
 ·rw [e];exact DN d
 ·rw [b] at h;obtain ⟨z,g,rfl⟩:=BD.mp h;have:=f z (Ea.mp g).1;show d∣if z<0 then -z else z
  split
  ·exact Int.dvd_neg.mpr this
  ·exact this
def Zy (h:IH K vs H Q E):P4 K { nx:=λ_ j=>Q .non j,rt:=Q } (L2.start ["row","start","found","whole"] vs) H:=by
 obtain ⟨p,b,r,rfl,hp,hl,k⟩:=h;unfold P4;rwa [];refine ⟨⟨_,SqL.of hp⟩,CompF.lst (xs:=b.map V.int) (λi u j=>i<=b.length/\j=H/\u=(((b.take i).filter (λz=>!decide (z=0))).map λz=>if z<0 then -z else z).map V.int) ⟨Aa _,rfl,rfl⟩ ?_ ?_ ?_⟩
 ·rintro i u j ⟨q,rfl,rfl⟩;refine ⟨by rw [AJ];exact q,sz ?_,SqL.of hp⟩;rw [AJ,AJ];exact Bx (List.length_filter_le _ _) (by rw [CJ];omega)
 ·rintro i x u j f ⟨q,rfl,rfl⟩;rw [Ae] at f;cases e:b[i]? with
  | none=>rw [e] at f;cases f
  | some n=>
    rw [e] at f;obtain rfl:V.int n=x:=rG f;have N:i<b.length:=(CT.mp e).1;have L:b.take (i+1)=b.take i++[n]:=by rw [Eg,e];rfl
    rwa [];refine AV (λc=>?_) (λc=>?_)
    ·refine ⟨⋯,?_⟩;have G:¬ n=0:=by simpa using c
     simp [L,List.filter_append,G]
    ·refine ⟨⋯,?_⟩;have G:n=0:=by simpa using c
     simp [L,List.filter_append,G]
 ·rintro u j ⟨_,rfl,rfl⟩ a O;rw [AJ,Cz];have v:=AQ O (.lst (((b.filter (λz=>!decide (z=0))).map λz=>if z<0 then -z else z).map V.int));have o:=v _ _ hp;refine ⟨_,rfl,_,upd_same,λm P=>?_⟩;have R:=Zx _ rfl P;generalize S:upd j a (.lst (((b.filter (λz=>!decide (z=0))).map λz=>if z<0 then -z else z).map V.int))=T at v o ⊢;refine ⟨⟨_,SqL.of o⟩,ForL.by (xs:=b.map V.int) (λi w A=>∃ (g:Int) (x:dC),w=[some (.ref p),some (.int r),some (.int g),x]/\A=T/\0<=g/\g∣r/\(∀ z∈b.take i,g∣z)/\(∀ d:Int,d∣r->(∀ z∈b,d∣z)->d∣g)) ⟨_,none,rfl,rfl,⋯,EJ m r,λz B=>(by simp at B),λd q C=>Int.dvd_coe_gcd (R d C) q⟩ ?_ ?_ ?_⟩
  ·rintro i w A _ ⟨g,x,rfl,rfl,_⟩;exact SqL.of o
  ·rintro i x w A f ⟨g,y,rfl,rfl,M,I,D,F⟩;rw [Ae] at f;cases e:b[i]? with
   | none=>rw [e] at f;cases f
   | some n=>
     rw [e] at f;obtain rfl:V.int n=x:=rG f;rwa [];refine AV (λc=>?_) (λc=>?_)
     ·have U:g=1:=by simpa using c
      subst U;exact k 1 _ v ∅ (Int.one_dvd _) (λz _=>Int.one_dvd z) F
     ·refine ⟨⋯,CU (EJ n g) I,λz B=>?_,λd q C=>Int.dvd_coe_gcd (C n (Bu e)) (F d q C)⟩;rw [Eg,e] at B;rcases Bq.mp B with J | J
      ·exact CU (EJ n g) (D z J)
      ·have W:z=n:=by simpa using J
       rw [W];exact E5 n g
  ·rintro w A ⟨g,x,rfl,rfl,M,I,D,F⟩;rw [AJ,Cz] at D;rwa [];exact k g _ v M I D F
def Zz (h:II K vs H Q E):P6 K { nx:=λ_ c=>Q .non c,rt:=Q } (L2.start ["row","divisor"] vs) H:=by
 obtain ⟨p,b,g,rfl,hp,m,hl,q⟩:=h;unfold P6;rwa [];refine ⟨⟨_,SqL.of hp⟩,CompJ.lst (xs:=b.map V.int) (λi j c=>i<=b.length/\c=H/\j=((b.map (·/ g)).take i).map V.int) ⟨Aa _,rfl,rfl⟩ ?_ ?_ ?_⟩
 ·rintro i j c ⟨k,rfl,rfl⟩;refine ⟨by rw [AJ];exact k,sz ?_,SqL.of hp⟩;rw [AJ,CJ];omega
 ·rintro i x j c d ⟨k,rfl,rfl⟩;rw [Ae] at d;cases e:b[i]? with
  | none=>rw [e] at d;cases d
  | some n=>
    rw [e] at d;obtain rfl:V.int n=x:=rG d;have f:i<b.length:=(CT.mp e).1
    have o:0<g:=by
     rcases m with h | h
     ·exact h
     ·rw [h] at f;exact absurd f (by simp)
    rwa [];refine ⟨o,⋯,?_⟩;rw [HF V.int (q:=n / g) (by rw [Ae,e];rfl)]
 ·rintro j c ⟨_,rfl,rfl⟩ a r;have e:(b.map (·/ g)).take (b.map V.int).length=b.map (·/ g):=by rw [AJ,show b.length=(b.map (·/ g)).length by rw [AJ],Cz]
  rw [e];exact q a r
def Sc {a:dD} {k:Nat}:co a k=a.getD k 0:=rfl
def MO (a:dD):Tz (C8 a):=by
 have b:∀ m,m<=a.length->DJ a m=0\/co a (DJ a m - 1)≠0:=by
  intro m
  induction m with
  | zero=>intro _;exact .inl rfl
  | succ m c=>
    intro d;rw [IR];split
    ·exact c ⋯
    ·rename_i z;right;rw [show m+1 - 1=m by omega,Sc];rw [AO,Ag ⋯] at z ⊢;exact z
 have hl:(C8 a).length=DJ a a.length:=ME;rcases b a.length (AS _) with h | h
 ·left;exact CM.mp (hl.trans h)
 ·right;rw [hl];show (C8 a).getD _ 0≠0;rw [SW];exact h
def MP (a:dD) (k:Nat):co (C8 a) k=co a k:=SW k
def IX (n:Nat) (F:dO):Ai n F=((List.range n).map F).map V.int:=rfl
def Z0 (a:dD) (f:Int) (n:Nat) (h:a.length<=n):List.map V.int (a.map (f*·))++List.replicate (n - a.length) (V.int 0)=Ai n λk=>f*co a k:=by
 rw [IX];apply Eh;intro i;by_cases b:i<a.length
 ·rw [List.getElem?_append_left (by rw [AJ,AJ];exact b),Ae,Ae,Ae,Ae,Co ⋯,Ag b];show _=some (V.int (f*a.getD i 0));rw [AO,Ag b];rfl
 ·rw [List.getElem?_append_right (by rw [AJ,AJ];omega),AJ,AJ,Ae,Ae];by_cases c:i<n
  ·rw [FV,sZ ⋯,Co c];show _=some (V.int (f*co a i));rw [AZ ⋯,Int.mul_zero]
  ·rw [FV,sY ⋯,Ba (by rw [BI];omega)];rfl
def Z1 (h:IJ K vs H Q E):QB K { nx:=λ_ m=>Q .non m,rt:=Q } (L2.start ["row","factor","other","weight","shift","result","place","whole"] vs) H:=by
 obtain ⟨p,q,d,g,f,w,s,rfl,hp,P,hl,a0,bf,bw,bn,bm,k⟩:=h;unfold QB;rwa [];refine ⟨⟨_,SqL.of hp⟩,CompJ.lst (xs:=d.map V.int) (λi J m=>i<=d.length/\m=H/\J=((d.map (f*·)).take i).map V.int) ⟨Aa _,rfl,rfl⟩ ?_ ?_ ?_⟩
 ·rintro i J m ⟨Y,rfl,rfl⟩;refine ⟨by rw [AJ];exact Y,sz ?_,SqL.of hp⟩;rw [AJ,CJ];omega
 ·rintro i x J m z ⟨Y,rfl,rfl⟩;rw [Ae] at z;cases e:d[i]? with
  | none=>rw [e] at z;cases z
  | some n=>
    rw [e] at z;obtain rfl:V.int n=x:=rG z;have a1:i<d.length:=(CT.mp e).1;rwa [];refine ⟨EH bf (bn n (Bu e)),⋯,?_⟩;rw [HF V.int (q:=f*n) (by rw [Ae,e];rfl)]
 ·rintro J m ⟨_,rfl,rfl⟩ a R;have e:(d.map (f*·)).take (d.map V.int).length=d.map (f*·):=by rw [AJ,show d.length=(d.map (f*·)).length by rw [AJ],Cz]
  rw [e];generalize hL:max d.length (s+g.length)=L;have S:=AQ R (.lst (List.map V.int (d.map (f*·))));have A:=S _ _ hp;have B:=S _ _ P;rwa [A,B];refine ⟨Hj upd_same,sz ∅,λb hb=>?_⟩;have M:=AQ hb (.lst [.int 0]);refine ⟨_,M _ _ B,_,M _ _ A,?_⟩;have e0:(((g.map V.int).length:Int)+(s:Int) - ((d.map V.int).length:Int))=(g.length:Int)+(s:Int) - (d.length:Int):=by rw [AJ,AJ]
  rw [e0];have Z:((g.length:Int)+(s:Int) - (d.length:Int)).toNat=L - d.length:=by omega
  refine ⟨⋯,⋯,sz (by rw [Z];simp;omega),λc hc=>?_⟩;rw [Z,Ht];have sc:=AQ hc (.lst (List.replicate (L - d.length) (V.int 0)));have T:upd m a (.lst (List.map V.int (d.map (f*·)))) a=some (HO.lst (List.map V.int (d.map (f*·)))):=upd_same;have C:=sc _ _ (M _ _ T);refine ⟨_,C,sz (by simp;omega),?_⟩;rw [Z0 d f L ⋯];generalize hX:upd (upd (upd m a (.lst (List.map V.int (d.map (f*·))))) b (.lst [.int 0])) c (.lst (List.replicate (L - d.length) (V.int 0)))=N at C ⊢;have sx:Same m N:=λx o h=>by rw [<-hX];exact sc x o (M x o (S x o h))
  have sd:Same m (upd N a (.lst (Ai L λk=>f*co d k))):=λx o h=>Kp.upd x o (BA h R) (sx x o h);have D:(upd N a (.lst (Ai L λk=>f*co d k))) a=_:=upd_same;generalize upd N a (.lst (Ai L λk=>f*co d k))=Hd at sd D ⊢;refine ⟨⟨_,SqL.of (sd _ _ P)⟩,ForJ.enumL (xs:=g.map V.int) (λj O F=>∃ x y:dC,O=[some (.ref p),some (.int f),some (.ref q),some (.int w),some (.int (s:Int)),some (.ref a),x,y]/\Same m F/\F a=some (.lst (Ai L λk=>f*co d k - (if s<=k/\k - s<j then w*co g (k - s) else 0)))) ⟨none,none,rfl,sd,?_⟩ ?_ ?_ ?_⟩
  ·rw [D];exact congrArg (λl=>some (HO.lst l)) (Ex λk _=>by rw [sY ⋯];omega)
  ·rintro j O F _ ⟨_,_,_,G,_⟩;exact SqL.of (G _ _ P)
  ·rintro j y pq O F I ⟨y3,y4,rfl,G,v⟩ U;rw [Ae] at I;cases em:g[j]? with
   | none=>rw [em] at I;cases I
   | some u=>
     rw [em] at I;obtain rfl:V.int u=y:=rG I;have jl:j<g.length:=(CT.mp em).1;have ud:co g j=u:=by rw [Sc,AO,em];rfl
     have sq:=AQ U (.tup [.int (j:Int),.int u]);have W:=sq _ _ v;rwa [W];have X:s+j<L:=by omega
     refine ⟨_,DI ⋯ (Cq _ X),EH bw (bm u (Bu em)),_,rfl,s+j,?_,λb o h=>Kp.upd b o (BA h R) (sq b o (G b o h)),?_⟩
     ·rw [DK];exact Ey ⋯ X
     ·refine Fk X ?_ λk _ hk=>?_
      ·rw [sZ ⋯,sY ⋯,show s+j - s=j by omega,ud];omega
      ·by_cases h:s<=k/\k - s<j
       ·rw [sZ h,sZ ⋯]
       ·rw [sY h,sY ⋯]
  ·rintro O F ⟨y3,y4,rfl,G,v⟩;rw [AJ,IX] at v;rwa [v];refine ⟨_,rfl,λr hr=>k r _ _ (G.trans (AQ hr _)) upd_same (MO _) λi=>?_⟩;rw [MP,JY];unfold Ax;by_cases z:i<L
   ·rw [sZ z];by_cases h:s<=i
    ·rw [sZ h];by_cases h2:i - s<g.length
     ·rw [sZ ⟨h,h2⟩]
     ·rw [sY ⋯,AZ (a:=g) ⋯];omega
    ·rw [sY h,sY ⋯];omega
   ·rw [sY z,AZ (a:=d) ⋯];by_cases h:s<=i
    ·rw [sZ h,AZ (a:=g) ⋯];omega
    ·rw [sY h];omega
def Z2 (a b:Int):(a.fdiv b).natAbs<=a.natAbs:=by
 rw [Int.fdiv_eq_ediv];split
 ·rw [Int.sub_zero];exact Int.natAbs_ediv_le_natAbs a b
 ·rename_i h;have d:b<0:=by omega
  have f:¬ b∣a:=λz=>h (.inr z);have e:=Int.mul_ediv_add_emod a b;have i:=Ca a (show b≠0 by omega);have j:=Int.emod_lt_of_neg a d;have rn:a % b≠0:=λz=>f (Int.dvd_of_emod_eq_zero z);generalize a / b=q at *;generalize a % b=r at *;rcases Int.lt_or_le q 1 with g | g
  ·have c:(-b)*(-q) ≥ 2*(-q):=Ft ⋯ ⋯;rw [Int.neg_mul_neg] at c;omega
  ·have c:(-b)*(q - 1) ≥ 1*(q - 1):=Ft ⋯ ⋯;rw [D8,Int.mul_sub] at c;omega
def MS {n m:Nat} {F:dO}:Cg (Ai n F) none (some (m:Int))=((List.range (min m n)).map F).map V.int:=by
 unfold Cg HT.sIx;simp only [List.drop_zero,Nat.sub_zero,DB];rw [sY ⋯,DK];unfold Ai;rw [<-List.map_take,<-List.map_take,List.take_range];congr 3;omega
def Z3 {n:Nat} {F:dO} (h:((List.range n).map F).any (λz=>!decide (z=0))=false):∀ k,k<n->F k=0:=by
 intro k hk;have:=List.any_eq_false.mp h (F k) (BD.mpr ⟨k,Eb.mpr hk,rfl⟩);simpa using this
def Sd {n s:Nat} {F:dO} {w:Int} (a:s<n) (b:F s=0) (g:dO) (k:Nat) :
  cvL ((List.range n).map λj=>if j=s then w else F j) g k=cvL ((List.range n).map F) g k+w*Ax s g k:=by
 have e:∀ m,m<=n->cvL ((List.range m).map λj=>if j=s then w else F j) g k=cvL ((List.range m).map F) g k+(if s<m then w*Ax s g k else 0):=by
  intro m
  induction m with
  | zero=>intro _;rw [sY ⋯];rfl
  | succ m c=>
    intro d;rw [List.range_succ,DC,DC,List.map_singleton,List.map_singleton,DQ,DQ,c ⋯,AJ,AJ,BI];by_cases e:m=s
    ·subst e;rw [sZ rfl,sY ⋯,sZ ⋯,b];omega
    ·rw [sY e];by_cases h:s<m
     ·rw [sZ h,sZ ⋯];omega
     ·rw [sY h,sY ⋯];omega
 rw [e n (AS n),sZ a]
def Cc {b:Nat} {a:dD} (h:∀ z∈a,Bd b z) (k:Nat):Bd b (co a k):=Es h k
def KF {n:Nat} {g:dO} (k:Nat):cvL ((List.range n).map λ_=>(0:Int)) g k=0:=by
 have e:((List.range n).map λ_=>(0:Int))=(List.replicate n (1:Int)).map (0*·):=by
  apply Eh;intro i;rw [Ae,Ae];by_cases h:i<n
  ·rw [Co h,FV,sZ h];rfl
  ·rw [Ba (by rw [BI];omega),FV,sY h];rfl
 rw [e,BG];omega
def GQ (a:dD):List.map V.int a=Ai a.length (co a):=by
 rw [IX];congr 1;apply Eh;intro i;rw [Ae];by_cases h:i<a.length
 ·rw [Co h,Ag h];show _=some (a.getD i 0);rw [AO,Ag h];rfl
 ·rw [Ba ⋯,Ba (by rw [BI];omega)];rfl
def GR {a:dD} (h:0<a.length):O' (a.map V.int) (-1)=some (V.int (co a (a.length - 1))):=by
 refine SY (by rw [AJ];omega) ?_;rw [AJ,Ae,Ag ⋯];show _=some (V.int (a.getD (a.length - 1) 0));rw [AO,Ag ⋯];rfl
def Z4 (h:G8 K vs H Q E):Y7 K (eC Q) (L2.start ["row","divisor","rest","last","quotient","shift","weight","place"] vs) H:=by
 obtain ⟨p,q,f,g,b,d,rfl,hp,hq,lm,bn,bm,bb,b9,hn,hm,kN,kR⟩:=h;have m0:=lm.1;have P:=lm.2;obtain ⟨L,hL⟩:∃ L,g.length=L+1:=⟨g.length - 1,⋯⟩;have R:g.length - 1=L:=by omega
 rw [R] at P;generalize n:co g L=r at P;have aL:=GR m0;rw [R,n] at aL;generalize hc:f.length - L=c;refine BW (Jh (Ak rfl ⟨_,_,rfl,hp,λa ha=>?_⟩));have sa:=AQ ha (.lst (f.map V.int));have am:=sa _ _ hp;have an:=sa _ _ hq;have ao:((List.map V.int g).length:Int) - 1=(L:Int):=by rw [AJ];omega
 refine ⟨_,rfl,_,_,rfl,an,_,_,rfl,rfl,?_⟩;show QA K _ [some (.ref p),some (.ref q),some (.ref a),some (.int (((List.map V.int g).length:Int) - 1)),none,none,none,none] _;rw [ao];refine BW (Af (Gz (G_ ⟨Df,λx hx=>?_⟩)));have sx:=AQ hx (.lst [.int 0]);have ap:=sx _ _ am
 have a1:(if (0:Int) > ((List.map V.int f).length:Int) - (L:Int) then (0:Int) else ((List.map V.int f).length:Int) - (L:Int))=(c:Int):=by
  rw [AJ];split <;> omega
 refine ⟨_,rfl,_,_,rfl,ap,_,rfl,_,_,rfl,rfl,_,_,rfl,?_⟩;refine ⟨_,(c:Int),_,rfl,congrArg V.int a1,upd_same,⋯,⋯,sz (by simp;omega),λy hy=>?_⟩;refine O4 ha hx hy λH1 a2 a3 sH a4 ar=>?_;rw [GQ f] at a2;rw [DB,SV] at a3;have aw:=sH _ _ hp;have ax:((List.map V.int f).length:Int) - (L:Int) - 1=(f.length:Int) - (L:Int) - 1:=by rw [AJ]
 have b0:((f.length:Int) - (L:Int) - 1 - -1).toNat=c:=by omega
 refine O0 ?_;refine ⟨_,rfl,_,_,rfl,aw,_,rfl,_,_,rfl,rfl,_,_,rfl,rfl,_,rfl,_,rfl,(f.length:Int) - (L:Int) - 1,_,by rw [<-ax],⟨⋯,⋯,∅,∅⟩,?_⟩;rw [b0]
 let Iv:Nat->L2.St->Hp->Prop:=λi S D=>i<=c/\∃ (F G:dO) (u v w:dC),S=[some (.ref p),some (.ref q),some (.ref a),some (.int (L:Int)),some (.ref y),u,v,w]/\Same H D/\D a=some (.lst (Ai f.length F))/\D y=some (.lst (Ai c G))/\
  (∀ j,j<c - i->G j=0)/\(∀ k,k<f.length - i->F k=co f k - cvL ((List.range c).map G) (co g) k)/\(∀ k,f.length - i<=k->co f k=cvL ((List.range c).map G) (co g) k)/\(∀ k,k<f.length->Bd (b+i*(d+1)) (F k))
 refine ForJ.down Iv ⟨Aa _,co f,λ_=>0,none,none,none,rfl,sH,a2,a3,λ_ _=>rfl,λk _=>by rw [KF];omega,λk hk=>by rw [KF,AZ ⋯],λk _=>(Cc bn k).mono ⋯⟩ ?_ ?_
 ·rintro i S D hi ⟨_,F,G,u,v,w,rfl,s2,I,U,hG,hF,J,bF⟩;have a5:=s2 _ _ hq;have ic:i<c:=hi;have b1:((f.length:Int) - (L:Int) - 1 - (i:Int))=((c - 1 - i:Nat):Int):=by omega
  rw [b1];generalize hs:c - 1 - i=s;have ba:s+L=f.length - 1 - i:=by omega
  have aT:O' (Ai f.length F) ((s:Int)+(L:Int))=some (V.int (F (s+L))):=DI (j:=s+L) ⋯ (Cq F ⋯);refine ⟨_,rfl,_,rfl,_,rfl,_,_,rfl,rfl,_,_,_,_,rfl,rfl,I,aT,_,rfl,_,rfl,_,_,_,_,rfl,rfl,a5,aL,_,_,rfl,rfl,P,?_⟩;show P9 K _ [some (.ref p),some (.ref q),some (.ref a),some (.int (L:Int)),some (.ref y),some (.int (s:Int)),some (.int ((F (s+L)).fdiv r)),w] D;generalize hw:(F (s+L)).fdiv r=m;have b2:=bF (s+L) ⋯;have W:Bd (b+i*(d+1)) m:=b2.le (by rw [<-hw];exact Z2 _ _)
  have bi:b+i*(d+1)<=60000000:=by
   have:=CF (d+1) (show i<=f.length by omega);omega
  have bc:b+(i+1)*(d+1)<=60000000:=by
   have:=CF (d+1) (show i+1<=f.length by omega);omega
  have b3:Bd d r:=by rw [<-n];exact Cc bm L
  refine ⟨_,rfl,_,rfl,_,rfl,_,_,_,_,rfl,rfl,a5,aL,_,_,rfl,rfl,EH W b3,_,rfl,_,rfl,_,rfl,_,_,rfl,rfl,_,_,_,_,rfl,rfl,I,aT,rfl,_,rfl,AV (λY=>?_) (λY=>?_)⟩
  ·refine kN (λ⟨A,hA⟩=>?_) _ s2;have M:m*r≠F (s+L):=by simpa using Y
   have hX:∀ k,cvL (Ap A (((List.range c).map G).map ((-1)*·))) (co g) k=co f k - cvL ((List.range c).map G) (co g) k:=λk=>by rw [Bm,BG,<-hA];omega
   have q:=(MN lm (X:=Ap A (((List.range c).map G).map ((-1)*·))) (T:=s+1) (λk hk=>by rw [hX,J k ⋯];omega)).2 s rfl;rw [hX,R,n,<-hF (s+L) ⋯] at q;exact M (by rw [<-hw,q,Int.mul_fdiv_cancel _ P])
  have ex:m*r=F (s+L):=by simpa using Y
  refine ⟨_,rfl,_,rfl,_,rfl,_,_,_,s,rfl,rfl,U,by rw [DK];exact Ey rfl ⋯,?_⟩;show P8 K _ [some (.ref p),some (.ref q),some (.ref a),some (.int (L:Int)),some (.ref y),some (.int (s:Int)),some (.int m),w] (upd D y (.lst ((Ai c G).set s (V.int m))));have b4:(Ai c G).set s (V.int m)=Ai c (λj=>if j=s then m else G j):=Fk ⋯ (sZ rfl) λj _ hj=>sY hj;rw [b4];have s3:Same H (upd D y (.lst (Ai c λj=>if j=s then m else G j))):=λz o h=>Kp.upd z o (BA h ar) (s2 z o h);have Z:(upd D y (.lst (Ai c λj=>if j=s then m else G j))) a=_:=(Aw a4).trans I;have B:(upd D y (.lst (Ai c λj=>if j=s then m else G j))) y=_:=upd_same;generalize (upd D y (.lst (Ai c λj=>if j=s then m else G j)))=H3 at s3 Z B ⊢;have ab:∀ k,cvL ((List.range c).map λj=>if j=s then m else G j) (co g) k=cvL ((List.range c).map G) (co g) k+m*Ax s (co g) k:=λk=>Sd ⋯ (hG s ⋯) _ k
  have ac:∀ (F':dO) (u v w:dC) (N:Hp),Same H N->N a=some (.lst (Ai f.length F'))->N y=some (.lst (Ai c λj=>if j=s then m else G j))->(∀ k,k<f.length->F' k=F k - (if s<=k/\k - s<L then m*co g (k - s) else 0))->
    Iv (i+1) [some (.ref p),some (.ref q),some (.ref a),some (.int (L:Int)),some (.ref y),u,v,w] N:=λF' u v w N s4 C O eF=>by
   refine ⟨⋯,F',_,u,v,w,rfl,s4,C,O,λj hj=>?_,λk hk=>?_,λk hk=>?_,λk hk=>?_⟩
   ·show (if j=s then m else G j)=0;rw [sY ⋯];exact hG j ⋯
   ·rw [eF k ⋯,ab,hF k ⋯];unfold Ax;by_cases h:s<=k
    ·rw [sZ h,sZ ⟨h,⋯⟩];omega
    ·rw [sY h,sY ⋯];omega
   ·rw [ab];by_cases ek:k=s+L
    ·have hf:=hF k ⋯;rw [ek] at hf ⊢;unfold Ax;rw [sZ ⋯,show s+L - s=L by omega,n,ex];omega
    ·have h2:=J k ⋯;rw [h2];unfold Ax;by_cases h:s<=k
     ·rw [sZ h,AZ (a:=g) ⋯];omega
     ·rw [sY h];omega
   ·rw [eF k hk];have e2:b+(i+1)*(d+1)=b+i*(d+1)+d+1:=by rw [DV];omega
    rw [e2];refine Bd.sub ((bF k hk).mono ⋯) ?_;split
    ·exact W.mul (Cc bm _)
    ·exact DZ _
  refine ⟨_,rfl,rfl,_,rfl,AV (λcw=>?_) (λcw=>?_)⟩
  ·refine ⟨_,rfl,_,rfl,⋯,⋯,?_⟩;rw [DB];refine ForR.by (λj S N=>∃ (u:dC),S=[some (.ref p),some (.ref q),some (.ref a),some (.int (L:Int)),some (.ref y),some (.int (s:Int)),some (.int m),u]/\Same H N/\N a=some (.lst (Ai f.length λk=>F k - (if s<=k/\k - s<j then m*co g (k - s) else 0)))/\N y=some (.lst (Ai c λj=>if j=s then m else G j))) ⟨w,rfl,s3,?_,B⟩ ?_ ?_
   ·rw [Z];exact congrArg (λl=>some (HO.lst l)) (Ex λk _=>by rw [sY ⋯];omega)
   ·rintro j S N hj ⟨u',rfl,s4,C,O⟩;have b6:=s4 _ _ hq;have aj:O' (g.map V.int) (0+(j:Int))=some (V.int (co g j)):=DI (j:=j) ⋯ (by rw [GQ];exact Cq _ ⋯);refine ⟨_,rfl,_,rfl,_,rfl,_,_,rfl,rfl,_,_,_,_,rfl,rfl,C,DI (j:=s+j) ⋯ (Cq _ ⋯),_,rfl,_,rfl,_,rfl,_,_,_,_,rfl,rfl,b6,aj,_,_,rfl,rfl,EH W (Cc bm j),_,_,rfl,rfl,_,_,_,s+j,rfl,rfl,C,by rw [DK];exact Ey ⋯ ⋯,?_⟩;refine ⟨_,rfl,?_,?_,?_⟩
    ·intro z o h;exact Kp.upd z o (BA h ha) (s4 z o h)
    ·refine upd_same.trans (congrArg (λl=>some (HO.lst l)) (Fk ⋯ ?_ λk _ hk=>?_))
     ·rw [sZ ⋯,sY ⋯,show s+j - s=j by omega];omega
     ·by_cases h:s<=k/\k - s<j
      ·rw [sZ h,sZ ⋯]
      ·rw [sY h,sY ⋯]
    ·rw [Aw (Ne.symm a4)];exact O
   ·rintro S N ⟨u',rfl,s4,C,O⟩;exact ac _ _ _ _ _ s4 C O λk _=>rfl
  ·have w0:m=0:=by simpa using cw
   exact ac F _ _ _ _ s3 Z B λk _=>by rw [w0];split <;> omega
 ·rintro S D ⟨_,F,G,u,v,w,rfl,s2,I,U,hG,hF,J,bF⟩;refine ⟨_,rfl,_,rfl,_,rfl,_,_,rfl,I,λz hz=>?_⟩;have a0:=AQ hz (.lst (((List.range (min L f.length)).map F).map V.int));refine ⟨z,(List.range (min L f.length)).map F,rfl,by rw [MS];exact upd_same,?_⟩;rw [MS];refine ⟨_,rfl,AV (λY=>?_) (λY=>?_)⟩
  ·refine kN (λ⟨A,hA⟩=>?_) _ (s2.trans a0);have hX:∀ k,cvL (Ap A (((List.range c).map G).map ((-1)*·))) (co g) k=co f k - cvL ((List.range c).map G) (co g) k:=λk=>by rw [Bm,BG,<-hA];omega
   have q:=(MN lm (X:=Ap A (((List.range c).map G).map ((-1)*·))) (T:=0) (λk hk=>by rw [hX,J k ⋯];omega)).1;have M:((List.range (min L f.length)).map F).any (λz=>!decide (z=0))=true:=by simpa using Y
   obtain ⟨z,b8,al⟩:=List.any_eq_true.mp M;obtain ⟨k,hk,rfl⟩:=BD.mp b8;have hk:=Eb.mp hk;have e:=hX k;rw [CB,Fi g (λj=>q j (Aa j)),<-hF k ⋯] at e;rw [<-e] at al;simp at al
  ·have M:((List.range (min L f.length)).map F).any (λz=>!decide (z=0))=false:=by simpa using Y
   have B:=a0 _ _ U;rw [IX] at B;refine Ak rfl (kR y _ _ (s2.trans a0) B (by rw [AJ,BI];omega) λk=>?_);by_cases hk:f.length - c<=k
   ·exact J k hk
   ·have:=hF k ⋯;rw [Z3 M k ⋯] at this;omega
def Se {K:W.Frag} {a:Addr} {capt:List (Option Nat)} {te:TE} {σ:L2.St} {Q:VK} {H:Hp} {b:dD} (F:Int->Int) (hp:H a=some (.lst (b.map V.int))) (hl:b.length<=1000)
  (j:∀ n,n∈b->∀ P:VK,P (.int (F n)) H->te ((C6 capt σ).set 0 (some (.int n))) H P) (k:∀ p,H p=none->Q (.ref p) (upd H p (.lst ((b.map F).map V.int)))):CompJ (aB K a) capt (AG 0) te σ Q H:=by
 refine CompJ.lst (xs:=b.map V.int) (λi f c=>i<=b.length/\c=H/\f=((b.map F).take i).map V.int) ⟨Aa _,rfl,rfl⟩ ?_ ?_ ?_
 ·rintro i f c ⟨h,rfl,rfl⟩;refine ⟨by rw [AJ];exact h,sz ?_,SqL.of hp⟩;rw [AJ,CJ];omega
 ·rintro i x f c d ⟨h,rfl,rfl⟩;rw [Ae] at d;cases e:b[i]? with
  | none=>rw [e] at d;cases d
  | some n=>
    rw [e] at d;obtain rfl:V.int n=x:=rG d;have m:i<b.length:=(CT.mp e).1;show te ((C6 capt σ).set 0 (some (.int n))) c _;refine j n (Bu e) _ ⟨⋯,rfl,?_⟩;rw [HF V.int (q:=F n) (by rw [Ae,e];rfl)]
 ·rintro f c ⟨_,rfl,rfl⟩ p g;have e:(b.map F).take (b.map V.int).length=b.map F:=by rw [AJ,show b.length=(b.map F).length by rw [AJ],Cz]
  rw [e];exact k p g
def Z5 (h:Jv K vs H Q E):QW K { nx:=λ_ a=>Q .non a,rt:=Q } (L2.start ["row","prime"] vs) H:=by
 obtain ⟨p,d,m,rfl,hp,b,hl,q⟩:=h;unfold QW;rwa [];refine ⟨⟨_,SqL.of hp⟩,Se (·% m) hp hl (λn _ P c=>?_) q⟩;rwa [];exact ⟨b,c⟩
theorem IY {F:Int->Int} (b:F 0=0) (a:dD) (k:Nat):co (a.map F) k=F (co a k):=by
 unfold co;rw [AO,AO,Ae];cases a[k]? with
 | none=>exact b.symm
 | some z=>rfl
def Sg {a:dD} {z:Int} (h:z∈C8 a):z∈a:=List.mem_of_mem_take h
def Z6 (a:dD):(C8 a).length<=a.length:=by rw [ME];exact MD _ _
def HI (a m:Int):m∣a % m - a:=⟨-(a / m),by have:=FY a m;rw [Int.mul_neg];omega⟩
def Z7 (h:G9 K vs H Q E):QX K { nx:=λ_ b=>Q .non b,rt:=Q } (L2.start ["row","prime"] vs) H:=by
 obtain ⟨p,f,m,rfl,hp,a,hl,q⟩:=h;unfold QX;rwa [hp];refine ⟨_,rfl,a,hl,λr c=>?_⟩;refine ⟨_,rfl,λt d=>?_⟩;refine q t _ _ ((AQ c _).trans (AQ d _)) upd_same (MO _) (Bx (Z6 _) (by rw [AJ];exact AS _)) ⟨λz e=>?_,λk=>?_⟩
 ·obtain ⟨y,_,rfl⟩:=BD.mp (Sg e);exact ⟨Ca _ ⋯,Cm _ a⟩
 ·rw [MP,IY (Int.zero_emod m)];exact HI _ _
def Z8 (h:Ju K vs H Q E):QV K { nx:=λ_ d=>Q .non d,rt:=Q } (L2.start ["whole","prime","one","other","one_weight","other_weight","quotient","rest"] vs) H:=by
 obtain ⟨a,p,rfl,p2,I,q⟩:=h;unfold QV QU QT QS QR;rwa [];refine ⟨⋯,?_⟩;have J:=Ca a (show p≠0 by omega);have L:=Cm a (show 0<p by omega)
 refine ET (λn m d=>∃ (x y s t:Int) (u v:dC),m=[some (.int a),some (.int p),some (.int x),some (.int y),some (.int s),some (.int t),u,v]/\d=H/\n=y.toNat/\0<=y/\y<x/\x<=p/\
  Int.gcd x y=Int.gcd a p/\p∣x - s*a/\p∣y - t*a/\(t.natAbs:Int)*x+(s.natAbs:Int)*y<=p/\(s.natAbs:Int)<=p) (a % p).toNat ⟨p,a % p,0,1,none,none,rfl,rfl,rfl,J,L,Int.le_refl _,?_,⟨1,⋯⟩,?_,by simp,by simp;omega⟩ ?_
 ·rw [Kn a ⋯]
 ·rw [show a % p - 1*a=a % p - a by omega];exact HI a p
 ·rintro n m d ⟨x,y,s,t,u,v,rfl,rfl,rfl,e,yx,xp,f,o,r,hb,M⟩;have tx:(t.natAbs:Int)*1<=(t.natAbs:Int)*x:=E8 ⋯ ⋯;have sy:0<=(s.natAbs:Int)*y:=Int.mul_nonneg ⋯ e;have N:(t.natAbs:Int)<=p:=by omega
  rwa [];refine AV (λc=>?_) (λc=>?_)
  ·have w:0<y:=by
    have:y≠0:=by simpa using c
    omega
   unfold QP QO QN QM QL QK QJ;have q0:=Int.ediv_nonneg (show 0<=x by omega) e;have q1:x / y<=x:=Int.ediv_le_self y ⋯;have r0:=Ca x (show y≠0 by omega);have r1:=Cm x w;have g:x - x / y*y=x % y:=by have:=FY x y;rw [Int.mul_comm] at this;omega
   have B:∀ {z:Int},z.natAbs<=p.natAbs->Bd 60000000 z:=λh=>(I.le h).mono ∅;refine ⟨λO P=>∃ R,R<y.toNat/\_,λ_ _ h=>h,?_⟩;rwa [];refine ⟨w,EH (B ⋯) (B ⋯),EH (B ⋯) (B ⋯),?_⟩;refine ⟨(x - x / y*y).toNat,⋯,rfl,⋯,⋯,⋯,?_,r,?_,?_,N⟩
   ·rw [g,Kn x e];exact f
   ·obtain ⟨b,i⟩:=o;obtain ⟨A,S⟩:=r
    exact ⟨b - x / y*A,by
     generalize x / y=j at *;have k:x=s*a+p*b:=by omega
     have C:y=t*a+p*A:=by omega
     rw [k,C];ext⟩
   ·have T:((s - x / y*t).natAbs:Int)<=(s.natAbs:Int)+x / y*(t.natAbs:Int):=by
     have U:=Int.natAbs_sub_le s (x / y*t);rw [Az] at U;have W:((x / y).natAbs:Int)=x / y:=by omega
     have h3:(((x / y).natAbs*t.natAbs:Nat):Int)=x / y*(t.natAbs:Int):=by rw [Int.natCast_mul,W]
     omega
    have n2:=Ft T e;rw [g];have X:(t.natAbs:Int)*(x % y)=(t.natAbs:Int)*x - (t.natAbs:Int)*(x / y*y):=by rw [<-g,Int.mul_sub]
    rw [X];generalize (t.natAbs:Int)=D at *;generalize (s.natAbs:Int)=F at *;generalize x / y=j at *;have n4:(F+j*D)*y=F*y+D*(j*y):=by ext
    omega
  ·have Y:y=0:=by simpa using c
   unfold QQ;rwa [];refine ⟨⋯,q _ (Ca _ ⋯) (Cm _ ⋯) λZ=>?_⟩
   have x1:x=1:=by
    rw [Y] at f;rw [Int.gcd_zero_right,Z] at f;omega
   obtain ⟨b,i⟩:=o;obtain ⟨G,a2⟩:=HI s p;refine ⟨G*a - b,?_⟩;have k:s % p=s+p*G:=by omega
   rw [k];have C:s*a=1 - p*b:=by omega
   ext
def mbd {p:Nat} {a:dD} (b:Bd 45000 (p:Int)) (h:∀ z∈a,0<=z/\z<(p:Int)):∀ z∈a,Bd 60000000 z:=λz c=>(b.le (by have:=h z c;omega)).mono ∅
def bU {p:Nat} {a:dD} (c:Pr p) (d:Tz a) (h:∀ z∈a,0<=z/\z<(p:Int)) (b:a≠[]):Int.gcd (co a (a.length - 1)) (p:Int)=1:=by
 have f:0<a.length:=C3.mpr b;have e:co a (a.length - 1)≠0:=d.resolve_left b
 have g:0<=co a (a.length - 1)/\co a (a.length - 1)<(p:Int):=h _ (by
  unfold co;rw [AO,Ag ⋯];exact DM _)
 exact c.cop λz=>by
  have:=Ee ⋯ z;omega
def Z9 (h:HA K vs H Q E):QY K { nx:=λ_ w=>Q .non w,rt:=Q } (L2.start ["row","prime","factor"] vs) H:=by
 obtain ⟨q,a,p,rfl,g,x,u,hl,A,d,k⟩:=h;have C:(2:Int)<=(p:Int):=by omega
 unfold QY;rwa [g];by_cases b:a=[]
 ·subst b;refine AV (λ_=>?_) (λc=>absurd rfl c);refine ⟨sz ∅,λr j=>k r [] 0 _ (AQ j _) upd_same rfl (λz=>absurd rfl z) ⟨λz m=>(by cases m),λi=>?_⟩⟩;show (p:Int)∣co [] i - 0*co [] i;rw [AZ (Aa _)];exact ⟨0,⋯⟩
 have D:0<a.length:=C3.mpr b;refine AV (λc=>absurd c (by simpa using b)) (λ_=>?_);have G:=GR D;rwa [G];refine ⟨C,u,λf I J o=>?_⟩;have L:=d b;have o:=o L;have B:∀ {z:Int},0<=z->z<(p:Int)->Bd 60000000 z:=λN O=>(u.le ⋯).mono ∅;refine ⟨⟨_,SqL.of g⟩,Se (λn=>n*f % (p:Int)) g hl (λn b P M=>?_) λr j=>?_⟩
 ·rwa [];exact ⟨EH (A n b) (B I J),⋯,M⟩
 ·have v:∀ i,co (a.map λn=>n*f % (p:Int)) i=co a i*f % (p:Int):=λi=>IY (F:=λn=>n*f % (p:Int)) (by simp) a i;refine k r _ f _ (AQ j _) upd_same (AJ ..) (λ_=>?_) ⟨λz m=>?_,λi=>?_⟩
  ·rw [AJ,v];obtain ⟨c,R⟩:=o;have e:co a (a.length - 1)*f=1+(p:Int)*c:=by rw [Int.mul_comm];omega
   rw [e,Int.add_mul_emod_self_left];exact Int.emod_eq_of_lt ∅ ⋯
  ·obtain ⟨y,_,rfl⟩:=BD.mp m;exact ⟨Ca _ ⋯,Cm _ ⋯⟩
  ·rw [v];show (p:Int)∣co a i*f % (p:Int) - f*co a i;rw [Int.mul_comm f];exact HI _ _
def zA (h:Jz K vs H Q E):Qf K { nx:=λ_ d=>Q .non d,rt:=Q } (L2.start ["whole","prime","rest"] vs) H:=by
 obtain ⟨w,p,rfl,a,k⟩:=h;unfold Qf;rwa [];have g:=Ca w (show p≠0 by omega);have i:=Cm w a;have b:=HI w p;refine ⟨a,IntMulOk.of_left (intBits_le_64 ⋯ ⋯),AV (λc=>?_) (λc=>?_)⟩
 ·refine k _ ?_ ⋯;obtain ⟨e,f⟩:=b;exact ⟨e - 1,by rw [Int.mul_sub];omega⟩
 ·exact k _ b ⋯
def zB (h:Jx K vs H Q E):Qd K { nx:=λ_ a=>Q .non a,rt:=Q } (L2.start ["row","divisor","modulus"] vs) H:=by
 obtain ⟨p,q,d,e,m,b,rfl,hp,f,g,i,j,n,c,o,u,v,k⟩:=h;unfold Qd;rwa [hp,f];refine ⟨d,rfl,e,rfl,g,i,j,b,n,c,o,u,v,λt r s w x a y z D A tq tr B C _=>?_⟩;refine ⟨_,z,?_⟩;rwa [];exact k s w x a y A tr B C
def zC (h:Jy K vs H Q E):Qe K { nx:=λ_ P=>Q .non P,rt:=Q } (L2.start ["row","other","prime","rest"] vs) H:=by
 obtain ⟨a,b,ns,ms,p,rfl,ha,hb,R,N,hn,hm,h0,k⟩:=h;have p2:(2:Int)<=(p:Int):=by have:=R.two;omega
 unfold Qe;rwa [ha];refine ⟨ns,rfl,⋯,hn,λc r1 H1 s1 hc a2 l1 v=>?_⟩;refine ⟨r1,p,rfl,hc,R.two,N,⋯,mbd N v.1,bU R a2 v.1,λd n f H2 s2 hd l2 o2 S=>?_⟩;have a3:=s2 _ _ (s1 _ _ hb);rwa [a3];refine ⟨ms,rfl,⋯,hm,λc' r3 H3 s3 a4 a5 l3 G=>?_⟩;refine ⟨r3,p,rfl,a4,R.two,N,⋯,mbd N G.1,bU R a5 G.1,λd' r4 f' H4 s4 ab l4 o4 T=>?_⟩;have ac:Same H H4:=((s1.trans s2).trans s3).trans s4;have aj:=(s3.trans s4) _ _ hd
 have I:∀ {g h:dO} {q:dD} {f:Int},Dm (p:Int) g h->Md (p:Int) q (λk=>f*h k)->Dm (p:Int) g (co q):=λ{g h q f} d w=>by
  refine Dm.congr (Dm.less d d f 0 0) λk=>?_;have:=w.2 k;show (p:Int)∣co q k - (f*h k - 0*_);rw [Int.zero_mul,Int.sub_zero];exact this
 have nz:∀ {i q L:dD} {f:Int},(∃ k,¬ (p:Int)∣co i k)->Md (p:Int) q (co i)->L.length=q.length->0<L.length:=λ{i q L f} ⟨k,hk⟩ w e=>by
  rcases DS L.length with z | z
  ·exfalso;have:=w.2 k;rw [AZ ⋯] at this;have t2:=Int.dvd_neg.mpr this;rw [show ∀ x:Int,-(0 - x)=x by intro x;omega] at t2;exact hk t2
  ·exact z
 have M1:∀ {i q:dD},Md (p:Int) q (co i)->∀ {g:dO},Dm (p:Int) g (co i)->Dm (p:Int) g (co q):=λw g d=>Dm.congr d w.2
 have J:∀ {g:dO} {r n:dD} {f:Int},Md (p:Int) n (λk=>f*co r k)->n.length=r.length->(r≠[]->co n (n.length - 1)=1)->Dm (p:Int) g (co n)->Dm (p:Int) g (co r):=λ{g r n f} w l o d=>by
  by_cases r0:r=[]
  ·exact Dm.zero _ _ λk=>by rw [r0,AZ (Aa _)];exact DN _
  ·refine Dm.congr (Dm.less d d (co r (r.length - 1)) 0 0) λk=>?_;show (p:Int)∣co r k - (co r (r.length - 1)*co n k - 0*_);rw [Int.zero_mul,Int.sub_zero];have Y:=w.2 k;have U:=w.2 (n.length - 1);rw [o r0,l] at U;have q1:(p:Int)∣co r (r.length - 1)*(co n k - f*co r k):=GX Y;have q2:(p:Int)∣co r k*(1 - f*co r (r.length - 1)):=GX U;refine CU (Int.dvd_sub q2 q1) (FR ?_);ext
 have O:∀ {g:dO} {i r n:dD} {f:Int},Md (p:Int) r (co i)->Md (p:Int) n (λk=>f*co r k)->n.length=r.length->(r≠[]->co n (n.length - 1)=1)->Dm (p:Int) g (co n)->Dm (p:Int) g (co i):=λ{g i r n f} v w l o d=>Dm.congr (J w l o d) λk=>by
  have:=Int.dvd_neg.mpr (v.2 k);refine CU this (FR ?_);omega
 refine ET (λm σ P=>∃ (x y:Addr) (i j:dD) (u:dC),σ=[some (.ref x),some (.ref y),some (.int (p:Int)),u]/\Same H P/\P x=some (.lst (i.map V.int))/\P y=some (.lst (j.map V.int))/\m=j.length/\i.length<=1000/\j.length<=1000/\(0<i.length\/0<j.length)/\(i≠[]->co i (i.length - 1)=1)/\(j≠[]->co j (j.length - 1)=1)/\(∀ z∈i,0<=z/\z<(p:Int))/\(∀ z∈j,0<=z/\z<(p:Int))/\
  (∀ g:dO,Dm (p:Int) g (co ns)->Dm (p:Int) g (co ms)->Dm (p:Int) g (co i)/\Dm (p:Int) g (co j))/\(∀ g:dO,Dm (p:Int) g (co i)->Dm (p:Int) g (co j)->Dm (p:Int) g (co ns)/\Dm (p:Int) g (co ms))) r4.length ⟨d,d',n,r4,none,rfl,ac,aj,ab,rfl,⋯,⋯,?_,?_,?_,S.1,T.1,λg C D=>⟨I (M1 v C) S,I (M1 G D) T⟩,λg C D=>⟨O v S l2 o2 C,O G T l4 o4 D⟩⟩ ?_
 ·rcases h0 with h | h
  ·exact .inl (nz (f:=f) h v l2)
  ·exact .inr (nz (f:=f) h G l4)
 ·intro z;exact o2 λe=>z (CM.mp (by rw [l2,e];rfl))
 ·intro z;exact o4 λe=>z (CM.mp (by rw [l4,e];rfl))
 ·rintro m σ P ⟨x,y,i,j,u,rfl,sH,hx,hy,rfl,xl,yl,ne,ox,oy,bx,bY,hD,hE⟩;rwa [hy];by_cases M:j=[]
  ·subst M;refine AV (λc=>absurd c (by simp)) (λ_=>?_);have x0:0<i.length:=by simpa using ne
   have Z:Dm (p:Int) (co i) (co i):=⟨[1],λk=>by
    have e:cvL [1] (co i) k=co i k:=by
     cases k with
     | zero=>rw [A4];omega
     | succ k=>rw [Av,BF];omega
    rw [e,Int.sub_self];exact DN _⟩
   have zz:Dm (p:Int) (co i) (co []):=Dm.zero _ _ λk=>by rw [AZ (Aa _)];exact DN _
   exact k x i P sH hx x0 xl (ox (C3.mp x0)) bx (λg C D=>(hD g C D).1) (hE _ Z zz).1 (hE _ Z zz).2
  ·have y0:0<j.length:=C3.mpr M;refine AV (λ_=>?_) (λc=>absurd M (by simpa using c));refine ⟨λam an=>∃ m',m'<j.length/\_,λ_ _ h=>h,?_⟩;rwa [hx,hy];have B:∀ z:Int,0<=z->z<(p:Int)->Bd 45000 z:=λz Y U=>N.le ⋯;refine ⟨i,rfl,j,rfl,y0,oy M,⋯,45000,N,λz hz=>B z (bY z hz).1 (bY z hz).2,∅,xl,yl,λs F q H2 a0 hs al ao w=>?_⟩
   have W:∀ g:dO,Dm (p:Int) g (co j)->Dm (p:Int) g (co q)->Dm (p:Int) g (co i):=λg C D=>by
    obtain ⟨S1,Y⟩:=C;obtain ⟨S2,U⟩:=D;refine ⟨Ap S2 (BC F S1),λk=>?_⟩;rw [Bm,CG];have e1:=c7 Y F k;have m2:(p:Int)∣co q k - (co i k - cvL F (co j) k):=w.2 k;have:=DL (Int.dvd_sub (U k) m2) e1;refine CU this (FR ?_);omega
   refine ⟨q,p,rfl,hs,R.two,N,⋯,mbd N w.1,bU R al w.1,λt ts f H3 a1 ht lt ot X=>?_⟩;refine ⟨ts.length,⋯,(sH.trans a0).trans a1,j,(a0.trans a1) _ _ hy,ts,ht,rfl,yl,⋯,.inl y0,oy,λz=>ot λe=>z (CM.mp (by rw [lt,e];rfl)),bY,X.1,λg C D=>⟨(hD g C D).2,?_⟩,λg C D=>hE g (W g C (J X lt ot D)) C⟩;obtain ⟨dx,dy⟩:=hD g C D
   have dr:Dm (p:Int) g (co q):=by
    obtain ⟨S1,Y⟩:=dx;obtain ⟨S2,U⟩:=dy;refine Dm.congr (f:=λk=>co i k - cvL F (co j) k) ⟨Ap S1 ((BC F S2).map (-1*·)),λk=>?_⟩ w.2;rw [Bm,BG,CG]
    have e:(p:Int)∣cvL F (co j) k - cvL F (cvL S2 g) k:=by
     have lin:∀ (A:dD) (k:Nat),(p:Int)∣cvL A (co j) k - cvL A (cvL S2 g) k:=by
      intro A
      induction A with
      | nil=>intro k;rw [BF,BF];exact ⟨0,⋯⟩
      | cons a A ih=>
        intro k;rw [Ff,Ff]
        have i2:(p:Int)∣De (cvL A (co j)) k - De (cvL A (cvL S2 g)) k:=by
         cases k with
         | zero=>exact ⟨0,by show (0:Int) - 0=_;omega⟩
         | succ k=>exact ih k
        have i1:(p:Int)∣a*(co j k - cvL S2 g k):=GX (U k);have:=DL i1 i2;rw [show a*(co j k - cvL S2 g k)+(De (cvL A (co j)) k - De (cvL A (cvL S2 g)) k)=a*co j k+De (cvL A (co j)) k - (a*cvL S2 g k+De (cvL A (cvL S2 g)) k) by rw [Int.mul_sub];omega] at this;exact this
     exact lin F k
    have:=Int.dvd_sub (Y k) e;rw [show co i k - cvL S1 g k - (cvL F (co j) k - cvL F (cvL S2 g) k)=co i k - cvL F (co j) k - (cvL S1 g k + -1*cvL F (cvL S2 g) k) by omega] at this;exact this
   exact I dr X
def zD (h:Jw K vs H Q E):ZJ K (eC Q) (L2.start ["row","divisor","modulus","rest","last","quotient","shift","weight","place"] vs) H:=by
 obtain ⟨p,q,d,g,m,b,rfl,hp,hq,m0,ml,mp,bm,a2,bb,hn,hm,kR⟩:=h;obtain ⟨L,hL⟩:∃ L,g.length=L+1:=⟨g.length - 1,⋯⟩;have a3:g.length - 1=L:=by omega
 rw [a3] at ml;generalize hc:d.length - L=c;refine BW (Jh (Ak rfl ⟨_,_,rfl,hp,λa ha=>?_⟩));have sa:=AQ ha (.lst (d.map V.int));have a4:=sa _ _ hp;have a5:=sa _ _ hq;have ab:((List.map V.int g).length:Int) - 1=(L:Int):=by rw [AJ];omega
 refine ⟨_,rfl,_,_,rfl,a5,_,_,rfl,rfl,?_⟩;show Qc K _ [some (.ref p),some (.ref q),some (.int m),some (.ref a),some (.int (((List.map V.int g).length:Int) - 1)),none,none,none,none] _;rw [ab];refine BW (Af (Gz (G_ ⟨Df,λx hx=>?_⟩)));have ac:=AQ hx (.lst [.int 0]) _ _ a4
 have T:(if (0:Int) > ((List.map V.int d).length:Int) - (L:Int) then (0:Int) else ((List.map V.int d).length:Int) - (L:Int))=(c:Int):=by
  rw [AJ];split <;> omega
 refine ⟨_,rfl,_,_,rfl,ac,_,rfl,_,_,rfl,rfl,_,_,rfl,?_⟩;refine ⟨_,(c:Int),_,rfl,congrArg V.int T,upd_same,⋯,⋯,sz (by simp;omega),λy hy=>?_⟩;refine O4 ha hx hy λH1 U W sH X al=>?_;rw [GQ d] at U;rw [DB,SV] at W;have am:=sH _ _ hp;have an:((List.map V.int d).length:Int) - (L:Int) - 1=(d.length:Int) - (L:Int) - 1:=by rw [AJ]
 have ao:((d.length:Int) - (L:Int) - 1 - -1).toNat=c:=by omega
 refine O0 ?_;refine ⟨_,rfl,_,_,rfl,am,_,rfl,_,_,rfl,rfl,_,_,rfl,rfl,_,rfl,_,rfl,(d.length:Int) - (L:Int) - 1,_,by rw [<-an],⟨⋯,⋯,∅,∅⟩,?_⟩;rw [ao]
 let Iv:Nat->L2.St->Hp->Prop:=λi O n=>i<=c/\∃ (F G:dO) (u v w:dC),O=[some (.ref p),some (.ref q),some (.int m),some (.ref a),some (.int (L:Int)),some (.ref y),u,v,w]/\Same H n/\n a=some (.lst (Ai d.length F))/\n y=some (.lst (Ai c G))/\
  (∀ j,j<c - i->G j=0)/\(∀ k,k<d.length - i->m∣F k - (co d k - cvL ((List.range c).map G) (co g) k))/\(∀ k,d.length - i<=k->m∣co d k - cvL ((List.range c).map G) (co g) k)/\(∀ j,j<c->0<=G j/\G j<m)
 refine ForJ.down Iv ⟨Aa _,co d,λ_=>0,none,none,none,rfl,sH,U,W,λ_ _=>rfl,λk _=>by rw [KF];exact ⟨0,⋯⟩,λk hk=>by rw [KF,AZ ⋯];exact ⟨0,⋯⟩,λk _=>⟨Int.le_refl 0,mp⟩⟩ ?_ ?_
 ·rintro i O n hi ⟨_,F,G,u,v,w,rfl,s2,I,J,hG,hF,P,bG⟩;have b1:=s2 _ _ hq;have ic:i<c:=hi;have ap:((d.length:Int) - (L:Int) - 1 - (i:Int))=((c - 1 - i:Nat):Int):=by omega
  rw [ap];generalize hs:c - 1 - i=s;have b2:s+L=d.length - 1 - i:=by omega
  have aT:O' (Ai d.length F) ((s:Int)+(L:Int))=some (V.int (F (s+L))):=DI (j:=s+L) ⋯ (Cq F ⋯);refine ⟨_,rfl,_,rfl,_,rfl,_,_,rfl,rfl,_,_,_,_,rfl,rfl,I,aT,_,rfl,_,_,rfl,rfl,mp,?_⟩;show Qa K _ [some (.ref p),some (.ref q),some (.int m),some (.ref a),some (.int (L:Int)),some (.ref y),some (.int (s:Int)),some (.int (F (s+L) % m)),w] n;have w0:=Ca (F (s+L)) (show m≠0 by omega);have w1:=Cm (F (s+L)) mp;have wd:=HI (F (s+L)) m;generalize hw:F (s+L) % m=f at w0 w1 wd ⊢;have ar:Bd b f:=bm.le ⋯;refine ⟨_,rfl,_,rfl,_,rfl,_,_,_,s,rfl,rfl,J,by rw [DK];exact Ey rfl ⋯,?_⟩;show QZ K _ [some (.ref p),some (.ref q),some (.int m),some (.ref a),some (.int (L:Int)),some (.ref y),some (.int (s:Int)),some (.int f),w] (upd n y (.lst ((Ai c G).set s (V.int f))));rw [show (Ai c G).set s (V.int f)=Ai c (λj=>if j=s then f else G j) from Fk ⋯ (sZ rfl) λj _ R=>sY R];have s3:Same H (upd n y (.lst (Ai c λj=>if j=s then f else G j))):=λz o h=>Kp.upd z o (BA h al) (s2 z o h);have A:(upd n y (.lst (Ai c λj=>if j=s then f else G j))) a=_:=(Aw X).trans I;have S:(upd n y (.lst (Ai c λj=>if j=s then f else G j))) y=_:=upd_same;generalize (upd n y (.lst (Ai c λj=>if j=s then f else G j)))=H3 at s3 A S ⊢;have Y:∀ k,cvL ((List.range c).map λj=>if j=s then f else G j) (co g) k=cvL ((List.range c).map G) (co g) k+f*Ax s (co g) k:=λk=>Sd ⋯ (hG s ⋯) _ k
  have Z:∀ (F':dO) (u v w:dC) (C:Hp),Same H C->C a=some (.lst (Ai d.length F'))->C y=some (.lst (Ai c λj=>if j=s then f else G j))->(∀ k,k<d.length->F' k=F k - (if s<=k/\k - s<L then f*co g (k - s) else 0))->
    Iv (i+1) [some (.ref p),some (.ref q),some (.int m),some (.ref a),some (.int (L:Int)),some (.ref y),u,v,w] C:=λF' u v w C M B D eF=>by
   refine ⟨⋯,F',_,u,v,w,rfl,M,B,D,λj R=>?_,λk hk=>?_,λk hk=>?_,λj R=>?_⟩
   ·show (if j=s then f else G j)=0;rw [sY ⋯];exact hG j ⋯
   ·have hf:=hF k ⋯;rw [eF k ⋯,Y];unfold Ax;by_cases h:s<=k
    ·rw [sZ h,sZ ⟨h,⋯⟩];rw [show ∀ x y z w:Int,x - y - (z - (w+y))=x - (z - w) by intro x y z w;omega];exact hf
    ·rw [sY h,sY ⋯];rw [show ∀ x z w:Int,x - 0 - (z - (w+f*0))=x - (z - w) by intro x z w;omega];exact hf
   ·rw [Y];by_cases ek:k=s+L
    ·have hf:=hF k ⋯;rw [ek] at hf ⊢;unfold Ax;rw [sZ ⋯,show s+L - s=L by omega,ml];obtain ⟨α,b3⟩:=hf;obtain ⟨β,b4⟩:=wd;exact ⟨-α - β,by rw [Int.mul_sub,Int.mul_neg];omega⟩
    ·have N:=P k ⋯;unfold Ax;by_cases h:s<=k
     ·rw [sZ h,AZ (a:=g) ⋯,Int.mul_zero,Int.add_zero];exact N
     ·rw [sY h,Int.mul_zero,Int.add_zero];exact N
   ·show 0<=(if j=s then f else G j)/\(if j=s then f else G j)<m;split
    ·exact ⟨w0,w1⟩
    ·exact bG j R
  refine ⟨_,rfl,rfl,_,rfl,AV (λcw=>?_) (λcw=>?_)⟩
  ·refine ⟨_,rfl,_,rfl,⋯,⋯,?_⟩;rw [DB];refine ForR.by (λj O C=>∃ (u:dC),O=[some (.ref p),some (.ref q),some (.int m),some (.ref a),some (.int (L:Int)),some (.ref y),some (.int (s:Int)),some (.int f),u]/\Same H C/\C a=some (.lst (Ai d.length λk=>F k - (if s<=k/\k - s<j then f*co g (k - s) else 0)))/\C y=some (.lst (Ai c λj=>if j=s then f else G j))) ⟨w,rfl,s3,?_,S⟩ ?_ ?_
   ·rw [A];exact congrArg (λl=>some (HO.lst l)) (Ex λk _=>by rw [sY ⋯];omega)
   ·rintro j O C R ⟨u',rfl,M,B,D⟩;have aw:=M _ _ hq;have aj:O' (g.map V.int) (0+(j:Int))=some (V.int (co g j)):=DI (j:=j) ⋯ (by rw [GQ];exact Cq _ ⋯);refine ⟨_,rfl,_,rfl,_,rfl,_,_,rfl,rfl,_,_,_,_,rfl,rfl,B,DI (j:=s+j) ⋯ (Cq _ ⋯),_,rfl,_,rfl,_,rfl,_,_,_,_,rfl,rfl,aw,aj,_,_,rfl,rfl,EH ar (Cc a2 j),_,_,rfl,rfl,_,_,_,s+j,rfl,rfl,B,by rw [DK];exact Ey ⋯ ⋯,?_⟩;refine ⟨_,rfl,?_,?_,?_⟩
    ·intro z o h;exact Kp.upd z o (BA h ha) (M z o h)
    ·refine upd_same.trans (congrArg (λl=>some (HO.lst l)) (Fk ⋯ ?_ λk _ hk=>?_))
     ·rw [sZ ⋯,sY ⋯,show s+j - s=j by omega];omega
     ·by_cases h:s<=k/\k - s<j
      ·rw [sZ h,sZ ⋯]
      ·rw [sY h,sY ⋯]
    ·rw [Aw (Ne.symm X)];exact D
   ·rintro O C ⟨u',rfl,M,B,D⟩;exact Z _ _ _ _ _ M B D λk _=>rfl
  ·have ax:f=0:=by simpa using cw
   exact Z F _ _ _ _ s3 A S λk _=>by rw [ax];split <;> omega
 ·rintro O n ⟨_,F,G,u,v,w,rfl,s2,I,J,hG,hF,P,bG⟩;rw [IX] at J;show Qb K _ _ _;refine Dg (C7 (Jf ⟨_,rfl,_,_,rfl,J,λt ht=>?_⟩));have st:=AQ ht (.lst (List.map V.int (C8 (List.map G (List.range c)))));have A:=st _ _ I;have a0:upd n t (.lst (List.map V.int (C8 (List.map G (List.range c))))) t=_:=upd_same;generalize upd n t (.lst (List.map V.int (C8 (List.map G (List.range c)))))=H3 at st A a0 ⊢;refine B4 ⟨_,rfl,_,rfl,_,rfl,_,_,rfl,A,λz hz=>⟨_,rfl,z,(List.range (min L d.length)).map F,m,rfl,by rw [MS];exact upd_same,mp,by rw [AJ,BI];omega,λr rs C M b0 tr lr md=>?_⟩⟩;have a1:=(AQ hz _).trans M;rw [AJ,BI] at lr;refine ⟨CP,λe he=>?_⟩;have se:=AQ he (.tup [.ref t,.ref r])
  have cq:∀ k,cvL (C8 ((List.range c).map G)) (co g) k=cvL ((List.range c).map G) (co g) k:=λk=>by
   rw [CB,BV (λj=>MP _ j) g k,<-CB]
  refine kR e t r _ rs _ ((s2.trans st).trans (a1.trans se)) upd_same (se _ _ (a1 _ _ a0)) (se _ _ b0) (MO _) tr ⋯ ⟨md.1,λk=>?_⟩ λz hz=>?_
  ·have:=md.2 k;rw [JY] at this;show m∣co rs k - (co d k - cvL (C8 ((List.range c).map G)) (co g) k);rw [cq];by_cases hk:k<min L d.length
   ·rw [sZ hk] at this;have N:=DL this (hF k ⋯);rw [show ∀ x y z:Int,x - y+(y - z)=x - z by intro x y z;omega] at N;exact N
   ·rw [sY hk] at this;have N:=Int.dvd_sub this (P k ⋯);rw [show ∀ x y:Int,x - 0 - y=x - y by intro x y;omega] at N;exact N
  ·obtain ⟨j,R,rfl⟩:=BD.mp (Sg hz);exact bG j (Eb.mp R)
theorem SDs.tp {H a:Hp} (s:Same H a):∀ {xs:dz} {b:List (dD)},SDs H xs b->SDs a xs b
 | [],[],_=>trivial
 | _::_,_::_,h=>⟨let ⟨p,e,q⟩:=h.1;⟨p,e,s _ _ q⟩,SDs.tp s h.2⟩
 | [],_::_,h=>h.elim
 | _::_,[],h=>h.elim
def SD.tp {H a:Hp} (s:Same H a) {p:Addr} {b:List (dD)} (h:SD H p b):SD a p b:=let ⟨c,e,q⟩:=h;⟨c,s _ _ e,q.tp s⟩
theorem SDs.length {H:Hp}:∀ {xs:dz} {a:List (dD)},SDs H xs a->xs.length=a.length
 | [],[],_=>rfl
 | _::_,_::_,h=>congrArg (·+1) (SDs.length h.2)
 | [],_::_,h=>h.elim
 | _::_,[],h=>h.elim
theorem SDs.get {H:Hp}:∀ {xs:dz} {a:List (dD)} {i:Nat} {v:V},SDs H xs a->xs[i]?=some v->∃ p r,v=.ref p/\a[i]?=some r/\H p=some (.lst (r.map V.int))
 | [],[],_,_,_,e=>by simp at e
 | _::_,r::_,0,_,h,e=>by
   simp at e;subst e;obtain ⟨p,e,q⟩:=h.1;exact ⟨p,r,e,rfl,q⟩
 | _::_,_::_,i+1,_,h,e=>by
   obtain ⟨p,r,b,c,d⟩:=SDs.get (i:=i) h.2 (by simpa using e);exact ⟨p,r,b,by simpa using c,d⟩
 | [],_::_,_,_,h,_=>h.elim
 | _::_,[],_,_,h,_=>h.elim
theorem SDs.snoc {H:Hp} {p:Addr} {r:dD} (hp:H p=some (.lst (r.map V.int))):∀ {xs:dz} {a:List (dD)},SDs H xs a->SDs H (xs++[.ref p]) (a++[r])
 | [],[],_=>⟨⟨p,rfl,hp⟩,trivial⟩
 | _::_,_::_,h=>⟨h.1,SDs.snoc hp h.2⟩
 | [],_::_,h=>h.elim
 | _::_,[],h=>h.elim
theorem SD.head {H:Hp} {p:Addr} {r:dD} {c:List (dD)} (h:SD H p (r::c)):∃ a b,H p=some (.lst (.ref a::b))/\H a=some (.lst (r.map V.int))/\SDs H (.ref a::b) (r::c):=by
 obtain ⟨b,e,q⟩:=h
 match b,q with
 | [],q=>exact q.elim
 | x::b,q=>
   obtain ⟨a,d,f⟩:=q.1;subst d;exact ⟨a,b,e,f,q⟩
def HJ {a:Type} (x:a) (xs:List a):O' (x::xs) 0=some x:=by
 unfold O' av;rw [sZ ∅,sZ (by rw [C1];omega)];rfl
def zE (h:IK K vs H Q E):QF K { nx:=λ_ A=>Q .non A,rt:=Q } (L2.start ["strand","shared","row"] vs) H:=by
 obtain ⟨p,b,rfl,⟨I,hp,P⟩,hl,D,k⟩:=h;have lx:=P.length;unfold QF;rwa [];refine ⟨⟨_,SqL.of hp⟩,ForL.by (xs:=I) (λi J A=>∃ (g:Int) (u:dC),J=[some (.ref p),some (.int g),u]/\Same H A/\0<=g/\(∀ r∈b.take i,∀ z∈r,g∣z)/\(∀ d:Int,(∀ r∈b.take i,∀ z∈r,d∣z)->d∣g)) ⟨0,none,rfl,Same.refl H,Int.le_refl 0,λr D=>(by simp at D),λd _=>DN d⟩ ?_ ?_ ?_⟩
 ·rintro i J A _ ⟨g,u,rfl,s,_⟩;exact SqL.of (s _ _ hp)
 ·rintro i x J A R ⟨g,u,rfl,s,g0,B,L⟩;obtain ⟨a,r,rfl,j,S⟩:=P.get R;have v:=s _ _ S;have w:=D r (Bu j);rwa [v];refine ⟨r,rfl,w.1,λg' C n T d1 d2 d3=>?_⟩;have F:b.take (i+1)=b.take i++[r]:=by rw [Eg,j];rfl
  refine ⟨s.trans n,T,λU o z m=>?_,λd M=>d3 d ?_ λz m=>?_⟩
  ·rw [F] at o;rcases Bq.mp o with h | h
   ·exact CU d1 (B U h z m)
   ·rw [Aq.mp h] at m;exact d2 z m
  ·exact L d λU o z m=>M U (by rw [F];exact Ec _ o) z m
  ·exact M r (by rw [F];exact Cd _ (Aq.mpr rfl)) z m
 ·rintro J A ⟨g,u,rfl,s,g0,B,L⟩;rw [lx,Cz] at B L;have W:=s _ _ hp
  have gz:∀ r∈b,0<g\/r=[]:=λr f=>by
   rcases Int.lt_or_le 0 g with h | h
   ·exact .inl h
   ·right;have G:g=0:=by omega
    rcases (D r f).2 with h | h
    ·exact h
    ·exfalso;by_cases a0:r.length=0
     ·rw [AZ ⋯] at h;exact h rfl
     ·have:=B r f (co r (r.length - 1)) (by
       unfold co;rw [AO,Ag ⋯];exact DM _)
      rw [G] at this;exact h (Int.zero_dvd.mp this)
  rwa [];refine ⟨⟨_,SqL.of W⟩,CompJ.lst (xs:=I) (λi y C=>i<=b.length/\Same H C/\SDs C y ((b.take i).map λr=>r.map (·/ g))) ⟨Aa _,s,trivial⟩ ?_ ?_ ?_⟩
  ·rintro i y C ⟨X,n,q⟩;refine ⟨⋯,sz ?_,SqL.of (n _ _ hp)⟩;rw [q.length,AJ,CJ];omega
  ·rintro i x y C R ⟨X,n,q⟩;obtain ⟨a,r,rfl,j,S⟩:=P.get R;have v:=n _ _ S;have w:=D r (Bu j);have a1:i<b.length:=(CT.mp j).1;rwa [v];refine ⟨r,rfl,gz r (Bu j),w.1,λt N=>?_⟩;refine ⟨⋯,n.trans (AQ N _),?_⟩;have F:(b.take (i+1)).map (λr=>r.map (·/ g))=(b.take i).map (λr=>r.map (·/ g))++[r.map (·/ g)]:=by rw [Eg,j];simp
   rw [F];exact SDs.snoc upd_same (q.tp (AQ N _))
  ·rintro y C ⟨_,n,q⟩ t N;rw [lx,Cz] at q;have O:=AQ N (.lst y);by_cases gp:0<g
   ·refine k t _ _ (n.trans O) ⟨y,upd_same,q.tp O⟩ ⟨g,gp,?_⟩ (.inr λd M=>?_)
    ·rw [List.map_map]
     conv=>lhs;rw [<-List.map_id b]
     refine EL λr f=>?_;show r=(r.map (·/ g)).map (g*·);rw [List.map_map]
     conv=>lhs;rw [<-List.map_id r]
     refine EL λz m=>?_;show z=g*(z / g);rw [Int.mul_ediv_cancel' (B r f z m)]
    ·have Y:d*g∣g:=L (d*g) λr f z m=>by
      have X:=M (r.map (·/ g)) (BD.mpr ⟨r,f,rfl⟩) (z / g) (BD.mpr ⟨z,m,rfl⟩);obtain ⟨c,Z⟩:=X;refine ⟨c,?_⟩;have:=Int.mul_ediv_cancel' (B r f z m);rw [<-this,Z];ext
     obtain ⟨c,Z⟩:=Y
     have e:g*(d*c)=g*1:=by rw [Int.mul_one];conv=>rhs;rw [Z]
                            ext
     have e1:=Fo ⋯ e;have:d.natAbs*c.natAbs=1:=by rw [<-Az,e1];rfl
     exact Nat.eq_one_of_mul_eq_one_right this
   ·have G:∀ r∈b,r=[]:=λr f=>by
     rcases gz r f with h | h
     ·exact absurd h gp
     ·exact h
    have em:b.map (λr=>r.map (·/ g))=b:=by
     conv=>rhs;rw [<-List.map_id b]
     refine EL λr f=>?_;rw [G r f];rfl
    rw [em] at q;refine k t b _ (n.trans O) ⟨y,upd_same,q.tp O⟩ ⟨1,∅,?_⟩ (.inl G)
    conv=>lhs;rw [<-List.map_id b]
    refine EL λr f=>?_;rw [G r f];rfl
def zF {r:dD} (h:∀ d:Int,(∀ z∈r,d∣z)->d.natAbs=1):Prim r:=λc a=>h c λz b=>by
 obtain ⟨i,e,rfl⟩:=FX b;have:=a i;unfold co at this;rw [AO,Ag e] at this;exact this
theorem zG (h:GO K vs H Q E):QG K { nx:=λ_ j=>Q .non j,rt:=Q } (L2.start ["row"] vs) H:=by
 obtain ⟨p,u,rfl,hp,hl,x,k⟩:=h;unfold QG;rwa [];refine ⟨sz ∅,λa y=>?_⟩;have v:=AQ y (.lst [.ref p]);refine ⟨[u],⟨[V.ref p],upd_same,⟨⟨p,rfl,v _ _ hp⟩,trivial⟩⟩,by simp,?_,λt c j A e m n=>?_⟩
 ·intro r o;rw [Aq.mp o];exact ⟨hl,x⟩
 obtain ⟨g,B,f⟩:=m
 match c,f,e,n with
 | [q],f,e,n=>
   obtain ⟨b,G,C,D,_⟩:=e.head;have i:u=q.map (g*·):=by simpa using f
   refine ⟨_,C,_,HJ _ _,k b q g j (v.trans A) D B i ?_⟩;rcases n with h | h
   ·left;rw [i,h q (Aq.mpr rfl)];rfl
   ·right;exact zF λd F=>h d λr o z w=>by rw [Aq.mp o] at w;exact F z w
 | [],f,_,_=>simp at f
 | _::_::_,f,_,_=>simp at f
def Si {n:Nat} {a:dD} (h:∀ k,Bd n (co a k)):∀ z∈a,Bd n z:=λz b=>by
 obtain ⟨i,c,rfl⟩:=FX b;have:=h i;unfold co at this;rw [AO,Ag c] at this;exact this
def KG (g:Int) (a:dD) (k:Nat):co (a.map (g*·)) k=g*co a k:=IY (F:=(g*·)) ⋯ a k
def MT {g:Int} (b:g≠0) {a:dD} (h:Tz (a.map (g*·))):Tz a:=by
 rcases h with h | h
 ·left;exact List.map_eq_nil_iff.mp h
 ·right;rw [KG,AJ] at h;exact λz=>h (by rw [z];omega)
def MU {n:Nat} {g:Int} (c:0<g) {a:dD} (h:∀ z∈a.map (g*·),Bd n z):∀ z∈a,Bd n z:=λz b=>(h (g*z) (BD.mpr ⟨z,b,rfl⟩)).le (by
 rw [Az];exact GU _ ⋯)
def zH {a b:Int} (c:b≠0) (h:a∣b):a.natAbs<=b.natAbs:=Ee ⋯ (Ct.mpr h)
def zI (h:Jt K vs H Q E):QE K { nx:=λ_ d=>Q .non d,rt:=Q } (L2.start ["strand","other","shift","top","lead","shared","factor","weight"] vs) H:=by
 obtain ⟨p,q,o,rfl,j,w,J,k⟩:=h;obtain ⟨m,x,hp,f,_⟩:=j.head;obtain ⟨u,y,z,i,_⟩:=w.head;have A:O' (V.ref m::x) 0=some (V.ref m):=HJ _ _;have B:O' (V.ref u::y) 0=some (V.ref u):=HJ _ _;unfold QE;rwa [];refine ET (λn v d=>v=[some (.ref p),some (.ref q),none,none,none,none,none,none]/\d=H/\n=0) 0 ⟨rfl,rfl,rfl⟩ ?_;rintro n v d ⟨rfl,rfl,rfl⟩;rwa [hp,z,f,i,A,B];refine AV (λc=>by rw [AJ] at c;exfalso;omega) (λ_=>?_);unfold QD;rwa [];refine ⟨[[]],j,∅,(λr C=>by rw [Aq.mp C];exact ⟨∅,.inl rfl⟩),λt a D F b G _=>k t D F ?_⟩;obtain ⟨g,_,e⟩:=G;have I:a.length=1:=by have:=congrArg List.length e;simpa using this.symm
 obtain ⟨r,rfl⟩:∃ r,a=[r]:=List.length_eq_one_iff.mp I;have e:[]=r.map (g*·):=List.head_eq_of_cons_eq e;rw [List.map_eq_nil_iff.mp e.symm] at b;exact b
def Fl {a:dD} (h:Tz a) (b:a≠[]):Lz a:=by
 refine ⟨C3.mpr b,?_⟩;rcases h with e | e
 ·exact absurd e b
 ·exact e
def zJ (h:IL K vs H Q E):QH K { nx:=λ_ b=>Q .non b,rt:=Q } (L2.start ["strand","other","rest"] vs) H:=by
 obtain ⟨p,q,s,o,rfl,r,f,em,k⟩:=h;unfold QH;rwa [];refine ET (λn i b=>(i=[some (.ref p),some (.ref q),none]/\b=H/\n=1)\/∃ (t:Addr) (u:dC),i=[some (.ref q),some (.ref t),u]/\Same H b/\SD b t [[]]/\o≠[]/\n=0) 1 (.inl ⟨rfl,rfl,rfl⟩) ?_;rintro n i b (⟨rfl,rfl,rfl⟩ | ⟨t,u,rfl,v,j,y,rfl⟩)
 ·obtain ⟨w,A,x,d,_⟩:=f.head;have g:O' (V.ref w::A) 0=some (V.ref w):=HJ _ _;rwa [x,d,g];by_cases a:o=[]
  ·refine AV (λc=>absurd a (by simpa using c)) (λ_=>?_);rw [sZ a] at k;exact k p _ (Same.refl _) r
  ·refine AV (λ_=>?_) (λc=>absurd (by simpa using c) a)
   have B:s=[]:=by
    rcases em with z | z
    ·exact z
    ·exact absurd z a
   rw [sY a] at k;refine ⟨λC D=>∃ F,F<1/\_,λ_ _ h=>h,?_⟩;rwa [x,d,g];refine AV (λ_=>k q _ (Same.refl _) f) (λ_=>?_);refine ⟨by rw [<-B];exact r,o,f,C3.mpr a,λt L G j=>?_⟩;exact ⟨0,∅,.inr ⟨G,j,a,rfl⟩⟩
 ·obtain ⟨e,I,J,m,_⟩:=j.head;have g:O' (V.ref e::I) 0=some (V.ref e):=HJ _ _;rwa [J,m,g];refine AV (λc=>absurd c (by simp)) (λ_=>?_);rw [sY y] at k;exact k q _ v (f.tp v)
def Sj {b n c:Nat} {r a g:dD} (o:∀ z∈r,Bd b z) (f:r.length<=n) (p:n<2 ^ c) (i:Lz g) (h:∀ k,co r k=cvL a (co g) k):∀ k,Bd (b+n*(2*c+4)) (co a k):=by
 rcases Et a with z | ⟨d,e,_,j⟩
 ·intro k;rw [z k];exact DZ _
 have m:∀ k,co r k=cvL g (co d) k:=λk=>by rw [h k,CB,BV (λk=>(j k).symm) g k]
 have t:co r (d.length - 1+(g.length - 1))≠0:=by rw [m,CB,IW e i];exact CO e.2 i.2
 have q:d.length<=r.length:=by
  rcases BN (d.length - 1+(g.length - 1)) r.length with c | c
  ·have:=e.1;omega
  ·exact absurd (AZ c) t
 intro k;rw [<-j k];exact ML o ⟨_,t⟩ f (Bx q f) p m k
def zK {G S:dD} (a:Lz G) (h:∀ k,cvL S (co G) k=0) (k:Nat):co S k=0:=(MN a (T:=0) λk _=>h k).1 k (Aa k)
def Gen.Prim {r o:dO} {g:dD} (G:Gen r o g):Prim g:=λc a=>by
 rcases BN c.natAbs 2 with h | h
 ·rcases DS c.natAbs with z | z
  ·exfalso;have b:c=0:=by omega
   have:=a (g.length - 1);rw [b] at this;exact G.lz.2 (Int.zero_dvd.mp this)
  ·omega
 ·exfalso;obtain ⟨n,d,_⟩:=G.prim h;exact d (Int.natAbs_dvd.mpr (a n))
def zL {R O A B G:dD} (a:Lz G) (b:∀ k,co R k=cvL A (co G) k) (c:∀ k,co O k=cvL B (co G) k) (q:QI (co R) (co O) (co G)):QI (co A) (co B) Ad:=by
 obtain ⟨d,f,U,V,h⟩:=q;refine ⟨d,f,U,V,λk=>?_⟩
 have z:=zK (S:=Ap (Ap (BC U A) (BC V B)) [-d]) a (λk=>by
  rw [Bm,Bm,CG,CG,<-BV b,<-BV c];have:=h k
  have e:cvL [-d] (co G) k = -d*co G k:=by
   cases k with
   | zero=>rw [A4];omega
   | succ k=>rw [Av,BF];omega
  rw [e,D8,this];omega) k
 rw [CA,Bm,Bm,CG,CG,<-BV (CA A),<-BV (CA B)] at z
 have e:cvL [-d] Ad k = -d*Ad k:=by
  cases k with
  | zero=>rw [A4];omega
  | succ k=>rw [Av,BF];omega
 rw [e,D8] at z;omega
def zM (p:Nat) (e:0<p) (S:dD):(∀ k,(p:Int)∣co S k)\/∃ T,Lz T/\(∀ k,(p:Int)∣co S k - co T k)/\¬ (p:Int)∣co T (T.length - 1):=by
 have a:∀ k,co (S.map (·% (p:Int))) k=co S k % (p:Int):=λk=>IY (F:=(·% (p:Int))) (Int.zero_emod _) S k;rcases Et (S.map (·% (p:Int))) with z | ⟨T,b,_,c⟩
 ·exact .inl λk=>Int.dvd_of_emod_eq_zero (by rw [<-a k];exact z k)
 ·refine .inr ⟨T,b,λk=>?_,λh=>?_⟩
  ·rw [c,a];exact ⟨co S k / p,by have:=FY (co S k) p;omega⟩
  ·have d:=c (T.length - 1);rw [a] at d;have f:=Ca (co S (T.length - 1)) (show (p:Int)≠0 by omega);have g:=Cm (co S (T.length - 1)) (show (0:Int)<p by omega);have:=b.2;have l:=Int.le_of_dvd ⋯ h;omega
def cvT {p:Int} {S T:dD} {g:dO} {n:Nat} (a:∀ i,n<=i->g i=0) (h:∀ k,p∣co S k - co T k) (k:Nat):p∣cvL S g k - cvL T g k:=by
 have e:∀ k,g k=co ((List.range n).map g) k:=λk=>by
  rw [JY];split
  ·rfl
  ·exact a k ⋯
 rw [BV e,BV e,CB,CB T]
 have:=c7 (S:=[1]) (f:=co S) (g:=co T) (λk=>by
  have d:cvL [1] (co T) k=co T k:=by
   cases k with
   | zero=>rw [A4];omega
   | succ k=>rw [Av,BF];omega
  rw [d];exact h k) ((List.range n).map g) k
 rwa [BV (b:=cvL [1] (co T)) (c:=co T) (λk=>by
  cases k with
  | zero=>rw [A4];omega
  | succ k=>rw [Av,BF];omega)] at this
def Sl {p:Nat} (hp:Pr p) {R A G a T:dD} (b:∀ k,co R k=cvL A (co G) k) (m:Lz G) (c:¬ (p:Int)∣co G (G.length - 1)) (f:∀ k,(p:Int)∣co a k - cvL T (co G) k) (d:Dm (p:Int) (co a) (co R)):Dm (p:Int) (co T) (co A):=by
 obtain ⟨X,g⟩:=d;refine ⟨X,λk=>?_⟩
 have z:=JX hp c (λi n=>by rw [AZ ⋯];exact DN _) (Ap A ((BC X T).map ((-1)*·))) (λk _=>by
  rw [Bm,BG,CG,<-b];have h:=g k;have j:=c7 f X k;have:=DL h j;refine CU this (FR ?_);omega)
 have e:co A k - cvL X (co T) k=co (Ap A ((BC X T).map ((-1)*·))) k:=by
  rw [CA (Ap A _),Bm,BG,CG,<-CA,<-BV (CA T)];omega
 rw [e];exact SX z k
def zN {x e c n p N:Nat} (b:x<2 ^ (c+1)) (d:N<=2*(n - 1)) (a:2 ^ ((e+c+2)*(2*(n - 1)))<p):(2*(x*2 ^ e)) ^ N<p:=by
 have f:2*(x*2 ^ e)<=2 ^ (e+c+2):=by
  have:x*2 ^ e<=2 ^ (c+1)*2 ^ e:=CF _ (C9 b);have g:2 ^ (e+c+2)=2*(2 ^ (c+1)*2 ^ e):=by rw [<-Ck,show e+c+2=(c+1+e)+1 by omega,CL];omega
  omega
 refine B5 ?_ a;rw [Nat.pow_mul];exact Bx (Nat.pow_le_pow_left f N) (CK (Bz ∅) d)
def zO {o D b gs G:dD} {p d n c e:Nat} {f:Int} (hp:Pr p) (J:Lz o) (lm:Lz D) (bn:∀ z∈o,Bd d z) (bm:∀ z∈D,Bd d z) (nn:o.length<=n) (mn:D.length<=n) (hc:n<2 ^ c) (n2:2<=n) (he:e=d+n*(2*c+4)) (Y:2 ^ ((e+c+2)*(2*(n - 1)))<p)
  (L:((Int.gcd (co o (o.length - 1)) (co D (D.length - 1)):Nat):Int)=f) (U:Gen (co o) (co D) G) (r0:0<b.length) (one:co b (b.length - 1)=1) (am:G.length<=b.length) (pG:¬ (p:Int)∣co G (G.length - 1)) (dG:Dm (p:Int) (co G) (co b)) (dn:Dm (p:Int) (co b) (co o)) (dm:Dm (p:Int) (co b) (co D))
  (gl:gs.length=b.length) (hg:∀ k,k<b.length->(p:Int)∣co gs k - f*co b k) (hb:∀ z∈gs,2*z.natAbs<=p):MQ (co gs) (co o)/\MQ (co gs) (co D):=by
 have p2:=hp.two;have P:=U.Prim;have r:=U.lz;obtain ⟨A,M⟩:=ad P U.rc.left;obtain ⟨B,W⟩:=ad P U.rc.right;have X:=Sj bn nn hc r M;have bB:=Sj bm mn hc r W
 have bG:∀ k,Bd e (co G k):=by
  rw [he];exact ML bn ⟨_,J.2⟩ nn (Bx (HG r J U.rc.left) nn) hc M
 rw [<-he] at X bB;have n0:1<=n:=by have:=J.1;omega
 have ac:=zL r M W U.qi;obtain ⟨S,hS⟩:=dG;have p0:0<p:=by omega
 have F:¬ (p:Int)∣(1:Int):=λz=>by have:=Int.le_of_dvd ∅ z;omega
 rcases zM p p0 S with z | ⟨T,lT,hT,pT⟩
 ·exfalso;have u:=hS (b.length - 1);have v:=cvT (p:=(p:Int)) (S:=S) (T:=[]) (g:=co G) (n:=G.length) (λi N=>AZ N) (λk=>by rw [AZ (a:=[]) (Aa _),Int.sub_zero];exact z k) (b.length - 1);rw [one] at u;rw [BF,Int.sub_zero] at v;have:=DL u v;rw [Int.sub_add_cancel] at this;exact F this
 have w:∀ k,(p:Int)∣co b k - cvL T (co G) k:=λk=>by
  have:=DL (hS k) (cvT (λi N=>AZ N) hT k (g:=co G) (n:=G.length));refine CU this (FR ?_);omega
 have t0:=lT.1;have g0:=r.1
 have tl:T.length+G.length=b.length+1:=by
  have tp:=IW lT r
  have np:¬ (p:Int)∣co T (T.length - 1)*co G (G.length - 1):=λz=>by
   rcases hp.mulI z with q | q
   ·exact pT q
   ·exact pG q
  have u:=w (T.length - 1+(G.length - 1));rw [tp] at u
  have c1:T.length - 1+(G.length - 1)<b.length:=by
   rcases BN (T.length - 1+(G.length - 1)) b.length with c | c
   ·exact c
   ·exfalso;rw [AZ c,Int.zero_sub] at u;exact np (Int.dvd_neg.mp u)
  have v:=w (b.length - 1);rw [one] at v;rcases BN (T.length - 1+(G.length - 1)) (b.length - 1) with c | c
  ·exfalso;rw [EG (n:=G.length) (λi N=>AZ N) T _ ⋯,Int.sub_zero] at v;exact F v
  ·omega
 have Z:=Sl hp M r pG w dn;have a1:=Sl hp W r pG w dm
 have j:∀ {R A:dD},Lz R->R.length<=n->(∀ k,co R k=cvL A (co G) k)->(∀ k,Bd e (co A k))->∃ m,Lz m/\m.length<=n/\co m=co A:=λ{R A} lR Rn h _=>by
  rcases Et A with z | ⟨m,I,_,ea⟩
  ·exact absurd (by rw [h,CB,Fi G z]) lR.2
  ·refine ⟨m,I,?_,funext ea⟩
   have t:co R (m.length - 1+(G.length - 1))≠0:=by
    rw [h,CB,BV (λk=>(ea k).symm) G,<-CB,IW I r];exact CO I.2 r.2
   rcases BN (m.length - 1+(G.length - 1)) R.length with c | c
   ·have:=I.1;omega
   ·exact absurd (AZ c) t
 obtain ⟨m,lA,An,eA⟩:=j J nn M X;obtain ⟨B',lB,Bn,eB⟩:=j lm mn W bB
 have an:2 ^ e<p:=B5 (CK ∅ (by
  have:(e+c+2)*1<=(e+c+2)*(2*(n - 1)):=CD _ ⋯;omega)) Y
 have T1:T.length=1:=by
  rcases BN T.length 2 with cT | cT
  ·omega
  ·exfalso
   have C:∀ {A:dD},Lz A->(∀ k,Bd e (co A k))->Dm (p:Int) (co T) (co A)->2<=A.length:=λ{A} lA X dA=>by
    have:=Dm.len hp t0 pT dA ⟨A.length - 1,λz=>by
     have u:=X (A.length - 1);have v:=Ct.mpr z;have h3:=Ee (by have:=lA.2;omega) v;rw [Ce] at h3;have:(co A (A.length - 1)).natAbs<2 ^ e:=u;omega⟩
    omega
   have a2:=C lA (λk=>by rw [eA];exact X k) (by rw [eA];exact Z);have b2:=C lB (λk=>by rw [eB];exact bB k) (by rw [eB];exact a1);refine cG hp lA lB (by rw [eA,eB];exact ac) (λk=>by rw [eA];exact X k) (λk=>by rw [eB];exact bB k) a2 b2 cT pT (by rw [eA];exact Z) (by rw [eB];exact a1) (zN (x:=m.length+B'.length) (c:=c) (n:=n) ?_ ⋯ Y);rw [CL];omega
 obtain ⟨s,rfl⟩:∃ s,T=[s]:=by
  match T,T1 with
  | [s],_=>exact ⟨s,rfl⟩
 have a3:∀ k,(p:Int)∣co b k - s*co G k:=λk=>by
  have:=w k
  have e1:cvL [s] (co G) k=s*co G k:=by
   cases k with
   | zero=>rw [A4];omega
   | succ k=>rw [Av,BF];omega
  rwa [e1] at this
 have lr:G.length=b.length:=by simp at tl;omega
 have a4:∀ {R A:dD},(∀ k,co R k=cvL A (co G) k)->Lz R->co G (G.length - 1)∣co R (R.length - 1):=λ{R A} h lR=>by
  rcases Et A with z | ⟨m,I,_,ea⟩
  ·exact absurd (by rw [h,CB,Fi G z]) lR.2
  ·have hh:∀ k,co R k=cvL m (co G) k:=λk=>by rw [h,CB,BV (λk=>(ea k).symm) G,<-CB]
   have tp:=IW I r;have a0:=I.1
   have rl:R.length - 1=m.length - 1+(G.length - 1):=by
    rcases Nat.lt_trichotomy (R.length - 1) (m.length - 1+(G.length - 1)) with c | c | c
    ·exfalso;have:=hh (m.length - 1+(G.length - 1));rw [AZ (by have:=lR.1;omega),tp] at this;exact CO I.2 r.2 this.symm
    ·exact c
    ·exfalso;have:=hh (R.length - 1);rw [EG (n:=G.length) (λi N=>AZ N) m _ ⋯] at this;exact lR.2 this
   rw [rl,hh,tp];exact Int.dvd_mul_left _ _
 obtain ⟨t,ht⟩:co G (G.length - 1)∣f:=by rw [<-L];exact Int.dvd_coe_gcd (a4 M J) (a4 W lm)
 have O:f≠0:=λz=>by
  rw [<-L] at z;have:Int.gcd (co o (o.length - 1)) (co D (D.length - 1))=0:=by omega
  exact J.2 (Int.gcd_eq_zero_iff.mp this).1
 have aj:t≠0:=λz=>O (by rw [ht,z,Int.mul_zero])
 have bt:t.natAbs<2 ^ d:=by
  have u:f∣co o (o.length - 1):=by rw [<-L];exact E5 ..
  have v:=CU (show t∣f from ⟨co G (G.length - 1),by rw [ht,Int.mul_comm]⟩) u;have h3:=Ee (by have:=J.2;omega) (Ct.mpr v);have h4:(co o (o.length - 1)).natAbs<2 ^ d:=Cc bn _;omega
 have al:∀ k,co gs k=t*co G k:=λk=>by
  rcases BN k b.length with ck | ck
  ·have u:=hg k ck;have v:=a3 k;have h3:=a3 (b.length - 1);rw [one,<-lr] at h3
   have dv:(p:Int)∣co gs k - t*co G k:=by
    have q1:(p:Int)∣f*(co b k - s*co G k):=GX v;have q2:(p:Int)∣(t*co G k)*(1 - s*co G (G.length - 1)):=GX h3;have:=Int.dvd_sub (DL u q1) q2;refine CU this (FR ?_);rw [ht];ext
   have b1:2*(co gs k).natAbs<=p:=by
    have:co gs k∈gs:=by
     unfold co;rw [AO,Ag ⋯];exact DM _
    exact hb _ this
   have b2:2*(t*co G k).natAbs<p:=by
    rw [Az];have h5:t.natAbs*(co G k).natAbs<=2 ^ d*2 ^ e:=Do (C9 bt) (C9 (bG k))
    have h6:2*(2 ^ d*2 ^ e)<=2 ^ ((e+c+2)*(2*(n - 1))):=by
     rw [<-Ck,show 2*2 ^ (d+e)=2 ^ (d+e+1) by rw [CL];omega];refine CK ∅ ?_;have:(e+c+2)*2<=(e+c+2)*(2*(n - 1)):=CD _ ⋯;omega
    omega
   obtain ⟨y,hy⟩:=dv;have ab:(co gs k - t*co G k).natAbs<p:=by omega
   rcases FZ y 0 with z | z | z
   ·have:(p:Int)*y<=(p:Int)*(-1):=E8 ⋯ ⋯;omega
   ·rw [z] at hy;omega
   ·have:(p:Int)*1<=(p:Int)*y:=E8 ⋯ ⋯;omega
  ·rw [AZ ⋯,AZ (a:=G) ⋯];omega
 have a5:∀ {R A:dD},(∀ k,co R k=cvL A (co G) k)->MQ (co gs) (co R):=λ{R A} h=>⟨t,aj,A,λk=>by rw [BV al,Dd,h k]⟩;exact ⟨a5 M,a5 W⟩
def Sm {g f:dD} {A:dD} (h:∀ k,co f k=cvL A (co g) k):MQ (co g) (co f):=⟨1,∅,A,λk=>by rw [<-h k];omega⟩
def zP (h:J0 K vs H Q E):Qg K { nx:=λ_ M=>Q .non M,rt:=Q } (L2.start ["row","other","prime","lead","found","guess"] vs) H:=by
 obtain ⟨a,b,m,q,p,d,N,F,rfl,ha,hb,O,bp,T,lm,bn,bm,dn,dm,ab,ac,nc,aj,kN,kR⟩:=h;have p2:(2:Int)<=(p:Int):=by have:=O.two;omega
 unfold Qg;have an:=GR T.1;have am:=GR lm.1;rwa [ha,hb,an,am];generalize I:((Int.gcd (co m (m.length - 1)) (co q (q.length - 1)):Nat):Int)=j;have al:j∣co m (m.length - 1):=by rw [<-I];exact E5 ..
 have bl:Bd d j:=(Cc bn (m.length - 1)).le (zH T.2 al);refine ⟨⋯,AV (λc=>?_) (λc=>?_)⟩
 ·refine kN (λv=>?_) _ (Same.refl H);have b3:j.natAbs<2 ^ d:=bl;have z:=Int.dvd_of_emod_eq_zero (show j % (p:Int)=0 by simpa using c)
  have l0:j≠0:=λz=>by
   rw [<-I] at z;have:Int.gcd (co m (m.length - 1)) (co q (q.length - 1))=0:=by omega
   exact T.2 (Int.gcd_eq_zero_iff.mp this).1
  have h3:=Ee ⋯ (Ct.mpr z);rw [Ce] at h3
  have:2 ^ d<=2 ^ ((d+N*(2*F+4)+F+2)*(2*(N - 1))):=by
   refine CK ∅ ?_;have:(d+N*(2*F+4)+F+2)*1<=(d+N*(2*F+4)+F+2)*(2*(N - 1)):=CD _ ⋯;omega
  have v:2 ^ ((d+N*(2*F+4)+F+2)*(2*(N - 1)))<p:=v;omega
 have pl:¬ (p:Int)∣j:=λz=>c (by rw [Int.emod_eq_zero_of_dvd z])
 have W:¬ (p:Int)∣co m (m.length - 1)\/¬ (p:Int)∣co q (q.length - 1):=by
  by_cases X:(p:Int)∣co m (m.length - 1)
  ·right;intro h2;exact pl (by rw [<-I];exact Int.dvd_coe_gcd X h2)
  ·exact .inl X
 refine ⟨m,q,p,rfl,rfl,rfl,O,bp,⋯,⋯,?_,λs J H1 s1 hs r0 rl one br hD ao ap=>?_⟩
 ·rcases W with h | h
  ·exact .inl ⟨_,h⟩
  ·exact .inr ⟨_,h⟩
 refine ⟨⟨_,SqL.of hs⟩,CompJ.lst (xs:=J.map V.int) (λi ys M=>i<=J.length/\M=H1/\∃ gs:dD,ys=gs.map V.int/\gs.length=i/\(∀ k,k<i->(p:Int)∣co gs k - j*co J k)/\∀ z∈gs,Bd 45000 z/\2*z.natAbs<=p) ⟨Aa _,rfl,[],rfl,rfl,λk hk=>absurd hk ⋯,λz P=>nomatch P⟩ ?_ ?_ ?_⟩
 ·rintro i ys M ⟨X,rfl,gs,rfl,Y,_⟩;exact ⟨by rw [AJ];exact X,sz (by rw [AJ];omega),SqL.of hs⟩
 ·rintro i x ys M Z ⟨X,rfl,gs,rfl,Y,hg,v⟩;rw [Ae] at Z;cases e:J[i]? with
  | none=>rw [e] at Z;cases Z
  | some n=>
    rw [e] at Z;obtain rfl:V.int n=x:=rG Z;have b4:i<J.length:=(CT.mp e).1;have b6:=br n (Bu e);have cn:co J i=n:=by unfold co;rw [AO,e];rfl
    rwa [];refine ⟨EH bl (bp.le (x:=(p:Int)) (y:=n) ⋯),⋯,λr ar R=>⟨⋯,gs++[r],by simp,by simp;omega,λk hk=>?_,λz P=>?_⟩⟩
    ·by_cases ek:k=i
     ·subst ek;have:co (gs++[r]) k=r:=by unfold co;rw [AO,<-Y];simp
      rw [this,cn];exact ar
     ·have:co (gs++[r]) k=co gs k:=by unfold co;rw [AO,AO,List.getElem?_append_left ⋯]
      rw [this];exact hg k ⋯
    ·rcases Bq.mp P with z1 | z1
     ·exact v z z1
     ·rw [Aq.mp z1];exact ⟨bp.le ⋯,by rw [Ce] at R;exact R⟩
 ·rintro ys M ⟨_,rfl,gs,rfl,Y,hg,v⟩ t ht;rw [AJ] at Y hg;have st:=AQ ht (.lst (gs.map V.int));have a0:upd M t (.lst (gs.map V.int)) t=_:=upd_same;generalize upd M t (.lst (gs.map V.int))=H2 at st a0 ⊢;have a1:0<gs.length:=by omega
  have w:co gs (gs.length - 1)≠0:=λz=>by
   have:=hg (gs.length - 1) ⋯;rw [z,show gs.length - 1=J.length - 1 by omega,one] at this;exact pl (by have t2:=Int.dvd_neg.mpr this;rw [show -(0 - j*1)=j by omega] at t2;exact t2)
  rwa [a0];refine ⟨gs,rfl,⋯,.inr w,λu o g H3 s3 hu g0 eg hp=>?_⟩
  have Pg:Prim o:=by
   rcases hp with h | h
   ·rw [h] at a1;simp at a1
   ·exact h
  have a2:o.length=gs.length:=by rw [eg,AJ]
  have S:Lz o:=Fl (MT (AU g0) (by rw [<-eg];exact .inr w)) (λz=>by rw [z] at a2;simp at a2;omega);have a3:∀ z∈o,Bd 45000 z:=MU g0 (by rw [<-eg];exact λz P=>(v z P).1);have B:Same H H3:=(s1.trans st).trans s3;have aw:=B _ _ ha;have ax:=B _ _ hb;obtain ⟨G,L⟩:=YR T (QI.left (co m) (co q));have mn:=L.mq _ m (AS _) (QI.left _ _);have mm:=L.mq _ q (AS _) (QI.right _ _)
  have C:¬ (p:Int)∣co G (G.length - 1):=by
   rcases W with h | h
   ·exact L.lead O T mn h
   ·exact L.lead O lm mm h
  have dG:=hD (co G) (L.dm O mn) (L.dm O mm)
  have a4:G.length<=J.length:=Dm.len O L.lz.1 C dG ⟨J.length - 1,by
   rw [one];intro z;have:=Int.le_of_dvd ∅ z;omega⟩
  have D:Pu d N F p->(∃ A:dD,∀ k,co m k=cvL A (co o) k)/\∃ A:dD,∀ k,co q k=cvL A (co o) k:=λb0=>by
   obtain ⟨q1,q2⟩:=zO O T lm bn bm ab ac nc aj rfl b0 I L r0 one a4 C dG ao ap Y hg (λz P=>(v z P).2);have sc:∀ k,co gs k=g*co o k:=λk=>by rw [eg,KG]
   have mg:MQ (co o) (co gs):=⟨1,∅,[g],λk=>by
    have e:cvL [g] (co o) k=g*co o k:=by
     cases k with
     | zero=>rw [A4];omega
     | succ k=>rw [Av,BF];omega
    rw [e,sc];omega⟩
   exact ⟨ad Pg (mg.trans q1),ad Pg (mg.trans q2)⟩
  rwa [aw,hu];refine ⟨m,rfl,o,rfl,S,d,bn,45000,a3,⋯,∅,⋯,⋯,λno=>kN (λv=>no (D v).1) |> λf H4 U=>f H4 (B.trans U),λr qs H4 U hr _ hq=>?_⟩;have b1:=U _ _ ax;have a5:=U _ _ hu;rwa [b1,a5];refine ⟨q,rfl,o,rfl,S,d,bm,45000,a3,⋯,∅,⋯,⋯,λno=>kN (λv=>no (D v).2) |> λf H5 s5=>f H5 ((B.trans U).trans s5),λr2 b8 H5 s5 R _ b2=>?_⟩;exact kR u o H5 ((B.trans U).trans s5) (s5 _ _ a5) (YU L.rc S (Sm hq) (Sm b2) ⋯) Pg
noncomputable def exps:List Nat:=[61,127,521,1279,4423,9941,21701,44497]
def zQ (K:W.Frag):Prop:=∀ H:Hp,SqT K H (GN K) (exps.map λe:Nat=>V.int (e:Int))
def zR:∀ e∈exps,Pr (mers e)/\e<=44497:=by
 intro e a;have h:e=61\/e=127\/e=521\/e=1279\/e=4423\/e=9941\/e=21701\/e=44497:=by simpa [exps] using a
 rcases h with h | h | h | h | h | h | h | h <;> rw [h]
 ·exact ⟨YI,∅⟩
 ·exact ⟨YJ,∅⟩
 ·exact ⟨YK,∅⟩
 ·exact ⟨YL,∅⟩
 ·exact ⟨YM,∅⟩
 ·exact ⟨YN,∅⟩
 ·exact ⟨YO,∅⟩
 ·exact ⟨YQ,∅⟩
def zS (e:Nat):(2:Int) ^ (e:Int).toNat - 1=((mers e:Nat):Int):=by
 unfold mers;have:=Nat.one_le_two_pow (n:=e);rw [Int.natCast_sub this,DB,Int.natCast_pow];rfl
def zT {e:Nat} (h:e<=44497):Bd 45000 ((mers e:Nat):Int):=by
 unfold Bd mers;rw [Ce];have a:=Nat.one_le_two_pow (n:=e);have b:=CK (n:=2) ∅ (show e<=45000 by omega);omega
def MV {b e one a j:dD} {g h:Int} (o:g≠0) (p:h≠0) (q:b=one.map (g*·)) (r:e=a.map (h*·)) (R:RC (co one) (co a) j):RC (co b) (co e) j:=by
 have m:∀ k,co b k=g*co one k:=λk=>by rw [q,KG]
 have n:∀ k,co e k=h*co a k:=λk=>by rw [r,KG]
 refine ⟨R.lz,?_,?_,?_⟩
 ·obtain ⟨c,f,A,i⟩:=R.left;exact ⟨c,f,A.map (g*·),λk=>by rw [BG,<-i k,m k];ext⟩
 ·obtain ⟨c,f,A,i⟩:=R.right;exact ⟨c,f,A.map (h*·),λk=>by rw [BG,<-i k,n k];ext⟩
 ·obtain ⟨d,u,U,W,v⟩:=R.qi;refine ⟨g*h*d,CO (CO o p) u,U.map (h*·),W.map (g*·),λk=>?_⟩;rw [BG,BG,BV m U k,BV n W k,Dd,Dd];have:=v k;ext
def zU {K:W.Frag} (hK:zQ K) {vs:dz} {H:Hp} {Q:VK} {E:XK} (h:IM K vs H Q E):Qh K { nx:=λ_ j=>Q .non j,rt:=Q } (L2.start ["row","other","one","two","exponent","found"] vs) H:=by
 obtain ⟨a,b,C,L,d,o,m,rfl,ha,hb,tn,tm,bn,bm,nN,mN,ap,a0,nc,sm,ao,k⟩:=h
 have d9:d<=44490:=by
  have:(d+o*(2*m+4)+m+2)*1<=(d+o*(2*m+4)+m+2)*(2*(o - 1)):=CD _ ⋯;omega
 unfold Qh;rwa [ha];refine ⟨C,rfl,⋯,tn,λD one g1 H1 s1 p f F p1=>?_⟩;have a3:=s1 _ _ hb;rwa [a3];refine ⟨L,rfl,⋯,tm,λM c g2 G s2 r g I p2=>?_⟩;have n:=s1.trans s2;have a4:=n _ _ ha;have a5:=n _ _ hb;have N:=s2 _ _ p;have l1:C.length=one.length:=by rw [F,AJ]
 have l2:L.length=c.length:=by rw [I,AJ]
 have t1:Tz one:=MT (AU f) (by rw [<-F];exact tn);have t2:Tz c:=MT (AU g) (by rw [<-I];exact tm);have b1:∀ z∈one,Bd d z:=MU f (by rw [<-F];exact bn);have b2:∀ z∈c,Bd d z:=MU g (by rw [<-I];exact bm);have O:one=[]↔C=[]:=by rw [<-CM,<-CM,l1]
 have J:c=[]↔L=[]:=by rw [<-CM,<-CM,l2]
 have P:(C=[]\/L=[])->∀ (U:Hp) (u v:dC),Same G U->(AX (B_ gL (bT (IL K) (AB (BT (AB (AA 2) AC)) (AB (BT (AB (AA 3) AC)) AC))) (aC 0))) { nx:=λ_ j=>Q .non j,rt:=Q } [some (.ref a),some (.ref b),some (.ref D),some (.ref M),u,v] U:=λem U u v q=>by
  have w:=q _ _ N;have A:=q _ _ r;rwa [];refine ⟨sz ∅,λx hx=>?_⟩;have sx:=AQ hx (.lst [.ref D]);refine ⟨sz ∅,λy hy=>?_⟩;have sy:=AQ hy (.lst [.ref M]);have ab:=sy _ _ (show upd U x (.lst [.ref D]) x=_ from upd_same);refine ⟨one,⟨[V.ref D],ab,⟨⟨D,rfl,sy _ _ (sx _ _ w)⟩,trivial⟩⟩,c,⟨[V.ref M],upd_same,⟨⟨M,rfl,sy _ _ (sx _ _ A)⟩,trivial⟩⟩,em.imp (λz=>O.mpr z) (λz=>J.mpr z),λt X R ac=>?_⟩;obtain ⟨ar,xr,ht,aj,_⟩:=ac.head;refine ⟨_,ht,_,HJ _ _,?_⟩;refine k ar _ X (n.trans (q.trans ((sx.trans sy).trans R))) aj (λal=>?_) λp r=>by rw [sZ (J.mpr r)];exact O.mpr p
  have z0:∀ {x:dD},x=[]->∀ k,co x k=0:=λe k=>by rw [e];exact AZ (Aa _)
  by_cases B:c=[]
  ·rw [sZ B]
   have Y:C≠[]:=by
    rcases al with h | h
    ·exact h
    ·exact absurd (J.mp B) h
   have am:Lz one:=Fl t1 λz=>Y (O.mp z);exact ⟨MV (AU f) (AU g) F I ⟨am,MQ.refl _,MQ.zero _ (z0 B),QI.left _ _⟩,p1.resolve_left Y⟩
  ·rw [sY B];have Y:one=[]:=O.mpr (em.resolve_right λz=>B (J.mpr z));exact ⟨MV (AU f) (AU g) F I ⟨Fl t2 B,MQ.zero _ (z0 Y),MQ.refl _,QI.right _ _⟩,p2.resolve_left λz=>B (J.mpr z)⟩
 have l0:=λem=>P em G none none (Same.refl G);simp only [AF,AM,AK,AB,AA,AC,AG,En,L2.start,BO,aA,As,tB,B_,a8,rI,tC,Q_,rU,BL,AX,A5,BT,Iu,C5,El,I_,Kg,Cv,bK,Fu,Io,Ip,Iq,au,aM,ED,BQ,BM,Ah,Hg,WZ,DH,Nv,Kr,ah,cM,aE,cN,BZ,gT,gL,gS,Gf,F7,Wa,Ks,Gg,BU,Kt,Wd,We,Wf,Wg,eqT,Wh,Wi,Wj,Wk,Ed,List.map_nil,C1,List.length_nil,List.replicate,List.cons_append,List.nil_append,List.append_nil,List.getElem?_cons_zero,List.getElem?_cons_succ,Option.some.injEq,exists_eq_left',exists_eq_left,V.int.injEq,V.bl.injEq,V.ref.injEq,V.ty.injEq,HO.tup.injEq,HO.lst.injEq,List.cons.injEq,and_true,true_and,and_assoc,exists_and_left,List.set_cons_zero,List.set_cons_succ,decide_eq_true_eq,decide_eq_false_iff_not,Bool.not_eq_true',Bool.true_eq_false,E6,Bool.not_true,Bool.not_false,if_true,if_false,ite_true,ite_false,Wp,Wq,DX,DY,Wl,Wm,Wn,Wr,Ws,Nat.zero_add,Nat.reduceAdd,Nat.reduceSub,upd_same,Int.cast_ofNat_Int,decide_true,decide_false,eq_self,not_true_eq_false,not_false_eq_true,Int.natCast_add,Int.natCast_zero,reduceCtorEq,Nm,Go,EB,Ga,Fb,bN,Gc,Fd,sL,sT,JK,XE,Gk,FG,XD,F6,Km,ES,Kk,Kl,aP,Hb,W4,W5,W6,W7,W9,XR,XQ,W8,XH,XI,K1,OD,K2,Hk,Kx,FH,Dv,Ky,Gp,C6,Option.bind_some,Option.bind_none,Option.bind,Option.join,id_eq,sS,Xa,Xe,Ev,Js,IH,G7,II,G8,IJ,Jt,IK,GO,IL,Ju,Jv,G9,HA,Jw,Jx,Jy,Jz,J0,IM,Fj,Y1,J4,J5,CH,Y0,J3,IO,J2,HC,IP,Pw,HB,IN,J1,FN] at l0;have an:C≠[]->L≠[]->Lz one/\Lz c:=λp r=>⟨Fl t1 λz=>p (O.mp z),Fl t2 λz=>r (J.mp z)⟩;refine ⟨_,a4,AV (λZ=>⟨_,a5,AV (λc2=>⟨⟨_,hK G⟩,?_⟩) (λc2=>l0 (.inr (by simpa using c2)))⟩) (λZ=>l0 (.inl (by simpa using Z)))⟩;obtain ⟨z1,z2⟩:=an (by simpa using Z) (by simpa using c2);refine NR (xs:=exps.map λe:Nat=>V.int (e:Int)) (λi σ j=>i<8/\∃ u v,σ=[some (.ref a),some (.ref b),some (.ref D),some (.ref M),u,v]/\Same G j) ⟨∅,none,none,rfl,Same.refl G⟩ (λi σ j _ _=>hK j) ?_ ?_
 ·rintro i x σ j S ⟨i8,u,v,rfl,q⟩;rw [Ae] at S;cases e:exps[i]? with
  | none=>rw [e] at S;cases S
  | some T=>
    rw [e] at S;obtain rfl:V.int (T:Int)=x:=rG S;obtain ⟨pe,pl⟩:=zR T (Bu e);have w:=q _ _ N;have A:=q _ _ r;rwa [w,A];refine ⟨⋯,2,by unfold Bd;decide,⋯,one,c,mers T,zS T,rfl,rfl,pe,zT pl,z1,z2,d,b1,b2,⋯,⋯,o,⋯,⋯,m,nc,a0,λnb X R=>⟨?_,q.trans R⟩,λt rs X R ht rc pr=>?_⟩
    ·rcases BN (i+1) 8 with c8 | c8
     ·exact c8
     ·exfalso;have i7:i=7:=by omega
      rw [i7] at e;obtain rfl:44497=T:=rG e;refine nb ?_;show 2 ^ ((d+o*(2*m+4)+m+2)*(2*(o - 1)))<mers 44497;have p:2 ^ ((d+o*(2*m+4)+m+2)*(2*(o - 1)))<=2 ^ 44490:=CK ∅ sm
      have r:2 ^ 44490<mers 44497:=by
       unfold mers;have e7:2 ^ 44497=2 ^ 44490*2 ^ 7:=by rw [<-Ck]
       rw [e7];have:1<=2 ^ 44490:=Nat.one_le_two_pow;omega
      omega
    exact k t rs X (n.trans (q.trans R)) ht (λ_=>⟨MV (AU f) (AU g) F I rc,pr⟩) λp _=>absurd p (by simpa using Z)
 ·rintro σ j ⟨i8,_⟩;exact absurd i8 (by simp [exps])
def D7 (l:dg):(Aj l).length=l.length:=by unfold Aj;rw [AJ]
def HK {l:dg} (hl:A7 l) (a:Nz l):Tz (Aj l):=by
 by_cases h:l=[]
 ·left;rw [h];rfl
 ·right;rw [D7];exact MF hl a (C3.mpr h)
def zV {l:dg} {M N:Int} (hl:A7 l) (f:Ov l M) (g:Ov l N) (h:M∣N) {b:Nat} (i:∀ z∈J_ l N,Bd b z):∀ z∈J_ l M,Bd b z:=λz j=>by
 obtain ⟨q,a,rfl⟩:=BD.mp j;refine (i (q.1*(N / q.2)) (BD.mpr ⟨q,a,rfl⟩)).le ?_;rw [Az,Az];refine CD _ ?_;have c:=(hl q a).pos;obtain ⟨x,d⟩:=f.2 q a;obtain ⟨y,e⟩:=h;have k:M / q.2=x:=by rw [d,GW _ (AU c)]
 have m:N / q.2=x*y:=by rw [e,d,Int.mul_assoc,GW _ (AU c)]
 rw [k,m,Az];refine GV _ ?_;rcases DS y.natAbs with z | z
 ·have n:y=0:=by omega
  have:=g.1;rw [e,n] at this;omega
 ·exact z
def Gq.clr {b c:Nat} {l:dg} (G:Gq b c l):(∀ z∈Aj l,Bd b z)/\Bd c (Ao l)/\(∀ q∈l,Bd b q.1):=by
 obtain ⟨M,a,bM,d⟩:=G.ov;have e:=On G.low a;exact ⟨zV G.low (Dc G.low) a e d,EF (AU a.1) e bM,MG G.low a d⟩
def KH (g:dD):(ai g).length=g.length:=by unfold ai;rw [AJ]
def zW {g:dD} (a:Lz g):A7 (ai g):=λq b=>by
 obtain ⟨z,_,rfl⟩:=BD.mp b;exact Db a.2
theorem Sn {g:dD} (a:Lz g) (k:Nat):E_ (ai g) k=(co g k:Rat) / (co g (g.length - 1):Rat):=by
 unfold E_ AW ai;rw [AO,Ae];unfold co;rw [AO (l:=g) (i:=k)];cases e:g[k]? with
 | none=>
   show val (0,1)=((0:Int):Rat) / _;unfold val;show ((0:Int):Rat) / _=_;rw [show ((0:Int):Rat)=0 from rfl,R_,R_]
 | some z=>exact FM a.2
def MW {g:dD} (a:Lz g):AW (ai g) (g.length - 1)=(1,1):=FK (FJ (zW a) _) ⟨∅,∅⟩ (by
 have h:=Sn a (g.length - 1);unfold E_ at h;rw [h];have:=Am a.2;have b:val (1,1)=1:=by unfold val;show ((1:Int):Rat) / ((1:Int):Rat)=1;ext
 rw [b];ext)
def zX {g:dD} (b:Lz g):Nz (ai g):=λq a=>by
 have h:=MW b;rw [Fp,KH] at a;unfold AW at h;rw [AO,a] at h;have c:q=(1,1):=h;rw [c];decide
def zY (h:J1 K vs H Q E):Q8 K { nx:=λ_ H'=>Q .non H',rt:=Q } (L2.start ["P","Q","row"] vs) H:=by
 obtain ⟨p,q,xs,ys,l,m,b,c,w,j,rfl,hp,k,hN,hM,f,g,lN,mN,A,B,C,sm,c9,hb,k0,k1⟩:=h
 have b9:b<=44490:=by
  have:(b+w*(2*j+4)+j+2)*1<=(b+w*(2*j+4)+j+2)*(2*(w - 1)):=CD _ ⋯;omega
 obtain ⟨D,a0,F⟩:=f.clr;obtain ⟨G,a1,I⟩:=g.clr;obtain ⟨M1,O1,J,_⟩:=f.ov;obtain ⟨M2,O2,L,_⟩:=g.ov;unfold Q8;rwa [hp];refine ⟨l,hN,f.low,M1,O1,J.mono ⋯,λq k=>(F q k).mono ⋯,⋯,λr a H1 M hr ha=>?_⟩;have N:=M _ _ k;rwa [hr,N];refine ⟨m,hM.tp (V_ M),g.low,M2,O2,L.mono ⋯,λq k=>(I q k).mono ⋯,⋯,λr2 a2 H2 X O S=>?_⟩;have T:=X _ _ ha;rwa [O,T,S];have x:Aj l=[]↔l=[]:=by rw [<-CM,<-CM,D7]
 have y:Aj m=[]↔m=[]:=by rw [<-CM,<-CM,D7]
 refine ⟨Aj l,rfl,Aj m,rfl,HK f.low f.nz,HK g.low g.nz,b,D,G,w,by rw [D7];exact lN,by rw [D7];exact mN,A,B,j,C,sm,λem=>by rw [D7,D7];exact hb (em.imp (λz=>x.mp z) (λz=>y.mp z)),λs d H3 s3 Y rc r0=>?_⟩;have o:=(M.trans X).trans s3;rwa [Y];by_cases u:l=[]/\m=[]
 ·have e:=r0 (x.mpr u.1) (y.mpr u.2);subst e;refine AV (λz=>absurd z (by simp)) (λ_=>?_);exact ⟨sz ∅,λt U=>k0 u.1 u.2 t [] _ (o.trans (AQ U _)) upd_same trivial⟩
 ·have i:l≠[]\/m≠[]:=by
   by_cases Z:l=[]
   ·exact .inr λh2=>u ⟨Z,h2⟩
   ·exact .inl Z
  obtain ⟨R,P⟩:=rc (i.imp (λh z=>h (x.mp z)) (λh z=>h (y.mp z)));have W:d≠[]:=C3.mp R.lz.1;refine AV (λ_=>?_) (λz=>absurd W (by simpa using z));have al:=GR R.lz.1
  have rl:d.length<=1000:=by
   rcases i with h | h
   ·have:=HG R.lz (Fl (HK f.low f.nz) λz=>h (x.mp z)) R.left;rw [D7] at this;omega
   ·have:=HG R.lz (Fl (HK g.low g.nz) λz=>h (y.mp z)) R.right;rw [D7] at this;omega
  rwa [Y,al];refine ⟨d,rfl,R.lz.2,rl,λt zs H4 s4 U v=>?_⟩;have e:K' (d.map λn=>AT n (co d (d.length - 1)))=ai d:=Xy (zX R.lz);rw [e] at v;exact k1 i d R P t zs H4 (o.trans s4) U v
def MR.short {g f:dP} {n:Nat} (b:g n≠0) (h:∀ i,n<i->g i=0) (m:MR g f) (c:∀ k,n<=k->f k=0) (k:Nat):f k=0:=by
 obtain ⟨A,a⟩:=m;rw [a k];exact Ji A (LS b h A λk hk=>by rw [<-a k];exact c k hk) k
def So {q:Nu} {n M:Int} (c:q.2≠0) (d:M≠0) (h:val q=(n:Rat) / (M:Rat)):Wo q n M:=by
 unfold Wo;unfold val at h;have a:=Am c;have b:=Am d;have e:(q.1:Rat)*(M:Rat)=(n:Rat)*(q.2:Rat):=by ext
 exact_mod_cast e
def Sq {q:Nu} {n M:Int} (hl:Low q.1 q.2) (h:Wo q n M):q.2∣M/\q.1*(M / q.2)=n:=by
 unfold Wo at h;have d:q.2∣M:=K9 hl ⟨n,by rw [h,Int.mul_comm]⟩;refine ⟨d,?_⟩;have a:=hl.pos
 have e:q.2*(q.1*(M / q.2))=q.2*n:=by
  have:=Int.mul_ediv_cancel' d
  calc q.2*(q.1*(M / q.2))=q.1*(q.2*(M / q.2)):=by ext
   _=q.1*M:=by rw [this]
   _=q.2*n:=by rw [h,Int.mul_comm]
 exact Fo (AU a) e
theorem Ss (f:dO):∀ (A:dD) (k:Nat),cvL (A.map λz:Int=>(z:Rat)) (λk=>(f k:Rat)) k=((cvL A f k:Int):Rat)
 | [],_=>rfl
 | x::A,0=>by rw [Ed,A4,A4];push_cast;ext
 | x::A,k+1=>by rw [Ed,Av,Av,Ss f A k];push_cast;ext
def zZ {f:dO} {G:dP} {a:Rat} (b:a≠0) (c:∀ k,G k=a*(f k:Rat)) (A:dD) (k:Nat):((cvL A f k:Int):Rat)=a⁻¹*cvL (A.map λz:Int=>(z:Rat)) G k:=by
 rw [BV c,Dd,Ss];ext
def MR.of {f g:dO} {F G:dP} {d a:Rat} (b:a≠0) (h:∀ k,F k=d*(f k:Rat)) (i:∀ k,G k=a*(g k:Rat)) (m:MQ g f):MR G F:=by
 obtain ⟨c,j,A,n⟩:=m;have o:=Am j;refine ⟨(A.map λz:Int=>(z:Rat)).map (d*(c:Rat)⁻¹*a⁻¹*·),λk=>?_⟩;have e:(c:Rat)*(f k:Rat)=((cvL A g k:Int):Rat):=by exact_mod_cast n k
 rw [BG,h k];rw [zZ b i] at e;ext
def yA {a:Int} (f:a≠0) {B:Nat} {d:dD} (h:∀ z∈d,Bd B z):Ov (d.map λn=>AT n a) (a.natAbs:Int)/\∀ z∈J_ (d.map λn=>AT n a) (a.natAbs:Int),Bd B z:=by
 have i:(0:Int)<(a.natAbs:Int):=by omega
 have c:∀ n∈d,(AT n a).2∣(a.natAbs:Int)/\Bd B ((AT n a).1*((a.natAbs:Int) / (AT n a).2)):=λn b=>by
  have j:=Db (n:=n) f;have v:=Am f
  have:∃ s:Int,val (AT n a)=(s:Rat) / (((a.natAbs:Int):Int):Rat)/\Bd B s:=by
   rw [FM f];rcases Int.natAbs_eq a with e | e
   ·exact ⟨n,by rw [<-e],h n b⟩
   ·refine ⟨-n,?_,(h n b).neg⟩;have k:(a.natAbs:Int) = -a:=by omega
    rw [k];push_cast;ext
  obtain ⟨s,m,o⟩:=this;obtain ⟨p,r⟩:=Sq j (So (AU j.pos) (AU i) m);exact ⟨p,by rw [r];exact o⟩
 refine ⟨⟨i,λq g=>?_⟩,λz u=>?_⟩
 ·obtain ⟨n,b,rfl⟩:=BD.mp g;exact (c n b).1
 ·obtain ⟨q,g,rfl⟩:=BD.mp u;obtain ⟨n,b,rfl⟩:=BD.mp g;exact (c n b).2
def MR.add {n F G L:dP} (a:MR n F) (b:MR n G) (h:∀ k,L k=F k+G k):MR n L:=by
 obtain ⟨A,c⟩:=a;obtain ⟨B,d⟩:=b;exact ⟨Ap A B,λk=>by rw [Bm,<-c k,<-d k,h k]⟩
def MR.smul {n F L:dP} (a:MR n F) (c:Rat) (h:∀ k,L k=c*F k):MR n L:=by
 obtain ⟨A,b⟩:=a;exact ⟨A.map (c*·),λk=>by rw [BG,<-b k,h k]⟩
def MR.sub {n F G L:dP} (a:MR n F) (b:MR n G) (h:∀ k,L k=F k - G k):MR n L:=
 a.add (b.smul (-1) (L:=λk=>-1*G k) λ_=>rfl) λk=>by rw [h k];ext
def yB {F:dP} {n:Nat} (h:∀ i,n<=i->F i=0) (k:Nat):F k=cvL ((List.range n).map F) Ad k:=by
 rw [Dx,AO,Ae];by_cases hk:k<n
 ·rw [Co hk];rfl
 ·rw [Ba (by rw [BI];omega),h k ⋯];rfl
def MR.len {g h:dD} (a:Lz g) (b:Lz h) (m:MR (E_ (ai g)) (E_ (ai h))):g.length<=h.length:=by
 rcases BN h.length g.length with y | y
 ·exfalso;have d:=a.1;have one:∀ {x:dD},Lz x->E_ (ai x) (x.length - 1)=1:=λ{x} c=>by unfold E_;rw [MW c];unfold val;show ((1:Int):Rat) / ((1:Int):Rat)=1;ext
  have z:=MR.short (n:=g.length - 1) (by rw [one a];decide) (λi e=>GB (by rw [KH];omega)) m (λk hk=>GB (by rw [KH];omega)) (h.length - 1);rw [one b] at z;exact absurd z ∅
 ·exact y
def yC (h:Lq K vs H Q E):Qm K { nx:=λ_ g=>Q .non g,rt:=Q } (L2.start ["one","other"] vs) H:=by
 obtain ⟨p,q,a,b,c,d,rfl,hp,i,e,f,j,m,n,o,k⟩:=h;unfold Qm;rwa [hp,i];exact ⟨Ew j n,Ew m o,AU (CN e f),λr u=>by rw [Zr (CN e f)];exact k r u⟩
def yD (l:dg) (k:Nat):cvL (rw' l) Ad k=E_ l k:=(yB (λi a=>GB a) k).symm
def yE (l:dg):sr l=Sr.L (rw' l):=Sr.ext' λk=>(yD l k).symm
def yF (a:dD) (f:Int):List.map V.int (a.map (f*·))=Ai a.length λk=>f*a.getD k 0:=by
 unfold Ai;congr 1;apply Eh;intro i;rw [Ae,Ae];by_cases h:i<a.length
 ·rw [Co h,Ag h];show _=some (f*a.getD i 0);rw [AO,Ag h];rfl
 ·rw [Ba ⋯,Ba (by rw [BI];omega)];rfl
def yG (m:Nat) (f:dO):Ai (m+1) f=Ai m f++[V.int (f m)]:=by
 unfold Ai;rw [List.range_succ,DC,DC];rfl
def Su (a:dD):a.map V.int=Ai a.length λk=>a.getD k 0:=by
 have h:=yF a 1
 have e:a.map (1*·)=a:=by
  have b:(λx:Int=>1*x)=id:=funext λx=>Dn x;rw [b,List.map_id]
 rw [e] at h;rw [h];exact Ex λi _=>by rw [Dn]
theorem Ez (p:dO):∀ (w:dD) (k:Nat),((cvL w p k:Int):Rat)=cvL (w.map λz:Int=>(z:Rat)) (λk=>(p k:Rat)) k
 | [],_=>rfl
 | x::w,0=>by rw [A4];show _=(x:Rat)*(p 0:Rat)+0;push_cast;rfl
 | x::w,k+1=>by rw [Av];show _=(x:Rat)*(p (k+1):Rat)+cvL (w.map λz:Int=>(z:Rat)) (λk=>(p k:Rat)) k;rw [<-Ez p w k];push_cast;rfl
def Dh (a:dD):si a=Sr.L (a.map λz:Int=>(z:Rat)):=Sr.ext' λk=>by
 show ((co a k:Int):Rat)=cvL _ Ad k;rw [Dx];unfold co;rw [AO,AO,Ae];cases a[k]? <;> rfl
def FS (a:dD):Sr.Pol (si a):=⟨_,Dh a⟩
def KI {a b c:dD} (h:∀ k,co a k=cvL b (co c) k):si a=si b*si c:=by
 rw [Dh b,Sr.L_mul];refine Sr.ext' λk=>?_;show ((co a k:Int):Rat)=cvL _ (λk=>((co c k:Int):Rat)) k;rw [h k,Ez]
def MX {a:dD} (h:Lz a):si a≠0:=λz=>h.2 (by
 have:=rJ (congrArg Sr.c z) (a.length - 1);rw [Sr.zero_c] at this;have this:((co a (a.length - 1):Int):Rat)=0:=this;exact_mod_cast this)
def KJ (a:dD):Sr.Bn (si a) a.length:=λk hk=>by
 show ((co a k:Int):Rat)=0;rw [AZ hk];rfl
def IZ (a:dD) (k:Nat):co (dI a) k=((k+1:Nat):Int)*co a (k+1):=by
 by_cases h:k<a.length - 1
 ·unfold dI;show ((List.range (a.length - 1)).map _).getD k 0=_;rw [AO,Ae,Co h];rfl
 ·rw [AZ (by unfold dI;rw [AJ,BI];omega),AZ (k:=k+1) ⋯,Int.mul_zero]
def Ia (a:dD):(dI a).length=a.length - 1:=by unfold dI;rw [AJ,BI]
def Sv (a:dD):si (dI a)=Sr.D (si a):=Sr.ext' λk=>by
 show ((co (dI a) k:Int):Rat)=((k:Rat)+1)*((co a (k+1):Int):Rat);rw [IZ];push_cast;rfl
def KK {g:Int} (a:dD):si (a.map (g*·))=Sr.num (g:Rat)*si a:=Sr.ext' λk=>by
 rw [Sr.num_mul];show ((co (a.map (g*·)) k:Int):Rat)=(g:Rat)*((co a k:Int):Rat)
 have e:co (a.map (g*·)) k=g*co a k:=by
  unfold co;rw [AO,AO,Ae];cases a[k]? with
  | none=>simp
  | some z=>rfl
 rw [e];push_cast;rfl
def RadOf.smul {F L:Sr} {x:Rat} (h:RadOf F L):RadOf (Sr.num x*F) L:=by
 obtain ⟨S,M,a,b,d,e,f,c⟩:=h;refine ⟨Sr.num x*S,M,(Sr.Pol.num x).mul a,b,d,by rw [e];ext,by rw [Sr.D_num,f];ext,c⟩
def yH {g f:dD} (m:MQ (co g) (co f)):∃ B,Sr.Pol B/\si f=B*si g:=by
 obtain ⟨c,a,A,h⟩:=m;have b:=Am a;refine ⟨Sr.num ((c:Rat)⁻¹)*si A,(Sr.Pol.num _).mul (FS A),?_⟩
 have e:Sr.num (c:Rat)*si f=si A*si g:=by
  rw [<-KK];refine KI λk=>?_;rw [<-h k];unfold co;rw [AO,AO,Ae];cases f[k]? with
  | none=>simp
  | some z=>rfl
 have i:=Sr.num_inv b;have:si f=Sr.num ((c:Rat)⁻¹)*Sr.num (c:Rat)*si f:=by rw [i];ext
 rw [this,show Sr.num ((c:Rat)⁻¹)*Sr.num (c:Rat)*si f=Sr.num ((c:Rat)⁻¹)*(Sr.num (c:Rat)*si f) by ext,e];ext
def yI {r o g:dD} (R:RC (co r) (co o) g) {A B:Sr} (a:Sr.Pol A) (b:Sr.Pol B) (c:si r=A*si g) (f:si o=B*si g):Sr.Cs A B:=by
 obtain ⟨d,i,U,W,h⟩:=R.qi
 have e:Sr.num (d:Rat)*si g=si U*si r+si W*si o:=by
  rw [Dh U,Dh W,Sr.L_mul,Sr.L_mul];refine Sr.ext' λk=>?_;rw [Sr.num_mul];show (d:Rat)*((co g k:Int):Rat)=cvL _ (λk=>((co r k:Int):Rat)) k+cvL _ (λk=>((co o k:Int):Rat)) k;rw [<-Ez,<-Ez];exact_mod_cast h k
 have j:Sr.num (d:Rat)=si U*A+si W*B:=Sr.cancel (Sr.Pol.num _) (((FS U).mul a).add ((FS W).mul b)) (FS g) (MX R.lz) (by rw [e,c,f];ext);exact Sr.Cs.of_unit (Am i) rfl (FS U) (FS W) j.symm
def yJ {a b c:dD} (R:RC (co a) (co (dI a)) b) (h:∀ k,co a k=cvL c (co b) k):RadOf (si a) (si c):=by
 obtain ⟨B,d,f⟩:=yH R.right;have e:=KI h;refine ⟨si b,B,FS b,FS c,d,by rw [e];ext,by rw [<-Sv,f];ext,yI R (FS c) d e f⟩
def yK {c a b:dD} (d:Lz c) (g:Lz b) (hl:a.length=c.length+1 - b.length) (h:∀ k,co c k=cvL a (co b) k):Lz a/\a.length+b.length=c.length+1:=by
 have e:=KI h;have o:=d.1;have i:=g.1
 have f:0<a.length:=by
  rcases DS a.length with z | z
  ·rw [CM.mp z] at e;exact absurd (by rw [e,Dh []];show Sr.L []*_=0;rw [Sr.L_nil];ext) (MX d)
  ·exact z
 refine ⟨⟨f,λz=>?_⟩,⋯⟩;have j:Sr.Bn (si a) (a.length - 1+1):=by rw [Nat.sub_add_cancel f];exact KJ a
 have m:Sr.Bn (si b) (b.length - 1+1):=by rw [Nat.sub_add_cancel i];exact KJ b
 have t:=(Sr.top_mul j m).1;rw [<-e,show a.length - 1+(b.length - 1)=c.length - 1 by omega] at t;have t:((co c (c.length - 1):Int):Rat)=((co a (a.length - 1):Int):Rat)*((co b (b.length - 1):Int):Rat):=t;rw [z] at t;have n:((co c (c.length - 1):Int):Rat)=0:=by rw [t];push_cast;ext
 exact d.2 (by exact_mod_cast n)
def DvI (a g:dD):Prop:=∃ A:dD,∀ k,co a k=cvL A (co g) k
def DvI.fac {c g q a:dD} (h:DvI c g) (e:∀ k,co g k=cvL q (co a) k):DvI c a/\DvI c q:=by
 obtain ⟨A,d⟩:=h;refine ⟨⟨BC A q,λk=>?_⟩,⟨BC A a,λk=>?_⟩⟩
 ·rw [d k,CG,BV e]
 ·have i:∀ k,co g k=cvL a (co q) k:=λk=>by
   have f:∀ (b:dD) (k:Nat),co b k=cvL b Ad k:=λb k=>by rw [Dx];rfl
   rw [e k,BV (f a),BV (f q),Gv]
  rw [d k,CG,BV i]
theorem DvI.self (a:dD):DvI a a:=⟨[1],λk=>by
 cases k with
 | zero=>rw [A4];ext
 | succ k=>rw [Av,BF];ext⟩
def DvI.len {a g:dD} (h:DvI a g) (b:Lz a) (c:Lz g):g.length<=a.length:=HG c b (by
 obtain ⟨A,d⟩:=h;exact ⟨1,∅,A,λk=>by rw [Dn];exact d k⟩)
def DvI.bd {a g:dD} (h:DvI a g) (b:Lz a) (d:∀ z∈a,Bd 40 z) (e:a.length<=9) (f:Lz g):∀ z∈g,Bd 148 z:=by
 have j:=h.len b f;obtain ⟨A,i⟩:=h;exact Si (ML (n:=9) (c:=4) d ⟨_,b.2⟩ e ⋯ ∅ i)
def MY {a:dD} (h:Lz a):Tz a:=.inr h.2
def yL {a:dD} (h:Lz a):Tz (dI a):=by
 by_cases c:2<=a.length
 ·refine MY ⟨by rw [Ia];omega,?_⟩;rw [Ia,IZ,show a.length - 1 - 1+1=a.length - 1 by omega];exact CO ⋯ h.2
 ·have e:dI a=[]:=CM.mp (by rw [Ia];omega);exact .inl e
def yM {a:dD} (h:∀ z∈a,Bd 40 z) (e:a.length<=9):∀ z∈dI a,Bd 148 z:=λz b=>by
 unfold dI at b;obtain ⟨k,hk,rfl⟩:=BD.mp b;have c:=Eb.mp hk
 have d:Bd 4 ((k+1:Nat):Int):=by
  show ((k+1:Nat):Int).natAbs<2 ^ 4;omega
 exact (d.mul (Cc h (k+1))).mono ∅
def yN (h:J4 K vs H Q E):P7 K { nx:=λ_ c=>Q .non c,rt:=Q } (L2.start ["row"] vs) H:=by
 obtain ⟨p,d,b,rfl,hp,q,bn,r,k⟩:=h;unfold P7;rwa [hp];rw [AJ];refine ⟨∅,∅,⋯,⋯,CompJ.range (λi f c=>i<=d.length - 1/\Same H c/\f=Ai i λk=>((k+1:Nat):Int)*co d (k+1)) ⟨Aa _,Same.refl H,rfl⟩ ?_ ?_ ?_⟩
 ·rintro i f c ⟨m,e,rfl⟩;exact ⟨⋯,sz (by rw [DK];omega)⟩
 ·rintro i f c u ⟨m,e,rfl⟩;have g:=e _ _ hp
  have n:O' (d.map V.int) (1+(i:Int))=some (V.int (co d (i+1))):=by
   refine DI (j:=i+1) ⋯ ?_;rw [Su];exact Cq _ ⋯
  rwa [g,n];refine ⟨FQ ⋯ ⋯,⋯,e,?_⟩;rw [yG i,show (1+(i:Int))=((i+1:Nat):Int) by omega];rfl
 ·rintro f c ⟨_,e,rfl⟩ a o;refine k a _ (e.trans (AQ o _)) ?_;rw [upd_same,show ((d.length:Int) - 1).toNat=d.length - 1 by omega];rfl
def yO {a c:dD} {g:Int} (i:0<g) (e:a=c.map (g*·)) (d:Lz a) (bn:∀ z∈a,Bd 40 z):Lz c/\(∀ z∈c,Bd 40 z)/\c.length=a.length:=by
 have l:c.length=a.length:=by rw [e,AJ]
 refine ⟨⟨by have:=d.1;omega,λz=>d.2 ?_⟩,λz f=>?_,l⟩
 ·have:=rJ (congrArg Sr.c (KK (g:=g) c)) (a.length - 1);rw [<-e,Sr.num_mul] at this;have this:((co a (a.length - 1):Int):Rat)=(g:Rat)*((co c (a.length - 1):Int):Rat):=this;rw [<-l,z] at this;have h:((co a (c.length - 1):Int):Rat)=0:=by rw [this];push_cast;ext
  rw [<-l];exact_mod_cast h
 ·have b:=bn (g*z) (by rw [e];exact BD.mpr ⟨z,f,rfl⟩);refine Bd.le b ?_;rw [Az];exact GU _ ⋯
def em9 {a b:dD} (c:a.length<=9) (d:b.length<=9) (h:a=[]\/b=[]):2*3 ^ (a.length+b.length)*(148+1)<=60000000:=by
 have:a.length+b.length<=9:=by rcases h with rfl | rfl <;> simp <;> omega
 have p:=CK (show 0<3 by decide) this;have:3 ^ 9=19683:=by decide
 omega
def yP {a c b:dD} (e:Lz a) (f:∀ z∈a,Bd 40 z) (g:a.length<=9) (R:RC (co a) (co (dI a)) c) (hl:b.length=a.length+1 - c.length) (h:∀ k,co a k=cvL b (co c) k):Lz b/\b.length+c.length=a.length+1/\b.length<=9/\(∀ z∈b,Bd 148 z)/\(∀ z∈c,Bd 148 z)/\DvI a b/\DvI a c/\RadOf (si a) (si b):=by
 obtain ⟨i,j⟩:=yK e R.lz hl h;have d:=(DvI.self a).fac h;have m:=R.lz.1;exact ⟨i,j,⋯,d.2.bd e f g i,d.1.bd e f g R.lz,d.2,d.1,yJ R h⟩
def yQ (a:dD):si (a.map λz=>-z)=Sr.num (-1)*si a:=by
 have e:(a.map λz=>-z)=a.map ((-1:Int)*·):=EL λz _=>by omega
 rw [e,KK];congr 1
def yR (h:J5 K vs H Q E):Qk K { nx:=λ_ j=>Q .non j,rt:=Q } (L2.start ["row","short","simple"] vs) H:=by
 obtain ⟨p,G,rfl,hp,I,bn,n9,k⟩:=h;unfold Qk;rwa [hp];refine ⟨G,rfl,⋯,MY I,λt f g H1 s1 T g0 U pr=>?_⟩;obtain ⟨m,n,ml⟩:=yO g0 U I bn;have o:f.length<=9:=by omega
 have ne:G≠[]:=C3.mp I.1;have J:f≠[]:=C3.mp m.1;have pm:Prim f:=pr.resolve_left ne;unfold Qj;rwa [T];refine ⟨f,rfl,⋯,40,n,∅,λa H2 W ha=>?_⟩;have q:=W _ _ T;rwa [q,ha];refine ⟨f,rfl,dI f,rfl,MY m,yL m,148,λz L=>(n z L).mono ∅,yM n o,9,o,by rw [Ia];omega,∅,∅,4,∅,∅,em9 o (by rw [Ia];omega),λb C H3 X hb rc _=>?_⟩;obtain ⟨R,Pr⟩:=rc (.inl J);have M:=X _ _ q;have dv:∃ A:dD,∀ k,co f k=cvL A (co C) k:=ad Pr R.left;have a0:C.length<=9:=by have:=HG R.lz m R.left;omega
 have N:∀ z∈C,Bd 148 z:=DvI.bd dv m n o R.lz;rwa [M,hb];refine ⟨f,rfl,C,rfl,R.lz,40,n,148,N,⋯,∅,⋯,⋯,λno=>absurd dv no,λr d O s4 D hl hq=>?_⟩;obtain ⟨u,le,Y,Z,_,_,_,P⟩:=yP m n o R hl hq;have S4:=((s1.trans W).trans X).trans s4;have al:=GR u.1;have v:RadOf (si G) (si d):=by rw [U,KK];exact P.smul
 unfold Qi;rwa [D,al];refine AV (λc=>?_) (λc=>?_)
 ·exact k r d O S4 D u Y Z ⟨1,si d,∅,v,by rw [Sr.num_one];ext⟩ ⋯
 ·refine ⟨⟨_,SqL.of D⟩,CompJ.lst (xs:=d.map V.int) (λi F j=>i<=d.length/\Same O j/\F=((d.map λz=>-z).take i).map V.int) ⟨Aa _,Same.refl O,rfl⟩ ?_ ?_ ?_⟩
  ·rintro i F j ⟨h1,w,rfl⟩;exact ⟨by rw [AJ];exact h1,sz (by rw [AJ,CJ];omega),SqL.of (w _ _ D)⟩
  ·rintro i x F j B ⟨h1,w,rfl⟩;rw [Ae] at B;cases e:d[i]? with
   | none=>rw [e] at B;cases B
   | some z=>
     rw [e] at B;obtain rfl:=rG B;have a1:i<d.length:=(CT.mp e).1;rwa [];refine ⟨⋯,w,?_⟩;rw [Eg,Ae,e,DC];rfl
  ·rintro F j ⟨_,w,rfl⟩ a5 S
   have e:(d.map λz=>-z).take (d.map V.int).length=d.map λz=>-z:=by
    rw [AJ];exact List.take_of_length_le (by rw [AJ];exact AS _)
   rw [e]
   have cn:∀ k,co (d.map λz=>-z) k = - co d k:=λk=>by
    unfold co;rw [AO,AO,Ae];cases d[k]? <;> simp
   refine k a5 (d.map λz=>-z) _ ((S4.trans w).trans (AQ S _)) upd_same ⟨by rw [AJ];exact u.1,?_⟩ (by rw [AJ];exact Y) ?_ ⟨-1,si d,∅,v,yQ d⟩ ?_
   ·rw [AJ,cn];have:=u.2;omega
   ·intro z L;obtain ⟨y,hy,rfl⟩:=BD.mp L;exact (Z y hy).neg
   ·rw [AJ,cn];have:=u.2;omega
def Sw {F L d:Sr} (o:F≠0) (h:RadOf F L) (h':RadOf F d):∃ q,Sr.Pol q/\d=q*L:=by
 obtain ⟨S,M,p,u,v,r,w,c⟩:=h;obtain ⟨e,f,g,i,j,k,m,C⟩:=h';have y:S≠0:=λz=>o (by rw [r,z];ext);have n:e≠0:=λz=>o (by rw [k,z];ext)
 have x:L*f=d*M:=by
  refine Sr.cancel (u.mul j) (i.mul v) (p.mul g) (Sr.ne_mul p g y n) ?_;have a:S*L=e*d:=r.symm.trans k;have b:S*M=e*f:=w.symm.trans m
  calc L*f*(S*e)=(S*L)*(e*f):=by ext
   _=(e*d)*(S*M):=by rw [a,b]
   _=d*M*(S*e):=by ext
 obtain ⟨U,W,A,B,h⟩:=c;refine ⟨U*d+W*f,(A.mul i).add (B.mul j),?_⟩;have:d=d*(U*L+W*M):=by rw [h];ext
 ext
def yS (f:dP) (n:Nat) (x:Rat) (d:Nat):W_ f n x (d+1)=f (n - 1 - d)+x*W_ f n x d:=rfl
theorem MZ {b:Nat} {c:Int} {R:dO} {n:Nat} (a:Bd 1000 c) (h:∀ j,Bd b (R j)):∀ d,Bd (b+1001*d) (sy c R n d)
 | 0=>h _
 | d+1=>by
   have e:=(a.mul (MZ (n:=n) a h d)).mono (show 1000+(b+1001*d)<=b+1001*d+1000 by omega);exact (((h (n - 1 - (d+1))).mono (show b<=b+1001*d+1000 by omega)).add e).mono ⋯
def yT {c:Int} {R:dO} {n p:Nat} (h:p+1<n):sy c R n (n - 1 - p)=R p+c*sy c R n (n - 1 - (p+1)):=by
 rw [show n - 1 - p=(n - 1 - (p+1))+1 by omega];show R (n - 1 - (n - 1 - (p+1)+1))+_=_;rw [show n - 1 - (n - 1 - (p+1)+1)=p by omega]
theorem KL {b m:Nat} {c:Int} {R:dO} {n:Nat} (a:Bd 1000 c) (h:∀ j,Bd b (R j)) (d:n<=m):∀ i j,Bd (b+1001*m*i) (X_ c R n i j)
 | 0,j=>h j
 | i+1,j=>by
   show Bd _ (rnd c (X_ c R n i) n i j);have e:1001*m*(i+1)=1001*m*i+1001*m:=by rw [Nat.mul_add,Nat.mul_one]
   unfold rnd;split
   ·exact (KL a h d i j).mono ⋯
   ·exact (MZ a (KL a h d i) _).mono ⋯
def yU (h:IP K vs H Q E):Q9 K { nx:=λ_ g=>Q .non g,rt:=Q } (L2.start ["P","c","row","value","scale","whole"] vs) H:=by
 obtain ⟨p,q,xs,l,a,b,bq,rfl,hp,z,O,G,P,lo,F,m,l9,k⟩:=h;have hl:=G.low;obtain ⟨R,S,T⟩:=G.clr;have A:=Dc hl;have B:Bd 8000 (Ao l):=S.mono ⋯;have o:(Aj l).length=l.length:=by unfold Aj;rw [AJ]
 have I:0<b:=lo.pos;unfold Q9;unfold Nm at z;rwa [hp];refine ⟨l,O,hl,Ao l,A,B.mono ∅,λq z=>(T q z).mono ⋯,⋯,λr c U J L M=>?_⟩;have u:=J _ _ z;rwa [L];refine ⟨_,SqL.of M,ForJ.rev (λi C g=>∃ (v:Int) (W:dC),C=[some (.ref p),some (.ref q),some (.ref r),some (.int v),some (.int (b ^ i)),W]/\g=U/\Bd (11000+2000*i) v/\(v:Rat)*b=((b ^ i:Int):Rat)*W_ (λj=>((Aj l).getD j 0:Rat)) l.length (val (a,b)) i) ⟨0,none,by rw [Int.pow_zero],rfl,DZ _,?_⟩ ?_ ?_ ?_⟩
 ·show ((0:Int):Rat)*b=_*0;push_cast;ext
 ·rintro i C g _ ⟨_,_,_,rfl,_⟩;exact SqL.of M
 ·rintro i x C g X D ⟨v,y,rfl,rfl,n,id⟩;rw [AJ,o] at X D;rw [Ae,Ag ⋯] at D;have Y:(Aj l).getD (l.length - 1 - i) 0=(Aj l)[l.length - 1 - i]'⋯:=by rw [AO,Ag ⋯];rfl
  obtain rfl:V.int _=x:=rG D;rw [<-Y];have N:Bd 8000 ((Aj l).getD (l.length - 1 - i) 0):=(Es R _).mono ⋯;have f:Bd 2001 (b ^ i):=(m.pow i).mono ⋯;rwa [u];refine ⟨Bw (n.mono (show _<=60000 by omega)) F,Bw N f,Bw f m,?_⟩;refine ⟨by rw [Int.pow_succ],?_,?_⟩
  ·exact (((n.mul F).mono (show _<=11100+2000*i by omega)).add ((N.mul f).mono ⋯)).mono ⋯
  ·rw [yS];have hb:=Am (AU I);have hv:val (a,b)=(a:Rat) / b:=rfl;rw [Int.pow_succ];push_cast at id ⊢;ext
 ·rintro C g ⟨v,y,rfl,rfl,n,id⟩;rw [AJ,o] at *;have f:Bd 2001 (b ^ l.length):=(m.pow l.length).mono ⋯;have d:0<b ^ l.length:=Int.pow_pos I;have w:=CN A.1 d;rwa [u,L];refine ⟨Bw (n.mono (show _<=60000 by omega)) m,Bw B f,AU w,λt Z=>?_⟩;refine k t _ (AT (v*b) (Ao l*b ^ l.length)) (J.trans (AQ Z _)) LQ (Db (AU w)) ((Hs (AU w) ((n.mul m).mono (show _<=60000 by omega)) (B.mul f)).1.mono ∅) ((Hs (AU w) ((n.mul m).mono (show _<=60000 by omega)) (B.mul f)).2.mono ∅) ?_;unfold cE;rw [FM (AU w)]
  have e:W_ (E_ l) l.length (val (a,b)) l.length=W_ (λj=>((Aj l).getD j 0:Rat)) l.length (val (a,b)) l.length / (Ao l:Rat):=by
   rw [<-Lp];exact Pm _ (AS _) λi _ _=>GC hl A i
  rw [e];have h1:=Am (AU A.1);have h2:=Am (AU d);push_cast at *;ext
def Pl.same {H c:Hp} {r:Addr} {L:dg} (h:Pl H r L) (s:Same H c):Pl c r L:=let ⟨d,a,b⟩:=h;⟨d,s _ _ a,b.tp (V_ s)⟩
def Ma {n:Nat} {z g:Int} (h:g∣z) (b:Bd n z):Bd n (z / g):=by
 by_cases a:z=0
 ·rw [a,Int.zero_ediv];exact DZ n
 ·exact EF a (Int.ediv_dvd_of_dvd h) b
def Sx {z g:Int} (a:g≠0) (h:g∣z):((z / g:Int):Rat)=(z:Rat) / (g:Rat):=by
 obtain ⟨y,rfl⟩:=h;rw [GW _ a];have:=Am a;push_cast;ext
def Sy {a b:dD} (c:Tz a) (n:Nat) (h:∀ k,n<=k->co a k=0):a.length<=n:=by
 rcases BN n a.length with z | z
 ·rcases c with e | e
  ·rw [e] at z;simp at z
  ·exact absurd (h _ ⋯) e
 ·exact z
def Sz {m:dg} (b:Nz m) (c:m≠[]):(AW m (m.length - 1)).1≠0:=by
 have a:m.length - 1<m.length:=by have:=C3.mpr c;omega
 have q:=b m[m.length - 1] (by rw [Fp];exact Ag a);have e:AW m (m.length - 1)=m[m.length - 1]:=by unfold AW;rw [AO,Ag a];rfl
 rw [e];exact q
def yV {m:dg} (c:A7 m) (d:Nz m) (e:m≠[]):E_ m (m.length - 1)≠0:=by
 have a:=Am (Sz d e);have b:=Am (AU (FJ c (m.length - 1)).pos);unfold E_ val;ext
def yW {l:dg} {M:Int} {B:Nat} (h:Ov l M) (b:∀ z∈J_ l M,Bd B z):Ov (K' l) M/\∀ z∈J_ (K' l) M,Bd B z:=by
 refine ⟨⟨h.1,λq a=>h.2 q (Hn a)⟩,λz c=>?_⟩;obtain ⟨q,a,rfl⟩:=BD.mp c;exact b _ (BD.mpr ⟨q,Hn a,rfl⟩)
theorem yX {F G:dP} {P:dP} (n:Nat) (h:∀ k,P k=cv F G n k):MR G P:=by
 refine ⟨(List.range n).map F,λk=>?_⟩;rw [h k];clear h
 induction n with
 | zero=>rfl
 | succ n a=>
   show cv F G n k+(if n<=k then F n*G (k - n) else 0)=_;rw [a,List.range_succ,DC,List.map_singleton,DQ,AJ,BI];unfold Ax;by_cases hk:n<=k
   ·rw [sZ hk,sZ hk]
   ·rw [sY hk,sY hk];ext
structure PS (l m:dg) (b c d e nq:Nat) (r:dD) (B:Int) (qs:dg):Prop where
 len:r.length<=l.length
 tz:Tz r
 B0:B≠0
 N:∃ N,0<N/\B∣N/\Bd (c+(nq - (r.length+1 - m.length))*d) N/\∀ q∈qs,q.2∣N
 low:A7 qs
 qb:∀ q∈qs,Bd (b+nq*(d+1)+e) q.1
 rb:∀ z∈r,Bd (b+(nq - (r.length+1 - m.length))*(d+1)) z
 ql:qs.length=nq
 zer:∀ j,j+m.length<=r.length->AW qs j=(0,1)
 idn:∀ k,E_ l k=cv (E_ qs) (E_ m) nq k+(co r k:Rat) / (B:Rat)
def S3 {a:dD} {g:Int} (k:Nat):co (a.map (·/ g)) k=co a k / g:=IY (F:=(·/ g)) (Int.zero_ediv g) a k
def S6 {a:dD} {g:Int} (h:∀ z∈a,g∣z) (k:Nat):g∣co a k:=SX h k
def PS.step {l m:dg} {b c d e u:Nat} {r:dD} {B:Int} {D:dg} (S:PS l m b c d e u r B D) (T:A7 m) (nm:Nz m) (m1:1<=m.length) (bC:∀ z∈Aj m,Bd d z) (bE:Bd e (Ao m)) (L:u=l.length+1 - m.length) (hr:m.length<=r.length)
  {o top I f w g:Int} (v:o=co (Aj m) (m.length - 1)) (J:top=co r (r.length - 1)) (U:0<I) (M:f*I=o) (hw:w*I=top) {A:dD} (t1:Tz A) (F:∀ k,co A k=f*co r k - w*Ax (r.length - m.length) (co (Aj m)) k) (W:0<g) (X:g∣B*f) (Y:∀ z∈A,g∣z) :
  PS l m b c d e u (A.map (·/ g)) (B*f / g) (D.set (r.length - m.length) (AT (top*Ao m) (B*o)))/\A.length<r.length:=by
 have G:o≠0:=by rw [v];exact MF T nm m1
 have cl:(Aj m).length=m.length:=D7 m;have O:f≠0:=λz=>G (by rw [<-M,z,Int.zero_mul])
 have Z:A.length<r.length:=by
  have:A.length<=r.length - 1:=Sy (b:=[]) t1 _ λk hk=>by
   rw [F k];unfold Ax;rw [sZ ⋯];by_cases ek:k=r.length - 1
   ·rw [ek,<-J,show r.length - 1 - (r.length - m.length)=m.length - 1 by omega,<-v,<-hw,<-M];ext
   ·rw [AZ (a:=r) ⋯,AZ (a:=Aj m) (k:=k - (r.length - m.length)) ⋯];omega
  omega
 have CP:(A.map (·/ g)).length=A.length:=AJ ..;obtain ⟨N,N0,NB,Nb,Nq⟩:=S.N;have a1:=S.len;have bl:Bd d o:=by rw [v];exact Cc bC _
 have bt:Bd (b+(u - (r.length+1 - m.length))*(d+1)) top:=by rw [J];exact Cc S.rb _
 have bf:Bd d f:=EF G ⟨I,by rw [M]⟩ bl
 have bw:Bd (b+(u - (r.length+1 - m.length))*(d+1)) w:=by
  by_cases z:top=0
  ·have w0:w=0:=by
    rcases Int.mul_eq_zero.mp (hw.trans z) with h | h
    ·exact h
    ·omega
   rw [w0];exact DZ _
  ·exact EF z ⟨I,by rw [hw]⟩ bt
 have P:r.length - m.length<u:=by omega
 have bne:B*o≠0:=CO S.B0 G;have R:=Db (n:=top*Ao m) bne;have p:∀ {q:Nu},q∈D.set (r.length - m.length) (AT (top*Ao m) (B*o))->q∈D\/q=AT (top*Ao m) (B*o):=λ{q} h=>List.mem_or_eq_of_mem_set h
 have C:∀ j,AW (D.set (r.length - m.length) (AT (top*Ao m) (B*o))) j=if j=r.length - m.length then AT (top*Ao m) (B*o) else AW D j:=λj=>by
  unfold AW;rw [AO,AO];by_cases e:j=r.length - m.length
  ·rw [sZ e,e,List.getElem?_set_self (by rw [S.ql];exact P)];rfl
  ·rw [sY e,List.getElem?_set_ne (λz=>e z.symm)]
 have grow:∀ x:Nat,(u - (r.length+1 - m.length))*x+x<=(u - (A.length+1 - m.length))*x:=λx=>by
  have:=CF x (show u - (r.length+1 - m.length)+1<=u - (A.length+1 - m.length) by omega);rw [DV,Nat.one_mul] at this;exact this
 refine ⟨⟨⋯,?_,?_,⟨N*(o.natAbs:Int),?_,?_,?_,?_⟩,?_,?_,?_,?_,?_,?_⟩,Z⟩
 ·rcases t1 with h | h
  ·left;rw [h];rfl
  ·right;rw [CP,S3];intro z;have:=Int.ediv_mul_cancel (S6 Y (A.length - 1));rw [z,Int.zero_mul] at this;exact h this.symm
 ·intro z;have d:=Int.ediv_mul_cancel X;rw [z,Int.zero_mul] at d;exact CO S.B0 O d.symm
 ·exact CN N0 ⋯
 ·refine CU (Int.ediv_dvd_of_dvd X) (Int.mul_dvd_mul NB ?_);exact Int.dvd_natAbs.mpr ⟨I,by rw [M]⟩
 ·have a0:Bd d (o.natAbs:Int):=bl.le (by rw [Ce];exact AS _);refine (Nb.mul a0).mono ?_;rw [CP];have:=grow d;omega
 ·intro q L;rcases p L with h | h
  ·exact CU (Nq q h) (Int.dvd_mul_right ..)
  ·rw [h];exact X7 bne (Int.mul_dvd_mul NB (Int.dvd_natAbs.mpr (Int.dvd_refl _)))
 ·intro q L;rcases p L with h | h
  ·exact S.low q h
  ·rw [h];exact R
 ·intro q L;rcases p L with h | h
  ·exact S.qb q h
  ·rw [h];refine (Hs bne (bt.mul bE) (Nat.lt_two_pow_self:Bd _ (B*o))).1.mono ?_;have:=CF (d+1) (show u - (r.length+1 - m.length)<=u by omega);omega
 ·intro z hz;obtain ⟨y,hy,rfl⟩:=BD.mp hz;refine Ma (Y y hy) ?_;refine Si (n:=b+(u - ((A.map (·/ g)).length+1 - m.length))*(d+1)) (λk=>?_) y hy;rw [F k,CP];have gw:=grow (d+1);refine Bd.mono (m:=(b+(u - (r.length+1 - m.length))*(d+1)+d)+1) (Bd.sub ((bf.mul (Cc S.rb k)).mono ⋯) ?_) ⋯;unfold Ax;split
  ·exact bw.mul (Cc bC _)
  ·rw [Int.mul_zero];exact DZ _
 ·rw [List.length_set];exact S.ql
 ·intro j hj;rw [CP] at hj;rw [C,sY ⋯];exact S.zer j ⋯
 ·intro k;have hB:=Am S.B0;have hL:=Am G;have hg:=Am (AU W);have hF:=Am O;have hE:=Am (AU (Dc T).1)
  have c1:=Og (f:=E_ D) (f':=E_ (D.set (r.length - m.length) (AT (top*Ao m) (B*o)))) (g:=E_ m) (s:=r.length - m.length) (x:=val (AT (top*Ao m) (B*o)))
   (by unfold E_;rw [S.zer _ ⋯];exact R_ _) (by unfold E_;rw [C,sZ rfl]) (λi hi=>by unfold E_;rw [C,sY hi]) u k
  have gd:g∣f*co r k - w*Ax (r.length - m.length) (co (Aj m)) k:=by rw [<-F k];exact S6 Y k
  rw [c1,S.idn k,S3,F k,Sx (AU W) gd,Sx (AU W) X,FM bne];have a2:(f:Rat)*I=o:=by exact_mod_cast M
  have a3:(w:Rat)*I=top:=by exact_mod_cast hw
  have hS:=Am (AU U);unfold Ax;by_cases hk:r.length - m.length<=k
  ·rw [sZ hk,sZ ⟨P,hk⟩,GC T (Dc T),<-LH];show _+(co r k:Rat) / _=_+_*((co (Aj m) (k - (r.length - m.length)):Rat) / _)+_;push_cast;generalize (co (Aj m) (k - (r.length - m.length)):Rat)=dk;generalize cv (E_ D) (E_ m) u k=c;generalize (co r k:Rat)=x;ext
  ·rw [sY hk,sY ⋯];push_cast;generalize cv (E_ D) (E_ m) u k=c;generalize (co r k:Rat)=x;ext
def yY (h:J2 K vs H Q E):Q7 K { nx:=λ_ H'=>Q .non H',rt:=Q } (L2.start ["P","Q","row","divisor","rest","bottom","lead","quotient","shift","shared","spare"] vs) H:=by
 obtain ⟨p,q,xs,ys,l,m,b0,c0,d0,e0,rfl,hp,x,hN,hM,GL,GM,m0,cn,m6,hc,hb,he,hd,k⟩:=h;obtain ⟨bi,bk,bl⟩:=GL.clr;obtain ⟨X,bm,bp⟩:=GM.clr;obtain ⟨M,hO,bM,cp⟩:=GL.ov;obtain ⟨M',cq,cs,_⟩:=GM.ov;have hl:=GL.low;have hm:=GM.low;have nm:=GM.nz;have m1:1<=m.length:=C3.mpr m0;have b9:b0<=900000:=by omega
 have c9:c0<=400000:=by omega
 have lx:=hN.length;have ly:=hM.length;have bq:∀ q∈m,Bd 60000000 q.1:=λq x=>(bp q x).mono ⋯;have bE:Bd e0 (Ao m):=bm;have OE:=Dc hm;have OL:=Dc hl;have bL:Bd c0 (Ao l):=bk;have cl:(Aj m).length=m.length:=by unfold Aj;rw [AJ]
 have br:(Aj l).length=l.length:=by unfold Aj;rw [AJ]
 unfold Q7;rwa [hp];refine ⟨l,hN,hl,M,hO,bM.mono ⋯,λq x=>(bl q x).mono ⋯,⋯,λra a H1 s1 Y L=>?_⟩;unfold Q6;have bs:=s1 _ _ x;rwa [bs];refine ⟨m,hM.tp (V_ s1),hm,Ao m,OE,bE.mono ⋯,bq,⋯,λrb b H2 s2 Z a0=>?_⟩;have Y:=s2 _ _ Y;have L:=s2 _ _ L;have a1:=s1.trans s2;have ar:=a1 _ _ hp;have a2:=a1 _ _ x;unfold Q5 Q4 Q3 Q2;rwa [Y,Z,a0,ar,a2]
 have F:∀ {r:dD},1<=r.length->O' (r.map V.int) (-1)=some (V.int (r.getD (r.length - 1) 0)):=λ{r} h=>by
  unfold O' av;rw [sY ∅,sZ (by rw [AJ];omega),AJ,show (-1+(r.length:Int)).toNat=r.length - 1 by omega];show (r.map V.int)[r.length - 1]?=_;rw [Ae,AO,Ag ⋯];rfl
 have el:=F (r:=Aj m) ⋯;rw [cl] at el;generalize y:(Aj m).getD (m.length - 1) 0=v at el;have a3:v≠0:=by rw [<-y];exact MF hm nm m1
 have aw:Bd d0 v:=by rw [<-y];exact Es X _
 refine ⟨_,el,sz ∅,λG bt=>⟨sz (by simp),λe2 bv=>?_⟩⟩;have ax:=AQ bt (.tup [.int 0,.int 1]);have a4:=AQ bv (.lst [.ref G]);have u:=ax.trans a4;refine ⟨_,u _ _ ar,_,u _ _ a2,?_⟩;have en:(if (0:Int) > (xs.length:Int) - (ys.length:Int)+1 then 0 else (xs.length:Int) - (ys.length:Int)+1)=((l.length+1 - m.length:Nat):Int):=by split <;> omega
 rw [en];refine ⟨⋯,⋯,sz ⋯,λw hw=>?_⟩;rw [DB,Ht];have sw:=AQ hw (.lst (List.replicate (l.length+1 - m.length) (V.ref G)));have u:=u.trans sw
 have w2:H2 w=none:=by
  cases e:H2 w with
  | none=>rfl
  | some o=>have z:=a4 _ _ (ax _ _ e);rw [hw] at z;cases z
 have b1:upd (upd (upd H2 G (.tup [.int 0,.int 1])) e2 (.lst [.ref G])) w (.lst (List.replicate (l.length+1 - m.length) (V.ref G))) w=some (HO.lst (List.replicate (l.length+1 - m.length) (V.ref G))):=upd_same;have N0:Nums _ (List.replicate (l.length+1 - m.length) (V.ref G)) (List.replicate (l.length+1 - m.length) (0,1)):=Nums.rep ⟨G,rfl,sw _ _ (a4 _ _ upd_same)⟩ _;generalize upd (upd (upd H2 G (.tup [.int 0,.int 1])) e2 (.lst [.ref G])) w (.lst (List.replicate (l.length+1 - m.length) (V.ref G)))=H3 at u b1 N0 ⊢
 have gz:∀ n j:Nat,AW (List.replicate n ((0,1):Nu)) j=(0,1):=λn j=>by
  unfold AW;rw [AO,FV];split <;> rfl
 unfold Q1;rwa []
 refine ET (λn σ H'=>∃ (c:Addr) (r:dD) (B:Int) (D:dz) (J:dg) (x8 x9 b2:dC),σ=[some (.ref p),some (.ref q),some (.ref ra),some (.ref rb),some (.ref c),some (.int B),some (.int v),some (.ref w),x8,x9,b2]/\Same H2 H'/\H' c=some (.lst (r.map V.int))/\c≠w/\H' w=some (.lst D)/\Nums H' D J/\PS l m b0 c0 d0 e0 (l.length+1 - m.length) r B J/\n=r.length) l.length
  ⟨a,Aj l,Ao l,_,_,none,none,none,rfl,u,u _ _ L,BA L w2,b1,N0,⟨⋯,HK hl GL.nz,AU OL.1,⟨Ao l,OL.1,Int.dvd_refl _,bL.mono ⋯,λq x=>?_⟩,λq x=>?_,λq x=>?_,λz hz=>?_,List.length_replicate ..,λj _=>gz _ j,λk=>?_⟩,br.symm⟩ ?_
 ·rw [(List.mem_replicate.mp x).2];exact Int.one_dvd _
 ·rw [(List.mem_replicate.mp x).2];exact Ho
 ·rw [(List.mem_replicate.mp x).2];exact DZ _
 ·exact (bi z hz).mono ⋯
 ·rw [Oh _ _ (λi _=>by unfold E_;rw [gz];exact R_ _),GC hl OL,LH];exact (Rat.zero_add _).symm
 rintro n σ H4 ⟨c,r,B,D,J,x8,x9,b2,rfl,s4,O,cw,a5,N4,S4,rfl⟩;have b3:=s4 _ _ a2;rwa [O,b3];refine AV (λcc=>?_) (λcc=>?_)
 ·have b4:m.length<=r.length:=by rw [AJ] at cc;omega
  refine ⟨_,λ_ _ h=>h,?_⟩;have es:((r.map V.int).length:Int) - (ys.length:Int)=((r.length - m.length:Nat):Int):=by rw [AJ];omega
  have lt:=F (r:=r) ⋯;generalize T:r.getD (r.length - 1) 0=top at lt;have b6:=s4 _ _ Z;have ce:=s4 _ _ a0;obtain ⟨N,P,NB,Nb,Nq⟩:=S4.N;have ab:Bd 400000 B:=(EF (AU P) NB Nb).mono (Bx (Nat.add_le_add_left (CF _ (Nat.sub_le _ _)) _) hc)
  have bw:b0+(l.length+1 - m.length - (r.length+1 - m.length))*(d0+1)<=900000:=by
   have:=CF (d0+1) (Nat.sub_le (l.length+1 - m.length) (r.length+1 - m.length));omega
  have U:Bd 900000 top:=by rw [<-T];exact (Es S4.rb _).mono bw
  have bx:∀ z∈r,Bd 60000000 z:=λz hz=>(S4.rb z hz).mono ⋯;unfold Qz Qy;rwa [O,b3,es,lt,b6];have bne:B*v≠0:=CO S4.B0 a3;refine ⟨EH U bE,EH ab aw,bne,λA bz=>?_⟩;have I:=AQ bz (.tup [.int (AT (top*Ao m) (B*v)).1,.int (AT (top*Ao m) (B*v)).2]);have ct:D.length=l.length+1 - m.length:=by rw [N4.length,S4.ql]
  have ch:=S4.len;refine ⟨D,I _ _ a5,r.length - m.length,Ey rfl ⋯,?_⟩;have hn:Nums _ (D.set (r.length - m.length) (V.ref A)) (J.set (r.length - m.length) (AT (top*Ao m) (B*v))):=(Nums.set ⟨A,rfl,upd_same⟩ (r.length - m.length) (N4.tp (V_ I))).tp (Tp.updL (ys:=D.set (r.length - m.length) (V.ref A)) (I _ _ a5));have s5:Same H2 (upd (upd H4 A (.tup [.int (AT (top*Ao m) (B*v)).1,.int (AT (top*Ao m) (B*v)).2])) w (.lst (D.set (r.length - m.length) (V.ref A)))):=λb o h=>Kp.upd b o (BA h w2) (I b o (s4 b o h));have R:upd (upd H4 A (.tup [.int (AT (top*Ao m) (B*v)).1,.int (AT (top*Ao m) (B*v)).2])) w (.lst (D.set (r.length - m.length) (V.ref A))) c=some (HO.lst (r.map V.int)):=by rw [Aw cw];exact I _ _ O
  have ac:upd (upd H4 A (.tup [.int (AT (top*Ao m) (B*v)).1,.int (AT (top*Ao m) (B*v)).2])) w (.lst (D.set (r.length - m.length) (V.ref A))) w=some (HO.lst (D.set (r.length - m.length) (V.ref A))):=upd_same;generalize upd (upd H4 A (.tup [.int (AT (top*Ao m) (B*v)).1,.int (AT (top*Ao m) (B*v)).2])) w (.lst (D.set (r.length - m.length) (V.ref A)))=H5 at hn s5 R ac ⊢;have b8:=s5 _ _ Z;have ba:=s5 _ _ a0;unfold Qx Qw;rwa [R,lt,b8];have C:(0:Int)<((Int.gcd top v:Nat):Int):=by have:=Int.gcd_pos_of_ne_zero_right top a3;omega
  have aj:((Int.gcd top v:Nat):Int)∣v:=EJ top v;have al:((Int.gcd top v:Nat):Int)∣top:=E5 top v;have hf:=Int.ediv_mul_cancel aj;have am:=Int.ediv_mul_cancel al;generalize ck:((Int.gcd top v:Nat):Int)=sh at C aj al hf am ⊢;have an:=Ma aj aw;have bb:=Ma al U;have ao:v.fdiv sh=v / sh:=EK v (DT C);have bc:top.fdiv sh=top / sh:=EK top (DT C);rw [ao,bc];generalize cx:v / sh=f at hf an ao ⊢;generalize top / sh=wt at am bb bc ⊢;refine ⟨AU C,AU C,?_⟩;refine ⟨r,Aj m,r.length - m.length,rfl,rfl,ba,⋯,⋯,an.mono ⋯,bb.mono ∅,bx,λz hz=>(X z hz).mono ⋯,λc1 S H6 s6 bd t6 e6=>?_⟩;have c3:f≠0:=λz=>a3 (by rw [<-hf,z,Int.zero_mul]);unfold Qv Qu
  have l6:S.length<=1000:=by
   have:S.length<=1000:=Sy (b:=[]) t6 1000 λk hk=>by
    rw [e6 k,AZ (a:=r) ⋯];unfold Ax;split
    ·rw [AZ (a:=Aj m) ⋯];omega
    ·omega
   exact this
  rwa [bd,ao];refine ⟨AU C,EH ab an,S,rfl,l6,λg H7 s7 gn gB gr _=>?_⟩
  have g0:0<g:=by
   rcases Int.lt_or_eq_of_le gn with z | z
   ·exact z
   ·exact absurd (Int.zero_dvd.mp (z ▸ gB)) (CO S4.B0 c3)
  have c4:=s7 _ _ bd;obtain ⟨S5,c5⟩:=S4.step hm nm m1 X bE rfl b4 y.symm T.symm C hf am t6 e6 g0 gB gr;have c8:(S.map (·/ g)).length=S.length:=AJ ..;unfold Qt Qs;rwa [c4];refine ⟨S,rfl,.inl g0,⋯,λc2 bf=>⟨g0,?_⟩⟩;have ca:=AQ bf (.lst ((S.map (·/ g)).map V.int));have bg:=s6.trans s7;have ap:=bg.trans ca;exact ⟨S.length,c5,s5.trans ap,S.map (·/ g),rfl,(BA (bg _ _ ac) bf).symm,_,ap _ _ ac,_,hn.tp (V_ ap),S5,c8.symm⟩
 ·have b4:r.length<m.length:=by rw [AJ] at cc;omega
  obtain ⟨N,P,NB,Nb,Nq⟩:=S4.N;have ab:Bd 400000 B:=(EF (AU P) NB Nb).mono (Bx (Nat.add_le_add_left (CF _ (Nat.sub_le _ _)) _) hc);have cm:=S4.ql;unfold Q0;rwa [a5];refine ⟨J,N4,⋯,λA z1 H5 s5 h5 n5=>?_⟩;have R:=s5 _ _ O;rwa [R];have cb:=S4.len;refine ⟨r,rfl,S4.B0,⋯,λt2 z2 H6 s6 h6 n6=>⟨sz (by simp),λt ht=>?_⟩⟩;have st:=AQ ht (.tup [.ref A,.ref t2]);have W:A7 (r.map λn=>AT n B):=λq x=>by obtain ⟨n,_,rfl⟩:=BD.mp x;exact Db S4.B0
  have cd:∀ k,E_ (r.map λn=>AT n B) k=(r.getD k 0:Rat) / (B:Rat):=λk=>by
   unfold E_ AW;rw [AO,AO,Ae];cases r[k]? with
   | none=>exact (R_ _).trans (R_ _).symm
   | some z=>exact FM S4.B0
  have Bo:=S4.rb;have r0:r.length+1 - m.length=0:=by omega
  rw [r0,Nat.sub_zero] at Bo Nb;have bB:Bd (c0+(l.length+1 - m.length)*d0) B:=EF (AU P) NB Nb;obtain ⟨RO,RB⟩:=yA S4.B0 Bo;obtain ⟨TO,TB⟩:=yW RO RB;refine k t A t2 _ (K' J) (K' (r.map λn=>AT n B)) ((((a1.trans s4).trans s5).trans s6).trans st) upd_same (Pl.same ⟨z1,h5,n5⟩ (s6.trans st)) (Pl.same ⟨z2,h6,n6⟩ st) (λq x=>S4.low q (Hn x)) (LC _) ?_ ⟨λq x=>W q (Hn x),LC _,_,TO,bB.le ⋯,TB⟩ ?_ λk=>?_
  ·have:=JT J;omega
  ·have:=JT (r.map λn=>AT n B);rw [AJ] at this;omega
  ·obtain ⟨d,hd⟩:∃ d,l.length+1 - m.length=(K' J).length+d:=⟨l.length+1 - m.length - (K' J).length,by have:=JT J;omega⟩;rw [LE W,cd,S4.idn k,Oj (λi=>(LE S4.low i).symm),hd,Oi (λi hi=>GB hi)];rfl
theorem S7 (F G:dP) (k:Nat):∀ n,cv F G n k=cvL ((List.range n).map F) G k
 | 0=>rfl
 | n+1=>by
   show cv F G n k+(if n<=k then F n*G (k - n) else 0)=_;rw [S7 F G k n,List.range_succ,DC,List.map_singleton,DQ,AJ,BI];unfold Ax;by_cases hk:n<=k
   ·rw [sZ hk,sZ hk]
   ·rw [sY hk,sY hk];ext
def S8 {T:dg} {b c:Nat} (g:A7 T) (m:Nz T) {M:Int} (j:0<M) (bM:Bd c M) {N:dO} (h:∀ k,E_ T k=(N k:Rat) / (M:Rat)) (n:∀ k,Bd b (N k)):Gq b c T:=by
 have f:∀ q∈T,∃ k,q.2∣M/\q.1*(M / q.2)=N k:=λq d=>by
  obtain ⟨i,o,rfl⟩:=FX d;have e:AW T i=T[i]:=by unfold AW;rw [AO,Ag o];rfl
  have hl:=g _ d;have v:=h i;unfold E_ at v;rw [e] at v;exact ⟨i,Sq hl (So (AU hl.pos) (AU j) v)⟩
 refine ⟨g,m,M,⟨j,λq d=>?_⟩,bM,λz p=>?_⟩
 ·obtain ⟨k,a,_⟩:=f q d;exact a
 ·obtain ⟨q,d,rfl⟩:=BD.mp p;obtain ⟨k,_,a⟩:=f q d;rw [a];exact n k
def yZ (h:J3 K vs H Q E):Qn K { nx:=λ_ e=>Q .non e,rt:=Q } (L2.start ["one","other"] vs) H:=by
 obtain ⟨p,q,a,b,c,d,rfl,hp,f,g,i,j,m,n,o,k⟩:=h;unfold Qn;rwa [hp,f];exact ⟨Ew j o,Ew m n,CO (AU g) i,k⟩
def xB (h:IO K vs H Q E):Qr K { nx:=λ_ d=>Q .non d,rt:=Q } (L2.start ["P","c"] vs) H:=by
 obtain ⟨p,c,m,l,a,b,rfl,hp,F,y,hl,G,I,J,L,ll,k⟩:=h;unfold Qr;rwa [hp];have M:=y.length;refine ⟨⟨_,SqT.of hp⟩,CompJ.tup (xs:=m) (λi g d=>i<=m.length/\Same H d/\Nums d g ((l.take i).map λq=>H_ q (a,b))) ⟨Aa _,Same.refl H,trivial⟩ ?_ ?_ ?_⟩
 ·rintro i g d ⟨A,e,f⟩;exact ⟨A,sz (by rw [f.length,AJ,CJ];omega),e _ _ hp⟩
 ·rintro i x g d B ⟨A,e,f⟩;obtain ⟨z,o,U,rfl,u⟩:=y.get B;have N:i<m.length:=(CT.mp B).1;have j:=e _ _ u;have v:=e _ _ F;have O:=hl z (Bu o);have C:=L z (Bu o);rwa [j,v];refine ⟨O.pos,G,C.1,C.2,I,J,λr n=>⟨⋯,e.trans (AQ n _),?_⟩⟩;rw [HF _ o];exact (f.tp (V_ (AQ n _))).append (Nums.one LQ)
 ·rintro g d ⟨_,e,f⟩ w hw;have D:=AQ hw (.lst g);rw [M,Cz] at f;rwa [];exact ⟨_,f.tp (V_ D),by rw [AJ];omega,λr P R S n T=>k r P R ((e.trans D).trans S) n T⟩
def xC (h:HC K vs H Q E):RF K { nx:=λ_ r=>Q .non r,rt:=Q } (L2.start ["P","Q"] vs) H:=by
 obtain ⟨p,q,S,T,l,m,b,c,d,e,rfl,hp,w,x,y,Gl,f,n,ll,z,A,B,C,D,F,k⟩:=h;unfold RF;rwa [hp,w];refine ⟨l,x,m,y,b,c,Gl,d,e,f,n,ll,z,A,B,C,D,λt u v G a g I J L hv M N O U W o=>?_⟩
 have R:∀ k,E_ g k=0:=by
  have j:MR (E_ m) (E_ g):=F.sub (yX (P:=λk=>cv (E_ a) (E_ m) a.length k) a.length (λk=>rfl)) λk=>by have:=o k;show E_ g k=E_ l k - cv (E_ a) (E_ m) a.length k;ext
  refine λk=>MR.short (yV f.low f.nz n) (λi X=>GB ⋯) j (λk hk=>GB ⋯) k
 rwa [J];exact k u a G I L M N O λk=>by rw [o k,R k];ext
def xD (l:dg) (g:dP) (k:Nat):cv (E_ l) g l.length k=cvL (rw' l) g k:=S7 _ _ k _
def aJ {n:Nat} {x:Int} (h:x.natAbs<2 ^ n):Bd n x:=h
def xE (h:J6 K vs H Q E):RE K { nx:=λ_ X=>Q .non X,rt:=Q } (L2.start ["P","Q","factor"] vs) H:=by
 obtain ⟨p,q,l,m,rfl,⟨xs,hp,Y⟩,⟨Z,c,C⟩,ll,M,nm,N,O,G,l9,m9,k⟩:=h;have p1:0<m.length:=C3.mpr N;obtain ⟨v,hv,pv,rfl,b⟩:=C.at (i:=m.length - 1) ⋯ (0,1);have I:O' Z (-1)=some (V.ref pv):=SY (by rw [C.length];exact p1) (by rw [C.length];exact hv);have P:Low (AW m (m.length - 1)).1 (AW m (m.length - 1)).2:=FJ M _;have o:=Sz nm N
 have mL:AW m (m.length - 1)∈m:=by
  unfold AW;rw [AO,Ag ⋯];exact DM _
 have x:=G _ mL;have b:H pv=some (HO.tup [V.int (AW m (m.length - 1)).1,V.int (AW m (m.length - 1)).2]):=b;generalize a0:AW m (m.length - 1)=r at b P o x k;unfold RE;rwa [];refine ⟨sz ∅,λw hw=>?_⟩;have D:=AQ hw (.tup [.int 1,.int 1]);have y:=D _ _ c;have d:=D _ _ b;have z:upd H w (.tup [.int 1,.int 1]) w=some (HO.tup [V.int 1,V.int 1]):=upd_same;generalize upd H w (.tup [.int 1,.int 1])=R at D y d z ⊢;refine ⟨_,y,_,I,_,rfl,?_⟩;rwa [d,z];have S:Bd 60000000 1:=(aJ (n:=1) ∅).mono ∅;refine ⟨∅,o,S,S,x.1.mono ∅,x.2.mono ∅,λf hf=>?_⟩;rw [Dn,Dn];have F:=Db (n:=r.2) o;have A:=Hs o x.2 x.1
 have T:val (AT r.2 r.1)*val r=1:=by
  have z1:=Am o;have z2:=Am (AU P.pos);rw [FM o];unfold val;ext
 generalize AT r.2 r.1=a at F A T ⊢;have U:=AQ hf (.tup [.int a.1,.int a.2]);have e:upd R f (.tup [.int a.1,.int a.2]) f=some (HO.tup [V.int a.1,V.int a.2]):=upd_same;generalize upd R f (.tup [.int a.1,.int a.2])=H4 at U e ⊢;have g:=D.trans U;have J:=g _ _ hp;rwa [J,e];refine ⟨l,Y.tp (V_ g),ll,F.pos,A.1.mono ∅,A.2.mono ∅,λq c=>⟨(O q c).1.mono ∅,(O q c).2.mono ∅⟩,⋯,λu us H6 W hu nu=>?_⟩;have j:=g.trans W;refine ⟨_,j _ _ c,m,a.1,a.2,W _ _ e,C.tp (V_ j),M,F.pos,A.1.mono ∅,A.2.mono ∅,λq c=>⟨(G q c).1.mono ∅,(G q c).2.mono ∅⟩,⋯,λv vs H7 L hv nv=>⟨sz ∅,λt ht=>?_⟩⟩;have B:=AQ ht (.tup [.ref u,.ref v]);exact k a F T t u v _ ((j.trans L).trans B) upd_same ⟨us,B _ _ (L _ _ hu),(nu.tp (V_ L)).tp (V_ B)⟩ ⟨vs,B _ _ hv,nv.tp (V_ B)⟩
def S9 (l:dg) (g:dP):(⟨cvL (rw' l) g⟩:Sr)=sr l*⟨g⟩:=by rw [yE,Sr.L_mul]
def TC {P A C:dg} (h:∀ k,E_ P k=cv (E_ A) (E_ C) A.length k):sr P=sr A*sr C:=by
 refine Eq.trans ?_ (S9 A (E_ C));exact Sr.ext' λk=>(h k).trans (xD _ _ _)
def xF {l m:dg} (a:A7 l) (b:A7 m) (c:Nz l) (d:Nz m) (h:sr l=sr m):l=m:=YA a b c d λk=>rJ (congrArg Sr.c h) k
noncomputable def lin (c:Int) (q:dD):dD:=Ap (q.map (c*·)) (0::q)
def xG {a b c:Int} (h:a∣b*c) (g:Int.gcd a c=1):a∣b:=by
 have d:Nat.Coprime a.natAbs c.natAbs:=g;refine Ct.mp (d.dvd_of_dvd_mul_right ?_);rw [<-Az];exact Ct.mpr h
noncomputable abbrev qR (l:dD):List Rat:=l.map λz:Int=>(z:Rat)
theorem ae {x:Rat} (h:x≠0):∀ n:Nat,x ^ n≠0
 | 0=>by rw [BJ];ext
 | n+1=>by rw [A3];exact λz=>(B6.mp z).elim (ae h n) h
def CS (l:dD):Sr.L (qR l)=si l:=(Dh l).symm
def xH {d g:dD} (k:si d≠0) (h:∃ (c:Rat) (L:Sr),c≠0/\RadOf (si d) L/\si g=Sr.num c*L) (x:Rat):Sr.ev (qR d) x=0↔Sr.ev (qR g) x=0:=by
 obtain ⟨c,L,o,⟨S,M,p,r,u,i,w,J⟩,A⟩:=h;obtain ⟨s,rfl⟩:=p;obtain ⟨l,rfl⟩:=r;have B:Sr.L s≠0:=λz=>k (by rw [i,z];ext);have en:Sr.L (qR d)=Sr.L (BC s l):=by rw [CS,Sr.L_mulRow];exact i
 have C:Sr.L (qR g)=Sr.L (l.map (c*·)):=by rw [CS,Sr.L_scal];exact A
 rw [Sr.ev_congr en,Sr.ev_congr C,Sr.ev_mul,Sr.ev_scal];constructor
 ·intro z;rcases B6.mp z with q | q
  ·have D:Sr.D (Sr.L s)*Sr.L l=(M - Sr.D (Sr.L l))*Sr.L s:=by
    rw [i,Sr.D_mul (Sr.Pol.L s)] at w;ext
   obtain ⟨m,a,⟨F,rfl⟩,G⟩:=Sr.rad_pow _ (Sr.L s) (Sr.L l) _ (Sr.L_bn s) B (Sr.Pol.L l) (Sr.Pol.sub u (Sr.Pol.D (Sr.Pol.L l))) D
   obtain ⟨f,b⟩:∃ f:Nat->List Rat,∀ n,Sr.L (f n)=Sr.L l ^ n/\Sr.ev (f n) x=Sr.ev l x ^ n:=by
    refine ⟨λn=>Nat.rec [1] (λ_ y=>BC y l) n,λn=>?_⟩
    induction n with
    | zero=>exact ⟨by show Sr.L [1]=_;rw [<-Sr.num_L,Sr.num_one];ext,by show (1:Rat)+x*0=_;rw [BJ];ext⟩
    | succ n j=>exact ⟨by show Sr.L (BC _ l)=_;rw [Sr.L_mulRow,j.1];ext,by show Sr.ev (BC _ l) x=_;rw [Sr.ev_mul,j.2,A3]⟩
   have e:Sr.L (f m)=Sr.L (BC F s):=by rw [(b m).1,Sr.L_mulRow];exact G
   have v:=Sr.ev_congr e x;rw [(b m).2,Sr.ev_mul,q] at v
   have I:Sr.ev l x=0:=by
    by_cases y:Sr.ev l x=0
    ·exact y
    ·exact absurd (show Sr.ev l x ^ m=0 by rw [v];ext) (ae y m)
   rw [I];ext
  ·rw [q];ext
 ·intro z;rw [(B6.mp z).resolve_left o];ext
def bV {A B:dD} {T b:Nat} (lA:Lz A) (lB:Lz B) (q:QI (co A) (co B) Ad) (hA:∀ k,Bd b (co A k)) (hB:∀ k,Bd b (co B k)) (n1:2<=A.length) (m1:2<=B.length) (R:0<T)
  (p:(2*((A.length+B.length)*2 ^ b)) ^ (A.length+B.length - 2)<T):∃ (U V:dD) (d:Int),d≠0/\d.natAbs<T/\(∀ k,cvL U (co A) k+cvL V (co B) k=co [d] k)/\(∀ k,(co U k).natAbs<T)/\(∀ k,(co V k).natAbs<T)/\U.length=B.length - 1/\V.length=A.length - 1:=by
 generalize hn:A.length - 1=n at *;generalize hm:B.length - 1=m at *;generalize hE:(A.length+B.length)*2 ^ b=E at *;have N1:A.length+B.length - 2=n+m:=by omega
 rw [N1] at p;have Y:∀ k,(co A k).natAbs<=2 ^ b:=λk=>C9 (hA k);have Z:∀ k,(co B k).natAbs<=2 ^ b:=λk=>C9 (hB k);have E0:0<E:=by rw [<-hE];exact Nat.mul_pos ⋯ (Bz ∅)
 obtain ⟨u,S⟩:∃ u:Nat->dD,∀ t,u t=(T_ T (m+n) t).take m:=⟨_,λ_=>rfl⟩;obtain ⟨v,hv⟩:∃ v:Nat->dD,∀ t,v t=(T_ T (m+n) t).drop m:=⟨_,λ_=>rfl⟩;obtain ⟨f,W⟩:∃ f:Nat->dO,∀ t k,f t k=cvL (u t) (co A) k+cvL (v t) (co B) k:=⟨_,λ_ _=>rfl⟩;have j:∀ t,(u t).length=m:=λt=>by rw [S,CJ,IS];omega
 have o:∀ t,(v t).length=n:=λt=>by rw [hv,List.length_drop,IS];omega
 have uz:∀ t,∀ z∈u t,0<=z/\z<(T:Int):=λt z r=>IT R _ t z (List.mem_of_mem_take (S t ▸ r));have vz:∀ t,∀ z∈v t,0<=z/\z<(T:Int):=λt z r=>IT R _ t z (List.mem_of_mem_drop (hv t ▸ r))
 have fb:∀ t k,(f t k).natAbs<E*T:=λt k=>by
  have w:=IU (q:=T - 1) Y (u t) (λz r=>by have:=uz t z r;omega) k;have y:=IU (q:=T - 1) Z (v t) (λz r=>by have:=vz t z r;omega) k;rw [j] at w;rw [o] at y
  have h3:(f t k).natAbs<=(m+n)*((T - 1)*2 ^ b):=by
   rw [DV,W];omega
  refine B5 h3 ?_;rw [<-hE];have e:(m+n)*((T - 1)*2 ^ b)=((m+n)*2 ^ b)*(T - 1):=by rw [Cy (T - 1),Nat.mul_assoc]
  rw [e];exact B8 (Nat.mul_lt_mul_of_pos_left ⋯ (Nat.mul_pos ⋯ (Bz ∅))) (CF T (CF _ ⋯))
 obtain ⟨X,C⟩:∃ X:Nat->Nat,∀ t,X t=(f t 0 / (T:Int)+(E:Int)).toNat:=⟨_,λ_=>rfl⟩;obtain ⟨L,D⟩:∃ L:Nat->Nat->Nat,∀ t k,L t k=(f t (k+1)+((E*T:Nat):Int)).toNat:=⟨_,λ_ _=>rfl⟩
 have F:∀ t,0<=f t 0 / (T:Int)+(E:Int)/\f t 0 / (T:Int)+(E:Int)<2*(E:Int):=λt=>by
  have h:=fb t 0
  have w:-((E:Int)*(T:Int))<=f t 0:=by have:((E*T:Nat):Int)=(E:Int)*(T:Int):=by push_cast;rfl
                                       omega
  have y:f t 0<(E:Int)*(T:Int):=by have:((E*T:Nat):Int)=(E:Int)*(T:Int):=by push_cast;rfl
                                   omega
  have q1:-(E:Int)<=f t 0 / (T:Int):=by
   refine (Int.le_ediv_iff_mul_le ⋯).mpr ?_;rw [D8];exact w
  have q2:f t 0 / (T:Int)<(E:Int):=Int.ediv_lt_of_lt_mul ⋯ y;omega
 have G:∀ t k,0<=f t (k+1)+((E*T:Nat):Int)/\f t (k+1)+((E*T:Nat):Int)<2*((E*T:Nat):Int):=λt k=>by
  have h:=fb t (k+1);omega
 have I:∀ t,X t<2*E:=λt=>by have:=F t;rw [C];omega
 have J:∀ t k,L t k<2*(E*T):=λt k=>by have:=G t k;rw [D];omega
 have cl:∀ t,X t+2*E*b7 (2*(E*T)) (m+n - 1) (L t)<2*E*(2*(E*T)) ^ (m+n - 1):=λt=>by
  have w:=MH (M:=2*(E*T)) (m+n - 1) (L t) (λk _=>J t k);have y:2*E*(b7 (2*(E*T)) (m+n - 1) (L t)+1)<=2*E*(2*(E*T)) ^ (m+n - 1):=CD _ w;have h3:=I t;rw [Nat.mul_add,Nat.mul_one] at y;omega
 have P:2*E*(2*(E*T)) ^ (m+n - 1)<T ^ (m+n):=by
  obtain ⟨N,hN⟩:∃ N,m+n=N+1:=⟨m+n - 1,⋯⟩;rw [hN,Nat.add_sub_cancel];rw [Nat.add_comm n m,hN] at p
  have e:2*E*(2*(E*T)) ^ N=(2*E) ^ (N+1)*T ^ N:=by
   rw [<-Nat.mul_assoc 2 E T,Nat.mul_pow (2*E) T N,CL,Cy ((2*E) ^ N) (2*E),Nat.mul_assoc (2*E)]
  rw [e,CL T,Cy (T ^ N) T];exact Nat.mul_lt_mul_of_pos_right p (Bz R)
 obtain ⟨s,t,st,ht,e⟩:=php _ _ _ (λi _=>cl i) P;obtain ⟨q0,q1⟩:=MI (I s) (I t) e;have qk:=MJ (m+n - 1) _ _ (λk _=>J s k) (λk _=>J t k) q1;have w0:∀ k,(co (u s) k - co (u t) k)=co (Ap (u s) ((u t).map ((-1)*·))) k:=λk=>by rw [CA,CA,CA,Bm,BG];omega
 have df:∀ k,f s k - f t k=cvL (Ap (u s) ((u t).map ((-1)*·))) (co A) k+cvL (Ap (v s) ((v t).map ((-1)*·))) (co B) k:=λk=>by
  rw [Bm,Bm,BG,BG,W,W];omega
 have O:∀ k,0<k->f s k - f t k=0:=λk hk=>by
  rcases BN k (m+n) with c | c
  ·have:=qk (k - 1) ⋯;have r1:=G s (k - 1);have r2:=G t (k - 1);rw [D,D,show k - 1+1=k by omega] at this;rw [show k - 1+1=k by omega] at r1 r2;omega
  ·have z:∀ t,f t k=0:=λt=>by
    rw [W,EG (n:=A.length) (λi O=>AZ O) (u t) k (by rw [j];omega),EG (n:=B.length) (λi O=>AZ O) (v t) k (by rw [o];omega)];rfl
   rw [z,z];rfl
 have d0:(f s 0 - f t 0).natAbs<T:=by
  have r1:=F s;have r2:=F t;rw [C,C] at q0;have q0:f s 0 / (T:Int)=f t 0 / (T:Int):=by omega
  have m1:=FY (f s 0) T;have m2:=FY (f t 0) T;have b1:=Ca (f s 0) (show (T:Int)≠0 by omega);have b2:=Cm (f s 0) (show (0:Int)<T by omega);have b3:=Ca (f t 0) (show (T:Int)≠0 by omega);have b4:=Cm (f t 0) (show (0:Int)<T by omega);rw [q0] at m1;omega
 refine ⟨Ap (u s) ((u t).map ((-1)*·)),Ap (v s) ((v t).map ((-1)*·)),f s 0 - f t 0,λz0=>?_,d0,λk=>?_,λk=>?_,λk=>?_,by rw [IV,AJ,j,j];omega,by rw [IV,AJ,o,o];omega⟩
 ·have all:∀ k,cvL (Ap (u s) ((u t).map ((-1)*·))) (co A) k+cvL (Ap (v s) ((v t).map ((-1)*·))) (co B) k=0:=λk=>by
   rw [<-df];cases k with
   | zero=>exact z0
   | succ k=>exact O (k+1) ⋯
  have ll:∀ {a c:dD} {x:Nat},a.length=x->c.length=x->(Ap a (c.map ((-1)*·))).length=x:=λ{a c x} w y=>by
   rw [IV,AJ,w,y];omega
  obtain ⟨c1,c2⟩:=SZ lA lB q (by rw [ll (j s) (j t)];omega) (by rw [ll (o s) (o t)];omega) all;have eu:u s=u t:=KE (by rw [j,j]) λk=>by have:=c1 k;rw [<-w0] at this;omega
  have ev:v s=v t:=KE (by rw [o,o]) λk=>by
   have:=c2 k;rw [CA,Bm,BG,<-CA,<-CA] at this;omega
  have:T_ T (m+n) s=T_ T (m+n) t:=by
   rw [<-List.take_append_drop m (T_ T (m+n) s),<-List.take_append_drop m (T_ T (m+n) t)];rw [<-S,<-hv,<-S,<-hv,eu,ev]
  have:=MK R _ _ _ ⋯ ⋯ this;omega
 ·rw [<-df];cases k with
  | zero=>rfl
  | succ k=>rw [O (k+1) ⋯];exact (AZ (by simp)).symm
 ·rw [<-w0]
  have g:∀ t,0<=co (u t) k/\co (u t) k<(T:Int):=λt=>by
   by_cases hk:k<(u t).length
   ·have e:co (u t) k=(u t)[k]:=by unfold co;rw [AO,Ag hk];rfl
    rw [e];exact uz t _ (DM hk)
   ·rw [AZ ⋯];omega
  have:=g s;have:=g t;omega
 ·have w1:(co (v s) k - co (v t) k)=co (Ap (v s) ((v t).map ((-1)*·))) k:=by rw [CA,CA,CA,Bm,BG];omega
  rw [<-w1]
  have g:∀ t,0<=co (v t) k/\co (v t) k<(T:Int):=λt=>by
   by_cases hk:k<(v t).length
   ·have e:co (v t) k=(v t)[k]:=by unfold co;rw [AO,Ag hk];rfl
    rw [e];exact vz t _ (DM hk)
   ·rw [AZ ⋯];omega
  have:=g s;have:=g t;omega
theorem Mb:∀ A:List Rat,∃ (N:Int) (Z:dD),N≠0/\A.map ((N:Rat)*·)=Z.map λz:Int=>(z:Rat)
 | []=>⟨1,[],∅,rfl⟩
 | a::A=>by
   obtain ⟨N,Z,b,h⟩:=Mb A;refine ⟨(a.den:Int)*N,(a.num*N)::Z.map ((a.den:Int)*·),CO (by have:=a.den_nz;omega) b,?_⟩;rw [Ed,Ed];congr 1
   ·have h:=Rat.num_divInt_den a;rw [Rat.divInt_eq_div] at h;have d:((a.den:Int):Rat)≠0:=by have:=a.den_nz;exact_mod_cast this
    have e:((a.den:Int):Rat)=(a.den:Rat):=by push_cast;rfl
    push_cast;ext
   ·rw [List.map_map]
    have e:A.map (λx=>(((a.den:Int)*N:Int):Rat)*x)=(A.map ((N:Rat)*·)).map ((a.den:Rat)*·):=by
     rw [List.map_map];refine EL λx _=>?_;show _=(a.den:Rat)*((N:Rat)*x);push_cast;ext
    rw [e,h,List.map_map];refine EL λz _=>?_;show (a.den:Rat)*(z:Rat)=(((a.den:Int)*z:Int):Rat);push_cast;rfl
def xJ {a:dD} (c:Sr.Cs (si a) (si (dI a))):QI (co a) (co (dI a)) Ad:=by
 obtain ⟨U,W,⟨u,rfl⟩,⟨w,rfl⟩,e⟩:=c;obtain ⟨N,Z,f,g⟩:=Mb u;obtain ⟨M,Y,h,i⟩:=Mb w;refine ⟨N*M,CO f h,Z.map (M*·),Y.map (N*·),λk=>?_⟩;rw [BG,BG];have j:Sr.num (N:Rat)*Sr.L u=si Z:=by rw [<-Sr.L_scal,g,Dh]
 have m:Sr.num (M:Rat)*Sr.L w=si Y:=by rw [<-Sr.L_scal,i,Dh]
 have n:Sr.num (M:Rat)*(si Z*si a)+Sr.num (N:Rat)*(si Y*si (dI a))=Sr.num ((N:Rat)*M):=by
  rw [<-j,<-m];have:Sr.num (N:Rat)*Sr.num (M:Rat)=Sr.num ((N:Rat)*M):=Sr.num_num _ _;rw [<-this];have q:Sr.num (M:Rat)*(Sr.num (N:Rat)*Sr.L u*si a)+Sr.num (N:Rat)*(Sr.num (M:Rat)*Sr.L w*si (dI a))=Sr.num (N:Rat)*Sr.num (M:Rat)*(Sr.L u*si a+Sr.L w*si (dI a)):=by ext
  rw [q,e];ext
 have b:=rJ (congrArg Sr.c n) k;rw [Dh Z,Dh Y,Sr.L_mul,Sr.L_mul] at b;have b:(Sr.num (M:Rat)*(⟨cvL (Z.map λz:Int=>(z:Rat)) (si a).c⟩:Sr)).c k+(Sr.num (N:Rat)*(⟨cvL (Y.map λz:Int=>(z:Rat)) (si (dI a)).c⟩:Sr)).c k=(Sr.num ((N:Rat)*M)).c k:=b;rw [Sr.num_mul,Sr.num_mul] at b
 have d:(M:Rat)*((cvL Z (co a) k:Int):Rat)+(N:Rat)*((cvL Y (co (dI a)) k:Int):Rat)=((N:Rat)*M)*Ad k:=by
  rw [Ez,Ez];exact b
 have o:((Ad k:Int):Rat)=Ad k:=by cases k <;> rfl
 rw [<-o] at d;exact_mod_cast d.symm
def xK {b a:dD} (g:si b≠0) (h:∃ (c:Rat) (L:Sr),c≠0/\RadOf (si b) L/\si a=Sr.num c*L):QI (co a) (co (dI a)) Ad:=by
 obtain ⟨c,L,j,⟨S,M,k,m,n,o,p,r⟩,f⟩:=h;obtain ⟨U,W,u,v,e⟩:=Sr.simple_cop k m n g o p r;refine xJ ⟨Sr.num c⁻¹*U,Sr.num c⁻¹*W,(Sr.Pol.num _).mul u,(Sr.Pol.num _).mul v,?_⟩;have i:=Sr.num_inv j;have d:si (dI a)=Sr.num c*Sr.D L:=by rw [<-Sr.D_num,<-f,Sv]
 rw [d,f];have q:Sr.num c⁻¹*U*(Sr.num c*L)+Sr.num c⁻¹*W*(Sr.num c*Sr.D L)=Sr.num c⁻¹*Sr.num c*(U*L+W*Sr.D L):=by ext
 rw [q,i,e];ext
def TD (i:Int):i.natAbs<2 ^ blN i:=by
 unfold blN;split
 ·rename_i h;rw [h];decide
 ·exact Nat.lt_log2_self
def Mc {i:Int} (h:i≠0):2 ^ (blN i - 1)<=i.natAbs/\1<=blN i:=by
 unfold blN;rw [sY h,Nat.add_sub_cancel];exact ⟨Nat.log2_self_le ⋯,⋯⟩
def Me {b:Nat} {i:Int} (h:Bd b i):blN i<=b:=by
 by_cases z:i=0
 ·unfold blN;rw [sZ z];exact Aa _
 ·have c:=(Mc z).1;have d:i.natAbs<2 ^ b:=h;have:=(Nat.pow_lt_pow_iff_right (a:=2) ∅).mp (B5 c d);omega
theorem CQ:∀ (l:dD) (x:Rat),A_ l x=Sr.ev (qR l) x
 | [],_=>rfl
 | a::l,x=>by show (a:Rat)+x*A_ l x=(a:Rat)+x*Sr.ev (qR l) x;rw [CQ l x]
def xL {a b:dD} (h:si a=si b) (x:Rat):A_ a x=A_ b x:=by
 rw [CQ,CQ];exact Sr.ev_congr (by rw [CS,CS];exact h) x
theorem TF:∀ (l:dD) (x:Rat),A_ (dI l) x=dQ l x:=by
 have b:∀ (l:dD) (c:Int) (x:Rat),∀ D:dD,(∀ k,co D k=((k:Int)+c)*co l k)->A_ D x=(c:Rat)*A_ l x+x*dQ l x:=by
  intro l
  induction l with
  | nil=>
    intro c x D h
    have z:si D=si []:=Sr.ext' λk=>by
     show ((co D k:Int):Rat)=((co [] k:Int):Rat);rw [h k,show co [] k=0 from rfl,Int.mul_zero]
    rw [xL z];show (0:Rat)=c*0+x*0;ext
  | cons a l f=>
    intro c x D h
    have e:=f (c+1) x (D.drop 1) λk=>by
     have:=h (k+1);have g:co (D.drop 1) k=co D (k+1):=by unfold co;rw [AO,AO,List.getElem?_drop,Nat.add_comm]
     rw [g,this];show (((k+1:Nat):Int)+c)*co l k=_;push_cast;ext
    have i:A_ D x=((co D 0:Int):Rat)+x*A_ (D.drop 1) x:=by
     cases D with
     | nil=>
       show (0:Rat)=((0:Int):Rat)+x*0;have:((0:Int):Rat)=0:=rfl;rw [this];ext
     | cons d D=>rfl
    rw [i,e,h 0];show (((0:Nat)+c)*a:Int)+x*(((c+1:Int):Rat)*A_ l x+x*dQ l x)=(c:Rat)*((a:Rat)+x*A_ l x)+x*(A_ l x+x*dQ l x);push_cast;ext
 intro l x;cases l with
 | nil=>rfl
 | cons a l=>
   have e:=b l 1 x (dI (a::l)) λk=>by
    rw [IZ];show ((k+1:Nat):Int)*co l k=_;push_cast;rfl
   rw [e];show ((1:Int):Rat)*A_ l x+x*dQ l x=A_ l x+x*dQ l x;have:((1:Int):Rat)=1:=rfl;rw [this];ext
def bez {f:dD} (h:Lz f) (B:f.length<=9) (b:∀ z∈f,Bd 148 z) (q:QI (co f) (co (dI f)) Ad):∃ (U V:dD) (d:Int),d≠0/\(∀ k,(co U k).natAbs<2 ^ 2400)/\(∀ k,(co V k).natAbs<2 ^ 2400)/\U.length<=9/\V.length<=9/\∀ x:Rat,A_ U x*A_ f x+A_ V x*dQ f x=(d:Rat):=by
 have g:co f (f.length - 1)≠0:=h.2;have i:(dI f).length=f.length - 1:=by unfold dI;rw [AJ,BI]
 have one:∀ k,(co [(1:Int)] k).natAbs<2 ^ 2400:=λk=>by
  match k with
  | 0=>show (1:Nat)<_;decide +kernel
  | k+1=>show (0:Nat)<_;decide +kernel
 have nil:∀ k,(co ([]:dD) k).natAbs<2 ^ 2400:=λk=>by show (0:Nat)<_;decide +kernel
 rcases BN f.length 3 with c | c
 ·match f,h,g,c with
  | [],h,_,_=>exact absurd h.1 (by simp)
  | [a],_,g,_=>exact ⟨[1],[],a,g,one,nil,∅,∅,λx=>by show (((1:Int):Rat)+x*0)*((a:Rat)+x*0)+0*_=(a:Rat);rw [show ((1:Int):Rat)=1 from rfl];ext⟩
  | [a,e],_,g,_=>exact ⟨[],[1],e,g,nil,one,∅,∅,λx=>by show 0*_+(((1:Int):Rat)+x*0)*(((e:Rat)+x*0)+x*(0+x*0))=(e:Rat);rw [show ((1:Int):Rat)=1 from rfl];ext⟩
 ·have m:∀ k,Bd 152 (co (dI f) k):=λk=>by
   rw [IZ];by_cases hk:k+1<f.length
   ·have e:Bd 4 ((k+1:Nat):Int):=by unfold Bd;rw [Ce];have:(2:Nat) ^ 4=16:=by decide
                                    omega
    have:=e.mul (Cc b (k+1));exact this
   ·rw [AZ ⋯,Int.mul_zero];exact DZ _
  have n:Lz (dI f):=by
   refine ⟨⋯,?_⟩;rw [IZ,i,show f.length - 1 - 1+1=f.length - 1 by omega];exact CO ⋯ g
  obtain ⟨U,V,d,o,C,p,r,u,D,F⟩:=bV (T:=2 ^ 2400) h n q (λk=>(Cc b k).mono ⋯) m ⋯ ⋯ (Bz ∅) (by
   have v:2*((f.length+(dI f).length)*2 ^ 152)<=2 ^ 158:=by
    have:(f.length+(dI f).length)*2 ^ 152<=17*2 ^ 152:=CF _ ⋯;have e:17*2 ^ 152*2<=2 ^ 158:=by decide +kernel
    omega
   refine B5 (Nat.pow_le_pow_left v _) (B5 (CK (Bz ∅) (show f.length+(dI f).length - 2<=15 by omega)) ?_);decide +kernel)
  refine ⟨U,V,d,o,r,u,⋯,⋯,λx=>?_⟩
  have e:si [d]=si U*si f+si V*si (dI f):=by
   rw [Dh U,Dh V,Sr.L_mul,Sr.L_mul];refine Sr.ext' λk=>?_;show ((co [d] k:Int):Rat)=cvL (U.map λz:Int=>(z:Rat)) (si f).c k+cvL (V.map λz:Int=>(z:Rat)) (si (dI f)).c k;rw [<-p k];have w:=Ez (co f) U k;have y:=Ez (co (dI f)) V k;push_cast;rw [w,y];rfl
  have A:Sr.L (qR [d])=Sr.L (Ap (BC (qR U) (qR f)) (BC (qR V) (qR (dI f)))):=by rw [Sr.L_add,Sr.L_mulRow,Sr.L_mulRow,CS,CS,CS,CS,CS];exact e
  have j:=Sr.ev_congr A x;rw [Sr.ev_add,Sr.ev_mul,Sr.ev_mul,<-CQ,<-CQ,<-CQ,<-CQ,<-CQ,TF] at j;rw [<-j];show (d:Rat)+x*0=d;ext
def EZ {a b P Y:Rat} (c:a<=P) (d:-a<=P) (e:b<=Y) (f:-b<=Y):a*b<=P*Y/\-(a*b)<=P*Y:=by
 have g:=Ab (show 0<=P - a by ext) (show 0<=Y+b by ext);have h:=Ab (show 0<=P+a by ext) (show 0<=Y - b by ext);have i:=Ab (show 0<=P - a by ext) (show 0<=Y - b by ext);have j:=Ab (show 0<=P+a by ext) (show 0<=Y+b by ext);constructor <;> ext
def xM {l c:dD} {M u w:Rat} (h:∀ x,A_ l x=M*A_ c (u+w*x)) (m:Rat):dQ l m=M*(w*dQ c (u+w*m)):=by
 obtain ⟨C,T,n⟩:=IB l m;obtain ⟨D,o,r⟩:=IB c (u+w*m)
 obtain ⟨N,v,y,A⟩:∃ N:Rat,1<=N/\w<=N/\-w<=N:=by
  rcases (BE:w<=0\/0<=w) with z | z
  ·exact ⟨1 - w,(),(),()⟩
  ·exact ⟨1+w,(),(),()⟩
 obtain ⟨P,B,F,G⟩:∃ P:Rat,0<=P/\M<=P/\-M<=P:=by
  rcases (BE:M<=0\/0<=M) with z | z
  ·exact ⟨-M,(),(),()⟩
  ·exact ⟨M,(),(),()⟩
 have d:∀ s:Rat,0<s->s*N<=1->∀ e:Rat,(e=1\/e = -1)->e*(dQ l m - M*(w*dQ c (u+w*m)))<=s*(C+P*D*(w*w)):=λs f U e g=>by
  have I:s<=s*N:=by
   have:=AR v (show 0<=s by ext);ext
  have i:-1<=w*s/\w*s<=1:=by
   have j:=AR y (show 0<=s by ext);have k:=AR A (show 0<=s by ext);constructor <;> ext
  obtain ⟨J,L⟩:=n s () ();obtain ⟨W,O⟩:=r (w*s) i.1 i.2;rw [h,h,show u+w*(m+s)=u+w*m+w*s by grind] at J L;have X:=EZ (a:=M) (b:=A_ c (u+w*m+w*s) - A_ c (u+w*m) - w*s*dQ c (u+w*m)) F G O ();refine Cu.mp λz=>?_;have t:=Ar (show 0<e*(dQ l m - M*(w*dQ c (u+w*m))) - s*(C+P*D*(w*w)) by ext) f;rcases g with e | e <;> rw [e] at t <;> ext
 have R:0<=C+P*D*(w*w):=by
  have j:=Ab B o
  have k:0<=w*w:=by
   rcases (BE:w<=0\/0<=w) with z | z
   ·have:=Ab (show 0<=-w by ext) (show 0<=-w by ext);ext
   ·exact Ab z z
  have:=Ab j k;ext
 have none:∀ e:Rat,(e=1\/e = -1)->¬ 0<e*(dQ l m - M*(w*dQ c (u+w*m))):=λe g z=>by
  obtain ⟨p,S,Y,Z,_,_⟩:=Jq z (show (0:Rat)<1 by ext) z z;obtain ⟨s,f,s1,s2⟩:=Dz (p:=p) (q:=N+(C+P*D*(w*w))) S ();have a1:=Ab (show 0<=s by ext) R;have a2:=Ab (show 0<=s by ext) (show 0<=N by ext);have:=d s f () e g;ext
 rcases N' (dQ l m - M*(w*dQ c (u+w*m))) 0 with z | z | z
 ·exact absurd (show 0<(-1:Rat)*(dQ l m - M*(w*dQ c (u+w*m))) by ext) (none (-1) (.inr rfl))
 ·ext
 ·exact absurd (show 0<(1:Rat)*(dQ l m - M*(w*dQ c (u+w*m))) by ext) (none 1 (.inl rfl))
theorem TH {r C:Nat} {x:Rat} (b:1<=r) (c:x<=(r:Rat)) (d:-x<=(r:Rat)):∀ l:dD,(∀ z∈l,z.natAbs<=C)->A_ l x<=((C*l.length*r ^ l.length:Nat):Rat)/\-A_ l x<=((C*l.length*r ^ l.length:Nat):Rat)
 | [],_=>by
   show (0:Rat)<=((C*0*1:Nat):Rat)/\-(0:Rat)<=((C*0*1:Nat):Rat);rw [Nat.mul_zero,Nat.zero_mul,show ((0:Nat):Rat)=0 from rfl];constructor <;> ext
 | a::l,h=>by
   obtain ⟨f,g⟩:=TH b c d l λz i=>h z (Bp _ i);obtain ⟨m,n⟩:=aI a;have o:((a.natAbs:Nat):Rat)<=(C:Rat):=by exact_mod_cast h a (BS ..)
   obtain ⟨p,q⟩:=EZ c d f g
   have j:C+r*(C*l.length*r ^ l.length)<=C*(l.length+1)*r ^ (l.length+1):=by
    rw [CL];have:1<=r ^ l.length*r:=Nat.mul_pos (Bz b) b;have:C*1<=C*(r ^ l.length*r):=CD _ this;have e:C*(l.length+1)*(r ^ l.length*r)=C*(r ^ l.length*r)+r*(C*l.length*r ^ l.length):=by ext
    omega
   have k:(C:Rat)+(r:Rat)*((C*l.length*r ^ l.length:Nat):Rat)<=((C*(l.length+1)*r ^ (l.length+1):Nat):Rat):=by exact_mod_cast j
   show (a:Rat)+x*A_ l x<=((C*(l.length+1)*r ^ (l.length+1):Nat):Rat)/\-((a:Rat)+x*A_ l x)<=((C*(l.length+1)*r ^ (l.length+1):Nat):Rat);generalize ((C*(l.length+1)*r ^ (l.length+1):Nat):Rat)=Z at *;generalize (r:Rat)*((C*l.length*r ^ l.length:Nat):Rat)=Y at *;constructor <;> ext
def xN {i q U V:dD} {d:Int} {t f:Nat} {u Δ M:Rat} (o:d≠0) (P:∀ z∈U,z.natAbs<=2 ^ t) (R:∀ z∈V,z.natAbs<=2 ^ t) (S:U.length<=9) (T:V.length<=9) (Y:∀ x:Rat,A_ U x*A_ i x+A_ V x*dQ i x=(d:Rat))
  (u1:u<=((2 ^ 200:Nat):Rat)) (u2:-u<=((2 ^ 200:Nat):Rat)) (w1:u+Δ<=((2 ^ 200:Nat):Rat)) (w2:-(u+Δ)<=((2 ^ 200:Nat):Rat)) (Z:0<Δ) (D1:1<=Δ*((2 ^ 420:Nat):Rat)) (M1:1<=M) (lq:q.length<=9) (bq:∀ z∈q,Bd f z) (p:∀ y,A_ q y=M*A_ i (u+Δ*y)):∃ U' V',Sk q U' V' (f+t+2300):=by
 have dr:(d:Rat)≠0:=Am o
 have d1:(1:Rat)<=d\/(d:Rat)<=-1:=by
  rcases Int.lt_or_lt_of_ne o with z | z
  ·have h:((1:Int):Rat)<=((-d:Int):Rat):=by exact_mod_cast (show 1<=-d by omega)
   rw [C2,show ((1:Int):Rat)=1 from rfl] at h;exact .inr ()
  ·exact .inl (by have:1<=d:=by omega
                  exact_mod_cast this)
 have di:(d:Rat)*(d:Rat)⁻¹=1:=Cf _ dr;have Mi:M*M⁻¹=1:=Cf _ ();have v:Δ*Δ⁻¹=1:=Cf _ ();have Mp:0<M⁻¹:=Rat.inv_pos.mpr ();have Dp:0<Δ⁻¹:=Rat.inv_pos.mpr Z;have D:M⁻¹<=1:=by have:=A9 M1 (show 0<=M⁻¹ by ext);ext
 have Dl:Δ⁻¹<=((2 ^ 420:Nat):Rat):=by
  have:=A9 D1 (show 0<=Δ⁻¹ by ext);rw [show Δ*((2 ^ 420:Nat):Rat)*Δ⁻¹=Δ*Δ⁻¹*((2 ^ 420:Nat):Rat) by ext,v] at this;ext
 have dl:(d:Rat)⁻¹<=1/\-(d:Rat)⁻¹<=1:=by
  generalize (d:Rat)=x at *;generalize x⁻¹=y at *;rcases d1 with z | z
  ·constructor
   ·refine Cu.mp λw=>?_;have:=Ar (show 0<y - 1 by ext) (show 0<x by ext);ext
   ·refine Cu.mp λw=>?_;have:=Ar (show 0 < -y by ext) (show 0<x by ext);ext
  ·constructor
   ·refine Cu.mp λw=>?_;have:=Ar (show 0<y by ext) (show 0 < -x by ext);ext
   ·refine Cu.mp λw=>?_;have:=Ar (show 0 < -y - 1 by ext) (show 0 < -x by ext);ext
 have F:∀ y,A_ U (u+Δ*y)*(M⁻¹*(d:Rat)⁻¹)*A_ q y+A_ V (u+Δ*y)*(M⁻¹*Δ⁻¹*(d:Rat)⁻¹)*dQ q y=1:=λy=>by
  rw [xM p y,p y];have h:=Y (u+Δ*y);generalize A_ U (u+Δ*y)=A at *;generalize A_ V (u+Δ*y)=B at *;generalize A_ i (u+Δ*y)=C at *;generalize dQ i (u+Δ*y)=E at *;generalize M⁻¹=m at *;generalize Δ⁻¹=w at *;generalize (d:Rat)⁻¹=k at *;have:A*(m*k)*(M*C)+B*(m*w*k)*(M*(Δ*E))=(M*m)*k*(A*C)+(M*m)*(Δ*w)*k*(B*E):=by ext
  rw [this,Mi,v,show 1*k*(A*C)+1*1*k*(B*E)=k*(A*C+B*E) by ext,h,<-di];ext
 have X:∀ y,0<=y->y<=1->u+Δ*y<=((2 ^ 200:Nat):Rat)/\-(u+Δ*y)<=((2 ^ 200:Nat):Rat):=λy c e=>by
  have n:=Ab (show 0<=Δ by ext) c;have h2:=AR e (show 0<=Δ by ext);constructor <;> ext
 have G:∀ (W:dD),(∀ z∈W,z.natAbs<=2 ^ t)->W.length<=9->∀ y,0<=y->y<=1->A_ W (u+Δ*y)<=((2 ^ t*9*(2 ^ 200) ^ 9:Nat):Rat)/\-A_ W (u+Δ*y)<=((2 ^ t*9*(2 ^ 200) ^ 9:Nat):Rat):=λW hW I y c e=>by
  obtain ⟨x1,x2⟩:=X y c e;have J:1<=2 ^ 200:=Bz ∅;obtain ⟨b1,b2⟩:=TH (r:=2 ^ 200) (C:=2 ^ t) J x1 x2 W hW;have le:2 ^ t*W.length*(2 ^ 200) ^ W.length<=2 ^ t*9*(2 ^ 200) ^ 9:=Do (CD _ I) (CK J I);have j:((2 ^ t*W.length*(2 ^ 200) ^ W.length:Nat):Rat)<=((2 ^ t*9*(2 ^ 200) ^ 9:Nat):Rat):=by exact_mod_cast le
  exact ⟨Rat.le_trans b1 j,Rat.le_trans b2 j⟩
 have P0:(1:Rat)<=((2 ^ 420:Nat):Rat):=by
  have:1<=2 ^ 420:=Bz ∅;exact_mod_cast this
 have L:M⁻¹*(d:Rat)⁻¹<=((2 ^ 420:Nat):Rat)/\-(M⁻¹*(d:Rat)⁻¹)<=((2 ^ 420:Nat):Rat):=by
  have:=EZ (a:=M⁻¹) (b:=(d:Rat)⁻¹) D () dl.1 dl.2;constructor <;> ext
 have N:M⁻¹*Δ⁻¹*(d:Rat)⁻¹<=((2 ^ 420:Nat):Rat)/\-(M⁻¹*Δ⁻¹*(d:Rat)⁻¹)<=((2 ^ 420:Nat):Rat):=by
  have n:=EZ (a:=M⁻¹) (b:=Δ⁻¹) D () Dl ();have h2:=EZ n.1 n.2 dl.1 dl.2;constructor <;> ext
 refine ⟨λy=>A_ U (u+Δ*y)*(M⁻¹*(d:Rat)⁻¹),λy=>A_ V (u+Δ*y)*(M⁻¹*Δ⁻¹*(d:Rat)⁻¹),λx z=>?_,⟨((2 ^ t*9*(2 ^ 200) ^ 9:Nat):Rat)*((2 ^ 420:Nat):Rat),?_,λy c e=>?_,λy c e=>?_,?_⟩,λy _ _=>F y⟩
 ·intro z2;have:=F x;rw [z,z2] at this;ext
 ·exact Ab (by exact_mod_cast Aa _) ()
 ·have g:=G U P S y c e;exact EZ g.1 g.2 L.1 L.2
 ·have g:=G V R T y c e;exact EZ g.1 g.2 N.1 N.2
 ·have gb:=Ln q.length q (B:=2 ^ f) λz hz=>C9 (bq z hz);have g1:gs q q.length<=2 ^ f*2 ^ 9:=Bx (Nat.le_add_right _ _) (Bx gb (CD _ (CK ∅ lq)));have g2:gs q q.length*(8*q.length+8)<=2 ^ f*2 ^ 9*2 ^ 7:=Do g1 ⋯
  have g3:2 ^ t*9*(2 ^ 200) ^ 9*2 ^ 420<=2 ^ t*2 ^ 4*2 ^ (200*9)*2 ^ 420:=by
   rw [Nat.pow_mul];exact CF _ (CF _ (CD _ ∅))
  have O:=Do g3 g2;rw [<-Ck,<-Ck,<-Ck,<-Ck,<-Ck,<-Ck] at O;have g5:2 ^ t*9*(2 ^ 200) ^ 9*2 ^ 420*(gs q q.length*(8*q.length+8))<2 ^ (f+t+2300):=B5 O (Nat.pow_lt_pow_right ∅ ⋯);exact_mod_cast g5
theorem Mf {c γ y s:Rat} (p:0<c) (g:0<=γ) (j:γ<=y) (f:s=1\/s = -1):∀ l:dD,l≠[]->((co l (l.length - 1):Int):Rat)=c->(∀ i,i+1<l.length->((co l i:Int):Rat)<=c*γ ^ (l.length - 1 - i)/\-((co l i:Int):Rat)<=c*γ ^ (l.length - 1 - i))->c*y ^ (l.length - 1)<=s ^ (l.length - 1)*A_ l (s*(2*y))
 | [],h,_,_=>absurd rfl h
 | [a],_,e,_=>by
   have e:(a:Rat)=c:=e;show c*y ^ 0<=s ^ 0*((a:Rat)+_*0);rw [BJ,BJ,e];ext
 | a::b::l,_,e,h=>by
   have d:=Mf p g j f (b::l) (by simp) e λi k=>by
    have k:i+1<l.length+1:=k;have:=h (i+1) (by show i+1+1<l.length+2;omega);rw [show (a::b::l).length - 1 - (i+1)=(b::l).length - 1 - i by show l.length+1+1 - 1 - (i+1)=l.length+1 - 1 - i;omega] at this;exact this
   obtain ⟨m,o⟩:=h 0 (by show 0+1<l.length+2;omega);have m:(a:Rat)<=c*γ ^ (l.length+1):=m;have o:-(a:Rat)<=c*γ ^ (l.length+1):=o;have d:c*y ^ l.length<=s ^ l.length*A_ (b::l) (s*(2*y)):=d;show c*y ^ (l.length+1)<=s ^ (l.length+1)*((a:Rat)+s*(2*y)*A_ (b::l) (s*(2*y)))
   have q:γ ^ (l.length+1)<=y ^ (l.length+1):=by
    have:∀ n:Nat,0<=γ ^ n/\γ ^ n<=y ^ n:=λn=>by
     induction n with
     | zero=>rw [BJ,BJ];constructor <;> ext
     | succ n d=>
       rw [A3,A3];have r:=Ab d.1 g;have B:=A9 d.2 g;have C:=AR j (show 0<=y ^ n by ext);exact ⟨r,()⟩
    exact (this _).2
   have D:=AR q (show 0<=c by ext)
   have u:s ^ l.length=1\/s ^ l.length = -1:=by
    have:∀ n:Nat,s ^ n=1\/s ^ n = -1:=λn=>by
     induction n with
     | zero=>exact .inl (BJ _)
     | succ n d=>rw [A3];rcases d with z | z <;> rcases f with w | w <;> rw [z,w] <;> ext
    exact this _
   have v:=AR d (show 0<=2*y by ext);have F:y*(c*y ^ l.length)=c*y ^ (l.length+1):=by rw [A3];ext
   rw [A3 s];generalize A_ (b::l) (s*(2*y))=E at *;generalize s ^ l.length=σ at *;generalize c*y ^ (l.length+1)=Y at *;generalize c*γ ^ (l.length+1)=Z at *;generalize c*y ^ l.length=W at *;have x:σ*s*((a:Rat)+s*(2*y)*E)=σ*s*(a:Rat)+s*s*(2*y*(σ*E)):=by ext
   have A:s*s=1:=by rcases f with w | w <;> rw [w] <;> ext
   rw [x,A];have:-Z<=σ*s*(a:Rat):=by rcases u with z | z <;> rcases f with w | w <;> rw [z,w] <;> ext
   ext
def xO:([]:dz).length<=sizeLine:=Aa _
def Ib {K:W.Frag} {b:TE} {g:TG} {c rest:TS} {D:Ends} {σ:L2.St} {H:Hp} (h:b σ H (λx d=>∃ a,x=.ref a/\(∃ e,SqL K d a e)/\ForL K a g c { D with nx:=rest D } σ d)):AF (BH (Cb K b) g c) rest D σ H:=h
def xP (h:GP K vs H Q E):ZK K (eC Q) (L2.start ["one","other"] vs) H:=by
 obtain ⟨p,q,a,b,c,d,rfl,hp,e,g,i,j,m,k⟩:=h;exact Dg ⟨_,rfl,_,_,_,_,rfl,rfl,hp,rfl,_,rfl,_,_,_,_,rfl,rfl,e,rfl,_,_,rfl,rfl,Ew g m,_,rfl,_,_,_,_,rfl,rfl,e,rfl,_,rfl,_,_,_,_,rfl,rfl,hp,rfl,_,_,rfl,rfl,Ew j i,_,_,rfl,rfl,k⟩
def xQ {w a:Int} {st E:Nat} (d:0<a) (e:0<st) (h:-(((blN a:Int) - (blN w:Int) - 1) / (st:Int))<=(E:Int) - 1):2 ^ st*w.natAbs<=a.natAbs*2 ^ (st*E):=by
 have q:((blN a:Int) - (blN w:Int) - 1) / (st:Int)*(st:Int)<=(blN a:Int) - (blN w:Int) - 1:=Int.ediv_mul_le _ ⋯;have f:(1 - (E:Int))*(st:Int)<=((blN a:Int) - (blN w:Int) - 1) / (st:Int)*(st:Int):=Ft ⋯ ⋯
 have g:(blN w:Int)+(st:Int)<=(st:Int)*(E:Int)+(blN a:Int) - 1:=by
  have:(1 - (E:Int))*(st:Int)=(st:Int) - (st:Int)*(E:Int):=by ext
  omega
 obtain ⟨c,i⟩:=Mc (show a≠0 by omega)
 have j:blN w+st<=st*E+(blN a - 1):=by
  have:((st*E:Nat):Int)=(st:Int)*(E:Int):=by push_cast;rfl
  omega
 have b:2 ^ st*w.natAbs<=2 ^ st*2 ^ blN w:=CD _ (C9 (TD w));rw [<-Ck] at b;refine Bx b (Bx (CK ∅ (show st+blN w<=(blN a - 1)+st*E by omega)) ?_);rw [Ck];exact CF _ c
def xR {w a e:Int} {st:Nat} (d:0<a) (f:0<st) (h:-(((blN a:Int) - (blN w:Int) - 1) / (st:Int))<=e - 1):2 ^ st*w.natAbs*2 ^ (st*(-e).toNat)<=a.natAbs*2 ^ (st*e.toNat):=by
 by_cases c:0<=e
 ·rw [show (-e).toNat=0 by omega,Nat.mul_zero,Nat.pow_zero,Nat.mul_one];exact xQ d f ⋯
 ·obtain ⟨n,g⟩:∃ n:Nat,e = -(n:Int):=⟨(-e).toNat,⋯⟩;rw [show e.toNat=0 by omega,show (-e).toNat=n by omega,Nat.mul_zero,Nat.pow_zero,Nat.mul_one];have q:((blN a:Int) - (blN w:Int) - 1) / (st:Int)*(st:Int)<=(blN a:Int) - (blN w:Int) - 1:=Int.ediv_mul_le _ ⋯;have j:(1 - e)*(st:Int)<=((blN a:Int) - (blN w:Int) - 1) / (st:Int)*(st:Int):=Ft ⋯ ⋯;have k:(1 - e)*(st:Int)=(st:Int)+((st*n:Nat):Int):=by rw [g];push_cast;ext
  obtain ⟨i,m⟩:=Mc (show a≠0 by omega);have o:blN w+st+st*n<=blN a - 1:=by omega
  have b:2 ^ st*w.natAbs*2 ^ (st*n)<=2 ^ st*2 ^ blN w*2 ^ (st*n):=CF _ (CD _ (C9 (TD w)));rw [<-Ck,<-Ck] at b;exact Bx b (Bx (CK ∅ ⋯) i)
def xS (h:Lr K vs H Q E):Y8 K (eC Q) (L2.start ["row","sizes","step","whole"] vs) H:=by
 obtain ⟨a,b,rfl,R,Y,l9,bn,Z,k⟩:=h;have aL:O' (b.map V.int) (-1)=some (V.int (lst' b)):=GR Y.1;refine BW ⟨xO,λe I=>?_⟩;have J:=AQ I (.lst []);have A:upd H e (.lst []) e=_:=upd_same;have y:=J _ _ R;have ne:a≠e:=BA R I;generalize upd H e (.lst [])=H1 at J A y ⊢;have ll:((b.map V.int).length:Int)=(b.length:Int):=by rw [AJ]
 refine ⟨_,rfl,_,_,rfl,y,_,_,rfl,⟨⋯,⋯,⋯,⋯⟩,?_⟩;refine ForR.by (λi L r=>∃ (p:dD) (u v:dC),L=[some (.ref a),some (.ref e),u,v]/\Same H r/\r a=some (.lst (b.map V.int))/\r e=some (.lst (p.map V.int))/\i<=b.length - 1/\p.length<=i/\(∀ z∈p,-160<=z/\z<=160)/\∀ f,1<=f->f<=i->co b (b.length - 1 - f)≠0->-(((blN (lst' b):Int) - (blN (co b (b.length - 1 - f)):Int) - 1) / (f:Int))∈p) ⟨[],none,none,rfl,J,y,A,Aa _,AS _,(λz h=>nomatch h),λf C S=>by omega⟩ ?_ ?_
 ·rintro i L r T ⟨p,u,v,rfl,D,g,m,il,U,d,n⟩;rw [ll] at T;have B:i+1<=b.length - 1:=by omega
  have N:(1:Int)+(i:Int)=((i+1:Nat):Int):=by omega
  rw [N];have aT:O' (b.map V.int) (((b.map V.int).length:Int) - 1 - ((i+1:Nat):Int))=some (V.int (co b (b.length - 1 - (i+1)))):=DI (j:=b.length - 1 - (i+1)) ⋯ (by rw [GQ];exact Cq _ ⋯);refine ⟨_,rfl,_,rfl,_,_,rfl,g,_,_,rfl,rfl,_,rfl,_,_,rfl,rfl,_,_,_,_,rfl,rfl,g,aT,?_⟩;generalize hw:co b (b.length - 1 - (i+1))=w;have bw:blN w<=148:=by rw [<-hw];exact Me (Cc bn _)
  have bl:blN (lst' b)<=148:=Me (Cc bn _);refine ⟨_,rfl,rfl,_,rfl,AV (λc=>?_) (λc=>?_)⟩
  ·have c:¬ w=0:=by simpa using c
   refine ⟨_,rfl,Hj m,_,rfl,_,rfl,_,_,_,_,rfl,rfl,g,aL,rfl,_,rfl,rfl,_,rfl,rfl,_,rfl,rfl,_,_,rfl,rfl,_,_,rfl,rfl,_,rfl,_,_,rfl,rfl,by unfold Ky;omega,_,rfl,_,_,_,rfl,rfl,m,sz (by rw [AJ];omega),?_⟩;refine ⟨p++[-(((blN (lst' b):Int) - (blN w:Int) - 1) / ((i+1:Nat):Int))],_,_,rfl,λx o W=>Kp.upd x o (BA W I) (D x o W),(Aw ne).trans g,by rw [DC];exact upd_same,B,by rw [Cr];exact Nat.succ_le_succ U,λz hz=>?_,λf C S F=>?_⟩
   ·rcases Bq.mp hz with q | q
    ·exact d z q
    ·rw [Aq.mp q]
     have:-(150:Int)<=((blN (lst' b):Int) - (blN w:Int) - 1) / ((i+1:Nat):Int):=(Int.le_ediv_iff_mul_le ⋯).mpr (by
      have:-(150:Int)*((i+1:Nat):Int)<=-(150:Int)*1:=by omega
      omega)
     have:((blN (lst' b):Int) - (blN w:Int) - 1) / ((i+1:Nat):Int)<=150:=Int.ediv_le_of_le_mul ⋯ (by
      have:(150:Int)*1<=(150:Int)*((i+1:Nat):Int):=by omega
      omega)
     omega
   ·rcases BN f (i+1) with q | q
    ·exact Ec _ (n f C ⋯ F)
    ·have:f=i+1:=by omega
     subst this;rw [hw];exact Cd _ (List.mem_singleton_self _)
  ·have c:w=0:=by simpa using c
   refine ⟨p,_,_,rfl,D,g,m,B,⋯,d,λf C S F=>?_⟩;rcases BN f (i+1) with q | q
   ·exact n f C ⋯ F
   ·have:f=i+1:=by omega
    subst this;exact absurd (hw.trans c) F
 ·rintro L r ⟨p,u,v,rfl,D,g,m,il,U,d,n⟩;have N:((((b.map V.int).length:Int)) - 1).toNat=b.length - 1:=by omega
  rw [N] at n;refine ⟨_,rfl,e,p,rfl,m,λM O=>⟨_,_,rfl,rfl,?_⟩⟩;refine k (1+M) r D ?_ ?_ λi T=>?_
  ·rcases O with ⟨_,z⟩ | ⟨z,_⟩
   ·omega
   ·have:=d M z;omega
  ·rcases O with ⟨_,z⟩ | ⟨z,_⟩
   ·omega
   ·have:=d M z;omega
  ·by_cases X:co b i=0
   ·rw [X];show 2 ^ _*0*_<=_;rw [Nat.mul_zero,Nat.zero_mul];exact Aa _
   ·have G:=n (b.length - 1 - i) ⋯ ⋯ (by rw [show b.length - 1 - (b.length - 1 - i)=i by omega];exact X);rw [show b.length - 1 - (b.length - 1 - i)=i by omega] at G
    have P:-(((blN (lst' b):Int) - (blN (co b i):Int) - 1) / ((b.length - 1 - i:Nat):Int))<=M:=by
     rcases O with ⟨z,_⟩ | ⟨_,z⟩
     ·rw [z] at G;cases G
     ·exact z _ G
    exact xR Z ⋯ (Int.le_trans P ⋯)
def Mg {R:dO} {n:Nat} {x:Rat}:W_ (a6 R) n x n=A_ ((List.range n).map R) x:=by
 have a:∀ d,d<=n->W_ (a6 R) n x d=A_ (((List.range n).map R).drop (n - d)) x:=λd=>by
  induction d with
  | zero=>
    intro _;rw [Nat.sub_zero,List.drop_eq_nil_of_le (by rw [AJ,BI];exact AS _)];rfl
  | succ d b=>
    intro c;show a6 R (n - 1 - d)+x*W_ (a6 R) n x d=_;rw [b ⋯];have l:n - (d+1)<((List.range n).map R).length:=by rw [AJ,BI];omega
    rw [List.drop_eq_getElem_cons l,show n - (d+1)+1=n - d by omega];show _=(((List.range n).map R)[n - (d+1)]:Rat)+x*_;rw [List.getElem_map,List.getElem_range,show n - (d+1)=n - 1 - d by omega];rfl
 rw [a n (AS _),Nat.sub_self,List.drop_zero]
def xT (h:HD K vs H Q E):QC K { nx:=λ_ g=>Q .non g,rt:=Q } (L2.start ["row","whole","result","first","place"] vs) H:=by
 obtain ⟨p,a,c,b,rfl,hp,J,ok,k⟩:=h;unfold QC;rwa [hp];intro w hw;rw [Su];have F:=AQ hw (.lst (Ai a.length λk=>a.getD k 0));have A:=F _ _ hp;rwa [A];rw [AJ];refine ⟨⋯,⋯,ForR.by (λi r g=>∃ B v:dC,r=[some (.ref p),some (.int c),some (.ref w),B,v]/\Same H g/\g w=some (.lst (Ai a.length (X_ c (λk=>a.getD k 0) a.length i)))) ⟨none,none,rfl,F,upd_same⟩ ?_ ?_⟩
 ·rintro i r G Y ⟨B,v,rfl,x,d⟩;have C:=x _ _ hp;rwa [C];rw [AJ];refine ⟨⋯,⋯,⋯,⋯,?_⟩;have en:((a.length:Int) - 2 - (0+(i:Int) - 1)).toNat=a.length - 1 - i:=by omega
  rw [en];refine ForJ.down (λj r g=>∃ v:dC,r=[some (.ref p),some (.int c),some (.ref w),some (.int (0+(i:Int))),v]/\Same H g/\g w=some (.lst (Ai a.length λq=>if q+j+1<a.length then X_ c (λk=>a.getD k 0) a.length i q else sy c (X_ c (λk=>a.getD k 0) a.length i) a.length (a.length - 1 - q)))) ⟨_,rfl,x,?_⟩ ?_ ?_
  ·rw [d];refine congrArg (λl=>some (HO.lst l)) (Ex λq I=>?_);by_cases h:q+0+1<a.length
   ·rw [sZ h]
   ·rw [sY h,show a.length - 1 - q=0 by omega,show q=a.length - 1 by omega];rfl
  ·rintro j r L M ⟨y,rfl,D,f⟩;have N:((a.length:Int) - 2 - (j:Int))=((a.length - 2 - j:Nat):Int):=by omega
   rw [N]
   have bS:∀ q,IntMulOk c (sy c (X_ c (λk=>a.getD k 0) a.length i) a.length (a.length - 1 - q)):=λq=>by
    rcases ok with u | ⟨bn,Z,u⟩
    ·have u:c.natAbs<1152921504606846976:=u;exact FQ ⋯ ⋯
    ·have O:∀ i j,Bd (b+1001*20*i) (X_ c (λk=>a.getD k 0) a.length i j):=KL u (λj=>Es bn j) ⋯;exact Bw u ((MZ (n:=a.length) u (O i) (a.length - 1 - q)).mono (show _<=60000000 by omega))
   generalize X_ c (λk=>a.getD k 0) a.length i=R at f bS ⊢
   have P:O' (Ai a.length λq=>if q+j+1<a.length then R q else sy c R a.length (a.length - 1 - q)) ((a.length - 2 - j:Nat):Int)=some (V.int (R (a.length - 2 - j))):=by
    rw [F4 (Cq _ ⋯),sZ ⋯]
   have S:O' (Ai a.length λq=>if q+j+1<a.length then R q else sy c R a.length (a.length - 1 - q)) (((a.length - 2 - j:Nat):Int)+1)=some (V.int (sy c R a.length (a.length - 1 - (a.length - 2 - j+1)))):=by
    rw [DI (j:=a.length - 2 - j+1) ⋯ (Cq _ ⋯),sY ⋯]
   rwa [f,P,S];refine ⟨bS _,a.length - 2 - j,?_,λb o h=>Kp.upd b o (BA h hw) (D b o h),?_⟩
   ·rw [DK];exact Ey rfl ⋯
   ·refine Fk ⋯ ?_ λq I T=>?_
    ·rw [sY ⋯];exact yT ⋯
    ·by_cases h:q+j+1<a.length
     ·rw [sZ h,sZ ⋯]
     ·rw [sY h,sY ⋯]
  ·rintro r L ⟨y,rfl,D,f⟩;refine ⟨_,_,rfl,D,?_⟩;rw [f];refine congrArg (λl=>some (HO.lst l)) (Ex λq I=>?_);show rnd c (X_ c (λk=>a.getD k 0) a.length i) a.length i q=_;unfold rnd;by_cases h:q<i
   ·rw [sZ h,sZ ⋯]
   ·rw [sY h,sY ⋯]
 ·rintro r G ⟨B,v,rfl,x,d⟩;rwa [];have en:((a.length:Int) - 1).toNat=a.length - 1:=by omega
  rw [en] at d;refine k w ((List.range a.length).map (X_ c (λk=>a.getD k 0) a.length (a.length - 1))) G x hw d (by rw [AJ,BI]) (λy=>?_) λb' U W z X=>?_
  rotate_left
  ·obtain ⟨j,M,rfl⟩:=BD.mp X;refine (KL (m:=a.length) W (λj=>Es U j) (AS _) (a.length - 1) j).mono ?_;exact Nat.add_le_add_left (CD _ (Nat.sub_le _ _)) _
  rcases DS a.length with z | z
  ·have:a=[]:=CM.mp z;subst this;rfl
  ·have h:=Yy (c:=c) (R:=λk=>a.getD k 0) (n:=a.length) (y:=y) z;rw [Mg,Mg] at h
   have e:(List.range a.length).map (λk=>a.getD k 0)=a:=by
    refine Eh λi=>?_;rw [Ae];rcases BN i a.length with q | q
    ·rw [Co q,Ag q];show some (a.getD i 0)=_;rw [AO,Ag q];rfl
    ·rw [Ba (by rw [BI];exact q),Ba q];rfl
   rw [e] at h;exact h
def xU (z:Int) (l:dD) (b:Int):sgc (z::l) b=if z≠0 then (if b*z<0 then 1 else 0)+sgc l (if z > 0 then 1 else -1) else sgc l b:=by rw [sgc]
def xV (h:Ls K vs H Q E):ZY K (eC Q) (L2.start ["row","many","before_it","whole"] vs) H:=by
 obtain ⟨p,a,rfl,hp,A,k⟩:=h;refine BW ?_;show Rj K _ _ _;refine BW ?_;show Ri K _ [some (.ref p),some (.int 0),some (.int 0),none] _;refine Ib ⟨_,rfl,p,rfl,⟨_,SqL.of hp⟩,ForL.by (xs:=a.map V.int) (λi g f=>∃ (m:Nat) (b:Int) (o:dC),g=[some (.ref p),some (.int (m:Int)),some (.int b),o]/\f=H/\(b=0\/b=1\/b = -1)/\m+sgc (a.drop i) b=sgc a 0) ⟨0,0,none,rfl,rfl,.inl rfl,by rw [List.drop_zero];omega⟩ ?_ ?_ ?_⟩
 ·rintro i g f _ ⟨m,b,o,rfl,rfl,_⟩;exact SqL.of hp
 ·rintro i x g f q ⟨m,b,o,rfl,rfl,y,e⟩;have u:i<a.length:=by have:=(CT.mp q).1;rw [AJ] at this;exact this
  rw [Ae,Ag u] at q;obtain rfl:=rG q;rw [List.drop_eq_getElem_cons u] at e;generalize a[i]=z at e;rw [xU] at e;refine EX ?_;refine ⟨_,rfl,rfl,_,rfl,AV (λc=>?_) (λc=>?_)⟩
  ·have c:z≠0:=λw=>by
    have c:(!decide (V.int z=V.int 0))=true:=c;rw [w] at c;simp at c
   rw [sZ c] at e;show Rg K _ [some (.ref p),some (.int (m:Int)),some (.int b),some (.int z)] _
   have j:∀ {m':Nat} {D:Ends},(D.nx=λg r=>∃ (m:Nat) (b:Int) (o:dC),g=[some (.ref p),some (.int (m:Int)),some (.int b),o]/\r=f/\(b=0\/b=1\/b = -1)/\m+sgc (a.drop (i+1)) b=sgc a 0)->m'+sgc (a.drop (i+1)) (if z > 0 then 1 else -1)=sgc a 0->Rf K D [some (.ref p),some (.int (m':Int)),some (.int b),some (.int z)] f:=λ{m' D} v n=>by
    refine G3 (show As _ _ _ _ from ⟨_,rfl,_,_,rfl,rfl,_,rfl,AV (λd=>?_) (λd=>?_)⟩)
    ·have d:0<z:=rB d;rw [sZ d] at n;show D.nx _ _;rw [v];exact ⟨m',1,_,rfl,rfl,.inr (.inl rfl),n⟩
    ·have d:¬ 0<z:=λw=>d (rA w);rw [sY d] at n;refine ⟨1,rfl,?_⟩;rw [v];exact ⟨m',-1,_,rfl,rfl,.inr (.inr rfl),n⟩
   refine Dy ⟨_,rfl,_,rfl,_,_,rfl,rfl,FQ ⋯ ⋯,_,_,rfl,rfl,_,rfl,AV (λd=>?_) (λd=>?_)⟩
   ·have d:b*z<0:=rB d;rw [sZ d] at e;refine ⟨_,rfl,_,_,rfl,rfl,?_⟩;exact j (m':=m+1) rfl ⋯
   ·have d:¬ b*z<0:=λw=>d (rA w);rw [sY d] at e;exact j (m':=m) rfl ⋯
  ·have c:z=0:=by
    refine Classical.byContradiction λw=>c ?_;show (!decide (V.int z=V.int 0))=true;simp [w]
   rw [sY ⋯] at e;exact ⟨m,b,_,rfl,rfl,y,e⟩
 ·rintro g f ⟨m,b,o,rfl,rfl,_,e⟩;rw [AJ,List.drop_length] at e;have e:m+0=sgc a 0:=e;show Rh K _ _ _;refine ⟨_,rfl,?_⟩;rw [show m=sgc a 0 by omega];exact k
noncomputable def Al {a:Type} (R:V->a->Prop):dz->List a->Prop
 | [],[]=>True
 | u::b,x::c=>R u x/\Al R b c
 | _,_=>False
theorem Al.ind {c:Type} {R:V->c->Prop} {M:dz->List c->Prop} (d:M [] []) (e:∀ u x b xs,R u x->Al R b xs->M b xs->M (u::b) (x::xs)):∀ {b:dz} {xs:List c},Al R b xs->M b xs:=by
 intro b
 induction b with
 | nil=>intro xs a;cases xs with
   | nil=>exact d
   | cons _ _=>exact a.elim
 | cons u b f=>intro xs a;cases xs with
   | nil=>exact a.elim
   | cons x xs=>exact e u x b xs a.1 a.2 (f a.2)
def Al.mono {d:Type} {R c:V->d->Prop} (h:∀ u x,R u x->c u x) {b:dz} {xs:List d} (a:Al R b xs):Al c b xs:=
 Al.ind (M:=λb xs=>Al c b xs) trivial (λu x _ _ r _ e=>⟨h u x r,e⟩) a
def Al.length {c:Type} {R:V->c->Prop} {b:dz} {xs:List c} (a:Al R b xs):b.length=xs.length:=
 Al.ind (M:=λ(b:dz) (xs:List c)=>b.length=xs.length) rfl (λ_ _ b xs _ _ (d:b.length=xs.length)=>show b.length+1=xs.length+1 by rw [d]) a
def Al.get {c:Type} {R:V->c->Prop} {b:dz} {xs:List c} (a:Al R b xs):∀ {i:Nat} {u:V},b[i]?=some u->∃ x,xs[i]?=some x/\R u x:=
 Al.ind (M:=λb xs=>∀ {i:Nat} {u:V},b[i]?=some u->∃ x,xs[i]?=some x/\R u x) (λe=>by cases e) (λv x _ _ r _ d=>λ{i u} e=>by
  cases i with
  | zero=>cases e;exact ⟨x,rfl,r⟩
  | succ i=>exact d e) a
def Al.append {d:Type} {R:V->d->Prop} {c:dz} {xs:List d} {vs:dz} {ys:List d} (a:Al R c xs) (b:Al R vs ys):Al R (c++vs) (xs++ys):=
 Al.ind (M:=λc xs=>Al R (c++vs) (xs++ys)) (by exact b) (λu x c xs r _ e=>show Al R (u::(c++vs)) (x::(xs++ys)) from ⟨r,e⟩) a
def Al.take {c:Type} {R:V->c->Prop} {b:dz} {xs:List c} (a:Al R b xs):∀ j:Nat,Al R (b.take j) (xs.take j):=
 Al.ind (M:=λb xs=>∀ j:Nat,Al R (b.take j) (xs.take j)) (λj=>by rw [List.take_nil,List.take_nil];trivial) (λ_ _ _ _ r t d j=>by
  cases j with
  | zero=>trivial
  | succ j=>exact ⟨r,d j⟩) a
def Al.dropLast {b:Type} {R:V->b->Prop} {c:dz} {xs:List b} (a:Al R c xs):Al R c.dropLast xs.dropLast:=by
 rw [List.dropLast_eq_take,List.dropLast_eq_take,a.length];exact a.take _
def Al.snoc {b:Type} {R:V->b->Prop} {c:dz} {xs:List b} {u:V} {x:b} (a:Al R c xs) (h:R u x):Al R (c++[u]) (xs++[x]):=a.append ⟨h,trivial⟩
def CompJ.enumL {K:W.Frag} {capt:List (Option Nat)} {g:TG} {te:TE} {σ:L2.St} {H:Hp} {Q:VK} {a:Addr} {xs:dz} (W:Nat->dz->Hp->Prop) (f:W 0 [] H) (c:∀ i b H,W i b H->i<=xs.length/\b.length<=sizeLine/\SqL K H a xs)
  (j:∀ i x p b H,xs[i]?=some x->W i b H->H p=none->g (.ref p) (C6 capt σ) (upd H p (.tup [.int i,x])) λd k=>te d k λy m=>W (i+1) (b++[y]) m) (n:∀ b H,W xs.length b H->∀ p,H p=none->Q (.ref p) (upd H p (.lst b))):CompJ (F8 K a) capt g te σ Q H:=by
 refine ⟨xs.length,W,f,λi b H w=>⟨(c i b H w).1,(c i b H w).2.1,?_⟩⟩;have q:SqL K H a xs:=(c i b H w).2.2;by_cases h:i<xs.length
 ·refine .inr ⟨h,⟨xs,xs[i],q,by simp [h]⟩,λx r y=>?_⟩;obtain ⟨p,o,hp,rfl,rfl,y⟩:=y;exact j i o p b _ (y xs q) w hp
 ·have e:i=xs.length:=Nat.le_antisymm (c i b H w).1 (DU.mp h);subst e;exact .inl ⟨⟨xs,q,AS _⟩,n b H w⟩
def xW {a:Type} {l:List a} {x:a} (h:l[l.length - 1]?=some x):l=l.dropLast++[x]:=by
 have b:l≠[]:=λz=>by rw [z] at h;cases h
 have e:=Fq b
 have:l.getLast b=x:=by
  rw [List.getLast_eq_getElem];exact (CT.mp h).2
 rw [this] at e;exact e.symm
def xX {K:W.Frag} {b:TE} {capt:List (Option Nat)} {g:TG} {te:TE} {σ:L2.St} {H:Hp} {Q:VK} (h:b σ H λx c=>∃ a,[x]=[V.ref a]/\(∃ d,SqL K c a d)/\CompJ (F8 K a) capt g te σ Q c):CY (Gj K (AB b AC)) capt g te σ H Q:=h
noncomputable def hl:dD->dD
 | []=>[]
 | a::l=>a*(2:Int) ^ l.length::hl l
theorem Ic:∀ l:dD,(hl l).length=l.length
 | []=>rfl
 | a::l=>by show (hl l).length+1=l.length+1;rw [Ic l]
theorem TJ (y:Rat):∀ l:dD,A_ (hl l) y*2=((2 ^ l.length:Nat):Rat)*A_ l (y / 2)
 | []=>by show (0:Rat)*2=_*0;ext
 | a::l=>by
   have c:=TJ y l;show (((a*(2:Int) ^ l.length:Int):Rat)+y*A_ (hl l) y)*2=((2 ^ (l.length+1):Nat):Rat)*((a:Rat)+y / 2*A_ l (y / 2));have e:((2 ^ (l.length+1):Nat):Rat)=2*((2 ^ l.length:Nat):Rat):=by rw [CL];push_cast;ext
   have b:((a*(2:Int) ^ l.length:Int):Rat)=(a:Rat)*((2 ^ l.length:Nat):Rat):=by push_cast;rfl
   rw [e,b];generalize ((2 ^ l.length:Nat):Rat)=P at *;ext
theorem Mh:∀ (l:dD) {i:Nat} (h:i<l.length),(hl l)[i]?=some (l[i]*(2:Int) ^ (l.length - 1 - i))
 | a::l,0,h=>by show some (a*(2:Int) ^ l.length)=_;rfl
 | a::l,i+1,h=>by
   have b:i<l.length:=by simpa using h
   show (hl l)[i]?=some (l[i]*(2:Int) ^ (l.length+1 - 1 - (i+1)));rw [Mh l b,show l.length+1 - 1 - (i+1)=l.length - 1 - i by omega]
def xY (h:Lu K vs H Q E):ZX K (eC Q) (L2.start ["row","last"] vs) H:=by
 obtain ⟨p,c,b,rfl,hp,A,bn,J,k⟩:=h;refine BW ⟨_,rfl,p,_,rfl,hp,_,_,rfl,rfl,?_⟩;rw [AJ];refine Dg (xX ⟨_,rfl,p,rfl,⟨_,SqL.of hp⟩,CompJ.enumL (xs:=c.map V.int) (λi n f=>i<=c.length/\Same H f/\n=((hl c).take i).map V.int) ⟨Aa _,Same.refl H,by rw [List.take_zero];rfl⟩ ?_ ?_ ?_⟩)
 ·rintro i n f ⟨j,g,rfl⟩;exact ⟨by rw [AJ];exact j,sz (by rw [AJ,CJ,Ic];omega),SqL.of (g _ _ hp)⟩
 ·rintro i x q n f u ⟨j,g,rfl⟩ B;have d:i<c.length:=by have:=(CT.mp u).1;rw [AJ] at this;exact this
  have m:=Mh c d;rw [Ae,Ag d] at u;obtain rfl:=rG u;have v:=bn c[i] (DM d);generalize c[i]=z at m v ⊢;have sq:=AQ B (.tup [.int (i:Int),.int z]);refine ⟨q,_,rfl,upd_same,rfl,_,_,rfl,_,_,rfl,rfl,?_⟩;have L:=Me v;have C:((c.length:Int) - 1 - (i:Int)).toNat=c.length - 1 - i:=by omega
  refine ⟨_,rfl,_,rfl,_,rfl,_,_,rfl,rfl,_,_,rfl,rfl,⟨⋯,⋯⟩,d,g.trans sq,?_⟩;rw [Eg,m,DC];show _++[V.int (z*2 ^ ((c.length:Int) - 1 - (i:Int)).toNat)]=_;rw [C];rfl
 ·rintro n f ⟨_,g,rfl⟩ r w;have D:(hl c).take (c.map V.int).length=hl c:=by rw [AJ,<-Ic c,Cz]
  rw [D] at *
  have F:H r=none:=by
   cases e:H r with
   | none=>rfl
   | some o=>have:=g _ _ e;rw [w] at this;cases this
  refine k r (hl c) _ (g.trans (AQ w _)) F upd_same (Ic c) (λz G=>?_) λy=>?_
  ·obtain ⟨i,j,rfl⟩:=FX G;have d:i<c.length:=by rw [<-Ic c];exact j
   have m:=Mh c d;rw [Ag j] at m;rw [rG m]
   have I:Bd 20 ((2:Int) ^ (c.length - 1 - i)):=by
    show ((2:Int) ^ (c.length - 1 - i)).natAbs<2 ^ 20;rw [Int.natAbs_pow];exact Nat.pow_lt_pow_right ∅ ⋯
   exact (bn c[i] (DM d)).mul I
  ·have h:=TJ y c;cases c with
   | nil=>show (0:Rat)=_*0;ext
   | cons a l=>
     have e:((2 ^ (a::l).length:Nat):Rat)=2*((2 ^ ((a::l).length - 1):Nat):Rat):=by
      rw [show (a::l).length=((a::l).length - 1)+1 by simp,CL];push_cast;simp;ext
     rw [e] at h;ext
noncomputable def hv (d:Nat):Rat:=((2 ^ d:Nat):Rat)⁻¹
def HL (d:Nat):hv d*((2 ^ d:Nat):Rat)=1:=by
 have p:(0:Rat)<((2 ^ d:Nat):Rat):=by exact_mod_cast Bz ∅
 unfold hv;rw [Rat.mul_comm];exact Cf _ ()
def KM (d:Nat):0<hv d:=by
 have p:(0:Rat)<((2 ^ d:Nat):Rat):=by exact_mod_cast Bz ∅
 exact Rat.inv_pos.mpr p
def xZ (d:Nat):hv (d+1)=hv d / 2:=by
 have a:=HL (d+1);have b:=HL d;have e:((2 ^ (d+1):Nat):Rat)=2*((2 ^ d:Nat):Rat):=by rw [CL];push_cast;ext
 have p:(0:Rat)<((2 ^ d:Nat):Rat):=by exact_mod_cast Bz ∅
 rw [e] at a;generalize ((2 ^ d:Nat):Rat)=P at *;have:(hv (d+1) - hv d / 2)*P=0:=by ext
 rcases B6.mp this with c | c <;> ext
def TK (d:Nat):hv d<=1:=by
 have h:=HL d;have p:(1:Rat)<=((2 ^ d:Nat):Rat):=by exact_mod_cast Nat.one_le_two_pow
 have:=AR p (show 0<=hv d by have:=KM d;ext);ext
def Pt (Q:dD) (b D:Nat) (w:Addr) (H:Hp) (v:V) (t:Rat×Nat):Prop:=∃ (a:Addr) (ps:dD) (M:Rat),v=.ref a/\H a=some (.lst (ps.map V.int))/\a≠w/\ps.length=Q.length/\(∀ z∈ps,Bd (b+60*t.2) z)/\0<M/\0<=t.1/\t.1+hv t.2<=1/\t.2<=D/\∀ x,A_ ps x=M*A_ Q (t.1+hv t.2*x)
def Pt.kp {Q:dD} {b D:Nat} {w:Addr} {H c:Hp} {v:V} {t:Rat×Nat} (k:Kp w H c) (h:Pt Q b D w H v t):Pt Q b D w c v t:=by
 obtain ⟨a,ps,M,rfl,e,d,f⟩:=h;exact ⟨a,ps,M,rfl,k _ _ d e,d,f⟩
noncomputable def aq (Q:dD):List (Rat×Nat)->Nat
 | []=>0
 | t::a=>Nf (A_ Q) t.1 (t.1+hv t.2)+aq Q a
theorem Mj (Q:dD) (a b:List (Rat×Nat)):aq Q (a++b)=aq Q a+aq Q b:=by
 induction a with
 | nil=>show aq Q b=0+aq Q b;omega
 | cons t a c=>show _+aq Q (a++b)=(_+aq Q a)+_;rw [c];omega
noncomputable def a9 (D:Nat):List (Rat×Nat)->Nat
 | []=>0
 | t::a=>3 ^ (D+1 - t.2)+a9 D a
theorem Mk (D:Nat) (a b:List (Rat×Nat)):a9 D (a++b)=a9 D a+a9 D b:=by
 induction a with
 | nil=>show a9 D b=0+a9 D b;omega
 | cons t a c=>show _+a9 D (a++b)=(_+a9 D a)+_;rw [c];omega
def bW {Q T:dD} (i:∃ x,0<x/\x<1/\A_ Q x≠0) (j:∀ y,A_ T y=A_ Q.reverse (y+1)) (h:sgc T 0=0):IsN (A_ Q) 0 1 0:=by
 obtain ⟨x,k,m,n⟩:=i
 obtain ⟨s,o,p⟩:∃ s:Int,(s=1\/s = -1)/\∀ z∈T,0<=s*z:=by
  rcases PN T h with q | q
  ·exact ⟨1,.inl rfl,λz f=>by have:=q z f;omega⟩
  ·exact ⟨-1,.inr rfl,λz f=>by have:=q z f;omega⟩
 have d:∀ x,0<x->x<1->0<=(s:Rat)*A_ Q x:=λx g r=>by
  obtain ⟨y,I,w⟩:=Jn g r;obtain ⟨c,J,e⟩:=PU j g w;have:=Ab (show 0<=c by ext) (GI (s:=s) (show 0<=y by ext) p);rw [e];ext
 refine ⟨⟨x,k,m,n⟩,?_⟩;rintro ⟨u,A,B,v,L,C,D,_⟩;have F:=d u A B;have G:=d v () D
 have sr:(s:Rat)=1\/(s:Rat) = -1:=by rcases o with rfl | rfl;·exact .inl rfl
                                     ·exact .inr rfl
 rcases mul_neg_iff'.mp C with ⟨a,b⟩ | ⟨a,b⟩ <;> rcases sr with e | e <;> rw [e] at F G <;> ext
def wA {b d:dD} {B:Nat} (j:b.length<=9) (f:d.length=b.length) (h:∀ y,A_ d y=A_ b (y+1)) (k:∀ z∈b,Bd B z):∀ z∈d,Bd (B+10) z:=λz g=>by
 obtain ⟨i,m,rfl⟩:=FX g
 have c:=Jp (P:=d) (Q:=b) (M:=1) (u:=1) (w:=1) f (λx=>by rw [h];have:(1:Rat)+1*x=x+1:=by ext
                                                         rw [this];ext) (i:=i) ⋯
 rw [AO,Ag m] at c;have c:((d[i]:Int):Rat)=1*tq 1 1 b i:=c;obtain ⟨o,p⟩:=IG (u:=1) (w:=1) ∅ ∅ ∅ b i
 have q:∀ n:Nat,(1:Rat) ^ n=1:=λn=>by
  induction n with
  | zero=>rfl
  | succ n r=>rw [A3,r];ext
 rw [q] at o p;have a:=Ph (z:=d[i]) (B:=((gm b i:Nat):Rat)) () ();have a:d[i].natAbs<=gm b i:=by exact_mod_cast a
 have A:gm b i<=gs b (i+1):=by show _<=gs b i+gm b i;omega
 have C:=Ln (i+1) b (B:=2 ^ B) λz g=>C9 (k z g);have v:2 ^ b.length<=2 ^ 9:=CK ∅ j;have:2 ^ B*2 ^ b.length<=2 ^ B*2 ^ 9:=CD _ v;have e:2 ^ (B+10)=2 ^ B*2 ^ 9+2 ^ B*2 ^ 9:=by rw [Ck];omega
 have D:0<2 ^ B:=Bz ∅;show d[i].natAbs<2 ^ (B+10);omega
def wB (h:Lv K vs H Q E):ZW K (eC Q) (L2.start ["row","many","waiting","part","changes","lower","upper"] vs) H:=by
 obtain ⟨p,d,U,W,D,b,rfl,hp,n9,bn,bD,sk,k⟩:=h;obtain ⟨HH,H0,hU,hW,hH⟩:=sk.H;refine BW ?_;show Re K _ [some (.ref p),some (.int 0),none,none,none,none,none] _;refine BW (Gz ⟨_,rfl,Df,λw hw=>?_⟩);have s1:=AQ hw (.lst [.ref p]);have ac:upd H w (.lst [.ref p]) w=_:=upd_same;have pw:p≠w:=BA hp hw;show Rc K _ [some (.ref p),some (.int 0),some (.ref w),none,none,none,none] _
 have P0:Pt d b D w (upd H w (.lst [.ref p])) (.ref p) (0,0):=⟨p,d,1,rfl,s1 _ _ hp,pw,rfl,λz hz=>(bn z hz).mono ⋯,∅,∅,by have:=TK 0;show (0:Rat)+hv 0<=1;ext,Aa _,λx=>by
  have:hv 0=1:=by have:=HL 0;rw [show ((2 ^ 0:Nat):Rat)=1 from rfl] at this;ext
  show A_ d x=1*A_ d (0+hv 0*x);rw [this,show (0:Rat)+1*x=x by grind];ext⟩
 have N0:aq d [(0,0)]=Nf (A_ d) 0 1:=by
  have:hv 0=1:=by have:=HL 0;rw [show ((2 ^ 0:Nat):Rat)=1 from rfl] at this;ext
  show Nf (A_ d) 0 (0+hv 0)+0=_;rw [this,show (0:Rat)+1=1 by grind];omega
 generalize upd H w (.lst [.ref p])=H1 at s1 ac P0 ⊢
 refine ET (λm σ H'=>∃ (v:Nat) (f:dz) (g:List (Rat×Nat)) (o3 o4 X J:dC),σ=[some (.ref p),some (.int (v:Int)),some (.ref w),o3,o4,X,J]/\Same H H'/\H' w=some (.lst f)/\Al (Pt d b D w H') f g/\v+aq d g=Nf (A_ d) 0 1/\(∀ (i:Nat) (t:Rat×Nat),g[i]?=some t->i<=t.2)/\m=a9 D g) _ ⟨0,[.ref p],[(0,0)],none,none,none,none,rfl,s1,ac,⟨P0,trivial⟩,by rw [N0];omega,λi t ht=>by
  have:i<1:=(CT.mp ht).1;omega,rfl⟩ ?_
 rintro m σ H2 ⟨v,f,g,o3,o4,X,J,rfl,s2,a0,al,sum,aj,rfl⟩;refine ⟨_,rfl,w,f,rfl,a0,AV (λc=>?_) (λc=>?_)⟩
 ·have tl:=al.length
  have ne:0<f.length:=by
   cases f with
   | nil=>cases c
   | cons _ _=>exact Nat.succ_pos _
  have hu:f[f.length - 1]?=some (f[f.length - 1]'⋯):=Ag ⋯;generalize f[f.length - 1]'⋯=u at hu;obtain ⟨t,ht,pu⟩:=al.get hu;rw [tl] at ht;have a1:=xW ht;have dt:=aj _ t ht;refine ⟨_,λ_ _ h=>h,?_⟩;show Ra K _ _ _;refine BW ⟨_,rfl,Hj a0,w,f,u,rfl,rfl,a0,hu,?_⟩;have k1:Kp w H2 (upd H2 w (.lst f.dropLast)):=λc o n e=>(Aw n).trans e;have am:upd H2 w (.lst f.dropLast) w=_:=upd_same;have s3:Same H (upd H2 w (.lst f.dropLast)):=λc o Y=>k1 c o (BA Y hw) (s2 c o Y);have L:=al.dropLast.mono λ_ _ h=>h.kp k1;have an:=pu.kp k1;have Hw:f.dropLast.length+1=f.length:=by rw [List.length_dropLast];omega
  have Z:v+aq d g.dropLast+Nf (A_ d) t.1 (t.1+hv t.2)=Nf (A_ d) 0 1:=by
   have:=congrArg (aq d) a1;rw [Mj] at this;have e2:aq d [t]=Nf (A_ d) t.1 (t.1+hv t.2)+0:=rfl;omega
  have bc:a9 D g=a9 D g.dropLast+3 ^ (D+1 - t.2):=by
   have:=congrArg (a9 D) a1;rw [Mk] at this;have e2:a9 D [t]=3 ^ (D+1 - t.2)+0:=rfl;omega
  have F:∀ (i:Nat) (t':Rat×Nat),g.dropLast[i]?=some t'->i<=t'.2:=λi t' h=>aj i t' (by
   rw [a1,List.getElem?_append_left (CT.mp h).1];exact h)
  have bs:0<3 ^ (D+1 - t.2):=Bz ∅;show RZ K _ [some (.ref p),some (.int (v:Int)),some (.ref w),some u,o4,X,J] _;generalize upd H2 w (.lst f.dropLast)=H3 at k1 am s3 L an ⊢;obtain ⟨a,ps,M,rfl,ha,aw,bd,bf,M0,t0,t1,tD,ev⟩:=an;have a2:=KM t.2
  have bg:∃ x,0<x/\x<1/\A_ ps x≠0:=by
   obtain ⟨z,z1,z2,z3⟩:=sk.sf.nz (show t.1<t.1+hv t.2 by ext);have hi:hv t.2*(hv t.2)⁻¹=1:=Cf _ ();have ao:0<(hv t.2)⁻¹:=Rat.inv_pos.mpr a2
   have e:t.1+hv t.2*((z - t.1)*(hv t.2)⁻¹)=z:=by
    have:hv t.2*((z - t.1)*(hv t.2)⁻¹)=(hv t.2*(hv t.2)⁻¹)*(z - t.1):=by ext
    rw [this,hi];ext
   refine ⟨(z - t.1)*(hv t.2)⁻¹,Ar () ao,?_,λy=>z3 ?_⟩
   ·have:=Ar (show 0<t.1+hv t.2 - z by ext) ao;ext
   ·rw [ev,e] at y;rcases B6.mp y with q | q
    ·ext
    ·exact q
  have ap:Nf (A_ d) t.1 (t.1+hv t.2)=Nf (A_ ps) 0 1:=by
   have e:A_ ps=λx=>M*A_ d (t.1+hv t.2*x):=funext ev;rw [e,Nf.aff a2 M0,show t.1+hv t.2*0=t.1 by ext,show t.1+hv t.2*1=t.1+hv t.2 by grind]
  refine Jd (B4 ⟨_,rfl,a,_,rfl,ha,λq hq=>?_⟩);have sq:=AQ hq (.lst (ps.map V.int).reverse);have ar:upd H3 q (.lst (ps.map V.int).reverse) q=_:=upd_same;rw [<-List.map_reverse] at *;have kq:Kp w H3 (upd H3 q (.lst (ps.reverse.map V.int))):=Kp.of_same sq;show ∃ _,_;generalize upd H3 q (.lst (ps.reverse.map V.int))=H4 at sq ar kq ⊢;refine ⟨q,ps.reverse,1,0,rfl,ar,by rw [List.length_reverse];omega,.inl (by unfold Bd;decide),λr A H5 s5 _ hr lr er _=>?_⟩;have er:∀ y,A_ A y=A_ ps.reverse (y+1):=er;rw [List.length_reverse] at lr;have G:=sq.trans s5;have N:=G _ _ am;have ax:=s3.trans G;have b0:=L.mono λ_ _ h=>h.kp (Kp.of_same G);have bi:=G _ _ ha;refine ⟨r,A,rfl,hr,⋯,?_⟩;show RY K _ [some (.ref p),some (.int (v:Int)),some (.ref w),some (.ref a),some (.int ((sgc A 0:Nat):Int)),X,J] _;refine Dy ⟨_,rfl,rfl,_,rfl,AV (λc1=>?_) (λc1=>?_)⟩
  ·have c1:sgc A 0=1:=by
    have:V.int ((sgc A 0:Nat):Int)=V.int 1:=rB c1;injection this with this;omega
   refine ⟨_,rfl,_,_,rfl,rfl,?_⟩;show L8 K _ [some (.ref p),some (.int ((v:Int)+1)),some (.ref w),some (.ref a),some (.int ((sgc A 0:Nat):Int)),X,J] _;refine ⟨_,rfl,_,_,rfl,rfl,_,rfl,AV (λO=>?_) (λ_=>?_)⟩
   ·have O:(1:Int)<((sgc A 0:Nat):Int):=rB O;omega
   ·have one:=Eu (Yr (Q:=ps) er c1);refine ⟨a9 D g.dropLast,⋯,v+1,f.dropLast,g.dropLast,_,_,_,_,rfl,ax,N,b0,?_,F,rfl⟩;rw [ap,one] at Z;omega
  ·have c1:sgc A 0≠1:=λz=>c1 (by
    show decide (V.int ((sgc A 0:Nat):Int)=V.int 1)=true;rw [z];exact rA rfl)
   show L8 K _ _ _;refine ⟨_,rfl,_,_,rfl,rfl,_,rfl,AV (λO=>?_) (λO=>?_)⟩
   ·have O:(1:Int)<((sgc A 0:Nat):Int):=rB O;show RX K _ [some (.ref p),some (.int (v:Int)),some (.ref w),some (.ref a),some (.int ((sgc A 0:Nat):Int)),X,J] _
    have lD:t.2<D:=by
     refine Nat.not_le.mp λz=>?_;have eD:t.2=D:=by omega
     have a3:hv t.2*(HH*((gs d d.length*(8*d.length+8):Nat):Rat))<1:=by
      rw [eD];have:=Ar (KM D) (show 0<((2 ^ D:Nat):Rat) - HH*((gs d d.length*(8*d.length+8):Nat):Rat) by ext);have:=HL D;ext
     have:=deep (Q:=d) (P:=ps) (T:=A) (U:=U) (V:=W) bd ev M0 t0 () a2 (TK _) lr er H0 (hU _ t0 ()) (hW _ t0 ()) (sk.uv _ t0 ()) a3;omega
    have bv:60*t.2+60<=60*D:=by omega
    refine Jd ⟨_,rfl,a,ps,b+60*t.2,rfl,bi,⋯,bf,⋯,λC ls H6 s6 n6 R ll bl el=>?_⟩;have b1:=s6 _ _ N;have bk:C≠w:=(BA N n6).symm;show RW K _ [some (.ref p),some (.int (v:Int)),some (.ref w),some (.ref a),some (.int ((sgc A 0:Nat):Int)),some (.ref C),J] _;refine Je ⟨_,rfl,C,ls,1,0,rfl,R,⋯,.inl (by unfold Bd;decide),λr2 ws H7 s7 n7 b2 lw ew _=>?_⟩;have ew:∀ y,A_ ws y=A_ ls (y+1):=ew;have b3:=s7 _ _ b1;have bm:r2≠w:=(BA b1 n7).symm;have R:=s7 _ _ R;have b4:=G.trans (s6.trans s7);have bp:=s3.trans b4;have bq:=L.mono λ_ _ h=>h.kp (Kp.of_same b4);have bw:=wA (B:=b+60*t.2+20) ⋯ lw ew bl;have eh:=xZ t.2
    have b6:∀ x,A_ ls x=(((2 ^ (ps.length - 1):Nat):Rat)*M)*A_ d (t.1+hv (t.2+1)*x):=λx=>by
     rw [el,ev,eh,show t.1+hv t.2*(x / 2)=t.1+hv t.2 / 2*x by grind];ext
    have b8:∀ x,A_ ws x=(((2 ^ (ps.length - 1):Nat):Rat)*M)*A_ d ((t.1+hv (t.2+1))+hv (t.2+1)*x):=λx=>by
     rw [ew,b6,show t.1+hv (t.2+1)*(x+1)=t.1+hv (t.2+1)+hv (t.2+1)*x by grind]
    have M2:0<((2 ^ (ps.length - 1):Nat):Rat)*M:=Ar (by exact_mod_cast Bz ∅) M0;have bx:=KM (t.2+1);have nd:=sk.sf.node (a:=t.1) (m:=t.1+hv (t.2+1)) (b:=t.1+hv t.2) () ();have e3:t.1+hv (t.2+1)+hv (t.2+1)=t.1+hv t.2:=by ext
    have PL:Pt d b D w H7 (.ref C) (t.1,t.2+1):=⟨C,ls,_,rfl,R,bk,⋯,λz hz=>(bl z hz).mono (by show _<=b+60*(t.2+1);omega),M2,t0,by show t.1+hv (t.2+1)<=1;ext,lD,b6⟩;have PW:Pt d b D w H7 (.ref r2) (t.1+hv (t.2+1),t.2+1):=⟨r2,ws,_,rfl,b2,bm,⋯,λz hz=>(bw z hz).mono (by show _<=b+60*(t.2+1);omega),M2,by show 0<=t.1+hv (t.2+1);ext,by show t.1+hv (t.2+1)+hv (t.2+1)<=1;rw [e3];exact t1,lD,b8⟩
    obtain ⟨I,S,rfl⟩:∃ I S,ws=I::S:=by
     cases ws with
     | nil=>
       have:A.length=0:=by have:(0:Nat)=ls.length:=lw;omega
       have:A=[]:=CM.mp this;rw [this] at O;have:sgc [] 0=0:=by rw [sgc]
       omega
     | cons z ws=>exact ⟨z,ws,rfl⟩
    have ez:I=0↔A_ d (t.1+hv (t.2+1))=0:=by
     have h:=b8 0;rw [show t.1+hv (t.2+1)+hv (t.2+1)*0=t.1+hv (t.2+1) by grind] at h;have h:(I:Rat)+0*A_ S 0=((2 ^ (ps.length - 1):Nat):Rat)*M*A_ d (t.1+hv (t.2+1)):=h;constructor
     ·intro z;rw [z] at h
      have h:((2 ^ (ps.length - 1):Nat):Rat)*M*A_ d (t.1+hv (t.2+1))=0:=by rw [<-h];have:((0:Int):Rat)=0:=rfl
                                                                           rw [this];ext
      rcases B6.mp h with q | q
      ·ext
      ·exact q
     ·intro z;rw [z] at h;have:(I:Rat)=0:=by ext
      exact_mod_cast this
    show RV K _ [some (.ref p),some (.int (v:Int)),some (.ref w),some (.ref a),some (.int ((sgc A 0:Nat):Int)),some (.ref C),some (.ref r2)] _;have bt:f.dropLast.length<=D:=by omega
    have b9:∀ {mn':Nat} {DD:Ends},(DD.nx=λx a4=>∃ m',m'<a9 D g/\∃ (v:Nat) (f:dz) (g:List (Rat×Nat)) (o3 o4 X J:dC),x=[some (.ref p),some (.int (v:Int)),some (.ref w),o3,o4,X,J]/\Same H a4/\a4 w=some (.lst f)/\Al (Pt d b D w a4) f g/\v+aq d g=Nf (A_ d) 0 1/\(∀ (i:Nat) (t:Rat×Nat),g[i]?=some t->i<=t.2)/\m'=a9 D g)->mn'=v+(if A_ d (t.1+hv (t.2+1))=0 then 1 else 0)->RU K DD [some (.ref p),some (.int (mn':Int)),some (.ref w),some (.ref a),some (.int ((sgc A 0:Nat):Int)),some (.ref C),some (.ref r2)] H7:=λ{mn' DD} br hm=>by
     refine ⟨_,rfl,Hj b3,_,rfl,w,f.dropLast,_,rfl,rfl,b3,sz ⋯,?_⟩;have k8:Kp w H7 (upd H7 w (.lst (f.dropLast++[V.ref C]))):=λc o n e=>(Aw n).trans e;have a5:upd H7 w (.lst (f.dropLast++[V.ref C])) w=_:=upd_same;have ba:=(bq.snoc PL).mono λ_ _ h=>h.kp k8;have s8:Same H (upd H7 w (.lst (f.dropLast++[V.ref C]))):=λc o Y=>k8 c o (BA Y hw) (bp c o Y);have bb:=PW.kp k8;show RT K _ _ _;generalize upd H7 w (.lst (f.dropLast++[V.ref C]))=H8 at k8 a5 ba s8 bb ⊢;refine ⟨_,rfl,Hj a5,_,rfl,w,f.dropLast++[V.ref C],_,rfl,rfl,a5,sz (by rw [Cr];show f.dropLast.length+1+1<=_;omega),?_⟩;have k9:Kp w H8 (upd H8 w (.lst (f.dropLast++[V.ref C]++[V.ref r2]))):=λc o n e=>(Aw n).trans e;rw [br];have dl:g.dropLast.length=f.dropLast.length:=L.length.symm;refine ⟨a9 D (g.dropLast++[(t.1,t.2+1)]++[(t.1+hv (t.2+1),t.2+1)]),?_,mn',_,g.dropLast++[(t.1,t.2+1)]++[(t.1+hv (t.2+1),t.2+1)],_,_,_,_,rfl,λc o Y=>k9 c o (BA Y hw) (s8 c o Y),upd_same,(ba.snoc bb).mono λ_ _ h=>h.kp k9,?_,λi t' h=>?_,rfl⟩
     ·rw [Mk,Mk,bc];show a9 D g.dropLast+(3 ^ (D+1 - (t.2+1))+0)+(3 ^ (D+1 - (t.2+1))+0)<_
      have e:3 ^ (D+1 - t.2)=3*3 ^ (D+1 - (t.2+1)):=by
       rw [show D+1 - t.2=(D+1 - (t.2+1))+1 by omega,CL];omega
      have:0<3 ^ (D+1 - (t.2+1)):=Bz ∅;omega
     ·rw [Mj,Mj];show mn'+(aq d g.dropLast+(Nf (A_ d) t.1 (t.1+hv (t.2+1))+0)+(Nf (A_ d) (t.1+hv (t.2+1)) (t.1+hv (t.2+1)+hv (t.2+1))+0))=_;rw [e3,hm];omega
     ·rcases BN i g.dropLast.length with q | q
      ·rw [FW,List.getElem?_append_left q] at h;exact F i t' h
      ·rw [FW,List.getElem?_append_right q] at h;have lt:=(CT.mp h).1;have lt:i - g.dropLast.length<2:=lt;have:i - g.dropLast.length=0\/i - g.dropLast.length=1:=by omega
       rcases this with z | z <;> rw [z] at h <;> cases h
       ·show i<=t.2+1;omega
       ·show i<=t.2+1;omega
    refine Dy ⟨_,rfl,r2,0,(I::S).map V.int,V.int I,rfl,rfl,b2,DI (j:=0) rfl rfl,rfl,_,rfl,AV (λc3=>?_) (λc3=>?_)⟩
    ·have c3:I=0:=by
      have:V.int I=V.int 0:=rB c3;injection this
     refine ⟨_,rfl,_,_,rfl,rfl,?_⟩;exact b9 (mn':=v+1) rfl (by rw [sZ (ez.mp c3)])
    ·have c3:I≠0:=λz=>c3 (by show decide (V.int I=V.int 0)=true;rw [z];exact rA rfl);exact b9 (mn':=v) rfl (by rw [sY λz=>c3 (ez.mpr z)];rfl)
   ·have O:¬ (1:Int)<((sgc A 0:Nat):Int):=λz=>O (rA z);have ab:=Eu (bW bg er (show sgc A 0=0 by omega));refine ⟨a9 D g.dropLast,⋯,v,f.dropLast,g.dropLast,_,_,_,_,rfl,ax,N,b0,?_,F,rfl⟩;rw [ap,ab] at Z;omega
 ·have un:f=[]:=by
   cases f with
   | nil=>rfl
   | cons _ _=>exact absurd rfl c
  have tn:g=[]:=CM.mp (by rw [<-al.length,un];rfl);rw [tn] at sum;have sum:v+0=Nf (A_ d) 0 1:=sum;show Rb K _ _ _;refine ⟨_,rfl,?_⟩;rw [show v=Nf (A_ d) 0 1 by omega];exact k H2 s2
theorem KN (a b:Rat):∀ n:Nat,(a*b) ^ n=a ^ n*b ^ n
 | 0=>by rw [BJ,BJ,BJ];ext
 | n+1=>by rw [A3,A3,A3,KN a b n];ext
theorem a7 (a:Rat) (m:Nat):∀ n:Nat,a ^ (m+n)=a ^ m*a ^ n
 | 0=>by rw [Nat.add_zero,BJ];ext
 | n+1=>by rw [<-Nat.add_assoc,A3,A3,a7 a m n];ext
theorem TL (f:dP) (a y:Rat):∀ n:Nat,G' (λk=>f k*a ^ k) n y=G' f n (a*y)
 | 0=>rfl
 | n+1=>by
   show G' (λk=>f k*a ^ k) n y+f n*a ^ n*y ^ n=G' f n (a*y)+f n*(a*y) ^ n;rw [TL f a y n,KN];ext
theorem TM (f:dP) (B x:Rat) (n:Nat):∀ m:Nat,m<=n->G' (λk=>f k*B ^ (n - 1 - k)) m (B*x)=B ^ (n - 1)*G' f m x
 | 0,_=>by show (0:Rat)=_*0;ext
 | m+1,h=>by
   show G' (λk=>f k*B ^ (n - 1 - k)) m (B*x)+f m*B ^ (n - 1 - m)*(B*x) ^ m=B ^ (n - 1)*(G' f m x+f m*x ^ m);rw [TM f B x n m ⋯,KN];have e:B ^ (n - 1)=B ^ (n - 1 - m)*B ^ m:=by rw [<-a7];congr 1;omega
   rw [e];ext
def TN (R:dO) (n:Nat) (y:Rat):A_ ((List.range n).map R) y=G' (λk=>(R k:Rat)) n y:=by
 rw [G5,AJ,BI];refine IF λk hk=>?_;rw [AO,Ae,Co hk];rfl
theorem KO (z:Int):∀ n:Nat,((z ^ n:Int):Rat)=(z:Rat) ^ n
 | 0=>by rw [BJ,Int.pow_zero];rfl
 | n+1=>by rw [A3,Int.pow_succ,Au,KO z n]
def wC (h:Lx K vs H Q E):ZV K (eC Q) (L2.start ["row","start","end","bottom","result","scale","place"] vs) H:=by
 obtain ⟨p,s,e,d,a,b,rfl,hp,Z,he,n9,bn,a0,b0,F,u,L,n,lt,k⟩:=h;refine BW ⟨_,rfl,_,_,_,_,rfl,rfl,Z,rfl,_,rfl,_,_,_,_,rfl,rfl,he,rfl,_,_,rfl,rfl,Bw u n,?_⟩;have bb:Bd 420 (a.2*b.2):=u.mul n;have bc:Bd 420 (a.1*b.2):=F.mul n;have bd:Bd 421 (b.1*a.2 - a.1*b.2):=(L.mul u).sub bc
 have v:val a*((a.2*b.2:Int):Rat)=((a.1*b.2:Int):Rat):=by
  have h2:(a.2:Rat)≠0:=Am ⋯;have q:=DF (a:=(a.1:Rat)) h2;show (a.1:Rat) / (a.2:Rat)*_=_;push_cast;generalize (a.1:Rat) / (a.2:Rat)=x at q ⊢;rw [<-q];ext
 have M:(val b - val a)*((a.2*b.2:Int):Rat)=((b.1*a.2 - a.1*b.2:Int):Rat):=by
  have h2:(b.2:Rat)≠0:=Am ⋯;have q:=DF (a:=(b.1:Rat)) h2;have N:(val b - val a)*((a.2*b.2:Int):Rat)=val b*((a.2*b.2:Int):Rat) - val a*((a.2*b.2:Int):Rat):=by ext
  rw [N,v];show (b.1:Rat) / (b.2:Rat)*_ - _=_;push_cast;generalize (b.1:Rat) / (b.2:Rat)=x at q ⊢;rw [<-q];ext
 have B1:(1:Int)<=a.2*b.2:=CN a0 b0;show RS K _ [some (.ref p),some (.ref s),some (.ref e),some (.int (a.2*b.2)),none,none,none] H;generalize hB:a.2*b.2=B at *;generalize hc:a.1*b.2=c at *;refine BW ⟨_,rfl,p,_,rfl,hp,λw hw=>?_⟩;have sw:=AQ hw (.lst (d.map V.int));have O:upd H w (.lst (d.map V.int)) w=_:=upd_same;generalize upd H w (.lst (d.map V.int))=H1 at sw O ⊢;refine BW ?_;have a1:=sw _ _ hp;show RQ K _ [some (.ref p),some (.ref s),some (.ref e),some (.int B),some (.ref w),some (.int 1),none] H1;have ll:((d.map V.int).length:Int)=(d.length:Int):=by rw [AJ]
 refine ⟨_,rfl,p,_,rfl,a1,_,_,rfl,rfl,_,rfl,_,rfl,_,_,rfl,⟨⋯,⋯,⋯,⋯⟩,?_⟩;rw [ll,show ((d.length:Int) - 1 - -1).toNat=d.length by omega];refine ForJ.down (λi G D=>∃ A:dC,G=[some (.ref p),some (.ref s),some (.ref e),some (.int B),some (.ref w),some (.int (B ^ i)),A]/\Same H D/\i<=d.length/\D w=some (.lst (Ai d.length λq=>if d.length<=q+i then co d q*B ^ (d.length - 1 - q) else co d q))) ⟨none,by rw [Int.pow_zero],sw,Aa _,?_⟩ ?_ ?_
 ·rw [O,GQ];exact congrArg (λl=>some (HO.lst l)) (Ex λq P=>by rw [sY ⋯])
 ·rintro i G H2 hi ⟨A,rfl,I,il,g⟩;have N:(d.length:Int) - 1 - (i:Int)=((d.length - 1 - i:Nat):Int):=by omega
  rw [N]
  have g1:O' (Ai d.length λq=>if d.length<=q+i then co d q*B ^ (d.length - 1 - q) else co d q) ((d.length - 1 - i:Nat):Int)=some (V.int (co d (d.length - 1 - i))):=by
   rw [F4 (Cq _ ⋯),sY ⋯]
  have S:Bd 4000 (B ^ i):=(bb.pow i).mono ⋯;refine ⟨_,rfl,_,rfl,w,_,_,_,rfl,rfl,g,g1,_,rfl,_,_,rfl,rfl,Bw (Cc bn _) S,w,_,_,d.length - 1 - i,rfl,rfl,g,by rw [DK];exact Ey rfl ⋯,?_⟩;refine ⟨_,rfl,_,rfl,_,_,rfl,rfl,Bw S bb,_,by rw [Int.pow_succ];rfl,λx o h=>Kp.upd x o (BA h hw) (I x o h),⋯,?_⟩;rw [upd_same];refine congrArg (λl=>some (HO.lst l)) (Fk ⋯ ?_ λq P a2=>?_)
  ·rw [sZ ⋯,show d.length - 1 - (d.length - 1 - i)=i by omega]
  ·by_cases h:d.length<=q+i
   ·rw [sZ h,sZ ⋯]
   ·rw [sY h,sY ⋯]
 ·rintro G H2 ⟨A,rfl,I,il,g⟩
  have g:H2 w=some (.lst (((List.range d.length).map λq=>co d q*B ^ (d.length - 1 - q)).map V.int)):=by
   rw [g];exact congrArg (λl=>some (HO.lst l)) (Ex λq P=>by rw [sZ ⋯])
  generalize hR:(List.range d.length).map (λq=>co d q*B ^ (d.length - 1 - q))=R at g;have lR:R.length=d.length:=by rw [<-hR,AJ,BI]
  have bR:∀ z∈R,Bd 4000 z:=λz C=>by
   rw [<-hR] at C;obtain ⟨j,hj,rfl⟩:=BD.mp C;have:=(Cc bn j).mul (bb.pow (d.length - 1 - j));exact this.mono ⋯
  show RP K _ _ _;refine Je ⟨_,rfl,_,rfl,_,_,_,_,rfl,rfl,I _ _ Z,rfl,_,rfl,_,_,_,_,rfl,rfl,I _ _ he,rfl,_,_,rfl,rfl,Bw F n,?_⟩;show HD K [V.ref w,V.int (a.1*b.2)] H2 _ _;rw [hc];refine ⟨w,R,c,4000,rfl,g,⋯,.inr ⟨bR,⋯,bc.mono ∅⟩,λr f H3 s3 n3 hr lr er J=>?_⟩;have J:=J 4000 bR (bc.mono ∅)
  have J:∀ z∈f,Bd 86000 z:=λz C=>(J z C).mono (by
   have:1001*R.length*R.length<=1001*9*9:=Do (CD _ ⋯) ⋯;omega)
  have T:=I.trans s3;generalize ac:H3=a3 at *;refine BW ?_;show RN K _ [some (.ref p),some (.ref s),some (.ref e),some (.int B),some (.ref r),some (.int 1),A] a3;have a4:=T _ _ hp;refine ⟨_,rfl,p,_,rfl,a4,_,rfl,⋯,⋯,?_⟩;rw [ll,DB]
  have rn:H r=none:=by
   cases C:H r with
   | none=>rfl
   | some o=>exact absurd (I _ _ C) (by rw [n3];exact λz=>nomatch z)
  refine ForR.by (λi G D=>∃ A:dC,G=[some (.ref p),some (.ref s),some (.ref e),some (.int B),some (.ref r),some (.int ((b.1*a.2 - c) ^ i)),A]/\Same H D/\i<=d.length/\D r=some (.lst (Ai d.length λq=>if q<i then co f q*(b.1*a.2 - c) ^ q else co f q))) ⟨_,by rw [Int.pow_zero],T,Aa _,?_⟩ ?_ ?_
  ·rw [hr,GQ,lr,lR];exact congrArg (λl=>some (HO.lst l)) (Ex λq P=>by rw [sY ⋯])
  ·rintro i G U hi ⟨A,rfl,W,il,m⟩;rw [show (0:Int)+(i:Int)=((i:Nat):Int) by omega]
   have g1:O' (Ai d.length λq=>if q<i then co f q*(b.1*a.2 - c) ^ q else co f q) ((i:Nat):Int)=some (V.int (co f i)):=by
    rw [F4 (Cq _ ⋯),sY ⋯]
   have S:Bd 4000 ((b.1*a.2 - c) ^ i):=(bd.pow i).mono ⋯;have a5:=W _ _ Z;have ab:=W _ _ he;refine ⟨_,rfl,_,rfl,r,_,_,_,rfl,rfl,m,g1,_,rfl,_,_,rfl,rfl,Bw (Cc J _) S,r,_,_,i,rfl,rfl,m,by rw [DK];exact Ey rfl ⋯,?_⟩;have X:upd U r (.lst ((Ai d.length λq=>if q<i then co f q*(b.1*a.2 - c) ^ q else co f q).set i (V.int (co f i*(b.1*a.2 - c) ^ i)))) s=_:=(Aw (BA Z rn)).trans a5;have Y:upd U r (.lst ((Ai d.length λq=>if q<i then co f q*(b.1*a.2 - c) ^ q else co f q).set i (V.int (co f i*(b.1*a.2 - c) ^ i)))) e=_:=(Aw (BA he rn)).trans ab;refine ⟨_,rfl,_,rfl,_,_,_,_,rfl,rfl,Y,rfl,_,rfl,_,_,_,_,rfl,rfl,X,rfl,_,_,rfl,rfl,Bw L u,_,rfl,_,_,_,_,rfl,rfl,X,rfl,_,rfl,_,_,_,_,rfl,rfl,Y,rfl,_,_,rfl,rfl,Bw F n,_,_,rfl,rfl,?_⟩;refine ⟨(b.1*a.2 - c) ^ i,b.1*a.2 - c,rfl,by subst hc;rfl,Bw S bd,_,by rw [Int.pow_succ];rfl,λx o h=>Kp.upd x o (BA h rn) (W x o h),⋯,?_⟩;rw [upd_same];refine congrArg (λl=>some (HO.lst l)) (Fk ⋯ ?_ λq P a2=>?_)
   ·rw [sZ ⋯]
   ·by_cases h:q<i
    ·rw [sZ h,sZ ⋯]
    ·rw [sY h,sY ⋯]
  ·rintro G U ⟨A,rfl,W,il,m⟩
   have m:U r=some (.lst (((List.range d.length).map λq=>co f q*(b.1*a.2 - c) ^ q).map V.int)):=by
    rw [m];exact congrArg (λl=>some (HO.lst l)) (Ex λq P=>by rw [sZ ⋯])
   refine ⟨_,rfl,k r _ U W m (by rw [AJ,BI]) (λz C=>?_) ⟨((B ^ (d.length - 1):Int):Rat),?_,λy=>?_⟩⟩
   ·obtain ⟨j,hj,rfl⟩:=BD.mp C;have:=(Cc J j).mul (bd.pow j);have hj:=Eb.mp hj;exact this.mono ⋯
   ·have:(0:Int)<B ^ (d.length - 1):=Int.pow_pos (show 0<B by omega);have:(1:Int)<=B ^ (d.length - 1):=this;exact_mod_cast this
   ·rw [TN];have N:G' (λk=>((co f k*(b.1*a.2 - c) ^ k:Int):Rat)) d.length y=G' (λk=>(co f k:Rat)*((b.1*a.2 - c:Int):Rat) ^ k) d.length y:=IF λk _=>by rw [Au,KO]
    have e2:G' (λk=>(co f k:Rat)) d.length (((b.1*a.2 - c:Int):Rat)*y)=A_ f (((b.1*a.2 - c:Int):Rat)*y):=by rw [G5,lr,lR];rfl
    rw [N,TL,e2,er,<-hR,TN];have e3:∀ t,G' (λk=>((co d k*B ^ (d.length - 1 - k):Int):Rat)) d.length t=G' (λk=>(co d k:Rat)*(B:Rat) ^ (d.length - 1 - k)) d.length t:=λt=>IF λk _=>by rw [Au,KO]
    rw [e3];have e4:((b.1*a.2 - c:Int):Rat)*y+(c:Rat)=(B:Rat)*(val a+(val b - val a)*y):=by rw [<-v,<-M];ext
    rw [e4,TM _ _ _ _ _ (AS _),KO];have e5:G' (λk=>(co d k:Rat)) d.length (val a+(val b - val a)*y)=A_ d (val a+(val b - val a)*y):=by rw [G5];rfl
    rw [e5]
theorem Mm (a b:dD) (k:Nat):∀ n,n<=a.length->ps a b n k=cvL (a.take n) (co b) k
 | 0,_=>by rw [List.take_zero,BF];rfl
 | n+1,h=>by
   have e:a.take (n+1)=a.take n++[co a n]:=by
    rw [Eg,Ag ⋯];unfold co;rw [AO,Ag ⋯];rfl
   rw [e,DQ,<-Mm a b k n ⋯,CJ,Nat.min_eq_left ⋯];show ps a b n k+(if n<=k/\k - n<b.length then co a n*co b (k - n) else 0)=_;unfold Ax;by_cases c:n<=k
   ·rw [sZ c];by_cases d:k - n<b.length
    ·rw [sZ ⟨c,d⟩]
    ·rw [sY (λz=>d z.2),AZ (a:=b) ⋯];omega
   ·rw [sY c,sY (λz=>c z.1)];omega
def KP {c:TT} {t u:TS} {D:Ends} {σ:L2.St} {H:Hp} (h:c σ H λb a=>if b=true then t D σ a else u D σ a):BO c t u D σ H:=h
def wD {a b c:dD} (h:si c=si a*si b) (x:Rat):A_ c x=A_ a x*A_ b x:=by
 have e:Sr.L (qR c)=Sr.L (BC (qR a) (qR b)):=by rw [Sr.L_mulRow,CS,CS,CS];exact h
 rw [CQ,CQ,CQ,Sr.ev_congr e x,Sr.ev_mul]
def Mn {a b:dD} {κ:Rat} (h:si b=Sr.num κ*si a) (x:Rat):A_ b x=κ*A_ a x:=by
 have e:Sr.L (qR b)=Sr.L ((qR a).map (κ*·)):=by rw [Sr.L_scal,CS,CS];exact h
 rw [CQ,CQ,Sr.ev_congr e x,Sr.ev_scal]
def TQ {F S:dD} (h:Rad F S):Rad F (sq F):=by
 unfold sq;rw [dif_pos ⟨S,h⟩];exact Classical.choose_spec (⟨S,h⟩:∃ S,Rad F S)
def TR:(1:Sr)≠0:=λz=>by
 rw [<-Sr.num_one,show (0:Sr)=Sr.num 0 from rfl] at z;have e:(1:Rat)*Ad 0=0*Ad 0:=rJ (congrArg Sr.c z) 0;have o:(Ad 0:Rat)=1:=rfl;rw [o] at e;ext
def wE:Sr.Pol 1:=Sr.num_one ▸ Sr.Pol.num 1
theorem wF {q b:Sr} (r:Sr.Pol q) (d:Sr.Pol b) (h:b*q=1):∃ c:Rat,c≠0/\q=Sr.num c:=by
 have u:q≠0:=λz=>TR (by rw [<-h,z];ext);have e:b≠0:=λz=>TR (by rw [<-h,z];ext);obtain ⟨n,v⟩:=r.bn;obtain ⟨w,f⟩:=d.bn;rcases Sr.top_ex n v with z | ⟨j,_,g,p⟩
 ·exact absurd z u
 rcases Sr.top_ex w f with z | ⟨i,_,x,y⟩
 ·exact absurd z e
 have a:=(Sr.top_mul y p).1;rw [h,<-Sr.num_one] at a;have a:(1:Rat)*Ad (i+j)=b.c i*q.c j:=a;have A:b.c i*q.c j≠0:=λz=>(B6.mp z).elim x g
 have B:j=0:=by
  rcases DS j with z | z
  ·exact z
  ·obtain ⟨m,C⟩:∃ m,i+j=m+1:=⟨i+j - 1,⋯⟩;rw [C] at a;have o:(Ad (m+1):Rat)=0:=rfl;rw [o] at a;exact absurd (by rw [<-a];ext) A
 subst B;refine ⟨q.c 0,g,Sr.ext' λk=>?_⟩;show q.c k=q.c 0*Ad k;cases k with
 | zero=>show _=_*(1:Rat);ext
 | succ k=>rw [p (k+1) ⋯];show _=_*(0:Rat);ext
def Rad.prop {F S m:dD} (h:Rad F S) (h':Rad F m):∃ n:Rat,n≠0/\∀ x,A_ m x=n*A_ S x:=by
 obtain ⟨b,c,L,o,r,e⟩:=h;obtain ⟨_,d,I,f,p,y⟩:=h';obtain ⟨q,v,w⟩:=Sw b r p;obtain ⟨g,a,j⟩:=Sw b p r;obtain ⟨T,M,J,A,N,B,_⟩:=r;have C:L≠0:=λz=>b (by rw [B,z];ext);have u:g*q=1:=Sr.cancel (a.mul v) wE A C (by rw [show g*q*L=g*(q*L) by ext,<-w,<-j];ext);obtain ⟨k,D,G⟩:=wF v a u;refine ⟨d*k*c⁻¹,λz=>?_,λx=>Mn ?_ x⟩
 ·rcases B6.mp z with z | z
  ·exact (B6.mp z).elim f D
  ·have i:c*c⁻¹=1:=Cf _ o;rw [z] at i;ext
 ·rw [y,w,G,e,<-Sr.num_num,<-Sr.num_num];have i:=Sr.num_inv o;rw [show Sr.num d*Sr.num k*Sr.num c⁻¹*(Sr.num c*L)=Sr.num d*Sr.num k*(Sr.num c⁻¹*Sr.num c)*L by ext,i];ext
def TU {a:dD} (q:QI (co a) (co (dI a)) Ad):∃ (U V:dD) (d:Int),d≠0/\∀ x:Rat,A_ U x*A_ a x+A_ V x*dQ a x=(d:Rat):=by
 obtain ⟨d,c,U,V,f⟩:=q;refine ⟨U,V,d,c,λx=>?_⟩
 have e:si [d]=si U*si a+si V*si (dI a):=by
  rw [Dh U,Dh V,Sr.L_mul,Sr.L_mul];refine Sr.ext' λk=>?_;show ((co [d] k:Int):Rat)=cvL (U.map λz:Int=>(z:Rat)) (si a).c k+cvL (V.map λz:Int=>(z:Rat)) (si (dI a)).c k
  have o:co [d] k=d*Ad k:=by
   cases k with
   | zero=>show d=d*1;omega
   | succ k=>show (0:Int)=d*0;omega
  rw [o,f k];have g:=Ez (co a) U k;have h:=Ez (co (dI a)) V k;push_cast;rw [g,h];rfl
 have i:Sr.L (qR [d])=Sr.L (Ap (BC (qR U) (qR a)) (BC (qR V) (qR (dI a)))):=by rw [Sr.L_add,Sr.L_mulRow,Sr.L_mulRow,CS,CS,CS,CS,CS];exact e
 have b:=Sr.ev_congr i x;rw [Sr.ev_add,Sr.ev_mul,Sr.ev_mul,<-CQ,<-CQ,<-CQ,<-CQ,<-CQ,TF] at b;rw [<-b];show (d:Rat)+x*0=d;ext
def Rad.qi {F S:dD} (h:Rad F S):QI (co S) (co (dI S)) Ad:=xK h.1 h.2
def Rad.sf {F S:dD} (h:Rad F S):Sf S:=λx a b=>by
 obtain ⟨U,V,d,c,e⟩:=TU h.qi;have:=e x;rw [a,b] at this;exact Am c (by rw [<-this];ext)
def Rad.same {F S c:dD} (h:Rad F S) (h':Rad F c) (a b:Rat):Nf (A_ c) a b=Nf (A_ S) a b:=by
 obtain ⟨d,f,e⟩:=h.prop h';rw [show A_ c=λt=>d*A_ S t from funext e];exact Nf.scl f
def Rad.zero {F S:dD} (h:Rad F S) (x:Rat):A_ F x=0↔A_ S x=0:=by
 rw [CQ,CQ];exact xH h.1 h.2 x
theorem Mo:∀ l:List Rat,Pn l.length (Sr.ev l)
 | []=>⟨0,λ_=>rfl⟩
 | a::l=>⟨a,Sr.ev l,Mo l,λ_=>rfl⟩
def Rad.pow {F S:dD} (h:Rad F S):∃ (K:Rat->Rat) (k e:Nat),Pn k K/\∀ x,A_ F x*K x=1*A_ S x ^ e:=by
 obtain ⟨i,c,L,N,⟨T,M,⟨t,rfl⟩,⟨l,rfl⟩,j,d,o,O⟩,p⟩:=h;have q:Sr.L t≠0:=λz=>i (by rw [d,z];ext)
 have r:Sr.D (Sr.L t)*Sr.L l=(M - Sr.D (Sr.L l))*Sr.L t:=by
  rw [d,Sr.D_mul (Sr.Pol.L t)] at o;ext
 obtain ⟨m,a,⟨b,rfl⟩,u⟩:=Sr.rad_pow _ _ _ _ (Sr.L_bn t) q (Sr.Pol.L l) (j.sub (Sr.Pol.L l).D) r
 have f:∀ n:Nat,∃ w:List Rat,Sr.L w=Sr.L l ^ n/\∀ x,Sr.ev w x=Sr.ev l x ^ n:=λn=>by
  induction n with
  | zero=>exact ⟨[1],by rw [<-Sr.num_L,Sr.num_one];ext,λx=>by show (1:Rat)+x*0=_;rw [BJ];ext⟩
  | succ n g=>
    obtain ⟨w,y,A⟩:=g;exact ⟨BC w l,by rw [Sr.L_mulRow,y];ext,λx=>by rw [Sr.ev_mul,A,A3]⟩
 obtain ⟨w,B,C⟩:=f m
 have D:∀ x,A_ S x=c*Sr.ev l x:=λx=>by
  have G:Sr.L (qR S)=Sr.L (l.map (c*·)):=by rw [CS,Sr.L_scal];exact p
  rw [CQ,Sr.ev_congr G,Sr.ev_scal]
 have I:∀ x,A_ F x=Sr.ev t x*Sr.ev l x:=λx=>by
  have en:Sr.L (qR F)=Sr.L (BC t l):=by rw [CS,Sr.L_mulRow];exact d
  rw [CQ,Sr.ev_congr en,Sr.ev_mul]
 refine ⟨λx=>c ^ (m+1)*Sr.ev b x,b.length,m+1,(Mo b).scale _,λx=>?_⟩
 have v:Sr.ev l x ^ m=Sr.ev b x*Sr.ev t x:=by
  rw [<-C];have:Sr.L w=Sr.L (BC b t):=by rw [B,Sr.L_mulRow];exact u
  rw [Sr.ev_congr this,Sr.ev_mul]
 rw [I,D]
 have J:∀ n:Nat,(c*Sr.ev l x) ^ n=c ^ n*Sr.ev l x ^ n:=λn=>by
  induction n with
  | zero=>rw [BJ,BJ,BJ];ext
  | succ n g=>rw [A3,A3,A3,g];ext
 rw [J,A3 (Sr.ev l x),v];ext
theorem Mq (R:Rat) (b:0<=R):∀ l:dD,∃ C,0<=C/\∀ x,-R<=x->x<=R->A_ l x<=C/\-A_ l x<=C
 | []=>⟨0,(),λx _ _=>by show (0:Rat)<=0/\-(0:Rat)<=0;constructor <;> ext⟩
 | a::l=>by
   obtain ⟨C,d,e⟩:=Mq R b l;obtain ⟨i,j⟩:=aI a;have k:(0:Rat)<=((a.natAbs:Nat):Rat):=by exact_mod_cast Aa _
   refine ⟨((a.natAbs:Nat):Rat)+R*C,by have:=Ab b d;ext,λx f c=>?_⟩;obtain ⟨g,h⟩:=e x f c;obtain ⟨m,n⟩:=EZ c (show -x<=R by ext) g h;show (a:Rat)+x*A_ l x<=_/\-((a:Rat)+x*A_ l x)<=_;constructor <;> ext
def be (x:Rat):∃ N:Rat,0<=N/\x<=N/\-x<=N:=by
 rcases (BE:x<=0\/0<=x) with z | z
 ·exact ⟨-x,(),(),()⟩
 ·exact ⟨x,(),(),()⟩
def Rad.scl {F G S:dD} {κ:Rat} (a:κ≠0) (e:si G=Sr.num κ*si F) (h:Rad F S):Rad G S:=by
 obtain ⟨b,c,L,d,⟨T,M,f,g,j,k,m,n⟩,o⟩:=h;refine ⟨λz=>b ?_,c,L,d,⟨Sr.num κ*T,M,(Sr.Pol.num κ).mul f,g,j,by rw [e,k];ext,by rw [e,Sr.D_num,m];ext,n⟩,o⟩;have i:=Sr.num_inv a;rw [show si F=Sr.num κ⁻¹*Sr.num κ*si F by rw [i];ext,show Sr.num κ⁻¹*Sr.num κ*si F=Sr.num κ⁻¹*(Sr.num κ*si F) by ext,<-e,z];ext
def Rad.unscl {F G S:dD} {κ:Rat} (a:κ≠0) (e:si G=Sr.num κ*si F) (h:Rad G S):Rad F S:=by
 have i:=Sr.num_inv a;refine h.scl (κ:=κ⁻¹) (λz=>?_) ?_
 ·have j:κ*κ⁻¹=1:=Cf _ a;rw [z] at j;ext
 ·rw [e,show Sr.num κ⁻¹*(Sr.num κ*si F)=Sr.num κ⁻¹*Sr.num κ*si F by ext,i];ext
noncomputable def bh (a:Rat):Option Rat->Rat
 | none=>-a
 | some x=>if x < -a then -a else x
noncomputable def bj (a:Rat):Option Rat->Rat
 | none=>a
 | some x=>if a<x then a else x
def wH {S:dD} (j:Sf S) {a s p q:Rat} (r:0<a) (k:∀ x,a<=x->0<A_ S x) (m:∀ x,x<=-a->0<A_ S x*s) (g:p<q) :
  Nf (A_ S) p q=if (if p < -a then -a else p)<(if a<q then a else q) then Nf (A_ S) (if p < -a then -a else p) (if a<q then a else q) else 0:=by
 have L:∀ p q,p<q->q<=-a->Nf (A_ S) p q=0:=λp q c d=>Nf.one c λx _ u=>m x ();have R:∀ p q,p<q->a<=p->Nf (A_ S) p q=0:=λp q c d=>Nf.one (s:=1) c λx v _=>by have:=k x ();ext
 have n:A_ S (-a)≠0:=λz=>by have:=m (-a) ();rw [z] at this;ext
 have o:A_ S a≠0:=λz=>by have:=k a ();rw [z] at this;ext
 have right:∀ p,p<a->a<q->Nf (A_ S) p q=Nf (A_ S) p a:=λp c d=>by
  rw [j.node c d,R a q d (),sY o];rfl
 by_cases f:p < -a
 ·rw [sZ f];by_cases h:-a<q
  ·have e:Nf (A_ S) p q=Nf (A_ S) (-a) q:=by rw [j.node f h,L p (-a) f (),sY n];omega
   rw [e];by_cases b:a<q
   ·rw [sZ b,sZ (),right _ () b]
   ·rw [sY b,sZ h]
  ·rw [sY (show ¬ a<q by ext),sY h,L p q g ()]
 ·rw [sY f];by_cases b:a<q
  ·rw [sZ b];by_cases i:p<a
   ·rw [sZ i,right p i b]
   ·rw [sY i,R p q g ()]
  ·rw [sY b,sZ g]
theorem KQ (o:Option Rat):∃ A,0<=A/\∀ x,o=some x->x<=A/\-x<=A:=by
 cases o with
 | none=>exact ⟨0,(),λx h=>nomatch h⟩
 | some y=>
   obtain ⟨N,a,b,c⟩:=be y;exact ⟨N,a,λx h=>by cases h;exact ⟨b,c⟩⟩
def wI {d f:dD} (R:Rad d f) {a s:Rat} (o:0<a) (k:∀ x,a<=x->0<A_ f x) (m:∀ x,x<=-a->0<A_ f x*s) {lo hi:Option Rat} (n:∀ x y,lo=some x->hi=some y->x<y) :
  (¬ bh a lo<bj a hi->c6 d (sq d) lo hi 0)/\(bh a lo<bj a hi->c6 d (sq d) lo hi (Nf (A_ f) (bh a lo) (bj a hi)+cF d hi)):=by
 have p:=TQ R;obtain ⟨A,D,q⟩:=KQ lo;obtain ⟨B,F,u⟩:=KQ hi
 have g:∀ r b,a+1+A+B<=r->a+1+A+B<=b->Nf (A_ (sq d)) (lo.getD (-r)) (hi.getD b)=if bh a lo<bj a hi then Nf (A_ f) (bh a lo) (bj a hi) else 0:=λr b i e=>by
  rw [R.same p]
  have v:lo.getD (-r)<hi.getD b:=by
   cases lo with
   | none=>
     cases hi with
     | none=>show -r<b;ext
     | some y=>have:=u y rfl;show -r<y;ext
   | some x=>
     cases hi with
     | none=>have:=q x rfl;show x<b;ext
     | some y=>exact n x y rfl rfl
  rw [wH R.sf o k m v]
  have w:(if lo.getD (-r) < -a then -a else lo.getD (-r))=bh a lo:=by
   cases lo with
   | none=>show (if -r < -a then -a else -r) = -a;rw [sZ ()]
   | some x=>rfl
  have j:(if a<hi.getD b then a else hi.getD b)=bj a hi:=by
   cases hi with
   | none=>show (if a<b then a else b)=a;rw [sZ ()]
   | some x=>rfl
  rw [w,j]
 constructor
 ·intro c;refine ⟨a+1+A+B,λr b i e=>?_⟩;rw [g r b i e,sY c];cases hi with
  | none=>rfl
  | some y=>
    have C:A_ d y≠0:=λz=>by
     have z:=(R.zero y).mp z;have G:¬ a<=y:=λh=>by have:=k y h;rw [z] at this;ext
     have I:¬ y<=-a:=λh=>by have:=m y h;rw [z] at this;ext
     refine c ?_;have j:bj a (some y)=y:=sY ();rw [j];cases lo with
     | none=>show -a<y;ext
     | some x=>
       have:=n x y rfl rfl;show (if x < -a then -a else x)<y;split <;> ext
    show 0=0+if A_ d y=0 then 1 else 0
    rw [sY C]
 ·intro c;refine ⟨a+1+A+B,λr b i e=>?_⟩;rw [g r b i e,sZ c]
def wJ {a:dD} {e:Int} (B:Lz a) (j:0<lst' a) (h:∀ i,i+1<a.length->2 ^ (a.length - 1 - i)*(co a i).natAbs*2 ^ ((a.length - 1 - i)*(-e).toNat)<=(lst' a).natAbs*2 ^ ((a.length - 1 - i)*e.toNat)) {b:Rat} (m:b*((2 ^ (-e).toNat:Nat):Rat)=((2 ^ e.toNat:Nat):Rat)) :
  0<b/\(∀ x,b<=x->0<A_ a x)/\∃ s:Rat,∀ x,x<=-b->0<A_ a x*s:=by
 have r:a≠[]:=C3.mp B.1;have P:(0:Rat)<((2 ^ (-e).toNat:Nat):Rat):=by exact_mod_cast Bz ∅
 have R:(0:Rat)<((2 ^ e.toNat:Nat):Rat):=by exact_mod_cast Bz ∅
 have C:0<b:=CV.mp λz=>by
  have:=Ab (show 0<=-b by ext) (show 0<=((2 ^ (-e).toNat:Nat):Rat) by ext);ext
 have c:(0:Rat)<((lst' a:Int):Rat):=by exact_mod_cast j
 have D:(((lst' a).natAbs:Nat):Rat)=((lst' a:Int):Rat):=by
  have:(((lst' a).natAbs:Nat):Int)=lst' a:=by omega
  exact_mod_cast this
 have u:∀ i,i+1<a.length->((co a i:Int):Rat)<=((lst' a:Int):Rat)*(b / 2) ^ (a.length - 1 - i)/\-((co a i:Int):Rat)<=((lst' a:Int):Rat)*(b / 2) ^ (a.length - 1 - i):=λi F=>by
  have d:=h i F;generalize a.length - 1 - i=k at d ⊢
  have q:(b / 2) ^ k*(((2 ^ k*2 ^ (k*(-e).toNat):Nat)):Rat)=((2 ^ (k*e.toNat):Nat):Rat):=by
   have G:((2 ^ k*2 ^ (k*(-e).toNat):Nat):Rat)=(2*((2 ^ (-e).toNat:Nat):Rat)) ^ k:=by
    rw [Cy k,Nat.pow_mul,<-Nat.mul_pow];push_cast;rfl
   have I:((2 ^ (k*e.toNat):Nat):Rat)=(((2 ^ e.toNat:Nat):Rat)) ^ k:=by
    rw [Cy k,Nat.pow_mul];push_cast;rfl
   rw [G,I,<-KN,<-m];congr 1;ext
  have d:(((co a i).natAbs:Nat):Rat)*((2 ^ k*2 ^ (k*(-e).toNat):Nat):Rat)<=((lst' a:Int):Rat)*((2 ^ (k*e.toNat):Nat):Rat):=by
   rw [<-D]
   have:(co a i).natAbs*(2 ^ k*2 ^ (k*(-e).toNat))<=(lst' a).natAbs*2 ^ (k*e.toNat):=by
    rw [show (co a i).natAbs*(2 ^ k*2 ^ (k*(-e).toNat))=2 ^ k*(co a i).natAbs*2 ^ (k*(-e).toNat) by rw [Cy (2 ^ k) (co a i).natAbs,Nat.mul_assoc]];exact d
   exact_mod_cast this
  have J:(0:Rat)<((2 ^ k*2 ^ (k*(-e).toNat):Nat):Rat):=by exact_mod_cast Nat.mul_pos (Bz ∅) (Bz ∅)
  rw [<-q] at d;generalize ((2 ^ k*2 ^ (k*(-e).toNat):Nat):Rat)=w at *;generalize (b / 2) ^ k=g at *
  have v:(((co a i).natAbs:Nat):Rat)<=((lst' a:Int):Rat)*g:=Cu.mp λz=>by
   have:=Ar (show 0<(((co a i).natAbs:Nat):Rat) - ((lst' a:Int):Rat)*g by ext) J;ext
  obtain ⟨L,M⟩:=aI (co a i);exact ⟨Rat.le_trans L v,Rat.le_trans M v⟩
 have A:∀ (y:Rat) (n:Nat),0<y->0<y ^ n:=λy n N=>by
  induction n with
  | zero=>rw [BJ];ext
  | succ n p=>rw [A3];exact Ar p N
 refine ⟨C,λx O=>?_,(-1) ^ (a.length - 1),λx O=>?_⟩
 ·have f:=Mf (γ:=b / 2) (y:=x / 2) (s:=1) c () () (.inl rfl) a r rfl u
  have o:∀ n:Nat,(1:Rat) ^ n=1:=λn=>by
   induction n with
   | zero=>rw [BJ]
   | succ n p=>rw [A3,p];ext
  rw [o,show (1:Rat)*(2*(x / 2))=x by grind] at f;have:=Ar c (A (x / 2) (a.length - 1) ());ext
 ·have f:=Mf (γ:=b / 2) (y:=-x / 2) (s:=-1) c () () (.inr rfl) a r rfl u;rw [show (-1:Rat)*(2*(-x / 2))=x by grind] at f;have:=Ar c (A (-x / 2) (a.length - 1) ());ext
def FT {a b:Nu} (e:0<a.2) (f:0<b.2):val a<val b↔a.1*b.2<b.1*a.2:=by
 have g:(0:Rat)<(a.2:Rat):=by exact_mod_cast e
 have i:(0:Rat)<(b.2:Rat):=by exact_mod_cast f
 have j:val a*(a.2:Rat)=a.1:=DF ();have k:val b*(b.2:Rat)=b.1:=DF ();have p:=Ar g i;have c:((a.1*b.2:Int):Rat)=val a*((a.2:Rat)*(b.2:Rat)):=by rw [Au,<-j];ext
 have d:((b.1*a.2:Int):Rat)=val b*((a.2:Rat)*(b.2:Rat)):=by rw [Au,<-k];ext
 constructor
 ·intro h
  have:((a.1*b.2:Int):Rat)<((b.1*a.2:Int):Rat):=by
   rw [c,d];have:=Ar (show 0<val b - val a by ext) p;ext
  exact_mod_cast this
 ·intro h;have h:((a.1*b.2:Int):Rat)<((b.1*a.2:Int):Rat):=by exact_mod_cast h
  rw [c,d] at h;refine CV.mp λz=>?_;have:=Ab (show 0<=val a - val b by ext) (show 0<=(a.2:Rat)*(b.2:Rat) by ext);ext
def TV {l:dg} (hl:A7 l) (x:Rat):cE l x=A_ (Aj l) x / ((Ao l:Int):Rat):=by
 unfold cE;have e:E_ l=λi=>a6 (co (Aj l)) i / ((Ao l:Int):Rat):=funext λi=>GC hl (Dc hl) i;rw [e,Lp,Mg];congr 2;refine Eh λi=>?_;rw [Ae];rcases BN i l.length with q | q
 ·have a:i<(Aj l).length:=by rw [D7];exact q
  rw [Co q,Ag a];show some ((Aj l).getD i 0)=_;rw [AO,Ag a];rfl
 ·rw [Ba (by rw [BI];exact q),Ba (by rw [D7];exact q)];rfl
def Mr {l:dD} {z:Int} (h:z∈l):∃ k,co l k=z:=by
 obtain ⟨i,a,rfl⟩:=FX h;exact ⟨i,by unfold co;rw [AO,Ag a];rfl⟩
theorem EndV.kp {H b:Hp} {v:V} {o:Option Nu} (h:EndV H v o) (s:Same H b):EndV b v o:=by
 cases o with
 | none=>exact h
 | some q=>obtain ⟨a,e,n,r⟩:=h;exact ⟨a,e,s _ _ n,r⟩
structure Cl (H:Hp) (v:V) (x:Rat) (a:Nu):Prop where
 ref:∃ p,v=.ref p/\Nm H p a.1 a.2
 pos:0<a.2
 b1:Bd 210 a.1
 b2:Bd 210 a.2
 val:val a=x
theorem wK (h:J7 K vs H Q E):ZN K (eC Q) (L2.start ["P","low","high","row","exponent","bound","below","start","end","many"] vs) H:=by
 obtain ⟨p,D,lo,hi,v,w,rfl,⟨xs,l,κ,hp,hN,G,l1,l9,k0,a4⟩,hv,hw,lt,k⟩:=h;obtain ⟨bZ,bB,b1⟩:=G.clr;have cl:=D7 l;have a5:=Fl (HK G.low G.nz) λz=>by have:=congrArg List.length z;rw [cl] at this;have:l.length=0:=this;omega
 refine BW (Jf (Af (Jf ⟨_,rfl,p,xs,l,Ao l,rfl,hp,hN,G.low,Dc G.low,bB.mono ∅,λq F=>(b1 q F).mono ∅,⋯,λr0 a0 H1 s1 ar aw=>⟨_,_,_,_,rfl,rfl,ar,rfl,a0,Aj l,rfl,aw,a5,bZ,⋯,λr rs H2 s2 hr lz S o ax ab=>?_⟩⟩)));have R:Rad D rs:=Rad.unscl k0 a4 ⟨MX a5,ax⟩;refine Jd ⟨_,rfl,r,rs,rfl,hr,lz,S,o,ab,λe H3 s3 e1 e2 he=>?_⟩;show RM K _ [some (.ref p),some v,some w,some (.ref r),some (.int e),none,none,none,none,none] H3;have o1:blN (1:Int)=1:=by decide
 have m1:(if (0:Int) > e then 0 else e)=((e.toNat:Nat):Int):=by split <;> omega
 have m2:(if (0:Int) > -e then 0 else -e)=(((-e).toNat:Nat):Int):=by split <;> omega
 refine BW (C7 ⟨_,rfl,e,0,rfl,1,_,rfl,rfl,⟨by rw [m1];omega,by rw [m1,o1];omega⟩,_,rfl,_,rfl,-e,0,rfl,1,_,rfl,rfl,⟨by rw [m2];omega,by rw [m2,o1];omega⟩,CP,λt ht=>?_⟩);rw [m1,m2];show L7 K _ [some (.ref p),some v,some w,some (.ref r),some (.int e),some (.ref t),none,none,none,none] (upd H3 t (.tup [.int (1*2 ^ ((e.toNat:Nat):Int).toNat),.int (1*2 ^ (((-e).toNat:Nat):Int).toNat)]));rw [DB,DB];have A0:(0:Int)<1*2 ^ e.toNat:=by rw [Dn];exact Int.pow_pos ∅
 have T:(0:Int)<1*2 ^ (-e).toNat:=by rw [Dn];exact Int.pow_pos ∅
 have bA:Bd 201 (1*2 ^ e.toNat):=by
  rw [Dn]
  have:Bd (1*e.toNat+1) ((2:Int) ^ e.toNat):=by
   unfold Bd;rw [Int.natAbs_pow];exact Nat.pow_lt_pow_right ∅ ⋯
  exact this.mono ⋯
 have I:Bd 201 (1*2 ^ (-e).toNat):=by
  rw [Dn]
  have:Bd (1*(-e).toNat+1) ((2:Int) ^ (-e).toNat):=by
   unfold Bd;rw [Int.natAbs_pow];exact Nat.pow_lt_pow_right ∅ ⋯
  exact this.mono ⋯
 have b2:val ((1*2 ^ e.toNat:Int),(1*2 ^ (-e).toNat:Int))*((2 ^ (-e).toNat:Nat):Rat)=((2 ^ e.toNat:Nat):Rat):=by
  have q:=DF (a:=((1*2 ^ e.toNat:Int):Rat)) (Am (AU T));have c1:(((2:Nat) ^ (-e).toNat:Nat):Rat)=((1*2 ^ (-e).toNat:Int):Rat):=by rw [Dn];push_cast;rfl
  have c2:(((2:Nat) ^ e.toNat:Nat):Rat)=((1*2 ^ e.toNat:Int):Rat):=by rw [Dn];push_cast;rfl
  rw [c1,c2];exact q
 have bk:((2 ^ e.toNat:Nat):Rat)<=((2 ^ 200:Nat):Rat):=by exact_mod_cast CK ∅ (show e.toNat<=200 by omega)
 have b3:(1:Rat)<=((2 ^ (-e).toNat:Nat):Rat):=by
  have:1<=2 ^ (-e).toNat:=Bz ∅;exact_mod_cast this
 obtain ⟨b0,fp,s,fm⟩:=wJ lz ab he b2
 have u:val (-(1*2 ^ e.toNat:Int),(1*2 ^ (-e).toNat:Int)) = -val ((1*2 ^ e.toNat:Int),(1*2 ^ (-e).toNat:Int)):=by
  show ((-(1*2 ^ e.toNat):Int):Rat) / _ = -(((1*2 ^ e.toNat:Int):Rat) / _);rw [C2,Rat.div_def,Rat.div_def];ext
 generalize (1*2 ^ e.toNat:Int)=A at *;generalize (1*2 ^ (-e).toNat:Int)=B at *
 have bl:val (A,B)<=((2 ^ 200:Nat):Rat):=by
  have:=AR b3 (show 0<=val (A,B) by ext);ext
 generalize X:val (A,B)=β at *;have s4:=AQ ht (.tup [.int A,.int B]);have Y:upd H3 t (.tup [.int A,.int B]) t=some (.tup [.int A,.int B]):=upd_same;generalize upd H3 t (.tup [.int A,.int B])=H4 at s4 Y ⊢;show L7 K _ [some (.ref p),some v,some w,some (.ref r),some (.int e),some (.ref t),none,none,none,none] H4;refine BW (C7 ⟨_,rfl,_,_,_,_,rfl,rfl,Y,rfl,_,rfl,_,rfl,_,_,_,_,rfl,rfl,Y,rfl,CP,λC b4=>?_⟩);have s5:=AQ b4 (.tup [.int (-A),.int B]);have Z:upd H4 C (.tup [.int (-A),.int B]) C=some (.tup [.int (-A),.int B]):=upd_same;show RK K _ [some (.ref p),some v,some w,some (.ref r),some (.int e),some (.ref t),some (.ref C),none,none,none] (upd H4 C (.tup [.int (-A),.int B]));generalize upd H4 C (.tup [.int (-A),.int B])=O at s5 Z ⊢;have Y:=s5 _ _ Y;have J:=s1.trans (s2.trans (s3.trans (s4.trans s5)));have b8:=hv.kp J;have b9:=hw.kp J
 have a1:∀ (x y:V) (a b:Nu),Cl O x (bh β (lo.map val)) a->Cl O y (bj β (hi.map val)) b->RI K { nx:=λ_ H'=>Q V.non H',rt:=Q } [some (.ref p),some v,some w,some (.ref r),some (.int e),some (.ref t),some (.ref C),some x,some y,none] O:=λx y a b P cb=>by
  obtain ⟨⟨xa,rfl,ac⟩,ap,aj,a2,va⟩:=P;obtain ⟨⟨yb,rfl,al⟩,bp,am,a3,vb⟩:=cb
  have lt':∀ x y,lo.map val=some x->hi.map val=some y->x<y:=λx y h1 L=>by
   cases lo with
   | none=>cases h1
   | some a=>
     cases hi with
     | none=>cases L
     | some b=>
       cases h1;cases L;exact lt a b rfl rfl
  obtain ⟨c0,c1⟩:=wI R b0 fp fm lt';rw [<-va,<-vb] at c0 c1;have Rq:=TQ R;refine Dy ?_;refine B4 ⟨_,rfl,_,rfl,xa,yb,a.1,a.2,b.1,b.2,rfl,ac,al,aj.mono ∅,a2.mono ∅,am.mono ∅,a3.mono ∅,_,rfl,AV (λc=>?_) (λc=>?_)⟩
  ·have c:¬ val a<val b:=λz=>by
    rw [rA ((FT ap bp).mp z)] at c;cases c
   have:=k 0 O J Rq (c0 c);exact this
  ·have c:val a<val b:=(FT ap bp).mpr (by
    by_cases z:a.1*b.2<b.1*a.2
    ·exact z
    ·exact absurd (by rw [rC z];rfl) c)
   show RH K _ _ _;have ba:=s5 _ _ (s4 _ _ (s3 _ _ hr));refine Jd (CZ ⟨_,rfl,_,rfl,_,rfl,r,xa,yb,rs,a,b,rfl,ba,ac,al,S,o,ap,bp,aj,a2,am,a3,c,λr6 qs H6 s6 h6 l6 b6 ⟨M,M1,eM⟩=>?_⟩);obtain ⟨U,Wb,d,d0,hU,hW,lU,lW,uv⟩:=bez lz S o R.qi
   have la:-β<=val a:=by
    rw [va];cases lo with
    | none=>show -β<=-β;ext
    | some x=>show -β<=if val x < -β then -β else val x;split <;> ext
   have lb:val b<=β:=by
    rw [vb];cases hi with
    | none=>show β<=β;ext
    | some x=>show (if β<val x then β else val x)<=β;split <;> ext
   have D1:1<=(val b - val a)*((2 ^ 420:Nat):Rat):=by
    have h1:(0:Rat)<(a.2:Rat):=by exact_mod_cast ap
    have L:(0:Rat)<(b.2:Rat):=by exact_mod_cast bp
    have q1:val a*(a.2:Rat)=a.1:=DF ();have q2:val b*(b.2:Rat)=b.1:=DF ();have z:=(FT ap bp).mp c;have z1:(1:Int)<=b.1*a.2 - a.1*b.2:=by omega
    have z2:(1:Rat)<=((b.1*a.2 - a.1*b.2:Int):Rat):=by exact_mod_cast z1
    have z3:((b.1*a.2 - a.1*b.2:Int):Rat)=(val b - val a)*((a.2*b.2:Int):Rat):=by
     rw [Rat.intCast_sub,Au,Au,Au,<-q1,<-q2];ext
    have z4:((a.2*b.2:Int):Rat)<=((2 ^ 420:Nat):Rat):=by
     have bm:Bd 420 (a.2*b.2):=a2.mul a3;have:(a.2*b.2).natAbs<2 ^ 420:=bm;have h3:a.2*b.2<=((2 ^ 420:Nat):Int):=by omega
     exact_mod_cast h3
    have z5:=AR z4 (show 0<=val b - val a by ext);ext
   have mU:∀ z∈U,z.natAbs<=2 ^ 2400:=λz hz=>by obtain ⟨i,rfl⟩:=Mr hz;exact C9 (hU i)
   have mW:∀ z∈Wb,z.natAbs<=2 ^ 2400:=λz hz=>by obtain ⟨i,rfl⟩:=Mr hz;exact C9 (hW i)
   obtain ⟨U',W',sk⟩:=xN (Δ:=val b - val a) d0 mU mW lU lW uv () () () () () D1 M1 ⋯ b6 eM
   have nf:Nf (A_ qs) 0 1=Nf (A_ rs) (val a) (val b):=by
    rw [show A_ qs=λt=>M*A_ rs (val a+(val b - val a)*t) from funext eM,Nf.aff () (),show val a+(val b - val a)*0=val a by ext,show val a+(val b - val a)*1=val b by grind]
   refine ⟨r6,qs,U',W',_,100000,rfl,h6,⋯,b6,⋯,sk,λH7 s7=>?_⟩;rw [nf];have f:=c1 c;generalize Nf (A_ rs) (val a) (val b)=N at *;have bb:=s6.trans s7;have n:=J.trans bb;show RG K _ [some (.ref p),some v,some w,some (.ref r),some (.int e),some (.ref t),some (.ref C),some (.ref xa),some (.ref yb),some (.int (N:Int))] H7;cases hi with
   | none=>
     have hw:w=.non:=hw;subst hw;refine Dy ⟨_,rfl,rfl,_,rfl,AV (λc=>nomatch c) (λ_=>AV (λc=>nomatch c) (λ_=>?_))⟩;exact ⟨_,rfl,k N H7 n Rq f⟩
   | some q=>
     obtain ⟨qa,rfl,F,lq,g,j⟩:=hw.kp n;refine Dy ⟨_,rfl,rfl,_,rfl,AV (λ_=>?_) (λc=>absurd rfl c)⟩;refine EY (Af (B4 ⟨_,rfl,_,rfl,p,qa,xs,l,q.1,q.2,40,rfl,n _ _ hp,F,hN.tp (V_ n),G,∅,lq,g.mono ∅,j.mono ∅,⋯,λr8 H8 z s8 hz an _ _ ez=>?_⟩));refine ⟨CP,λt9 bc=>?_⟩;have s9:=AQ bc (.tup [.int 0,.int 1]);obtain ⟨pz,bd,bf⟩:=hz
     have zz:z=(0,1)↔A_ D (val q)=0:=by
      have ao:A_ (Aj l) (val q)=κ*A_ D (val q):=Mn a4 _;have bg:((Ao l:Int):Rat)≠0:=Am (AU (Dc G.low).1);have ez:val z=A_ (Aj l) (val q) / ((Ao l:Int):Rat):=ez.trans (TV G.low _);constructor
      ·intro h;have v0:val z=0:=by rw [h];show ((0:Int):Rat) / _=0;rw [show ((0:Int):Rat)=0 from rfl,R_]
       rw [v0,ao] at ez;have:κ*A_ D (val q) / ((Ao l:Int):Rat)*((Ao l:Int):Rat)=κ*A_ D (val q):=DF bg;rw [<-ez] at this;have:κ*A_ D (val q)=0:=by rw [<-this];ext
       exact (B6.mp this).resolve_left k0
      ·intro h;rw [ao,h] at ez
       have v0:val z=val (0,1):=by
        rw [ez];show κ*0 / _=((0:Int):Rat) / _;rw [show κ*0=(0:Rat) by ext,show ((0:Int):Rat)=0 from rfl,R_,R_]
       exact FK an Ho v0
     have rz:RepD (upd H8 t9 (.tup [.int 0,.int 1])) (.ref r8) (GF z):=Jc ⟨pz,bd,s9 _ _ bf⟩;have bi:RepD (upd H8 t9 (.tup [.int 0,.int 1])) (.ref t9) (GF (0,1)):=Jc ⟨t9,rfl,upd_same⟩;refine ⟨_,_,decide (z=(0,1)),rz,bi,cX _ _,cX _ _,?_,_,rfl,AV (λc=>?_) (λc=>?_)⟩
     ·constructor
      ·intro h;rw [rB h]
      ·intro h;refine rA ?_;have h:W.Dat.tuple [.int z.1,.int z.2]=.tuple [.int 0,.int 1]:=h;injection h with h;injection h with h1 L;injection h1 with h1;injection L with L;injection L with L;exact Prod.ext h1 L
     ·have c:=zz.mp (rB c);refine ⟨_,rfl,_,_,rfl,rfl,_,rfl,?_⟩
      have:=k (N+1) _ (n.trans (s8.trans s9)) Rq (by
       have e:cF D (Option.map val (some q))=1:=sZ c;rw [e] at f;exact f)
      exact this
     ·have c:¬ A_ D (val q)=0:=λz=>c (rA (zz.mpr z))
      exact ⟨_,rfl,k N _ (n.trans (s8.trans s9)) Rq (by
       have e:cF D (Option.map val (some q))=0:=sY c;rw [e] at f;exact f)⟩
 have up:∀ (x:V) (a:Nu),Cl O x (bh β (lo.map val)) a->RJ K { nx:=λ_ H'=>Q V.non H',rt:=Q } [some (.ref p),some v,some w,some (.ref r),some (.int e),some (.ref t),some (.ref C),some x,none,none] O:=λx a P=>by
  have cb:Cl O (.ref t) β (A,B):=⟨⟨t,rfl,Y⟩,T,bA.mono ∅,I.mono ∅,X⟩;cases hi with
  | none=>
    have hw:w=.non:=hw;subst hw;refine BW ⟨_,rfl,rfl,_,rfl,AV (λ_=>AV (λ_=>?_) (λc=>absurd rfl c)) (λc=>absurd rfl c)⟩;exact ⟨_,rfl,a1 x _ a _ P cb⟩
  | some q=>
    obtain ⟨qa,rfl,F,lq,g,j⟩:=b9;have m:=lq.pos;refine BW ⟨_,rfl,rfl,_,rfl,AV (λc=>nomatch c) (λ_=>?_)⟩;refine B4 ⟨_,rfl,_,rfl,t,qa,A,B,q.1,q.2,rfl,Y,F,bA.mono ∅,I.mono ∅,g.mono ∅,j.mono ∅,_,rfl,AV (λc=>?_) (λc=>?_)⟩
    ·have c:β<val q:=by rw [<-X];exact (FT (a:=(A,B)) (b:=q) T m).mpr (rB c)
     refine ⟨_,rfl,a1 x _ a (A,B) P ?_⟩;have:bj β (Option.map val (some q))=β:=sZ c;rw [this];exact cb
    ·have c:¬ β<val q:=λz=>by rw [<-X] at z;exact c (rA ((FT (a:=(A,B)) (b:=q) T m).mp z))
     refine ⟨_,rfl,a1 x _ a q P ?_⟩;have:bj β (Option.map val (some q))=val q:=sY c;rw [this];exact ⟨⟨qa,rfl,F⟩,m,g.mono ∅,j.mono ∅,rfl⟩
 have P:Cl O (.ref C) (-β) (-A,B):=⟨⟨C,rfl,Z⟩,T,bA.neg.mono ∅,I.mono ∅,u⟩;cases lo with
 | none=>
   have hv:v=.non:=hv;subst hv;refine BW ⟨_,rfl,rfl,_,rfl,AV (λ_=>AV (λ_=>?_) (λc=>absurd rfl c)) (λc=>absurd rfl c)⟩;exact ⟨_,rfl,up _ _ P⟩
 | some q=>
   obtain ⟨qa,rfl,F,lq,g,j⟩:=b8;have m:=lq.pos;refine BW ⟨_,rfl,rfl,_,rfl,AV (λc=>nomatch c) (λ_=>?_)⟩;refine B4 ⟨_,rfl,_,rfl,qa,C,q.1,q.2,-A,B,rfl,F,Z,g.mono ∅,j.mono ∅,bA.neg.mono ∅,I.mono ∅,_,rfl,AV (λc=>?_) (λc=>?_)⟩
   ·have c:val q < -β:=by rw [<-u];exact (FT (a:=q) (b:=(-A,B)) m T).mpr (rB c)
    refine ⟨_,rfl,up _ (-A,B) ?_⟩;have:bh β (Option.map val (some q)) = -β:=sZ c;rw [this];exact P
   ·have c:¬ val q < -β:=λz=>by rw [<-u] at z;exact c (rA ((FT (a:=q) (b:=(-A,B)) m T).mp z))
    refine ⟨_,rfl,up _ q ?_⟩;have:bh β (Option.map val (some q))=val q:=sY c;rw [this];exact ⟨⟨qa,rfl,F⟩,m,g.mono ∅,j.mono ∅,rfl⟩
def Ms (a b:Rat):∃ m,a<=m/\b<=m:=by
 rcases (BE:a<=b\/b<=a) with z | z
 ·exact ⟨b,z,()⟩
 ·exact ⟨a,(),z⟩
def Pc.neg {σ:Rat->Rat} (h:Pc σ) {x y:Rat} (a:x<y) (b:σ y<=0):σ x<0:=CV.mp λz=>by have:=h.mono x y a z;ext
def Pc.lt {σ:Rat->Rat} (h:Pc σ) {x y:Rat} (b:σ x<0) (a:0<σ y):x<y:=CV.mp λz=>by
 rcases Fs.mp z with c | c
 ·have:=h.mono y x c ();ext
 ·rw [c] at a;ext
def Sep (p q:dD):Prop:=∃ x,C' p x*C' q x<0
def Fz.same {F:dD} {ps b:List (dD)} (h:Fz F ps) (e:∀ p,p∈b↔p∈ps):Fz F b:=
 ⟨λp hp=>h.pc p ((e p).mp hp),λx=>(h.zero x).trans ⟨λ⟨p,hp,z⟩=>⟨p,(e p).mpr hp,z⟩,λ⟨p,hp,z⟩=>⟨p,(e p).mp hp,z⟩⟩,λx y d f=>h.off x y d λp hp=>f p ((e p).mpr hp),λp hp=>by
  obtain ⟨q,g,k,i,j,m⟩:=h.chg p ((e p).mp hp);exact ⟨q,g,k,i,j,λx y n o r=>m x y n o λc a=>r c ((e c).mpr a)⟩⟩
theorem Pn.le {n m:Nat} {f:Rat->Rat} (h:Pn n f) (a:n<=m):Pn m f:=by
 induction a with
 | refl=>exact h
 | step _ b=>exact b.up
theorem Pn.mul:∀ {n m:Nat} {f g:Rat->Rat},Pn n f->Pn m g->Pn (n+m) (λt=>f t*g t)
 | 0,m,f,g,⟨c,h⟩,b=>by
   rw [show (λt=>f t*g t)=λt=>c*g t from funext λt=>by rw [h]];exact (b.scale c).le ⋯
 | n+1,m,f,g,⟨a,u,e,i⟩,b=>by
   have j:Pn (n+1+m) (λt=>a*g t):=(b.scale a).le ⋯;have d:Pn (n+m+1) (λt=>t*(u t*g t)):=⟨0,_,e.mul b,λt=>by ext⟩;have d:Pn (n+1+m) (λt=>t*(u t*g t)):=d.le ⋯;exact (j.add d).congr λt=>by rw [i];ext
def Fz.mul {F G M:dD} {ps A:List (dD)} (h:Fz F ps) (h':Fz G A) (e:si M=si F*si G):Fz M (ps++A):=by
 have ev:=wD e;refine ⟨λp hp=>(Bq.mp hp).elim (h.pc p) (h'.pc p),λx=>?_,λx y B C=>?_,λp hp=>?_⟩
 ·rw [ev x];constructor
  ·intro z;rcases B6.mp z with z | z
   ·obtain ⟨p,hp,e⟩:=(h.zero x).mp z;exact ⟨p,Ec _ hp,e⟩
   ·obtain ⟨p,hp,e⟩:=(h'.zero x).mp z;exact ⟨p,Cd _ hp,e⟩
  ·rintro ⟨p,hp,z⟩;rcases Bq.mp hp with c | c
   ·rw [(h.zero x).mpr ⟨p,c,z⟩];ext
   ·rw [(h'.zero x).mpr ⟨p,c,z⟩];ext
 ·obtain ⟨i,J,L⟩:=h.off x y B λp hp=>C p (Ec _ hp);obtain ⟨j,N,O⟩:=h'.off x y B λp hp=>C p (Cd _ hp);refine ⟨i*j,Ar J N,λz D I=>?_⟩;rw [ev z]
  have d:∀ a b:Rat,i<=a->j<=b->i*j<=a*b:=λa b P R=>by
   have:=AR R (show 0<=i by ext);have:=A9 P (show 0<=b by ext);ext
  rcases L z D I with a | a <;> rcases O z D I with b | b
  ·exact .inl (d _ _ a b)
  ·have:=d _ _ a (show j<=-A_ G z by ext);exact .inr ()
  ·have:=d _ _ (show i<=-A_ F z by ext) b;exact .inr ()
  ·have:=d _ _ (show i<=-A_ F z by ext) (show j<=-A_ G z by ext);exact .inl ()
 ·rcases Bq.mp hp with c | c
  ·obtain ⟨q,g,k,m,n,o⟩:=h.chg p c;exact ⟨q,_,_,m.mul (S_ G),λx=>by rw [ev x,n x];ext,λx y r u v=>o x y r u λw f=>v w (Ec _ f)⟩
  ·obtain ⟨q,g,k,m,n,o⟩:=h'.chg p c;exact ⟨q,_,_,(S_ F).mul m,λx=>by rw [ev x,n x];ext,λx y r u v=>o x y r u λw f=>v w (Cd _ f)⟩
def Rad.div {F S:dD} (h:Rad F S):∃ (g:Rat->Rat) (k:Nat),Pn k g/\∀ x,A_ F x=g x*A_ S x:=by
 obtain ⟨f,c,L,a,⟨T,M,⟨t,rfl⟩,⟨l,rfl⟩,j,b,m,n⟩,d⟩:=h;refine ⟨λx=>c⁻¹*Sr.ev t x,t.length,(Mo t).scale _,λx=>?_⟩;have e:Sr.L (qR S)=Sr.L (l.map (c*·)):=by rw [CS,Sr.L_scal];exact d
 have en:Sr.L (qR F)=Sr.L (BC t l):=by rw [CS,Sr.L_mulRow];exact b
 rw [CQ,CQ,Sr.ev_congr en,Sr.ev_mul,Sr.ev_congr e,Sr.ev_scal];have i:c*c⁻¹=1:=Cf _ a;rw [show c⁻¹*Sr.ev t x*(c*Sr.ev l x)=c*c⁻¹*(Sr.ev t x*Sr.ev l x) by ext,i];ext
def Fz.alt {F S:dD} {ps:List (dD)} (h:Fz F ps) (r:Rad F S) {x y:Rat} (i:x<y) (n:A_ S x*A_ S y<0):∃ p∈ps,C' p x<0/\0<C' p y:=by
 refine Classical.byContradiction λm=>?_;have j:∀ u,A_ S u≠0->∀ p∈ps,C' p u≠0:=λu o p hp z=>o ((r.zero u).mp ((h.zero u).mpr ⟨p,hp,z⟩));have v:A_ S x≠0:=λz=>by rw [z] at n;ext
 have w:A_ S y≠0:=λz=>by rw [z] at n;ext
 obtain ⟨D,G,e⟩:=h.off x y i λp hp=>by
  have a:=j x v p hp;have b:=j y w p hp;rw [mul_pos_iff'];rcases N' (C' p x) 0 with c | c | c
  ·rcases N' (C' p y) 0 with d | d | d
   ·exact .inr ⟨c,d⟩
   ·exact absurd d b
   ·exact absurd ⟨p,hp,c,d⟩ m
  ·exact absurd c a
  ·exact .inl ⟨c,(h.pc p hp).mono x y i ()⟩
 obtain ⟨g,k,I,J⟩:=r.div;obtain ⟨A,X,Y,Z⟩:=be x;obtain ⟨B,B0,B1,B2⟩:=be y;obtain ⟨C,L,f⟩:=I.bound (A+B) ();obtain ⟨M,N,e1,e2⟩:=Dz (p:=D) (q:=C) G L;obtain ⟨z,O,P,z3,R⟩:=(S_ S).near i n N;obtain ⟨g1,T⟩:=f z (by clear e f;ext) (by clear e f;ext);obtain ⟨U,W⟩:=EZ T (show -g z<=C by clear e f;ext) (Rat.le_of_lt R) (show -A_ S z<=M by clear e f;ext);rw [<-J z] at U W;have e:=e z (Rat.le_of_lt O) (Rat.le_of_lt P);clear f;rcases e with c | c <;> ext
def Rad.change2 {F S q:dD} {g:Rat->Rat} {p:Nat} (h:Rad F S) (r:Pn p g) (u:∀ x,A_ F x=A_ q x*g x) {a b:Rat} (v:a<b) (n:A_ q a*A_ q b<0) (w:A_ S a≠0) (y:A_ S b≠0):Nf (A_ S) a b≠0:=by
 obtain ⟨K,k,e,z,G⟩:=h.pow;obtain ⟨U,V,d,I,J⟩:=TU h.qi;obtain ⟨A,W,X,Y⟩:=be a;obtain ⟨B,Z,B1,B2⟩:=be b;obtain ⟨C,L,M⟩:=Mq (A+B) () U;obtain ⟨D,N,O⟩:=Mq (A+B) () V;obtain ⟨E,E0,i,j⟩:=be ((d:Rat)⁻¹);have P:(d:Rat)*(d:Rat)⁻¹=1:=Cf _ (Am I);have CE:=Ab L E0;have DE:=Ab N E0;refine Yx (U:=λx=>A_ U x*(d:Rat)⁻¹) (V:=λx=>A_ V x*(d:Rat)⁻¹) (H:=1+C*E+D*E) h.sf (S_ q) (r.mul z) (show (1:Rat)≠0 by ext) (λx=>by rw [<-G x,u x];ext) v n w y () (λx m o=>?_) (λx m o=>?_) λx m o=>?_
 ·obtain ⟨c,f⟩:=M x () ();obtain ⟨R,T⟩:=EZ c f i j;constructor <;> ext
 ·obtain ⟨c,f⟩:=O x () ();obtain ⟨R,T⟩:=EZ c f i j;constructor <;> ext
 ·have:=J x;show A_ U x*(d:Rat)⁻¹*A_ S x+A_ V x*(d:Rat)⁻¹*dQ S x=1;rw [show A_ U x*(d:Rat)⁻¹*A_ S x+A_ V x*(d:Rat)⁻¹*dQ S x=(A_ U x*A_ S x+A_ V x*dQ S x)*(d:Rat)⁻¹ by ext,this,P]
noncomputable def Z_ (x y:Rat) (p:dD):Bool:=decide (C' p x<0) && decide (0<C' p y)
noncomputable def FU (x:Rat) (p:dD):Bool:=decide (0<C' p x)
noncomputable def af (x:Rat) (p:dD):Bool:=decide (C' p x=0)
theorem KR {P Q:dD->Bool}:∀ {ps:List (dD)} {p:dD},(∀ p∈ps,P p=true->Q p=true)->p∈ps->P p=false->Q p=true->ps.countP P+1<=ps.countP Q
 | [],p,_,hp,_,_=>nomatch hp
 | u::ps,p,h,hp,b,d=>by
   rw [C4,C4];have m:ps.countP P<=ps.countP Q:=List.countP_mono_left λx a=>h x (Bp _ a);rcases By.mp hp with e | e
   ·subst e;rw [b,d];simp only [E6,if_false,if_true];omega
   ·have f:=KR (λx a=>h x (Bp _ a)) e b d;cases c:P u with
    | false=>rw [sY (show ¬ false=true by decide)];split <;> omega
    | true=>rw [h u (BS ..) c];simp only [if_true];omega
theorem TW {P:dD->Bool} {R:dD->dD->Prop} {ps:List (dD)} (i:ps.Pairwise R) (h:2<=ps.countP P):∃ p∈ps,∃ q∈ps,P p=true/\P q=true/\R p q:=by
 rw [List.countP_eq_length_filter] at h;have d:=i.filter P;have c:∀ x,x∈ps.filter P->x∈ps/\P x=true:=λx j=>Ea.mp j;cases e:ps.filter P with
 | nil=>rw [e] at h;simp at h
 | cons a l=>
   cases l with
   | nil=>rw [e] at h;simp at h
   | cons b l=>
     rw [e] at c d;have f:=c a (BS ..);have g:=c b (Bp _ (BS ..));exact ⟨a,f.1,b,g.1,f.2,g.2,(List.pairwise_cons.mp d).1 b (BS ..)⟩
theorem wL {P:dD->Bool} {ps:List (dD)} {p q:dD} (h:ps.countP P<=1) (hp:p∈ps) (f:q∈ps) (g:P p=true) (i:P q=true):q=p:=by
 rw [List.countP_eq_length_filter] at h;have c:=Ea.mpr ⟨hp,g⟩;have d:=Ea.mpr ⟨f,i⟩;cases e:ps.filter P with
 | nil=>rw [e] at c;cases c
 | cons a l=>
   cases l with
   | nil=>rw [e] at c d;rw [Aq.mp c,Aq.mp d]
   | cons b l=>rw [e] at h;simp at h
def Mt {ps:List (dD)} (d:∀ p∈ps,Pc (C' p)) (e:ps.Pairwise Sep) (x:Rat):ps.countP (af x)<=1:=DU.mp λh=>by
 obtain ⟨p,hp,q,g,f,i,y,j⟩:=TW e h;have f:C' p x=0:=rB f;have i:C' q x=0:=rB i;rcases N' x y with c | c | c
 ·have a:=(d p hp).mono x y c ();have b:=(d q g).mono x y c ();have:=Ar a b;ext
 ·rw [<-c,f] at j;ext
 ·have a:=(d p hp).neg c ();have b:=(d q g).neg c ();have:=mul_pos_iff'.mpr (.inr ⟨a,b⟩);ext
theorem TX:∀ {ps:List (dD)} {a x b:Rat},(∀ p∈ps,Pc (C' p))->a<x->x<b->ps.countP (Z_ a b)=ps.countP (Z_ a x)+ps.countP (Z_ x b)+ps.countP (af x)
 | [],_,_,_,_,_,_=>rfl
 | p::ps,a,x,b,i,d,e=>by
   have h:=i p (BS ..);rw [C4,C4,C4,C4,TX (λq j=>i q (Bp _ j)) d e];unfold Z_ af;rcases N' (C' p x) 0 with c | c | c
   ·have f:=h.neg d ();rw [rA f,rC (show ¬ 0<C' p x by ext),rA c,rC (show ¬ C' p x=0 by ext)];simp only [Bool.true_and,Bool.and_false,E6,if_false];omega
   ·have f:=h.neg d ();have g:=h.mono x b e ();rw [rA f,rA g,rC (show ¬ 0<C' p x by ext),rC (show ¬ C' p x<0 by ext),rA c];simp only [Bool.true_and,Bool.and_false,Bool.false_and,E6,if_false,if_true];omega
   ·have g:=h.mono x b e ();rw [rA g,rA (show 0<C' p x from c),rC (show ¬ C' p x<0 by ext),rC (show ¬ C' p x=0 by ext)];simp only [Bool.false_and,E6,if_false];omega
theorem Fz.chain {F S:dD} {ps:List (dD)} (h:Fz F ps) (r:Rad F S) {b:Rat}:∀ {k:Nat} {x:Rat},Cn (A_ S) b k x->k+ps.countP (FU x)<=ps.countP (FU b)
 | 0,x,⟨a,_⟩=>by
   rw [Nat.zero_add];exact List.countP_mono_left λp hp z=>rA ((h.pc p hp).mono x b a (by have:0<C' p x:=rB z;ext))
 | k+1,x,⟨a,y,d,n,c⟩=>by
   have g:=h.chain r c;obtain ⟨p,hp,i,e⟩:=h.alt r d n;have:=KR (P:=FU x) (Q:=FU y) (λq f z=>rA ((h.pc q f).mono x y d (by have:0<C' q x:=rB z;ext))) hp (rC ()) (rA e);omega
theorem TY:∀ {ps:List (dD)} {a x b:Rat},(∀ p∈ps,Pc (C' p))->a<x->a<b->ps.countP (FU b)<=ps.countP (Z_ a b)+ps.countP (FU x)
 | [],_,_,_,_,_,_=>AS _
 | p::ps,a,x,b,d,f,g=>by
   have h:=d p (BS ..);have j:=TY (λq i=>d q (Bp _ i)) f g;rw [C4,C4,C4];by_cases c:C' p a<0
   ·have e:Z_ a b p=FU b p:=by unfold Z_ FU;rw [rA c,Bool.true_and]
    rw [e];omega
   ·have e:FU x p=true:=rA (h.mono a x f ());rw [e,sZ rfl];split <;> omega
theorem Fz.least {F S:dD} {ps:List (dD)} (h:Fz F ps) (r:Rad F S) (w:ps.Pairwise Sep):∀ (n:Nat) (a b:Rat),a<b->ps.countP (Z_ a b)<=n->ps.countP (Z_ a b)<=Nf (A_ S) a b:=by
 intro n
 induction n with
 | zero=>intro a b ab hn;omega
 | succ n N=>
   intro a b ab hn;by_cases c2:2<=ps.countP (Z_ a b)
   ·obtain ⟨p,hp,q,d,i,B,x,L⟩:=TW w c2;have i:=(Dk _ _).mp i;have B:=(Dk _ _).mp B;have C:C' p a<0:=rB i.1;have D:0<C' p b:=rB i.2;have O:C' q a<0:=rB B.1;have R:0<C' q b:=rB B.2
    have f:∀ p∈ps,∀ q∈ps,C' p b > 0->C' q a<0->C' p x<0->0<C' q x->C' p a<0->0<C' q b->ps.countP (Z_ a b)<=Nf (A_ S) a b:=λp hp q d T U G qx pa qb=>by
     have I:=(h.pc p hp).lt G T;have j:=(h.pc q d).lt U qx;have sp:=TX h.pc j I;have nd:=r.sf.node j I
     have l1:=KR (P:=Z_ a x) (Q:=Z_ a b) (ps:=ps) (p:=p) (λu m z=>by
      have z:=(Dk _ _).mp z;have W:0<C' u x:=rB z.2;exact (Dk _ _).mpr ⟨z.1,rA ((h.pc u m).mono x b I ())⟩) hp (by unfold Z_;rw [rC (show ¬ 0<C' p x by ext),Bool.and_false]) ((Dk _ _).mpr ⟨rA pa,rA T⟩)
     have l2:=KR (P:=Z_ x b) (Q:=Z_ a b) (ps:=ps) (p:=q) (λu m z=>by
      have z:=(Dk _ _).mp z;have W:C' u x<0:=rB z.1;exact (Dk _ _).mpr ⟨rA ((h.pc u m).neg j ()),z.2⟩) d (by unfold Z_;rw [rC (show ¬ C' q x<0 by ext),Bool.false_and]) ((Dk _ _).mpr ⟨rA U,rA qb⟩)
     have i1:=N a x j ⋯;have i2:=N x b I ⋯;have z1:=Mt h.pc w x
     have W:ps.countP (af x)<=if A_ S x=0 then 1 else 0:=by
      by_cases c:A_ S x=0
      ·rw [sZ c];exact z1
      ·rw [sY c];refine Nat.le_of_eq (List.countP_eq_zero.mpr λu m z=>c ((r.zero x).mp ((h.zero x).mpr ⟨u,m,rB z⟩)))
     omega
    rcases mul_neg_iff'.mp L with ⟨u,v⟩ | ⟨u,v⟩
    ·exact f q d p hp R C v u O D
    ·exact f p hp q d D O u v C R
   ·by_cases X:ps.countP (Z_ a b)=0
    ·rw [X];exact Aa _
    ·obtain ⟨p,hp,A⟩:=List.countP_pos_iff.mp (Nat.pos_of_ne_zero X);have i:=(Dk _ _).mp A;have C:C' p a<0:=rB i.1;have D:0<C' p b:=rB i.2;obtain ⟨x,j,G⟩:=(h.pc p hp).opL a C;obtain ⟨y,Y,Z⟩:=(h.pc p hp).opR b D;have J:=(h.pc p hp).lt G Z
     have o:∀ q∈ps,q≠p->(0<C' q x/\0<C' q y)\/(C' q x<0/\C' q y<0):=λq d M=>by
      by_cases ca:C' q a<0
      ·have cb:¬ 0<C' q b:=λcb=>M (wL ⋯ hp d A ((Dk _ _).mpr ⟨rA ca,rA cb⟩));have hy:=(h.pc q d).neg Y ();exact .inr ⟨(h.pc q d).neg J (),hy⟩
      ·have L:=(h.pc q d).mono a x j ();exact .inl ⟨L,(h.pc q d).mono x y J ()⟩
     obtain ⟨q,g,k,pg,eF,hc⟩:=h.chg p hp
     have nz:∀ u,(∀ q∈ps,C' q u≠0)->A_ S u≠0:=λu m z=>by
      obtain ⟨q,d,e⟩:=(h.zero u).mp ((r.zero u).mpr z);exact m q d e
     have a0:=r.change2 pg eF J (hc x y G Z λq d M=>mul_pos_iff'.mpr (o q d M)) (nz x λq d z=>by
      by_cases e:q=p
      ·rw [e] at z;ext
      ·have:=o q d e;ext) (nz y λq d z=>by
      by_cases e:q=p
      ·rw [e] at z;ext
      ·have:=o q d e;ext)
     have n1:=r.sf.node j (show x<b by ext);have n2:=r.sf.node J Y;omega
def Fz.count {F S:dD} {ps:List (dD)} (h:Fz F ps) (r:Rad F S) (d:ps.Pairwise Sep) {a b:Rat} (e:a<b):Nf (A_ S) a b=ps.countP (Z_ a b):=by
 refine Nat.le_antisymm ?_ (h.least r d _ a b e (AS _));obtain ⟨x,f,g⟩:=(r.sf.isN e).1;have c:=h.chain r g;have:=TY h.pc f e;omega
theorem TZ:∀ {ps:List (dD)},(∀ p∈ps,Pc (C' p))->∃ R,∀ p∈ps,∀ x,R<=x->0<C' p x/\C' p (-x)<0
 | [],_=>⟨0,λp hp=>nomatch hp⟩
 | p::ps,h=>by
   obtain ⟨R,c⟩:=TZ λq a=>h q (Bp _ a);obtain ⟨d,b⟩:=(h p (BS ..)).far;obtain ⟨m,f,g⟩:=Ms R d;refine ⟨m,λq a x i=>?_⟩;rcases By.mp a with e | e
   ·rw [e];exact b x ()
   ·exact c q e x ()
theorem Ta:∀ {ps:List (dD)} {a b:Rat},(∀ p∈ps,Pc (C' p))->a<b->ps.countP (Z_ a b)+ps.countP (af b)=ps.countP (IQ (some a) (some b))
 | [],_,_,_,_=>rfl
 | p::ps,a,b,d,f=>by
   have h:=d p (BS ..);rw [C4,C4,C4,<-Ta (λq g=>d q (Bp _ g)) f];have e:IQ (some a) (some b) p=(decide (C' p a<0) && !decide (C' p b<0)):=rfl;rw [e];unfold Z_ af;rcases N' (C' p b) 0 with c | c | c
   ·rw [rA c,rC (show ¬ 0<C' p b by ext),rC (show ¬ C' p b=0 by ext),Bool.and_false,Bool.not_true,Bool.and_false];simp only [E6,if_false];omega
   ·rw [rA (h.neg f ()),rC (show ¬ C' p b<0 by ext),rC (show ¬ 0<C' p b by ext),rA c];simp only [Bool.true_and,Bool.not_false,E6,if_false,if_true];omega
   ·rw [rC (show ¬ C' p b<0 by ext),rA (show 0<C' p b from c),rC (show ¬ C' p b=0 by ext),Bool.not_false];simp only [E6,if_false];omega
def Fz.cnt {F S:dD} {ps:List (dD)} (h:Fz F ps) (r:Rad F S) (d:ps.Pairwise Sep) {lo hi:Option Rat} {k:Nat} (i:∀ x y,lo=some x->hi=some y->x<y) (c:c6 F S lo hi k):k=ps.countP (IQ lo hi):=by
 obtain ⟨j,n⟩:=c;obtain ⟨q,f⟩:=TZ h.pc;obtain ⟨A,I,u⟩:=KQ lo;obtain ⟨B,J,v⟩:=KQ hi;obtain ⟨m,L,M⟩:=Ms j q;obtain ⟨a,N,O⟩:=Ms m (A+B+1);have e:=n a a () ()
 have g:lo.getD (-a)<hi.getD a:=by
  cases lo with
  | none=>
    cases hi with
    | none=>show -a<a;ext
    | some y=>have:=v y rfl;show -a<y;ext
  | some x=>
    cases hi with
    | none=>have:=u x rfl;show x<a;ext
    | some y=>exact i x y rfl rfl
 rw [e,h.count r d g];have b:∀ p∈ps,0<C' p a/\C' p (-a)<0:=λp hp=>f p hp a ()
 have w:cF F hi=ps.countP (af (hi.getD a)):=by
  cases hi with
  | none=>exact (List.countP_eq_zero.mpr λp hp z=>by have z:C' p a=0:=rB z;have:=b p hp;ext).symm
  | some y=>
    show (if A_ F y=0 then 1 else 0)=ps.countP (af y);have o:=Mt h.pc d y;by_cases z:A_ F y=0
    ·rw [sZ z];obtain ⟨p,hp,e⟩:=(h.zero y).mp z;have:=List.countP_pos_iff.mpr ⟨p,hp,show af y p=true from rA e⟩;omega
    ·rw [sY z];exact (List.countP_eq_zero.mpr λp hp e=>z ((h.zero y).mpr ⟨p,hp,rB e⟩)).symm
 rw [w,Ta h.pc g];refine List.countP_congr λp hp=>?_;have ⟨P,C⟩:=b p hp
 have D:lo.all (λx=>decide (C' p x<0))=decide (C' p (lo.getD (-a))<0):=by
  cases lo with
  | none=>show true=decide (C' p (-a)<0);rw [rA C]
  | some x=>rfl
 have G:hi.all (λy=>!decide (C' p y<0))=!decide (C' p (hi.getD a)<0):=by
  cases hi with
  | none=>show true=!decide (C' p a<0);rw [rC (show ¬ C' p a<0 by ext)];rfl
  | some y=>rfl
 show (decide (C' p (lo.getD (-a))<0) && !decide (C' p (hi.getD a)<0))=true↔(lo.all (λx=>decide (C' p x<0)) && hi.all (λy=>!decide (C' p y<0)))=true;rw [D,G]
def wM {u v:Rat} (c:0<=u) (d:u<v):u*u<v*v:=by
 have a:=Ab c (show 0<=v - u by ext);have b:=Ar (show 0<v - u by ext) (show 0<v by ext);ext
def HM {t s:Int} (g:0<s):Pc (C' [t,s]):=by
 have d:(0:Rat)<(s:Rat):=by exact_mod_cast g
 have i:(s:Rat)*(s:Rat)⁻¹=1:=Cf _ ();have e:∀ x,C' [t,s] x=(s:Rat)*x - (t:Rat):=λ_=>rfl;have q:(s:Rat)*((t:Rat)*(s:Rat)⁻¹)=(t:Rat):=by rw [show (s:Rat)*((t:Rat)*(s:Rat)⁻¹)=(s:Rat)*(s:Rat)⁻¹*(t:Rat) by ext,i];ext
 generalize j:(t:Rat)*(s:Rat)⁻¹=r at q;have e:∀ x,C' [t,s] x=(s:Rat)*(x - r):=λx=>by rw [e,<-q];ext
 generalize (s:Rat)=S at *;have a:∀ y,0<y->0<S*y:=λy f=>Ar d f;have neg:∀ y,y<0->S*y<0:=λy f=>by have:=Ar d (show 0 < -y by ext);ext
 have b:∀ y,(0<=S*y->0<=y)/\(S*y<0->y<0)/\(0<S*y->0<y):=λy=>by
  rcases N' y 0 with c | c | c
  ·have:=neg y c;exact ⟨λ_=>by ext,λ_=>c,λ_=>by ext⟩
  ·rw [c];exact ⟨λ_=>by ext,λ_=>by ext,λ_=>by ext⟩
  ·have:=a y c;exact ⟨λ_=>by ext,λ_=>by ext,λ_=>c⟩
 obtain ⟨A,k,m,n⟩:=be r;refine ⟨λx y o h=>?_,λx h=>?_,λx h=>?_,A+1,λx h=>?_⟩
 ·rw [e] at h ⊢;have:=(b _).1 h;exact a _ ()
 ·rw [e] at h;have:=(b _).2.1 h;exact ⟨(x+r) / 2,(),by rw [e];exact neg _ ()⟩
 ·rw [e] at h;have:=(b _).2.2 h;exact ⟨(x+r) / 2,(),by rw [e];exact a _ ()⟩
 ·rw [e,e];exact ⟨a _ (),neg _ ()⟩
def Tb {m a e:Int} {x:Rat}:C' [m,a,e] x=if 0<e then (if x<(m:Rat) then -1 else (x - m)*(x - m) - (a:Rat)) else (if x<(m:Rat) then (a:Rat) - (x - m)*(x - m) else 1):=rfl
def EI {m a:Int} {x:Rat}:C' [m,a,1] x=if x<(m:Rat) then -1 else (x - m)*(x - m) - (a:Rat):=by
 rw [Tb,sZ ∅]
def E3 {m a:Int} {x:Rat}:C' [m,a,-1] x=if x<(m:Rat) then (a:Rat) - (x - m)*(x - m) else 1:=by
 rw [Tb,sY ∅]
def Mu {m a:Int} (g:0<a):Pc (C' [m,a,1]):=by
 have j:(1:Rat)<=(a:Rat):=by exact_mod_cast g
 obtain ⟨A,k,n,o⟩:=be (m:Rat);have lo:∀ x,x<(m:Rat)->C' [m,a,1] x = -1:=λx h=>by rw [EI,sZ h]
 have d:∀ x,¬ x<(m:Rat)->C' [m,a,1] x=(x - m)*(x - m) - (a:Rat):=λx h=>by rw [EI,sY h]
 generalize (m:Rat)=M at *;generalize (a:Rat)=B at *;refine ⟨λx y r h=>?_,λx h=>?_,λx h=>?_,A+B+1,λx h=>?_⟩
 ·by_cases c:x<M
  ·rw [lo x c] at h;ext
  ·rw [d x c] at h;rw [d y ()];have:=wM (show 0<=x - M by ext) (show x - M<y - M by ext);ext
 ·by_cases c:x<M
  ·exact ⟨(x+M) / 2,(),by rw [lo _ ()];ext⟩
  ·rw [d x c] at h;obtain ⟨b,e,f,i⟩:=Dz (p:=B - (x - M)*(x - M)) (q:=2*(x - M)+1) () ();refine ⟨x+b,(),?_⟩;rw [d _ ()];have:=AR f (show 0<=b by ext);rw [show (x+b - M)*(x+b - M)=(x - M)*(x - M)+2*(x - M)*b+b*b by grind];ext
 ·by_cases c:x<M
  ·rw [lo x c] at h;ext
  ·rw [d x c] at h
   have u:1<x - M:=CV.mp λz=>by
    have:=Ab (show 0<=x - M by ext) (show 0<=1 - (x - M) by ext);ext
   obtain ⟨b,e,f,i⟩:=Dz (p:=(x - M)*(x - M) - B) (q:=2*(x - M)) () ();refine ⟨x - b,(),?_⟩;rw [d _ ()];have:=Ar e e;rw [show (x - b - M)*(x - b - M)=(x - M)*(x - M) - 2*(x - M)*b+b*b by grind];ext
 ·rw [d x (),lo (-x) ()];have:=Ab (show 0<=x - M - B by ext) (show 0<=x - M - 1 by ext);have:=Ab (show 0<=B by ext) (show 0<=x - M - 1 by ext);constructor <;> ext
def Pc.flip {σ b:Rat->Rat} (h:Pc σ) (e:∀ x,(0<b x↔σ (-x)<0)/\(b x<0↔0<σ (-x))):Pc b:=by
 refine ⟨λx y g a=>(e y).1.mpr (h.neg (show -y < -x by ext) (Cu.mp λz=>?_)),λx a=>?_,λx a=>?_,?_⟩
 ·have:=(e x).2.mpr z;ext
 ·obtain ⟨y,f,c⟩:=h.opR _ ((e x).2.mp a);exact ⟨-y,(),(e _).2.mpr (by rw [Rat.neg_neg];exact c)⟩
 ·obtain ⟨y,f,c⟩:=h.opL _ ((e x).1.mp a);exact ⟨-y,(),(e _).1.mpr (by rw [Rat.neg_neg];exact c)⟩
 ·obtain ⟨R,d⟩:=h.far;exact ⟨R,λx a=>⟨(e x).1.mpr (d x a).2,(e _).2.mpr (by rw [Rat.neg_neg];exact (d x a).1)⟩⟩
def Tc {m a:Int} (b:0<a):Pc (C' [m,a,-1]):=by
 have d:(0:Rat)<(a:Rat):=by exact_mod_cast b
 refine (Mu (m:=-m) b).flip λx=>?_;rw [EI,E3,C2];rcases N' x (m:Rat) with c | c | c
 ·rw [sZ c,sY (show ¬ -x < -(m:Rat) by ext)];constructor <;> constructor <;> intro h <;> ext
 ·rw [c,sY (show ¬ (m:Rat)<m by ext),sY (show ¬ -(m:Rat) < -(m:Rat) by ext)];constructor <;> constructor <;> intro h <;> ext
 ·rw [sY (show ¬ x<(m:Rat) by ext),sZ (show -x < -(m:Rat) by ext)];constructor <;> constructor <;> intro h <;> ext
def wN:Fz [1] []:=by
 have e:∀ x,A_ [1] x=1:=λx=>by show ((1:Int):Rat)+x*0=1;ext
 exact ⟨(λp h=>nomatch h),λx=>by rw [e];exact ⟨λz=>by ext,(λ⟨p,h,_⟩=>nomatch h)⟩,λx y _ _=>⟨1,(),λz _ _=>.inl (by rw [e];ext)⟩,(λp h=>nomatch h)⟩
def cH (t s:Int) (x:Rat):A_ [-t,s] x=C' [t,s] x:=by
 show ((-t:Int):Rat)+x*((s:Rat)+x*0)=(s:Rat)*x - (t:Rat);rw [C2];ext
def Td {t s:Int} (a:0<s):Fz [-t,s] [[t,s]]:=by
 have e:=HM (t:=t) a;refine ⟨λp h=>by rw [Aq.mp h];exact e,λx=>by rw [cH];exact ⟨λz=>⟨_,Aq.mpr rfl,z⟩,λ⟨p,h,z⟩=>by rw [Aq.mp h] at z;exact z⟩,λx y m h=>?_,λp h=>?_⟩
 ·have h:=h _ (Aq.mpr rfl);have n:(0:Rat)<(s:Rat):=by exact_mod_cast a
  have b:∀ u v,u<=v->C' [t,s] u<=C' [t,s] v:=λu v f=>by
   show (s:Rat)*u - (t:Rat)<=(s:Rat)*v - (t:Rat);have:=AR f (show 0<=(s:Rat) by ext);ext
  rcases mul_pos_iff'.mp h with ⟨c,d⟩ | ⟨c,d⟩
  ·exact ⟨_,c,λz g _=>.inl (by rw [cH];exact b x z g)⟩
  ·exact ⟨-C' [t,s] y,(),λz _ i=>.inr (by rw [cH];have:=b z y i;ext)⟩
 ·rw [Aq.mp h];exact ⟨[-t,s],λ_=>1,0,⟨1,λ_=>rfl⟩,λx=>by rw [Rat.mul_one],λx y j k _=>by rw [cH,cH];exact mul_neg_iff'.mpr (.inr ⟨j,k⟩)⟩
def cZ (m c:Int) (x:Rat):A_ [m*m+c,-2*m,1] x=(x - m)*(x - m)+(c:Rat):=by
 show ((m*m+c:Int):Rat)+x*(((-2*m:Int):Rat)+x*(((1:Int):Rat)+x*0))=_;rw [Rat.intCast_add,Au,Au];have a:((-2:Int):Rat) = -2:=rfl;have b:((1:Int):Rat)=1:=rfl;rw [a,b];ext
def wO {m c:Int} (a:0<c):Fz [m*m+c,-2*m,1] []:=by
 have b:(0:Rat)<(c:Rat):=by exact_mod_cast a
 have sq:∀ u:Rat,0<=u*u:=λu=>by
  rcases (BE:0<=u\/u<=0) with z | z
  ·exact Ab z z
  ·have:=Ab (show 0<=-u by ext) (show 0<=-u by ext);ext
 exact ⟨(λp h=>nomatch h),λx=>by rw [cZ];exact ⟨λz=>by have:=sq (x - m);ext,(λ⟨p,h,_⟩=>nomatch h)⟩,λx y _ _=>⟨c,b,λz _ _=>.inl (by rw [cZ];have:=sq (z - m);ext)⟩,(λp h=>nomatch h)⟩
def Id (m a:Int) (x:Rat):A_ [m*m + -a,-2*m,1] x=C' [m,a,1] x*C' [m,a,-1] x:=by
 rw [cZ,EI,E3,C2];split <;> ext
def wP {m a:Int} (r:0<a):Fz [m*m + -a,-2*m,1] [[m,a,1],[m,a,-1]]:=by
 have I:=Mu (m:=m) r;have J:=Tc (m:=m) r;have w:[m,a,1]∈[[m,a,1],[m,a,-1]]:=BS ..;have A:[m,a,-1]∈[[m,a,1],[m,a,-1]]:=Bp _ (BS ..)
 have all:∀ P:dD->Prop,P [m,a,1]->P [m,a,-1]->∀ p∈[[m,a,1],[m,a,-1]],P p:=λP f g p hp=>by
  rcases By.mp hp with e | e
  ·rw [e];exact f
  ·rw [Aq.mp e];exact g
 have D:([m,a,-1]:dD)≠[m,a,1]:=λz=>by injection z with _ z;injection z with _ z;injection z with z _;exact absurd z ∅
 refine ⟨all _ I J,λx=>?_,λx y O h=>?_,all _ ?_ ?_⟩
 ·rw [Id];constructor
  ·intro z;rcases B6.mp z with z | z
   ·exact ⟨_,w,z⟩
   ·exact ⟨_,A,z⟩
  ·rintro ⟨p,hp,z⟩;rcases By.mp hp with e | e
   ·rw [e] at z;rw [z];ext
   ·rw [Aq.mp e] at z;rw [z];ext
 ·have j:=h _ w;have n:=h _ A;have ev:=cZ m (-a);rw [EI,EI] at j;rw [E3,E3] at n;have c:((-a:Int):Rat) = -(a:Rat):=C2 ..;have R:(0:Rat)<(a:Rat):=by exact_mod_cast r
  rw [c] at ev;generalize (m:Rat)=M at *;generalize (a:Rat)=B at *
  have b:∀ u v:Rat,0<=u->u<=v->u*u<=v*v:=λu v f g=>by
   have:=Ab (show 0<=v - u by ext) (show 0<=v+u by ext);ext
  by_cases F:x<M
  ·rw [sZ F] at j n;by_cases G:y<M
   ·rw [sZ G] at n;rcases mul_pos_iff'.mp n with ⟨d,i⟩ | ⟨d,i⟩
    ·refine ⟨B - (x - M)*(x - M),d,λz o q=>.inr ?_⟩;rw [ev];have:=b (M - z) (M - x) () ();ext
    ·refine ⟨(y - M)*(y - M) - B,(),λz o q=>.inl ?_⟩;rw [ev];have:=b (M - y) (M - z) () ();ext
   ·rw [sY G] at j n;have d:0<B - (x - M)*(x - M):=by ext
    have i:0<B - (y - M)*(y - M):=by ext
    obtain ⟨L,N,S,T,_,_⟩:=Jq d i d i;refine ⟨L,N,λz o q=>.inr ?_⟩;rw [ev];by_cases U:z<M
    ·have:=b (M - z) (M - x) () ();ext
    ·have:=b (z - M) (y - M) () ();ext
  ·rw [sY F,sY (show ¬ y<M by ext)] at j;rcases mul_pos_iff'.mp j with ⟨d,i⟩ | ⟨d,i⟩
   ·refine ⟨(x - M)*(x - M) - B,d,λz o q=>.inl ?_⟩;rw [ev];have:=b (x - M) (z - M) () ();ext
   ·refine ⟨B - (y - M)*(y - M),(),λz o q=>.inr ?_⟩;rw [ev];have:=b (z - M) (y - M) () ();ext
 ·refine ⟨[m*m + -a,-2*m,1],λ_=>1,0,⟨1,λ_=>rfl⟩,λx=>by rw [Rat.mul_one],λx y f g C=>?_⟩;have:=C _ A D;rw [Id,Id];have k:=Ar (show 0 < -(C' [m,a,1] x*C' [m,a,1] y) by have:=mul_neg_iff'.mpr (.inr ⟨f,g⟩);ext) this;ext
 ·refine ⟨[m*m + -a,-2*m,1],λ_=>1,0,⟨1,λ_=>rfl⟩,λx=>by rw [Rat.mul_one],λx y f g C=>?_⟩;have:=C _ w λz=>D z.symm;rw [Id,Id];have k:=Ar (show 0 < -(C' [m,a,-1] x*C' [m,a,-1] y) by have:=mul_neg_iff'.mpr (.inr ⟨f,g⟩);ext) this;ext
def isA.pos {a:Int} (h:isA a):0<a:=by unfold isA at h;omega
def Pk.pc {p:dD} (h:Pk p):Pc (C' p):=by
 rcases h with ⟨t,s,rfl,l,_⟩ | ⟨m,a,e,rfl,b,c,_⟩
 ·exact HM l.pos
 ·rcases c with rfl | rfl
  ·exact Mu b.pos
  ·exact Tc b.pos
noncomputable def rtA (a:Int):Int:=if a=2 then 1448 else if a=3 then 1773 else if a=5 then 2289 else if a=6 then 2508 else if a=7 then 2709 else 3238
noncomputable def cdP (m a e:Int):Int:=1024*m+(if 0<e then rtA a else -rtA a - 1)
def wQ {a:Int} (h:isA a):0<rtA a/\rtA a*rtA a<1048576*a/\1048576*a<(rtA a+1)*(rtA a+1):=by
 rcases h with rfl | rfl | rfl | rfl | rfl | rfl <;> decide
def Te {m a e:Int} (h:isA a) (i:e=1\/e = -1):C' [m,a,e] ((cdP m a e:Rat) / 1024)<0/\0<C' [m,a,e] (((cdP m a e:Rat)+1) / 1024):=by
 obtain ⟨f,b,d⟩:=wQ h;have f:(0:Rat)<(rtA a:Rat):=by exact_mod_cast f
 have b:=Rat.intCast_lt_intCast.mpr b;have d:=Rat.intCast_lt_intCast.mpr d;have g:((1048576:Int):Rat)=1048576:=rfl;have j:((1:Int):Rat)=1:=rfl;rw [Au,Au,g] at b;rw [Au,Au,g,Rat.intCast_add,j] at d;rcases i with rfl | rfl
 ·have c:(cdP m a 1:Rat)=1024*(m:Rat)+(rtA a:Rat):=by
   unfold cdP;rw [sZ ∅,Rat.intCast_add,Au];rfl
  rw [EI,EI,c];generalize (rtA a:Rat)=r at *;generalize (m:Rat)=M at *;rw [sY (),sY ()];constructor
  ·rw [show (1024*M+r) / 1024 - M=r / 1024 by grind];ext
  ·rw [show (1024*M+r+1) / 1024 - M=(r+1) / 1024 by grind];ext
 ·have c:(cdP m a (-1):Rat)=1024*(m:Rat) - (rtA a:Rat) - 1:=by
   unfold cdP;rw [sY ∅,Rat.intCast_add,Au,Rat.intCast_sub,C2];have k:((1024:Int):Rat)=1024:=rfl;have n:((1:Int):Rat)=1:=rfl;rw [k,n];ext
  rw [E3,E3,c];generalize (rtA a:Rat)=r at *;generalize (m:Rat)=M at *;rw [sZ (),sZ ()];constructor
  ·rw [show (1024*M - r - 1) / 1024 - M = -((r+1) / 1024) by grind];ext
  ·rw [show (1024*M - r - 1+1) / 1024 - M = -(r / 1024) by grind];ext
def wR {m a e m' c b:Int} (g:isA a) (i:e=1\/e = -1) (d:isA c) (f:b=1\/b = -1) (h:cdP m a e=cdP m' c b):[m,a,e]=[m',c,b]:=by
 have k:∀ a e,isA a->(e=1\/e = -1)->∀ c b,isA c->(b=1\/b = -1)->((if 0<e then rtA a else -rtA a - 1) - (if 0<b then rtA c else -rtA c - 1)) % 1024=0->a=c/\e=b:=by
  intro a e g i c b d f;rcases g with rfl | rfl | rfl | rfl | rfl | rfl <;> rcases i with rfl | rfl <;> rcases d with rfl | rfl | rfl | rfl | rfl | rfl <;> rcases f with rfl | rfl <;> decide
 unfold cdP at h;obtain ⟨rfl,rfl⟩:=k a e g i c b d f ⋯;rw [show m=m' by omega]
def wS {t s m a:Int} (b:isA a) (e:0<s) (f:s<=6) (g:t.natAbs<=9) (c:m.natAbs<=4):(t - m*s)*(t - m*s)≠a*(s*s):=λh=>by
 have k:∀ s:Fin 7,∀ a∈[2,3,5,6,7,10],∀ w:Fin 34,0<s.val->w.val*w.val≠a*(s.val*s.val):=by decide
 have hw:(t - m*s).natAbs<34:=by
  have i:(m*s).natAbs<=4*6:=by rw [Az];exact Do c ⋯
  omega
 have d:a.natAbs∈[2,3,5,6,7,10]:=by rcases b with rfl | rfl | rfl | rfl | rfl | rfl <;> decide
 refine k ⟨s.natAbs,⋯⟩ a.natAbs d ⟨_,hw⟩ (by show 0<s.natAbs;omega) ?_;show (t - m*s).natAbs*(t - m*s).natAbs=a.natAbs*(s.natAbs*s.natAbs);rw [<-Az,<-Az,<-Az,h]
def Mv {p q:dD} (hp:Pc (C' p)) (b:Pc (C' q)) {x y:Rat} (g:C' p x=0) (d:C' q x≠0):Sep p q:=by
 rcases N' (C' q x) 0 with c | c | c
 ·obtain ⟨y,e,a⟩:=b.opL x c;exact ⟨y,mul_neg_iff'.mpr (.inl ⟨hp.mono x y e (),a⟩)⟩
 ·exact absurd c d
 ·obtain ⟨y,f,a⟩:=b.opR x c;exact ⟨y,mul_neg_iff'.mpr (.inr ⟨hp.neg f (),a⟩)⟩
def Sep.symm {p q:dD} (h:Sep p q):Sep q p:=let ⟨x,e⟩:=h;⟨x,by rw [Rat.mul_comm];exact e⟩
def Mw {t s:Int} (a:0<s):C' [t,s] (val (t,s))=0:=by
 show (s:Rat)*((t:Rat) / (s:Rat)) - (t:Rat)=0;rw [Rat.mul_comm,DF (Am (AU a))];ext
def wT {t s t' s':Int} (l:Low t s) (a:Low t' s') (b:¬ (t,s)=(t',s')):Sep [t,s] [t',s']:=by
 refine Mv (HM l.pos) (HM a.pos) (x:=val (t,s)) (y:=0) (Mw l.pos) λz=>b ?_;have z:(s':Rat)*val (t,s) - (t':Rat)=0:=z
 have e:val (t,s)=val (t',s'):=by
  show _=(t':Rat) / (s':Rat);have i:(s':Rat)*(s':Rat)⁻¹=1:=Cf _ (Am (AU a.pos));rw [Rat.div_def,show (t':Rat)=(s':Rat)*val (t,s) by ext,show (s':Rat)*val (t,s)*(s':Rat)⁻¹=(s':Rat)*(s':Rat)⁻¹*val (t,s) by ext,i];ext
 exact FK (q:=(t,s)) (r:=(t',s')) l a e
def KS {p q:dD} (hp:Pk p) (r:Pk q) (F:p≠q):Sep p q:=by
 have b:∀ (t s m a e:Int),Low t s->s<=6->t.natAbs<=9->isA a->(e=1\/e = -1)->m.natAbs<=4->Sep [t,s] [m,a,e]:=λt s m a e l k n f g h=>by
  have u:Pk [m,a,e]:=.inr ⟨m,a,e,rfl,f,g,h⟩;refine Mv (HM l.pos) u.pc (x:=val (t,s)) (y:=0) (Mw l.pos) λz=>?_;have I:(s:Rat)≠0:=Am (AU l.pos);have v:val (t,s)*(s:Rat)=(t:Rat):=DF I
  have z:(val (t,s) - (m:Rat))*(val (t,s) - (m:Rat))=(a:Rat):=by
   rcases g with rfl | rfl
   ·rw [EI] at z;split at z <;> ext
   ·rw [E3] at z;split at z <;> ext
  refine wS f l.pos k n h ?_
  have:(((t - m*s)*(t - m*s):Int):Rat)=((a*(s*s):Int):Rat):=by
   rw [Au,Au,Au,Rat.intCast_sub,Au,<-z,<-v];ext
  exact_mod_cast this
 rcases hp with ⟨t,s,rfl,l,k,n⟩ | ⟨m,a,e,rfl,f,g,h⟩
 ·rcases r with ⟨U,W,rfl,J,_⟩ | ⟨m,a,e,rfl,f,g,h⟩
  ·exact wT l J λz=>F (by injection z with L M;rw [L,M])
  ·exact b t s m a e l k n f g h
 ·rcases r with ⟨t,s,rfl,l,k,n⟩ | ⟨w,A,B,rfl,i,j,C⟩
  ·exact (b t s m a e l k n f g h).symm
  ·have G:Pk [m,a,e]:=.inr ⟨m,a,e,rfl,f,g,h⟩;have u:Pk [w,A,B]:=.inr ⟨w,A,B,rfl,i,j,C⟩;obtain ⟨N,O⟩:=Te (m:=m) f g;obtain ⟨P,R⟩:=Te (m:=w) i j
   have o:∀ {p q:dD} {c d:Int},Pc (C' p)->Pc (C' q)->0<C' p (((c:Rat)+1) / 1024)->C' q ((d:Rat) / 1024)<0->c<d->Sep p q:=λ{p q c d} hp r S T D=>by
    have D:(c:Rat)+1<=(d:Rat):=by exact_mod_cast D
    refine ⟨((c:Rat)+1) / 1024,mul_neg_iff'.mpr (.inl ⟨S,?_⟩)⟩;rcases Fs.mp D with z | z
    ·exact r.neg (show ((c:Rat)+1) / 1024<(d:Rat) / 1024 by ext) ()
    ·rw [z];exact T
   rcases FZ (cdP m a e) (cdP w A B) with c | c | c
   ·exact o G.pc u.pc O P c
   ·exact absurd (wR f g i j c) F
   ·exact (o u.pc G.pc R N c).symm
def Tf {W n:Int} (o:0<n):∃ k:Int,k≠0/\W=(AT W n).1*k/\n=(AT W n).2*k:=by
 have a:=Db (n:=W) (m:=n) ⋯;have b:=FM (n:=W) (m:=n) ⋯
 have e:(AT W n).1*n=W*(AT W n).2:=by
  unfold val at b;have f:((AT W n).2:Rat)≠0:=Am (by have:=a.pos;omega);have g:(n:Rat)≠0:=Am ⋯;have h:((AT W n).1:Rat) / ((AT W n).2:Rat)*((AT W n).2:Rat)=((AT W n).1:Rat):=DF f;have i:(W:Rat) / (n:Rat)*n=W:=DF g;have:((AT W n).1:Rat)*n=W*((AT W n).2:Rat):=by rw [<-h,<-i,b];ext
  exact_mod_cast this
 have p:=a.pos;have j:(AT W n).2∣n:=xG (c:=(AT W n).1) ⟨W,by rw [Int.mul_comm,e,Int.mul_comm]⟩ (by rw [Int.gcd_comm];exact a.one);obtain ⟨k,hk⟩:=j;generalize (AT W n).1=t at *;generalize (AT W n).2=d at *;refine ⟨k,λz=>by rw [z] at hk;omega,?_,hk⟩;have:W*d=t*k*d:=by rw [<-e,hk];ext
 exact Int.eq_of_mul_eq_mul_right ⋯ this
theorem Mx {H:Hp}:∀ (a:dD),RepA H (a.map V.int) (a.map W.Dat.int)
 | []=>.nil
 | n::a=>.cons (.int n) (Mx a)
def okI (l:dD):W.kqdOk 8 (.list (l.map W.Dat.int))=true:=by
 show (l.map W.Dat.int).all (W.kqdOk 7)=true;rw [List.all_eq_true];intro x a;obtain ⟨p,_,rfl⟩:=BD.mp a;rfl
def KT {W n:Int} (a:0<n):(AT W n).1.natAbs<=W.natAbs:=by
 obtain ⟨k,b,e,_⟩:=Tf (W:=W) a;generalize (AT W n).1=t at e;rw [e,Az];exact GV _ ⋯
def KU {W n:Int} (a:0<n):(AT W n).2.natAbs<=n.natAbs:=by
 obtain ⟨k,b,_,e⟩:=Tf (W:=W) a;generalize (AT W n).2=t at e;rw [e,Az];exact GV _ ⋯
def My {u v:Rat} (b:u<v):u*u*u<v*v*v:=by
 have e:v*v*v - u*u*u=(v - u)*(v*v+u*v+u*u):=by ext
 have a:∀ z:Rat,0<=z*z:=λz=>by
  rcases (BE:0<=z\/z<=0) with c | c
  ·exact Ab c c
  ·have:=Ab (show 0<=-z by ext) (show 0<=-z by ext);ext
 have p:0<v*v+u*v+u*u:=by
  have d:=a (v+u / 2);have f:=a u;rcases N' u 0 with c | c | c
  ·have:=Ar (show 0 < -u by ext) (show 0 < -u by ext);ext
  ·have:=Ar (show 0<v by ext) (show 0<v by ext);rw [c];ext
  ·have:=Ar c c;ext
 have:=Ar (show 0<v - u by ext) p;ext
def DR {a:Int} {x:Rat}:C' [a,0,0,0] x=x*x*x - (a:Rat):=rfl
def Tg (x p:Rat) (g:0<p):∃ a,0<a/\(x+a)*(x+a)*(x+a)<x*x*x+p/\x*x*x - p<(x - a)*(x - a)*(x - a):=by
 obtain ⟨A,c,h,o⟩:=be x;obtain ⟨a,i,f,r⟩:=Dz (p:=p) (q:=3*A*A+3*A+1) g (by have:=Ab c c;ext);refine ⟨a,i,?_,?_⟩
 ·have d:x*x<=A*A:=by
   have:=Ab (show 0<=A - x by ext) (show 0<=A+x by ext);ext
  have j:=AR d (show 0<=a by ext);have b:=AR f (show 0<=a by ext);have k:=AR h (show 0<=a*a from Ab () ());have m:=AR b c;have n:=AR b (show 0<=a by ext);have e:(x+a)*(x+a)*(x+a)=x*x*x+3*(a*(x*x))+3*(a*a*x)+a*(a*a):=by ext
  rw [e];ext
 ·have d:x*x<=A*A:=by
   have:=Ab (show 0<=A - x by ext) (show 0<=A+x by ext);ext
  have j:=AR d (show 0<=a by ext);have b:=AR f (show 0<=a by ext);have k:=AR (show -x<=A by ext) (show 0<=a*a from Ab () ());have m:=AR b c;have n:=AR b (show 0<=a by ext);have e:(x - a)*(x - a)*(x - a)=x*x*x - 3*(a*(x*x)) - 3*(a*a*(-x)) - a*(a*a):=by ext
  rw [e];ext
def Th (a:Int):Pc (C' [a,0,0,0]):=by
 obtain ⟨A,i,j,k⟩:=be (a:Rat);refine ⟨λx y c h=>?_,λx h=>?_,λx h=>?_,A+1,λx h=>?_⟩
 ·rw [DR] at h ⊢;have:=My c;ext
 ·rw [DR] at h;obtain ⟨b,d,e,_⟩:=Tg x ((a:Rat) - x*x*x) ();exact ⟨x+b,(),by rw [DR];ext⟩
 ·rw [DR] at h;obtain ⟨b,d,_,e⟩:=Tg x (x*x*x - (a:Rat)) ();exact ⟨x - b,(),by rw [DR];ext⟩
 ·have f:1<=x:=by ext
  have g:x<=x*x:=by have:=AR f (show 0<=x by ext);ext
  have m:x<=x*x*x:=by have:=A9 g (show 0<=x by ext);ext
  rw [DR,DR];constructor <;> ext
def Ie (a:Int) (x:Rat):A_ [-a,0,0,1] x=C' [a,0,0,0] x:=by
 rw [DR];show ((-a:Int):Rat)+x*(((0:Int):Rat)+x*(((0:Int):Rat)+x*(((1:Int):Rat)+x*0)))=_;rw [C2,show ((0:Int):Rat)=0 from rfl,show ((1:Int):Rat)=1 from rfl];ext
def wU (a:Int):Fz [-a,0,0,1] [[a,0,0,0]]:=by
 have g:=Th a;refine ⟨λp h=>by rw [Aq.mp h];exact g,λx=>by rw [Ie];exact ⟨λz=>⟨_,Aq.mpr rfl,z⟩,λ⟨p,h,z⟩=>by rw [Aq.mp h] at z;exact z⟩,λx y i h=>?_,λp h=>?_⟩
 ·have h:=h _ (Aq.mpr rfl);rcases mul_pos_iff'.mp h with ⟨b,d⟩ | ⟨b,d⟩
  ·refine ⟨C' [a,0,0,0] x,b,λz e f=>.inl ?_⟩;rw [Ie,DR,DR];rcases Fs.mp e with c | c
   ·have:=My c;ext
   ·rw [c];ext
  ·refine ⟨- C' [a,0,0,0] y,(),λz e f=>.inr ?_⟩;rw [Ie,DR,DR];rcases Fs.mp f with c | c
   ·have:=My c;ext
   ·rw [c];ext
 ·rw [Aq.mp h];exact ⟨[-a,0,0,1],λ_=>1,0,⟨1,λ_=>rfl⟩,λx=>by rw [Rat.mul_one],λx y b d _=>by rw [Ie,Ie];exact mul_neg_iff'.mpr (.inr ⟨b,d⟩)⟩
def wV {t s c:Int} (a:b5 c) (d:0<s) (e:s<=3) (f:t.natAbs<=6):t*t*t≠c*(s*s*s):=λh=>by
 have k:∀ s:Fin 4,∀ c∈[2,3,5,7],∀ w:Fin 7,0<s.val->w.val*w.val*w.val≠c*(s.val*s.val*s.val):=by decide
 have b:c.natAbs∈[2,3,5,7]:=by rcases a with rfl | rfl | rfl | rfl | rfl | rfl | rfl | rfl <;> decide
 refine k ⟨s.natAbs,⋯⟩ c.natAbs b ⟨t.natAbs,⋯⟩ (by show 0<s.natAbs;omega) ?_;show t.natAbs*t.natAbs*t.natAbs=c.natAbs*(s.natAbs*s.natAbs*s.natAbs);rw [<-Az,<-Az,<-Az,<-Az,<-Az,h]
def Ti {t s c:Int} (a:b5 c) (l:Low t s) (b:s<=3) (d:t.natAbs<=6):Sep [t,s] [c,0,0,0]:=by
 refine Mv (HM l.pos) (Th c) (x:=val (t,s)) (y:=0) (Mw l.pos) λz=>?_;rw [DR] at z;have v:val (t,s)*(s:Rat)=(t:Rat):=DF (Am (AU l.pos));refine wV a l.pos b d ?_
 have:((t*t*t:Int):Rat)=((c*(s*s*s):Int):Rat):=by
  rw [Au,Au,Au,Au,Au,<-v,show (c:Rat)=val (t,s)*val (t,s)*val (t,s) by grind];ext
 exact_mod_cast this
def wW {as:List (dD)} {f cs:dD} (h:PkL as f cs) {p q:dD} (hp:p∈ak as f cs) (o:q∈ak as f cs) (j:p≠q):Sep p q:=by
 have d:∀ p,p∈ak as f cs->(∃ t s:Int,p=[t,s]/\Low t s/\s<=3/\t.natAbs<=6)\/(Pk p/\f≠[])\/(∃ c,cs=[c]/\b5 c/\p=[c,0,0,0]):=λp hp=>by
  rcases Bq.mp hp with z | z
  ·rcases Bq.mp z with z | z
   ·exact .inl (h.a p z)
   ·have:∃ s∈f,p=[0,s,-1]\/p=[0,s,1]:=by
     rcases Bq.mp z with y | y
     ·obtain ⟨s,g,rfl⟩:=BD.mp y;exact ⟨s,g,.inl rfl⟩
     ·obtain ⟨s,g,rfl⟩:=BD.mp y;exact ⟨s,g,.inr rfl⟩
    obtain ⟨s,g,e⟩:=this;have i:isA s:=by have:=h.s s g;unfold isA;omega
    refine .inr (.inl ⟨.inr ?_,λz=>by rw [z] at g;cases g⟩);rcases e with rfl | rfl
    ·exact ⟨0,s,-1,rfl,i,.inr rfl,∅⟩
    ·exact ⟨0,s,1,rfl,i,.inl rfl,∅⟩
  ·obtain ⟨c,k,rfl⟩:=BD.mp z;rcases h.c with e | ⟨_,w,e,i⟩
   ·rw [e] at k;cases k
   ·rw [e] at k;obtain rfl:=Aq.mp k;exact .inr (.inr ⟨c,e,i,rfl⟩)
 have m:∀ {p:dD},(∃ t s:Int,p=[t,s]/\Low t s/\s<=3/\t.natAbs<=6)->Pk p:=λ⟨t,s,e,l,a,b⟩=>.inl ⟨t,s,e,l,⋯,⋯⟩
 have v:∀ {c:Int},f≠[]->cs=[c]->False:=λa b=>by
  rcases h.c with e | ⟨e,_⟩
  ·rw [e] at b;cases b
  ·exact a e
 rcases d p hp with a | ⟨a,x⟩ | ⟨c,e,i,rfl⟩
 ·rcases d q o with b | ⟨b,_⟩ | ⟨c,e,i,rfl⟩
  ·exact KS (m a) (m b) j
  ·exact KS (m a) b j
  ·obtain ⟨t,s,rfl,l,r,u⟩:=a;exact Ti i l r u
 ·rcases d q o with b | ⟨b,_⟩ | ⟨c,e,i,rfl⟩
  ·exact KS a (m b) j
  ·exact KS a b j
  ·exact (v x e).elim
 ·rcases d q o with b | ⟨b,A⟩ | ⟨w,n,B,rfl⟩
  ·obtain ⟨t,s,rfl,l,r,u⟩:=b;exact (Ti i l r u).symm
  ·exact (v A e).elim
  ·rw [e] at n;injection n with n;rw [n] at j;exact absurd rfl j
theorem Tj {as:List (dD)} {c cs:dD} (h:PkL as c cs):∀ {a:List (dD)},a.Nodup->(∀ q∈a,q∈ak as c cs)->a.Pairwise Sep
 | [],_,_=>.nil
 | q::a,d,m=>by
   obtain ⟨e,f⟩:=List.nodup_cons.mp d;exact List.pairwise_cons.mpr ⟨λr b=>wW h (m q (BS ..)) (m r (Bp _ b)) λz=>e (z ▸ b),Tj h f λr b=>m r (Bp _ b)⟩
theorem Tk {lo hi:Rat}:∀ {a:List (dD)},(∀ q∈a,Pc (C' q))->lo<hi->a.countP (B7 lo hi)=a.countP (af lo)+a.countP (IQ (some lo) (some hi))
 | [],_,_=>rfl
 | q::a,b,f=>by
   have h:=b q (BS ..);rw [C4,C4,C4,Tk (λp hp=>b p (Bp _ hp)) f];have e:IQ (some lo) (some hi) q=(decide (C' q lo<0) && !decide (C' q hi<0)):=rfl;rw [e];unfold B7 af;rcases N' (C' q lo) 0 with c | c | c
   ·rw [rA (show C' q lo<=0 by ext),rC (show ¬ C' q lo=0 by ext),rA c];by_cases d:C' q hi<0
    ·rw [rA d,rC (show ¬ 0<=C' q hi by ext)];simp
    ·rw [rC d,rA (show 0<=C' q hi by ext)];simp;omega
   ·have:=h.mono lo hi f ();rw [rA (show C' q lo<=0 by ext),rA c,rC (show ¬ C' q lo<0 by ext),rA (show 0<=C' q hi by ext)];simp;omega
   ·rw [rC (show ¬ C' q lo<=0 by ext),rC (show ¬ C' q lo=0 by ext),rC (show ¬ C' q lo<0 by ext)];simp
theorem Tl {lo:Rat}:∀ {a:List (dD)},a.countP (B7 lo lo)=a.countP (af lo)
 | []=>rfl
 | q::a=>by
   rw [C4,C4,Tl]
   have e:B7 lo lo q=af lo q:=by
    unfold B7 af;rcases N' (C' q lo) 0 with c | c | c
    ·rw [rC (show ¬ 0<=C' q lo by ext),rC (show ¬ C' q lo=0 by ext),Bool.and_false]
    ·rw [rA (show C' q lo<=0 by ext),rA (show 0<=C' q lo by ext),rA c];rfl
    ·rw [rC (show ¬ C' q lo<=0 by ext),rC (show ¬ C' q lo=0 by ext)];rfl
   rw [e]
def wX {R:dD} {ps a:List (dD)} (h:Fz R ps) (e:∀ q,q∈a↔q∈ps) (b:a.Pairwise Sep) (x:Rat):a.countP (af x)=if A_ R x=0 then 1 else 0:=by
 have c:∀ q∈a,Pc (C' q):=λq d=>h.pc q ((e q).mp d);have f:=Mt c b x;by_cases z:A_ R x=0
 ·rw [sZ z];obtain ⟨p,hp,s⟩:=(h.zero x).mp z;have:0<a.countP (af x):=List.countP_pos_iff.mpr ⟨p,(e p).mpr hp,rA s⟩;omega
 ·rw [sY z];refine List.countP_eq_zero.mpr λp hp s=>z ((h.zero x).mpr ⟨p,(e p).mp hp,rB s⟩)
def HN {D:Ends} {t:TS} {σ:L2.St} {H:Hp} (h:t D σ H):BL { D with nx:=t D } σ H:=h
def wY (h:Ly K vs H Q E):ZZ K (eC Q) (L2.start ["_law_script","_law_k"] vs) H:=by
 obtain ⟨a,b,k,rfl,d,i,q⟩:=h;refine Dy ⟨_,rfl,_,_,rfl,rfl,_,rfl,AV (λ_=>?_) (λ_=>?_)⟩
 ·refine ⟨_,rfl,a,_,rfl,d,_,_,rfl,rfl,_,rfl,AV (λc=>?_) (λ_=>q 0)⟩;have c:k<(((b.map V.int).length:Nat):Int):=rB c;have f:k.toNat<(b.map V.int).length:=by omega
  have e:O' (b.map V.int) k=some (V.int (b.getD k.toNat 0)):=by
   refine DI (j:=k.toNat) ⋯ ?_;rw [AJ] at f;rw [Ae,AO,Ag f];rfl
  exact ⟨_,rfl,_,rfl,_,_,_,_,rfl,rfl,d,e,q _⟩
 ·exact ⟨_,rfl,AV (λc=>by cases c) (λ_=>q 0)⟩
def wZ (h:CH K vs H Q E):Za K (eC Q) (L2.start ["_law_cell","_law_k","_law_many","_law_m"] vs) H:=by
 obtain ⟨c,k,m,rfl,e,g,f,q⟩:=h;have a:∀ d:Int,Q (.int (d % m)) H:=λd=>q _ (Ca _ ⋯) (Cm _ f)
 have rest:Rm K { nx:=λ_ b=>Q V.non b,rt:=Q } [some (.int c),some (.int k),some (.int m),none] H:=by
  have i:=Ca c (show (2147483629:Int)≠0 by decide);have j:=Cm c (show (0:Int)<2147483629 by decide)
  have n:0<=k*k/\k*k<=10000:=by
   constructor
   ·exact Int.mul_nonneg e e
   ·exact Int.le_trans (Int.mul_le_mul g g e ∅) ∅
  refine BW ⟨_,rfl,_,_,rfl,rfl,(show (0:Int)<2147483629 by decide),_,rfl,_,rfl,_,_,rfl,rfl,FQ ⋯ ⋯,_,_,rfl,rfl,ST ∅ ∅,_,_,rfl,rfl,_,_,rfl,rfl,_,_,rfl,rfl,ST ∅ ∅,_,_,rfl,rfl,(show (0:Int)<2147483647 by decide),?_⟩;show Rl K _ _ _;have o:=Ca ((c % 2147483629+k*k*7919+11)*48271) (show (2147483647:Int)≠0 by decide);have p:=Cm ((c % 2147483629+k*k*7919+11)*48271) (show (0:Int)<2147483647 by decide);refine ⟨_,rfl,_,rfl,_,_,rfl,rfl,FQ ⋯ ⋯,_,_,rfl,rfl,(show (0:Int)<1999999973 by decide),_,_,rfl,rfl,⟨(show (0:Int)<7 by decide),(show Bd 3 7 by unfold Bd;decide).mono ∅⟩,_,rfl,_,_,rfl,rfl,f,a _⟩
 refine Dy ⟨_,rfl,_,_,rfl,rfl,⟨∅,∅,∅⟩,_,_,rfl,rfl,_,rfl,AV (λ_=>?_) (λ_=>?_)⟩
 ·refine ⟨_,rfl,_,_,rfl,rfl,_,rfl,AV (λ_=>?_) (λ_=>rest)⟩;exact ⟨_,rfl,_,rfl,_,_,rfl,rfl,FQ ∅ ∅,_,_,rfl,rfl,(by show (0:Int)<=8*k;omega),_,_,rfl,rfl,(show (0:Int)<256 by decide),_,rfl,_,_,rfl,rfl,f,a _⟩
 ·exact AV (λc=>by cases c) (λ_=>rest)
def vA (h:FO K vs H Q E):Ro K { nx:=λ_ d=>Q .non d,rt:=Q } (L2.start ["_law_top","_law_bottom_here","_law_one","_law_other"] vs) H:=by
 obtain ⟨a,b,rfl,f,q⟩:=h;unfold Ro;rwa []
 have i:∀ s:Int,(s=if b<0 then -((Int.gcd a b:Nat):Int) else ((Int.gcd a b:Nat):Int))->Gp a s/\Gp b s/\2<=sizeLine/\∀ (p:Addr),H p=none->Q (V.ref p) (upd H p (.tup [.int (a.fdiv s),.int (b.fdiv s)])):=λs v=>by
  obtain ⟨j,D,k,w,F,G⟩:=JD f v
  have e:AT a b=(a.fdiv s,b.fdiv s):=by
   refine FK (Db f) k ?_;rw [FM f,JV (q:=(a.fdiv s,b.fdiv s)) (AU k.pos) f w]
  rw [e] at q;exact ⟨j,j,sz ∅,q⟩
 refine ET (λm n d=>∃ x y:Int,n=[some (.int a),some (.int b),some (.int x),some (.int y)]/\d=H/\0<=x/\0<=y/\Int.gcd x y=Int.gcd a b/\m=y.natAbs) b.natAbs ⟨_,_,rfl,rfl,by split <;> omega,by split <;> omega,?_,by split <;> omega⟩ ?_
 ·split <;> split <;> simp [Int.neg_gcd,Int.gcd_neg]
 rintro m n d ⟨x,y,rfl,rfl,I,o,r,rfl⟩;rwa [];refine AV (λc=>?_) (λc=>?_)
 ·refine ⟨λz A=>∃ B,B<y.natAbs/\_,λ_ _ h=>h,?_⟩;have C:=Ca x (show y≠0 by omega);have J:=Cm x c;refine ⟨c,(x % y).natAbs,⋯,y,x % y,rfl,rfl,o,C,?_,rfl⟩;rw [Kn x o];exact r
 ·have e:y=0:=by omega
  subst e;have u:x=((Int.gcd a b:Nat):Int):=by rw [<-r,Int.gcd_zero_right];omega
  refine AV (λg=>?_) (λg=>?_)
  ·exact i _ (by rw [sZ g,u])
  ·exact i _ (by rw [sY g,u])
def KW (z:Int):Low z 1:=⟨∅,by rw [Int.gcd_one_right]⟩
def Tm {b:Nat} {x y:Int} (a:0<y) (c:Bd b x) (d:Bd b y):Nb b (P' x y):=by
 have e:AT x y=P' x y:=by unfold AT;rw [sY ⋯]
 have:=Hs (AU a) c d;rw [e] at this;exact ⟨Dw a,this⟩
def vB {a b:Nat} {q r:Nu} (c:Nb a q) (d:Nb b r):Nb (a+b) (H_ q r):=Tm (CN c.1.pos d.1.pos) (c.2.1.mul d.2.1) (c.2.2.mul d.2.2)
def Nb.mono {a b:Nat} {q:Nu} (h:Nb a q) (c:a<=b):Nb b q:=⟨h.1,h.2.1.mono c,h.2.2.mono c⟩
def vC {a b:TE} {σ:L2.St} {H:Hp} {Q:VK} (h:a σ H λx d=>∃ c,x=.bl c/\if c=true then b σ d Q else Q (.bl false) d):Io a b σ H Q:=h
def KY {a:Type} {n k:Nat} (f:Nat->a) (h:k<n):((List.range n).map f)[k]?=some (f k):=by
 rw [Ae,Co h];rfl
def vD {b:Type} {n k:Nat} {f g:Nat->b} {z:b} (h:k<n) (c:g k=z) (d:∀ i,i<n->i≠k->g i=f i):((List.range n).map f).set k z=(List.range n).map g:=by
 apply Eh;intro i;by_cases a:i<n
 ·by_cases e:i=k
  ·subst e;rw [List.getElem?_set_self (by rw [AJ,BI];exact a),KY g a,c]
  ·rw [List.getElem?_set_ne (λz=>e z.symm),KY f a,KY g a,d i a e]
 ·rw [Ba (by rw [List.length_set,AJ,BI];omega),Ba (by rw [AJ,BI];omega)]
def Tn {a:Type} {n:Nat} {f g:Nat->a} (h:∀ i,i<n->f i=g i):(List.range n).map f=(List.range n).map g:=
 EL λi b=>h i (Eb.mp b)
theorem To {a:Type} (z:a):∀ n:Nat,(List.range n).map (λ_=>z)=List.replicate n z
 | 0=>rfl
 | n+1=>by rw [List.range_succ,DC,To z n,List.replicate_succ'];rfl
def vE {n k B:Int} {q r:Nu} {a b c:Int} (d:0<B) (f:0<q.2) (g:0<r.2) (h:Wo q a b) (i:Wo r c k) (e:B=b*k):U_ (P' n B) (H_ q r)=P' (n+a*c) B:=by
 subst e;refine LA (LB (Dw d).pos (JS f g).pos) (Dw d) (AU d) (Xw (Dw d).pos (JS f g).pos (FI d) (Xx f g h i)) (FI d)
def Ig {x y:Int} (h:0<y):AT x y=P' x y:=by unfold AT;rw [sY ⋯]
def vF (h:HE K vs H Q E):Zb K (eC Q) (L2.start ["_law_one","_law_other"] vs) H:=by
 obtain ⟨x,y,q,r,rfl,⟨g,i,c⟩,⟨j,m,d⟩,a,b,k⟩:=h;obtain rfl:x=g:=by injection i
 obtain rfl:y=j:=by injection m
 have e:=CN a.1.pos b.1.pos;refine Dg (B4 (Af (Af (CC rfl c (DX _ _) (CC rfl d (DY _ _) ⟨_,_,rfl,rfl,Bw a.2.1 b.2.2,Af (CC rfl d (DX _ _) (CC rfl c (DY _ _) ⟨_,_,rfl,rfl,Bw b.2.1 a.2.2,_,_,rfl,rfl,Af (CC rfl c (DY _ _) (CC rfl d (DY _ _) ⟨_,_,rfl,rfl,Bw a.2.2 b.2.2,_,_,rfl,AU e,?_⟩))⟩))⟩)))));rw [Ig e];exact k
def vG (h:J8 K vs H Q E):Zc K (eC Q) (L2.start ["_law_one","_law_other"] vs) H:=by
 obtain ⟨x,y,q,r,rfl,⟨g,i,c⟩,⟨j,m,d⟩,a,b,k⟩:=h;obtain rfl:x=g:=by injection i
 obtain rfl:y=j:=by injection m
 have e:=CN a.1.pos b.1.pos;refine Dg (B4 (Af (CC rfl c (DX _ _) (CC rfl d (DX _ _) ⟨_,_,rfl,rfl,Bw a.2.1 b.2.1,Af (CC rfl c (DY _ _) (CC rfl d (DY _ _) ⟨_,_,rfl,rfl,Bw a.2.2 b.2.2,_,_,rfl,AU e,?_⟩))⟩))));rw [Ig e];exact k
def vH (h:J9 K vs H Q E):Zd K (eC Q) (L2.start ["_law_one","_law_other"] vs) H:=by
 obtain ⟨x,y,q,r,rfl,⟨f,g,a⟩,⟨i,j,b⟩,c,d,k⟩:=h;obtain rfl:x=f:=by injection g
 obtain rfl:y=i:=by injection j
 exact Dg (Af (Af (CC rfl a (DX _ _) (CC rfl b (DY _ _) ⟨_,_,rfl,rfl,Bw c.2.1 d.2.2,Af (CC rfl b (DX _ _) (CC rfl a (DY _ _) ⟨_,_,rfl,rfl,Bw d.2.1 c.2.2,_,_,rfl,rfl,k⟩))⟩))))
def Fm {q:Nu} (h:0<q.2):val q*(q.2:Rat)=(q.1:Rat):=DF (Am (AU h))
def Ih {p q:Prop} [Decidable p] [Decidable q] (h:p↔q):decide p=decide q:=by
 by_cases c:p
 ·rw [rA c,rA (h.mp c)]
 ·rw [rC c,rC λz=>c (h.mpr z)]
def vI {q:Nu} (h:0<q.2):q.1<0↔val q<0:=by
 have v:=Fm h;have p:(0:Rat)<(q.2:Rat):=by exact_mod_cast h
 constructor
 ·intro z;have z:(q.1:Rat)<0:=by exact_mod_cast z
  refine CV.mp λc=>?_;have:=Ab c (Rat.le_of_lt p);rw [v] at this;ext
 ·intro z;have:=Ar (show 0 < - val q by ext) p;have:(q.1:Rat)<0:=by ext
  exact_mod_cast this
def vJ {q:Nu} {s:Int} (h:0<q.2):q.1*q.1<s*q.2*q.2↔val q*val q<(s:Rat):=by
 have v:=Fm h;have p:(0:Rat)<(q.2:Rat):=by exact_mod_cast h
 have a:=Ar p p;have e:((q.1*q.1:Int):Rat)=val q*val q*((q.2:Rat)*(q.2:Rat)):=by rw [Au,<-v];ext
 have b:((s*q.2*q.2:Int):Rat)=(s:Rat)*((q.2:Rat)*(q.2:Rat)):=by rw [Au,Au];ext
 rw [<-Rat.intCast_lt_intCast,e,b];constructor
 ·intro z;refine CV.mp λc=>?_;have:=A9 c (Rat.le_of_lt a);ext
 ·intro z;have:=Ar (show 0<(s:Rat) - val q*val q by ext) a;ext
def vK {q:Nu} {s:Int} (h:0<q.2):q.1*q.1*q.1<s*q.2*q.2*q.2↔val q*val q*val q<(s:Rat):=by
 have v:=Fm h;have p:(0:Rat)<(q.2:Rat):=by exact_mod_cast h
 have a:=Ar (Ar p p) p;have e:((q.1*q.1*q.1:Int):Rat)=val q*val q*val q*((q.2:Rat)*(q.2:Rat)*(q.2:Rat)):=by rw [Au,Au,<-v];ext
 have b:((s*q.2*q.2*q.2:Int):Rat)=(s:Rat)*((q.2:Rat)*(q.2:Rat)*(q.2:Rat)):=by rw [Au,Au,Au];ext
 rw [<-Rat.intCast_lt_intCast,e,b];constructor
 ·intro z;refine CV.mp λc=>?_;have:=A9 c (Rat.le_of_lt a);ext
 ·intro z;have:=Ar (show 0<(s:Rat) - val q*val q*val q by ext) a;ext
def vL (h:KD K vs H Q E):Zh K (eC Q) (L2.start ["_law_c","_law_s"] vs) H:=by
 obtain ⟨x,q,c,rfl,⟨f,g,b⟩,a,i,k⟩:=h;obtain rfl:x=f:=by injection g
 have d:Bd 4 c:=aJ (by show c.natAbs<16;omega);refine Dg (Af (Af (Af (CC rfl b (DX _ _) (CC rfl b (DX _ _) ⟨_,_,rfl,rfl,Bw a.2.1 a.2.1,CC rfl b (DX _ _) ⟨_,_,rfl,rfl,Bw (a.2.1.mul a.2.1) a.2.1,Af (Af (Af (Ak rfl (CC rfl b (DY _ _) ⟨_,_,rfl,rfl,Bw d a.2.2,CC rfl b (DY _ _) ⟨_,_,rfl,rfl,Bw (d.mul a.2.2) a.2.2,CC rfl b (DY _ _) ⟨_,_,rfl,rfl,Bw ((d.mul a.2.2).mul a.2.2) a.2.2,_,_,rfl,rfl,?_⟩⟩⟩))))⟩⟩)))));rw [<-show decide (q.1*q.1*q.1<c*q.2*q.2*q.2)=decide (C' [c,0,0,0] (val q)<0) from Ih ((vK a.1.pos).trans (by rw [DR];constructor <;> intro z <;> ext))] at k;exact k
def Sm7.nb {q:Nu} (h:Sm7 q):Nb 1000 q:=⟨h.1,aJ (B5 h.2.1 (B8 (show 200<2 ^ 8 by decide) (CK ∅ ∅))),aJ (B5 (show q.2.natAbs<=9 by have:=h.1.pos;have:=h.2.2;omega) (B8 (show 9<2 ^ 8 by decide) (CK ∅ ∅)))⟩
def Tq {q:Nu} {s:Int} (h:Sm7 q) (a:s=2\/s=3\/s=5\/s=6\/s=7):val q*val q≠(s:Rat):=λz=>by
 have k:∀ u:Fin 10,∀ s∈[2,3,5,6,7],∀ t:Fin 201,0<u.val->t.val*t.val≠s*u.val*u.val:=by decide +kernel
 have p:=h.1.pos;have v:=Fm p;have e:((q.1*q.1:Int):Rat)=((s*q.2*q.2:Int):Rat):=by rw [Au,Au,Au,<-z,<-v];ext
 have e:q.1*q.1=s*q.2*q.2:=by exact_mod_cast e
 have b:s.natAbs∈[2,3,5,6,7]:=by rcases a with rfl | rfl | rfl | rfl | rfl <;> decide
 refine k ⟨q.2.natAbs,by have:=h.2.2;omega⟩ s.natAbs b ⟨q.1.natAbs,by have:=h.2.1;omega⟩ (by show 0<q.2.natAbs;omega) ?_;show q.1.natAbs*q.1.natAbs=s.natAbs*q.2.natAbs*q.2.natAbs;rw [<-Az,<-Az,<-Az,e]
def vM (h:KC K vs H Q E):Zg K (eC Q) (L2.start ["_law_c","_law_s","_law_sign","_law_square"] vs) H:=by
 obtain ⟨x,q,s,e,rfl,⟨o,p,b⟩,j,r,v,k⟩:=h;obtain rfl:x=o:=by injection p
 have a:=j.nb;have u:0<s:=by omega
 have w:=Tq j r;have m:Bd 4 s:=aJ (by show s.natAbs<16;omega);have f:((0:Int):Rat)=0:=rfl;have g:=vI a.1.pos;have i:=vJ (s:=s) a.1.pos;have A:(0:Rat)<(s:Rat):=by exact_mod_cast u
 refine BW (Af (Af (CC rfl b (DX _ _) (CC rfl b (DX _ _) ⟨_,_,rfl,rfl,Bw a.2.1 a.2.1,Af (Af (Ak rfl (CC rfl b (DY _ _) ⟨_,_,rfl,rfl,Bw m a.2.2,CC rfl b (DY _ _) ⟨_,_,rfl,rfl,Bw (m.mul a.2.2) a.2.2,_,_,rfl,rfl,?_⟩⟩)))⟩))));refine Dy (EY (Af (Ak rfl (G_ ⟨_,_,rfl,rfl,_,rfl,AV (λc=>?_) (λc=>?_)⟩))))
 ·have c:(0:Int)<e:=rB c;obtain rfl:e=1:=by omega
  refine Dg (show Ip _ _ _ _ _ from Af (CC rfl b (DX _ _) (G_ ⟨_,_,rfl,rfl,_,rfl,AV (λd=>?_) (λd=>Ak rfl ?_)⟩)))
  ·have d:q.1<0:=rB d;rw [rA (show C' [0,s,1] (val q)<0 by rw [EI,f,sZ (g.mp d)];ext)] at k;exact k
  ·have d:¬ q.1<0:=λz=>d (rA z);have e:C' [0,s,1] (val q)=val q*val q - (s:Rat):=by rw [EI,f,sY (λz=>d (g.mpr z))];ext
   rw [e] at k;rw [<-show decide (q.1*q.1<s*q.2*q.2)=decide (val q*val q - (s:Rat)<0) from Ih (i.trans (by constructor <;> intro z <;> ext))] at k;exact k
 ·have c:¬ (0:Int)<e:=λz=>c (rA z);obtain rfl:e = -1:=by omega
  refine HN (Dg (vC (Af (CC rfl b (DX _ _) (G_ ⟨_,_,rfl,rfl,_,rfl,AV (λd=>?_) (λd=>?_)⟩)))))
  ·have d:q.1<0:=rB d;have e:C' [0,s,-1] (val q)=(s:Rat) - val q*val q:=by rw [E3,f,sZ (g.mp d)];ext
   rw [e] at k;refine (show Iq _ _ _ _ from Ak rfl ⟨_,rfl,?_⟩)
   rw [<-show (!decide (q.1*q.1<s*q.2*q.2))=decide ((s:Rat) - val q*val q<0) by
    by_cases z:q.1*q.1<s*q.2*q.2
    ·rw [rA z,rC (by have:=i.mp z;ext)];rfl
    ·rw [rC z,rA (by have:=λy=>z (i.mpr y);ext)];rfl] at k
   exact k
  ·have d:¬ q.1<0:=λz=>d (rA z);rw [rC (show ¬ C' [0,s,-1] (val q)<0 by rw [E3,f,sY (λz=>d (g.mpr z))];ext)] at k;exact k
def vN (h:FP K vs H Q E):Ze K (eC Q) (L2.start ["_law_one","_law_other","_law_row","_law_i","_law_j"] vs) H:=by
 obtain ⟨p,q,xs,ys,l,m,rfl,hp,S,hN,hM,T,U,⟨d,A,L,bl⟩,⟨a,B,M,bm⟩,l1,m1,ll,lm,k⟩:=h;have lx:=hN.length;have ly:=hM.length;have O:=CN A.1 B.1;have W:Bd 200 (d*a):=L.mul M;have n2:(J_ m a).length=m.length:=by unfold J_;rw [AJ]
 have bd:∀ i j k,i<=20->Bd 300 (aa (J_ l d) (J_ m a) i j k):=λi j k X=>(X5 bl bm i j k).mono ⋯;refine BW (Af (Gz (C7 (G_ (G_ ⟨CP,λb hb=>⟨Df,λc hc=>?_⟩⟩)))));have sb:=AQ hb (.tup [.int 0,.int 1]);have sc:=AQ hc (.lst [.ref b]);have P:=sb.trans sc;have Y:upd (upd H b (.tup [.int 0,.int 1])) c (.lst [.ref b]) b=some (HO.tup [V.int 0,V.int 1]):=sc _ _ upd_same;have Z:upd (upd H b (.tup [.int 0,.int 1])) c (.lst [.ref b]) c=some (HO.lst [V.ref b]):=upd_same;generalize upd (upd H b (.tup [.int 0,.int 1])) c (.lst [.ref b])=H0 at *;refine Af (Af (Hu (Ak rfl (Hv (P _ _ hp) (Hu (Ak rfl (Hv (P _ _ S) ⟨_,_,rfl,rfl,G_ ⟨_,_,rfl,rfl,c,_,[.ref b],rfl,rfl,Z,⋯,⋯,sz (by rw [List.length_singleton];omega),λw hw=>?_⟩⟩)))))));rw [show ((xs.length:Int)+(ys.length:Int) - 1).toNat=l.length+m.length - 1 by omega,Ht];have sw:=AQ hw (.lst (List.replicate (l.length+m.length - 1) (V.ref b)));have w0:H w=none:=P.free hw;have C:=P.trans sw;show Rs K _ _ _;refine Gh (show BH _ _ _ _ _ _ from Hu (Ak rfl (Hv (C _ _ hp) ⟨_,rfl,⋯,⋯,?_⟩)));rw [DB,lx];refine ForR.by (λi D x=>i<=l.length/\∃ x3 J:dC,D=[some (.ref p),some (.ref q),some (.ref w),x3,J]/\Same H x/\∃ y,x w=some (.lst y)/\Nums x y ((List.range (l.length+m.length - 1)).map λk=>P' (ps (J_ l d) (J_ m a) i k) (d*a))) ⟨Aa _,none,none,rfl,C,_,upd_same,?_⟩ ?_ ?_
 ·rw [show (λk=>P' (ps (J_ l d) (J_ m a) 0 k) (d*a))=λ_=>((0,1):Nu) from funext λk=>OW O,To];exact Nums.rep ⟨b,rfl,sw _ _ Y⟩ _
 ·rintro i D H1 X ⟨_,x3,J,rfl,C,y,F,G⟩;refine EX ?_;rw [show (0:Int)+(i:Int)=(i:Int) by omega];obtain ⟨v0,a0,px,rfl,a1⟩:=hN.at (i:=i) X (0,1);have lq:=FJ T i;have zm:l[i]?=some (AW l i):=by unfold AW;rw [AO,Ag X];rfl
  have nq:Nb 100 (AW l i):=⟨lq,MG T A bl _ (Bu zm),EF (AU A.1) (A.2 _ (Bu zm)) L⟩;refine (show BH _ _ _ _ _ _ from Hu (Ak rfl (Hv (C _ _ S) ⟨_,rfl,⋯,⋯,?_⟩)));rw [DB,ly];refine ForR.by (λj D x=>j<=m.length/\∃ J:dC,D=[some (.ref p),some (.ref q),some (.ref w),some (.int (i:Int)),J]/\Same H x/\∃ y,x w=some (.lst y)/\Nums x y ((List.range (l.length+m.length - 1)).map λk=>P' (aa (J_ l d) (J_ m a) i j k) (d*a))) ⟨Aa _,J,rfl,C,y,F,?_⟩ ?_ ?_
  ·rw [Tn λk _=>congrArg (λz=>P' z (d*a)) (X4 (J_ l d) (J_ m a) i k)];exact G
  ·rintro j D H2 hj ⟨_,y4,rfl,I,r,u,f⟩;refine EX ?_;rw [show (0:Int)+(j:Int)=(j:Int) by omega];obtain ⟨v1,a2,py,rfl,a3⟩:=hM.at (i:=j) hj (0,1);have kl:i+j<l.length+m.length - 1:=by omega
   obtain ⟨v,hv,g,rfl,hg⟩:=f.at (i:=i+j) (by rw [AJ,BI];exact kl) (1,1);rw [AO,KY _ kl] at hg;have lu:=FJ U j;have um:m[j]?=some (AW m j):=by unfold AW;rw [AO,Ag hj];rfl
   have nu:Nb 100 (AW m j):=⟨lu,MG U B bm _ (Bu um),EF (AU B.1) (B.2 _ (Bu um)) M⟩;have a4:Nb 300 (P' (aa (J_ l d) (J_ m a) i j (i+j)) (d*a)):=Tm O (bd i j (i+j) ⋯) (W.mono ∅);have a5:=vB nq nu;refine (show AK _ _ _ _ _ _ _ from B4 (Af (Ak rfl (Af (Ak rfl (Ak rfl ⟨_,_,rfl,rfl,Jg u (DI (j:=i+j) ⋯ hv) (B4 (Af (Ak rfl (Ak rfl (Jg (I _ _ hp) (F4 a0) (Af (Ak rfl (Ak rfl (Jg (I _ _ S) (F4 a2) ⟨px,py,AW l i,AW m j,rfl,⟨px,rfl,I _ _ a1⟩,⟨py,rfl,I _ _ a3⟩,nq.mono ∅,nu.mono ∅,λr1 ab=>?_⟩)))))))))⟩))))));have N:=AQ ab (.tup [.int (H_ (AW l i) (AW m j)).1,.int (H_ (AW l i) (AW m j)).2]);refine ⟨g,r1,_,H_ (AW l i) (AW m j),rfl,⟨g,rfl,N _ _ hg⟩,⟨r1,rfl,upd_same⟩,a4.mono ∅,a5.mono ∅,λr2 ac=>?_⟩;have aj:=AQ ac (.tup [.int (U_ (P' (aa (J_ l d) (J_ m a) i j (i+j)) (d*a)) (H_ (AW l i) (AW m j))).1,.int (U_ (P' (aa (J_ l d) (J_ m a) i j (i+j)) (d*a)) (H_ (AW l i) (AW m j))).2]);have R:=N.trans aj;have lz:r.length=l.length+m.length - 1:=by rw [f.length,AJ,BI]
   refine (show En _ _ _ _ _ _ _ from Ak rfl (Af (Ak rfl (Ak rfl ⟨_,_,rfl,rfl,w,r,_,i+j,rfl,rfl,R _ _ u,Ey ⋯ ⋯,⟨⋯,_,rfl,λb o h=>Kp.upd b o (BA h w0) (R b o (I b o h)),_,upd_same,?_⟩⟩))));have hn:=(Nums.set (q:=U_ (P' (aa (J_ l d) (J_ m a) i j (i+j)) (d*a)) (H_ (AW l i) (AW m j))) ⟨r2,rfl,upd_same⟩ (i+j) (f.tp (V_ R))).tp (Tp.updL (ys:=r.set (i+j) (V.ref r2)) (R _ _ u));rw [vD (g:=λk=>P' (aa (J_ l d) (J_ m a) i (j+1) k) (d*a)) kl ?_ λk _ hk=>?_] at hn
   ·exact hn
   ·show P' (aa (J_ l d) (J_ m a) i (j+1) (i+j)) (d*a)=_;rw [Oa,sZ rfl,vE O lq.pos lu.pos (LF A i) (LF B j) rfl]
   ·show P' (aa (J_ l d) (J_ m a) i (j+1) k) (d*a)=_;rw [Oa,sY hk]
  ·rintro D H2 ⟨_,y4,rfl,I,r,u,f⟩;rw [Tn λk _=>congrArg (λz=>P' z (d*a)) (show aa (J_ l d) (J_ m a) i m.length k=ps (J_ l d) (J_ m a) (i+1) k by rw [<-n2];rfl)] at f;exact ⟨⋯,_,_,rfl,I,r,u,f⟩
 ·rintro D H1 ⟨_,x3,J,rfl,C,y,F,G⟩;show Rp K _ _ _;have lo:=YB (n:=l.length+m.length - 1) A B;refine Dg (Ak rfl (k w y (Fe l m d a (l.length+m.length - 1)) H1 C w0 F G lo (by unfold Fe;rw [AJ,BI]) λk=>?_));rw [<-YC T U A B k];unfold E_ Fe;by_cases hk:k<l.length+m.length - 1
  ·congr 1;unfold AW;rw [AO,AO,Ae,Ae,Co hk,Co ⋯]
  ·have e:AW ((List.range (l.length+m.length - 1)).map λk=>P' (ps (J_ l d) (J_ m a) l.length k) (d*a)) k=(0,1):=by
    unfold AW;rw [AO,Ba (by rw [AJ,BI];omega)];rfl
   rw [e];unfold AW;rw [AO,Ae];by_cases h2:k<l.length+m.length
   ·rw [Co h2];show val (0,1)=val (P' (ps (J_ l d) (J_ m a) l.length k) (d*a));rw [JU l.length k (by rw [n2];omega),OW O]
   ·rw [Ba (by rw [BI];omega)];rfl
noncomputable def L1 (b:dD):Nat:=(b.map Int.natAbs).sum
theorem Tr {f:dO} {A:Nat} (h:∀ k,(f k).natAbs<=A):∀ (b:dD) (k:Nat),(cvL b f k).natAbs<=L1 b*A
 | [],_=>Aa _
 | x::b,0=>by
   rw [A4,Int.add_zero,Az];show _<=(x.natAbs+L1 b)*A;rw [DV];have:=CD x.natAbs (h 0);omega
 | x::b,k+1=>by
   have a:=Tr h b k;rw [Av];show _<=(x.natAbs+L1 b)*A;rw [DV];have c:=CD x.natAbs (h (k+1));have d:(x*f (k+1)).natAbs=x.natAbs*(f (k+1)).natAbs:=Az ..;have e:=Int.natAbs_add_le (x*f (k+1)) (cvL b f k);omega
def vO {a b c:dD} (d:∀ k,co c k=ps a b a.length k):∀ k,co c k=cvL a (co b) k:=λk=>by rw [d k,Mm _ _ _ _ (AS _),Cz]
def vP {a b c:dD} {A:Nat} (d:∀ k,co c k=ps a b a.length k) (f:∀ z∈a,z.natAbs<=A):∀ z∈c,z.natAbs<=L1 b*A:=λz g=>by
 obtain ⟨k,rfl⟩:=Mr g;rw [vO d,CB];refine Tr (λj=>?_) b k;rcases BN j a.length with q | q
 ·have e:co a j=a[j]:=by unfold co;rw [AO,Ag q];rfl
  rw [e];exact f _ (DM q)
 ·rw [AZ q];exact Aa _
def grow {a b c:dD} {j:Nat} (e:∀ z∈a,z.natAbs<=15 ^ (a.length - 1)) (m:0<a.length) (n:b.length=j+1) (f:L1 b<=15 ^ j) (o:c.length=a.length+b.length - 1) (g:∀ k,co c k=ps a b a.length k):∀ z∈c,z.natAbs<=15 ^ (c.length - 1):=λz h=>by
 have i:=vP g e z h;have d:=CF (15 ^ (a.length - 1)) f;rw [<-Ck] at d;rw [show c.length - 1=j+(a.length - 1) by omega];exact Bx i d
def b15 {l:Nat} (h:l<=9):15 ^ (l - 1)<2 ^ 36:=B5 (CK ∅ (show l - 1<=8 by omega)) ∅
def Mz {w:Addr} {xs:dz} {y:V} {H:Hp} {Q:VK} (a:H w=some (.lst xs)) (b:xs.length<=1000) (h:Q .non (upd H w (.lst (xs++[y])))):ES (.ref w) [y] H Q:=⟨w,xs,y,rfl,rfl,a,B5 b (by rw [sizeLine_eq];decide),h⟩
def M4 {K:W.Frag} {i:Nat} {w:Addr} {a:TE} {D:Ends} {σ:L2.St} {H:Hp} {xs:dz} (b:σ[i]?=some (some (.ref w))) (c:H w=some (.lst xs)) (h:a σ H λy d=>ES (.ref w) [y] d λ_ e=>D.nx σ e):El (aP K "list" ES (AA i) (AB a AC)) D σ H:=⟨_,b,.inl ⟨rfl,_,SqL.of c⟩,h⟩
noncomputable def aK (a b:dD):dD:=(List.range (a.length+b.length - 1)).map λk=>ps a b a.length k
def E4 (a b:dD):(aK a b).length=a.length+b.length - 1:=by unfold aK;rw [AJ,BI]
def Ts {a b:dD} (c:0<a.length) (d:0<b.length) (k:Nat):co (aK a b) k=ps a b a.length k:=by
 unfold co aK;rw [AO,Ae];by_cases h:k<a.length+b.length - 1
 ·rw [Co h];rfl
 ·rw [Ba (by rw [BI];omega),JU a.length k ⋯];rfl
def M5 {a b:dD} (c:0<a.length) (d:0<b.length):si (aK a b)=si a*si b:=KI λk=>by rw [Ts c d,Mm a b k a.length (AS _),Cz]
def vQ {a b:dD} (c:Lz a) (d:Lz b):Lz (aK a b):=by
 have e:=c.1;have h:=d.1;refine ⟨by rw [E4];omega,λz=>?_⟩;rw [E4] at z;have t:=(Sr.top_mul (f:=si a) (g:=si b) (m:=a.length - 1) (n:=b.length - 1) (λk hk=>KJ a k ⋯) (λk hk=>KJ b k ⋯)).1;rw [<-M5 e h,show a.length - 1+(b.length - 1)=a.length+b.length - 1 - 1 by omega] at t;have t:((co (aK a b) (a.length+b.length - 1 - 1):Int):Rat)=(co a (a.length - 1):Rat)*(co b (b.length - 1):Rat):=t;rw [z] at t;rcases B6.mp t.symm with y | y
 ·exact Am c.2 y
 ·exact Am d.2 y
def KZ {x:Rat} (h:x≠0):x⁻¹≠0:=λz=>by
 have:=Ef _ h;rw [z] at this;ext
theorem Tt:∀ {b:dD} {z:Int},z∈b->z.natAbs<=L1 b
 | x::b,z,h=>by
   show z.natAbs<=x.natAbs+L1 b;rcases By.mp h with e | e
   ·rw [e];omega
   ·have:=Tt e;omega
structure Fc (m:dg) (b:dD):Prop where
 low:A7 m
 len:m.length=b.length
 lz:Lz b
 two:2<=b.length
 ex:∃ M:Int,0<M/\M.natAbs<=3 ^ (b.length - 1)/\sr m=Sr.num ((M:Rat)⁻¹)*si b
 l1:L1 b<=15 ^ (b.length - 1)
 b4:b.length<=4
def Tu {T:dg} {b c:Nat} (a:A7 T) (d:Nz T) {M:Int} (e:0<M) (bM:Bd c M) {N:dO} (h:∀ k,E_ T k=(N k:Rat) / (M:Rat)) (f:∀ k,Bd b (N k)):∃ M,Ov T M/\Bd c M/\∀ z∈J_ T M,Bd b z:=(S8 a d e bM h f).ov
def Tv {L:dg} {R:dD} (hl:A7 L) (len:L.length=R.length) (b:Lz R) {κ:Rat} (c:κ≠0) (e:sr L=Sr.num κ*si R):Nz L:=λq d=>by
 have g:=b.1
 have a:E_ L (L.length - 1)=κ*(co R (R.length - 1):Rat):=by
  have:=rJ (congrArg Sr.c e) (L.length - 1);rw [Sr.num_mul] at this;rw [show R.length - 1=L.length - 1 by omega];exact this
 have f:AW L (L.length - 1)=q:=by
  unfold AW;rw [AO,<-Fp,d];rfl
 intro z;unfold E_ at a;rw [f] at a;have:val q=0:=by unfold val;rw [z];exact R_ _
 rw [this] at a;rcases B6.mp a.symm with y | y
 ·exact c y
 ·exact Am b.2 y
def Tw {n:Nat} (h:n<=8):3 ^ n<2 ^ 13:=B5 (CK ∅ h) ∅
def Rr.k0 {c M:Int} (d:0<c) (e:0<M):(c:Rat) / (M:Rat)≠0:=λz=>by
 have a:=Am (AU d);have b:=Am (AU e);rw [Rat.div_def] at z;exact (B6.mp z).elim a (KZ b)
def Rr.nz {L:dg} {R:dD} (h:Rr L R):Nz L:=by
 obtain ⟨c,M,a,_,b,_,e⟩:=h.ex;exact Tv h.low h.len h.lz (Rr.k0 a b) e
def Rr.ov {L:dg} {R:dD} (h:Rr L R) (a:R.length<=9):∃ M,Ov L M/\Bd 13 M/\∀ z∈J_ L M,Bd 39 z:=by
 obtain ⟨c,M,i,j,b,d,e⟩:=h.ex;refine Tu h.low h.nz b (aJ (B5 d (Tw ⋯))) (N:=λk=>c*co R k) (λk=>?_) λk=>?_
 ·have:=rJ (congrArg Sr.c e) k;rw [Sr.num_mul] at this;rw [Au];rw [show E_ L k=(c:Rat) / (M:Rat)*(co R k:Rat) from this];ext
 ·have f:Bd 3 c:=aJ (by show c.natAbs<8;omega);have:=Cc (λz g=>B5 (h.bd z g) (b15 a):∀ z∈R,Bd 36 z) k;exact (f.mul this).mono ∅
def Fc.ov {m:dg} {b:dD} (h:Fc m b):∃ M,Ov m M/\Bd 13 M/\∀ z∈J_ m M,Bd 39 z:=by
 obtain ⟨M,a,c,e⟩:=h.ex;have g:=h.b4;have d:((M:Rat)⁻¹)≠0:=KZ (Am (AU a));refine Tu h.low (Tv h.low h.len h.lz d e) a (aJ (B5 c (Tw ⋯))) (N:=λk=>co b k) (λk=>?_) λk=>?_
 ·have:=rJ (congrArg Sr.c e) k;rw [Sr.num_mul] at this;rw [show E_ m k=(M:Rat)⁻¹*(co b k:Rat) from this,Rat.div_def,Rat.mul_comm]
 ·refine aJ (B5 (show (co b k).natAbs<=15 ^ 3 from ?_) ∅);have f:L1 b<=15 ^ 3:=Bx h.l1 (CK ∅ ⋯);refine Bx ?_ f;by_cases hk:k<b.length
  ·have:co b k∈b:=by unfold co;rw [AO,Ag hk];exact DM hk
   exact Tt this
  ·rw [AZ ⋯];exact Aa _
def Rr.mul {L m d:dg} {R b:dD} (h:Rr L R) (f:Fc m b) (lo:A7 d) (o:d.length=L.length+m.length - 1) (e:sr d=sr L*sr m):Rr d (aK R b):=by
 have g:=h.lz.1;have i:=f.lz.1;obtain ⟨c,M,p,q,j,r,u⟩:=h.ex;obtain ⟨N,n,v,em⟩:=f.ex;refine ⟨lo,by rw [o,E4,h.len,f.len],vQ h.lz f.lz,⟨c,M*N,p,q,CN j n,?_,?_⟩,grow h.bd g (show b.length=b.length - 1+1 by omega) f.l1 (E4 R b) λk=>Ts g i k⟩
 ·rw [Az,E4,show R.length+b.length - 1 - 1=R.length - 1+(b.length - 1) by omega,Ck];exact Do r v
 ·rw [e,u,em,M5 g i]
  have:Sr.num ((c:Rat) / ((M*N:Int):Rat))=Sr.num ((c:Rat) / (M:Rat))*Sr.num ((N:Rat)⁻¹):=by
   rw [Sr.num_num,Au];congr 1;have a:=Am (AU j);have b:=Am (AU n);ext
  rw [this];ext
def Tx {b:dD} (c:Lz b) (a:2<=b.length) (d:L1 b<=15 ^ (b.length - 1)) (e:b.length<=4):Fc (b.map λz=>(z,1)) b:=by
 refine ⟨λq f=>?_,AJ ..,c,a,⟨1,∅,Nat.one_le_pow _ _ ∅,?_⟩,d,e⟩
 ·obtain ⟨z,_,rfl⟩:=BD.mp f;exact KW z
 ·refine Sr.ext' λk=>?_;rw [Sr.num_mul];show E_ (b.map λz=>((z,1):Nu)) k=((1:Int):Rat)⁻¹*(co b k:Rat);unfold E_ AW co;rw [AO,AO,Ae];cases b[k]? with
  | none=>show ((0:Int):Rat) / ((1:Int):Rat)=((1:Int):Rat)⁻¹*((0:Int):Rat);rw [show ((0:Int):Rat)=0 from rfl];ext
  | some z=>show (z:Rat) / ((1:Int):Rat)=((1:Int):Rat)⁻¹*(z:Rat);ext
def Ty {t s:Int} (l:Low t s) (c:s<=3) (d:t.natAbs<=6):Fc [H_ (t,s) (-1,1),(1,1)] [-t,s]:=by
 have p:=l.pos
 have e:H_ (t,s) (-1,1)=(-t,s):=by
  refine FK (JS p ∅) ⟨p,by show Int.gcd (-t) s=1;rw [Int.neg_gcd];exact l.2⟩ ?_;rw [Oc p ∅];unfold val;show (t:Rat) / (s:Rat)*(((-1:Int):Rat) / ((1:Int):Rat))=((-t:Int):Rat) / (s:Rat);rw [show ((-1:Int):Rat) = -1 from rfl,show ((1:Int):Rat)=1 from rfl,C2];ext
 rw [e];have a:=Am (AU p);refine ⟨λq b=>?_,rfl,⟨Nat.succ_pos _,by show s≠0;omega⟩,AS _,⟨s,p,by show s.natAbs<=3;omega,?_⟩,by show (-t).natAbs+(s.natAbs+0)<=15;omega,by show 2<=4;decide⟩
 ·rcases By.mp b with z | z
  ·rw [z];exact ⟨p,by show Int.gcd (-t) s=1;rw [Int.neg_gcd];exact l.2⟩
  ·rw [Aq.mp z];exact KW 1
 ·refine Sr.ext' λk=>?_;rw [Sr.num_mul]
  match k with
  | 0=>show ((-t:Int):Rat) / (s:Rat)=(s:Rat)⁻¹*((-t:Int):Rat);ext
  | 1=>show ((1:Int):Rat) / ((1:Int):Rat)=(s:Rat)⁻¹*(s:Rat);rw [Ef _ a,show ((1:Int):Rat)=1 from rfl];ext
  | k+2=>show ((0:Int):Rat) / ((1:Int):Rat)=(s:Rat)⁻¹*((0:Int):Rat);rw [show ((0:Int):Rat)=0 from rfl];ext
def Ii {R b:dD} {ps a c:List (dD)} (h:Fz R ps) (d:Lz R) (f:Lz b) (g:Fz b a) (e:∀ p,p∈c↔p∈ps++a):Fz (aK R b) c:=(Fz.mul h g (M5 d.1 f.1)).same e
theorem Pls.tp {H b:Hp} (t:Tp H b):∀ {vs:dz} {ps:List (dD)},Pls H vs ps->Pls b vs ps
 | [],[],_=>trivial
 | _::_,_::_,h=>⟨let ⟨a,e,c⟩:=h.1;⟨a,e,t _ _ c⟩,h.2.tp t⟩
 | [],_::_,h=>h.elim
 | _::_,[],h=>h.elim
theorem Pls.snoc {H:Hp} {a:Addr} {p:dD} (h:H a=some (.tup (p.map V.int))):∀ {vs:dz} {ps:List (dD)},Pls H vs ps->Pls H (vs++[.ref a]) (ps++[p])
 | [],[],_=>⟨⟨a,rfl,h⟩,trivial⟩
 | _::_,_::_,z=>⟨z.1,Pls.snoc h z.2⟩
 | [],_::_,z=>z.elim
 | _::_,[],z=>z.elim
theorem Pls.len {H:Hp}:∀ {vs:dz} {ps:List (dD)},Pls H vs ps->vs.length=ps.length
 | [],[],_=>rfl
 | _::_,_::_,z=>congrArg (·+1) (Pls.len z.2)
 | [],_::_,z=>z.elim
 | _::_,[],z=>z.elim
structure Btm (H H':Hp) (a b w:Addr) (us zs:dz) (as:List (dD)) (ss:dD) (L:dg) (R:dD):Prop where
 s:Same H H'
 an:H a=none
 bn:H b=none
 ab:a≠b
 ha:H' a=some (.lst us)
 pl:Pls H' us as
 hb:H' b=some (.lst (ss.map V.int))
 hw:H' w=some (.lst zs)
 wa:w≠a
 wb:w≠b
 nz:Nums H' zs L
 rr:Rr L R
def Btm.ext {H c d:Hp} {a b w:Addr} {e f:dz} {as:List (dD)} {g:dD} {L:dg} {R:dD} (I:Btm H c a b w e f as g L R) (s:Same c d):Btm H d a b w e f as g L R:=
 ⟨I.s.trans s,I.an,I.bn,I.ab,s _ _ I.ha,I.pl.tp (V_ s),s _ _ I.hb,s _ _ I.hw,I.wa,I.wb,I.nz.tp (V_ s),I.rr⟩
def Btm.row {H e d:Hp} {a b w f:Addr} {i m c:dz} {as:List (dD)} {j:dD} {L g:dg} {R k:dD} (I:Btm H e a b w i m as j L R) (s:Same e d) (n:e f=none) (h:d f=some (.lst c)) (o:Nums d c g) (r:Rr g k):Btm H d a b f i c as j g k:=
 ⟨I.s.trans s,I.an,I.bn,I.ab,s _ _ I.ha,I.pl.tp (V_ s),s _ _ I.hb,h,(BA I.ha n).symm,(BA I.hb n).symm,o,r⟩
def Btm.place {H d:Hp} {a b w t:Addr} {e g:dz} {as:List (dD)} {i:dD} {L:dg} {R p:dD} (I:Btm H d a b w e g as i L R) (h:d t=some (.tup (p.map V.int))):Btm H (upd d a (.lst (e++[.ref t]))) a b w (e++[.ref t]) g (as++[p]) i L R:=by
 have f:Tp d (upd d a (.lst (e++[.ref t]))):=Tp.updL I.ha;exact ⟨λc o j=>Kp.upd c o (BA j I.an) (I.s c o j),I.an,I.bn,I.ab,upd_same,(I.pl.tp f).snoc (f _ _ h),Kp.upd _ _ I.ab.symm I.hb,Kp.upd _ _ I.wa I.hw,I.wa,I.wb,I.nz.tp f,I.rr⟩
def Btm.square {H d:Hp} {a b w:Addr} {f g:dz} {as:List (dD)} {e:dD} {L:dg} {R:dD} (I:Btm H d a b w f g as e L R) (s:Int):Btm H (upd d b (.lst (e.map V.int++[.int s]))) a b w f g as (e++[s]) L R:=by
 have h:Tp d (upd d b (.lst (e.map V.int++[.int s]))):=Tp.updL I.hb;refine ⟨λc o i=>Kp.upd c o (BA i I.bn) (I.s c o i),I.an,I.bn,I.ab,Kp.upd _ _ I.ab I.ha,I.pl.tp h,?_,Kp.upd _ _ I.wb I.hw,I.wa,I.wb,I.nz.tp h,I.rr⟩;rw [DC];exact upd_same
def M6 {K:W.Frag} {H g:Hp} {Q:VK} {E:XK} {a b w f:Addr} {q u n:dz} {as:List (dD)} {v:dD} {L m:dg} {R c:dD} (I:Btm H g a b w q u as v L R) (A:g f=some (.lst n)) (B:Nums g n m) (h:Fc m c) (T:R.length+c.length - 1<=9)
  (k:∀ x d p i,Same g i->Btm H i a b x q d as v p (aK R c)->Q (.ref x) i):FP K [.ref w,.ref f] g Q E:=by
 have U:=I.rr.lz.1;have X:=h.lz.1;have Y:=I.rr.len;have Z:=h.len;have b4:=h.b4;obtain ⟨C,D,F,G⟩:=I.rr.ov ⋯;obtain ⟨J,M,N,O⟩:=h.ov
 exact ⟨w,f,u,n,L,m,rfl,I.hw,A,I.nz,B,I.rr.low,h.low,⟨C,D,F.mono ∅,λz j=>(G z j).mono ∅⟩,⟨J,M,N.mono ∅,λz j=>(O z j).mono ∅⟩,⋯,⋯,⋯,⋯,λr d p i y rn P j lo S pv=>k r d p i y (I.row y (by
  cases e:g r with
  | none=>rfl
  | some o=>exact absurd rn (by rw [e];simp)) P j (I.rr.mul h lo S (TC pv)))⟩
def vR (s:Int):Fz [-s,0,1] [[0,s,-1],[0,s,1]]↔Fz [-s,0,1] [[0,s,1],[0,s,-1]]:=⟨λh=>h.same λp=>by simp [or_comm],λh=>h.same λp=>by simp [or_comm]⟩
def vS {s:Int} (a:0<s):Fz [-s,0,1] [[0,s,-1],[0,s,1]]:=(vR s).mpr (by have:=wP (m:=0) a;rwa [show (0:Int)*0 + -s = -s by omega,show (-2:Int)*0=0 by decide] at this)
def vT {m:Int} (a:0<m):Fz [m,0,1] []:=by have:=wO (m:=0) a;rwa [show (0:Int)*0+m=m by omega,show (-2:Int)*0=0 by decide] at this
structure Pz (as:List (dD)) (ss:dD) (R:dD):Prop where
 a:∀ p∈as,∃ t s:Int,p=[t,s]/\Low t s/\s<=3/\t.natAbs<=6
 s:∀ s∈ss,s=2\/s=3\/s=5\/s=6\/s=7
 fz:Fz R (ak as ss [])
def Fn {as:List (dD)} {d cs:dD} {p:dD}:p∈ak as d cs↔p∈as\/(∃ s∈d,p=[0,s,-1]\/p=[0,s,1])\/∃ c∈cs,p=[c,0,0,0]:=by
 unfold ak;rw [Bq,Bq,Bq,BD,BD,BD];constructor
 ·rintro ((h | ⟨s,a,rfl⟩ | ⟨s,a,rfl⟩) | ⟨c,b,rfl⟩)
  ·exact .inl h
  ·exact .inr (.inl ⟨s,a,.inl rfl⟩)
  ·exact .inr (.inl ⟨s,a,.inr rfl⟩)
  ·exact .inr (.inr ⟨c,b,rfl⟩)
 ·rintro (h | ⟨s,a,rfl | rfl⟩ | ⟨c,b,rfl⟩)
  ·exact .inl (.inl h)
  ·exact .inl (.inr (.inl ⟨s,a,rfl⟩))
  ·exact .inl (.inr (.inr ⟨s,a,rfl⟩))
  ·exact .inr ⟨c,b,rfl⟩
def vU {d e:Int} (a:0<=d) (b:d<13) (c:0<=e) (f:e<3):Low (AT (d - 6) (1+e)).1 (AT (d - 6) (1+e)).2/\(AT (d - 6) (1+e)).2<=3/\(AT (d - 6) (1+e)).1.natAbs<=6:=by
 have p:(0:Int)<1+e:=by omega
 refine ⟨Db ⋯,?_,?_⟩
 ·have:=KU (W:=d - 6) p;have:=(Db (n:=d - 6) (show (1+e:Int)≠0 by omega)).pos;omega
 ·have:=KT (W:=d - 6) p;omega
def vV {K:W.Frag} {H F:Hp} {D:Ends} {a b w t:Addr} {J r:dz} {as:List (dD)} {L:dg} {R:dD} {c o:Int} {i n:Nat} {x M N:dC} {q:Nu} (I:Btm H F a b w J r (as++[[q.1,q.2]]) [] L R) (ht:F t=some (.tup [.int q.1,.int q.2])) (A:Low q.1 q.2) (O:q.2<=3) (G:q.1.natAbs<=6) (z:Pz as [] R) (l7:R.length<=n+1) (n4:n<=4) (m0:0<=o) (i9:i<=9) (mn:3<=o->n<=2) (n2:n<=2*i/\i<=2)
  (k:∀ w r L R x y P,Btm H y a b w J r (as++[[q.1,q.2]]) [] L R->Pz (as++[[q.1,q.2]]) [] R->R.length<=P+1->P<=n+2->(3<=o->P<=n+1)->D.nx [some (.int c),some (.ref a),some (.ref b),some (.ref w),some (.int o),some (.int (i:Int)),some (.ref t),x,M,N] y) :
  Ru K D [some (.int c),some (.ref a),some (.ref b),some (.ref w),some (.int o),some (.int (i:Int)),some (.ref t),x,M,N] F:=by
 refine (show BH _ _ _ _ _ _ from Af (G_ (Af (show I_ _ _ _ _ _ from Af (Ak rfl (G_ ⟨_,_,rfl,rfl,_,rfl,CZ (Ak rfl (Af (G_ (Ak rfl ⟨_,_,rfl,rfl,G_ ⟨_,_,_,rfl,⋯,⋯,∅,λd d0 d1=>?_⟩⟩))))⟩))))))
 obtain ⟨u,hu,u1,u2,u3⟩:∃ u:Nat,1+(if decide (o<3)=true then (1:Int) else 0)*d=(u:Int)/\1<=u/\u<=2/\(3<=o->u<=1):=by
  by_cases Z:o<3
  ·rw [rA Z,sZ rfl,Dn];exact ⟨(1+d).toNat,⋯,⋯,⋯,λh=>by omega⟩
  ·rw [rC Z,sY ∅,Int.zero_mul];exact ⟨1,rfl,AS _,∅,λ_=>AS _⟩
 refine ⟨_,_,rfl,rfl,FQ (by split <;> decide) (by split <;> decide),_,_,rfl,rfl,_,rfl,⋯,⋯,?_⟩;rw [hu,DB];refine ForR.by (λj S y=>j<=u/\∃ (w:Addr) (r:dz) (L:dg) (R:dD) (x:dC),S=[some (.int c),some (.ref a),some (.ref b),some (.ref w),some (.int o),some (.int (i:Int)),some (.ref t),x,M,N]/\Same F y/\Btm H y a b w J r (as++[[q.1,q.2]]) [] L R/\R.length<=n+j+1/\(j=0->Pz as [] R)/\(1<=j->Pz (as++[[q.1,q.2]]) [] R)) ⟨Aa _,w,r,L,R,x,rfl,Same.refl F,I,l7,λ_=>z,λh=>absurd h ∅⟩ ?_ ?_
 ·rintro j S y hj ⟨_,w,r,L,R,x,rfl,T,C,l2,z0,U⟩;refine EX ?_;refine G3 (B4 (Ak rfl (Yc (B4 (Ak rfl (C7 (show Q_ _ _ _ _ _ from ⟨_,rfl,G_ ⟨CP,λe he=>?_⟩⟩)))))));have se:=AQ he (.tup [.int (-1),.int 1]);have nq:Nb 1000 q:=⟨A,aJ (B5 G (B8 (show 6<2 ^ 8 by decide) (CK ∅ ∅))),aJ (B5 (show q.2.natAbs<=3 by have:=A.pos;omega) (B8 (show 3<2 ^ 8 by decide) (CK ∅ ∅)))⟩;have n1:Nb 1000 (((-1:Int),(1:Int)):Nu):=⟨KW _,aJ (B8 (show (-1:Int).natAbs<2 ^ 8 by decide) (CK ∅ ∅)),aJ (B8 (show (1:Int).natAbs<2 ^ 8 by decide) (CK ∅ ∅))⟩;refine ⟨t,e,q,(-1,1),rfl,⟨t,rfl,se _ _ (T _ _ ht)⟩,⟨e,rfl,upd_same⟩,nq.mono ∅,n1.mono ∅,λf hf=>C7 (G_ (G_ ⟨CP,λg hg=>⟨CP,λv hv=>?_⟩⟩))⟩;have sf:=AQ hf (.tup [.int (H_ q (-1,1)).1,.int (H_ q (-1,1)).2]);have sg:=AQ hg (.tup [.int 1,.int 1]);have X:=AQ hv (.lst [.ref f,.ref g]);have sA:=((se.trans sf).trans sg).trans X;have I3:=C.ext sA;have r1:=C.rr.lz.1;refine M6 (c:=[-q.1,q.2]) (m:=[H_ q (-1,1),(1,1)]) I3 upd_same ⟨⟨f,rfl,X _ _ (sg _ _ upd_same)⟩,⟨g,rfl,X _ _ upd_same⟩,trivial⟩ (Ty A O G) (by show R.length+2 - 1<=9;omega) λw' Y L' H3 s3 I4=>⟨hj,w',Y,L',_,_,rfl,T.trans (sA.trans s3),I4,by rw [E4];show R.length+2 - 1<=_;omega,λh=>absurd h (Nat.succ_ne_zero j),λ_=>?_⟩;have lb:Lz [-q.1,q.2]:=(Ty A O G).lz;by_cases j0:j=0
  ·have B:=z0 j0;refine ⟨λp hp=>(Bq.mp hp).elim (B.a p) λh=>⟨q.1,q.2,Aq.mp h,A,O,G⟩,B.s,Ii B.fz C.rr.lz lb (Td A.pos) λp=>?_⟩;rw [Fn,Bq,Bq,Fn,Aq];constructor
   ·rintro ((h | h) | h | h)
    ·exact .inl (.inl h)
    ·exact .inr h
    ·exact .inl (.inr (.inl h))
    ·exact .inl (.inr (.inr h))
   ·rintro ((h | h | h) | h)
    ·exact .inl (.inl h)
    ·exact .inr (.inl h)
    ·exact .inr (.inr h)
    ·exact .inl (.inr h)
  ·have B:=U ⋯;refine ⟨B.a,B.s,Ii B.fz C.rr.lz lb (Td A.pos) λp=>?_⟩;rw [Bq,Aq];exact ⟨.inl,λh=>h.elim id λe=>by rw [e,Fn];exact .inl (Cd _ (Aq.mpr rfl))⟩
 ·rintro S y ⟨_,w,r,L,R,x,rfl,T,C,l2,z0,U⟩;exact k w r L R x y (n+u) C (U u1) l2 ⋯ λh=>by have:=u3 h;omega
def T2 {σ:L2.St} {H:Hp} {Q:VK} {a b tc:TE} (h:a σ H λx d=>b σ d λy e=>tc σ e λz c=>[x,y,z].length<=sizeLine/\∀ p,c p=none->Q (.ref p) (upd c p (.lst [x,y,z]))):BT (AB a (AB b (AB tc AC))) σ H Q:=h
def vW {σ:L2.St} {H:Hp} {Q:VK} {a b tc c:TE} (h:a σ H λx e=>b σ e λy f=>tc σ f λz g=>c σ g λu d=>[x,y,z,u].length<=sizeLine/\∀ p,d p=none->Q (.ref p) (upd d p (.lst [x,y,z,u]))):BT (AB a (AB b (AB tc (AB c AC)))) σ H Q:=h
def M7 {x y z u:V}:[x,y,z,u].length<=sizeLine:=by show 4<=_;exact sz ∅
def T3 {K:W.Frag} {H i:Hp} {Q:VK} {E:XK} {a b w:Addr} {q A:dz} {as:List (dD)} {r:dD} {L:dg} {R:dD} {σ:L2.St} {te:TE} {y:Int} (I:Btm H i a b w q A as r L R) (U:y≠0) (B:y.natAbs<=10) (X:R.length<=7) (C:∀ (d:Hp) (P:VK),Same i d->P (.int y) d->te σ d P)
  (k:∀ j h o d,Same i d->Btm H d a b j q h as r o (aK R [y,0,1])->Q (.ref j) d) :
  BT (AB (A5 (AB te (AB (aC 1) AC))) (AB (A5 (AB (aC 0) (AB (aC 1) AC))) (AB (A5 (AB (aC 1) (AB (aC 1) AC))) AC))) σ i (λf D=>FP K [.ref w,f] D Q E):=by
 refine T2 (C7 (C i _ (Same.refl i) (G_ ⟨CP,λe F=>C7 (G_ (G_ ⟨CP,λf G=>C7 (G_ (G_ ⟨CP,λg J=>⟨Hw,λv hv=>?_⟩⟩))⟩))⟩)));have M:=AQ F (.tup [.int y,.int 1]);have u:=AQ G (.tup [.int 0,.int 1]);have p:=AQ J (.tup [.int 1,.int 1]);have n:=AQ hv (.lst [.ref e,.ref f,.ref g]);have x:=((M.trans u).trans p).trans n;have N:Lz [y,0,1]:=⟨Nat.succ_pos _,by show (1:Int)≠0;decide⟩;refine M6 (c:=[y,0,1]) (m:=[y,0,1].map λz=>(z,1)) (I.ext x) upd_same ⟨⟨e,rfl,n _ _ (p _ _ (u _ _ upd_same))⟩,⟨f,rfl,n _ _ (p _ _ upd_same)⟩,⟨g,rfl,n _ _ upd_same⟩,trivial⟩ (Tx N (by show 2<=3;decide) (by show y.natAbs+(0+(1+0))<=225;omega) (by show 3<=4;decide)) (by show R.length+3 - 1<=9;omega) λj h o O S T=>k j h o O (x.trans S) T
def vX {K:W.Frag} {H j:Hp} {Q:VK} {E:XK} {a b w:Addr} {u D:dz} {as:List (dD)} {x:dD} {L:dg} {R:dD} {σ:L2.St} {te:TE} {y:Int} (I:Btm H j a b w u D as x L R) (F:y.natAbs<=10) (Z:R.length<=6) (G:∀ (d:Hp) (P:VK),Same j d->P (.int y) d->te σ d P)
  (k:∀ o h q d,Same j d->Btm H d a b o u h as x q (aK R [y,0,0,1])->Q (.ref o) d) :
  BT (AB (A5 (AB te (AB (aC 1) AC))) (AB (A5 (AB (aC 0) (AB (aC 1) AC))) (AB (A5 (AB (aC 0) (AB (aC 1) AC))) (AB (A5 (AB (aC 1) (AB (aC 1) AC))) AC)))) σ j (λf J=>FP K [.ref w,f] J Q E):=by
 refine vW (C7 (G j _ (Same.refl j) (G_ ⟨CP,λe M=>C7 (G_ (G_ ⟨CP,λf N=>C7 (G_ (G_ ⟨CP,λA r=>C7 (G_ (G_ ⟨CP,λg O=>⟨M7,λv hv=>?_⟩⟩))⟩))⟩))⟩)));have S:=AQ M (.tup [.int y,.int 1]);have B:=AQ N (.tup [.int 0,.int 1]);have i:=AQ r (.tup [.int 0,.int 1]);have p:=AQ O (.tup [.int 1,.int 1]);have n:=AQ hv (.lst [.ref e,.ref f,.ref A,.ref g]);have C:=(((S.trans B).trans i).trans p).trans n;have T:Lz [y,0,0,1]:=⟨Nat.succ_pos _,by show (1:Int)≠0;decide⟩;refine M6 (c:=[y,0,0,1]) (m:=[y,0,0,1].map λz=>(z,1)) (I.ext C) upd_same ⟨⟨e,rfl,n _ _ (p _ _ (i _ _ (B _ _ upd_same)))⟩,⟨f,rfl,n _ _ (p _ _ (i _ _ upd_same))⟩,⟨A,rfl,n _ _ (p _ _ upd_same)⟩,⟨g,rfl,n _ _ upd_same⟩,trivial⟩ (Tx T (by show 2<=4;decide) (by show y.natAbs+(0+(0+(1+0)))<=3375;omega) (by show 4<=4;decide)) (by show R.length+4 - 1<=9;omega) λo h q U X Y=>k o h q U (C.trans X) Y
def vY {x y z u v:V}:[x,y,z,u,v].length<=sizeLine:=by show 5<=_;exact sz ∅
def Pz.sq {as:List (dD)} {d R:dD} {s:Int} (z:Pz as d R) (f:Lz R) (g:s=2\/s=3\/s=5\/s=6\/s=7):Pz as (d++[s]) (aK R [-s,0,1]):=by
 refine ⟨z.a,λx a=>(Bq.mp a).elim (z.s x) λh=>by rw [Aq.mp h];exact g,Ii z.fz f ⟨Nat.succ_pos _,by show (1:Int)≠0;decide⟩ (vS ⋯) λp=>?_⟩;rw [Fn,Bq,Fn];constructor
 ·rintro (h | ⟨x,a,h⟩ | ⟨c,b,_⟩)
  ·exact .inl (.inl h)
  ·rcases Bq.mp a with y | y
   ·exact .inl (.inr (.inl ⟨x,y,h⟩))
   ·rw [Aq.mp y] at h;exact .inr (by rcases h with e | e <;> rw [e] <;> simp)
  ·cases b
 ·rintro ((h | ⟨x,a,h⟩ | ⟨c,b,_⟩) | h)
  ·exact .inl h
  ·exact .inr (.inl ⟨x,Ec _ a,h⟩)
  ·cases b
  ·refine .inr (.inl ⟨s,Cd _ (Aq.mpr rfl),?_⟩);rcases By.mp h with e | e
   ·exact .inl e
   ·exact .inr (Aq.mp e)
def vZ {K:W.Frag} {H g:Hp} {D:Ends} {a b w:Addr} {v j:dz} {as:List (dD)} {f:dD} {L:dg} {R:dD} {c e:Int} {i:Nat} {x A m B:dC} (I:Btm H g a b w v j as f L R) (z:Pz as f R) (C:R.length<=7) (T:f.length<=5) (U:i<=9)
  (k:∀ w j L n s m o,Btm H o a b w v j as (f++[s]) L n->Pz as (f++[s]) n->n.length=R.length+2->D.nx [some (.int c),some (.ref a),some (.ref b),some (.ref w),some (.int e),some (.int (i:Int)),x,A,m,B] o) :
  Rz K D [some (.int c),some (.ref a),some (.ref b),some (.ref w),some (.int e),some (.int (i:Int)),x,A,m,B] g:=by
 refine BW (Af (show A5 _ _ _ _ from ⟨vY,λq F=>CZ (Ak rfl (Af (G_ (Ak rfl ⟨_,_,rfl,rfl,G_ ⟨_,_,_,rfl,⋯,⋯,∅,λd X Y=>?_⟩⟩))))⟩))
 obtain ⟨s,G,p⟩:∃ s:Int,(s=2\/s=3\/s=5\/s=6\/s=7)/\O' [V.int 2,V.int 3,V.int 5,V.int 6,V.int 7] d=some (.int s):=by
  have:d=0\/d=1\/d=2\/d=3\/d=4:=by omega
  rcases this with rfl | rfl | rfl | rfl | rfl
  ·exact ⟨2,⋯,rfl⟩
  ·exact ⟨3,⋯,rfl⟩
  ·exact ⟨5,⋯,rfl⟩
  ·exact ⟨6,⋯,rfl⟩
  ·exact ⟨7,⋯,rfl⟩
 refine ⟨q,d,_,.int s,rfl,rfl,upd_same,p,?_⟩;have r:=I.ext (AQ F (.tup [.int 2,.int 3,.int 5,.int 6,.int 7]));generalize upd g q (.tup [.int 2,.int 3,.int 5,.int 6,.int 7])=o at *;show Ry K _ _ _;refine Gh (M4 rfl r.hb (Ak rfl (Mz r.hb (by rw [AJ];omega) ?_)));have J:=r.square s;show Rx K _ _ _;refine G3 (B4 (Ak rfl (T3 (y:=-s) J ⋯ ⋯ C (λZ P _ h=>(show Q_ _ _ _ _ _ from Ak rfl ⟨_,rfl,h⟩)) λM u N O s4 S=>k M u N _ s _ O S (z.sq I.rr.lz G) (by rw [E4];show R.length+3 - 1=_;omega))))
theorem uA {d:Int} (c:0<=d) (e:d<5):Rr [(1+d,1)] [1]:=by
 refine ⟨λq a=>by rw [Aq.mp a];exact KW _,rfl,⟨∅,∅⟩,⟨1+d,1,⋯,⋯,∅,∅,?_⟩,λz b=>by rw [Aq.mp b];decide⟩;refine Sr.ext' λk=>?_;rw [Sr.num_mul]
 match k with
 | 0=>show ((1+d:Int):Rat) / ((1:Int):Rat)=((1+d:Int):Rat) / ((1:Int):Rat)*((1:Int):Rat);rw [show ((1:Int):Rat)=1 from rfl];ext
 | k+1=>show ((0:Int):Rat) / ((1:Int):Rat)=_*((0:Int):Rat);rw [show ((0:Int):Rat)=0 from rfl];ext
def uB:Fz [1] (ak [] [] []):=wN
def T4 {K:W.Frag} {H f:Hp} {Q:VK} {a b w d:Addr} {u j:dz} {as:List (dD)} {i cs:dD} {L:dg} {R:dD} {c g:Int} {A B C D:dC} (I:Btm H f a b w u j as i L R) (x:f d=some (.lst (cs.map V.int))) (O:PkL as i cs) (z:Fz R (ak as i cs)) (F:R.length<=9) (M:i.length<2->R.length<=7)
  (k:∀ (r w a b d:Addr) (j u:dz) (L:dg) (R:dD) (as:List (dD)) (i cs:dD) (f:Hp),Same H f->f r=some (.tup [.ref w,.ref a,.ref b,.ref d])->f w=some (.lst j)->Nums f j L->Rr L R->R.length<=9->f a=some (.lst u)->Pls f u as->f b=some (.lst (i.map V.int))->f d=some (.lst (cs.map V.int))->PkL as i cs->Fz R (ak as i cs)->Q (.ref r) f) :
  MB K { nx:=λ_ f=>Q .non f,rt:=Q } [some (.int c),some (.ref a),some (.ref b),some (.ref w),some (.int g),A,B,C,D,some (.ref d)] f:=by
 have q:∀ (w:Addr) (j:dz) (L:dg) (R:dD) (o:Hp),Btm H o a b w u j as i L R->o d=some (.lst (cs.map V.int))->Fz R (ak as i cs)->R.length<=9->MA K { nx:=λ_ f=>Q .non f,rt:=Q } [some (.int c),some (.ref a),some (.ref b),some (.ref w),some (.int g),A,B,C,D,some (.ref d)] o:=λw j L R o I x z F=>by
  refine Dg (show A5 _ _ _ _ from ⟨_,rfl,_,rfl,_,rfl,_,rfl,M7,λr N=>?_⟩);have n:=I.ext (AQ N (.tup [.ref w,.ref a,.ref b,.ref d]));exact k r w a b d j u L R as i cs _ n.s upd_same n.hw n.nz n.rr F n.ha n.pl n.hb (AQ N _ _ _ x) O z
 refine Dy (show Cv _ _ _ _ _ from EY (Af (Hu (Ak rfl (Hv I.hb (G_ ⟨_,_,rfl,rfl,_,rfl,AV (λG=>?_) (λ_=>AV (λy=>by cases y) (λ_=>HN (q w j L R f I x z F)))⟩))))));rw [AJ] at G;have G:(i.length:Int)<2:=rB G;refine EY (Af (CZ (Ak rfl (G_ (G_ ⟨_,_,_,rfl,∅,∅,∅,λe U X=>G_ ⟨rfl,_,rfl,AV (λ_=>?_) (λ_=>HN (q w j L R f I x z F))⟩⟩)))));refine G3 (B4 (Ak rfl (T2 (C7 (Af (G_ (CZ (Ak rfl (G_ (G_ ⟨_,_,_,rfl,∅,∅,∅,λm Y Z=>⟨_,_,rfl,rfl,?_⟩⟩))))))))));have:=T3 (K:=K) (E:=E0) (σ:=[some (.int c),some (.ref a),some (.ref b),some (.ref w),some (.int g),A,B,C,D,some (.ref d)]) (te:=tC (.int (1+m))) (y:=1+m) (Q:=λv o=>MA K { nx:=λ_ f=>Q .non f,rt:=Q } [some (.int c),some (.ref a),some (.ref b),some v,some (.int g),A,B,C,D,some (.ref d)] o) I ⋯ ⋯ (M ⋯) (λ_ _ _ h=>h) λP J S o T n=>q P J S _ o n (T _ _ x) (Ii z I.rr.lz ⟨Nat.succ_pos _,by show (1:Int)≠0;decide⟩ (vT ⋯) λp=>by rw [List.append_nil]) (by rw [E4];have:=M ⋯;show R.length+3 - 1<=9;omega);exact this
def uC (h:L3 K vs H Q E):Zf K { nx:=λ_ M=>Q .non M,rt:=Q } (L2.start ["_law_cell","_law_places","_law_squares","_law_row","_law_many","_law_j","_law_a","_law_turn","_law_s","_law_cubes"] vs) H:=by
 obtain ⟨c,rfl,k⟩:=h;refine BW (show BT AC _ _ _ from ⟨Aa _,λa ha=>?_⟩);show SC K _ _ _;refine BW (show BT AC _ _ _ from ⟨Aa _,λb hb=>?_⟩);have sa:=AQ ha (.lst []);have sb:=AQ hb (.lst []);have bn:H b=none:=sa.free hb;have ab:a≠b:=BA upd_same hb;have Y:upd (upd H a (.lst [])) b (.lst []) a=some (HO.lst []):=sb _ _ upd_same;have Z:upd (upd H a (.lst [])) b (.lst []) b=some (HO.lst []):=upd_same;have ac:=sa.trans sb;generalize upd (upd H a (.lst [])) b (.lst [])=H2 at *;show R9 K _ _ _;refine BW (Gz (C7 (Af (G_ (CZ (Ak rfl (G_ (G_ ⟨_,_,_,rfl,∅,∅,∅,λd d0 d5=>⟨_,_,rfl,rfl,G_ ⟨CP,λt ht=>⟨Df,λw hw=>?_⟩⟩⟩⟩))))))));have st:=AQ ht (.tup [.int (1+d),.int 1]);have sw:=AQ hw (.lst [.ref t]);have s4:=st.trans sw;have I0:Btm H (upd (upd H2 t (.tup [.int (1+d),.int 1])) w (.lst [.ref t])) a b w [] [.ref t] [] [] [(1+d,1)] [1]:=⟨ac.trans s4,ha,bn,ab,s4 _ _ Y,trivial,s4 _ _ Z,upd_same,(BA (st _ _ Y) hw).symm,(BA (st _ _ Z) hw).symm,⟨⟨t,rfl,sw _ _ upd_same⟩,trivial⟩,uA d0 d5⟩;generalize upd (upd H2 t (.tup [.int (1+d),.int 1])) w (.lst [.ref t])=H4 at *;show R8 K _ _ _;refine BW (CZ (Ak rfl (G_ (G_ ⟨_,_,_,rfl,∅,∅,∅,λF m0 m4=>?_⟩))));show R7 K _ _ _;obtain ⟨C,rfl⟩:∃ C:Nat,F=(C:Int):=⟨F.toNat,⋯⟩;refine Gh (show BH _ _ _ _ _ _ from Ak rfl ⟨_,rfl,⋯,⋯,?_⟩);rw [DB];refine ForR.by (λi N M=>i<=C/\∃ (w:Addr) (us v:dz) (as:List (dD)) (L:dg) (R:dD) (n:Nat) (D U O:dC),N=[some (.int c),some (.ref a),some (.ref b),some (.ref w),some (.int (C:Int)),D,U,O,none,none]/\Btm H M a b w us v as [] L R/\Pz as [] R/\as.length=i/\R.length<=n+1/\n<=2*i/\(3<=C->n<=i)) ⟨Aa _,w,[],[.ref t],[],_,[1],0,none,none,none,rfl,I0,⟨(λ_ h=>nomatch h),(λ_ h=>nomatch h),uB⟩,rfl,AS _,AS _,λ_=>AS _⟩ ?_ ?_
 ·rintro i N H5 hi ⟨_,w,us,v,as,L,R,n,D,U,O,rfl,I,z,la,l1,n1,n3⟩;refine EX ?_;rw [show (0:Int)+(i:Int)=(i:Int) by omega];show Rw K _ _ _;refine BW (B4 (Af (CZ (Ak rfl (Af (G_ (Ak rfl ⟨_,_,rfl,rfl,G_ ⟨_,_,_,rfl,⋯,⋯,∅,λe e0 e1=>G_ ⟨_,_,rfl,rfl,Af (G_ (CZ (Ak rfl (Af (G_ (Ak rfl ⟨_,_,rfl,rfl,G_ ⟨_,_,_,rfl,⋯,⋯,∅,λf f0 f1=>⟨_,_,rfl,rfl,_,_,rfl,⋯,λq hq=>?_⟩⟩⟩))))))⟩⟩⟩)))))));obtain ⟨lq,q3,q6⟩:=vU e0 e1 f0 f1;have r:=I.ext (AQ hq (.tup [.int (AT (e - 6) (1+f)).1,.int (AT (e - 6) (1+f)).2]));have a0:upd H5 q (.tup [.int (AT (e - 6) (1+f)).1,.int (AT (e - 6) (1+f)).2]) q=_:=upd_same;generalize upd H5 q (.tup [.int (AT (e - 6) (1+f)).1,.int (AT (e - 6) (1+f)).2])=H6 at *;generalize AT (e - 6) (1+f)=qq at *;show Rv K _ _ _;have lu:=r.pl.len;refine Gh (M4 rfl r.ha (Ak rfl (Mz r.ha ⋯ ?_)));have S:=r.place (p:=[qq.1,qq.2]) a0;refine vV S (Tp.updL r.ha _ _ a0) lq q3 q6 z l1 ⋯ ⋯ ⋯ (λh=>by have:=n3 ⋯;omega) ⟨n1,⋯⟩ λw v L R O H7 n' I4 z4 l4 h1 h2=>⟨hi,w,_,v,_,L,R,n',_,_,_,rfl,I4,z4,by rw [Cr,la];rfl,l4,⋯,λh=>by have:=n3 h;have:=h2 ⋯;omega⟩
 rintro N H5 ⟨_,w,us,v,as,L,R,n,D,U,O,rfl,I,z,la,l1,n1,n3⟩;show R6 K _ _ _;refine Gh (show BH _ _ _ _ _ _ from CZ (Ak rfl (G_ (G_ ⟨_,_,_,rfl,∅,∅,∅,λsq s0 s3=>⟨_,rfl,⋯,⋯,?_⟩⟩))));obtain ⟨sn,rfl⟩:∃ sn:Nat,sq=(sn:Int):=⟨sq.toNat,⋯⟩;rw [DB];have l5:R.length<=5:=by omega
 refine ForR.by (λi N M=>i<=sn/\∃ (w:Addr) (v:dz) (A:dD) (L:dg) (G:dD) (D T:dC),N=[some (.int c),some (.ref a),some (.ref b),some (.ref w),some (.int (C:Int)),D,U,O,T,none]/\Btm H M a b w us v as A L G/\Pz as A G/\A.length=i/\G.length=R.length+2*i) ⟨Aa _,w,v,[],L,R,D,none,rfl,I,z,rfl,rfl⟩ ?_ ?_
 ·rintro i N H6 hi ⟨_,w,v,A,L,G,D,T,rfl,r,J,ls,lr⟩;refine EX ?_;rw [show (0:Int)+(i:Int)=(i:Int) by omega];exact vZ r J ⋯ ⋯ ⋯ λw v L aj s T H7 S z3 l3=>⟨hi,w,v,_,L,aj,_,T,rfl,S,z3,by rw [Cr,ls];rfl,⋯⟩
 rintro N H6 ⟨_,w,v,A,L,G,D,T,rfl,r,J,ls,lr⟩;show R5 K _ _ _;refine BW (show BT AC _ _ _ from ⟨Aa _,λm hd=>?_⟩);have S:=r.ext (AQ hd (.lst []));have a1:upd H6 m (.lst []) m=some (HO.lst []):=upd_same;have dw:m≠w:=(BA r.hw hd).symm;have da:m≠a:=(BA r.ha hd).symm;have db:m≠b:=(BA r.hb hd).symm;have dn:H m=none:=r.s.free hd;generalize upd H6 m (.lst [])=H7 at *;have plain:∀ a2 H8,Same H7 H8->MB K { nx:=λ_ M=>Q .non M,rt:=Q } [some (.int c),some (.ref a),some (.ref b),some (.ref w),some (.int (C:Int)),a2,U,O,T,some (.ref m)] H8:=λa2 H8 s8=>T4 (cs:=[]) (S.ext s8) (s8 _ _ a1) ⟨J.a,J.s,.inl rfl,⋯,⋯⟩ J.fz ⋯ (λh=>by omega) k;show R4 K _ _ _;refine Dy (show Cv _ _ _ _ _ from EY (Af (Ak rfl (G_ ⟨_,_,rfl,rfl,_,rfl,AV (λc1=>?_) (λ_=>AV (λy=>by cases y) (λ_=>HN (plain _ _ (Same.refl H7))))⟩))));have c1:(C:Int)<2:=rB c1;refine (show Cv _ _ _ _ _ from EY (Af (Ak rfl (show BT AC _ _ _ from ⟨Aa _,λe he=>?_⟩))));have se:=AQ he (.lst []);refine ⟨.list (A.map λs=>.int s),.list [],decide (A=[]),.lst (se _ _ S.hb) (Mx A),.lst upd_same .nil,okI A,∅,?_,_,rfl,AV (λc2=>?_) (λ_=>AV (λy=>by cases y) (λ_=>HN (plain _ _ se)))⟩
 ·rw [decide_eq_true_iff];refine ⟨λy=>by rw [y];rfl,λy=>?_⟩;injection y with y;exact List.map_eq_nil_iff.mp y
 have c2:A=[]:=rB c2;have an:A.length=0:=by rw [c2];rfl
 refine EY (Af (CZ (Ak rfl (G_ (G_ ⟨_,_,_,rfl,∅,∅,∅,λe1 _ _=>G_ ⟨rfl,_,rfl,AV (λ_=>?_) (λ_=>HN (plain _ _ se))⟩⟩)))));have I4:=S.ext se;have a3:=se _ _ a1;generalize upd H7 e (.lst [])=H8 at *;show R3 K _ _ _;refine Gh (M4 rfl a3 (Af (Af (show A5 _ _ _ _ from ⟨M7,λq hq=>CZ (Ak rfl (G_ (G_ ⟨_,_,_,rfl,∅,∅,∅,λg g0 g1=>?_⟩)))⟩))))
 obtain ⟨s,hs,al⟩:∃ s:Int,(s=2\/s=3\/s=5\/s=7)/\O' [V.int 2,V.int 3,V.int 5,V.int 7] g=some (.int s):=by
  have:g=0\/g=1\/g=2\/g=3:=by omega
  rcases this with rfl | rfl | rfl | rfl
  ·exact ⟨2,⋯,rfl⟩
  ·exact ⟨3,⋯,rfl⟩
  ·exact ⟨5,⋯,rfl⟩
  ·exact ⟨7,⋯,rfl⟩
 refine ⟨q,g,_,.int s,rfl,rfl,upd_same,al,Af (G_ (Af (G_ (CZ (Ak rfl (G_ (G_ ⟨_,_,_,rfl,∅,∅,∅,λu u0 u1=>⟨_,_,rfl,rfl,FQ ∅ ∅,_,_,rfl,rfl,_,_,rfl,rfl,FQ ⋯ ⋯,?_⟩⟩)))))))⟩;have sq:=AQ hq (.tup [.int 2,.int 3,.int 5,.int 7]);have B:=I4.ext sq;have a4:=sq _ _ a3;generalize upd H8 q (.tup [.int 2,.int 3,.int 5,.int 7])=W at *;obtain ⟨y,hy⟩:∃ y:Int,y=s*(1 - 2*u):=⟨_,rfl⟩
 have ic:b5 y:=by
  have:u=0\/u=1:=by omega
  rw [hy];unfold b5;rcases this with rfl | rfl <;> omega
 refine Mz a4 ∅ ?_;show L9 K _ [some (.int c),some (.ref a),some (.ref b),some (.ref w),some (.int (C:Int)),D,U,O,T,some (.ref m)] (upd W m (.lst ([]++[V.int (s*(1 - 2*u))])));rw [<-hy]
 have I6:Btm H (upd W m (.lst ([]++[V.int y]))) a b w us v as A L G:=by
  have tp:Tp W (upd W m (.lst ([]++[V.int y]))):=Tp.updL a4;exact ⟨λx o X=>Kp.upd x o (BA X dn) (B.s x o X),B.an,B.bn,B.ab,Kp.upd _ _ da.symm B.ha,B.pl.tp tp,Kp.upd _ _ db.symm B.hb,Kp.upd _ _ dw.symm B.hw,B.wa,B.wb,B.nz.tp tp,B.rr⟩
 have a5:upd W m (.lst ([]++[V.int y])) m=some (.lst ([y].map V.int)):=upd_same;generalize upd W m (.lst ([]++[V.int y]))=ao at *;show L9 K _ _ _;have ap:y.natAbs<=10:=by unfold b5 at ic;omega
 refine G3 (B4 (Ak rfl (vX (y:=-y) I6 ⋯ ⋯ (λH3 P s3 h=>(show Q_ _ _ _ _ _ from YY rfl (s3 _ _ a5) (DI (j:=0) rfl rfl) ⟨_,rfl,h⟩)) λw' ar L' aw am I7=>?_)));refine T4 (cs:=[y]) I7 (am _ _ a5) ⟨J.a,J.s,.inr ⟨c2,y,rfl,ic⟩,⋯,⋯⟩ (Ii J.fz r.rr.lz ⟨Nat.succ_pos _,by show (1:Int)≠0;decide⟩ (wU y) λp=>?_) (by rw [E4];show G.length+4 - 1<=9;omega) (λh=>by rw [E4];show G.length+4 - 1<=7;omega) k;rw [Fn,Bq,Fn,Aq];constructor
 ·rintro (h | h | ⟨x,X,h⟩)
  ·exact .inl (.inl h)
  ·exact .inl (.inr (.inl h))
  ·rw [Aq.mp X] at h;exact .inr h
 ·rintro ((h | h | ⟨x,X,h⟩) | h)
  ·exact .inl h
  ·exact .inr (.inl h)
  ·cases X
  ·exact .inr (.inr ⟨y,Aq.mpr rfl,h⟩)
def uD {l:dg} {R:dD} {κ:Rat} {z:Nu} {x:Rat} (G:Gq 40 40 l) (g:κ≠0) (d:si (Aj l)=Sr.num κ*si R) (b:Low z.1 z.2) (a:val z=cE l x):z=(0,1)↔A_ R x=0:=by
 have c:A_ (Aj l) x=κ*A_ R x:=Mn d _;have e:((Ao l:Int):Rat)≠0:=Am (AU (Dc G.low).1);have a:val z=A_ (Aj l) x / ((Ao l:Int):Rat):=a.trans (TV G.low _);constructor
 ·intro h;have f:val z=0:=by rw [h];show ((0:Int):Rat) / _=0;rw [show ((0:Int):Rat)=0 from rfl,R_]
  rw [f,c] at a;have:κ*A_ R x / ((Ao l:Int):Rat)*((Ao l:Int):Rat)=κ*A_ R x:=DF e;rw [<-a] at this;have:κ*A_ R x=0:=by rw [<-this];ext
  exact (B6.mp this).resolve_left g
 ·intro h;rw [c,h] at a
  have f:val z=val (0,1):=by
   rw [a];show κ*0 / _=((0:Int):Rat) / _;rw [show κ*0=(0:Rat) by ext,show ((0:Int):Rat)=0 from rfl,R_,R_]
  exact FK b Ho f
def Of.kp {H a:Hp} {p:Addr} {R:dD} (h:Of H p R) (s:Same H a):Of a p R:=by
 obtain ⟨b,l,c,hp,d,r⟩:=h.ex;exact ⟨b,l,c,s _ _ hp,d.tp (V_ s),r⟩
def uE (h:L6 K vs H Q E):Rk K (eC Q) (L2.start ["f","low","high","many"] vs) H:=by
 obtain ⟨f,u,v,a,b,R,lo,p,rfl,M,hv,⟨_,U,A⟩,⟨_,X,N⟩,d,i,k⟩:=h;cases U;cases X;obtain ⟨Y,l,κ,hp,Z,G,l1,l9,k0,B⟩:=hv.ex;show Rk K _ [some (.ref f),some (.ref a),some (.ref b),none] H
 have j:∀ (n:Nat) (q:Hp),Same H q->n=(if A_ R (val lo)=0 then 1 else 0)->AX (aA (tB (bT (GP K) (AB (AA 1) (AB (AA 2) AC)))) (B_ BQ (AA 3) (bT (J7 K) (AB (B_ gT (AA 0) (aC 1)) (AB (AA 1) (AB (AA 2) AC))))) (AA 3)) { nx:=λ_ w=>Q V.non w,rt:=Q } [some (.ref f),some (.ref a),some (.ref b),some (.int (n:Int))] q:=λn q e en=>by
  refine Dg ?_;refine B4 ⟨_,rfl,_,rfl,a,b,lo.1,lo.2,p.1,p.2,rfl,e _ _ A,e _ _ N,d.2.1.mono ∅,d.2.2.mono ∅,i.2.1.mono ∅,i.2.2.mono ∅,_,rfl,AV (λc=>?_) (λc=>?_)⟩
  ·have c:=(FT d.1.pos i.1.pos).mpr (rB c);refine Af ⟨_,rfl,CZ ⟨_,rfl,_,_,_,_,rfl,rfl,e _ _ M,rfl,_,rfl,_,rfl,v,R,some lo,some p,.ref a,.ref b,rfl,hv.kp e,⟨a,rfl,e _ _ A,d⟩,⟨b,rfl,e _ _ N,i⟩,(λx y m g=>by cases m;cases g;exact c),λO H2 s2 C cn=>?_⟩⟩;have:=k (n+O) H2 (e.trans s2) (λ_=>⟨C,O,by rw [en],cn⟩) (λz=>absurd c z);refine Yd ?_;rw [Int.natCast_add] at this;exact this
  ·have c:¬ val lo<val p:=λz=>c (rA ((FT d.1.pos i.1.pos).mp z));exact ⟨_,rfl,k n q e (λz=>absurd z c) λ_=>en⟩
 refine BW (EY (Af (B4 (Af ⟨_,rfl,_,_,_,_,rfl,rfl,M,rfl,_,rfl,v,a,Y,l,lo.1,lo.2,40,rfl,hp,A,Z,G,∅,d.1,d.2.1.mono ∅,d.2.2.mono ∅,⋯,λr8 P z S hz o _ _ ez=>?_⟩))));refine ⟨CP,λr D=>?_⟩;have F:=AQ D (.tup [.int 0,.int 1]);obtain ⟨pz,I,J⟩:=hz;have T:z=(0,1)↔A_ R (val lo)=0:=uD G k0 B o ez;have rz:RepD (upd P r (.tup [.int 0,.int 1])) (.ref r8) (GF z):=Jc ⟨pz,I,F _ _ J⟩;have L:RepD (upd P r (.tup [.int 0,.int 1])) (.ref r) (GF (0,1)):=Jc ⟨r,rfl,upd_same⟩;refine ⟨_,_,decide (z=(0,1)),rz,L,cX _ _,cX _ _,?_,_,rfl,AV (λc=>?_) (λc=>?_)⟩
 ·constructor
  ·intro h;rw [rB h]
  ·intro h;refine rA ?_;have h:W.Dat.tuple [.int z.1,.int z.2]=.tuple [.int 0,.int 1]:=h;injection h with h;injection h with m g;injection m with m;injection g with g;injection g with g;exact Prod.ext m g
 ·exact j 1 _ (S.trans F) (sZ (T.mp (rB c))).symm
 ·exact j 0 _ (S.trans F) (sY λz=>c (rA (T.mpr z))).symm
theorem T5:sr [(1,1)]=1:=Sr.ext' λk=>by
 show E_ [(1,1)] k=1*Ad k;cases k with
 | zero=>show ((1:Int):Rat) / ((1:Int):Rat)=1*1;decide +kernel
 | succ k=>show ((0:Int):Rat) / ((1:Int):Rat)=1*0;decide +kernel
def uF:Gq 39 13 [(1,1)]:=⟨λq a=>by rw [Aq.mp a];exact ⟨∅,∅⟩,λq a=>by cases a;decide,1,⟨∅,λq a=>by rw [Aq.mp a];exact ⟨1,rfl⟩⟩,by unfold Bd;decide,λz b=>by rw [Aq.mp b];unfold Bd;decide⟩
def gq_top:Gq 39 13 [(3,2)]:=⟨λq a=>by rw [Aq.mp a];exact ⟨∅,∅⟩,λq a=>by cases a;decide,2,⟨∅,λq a=>by rw [Aq.mp a];exact ⟨1,rfl⟩⟩,by unfold Bd;decide,λz b=>by rw [Aq.mp b];unfold Bd;decide⟩
def uG:Aj [(3,2)]=[3]:=by decide +kernel
theorem uH {g:dD} {o:dO} (h:RC (co (Aj [(3,2)])) o g):ai g=[(1,1)]:=by
 rw [uG] at h;have d:Lz [(3:Int)]:=⟨Nat.succ_pos _,by show (3:Int)≠0;decide⟩;have e:∀ {g:dD},Lz g->∀ k,E_ (ai g) k=(co g (g.length - 1):Rat)⁻¹*(co g k:Rat):=λf k=>by rw [Sn f,Rat.div_def,Rat.mul_comm]
 have m:=MR.len h.lz d (MR.of (KZ (Am h.lz.2)) (e d) (e h.lz) h.left);have i:g.length=1:=by have:=h.lz.1;have:g.length<=1:=m;omega
 have a:=MW h.lz;have b:=KH g;rw [i] at a b
 match c:ai g with
 | []=>rw [c] at b;cases b
 | [x]=>rw [c] at a;have a:x=(1,1):=a;rw [a]
 | _::_::_=>rw [c] at b;cases b
def uI (l:dg):MR (E_ [(1,1)]) (E_ l):=⟨rw' l,λk=>by
 have:(⟨cvL (rw' l) (E_ [(1,1)])⟩:Sr)=sr l*1:=by rw [S9];exact congrArg _ T5
 rw [show sr l*1=sr l by grind] at this;exact (rJ (congrArg Sr.c this) k).symm⟩
def uJ {l R:dg} (a:A7 l) (b:Nz l) (c:A7 R) (d:Nz R) (h:∀ k,E_ l k=cv (E_ R) (E_ [(1,1)]) R.length k):R=l:=by
 have e:=TC h;rw [T5,show sr R*1=sr R by grind] at e;exact (xF a c b d e).symm
def T6 {K:W.Frag} {H:Hp} {Q:VK} {E:XK} {p q:Addr} {xs ys:dz} {l:dg} (hp:H p=some (.tup xs)) (c:Nums H xs l) (d:H q=some (.tup ys)) (f:Nums H ys [(1,1)]) (G:Gq 39 13 l) (h:l.length<=9) (k:∀ (r:Addr) (a:Hp),Same H a->Pl a r l->Q (.ref r) a):HC K [.ref p,.ref q] H Q E:=by
 refine ⟨p,q,xs,ys,l,[(1,1)],39,13,39,13,rfl,hp,d,c,f,G,uF,(λz=>nomatch z),⋯,∅,?_,?_,∅,∅,uI l,λr R a s b lo g _ e=>?_⟩
 ·show 13+(l.length+1 - 1)*39<=400000;omega
 ·show 39+(l.length+1 - 1)*(39+1)+13<=900000;omega
 ·rw [uJ G.low G.nz lo g e] at b;exact k r a s b
theorem uK {m:dg} {a:Nu} (lo:A7 m) (b:0<a.2):A7 (m.map λq=>H_ q (a.1,a.2))/\sr (K' (m.map λq=>H_ q (a.1,a.2)))=Sr.num (val a)*sr m:=by
 have c:A7 (m.map λq=>H_ q (a.1,a.2)):=λq d=>by
  obtain ⟨x,e,rfl⟩:=BD.mp d;exact JS (lo x e).pos b
 refine ⟨c,Sr.ext' λk=>?_⟩;rw [Sr.num_mul];show E_ (K' _) k=val a*E_ m k;rw [LE c];show val (AW _ k)=val a*val (AW m k);unfold AW;rw [AO,AO,Ae];cases h:m[k]? with
 | none=>
   show ((0:Int):Rat) / ((1:Int):Rat)=val a*(((0:Int):Rat) / ((1:Int):Rat));rw [show ((0:Int):Rat) / ((1:Int):Rat)=0 by decide +kernel,Rat.mul_zero]
 | some x=>
   show val (H_ x a)=val a*val x;rw [Oc (lo x (Bu h)).pos b,Rat.mul_comm]
def uL {m:dg} {R:dD} {d:Nu} (h:Rr m R) (w:R.length<=9) (y:Low d.1 d.2) (i:val d*val (AW m (m.length - 1))=1) {H:Hp} {v:Addr} (hv:Pl H v (K' (m.map λq=>H_ q (d.1,d.2)))):Of H v R:=by
 obtain ⟨A,B,C⟩:=hv;obtain ⟨D,F⟩:=uK h.low y.pos;have I:=LC (m.map λq=>H_ q (d.1,d.2));have J:=JT (m.map λq=>H_ q (d.1,d.2));rw [AJ,h.len] at J;have f:A7 (K' (m.map λq=>H_ q (d.1,d.2))):=λq L=>D q (Hn L);generalize K' (m.map λq=>H_ q (d.1,d.2))=T at *;obtain ⟨c,M,O,_,P,_,em⟩:=h.ex;have k0:=Rr.k0 O P;generalize S:(c:Rat) / (M:Rat)=κ at *
 have j:val d*(κ*(co R (R.length - 1):Rat))=1:=by
  have:=rJ (congrArg Sr.c em) (m.length - 1);rw [Sr.num_mul] at this;have:val (AW m (m.length - 1))=κ*(co R (m.length - 1):Rat):=this;rw [this,h.len] at i;exact i
 have e:(co R (R.length - 1):Rat)≠0:=Am h.lz.2
 have U:sr T=Sr.num ((co R (R.length - 1):Rat)⁻¹)*si R:=by
  rw [F,em];refine Sr.ext' λk=>?_;rw [Sr.num_mul,Sr.num_mul,Sr.num_mul];have a:=Ef _ e;ext
 have g:∀ k,E_ T k=(co R (R.length - 1):Rat)⁻¹*(co R k:Rat):=λk=>by
  have:=rJ (congrArg Sr.c U) k;rw [Sr.num_mul] at this;exact this
 have o:∀ k,(co R k).natAbs<2 ^ 36:=λk=>by
  by_cases z:k<R.length
  ·refine B5 (h.bd _ ?_) (b15 w);unfold co;rw [AO,Ag z];exact DM z
  ·rw [AZ ⋯];decide
 have G:Gq 40 40 T:=by
  refine S8 f I (M:=((co R (R.length - 1)).natAbs:Int)) (by have:=h.lz.2;omega) ?_ (N:=λk=>(co R (R.length - 1)).sign*co R k) (λk=>?_) λk=>?_
  ·show ((co R (R.length - 1)).natAbs:Int).natAbs<2 ^ 40;have:=o (R.length - 1);rw [Ce];exact Nat.lt_trans this ∅
  ·rw [g k];have W:=Int.sign_mul_natAbs (co R (R.length - 1));generalize co R (R.length - 1)=x at *;have Y:((x.natAbs:Int):Rat)≠0:=Am λz=>e (by rw [show x=0 by omega];rfl);have Z:((x.sign:Int):Rat)*((x.natAbs:Int):Rat)=(x:Rat):=by rw [<-Au,W]
   have s2:((x.sign:Int):Rat)*((x.sign:Int):Rat)=1:=by
    rcases FZ x 0 with z | z | z
    ·rw [Int.sign_eq_neg_one_of_neg z];decide +kernel
    ·exact absurd (by rw [z];rfl) e
    ·rw [Int.sign_eq_one_of_pos z];decide +kernel
   rw [Au,Rat.div_def];have i1:=Ef _ e;have i2:=Ef _ Y;generalize ((x.natAbs:Int):Rat)=n at *;generalize ((x.sign:Int):Rat)=s at *;generalize (x:Rat)=X at *;ext
  ·show (_*_:Int).natAbs<2 ^ 40;rw [Az]
   have h1:(co R (R.length - 1)).sign.natAbs<=1:=by
    rcases FZ (co R (R.length - 1)) 0 with z | z | z
    ·rw [Int.sign_eq_neg_one_of_neg z];decide
    ·rw [z];decide
    ·rw [Int.sign_eq_one_of_pos z];decide
   have h2:=o k;have r:=Do h1 (AS (co R k).natAbs);rw [Nat.one_mul] at r;exact B5 r (Nat.lt_trans h2 ∅)
 have T0:0<T.length:=Nat.pos_of_ne_zero λz=>by
  have:T=[]:=CM.mp z;have p:=g (R.length - 1);rw [Ef _ e,this] at p;have:((0:Int):Rat) / ((1:Int):Rat)=1:=p;exact absurd this (by decide +kernel)
 have u:((Ao T:Int):Rat)≠0:=Am (AU (Dc G.low).1);refine ⟨A,T,((Ao T:Int):Rat)*(co R (R.length - 1):Rat)⁻¹,B,C,G,T0,⋯,?_,Sr.ext' λk=>?_⟩
 ·intro z;rcases B6.mp z with z | z
  ·exact u z
  ·exact KZ e z
 ·rw [Sr.num_mul];show ((co (Aj T) k:Int):Rat)=_*((co R k:Int):Rat);have a:=GC G.low (Dc G.low) k;rw [g k] at a;have b:(((J_ T (Ao T)).getD k 0:Int):Rat) / ((Ao T:Int):Rat)*((Ao T:Int):Rat)=(((J_ T (Ao T)).getD k 0:Int):Rat):=DF u;rw [<-a] at b;show (((Aj T).getD k 0:Int):Rat)=_;have c:(((Aj T).getD k 0:Int):Rat)=(((J_ T (Ao T)).getD k 0:Int):Rat):=rfl;rw [c,<-b];ext
def uM (h:L5 K vs H Q E):RA K (eC Q) (L2.start ["P","Q","shared"] vs) H:=by
 obtain ⟨p,q,L,N,m,R,rfl,hp,A,c,B,r,n,k⟩:=h;have o:Gq 39 13 m:=⟨r.low,r.nz,r.ov n⟩;have C:m.length<=9:=by rw [r.len];exact n
 have D:m≠[]:=λz=>by have:=r.lz.1;rw [<-r.len,z] at this;cases this
 show RA K _ [some (.ref p),some (.ref q),none] H;refine Je ⟨_,rfl,_,rfl,p,q,L,N,[(3,2)],m,39,13,9,4,rfl,hp,c,A,B,gq_top,o,∅,C,∅,∅,∅,∅,∅,λz=>?_,(λz=>nomatch z),λ_ g O _=>?_⟩
 ·rcases z with z | z
  ·cases z
  ·exact absurd z D
 rw [uH O];intro P gs S e f i;show AX (bT (J6 K) _) _ [some (.ref p),some (.ref q),some (.ref P)] S;refine Dg (B4 (B4 ⟨_,rfl,_,rfl,T6 (e _ _ hp) (A.tp (V_ e)) f i gq_top ∅ λu H2 j T=>?_⟩));refine B4 ⟨_,rfl,_,rfl,T6 (j _ _ (e _ _ c)) (B.tp (V_ (e.trans j))) (j _ _ f) (i.tp (V_ j)) o C λw H3 v hw=>?_⟩;obtain ⟨U,x,y⟩:=T
 have F:∀ {l:dg},Gq 39 13 l->∀ q∈l,Bd 1000000 q.1/\Bd 1000000 q.2:=λG q c=>by
  obtain ⟨M,I,bM,_⟩:=G.ov;refine ⟨(G.clr.2.2 q c).mono ∅,?_⟩;have d:=I.2 q c;have p0:=(G.low q c).pos;have:=Int.le_of_dvd I.1 d;have b:M.natAbs<2 ^ 13:=bM;have:Bd 13 q.2:=by show q.2.natAbs<2 ^ 13;omega
  exact this.mono ∅
 refine ⟨u,w,[(3,2)],m,rfl,⟨U,v _ _ x,y.tp (V_ v)⟩,hw,gq_top.low,r.low,r.nz,D,F gq_top,F o,∅,⋯,λfa W X t a b Y Z ht _ hb=>?_⟩;exact k t a b Y (e.trans (j.trans (v.trans Z))) ht (uL r n W X hb)
def uN {K:W.Frag} {b:TE} {g:TG} {c:TS} {D:Ends} {σ:L2.St} {H:Hp} (h:b σ H (λx d=>∃ a,x=.ref a/\(∃ e,SqT K d a e)/\ForT K a g c D σ d)):BH (FC K b) g c D σ H:=h
theorem Pls.get {H:Hp}:∀ {b:dz} {ps:List (dD)} {i:Nat} {v:V},Pls H b ps->b[i]?=some v->∃ p a,ps[i]?=some p/\v=.ref a/\H a=some (.tup (p.map V.int))
 | _::_,p::_,0,_,⟨⟨a,e,h⟩,_⟩,q=>by cases q;exact ⟨p,a,rfl,e,h⟩
 | _::_,_::_,i+1,_,h,q=>Pls.get (i:=i) h.2 q
 | [],[],_,_,_,q=>by cases q
 | [],_::_,_,_,h,_=>h.elim
 | _::_,[],_,_,h,_=>h.elim
def putT_any {kvs:List (List J'×V)} {k:List J'}:(kvs.any (λb=>b.1=k)=true)↔k∈kvs.map (·.1):=by
 rw [List.any_eq_true];constructor
 ·rintro ⟨x,a,e⟩;exact BD.mpr ⟨x,a,rB e⟩
 ·intro h;obtain ⟨x,a,e⟩:=BD.mp h;exact ⟨x,a,rA e⟩
def uO {kvs:List (List J'×V)} {k:List J'} {v:V} (c:k∈kvs.map (·.1)):(EV kvs k v).map (·.1)=kvs.map (·.1):=by
 unfold EV;rw [sZ (putT_any.mpr c),List.map_map];refine EL λx _=>?_;show (if x.1=k then (x.1,v) else x).1=x.1;split <;> rfl
def uP {kvs:List (List J'×V)} {k:List J'} {v:V} (c:¬ k∈kvs.map (·.1)):(EV kvs k v).map (·.1)=kvs.map (·.1)++[k]:=by
 unfold EV;rw [sY (λz=>c (putT_any.mp z)),DC];rfl
theorem uQ {p q:dD} (h:p.map (Sum.inl:Int->J')=q.map Sum.inl):p=q:=by
 induction p generalizing q with
 | nil=>
   cases q with
   | nil=>rfl
   | cons y q=>cases h
 | cons x p b=>
   cases q with
   | nil=>cases h
   | cons y q=>
     injection h with a c;injection a with a;rw [a,b c]
def uR (p:dD):(p.map (Sum.inl:Int->J')).map kV=p.map V.int:=by rw [List.map_map];rfl
def uS {q:Nu} {c:Int} (h:Sm7 q) (a:b5 c):val q*val q*val q≠(c:Rat):=λz=>by
 have k:∀ u:Fin 10,∀ s∈[2,3,5,7],∀ t:Fin 201,0<u.val->t.val*t.val*t.val≠s*u.val*u.val*u.val:=by decide +kernel
 have p:=h.1.pos;have v:=Fm p;have e:((q.1*q.1*q.1:Int):Rat)=((c*q.2*q.2*q.2:Int):Rat):=by rw [Au,Au,Au,Au,Au,<-z,<-v];ext
 have e:q.1*q.1*q.1=c*q.2*q.2*q.2:=by exact_mod_cast e
 have b:c.natAbs∈[2,3,5,7]:=by rcases a with rfl | rfl | rfl | rfl | rfl | rfl | rfl | rfl <;> decide
 refine k ⟨q.2.natAbs,by have:=h.2.2;omega⟩ c.natAbs b ⟨q.1.natAbs,by have:=h.2.1;omega⟩ (by show 0<q.2.natAbs;omega) ?_;show q.1.natAbs*q.1.natAbs*q.1.natAbs=c.natAbs*q.2.natAbs*q.2.natAbs*q.2.natAbs;rw [<-Az,<-Az,<-Az,<-Az,<-Az,e]
def T7 {p:dD} {lo hi:Rat} (h:C' p lo≠0):B7 lo hi p=(decide (C' p lo<0) && !decide (C' p hi<0)):=by
 unfold B7;congr 1
 ·exact Ih ⟨λz=>by ext,λz=>by ext⟩
 ·by_cases z:C' p hi<0
  ·rw [rA z,rC ()];rfl
  ·rw [rC z,rA ()];rfl
def uT {lo:Nu} {hi:Rat} {c:Int} (h:Sm7 lo) (a:b5 c):B7 (val lo) hi [c,0,0,0]=(decide (C' [c,0,0,0] (val lo)<0) && !decide (C' [c,0,0,0] hi<0)):=T7 λz=>by
 rw [DR] at z;exact uS h a ()
def uU {lo:Nu} {hi:Rat} {s e:Int} (h:Sm7 lo) (c:s=2\/s=3\/s=5\/s=6\/s=7) (d:e=1\/e = -1):B7 (val lo) hi [0,s,e]=(decide (C' [0,s,e] (val lo)<0) && !decide (C' [0,s,e] hi<0)):=T7 λz=>by
 have a:=Tq h c;have b:((0:Int):Rat)=0:=rfl;rcases d with rfl | rfl
 ·rw [EI,b] at z;split at z
  ·exact absurd z (by decide +kernel)
  ·exact a ()
 ·rw [E3,b] at z;split at z
  ·exact a ()
  ·exact absurd z (by decide +kernel)
def uV {q:Nu} {t s:Int} (h:0<q.2) (b:0<s):q.1*s<=t*q.2↔C' [t,s] (val q)<=0:=by
 have v:=Fm h;have a:(0:Rat)<(q.2:Rat):=by exact_mod_cast h
 have e:((q.1*s - t*q.2:Int):Rat)=C' [t,s] (val q)*(q.2:Rat):=by
  rw [Rat.intCast_sub,Au,Au,<-v];show _=((s:Rat)*val q - (t:Rat))*_;ext
 constructor
 ·intro z;have:((q.1*s - t*q.2:Int):Rat)<=((0:Int):Rat):=by exact_mod_cast (show q.1*s - t*q.2<=0 by omega)
  rw [e] at this;refine Cu.mp λw=>?_;have:=Ar w a;ext
 ·intro z
  have:((q.1*s - t*q.2:Int):Rat)<=((0:Int):Rat):=by
   rw [e];have:=Ab (show 0<=-C' [t,s] (val q) by ext) (show 0<=(q.2:Rat) by ext);ext
  have:q.1*s - t*q.2<=0:=by exact_mod_cast this
  omega
def uW {q:Nu} {t s:Int} (h:0<q.2) (b:0<s):t*q.2<=q.1*s↔0<=C' [t,s] (val q):=by
 have v:=Fm h;have a:(0:Rat)<(q.2:Rat):=by exact_mod_cast h
 have e:((q.1*s - t*q.2:Int):Rat)=C' [t,s] (val q)*(q.2:Rat):=by
  rw [Rat.intCast_sub,Au,Au,<-v];show _=((s:Rat)*val q - (t:Rat))*_;ext
 constructor
 ·intro z;have:((0:Int):Rat)<=((q.1*s - t*q.2:Int):Rat):=by exact_mod_cast (show 0<=q.1*s - t*q.2 by omega)
  rw [e] at this;refine Cu.mp λw=>?_;have:=Ar (show 0 < -C' [t,s] (val q) by ext) a;ext
 ·intro z
  have:((0:Int):Rat)<=((q.1*s - t*q.2:Int):Rat):=by
   rw [e];exact Ab z ()
  have:0<=q.1*s - t*q.2:=by exact_mod_cast this
  omega
def uX {lo hi:Nu} {t s:Int} (hl:0<lo.2) (b:0<hi.2) (a:0<s):B7 (val lo) (val hi) [t,s]=(decide (lo.1*s<=t*lo.2) && decide (t*hi.2<=hi.1*s)):=by
 unfold B7;rw [Ih (uV hl a),Ih (uW b a)]
noncomputable def bX:dD->dD
 | [_,s,e]=>[s,0,e]
 | [c,_,_,_]=>[c,0,3]
 | p=>p
def Kd (p:dD):Prop:=(∃ t s:Int,p=[t,s])\/(∃ s e:Int,p=[0,s,e]/\(e=1\/e = -1))\/∃ c:Int,p=[c,0,0,0]
def uY {p q:dD} (hp:Kd p) (i:Kd q) (h:bX p=bX q):p=q:=by
 rcases hp with ⟨t,s,rfl⟩ | ⟨s,e,rfl,k⟩ | ⟨c,rfl⟩ <;> rcases i with ⟨g,a,rfl⟩ | ⟨a,b,rfl,j⟩ | ⟨d,rfl⟩
 ·exact h
 ·have h:[t,s]=[a,0,b]:=h;cases h
 ·have h:[t,s]=[d,0,3]:=h;cases h
 ·have h:[s,0,e]=[g,a]:=h;cases h
 ·have h:[s,0,e]=[a,0,b]:=h;cases h;rfl
 ·have h:[s,0,e]=[d,0,3]:=h;have f:e=3:=by injection h with _ h;injection h with _ h;injection h
  omega
 ·have h:[c,0,3]=[g,a]:=h;cases h
 ·have h:[c,0,3]=[a,0,b]:=h;have f:3=b:=by injection h with _ h;injection h with _ h;injection h
  omega
 ·have h:[c,0,3]=[d,0,3]:=h;have f:c=d:=by injection h
  rw [f]
structure Dq (kvs:List (List J'×V)) (ps us:List (dD)) (f:dD->Bool):Prop where
 keys:kvs.map (·.1)=(us.filter f).map (λq=>(bX q).map Sum.inl)
 nd:us.Nodup
 mem:∀ q,q∈us↔q∈ps
 kd:∀ q∈ps,Kd q
 len:us.length<=ps.length
def Dq.more {kvs:List (List J'×V)} {ps a:List (dD)} {f:dD->Bool} {p:dD} (h:Dq kvs ps a f) (b:Kd p) (c:p∈a):(∀ q,q∈a↔q∈ps++[p])/\(∀ q∈ps++[p],Kd q)/\a.length<=(ps++[p]).length:=by
 refine ⟨λq=>?_,λq d=>?_,?_⟩
 ·rw [h.mem,Bq,Aq];exact ⟨.inl,λz=>z.elim id λz=>by rw [z];exact (h.mem p).mp c⟩
 ·rcases Bq.mp d with z | z
  ·exact h.kd q z
  ·rw [Aq.mp z];exact b
 ·rw [Cr];exact Bx h.len (Nat.le_add_right _ _)
def Dq.new {kvs:List (List J'×V)} {ps a:List (dD)} {f:dD->Bool} {p:dD} (h:Dq kvs ps a f) (b:Kd p) (c:¬ p∈a):(a++[p]).Nodup/\(∀ q,q∈a++[p]↔q∈ps++[p])/\(∀ q∈ps++[p],Kd q)/\(a++[p]).length<=(ps++[p]).length:=by
 refine ⟨?_,λq=>?_,λq d=>?_,?_⟩
 ·rw [List.nodup_append];exact ⟨h.nd,List.nodup_cons.mpr ⟨λz=>(nomatch z),.nil⟩,λx e y g=>by rw [Aq.mp g];exact λz=>c (z ▸ e)⟩
 ·rw [Bq,Bq,h.mem]
 ·rcases Bq.mp d with z | z
  ·exact h.kd q z
  ·rw [Aq.mp z];exact b
 ·rw [Cr,Cr];exact Nat.add_le_add_right h.len _
def Dq.skip {kvs:List (List J'×V)} {ps a:List (dD)} {f:dD->Bool} {p:dD} (h:Dq kvs ps a f) (i:Kd p) (j:f p=false):∃ b,Dq kvs (ps++[p]) b f:=by
 by_cases c:p∈a
 ·obtain ⟨d,e,g⟩:=h.more i c;exact ⟨a,h.keys,h.nd,d,e,g⟩
 ·obtain ⟨k,d,e,g⟩:=h.new i c;refine ⟨a++[p],?_,k,d,e,g⟩;rw [List.filter_append,show [p].filter f=[] by rw [List.filter_cons,j];rfl,List.append_nil];exact h.keys
def Dq.put {kvs:List (List J'×V)} {ps a:List (dD)} {f:dD->Bool} {p:dD} {v:V} (h:Dq kvs ps a f) (d:Kd p) (n:f p=true):∃ g,Dq (EV kvs ((bX p).map Sum.inl) v) (ps++[p]) g f:=by
 have e:(bX p).map (Sum.inl:Int->J')∈kvs.map (·.1)↔p∈a:=by
  rw [h.keys];constructor
  ·intro m;obtain ⟨q,b,e⟩:=BD.mp m;have b:=(Ea.mp b).1;rw [<-uY (h.kd q ((h.mem q).mp b)) d (uQ e)];exact b
  ·intro m;exact BD.mpr ⟨p,Ea.mpr ⟨m,n⟩,rfl⟩
 by_cases c:p∈a
 ·obtain ⟨i,j,k⟩:=h.more d c;exact ⟨a,by rw [uO (e.mpr c)];exact h.keys,h.nd,i,j,k⟩
 ·obtain ⟨o,i,j,k⟩:=h.new d c;refine ⟨a++[p],?_,o,i,j,k⟩;rw [uP (λz=>c (e.mp z)),h.keys,List.filter_append,show [p].filter f=[p] by rw [List.filter_cons,n];rfl,DC];rfl
structure Du (H H':Hp) (g:Addr) (ps:List (dD)) (f:dD->Bool):Prop where
 same:Same H H'
 g0:H g=none
 d:∃ kvs us,H' g=some (.dT kvs)/\Dq kvs ps us f
def Du.skip {H d:Hp} {g:Addr} {ps:List (dD)} {f:dD->Bool} {p:dD} (h:Du H d g ps f) (e:Kd p) (i:f p=false):Du H d g (ps++[p]) f:=by
 obtain ⟨a,k,j,b⟩:=h.d;obtain ⟨c,b⟩:=b.skip e i;exact ⟨h.same,h.g0,a,c,j,b⟩
def Du.put {H u c:Hp} {g b:Addr} {ps:List (dD)} {f:dD->Bool} {p:dD} {Q:Hp->Prop} (h:Du H u g ps f) (x:Kd p) (y:f p=true) (l:ps.length<=1000) (s:Same u c) (z:c b=some (.tup ((bX p).map V.int))) (k:∀ i,(∀ q o,q≠g->c q=some o->i q=some o)->Du H i g (ps++[p]) f->Q i):Hm (.ref g) (.ref b) (.bl true) c Q:=by
 obtain ⟨a,w,A,j⟩:=h.d;obtain ⟨m,r⟩:=j.put (v:=.bl true) x y;refine ⟨g,b,(bX p).map Sum.inl,a,rfl,rfl,by rw [uR];exact z,s _ _ A,?_,k _ (λq o n d=>by rw [Aw n];exact d) ⟨?_,h.g0,_,m,upd_same,r⟩⟩
 ·have e:a.length=(w.filter f).length:=by rw [<-AJ (f:=λB:List J'×V=>B.1),j.keys,AJ]
  have:=List.length_filter_le f w;have:=j.len;exact B5 (show a.length<=1000 by omega) (by rw [sizeLine_eq];decide)
 ·intro q o d;rw [Aw (BA d h.g0)];exact s _ _ (h.same _ _ d)
noncomputable def bo (a:dD):List (dD):=a.flatMap λs=>[[0,s,-1],[0,s,1]]
def uZ {b:dD} {p:dD}:p∈bo b↔∃ s∈b,p=[0,s,-1]\/p=[0,s,1]:=by
 unfold bo;rw [List.mem_flatMap];constructor
 ·rintro ⟨s,a,h⟩;refine ⟨s,a,?_⟩;rcases By.mp h with h | h
  ·exact .inl h
  ·exact .inr (Aq.mp h)
 ·rintro ⟨s,a,h | h⟩
  ·exact ⟨s,a,by rw [h];exact BS ..⟩
  ·exact ⟨s,a,by rw [h];exact Bp _ (BS ..)⟩
def Ka {a:Type} {l:List a} {i:Nat} {x:a} (h:l[i]?=some x):l.take (i+1)=l.take i++[x]:=by rw [Eg,h];rfl
def bI (H:Hp) (a b d x y g:Addr) (F:dD->Bool) (ps:List (dD)) (σ:L2.St) (c:Hp):Prop:=∃ e f h:dC,σ=[some (.ref a),some (.ref b),some (.ref d),some (.ref x),some (.ref y),some (.ref g),e,f,h]/\Du H c g ps F
def tE (h:L4 K vs H Q E):Zi K (eC Q) (L2.start ["_law_places","_law_squares","_law_cubes","_law_low","_law_high","_law_found","_law_s","_law_a","_law_sign"] vs) H:=by
 obtain ⟨a,b,d,x,y,us,as,L,M,lo,o,rfl,ha,pl,hb,hd,W,⟨_,ex,hx⟩,⟨_,ey,hy⟩,X,sh,k⟩:=h;cases ex;cases ey
 have cl:M.length<=1:=by
  rcases W.c with z | ⟨_,c,z,_⟩ <;> rw [z]
  ·exact Aa _
  ·exact AS _
 have la:=W.la;have ls:=W.ls;have ul:=pl.len
 have a4:∀ c∈M,b5 c:=λc F=>by
  rcases W.c with z | ⟨_,c',z,a5⟩
  ·rw [z] at F;cases F
  ·rw [z] at F;rw [Aq.mp F];exact a5
 refine BW λg hg=>?_;have B:=AQ hg (HO.dT []);have start:Du H (upd H g (.dT [])) g [] (B7 (val lo) (val o)):=⟨B,hg,[],[],upd_same,rfl,.nil,λq=>⟨(λz=>nomatch z),(λz=>nomatch z)⟩,(λq z=>nomatch z),AS _⟩;generalize upd H g (.dT [])=H1 at start ⊢;clear B;show SH K _ [some (.ref a),some (.ref b),some (.ref d),some (.ref x),some (.ref y),some (.ref g),none,none,none] H1;refine Ib ⟨_,rfl,d,rfl,⟨_,SqL.of (start.same _ _ hd)⟩,ForL.by (xs:=M.map V.int) (λi n m=>bI H a b d x y g (B7 (val lo) (val o)) ((M.map λc=>[c,0,0,0]).take i) n m) ⟨none,none,none,rfl,start⟩ ?_ ?_ ?_⟩
 ·rintro i n m _ ⟨_,_,_,_,D⟩;exact SqL.of (D.same _ _ hd)
 ·rintro i v n m hv ⟨G,r,u,rfl,D⟩;rw [Ae] at hv;obtain ⟨c,F,rfl⟩:=Option.map_eq_some_iff.mp hv;have hC:=a4 c (Bu F);have a0:c.natAbs<=10:=by rcases hC with rfl | rfl | rfl | rfl | rfl | rfl | rfl | rfl <;> decide
  have P:=Ka (l:=M.map λc=>[c,0,0,0]) (i:=i) (x:=[c,0,0,0]) (by rw [Ae,F];rfl);have N:Kd [c,0,0,0]:=.inr (.inr ⟨c,rfl⟩);have I:=uT (hi:=val o) X hC
  have O:B7 (val lo) (val o) [c,0,0,0]=false->∀ A:Ends,A.nx=(λn m=>bI H a b d x y g (B7 (val lo) (val o)) ((M.map λc=>[c,0,0,0]).take (i+1)) n m)->BL A [some (.ref a),some (.ref b),some (.ref d),some (.ref x),some (.ref y),some (.ref g),some (.int c),r,u] m:=λz A e=>by
   show A.nx _ _;rw [e,P];exact ⟨_,_,_,rfl,D.skip N z⟩
  refine EX (KP (B4 ⟨_,rfl,_,rfl,x,lo,c,rfl,⟨x,rfl,D.same _ _ hx⟩,X.nb,a0,_,rfl,AV (λz=>B4 ⟨_,rfl,_,rfl,y,o,c,rfl,⟨y,rfl,D.same _ _ hy⟩,sh.nb,a0,_,rfl,AV (λw=>?_) (λw=>?_)⟩) (λz=>AV (λw=>nomatch w) λ_=>?_)⟩))
  ·refine ⟨_,rfl,Oz ⟨_,rfl,Hw,λt Y=>?_⟩⟩;refine D.put (p:=[c,0,0,0]) N (by rw [I,z,w];rfl) (by rw [CJ,AJ];omega) (AQ Y _) upd_same λH3 _ R=>?_;show bI _ _ _ _ _ _ _ _ _ _ _;rw [P];exact ⟨_,_,_,rfl,R⟩
  ·exact O (by rw [I,z];revert w;cases (!decide (C' [c,0,0,0] (val o)<0)) <;> intro w <;> first | rfl | exact absurd rfl w) _ rfl
  ·exact O (by rw [I];revert z;cases (decide (C' [c,0,0,0] (val lo)<0)) <;> intro z <;> first | rfl | exact absurd rfl z) _ rfl
 rintro n H2 ⟨G,r,u,rfl,D2⟩;rw [AJ,show ((M.map λc=>[c,0,0,0]).take M.length)=M.map λc=>[c,0,0,0] from List.take_of_length_le (by rw [AJ];exact AS _)] at D2;show SG K _ [some (.ref a),some (.ref b),some (.ref d),some (.ref x),some (.ref y),some (.ref g),G,r,u] H2;generalize a1:(M.map λc=>[c,0,0,0])=ps at D2;have aj:ps.length<=1:=by rw [<-a1,AJ];exact cl
 refine Ib ⟨_,rfl,a,rfl,⟨_,SqL.of (D2.same _ _ ha)⟩,ForL.by (xs:=us) (λi n m=>bI H a b d x y g (B7 (val lo) (val o)) (ps++as.take i) n m) ⟨G,r,u,rfl,by rw [List.take_zero,List.append_nil];exact D2⟩ ?_ ?_ ?_⟩
 ·rintro i n m _ ⟨_,_,_,_,D⟩;exact SqL.of (D.same _ _ ha)
 ·rintro i v n m hv ⟨G,r,u,rfl,D⟩;obtain ⟨p,t,hp,rfl,Y⟩:=pl.get hv;obtain ⟨C,B,rfl,a2,s3,t6⟩:=W.a p (Bu hp);have P:=Ka hp;have N:Kd [C,B]:=.inl ⟨C,B,rfl⟩;have I:=uX (t:=C) X.1.pos sh.1.pos a2.pos;have nb:Nb 1000 (C,B):=Sm7.nb ⟨a2,by show C.natAbs<=200;omega,by show B<=9;omega⟩;have S:Nm m t C B:=D.same _ _ Y
  have O:B7 (val lo) (val o) [C,B]=false->∀ A:Ends,A.nx=(λn m=>bI H a b d x y g (B7 (val lo) (val o)) (ps++as.take (i+1)) n m)->BL A [some (.ref a),some (.ref b),some (.ref d),some (.ref x),some (.ref y),some (.ref g),G,some (.ref t),u] m:=λz A e=>by
   show A.nx _ _;rw [e,P,<-FW];exact ⟨_,_,_,rfl,D.skip N z⟩
  refine EX (KP (B4 ⟨_,rfl,_,rfl,x,t,lo,(C,B),rfl,⟨x,rfl,D.same _ _ hx⟩,⟨t,rfl,S⟩,X.nb,nb,_,rfl,AV (λz=>B4 ⟨_,rfl,_,rfl,t,y,(C,B),o,rfl,⟨t,rfl,S⟩,⟨y,rfl,D.same _ _ hy⟩,nb,sh.nb,_,rfl,AV (λw=>?_) (λw=>?_)⟩) (λz=>AV (λw=>nomatch w) λ_=>?_)⟩))
  ·refine ⟨_,rfl,_,rfl,?_⟩;refine D.put (p:=[C,B]) N (by rw [I];have z:decide (lo.1*B<=C*lo.2)=true:=z;have w:decide (C*o.2<=o.1*B)=true:=w;rw [z,w];rfl) (by rw [Cr,CJ];omega) (Same.refl _) S λH3 _ R=>?_;show bI _ _ _ _ _ _ _ _ _ _ _;rw [P,<-FW];exact ⟨_,_,_,rfl,R⟩
  ·exact O (by rw [I];have w:¬ decide (C*o.2<=o.1*B)=true:=w;rw [Bool.eq_false_iff.mpr w,Bool.and_false]) _ rfl
  ·exact O (by rw [I];have z:¬ decide (lo.1*B<=C*lo.2)=true:=z;rw [Bool.eq_false_iff.mpr z,Bool.false_and]) _ rfl
 rintro n H3 ⟨G,r,u,rfl,R⟩;rw [ul,Cz] at R;show SF K _ [some (.ref a),some (.ref b),some (.ref d),some (.ref x),some (.ref y),some (.ref g),G,r,u] H3;refine Ib ⟨_,rfl,b,rfl,⟨_,SqL.of (R.same _ _ hb)⟩,ForL.by (xs:=L.map V.int) (λi n m=>bI H a b d x y g (B7 (val lo) (val o)) (ps++as++bo (L.take i)) n m) ⟨G,r,u,rfl,by rw [List.take_zero];show Du _ _ _ (ps++as++[]) _;rw [List.append_nil];exact R⟩ ?_ ?_ ?_⟩
 ·rintro i n m _ ⟨_,_,_,_,D⟩;exact SqL.of (D.same _ _ hb)
 ·rintro i v n m hv ⟨G,r,u,rfl,D⟩;rw [Ae] at hv;obtain ⟨s,hs,rfl⟩:=Option.map_eq_some_iff.mp hv;have hS:=W.s s (Bu hs);have P:bo (L.take (i+1))=bo (L.take i)++[[0,s,-1],[0,s,1]]:=by rw [Ka hs];unfold bo;rw [List.flatMap_append];rfl
  have al:(bo (L.take i)).length<=4:=by
   have:(L.take i).length<=2:=by rw [CJ];omega
   revert this
   match L.take i with
   | []=>intro _;decide
   | [_]=>intro _;show 2<=4;decide
   | [_,_]=>intro _;exact AS 4
   | _::_::_::_=>intro z;exact absurd z (by simp)
  rw [show (λn m=>bI H a b d x y g (B7 (val lo) (val o)) (ps++as++bo (L.take (i+1))) n m)=(λn m=>bI H a b d x y g (B7 (val lo) (val o)) (ps++as++bo (L.take i)++[[0,s,-1],[0,s,1]]) n m) by rw [P,<-FW]];generalize ab:ps++as++bo (L.take i)=qs at D ⊢;have ql:qs.length<=100:=by rw [<-ab,Cr,Cr];omega
  refine EX (uN (C7 ⟨_,rfl,CP,λw hw=>?_⟩));have T:upd m w (.tup [.int (-1),.int 1]) w=some (.tup [.int (-1),.int 1]):=upd_same;have sw:=AQ hw (.tup [.int (-1),.int 1])
  have A:Du H (upd m w (.tup [.int (-1),.int 1])) g qs (B7 (val lo) (val o)):=by
   obtain ⟨J,U,h1,h2⟩:=D.d;exact ⟨D.same.trans sw,D.g0,J,U,sw _ _ h1,h2⟩
  generalize upd m w (.tup [.int (-1),.int 1])=H4 at T A ⊢
  have wg:w≠g:=λz=>by
   obtain ⟨J,_,h1,_⟩:=D.d;rw [z,h1] at hw;cases hw
  refine ⟨w,rfl,⟨_,SqT.of T⟩,ForT.by (xs:=[V.int (-1),V.int 1]) (λj n m=>(∃ r u:dC,n=[some (.ref a),some (.ref b),some (.ref d),some (.ref x),some (.ref y),some (.ref g),some (.int s),r,u])/\m w=some (.tup [.int (-1),.int 1])/\Du H m g (qs++[[0,s,-1],[0,s,1]].take j) (B7 (val lo) (val o))) ⟨⟨_,_,rfl⟩,T,by rw [List.take_zero,List.append_nil];exact A⟩ ?_ ?_ ?_⟩
  ·rintro j n m _ ⟨_,h,_⟩;exact h
  ·rintro j v n H5 hv ⟨⟨r,u,rfl⟩,a3,Z⟩
   have:∃ e:Int,v=.int e/\(e=1\/e = -1)/\[[0,s,-1],[0,s,1]][j]?=some [0,s,e]:=by
    match j,hv with
    | 0,hv=>cases hv;exact ⟨-1,rfl,.inr rfl,rfl⟩
    | 1,hv=>cases hv;exact ⟨1,rfl,.inl rfl,rfl⟩
    | _+2,hv=>cases hv
   obtain ⟨e,rfl,he,hj⟩:=this;have ej:=Ka hj;have N:Kd [0,s,e]:=.inr (.inl ⟨s,e,rfl,he⟩);have I:=uU (hi:=val o) X hS he
   have O:B7 (val lo) (val o) [0,s,e]=false->∀ A:Ends,A.nx=(λn m=>(∃ r u:dC,n=[some (.ref a),some (.ref b),some (.ref d),some (.ref x),some (.ref y),some (.ref g),some (.int s),r,u])/\m w=some (.tup [.int (-1),.int 1])/\Du H m g (qs++[[0,s,-1],[0,s,1]].take (j+1)) (B7 (val lo) (val o)))->BL A [some (.ref a),some (.ref b),some (.ref d),some (.ref x),some (.ref y),some (.ref g),some (.int s),r,some (.int e)] H5:=λz A e'=>by
    show A.nx _ _;rw [e',ej,<-FW];exact ⟨⟨_,_,rfl⟩,a3,Z.skip N z⟩
   refine EX (KP (CZ ⟨_,rfl,_,rfl,_,rfl,x,lo,s,e,rfl,⟨x,rfl,Z.same _ _ hx⟩,X,hS,he,_,rfl,AV (λz=>CZ ⟨_,rfl,_,rfl,_,rfl,y,o,s,e,rfl,⟨y,rfl,Z.same _ _ hy⟩,sh,hS,he,_,rfl,AV (λc=>?_) (λc=>?_)⟩) (λz=>AV (λw=>nomatch w) λ_=>?_)⟩))
   ·refine ⟨_,rfl,Oz ⟨_,rfl,_,rfl,Hw,λt Y=>?_⟩⟩;refine Z.put (p:=[0,s,e]) N (by rw [I,z,c];rfl) (by rw [Cr,CJ];show _+min j 2<=1000;omega) (AQ Y _) upd_same λH6 kp D6=>?_;show (∃ r u:dC,_)/\H6 w=_/\Du _ _ _ _ _;rw [ej,<-FW];exact ⟨⟨_,_,rfl⟩,kp _ _ wg (AQ Y _ _ _ a3),D6⟩
   ·exact O (by rw [I,z];revert c;cases (!decide (C' [0,s,e] (val o)<0)) <;> intro c <;> first | rfl | exact absurd rfl c) _ rfl
   ·exact O (by rw [I];revert z;cases (decide (C' [0,s,e] (val lo)<0)) <;> intro z <;> first | rfl | exact absurd rfl z) _ rfl
  ·rintro n H5 ⟨⟨r,u,rfl⟩,_,Z⟩;exact ⟨_,_,_,rfl,Z⟩
 rintro n H4 ⟨G,r,u,rfl,D4⟩;rw [AJ,Cz] at D4;show SE K _ [some (.ref a),some (.ref b),some (.ref d),some (.ref x),some (.ref y),some (.ref g),G,r,u] H4;obtain ⟨J,U,ac,dq⟩:=D4.d;refine Dg ⟨_,rfl,g,J,rfl,ac,k J.length H4 D4.same ⟨U,dq.nd,λq=>?_,?_⟩⟩
 ·rw [dq.mem,Fn,Bq,Bq,uZ,<-a1,BD];constructor
  ·rintro ((⟨c,F,rfl⟩ | h) | h)
   ·exact .inr (.inr ⟨c,F,rfl⟩)
   ·exact .inl h
   ·exact .inr (.inl h)
  ·rintro (h | h | ⟨c,F,rfl⟩)
   ·exact .inl (.inr h)
   ·exact .inr h
   ·exact .inl (.inl ⟨c,F,rfl⟩)
 ·rw [List.countP_eq_length_filter,<-AJ (f:=λkv:List J'×V=>kv.1),dq.keys,AJ]
theorem T8 {H:Hp}:∀ {a:dz} {as:List (dD)},Pls H a as->RepA H a (as.map λp=>.tuple (p.map λs=>.int s))
 | [],[],_=>.nil
 | _::_,p::_,⟨⟨_,e,h⟩,r⟩=>.cons (by rw [e];exact .tup h (Mx p)) (T8 r)
 | [],_::_,h=>h.elim
 | _::_,[],h=>h.elim
def tF (as:List (dD)):W.kqdOk 8 (.list (as.map λp=>.tuple (p.map λs=>.int s)))=true:=by
 show (as.map _).all (W.kqdOk 7)=true;rw [List.all_eq_true];intro x a;obtain ⟨p,_,rfl⟩:=BD.mp a;show (p.map _).all (W.kqdOk 6)=true;rw [List.all_eq_true];intro y b;obtain ⟨z,_,rfl⟩:=BD.mp b;rfl
def tG (b:dD):∃ a:dD,Cg (b.map V.int) (some 1) (some 11)=a.map V.int/\a.length<=10:=by
 unfold Cg HT.sIx;rw [<-List.map_drop,<-List.map_take];refine ⟨_,rfl,?_⟩;rw [CJ,List.length_drop];simp only [sY (show ¬ (1:Int)<0 by decide),sY (show ¬ (11:Int)<0 by decide)];omega
def tH {R:dD} {as:List (dD)} {d cs:dD} {f:List (dD)} {lo hi:Rat} {k:Nat} (i:Fz R (ak as d cs)) (n:PkL as d cs) (o:f.Nodup) (a:∀ q,q∈f↔q∈ak as d cs) (A:lo<=hi) (p:lo<hi->Rad R (sq R)/\∃ g,k=(if A_ R lo=0 then 1 else 0)+g/\c6 R (sq R) (some lo) (some hi) g) (r:¬ lo<hi->k=if A_ R lo=0 then 1 else 0):k=f.countP (B7 lo hi):=by
 have b:=Tj n o λq u=>(a q).mp u;have j:=wX i a b lo;have m:=i.same a;by_cases c:lo<hi
 ·obtain ⟨h,g,e,v⟩:=p c;have:=m.cnt h b (λx y w z=>by cases w;cases z;exact c) v;rw [Tk m.pc c,j,<-this,e]
 ·have e:lo=hi:=by ext
  rw [r c,<-e,Tl,j]
def Lo7 (q:Nu):Prop:=Low q.1 q.2/\q.1.natAbs<=9/\q.2<=3
def Lo7.sm {q:Nu} (h:Lo7 q):Sm7 q:=⟨h.1,by have:=h.2.1;omega,by have:=h.2.2;omega⟩
def Sm7.nb60 {q:Nu} (h:Sm7 q):Nb 60 q:=⟨h.1,B5 h.2.1 ∅,B5 (show q.2.natAbs<=9 by have:=h.1.pos;have:=h.2.2;omega) ∅⟩
def tI {d e:Int} (a:0<=d) (b:d<19) (c:0<=e) (f:e<3):Lo7 (AT (d - 9) (1+e)):=by
 have p:(0:Int)<1+e:=by omega
 refine ⟨Db ⋯,?_,?_⟩
 ·have:=KT (W:=d - 9) p;omega
 ·have:=KU (W:=d - 9) p;have:=(Db (n:=d - 9) (show (1+e:Int)≠0 by omega)).pos;omega
structure In7 (q:Nu):Prop where
 low:Low q.1 q.2
 p:0<=q.1
 t:q.1.natAbs<=12
 b:q.2<=3
def tJ {d e:Int} (b:0<=d) (c:d<13) (f:0<=e) (g:e<3):In7 (AT d (1+e)):=by
 have p:(0:Int)<1+e:=by omega
 have a:=Db (n:=d) (show (1+e:Int)≠0 by omega);refine ⟨a,?_,?_,?_⟩
 ·have w:=FI (n:=d) p;rw [Ig p] at a ⊢;have w:(P' d (1+e)).1*(1+e)=d*(P' d (1+e)).2:=w;have h:=Int.mul_nonneg b (DT a.pos);rw [<-w] at h;exact Int.not_lt.mp λz=>by have:=Int.mul_neg_of_neg_of_pos z p;omega
 ·have:=KT (W:=d) p;omega
 ·have:=KU (W:=d) p;have:=a.pos;omega
def tK {q r:Nu} (c:Lo7 q) (b:In7 r):Sm7 (U_ q r)/\val q<=val (U_ q r):=by
 have d:=c.1.pos;have a:=b.low.pos;have p:(0:Int)<q.2*r.2:=CN d a;refine ⟨⟨LB d a,?_,?_⟩,?_⟩
 ·have h:=KT (W:=q.1*r.2+r.1*q.2) p;rw [Ig p] at h;have e:(q.1*r.2).natAbs<=9*3:=by rw [Az];exact Do c.2.1 (by have:=b.b;omega)
  have f:(r.1*q.2).natAbs<=12*3:=by rw [Az];exact Do b.t (by have:=c.2.2;omega)
  have h:(U_ q r).1.natAbs<=(q.1*r.2+r.1*q.2).natAbs:=h;omega
 ·have h:=KU (W:=q.1*r.2+r.1*q.2) p;rw [Ig p] at h;have h:(U_ q r).2.natAbs<=(q.2*r.2).natAbs:=by first | exact h | (have:=(LB d a).pos;have h:(U_ q r).2<=q.2*r.2:=h;omega)
  have f:(q.2*r.2).natAbs<=3*3:=by rw [Az];exact Do (by have:=c.2.2;omega) (by have:=b.b;omega)
  omega
 ·rw [X6 d a]
  have:0<=val r:=by
   have e:(0:Rat)<(r.2:Rat):=by exact_mod_cast a
   have f:(0:Rat)<=(r.1:Rat):=by exact_mod_cast b.p
   have v:=Fm a;refine Cu.mp λz=>?_;have:=Ar (show 0 < -val r by ext) e;ext
  ext
def tL (h:Jr K vs H Q E):Zk K (eC Q) (L2.start ["_law_script","_law_row","_law_places","_law_squares","_law_cubes","_law_f","_law_cell","_law_low","_law_high","_law_found"] vs) H:=by
 obtain ⟨a,ns,rfl,hS,_,k⟩:=h;obtain ⟨Z,a1,aw⟩:=tG ns;refine Ye (Jf (B4 ⟨_,rfl,a,ns,0,rfl,hS,∅,λn=>⟨n,rfl,λr w o B C zs us L R as ss cs H1 s1 hr hw hN rr l9 ha pl hb hd pk fz=>?_⟩⟩));refine ⟨r,_,rfl,hr,rfl,_,_,rfl,_,_,rfl,_,_,rfl,_,_,rfl,rfl,?_⟩;show SS K _ [some (.ref a),some (.ref w),some (.ref o),some (.ref B),some (.ref C),none,none,none,none,none] H1;refine Je (Yb (C7 ⟨CP,λJ h1=>⟨Df,λt2 h2=>Jh ⟨_,rfl,w,zs,rfl,?_,λt3 h3=>?_⟩⟩⟩))
 ·exact AQ h2 _ _ _ (AQ h1 _ _ _ hw)
 have s2:Same H1 (upd (upd (upd H1 J (.tup [.int 3,.int 2])) t2 (.tup [.ref J])) t3 (.tup zs)):=(AQ h1 _).trans ((AQ h2 _).trans (AQ h3 _));refine ⟨t2,t3,[.ref J],zs,L,R,rfl,AQ h3 _ _ _ upd_same,⟨⟨J,rfl,AQ h3 _ _ _ (AQ h2 _ _ _ upd_same)⟩,trivial⟩,upd_same,hN.tp (V_ s2),rr,l9,λf u v H2 U hf of=>?_⟩;have G:=s2.trans U;clear h1 h2 h3;generalize upd (upd (upd H1 J (.tup [.int 3,.int 2])) t2 (.tup [.ref J])) t3 (.tup zs)=Hx at *;clear s2 U;have ha:=G _ _ ha;have hb:=G _ _ hb;have hd:=G _ _ hd;have pl:=pl.tp (V_ G);have hS:=(s1.trans G).seq hS;show SR K _ [some (.ref a),some (.ref w),some (.ref o),some (.ref B),some (.ref C),some (.ref f),none,none,none,none] H2;clear G s1 hr hw hN;refine Ib (Af ⟨_,rfl,1,rfl,11,rfl,a,_,rfl,hS,λp hp=>Gz ⟨Df,λq hq=>⟨p,q,_,_,rfl,rfl,AQ hq _ _ _ upd_same,upd_same,?_,λc hc=>?_⟩⟩⟩)
 ·rw [a1,AJ];show _+1<=_;exact sz ⋯
 rw [a1] at hq hc ⊢;have U:Same H2 (upd (upd (upd H2 p (.lst (Z.map V.int))) q (.lst [.int 7])) c (.lst (Z.map V.int++[V.int 7]))):=(AQ hp _).trans ((AQ hq _).trans (AQ hc _));have a2:upd (upd (upd H2 p (.lst (Z.map V.int))) q (.lst [.int 7])) c (.lst (Z.map V.int++[V.int 7])) c=some (.lst ((Z++[7]).map V.int)):=by rw [DC];exact upd_same
 generalize upd (upd (upd H2 p (.lst (Z.map V.int))) q (.lst [.int 7])) c (.lst (Z.map V.int++[V.int 7]))=H3 at *;have ha:=U _ _ ha;have hb:=U _ _ hb;have hd:=U _ _ hd;have hf:=U _ _ hf;have pl:=pl.tp (V_ U);have of:=of.kp U;clear hS hp hq hc a1;generalize Z++[7]=a3 at a2;have ul:=pl.len;refine ⟨c,rfl,⟨_,SqL.of a2⟩,ForL.by (xs:=a3.map V.int) (λi σ H'=>∃ o6 o7 T M:dC,σ=[some (.ref a),some (.ref w),some (.ref o),some (.ref B),some (.ref C),some (.ref f),o6,o7,T,M]/\Same H3 H') ⟨_,_,_,_,rfl,Same.refl _⟩ ?_ ?_ ?_⟩
 ·rintro i σ H' _ ⟨_,_,_,_,_,s⟩;exact SqL.of (s _ _ a2)
 ·rintro i x σ H4 W ⟨o6,o7,T,M,rfl,s4⟩;rw [Ae] at W;obtain ⟨b,_,rfl⟩:=Option.map_eq_some_iff.mp W;refine EX ?_;show SQ K _ [some (.ref a),some (.ref w),some (.ref o),some (.ref B),some (.ref C),some (.ref f),some (.int b),o7,T,M] H4
  have a4:∀ (D:Ends) (x y:Addr) (lo A:Nu) (F:Hp),Same H3 F->D.nx=(λσ H'=>∃ o6 o7 T M:dC,σ=[some (.ref a),some (.ref w),some (.ref o),some (.ref B),some (.ref C),some (.ref f),o6,o7,T,M]/\Same H3 H')->Nm F x lo.1 lo.2->Nm F y A.1 A.2->Sm7 lo->Sm7 A->val lo<=val A->SM K D [some (.ref a),some (.ref w),some (.ref o),some (.ref B),some (.ref C),some (.ref f),some (.int b),some (.ref x),some (.ref y),M] F:=λD x y lo A F s5 eD W X sl sh le=>by
   refine YZ ⟨_,rfl,_,rfl,_,rfl,f,u,v,x,y,R,lo,A,rfl,s5 _ _ hf,of.kp s5,⟨x,rfl,W⟩,⟨y,rfl,X⟩,sl.nb60,sh.nb60,λkk Y s6 g1 g2=>?_⟩;have N:=s5.trans s6;show SL K _ [some (.ref a),some (.ref w),some (.ref o),some (.ref B),some (.ref C),some (.ref f),some (.int b),some (.ref x),some (.ref y),some (.int (kk:Int))] Y;refine Dy (show bK _ _ _ _ _ from O3 ⟨_,rfl,kk, "int", true,rfl,.inl ⟨rfl,rfl⟩,_,rfl,AV (λz=>nomatch z) λ_=>O3 ⟨_,rfl,kk, "bool", false,rfl,.inr ⟨rfl,rfl⟩,_,rfl,AV (λz=>nomatch z) λ_=>?_⟩⟩);show SK K _ [some (.ref a),some (.ref w),some (.ref o),some (.ref B),some (.ref C),some (.ref f),some (.int b),some (.ref x),some (.ref y),some (.int (kk:Int))] Y;refine KP (EY (Af ⟨_,rfl,Yg ⟨_,rfl,_,rfl,_,rfl,_,rfl,_,rfl,o,B,C,x,y,us,as,ss,cs,lo,A,rfl,N _ _ ha,pl.tp (V_ N),N _ _ hb,N _ _ hd,pk,⟨x,rfl,s6 _ _ W⟩,⟨y,rfl,s6 _ _ X⟩,sl,sh,λm H7 s7 hm=>?_⟩⟩));obtain ⟨qs,nd,ac,em⟩:=hm;have e:=tH fz pk nd ac le g1 g2;rw [em,<-e];refine ⟨rfl,_,rfl,AV (λz=>?_) λ_=>?_⟩
   ·rw [rA rfl] at z;cases z
   ·show D.nx _ _;rw [eD];exact ⟨_,_,_,_,rfl,N.trans s7⟩
  have O:∀ (D:Ends) (T:dC) (x:Addr) (lo:Nu) (F:Hp) (P:L2.St->Hp->Prop),Same H3 F->Nm F x lo.1 lo.2->Lo7 lo->(∀ (y:Addr) (A:Nu) (Y:Hp),Same F Y->Nm Y y A.1 A.2->Sm7 A->val lo<=val A->P [some (.ref a),some (.ref w),some (.ref o),some (.ref B),some (.ref C),some (.ref f),some (.int b),some (.ref x),some (.ref y),M] Y)->AM (bT (HE K) (AB (AA 7) (AB (bT (FO K) (AB (bT (CH K) (AB (AA 6) (AB (aC 2) (AB (aC 13) AC)))) (AB (B_ BQ (aC 1) (bT (CH K) (AB (AA 6) (AB (aC 3) (AB (aC 3) AC))))) AC))) AC))) (AG 8) { D with nx:=P } [some (.ref a),some (.ref w),some (.ref o),some (.ref B),some (.ref C),some (.ref f),some (.int b),some (.ref x),T,M] F:=λD T x lo F P s5 W l7 kk=>by
   refine G3 (B4 (Ak rfl (B4 (CZ (Ak rfl (G_ (G_ ⟨_,_,_,rfl,∅,∅,∅,λd d0 d1=>Af (G_ (CZ (Ak rfl (G_ (G_ ⟨_,_,_,rfl,∅,∅,∅,λe e0 e1=>⟨_,_,rfl,rfl,_,_,rfl,⋯,λt ht=>?_⟩⟩)))))⟩)))))));have i7:=tJ d0 d1 e0 e1;generalize AT d (1+e)=I at *;have st:=AQ ht (.tup [.int I.1,.int I.2]);obtain ⟨sm,le⟩:=tK l7 i7;have n2:Nb 1000000 I:=(Sm7.nb (q:=I) ⟨i7.low,by have:=i7.t;omega,by have:=i7.b;omega⟩).mono ∅;refine ⟨x,t,lo,I,rfl,⟨x,rfl,st _ _ W⟩,⟨t,rfl,upd_same⟩,l7.sm.nb.mono ∅,n2,λy X=>?_⟩;exact kk y (U_ lo I) _ (st.trans (AQ X _)) upd_same sm le
  refine BW (B4 (Af (CZ (Ak rfl (G_ (G_ ⟨_,_,_,rfl,∅,∅,∅,λd d0 d1=>G_ ⟨_,_,rfl,rfl,Af (G_ (CZ (Ak rfl (G_ (G_ ⟨_,_,_,rfl,∅,∅,∅,λe e0 e1=>⟨_,_,rfl,rfl,_,_,rfl,⋯,λx W=>?_⟩⟩)))))⟩⟩))))));have l7:=tI d0 d1 e0 e1;generalize AT (d - 9) (1+e)=lo at *;have sx:=AQ W (.tup [.int lo.1,.int lo.2]);have S:upd H4 x (.tup [.int lo.1,.int lo.2]) x=some (HO.tup [V.int lo.1,V.int lo.2]):=upd_same;generalize upd H4 x (.tup [.int lo.1,.int lo.2])=F at *;show SO K _ [some (.ref a),some (.ref w),some (.ref o),some (.ref B),some (.ref C),some (.ref f),some (.int b),some (.ref x),T,M] F;refine O _ T x lo F _ (s4.trans sx) S l7 λy A Y s6 X sh le=>?_;show SN K _ [some (.ref a),some (.ref w),some (.ref o),some (.ref B),some (.ref C),some (.ref f),some (.int b),some (.ref x),some (.ref y),M] Y;have aj:=s4.trans (sx.trans s6);refine Dy (show Cv _ _ _ _ _ from EY (Af ⟨_,rfl,Aa _,λe he=>?_⟩));have se:=AQ he (.lst []);have g:=aj.trans se;refine ⟨_,.list [],decide (as=[]),.lst (g _ _ ha) (T8 (pl.tp (V_ g))),.lst upd_same .nil,tF as,∅,?_,_,rfl,AV (λc1=>?_) (λ_=>AV (λy=>by cases y) (λ_=>a4 _ x y lo A _ g rfl (se _ _ (s6 _ _ S)) (se _ _ X) l7.sm sh le))⟩
  ·constructor
   ·intro z;rw [rB z];rfl
   ·intro z;refine rA ?_;injection z with z;exact List.map_eq_nil_iff.mp z
  have X:=se _ _ X;have S:=se _ _ (s6 _ _ S);generalize upd Y e (.lst [])=H7 at *;refine EY (Af (CZ (Ak rfl (G_ (G_ ⟨_,_,_,rfl,∅,∅,∅,λd4 ax b0=>G_ ⟨rfl,_,rfl,AV (λ_=>?_) (λ_=>a4 _ x y lo A _ g rfl S X l7.sm sh le)⟩⟩)))));have a0:as≠[]:=λz=>by rw [rA z] at c1;cases c1
  have ap:0<us.length:=by rw [ul];exact C3.mpr a0
  show SJ K _ _ _;refine BW (Af (Ak rfl (CZ (Ak rfl (G_ (Jh (Ak rfl ⟨o,us,rfl,g _ _ ha,⟨_,_,_,rfl,∅,∅,⋯,λd5 b1 b2=>?_⟩⟩)))))));obtain ⟨j,rfl⟩:∃ j:Nat,d5=(j:Int):=⟨d5.toNat,⋯⟩;have jl:j<us.length:=by omega
  obtain ⟨p,t,hp,et,ht⟩:=pl.get (Ag jl);obtain ⟨J,s1,rfl,al,b3,b6⟩:=pk.a p (Bu hp);refine Jg (g _ _ ha) (F4 (Ag jl)) ?_;rw [et];show SI K _ [some (.ref a),some (.ref w),some (.ref o),some (.ref B),some (.ref C),some (.ref f),some (.int b),some (.ref t),some (.ref y),M] H7;have a5:Nm H7 t J s1:=g _ _ ht;have ab:Lo7 (J,s1):=⟨al,by show J.natAbs<=9;omega,b3⟩;exact O _ _ t (J,s1) H7 _ g a5 ab λy' am H8 s8 an ao ar=>a4 _ t y' (J,s1) am H8 (g.trans s8) rfl (s8 _ _ a5) an ab.sm ao ar
 rintro σ H4 ⟨_,_,_,_,rfl,_⟩;exact k _
end Bs
namespace Bs
open PySem PySem.Spec PyProof.Rows L2
set_option maxHeartbeats 4000000
open Hd
structure Bl (K:W.Frag) (mg:dJ):Prop where
 abs:mg "abs" = none
 min:mg "min" = none
 len:mg "len" = none
 range:mg "range" = none
 list:mg "list" = none
 max:mg "max" = none
 any:mg "any" = none
 enumerate:mg "enumerate" = none
 zip:mg "zip" = none
 EXPONENTS:mg "EXPONENTS" = some (.ref (GN K))
 tuple:mg "tuple" = none
 reversed:mg "reversed" = none
 int:mg "int" = none
 isinstance:mg "isinstance" = none
 bool:mg "bool" = none
 xEXPONENTS:∀ H:Hp,SqT K H (GN K) (exps.map λe:Nat=>V.int (e:Int))
section
variable {P:Program} {w:World} {K:W.Frag} {mg:dJ} {base:Heap} {f:Addr} {fd:FuncData}
def M_ {n:Str} {st:Stmt} {N ps:dM} {k:Nat} {sp:Sp} {t:TS} (F:Fun K n n st f fd) (v:∀ {c:dz} {H:Hp} {Q:VK} {E:XK},sp c H Q E->t (eC Q) (start N c) H) (d:∀ {a:Value} {A:Around} {b:List Env} {s:Shared} {H:Hp} {E:XK} (e:Room k (A.deeper (envOfC n (Cw st) s.heap.objs.size f a))) (j:N.Nodup) (m:(A.deeper (envOfC n (Cw st) s.heap.objs.size f a)).units<cLine) (g:(A.deeper (envOfC n (Cw st) s.heap.objs.size f a)).units+64<cLine),PSs (F1 aQ P w K mg base N n (Cw st) f a A b s H E).nox (EE st) t) (S:FnScope N ps (Cw st):=by exact ⟨rfl,rfl,rfl,by decide +kernel,rfl,by decide +kernel,by decide +kernel⟩) (len:∀ c H Q E,sp c H Q E->c.length=ps.length:=by intro c H Q E h;repeat (first | (obtain ⟨rfl,_⟩:=h;rfl) | obtain ⟨_,h⟩:=h)):FnOk P w K mg base aQ (k+1) f fd ps sp:=F.ok S len λa A b s H c Q E e h=>⟨t,d e S.nd e.units0 e.units,v h⟩
def li {a:Prop} {b:Type} {x:b}:x=x\/a:=Or.inl rfl
end
set_option maxHeartbeats 4000000
open Hd
def M8 {K:W.Frag} {st:Stmt} {f c:Addr} {n:Str} {pm:Value} (l:K.lookup f=some (K_ n st pm c)) (e:W.codeIn K (.ref c) n=true) (k:W.keepIn K (.ref f)=true):Fun K n n st f (W.fnOf n n (Er st) (EE st) (Cw st) .none .none .none pm none (.ref c) .none):=VX (st:=st) l e k
def tM {P:Program} {K:W.Frag} {w:World} {h c:Heap} {d:dJ} {k:Nat} {f:Addr} {g:FuncData} {n:Str} {ps:dM} {sp:Sp} (X:K.In h) (G:h.Ns mainGlobals d) (ok:FnOk P w K d c aQ k f g ps sp) (b:Binds K g ps []) (e:W.keepIn K (.ref f)=true) (a:W.nsIn K mainGlobals n=some (some (.ref f))):Cal P w K d c k n ps sp:=⟨f,g,ok,b,e,W.mg_of X G a⟩
def Ij {a:dE} {n:Nat} (h:a.length=n+1):∃ x t,a=x::t/\t.length=n:=by cases a with | nil=>cases h | cons x t=>exact ⟨x,t,rfl,Nat.succ.inj h⟩
def T9 (a:dE) (h:a.length=1):∃ b,a=[b]:=by obtain ⟨x,t,rfl,q⟩:=Ij h;exact ⟨x,by rw [CM.mp q]⟩
def UA (b:dE) (h:b.length=2):∃ c a,b=[c,a]:=by obtain ⟨x,t,rfl,q⟩:=Ij h;obtain ⟨a,rfl⟩:=T9 t q;exact ⟨x,a,rfl⟩
def UB (c:dE) (h:c.length=3):∃ d a b,c=[d,a,b]:=by obtain ⟨x,t,rfl,q⟩:=Ij h;obtain ⟨a,b,rfl⟩:=UA t q;exact ⟨x,a,b,rfl⟩
def tN (d:dE) (h:d.length=4):∃ e a b c,d=[e,a,b,c]:=by obtain ⟨x,t,rfl,q⟩:=Ij h;obtain ⟨a,b,c,rfl⟩:=UB t q;exact ⟨x,a,b,c,rfl⟩
def tO (e:dE) (h:e.length=5):∃ f a b c d,e=[f,a,b,c,d]:=by obtain ⟨x,t,rfl,q⟩:=Ij h;obtain ⟨a,b,c,d,rfl⟩:=tN t q;exact ⟨x,a,b,c,d,rfl⟩
def At {P:Program} {K:W.Frag} {w:World} {h g:Heap} {i:dJ} {k:Nat} {f c:Addr} {n:Str} {ps:dM} {sp:Sp} {st:Stmt} {pm:Value} (X:K.In h) (G:h.Ns mainGlobals i) (ok:Fun K n n st f (W.fnOf n n (Er st) (EE st) (Cw st) .none .none .none pm none (.ref c) .none)->FnOk P w K i g aQ k f (W.fnOf n n (Er st) (EE st) (Cw st) .none .none .none pm none (.ref c) .none) ps sp) (l:K.lookup f=some (K_ n st pm c):=by kernel_rfl) (e:W.codeIn K (.ref c) n=true:=by kernel_rfl) (q:W.keepIn K (.ref f)=true:=by kernel_rfl) (a:W.nsIn K mainGlobals n=some (some (.ref f)):=by kernel_rfl) (b:∀ (kV j pm:Value) (o:Option Addr) (m p:Value) (d:dE),d.length=ps.length->bindArgs (W.fnOf n n (Er st) (EE st) (Cw st) .none kV j pm o m p) ⟨d,[]⟩=pure (ps.zip d):=by first | exact λ_ _ _ _ _ _ d hl=>by obtain ⟨_,rfl⟩:=T9 d hl;rfl | exact λ_ _ _ _ _ _ d hl=>by obtain ⟨_,_,rfl⟩:=UA d hl;rfl | exact λ_ _ _ _ _ _ d hl=>by obtain ⟨_,_,_,rfl⟩:=UB d hl;rfl | exact λ_ _ _ _ _ _ d hl=>by obtain ⟨_,_,_,_,_,rfl⟩:=tO d hl;rfl):Cal P w K i g k n ps sp:=tM X G (ok (M8 l e q)) ((M8 l e q).binds b) q a
abbrev N_ (P:Program) (w:World) (b:dJ) (a:Heap) (k:Nat) (n:Str) (ps:dM) (sp:W.Frag->Sp):Prop:=Cal P w (hp w.params) b a k n ps (sp (hp w.params))
section
variable {P:Program} {w:World} {mg:dJ} {base h:Heap} (X:(hp w.params).In h) (G:h.Ns mainGlobals mg) (B:Bl (hp w.params) mg)
include X G B
theorem GS:N_ P w mg base 1 "common_divisor" ["one","other"] Ev:=At (f:=22) (c:=21) (pm:=O_) (st:=VY) X G λF=>M_ F (Zl ) λb a d e=>(AH (EN PassesOwn.never (cR FE (pv 1) AD) (AH (D_ a (AI Us (pv 0) (pv 1))) (AH (D_ a (pv 1)) (AN (D_ a (pv 2)))))) (AN (Ac (A6 JH rfl B.abs JF (AE (pv 0) AL)))))
theorem tP:N_ P w mg base 1 "raised" ["whole","n"] Js:=At (f:=29) (c:=28) (pm:=O_) (st:=VZ) X G λF=>M_ F (Zm ) λb a d e=>(AH (D_ a AD) (AH (D_ a (pv 0)) (AH (EN PassesOwn.never (cR EQ (pv 1) AD) (AH (Bf (cR EO (AI DP (pv 1) AD) AD) (AN (DO (i:=2) a rfl li (pv 3) FF)) Be) (AH (DO (i:=1) a rfl li AD XG) (AN (Bf (cR EQ (pv 1) AD) (AN (DO (i:=3) a rfl li (pv 3) FF)) Be))))) (AN (Ac (pv 2))))))
theorem M9:N_ P w mg base 1 "row_trimmed" ["row"] G7:=At (f:=41) (c:=40) (pm:=O_) (st:=Vb) X G λF=>M_ F (Zq ) λb a d e=>(AH (D_ a (A6 Bv rfl B.len BR (AE (pv 0) AL))) (AH (EN PassesOwn.never (PW.pt (EA (cR EQ (pv 1) AD) (EM (cR EO (Bh BK (pv 0) (AI Bg (pv 1) AD) (λ_ _=>rfl)) AD)))) (AN (DO (i:=1) a rfl li AD HY))) (AN (Ac (HZ JM (pv 0) JB (F3 (pv 1)))))))
theorem UC:N_ P w mg base 1 "row_parted" ["row","divisor"] II:=At (f:=46) (c:=45) (pm:=O_) (st:=Vc) X G λF=>M_ F (Zz ) λa b d e=>(AN (Ac (EW (N:=["whole","divisor"]) (capt:=[none,some 1]) rfl (BlkOk.of rfl rfl rfl rfl (D9.mpr rfl) rfl rfl rfl) (DG (pv 0)) (λ_ _ _ _=>(A8 (i:=0) (show (["whole","divisor"]:dM).Nodup by decide +kernel) rfl li)) (λ_ _ _ _=>(AI Hl (pv 0) (pv 1))))))
theorem tQ:N_ P w mg base 1 "row_slope" ["row"] J4:=At (f:=51) (c:=50) (pm:=O_) (st:=Vd) X G λF=>M_ F (yN ) λa b d e=>(AN (Ac (EW (N:=["place","row"]) (capt:=[none,some 0]) rfl (BlkOk.of rfl rfl rfl rfl (D9.mpr rfl) rfl rfl rfl) (NQ rfl B.range (AE AD (AE (A6 Bv rfl B.len BR (AE (pv 0) AL)) AL))) (λ_ _ _ _=>(A8 (i:=0) (show (["place","row"]:dM).Nodup by decide +kernel) rfl li)) (λ_ _ _ _=>(AI Ay (pv 0) (Bh BK (pv 1) (pv 0) (λ_ _=>rfl)))))))
theorem NA:N_ P w mg base 1 "row_over" ["row","divisor"] G8:=At (f:=58) (c:=57) (pm:=O_) (st:=Ve) X G λF=>M_ F (Z4 ) λb a d e=>(AH (D_ a (F2 JN rfl B.list JG (AE (pv 0) AL))) (AH (D_ a (AI Bg (A6 Bv rfl B.len BR (AE (pv 1) AL)) AD)) (AH (D_ a (AI Hf (CW (AE AD AL)) (A6 (Hh rfl) rfl B.max Gi (AE (AI Bg (A6 Bv rfl B.len BR (AE (pv 0) AL)) (pv 3)) (AE AD AL))))) (AH (B9 PassesOwn.never rfl (JP rfl B.range (AE (AI Bg (AI Bg (A6 Bv rfl B.len BR (AE (pv 0) AL)) (pv 3)) AD) (AE (Bb Bc AD) (AE (Bb Bc AD) AL)))) (A8 (i:=5) a rfl li) (AH (D_ a (AI EU (Bh BK (pv 2) (AI B3 (pv 5) (pv 3)) (λ_ _=>rfl)) (Bh BK (pv 1) (Bb Bc AD) (λ_ _=>rfl)))) (AH (Bf (cR FE (AI Ay (pv 6) (Bh BK (pv 1) (Bb Bc AD) (λ_ _=>rfl))) (Bh BK (pv 2) (AI B3 (pv 5) (pv 3)) (λ_ _=>rfl))) (AN (Ac Ej)) Be) (AH (Fa (pv 6) (Fw (pv 4) (pv 5) Ep)) (AN (Bf (cR FE (pv 6) AD) (AN (B9 PassesOwn.never rfl (FD rfl B.range (AE (pv 3) AL)) (A8 (i:=7) a rfl li) (AN (Gb (pv 2) (AI B3 (pv 5) (pv 7)) Gn (AI Ay (pv 6) (Bh BK (pv 1) (pv 7) (λ_ _=>rfl))) HY Ep)))) Be)))))) (AN (Ac (FB (Dr (A6 (XY rfl) rfl B.any XX (AE (HZ JM (pv 2) JB (F3 (pv 3))) AL))) Ej (pv 4))))))))
theorem tR:N_ P w mg base 1 "root_exponent" ["row"] Lr:=At (f:=65) (c:=64) (pm:=O_) (st:=Vf) X G λF=>M_ F (xS ) λb a d e=>(AH (D_ a (CW AL)) (AH (B9 PassesOwn.never rfl (NQ rfl B.range (AE AD (AE (A6 Bv rfl B.len BR (AE (pv 0) AL)) AL))) (A8 (i:=2) a rfl li) (AH (D_ a (Bh BK (pv 0) (AI Bg (AI Bg (A6 Bv rfl B.len BR (AE (pv 0) AL)) AD) (pv 2)) (λ_ _=>rfl))) (AN (Bf (cR FE (pv 3) AD) (AN (Fv (F5 dR dS dU Ge (pv 1) (AE (Bb Bc (AI Hl (AI Bg (AI Bg (Kj PySem.F.plainAttrs_int PySem.F.slot_int_bit_length PyProof.Rows.type_int_bit_length OH (Bh BK (pv 0) (Bb Bc AD) (λ_ _=>rfl))) (Kj PySem.F.plainAttrs_int PySem.F.slot_int_bit_length PyProof.Rows.type_int_bit_length OH (pv 3))) AD) (pv 2))) AL)))) Be)))) (AN (Ac (AI B3 AD (Xn rfl B.max Gi (pv 1)))))))
theorem NC:N_ P w mg base 1 "row_moved" ["row","whole"] HD:=At (f:=77) (c:=76) (pm:=O_) (st:=Vh) X G λF=>M_ F (xT ) λb a d e=>(AH (D_ a (F2 JN rfl B.list JG (AE (pv 0) AL))) (AH (B9 PassesOwn.never rfl (FD rfl B.range (AE (AI Bg (A6 Bv rfl B.len BR (AE (pv 0) AL)) AD) AL)) (A8 (i:=3) a rfl li) (AN (B9 PassesOwn.never rfl (JP rfl B.range (AE (AI Bg (A6 Bv rfl B.len BR (AE (pv 0) AL)) AD) (AE (AI Bg (pv 3) AD) (AE (Bb Bc AD) AL)))) (A8 (i:=4) a rfl li) (AN (Gb (pv 2) (pv 4) Gn (AI Ay (pv 1) (Bh BK (pv 2) (AI B3 (pv 4) AD) (λ_ _=>rfl))) HX Ep))))) (AN (Ac (pv 2)))))
theorem tS:N_ P w mg base 1 "inverse_modulo" ["whole","prime"] Ju:=At (f:=108) (c:=107) (pm:=O_) (st:=Vm) X G λF=>M_ F (Z8 ) λb a d e=>(AH (D_ a (pv 1)) (AH (D_ a (AI DP (pv 0) (pv 1))) (AH (D_ a AD) (AH (D_ a AD) (AH (EN PassesOwn.never (cR FE (pv 3) AD) (AH (D_ a (AI Hl (pv 2) (pv 3))) (AH (D_ a (AI Bg (pv 2) (AI Ay (pv 6) (pv 3)))) (AH (D_ a (pv 3)) (AH (D_ a (pv 7)) (AH (D_ a (AI Bg (pv 4) (AI Ay (pv 6) (pv 5)))) (AH (D_ a (pv 5)) (AN (D_ a (pv 7)))))))))) (AN (Ac (AI DP (pv 4) (pv 1)))))))))
theorem tT:N_ P w mg base 1 "rests_modulo" ["row","prime"] Jv:=At (f:=113) (c:=112) (pm:=O_) (st:=Vn) X G λF=>M_ F (Z5 ) λa b d e=>(AN (Ac (EW (N:=["whole","prime"]) (capt:=[none,some 1]) rfl (BlkOk.of rfl rfl rfl rfl (D9.mpr rfl) rfl rfl rfl) (DG (pv 0)) (λ_ _ _ _=>(A8 (i:=0) (show (["whole","prime"]:dM).Nodup by decide +kernel) rfl li)) (λ_ _ _ _=>(AI DP (pv 0) (pv 1))))))
theorem tU:N_ P w mg base 1 "nearest" ["whole","prime"] Jz:=At (f:=153) (c:=152) (pm:=O_) (st:=Vt) X G λF=>M_ F (zA ) λb a d e=>(AH (D_ a (AI DP (pv 0) (pv 1))) (AN (Ac (FB (cR EQ (AI Ay AD (pv 2)) (pv 1)) (AI Bg (pv 2) (pv 1)) (pv 2)))))
theorem Kb:N_ P w mg base 1 "before" ["one","other"] GP:=At (f:=198) (c:=197) (pm:=bO) (st:=V3) X G λF=>M_ F (xP ) λa b d e=>(AN (Ac (Fx Dt (AI Ay (xI AY (pv 0)) (xI AY (pv 1))) (AI Ay (xI AY (pv 1)) (xI AY (pv 0))) (T' _))))
theorem ND:N_ P w mg base 1 "poly" ["row"] HB:=At (f:=205) (c:=204) (pm:=ay) (st:=V4) X G λF=>M_ F (Zo ) λb a d e=>(AH (D_ a (A6 Bv rfl B.len BR (AE (pv 0) AL))) (AH (EN PassesOwn.never (PW.pt (EA (cR EQ (pv 1) AD) (EM (cR EO (xI AY (Bh BK (pv 0) (AI Bg (pv 1) AD) (λ_ _=>rfl))) AD)))) (AN (DO (i:=1) a rfl li AD HY))) (AN (Ac (F2 OB rfl B.tuple N5 (AE (HZ JM (pv 0) JB (F3 (pv 1))) AL))))))
theorem tV:N_ P w mg base 1 "halved" ["row"] Lu:=At (f:=288) (c:=287) (pm:=a_) (st:=WH) X G λF=>M_ F (xY ) λb a d e=>(AH (Eo (i:=1) a rfl (Or.inr rfl) (AI Bg (A6 Bv rfl B.len BR (AE (pv 0) AL)) AD)) (AN (Ac (EW (N:=["place","whole","last"]) (capt:=[none,none,some 1]) rfl (BlkOk.of rfl rfl rfl rfl (D9.mpr rfl) rfl rfl rfl) (N9 rfl B.enumerate (AE (pv 0) AL)) (λ_ _ _ _=>(JO rfl (Em (A8 (i:=0) (show (["place","whole","last"]:dM).Nodup by decide +kernel) rfl li) (Em (A8 (i:=1) (show (["place","whole","last"]:dM).Nodup by decide +kernel) rfl li) Ir)))) (λ_ _ _ _=>(AI K4 (pv 1) (AI Bg (pv 2) (pv 0))))))))
theorem tW:N_ P w mg base 1 "sign_changes" ["row"] Ls:=At (f:=295) (c:=294) (pm:=a_) (st:=WI) X G λF=>M_ F (xV ) λb a d e=>(AH (D_ a AD) (AH (D_ a AD) (AH (B9 PassesOwn.never rfl (DG (pv 0)) (A8 (i:=3) a rfl li) (AN (Bf (cR FE (pv 3) AD) (AH (Bf (cR Dt (AI Ay (pv 2) (pv 3)) AD) (AN (DO (i:=1) a rfl li AD HX)) Be) (AN (D_ a (FB (cR EQ (pv 3) AD) AD (Bb Bc AD))))) Be))) (AN (Ac (pv 1))))))
theorem tX:N_ P w mg base 1 "_law_at" ["_law_script","_law_k"] Ly:=At (f:=309) (c:=308) (pm:=Y_) (st:=WK) X G λF=>M_ F (wY ) λa b d e=>(AH (Bf (Uw NX Dt AD (pv 1) (A6 W3 rfl B.len BR (AE (pv 0) AL))) (AN (Ac (Bh W0 (pv 0) (pv 1) (λ_ _=>rfl)))) Be) (AN (Ac AD)))
theorem Cj:N_ P w mg base 1 "_law_draw" ["_law_cell","_law_k","_law_many"] CH:=At (f:=316) (c:=315) (pm:=Y_) (st:=WL) X G λF=>M_ F (wZ ) λb a d e=>(AH (Bf (PW.pt (EA (cR EQ (pv 0) (AI Wz AD AD)) (EM (cR Dt (pv 2) AD)))) (AN (Ac (AI DP (AI DP (AI Xh (pv 0) (AI Ay AD (pv 1))) AD) (pv 2)))) Be) (AH (D_ a (AI DP (AI Ay (AI B3 (AI B3 (AI DP (pv 0) AD) (AI Ay (AI Ay (pv 1) (pv 1)) AD)) AD) AD) AD)) (AN (Ac (AI DP (AI Wy (AI DP (AI Ay (pv 3) (pv 3)) AD) AD) (pv 2))))))
theorem HP:N_ P w mg base 1 "_law_number" ["_law_top","_law_bottom_here"] FO:=At (f:=323) (c:=322) (pm:=Y_) (st:=WM) X G λF=>M_ F (vA ) λb a d e=>(AH (NO (i:=2) (j:=3) rfl a rfl rfl ∅ rfl rfl (AE (A6 JH rfl B.abs JF (AE (pv 0) AL)) (AE (A6 JH rfl B.abs JF (AE (pv 1) AL)) AL)) rfl) (AH (EN PassesOwn.never (cR EQ (pv 3) AD) (AN (NO (i:=2) (j:=3) rfl a rfl rfl ∅ rfl rfl (AE (pv 3) (AE (AI DP (pv 2) (pv 3)) AL)) rfl))) (AH (Bf (cR Dt (pv 1) AD) (AN (D_ a (Bb Bc (pv 2)))) Be) (AN (Ac (BY (AE (AI EU (pv 0) (pv 2)) (AE (AI EU (pv 1) (pv 2)) AL))))))))
theorem UD:N_ P w mg base 1 "_law_not_above" ["_law_one","_law_other"] J9:=At (f:=344) (c:=343) (pm:=Y_) (st:=WP) X G λF=>M_ F (vH ) λa b d e=>(AN (Ac (Fx NX (AI Ay (xI AY (pv 0)) (xI AY (pv 1))) (AI Ay (xI AY (pv 1)) (xI AY (pv 0))) (T' _))))
theorem UE:N_ P w mg base 1 "_law_below_root" ["_law_c","_law_s","_law_sign"] KC:=At (f:=372) (c:=371) (pm:=Y_) (st:=WS) X G λF=>M_ F (vM ) λb a d e=>(AH (D_ a (Fx Dt (AI Ay (xI AY (pv 0)) (xI AY (pv 0))) (AI Ay (AI Ay (pv 1) (xI AY (pv 0))) (xI AY (pv 0))) (T' _))) (AH (Bf (cR EQ (pv 2) AD) (AN (Ac (Uf (Fx Dt (xI AY (pv 0)) AD (T' _)) (NN (pv 3))))) Be) (AN (Ac (Ue (Fx Dt (xI AY (pv 0)) AD (T' _)) (NN (Ug (pv 3))))))))
theorem UF:N_ P w mg base 1 "_law_below_cube" ["_law_c","_law_s"] KD:=At (f:=379) (c:=378) (pm:=Y_) (st:=WT) X G λF=>M_ F (vL ) λa b d e=>(AN (Ac (Fx Dt (AI Ay (AI Ay (xI AY (pv 0)) (xI AY (pv 0))) (xI AY (pv 0))) (AI Ay (AI Ay (AI Ay (pv 1) (xI AY (pv 0))) (xI AY (pv 0))) (xI AY (pv 0))) (T' _))))
theorem UG:N_ P w mg base 2 "content" ["row","start"] IH:=At (f:=34) (c:=33) (pm:=O_) (st:=Va) X G λF=>M_ F (Zy ) λb a d e=>(AH (D_ a ((GS X G B).q2 b (Xo rfl B.min Wt (Xs (N:=["whole"]) (capt:=[none]) rfl (BlkOk.of rfl rfl rfl rfl (λ_ h=>nomatch h) rfl rfl rfl) (DG (pv 0)) (λ_ _ _ _=>(A8 (i:=0) (show (["whole"]:dM).Nodup by decide +kernel) rfl li)) (λ_ _ _ _=>(cR FE (pv 0) AD)) (λ_ _ _ _=>(A6 JH rfl B.abs JF (AE (pv 0) AL))))) (pv 1))) (AH (B9 PassesOwn.never rfl (DG (pv 0)) (A8 (i:=3) a rfl li) (AH (Bf (cR EO (pv 2) AD) (AN (Ac AD)) Be) (AN (D_ a ((GS X G B).q2 b (pv 3) (pv 2)))))) (AN (Ac (pv 2)))))
theorem UH:N_ P w mg base 2 "row_less" ["row","factor","other","weight","shift"] IJ:=At (f:=70) (c:=69) (pm:=O_) (st:=Vg) X G λF=>M_ F (Z1 ) λb a d e=>(AH (OT (i:=5) (N:=["whole","factor"]) (capt:=[none,some 1]) a rfl li rfl (BlkOk.of rfl rfl rfl rfl (D9.mpr rfl) rfl rfl rfl) (DG (pv 0)) (λ_ _ _ _=>(A8 (i:=0) (show (["whole","factor"]:dM).Nodup by decide +kernel) rfl li)) (λ_ _ _ _=>(AI Ay (pv 1) (pv 0)))) (AH (Fv (F5 dR PySem.F.slot_list_extend PySem.F.type_list_extend VO (pv 5) (AE (AI Hf (CW (AE AD AL)) (AI Bg (AI B3 (A6 Bv rfl B.len BR (AE (pv 2) AL)) (pv 4)) (A6 Bv rfl B.len BR (AE (pv 0) AL)))) AL))) (AH (B9 PassesOwn.never rfl (N9 rfl B.enumerate (AE (pv 2) AL)) (JO rfl (Em (A8 (i:=6) a rfl li) (Em (A8 (i:=7) a rfl li) Ir))) (AN (Gb (pv 5) (AI B3 (pv 6) (pv 4)) Gn (AI Ay (pv 3) (pv 7)) HY Ep))) (AN (Ac ((M9 X G B).q1 b (pv 5)))))))
theorem NE:N_ P w mg base 2 "row_modulo" ["row","prime"] G9:=At (f:=120) (c:=119) (pm:=O_) (st:=Vo) X G λF=>M_ F (Z7 ) λa b d e=>(AN (Ac ((M9 X G B).q1 a ((tT X G B).q2 a (pv 0) (pv 1)))))
theorem NF:N_ P w mg base 2 "monic_modulo" ["row","prime"] HA:=At (f:=125) (c:=124) (pm:=O_) (st:=Vp) X G λF=>M_ F (Z9 ) λa b d e=>(AH (Bf (HS (F9 (pv 0) (λ_=>rfl))) (AN (Ac (CW AL))) Be) (AH (Eo (i:=2) b rfl (Or.inr rfl) ((tS X G B).q2 a (Bh BK (pv 0) (Bb Bc AD) (λ_ _=>rfl)) (pv 1))) (AN (Ac (EW (N:=["whole","prime","factor"]) (capt:=[none,some 1,some 2]) rfl (BlkOk.of rfl rfl rfl rfl (List.forall_mem_cons.mpr ⟨rfl,(D9.mpr rfl)⟩) rfl rfl rfl) (DG (pv 0)) (λ_ _ _ _=>(A8 (i:=0) (show (["whole","prime","factor"]:dM).Nodup by decide +kernel) rfl li)) (λ_ _ _ _=>(AI DP (AI Ay (pv 0) (pv 2)) (pv 1))))))))
theorem Ik:N_ P w mg base 2 "ratio" ["top","bottom"] Fj:=At (f:=177) (c:=176) (pm:=bO) (st:=Vy) X G λF=>M_ F (Zs ) λb a d e=>(AH (D_ a ((GS X G B).q2 b (pv 0) (pv 1))) (AH (Bf (cR Dt (pv 1) AD) (AN (D_ a (Bb Bc (pv 2)))) Be) (AN (Ac (BY (AE (AI EU (pv 0) (pv 2)) (AE (AI EU (pv 1) (pv 2)) AL)))))))
theorem HQ:N_ P w mg base 2 "cleared" ["P"] FN:=At (f:=210) (c:=209) (pm:=ay) (st:=V5) X G λF=>M_ F (Zt ) λb a d e=>(AH (Eo (i:=1) a rfl (Or.inr rfl) AD) (AH (B9 PassesOwn.never rfl (HV (pv 0)) (A8 (i:=2) a rfl li) (AN (DO (i:=1) a rfl (Or.inr rfl) (AI Hl (xI AY (pv 2)) ((GS X G B).q2 b (pv 1) (xI AY (pv 2)))) FF))) (AN (Ac (BY (AE (EW (N:=["number","bottom"]) (capt:=[none,some 1]) rfl (BlkOk.of rfl rfl rfl rfl (D9.mpr rfl) rfl rfl rfl) (HV (pv 0)) (λ_ _ _ _=>(A8 (i:=0) (show (["number","bottom"]:dM).Nodup by decide +kernel) rfl li)) (λ_ _ _ _=>(AI Ay (xI AY (pv 0)) (AI Hl (pv 1) (xI AY (pv 0)))))) (AE (pv 1) AL)))))))
theorem tY:N_ P w mg base 2 "stretched" ["row","start","end"] Lx:=At (f:=276) (c:=275) (pm:=a_) (st:=WF) X G λF=>M_ F (wC ) λb a d e=>(AH (D_ a (AI Ay (xI AY (pv 1)) (xI AY (pv 2)))) (AH (D_ a (F2 JN rfl B.list JG (AE (pv 0) AL))) (AH (D_ a AD) (AH (B9 PassesOwn.never rfl (JP rfl B.range (AE (AI Bg (A6 Bv rfl B.len BR (AE (pv 0) AL)) AD) (AE (Bb Bc AD) (AE (Bb Bc AD) AL)))) (A8 (i:=6) a rfl li) (AH (Gb (pv 4) (pv 6) Gn (pv 5) FF Ep) (AN (DO (i:=5) a rfl li (pv 3) FF)))) (AH (D_ a ((NC X G B).q2 b (pv 4) (AI Ay (xI AY (pv 1)) (xI AY (pv 2))))) (AH (D_ a AD) (AH (B9 PassesOwn.never rfl (FD rfl B.range (AE (A6 Bv rfl B.len BR (AE (pv 0) AL)) AL)) (A8 (i:=6) a rfl li) (AH (Gb (pv 4) (pv 6) Gn (pv 5) FF Ep) (AN (DO (i:=5) a rfl li (AI Bg (AI Ay (xI AY (pv 2)) (xI AY (pv 1))) (AI Ay (xI AY (pv 1)) (xI AY (pv 2)))) FF)))) (AN (Ac (pv 4))))))))))
theorem tZ:N_ P w mg base 2 "count_within" ["row"] Lv:=At (f:=283) (c:=282) (pm:=a_) (st:=WG) X G λF=>M_ F (wB ) λb a d e=>(AH (D_ a AD) (AH (D_ a (CW (AE (pv 0) AL))) (AH (EN PassesOwn.never (F9 (pv 2) (λ_=>rfl)) (AH (D_ a (Kj dR PySem.F.slot_list_pop PySem.F.type_list_pop VP (pv 2))) (AH (D_ a ((tW X G B).q1 b ((NC X G B).q2 b (Xi (pv 3) (Bb Bc AD)) AD))) (AH (Bf (cR EO (pv 4) AD) (AN (DO (i:=1) a rfl li AD HX)) Be) (AN (Bf (cR EQ (pv 4) AD) (AH (D_ a ((tV X G B).q1 b (pv 3))) (AH (D_ a ((NC X G B).q2 b (pv 5) AD)) (AH (Bf (cR EO (xI BK (pv 6)) AD) (AN (DO (i:=1) a rfl li AD HX)) Be) (AH (Fv (F5 dR dS dU Ge (pv 2) (AE (pv 5) AL))) (AN (Fv (F5 dR dS dU Ge (pv 2) (AE (pv 6) AL)))))))) Be)))))) (AN (Ac (pv 1))))))
theorem NG:N_ P w mg base 2 "_law_plus" ["_law_one","_law_other"] HE:=At (f:=330) (c:=329) (pm:=Y_) (st:=WN) X G λF=>M_ F (vF ) λa b d e=>(AN (Ac ((HP X G B).q2 a (AI B3 (AI Ay (xI AY (pv 0)) (xI AY (pv 1))) (AI Ay (xI AY (pv 1)) (xI AY (pv 0)))) (AI Ay (xI AY (pv 0)) (xI AY (pv 1))))))
theorem UI:N_ P w mg base 2 "_law_times" ["_law_one","_law_other"] J8:=At (f:=337) (c:=336) (pm:=Y_) (st:=WO) X G λF=>M_ F (vG ) λa b d e=>(AN (Ac ((HP X G B).q2 a (AI Ay (xI AY (pv 0)) (xI AY (pv 1))) (AI Ay (xI AY (pv 0)) (xI AY (pv 1))))))
theorem sB:N_ P w mg base 2 "_law_due" ["_law_places","_law_squares","_law_cubes","_law_low","_law_high"] L4:=At (f:=386) (c:=385) (pm:=Y_) (st:=WU) X G λF=>M_ F (tE ) λa b e d=>(AH (D_ b Xl) (AH (B9 PassesOwn.never rfl (DG (pv 2)) (A8 (i:=6) b rfl li) (AN (Bf (PW.pt (EA (Dr ((UF X G B).q2 a (pv 3) (pv 6))) (EM (HS (Dr ((UF X G B).q2 a (pv 4) (pv 6))))))) (AN (Fa GZ (Fw (pv 5) (BY (AE (pv 6) (AE AD (AE AD AL)))) (K5 d)))) Be))) (AH (B9 PassesOwn.never rfl (DG (pv 0)) (A8 (i:=7) b rfl li) (AN (Bf (PW.pt (EA (Dr ((UD X G B).q2 a (pv 3) (pv 7))) (EM (Dr ((UD X G B).q2 a (pv 7) (pv 4)))))) (AN (Fa GZ (Fw (pv 5) (pv 7) (K5 d)))) Be))) (AH (B9 PassesOwn.never rfl (DG (pv 1)) (A8 (i:=6) b rfl li) (AN (B9 PassesOwn.never rfl (HV (BY (AE (Bb Bc AD) (AE AD AL)))) (A8 (i:=8) b rfl li) (AN (Bf (PW.pt (EA (Dr ((UE X G B).q3 a (pv 3) (pv 6) (pv 8))) (EM (HS (Dr ((UE X G B).q3 a (pv 4) (pv 6) (pv 8))))))) (AN (Fa GZ (Fw (pv 5) (BY (AE (pv 6) (AE AD (AE (pv 8) AL)))) (K5 d)))) Be))))) (AN (Ac (A6 Xu rfl B.len BR (AE (pv 5) AL))))))))
theorem UJ:N_ P w mg base 3 "strand_shortened" ["strand"] IK:=At (f:=87) (c:=86) (pm:=O_) (st:=Vj) X G λF=>M_ F (zE ) λb a d e=>(AH (Eo (i:=1) a rfl (Or.inr rfl) AD) (AH (B9 PassesOwn.never rfl (DG (pv 0)) (A8 (i:=2) a rfl li) (AN (Eo (i:=1) a rfl (Or.inr rfl) ((UG X G B).q2 b (pv 2) (pv 1))))) (AN (Ac (EW (N:=["row","shared"]) (capt:=[none,some 1]) rfl (BlkOk.of rfl rfl rfl rfl (D9.mpr rfl) rfl rfl rfl) (DG (pv 0)) (λ_ _ _ _=>(A8 (i:=0) (show (["row","shared"]:dM).Nodup by decide +kernel) rfl li)) (λ_ _ _ _=>((UC X G B).q2 b (pv 0) (pv 1))))))))
theorem sC:N_ P w mg base 3 "split_modulo" ["row","divisor","modulus"] Jw:=At (f:=132) (c:=131) (pm:=O_) (st:=Vq) X G λF=>M_ F (zD ) λb a d e=>(AH (D_ a (F2 JN rfl B.list JG (AE (pv 0) AL))) (AH (D_ a (AI Bg (A6 Bv rfl B.len BR (AE (pv 1) AL)) AD)) (AH (D_ a (AI Hf (CW (AE AD AL)) (A6 (Hh rfl) rfl B.max Gi (AE (AI Bg (A6 Bv rfl B.len BR (AE (pv 0) AL)) (pv 4)) (AE AD AL))))) (AH (B9 PassesOwn.never rfl (JP rfl B.range (AE (AI Bg (AI Bg (A6 Bv rfl B.len BR (AE (pv 0) AL)) (pv 4)) AD) (AE (Bb Bc AD) (AE (Bb Bc AD) AL)))) (A8 (i:=6) a rfl li) (AH (D_ a (AI DP (Bh BK (pv 3) (AI B3 (pv 6) (pv 4)) (λ_ _=>rfl)) (pv 2))) (AH (Fa (pv 7) (Fw (pv 5) (pv 6) Ep)) (AN (Bf (cR FE (pv 7) AD) (AN (B9 PassesOwn.never rfl (FD rfl B.range (AE (pv 4) AL)) (A8 (i:=8) a rfl li) (AN (Gb (pv 3) (AI B3 (pv 6) (pv 8)) Gn (AI Ay (pv 7) (Bh BK (pv 1) (pv 8) (λ_ _=>rfl))) HY Ep)))) Be))))) (AN (Ac (BY (AE ((M9 X G B).q1 b (pv 5)) (AE ((NE X G B).q2 b (HZ JM (pv 3) JB (F3 (pv 4))) (pv 2)) AL)))))))))
theorem sD:N_ P w mg base 3 "times" ["one","other"] Lq:=At (f:=184) (c:=183) (pm:=bO) (st:=Vz) X G λF=>M_ F (yC ) λa b d e=>(AN (Ac ((Ik X G B).q2 a (AI Ay (xI AY (pv 0)) (xI AY (pv 1))) (AI Ay (xI AY (pv 0)) (xI AY (pv 1))))))
theorem sE:N_ P w mg base 3 "over" ["one","other"] J3:=At (f:=191) (c:=190) (pm:=bO) (st:=V0) X G λF=>M_ F (yZ ) λa b d e=>(AN (Ac ((Ik X G B).q2 a (AI Ay (xI AY (pv 0)) (xI AY (pv 1))) (AI Ay (xI AY (pv 0)) (xI AY (pv 1))))))
theorem UK:N_ P w mg base 3 "uncleared" ["row","bottom"] IN:=At (f:=215) (c:=214) (pm:=ay) (st:=V6) X G λF=>M_ F (Zu ) λa b d e=>(AN (Ac ((ND X G B).q1 a (EW (N:=["whole","bottom"]) (capt:=[none,some 1]) rfl (BlkOk.of rfl rfl rfl rfl (D9.mpr rfl) rfl rfl rfl) (DG (pv 0)) (λ_ _ _ _=>(A8 (i:=0) (show (["whole","bottom"]:dM).Nodup by decide +kernel) rfl li)) (λ_ _ _ _=>((Ik X G B).q2 a (pv 0) (pv 1)))))))
theorem UL:N_ P w mg base 3 "p_at" ["P","c"] IP:=At (f:=241) (c:=240) (pm:=ay) (st:=WA) X G λF=>M_ F (yU ) λb a d e=>(AH (D_ a ((HQ X G B).q1 b (pv 0))) (AH (D_ a AD) (AH (D_ a AD) (AH (B9 PassesOwn.never rfl (XO rfl B.reversed (AE (xI AY (pv 2)) AL)) (A8 (i:=5) a rfl li) (AH (D_ a (AI B3 (AI Ay (pv 3) (xI AY (pv 1))) (AI Ay (pv 5) (pv 4)))) (AN (DO (i:=4) a rfl li (xI AY (pv 1)) FF)))) (AN (Ac ((Ik X G B).q2 b (AI Ay (pv 3) (xI AY (pv 1))) (AI Ay (xI AY (pv 2)) (pv 4)))))))))
theorem Kc:N_ P w mg base 3 "_law_product" ["_law_one","_law_other"] FP:=At (f:=358) (c:=357) (pm:=Y_) (st:=WQ) X G λF=>M_ F (vN ) λb a d e=>(AH (D_ a (AI Hf (CW (AE (BY (AE AD (AE AD AL))) AL)) (AI Bg (AI B3 (A6 Bv rfl B.len BR (AE (pv 0) AL)) (A6 Bv rfl B.len BR (AE (pv 1) AL))) AD))) (AH (B9 PassesOwn.never rfl (FD rfl B.range (AE (A6 Bv rfl B.len BR (AE (pv 0) AL)) AL)) (A8 (i:=3) a rfl li) (AN (B9 PassesOwn.never rfl (FD rfl B.range (AE (A6 Bv rfl B.len BR (AE (pv 1) AL)) AL)) (A8 (i:=4) a rfl li) (AN (Fa ((NG X G B).q2 b (Bh BK (pv 2) (AI B3 (pv 3) (pv 4)) (λ_ _=>rfl)) ((UI X G B).q2 b (Bh BK (pv 0) (pv 3) (λ_ _=>rfl)) (Bh BK (pv 1) (pv 4) (λ_ _=>rfl)))) (Fw (pv 2) (AI B3 (pv 3) (pv 4)) Ep)))))) (AN (Ac (pv 2)))))
theorem sF:N_ P w mg base 4 "strand_rest" ["strand","other"] Jt:=At (f:=82) (c:=81) (pm:=O_) (st:=Vi) X G λF=>M_ F (zI ) λb a d e=>(AH (EN PassesOwn.never (cR NY (A6 Bv rfl B.len BR (AE (xI BK (pv 0)) AL)) (A6 Bv rfl B.len BR (AE (xI BK (pv 1)) AL))) (AH (Eo (i:=2) a rfl (Or.inr rfl) (AI Bg (A6 Bv rfl B.len BR (AE (xI BK (pv 0)) AL)) (A6 Bv rfl B.len BR (AE (xI BK (pv 1)) AL)))) (AH (D_ a (Bh BK (xI BK (pv 0)) (Bb Bc AD) (λ_ _=>rfl))) (AH (D_ a (Bh BK (xI BK (pv 1)) (Bb Bc AD) (λ_ _=>rfl))) (AH (D_ a ((GS X G B).q2 b (pv 3) (pv 4))) (AH (Eo (i:=6) a rfl (Or.inr rfl) (AI EU (pv 4) (pv 5))) (AH (Eo (i:=7) a rfl (Or.inr rfl) (AI EU (pv 3) (pv 5))) (AN (OT (i:=0) (N:=["row","follower","factor","weight","shift"]) (capt:=[none,none,some 6,some 7,some 2]) a rfl li rfl (BlkOk.of rfl rfl rfl rfl (List.forall_mem_cons.mpr ⟨rfl,(List.forall_mem_cons.mpr ⟨rfl,(D9.mpr rfl)⟩)⟩) rfl rfl rfl) (XW rfl B.zip (AE (pv 0) (AE (pv 1) AL))) (λ_ _ _ _=>(JO rfl (Em (A8 (i:=0) (show (["row","follower","factor","weight","shift"]:dM).Nodup by decide +kernel) rfl li) (Em (A8 (i:=1) (show (["row","follower","factor","weight","shift"]:dM).Nodup by decide +kernel) rfl li) Ir)))) (λ_ _ _ _=>((UH X G B).pe b ∅ rfl (AE (pv 0) (AE (pv 2) (AE (pv 1) (AE (pv 3) (AE (pv 4) AL)))))))))))))))) (AN (Ac ((UJ X G B).q1 b (pv 0)))))
theorem Ke:N_ P w mg base 4 "row_shortened" ["row"] GO:=At (f:=94) (c:=93) (pm:=O_) (st:=Vk) X G λF=>M_ F (zG ) λa b d e=>(AN (Ac (xI BK ((UJ X G B).q1 a (CW (AE (pv 0) AL))))))
theorem sG:N_ P w mg base 4 "rest_modulo" ["row","divisor","modulus"] Jx:=At (f:=139) (c:=138) (pm:=O_) (st:=Vr) X G λF=>M_ F (zB ) λa b d e=>(AN (Ac (xI AY ((sC X G B).q3 a (pv 0) (pv 1) (pv 2)))))
theorem UM:N_ P w mg base 4 "p_scaled" ["P","c"] IO:=At (f:=220) (c:=219) (pm:=ay) (st:=V7) X G λF=>M_ F (xB ) λa b d e=>(AN (Ac ((ND X G B).q1 a (EW (N:=["number","c"]) (capt:=[none,some 1]) rfl (BlkOk.of rfl rfl rfl rfl (D9.mpr rfl) rfl rfl rfl) (HV (pv 0)) (λ_ _ _ _=>(A8 (i:=0) (show (["number","c"]:dM).Nodup by decide +kernel) rfl li)) (λ_ _ _ _=>((sD X G B).q2 a (pv 0) (pv 1)))))))
theorem sI:N_ P w mg base 4 "p_split" ["P","Q"] J2:=At (f:=227) (c:=226) (pm:=ay) (st:=V8) X G λF=>M_ F (yY ) λb a d e=>(AH (D_ a ((HQ X G B).q1 b (pv 0))) (AH (D_ a ((HQ X G B).q1 b (pv 1))) (AH (D_ a (xI AY (pv 2))) (AH (D_ a (xI AY (pv 2))) (AH (D_ a (Bh BK (xI AY (pv 3)) (Bb Bc AD) (λ_ _=>rfl))) (AH (D_ a (AI Hf (CW (AE (BY (AE AD (AE AD AL))) AL)) (A6 (Hh rfl) rfl B.max Gi (AE (AI B3 (AI Bg (A6 JI rfl B.len BR (AE (pv 0) AL)) (A6 JI rfl B.len BR (AE (pv 1) AL))) AD) (AE AD AL))))) (AH (EN PassesOwn.never (cR NY (A6 Bv rfl B.len BR (AE (pv 4) AL)) (A6 JI rfl B.len BR (AE (pv 1) AL))) (AH (D_ a (AI Bg (A6 Bv rfl B.len BR (AE (pv 4) AL)) (A6 JI rfl B.len BR (AE (pv 1) AL)))) (AH (Fa ((Ik X G B).q2 b (AI Ay (Bh BK (pv 4) (Bb Bc AD) (λ_ _=>rfl)) (xI AY (pv 3))) (AI Ay (pv 5) (pv 6))) (Fw (pv 7) (pv 8) Ep)) (AH (D_ a ((GS X G B).q2 b (Bh BK (pv 4) (Bb Bc AD) (λ_ _=>rfl)) (pv 6))) (AH (D_ a ((UH X G B).pe b ∅ rfl (AE (pv 4) (AE (AI EU (pv 6) (pv 9)) (AE (xI AY (pv 3)) (AE (AI EU (Bh BK (pv 4) (Bb Bc AD) (λ_ _=>rfl)) (pv 9)) (AE (pv 8) AL))))))) (AH (DO (i:=5) a rfl li (AI EU (pv 6) (pv 9)) FF) (AH (D_ a ((UG X G B).q2 b (pv 4) (pv 5))) (AH (D_ a ((UC X G B).q2 b (pv 4) (pv 10))) (AN (DO (i:=5) a rfl li (pv 10) Xc)))))))))) (AN (Ac (BY (AE ((ND X G B).q1 b (pv 7)) (AE ((UK X G B).q2 b (pv 4) (pv 5)) AL))))))))))))
theorem sJ:N_ P w mg base 4 "_law_bottom" ["_law_cell"] L3:=At (f:=365) (c:=364) (pm:=Y_) (st:=WR) X G λF=>M_ F (uC ) λa b e d=>(AH (D_ b (CW AL)) (AH (D_ b (CW AL)) (AH (D_ b (CW (AE (BY (AE (AI B3 AD ((Cj X G B).q3 a (pv 0) AD AD)) (AE AD AL))) AL))) (AH (D_ b ((Cj X G B).q3 a (pv 0) AD AD)) (AH (B9 PassesOwn.never rfl (FD rfl B.range (AE (pv 4) AL)) (A8 (i:=5) b rfl li) (AH (D_ b ((HP X G B).q2 a (AI Bg ((Cj X G B).q3 a (pv 0) (AI B3 AD (pv 5)) AD) AD) (AI B3 AD ((Cj X G B).q3 a (pv 0) (AI B3 AD (pv 5)) AD)))) (AH (Fv (F5 dR dS dU Ge (pv 1) (AE (pv 6) AL))) (AN (B9 PassesOwn.never rfl (FD rfl B.range (AE (AI B3 AD (AI Ay (F2 W2 rfl B.int Ny (AE (Fx Dt (pv 4) AD (T' _)) AL)) ((Cj X G B).q3 a (pv 0) (AI B3 AD (pv 5)) AD))) AL)) (A8 (i:=7) b rfl li) (AN (D_ b ((Kc X G B).q2 a (pv 3) (CW (AE ((UI X G B).q2 a (pv 6) (BY (AE (Bb Bc AD) (AE AD AL)))) (AE (BY (AE AD (AE AD AL))) AL))))))))))) (AH (B9 PassesOwn.never rfl (FD rfl B.range (AE ((Cj X G B).q3 a (pv 0) AD AD) AL)) (A8 (i:=5) b rfl li) (AH (D_ b (Bh AY (BY (AE AD (AE AD (AE AD (AE AD (AE AD AL)))))) ((Cj X G B).q3 a (pv 0) (AI B3 AD (pv 5)) AD) (λ_ _=>rfl))) (AH (Fv (F5 dR dS dU Ge (pv 2) (AE (pv 8) AL))) (AN (D_ b ((Kc X G B).q2 a (pv 3) (CW (AE (BY (AE (Bb Bc (pv 8)) (AE AD AL))) (AE (BY (AE AD (AE AD AL))) (AE (BY (AE AD (AE AD AL))) AL)))))))))) (AH (D_ b (CW AL)) (AH (Bf (PW.pt (EA (cR Dt (pv 4) AD) (EA (cR (Kv d) (pv 2) (CW AL)) (EM (cR EO ((Cj X G B).q3 a (pv 0) AD AD) AD))))) (AH (Fv (F5 dR dS dU Ge (pv 9) (AE (AI Ay (Bh AY (BY (AE AD (AE AD (AE AD (AE AD AL))))) ((Cj X G B).q3 a (pv 0) AD AD) (λ_ _=>rfl)) (AI Bg AD (AI Ay AD ((Cj X G B).q3 a (pv 0) AD AD)))) AL))) (AN (D_ b ((Kc X G B).q2 a (pv 3) (CW (AE (BY (AE (Bb Bc (xI BK (pv 9))) (AE AD AL))) (AE (BY (AE AD (AE AD AL))) (AE (BY (AE AD (AE AD AL))) (AE (BY (AE AD (AE AD AL))) AL))))))))) Be) (AH (Bf (PW.pt (EA (cR Dt (A6 Bv rfl B.len BR (AE (pv 2) AL)) AD) (EM (cR EO ((Cj X G B).q3 a (pv 0) AD AD) AD)))) (AN (D_ b ((Kc X G B).q2 a (pv 3) (CW (AE (BY (AE (AI B3 AD ((Cj X G B).q3 a (pv 0) AD AD)) (AE AD AL))) (AE (BY (AE AD (AE AD AL))) (AE (BY (AE AD (AE AD AL))) AL))))))) Be) (AN (Ac (BY (AE (pv 3) (AE (pv 1) (AE (pv 2) (AE (pv 9) AL))))))))))))))))
theorem sK:N_ P w mg base 5 "strand_euclid" ["strand","other"] IL:=At (f:=101) (c:=100) (pm:=O_) (st:=Vl) X G λF=>M_ F (zJ ) λb a d e=>(AH (EN PassesOwn.never (F9 (xI BK (pv 1)) (λ_=>rfl)) (AH (Bf (cR EO (A6 Bv rfl B.len BR (AE (xI BK (pv 1)) AL)) AD) (AN (Ac (pv 1))) Be) (AH (D_ a ((sF X G B).q2 b (pv 0) (pv 1))) (AH (D_ a (pv 1)) (AN (D_ a (pv 2))))))) (AN (Ac (pv 0))))
theorem sM:N_ P w mg base 5 "euclid_modulo" ["row","other","prime"] Jy:=At (f:=146) (c:=145) (pm:=O_) (st:=Vs) X G λF=>M_ F (zC ) λa b d e=>(AH (D_ b ((NF X G B).q2 a ((NE X G B).q2 a (pv 0) (pv 2)) (pv 2))) (AH (D_ b ((NF X G B).q2 a ((NE X G B).q2 a (pv 1) (pv 2)) (pv 2))) (AH (EN PassesOwn.never (F9 (pv 1) (λ_=>rfl)) (AH (D_ b ((sG X G B).q3 a (pv 0) (pv 1) (pv 2))) (AH (D_ b (pv 1)) (AN (D_ b ((NF X G B).q2 a (pv 3) (pv 2))))))) (AN (Ac (pv 0))))))
theorem sO:N_ P w mg base 5 "evened" ["P","Q"] J6:=At (f:=255) (c:=254) (pm:=b_) (st:=WC) X G λF=>M_ F (xE ) λa b d e=>(AH (D_ b ((sE X G B).q2 a (BY (AE AD (AE AD AL))) (Bh AY (pv 1) (Bb Bc AD) (λ_ _=>rfl)))) (AN (Ac (BY (AE ((UM X G B).q2 a (pv 0) (pv 2)) (AE ((UM X G B).q2 a (pv 1) (pv 2)) AL))))))
theorem UN:N_ P w mg base 5 "quotient" ["P","Q"] HC:=At (f:=262) (c:=261) (pm:=b_) (st:=WD) X G λF=>M_ F (xC ) λa b d e=>(AN (Ac (xI AY ((sI X G B).q2 a (pv 0) (pv 1)))))
theorem sP:N_ P w mg base 6 "common_by_prime" ["row","other","prime"] J0:=At (f:=158) (c:=157) (pm:=O_) (st:=Vv) X G λF=>M_ F (zP ) λa b d e=>(AH (Eo (i:=3) b rfl (Or.inr rfl) ((GS X G B).q2 a (Bh BK (pv 0) (Bb Bc AD) (λ_ _=>rfl)) (Bh BK (pv 1) (Bb Bc AD) (λ_ _=>rfl)))) (AH (Bf (cR EO (AI DP (pv 3) (pv 2)) AD) (AN (Ac Ej)) Be) (AH (D_ b ((sM X G B).q3 a (pv 0) (pv 1) (pv 2))) (AH (D_ b ((Ke X G B).q1 a (EW (N:=["whole","prime","lead"]) (capt:=[none,some 2,some 3]) rfl (BlkOk.of rfl rfl rfl rfl (List.forall_mem_cons.mpr ⟨rfl,(D9.mpr rfl)⟩) rfl rfl rfl) (DG (pv 4)) (λ_ _ _ _=>(A8 (i:=0) (show (["whole","prime","lead"]:dM).Nodup by decide +kernel) rfl li)) (λ_ _ _ _=>((tU X G B).q2 a (AI Ay (pv 2) (pv 0)) (pv 1)))))) (AH (Bf (PW.pt (Im (cR JA ((NA X G B).q2 a (pv 0) (pv 5)) Ej) (Il (cR JA ((NA X G B).q2 a (pv 1) (pv 5)) Ej)))) (AN (Ac Ej)) Be) (AN (Ac (pv 5))))))))
theorem UO:N_ P w mg base 7 "row_common" ["row","other"] IM:=At (f:=165) (c:=164) (pm:=O_) (st:=Vw) X G λF=>M_ F (zU B.xEXPONENTS ) λa b d e=>(AH (D_ b ((Ke X G B).q1 a (pv 0))) (AH (D_ b ((Ke X G B).q1 a (pv 1))) (AH (Bf (PW.pt (EA (F9 (pv 0) (λ_=>rfl)) (EM (F9 (pv 1) (λ_=>rfl))))) (AN (B9 PassesOwn.never rfl (HV (Ud rfl B.EXPONENTS rfl)) (A8 (i:=4) b rfl li) (AH (D_ b ((sP X G B).q3 a (pv 2) (pv 3) (AI Bg ((tP X G B).q2 a AD (pv 4)) AD))) (AN (Bf (cR NZ (pv 5) Ej) (AN (Ac (pv 5))) Be))))) Be) (AN (Ac (xI BK ((sK X G B).q2 a (CW (AE (pv 2) AL)) (CW (AE (pv 3) AL)))))))))
theorem sQ:N_ P w mg base 8 "simple_row" ["row"] J5:=At (f:=170) (c:=169) (pm:=O_) (st:=Vx) X G λF=>M_ F (yR ) λa b d e=>(AH (D_ b ((Ke X G B).q1 a (pv 0))) (AH (D_ b ((NA X G B).q2 a (pv 1) ((UO X G B).q2 a (pv 1) ((tQ X G B).q1 a (pv 1))))) (AN (Ac (FB (cR EQ (Bh BK (pv 2) (Bb Bc AD) (λ_ _=>rfl)) AD) (pv 2) (EW (N:=["whole"]) (capt:=[none]) rfl (BlkOk.of rfl rfl rfl rfl (λ_ h=>nomatch h) rfl rfl rfl) (DG (pv 2)) (λ_ _ _ _=>(A8 (i:=0) (show (["whole"]:dM).Nodup by decide +kernel) rfl li)) (λ_ _ _ _=>(Bb Bc (pv 0)))))))))
theorem sU:N_ P w mg base 8 "common" ["P","Q"] J1:=At (f:=234) (c:=233) (pm:=ay) (st:=V9) X G λF=>M_ F (zY ) λa b d e=>(AH (D_ b ((UO X G B).q2 a (xI AY ((HQ X G B).q1 a (pv 0))) (xI AY ((HQ X G B).q1 a (pv 1))))) (AN (Ac (FB (F9 (pv 2) (λ_=>rfl)) ((UK X G B).q2 a (pv 2) (Bh BK (pv 2) (Bb Bc AD) (λ_ _=>rfl))) (BY AL)))))
theorem sV:N_ P w mg base 9 "fraction" ["P","Q"] L5:=At (f:=248) (c:=247) (pm:=b_) (st:=WB) X G λF=>M_ F (uM ) λa b d e=>(AH (D_ b ((sU X G B).q2 a (pv 0) (pv 1))) (AN (Ac ((sO X G B).q2 a ((UN X G B).q2 a (pv 0) (pv 2)) ((UN X G B).q2 a (pv 1) (pv 2))))))
theorem sW:N_ P w mg base 9 "count_between" ["P","low","high"] J7:=At (f:=269) (c:=268) (pm:=a_) (st:=WE) X G λF=>M_ F (wK ) λa b e d=>(AH (D_ b ((sQ X G B).q1 a (xI AY ((HQ X G B).q1 a (pv 0))))) (AH (D_ b ((tR X G B).q1 a (pv 3))) (AH (D_ b (BY (AE (AI K4 AD (A6 (Hh rfl) rfl B.max Gi (AE (pv 4) (AE AD AL)))) (AE (AI K4 AD (A6 (Hh rfl) rfl B.max Gi (AE (Bb Bc (pv 4)) (AE AD AL)))) AL)))) (AH (D_ b (BY (AE (Bb Bc (xI AY (pv 5))) (AE (xI AY (pv 5)) AL)))) (AH (D_ b (FB (PW.pt (Im (cR JA (pv 1) Ej) (Il (Dr ((Kb X G B).q2 a (pv 1) (pv 6)))))) (pv 6) (pv 1))) (AH (D_ b (FB (PW.pt (Im (cR JA (pv 2) Ej) (Il (Dr ((Kb X G B).q2 a (pv 5) (pv 2)))))) (pv 5) (pv 2))) (AH (Bf (HS (Dr ((Kb X G B).q2 a (pv 7) (pv 8)))) (AN (Ac AD)) Be) (AH (D_ b ((tZ X G B).q1 a ((tY X G B).q3 a (pv 3) (pv 7) (pv 8)))) (AH (Bf (PW.pt (EA (cR NZ (pv 2) Ej) (EM (cR (Kv d) ((UL X G B).q2 a (pv 0) (pv 2)) (BY (AE AD (AE AD AL))))))) (AN (DO (i:=9) b rfl li AD HX)) Be) (AN (Ac (pv 9))))))))))))
theorem sX:N_ P w mg base 10 "holes" ["f","low","high"] L6:=At (f:=302) (c:=301) (pm:=mo5) (st:=WJ) X G λF=>M_ F (uE ) λa b e d=>(AH (D_ b (FB (cR (Kv d) ((UL X G B).q2 a (xI AY (pv 0)) (pv 1)) (BY (AE AD (AE AD AL)))) AD AD)) (AN (Ac (FB (Dr ((Kb X G B).q2 a (pv 1) (pv 2))) (AI B3 (pv 3) ((sW X G B).q3 a (xI AY (pv 0)) (pv 1) (pv 2))) (pv 3)))))
end
def all_mk {l:W.OpenLaw} {w:World} {h:Heap} {k:dJ} {o:Addr} (X:(hp w.params).In h) (G:h.Ns mainGlobals k) (m:k "law" = some (.ref o))
  : ∃ p:FuncData,(∀ (s:Shared) (v:Value),BindsTo s p ⟨[v],[]⟩ [("_law_script", v)])/\∀ g:Heap,(hp w.params).In g->g.Ns mainGlobals k->FnOk l.prog w (hp w.params) k g aQ 11 o p ["_law_script"] (Jr (hp w.params)):=by
 have e:=m.symm.trans (W.mg_of X G (n := "law") (v:=.ref 393) (by kernel_rfl));cases e;have a:GN (hp w.params)=15:=by kernel_rfl
 have d:∀ H:Hp,SqT (hp w.params) H (GN (hp w.params)) (exps.map λe:Nat=>V.int (e:Int)):=λH=>.inr ⟨_,_,_,(show (hp w.params).lookup (GN (hp w.params))=some ⟨.type "tuple", none,.seq #[(.int 61 189),(.int 127 190),(.int 521 191),(.int 1279 192),(.int 4423 193),(.int 9941 194),(.int 21701 195),(.int 44497 196)] 0,#[]⟩ by rw [a];kernel_rfl),rfl,rfl,by show 8<=sizeLine;rw [sizeLine_eq];decide,.cons ⟨_,rfl⟩ (.cons ⟨_,rfl⟩ (.cons ⟨_,rfl⟩ (.cons ⟨_,rfl⟩ (.cons ⟨_,rfl⟩ (.cons ⟨_,rfl⟩ (.cons ⟨_,rfl⟩ (.cons ⟨_,rfl⟩ (.nil))))))))⟩;have B:Bl (hp w.params) k:=⟨W.mg_none_of X G (by kernel_rfl),W.mg_none_of X G (by kernel_rfl),W.mg_none_of X G (by kernel_rfl),W.mg_none_of X G (by kernel_rfl),W.mg_none_of X G (by kernel_rfl),W.mg_none_of X G (by kernel_rfl),W.mg_none_of X G (by kernel_rfl),W.mg_none_of X G (by kernel_rfl),W.mg_none_of X G (by kernel_rfl),by rw [a];exact W.mg_of X G (by kernel_rfl),W.mg_none_of X G (by kernel_rfl),W.mg_none_of X G (by kernel_rfl),W.mg_none_of X G (by kernel_rfl),W.mg_none_of X G (by kernel_rfl),W.mg_none_of X G (by kernel_rfl),d⟩;have q:=M8 (K:=hp w.params) (st:=JC) (f:=393) (c:=392) (n := "law") (pm:=Y_) (by kernel_rfl) (by kernel_rfl) (by kernel_rfl);refine ⟨W.fnOf "law" "law" (Er JC) (EE JC) (Cw JC) .none .none .none Y_ none (.ref 392) .none,λs v=>.of_eq rfl,λg KB _=>?_⟩;exact M_ q (tL ) λb j u r=>(AH (Fa ((sJ X G B).q1 b ((tX X G B).q2 b (pv 0) AD)) (JO rfl (Em (A8 (i:=1) j rfl li) (Em (A8 (i:=2) j rfl li) (Em (A8 (i:=3) j rfl li) (Em (A8 (i:=4) j rfl li) Ir)))))) (AH (D_ j ((sV X G B).q2 b (BY (AE (BY (AE AD (AE AD AL))) AL)) (F2 OB rfl B.tuple N5 (AE (pv 1) AL)))) (AH (B9 PassesOwn.never rfl (DG (AI VQ (HZ Xd (pv 0) (F3 AD) (F3 AD)) (CW (AE AD AL)))) (A8 (i:=6) j rfl li) (AH (D_ j ((HP X G B).q2 b (AI Bg ((Cj X G B).q3 b (pv 6) AD AD) AD) (AI B3 AD ((Cj X G B).q3 b (pv 6) AD AD)))) (AH (D_ j ((NG X G B).q2 b (pv 7) ((HP X G B).q2 b ((Cj X G B).q3 b (pv 6) AD AD) (AI B3 AD ((Cj X G B).q3 b (pv 6) AD AD))))) (AH (Bf (PW.pt (EA (cR (XF r) (pv 2) (CW AL)) (EM (cR EO ((Cj X G B).q3 b (pv 6) AD AD) AD)))) (AH (D_ j (Bh BK (pv 2) ((Cj X G B).q3 b (pv 6) AD (A6 Bv rfl B.len BR (AE (pv 2) AL))) (λ_ _=>rfl))) (AN (D_ j ((NG X G B).q2 b (pv 7) ((HP X G B).q2 b ((Cj X G B).q3 b (pv 6) AD AD) (AI B3 AD ((Cj X G B).q3 b (pv 6) AD AD))))))) Be) (AH (D_ j ((sX X G B).q3 b (pv 5) (pv 7) (pv 8))) (AH (Bf (PW.pt (Im (HS (Dr (A6 OP rfl B.isinstance Nx (AE (pv 9) (AE (NM rfl B.int Ny rfl) AL))))) (Il (Dr (A6 OP rfl B.isinstance Nx (AE (pv 9) (AE (NM rfl B.bool Wu rfl) AL))))))) (AN (Ac GZ)) Be) (AN (Bf (cR FE (pv 9) ((sB X G B).pe b ∅ rfl (AE (pv 2) (AE (pv 3) (AE (pv 4) (AE (pv 7) (AE (pv 8) AL))))))) (AN (Ac GZ)) Be)))))))) (AN (Ac GZ)))))
def row_said {l:W.OpenLaw} (h:l.wellSaid=true):l.row.wellSaid=true:=by
 unfold W.OpenLaw.wellSaid at h;simp only [Dk] at h;exact h.1.1.1.1.1.1.1.1.1.1.1.1.1.1.1.1.1.1
def walk {l:W.OpenLaw} {q:Program} {loose:dM} {XP:(dJ)->Heap->Prop} {YP:World->Heap->Prop} {d:DefRec} {K:Params->W.Frag} (j:l.most=some 63) (e:d.params.defaults=[]) (m:importsNone q=true) (o:∀ w,(model l.prog w).prog.given.tree=none)
  (p:∀ (w:World) (h:Heap),YP w h->(K w.params).In h)
  (F:∀ (w:World) (c:dJ) (g:Addr) (h:Heap),(K w.params).In h->h.Ns mainGlobals c->c d.name=some (.ref g)->
   ∃ i:FuncData,(∀ (s:Shared) (u:Value),BindsTo s i ⟨[u],[]⟩ [("_law_script", u)])/\∀ b:Heap,(K w.params).In b->b.Ns mainGlobals c->FnOk l.prog w (K w.params) c b aQ 11 g i ["_law_script"] (Jr (K w.params))) :
  W.WalkO q loose XP YP l.row.toRowW d [] (λf r=>PySem.call f r):=
 L2.walk_of (n:=63) (k:=11) (x := "_law_script") (CX:=λ_=>aQ) (sp:=λw=>Jr (K w.params)) j ∅ e m o ⟨rfl,∅,∅⟩ p F (λ_ _ a v hl _ y=>⟨a,v,rfl,y,hl,λ_=>rfl⟩) λ_ _ _ _ _ z=>z
end Bs
open PySem PySem.W PyProof.Rows
set_option maxRecDepth 100000 in
set_option maxHeartbeats 0 in
theorem PySem.Challenge.cw_backslope_k77_holes_counted_holds : PySem.Challenge.rw_backslope_k77_holes_counted.Holds := by
  have a : PySem.Challenge.rw_backslope_k77_holes_counted.wellSaid = true := Bs.Hd.sd;refine ⟨a, ?_⟩;refine W.holds_open (q := Bs.Hd.vw) (loose := Bs.Hd.lo) (Xt := fun s => W.xlAt Bs.Hd.vw [] s && W.recOk (W.RowW.records (W.OpenRow.toRowW (W.OpenLaw.row PySem.Challenge.rw_backslope_k77_holes_counted))) s) (XP := W.XL Bs.Hd.vw []) (Yf := Bs.Hd.hk.obs) (Ya := Bs.Hd.hk.val) (YP := Bs.Hd.hk.says) (N := 3868) Bs.Hd.left Bs.Hd.hk.of Bs.Hd.hk.keeps (fun s e => W.xl_of s (Bool.and_eq_true_iff.mp e).1) W.XL.keeps (by rfl) (by rfl) (by rfl) (fun s e => W.recFacts_of (Bool.and_eq_true_iff.mp e).2) (by rfl) (Bs.row_said a) (by decide +kernel) ⟨rfl, rfl, rfl, rfl, rfl, by decide +kernel⟩ ?hw ?hc
  case hw => w_witness2
  case hc => exact Bs.walk (l := PySem.Challenge.rw_backslope_k77_holes_counted) (K := Bs.Hd.hp) rfl rfl (by decide +kernel) (fun _ => rfl) (fun w h Y => Y) (fun w d f h c G b => Bs.all_mk c G b)
#print axioms PySem.Challenge.cw_backslope_k77_holes_counted_holds


