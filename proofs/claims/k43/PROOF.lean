import PyProof.Rows.All
import Wide.All
import OpenK.AllK
import Wide.FinOn
import Lean
import PyProof.EqAt
import PyProof.EqKinds
import PyProof.TupleCall
import PySem.Challenge.RW_backslope_k43_parted_and_joined
local macro_rules | `(()) => `(by grind)
local macro_rules | `(tactic| ext) => `(tactic| grind)
local macro_rules | `(⋯) => `(by omega)
local macro_rules | `(∅) => `(by decide)
set_option Elab.async false
set_option linter.all false
set_option maxRecDepth 100000
def lZ:type_of% @if_neg:=@if_neg
def kA:type_of% @if_pos:=@if_pos
def kB:type_of% @decide_eq_true:=@decide_eq_true
def kC:type_of% @of_decide_eq_true:=@of_decide_eq_true
def kD:type_of% @decide_eq_false:=@decide_eq_false
def kE:type_of% @PySem.wpAny_bind:=@PySem.wpAny_bind
def kF:type_of% @PySem.wpAny_pure:=@PySem.wpAny_pure
def kG:type_of% @PySem.wpAny_mono:=@PySem.wpAny_mono
def kH:type_of% @Option.some.inj:=@Option.some.inj
def kI:type_of% @PySem.Heap.lt_size:=@PySem.Heap.lt_size
def kJ:type_of% @congrFun:=@congrFun
def AR:type_of% @List.length_map:=@List.length_map
def AT:type_of% @Nat.le_refl:=@Nat.le_refl
def AU:type_of% @List.getD_eq_getElem?_getD:=@List.getD_eq_getElem?_getD
def AV:type_of% @Int.ne_of_gt:=@Int.ne_of_gt
def Ae:type_of% @Nat.zero_le:=@Nat.zero_le
def Aq:type_of% @List.getElem?_map:=@List.getElem?_map
def Av:type_of% @Nat.lt_or_ge:=@Nat.lt_or_ge
def Az:type_of% @List.getElem?_eq_getElem:=@List.getElem?_eq_getElem
def A7:type_of% @Nat.le_trans:=@Nat.le_trans
def BI:type_of% @List.length_pos_iff:=@List.length_pos_iff
def BK:type_of% @List.size_toArray:=@List.size_toArray
def BL:type_of% @List.length_range:=@List.length_range
def BR:type_of% @List.mem_map:=@List.mem_map
def BV:type_of% @Int.mul_ne_zero:=@Int.mul_ne_zero
def BX:type_of% @Int.natAbs_mul:=@Int.natAbs_mul
def Bf:type_of% @List.getElem?_eq_none:=@List.getElem?_eq_none
def Bj:type_of% @List.mem_of_getElem?:=@List.mem_of_getElem?
def Bk:type_of% @Nat.mul_le_mul_right:=@Nat.mul_le_mul_right
def Bv:type_of% @Nat.ne_of_lt:=@Nat.ne_of_lt
def Bw:type_of% @List.getElem?_eq_some_iff:=@List.getElem?_eq_some_iff
def B4:type_of% @Nat.mul_le_mul:=@Nat.mul_le_mul
def B6:type_of% @Nat.mul_comm:=@Nat.mul_comm
def B7:type_of% @List.mem_singleton:=@List.mem_singleton
def CA:type_of% @List.length_eq_zero_iff:=@List.length_eq_zero_iff
def CB:type_of% @List.length_cons:=@List.length_cons
def CC:type_of% @List.mem_cons_self:=@List.mem_cons_self
def CD:type_of% @List.mem_cons_of_mem:=@List.mem_cons_of_mem
def CF:type_of% @Int.mul_pos:=@Int.mul_pos
def CG:type_of% @Rat.intCast_mul:=@Rat.intCast_mul
def CL:type_of% @Int.dvd_trans:=@Int.dvd_trans
def CM:type_of% @Nat.mul_le_mul_left:=@Nat.mul_le_mul_left
def CP:type_of% @Nat.lt_of_lt_of_le:=@Nat.lt_of_lt_of_le
def CQ:type_of% @List.forall_mem_singleton:=@List.forall_mem_singleton
def CU:type_of% @Nat.le_of_lt:=@Nat.le_of_lt
def CV:type_of% @Nat.pow_succ:=@Nat.pow_succ
def Cc:type_of% @Bool.false_ne_true:=@Bool.false_ne_true
def Cd:type_of% @List.length_take:=@List.length_take
def Ce:type_of% @Nat.eq_zero_or_pos:=@Nat.eq_zero_or_pos
def Cf:type_of% @Int.emod_nonneg:=@Int.emod_nonneg
def Cg:type_of% @Rat.mul_eq_zero:=@Rat.mul_eq_zero
def Cl:type_of% @Nat.add_mul:=@Nat.add_mul
def Cq:type_of% @List.length_append:=@List.length_append
def Cr:type_of% @Int.dvd_add:=@Int.dvd_add
def Ct:type_of% @Int.natAbs_natCast:=@Int.natAbs_natCast
def Cu:type_of% @Int.dvd_zero:=@Int.dvd_zero
def Cv:type_of% @List.forall_mem_cons:=@List.forall_mem_cons
def C3:type_of% @Nat.pow_add:=@Nat.pow_add
def C4:type_of% @Int.emod_lt_of_pos:=@Int.emod_lt_of_pos
def C5:type_of% @Int.natAbs_dvd_natAbs:=@Int.natAbs_dvd_natAbs
def DH:type_of% @Nat.lt_irrefl:=@Nat.lt_irrefl
def DI:type_of% @Nat.lt_of_le_of_lt:=@Nat.lt_of_le_of_lt
def DJ:type_of% @Nat.sub_zero:=@Nat.sub_zero
def DQ:type_of% @List.mem_append_right:=@List.mem_append_right
def DR:type_of% @Int.toNat_natCast:=@Int.toNat_natCast
def DS:type_of% @List.take_length:=@List.take_length
def DT:type_of% @Int.pow_zero:=@Int.pow_zero
def DU:type_of% @List.getElem?_range:=@List.getElem?_range
def De:type_of% @Int.le_of_lt:=@Int.le_of_lt
def Df:type_of% @Int.pow_succ:=@Int.pow_succ
def Dg:type_of% @Rat.pow_succ:=@Rat.pow_succ
def Dr:type_of% @List.length_replicate:=@List.length_replicate
def Ds:type_of% @List.map_cons:=@List.map_cons
def Dt:type_of% @Int.pow_pos:=@Int.pow_pos
def D8:type_of% @List.mem_cons:=@List.mem_cons
def EA:type_of% @List.mem_append:=@List.mem_append
def EB:type_of% @List.getElem?_append_right:=@List.getElem?_append_right
def EC:type_of% @List.getElem?_replicate:=@List.getElem?_replicate
def ED:type_of% @Int.gcd_dvd_right:=@Int.gcd_dvd_right
def EE:type_of% @Nat.lt_succ_self:=@Nat.lt_succ_self
def EF:type_of% @List.map_append:=@List.map_append
def EG:type_of% @Nat.mod_eq_of_lt:=@Nat.mod_eq_of_lt
def Ec:type_of% @List.mem_range:=@List.mem_range
def Ed:type_of% @Nat.pow_le_pow_right:=@Nat.pow_le_pow_right
def Ee:type_of% @Int.fdiv_eq_ediv_of_nonneg:=@Int.fdiv_eq_ediv_of_nonneg
def Ef:type_of% @Nat.le_antisymm:=@Nat.le_antisymm
def Eg:type_of% @Bool.and_eq_true:=@Bool.and_eq_true
def Eh:type_of% @List.getElem_mem:=@List.getElem_mem
def Ei:type_of% @Nat.le_of_dvd:=@Nat.le_of_dvd
def Ej:type_of% @List.map_congr_left:=@List.map_congr_left
def Ey:type_of% @Int.gcd_dvd_left:=@Int.gcd_dvd_left
def Ez:type_of% @Nat.div_eq_of_lt:=@Nat.div_eq_of_lt
def E2:type_of% @Nat.add_sub_cancel:=@Nat.add_sub_cancel
def E3:type_of% @Int.dvd_mul_of_dvd_right:=@Int.dvd_mul_of_dvd_right
def FT:type_of% @List.filterMap_cons:=@List.filterMap_cons
def FU:type_of% @List.getElem?_append_left:=@List.getElem?_append_left
def FV:type_of% @List.all_eq_true:=@List.all_eq_true
def FW:type_of% @List.take_add_one:=@List.take_add_one
def FX:type_of% @List.getLast?_eq_getElem?:=@List.getLast?_eq_getElem?
def FY:type_of% @List.getD_cons_succ:=@List.getD_cons_succ
def FZ:type_of% @List.ext_getElem?:=@List.ext_getElem?
def GG:type_of% @List.replicate_succ:=@List.replicate_succ
def GH:type_of% @Int.dvd_mul_of_dvd_left:=@Int.dvd_mul_of_dvd_left
def GI:type_of% @List.getElem_of_mem:=@List.getElem_of_mem
def GJ:type_of% @Int.mul_ediv_cancel_left:=@Int.mul_ediv_cancel_left
def GK:type_of% @List.dropLast_concat_getLast:=@List.dropLast_concat_getLast
def GN:type_of% @Int.mul_ediv_cancel':=@Int.mul_ediv_cancel'
def HE:type_of% @Nat.le_mul_of_pos_left:=@Nat.le_mul_of_pos_left
def IK:type_of% @Int.mul_le_mul_of_nonneg_left:=@Int.mul_le_mul_of_nonneg_left
abbrev dq:=List Int
abbrev du:=List PySem.Value
abbrev dw:=PySem.Value->PySem.Shared->Prop
abbrev dC:=List (PySem.Addr×PySem.Obj)
abbrev dE:=PySem.Str->Option PySem.Value
abbrev dF:=List PySem.Expr
abbrev dH:=List PySem.Str
abbrev dI:=Option PySem.Value
abbrev dJ:=List PySem.Addr
abbrev dL:=Nat->Int
abbrev dM:=Nat->Rat
namespace L2
open PySem PySem.Spec PyProof.Rows
noncomputable abbrev ah:=Sum Int Str
noncomputable def OW:ah->Value->Bool
 | .inl k,v=>Value.isInt k v
 | .inr x,v=>Value.isStrOf x v
noncomputable def Vp (w:World):ah->Int
 | .inl k=>hashInt k
 | .inr x=>hashStr w x
theorem E4:∀ {k:ah} {v:Value},OW k v=true->(∃ i t,k=Sum.inl i/\v=Value.int i t)\/(∃ x t,k=Sum.inr x/\v=Value.str x t)
 | .inl i,v,h=>by
   obtain ⟨t,e⟩:=Value.isInt_shape (k:=i) (v:=v) h;exact .inl ⟨i,t,rfl,e⟩
 | .inr x,v,h=>by
   obtain ⟨t,e⟩:=Value.isStrOf_shape (x:=x) (v:=v) h;exact .inr ⟨x,t,rfl,e⟩
def Vq (a b:Int):decide ((Sum.inl a:ah)=Sum.inl b)=(a == b):=by
 by_cases e:a=b
 ·subst e;simp
 ·have h:¬ (Sum.inl a:ah)=Sum.inl b:=λq=>e (Sum.inl.inj q);rw [kD h];exact (beq_eq_false_iff_ne.mpr e).symm
def Vr (a b:Str):decide ((Sum.inr a:ah)=Sum.inr b)=decide (a=b):=by
 by_cases e:a=b
 ·subst e;simp
 ·have h:¬ (Sum.inr a:ah)=Sum.inr b:=λq=>e (Sum.inr.inj q);rw [kD h,kD e]
def Vs (a:Int) (b:Str):decide ((Sum.inl a:ah)=Sum.inr b)=false:=kD (λq=>nomatch q)
def Vt (a:Str) (b:Int):decide ((Sum.inr a:ah)=Sum.inl b)=false:=kD (λq=>nomatch q)
noncomputable def LN (prog:Program) (w:World):PySem.KeyKind prog w ah where
 is:=OW
 hash:=Vp w
 inj:=λv a b g f=>by
  rcases E4 g with ⟨i,t,rfl,rfl⟩ | ⟨x,t,rfl,rfl⟩
  ·rcases E4 f with ⟨j,u,rfl,e⟩ | ⟨y,u,rfl,e⟩
   ·injection e with c _;rw [c]
   ·exact nomatch e
  ·rcases E4 f with ⟨j,u,rfl,e⟩ | ⟨y,u,rfl,e⟩
   ·exact nomatch e
   ·injection e with c _;rw [c]
 byValue:=λk v h=>by
  rcases E4 h with ⟨i,t,rfl,rfl⟩ | ⟨x,t,rfl,rfl⟩ <;> rfl
 pyHash:=λd h=>by
  rcases E4 d with ⟨i,t,rfl,rfl⟩ | ⟨x,t,rfl,rfl⟩
  ·exact wpAny_pyHash_int h
  ·exact wpAny_pyHash_str h
 eqBool:=λm d h=>by
  rcases E4 m with ⟨i,t,rfl,rfl⟩ | ⟨x,t,rfl,rfl⟩
  ·rcases E4 d with ⟨j,u,rfl,rfl⟩ | ⟨y,u,rfl,rfl⟩
   ·rw [Vq] at h;exact wpAny_eqBool_int h
   ·rw [Vs] at h;exact SeqAt.EqAt.int_str i t y u _ _ _ _ h
  ·rcases E4 d with ⟨j,u,rfl,rfl⟩ | ⟨y,u,rfl,rfl⟩
   ·rw [Vt] at h;exact SeqAt.EqAt.str_int x t j u _ _ _ _ h
   ·rw [Vr] at h;exact wpAny_eqBool_str h
 «strs»:=λk x t v h=>by
  rcases E4 h with ⟨i,u,rfl,e⟩ | ⟨y,u,rfl,e⟩
  ·exact nomatch e
  ·injection e with c _
   subst c
   cases v <;> rfl
inductive V where
 | non | bl (b:Bool) | int (i:Int) | str (x:Str) | byt (b:Array UInt8) | flt (b:UInt64) | ref (a:Addr) | ty (n:String)
 deriving DecidableEq
noncomputable def RelV:V->Value->Prop
 | .non,u=>u=Value.none
 | .bl b,u=>u=Value.bool b
 | .int i,u=>∃ t,u=Value.int i t
 | .str x,u=>∃ t,u=Value.str x t
 | .byt b,u=>∃ t,u=Value.bytes b t
 | .flt b,u=>∃ t,u=Value.float b t
 | .ref a,u=>u=Value.ref a
 | .ty n,u=>u=Value.type n
abbrev Vals:List V->du->Prop:=Paired RelV
def Vals.length {xs:List V} {a:du} (r:Vals xs a):xs.length=a.length:=Paired.length r
theorem Vals.get:∀ {xs:List V} {a:du} {i:Nat} {x:V},Vals xs a->xs[i]?=some x->∃ u,a[i]?=some u/\RelV x u
 | _,_,_,_,.nil,e=>by simp at e
 | _,_,0,_,.cons r _,e=>by simp at e;subst e;exact ⟨_,rfl,r⟩
 | _,_,i+1,x,.cons _ t,e=>by
   obtain ⟨u,b,c⟩:=Vals.get (i:=i) (x:=x) t (by simpa using e);exact ⟨u,by simpa using b,c⟩
theorem Vals.set {x:V} {u:Value} (r:RelV x u):∀ {xs:List V} {a:du} (i:Nat),Vals xs a->Vals (xs.set i x) (a.set i u)
 | _,_,_,.nil=>.nil
 | _,_,0,.cons _ t=>.cons r t
 | _,_,i+1,.cons q t=>.cons q (Vals.set r i t)
theorem Vals.append:∀ {xs a:List V} {b c:du},Vals xs b->Vals a c->Vals (xs++a) (b++c)
 | _,_,_,_,.nil,s=>s
 | _,_,_,_,.cons r t,s=>.cons r (Vals.append t s)
theorem Vals.take:∀ {xs:List V} {a:du} (n:Nat),Vals xs a->Vals (xs.take n) (a.take n)
 | _,_,0,_=>.nil
 | _,_,_+1,.nil=>.nil
 | _,_,n+1,.cons r t=>.cons r (Vals.take n t)
theorem Vals.drop:∀ {xs:List V} {a:du} (n:Nat),Vals xs a->Vals (xs.drop n) (a.drop n)
 | _,_,0,r=>r
 | _,_,_+1,.nil=>.nil
 | _,_,n+1,.cons _ t=>Vals.drop n t
noncomputable def LO:Option V->dI->Prop
 | some v,some u=>RelV v u
 | none,none=>True
 | _,_=>False
def KV {a:Type}:List (a×V)->List (a×Value)->Prop:=Paired λ(p:a×V) (q:a×Value)=>p.1=q.1/\RelV p.2 q.2
noncomputable def kV:ah->V
 | .inl i=>.int i
 | .inr x=>.str x
inductive HO where

 | lst (xs:List V)

 | tup (xs:List V)

 | dK (kvs:List (ah×V)) | dT (kvs:List (List ah×V))

 | set (S:Int->Bool) (n:Nat)

 | ins (C dx:Addr) (fs:List (Str×V))

 | own (x:Addr)

 | xd (fs:List (Str×V))

 | met (f x:Addr)

 | rng (lo hi:Int)

 | frz (o:Obj) (u:HO)

 | tbl (ps:Array Value)

 | ext (φ:Heap->Prop)
noncomputable abbrev Hp:=Addr->Option HO
abbrev dl:=Option V
abbrev dj:=List V
noncomputable def upd (H:Hp) (a:Addr) (o:HO):Hp:=λb=>if b=a then some o else H b
def upd_same {H:Hp} {a:Addr} {o:HO}:upd H a o a=some o:=by unfold upd;rw [kA rfl]
def A8 {H:Hp} {a b:Addr} {o:HO} (h:b≠a):upd H a o b=H b:=by unfold upd;rw [lZ h]
def Vu {H:Hp} {a b:Addr} {o u:HO} (h:H a=some o) (h':H b=some u) (d:o≠u):a≠b:=by
 intro e;subst e;rw [h] at h';exact d (kH h')
def B5 {H:Hp} {a b:Addr} {o:HO} (h:H a=some o) (h':H b=none):a≠b:=by
 intro e;subst e;rw [h] at h';cases h'
section
variable (P:Program) (w:World)
noncomputable def ObjOk (H:Hp) (h:Heap) (a:Addr):HO->Prop
 | .lst c=>c.length<=sizeLine/\∃ (its:du) (n:Nat),Vals c its/\h.get? a=some { cls:=.type "list", data:=.seq its.toArray n }
 | .tup c=>c.length<=sizeLine/\∃ its:du,Vals c its/\IsTup h a its.toArray
 | .dK b=>b.length<=sizeLine/\(a == sysModules)=false/\∃ j,KV b j/\h.DictOf (LN P w) a j
 | .dT b=>b.length<=sizeLine/\(a == sysModules)=false/\∃ c:List (List ah×Addr×Value),
   Paired (λ(p:List ah×V) (q:List ah×Addr×Value)=>p.1=q.1/\H q.2.1=some (.tup (p.1.map kV))/\RelV p.2 q.2.2) b c/\
   ∃ o k y,h.get? a=some o/\o.ExactDict/\o.data=.dict k y/\k.toList=c.map (entryOfKey (tupleKind (LN P w)))/\(c.map (·.1)).Nodup
 | .set S n=>h.SetOf (intKind P w) a S n
 | .ins C g e=>H g=some (.own a)/\e.length<=1000/\g≠a/\h.get? a=some (W.instObj C g)/\
   ∃ d,h.Ns1 g d/\(∀ f,LO (e.lookup f) (d f))/\PySem.Within d (e.map (·.1))
 | .own _=>∃ o,h.get? a=some o
 | .xd e=>∃ d,h.Ns1 a d/\∀ f,LO (e.lookup f) (d f)
 | .rng lo z=>∃ t u v,h.get? a=some { cls:=.type "range", data:=.fields #[.int lo t,.int z u,.int 1 v] }
 | .frz o u=>h.get? a=some o/\ObjOk H h a u
 | .tbl ps=>h.get? a=some { cls:=.none,data:=.fields ps }
 | .met f x=>h.get? a=some (W.methodObj (.ref f) (.ref x))
 | .ext i=>i h/\(∃ o,h.get? a=some o)/\∀ m r:Heap,i m->(∀ o,m.get? a=some o->r.get? a=some o)->i r
def HOk (H:Hp) (h:Heap):Prop:=∀ a o,H a=some o->ObjOk P w H h a o
end
section
variable {P:Program} {w:World} {H H':Hp} {h h':Heap} {a:Addr} {o:HO}
theorem ObjOk.lt (x:ObjOk P w H h a o):a<h.objs.size:=by
 cases o with
 | lst c=>obtain ⟨_,_,_,_,e⟩:=x;exact kI e
 | tup c=>obtain ⟨_,_,_,p⟩:=x;exact p.lt
 | dK b=>obtain ⟨_,_,_,_,o,_,_,e,_⟩:=x;exact kI e
 | dT b=>obtain ⟨_,_,_,_,o,_,_,e,_⟩:=x;exact kI e
 | set S n=>obtain ⟨o,_,_,_,e,_⟩:=x;exact kI e
 | ins C g d=>obtain ⟨_,_,_,e,_⟩:=x;exact kI e
 | own y=>obtain ⟨_,e⟩:=x;exact kI e
 | xd d=>obtain ⟨_,⟨_,_,_,e,_⟩,_⟩:=x;exact kI e
 | rng lo i=>obtain ⟨_,_,_,e⟩:=x;exact kI e
 | frz j u=>obtain ⟨e,_⟩:=x;exact kI e
 | tbl ps=>exact kI (show h.get? a=some _ from x)
 | met f y=>exact kI (show h.get? a=some _ from x)
 | ext k=>obtain ⟨_,⟨_,e⟩,_⟩:=x;exact kI e
theorem Paired.mapP {e g:Type} {F G:e->g->Prop}:∀ {c:List e} {d:List g},Paired F c d->(∀ a b,F a b->G a b)->Paired G c d
 | _,_,.nil,_=>.nil
 | _,_,.cons r t,f=>.cons (f _ _ r) (Paired.mapP t f)
theorem ObjOk.stay (x:ObjOk P w H h a o) (k:∀ b u,(b=a\/H b=some (.own a))->h.get? b=some u->h'.get? b=some u)
  (F:∀ b,H b=some (.own a)->H' b=some (.own a)) (G:∀ b A,H b=some (.tup A)->H' b=some (.tup A)):ObjOk P w H' h' a o:=by
 induction o with
 | lst A=>obtain ⟨z,m,n,r,e⟩:=x;exact ⟨z,m,n,r,k _ _ (.inl rfl) e⟩
 | tup A=>obtain ⟨z,m,r,g,e,c⟩:=x;exact ⟨z,m,r,g,k _ _ (.inl rfl) e,c⟩
 | dK B=>obtain ⟨z,y,I,r,g,i,j,e,c⟩:=x;exact ⟨z,y,I,r,g,i,j,k _ _ (.inl rfl) e,c⟩
 | dT B=>
   obtain ⟨z,y,A,r,g,i,j,e,c⟩:=x;exact ⟨z,y,A,Paired.mapP r λp q z=>⟨z.1,G _ _ z.2.1,z.2.2⟩,g,i,j,k _ _ (.inl rfl) e,c⟩
 | set S n=>obtain ⟨g,i,j,t,e,c⟩:=x;exact ⟨g,i,j,t,k _ _ (.inl rfl) e,c⟩
 | ins C N J=>
   obtain ⟨d,z,K,e,D,⟨E,i,j,L,c⟩,r⟩:=x;exact ⟨F _ d,z,K,k _ _ (.inl rfl) e,D,⟨E,i,j,k _ _ (.inr d) L,c⟩,r⟩
 | own y=>obtain ⟨g,e⟩:=x;exact ⟨g,k _ _ (.inl rfl) e⟩
 | xd J=>obtain ⟨D,⟨E,i,j,e,c⟩,r⟩:=x;exact ⟨D,⟨E,i,j,k _ _ (.inl rfl) e,c⟩,r⟩
 | rng lo O=>obtain ⟨t,u,v,e⟩:=x;exact ⟨t,u,v,k _ _ (.inl rfl) e⟩
 | frz g u M=>obtain ⟨e,q⟩:=x;exact ⟨k _ _ (.inl rfl) e,M q⟩
 | tbl ps=>
   have e:h.get? a=some { cls:=.none,data:=.fields ps }:=x;show h'.get? a=some { cls:=.none,data:=.fields ps };exact k a _ (.inl rfl) e
 | met f y=>
   have e:h.get? a=some (W.methodObj (.ref f) (.ref y)):=x;show h'.get? a=some (W.methodObj (.ref f) (.ref y));exact k a _ (.inl rfl) e
 | ext Q=>obtain ⟨p,⟨o,e⟩,st⟩:=x;exact ⟨st _ _ p λo q=>k _ _ (.inl rfl) q,⟨o,k _ _ (.inl rfl) e⟩,st⟩
def HOk.lt (x:HOk P w H h) (e:H a=some o):a<h.objs.size:=(x a o e).lt
theorem HOk.fresh (x:HOk P w H h) (e:h.objs.size<=a):H a=none:=by
 cases q:H a with
 | none=>rfl
 | some u=>exact absurd (CP (x.lt q) e) (DH _)
def HOk.kept (x:HOk P w H h) (k:∀ b u,h.get? b=some u->h'.get? b=some u):HOk P w H h':=λa o e=>
 (x a o e).stay (λb u _ q=>k b u q) (λ_ q=>q) λ_ _ q=>q
def HOk.laid (x:HOk P w H h) (k:∀ b u,h.get? b=some u->h'.get? b=some u) (hp:h.objs.size<=a) (d:ObjOk P w (upd H a o) h' a o):HOk P w (upd H a o) h':=λb u e=>by
 have f:=x.fresh hp;by_cases g:b=a
 ·subst g;rw [upd_same] at e;cases e;exact d
 ·rw [A8 g] at e;exact (x b u e).stay (λc v _ q=>k c v q) (λc q=>by rw [A8 (B5 q f)];exact q) λc i q=>by rw [A8 (B5 q f)];exact q
end
def Rd (H:Hp) (a:Addr) (u:HO):Prop:=H a=some u\/∃ o,H a=some (.frz o u)
def Rd.ok {P:Program} {w:World} {H:Hp} {h:Heap} {a:Addr} {u:HO} (r:Rd H a u) (x:HOk P w H h):ObjOk P w H h a u:=by
 rcases r with r | ⟨o,r⟩
 ·exact x a u r
 ·obtain ⟨_,q⟩:=x a _ r;exact q
noncomputable def cF:Option HO->Prop
 | some (.lst _)=>True
 | some (.dK _)=>True
 | some (.dT _)=>True
 | some (.set _ _)=>True
 | some (.ins _ _ _)=>True
 | some (.ext _)=>True
 | _=>False
section
variable {P:Program} {w:World} {H:Hp} {h h':Heap} {x e:Addr} {o':HO}
def HOk.write (ok:HOk P w H h) (g:cF (H x)) (p:e=x\/H e=some (.own x)) (k:∀ b u,b≠e->h.get? b=some u->h'.get? b=some u) (n:∃ u,h'.get? e=some u)
  (o:ObjOk P w (upd H x o') h' x o'):HOk P w (upd H x o') h':=λb u q=>by
 have d:∀ c y,H c=some (.own y)->c≠x:=λc y r z=>by subst z;rw [r] at g;exact g
 have f:∀ c i,H c=some (.tup i)->c≠x:=λc i r z=>by subst z;rw [r] at g;exact g
 by_cases j:b=x
 ·subst j;rw [upd_same] at q;cases q;exact o
 ·rw [A8 j] at q;by_cases a:b=e
  ·have A:H b=some (.own x):=by
    rcases p with z | z
    ·exact absurd (a.trans z) j
    ·rw [a];exact z
   rw [q] at A;cases A;obtain ⟨v,B⟩:=n;exact ⟨v,by rw [a];exact B⟩
  ·refine (ok b u q).stay (λc v m r=>k c v ?_ r) (λc r=>by rw [A8 (d c b r)];exact r) λc i r=>by rw [A8 (f c i r)];exact r
   rcases m with rfl | m
   ·exact a
   ·rintro rfl;rcases p with z | z
    ·exact d c b m z
    ·rw [m] at z;cases z;exact j rfl
end
structure Un (fs ex:dJ) (H H':Hp) (h h':Heap):Prop where
 keep:∀ b o,h.get? b=some o->H b=none->b∉fs->b∉ex->h'.get? b=some o
 slot:∀ b o,h.get? b=some o->H b=none->b∈fs->b∉ex->∃ sl,h'.get? b=some { o with slots:=sl }
 free:∀ b o,h.get? b=some o->H b=none->b∉ex->H' b=none
 there:∀ b o,h.get? b=some o->b∉ex->∃ o',h'.get? b=some o'
 tups:∀ b xs,H b=some (.tup xs)->H' b=some (.tup xs)
 frzs:∀ b o u,H b=some (.frz o u)->H' b=some (.frz o u)
 tbls:∀ b ps,H b=some (.tbl ps)->∃ more,H' b=some (.tbl (ps++more))
section
variable {fs fs' ex ex':dJ} {H H1 H2:Hp} {h h1 h2 h':Heap} {a x e:Addr} {o:HO}
def Un.any (u:Un fs ex H H1 h h1) {b:Addr} {c:Obj} (q:h.get? b=some c) (n:H b=none) (f:b∉ex):∃ i,h1.get? b=some { c with slots:=i }:=by
 by_cases g:b∈fs
 ·exact u.slot b c q n g f
 ·exact ⟨c.slots,u.keep b c q n g f⟩
def Un.kept (k:∀ b u,h.get? b=some u->h'.get? b=some u):Un fs ex H H h h':=
 ⟨λb c q _ _ _=>k b c q,λb c q _ _ _=>⟨c.slots,k b c q⟩,λ_ _ _ n _=>n,λb c q _=>⟨c,k b c q⟩,λ_ _ q=>q,λ_ _ _ q=>q,λ_ ps q=>⟨#[],by rw [q];simp⟩⟩
def Un.refl:Un fs ex H H h h:=Un.kept λ_ _ q=>q
def Un.laid (k:∀ b u,h.get? b=some u->h'.get? b=some u) (hp:h.objs.size<=a) (c:H a=none):Un fs ex H (upd H a o) h h' where
 keep:=λb u q _ _ _=>k b u q
 slot:=λb u q _ _ _=>⟨u.slots,k b u q⟩
 free:=λb u q n _=>by rw [A8 (Bv (CP (kI q) hp))];exact n
 there:=λb u q _=>⟨u,k b u q⟩
 tups:=λb d q=>by rw [A8 (B5 q c)];exact q
 frzs:=λb u d q=>by rw [A8 (B5 q c)];exact q
 tbls:=λb ps q=>⟨#[],by rw [A8 (B5 q c),q];simp⟩
def Un.write (d:cF (H x)) (m:e=x\/H e=some (.own x)) (k:∀ b u,b≠e->h.get? b=some u->h'.get? b=some u) (f:∃ u,h'.get? e=some u):Un fs ex H (upd H x o) h h':=by
 have i:∀ b,H b=none->b≠x:=λb n z=>by subst z;rw [n] at d;exact d
 have j:∀ b,H b=none->b≠e:=λb n z=>by
  subst z;rcases m with r | r
  ·exact i b n r
  ·rw [n] at r;cases r
 have g:∀ b u,H b=some u->¬ cF (some u)->b≠x:=λb u q p z=>by subst z;rw [q] at d;exact p d
 refine ⟨λb u q n _ _=>k b u (j b n) q,λb u q n _ _=>⟨u.slots,k b u (j b n) q⟩,λb u q n _=>by rw [A8 (i b n)];exact n,λb u q _=>?_,
  λb v q=>by rw [A8 (g b _ q λz=>z)];exact q,λb u v q=>by rw [A8 (g b _ q λz=>z)];exact q,λb ps q=>⟨#[],by rw [A8 (g b _ q λz=>z),q];simp⟩⟩
 by_cases c:b=e
 ·subst c;exact f
 ·exact ⟨u,k b u c q⟩
end
noncomputable def cG (h:Heap) (H:Hp):dJ:=(List.range h.objs.size).filter λa=>(H a).isSome
noncomputable def Ek (h:Heap) (H:Hp):Heap:=W.hideAll h (cG h H)
def Vv (h:Heap) (H:Hp):(Ek h H).objs.size=h.objs.size:=W.hideAll_size _ _
def Vw {h:Heap} {H:Hp} {b:Addr} {o:Obj} (e:h.get? b=some o) (n:H b=none):(Ek h H).get? b=some o:=
 W.hideAll_get _ e λa=>by
  have q:(H b).isSome=true:=(List.mem_filter.mp a).2;rw [n] at q;simp at q
theorem Vx {h:Heap} {H:Hp} {b:Addr} {o:Obj} (e:(Ek h H).get? b=some o):h.get? b=some o/\H b=none:=by
 have a:h.get? b=some o:=W.of_hideAll (cG h H) e;refine ⟨a,?_⟩;cases q:H b with
 | none=>rfl
 | some x=>
   have c:b∈cG h H:=List.mem_filter.mpr ⟨Ec.mpr (kI a),by simp [q]⟩;have z:(Ek h H).get? b=none:=W.hideAll_none (cG h H) c;rw [z] at e;cases e
noncomputable def Vy (g h:Heap) (L:Addr):dC:=(List.range h.objs.size).filterMap λa=>if a=L\/(g.get? a).isSome=true then none else (h.get? a).map λo=>(a,o)
noncomputable def rest (g h:Heap) (L d:Addr):dC:=(Vy g h L).filter λp=>decide (p.1≠d)
structure Mod (K:W.Frag) (mg:dE) (base:Heap):Prop where
 kin:K.In base
 glob:base.Ns mainGlobals mg
 blt:∃ mb,base.Ns builtinsNs mb/\∀ x:Str,x ≠ "__name__" -> mb x=bootBuiltins x
 nolimit:base.NoLimit
structure Cx where
 prog:Program
 w:World
 K:W.Frag
 mg:dE
 base:Heap
 A:Around
 N:dH
 s₀:Shared
 H₀:Hp
 env:Env
 outer:List Env
 stack:List Env
 ex:dJ
 fn:Str->Bool
 calm:Bool
 pn:dC
 xe:dw
noncomputable def aw (l:List Env):dJ:=l.filterMap (·.frame)
noncomputable abbrev Cx.fs (X:Cx):dJ:=aw X.outer
def ca (a:Scope) (x:Str):Prop:=a.names.lookup x=some .local\/a.names.lookup x=some .cell\/a.names.lookup x=some .free
def aU (a:Scope) (x:Str):Prop:=a.names.lookup x=some .local\/a.names.lookup x=some .cell
def Look (a:Env) (h:Heap) (m:dE) (x:Str) (u:Value):Prop:=
 (a.kindOf x=some .local/\m x=some u)\/((a.kindOf x=some .cell\/a.kindOf x=some .free)/\∃ c,a.cells.lookup x=some c/\h.IsCell c (some u))
structure Cx.Ok (X:Cx):Prop where
 mod:Mod X.K X.mg X.base
 kind:X.env.scope.kind=.function
 glob:X.env.globals=mainGlobals
 blt:X.env.builtins=builtinsNs
 above:X.s₀.heap.objs.size<=X.env.locals
 inj:∀ x y c,X.env.cells.lookup x=some c->X.env.cells.lookup y=some c->x=y
 has:∀ x,(X.env.kindOf x=some .cell\/X.env.kindOf x=some .free)->∃ c,X.env.cells.lookup x=some c
 cab:∀ x c,X.fn x=true->X.env.cells.lookup x=some c->X.s₀.heap.objs.size<=c
 hd:X.calm=true->X.A.handled=none
 frames:X.A.frames=some X.stack
 stk:X.stack=X.outer\/(X.stack=X.env::X.outer/\X.env.frame=some X.env.locals)
 exf:∀ b∈X.ex,b≠X.env.locals/\∀ x c,X.env.cells.lookup x=some c->c≠b
 bs:∀ b o,X.base.get? b=some o->X.s₀.heap.get? b=some o/\X.H₀ b=none
 bsz:X.base.objs.size<=X.s₀.heap.objs.size
 noex:∀ b o,X.base.get? b=some o->b∉X.ex
 exfs:∀ b∈X.ex,b∉X.fs
 funs:X.s₀.heap.FunFrames X.base X.outer
 frf:∀ b∈X.fs,X.H₀ b=none
 seer:X.base.NoSeer
 tree:(model X.prog X.w).prog.given.tree=none
 plr:∀ s:Shared,(∀ b o,X.base.get? b=some o->s.heap.get? b=some o)->PySem.PylongRoom (model X.prog X.w) X.A s
structure Inv (X:Cx) (pins:dC) (σ:List (dl)) (H:Hp) (s:Shared):Prop where
 ok:X.Ok
 os:s.os=X.s₀.os
 bare:AllBare s.gens
 base:Un X.fs X.ex X.H₀ H X.s₀.heap s.heap
 loc:∃ m,s.heap.Ns X.env.locals m/\∀ (i:Nat) (x:Str) (v:V),X.N[i]?=some x->σ[i]?=some (some v)->ca X.env.scope x->∃ u,RelV v u/\Look X.env s.heap m x u
 cell:∀ x c,X.env.cells.lookup x=some c->∃ v,s.heap.IsCell c v
 free:H X.env.locals=none
 freeC:∀ x c,X.env.cells.lookup x=some c->H c=none
 pin:∀ p∈X.pn++pins,s.heap.get? p.1=some p.2/\H p.1=none/\p.1≠X.env.locals/\p.1∉X.fs/\∀ v,p.2.data≠.cell v
 hok:HOk X.prog X.w H s.heap
 len:σ.length=X.N.length
section
variable {X:Cx} {pins:dC} {σ:List (dl)} {H H':Hp} {s:Shared} {h':Heap}
def Cx.Ok.nofr (ok:X.Ok) {b:Addr} {o:Obj} (e:X.base.get? b=some o):b∉X.fs:=λa=>by
 have:=(ok.funs.mem a).1;rw [e] at this;cases this
def Inv.bs (I:Inv X pins σ H s):∀ b o,X.base.get? b=some o->s.heap.get? b=some o/\H b=none:=λb o e=>
 ⟨I.base.keep b o (I.ok.bs b o e).1 (I.ok.bs b o e).2 (I.ok.nofr e) (I.ok.noex b o e),I.base.free b o (I.ok.bs b o e).1 (I.ok.bs b o e).2 (I.ok.noex b o e)⟩
def Inv.bk (I:Inv X pins σ H s):∀ b o,X.base.get? b=some o->s.heap.get? b=some o:=λb o e=>(I.bs b o e).1
def Inv.mod (I:Inv X pins σ H s):Mod X.K X.mg X.base:=I.ok.mod
def Inv.kIn (I:Inv X pins σ H s):X.K.In s.heap:=I.ok.mod.kin.keeps I.bk
def Inv.lt (I:Inv X pins σ H s):X.env.locals<s.heap.objs.size:=let ⟨_,a,_⟩:=I.loc;a.lt
def Inv.sz (I:Inv X pins σ H s):X.s₀.heap.objs.size<=s.heap.objs.size:=A7 I.ok.above (CU I.lt)
def Inv.nofs (I:Inv X pins σ H s) {a:Addr} (h:s.heap.objs.size<=a):a∉X.fs:=λb=>by
 obtain ⟨_,o,c,_⟩:=I.ok.funs.mem b;exact absurd (CP (kI c) (A7 I.sz h)) (DH _)
def Inv.cne (I:Inv X pins σ H s):∀ x c,X.env.cells.lookup x=some c->c≠X.env.locals:=λx c e z=>by
 obtain ⟨v,o,d,f⟩:=I.cell x c e;obtain ⟨m,⟨g,h,i,a,b,_⟩,_⟩:=I.loc;rw [z,a] at d;cases d;rw [b] at f;cases f
def Inv.funs (I:Inv X pins σ H s):s.heap.FunFrames X.base X.outer:=by
 have all:∀ (l:List Env),(∀ b∈aw l,b∈X.fs)->X.s₀.heap.FunFrames X.base l->s.heap.FunFrames X.base l:=by
  intro l
  induction l with
  | nil=>intro _ _;trivial
  | cons g r h=>
    intro f i;obtain ⟨hk,⟨L,o,a,j,k,m⟩,n⟩:=i;have c:L∈X.fs:=f L (by unfold aw;rw [FT,a];exact CC);obtain ⟨p,e⟩:=I.base.slot L o k (I.ok.frf L c) c λz=>I.ok.exfs L z c;exact ⟨hk,⟨L,_,a,j,e,m⟩,h (λb d=>f b (by unfold aw;rw [FT,a];exact CD _ d)) n⟩
 exact all X.outer (λ_ d=>d) I.ok.funs
def Inv.stack (I:Inv X pins σ H s):s.heap.FunFrames X.base X.stack:=by
 rcases I.ok.stk with e | ⟨e,a⟩
 ·rw [e];exact I.funs
 ·rw [e];obtain ⟨m,b,_⟩:=I.loc;refine .cons (by rw [I.ok.kind];decide) a b ?_ I.funs;exact Heap.get?_none_of_le (A7 I.ok.bsz I.ok.above)
def Inv.stkSub (I:Inv X pins σ H s):∀ b∈aw X.stack,b∈X.env.locals::X.fs:=λb a=>by
 rcases I.ok.stk with e | ⟨e,c⟩
 ·rw [e] at a;exact CD _ a
 ·rw [e] at a;unfold aw at a;rw [FT,c] at a;exact a
def Inv.stkFree (I:Inv X pins σ H s):∀ b∈aw X.stack,H b=none:=λb a=>by
 rcases D8.mp (I.stkSub b a) with e | a
 ·rw [e];exact I.free
 ·obtain ⟨_,o,c,_⟩:=I.ok.funs.mem a;exact I.base.free b o c (I.ok.frf b a) λz=>I.ok.exfs b z a
def Inv.step {g':Array GenState} {t':Nat} {d':Drawn} {ch:dJ} (I:Inv X pins σ H s)
  (g:∀ b∈ch,(b∈X.ex\/X.s₀.heap.objs.size<=b)/\b≠X.env.locals/\(∀ x c,X.env.cells.lookup x=some c->c≠b)/\∀ p∈X.pn++pins,p.1≠b)
  (h:∀ b o,b≠X.env.locals->b∉X.fs->b∉ch->s.heap.get? b=some o->H b=none->h'.get? b=some o)
  (B:∀ b o,b≠X.env.locals->b∈X.fs->b∉ch->s.heap.get? b=some o->H b=none->∃ P,h'.get? b=some { o with slots:=P }) (f:∀ b o,b∉ch->s.heap.get? b=some o->H b=none->H' b=none)
  (D:∀ b o,b∉ch->s.heap.get? b=some o->∃ G,h'.get? b=some G)
  (J:∀ b C,H b=some (.tup C)->H' b=some (.tup C)) (K:∀ b o u,H b=some (.frz o u)->H' b=some (.frz o u)) (L:∀ b ps,H b=some (.tbl ps)->∃ M,H' b=some (.tbl (ps++M)))
  (ns:∀ m,s.heap.Ns X.env.locals m->h'.Ns X.env.locals m) (R:HOk X.prog X.w H' h') (hg:AllBare g') :
  Inv X pins σ H' { s with heap:=h',gens:=g',drawn:=d',toks:=t' }:=by
 have N:∀ b o,X.s₀.heap.get? b=some o->b≠X.env.locals:=λb o e=>Bv (CP (kI e) I.ok.above)
 have y:∀ b o,X.s₀.heap.get? b=some o->b∉X.ex->b∉ch:=λb o e a E=>by
  rcases (g b E).1 with z | z
  ·exact a z
  ·exact absurd (CP (kI e) z) (DH _)
 have j:∀ x c,X.env.cells.lookup x=some c->∀ v,s.heap.IsCell c v->h'.IsCell c v:=λx c e v ⟨o,F,S⟩=>by
  have w:c∉ch:=λz=>(g c z).2.2.1 x c e rfl;by_cases Z:c∈X.fs
  ·obtain ⟨P,q⟩:=B c o (I.cne x c e) Z w F (I.freeC x c e);exact ⟨_,q,S⟩
  ·exact ⟨o,h c o (I.cne x c e) Z w F (I.freeC x c e),S⟩
 refine ⟨I.ok,I.os,hg,⟨λb o e n E a=>?_,λb o e n E a=>?_,λb o e n a=>?_,λb o e a=>?_,λb C e=>J b C (I.base.tups b C e),λb o C e=>K b o C (I.base.frzs b o C e),λb ps e=>?_⟩,?_,λx c e=>?_,?_,λx c e=>?_,λp hp=>?_,R,I.len⟩
 ·exact h b o (N b o e) E (y b o e a) (I.base.keep b o e n E a) (I.base.free b o e n a)
 ·obtain ⟨P,A⟩:=I.base.slot b o e n E a;obtain ⟨T,O⟩:=B b _ (N b o e) E (y b o e a) A (I.base.free b o e n a);exact ⟨T,O⟩
 ·obtain ⟨G,A⟩:=I.base.there b o e a;exact f b G (y b o e a) A (I.base.free b o e n a)
 ·obtain ⟨G,A⟩:=I.base.there b o e a;exact D b G (y b o e a) A
 ·obtain ⟨m1,A⟩:=I.base.tbls b ps e;obtain ⟨m2,O⟩:=L b _ A;exact ⟨m1++m2,by rw [O,Array.append_assoc]⟩
 ·obtain ⟨m,hn,hl⟩:=I.loc;refine ⟨m,ns m hn,λi x v A O e3=>?_⟩;obtain ⟨u,r,l⟩:=hl i x v A O e3;refine ⟨u,r,?_⟩;rcases l with l | ⟨k,c,e,z⟩
  ·exact .inl l
  ·exact .inr ⟨k,c,e,j x c e _ z⟩
 ·obtain ⟨v,z⟩:=I.cell x c e;exact ⟨v,j x c e v z⟩
 ·obtain ⟨m,⟨o,_,_,F,_⟩,_⟩:=I.loc;exact f _ o (λz=>(g _ z).2.1 rfl) F I.free
 ·obtain ⟨v,o,F,S⟩:=I.cell x c e;exact f c o (λz=>(g c z).2.2.1 x c e rfl) F (I.freeC x c e)
 ·obtain ⟨e,n,ne,nf,d⟩:=I.pin p hp;have w:p.1∉ch:=λz=>(g p.1 z).2.2.2 p hp rfl;exact ⟨h p.1 p.2 ne nf w e n,f p.1 p.2 w e n,ne,nf,d⟩
def Inv.un {t':Nat} (I:Inv X pins σ H s) (u:Un X.fs [] H H' s.heap h') (c:HOk X.prog X.w H' h'):Inv X pins σ H' { s with heap:=h',toks:=t' }:=by
 obtain ⟨m,⟨o,v,w,j,r⟩,_⟩:=id I.loc;obtain ⟨x,k⟩:=u.any j I.free (by simp)
 exact I.step (g':=s.gens) (d':=s.drawn) (ch:=[]) (λ_ z=>nomatch z) (λb o _ d _ e n=>u.keep b o e n d (by simp)) (λb o _ d _ e n=>u.slot b o e n d (by simp)) (λb o _ e n=>u.free b o e n (by simp)) (λb o _ e=>u.there b o e (by simp)) u.tups u.frzs u.tbls (λy p=>by
  obtain ⟨A,f,g,a,q⟩:=p;rw [j] at a;cases a;exact ⟨_,f,g,k,q⟩) c I.bare
def Inv.call {g':Array GenState} {t':Nat} {d':Drawn} {ch:dJ} (I:Inv X pins σ H s) (u:Un (aw X.stack) ch H H' s.heap h') (g:HOk X.prog X.w H' h') (y:AllBare g')
  (d:∀ b∈ch,(b∈X.ex\/X.s₀.heap.objs.size<=b)/\b≠X.env.locals/\(∀ x c,X.env.cells.lookup x=some c->c≠b)/\∀ p∈X.pn++pins,p.1≠b) :
  Inv X pins σ H' { s with heap:=h',gens:=g',drawn:=d',toks:=t' }:=by
 obtain ⟨m,⟨o,D,E,w,r⟩,_⟩:=id I.loc;obtain ⟨F,h⟩:=u.any w I.free λz=>(d _ z).2.1 rfl
 exact I.step (ch:=ch) d (λb o h A a e n=>u.keep b o e n (λz=>(D8.mp (I.stkSub b z)).elim h A) a) (λb o _ _ a e n=>u.any e n a) (λb o a e n=>u.free b o e n a) (λb o a e=>u.there b o e a) u.tups u.frzs u.tbls (λG B=>by
  obtain ⟨J,i,j,f,C⟩:=B;rw [w] at f;cases f;exact ⟨_,i,j,h,C⟩) g y
def Inv.turned {t':Nat} {a:Addr} (I:Inv X pins σ H s) (k:∀ b o,b≠a->s.heap.get? b=some o->h'.get? b=some o) (j:H a=none) (g:a≠X.env.locals)
  (w:a∈X.ex\/X.s₀.heap.objs.size<=a) (y:∀ x c,X.env.cells.lookup x=some c->c≠a) (A:∀ p∈X.pn++pins,p.1≠a):Inv X pins σ H { s with heap:=h',toks:=t' }:=by
 have f:∀ b u,H b=some u->b≠a:=λb u e z=>by rw [z,j] at e;cases e
 refine I.step (g':=s.gens) (d':=s.drawn) (ch:=[a]) (λb B=>?_) (λb o _ _ d e _=>k b o (λz=>d (by simp [z])) e) (λb o _ _ d e _=>⟨o.slots,k b o (λz=>d (by simp [z])) e⟩) (λ_ _ _ _ n=>n)
  (λb o d e=>⟨o,k b o (λz=>d (by simp [z])) e⟩) (λ_ _ e=>e) (λ_ _ _ e=>e) (λb ps e=>⟨#[],by rw [e];simp⟩) (λm C=>?_) (λb u e=>?_) I.bare
 ·have e:b=a:=by simpa using B
  subst e;exact ⟨w,g,y,A⟩
 ·obtain ⟨o,D,E,F,r⟩:=C;exact ⟨o,D,E,k _ o (Ne.symm g) F,r⟩
 ·refine (I.hok b u e).stay (λc v d q=>k c v ?_ q) (λ_ q=>q) λ_ _ q=>q;rcases d with z | z
  ·rw [z];exact f b u e
  ·exact f c _ z
def Inv.tok (I:Inv X pins σ H s) (t:Nat):Inv X pins σ H { s with toks:=t }:=I.un (h':=s.heap) (t':=t) Un.refl I.hok
def Inv.kept {t':Nat} (I:Inv X pins σ H s) (k:∀ b u,s.heap.get? b=some u->h'.get? b=some u):Inv X pins σ H { s with heap:=h',toks:=t' }:=I.un (Un.kept k) (I.hok.kept k)
def Inv.laid {a:Addr} {o:HO} {t':Nat} (I:Inv X pins σ H s) (k:∀ b u,s.heap.get? b=some u->h'.get? b=some u) (hp:s.heap.objs.size<=a) (c:ObjOk X.prog X.w (upd H a o) h' a o) :
  Inv X pins σ (upd H a o) { s with heap:=h',toks:=t' }:=I.un (Un.laid k hp (I.hok.fresh hp)) (I.hok.laid k hp c)
def Inv.write {x e:Addr} {o:HO} {t':Nat} (I:Inv X pins σ H s) (d:cF (H x)) (f:e=x\/H e=some (.own x)) (k:∀ b u,b≠e->s.heap.get? b=some u->h'.get? b=some u) (a:∃ u,h'.get? e=some u)
  (c:ObjOk X.prog X.w (upd H x o) h' x o):Inv X pins σ (upd H x o) { s with heap:=h',toks:=t' }:=I.un (Un.write d f k a) (I.hok.write d f k a c)
def Inv.pins_of {a:dC} (I:Inv X pins σ H s) (h:∀ p∈a,s.heap.get? p.1=some p.2/\H p.1=none/\p.1≠X.env.locals/\p.1∉X.fs/\∀ v,p.2.data≠.cell v):Inv X a σ H s:=
 ⟨I.ok,I.os,I.bare,I.base,I.loc,I.cell,I.free,I.freeC,λp hp=>(EA.mp hp).elim (λz=>I.pin p (List.mem_append_left _ z)) (h p),I.hok,I.len⟩
def OX {N:dH} (c:N.Nodup) {i j:Nat} {x:Str} (a:N[i]?=some x) (b:N[j]?=some x):i=j:=by
 obtain ⟨f,d⟩:=Bw.mp a;obtain ⟨g,e⟩:=Bw.mp b;exact (List.getElem_inj c).mp (d.trans e.symm)
def OY {M:Model} {A:Around} {E:dw} {i:Nat} {x:Str} {v:V} {u:Value} {Q:Unit->Shared->Prop} (I:Inv X pins σ H s) (hN:X.N.Nodup) (O:X.N[i]?=some x) (C:aU X.env.scope x) (r:RelV v u)
  (h:∀ s',Inv X pins (σ.set i (some v)) H s'->(∃ a,Heap.SameBut a s.heap s'.heap/\(a=X.env.locals\/X.env.cells.lookup x=some a))->Q Unit.unit s') (hf:X.fn x=true\/X.env.scope.names.lookup x=some .local:=by first | exact .inl rfl | exact .inr rfl | assumption):wpAny M A (storeName X.env x u) Q E s:=by
 obtain ⟨m,hn,hl⟩:=id I.loc;have P:(X.env.scope.kind == .class || (X.env.scope.kind == .module && X.env.locals != X.env.globals))=false:=by rw [I.ok.kind];rfl
 have G:i<σ.length:=by rw [I.len];exact (Bw.mp O).1
 have J:=I.cne
 have g:∀ {a:Addr} {h':Heap},(∃ o,s.heap.get? a=some o/\H a=none)->Heap.SameBut a s.heap h'->HOk X.prog X.w H h':=λ{a h'} ha f b ob e=>by
  obtain ⟨_,_,D⟩:=ha;refine (I.hok b ob e).stay (λc W B q=>(f.2 c ?_).trans q) (λ_ q=>q) λ_ _ q=>q;rintro rfl;rcases B with rfl | B
  ·rw [D] at e;cases e
  ·rw [D] at B;cases B
 rcases C with hk | hk
 ·refine wpAny_storeName_local hk hn (λh' a0 f=>?_) P;obtain ⟨oL,_,_,a1,_⟩:=id hn;refine h _ ⟨I.ok,I.os,I.bare,⟨λb o e n K C=>?_,λb o e n K C=>?_,I.base.free,λb o e C=>?_,I.base.tups,I.base.frzs,I.base.tbls⟩,⟨_,a0,λj y v' w F e3=>?_⟩,λy c e=>?_,I.free,I.freeC,λp hp=>?_,g ⟨oL,a1,I.free⟩ f,by simpa using I.len⟩ ⟨_,f,.inl rfl⟩
  ·exact (f.2 b (Bv (CP (kI e) I.ok.above))).trans (I.base.keep b o e n K C)
  ·obtain ⟨sl,w⟩:=I.base.slot b o e n K C;exact ⟨sl,(f.2 b (Bv (CP (kI e) I.ok.above))).trans w⟩
  ·obtain ⟨o',w⟩:=I.base.there b o e C;exact ⟨o',(f.2 b (Bv (CP (kI e) I.ok.above))).trans w⟩
  ·by_cases L:j=i
   ·subst L;rw [O] at w;cases w;rw [List.getElem?_set_self G] at F;cases F;exact ⟨u,r,.inl ⟨hk,by simp⟩⟩
   ·rw [List.getElem?_set_ne (Ne.symm L)] at F;obtain ⟨u',r',q⟩:=hl j y v' w F e3;refine ⟨u',r',?_⟩;rcases q with ⟨k,e⟩ | ⟨k,c,e,z⟩
    ·refine .inl ⟨k,?_⟩;have:y≠x:=λe=>L (OX hN w (e ▸ O));simp [this,e]
    ·exact .inr ⟨k,c,e,z.sameBut f (J y c e)⟩
  ·obtain ⟨W,z⟩:=I.cell y c e;exact ⟨W,z.sameBut f (J y c e)⟩
  ·obtain ⟨e,n,Y,nf,d⟩:=I.pin p hp;exact ⟨(f.2 p.1 Y).trans e,n,Y,nf,d⟩
 ·have N:X.fn x=true:=by
   rcases hf with z | z
   ·exact z
   ·rw [z] at hk;cases hk
  obtain ⟨c,B⟩:=I.ok.has x (.inl hk);obtain ⟨W,z⟩:=I.cell x c B;refine wpAny_storeName_cell I.ok.kind hk B z (λh' R f=>?_);obtain ⟨oc,S,T⟩:=id z;refine h { s with heap:=h' } ⟨I.ok,I.os,I.bare,⟨λb o e n K C=>?_,λb o e n K C=>?_,I.base.free,λb o e C=>?_,I.base.tups,I.base.frzs,I.base.tbls⟩,⟨m,hn.sameBut f (Ne.symm (J x c B)),λj y v' w F e3=>?_⟩,λy Z e=>?_,I.free,I.freeC,λp hp=>?_,g ⟨oc,S,I.freeC x c B⟩ f,by simpa using I.len⟩ ⟨c,f,.inr B⟩
  ·exact (f.2 b (Bv (CP (kI e) (I.ok.cab x c N B)))).trans (I.base.keep b o e n K C)
  ·obtain ⟨sl,w⟩:=I.base.slot b o e n K C;exact ⟨sl,(f.2 b (Bv (CP (kI e) (I.ok.cab x c N B)))).trans w⟩
  ·obtain ⟨o',w⟩:=I.base.there b o e C;exact ⟨o',(f.2 b (Bv (CP (kI e) (I.ok.cab x c N B)))).trans w⟩
  ·by_cases L:j=i
   ·subst L;rw [O] at w;cases w;rw [List.getElem?_set_self G] at F;cases F;exact ⟨u,r,.inr ⟨.inl hk,c,B,R⟩⟩
   ·rw [List.getElem?_set_ne (Ne.symm L)] at F;obtain ⟨u',r',q⟩:=hl j y v' w F e3;refine ⟨u',r',?_⟩;rcases q with q | ⟨k,Z,e,z'⟩
    ·exact .inl q
    ·refine .inr ⟨k,Z,e,z'.sameBut f ?_⟩;rintro rfl;exact L (OX hN w (I.ok.inj _ _ _ e B ▸ O))
  ·by_cases U:Z=c
   ·subst U;exact ⟨_,R⟩
   ·obtain ⟨w2,z2⟩:=I.cell y Z e;exact ⟨w2,z2.sameBut f U⟩
  ·obtain ⟨e,n,Y,nf,d⟩:=I.pin p hp;refine ⟨(f.2 p.1 ?_).trans e,n,Y,nf,d⟩;intro q;rw [q,S] at e;have q':oc=p.2:=kH e;exact d W (by rw [<-q'];exact T)
def LP {M:Model} {A:Around} {E:dw} {i:Nat} {x:Str} {v:V} {u:Value} {Q:Unit->Shared->Prop} (I:Inv X pins σ H s) (b:X.N.Nodup) (c:X.N[i]?=some x) (d:aU X.env.scope x) (r:RelV v u)
  (h:∀ a,Inv X pins (σ.set i (some v)) H a->Q Unit.unit a) (e:X.fn x=true\/X.env.scope.names.lookup x=some .local:=by first | exact .inl rfl | exact .inr rfl | assumption):wpAny M A (storeName X.env x u) Q E s:=
 OY I b c d r (λa f _=>h a f) e
def Inv.call' {s':Shared} {ch:dJ} (I:Inv X pins σ H s) (f:s'.os=s.os) (u:Un (aw X.stack) ch H H' s.heap s'.heap) (a:HOk X.prog X.w H' s'.heap) (g:AllBare s'.gens)
  (d:∀ b∈ch,(b∈X.ex\/X.s₀.heap.objs.size<=b)/\b≠X.env.locals/\(∀ x c,X.env.cells.lookup x=some c->c≠b)/\∀ p∈X.pn++pins,p.1≠b):Inv X pins σ H' s':=by
 obtain ⟨h',g',d',t',h⟩:=s';have e:h=s.os:=f;subst e;exact I.call (g':=g') (t':=t') (d':=d') u a g d
end
noncomputable abbrev XK:=Value->Option Addr->Hp->Prop
noncomputable abbrev St:=List (dl)
noncomputable abbrev VK:=V->Hp->Prop
noncomputable abbrev TE:=St->Hp->VK->Prop
noncomputable abbrev TT:=St->Hp->(Bool->Hp->Prop)->Prop
noncomputable abbrev TA:=St->Hp->(dj->Hp->Prop)->Prop
structure Ends where
 nx:St->Hp->Prop
 rt:VK
 bk:St->Hp->Prop:=λ_ _=>False
 ct:St->Hp->Prop:=λ_ _=>False
noncomputable abbrev TS:=Ends->St->Hp->Prop
def EP (X:Cx) (a:dC) (c:St) (Q:VK) (u:Value) (s':Shared):Prop:=∃ v b,Inv X a c b s'/\RelV v u/\Q v b
def TP (X:Cx) (a:dC) (d:St) (Q:Bool->Hp->Prop) (b:Bool) (s':Shared):Prop:=∃ c,Inv X a d c s'/\Q b c
def AP (X:Cx) (a:dC) (d:St) (Q:dj->Hp->Prop) (e:du) (s':Shared):Prop:=∃ b c,Inv X a d c s'/\Vals b e/\Q b c
def SP (X:Cx) (b:dC) (D:Ends) (f:Flow) (s':Shared):Prop:=
 match f with
 | .next=>∃ a c,Inv X b a c s'/\D.nx a c
 | .brk=>∃ a c,Inv X b a c s'/\D.bk a c
 | .cont=>∃ a c,Inv X b a c s'/\D.ct a c
 | .ret u=>∃ v a c,Inv X b a c s'/\RelV v u/\D.rt v c
def PE (X:Cx) (e:Expr) (t:TE):Prop:=
 ∀ (a:dC) (s:Shared) (b:St) (H:Hp) (Q:VK),Inv X a b H s->t b H Q->wpAny (model X.prog X.w) X.A (eval e X.env) (EP X a b Q) X.xe s
def PT (X:Cx) (e:Expr) (t:TT):Prop:=
 ∀ (a:dC) (s:Shared) (b:St) (H:Hp) (Q:Bool->Hp->Prop),Inv X a b H s->t b H Q->wpAny (model X.prog X.w) X.A (isTrue e X.env (eval e X.env)) (TP X a b Q) X.xe s
def PW (X:Cx) (e:Expr) (t:TT):Prop:=
 ∀ (b:Sem Value) (a:dC) (s:Shared) (c:St) (H:Hp) (Q:Bool->Hp->Prop),Inv X a c H s->t c H Q->wpAny (model X.prog X.w) X.A (isTrue e X.env b) (TP X a c Q) X.xe s
def PW.pt {X:Cx} {e:Expr} {t:TT} (h:PW X e t):PT X e t:=h _
def PA (X:Cx) (d:dF) (t:TA):Prop:=
 ∀ (b:Pos) (a:dC) (s:Shared) (c:St) (H:Hp) (Q:dj->Hp->Prop),Inv X a c H s->t c H Q->wpAny (model X.prog X.w) X.A (spliced (backTo b (starEach d X.env))) (AP X a c Q) X.xe s
def PS (X:Cx) (st:Stmt) (t:TS):Prop:=
 ∀ (a:dC) (s:Shared) (b:St) (H:Hp) (D:Ends),Inv X a b H s->t D b H->wpAny (model X.prog X.w) X.A (exec st X.env) (SP X a D) X.xe s
def PSs (X:Cx) (st:List Stmt) (t:TS):Prop:=
 ∀ (a:dC) (s:Shared) (b:St) (H:Hp) (D:Ends),Inv X a b H s->t D b H->wpAny (model X.prog X.w) X.A (execs st X.env) (SP X a D) X.xe s
def E_ {b:Type} {t:Sem b} {Q c:b->Shared->Prop} {M:Model} {A:Around} {E:dw} {s:Shared} (h:wpAny M A t Q E s) (d:∀ a s,Q a s->c a s):wpAny M A t c E s:=kG h d λ_ _ x=>x
section
variable {X:Cx}
def AB (i:Nat):TE:=λa H Q=>∃ v,a[i]?=some (some v)/\Q v H
def tC (v:V):TE:=λ_ H Q=>Q v H
def Vz {i:Nat} {x:Str} {f:Pos} (n:X.N[i]?=some x) (o:ca X.env.scope x) (g:(x == ("__debug__" : Str))=false:=by decide) (j:(x == ("__classdict__" : Str))=false:=by decide):PE X (.Name x f) (AB i):=by
 intro d s p H Q I h;obtain ⟨v,e,h⟩:=h;obtain ⟨m,q,w⟩:=I.loc;obtain ⟨u,r,l⟩:=w i x v n e o;have b:EP X d p Q u s:=⟨v,H,I,r,h⟩;rcases l with ⟨hk,y⟩ | ⟨hk,c,k,a⟩
 ·exact wpAny_Name (wpAny_loadName_local I.ok.kind hk q y b) g
 ·rcases hk with hk | hk
  ·exact wpAny_Name (wpAny_loadName_cell I.ok.kind hk k a b) g
  ·exact wpAny_Name (wpAny_loadName_free I.ok.kind hk k a b j) g
def AF {i j pos}:PE X (.Constant (.int i) j pos) (tC (.int i)):=λ_ _ _ H _ I h=>wpAny_Constant_int ⟨.int i,H,I.tok _,⟨_,rfl⟩,h⟩
def EH {b j pos}:PE X (.Constant (.bool b) j pos) (tC (.bl b)):=λ_ _ _ H _ I h=>Constant_bool ⟨.bl b,H,I,rfl,h⟩
def El {j pos}:PE X (.Constant .none j pos) (tC .non):=λ_ _ _ H _ I h=>Constant_none ⟨.non,H,I,rfl,h⟩
def Gl (X:Cx) (x:Str):Prop:=X.env.kindOf x=some .globalImplicit
def OZ {E:dw} {a:dC} {s:Shared} {c:St} {H:Hp} {x:Str} {u:Value} {b:Pos} {Q:dw} (I:Inv X a c H s) (d:Gl X x) (e:X.mg x=some u) (h:Q u s)
  (f:(x == ("__debug__" : Str))=false:=by decide):wpAny (model X.prog X.w) X.A (eval (.Name x b) X.env) Q E s:=
 Calls.Name_function_global I.ok.kind d (Calls.loadGlobal_global (by rw [I.ok.glob];exact I.mod.glob.keeps I.bk) e h) f
def Em {E:dw} {a:dC} {s:Shared} {c:St} {H:Hp} {x:Str} {u:Value} {b:Pos} {Q:dw} (I:Inv X a c H s) (d:Gl X x) (e:X.mg x=none) (f:bootBuiltins x=some u) (h:Q u s)
  (g:x ≠ "__name__" := by decide) (i:(x == ("__debug__" : Str))=false:=by decide):wpAny (model X.prog X.w) X.A (eval (.Name x b) X.env) Q E s:=by
 obtain ⟨m,j,k⟩:=I.mod.blt;exact Calls.Name_function_global I.ok.kind d (Calls.loadGlobal_builtin (by rw [I.ok.glob];exact I.mod.glob.keeps I.bk) e (by rw [I.ok.blt];exact j.keeps I.bk) ((k x g).trans f) h) i
def Oa {x:Str} {v:V} {u:Value} {a:Pos} (b:Gl X x) (c:X.mg x=some u) (r:RelV v u) (d:(x == ("__debug__" : Str))=false:=by decide):PE X (.Name x a) (tC v):=
 λ_ _ _ H _ I h=>OZ I b c ⟨v,H,I,r,h⟩ d
def HF {x:Str} {v:V} {u:Value} {a:Pos} (b:Gl X x) (c:X.mg x=none) (d:bootBuiltins x=some u) (r:RelV v u) (e:x ≠ "__name__" := by decide) (f:(x == ("__debug__" : Str))=false:=by decide):PE X (.Name x a) (tC v):=
 λ_ _ _ H _ I h=>Em I b c d ⟨v,H,I,r,h⟩ e f
variable {a b:Expr} {ta tb:TE} {pos:Pos}
def tB (t:TE):TT:=λd H Q=>t d H λx e=>∃ c,x=.bl c/\Q c e
def EI {e:Expr} {t:TE} (h:PE X e t) (g:∀ c,isTrue e X.env c=(do let v <-c;standAt e.pos;holding [v] (truthy v)):=by intro _;rfl):PT X e (tB t):=by
 intro f s i H Q I j;refine isTrue_plain (E_ (h f s i H _ I j) λv p ⟨x,k,m,n,o⟩=>?_) (g _);obtain ⟨d,rfl,q⟩:=o;cases n;exact wpAny_truthy_bool ⟨k,m,q⟩
variable {tA tB':TT} {rest:dF}
def HG (t u:TT):TT:=λd H Q=>t d H λc e=>if c=true then u d e Q else Q false e
def aF (t u:TT):TT:=λd H Q=>t d H λc e=>if c=true then Q true e else u d e Q
def DV (t:TT):TT:=λd H Q=>t d H λc e=>Q (!c) e
theorem Jo (f:PT X a tA):PW X (.BoolOp .And [a] pos) tA:=by
 intro i d s g H Q I h;refine isTrue_and (E_ (f d s g H Q I h) λc j e=>?_);cases c with
 | true=>exact isTrue_and_nil e
 | false=>exact e
theorem Fa (f:PT X a tA):PW X (.BoolOp .Or [a] pos) tA:=by
 intro i d s g H Q I h;refine isTrue_or (E_ (f d s g H Q I h) λc j e=>?_);cases c with
 | false=>exact isTrue_or_nil e
 | true=>exact e
theorem Jp (j:PT X a tA) (k:PW X (.BoolOp .And (b::rest) pos) tB'):PW X (.BoolOp .And (a::b::rest) pos) (HG tA tB'):=by
 intro m d s e H Q I h;refine isTrue_and (E_ (j d s e H _ I h) λc n ⟨f,g,i⟩=>?_);cases c with
 | true=>exact k m d n e f Q g i
 | false=>exact ⟨f,g,i⟩
theorem E5 (j:PT X a tA) (k:PW X (.BoolOp .Or (b::rest) pos) tB'):PW X (.BoolOp .Or (a::b::rest) pos) (aF tA tB'):=by
 intro m d s e H Q I h;refine isTrue_or (E_ (j d s e H _ I h) λc n ⟨f,g,i⟩=>?_);cases c with
 | true=>exact ⟨f,g,i⟩
 | false=>exact k m d n e f Q g i
def Du (e:PT X a tA):PT X (.UnaryOp .Not a pos) (DV tA):=by
 intro d s f H Q I h;exact isTrue_not (e d s f H (λc g=>Q (!c) g) I h)
def LQ (ta tb:TE):TE:=λd H Q=>ta d H λx e=>∃ c,x=.bl c/\if c=true then tb d e Q else Q (.bl false) e
def LR (ta tb:TE):TE:=λd H Q=>ta d H λx e=>∃ c,x=.bl c/\if c=true then Q (.bl true) e else tb d e Q
def V0 (ta:TE):TE:=λd H Q=>ta d H λx e=>∃ c,x=.bl c/\Q (.bl (!c)) e
def Ob {op} {t:TE} (h:PE X a t):PE X (.BoolOp op [a] pos) t:=λc s d H Q I e=>BoolOp_one (h c s d H Q I e)
theorem V1 (j:PE X a ta) (k:PE X (.BoolOp .And (b::rest) pos) tb):PE X (.BoolOp .And (a::b::rest) pos) (LQ ta tb):=by
 intro d s f H Q I h;refine BoolOp_and (E_ (j d s f H _ I h) λv m ⟨x,g,i,n,e⟩=>?_);obtain ⟨c,rfl,e⟩:=e;cases n;refine wpAny_truthy_bool ?_;cases c with
 | true=>exact k d m f g Q i e
 | false=>exact ⟨.bl false,g,i,rfl,e⟩
theorem V2 (j:PE X a ta) (k:PE X (.BoolOp .Or (b::rest) pos) tb):PE X (.BoolOp .Or (a::b::rest) pos) (LR ta tb):=by
 intro d s f H Q I h;refine BoolOp_or (E_ (j d s f H _ I h) λv m ⟨x,g,i,n,e⟩=>?_);obtain ⟨c,rfl,e⟩:=e;cases n;refine wpAny_truthy_bool ?_;cases c with
 | false=>exact k d m f g Q i e
 | true=>exact ⟨.bl true,g,i,rfl,e⟩
def aV (t:TT) (ta tb:TE):TE:=λd H Q=>t d H λc e=>if c=true then ta d e Q else tb d e Q
theorem IL {c:Expr} (m:PT X c tA) (n:PE X a ta) (o:PE X b tb):PE X (.IfExp c a b pos) (aV tA ta tb):=by
 intro e s f H Q I h;refine wpAny_IfExp (E_ (m e s f H _ I h) λd g ⟨i,j,k⟩=>?_);cases d with
 | true=>exact n e g f i Q j k
 | false=>exact o e g f i Q j k
end
def SqL (K:W.Frag) (H:Hp) (a:Addr) (xs:dj):Prop:=
 Rd H a (.lst xs)\/
  ∃ (o:Obj) (b:Array Value) (n:Nat),K.lookup a=some o/\o.cls=.type "list" /\ o.dict=none/\o.data=.seq b n/\b.size<=sizeLine/\Vals xs b.toList
def SqT (K:W.Frag) (H:Hp) (a:Addr) (xs:dj):Prop:=
 Rd H a (.tup xs)\/
  ∃ (o:Obj) (b:Array Value) (n:Nat),K.lookup a=some o/\o.cls=.type "tuple" /\ o.data=.seq b n/\b.size<=sizeLine/\Vals xs b.toList
noncomputable def V3:Value->dl
 | .none=>some .non
 | .bool b=>some (.bl b)
 | .int i _=>some (.int i)
 | .str x _=>some (.str x)
 | .bytes b _=>some (.byt b)
 | .float b _=>some (.flt b)
 | .ref a=>some (.ref a)
 | .type n=>some (.ty n)
 | _=>none
theorem RelV.abs {x:V} {u:Value} (r:RelV x u):V3 u=some x:=by
 cases x with
 | non=>cases r;rfl
 | bl _=>cases r;rfl
 | int _=>obtain ⟨t,rfl⟩:=r;rfl
 | str _=>obtain ⟨t,rfl⟩:=r;rfl
 | byt _=>obtain ⟨t,rfl⟩:=r;rfl
 | flt _=>obtain ⟨t,rfl⟩:=r;rfl
 | ref _=>cases r;rfl
 | ty _=>cases r;rfl
def RelV.inj {x y:V} {u:Value} (r:RelV x u) (q:RelV y u):x=y:=kH (r.abs.symm.trans q.abs)
theorem Vals.inj:∀ {xs a:dj} {b:du},Vals xs b->Vals a b->xs=a
 | _,_,_,.nil,.nil=>rfl
 | _,_,_,.cons r t,.cons c d=>by rw [r.inj c,Vals.inj t d]
section
variable {X:Cx} {pins:dC} {σ:St} {H:Hp} {s:Shared} {a:Addr} {xs ys:dj}
def SqL.of {K:W.Frag} (h:H a=some (.lst xs)):SqL K H a xs:=.inl (.inl h)
def SqT.of {K:W.Frag} (h:H a=some (.tup xs)):SqT K H a xs:=.inl (.inl h)
def Inv.list (I:Inv X pins σ H s) (h:SqL X.K H a xs):∃ b:du,Vals xs b/\PlainL s.heap a b.toArray/\xs.length<=sizeLine:=by
 rcases h with h | ⟨o,b,n,hk,c,d,f,g,r⟩
 ·obtain ⟨z,b,n,r,e⟩:=h.ok I.hok;exact ⟨b,r,⟨_,n,e,rfl,rfl,rfl⟩,z⟩
 ·refine ⟨b.toList,r,⟨o,n,I.kIn a o hk,c,d,by simpa using f⟩,?_⟩;have e:=r.length;simp only [Array.length_toList] at e;omega
def Inv.tuple (I:Inv X pins σ H s) (h:SqT X.K H a xs):∃ b:du,Vals xs b/\IsTup s.heap a b.toArray/\xs.length<=sizeLine:=by
 rcases h with h | ⟨o,b,n,hk,c,d,f,r⟩
 ·obtain ⟨z,b,r,p⟩:=h.ok I.hok;exact ⟨b,r,p,z⟩
 ·refine ⟨b.toList,r,⟨o,I.kIn a o hk,c,n,by simpa using d⟩,?_⟩;have e:=r.length;simp only [Array.length_toList] at e;omega
def Inv.list_inj (I:Inv X pins σ H s) (h:SqL X.K H a xs) (h':SqL X.K H a ys):xs=ys:=by
 obtain ⟨c,r,⟨o,n,e,_,_,d⟩,_⟩:=I.list h;obtain ⟨b,i,⟨k,m,f,_,_,g⟩,_⟩:=I.list h';rw [e] at f;cases f;rw [d] at g;injection g with j _;have:c=b:=by simpa using congrArg Array.toList j
 subst this;exact r.inj i
def Inv.tuple_inj (I:Inv X pins σ H s) (h:SqT X.K H a xs) (h':SqT X.K H a ys):xs=ys:=by
 obtain ⟨c,r,⟨o,e,_,n,d⟩,_⟩:=I.tuple h;obtain ⟨b,i,⟨k,f,_,m,g⟩,_⟩:=I.tuple h';rw [e] at f;cases f;rw [d] at g;injection g with j _;have:c=b:=by simpa using congrArg Array.toList j
 subst this;exact r.inj i
end
noncomputable abbrev Cx.wish (X:Cx) (E:dw):Cx:={ X with xe:=E }
noncomputable abbrev Cx.nox (X:Cx):Cx:=X.wish λ_ _=>False
def Cx.Ok.wish {X:Cx} (ok:X.Ok) (E:dw):(X.wish E).Ok:=
 ⟨ok.mod,ok.kind,ok.glob,ok.blt,ok.above,ok.inj,ok.has,ok.cab,ok.hd,ok.frames,ok.stk,ok.exf,ok.bs,ok.bsz,ok.noex,ok.exfs,ok.funs,ok.frf,ok.seer,ok.tree,ok.plr⟩
def Cx.Ok.unwish {X:Cx} {E:dw} (ok:(X.wish E).Ok):X.Ok:=
 ⟨ok.mod,ok.kind,ok.glob,ok.blt,ok.above,ok.inj,ok.has,ok.cab,ok.hd,ok.frames,ok.stk,ok.exf,ok.bs,ok.bsz,ok.noex,ok.exfs,ok.funs,ok.frf,ok.seer,ok.tree,ok.plr⟩
section
variable {X:Cx} {pins:dC} {σ:St} {H:Hp} {s:Shared} {E:dw}
def Inv.wish (I:Inv X pins σ H s) (E:dw):Inv (X.wish E) pins σ H s:=⟨I.ok.wish E,I.os,I.bare,I.base,I.loc,I.cell,I.free,I.freeC,I.pin,I.hok,I.len⟩
def Inv.unwish (I:Inv (X.wish E) pins σ H s):Inv X pins σ H s:=⟨I.ok.unwish,I.os,I.bare,I.base,I.loc,I.cell,I.free,I.freeC,I.pin,I.hok,I.len⟩
theorem SP.unwish {D:Ends} {f:Flow} {s':Shared} (h:SP (X.wish E) pins D f s'):SP X pins D f s':=by
 cases f with
 | next=>obtain ⟨a,b,I,q⟩:=h;exact ⟨a,b,I.unwish,q⟩
 | brk=>obtain ⟨a,b,I,q⟩:=h;exact ⟨a,b,I.unwish,q⟩
 | cont=>obtain ⟨a,b,I,q⟩:=h;exact ⟨a,b,I.unwish,q⟩
 | ret u=>obtain ⟨v,a,b,I,r,q⟩:=h;exact ⟨v,a,b,I.unwish,r,q⟩
def PSs.nox {st:List Stmt} {t:TS} (h:PSs X.nox st t):PSs X st t:=λpins s σ H D I a=>
 kG (h pins s σ H D (I.wish _) a) (λ_ _ q=>q.unwish) λ_ _ z=>False.elim z
end
section
variable {X:Cx} {st:Stmt} {rest:List Stmt} {t u:TS} {e:Expr} {te:TE} {pos:Pos}
def BM:TS:=λD a H=>D.nx a H
def AI (t u:TS):TS:=λD a H=>t { D with nx:=u D } a H
def BS:PSs X [] BM:=λ_ _ a H _ I h=>wpAny_execs_nil ⟨a,H,I,h⟩
theorem AJ (c:PS X st t) (d:PSs X rest u):PSs X (st::rest) (AI t u):=by
 intro a s g H D I h;refine wpAny_execs_cons (E_ (c a s g H { D with nx:=u D } I h) λf i q=>?_);cases f with
 | next=>
   obtain ⟨b,j,k,q⟩:=q;exact d a i b j D k q
 | ret v=>exact q
 | brk=>exact q
 | cont=>exact q
theorem AS (b:PS X st t):PSs X [st] t:=by
 intro a s c H D I h;refine wpAny_execs_cons (E_ (b a s c H D I h) λf d q=>?_);cases f with
 | next=>exact wpAny_execs_nil q
 | ret v=>exact q
 | brk=>exact q
 | cont=>exact q
def Inv.quiet {a:dC} {b:St} {H:Hp} {s:Shared} (I:Inv X a b H s):interactive X.env=false:=by simp [interactive,I.ok.kind]
def IM (te:TE):TS:=λD a H=>te a H λ_ b=>D.nx a b
def LS (c:PE X e te) (d:swapsWith e none pos.line X.env=pure false:=by rfl):PS X (.Expr e pos) (IM te):=by
 intro a s b H D I h;exact wpAny_Expr_any (E_ (c a s b H _ I h) λv j ⟨x,f,g,k,i⟩=>⟨b,f,g,i⟩) I.quiet d
def Ab (te:TE):TS:=λD a H=>te a H D.rt
def Ac (c:PE X e te):PS X (.Return (some e) pos) (Ab te):=by
 intro a s b H D I h;exact wpAny_Return_some (E_ (c a s b H _ I h) λv j ⟨x,d,f,g,i⟩=>⟨x,b,d,f,g,i⟩)
def BG (c:TT) (t u:TS):TS:=λD a H=>c a H λb d=>if b=true then t D a d else u D a d
theorem BT {c:Expr} {a b:List Stmt} {tc:TT} (n:PT X c tc) (o:PSs X a t) (p:PSs X b u):PS X (.If c a b pos) (BG tc t u):=by
 intro f s g H D I h;refine wpAny_If (E_ (n f s g H _ I h) λd i ⟨j,k,m⟩=>?_);cases d with
 | true=>exact o f i g j D k m
 | false=>exact p f i g j D k m
end
noncomputable abbrev TG:=V->St->Hp->(St->Hp->Prop)->Prop
noncomputable abbrev aQ:=dj->St->Hp->(St->Hp->Prop)->Prop
def PG (X:Cx) (a:Expr) (t:TG):Prop:=
 ∀ (b:dC) (s:Shared) (d:St) (H:Hp) (v:V) (u:Value) (Q:St->Hp->Prop),Inv X b d H s->RelV v u->t v d H Q->
   wpAny (model X.prog X.w) X.A (assign a X.env u) (λ_ f=>∃ c e,Inv X b c e f/\Q c e) X.xe s
def cf (X:Cx) (g:dF) (t:aQ):Prop:=
 ∀ (a:dC) (s:Shared) (c:St) (H:Hp) (d:dj) (e:du) (Q:St->Hp->Prop),Inv X a c H s->Vals d e->t d c H Q->
   wpAny (model X.prog X.w) X.A (assignInOrder ((assignEach g X.env).map (·.2)) e) (λ_ h=>∃ b f,Inv X a b f h/\Q b f) X.xe s
noncomputable abbrev aJ:=V->V->V->Hp->(Hp->Prop)->Prop
def be (X:Cx) (t:aJ):Prop:=
 ∀ (a:dC) (s:Shared) (b:St) (H:Hp) (o i v:V) (c d u:Value) (Q:Hp->Prop),Inv X a b H s->RelV o c->RelV i d->RelV v u->t o i v H Q->
   wpAny (model X.prog X.w) X.A (setItem c d u) (λ_ f=>∃ e,Inv X a b e f/\Q e) X.xe s
noncomputable abbrev cg:=V->V->Hp->VK->Prop
def PIp (X:Cx) (c:Operator) (t:cg):Prop:=
 ∀ (a:dC) (s:Shared) (b:St) (H:Hp) (x y:V) (v u:Value) (Q:VK),Inv X a b H s->RelV x v->RelV y u->t x y H Q->
   wpAny (model X.prog X.w) X.A (inplaceOp c v u) (EP X a b Q) X.xe s
section
variable {X:Cx} {pos:Pos}
def AH (i:Nat):TG:=λv a H Q=>Q (a.set i (some v)) H
def Am {i:Nat} {x:Str} (b:X.N.Nodup) (c:X.N[i]?=some x) (d:aU X.env.scope x) (e:X.fn x=true\/X.env.scope.names.lookup x=some .local:=by first | exact .inl rfl | exact .inr rfl | assumption):PG X (.Name x pos) (AH i):=by
 intro a s g H v u Q I r h;exact wpAny_assign_Name (LP I b c d r (λj f=>⟨_,H,f,h⟩) e)
noncomputable def Dh:aQ:=λa b H Q=>a=[]/\Q b H
noncomputable def B8 (t:TG) (u:aQ):aQ:=λb c H Q=>∃ v r,b=v::r/\t v c H λa d=>u r a d Q
def EJ:cf X [] Dh:=by
 intro a s b H c d Q I r h;obtain ⟨e,h⟩:=h;subst e;cases r;exact assignInOrder_nil ⟨b,H,I,h⟩
theorem CH {e:Expr} {b:dF} {t:TG} {u:aQ} (d:PG X e t) (f:cf X b u)
  (g:(assignEach (e::b) X.env).map (·.2)=assign e X.env::(assignEach b X.env).map (·.2):=by rfl):cf X (e::b) (B8 t u):=by
 intro a s i H q w Q I r h;obtain ⟨v,x,j,h⟩:=h;subst j;cases r with
 | cons r k=>
   rw [g];refine assignInOrder_cons (E_ (d a s i H _ _ _ I r h) λ_ m ⟨c,n,o,p⟩=>?_);exact f a m c n _ _ Q o k p
def V4 (K:W.Frag) (n:Nat) (t:aQ):TG:=λv c H Q=>∃ a b,v=.ref a/\SqT K H a b/\b.length=n/\t b c H Q
def V5 {d:dF} {k:Nat} {t:aQ} {n:Nat} (p:X.calm=true) (h:cf X d t)
  (q:(assignEach d X.env).length=n:=by rfl) (f:(assignEach d X.env).findIdx? (·.1)=none:=by rfl):PG X (.Tuple d k pos) (V4 X.K n t):=by
 intro c s i H v u Q I r g;obtain ⟨a,w,x,y,z,g⟩:=g;subst x;cases r;obtain ⟨A,j,B,F⟩:=I.tuple y;refine assign_Tuple_tuple (I.ok.hd p) B (by simp [q,<-z,j.length]) f λC D=>?_;have E:Inv X c i H { s with heap:=C }:=I.kept (t':=s.toks) λb o e=>D b o (Bv (kI e)) e;exact h c _ i H w _ Q E (by simpa using j) g
def Fb (b c:TE) (t:aJ):TG:=λv a H Q=>b a H λo d=>c a d λi e=>t o i v e λf=>Q a f
def HH {o i:Expr} {e f:TE} {t:aJ} (g:PE X o e) (j:PE X i f) (k:be X t)
  (m:∀ v,assign (.Subscript o i pos) X.env v=(do
   let b <-holding [v] (eval o X.env);let c <-holding [v,b] (eval i X.env)
   standAt pos
   holding [v,b,c] (setItem b c v)
   release [v,b,c] []):=by intro _;rfl):PG X (.Subscript o i pos) (Fb e f t):=by
 intro a s d H v u Q I r h;rw [m];refine kE (wpAny_holding (E_ (g a s d H _ I h) λb n ⟨x,p,q,w,z⟩=>?_));refine kE (wpAny_holding (E_ (j a n d p _ q z) λc A ⟨y,B,C,D,E⟩=>?_));refine kE (wpAny_standAt (kE (wpAny_holding (E_ (k a A d B x y v b c u _ C w D r E) λ_ K ⟨F,G,J⟩=>?_))));exact wpAny_release ⟨d,F,G,J⟩
def AM (b:TE) (g:TG):TS:=λD a H=>b a H λx c=>g x a c D.nx
def HI {b e:Expr} {c:TE} {g:TG} (f:PE X e c) (i:PG X b g) (j:swapsWithSole [b] e pos.line X.env=pure false:=by rfl) (k:swappedStores [b] e X.env=pure none:=by rfl)
  (m:(assignEach [b] X.env).map (·.2)=[assign b X.env]:=by rfl):PS X (.Assign [b] e pos) (AM c g):=by
 intro a s d H D I h;refine wpAny_Assign_stores (E_ (f a s d H _ I h) λv n ⟨x,o,p,r,u⟩=>?_) j k;rw [m];exact E_ (i a n d o x v _ p r u) λ_ w q=>q
def C6 {i:Nat} {x:Str} {e:Expr} {c:TE} {a:Pos} (d:X.N.Nodup) (f:X.N[i]?=some x) (g:aU X.env.scope x) (j:PE X e c) (k:swapsWith e (some (.Name x a)) pos.line X.env=pure false:=by rfl) (m:X.fn x=true\/X.env.scope.names.lookup x=some .local:=by first | exact .inl rfl | exact .inr rfl | assumption) :
  PS X (.Assign [.Name x a] e pos) (AM c (AH i)):=by
 intro b s n H D I h;refine wpAny_Assign_Name (E_ (j b s n H _ I h) λv w ⟨y,o,p,q,r⟩=>?_) k;exact LP p d f g q (λz u=>⟨_,o,u,r⟩) m
def V6 (i j:Nat) (b:TA):TS:=λD a H=>b a H λc d=>∃ v w,c=[v,w]/\D.nx ((a.set i (some v)).set j (some w)) d
def EK (i:Nat) (b:TE) (c:cg):TS:=λD a H=>∃ x,a[i]?=some (some x)/\b a H λy d=>c x y d λz e=>D.nx (a.set i (some z)) e
def E6 {i:Nat} {x:Str} {e:Expr} {p:TE} {j:Operator} {q:cg} {d:Pos} (E:X.N.Nodup) (A:X.N[i]?=some x) (n:aU X.env.scope x) (F:PE X e p) (G:PIp X j q) (J:X.fn x=true\/X.env.scope.names.lookup x=some .local:=by first | exact .inl rfl | exact .inr rfl | assumption) :
  PS X (.AugAssign (.Name x d) j e pos) (EK i p q):=by
 intro a s B H D I h;obtain ⟨v,K,h⟩:=h;obtain ⟨m,L,M⟩:=I.loc;have o:ca X.env.scope x:=by rcases n with k | k;exact .inl k;exact .inr (.inl k)
 obtain ⟨u,r,l⟩:=M i x v A K o;refine wpAny_AugAssign_Name ?_
 have C:wpAny (model X.prog X.w) X.A (eval e X.env) (λw f=>wpAny (model X.prog X.w) X.A (inplaceOp j u w) (λr g=>wpAny (model X.prog X.w) X.A (storeName X.env x r) (λ_=>SP X a D .next) X.xe g) X.xe f) X.xe s:=by
  refine E_ (F a s B H _ I h) λw N ⟨y,O,P,Q,R⟩=>?_;refine E_ (G a N B O v y u w _ P r Q R) λz s2 ⟨zv,S,T,U,W⟩=>?_;exact LP T E A n U (λs3 Y=>⟨_,S,Y,W⟩) J
 rcases l with ⟨hk,Z⟩ | ⟨hk,c,hc,b⟩
 ·exact wpAny_loadName_local I.ok.kind hk L Z C
 ·rcases hk with hk | hk
  ·exact wpAny_loadName_cell I.ok.kind hk hc b C
  ·rcases n with k | k
   ·have:X.env.scope.names.lookup x=some .free:=hk;rw [k] at this;cases this
   ·have:X.env.scope.names.lookup x=some .free:=hk;rw [k] at this;cases this
def GO (e f g:TE) (a:V->V->Hp->VK->Prop) (d:cg) (b:aJ):TS:=λD c H=>e c H λo h=>f c h λi j=>a o i j λx k=>g c k λy m=>d x y m λz n=>b o i z n λp=>D.nx c p
def cr (X:Cx) (t:V->V->Hp->VK->Prop):Prop:=
 ∀ (a:dC) (s:Shared) (b:St) (H:Hp) (o i:V) (c d:Value) (Q:VK),Inv X a b H s->RelV o c->RelV i d->t o i H Q->
   wpAny (model X.prog X.w) X.A (getItem c d) (EP X a b Q) X.xe s
def IN {o i e:Expr} {p q r:TE} {c:V->V->Hp->VK->Prop} {k:cg} {d:aJ} {u:Operator} {m:Pos} (A:PE X o p) (B:PE X i q) (C:cr X c) (E:PE X e r) (hp:PIp X u k) (F:be X d)
  (G:∀ f g b,augStore i f g b=(do holding [b,f,g] (setItem f g b);release [b,f,g] [];pure .next):=by intros;rfl):PS X (.AugAssign (.Subscript o i m) u e pos) (GO p q r c k d):=by
 intro a s j H D I h;refine wpAny_AugAssign_SubscriptAny (E_ (A a s j H _ I h) λf J ⟨w,K,L,x,M⟩=>?_) G;refine E_ (B a J j K _ L M) λg N ⟨y,O,P,z,Q⟩=>?_;refine E_ (C a N j O w y f g _ P x z Q) λn R ⟨S,T,U,W,Y⟩=>?_;refine E_ (E a R j T _ U Y) λv Z ⟨x4,H4,I4,r4,q4⟩=>?_;refine E_ (hp a Z j H4 S x4 n v _ I4 W r4 q4) λb s5 ⟨x5,H5,I5,r5,q5⟩=>?_;exact E_ (F a s5 j H5 w y x5 f g b _ I5 x z r5 q5) λ_ s6 ⟨H6,I6,q6⟩=>⟨j,H6,I6,q6⟩
end
section
variable {X:Cx} {pos:Pos}
def EL (c:TT) (h:TS):TS:=λD a H=>∃ W:Nat->St->Hp->Prop,(∃ m,W m a H)/\∀ m a H,W m a H->
 c a H λb e=>if b=true then ∃ N:St->Hp->Prop,(∀ d f,N d f->∃ g,g<m/\W g d f)/\h { D with nx:=N,ct:=N,bk:=D.nx } a e else D.nx a e
theorem E7 {c:Expr} {g:List Stmt} {tc:TT} {x:TS} (hp:PassesOwn (model X.prog X.w) X.A X.env X.xe) (E:PT X c tc) (F:PSs X g x):PS X (.While c g [] pos) (EL tc x):=by
 intro a s G H D I h;obtain ⟨W,⟨J,K⟩,i⟩:=h;refine wpAny_While (codeAny_whileLoop (λn L=>∃ j y,Inv X a j y L/\W n j y) ?_ J ⟨G,H,I,K⟩);rintro n M ⟨e,z,O,P⟩;refine wpAny_passesOwn hp (E_ (E a M e z _ O (i n e z P)) λb Q ⟨A,B,m⟩=>?_);cases b with
 | true=>
   obtain ⟨N,C,m⟩:=m;rw [kA rfl];refine wpAny_passesOwn hp (E_ (F a Q e A _ B m) λf R o=>?_);cases f with
   | next=>
     obtain ⟨d,k,p,q⟩:=o;obtain ⟨r,u,w⟩:=C d k q;exact ⟨r,u,d,k,p,w⟩
   | cont=>
     obtain ⟨d,k,p,q⟩:=o;obtain ⟨r,u,w⟩:=C d k q;exact ⟨r,u,d,k,p,w⟩
   | brk=>exact o
   | ret v=>exact o
 | false=>
   rw [lZ Cc];exact wpAny_execs_nil ⟨e,A,B,m⟩
end
structure It where
 go:Nat->Hp->Prop
 yld:Nat->Hp->V->Hp->Prop
 stop:Nat->Hp->Prop
def DW (X:Cx) (a:dC) (H:Hp) (b:Addr):Prop:=
 H b=none/\b≠X.env.locals/\b∉X.fs/\(b∈X.ex\/X.s₀.heap.objs.size<=b)/\(∀ x c,X.env.cells.lookup x=some c->c≠b)/\∀ p∈X.pn++a,p.1≠b
def Inv.fpOk {X:Cx} {a:dC} {g:St} {H f:Hp} {s:Shared} {b:Addr} (I:Inv X a g H s) (d:s.heap.objs.size<=b) (h:f b=none):DW X a f b:=by
 refine ⟨h,Nat.ne_of_gt (CP I.lt d),I.nofs d,.inr (A7 I.sz d),λx c e z=>?_,λp hp z=>?_⟩
 ·obtain ⟨v,q⟩:=I.cell x c e;exact absurd (CP q.lt (by rw [z];exact d)) (DH _)
 ·exact absurd (CP (kI (I.pin p hp).1) (by rw [z];exact d)) (DH _)
structure Turn (P:Program) (w:World) (K:W.Frag) (tg:Expr) (J:It) (fp:dJ) (it:Addr) (tn:Nat->Heap->Prop):Prop where
 mem:it∈fp
 obj:∀ i h,tn i h->∀ b∈fp,∃ o,h.get? b=some o/\∀ v,o.data≠.cell v
 keep:∀ i h h',tn i h->(∀ b∈fp,∀ o,h.get? b=some o->h'.get? b=some o)->tn i h'
 item:∀ (X:Cx),X.prog=P->X.w=w->X.K=K->X.calm=true->∀ (i:Nat) (pins:dC) (s:Shared) (σ:St) (H:Hp) (E:dw),Inv X pins σ H s->(∀ b∈fp,DW X pins H b)->tn i s.heap->J.go i H->
  wpAny (model P w) X.A (pyNext (.ref it)) (λr s1=>∃ u,r=some u/\
   wpAny (model P w) X.A (letOwnedTupleGo tg (.ref it) u) (λ_ s2=>∃ x H',Inv X pins σ H' s2/\RelV x u/\J.yld i H x H'/\tn (i+1) s2.heap/\∀ b∈fp,H' b=none) E s1) E s
 done:∀ (X:Cx),X.prog=P->X.w=w->X.K=K->X.calm=true->∀ (i:Nat) (pins:dC) (s:Shared) (σ:St) (H:Hp) (E:dw),Inv X pins σ H s->(∀ b∈fp,DW X pins H b)->tn i s.heap->J.stop i H->
  wpAny (model P w) X.A (pyNext (.ref it)) (λr s1=>r=none/\Inv X pins σ H s1) E s
 self:∀ (A:Around) (i:Nat) (s:Shared) (Q:dw) (E:dw),tn i s.heap->Q (.ref it) s->wpAny (model P w) A (pyIter (.ref it)) Q E s
noncomputable abbrev TI:=St->Hp->(It->Hp->Prop)->Prop
def PIE (X:Cx) (a:dC) (h:St) (i:Expr) (R:It->Hp->Prop) (c:Value) (e:Shared):Prop:=
 ∃ (f:Addr) (g:dJ) (tn:Nat->Heap->Prop) (J:It) (d:Hp),c=.ref f/\Inv X a h d e/\Turn X.prog X.w X.K i J g f tn/\tn 0 e.heap/\(∀ b∈g,DW X a d b)/\R J d
def PI (X:Cx) (d b:Expr) (e:TI):Prop:=
 ∀ (a:dC) (s:Shared) (c:St) (H:Hp) (R:It->Hp->Prop),Inv X a c H s->e c H R->
   wpAny (model X.prog X.w) X.A (eval b X.env) (λv f=>wpAny (model X.prog X.w) X.A (pyIter v) (PIE X a c d R) X.xe f) X.xe s
def IO {M:Model} {A:Around} {E:dw} {s:Shared} {b:Expr} {c:Addr} {u:Value} {o:Obj} {n:String} {d:Array Value} {Q:Unit->Shared->Prop} (e:s.heap.get? c=some o) (f:o.cls=.type n) (g:o.data=.fields d)
  (i:["enumerate", "zip", "dict_itemiterator", "dict_reverseitemiterator", "odict_iterator", "itertools.zip_longest", "itertools.pairwise"].contains n=false) (a:Q Unit.unit s):wpAny M A (letOwnedTupleGo b (.ref c) u) Q E s:=by
 unfold letOwnedTupleGo
 cases b <;> first
  | exact kF a
  | (cases u <;> first
    | exact kF a
    | (refine kE (wpAny_load e ?_)
       rw [f,g];show wpAny M A (if (["enumerate", "zip", "dict_itemiterator", "dict_reverseitemiterator", "odict_iterator", "itertools.zip_longest", "itertools.pairwise"].contains n && d[0]? == some (rawInt _))=true then _ else _) Q E s;rw [lZ (by intro h;rw [i,Bool.false_and] at h;cases h)];exact kF a))
noncomputable def ax (K:W.Frag) (a:Addr):It:=
 ⟨λi H=>∃ b x,SqL K H a b/\b[i]?=some x,λi H x c=>c=H/\∀ b,SqL K H a b->b[i]?=some x,λi H=>∃ b,SqL K H a b/\b.length<=i⟩
noncomputable def aG (K:W.Frag) (a:Addr):It:=
 ⟨λi H=>∃ b x,SqT K H a b/\b[i]?=some x,λi H x c=>c=H/\∀ b,SqT K H a b->b[i]?=some x,λi H=>∃ b,SqT K H a b/\b.length<=i⟩
noncomputable def ay (lo:Int) (n:Nat):It:=⟨λi _=>i<n,λi H x a=>a=H/\x=.int (lo+i),λi _=>n<=i⟩
def V7 {P:Program} {w:World} {K:W.Frag} {T:Expr} (a g:Addr):Turn P w K T (ax K a) [g] g (λi h=>h.IsListIter g a i) where
 mem:=by simp
 obj:=λi h st b j=>by
  have e:b=g:=by simpa using j
  subst e
  obtain ⟨o,e,c,d⟩:=st
  exact ⟨o,e,λv z=>by rw [d] at z;cases z⟩
 keep:=λi h q st k=>st.at λo e=>k g (by simp) o e
 item:=by
  intro X A B C R i f s S H E I r st D
  subst A B C
  obtain ⟨U,x,y,F⟩:=D
  obtain ⟨G,J,p,Y⟩:=I.list y
  obtain ⟨u,Z,ru⟩:=J.get F
  obtain ⟨L,M,f2,N,O,Q⟩:=r g (by simp)
  refine wpAny_pyNext_list_item st p.isList (x:=u) (by simpa using Z) λq m sb=>?_
  have I1:Inv X f S H { s with heap:=q }:=I.turned (t':=s.toks) (λb o j e=>(sb.2 b j).trans e) L M N O Q
  obtain ⟨o,e,c,d⟩:=id m
  exact ⟨u,rfl,IO (s:={ s with heap:=q }) e c d ∅ ⟨x,H,I1,ru,⟨rfl,λys hy=>by rw [I.list_inj hy y];exact F⟩,m,λb j=>(r b j).1⟩⟩
 done:=by
  intro X A B C R i f s S H E I r st D
  subst A B C
  obtain ⟨U,y,F⟩:=D
  obtain ⟨G,J,p,Y⟩:=I.list y
  obtain ⟨L,M,f2,N,O,Q⟩:=r g (by simp)
  have hl:=J.length
  exact wpAny_pyNext_list_end (I.ok.hd R) st p.isList (by simp;omega) λq eb=>⟨rfl,I.turned (t':=s.toks) (λb o j e=>eb b o j e) L M N O Q⟩
 self:=λ_ _ _ _ _ st h=>wpAny_pyIter_listiter st h
def V8 {P:Program} {w:World} {K:W.Frag} {T:Expr} (a g:Addr):Turn P w K T (aG K a) [g] g (λi h=>h.IsTupleIter g a i) where
 mem:=by simp
 obj:=λi h st b j=>by
  have e:b=g:=by simpa using j
  subst e
  obtain ⟨o,e,c,d⟩:=st
  exact ⟨o,e,λv z=>by rw [d] at z;cases z⟩
 keep:=λi h r st k=>st.at λo e=>k g (by simp) o e
 item:=by
  intro X B C D R i f s S H E I y st F
  subst B C D
  obtain ⟨U,x,A,G⟩:=F
  obtain ⟨m,J,p,Y⟩:=I.tuple A
  obtain ⟨u,Z,ru⟩:=J.get G
  obtain ⟨L,M,f2,N,O,Q⟩:=y g (by simp)
  refine wpAny_pyNext_tuple_item st (show s.heap.IsTuple a m.toArray from p) (x:=u) (by simpa using Z) λr n sb=>?_
  have I1:Inv X f S H { s with heap:=r }:=I.turned (t':=s.toks) (λb o j e=>(sb.2 b j).trans e) L M N O Q
  obtain ⟨o,e,c,d⟩:=id n
  exact ⟨u,rfl,IO (s:={ s with heap:=r }) e c d ∅ ⟨x,H,I1,ru,⟨rfl,λys hy=>by rw [I.tuple_inj hy A];exact G⟩,n,λb j=>(y b j).1⟩⟩
 done:=by
  intro X B C D R i f s S H E I y st F
  subst B C D
  obtain ⟨U,A,G⟩:=F
  obtain ⟨m,J,p,Y⟩:=I.tuple A
  obtain ⟨L,M,f2,N,O,Q⟩:=y g (by simp)
  have hl:=J.length
  exact wpAny_pyNext_tuple_end (I.ok.hd R) st (show s.heap.IsTuple a m.toArray from p) (by simp;omega) λr eb=>⟨rfl,I.turned (t':=s.toks) (λb o j e=>eb b o j e) L M N O Q⟩
 self:=λ_ _ _ _ _ st h=>wpAny_pyIter_tupleiter st h
def V9 {P:Program} {w:World} {K:W.Frag} {L:Expr} (a:Addr) (lo:Int) (n:Nat):Turn P w K L (ay lo n) [a] a (λi h=>IsRangeIter h a (lo+(i:Nat)*1) ((n:Int) - (i:Nat)) 1) where
 mem:=by simp
 obj:=λi h st b d=>by
  have e:b=a:=by simpa using d
  subst e
  exact ⟨_,st,λv z=>by
   have M:Data.fields _=Data.cell v:=z
   cases M⟩
 keep:=λi h m st k=>k a (by simp) _ st
 item:=by
  intro X q r u x i c s G H E I p st y
  subst q r u
  obtain ⟨A,B,N,C,D,F⟩:=p a (by simp)
  have W:=Walks.range (prog:=X.prog) (w:=X.w) (I.ok.hd x) a lo 1 n
  refine W.item i s _ _ y st λv m J O f Q=>?_
  obtain ⟨t,rfl⟩:=O
  have R:Inv X c G H { s with heap:=m,toks:=J }:=I.turned (λb o d e=>Q b o (by simpa using d) e) A B C D F
  refine ⟨_,rfl,IO (s:={ s with heap:=m,toks:=J }) (n := "range_iterator") f rfl rfl ∅ ⟨.int (lo+i),H,R,⟨t,?_⟩,⟨rfl,rfl⟩,f,λb d=>(p b d).1⟩⟩
  rw [Int.mul_one]
 done:=by
  intro X q r u x i c s G H E I p st y
  subst q r u
  obtain ⟨A,B,N,C,D,F⟩:=p a (by simp)
  exact wpAny_pyNext_range_end (I.ok.hd x) st (by have:n<=i:=y;omega) λm S=>⟨rfl,I.turned (t':=s.toks) (λb o d e=>S b o d e) A B C D F⟩
 self:=λ_ _ _ _ _ st h=>wpAny_pyIter_rangeiter st h
section
variable {X:Cx} {tg:Expr}
def C7 (K:W.Frag) (c:TE):TI:=λd H R=>c d H λx b=>∃ a,x=.ref a/\(∃ e,SqL K b a e)/\R (ax K a) b
def C8 (K:W.Frag) (c:TE):TI:=λd H R=>c d H λx b=>∃ a,x=.ref a/\(∃ e,SqT K b a e)/\R (aG K a) b
def EM {l:Expr} {g:TE} (i:PE X l g):PI X tg l (C7 X.K g):=by
 intro c s j H R I h;refine E_ (i c s j H _ I h) λv d ⟨x,k,f,m,n⟩=>?_;obtain ⟨a,e,⟨y,r⟩,q⟩:=n;subst e;cases m;obtain ⟨u,z,p,A⟩:=f.list r;refine wpAny_pyIter_list p.isList ?_;refine ⟨d.heap.objs.size,[d.heap.objs.size],_,_,k,rfl,f.kept (t':=d.toks) λb o e=>Heap.get?_push_of_some _ e,V7 a _,⟨_,Heap.get?_push_size _ rfl,rfl,rfl⟩,λb w=>?_,q⟩;have e:b=d.heap.objs.size:=by simpa using w
 subst e;exact f.fpOk (AT _) (f.hok.fresh (AT _))
def EN {l:Expr} {i:TE} (j:PE X l i):PI X tg l (C8 X.K i):=by
 intro c s k H R I h;refine E_ (j c s k H _ I h) λv d ⟨x,m,f,n,r⟩=>?_;obtain ⟨a,e,⟨y,u⟩,q⟩:=r;subst e;cases n;obtain ⟨g,z,p,A⟩:=f.tuple u;refine wpAny_pyIter_tuple (show d.heap.IsTuple a g.toArray from p) ?_;refine ⟨d.heap.objs.size,[d.heap.objs.size],_,_,m,rfl,f.kept (t':=d.toks) λb o e=>Heap.get?_push_of_some _ e,V8 a _,⟨_,Heap.get?_push_size _ rfl,rfl,rfl⟩,λb w=>?_,q⟩;have e:b=d.heap.objs.size:=by simpa using w
 subst e;exact f.fpOk (AT _) (f.hok.fresh (AT _))
def WA {d:dC} {i:St} {H:Hp} {s:Shared} {R:It->Hp->Prop} {E:dw} {lo c:Int} {t u v:Tok} {tk:Nat} (I:Inv X d i H s) (k:-(2 ^ 62)<=lo) (m:lo<2 ^ 62) (n:-(2 ^ 62)<=c) (p:c<2 ^ 62)
  (q:R (ay lo (c - lo).toNat) H):wpAny (model X.prog X.w) X.A (pyIter (.ref s.heap.objs.size)) (PIE X d i tg R) E { s with heap:=s.heap.push { cls:=.type "range", data:=.fields #[.int lo t,.int c u,.int 1 v] },toks:=tk }:=by
 refine wpAny_pyIter_range (IsRange.new ..) (small_one k m n p) ?_;have j:Inv X d i H { s with heap:=s.heap.push { cls:=.type "range", data:=.fields #[.int lo t,.int c u,.int 1 v] },toks:=tk }:=I.kept λb o e=>Heap.get?_push_of_some _ e
 refine ⟨(s.heap.push { cls:=.type "range", data:=.fields #[.int lo t,.int c u,.int 1 v] }).objs.size,[(s.heap.push { cls:=.type "range", data:=.fields #[.int lo t,.int c u,.int 1 v] }).objs.size],_,_,H,rfl,
  j.kept (t':=tk) λb o e=>Heap.get?_push_of_some _ e,V9 _ lo (c - lo).toNat,?_,λb r=>?_,q⟩
 ·have w:lo+((0:Nat):Int)*1=lo:=by simp
  have x:(((c - lo).toNat:Nat):Int) - ((0:Nat):Int)=Builtin.Range.rangeSize lo c 1:=by rw [rangeSize_one];split <;> omega
  show IsRangeIter _ _ (lo+((0:Nat):Int)*1) ((((c - lo).toNat:Nat):Int) - ((0:Nat):Int)) 1;rw [w,x];exact Heap.get?_push_size _ rfl
 ·have e:b=(s.heap.push { cls:=.type "range", data:=.fields #[.int lo t,.int c u,.int 1 v] }).objs.size:=by simpa using r
  subst e;exact j.fpOk (AT _) (j.hok.fresh (AT _))
def CW (a:TA):TI:=λb H R=>a b H λc d=>∃ j:Int,c=[.int j]/\-(2 ^ 62)<=j/\j<2 ^ 62/\R (ay 0 j.toNat) d
theorem DK {a:Expr} {f:TA} {p b:Pos} (g:Gl X "range") (i:X.mg "range" = none) (k:PA X [a] f) (m:starEach [a] X.env=[(false,eval a X.env)]:=by rfl):PI X tg (.Call (.Name "range" p) [a] [] b) (CW f):=by
 intro c s n H R I h;refine Call_ (Em I g i boot_range (PyProof.Rows.callWith_type1 (E_ (k b c s n H _ I h) λx y ⟨z,A,o,u,d⟩=>?_) m rfl));obtain ⟨j,e,d,v,q⟩:=d;subst e;cases u with
 | cons r w=>
   cases w;obtain ⟨t,rfl⟩:=r;exact call_range_1 (WA o ⋯ ⋯ d v (by simpa using q))
def BH (f:TI) (g:TG) (h:TS):TS:=λD a H=>f a H λJ j=>∃ W:Nat->Nat->St->Hp->Prop,(∃ m,W 0 m a j)/\∀ i m a H,W i m a H->
 (J.stop i H/\D.nx a H)\/(J.go i H/\∃ N:St->Hp->Prop,(∀ b c,N b c->∃ e,e<m/\W (i+1) e b c)/\∀ x c,J.yld i H x c->g x a c λd k=>h { D with nx:=N,ct:=N,bk:=D.nx } d k)
noncomputable def Jq (a:dJ) (h:Heap):dC:=a.filterMap λb=>(h.get? b).map λo=>(b,o)
def Jr {a:dJ} {h:Heap} {b:Addr} {o:Obj} (c:b∈a) (e:h.get? b=some o):(b,o)∈Jq a h:=List.mem_filterMap.mpr ⟨b,c,by rw [e];rfl⟩
theorem WB {a:dJ} {h:Heap} {p:Addr×Obj} (hp:p∈Jq a h):p.1∈a/\h.get? p.1=some p.2:=by
 obtain ⟨b,c,e⟩:=List.mem_filterMap.mp hp;cases q:h.get? b with
 | none=>rw [q] at e;cases e
 | some o=>
   rw [q] at e;have d:(b,o)=p:=kH e;subst d;exact ⟨c,q⟩
def Inv.pinned {a:dC} {f:St} {H:Hp} {s:Shared} {c:dJ} (I:Inv X a f H s) (i:∀ b∈c,DW X a H b) (j:∀ b∈c,∃ o,s.heap.get? b=some o/\∀ v,o.data≠.cell v):Inv X (a++Jq c s.heap) f H s:=
 I.pins_of λp hp=>(EA.mp hp).elim (λz=>I.pin p (DQ _ z)) λz=>by
  obtain ⟨g,e⟩:=WB z;obtain ⟨k,m,n,_⟩:=i p.1 g;obtain ⟨o,h,d⟩:=j p.1 g;rw [e] at h;cases h;exact ⟨e,k,m,n,d⟩
def Inv.unpinned {a c:dC} {b:St} {H:Hp} {s:Shared} (I:Inv X (a++c) b H s):Inv X a b H s:=I.pins_of λp hp=>I.pin p (DQ _ (List.mem_append_left _ hp))
def Bx {j:Expr} {C:List Stmt} {wi:TI} {g:TG} {tb:TS} {S:Pos} (hp:PassesOwn (model X.prog X.w) X.A X.env X.xe) (hc:X.calm=true) (hi:PI X tg j wi) (hg:PG X tg g) (k:PSs X C tb)
  (hs:∀ x,foldedSetIterable j X.env x=pure x:=by intro _;rfl):PS X (.For tg j C [] S) (BH wi g tb):=by
 intro a s σ H D I h;refine wpAny_For (E_ (hi a s σ H _ I h) λv s1 h1=>E_ h1 λa2 s2 h2=>?_) hs;obtain ⟨it,G,tn,J,H2,e,I2,T,U,f2,W,⟨m0,w0⟩,K⟩:=h2;subst e;have p:∀ {B:Hp},(∀ b∈G,B b=none)->∀ b∈G,DW X a B b:=λhn b k=>⟨hn b k,(f2 b k).2⟩;refine codeAny_forLoop_any (λn s'=>∃ i q B,Inv X a q B s'/\tn i s'.heap/\(∀ b∈G,B b=none)/\W i n q B) ?_ m0 ⟨0,σ,H2,I2,U,λb k=>(f2 b k).1,w0⟩;rintro n s3 ⟨i,w,R,I3,L,M,w3⟩;rcases K i n w R w3 with ⟨O,qn⟩ | ⟨go,N,hN,P⟩
 ·refine wpAny_passesOwn hp (E_ (T.done X rfl rfl rfl hc i a s3 w R X.xe I3 (p M) L O) λr s4 ⟨Y,I4⟩=>?_);subst Y;exact wpAny_execs_nil ⟨w,R,I4,qn⟩
 ·refine wpAny_passesOwn hp (E_ (T.item X rfl rfl rfl hc i a s3 w R X.xe I3 (p M) L go) λr s4 ⟨u,Y,h4⟩=>?_);subst Y;refine wpAny_passesOwn hp (E_ h4 λ_ s5 ⟨x,H5,I5,r5,y5,F,Z⟩=>?_);have a0:=I5.pinned (p Z) (T.obj _ _ F);refine wpAny_passesOwn hp (E_ (hg _ s5 w H5 x u _ a0 r5 (P x H5 y5)) λ_ s6 ⟨a1,H6,I6,q6⟩=>?_);refine wpAny_passesOwn hp (E_ (k _ s6 a1 H6 _ I6 q6) λf s7 E=>?_)
  have y:∀ {c:St} {z:Hp},Inv X (a++Jq G s5.heap) c z s7->N c z->∃ m,m<n/\∃ i q B,Inv X a q B s7/\tn i s7.heap/\(∀ b∈G,B b=none)/\W i m q B:=λ{c z} A Q=>by
   obtain ⟨m',hm,w7⟩:=hN c z Q;refine ⟨m',hm,i+1,c,z,A.unpinned,T.keep _ _ _ F λb k o e=>(A.pin (b,o) (DQ _ (DQ _ (Jr k e)))).1,λb k=>?_,w7⟩;obtain ⟨o,e,d⟩:=T.obj _ _ F b k;exact (A.pin (b,o) (DQ _ (DQ _ (Jr k e)))).2.1
  cases f with
  | next=>obtain ⟨c,z,A,Q⟩:=E;exact y A Q
  | cont=>obtain ⟨c,z,A,Q⟩:=E;exact y A Q
  | brk=>obtain ⟨c,z,A,E⟩:=E;exact ⟨c,z,A.unpinned,E⟩
  | ret v=>obtain ⟨x7,c,z,A,r7,E⟩:=E;exact ⟨x7,c,z,A.unpinned,r7,E⟩
end
def WC {K:W.Frag} {a:Addr} {xs:dj} {g:TG} {k:TS} {D:Ends} {b:St} {H:Hp} (Pv:Nat->St->Hp->Prop) (o:Pv 0 b H) (r:∀ i b H,i<=xs.length->Pv i b H->SqL K H a xs)
  (u:∀ i x b H,xs[i]?=some x->Pv i b H->g x b H λc j=>k { D with nx:=Pv (i+1),ct:=Pv (i+1),bk:=D.nx } c j) (z:∀ b H,Pv xs.length b H->D.nx b H) :
  ∃ W:Nat->Nat->St->Hp->Prop,(∃ m,W 0 m b H)/\∀ i m b H,W i m b H->
    ((ax K a).stop i H/\D.nx b H)\/((ax K a).go i H/\∃ N:St->Hp->Prop,(∀ d f,N d f->∃ n,n<m/\W (i+1) n d f)/\∀ x f,(ax K a).yld i H x f->g x b f λc j=>k { D with nx:=N,ct:=N,bk:=D.nx } c j):=by
 refine ⟨λi m b H=>m=xs.length - i/\i<=xs.length/\Pv i b H,⟨xs.length,by simp,Ae _,o⟩,?_⟩;rintro i m b H ⟨rfl,A,p⟩;have q:=r i b H A p;by_cases h:i<xs.length
 ·refine .inr ⟨⟨xs,xs[i],q,by simp [h]⟩,Pv (i+1),λd f B=>⟨xs.length - (i+1),⋯,rfl,h,B⟩,λx f y=>?_⟩;obtain ⟨e,y⟩:=y;subst e;exact u i x b _ (y xs q) p
 ·have e:i=xs.length:=by omega
  subst e;exact .inl ⟨⟨xs,q,AT _⟩,z b H p⟩
def LU {K:W.Frag} {a:Addr} {xs:dj} {g:TG} {k:TS} {D:Ends} {b:St} {H:Hp} (Pv:Nat->St->Hp->Prop) (o:Pv 0 b H) (r:∀ i b H,i<=xs.length->Pv i b H->SqT K H a xs)
  (u:∀ i x b H,xs[i]?=some x->Pv i b H->g x b H λc j=>k { D with nx:=Pv (i+1),ct:=Pv (i+1),bk:=D.nx } c j) (z:∀ b H,Pv xs.length b H->D.nx b H) :
  ∃ W:Nat->Nat->St->Hp->Prop,(∃ m,W 0 m b H)/\∀ i m b H,W i m b H->
    ((aG K a).stop i H/\D.nx b H)\/((aG K a).go i H/\∃ N:St->Hp->Prop,(∀ d f,N d f->∃ n,n<m/\W (i+1) n d f)/\∀ x f,(aG K a).yld i H x f->g x b f λc j=>k { D with nx:=N,ct:=N,bk:=D.nx } c j):=by
 refine ⟨λi m b H=>m=xs.length - i/\i<=xs.length/\Pv i b H,⟨xs.length,by simp,Ae _,o⟩,?_⟩;rintro i m b H ⟨rfl,A,p⟩;have q:=r i b H A p;by_cases h:i<xs.length
 ·refine .inr ⟨⟨xs,xs[i],q,by simp [h]⟩,Pv (i+1),λd f B=>⟨xs.length - (i+1),⋯,rfl,h,B⟩,λx f y=>?_⟩;obtain ⟨e,y⟩:=y;subst e;exact u i x b _ (y xs q) p
 ·have e:i=xs.length:=by omega
  subst e;exact .inl ⟨⟨xs,q,AT _⟩,z b H p⟩
def WD {lo:Int} {n:Nat} {g:TG} {j:TS} {D:Ends} {a:St} {H:Hp} (Pv:Nat->St->Hp->Prop) (o:Pv 0 a H)
  (q:∀ i a H,i<n->Pv i a H->g (.int (lo+i)) a H λb h=>j { D with nx:=Pv (i+1),ct:=Pv (i+1),bk:=D.nx } b h) (v:∀ a H,Pv n a H->D.nx a H) :
  ∃ W:Nat->Nat->St->Hp->Prop,(∃ m,W 0 m a H)/\∀ i m a H,W i m a H->
    ((ay lo n).stop i H/\D.nx a H)\/((ay lo n).go i H/\∃ N:St->Hp->Prop,(∀ c d,N c d->∃ k,k<m/\W (i+1) k c d)/\∀ x d,(ay lo n).yld i H x d->g x a d λb h=>j { D with nx:=N,ct:=N,bk:=D.nx } b h):=by
 refine ⟨λi m a H=>m=n - i/\i<=n/\Pv i a H,⟨n,by simp,Ae _,o⟩,?_⟩;rintro i m a H ⟨rfl,z,p⟩;by_cases f:i<n
 ·refine .inr ⟨f,Pv (i+1),λc d w=>⟨n - (i+1),⋯,rfl,f,w⟩,λx d y=>?_⟩;obtain ⟨e,y⟩:=y;subst e y;exact q i a _ f p
 ·have e:i=n:=by omega
  subst e;exact .inl ⟨AT _,v a H p⟩
noncomputable abbrev R2:=V->V->Hp->VK->Prop
def OpR (X:Cx) (f:Value->Value->Sem Value) (r:R2):Prop:=
 ∀ (a:dC) (s:Shared) (b:St) (H:Hp) (x y:V) (v u:Value) (Q:VK),Inv X a b H s->RelV x v->RelV y u->r x y H Q->
   wpAny (model X.prog X.w) X.A (f v u) (EP X a b Q) X.xe s
def UnR (X:Cx) (f:Value->Sem Value) (r:V->Hp->VK->Prop):Prop:=
 ∀ (a:dC) (s:Shared) (b:St) (H:Hp) (x:V) (v:Value) (Q:VK),Inv X a b H s->RelV x v->r x H Q->
   wpAny (model X.prog X.w) X.A (f v) (EP X a b Q) X.xe s
def CY (X:Cx) (f:Value) (r:dj->Hp->VK->Prop):Prop:=
 ∀ (a:dC) (s:Shared) (b:St) (H:Hp) (c:dj) (d:du) (Q:VK),Inv X a b H s->Vals c d->r c H Q->
   wpAny (model X.prog X.w) X.A (call f d) (EP X a b Q) X.xe s
def WE (X:Cx) (r:V->Hp->(Bool->Hp->Prop)->Prop):Prop:=
 ∀ (a:dC) (s:Shared) (b:St) (H:Hp) (x:V) (v:Value) (Q:Bool->Hp->Prop),Inv X a b H s->RelV x v->r x H Q->
   wpAny (model X.prog X.w) X.A (truthy v) (TP X a b Q) X.xe s
def A_ (r:R2) (b c:TE):TE:=λa H Q=>b a H λx d=>c a d λy e=>r x y e Q
def R' (r:V->Hp->VK->Prop) (a:TE):TE:=λb H Q=>a b H λx c=>r x c Q
def rI (C:Int->Int->Prop) (g:Int->Int->V):R2:=λx y H Q=>∃ i j,x=.int i/\y=.int j/\C i j/\Q (g i j) H
def ai (g:Int->Int->V):R2:=λx y H Q=>∃ i j,x=.int i/\y=.int j/\Q (g i j) H
def rU (g:Int->V):V->Hp->VK->Prop:=λx H Q=>∃ i,x=.int i/\Q (g i) H
section
variable {X:Cx} {a b c:Expr} {ta tb tc:TE} {pos:Pos}
def LV (n:PE X a ta) (o:PE X b tb) {d:dC} {s:Shared} {e:St} {H:Hp} {R:V->V->Hp->Prop} (I:Inv X d e H s)
  (h:ta e H λx m=>tb e m λy g=>R x y g) {Q:dw} {f:Value->Value->Sem Value}
  (p:∀ v u k x y g,Inv X d e g k->RelV x v->RelV y u->R x y g->wpAny (model X.prog X.w) X.A (f v u) Q X.xe k) :
  wpAny (model X.prog X.w) X.A (eval a X.env) (λv i=>wpAny (model X.prog X.w) X.A (eval b X.env) (λu j=>wpAny (model X.prog X.w) X.A (f v u) Q X.xe j) X.xe i) X.xe s:=by
 refine E_ (n d s e H _ I h) λv q ⟨x,m,r,w,z⟩=>?_;refine E_ (o d q e m _ r z) λu k ⟨y,g,A,B,C⟩=>?_;exact p v u k x y g A w B C
def AN {e:Operator} {r:R2} (f:OpR X (binaryOp e) r) (g:PE X a ta) (i:PE X b tb):PE X (.BinOp a e b pos) (A_ r ta tb):=by
 intro d s j H Q I h;exact wpAny_BinOp (LV g i I h λv u k x y m n o p q=>f d k j m x y v u Q n o p q)
def Bm {e:UnaryOp} {r:V->Hp->VK->Prop} (g:UnR X (unaryOp e) r) (i:PE X a ta):PE X (.UnaryOp e a pos) (R' r ta):=by
 intro d s f H Q I h;exact UnaryOp_ (E_ (i d s f H _ I h) λv j ⟨x,k,m,n,o⟩=>g d j f k x v Q m n o)
def bK {f:Value->Value->Sem Value} {C:Int->Int->Prop} {g:Int->Int->Int}
  (rule:∀ (i j:Int) (t u:Tok) (s:Shared) (Q:dw) (E:dw),C i j->Q (.int (g i j) s.toks) { s with toks:=s.toks+1 }->wpAny (model X.prog X.w) X.A (f (.int i t) (.int j u)) Q E s) :
  OpR X f (rI C λi j=>.int (g i j)):=by
 intro e s p H x y v u Q I k m h;obtain ⟨i,j,rfl,rfl,n,q⟩:=h;obtain ⟨t,rfl⟩:=k;obtain ⟨o,rfl⟩:=m;exact rule i j t o s _ _ n ⟨.int (g i j),H,I.tok _,⟨_,rfl⟩,q⟩
def Js {f:Value->Value->Sem Value} {g:Int->Int->Int}
  (rule:∀ (i j:Int) (t u:Tok) (s:Shared) (Q:dw) (E:dw),Q (.int (g i j) s.toks) { s with toks:=s.toks+1 }->wpAny (model X.prog X.w) X.A (f (.int i t) (.int j u)) Q E s) :
  OpR X f (ai λi j=>.int (g i j)):=by
 intro e s o H x y v u Q I k m h;obtain ⟨i,j,rfl,rfl,q⟩:=h;obtain ⟨t,rfl⟩:=k;obtain ⟨n,rfl⟩:=m;exact rule i j t n s _ _ ⟨.int (g i j),H,I.tok _,⟨_,rfl⟩,q⟩
def LW {f:Value->Value->Sem Value} {g:Int->Int->Bool}
  (rule:∀ (i j:Int) (t u:Tok) (s:Shared) (Q:dw) (E:dw),Q (.bool (g i j)) s->wpAny (model X.prog X.w) X.A (f (.int i t) (.int j u)) Q E s) :
  OpR X f (ai λi j=>.bl (g i j)):=by
 intro d s n H x y v u Q I e k h;obtain ⟨i,j,rfl,rfl,q⟩:=h;obtain ⟨t,rfl⟩:=e;obtain ⟨m,rfl⟩:=k;exact rule i j t m s _ _ ⟨.bl (g i j),H,I,rfl,q⟩
def BZ:OpR X (binaryOp .Add) (ai λi j=>.int (i+j)):=Js λ_ _ _ _ _ _ _ q=>add_int q
def BO:OpR X (binaryOp .Sub) (ai λi j=>.int (i - j)):=Js λ_ _ _ _ _ _ _ q=>sub_int q
def C9:OpR X (binaryOp .Mod) (rI (λ_ j=>0<j) λi j=>.int (i % j)):=bK λi j _ _ _ _ _ d q=>by
 have e:(0:Int)<j:=d;exact mod_int' ⋯ (by rw [Int.fmod_eq_emod_of_nonneg i ⋯];exact q)
def WF:OpR X (binaryOp .Mod) (rI (λ_ j=>j≠0) λi j=>.int (i.fmod j)):=bK λ_ _ _ _ _ _ _ d q=>mod_int' d q
def Oc:OpR X (inplaceOp .Add) (ai λi j=>.int (i+j)):=Js λ_ _ _ _ _ _ _ q=>iadd_int q
def IP:OpR X (inplaceOp .Sub) (ai λi j=>.int (i - j)):=Js λ_ _ _ _ _ _ _ q=>isub_int q
def WG {f:Value->Sem Value} {g:Int->Int}
  (rule:∀ (i:Int) (t:Tok) (s:Shared) (Q:dw) (E:dw),Q (.int (g i) s.toks) { s with toks:=s.toks+1 }->wpAny (model X.prog X.w) X.A (f (.int i t)) Q E s) :
  UnR X f (rU λi=>.int (g i)):=by
 intro e s k H x v Q I j h;obtain ⟨i,rfl,q⟩:=h;obtain ⟨t,rfl⟩:=j;exact rule i t s _ _ ⟨.int (g i),H,I.tok _,⟨_,rfl⟩,q⟩
def Bq:UnR X (unaryOp .USub) (rU λi=>.int (-i)):=WG λ_ _ _ _ _ q=>neg_int q
end
noncomputable def scal:V->V->Bool
 | .non,.non=>true | .non,.int _=>true | .int _,.non=>true | .non,.bl _=>true | .bl _,.non=>true | .non,.str _=>true | .str _,.non=>true
 | .int _,.int _=>true | .bl _,.bl _=>true | .str _,.str _=>true | .byt _,.byt _=>true
 | .int _,.str _=>true | .str _,.int _=>true | .bl _,.str _=>true | .str _,.bl _=>true
 | _,_=>false
def au:R2:=λx y H Q=>scal x y=true/\Q (.bl (decide (x=y))) H
def aA:R2:=λx y H Q=>scal x y=true/\Q (.bl (!decide (x=y))) H
def Od {i j:Int}:decide (V.int i=V.int j)=(i == j):=by
 rw [Bool.eq_iff_iff];simp
def Oe {i j:Bool}:decide (V.bl i=V.bl j)=(i == j):=by
 rw [Bool.eq_iff_iff];simp
def Of {i j:Str}:decide (V.str i=V.str j)=(i == j):=by
 rw [Bool.eq_iff_iff];simp
def Og {i j:Array UInt8}:decide (V.byt i=V.byt j)=(i.toList == j.toList):=by
 rw [Bool.eq_iff_iff];cases i;cases j;simp
section
variable {X:Cx} {a b c:Expr} {ta tb tc:TE} {pos:Pos}
def Ba {d:dC} {f:St} {H:Hp} {s:Shared} {Q:VK} {k g:Bool} (I:Inv X d f H s) (q:Q (.bl k) H) (e:k=g):EP X d f Q (.bool g) s:=by
 subst e;exact ⟨.bl k,H,I,rfl,q⟩
theorem EO:OpR X (compareOp .Eq) au:=by
 intro k s m H x y v u Q I g d h;obtain ⟨f,q⟩:=h;cases x with
 | non=>
   cases g;cases y with
   | non=>cases d;exact PySem.EqNone.eq_none_none (Ba I q (by simp))
   | bl j=>cases d;exact PySem.EqNone.eq_none_bool (Ba I q (by simp))
   | int j=>obtain ⟨e,rfl⟩:=d;exact PySem.EqNone.eq_none_int (Ba I q (by simp))
   | str j=>obtain ⟨e,rfl⟩:=d;exact PySem.EqNone.eq_none_str (Ba I q (by simp))
   | _=>exact absurd (show false=true from f) Cc
 | bl i=>
   cases g;cases y with
   | non=>cases d;exact PySem.EqNone.eq_bool_none (Ba I q (by simp))
   | bl j=>cases d;exact eq_bool (Ba I q Oe)
   | str j=>obtain ⟨e,rfl⟩:=d;exact PySem.EqMixed.eq_bool_str (Ba I q (by simp))
   | _=>exact absurd (show false=true from f) Cc
 | int i=>
   obtain ⟨t,rfl⟩:=g;cases y with
   | non=>cases d;exact PySem.EqNone.eq_int_none (Ba I q (by simp))
   | int j=>obtain ⟨e,rfl⟩:=d;exact eq_int (Ba I q Od)
   | str j=>obtain ⟨e,rfl⟩:=d;exact PySem.EqMixed.eq_int_str (Ba I q (by simp))
   | _=>exact absurd (show false=true from f) Cc
 | str i=>
   obtain ⟨t,rfl⟩:=g;cases y with
   | non=>cases d;exact PySem.EqNone.eq_str_none (Ba I q (by simp))
   | bl j=>cases d;exact PySem.EqMixed.eq_str_bool (Ba I q (by simp))
   | int j=>obtain ⟨e,rfl⟩:=d;exact PySem.EqMixed.eq_str_int (Ba I q (by simp))
   | str j=>obtain ⟨e,rfl⟩:=d;exact eq_str (Ba I q Of)
   | _=>exact absurd (show false=true from f) Cc
 | byt i=>
   obtain ⟨t,rfl⟩:=g;cases y with
   | byt j=>obtain ⟨e,rfl⟩:=d;exact W.eq_bytes (Ba I q Og)
   | _=>exact absurd (show false=true from f) Cc
 | _=>cases y <;> exact absurd (show false=true from f) Cc
theorem En:OpR X (compareOp .NotEq) aA:=by
 intro k s m H x y v u Q I g d h;obtain ⟨f,q⟩:=h;cases x with
 | non=>
   cases g;cases y with
   | non=>cases d;exact PySem.EqNone.ne_none_none (Ba I q (by simp))
   | bl j=>cases d;exact PySem.EqNone.ne_none_bool (Ba I q (by simp))
   | int j=>obtain ⟨e,rfl⟩:=d;exact PySem.EqNone.ne_none_int (Ba I q (by simp))
   | str j=>obtain ⟨e,rfl⟩:=d;exact PySem.EqNone.ne_none_str (Ba I q (by simp))
   | _=>exact absurd (show false=true from f) Cc
 | bl i=>
   cases g;cases y with
   | non=>cases d;exact PySem.EqNone.ne_bool_none (Ba I q (by simp))
   | bl j=>cases d;exact ne_bool (Ba I q (congrArg not Oe))
   | str j=>obtain ⟨e,rfl⟩:=d;exact PySem.EqMixed.ne_bool_str (Ba I q (by simp))
   | _=>exact absurd (show false=true from f) Cc
 | int i=>
   obtain ⟨t,rfl⟩:=g;cases y with
   | non=>cases d;exact PySem.EqNone.ne_int_none (Ba I q (by simp))
   | int j=>obtain ⟨e,rfl⟩:=d;exact ne_int (Ba I q (congrArg not Od))
   | str j=>obtain ⟨e,rfl⟩:=d;exact PySem.EqMixed.ne_int_str (Ba I q (by simp))
   | _=>exact absurd (show false=true from f) Cc
 | str i=>
   obtain ⟨t,rfl⟩:=g;cases y with
   | non=>cases d;exact PySem.EqNone.ne_str_none (Ba I q (by simp))
   | bl j=>cases d;exact PySem.EqMixed.ne_str_bool (Ba I q (by simp))
   | int j=>obtain ⟨e,rfl⟩:=d;exact PySem.EqMixed.ne_str_int (Ba I q (by simp))
   | str j=>obtain ⟨e,rfl⟩:=d;exact ne_str (Ba I q (congrArg not Of))
   | _=>exact absurd (show false=true from f) Cc
 | byt i=>
   obtain ⟨t,rfl⟩:=g;cases y with
   | byt j=>obtain ⟨e,rfl⟩:=d;exact W.ne_bytes (Ba I q (congrArg not Og))
   | _=>exact absurd (show false=true from f) Cc
 | _=>cases y <;> exact absurd (show false=true from f) Cc
def IQ:OpR X (compareOp .Lt) (ai λi j=>.bl (decide (i<j))):=LW λ_ _ _ _ _ _ _ q=>lt_int q
def Fd:OpR X (compareOp .Gt) (ai λi j=>.bl (decide (j<i))):=LW λ_ _ _ _ _ _ _ q=>gt_int q
def LX:OpR X (compareOp .GtE) (ai λi j=>.bl (decide (j<=i))):=LW λ_ _ _ _ _ _ _ q=>ge_int q
def Jt:OpR X (compareOp .Is) (λx y H Q=>y=.non/\Q (.bl (decide (x=.non))) H):=by
 intro d s g H x y v u Q I e f h;obtain ⟨rfl,q⟩:=h;cases f;refine is_none_gen (Ba I q ?_)
 cases x <;> first
  | (cases e;rfl)
  | (obtain ⟨t,rfl⟩:=e;rfl)
def WH:OpR X (compareOp .IsNot) (λx y H Q=>y=.non/\Q (.bl (!decide (x=.non))) H):=by
 intro d s g H x y v u Q I e f h;obtain ⟨rfl,q⟩:=h;cases f;refine isnot_none_gen (Ba I q ?_)
 cases x <;> first
  | (cases e;rfl)
  | (obtain ⟨t,rfl⟩:=e;rfl)
def V_ (b:Expr) {d:CmpOp} (h:d≠.In:=by decide) (e:d≠.NotIn:=by decide):behindInMarks d b=false:=by
 have f:(d == CmpOp.In)=false:=by cases d <;> first | rfl | exact absurd rfl h
 have g:(d == CmpOp.NotIn)=false:=by cases d <;> first | rfl | exact absurd rfl e
 cases b <;> simp [behindInMarks,f,g]
def IR {e:CmpOp} {r:R2} (f:OpR X (compareOp e) r) (g:PE X a ta) (i:PE X b tb) (j:behindInMarks e b=false):PE X (.Compare a [e] [b] pos) (A_ r ta tb):=by
 intro d s k H Q I h;exact wpAny_Compare1 (LV g i I h λv u m x y n o p w q=>f d m k n x y v u Q o p w q) j
def A4 (t:TE):TT:=λd H Q=>t d H λx e=>∃ k,x=.bl k/\Q k e
def WI {f:CmpOp} {r:R2} (i:OpR X (compareOp f) r) (j:PE X a ta) (m:PE X b tb) (n:behindInMarks f b=false):PT X (.Compare a [f] [b] pos) (A4 (A_ r ta tb)):=by
 intro d s g H Q I h
 refine wpAny_isTrue_Compare1 (E_ (j d s g H _ I h) λv o ⟨x,p,q,w,A⟩=>E_ (m d o g p _ q A) λu B ⟨y,C,D,E,F⟩=>
  E_ (i d B g C x y v u _ D w E F) λc M ⟨z,G,J,K,k,e,L⟩=>?_) n
 subst e;cases K;exact wpAny_truthy_bool ⟨G,J,L⟩
def WJ (r f:R2) (ta tb tc:TE):TE:=λd H Q=>ta d H λx g=>tb d g λy h=>r x y h λz e=>∃ k,z=.bl k/\
 (if k=true then tc d e λi j=>f y i j Q else Q (.bl false) e)
def WK (K:W.Frag) (x:V) (H:Hp) (k:Bool):Prop:=
 match x with
 | .non=>k=false
 | .bl b=>k=b
 | .int i=>k=(i != 0)
 | .str y=>y.length<=sizeLine/\k=((y.length:Int) != 0)
 | .byt y=>y.size<=sizeLine/\k=((y.size:Int) != 0)
 | .ref p=>(∃ d,SqL K H p d/\k=!d.isEmpty)\/(∃ d,SqT K H p d/\k=!d.isEmpty)\/∃ e,H p=some (.dK e)/\k=!e.isEmpty
 | _=>False
def WL {e:Type} {d:List (e×V)} {f:List (e×Value)} (r:KV d f):(!f.isEmpty)=!d.isEmpty:=by
 cases r <;> rfl
def Oh {xs:dj} {its:du} (r:Vals xs its):(!its.toArray.isEmpty)=!xs.isEmpty:=by
 cases r <;> simp
def HJ:(sizeLine:Nat)<2 ^ 63:=by rw [sizeLine_eq];decide
theorem WM:WE X (λx H Q=>∃ k,WK X.K x H k/\Q k H):=by
 intro A s E H x v Q I n h;obtain ⟨k,e,q⟩:=h;have F:=HJ;have G:sizeLine=16777216:=sizeLine_eq;cases x with
 | non=>
   cases n;have d:k=false:=e;subst d;exact truthy_none ⟨H,I,q⟩
 | bl b=>
   cases n;have d:k=b:=e;subst d;exact wpAny_truthy_bool ⟨H,I,q⟩
 | int i=>
   obtain ⟨t,rfl⟩:=n;have d:k=(i != 0):=e;subst d;exact PySem.P.truthy_int ⟨H,I,q⟩
 | str y=>
   obtain ⟨t,rfl⟩:=n;obtain ⟨C,d⟩:y.length<=sizeLine/\k=((y.length:Int) != 0):=e;subst d;exact PySem.P.truthy_str ⋯ ⟨H,I.tok _,q⟩
 | byt y=>
   obtain ⟨t,rfl⟩:=n;obtain ⟨C,d⟩:y.size<=sizeLine/\k=((y.size:Int) != 0):=e;subst d;exact W.truthy_bytes ⋯ ⟨H,I.tok _,q⟩
 | ref p=>
   cases n;have d:(∃ j,SqL X.K H p j/\k=!j.isEmpty)\/(∃ j,SqT X.K H p j/\k=!j.isEmpty)\/∃ f,H p=some (.dK f)/\k=!f.isEmpty:=e;rcases d with ⟨j,o,d⟩ | ⟨j,o,d⟩ | ⟨f,o,d⟩
   ·subst d;obtain ⟨w,r,z,B⟩:=I.list o;have g:=r.length;exact wpAny_truthy_list z.isList (by simp only [BK];omega) ⟨H,I.tok _,by rw [Oh r];exact q⟩
   ·subst d;obtain ⟨w,r,z,B⟩:=I.tuple o;have g:=r.length;exact truthy_tuple z (by simp only [BK];omega) ⟨H,I.tok _,by rw [Oh r];exact q⟩
   ·subst d;obtain ⟨B,D,u,r,m⟩:f.length<=sizeLine/\(p == sysModules)=false/\∃ u,KV f u/\s.heap.DictOf (LN X.prog X.w) p u:=I.hok p _ o;have g:f.length=u.length:=Paired.length r;exact wpAny_truthy_dict D m ⋯ ⟨H,I.tok _,by rw [WL r];exact q⟩
 | _=>exact (show False from e).elim
theorem EQ {x:V} {d:du} (r:Vals [x] d):∃ u,d=[u]/\RelV x u:=by
 cases r with
 | cons e f=>cases f;exact ⟨_,rfl,e⟩
theorem vals2 {x y:V} {d:du} (r:Vals [x,y] d):∃ u e,d=[u,e]/\RelV x u/\RelV y e:=by
 cases r with
 | cons f g=>
   cases g with
   | cons h i=>cases i;exact ⟨_,_,rfl,f,h⟩
def WN:CY X (.builtin "abs") (λd H Q=>∃ i,d=[.int i]/\Q (.int (if i<0 then -i else i)) H):=by
 intro e s f H d g Q I r h;obtain ⟨i,rfl,q⟩:=h;obtain ⟨u,rfl,t,rfl⟩:=EQ r;exact call_abs_int λu j=>⟨.int (if i<0 then -i else i),H,I.tok _,⟨_,rfl⟩,q⟩
def WO (g:X.calm=true):CY X (.builtin "max") (λe H Q=>∃ i j,e=[.int i,.int j]/\Q (.int (if j > i then j else i)) H):=by
 intro f s m H e n Q I r h;obtain ⟨i,j,rfl,q⟩:=h;obtain ⟨u,o,rfl,⟨t,rfl⟩,⟨p,rfl⟩⟩:=vals2 r;refine max_two_ints (I.ok.hd g) λv w k=>⟨_,H,I.kept k,?_,q⟩;by_cases d:j > i
 ·rw [kA d,kA d];exact ⟨_,rfl⟩
 ·rw [lZ d,lZ d];exact ⟨_,rfl⟩
end
structure ObjM (h:Heap) (x dx C:Addr) (mA:dE):Prop where
 obj:h.get? x=some (W.instObj C dx)
 ns:h.Ns1 dx mA
 ne:dx≠x
def WP {h:Heap} {d:Addr} {f:dE} (n:h.Ns1 d f):∃ g,h.get? d=some g/\∀ b,W.lookIn b g=some (f b):=by
 obtain ⟨o,i,u,j,k,hk,_,m⟩:=n;refine ⟨o,j,λb=>?_⟩;have e:=m b;unfold nsFind findBy at e;rw [<-Array.find?_toList] at e;unfold W.lookIn;rw [k];dsimp only;split
 ·rename_i y q;rw [q] at e;exact congrArg some e
 ·rename_i q;rw [q] at e
  have a:i.toList.any (·.refKey)=false:=by
   rw [List.any_eq_false];intro y p;obtain ⟨z,t,c⟩:=hk y (Array.mem_toList_iff.mp p);simp [DictEntry.refKey,c]
  have r:¬ i.toList.any (·.refKey)=true:=by rw [a];exact Cc
  rw [lZ r];exact congrArg some e
def ObjM.look {h:Heap} {x c C:Addr} {d:dE} (I:ObjM h x c C d):∃ b,W.InstAt h x (W.instObj C c) C (some b)/\∀ a,W.lookIn a b=some (d a):=
 let ⟨b,e,f⟩:=WP I.ns
 ⟨b,⟨I.obj,rfl,rfl,e⟩,f⟩
section
variable {P:Program} {w:World} {H H':Hp} {h h':Heap} {a C dx:Addr} {fs fs':List (Str×V)}
def WQ (c:HOk P w H h) (e:H a=some (.ins C dx fs)):∃ b,ObjM h a dx C b/\(∀ f,LO (fs.lookup f) (b f))/\PySem.Within b (fs.map (·.1))/\fs.length<=1000/\H dx=some (.own a):=by
 obtain ⟨d,z,g,i,b,n,r,q⟩:=(show ObjOk P w H h a (.ins C dx fs) from c a _ e);exact ⟨b,⟨i,n,g⟩,r,q,z,d⟩
end
structure Cls (K:W.Frag) (C:Addr):Prop where
 pg:W.plainGet K C Str.empty=true
 hd:W.hasDictIn K C=true
 po:W.plainOver K C=true
 sa:W.findIn K (.ref C) "__setattr__" = some (some (.builtin "object.__setattr__"))
def Cls.get {K:W.Frag} {C:Addr} (c:Cls K C) (f:Str):W.plainGet K C f=true:=c.pg
section
variable {X:Cx} {pins:dC} {σ:St} {H:Hp} {s:Shared} {A:Around} {E:dw} {Q:dw} {c:Value} {b:Bool}
inductive TyOf (K:W.Frag) (H:Hp):V->Value->Prop where
 | non:TyOf K H .non (.type "NoneType")
 | bl (x:Bool):TyOf K H (.bl x) (.type "bool")
 | int (i:Int):TyOf K H (.int i) (.type "int")
 | str (x:Str):TyOf K H (.str x) (.type "str")
 | flt (x:UInt64):TyOf K H (.flt x) (.type "float")
 | lst {a:Addr} {xs:dj} (e:H a=some (.lst xs)):TyOf K H (.ref a) (.type "list")
 | frz {a:Addr} {o:Obj} {xs:dj} (e:H a=some (.frz o (.lst xs))):TyOf K H (.ref a) (.type "list")
 | tup {a:Addr} {xs:dj} (e:H a=some (.tup xs)):TyOf K H (.ref a) (.type "tuple")
 | dK {a:Addr} {kvs:List (ah×V)} (e:H a=some (.dK kvs)):TyOf K H (.ref a) (.type "dict")
 | dT {a:Addr} {kvs:List (List ah×V)} (e:H a=some (.dT kvs)):TyOf K H (.ref a) (.type "dict")
 | ins {a C dx:Addr} {fs:List (Str×V)} (e:H a=some (.ins C dx fs)) (cl:Cls K C) (ha:W.findIn K (.ref C) "__class__" = some (some (.builtin "object.__class__")))
   (hn:W.specialIn K (.builtin "object.__class__") "__get__" = some (some (.builtin "getset_descriptor.__get__"))) (htk:W.takesIn K (.builtin "object.__class__")=some true)
   (hm:W.mroIn K C (.type "object")=some true):TyOf K H (.ref a) (.ref C)
theorem WR {x:V} {u t:Value} (I:Inv X pins σ H s) (d:RelV x u) (B:TyOf X.K H x t) (e:W.kitOne X.K t c=some b) (h:∀ D,Q (.bool b) { s with toks:=D }) :
  wpAny (model X.prog X.w) A (call (.builtin "isinstance") [u,c]) Q E s:=by
 cases B with
 | non=>cases (show u=Value.none from d);exact W.kia_one W.kitx_none I.kIn True.intro e (λz=>nomatch z) h
 | bl y=>cases (show u=Value.bool y from d);exact W.kia_one W.kitx_bool I.kIn True.intro e (λz=>nomatch z) h
 | int i=>obtain ⟨t,q⟩:=(show ∃ t,u=Value.int i t from d);cases q;exact W.kia_one W.kitx_int I.kIn True.intro e (λz=>nomatch z) h
 | str y=>obtain ⟨t,q⟩:=(show ∃ t,u=Value.str y t from d);cases q;exact W.kia_one W.kitx_str I.kIn True.intro e (λz=>nomatch z) h
 | flt y=>obtain ⟨t,q⟩:=(show ∃ t,u=Value.float y t from d);cases q;exact W.kia_one W.kitx_float I.kIn True.intro e (λz=>nomatch z) h
 | @lst a k f=>
   cases (show u=Value.ref a from d);obtain ⟨_,_,n,_,g⟩:=(show ObjOk X.prog X.w H s.heap a (.lst k) from I.hok a _ f);exact W.kia_one W.kitx_list I.kIn ⟨_,g,rfl⟩ e (λz=>nomatch z) h
 | @frz a F k f=>
   cases (show u=Value.ref a from d);obtain ⟨_,_,_,n,_,g⟩:=(show ObjOk X.prog X.w H s.heap a (.frz F (.lst k)) from I.hok a _ f);exact W.kia_one W.kitx_list I.kIn ⟨_,g,rfl⟩ e (λz=>nomatch z) h
 | @tup a k f=>
   cases (show u=Value.ref a from d);obtain ⟨_,_,_,p⟩:=(show ObjOk X.prog X.w H s.heap a (.tup k) from I.hok a _ f);obtain ⟨o,g,m,_⟩:=p;exact W.kia_one W.kitx_tuple I.kIn ⟨o,g,m⟩ e (λz=>nomatch z) h
 | @dK a j f=>
   cases (show u=Value.ref a from d);obtain ⟨_,_,P,_,p⟩:=(show ObjOk X.prog X.w H s.heap a (.dK j) from I.hok a _ f);obtain ⟨o,G,K,g,m,_⟩:=p;exact W.kia_one W.kitx_dict I.kIn ⟨o,g,m.1⟩ e (λz=>nomatch z) h
 | @dT a j f=>
   cases (show u=Value.ref a from d);obtain ⟨_,_,k,_,o,G,K,g,m,_⟩:=(show ObjOk X.prog X.w H s.heap a (.dT j) from I.hok a _ f);exact W.kia_one W.kitx_dict I.kIn ⟨o,g,m.1⟩ e (λz=>nomatch z) h
 | @ins a C R S f w L M r N=>
   cases (show u=Value.ref a from d);obtain ⟨T,O,_⟩:=WQ I.hok f;obtain ⟨U,J,_⟩:=O.look;exact W.kia_one (W.kitx_own (w.get _) w.hd L M r N) I.kIn J e (λz=>nomatch z) h
end
structure Room (k:Nat) (A:Around):Prop where
 hd:A.handled=none
 dp:A.depth+3*k+105<recursionLimit
 un:A.units+16*k+200<cLine
def Room.mono {j k:Nat} {A:Around} (r:Room k A) (h:j<=k):Room j A:=⟨r.hd,by have:=r.dp;omega,by have:=r.un;omega⟩
def Room.deeper {k:Nat} {A:Around} (r:Room (k+1) A) (a:Env):Room k (A.deeper a):=
 ⟨r.hd,by have:=r.dp;show A.depth+1+3*k+105<_;omega,by have:=r.un;show A.units+3+16*k+200<_;omega⟩
def Room.depth {k:Nat} {A:Around} (r:Room k A):A.depth<recursionLimit:=by have:=r.dp;omega
def Room.units {k:Nat} {A:Around} (r:Room k A):A.units+64<cLine:=by have:=r.un;omega
def Room.units0 {k:Nat} {A:Around} (r:Room k A):A.units<cLine:=by have:=r.un;omega
def AC:TA:=λ_ H Q=>Q [] H
def AA (b:TE) (tr:TA):TA:=λa H Q=>b a H λx c=>tr a c λd e=>Q (x::d) e
section
variable {X:Cx} {e:Expr} {es:dF} {te:TE} {t:TA} {pos:Pos}
def AK:PA X [] AC:=λ_ _ _ _ H Q I h=>Calls.spliced_nil ⟨[],H,I,.nil,h⟩
def AD (c:PE X e te) (d:PA X es t) (f:starEach (e::es) X.env=(false,eval e X.env)::starEach es X.env:=by rfl):PA X (e::es) (AA te t):=by
 intro pos a s b H Q I h;rw [f];show wpAny _ _ (spliced ((false,eval e X.env)::backTo pos (starEach es X.env))) _ _ s;refine Calls.spliced_cons (E_ (c a s b H _ I h) λu g ⟨x,i,j,k,m⟩=>?_);exact E_ (d pos a g b i _ j m) λv w ⟨n,o,p,q,r⟩=>⟨x::n,o,p,.cons k q,r⟩
def Ak (t:TA):TE:=λc H Q=>t c H λa b=>a.length<=sizeLine/\∀ p,b p=none->Q (.ref p) (upd b p (.tup a))
def B9 (t:TA):TE:=λc H Q=>t c H λa b=>a.length<=sizeLine/\∀ p,b p=none->Q (.ref p) (upd b p (.lst a))
def Aw {x1} (h:PA X es t):PE X (.Tuple es x1 pos) (Ak t):=by
 intro a s g H Q I i;refine wpAny_Tuple_spliced (E_ (h pos a s g H _ I i) λj c ⟨k,d,f,r,z,q⟩=>⟨by rw [<-r.length];exact z,?_⟩);have m:d c.heap.objs.size=none:=f.hok.fresh (AT _);refine ⟨.ref c.heap.objs.size,upd d c.heap.objs.size (.tup k),f.laid (t':=c.toks) (λb u e=>Heap.get?_push_of_some _ e) (AT _) ?_,rfl,q _ m⟩;exact ⟨z,j,r,⟨_,Heap.get?_push_size _ rfl,rfl,_,rfl⟩⟩
def Ch (h:PA X es t):PE X (.List es pos) (B9 t):=by
 intro a s g H Q I i;refine wpAny_List_spliced (E_ (h pos a s g H _ I i) λj c ⟨k,d,f,r,z,q⟩=>⟨by rw [<-r.length];exact z,?_⟩);have m:d c.heap.objs.size=none:=f.hok.fresh (AT _);refine ⟨.ref c.heap.objs.size,upd d c.heap.objs.size (.lst k),f.laid (t':=c.toks) (λb u e=>Heap.get?_push_of_some _ e) (AT _) ?_,rfl,q _ m⟩;exact ⟨z,j,0,r,Heap.get?_push_size _ rfl⟩
end
noncomputable abbrev Sp:=dj->Hp->VK->XK->Prop
noncomputable abbrev aK:=List Env->Hp->Shared->XK->dw
structure Env0 (P:Program) (w:World) (K:W.Frag) (mg:dE) (base:Heap) (A:Around) (outer:List Env) (s:Shared) (H:Hp):Prop where
 frames:A.frames=some outer
 mod:Mod K mg base
 bs:∀ b o,base.get? b=some o->s.heap.get? b=some o/\H b=none
 bsz:base.objs.size<=s.heap.objs.size
 funs:s.heap.FunFrames base outer
 frf:∀ b∈aw outer,H b=none
 hok:HOk P w H s.heap
 bare:AllBare s.gens
 seer:base.NoSeer
 tree:(model P w).prog.given.tree=none
def CE (a:List Env) (P:Program) (w:World) (H:Hp) (s:Shared) (Q:VK) (u:Value) (s':Shared):Prop:=
 ∃ v b,s'.os=s.os/\AllBare s'.gens/\Un (aw a) [] H b s.heap s'.heap/\HOk P w b s'.heap/\RelV v u/\Q v b
def CR (CX:aK) (a:List Env) (P:Program) (w:World) (H:Hp) (s:Shared) (Q:VK) (E:XK) (r:Result) (s':Shared):Prop:=
 match r with
 | .ok (.ret u)=>CE a P w H s Q u s'
 | .ok _=>False
 | .error e=>CX a H s E e s'
structure FnOk (P:Program) (w:World) (K:W.Frag) (mg:dE) (base:Heap) (CX:aK) (k:Nat) (f:Addr) (fd:FuncData) (ps:dH) (sp:Sp):Prop where
 len:∀ vs H Q E,sp vs H Q E->vs.length=ps.length
 run:∀ (A:Around) (outer:List Env) (s:Shared) (H:Hp) (args:Args) (us:du) (vs:dj) (Q:VK) (E:XK),Room k A->Env0 P w K mg base A outer s H->BindsTo s fd args (ps.zip us)->Vals vs us->sp vs H Q E->
  codeAny (model P w) A (.call (.ref f) args) (CR CX outer P w H s Q E) s
section
variable {X:Cx} {pins:dC} {σ:St} {H:Hp} {s s':Shared}
def Inv.env0 (I:Inv X pins σ H s):Env0 X.prog X.w X.K X.mg X.base X.A X.stack s H:=
 ⟨I.ok.frames,I.ok.mod,I.bs,A7 I.ok.bsz I.sz,I.stack,I.stkFree,I.hok,I.bare,I.ok.seer,I.ok.tree⟩
def Inv.after {Q:VK} {u:Value} (I:Inv X pins σ H s) (h:CE X.stack X.prog X.w H s Q u s'):EP X pins σ Q u s':=by
 obtain ⟨v,f,os,a,i,c,r,q⟩:=h;obtain ⟨j,g,d,t,e⟩:=s';obtain rfl:e=s.os:=os;exact ⟨v,f,I.call (h':=j) (g':=g) (d':=d) (t':=t) (ch:=[]) i c a (λb z=>absurd z (by simp)),r,q⟩
end
def AE (sp:Sp) (a:dj) (E:XK) (t:TA):TE:=λb H Q=>t b H λc d=>sp (c++a) d Q E
def Binds (K:W.Frag) (c:FuncData) (ps:dH) (b:du):Prop:=
 ∀ (s:Shared) (a:du),K.In s.heap->(a++b).length=ps.length->BindsTo s c ⟨a,[]⟩ (ps.zip (a++b))
def Binds.all {K:W.Frag} {b:FuncData} {ps:dH} (h:∀ a:du,a.length=ps.length->bindArgs b ⟨a,[]⟩=pure (ps.zip a)):Binds K b ps []:=λs a _ c=>by
 rw [List.append_nil] at c ⊢;exact .of_eq (h a c)
def aq (CX:aK) (X:Cx) (E:XK):Prop:=∀ (a:dC) (c:St) (H:Hp) (s:Shared) (e:Value) (b:Shared),Inv X a c H s->CX X.stack H s E e b->X.xe e b
section
variable {X:Cx} {CX:aK} {k:Nat} {f C:Addr} {fd:FuncData} {ps:dH} {sp:Sp} {dvs:dj} {ds:du} {E:XK} {x m:Str} {p pos apos:Pos} {e o:Expr} {es:dF} {ta:TE} {t:TA}
theorem WS {a:dC} {g:St} {H:Hp} {s:Shared} {Q:VK} {b:du} {d:dj} (F:FnOk X.prog X.w X.K X.mg X.base CX k f fd ps sp) (j:Room k X.A) (n:Binds X.K fd ps ds) (q:Vals dvs ds) (v:aq CX X E)
  (I:Inv X a g H s) (r:Vals d b) (h:sp (d++dvs) H Q E):wpAny (model X.prog X.w) X.A (call (.ref f) b) (EP X a g Q) X.xe s:=by
 have i:Vals (d++dvs) (b++ds):=r.append q;have w:(b++ds).length=ps.length:=by rw [<-i.length];exact F.len _ _ _ _ h
 refine wpAny_call (codeAny_mono (F.run X.A X.stack s H ⟨b,[]⟩ (b++ds) (d++dvs) Q E j I.env0 (n s b I.kIn w) i h) λr y c=>?_);cases r with
 | error e=>exact v a g H s e y I c
 | ok z=>
   cases z with
   | ret u=>exact I.after c
   | next=>exact False.elim c
   | brk=>exact False.elim c
   | cont=>exact False.elim c
def WT (F:FnOk X.prog X.w X.K X.mg X.base CX k f fd ps sp) (g:Room k X.A) (i:Gl X x) (j:X.mg x=some (.ref f)) (hk:W.keepIn X.K (.ref f)=true) (n:Binds X.K fd ps ds) (u:Vals dvs ds) (v:aq CX X E)
  (w:PA X (e::es) t) (b:(x == ("__debug__" : Str))=false:=by decide) (y:starEach (e::es) X.env=(false,eval e X.env)::starEach es X.env:=by rfl) (c:(backTo pos (starEach es X.env)).any (·.1)=false:=by rfl) :
  PE X (.Call (.Name x p) (e::es) [] pos) (AE sp dvs E t):=by
 intro a s z H Q I h;refine wpAny_Call_Name_kw (OZ I i j ?_ b);refine W.callWith_K (h₀:=X.base) I.ok.mod.kin hk (E_ (w pos a s z H _ I h) λA B ⟨D,G,d,r,q⟩=>⟨d.kIn,?_⟩) y c;exact WS F g n u v d r q
end
def PK (X:Cx) (b:List Keyword) (t:TA):Prop:=
 ∀ (c:Pos) (a:dC) (s:Shared) (d:St) (H:Hp) (Q:dj->Hp->Prop),Inv X a d H s->t d H Q->wpAny (model X.prog X.w) X.A (evalAll ((backToKw c (keywordEach b X.env)).map (·.2))) (AP X a d Q) X.xe s
section
variable {X:Cx} {CX:aK} {k:Nat} {f C:Addr} {fd:FuncData} {ps ks:dH} {sp:Sp} {E:XK} {x m:Str} {p pos apos kpos:Pos} {e o:Expr} {es:dF} {kws:List Keyword} {te ta:TE} {t tk:TA} {nm:Option Str}
def WU:PK X [] AC:=λ_ _ _ _ H Q I h=>wpAny_evalAll_nil ⟨[],H,I,.nil,h⟩
def WV (c:PE X e te) (d:PK X kws t):PK X (⟨nm,e,kpos⟩::kws) (AA te t):=by
 intro pos a s b H Q I h;show wpAny _ _ (evalAll ((do let v <-eval e X.env;standAt pos;pure v)::(backToKw pos (keywordEach kws X.env)).map (·.2))) _ _ s;refine wpAny_evalAll_cons (kE (E_ (c a s b H _ I h) λu g ⟨x,i,j,n,q⟩=>kE (wpAny_standAt (kF ?_))));exact E_ (d pos a g b i _ j q) λB D ⟨r,w,y,z,A⟩=>⟨x::r,w,y,.cons n z,A⟩
variable {g:du->du->du} {gV:dj->dj->dj}
end
structure FnScope (N P:dH) (sc:Scope):Prop where
 kind:sc.kind=.function
 co:sc.isCoroutine=false
 gen:sc.isGenerator=false
 nd:N.Nodup
 pre:N.take P.length=P
 par:∀ x∈P,sc.names.lookup x=some .local\/sc.names.lookup x=some .cell
 nofree:∀ y∈sc.names,y.2≠.free
theorem Oi {kindOf:Str->Option NameKind} {x:Str}:∀ {a:List (Str×Value)} {m:dE},(∀ v,(x,v)∉a)->bindL kindOf a m x=m x
 | [],_,_=>rfl
 | (n,v)::r,m,h=>by
   unfold bindL;rw [Oi λw b=>h w (CD _ b)];split
   ·have:x≠n:=by rintro rfl;exact h v CC
    simp [this]
   ·rfl
theorem Oj {kindOf:Str->Option NameKind} {x:Str}:∀ {a:List (Str×Value)} {m:dE},(∀ v,(x,v)∉a)->bindC kindOf a m x=m x
 | [],_,_=>rfl
 | (n,v)::r,m,h=>by
   unfold bindC;rw [Oj λw b=>h w (CD _ b)];split
   ·rfl
   ·have:x≠n:=by rintro rfl;exact h v CC
    simp [this]
theorem Ol {kindOf:Str->Option NameKind} {x:Str} {v:Value}:∀ {P:dH} {a:du} {i:Nat} {m:dE},P.Nodup->P[i]?=some x->a[i]?=some v->kindOf x=some .local->
  bindL kindOf (P.zip a) m x=some v
 | [],_,_,_,_,h,_,_=>by simp at h
 | _::_,[],_,_,_,_,h,_=>by simp at h
 | p::P,w::a,0,m,d,b,c,hk=>by
   simp at b c;subst b;subst c;show bindL kindOf ((p,w)::P.zip a) m p=_;unfold bindL;rw [Oi λv e=>(List.nodup_cons.mp d).1 (List.of_mem_zip e).1,kA hk];simp
 | p::P,w::a,i+1,m,d,b,c,hk=>by
   show bindL kindOf ((p,w)::P.zip a) m x=_;unfold bindL;exact Ol (i:=i) (List.nodup_cons.mp d).2 (by simpa using b) (by simpa using c) hk
theorem Om {kindOf:Str->Option NameKind} {x:Str} {v:Value}:∀ {P:dH} {a:du} {i:Nat} {m:dE},P.Nodup->P[i]?=some x->a[i]?=some v->kindOf x≠some .local->
  bindC kindOf (P.zip a) m x=some v
 | [],_,_,_,_,h,_,_=>by simp at h
 | _::_,[],_,_,_,_,h,_=>by simp at h
 | p::P,w::a,0,m,d,b,c,hk=>by
   simp at b c;subst b;subst c;show bindC kindOf ((p,w)::P.zip a) m p=_;unfold bindC;rw [Oj λv e=>(List.nodup_cons.mp d).1 (List.of_mem_zip e).1,lZ hk];simp
 | p::P,w::a,i+1,m,d,b,c,hk=>by
   show bindC kindOf ((p,w)::P.zip a) m x=_;unfold bindC;exact Om (i:=i) (List.nodup_cons.mp d).2 (by simpa using b) (by simpa using c) hk
noncomputable def start (N:dH) (a:dj):St:=a.map some++List.replicate (N.length - a.length) none
noncomputable def GS (CX:aK) (P:Program) (w:World) (K:W.Frag) (i:dE) (d:Heap) (N:dH) (c:Str) (a:Scope) (f:Addr) (h:Value) (A:Around) (b:List Env) (s:Shared) (H:Hp) (E:XK):Cx where
 prog:=P
 w:=w
 K:=K
 mg:=i
 base:=d
 A:=A.deeper (envOfC c a s.heap.objs.size f h)
 N:=N
 s₀:=s
 H₀:=H
 env:=envOfC c a s.heap.objs.size f h
 outer:=b
 stack:=envOfC c a s.heap.objs.size f h::b
 ex:=[]
 calm:=true
 fn:=λ_=>true
 pn:=[]
 xe:=λe j=>wpAny (model P w) (A.deeper (envOfC c a s.heap.objs.size f h)) (leaving (envOfC c a s.heap.objs.size f h) e) (λ_ g=>CX b H s E e g) (λk g=>CX b H s E k g) j
def On {a:Scope} {n:Nat} {x:Str} (h:a.names.lookup x=some .cell):∃ c,(cellsFrom n a.names []).lookup x=some c:=by
 have q:=W.cellsFrom_some a.names n [] (.inl h);exact Option.isSome_iff_exists.mp q
def WW {CX:aK} {P:Program} {w:World} {K:W.Frag} {O:dE} {B:Heap} {N ps:dH} {g:Str} {d:Scope} {f:Addr} {G:Value} {A:Around} {m:List Env} {s T:Shared} {H:Hp} {E:XK} {Q:du} {C:dj}
  (S:FnScope N ps d) (X:A.handled=none) (R:(A.deeper (envOfC g d s.heap.objs.size f G)).depth+Builtin.pylongFrames<recursionLimit) (j:Env0 P w K O B A m s H) (hl:C.length=ps.length) (r:Vals C Q)
  (x:InCallC s s.heap.objs.size (bindL (envOfC g d s.heap.objs.size f G).kindOf (ps.zip Q) λ_=>none) (cellsFrom (s.heap.objs.size+1) d.names []) (bindC (envOfC g d s.heap.objs.size f G).kindOf (ps.zip Q) λ_=>none) T) :
  Inv (GS CX P w K O B N g d f G A m s H E) [] (start N C) H T:=by
 have Y:ps.length<=N.length:=by have:=congrArg List.length S.pre;rw [Cd] at this;omega
 obtain ⟨L,tk,rfl,hk⟩:=x.done;have D:∀ b:Addr,b∉(GS CX P w K O B N g d f G A m s H E).ex:=λb z=>absurd (show b∈([]:dJ) from z) (by simp)
 refine ⟨⟨j.mod,S.kind,rfl,rfl,AT _,λy z c L o=>?_,λy F=>?_,λy c _ h=>?_,λ_=>X,Around.frames_deeper j.frames,.inr ⟨rfl,rfl⟩,λb z=>absurd z (D b),j.bs,j.bsz,λb _ _=>D b,λb z=>absurd z (D b),j.funs,j.frf,j.seer,j.tree,λs' I=>PySem.PylongRoom.of (j.mod.nolimit.keeps I) R (PySem.SeerAt.of (j.seer.keeps I) j.tree (Around.frames_deeper j.frames) S.gen S.co rfl rfl)⟩,
  rfl,j.bare,Un.kept hk,⟨_,x.toInCall.ns,λi y v L o h3=>?_⟩,λy c h=>⟨_,x.cell y c h⟩,j.hok.fresh (AT _),λy c h=>?_,λp hp=>absurd (show p∈([]:dC) from hp) (by simp),j.hok.kept hk,?_⟩
 ·exact name_of_addr x.apart (PySem.mem_of_lookup L) (PySem.mem_of_lookup o)
 ·have F:d.names.lookup y=some .cell\/d.names.lookup y=some .free:=F;rcases F with F | F
  ·exact On F
  ·exact absurd rfl (S.nofree _ (PySem.mem_of_lookup F))
 ·exact CU (x.above y c (PySem.mem_of_lookup h))
 ·have M:i<C.length:=by
   unfold start at o;by_cases M:i<C.length
   ·exact M
   ·rw [EB (by simpa using M)] at o;rw [EC] at o;split at o <;> cases o
  have Z:C[i]?=some v:=by
   unfold start at o;rw [FU (by simpa using M),Aq] at o;cases e:C[i]? with
   | none=>rw [e] at o;cases o
   | some a=>rw [e] at o;cases o;rfl
  obtain ⟨u,U,rv⟩:=r.get Z
  have hp:ps[i]?=some y:=by
   rw [<-S.pre,List.getElem?_take_of_lt ⋯];exact L
  have J:ps.Nodup:=by rw [<-S.pre];exact S.nd.sublist (List.take_sublist _ _)
  refine ⟨u,rv,?_⟩;rcases S.par y (Bj hp) with k | k
  ·exact .inl ⟨k,Ol J hp U k⟩
  ·obtain ⟨c,e⟩:=On (n:=s.heap.objs.size+1) k;refine .inr ⟨.inl k,c,e,?_⟩;have q:=x.cell y c e;rw [Om J hp U (by show d.names.lookup y≠_;rw [k];decide)] at q;exact q
 ·exact j.hok.fresh (CU (x.above y c (PySem.mem_of_lookup h)))
 ·unfold start;show _=N.length;rw [Cq,AR,Dr];omega
theorem WX {CX:aK} {P:Program} {w:World} {K:W.Frag} {O:dE} {h:Heap} {k:Nat} {f:Addr} {name d:Str} {i:Arguments} {j:List Stmt} {a:Scope} {dV kV F pm g ct oc:Value} {an od:Option Addr}
  {T:Array (dI)} {N ps:dH} {sp:Sp} (lk:K.lookup f=some ⟨oc,od,.func (W.fnOf name d i j a dV kV F pm an g ct),T⟩) (U:W.codeIn K g d=true) (S:FnScope N ps a)
  (len:∀ m H Q E,sp m H Q E->m.length=ps.length)
  (B:∀ (A:Around) (c:List Env) (s:Shared) (H:Hp) (m:dj) (Q:VK) (E:XK),Room k (A.deeper (envOfC d a s.heap.objs.size f g))->sp m H Q E->
   ∃ t,PSs (GS CX P w K O h N d a f g A c s H E) j t/\t { nx:=λ_ z=>Q .non z,rt:=Q } (start N m) H) :
  FnOk P w K O h CX (k+1) f (W.fnOf name d i j a dV kV F pm an g ct) ps sp:=by
 refine ⟨len,λA c s H a0 us m Q E R G hb r L=>?_⟩;have hl:=len _ _ _ _ L;have KX:K.In s.heap:=G.mod.kin.keeps λb o e=>(G.bs b o e).1;have X:s.heap.NoLimit:=G.mod.nolimit.keeps λb o e=>(G.bs b o e).1
 have C:∀ y∈ps.zip us,a.names.lookup y.1=some .local\/(a.names.lookup y.1=some .cell/\((cellsFrom (s.heap.objs.size+1) a.names []).lookup y.1).isSome=true):=λ⟨n,v⟩ hy=>by
  rcases S.par n (List.of_mem_zip hy).1 with q | q
  ·exact .inl q
  ·exact .inr ⟨q,W.cellsFrom_some _ _ _ (.inl q)⟩
 refine codeAny_call_function R.depth (KX _ _ lk) rfl S.co S.gen rfl (W.codeRec_of KX U) (hb _ _ _ _ ?_);refine wpAny_newFunctionEnv_cells S.kind C λa1 he s1 x=>?_;subst he;refine ⟨X.keeps x.toInCall.keep,codeAny_func ?_⟩;obtain ⟨t,ht,hq⟩:=B A c s H m Q E (R.deeper _) L;have I:Inv (GS CX P w K O h N d a f g A c s H E) [] (start N m) H s1:=WW S R.hd (by have:=(R.deeper (envOfC d a s.heap.objs.size f g)).dp;show _+100<_;omega) G hl r x;refine kG (ht [] s1 (start N m) H _ I hq) (λfl Y D=>?_) λe Y D=>D
 have M:∀ {p:St} {z:Hp} {v:V} {u:Value},Inv (GS CX P w K O h N d a f g A c s H E) [] p z Y->RelV v u->Q v z->CE c P w H s Q u Y:=
  λ{p z v u} J Z q=>⟨v,z,J.os,J.bare,J.base,J.hok,Z,q⟩
 cases fl with
 | ret u=>
   obtain ⟨v,p,z,J,Z,q⟩:=D;exact M J Z q
 | next=>
   obtain ⟨p,z,J,q⟩:=D;exact M (v:=V.non) (u:=Value.none) J rfl q
 | brk=>
   obtain ⟨_,_,_,q⟩:=D;exact False.elim q
 | cont=>
   obtain ⟨_,_,_,q⟩:=D;exact False.elim q
section
variable {X:Cx} {x:Str} {p pos:Pos} {e:Expr} {es:dF} {t:TA} {id T:String} {r:dj->Hp->VK->Prop}
def K' (r:dj->Hp->VK->Prop) (t:TA):TE:=λa H Q=>t a H λb c=>r b c Q
def As (f:CY X (.builtin id) r) (g:Gl X x) (i:X.mg x=none) (j:bootBuiltins x=some (.builtin id)) (k:PA X (e::es) t) (m:x ≠ "__name__" := by decide) (b:(x == ("__debug__" : Str))=false:=by decide)
  (n:starEach (e::es) X.env=(false,eval e X.env)::starEach es X.env:=by rfl) (c:(backTo pos (starEach es X.env)).any (·.1)=false:=by rfl):PE X (.Call (.Name x p) (e::es) [] pos) (K' r t):=by
 intro a s d H Q I h;refine wpAny_Call_Name_kw (Em I g i j ?_ m b);exact PyProof.Rows.callWith_builtin1 (E_ (k pos a s d H _ I h) λo q ⟨u,v,w,y,z⟩=>f a q d v u o Q w y z) n c
def HK (f:CY X (.type T) r) (g:Gl X x) (i:X.mg x=none) (j:bootBuiltins x=some (.type T)) (k:PA X (e::es) t) (m:x ≠ "__name__" := by decide) (b:(x == ("__debug__" : Str))=false:=by decide)
  (n:starEach (e::es) X.env=(false,eval e X.env)::starEach es X.env:=by rfl) (c:(backTo pos (starEach es X.env)).any (·.1)=false:=by rfl):PE X (.Call (.Name x p) (e::es) [] pos) (K' r t):=by
 intro a s d H Q I h;refine wpAny_Call_Name_kw (Em I g i j ?_ m b);exact PyProof.Rows.callWith_type1 (E_ (k pos a s d H _ I h) λo q ⟨u,v,w,y,z⟩=>f a q d v u o Q w y z) n c
end
end L2
namespace HT
open PySem PyProof.Rows
section
variable {prog:Program} {w:World} {A:Around} {E:dw} {s:Shared}
def cat_tup {t b:Addr} {d a:du} {Q:dw} (B:IsTup s.heap t d.toArray) (C:IsTup s.heap b a.toArray) (p:d≠[])
  (D:a=[]->Q (.ref t) s) (F:a≠[]->Q (.ref s.heap.objs.size) { s with heap:=s.heap.push { cls:=.type "tuple", data:=.seq (d++a).toArray } })
  (hsz:d.length+a.length<=sizeLine):wpAny (model prog w) A (binaryOp .Add (.ref t) (.ref b)) Q E s:=by
 obtain ⟨⟨o,r,f,u⟩,k,v,n,x⟩:=id B;obtain ⟨⟨y,g,data2,h⟩,c,i,z,j⟩:=id C;simp only at v x i j;subst v x i j;have e:d.toArray++a.toArray=(d++a).toArray:=by simp
 by_cases m:a=[]
 ·exact concat_meets ⟨_,k,rfl⟩ ⟨_,c,rfl⟩ noFill_tuple_add seq_tuple_add PySem.F.slot_tuple_add PySem.F.entry_tuple_add (PySem.F.args_tuple_add_2 _ _)
   (tuple_addW1 t b d.toArray a.toArray n z r g u h (by simpa using p) (by simp [m])) ⟨k,c,D m⟩
 ·refine concat_meets ⟨_,k,rfl⟩ ⟨_,c,rfl⟩ noFill_tuple_add seq_tuple_add PySem.F.slot_tuple_add PySem.F.entry_tuple_add (PySem.F.args_tuple_add_2 _ _)
   (tuple_addW2 t b d.toArray a.toArray n z r g u h (by simpa using p) (by simpa using m) (by rw [BK,BK];exact hsz)) ⟨k,c,?_⟩
  rw [e];exact F m
noncomputable def sIx (n d:Nat):Option Int->Nat
 | none=>d
 | some v=>if v<0 then (v+(n:Int)).toNat else min v.toNat n
theorem Oo {v:Value} {o:Option Int} {Q:Option Int->Shared->Prop} (p:IsPart v o) (h:Q o s):wpAny (model prog w) A (Builtin.Slice.slicePartIndex v) Q E s:=by
 cases p with
 | none=>exact slicePart_none h
 | int i t=>exact slicePart_int h
end
end HT
namespace L2
open PySem PySem.Spec PyProof.Rows
noncomputable abbrev TO:=St->Hp->(Option Int->Hp->Prop)->Prop
def PO (X:Cx) (e:Option Expr) (t:TO):Prop:=
 ∀ (a:dC) (s:Shared) (b:St) (H:Hp) (Q:Option Int->Hp->Prop),Inv X a b H s->t b H Q->
   wpAny (model X.prog X.w) X.A (evalPart e X.env) (λu d=>∃ o c,Inv X a b c d/\IsPart u o/\Q o c) X.xe s
noncomputable def GU:TO:=λ_ H Q=>Q none H
noncomputable def E8 (t:TE):TO:=λa H Q=>t a H λx b=>∃ i,x=.int i/\Q (some i) b
section
variable {X:Cx} {e:Expr} {te:TE} {lo hi:Option Expr} {tl th:TO} {pos p2:Pos}
def IS:PO X none GU:=by
 intro a s b H Q I h;rw [evalPart_none];exact kF ⟨none,H,I,.none,h⟩
def GV (h:PE X e te):PO X (some e) (E8 te):=by
 intro a s b H Q I c;rw [evalPart_some];refine E_ (h a s b H _ I c) λu k ⟨x,d,f,g,j⟩=>?_;obtain ⟨i,rfl,q⟩:=j;obtain ⟨t,rfl⟩:=g;exact ⟨some i,d,f,.int i t,q⟩
def cH (X:Cx) (r:V->Option Int->Option Int->Hp->VK->Prop):Prop:=
 ∀ (a:dC) (s:Shared) (b:St) (H:Hp) (x:V) (v c d:Value) (lo hi:Option Int) (f:Addr) (Q:VK),Inv X a b H s->RelV x v->s.heap.IsSliceOf f c d .none->IsPart c lo->IsPart d hi->r x lo hi H Q->
   ∃ T id,typeLookup (.type T) "__getitem__" = pure (some (.builtin id))/\s.TypeIs v T/\wpAny (model X.prog X.w) X.A (getItem v (.ref f)) (EP X a b Q) X.xe s
def aY (r:V->Option Int->Option Int->Hp->VK->Prop) (te:TE) (tl th:TO):TE:=λa H Q=>te a H λx b=>tl a b λl c=>th a c λu d=>r x l u d Q
def IT {r:V->Option Int->Option Int->Hp->VK->Prop} (n:cH X r) (o:PE X e te) (p:PO X lo tl) (w:PO X hi th):PE X (.Subscript e (.Slice lo hi none p2) pos) (aY r te tl th):=by
 intro a s g H Q I h;refine Subscript_ (E_ (o a s g H _ I h) λv y ⟨x,z,A,B,C⟩=>?_);refine wpAny_Slice (E_ (p a y g z _ A C) λj D ⟨l,E,F,G,J⟩=>E_ (w a D g E _ F J) λk c ⟨u,m,K,pu,L⟩=>?_);rw [evalPart_none];refine kF ?_;have M:Inv X a g m { c with heap:=c.heap.push { cls:=.type "slice", data:=.fields #[j,k,.none] } }:=K.kept (t':=c.toks) λb R q=>Heap.get?_push_of_some _ q;obtain ⟨T,id,N,O,P⟩:=n a { c with heap:=c.heap.push { cls:=.type "slice", data:=.fields #[j,k,.none] } } g m x v j k l u c.heap.objs.size Q M B (Heap.IsSliceOf.new ..) G pu L;show wpAny (model X.prog X.w) X.A (subscriptTail e (.Slice lo hi none p2) v (.ref c.heap.objs.size)) (EP X a g Q) X.xe { c with heap:=c.heap.push { cls:=.type "slice", data:=.fields #[j,k,.none] } };exact tail_any (ops:=[.ref c.heap.objs.size,v]) O N P (by with_unfolding_all rfl)
noncomputable def CN (xs:dj) (lo hi:Option Int):dj:=(xs.drop (HT.sIx xs.length 0 lo)).take (HT.sIx xs.length xs.length hi - HT.sIx xs.length 0 lo)
def WY (xs:dj) (lo hi:Option Int):(CN xs lo hi).length<=xs.length:=by
 unfold CN;rw [Cd,List.length_drop];omega
def WZ (K:W.Frag):R2:=λx y H Q=>∃ a b d c,x=.ref a/\y=.ref b/\SqT K H a d/\SqT K H b c/\d≠[]/\d.length+c.length<=sizeLine/\
 (c=[]->Q (.ref a) H)/\(c≠[]->∀ p,H p=none->Q (.ref p) (upd H p (.tup (d++c))))
theorem Vals.nil_iff {xs:dj} {a:du} (r:Vals xs a):a=[]↔xs=[]:=by
 cases r with
 | nil=>simp
 | cons _ _=>simp
def Wa:OpR X (binaryOp .Add) (WZ X.K):=by
 intro f s F H x y v u Q I j k h;obtain ⟨a,b,m,n,rfl,rfl,p,r,A,g,B,C⟩:=h;cases j;cases k;obtain ⟨D,d,E,_⟩:=I.tuple p;obtain ⟨i,c,p2,_⟩:=I.tuple r;refine HT.cat_tup E p2 (λz=>A (d.nil_iff.mp z)) (λz=>⟨.ref a,H,I,rfl,B (c.nil_iff.mp z)⟩) (λz=>?_) (by rw [<-d.length,<-c.length];exact g);refine ⟨.ref s.heap.objs.size,_,I.laid (t':=s.toks) (o:=.tup (m++n)) (λb G q=>Heap.get?_push_of_some _ q) (AT _) ?_,rfl,C (λw=>z (c.nil_iff.mpr w)) _ (I.hok.fresh (AT _))⟩;exact ⟨by rw [Cq];exact g,_,d.append c,IsTup.new _ _⟩
end
noncomputable def ak (n:Nat) (i:Int):Option Nat:=if 0<=i then (if i<n then some i.toNat else none) else if -(n:Int)<=i then some (i+n).toNat else none
noncomputable def N_ {a:Type} (xs:List a) (i:Int):Option a:=(ak xs.length i).bind λj=>xs[j]?
def Op {n:Nat} {i:Int} {j:Nat} (h:ak n i=some j):seqIndex? i n=some j/\j<n/\-(n:Int)<=i/\i<n:=by
 unfold ak at h;by_cases b:0<=i
 ·rw [kA b] at h;by_cases a:i<n
  ·rw [kA a] at h;have e:i.toNat=j:=kH h;exact ⟨by rw [seqIndex_of b a,e],⋯,⋯,a⟩
  ·rw [lZ a] at h;cases h
 ·rw [lZ b] at h;by_cases a:-(n:Int)<=i
  ·rw [kA a] at h;have e:(i+n).toNat=j:=kH h;exact ⟨by rw [seqIndex_neg ⋯ a,e],⋯,a,⋯⟩
  ·rw [lZ a] at h;cases h
theorem LY {a:Type} {xs:List a} {i:Int} {v:a} (h:N_ xs i=some v):∃ j,seqIndex? i xs.length=some j/\xs[j]?=some v/\j<xs.length/\-(xs.length:Int)<=i/\i<xs.length:=by
 unfold N_ at h;cases e:ak xs.length i with
 | none=>rw [e] at h;cases h
 | some j=>
   rw [e] at h;obtain ⟨b,c,d,f⟩:=Op e;exact ⟨j,b,h,c,d,f⟩
def IU {a:Type} {xs:List a} {j:Nat} {v:a} (h:xs[j]?=some v):N_ xs (j:Int)=some v:=by
 have b:j<xs.length:=(Bw.mp h).1
 have e:ak xs.length (j:Int)=some j:=by
  unfold ak;rw [kA ⋯,kA ⋯];simp
 unfold N_;rw [e];exact h
def Wb (b:Expr):Prop:=∀ o i,subscripted b false o i=operate [o,i] (getItem o i)
def aZ (X:Cx) (r:R2):Prop:=
 ∀ (c a:Expr) (b:dC) (s:Shared) (d:St) (H:Hp) (x y:V) (v u:Value) (Q:VK),Inv X b d H s->RelV x v->RelV y u->r x y H Q->
   subscripted a false v u=operate [v,u] (getItem v u)->wpAny (model X.prog X.w) X.A (subscriptTail c a v u) (EP X b d Q) X.xe s
def MtR (X:Cx) (id:String) (r:V->dj->Hp->VK->Prop):Prop:=
 ∀ (a:dC) (s:Shared) (b:St) (H:Hp) (x:V) (c:dj) (v:Value) (d:du) (Q:VK),Inv X a b H s->RelV x v->Vals c d->r x c H Q->
   wpAny (model X.prog X.w) X.A (call (.builtin id) (v::d)) (EP X a b Q) X.xe s
section
variable {X:Cx} {a b:Expr} {ta tb:TE} {pos:Pos}
def BY {r:R2} (d:aZ X r) (e:PE X a ta) (f:PE X b tb) (g:Wb b):PE X (.Subscript a b pos) (A_ r ta tb):=by
 intro c s i H Q I h;exact Subscript_ (LV e f I h λv u j x y k m n o q=>d a b c j i k x y v u Q m n o q (g _ _))
def Wc (K:W.Frag):R2:=λx y H Q=>∃ p c i v,x=.ref p/\y=.int i/\SqL K H p c/\N_ c i=some v/\Q v H
def Wd (K:W.Frag):R2:=λx y H Q=>∃ p c i v,x=.ref p/\y=.int i/\SqT K H p c/\N_ c i=some v/\Q v H
def Oq:aZ X (Wc X.K):=by
 intro f g c s o H x y v u Q I D E h A;obtain ⟨p,O,i,z,rfl,rfl,F,G,q⟩:=h;cases D;obtain ⟨t,rfl⟩:=E;obtain ⟨k,r,m,P⟩:=I.list F;obtain ⟨j,e,J,R,K,L⟩:=LY G;obtain ⟨w,B,rw'⟩:=r.get J;have M:=r.length;have S:=HJ;have d:EP X c o Q w s:=⟨z,H,I,rw',q⟩;by_cases C:0<=i
 ·have n:i.toNat=j:=by
   rw [seqIndex_of C L] at e;exact kH e
  exact item_listR m.isList C ⋯ (by rw [n];simpa using B) d A
 ·have n:(i+(k.toArray.size:Int)).toNat=j:=by
   rw [seqIndex_neg ⋯ K] at e;rw [BK,<-M];exact kH e
  exact subscriptTail_builtinR (x:=w) m.isList.typeIs slot_list_getitem.lookup
   (wpAny_getItem_list_neg (Q:=λr N=>r=w/\EP X c o Q r N) m.isList ⋯ (by rw [BK] <;> omega) ⋯ (by rw [n];simpa using B) ⟨rfl,d⟩) A
def Os:aZ X (Wd X.K):=by
 intro d e c s g H x y v u Q I m n h o;obtain ⟨p,K,i,z,rfl,rfl,A,B,q⟩:=h;cases m;obtain ⟨t,rfl⟩:=n;obtain ⟨C,r,k,L⟩:=I.tuple A;obtain ⟨j,D,E,M,N,O⟩:=LY B;obtain ⟨w,F,rw'⟩:=r.get E;have G:=r.length;have P:=HJ;have f:EP X c g Q w s:=⟨z,H,I,rw',q⟩
 exact subscriptTail_builtinR (x:=w) k.typeIs slot_tuple_getitem.lookup
  (getItem_tuple (j:=j) (Q:=λr J=>r=w/\EP X c g Q r J) k ⋯ ⋯ (by rw [BK,<-G];exact D) (by simpa using F) ⟨rfl,f⟩) o
def We (its:du) (n j:Nat) (u:Value):Obj.mapSeq (·.setIfInBounds j u) { cls:=.type "list", data:=.seq its.toArray n }={ cls:=.type "list", data:=.seq (its.set j u).toArray n }:=by
 simp [Obj.mapSeq]
def Inv.lst {c:dC} {d:St} {H:Hp} {s:Shared} {p:Addr} {xs:dj} (I:Inv X c d H s) (h:H p=some (.lst xs)) :
  ∃ (its:du) (n:Nat),Vals xs its/\s.heap.get? p=some { cls:=.type "list", data:=.seq its.toArray n }/\xs.length<=sizeLine:=by
 obtain ⟨z,its,n,r,e⟩:=I.hok p _ h;exact ⟨its,n,r,e,z⟩
def Inv.lstUpd {c:dC} {i:St} {H:Hp} {s:Shared} {p:Addr} {xs d:dj} {its its':du} {n g:Nat} {f:Obj->Obj} (I:Inv X c i H s) (h:H p=some (.lst xs))
  (o:s.heap.get? p=some { cls:=.type "list", data:=.seq its.toArray n }) (j:f { cls:=.type "list", data:=.seq its.toArray n }={ cls:=.type "list", data:=.seq its'.toArray g }) (r:Vals d its') (v:d.length<=sizeLine) (t:Nat) :
  Inv X c i (upd H p (.lst d)) { s with heap:=s.heap.update p f,toks:=t }:=by
 have e:(s.heap.update p f).get? p=some { cls:=.type "list", data:=.seq its'.toArray g }:=by
  rw [Heap.get?_update_self f o (by rw [j] <;> rfl),j]
 refine I.write (x:=p) (e:=p) (by rw [h];trivial) (.inl rfl) (λb u w q=>(Heap.get?_update_other _ _ (Ne.symm w)).trans q) ⟨_,e⟩ ?_;exact ⟨v,its',g,r,e⟩
def Di:V->V->V->Hp->(Hp->Prop)->Prop:=λo i v H Q=>∃ p c k j,o=.ref p/\i=.int k/\H p=some (.lst c)/\ak c.length k=some j/\Q (upd H p (.lst (c.set j v)))
def ER:be X Di:=by
 intro c s A H o i v J K u Q I B C D h;obtain ⟨p,E,k,j,rfl,rfl,hp,F,q⟩:=h;cases B;obtain ⟨t,rfl⟩:=C;obtain ⟨d,n,r,f,G⟩:=I.lst hp;obtain ⟨e,L,m,w⟩:=Op F;have g:=r.length;have M:=HJ
 have x:Inv X c A (upd H p (.lst (E.set j v))) { s with heap:=s.heap.update p (Obj.mapSeq (·.setIfInBounds j u)) }:=
  I.lstUpd hp f (We d n j u) (r.set D j) (by rw [List.length_set];exact G) s.toks
 by_cases z:0<=k
 ·have hk:k.toNat=j:=by
   rw [seqIndex_of z w] at e;exact kH e
  exact W.ki_setAt f z ⋯ (by rw [BK,<-g];exact w) (by rw [hk];exact ⟨_,x,q⟩)
 ·have hk:(k+(d.toArray.size:Int)).toNat=j:=by
   rw [seqIndex_neg ⋯ m] at e;rw [BK,<-g];exact kH e
  exact W.ki_setBack f ⋯ (by rw [BK,<-g];exact m) ⋯ (by rw [hk];exact ⟨_,x,q⟩)
def Wf (lo c:Option Int) (n:Nat):(sliceBounds lo c none n).1=((HT.sIx n 0 lo:Nat):Int)/\(sliceBounds lo c none n).2.1=((HT.sIx n n c:Nat):Int)/\(sliceBounds lo c none n).2.2=1:=by
 refine ⟨?_,?_,rfl⟩
 ·cases lo with
  | none=>simp [sliceBounds,HT.sIx]
  | some i=>
    simp only [sliceBounds,HT.sIx,Option.getD_none,show (1:Int) > 0 by decide,if_true];by_cases h:i<0
    ·simp only [h,if_true] <;> omega
    ·simp only [h,if_false] <;> omega
 ·cases c with
  | none=>simp [sliceBounds,HT.sIx]
  | some i=>
    simp only [sliceBounds,HT.sIx,Option.getD_none,show (1:Int) > 0 by decide,if_true];by_cases h:i<0
    ·simp only [h,if_true] <;> omega
    ·simp only [h,if_false] <;> omega
def Wg (its:du) (lo c:Option Int):slicePick its.toArray lo c none=((its.drop (HT.sIx its.length 0 lo)).take (HT.sIx its.length its.length c - HT.sIx its.length 0 lo)).toArray:=by
 obtain ⟨d,e,f⟩:=Wf lo c its.toArray.size;unfold slicePick;rw [d,e,f];simp only [sliceRange_one,pick_run,BK] <;> rfl
def Wh (K:W.Frag):V->Option Int->Option Int->Hp->VK->Prop:=λx lo d H Q=>∃ a c,x=.ref a/\SqL K H a c/\∀ p,H p=none->Q (.ref p) (upd H p (.lst (CN c lo d)))
def Ot:cH X (Wh X.K):=by
 intro f s u H x v w y lo e z Q I i j k pu h;obtain ⟨a,c,rfl,m,q⟩:=h;cases i;obtain ⟨n,r,g,p⟩:=I.list m;have d:=r.length;refine ⟨"list", _,slot_list_getitem.lookup,g.isList.typeIs,?_⟩;refine wpAny_getItem_list_slice g.isList j k pu .none (by simp) ?_ (by rw [BK] <;> omega);rw [Wg,<-d];refine ⟨.ref s.heap.objs.size,_,I.laid (t':=s.toks) (o:=.lst (CN c lo e)) (λb A q=>Heap.get?_push_of_some _ q) (AT _) ?_,rfl,q _ (I.hok.fresh (AT _))⟩;exact ⟨A7 (WY c lo e) p,_,0,(r.drop (HT.sIx c.length 0 lo)).take (HT.sIx c.length c.length e - HT.sIx c.length 0 lo),Heap.get?_push_size _ rfl⟩
def Ju:CY X (.builtin "len") (λj H Q=>∃ p d,j=[.ref p]/\(SqL X.K H p d\/SqT X.K H p d)/\Q (.int d.length) H):=by
 intro k s o H j v Q I r h;obtain ⟨p,d,rfl,e,q⟩:=h;obtain ⟨u,rfl,m⟩:=EQ r;cases m;have w:=HJ;rcases e with e | e
 ·obtain ⟨f,g,i,n⟩:=I.list e;have c:=g.length;exact Calls.call_len_list i.isList (by simp only [BK] <;> omega) ⟨.int d.length,H,I.tok _,⟨s.toks+1,by rw [BK,c]⟩,q⟩
 ·obtain ⟨f,g,i,n⟩:=I.tuple e;have c:=g.length;exact len_tuple i (by simp only [BK] <;> omega) ⟨.int d.length,H,I.tok _,⟨s.toks+1,by rw [BK,c]⟩,q⟩
def Ou:CY X (.type "list") (λB H Q=>∃ p f,B=[.ref p]/\(SqL X.K H p f\/SqT X.K H p f)/\∀ l,H l=none->Q (.ref l) (upd H l (.lst f))):=by
 intro j s E H B G Q I r h;obtain ⟨p,f,rfl,k,q⟩:=h;obtain ⟨u,rfl,F⟩:=EQ r;cases F
 have m:∀ (c:du),Vals f c->f.length<=sizeLine->∀ (d:Heap) (g:Nat),(∀ b C,s.heap.get? b=some C->d.get? b=some C)->
   d.get? s.heap.objs.size=some { cls:=.type "list", dict:=none,data:=.seq c.toArray g,slots:=#[] }->EP X j E Q (.ref s.heap.objs.size) { s with heap:=d }:=λc i v d g kp e=>
  ⟨.ref s.heap.objs.size,_,I.laid (t':=s.toks) kp (AT _) (show ObjOk X.prog X.w _ d _ (.lst f) from ⟨v,c,g,i,e⟩),rfl,q _ (I.hok.fresh (AT _))⟩
 rcases k with k | k
 ·obtain ⟨c,i,x,v⟩:=I.list k;have w:=i.length;obtain ⟨o,y,z,n,A⟩:=x.isList;exact call_list_seq p (.inl rfl) y z A (λd g kp e=>m c i v d g kp e) (by simp only [BK] <;> omega)
 ·obtain ⟨c,i,x,v⟩:=I.tuple k;have w:=i.length;obtain ⟨o,y,z,n,A⟩:=x;exact call_list_seq p (.inr rfl) y z A (λd g kp e=>m c i v d g kp e) (by simp only [BK] <;> omega)
def Wi:CY X (.type "tuple") (λn H Q=>∃ p f,n=[.ref p]/\((SqL X.K H p f/\∀ l,H l=none->Q (.ref l) (upd H l (.tup f)))\/(SqT X.K H p f/\Q (.ref p) H))):=by
 intro c s v H n D Q I r h;obtain ⟨p,f,rfl,h⟩:=h;obtain ⟨u,rfl,A⟩:=EQ r;cases A;rcases h with ⟨j,q⟩ | ⟨j,q⟩
 ·obtain ⟨d,k,m,w⟩:=I.list j;have x:=k.length;refine call_tuple_list m.isList (λi kp=>?_) (by simp only [BK] <;> omega);have y:Inv X c v H { s with heap:=i }:=I.kept (t':=s.toks) kp
  have B:Inv X c v (upd H i.objs.size (.tup f)) { s with heap:=i.push { cls:=.type "tuple", data:=.seq d.toArray } }:=
   y.laid (t':=s.toks) (λb o e=>Heap.get?_push_of_some _ e) (AT _) (show ObjOk X.prog X.w _ _ _ (.tup f) from ⟨w,d,k,IsTup.new _ _⟩)
  exact ⟨.ref i.objs.size,_,B,rfl,q _ (y.hok.fresh (AT _))⟩
 ·obtain ⟨d,k,m,w⟩:=I.tuple j;exact call_tuple_same m ⟨.ref p,H,I,rfl,q⟩
def cI (K:W.Frag) (T:String) (x:V) (H:Hp):Prop:=match x with
 | .str _=>T = "str"
 | .int _=>T = "int"
 | .ref p=>(T = "list" /\ ∃ d,SqL K H p d)\/(T = "tuple" /\ ∃ o,K.lookup p=some o/\o.cls=.type "tuple" /\ o.dict=none)\/
   (T = "dict" /\ ((∃ c,H p=some (.dK c))\/∃ c,H p=some (.dT c)))\/(T = "set" /\ ∃ S n,H p=some (.set S n))
 | _=>False
theorem Wj {f:dC} {u:St} {H:Hp} {s:Shared} {T:String} {x:V} {v:Value} (I:Inv X f u H s) (r:RelV x v) (g:cI X.K T x H) :
  s.TypeIs v T/\∀ a,v=.ref a->∃ m,s.heap.get? a=some m/\m.dict=none:=by
 cases x with
 | str z=>
   obtain ⟨t,rfl⟩:=r;cases (show T = "str" from g);exact ⟨typeIs_str s z t,λ_ e=>nomatch e⟩
 | int i=>
   obtain ⟨t,rfl⟩:=r;cases (show T = "int" from g);exact ⟨typeIs_int s i t,λ_ e=>nomatch e⟩
 | ref p=>
   cases r;rcases g with ⟨rfl,B,w⟩ | ⟨rfl,o,hk,y,h⟩ | ⟨rfl,hk⟩ | ⟨rfl,S,n,hk⟩
   ·obtain ⟨A,_,q,_⟩:=I.list w;refine ⟨q.isList.typeIs,λa e=>?_⟩;cases e;obtain ⟨o,n,e,c,h,_⟩:=q;exact ⟨o,e,h⟩
   ·refine ⟨⟨o,I.kIn p o hk,y⟩,λa e=>?_⟩;cases e;exact ⟨o,I.kIn _ o hk,h⟩
   ·have z:∃ o,s.heap.get? p=some o/\o.ExactDict:=by
     rcases hk with ⟨j,hk⟩ | ⟨j,hk⟩
     ·obtain ⟨_,_,_,_,o,_,_,e,d,_⟩:=I.hok p _ hk;exact ⟨o,e,d⟩
     ·obtain ⟨_,_,_,_,o,_,_,e,d,_⟩:=I.hok p _ hk;exact ⟨o,e,d⟩
    obtain ⟨o,e,d⟩:=z;refine ⟨⟨o,e,d.1⟩,λa k=>?_⟩;cases k;exact ⟨o,e,d.2.1⟩
   ·obtain ⟨o,_,_,_,e,d,_⟩:=I.hok p _ hk;refine ⟨⟨o,e,d.1⟩,λa k=>?_⟩;cases k;exact ⟨o,e,d.2.1⟩
 | _=>exact False.elim g
def Wk (K:W.Frag) (T:String) (r:V->dj->Hp->VK->Prop) (d:TE):TE:=λe H Q=>d e H λx c=>cI K T x c/\r x [] c Q
def bO (K:W.Frag) (T:String) (r:V->dj->Hp->VK->Prop) (e:TE) (t:TA):TE:=λc H Q=>e c H λx d=>cI K T x d/\t c d λf g=>r x f g Q
variable {o e:Expr} {es:dF} {to:TE} {t:TA} {name:Str} {apos cpos:Pos} {T id:String} {r:V->dj->Hp->VK->Prop}
def LZ (u:PlainAttrs T) (i:Slot T name id) (k:typeOf (.builtin id)=pure (.type "method_descriptor")) (w:MtR X id r) (y:PE X o to) (z:PA X (e::es) t)
  (f:attributeBase o name X.env (eval o X.env)=eval o X.env:=by rfl)
  (j:((backTo cpos (starEach (e::es) X.env)).all (λx=>!x.1) && (backToKw cpos (keywordEach [] X.env)).all (λx=>x.1.isSome)
   && decide ((e::es).length+([]:List Keyword).length+(if ([]:List Keyword).isEmpty then 0 else 1)<30))=true:=by rfl)
  (g:(apos.endLine == cpos.line)=true:=by rfl) (A:starEach (e::es) X.env=(false,eval e X.env)::starEach es X.env:=by rfl) (d:(backTo cpos (starEach es X.env)).any (·.1)=false:=by rfl) :
  PE X (.Call (.Attribute o name apos) (e::es) [] cpos) (bO X.K T r to t):=by
 intro c s m H Q I h;refine wpAny_Call_method_late f j g rfl (E_ (y c s m H _ I h) λv B ⟨x,C,n,p,D,E⟩=>?_);obtain ⟨F,G⟩:=Wj n p D;refine ⟨T,id,u,i,k,F,G,?_⟩;have q:=z cpos c B m C _ n E;rw [A] at q ⊢;refine Calls.callWith_builtin (by show (false || (backTo cpos (starEach es X.env)).any (·.1))=false;rw [d] <;> rfl) (Calls.evalArgs_plain ?_);exact E_ q λJ K ⟨L,M,N,O,P⟩=>w c K m M x L v J Q N p O P
end
def MtM (X:Cx) (id:String) (r:V->dj->Hp->VK->Prop):Prop:=
 ∀ (a:dC) (s:Shared) (b:St) (H:Hp) (x:V) (c:dj) (v:Value) (d:du) (Q:VK),Inv X a b H s->RelV x v->Vals c d->r x c H Q->
   wpAny (model X.prog X.w) X.A (call (.builtin id) (v::d)) (EP X a b Q) X.xe s
def Vals.zero {a:du} (h:Vals [] a):a=[]:=by cases h;rfl
def Vals.inv {x:V} {xs:dj} {a:du} (h:Vals (x::xs) a):∃ u t,a=u::t/\RelV x u/\Vals xs t:=by cases h with | cons r t=>exact ⟨_,_,rfl,r,t⟩
def Vals.one {x:V} {a:du} (h:Vals [x] a):∃ u,a=[u]/\RelV x u:=by obtain ⟨u,t,rfl,r,h⟩:=h.inv;exact ⟨u,by rw [h.zero],r⟩
def Vals.two {x y:V} {a:du} (h:Vals [x,y] a):∃ u v,a=[u,v]/\RelV x u/\RelV y v:=by obtain ⟨u,t,rfl,r,h⟩:=h.inv;obtain ⟨v,rfl,q⟩:=h.one;exact ⟨u,v,rfl,r,q⟩
theorem Vals.rep {xs:dj} {a:du} (h:Vals xs a):∀ k:Nat,Vals (List.replicate k xs).flatten (List.replicate k a).flatten
 | 0=>.nil
 | k+1=>by
   rw [GG,GG,List.flatten_cons,List.flatten_cons];exact Vals.append h (Vals.rep h k)
theorem La (its:du):∀ (k:Nat) (a:du),
  List.foldl (λb c=>b++c) a.toArray (List.replicate k its.toArray)=(a++(List.replicate k its).flatten).toArray
 | 0,a=>by simp
 | k+1,a=>by
   have e:a.toArray++its.toArray=(a++its).toArray:=by simp
   have d:(a++its)++(List.replicate k its).flatten=a++(List.replicate (k+1) its).flatten:=by
    rw [GG,List.flatten_cons,List.append_assoc]
   rw [<-d,<-La its k (a++its),<-e,GG,List.foldl_cons]
section
variable {X:Cx} {pins:dC} {σ:St} {H:Hp} {s:Shared} {l b:Addr} {xs ys zs:dj}
def Inv.lset {its its':du} {n:Nat} {f:Array Value->Array Value} {t':Nat} (I:Inv X pins σ H s) (d:H l=some (.lst xs))
  (e:s.heap.get? l=some { cls:=.type "list", data:=.seq its.toArray n }) (g:f its.toArray=its'.toArray) (h:Vals ys its') (i:ys.length<=sizeLine) :
  Inv X pins σ (upd H l (.lst ys)) { s with heap:=s.heap.update l (Obj.mapSeq f),toks:=t' }:=by
 have q:=PySem.IsL.update e f;rw [g] at q;refine I.write (x:=l) (e:=l) (by rw [d];exact trivial) (.inl rfl) (λm u j k=>(Heap.get?_update_other s.heap (Obj.mapSeq f) (Ne.symm j)).trans k) ⟨_,q⟩ ?_;exact ⟨i,its',_,h,q⟩
def Inv.lnew {its:du} {t':Nat} (I:Inv X pins σ H s) (e:Vals ys its) (f:ys.length<=sizeLine) :
  Inv X pins σ (upd H s.heap.objs.size (.lst ys)) { s with heap:=s.heap.push { cls:=.type "list", data:=.seq its.toArray },toks:=t' }:=
 I.laid (λ_ _ q=>Heap.get?_push_of_some _ q) (AT _) ⟨f,its,0,e,Heap.get?_push_size _ rfl⟩
def Inv.fresh (I:Inv X pins σ H s):H s.heap.objs.size=none:=I.hok.fresh (AT _)
def Inv.lstM (I:Inv X pins σ H s) (a:H l=some (.lst xs)):xs.length<=sizeLine/\∃ (its:du) (n:Nat),Vals xs its/\xs.length=its.length/\s.heap.get? l=some { cls:=.type "list", data:=.seq its.toArray n }:=by
 obtain ⟨z,its,n,r,e⟩:=I.hok l _ a;exact ⟨z,its,n,r,r.length,e⟩
def Ow {n:Nat} (h:n<=sizeLine):Builtin.List.listTooLong n=false:=by
 unfold Builtin.List.listTooLong;exact kD ⋯
end
section
variable {X:Cx}
def Lb:V->dj->Hp->VK->Prop:=λx b H Q=>∃ l a y,x=.ref l/\b=[y]/\H l=some (.lst a)/\a.length<sizeLine/\Q .non (upd H l (.lst (a++[y])))
def Wl:MtM X "list.append" Lb:=by
 intro b s i H x j v k Q I d f h;obtain ⟨l,m,y,rfl,rfl,c,o,q⟩:=h;cases d;obtain ⟨u,rfl,g⟩:=f.one;obtain ⟨z,a,n,r,p,e⟩:=I.lstM c;refine call_meets F.slot_list_append ⟨_,e,rfl⟩ F.entry_list_append (F.args_list_append_2 _ _) (PySem.list_append l a.toArray n u (by rw [BK];omega)) ⟨e,?_⟩;refine ⟨.non,_,I.lset (its':=a++[u]) c e (by simp) (r.append (.cons g .nil)) ?_,rfl,q⟩;rw [Cq,List.length_singleton];omega
def Jv:V->dj->Hp->VK->Prop:=λx d H Q=>∃ l b a c,x=.ref l/\d=[.ref b]/\H l=some (.lst a)/\H b=some (.lst c)/\a.length+c.length<=sizeLine/\Q .non (upd H l (.lst (a++c)))
def Ox:MtM X "list.extend" Jv:=by
 intro g s B H x C v D Q I j k h;obtain ⟨l,b,E,G,rfl,rfl,i,m,J,q⟩:=h;cases j;obtain ⟨u,rfl,o⟩:=k.one;cases o;obtain ⟨z,c,n,r,K,e⟩:=I.lstM i;obtain ⟨L,a,p,w,y,A⟩:=I.lstM m;have f:c.toArray.size+a.toArray.size<=sizeLine:=by rw [BK,BK];omega
 have d:¬ (!c.toArray.isEmpty && Builtin.List.listTooLong (c.toArray.size+a.toArray.size))=true:=by
  rw [Ow f,Bool.and_false];exact Cc
 refine call_meets F.slot_list_extend ⟨_,e,rfl⟩ F.entry_list_extend (F.args_list_extend_2 _ _)
  (AutoSeq1.list_extend_list_list_0 l c.toArray n b a.toArray p d (by rw [BK];omega) ⋯) ⟨e,A,?_⟩
 refine ⟨.non,_,I.lset (its':=c++a) i e (by simp) (r.append w) ?_,rfl,q⟩;rw [Cq];omega
def Wm:V->dj->Hp->VK->Prop:=λx b H Q=>∃ l a y,x=.ref l/\b=[]/\H l=some (.lst a)/\a[a.length - 1]?=some y/\Q y (upd H l (.lst a.dropLast))
def Jw:R2:=λx y H Q=>∃ l b a c,x=.ref l/\y=.ref b/\H l=some (.lst a)/\H b=some (.lst c)/\a.length+c.length<=sizeLine/\∀ p,H p=none->Q (.ref p) (upd H p (.lst (a++c)))
def Oy:OpR X (binaryOp .Add) Jw:=by
 intro d s w H x y v u Q I f g h;obtain ⟨l,b,A,B,rfl,rfl,i,j,C,q⟩:=h;cases f;cases g;obtain ⟨z,c,n,r,D,e⟩:=I.lstM i;obtain ⟨E,a,F,k,m,o⟩:=I.lstM j;refine PySem.P.add_list e o ?_ (by rw [BK,BK];omega);have p:c.toArray++a.toArray=(c++a).toArray:=by simp
 rw [p];exact ⟨.ref _,_,I.lnew (t':=s.toks) (r.append k) (by rw [Cq];omega),rfl,q _ I.fresh⟩
def Fe:R2:=λx y H Q=>∃ l k a,x=.ref l/\y=.int k/\H l=some (.lst a)/\-(2 ^ 63)<=k/\k<2 ^ 63/\a.length*k.toNat<=sizeLine/\
 ∀ p,H p=none->Q (.ref p) (upd H p (.lst (List.replicate k.toNat a).flatten))
theorem Lc {a:Type} (xs:List a) (k:Nat):(List.replicate k xs).flatten.length=k*xs.length:=by
 induction k with
 | zero=>simp
 | succ k b=>rw [GG,List.flatten_cons,Cq,b,Nat.succ_mul,Nat.add_comm]
def HL:OpR X (binaryOp .Mult) Fe:=by
 intro p s L H x y v u Q I A B h;obtain ⟨l,k,M,rfl,rfl,C,D,E,w,q⟩:=h;cases A;obtain ⟨t,rfl⟩:=B;obtain ⟨z,b,n,r,G,e⟩:=I.lstM C;have d:b.toArray.size*k.toNat<=sizeLine:=by rw [BK,<-G];exact w
 have f:¬ b.toArray.size*k.toNat > (2 ^ 63 - 1) / 8:=by
  have:(sizeLine:Nat)<=(2 ^ 63 - 1) / 8:=by decide
  omega
 have g:¬ (!Builtin.List.listFitsIndex k)=true:=by
  rw [fitsIndex_both D E];exact Cc
 have c:¬ Builtin.List.listTooLong (b.toArray.size*k.toNat)=true:=by
  rw [Ow d];exact Cc
 have i:List.foldl (λj o=>j++o) #[] (List.replicate (if b.toArray.isEmpty=true then 0 else k.toNat) b.toArray)=(List.replicate k.toNat b).flatten.toArray:=by
  have J:∀ m:Nat,List.foldl (λj o=>j++o) #[] (List.replicate m b.toArray)=(List.replicate m b).flatten.toArray:=λm=>by
   have:=La b m [];rw [List.nil_append] at this;exact this
  rw [J];cases b with
  | nil=>simp
  | cons a N=>rw [lZ (by simp)]
 refine wpAny_binaryOp_repeat_ref (T := "list") (U := "int") ∅ ⟨_,e,rfl⟩ (λK=>typeIs_int K k t) noFill_list_mul F.fills_int_mul F.slot_int_rmul repeat_list F.slot_int_index.lookup
  (call_meets F.slot_int_rmul (typeIs_int s k t) F.entry_int_rmul (F.args_int_rmul_2 _ _) (int___rmul___int_list k t l b.toArray n)
   ⟨e,rfl,⟨_,e,rfl⟩,call_meets F.slot_list_mul ⟨_,e,rfl⟩ F.entry_list_mul (F.args_list_mul_2 _ _) (AutoListH.list___mul___list_int_3 l b.toArray n k t g f c) ⟨e,?_⟩⟩)
 rw [i];exact ⟨.ref _,_,I.lnew (t':=s.toks) (r.rep k.toNat) (by rw [Lc,B6];exact w),rfl,q _ I.fresh⟩
end
end L2
namespace Att
open PySem PySem.W PySem.Calls PyProof.Rows
theorem Wn {P:Params} {h:Heap}:∀ (ns:dq) (c:du),WellAll P h c (ns.map WData.int)->IntsAre c ns:=by
 intro ns
 induction ns with
 | nil=>
   intro c w;rw [List.map_nil] at w;cases w;exact .nil
 | cons n ns d=>
   intro c w;rw [Ds] at w;cases w with
   | cons a b=>
     cases a;exact .cons _ _ (d _ b)
theorem Wp {l:OpenLaw} {n:Nat} (v:l.most=some n) {P:Params} {h:Heap} {b:List WData} {e:du}
  (f:l.row.toRowW.claim.pre b=true) (m:WellAll P h e b) :
  ∃ a p c,e=[Value.ref a]/\b=[WData.list (c.map WData.int)]/\h.get? a=some { cls:=.type "list", data:=.seq p.toArray }/\IntsAre p c/\c.length<=n:=by
 have o:WShape.hasAll [] b [.list .int]=true:=(pre_splitW f).1;have u:l.pre.holds [] { args:=b }=true:=(pre_splitW f).2;obtain ⟨d,r,rfl,w,x⟩:=hasAllW_cons o;obtain rfl:=hasAllW_nil x;obtain ⟨D,rfl,y⟩:=hasW_list w;obtain ⟨c,rfl⟩:=items_int y
 have g:c.length<=n:=by
  unfold OpenLaw.pre at u
  have j:(WTm.not (.lt (.lit (.int (n:Int))) (.len (.arg 0)))).holds [] { args:=[.list (c.map .int)] }=true:=by
   have j:=(holds_andW u).1;rw [v] at j;exact j
  have k:=condW_of j (w_not (w_lt w_lit (w_len_list (w_arg rfl))));rw [AR] at k;refine Nat.le_of_not_lt λq=>?_;have z:(n:Int)<((c.length:Nat):Int):=by omega
  first
   | (rw [kB z] at k;exact absurd k ∅)
   | (simp at k;omega)
 cases m with
 | cons A B=>
   cases B;cases A with
   | list C i=>exact ⟨_,_,c,rfl,rfl,C,Wn c _ i,g⟩
def Wq (l:OpenLaw) (a:List WData):l.row.toRowW.claim.post a (.bool true) a=true:=
 postW_of (r:=l.row.toRowW) (X:=(true == true))
  (show WShape.has [] (.bool true) .bool=true by first | rfl | decide | simp [WShape.has,WShape.arms,WShape.armsAll])
  (show (WTm.eq .res (.lit (.bool true))).value [] { args:=a,res:=some (.bool true),after:=a }=some (.bool (true == true)) from w_eq_bool (w_res rfl) w_lit) rfl
def attach_call {l:OpenLaw} {n:Nat} {q:Program} {loose:dH} {XP:(dE)->Heap->Prop} {YP:World->Heap->Prop} {d:DefRec}
  (H:l.most=some n) (x:d.params.defaults=[])
  (call:∀ (w:World) (c b:Shared) (p y:dE) (i:Addr) (o:Obj) (pm u e:Value) (a:Addr) (h:du) (ns:dq),
   Ground q loose [] XP w c p y b.heap->YP w b.heap->
   b.heap.get? i=some o->o.data=.func (docDef d.name d.params d.body d.scope pm u e)->b.heap.CodeRec u d.name->p d.name=some (.ref i)->
   b.heap.get? a=some { cls:=.type "list", data:=.seq h.toArray }->IntsAre h ns->ns.length<=n->b.gens=#[]->
   codeAny (model l.prog w) callerA (.call (.ref i) ⟨[.ref a],[]⟩) (λr v=>r=.ok (.ret (.bool true))/\OldK b.heap v.heap/\v.os=b.os/\AllBare v.gens) b) :
  WalkO q loose XP YP l.row.toRowW d [] (λf h=>PySem.call f h):=by
 intro w c b p y G Y i o pm u e I kV J K z C A L D E as j F M B N;obtain rfl:I=.none:=Dflts.none C x;obtain rfl:kV=.none:=Dflts.noKw C;obtain ⟨a,h,ns,rfl,rfl,k,g,m⟩:=Wp H j B;refine enter_call (codeAny_mono (call w c b p y i o pm u e a h ns G Y J (fd_plain K) z A k g m L) λr v O=>?_);obtain ⟨rfl,P,Q,R⟩:=O;exact ⟨.inl ⟨.bool true,.bool true,[],rfl,λ_=>rfl,.bool true,Wq l _,λ_=>⟨List.Pairwise.nil,λ_ S=>(nomatch S)⟩⟩,P,Q,R⟩
end Att
namespace L2
open PySem PySem.Spec PyProof.Rows
theorem Oz:∀ {a:du} {ns:dq},IntsAre a ns->Vals (ns.map V.int) a
 | _,_,.nil=>.nil
 | _,_,.cons n t h=>.cons ⟨t,rfl⟩ (Oz h)
def bh (H:Hp):Prop:=∀ b,H b=none\/∃ o a,H b=some (.frz o (.lst a))
theorem Wr {P:Program} {w:World} {K:W.Frag} {G mb:dE} {CX:aK} {k:Nat} {fa a:Addr} {fd:FuncData} {x:Str} {sp:Sp} {c:Shared} {B:du} {ns:dq}
  (KX:K.In c.heap) (I:c.heap.Ns mainGlobals G) (j:c.heap.Ns builtinsNs mb) (a0:∀ x:Str,x ≠ "__name__" -> mb x=bootBuiltins x) (J:c.heap.NoLimit) (g:c.heap.NoSeer) (C:(model P w).prog.given.tree=none) (hg:c.gens=#[])
  (L:c.heap.get? a=some { cls:=.type "list", data:=.seq B.toArray }) (hi:IntsAre B ns) (hl:ns.length<=sizeLine) (hr:Room k callerA)
  (F:∀ p:Heap,K.In p->p.Ns mainGlobals G->FnOk P w K G p CX k fa fd [x] sp) (D:∀ (s:Shared) (u:Value),BindsTo s fd ⟨[u],[]⟩ [(x,u)])
  (a1:∀ H:Hp,bh H->SqL K H a (ns.map V.int)->sp [.ref a] H (λv _=>v=.bl true) λ_ _ _=>False)
  (a2:∀ H e y,CX [] H c (λ_ _ _=>False) e y->False) :
  codeAny (model P w) callerA (.call (.ref fa) ⟨[.ref a],[]⟩) (λr y=>r=.ok (.ret (.bool true))/\OldK c.heap y.heap/\y.os=c.os/\AllBare y.gens) c:=by
 have rv:=Oz hi;have M:=hi.length
 have A:∀ H:Hp,bh H->SqL K H a (ns.map V.int)->HOk P w H c.heap->(∀ b,H b≠none->b=a)->(H a≠none->K.lookup a=none)->
   codeAny (model P w) callerA (.call (.ref fa) ⟨[.ref a],[]⟩) (λr y=>r=.ok (.ret (.bool true))/\OldK c.heap y.heap/\y.os=c.os/\AllBare y.gens) c:=by
  intro H hO hS N hA hK;have f:∀ {b:Addr} {o:Obj},c.heap.get? b=some o->H b=none->(Ek c.heap H).get? b=some o:=λe n=>Vw e n
  have a3:∀ {b:Addr} {o:Obj} {O:Array DictEntry} {Q:Nat},c.heap.get? b=some o->o.data=.dict O Q->H b=none:=λ{b o O Q} e d=>by
   cases q:H b with
   | none=>rfl
   | some u=>
     have R:b=a:=hA b (by rw [q];simp);subst R;rw [L] at e;cases e;have Y:Data.seq B.toArray _=Data.dict O Q:=d;cases Y
  have i:∀ {b:Addr} {m:dE},c.heap.Ns b m->(Ek c.heap H).Ns b m:=λ{b m} ⟨o,O,Q,e,d,r⟩=>⟨o,O,Q,f e (a3 e d),d,r⟩
  have S:K.In (Ek c.heap H):=λb o e=>f (KX b o e) (by
   cases q:H b with
   | none=>rfl
   | some u=>
     have R:b=a:=hA b (by rw [q];simp);subst R;rw [hK (by rw [q];simp)] at e;cases e)
  have hM:Mod K G (Ek c.heap H):=⟨S,i I,⟨mb,i j,a0⟩,let ⟨E,h1,h2⟩:=J;⟨E,i h1,h2⟩⟩
  have a4:(Ek c.heap H).NoSeer:=⟨let ⟨E,a,b⟩:=g.statics;⟨E,i a,b⟩,let ⟨E,a,b⟩:=g.mods;⟨E,i a,b⟩,let ⟨E,a,b⟩:=g.imp;⟨E,i a,b⟩,
   let ⟨a6,Z,ob,a',b',c',Y,R⟩:=g.main;⟨a6,Z,ob,i a',b',f c' (by
    cases q:H Z with
    | none=>rfl
    | some u=>
      have z:Z=a:=hA Z (by rw [q];simp);subst z;rw [L] at c';cases c';simp at Y),Y,R⟩⟩
  have e0:Env0 P w K G (Ek c.heap H) callerA [] c H:=⟨rfl,hM,λb o e=>Vx e,Nat.le_of_eq (Vv _ _),trivial,λb j=>absurd (show b∈([]:dJ) from j) (by simp),N,.of_eq hg,a4,C⟩;refine codeAny_mono ((F _ S (i I)).run callerA [] c H ⟨[.ref a],[]⟩ [.ref a] [.ref a] _ _ hr e0 (D c (.ref a)) (.cons rfl .nil) (a1 H hO hS)) λr y h=>?_;cases r with
  | error e=>exact (a2 H e y h).elim
  | ok fl=>
    cases fl with
    | next=>exact False.elim h
    | brk=>exact False.elim h
    | cont=>exact False.elim h
    | ret u=>
      obtain ⟨v,H',os,T,un,U,r',q⟩:=h;have q':v=.bl true:=q;subst q';obtain rfl:u=Value.bool true:=r';refine ⟨rfl,OldK.of_keep λb o e=>?_,os,T⟩;cases q:H b with
      | none=>exact un.keep b o e q (by intro z;exact absurd (show b∈([]:dJ) from z) (by simp)) (by simp)
      | some u=>
        rcases hO b with z | ⟨ob,xs,z⟩
        ·rw [q] at z;cases z
        ·have z2:=un.frzs b ob _ z;obtain ⟨e1,_⟩:=N b _ z;obtain ⟨e2,_⟩:=U b _ z2;rw [e] at e1;cases e1;exact e2
 cases hk:K.lookup a with
 | some o=>
   have e:=KX a o hk;rw [L] at e;cases e;refine A (λ_=>none) (λ_=>.inl rfl) (.inr ⟨_,B.toArray,_,hk,rfl,rfl,rfl,by rw [BK,M];exact hl,by simpa using rv⟩) (λb u z=>by have X:(none:Option HO)=some u:=z;cases X) (λb z=>absurd rfl z) λz=>absurd rfl z
 | none=>
   refine A (λb=>if b=a then some (.frz { cls:=.type "list", data:=.seq B.toArray } (.lst (ns.map V.int))) else none) (λb=>?_) (.inl (.inr ⟨{ cls:=.type "list", data:=.seq B.toArray },kA rfl⟩)) (λb u z=>?_) (λb z=>?_) λ_=>hk
   ·by_cases j:b=a
    ·exact .inr ⟨_,_,kA j⟩
    ·exact .inl (lZ j)
   ·by_cases j:b=a
    ·have X:=(kA j).symm.trans z;cases X;subst j;exact ⟨L,by rw [AR];exact hl,B,_,rv,L⟩
    ·have X:=(lZ j).symm.trans z;cases X
   ·by_cases j:b=a
    ·exact j
    ·exact absurd (lZ j) z
def walk_of {l:W.OpenLaw} {n k:Nat} {q:Program} {loose:dH} {XP:(dE)->Heap->Prop} {YP:World->Heap->Prop} {d:DefRec} {K:Params->W.Frag} {CX:World->aK} {sp:World->Sp} {x:Str}
  (L:l.most=some n) (y:n<=sizeLine) (z:d.params.defaults=[]) (M:importsNone q=true) (g:∀ w,(model l.prog w).prog.given.tree=none) (N:Room k callerA)
  (O:∀ (w:World) (h:Heap),YP w h->(K w.params).In h)
  (F:∀ (w:World) (j:dE) (r:Addr) (h:Heap),(K w.params).In h->h.Ns mainGlobals j->j d.name=some (.ref r)->
   ∃ A:FuncData,(∀ (s:Shared) (u:Value),BindsTo s A ⟨[u],[]⟩ [(x,u)])/\
     ∀ b:Heap,(K w.params).In b->b.Ns mainGlobals j->FnOk l.prog w (K w.params) j b (CX w) k r A [x] (sp w))
  (B:∀ (w:World) (H:Hp) (a:Addr) (ns:dq),ns.length<=n->bh H->SqL (K w.params) H a (ns.map V.int)->sp w [.ref a] H (λv _=>v=.bl true) λ_ _ _=>False)
  (C:∀ (w:World) (H:Hp) (s:Shared) (e:Value) (s':Shared),CX w [] H s (λ_ _ _=>False) e s'->False) :
  W.WalkO q loose XP YP l.row.toRowW d [] (λf E=>PySem.call f E):=by
 refine Att.attach_call L z λw I m j Z r o pm cd P a E ns G Y ho hd Q D p i c R=>?_;have J:=O w _ Y;obtain ⟨A,S,T⟩:=F w j r _ J G.T.g D;exact Wr J G.T.g G.T.b G.T.builtins G.T.nolimit (G.T.seer M) (g w) R p i (A7 c y) N T S (λH U X=>B w H a ns c U X) λH e s'=>C w H m e s'
noncomputable def Eo (s:Stmt):Arguments:=match s with
 | .FunctionDef _ a _ _ _ _ _ _ _ _=>a
 | _=>{ posonlyargs:=[],args:=[],vararg:=none,kwonlyargs:=[],kw_defaults:=[],kwarg:=none,defaults:=[] }
noncomputable def Dv (s:Stmt):List Stmt:=match s with
 | .FunctionDef _ _ b _ _ _ _ _ _ _=>b
 | _=>[]
noncomputable def Cm (s:Stmt):Scope:=match s with
 | .FunctionDef _ _ _ _ _ _ a _ _ _=>a
 | _=>{ kind:=.function,names:=[],isGenerator:=false,isCoroutine:=false }
noncomputable abbrev aM:aK:=λ_ _ _ _ _ _=>False
abbrev E0:XK:=λ_ _ _=>False
def Ws {X:Cx}:aq aM X E0:=λ_ _ _ _ _ _ _ h=>h.elim
structure Fun (K:W.Frag) (x qual:Str) (st:Stmt) (f:Addr) (fd:FuncData):Prop where
 ex:∃ (oc:Value) (od:Option Addr) (kV doc pm:Value) (an:Option Addr) (cdv ct:Value) (osl:Array (dI)),
  fd=W.fnOf x qual (Eo st) (Dv st) (Cm st) .none kV doc pm an cdv ct/\K.lookup f=some ⟨oc,od,.func fd,osl⟩/\W.codeIn K cdv qual=true
 kp:W.keepIn K (.ref f)=true
section
variable {P:Program} {w:World} {K:W.Frag} {mg:dE} {base:Heap}
def Fun.ok {x b:Str} {st:Stmt} {f:Addr} {j:FuncData} {N ps:dH} {k:Nat} {sp:Sp} (F:Fun K x b st f j) (S:FnScope N ps (Cm st)) (len:∀ d H Q E,sp d H Q E->d.length=ps.length)
  (e:∀ (c:Value) (A:Around) (a:List Env) (s:Shared) (H:Hp) (d:dj) (Q:VK) (E:XK),Room k (A.deeper (envOfC b (Cm st) s.heap.objs.size f c))->sp d H Q E->
   ∃ t,PSs (GS aM P w K mg base N b (Cm st) f c A a s H E).nox (Dv st) t/\t { nx:=λ_ m=>Q .non m,rt:=Q } (start N d) H):FnOk P w K mg base aM (k+1) f j ps sp:=by
 obtain ⟨u,v,kV,n,y,z,c,B,o,rfl,p,g⟩:=F.ex;refine WX p g S len λA a s H d Q E r i=>?_;obtain ⟨t,h,q⟩:=e c A a s H d Q E r i;exact ⟨t,h.nox,q⟩
def Fun.binds {x a:Str} {st:Stmt} {f:Addr} {i:FuncData} {ps:dH} (F:Fun K x a st f i)
  (h:∀ (kV b pm:Value) (d:Option Addr) (c e:Value) (g:du),g.length=ps.length->bindArgs (W.fnOf x a (Eo st) (Dv st) (Cm st) .none kV b pm d c e) ⟨g,[]⟩=pure (ps.zip g)):Binds K i ps []:=by
 obtain ⟨m,n,kV,b,pm,d,c,e,j,rfl,o,k⟩:=F.ex;exact .all (h kV b pm d c e)
def Wt {x a:Str} {st:Stmt} {f:Addr} {i:Value} {j g:Option Addr} {e:Array (dI)} {kV d pm b h:Value} (l:K.lookup f=some ⟨i,j,.func (W.fnOf x a (Eo st) (Dv st) (Cm st) .none kV d pm g b h),e⟩)
  (c:W.codeIn K b a=true) (k:W.keepIn K (.ref f)=true):Fun K x a st f (W.fnOf x a (Eo st) (Dv st) (Cm st) .none kV d pm g b h):=⟨⟨i,j,kV,d,pm,g,b,h,e,rfl,l,c⟩,k⟩
end
section
variable {X:Cx}
def pv (i:Nat) {x:Str} {a:Pos} (c:X.N[i]?=some x:=by rfl) (d:ca X.env.scope x:=by first | exact Or.inl rfl | exact Or.inr (Or.inl rfl) | exact Or.inr (Or.inr rfl)) (e:(x == ("__debug__" : Str))=false:=by decide)
  (b:(x == ("__classdict__" : Str))=false:=by decide):PE X (.Name x a) (AB i):=Vz c d e b
end
def Ap {c A B:Prop} [Decidable c] (a:c->A) (b:¬ c->B):if c then A else B:=by
 by_cases h:c
 ·rw [kA h];exact a h
 ·rw [lZ h];exact b h
def Same (H a:Hp):Prop:=∀ b o,H b=some o->a b=some o
def Same.refl (H:Hp):Same H H:=λ_ _ h=>h
def Same.trans {H d e:Hp} (a:Same H d) (b:Same d e):Same H e:=λc o h=>b c o (a c o h)
def Same.seq {K:W.Frag} {H b:Hp} {a:Addr} {xs:dj} (e:Same H b) (h:SqL K H a xs):SqL K b a xs:=by
 rcases h with (h | ⟨o,h⟩) | h
 ·exact .inl (.inl (e _ _ h))
 ·exact .inl (.inr ⟨o,e _ _ h⟩)
 ·exact .inr h
end L2
local macro_rules | `(tactic| omega)=>`(tactic| lia)
namespace Bs.Hd
open PySem PySem.Spec PyProof.Rows L2
set_option maxRecDepth 100000
set_option maxHeartbeats 4000000
noncomputable def top (i:Nat):Stmt:=PySem.Challenge.pw_backslope_k43_parted_and_joined.main.body.getD i (.Pass ⟨0,0,0,0⟩)
noncomputable abbrev Wu:Stmt:=top 2
noncomputable abbrev Wv:Stmt:=top 3
noncomputable abbrev Ww:Stmt:=top 4
noncomputable abbrev Wx:Stmt:=top 5
noncomputable abbrev Wy:Stmt:=top 6
noncomputable abbrev Wz:Stmt:=top 7
noncomputable abbrev W2:Stmt:=top 8
noncomputable abbrev W3:Stmt:=top 9
noncomputable abbrev W4:Stmt:=top 10
noncomputable abbrev W5:Stmt:=top 11
noncomputable abbrev W6:Stmt:=top 12
noncomputable abbrev W7:Stmt:=top 13
noncomputable abbrev W9:Stmt:=top 14
noncomputable abbrev XA:Stmt:=top 15
noncomputable abbrev XB:Stmt:=top 16
noncomputable abbrev XC:Stmt:=top 17
noncomputable abbrev XD:Stmt:=top 18
noncomputable abbrev XE:Stmt:=top 19
noncomputable abbrev XF:Stmt:=top 20
noncomputable abbrev XG:Stmt:=top 21
noncomputable abbrev XH:Stmt:=top 22
noncomputable abbrev XI:Stmt:=top 23
noncomputable abbrev XJ:Stmt:=top 24
noncomputable abbrev XM:Stmt:=top 26
noncomputable abbrev XN:Stmt:=top 27
noncomputable abbrev XO:Stmt:=top 28
noncomputable abbrev XQ:Stmt:=top 29
noncomputable abbrev XR:Stmt:=top 30
noncomputable abbrev XS:Stmt:=top 31
noncomputable abbrev XT:Stmt:=top 33
noncomputable abbrev XU:Stmt:=top 34
noncomputable abbrev XV:Stmt:=top 35
noncomputable abbrev XW:Stmt:=top 36
noncomputable abbrev XX:Stmt:=top 37
noncomputable abbrev XY:Stmt:=top 38
noncomputable abbrev XZ:Stmt:=top 39
noncomputable abbrev Xa:Stmt:=top 40
noncomputable abbrev Xb:Stmt:=top 41
noncomputable abbrev Xc:Stmt:=top 42
noncomputable abbrev Xd:Stmt:=top 43
noncomputable abbrev Xe:Stmt:=top 44
noncomputable abbrev Xf:Stmt:=top 45
noncomputable abbrev Xg:Stmt:=top 47
noncomputable abbrev Xh:Stmt:=top 48
noncomputable abbrev Xi:Stmt:=top 49
noncomputable abbrev Xj:Stmt:=top 50
noncomputable abbrev Xk:Stmt:=top 51
noncomputable abbrev Xl:Stmt:=top 52
noncomputable abbrev Xm:Stmt:=top 53
noncomputable abbrev Xn:Stmt:=top 56
noncomputable abbrev Xo:Stmt:=top 57
noncomputable abbrev Xp:Stmt:=top 58
noncomputable abbrev Xq:Stmt:=top 59
noncomputable abbrev Xr:Stmt:=top 60
noncomputable abbrev Xs:Stmt:=top 61
noncomputable abbrev Xu:Stmt:=top 62
noncomputable abbrev Xv:Stmt:=top 63
noncomputable abbrev Xw:Stmt:=top 64
noncomputable abbrev Xx:Stmt:=top 65
noncomputable abbrev Xy:Stmt:=top 67
noncomputable abbrev Xz:Stmt:=top 68
noncomputable abbrev X3:Stmt:=top 69
noncomputable abbrev X4:Stmt:=top 70
noncomputable abbrev X5:Stmt:=top 71
noncomputable abbrev X6:Stmt:=top 72
noncomputable abbrev X7:Stmt:=top 73
noncomputable abbrev X8:Stmt:=top 74
noncomputable abbrev X9:Stmt:=top 75
noncomputable abbrev YA:Stmt:=top 76
noncomputable abbrev YB:Stmt:=top 77
noncomputable abbrev YC:Stmt:=top 78
noncomputable abbrev YD:Stmt:=top 79
noncomputable abbrev Jx:Stmt:=top 80
noncomputable abbrev N:Value:=.none
noncomputable abbrev S (x:Str) (t:Tok):Value:=.str x t
noncomputable abbrev I (i:Int):Value:=.int i 0
noncomputable abbrev R (a:Addr):Value:=.ref a
noncomputable def en (P:Params) (k:Str) (t:Tok) (v:Value):DictEntry:=⟨PyData.keyHash P k,.str k t,v⟩
noncomputable def H_ (n:Str) (t:Tok) (l c u:Int) (a:Addr) (b g d e f:Value) (x:Int) (y:Tok):Obj:=⟨.type "code", none,.fields #[S n t,S n (t+1),S "/claim/cut.py" (t+2),I l,I c,I 0,I 0,I u,R a,.bool true,I 181,b,g,d,e,f,I x,I l,S "/claim/cut.py" y],#[]⟩
noncomputable def G_ (n:Str) (s:Stmt) (pm:Value) (c:Addr):Obj:=⟨.type "function", none,.func (W.fnOf n n (Eo s) (Dv s) (Cm s) .none .none .none pm none (.ref c) .none),#[]⟩
noncomputable abbrev P':Value:=S "backslope.wholes" 187
noncomputable abbrev aH:Value:=S "backslope.numbers" 404
noncomputable abbrev W_:Value:=S "backslope.polys" 457
noncomputable abbrev av:Value:=S "backslope.fractions" 566
noncomputable abbrev ae:Value:=S "backslope.roots" 635
noncomputable abbrev U_:Value:=S "law_backslope_k43_parted_and_joined" 720
noncomputable def hp (P:Params):W.Frag:=[
 (3,⟨.type "dict", none,.dict #[en P "__name__" 165 (S "law_backslope_k43_parted_and_joined" 720),en P "__doc__" 166 N,en P "__package__" 167 N,en P "__loader__" 168 (.builtin "__main__.__loader__#opaque"),en P "__spec__" 169 N,en P "__annotations__" 170 (R 6),en P "__builtins__" 171 (R 4),en P "__file__" 173 (S "/claim/cut.py" 172),en P "__cached__" 174 N,en P "EXPONENTS" 197 (R 15),en P "common_divisor" 206 (R 22),en P "raised" 216 (R 29),en P "content" 222 (R 34),en P "row_trimmed" 230 (R 41),en P "row_parted" 236 (R 46),en P "row_times" 249 (R 53),en P "row_over" 263 (R 60),en P "row_less" 269 (R 65),en P "row_moved" 280 (R 72),en P "strand_rest" 286 (R 77),en P "strand_shortened" 292 (R 82),en P "row_shortened" 299 (R 89),en P "strand_euclid" 308 (R 96),en P "inverse_modulo" 322 (R 103),en P "rests_modulo" 328 (R 108),en P "row_modulo" 336 (R 115),en P "monic_modulo" 342 (R 120),en P "split_modulo" 357 (R 127),en P "rest_modulo" 366 (R 134),en P "euclid_modulo" 376 (R 141),en P "nearest" 385 (R 148),en P "common_by_prime" 391 (R 153),en P "row_common" 403 (R 160),en P "ratio" 414 (R 167),en P "plus" 422 (R 174),en P "minus" 430 (R 181),en P "times" 438 (R 188),en P "over" 446 (R 195),en P "power" 456 (R 202),en P "poly" 466 (R 209),en P "cleared" 472 (R 214),en P "uncleared" 478 (R 219),en P "number_of" 486 (R 226),en P "x_to" 493 (R 233),en P "p_plus" 499 (R 238),en P "p_minus" 505 (R 243),en P "p_times" 515 (R 250),en P "p_scaled" 521 (R 255),en P "p_split" 538 (R 262),en P "common" 547 (R 269),en P "p_at" 559 (R 276),en P "p_moved" 565 (R 281),en P "fraction" 576 (R 288),en P "evened" 585 (R 295),en P "quotient" 593 (R 302),en P "f_poly" 600 (R 309),en P "f_plus" 612 (R 316),en P "f_times" 622 (R 323),en P "f_at" 631 (R 330),en P "NOUGHT" 634 (R 334),en P "in_root" 644 (R 341),en P "stretched" 650 (R 346),en P "spread" 660 (R 353),en P "strand" 669 (R 360),en P "joined" 681 (R 367),en P "parted" 687 (R 372),en P "strands_common" 697 (R 379),en P "other_roots" 707 (R 386),en P "other_two" 713 (R 391),en P "in_place" 719 (R 396),en P "_law_source" 734 (R 403),en P "_law_take" 743 (R 410),en P "_law_number" 751 (R 417),en P "_law_kind" 759 (R 424),en P "_law_poly" 765 (R 429),en P "_law_fraction" 776 (R 436),en P "_law_is_number" 784 (R 443),en P "_law_is_fraction" 790 (R 448),en P "_law_sum" 798 (R 455),en P "_law_product" 806 (R 462),en P "_law_tall" 816 (R 469),en P "_law_at_place" 835 (R 476),en P "_law_right" 846 (R 483),en P "law" 852 (R 488)] 84,#[]⟩),
 (15,⟨.type "tuple", none,.seq #[(.int 61 189),(.int 127 190),(.int 521 191),(.int 1279 192),(.int 4423 193),(.int 9941 194),(.int 21701 195),(.int 44497 196)] 0,#[]⟩),
 (334,⟨.type "tuple", none,.seq #[(R 331),(R 333)] 0,#[]⟩),
 (331,⟨.type "tuple", none,.seq #[] 0,#[]⟩),
 (333,⟨.type "tuple", none,.seq #[(R 332)] 0,#[]⟩),
 (332,⟨.type "tuple", none,.seq #[(.int 1 632),(.int 1 633)] 0,#[]⟩),
 (21,H_ "common_divisor" 198 3 2 3 16 (R 17) N (R 18) (R 19) (R 20) 204 205),
 (22,G_ "common_divisor" (top 2) P' 21),
 (28,H_ "raised" 207 9 2 3 23 (R 24) N (R 25) (R 26) (R 27) 214 215),
 (29,G_ "raised" (top 3) P' 28),
 (33,H_ "content" 217 19 2 3 30 (R 31) N N N (R 32) 220 221),
 (34,G_ "content" (top 4) P' 33),
 (40,H_ "row_trimmed" 223 26 1 3 35 (R 36) N (R 37) (R 38) (R 39) 228 229),
 (41,G_ "row_trimmed" (top 5) P' 40),
 (45,H_ "row_parted" 231 31 2 3 42 (R 43) N N N (R 44) 234 235),
 (46,G_ "row_parted" (top 6) P' 45),
 (52,H_ "row_times" 237 33 2 3 47 (R 48) N (R 49) (R 50) (R 51) 247 248),
 (53,G_ "row_times" (top 7) P' 52),
 (59,H_ "row_over" 250 42 2 3 54 (R 55) N (R 56) (R 57) (R 58) 261 262),
 (60,G_ "row_over" (top 8) P' 59),
 (64,H_ "row_less" 264 55 5 3 61 (R 62) N N N (R 63) 267 268),
 (65,G_ "row_less" (top 9) P' 64),
 (71,H_ "row_moved" 270 61 2 3 66 (R 67) N (R 68) (R 69) (R 70) 278 279),
 (72,G_ "row_moved" (top 10) P' 71),
 (76,H_ "strand_rest" 281 67 2 3 73 (R 74) N N N (R 75) 284 285),
 (77,G_ "strand_rest" (top 11) P' 76),
 (81,H_ "strand_shortened" 287 77 1 3 78 (R 79) N N N (R 80) 290 291),
 (82,G_ "strand_shortened" (top 12) P' 81),
 (88,H_ "row_shortened" 293 82 1 3 83 (R 84) N (R 85) (R 86) (R 87) 297 298),
 (89,G_ "row_shortened" (top 13) P' 88),
 (95,H_ "strand_euclid" 300 84 2 3 90 (R 91) N (R 92) (R 93) (R 94) 306 307),
 (96,G_ "strand_euclid" (top 14) P' 95),
 (102,H_ "inverse_modulo" 309 92 2 3 97 (R 98) N (R 99) (R 100) (R 101) 320 321),
 (103,G_ "inverse_modulo" (top 15) P' 102),
 (107,H_ "rests_modulo" 323 106 2 3 104 (R 105) N N N (R 106) 326 327),
 (108,G_ "rests_modulo" (top 16) P' 107),
 (114,H_ "row_modulo" 329 108 2 3 109 (R 110) N (R 111) (R 112) (R 113) 334 335),
 (115,G_ "row_modulo" (top 17) P' 114),
 (119,H_ "monic_modulo" 337 110 2 3 116 (R 117) N N N (R 118) 340 341),
 (120,G_ "monic_modulo" (top 18) P' 119),
 (126,H_ "split_modulo" 343 115 3 3 121 (R 122) N (R 123) (R 124) (R 125) 355 356),
 (127,G_ "split_modulo" (top 19) P' 126),
 (133,H_ "rest_modulo" 358 126 3 3 128 (R 129) N (R 130) (R 131) (R 132) 364 365),
 (134,G_ "rest_modulo" (top 20) P' 133),
 (140,H_ "euclid_modulo" 367 128 3 3 135 (R 136) N (R 137) (R 138) (R 139) 374 375),
 (141,G_ "euclid_modulo" (top 21) P' 140),
 (147,H_ "nearest" 377 136 2 3 142 (R 143) N (R 144) (R 145) (R 146) 383 384),
 (148,G_ "nearest" (top 22) P' 147),
 (152,H_ "common_by_prime" 386 139 3 3 149 (R 150) N N N (R 151) 389 390),
 (153,G_ "common_by_prime" (top 23) P' 152),
 (159,H_ "row_common" 392 148 2 3 154 (R 155) N (R 156) (R 157) (R 158) 401 402),
 (160,G_ "row_common" (top 24) P' 159),
 (166,H_ "ratio" 406 158 2 3 161 (R 162) N (R 163) (R 164) (R 165) 412 413),
 (167,G_ "ratio" (top 26) aH 166),
 (173,H_ "plus" 415 163 2 3 168 (R 169) N (R 170) (R 171) (R 172) 420 421),
 (174,G_ "plus" (top 27) aH 173),
 (180,H_ "minus" 423 165 2 3 175 (R 176) N (R 177) (R 178) (R 179) 428 429),
 (181,G_ "minus" (top 28) aH 180),
 (187,H_ "times" 431 167 2 3 182 (R 183) N (R 184) (R 185) (R 186) 436 437),
 (188,G_ "times" (top 29) aH 187),
 (194,H_ "over" 439 169 2 3 189 (R 190) N (R 191) (R 192) (R 193) 444 445),
 (195,G_ "over" (top 30) aH 194),
 (201,H_ "power" 447 171 2 3 196 (R 197) N (R 198) (R 199) (R 200) 454 455),
 (202,G_ "power" (top 31) aH 201),
 (208,H_ "poly" 459 180 1 3 203 (R 204) N (R 205) (R 206) (R 207) 464 465),
 (209,G_ "poly" (top 33) W_ 208),
 (213,H_ "cleared" 467 185 1 3 210 (R 211) N N N (R 212) 470 471),
 (214,G_ "cleared" (top 34) W_ 213),
 (218,H_ "uncleared" 473 190 2 3 215 (R 216) N N N (R 217) 476 477),
 (219,G_ "uncleared" (top 35) W_ 218),
 (225,H_ "number_of" 479 192 2 3 220 (R 221) N (R 222) (R 223) (R 224) 484 485),
 (226,G_ "number_of" (top 36) W_ 225),
 (232,H_ "x_to" 487 194 1 3 227 (R 228) N (R 229) (R 230) (R 231) 491 492),
 (233,G_ "x_to" (top 37) W_ 232),
 (237,H_ "p_plus" 494 196 2 3 234 (R 235) N N N (R 236) 497 498),
 (238,G_ "p_plus" (top 38) W_ 237),
 (242,H_ "p_minus" 500 198 2 3 239 (R 240) N N N (R 241) 503 504),
 (243,G_ "p_minus" (top 39) W_ 242),
 (249,H_ "p_times" 506 200 2 3 244 (R 245) N (R 246) (R 247) (R 248) 513 514),
 (250,G_ "p_times" (top 40) W_ 249),
 (254,H_ "p_scaled" 516 204 2 3 251 (R 252) N N N (R 253) 519 520),
 (255,G_ "p_scaled" (top 41) W_ 254),
 (261,H_ "p_split" 522 206 2 3 256 (R 257) N (R 258) (R 259) (R 260) 536 537),
 (262,G_ "p_split" (top 42) W_ 261),
 (268,H_ "common" 539 223 2 3 263 (R 264) N (R 265) (R 266) (R 267) 545 546),
 (269,G_ "common" (top 43) W_ 268),
 (275,H_ "p_at" 548 226 2 3 270 (R 271) N (R 272) (R 273) (R 274) 557 558),
 (276,G_ "p_at" (top 44) W_ 275),
 (280,H_ "p_moved" 560 234 2 3 277 (R 278) N N N (R 279) 563 564),
 (281,G_ "p_moved" (top 45) W_ 280),
 (287,H_ "fraction" 568 244 2 3 282 (R 283) N (R 284) (R 285) (R 286) 574 575),
 (288,G_ "fraction" (top 47) av 287),
 (294,H_ "evened" 577 247 2 3 289 (R 290) N (R 291) (R 292) (R 293) 583 584),
 (295,G_ "evened" (top 48) av 294),
 (301,H_ "quotient" 586 250 2 3 296 (R 297) N (R 298) (R 299) (R 300) 591 592),
 (302,G_ "quotient" (top 49) av 301),
 (308,H_ "f_poly" 594 252 1 3 303 (R 304) N (R 305) (R 306) (R 307) 598 599),
 (309,G_ "f_poly" (top 50) av 308),
 (315,H_ "f_plus" 601 254 2 3 310 (R 311) N (R 312) (R 313) (R 314) 610 611),
 (316,G_ "f_plus" (top 51) av 315),
 (322,H_ "f_times" 613 260 2 3 317 (R 318) N (R 319) (R 320) (R 321) 620 621),
 (323,G_ "f_times" (top 52) av 322),
 (329,H_ "f_at" 623 264 2 3 324 (R 325) N (R 326) (R 327) (R 328) 629 630),
 (330,G_ "f_at" (top 53) av 329),
 (340,H_ "in_root" 637 269 2 3 335 (R 336) N (R 337) (R 338) (R 339) 642 643),
 (341,G_ "in_root" (top 56) ae 340),
 (345,H_ "stretched" 645 271 2 3 342 (R 343) N N N (R 344) 648 649),
 (346,G_ "stretched" (top 57) ae 345),
 (352,H_ "spread" 651 273 2 3 347 (R 348) N (R 349) (R 350) (R 351) 658 659),
 (353,G_ "spread" (top 58) ae 352),
 (359,H_ "strand" 661 278 3 3 354 (R 355) N (R 356) (R 357) (R 358) 667 668),
 (360,G_ "strand" (top 59) ae 359),
 (366,H_ "joined" 670 280 2 3 361 (R 362) N (R 363) (R 364) (R 365) 679 680),
 (367,G_ "joined" (top 60) ae 366),
 (371,H_ "parted" 682 286 2 3 368 (R 369) N N N (R 370) 685 686),
 (372,G_ "parted" (top 61) ae 371),
 (378,H_ "strands_common" 688 294 2 3 373 (R 374) N (R 375) (R 376) (R 377) 695 696),
 (379,G_ "strands_common" (top 62) ae 378),
 (385,H_ "other_roots" 698 299 2 3 380 (R 381) N (R 382) (R 383) (R 384) 705 706),
 (386,G_ "other_roots" (top 63) ae 385),
 (390,H_ "other_two" 708 307 1 3 387 (R 388) N N N (R 389) 711 712),
 (391,G_ "other_two" (top 64) ae 390),
 (395,H_ "in_place" 714 313 2 3 392 (R 393) N N N (R 394) 717 718),
 (396,G_ "in_place" (top 65) ae 395),
 (402,H_ "_law_source" 722 317 2 3 397 (R 398) N (R 399) (R 400) (R 401) 732 733),
 (403,G_ "_law_source" (top 67) U_ 402),
 (409,H_ "_law_take" 735 330 2 3 404 (R 405) N (R 406) (R 407) (R 408) 741 742),
 (410,G_ "_law_take" (top 68) U_ 409),
 (416,H_ "_law_number" 744 336 1 3 411 (R 412) N (R 413) (R 414) (R 415) 749 750),
 (417,G_ "_law_number" (top 69) U_ 416),
 (423,H_ "_law_kind" 752 343 1 3 418 (R 419) N (R 420) (R 421) (R 422) 757 758),
 (424,G_ "_law_kind" (top 70) U_ 423),
 (428,H_ "_law_poly" 760 348 2 3 425 (R 426) N N N (R 427) 763 764),
 (429,G_ "_law_poly" (top 71) U_ 428),
 (435,H_ "_law_fraction" 766 350 3 3 430 (R 431) N (R 432) (R 433) (R 434) 774 775),
 (436,G_ "_law_fraction" (top 72) U_ 435),
 (442,H_ "_law_is_number" 777 356 1 3 437 (R 438) N (R 439) (R 440) (R 441) 782 783),
 (443,G_ "_law_is_number" (top 73) U_ 442),
 (447,H_ "_law_is_fraction" 785 363 1 3 444 (R 445) N N N (R 446) 788 789),
 (448,G_ "_law_is_fraction" (top 74) U_ 447),
 (454,H_ "_law_sum" 791 370 2 3 449 (R 450) N (R 451) (R 452) (R 453) 796 797),
 (455,G_ "_law_sum" (top 75) U_ 454),
 (461,H_ "_law_product" 799 372 2 3 456 (R 457) N (R 458) (R 459) (R 460) 804 805),
 (462,G_ "_law_product" (top 76) U_ 461),
 (468,H_ "_law_tall" 807 374 2 3 463 (R 464) N (R 465) (R 466) (R 467) 814 815),
 (469,G_ "_law_tall" (top 77) U_ 468),
 (475,H_ "_law_at_place" 817 379 4 3 470 (R 471) N (R 472) (R 473) (R 474) 833 834),
 (476,G_ "_law_at_place" (top 78) U_ 475),
 (482,H_ "_law_right" 836 391 2 3 477 (R 478) N (R 479) (R 480) (R 481) 844 845),
 (483,G_ "_law_right" (top 79) U_ 482),
 (487,H_ "law" 847 402 1 3 484 (R 485) N N N (R 486) 850 851),
 (488,G_ "law" (top 80) U_ 487)]
noncomputable def as:dJ:=[3,15,334,331,333,332,21,22,28,29,33,34,40,41,45,46,52,53,59,60,64,65,71,72,76,77,81,82,88,89,95,96,102,103,107,108,114,115,119,120,126,127,133,134,140,141,147,148,152,153,159,160,166,167,173,174,180,181,187,188,194,195,201,202,208,209,213,214,218,219,225,226,232,233,237,238,242,243,249,250,254,255,261,262,268,269,275,276,280,281,287,288,294,295,301,302,308,309,315,316,322,323,329,330,340,341,345,346,352,353,359,360,366,367,371,372,378,379,385,386,390,391,395,396,402,403,409,410,416,417,423,424,428,429,435,436,442,443,447,448,454,455,461,462,468,469,475,476,482,483,487,488]
noncomputable def vw:Program:=W.view PySem.Challenge.pw_backslope_k43_parted_and_joined [80]
noncomputable def lo:dH:=(["EXPONENTS", "common_divisor", "raised", "content", "row_trimmed", "row_parted", "row_times", "row_over", "row_less", "row_moved", "strand_rest", "strand_shortened", "row_shortened", "strand_euclid", "inverse_modulo", "rests_modulo", "row_modulo", "monic_modulo", "split_modulo", "rest_modulo", "euclid_modulo", "nearest", "common_by_prime", "row_common", "ratio"]:dH)++(["plus", "minus", "times", "over", "power", "poly", "cleared", "uncleared", "number_of", "x_to", "p_plus", "p_minus", "p_times", "p_scaled", "p_split", "common", "p_at", "p_moved", "fraction", "evened", "quotient", "f_poly", "f_plus", "f_times", "f_at"]:dH)++(["NOUGHT", "in_root", "stretched", "spread", "strand", "joined", "parted", "strands_common", "other_roots", "other_two", "in_place", "_law_source", "_law_take", "_law_number", "_law_kind", "_law_poly", "_law_fraction", "_law_is_number", "_law_is_fraction", "_law_sum", "_law_product", "_law_tall", "_law_at_place", "_law_right"]:dH)
noncomputable def hk:W.Hook:=W.kHook hp as (λ_=>by kernel_rfl)
def left:W.LeftO PySem.Challenge.pw_backslope_k43_parted_and_joined vw lo (λs=>W.xlAt vw [] s && W.recOk (W.RowW.records (W.OpenRow.toRowW (W.OpenLaw.row PySem.Challenge.rw_backslope_k43_parted_and_joined))) s) hk.obs hk.val 4718:=λw=>by kernel_rfl
def sd:PySem.Challenge.rw_backslope_k43_parted_and_joined.wellSaid=true:=by decide +kernel
end Bs.Hd
namespace Bs
def Bd (n:Nat) (x:Int):Prop:=x.natAbs<2 ^ n
def Bd.mono {m n:Nat} {x:Int} (h:Bd m x) (a:m<=n):Bd n x:=CP h (Ed ∅ a)
def Bd.le {n:Nat} {x y:Int} (h:Bd n x) (a:y.natAbs<=x.natAbs):Bd n y:=DI a h
def Bd.neg {n:Nat} {x:Int} (h:Bd n x):Bd n (-x):=by unfold Bd at *;rw [Int.natAbs_neg];exact h
def Bd.add {n:Nat} {x y:Int} (h:Bd n x) (h':Bd n y):Bd (n+1) (x+y):=by
 unfold Bd at *;have:=Int.natAbs_add_le x y;rw [CV];omega
def Bd.sub {n:Nat} {x y:Int} (h:Bd n x) (h':Bd n y):Bd (n+1) (x - y):=by
 rw [Int.sub_eq_add_neg];exact h.add h'.neg
def Bd.mul {m n:Nat} {x y:Int} (h:Bd m x) (h':Bd n y):Bd (m+n) (x*y):=by
 unfold Bd at *;rw [BX,C3];exact Nat.mul_lt_mul'' h h'
def YE {x:Int} (a:-18446744073709551616<x) (b:x<18446744073709551616):Bd 64 x:=by
 unfold Bd;have:(2:Nat) ^ 64=18446744073709551616:=by decide
 rw [this];omega
def Bd.log2 {n:Nat} {x:Int} (h:Bd n x) (a:0<n):x.natAbs.log2<n:=by
 unfold Bd at h;rcases Ce x.natAbs with b | hp
 ·rw [b];simpa using a
 ·exact (Nat.log2_lt (Nat.ne_of_gt hp)).mpr h
structure Low (t d:Int):Prop where
 pos:0<d
 one:Int.gcd t d=1
def O0 (a b:Int):Int.gcd b (a.fmod b)=Int.gcd a b:=by
 have e:a.fmod b=a - b*a.fdiv b:=Int.fmod_def a b;rw [e];apply Nat.dvd_antisymm
 ·apply Int.dvd_gcd
  ·have f:=Ey b (a - b*a.fdiv b);have g:=ED b (a - b*a.fdiv b);have d:=Cr g (GH (c:=a.fdiv b) f);rw [Int.sub_add_cancel] at d;exact d
  ·exact Ey b _
 ·apply Int.dvd_gcd
  ·exact ED a b
  ·exact Int.dvd_sub (Ey a b) (GH (ED a b))
def O3 (a:Int) {b:Int} (h:0<=b):Int.gcd b (a % b)=Int.gcd a b:=by
 rw [<-Int.fmod_eq_emod_of_nonneg a h,O0]
def YF (a:Int) {b:Int} (h:b≠0):(a.fmod b).natAbs<b.natAbs:=by
 rcases Int.lt_or_gt_of_ne h with d | d
 ·rw [Int.fmod_eq_emod];have e:=Cf a h;have f:=Int.emod_lt a h;split
  ·rename_i c;rcases c with c | c
   ·omega
   ·have:a % b=0:=Int.emod_eq_zero_of_dvd c;omega
  ·rename_i c;have:a % b≠0:=λz=>c (.inr (Int.dvd_of_emod_eq_zero z));omega
 ·rw [Int.fmod_eq_emod_of_nonneg a (De d)];have e:=Cf a h;have f:=C4 a d;omega
def Ld {a b s:Int} (m:b≠0) (j:s=if b<0 then -((Int.gcd a b:Nat):Int) else ((Int.gcd a b:Nat):Int)) :
  s≠0/\s.natAbs<=b.natAbs/\Low (a.fdiv s) (b.fdiv s)/\a.fdiv s*b=a*b.fdiv s/\(a.fdiv s).natAbs<=a.natAbs/\(b.fdiv s).natAbs<=b.natAbs:=by
 have w:0<Int.gcd a b:=Int.gcd_pos_of_ne_zero_right a m;have e:s.natAbs=Int.gcd a b:=by rw [j];split <;> simp
 have k:s≠0:=by intro z;rw [z] at e;simp at e;omega
 have p:s∣a:=by
  rw [<-Int.natAbs_dvd,e];exact Ey a b
 have q:s∣b:=by
  rw [<-Int.natAbs_dvd,e];exact ED a b
 obtain ⟨t,rfl⟩:=p;obtain ⟨d,rfl⟩:=q;rw [Int.mul_fdiv_cancel_left _ k,Int.mul_fdiv_cancel_left _ k];have n:d≠0:=by rintro rfl;simp at m
 have o:1<=s.natAbs:=by omega
 have r:Int.gcd t d=1:=by
  rw [Int.gcd_mul_left] at e;have u:s.natAbs*Int.gcd t d=s.natAbs*1:=by omega
  exact Nat.eq_of_mul_eq_mul_left o u
 have v:0<d:=by
  by_cases h:s*d<0
  ·rw [kA h] at j;have f:s<0:=by omega
   rcases Int.lt_or_gt_of_ne n with c | c
   ·have:=Int.mul_pos_of_neg_of_neg f c;omega
   ·exact c
  ·rw [lZ h] at j;have g:0<s:=by omega
   rcases Int.lt_or_gt_of_ne n with c | c
   ·have:=Int.mul_neg_of_pos_of_neg g c;omega
   ·exact c
 have i:∀ y:Int,y.natAbs<=(s*y).natAbs:=λy=>by
  rw [BX];exact HE _ o
 refine ⟨k,?_,⟨v,r⟩,?_,i t,i d⟩
 ·rw [BX];exact Nat.le_mul_of_pos_right _ ⋯
 ·ext
def Le {a b:Int} (f:0<b):Low (a / ((Int.gcd a b:Nat):Int)) (b / ((Int.gcd a b:Nat):Int))/\(a / ((Int.gcd a b:Nat):Int)).natAbs<=a.natAbs/\(b / ((Int.gcd a b:Nat):Int)).natAbs<=b.natAbs/\0<((Int.gcd a b:Nat):Int)/\((Int.gcd a b:Nat):Int)<=b:=by
 have g:0<Int.gcd a b:=Int.gcd_pos_of_ne_zero_right a ⋯;obtain ⟨_,h,c,i,d,e⟩:=Ld (a:=a) (b:=b) (s:=((Int.gcd a b:Nat):Int)) ⋯ (by rw [lZ ⋯]);rw [Ee _ ⋯,Ee _ ⋯] at c;rw [Ee _ ⋯] at d e;exact ⟨c,d,e,⋯,⋯⟩
end Bs
namespace Bs
open PySem L2
def Lf (_ j:Int):Prop:=0<j/\Bd 9000 j
def YG (_ j:Int):Prop:=j≠0/\Bd 9000 j
def Lh (i j:Int):Prop:=0<=j/\j<=1000000/\i.natAbs<2 ^ 64
abbrev BU:R2:=ai λi j=>.int (i+j)
abbrev BA:R2:=ai λi j=>.int (i - j)
abbrev Au:R2:=rI IntMulOk λi j=>.int (i*j)
abbrev Li:R2:=rI Lf λi j=>.int (i / j)
abbrev YH:R2:=rI YG λi j=>.int (i.fdiv j)
abbrev Cw:R2:=rI (λ_ j=>0<j) λi j=>.int (i % j)
abbrev O4:R2:=rI (λ_ j=>j≠0) λi j=>.int (i.fmod j)
abbrev IV:R2:=rI Lh λi j=>.int (i ^ j.toNat)
abbrev bj:R2:=ai λi j=>.bl (decide (i<j))
abbrev iLe:R2:=ai λi j=>.bl (decide (i<=j))
abbrev aR:R2:=ai λi j=>.bl (decide (j<i))
abbrev cu:R2:=ai λi j=>.bl (decide (j<=i))
abbrev Bc:V->Hp->VK->Prop:=rU λi=>.int (-i)
def gT:R2:=λx y H Q=>∃ p i a v,x=.ref p/\y=.int i/\H p=some (.tup a)/\N_ a i=some v/\Q v H
def gL:R2:=λx y H Q=>∃ p i a v,x=.ref p/\y=.int i/\H p=some (.lst a)/\N_ a i=some v/\Q v H
def gS (K:W.Frag):R2:=λx y H Q=>∃ p i a v,x=.ref p/\y=.int i/\SqL K H p a/\N_ a i=some v/\Q v H
def GW:dj->Hp->VK->Prop:=λa H Q=>∃ i,a=[.int i]/\Q (.int (if i<0 then -i else i)) H
def GZ:dj->Hp->VK->Prop:=λa H Q=>∃ i j,a=[.int i,.int j]/\Q (.int (if j > i then j else i)) H
def YI:dj->Hp->VK->Prop:=λa H Q=>∃ i j,a=[.int i,.int j]/\Q (.int (if j<i then j else i)) H
def YJ:dj->Hp->VK->Prop:=λa H Q=>∃ k,a=[.bl k]/\Q (.int (if k=true then 1 else 0)) H
def DX:dj->Hp->VK->Prop:=λb H Q=>∃ p a,b=[.ref p]/\H p=some (.tup a)/\Q (.int a.length) H
def CI:dj->Hp->VK->Prop:=λb H Q=>∃ p a,b=[.ref p]/\H p=some (.lst a)/\Q (.int a.length) H
def IW (K:W.Frag):dj->Hp->VK->Prop:=λb H Q=>∃ p a,b=[.ref p]/\SqL K H p a/\Q (.int a.length) H
noncomputable def IX:Option HO->String->Option Bool
 | some (.tup _),n=>if n = "tuple" then some true else if n = "bool" \/ n = "int" \/ n = "list" then some false else none
 | some (.lst _),n=>if n = "list" then some true else if n = "bool" \/ n = "int" \/ n = "tuple" then some false else none
 | _,_=>none
noncomputable def Ff (H:Hp):V->String->Option Bool
 | .int _,n=>if n = "int" then some true else if n = "bool" \/ n = "tuple" \/ n = "list" then some false else none
 | .bl _,n=>if n = "int" \/ n = "bool" then some true else if n = "tuple" \/ n = "list" then some false else none
 | .ref p,n=>IX (H p) n
 | _,_=>none
def E9:dj->Hp->VK->Prop:=λa H Q=>∃ x n b,a=[x,.ty n]/\Ff H x n=some b/\Q (.bl b) H
def YK (H:Hp) (i:Int):Ff H (.int i) "int" = some true:=rfl
def YL (H:Hp) (i:Int):Ff H (.int i) "bool" = some false:=rfl
def YM (H:Hp) (b:Bool):Ff H (.bl b) "bool" = some true:=rfl
def Jy {H:Hp} {p:Addr} {xs:dj} (h:H p=some (.tup xs)):Ff H (.ref p) "tuple" = some true:=by
 show IX (H p) "tuple" = _;rw [h];rfl
noncomputable def O5:V->Bool
 | .int _=>true
 | _=>false
def eqT:R2:=λx y H Q=>∃ a b c d,x=.ref a/\y=.ref b/\H a=some (.tup c)/\H b=some (.tup d)/\c.all O5=true/\d.all O5=true/\Q (.bl (decide (c=d))) H
def ForR (lo:Int) (n:Nat) (g:TG) (f:TS) (D:Ends) (a:St) (H:Hp):Prop:=∃ W:Nat->Nat->St->Hp->Prop,(∃ m,W 0 m a H)/\∀ i m a H,W i m a H->
 ((ay lo n).stop i H/\D.nx a H)\/((ay lo n).go i H/\∃ N:St->Hp->Prop,(∀ b c,N b c->∃ e,e<m/\W (i+1) e b c)/\∀ x c,(ay lo n).yld i H x c->g x a c λd h=>f { D with nx:=N,ct:=N,bk:=D.nx } d h)
def YN {b:TA} {g:TG} {c:TS} {D:Ends} {a:St} {H:Hp}:BH (CW b) g c D a H=b a H (λd e=>∃ j:Int,d=[.int j]/\-(2 ^ 62)<=j/\j<2 ^ 62/\ForR 0 j.toNat g c D a e):=rfl
def ForR.by {lo:Int} {n:Nat} {g:TG} {c:TS} {D:Ends} {a:St} {H:Hp} (Pv:Nat->St->Hp->Prop) (d:Pv 0 a H)
  (e:∀ i a H,i<n->Pv i a H->g (.int (lo+i)) a H λb f=>c { D with nx:=Pv (i+1),ct:=Pv (i+1),bk:=D.nx } b f) (h:∀ a H,Pv n a H->D.nx a H):ForR lo n g c D a H:=WD Pv d e h
def ForT (K:W.Frag) (a:Addr) (g:TG) (h:TS) (D:Ends) (b:St) (H:Hp):Prop:=∃ W:Nat->Nat->St->Hp->Prop,(∃ m,W 0 m b H)/\∀ i m b H,W i m b H->
 ((aG K a).stop i H/\D.nx b H)\/((aG K a).go i H/\∃ N:St->Hp->Prop,(∀ c d,N c d->∃ f,f<m/\W (i+1) f c d)/\∀ x d,(aG K a).yld i H x d->g x b d λe j=>h { D with nx:=N,ct:=N,bk:=D.nx } e j)
def ForL (K:W.Frag) (a:Addr) (g:TG) (h:TS) (D:Ends) (b:St) (H:Hp):Prop:=∃ W:Nat->Nat->St->Hp->Prop,(∃ m,W 0 m b H)/\∀ i m b H,W i m b H->
 ((ax K a).stop i H/\D.nx b H)\/((ax K a).go i H/\∃ N:St->Hp->Prop,(∀ c d,N c d->∃ f,f<m/\W (i+1) f c d)/\∀ x d,(ax K a).yld i H x d->g x b d λe j=>h { D with nx:=N,ct:=N,bk:=D.nx } e j)
def YO {K:W.Frag} {c:TE} {g:TG} {d:TS} {D:Ends} {b:St} {H:Hp}:BH (C8 K c) g d D b H=c b H (λx e=>∃ a,x=.ref a/\(∃ f,SqT K e a f)/\ForT K a g d D b e):=rfl
def YQ {K:W.Frag} {c:TE} {g:TG} {d:TS} {D:Ends} {b:St} {H:Hp}:BH (C7 K c) g d D b H=c b H (λx e=>∃ a,x=.ref a/\(∃ f,SqL K e a f)/\ForL K a g d D b e):=rfl
def ForT.by {K:W.Frag} {a:Addr} {xs:dj} {g:TG} {d:TS} {D:Ends} {b:St} {H:Hp} (Pv:Nat->St->Hp->Prop) (e:Pv 0 b H) (f:∀ i b H,i<=xs.length->Pv i b H->H a=some (.tup xs))
  (j:∀ i x b H,xs[i]?=some x->Pv i b H->g x b H λc k=>d { D with nx:=Pv (i+1),ct:=Pv (i+1),bk:=D.nx } c k) (m:∀ b H,Pv xs.length b H->D.nx b H):ForT K a g d D b H:=
 LU Pv e (λi b H h p=>SqT.of (f i b H h p)) j m
def ForL.by {K:W.Frag} {a:Addr} {xs:dj} {g:TG} {d:TS} {D:Ends} {b:St} {H:Hp} (Pv:Nat->St->Hp->Prop) (e:Pv 0 b H) (f:∀ i b H,i<=xs.length->Pv i b H->SqL K H a xs)
  (h:∀ i x b H,xs[i]?=some x->Pv i b H->g x b H λc j=>d { D with nx:=Pv (i+1),ct:=Pv (i+1),bk:=D.nx } c j) (k:∀ b H,Pv xs.length b H->D.nx b H):ForL K a g d D b H:=
 WC Pv e f h k
def FA {c:TT} {e:TS} {D:Ends} {a:St} {H:Hp} (W:Nat->St->Hp->Prop) (m:Nat) (i:W m a H)
  (j:∀ m a H,W m a H->c a H λb f=>if b=true then ∃ N:St->Hp->Prop,(∀ d g,N d g->∃ h,h<m/\W h d g)/\e { D with nx:=N,ct:=N,bk:=D.nx } a f else D.nx a f):EL c e D a H:=⟨W,⟨m,i⟩,j⟩
def Kp (p:Addr) (H a:Hp):Prop:=∀ b o,b≠p->H b=some o->a b=some o
def Kp.trans {p:Addr} {H d e:Hp} (a:Kp p H d) (b:Kp p d e):Kp p H e:=λc o n h=>b c o n (a c o n h)
def Kp.same {p:Addr} {H d e:Hp} (a:Kp p H d) (b:Same d e):Kp p H e:=λc o n h=>b c o (a c o n h)
def Kp.of_same {p:Addr} {H a:Hp} (b:Same H a):Kp p H a:=λc o _ h=>b c o h
def Kp.upd {p:Addr} {H:Hp} {o:HO}:Kp p H (upd H p o):=λb u n h=>by rw [A8 n];exact h
def AQ {H:Hp} {p:Addr} (h:H p=none) (o:HO):Same H (upd H p o):=λb u q=>by rw [A8 (B5 q h)];exact q
def sz {n:Nat} (h:n<=1000000):n<=sizeLine:=by rw [sizeLine_eq];omega
def YR {c:Type} (a b:c):N_ [a,b] 0=some a:=rfl
def YS {c:Type} (a b:c):N_ [a,b] 1=some b:=rfl
def YT {d:Type} (a b c:d):N_ [a,b,c] 0=some a:=rfl
def YU {d:Type} (a b c:d):N_ [a,b,c] 1=some b:=rfl
def YV {d:Type} (a b c:d):N_ [a,b,c] 2=some c:=rfl
def YW (a b:Int):scal (.int a) (.int b)=true:=rfl
def YX (a b:Bool):scal (.bl a) (.bl b)=true:=rfl
def YY:ak 3 0=some 0:=rfl
def YZ:ak 3 2=some 2:=rfl
end Bs
namespace Bs
open PySem PySem.Spec PyProof.Rows L2
def IY:bootBuiltins "abs" = some (.builtin "abs"):=by decide +kernel
def BQ:bootBuiltins "len" = some (.builtin "len"):=by decide +kernel
def IZ:bootBuiltins "max" = some (.builtin "max"):=by decide +kernel
def Yb:bootBuiltins "min" = some (.builtin "min"):=by decide +kernel
def HM:bootBuiltins "isinstance" = some (.builtin "isinstance"):=by decide +kernel
def Yc:bootBuiltins "all" = some (.builtin "all"):=by decide +kernel
def Ye:bootBuiltins "sum" = some (.builtin "sum"):=by decide +kernel
def Yg:bootBuiltins "int" = some (.type "int"):=by decide +kernel
def Yh:bootBuiltins "bool" = some (.type "bool"):=by decide +kernel
def HN:bootBuiltins "tuple" = some (.type "tuple"):=by decide +kernel
def Jz:bootBuiltins "list" = some (.type "list"):=by decide +kernel
def O6:bootBuiltins "enumerate" = some (.type "enumerate"):=by decide +kernel
def Yi:bootBuiltins "zip" = some (.type "zip"):=by decide +kernel
def Yj:bootBuiltins "reversed" = some (.type "reversed"):=by decide +kernel
section
variable {X:Cx}
def O7 {n:Nat} {x:Int} (h:Bd n x):Builtin.Int.intBits x<=n:=by
 unfold Builtin.Int.intBits;split
 ·exact Ae _
 ·rename_i a
  have b:x.natAbs≠0:=λz=>a (by have e:x=0:=by omega
                               subst e;rfl)
  have:=(Nat.log2_lt b).mpr h;omega
def A5:OpR X (binaryOp .Mult) Au:=bK λ_ _ _ _ _ _ _ a q=>mul_int q a
def Ia:OpR X (inplaceOp .Mult) Au:=bK λ_ _ _ _ _ _ _ a q=>imul_int q a
def Lj:OpR X (binaryOp .Pow) IV:=bK λ_ _ _ _ _ _ _ a q=>pow_int_small a.1 a.2.1 a.2.2 q
def Ad:aZ X gT:=by
 intro a b c s d H x y v u Q I e f h g;obtain ⟨p,i,j,w,k,m,hp,n,q⟩:=h;exact Os a b c s d H x y v u Q I e f ⟨p,j,i,w,k,m,SqT.of hp,n,q⟩ g
def BD:aZ X gL:=by
 intro a b c s d H x y v u Q I e f h g;obtain ⟨p,i,j,w,k,m,hp,n,q⟩:=h;exact Oq a b c s d H x y v u Q I e f ⟨p,j,i,w,k,m,SqL.of hp,n,q⟩ g
def O8:aZ X (gS X.K):=by
 intro a b c s d H x y v u Q I e f h g;obtain ⟨p,i,j,w,k,m,hp,n,q⟩:=h;exact Oq a b c s d H x y v u Q I e f ⟨p,j,i,w,k,m,hp,n,q⟩ g
def Ib:CY X (.builtin "abs") GW:=WN
def Ic (a:X.calm=true):CY X (.builtin "max") GZ:=WO a
def Dw:CY X (.builtin "len") DX:=λa s b H c d Q I r h=>by
 obtain ⟨p,f,e,hp,q⟩:=h;exact Ju a s b H c d Q I r ⟨p,f,e,.inr (SqT.of hp),q⟩
def CS:CY X (.builtin "len") CI:=λa s b H c d Q I r h=>by
 obtain ⟨p,f,e,hp,q⟩:=h;exact Ju a s b H c d Q I r ⟨p,f,e,.inl (SqL.of hp),q⟩
def Lk:CY X (.builtin "len") (IW X.K):=λa s b H c d Q I r h=>by
 obtain ⟨p,f,e,hp,q⟩:=h;exact Ju a s b H c d Q I r ⟨p,f,e,.inl hp,q⟩
def Yk (K:W.Frag):W.kitOne K (.type "int") (.type "bool")=some false:=by kernel_rfl
def Yl (K:W.Frag):W.kitOne K (.type "int") (.type "tuple")=some false:=by kernel_rfl
def Ym (K:W.Frag):W.kitOne K (.type "int") (.type "list")=some false:=by kernel_rfl
def Yn (K:W.Frag):W.kitOne K (.type "bool") (.type "int")=some true:=by kernel_rfl
def Yo (K:W.Frag):W.kitOne K (.type "bool") (.type "tuple")=some false:=by kernel_rfl
def Yp (K:W.Frag):W.kitOne K (.type "bool") (.type "list")=some false:=by kernel_rfl
def Yq (K:W.Frag):W.kitOne K (.type "tuple") (.type "bool")=some false:=by kernel_rfl
def Yr (K:W.Frag):W.kitOne K (.type "tuple") (.type "int")=some false:=by kernel_rfl
def Ys (K:W.Frag):W.kitOne K (.type "tuple") (.type "list")=some false:=by kernel_rfl
def Yt (K:W.Frag):W.kitOne K (.type "list") (.type "bool")=some false:=by kernel_rfl
def Yu (K:W.Frag):W.kitOne K (.type "list") (.type "int")=some false:=by kernel_rfl
def Yv (K:W.Frag):W.kitOne K (.type "list") (.type "tuple")=some false:=by kernel_rfl
def J0 (K:W.Frag) (n:String):W.kitOne K (.type n) (.type n)=some true:=by
 unfold W.kitOne;rw [kA (beq_self_eq_true _)]
theorem Yw {H:Hp} {x:V} {n:String} {b:Bool} (K:W.Frag) (h:Ff H x n=some b):∃ t,TyOf K H x t/\W.kitOne K t (.type n)=some b:=by
 cases x with
 | int i=>
   refine ⟨_,.int i,?_⟩;unfold Ff at h;dsimp only at h;split at h
   ·rename_i e;cases h;subst e;exact J0 K _
   ·split at h
    ·rename_i e;cases h;rcases e with rfl | rfl | rfl
     ·exact Yk K
     ·exact Yl K
     ·exact Ym K
    ·cases h
 | bl i=>
   refine ⟨_,.bl i,?_⟩;unfold Ff at h;dsimp only at h;split at h
   ·rename_i e;cases h;rcases e with rfl | rfl
    ·exact Yn K
    ·exact J0 K _
   ·split at h
    ·rename_i e;cases h;rcases e with rfl | rfl
     ·exact Yo K
     ·exact Yp K
    ·cases h
 | ref p=>
   have a:IX (H p) n=some b:=h;cases e:H p with
   | none=>rw [e] at a;cases a
   | some o=>
     rw [e] at a;cases o with
     | tup c=>
       refine ⟨_,.tup e,?_⟩;unfold IX at a;dsimp only at a;split at a
       ·rename_i e;cases a;subst e;exact J0 K _
       ·split at a
        ·rename_i e;cases a;rcases e with rfl | rfl | rfl
         ·exact Yq K
         ·exact Yr K
         ·exact Ys K
        ·cases a
     | lst c=>
       refine ⟨_,.lst e,?_⟩;unfold IX at a;dsimp only at a;split at a
       ·rename_i e;cases a;subst e;exact J0 K _
       ·split at a
        ·rename_i e;cases a;rcases e with rfl | rfl | rfl
         ·exact Yt K
         ·exact Yu K
         ·exact Yv K
        ·cases a
     | _=>cases a
 | _=>cases h
def HP:CY X (.builtin "isinstance") E9:=λc s j H m o Q I r h=>by
 obtain ⟨x,n,b,rfl,e,q⟩:=h;obtain ⟨u,d,rfl,f,rn⟩:=vals2 r;have a:d=Value.type n:=rn;subst a;obtain ⟨t,g,k⟩:=Yw X.K e;exact WR I f g k λi=>⟨.bl b,H,I.tok i,rfl,q⟩
end
structure Cal (P:Program) (w:World) (K:W.Frag) (mg:dE) (base:Heap) (n:Nat) (x:Str) (ps:dH) (sp:Sp):Prop where
 ex:∃ (f:Addr) (fd:FuncData),FnOk P w K mg base aM n f fd ps sp/\Binds K fd ps []/\W.keepIn K (.ref f)=true/\mg x=some (.ref f)
def Cal.pe {X:Cx} {n m:Nat} {x:Str} {ps:dH} {sp:Sp} {e:Expr} {a:dF} {t:TA} {p c:Pos} (C:Cal X.prog X.w X.K X.mg X.base n x ps sp) (h:Room m X.A) (i:n<=m) (j:Gl X x) (o:PA X (e::a) t)
  (d:(x == ("__debug__" : Str))=false:=by decide) (q:starEach (e::a) X.env=(false,eval e X.env)::starEach a X.env:=by rfl) (g:(backTo c (starEach a X.env)).any (·.1)=false:=by rfl) :
  PE X (.Call (.Name x p) (e::a) [] c) (AE sp [] E0 t):=by
 obtain ⟨f,r,F,b,k,m⟩:=C.ex;exact WT F (h.mono i) j m k b .nil Ws o d q g
end Bs
namespace Bs
open PySem L2
noncomputable def Ci (capt:List (Option Nat)) (a:L2.St):L2.St:=capt.map λo=>o.bind λj=>(a[j]?).join
def Bb (e:TI) (capt:List (Option Nat)) (g:TG) (f:TE):TE:=λc H Q=>e c H λJ h=>∃ (n:Nat) (W:Nat->dj->Hp->Prop),W 0 [] h/\∀ i a H,W i a H->i<=n/\a.length<=sizeLine/\
 ((J.stop i H/\∀ p,H p=none->Q (.ref p) (upd H p (.lst a)))\/(i<n/\J.go i H/\∀ x d,J.yld i H x d->g x (Ci capt c) d λb j=>f b j λy k=>W (i+1) (a++[y]) k))
def CompJ (J:It) (capt:List (Option Nat)) (g:TG) (d:TE) (e:L2.St) (Q:VK) (f:Hp):Prop:=∃ (n:Nat) (W:Nat->dj->Hp->Prop),W 0 [] f/\∀ i a H,W i a H->i<=n/\a.length<=sizeLine/\
 ((J.stop i H/\∀ p,H p=none->Q (.ref p) (upd H p (.lst a)))\/(i<n/\J.go i H/\∀ x c,J.yld i H x c->g x (Ci capt e) c λb h=>d b h λy j=>W (i+1) (a++[y]) j))
section
variable {K:W.Frag} {ta:TA} {tl:TE} {capt:List (Option Nat)} {g:TG} {te:TE} {σ:L2.St} {H:Hp} {Q:VK}
def Yx:Bb (CW ta) capt g te σ H Q=ta σ H (λa b=>∃ j:Int,a=[.int j]/\-(2 ^ 62)<=j/\j<2 ^ 62/\CompJ (ay 0 j.toNat) capt g te σ Q b):=rfl
def Yy:Bb (C8 K tl) capt g te σ H Q=tl σ H (λx b=>∃ a,x=.ref a/\(∃ c,SqT K b a c)/\CompJ (aG K a) capt g te σ Q b):=rfl
def Yz:Bb (C7 K tl) capt g te σ H Q=tl σ H (λx b=>∃ a,x=.ref a/\(∃ c,SqL K b a c)/\CompJ (ax K a) capt g te σ Q b):=rfl
def CompJ.range {lo:Int} {n:Nat} (W:Nat->dj->Hp->Prop) (d:W 0 [] H) (b:∀ i a H,W i a H->i<=n/\a.length<=sizeLine)
  (f:∀ i a H,i<n->W i a H->g (.int (lo+i)) (Ci capt σ) H λc j=>te c j λy k=>W (i+1) (a++[y]) k) (m:∀ a H,W n a H->∀ p,H p=none->Q (.ref p) (upd H p (.lst a))):CompJ (ay lo n) capt g te σ Q H:=by
 refine ⟨n,W,d,λi a H w=>⟨(b i a H w).1,(b i a H w).2,?_⟩⟩;by_cases h:i<n
 ·refine .inr ⟨h,h,λx o y=>?_⟩;obtain ⟨e,y⟩:=y;subst e y;exact f i a _ h w
 ·have e:i=n:=Ef (b i a H w).1 (Nat.not_lt.mp h);subst e;exact .inl ⟨AT _,m a H w⟩
def CompJ.tup {a:Addr} {xs:dj} (W:Nat->dj->Hp->Prop) (f:W 0 [] H) (c:∀ i b H,W i b H->i<=xs.length/\b.length<=sizeLine/\H a=some (.tup xs))
  (j:∀ i x b H,xs[i]?=some x->W i b H->g x (Ci capt σ) H λd k=>te d k λy m=>W (i+1) (b++[y]) m) (n:∀ b H,W xs.length b H->∀ p,H p=none->Q (.ref p) (upd H p (.lst b))):CompJ (aG K a) capt g te σ Q H:=by
 refine ⟨xs.length,W,f,λi b H w=>⟨(c i b H w).1,(c i b H w).2.1,?_⟩⟩;have q:SqT K H a xs:=SqT.of (c i b H w).2.2;by_cases h:i<xs.length
 ·refine .inr ⟨h,⟨xs,xs[i],q,by simp [h]⟩,λx o y=>?_⟩;obtain ⟨e,y⟩:=y;subst e;exact j i x b _ (y xs q) w
 ·have e:i=xs.length:=Ef (c i b H w).1 (Nat.not_lt.mp h);subst e;exact .inl ⟨⟨xs,q,AT _⟩,n b H w⟩
def CompJ.lst {a:Addr} {xs:dj} (W:Nat->dj->Hp->Prop) (f:W 0 [] H) (c:∀ i b H,W i b H->i<=xs.length/\b.length<=sizeLine/\SqL K H a xs)
  (j:∀ i x b H,xs[i]?=some x->W i b H->g x (Ci capt σ) H λd k=>te d k λy m=>W (i+1) (b++[y]) m) (n:∀ b H,W xs.length b H->∀ p,H p=none->Q (.ref p) (upd H p (.lst b))):CompJ (ax K a) capt g te σ Q H:=by
 refine ⟨xs.length,W,f,λi b H w=>⟨(c i b H w).1,(c i b H w).2.1,?_⟩⟩;have q:SqL K H a xs:=(c i b H w).2.2;by_cases h:i<xs.length
 ·refine .inr ⟨h,⟨xs,xs[i],q,by simp [h]⟩,λx o y=>?_⟩;obtain ⟨e,y⟩:=y;subst e;exact j i x b _ (y xs q) w
 ·have e:i=xs.length:=Ef (c i b H w).1 (Nat.not_lt.mp h);subst e;exact .inl ⟨⟨xs,q,AT _⟩,n b H w⟩
end
noncomputable def HQ (K:W.Frag) (a:Addr):It:=
 ⟨λi H=>∃ b x,SqL K H a b/\b[i]?=some x,λi H v c=>∃ p x,H p=none/\v=.ref p/\c=upd H p (.tup [.int i,x])/\∀ b,SqL K H a b->b[i]?=some x,λi H=>∃ b,SqL K H a b/\b.length<=i⟩
noncomputable def Ga (K:W.Frag) (a:Addr):It:=
 ⟨λi H=>∃ b x,SqT K H a b/\b[i]?=some x,λi H v c=>∃ p x,H p=none/\v=.ref p/\c=upd H p (.tup [.int i,x])/\∀ b,SqT K H a b->b[i]?=some x,λi H=>∃ b,SqT K H a b/\b.length<=i⟩
def Fg (K:W.Frag) (c:TA):TI:=λd H R=>c d H λe b=>∃ a,e=[.ref a]/\(∃ f,SqL K b a f)/\R (HQ K a) b
def Gb (K:W.Frag) (c:TA):TI:=λd H R=>c d H λe b=>∃ a,e=[.ref a]/\(∃ f,SqT K b a f)/\R (Ga K a) b
def ForJ (J:It) (g:TG) (f:TS) (D:Ends) (a:L2.St) (H:Hp):Prop:=∃ W:Nat->Nat->L2.St->Hp->Prop,(∃ m,W 0 m a H)/\∀ i m a H,W i m a H->
 (J.stop i H/\D.nx a H)\/(J.go i H/\∃ N:L2.St->Hp->Prop,(∀ b c,N b c->∃ e,e<m/\W (i+1) e b c)/\∀ x c,J.yld i H x c->g x a c λd h=>f { D with nx:=N,ct:=N,bk:=D.nx } d h)
section
variable {K:W.Frag} {ta:TA} {g:TG} {tb:TS} {D:Ends} {σ:L2.St} {H:Hp} {a:Addr} {xs:dj}
def Y1:BH (Fg K ta) g tb D σ H=ta σ H (λc b=>∃ a,c=[.ref a]/\(∃ xs,SqL K b a xs)/\ForJ (HQ K a) g tb D σ b):=rfl
def Y3:BH (Gb K ta) g tb D σ H=ta σ H (λc b=>∃ a,c=[.ref a]/\(∃ xs,SqT K b a xs)/\ForJ (Ga K a) g tb D σ b):=rfl
def Y4 {capt:List (Option Nat)} {b:TE} {Q:VK}:Bb (Fg K ta) capt g b σ H Q=ta σ H (λd c=>∃ a,d=[.ref a]/\(∃ xs,SqL K c a xs)/\CompJ (HQ K a) capt g b σ Q c):=rfl
def ForJ.enumL (Pv:Nat->L2.St->Hp->Prop) (d:Pv 0 σ H) (f:∀ i σ H,i<=xs.length->Pv i σ H->SqL K H a xs)
  (h:∀ i x p σ H,xs[i]?=some x->Pv i σ H->H p=none->g (.ref p) σ (upd H p (.tup [.int i,x])) λb j=>tb { D with nx:=Pv (i+1),ct:=Pv (i+1),bk:=D.nx } b j) (k:∀ σ H,Pv xs.length σ H->D.nx σ H):ForJ (HQ K a) g tb D σ H:=by
 refine ⟨λi m σ H=>m=xs.length - i/\i<=xs.length/\Pv i σ H,⟨xs.length,by simp,Ae _,d⟩,?_⟩;rintro i m σ H ⟨rfl,n,pv⟩;have q:=f i σ H n pv;by_cases c:i<xs.length
 ·refine .inr ⟨⟨xs,xs[i],q,by simp [c]⟩,Pv (i+1),λo r u=>⟨xs.length - (i+1),⋯,rfl,c,u⟩,λx r y=>?_⟩;obtain ⟨p,v,hp,rfl,rfl,y⟩:=y;exact h i v p σ _ (y xs q) pv hp
 ·have e:i=xs.length:=by omega
  subst e;exact .inl ⟨⟨xs,q,AT _⟩,k σ H pv⟩
def ForJ.enumT (Pv:Nat->L2.St->Hp->Prop) (d:Pv 0 σ H) (f:∀ i σ H,i<=xs.length->Pv i σ H->H a=some (.tup xs))
  (h:∀ i x p σ H,xs[i]?=some x->Pv i σ H->H p=none->g (.ref p) σ (upd H p (.tup [.int i,x])) λb j=>tb { D with nx:=Pv (i+1),ct:=Pv (i+1),bk:=D.nx } b j) (k:∀ σ H,Pv xs.length σ H->D.nx σ H):ForJ (Ga K a) g tb D σ H:=by
 refine ⟨λi m σ H=>m=xs.length - i/\i<=xs.length/\Pv i σ H,⟨xs.length,by simp,Ae _,d⟩,?_⟩;rintro i m σ H ⟨rfl,n,pv⟩;have q:SqT K H a xs:=SqT.of (f i σ H n pv);by_cases c:i<xs.length
 ·refine .inr ⟨⟨xs,xs[i],q,by simp [c]⟩,Pv (i+1),λo r u=>⟨xs.length - (i+1),⋯,rfl,c,u⟩,λx r y=>?_⟩;obtain ⟨p,v,hp,rfl,rfl,y⟩:=y;exact h i v p σ _ (y xs q) pv hp
 ·have e:i=xs.length:=by omega
  subst e;exact .inl ⟨⟨xs,q,AT _⟩,k σ H pv⟩
end
end Bs
namespace Bs
open PySem PySem.Spec PyProof.Rows L2
noncomputable def X_ (X:Cx) (N:dH) (a:Scope) (e:List (Str×Addr)) (C:Addr) (s:Shared) (H:Hp) (f:dJ):Cx:=
 { X with N:=N,s₀:=s,H₀:=H,env:=compEnvC a e C X.env,outer:=X.stack,stack:=X.stack,ex:=f,fn:=λ_=>false,pn:=[],xe:=λ_ _=>False }
structure BlkOk (X:Cx) (N:dH) (capt:List (Option Nat)) (scope:Scope) (cl:List (Str×Addr)):Prop where
 kind:scope.kind=.function
 clos:closureFor scope X.env=pure cl
 nocell:∀ y∈scope.names,y.2≠.cell
 names:∀ y∈scope.names,y.2=.local->scope.names.lookup y.1=some .local
 cells:∀ y c,cl.lookup y=some c->X.env.cells.lookup y=some c
 has:∀ y,((relabel scope X.env).names.lookup y=some .cell\/(relabel scope X.env).names.lookup y=some .free)->∃ c,cl.lookup y=some c
 cap:∀ (i:Nat) (x:Str) (j:Nat),N[i]?=some x->capt[i]?=some (some j)->X.N[j]?=some x/\ca X.env.scope x/\X.env.kindOf x≠some .local/\((relabel scope X.env).names.lookup x=some .cell\/(relabel scope X.env).names.lookup x=some .free)
 len:capt.length=N.length
section
variable {X:Cx} {pins:dC} {σ:L2.St} {H:Hp} {s:Shared} {N:dH} {capt:List (Option Nat)} {scope:Scope} {cl:List (Str×Addr)} {C:Addr} {fp:dJ}
def O9 (B:BlkOk X N capt scope cl) (I:Inv X pins σ H s) (d:∀ b∈fp,DW X pins H b) (g:∀ b∈fp,b<s.heap.objs.size) (f:s.heap.objs.size<=C):(X_ X N scope cl C s H fp).Ok where
 mod:=I.ok.mod
 kind:=B.kind
 glob:=I.ok.glob
 blt:=I.ok.blt
 above:=f
 inj:=λx y c i j=>I.ok.inj x y c (B.cells x c i) (B.cells y c j)
 has:=λx h=>B.has x h
 cab:=λ_ _ h=>nomatch h
 hd:=I.ok.hd
 frames:=I.ok.frames
 stk:=.inl rfl
 exf:=λb a=>⟨λe=>absurd (CP (g b a) f) (by rw [show b=C from e];exact DH _),λx c e=>(d b a).2.2.2.2.1 x c (B.cells x c e)⟩
 bs:=I.bs
 bsz:=A7 I.ok.bsz I.sz
 noex:=λb o e a=>by
  rcases (d b a).2.2.2.1 with z | z
  ·exact I.ok.noex b o e z
  ·exact absurd (CP (kI e) (A7 I.ok.bsz z)) (DH _)
 exfs:=λb a k=>by
  rcases D8.mp (I.stkSub b k) with z | z
  ·exact (d b a).2.1 z
  ·exact (d b a).2.2.1 z
 funs:=I.stack
 frf:=I.stkFree
 seer:=I.ok.seer
 tree:=I.ok.tree
 plr:=I.ok.plr
def Y5 (B:BlkOk X N capt scope cl) (I:Inv X pins σ H s) (E:∀ b∈fp,DW X pins H b) (F:∀ b∈fp,b<s.heap.objs.size) (y:s.heap.objs.size<=C) {g:Heap} {m:dE} {tk:Nat}
  (G:g.Ns C m) (hk:∀ b o,s.heap.get? b=some o->g.get? b=some o):Inv (X_ X N scope cl C s H fp) [] (Ci capt σ) H { s with heap:=g,toks:=tk } where
 ok:=O9 B I E F y
 os:=rfl
 bare:=I.bare
 base:=Un.kept hk
 loc:=by
  refine ⟨m,G,λi x v J K U=>?_⟩;have a:(capt.map λo=>o.bind λj=>(σ[j]?).join)[i]?=some (some v):=K;rw [Aq] at a;cases h:capt[i]? with
  | none=>rw [h] at a;cases a
  | some o=>
    rw [h] at a;cases o with
    | none=>cases a
    | some j=>
      have f:(σ[j]?).join=some v:=kH a;obtain ⟨L,M,O,D⟩:=B.cap i x j J h
      have P:σ[j]?=some (some v):=by
       cases q:σ[j]? with
       | none=>rw [q] at f;cases f
       | some w=>rw [q] at f;exact congrArg some f
      obtain ⟨W,_,Q⟩:=I.loc;obtain ⟨u,r,l⟩:=Q j x v L P M;refine ⟨u,r,.inr ⟨D,?_⟩⟩;rcases l with ⟨l,_⟩ | ⟨_,c,R,S⟩
      ·exact absurd l O
      ·obtain ⟨T,d⟩:=B.has x D;have:=B.cells x T d;rw [R] at this;cases this;obtain ⟨o,k,n⟩:=S;exact ⟨c,d,o,hk c o k,n⟩
 cell:=λx c e=>by
  obtain ⟨v,o,k,n⟩:=I.cell x c (B.cells x c e);exact ⟨v,o,hk c o k,n⟩
 free:=I.hok.fresh y
 freeC:=λx c e=>I.freeC x c (B.cells x c e)
 pin:=λp hp=>nomatch hp
 hok:=I.hok.kept hk
 len:=by show (capt.map _).length=N.length;rw [AR];exact B.len
def PB {h:L2.St} {p:Hp} {y:Shared} {d:dC} (B:BlkOk X N capt scope cl) (I:Inv X pins σ H s) (A:∀ b∈fp,DW X pins H b) (e:Inv (X_ X N scope cl C s H fp) d h p y):Inv (X_ X N scope cl C s H fp) d (Ci capt σ) p y:=
 ⟨e.ok,e.os,e.bare,e.base,by
  obtain ⟨m,D,_⟩:=e.loc;refine ⟨m,D,λi x v E F T=>?_⟩;have a:(capt.map λo=>o.bind λj=>(σ[j]?).join)[i]?=some (some v):=F;rw [Aq] at a;cases k:capt[i]? with
  | none=>rw [k] at a;cases a
  | some o=>
    rw [k] at a;cases o with
    | none=>cases a
    | some j=>
      have g:(σ[j]?).join=some v:=kH a;obtain ⟨G,J,K,z⟩:=B.cap i x j E k
      have L:σ[j]?=some (some v):=by
       cases q:σ[j]? with
       | none=>rw [q] at g;cases g
       | some w=>rw [q] at g;exact congrArg some g
      obtain ⟨U,_,M⟩:=I.loc;obtain ⟨u,r,l⟩:=M j x v G L J;refine ⟨u,r,.inr ⟨z,?_⟩⟩;rcases l with ⟨l,_⟩ | ⟨_,c,n,O⟩
      ·exact absurd l K
      ·obtain ⟨P,f⟩:=B.has x z;have:=B.cells x P f;rw [n] at this;cases this;obtain ⟨o,Q,R⟩:=O;obtain ⟨W,hk⟩:=e.base.any Q (I.freeC x c n) λS=>(A c S).2.2.2.2.1 x c n rfl;exact ⟨c,f,_,hk,R⟩,e.cell,e.free,e.freeC,e.pin,e.hok,by show (capt.map _).length=N.length;rw [AR];exact B.len⟩
theorem J1 {a b:Type} [BEq a] [LawfulBEq a]:∀ {l:List (a×b)} {y:a} {c:b},l.lookup y=some c->(y,c)∈l
 | (k,v)::l,y,c,h=>by
   rw [List.lookup_cons] at h;cases e:y == k with
   | true=>
     rw [e] at h;cases h;rw [eq_of_beq e];exact CC ..
   | false=>
     rw [e] at h;exact CD _ (J1 h)
def BlkOk.of (k:scope.kind=.function) (c:closureFor scope X.env=pure cl) (n1:(scope.names.all λy=>y.2 != .cell)=true) (o:(scope.names.all λy=>y.2 != .local || scope.names.lookup y.1 == some .local)=true)
  (cs:∀ b∈cl,X.env.cells.lookup b.1=some b.2) (p:((relabel scope X.env).names.all λb=>(b.2 != .cell && b.2 != .free) || (cl.lookup b.1).isSome)=true)
  (r:((List.range N.length).all λi=>match N[i]?,capt[i]? with
   | some x,some (some j)=>X.N[j]? == some x && (X.env.scope.names.lookup x == some .cell || X.env.scope.names.lookup x == some .free) && ((relabel scope X.env).names.lookup x == some .cell || (relabel scope X.env).names.lookup x == some .free)
   | _,_=>true)=true) (u:capt.length=N.length):BlkOk X N capt scope cl where
 kind:=k
 clos:=c
 nocell:=λy f e=>by
  have z:=FV.mp n1 y f;rw [e] at z;exact absurd z ∅
 names:=λy f e=>by
  have z:=FV.mp o y f;rw [e] at z;simpa using z
 cells:=λy c h=>cs (y,c) (J1 h)
 has:=λy h=>by
  have m:∃ d,(y,d)∈(relabel scope X.env).names/\(d=.cell\/d=.free):=by
   rcases h with h | h
   ·exact ⟨_,J1 h,.inl rfl⟩
   ·exact ⟨_,J1 h,.inr rfl⟩
  obtain ⟨d,m,e⟩:=m;have z:=FV.mp p _ m
  have a:(cl.lookup y).isSome=true:=by
   rcases e with rfl | rfl
   ·simpa using z
   ·simpa using z
  exact Option.isSome_iff_exists.mp a
 cap:=λi x j g v=>by
  have li:i<N.length:=(Bw.mp g).1;have z:=FV.mp r i (Ec.mpr li);rw [g,v] at z;simp only [Eg,Bool.or_eq_true,beq_iff_eq] at z;obtain ⟨⟨w,a⟩,A⟩:=z;refine ⟨w,.inr a,λq=>?_,A⟩;have n:X.env.scope.names.lookup x=some .local:=q;rcases a with a | a <;> (rw [a] at n;cases n)
 len:=u
end
open PySem.AutoSeq1 (wpAny_loadPart')
section
variable {prog:Program} {w:World} {A:Around} {E:dw} {s:Shared} {e it t:Addr} {i:Nat} {zs:Array Value}
def Y6 {x:Value} {Q:dw} (si:s.heap.IsTupleIter it t i) (st:s.heap.IsTuple t zs) (d:zs[i]?=some x)
  (f:∀ g,g.IsTupleIter it t (i+1)->Heap.SameBut it s.heap g->Q x { s with heap:=g }):wpAny (model prog w) A (Builtin.SmallTypes.nextOf (.ref it)) Q E s:=by
 obtain ⟨m,b,h,a⟩:=id si;obtain ⟨n,j,_,o,k⟩:=st;unfold Builtin.SmallTypes.nextOf;refine kE (wpAny_callSpecial?_slot (name:=Str.ofString "__next__") si.typeIs F.slot_tuple_iterator_next (wpAny_call_entry F.slot_tuple_iterator_next si.typeIs F.entry_tuple_iterator_next ?_ (F.args_tuple_iterator_next_1 _)));show wpAny _ _ (field (.ref it) 0 >>= _) _ _ s;refine kE (wpAny_field b a (x:=.ref t) rfl ?_);show wpAny _ _ (if (Value.ref t == Value.none)=true then _ else _) _ _ s;rw [lZ (λq:(Value.ref t == Value.none)=true=>Cc q)];show wpAny _ _ (field (.ref it) 1 >>= _) _ _ s;refine kE (wpAny_field b a (x:=.int i 0) rfl ?_);show wpAny _ _ (seqItems? (.ref t) >>= _) _ _ s;refine kE (wpAny_seqItems j k ?_);simp only [DR,d];refine kE (wpAny_setField b a (by simp) (kF ⟨x,rfl,kF (f _ ⟨_,Heap.get?_update_self _ b (Obj.isFreed_of_fields (Obj.data_mapFields a _)),(Obj.cls_mapFields ..).trans h,?_⟩ (Heap.SameBut.update ..))⟩));rw [Obj.data_mapFields a];simp [rawInt]
def Y7 {Q:dw} (d:A.handled=none) (si:s.heap.IsTupleIter it t i) (st:s.heap.IsTuple t zs) (h:zs[i]?=none)
  (j:∀ g x,Heap.ExtBut it s.heap g->(∃ o,g.get? x=some o/\o.cls=.type "StopIteration")->E (.ref x) { s with heap:=g }):wpAny (model prog w) A (Builtin.SmallTypes.nextOf (.ref it)) Q E s:=by
 obtain ⟨p,b,r,c⟩:=id si;obtain ⟨u,k,_,v,n⟩:=st;unfold Builtin.SmallTypes.nextOf;refine kE (wpAny_callSpecial?_slot (name:=Str.ofString "__next__") si.typeIs F.slot_tuple_iterator_next (wpAny_call_entry F.slot_tuple_iterator_next si.typeIs F.entry_tuple_iterator_next ?_ (F.args_tuple_iterator_next_1 _)));show wpAny _ _ (field (.ref it) 0 >>= _) _ _ s;refine kE (wpAny_field b c (x:=.ref t) rfl ?_);show wpAny _ _ (if (Value.ref t == Value.none)=true then _ else _) _ _ s;rw [lZ (λq:(Value.ref t == Value.none)=true=>Cc q)];show wpAny _ _ (field (.ref it) 1 >>= _) _ _ s;refine kE (wpAny_field b c (x:=.int i 0) rfl ?_);show wpAny _ _ (seqItems? (.ref t) >>= _) _ _ s;refine kE (wpAny_seqItems k n ?_);simp only [DR,h];refine kE (wpAny_rule (kE (wpAny_setField b c (by simp) (kE ?_))));simp only [newExc,newTuple];refine kE (wpAny_newObj_type (kE (m:=firstArgMember _ _) (wpAny_of_eq (a:=Value.none) (by first | rfl | (simp only [firstArgMember];rfl)) (wpAny_newObj_type ?_ (by size_fits)))) (by size_fits));simp only [raiseNew];refine kE (wpAny_handled ?_)
 first
  | rw [show A.in1.handled=none from d]
  | rw [d]
 exact kE (kF (wpAny_throw (j _ _ (((Heap.SameBut.update ..).extBut.push _).push _) ⟨_,Heap.get?_push_size _ rfl,rfl⟩)))
def Y8 {x a:Value} {Q:dw} (J:IsEnum s.heap e it i a) (si:s.heap.IsTupleIter it t i) (st:s.heap.IsTuple t zs) (hx:zs[i]?=some x) (z:e≠it)
  (hQ:∀ g,IsEnumOut g e it ((i:Int)+1) x s.heap.objs.size->g.IsTupleIter it t (i+1)->g.get? s.heap.objs.size=some { cls:=.type "tuple", data:=.seq #[.int i s.toks,x] }->
   (∀ b o,b≠e->b≠it->s.heap.get? b=some o->g.get? b=some o)->Q (.ref s.heap.objs.size) { s with heap:=g,toks:=s.toks+1 }) :
  wpAny (model prog w) A (Builtin.«enumerate.__next__» ⟨[.ref e],[]⟩) (λK s'=>∃ v,K=.done (.ret v)/\Q v s') E s:=by
 obtain ⟨f,h,j,c,os⟩:=s;show wpAny _ _ (field (.ref e) 2 >>= _) _ _ _;refine kE (wpAny_field J rfl (x:=.ref it) rfl ?_);refine kE (Y6 si st hx λk i1 n=>?_);replace n:Heap.SameBut it f k:=n;have B:IsEnum k e it i a:=(n.2 e z).trans J;show wpAny _ _ (field (.ref e) 3 >>= _) _ _ ⟨k,h,j,c,os⟩;refine kE (wpAny_field B rfl (x:=rawInt i) rfl ?_);show wpAny _ _ (field (.ref e) 4 >>= _) _ _ ⟨k,h,j,c,os⟩;refine kE (wpAny_field B rfl (x:=.none) rfl ?_);show wpAny _ _ (mkInt i >>= _) _ _ ⟨k,h,j,c,os⟩;refine kE (wpAny_mkInt ?_);show wpAny _ _ (setField (.ref e) 3 (rawInt ((i:Int)+1)) >>= _) _ _ ⟨k,h,j,c+1,os⟩;refine kE (wpAny_setField_rec B (by simp) λu C p=>?_);replace p:Heap.SameBut e k u:=p;replace C:IsEnum u e it ((i:Int)+1) a:=C;show wpAny _ _ (setField (.ref e) 4 .none >>= _) _ _ ⟨u,h,j,c+1,os⟩;refine kE (wpAny_setField_rec C (by simp) λm D q=>?_);replace q:Heap.SameBut e u m:=q;replace D:IsEnum m e it ((i:Int)+1) a:=D;show wpAny _ _ (newTuple [.int i c,x] >>= _) _ _ ⟨m,h,j,c+1,os⟩;refine kE (wpAny_newTuple ?_);have F:IsEnum (m.push { cls:=.type "tuple", data:=.seq #[.int i c,x] }) e it ((i:Int)+1) a:=Heap.get?_push_of_some _ D;generalize G:m.push { cls:=.type "tuple", data:=.seq #[.int i c,x] }=r at F;have L:m.objs.size=f.objs.size:=by rw [q.1,p.1,n.1]
 have le:e<f.objs.size:=kI J;have t4:r.get? f.objs.size=some { cls:=.type "tuple", data:=.seq #[.int i c,x] }:=by rw [<-G,<-L];exact Heap.get?_push_size _ rfl
 have k4:∀ b o,b≠e->b≠it->f.get? b=some o->r.get? b=some o:=λb o d y M=>by
  rw [<-G];exact Heap.get?_push_of_some _ (q.extBut b o d (p.extBut b o d (n.extBut b o y M)))
 have i4:r.IsTupleIter it t (i+1):=by
  obtain ⟨o,N,O⟩:=i1;exact ⟨o,by rw [<-G];exact Heap.get?_push_of_some _ (q.extBut it o z.symm (p.extBut it o z.symm N)),O⟩
 show wpAny _ _ (Builtin.SmallTypes.ownedTupleIsFree (.ref e) >>= _) _ _ ⟨r,h,j,c+1,os⟩;rw [L];clear G D q C p B n i1 L m u k;refine kE ?_;unfold Builtin.SmallTypes.ownedTupleIsFree;refine kE (wpAny_field F rfl (x:=.none) rfl (kF ?_));simp only [if_true];refine kE (wpAny_rule (kE (wpAny_field F rfl (x:=a) rfl (kE (wpAny_setField_rec F (by simp) λH P R=>?_)))));replace R:Heap.SameBut e r H:=R;replace P:IsEnum H e it ((i:Int)+1) x:=P;show wpAny _ _ (Builtin.SmallTypes.ownedTupleHandOut (.ref e) (.ref f.objs.size) >>= _) _ _ ⟨H,h,j,c+1,os⟩;refine kE ?_;unfold Builtin.SmallTypes.ownedTupleHandOut;refine kE (wpAny_setField_rec P (by simp) λS T U=>?_);replace U:Heap.SameBut e H S:=U;replace T:IsEnumOut S e it ((i:Int)+1) x f.objs.size:=T;refine wpAny_setField_rec T (by simp) λI W X=>?_;replace X:Heap.SameBut e S I:=X;replace W:IsEnumOut I e it ((i:Int)+1) x f.objs.size:=W;have Y:∀ b o,b≠e->r.get? b=some o->I.get? b=some o:=λb o d y=>X.extBut b o d (U.extBut b o d (R.extBut b o d y));refine kE (wpAny_letGo (kF ⟨_,rfl,hQ I W ?_ (Y _ _ (Nat.ne_of_gt le) t4) λb o d y M=>Y b o d (k4 b o d y M)⟩));obtain ⟨o,N,O⟩:=i4;exact ⟨o,Y it o z.symm N,O⟩
def Y9 {x d:Value} {Q:dI->Shared->Prop} (f:IsEnum s.heap e it i d) (si:s.heap.IsTupleIter it t i) (st:s.heap.IsTuple t zs) (n:zs[i]?=some x) (p:e≠it)
  (q:∀ g,IsEnumOut g e it ((i:Int)+1) x s.heap.objs.size->g.IsTupleIter it t (i+1)->g.get? s.heap.objs.size=some { cls:=.type "tuple", data:=.seq #[.int i s.toks,x] }->
   (∀ b o,b≠e->b≠it->s.heap.get? b=some o->g.get? b=some o)->Q (some (.ref s.heap.objs.size)) { s with heap:=g,toks:=s.toks+1 }):wpAny (model prog w) A (pyNext (.ref e)) Q E s:=by
 have m:s.TypeIs (.ref e) "enumerate" := ⟨_,f,rfl⟩;unfold pyNext;exact kE (wpAny_attempt (wpAny_callSpecial?_slot (name:=Str.ofString "__next__") m F.slot_enumerate_next (wpAny_call_entry F.slot_enumerate_next m F.entry_enumerate_next (Y8 f si st n p λg a b c k=>kF (q g a b c k)) (F.args_enumerate_next_1 _))))
def ZA {a:Value} {Q:dI->Shared->Prop} (h:A.handled=none) (c:IsEnum s.heap e it i a) (si:s.heap.IsTupleIter it t i) (st:s.heap.IsTuple t zs) (j:zs[i]?=none)
  (k:∀ g,Heap.ExtBut it s.heap g->Q none { s with heap:=g }):wpAny (model prog w) A (pyNext (.ref e)) Q E s:=by
 have f:s.TypeIs (.ref e) "enumerate" := ⟨_,c,rfl⟩;unfold pyNext;refine kE (wpAny_attempt (wpAny_callSpecial?_slot (name:=Str.ofString "__next__") f F.slot_enumerate_next (wpAny_call_entry F.slot_enumerate_next f F.entry_enumerate_next ?_ (F.args_enumerate_next_1 _))));show wpAny _ _ (field (.ref e) 2 >>= _) _ _ _;refine kE (wpAny_field c rfl (x:=.ref it) rfl (kE (Y7 h si st j λg x m ⟨o,n,p⟩=>?_)));exact kE (wpAny_isInstance (T := "StopIteration") (b:=true) ⟨o,n,p⟩ isSubtype_stop (kF (k _ m)))
def ZB (n:Nat) (f:Option Addr) (m:Array (dI)) :
  Meets (Builtin.«enumerate.__new__» ⟨[.type "enumerate", .ref t],[]⟩) (λ_ R s=>s.heap.get? t=some { cls:=.type "tuple", dict:=f,data:=.seq zs n,slots:=m }/\
   R (.ok (.ret (.ref (s.heap.push { cls:=.type "tuple_iterator", data:=.fields #[.ref t,.int 0 0] }).objs.size)))
     { s with heap:=(s.heap.push { cls:=.type "tuple_iterator", data:=.fields #[.ref t,.int 0 0] }).push { cls:=.type "enumerate", data:=.fields #[.none,.bool false,.ref s.heap.objs.size,rawInt 0,.none,.none] } }):=
 .of_wp λprog w A R s h=>by
  obtain ⟨o,p,q,r,os⟩:=s;obtain ⟨d,h⟩:=h;have j:=sub_enumerate;have k:Heap.IsTuple (Shared.heap ⟨o,p,q,r,os⟩) t zs:=⟨_,d,rfl,n,rfl⟩
  wp_walk using wpAny_loadPart' d
  refine wpAny_stack_any λst=>kF ?_;split
  ·rename_i c _ _ _ _ _;cases (c == Value.type "enumerate") <;> (wp_walk using wpAny_loadPart' d,wpAny_pyIter_tuple k;exact ⟨_,rfl,h⟩)
  ·wp_walk using wpAny_loadPart' d,wpAny_pyIter_tuple k
   exact ⟨_,rfl,h⟩
def ZC {Q:dw} (q:s.heap.IsTuple t zs)
  (h:∀ g,IsEnum g (s.heap.objs.size+1) s.heap.objs.size 0 .none->g.IsTupleIter s.heap.objs.size t 0->(∀ b o,s.heap.get? b=some o->g.get? b=some o)->Q (.ref (s.heap.objs.size+1)) { s with heap:=g }) :
  wpAny (model prog w) A (call (.type "enumerate") [.ref t]) Q E s:=by
 obtain ⟨⟨c,a,r,u⟩,v,d,n,f⟩:=q;replace d:c=.type "tuple" := d;replace f:r=.seq zs n:=f;subst d f;refine callType_new F.called_enumerate ∅ (F.typeCall_enumerate_1 _) (F.newCall_enumerate_1 _) (λj=>F.args_object_init_2 j _) F.entry_enumerate_new (ZB n a u) ⟨v,?_⟩;have m:(s.heap.push { cls:=.type "tuple_iterator", data:=.fields #[.ref t,.int 0 0] }).objs.size=s.heap.objs.size+1:=Heap.size_push ..;show _/\_;rw [m]
 have p:IsEnum ((s.heap.push { cls:=.type "tuple_iterator", data:=.fields #[.ref t,.int 0 0] }).push { cls:=.type "enumerate", data:=.fields #[.none,.bool false,.ref s.heap.objs.size,rawInt 0,.none,.none] }) (s.heap.objs.size+1) s.heap.objs.size 0 .none:=by
  have z:=Heap.get?_push_size (s.heap.push { cls:=.type "tuple_iterator", data:=.fields #[.ref t,.int 0 0] }) (o:={ cls:=.type "enumerate", data:=.fields #[.none,.bool false,.ref s.heap.objs.size,rawInt 0,.none,.none] }) rfl;rw [m] at z;exact z
 exact ⟨⟨_,p,rfl⟩,h _ p ⟨_,Heap.get?_push_of_some _ (Heap.get?_push_size _ rfl),rfl,rfl⟩ λb o x=>Heap.get?_push_of_some _ (Heap.get?_push_of_some _ x)⟩
end
section
variable {X:Cx} {pins:dC} {σ:L2.St} {H:Hp} {s:Shared}
def PC {e f:Addr} {g:Heap} {tk:Nat} {xs:dj} {its:du} (I:Inv X pins σ H s) (i:DW X pins H e) (j:DW X pins H f) (k:∀ b o,b≠e->b≠f->s.heap.get? b=some o->g.get? b=some o)
  (x:xs.length<=sizeLine) (A:Vals xs its) (B:g.get? s.heap.objs.size=some { cls:=.type "tuple", data:=.seq its.toArray }):Inv X pins σ (upd H s.heap.objs.size (.tup xs)) { s with heap:=g,toks:=tk }:=by
 have C:H s.heap.objs.size=none:=I.hok.fresh (AT _);have p:∀ b o,s.heap.get? b=some o->b≠s.heap.objs.size:=λb o q=>Bv (kI q);have tr:∀ b u,H b=some u->b≠s.heap.objs.size/\b≠e/\b≠f:=λb u q=>⟨B5 q C,B5 q i.1,B5 q j.1⟩;have a:∀ b,b∉[e,f]->b≠e/\b≠f:=λb h=>⟨λz=>h (by simp [z]),λz=>h (by simp [z])⟩
 refine I.step (g':=s.gens) (d':=s.drawn) (ch:=[e,f]) (λb h=>?_) (λb o _ _ d q _=>k b o (a b d).1 (a b d).2 q) (λb o _ _ d q _=>⟨o.slots,k b o (a b d).1 (a b d).2 q⟩) (λb o _ q n=>?_) (λb o d q=>⟨o,k b o (a b d).1 (a b d).2 q⟩)
  (λb D q=>?_) (λb o u q=>?_) (λb ps q=>⟨#[],?_⟩) (λm E=>?_) (λb u q=>?_) I.bare
 ·have z:b=e\/b=f:=by simpa using h
  rcases z with rfl | rfl
  ·exact ⟨i.2.2.2.1,i.2.1,i.2.2.2.2.1,i.2.2.2.2.2⟩
  ·exact ⟨j.2.2.2.1,j.2.1,j.2.2.2.2.1,j.2.2.2.2.2⟩
 ·rw [A8 (p b o q)];exact n
 ·rw [A8 (tr b _ q).1];exact q
 ·rw [A8 (tr b _ q).1];exact q
 ·rw [A8 (tr b _ q).1,q];simp
 ·obtain ⟨o,F,G,J,K⟩:=E;exact ⟨o,F,G,k _ o i.2.1.symm j.2.1.symm J,K⟩
 ·by_cases h:b=s.heap.objs.size
  ·subst h;rw [upd_same] at q;cases q;exact ⟨x,its,A,⟨_,B,rfl,_,rfl⟩⟩
  ·rw [A8 h] at q;refine (I.hok b u q).stay (λc v d z=>?_) (λc z=>by rw [A8 (tr c _ z).1];exact z) λc D z=>by rw [A8 (tr c _ z).1];exact z
   rcases d with y | y
   ·subst y;exact k _ v (tr _ u q).2.1 (tr _ u q).2.2 z
   ·exact k c v (tr c _ y).2.1 (tr c _ y).2.2 z
end
def ZD {P:Program} {w:World} {K:W.Frag} {r:dF} {k:Nat} {D:Pos} (a e m:Addr) (S:e≠m):Turn P w K (.Tuple r k D) (HQ K a) [e,m] e (λi h=>(∃ f,IsEnum h e m i f)/\h.IsListIter m a i) where
 mem:=by simp
 obj:=λi h st b n=>by
  obtain ⟨⟨f,j⟩,o,F,c,d⟩:=st
  have z:b=e\/b=m:=by simpa using n
  rcases z with rfl | rfl
  ·exact ⟨_,j,λv z=>nomatch z⟩
  ·exact ⟨o,F,λv z=>by rw [d] at z;cases z⟩
 keep:=λi h h' st T=>⟨let ⟨f,j⟩:=st.1;⟨f,T e (by simp) _ j⟩,st.2.at λo q=>T m (by simp) o q⟩
 item:=by
  intro X G J L U i y s σ H E I A st M
  subst G J L
  obtain ⟨Y,x,C,N⟩:=M
  obtain ⟨⟨f,j⟩,si⟩:=st
  obtain ⟨B,O,p,hz⟩:=I.list C
  obtain ⟨u,hu,ru⟩:=O.get N
  refine wpAny_pyNext_enum_item j si p.isList (x:=u) (by simpa using hu) S λg eo gi gt _ gk=>?_
  refine ⟨_,rfl,wpAny_letOwnedTupleGo_enum eo λg' Q R=>?_⟩
  have I1:=PC (g:=g') (tk:=s.toks+1) (xs:=[.int i,x]) (its:=[.int i s.toks,u]) I (A e (by simp)) (A m (by simp)) (λb o Z h2 q=>R.extBut b o Z (gk b o Z h2 q)) (sz (by simp)) (.cons ⟨_,rfl⟩ (.cons ru .nil)) (R.extBut _ _ (Nat.ne_of_gt (kI j)) gt)
  refine ⟨.ref s.heap.objs.size,_,I1,rfl,⟨_,x,I.hok.fresh (AT _),rfl,rfl,λys hy=>by rw [I.list_inj hy C];exact N⟩,⟨⟨_,by simpa using Q⟩,gi.at λo q=>R.extBut m o S.symm q⟩,λb n=>?_⟩
  rw [A8]
  ·exact (A b n).1
  ·have z:b=e\/b=m:=by simpa using n
   rcases z with rfl | rfl
   ·exact Bv (kI j)
   ·obtain ⟨o,F,_⟩:=si;exact Bv (kI F)
 done:=by
  intro X G J L U i y s σ H E I A st M
  subst G J L
  obtain ⟨Y,C,N⟩:=M
  obtain ⟨⟨f,j⟩,si⟩:=st
  obtain ⟨B,O,p,hz⟩:=I.list C
  obtain ⟨f0,f1,f2,f3,f4,f5⟩:=A m (by simp)
  have hl:=O.length
  exact wpAny_pyNext_enum_end (I.ok.hd U) j si p.isList (by simp;omega) λg eb=>⟨rfl,I.turned (t':=s.toks) (λb o n q=>eb b o n q) f0 f1 f3 f4 f5⟩
 self:=λ_ _ _ _ _ st h=>let ⟨_,j⟩:=st.1;wpAny_pyIter_enum j h
def ZE {P:Program} {w:World} {K:W.Frag} {y:dF} {k:Nat} {D:Pos} (a e m:Addr) (S:e≠m):Turn P w K (.Tuple y k D) (Ga K a) [e,m] e (λi h=>(∃ f,IsEnum h e m i f)/\h.IsTupleIter m a i) where
 mem:=by simp
 obj:=λi h st b r=>by
  obtain ⟨⟨f,j⟩,o,F,c,d⟩:=st
  have z:b=e\/b=m:=by simpa using r
  rcases z with rfl | rfl
  ·exact ⟨_,j,λv z=>nomatch z⟩
  ·exact ⟨o,F,λv z=>by rw [d] at z;cases z⟩
 keep:=λi h h' st T=>⟨let ⟨f,j⟩:=st.1;⟨f,T e (by simp) _ j⟩,st.2.at λo q=>T m (by simp) o q⟩
 item:=by
  intro X G J L U i A s σ H E I B st M
  subst G J L
  obtain ⟨Y,x,C,N⟩:=M
  obtain ⟨⟨f,j⟩,si⟩:=st
  obtain ⟨n,O,p,hz⟩:=I.tuple C
  obtain ⟨u,hu,ru⟩:=O.get N
  refine Y9 j si (show s.heap.IsTuple a n.toArray from p) (x:=u) (by simpa using hu) S λg eo gi gt gk=>?_
  refine ⟨_,rfl,wpAny_letOwnedTupleGo_enum eo λg' Q R=>?_⟩
  have I1:=PC (g:=g') (tk:=s.toks+1) (xs:=[.int i,x]) (its:=[.int i s.toks,u]) I (B e (by simp)) (B m (by simp)) (λb o Z h2 q=>R.extBut b o Z (gk b o Z h2 q)) (sz (by simp)) (.cons ⟨_,rfl⟩ (.cons ru .nil)) (R.extBut _ _ (Nat.ne_of_gt (kI j)) gt)
  refine ⟨.ref s.heap.objs.size,_,I1,rfl,⟨_,x,I.hok.fresh (AT _),rfl,rfl,λys hy=>by rw [I.tuple_inj hy C];exact N⟩,⟨⟨_,by simpa using Q⟩,gi.at λo q=>R.extBut m o S.symm q⟩,λb r=>?_⟩
  rw [A8]
  ·exact (B b r).1
  ·have z:b=e\/b=m:=by simpa using r
   rcases z with rfl | rfl
   ·exact Bv (kI j)
   ·obtain ⟨o,F,_⟩:=si;exact Bv (kI F)
 done:=by
  intro X G J L U i A s σ H E I B st M
  subst G J L
  obtain ⟨Y,C,N⟩:=M
  obtain ⟨⟨f,j⟩,si⟩:=st
  obtain ⟨n,O,p,hz⟩:=I.tuple C
  obtain ⟨f0,f1,f2,f3,f4,f5⟩:=B m (by simp)
  have hl:=O.length
  exact ZA (I.ok.hd U) j si (show s.heap.IsTuple a n.toArray from p) (by simp;omega) λg eb=>⟨rfl,I.turned (t':=s.toks) (λb o r q=>eb b o r q) f0 f1 f3 f4 f5⟩
 self:=λ_ _ _ _ _ st h=>let ⟨_,j⟩:=st.1;wpAny_pyIter_enum j h
section
variable {X:Cx} {elts:dF} {k:Nat} {tpos:Pos} {a:Expr} {ta:TA} {p pos:Pos}
def Id (o:Gl X "enumerate") (r:X.mg "enumerate" = none) (v:PA X [a] ta) (w:starEach [a] X.env=[(false,eval a X.env)]:=by rfl):PI X (.Tuple elts k tpos) (.Call (.Name "enumerate" p) [a] [] pos) (Fg X.K ta):=by
 intro d s i H R I h;refine Call_ (Em I o r O6 (PyProof.Rows.callWith_type1 (E_ (v pos d s i H _ I h) λJ e ⟨K,j,f,x,y⟩=>?_) w rfl));obtain ⟨b,rfl,⟨L,A⟩,q⟩:=y;obtain ⟨u,rfl,B⟩:=EQ x;cases B;obtain ⟨C,M,D,N⟩:=f.list A;refine call_enumerate_list D.isList λg m si _ E=>?_;have F:Inv X d i j { e with heap:=g }:=f.kept (t':=e.toks) E;refine wpAny_pyIter_enum m ⟨_,[e.heap.objs.size+1,e.heap.objs.size],_,_,j,rfl,F,ZD b _ _ (Nat.succ_ne_self _),⟨⟨_,m⟩,si⟩,λc G=>?_,q⟩;have z:c=e.heap.objs.size+1\/c=e.heap.objs.size:=by simpa using G
 rcases z with rfl | rfl
 ·exact f.fpOk (Nat.le_succ _) (f.hok.fresh (Nat.le_succ _))
 ·exact f.fpOk (AT _) (f.hok.fresh (AT _))
def Ln (r:Gl X "enumerate") (v:X.mg "enumerate" = none) (w:PA X [a] ta) (x:starEach [a] X.env=[(false,eval a X.env)]:=by rfl):PI X (.Tuple elts k tpos) (.Call (.Name "enumerate" p) [a] [] pos) (Gb X.K ta):=by
 intro d s j H R I h;refine Call_ (Em I r v O6 (PyProof.Rows.callWith_type1 (E_ (w pos d s j H _ I h) λJ e ⟨K,m,f,y,A⟩=>?_) x rfl));obtain ⟨b,rfl,⟨L,B⟩,q⟩:=A;obtain ⟨u,rfl,C⟩:=EQ y;cases C;obtain ⟨i,M,D,N⟩:=f.tuple B;refine ZC (show e.heap.IsTuple b i.toArray from D) λg n si E=>?_;have F:Inv X d j m { e with heap:=g }:=f.kept (t':=e.toks) E;refine wpAny_pyIter_enum n ⟨_,[e.heap.objs.size+1,e.heap.objs.size],_,_,m,rfl,F,ZE b _ _ (Nat.succ_ne_self _),⟨⟨_,n⟩,si⟩,λc G=>?_,q⟩;have z:c=e.heap.objs.size+1\/c=e.heap.objs.size:=by simpa using G
 rcases z with rfl | rfl
 ·exact f.fpOk (Nat.le_succ _) (f.hok.fresh (Nat.le_succ _))
 ·exact f.fpOk (AT _) (f.hok.fresh (AT _))
end
end Bs
namespace Bs
open PySem L2
mutual
inductive RepD (H:Hp):V->W.Dat->Prop
 | non:RepD H .non .none
 | int (i:Int):RepD H (.int i) (.int i)
 | tup {p:Addr} {xs:dj} {ds:List W.Dat} (h:H p=some (.tup xs)) (r:RepA H xs ds):RepD H (.ref p) (.tuple ds)
 | lst {p:Addr} {xs:dj} {ds:List W.Dat} (h:H p=some (.lst xs)) (r:RepA H xs ds):RepD H (.ref p) (.list ds)
inductive RepA (H:Hp):dj->List W.Dat->Prop
 | nil:RepA H [] []
 | cons {x:V} {xs:dj} {d:W.Dat} {ds:List W.Dat} (h:RepD H x d) (r:RepA H xs ds):RepA H (x::xs) (d::ds)
end
def aS:R2:=λx y H Q=>∃ (d e:W.Dat) (b:Bool),RepD H x d/\RepD H y e/\W.kqdOk 8 d=true/\W.kqdOk 8 e=true/\(b=true↔d=e)/\Q (.bl b) H
def cJ:R2:=λx y H Q=>∃ (d e:W.Dat) (b:Bool),RepD H x d/\RepD H y e/\W.kqdOk 8 d=true/\W.kqdOk 8 e=true/\(b=true↔d=e)/\Q (.bl (!b)) H
def Ep (c:TE):TT:=λd H Q=>c d H λx a=>∃ p b,x=.ref p/\a p=some (.lst b)/\Q (!b.isEmpty) a
def ZF (c:TE):TT:=λd H Q=>c d H λx a=>∃ p b,x=.ref p/\a p=some (.tup b)/\Q (!b.isEmpty) a
def sL:V->Option Int->Option Int->Hp->VK->Prop:=λx lo c H Q=>∃ a b,x=.ref a/\H a=some (.lst b)/\∀ p,H p=none->Q (.ref p) (upd H p (.lst (CN b lo c)))
def J2:dj->Hp->VK->Prop:=λb H Q=>∃ p a,b=[.ref p]/\H p=some (.lst a)/\∀ l,H l=none->Q (.ref l) (upd H l (.tup a))
def Lo:dj->Hp->VK->Prop:=λb H Q=>∃ p a,b=[.ref p]/\H p=some (.tup a)/\∀ l,H l=none->Q (.ref l) (upd H l (.lst a))
def Ie:dj->Hp->VK->Prop:=λb H Q=>∃ p a,b=[.ref p]/\H p=some (.lst a)/\∀ l,H l=none->Q (.ref l) (upd H l (.lst a))
def PD:dj->Hp->VK->Prop:=λb H Q=>∃ (p:Addr) (a:List Bool),b=[.ref p]/\H p=some (.lst (a.map V.bl))/\Q (.bl (a.all id)) H
end Bs
namespace Bs
open PySem PySem.Spec PyProof.Rows L2
section
variable {X:Cx} {pins:dC} {σ:L2.St} {H:Hp} {s:Shared}
mutual
theorem Ig (I:Inv X pins σ H s):∀ {x:V} {d:W.Dat} {u:Value},RepD H x d->RelV x u->∃ as,Reads s.heap u (W.kqdP d) as
 | _,_,_,.non,e=>by cases e;rw [W.kqdP];exact ⟨_,Reads.none⟩
 | _,_,_,.int i,⟨t,e⟩=>by subst e;rw [W.kqdP];exact ⟨_,Reads.int i t⟩
 | _,_,_,.tup h r,e=>by
   cases e;obtain ⟨a,b,p,_⟩:=I.tuple (SqT.of h);obtain ⟨as,q⟩:=Lq I r b;obtain ⟨o,c,f,n,g⟩:=p;rw [W.kqdP];exact ⟨as,reads_tuple_at c f g (by simpa using q)⟩
 | _,_,_,.lst h r,e=>by
   cases e;obtain ⟨a,b,p,_⟩:=I.list (SqL.of h);obtain ⟨as,q⟩:=Lq I r b;obtain ⟨o,n,c,f,_,g⟩:=p;rw [W.kqdP];exact ⟨_,reads_list_at c f g (by simpa using q)⟩
theorem Lq (I:Inv X pins σ H s):∀ {xs:dj} {a:List W.Dat} {b:du},RepA H xs a->Vals xs b->∃ as,ReadsAll s.heap b (W.kqdPs a) as
 | _,_,_,.nil,.nil=>by rw [W.kqdPs];exact ⟨_,ReadsAll.nil⟩
 | _,_,_,.cons h r,.cons e c=>by
   obtain ⟨as,q⟩:=Ig I h e;obtain ⟨f,d⟩:=Lq I r c;rw [W.kqdPs];exact ⟨_,ReadsAll.cons q d⟩
end
def J3 {d:W.Dat} (h:W.kqdOk 8 d=true):SeqAt.shaped (W.kqdP d)=true:=by
 have z:=W.kqd_lay 8 d h;unfold SeqAt.shaped;rw [z.1,Bool.true_and];exact kB (A7 z.2 ∅)
def PH {d e:W.Dat} {b:Bool} (a:W.kqdOk 8 d=true) (c:W.kqdOk 8 e=true) (f:b=true↔d=e):PyData.eqv (W.kqdP d) (W.kqdP e)=b:=by
 rw [Bool.eq_iff_iff,f];exact W.kqd_eqv 8 d e 8 a c
def HR (f:X.A.units+64<cLine):OpR X (compareOp .Eq) aS:=by
 intro pins s σ H x y v u Q I g i h;obtain ⟨d,e,b,j,k,a,c,m,q⟩:=h;obtain ⟨as,n⟩:=Ig I j g;obtain ⟨p,o⟩:=Ig I k i;exact eq_dataH n o (J3 a) (J3 c) f (by rw [PH a c m];exact ⟨.bl b,H,I,rfl,q⟩)
def PJ (f:X.A.units+64<cLine):OpR X (compareOp .NotEq) cJ:=by
 intro pins s σ H x y v u Q I g i h;obtain ⟨d,e,b,j,k,a,c,m,q⟩:=h;obtain ⟨as,n⟩:=Ig I j g;obtain ⟨p,o⟩:=Ig I k i;exact ne_dataH n o (J3 a) (J3 c) f (by rw [PH a c m];exact ⟨.bl (!b),H,I,rfl,q⟩)
def Fh {a:Expr} {c:TE} (d:PE X a c) (f:∀ b,isTrue a X.env b=(do let v <-b;standAt a.pos;holding [v] (truthy v))):PT X a (Ep c):=λpins s σ H Q I h=>
 isTrue_plain (E_ (d pins s σ H _ I h) λv g ⟨x,i,j,k,m⟩=>by
  obtain ⟨p,n,e,hp,q⟩:=m;subst e;exact WM pins g σ i _ v Q j k ⟨_,.inl ⟨n,SqL.of hp,rfl⟩,q⟩) (f _)
def J4:cH X sL:=by
 intro pins s σ H x v b c lo d f Q I g i j pu h;obtain ⟨a,k,e,m,q⟩:=h;exact Ot pins s σ H x v b c lo d f Q I g i j pu ⟨a,k,e,SqL.of m,q⟩
def PM:CY X (.type "tuple") J2:=λpins s σ H a b Q I r h=>by
 obtain ⟨p,c,e,hp,q⟩:=h;exact Wi pins s σ H a b Q I r ⟨p,c,e,.inl ⟨SqL.of hp,q⟩⟩
def ZG:CY X (.type "list") Lo:=λpins s σ H a b Q I r h=>by
 obtain ⟨p,c,e,hp,q⟩:=h;exact Ou pins s σ H a b Q I r ⟨p,c,e,.inr (SqT.of hp),q⟩
def Lr:CY X (.type "list") Ie:=λpins s σ H a b Q I r h=>by
 obtain ⟨p,c,e,hp,q⟩:=h;exact Ou pins s σ H a b Q I r ⟨p,c,e,.inl (SqL.of hp),q⟩
theorem PN:∀ {a:List Bool} {c:du},Vals (a.map V.bl) c->c=a.map Value.bool
 | [],_,.nil=>rfl
 | b::a,_,.cons e r=>by rw [show _=Value.bool b from e,PN r];rfl
def ZH (j:X.calm=true):CY X (.builtin "all") PD:=λpins s σ H G J Q I r h=>by
 obtain ⟨p,a,rfl,hp,q⟩:=h;obtain ⟨u,rfl,k⟩:=EQ r;cases k;obtain ⟨m,n,f,K⟩:=I.list (SqL.of hp);have y:=PN n;subst y;refine call_all_walk (wpAny_pyIter_list f.isList ⟨s.heap.objs.size,[s.heap.objs.size,p],[s.heap.objs.size],(a.map Value.bool).toArray.size,_,_,λi=>a.getD i false,rfl,Walks.list (A:=X.A.in1) (show X.A.in1.handled=none from I.ok.hd j) s.heap.objs.size p (Bv f.lt) _,⟨⟨_,Heap.get?_push_size _ rfl,rfl,rfl⟩,f.isList.push _⟩,?_,λg L B=>?_⟩)
 ·intro i v M N O C D
  have e:v=Value.bool (a.getD i false):=by
   have z:(a.map Value.bool)[i]?=some v:=by simpa using C
   rw [Aq] at z;cases w:a[i]? with
   | none=>rw [w] at z;cases z
   | some c=>
     rw [w] at z;rw [AU,w];exact (kH z).symm
  subst e;exact wpAny_truthy_bool D
 ·have E:∀ b o,s.heap.get? b=some o->g.get? b=some o:=λb o e=>B b o (λz=>absurd (kI e) (by rw [B7.mp z];exact DH _)) (Heap.get?_push_of_some _ e);refine ⟨.bl (a.all id),H,I.kept E,?_,q⟩;show Value.bool _=Value.bool _;congr 1;rw [Bool.eq_iff_iff];simp only [FV,Ec,BK,AR,id];constructor
  ·intro h x F;obtain ⟨i,d,e⟩:=GI F;have z:=h i d;rw [AU,Az d] at z;rw [<-e];exact z
  ·intro h i d;rw [AU,Az d];exact h _ (Eh d)
def Ih:cr X gL:=by
 intro pins s σ H o i B C Q I m n h;obtain ⟨p,k,D,v,rfl,rfl,hp,u,q⟩:=h;cases m;obtain ⟨t,rfl⟩:=n;obtain ⟨c,r,e,E⟩:=I.list (SqL.of hp);obtain ⟨j,b,x,F,y,z⟩:=LY u;obtain ⟨w,f,rw'⟩:=r.get x;have A:=r.length;have G:=HJ;have a:EP X pins σ Q w s:=⟨v,H,I,rw',q⟩;by_cases g:0<=k
 ·have d:k.toNat=j:=by
   rw [seqIndex_of g z] at b;exact kH b
  exact wpAny_getItem_list e.isList g ⋯ (by rw [d];simpa using f) a
 ·have d:(k+(c.toArray.size:Int)).toNat=j:=by
   rw [seqIndex_neg ⋯ y] at b;rw [BK,<-A];exact kH b
  exact wpAny_getItem_list_neg e.isList ⋯ (by rw [BK] <;> omega) ⋯ (by rw [d];simpa using f) a
def Ls {K:W.Frag} {p:Addr} {xs:dj} (h:H p=some (.lst xs)):cI K "list" (.ref p) H:=.inl ⟨rfl,xs,SqL.of h⟩
end
end Bs
namespace Bs
open PySem L2
def Dj (n:Nat) (t:aQ):TG:=λv c H Q=>∃ a b,v=.ref a/\H a=some (.tup b)/\b.length=n/\t b c H Q
end Bs
namespace Bs
open PySem PySem.Spec PyProof.Rows L2
def ES {X:Cx} {c:dF} {k:Nat} {d:Pos} {t:aQ} {n:Nat} (g:X.calm=true) (h:cf X c t)
  (i:(assignEach c X.env).length=n:=by rfl) (f:(assignEach c X.env).findIdx? (·.1)=none:=by rfl):PG X (.Tuple c k d) (Dj n t):=λb s j H v u Q I r q=>by
 obtain ⟨a,m,e,o,p,q⟩:=q;exact V5 g h i f b s j H v u Q I r ⟨a,m,e,SqT.of o,p,q⟩
def ZI {X:Cx}:OpR X (inplaceOp .FloorDiv) Li:=bK λi j _ _ _ _ _ a q=>by
 refine ifloordiv_int (AV a.1) ?_ (.inl (PyProof.noPylong_of_log2 (a.2.log2 ∅)));rw [Ee i (De a.1)];exact q
end Bs
namespace Bs
open PySem L2
def sT:V->Option Int->Option Int->Hp->VK->Prop:=λx lo d H Q=>∃ a b,x=.ref a/\H a=some (.tup b)/\∀ p c,(c=H/\p=a/\CN b lo d=b)\/(H p=none/\c=upd H p (.tup (CN b lo d)))->Q (.ref p) c
noncomputable def cx (lo:Int) (n:Nat):It:=⟨λi _=>i<n,λi H x a=>a=H/\x=.int (lo - i),λi _=>n<=i⟩
noncomputable def cL (K:W.Frag) (a:Addr) (n:Nat):It:=⟨λi H=>i<n/\∃ b,SqL K H a b/\b.length=n,λi H x c=>c=H/\∀ b,SqL K H a b->b[n - 1 - i]?=some x,λi _=>n=i⟩
def HS (a:TA):TI:=λb H R=>a b H λc d=>∃ i j:Int,c=[.int i,.int j,.int (-1)]/\(-(2 ^ 62)<=i/\i<2 ^ 62/\-(2 ^ 62)<=j/\j<2 ^ 62)/\R (cx i (i - j).toNat) d
def Lu (K:W.Frag) (d:TA):TI:=λe H R=>d e H λf b=>∃ a c,f=[.ref a]/\SqL K b a c/\R (cL K a c.length) b
section
variable {K:W.Frag} {ta:TA} {g:TG} {tb:TS} {D:Ends} {σ:L2.St} {H:Hp} {a:Addr} {xs:dj}
def ZJ:BH (HS ta) g tb D σ H=ta σ H (λb c=>∃ i j:Int,b=[.int i,.int j,.int (-1)]/\(-(2 ^ 62)<=i/\i<2 ^ 62/\-(2 ^ 62)<=j/\j<2 ^ 62)/\ForJ (cx i (i - j).toNat) g tb D σ c):=rfl
def ZK:BH (Lu K ta) g tb D σ H=ta σ H (λc b=>∃ a xs,c=[.ref a]/\SqL K b a xs/\ForJ (cL K a xs.length) g tb D σ b):=rfl
def ForJ.down {lo:Int} {n:Nat} (Pv:Nat->L2.St->Hp->Prop) (d:Pv 0 σ H)
  (f:∀ i σ H,i<n->Pv i σ H->g (.int (lo - i)) σ H λb h=>tb { D with nx:=Pv (i+1),ct:=Pv (i+1),bk:=D.nx } b h) (j:∀ σ H,Pv n σ H->D.nx σ H):ForJ (cx lo n) g tb D σ H:=by
 refine ⟨λi m σ H=>m=n - i/\i<=n/\Pv i σ H,⟨n,by simp,Ae _,d⟩,?_⟩;rintro i m σ H ⟨rfl,u,pv⟩;by_cases c:i<n
 ·refine .inr ⟨c,Pv (i+1),λk o p=>⟨n - (i+1),⋯,rfl,c,p⟩,λx o y=>?_⟩;obtain ⟨e,y⟩:=y;subst e y;exact f i σ _ c pv
 ·have e:i=n:=by omega
  subst e;exact .inl ⟨AT _,j σ H pv⟩
def ForJ.rev (Pv:Nat->L2.St->Hp->Prop) (d:Pv 0 σ H) (f:∀ i σ H,i<=xs.length->Pv i σ H->SqL K H a xs)
  (h:∀ i x σ H,i<xs.length->xs[xs.length - 1 - i]?=some x->Pv i σ H->g x σ H λb j=>tb { D with nx:=Pv (i+1),ct:=Pv (i+1),bk:=D.nx } b j) (k:∀ σ H,Pv xs.length σ H->D.nx σ H):ForJ (cL K a xs.length) g tb D σ H:=by
 refine ⟨λi m σ H=>m=xs.length - i/\i<=xs.length/\Pv i σ H,⟨xs.length,by simp,Ae _,d⟩,?_⟩;rintro i m σ H ⟨rfl,n,pv⟩;have q:=f i σ H n pv;by_cases c:i<xs.length
 ·refine .inr ⟨⟨c,xs,q,rfl⟩,Pv (i+1),λo p r=>⟨xs.length - (i+1),⋯,rfl,c,r⟩,λx p y=>?_⟩;obtain ⟨e,y⟩:=y;subst e;exact h i x σ _ c (y xs q) pv
 ·have e:i=xs.length:=by omega
  subst e;exact .inl ⟨rfl,k σ H pv⟩
end
end Bs
namespace Bs
open PySem PySem.Spec PyProof.Rows L2
def ZL {P:Program} {w:World} {K:W.Frag} {L:Expr} (a:Addr) (lo:Int) (n:Nat):Turn P w K L (cx lo n) [a] a (λi h=>IsRangeIter h a (lo+(i:Nat)*(-1)) ((n:Int) - (i:Nat)) (-1)) where
 mem:=by simp
 obj:=λi h st b d=>by
  have e:b=a:=by simpa using d
  subst e
  exact ⟨_,st,λv z=>by
   have M:Data.fields _=Data.cell v:=z
   cases M⟩
 keep:=λi h m st k=>k a (by simp) _ st
 item:=by
  intro X q r u x i c s G H E I p st y
  subst q r u
  obtain ⟨A,B,N,C,D,F⟩:=p a (by simp)
  have W:=Walks.range (prog:=X.prog) (w:=X.w) (I.ok.hd x) a lo (-1) n
  refine W.item i s _ _ y st λv m J O f Q=>?_
  obtain ⟨t,rfl⟩:=O
  have R:Inv X c G H { s with heap:=m,toks:=J }:=I.turned (λb o d e=>Q b o (by simpa using d) e) A B C D F
  refine ⟨_,rfl,IO (s:={ s with heap:=m,toks:=J }) (n := "range_iterator") f rfl rfl ∅ ⟨.int (lo - i),H,R,⟨t,?_⟩,⟨rfl,rfl⟩,f,λb d=>(p b d).1⟩⟩
  rw [show lo+(i:Int)*(-1)=lo - i by omega]
 done:=by
  intro X q r u x i c s G H E I p st y
  subst q r u
  obtain ⟨A,B,N,C,D,F⟩:=p a (by simp)
  exact wpAny_pyNext_range_end (I.ok.hd x) st (by have:n<=i:=y;omega) λm S=>⟨rfl,I.turned (t':=s.toks) (λb o d e=>S b o d e) A B C D F⟩
 self:=λ_ _ _ _ _ st h=>wpAny_pyIter_rangeiter st h
def PP (a b:Int):Builtin.Range.rangeSize a b (-1)=if b<a then a - b else 0:=by
 unfold Builtin.Range.rangeSize;simp only [show ¬ ((-1:Int) > 0) by decide,if_false,Int.neg_neg,Int.ediv_one];split <;> omega
def ZM {a b:Int} (e:-(2 ^ 62)<=a) (c:a<2 ^ 62) (f:-(2 ^ 62)<=b) (d:b<2 ^ 62):Builtin.Range.small a b (-1)=true:=by
 unfold Builtin.Range.small;rw [PP];simp only [Builtin.Range.rangeFitsLong,Eg,Bool.or_eq_true,decide_eq_true_eq,beq_iff_eq,show ¬ ((-1:Int) > 0) by decide,if_false];split <;> omega
theorem Lv {X:Cx} {E:Expr} {a b c:Expr} {z:TA} {p n:Pos} (F:Gl X "range") (G:X.mg "range" = none) (J:PA X [a,b,c] z) (K:starEach [a,b,c] X.env=[(false,eval a X.env),(false,eval b X.env),(false,eval c X.env)]:=by rfl) (u:starEach [b,c] X.env=[(false,eval b X.env),(false,eval c X.env)]:=by rfl) :
  PI X E (.Call (.Name "range" p) [a,b,c] [] n) (HS z):=by
 intro g s A H R I h;refine Call_ (Em I F G boot_range (PyProof.Rows.callWith_type1 (E_ (J n g s A H _ I h) λW k ⟨Y,B,L,M,w⟩=>?_) (by rw [K,u]) (by rw [u];rfl)));obtain ⟨i,j,e,⟨w,N,O,P⟩,q⟩:=w;subst e;cases M with
 | cons r v=>
   cases v with
   | cons Q v=>
     cases v with
     | cons x v=>
       cases v;obtain ⟨t,rfl⟩:=r;obtain ⟨t',rfl⟩:=Q;obtain ⟨f,rfl⟩:=x;refine call_range_3 ∅ ?_ (.inl (PyProof.noPylong_small ∅));refine wpAny_pyIter_range (IsRange.new ..) (ZM w N O P) ?_;have y:Inv X g A B { k with heap:=k.heap.push { cls:=.type "range", data:=.fields #[.int i t,.int j t',.int (-1) f] },toks:=k.toks }:=L.kept λb o e=>Heap.get?_push_of_some _ e
       refine ⟨(k.heap.push { cls:=.type "range", data:=.fields #[.int i t,.int j t',.int (-1) f] }).objs.size,[(k.heap.push { cls:=.type "range", data:=.fields #[.int i t,.int j t',.int (-1) f] }).objs.size],_,_,B,rfl,
        y.kept (t':=k.toks) λb o e=>Heap.get?_push_of_some _ e,ZL _ i (i - j).toNat,?_,λb S=>?_,q⟩
       ·have T:i+((0:Nat):Int)*(-1)=i:=by simp
        have U:(((i - j).toNat:Nat):Int) - ((0:Nat):Int)=Builtin.Range.rangeSize i j (-1):=by rw [PP];split <;> omega
        show IsRangeIter _ _ (i+((0:Nat):Int)*(-1)) ((((i - j).toNat:Nat):Int) - ((0:Nat):Int)) (-1);rw [T,U];exact Heap.get?_push_size _ rfl
       ·have e:b=(k.heap.push { cls:=.type "range", data:=.fields #[.int i t,.int j t',.int (-1) f] }).objs.size:=by simpa using S
        subst e;exact y.fpOk (AT _) (y.hok.fresh (AT _))
def ZN {P:Program} {w:World} {K:W.Frag} {Z:Expr} (a f:Addr) (n:Nat):Turn P w K Z (cL K a n) [f] f (λi h=>h.IsRevIter f a ((n:Int) - 1 - (i:Int))) where
 mem:=by simp
 obj:=λi h st b j=>by
  have e:b=f:=by simpa using j
  subst e
  obtain ⟨o,e,c,d⟩:=st
  exact ⟨o,e,λv z=>by rw [d] at z;cases z⟩
 keep:=λi h q st k=>st.at λo e=>k f (by simp) o e
 item:=by
  intro X B C D R i g s S H E I A st F
  subst B C D
  obtain ⟨hi,T,U,hn⟩:=F
  obtain ⟨a0,rv,p,hz⟩:=I.list U
  have Y:T[n - 1 - i]?=some (T[n - 1 - i]'⋯):=Az ⋯
  obtain ⟨u,hu,ru⟩:=rv.get Y
  obtain ⟨G,J,f2,L,M,N⟩:=A f (by simp)
  have m:s.heap.IsRevIter f a ((n - 1 - i:Nat):Int):=by rw [show ((n - 1 - i:Nat):Int)=(n:Int) - 1 - (i:Int) by omega];exact st
  refine wpAny_pyNext_rev_item m p.isList (x:=u) (by simpa using hu) λq r sb=>?_
  have I1:Inv X g S H { s with heap:=q }:=I.turned (t':=s.toks) (λb o j e=>(sb.2 b j).trans e) G J L M N
  obtain ⟨o,e,c,d⟩:=id r
  have O:q.IsRevIter f a ((n:Int) - 1 - ((i+1:Nat):Int)):=by rw [show (n:Int) - 1 - ((i+1:Nat):Int)=((n - 1 - i:Nat):Int) - 1 by omega];exact r
  exact ⟨u,rfl,IO (s:={ s with heap:=q }) e c d ∅ ⟨_,H,I1,ru,⟨rfl,λys hy=>by rw [I.list_inj hy U];exact Y⟩,O,λb j=>(A b j).1⟩⟩
 done:=by
  intro X B C D R i g s S H E I A st F
  subst B C D
  have Q:n=i:=F
  subst Q
  obtain ⟨G,J,f2,L,M,N⟩:=A f (by simp)
  have m:s.heap.IsRevIter f a (-1):=by rw [show (-1:Int)=(n:Int) - 1 - (n:Int) by omega];exact st
  exact wpAny_pyNext_rev_end (I.ok.hd R) m λq eb=>⟨rfl,I.turned (t':=s.toks) (λb o j e=>eb b o j e) G J L M N⟩
 self:=λ_ _ _ _ _ st h=>wpAny_pyIter_revIter st h
def ZO {X:Cx} {w:Expr} {a:Expr} {m:TA} {p i:Pos} (x:Gl X "reversed") (y:X.mg "reversed" = none) (A:PA X [a] m) (B:starEach [a] X.env=[(false,eval a X.env)]:=by rfl):PI X w (.Call (.Name "reversed" p) [a] [] i) (Lu X.K m):=by
 intro d s n H R I h;refine Call_ (Em I x y Yj (PyProof.Rows.callWith_type1 (E_ (A i d s n H _ I h) λM f ⟨N,r,j,C,D⟩=>?_) B rfl));obtain ⟨b,k,rfl,E,q⟩:=D;obtain ⟨u,rfl,F⟩:=EQ C;cases F;obtain ⟨g,G,J,O⟩:=j.list E;refine call_reversed_list J.isList ?_;have K:Inv X d n r { f with heap:=f.heap.push (revObj b ((g.toArray.size:Int) - 1)) }:=j.kept (t':=f.toks) λb o e=>Heap.get?_push_of_some _ e;have P:=G.length
 have si:(f.heap.push (revObj b ((g.toArray.size:Int) - 1))).IsRevIter f.heap.objs.size b ((k.length:Int) - 1 - ((0:Nat):Int)):=by
  rw [show (k.length:Int) - 1 - ((0:Nat):Int)=(g.toArray.size:Int) - 1 by rw [BK];omega];exact ⟨_,Heap.get?_push_size _ rfl,rfl,rfl⟩
 refine wpAny_pyIter_revIter si ⟨_,[f.heap.objs.size],_,_,r,rfl,K,ZN b _ k.length,si,λc L=>?_,q⟩;have z:c=f.heap.objs.size:=by simpa using L
 subst z;exact j.fpOk (AT _) (j.hok.fresh (AT _))
end Bs
namespace Bs
open PySem L2
def Ii:R2:=λx y H Q=>y=.non/\Q (.bl (decide (x=.non))) H
def PQ:R2:=λx y H Q=>y=.non/\Q (.bl (!decide (x=.non))) H
def PR (_ j:Int):Prop:=0<j
def J5 (_ j:Int):Prop:=j≠0
abbrev FC:R2:=rI PR λi j=>.int (i / j)
abbrev ET:R2:=rI J5 λi j=>.int (i.fdiv j)
noncomputable def Itz (K:W.Frag) (a b:Addr):It:=
 ⟨λi H=>∃ c d x y,SqL K H a c/\SqL K H b d/\c[i]?=some x/\d[i]?=some y,λi H v e=>∃ p x y,H p=none/\v=.ref p/\e=upd H p (.tup [x,y])/\(∀ c,SqL K H a c->c[i]?=some x)/\∀ d,SqL K H b d->d[i]?=some y,λi H=>∃ c d,SqL K H a c/\SqL K H b d/\c.length<=i⟩
def Lx (K:W.Frag) (d:TA):TI:=λe H R=>d e H λf c=>∃ a b,f=[.ref a,.ref b]/\(∃ g,SqL K c a g)/\(∃ h,SqL K c b h)/\R (Itz K a b) c
def HU (h:TI) (capt:List (Option Nat)) (g:TG) (tc:TT) (j:TE):TE:=λd H Q=>h d H λJ k=>∃ (n:Nat) (W:Nat->dj->Hp->Prop),W 0 [] k/\∀ i a H,W i a H->i<=n/\a.length<=sizeLine/\
 ((J.stop i H/\∀ p,H p=none->Q (.ref p) (upd H p (.lst a)))\/(i<n/\J.go i H/\∀ x e,J.yld i H x e->g x (Ci capt d) e λc m=>tc c m λb f=>if b=true then j c f λy o=>W (i+1) (a++[y]) o else W (i+1) a f))
def CompF (J:It) (capt:List (Option Nat)) (g:TG) (tc:TT) (f:TE) (h:L2.St) (Q:VK) (j:Hp):Prop:=∃ (n:Nat) (W:Nat->dj->Hp->Prop),W 0 [] j/\∀ i a H,W i a H->i<=n/\a.length<=sizeLine/\
 ((J.stop i H/\∀ p,H p=none->Q (.ref p) (upd H p (.lst a)))\/(i<n/\J.go i H/\∀ x d,J.yld i H x d->g x (Ci capt h) d λc k=>tc c k λb e=>if b=true then f c e λy m=>W (i+1) (a++[y]) m else W (i+1) a e))
section
variable {K:W.Frag} {ta:TA} {tl:TE} {capt:List (Option Nat)} {g:TG} {tc:TT} {te:TE} {tb:TS} {D:Ends} {σ:L2.St} {H:Hp} {Q:VK} {a b:Addr} {xs ys:dj}
def ZP:HU (C7 K tl) capt g tc te σ H Q=tl σ H (λx c=>∃ a,x=.ref a/\(∃ xs,SqL K c a xs)/\CompF (ax K a) capt g tc te σ Q c):=rfl
def ZQ:Bb (Lx K ta) capt g te σ H Q=ta σ H (λd c=>∃ a b,d=[.ref a,.ref b]/\(∃ xs,SqL K c a xs)/\(∃ ys,SqL K c b ys)/\CompJ (Itz K a b) capt g te σ Q c):=rfl
def CompF.lst (W:Nat->dj->Hp->Prop) (j:W 0 [] H) (d:∀ i ys H,W i ys H->i<=xs.length/\ys.length<=sizeLine/\SqL K H a xs)
  (k:∀ i x ys H,xs[i]?=some x->W i ys H->g x (Ci capt σ) H λc m=>tc c m λb f=>if b=true then te c f λy n=>W (i+1) (ys++[y]) n else W (i+1) ys f) (o:∀ ys H,W xs.length ys H->∀ p,H p=none->Q (.ref p) (upd H p (.lst ys))):CompF (ax K a) capt g tc te σ Q H:=by
 refine ⟨xs.length,W,j,λi ys H w=>⟨(d i ys H w).1,(d i ys H w).2.1,?_⟩⟩;have q:SqL K H a xs:=(d i ys H w).2.2;by_cases h:i<xs.length
 ·refine .inr ⟨h,⟨xs,xs[i],q,by simp [h]⟩,λx r y=>?_⟩;obtain ⟨e,y⟩:=y;subst e;exact k i x ys _ (y xs q) w
 ·have e:i=xs.length:=Ef (d i ys H w).1 (Nat.not_lt.mp h);subst e;exact .inl ⟨⟨xs,q,AT _⟩,o ys H w⟩
end
def PU:V->Hp->VK->Prop:=λx H Q=>∃ (p:Addr) (a:dq),x=.ref p/\H p=some (.lst (a.map V.int))/\∀ m:Int,(a=[]/\m=0\/m∈a)->Q (.int m) H
def Ly (a:TE):TE:=λb H Q=>a b H λx c=>PU x c Q
def MA:dj->Hp->VK->Prop:=λb H Q=>∃ (p:Addr) (a:dq),b=[.ref p]/\H p=some (.lst (a.map V.int))/\Q (.bl (a.any λz=>!decide (z=0))) H
end Bs
namespace Bs
open PySem PySem.Spec PyProof.Rows L2
section
variable {X:Cx} {pins:dC} {σ:L2.St} {H:Hp} {s:Shared}
def FD:OpR X (binaryOp .FloorDiv) ET:=by
 intro pins s σ H x y v u Q I a b ⟨i,j,c,d,e,q⟩;subst c d;obtain ⟨t,rfl⟩:=a;obtain ⟨f,rfl⟩:=b;exact floordiv_int e ⟨.int (i.fdiv j),H,I.tok _,⟨_,rfl⟩,q⟩ (Or.inr (I.ok.plr s I.bk))
def Ij:OpR X (binaryOp .FloorDiv) FC:=by
 intro pins s σ H x y v u Q I b c ⟨i,j,d,e,f,q⟩;have a:0<j:=f;replace q:Q (.int (i / j)) H:=q;rw [<-Ee i (De a)] at q;exact FD pins s σ H x y v u Q I b c ⟨i,j,d,e,AV a,q⟩
def ZR {f:dJ} {g:Heap} {tk:Nat} (I:Inv X pins σ H s) (e:∀ b∈f,DW X pins H b) (k:∀ b o,b∉f->s.heap.get? b=some o->g.get? b=some o):Inv X pins σ H { s with heap:=g,toks:=tk }:=by
 have tr:∀ b u,H b=some u->b∉f:=λb u q a=>by rw [(e b a).1] at q;cases q
 refine I.step (g':=s.gens) (d':=s.drawn) (ch:=f) (λb a=>⟨(e b a).2.2.2.1,(e b a).2.1,(e b a).2.2.2.2.1,(e b a).2.2.2.2.2⟩) (λb o _ _ d q _=>k b o d q) (λb o _ _ d q _=>⟨o.slots,k b o d q⟩) (λ_ _ _ _ n=>n)
  (λb o d q=>⟨o,k b o d q⟩) (λ_ _ q=>q) (λ_ _ _ q=>q) (λb ps q=>⟨#[],by rw [q];simp⟩) (λm j=>?_) (λb u q=>?_) I.bare
 ·obtain ⟨o,p,r,w,x⟩:=j;exact ⟨o,p,r,k _ o (λa=>(e _ a).2.1 rfl) w,x⟩
 ·refine (I.hok b u q).stay (λc v d z=>?_) (λ_ z=>z) λ_ _ z=>z;rcases d with y | y
  ·subst y;exact k _ v (tr _ u q) z
  ·exact k c v (tr c _ y) z
def ZS {f:dJ} {g:Heap} {tk:Nat} {xs:dj} {its:du} (I:Inv X pins σ H s) (e:∀ b∈f,DW X pins H b) (k:∀ b o,b∉f->s.heap.get? b=some o->g.get? b=some o)
  (j:xs.length<=sizeLine) (p:Vals xs its) (r:g.get? s.heap.objs.size=some { cls:=.type "tuple", data:=.seq its.toArray }):Inv X pins σ (upd H s.heap.objs.size (.tup xs)) { s with heap:=g,toks:=tk }:=by
 have w:H s.heap.objs.size=none:=I.hok.fresh (AT _);have tn:∀ b u,H b=some u->b≠s.heap.objs.size:=λb u q=>B5 q w;have tr:∀ b u,H b=some u->b∉f:=λb u q a=>by rw [(e b a).1] at q;cases q
 refine I.step (g':=s.gens) (d':=s.drawn) (ch:=f) (λb a=>⟨(e b a).2.2.2.1,(e b a).2.1,(e b a).2.2.2.2.1,(e b a).2.2.2.2.2⟩) (λb o _ _ d q _=>k b o d q) (λb o _ _ d q _=>⟨o.slots,k b o d q⟩) (λb o _ q n=>?_)
  (λb o d q=>⟨o,k b o d q⟩) (λb x q=>?_) (λb o u q=>?_) (λb ps q=>⟨#[],?_⟩) (λm A=>?_) (λb u q=>?_) I.bare
 ·rw [A8 (Bv (kI q))];exact n
 ·rw [A8 (tn b _ q)];exact q
 ·rw [A8 (tn b _ q)];exact q
 ·rw [A8 (tn b _ q),q];simp
 ·obtain ⟨o,B,C,D,E⟩:=A;exact ⟨o,B,C,k _ o (λa=>(e _ a).2.1 rfl) D,E⟩
 ·by_cases a:b=s.heap.objs.size
  ·subst a;rw [upd_same] at q;cases q;exact ⟨j,its,p,⟨_,r,rfl,_,rfl⟩⟩
  ·rw [A8 a] at q;refine (I.hok b u q).stay (λc v d z=>?_) (λc z=>by rw [A8 (tn c _ z)];exact z) λc x z=>by rw [A8 (tn c _ z)];exact z
   rcases d with y | y
   ·subst y;exact k _ v (tr _ u q) z
   ·exact k c v (tr c _ y) z
end
def ZT (a b z c d e f:Addr) (i:Nat) (h:Heap):Prop:=IsZip h z c d .none/\IsPair h c (.ref e) (.ref f)/\(∃ u v,IsPair h d u v)/\h.IsListIter e a i/\h.IsListIter f b i
def ZU {P:Program} {w:World} {K:W.Frag} {L:dF} {k:Nat} {U:Pos} {a b z n p j m:Addr} (D:ZipApart z n p j m a b):Turn P w K (.Tuple L k U) (Itz K a b) [z,n,p,j,m] z (ZT a b z n p j m) where
 mem:=by simp
 obj:=λi h st c f=>by
  obtain ⟨F,C,⟨u,v,G⟩,⟨o4,A,_,d4⟩,⟨o5,B,_,d5⟩⟩:=st
  have d:c=z\/c=n\/c=p\/c=j\/c=m:=by simpa using f
  rcases d with rfl | rfl | rfl | rfl | rfl
  ·exact ⟨_,F,λv q=>nomatch q⟩
  ·exact ⟨_,C,λv q=>nomatch q⟩
  ·exact ⟨_,G,λv q=>nomatch q⟩
  ·exact ⟨_,A,λv q=>by rw [d4] at q;cases q⟩
  ·exact ⟨_,B,λv q=>by rw [d5] at q;cases q⟩
 keep:=λi h h' st M=>⟨M z (by simp) _ st.1,M n (by simp) _ st.2.1,let ⟨u,v,q⟩:=st.2.2.1;⟨u,v,M p (by simp) _ q⟩,st.2.2.2.1.at λo q=>M j (by simp) o q,st.2.2.2.2.at λo q=>M m (by simp) o q⟩
 item:=by
  intro X Y Z hK f i N s σ H E I R st hg
  subst Y Z hK
  obtain ⟨xs,ys,x,y,S,r,hx,hy⟩:=hg
  obtain ⟨F,C,⟨u0,v0,G⟩,A,B⟩:=st
  obtain ⟨O,rv,p1,_⟩:=I.list S
  obtain ⟨a0,rw',p2,_⟩:=I.list r
  obtain ⟨u,hu,ru⟩:=rv.get hx
  obtain ⟨v,hv,a1⟩:=rw'.get hy
  refine wpAny_pyNext_zip_item D F C G A B p1.isList p2.isList (x:=u) (y:=v) (by simpa using hu) (by simpa using hv) λg g1 g2 g3 g4 g5 _ T=>?_
  refine ⟨_,rfl,wpAny_letOwnedTupleGo_zip g1 λg' z1 J=>?_⟩
  have lz:z<s.heap.objs.size:=kI F
  have Q:∀ c o,c∉[z,n,p,j,m]->s.heap.get? c=some o->g'.get? c=some o:=λc o f q=>by
   have d:¬ (c=z\/c=n\/c=p\/c=j\/c=m):=by simpa using f
   exact J.extBut c o (λe=>d (.inl e)) (T c o (λe=>d (.inl e)) (λe=>d (.inr (.inr (.inl e)))) (λe=>d (.inr (.inr (.inr (.inl e))))) (λe=>d (.inr (.inr (.inr (.inr e))))) q)
  have I1:=ZS (g:=g') (tk:=s.toks) (xs:=[x,y]) (its:=[u,v]) I R Q (sz (by simp)) (.cons ru (.cons a1 .nil)) (J.extBut _ _ (Nat.ne_of_gt lz) g5)
  refine ⟨.ref s.heap.objs.size,_,I1,rfl,⟨_,x,y,I.hok.fresh (AT _),rfl,rfl,λzs hz=>by rw [I.list_inj hz S];exact hx,λzs hz=>by rw [I.list_inj hz r];exact hy⟩,⟨z1,?_,⟨u,v,J.extBut _ _ D.TOz g2⟩,g3.at λo q=>J.extBut j o D.i1z q,g4.at λo q=>J.extBut m o D.i2z q⟩,λc f=>?_⟩
  ·exact J.extBut _ _ D.TIz (T _ _ D.TIz D.TITO D.TIi1 D.TIi2 C)
  ·rw [A8]
   ·exact (R c f).1
   ·have d:c=z\/c=n\/c=p\/c=j\/c=m:=by simpa using f
    obtain ⟨o4,A,_⟩:=A
    obtain ⟨o5,B,_⟩:=B
    rcases d with rfl | rfl | rfl | rfl | rfl
    ·exact Bv lz
    ·exact Bv (kI C)
    ·exact Bv (kI G)
    ·exact Bv (kI A)
    ·exact Bv (kI B)
 done:=by
  intro X Y Z hK f i N s σ H E I R st hg
  subst Y Z hK
  obtain ⟨xs,ys,S,r,hx⟩:=hg
  obtain ⟨F,C,⟨u0,v0,G⟩,A,B⟩:=st
  obtain ⟨O,rv,p1,_⟩:=I.list S
  obtain ⟨a0,_,p2,_⟩:=I.list r
  have hl:=rv.length
  refine wpAny_pyNext_zip_end (I.ok.hd f) D F C G A B p1.isList p2.isList (.inl (by simp;omega)) λg T=>⟨rfl,ZR (tk:=s.toks) I R λc o f q=>?_⟩
  have d:¬ (c=z\/c=n\/c=p\/c=j\/c=m):=by simpa using f
  exact T c o (λe=>d (.inl e)) (λe=>d (.inr (.inr (.inl e)))) (λe=>d (.inr (.inr (.inr (.inl e))))) (λe=>d (.inr (.inr (.inr (.inr e))))) q
 self:=λ_ _ _ _ _ st h=>wpAny_pyIter_zip st.1 h
section
variable {X:Cx} {elts:dF} {k:Nat} {tpos:Pos} {a b:Expr} {ta:TA} {p pos:Pos}
def vals2 {x y:V} {c:du} (r:Vals [x,y] c):∃ u v,c=[u,v]/\RelV x u/\RelV y v:=r.two
def ZV (C:Gl X "zip") (E:X.mg "zip" = none) (F:PA X [a,b] ta) (G:starEach [a,b] X.env=(false,eval a X.env)::starEach [b] X.env:=by rfl) (j:(backTo pos (starEach [b] X.env)).any (·.1)=false:=by rfl):PI X (.Tuple elts k tpos) (.Call (.Name "zip" p) [a,b] [] pos) (Lx X.K ta):=by
 intro e s n H R I h;refine Call_ (Em I C E Yi (PyProof.Rows.callWith_type1 (E_ (F pos e s n H _ I h) λus d ⟨vs,o,f,J,K⟩=>?_) G j));obtain ⟨r,w,rfl,⟨xs,L⟩,⟨ys,m⟩,q⟩:=K;obtain ⟨u,v,rfl,M,N⟩:=vals2 J;cases M;cases N;obtain ⟨O,_,x,_⟩:=f.list L;obtain ⟨P,_,y,_⟩:=f.list m;refine call_zip_2 x.isList y.isList λg A Q S T U _ W=>?_;have Y:Inv X e n o { d with heap:=g }:=f.kept (t':=d.toks) W;have n1:@LT.lt Nat _ r d.heap.objs.size:=x.lt;have n2:@LT.lt Nat _ w d.heap.objs.size:=y.lt
 have D:ZipApart (d.heap.objs.size+4) (d.heap.objs.size+2) (d.heap.objs.size+3) d.heap.objs.size (d.heap.objs.size+1) r w:=by
  constructor <;> (show (_:Nat)≠_;omega)
 refine wpAny_pyIter_zip A ⟨_,[d.heap.objs.size+4,d.heap.objs.size+2,d.heap.objs.size+3,d.heap.objs.size,d.heap.objs.size+1],_,_,o,rfl,Y,ZU D,⟨A,Q,⟨_,_,S⟩,T,U⟩,λc Z=>?_,q⟩
 have i:d.heap.objs.size<=c:=by
  have z:c=d.heap.objs.size+4\/c=d.heap.objs.size+2\/c=d.heap.objs.size+3\/c=d.heap.objs.size\/c=d.heap.objs.size+1:=by simpa using Z
  rcases z with z | z | z | z | z <;> rw [z] <;> first | exact Nat.le_add_right _ _ | exact AT _
 exact f.fpOk i (f.hok.fresh i)
end
def ZW:bootBuiltins "any" = some (.builtin "any"):=by decide +kernel
theorem Ik:∀ {ns:dq} {a:du} {i:Nat} {u:Value},Vals (ns.map V.int) a->a[i]?=some u->∃ n t,ns[i]?=some n/\u=Value.int n t
 | [],_,_,_,.nil,e=>by simp at e
 | n::ns,_,0,_,.cons r _,e=>by
   simp at e;subst e;obtain ⟨t,rfl⟩:=r;exact ⟨n,t,rfl,rfl⟩
 | _::ns,_,i+1,u,.cons _ r,e=>by
   obtain ⟨n,t,b,c⟩:=Ik (i:=i) (u:=u) r (by simpa using e);exact ⟨n,t,by simpa using b,c⟩
section
variable {X:Cx}
def ZX (y:X.calm=true):CY X (.builtin "any") MA:=λk s M H N O Q I r ⟨p,c,e,hp,q⟩=>by
 subst e;obtain ⟨u,rfl,B⟩:=EQ r;cases B;obtain ⟨a,m,j,P⟩:=I.list (SqL.of hp);have R:c.length=a.length:=by have:=m.length;simpa using this
 refine call_any_walk (wpAny_pyIter_list j.isList ⟨s.heap.objs.size,[s.heap.objs.size,p],[s.heap.objs.size],a.toArray.size,_,_,λi=>!decide (c.getD i 0=0),rfl,Walks.list (A:=X.A.in1) (show X.A.in1.handled=none from I.ok.hd y) s.heap.objs.size p (Bv j.lt) _,⟨⟨_,Heap.get?_push_size _ rfl,rfl,rfl⟩,j.isList.push _⟩,?_,λg S C=>?_⟩)
 ·intro i v D E T F f;obtain ⟨n,t,G,rfl⟩:=Ik m (show a[i]?=some v by simpa using F);have e:c.getD i 0=n:=by rw [AU,G];rfl
  replace f:E (!decide (c.getD i 0=0)) D:=f;rw [e] at f;refine PySem.P.truthy_int ?_;have J:(n != 0)=!decide (n=0):=by rw [Bool.eq_iff_iff];simp
  rw [J];exact f
 ·have K:∀ b o,s.heap.get? b=some o->g.get? b=some o:=λb o e=>C b o (λz=>absurd (kI e) (by rw [B7.mp z];exact DH _)) (Heap.get?_push_of_some _ e);refine ⟨_,H,I.kept K,?_,q⟩;show Value.bool _=Value.bool _;congr 1;rw [Bool.eq_iff_iff];simp only [List.any_eq_true,Ec,BK];constructor
  ·rintro ⟨i,w,h⟩;have d:i<c.length:=by omega
   rw [AU,Az d] at h;exact ⟨c[i],Eh d,h⟩
  ·rintro ⟨x,L,h⟩;obtain ⟨i,w,rfl⟩:=GI L;refine ⟨i,⋯,?_⟩;rw [AU,Az w];exact h
end
section
variable {prog:Program} {w:World} {A:Around} {R:Result->Shared->Prop} {I:Addr} {fp wr:dJ} {n:Nat} {P:Nat->Value->Prop} {St:Nat->Heap->Prop} {d:Value}
theorem MC (W:Walks prog w A.in1 I fp wr n P St) (G:Nat->Nat->Bool) (a:CmpOf prog w A.in1 .Lt P G) (S:Addr) (f:S∉fp):∀ (k j q:Nat) (s:Shared) (h:Value) (c:Nat),n - j=k->j<=n->St j s.heap->q<n->P q h->
  s.heap.get? S=some { cls:=.type "list", dict:=none,data:=.seq #[h,h] c,slots:=#[] }->
  (∀ q v H J,q<n->P q v->(∀ b o,b∉wr->b≠S->s.heap.get? b=some o->H.get? b=some o)->R (.ok (.ret v)) { s with heap:=H,toks:=J })->
  codeAny (model prog w) A (.builtin "min.loop" ⟨[.ref I,.none,.ref S],[("default", d)]⟩) R s
 | 0,j,q,s,h,c,hk,Z,r,N,i,D,K=>by
   have L:j=n:=by omega
   refine codeAny_builtin F.entry_min_loop ?_;rw [Around.under_plainId F.plain_min_loop _];refine kE (m:=seqItems? (.ref S)) (wpAny_seqItems D rfl ?_);refine kE (m:=tryCatch (pyNext (.ref I)) _) (wpAny_tryCatch (W.done s _ _ (L ▸ r) λH J kp=>?_));have g:=kp S _ (λz=>f (W.sub _ z)) D;refine kE (m:=updateSeq S (λ_=>#[])) (wpAny_updateSeq g rfl (kE (wpAny_letGo (kF ?_))));exact K q h _ J N i λb o u E e=>(Heap.get?_update_other _ _ E.symm).trans (kp b o u e)
 | k+1,j,q,s,h,c,hk,Z,r,N,i,D,K=>by
   have L:j<n:=by omega
   refine codeAny_builtin F.entry_min_loop ?_;rw [Around.under_plainId F.plain_min_loop _];refine kE (m:=seqItems? (.ref S)) (wpAny_seqItems D rfl ?_);refine kE (m:=tryCatch (pyNext (.ref I)) _) (wpAny_tryCatch (W.item j s _ _ L r λv H J X p kp=>?_));have g:=kp S _ (λz=>f (W.sub _ z)) D;refine kE (m:=tryCatch (holding [v,v] (richCompare .Lt v h >>= _)) _) (wpAny_tryCatch (wpAny_holding (kE (a j q v h _ _ _ X i ?_))));refine kE (wpAny_holding (wpAny_truthy_bool (kE (wpAny_letGo (kF ?_)))));have Y:(toString "min" ++ toString ".loop" : String) = "min.loop" := by decide
   cases G j q with
   | true=>
     simp only [if_true];refine kE (wpAny_updateSeq g rfl (kE (wpAny_letGo ?_)));rw [Y];refine kF ⟨plainId_quiet F.plain_min_loop _,MC W G a S f k (j+1) j _ v _ ⋯ ⋯ (W.frame _ _ _ p λb hb o e=>(Heap.get?_update_other _ _ (λz:S=b=>f (by rw [z];exact hb))).trans e) L X (Heap.get?_update_self _ g rfl) λO Q E x y B C=>?_⟩;exact K O Q E x y B λb o u M e=>C b o u M ((Heap.get?_update_other _ _ M.symm).trans (kp b o u e))
   | false=>
     simp only [Bool.false_eq_true,if_false];refine kE (wpAny_letGo ?_);rw [Y];exact kF ⟨plainId_quiet F.plain_min_loop _,MC W G a S f k (j+1) q _ h c ⋯ ⋯ p N i g λO Q E x y B C=>K O Q E x y B λb o u M e=>C b o u M (kp b o u e)⟩
def ZY (W:Walks prog w A.in1 I fp wr n P St) (B:Nat->Nat->Bool) (f:CmpOf prog w A.in1 .Lt P B) (S:Addr) (a:S∉fp) {s:Shared} {c:Nat} (g:St 0 s.heap)
  (C:s.heap.get? S=some { cls:=.type "list", dict:=none,data:=.seq #[] c,slots:=#[] })
  (D:∀ v h k,(n=0/\v=d\/∃ q,q<n/\P q v)->(∀ b o,b∉wr->b≠S->s.heap.get? b=some o->h.get? b=some o)->R (.ok (.ret v)) { s with heap:=h,toks:=k }) :
  codeAny (model prog w) A (.builtin "min.loop" ⟨[.ref I,.none,.ref S],[("default", d)]⟩) R s:=by
 refine codeAny_builtin F.entry_min_loop ?_;rw [Around.under_plainId F.plain_min_loop _];refine kE (m:=seqItems? (.ref S)) (wpAny_seqItems C rfl ?_);rcases Ce n with z | z
 ·refine kE (m:=tryCatch (pyNext (.ref I)) _) (wpAny_tryCatch (W.done s _ _ (z ▸ g) λh k kp=>?_));refine kE (wpAny_rule (kF ?_));exact D d h k (.inl ⟨z,rfl⟩) λb o p _ e=>kp b o p e
 ·refine kE (m:=tryCatch (pyNext (.ref I)) _) (wpAny_tryCatch (W.item 0 s _ _ z g λv h k J i kp=>?_));have j:=kp S _ (λz=>a (W.sub _ z)) C;have K:(toString "min" ++ toString ".loop" : String) = "min.loop" := by decide
  refine kE (m:=updateSeq S (λ_=>#[v,v])) (wpAny_updateSeq j rfl ?_);rw [K];refine kF ⟨plainId_quiet F.plain_min_loop _,MC W B f S a _ 1 0 _ v _ rfl z (W.frame _ _ _ i λb L o e=>(Heap.get?_update_other _ _ (λz:S=b=>a (by rw [z];exact L))).trans e) z J (Heap.get?_update_self _ j rfl) λM N O r u x y=>?_⟩;exact D N O r (.inr ⟨M,u,x⟩) λb o p H e=>y b o p H ((Heap.get?_update_other _ _ H.symm).trans (kp b o p e))
end
def ZZ (a v:Value):argsOk "min" ⟨[a],[("default", v)]⟩:=by unfold argsOk;kernel_rfl
section
variable {X:Cx} {e:Expr} {te:TE} {p pos kp1 kp2:Pos} {kk:Nat}
def Zb (S:X.calm=true) (T:X.mg "min" = none) (U:bootBuiltins "min" = some (.builtin "min")) (Y:PE X e te) (Z:Gl X "min" := by rfl)
  (hs:starEach [e] X.env=(false,eval e X.env)::starEach [] X.env:=by rfl) (k:backTo pos (starEach [e] X.env)=(false,eval e X.env)::backTo pos (starEach [] X.env):=by rfl):PE X (.Call (.Name "min" p) [e] [⟨some "default", .Constant (.int 0) kk kp1,kp2⟩] pos) (Ly te):=by
 intro f s L H Q I h;refine wpAny_Call_Name_kw (Em I Z T U ?_ ∅ ∅);refine PyProof.Rows.callWith_kw ?_ k (by rw [k];rfl);rw [k];refine Calls.spliced_cons (E_ (Y f s L H _ I h) λu s1 ⟨x,M,I1,r1,q1⟩=>Calls.spliced_nil ?_);have kw:PK X [⟨some "default", .Constant (.int 0) kk kp1,kp2⟩] (AA (tC (.int 0)) AC):=WV AF WU;refine E_ (kw pos f s1 L M (λvs N=>vs=[.int 0]/\N=M) I1 ⟨rfl,rfl⟩) λws c ⟨zs,N,r,rz,ez,eh⟩=>?_;subst ez eh;obtain ⟨z,rfl,t,rfl⟩:=EQ rz;obtain ⟨l,O,rfl,hl,q⟩:=q1;cases r1;obtain ⟨d,y,B,hz⟩:=r.list (SqL.of hl);have a0:O.length=d.length:=by have:=y.length;simpa using this
 have nm:(toString "min" ++ toString ".loop" : String) = "min.loop" := by decide
 refine kmb_tree F.kind_min F.plain_min F.entry_min (ZZ _ _) ?_;refine kE (m:=Builtin.Builtins.bindParams "min" ["key", "default"] 0 ⟨[],[("default", Value.int 0 t)]⟩) (wpAny_of_eq (a:=[none,some (Value.int 0 t)]) rfl ?_);refine kE (kF (kE (wpAny_pyIter_list B.isList ?_)));refine kE (wpAny_newObj_type ?_);rw [nm];have C:l<c.heap.objs.size:=B.lt;have P:(c.heap.push { cls:=.type "list_iterator", data:=.fields #[.ref l,.int 0 0] }).objs.size=c.heap.objs.size+1:=Heap.size_push ..;have W:=Walks.list (prog:=X.prog) (w:=X.w) (A:=X.A.in1) (show X.A.in1.handled=none from r.ok.hd S) c.heap.objs.size l (Bv C) d.toArray;refine kF ⟨plainId_quiet F.plain_min_loop _,ZY W _ (CmpOf.ints_lt (λi=>O.getD i 0) λi v D=>?_) _ ?_ ⟨⟨_,Heap.get?_push_of_some _ (Heap.get?_push_size _ rfl),rfl,rfl⟩,(B.isList.push _).push _⟩ (Heap.get?_push_size _ rfl) λv g tk E gk=>?_⟩
 ·obtain ⟨n,G,J,rfl⟩:=Ik y (show d[i]?=some v by simpa using D);exact ⟨G,by rw [AU,J];rfl⟩
 ·rw [P]
  have:¬ (c.heap.objs.size+1=c.heap.objs.size\/c.heap.objs.size+1=l):=λz=>by
   rcases z with z | z
   ·exact absurd z (Nat.succ_ne_self _)
   ·rw [<-z] at C;exact absurd C (Nat.not_lt.mpr (Nat.le_succ _))
  simpa using this
 ·have K:∀ b o,c.heap.get? b=some o->g.get? b=some o:=λb o e=>by
   have j:b<c.heap.objs.size:=kI e;refine gk b o (λz=>?_) (λz=>?_) (Heap.get?_push_of_some _ (Heap.get?_push_of_some _ e))
   ·rw [B7.mp z] at j;exact absurd j (DH _)
   ·rw [z,P] at j;exact absurd j (Nat.not_lt.mpr (Nat.le_succ _))
  have R:=r.kept (t':=tk) K;rcases E with ⟨z,rfl⟩ | ⟨i,hi,D⟩
  ·exact ⟨.int 0,_,R,⟨t,rfl⟩,q 0 (.inl ⟨CA.mp (by rw [BK] at z;omega),rfl⟩)⟩
  ·obtain ⟨n,G,J,rfl⟩:=Ik y (show d[i]?=some v by simpa using D);exact ⟨.int n,_,R,⟨G,rfl⟩,q n (.inr (Bj J))⟩
end
end Bs
namespace Bs
open PySem L2
def sS (K:W.Frag):V->Option Int->Option Int->Hp->VK->Prop:=λx lo c H Q=>∃ a b,x=.ref a/\SqL K H a b/\∀ p,H p=none->Q (.ref p) (upd H p (.lst (CN b lo c)))
def MD:dj->Hp->VK->Prop:=λb H Q=>∃ (p:Addr) (a:dq),b=[.ref p]/\H p=some (.lst (a.map V.int))/\Q (.int a.sum) H
end Bs
namespace Bs
open PySem PySem.Spec PyProof.Rows L2
section
variable {X:Cx}
def Zc:OpR X (inplaceOp .FloorDiv) ET:=by
 intro a s g H x y v u Q I b c ⟨i,j,d,e,f,q⟩;subst d e;obtain ⟨t,rfl⟩:=b;obtain ⟨h,rfl⟩:=c;exact ifloordiv_int f ⟨.int (i.fdiv j),H,I.tok _,⟨_,rfl⟩,q⟩ (Or.inr (I.ok.plr s I.bk))
def Zd:OpR X (inplaceOp .FloorDiv) FC:=by
 intro a s c H x y v u Q I d e ⟨i,j,f,g,h,q⟩;have b:0<j:=h;replace q:Q (.int (i / j)) H:=q;rw [<-Ee i (De b)] at q;exact Zc a s c H x y v u Q I d e ⟨i,j,f,g,AV b,q⟩
def Ze:cH X (sS X.K):=Ot
theorem PV (ns:dq):∀ k,k<=ns.length->preSum (λi=>ns.getD i 0) k=(ns.take k).sum
 | 0,_=>rfl
 | k+1,h=>by
   have e:ns.take (k+1)=ns.take k++[ns.getD k 0]:=by
    rw [FW,AU,Az ⋯];rfl
   show preSum _ k+_=_;rw [e,PV ns k ⋯,List.sum_append];simp
def Zf (j:X.calm=true):CY X (.builtin "sum") MD:=λf s E H F G Q I r ⟨p,a,e,hp,q⟩=>by
 subst e;obtain ⟨u,rfl,k⟩:=EQ r;cases k;obtain ⟨c,h,d,J⟩:=I.list (SqL.of hp);have m:a.length=c.length:=by have:=h.length;simpa using this
 refine call_sum_walkG (wpAny_pyIter_list d.isList ⟨s.heap.objs.size,[s.heap.objs.size,p],[s.heap.objs.size],c.toArray.size,_,_,λi=>a.getD i 0,rfl,Walks.list (A:=X.A.in1) (show X.A.in1.handled=none from I.ok.hd j) s.heap.objs.size p (Bv d.lt) _,⟨⟨_,Heap.get?_push_size _ rfl,rfl,rfl⟩,d.isList.push _⟩,?_,?_,λg K t w=>?_⟩)
 ·intro b x;have z:b=s.heap.objs.size\/b=p:=by simpa using x
  rcases z with z | z
  ·rw [z];exact kI (Heap.get?_push_size _ rfl)
  ·obtain ⟨o,_,y,_⟩:=d;rw [z];exact kI (Heap.get?_push_of_some _ y)
 ·intro i v B;obtain ⟨n,t,C,rfl⟩:=Ik h (show c[i]?=some v by simpa using B);have e:a.getD i 0=n:=by rw [AU,C];rfl
  exact ⟨t,by show Value.int n t=Value.int (a.getD i 0) t;rw [e]⟩
 ·have D:∀ b o,s.heap.get? b=some o->g.get? b=some o:=λb o e=>w b o (λz=>absurd (kI e) (by rw [B7.mp z];exact DH _)) (Heap.get?_push_of_some _ e);refine ⟨.int a.sum,H,I.kept D,⟨t,?_⟩,q⟩;have e:=PV a a.length (AT _);rw [DS] at e;rw [BK,<-m,e]
end
end Bs
namespace Bs
open PySem L2
def Zg (n:Nat) (t:aQ):TG:=λv c H Q=>∃ a b,v=.ref a/\H a=some (.lst b)/\b.length=n/\t b c H Q
end Bs
namespace Bs
open PySem PySem.Spec PyProof.Rows L2
def Zh {m n:Nat} {a b:Int} (c:Bd m a) (d:Bd n b) (h:m+n<=134217728):IntMulOk a b:=IntMulOk.of_le (O7 c) (O7 d) h
end Bs
namespace Bs
open PySem L2
def Zi (i j k:Nat) (b:TA):TS:=λD a H=>b a H λc d=>∃ u v w,c=[u,v,w]/\D.nx (((a.set i (some u)).set j (some v)).set k (some w)) d
end Bs
namespace Bs
open PySem PySem.Spec PyProof.Rows L2
section
variable {X:Cx} {pins:dC} {σ:L2.St} {H:Hp} {s:Shared} {N:dH} {capt:List (Option Nat)} {scope:Scope} {cl:List (Str×Addr)} {C:Addr} {fp:dJ}
def ME:TT:=λ_ H Q=>Q true H
def cM (X:Cx) (cs:dF) (tc:TT):Prop:=∀ (pins:dC) (s:Shared) (σ:L2.St) (H:Hp) (Q:Bool->Hp->Prop),Inv X pins σ H s->tc σ H Q->
 wpAny (model X.prog X.w) X.A (forIn cs true λc r=>if r=true then do let ok <-isTrue c X.env (eval c X.env);pure (ForInStep.yield ok) else pure (ForInStep.yield r)) (λb d=>∃ a,Inv X pins σ a d/\Q b a) X.xe s
def PZ {X:Cx}:cM X [] ME:=λ_ s _ H _ I h=>wpAny_tests_nil ⟨H,I,h⟩
def Zj {X:Cx} {c:Expr} {tc:TT} (h:L2.PT X c tc):cM X [c] tc:=λpins s σ H Q I q=>wpAny_tests_one (h pins s σ H Q I q)
theorem Zk {prog:Program} {w:World} {A:Around} {R:Result->Shared->Prop} {s:Shared} {y a i:Expr} {cs:dF} {scope:Scope} {E:Pos} {M z:Value} {b:Env} (I:Nat->Shared->Prop)
  (F:∀ n s,I n s->wpAny (model prog w) A (pyNext M) (λr d=>match r with
   | none=>R (.ok .next) d
   | some v=>wpAny (model prog w) A (letOwnedTupleGo a M v) (λ_ j=>wpAny (model prog w) A (assign a b v) (λ_ k=>wpAny (model prog w) A (forIn cs true λc r=>if r=true then do let ok <-isTrue c b (eval c b);pure (ForInStep.yield ok) else pure (ForInStep.yield r)) (λB g=>if B=true then wpAny (model prog w) A (eval y b) (λx o=>
     wpAny (model prog w) A (call (.builtin "list.append") [z,x]) (λ_ p=>∃ m,m<n/\I m p) (λ_ _=>False) o) (λ_ _=>False) g else ∃ m,m<n/\I m g) (λ_ _=>False) k) (λ_ _=>False) j) (λ_ _=>False) d) (λ_ _=>False) s)
  (n:Nat) (h:I n s):codeAny (model prog w) A (.compLoop (.ListComp y [⟨a,i,cs,0⟩] scope E) 0 M z b) R s:=by
 refine codeAny_loop rfl I (λn s P=>?_) n h;show wpAny _ A ((compTurn (.ListComp y [⟨a,i,cs,0⟩] scope E) 0 M z b).onRaise (λx=>do noteFrame x b;theTreesLotGoes x)) _ _ s;refine wpAny_noted ?_;rw [compTurn_list];have D:∀ {Q:dw} (e:Value) (O:Shared),(λ(_:Value) (_:Shared)=>False) e O->Q e O:=λ_ _ f=>f.elim;refine kE (wpAny_standAt (kE (kG (F n s P) (λr d q=>?_) D)));cases r with
 | none=>exact kF q
 | some v=>
   refine kE (kG q (λ_ j G=>?_) D);refine kE (kG G (λ_ g J=>kE (kG J (λB k u=>?_) D)) D);cases B with
   | false=>exact kF ⟨rfl,u⟩
   | true=>exact kE (kE (kG u (λx o K=>kE (kG K (λ_ p L=>kF (kF ⟨rfl,L⟩)) D)) D))
def MF {a4 A tg:Expr} {cs:dF} {tc:TT} {aj:Pos} {wi:TI} {g:TG} {te:TE} {pins:dC} {s:Shared} {σ:L2.St} {H:Hp} {Q:VK} (RR:Value->Addr->Result->Shared->Prop) (hc:X.calm=true) (B:BlkOk X N capt scope cl) (hi:PI X tg A wi)
  (hg:∀ C s H fp,PG (X_ X N scope cl C s H fp) tg g) (ht:∀ C s H fp,cM (X_ X N scope cl C s H fp) cs tc) (he:∀ C s H fp,PE (X_ X N scope cl C s H fp) a4 te) (I:Inv X pins σ H s) (h:HU wi capt g tc te σ H Q)
  (bf:∀ (D C:Addr) (Z:Shared) (Hq:Hp) (m:dE),Inv X pins σ Hq Z->Q (.ref D) Hq->Z.heap.Ns C m->Hq C=none->C≠X.env.locals->X.s₀.heap.objs.size<=C->(∀ x c,X.env.cells.lookup x=some c->c≠C)->(∀ p∈X.pn++pins,p.1≠C)->RR (.ref D) C (.ok .next) Z) :
  wpAny (model X.prog X.w) X.A (eval A X.env) (λx al=>wpAny (model X.prog X.w) X.A (pyIter x) (λit am=>wpAny (model X.prog X.w) X.A (newList []) (λan ao=>
   wpAny (model X.prog X.w) X.A (newFunctionEnv scope X.env.globals cl [] X.env.qual none .none (some X.env)) (λa0 ar=>
    codeAny (model X.prog X.w) X.A (.compStart (.ListComp a4 [⟨tg,A,cs,0⟩] scope aj) 0 it an { a0 with scope:=relabel scope X.env }) (RR an a0.locals) ar) X.xe ao) X.xe am) X.xe al) X.xe s:=by
 refine E_ (hi pins s σ H _ I h) λv s1 h1=>E_ h1 λbv d h2=>?_;obtain ⟨it,fp,tn,J,M,e,E,T,a6,S,n0,W,w0,az⟩:=h2;subst e;have fl:∀ b∈fp,b<d.heap.objs.size:=λb a=>by obtain ⟨o,e,_⟩:=T.obj _ _ a6 b a;exact kI e
 refine wpAny_newObj_type (wpAny_newFunctionEnv B.nocell (by intro y hy;simp at hy) (λF w j=>?_) B.kind);dsimp only at w j ⊢;generalize hG:d.heap.push { cls:=.type "list", dict:=none,data:=.seq ([]:du).toArray }=G at w j ⊢;have hC:G.objs.size=d.heap.objs.size+1:=by rw [<-hG,Heap.size_push]
 have K:d.heap.objs.size<=G.objs.size:=by rw [hC];exact Nat.le_succ _
 have U:d.heap.objs.size≠G.objs.size:=by rw [hC];exact Bv (EE _)
 have ab:∀ b o,d.heap.get? b=some o->F.get? b=some o:=λb o e=>j.extBut b o (by rw [hC];exact Bv (Nat.lt_succ_of_lt (kI e))) (Heap.get?_push_of_some _ (hG ▸ Heap.get?_push_of_some _ e));have b0:F.get? d.heap.objs.size=some { cls:=.type "list", data:=.seq ([]:du).toArray }:=j.extBut _ _ U (Heap.get?_push_of_some _ (hG ▸ Heap.get?_push_size _ rfl));have ac:=O9 B E S fl K
 have bg:d.heap.objs.size∉aw X.stack:=λa=>by
  rcases D8.mp (E.stkSub _ a) with z | z
  ·exact absurd E.lt (by rw [<-z];exact DH _)
  ·exact E.nofs (AT _) z
 have bi:∀ x c,cl.lookup x=some c->c≠d.heap.objs.size:=λx c e z=>by
  obtain ⟨v,q⟩:=E.cell x c (B.cells x c e);exact absurd q.lt (by rw [z];exact DH _)
 have b1:∀ b∈fp,d.heap.objs.size≠b:=λb a z=>absurd (fl b a) (by rw [<-z];exact DH _);have b2:Inv (X_ X N scope cl G.objs.size d M fp) [] (Ci capt σ) M { d with heap:=F,toks:=d.toks+([]:List (Str×Value)).length }:=Y5 B E S fl K w ab
 have a3:codeAny (model X.prog X.w) X.A (.compLoop (.ListComp a4 [⟨tg,A,cs,0⟩] scope aj) 0 (.ref it) (.ref d.heap.objs.size) (compEnvC scope cl G.objs.size X.env))
   (RR (.ref d.heap.objs.size) G.objs.size) { d with heap:=F,toks:=d.toks+([]:List (Str×Value)).length }:=by
  refine Zk (λn s'=>∃ (i:Nat) (Y:dj) (f:du) (k:Nat) (O:Hp),Inv (X_ X N scope cl G.objs.size d M fp) [] (Ci capt σ) O s'/\s'.heap.get? d.heap.objs.size=some { cls:=.type "list", data:=.seq f.toArray k }/\Vals Y f/\
   O d.heap.objs.size=none/\tn i s'.heap/\(∀ b∈fp,O b=none)/\W i Y O/\n=n0 - i) ?_ n0 ⟨0,[],[],0,M,b2,b0,.nil,E.hok.fresh (AT _),T.keep _ _ _ a6 (λb _ o e=>ab b o e),λb a=>(S b a).1,w0,rfl⟩
  rintro n s3 ⟨i,Y,f,k,O,I3,hD,hv,nD,b3,b4,w3,en⟩;obtain ⟨_,hl,b5⟩:=az i Y O w3;have hz:f.toArray.size<=sizeLine:=by rw [BK,<-hv.length];exact hl
  have b6:Inv (X_ X N scope cl G.objs.size d M fp) [(d.heap.objs.size,{ cls:=.type "list", data:=.seq f.toArray k })] (Ci capt σ) O s3:=I3.pins_of λp hp=>by
   rw [B7] at hp;subst hp;exact ⟨hD,nD,U,bg,λv z=>nomatch z⟩
  have ad:∀ {Hx:Hp} (_:∀ b∈fp,Hx b=none),∀ b∈fp,DW (X_ X N scope cl G.objs.size d M fp) [(d.heap.objs.size,{ cls:=.type "list", data:=.seq f.toArray k })] Hx b:=λhx b a=>
   ⟨hx b a,(ac.exf b a).1,ac.exfs b a,.inl a,(ac.exf b a).2,λp hp=>by
    have b7:p∈[((d.heap.objs.size,{ cls:=.type "list", data:=.seq f.toArray k }):Addr×Obj)]:=hp;rw [B7] at b7;subst b7;exact b1 b a⟩
  rcases b5 with ⟨b8,q⟩ | ⟨bw,go,bl⟩
  ·refine E_ (T.done (X_ X N scope cl G.objs.size d M fp) rfl rfl rfl hc i _ s3 _ O _ b6 (ad b4) b3 b8) λr Z ⟨hr,I4⟩=>?_;subst hr;have bm:=(I4.pin (d.heap.objs.size,{ cls:=.type "list", data:=.seq f.toArray k }) (DQ _ (B7.mpr rfl))).1;obtain ⟨m,hn,_⟩:=I4.loc;have P:∀ b u,O b=some u->b≠d.heap.objs.size:=λb u e z=>by rw [z,nD] at e;cases e
   have b9:∀ b o,d.heap.get? b=some o->b≠d.heap.objs.size:=λb o e=>Bv (kI e);have ub:Un (aw X.stack) fp M O d.heap Z.heap:=I4.base;have cC:∀ b,b<d.heap.objs.size->b≠G.objs.size:=λb a z=>absurd (CP a K) (by rw [z];exact DH _)
   refine bf _ G.objs.size Z (upd O d.heap.objs.size (.lst Y)) m ?_ (q _ nD) hn (by rw [A8 (λz=>U z.symm)];exact I4.free) (λz=>cC _ E.lt z.symm) (A7 E.sz K)
    (λx c e=>by obtain ⟨v,q⟩:=E.cell x c e;exact cC _ q.lt) λp hp=>cC _ (kI (E.pin p hp).1)
   refine E.call' (ch:=fp) (s':=Z) I4.os ?_ ?_ I4.bare λb a=>⟨(S b a).2.2.2.1,(S b a).2.1,(S b a).2.2.2.2.1,(S b a).2.2.2.2.2⟩
   ·refine ⟨ub.keep,ub.slot,λb o e n hx=>?_,ub.there,λb xs e=>?_,λb o u e=>?_,λb ps e=>?_⟩
    ·rw [A8 (b9 b o e)];exact ub.free b o e n hx
    ·have z:=ub.tups b xs e;rw [A8 (P b _ z)];exact z
    ·have z:=ub.frzs b o u e;rw [A8 (P b _ z)];exact z
    ·obtain ⟨ba,z⟩:=ub.tbls b ps e;exact ⟨ba,by rw [A8 (P b _ z)];exact z⟩
   ·intro b u e;by_cases a:b=d.heap.objs.size
    ·subst a;rw [upd_same] at e;cases e;exact ⟨hl,f,k,hv,bm⟩
    ·rw [A8 a] at e;exact (I4.hok b u e).stay (λc v _ q=>q) (λc q=>by rw [A8 (P c _ q)];exact q) λc xs q=>by rw [A8 (P c _ q)];exact q
  ·refine E_ (T.item (X_ X N scope cl G.objs.size d M fp) rfl rfl rfl hc i _ s3 _ O _ b6 (ad b4) b3 go) λr Z ⟨u,hr,h4⟩=>?_;subst hr;refine E_ h4 λ_ s5 ⟨x,H5,I5,r5,y5,R,bn⟩=>?_;have bp:=I5.pinned (ad bn) (T.obj _ _ R);refine E_ (hg _ _ _ _ _ s5 _ H5 x u _ bp r5 (bl x H5 y5)) λ_ s6 ⟨L,H6,I6,q6⟩=>?_;refine E_ (ht _ _ _ _ _ s6 L H6 _ I6 q6) λbq s9 ⟨H9,I9,q9⟩=>?_
   have bb:∀ b∈fp,∀ o,s5.heap.get? b=some o->s9.heap.get? b=some o/\H9 b=none:=λb a o e=>by
    have z:=I9.pin (b,o) (DQ _ (DQ _ (Jr a e)));exact ⟨z.1,z.2.1⟩
   cases bq with
   | false=>
     have w9:W (i+1) Y H9:=q9;have bc:=I9.pin (d.heap.objs.size,{ cls:=.type "list", data:=.seq f.toArray k }) (DQ _ (List.mem_append_left _ (B7.mpr rfl)));have br:Inv (X_ X N scope cl G.objs.size d M fp) [] L H9 s9:=I9.pins_of λp hp=>nomatch hp
     exact ⟨n0 - (i+1),⋯,i+1,Y,f,k,H9,PB B E S br,bc.1,hv,bc.2.1,T.keep _ _ _ R (λb a o e=>(bb b a o e).1),(λb a=>by
      obtain ⟨o,e,_⟩:=T.obj _ _ R b a;exact (bb b a o e).2),w9,rfl⟩
   | true=>
   replace q9:te L H9 λy H4=>W (i+1) (Y++[y]) H4:=q9;refine E_ (he _ _ _ _ _ s9 L H9 _ I9 q9) λuy s7 ⟨y,H7,I7,r7,w7⟩=>?_;have pD:=I7.pin (d.heap.objs.size,{ cls:=.type "list", data:=.seq f.toArray k }) (DQ _ (List.mem_append_left _ (B7.mpr rfl)))
   have pF:∀ b∈fp,∀ o,s5.heap.get? b=some o->s7.heap.get? b=some o/\H7 b=none:=λb a o e=>by
    have z:=I7.pin (b,o) (DQ _ (DQ _ (Jr a e)));exact ⟨z.1,z.2.1⟩
   refine append_at (hsz:=hz) pD.1 λh8 bd bs=>?_;have bt:Inv (X_ X N scope cl G.objs.size d M fp) [] L H7 s7:=I7.pins_of λp hp=>nomatch hp;have I8:Inv (X_ X N scope cl G.objs.size d M fp) [] L H7 { s7 with heap:=h8,toks:=s7.toks }:=bt.turned (λb o a e=>bd.extBut b o a e) pD.2.1 U (.inr (AT _)) bi (λp hp=>nomatch hp);refine ⟨n0 - (i+1),⋯,i+1,Y++[y],f++[uy],k+1,H7,PB B E S I8,?_,Paired.snoc hv r7,pD.2.1,T.keep _ _ _ R (λb a o e=>bd.extBut b o (b1 b a).symm (pF b a o e).1),λb a=>?_,w7,rfl⟩
   ·show h8.get? _=_;rw [bs,List.push_toArray]
   ·obtain ⟨o,e,_⟩:=T.obj _ _ R b a;exact (pF b a o e).2
 exact codeAny_compStart_list a3 (T.self X.A 0 _ _ _ (T.keep _ _ _ a6 (λb _ o e=>ab b o e)) a3)
def DA {c a d:Expr} {f:Pos} {i:TI} {g:TG} {j:TE} (n:X.calm=true) (B:BlkOk X N capt scope cl) (p:PI X d a i)
  (r:∀ C s H fp,PG (X_ X N scope cl C s H fp) d g) (u:∀ C s H fp,PE (X_ X N scope cl C s H fp) c j)
  (v:∀ x,foldedSetIterable a X.env x=pure x:=by intro _;rfl):PE X (.ListComp c [⟨d,a,[],0⟩] scope f) (Bb i capt g j):=by
 intro pins s σ H Q I h;rw [eval_ListComp];refine wpAny_comprehension_free (use:=none) rfl v B.clos B.kind B.names (MF (cs:=[]) (tc:=ME) (λk C=>compPost (model X.prog X.w) X.A X.xe none (EP X pins σ Q) k C) n B p r (λ_ _ _ _=>PZ) u I (show HU i capt g ME j σ H _ from h) λD C M w m y q z A E F G J=>?_);exact ⟨m,z,λO K=>⟨.ref D,w,y.turned (λb o L e=>K.extBut b o L e) A E (.inr F) G J,rfl,q⟩⟩
def Zl {i:Nat} {x:Str} {c j:Pos} {f d n:Expr} {cs:dF} {tc:TT} {k:Pos} {E:TI} {g:TG} {F:TE} (K:X.N.Nodup) (r:X.N[i]?=some x) (L:aU X.env.scope x) (M:X.calm=true) (B:BlkOk X N capt scope cl) (O:PI X n d E)
  (P:∀ C s H fp,PG (X_ X N scope cl C s H fp) n g) (R:∀ C s H fp,cM (X_ X N scope cl C s H fp) cs tc) (S:∀ C s H fp,PE (X_ X N scope cl C s H fp) f F)
  (u:swapsWith (.ListComp f [⟨n,d,cs,0⟩] scope k) (some (.Name x c)) j.line X.env=pure true)
  (T:∀ x,foldedSetIterable d X.env x=pure x) (U:X.fn x=true\/X.env.scope.names.lookup x=some .local) :
  PS X (.Assign [.Name x c] (.ListComp f [⟨n,d,cs,0⟩] scope k) j) (AM (HU E capt g tc F) (AH i)):=by
 intro pins s σ H D I h;rw [exec_Assign_Name_used _ _ _ _ u];refine kE (wpAny_standAt (kE ?_));show wpAny _ X.A (do let _ <-comprehension (.ListComp f [⟨n,d,cs,0⟩] scope k) scope X.env _ (newList []) false (eval d X.env) (some (assign (.Name x c) X.env))) _ _ s
 refine kE (kG (wpAny_comprehension_free (use:=some (assign (.Name x c) X.env)) (Q:=λ_ p=>SP X pins D .next p) rfl T B.clos B.kind B.names
  (MF (λw C=>compPost (model X.prog X.w) X.A X.xe (some (assign (.Name x c) X.env)) (λ_ p=>SP X pins D .next p) w C) M B O P R S I h λDa C s4 Hq m W q Y y G Z J h4=>?_)) (λ_ p hq=>kF (kF hq)) λ_ _ e=>e)
 show wpAny _ X.A (assign (.Name x c) X.env (.ref Da)) _ _ _;refine wpAny_assign_Name (OY W K r L (v:=.ref Da) rfl (λs5 I5 ⟨a,A,ha⟩=>⟨m,Y.sameBut A ?_,λh' sb=>⟨_,_,I5.turned (λb o hb e=>sb.extBut b o hb e) y G (.inr Z) J h4,q⟩⟩) U);rcases ha with z | z
 ·rw [z];exact G
 ·exact λe=>J x a z e.symm
def HV {i:Nat} {x:Str} {b c:Pos} {d a f:Expr} {e:Pos} {k:TI} {g:TG} {m:TE} (n:X.N.Nodup) (h:X.N[i]?=some x) (o:aU X.env.scope x) (p:X.calm=true) (B:BlkOk X N capt scope cl) (q:PI X f a k)
  (r:∀ C s H fp,PG (X_ X N scope cl C s H fp) f g) (u:∀ C s H fp,PE (X_ X N scope cl C s H fp) d m)
  (j:swapsWith (.ListComp d [⟨f,a,[],0⟩] scope e) (some (.Name x b)) c.line X.env=pure true:=by rfl)
  (v:∀ x,foldedSetIterable a X.env x=pure x:=by intro _;rfl) (w:X.fn x=true\/X.env.scope.names.lookup x=some .local:=by first | exact .inl rfl | exact .inr rfl | assumption) :
  PS X (.Assign [.Name x b] (.ListComp d [⟨f,a,[],0⟩] scope e) c) (AM (Bb k capt g m) (AH i)):=
 Zl n h o p B q r (λC s H fp=>PZ) u j v w
def Zm {d a f c:Expr} {tc:TT} {i:Pos} {k:TI} {g:TG} {n:TE} (p:X.calm=true) (B:BlkOk X N capt scope cl) (r:PI X f a k)
  (u:∀ C s H fp,PG (X_ X N scope cl C s H fp) f g) (v:∀ C s H fp,L2.PT (X_ X N scope cl C s H fp) c tc) (w:∀ C s H fp,PE (X_ X N scope cl C s H fp) d n)
  (y:∀ x,foldedSetIterable a X.env x=pure x:=by intro _;rfl):PE X (.ListComp d [⟨f,a,[c],0⟩] scope i) (HU k capt g tc n):=by
 intro pins s σ H Q I h;rw [eval_ListComp];refine wpAny_comprehension_free (use:=none) rfl y B.clos B.kind B.names (MF (λj C=>compPost (model X.prog X.w) X.A X.xe none (EP X pins σ Q) j C) p B r u (λC s H fp=>Zj (v C s H fp)) w I h λD C P z m A q E F G J K L=>?_);exact ⟨m,E,λR M=>⟨.ref D,z,A.turned (λb o O e=>M.extBut b o O e) F G (.inr J) K L,rfl,q⟩⟩
end
section
variable {X:Cx}
def xI {r:R2} {a:Expr} {c:TE} {n:Int} {j} {q b:Pos} (d:aZ X r) (e:PE X a c):PE X (.Subscript a (.Constant (.int n) j q) b) (A_ r c (tC (.int n))):=BY d e AF (λ_ _=>rfl)
def D_ {i:Nat} {x:Str} {e:Expr} {c:TE} {a b:Pos} (d:X.N.Nodup) (f:PE X e c) (g:X.N[i]?=some x:=by rfl) (h:aU X.env.scope x:=by exact .inl rfl) (j:swapsWith e (some (.Name x a)) b.line X.env=pure false:=by rfl) (k:X.fn x=true\/X.env.scope.names.lookup x=some .local:=by first | exact .inl rfl | exact .inr rfl):PS X (.Assign [.Name x a] e b) (AM c (AH i)):=C6 d g h f j k
def cR {c:CmpOp} {r:R2} {a b:Expr} {e f:TE} {d:Pos} (g:OpR X (compareOp c) r) (h:PE X a e) (i:PE X b f) (j:behindInMarks c b=false:=by exact V_ _):L2.PT X (.Compare a [c] [b] d) (A4 (A_ r e f)):=WI g h i j
variable {n m:Nat} {x:Str} {ps:dH} {sp:Sp} {a b c:Expr} {ta tb tc:TE} {p pos:Pos} (C:Cal X.prog X.w X.K X.mg X.base n x ps sp) (hr:Room m X.A)
include C hr
theorem Cal.q1 (e:PE X a ta) (f:n<=m:=by decide) (g:Gl X x:=by rfl) (h:(x == ("__debug__" : Str))=false:=by decide) (d:starEach [a] X.env=(false,eval a X.env)::starEach [] X.env:=by rfl):PE X (.Call (.Name x p) [a] [] pos) (AE sp [] E0 (AA ta AC)):=C.pe hr f g (AD e AK d) h d rfl
theorem Cal.q2 (e:PE X a ta) (f:PE X b tb) (g:n<=m:=by decide) (h:Gl X x:=by rfl) (i:(x == ("__debug__" : Str))=false:=by decide) (d:starEach [a,b] X.env=(false,eval a X.env)::starEach [b] X.env:=by rfl) (j:starEach [b] X.env=(false,eval b X.env)::starEach [] X.env:=by rfl) (hp:(backTo pos (starEach [b] X.env)).any (·.1)=false:=by rfl):PE X (.Call (.Name x p) [a,b] [] pos) (AE sp [] E0 (AA ta (AA tb AC))):=C.pe hr g h (AD e (AD f AK j) d) i d hp
theorem Cal.q3 (e:PE X a ta) (f:PE X b tb) (g:PE X c tc) (h:n<=m:=by decide) (i:Gl X x:=by rfl) (j:(x == ("__debug__" : Str))=false:=by decide) (d:starEach [a,b,c] X.env=(false,eval a X.env)::starEach [b,c] X.env:=by rfl) (k:starEach [b,c] X.env=(false,eval b X.env)::starEach [c] X.env:=by rfl) (o:starEach [c] X.env=(false,eval c X.env)::starEach [] X.env:=by rfl) (hp:(backTo pos (starEach [b,c] X.env)).any (·.1)=false:=by rfl):PE X (.Call (.Name x p) [a,b,c] [] pos) (AE sp [] E0 (AA ta (AA tb (AA tc AC)))):=C.pe hr h i (AD e (AD f (AD g AK o) k) d) j d hp
end
end Bs
namespace Bs
open PySem PySem.W PyProof.Rows
section
variable {k:dL} {N:Nat} {p:Array Nat}
noncomputable def kp (k:dL) (p:Array Nat) (i:Nat):Int:=k (p.getD i 0)
def Pm (N:Nat) (p:Array Nat):Prop:=p.Perm (List.range N).toArray
end
end Bs
namespace Bs
open PySem L2
noncomputable def stV {a:Type} (xs:List a) (i n:Nat):List a:=(List.range ((xs.length - i+n - 1) / n)).filterMap λm=>xs[i+m*n]?
def Pa (e f g:TE):TE:=λb H Q=>e b H λx h=>E8 f b h λo j=>E8 g b j λu c=>∃ (a:Addr) (i n:Nat) (d:dj),x=.ref a/\o=some (i:Int)/\u=some (n:Int)/\c a=some (.tup d)/\2<=n/\∀ p,c p=none->Q (.ref p) (upd c p (.tup (stV d i n)))
end Bs
namespace HT
open PySem PySem.Spec PyProof.Rows L2
variable {prog:Program} {w:World} {A:Around} {E:dw} {s:Shared}
def Zn (i n m:Nat) (c:2<=n):Builtin.Slice.sliceAdjust (some (i:Int)) none (n:Int) (m:Int)=(((min i m:Nat):Int),(m:Int)):=by
 unfold Builtin.Slice.sliceAdjust;have a:¬ ((n:Int)<0):=by omega
 have b:¬ ((i:Int)<0):=by omega
 simp only [a,b,if_false];refine Prod.ext ?_ rfl;show min (i:Int) (m:Int)=_;omega
def Zo (i n m:Nat) (b:2<=n):Builtin.Slice.slicePlaces ((min i m:Nat):Int) (m:Int) (n:Int)=(m - i+n - 1) / n:=by
 unfold Builtin.Slice.slicePlaces;have a:(n:Int) > 0:=by omega
 simp only [a,if_true];rcases Av i m with c | c
 ·rw [show min i m=i by omega,kA ⋯,show (m:Int) - (i:Int) - 1=((m - i - 1:Nat):Int) by omega,show ((m - i - 1:Nat):Int) / (n:Int)=(((m - i - 1) / n:Nat):Int) from (Int.natCast_ediv ..).symm]
  have:(m - i+n - 1) / n=(m - i - 1) / n+1:=by
   rw [show m - i+n - 1=m - i - 1+n by omega,Nat.add_div_right _ ⋯]
  rw [this];generalize (m - i - 1) / n=q;omega
 ·rw [show min i m=m by omega,lZ ⋯,show m - i+n - 1=n - 1 by omega,Ez ⋯];rfl
def Zp {e:Addr} {c d:Value} {i n m:Nat} {Q:Int×Int×Nat->Shared->Prop} (g:s.heap.IsSliceOf e c .none d) (j:IsPart c (some (i:Int))) (ps:IsPart d (some (n:Int))) (f:2<=n)
  (h:Q (((min i m:Nat):Int),(n:Int),(m - i+n - 1) / n) s):wpAny (model prog w) A (Builtin.Slice.sliceApplied (.ref e) (pure (m:Int))) Q E s:=by
 obtain ⟨os,a,k,b⟩:=id g;unfold Builtin.Slice.sliceApplied Builtin.Slice.sliceFields;refine kE (kE (wpAny_field a b (x:=c) rfl (kE (wpAny_field a b (x:=.none) rfl (kE (wpAny_field a b (x:=d) rfl (kF ?_)))))));refine kE (Oo ps ?_);show wpAny _ _ (if ((n:Int) == 0)=true then _ else _) _ _ s;rw [lZ (λz=>by have:(n:Int)=0:=eq_of_beq z;omega)];refine kE (Oo j (kE (slicePart_none (kE (kF ?_)))));show wpAny _ _ (match Builtin.Slice.sliceAdjust (some (i:Int)) none (n:Int) (m:Int) with | (lo,o)=>pure (lo,(n:Int),Builtin.Slice.slicePlaces lo o (n:Int))) _ _ s;rw [Zn i n m f];show wpAny _ _ (pure (((min i m:Nat):Int),(n:Int),Builtin.Slice.slicePlaces ((min i m:Nat):Int) (m:Int) (n:Int))) _ _ s;rw [Zo i n m f];exact kF h
def Zq (xs:Array Value) (i n:Nat):((List.range ((xs.size - i+n - 1) / n)).filterMap λ(m:Nat)=>xs[(((min i xs.size:Nat):Int)+(m:Int)*(n:Int)).toNat]?).toArray=(Bs.stV xs.toList i n).toArray:=by
 unfold Bs.stV;rw [Array.length_toList];congr 1;rcases Av i xs.size with c | c
 ·refine congrArg (λf=>List.filterMap f _) (funext λm=>?_);rw [show (((min i xs.size:Nat):Int)+(m:Int)*(n:Int)).toNat=i+m*n by rw [show min i xs.size=i by omega,<-Int.natCast_mul,<-Int.natCast_add];rfl];rw [Array.getElem?_toList]
 ·rcases Ce n with z | z
  ·subst z;simp
  ·rw [show (xs.size - i+n - 1) / n=0 by rw [show xs.size - i+n - 1=n - 1 by omega];exact Ez ⋯];rfl
def stV_len {d:Type} (xs:List d) (i n:Nat):(Bs.stV xs i n).length<=xs.length:=by
 unfold Bs.stV;refine A7 (List.length_filterMap_le _ _) ?_;rw [BL];rcases Ce n with z | z
 ·subst z;simp
 ·rcases Av i xs.length with c | c
  ·refine A7 (Nat.div_le_of_le_mul (m:=xs.length - i+n - 1) (n:=xs.length - i) ?_) ⋯;obtain ⟨a,e⟩:∃ a,xs.length - i=a+1:=⟨xs.length - i - 1,⋯⟩;obtain ⟨b,f⟩:∃ b,n=b+1:=⟨n - 1,⋯⟩;rw [e,f];have:(b+1)*(a+1)=a*b+a+b+1:=by ext
   have:0<=a*b:=Ae _;omega
  ·rw [show xs.length - i+n - 1=n - 1 by omega,Ez ⋯];exact Ae _
def getItem_tuple_stp {t d:Addr} {a:Array Value} {k o:Value} {i n:Nat} {Q:dw} (c:IsTup s.heap t a) (p:s.heap.IsSliceOf d k .none o) (v:IsPart k (some (i:Int))) (ps:IsPart o (some (n:Int))) (x:2<=n)
  (h:Q (.ref s.heap.objs.size) { s with heap:=s.heap.push { cls:=.type "tuple", data:=.seq (Bs.stV a.toList i n).toArray } })
  (hsz:a.size<=sizeLine):wpAny (model prog w) A (getItem (.ref t) (.ref d)) Q E s:=by
 have b:sizeOk (.seq (Bs.stV a.toList i n).toArray):=by
  show (Bs.stV a.toList i n).length<=sizeLine;have B:=stV_len a.toList i n;have C:a.toList.length=a.size:=Array.length_toList ..;omega
 obtain ⟨os,e,f,z⟩:=id p;have g:s.TypeIs (.ref d) "slice" := ⟨os,e,f⟩;unfold getItem
 try with_reducible refine wpAny_holding ?_
 first | refine kE (kF ?_) | skip
 refine kE (wpAny_sequenceKey c.typeIs ∅ ?_)
 refine kE (wpAny_callSpecial?_slot (name:=Str.ofString "__getitem__") c.typeIs PyProof.Rows.slot_tuple_getitem
  (wpAny_call_entry PyProof.Rows.slot_tuple_getitem c.typeIs entry_tuple_getitem ?_ (args_tuple_getitem _ _)))
 show wpAny _ _ (Builtin.Tuple.tupleItemsOf (.ref t) >>= _) _ _ s;refine kE (tupleItemsOf_ c ?_);refine kE (wpAny_typeOf g ?_);rw [kA ∅];refine kE (Zp (m:=a.size) p v ps x ?_)
 have j:¬ ((((min i a.size:Nat):Int) == 0 && (n:Int) == 1 && ((a.size - i+n - 1) / n) == a.size)=true):=by
  intro q;rw [Eg,Eg] at q;have D:(n:Int)=1:=eq_of_beq q.1.2;omega
 show wpAny _ _ (if (((min i a.size:Nat):Int) == 0 && (n:Int) == 1 && ((a.size - i+n - 1) / n) == a.size)=true then _ else _) _ _ s;rw [lZ j,Zq]
 first
  | exact kE (m:=Builtin.Tuple.tupleExact _) (wpAny_newObj_type (kF ⟨_,rfl,kF h⟩) b)
  | exact kE (m:=Builtin.Tuple.tupleExact _) (wpAny_newObj_type (kE (kF (kF ⟨_,rfl,kF h⟩))) b)
end HT
namespace Bs
open PySem PySem.Spec PyProof.Rows L2
theorem Vals.stV {xs:dj} {a:du} (r:Vals xs a) (i n:Nat):Vals (stV xs i n) (stV a i n):=by
 have e:=r.length;unfold Bs.stV;rw [<-e];generalize (xs.length - i+n - 1) / n=k;generalize List.range k=b
 induction b with
 | nil=>exact .nil
 | cons m b d=>
   rcases Av (i+m*n) xs.length with c | c
   ·obtain ⟨u,f,g⟩:=r.get (Az c);rw [FT,FT,Az c,f];exact .cons g d
   ·rw [FT,FT,Bf c,Bf ⋯];exact d
def Zr {X:Cx} {e lo st:Expr} {B C D:TE} {E m:Pos} (L:PE X e B) (M:PE X lo C) (p:PE X st D):PE X (.Subscript e (.Slice (some lo) none (some st) E) m) (Pa B C D):=by
 intro c s f H Q I h;refine Subscript_ (E_ (L c s f H _ I h) λv N ⟨x,O,P,R,S⟩=>?_);refine wpAny_Slice (E_ (GV M c N f O _ P S) λF T ⟨o,U,W,Y,Z⟩=>?_);rw [evalPart_none];refine kF (E_ (GV p c T f U _ W Z) λG d ⟨u,H3,I3,pk,q3⟩=>?_);obtain ⟨a,i,n,w,rfl,rfl,rfl,hx,n2,q⟩:=q3;have y:Inv X c f H3 { d with heap:=d.heap.push { cls:=.type "slice", data:=.fields #[F,.none,G] } }:=I3.kept (t':=d.toks) λb ob q=>Heap.get?_push_of_some _ q;cases R;obtain ⟨A,r,J,K⟩:=y.tuple (SqT.of hx);have k:A.toArray.size=w.length:=by rw [BK];exact r.length.symm
 show wpAny (model X.prog X.w) X.A (subscriptTail e (.Slice (some lo) none (some st) E) (.ref a) (.ref d.heap.objs.size)) (EP X c f Q) X.xe { d with heap:=d.heap.push { cls:=.type "slice", data:=.fields #[F,.none,G] } };refine tail_any (ops:=[.ref a,.ref d.heap.objs.size]) J.typeIs PyProof.Rows.slot_tuple_getitem.lookup ?_ (by with_unfolding_all rfl);refine HT.getItem_tuple_stp J (Heap.IsSliceOf.new ..) Y pk n2 ?_ (by rw [k];exact K);refine ⟨.ref _,_,y.laid (t':=d.toks) (o:=.tup (stV w i n)) (λb ob q=>Heap.get?_push_of_some _ q) (AT _) ?_,rfl,q _ (y.hok.fresh (AT _))⟩;exact ⟨A7 (HT.stV_len w i n) K,_,Vals.stV r i n,IsTup.new _ _⟩
end Bs
namespace Bs
open PySem L2
def aI (K:W.Frag):R2:=λx y H Q=>∃ p i a v,x=.ref p/\y=.int i/\SqT K H p a/\N_ a i=some v/\Q v H
def Zs (K:W.Frag):R2:=λx y H Q=>∃ a k b,x=.ref a/\y=.int k/\SqT K H a b/\b≠[]/\1<=k/\k<2 ^ 62/\b.length*k.toNat<=sizeLine/\
 (k=1->Q (.ref a) H)/\(2<=k->∀ p,H p=none->Q (.ref p) (upd H p (.tup (List.replicate k.toNat b).flatten)))
end Bs
namespace Bs
open PySem PySem.Spec PyProof.Rows L2
open Builtin
def MG:fillsNumberSlot (.type "tuple") "mul" = pure false:=
 PySem.fillsNumberSlot_seq (id := "tuple.__mul__") (r:=some (.builtin "tuple.__rmul__")) F.slot_tuple_mul.lookup (by decide +kernel) F.slot_tuple_rmul.lookup (by decide +kernel)
def MH:seqRepeat? (.type "tuple")=pure (some (.builtin "tuple.__mul__")):=by
 unfold seqRepeat?;rw [PySem.seqSlot_of (T := "tuple") (name := "__mul__") (id := "tuple.__mul__") F.slot_tuple_mul.lookup (by decide +kernel),PySem.seqSlot_of (T := "tuple") (name := "__rmul__") (id := "tuple.__rmul__") F.slot_tuple_rmul.lookup (by decide +kernel)];rfl
def MI (a:Int) (t:Tok) (l:Addr) (b:Array Value) (n:Nat) (e:Option Addr) (f:Array (dI)) :
  Meets (Builtin.«int.__rmul__» ⟨[.int a t,.ref l],[]⟩) (λ_ R s=>s.heap.get? l=some ⟨.type "tuple", e,.seq b n,f⟩/\R (.ok (.ret Value.notImplemented)) s):=
 .of_wp λc w A R s h=>by obtain ⟨hp,g,d,i,os⟩:=s;obtain ⟨j,h⟩:=h;wp_walk;exact ⟨_,rfl,h⟩
def Zu (t:Tok) (l:Addr) (c:Option Addr) (e:Array (dI)) (a:Array Value) (n:Nat) :
  Meets (Builtin.«tuple.__mul__» ⟨[.ref l,.int 1 t],[]⟩) (λ_ R s=>s.heap.get? l=some ⟨.type "tuple", c,.seq a n,e⟩/\R (.ok (.ret (.ref l))) s):=
 .of_wp λb w A R s h=>by
  obtain ⟨hp,g,d,f,os⟩:=s;obtain ⟨i,h⟩:=h
  wp_walk
  exact ⟨_,rfl,h⟩
def Zv (a:Int) (t:Tok) (l:Addr) (k:Option Addr) (m:Array (dI)) (b:Array Value) (n:Nat) (u:2<=a) (v:a<2 ^ 62) (f:b.isEmpty=false) (o:¬ ((b.size:Int)*a > (2 ^ 63 - 1) / 8)) (x:¬ Tuple.tupleTooMany (b.size*a)=true) (y:¬ (List.foldl (λc e=>c++e) #[] (List.replicate a.toNat b)).size > sizeLine) :
  Meets (Builtin.«tuple.__mul__» ⟨[.ref l,.int a t],[]⟩) (λ_ R s=>s.heap.get? l=some ⟨.type "tuple", k,.seq b n,m⟩/\R (.ok (.ret (.ref s.heap.objs.size))) { s with heap:=s.heap.push ⟨.type "tuple", none,.seq (List.foldl (λc e=>c++e) #[] (List.replicate a.toNat b)) 0,#[]⟩ }):=
 .of_wp λj w A R s h=>by
  obtain ⟨hp,g,d,z,os⟩:=s;obtain ⟨B,h⟩:=h;have p:(decide (a < -2 ^ 63) || decide (a ≥ 2 ^ 63))=false:=by simp;omega
  have q:(b.isEmpty || a == 1)=false:=by rw [f];simp;omega
  have r:(decide (a<=0) || b.isEmpty)=false:=by rw [f];simp;omega
  wp_walk
  rw [lZ (by rw [p];decide)]
  wp_walk
  rw [lZ (by rw [q];decide)]
  wp_walk
  rw [lZ (by rw [r];decide)]
  wp_walk
  rw [lZ o]
  wp_walk
  exact ⟨_,rfl,h⟩
section
variable {X:Cx}
def Fj:aZ X (aI X.K):=by
 intro a b c s d H x y v u Q I e f h g;obtain ⟨p,i,j,w,k,m,hp,n,q⟩:=h;exact Os a b c s d H x y v u Q I e f ⟨p,j,i,w,k,m,hp,n,q⟩ g
def Zw:OpR X (binaryOp .Mult) (Zs X.K):=by
 intro B s σ H x y v u Q I J K h;obtain ⟨a,k,L,rfl,rfl,M,N,k1,O,C,P,R⟩:=h;cases J;obtain ⟨t,rfl⟩:=K;obtain ⟨d,r,p,_⟩:=I.tuple M;have S:=r.length;have w:d≠[]:=λz=>N (r.nil_iff.mp z);obtain ⟨⟨c,j,dt,m⟩,e,D,n,E⟩:=p;simp only at D E;subst D E;by_cases W:k=1
 ·subst W
  exact wpAny_binaryOp_repeat_ref (T := "tuple") (U := "int") ∅ ⟨_,e,rfl⟩ (λA=>typeIs_int A 1 t) MG F.fills_int_mul F.slot_int_rmul MH F.slot_int_index.lookup
   (call_meets F.slot_int_rmul (typeIs_int s 1 t) F.entry_int_rmul (F.args_int_rmul_2 _ _) (MI 1 t a d.toArray n j m)
    ⟨e,rfl,⟨_,e,rfl⟩,call_meets F.slot_tuple_mul ⟨_,e,rfl⟩ F.entry_tuple_mul (F.args_tuple_mul_2 _ _) (Zu t a j m d.toArray n) ⟨e,⟨.ref a,H,I,rfl,P rfl⟩⟩⟩)
 have i:2<=k:=by omega
 have f:d.toArray.size*k.toNat<=sizeLine:=by rw [BK,<-S];exact C
 have G:List.foldl (λY Z=>Y++Z) #[] (List.replicate k.toNat d.toArray)=(List.replicate k.toNat d).flatten.toArray:=by
  have:=La d k.toNat [];rw [List.nil_append] at this;exact this
 have g:((List.replicate k.toNat d).flatten).length=k.toNat*d.length:=Lc ..;have hint:((d.toArray.size:Nat):Int)*k=((d.toArray.size*k.toNat:Nat):Int):=by rw [Int.natCast_mul,Int.toNat_of_nonneg ⋯]
 have hi:d.toArray.isEmpty=false:=by
  cases d with
  | nil=>exact absurd rfl w
  | cons _ _=>rfl
 have a0:(sizeLine:Nat)<=(2 ^ 63 - 1) / 8:=by decide
 refine wpAny_binaryOp_repeat_ref (T := "tuple") (U := "int") ∅ ⟨_,e,rfl⟩ (λA=>typeIs_int A k t) MG F.fills_int_mul F.slot_int_rmul MH F.slot_int_index.lookup
  (call_meets F.slot_int_rmul (typeIs_int s k t) F.entry_int_rmul (F.args_int_rmul_2 _ _) (MI k t a d.toArray n j m)
   ⟨e,rfl,⟨_,e,rfl⟩,call_meets F.slot_tuple_mul ⟨_,e,rfl⟩ F.entry_tuple_mul (F.args_tuple_mul_2 _ _) (Zv k t a j m d.toArray n i O hi (by rw [hint];omega) (λz=>Nat.not_lt.mpr f (Int.ofNat_lt.mp (show ((sizeLine:Nat):Int)<((d.toArray.size*k.toNat:Nat):Int) by rw [<-hint];exact kC z))) (by rw [G,BK,g,B6];exact Nat.not_lt.mpr f)) ⟨e,?_⟩⟩)
 rw [G];refine ⟨.ref s.heap.objs.size,_,I.laid (t':=s.toks) (o:=.tup (List.replicate k.toNat L).flatten) (λb ob q=>Heap.get?_push_of_some _ q) (AT _) ?_,rfl,R i _ (I.hok.fresh (AT _))⟩;exact ⟨by rw [Lc,B6];exact C,_,r.rep k.toNat,IsTup.new _ _⟩
end
end Bs
namespace Bs
open PySem L2
def Pc (K:W.Frag):R2:=λx y H Q=>∃ a k b,x=.ref a/\y=.int k/\SqT K H a b/\b≠[]/\0<=k/\k<2 ^ 62/\b.length*k.toNat<=sizeLine/\
 (k=1->Q (.ref a) H)/\(k≠1->∀ p,H p=none->Q (.ref p) (upd H p (.tup (List.replicate k.toNat b).flatten)))
end Bs
namespace Bs
open PySem PySem.Spec PyProof.Rows L2
open Builtin
def Zx (t:Tok) (l:Addr) (e:Option Addr) (f:Array (dI)) (a:Array Value) (n:Nat) (i:a.isEmpty=false) :
  Meets (Builtin.«tuple.__mul__» ⟨[.ref l,.int 0 t],[]⟩) (λ_ R s=>s.heap.get? l=some ⟨.type "tuple", e,.seq a n,f⟩/\R (.ok (.ret (.ref s.heap.objs.size))) { s with heap:=s.heap.push ⟨.type "tuple", none,.seq #[] 0,#[]⟩ }):=
 .of_wp λc w A R s h=>by
  obtain ⟨hp,g,d,j,os⟩:=s;obtain ⟨k,h⟩:=h
  wp_walk
  exact ⟨_,rfl,h⟩
section
variable {X:Cx}
def Zy:OpR X (binaryOp .Mult) (Pc X.K):=by
 intro f s K H x y v u Q I i j h;obtain ⟨a,k,L,m,w,A,B,W,M,N,O,C⟩:=h;by_cases P:k=0
 ·subst P m w;cases i;obtain ⟨t,rfl⟩:=j;obtain ⟨d,r,p,_⟩:=I.tuple A;have g:d≠[]:=λz=>B (r.nil_iff.mp z);obtain ⟨⟨c,D,Y,E⟩,e,G,n,J⟩:=p;simp only at G J;subst G J
  have R:d.toArray.isEmpty=false:=by
   cases d with
   | nil=>exact absurd rfl g
   | cons _ _=>rfl
  refine wpAny_binaryOp_repeat_ref (T := "tuple") (U := "int") ∅ ⟨_,e,rfl⟩ (λS=>typeIs_int S 0 t) MG F.fills_int_mul F.slot_int_rmul MH F.slot_int_index.lookup
   (call_meets F.slot_int_rmul (typeIs_int s 0 t) F.entry_int_rmul (F.args_int_rmul_2 _ _) (MI 0 t a d.toArray n D E)
    ⟨e,rfl,⟨_,e,rfl⟩,call_meets F.slot_tuple_mul ⟨_,e,rfl⟩ F.entry_tuple_mul (F.args_tuple_mul_2 _ _) (Zx t a D E d.toArray n R) ⟨e,?_⟩⟩)
  refine ⟨.ref s.heap.objs.size,_,I.laid (t':=s.toks) (o:=.tup []) (λb Z q=>Heap.get?_push_of_some _ q) (AT _) ?_,rfl,C ∅ _ (I.hok.fresh (AT _))⟩;exact ⟨Ae _,_,.nil,IsTup.new _ _⟩
 ·exact Zw f s K H x y v u Q I i j ⟨a,k,L,m,w,A,B,⋯,M,N,O,λc=>C ⋯⟩
end
end Bs
namespace Bs
open PySem L2
def Pd (K:W.Frag):dj->Hp->VK->Prop:=λb H Q=>∃ p a,b=[.ref p]/\SqT K H p a/\Q (.int a.length) H
end Bs
namespace Bs
open PySem PySem.Spec PyProof.Rows L2
def Zz {X:Cx}:CY X (.builtin "len") (Pd X.K):=λa s b H c d Q I r h=>by
 obtain ⟨p,f,e,hp,q⟩:=h;exact Ju a s b H c d Q I r ⟨p,f,e,.inr hp,q⟩
end Bs
namespace Bs
open PySem L2
def MJ (K:W.Frag):R2:=λx y H Q=>∃ a b c d,x=.ref a/\y=.ref b/\SqT K H a c/\SqT K H b d/\c.length+d.length<=sizeLine/\
 (c=[]->Q (.ref b) H)/\(c≠[]->d=[]->Q (.ref a) H)/\(c≠[]->d≠[]->∀ p,H p=none->Q (.ref p) (upd H p (.tup (c++d))))
end Bs
namespace Bs
open PySem PySem.Spec PyProof.Rows L2
open Builtin
section
variable {X:Cx}
def Z1:OpR X (binaryOp .Add) (MJ X.K):=by
 intro d s G H x y v u Q I o p h;obtain ⟨a,b,q,J,r,w,z,A,K,L,M,N⟩:=h;by_cases c:q=[]
 ·subst r w;cases o;cases p;obtain ⟨e,O,P,_⟩:=I.tuple z;obtain ⟨f,Z,R,_⟩:=I.tuple A;have S:e=[]:=O.nil_iff.mpr c;obtain ⟨⟨T,U,B,W⟩,C,D,n,E⟩:=P;obtain ⟨⟨F,k,data2,m⟩,g,i,Y,j⟩:=R;simp only at D E i j;subst D E i j
  exact concat_meets ⟨_,C,rfl⟩ ⟨_,g,rfl⟩ noFill_tuple_add seq_tuple_add PySem.F.slot_tuple_add PySem.F.entry_tuple_add (PySem.F.args_tuple_add_2 _ _)
   (tuple_addW0 a b e.toArray f.toArray n Y U k W m (by simp [S])) ⟨C,g,.ref b,H,I,rfl,L c⟩
 ·exact Wa d s G H x y v u Q I o p ⟨a,b,q,J,r,w,z,A,c,K,M c,N c⟩
end
end Bs
namespace Bs
def Bd.one:Bd 1 1:=by unfold Bd;decide
theorem Bd.pow {b:Nat} {x:Int} (h:Bd b x) (k:Nat):Bd (b*k+1) (x ^ k):=by
 induction k with
 | zero=>rw [DT,Nat.mul_zero];exact Bd.one
 | succ k a=>
   have e:b*(k+1)+1=(b*k+1)+b:=by rw [Nat.mul_add,Nat.mul_one];omega
   rw [Df,e];exact a.mul h
noncomputable abbrev Nu:=Int×Int
abbrev d7:=List Nu
noncomputable def a7 (n m:Int):Nu:=(n / ((Int.gcd n m:Nat):Int),m / ((Int.gcd n m:Nat):Int))
noncomputable def a8 (q r:Nu):Nu:=a7 (q.1*r.2+r.1*q.2) (q.2*r.2)
noncomputable def a9 (q r:Nu):Nu:=a7 (q.1*r.2 - r.1*q.2) (q.2*r.2)
noncomputable def I_ (q r:Nu):Nu:=a7 (q.1*r.1) (q.2*r.2)
def Wo (q:Nu) (n m:Int):Prop:=q.1*m=n*q.2
def Er {n m:Int} (b:0<m):Low (a7 n m).1 (a7 n m).2:=(Le (a:=n) b).1
def J7 {n m:Int} (c:0<m):Wo (a7 n m) n m:=by
 have h:=(Ld (a:=n) (b:=m) (s:=((Int.gcd n m:Nat):Int)) ⋯ (by rw [lZ ⋯])).2.2.2.1;rw [Ee _ ⋯,Ee _ ⋯] at h;exact h
def MK {a b d:Int} (h:Low a b) (e:b∣a*d):b∣d:=by
 have c:Nat.Coprime b.natAbs a.natAbs:=by
  have:Nat.Coprime a.natAbs b.natAbs:=h.one;exact this.symm
 have z:=C5.mpr e;rw [BX] at z;exact C5.mp (c.dvd_of_dvd_mul_left z)
def Pe {a b c d:Int} (f:Low a b) (g:Low c d) (h:a*d=c*b):a=c/\b=d:=by
 have i:b∣d:=MK f ⟨c,by rw [h,Int.mul_comm]⟩;have j:d∣b:=MK g ⟨a,by rw [<-h,Int.mul_comm]⟩;have e:b=d:=Int.dvd_antisymm (De f.pos) (De g.pos) i j;subst e;exact ⟨Int.eq_of_mul_eq_mul_right (AV f.pos) h,rfl⟩
def Pf {q r:Nu} {n m:Int} (c:Low q.1 q.2) (d:Low r.1 r.2) (f:m≠0) (g:Wo q n m) (h:Wo r n m):q=r:=by
 unfold Wo at g h
 have e:q.1*r.2=r.1*q.2:=by
  have z:m*(q.1*r.2)=m*(r.1*q.2):=by ext
  exact Int.eq_of_mul_eq_mul_left f z
 obtain ⟨a,b⟩:=Pe c d e;exact Prod.ext a b
def Z2 {q:Nu} {n m:Int} (c:Low q.1 q.2) (b:0<m) (w:Wo q n m):q.1.natAbs<=n.natAbs/\q.2.natAbs<=m.natAbs:=by
 have e:q=a7 n m:=Pf c (Er b) (AV b) w (J7 b);subst e;exact ⟨(Le (a:=n) b).2.1,(Le (a:=n) b).2.2.1⟩
def Z3 {q r:Nu} (a:0<q.2) (b:0<r.2):Low (a8 q r).1 (a8 q r).2:=Er (CF a b)
def Ph {q r:Nu} (a:0<q.2) (b:0<r.2):Low (a9 q r).1 (a9 q r).2:=Er (CF a b)
def Pi {q r:Nu} (a:0<q.2) (b:0<r.2):Low (I_ q r).1 (I_ q r).2:=Er (CF a b)
def Pj {m:Int} (a:0<m):a7 0 m=(0,1):=Pf (Er a) ⟨∅,∅⟩ (AV a) (J7 a) (by unfold Wo;omega)
noncomputable def Bg (l:d7):Nat->Nat
 | 0=>0
 | m+1=>if (l.getD m (1,1)).1=0 then Bg l m else m+1
noncomputable def trim (l:d7):d7:=l.take (Bg l l.length)
theorem ML (l:d7):∀ m,Bg l m<=m
 | 0=>AT 0
 | m+1=>by
   unfold Bg;split
   ·exact Nat.le_succ_of_le (ML l m)
   ·exact AT _
theorem Pn (l:d7):∀ m,Bg l m=0\/(l.getD (Bg l m - 1) (1,1)).1≠0
 | 0=>.inl rfl
 | m+1=>by
   unfold Bg;split
   ·exact Pn l m
   ·rename_i h;exact .inr h
def Nz (l:d7):Prop:=∀ q,l.getLast?=some q->q.1≠0
def MM {l:d7} (h:Nz l):trim l=l:=by
 unfold trim
 have e:Bg l l.length=l.length:=by
  cases b:l.length with
  | zero=>rfl
  | succ m=>
    unfold Bg;have a:m<l.length:=by omega
    have z:(l.getD m (1,1)).1≠0:=by
     have q:=h l[m] (by rw [FX,b];simp [a]);rw [AU,Az a];exact q
    rw [lZ z]
 rw [e,DS]
def Dx (l:d7):Nz (trim l):=by
 intro q a;unfold trim at a;have b:=ML l l.length;rw [FX,Cd,Nat.min_eq_left b] at a;rcases Pn l l.length with z | z
 ·rw [z] at a;simp at a
 ·by_cases c:Bg l l.length=0
  ·rw [c] at a;simp at a
  ·rw [List.getElem?_take_of_lt ⋯] at a;rw [AU,a] at z;exact z
def DL {l:d7} {q:Nu} (h:q∈trim l):q∈l:=List.mem_of_mem_take h
def Dy (l:d7):(trim l).length<=l.length:=by
 unfold trim;rw [Cd];omega
def AX (l:d7):Prop:=∀ q∈l,Low q.1 q.2
def Z4 (n:Nat) (l:d7):Prop:=∀ q∈l,Bd n q.1/\Bd n q.2
noncomputable def AZ (l:d7) (i:Nat):Nu:=l.getD i (0,1)
noncomputable def FE (f:Nu->Nu->Nu) (l m:d7):d7:=(List.range (max l.length m.length)).map λi=>f (AZ l i) (AZ m i)
def FH:Low 0 1:=⟨∅,∅⟩
theorem CZ {l:d7} (h:AX l) (i:Nat):Low (AZ l i).1 (AZ l i).2:=by
 unfold AZ;rw [AU];cases e:l[i]? with
 | none=>exact FH
 | some q=>exact h q (Bj e)
noncomputable def Aa (l:d7):Int:=l.foldl (λB q=>B*(q.2 / ((Int.gcd B q.2:Nat):Int))) 1
noncomputable def AL (l:d7):dq:=l.map λq=>q.1*(Aa l / q.2)
def MN {B d:Int} (b:0<B) (c:0<d):0<B*(d / ((Int.gcd B d:Nat):Int))/\B∣B*(d / ((Int.gcd B d:Nat):Int))/\d∣B*(d / ((Int.gcd B d:Nat):Int))/\(d / ((Int.gcd B d:Nat):Int)).natAbs<=d.natAbs/\0<((Int.gcd B d:Nat):Int)/\((Int.gcd B d:Nat):Int)<=d:=by
 have f:0<Int.gcd B d:=Int.gcd_pos_of_ne_zero_right B ⋯;obtain ⟨k,hk⟩:((Int.gcd B d:Nat):Int)∣d:=ED B d;obtain ⟨m,g⟩:((Int.gcd B d:Nat):Int)∣B:=Ey B d;have a:(0:Int)<((Int.gcd B d:Nat):Int):=by omega
 have e:d / ((Int.gcd B d:Nat):Int)=k:=by
  have z:d / ((Int.gcd B d:Nat):Int)=(((Int.gcd B d:Nat):Int)*k) / ((Int.gcd B d:Nat):Int):=by rw [<-hk]
  rw [z,GJ _ (AV a)]
 have kp:0<k:=by
  rcases Int.lt_or_le 0 k with h | h
  ·exact h
  ·exfalso;have:=Int.mul_nonneg (De a) (show 0<=-k by omega);rw [Int.mul_neg] at this;omega
 have i:((Int.gcd B d:Nat):Int)<=d:=Int.le_of_dvd c (ED B d);refine ⟨by rw [e];exact CF b kp,Int.dvd_mul_right ..,?_,?_,a,i⟩
 ·rw [e];refine ⟨m,?_⟩;have z:d*m=((Int.gcd B d:Nat):Int)*k*m:=by rw [<-hk]
  have j:B*k=((Int.gcd B d:Nat):Int)*m*k:=by rw [<-g]
  rw [z,j];ext
 ·rw [e]
  have z:d.natAbs=(Int.gcd B d)*k.natAbs:=by
   have:d.natAbs=(((Int.gcd B d:Nat):Int)*k).natAbs:=by rw [<-hk]
   rw [this,BX];simp
  rw [z];exact HE _ f
theorem Po {b:Nat}:∀ (l:d7) (B:Int) (c:Nat),(∀ q∈l,0<q.2/\Bd b q.2)->0<B->Bd c B->
  0<l.foldl (λB q=>B*(q.2 / ((Int.gcd B q.2:Nat):Int))) B/\B∣l.foldl (λB q=>B*(q.2 / ((Int.gcd B q.2:Nat):Int))) B/\(∀ q∈l,q.2∣l.foldl (λB q=>B*(q.2 / ((Int.gcd B q.2:Nat):Int))) B)/\Bd (c+b*l.length) (l.foldl (λB q=>B*(q.2 / ((Int.gcd B q.2:Nat):Int))) B)
 | [],B,c,_,d,e=>⟨d,Int.dvd_refl B,(λ_ h=>nomatch h),by simpa using e⟩
 | q::l,B,c,h,d,e=>by
   obtain ⟨g,i⟩:=h q (CC ..);obtain ⟨j,k,m,n,_,_⟩:=MN d g;obtain ⟨o,f,p,u⟩:=Po l (B*(q.2 / ((Int.gcd B q.2:Nat):Int))) (c+b) (λr a=>h r (CD _ a)) j (e.mul (i.le n));rw [List.foldl_cons];refine ⟨o,CL k f,λr a=>?_,u.mono (by rw [CB,Nat.mul_add,Nat.mul_one];omega)⟩;rcases D8.mp a with rfl | a
   ·exact CL m f
   ·exact p r a
def Z5 {b:Nat} {l:d7} (c:AX l) (d:Z4 b l):0<Aa l/\(∀ q∈l,q.2∣Aa l)/\Bd (1+b*l.length) (Aa l):=by
 obtain ⟨e,_,f,g⟩:=Po (b:=b) l 1 1 (λq a=>⟨(c q a).pos,(d q a).2⟩) ∅ Bd.one;exact ⟨e,f,g⟩
def Z6 {B d:Int} (a:0<B) (b:0<d):(B / d).natAbs<=B.natAbs:=by
 have c:0<=B / d:=Int.ediv_nonneg (De a) (De b);have e:B / d<=B:=Int.ediv_le_self d (De a);omega
def Z7 {q:Nu} {B:Int} (a:q.2∣B):Wo q (q.1*(B / q.2)) B:=by
 unfold Wo;rw [Int.mul_assoc,Int.ediv_mul_cancel a]
noncomputable def ps (ns a:dq):Nat->dL
 | 0,_=>0
 | i+1,k=>ps ns a i k+(if i<=k/\k - i<a.length then ns.getD i 0*a.getD (k - i) 0 else 0)
noncomputable def bo (ns a:dq) (i j k:Nat):Int:=ps ns a i k+(if i<=k/\k - i<j then ns.getD i 0*a.getD (k - i) 0 else 0)
def Z8 (ns a:dq) (i k:Nat):bo ns a i 0 k=ps ns a i k:=by
 unfold bo;rw [lZ ⋯];omega
def Ps (ns a:dq) (i j k:Nat):bo ns a i (j+1) k=if k=i+j then bo ns a i j k+ns.getD i 0*a.getD j 0 else bo ns a i j k:=by
 unfold bo;by_cases h:k=i+j
 ·subst h;rw [kA rfl,kA ⟨⋯,⋯⟩,lZ ⋯,show i+j - i=j by omega];omega
 ·rw [lZ h];congr 1;by_cases b:i<=k/\k - i<j
  ·rw [kA b,kA ⟨b.1,⋯⟩]
  ·rw [lZ b,lZ ⋯]
theorem DM {c:Nat} {ns:dq} (h:∀ z∈ns,Bd c z) (i:Nat):Bd c (ns.getD i 0):=by
 rw [AU];cases e:ns[i]? with
 | none=>exact Nat.pow_pos ∅
 | some z=>exact h z (Bj e)
def Cn (c:Nat):Bd c 0:=Nat.pow_pos ∅
theorem Pt {c d:Nat} {ns a:dq} (b:∀ z∈ns,Bd c z) (e:∀ z∈a,Bd d z):∀ i k,Bd (c+d+i) (ps ns a i k)
 | 0,_=>Cn _
 | i+1,k=>by
   unfold ps;refine (Pt b e i k).add ?_;split
   ·exact ((DM b i).mul (DM e (k - i))).mono ⋯
   ·exact Cn _
theorem MO {ns a:dq}:∀ i k,i+a.length<=k+1->ps ns a i k=0
 | 0,_,_=>rfl
 | i+1,k,h=>by
   unfold ps;rw [MO i k ⋯,lZ ⋯];rfl
noncomputable def Fk (l m:d7) (n:Nat):d7:=(List.range n).map λk=>a7 (ps (AL l) (AL m) l.length k) (Aa l*Aa m)
theorem Py {l m:d7}:∀ {n:Nat},(∀ i,i<n->l.getD i (1,1)=m.getD i (1,1))->Bg l n=Bg m n
 | 0,_=>rfl
 | n+1,h=>by
   unfold Bg;rw [h n (EE n),Py λi a=>h i (Nat.lt_succ_of_lt a)]
def Pz (l:d7):trim (l++[(0,1)])=trim l:=by
 unfold trim;rw [Cq,List.length_singleton]
 have e:Bg (l++[(0,1)]) (l.length+1)=Bg l l.length:=by
  rw [show Bg (l++[(0,1)]) (l.length+1)=if ((l++[((0,1):Nu)]).getD l.length (1,1)).1=0 then Bg (l++[(0,1)]) l.length else l.length+1 from rfl];rw [kA (by simp [AU])];exact Py λi a=>by rw [AU,AU,FU a]
 rw [e,List.take_append_of_le_length (ML l l.length)]
def QA (l m:d7) (n:Nat):Fk l m (n+1)=Fk l m n++[a7 (ps (AL l) (AL m) l.length n) (Aa l*Aa m)]:=by
 unfold Fk;rw [List.range_succ,EF];rfl
theorem MP (l m:d7) (a:0<Aa l*Aa m):∀ n,(∀ k,k<n->ps (AL l) (AL m) l.length k=0)->trim (Fk l m n)=[]
 | 0,_=>rfl
 | n+1,h=>by
   rw [QA,h n (EE n),Pj a,Pz];exact MP l m a n λk hk=>h k (Nat.lt_succ_of_lt hk)
theorem QB {ns a:dq} (h:a.length=0):∀ i k,ps ns a i k=0
 | 0,_=>rfl
 | i+1,k=>by unfold ps;rw [QB h i k,lZ ⋯];rfl
def Z9 {l m:d7} (a:0<Aa l*Aa m) (b:(AL m).length=m.length) :
  trim (Fk l m (l.length+m.length))=trim (List.map (λn=>a7 n (Aa l*Aa m)) (if l.length=0\/m.length=0 then [] else List.map (λk=>ps (AL l) (AL m) l.length k) (List.range (l.length+m.length - 1)))):=by
 by_cases c:l.length=0
 ·rw [kA (.inl c)];refine MP l m a _ λk _=>?_;rw [c];rfl
 ·by_cases d:m.length=0
  ·rw [kA (.inr d)];exact MP l m a _ λk _=>QB (by rw [b];exact d) _ _
  ·rw [lZ ⋯];obtain ⟨n,e⟩:∃ n,l.length+m.length=n+1:=⟨l.length+m.length - 1,⋯⟩;rw [e,QA,MO l.length n (by rw [b];omega),Pj a,Pz,E2,List.map_map];rfl
noncomputable def val (q:Nu):Rat:=(q.1:Rat) / (q.2:Rat)
def O' (x:Rat):0 / x=0:=by rw [Rat.div_def,Rat.zero_mul]
def AY {z:Int} (h:z≠0):(z:Rat)≠0:=by exact_mod_cast h
def MS {q:Nu} {n m:Int} (a:q.2≠0) (b:m≠0) (w:Wo q n m):val q=(n:Rat) / (m:Rat):=by
 have c:=AY a;have d:=AY b;have e:(q.1:Rat)*m=n*q.2:=by unfold Wo at w;exact_mod_cast w
 unfold val;ext
def EU {q r:Nu} (c:Low q.1 q.2) (d:Low r.1 r.2) (h:val q=val r):q=r:=by
 have a:=AY (AV c.pos);have b:=AY (AV d.pos);unfold val at h;have z:(q.1:Rat)*r.2=r.1*q.2:=by ext
 have e:q.1*r.2=r.1*q.2:=by exact_mod_cast z
 obtain ⟨x,y⟩:=Pe c d e;exact Prod.ext x y
def Il {n m:Int} (a:0<m):val (a7 n m)=(n:Rat) / (m:Rat):=MS (AV (Er a).pos) (AV a) (J7 a)
def QC {q r:Nu} (c:0<q.2) (d:0<r.2):val (a8 q r)=val q+val r:=by
 unfold a8;rw [Il (CF c d)];have a:=AY (AV c);have b:=AY (AV d);unfold val;push_cast;ext
def QD {q r:Nu} (c:0<q.2) (d:0<r.2):val (I_ q r)=val q*val r:=by
 unfold I_;rw [Il (CF c d)];have a:=AY (AV c);have b:=AY (AV d);unfold val;push_cast;ext
noncomputable def Ao (n m:Int):Nu:=if m<0 then a7 (-n) (-m) else a7 n m
def DB {n m:Int} (a:m≠0):Low (Ao n m).1 (Ao n m).2:=by
 unfold Ao;split
 ·exact Er ⋯
 ·exact Er ⋯
def DC {n m:Int} (a:m≠0):val (Ao n m)=(n:Rat) / (m:Rat):=by
 unfold Ao;split
 ·rw [Il ⋯];have:=AY a;push_cast;ext
 ·exact Il ⋯
def zA {n m N:Int} (b:m≠0) (h:m∣N):(Ao n m).2∣N:=by
 have a:∀ {n m:Int},0<m->(a7 n m).2∣m:=λ{n m} c=>by
  unfold a7;exact Int.ediv_dvd_of_dvd (ED n m)
 unfold Ao;split
 ·exact CL (a ⋯) (CL (Int.neg_dvd.mpr (Int.dvd_refl m)) h)
 ·exact CL (a ⋯) h
def Dk {c d:Nat} {n m:Int} (g:m≠0) (b:Bd c n) (e:Bd d m):Bd c (Ao n m).1/\Bd d (Ao n m).2:=by
 have a:∀ {n m:Int},0<m->Bd c n->Bd d m->Bd c (a7 n m).1/\Bd d (a7 n m).2:=λ{n m} f b e=>by
  have w:=Z2 (Er f) f (J7 (n:=n) f);exact ⟨b.le w.1,e.le w.2⟩
 unfold Ao;split
 ·exact a ⋯ b.neg e.neg
 ·exact a ⋯ b e
noncomputable def B_ (l:d7) (k:Nat):Rat:=val (AZ l k)
def zB {q:Nu} (h:Low q.1 q.2) (z:q.1=0):q=(0,1):=EU h FH (by unfold val;rw [z];show ((0:Int):Rat) / _=((0:Int):Rat) / _;rw [show ((0:Int):Rat)=0 from rfl,O',O'])
def QE {l:d7} (n:AX l) (k:Nat):AZ (trim l) k=AZ l k:=by
 have g:∀ (m:Nat),m<=l.length->(∀ j,m<=j->j<l.length->(AZ l j).1=0)->∀ j,Bg l m<=j->j<l.length->(AZ l j).1=0:=by
  intro m
  induction m with
  | zero=>intro _ h j i c;exact h j ⋯ c
  | succ m o=>
    intro p h j d f;rw [show Bg l (m+1)=if (l.getD m (1,1)).1=0 then Bg l m else m+1 from rfl] at d;split at d
    ·rename_i z;refine o ⋯ (λj i c=>?_) j d f;by_cases e:j=m
     ·subst e;unfold AZ;rw [AU,Az c] at z ⊢;exact z
     ·exact h j ⋯ c
    ·exact h j d f
 unfold trim;by_cases d:k<Bg l l.length
 ·unfold AZ;rw [AU,AU,List.getElem?_take_of_lt d]
 ·have e:AZ (l.take (Bg l l.length)) k=(0,1):=by
   unfold AZ;rw [AU,Bf (by rw [Cd];omega)];rfl
  rw [e];by_cases f:k<l.length
  ·exact (zB (CZ n k) (g l.length (AT _) (λj a b=>absurd b ⋯) k ⋯ f)).symm
  ·unfold AZ;rw [AU,Bf ⋯];rfl
def Es {l:d7} (a:AX l) (k:Nat):B_ (trim l) k=B_ l k:=by unfold B_;rw [QE a]
def MT {l:d7} {k:Nat} (h:l.length<=k):AZ l k=(0,1):=by
 unfold AZ;rw [AU,Bf h];rfl
def BN {l:d7} {k:Nat} (h:l.length<=k):B_ l k=0:=by
 unfold B_;rw [MT h];exact O' _
def QF {a b:d7} (f:Nz b) (h:∀ k,AZ a k=AZ b k):b.length<=a.length:=by
 rcases Av a.length b.length with g | c
 ·exfalso;have d:b.length - 1<b.length:=by omega
  have q:=f b[b.length - 1] (by rw [FX];exact Az d);have e:=h (b.length - 1);rw [MT ⋯] at e;unfold AZ at e;rw [AU,Az d] at e;have i:((0,1):Nu)=b[b.length - 1]:=e;rw [<-i] at q;exact q rfl
 ·exact c
def QG {a b:d7} (c:AX a) (d:AX b) (f:Nz a) (j:Nz b) (h:∀ k,B_ a k=B_ b k):a=b:=by
 have g:∀ k,AZ a k=AZ b k:=λk=>EU (CZ c k) (CZ d k) (h k);have e:a.length=b.length:=Ef (QF f λk=>(g k).symm) (QF j g);refine List.ext_getElem e λi m n=>?_;have z:=g i;unfold AZ at z;rw [AU,AU,Az m,Az n] at z;exact z
noncomputable def cv (f g:dM):Nat->dM
 | 0,_=>0
 | n+1,k=>cv f g n k+(if n<=k then f n*g (k - n) else 0)
theorem QH {f f' g:dM} {s:Nat} {x:Rat} (a:f s=0) (b:f' s=x) (c:∀ i,i≠s->f' i=f i):∀ n k,cv f' g n k=cv f g n k+(if s<n/\s<=k then x*g (k - s) else 0)
 | 0,k=>by unfold cv;rw [lZ ⋯];exact (Rat.add_zero 0).symm
 | n+1,k=>by
   unfold cv;rw [QH a b c n k];by_cases e:n=s
   ·subst e;rw [a,b];by_cases hk:n<=k
    ·rw [kA hk,kA hk,lZ ⋯,kA ⟨⋯,hk⟩];ext
    ·rw [lZ hk,lZ hk,lZ ⋯,lZ ⋯]
   ·rw [c n e];have d:(s<n+1/\s<=k)↔(s<n/\s<=k):=by omega
    simp only [d];ext
theorem QJ {f g:dM}:∀ n k,(∀ i,i<n->f i=0)->cv f g n k=0
 | 0,_,_=>rfl
 | n+1,k,h=>by
   unfold cv;rw [QJ n k λi a=>h i ⋯,h n ⋯];split <;> ext
theorem QK {f g:dM} {n:Nat} (h:∀ i,n<=i->f i=0):∀ d k,cv f g (n+d) k=cv f g n k
 | 0,_=>rfl
 | d+1,k=>by
   show cv f g (n+d) k+(if n+d<=k then f (n+d)*g (k - (n+d)) else 0)=_;rw [QK h d k,h (n+d) ⋯];split <;> ext
theorem QL {f f' g:dM} (h:∀ i,f i=f' i):∀ n k,cv f g n k=cv f' g n k
 | 0,_=>rfl
 | n+1,k=>by unfold cv;rw [QL h n k,h n]
noncomputable def P_ (l:d7) (M:Int):dq:=l.map λq=>q.1*(M / q.2)
def Ov (l:d7) (M:Int):Prop:=0<M/\∀ q∈l,q.2∣M
theorem QM {l:d7} {M:Int} (i:Nat):(P_ l M).getD i 0=(AZ l i).1*(M / (AZ l i).2):=by
 unfold P_ AZ;rw [AU,AU,Aq];cases l[i]? with
 | none=>simp
 | some q=>rfl
theorem Ov.get {l:d7} {M:Int} (h:Ov l M) (i:Nat):(AZ l i).2∣M:=by
 unfold AZ;rw [AU];cases e:l[i]? with
 | none=>exact Int.one_dvd M
 | some q=>exact h.2 q (Bj e)
def zC {l:d7} {M:Int} (h:Ov l M) (i:Nat):Wo (AZ l i) ((P_ l M).getD i 0) M:=by
 rw [QM];exact Z7 (h.get i)
def DY {l:d7} {M:Int} (a:AX l) (h:Ov l M) (i:Nat):B_ l i=((P_ l M).getD i 0:Rat) / (M:Rat):=MS (AV (CZ a i).pos) (AV h.1) (zC h i)
noncomputable def Im (l m:d7) (a b:Int) (n:Nat):d7:=(List.range n).map λk=>a7 (ps (P_ l a) (P_ m b) l.length k) (a*b)
theorem MU {l m:d7} {d c:Int} (g:AX l) (h:AX m) (e:Ov l d) (f:Ov m c):∀ n k,(ps (P_ l d) (P_ m c) n k:Rat) / ((d*c:Int):Rat)=cv (B_ l) (B_ m) n k
 | 0,k=>O' _
 | n+1,k=>by
   have a:=AY (AV e.1);have b:=AY (AV f.1);have i:=MU g h e f n k;unfold ps cv;rw [<-i];by_cases hk:n<=k
   ·rw [kA hk,DY g e,DY h f];by_cases j:k - n<(P_ m c).length
    ·rw [kA ⟨hk,j⟩];push_cast;ext
    ·rw [lZ ⋯,show (P_ m c).getD (k - n) 0=0 by rw [AU,Bf ⋯];rfl];push_cast;ext
   ·rw [lZ hk,lZ ⋯];push_cast;ext
def zD {l m:d7} {a b:Int} {n:Nat} (c:Ov l a) (d:Ov m b):AX (Im l m a b n):=by
 intro q e;obtain ⟨k,_,rfl⟩:=BR.mp e;exact Er (CF c.1 d.1)
def zE {l m:d7} {a b:Int} (f:AX l) (g:AX m) (c:Ov l a) (d:Ov m b) (k:Nat):B_ (Im l m a b (l.length+m.length)) k=cv (B_ l) (B_ m) l.length k:=by
 rw [<-MU f g c d];have i:=CF c.1 d.1;by_cases h:k<l.length+m.length
 ·have e:AZ (Im l m a b (l.length+m.length)) k=a7 (ps (P_ l a) (P_ m b) l.length k) (a*b):=by
   unfold Im AZ;rw [AU,Aq,DU h];rfl
  unfold B_;rw [e,Il i]
 ·rw [BN (by unfold Im;rw [AR,BL];omega),MO l.length k (by unfold P_;rw [AR];omega)];exact (O' _).symm
def lcm_dvd {B d M:Int} (c:0<B) (f:0<d) (a:B∣M) (b:d∣M):B*(d / ((Int.gcd B d:Nat):Int))∣M:=by
 have z:((Nat.lcm B.natAbs d.natAbs:Nat):Int)∣M:=C5.mp (by rw [Ct];exact Nat.lcm_dvd (C5.mpr a) (C5.mpr b))
 have e:((Nat.lcm B.natAbs d.natAbs:Nat):Int)=B*(d / ((Int.gcd B d:Nat):Int)):=by
  unfold Nat.lcm;rw [Nat.mul_div_assoc _ (Nat.gcd_dvd_right _ _)];push_cast;rw [show ((B.natAbs:Nat):Int)=B by omega,show ((d.natAbs:Nat):Int)=d by omega];rfl
 rw [<-e];exact z
theorem MV {M:Int}:∀ (l:d7) (B:Int),(∀ q∈l,0<q.2/\q.2∣M)->0<B->B∣M->0<l.foldl (λB q=>B*(q.2 / ((Int.gcd B q.2:Nat):Int))) B/\l.foldl (λB q=>B*(q.2 / ((Int.gcd B q.2:Nat):Int))) B∣M
 | [],B,_,a,h=>⟨a,h⟩
 | q::l,B,b,a,h=>by
   obtain ⟨c,d⟩:=b q (CC ..);obtain ⟨e,_⟩:=MN a c;exact MV l _ (λr f=>b r (CD _ f)) e (lcm_dvd a c h d)
def DN {n:Nat} {a b:Int} (d:b≠0) (h:a∣b) (c:Bd n b):Bd n a:=c.le (Ei ⋯ (C5.mpr h))
def Br {l:d7} (e:AX l):Ov l (Aa l):=by
 obtain ⟨a,b,_⟩:=Z5 (b:=(l.foldl (λn q=>n+q.1.natAbs+q.2.natAbs) 1)) e (λq c=>by
  have d:∀ (l:d7) (n:Nat),n<=l.foldl (λn q=>n+q.1.natAbs+q.2.natAbs) n/\∀ q∈l,q.1.natAbs+q.2.natAbs<=l.foldl (λn q=>n+q.1.natAbs+q.2.natAbs) n:=by
   intro l
   induction l with
   | nil=>intro n;exact ⟨AT _,λ_ h=>nomatch h⟩
   | cons r l f=>
     intro n;obtain ⟨i,g⟩:=f (n+r.1.natAbs+r.2.natAbs);rw [List.foldl_cons];refine ⟨⋯,λq c=>?_⟩;rcases D8.mp c with rfl | c
     ·omega
     ·exact g q c
  have z:=(d l 1).2 q c;exact ⟨DI ⋯ (Nat.lt_two_pow_self),DI ⋯ (Nat.lt_two_pow_self)⟩)
 exact ⟨a,b⟩
def QN {l:d7} {M:Int} (b:AX l) (h:Ov l M):Aa l∣M:=(MV l 1 (λq a=>⟨(b q a).pos,h.2 q a⟩) ∅ (Int.one_dvd M)).2
def J8 (l:d7):AL l=P_ l (Aa l):=rfl
section
variable {α:Type} [Lean.Grind.CommRing α]
noncomputable def cvL:List α->(Nat->α)->Nat->α
 | [],_,_=>0
 | x::a,b,k=>x*b k+(match k with | 0=>0 | k+1=>cvL a b k)
def BE (b:Nat->α) (k:Nat):cvL [] b k=0:=rfl
def Ax (x:α) (a:List α) (b:Nat->α):cvL (x::a) b 0=x*b 0+0:=rfl
def Ar (x:α) (a:List α) (b:Nat->α) (k:Nat):cvL (x::a) b (k+1)=x*b (k+1)+cvL a b k:=rfl
theorem BJ {b c:Nat->α} (h:∀ k,b k=c k):∀ (a:List α) (k:Nat),cvL a b k=cvL a c k
 | [],_=>rfl
 | x::a,0=>by rw [Ax,Ax,h 0]
 | x::a,k+1=>by rw [Ar,Ar,h (k+1),BJ h a k]
theorem HW (b c:Nat->α):∀ (a:List α) (k:Nat),cvL a (λk=>b k+c k) k=cvL a b k+cvL a c k
 | [],_=>by rw [BE,BE,BE];ext
 | x::a,0=>by rw [Ax,Ax,Ax];ext
 | x::a,k+1=>by rw [Ar,Ar,Ar,HW b c a k];ext
theorem DD (s:α) (b:Nat->α):∀ (a:List α) (k:Nat),cvL a (λk=>s*b k) k=s*cvL a b k
 | [],_=>by rw [BE,BE];ext
 | x::a,0=>by rw [Ax,Ax];ext
 | x::a,k+1=>by rw [Ar,Ar,DD s b a k];ext
noncomputable def DZ (b:Nat->α):Nat->α
 | 0=>0
 | k+1=>b k
theorem MW (b:Nat->α):∀ (a:List α) (k:Nat),cvL a (DZ b) k=DZ (cvL a b) k
 | [],0=>rfl
 | [],k+1=>rfl
 | x::a,0=>by rw [Ax];show x*0+0=0;ext
 | x::a,1=>by
   rw [Ar];have h:=MW b a 0;rw [h];show x*b 0+0=cvL (x::a) b 0;rw [Ax]
 | x::a,k+2=>by
   rw [Ar,MW b a (k+1)];show x*b (k+1)+cvL a b k=cvL (x::a) b (k+1);rw [Ar]
theorem Fl (x:α) (a:List α) (b:Nat->α) (k:Nat):cvL (x::a) b k=x*b k+DZ (cvL a b) k:=by
 cases k with
 | zero=>exact Ax x a b
 | succ k=>exact Ar x a b k
theorem Io (c:Nat->α):∀ (a b:List α) (k:Nat),cvL a (cvL b c) k=cvL b (cvL a c) k
 | [],b,k=>by
   rw [BE];have e:cvL b (cvL [] c) k=cvL b (λk=>0*c k) k:=BJ (λk=>by rw [BE];ext) b k;rw [e,DD];ext
 | x::a,b,k=>by
   rw [Fl];have e:cvL b (cvL (x::a) c) k=cvL b (λk=>x*c k+DZ (cvL a c) k) k:=BJ (λk=>Fl x a c k) b k;rw [e,HW,DD,MW]
   have d:DZ (cvL a (cvL b c)) k=DZ (cvL b (cvL a c)) k:=by
    cases k with
    | zero=>rfl
    | succ k=>exact Io c a b k
   rw [d]
noncomputable def Aj:Nat->α
 | 0=>1
 | _+1=>0
theorem Cy:∀ (a:List α) (k:Nat),cvL a Aj k=a.getD k 0
 | [],k=>by rw [BE];simp
 | x::a,0=>by rw [Ax];show x*1+0=x;ext
 | x::a,k+1=>by
   rw [Ar,Cy a k];show x*0+a.getD k 0=(x::a).getD (k+1) 0;rw [FY];ext
end
def zF {n k:Nat}:k∣2 ^ n↔∃ a,a<=n/\k=2 ^ a:=by
 constructor
 ·induction n generalizing k with
  | zero=>intro h;exact ⟨0,AT 0,by simpa using h⟩
  | succ n d=>
    intro h;by_cases f:2∣k
    ·obtain ⟨j,rfl⟩:=f;rw [CV,B6 (2 ^ n) 2] at h;obtain ⟨a,b,e⟩:=d (Nat.dvd_of_mul_dvd_mul_left ∅ h);exact ⟨a+1,⋯,by rw [e,CV,B6]⟩
    ·have c:Nat.Coprime k 2:=by
      have:Nat.gcd k 2∣2:=Nat.gcd_dvd_right k 2;have g:=Ei ∅ this;have i:Nat.gcd k 2≠2:=λz=>f (by rw [<-z];exact Nat.gcd_dvd_left k 2);have m:Nat.gcd k 2≠0:=λz=>by have:=Nat.eq_zero_of_gcd_eq_zero_right z;omega
      show Nat.gcd k 2=1;omega
     rw [CV] at h;obtain ⟨a,b,e⟩:=d (c.dvd_of_dvd_mul_right h);exact ⟨a,⋯,e⟩
 ·rintro ⟨a,b,rfl⟩;exact Nat.pow_dvd_pow 2 b
structure Pr (p:Nat):Prop where
 two:2<=p
 div:∀ d,d∣p->d=1\/d=p
def Pr.cop {p:Nat} (h:Pr p) {a:Nat} (b:¬ p∣a):Nat.gcd a p=1:=by
 rcases h.div _ (Nat.gcd_dvd_right a p) with e | e
 ·exact e
 ·exact absurd (e ▸ Nat.gcd_dvd_left a p) b
def Pr.mul {p:Nat} (h:Pr p) {a b:Nat} (d:p∣a*b):p∣a\/p∣b:=by
 by_cases c:p∣a
 ·exact .inl c
 ·refine .inr (Nat.Coprime.dvd_of_dvd_mul_left (k:=p) (m:=a) ?_ d);have:=h.cop c;rw [Nat.gcd_comm] at this;exact this
def Pr.mulI {p:Nat} (h:Pr p) {a b:Int} (c:(p:Int)∣a*b):(p:Int)∣a\/(p:Int)∣b:=by
 have z:=C5.mpr c;rw [BX,Ct] at z;rcases h.mul z with e | e
 ·exact .inl (C5.mp (by rw [Ct];exact e))
 ·exact .inr (C5.mp (by rw [Ct];exact e))
def QO {m:Nat} (v:2<=m):∃ q,Pr q/\q∣m/\(q=m\/q*q<=m):=by
 have c:∀ n d,2<=d->(∀ e,2<=e->e<d->¬ e∣m)->m=d+n->∃ q,2<=q/\q∣m/\∀ e,2<=e->e<q->¬ e∣m:=by
  intro n
  induction n with
  | zero=>intro d a h e;exact ⟨d,a,by rw [e];exact Nat.dvd_refl _,h⟩
  | succ n o=>
    intro d a h e;by_cases b:d∣m
    ·exact ⟨d,a,b,h⟩
    ·refine o (d+1) ⋯ (λx p r=>?_) ⋯;by_cases f:x=d
     ·rw [f];exact b
     ·exact h x p ⋯
 obtain ⟨q,u,g,j⟩:=c (m - 2) 2 (AT 2) (λe w i=>absurd i ⋯) ⋯;refine ⟨q,⟨u,λd a=>?_⟩,g,?_⟩
 ·by_cases i:2<=d
  ·right;rcases Av d q with h | h
   ·exact absurd (Nat.dvd_trans a g) (j d i h)
   ·exact Ef (Ei ⋯ a) h
  ·left;have:d≠0:=λz=>by rw [z] at a;have:=Nat.eq_zero_of_zero_dvd a;omega
   omega
 ·obtain ⟨k,hk⟩:=g;by_cases y:k<=1
  ·left
   have:k=1:=by
    rcases Ce k with z | z
    ·rw [z] at hk;omega
    ·omega
   rw [hk,this,Nat.mul_one]
  ·right;rcases Av k q with h | h
   ·exact absurd ⟨q,by rw [hk,B6]⟩ (j k ⋯ h)
   ·rw [hk];exact CM q h
theorem aN:∀ (n m:Nat) (f:Nat->Nat),(∀ i,i<m->f i<n)->(∀ i j,i<m->j<m->f i=f j->i=j)->m<=n
 | 0,m,f,h,_=>by
   rcases Ce m with z | z
   ·omega
   ·exact absurd (h 0 z) ⋯
 | n+1,0,_,_,_=>by omega
 | n+1,m+1,f,h,a=>by
   have:=aN n m (λi=>if f i=n then f m else f i) (λi d=>by
    show (if f i=n then f m else f i)<n;by_cases e:f i=n
    ·rw [kA e];have g:=h m (EE m);have:f m≠n:=λz=>absurd (a i m ⋯ ⋯ (by rw [e,z])) ⋯;omega
    ·rw [lZ e];have g:=h i ⋯;omega) (λi j d k e=>by
    have e:(if f i=n then f m else f i)=(if f j=n then f m else f j):=e;by_cases c:f i=n
    ·rw [kA c] at e;by_cases b:f j=n
     ·exact a i j ⋯ ⋯ (by rw [c,b])
     ·rw [lZ b] at e;exact absurd (a m j ⋯ ⋯ e) ⋯
    ·rw [lZ c] at e;by_cases b:f j=n
     ·rw [kA b] at e;exact absurd (a i m ⋯ ⋯ e) ⋯
     ·rw [lZ b] at e;exact a i j ⋯ ⋯ e)
   omega
noncomputable abbrev Rt:=Int×Int
noncomputable def Q_ (q:Int) (x y:Rt):Rt:=((x.1*y.1+3*(x.2*y.2)) % q,(x.1*y.2+x.2*y.1) % q)
noncomputable def C_ (q:Int):Nat->Rt
 | 0=>(1 % q,0 % q)
 | n+1=>Q_ q (2,1) (C_ q n)
def Fm {q a b c:Int} (h:a - b=q*c):a % q=b % q:=by
 have:a=b+q*c:=by omega
 rw [this,Int.add_mul_emod_self_left]
def em {a q:Int}:∃ c,a % q=a - q*c:=⟨a / q,by have:=Int.emod_add_mul_ediv a q;omega⟩
def HX (q:Int) (x y z:Rt):Q_ q (Q_ q x y) z=Q_ q x (Q_ q y z):=by
 obtain ⟨a,b⟩:=x;obtain ⟨c,d⟩:=y;obtain ⟨e,f⟩:=z;obtain ⟨g,h⟩:=em (a:=a*c+3*(b*d)) (q:=q);obtain ⟨i,j⟩:=em (a:=a*d+b*c) (q:=q);obtain ⟨k,m⟩:=em (a:=c*e+3*(d*f)) (q:=q);obtain ⟨n,o⟩:=em (a:=c*f+d*e) (q:=q);refine Prod.ext ?_ ?_
 ·show ((a*c+3*(b*d)) % q*e+3*((a*d+b*c) % q*f)) % q=(a*((c*e+3*(d*f)) % q)+3*(b*((c*f+d*e) % q))) % q;rw [h,j,m,o];exact Fm (c:=a*k+3*b*n - g*e - 3*i*f) ()
 ·show ((a*c+3*(b*d)) % q*f+((a*d+b*c) % q*e)) % q=(a*((c*f+d*e) % q)+(b*((c*e+3*(d*f)) % q))) % q;rw [h,j,m,o];exact Fm (c:=a*n+b*k - g*f - i*e) ()
def zG (q:Int) (x y:Rt):Q_ q x y=Q_ q y x:=by
 refine Prod.ext ?_ ?_
 ·show (x.1*y.1+3*(x.2*y.2)) % q=(y.1*x.1+3*(y.2*x.2)) % q;congr 1;ext
 ·show (x.1*y.2+x.2*y.1) % q=(y.1*x.2+y.2*x.1) % q;congr 1;ext
def rn (q:Int) (x:Rt):Prop:=x.1 % q=x.1/\x.2 % q=x.2
def zH (q:Int) (x y:Rt):rn q (Q_ q x y):=⟨Int.emod_emod ..,Int.emod_emod ..⟩
theorem Gc (q:Int):∀ n,rn q (C_ q n)
 | 0=>⟨Int.emod_emod ..,Int.emod_emod ..⟩
 | _+1=>zH q _ _
def aB (q:Int) {x:Rt} (h:rn q x):Q_ q (C_ q 0) x=x:=by
 obtain ⟨d,e⟩:=em (a:=1) (q:=q);obtain ⟨f,g⟩:=em (a:=0) (q:=q);refine Prod.ext ?_ ?_
 ·show (1 % q*x.1+3*(0 % q*x.2)) % q=x.1;rw [e,g,<-h.1];rw [Fm (b:=x.1 % q) (c:=- d*(x.1 % q) - 3*f*x.2) (),Int.emod_emod]
 ·show (1 % q*x.2+0 % q*x.1) % q=x.2;rw [e,g,<-h.2];rw [Fm (b:=x.2 % q) (c:=- d*(x.2 % q) - f*x.1) (),Int.emod_emod]
theorem Ge (q:Int):∀ m n,C_ q (m+n)=Q_ q (C_ q m) (C_ q n)
 | 0,n=>by rw [Nat.zero_add,aB q (Gc q n)]
 | m+1,n=>by
   rw [Nat.succ_add];show Q_ q (2,1) (C_ q (m+n))=Q_ q (Q_ q (2,1) (C_ q m)) (C_ q n);rw [Ge q m n,HX]
noncomputable def aC (q:Int):Nat->Rt
 | 0=>(1 % q,0 % q)
 | n+1=>Q_ q (2,-1) (aC q n)
def r21 (q:Int):Q_ q (2,-1) (2,1)=C_ q 0:=by
 refine Prod.ext ?_ ?_
 ·show (2*2+3*(-1*1)) % q=1 % q;rfl
 ·show (2*1 + -1*2) % q=0 % q;rfl
theorem QP (q:Int):∀ n,Q_ q (aC q n) (C_ q n)=C_ q 0
 | 0=>aB q (Gc q 0)
 | n+1=>by
   show Q_ q (Q_ q (2,-1) (aC q n)) (Q_ q (2,1) (C_ q n))=_;rw [HX,<-HX q (aC q n),zG q (aC q n) (2,1),HX q (2,1),QP q n,<-HX,r21,aB q (Gc q 0)]
theorem MX (q:Int) {m:Nat} (h:C_ q m=C_ q 0):∀ k,C_ q (m*k)=C_ q 0
 | 0=>rfl
 | k+1=>by rw [Nat.mul_succ,Ge,MX q h k,h,aB q (Gc q 0)]
theorem rord (q:Int) {n:Nat} (c:C_ q (2 ^ (n+1))=C_ q 0) (f:C_ q (2 ^ n)≠C_ q 0):∀ d,0<d->d<2 ^ (n+1)->C_ q d≠C_ q 0:=by
 intro d
 induction d using Nat.strongRecOn with
 | _ d g=>
 intro i u e;have j:=Nat.mod_lt (2 ^ (n+1)) i
 have m:C_ q (2 ^ (n+1) % d)=C_ q 0:=by
  have o:=Nat.div_add_mod (2 ^ (n+1)) d;rw [<-o,Ge,MX q e,aB q (Gc q _)] at c;exact c
 rcases Ce (2 ^ (n+1) % d) with z | z
 ·obtain ⟨k,hk⟩:=Nat.dvd_of_mod_eq_zero z;obtain ⟨a,v,b⟩:=(zF (n:=n+1) (k:=d)).mp ⟨k,hk⟩
  have p:a<=n:=by
   rcases Av n a with h | h
   ·exfalso;have:a=n+1:=by omega
    rw [this] at b;omega
   ·exact h
  apply f;have r:2 ^ n=d*2 ^ (n - a):=by rw [b,<-C3];congr 1;omega
  rw [r];exact MX q e _
 ·exact g _ j z ⋯ m
theorem aO (q:Int):∀ n,∃ c,(C_ q n).1*(C_ q n).1 - 3*((C_ q n).2*(C_ q n).2) - 1=q*c
 | 0=>by
   obtain ⟨d,f⟩:=em (a:=1) (q:=q);obtain ⟨e,g⟩:=em (a:=0) (q:=q);refine ⟨-2*d+q*d*d - 3*q*e*e,?_⟩;show (1 % q)*(1 % q) - 3*((0 % q)*(0 % q)) - 1=_;rw [f,g];ext
 | n+1=>by
   obtain ⟨c,j⟩:=aO q n;obtain ⟨d,f⟩:=em (a:=2*(C_ q n).1+3*(1*(C_ q n).2)) (q:=q);obtain ⟨e,g⟩:=em (a:=2*(C_ q n).2+1*(C_ q n).1) (q:=q);have h:(C_ q (n+1)).1=2*(C_ q n).1+3*(1*(C_ q n).2) - q*d:=f;have i:(C_ q (n+1)).2=2*(C_ q n).2+1*(C_ q n).1 - q*e:=g;rw [h,i];generalize (C_ q n).1=a at *;generalize (C_ q n).2=b at *;exact ⟨c - 2*d*(2*a+3*b)+q*d*d+6*e*(2*b+a) - 3*q*e*e,()⟩
def zI (q:Int) (n:Nat):∃ c,2*(C_ q (n+n)).1=(2*(C_ q n).1)*(2*(C_ q n).1) - 2+q*c:=by
 obtain ⟨c,e⟩:=aO q n;rw [Ge];obtain ⟨b,d⟩:=em (a:=(C_ q n).1*(C_ q n).1+3*((C_ q n).2*(C_ q n).2)) (q:=q);refine ⟨-2*b - 2*c,?_⟩;show 2*(((C_ q n).1*(C_ q n).1+3*((C_ q n).2*(C_ q n).2)) % q)=_;rw [d];ext
noncomputable def ll (M:Nat):Nat->Nat->Nat
 | 0,s=>s
 | k+1,s=>ll M k ((s*s+(M - 2)) % M)
theorem QQ {q:Int} {M:Nat} (f:2<=M) (g:q∣(M:Int)):∀ (k t s:Nat),q∣2*(C_ q (2 ^ t)).1 - (s:Int)->q∣2*(C_ q (2 ^ (t+k))).1 - (ll M k s:Int)
 | 0,t,s,h=>h
 | k+1,t,s,h=>by
   have:=QQ f g k (t+1) ((s*s+(M - 2)) % M) (by
    obtain ⟨c,i⟩:=zI q (2 ^ t);obtain ⟨d,j⟩:=h;obtain ⟨m,n⟩:=g;have e:(2:Nat) ^ (t+1)=2 ^ t+2 ^ t:=by rw [CV];omega
    rw [e,i]
    have z:(((s*s+(M - 2)) % M:Nat):Int)=(s:Int)*s+(M - 2) - M*(((s*s+(M - 2)) / M:Nat):Int):=by
     have:=Nat.mod_add_div (s*s+(M - 2)) M
     have o:(((s*s+(M - 2)) % M:Nat):Int)+(M:Int)*(((s*s+(M - 2)) / M:Nat):Int)=(s:Int)*s+(M - 2):=by
      have:=congrArg (λx:Nat=>(x:Int)) this;simp only [Int.natCast_add,Int.natCast_mul] at this;rw [this,Int.natCast_sub f];rfl
     omega
    rw [z];generalize (((s*s+(M - 2)) / M:Nat):Int)=w;generalize (C_ q (2 ^ t)).1=a at j;have b:2*a=s+q*d:=by omega
    rw [b,n];exact ⟨2*s*d+q*d*d+c - m+m*w,()⟩)
   rw [show t+(k+1)=t+1+k by omega];exact this
def zJ {n:Nat} (h:ll (2 ^ (n+2) - 1) n 4 % (2 ^ (n+2) - 1)=0):Pr (2 ^ (n+2) - 1):=by
 have N:4<=2 ^ (n+2):=by rw [C3];have:=Nat.one_le_two_pow (n:=n);omega
 generalize hM:2 ^ (n+2) - 1=M at h ⊢;obtain ⟨q,p,r,A⟩:=QO (m:=M) ⋯;rcases A with e | A
 ·rw [<-e];exact p
 exfalso;have O:(q:Int)∣(M:Int):=Int.natCast_dvd_natCast.mpr r;have q2:=p.two
 have P:q≠2:=λz=>by
  rw [z] at r;have:2 ^ (n+2)=2*2 ^ (n+1):=by rw [CV 2 (n+1)];omega
  omega
 have Q:(q:Int)∣2*(C_ q (2 ^ (0+n))).1 - (ll M n 4:Int):=QQ ⋯ O n 0 4 (by
  show (q:Int)∣2*(Q_ q (2,1) (C_ q 0)).1 - 4;obtain ⟨f,u⟩:=em (a:=1) (q:=(q:Int));obtain ⟨g,v⟩:=em (a:=0) (q:=(q:Int));show (q:Int)∣2*((2*(1 % (q:Int))+3*(1*(0 % (q:Int)))) % (q:Int)) - 4;obtain ⟨R,S⟩:=em (a:=2*(1 % (q:Int))+3*(1*(0 % (q:Int)))) (q:=(q:Int));rw [S,u,v];exact ⟨-4*f - 6*g - 2*R,()⟩)
 have T:(q:Int)∣(ll M n 4:Int):=Int.natCast_dvd_natCast.mpr (Nat.dvd_trans r (Nat.dvd_of_mod_eq_zero h))
 have U:(q:Int)∣2*(C_ q (2 ^ n)).1:=by
  have:=Cr Q T;rw [Nat.zero_add] at this;rw [Int.sub_add_cancel] at this;exact this
 have W:(q:Int)∣(C_ q (2 ^ n)).1:=by
  rcases p.mulI U with z | z
  ·exfalso;have w:=Int.natCast_dvd_natCast.mp (show (q:Int)∣((2:Nat):Int) from z);have:=Ei ∅ w;omega
  ·exact z
 have k:(q:Int)≠0:=by omega
 have o:C_ q (2 ^ (n+1))=((-1) % (q:Int),0 % (q:Int)):=by
  have e:(2:Nat) ^ (n+1)=2 ^ n+2 ^ n:=by rw [CV];omega
  rw [e,Ge];obtain ⟨c,X⟩:=aO q (2 ^ n);obtain ⟨d,x⟩:=W;refine Prod.ext ?_ ?_
  ·show ((C_ q (2 ^ n)).1*(C_ q (2 ^ n)).1+3*((C_ q (2 ^ n)).2*(C_ q (2 ^ n)).2)) % (q:Int)=(-1) % (q:Int);refine Fm (c:=2*q*d*d - c) ?_;generalize (C_ q (2 ^ n)).2=b at *;rw [x] at X ⊢;ext
  ·show ((C_ q (2 ^ n)).1*(C_ q (2 ^ n)).2+(C_ q (2 ^ n)).2*(C_ q (2 ^ n)).1) % (q:Int)=0 % (q:Int);refine Fm (c:=2*d*(C_ q (2 ^ n)).2) ?_;rw [x];ext
 have v:C_ q (2 ^ (n+1))≠C_ q 0:=λz=>by
  rw [o] at z;have Y:(-1) % (q:Int)=1 % (q:Int):=congrArg Prod.fst z;have w:(q:Int)∣-1 - 1:=Int.dvd_of_emod_eq_zero ((Int.emod_eq_emod_iff_emod_sub_eq_zero).mp Y);have Z:=C5.mpr w;have:=Ei ∅ Z;rw [Ct] at this;have:(-1 - 1:Int).natAbs=2:=by decide
  omega
 have u:C_ q (2 ^ (n+1+1))=C_ q 0:=by
  have e:(2:Nat) ^ (n+1+1)=2 ^ (n+1)+2 ^ (n+1):=by rw [CV 2 (n+1)];omega
  rw [e,Ge,o];obtain ⟨f,B⟩:=em (a:=-1) (q:=(q:Int));obtain ⟨g,C⟩:=em (a:=0) (q:=(q:Int));refine Prod.ext ?_ ?_
  ·show ((-1) % (q:Int)*((-1) % (q:Int))+3*(0 % (q:Int)*(0 % (q:Int)))) % (q:Int)=1 % (q:Int);refine Fm (c:=2*f+q*f*f+3*q*g*g) ?_;rw [B,C];ext
  ·show ((-1) % (q:Int)*(0 % (q:Int))+0 % (q:Int)*((-1) % (q:Int))) % (q:Int)=0 % (q:Int);refine Fm (c:=2*g+2*q*f*g) ?_;rw [B,C];ext
 have ord:=rord (q:Int) u v
 have D:∀ i d,0<d->i+d<2 ^ (n+2)->C_ q i≠C_ q (i+d):=λi d d0 x z=>by
  have e:C_ q d=C_ q 0:=by
   have a:=QP (q:Int) i
   have b:Q_ q (aC q i) (C_ q (i+d))=C_ q d:=by
    rw [Ge,<-HX,a,aB _ (Gc _ _)]
   rw [<-b,<-z,a]
  exact ord d d0 (by have:(2:Nat) ^ (n+1+1)=2 ^ (n+2):=rfl;omega) e
 have y:∀ i,0<=(C_ q i).1/\(C_ q i).1<q/\0<=(C_ q i).2/\(C_ q i).2<q:=λi=>by
  obtain ⟨a,b⟩:=Gc (q:Int) i;have E:(0:Int)<q:=by omega
  have F:=Cf (C_ q i).1 k;have G:=C4 (C_ q i).1 E;have H:=Cf (C_ q i).2 k;have I:=C4 (C_ q i).2 E;rw [a] at F G;rw [b] at H I;exact ⟨F,G,H,I⟩
 have pg:=aN (q*q) (2 ^ (n+2)) (λi=>(C_ q i).1.toNat*q+(C_ q i).2.toNat) (λi _=>by
  obtain ⟨a,b,c,d⟩:=y i;have J:(C_ q i).1.toNat+1<=q:=by omega
  have d':(C_ q i).2.toNat<q:=by omega
  have:=Bk q J;rw [Cl,Nat.one_mul] at this;show (C_ q i).1.toNat*q+(C_ q i).2.toNat<q*q;omega) (λi j hi hj e=>by
  have e:(C_ q i).1.toNat*q+(C_ q i).2.toNat=(C_ q j).1.toNat*q+(C_ q j).2.toNat:=e;obtain ⟨a,b,c,d⟩:=y i;obtain ⟨J,b',c',d'⟩:=y j;have o:=congrArg (·% q) e;have K:=congrArg (·/ q) e;simp only [B6 _ q,Nat.mul_add_mod,Nat.mul_add_div (show 0<q by omega)] at o K;rw [EG ⋯,EG ⋯] at o;rw [Ez ⋯,Ez ⋯] at K;have L:C_ q i=C_ q j:=Prod.ext ⋯ ⋯;rcases Nat.lt_trichotomy i j with h | h | h
  ·exact absurd L (by have:=D i (j - i) ⋯ ⋯;rw [show i+(j - i)=j by omega] at this;exact this)
  ·exact h
  ·exact absurd L.symm (by have:=D j (i - j) ⋯ ⋯;rw [show j+(i - j)=i by omega] at this;exact this))
 omega
noncomputable def cN (M k s:Nat):Nat:=Nat.rec (motive:=λ_=>Nat->Nat) (λs=>s) (λ_ a s=>a ((s*s+(M - 2)) % M)) k s
noncomputable def cO (x:Nat) (f:Nat->Nat):Nat:=Nat.rec (motive:=λ_=>Nat) (f 0) (λn _=>f (n+1)) x
noncomputable def llo (M k j s:Nat):Nat:=Nat.rec (motive:=λ_=>Nat->Nat) (λs=>s) (λ_ a s=>cO (cN M k s) a) j s
theorem MY (M:Nat):∀ k s,cN M k s=ll M k s
 | 0,_=>rfl
 | k+1,s=>MY M k _
def QR (x:Nat) (f:Nat->Nat):cO x f=f x:=by cases x <;> rfl
theorem MZ (M:Nat):∀ a b s,ll M (a+b) s=ll M b (ll M a s)
 | 0,b,s=>by rw [Nat.zero_add];rfl
 | a+1,b,s=>by rw [Nat.succ_add];exact MZ M a b _
theorem QS (M k:Nat):∀ j s,llo M k j s=ll M (k*j) s
 | 0,_=>rfl
 | j+1,s=>by
   show cO (cN M k s) (llo M k j)=_;rw [QR,MY,QS M k j,<-MZ];congr 1;rw [Nat.mul_succ,Nat.add_comm]
noncomputable def mers (e:Nat):Nat:=2 ^ e - 1
def Fo {n r k j:Nat} (e:n=k*j+r) (h:Nat.beq (cO (llo (mers (n+2)) k j 4) (λs=>cN (mers (n+2)) r s % mers (n+2))) 0=true):Pr (mers (n+2)):=by
 refine zJ ?_;replace h:=Nat.eq_of_beq_eq_true h;rw [QR,QS,MY,<-MZ,<-e] at h;exact h
def zK:Pr (mers 61):=Fo (n:=59) (r:=9) (k:=10) (j:=5) rfl (by decide +kernel)
def zL:Pr (mers 127):=Fo (n:=125) (r:=5) (k:=20) (j:=6) rfl (by decide +kernel)
def zM:Pr (mers 521):=Fo (n:=519) (r:=19) (k:=50) (j:=10) rfl (by decide +kernel)
def zN:Pr (mers 1279):=Fo (n:=1277) (r:=77) (k:=100) (j:=12) rfl (by decide +kernel)
def zO:Pr (mers 4423):=Fo (n:=4421) (r:=21) (k:=100) (j:=44) rfl (by decide +kernel)
def zP:Pr (mers 9941):=Fo (n:=9939) (r:=39) (k:=100) (j:=99) rfl (by decide +kernel)
def zQ:Pr (mers 21701):=Fo (n:=21699) (r:=99) (k:=150) (j:=144) rfl (by decide +kernel)
def zR:Pr (mers 44497):=Fo (n:=44495) (r:=95) (k:=200) (j:=222) rfl (by decide +kernel)
noncomputable def co (ns:dq) (k:Nat):Int:=ns.getD k 0
section
variable {α:Type} [Lean.Grind.CommRing α]
noncomputable def A3:List α->List α->List α
 | [],b=>b
 | a,[]=>a
 | x::a,y::b=>(x+y)::A3 a b
def J9 (a:List α):A3 a []=a:=by cases a <;> rfl
theorem Bh (g:Nat->α):∀ (a b:List α) (k:Nat),cvL (A3 a b) g k=cvL a g k+cvL b g k
 | [],b,k=>by show cvL b g k=0+cvL b g k;ext
 | x::a,[],k=>by rw [J9,BE];ext
 | x::a,y::b,0=>by show cvL ((x+y)::A3 a b) g 0=_;rw [Ax,Ax,Ax];ext
 | x::a,y::b,k+1=>by show cvL ((x+y)::A3 a b) g (k+1)=_;rw [Ar,Ar,Ar,Bh g a b k];ext
theorem BF (c:α) (g:Nat->α):∀ (a:List α) (k:Nat),cvL (a.map (c*·)) g k=c*cvL a g k
 | [],k=>by show (0:α)=c*0;ext
 | x::a,0=>by rw [Ds,Ax,Ax];ext
 | x::a,k+1=>by rw [Ds,Ar,Ar,BF c g a k];ext
noncomputable def Ay (s:Nat) (f:Nat->α) (k:Nat):α:=if s<=k then f (k - s) else 0
theorem HY (g:Nat->α):∀ (s:Nat) (a:List α) (k:Nat),cvL (List.replicate s 0++a) g k=Ay s (cvL a g) k
 | 0,a,k=>by unfold Ay;rw [kA (Ae k)];rfl
 | s+1,a,0=>by unfold Ay;rw [lZ ⋯];show cvL (0::(List.replicate s 0++a)) g 0=0;rw [Ax];ext
 | s+1,a,k+1=>by
   show cvL (0::(List.replicate s 0++a)) g (k+1)=_;rw [Ar,HY g s a k];unfold Ay;by_cases h:s<=k
   ·rw [kA h,kA ⋯,show k+1 - (s+1)=k - s by omega];ext
   ·rw [lZ h,lZ ⋯];ext
noncomputable def BW:List α->List α->List α
 | [],_=>[]
 | x::a,b=>A3 (b.map (x*·)) (0::BW a b)
theorem By (g:Nat->α):∀ (a b:List α) (k:Nat),cvL (BW a b) g k=cvL a (cvL b g) k
 | [],b,k=>rfl
 | x::a,b,k=>by
   show cvL (A3 (b.map (x*·)) (0::BW a b)) g k=_;rw [Bh,BF,Fl,Fl]
   have e:DZ (cvL (BW a b) g) k=DZ (cvL a (cvL b g)) k:=by
    cases k with
    | zero=>rfl
    | succ k=>exact By g a b k
   rw [e];ext
theorem Db (g:Nat->α) (s:α):∀ (a:List α) (k:Nat),cvL (a++[s]) g k=cvL a g k+s*Ay a.length g k
 | [],0=>by show cvL [s] g 0=0+s*g 0;rw [Ax];ext
 | [],k+1=>by show cvL [s] g (k+1)=0+s*g (k+1);rw [Ar,BE];ext
 | x::a,0=>by show cvL (x::(a++[s])) g 0=_;rw [Ax,Ax];unfold Ay;rw [lZ (by simp)];ext
 | x::a,k+1=>by
   show cvL (x::(a++[s])) g (k+1)=_;rw [Ar,Ar,Db g s a k]
   have e:Ay (x::a).length g (k+1)=Ay a.length g k:=by
    unfold Ay;rw [CB];by_cases h:a.length<=k
    ·rw [kA h,kA ⋯,show k+1 - (a.length+1)=k - a.length by omega]
    ·rw [lZ h,lZ ⋯]
   rw [e];ext
def Fr (a:List α) {g:Nat->α} (h:∀ k,g k=0) (k:Nat):cvL a g k=0:=by
 rw [BJ (c:=λk=>0*g k) (λj=>by rw [h j];ext) a k,DD];ext
end
def Cz (a:dq) (k:Nat):co a k=cvL a Aj k:=(Cy a k).symm
def Bz (a b:dq) (k:Nat):cvL a (co b) k=cvL b (co a) k:=by
 rw [BJ (Cz b) a k,Io,BJ (λj=>(Cz a j).symm) b k]
def Ah {a:dq} {k:Nat} (h:a.length<=k):co a k=0:=by
 unfold co;rw [AU,Bf h];rfl
theorem Et {g:dL} {n:Nat} (h:∀ i,n<=i->g i=0):∀ (a:dq) (k:Nat),a.length+n<=k+1->cvL a g k=0
 | [],_,_=>rfl
 | x::a,0,hk=>by
   rw [CB] at hk;rw [Ax,h 0 ⋯];omega
 | x::a,k+1,hk=>by
   rw [CB] at hk;rw [Ar,h (k+1) ⋯,Et h a k ⋯];omega
theorem Ma {p:Int} {g:dL} {n:Nat} (h:∀ i,n<i->p∣g i):∀ (a:dq) (k:Nat),a.length+n<=k->p∣cvL a g k
 | [],_,_=>Cu p
 | x::a,0,hk=>absurd hk (by rw [CB];omega)
 | x::a,k+1,hk=>by
   rw [CB] at hk;rw [Ar];exact Cr (E3 (h (k+1) ⋯)) (Ma h a k ⋯)
theorem KA {p:Nat} (hp:Pr p) {g:dL} {n:Nat} (q:¬ (p:Int)∣g n) (h:∀ i,n<i->(p:Int)∣g i) (S:dq) :
  (∀ k,n<=k->(p:Int)∣cvL S g k)->∀ s∈S,(p:Int)∣s:=by
 induction hl:S.length generalizing S with
 | zero=>intro _ s d;rw [CA.mp hl] at d;exact nomatch d
 | succ m r=>
   intro hk;have j:S≠[]:=λz=>by rw [z] at hl;simp at hl
   obtain ⟨T,t,rfl⟩:∃ T t,S=T++[t]:=⟨S.dropLast,S.getLast j,(GK j).symm⟩;have u:T.length=m:=by simpa using hl
   have o:(p:Int)∣t:=by
    have a:=hk (T.length+n) ⋯;rw [Db] at a;have b:=Ma h T (T.length+n) (AT _)
    have c:(p:Int)∣t*Ay T.length g (T.length+n):=by
     have:=Int.dvd_sub a b;rwa [show ∀ x y:Int,x+y - x=y by intro x y;omega] at this
    unfold Ay at c;rw [kA ⋯,show T.length+n - T.length=n by omega] at c;rcases hp.mulI c with z | z
    ·exact z
    ·exact absurd z q
   have e:=r T u (λk f=>by
    have a:=hk k f;rw [Db] at a;have:=Int.dvd_sub a (GH (c:=Ay T.length g k) o);rwa [show ∀ x y:Int,x+y - y=x by intro x y;omega] at this)
   intro s d;rcases EA.mp d with h | h
   ·exact e s h
   ·rw [B7.mp h];exact o
def Lz (g:dq):Prop:=0<g.length/\co g (g.length - 1)≠0
def QI (r o f:dL):Prop:=∃ d:Int,d≠0/\∃ U V:dq,∀ k,d*f k=cvL U r k+cvL V o k
def MQ (g f:dL):Prop:=∃ c:Int,c≠0/\∃ A:dq,∀ k,c*f k=cvL A g k
def QI.congr {r o f h:dL} (q:QI r o f) (e:∀ k,h k=f k):QI r o h:=by
 obtain ⟨d,a,U,V,b⟩:=q;exact ⟨d,a,U,V,λk=>by rw [e k];exact b k⟩
theorem QI.left (r o:dL):QI r o r:=⟨1,∅,[1],[],λk=>by
 rw [BE];cases k with
 | zero=>rw [Ax];omega
 | succ k=>rw [Ar,BE];omega⟩
theorem QI.right (r o:dL):QI r o o:=⟨1,∅,[],[1],λk=>by
 rw [BE];cases k with
 | zero=>rw [Ax];omega
 | succ k=>rw [Ar,BE];omega⟩
def QI.less {r o f h:dL} (q:QI r o f) (i:QI r o h) (a w:Int) (s:Nat):QI r o (λk=>a*f k - w*Ay s h k):=by
 obtain ⟨d,j,U,V,m⟩:=q;obtain ⟨c,e,n,p,g⟩:=i;refine ⟨d*c,BV j e,A3 (U.map (c*a*·)) (List.replicate s 0++n.map (-(d*w)*·)),A3 (V.map (c*a*·)) (List.replicate s 0++p.map (-(d*w)*·)),λk=>?_⟩;show d*c*(a*f k - w*Ay s h k)=_;rw [Bh,Bh,BF,BF,HY,HY];unfold Ay;have u:=m k;by_cases b:s<=k
 ·rw [kA b,kA b,kA b,BF,BF];have v:=g (k - s);ext
 ·rw [lZ b,lZ b,lZ b];ext
def QI.scal {r o f:dL} {c:Int} (a:c≠0) (q:QI r o (λk=>c*f k)):QI r o f:=by
 obtain ⟨d,b,U,V,e⟩:=q;exact ⟨d*c,BV b a,U,V,λk=>by rw [<-e k];ext⟩
theorem MQ.refl (g:dL):MQ g g:=⟨1,∅,[1],λk=>by
 cases k with
 | zero=>rw [Ax];omega
 | succ k=>rw [Ar,BE];omega⟩
def MQ.zero (g:dL) {f:dL} (h:∀ k,f k=0):MQ g f:=⟨1,∅,[],λk=>by rw [BE,h k];rfl⟩
def MQ.congr {g f h:dL} (m:MQ g f) (e:∀ k,h k=f k):MQ g h:=by
 obtain ⟨c,a,A,b⟩:=m;exact ⟨c,a,A,λk=>by rw [e k];exact b k⟩
def MQ.less {g f h:dL} (m:MQ g f) (j:MQ g h) (a w:Int) (s:Nat):MQ g (λk=>a*f k - w*Ay s h k):=by
 obtain ⟨d,n,U,o⟩:=m;obtain ⟨c,e,p,i⟩:=j;refine ⟨d*c,BV n e,A3 (U.map (c*a*·)) (List.replicate s 0++p.map (-(d*w)*·)),λk=>?_⟩;show d*c*(a*f k - w*Ay s h k)=_;rw [Bh,BF,HY];unfold Ay;have q:=o k;by_cases b:s<=k
 ·rw [kA b,kA b,BF];have r:=i (k - s);ext
 ·rw [lZ b,lZ b];ext
def MQ.scal {g f:dL} {c:Int} (a:c≠0) (m:MQ g (λk=>c*f k)):MQ g f:=by
 obtain ⟨d,b,A,e⟩:=m;exact ⟨d*c,BV b a,A,λk=>by rw [<-e k];ext⟩
def MQ.trans {g f h:dL} (m:MQ g f) (a:MQ f h):MQ g h:=by
 obtain ⟨c,b,A,i⟩:=m;obtain ⟨d,j,B,n⟩:=a;refine ⟨c*d,BV b j,BW B A,λk=>?_⟩;rw [By];have e:c*cvL B f k=cvL B (cvL A g) k:=by rw [<-DD];exact BJ i B k
 rw [<-e,<-n k];ext
def MQ.of_QI {r o f g:dL} (a:MQ g r) (b:MQ g o) (q:QI r o f):MQ g f:=by
 obtain ⟨d,h,U,V,i⟩:=q;obtain ⟨c,j,A,m⟩:=a;obtain ⟨e,n,B,p⟩:=b;refine ⟨c*e*d,BV (BV j n) h,A3 ((BW U A).map (e*·)) ((BW V B).map (c*·)),λk=>?_⟩;rw [Bh,BF,BF,By,By];have u:c*cvL U r k=cvL U (cvL A g) k:=by rw [<-DD];exact BJ m U k
 have v:e*cvL V o k=cvL V (cvL B g) k:=by rw [<-DD];exact BJ p V k
 have w:=i k;ext
def QI.of_MQ {r o f h:dL} (q:QI r o f) (m:MQ f h):QI r o h:=by
 obtain ⟨c,a,A,b⟩:=m;obtain ⟨d,g,U,V,i⟩:=q;refine ⟨d*c,BV g a,BW A U,BW A V,λk=>?_⟩;rw [By,By];have e:d*cvL A f k=cvL A (cvL U r) k+cvL A (cvL V o) k:=by rw [<-DD,<-HW];exact BJ i A k
 rw [<-e,<-b k];ext
def Mb {f:dq} (h:co f (f.length - 1)=0) (k:Nat):co f.dropLast k=co f k:=by
 unfold co at *;rw [AU,AU];rw [List.getElem?_dropLast];by_cases hk:k<f.length - 1
 ·rw [kA hk]
 ·rw [lZ hk];by_cases e:k=f.length - 1
  ·subst e;rw [AU] at h;rw [h];rfl
  ·rw [Bf ⋯]
theorem Dz (f:dq):(∀ k,co f k=0)\/∃ g,Lz g/\g.length<=f.length/\∀ k,co g k=co f k:=by
 induction hn:f.length generalizing f with
 | zero=>exact .inl λk=>Ah ⋯
 | succ n a=>
   by_cases h:co f (f.length - 1)=0
   ·rcases a f.dropLast (by rw [List.length_dropLast];omega) with z | ⟨g,b,d,c⟩
    ·exact .inl λk=>by rw [<-Mb h];exact z k
    ·exact .inr ⟨g,b,⋯,λk=>by rw [c,Mb h]⟩
   ·exact .inr ⟨f,⟨⋯,h⟩,⋯,λ_=>rfl⟩
def KC (n:Nat) (F:dL) (k:Nat):co ((List.range n).map F) k=if k<n then F k else 0:=by
 unfold co;rw [AU,Aq];by_cases h:k<n
 ·rw [kA h,DU h];rfl
 ·rw [lZ h,Bf (by rw [BL];omega)];rfl
structure Gen (r o:dL) (g:dq):Prop where
 lz:Lz g
 qi:QI r o (co g)
 len:∀ h,Lz h->QI r o (co h)->g.length<=h.length
 last:∀ h,Lz h->QI r o (co h)->h.length=g.length->(co g (g.length - 1)).natAbs<=(co h (h.length - 1)).natAbs
def zT {r o:dL} {f:dq} (d:Lz f) (q:QI r o (co f)):∃ g,Gen r o g:=by
 have L:∀ n,(∃ f,f.length=n/\Lz f/\QI r o (co f))->∃ m,(∃ f,f.length=m/\Lz f/\QI r o (co f))/\∀ h,Lz h->QI r o (co h)->m<=h.length:=by
  intro n
  induction n using Nat.strongRecOn with
  | _ n e=>
    intro k;by_cases a:∃ m,m<n/\∃ f,f.length=m/\Lz f/\QI r o (co f)
    ·obtain ⟨m,i,a⟩:=a;exact e m i a
    ·refine ⟨n,k,λh b c=>?_⟩;rcases Av h.length n with z | z
     ·exact absurd ⟨h.length,z,h,rfl,b,c⟩ a
     ·exact z
 obtain ⟨m,⟨p,u,v,w⟩,i⟩:=L f.length ⟨f,rfl,d,q⟩
 have M:∀ n,(∃ f,f.length=m/\Lz f/\QI r o (co f)/\(co f (f.length - 1)).natAbs=n)->∃ g,Gen r o g:=by
  intro n
  induction n using Nat.strongRecOn with
  | _ n e=>
    rintro ⟨f,x,d,y,B⟩;by_cases a:∃ j,j<n/\∃ f,f.length=m/\Lz f/\QI r o (co f)/\(co f (f.length - 1)).natAbs=j
    ·obtain ⟨j,A,a⟩:=a;exact e j A a
    ·refine ⟨f,d,y,λh b c=>by rw [x];exact i h b c,λh b c C=>?_⟩;rcases Av (co h (h.length - 1)).natAbs (co f (f.length - 1)).natAbs with z | z
     ·exact absurd ⟨_,⋯,h,⋯,b,c,rfl⟩ a
     ·exact z
 exact M _ ⟨p,u,v,w,rfl⟩
theorem Gen.mq {r o:dL} {g:dq} (G:Gen r o g):∀ (n:Nat) (f:dq),f.length<=n->QI r o (co f)->MQ (co g) (co f)
 | 0,f,h,_=>MQ.zero _ λk=>Ah ⋯
 | n+1,f,h,q=>by
   rcases Dz f with z | ⟨b,u,A,i⟩
   ·exact MQ.zero _ z
   have j:QI r o (co b):=q.congr i;have B:=G.len b u j;refine MQ.congr (f:=co b) ?_ λk=>(i k).symm;generalize C:b.length - g.length=s;have D:=G.lz.1;let F:dq:=(List.range (b.length - 1)).map λk=>co g (g.length - 1)*co b k - co b (b.length - 1)*Ay s (co g) k
   have p:∀ k,co F k=co g (g.length - 1)*co b k - co b (b.length - 1)*Ay s (co g) k:=λk=>by
    rw [KC];by_cases hk:k<b.length - 1
    ·rw [kA hk]
    ·rw [lZ hk];unfold Ay;by_cases e:k=b.length - 1
     ·rw [kA ⋯,e,show b.length - 1 - s=g.length - 1 by omega];ext
     ·rw [Ah (a:=b) ⋯];by_cases d:s<=k
      ·rw [kA d,Ah (a:=g) (k:=k - s) ⋯];omega
      ·rw [lZ d];omega
   have v:QI r o (co F):=QI.congr (j.less G.qi (co g (g.length - 1)) (co b (b.length - 1)) s) p
   have w:F.length<=n:=by
    have:F.length=b.length - 1:=by show ((List.range (b.length - 1)).map _).length=_;rw [AR,BL]
    omega
   have m:=Gen.mq G n F w v;have x:=MQ.less (MQ.congr m λk=>(p k).symm) (MQ.refl (co g)) 1 (-(co b (b.length - 1))) s;refine MQ.scal (c:=co g (g.length - 1)) G.lz.2 (MQ.congr x λk=>?_);show _=1*_ - _*Ay s (co g) k;generalize Ay s (co g) k=y;ext
def Gen.prim {r o:dL} {g:dq} (G:Gen r o g) {p:Nat} (hp:2<=p):∃ n,¬ (p:Int)∣co g n/\∀ i,n<i->(p:Int)∣co g i:=by
 have b:∀ n,(∀ i,n<=i->(p:Int)∣co g i)->(∀ i,(p:Int)∣co g i)\/∃ n,¬ (p:Int)∣co g n/\∀ i,n<i->(p:Int)∣co g i:=by
  intro n
  induction n with
  | zero=>intro h;exact .inl λi=>h i (Ae i)
  | succ n v=>
    intro h;by_cases m:(p:Int)∣co g n
    ·exact v λi d=>by
      by_cases e:i=n
      ·rw [e];exact m
      ·exact h i ⋯
    ·exact .inr ⟨n,m,λi d=>h i ⋯⟩
 rcases b g.length (λi d=>by rw [Ah d];exact Cu _) with h | h
 ·exfalso;let a:dq:=g.map (·/ (p:Int))
  have f:∀ k,(p:Int)*co a k=co g k:=λk=>by
   have:co a k=co g k / (p:Int):=by
    show (g.map (·/ (p:Int))).getD k 0=g.getD k 0 / (p:Int);rw [AU,AU,Aq];cases g[k]? with
    | none=>exact (Int.zero_ediv _).symm
    | some z=>rfl
   rw [this,GN (h k)]
  have w:(p:Int)≠0:=by omega
  have Cj:a.length=g.length:=AR ..;have q:co a (a.length - 1)≠0:=λz=>G.lz.2 (by rw [<-f,<-Cj,z];omega);have x:Lz a:=⟨by rw [Cj];exact G.lz.1,q⟩;have y:QI r o (co a):=QI.scal (c:=(p:Int)) w (QI.congr G.qi f);have u:=G.last a x y Cj;have j:=f (g.length - 1);rw [<-Cj] at j;rw [Cj] at j u;rw [<-j,BX,Ct] at u;rw [Cj] at q;have A:0<(co a (g.length - 1)).natAbs:=by omega
  have:=Bk (co a (g.length - 1)).natAbs hp;omega
 ·exact h
def Gen.loc {r o:dL} {g:dq} (G:Gen r o g) {p:Nat} (hp:Pr p) {f:dL} (m:MQ (co g) f) :
  ∃ (c:Int) (A:dq),¬ (p:Int)∣c/\∀ k,c*f k=cvL A (co g) k:=by
 obtain ⟨n,n0,n1⟩:=G.prim hp.two;obtain ⟨c,v,A,b⟩:=m
 have i:∀ (m:Nat) (c:Int) (A:dq),c.natAbs<=m->c≠0->(∀ k,c*f k=cvL A (co g) k)->∃ (c:Int) (A:dq),¬ (p:Int)∣c/\∀ k,c*f k=cvL A (co g) k:=by
  intro m
  induction m with
  | zero=>intro c A h u;omega
  | succ m w=>
    intro c A h u b;by_cases j:(p:Int)∣c
    ·have x:∀ a∈A,(p:Int)∣a:=KA hp n0 n1 A λk _=>by rw [<-b k];exact GH j
     obtain ⟨d,rfl⟩:=j;have y:=hp.two;have q:d≠0:=λz=>u (by rw [z];omega)
     have B:A=(A.map (·/ (p:Int))).map ((p:Int)*·):=by
      rw [List.map_map]
      conv=>lhs;rw [<-List.map_id A]
      refine Ej λa C=>?_;show a=(p:Int)*(a / (p:Int));rw [GN (x a C)]
     refine w d (A.map (·/ (p:Int))) ?_ q λk=>?_
     ·rw [BX,Ct] at h;have D:0<d.natAbs:=by omega
      have:=Bk d.natAbs y;omega
     ·have e:=b k;rw [B,BF,Int.mul_assoc] at e;exact Int.eq_of_mul_eq_mul_left ⋯ e
    ·exact ⟨c,A,j,b⟩
 exact i _ c A (AT _) v b
theorem zU (a b:Nat):∃ x y:Int,x*a+y*b=(Nat.gcd a b:Int):=by
 induction a,b using Nat.gcd.induction with
 | H0 n=>exact ⟨0,1,by simp⟩
 | H1 m n d c=>
   obtain ⟨x,y,h⟩:=c;refine ⟨y - x*((n / m:Nat):Int),x,?_⟩;rw [Nat.gcd_rec,<-h]
   have e:(n:Int)=(m:Int)*((n / m:Nat):Int)+((n % m:Nat):Int):=by
    have:=Nat.div_add_mod n m;exact_mod_cast this.symm
   generalize ((n / m:Nat):Int)=q at *;generalize ((n % m:Nat):Int)=w at *;rw [e];ext
def zV (a b:Int):∃ x y:Int,x*a+y*b=(Int.gcd a b:Int):=by
 obtain ⟨x,y,h⟩:=zU a.natAbs b.natAbs
 have s:∀ z:Int,∃ e:Int,(z.natAbs:Int)=e*z:=λz=>by
  rcases Int.natAbs_eq z with h | h
  ·exact ⟨1,⋯⟩
  ·exact ⟨-1,⋯⟩
 obtain ⟨e,c⟩:=s a;obtain ⟨f,d⟩:=s b;refine ⟨x*e,y*f,?_⟩;show _=((Nat.gcd a.natAbs b.natAbs:Nat):Int);rw [<-h,c,d];ext
def Dm (p:Int) (g f:dL):Prop:=∃ S:dq,∀ k,p∣f k - cvL S g k
def Gen.dm {r o:dL} {g:dq} (G:Gen r o g) {p:Nat} (hp:Pr p) {f:dL} (m:MQ (co g) f):Dm (p:Int) (co g) f:=by
 obtain ⟨c,A,d,e⟩:=G.loc hp m
 have b:Int.gcd c (p:Int)=1:=by
  have:=hp.cop (a:=c.natAbs) λz=>d (C5.mp (by rw [Ct];exact z));exact this
 obtain ⟨x,y,i⟩:∃ x y:Int,x*c+y*(p:Int)=1:=by
  obtain ⟨x,y,h⟩:=zV c (p:Int);exact ⟨x,y,by rw [h,b];rfl⟩
 refine ⟨A.map (x*·),λk=>⟨f k*y,?_⟩⟩;rw [BF,<-e k];ext
def Dm.less {p:Int} {g f h:dL} (m:Dm p g f) (d:Dm p g h) (a w:Int) (s:Nat):Dm p g (λk=>a*f k - w*Ay s h k):=by
 obtain ⟨S,e⟩:=m;obtain ⟨i,c⟩:=d;refine ⟨A3 (S.map (a*·)) (List.replicate s 0++i.map (-w*·)),λk=>?_⟩;show p∣a*f k - w*Ay s h k - _;rw [Bh,BF,HY];unfold Ay;obtain ⟨x,j⟩:=e k;by_cases b:s<=k
 ·rw [kA b,kA b,BF];obtain ⟨y,n⟩:=c (k - s);exact ⟨a*x - w*y,()⟩
 ·rw [lZ b,lZ b];exact ⟨a*x,()⟩
def Dm.congr {p:Int} {g f h:dL} (m:Dm p g f) (e:∀ k,p∣h k - f k):Dm p g h:=by
 obtain ⟨S,a⟩:=m;exact ⟨S,λk=>by have:=Cr (e k) (a k);rwa [show ∀ x y z:Int,x - y+(y - z)=x - z by intro x y z;omega] at this⟩
def Dm.zero (p:Int) (g:dL) {f:dL} (h:∀ k,p∣f k):Dm p g f:=⟨[],λk=>by rw [BE];simpa using h k⟩
def Gen.lead {r o:dL} {g R:dq} (G:Gen r o g) {p:Nat} (hp:Pr p) (C:Lz R) (m:MQ (co g) (co R)) (h:¬ (p:Int)∣co R (R.length - 1)):¬ (p:Int)∣co g (g.length - 1):=by
 intro D;obtain ⟨n,n0,n1⟩:=G.prim hp.two;obtain ⟨c,A,b,d⟩:=G.loc hp m
 have K:n+1<g.length:=by
  rcases Av n g.length with z | z
  ·rcases Av (n+1) g.length with y | y
   ·exact y
   ·exact absurd D (by rw [show g.length - 1=n by omega];exact n0)
  ·exact absurd (by rw [Ah z];exact Cu _) n0
 rcases Dz A with z | ⟨B,f,_,E⟩
 ·have:c*co R (R.length - 1)=0:=by
   rw [d,Bz,Fr g z]
  rcases Int.mul_eq_zero.mp this with e | e
  ·exact b (by rw [e];exact Cu _)
  ·exact C.2 e
 ·have q:∀ k,c*co R k=cvL B (co g) k:=λk=>by rw [d,Bz,BJ (λj=>(E j).symm) g k,<-Bz]
  have L:B.length+g.length<=R.length+1:=by
   rcases Av (R.length+1) (B.length+g.length) with z | z
   ·exfalso;have u:=f.1;have M:=G.lz.1;have e:=q (B.length - 1+(g.length - 1));rw [Ah ⋯] at e;have v:B≠[]:=λz=>by rw [z] at u;simp at u
    obtain ⟨T,t,a⟩:∃ T t,B=T++[t]:=⟨B.dropLast,B.getLast v,(GK v).symm⟩;have F:T.length=B.length - 1:=by rw [a];simp
    have H:co B (B.length - 1)=t:=by rw [<-F,a];unfold co;simp [AU]
    rw [a,Db,<-a,Et (n:=g.length) (λi I=>Ah I) T _ ⋯] at e;unfold Ay at e;rw [kA ⋯,show B.length - 1+(g.length - 1) - T.length=g.length - 1 by omega] at e;have J:t*co g (g.length - 1)=0:=by omega
    rcases Int.mul_eq_zero.mp J with x | x
    ·exact f.2 (H.trans x)
    ·exact G.lz.2 x
   ·exact z
  have w:=Ma n1 B (R.length - 1) ⋯;rw [<-q] at w;rcases hp.mulI w with x | x
  ·exact b x
  ·exact h x
def Dm.len {p:Nat} (hp:Pr p) {g f:dq} (o:0<g.length) (b:¬ (p:Int)∣co g (g.length - 1)) (d:Dm (p:Int) (co g) (co f)) (j:∃ k,¬ (p:Int)∣co f k):g.length<=f.length:=by
 rcases Av f.length g.length with z | z
 ·exfalso;obtain ⟨S,a⟩:=d
  have sS:=KA hp b (λi q=>by rw [Ah ⋯];exact Cu _) S λk hk=>by
   have:=a k;rw [Ah ⋯] at this;have e:=Int.dvd_neg.mpr this;rwa [show ∀ x:Int,-(0 - x)=x by intro x;omega] at e
  obtain ⟨k,hk⟩:=j;apply hk
  have c:∀ (S:dq),(∀ s∈S,(p:Int)∣s)->∀ k,(p:Int)∣cvL S (co g) k:=by
   intro S
   induction S with
   | nil=>intro _ k;exact Cu _
   | cons x S m=>
     intro h k;rw [Fl];refine Cr (GH (h x (CC ..))) ?_;cases k with
     | zero=>exact Cu _
     | succ k=>exact m (λs n=>h s (CD _ n)) k
  have:=Cr (a k) (c S sS k);rwa [Int.sub_add_cancel] at this
 ·exact z
structure RC (r o:dL) (g:dq):Prop where
 lz:Lz g
 left:MQ (co g) r
 right:MQ (co g) o
 qi:QI r o (co g)
def Gen.rc {R O g:dq} (G:Gen (co R) (co O) g):RC (co R) (co O) g:=
 ⟨G.lz,G.mq _ R (AT _) (QI.left _ _),G.mq _ O (AT _) (QI.right _ _),G.qi⟩
def zW {r o:dL} {g h:dq} (G:RC r o g) (b:Lz h) (f:MQ (co h) r) (m:MQ (co h) o) (J:g.length<=h.length):RC r o h:=by
 refine ⟨b,f,m,G.qi.of_MQ ?_⟩;obtain ⟨d,A,T,p⟩:=MQ.of_QI f m G.qi;rcases Dz T with z | ⟨B,c,_,C⟩
 ·exfalso;have:d*co g (g.length - 1)=0:=by rw [p,Bz,Fr h z]
  rcases Int.mul_eq_zero.mp this with e | e
  ·exact A e
  ·exact G.lz.2 e
 ·have q:∀ k,d*co g k=cvL B (co h) k:=λk=>by rw [p,Bz,BJ (λj=>(C j).symm) h k,<-Bz]
  have u:=c.1;have K:=b.1;have v:B≠[]:=λz=>by rw [z] at u;simp at u
  obtain ⟨X,t,a⟩:∃ X t,B=X++[t]:=⟨B.dropLast,B.getLast v,(GK v).symm⟩;have D:X.length=B.length - 1:=by rw [a];simp
  have w:co B (B.length - 1)=t:=by rw [<-D,a];unfold co;simp [AU]
  have one:B.length=1:=by
   rcases Av 1 B.length with y | y
   ·exfalso;have e:=q (B.length - 1+(h.length - 1));rw [Ah ⋯,a,Db,<-a,Et (n:=h.length) (λi E=>Ah E) X _ ⋯] at e;unfold Ay at e;rw [kA ⋯,show B.length - 1+(h.length - 1) - X.length=h.length - 1 by omega] at e;have F:t*co h (h.length - 1)=0:=by omega
    rcases Int.mul_eq_zero.mp F with x | x
    ·exact c.2 (w.trans x)
    ·exact b.2 x
   ·omega
  have H:X=[]:=CA.mp ⋯;have I:t≠0:=λz=>c.2 (w.trans z);refine ⟨t,I,[d],λk=>?_⟩;have e:=q k;rw [a,H] at e;cases k with
  | zero=>rw [Ax];rw [show ([]++[t]:dq)=[t] from rfl,Ax] at e;omega
  | succ k=>rw [Ar,BE];rw [show ([]++[t]:dq)=[t] from rfl,Ar,BE] at e;omega
def Prim (g:dq):Prop:=∀ c:Int,(∀ k,c∣co g k)->c.natAbs=1
def Prim.top {g:dq} (P:Prim g) {p:Nat} (hp:2<=p):∃ n,¬ (p:Int)∣co g n/\∀ i,n<i->(p:Int)∣co g i:=by
 have a:∀ n,(∀ i,n<=i->(p:Int)∣co g i)->(∀ i,(p:Int)∣co g i)\/∃ n,¬ (p:Int)∣co g n/\∀ i,n<i->(p:Int)∣co g i:=by
  intro n
  induction n with
  | zero=>intro h;exact .inl λi=>h i (Ae i)
  | succ n d=>
    intro h;by_cases c:(p:Int)∣co g n
    ·exact d λi b=>by
      by_cases e:i=n
      ·rw [e];exact c
      ·exact h i ⋯
    ·exact .inr ⟨n,c,λi b=>h i ⋯⟩
 rcases a g.length (λi b=>by rw [Ah b];exact Cu _) with h | h
 ·have:=P (p:Int) h;omega
 ·exact h
def T_ {g:dq} (P:Prim g) {f:dL} (m:MQ (co g) f):∃ A:dq,∀ k,f k=cvL A (co g) k:=by
 obtain ⟨c,u,A,b⟩:=m
 have i:∀ (m:Nat) (c:Int) (A:dq),c.natAbs<=m->c≠0->(∀ k,c*f k=cvL A (co g) k)->∃ A:dq,∀ k,f k=cvL A (co g) k:=by
  intro m
  induction m with
  | zero=>intro c A h o;omega
  | succ m v=>
    intro c A h o b;by_cases q:c.natAbs=1
    ·rcases Int.natAbs_eq c with e | e
     ·exact ⟨A,λk=>by rw [<-b k,e,q];omega⟩
     ·exact ⟨A.map (-1*·),λk=>by rw [BF,<-b k,e,q];omega⟩
    ·obtain ⟨p,hp,w,_⟩:=QO (m:=c.natAbs) ⋯;have r:(p:Int)∣c:=C5.mp (by rw [Ct];exact w);obtain ⟨n,n0,n1⟩:=P.top hp.two;have x:∀ a∈A,(p:Int)∣a:=KA hp n0 n1 A λk _=>by rw [<-b k];exact GH r
     obtain ⟨d,rfl⟩:=r;have y:=hp.two;have j:d≠0:=λz=>o (by rw [z];omega)
     have B:A=(A.map (·/ (p:Int))).map ((p:Int)*·):=by
      rw [List.map_map]
      conv=>lhs;rw [<-List.map_id A]
      refine Ej λa C=>?_;show a=(p:Int)*(a / (p:Int));rw [GN (x a C)]
     refine v d (A.map (·/ (p:Int))) ?_ j λk=>?_
     ·rw [BX,Ct] at h;have D:0<d.natAbs:=by omega
      have:=Bk d.natAbs y;omega
     ·have e:=b k;rw [B,BF,Int.mul_assoc] at e;exact Int.eq_of_mul_eq_mul_left ⋯ e
 exact i _ c A (AT _) u b
noncomputable def evI:dq->Int->Int
 | [],_=>0
 | a::l,x=>a+x*evI l x
theorem KD:∀ (l:dq) (x:Int),(∀ k,co l k=0)->evI l x=0
 | [],_,_=>rfl
 | a::l,x,h=>by
   have b:a=0:=h 0;show a+x*evI l x=0;rw [b,KD l x λk=>h (k+1)];omega
theorem Mc:∀ (a b:dq) (x:Int),(∀ k,co a k=co b k)->evI a x=evI b x
 | [],b,x,h=>(KD b x λk=>(h k).symm).symm
 | a::l,[],x,h=>KD (a::l) x h
 | a::l,b::m,x,h=>by
   have c:a=b:=h 0;show a+x*evI l x=b+x*evI m x;rw [c,Mc l m x λk=>h (k+1)]
theorem QT:∀ (a b:dq) (x:Int),evI (A3 a b) x=evI a x+evI b x
 | [],b,x=>by show evI b x=0+evI b x;omega
 | a::l,[],x=>by rw [J9];show _=_+0;omega
 | a::l,b::m,x=>by
   show (a+b)+x*evI (A3 l m) x=a+x*evI l x+(b+x*evI m x);rw [QT l m x];ext
theorem QU (c:Int):∀ (a:dq) (x:Int),evI (a.map (c*·)) x=c*evI a x
 | [],x=>by show (0:Int)=c*0;omega
 | a::l,x=>by
   show c*a+x*evI (l.map (c*·)) x=c*(a+x*evI l x);rw [QU c l x];ext
theorem QV:∀ (a b:dq) (x:Int),evI (BW a b) x=evI a x*evI b x
 | [],b,x=>by show (0:Int)=0*_;omega
 | a::l,b,x=>by
   show evI (A3 (b.map (a*·)) (0::BW l b)) x=(a+x*evI l x)*evI b x;rw [QT,QU];show a*evI b x+(0+x*evI (BW l b) x)=_;rw [QV l b x];ext
def zZ (a b:dq) (k:Nat):co (BW a b) k=cvL a (co b) k:=by
 rw [Cz,By];exact BJ (λj=>(Cz b j).symm) a k
def yA {r a g:dq} (h:∀ k,co r k=cvL a (co g) k) (x:Int):evI r x=evI a x*evI g x:=by
 rw [<-QV];exact Mc r (BW a g) x λk=>by rw [zZ];exact h k
theorem QW {b c:Nat} {x:Int} (d:Bd c x):∀ (l:dq),(∀ z∈l,Bd b z)->Bd (b+l.length*(c+1)) (evI l x)
 | [],_=>Cn _
 | a::l,f=>by
   show Bd _ (a+x*evI l x);have g:=f a (CC ..);have h:=d.mul (QW d l λz i=>f z (CD _ i));have e:(l.length+1)*(c+1)=l.length*(c+1)+(c+1):=by rw [Cl,Nat.one_mul]
   refine ((g.mono (n:=c+(b+l.length*(c+1))) ⋯).add h).mono ?_;rw [CB,e];omega
noncomputable def aa:dq->Int->dq
 | [],_=>[]
 | _::l,t=>evI l t::aa l t
theorem KE:∀ (l:dq) (t:Int),(aa l t).length=l.length
 | [],_=>rfl
 | _::l,t=>congrArg (·+1) (KE l t)
theorem Me:∀ (l:dq) (t x:Int),evI l x - evI l t=(x - t)*evI (aa l t) x
 | [],t,x=>by show (0:Int) - 0=_*0;omega
 | a::l,t,x=>by
   show a+x*evI l x - (a+t*evI l t)=(x - t)*(evI l t+x*evI (aa l t) x);have:=Me l t x;ext
theorem KF:∀ (l:dq) (t:Int) (k:Nat),co l k=(if k=0 then evI l t else co (aa l t) (k - 1)) - t*co (aa l t) k
 | [],t,k=>by
   rw [show co (aa [] t) k=0 from Ah (Ae _),show co (aa [] t) (k - 1)=0 from Ah (Ae _),Ah (Ae _)];show 0=(if k=0 then 0 else 0) - _;split <;> omega
 | a::l,t,0=>by
   show a=a+t*evI l t - t*evI l t;omega
 | a::l,t,k+1=>by
   have:=KF l t k;show co l k=(if k+1=0 then _ else co (evI l t::aa l t) (k+1 - 1)) - t*co (aa l t) k;rw [lZ ⋯,this];cases k with
   | zero=>rfl
   | succ k=>rw [lZ ⋯];rfl
theorem yB (l:dq) (t:Int):co (aa l t) (l.length - 1)=0:=by
 induction l with
 | nil=>exact Ah (Ae _)
 | cons a l b=>
   show co (evI l t::aa l t) l.length=0;cases h:l.length with
   | zero=>rw [CA.mp h];rfl
   | succ m=>rw [h] at b;exact b
theorem aP {c:Nat}:∀ (d:Nat) (l:dq) (y:Nat) (x:dL),(∀ k,d<k->co l k=0)->(∀ i,i<=d->Bd c (x i))->(∀ i j,i<=d->j<=d->i≠j->x i≠x j)->(∀ i,i<=d->Bd y (evI l (x i)))->∀ k,Bd (y+d*(c+3)) (co l k)
 | 0,l,y,x,m,_,_,f,k=>by
   cases k with
   | zero=>
     have e:evI l (x 0)=co l 0:=by
      cases l with
      | nil=>rfl
      | cons a l=>
        show a+x 0*evI l (x 0)=a;rw [KD l (x 0) λk=>m (k+1) ⋯];omega
     have:=f 0 (AT 0);rw [e] at this;exact this.mono ⋯
   | succ k=>rw [m (k+1) ⋯];exact Cn _
 | d+1,l,y,x,m,q,r,f,k=>by
   have v:∀ j,d<j->co (aa l (x (d+1))) j=0:=by
    have g:∀ n,∀ j,d<j->l.length<=j+n->co (aa l (x (d+1))) j=0:=by
     intro n
     induction n with
     | zero=>intro j _ h;exact Ah (by rw [KE];omega)
     | succ n o=>
       intro j p h;have e:=KF l (x (d+1)) (j+1);rw [m (j+1) ⋯,lZ ⋯,o (j+1) ⋯ ⋯] at e;rw [show j+1 - 1=j by omega] at e;omega
    intro j p;exact g l.length j p ⋯
   have o:=aP d (aa l (x (d+1))) (y+1) x v (λi u=>q i ⋯) (λi j u p=>r i j ⋯ ⋯) (λi u=>by
    have e:=Me l (x (d+1)) (x i);have C:x i - x (d+1)≠0:=λz=>r i (d+1) ⋯ ⋯ ⋯ ⋯;have b:=(f i ⋯).sub (f (d+1) ⋯);rw [e] at b;refine b.le ?_;rw [BX];exact HE _ ⋯)
   have e:=KF l (x (d+1)) k;rw [e];have w:=q (d+1) (AT _);have A:=w.mul (o k);have em:(d+1)*(c+3)=d*(c+3)+(c+3):=by rw [Cl,Nat.one_mul]
   have B:Bd (c+(y+1+d*(c+3))) (if k=0 then evI l (x (d+1)) else co (aa l (x (d+1))) (k - 1)):=by
    split
    ·exact (f (d+1) (AT _)).mono ⋯
    ·exact (o (k - 1)).mono ⋯
   exact (B.sub A).mono ⋯
end Bs
namespace Bs
open PySem L2
def isN (H:Hp) (v:V) (q:Nu):Prop:=∃ p,v=.ref p/\H p=some (.tup [.int q.1,.int q.2])
noncomputable def Nums (H:Hp):dj->d7->Prop
 | [],[]=>True
 | x::a,q::l=>isN H x q/\Nums H a l
 | _,_=>False
def Tp (H c:Hp):Prop:=∀ b a,H b=some (.tup a)->c b=some (.tup a)
def M_ {H a:Hp} (s:Same H a):Tp H a:=λb c h=>s b _ h
def Tp.trans {H d e:Hp} (a:Tp H d) (b:Tp d e):Tp H e:=λc f h=>b c f (a c f h)
def Kp.tp {p:Addr} {H a:Hp} {xs:dj} (k:Kp p H a) (h:H p=some (.lst xs)):Tp H a:=λb c q=>k b _ (Vu q h (by intro z;cases z)) q
def Tp.updL {p:Addr} {H:Hp} {xs a:dj} (h:H p=some (.lst xs)):Tp H (upd H p (.lst a)):=Kp.tp Kp.upd h
def isN.tp {H a:Hp} {v:V} {q:Nu} (h:isN H v q) (t:Tp H a):isN a v q:=let ⟨p,e,z⟩:=h;⟨p,e,t _ _ z⟩
theorem Nums.tp {H a:Hp} (t:Tp H a):∀ {xs:dj} {l:d7},Nums H xs l->Nums a xs l
 | [],[],_=>trivial
 | _::_,_::_,h=>⟨h.1.tp t,Nums.tp t h.2⟩
 | [],_::_,h=>h.elim
 | _::_,[],h=>h.elim
theorem Nums.length {H:Hp}:∀ {xs:dj} {l:d7},Nums H xs l->xs.length=l.length
 | [],[],_=>rfl
 | _::_,_::_,h=>congrArg (·+1) (Nums.length h.2)
 | [],_::_,h=>h.elim
 | _::_,[],h=>h.elim
theorem Nums.get {H:Hp}:∀ {xs:dj} {l:d7} {i:Nat} {v:V},Nums H xs l->xs[i]?=some v->∃ q,l[i]?=some q/\isN H v q
 | [],[],_,_,_,e=>by simp at e
 | _::_,q::_,0,_,h,e=>by simp at e;subst e;exact ⟨q,rfl,h.1⟩
 | _::_,_::_,i+1,_,h,e=>by
   obtain ⟨q,a,b⟩:=Nums.get (i:=i) h.2 (by simpa using e);exact ⟨q,by simpa using a,b⟩
 | [],_::_,_,_,h,_=>h.elim
 | _::_,[],_,_,h,_=>h.elim
def Nums.at {H:Hp} {xs:dj} {l:d7} {i:Nat} (h:Nums H xs l) (b:i<l.length) (d:Nu):∃ v,xs[i]?=some v/\isN H v (l.getD i d):=by
 have a:i<xs.length:=by rw [h.length];exact b
 obtain ⟨q,c,e⟩:=h.get (Az a);refine ⟨_,Az a,?_⟩;rw [AU,c];exact e
theorem Nums.append {H:Hp}:∀ {xs a:dj} {l m:d7},Nums H xs l->Nums H a m->Nums H (xs++a) (l++m)
 | [],_,[],_,_,h=>h
 | _::_,_,_::_,_,h,b=>⟨h.1,Nums.append h.2 b⟩
 | [],_,_::_,_,h,_=>h.elim
 | _::_,_,[],_,h,_=>h.elim
def Nums.one {H:Hp} {v:V} {q:Nu} (h:isN H v q):Nums H [v] [q]:=⟨h,trivial⟩
theorem Nums.take {H:Hp}:∀ {xs:dj} {l:d7} (n:Nat),Nums H xs l->Nums H (xs.take n) (l.take n)
 | [],[],n,_=>by simp [Nums]
 | _::_,_::_,0,_=>trivial
 | _::_,_::_,n+1,h=>⟨h.1,Nums.take n h.2⟩
 | [],_::_,_,h=>h.elim
 | _::_,[],_,h=>h.elim
theorem Nums.set {H:Hp} {v:V} {q:Nu} (a:isN H v q):∀ {xs:dj} {l:d7} (i:Nat),Nums H xs l->Nums H (xs.set i v) (l.set i q)
 | [],[],_,_=>trivial
 | _::_,_::_,0,h=>⟨a,h.2⟩
 | _::_,_::_,i+1,h=>⟨h.1,Nums.set a i h.2⟩
 | [],_::_,_,h=>h.elim
 | _::_,[],_,h=>h.elim
theorem Nums.rep {H:Hp} {v:V} {q:Nu} (a:isN H v q):∀ n:Nat,Nums H (List.replicate n v) (List.replicate n q)
 | 0=>trivial
 | n+1=>⟨a,Nums.rep a n⟩
theorem HZ {a:Type} (v:a):∀ n:Nat,(List.replicate n [v]).flatten=List.replicate n v
 | 0=>rfl
 | n+1=>by rw [GG,List.flatten_cons,HZ v n];rfl
def Dl {a:Type} {xs:List a} {i:Int} {j:Nat} {v:a} (e:i=(j:Int)) (h:xs[j]?=some v):N_ xs i=some v:=by subst e;exact IU h
def Ft {H:Hp} {p:Addr} {q:Nu}:isN (upd H p (.tup [.int q.1,.int q.2])) (.ref p) q:=⟨p,rfl,upd_same⟩
def Mf {xs:dj} {m:Nat} (h:m<=xs.length):CN xs none (some (m:Int))=xs.take m:=by
 unfold CN HT.sIx;simp only [List.drop_zero,DJ,DR];rw [lZ ⋯,Nat.min_eq_left h]
def Fu (H:Hp) (Q:VK) (l:d7):Prop:=∀ (r:Addr) (b:dj) (a:Hp),Same H a->a r=some (.tup b)->Nums a b l->Q (.ref r) a
noncomputable def D1 (q:Nu):W.Dat:=.tuple [.int q.1,.int q.2]
noncomputable def Fv (l:d7):W.Dat:=.tuple (l.map D1)
def FI {H:Hp} {v:V} {q:Nu} (h:isN H v q):RepD H v (D1 q):=by
 obtain ⟨p,rfl,hp⟩:=h;exact .tup hp (.cons (.int _) (.cons (.int _) .nil))
theorem QX {H:Hp}:∀ {xs:dj} {l:d7},Nums H xs l->RepA H xs (l.map D1)
 | [],[],_=>.nil
 | _::_,_::_,h=>.cons (FI h.1) (QX h.2)
 | [],_::_,h=>h.elim
 | _::_,[],h=>h.elim
def KG {H:Hp} {p:Addr} {xs:dj} {l:d7} (hp:H p=some (.tup xs)) (h:Nums H xs l):RepD H (.ref p) (Fv l):=.tup hp (QX h)
def bu (q:Nu) (n:Nat):W.kqdOk (n+1) (D1 q)=true:=by simp [D1,W.kqdOk]
def okP (l:d7) (n:Nat):W.kqdOk (n+2) (Fv l)=true:=by
 simp only [Fv,W.kqdOk,List.all_map,FV,Function.comp];intro q _;exact bu q n
section
variable {σ:L2.St} {H:Hp} {Q:VK} {D:Ends} {rest:TS} {sp:Sp} {E:XK}
def AO {i:Nat} {v:V} (a:σ[i]?=some (some v)) (h:Q v H):AB i σ H Q:=⟨v,a,h⟩
def A9 {i:Nat} {k:Int} {a:Addr} {xs:dj} {v:V} (b:σ[i]?=some (some (.ref a))) (c:H a=some (.tup xs)) (d:N_ xs k=some v) (h:Q v H):A_ gT (AB i) (tC (.int k)) σ H Q:=⟨_,b,a,k,xs,v,rfl,rfl,c,d,h⟩
def QY {i:Nat} {k:Int} {a:Addr} {xs:dj} {v:V} (b:σ[i]?=some (some (.ref a))) (c:H a=some (.lst xs)) (d:N_ xs k=some v) (h:Q v H):A_ gL (AB i) (tC (.int k)) σ H Q:=⟨_,b,a,k,xs,v,rfl,rfl,c,d,h⟩
def QZ {a:TE} {k:Nat} (h:a σ H λx b=>sp [x] b (λv c=>rest D (σ.set k (some v)) c) E):AI (AM (AE sp [] E (AA a AC)) (AH k)) rest D σ H:=h
def FJ {a b:TE} {k:Nat} (h:a σ H λx c=>b σ c λy d=>sp [x,y] d (λv e=>rest D (σ.set k (some v)) e) E):AI (AM (AE sp [] E (AA a (AA b AC))) (AH k)) rest D σ H:=h
def Ca {a:TE} (h:a σ H λx b=>sp [x] b Q E):AE sp [] E (AA a AC) σ H Q:=h
def Af {a b:TE} (h:a σ H λx c=>b σ c λy d=>sp [x,y] d Q E):AE sp [] E (AA a (AA b AC)) σ H Q:=h
def Hb {a b tc:TE} (h:a σ H λx c=>b σ c λy d=>tc σ d λz e=>sp [x,y,z] e Q E):AE sp [] E (AA a (AA b (AA tc AC))) σ H Q:=h
def BC {a:TE} {k:Nat} (h:a σ H λx b=>rest D (σ.set k (some x)) b):AI (AM a (AH k)) rest D σ H:=h
def Bt {a:TE} (h:a σ H D.rt):Ab a D σ H:=h
def KH {a:TE} (h:a σ H λx b=>[x].length<=sizeLine/\∀ p,b p=none->Q (.ref p) (upd b p (.tup [x]))):Ak (AA a AC) σ H Q:=h
def CJ {a b:TE} (h:a σ H λx d=>b σ d λy c=>[x,y].length<=sizeLine/\∀ p,c p=none->Q (.ref p) (upd c p (.tup [x,y]))):Ak (AA a (AA b AC)) σ H Q:=h
def yC {a b tc:TE} (h:a σ H λx d=>b σ d λy e=>tc σ e λz c=>[x,y,z].length<=sizeLine/\∀ p,c p=none->Q (.ref p) (upd c p (.tup [x,y,z]))):Ak (AA a (AA b (AA tc AC))) σ H Q:=h
def KI {a:TE} (h:a σ H λx b=>[x].length<=sizeLine/\∀ p,b p=none->Q (.ref p) (upd b p (.lst [x]))):B9 (AA a AC) σ H Q:=h
def L_ {v:V} (h:Q v H):tC v σ H Q:=h
def A6 {r:R2} {a b:TE} (h:a σ H λx c=>b σ c λy d=>r x y d Q):A_ r a b σ H Q:=h
def yD {k:Int} {a:Addr} {xs:dj} {v:V} (b:H a=some (.tup xs)) (c:N_ xs k=some v) (h:Q v H):gT (.ref a) (.int k) H Q:=⟨a,k,xs,v,rfl,rfl,b,c,h⟩
def KJ {k:Int} {a:Addr} {xs:dj} {v:V} (b:H a=some (.lst xs)) (c:N_ xs k=some v) (h:Q v H):gL (.ref a) (.int k) H Q:=⟨a,k,xs,v,rfl,rfl,b,c,h⟩
def Gf {b:dj->Hp->VK->Prop} {a:TE} (h:a σ H λx c=>b [x] c Q):K' b (AA a AC) σ H Q:=h
def Qa {a:TA} {g:TG} {b:TS} (h:a σ H (λc d=>∃ i j:Int,c=[.int i,.int j,.int (-1)]/\(-(2 ^ 62)<=i/\i<2 ^ 62/\-(2 ^ 62)<=j/\j<2 ^ 62)/\ForJ (cx i (i - j).toNat) g b { D with nx:=rest D } σ d)):AI (BH (HS a) g b) rest D σ H:=h
def Qb {a:TE} {g:TG} (h:a σ H λx b=>g x σ b (rest D)):AI (AM a g) rest D σ H:=h
def yE {b c tc d:TE} (h:b σ H λx e=>c σ e λy f=>tc σ f λz g=>d σ g λa i=>sp [x,y,z,a] i Q E):AE sp [] E (AA b (AA c (AA tc (AA d AC)))) σ H Q:=h
def yF {b:dj->Hp->VK->Prop} {a c:TE} (h:a σ H λx d=>c σ d λy e=>b [x,y] e Q):K' b (AA a (AA c AC)) σ H Q:=h
def yG {c d tc e f:TE} (h:c σ H λx g=>d σ g λy i=>tc σ i λz j=>e σ j λa k=>f σ k λb m=>sp [x,y,z,a,b] m Q E):AE sp [] E (AA c (AA d (AA tc (AA e (AA f AC))))) σ H Q:=h
def KK {i:Nat} {v:V} {σ:L2.St} {H:Hp} {Q:L2.St->Hp->Prop} (h:Q (σ.set i (some v)) H):AH i v σ H Q:=h
def yH {K:W.Frag} {b:TE} {capt:List (Option Nat)} {g:TG} {c:TE} {σ:L2.St} {H:Hp} {Q:VK} (h:b σ H (λx d=>∃ a,x=.ref a/\(∃ e,SqT K d a e)/\CompJ (aG K a) capt g c σ Q d)):Bb (C8 K b) capt g c σ H Q:=h
def Ip {a:TE} {k:Nat} {D:Ends} {σ:L2.St} {H:Hp} (h:a σ H λx b=>D.nx (σ.set k (some x)) b):AM a (AH k) D σ H:=h
def Gh {c:TT} {t u:TS} (h:c σ H λb a=>if b=true then t { D with nx:=rest D } σ a else u { D with nx:=rest D } σ a):AI (BG c t u) rest D σ H:=h
def FK {a:TE} {Q:Bool->Hp->Prop} (h:a σ H λx b=>∃ k,x=.bl k/\Q k b):A4 a σ H Q:=h
def Cj {x:V}:[x].length<=sizeLine:=by show 1<=_;exact sz ∅
def Bi {x y:V}:[x,y].length<=sizeLine:=by show 2<=_;exact sz ∅
def Fw {x y z:V}:[x,y,z].length<=sizeLine:=by show 3<=_;exact sz ∅
theorem Mg {H:Hp} {a x y:Addr} {A X Y:HO} {P:Hp->Prop} (g:H a=none) (i:upd H a A x=none) (d:upd (upd H a A) x X y=none) (k:∀ b,b a=some A->b y=some Y->Same H b->a≠y->H y=none->P b):P (upd (upd (upd H a A) x X) y Y):=by
 have f:=AQ g A;have c:=AQ i X;have sy:=AQ d Y;refine k _ (sy _ _ (c _ _ upd_same)) upd_same (λz o h=>sy z o (c z o (f z o h))) (B5 (c _ _ upd_same) d) ?_;cases e:H y with
 | none=>rfl
 | some o=>have:=c _ _ (f _ _ e);rw [d] at this;cases this
def yI {d H:Hp} {t w:Addr} {X:HO} {i e:dj} {P:Hp->Prop} (f:H t=none) (g:H w=some (.lst i)) (j:d w=none) (s:Same d H) (k:∀ a,Same d a->a w=some (.lst e)->a t=some X->Tp H a->(∀ c o,c≠w->H c=some o->a c=some o)->P a):P (upd (upd H t X) w (.lst e)):=by
 have st:=AQ f X;exact k _ (λb o h=>Kp.upd b o (B5 h j) (st b o (s b o h))) upd_same (Kp.upd _ _ (B5 g f).symm upd_same) (λb o h=>Tp.updL (st _ _ g) b o (st _ _ h)) λc o n h=>Kp.upd c o n (st _ _ h)
end
end Bs
set_option maxHeartbeats 4000000
namespace Bs
open PySem L2
theorem KL {g:dM} {n:Nat} (h:∀ i,n<i->g i=0):∀ (a:List Rat) (k:Nat),a.length+n<=k->cvL a g k=0
 | [],_,_=>rfl
 | x::a,0,hk=>absurd hk (by rw [CB];omega)
 | x::a,k+1,hk=>by
   rw [CB] at hk;rw [Ar,h (k+1) ⋯,KL h a k ⋯];ext
theorem Qe {g:dM} {n:Nat} (j:g n≠0) (h:∀ i,n<i->g i=0) (S:List Rat):(∀ k,n<=k->cvL S g k=0)->∀ s∈S,s=0:=by
 induction hl:S.length generalizing S with
 | zero=>intro _ s b;rw [CA.mp hl] at b;exact nomatch b
 | succ m o=>
   intro hk;have e:S≠[]:=λz=>by rw [z] at hl;simp at hl
   obtain ⟨T,t,rfl⟩:∃ T t,S=T++[t]:=⟨S.dropLast,S.getLast e,(GK e).symm⟩
   have f:t=0:=by
    have a:=hk (T.length+n) ⋯;rw [Db,KL h T _ (AT _)] at a;unfold Ay at a;rw [kA ⋯,show T.length+n - T.length=n by omega] at a;have p:t*g n=0:=by ext
    rcases Cg.mp p with z | z
    ·exact z
    ·exact absurd z j
   have c:=o T (by simpa using hl) (λk d=>by
    have a:=hk k d;rw [Db,f] at a;ext)
   intro s b;rcases EA.mp b with h | h
   ·exact c s h
   ·rw [B7.mp h];exact f
theorem Mh {g:dM}:∀ (S:List Rat),(∀ s∈S,s=0)->∀ k,cvL S g k=0
 | [],_,_=>rfl
 | x::S,h,0=>by rw [Ax,h x (CC ..)];ext
 | x::S,h,k+1=>by rw [Ar,h x (CC ..),Mh S (λs a=>h s (CD _ a)) k];ext
def Mi {G:dM} {n:Nat} (a:G n≠0) (b:∀ i,n<i->G i=0) {A B:List Rat} (h:∀ k,cvL A G k=cvL B G k) (g:dM) (k:Nat):cvL A g k=cvL B g k:=by
 have z:=Mh (g:=g) (A3 A (B.map ((-1:Rat)*·))) (Qe a b _ λk _=>by rw [Bh,BF,h k];ext) k;rw [Bh,BF] at z;ext
structure Sr where
 c:dM
def Sr.ext' {f g:Sr} (h:∀ k,f.c k=g.c k):f=g:=by
 cases f;cases g;congr;exact funext h
noncomputable def tr (n:Nat) (f:dM):List Rat:=(List.range n).map f
def Gi (n:Nat) (f:dM) (k:Nat):(tr n f).getD k 0=if k<n then f k else 0:=by
 unfold tr;rw [AU,Aq];by_cases h:k<n
 ·rw [DU h,kA h];rfl
 ·rw [lZ h,Bf (by rw [BL];omega)];rfl
theorem Iq:∀ (a b:List Rat) (g h:dM) (k:Nat),(∀ i,i<=k->a.getD i 0=b.getD i 0)->(∀ i,i<=k->g i=h i)->cvL a g k=cvL b h k:=by
 intro a
 induction a with
 | nil=>
   intro b
   induction b with
   | nil=>intro g h k _ _;rfl
   | cons y b j=>
     intro g h k c e;have m:=c 0 (Ae _);simp at m;cases k with
     | zero=>rw [BE,Ax,<-m];ext
     | succ k=>
       rw [BE,Ar,<-m];have:=j g h k (λi f=>by have:=c (i+1) ⋯;simpa using this) (λi f=>e i ⋯);rw [BE] at this;ext
 | cons x a j=>
   intro b g h k c e;cases b with
   | nil=>
     have d:=c 0 (Ae _);simp at d;cases k with
     | zero=>rw [BE,Ax,d];ext
     | succ k=>
       rw [BE,Ar,d];have:=j [] g h k (λi f=>by have:=c (i+1) ⋯;simpa using this) (λi f=>e i ⋯);rw [BE] at this;ext
   | cons y b=>
     have d:=c 0 (Ae _);simp at d;cases k with
     | zero=>rw [Ax,Ax,d,e 0 (AT _)]
     | succ k=>
       rw [Ar,Ar,d,e _ (AT _),j b g h k (λi f=>by have:=c (i+1) ⋯;simpa using this) (λi f=>e i ⋯)]
namespace Sr
noncomputable def zero:Sr:=⟨λ_=>0⟩
noncomputable def one:Sr:=⟨Aj⟩
noncomputable def add (f g:Sr):Sr:=⟨λk=>f.c k+g.c k⟩
noncomputable def neg (f:Sr):Sr:=⟨λk=>- f.c k⟩
noncomputable def mul (f g:Sr):Sr:=⟨λk=>cvL (tr (k+1) f.c) g.c k⟩
noncomputable def num (x:Rat):Sr:=⟨λk=>x*Aj k⟩
def KM (f g:Sr) {n k:Nat} (h:k<n):(mul f g).c k=cvL (tr n f.c) g.c k:=by
 refine Iq _ _ _ _ _ (λi a=>?_) (λ_ _=>rfl);rw [Gi,Gi,kA ⋯,kA ⋯]
def Mj (f g:Sr) {n m k:Nat} (h:k<n) (h':k<m):(mul f g).c k=cvL (tr n f.c) (cvL (tr m g.c) Aj) k:=by
 rw [KM f g h];refine Iq _ _ _ _ _ (λ_ _=>rfl) (λi a=>?_);rw [Cy,Gi,kA ⋯]
def mul_comm (f g:Sr):mul f g=mul g f:=ext' λk=>by
 rw [Mj f g (EE k) (EE k),Mj g f (EE k) (EE k),Io]
def mul_assoc (f g h:Sr):mul (mul f g) h=mul f (mul g h):=ext' λk=>by
 rw [KM (mul f g) h (EE k),KM f (mul g h) (EE k)]
 have a:cvL (tr (k+1) (mul f g).c) h.c k=cvL (BW (tr (k+1) f.c) (tr (k+1) g.c)) h.c k:=by
  refine Iq _ _ _ _ _ (λi b=>?_) (λ_ _=>rfl);rw [Gi,kA ⋯,<-Cy,By,Mj f g (n:=k+1) (m:=k+1) ⋯ ⋯]
 rw [a,By];exact Iq _ _ _ _ _ (λ_ _=>rfl) (λi b=>(KM g h ⋯).symm)
def mul_add (f g h:Sr):mul f (add g h)=add (mul f g) (mul f h):=ext' λk=>by
 show cvL (tr (k+1) f.c) (λk=>g.c k+h.c k) k=_;rw [HW];rfl
def mul_one (f:Sr):mul f one=f:=ext' λk=>by
 show cvL (tr (k+1) f.c) Aj k=_;rw [Cy,Gi,kA (EE k)]
def mul_zero (f:Sr):mul f zero=zero:=ext' λk=>by
 show cvL (tr (k+1) f.c) (λ_=>0) k=0;have:=DD (0:Rat) (λ_=>0) (tr (k+1) f.c) k;rw [show (λk:Nat=>(0:Rat)*(λ_=>(0:Rat)) k)=λ_=>0 from funext λ_=>by grind] at this;rw [this];ext
noncomputable def cy (f:Sr):Nat->Sr
 | 0=>one
 | n+1=>mul (cy f n) f
noncomputable instance:Add Sr:=⟨add⟩
noncomputable instance:Mul Sr:=⟨mul⟩
noncomputable instance:Neg Sr:=⟨neg⟩
noncomputable instance:Sub Sr:=⟨λf g=>add f (neg g)⟩
noncomputable instance:NatCast Sr:=⟨λn=>num (n:Rat)⟩
noncomputable instance:IntCast Sr:=⟨λn=>num (n:Rat)⟩
noncomputable instance (n:Nat):OfNat Sr n:=⟨num (n:Rat)⟩
noncomputable instance:Pow Sr Nat:=⟨cy⟩
noncomputable instance:SMul Nat Sr:=⟨λn f=>mul (num (n:Rat)) f⟩
noncomputable instance:SMul Int Sr:=⟨λn f=>mul (num (n:Rat)) f⟩
def num0:num 0=zero:=ext' λk=>by show 0*Aj k=(0:Rat);ext
def num1:num 1=one:=ext' λk=>by show 1*Aj k=(Aj k:Rat);ext
def num_add (x y:Rat):num (x+y)=add (num x) (num y):=ext' λk=>by show (x+y)*Aj k=x*Aj k+y*Aj k;ext
def num_neg (x:Rat):num (-x)=neg (num x):=ext' λk=>by show (-x)*Aj k = -(x*Aj k);ext
def add_comm (f g:Sr):add f g=add g f:=ext' λk=>by show f.c k+g.c k=g.c k+f.c k;ext
def add_assoc (f g h:Sr):add (add f g) h=add f (add g h):=ext' λk=>by show f.c k+g.c k+h.c k=f.c k+(g.c k+h.c k);ext
def add_zero (f:Sr):add f zero=f:=ext' λk=>by show f.c k+0=f.c k;ext
def Mk (f:Sr):add (neg f) f=zero:=ext' λk=>by show -f.c k+f.c k=0;ext
def add_mul (f g h:Sr):mul (add f g) h=add (mul f h) (mul g h):=by rw [mul_comm,mul_add,mul_comm h f,mul_comm h g]
def neg_mul (f g:Sr):mul (neg f) g=neg (mul f g):=by
 have h:add (mul (neg f) g) (mul f g)=zero:=by rw [<-add_mul,Mk,mul_comm,mul_zero]
 have c:add (neg (mul f g)) (mul f g)=zero:=Mk _;refine ext' λk=>?_;have a:=kJ (congrArg Sr.c h) k;have b:=kJ (congrArg Sr.c c) k;have a:(mul (neg f) g).c k+(mul f g).c k=0:=a;have b:(neg (mul f g)).c k+(mul f g).c k=0:=b;ext
noncomputable instance:Lean.Grind.CommRing Sr where
 add_zero f:=(congrArg (add f) num0).trans (add_zero f)
 add_comm:=add_comm
 add_assoc:=add_assoc
 mul_assoc:=mul_assoc
 mul_comm:=mul_comm
 mul_one f:=(congrArg (mul f) num1).trans (mul_one f)
 one_mul f:=(congrArg (λz=>mul z f) num1).trans ((mul_comm _ _).trans (mul_one f))
 left_distrib:=mul_add
 right_distrib:=add_mul
 zero_mul f:=by show mul (num 0) f=num 0;rw [num0,mul_comm,mul_zero]
 mul_zero f:=by show mul f (num 0)=num 0;rw [num0,mul_zero]
 pow_zero f:=num1.symm
 pow_succ f n:=rfl
 ofNat_succ n:=by
  show num ((n+1:Nat):Rat)=add (num (n:Rat)) (num 1)
  rw [<-num_add];push_cast;rfl
 ofNat_eq_natCast n:=rfl
 nsmul_eq_natCast_mul n f:=rfl
 sub_eq_add_neg f g:=rfl
 neg_add_cancel f:=(Mk f).trans num0.symm
 intCast_neg n:=by show num ((-n:Int):Rat)=neg (num (n:Rat));rw [<-num_neg];push_cast;rfl
 intCast_ofNat n:=rfl
 neg_zsmul n f:=by show mul (num ((-n:Int):Rat)) f=neg (mul (num (n:Rat)) f);rw [show ((-n:Int):Rat) = -(n:Rat) by push_cast;rfl,num_neg,neg_mul]
 zsmul_natCast_eq_nsmul n f:=rfl
noncomputable def L (a:List Rat):Sr:=⟨cvL a Aj⟩
def L_mul (a:List Rat) (g:Sr):L a*g=⟨cvL a g.c⟩:=ext' λk=>by
 refine Iq _ _ _ _ _ (λi b=>?_) (λ_ _=>rfl);rw [Gi,kA ⋯];exact Cy a i
def Bn (f:Sr) (n:Nat):Prop:=∀ k,n<=k->f.c k=0
def Bn.row {f:Sr} {n:Nat} (h:Bn f n):L (tr n f.c)=f:=ext' λk=>by
 show cvL (tr n f.c) Aj k=f.c k;rw [Cy,Gi];by_cases hk:k<n
 ·rw [kA hk]
 ·rw [lZ hk,h k ⋯]
def Pol (f:Sr):Prop:=∃ a,f=L a
def Pol.L (a:List Rat):Pol (L a):=⟨a,rfl⟩
def Bn.pol {f:Sr} {n:Nat} (h:Bn f n):Pol f:=⟨_,h.row.symm⟩
def yJ (a:List Rat):Bn (Sr.L a) a.length:=λk hk=>by
 show cvL a Aj k=0;rw [Cy,AU,Bf hk];rfl
def Pol.bn {f:Sr} (h:Pol f):∃ n,Bn f n:=let ⟨a,e⟩:=h;⟨a.length,e ▸ yJ a⟩
def Pol.add {f g:Sr} (h:Pol f) (h':Pol g):Pol (f+g):=by
 obtain ⟨a,rfl⟩:=h;obtain ⟨b,rfl⟩:=h';exact ⟨A3 a b,ext' λk=>(Bh Aj a b k).symm⟩
def Pol.mul {f g:Sr} (h:Pol f) (h':Pol g):Pol (f*g):=by
 obtain ⟨a,rfl⟩:=h;obtain ⟨b,rfl⟩:=h';exact ⟨BW a b,by rw [L_mul];exact ext' λk=>(By Aj a b k).symm⟩
theorem Pol.num (x:Rat):Pol (num x):=⟨[x],ext' λk=>by
 show x*Aj k=cvL [x] Aj k;cases k with
 | zero=>rw [Ax];ext
 | succ k=>rw [Ar,BE];ext⟩
def Pol.nat (n:Nat):Pol (OfNat.ofNat n:Sr):=Pol.num (n:Rat)
def Pol.neg {f:Sr} (h:Pol f):Pol (-f):=by
 have e:-f=Sr.num (-1)*f:=by
  have:Sr.num (-1)=(-1:Sr):=num_neg 1;rw [this];ext
 rw [e];exact (Pol.num _).mul h
def Pol.sub {f g:Sr} (h:Pol f) (h':Pol g):Pol (f - g):=by
 have e:f - g=f + -g:=by ext
 rw [e];exact h.add h'.neg
theorem top_ex {f:Sr}:∀ n,Bn f n->f=0\/∃ m,m<n/\f.c m≠0/\Bn f (m+1)
 | 0,h=>.inl (ext' λk=>by rw [h k (Ae _)];show 0=((0:Nat):Rat)*Aj k;push_cast;ext)
 | n+1,h=>by
   by_cases z:f.c n=0
   ·rcases top_ex n (λk hk=>by rcases Nat.eq_or_lt_of_le hk with e | e;exact e ▸ z;exact h k e) with q | ⟨m,c,a,b⟩
    ·exact .inl q
    ·exact .inr ⟨m,⋯,a,b⟩
   ·exact .inr ⟨n,⋯,z,h⟩
def zero_c (k:Nat):(0:Sr).c k=0:=by show ((0:Nat):Rat)*Aj k=0;push_cast;ext
def cancel {f g h:Sr} (c:Pol f) (d:Pol g) (j:Pol h) (o:h≠0) (e:f*h=g*h):f=g:=by
 obtain ⟨a,rfl⟩:=c;obtain ⟨b,rfl⟩:=d;obtain ⟨n,p⟩:=j.bn;rcases top_ex n p with z | ⟨m,_,q,r⟩
 ·exact absurd z o
 rw [L_mul,L_mul] at e;exact ext' λk=>Mi q (λi u=>r i u) (λk=>kJ (congrArg Sr.c e) k) Aj k
def ne_mul {f g:Sr} (a:Pol f) (b:Pol g) (c:f≠0) (d:g≠0):f*g≠0:=λe=>c (cancel a (Pol.nat 0) b d (by rw [e];ext))
noncomputable def X (n:Nat):Sr:=L (List.replicate n 0++[1])
def X_mul (n:Nat) (g:Sr) (k:Nat):(X n*g).c k=if n<=k then g.c (k - n) else 0:=by
 unfold X;rw [L_mul];show cvL (List.replicate n 0++[1]) g.c k=_;rw [HY];unfold Ay;by_cases h:n<=k
 ·rw [kA h,kA h];cases k - n with
  | zero=>rw [Ax];ext
  | succ k=>rw [Ar,BE];ext
 ·rw [lZ h,lZ h]
theorem num_mul (x:Rat) (g:Sr) (k:Nat):(num x*g).c k=x*g.c k:=by
 have:num x=L [x]:=ext' λk=>by
  show x*Aj k=cvL [x] Aj k;cases k with
  | zero=>rw [Ax];ext
  | succ k=>rw [Ar,BE];ext
 rw [this,L_mul];show cvL [x] g.c k=_;cases k with
 | zero=>rw [Ax];ext
 | succ k=>rw [Ar,BE];ext
noncomputable def D (f:Sr):Sr:=⟨λk=>((k:Rat)+1)*f.c (k+1)⟩
theorem L_cons (x:Rat) (a:List Rat):L (x::a)=num x+X 1*L a:=ext' λk=>by
 show cvL (x::a) Aj k=x*Aj k+(X 1*L a).c k;rw [X_mul,Fl];cases k with
 | zero=>rw [lZ ⋯];rfl
 | succ k=>rw [kA ⋯];rfl
def L_nil:L []=0:=ext' λk=>by rw [zero_c];rfl
def Cs (f g:Sr):Prop:=∃ U W,Pol U/\Pol W/\U*f+W*g=1
def Cs.comm {f g:Sr} (h:Cs f g):Cs g f:=let ⟨U,W,a,b,e⟩:=h;⟨W,U,b,a,()⟩
def Cs.mul {f g h:Sr} (o:Pol f) (i:Pol g) (j:Cs f g) (k:Cs f h):Cs f (g*h):=by
 obtain ⟨U,W,m,pW,e⟩:=j;obtain ⟨a,b,c,d,n⟩:=k;refine ⟨U+W*a*g,W*b,m.add ((pW.mul c).mul i),pW.mul d,?_⟩;have:(U+W*a*g)*f+W*b*(g*h)=U*f+W*g*(a*f+b*h):=by ext
 rw [this,n,<-e];ext
def Cs.dvd {f w g a:Sr} (h:Cs f w) (b:Pol a) (e:w=a*g):Cs f g:=by
 obtain ⟨U,W,c,pW,q⟩:=h;exact ⟨U,W*a,c,pW.mul b,by rw [e] at q;ext⟩
def Cs.one {f:Sr}:Cs f 1:=⟨0,1,Pol.nat 0,Pol.nat 1,()⟩
def Cs.add {f g z c:Sr} (h:Cs f g) (pc:Pol c) (e:z=f+c*g):Cs z g:=by
 obtain ⟨U,W,a,pW,q⟩:=h;exact ⟨U,W - U*c,a,pW.sub (a.mul pc),by rw [e];ext⟩
def one_ne:(1:Sr)≠0:=λh=>by
 have:=kJ (congrArg Sr.c h) 0;rw [zero_c] at this;have this:((1:Nat):Rat)*Aj 0=0:=this;have e:(Aj 0:Rat)=1:=rfl;rw [e] at this;push_cast at this;ext
theorem Qf {b:dM} {d:Nat} (h:∀ k,d<k->b k=0):∀ (a:List Rat) (k:Nat),d+a.length<=k->cvL a b k=0
 | [],_,_=>rfl
 | x::a,0,hk=>by simp at hk
 | x::a,k+1,hk=>by
   rw [Ar,Qf h a k (by simp at hk;omega),h (k+1) (by simp at hk;omega)];ext
def top_mul {f g:Sr} {m n:Nat} (b:Bn f (m+1)) (h:Bn g (n+1)):(f*g).c (m+n)=f.c m*g.c n/\Bn (f*g) (m+n+1):=by
 have c:∀ (a:List Rat) (k:Nat),n+a.length<=k->cvL a g.c k=0:=Qf λk hk=>h k hk;rw [<-b.row,L_mul];refine ⟨?_,λk hk=>c _ k (by unfold tr;rw [AR,BL];omega)⟩;show cvL (tr (m+1) f.c) g.c (m+n)=_;have e:tr (m+1) f.c=tr m f.c++[f.c m]:=by unfold tr;rw [List.range_succ,EF];rfl
 have d:(tr m f.c).length=m:=by unfold tr;rw [AR,BL]
 rw [e,Db,c (tr m f.c) _ (by rw [d];omega),d];unfold Ay;rw [kA ⋯,show m+n - m=n by omega]
 have z:(L (tr m f.c++[f.c m])).c m=f.c m:=by
  rw [<-e];exact kJ (congrArg Sr.c b.row) m
 rw [z];ext
def Cs.of_unit {f g d U W:Sr} {x:Rat} (a:x≠0) (e:d=num x) (b:Pol U) (pW:Pol W) (h:U*f+W*g=d):Cs f g:=by
 refine ⟨num (x⁻¹)*U,num (x⁻¹)*W,(Pol.num _).mul b,(Pol.num _).mul pW,?_⟩
 have i:num (x⁻¹)*num x=1:=ext' λk=>by
  rw [num_mul];show x⁻¹*(x*Aj k)=_;have:x⁻¹*x=1:=Rat.inv_mul_cancel _ a;show _=((1:Nat):Rat)*Aj k;push_cast;ext
 rw [e] at h;ext
noncomputable def cmL (u:Sr):List Rat->Sr
 | []=>0
 | a::l=>num a+u*cmL u l
theorem cmL_zero (u:Sr):∀ l:List Rat,(∀ k,l.getD k 0=0)->cmL u l=0
 | [],_=>rfl
 | a::l,h=>by
   have b:a=0:=h 0;show num a+u*cmL u l=0;rw [b,cmL_zero u l λk=>by have:=h (k+1);rw [FY] at this;exact this,show num 0=(0:Sr) from num0'];ext
where num0':num 0=(0:Sr):=ext' λk=>by rw [zero_c];show (0:Rat)*Aj k=0;ext
theorem Qg (u:Sr):∀ a b:List Rat,(∀ k,a.getD k 0=b.getD k 0)->cmL u a=cmL u b
 | [],b,h=>(cmL_zero u b λk=>(h k).symm.trans (by simp)).symm
 | a::l,[],h=>cmL_zero u (a::l) λk=>(h k).trans (by simp)
 | a::l,b::m,h=>by
   have c:a=b:=h 0;show num a+u*cmL u l=num b+u*cmL u m;rw [c,Qg u l m λk=>by have:=h (k+1);rw [FY,FY] at this;exact this]
def Ml (a:List Rat) (k:Nat):(L a).c k=a.getD k 0:=Cy a k
def Pol.ex {f:Sr} (h:Pol f):∃ a,Sr.L a=f:=let ⟨a,e⟩:=h;⟨a,e.symm⟩
open Classical in
noncomputable def cm (u f:Sr):Sr:=if h:∃ a,L a=f then cmL u h.choose else 0
def cm_L (u:Sr) (a:List Rat):cm u (L a)=cmL u a:=by
 have h:∃ b,L b=L a:=⟨a,rfl⟩;unfold cm;rw [dif_pos h];exact Qg u _ _ λk=>by rw [<-Ml,<-Ml,h.choose_spec]
theorem He {u:Sr} (pu:Pol u):∀ l:List Rat,Pol (cmL u l)
 | []=>Pol.nat 0
 | a::l=>(Pol.num a).add (pu.mul (He pu l))
def cm_pol {u f:Sr} (pu:Pol u) (b:Pol f):Pol (cm u f):=by
 obtain ⟨a,rfl⟩:=b.ex;rw [cm_L];exact He pu a
noncomputable def bT:List Rat->List Rat->List Rat
 | [],b=>b
 | x::a,[]=>x::a
 | x::a,y::b=>(x+y)::bT a b
theorem Mm:∀ a b:List Rat,L (bT a b)=L a+L b
 | [],b=>by show L b=L []+L b;rw [L_nil];ext
 | x::a,[]=>by show L (x::a)=L (x::a)+L [];rw [L_nil];ext
 | x::a,y::b=>by
   show L ((x+y)::bT a b)=_;rw [L_cons,L_cons,L_cons,Mm a b,show num (x+y)=num x+num y from num_add x y];ext
theorem Mn (u:Sr):∀ a b:List Rat,cmL u (bT a b)=cmL u a+cmL u b
 | [],b=>by show cmL u b=0+cmL u b;ext
 | x::a,[]=>by show cmL u (x::a)=cmL u (x::a)+0;ext
 | x::a,y::b=>by
   show num (x+y)+u*cmL u (bT a b)=num x+u*cmL u a+(num y+u*cmL u b);rw [Mn u a b,show num (x+y)=num x+num y from num_add x y];ext
def cm_add {f g:Sr} (u:Sr) (c:Pol f) (d:Pol g):cm u (f+g)=cm u f+cm u g:=by
 obtain ⟨a,rfl⟩:=c.ex;obtain ⟨b,rfl⟩:=d.ex;rw [<-Mm,cm_L,cm_L,cm_L,Mn]
def Qh (x y:Rat):num x*num y=num (x*y):=ext' λk=>by
 rw [num_mul];show x*(y*Aj k)=x*y*Aj k;ext
theorem Qi (x:Rat):∀ a:List Rat,L (a.map (x*·))=num x*L a
 | []=>by show L []=_*L [];rw [L_nil];ext
 | y::a=>by
   show L ((x*y)::a.map (x*·))=_;rw [L_cons,L_cons,Qi x a,<-Qh];ext
theorem Qj (u:Sr) (x:Rat):∀ a:List Rat,cmL u (a.map (x*·))=num x*cmL u a
 | []=>by show (0:Sr)=num x*0;ext
 | y::a=>by
   show num (x*y)+u*cmL u (a.map (x*·))=num x*(num y+u*cmL u a);rw [Qj u x a,<-Qh];ext
theorem Qk (u:Sr) (b:List Rat):∀ a:List Rat,∃ c,L c=L a*L b/\cmL u c=cmL u a*cmL u b
 | []=>⟨[],by rw [L_nil];ext,by show (0:Sr)=0*_;ext⟩
 | x::a=>by
   obtain ⟨c,d,e⟩:=Qk u b a;refine ⟨bT (b.map (x*·)) (0::c),?_,?_⟩
   ·rw [Mm,Qi,L_cons,L_cons,d,show num 0=(0:Sr) from cmL_zero.num0'];ext
   ·rw [Mn,Qj];show num x*cmL u b+(num 0+u*cmL u c)=(num x+u*cmL u a)*cmL u b;rw [e,show num 0=(0:Sr) from cmL_zero.num0'];ext
def cm_mul {f g:Sr} (u:Sr) (d:Pol f) (e:Pol g):cm u (f*g)=cm u f*cm u g:=by
 obtain ⟨a,rfl⟩:=d.ex;obtain ⟨b,rfl⟩:=e.ex;obtain ⟨c,h,i⟩:=Qk u b a;rw [<-h,cm_L,cm_L,cm_L,i]
def cm_num (u:Sr) (x:Rat):cm u (num x)=num x:=by
 have e:L [x]=num x:=by rw [L_cons,L_nil];ext
 rw [<-e,cm_L];show num x+u*0=L [x];rw [e];ext
def cm_X (u:Sr):cm u (X 1)=u:=by
 have n0:num 0=(0:Sr):=cmL_zero.num0';have e:L [0,1]=X 1:=rfl;rw [<-e,cm_L];show num 0+u*(num 1+u*0)=u;rw [n0,show num 1=(1:Sr) from num1'.trans rfl];ext
where num1':num 1=(1:Sr):=congrArg num (show (1:Rat)=((1:Nat):Rat) by push_cast;rfl)
theorem cm_cm {u v f:Sr} (pv:Pol v) (b:Pol f):cm u (cm v f)=cm (cm u v) f:=by
 obtain ⟨a,rfl⟩:=b.ex;rw [cm_L,cm_L];clear b
 induction a with
 | nil=>
   show cm u 0=0;have:cm u (L [])=cmL u []:=cm_L u [];rw [L_nil] at this;exact this
 | cons x a c=>
   show cm u (num x+v*cmL v a)=num x+cm u v*cmL (cm u v) a;rw [cm_add u (Pol.num x) (pv.mul (He pv a)),cm_num,cm_mul u pv (He pv a),c]
theorem cm_id {f:Sr} (b:Pol f):cm (X 1) f=f:=by
 obtain ⟨a,rfl⟩:=b.ex;rw [cm_L];clear b
 induction a with
 | nil=>exact L_nil.symm
 | cons x a c=>show num x+X 1*cmL (X 1) a=_;rw [c,<-L_cons]
noncomputable def st (n i:Nat) (f:Sr):Sr:=⟨λk=>f.c (i+k*n)⟩
def Ql (n i:Nat) (f g:Sr):st n i (f+g)=st n i f+st n i g:=rfl
def st_num (n i:Nat) (x:Rat) (f:Sr):st n i (num x*f)=num x*st n i f:=ext' λk=>by rw [num_mul];show (num x*f).c (i+k*n)=x*f.c (i+k*n);rw [num_mul]
theorem yK {n:Nat} (n0:0<n) (i:Nat) (a:i<n) (f:Sr):st n i (X n*f)=X 1*st n i f:=ext' λk=>by
 rw [X_mul];show (X n*f).c (i+k*n)=_;rw [X_mul];cases k with
 | zero=>rw [lZ ⋯,lZ ⋯]
 | succ k=>
   rw [kA (by rw [Nat.succ_mul];omega),kA ⋯];show f.c (i+(k+1)*n - n)=f.c (i+(k+1 - 1)*n);rw [Nat.succ_mul,show i+(k*n+n) - n=i+(k+1 - 1)*n by rw [E2];omega]
theorem st_sp {n i:Nat} (n0:0<n) (c:i<n) (f:Sr) {h:Sr} (b:Pol h):st n i (f*cm (X n) h)=st n i f*h:=by
 obtain ⟨a,rfl⟩:=b.ex;rw [cm_L];clear b
 induction a generalizing f with
 | nil=>
   show st n i (f*0)=_;rw [L_nil,show f*0=num 0*f by rw [show num 0=(0:Sr) from cmL_zero.num0'];ext,st_num,show num 0=(0:Sr) from cmL_zero.num0'];ext
 | cons x a d=>
   show st n i (f*(num x+X n*cmL (X n) a))=_;rw [show f*(num x+X n*cmL (X n) a)=num x*f+X n*(f*cmL (X n) a) by ext,Ql,st_num,yK n0 i c,d,L_cons];ext
def st_pol {n i:Nat} (n0:0<n) {f:Sr} (a:Pol f):Pol (st n i f):=by
 obtain ⟨m,b⟩:=a.bn;exact Bn.pol (n:=m) λk hk=>b _ (by have:=CM k (show 1<=n by omega);omega)
noncomputable def sm (f:Nat->Sr):Nat->Sr
 | 0=>0
 | n+1=>sm f n+f n
def st_one {n:Nat} (n0:0<n) {i j:Nat} (b:i<n) (d:j<n):st n i (X j)=if i=j then 1 else 0:=ext' λk=>by
 have e:X j=X j*1:=by ext
 show (X j).c (i+k*n)=_;rw [e,X_mul]
 have o:∀ m:Nat,(1:Sr).c m=if m=0 then 1 else 0:=λm=>by
  show ((1:Nat):Rat)*Aj m=_;cases m with
  | zero=>show ((1:Nat):Rat)*1=_;rw [kA rfl];push_cast;ext
  | succ m=>show ((1:Nat):Rat)*0=_;rw [lZ ⋯];ext
 by_cases h:i=j
 ·rw [kA h,o k,h,kA ⋯,o,show j+k*n - j=k*n by omega];by_cases a:k=0
  ·rw [kA a,a,kA ⋯]
  ·rw [lZ a,lZ (λz=>by rcases Nat.mul_eq_zero.mp z with y | y <;> omega)]
 ·rw [lZ h,zero_c];by_cases c:j<=i+k*n
  ·rw [kA c,o,lZ (λz=>by
    have:i+k*n=j:=by omega
    cases k with
    | zero=>omega
    | succ k=>rw [Nat.succ_mul] at this;omega)]
  ·rw [lZ c]
def sp_c {n:Nat} (n0:0<n) {f:Sr} (b:Pol f) (k:Nat):(cm (X n) f).c k=if k % n=0 then f.c (k / n) else 0:=by
 have h:=Nat.mod_add_div k n;have a:=Nat.mod_lt k n0;have e:=st_sp (i:=k % n) n0 a 1 b;rw [show (1:Sr)*cm (X n) f=cm (X n) f by grind] at e
 have d:(st n (k % n) (cm (X n) f)).c (k / n)=(cm (X n) f).c k:=by
  show (cm (X n) f).c (k % n+k / n*n)=_;rw [B6,h]
 have g:st n (k % n) (1:Sr)=if k % n=0 then 1 else 0:=by
  have:=st_one n0 a n0
  rw [show X 0=(1:Sr) from ext' λk=>by
   rw [show X 0=X 0*1 by ext,X_mul,kA (Ae _),DJ]] at this
  exact this
 rw [<-d,e,g];by_cases c:k % n=0
 ·rw [kA c,kA c,show (1:Sr)*f=f by grind]
 ·rw [lZ c,lZ c,show (0:Sr)*f=0 by ext,zero_c]
def Xs_c {n j:Nat} (n0:0<n) {f:Sr} (a:Pol f) (b:j<n) (k:Nat):(X j*cm (X n) f).c k=if k % n=j then f.c (k / n) else 0:=by
 rw [X_mul];by_cases c:j<=k
 ·rw [kA c,sp_c n0 a];have h:=Nat.mod_add_div k n;have i:=Nat.mod_lt k n0;by_cases d:k % n=j
  ·have e:k - j=n*(k / n):=by omega
   rw [kA d,e,Nat.mul_mod_right,kA rfl,Nat.mul_div_cancel_left _ n0]
  ·rw [lZ d,lZ λz=>d ?_];have g:=Nat.mod_add_div (k - j) n;rw [z] at g;have:k=j+n*((k - j) / n):=by omega
   rw [this,Nat.add_mul_mod_self_left,EG b]
 ·rw [lZ c,lZ λz=>c (by rw [<-z];exact Nat.mod_le k n)]
def parts_all {n:Nat} (n0:0<n) {f:Sr} (b:Pol f):f=sm (λj=>X j*cm (X n) (st n j f)) n:=ext' λk=>by
 have e:=Nat.mod_lt k n0
 have a:∀ m,m<=n->(sm (λj=>X j*cm (X n) (st n j f)) m).c k=if k % n<m then f.c k else 0:=λm=>by
  induction m with
  | zero=>intro _;rw [lZ ⋯];exact zero_c k
  | succ m g=>
    intro h;show (sm _ m).c k+(X m*cm (X n) (st n m f)).c k=_;rw [g ⋯,Xs_c n0 (st_pol n0 b) ⋯];by_cases c:k % n=m
    ·rw [lZ ⋯,kA c,kA ⋯];show 0+f.c (m+k / n*n)=f.c k;rw [show m+k / n*n=k by have:=Nat.mod_add_div k n;rw [B6] at this;omega];ext
    ·rw [lZ c];by_cases d:k % n<m
     ·rw [kA d,kA ⋯];ext
     ·rw [lZ d,lZ ⋯];ext
 rw [a n (AT _),kA e]
end Sr
namespace Sr
theorem str_c (c:Rat) {f:Sr} (b:Pol f) (k:Nat):(cm (num c*X 1) f).c k=c ^ k*f.c k:=by
 obtain ⟨a,rfl⟩:=b.ex;rw [cm_L,Ml];clear b
 induction a generalizing k with
 | nil=>rw [show cmL (num c*X 1) []=0 from rfl,zero_c];show (0:Rat)=c ^ k*0;ext
 | cons x a d=>
   show (num x).c k+(num c*X 1*cmL (num c*X 1) a).c k=_;rw [show num c*X 1*cmL (num c*X 1) a=num c*(X 1*cmL (num c*X 1) a) by ext,num_mul,X_mul];cases k with
   | zero=>rw [lZ ⋯,Rat.pow_zero];show x*1+c*0=1*x;ext
   | succ k=>rw [kA ⋯,E2,d,FY,Dg];show x*0+_=_;ext
noncomputable abbrev tn (f:Sr):Sr:=cm (num (-1)*X 1) f
def pu:Pol (num (-1)*X 1):=(Pol.num _).mul ⟨_,rfl⟩
def tn_pol {f:Sr} (a:Pol f):Pol (tn f):=cm_pol pu a
theorem Qm:∀ k:Nat,(-1:Rat) ^ k*(-1:Rat) ^ k=1
 | 0=>by rw [Rat.pow_zero];ext
 | k+1=>by have:=Qm k;rw [Dg];ext
def Qn {f:Sr} (a:Pol f):tn (tn f)=f:=ext' λk=>by
 rw [str_c _ (tn_pol a),str_c _ a];have:=Qm k;ext
theorem yL (k:Nat):(-1:Rat) ^ (1+k*2) = -1:=by
 induction k with
 | zero=>rw [show 1+0*2=0+1 by omega,Dg,Rat.pow_zero];ext
 | succ k a=>rw [show 1+(k+1)*2=1+k*2+1+1 by omega,Dg,Dg,a];ext
def tn_ne {f:Sr} (a:Pol f) (b:f≠0):tn f≠0:=λz=>b (by
 rw [<-Qn a,z];exact ext' λk=>by rw [str_c _ (Pol.nat 0),zero_c];ext)
def yM {g:Sr} (a:Pol g) (h:tn g=g):g=cm (X 2) (st 2 0 g):=by
 have o:st 2 1 g=0:=ext' λk=>by
  rw [zero_c];show g.c (1+k*2)=0;have:=kJ (congrArg Sr.c h) (1+k*2);rw [str_c _ a,yL] at this;ext
 have e:=parts_all (n:=2) ∅ a
 have z:cm (X 2) 0=0:=by
  have:=cm_L (X 2) [];rw [L_nil] at this;exact this
 have b:X 0=(1:Sr):=ext' λk=>by rw [show X 0=X 0*1 by ext,X_mul,kA (Ae _),DJ]
 have c:sm (λj=>X j*cm (X 2) (st 2 j g)) 2=cm (X 2) (st 2 0 g):=by
  show (0+X 0*cm (X 2) (st 2 0 g))+X 1*cm (X 2) (st 2 1 g)=_;rw [o,z,b];ext
 exact e.trans c
def roots2 {f:Sr} (a:Pol f):f*tn f=cm (X 2) (st 2 0 (f*tn f)):=yM (a.mul (tn_pol a)) (by
 show cm (num (-1)*X 1) (f*tn f)=_;rw [cm_mul _ a (tn_pol a),show cm (num (-1)*X 1) (tn f)=f from Qn a];ext)
def Eu (m n:Nat):X m*X n=X (m+n):=ext' λk=>by
 have e:∀ j:Nat,X j=X j*1:=λj=>by ext
 rw [X_mul,e n,e (m+n),X_mul,X_mul];by_cases c:m<=k
 ·rw [kA c];by_cases d:n<=k - m
  ·rw [kA d,kA ⋯,show k - m - n=k - (m+n) by omega]
  ·rw [lZ d,lZ ⋯]
 ·rw [lZ c,lZ ⋯]
def pXn (n:Nat):Pol (X n):=⟨_,rfl⟩
theorem KN (n:Nat):∀ m:Nat,cm (X n) (X m)=X (m*n)
 | 0=>by
   have a:X 0=(1:Sr):=ext' λk=>by rw [show X 0=X 0*1 by ext,X_mul,kA (Ae _),DJ]
   rw [Nat.zero_mul,a,show (1:Sr)=num 1 from cm_X.num1'.symm,cm_num]
 | m+1=>by rw [<-Eu m 1,cm_mul _ (pXn m) (pXn 1),KN n m,cm_X,Eu,Nat.succ_mul]
def roots4 {f:Sr} (b:Pol f):f*(tn f*cm (X 2) (tn (st 2 0 (f*tn f))))=cm (X 4) (st 2 0 (st 2 0 (f*tn f)*tn (st 2 0 (f*tn f)))):=by
 have a:Pol (st 2 0 (f*tn f)):=st_pol ∅ (b.mul (tn_pol b));have e:=roots2 b;have c:=roots2 a;rw [show f*(tn f*cm (X 2) (tn (st 2 0 (f*tn f))))=f*tn f*cm (X 2) (tn (st 2 0 (f*tn f))) by grind]
 have d:f*tn f*cm (X 2) (tn (st 2 0 (f*tn f)))=cm (X 2) (st 2 0 (f*tn f)*tn (st 2 0 (f*tn f))):=by
  rw [cm_mul _ a (tn_pol a),<-e]
 rw [d];have g:cm (X 2) (st 2 0 (f*tn f)*tn (st 2 0 (f*tn f)))=cm (X 2) (cm (X 2) (st 2 0 (st 2 0 (f*tn f)*tn (st 2 0 (f*tn f))))):=congrArg _ c;rw [g,cm_cm (pXn 2) (st_pol ∅ (a.mul (tn_pol a))),KN]
def yN (a b c:Sr):(a+b+c)*(a*a+b*b+c*c - a*b - a*c - b*c)=a*a*a+b*b*b+c*c*c - 3*(a*b*c):=by ext
def roots3 {f:Sr} (m:Pol f) (A B C:Sr) (q:A=cm (X 3) (st 3 0 f)) (w:B=X 1*cm (X 3) (st 3 1 f)) (z:C=X 2*cm (X 3) (st 3 2 f)):f=A+B+C/\∃ h,Pol h/\f*(A*A+B*B+C*C - A*B - A*C - B*C)=cm (X 3) h:=by
 have F:X 0=(1:Sr):=ext' λk=>by rw [show X 0=X 0*1 by ext,X_mul,kA (Ae _),DJ]
 have D:f=A+B+C:=by
  have e:=parts_all (n:=3) ∅ m
  have G:sm (λj=>X j*cm (X 3) (st 3 j f)) 3=A+B+C:=by
   show 0+X 0*cm (X 3) (st 3 0 f)+X 1*cm (X 3) (st 3 1 f)+X 2*cm (X 3) (st 3 2 f)=_;rw [q,w,z,F];ext
  exact e.trans G
 have g:=st_pol (n:=3) (i:=0) ∅ m;have d:=st_pol (n:=3) (i:=1) ∅ m;have pc:=st_pol (n:=3) (i:=2) ∅ m;refine ⟨D,st 3 0 f*st 3 0 f*st 3 0 f+X 1*(st 3 1 f*st 3 1 f*st 3 1 f)+X 2*(st 3 2 f*st 3 2 f*st 3 2 f) - num 3*(X 1*(st 3 0 f*st 3 1 f*st 3 2 f)),?_,?_⟩
 ·exact ((((g.mul g).mul g).add ((pXn 1).mul ((d.mul d).mul d))).add ((pXn 2).mul ((pc.mul pc).mul pc))).sub ((Pol.num 3).mul ((pXn 1).mul ((g.mul d).mul pc)))
 ·have H:∀ {u v:Sr},Pol u->Pol v->cm (X 3) (u - v)=cm (X 3) u - cm (X 3) v:=λ{u v} I E=>by
   have n1:num (-1)=(-1:Sr):=by
    have h:=num_add (-1) 1;rw [show (-1:Rat)+1=0 by grind] at h;have o:num 0=num (-1)+num 1:=h;rw [cmL_zero.num0',cm_X.num1'] at o;ext
   rw [show u - v=u+num (-1)*v by rw [n1];ext,cm_add _ I ((Pol.num _).mul E),cm_mul _ (Pol.num _) E,cm_num,n1];ext
  have J:num 3=(3:Sr):=by
   have K:num (1+1)=num 1+num 1:=num_add 1 1;have o:num (1+1+1)=num (1+1)+num 1:=num_add (1+1) 1;rw [show (1:Rat)+1+1=3 by ext,K,cm_X.num1'] at o;rw [o];ext
  have L:f*(A*A+B*B+C*C - A*B - A*C - B*C)=A*A*A+B*B*B+C*C*C - 3*(A*B*C):=by
   rw [<-yN];exact congrArg (·*(A*A+B*B+C*C - A*B - A*C - B*C)) D
  rw [L,H ((((g.mul g).mul g).add ((pXn 1).mul ((d.mul d).mul d))).add ((pXn 2).mul ((pc.mul pc).mul pc))) ((Pol.num 3).mul ((pXn 1).mul ((g.mul d).mul pc))),
   cm_add _ (((g.mul g).mul g).add ((pXn 1).mul ((d.mul d).mul d))) ((pXn 2).mul ((pc.mul pc).mul pc)),cm_add _ ((g.mul g).mul g) ((pXn 1).mul ((d.mul d).mul d)),
   cm_mul _ (g.mul g) g,cm_mul _ g g,cm_mul _ (pXn 1) ((d.mul d).mul d),cm_mul _ (d.mul d) d,cm_mul _ d d,cm_mul _ (pXn 2) ((pc.mul pc).mul pc),cm_mul _ (pc.mul pc) pc,cm_mul _ pc pc,
   cm_mul _ (Pol.num 3) ((pXn 1).mul ((g.mul d).mul pc)),cm_mul _ (pXn 1) ((g.mul d).mul pc),cm_mul _ (g.mul d) pc,cm_mul _ g d,cm_num,KN,KN,J,q,w,z]
  have M:X (1*3)=X 1*X 1*X 1:=by rw [Eu,Eu]
  have N:X (2*3)=X 2*X 2*X 2:=by rw [Eu,Eu]
  have p:X 1*X 2=X 1*X 1*X 1:=by rw [Eu,Eu,Eu]
  rw [M,N]
  have r:∀ a b c x y:Sr,x*y=x*x*x->a*a*a+x*b*(x*b)*(x*b)+y*c*(y*c)*(y*c) - 3*(a*(x*b)*(y*c))=a*a*a+x*x*x*(b*b*b)+y*y*y*(c*c*c) - 3*(x*x*x*(a*b*c)):=λa b c x y h=>by
   rw [<-h];ext
  exact r _ _ _ _ _ p
def sq3 {p q r:Sr} (hp:Pol p) (o:Pol q) (u:Pol r) (e:p*p+q*q+r*r=0):p=0/\q=0/\r=0:=by
 obtain ⟨a,v⟩:=hp.bn;obtain ⟨b,A⟩:=o.bn;obtain ⟨c,B⟩:=u.bn
 have n:∀ m,Bn p m->Bn q m->Bn r m->p=0/\q=0/\r=0:=λm=>by
  induction m with
  | zero=>intro f i j;exact ⟨ext' λk=>by rw [zero_c];exact f k (Ae _),ext' λk=>by rw [zero_c];exact i k (Ae _),ext' λk=>by rw [zero_c];exact j k (Ae _)⟩
  | succ m C=>
    intro f i j;have D:=(top_mul f f).1;have E:=(top_mul i i).1;have F:=(top_mul j j).1;have z:=kJ (congrArg Sr.c e) (m+m);rw [zero_c] at z;have G:(p*p).c (m+m)+(q*q).c (m+m)+(r*r).c (m+m)=0:=z;rw [D,E,F] at G
    have s:∀ x:Rat,0<=x*x:=λx=>by
     rcases Rat.le_total (a:=0) (b:=x) with h | h
     ·exact Rat.mul_nonneg h h
     ·have:x*x=(-x)*(-x):=by ext
      rw [this];exact Rat.mul_nonneg () ()
    have L:=s (p.c m);have M:=s (q.c m);have N:=s (r.c m);have H:p.c m*p.c m=0:=by ext
    have I:q.c m*q.c m=0:=by ext
    have J:r.c m*r.c m=0:=by ext
    have w:∀ {x:Rat},x*x=0->x=0:=λ{x} h=>by rcases Cg.mp h with y | y <;> exact y
    have d:∀ {g:Sr},Bn g (m+1)->g.c m=0->Bn g m:=λ{g} h K k hk=>by
     rcases Av m k with c | c
     ·exact h k ⋯
     ·rw [show k=m by omega];exact K
    exact C (d f (w H)) (d i (w I)) (d j (w J))
 exact n (max a (max b c)) (λk hk=>v k ⋯) (λk hk=>A k ⋯) (λk hk=>B k ⋯)
def roots3_ne {f:Sr} (d:Pol f) (q:f≠0) (A B C:Sr) (g:A=cm (X 3) (st 3 0 f)) (e:B=X 1*cm (X 3) (st 3 1 f)) (h:C=X 2*cm (X 3) (st 3 2 f)):A*A+B*B+C*C - A*B - A*C - B*C≠0:=λz=>by
 have j:=st_pol (n:=3) (i:=0) ∅ d;have m:=st_pol (n:=3) (i:=1) ∅ d;have pc:=st_pol (n:=3) (i:=2) ∅ d;have pA:Pol A:=by rw [g];exact cm_pol (pXn 3) j
 have o:Pol B:=by rw [e];exact (pXn 1).mul (cm_pol (pXn 3) m)
 have pC:Pol C:=by rw [h];exact (pXn 2).mul (cm_pol (pXn 3) pc)
 have r:∀ a b c:Sr,(a - b)*(a - b)+(b - c)*(b - c)+(c - a)*(c - a)=2*(a*a+b*b+c*c - a*b - a*c - b*c):=λa b c=>by ext
 obtain ⟨u,v,_⟩:=sq3 (pA.sub o) (o.sub pC) (pC.sub pA) (by rw [r,z];ext)
 have p:A=B:=by have:A=A - B+B:=by ext
                rw [this,u];ext
 have w:B=C:=by have:B=B - C+C:=by ext
                rw [this,v];ext
 have x:=(roots3 d A B C g e h).1;have y:A=1*cm (X 3) (st 3 0 f):=by rw [g];ext
 have D:X 0=(1:Sr):=ext' λk=>by rw [show X 0=X 0*1 by ext,X_mul,kA (Ae _),DJ]
 have E:st 3 1 A=0:=by
  rw [y,st_sp ∅ ∅ 1 j,<-D,st_one ∅ ∅ ∅,lZ ∅];ext
 have F:st 3 1 B=st 3 1 f:=by
  rw [e,st_sp ∅ ∅ (X 1) m,st_one ∅ ∅ ∅,kA rfl];ext
 have G:st 3 1 f=0:=by rw [<-F,<-p,E]
 have H:cm (X 3) 0=0:=by
  have:=cm_L (X 3) [];rw [L_nil] at this;exact this
 have I:B=0:=by rw [e,G,H];ext
 exact q (by rw [x,<-w,p,I];ext)
def n0:num 0=(0:Sr):=cmL_zero.num0'
def n1:num 1=(1:Sr):=cm_X.num1'
def n_1:num (-1)=(-1:Sr):=by
 have h:=num_add (-1) 1;rw [show (-1:Rat)+1=0 by grind] at h;have a:num 0=num (-1)+num 1:=h;rw [n0,n1] at a;ext
def Qo (u:Sr):cm u 1=1:=by rw [<-n1,cm_num]
def cm_zero (u:Sr):cm u 0=0:=by rw [<-n0,cm_num]
def cm_sub {f g:Sr} (u:Sr) (b:Pol f) (a:Pol g):cm u (f - g)=cm u f - cm u g:=by
 rw [show f - g=f+num (-1)*g by rw [n_1];ext,cm_add u b ((Pol.num _).mul a),cm_mul u (Pol.num _) a,cm_num,n_1];ext
def Cs.cm {f g u:Sr} (pu:Pol u) (b:Pol f) (c:Pol g) (h:Cs f g):Cs (Sr.cm u f) (Sr.cm u g):=by
 obtain ⟨U,W,a,pW,e⟩:=h;refine ⟨Sr.cm u U,Sr.cm u W,cm_pol pu a,cm_pol pu pW,?_⟩;rw [<-cm_mul u a b,<-cm_mul u pW c,<-cm_add u (a.mul b) (pW.mul c),e,Qo]
def cm_ne {u v f:Sr} (pu:Pol u) (a:Pol f) (h:Sr.cm v u=X 1) (b:f≠0):cm u f≠0:=λz=>b (by
 have:=cm_cm (u:=v) pu a;rw [z,h,cm_id a,cm_zero] at this;exact this.symm)
def Qp (n i:Nat):st n i 0=0:=ext' λk=>by rw [zero_c];exact zero_c _
def cX_ne {n:Nat} (n0:0<n) {f:Sr} (b:Pol f) (c:f≠0):cm (X n) f≠0:=λz=>c (by
 have:=st_sp (i:=0) n0 n0 1 b;rw [show (1:Sr)*cm (X n) f=cm (X n) f by ext,z,Qp] at this;have d:X 0=(1:Sr):=ext' λk=>by rw [show X 0=X 0*1 by ext,X_mul,kA (Ae _),DJ]
 have a:=st_one n0 n0 n0;rw [kA rfl,d] at a;rw [a] at this;rw [this];ext)
noncomputable def jD (q:Nat->Sr):Nat->Sr
 | 0=>1
 | i+1=>jD q i*q i
noncomputable def jN (p q:Nat->Sr):Nat->Sr
 | 0=>0
 | i+1=>jN p q i*q i+X i*p i*jD q i
theorem jD_pol {q:Nat->Sr} (h:∀ i,Pol (q i)):∀ n,Pol (jD q n)
 | 0=>Pol.nat 1
 | n+1=>(jD_pol h n).mul (h n)
theorem jD_ne {q:Nat->Sr} (h:∀ i,Pol (q i)):∀ n,(∀ i,i<n->q i≠0)->jD q n≠0
 | 0,_=>one_ne
 | n+1,a=>ne_mul (jD_pol h n) (h n) (jD_ne h n λi b=>a i ⋯) (a n ⋯)
theorem jN_pol {p q:Nat->Sr} (hp:∀ i,Pol (p i)) (h:∀ i,Pol (q i)):∀ n,Pol (jN p q n)
 | 0=>Pol.nat 0
 | n+1=>((jN_pol hp h n).mul (h n)).add (((pXn n).mul (hp n)).mul (jD_pol h n))
theorem jD_cm {n:Nat} {q:Nat->Sr} (a:∀ i,Pol (q i)):∀ m,jD (λi=>cm (X n) (q i)) m=cm (X n) (jD q m)
 | 0=>(Qo _).symm
 | m+1=>by
   show jD _ m*cm (X n) (q m)=cm (X n) (jD q m*q m);rw [jD_cm a m,cm_mul _ (jD_pol a m) (a m)]
theorem j_st {n:Nat} (n0:0<n) {p q:Nat->Sr} (hp:∀ i,Pol (p i)) (a:∀ i,Pol (q i)) {i:Nat} (b:i<n):∀ m,m<=n->(m<=i->st n i (jN (λi=>cm (X n) (p i)) (λi=>cm (X n) (q i)) m)=0)/\(i<m->st n i (jN (λi=>cm (X n) (p i)) (λi=>cm (X n) (q i)) m)*q i=p i*jD q m)
 | 0,_=>⟨λ_=>Qp n i,λh=>absurd h ⋯⟩
 | m+1,k=>by
   obtain ⟨f,g⟩:=j_st n0 hp a b m ⋯
   have e:st n i (jN (λi=>cm (X n) (p i)) (λi=>cm (X n) (q i)) (m+1))=st n i (jN (λi=>cm (X n) (p i)) (λi=>cm (X n) (q i)) m)*q m+(if i=m then 1 else 0)*(p m*jD q m):=by
    show st n i (jN _ _ m*cm (X n) (q m)+X m*cm (X n) (p m)*jD (λi=>cm (X n) (q i)) m)=_;rw [Ql,st_sp n0 b _ (a m),jD_cm a m,show X m*cm (X n) (p m)*cm (X n) (jD q m)=X m*(cm (X n) (p m)*cm (X n) (jD q m)) by ext,<-cm_mul _ (hp m) (jD_pol a m),st_sp n0 b _ ((hp m).mul (jD_pol a m)),st_one n0 b ⋯]
   refine ⟨λc=>?_,λc=>?_⟩
   ·rw [e,f ⋯,lZ ⋯];ext
   ·rw [e];by_cases d:i=m
    ·rw [kA d,f ⋯,d];show (0*q m+1*(p m*jD q m))*q m=p m*(jD q m*q m);ext
    ·rw [lZ d];have:=g ⋯;show _=p i*(jD q m*q m);have j:(st n i (jN (λi=>cm (X n) (p i)) (λi=>cm (X n) (q i)) m)*q m+0*(p m*jD q m))*q i=st n i (jN (λi=>cm (X n) (p i)) (λi=>cm (X n) (q i)) m)*q i*q m:=by ext
     rw [j,this];ext
def parts_of {n:Nat} (n0:0<n) {p q:Nat->Sr} (hp:∀ i,Pol (p i)) (d:∀ i,Pol (q i)) (j:∀ i,i<n->q i≠0) {t b:Sr} (m:Pol t) (g:Pol b) (e:t*cm (X n) (jD q n)=jN (λi=>cm (X n) (p i)) (λi=>cm (X n) (q i)) n*cm (X n) b) {i:Nat} (f:i<n):st n i t*q i=p i*b:=by
 have h:=congrArg (st n i) e;rw [st_sp n0 f _ (jD_pol d n),st_sp n0 f _ g] at h;have k:=(j_st n0 hp d f n (AT _)).2 f;have o:=jD_ne d n j;refine cancel ((st_pol n0 m).mul (d i)) ((hp i).mul g) (jD_pol d n) o ?_;have r:st n i t*q i*jD q n=st n i t*jD q n*q i:=by ext
 rw [r,h];have u:∀ a b c:Sr,a*b*c=a*c*b:=λa b c=>by ext
 rw [u,k];ext
end Sr
noncomputable def evF (f:dM) (n:Nat) (x:Rat):dM
 | 0=>0
 | d+1=>f (n - 1 - d)+x*evF f n x d
theorem Hf {f g:dM} {n:Nat} {x:Rat}:∀ d,d<=n->(∀ i,n - d<=i->i<n->f i=g i)->evF f n x d=evF g n x d
 | 0,_,_=>rfl
 | d+1,b,h=>by
   show f (n - 1 - d)+x*evF f n x d=g (n - 1 - d)+x*evF g n x d;rw [Hf d ⋯ (λi c a=>h i ⋯ a),h (n - 1 - d) ⋯ ⋯]
theorem KO {f:dM} {n:Nat} {x B:Rat}:∀ d,evF (λi=>f i / B) n x d=evF f n x d / B
 | 0=>(O' B).symm
 | d+1=>by
   show f (n - 1 - d) / B+x*evF (λi=>f i / B) n x d=(f (n - 1 - d)+x*evF f n x d) / B;rw [KO d];ext
noncomputable def sy (c:Int) (R:dL) (n:Nat):dL
 | 0=>R (n - 1)
 | d+1=>R (n - 1 - (d+1))+c*sy c R n d
noncomputable def rnd (c:Int) (R:dL) (n first:Nat) (j:Nat):Int:=if j<first then R j else sy c R n (n - 1 - j)
noncomputable def S_ (c:Int) (R:dL) (n:Nat):Nat->dL
 | 0=>R
 | i+1=>rnd c (S_ c R n i) n i
def yO {c:Int} {R:dL} {n first:Nat} (h:first<n):rnd c R n first (n - 1)=R (n - 1):=by
 unfold rnd;rw [lZ ⋯,show n - 1 - (n - 1)=0 by omega];rfl
theorem Qq {c:Int} {R:dL} {n:Nat}:∀ i,i<n->S_ c R n i (n - 1)=R (n - 1)
 | 0,_=>rfl
 | i+1,h=>by
   show rnd c (S_ c R n i) n i (n - 1)=_;rw [yO ⋯,Qq i ⋯]
end Bs
namespace Bs
open PySem
noncomputable def Gj (K:W.Frag):Addr:=match W.nsIn K PySem.mainGlobals "EXPONENTS" with | some (some (.ref a))=>a | _=>0
noncomputable def Hg (K:W.Frag):Addr:=match W.nsIn K PySem.mainGlobals "NOUGHT" with | some (some (.ref a))=>a | _=>0
end Bs
namespace Bs
open PySem L2
noncomputable def NuK (K:W.Frag) (H:Hp):dj->d7->Prop
 | [],[]=>True
 | v::a,q::l=>(∃ p,v=.ref p/\SqT K H p [.int q.1,.int q.2])/\NuK K H a l
 | _,_=>False
theorem NuK.of {K:W.Frag} {H:Hp}:∀ {xs:dj} {l:d7},Nums H xs l->NuK K H xs l
 | [],[],_=>trivial
 | [],_::_,h=>h.elim
 | _::_,[],h=>h.elim
 | _::_,_::_,h=>⟨let ⟨p,e,r⟩:=h.1;⟨p,e,SqT.of r⟩,NuK.of h.2⟩
theorem NuK.length {K:W.Frag} {H:Hp}:∀ {xs:dj} {l:d7},NuK K H xs l->xs.length=l.length
 | [],[],_=>rfl
 | [],_::_,h=>h.elim
 | _::_,[],h=>h.elim
 | _::_,_::_,h=>congrArg Nat.succ (NuK.length h.2)
theorem NuK.get {K:W.Frag} {H:Hp}:∀ {xs:dj} {l:d7} {i:Nat} {v:V},NuK K H xs l->xs[i]?=some v->∃ q,l[i]?=some q/\∃ p,v=.ref p/\SqT K H p [.int q.1,.int q.2]
 | [],[],_,_,_,e=>nomatch e
 | [],_::_,_,_,h,_=>h.elim
 | _::_,[],_,_,h,_=>h.elim
 | _::_,q::_,0,_,h,e=>⟨q,rfl,kH e ▸ h.1⟩
 | _::_,_::_,i+1,_,h,e=>NuK.get (i:=i) h.2 e
def _root_.L2.Same.sqT {K:W.Frag} {H b:Hp} {a:Addr} {xs:dj} (e:Same H b) (h:SqT K H a xs):SqT K b a xs:=by
 rcases h with (h | ⟨o,h⟩) | h
 ·exact .inl (.inl (e _ _ h))
 ·exact .inl (.inr ⟨o,e _ _ h⟩)
 ·exact .inr h
theorem NuK.same {K:W.Frag} {H a:Hp} (s:Same H a):∀ {xs:dj} {l:d7},NuK K H xs l->NuK K a xs l
 | [],[],_=>trivial
 | [],_::_,h=>h.elim
 | _::_,[],h=>h.elim
 | _::_,_::_,h=>⟨let ⟨p,e,r⟩:=h.1;⟨p,e,s.sqT r⟩,NuK.same s h.2⟩
abbrev Nm (H:Hp) (p:Addr) (t d:Int):Prop:=H p=some (.tup [.int t,.int d])
def Ev (_:W.Frag):Sp:=λc H Q _=>∃ a b:Int,c=[.int a,.int b]/\Q (.int ((Int.gcd a b:Nat):Int)) H
def KP (K:W.Frag):Sp:=λc H Q _=>∃ (a:Addr) (b:dq),c=[.ref a]/\SqL K H a (b.map V.int)/\b.length<=63/\∀ d,Q (.bl true) d
def Gk (_:W.Frag):Sp:=λa H Q _=>∃ (x n:Int) (b:Nat),a=[.int x,.int n]/\0<=n/\Bd b x/\b*n.toNat+1<=200000/\Q (.int (x ^ n.toNat)) H
noncomputable def Ag (n:Nat) (f:dL):dj:=((List.range n).map f).map V.int
noncomputable def DE (ns:dq):Nat->Nat
 | 0=>0
 | m+1=>if ns.getD m 1=0 then DE ns m else m+1
noncomputable def C1 (ns:dq):dq:=ns.take (DE ns ns.length)
def Pl (H:Hp) (r:Addr) (L:d7):Prop:=∃ a,H r=some (.tup a)/\Nums H a L
def Hh (_:W.Frag):Sp:=λb H Q _=>∃ (p:Addr) (a:dq),b=[.ref p]/\H p=some (.lst (a.map V.int))/\∀ r,H r=none->Q (.ref r) (upd H r (.lst ((C1 a).map V.int)))
def Tz (ns:dq):Prop:=ns=[]\/co ns (ns.length - 1)≠0
noncomputable def SDs (H:Hp):dj->List (dq)->Prop
 | [],[]=>True
 | x::a,r::b=>(∃ p,x=.ref p/\H p=some (.lst (r.map V.int)))/\SDs H a b
 | _,_=>False
def SD (H:Hp) (p:Addr) (b:List (dq)):Prop:=∃ a,H p=some (.lst a)/\SDs H a b
def Ir (_:W.Frag):Sp:=λc H Q _=>∃ (p:Addr) (a:dq) (st:Int),c=[.ref p,.int st]/\H p=some (.lst (a.map V.int))/\a.length<=1000/\∀ (g:Int) (b:Hp),Same H b->0<=g->g∣st->(∀ z∈a,g∣z)->(∀ d:Int,d∣st->(∀ z∈a,d∣z)->d∣g)->Q (.int g) b
def Iu (_:W.Frag):Sp:=λb H Q _=>∃ (p:Addr) (a:dq) (g:Int),b=[.ref p,.int g]/\H p=some (.lst (a.map V.int))/\(0<g\/a=[])/\a.length<=1000/\∀ r,H r=none->Q (.ref r) (upd H r (.lst ((a.map (·/ g)).map V.int)))
def Iw (_:W.Frag):Sp:=λe H Q _=>∃ (p q:Addr) (a b:dq) (f w:Int) (s:Nat),e=[.ref p,.int f,.ref q,.int w,.int (s:Int)]/\H p=some (.lst (a.map V.int))/\H q=some (.lst (b.map V.int))/\a.length<=1000/\s+b.length<=1000/\Bd 60000000 f/\Bd 60000000 w/\(∀ z∈a,Bd 60000000 z)/\(∀ z∈b,Bd 60000000 z)/\
 ∀ (r:Addr) (c:dq) (d:Hp),Same H d->d r=some (.lst (c.map V.int))->Tz c->(∀ k,co c k=f*co a k - w*Ay s (co b) k)->Q (.ref r) d
def Ix (_:W.Frag):Sp:=λg H Q _=>∃ (p q:Addr) (a c:dq) (b d:Nat),g=[.ref p,.ref q]/\H p=some (.lst (a.map V.int))/\H q=some (.lst (c.map V.int))/\Lz c/\(∀ z∈a,Bd b z)/\(∀ z∈c,Bd d z)/\b+a.length*(d+1)<=60000000/\d<=60000000/\a.length<=1000/\c.length<=1000/\((¬ ∃ A:dq,∀ k,co a k=cvL A (co c) k)->∀ e,Same H e->Q .non e)/\
 ∀ (r:Addr) (f:dq) (e:Hp),Same H e->e r=some (.lst (f.map V.int))->(∀ k,co a k=cvL f (co c) k)->Q (.ref r) e
def Sh (b a:List (dq)):Prop:=∃ g:Int,0<g/\b=a.map (·.map (g*·))
def yP (a:List (dq)):Prop:=(∀ r∈a,r=[])\/∀ d:Int,(∀ r∈a,∀ z∈r,d∣z)->d.natAbs=1
def Iy (_:W.Frag):Sp:=λd H Q _=>∃ (p:Addr) (b:List (dq)),d=[.ref p]/\SD H p b/\b.length<=1000/\(∀ r∈b,r.length<=1000/\Tz r)/\
 ∀ (t:Addr) (a:List (dq)) (c:Hp),Same H c->SD c t a->Sh b a->yP a->Q (.ref t) c
def Hi (_:W.Frag):Sp:=λd H Q _=>∃ (p:Addr) (a:dq),d=[.ref p]/\H p=some (.lst (a.map V.int))/\a.length<=1000/\Tz a/\
 ∀ (t:Addr) (b:dq) (g:Int) (c:Hp),Same H c->c t=some (.lst (b.map V.int))->0<g->a=b.map (g*·)->(a=[]\/Prim b)->Q (.ref t) c
def KQ (_:W.Frag):Sp:=λb H Q _=>∃ (p q:Addr) (o:dq),b=[.ref p,.ref q]/\SD H p [[]]/\SD H q [o]/\0<o.length/\∀ (t:Addr) (a:Hp),Same H a->SD a t [[]]->Q (.ref t) a
def JA (_:W.Frag):Sp:=λb H Q _=>∃ (p q:Addr) (s o:dq),b=[.ref p,.ref q]/\SD H p [s]/\SD H q [o]/\(s=[]\/o=[])/\∀ (t:Addr) (a:Hp),Same H a->SD a t [if o=[] then s else o]->Q (.ref t) a
def KR (_:W.Frag):Sp:=λb H Q _=>∃ a p:Int,b=[.int a,.int p]/\2<=p/\Bd 45000 p/\∀ r:Int,0<=r->r<p->(Int.gcd a p=1->p∣r*a - 1)->Q (.int r) H
def KS (_:W.Frag):Sp:=λb H Q _=>∃ (p:Addr) (a:dq) (m:Int),b=[.ref p,.int m]/\H p=some (.lst (a.map V.int))/\0<m/\a.length<=1000/\∀ r,H r=none->Q (.ref r) (upd H r (.lst ((a.map (·% m)).map V.int)))
def Md (m:Int) (a:dq) (f:dL):Prop:=(∀ z∈a,0<=z/\z<m)/\∀ k,m∣co a k - f k
def Hj (_:W.Frag):Sp:=λd H Q _=>∃ (p:Addr) (a:dq) (m:Int),d=[.ref p,.int m]/\H p=some (.lst (a.map V.int))/\0<m/\a.length<=1000/\∀ (r:Addr) (b:dq) (c:Hp),Same H c->c r=some (.lst (b.map V.int))->Tz b->b.length<=a.length->Md m b (co a)->Q (.ref r) c
def Hk (_:W.Frag):Sp:=λd H Q _=>∃ (q:Addr) (a:dq) (p:Nat),d=[.ref q,.int (p:Int)]/\H q=some (.lst (a.map V.int))/\Pr p/\Bd 45000 (p:Int)/\a.length<=1000/\Tz a/\(∀ z∈a,0<=z/\z<(p:Int))/\
 ∀ (r:Addr) (b:dq) (f:Int) (c:Hp),Same H c->c r=some (.lst (b.map V.int))->b.length=a.length->(a≠[]->co b (b.length - 1)=1)->Md (p:Int) b (λk=>f*co a k)->Q (.ref r) c
def KT (_:W.Frag):Sp:=λg H Q _=>∃ (p q:Addr) (f a:dq) (m:Int) (b:Nat),g=[.ref p,.ref q,.int m]/\H p=some (.lst (f.map V.int))/\H q=some (.lst (a.map V.int))/\0<a.length/\co a (a.length - 1)=1/\0<m/\Bd b m/\(∀ z∈a,Bd b z)/\b<=60000000/\f.length<=1000/\a.length<=1000/\
 ∀ (t r s:Addr) (d e:dq) (c:Hp),Same H c->c t=some (.tup [.ref r,.ref s])->c r=some (.lst (d.map V.int))->c s=some (.lst (e.map V.int))->Tz d->Tz e->e.length<a.length->Md m e (λk=>co f k - cvL d (co a) k)->(∀ z∈d,0<=z/\z<m)->Q (.ref t) c
def KU (_:W.Frag):Sp:=λf H Q _=>∃ (p q:Addr) (d a:dq) (m:Int) (b:Nat),f=[.ref p,.ref q,.int m]/\H p=some (.lst (d.map V.int))/\H q=some (.lst (a.map V.int))/\0<a.length/\co a (a.length - 1)=1/\0<m/\Bd b m/\(∀ z∈a,Bd b z)/\b<=60000000/\d.length<=1000/\a.length<=1000/\
 ∀ (s:Addr) (g c:dq) (e:Hp),Same H e->e s=some (.lst (c.map V.int))->Tz c->c.length<a.length->Md m c (λk=>co d k - cvL g (co a) k)->Q (.ref s) e
def KW (_:W.Frag):Sp:=λh H Q _=>∃ (a b:Addr) (d e:dq) (p:Nat),h=[.ref a,.ref b,.int (p:Int)]/\H a=some (.lst (d.map V.int))/\H b=some (.lst (e.map V.int))/\Pr p/\Bd 45000 (p:Int)/\d.length<=1000/\e.length<=1000/\((∃ k,¬ (p:Int)∣co d k)\/∃ k,¬ (p:Int)∣co e k)/\
 ∀ (s:Addr) (c:dq) (f:Hp),Same H f->f s=some (.lst (c.map V.int))->0<c.length->c.length<=1000->co c (c.length - 1)=1->(∀ z∈c,0<=z/\z<(p:Int))->(∀ g:dL,Dm (p:Int) g (co d)->Dm (p:Int) g (co e)->Dm (p:Int) g (co c))->Dm (p:Int) (co c) (co d)->Dm (p:Int) (co c) (co e)->Q (.ref s) f
def KY (_:W.Frag):Sp:=λa H Q _=>∃ w p:Int,a=[.int w,.int p]/\0<p/\∀ r:Int,p∣r - w->2*r.natAbs<=p.natAbs->Q (.int r) H
def Fi (e:Nat) (ns:dq):Prop:=∀ A g:dq,(∀ k,co ns k=cvL A (co g) k)->∀ k,Bd e (co g k)
def Fp (e:Nat) (ns:dq):Prop:=∀ g:dq,Lz g->Prim g->MQ (co g) (co ns)->∀ k,Bd e (co g k)
def Qs (e c N p:Nat):Prop:=2 ^ ((e+c+2)*N)<p
def KZ (_:W.Frag):Sp:=λj H Q _=>∃ (a b:Addr) (f g:dq) (p d e c N:Nat),j=[.ref a,.ref b,.int (p:Int)]/\H a=some (.lst (f.map V.int))/\H b=some (.lst (g.map V.int))/\Pr p/\Bd 45000 (p:Int)/\Lz f/\Lz g/\(∀ z∈f,Bd d z)/\(∀ z∈g,Bd d z)/\d+f.length*45001<=3000000/\d+g.length*45001<=3000000/\Fi e f/\Fi e g/\f.length+g.length<2 ^ (c+1)/\f.length+g.length<=N+2/\2<=N/\(¬ Qs e c N p->∀ h,Same H h->Q .non h)/\
 ∀ (s:Addr) (i:dq) (h:Hp),Same H h->h s=some (.lst (i.map V.int))->RC (co f) (co g) i->Prim i->Q (.ref s) h
def Ka (_:W.Frag):Sp:=λj H Q _=>∃ (a b:Addr) (f g:dq) (d e c N:Nat),j=[.ref a,.ref b]/\H a=some (.lst (f.map V.int))/\H b=some (.lst (g.map V.int))/\Tz f/\Tz g/\(∀ z∈f,Bd d z)/\(∀ z∈g,Bd d z)/\d<=200000/\f.length<=60/\g.length<=60/\(f≠[]->g≠[]->Fp e f/\Fp e g)/\f.length+g.length<2 ^ (c+1)/\f.length+g.length<=N+2/\2<=N/\(e+c+2)*N<=44490/\
 ∀ (s:Addr) (h:dq) (i:Hp),Same H i->i s=some (.lst (h.map V.int))->((f≠[]\/g≠[])->RC (co f) (co g) h/\Prim h)->(f=[]->g=[]->h=[])->Q (.ref s) i
structure Gq (b c:Nat) (l:d7):Prop where
 low:AX l
 nz:Nz l
 ov:∃ M,Ov l M/\Bd c M/\∀ z∈P_ l M,Bd b z
noncomputable def K_ (g:dq):d7:=g.map λn=>Ao n (co g (g.length - 1))
def MR (g f:dM):Prop:=∃ A:List Rat,∀ k,f k=cvL A g k
def Co (_:W.Frag):Sp:=λc H Q _=>∃ a b:Int,c=[.int a,.int b]/\b≠0/\∀ (p:Addr),H p=none->Q (.ref p) (upd H p (.tup [.int (Ao a b).1,.int (Ao a b).2]))
def Dc (_:W.Frag):Sp:=λb H Q _=>∃ (p:Addr) (a:dj) (l:d7),b=[.ref p]/\H p=some (.lst a)/\Nums H a l/\l.length<=1000/\Fu H Q (trim l)
def EV (K:W.Frag):Sp:=λd H Q _=>∃ (p:Addr) (c:dj) (l:d7) (M:Int),d=[.ref p]/\SqT K H p c/\NuK K H c l/\AX l/\Ov l M/\Bd 400000 M/\(∀ q∈l,Bd 60000000 q.1)/\l.length<=1000/\
 ∀ (r a:Addr) (b:Hp),Same H b->b r=some (.tup [.ref a,.int (Aa l)])->b a=some (.lst ((AL l).map V.int))->Q (.ref r) b
def Gn (_:W.Frag):Sp:=λb H Q _=>∃ (p:Addr) (a:dq) (B:Int),b=[.ref p,.int B]/\H p=some (.lst (a.map V.int))/\B≠0/\a.length<=1000/\Fu H Q (trim (a.map λn=>Ao n B))
def Fx (K:W.Frag):Sp:=λh H Q _=>∃ (p q:Addr) (a f:dj) (l m:d7) (b c e d N:Nat),h=[.ref p,.ref q]/\SqT K H p a/\H q=some (.tup f)/\NuK K H a l/\Nums H f m/\Gq b c l/\Gq b c m/\b<=200000/\c<=200000/\l.length<=60/\m.length<=60/\(l≠[]->m≠[]->Fp e (AL l)/\Fp e (AL m))/\l.length+m.length<2 ^ (d+1)/\l.length+m.length<=N+2/\2<=N/\(e+d+2)*N<=44490/\
 (l=[]->m=[]->Fu H Q [])/\((l≠[]\/m≠[])->∀ g,RC (co (AL l)) (co (AL m)) g->Prim g->Fu H Q (K_ g))
def Kb (f:Nu->Nu->Nu) (_:W.Frag):Sp:=λe H Q _=>∃ (p q:Addr) (a b c d:Int),e=[.ref p,.ref q]/\Nm H p a b/\Nm H q c d/\0<b/\0<d/\Bd 60000000 a/\Bd 60000000 b/\Bd 60000000 c/\Bd 60000000 d/\
 ∀ (r:Addr),H r=none->Q (.ref r) (upd H r (.tup [.int (f (a,b) (c,d)).1,.int (f (a,b) (c,d)).2]))
def Kc (K:W.Frag):Sp:=λj H Q _=>∃ (p q:Addr) (h i:dj) (l m:d7) (b c d e:Nat),j=[.ref p,.ref q]/\SqT K H p h/\H q=some (.tup i)/\NuK K H h l/\Nums H i m/\Gq b c l/\Gq d e m/\m≠[]/\l.length<=100/\m.length<=100/\
 c+(l.length+1 - m.length)*d<=400000/\b+(l.length+1 - m.length)*(d+1)+e<=900000/\e<=400000/\d<=400000/\
 ∀ (t u v:Addr) (f:Hp) (a g:d7),Same H f->f t=some (.tup [.ref u,.ref v])->Pl f u a->Pl f v g->AX a->Nz a->a.length<=l.length+1 - m.length->Gq (b+(l.length+1 - m.length)*(d+1)) (c+(l.length+1 - m.length)*d) g->g.length<m.length->
   (∀ k,B_ l k=cv (B_ a) (B_ m) a.length k+B_ g k)->Q (.ref t) f
def Cop (T B:dM):Prop:=∃ U W:List Rat,∀ k,(Aj k:Rat)=cvL U T k+cvL W B k
noncomputable abbrev JB:=Kb I_
def Ho (_:W.Frag):Sp:=λe H Q _=>∃ (p q:Addr) (a b c d:Int),e=[.ref p,.ref q]/\Nm H p a b/\Nm H q c d/\0<b/\c≠0/\Bd 60000000 a/\Bd 60000000 b/\Bd 60000000 c/\Bd 60000000 d/\
 ∀ (r:Addr),H r=none->Q (.ref r) (upd H r (.tup [.int (Ao (a*d) (b*c)).1,.int (Ao (a*d) (b*c)).2]))
def Kd (_:W.Frag):Sp:=λf H Q _=>∃ (p q:Addr) (a c:dq) (b d:Nat),f=[.ref p,.ref q]/\H p=some (.lst (a.map V.int))/\H q=some (.lst (c.map V.int))/\(∀ z∈a,Bd b z)/\(∀ z∈c,Bd d z)/\b<=900000/\d<=900000/\a.length<=100/\c.length<=100/\
 ∀ (r:Addr) (e:Hp),Same H e->e r=some (.lst ((if a.length=0\/c.length=0 then [] else (List.range (a.length+c.length - 1)).map λk=>ps a c a.length k).map V.int))->Q (.ref r) e
def Cp (K:W.Frag):Sp:=λh H Q _=>∃ (p q:Addr) (f g:dj) (l m:d7) (b c d e:Nat),h=[.ref p,.ref q]/\SqT K H p f/\H q=some (.tup g)/\NuK K H f l/\Nums H g m/\Gq b c l/\Gq d e m/\l.length<=100/\m.length<=100/\b<=300000/\c<=300000/\d<=300000/\e<=300000/\
 ∀ (r:Addr) (R:d7) (a:Hp),Same H a->Pl a r R->Gq (b+d+l.length) (c+e) R->R.length<=l.length+m.length - 1->(∀ k,B_ R k=cv (B_ l) (B_ m) l.length k)->Q (.ref r) a
def JC (_:W.Frag):Sp:=λe H Q _=>∃ (p c:Addr) (d:dj) (l:d7) (a b:Int),e=[.ref p,.ref c]/\H p=some (.tup d)/\Nm H c a b/\Nums H d l/\AX l/\0<b/\Bd 60000000 a/\Bd 60000000 b/\(∀ q∈l,Bd 60000000 q.1/\Bd 60000000 q.2)/\l.length<=1000/\Fu H Q (trim (l.map λq=>I_ q (a,b)))
def EW (K:W.Frag):Sp:=λh H Q _=>∃ (p q:Addr) (f g:dj) (l m:d7) (b c d e:Nat),h=[.ref p,.ref q]/\SqT K H p f/\H q=some (.tup g)/\NuK K H f l/\Nums H g m/\Gq b c l/\Gq d e m/\m≠[]/\l.length<=100/\m.length<=100/\
 c+(l.length+1 - m.length)*d<=400000/\b+(l.length+1 - m.length)*(d+1)+e<=900000/\e<=400000/\d<=400000/\MR (B_ m) (B_ l)/\
 ∀ (r:Addr) (R:d7) (a:Hp),Same H a->Pl a r R->AX R->Nz R->R.length<=l.length+1 - m.length->(∀ k,B_ l k=cv (B_ R) (B_ m) R.length k)->Q (.ref r) a
noncomputable abbrev Mo:=Kb a8
noncomputable abbrev Ke:=Kb a9
def Go (_:W.Frag):Sp:=λc H Q _=>∃ (p:Addr) (b:dj) (l:d7) (i:Nat),c=[.ref p,.int (i:Int)]/\H p=some (.tup b)/\Nums H b l/\∀ (v:V) (a:Hp),Same H a->isN a v (AZ l i)->Q v a
def JE (f:Nu->Nu->Nu) (s:Rat) (_:W.Frag):Sp:=λg H Q _=>∃ (p q:Addr) (d e:dj) (l m:d7) (M:Int) (b c:Nat),g=[.ref p,.ref q]/\H p=some (.tup d)/\H q=some (.tup e)/\Nums H d l/\Nums H e m/\AX l/\AX m/\Ov l M/\Ov m M/\Bd c M/\(∀ z∈P_ l M,Bd b z)/\(∀ z∈P_ m M,Bd b z)/\b<=300000/\c<=300000/\l.length<=100/\m.length<=100/\
 ∀ (r:Addr) (R:d7) (a:Hp),Same H a->Pl a r R->Gq (b+1) c R->R.length<=max l.length m.length->(∀ k,B_ R k=B_ l k+s*B_ m k)->Q (.ref r) a
noncomputable abbrev JF:=JE a8 1
noncomputable abbrev Kf:=JE a9 (-1)
def Hr (_:W.Frag):Sp:=λc H Q _=>∃ (p q:Addr) (l m:d7),c=[.ref p,.ref q]/\Pl H p l/\Pl H q m/\AX l/\AX m/\Nz m/\m≠[]/\(∀ q∈l,Bd 1000000 q.1/\Bd 1000000 q.2)/\(∀ q∈m,Bd 1000000 q.1/\Bd 1000000 q.2)/\l.length<=1000/\m.length<=1000/\
 ∀ a:Nu,Low a.1 a.2->val a*val (AZ m (m.length - 1))=1->∀ (t u v:Addr) (b:Hp),Same H b->b t=some (.tup [.ref u,.ref v])->Pl b u (trim (l.map λq=>I_ q (a.1,a.2)))->Pl b v (trim (m.map λq=>I_ q (a.1,a.2)))->Q (.ref t) b
noncomputable def rw' (l:d7):List Rat:=(List.range l.length).map (B_ l)
def FF (H:Hp) (p:Addr) (T B:d7):Prop:=∃ u v,H p=some (.tup [.ref u,.ref v])/\Pl H u T/\Pl H v B
noncomputable def dv (f:dM) (k:Nat):Rat:=((k:Rat)+1)*f (k+1)
noncomputable def sr (l:d7):Sr:=⟨B_ l⟩
noncomputable def si (ns:dq):Sr:=⟨λk=>(co ns k:Rat)⟩
structure Lw (T B:d7):Prop where
 lt:AX T
 lb:AX B
 nt:Nz T
 nb:Nz B
 ne:B≠[]
 one:AZ B (B.length - 1)=(1,1)
 cs:Sr.Cs (sr T) (sr B)
structure Rp (b n m:Nat) (T B:d7):Prop where
 lw:Lw T B
 rp:∃ N D:dq,Lz D/\Tz N/\(∀ z∈N,Bd b z)/\(∀ z∈D,Bd b z)/\N.length<=n/\D.length<=m/\sr T*si D=si N*sr B
structure C0 (x n m e:Nat):Prop where
 n1:1<=n
 m1:1<=m
 n60:n<=60
 m60:m<=60
 ne:n<2 ^ e
 me:m<2 ^ e
 e6:e<=6
 lu:(x+e+2)*(n+m)<=44490
def Ew (_:W.Frag):Sp:=λc H Q _=>∃ (p q:Addr) (l m:d7) (b x n k e:Nat),c=[.ref p,.ref q]/\Pl H p l/\Pl H q m/\Gq b b l/\Gq b b m/\m≠[]/\l.length<=n/\m.length<=k/\(l≠[]->Fp x (AL l))/\Fp x (AL m)/\C0 x n k e/\b<=100000/\
 ∀ (t:Addr) (a:Hp) (T B:d7),Same H a->FF a t T B->Lw T B->sr T*sr m=sr l*sr B->Q (.ref t) a
def FFK (K:W.Frag) (H:Hp) (p:Addr) (T B:d7):Prop:=∃ u v a b,SqT K H p [.ref u,.ref v]/\SqT K H u a/\NuK K H a T/\SqT K H v b/\NuK K H b B
def Kg (K:W.Frag):Sp:=λh H Q _=>∃ (p q:Addr) (T B b a:d7) (x y w m d f e:Nat),h=[.ref p,.ref q]/\FFK K H p T B/\FF H q b a/\Lw T B/\Lw b a/\Gq 10960 10960 T/\Gq 10960 10960 B/\Gq 10960 10960 b/\Gq 10960 10960 a/\B.length<=m/\a.length<=d/\T.length+a.length<=w+1/\b.length+B.length<=w+1/\Fp x (AL B)/\Fp x (AL a)/\C0 x m d e/\x<=2000/\m+d<=100/\(∀ (c:d7) (G:Sr),AX c->Nz c->c≠[]->Sr.Pol G->G≠0->G*sr c=sr T*sr a+sr b*sr B->Fp y (AL c))/\(m<=f\/d<=f)/\C0 (max x y) w f e/\
 ∀ (t:Addr) (g:Hp) (X Y:d7),Same H g->FF g t X Y->Lw X Y->sr X*(sr B*sr a)=(sr T*sr a+sr b*sr B)*sr Y->Q (.ref t) g
def Kh (_:W.Frag):Sp:=λh H Q _=>∃ (p q:Addr) (T B a b:d7) (x n m c f g e:Nat),h=[.ref p,.ref q]/\FF H p T B/\FF H q a b/\Lw T B/\Lw a b/\Gq 60100 60100 T/\Gq 60100 60100 B/\Gq 60100 60100 a/\Gq 60100 60100 b/\T.length<=n/\b.length<=g/\a.length<=f/\B.length<=m/\(T≠[]->Fp x (AL T))/\Fp x (AL b)/\(a≠[]->Fp c (AL a))/\Fp c (AL B)/\C0 x n g e/\C0 c f m e/\
 ∀ (t:Addr) (d:Hp) (X Y:d7),Same H d->FF d t X Y->Lw X Y->sr X*(sr B*sr b)=sr T*sr a*sr Y->Q (.ref t) d
structure KindAt (H:Hp) (p q1 q2:Addr) (n:Nat) (a b:Nu):Prop where
 at':H p=some (.tup [.int (n:Int),.ref q1,.ref q2])
 at1:H q1=some (.tup [.int a.1,.int a.2])
 at2:H q2=some (.tup [.int b.1,.int b.2])
 la:Low a.1 a.2
 lb:Low b.1 b.2
 a0:a.1≠0
 ba:Bd 40 a.1/\Bd 20 a.2
 bb:Bd 40 b.1/\Bd 20 b.2
 n2:2<=n
 n4:n<=4
def Src (H:Hp) (s:Addr):Prop:=∃ x y:Int,H s=some (.lst [.int x,.int y])/\0<=x/\0<=y
noncomputable def xq (u:Sr) (a b:Nu):Sr:=Sr.num (val a)⁻¹*(u - Sr.num (val b))
noncomputable def L1 (b:dq):Nat:=(b.map Int.natAbs).sum
def Iz (A n:Nat) (f:Sr):Prop:=∃ X:dq,si X=f/\L1 X<=A/\X.length<=n
def Qz (A n:Nat) (f:Sr):Prop:=∃ c:Rat,c≠0/\Iz A n (Sr.num c*f)
structure Sz where
 A:Nat
 n:Nat
 C:Nat
 m:Nat
 k:Nat
noncomputable def Sz.ad (z y:Sz):Sz:=⟨y.k*(z.A*y.C)+z.k*(y.A*z.C),max (z.n+y.m) (y.n+z.m) - 1,z.C*y.C,z.m+y.m - 1,z.k*y.k⟩
noncomputable def Sz.mu (z y:Sz):Sz:=⟨z.A*y.A,z.n+y.n - 1,z.C*y.C,z.m+y.m - 1,z.k*y.k⟩
noncomputable def C' (n:Nat):Nat:=Nat.log2 n+1
def Cb (c:Rat):Prop:=∃ p q:Int,p≠0/\q≠0/\c=(p:Rat) / (q:Rat)/\Bd 900 p/\Bd 900 q
structure Sq (c:Rat) (z:Sz) (T B:d7):Prop where
 lw:Lw T B
 cb:Cb c
 ex:∃ (N D:Sr) (κ:Int),Iz z.A z.n N/\Iz z.C z.m D/\D≠0/\κ≠0/\κ.natAbs<=z.k/\sr T*(Sr.num c*Sr.num (κ:Rat)*D)=N*sr B
noncomputable def Sz.b (z:Sz):Nat:=max (C' z.A+900) (C' z.C+C' z.k+900)
noncomputable def Sz.xA (z:Sz):Nat:=C' z.A+z.n*14
noncomputable def Sz.xC (z:Sz):Nat:=C' z.C+z.m*14
noncomputable def Sz.sm (z:Sz):Bool:=decide (z.b<=5000) && decide (1<=z.n) && decide (1<=z.m) && decide (z.n<=31) && decide (z.m<=31)
noncomputable def bU (x n m:Nat):Bool:=decide (1<=n) && decide (1<=m) && decide (n<=31) && decide (m<=31) && decide ((x+7)*(n+m)<=44490)
noncomputable def cP (z y:Sz):Bool:=z.sm && y.sm && bU (max z.xC y.xC) z.m y.m && decide (max z.xC y.xC<=2000) && bU (max (max z.xC y.xC) (z.ad y).xA) (z.ad y).n (min z.m y.m)
noncomputable def cQ (z y:Sz):Bool:=z.sm && y.sm && bU (max z.xA y.xC) z.n y.m && bU (max y.xA z.xC) y.n z.m
noncomputable def FFs (H:Hp):dj->List (d7×d7)->Prop
 | [],[]=>True
 | v::a,t::L=>(∃ p,v=.ref p/\FF H p t.1 t.2)/\FFs H a L
 | _,_=>False
noncomputable def O_ (L:List (d7×d7)) (i:Nat):d7:=(L.getD i ([],[(1,1)])).1
noncomputable def F_ (L:List (d7×d7)) (i:Nat):d7:=(L.getD i ([],[(1,1)])).2
def Jn (u:Sr) (n:Nat) (L:List (d7×d7)) (T B:d7):Prop:=sr T*Sr.jD (λi=>Sr.cm u (sr (F_ L i))) n=Sr.jN (λi=>Sr.cm u (sr (O_ L i))) (λi=>Sr.cm u (sr (F_ L i))) n*sr B
noncomputable def oA (n A:Nat):Nat:=if n=2 then A else if n=3 then 6*(A*A) else A*(A*A)
noncomputable def oC (n:Nat) (c:Rat):Rat:=if n=2 then c else if n=3 then c*c else c*(c*c)
def Qc (c:Rat) (A n:Nat) (f:Sr):Prop:=c≠0/\Iz A n (Sr.num c*f)
noncomputable def pA (n:Nat) (z:Sz):Nat:=z.n*2 ^ (C' z.A+z.n*12)*oA n (z.m*2 ^ (C' z.C+z.m*12))
noncomputable def pC (n:Nat) (z:Sz):Nat:=z.m*2 ^ (C' z.C+z.m*12)*(z.m*2 ^ (C' z.C+z.m*12)*oA n (z.m*2 ^ (C' z.C+z.m*12)))
noncomputable def pW (n:Nat) (z:Sz):Nat:=(z.n+(n - 1)*(z.m - 1)+n - 1) / n
noncomputable def Hs (n:Nat) (z:Sz):Sz:=⟨pA n z,pW n z,pC n z,z.m,1⟩
noncomputable def zY (n i:Nat) (z:Sz):Sz:=⟨pA n z,n*(pW n z - 1)+1+i,pC n z,n*(z.m - 1)+1,1⟩
noncomputable def zS (n i:Nat) (z:Sz):Sz:=⟨i*pA n z,n*(pW n z - 1)+1+i,pC n z,n*(z.m - 1)+1,1⟩
noncomputable def zX (n:Nat) (z:Sz):Sz:=⟨pA n z*2 ^ (61*(pW n z - 1)),pW n z,pC n z*2 ^ (61*(z.m - 1)),z.m,1⟩
structure Pk (n:Nat) (z:Sz):Prop where
 sm:z.sm=true
 n9:z.n<=9
 m8:z.m<=8
 xC:z.xC<=300
 w8:pW n z<=8
 w1:1<=pW n z
 cp:C' z.C+C' z.k+40*(pW n z - 1)<=899
 cq:C' z.A+2*(C' z.C+z.m*12+4)+40*(z.m - 1)<=899
 lu:(max (C' (pA n z)+pW n z*12) (C' (pC n z)+z.m*12)+6)*(pW n z+z.m)<=44490
 bX:(zX n z).b<=2500
 bP:(Hs n z).b<=2500
 oM:∀ i,i<n->cQ ⟨1,i+1,1,1,1⟩ ⟨pA n z,n*(pW n z - 1)+1,pC n z,n*(z.m - 1)+1,1⟩=true
 oS:∀ i,i<n->cP (zS n i z) (zY n i z)=true
noncomputable def bH (n:Nat) (z:Sz):Bool:=
 z.sm && decide (z.n<=9) && decide (z.m<=8) && decide (z.xC<=300) && decide (pW n z<=8) && decide (1<=pW n z) && decide (C' z.C+C' z.k+40*(pW n z - 1)<=899) && decide (C' z.A+2*(C' z.C+z.m*12+4)+40*(z.m - 1)<=899) &&
 decide ((max (C' (pA n z)+pW n z*12) (C' (pC n z)+z.m*12)+6)*(pW n z+z.m)<=44490) && decide ((zX n z).b<=2500) && decide ((Hs n z).b<=2500) &&
 (List.range n).all λi=>cQ ⟨1,i+1,1,1,1⟩ ⟨pA n z,n*(pW n z - 1)+1,pC n z,n*(z.m - 1)+1,1⟩ && cP (zS n i z) (zY n i z)
noncomputable def xt (i:Nat):d7:=List.replicate i (0,1)++[(1,1)]
noncomputable def R_ {a:Type} (n:Nat):Nat->List a->List a
 | _,[]=>[]
 | 0,x::l=>x::R_ n (n - 1) l
 | i+1,_::l=>R_ n i l
def NOk (K:W.Frag):Prop:=∃ u v w:Addr,∀ H:Hp,SqT K H (Hg K) [.ref u,.ref v]/\SqT K H u []/\SqT K H v [.ref w]/\SqT K H w [.int 1,.int 1]
def Ki (_:W.Frag):Sp:=λa H Q _=>∃ (p:Addr) (t d:Int) (n:Nat),a=[.ref p,.int (n:Int)]/\Nm H p t d/\Bd 40 t/\Bd 40 d/\n<=40/\
 ∀ (r:Addr),H r=none->Q (.ref r) (upd H r (.tup [.int (t ^ n),.int (d ^ n)]))
def Kj (_:W.Frag):Sp:=λe H Q _=>∃ (p:Addr) (a:dq) (c:Int) (b n:Nat),e=[.ref p,.int c]/\H p=some (.lst (a.map V.int))/\a.length<=n/\n<=20/\(∀ z∈a,Bd b z)/\b<=20000/\Bd 40 c/\
 ∀ (r:Addr) (d:Hp),Same H d->d r=some (.lst (Ag a.length (S_ c (λk=>a.getD k 0) a.length (a.length - 1))))->Q (.ref r) d
noncomputable def bM (b n:Nat):Nat:=b+80*n+41*n*n+3
noncomputable def ap (l:d7) (x:Rat):Rat:=evF (B_ l) l.length x l.length
structure Mvd (s:Rat) (b n:Nat) (l L:d7):Prop where
 gq:Gq (bM b n) (bM b n) L
 len:L.length=l.length
 top:B_ L (l.length - 1)=B_ l (l.length - 1)
 ev:∀ x,ap L x=ap l (x+s)
def JG (_:W.Frag):Sp:=λf H Q _=>∃ (p q:Addr) (e:dj) (l:d7) (a d:Int) (b n:Nat),f=[.ref p,.ref q]/\H p=some (.tup e)/\Nm H q a d/\Nums H e l/\Gq b b l/\b<=8000/\Low a d/\Bd 40 a/\Bd 40 d/\l.length<=n/\n<=20/\
 ∀ (r:Addr) (c:Hp) (L:d7),Same H c->Pl c r L->Mvd (val (a,d)) b n l L->Q (.ref r) c
def FM (_:W.Frag):Sp:=λe H Q _=>∃ (p q:Addr) (l:d7) (a d:Int) (b s:Nat),e=[.ref p,.ref q]/\Pl H p l/\Nm H q a d/\Low a d/\a≠0/\Bd s a/\Bd s d/\s<=40/\Gq b b l/\l.length<=40/\b<=60000/\
 ∀ (r:Addr) (L:d7) (c:Hp),Same H c->Pl c r L->Gq (b+l.length*s+2) (b+l.length*s+2) L->L.length=l.length->sr L=Sr.cm (Sr.num (val (a,d))*Sr.X 1) (sr l)->Q (.ref r) c
def Hu (_:W.Frag):Sp:=λc H Q _=>∃ (p:Addr) (l:d7) (n b:Nat),c=[.ref p,.int (n:Int)]/\Pl H p l/\2<=n/\n<=4/\Gq b b l/\l.length<=40/\
 ∀ (r:Addr) (L:d7) (a:Hp),Same H a->Pl a r L->Gq b b L->L.length=(if l=[] then 0 else n*(l.length - 1)+1)->sr L=Sr.cm (Sr.X n) (sr l)->Q (.ref r) a
def Kk (_:W.Frag):Sp:=λe H Q _=>∃ (p x f g:Addr) (n c:Nat) (a b:Nu) (l:d7),e=[.ref p,.ref x]/\KindAt H p f g n a b/\Pl H x l/\Gq c c l/\c<=6000/\l.length<=8/\
 ∀ (r:Addr) (L:d7) (d:Hp),Same H d->Pl d r L->Gq 10000 10000 L->L.length=(if l=[] then 0 else n*(l.length - 1)+1)->sr L=Sr.cm (xq (Sr.X n) a b) (sr l)->Q (.ref r) d
def Mp (_:W.Frag):Sp:=λf H Q _=>∃ (p q g h:Addr) (n:Nat) (a b:Nu) (c d:d7),f=[.ref p,.ref q]/\KindAt H p g h n a b/\FF H q c d/\Lw c d/\Gq 6000 6000 c/\Gq 6000 6000 d/\c.length<=8/\d.length<=8/\
 ∀ (r:Addr) (X Y:d7) (e:Hp),Same H e->FF e r X Y->Lw X Y->sr X*Sr.cm (Sr.num (val a)*Sr.X 1+Sr.num (val b)) (sr d)=Sr.cm (Sr.num (val a)*Sr.X 1+Sr.num (val b)) (sr c)*sr Y->Q (.ref r) e
def Kl (_:W.Frag):Sp:=λb H Q _=>∃ i:Nat,b=[.int (i:Int)]/\i<=4/\∀ (r:Addr) (a:Hp),Same H a->Pl a r (xt i)->Q (.ref r) a
def Gp (_:W.Frag):Sp:=λc H Q _=>∃ (p:Addr) (l:d7) (n i b:Nat),c=[.ref p,.int (n:Int),.int (i:Int)]/\Pl H p l/\2<=n/\i<n/\Gq b b l/\l.length<=100/\
 ∀ (r:Addr) (L:d7) (a:Hp),Same H a->Pl a r L->Gq b b L->n*L.length<=l.length+(n - 1) - i->sr L=Sr.st n i (sr l)->Q (.ref r) a
def Mq (_:W.Frag):Sp:=λc H Q _=>∃ (p:Addr) (l:d7) (n A b x k:Nat),c=[.ref p,.int (n:Int)]/\Pl H p l/\2<=n/\n<=4/\Gq b b l/\l≠[]/\b<=60000/\Qz A k (sr l)/\l.length<=k/\1<=k/\k<=15/\C' A+k*12<=x/\(x+6)*(2*k)<=44490/\
 ∀ (r:Addr) (L:d7) (a:Hp),Same H a->Pl a r L->Gq x x L->L≠[]->L.length<=k->AZ L (L.length - 1)=(1,1)->(∀ i,i<n->∃ Y,Sr.Pol Y/\Sr.st n i (sr l)=Y*sr L)->Q (.ref r) a
def OR (n:Nat) (l L:d7):Prop:=Gq 60000 60000 L/\L≠[]/\L.length<=(n - 1)*(l.length - 1)+1/\(∃ h,Sr.Pol h/\sr l*sr L=Sr.cm (Sr.X n) h)/\∀ c A k,Qc c A k (sr l)->l.length<=k->Qc (oC n c) (oA n A) ((n - 1)*(k - 1)+1) (sr L)
def Mr (_:W.Frag):Sp:=λc H Q _=>∃ (p:Addr) (l:d7) (n b:Nat),c=[.ref p,.int (n:Int)]/\Pl H p l/\2<=n/\n<=4/\Gq b b l/\l≠[]/\b<=1000/\l.length<=9/\
 ∀ (r:Addr) (L:d7) (a:Hp),Same H a->Pl a r L->OR n l L->Q (.ref r) a
def Ms (_:W.Frag):Sp:=λc H Q _=>∃ (p:Addr) (l:d7) (b:Nat),c=[.ref p]/\Pl H p l/\Gq b b l/\l≠[]/\b<=1000/\l.length<=9/\
 ∀ (r:Addr) (L:d7) (a:Hp),Same H a->Pl a r L->OR 3 l L->Q (.ref r) a
def Shr (n:Nat) (a b:Nu) (z:Sz) (L:List (d7×d7)):Prop:=∃ (c:Rat) (D:Sr) (N:Nat->Sr),Cb c/\D≠0/\Iz (pC n z) z.m D/\∀ i,i<n->Lw (O_ L i) (F_ L i)/\Gq 6000 6000 (O_ L i)/\Gq 6000 6000 (F_ L i)/\(O_ L i).length<=8/\(F_ L i).length<=8/\Iz (pA n z) (pW n z) (N i)/\
 Sr.cm (xq (Sr.X n) a b) (sr (O_ L i))*(Sr.num c*Sr.cm (Sr.X n) D)=Sr.cm (Sr.X n) (N i)*Sr.cm (xq (Sr.X n) a b) (sr (F_ L i))/\∃ d,Sq d (zX n z) (O_ L i) (F_ L i)
def Mt (_:W.Frag):Sp:=λd H Q _=>∃ (p w e f:Addr) (ps:dj) (n:Nat) (a b:Nu) (L:List (d7×d7)) (z:Sz),d=[.ref p,.ref w]/\KindAt H p e f n a b/\H w=some (.tup ps)/\FFs H ps L/\L.length=n/\Shr n a b z L/\bH n z=true/\
 ∀ (r:Addr) (T B:d7) (c:Hp),Same H c->FF c r T B->Lw T B->Jn (xq (Sr.X n) a b) n L T B->Q (.ref r) c
def Km (_:W.Frag):Sp:=λe H Q _=>∃ (p w f g:Addr) (n:Nat) (a b:Nu) (T B:d7) (z:Sz),e=[.ref p,.ref w]/\KindAt H p f g n a b/\FF H w T B/\Sq 1 z T B/\bH n z=true/\
 ∀ (r:Addr) (d:dj) (L:List (d7×d7)) (c:Hp),Same H c->c r=some (.tup d)->FFs c d L->L.length=n->Jn (xq (Sr.X n) a b) n L T B->Shr n a b z L->Q (.ref r) c
def Mu (_:W.Frag):Sp:=λb H Q _=>∃ v:V,b=[v]/\∀ (r w:Addr) (a:Hp),Same H a->a r=some (.tup [v,.ref w])->Pl a w [(1,1)]->Q (.ref r) a
def Kn (K:W.Frag):Sp:=λc H Q _=>∃ (s:Addr) (b:dq) (k:Int),c=[.ref s,.int k]/\SqL K H s (b.map V.int)/\0<=k/\k<=1000/\b.length<=63/\∀ (r:Addr) (a:Hp),H r=none->Same H a->Src a r->Q (.ref r) a
def CT (_:W.Frag):Sp:=λb H Q _=>∃ (s:Addr) (m:Int),b=[.ref s,.int m]/\Src H s/\0<m/\∀ (d:Int) (a:Hp),0<=d->d<m->Src a s->Kp s H a->Q (.int d) a
def Hv (_:W.Frag):Sp:=λb H Q _=>∃ (s:Addr),b=[.ref s]/\Src H s/\∀ (r:Addr) (q:Nu) (a:Hp),isN a (.ref r) q->Low q.1 q.2->Bd 40 q.1->q.2<=1000000->Src a s->Kp s H a->Q (.ref r) a
def Mv (_:W.Frag):Sp:=λd H Q _=>∃ (s:Addr),d=[.ref s]/\Src H s/\∀ (t e f:Addr) (n:Nat) (a b:Nu) (c:Hp),KindAt c t e f n a b->Src c s->Kp s H c->Q (.ref t) c
structure Lp (d:Nat) (l:d7):Prop where
 low:AX l
 nz:Nz l
 len:l.length<=d
 bt:∀ q∈l,Bd 40 q.1/\q.2<=1000000
def Ko (_:W.Frag):Sp:=λb H Q _=>∃ (s:Addr) (d:Nat),b=[.ref s,.int (d:Int)]/\Src H s/\d<=3/\∀ (r:Addr) (l:d7) (a:Hp),Pl a r l->Lp (d+1) l->Src a s->Kp s H a->Q (.ref r) a
noncomputable def fz (n:Nat):Sz:=⟨2 ^ (20*n)*(n*2 ^ (20+20*n)),n,n*2 ^ (20+20*n),n,2 ^ (20*n)⟩
def Mw (_:W.Frag):Sp:=λb H Q _=>∃ (s:Addr) (d:Nat),b=[.ref s,.int (d:Int),.int (d:Int)]/\Src H s/\d<=3/\∀ (r:Addr) (T B:d7) (a:Hp),FF a r T B->Sq 1 (fz (d+1)) T B->Src a s->Kp s H a->Q (.ref r) a
def Kq (_:W.Frag):Sp:=λb H Q _=>∃ (p:Addr) (t d:Int),b=[.ref p]/\Nm H p t d/\Low t d/\∀ a,Same H a->Q (.bl true) a
def Mx (_:W.Frag):Sp:=λb H Q _=>∃ (p u v:Addr) (L M:d7),b=[.ref p]/\H p=some (.tup [.ref u,.ref v])/\Pl H u L/\Pl H v M/\AX L/\AX M/\L.length<=100/\M.length<=100/\∀ a,Same H a->Q (.bl true) a
def JH (_:W.Frag):Sp:=λf H Q _=>∃ (p q:Addr) (e:dj) (l:d7) (a d:Int) (b:Nat),f=[.ref p,.ref q]/\H p=some (.tup e)/\Nm H q a d/\Nums H e l/\Gq b b l/\b<=8000/\Low a d/\Bd 100 a/\Bd 100 d/\l.length<=20/\
 ∀ (r:Addr) (c:Hp) (z:Nu),Same H c->isN c (.ref r) z->Low z.1 z.2->Bd 100000 z.1->Bd 100000 z.2->val z=ap l (val (a,d))->Q (.ref r) c
def At (H:Hp) (v:V) (T B:d7) (x:Rat):Prop:=(ap B x=0/\v=.non)\/(ap B x≠0/\∃ z:Nu,isN H v z/\Low z.1 z.2/\Bd 400000 z.1/\Bd 400000 z.2/\val z*ap B x=ap T x)
def Kr (_:W.Frag):Sp:=λe H Q _=>∃ (p q:Addr) (T B:d7) (a d:Int) (b:Nat),e=[.ref p,.ref q]/\FF H p T B/\Nm H q a d/\Gq b b T/\Gq b b B/\b<=8000/\T.length<=20/\B.length<=20/\Low a d/\Bd 100 a/\Bd 100 d/\∀ (v:V) (c:Hp),Same H c->At c v T B (val (a,d))->Q v c
def Ks (_:W.Frag):Sp:=λa H Q _=>∃ (p q:Addr) (x y:Nu),a=[.ref p,.ref q]/\isN H (.ref p) x/\isN H (.ref q) y/\0<x.2/\0<y.2/\Bd 9000000 x.1/\Bd 9000000 x.2/\Bd 9000000 y.1/\Bd 9000000 y.2/\
 ∀ (r:Addr) (z:Nu),H r=none->Low z.1 z.2->val z=val x+val y->(∀ b c,Bd b x.1->Bd b x.2->Bd c y.1->Bd c y.2->Bd (b+c+1) z.1/\Bd (b+c) z.2)->Q (.ref r) (upd H r (.tup [.int z.1,.int z.2]))
def Kt (_:W.Frag):Sp:=λa H Q _=>∃ (p q:Addr) (x y:Nu),a=[.ref p,.ref q]/\isN H (.ref p) x/\isN H (.ref q) y/\0<x.2/\0<y.2/\Bd 9000000 x.1/\Bd 9000000 x.2/\Bd 9000000 y.1/\Bd 9000000 y.2/\
 ∀ (r:Addr) (z:Nu),H r=none->Low z.1 z.2->val z=val x*val y->(∀ b c,Bd b x.1->Bd b x.2->Bd c y.1->Bd c y.2->Bd (b+c) z.1/\Bd (b+c) z.2)->Q (.ref r) (upd H r (.tup [.int z.1,.int z.2]))
def Hw (_:W.Frag):Sp:=λa H Q _=>∃ (x:Int) (n:Nat),a=[.int x,.int (n:Int)]/\n<=4/\Bd 3 x/\Q (.int (x ^ n)) H
def My (_:W.Frag):Sp:=λg H Q _=>∃ (p w v e h j:Addr) (n:Nat) (a b:Nu) (T B:d7) (ps:dj) (L:List (d7×d7)) (c d:Int),g=[.ref p,.ref w,.ref v,.ref e]/\KindAt H p h j n a b/\FF H w T B/\Gq 6000 6000 T/\Gq 6000 6000 B/\T.length<=9/\B.length<=9/\H v=some (.tup ps)/\FFs H ps L/\L.length=n/\(∀ i,i<n->Lw (O_ L i) (F_ L i)/\Gq 6000 6000 (O_ L i)/\Gq 6000 6000 (F_ L i)/\(O_ L i).length<=8/\(F_ L i).length<=8)/\Jn (xq (Sr.X n) a b) n L T B/\Nm H e c d/\Low c d/\Bd 3 c/\Bd 3 d/\
 ∀ f,Same H f->Q (.bl true) f
def Ku (_:W.Frag):Sp:=λd H Q _=>∃ (p w e f:Addr) (n:Nat) (a b:Nu) (T B:d7) (z:Sz),d=[.ref p,.ref w]/\KindAt H p e f n a b/\FF H w T B/\Sq 1 z T B/\bH n z=true/\∀ c,Same H c->Q (.bl true) c
section
variable (K:W.Frag)
set_option linter.unusedVariables false
def Qt (_:W.Frag):TS:=
 (AI (EL (A4 (A_ aA (AB 1) (tC (.int 0)))) (AI (AM (A_ O4 (AB 0) (AB 1)) (AH 2))
  (AI (AM (AB 1) (AH 0))
  (AM (AB 2) (AH 1)))))
  (Ab (K' GW (AA (AB 0) AC))))
def Qu (_:W.Frag):TS:=
 (AI (AM (tC (.int 1)) (AH 2))
  (AI (AM (AB 0) (AH 3))
  (AI (EL (A4 (A_ aR (AB 1) (tC (.int 0)))) (AI (BG (A4 (A_ au (A_ Cw (AB 1) (tC (.int 2))) (tC (.int 1)))) (EK 2 (AB 3) Au) BM)
  (AI (EK 1 (tC (.int 2)) Li)
  (BG (A4 (A_ aR (AB 1) (tC (.int 0)))) (EK 3 (AB 3) Au) BM))))
  (Ab (AB 2)))))
def Qv:TS:=
 (AI (AM (AE (Ev K) [] E0 (AA (Ly (HU (C7 K (AB 0)) [none] (AH 0) (A4 (A_ aA (AB 0) (tC (.int 0)))) (K' GW (AA (AB 0) AC)))) (AA (AB 1) AC))) (AH 2))
  (AI (BH (C7 K (AB 0)) (AH 3) (AI (BG (A4 (A_ au (AB 2) (tC (.int 1)))) (Ab (tC (.int 1))) BM)
  (AM (AE (Ev K) [] E0 (AA (AB 3) (AA (AB 2) AC))) (AH 2))))
  (Ab (AB 2))))
def Qw (_:W.Frag):TS:=
 (AI (AM (K' CI (AA (AB 0) AC)) (AH 1))
  (AI (EL (HG (A4 (A_ aR (AB 1) (tC (.int 0)))) (A4 (A_ au (A_ gL (AB 0) (A_ BA (AB 1) (tC (.int 1)))) (tC (.int 0))))) (EK 1 (tC (.int 1)) BA))
  (Ab (aY sL (AB 0) GU (E8 (AB 1))))))
def Qx:TS:=
 (Ab (Bb (C7 K (AB 0)) [none,some 1] (AH 0) (A_ FC (AB 0) (AB 1))))
def Qy:TS:=
 (AI (BG (aF (DV (Ep (AB 0))) (DV (Ep (AB 1)))) (Ab (B9 AC)) BM)
  (AI (AM (A_ Fe (B9 (AA (tC (.int 0)) AC)) (A_ BA (A_ BU (K' CI (AA (AB 0) AC)) (K' CI (AA (AB 1) AC))) (tC (.int 1)))) (AH 2))
  (AI (BH (Fg K (AA (AB 0) AC)) (Dj 2 (B8 (AH 3) (B8 (AH 4) Dh))) (BG (A4 (A_ aA (AB 4) (tC (.int 0)))) (BH (Fg K (AA (AB 1) AC)) (Dj 2 (B8 (AH 5) (B8 (AH 6) Dh))) (GO (AB 2) (A_ BU (AB 3) (AB 5)) (A_ Au (AB 4) (AB 6)) gL BU Di)) BM))
  (Ab (AB 2)))))
def Q0 (_:W.Frag):TS:=
 (BG (A4 (A_ aA (AB 6) (tC (.int 0)))) (BH (CW (AA (AB 3) AC)) (AH 7) (GO (AB 2) (A_ BU (AB 5) (AB 7)) (A_ Au (AB 6) (A_ gL (AB 1) (AB 7))) gL BA Di)) BM)
def yQ:TS:=
 (AI (AM (AB 6) (Fb (AB 4) (AB 5) Di))
  (Q0 K))
def Q3:TS:=
 (AI (BG (A4 (A_ aA (A_ Au (AB 6) (A_ gL (AB 1) (R' Bc (tC (.int 1))))) (A_ gL (AB 2) (A_ BU (AB 5) (AB 3))))) (Ab (tC .non)) BM)
  (yQ K))
def yR:TS:=
 (AI (AM (A_ ET (A_ gL (AB 2) (A_ BU (AB 5) (AB 3))) (A_ gL (AB 1) (R' Bc (tC (.int 1))))) (AH 6))
  (Q3 K))
def yS (_:W.Frag):TS:=
 (Ab (aV (tB (K' MA (AA (aY sL (AB 2) GU (E8 (AB 3))) AC))) (tC .non) (AB 4)))
def yT:TS:=
 (AI (BH (HS (AA (A_ BA (A_ BA (K' CI (AA (AB 0) AC)) (AB 3)) (tC (.int 1))) (AA (R' Bc (tC (.int 1))) (AA (R' Bc (tC (.int 1))) AC)))) (AH 5) (yR K))
  (yS K))
def Q4:TS:=
 (AI (AM (A_ Fe (B9 (AA (tC (.int 0)) AC)) (K' GZ (AA (A_ BA (K' CI (AA (AB 0) AC)) (AB 3)) (AA (tC (.int 0)) AC)))) (AH 4))
  (yT K))
def yU:TS:=
 (AI (AM (A_ BA (K' CI (AA (AB 1) AC)) (tC (.int 1))) (AH 3))
  (Q4 K))
def yV:TS:=
 (AI (AM (K' Ie (AA (AB 0) AC)) (AH 2))
  (yU K))
def Q5:TS:=
 (AI (AM (Bb (C7 K (AB 0)) [none,some 1] (AH 0) (A_ Au (AB 1) (AB 0))) (AH 5))
  (AI (IM (bO K "list" Jv (AB 5) (AA (A_ Fe (B9 (AA (tC (.int 0)) AC)) (A_ BA (A_ BU (K' CI (AA (AB 2) AC)) (AB 4)) (K' CI (AA (AB 0) AC)))) AC)))
  (AI (BH (Fg K (AA (AB 2) AC)) (Dj 2 (B8 (AH 6) (B8 (AH 7) Dh))) (GO (AB 5) (A_ BU (AB 6) (AB 4)) (A_ Au (AB 3) (AB 7)) gL BA Di))
  (Ab (AE (Hh K) [] E0 (AA (AB 5) AC))))))
def Q6 (_:W.Frag):TS:=
 (AI (AM (K' Ie (AA (AB 0) AC)) (AH 2))
  (AI (BH (CW (AA (A_ BA (K' CI (AA (AB 0) AC)) (tC (.int 1))) AC)) (AH 3) (BH (HS (AA (A_ BA (K' CI (AA (AB 0) AC)) (tC (.int 2))) (AA (A_ BA (AB 3) (tC (.int 1))) (AA (R' Bc (tC (.int 1))) AC)))) (AH 4) (GO (AB 2) (AB 4) (A_ Au (AB 1) (A_ gL (AB 2) (A_ BU (AB 4) (tC (.int 1))))) gL BU Di)))
  (Ab (AB 2))))
def yW:TS:=
 (AM (Bb (Lx K (AA (AB 0) (AA (AB 1) AC))) [none,none,some 6,some 7,some 2] (Dj 2 (B8 (AH 0) (B8 (AH 1) Dh))) (AE (Iw K) [] E0 (AA (AB 0) (AA (AB 2) (AA (AB 1) (AA (AB 3) (AA (AB 4) AC))))))) (AH 0))
def yX:TS:=
 (AI (AM (A_ ET (AB 3) (AB 5)) (AH 7))
  (yW K))
def yY:TS:=
 (AI (AM (A_ ET (AB 4) (AB 5)) (AH 6))
  (yX K))
def yZ:TS:=
 (AI (AM (AE (Ev K) [] E0 (AA (AB 3) (AA (AB 4) AC))) (AH 5))
  (yY K))
def xD:TS:=
 (AI (AM (A_ gL (A_ gL (AB 1) (tC (.int 0))) (R' Bc (tC (.int 1)))) (AH 4))
  (yZ K))
def xE:TS:=
 (AI (AM (A_ gL (A_ gL (AB 0) (tC (.int 0))) (R' Bc (tC (.int 1)))) (AH 3))
  (xD K))
def xF:TS:=
 (AI (AM (A_ BA (K' CI (AA (A_ gL (AB 0) (tC (.int 0))) AC)) (K' CI (AA (A_ gL (AB 1) (tC (.int 0))) AC))) (AH 2))
  (xE K))
def Q7:TS:=
 (Ab (AE (Iy K) [] E0 (AA (AB 0) AC)))
def Q8:TS:=
 (AI (EL (A4 (A_ cu (K' CI (AA (A_ gL (AB 0) (tC (.int 0))) AC)) (K' CI (AA (A_ gL (AB 1) (tC (.int 0))) AC)))) (xF K))
  (Q7 K))
def Q9:TS:=
 (AI (AM (tC (.int 0)) (AH 1))
  (AI (BH (C7 K (AB 0)) (AH 2) (AM (AE (Ir K) [] E0 (AA (AB 2) (AA (AB 1) AC))) (AH 1)))
  (Ab (Bb (C7 K (AB 0)) [none,some 1] (AH 0) (AE (Iu K) [] E0 (AA (AB 0) (AA (AB 1) AC)))))))
def RA:TS:=
 (Ab (A_ gL (AE (Iy K) [] E0 (AA (B9 (AA (AB 0) AC)) AC)) (tC (.int 0))))
def RD:TS:=
 (AI (EL (Ep (A_ gL (AB 1) (tC (.int 0)))) (AI (BG (A4 (A_ au (K' CI (AA (A_ gL (AB 1) (tC (.int 0))) AC)) (tC (.int 1)))) (Ab (AB 1)) BM)
  (AI (AM (AE (KQ K) [] E0 (AA (AB 0) (AA (AB 1) AC))) (AH 2))
  (AI (AM (AB 1) (AH 0))
  (AM (AB 2) (AH 1))))))
  (Ab (AB 0)))
def RE (_:W.Frag):TS:=
 (AM (AB 7) (AH 5))
def RF:TS:=
 (AI (AM (AB 5) (AH 4))
  (RE K))
def RG:TS:=
 (AI (AM (A_ BA (AB 4) (A_ Au (AB 6) (AB 5))) (AH 7))
  (RF K))
def RH:TS:=
 (AI (AM (AB 7) (AH 3))
  (RG K))
def RI:TS:=
 (AI (AM (AB 3) (AH 2))
  (RH K))
def RJ:TS:=
 (AI (AM (A_ BA (AB 2) (A_ Au (AB 6) (AB 3))) (AH 7))
  (RI K))
def RK:TS:=
 (AI (AM (A_ FC (AB 2) (AB 3)) (AH 6))
  (RJ K))
def RL (_:W.Frag):TS:=
 (Ab (A_ Cw (AB 4) (AB 1)))
def RM:TS:=
 (AI (EL (A4 (A_ aA (AB 3) (tC (.int 0)))) (RK K))
  (RL K))
def RN:TS:=
 (AI (AM (tC (.int 1)) (AH 5))
  (RM K))
def RP:TS:=
 (AI (AM (tC (.int 0)) (AH 4))
  (RN K))
def RQ:TS:=
 (AI (AM (A_ Cw (AB 0) (AB 1)) (AH 3))
  (RP K))
def RS:TS:=
 (AI (AM (AB 1) (AH 2))
  (RQ K))
def RT:TS:=
 (Ab (Bb (C7 K (AB 0)) [none,some 1] (AH 0) (A_ Cw (AB 0) (AB 1))))
def RU:TS:=
 (Ab (AE (Hh K) [] E0 (AA (AE (KS K) [] E0 (AA (AB 0) (AA (AB 1) AC))) AC)))
def RV:TS:=
 (AI (BG (DV (Ep (AB 0))) (Ab (B9 AC)) BM)
  (AI (AM (AE (KR K) [] E0 (AA (A_ gL (AB 0) (R' Bc (tC (.int 1)))) (AA (AB 1) AC))) (AH 2))
  (Ab (Bb (C7 K (AB 0)) [none,some 1,some 2] (AH 0) (A_ Cw (A_ Au (AB 0) (AB 2)) (AB 1))))))
def RW (_:W.Frag):TS:=
 (BG (A4 (A_ aA (AB 7) (tC (.int 0)))) (BH (CW (AA (AB 4) AC)) (AH 8) (GO (AB 3) (A_ BU (AB 6) (AB 8)) (A_ Au (AB 7) (A_ gL (AB 1) (AB 8))) gL BA Di)) BM)
def RX:TS:=
 (AI (AM (AB 7) (Fb (AB 5) (AB 6) Di))
  (RW K))
def xG:TS:=
 (AI (AM (A_ Cw (A_ gL (AB 3) (A_ BU (AB 6) (AB 4))) (AB 2)) (AH 7))
  (RX K))
def RY:TS:=
 (Ab (Ak (AA (AE (Hh K) [] E0 (AA (AB 5) AC)) (AA (AE (Hj K) [] E0 (AA (aY sL (AB 3) GU (E8 (AB 4))) (AA (AB 2) AC))) AC))))
def xH:TS:=
 (AI (BH (HS (AA (A_ BA (A_ BA (K' CI (AA (AB 0) AC)) (AB 4)) (tC (.int 1))) (AA (R' Bc (tC (.int 1))) (AA (R' Bc (tC (.int 1))) AC)))) (AH 6) (xG K))
  (RY K))
def RZ:TS:=
 (AI (AM (A_ Fe (B9 (AA (tC (.int 0)) AC)) (K' GZ (AA (A_ BA (K' CI (AA (AB 0) AC)) (AB 4)) (AA (tC (.int 0)) AC)))) (AH 5))
  (xH K))
def xJ:TS:=
 (AI (AM (A_ BA (K' CI (AA (AB 1) AC)) (tC (.int 1))) (AH 4))
  (RZ K))
def xK:TS:=
 (AI (AM (K' Ie (AA (AB 0) AC)) (AH 3))
  (xJ K))
def Ra:TS:=
 (Ab (A_ gT (AE (KT K) [] E0 (AA (AB 0) (AA (AB 1) (AA (AB 2) AC)))) (tC (.int 1))))
def Rb:TS:=
 (AI (AM (AE (Hk K) [] E0 (AA (AE (Hj K) [] E0 (AA (AB 0) (AA (AB 2) AC))) (AA (AB 2) AC))) (AH 0))
  (AI (AM (AE (Hk K) [] E0 (AA (AE (Hj K) [] E0 (AA (AB 1) (AA (AB 2) AC))) (AA (AB 2) AC))) (AH 1))
  (AI (EL (Ep (AB 1)) (AI (AM (AE (KU K) [] E0 (AA (AB 0) (AA (AB 1) (AA (AB 2) AC)))) (AH 3))
  (AI (AM (AB 1) (AH 0))
  (AM (AE (Hk K) [] E0 (AA (AB 3) (AA (AB 2) AC))) (AH 1)))))
  (Ab (AB 0)))))
def Rc (_:W.Frag):TS:=
 (AI (AM (A_ Cw (AB 0) (AB 1)) (AH 2))
  (Ab (aV (A4 (A_ aR (A_ Au (tC (.int 2)) (AB 2)) (AB 1))) (A_ BA (AB 2) (AB 1)) (AB 2))))
def Re:TS:=
 (AI (AM (AE (Ev K) [] E0 (AA (A_ gL (AB 0) (R' Bc (tC (.int 1)))) (AA (A_ gL (AB 1) (R' Bc (tC (.int 1)))) AC))) (AH 3))
  (AI (BG (A4 (A_ au (A_ Cw (AB 3) (AB 2)) (tC (.int 0)))) (Ab (tC .non)) BM)
  (AI (AM (AE (KW K) [] E0 (AA (AB 0) (AA (AB 1) (AA (AB 2) AC)))) (AH 4))
  (AI (AM (AE (Hi K) [] E0 (AA (Bb (C7 K (AB 4)) [none,some 2,some 3] (AH 0) (AE (KY K) [] E0 (AA (A_ Au (AB 2) (AB 0)) (AA (AB 1) AC)))) AC)) (AH 5))
  (AI (BG (aF (A4 (A_ Ii (AE (Ix K) [] E0 (AA (AB 0) (AA (AB 5) AC))) (tC .non))) (A4 (A_ Ii (AE (Ix K) [] E0 (AA (AB 1) (AA (AB 5) AC))) (tC .non)))) (Ab (tC .non)) BM)
  (Ab (AB 5)))))))
def Rf:TS:=
 (AI (AM (AE (Hi K) [] E0 (AA (AB 0) AC)) (AH 2))
  (AI (AM (AE (Hi K) [] E0 (AA (AB 1) AC)) (AH 3))
  (AI (BG (HG (Ep (AB 0)) (Ep (AB 1))) (BH (C8 K (tC (.ref (Gj K)))) (AH 4) (AI (AM (AE (KZ K) [] E0 (AA (AB 2) (AA (AB 3) (AA (A_ BA (AE (Gk K) [] E0 (AA (tC (.int 2)) (AA (AB 4) AC))) (tC (.int 1))) AC)))) (AH 5))
  (BG (A4 (A_ PQ (AB 5) (tC .non))) (Ab (AB 5)) BM))) BM)
  (Ab (A_ gL (AE (JA K) [] E0 (AA (B9 (AA (AB 2) AC)) (AA (B9 (AA (AB 3) AC)) AC))) (tC (.int 0)))))))
def Rg:TS:=
 (AI (AM (AE (Ev K) [] E0 (AA (AB 0) (AA (AB 1) AC))) (AH 2))
  (AI (BG (A4 (A_ bj (AB 1) (tC (.int 0)))) (AM (R' Bc (AB 2)) (AH 2)) BM)
  (Ab (Ak (AA (A_ ET (AB 0) (AB 2)) (AA (A_ ET (AB 1) (AB 2)) AC))))))
def Rh:TS:=
 (Ab (AE (Co K) [] E0 (AA (A_ BU (A_ Au (A_ gT (AB 0) (tC (.int 0))) (A_ gT (AB 1) (tC (.int 1)))) (A_ Au (A_ gT (AB 1) (tC (.int 0))) (A_ gT (AB 0) (tC (.int 1))))) (AA (A_ Au (A_ gT (AB 0) (tC (.int 1))) (A_ gT (AB 1) (tC (.int 1)))) AC))))
def Ri:TS:=
 (Ab (AE (Co K) [] E0 (AA (A_ BA (A_ Au (A_ gT (AB 0) (tC (.int 0))) (A_ gT (AB 1) (tC (.int 1)))) (A_ Au (A_ gT (AB 1) (tC (.int 0))) (A_ gT (AB 0) (tC (.int 1))))) (AA (A_ Au (A_ gT (AB 0) (tC (.int 1))) (A_ gT (AB 1) (tC (.int 1)))) AC))))
def Rj:TS:=
 (Ab (AE (Co K) [] E0 (AA (A_ Au (A_ gT (AB 0) (tC (.int 0))) (A_ gT (AB 1) (tC (.int 0)))) (AA (A_ Au (A_ gT (AB 0) (tC (.int 1))) (A_ gT (AB 1) (tC (.int 1)))) AC))))
def Rk:TS:=
 (Ab (AE (Co K) [] E0 (AA (A_ Au (A_ gT (AB 0) (tC (.int 0))) (A_ gT (AB 1) (tC (.int 1)))) (AA (A_ Au (A_ gT (AB 0) (tC (.int 1))) (A_ gT (AB 1) (tC (.int 0)))) AC))))
def xL:TS:=
 (AI (AM (AE (Gk K) [] E0 (AA (A_ gT (AB 0) (tC (.int 0))) (AA (K' GW (AA (AB 1) AC)) AC))) (AH 2))
  (AI (AM (AE (Gk K) [] E0 (AA (A_ gT (AB 0) (tC (.int 1))) (AA (K' GW (AA (AB 1) AC)) AC))) (AH 3))
  (AI (BG (A4 (A_ cu (AB 1) (tC (.int 0)))) (Ab (Ak (AA (AB 2) (AA (AB 3) AC)))) BM)
  (AI (BG (A4 (A_ bj (AB 2) (tC (.int 0)))) (Ab (Ak (AA (R' Bc (AB 3)) (AA (R' Bc (AB 2)) AC)))) BM)
  (Ab (Ak (AA (AB 3) (AA (AB 2) AC))))))))
def Rl (_:W.Frag):TS:=
 (AI (AM (K' CI (AA (AB 0) AC)) (AH 1))
  (AI (EL (HG (A4 (A_ aR (AB 1) (tC (.int 0)))) (A4 (A_ au (A_ gT (A_ gL (AB 0) (A_ BA (AB 1) (tC (.int 1)))) (tC (.int 0))) (tC (.int 0))))) (EK 1 (tC (.int 1)) BA))
  (Ab (K' J2 (AA (aY sL (AB 0) GU (E8 (AB 1))) AC)))))
def Rm:TS:=
 (AI (AM (tC (.int 1)) (AH 1))
  (AI (BH (C8 K (AB 0)) (AH 2) (EK 1 (A_ FC (A_ (aI K) (AB 2) (tC (.int 1))) (AE (Ev K) [] E0 (AA (AB 1) (AA (A_ (aI K) (AB 2) (tC (.int 1))) AC)))) Au))
  (Ab (Ak (AA (Bb (C8 K (AB 0)) [none,some 1] (AH 0) (A_ Au (A_ (aI K) (AB 0) (tC (.int 0))) (A_ FC (AB 1) (A_ (aI K) (AB 0) (tC (.int 1)))))) (AA (AB 1) AC))))))
def Rn:TS:=
 (Ab (AE (Dc K) [] E0 (AA (Bb (C7 K (AB 0)) [none,some 1] (AH 0) (AE (Co K) [] E0 (AA (AB 0) (AA (AB 1) AC)))) AC)))
def Ro (_:W.Frag):TS:=
 (Ab (aV (A4 (A_ bj (AB 1) (K' DX (AA (AB 0) AC)))) (A_ gT (AB 0) (AB 1)) (Ak (AA (tC (.int 0)) (AA (tC (.int 1)) AC)))))
def xM:TS:=
 (Ab (A_ (MJ K) (A_ (Pc K) (Ak (AA (Ak (AA (tC (.int 0)) (AA (tC (.int 1)) AC))) AC)) (AB 0)) (Ak (AA (Ak (AA (tC (.int 1)) (AA (tC (.int 1)) AC))) AC))))
def Rq:TS:=
 (Ab (AE (Dc K) [] E0 (AA (Bb (CW (AA (K' GZ (AA (K' DX (AA (AB 0) AC)) (AA (K' DX (AA (AB 1) AC)) AC))) AC)) [none,some 0,some 1] (AH 0) (AE (Mo K) [] E0 (AA (AE (Go K) [] E0 (AA (AB 1) (AA (AB 0) AC))) (AA (AE (Go K) [] E0 (AA (AB 2) (AA (AB 0) AC))) AC)))) AC)))
def Rs:TS:=
 (Ab (AE (Dc K) [] E0 (AA (Bb (CW (AA (K' GZ (AA (K' DX (AA (AB 0) AC)) (AA (K' DX (AA (AB 1) AC)) AC))) AC)) [none,some 0,some 1] (AH 0) (AE (Ke K) [] E0 (AA (AE (Go K) [] E0 (AA (AB 1) (AA (AB 0) AC))) (AA (AE (Go K) [] E0 (AA (AB 2) (AA (AB 0) AC))) AC)))) AC)))
def Ru:TS:=
 (AI (AM (AE (EV K) [] E0 (AA (AB 0) AC)) (AH 2))
  (AI (AM (AE (EV K) [] E0 (AA (AB 1) AC)) (AH 3))
  (Ab (AE (Gn K) [] E0 (AA (AE (Kd K) [] E0 (AA (A_ gT (AB 2) (tC (.int 0))) (AA (A_ gT (AB 3) (tC (.int 0))) AC))) (AA (A_ Au (A_ gT (AB 2) (tC (.int 1))) (A_ gT (AB 3) (tC (.int 1)))) AC))))))
def Rv:TS:=
 (Ab (AE (Dc K) [] E0 (AA (Bb (C8 K (AB 0)) [none,some 1] (AH 0) (AE (JB K) [] E0 (AA (AB 0) (AA (AB 1) AC)))) AC)))
def xN (_:W.Frag):TS:=
 (EK 5 (AB 10) FC)
def xO:TS:=
 (AI (AM (AE (Iu K) [] E0 (AA (AB 4) (AA (AB 10) AC))) (AH 4))
  (xN K))
def Rw:TS:=
 (AI (AM (AE (Ir K) [] E0 (AA (AB 4) (AA (AB 5) AC))) (AH 10))
  (xO K))
def xP:TS:=
 (AI (EK 5 (A_ ET (AB 6) (AB 9)) Au)
  (Rw K))
def Rx:TS:=
 (AI (AM (AE (Iw K) [] E0 (AA (AB 4) (AA (A_ ET (AB 6) (AB 9)) (AA (A_ gT (AB 3) (tC (.int 0))) (AA (A_ ET (A_ gL (AB 4) (R' Bc (tC (.int 1)))) (AB 9)) (AA (AB 8) AC)))))) (AH 4))
  (xP K))
def xQ:TS:=
 (AI (AM (AE (Ev K) [] E0 (AA (A_ gL (AB 4) (R' Bc (tC (.int 1)))) (AA (AB 6) AC))) (AH 9))
  (Rx K))
def Ry:TS:=
 (AI (AM (AE (Co K) [] E0 (AA (A_ Au (A_ gL (AB 4) (R' Bc (tC (.int 1)))) (A_ gT (AB 3) (tC (.int 1)))) (AA (A_ Au (AB 5) (AB 6)) AC))) (Fb (AB 7) (AB 8) Di))
  (xQ K))
def xR:TS:=
 (AI (AM (A_ BA (K' CI (AA (AB 4) AC)) (K' DX (AA (AB 1) AC))) (AH 8))
  (Ry K))
def Rz:TS:=
 (Ab (Ak (AA (AE (Dc K) [] E0 (AA (AB 7) AC)) (AA (AE (Gn K) [] E0 (AA (AB 4) (AA (AB 5) AC))) AC))))
def xS:TS:=
 (AI (EL (A4 (A_ cu (K' CI (AA (AB 4) AC)) (K' DX (AA (AB 1) AC)))) (xR K))
  (Rz K))
def xU:TS:=
 (AI (AM (A_ Fe (B9 (AA (Ak (AA (tC (.int 0)) (AA (tC (.int 1)) AC))) AC)) (K' GZ (AA (A_ BU (A_ BA (K' (Pd K) (AA (AB 0) AC)) (K' DX (AA (AB 1) AC))) (tC (.int 1))) (AA (tC (.int 0)) AC)))) (AH 7))
  (xS K))
def xV:TS:=
 (AI (AM (A_ gL (A_ gT (AB 3) (tC (.int 0))) (R' Bc (tC (.int 1)))) (AH 6))
  (xU K))
def xW:TS:=
 (AI (AM (A_ gT (AB 2) (tC (.int 1))) (AH 5))
  (xV K))
def xX:TS:=
 (AI (AM (A_ gT (AB 2) (tC (.int 0))) (AH 4))
  (xW K))
def xY:TS:=
 (AI (AM (AE (EV K) [] E0 (AA (AB 1) AC)) (AH 3))
  (xX K))
def xZ:TS:=
 (AI (AM (AE (EV K) [] E0 (AA (AB 0) AC)) (AH 2))
  (xY K))
def R4:TS:=
 (AI (AM (AE (Ka K) [] E0 (AA (A_ gT (AE (EV K) [] E0 (AA (AB 0) AC)) (tC (.int 0))) (AA (A_ gT (AE (EV K) [] E0 (AA (AB 1) AC)) (tC (.int 0))) AC))) (AH 2))
  (Ab (aV (Ep (AB 2)) (AE (Gn K) [] E0 (AA (AB 2) (AA (A_ gL (AB 2) (R' Bc (tC (.int 1)))) AC))) (Ak AC))))
def wA:TS:=
 (AI (AM (AE (EV K) [] E0 (AA (AB 0) AC)) (AH 2))
  (AI (AM (tC (.int 0)) (AH 3))
  (AI (AM (tC (.int 1)) (AH 4))
  (AI (BH (Lu K (AA (A_ gT (AB 2) (tC (.int 0))) AC)) (AH 5) (AI (AM (A_ BU (A_ Au (AB 3) (A_ gT (AB 1) (tC (.int 0)))) (A_ Au (AB 5) (AB 4))) (AH 3))
  (EK 4 (A_ gT (AB 1) (tC (.int 1))) Au)))
  (Ab (AE (Co K) [] E0 (AA (A_ Au (AB 3) (A_ gT (AB 1) (tC (.int 1)))) (AA (A_ Au (A_ gT (AB 2) (tC (.int 1))) (AB 4)) AC))))))))
def R8:TS:=
 (Ab (AE (Gn K) [] E0 (AA (Bb (Fg K (AA (AB 7) AC)) [none,none,some 3] (Dj 2 (B8 (AH 0) (B8 (AH 1) Dh))) (A_ Au (AB 1) (A_ gL (AB 2) (AB 0)))) (AA (A_ Au (A_ gT (AB 2) (tC (.int 1))) (A_ gL (AB 3) (AB 5))) AC))))
def SC:TS:=
 (AI (AM (AE (Kj K) [] E0 (AA (AB 6) (AA (A_ gT (AB 1) (tC (.int 0))) AC))) (AH 7))
  (R8 K))
def SE:TS:=
 (AI (AM (Bb (Fg K (AA (A_ gT (AB 2) (tC (.int 0))) AC)) [none,none,some 3,some 5] (Dj 2 (B8 (AH 0) (B8 (AH 1) Dh))) (A_ Au (AB 1) (A_ gL (AB 2) (A_ BA (AB 3) (AB 0))))) (AH 6))
  (SC K))
def SF:TS:=
 (AI (AM (A_ BA (K' DX (AA (AB 0) AC)) (tC (.int 1))) (AH 5))
  (SE K))
def SH:TS:=
 (AI (BH (C8 K (AB 0)) (AH 4) (IM (bO K "list" Lb (AB 3) (AA (A_ Au (A_ gL (AB 3) (R' Bc (tC (.int 1)))) (A_ gT (AB 1) (tC (.int 1)))) AC))))
  (SF K))
def Mz:TS:=
 (AI (AM (B9 (AA (tC (.int 1)) AC)) (AH 3))
  (SH K))
def wB:TS:=
 (AI (AM (AE (EV K) [] E0 (AA (AB 0) AC)) (AH 2))
  (Mz K))
def wC:TS:=
 (AI (AM (AE (Fx K) [] E0 (AA (AB 0) (AA (AB 1) AC))) (AH 2))
  (Ab (AE (Hr K) [] E0 (AA (AE (EW K) [] E0 (AA (AB 0) (AA (AB 2) AC))) (AA (AE (EW K) [] E0 (AA (AB 1) (AA (AB 2) AC))) AC)))))
def SI:TS:=
 (AI (AM (AE (Ho K) [] E0 (AA (Ak (AA (tC (.int 1)) (AA (tC (.int 1)) AC))) (AA (A_ gT (AB 1) (R' Bc (tC (.int 1)))) AC))) (AH 2))
  (Ab (Ak (AA (AE (JC K) [] E0 (AA (AB 0) (AA (AB 2) AC))) (AA (AE (JC K) [] E0 (AA (AB 1) (AA (AB 2) AC))) AC)))))
def SJ:TS:=
 (Ab (A_ gT (AE (Kc K) [] E0 (AA (AB 0) (AA (AB 1) AC))) (tC (.int 0))))
def wD (_:W.Frag):TS:=
 (Ab (Ak (AA (AB 0) (AA (Ak (AA (Ak (AA (tC (.int 1)) (AA (tC (.int 1)) AC))) AC)) AC))))
def wE:TS:=
 (Ab (Ak (AA (AE (EW K) [] E0 (AA (AB 4) (AA (AB 5) AC))) (AA (AE (EW K) [] E0 (AA (AE (Cp K) [] E0 (AA (A_ (aI K) (AB 0) (tC (.int 1))) (AA (AB 3) AC))) (AA (AB 5) AC))) AC))))
def wF:TS:=
 (AI (AM (AE (Fx K) [] E0 (AA (AB 4) (AA (AB 2) AC))) (AH 5))
  (wE K))
def wG:TS:=
 (AI (AM (AE (JF K) [] E0 (AA (AE (Cp K) [] E0 (AA (A_ (aI K) (AB 0) (tC (.int 0))) (AA (AB 3) AC))) (AA (AE (Cp K) [] E0 (AA (A_ gT (AB 1) (tC (.int 0))) (AA (AE (EW K) [] E0 (AA (A_ (aI K) (AB 0) (tC (.int 1))) (AA (AB 2) AC))) AC))) AC))) (AH 4))
  (wF K))
def wH:TS:=
 (AI (AM (AE (EW K) [] E0 (AA (A_ gT (AB 1) (tC (.int 1))) (AA (AB 2) AC))) (AH 3))
  (wG K))
def wI:TS:=
 (AI (AM (AE (Fx K) [] E0 (AA (A_ (aI K) (AB 0) (tC (.int 1))) (AA (A_ gT (AB 1) (tC (.int 1))) AC))) (AH 2))
  (wH K))
def SK:TS:=
 (Ab (Ak (AA (AE (Cp K) [] E0 (AA (A_ gT (AB 2) (tC (.int 0))) (AA (A_ gT (AB 3) (tC (.int 0))) AC))) (AA (AE (Cp K) [] E0 (AA (A_ gT (AB 2) (tC (.int 1))) (AA (A_ gT (AB 3) (tC (.int 1))) AC))) AC))))
def SL:TS:=
 (AI (AM (AE (Ew K) [] E0 (AA (A_ gT (AB 1) (tC (.int 0))) (AA (A_ gT (AB 0) (tC (.int 1))) AC))) (AH 3))
  (SK K))
def SN:TS:=
 (AI (AM (AE (Ew K) [] E0 (AA (A_ gT (AB 0) (tC (.int 0))) (AA (A_ gT (AB 1) (tC (.int 1))) AC))) (AH 2))
  (SL K))
def SO:TS:=
 (AI (AM (AE (JH K) [] E0 (AA (A_ gT (AB 0) (tC (.int 1))) (AA (AB 1) AC))) (AH 2))
  (Ab (aV (A4 (A_ aS (AB 2) (Ak (AA (tC (.int 0)) (AA (tC (.int 1)) AC))))) (tC .non) (AE (Ho K) [] E0 (AA (AE (JH K) [] E0 (AA (A_ gT (AB 0) (tC (.int 0))) (AA (AB 1) AC))) (AA (AB 2) AC))))))
def wJ:TS:=
 (Ab (AE (Hu K) [] E0 (AA (AE (JG K) [] E0 (AA (AE (FM K) [] E0 (AA (AB 1) (AA (AE (Ho K) [] E0 (AA (Ak (AA (tC (.int 1)) (AA (tC (.int 1)) AC))) (AA (A_ gT (AB 0) (tC (.int 1))) AC))) AC))) (AA (AE (Ke K) [] E0 (AA (Ak (AA (tC (.int 0)) (AA (tC (.int 1)) AC))) (AA (A_ gT (AB 0) (tC (.int 2))) AC))) AC))) (AA (A_ gT (AB 0) (tC (.int 0))) AC))))
def wK:TS:=
 (Ab (AE (Dc K) [] E0 (AA (Bb (Gb K (AA (AB 0) AC)) [none,none,some 1] (Dj 2 (B8 (AH 0) (B8 (AH 1) Dh))) (AE (JB K) [] E0 (AA (AB 1) (AA (AE (Ki K) [] E0 (AA (AB 2) (AA (AB 0) AC))) AC)))) AC)))
def SQ:TS:=
 (AI (AM (B9 AC) (AH 2))
  (AI (BH (C8 K (AB 0)) (AH 3) (IM (bO K "list" Jv (AB 2) (AA (A_ Jw (B9 (AA (AB 3) AC)) (A_ Fe (B9 (AA (Ak (AA (tC (.int 0)) (AA (tC (.int 1)) AC))) AC)) (A_ BA (AB 1) (tC (.int 1))))) AC))))
  (Ab (AE (Dc K) [] E0 (AA (AB 2) AC)))))
def wN:TS:=
 (Ab (AE (Dc K) [] E0 (AA (K' Lo (AA (Pa (AB 0) (AB 2) (AB 1)) AC)) AC)))
def SR:TS:=
 (AM (AE (Kg K) [] E0 (AA (AB 2) (AA (AE (Kh K) [] E0 (AA (AE (Mu K) [] E0 (AA (AE (Kl K) [] E0 (AA (AB 3) AC)) AC)) (AA (AE (Hr K) [] E0 (AA (AE (Kk K) [] E0 (AA (AB 0) (AA (A_ gT (AB 4) (tC (.int 0))) AC))) (AA (AB 5) AC))) AC))) AC))) (AH 2))
def SS:TS:=
 (AI (AM (AE (Kk K) [] E0 (AA (AB 0) (AA (A_ gT (AB 4) (tC (.int 1))) AC))) (AH 5))
  (SR K))
def ST (_:W.Frag):TS:=
 (Ab (AB 2))
def SU:TS:=
 (AI (BH (Gb K (AA (AB 1) AC)) (Dj 2 (B8 (AH 3) (B8 (AH 4) Dh))) (SS K))
  (ST K))
def wO:TS:=
 (AI (AM (tC (.ref (Hg K))) (AH 2))
  (SU K))
def SV:TS:=
 (Ab (K' J2 (AA (Bb (CW (AA (AB 2) AC)) [none,some 0,some 6,some 7,some 2] (AH 0) (AE (Mp K) [] E0 (AA (AB 1) (AA (AE (Ew K) [] E0 (AA (AE (Gp K) [] E0 (AA (AB 3) (AA (AB 4) (AA (AB 0) AC)))) (AA (AB 2) AC))) AC)))) AC)))
def SW:TS:=
 (AI (AM (AE (Cp K) [] E0 (AA (A_ gT (AB 1) (tC (.int 0))) (AA (AB 5) AC))) (AH 7))
  (SV K))
def SY:TS:=
 (AI (AM (AE (Cp K) [] E0 (AA (AB 3) (AA (AE (Gp K) [] E0 (AA (AE (Cp K) [] E0 (AA (AB 4) (AA (AB 5) AC))) (AA (AB 2) (AA (tC (.int 0)) AC)))) AC))) (AH 6))
  (SW K))
def SZ:TS:=
 (AI (AM (AE (Mr K) [] E0 (AA (AB 4) (AA (AB 2) AC))) (AH 5))
  (SY K))
def Sa:TS:=
 (AI (AM (AE (EW K) [] E0 (AA (A_ gT (AB 1) (tC (.int 1))) (AA (AE (Hu K) [] E0 (AA (AB 3) (AA (AB 2) AC))) AC))) (AH 4))
  (SZ K))
def Sb:TS:=
 (AI (AM (AE (Mq K) [] E0 (AA (A_ gT (AB 1) (tC (.int 1))) (AA (AB 2) AC))) (AH 3))
  (Sa K))
def wP:TS:=
 (AI (AM (A_ gT (AB 0) (tC (.int 0))) (AH 2))
  (Sb K))
def wQ:TS:=
 (AI (AM (Ak AC) (AH 2))
  (AI (BH (CW (AA (AB 1) AC)) (AH 3) (AM (AE (Fx K) [] E0 (AA (AB 2) (AA (AE (Gp K) [] E0 (AA (AB 0) (AA (AB 1) (AA (AB 3) AC)))) AC))) (AH 2)))
  (Ab (AB 2))))
def Sc:TS:=
 (Ab (AE (Cp K) [] E0 (AA (AB 2) (AA (AE (Hu K) [] E0 (AA (AE (FM K) [] E0 (AA (AB 3) (AA (Ak (AA (R' Bc (tC (.int 1))) (AA (tC (.int 1)) AC))) AC))) (AA (tC (.int 2)) AC))) AC))))
def Sd:TS:=
 (AI (AM (AE (Gp K) [] E0 (AA (AE (Cp K) [] E0 (AA (AB 0) (AA (AB 2) AC))) (AA (tC (.int 2)) (AA (tC (.int 0)) AC)))) (AH 3))
  (Sc K))
def Se:TS:=
 (AI (AM (AE (FM K) [] E0 (AA (AB 0) (AA (Ak (AA (R' Bc (tC (.int 1))) (AA (tC (.int 1)) AC))) AC))) (AH 2))
  (Sd K))
def Sf:TS:=
 (AI (BG (A4 (A_ au (AB 1) (tC (.int 3)))) (Ab (AE (Ms K) [] E0 (AA (AB 0) AC))) BM)
  (Se K))
def wR:TS:=
 (AI (BG (A4 (A_ au (AB 1) (tC (.int 2)))) (Ab (AE (FM K) [] E0 (AA (AB 0) (AA (Ak (AA (R' Bc (tC (.int 1))) (AA (tC (.int 1)) AC))) AC)))) BM)
  (Sf K))
def Sg (_:W.Frag):TS:=
 (Ab (AB 2))
def Si:TS:=
 (AI (BH (CW (AA (tC (.int 3)) AC)) (AH 3) (AM (AE (JF K) [] E0 (AA (AB 2) (AA (AE (Cp K) [] E0 (AA (A_ gL (AB 1) (AB 3)) (AA (AE (Kf K) [] E0 (AA (A_ gL (AB 1) (AB 3)) (AA (A_ gL (AB 1) (A_ BA (AB 3) (tC (.int 1)))) AC))) AC))) AC))) (AH 2)))
  (Sg K))
def Sj:TS:=
 (AI (AM (Ak AC) (AH 2))
  (Si K))
def wS:TS:=
 (AI (AM (Bb (CW (AA (tC (.int 3)) AC)) [none,some 0] (AH 0) (AE (Cp K) [] E0 (AA (AE (Kl K) [] E0 (AA (AB 0) AC)) (AA (AE (Hu K) [] E0 (AA (AE (Gp K) [] E0 (AA (AB 1) (AA (tC (.int 3)) (AA (AB 0) AC)))) (AA (tC (.int 3)) AC))) AC)))) (AH 1))
  (Sj K))
def Sk:TS:=
 (Ab (AE (Hr K) [] E0 (AA (A_ gL (AB 2) (tC (.int 0))) (AA (A_ gL (AB 2) (tC (.int 1))) AC))))
def wT:TS:=
 (AI (AM (Bb (C8 K (AB 1)) [none,some 0] (AH 0) (AE (FM K) [] E0 (AA (AE (JG K) [] E0 (AA (AB 0) (AA (A_ gT (AB 1) (tC (.int 2))) AC))) (AA (A_ gT (AB 1) (tC (.int 1))) AC)))) (AH 2))
  (Sk K))
def Sl (_:W.Frag):TS:=
 (AM (A_ BU (A_ Au (AB 5) (tC (.int 1999999973))) (AB 4)) (AH 5))
def Sm:TS:=
 (AI (AM (A_ Cw (A_ BU (A_ BU (A_ Au (AB 4) (tC (.int 99991))) (AB 3)) (A_ Au (tC (.int 39373)) (AB 6))) (tC (.int 1999999973))) (AH 4))
  (Sl K))
def Sn (_:W.Frag):TS:=
 (Ab (B9 (AA (AB 5) (AA (tC (.int 0)) AC))))
def So:TS:=
 (AI (BG (HG (A4 (A_ aR (K' (IW K) (AA (AB 0) AC)) (tC (.int 0)))) (A4 (A_ au (A_ Cw (A_ (gS K) (AB 0) (tC (.int 0))) (tC (.int 2))) (tC (.int 0))))) (Ab (B9 (AA (K' GW (AA (AB 2) AC)) (AA (AB 5) AC)))) BM)
  (Sn K))
def Ss:TS:=
 (AI (BH (CW (AA (tC (.int 9)) AC)) (AH 6) (Sm K))
  (So K))
def Su:TS:=
 (AI (AM (tC (.int 0)) (AH 5))
  (Ss K))
def Sv:TS:=
 (AI (AM (A_ Cw (A_ Au (AB 3) (AB 3)) (tC (.int 1999999973))) (AH 4))
  (Su K))
def M4:TS:=
 (AI (AM (A_ Cw (A_ Au (A_ BU (A_ BU (A_ BU (A_ Cw (AB 2) (tC (.int 2147483647))) (A_ Au (tC (.int 7919)) (AB 1))) (A_ Cw (K' MD (AA (aY (sS K) (AB 0) GU (E8 (tC (.int 1)))) AC)) (tC (.int 99991)))) (tC (.int 11))) (tC (.int 48271))) (tC (.int 2147483629))) (AH 3))
  (Sv K))
def Sw:TS:=
 (AI (BG (A4 (A_ aR (K' (IW K) (AA (AB 0) AC)) (tC (.int 1)))) (AM (A_ (gS K) (AB 0) (A_ BU (tC (.int 1)) (A_ Cw (AB 1) (A_ BA (K' (IW K) (AA (AB 0) AC)) (tC (.int 1)))))) (AH 2)) BM)
  (M4 K))
def Sy:TS:=
 (AI (AM (tC (.int 0)) (AH 2))
  (Sw K))
def S3 (_:W.Frag):TS:=
 (Ab (AB 2))
def S7:TS:=
 (AI (AM (A_ FC (A_ gL (AB 0) (tC (.int 0))) (AB 1)) (Fb (AB 0) (tC (.int 0)) Di))
  (S3 K))
def M5:TS:=
 (AI (AM (A_ Cw (A_ gL (AB 0) (tC (.int 0))) (AB 1)) (AH 2))
  (S7 K))
def S9:TS:=
 (AI (BG (A4 (A_ au (A_ gL (AB 0) (tC (.int 0))) (tC (.int 0)))) (AM (Ak (AA (A_ gL (AB 0) (tC (.int 1))) (AA (tC (.int 0)) AC))) (Dj 2 (B8 (Fb (AB 0) (tC (.int 0)) Di) (B8 (Fb (AB 0) (tC (.int 1)) Di) Dh)))) BM)
  (M5 K))
def TC:TS:=
 (Ab (AE (Co K) [] E0 (AA (A_ BU (A_ BA (AE (CT K) [] E0 (AA (AB 0) (AA (A_ BA (A_ Au (tC (.int 2)) (A_ IV (tC (.int 10)) (tC (.int 12)))) (tC (.int 1))) AC))) (A_ IV (tC (.int 10)) (tC (.int 12)))) (tC (.int 1))) (AA (A_ BU (tC (.int 1)) (AE (CT K) [] E0 (AA (AB 0) (AA (A_ IV (tC (.int 10)) (tC (.int 6))) AC)))) AC))))
def TD:TS:=
 (AI (BG (A4 (A_ bj (AB 1) (tC (.int 98)))) (Ab (AE (Co K) [] E0 (AA (A_ BA (AE (CT K) [] E0 (AA (AB 0) (AA (tC (.int 19)) AC))) (tC (.int 9))) (AA (A_ BU (tC (.int 1)) (AE (CT K) [] E0 (AA (AB 0) (AA (tC (.int 6)) AC)))) AC)))) BM)
  (TC K))
def TF:TS:=
 (AI (BG (A4 (A_ bj (AB 1) (tC (.int 70)))) (Ab (AE (Co K) [] E0 (AA (A_ BA (AE (CT K) [] E0 (AA (AB 0) (AA (tC (.int 7)) AC))) (tC (.int 3))) (AA (tC (.int 1)) AC)))) BM)
  (TD K))
def TH:TS:=
 (AI (AM (AE (CT K) [] E0 (AA (AB 0) (AA (tC (.int 99)) AC))) (AH 1))
  (TF K))
def M6:TS:=
 (Ab (Ak (AA (A_ BU (tC (.int 2)) (AE (CT K) [] E0 (AA (AB 0) (AA (tC (.int 3)) AC)))) (AA (AB 1) (AA (AE (Hv K) [] E0 (AA (AB 0) AC)) AC)))))
def TJ:TS:=
 (AI (BG (A4 (A_ aS (AB 1) (Ak (AA (tC (.int 0)) (AA (tC (.int 1)) AC))))) (AM (Ak (AA (A_ BU (tC (.int 1)) (AE (CT K) [] E0 (AA (AB 0) (AA (tC (.int 3)) AC)))) (AA (tC (.int 1)) AC))) (AH 1)) BM)
  (M6 K))
def TK:TS:=
 (AI (AM (AE (Hv K) [] E0 (AA (AB 0) AC)) (AH 1))
  (TJ K))
def wU:TS:=
 (Ab (AE (Dc K) [] E0 (AA (Bb (CW (AA (A_ BU (tC (.int 1)) (AE (CT K) [] E0 (AA (AB 0) (AA (A_ BU (AB 1) (tC (.int 1))) AC)))) AC)) [none,some 0] (AH 0) (AE (Hv K) [] E0 (AA (AB 1) AC))) AC)))
def wV:TS:=
 (AI (AM (AE (Ko K) [] E0 (AA (AB 0) (AA (AB 1) AC))) (AH 3))
  (AI (AM (AE (Ko K) [] E0 (AA (AB 0) (AA (AB 2) AC))) (AH 4))
  (AI (BG (A4 (A_ aS (AB 4) (Ak AC))) (AM (Ak (AA (Ak (AA (tC (.int 1)) (AA (tC (.int 1)) AC))) AC)) (AH 4)) BM)
  (Ab (AE (Ew K) [] E0 (AA (AB 3) (AA (AB 4) AC)))))))
def TL:TS:=
 (AI (BG (aF (DV (tB (K' E9 (AA (AB 0) (AA (tC (.ty "tuple")) AC))))) (A4 (A_ aA (K' DX (AA (AB 0) AC)) (tC (.int 2))))) (Ab (tC (.bl false))) BM)
  (AI (BH (C8 K (AB 0)) (AH 1) (BG (aF (DV (tB (K' E9 (AA (AB 1) (AA (tC (.ty "int")) AC))))) (tB (K' E9 (AA (AB 1) (AA (tC (.ty "bool")) AC))))) (Ab (tC (.bl false))) BM))
  (Ab (A_ aR (A_ gT (AB 0) (tC (.int 1))) (tC (.int 0))))))
def TM:TS:=
 (AI (BG (aF (DV (tB (K' E9 (AA (AB 0) (AA (tC (.ty "tuple")) AC))))) (A4 (A_ aA (K' DX (AA (AB 0) AC)) (tC (.int 2))))) (Ab (tC (.bl false))) BM)
  (AI (BH (C8 K (AB 0)) (AH 1) (BG (aF (DV (tB (K' E9 (AA (AB 1) (AA (tC (.ty "tuple")) AC))))) (DV (tB (K' PD (AA (Bb (C8 K (AB 1)) [none] (AH 0) (AE (Kq K) [] E0 (AA (AB 0) AC))) AC))))) (Ab (tC (.bl false))) BM))
  (Ab (tC (.bl true)))))
def wW:TS:=
 (Ab (AE (Co K) [] E0 (AA (A_ BU (A_ Au (A_ gT (AB 0) (tC (.int 0))) (A_ gT (AB 1) (tC (.int 1)))) (A_ Au (A_ gT (AB 1) (tC (.int 0))) (A_ gT (AB 0) (tC (.int 1))))) (AA (A_ Au (A_ gT (AB 0) (tC (.int 1))) (A_ gT (AB 1) (tC (.int 1)))) AC))))
def wX:TS:=
 (Ab (AE (Co K) [] E0 (AA (A_ Au (A_ gT (AB 0) (tC (.int 0))) (A_ gT (AB 1) (tC (.int 0)))) (AA (A_ Au (A_ gT (AB 0) (tC (.int 1))) (A_ gT (AB 1) (tC (.int 1)))) AC))))
def TN (_:W.Frag):TS:=
 (AI (AM (tC (.int 1)) (AH 2))
  (AI (BH (CW (AA (AB 1) AC)) (AH 3) (AM (A_ Au (AB 2) (AB 0)) (AH 2)))
  (Ab (AB 2))))
def TQ:TS:=
 (AM (AE (Ks K) [] E0 (AA (AB 9) (AA (AE (Kt K) [] E0 (AA (AB 12) (AA (AE (Co K) [] E0 (AA (AE (Hw K) [] E0 (AA (A_ gT (AB 3) (tC (.int 0))) (AA (AB 10) AC))) (AA (AE (Hw K) [] E0 (AA (A_ gT (AB 3) (tC (.int 1))) (AA (AB 10) AC))) AC))) AC))) AC))) (AH 9))
def TR:TS:=
 (AI (BG (A4 (A_ Ii (AB 12) (tC .non))) (Ab (tC (.bl true))) BM)
  (TQ K))
def TU:TS:=
 (AI (AM (AE (Kr K) [] E0 (AA (AB 11) (AA (AB 8) AC))) (AH 12))
  (TR K))
def TV (_:W.Frag):TS:=
 (Ab (LR (A_ Ii (AB 12) (tC .non)) (A_ aS (AB 12) (AB 9))))
def TW:TS:=
 (AI (AM (AE (Kr K) [] E0 (AA (AB 1) (AA (AB 3) AC))) (AH 12))
  (TV K))
def TX:TS:=
 (AI (BH (Gb K (AA (AB 2) AC)) (Dj 2 (B8 (AH 10) (B8 (AH 11) Dh))) (TU K))
  (TW K))
def TY:TS:=
 (AI (AM (Ak (AA (tC (.int 0)) (AA (tC (.int 1)) AC))) (AH 9))
  (TX K))
def TZ:TS:=
 (AI (AM (AE (Kt K) [] E0 (AA (AE (Ks K) [] E0 (AA (AB 7) (AA (Ak (AA (R' Bc (A_ gT (AB 6) (tC (.int 0)))) (AA (A_ gT (AB 6) (tC (.int 1))) AC))) AC))) (AA (AE (Co K) [] E0 (AA (A_ gT (AB 5) (tC (.int 1))) (AA (A_ gT (AB 5) (tC (.int 0))) AC))) AC))) (AH 8))
  (TY K))
def Ta:TS:=
 (AI (AM (AE (Co K) [] E0 (AA (AE (Hw K) [] E0 (AA (A_ gT (AB 3) (tC (.int 0))) (AA (AB 4) AC))) (AA (AE (Hw K) [] E0 (AA (A_ gT (AB 3) (tC (.int 1))) (AA (AB 4) AC))) AC))) (AH 7))
  (TZ K))
def wY:TS:=
 (AI (AM (AB 0) (Dj 3 (B8 (AH 4) (B8 (AH 5) (B8 (AH 6) Dh)))))
  (Ta K))
def Tb:TS:=
 (Ab (LQ (A_ aS (AE (Mt K) [] E0 (AA (AB 0) (AA (AB 2) AC))) (AB 1)) (A_ aS (AE (Km K) [] E0 (AA (AB 0) (AA (AB 1) AC))) (AB 2))))
def Tc:TS:=
 (AI (BH (C7 K (B9 (AA (Ak (AA (tC (.int 0)) (AA (tC (.int 1)) AC))) (AA (Ak (AA (tC (.int 1)) (AA (tC (.int 1)) AC))) (AA (Ak (AA (R' Bc (tC (.int 1))) (AA (tC (.int 1)) AC))) (AA (Ak (AA (tC (.int 2)) (AA (tC (.int 1)) AC))) (AA (Ak (AA (R' Bc (tC (.int 3))) (AA (tC (.int 1)) AC))) (AA (Ak (AA (tC (.int 1)) (AA (tC (.int 2)) AC))) (AA (Ak (AA (tC (.int 5)) (AA (tC (.int 3)) AC))) AC))))))))) (AH 4) (BG (DV (tB (AE (My K) [] E0 (AA (AB 0) (AA (AB 1) (AA (AB 2) (AA (AB 4) AC))))))) (Ab (tC (.bl false))) BM))
  (Tb K))
def Td:TS:=
 (AI (BH (C8 K (AB 2)) (AH 3) (BG (aF (DV (tB (AE (Mx K) [] E0 (AA (AB 3) AC)))) (aF (A4 (A_ cJ (AB 3) (AE (Ew K) [] E0 (AA (A_ gT (AB 3) (tC (.int 0))) (AA (A_ gT (AB 3) (tC (.int 1))) AC))))) (A4 (A_ cJ (A_ gT (A_ gT (AB 3) (tC (.int 1))) (R' Bc (tC (.int 1)))) (Ak (AA (tC (.int 1)) (AA (tC (.int 1)) AC))))))) (Ab (tC (.bl false))) BM))
  (Tc K))
def Te:TS:=
 (AI (BG (aF (DV (tB (K' E9 (AA (AB 2) (AA (tC (.ty "tuple")) AC))))) (A4 (A_ aA (K' DX (AA (AB 2) AC)) (A_ gT (AB 0) (tC (.int 0)))))) (Ab (tC (.bl false))) BM)
  (Td K))
def wZ:TS:=
 (AI (AM (AE (Km K) [] E0 (AA (AB 0) (AA (AB 1) AC))) (AH 2))
  (Te K))
def Tf:TS:=
 (BG (DV (tB (AE (Ku K) [] E0 (AA (AB 3) (AA (AE (Mw K) [] E0 (AA (AB 2) (AA (AB 4) (AA (AB 4) AC)))) AC))))) (Ab (tC (.bl false))) BM)
def Tg:TS:=
 (AI (AM (A_ gL (B9 (AA (tC (.int 3)) (AA (tC (.int 2)) (AA (tC (.int 1)) AC)))) (A_ BA (A_ gT (AB 3) (tC (.int 0))) (tC (.int 2)))) (AH 4))
  (Tf K))
def Th:TS:=
 (AI (AM (AE (Mv K) [] E0 (AA (AB 2) AC)) (AH 3))
  (Tg K))
def Ti:TS:=
 (AI (AM (AE (Kn K) [] E0 (AA (AB 0) (AA (AB 1) AC))) (AH 2))
  (Th K))
def Tj:TS:=
 (Ab (AE (Ku K) [] E0 (AA (AB 3) (AA (AE (Ew K) [] E0 (AA (AE (Dc K) [] E0 (AA (AB 7) AC)) (AA (AE (Dc K) [] E0 (AA (AB 6) AC)) AC))) AC))))
def Tk:TS:=
 (AI (AM (Bb (CW (AA (A_ BU (tC (.int 1)) (AE (CT K) [] E0 (AA (AB 2) (AA (tC (.int 4)) AC)))) AC)) [none,some 2] (AH 0) (Ak (AA (A_ BA (AE (CT K) [] E0 (AA (AB 1) (AA (tC (.int 7)) AC))) (tC (.int 3))) (AA (tC (.int 1)) AC)))) (AH 7))
  (Tj K))
def Tl:TS:=
 (AI (AM (A_ Jw (Bb (CW (AA (A_ BU (A_ BA (tC (.int 10)) (A_ Au (tC (.int 2)) (AB 5))) (AE (CT K) [] E0 (AA (AB 2) (AA (tC (.int 2)) AC)))) AC)) [none,some 2] (AH 0) (Ak (AA (A_ BA (AE (CT K) [] E0 (AA (AB 1) (AA (tC (.int 7)) AC))) (tC (.int 3))) (AA (tC (.int 1)) AC)))) (B9 (AA (Ak (AA (tC (.int 1)) (AA (tC (.int 1)) AC))) AC))) (AH 6))
  (Tk K))
def M7:TS:=
 (AI (AM (Ak (AA (AB 5) (AA (Ak (AA (A_ BU (tC (.int 1)) (AE (CT K) [] E0 (AA (AB 2) (AA (tC (.int 3)) AC)))) (AA (tC (.int 1)) AC))) (AA (Ak (AA (A_ BA (AE (CT K) [] E0 (AA (AB 2) (AA (tC (.int 7)) AC))) (tC (.int 3))) (AA (tC (.int 1)) AC))) AC)))) (AH 3))
  (Tl K))
def Tm:TS:=
 (AI (AM (A_ BU (tC (.int 2)) (AE (CT K) [] E0 (AA (AB 2) (AA (tC (.int 3)) AC)))) (AH 5))
  (M7 K))
def vA (_:W.Frag):TS:=
 (Ab (tC (.bl true)))
def Tn:TS:=
 (AI (BG (A4 (A_ au (AE (CT K) [] E0 (AA (AB 2) (AA (tC (.int 8)) AC))) (tC (.int 5)))) (Tm K) BM)
  (vA K))
def To:TS:=
 (AI (AM (AE (Kn K) [] E0 (AA (AB 0) (AA (tC (.int 3)) AC))) (AH 2))
  (Tn K))
def vB:TS:=
 (AI (BH (CW (AA (tC (.int 3)) AC)) (AH 1) (Ti K))
  (To K))
end
def M8 {K:W.Frag} {H:Hp} {Q:VK} {E:XK} {p:Addr} {q:Addr} {xs:dj} {a:dj} {l:d7} {m:d7} {b:Nat} {c:Nat} {e:Nat} {d:Nat} {N:Nat} (u:SqT K H p xs) (v:H q=some (.tup a)) (w:NuK K H xs l) (x:Nums H a m) (y:Gq b c l) (z:Gq b c m) (A:b<=200000) (B:c<=200000) (C:l.length<=60) (f:m.length<=60) (h:(l≠[]->m≠[]->Fp e (AL l)/\Fp e (AL m))) (i:l.length+m.length<2 ^ (d+1)) (j:l.length+m.length<=N+2) (k:2<=N) (n:(e+d+2)*N<=44490) (o:(l=[]->m=[]->Fu H Q [])) (r:((l≠[]\/m≠[])->∀ g,RC (co (AL l)) (co (AL m)) g->Prim g->Fu H Q (K_ g))):Fx K [.ref p,.ref q] H Q E:=⟨p,q,xs,a,l,m,b,c,e,d,N,rfl,u,v,w,x,y,z,A,B,C,f,h,i,j,k,n,o,r⟩
def JI {K:W.Frag} {H:Hp} {Q:VK} {E:XK} {p:Addr} {q:Addr} {xs:dj} {a:dj} {l:d7} {m:d7} {b:Nat} {c:Nat} {d:Nat} {e:Nat} (n:SqT K H p xs) (o:H q=some (.tup a)) (u:NuK K H xs l) (v:Nums H a m) (w:Gq b c l) (x:Gq d e m) (y:l.length<=100) (z:m.length<=100) (A:b<=300000) (f:c<=300000) (g:d<=300000) (h:e<=300000) (i:∀ (r:Addr) (R:d7) (j:Hp),Same H j->Pl j r R->Gq (b+d+l.length) (c+e) R->R.length<=l.length+m.length - 1->(∀ k,B_ R k=cv (B_ l) (B_ m) l.length k)->Q (.ref r) j):Cp K [.ref p,.ref q] H Q E:=⟨p,q,xs,a,l,m,b,c,d,e,rfl,n,o,u,v,w,x,y,z,A,f,g,h,i⟩
def Hy {K:W.Frag} {H:Hp} {Q:VK} {E:XK} {p:Addr} {q:Addr} {xs:dj} {a:dj} {l:d7} {m:d7} {b:Nat} {c:Nat} {d:Nat} {e:Nat} (u:SqT K H p xs) (v:H q=some (.tup a)) (w:NuK K H xs l) (x:Nums H a m) (y:Gq b c l) (z:Gq d e m) (A:m≠[]) (B:l.length<=100) (C:m.length<=100) (f:c+(l.length+1 - m.length)*d<=400000) (g:b+(l.length+1 - m.length)*(d+1)+e<=900000) (h:e<=400000) (i:d<=400000) (j:MR (B_ m) (B_ l)) (n:∀ (r:Addr) (R:d7) (o:Hp),Same H o->Pl o r R->AX R->Nz R->R.length<=l.length+1 - m.length->(∀ k,B_ l k=cv (B_ R) (B_ m) R.length k)->Q (.ref r) o):EW K [.ref p,.ref q] H Q E:=⟨p,q,xs,a,l,m,b,c,d,e,rfl,u,v,w,x,y,z,A,B,C,f,g,h,i,j,n⟩
def vC {f:Nu->Nu->Nu} {s:Rat} {K:W.Frag} {H:Hp} {Q:VK} {E:XK} {p:Addr} {q:Addr} {xs:dj} {a:dj} {l:d7} {m:d7} {M:Int} {b:Nat} {c:Nat} (u:H p=some (.tup xs)) (v:H q=some (.tup a)) (w:Nums H xs l) (x:Nums H a m) (y:AX l) (A:AX m) (B:Ov l M) (C:Ov m M) (D:Bd c M) (d:(∀ z∈P_ l M,Bd b z)) (e:(∀ z∈P_ m M,Bd b z)) (g:b<=300000) (h:c<=300000) (i:l.length<=100) (j:m.length<=100) (n:∀ (r:Addr) (R:d7) (o:Hp),Same H o->Pl o r R->Gq (b+1) c R->R.length<=max l.length m.length->(∀ k,B_ R k=B_ l k+s*B_ m k)->Q (.ref r) o):JE f s K [.ref p,.ref q] H Q E:=⟨p,q,xs,a,l,m,M,b,c,rfl,u,v,w,x,y,A,B,C,D,d,e,g,h,i,j,n⟩
variable {K:W.Frag} {vs:dj} {H:Hp} {Q:VK} {E:XK}
local macro_rules | `(tactic| rwa [$[$t:term],*]) => do
 let l : Array Lean.Term := (("AI AM AE AA AB AC AH Fb L2.start BG aV A4 L2.tB A_ ai rI L2.tC R' rU BM Ab Ak B9 V6 EK IM K' WJ HG aF DV LQ LR V0 au aA Di BU BA Au Li YH Cw O4 IV bj iLe aR cu Bc gT gL gS GW GZ YI YJ DX CI IW E9 YK YL YM eqT YN YO YQ List.map_cons List.map_nil List.length_cons List.length_nil List.replicate List.cons_append List.nil_append List.append_nil List.getElem?_cons_zero List.getElem?_cons_succ Option.some.injEq exists_eq_left' exists_eq_left V.int.injEq V.bl.injEq V.ref.injEq V.ty.injEq HO.tup.injEq HO.lst.injEq List.cons.injEq and_true true_and and_assoc exists_and_left List.set_cons_zero List.set_cons_succ decide_eq_true_eq decide_eq_false_iff_not Bool.not_eq_true' Bool.true_eq_false Bool.false_eq_true Bool.not_true Bool.not_false if_true if_false ite_true ite_false YW YX YR YS YT YU YV YY YZ Nat.zero_add Nat.reduceAdd Nat.reduceSub upd_same Int.cast_ofNat_Int decide_true decide_false eq_self not_true_eq_false not_false_eq_true Int.natCast_add Int.natCast_zero reduceCtorEq Nm Dj B8 Dh GO aY GU E8 sL sT J2 Lo Ie Ep ZF Fe Jw Lb Jv Wm bO Wk Yx Yy Yz Y4 ZQ ZP Y1 Y3 ZJ ZK Ly PU MA Ii PQ FC ET PR J5 Ci Option.bind_some Option.bind_none Option.bind Option.join id_eq sS Zg Zi Ev Gk Hh Ir Iu Iw Ix Iy Hi KQ JA KR KS Hj Hk KT KU KW KY KZ Ka Co Dc EV Gn Fx Kb Kc Ho Kd Cp JC EW Go JE Hr Ew aI MD E9 Kj CT Hv Kq JH".splitOn " ").map λs => (⟨(Lean.mkIdent s.toName).raw⟩ : Lean.Term)).toArray
 `(tactic| simp only [$[$(l ++ t):term],*])
def JJ {x:Int} (a:-1099511627776<x) (b:x<1099511627776):Bd 40 x:=by
 show x.natAbs<1099511627776;omega
def DF {a b:Int} (c:Bd 60000000 a) (d:Bd 60000000 b):IntMulOk a b:=Zh c d ∅
def vD (h:Ev K vs H Q E):Qt K { nx:=λ_ d=>Q .non d,rt:=Q } (L2.start ["one","other","rest"] vs) H:=by
 obtain ⟨a,b,rfl,q⟩:=h;unfold Qt;rwa [];refine FA (λm f d=>∃ (x y:Int) (r:dl),f=[some (.int x),some (.int y),r]/\d=H/\Int.gcd x y=Int.gcd a b/\m=y.natAbs) b.natAbs ⟨a,b,none,rfl,rfl,rfl,rfl⟩ ?_;rintro m f d ⟨x,y,r,rfl,rfl,g,rfl⟩;rwa [];refine Ap (λc=>?_) (λc=>?_)
 ·refine ⟨λi j=>∃ k,k<y.natAbs/\_,λ_ _ h=>h,?_⟩;refine ⟨c,_,YF x c,y,x.fmod y,_,rfl,rfl,?_,rfl⟩;rw [O0];exact g
 ·have n:y=0:=Decidable.not_not.mp c;subst n
  have e:(if x<0 then -x else x)=((Int.gcd a b:Nat):Int):=by
   rw [<-g,Int.gcd_zero_right];split <;> omega
  rw [e];exact q
def vE (h:Gk K vs H Q E):Qu K { nx:=λ_ f=>Q .non f,rt:=Q } (L2.start ["whole","n","result","square"] vs) H:=by
 obtain ⟨x,n,b,rfl,n0,B,J,q⟩:=h;unfold Qu;rwa []
 have p:∀ k:Nat,k<=n.toNat->Bd 60000000 (x ^ k):=λk hk=>(B.pow k).mono (by
  have:=CM b hk;omega)
 refine FA (λm A f=>∃ r s:Nat,A=[some (.int x),some (.int (m:Int)),some (.int (x ^ r)),some (.int (x ^ s))]/\f=H/\r+s*m=n.toNat) n.toNat ⟨0,1,?_,rfl,⋯⟩ ?_
 ·have e:((n.toNat:Nat):Int)=n:=by omega
  rw [e,DT,show x ^ 1=x by rw [Df,DT,Int.one_mul]]
 rintro m A f ⟨r,s,rfl,rfl,L⟩;rwa [];refine Ap (λc=>?_) (λc=>?_)
 ·have C:1<=m:=by omega
  have M:s<=s*m:=Nat.le_mul_of_pos_right s C;have D:Lf (m:Int) 2:=⟨∅,(YE ∅ ∅).mono ∅⟩
  have i:s*m=(s+s)*(m / 2)+s*(m % 2):=by
   have e:m=2*(m / 2)+m % 2:=(Nat.div_add_mod m 2).symm;generalize m / 2=u at e ⊢;generalize m % 2=v at e ⊢;subst e;rw [Nat.mul_add];congr 1;rw [<-Nat.mul_assoc,B6 s 2];congr 1;omega
  have F:((m:Int) / 2)=((m / 2:Nat):Int):=by omega
  rw [F];refine ⟨λG I=>∃ d,d<m/\_,λ_ _ h=>h,?_⟩
  have j:∀ g:Nat,g+(s+s)*(m / 2)=n.toNat->Lf (m:Int) 2/\if 0<((m / 2:Nat):Int) then IntMulOk (x ^ s) (x ^ s)/\∃ d,d<m/\∃ r a,[some (V.int x),some (V.int ((m / 2:Nat):Int)),some (V.int (x ^ g)),some (V.int (x ^ s*x ^ s))]=[some (V.int x),some (V.int (d:Int)),some (V.int (x ^ r)),some (V.int (x ^ a))]/\f=f/\r+a*d=n.toNat
    else ∃ d,d<m/\∃ r a,[some (V.int x),some (V.int ((m / 2:Nat):Int)),some (V.int (x ^ g)),some (V.int (x ^ s))]=[some (V.int x),some (V.int (d:Int)),some (V.int (x ^ r)),some (V.int (x ^ a))]/\f=f/\r+a*d=n.toNat:=λg o=>by
   refine ⟨D,Ap (λw=>?_) (λw=>?_)⟩
   ·exact ⟨DF (p s ⋯) (p s ⋯),m / 2,⋯,g,s+s,by rw [Int.pow_add],rfl,o⟩
   ·have z:m / 2=0:=by omega
    rw [z] at o ⊢;exact ⟨0,⋯,g,s,rfl,rfl,⋯⟩
  refine ⟨∅,Ap (λw=>⟨DF (p r ⋯) (p s ⋯),?_⟩) (λw=>?_)⟩
  ·rw [<-Int.pow_add];have y:m % 2=1:=by omega
   rw [y] at i;exact j (r+s) ⋯
  ·have y:m % 2=0:=by omega
   rw [y] at i;exact j r ⋯
 ·have z:m=0:=by omega
  subst z;have e:r=n.toNat:=by omega
  subst e;exact q
def Tq {H:Hp} {Q:VK} {xs:dj} {l:d7} {m:Nat} (a:Nums H xs l) (b:m<=l.length) (e:Bg l l.length=m) (q:Fu H Q (trim l)) :
  ∀ (p:Addr),H p=none->∀ (r:Addr),upd H p (.lst (CN xs none (some (m:Int)))) r=none->Q (V.ref r) (upd (upd H p (.lst (CN xs none (some (m:Int))))) r (.tup (CN xs none (some (m:Int))))):=λp hp r c=>by
 have s:=(AQ hp (.lst (CN xs none (some (m:Int))))).trans (AQ c (.tup (CN xs none (some (m:Int)))));refine q r _ _ s upd_same ?_;rw [Mf (by rw [a.length];exact b)];rw [Mf (by rw [a.length];exact b)] at s;unfold trim;rw [e];exact (a.take m).tp (M_ s)
def NA (l:d7) (m:Nat):Bg l (m+1)=if (l.getD m (1,1)).1=0 then Bg l m else m+1:=rfl
def vF (h:Dc K vs H Q E):Rl K { nx:=λ_ b=>Q .non b,rt:=Q } (L2.start ["row","many"] vs) H:=by
 obtain ⟨p,n,l,rfl,hp,d,A,q⟩:=h;unfold Rl;rwa [hp];have o:=d.length;refine FA (λm g b=>g=[some (.ref p),some (.int (m:Int))]/\b=H/\Bg l m=Bg l l.length/\m<=l.length) n.length ⟨rfl,rfl,by rw [o],⋯⟩ ?_;rintro m g b ⟨rfl,rfl,a,j⟩;rwa [hp];refine Ap (λc=>?_) (λc=>?_)
 ·obtain ⟨k,rfl⟩:∃ k,m=k+1:=⟨m - 1,⋯⟩;obtain ⟨v,r,u,rfl,e⟩:=d.at (i:=k) ⋯ (1,1);rw [NA] at a;refine ⟨_,Dl ⋯ r,u,rfl,_,e,_,rfl,rfl,Ap (λf=>?_) (λf=>?_)⟩
  ·have z:(l.getD k (1,1)).1=0:=by injection f
   rw [kA z] at a;exact ⟨λw x=>∃ y,y<k+1/\_,λ_ _ h=>h,k,⋯,by rw [show ((k+1:Nat):Int) - 1=(k:Int) by omega],rfl,a,⋯⟩
  ·have z:(l.getD k (1,1)).1≠0:=λz=>f (by rw [z]);rw [lZ z] at a;exact Tq d j a.symm q
 ·have z:m=0:=by omega
  subst z;exact Tq d j a.symm q
def vG {l:d7} {i:Nat} {q:Nu} (h:l[i]?=some q):(l.take (i+1)).foldl (λB q=>B*(q.2 / ((Int.gcd B q.2:Nat):Int))) 1=(l.take i).foldl (λB q=>B*(q.2 / ((Int.gcd B q.2:Nat):Int))) 1*(q.2 / ((Int.gcd ((l.take i).foldl (λB q=>B*(q.2 / ((Int.gcd B q.2:Nat):Int))) 1) q.2:Nat):Int)):=by
 rw [FW,h,List.foldl_append];rfl
def Hz {a b:Type} {l:List a} {i:Nat} {q:a} (f:a->b) (h:l[i]?=some q):(l.take (i+1)).map f=(l.take i).map f++[f q]:=by
 rw [FW,h,EF];rfl
def Tr (a b:Nat):(if (b:Int) > (a:Int) then (b:Int) else (a:Int)).toNat=max a b:=by split <;> omega
def Ts {a:Type} (f:Nat->a) (i:Nat):(List.range (i+1)).map f=(List.range i).map f++[f i]:=by rw [List.range_succ,EF];rfl
def CK (n:Nat) (f:dL):(Ag n f).length=n:=by unfold Ag;rw [AR,AR,BL]
def CO {n k:Nat} (f:dL) (h:k<n):(Ag n f)[k]?=some (.int (f k)):=by
 unfold Ag;rw [Aq,Aq,DU h];rfl
def Gs {n k:Nat} {f g:dL} {z:Int} (h:k<n) (b:g k=z) (c:∀ i,i<n->i≠k->g i=f i):(Ag n f).set k (.int z)=Ag n g:=by
 apply FZ;intro i;by_cases a:i<n
 ·by_cases e:i=k
  ·subst e;rw [List.getElem?_set_self (by rw [CK];exact a),CO g a,b]
  ·rw [List.getElem?_set_ne (λz=>e z.symm),CO f a,CO g a,c i a e]
 ·rw [Bf (by rw [List.length_set,CK];omega),Bf (by rw [CK];omega)]
def Gu {n:Nat} {f g:dL} (h:∀ i,i<n->g i=f i):Ag n f=Ag n g:=by
 apply FZ;intro i;by_cases a:i<n
 ·rw [CO f a,CO g a,h i a]
 ·rw [Bf (by rw [CK];omega),Bf (by rw [CK];omega)]
def NC (n:Nat):(List.replicate n [V.int 0]).flatten=Ag n λ_=>0:=by
 rw [HZ];apply FZ;intro i;by_cases a:i<n
 ·rw [CO _ a,EC,kA a]
 ·rw [EC,lZ a,Bf (by rw [CK];omega)]
def Fz {n k:Nat} {i:Int} (e:i=(k:Int)) (h:k<n):ak n i=some k:=by
 subst e;unfold ak;rw [kA ⋯,kA ⋯];simp
def Pl.same {H c:Hp} {r:Addr} {L:d7} (h:Pl H r L) (s:Same H c):Pl c r L:=let ⟨d,a,b⟩:=h;⟨d,s _ _ a,b.tp (M_ s)⟩
def Pl.tp {H c:Hp} {r:Addr} {L:d7} (h:Pl H r L) (s:Tp H c):Pl c r L:=let ⟨d,a,b⟩:=h;⟨d,s _ _ a,b.tp s⟩
def Ck {m n:Nat} {x y:Int} (a:Bd m x) (b:Bd n y) (c:m<=60000000:=by decide) (d:n<=60000000:=by decide):IntMulOk x y:=DF (a.mono c) (b.mono d)
def JK (ns:dq) (m:Nat):DE ns (m+1)=if ns.getD m 1=0 then DE ns m else m+1:=rfl
def vH (h:Hh K vs H Q E):Qw K { nx:=λ_ d=>Q .non d,rt:=Q } (L2.start ["row","many"] vs) H:=by
 obtain ⟨p,a,rfl,hp,q⟩:=h;unfold Qw;rwa [hp]
 have b:∀ m:Nat,m<=a.length->DE a m=DE a a.length->DE a m=m->∀ r,H r=none->Q (V.ref r) (upd H r (.lst (CN (a.map V.int) none (some (m:Int))))):=λm j n o r u=>by
  rw [Mf (by rw [AR];exact j),<-List.map_take,<-o,n];exact q r u
 refine FA (λm g d=>g=[some (.ref p),some (.int (m:Int))]/\d=H/\DE a m=DE a a.length/\m<=a.length) a.length ⟨by rw [AR],rfl,rfl,AT _⟩ ?_;rintro m g d ⟨rfl,rfl,e,i⟩;rwa [hp];refine Ap (λc=>?_) (λc=>?_)
 ·obtain ⟨k,rfl⟩:∃ k,m=k+1:=⟨m - 1,⋯⟩
  have v:(a.map V.int)[k]?=some (V.int (a.getD k 1)):=by
   rw [Aq,Az ⋯,AU,Az ⋯];rfl
  refine ⟨_,Dl ⋯ v,rfl,Ap (λf=>?_) (λf=>?_)⟩
  ·have z:a.getD k 1=0:=by injection f
   rw [JK,kA z] at e;exact ⟨λw x=>∃ y,y<k+1/\_,λ_ _ h=>h,k,⋯,by rw [show ((k+1:Nat):Int) - 1=(k:Int) by omega],rfl,e,⋯⟩
  ·have z:a.getD k 1≠0:=λz=>f (by rw [z]);exact b (k+1) i e (by rw [JK,lZ z])
 ·have z:m=0:=by omega
  subst z;exact b 0 i e rfl
theorem ND (ns:dq):∀ m,DE ns m<=m
 | 0=>AT 0
 | m+1=>by
   rw [JK];split
   ·exact Nat.le_succ_of_le (ND ns m)
   ·exact AT _
def NE {ns:dq}:(C1 ns).length=DE ns ns.length:=by
 unfold C1;rw [Cd,Nat.min_eq_left (ND ns ns.length)]
def Tt {ns:dq} (k:Nat):(C1 ns).getD k 0=ns.getD k 0:=by
 have g:∀ (m:Nat),m<=ns.length->(∀ j,m<=j->j<ns.length->ns.getD j 0=0)->∀ j,DE ns m<=j->j<ns.length->ns.getD j 0=0:=by
  intro m
  induction m with
  | zero=>intro _ h j i c;exact h j ⋯ c
  | succ m n=>
    intro o h j d f;rw [JK] at d;split at d
    ·rename_i z;refine n ⋯ (λj i c=>?_) j d f;by_cases e:j=m
     ·subst e;rw [AU,Az c] at z ⊢;exact z
     ·exact h j ⋯ c
    ·exact h j d f
 by_cases d:k<DE ns ns.length
 ·unfold C1;rw [AU,AU,List.getElem?_take_of_lt d]
 ·have e:(C1 ns).getD k 0=0:=by
   rw [AU,Bf (by rw [NE];omega)];rfl
  rw [e];by_cases f:k<ns.length
  ·exact (g ns.length (AT _) (λj a b=>absurd b ⋯) k ⋯ f).symm
  ·rw [AU,Bf ⋯];rfl
def NF {n:Nat} {z g:Int} (h:g∣z) (b:Bd n z):Bd n (z / g):=by
 by_cases a:z=0
 ·rw [a,Int.zero_ediv];exact Cn n
 ·exact DN a (Int.ediv_dvd_of_dvd h) b
def Tu {z g:Int} (a:g≠0) (h:g∣z):((z / g:Int):Rat)=(z:Rat) / (g:Rat):=by
 obtain ⟨y,rfl⟩:=h;rw [GJ _ a];have:=AY a;push_cast;ext
theorem Tv {ns:dq} {g:Int} (h:∀ z∈ns,g∣z) (k:Nat):g∣ns.getD k 0:=by
 rw [AU];cases e:ns[k]? with
 | none=>exact Cu g
 | some z=>exact h z (Bj e)
def Kv {m:d7} (b:AX m) (f:Nz m) (h:1<=m.length):(AL m).getD (m.length - 1) 0≠0:=by
 rw [J8,QM];have a:m.length - 1<m.length:=by omega
 have q:=f m[m.length - 1] (by rw [FX];exact Az a);have e:AZ m (m.length - 1)=m[m.length - 1]:=by unfold AZ;rw [AU,Az a];rfl
 rw [e];refine BV q ?_;have o:=Br b;have d:=o.2 m[m.length - 1] (Eh a);obtain ⟨y,c⟩:=d;have g:=(b m[m.length - 1] (Eh a)).pos;rw [c,GJ _ (AV g)];intro z;rw [z,Int.mul_zero] at c;have:=o.1;omega
def NG {xs:dj} {v:V} (h:1<=xs.length) (e:xs[xs.length - 1]?=some v):N_ xs (-1)=some v:=by
 unfold N_ ak;rw [lZ ∅,kA ⋯,show (-1+(xs.length:Int)).toNat=xs.length - 1 by omega];exact e
def JL {n m:Int} (h:0<m):Ao n m=a7 n m:=by unfold Ao;rw [lZ ⋯]
def vI (h:Co K vs H Q E):Rg K { nx:=λ_ j=>Q .non j,rt:=Q } (L2.start ["top","bottom","shared"] vs) H:=by
 obtain ⟨a,b,rfl,d,q⟩:=h;unfold Rg;rwa []
 have f:∀ s:Int,(s=if b<0 then -((Int.gcd a b:Nat):Int) else ((Int.gcd a b:Nat):Int))->J5 a s/\J5 b s/\2<=sizeLine/\∀ (p:Addr),H p=none->Q (V.ref p) (upd H p (.tup [.int (a.fdiv s),.int (b.fdiv s)])):=λs k=>by
  obtain ⟨g,n,i,m,o,r⟩:=Ld d k
  have e:Ao a b=(a.fdiv s,b.fdiv s):=by
   refine EU (DB d) i ?_;rw [DC d,MS (q:=(a.fdiv s,b.fdiv s)) (AV i.pos) d m]
  rw [e] at q;exact ⟨g,g,sz ∅,q⟩
 refine Ap (λc=>?_) (λc=>?_)
 ·exact f _ (by rw [kA c])
 ·exact f _ (by rw [lZ c])
def CompJ.tupK {K:W.Frag} {capt:List (Option Nat)} {g:TG} {f:TE} {j:L2.St} {H:Hp} {Q:VK} {a:Addr} {xs:dj} (W:Nat->dj->Hp->Prop) (k:W 0 [] H) (c:∀ i b H,W i b H->i<=xs.length/\b.length<=sizeLine/\SqT K H a xs)
  (m:∀ i x b H,xs[i]?=some x->W i b H->g x (Ci capt j) H λd n=>f d n λy o=>W (i+1) (b++[y]) o) (r:∀ b H,W xs.length b H->∀ p,H p=none->Q (.ref p) (upd H p (.lst b))):CompJ (aG K a) capt g f j Q H:=by
 refine ⟨xs.length,W,k,λi b H w=>⟨(c i b H w).1,(c i b H w).2.1,?_⟩⟩;have q:SqT K H a xs:=(c i b H w).2.2;by_cases h:i<xs.length
 ·refine .inr ⟨h,⟨xs,xs[i],q,by simp [h]⟩,λx u y=>?_⟩;obtain ⟨rfl,y⟩:=y;exact m i x b _ (y xs q) w
 ·have e:i=xs.length:=Ef (c i b H w).1 (Nat.not_lt.mp h);subst e;exact .inl ⟨⟨xs,q,AT _⟩,r b H w⟩
def vJ (h:EV K vs H Q E):Rm K { nx:=λ_ f=>Q .non f,rt:=Q } (L2.start ["P","bottom","number"] vs) H:=by
 obtain ⟨p,g,l,M,rfl,hp,w,k,j,bM,I,hl,q⟩:=h;unfold Rm;rwa [];have C:=w.length;have J:=(Br k).1;have L:=DN (AV j.1) (QN k j) bM;have D:∀ q∈l,Bd 400000 q.2:=λq m=>DN (AV j.1) (j.2 q m) bM;refine ⟨⟨_,hp⟩,LU (xs:=g) (λi n f=>∃ x,n=[some (.ref p),some (.int ((l.take i).foldl (λB q=>B*(q.2 / ((Int.gcd B q.2:Nat):Int))) 1)),x]/\f=H) ⟨none,rfl,rfl⟩ ?_ ?_ ?_⟩
 ·rintro i n f _ ⟨x,rfl,rfl⟩;exact hp
 ·rintro i x n f o ⟨y,rfl,rfl⟩;obtain ⟨z,d,N,rfl,b⟩:=w.get o;have u:=k z (Bj d);have F:=D z (Bj d);obtain ⟨O,P⟩:=MV (M:=M) (l.take i) 1 (λq m=>⟨(k q (List.mem_of_mem_take m)).pos,j.2 q (List.mem_of_mem_take m)⟩) ∅ (Int.one_dvd M);have R:=DN (AV j.1) P bM;obtain ⟨s1,_,_,S,T,s6⟩:=MN O u.pos;rwa [];refine ⟨_,b,_,rfl,_,b,_,rfl,_,rfl,_,rfl,T,Ck R (F.le S),?_,_,rfl⟩;rw [vG d]
 ·rintro n f ⟨x,rfl,rfl⟩;rw [C,DS];rwa [];refine ⟨⟨_,hp⟩,CompJ.tupK (xs:=g) (λi v c=>i<=g.length/\v=((AL l).take i).map V.int/\c=f) ⟨Ae _,rfl,rfl⟩ ?_ ?_ ?_⟩
  ·rintro i v c ⟨G,rfl,rfl⟩;refine ⟨G,sz ?_,hp⟩;rw [AR,Cd];omega
  ·rintro i x v c o ⟨G,rfl,rfl⟩;obtain ⟨z,d,N,rfl,b⟩:=w.get o;have u:=k z (Bj d);have F:=D z (Bj d);have U:=I z (Bj d);have W:i<g.length:=(Bw.mp o).1;rwa [];have X:l.foldl (λB q=>B*(q.2 / ((Int.gcd B q.2:Nat):Int))) 1=Aa l:=rfl;rw [X];have Y:(AL l)[i]?=some (z.1*(Aa l / z.2)):=by unfold AL;rw [Aq,d];rfl
   refine ⟨_,b,_,rfl,_,b,_,rfl,_,rfl,u.pos,_,rfl,Ck U (L.le (Z6 J u.pos)),⋯,?_⟩;rw [Hz V.int Y]
  ·rintro v c ⟨_,rfl,rfl⟩ a Z;refine ⟨sz ∅,λr A=>?_⟩
   have e:(AL l).take g.length=AL l:=by
    rw [C,show l.length=(AL l).length by unfold AL;rw [AR],DS]
   rw [e] at A ⊢;have s:=(AQ Z (.lst ((AL l).map V.int))).trans (AQ A (.tup [.ref a,.int (Aa l)]));exact q r a _ s upd_same (AQ A _ _ _ upd_same)
def vK (h:Gn K vs H Q E):Rn K { nx:=λ_ b=>Q .non b,rt:=Q } (L2.start ["row","bottom"] vs) H:=by
 obtain ⟨p,d,B,rfl,hp,v,w,q⟩:=h;unfold Rn;rwa [hp];refine ⟨⟨_,SqL.of hp⟩,CompJ.lst (xs:=d.map V.int) (λi f b=>i<=d.length/\Same H b/\Nums b f ((d.take i).map λn=>Ao n B)) ⟨Ae _,Same.refl H,trivial⟩ ?_ ?_ ?_⟩
 ·rintro i f b ⟨o,g,c⟩;refine ⟨by rw [AR];exact o,sz ?_,SqL.of (g _ _ hp)⟩;rw [c.length,AR,Cd];omega
 ·rintro i x f b j ⟨o,g,c⟩;rw [Aq] at j;cases e:d[i]? with
  | none=>rw [e] at j;cases j
  | some n=>
    rw [e] at j;obtain rfl:V.int n=x:=kH j;have y:i<d.length:=(Bw.mp e).1;rwa [];refine ⟨v,λr k=>⟨⋯,g.trans (AQ k _),?_⟩⟩;rw [Hz _ e];exact (c.tp (M_ (AQ k _))).append (Nums.one Ft)
 ·rintro f b ⟨_,g,c⟩ a z;rw [AR,DS] at c;have u:=AQ z (.lst f);rwa [];refine ⟨_,c.tp (M_ u),by rw [AR];exact w,λr A m C k D=>q r A m ((g.trans u).trans C) k D⟩
def Tw {b:Nat} {l:d7} {M:Int} (d:AX l) (h:Ov l M) (e:∀ z∈P_ l M,Bd b z):∀ q∈l,Bd b q.1:=λq a=>by
 refine (e (q.1*(M / q.2)) (BR.mpr ⟨q,a,rfl⟩)).le ?_;rw [BX];obtain ⟨y,c⟩:=h.2 q a;have f:=(d q a).pos;have i:=h.1;have:M / q.2=y:=by rw [c,GJ _ (AV f)]
 rw [this];refine Nat.le_mul_of_pos_right _ ?_;rcases Ce y.natAbs with z | z
 ·have g:y=0:=by omega
  rw [g] at c;omega
 ·exact z
def F3 {g f:dq} (b:Lz g) (o:Lz f) (p:MQ (co g) (co f)):g.length<=f.length:=by
 obtain ⟨c,q,A,d⟩:=p;rcases Av f.length g.length with y | y
 ·exfalso;rcases Dz A with z | ⟨B,h,_,r⟩
  ·have:c*co f (f.length - 1)=0:=by rw [d,Bz,Fr g z]
   rcases Int.mul_eq_zero.mp this with e | e
   ·exact q e
   ·exact o.2 e
  ·have u:∀ k,c*co f k=cvL B (co g) k:=λk=>by rw [d,Bz,BJ (λj=>(r j).symm) g k,<-Bz]
   have v:=h.1;have G:=b.1;have m:B≠[]:=BI.mp v;obtain ⟨X,t,a⟩:∃ X t,B=X++[t]:=⟨B.dropLast,B.getLast m,(GK m).symm⟩;have w:X.length=B.length - 1:=by rw [a];simp
   have C:co B (B.length - 1)=t:=by rw [<-w,a];unfold co;simp [AU]
   have e:=u (B.length - 1+(g.length - 1));rw [Ah ⋯,a,Db,<-a,Et (n:=g.length) (λi D=>Ah D) X _ ⋯] at e;unfold Ay at e;rw [kA ⋯,show B.length - 1+(g.length - 1) - X.length=g.length - 1 by omega] at e;have F:t*co g (g.length - 1)=0:=by omega
   rcases Int.mul_eq_zero.mp F with x | x
   ·exact h.2 (C.trans x)
   ·exact b.2 x
 ·exact y
theorem php:∀ (m n:Nat) (f:Nat->Nat),(∀ i,i<n->f i<m)->m<n->∃ i j,i<j/\j<n/\f i=f j
 | 0,n,f,h,d=>absurd (h 0 d) (Nat.not_lt_zero _)
 | m+1,n,f,h,d=>by
   obtain ⟨n,rfl⟩:∃ k,n=k+1:=⟨n - 1,⋯⟩;by_cases c:∃ i,i<n/\f i=f n
   ·obtain ⟨i,a,e⟩:=c;exact ⟨i,n,a,⋯,e⟩
   ·have c:∀ i,i<n->f i≠f n:=λi a e=>c ⟨i,a,e⟩;have o:=h n ⋯
    obtain ⟨i,j,b,g,e⟩:=php m n (λi=>if f n<f i then f i - 1 else f i) (λi a=>by
     have p:=h i ⋯;have q:=c i a;show (if f n<f i then f i - 1 else f i)<m;split <;> omega) ⋯
    refine ⟨i,j,b,⋯,?_⟩;have r:=c i ⋯;have u:=c j g;have e:(if f n<f i then f i - 1 else f i)=(if f n<f j then f j - 1 else f j):=e;split at e <;> split at e <;> omega
noncomputable def a_ (M:Nat):Nat->(Nat->Nat)->Nat
 | 0,_=>0
 | N+1,e=>e 0+M*a_ M N (λk=>e (k+1))
theorem Tx {M:Nat}:∀ (N:Nat) (e:Nat->Nat),(∀ k,k<N->e k<M)->a_ M N e<M ^ N
 | 0,_,_=>Nat.one_pos
 | N+1,e,h=>by
   have a:=Tx N (λk=>e (k+1)) (λk hk=>h (k+1) ⋯);have c:=h 0 ⋯;show e 0+M*a_ M N (λk=>e (k+1))<M ^ (N+1);have b:M*(a_ M N (λk=>e (k+1))+1)<=M*M ^ N:=CM M a;rw [CV,B6 (M ^ N)];rw [Nat.mul_add,Nat.mul_one] at b;omega
def Ty {M a b x y:Nat} (c:a<M) (d:b<M) (h:a+M*x=b+M*y):a=b/\x=y:=by
 have f:(a+M*x) % M=a:=by rw [Nat.add_mul_mod_self_left,EG c]
 have g:(b+M*y) % M=b:=by rw [Nat.add_mul_mod_self_left,EG d]
 have e:a=b:=by rw [<-f,h,g]
 subst e;exact ⟨rfl,Nat.eq_of_mul_eq_mul_left ⋯ (Nat.add_left_cancel h)⟩
theorem T2 {M:Nat}:∀ (N:Nat) (e a:Nat->Nat),(∀ k,k<N->e k<M)->(∀ k,k<N->a k<M)->a_ M N e=a_ M N a->∀ k,k<N->e k=a k
 | 0,_,_,_,_,_,k,hk=>absurd hk (Nat.not_lt_zero _)
 | N+1,e,a,h,b,q,k,hk=>by
   obtain ⟨c,d⟩:=Ty (h 0 ⋯) (b 0 ⋯) q;cases k with
   | zero=>exact c
   | succ k=>exact T2 N _ _ (λk hk=>h (k+1) ⋯) (λk hk=>b (k+1) ⋯) d k ⋯
noncomputable def Y_ (p:Nat):Nat->Nat->dq
 | 0,_=>[]
 | N+1,t=>((t % p:Nat):Int)::Y_ p N (t / p)
theorem NH (p:Nat):∀ (N t:Nat),(Y_ p N t).length=N
 | 0,_=>rfl
 | N+1,t=>by show (Y_ p N (t / p)).length+1=N+1;rw [NH p N]
theorem NI {p:Nat} (a:0<p):∀ (N t:Nat),∀ z∈Y_ p N t,0<=z/\z<(p:Int)
 | 0,_,z,h=>by cases h
 | N+1,t,z,h=>by
   rcases D8.mp h with rfl | h
   ·have:=Nat.mod_lt t a;omega
   ·exact NI a N _ z h
theorem T4 {p:Nat} (e:0<p):∀ (N t s:Nat),t<p ^ N->s<p ^ N->Y_ p N t=Y_ p N s->t=s
 | 0,t,s,c,d,_=>by rw [Nat.pow_zero] at c d;omega
 | N+1,t,s,c,d,h=>by
   injection h with a b;rw [CV,B6] at c d;have:=T4 e N (t / p) (s / p) (Nat.div_lt_of_lt_mul c) (Nat.div_lt_of_lt_mul d) b;have f:=Nat.div_add_mod t p;have g:=Nat.div_add_mod s p;have a:t % p=s % p:=by exact_mod_cast a
   rw [<-f,<-g,this,a]
theorem NJ {g:dL} {h q:Nat} (c:∀ k,(g k).natAbs<=h):∀ (a:dq),(∀ z∈a,z.natAbs<=q)->∀ k,(cvL a g k).natAbs<=a.length*(q*h)
 | [],_,k=>by show (0:Int).natAbs<=_;simp
 | x::a,b,0=>by
   rw [Ax];have d:(x*g 0).natAbs<=q*h:=by rw [BX];exact B4 (b x (CC ..)) (c 0)
   have:(x::a).length*(q*h)=a.length*(q*h)+q*h:=by rw [CB,Cl,Nat.one_mul]
   omega
 | x::a,b,k+1=>by
   rw [Ar];have d:(x*g (k+1)).natAbs<=q*h:=by rw [BX];exact B4 (b x (CC ..)) (c (k+1))
   have f:=NJ c a (λz e=>b z (CD _ e)) k;rw [CB,Cl,Nat.one_mul];exact Nat.le_trans (Int.natAbs_add_le _ _) (by rw [Nat.add_comm (x*g (k+1)).natAbs];exact Nat.add_le_add f d)
def vL {A B u v:dq} (i:Lz A) (c:Lz B) (q:QI (co A) (co B) Aj) (g:u.length<B.length) (j:v.length<A.length) (h:∀ k,cvL u (co A) k+cvL v (co B) k=0):(∀ k,co u k=0)/\∀ k,co v k=0:=by
 obtain ⟨d,m,U,V,b⟩:=q
 have a:∀ {A B u v U V:dq},Lz B->(∀ k,d*Aj k=cvL U (co A) k+cvL V (co B) k)->u.length<B.length->(∀ k,cvL u (co A) k+cvL v (co B) k=0)->∀ k,co u k=0:=λ{A B u v U V} c b g h=>by
  rcases Dz u with z | ⟨f,n,r,o⟩
  ·exact z
  ·exfalso
   have p:MQ (co B) (co f):=by
    refine ⟨d,m,A3 (BW V u) ((BW U v).map ((-1)*·)),λk=>?_⟩;rw [Bh,BF,By,By,o k,Cz u k,<-DD,BJ b,HW,Io (co A) u U,Io (co B) u V]
    have e:cvL U (cvL u (co A)) k = - cvL U (cvL v (co B)) k:=by
     have:cvL U (cvL u (co A)) k+cvL U (cvL v (co B)) k=0:=by rw [<-HW];exact Fr U h k
     omega
    rw [e];omega
   have:=F3 c n p;omega
 exact ⟨a c b g h,a (A:=B) (B:=A) (u:=v) (v:=u) (U:=V) (V:=U) i (λk=>by rw [b k];omega) j (λk=>by have:=h k;omega)⟩
def FN {a b:Int} (h:a=b):a∣b:=by rw [h];exact Int.dvd_refl b
theorem bV {p:Int} {f g:dL} {S:dq} (h:∀ k,p∣f k - cvL S g k):∀ (a:dq) (k:Nat),p∣cvL a f k - cvL a (cvL S g) k
 | [],k=>by show p∣(0:Int) - 0;simp
 | x::a,0=>by
   rw [Ax,Ax];have:=CL (h 0) (Int.dvd_mul_left x _);rw [Int.mul_sub] at this;refine CL this (FN ?_);omega
 | x::a,k+1=>by
   rw [Ar,Ar];have b:=CL (h (k+1)) (Int.dvd_mul_left x _);have c:=bV h a k;rw [Int.mul_sub] at b;have:=Cr b c;refine CL this (FN ?_);omega
theorem T5:∀ (a b:dq),(A3 a b).length=max a.length b.length
 | [],b=>by show b.length=max 0 b.length;omega
 | a,[]=>by rw [J9];show a.length=max a.length 0;omega
 | x::a,y::b=>by
   show (A3 a b).length+1=max (a.length+1) (b.length+1);rw [T5 a b];omega
def T6 {a b:dq} (c:a.length=b.length) (h:∀ k,co a k=co b k):a=b:=by
 refine List.ext_getElem c λi d e=>?_;have:=h i;unfold co at this;rwa [AU,AU,Az d,Az e] at this
def cA {A B G:dq} {p b:Nat} (hp:Pr p) (lA:Lz A) (lB:Lz B) (q:QI (co A) (co B) Aj) (hA:∀ k,Bd b (co A k)) (hB:∀ k,Bd b (co B k)) (n1:2<=A.length) (m1:2<=B.length) (g2:2<=G.length) (g1:¬ (p:Int)∣co G (G.length - 1)) (dA:Dm (p:Int) (co G) (co A)) (dB:Dm (p:Int) (co G) (co B))
  (j:(2*((A.length+B.length)*2 ^ b)) ^ (A.length+B.length - 2)<p):False:=by
 have p2:=hp.two;have S:0<p:=by omega
 generalize hn:A.length - 1=n at *;generalize hm:B.length - 1=m at *;generalize hE:(A.length+B.length)*2 ^ b=E at *;have N1:A.length+B.length - 2=n+m:=by omega
 rw [N1] at j;replace hn:A.length=n+1:=by omega
 replace hm:B.length=m+1:=by omega
 clear N1;have Y:∀ k,(co A k).natAbs<=2 ^ b:=λk=>CU (hA k);have Z:∀ k,(co B k).natAbs<=2 ^ b:=λk=>CU (hB k);have E0:0<E:=by rw [<-hE];exact Nat.mul_pos ⋯ (Nat.pow_pos ∅)
 obtain ⟨u,T⟩:∃ u:Nat->dq,∀ t,u t=(Y_ p (m+n) t).take m:=⟨_,λ_=>rfl⟩;obtain ⟨v,U⟩:∃ v:Nat->dq,∀ t,v t=(Y_ p (m+n) t).drop m:=⟨_,λ_=>rfl⟩;obtain ⟨f,W⟩:∃ f:Nat->dL,∀ t k,f t k=cvL (u t) (co A) k+cvL (v t) (co B) k:=⟨_,λ_ _=>rfl⟩;have J:∀ t,(u t).length=m:=λt=>by rw [T,Cd,NH];omega
 have L:∀ t,(v t).length=n:=λt=>by rw [U,List.length_drop,NH];omega
 have uz:∀ t,∀ z∈u t,0<=z/\z<(p:Int):=λt z o=>NI S _ t z (List.mem_of_mem_take (T t ▸ o));have vz:∀ t,∀ z∈v t,0<=z/\z<(p:Int):=λt z o=>NI S _ t z (List.mem_of_mem_drop (U t ▸ o))
 have fb:∀ t k,(f t k).natAbs<E*p:=λt k=>by
  have d:=NJ (q:=p - 1) Y (u t) (λz o=>by have:=uz t z o;omega) k;have g:=NJ (q:=p - 1) Z (v t) (λz o=>by have:=vz t z o;omega) k;rw [J] at d;rw [L] at g
  have h3:(f t k).natAbs<=(m+n)*((p - 1)*2 ^ b):=by
   rw [Cl,W];exact Nat.le_trans (Int.natAbs_add_le _ _) (Nat.add_le_add d g)
  refine DI h3 ?_;rw [<-hE];have e:(m+n)*((p - 1)*2 ^ b)=((m+n)*2 ^ b)*(p - 1):=by rw [B6 (p - 1),Nat.mul_assoc]
  rw [e];exact CP (Nat.mul_lt_mul_of_pos_left ⋯ (Nat.mul_pos ⋯ (Nat.pow_pos ∅))) (Bk p (Bk _ ⋯))
 obtain ⟨X,r⟩:∃ X:Nat->Nat,∀ t,X t=(f t 0 / (p:Int)+(E:Int)).toNat:=⟨_,λ_=>rfl⟩;obtain ⟨O,w⟩:∃ O:Nat->Nat->Nat,∀ t k,O t k=(f t (k+1)+((E*p:Nat):Int)).toNat:=⟨_,λ_ _=>rfl⟩
 have C:∀ t,0<=f t 0 / (p:Int)+(E:Int)/\f t 0 / (p:Int)+(E:Int)<2*(E:Int):=λt=>by
  have h:=fb t 0
  have d:-((E:Int)*(p:Int))<=f t 0:=by have:((E*p:Nat):Int)=(E:Int)*(p:Int):=by push_cast;rfl
                                       omega
  have g:f t 0<(E:Int)*(p:Int):=by have:((E*p:Nat):Int)=(E:Int)*(p:Int):=by push_cast;rfl
                                   omega
  have q1:-(E:Int)<=f t 0 / (p:Int):=by
   refine (Int.le_ediv_iff_mul_le ⋯).mpr ?_;rw [Int.neg_mul];exact d
  have q2:f t 0 / (p:Int)<(E:Int):=Int.ediv_lt_of_lt_mul ⋯ g;omega
 have D:∀ t k,0<=f t (k+1)+((E*p:Nat):Int)/\f t (k+1)+((E*p:Nat):Int)<2*((E*p:Nat):Int):=λt k=>by
  have h:=fb t (k+1);omega
 have F:∀ t,X t<2*E:=λt=>by have:=C t;rw [r];omega
 have I:∀ t k,O t k<2*(E*p):=λt k=>by have:=D t k;rw [w];omega
 have cl:∀ t,X t+2*E*a_ (2*(E*p)) (m+n - 1) (O t)<2*E*(2*(E*p)) ^ (m+n - 1):=λt=>by
  have d:=Tx (M:=2*(E*p)) (m+n - 1) (O t) (λk _=>I t k);have g:2*E*(a_ (2*(E*p)) (m+n - 1) (O t)+1)<=2*E*(2*(E*p)) ^ (m+n - 1):=CM _ d;have h3:=F t;rw [Nat.mul_add,Nat.mul_one] at g;omega
 have R:2*E*(2*(E*p)) ^ (m+n - 1)<p ^ (m+n):=by
  obtain ⟨N,hN⟩:∃ N,m+n=N+1:=⟨m+n - 1,⋯⟩;rw [hN,E2];rw [Nat.add_comm n m,hN] at j
  have e:2*E*(2*(E*p)) ^ N=(2*E) ^ (N+1)*p ^ N:=by
   rw [<-Nat.mul_assoc 2 E p,Nat.mul_pow (2*E) p N,CV,B6 ((2*E) ^ N) (2*E),Nat.mul_assoc (2*E)]
  rw [e,CV p,B6 (p ^ N) p];exact Nat.mul_lt_mul_of_pos_right j (Nat.pow_pos S)
 obtain ⟨s,t,st,ht,e⟩:=php _ _ _ (λi _=>cl i) R;obtain ⟨q0,q1⟩:=Ty (F s) (F t) e;have qk:=T2 (m+n - 1) _ _ (λk _=>I s k) (λk _=>I t k) q1;have w0:∀ k,(co (u s) k - co (u t) k)=co (A3 (u s) ((u t).map ((-1)*·))) k:=λk=>by rw [Cz,Cz,Cz,Bh,BF];omega
 have df:∀ k,f s k - f t k=cvL (A3 (u s) ((u t).map ((-1)*·))) (co A) k+cvL (A3 (v s) ((v t).map ((-1)*·))) (co B) k:=λk=>by
  rw [Bh,Bh,BF,BF,W,W];omega
 have P:∀ k,0<k->f s k - f t k=0:=λk hk=>by
  rcases Av k (m+n) with c | c
  ·have:=qk (k - 1) ⋯;have r1:=D s (k - 1);have r2:=D t (k - 1);rw [w,w,show k - 1+1=k by omega] at this;rw [show k - 1+1=k by omega] at r1 r2;omega
  ·have z:∀ t,f t k=0:=λt=>by
    rw [W,Et (n:=A.length) (λi P=>Ah P) (u t) k (by rw [J];omega),Et (n:=B.length) (λi P=>Ah P) (v t) k (by rw [L];omega)];rfl
   rw [z,z];rfl
 have d0:(f s 0 - f t 0).natAbs<p:=by
  have r1:=C s;have r2:=C t;rw [r,r] at q0;have q0:f s 0 / (p:Int)=f t 0 / (p:Int):=by omega
  have m1:=Int.emod_add_mul_ediv (f s 0) p;have m2:=Int.emod_add_mul_ediv (f t 0) p;have b1:=Cf (f s 0) (show (p:Int)≠0 by omega);have b2:=C4 (f s 0) (show (0:Int)<p by omega);have b3:=Cf (f t 0) (show (p:Int)≠0 by omega);have b4:=C4 (f t 0) (show (0:Int)<p by omega);rw [q0] at m1;omega
 have dm:Dm (p:Int) (co G) (co [f s 0 - f t 0]):=by
  obtain ⟨SA,a0⟩:=dA;obtain ⟨SB,a1⟩:=dB;refine ⟨A3 (BW (A3 (u s) ((u t).map ((-1)*·))) SA) (BW (A3 (v s) ((v t).map ((-1)*·))) SB),λk=>?_⟩
  have e:co [f s 0 - f t 0] k=f s k - f t k:=by
   cases k with
   | zero=>rfl
   | succ k=>rw [P (k+1) ⋯];exact Ah (by simp)
  rw [e,df,Bh (co G),By,By];have d:=bV (p:=(p:Int)) a0 (A3 (u s) ((u t).map ((-1)*·))) k;have g:=bV (p:=(p:Int)) a1 (A3 (v s) ((v t).map ((-1)*·))) k;have:=Cr d g;refine CL this (FN ?_);omega
 have z0:f s 0 - f t 0=0:=by
  by_cases c:(p:Int)∣f s 0 - f t 0
  ·obtain ⟨y,hy⟩:=c;rcases Int.lt_trichotomy y 0 with z | z | z
   ·have:(p:Int)*y<=(p:Int)*(-1):=IK ⋯ ⋯;omega
   ·rw [hy,z];omega
   ·have:(p:Int)*1<=(p:Int)*y:=IK ⋯ ⋯;omega
  ·exfalso;have:=Dm.len hp ⋯ g1 dm ⟨0,c⟩;simp at this;omega
 have all:∀ k,cvL (A3 (u s) ((u t).map ((-1)*·))) (co A) k+cvL (A3 (v s) ((v t).map ((-1)*·))) (co B) k=0:=λk=>by
  rw [<-df];cases k with
  | zero=>exact z0
  | succ k=>exact P (k+1) ⋯
 have ll:∀ {a c:dq} {x:Nat},a.length=x->c.length=x->(A3 a (c.map ((-1)*·))).length=x:=λ{a c x} d g=>by
  rw [T5,AR,d,g];omega
 obtain ⟨c1,c2⟩:=vL lA lB q (by rw [ll (J s) (J t)];omega) (by rw [ll (L s) (L t)];omega) all;have eu:u s=u t:=T6 (by rw [J,J]) λk=>by have:=c1 k;rw [<-w0] at this;omega
 have ev:v s=v t:=T6 (by rw [L,L]) λk=>by
  have:=c2 k;rw [Cz,Bh,BF,<-Cz,<-Cz] at this;omega
 have:Y_ p (m+n) s=Y_ p (m+n) t:=by
  rw [<-List.take_append_drop m (Y_ p (m+n) s),<-List.take_append_drop m (Y_ p (m+n) t)];rw [<-T,<-U,<-T,<-U,eu,ev]
 have:=T4 S _ _ _ ⋯ ⋯ this;omega
theorem NK:∀ (a l:dq),a.Nodup->(∀ t∈a,evI l t=0)->l.length<=a.length->∀ k,co l k=0
 | [],l,_,_,h,k=>Ah (by have:l.length=0:=by simpa using h
                        omega)
 | t::a,l,i,d,j,k=>by
   have b:=List.nodup_cons.mp i;have e:=d t (CC ..);have sd:co (aa l t) ((aa l t).length - 1)=0:=by rw [KE];exact yB l t
   have f:=Mb sd
   have z:∀ k,co (aa l t) k=0:=λk=>by
    rw [<-f k];refine NK a (aa l t).dropLast b.2 (λx g=>?_) (by rw [List.length_dropLast,KE];simp at j;omega) k;rw [Mc _ _ x f];have c:=Me l t x;rw [d x (CD _ g),e] at c
    have m:x - t≠0:=λq=>b.1 (by have:x=t:=by omega
                                rw [<-this];exact g)
    have c:(x - t)*evI (aa l t) x=0:=by omega
    rcases Int.mul_eq_zero.mp c with q | q
    ·exact absurd q m
    ·exact q
   rw [KF l t k,z k];split
   ·rw [e];omega
   ·rw [z (k - 1)];omega
def vM (n:Nat):((List.range (2*n+1)).map λi:Nat=>(i:Int) - (n:Int)).Nodup:=by
 unfold List.Nodup;rw [List.pairwise_map];exact (List.nodup_range (n:=2*n+1)).imp λh q=>h ⋯
theorem T7 (f:Int->Bool):∀ P:dq,(P.filter f).length+(P.filter λx=>!f x).length=P.length
 | []=>rfl
 | x::P=>by
   have:=T7 f P;rw [List.filter_cons,List.filter_cons,CB];cases f x
   ·simp;omega
   ·simp;omega
def vN {r:dq} {n:Nat} (v:∃ k,co r k≠0) (C:r.length<=n):∃ x:dL,(∀ i,i<=n->evI r (x i)≠0/\(x i).natAbs<=n)/\∀ i j,i<=n->j<=n->i≠j->x i≠x j:=by
 let P:dq:=(List.range (2*n+1)).map λi:Nat=>(i:Int) - (n:Int);have D:P.length=2*n+1:=by show ((List.range (2*n+1)).map λi:Nat=>(i:Int) - (n:Int)).length=_;rw [AR,BL]
 have p:P.Nodup:=vM n
 have w:∀ x∈P,x.natAbs<=n:=λx y=>by
  obtain ⟨i,d,rfl⟩:=BR.mp y;have:=Ec.mp d;omega
 have f:(P.filter λx=>decide (evI r x=0)).length+(P.filter λx=>!decide (evI r x=0)).length=P.length:=by
  exact T7 _ P
 have z:(P.filter λx=>decide (evI r x=0)).length<r.length:=by
  rcases Av (P.filter λx=>decide (evI r x=0)).length r.length with c | c
  ·exact c
  ·exfalso;obtain ⟨k,hk⟩:=v;exact hk (NK _ r (p.filter _) (λt A=>by simpa using (List.mem_filter.mp A).2) c k)
 let a:=P.filter λx=>!decide (evI r x=0)
 have F:n+1<=a.length:=by
  show n+1<=(P.filter λx=>!decide (evI r x=0)).length;omega
 have B:a.Nodup:=p.filter _;refine ⟨λi=>a.getD i 0,λi d=>?_,λi j d G g e=>?_⟩
 ·have b:i<a.length:=by omega
  have e:a.getD i 0=a[i]:=by rw [AU,Az b];rfl
  show evI r (a.getD i 0)≠0/\(a.getD i 0).natAbs<=n;rw [e];have m:=List.mem_filter.mp (Eh b);exact ⟨by simpa using m.2,w _ m.1⟩
 ·have h:i<a.length:=by omega
  have o:j<a.length:=by omega
  have e:a.getD i 0=a.getD j 0:=e;rw [AU,AU,Az h,Az o] at e;have e:a[i]=a[j]:=e;have u:=List.pairwise_iff_getElem.mp B;rcases Nat.lt_or_gt_of_ne g with q | q
  ·exact u i j h o q e
  ·exact u j i o h q e.symm
def JM {b n c:Nat} {r g A:dq} (o:∀ z∈r,Bd b z) (p:∃ k,co r k≠0) (f:r.length<=n) (B:g.length<=n) (C:n<2 ^ c) (q:∀ k,co r k=cvL A (co g) k):∀ k,Bd (b+n*(2*c+4)) (co g k):=by
 by_cases D:g.length=0
 ·intro k;rw [Ah ⋯];exact Cn _
 obtain ⟨x,h,u⟩:=vN p f
 have m:∀ i,i<=n->Bd c (x i):=λi a=>by
  show (x i).natAbs<2 ^ c;have:=(h i a).2;omega
 intro k
 have:=aP (c:=c) (g.length - 1) g (b+n*(c+1)) x (λk hk=>Ah ⋯) (λi a=>m i ⋯) (λi j a F d=>u i j ⋯ ⋯ d) (λi a=>by
  have v:=(h i ⋯).1;have e:=yA q (x i);have w:=QW (m i ⋯) r o
  have y:(evI g (x i)).natAbs<=(evI r (x i)).natAbs:=by
   rw [e,BX];refine HE _ ?_;rcases Ce (evI A (x i)).natAbs with z | z
   ·exact absurd (by rw [e,Int.natAbs_eq_zero.mp z];omega) v
   ·exact z
  refine (w.le y).mono ?_;have:=Bk (c+1) f;omega) k
 refine this.mono ?_;have G:(g.length - 1)*(c+3)<=n*(c+3):=Bk (c+3) ⋯;have I:n*(2*c+4)=n*(c+1)+n*(c+3):=by rw [<-Nat.mul_add];congr 1;omega
 omega
def JO {a g:dq} (b:Lz a) (c:Lz g):cvL a (co g) (a.length - 1+(g.length - 1))=co a (a.length - 1)*co g (g.length - 1):=by
 obtain ⟨i,s,rfl⟩:∃ i s,a=i++[s]:=⟨a.dropLast,a.getLast (BI.mp b.1),(GK _).symm⟩;have e:(i++[s]).length - 1=i.length:=by rw [Cq];simp
 have d:co (i++[s]) i.length=s:=by
  unfold co;rw [AU,EB (AT _),Nat.sub_self];rfl
 rw [e,d,Db,Et (n:=g.length) (λi f=>Ah f) i _ (by have:=c.1;omega)];unfold Ay;rw [kA ⋯,show i.length+(g.length - 1) - i.length=g.length - 1 by omega];omega
def NL {X a:dq} (b:Lz a) {T:Nat} (h:∀ k,T+(a.length - 1)<=k->cvL X (co a) k=0):(∀ j,T<=j->co X j=0)/\∀ s,T=s+1->cvL X (co a) (s+(a.length - 1))=co X s*co a (a.length - 1):=by
 rcases Dz X with z | ⟨Y,d,_,e⟩
 ·refine ⟨λj _=>z j,λs _=>?_⟩;rw [Bz,Fr a z,z s];omega
 ·have f:∀ k,cvL X (co a) k=cvL Y (co a) k:=λk=>by rw [Bz,BJ (λj=>(e j).symm) a k,<-Bz]
  have g:=JO d b
  have o:Y.length<=T:=by
   rcases Av T Y.length with c | c
   ·exfalso;have:=h (Y.length - 1+(a.length - 1)) ⋯;rw [f,g] at this;exact BV d.2 b.2 this
   ·exact c
  refine ⟨λj p=>by rw [<-e];exact Ah ⋯,λs q=>?_⟩;rw [f,<-e];have r:=d.1;rcases Av Y.length T with c | c
  ·rw [Ah ⋯,Et (n:=a.length) (λi m=>Ah m) Y _ (by have:=b.1;omega)];omega
  ·rw [show s=Y.length - 1 by omega];exact g
def D2 {m n:Nat} {x y:Int} (a:Bd m x) (b:Bd n y) (c:m<=60000000:=by omega) (d:n<=60000000:=by omega):IntMulOk x y:=DF (a.mono c) (b.mono d)
def vO {ns:dq} {m:Int} (a:dq) (b:a=(ns.filter (λz=>!decide (z=0))).map λz=>if z<0 then -z else z) (h:a=[]/\m=0\/m∈a) (d:Int):(∀ z∈ns,d∣z)->d∣m:=by
 intro c;rcases h with ⟨_,e⟩ | h
 ·rw [e];exact Cu d
 ·rw [b] at h;obtain ⟨z,f,rfl⟩:=BR.mp h;have:=c z (List.mem_filter.mp f).1;show d∣if z<0 then -z else z
  split
  ·exact Int.dvd_neg.mpr this
  ·exact this
def vP (h:Ir K vs H Q E):Qv K { nx:=λ_ j=>Q .non j,rt:=Q } (L2.start ["row","start","found","whole"] vs) H:=by
 obtain ⟨p,b,st,rfl,hp,W,k⟩:=h;unfold Qv;rwa [];refine ⟨⟨_,SqL.of hp⟩,CompF.lst (xs:=b.map V.int) (λi r j=>i<=b.length/\j=H/\r=(((b.take i).filter (λz=>!decide (z=0))).map λz=>if z<0 then -z else z).map V.int) ⟨Ae _,rfl,rfl⟩ ?_ ?_ ?_⟩
 ·rintro i r j ⟨q,rfl,rfl⟩;refine ⟨by rw [AR];exact q,sz ?_,SqL.of hp⟩;rw [AR,AR];exact A7 (List.length_filter_le _ _) (by rw [Cd];omega)
 ·rintro i x r j f ⟨q,rfl,rfl⟩;rw [Aq] at f;cases e:b[i]? with
  | none=>rw [e] at f;cases f
  | some n=>
    rw [e] at f;obtain rfl:V.int n=x:=kH f;have M:i<b.length:=(Bw.mp e).1;have J:b.take (i+1)=b.take i++[n]:=by rw [FW,e];rfl
    rwa [];refine Ap (λc=>?_) (λc=>?_)
    ·refine ⟨⋯,?_⟩;have F:¬ n=0:=by simpa using c
     simp [J,List.filter_append,F]
    ·refine ⟨⋯,?_⟩;have F:n=0:=by simpa using c
     simp [J,List.filter_append,F]
 ·rintro r j ⟨_,rfl,rfl⟩ a N;rw [AR,DS];have u:=AQ N (.lst (((b.filter (λz=>!decide (z=0))).map λz=>if z<0 then -z else z).map V.int));have o:=u _ _ hp;refine ⟨_,rfl,_,upd_same,λm O=>?_⟩;have P:=vO _ rfl O;generalize R:upd j a (.lst (((b.filter (λz=>!decide (z=0))).map λz=>if z<0 then -z else z).map V.int))=S at u o ⊢;refine ⟨⟨_,SqL.of o⟩,ForL.by (xs:=b.map V.int) (λi v w=>∃ (g:Int) (x:dl),v=[some (.ref p),some (.int st),some (.int g),x]/\w=S/\0<=g/\g∣st/\(∀ z∈b.take i,g∣z)/\(∀ d:Int,d∣st->(∀ z∈b,d∣z)->d∣g)) ⟨_,none,rfl,rfl,⋯,ED m st,λz A=>(by simp at A),λd q B=>Int.dvd_coe_gcd (P d B) q⟩ ?_ ?_ ?_⟩
  ·rintro i v w _ ⟨g,x,rfl,rfl,_⟩;exact SqL.of o
  ·rintro i x v w f ⟨g,y,rfl,rfl,L,G,C,D⟩;rw [Aq] at f;cases e:b[i]? with
   | none=>rw [e] at f;cases f
   | some n=>
     rw [e] at f;obtain rfl:V.int n=x:=kH f;rwa [];refine Ap (λc=>?_) (λc=>?_)
     ·have T:g=1:=by simpa using c
      subst T;exact k 1 _ u ∅ (Int.one_dvd _) (λz _=>Int.one_dvd z) D
     ·refine ⟨⋯,CL (ED n g) G,λz A=>?_,λd q B=>Int.dvd_coe_gcd (B n (Bj e)) (D d q B)⟩;rw [FW,e] at A;rcases EA.mp A with I | I
      ·exact CL (ED n g) (C z I)
      ·have U:z=n:=by simpa using I
       rw [U];exact Ey n g
  ·rintro v w ⟨g,x,rfl,rfl,L,G,C,D⟩;rw [AR,DS] at C;rwa [];exact k g _ u L G C D
def vQ (h:Iu K vs H Q E):Qx K { nx:=λ_ c=>Q .non c,rt:=Q } (L2.start ["row","divisor"] vs) H:=by
 obtain ⟨p,b,g,rfl,hp,m,u,q⟩:=h;unfold Qx;rwa [];refine ⟨⟨_,SqL.of hp⟩,CompJ.lst (xs:=b.map V.int) (λi j c=>i<=b.length/\c=H/\j=((b.map (·/ g)).take i).map V.int) ⟨Ae _,rfl,rfl⟩ ?_ ?_ ?_⟩
 ·rintro i j c ⟨k,rfl,rfl⟩;refine ⟨by rw [AR];exact k,sz ?_,SqL.of hp⟩;rw [AR,Cd];omega
 ·rintro i x j c d ⟨k,rfl,rfl⟩;rw [Aq] at d;cases e:b[i]? with
  | none=>rw [e] at d;cases d
  | some n=>
    rw [e] at d;obtain rfl:V.int n=x:=kH d;have f:i<b.length:=(Bw.mp e).1
    have o:0<g:=by
     rcases m with h | h
     ·exact h
     ·rw [h] at f;exact absurd f (by simp)
    rwa [];refine ⟨o,⋯,?_⟩;rw [Hz V.int (q:=n / g) (by rw [Aq,e];rfl)]
 ·rintro j c ⟨_,rfl,rfl⟩ a r;have e:(b.map (·/ g)).take (b.map V.int).length=b.map (·/ g):=by rw [AR,show b.length=(b.map (·/ g)).length by rw [AR],DS]
  rw [e];exact q a r
def T8 {ns:dq} {k:Nat}:co ns k=ns.getD k 0:=rfl
def NM (ns:dq):Tz (C1 ns):=by
 have a:∀ m,m<=ns.length->DE ns m=0\/co ns (DE ns m - 1)≠0:=by
  intro m
  induction m with
  | zero=>intro _;exact .inl rfl
  | succ m c=>
    intro d;rw [JK];split
    ·exact c ⋯
    ·rename_i z;right;rw [show m+1 - 1=m by omega,T8];rw [AU,Az ⋯] at z ⊢;exact z
 have b:(C1 ns).length=DE ns ns.length:=NE;rcases a ns.length (AT _) with h | h
 ·left;exact CA.mp (b.trans h)
 ·right;rw [b];show (C1 ns).getD _ 0≠0;rw [Tt];exact h
def NO (ns:dq) (k:Nat):co (C1 ns) k=co ns k:=Tt k
def JP (n:Nat) (F:dL):Ag n F=((List.range n).map F).map V.int:=rfl
def vR (ns:dq) (f:Int) (n:Nat) (h:ns.length<=n):List.map V.int (ns.map (f*·))++List.replicate (n - ns.length) (V.int 0)=Ag n λk=>f*co ns k:=by
 rw [JP];apply FZ;intro i;by_cases a:i<ns.length
 ·rw [FU (by rw [AR,AR];exact a),Aq,Aq,Aq,Aq,DU ⋯,Az a];show _=some (V.int (f*ns.getD i 0));rw [AU,Az a];rfl
 ·rw [EB (by rw [AR,AR];omega),AR,AR,Aq,Aq];by_cases b:i<n
  ·rw [EC,kA ⋯,DU b];show _=some (V.int (f*co ns i));rw [Ah ⋯,Int.mul_zero]
  ·rw [EC,lZ ⋯,Bf (by rw [BL];omega)];rfl
def vS (h:Iw K vs H Q E):Q5 K { nx:=λ_ m=>Q .non m,rt:=Q } (L2.start ["row","factor","other","weight","shift","result","place","whole"] vs) H:=by
 obtain ⟨p,q,d,g,f,w,s,rfl,hp,P,hl,a0,bf,bw,bn,bm,k⟩:=h;unfold Q5;rwa [];refine ⟨⟨_,SqL.of hp⟩,CompJ.lst (xs:=d.map V.int) (λi J m=>i<=d.length/\m=H/\J=((d.map (f*·)).take i).map V.int) ⟨Ae _,rfl,rfl⟩ ?_ ?_ ?_⟩
 ·rintro i J m ⟨Y,rfl,rfl⟩;refine ⟨by rw [AR];exact Y,sz ?_,SqL.of hp⟩;rw [AR,Cd];omega
 ·rintro i x J m z ⟨Y,rfl,rfl⟩;rw [Aq] at z;cases e:d[i]? with
  | none=>rw [e] at z;cases z
  | some n=>
    rw [e] at z;obtain rfl:V.int n=x:=kH z;have a1:i<d.length:=(Bw.mp e).1;rwa [];refine ⟨D2 bf (bn n (Bj e)),⋯,?_⟩;rw [Hz V.int (q:=f*n) (by rw [Aq,e];rfl)]
 ·rintro J m ⟨_,rfl,rfl⟩ a R;have e:(d.map (f*·)).take (d.map V.int).length=d.map (f*·):=by rw [AR,show d.length=(d.map (f*·)).length by rw [AR],DS]
  rw [e];generalize hL:max d.length (s+g.length)=L;have S:=AQ R (.lst (List.map V.int (d.map (f*·))));have A:=S _ _ hp;have B:=S _ _ P;rwa [A,B];refine ⟨Ls upd_same,sz ∅,λb hb=>?_⟩;have M:=AQ hb (.lst [.int 0]);refine ⟨_,M _ _ B,_,M _ _ A,?_⟩;have e0:(((g.map V.int).length:Int)+(s:Int) - ((d.map V.int).length:Int))=(g.length:Int)+(s:Int) - (d.length:Int):=by rw [AR,AR]
  rw [e0];have Z:((g.length:Int)+(s:Int) - (d.length:Int)).toNat=L - d.length:=by omega
  refine ⟨⋯,⋯,sz (by rw [Z];simp;omega),λc hc=>?_⟩;rw [Z,HZ];have sc:=AQ hc (.lst (List.replicate (L - d.length) (V.int 0)));have T:upd m a (.lst (List.map V.int (d.map (f*·)))) a=some (HO.lst (List.map V.int (d.map (f*·)))):=upd_same;have C:=sc _ _ (M _ _ T);refine ⟨_,C,sz (by simp;omega),?_⟩;rw [vR d f L ⋯];generalize hX:upd (upd (upd m a (.lst (List.map V.int (d.map (f*·))))) b (.lst [.int 0])) c (.lst (List.replicate (L - d.length) (V.int 0)))=N at C ⊢;have sx:Same m N:=λx o h=>by rw [<-hX];exact sc x o (M x o (S x o h))
  have sd:Same m (upd N a (.lst (Ag L λk=>f*co d k))):=λx o h=>Kp.upd x o (B5 h R) (sx x o h);have D:(upd N a (.lst (Ag L λk=>f*co d k))) a=_:=upd_same;generalize upd N a (.lst (Ag L λk=>f*co d k))=Hd at sd D ⊢;refine ⟨⟨_,SqL.of (sd _ _ P)⟩,ForJ.enumL (xs:=g.map V.int) (λj O F=>∃ x y:dl,O=[some (.ref p),some (.int f),some (.ref q),some (.int w),some (.int (s:Int)),some (.ref a),x,y]/\Same m F/\F a=some (.lst (Ag L λk=>f*co d k - (if s<=k/\k - s<j then w*co g (k - s) else 0)))) ⟨none,none,rfl,sd,?_⟩ ?_ ?_ ?_⟩
  ·rw [D];exact congrArg (λl=>some (HO.lst l)) (Gu λk _=>by rw [lZ ⋯];omega)
  ·rintro j O F _ ⟨_,_,_,G,_⟩;exact SqL.of (G _ _ P)
  ·rintro j y pq O F I ⟨y3,y4,rfl,G,v⟩ U;rw [Aq] at I;cases em:g[j]? with
   | none=>rw [em] at I;cases I
   | some u=>
     rw [em] at I;obtain rfl:V.int u=y:=kH I;have jl:j<g.length:=(Bw.mp em).1;have ud:co g j=u:=by rw [T8,AU,em];rfl
     have sq:=AQ U (.tup [.int (j:Int),.int u]);have W:=sq _ _ v;rwa [W];have X:s+j<L:=by omega
     refine ⟨_,Dl ⋯ (CO _ X),D2 bw (bm u (Bj em)),_,rfl,s+j,?_,λb o h=>Kp.upd b o (B5 h R) (sq b o (G b o h)),?_⟩
     ·rw [CK];exact Fz ⋯ X
     ·refine Gs X ?_ λk _ hk=>?_
      ·rw [kA ⋯,lZ ⋯,show s+j - s=j by omega,ud];omega
      ·by_cases h:s<=k/\k - s<j
       ·rw [kA h,kA ⋯]
       ·rw [lZ h,lZ ⋯]
  ·rintro O F ⟨y3,y4,rfl,G,v⟩;rw [AR,JP] at v;rwa [v];refine ⟨_,rfl,λr hr=>k r _ _ (G.trans (AQ hr _)) upd_same (NM _) λi=>?_⟩;rw [NO,KC];unfold Ay;by_cases z:i<L
   ·rw [kA z];by_cases h:s<=i
    ·rw [kA h];by_cases h2:i - s<g.length
     ·rw [kA ⟨h,h2⟩]
     ·rw [lZ ⋯,Ah (a:=g) ⋯];omega
    ·rw [lZ h,lZ ⋯];omega
   ·rw [lZ z,Ah (a:=d) ⋯];by_cases h:s<=i
    ·rw [kA h,Ah (a:=g) ⋯];omega
    ·rw [lZ h];omega
def vT (a b:Int):(a.fdiv b).natAbs<=a.natAbs:=by
 rw [Int.fdiv_eq_ediv];split
 ·rw [Int.sub_zero];exact Int.natAbs_ediv_le_natAbs a b
 ·rename_i h;have d:b<0:=by omega
  have f:¬ b∣a:=λz=>h (.inr z);have e:=Int.mul_ediv_add_emod a b;have i:=Cf a (show b≠0 by omega);have j:=Int.emod_lt_of_neg a d;have rn:a % b≠0:=λz=>f (Int.dvd_of_emod_eq_zero z);generalize a / b=q at *;generalize a % b=r at *;rcases Int.lt_or_le q 1 with g | g
  ·have c:(-b)*(-q) ≥ 2*(-q):=Int.mul_le_mul_of_nonneg_right ⋯ ⋯;rw [Int.neg_mul_neg] at c;omega
  ·have c:(-b)*(q - 1) ≥ 1*(q - 1):=Int.mul_le_mul_of_nonneg_right ⋯ ⋯;rw [Int.neg_mul,Int.mul_sub] at c;omega
def NP {n m:Nat} {F:dL}:CN (Ag n F) none (some (m:Int))=((List.range (min m n)).map F).map V.int:=by
 unfold CN HT.sIx;simp only [List.drop_zero,DJ,DR];rw [lZ ⋯,CK];unfold Ag;rw [<-List.map_take,<-List.map_take,List.take_range];congr 3;omega
def vU {n:Nat} {F:dL} (h:((List.range n).map F).any (λz=>!decide (z=0))=false):∀ k,k<n->F k=0:=by
 intro k hk;have:=List.any_eq_false.mp h (F k) (BR.mpr ⟨k,Ec.mpr hk,rfl⟩);simpa using this
def T9 {n s:Nat} {F:dL} {w:Int} (a:s<n) (b:F s=0) (g:dL) (k:Nat) :
  cvL ((List.range n).map λj=>if j=s then w else F j) g k=cvL ((List.range n).map F) g k+w*Ay s g k:=by
 have e:∀ m,m<=n->cvL ((List.range m).map λj=>if j=s then w else F j) g k=cvL ((List.range m).map F) g k+(if s<m then w*Ay s g k else 0):=by
  intro m
  induction m with
  | zero=>intro _;rw [lZ ⋯];rfl
  | succ m c=>
    intro d;rw [List.range_succ,EF,EF,List.map_singleton,List.map_singleton,Db,Db,c ⋯,AR,AR,BL];by_cases e:m=s
    ·subst e;rw [kA rfl,lZ ⋯,kA ⋯,b];omega
    ·rw [lZ e];by_cases h:s<m
     ·rw [kA h,kA ⋯];omega
     ·rw [lZ h,lZ ⋯];omega
 rw [e n (AT n),kA a]
def D3 {b:Nat} {ns:dq} (h:∀ z∈ns,Bd b z) (k:Nat):Bd b (co ns k):=DM h k
def Kw {n:Nat} {g:dL} (k:Nat):cvL ((List.range n).map λ_=>(0:Int)) g k=0:=by
 have e:((List.range n).map λ_=>(0:Int))=(List.replicate n (1:Int)).map (0*·):=by
  apply FZ;intro i;rw [Aq,Aq];by_cases h:i<n
  ·rw [DU h,EC,kA h];rfl
  ·rw [Bf (by rw [BL];omega),EC,lZ h];rfl
 rw [e,BF];omega
def Kx (ns:dq):List.map V.int ns=Ag ns.length (co ns):=by
 rw [JP];congr 1;apply FZ;intro i;rw [Aq];by_cases h:i<ns.length
 ·rw [DU h,Az h];show _=some (ns.getD i 0);rw [AU,Az h];rfl
 ·rw [Bf ⋯,Bf (by rw [BL];omega)];rfl
def JQ {a:dq} (h:0<a.length):N_ (a.map V.int) (-1)=some (V.int (co a (a.length - 1))):=by
 refine NG (by rw [AR];omega) ?_;rw [AR,Aq,Az ⋯];show _=some (V.int (a.getD (a.length - 1) 0));rw [AU,Az ⋯];rfl
abbrev vVi (p q a y:Addr) (L c b d:Nat) (f g:dq) (H:Hp):Nat->L2.St->Hp->Prop:=λi S D=>i<=c/\∃ (F G:dL) (u v w:dl),S=[some (.ref p),some (.ref q),some (.ref a),some (.int (L:Int)),some (.ref y),u,v,w]/\Same H D/\D a=some (.lst (Ag f.length F))/\D y=some (.lst (Ag c G))/\
  (∀ j,j<c - i->G j=0)/\(∀ k,k<f.length - i->F k=co f k - cvL ((List.range c).map G) (co g) k)/\(∀ k,f.length - i<=k->co f k=cvL ((List.range c).map G) (co g) k)/\(∀ k,k<f.length->Bd (b+i*(d+1)) (F k))
def vV (h:Ix K vs H Q E):yV K { nx:=λ_ H'=>Q .non H',rt:=Q } (L2.start ["row","divisor","rest","last","quotient","shift","weight","place"] vs) H:=by
 obtain ⟨p,q,f,g,b,d,rfl,hp,hq,lm,bn,bm,bb,b8,hn,hm,kN,kR⟩:=h;have m0:=lm.1;have P:=lm.2;obtain ⟨L,hL⟩:∃ L,g.length=L+1:=⟨g.length - 1,⋯⟩;have R:g.length - 1=L:=by omega
 rw [R] at P;generalize n:co g L=r at P;have aL:=JQ m0;rw [R,n] at aL;generalize hc:f.length - L=c;refine BC (Gf (AO rfl ⟨_,_,rfl,hp,λa ha=>?_⟩));have sa:=AQ ha (.lst (f.map V.int));have al:=sa _ _ hp;have am:=sa _ _ hq;have an:((List.map V.int g).length:Int) - 1=(L:Int):=by rw [AR];omega
 refine ⟨_,rfl,_,_,rfl,am,_,_,rfl,rfl,?_⟩;show Q4 K _ [some (.ref p),some (.ref q),some (.ref a),some (.int (((List.map V.int g).length:Int) - 1)),none,none,none,none] _;rw [an];refine BC (A6 (KI (L_ ⟨Cj,λx hx=>?_⟩)));have sx:=AQ hx (.lst [.int 0]);have ao:=sx _ _ al
 have a1:(if (0:Int) > ((List.map V.int f).length:Int) - (L:Int) then (0:Int) else ((List.map V.int f).length:Int) - (L:Int))=(c:Int):=by
  rw [AR];split <;> omega
 refine ⟨_,rfl,_,_,rfl,ao,_,rfl,_,_,rfl,rfl,_,_,rfl,?_⟩;refine ⟨_,(c:Int),_,rfl,congrArg V.int a1,upd_same,⋯,⋯,sz (by simp;omega),λy hy=>?_⟩;refine Mg ha hx hy λH1 a2 a3 sH a4 ar=>?_;rw [Kx f] at a2;rw [DR,NC] at a3;have az:=sH _ _ hp;have b0:((List.map V.int f).length:Int) - (L:Int) - 1=(f.length:Int) - (L:Int) - 1:=by rw [AR]
 have b1:((f.length:Int) - (L:Int) - 1 - -1).toNat=c:=by omega
 refine Qa ?_;refine ⟨_,rfl,_,_,rfl,az,_,rfl,_,_,rfl,rfl,_,_,rfl,rfl,_,rfl,_,rfl,(f.length:Int) - (L:Int) - 1,_,by rw [<-b0],⟨⋯,⋯,∅,∅⟩,?_⟩;rw [b1]
 refine ForJ.down (vVi p q a y L c b d f g H) ⟨Ae _,co f,λ_=>0,none,none,none,rfl,sH,a2,a3,λ_ _=>rfl,λk _=>by rw [Kw];omega,λk hk=>by rw [Kw,Ah ⋯],λk _=>(D3 bn k).mono ⋯⟩ ?_ ?_
 ·rintro i S D hi ⟨_,F,G,u,v,w,rfl,s2,I,U,hG,hF,J,bF⟩;have a6:=s2 _ _ hq;have ic:i<c:=hi;have b2:((f.length:Int) - (L:Int) - 1 - (i:Int))=((c - 1 - i:Nat):Int):=by omega
  rw [b2];generalize hs:c - 1 - i=s;have b9:s+L+1+i=f.length:=by omega
  replace hs:s+1+i=c:=by omega
  replace hc:f.length=L+c:=by omega
  clear b2 b1 b0 a1 an
  have aT:N_ (Ag f.length F) ((s:Int)+(L:Int))=some (V.int (F (s+L))):=Dl (j:=s+L) ⋯ (CO F ⋯);refine ⟨_,rfl,_,rfl,_,rfl,_,_,rfl,rfl,_,_,_,_,rfl,rfl,I,aT,_,rfl,_,rfl,_,_,_,_,rfl,rfl,a6,aL,_,_,rfl,rfl,P,?_⟩;show Q3 K _ [some (.ref p),some (.ref q),some (.ref a),some (.int (L:Int)),some (.ref y),some (.int (s:Int)),some (.int ((F (s+L)).fdiv r)),w] D;generalize hw:(F (s+L)).fdiv r=m;have b3:=bF (s+L) ⋯;have W:Bd (b+i*(d+1)) m:=b3.le (by rw [<-hw];exact vT _ _)
  have bi:b+i*(d+1)<=60000000:=by
   have:=Bk (d+1) (show i<=f.length by omega);omega
  have ba:b+(i+1)*(d+1)<=60000000:=by
   have:=Bk (d+1) (show i+1<=f.length by omega);omega
  have b4:Bd d r:=by rw [<-n];exact D3 bm L
  refine ⟨_,rfl,_,rfl,_,rfl,_,_,_,_,rfl,rfl,a6,aL,_,_,rfl,rfl,D2 W b4,_,rfl,_,rfl,_,rfl,_,_,rfl,rfl,_,_,_,_,rfl,rfl,I,aT,rfl,_,rfl,Ap (λY=>?_) (λY=>?_)⟩
  ·refine kN (λ⟨A,hA⟩=>?_) _ s2;have M:m*r≠F (s+L):=by simpa using Y
   have hX:∀ k,cvL (A3 A (((List.range c).map G).map ((-1)*·))) (co g) k=co f k - cvL ((List.range c).map G) (co g) k:=λk=>by rw [Bh,BF,<-hA];omega
   have q:=(NL lm (X:=A3 A (((List.range c).map G).map ((-1)*·))) (T:=s+1) (λk hk=>by rw [hX,J k ⋯];omega)).2 s rfl;rw [hX,R,n,<-hF (s+L) ⋯] at q;exact M (by rw [<-hw,q,Int.mul_fdiv_cancel _ P])
  have ex:m*r=F (s+L):=by simpa using Y
  refine ⟨_,rfl,_,rfl,_,rfl,_,_,_,s,rfl,rfl,U,by rw [CK];exact Fz rfl ⋯,?_⟩;show Q0 K _ [some (.ref p),some (.ref q),some (.ref a),some (.int (L:Int)),some (.ref y),some (.int (s:Int)),some (.int m),w] (upd D y (.lst ((Ag c G).set s (V.int m))));have b5:(Ag c G).set s (V.int m)=Ag c (λj=>if j=s then m else G j):=Gs ⋯ (kA rfl) λj _ hj=>lZ hj;rw [b5];have s3:Same H (upd D y (.lst (Ag c λj=>if j=s then m else G j))):=λz o h=>Kp.upd z o (B5 h ar) (s2 z o h);have Z:(upd D y (.lst (Ag c λj=>if j=s then m else G j))) a=_:=(A8 a4).trans I;have B:(upd D y (.lst (Ag c λj=>if j=s then m else G j))) y=_:=upd_same;generalize (upd D y (.lst (Ag c λj=>if j=s then m else G j)))=H3 at s3 Z B ⊢;have ab:∀ k,cvL ((List.range c).map λj=>if j=s then m else G j) (co g) k=cvL ((List.range c).map G) (co g) k+m*Ay s (co g) k:=λk=>T9 ⋯ (hG s ⋯) _ k
  have ac:∀ (F':dL) (u v w:dl) (N:Hp),Same H N->N a=some (.lst (Ag f.length F'))->N y=some (.lst (Ag c λj=>if j=s then m else G j))->(∀ k,k<f.length->F' k=F k - (if s<=k/\k - s<L then m*co g (k - s) else 0))->
    (vVi p q a y L c b d f g H) (i+1) [some (.ref p),some (.ref q),some (.ref a),some (.int (L:Int)),some (.ref y),u,v,w] N:=λF' u v w N s4 C O eF=>by
   refine ⟨⋯,F',_,u,v,w,rfl,s4,C,O,λj hj=>?_,λk hk=>?_,λk hk=>?_,λk hk=>?_⟩
   ·show (if j=s then m else G j)=0;rw [lZ ⋯];exact hG j ⋯
   ·rw [eF k ⋯,ab,hF k ⋯];unfold Ay;by_cases h:s<=k
    ·rw [kA h,kA ⟨h,⋯⟩];omega
    ·rw [lZ h,lZ ⋯];omega
   ·rw [ab];by_cases ek:k=s+L
    ·have hf:=hF k ⋯;rw [ek] at hf ⊢;unfold Ay;rw [kA ⋯,show s+L - s=L by omega,n,ex];omega
    ·have h2:=J k ⋯;rw [h2];unfold Ay;by_cases h:s<=k
     ·rw [kA h,Ah (a:=g) ⋯];omega
     ·rw [lZ h];omega
   ·rw [eF k hk];have e2:b+(i+1)*(d+1)=b+i*(d+1)+d+1:=by rw [Cl];omega
    rw [e2];refine Bd.sub ((bF k hk).mono ⋯) ?_;split
    ·exact W.mul (D3 bm _)
    ·exact Cn _
  refine ⟨_,rfl,rfl,_,rfl,Ap (λcw=>?_) (λcw=>?_)⟩
  ·refine ⟨_,rfl,_,rfl,⋯,⋯,?_⟩;rw [DR];refine ForR.by (λj S N=>∃ (u:dl),S=[some (.ref p),some (.ref q),some (.ref a),some (.int (L:Int)),some (.ref y),some (.int (s:Int)),some (.int m),u]/\Same H N/\N a=some (.lst (Ag f.length λk=>F k - (if s<=k/\k - s<j then m*co g (k - s) else 0)))/\N y=some (.lst (Ag c λj=>if j=s then m else G j))) ⟨w,rfl,s3,?_,B⟩ ?_ ?_
   ·rw [Z];exact congrArg (λl=>some (HO.lst l)) (Gu λk _=>by rw [lZ ⋯];omega)
   ·rintro j S N hj ⟨u',rfl,s4,C,O⟩;have b6:=s4 _ _ hq;have aj:N_ (g.map V.int) (0+(j:Int))=some (V.int (co g j)):=Dl (j:=j) ⋯ (by rw [Kx];exact CO _ ⋯);refine ⟨_,rfl,_,rfl,_,rfl,_,_,rfl,rfl,_,_,_,_,rfl,rfl,C,Dl (j:=s+j) ⋯ (CO _ ⋯),_,rfl,_,rfl,_,rfl,_,_,_,_,rfl,rfl,b6,aj,_,_,rfl,rfl,D2 W (D3 bm j),_,_,rfl,rfl,_,_,_,s+j,rfl,rfl,C,by rw [CK];exact Fz ⋯ ⋯,?_⟩;refine ⟨_,rfl,?_,?_,?_⟩
    ·intro z o h;exact Kp.upd z o (B5 h ha) (s4 z o h)
    ·refine upd_same.trans (congrArg (λl=>some (HO.lst l)) (Gs ⋯ ?_ λk _ hk=>?_))
     ·rw [kA ⋯,lZ ⋯,show s+j - s=j by omega];omega
     ·by_cases h:s<=k/\k - s<j
      ·rw [kA h,kA ⋯]
      ·rw [lZ h,lZ ⋯]
    ·rw [A8 (Ne.symm a4)];exact O
   ·rintro S N ⟨u',rfl,s4,C,O⟩;exact ac _ _ _ _ _ s4 C O λk _=>rfl
  ·have w0:m=0:=by simpa using cw
   exact ac F _ _ _ _ s3 Z B λk _=>by rw [w0];split <;> omega
 ·rintro S D ⟨_,F,G,u,v,w,rfl,s2,I,U,hG,hF,J,bF⟩;have hmn:f.length - c=min L f.length:=by omega
  clear b0 b1 a1 an hc;refine ⟨_,rfl,_,rfl,_,rfl,_,_,rfl,I,λz hz=>?_⟩;have a0:=AQ hz (.lst (((List.range (min L f.length)).map F).map V.int));refine ⟨z,(List.range (min L f.length)).map F,rfl,by rw [NP];exact upd_same,?_⟩;rw [NP];refine ⟨_,rfl,Ap (λY=>?_) (λY=>?_)⟩
  ·refine kN (λ⟨A,hA⟩=>?_) _ (s2.trans a0);have hX:∀ k,cvL (A3 A (((List.range c).map G).map ((-1)*·))) (co g) k=co f k - cvL ((List.range c).map G) (co g) k:=λk=>by rw [Bh,BF,<-hA];omega
   have q:=(NL lm (X:=A3 A (((List.range c).map G).map ((-1)*·))) (T:=0) (λk hk=>by rw [hX,J k ⋯];omega)).1;have M:((List.range (min L f.length)).map F).any (λz=>!decide (z=0))=true:=by simpa using Y
   obtain ⟨z,b7,ad⟩:=List.any_eq_true.mp M;obtain ⟨k,hk,rfl⟩:=BR.mp b7;have hk:=Ec.mp hk;have e:=hX k;rw [Bz,Fr g (λj=>q j (Ae j)),<-hF k ⋯] at e;rw [<-e] at ad;simp at ad
  ·have M:((List.range (min L f.length)).map F).any (λz=>!decide (z=0))=false:=by simpa using Y
   have B:=a0 _ _ U;rw [JP] at B;refine AO rfl (kR y _ _ (s2.trans a0) B λk=>?_);by_cases hk:f.length - c<=k
   ·exact J k hk
   ·have:=hF k ⋯;rw [vU M k ⋯] at this;omega
def UA {K:W.Frag} {a:Addr} {capt:List (Option Nat)} {f:TE} {g:L2.St} {Q:VK} {H:Hp} {ns:dq} (F:Int->Int) (hp:H a=some (.lst (ns.map V.int))) (r:ns.length<=1000)
  (k:∀ n,n∈ns->∀ P:VK,P (.int (F n)) H->f ((Ci capt g).set 0 (some (.int n))) H P) (m:∀ p,H p=none->Q (.ref p) (upd H p (.lst ((ns.map F).map V.int)))):CompJ (ax K a) capt (AH 0) f g Q H:=by
 refine CompJ.lst (xs:=ns.map V.int) (λi d b=>i<=ns.length/\b=H/\d=((ns.map F).take i).map V.int) ⟨Ae _,rfl,rfl⟩ ?_ ?_ ?_
 ·rintro i d b ⟨j,rfl,rfl⟩;refine ⟨by rw [AR];exact j,sz ?_,SqL.of hp⟩;rw [AR,Cd];omega
 ·rintro i x d b c ⟨j,rfl,rfl⟩;rw [Aq] at c;cases e:ns[i]? with
  | none=>rw [e] at c;cases c
  | some n=>
    rw [e] at c;obtain rfl:V.int n=x:=kH c;have o:i<ns.length:=(Bw.mp e).1;show f ((Ci capt g).set 0 (some (.int n))) b _;refine k n (Bj e) _ ⟨⋯,rfl,?_⟩;rw [Hz V.int (q:=F n) (by rw [Aq,e];rfl)]
 ·rintro d b ⟨_,rfl,rfl⟩ p h;have e:(ns.map F).take (ns.map V.int).length=ns.map F:=by rw [AR,show ns.length=(ns.map F).length by rw [AR],DS]
  rw [e];exact m p h
def vW (h:KS K vs H Q E):RT K { nx:=λ_ a=>Q .non a,rt:=Q } (L2.start ["row","prime"] vs) H:=by
 obtain ⟨p,e,m,rfl,hp,b,c,q⟩:=h;unfold RT;rwa [];refine ⟨⟨_,SqL.of hp⟩,UA (·% m) hp c (λn _ P d=>?_) q⟩;rwa [];exact ⟨b,d⟩
theorem JR {F:Int->Int} (a:F 0=0) (ns:dq) (k:Nat):co (ns.map F) k=F (co ns k):=by
 unfold co;rw [AU,AU,Aq];cases ns[k]? with
 | none=>exact a.symm
 | some z=>rfl
def UB {ns:dq} {z:Int} (h:z∈C1 ns):z∈ns:=List.mem_of_mem_take h
def vX (ns:dq):(C1 ns).length<=ns.length:=by rw [NE];exact ND _ _
def IA (a m:Int):m∣a % m - a:=⟨-(a / m),by have:=Int.emod_add_mul_ediv a m;rw [Int.mul_neg];omega⟩
def vY (h:Hj K vs H Q E):RU K { nx:=λ_ b=>Q .non b,rt:=Q } (L2.start ["row","prime"] vs) H:=by
 obtain ⟨p,g,m,rfl,hp,a,c,q⟩:=h;unfold RU;rwa [hp];refine ⟨_,rfl,a,c,λr d=>?_⟩;refine ⟨_,rfl,λt e=>?_⟩;refine q t _ _ ((AQ d _).trans (AQ e _)) upd_same (NM _) (A7 (vX _) (by rw [AR];exact AT _)) ⟨λz f=>?_,λk=>?_⟩
 ·obtain ⟨y,_,rfl⟩:=BR.mp (UB f);exact ⟨Cf _ ⋯,C4 _ a⟩
 ·rw [NO,JR (Int.zero_emod m)];exact IA _ _
def vZ (h:KR K vs H Q E):RS K { nx:=λ_ d=>Q .non d,rt:=Q } (L2.start ["whole","prime","one","other","one_weight","other_weight","quotient","rest"] vs) H:=by
 obtain ⟨a,p,rfl,p2,I,q⟩:=h;unfold RS RQ RP RN RM;rwa [];refine ⟨⋯,?_⟩;have J:=Cf a (show p≠0 by omega);have L:=C4 a (show 0<p by omega)
 refine FA (λn m d=>∃ (x y s t:Int) (u v:dl),m=[some (.int a),some (.int p),some (.int x),some (.int y),some (.int s),some (.int t),u,v]/\d=H/\n=y.toNat/\0<=y/\y<x/\x<=p/\
  Int.gcd x y=Int.gcd a p/\p∣x - s*a/\p∣y - t*a/\(t.natAbs:Int)*x+(s.natAbs:Int)*y<=p/\(s.natAbs:Int)<=p) (a % p).toNat ⟨p,a % p,0,1,none,none,rfl,rfl,rfl,J,L,Int.le_refl _,?_,⟨1,⋯⟩,?_,by simp,by simp;omega⟩ ?_
 ·rw [O3 a ⋯]
 ·rw [show a % p - 1*a=a % p - a by omega];exact IA a p
 ·rintro n m d ⟨x,y,s,t,u,v,rfl,rfl,rfl,e,yx,xp,f,o,r,hb,M⟩;have tx:(t.natAbs:Int)*1<=(t.natAbs:Int)*x:=IK ⋯ ⋯;have sy:0<=(s.natAbs:Int)*y:=Int.mul_nonneg ⋯ e;have N:(t.natAbs:Int)<=p:=by omega
  rwa [];refine Ap (λc=>?_) (λc=>?_)
  ·have w:0<y:=by
    have:y≠0:=by simpa using c
    omega
   unfold RK RJ RI RH RG RF RE;have q0:=Int.ediv_nonneg (show 0<=x by omega) e;have q1:x / y<=x:=Int.ediv_le_self y ⋯;have r0:=Cf x (show y≠0 by omega);have r1:=C4 x w;have g:x - x / y*y=x % y:=by have:=Int.emod_add_mul_ediv x y;rw [Int.mul_comm] at this;omega
   have B:∀ {z:Int},z.natAbs<=p.natAbs->Bd 60000000 z:=λh=>(I.le h).mono ∅;refine ⟨λO P=>∃ R,R<y.toNat/\_,λ_ _ h=>h,?_⟩;rwa [];refine ⟨w,D2 (B ⋯) (B ⋯),D2 (B ⋯) (B ⋯),?_⟩;refine ⟨(x - x / y*y).toNat,⋯,rfl,⋯,⋯,⋯,?_,r,?_,?_,N⟩
   ·rw [g,O3 x e];exact f
   ·obtain ⟨b,i⟩:=o;obtain ⟨A,S⟩:=r
    exact ⟨b - x / y*A,by
     generalize x / y=j at *;have k:x=s*a+p*b:=by omega
     have C:y=t*a+p*A:=by omega
     rw [k,C];ext⟩
   ·have n1:((s - x / y*t).natAbs:Int)<=(s.natAbs:Int)+x / y*(t.natAbs:Int):=by
     have T:=Int.natAbs_sub_le s (x / y*t);rw [BX] at T;have U:((x / y).natAbs:Int)=x / y:=by omega
     have h3:(((x / y).natAbs*t.natAbs:Nat):Int)=x / y*(t.natAbs:Int):=by rw [Int.natCast_mul,U]
     omega
    have n2:=Int.mul_le_mul_of_nonneg_right n1 e;rw [g];have W:(t.natAbs:Int)*(x % y)=(t.natAbs:Int)*x - (t.natAbs:Int)*(x / y*y):=by rw [<-g,Int.mul_sub]
    rw [W];generalize (t.natAbs:Int)=D at *;generalize (s.natAbs:Int)=F at *;generalize x / y=j at *;have n4:(F+j*D)*y=F*y+D*(j*y):=by ext
    omega
  ·have X:y=0:=by simpa using c
   unfold RL;rwa [];refine ⟨⋯,q _ (Cf _ ⋯) (C4 _ ⋯) λY=>?_⟩
   have x1:x=1:=by
    rw [X] at f;rw [Int.gcd_zero_right,Y] at f;omega
   obtain ⟨b,i⟩:=o;obtain ⟨G,Z⟩:=IA s p;refine ⟨G*a - b,?_⟩;have k:s % p=s+p*G:=by omega
   rw [k];have C:s*a=1 - p*b:=by omega
   ext
def uA (h:Hk K vs H Q E):RV K { nx:=λ_ v=>Q .non v,rt:=Q } (L2.start ["row","prime","factor"] vs) H:=by
 obtain ⟨q,a,p,rfl,g,o,u,w,x,b,k⟩:=h;have A:(2:Int)<=(p:Int):=by have:=o.two;omega
 unfold RV;rwa [g];by_cases d:a=[]
 ·subst d;refine Ap (λ_=>?_) (λc=>absurd rfl c);refine ⟨sz ∅,λr j=>k r [] 0 _ (AQ j _) upd_same rfl (λz=>absurd rfl z) ⟨λz b=>(by cases b),λi=>?_⟩⟩;show (p:Int)∣co [] i - 0*co [] i;rw [Ah (Ae _)];exact ⟨0,⋯⟩
 have C:0<a.length:=BI.mpr d;refine Ap (λc=>absurd c (by simpa using d)) (λ_=>?_);have D:=JQ C;rwa [D];refine ⟨A,u,λf G I m=>?_⟩
 have J:co a (a.length - 1)≠0:=by
  rcases x with h | h
  ·exact absurd h d
  ·exact h
 have N:0<=co a (a.length - 1)/\co a (a.length - 1)<(p:Int):=b _ (by
  unfold co;rw [AU,Az ⋯];exact Eh _)
 have L:Int.gcd (co a (a.length - 1)) (p:Int)=1:=o.cop λz=>by
  have:=Ei ⋯ z;omega
 have m:=m L;have B:∀ {z:Int},0<=z->z<(p:Int)->Bd 60000000 z:=λO R=>(u.le ⋯).mono ∅;refine ⟨⟨_,SqL.of g⟩,UA (λn=>n*f % (p:Int)) g w (λn d P M=>?_) λr j=>?_⟩
 ·rwa [];exact ⟨D2 (B (b n d).1 (b n d).2) (B G I),⋯,M⟩
 ·have cm:∀ i,co (a.map λn=>n*f % (p:Int)) i=co a i*f % (p:Int):=λi=>JR (F:=λn=>n*f % (p:Int)) (by simp) a i;refine k r _ f _ (AQ j _) upd_same (AR ..) (λ_=>?_) ⟨λz b=>?_,λi=>?_⟩
  ·rw [AR,cm];obtain ⟨c,S⟩:=m;have e:co a (a.length - 1)*f=1+(p:Int)*c:=by rw [Int.mul_comm];omega
   rw [e,Int.add_mul_emod_self_left];exact Int.emod_eq_of_lt ∅ ⋯
  ·obtain ⟨y,_,rfl⟩:=BR.mp b;exact ⟨Cf _ ⋯,C4 _ ⋯⟩
  ·rw [cm];show (p:Int)∣co a i*f % (p:Int) - f*co a i;rw [Int.mul_comm f];exact IA _ _
def uB (h:KY K vs H Q E):Rc K { nx:=λ_ d=>Q .non d,rt:=Q } (L2.start ["whole","prime","rest"] vs) H:=by
 obtain ⟨w,p,rfl,a,k⟩:=h;unfold Rc;rwa [];have g:=Cf w (show p≠0 by omega);have i:=C4 w a;have b:=IA w p;refine ⟨a,IntMulOk.of_left (intBits_le_64 ⋯ ⋯),Ap (λc=>?_) (λc=>?_)⟩
 ·refine k _ ?_ ⋯;obtain ⟨e,f⟩:=b;exact ⟨e - 1,by rw [Int.mul_sub];omega⟩
 ·exact k _ b ⋯
def uC (h:KU K vs H Q E):Ra K { nx:=λ_ a=>Q .non a,rt:=Q } (L2.start ["row","divisor","modulus"] vs) H:=by
 obtain ⟨p,q,d,e,m,b,rfl,hp,f,g,i,j,n,c,o,u,v,k⟩:=h;unfold Ra;rwa [hp,f];refine ⟨d,rfl,e,rfl,g,i,j,b,n,c,o,u,v,λt r s w x a y z D A F tr B C _=>?_⟩;refine ⟨_,z,?_⟩;rwa [];exact k s w x a y A tr B C
def uD (h:KW K vs H Q E):Rb K { nx:=λ_ P=>Q .non P,rt:=Q } (L2.start ["row","other","prime","rest"] vs) H:=by
 obtain ⟨a,b,ns,ms,p,rfl,ha,hb,pp,Y,hn,hm,h0,k⟩:=h;have p2:(2:Int)<=(p:Int):=by have:=pp.two;omega
 unfold Rb;rwa [ha];refine ⟨ns,rfl,⋯,hn,λc r1 H1 s1 hc a2 l1 w=>?_⟩;refine ⟨r1,p,rfl,hc,pp,Y,⋯,a2,w.1,λd n f H2 s2 hd l2 o2 R=>?_⟩;have a3:=s2 _ _ (s1 _ _ hb);rwa [a3];refine ⟨ms,rfl,⋯,hm,λc' r3 H3 s3 a4 a6 l3 L=>?_⟩;refine ⟨r3,p,rfl,a4,pp,Y,⋯,a6,L.1,λd' r4 f' H4 s4 ab l4 o4 S=>?_⟩;have ac:Same H H4:=((s1.trans s2).trans s3).trans s4;have ad:=(s3.trans s4) _ _ hd
 have I:∀ {g h:dL} {q:dq} {f:Int},Dm (p:Int) g h->Md (p:Int) q (λk=>f*h k)->Dm (p:Int) g (co q):=λ{g h q f} d v=>by
  refine Dm.congr (Dm.less d d f 0 0) λk=>?_;have:=v.2 k;show (p:Int)∣co q k - (f*h k - 0*_);rw [Int.zero_mul,Int.sub_zero];exact this
 have nz:∀ {i q M:dq} {f:Int},(∃ k,¬ (p:Int)∣co i k)->Md (p:Int) q (co i)->M.length=q.length->0<M.length:=λ{i q M f} ⟨k,hk⟩ v e=>by
  rcases Ce M.length with z | z
  ·exfalso;have:=v.2 k;rw [Ah ⋯] at this;have t2:=Int.dvd_neg.mpr this;rw [show ∀ x:Int,-(0 - x)=x by intro x;omega] at t2;exact hk t2
  ·exact z
 have M1:∀ {i q:dq},Md (p:Int) q (co i)->∀ {g:dL},Dm (p:Int) g (co i)->Dm (p:Int) g (co q):=λv g d=>Dm.congr d v.2
 have J:∀ {g:dL} {r n:dq} {f:Int},Md (p:Int) n (λk=>f*co r k)->n.length=r.length->(r≠[]->co n (n.length - 1)=1)->Dm (p:Int) g (co n)->Dm (p:Int) g (co r):=λ{g r n f} v l o d=>by
  by_cases r0:r=[]
  ·exact Dm.zero _ _ λk=>by rw [r0,Ah (Ae _)];exact Cu _
  ·refine Dm.congr (Dm.less d d (co r (r.length - 1)) 0 0) λk=>?_;show (p:Int)∣co r k - (co r (r.length - 1)*co n k - 0*_);rw [Int.zero_mul,Int.sub_zero];have X:=v.2 k;have T:=v.2 (n.length - 1);rw [o r0,l] at T;have q1:(p:Int)∣co r (r.length - 1)*(co n k - f*co r k):=E3 X;have q2:(p:Int)∣co r k*(1 - f*co r (r.length - 1)):=E3 T;refine CL (Int.dvd_sub q2 q1) (FN ?_);ext
 have O:∀ {g:dL} {i r n:dq} {f:Int},Md (p:Int) r (co i)->Md (p:Int) n (λk=>f*co r k)->n.length=r.length->(r≠[]->co n (n.length - 1)=1)->Dm (p:Int) g (co n)->Dm (p:Int) g (co i):=λ{g i r n f} w v l o d=>Dm.congr (J v l o d) λk=>by
  have:=Int.dvd_neg.mpr (w.2 k);refine CL this (FN ?_);omega
 refine FA (λm σ P=>∃ (x y:Addr) (i j:dq) (u:dl),σ=[some (.ref x),some (.ref y),some (.int (p:Int)),u]/\Same H P/\P x=some (.lst (i.map V.int))/\P y=some (.lst (j.map V.int))/\m=j.length/\i.length<=1000/\j.length<=1000/\(0<i.length\/0<j.length)/\(i≠[]->co i (i.length - 1)=1)/\(j≠[]->co j (j.length - 1)=1)/\(∀ z∈i,0<=z/\z<(p:Int))/\(∀ z∈j,0<=z/\z<(p:Int))/\
  (∀ g:dL,Dm (p:Int) g (co ns)->Dm (p:Int) g (co ms)->Dm (p:Int) g (co i)/\Dm (p:Int) g (co j))/\(∀ g:dL,Dm (p:Int) g (co i)->Dm (p:Int) g (co j)->Dm (p:Int) g (co ns)/\Dm (p:Int) g (co ms))) r4.length ⟨d,d',n,r4,none,rfl,ac,ad,ab,rfl,⋯,⋯,?_,?_,?_,R.1,S.1,λg C F=>⟨I (M1 w C) R,I (M1 L F) S⟩,λg C F=>⟨O w R l2 o2 C,O L S l4 o4 F⟩⟩ ?_
 ·rcases h0 with h | h
  ·exact .inl (nz (f:=f) h w l2)
  ·exact .inr (nz (f:=f) h L l4)
 ·intro z;exact o2 λe=>z (CA.mp (by rw [l2,e];rfl))
 ·intro z;exact o4 λe=>z (CA.mp (by rw [l4,e];rfl))
 ·rintro m σ P ⟨x,y,i,j,u,rfl,sH,hx,hy,rfl,xl,yl,ne,ox,oy,bx,bY,hD,hE⟩;rwa [hy];by_cases N:j=[]
  ·subst N;refine Ap (λc=>absurd c (by simp)) (λ_=>?_);have x0:0<i.length:=by simpa using ne
   have Z:Dm (p:Int) (co i) (co i):=⟨[1],λk=>by
    have e:cvL [1] (co i) k=co i k:=by
     cases k with
     | zero=>rw [Ax];omega
     | succ k=>rw [Ar,BE];omega
    rw [e,Int.sub_self];exact Cu _⟩
   have zz:Dm (p:Int) (co i) (co []):=Dm.zero _ _ λk=>by rw [Ah (Ae _)];exact Cu _
   exact k x i P sH hx x0 xl (ox (BI.mp x0)) bx (λg C F=>(hD g C F).1) (hE _ Z zz).1 (hE _ Z zz).2
  ·have y0:0<j.length:=BI.mpr N;refine Ap (λ_=>?_) (λc=>absurd N (by simpa using c));refine ⟨λam an=>∃ m',m'<j.length/\_,λ_ _ h=>h,?_⟩;rwa [hx,hy];have B:∀ z:Int,0<=z->z<(p:Int)->Bd 45000 z:=λz X T=>Y.le ⋯;refine ⟨i,rfl,j,rfl,y0,oy N,⋯,45000,Y,λz hz=>B z (bY z hz).1 (bY z hz).2,∅,xl,yl,λs G q H2 a0 hs aj ao v=>?_⟩
   have U:∀ g:dL,Dm (p:Int) g (co j)->Dm (p:Int) g (co q)->Dm (p:Int) g (co i):=λg C F=>by
    obtain ⟨S1,X⟩:=C;obtain ⟨D,T⟩:=F;refine ⟨A3 D (BW G S1),λk=>?_⟩;rw [Bh,By];have e1:=bV X G k;have m2:(p:Int)∣co q k - (co i k - cvL G (co j) k):=v.2 k;have:=Cr (Int.dvd_sub (T k) m2) e1;refine CL this (FN ?_);omega
   refine ⟨q,p,rfl,hs,pp,Y,⋯,aj,v.1,λt ts f H3 a1 ht lt ot W=>?_⟩;refine ⟨ts.length,⋯,(sH.trans a0).trans a1,j,(a0.trans a1) _ _ hy,ts,ht,rfl,yl,⋯,.inl y0,oy,λz=>ot λe=>z (CA.mp (by rw [lt,e];rfl)),bY,W.1,λg C F=>⟨(hD g C F).2,?_⟩,λg C F=>hE g (U g C (J W lt ot F)) C⟩;obtain ⟨dx,dy⟩:=hD g C F
   have dr:Dm (p:Int) g (co q):=by
    obtain ⟨S1,X⟩:=dx;obtain ⟨D,T⟩:=dy;refine Dm.congr (f:=λk=>co i k - cvL G (co j) k) ⟨A3 S1 ((BW G D).map (-1*·)),λk=>?_⟩ v.2;rw [Bh,BF,By]
    have e:(p:Int)∣cvL G (co j) k - cvL G (cvL D g) k:=by
     have al:∀ (A:dq) (k:Nat),(p:Int)∣cvL A (co j) k - cvL A (cvL D g) k:=by
      intro A
      induction A with
      | nil=>intro k;rw [BE,BE];exact ⟨0,⋯⟩
      | cons a A ih=>
        intro k;rw [Fl,Fl]
        have i2:(p:Int)∣DZ (cvL A (co j)) k - DZ (cvL A (cvL D g)) k:=by
         cases k with
         | zero=>exact ⟨0,by show (0:Int) - 0=_;omega⟩
         | succ k=>exact ih k
        have i1:(p:Int)∣a*(co j k - cvL D g k):=E3 (T k);have:=Cr i1 i2;rw [show a*(co j k - cvL D g k)+(DZ (cvL A (co j)) k - DZ (cvL A (cvL D g)) k)=a*co j k+DZ (cvL A (co j)) k - (a*cvL D g k+DZ (cvL A (cvL D g)) k) by rw [Int.mul_sub];omega] at this;exact this
     exact al G k
    have:=Int.dvd_sub (X k) e;rw [show co i k - cvL S1 g k - (cvL G (co j) k - cvL G (cvL D g) k)=co i k - cvL G (co j) k - (cvL S1 g k + -1*cvL G (cvL D g) k) by omega] at this;exact this
   exact I dr W
abbrev uEi (p q a y:Addr) (L c:Nat) (m:Int) (d g:dq) (H:Hp):Nat->L2.St->Hp->Prop:=λi O n=>i<=c/\∃ (F G:dL) (u v w:dl),O=[some (.ref p),some (.ref q),some (.int m),some (.ref a),some (.int (L:Int)),some (.ref y),u,v,w]/\Same H n/\n a=some (.lst (Ag d.length F))/\n y=some (.lst (Ag c G))/\
  (∀ j,j<c - i->G j=0)/\(∀ k,k<d.length - i->m∣F k - (co d k - cvL ((List.range c).map G) (co g) k))/\(∀ k,d.length - i<=k->m∣co d k - cvL ((List.range c).map G) (co g) k)/\(∀ j,j<c->0<=G j/\G j<m)
def uE (h:KT K vs H Q E):xK K { nx:=λ_ H'=>Q .non H',rt:=Q } (L2.start ["row","divisor","modulus","rest","last","quotient","shift","weight","place"] vs) H:=by
 obtain ⟨p,q,d,g,m,b,rfl,hp,hq,m0,ml,mp,bm,a2,bb,hn,hm,kR⟩:=h;obtain ⟨L,hL⟩:∃ L,g.length=L+1:=⟨g.length - 1,⋯⟩;have a3:g.length - 1=L:=by omega
 rw [a3] at ml;generalize hc:d.length - L=c;refine BC (Gf (AO rfl ⟨_,_,rfl,hp,λa ha=>?_⟩));have sa:=AQ ha (.lst (d.map V.int));have a4:=sa _ _ hp;have a6:=sa _ _ hq;have ab:((List.map V.int g).length:Int) - 1=(L:Int):=by rw [AR];omega
 refine ⟨_,rfl,_,_,rfl,a6,_,_,rfl,rfl,?_⟩;show RZ K _ [some (.ref p),some (.ref q),some (.int m),some (.ref a),some (.int (((List.map V.int g).length:Int) - 1)),none,none,none,none] _;rw [ab];refine BC (A6 (KI (L_ ⟨Cj,λx hx=>?_⟩)));have ac:=AQ hx (.lst [.int 0]) _ _ a4
 have T:(if (0:Int) > ((List.map V.int d).length:Int) - (L:Int) then (0:Int) else ((List.map V.int d).length:Int) - (L:Int))=(c:Int):=by
  rw [AR];split <;> omega
 refine ⟨_,rfl,_,_,rfl,ac,_,rfl,_,_,rfl,rfl,_,_,rfl,?_⟩;refine ⟨_,(c:Int),_,rfl,congrArg V.int T,upd_same,⋯,⋯,sz (by simp;omega),λy hy=>?_⟩;refine Mg ha hx hy λH1 U W sH X ad=>?_;rw [Kx d] at U;rw [DR,NC] at W;have al:=sH _ _ hp;have am:((List.map V.int d).length:Int) - (L:Int) - 1=(d.length:Int) - (L:Int) - 1:=by rw [AR]
 have an:((d.length:Int) - (L:Int) - 1 - -1).toNat=c:=by omega
 refine Qa ?_;refine ⟨_,rfl,_,_,rfl,al,_,rfl,_,_,rfl,rfl,_,_,rfl,rfl,_,rfl,_,rfl,(d.length:Int) - (L:Int) - 1,_,by rw [<-am],⟨⋯,⋯,∅,∅⟩,?_⟩;rw [an];clear an am T ab
 refine ForJ.down (uEi p q a y L c m d g H) ⟨Ae _,co d,λ_=>0,none,none,none,rfl,sH,U,W,λ_ _=>rfl,λk _=>by rw [Kw];exact ⟨0,⋯⟩,λk hk=>by rw [Kw,Ah ⋯];exact ⟨0,⋯⟩,λk _=>⟨Int.le_refl 0,mp⟩⟩ ?_ ?_
 ·rintro i O n hi ⟨_,F,G,u,v,w,rfl,s2,I,J,hG,hF,P,bG⟩;have b2:=s2 _ _ hq;have ic:i<c:=hi;have ao:((d.length:Int) - (L:Int) - 1 - (i:Int))=((c - 1 - i:Nat):Int):=by omega
  rw [ao];clear ao;generalize hs:c - 1 - i=s;have b3:s+L+1+i=d.length:=by omega
  replace hs:s+1+i=c:=by omega
  replace hc:d.length=L+c:=by omega
  have aT:N_ (Ag d.length F) ((s:Int)+(L:Int))=some (V.int (F (s+L))):=Dl (j:=s+L) ⋯ (CO F ⋯);refine ⟨_,rfl,_,rfl,_,rfl,_,_,rfl,rfl,_,_,_,_,rfl,rfl,I,aT,_,rfl,_,_,rfl,rfl,mp,?_⟩;show RX K _ [some (.ref p),some (.ref q),some (.int m),some (.ref a),some (.int (L:Int)),some (.ref y),some (.int (s:Int)),some (.int (F (s+L) % m)),w] n;have w0:=Cf (F (s+L)) (show m≠0 by omega);have w1:=C4 (F (s+L)) mp;have wd:=IA (F (s+L)) m;generalize hw:F (s+L) % m=f at w0 w1 wd ⊢;have ar:Bd b f:=bm.le ⋯;refine ⟨_,rfl,_,rfl,_,rfl,_,_,_,s,rfl,rfl,J,by rw [CK];exact Fz rfl ⋯,?_⟩;show RW K _ [some (.ref p),some (.ref q),some (.int m),some (.ref a),some (.int (L:Int)),some (.ref y),some (.int (s:Int)),some (.int f),w] (upd n y (.lst ((Ag c G).set s (V.int f))));rw [show (Ag c G).set s (V.int f)=Ag c (λj=>if j=s then f else G j) from Gs ⋯ (kA rfl) λj _ R=>lZ R];have s3:Same H (upd n y (.lst (Ag c λj=>if j=s then f else G j))):=λz o h=>Kp.upd z o (B5 h ad) (s2 z o h);have A:(upd n y (.lst (Ag c λj=>if j=s then f else G j))) a=_:=(A8 X).trans I;have S:(upd n y (.lst (Ag c λj=>if j=s then f else G j))) y=_:=upd_same;generalize (upd n y (.lst (Ag c λj=>if j=s then f else G j)))=H3 at s3 A S ⊢;have Y:∀ k,cvL ((List.range c).map λj=>if j=s then f else G j) (co g) k=cvL ((List.range c).map G) (co g) k+f*Ay s (co g) k:=λk=>T9 ⋯ (hG s ⋯) _ k
  have Z:∀ (F':dL) (u v w:dl) (C:Hp),Same H C->C a=some (.lst (Ag d.length F'))->C y=some (.lst (Ag c λj=>if j=s then f else G j))->(∀ k,k<d.length->F' k=F k - (if s<=k/\k - s<L then f*co g (k - s) else 0))->
    (uEi p q a y L c m d g H) (i+1) [some (.ref p),some (.ref q),some (.int m),some (.ref a),some (.int (L:Int)),some (.ref y),u,v,w] C:=λF' u v w C M B D eF=>by
   refine ⟨⋯,F',_,u,v,w,rfl,M,B,D,λj R=>?_,λk hk=>?_,λk hk=>?_,λj R=>?_⟩
   ·show (if j=s then f else G j)=0;rw [lZ ⋯];exact hG j ⋯
   ·have hf:=hF k ⋯;rw [eF k ⋯,Y];unfold Ay;by_cases h:s<=k
    ·rw [kA h,kA ⟨h,⋯⟩];rw [show ∀ x y z w:Int,x - y - (z - (w+y))=x - (z - w) by intro x y z w;omega];exact hf
    ·rw [lZ h,lZ ⋯];rw [show ∀ x z w:Int,x - 0 - (z - (w+f*0))=x - (z - w) by intro x z w;omega];exact hf
   ·rw [Y];by_cases ek:k=s+L
    ·have hf:=hF k ⋯;rw [ek] at hf ⊢;unfold Ay;rw [kA ⋯,show s+L - s=L by omega,ml];obtain ⟨α,b4⟩:=hf;obtain ⟨β,b5⟩:=wd;exact ⟨-α - β,by rw [Int.mul_sub,Int.mul_neg];omega⟩
    ·have N:=P k ⋯;unfold Ay;by_cases h:s<=k
     ·rw [kA h,Ah (a:=g) ⋯,Int.mul_zero,Int.add_zero];exact N
     ·rw [lZ h,Int.mul_zero,Int.add_zero];exact N
   ·show 0<=(if j=s then f else G j)/\(if j=s then f else G j)<m;split
    ·exact ⟨w0,w1⟩
    ·exact bG j R
  refine ⟨_,rfl,rfl,_,rfl,Ap (λcw=>?_) (λcw=>?_)⟩
  ·refine ⟨_,rfl,_,rfl,⋯,⋯,?_⟩;rw [DR];refine ForR.by (λj O C=>∃ (u:dl),O=[some (.ref p),some (.ref q),some (.int m),some (.ref a),some (.int (L:Int)),some (.ref y),some (.int (s:Int)),some (.int f),u]/\Same H C/\C a=some (.lst (Ag d.length λk=>F k - (if s<=k/\k - s<j then f*co g (k - s) else 0)))/\C y=some (.lst (Ag c λj=>if j=s then f else G j))) ⟨w,rfl,s3,?_,S⟩ ?_ ?_
   ·rw [A];exact congrArg (λl=>some (HO.lst l)) (Gu λk _=>by rw [lZ ⋯];omega)
   ·rintro j O C R ⟨u',rfl,M,B,D⟩;have az:=M _ _ hq;have aj:N_ (g.map V.int) (0+(j:Int))=some (V.int (co g j)):=Dl (j:=j) ⋯ (by rw [Kx];exact CO _ ⋯);refine ⟨_,rfl,_,rfl,_,rfl,_,_,rfl,rfl,_,_,_,_,rfl,rfl,B,Dl (j:=s+j) ⋯ (CO _ ⋯),_,rfl,_,rfl,_,rfl,_,_,_,_,rfl,rfl,az,aj,_,_,rfl,rfl,D2 ar (D3 a2 j),_,_,rfl,rfl,_,_,_,s+j,rfl,rfl,B,by rw [CK];exact Fz ⋯ ⋯,?_⟩;refine ⟨_,rfl,?_,?_,?_⟩
    ·intro z o h;exact Kp.upd z o (B5 h ha) (M z o h)
    ·refine upd_same.trans (congrArg (λl=>some (HO.lst l)) (Gs ⋯ ?_ λk _ hk=>?_))
     ·rw [kA ⋯,lZ ⋯,show s+j - s=j by omega];omega
     ·by_cases h:s<=k/\k - s<j
      ·rw [kA h,kA ⋯]
      ·rw [lZ h,lZ ⋯]
    ·rw [A8 (Ne.symm X)];exact D
   ·rintro O C ⟨u',rfl,M,B,D⟩;exact Z _ _ _ _ _ M B D λk _=>rfl
  ·have b0:f=0:=by simpa using cw
   exact Z F _ _ _ _ s3 A S λk _=>by rw [b0];split <;> omega
 ·rintro O n ⟨_,F,G,u,v,w,rfl,s2,I,J,hG,hF,P,bG⟩;have hmn:d.length - c=min L d.length:=by omega
  clear hc;rw [JP] at J;show RY K _ _ _;refine Bt (CJ (Ca ⟨_,rfl,_,_,rfl,J,λt ht=>?_⟩));have st:=AQ ht (.lst (List.map V.int (C1 (List.map G (List.range c)))));have A:=st _ _ I;have a0:upd n t (.lst (List.map V.int (C1 (List.map G (List.range c))))) t=_:=upd_same;generalize upd n t (.lst (List.map V.int (C1 (List.map G (List.range c)))))=H3 at st A a0 ⊢;refine Af ⟨_,rfl,_,rfl,_,rfl,_,_,rfl,A,λz hz=>⟨_,rfl,z,(List.range (min L d.length)).map F,m,rfl,by rw [NP];exact upd_same,mp,by rw [AR,BL];omega,λr rs C M b1 tr lr md=>?_⟩⟩;have a1:=(AQ hz _).trans M;rw [AR,BL] at lr;refine ⟨Bi,λe he=>?_⟩;have se:=AQ he (.tup [.ref t,.ref r])
  have cq:∀ k,cvL (C1 ((List.range c).map G)) (co g) k=cvL ((List.range c).map G) (co g) k:=λk=>by
   rw [Bz,BJ (λj=>NO _ j) g k,<-Bz]
  refine kR e t r _ rs _ ((s2.trans st).trans (a1.trans se)) upd_same (se _ _ (a1 _ _ a0)) (se _ _ b1) (NM _) tr ⋯ ⟨md.1,λk=>?_⟩ λz hz=>?_
  ·have:=md.2 k;rw [KC] at this;show m∣co rs k - (co d k - cvL (C1 ((List.range c).map G)) (co g) k);rw [cq];by_cases hk:k<min L d.length
   ·rw [kA hk] at this;have N:=Cr this (hF k ⋯);rw [show ∀ x y z:Int,x - y+(y - z)=x - z by intro x y z;omega] at N;exact N
   ·rw [lZ hk] at this;have N:=Int.dvd_sub this (P k ⋯);rw [show ∀ x y:Int,x - 0 - y=x - y by intro x y;omega] at N;exact N
  ·obtain ⟨j,R,rfl⟩:=BR.mp (UB hz);exact bG j (Ec.mp R)
theorem SDs.tp {H a:Hp} (s:Same H a):∀ {xs:dj} {b:List (dq)},SDs H xs b->SDs a xs b
 | [],[],_=>trivial
 | _::_,_::_,h=>⟨let ⟨p,e,q⟩:=h.1;⟨p,e,s _ _ q⟩,SDs.tp s h.2⟩
 | [],_::_,h=>h.elim
 | _::_,[],h=>h.elim
def SD.tp {H a:Hp} (s:Same H a) {p:Addr} {b:List (dq)} (h:SD H p b):SD a p b:=let ⟨c,e,q⟩:=h;⟨c,s _ _ e,q.tp s⟩
theorem SDs.length {H:Hp}:∀ {xs:dj} {a:List (dq)},SDs H xs a->xs.length=a.length
 | [],[],_=>rfl
 | _::_,_::_,h=>congrArg (·+1) (SDs.length h.2)
 | [],_::_,h=>h.elim
 | _::_,[],h=>h.elim
theorem SDs.get {H:Hp}:∀ {xs:dj} {a:List (dq)} {i:Nat} {v:V},SDs H xs a->xs[i]?=some v->∃ p r,v=.ref p/\a[i]?=some r/\H p=some (.lst (r.map V.int))
 | [],[],_,_,_,e=>by simp at e
 | _::_,r::_,0,_,h,e=>by
   simp at e;subst e;obtain ⟨p,e,q⟩:=h.1;exact ⟨p,r,e,rfl,q⟩
 | _::_,_::_,i+1,_,h,e=>by
   obtain ⟨p,r,b,c,d⟩:=SDs.get (i:=i) h.2 (by simpa using e);exact ⟨p,r,b,by simpa using c,d⟩
 | [],_::_,_,_,h,_=>h.elim
 | _::_,[],_,_,h,_=>h.elim
theorem SDs.snoc {H:Hp} {p:Addr} {r:dq} (hp:H p=some (.lst (r.map V.int))):∀ {xs:dj} {a:List (dq)},SDs H xs a->SDs H (xs++[.ref p]) (a++[r])
 | [],[],_=>⟨⟨p,rfl,hp⟩,trivial⟩
 | _::_,_::_,h=>⟨h.1,SDs.snoc hp h.2⟩
 | [],_::_,h=>h.elim
 | _::_,[],h=>h.elim
theorem SD.head {H:Hp} {p:Addr} {r:dq} {c:List (dq)} (h:SD H p (r::c)):∃ a b,H p=some (.lst (.ref a::b))/\H a=some (.lst (r.map V.int))/\SDs H (.ref a::b) (r::c):=by
 obtain ⟨b,e,q⟩:=h
 match b,q with
 | [],q=>exact q.elim
 | x::b,q=>
   obtain ⟨a,d,f⟩:=q.1;subst d;exact ⟨a,b,e,f,q⟩
def IB {a:Type} (x:a) (xs:List a):N_ (x::xs) 0=some x:=by
 unfold N_ ak;rw [kA ∅,kA (by rw [CB];omega)];rfl
def uF (h:Iy K vs H Q E):Q9 K { nx:=λ_ A=>Q .non A,rt:=Q } (L2.start ["strand","shared","row"] vs) H:=by
 obtain ⟨p,b,rfl,⟨I,hp,O⟩,hl,D,k⟩:=h;have Z:=O.length;unfold Q9;rwa [];refine ⟨⟨_,SqL.of hp⟩,ForL.by (xs:=I) (λi J A=>∃ (g:Int) (u:dl),J=[some (.ref p),some (.int g),u]/\Same H A/\0<=g/\(∀ r∈b.take i,∀ z∈r,g∣z)/\(∀ d:Int,(∀ r∈b.take i,∀ z∈r,d∣z)->d∣g)) ⟨0,none,rfl,Same.refl H,Int.le_refl 0,λr D=>(by simp at D),λd _=>Cu d⟩ ?_ ?_ ?_⟩
 ·rintro i J A _ ⟨g,u,rfl,s,_⟩;exact SqL.of (s _ _ hp)
 ·rintro i x J A P ⟨g,u,rfl,s,g0,B,L⟩;obtain ⟨a,r,rfl,j,R⟩:=O.get P;have v:=s _ _ R;have w:=D r (Bj j);rwa [v];refine ⟨r,rfl,w.1,λg' C n S d1 d2 d3=>?_⟩;have F:b.take (i+1)=b.take i++[r]:=by rw [FW,j];rfl
  refine ⟨s.trans n,S,λT o z m=>?_,λd M=>d3 d ?_ λz m=>?_⟩
  ·rw [F] at o;rcases EA.mp o with h | h
   ·exact CL d1 (B T h z m)
   ·rw [B7.mp h] at m;exact d2 z m
  ·exact L d λT o z m=>M T (by rw [F];exact List.mem_append_left _ o) z m
  ·exact M r (by rw [F];exact DQ _ (B7.mpr rfl)) z m
 ·rintro J A ⟨g,u,rfl,s,g0,B,L⟩;rw [Z,DS] at B L;have U:=s _ _ hp
  have gz:∀ r∈b,0<g\/r=[]:=λr f=>by
   rcases Int.lt_or_le 0 g with h | h
   ·exact .inl h
   ·right;have G:g=0:=by omega
    rcases (D r f).2 with h | h
    ·exact h
    ·exfalso;by_cases a0:r.length=0
     ·rw [Ah ⋯] at h;exact h rfl
     ·have:=B r f (co r (r.length - 1)) (by
       unfold co;rw [AU,Az ⋯];exact Eh _)
      rw [G] at this;exact h (Int.zero_dvd.mp this)
  rwa [];refine ⟨⟨_,SqL.of U⟩,CompJ.lst (xs:=I) (λi y C=>i<=b.length/\Same H C/\SDs C y ((b.take i).map λr=>r.map (·/ g))) ⟨Ae _,s,trivial⟩ ?_ ?_ ?_⟩
  ·rintro i y C ⟨W,n,q⟩;refine ⟨⋯,sz ?_,SqL.of (n _ _ hp)⟩;rw [q.length,AR,Cd];omega
  ·rintro i x y C P ⟨W,n,q⟩;obtain ⟨a,r,rfl,j,R⟩:=O.get P;have v:=n _ _ R;have w:=D r (Bj j);have a1:i<b.length:=(Bw.mp j).1;rwa [v];refine ⟨r,rfl,gz r (Bj j),w.1,λt N=>?_⟩;refine ⟨⋯,n.trans (AQ N _),?_⟩;have F:(b.take (i+1)).map (λr=>r.map (·/ g))=(b.take i).map (λr=>r.map (·/ g))++[r.map (·/ g)]:=by rw [FW,j];simp
   rw [F];exact SDs.snoc upd_same (q.tp (AQ N _))
  ·rintro y C ⟨_,n,q⟩ t N;rw [Z,DS] at q;have st:=AQ N (.lst y);by_cases gp:0<g
   ·refine k t _ _ (n.trans st) ⟨y,upd_same,q.tp st⟩ ⟨g,gp,?_⟩ (.inr λd M=>?_)
    ·rw [List.map_map]
     conv=>lhs;rw [<-List.map_id b]
     refine Ej λr f=>?_;show r=(r.map (·/ g)).map (g*·);rw [List.map_map]
     conv=>lhs;rw [<-List.map_id r]
     refine Ej λz m=>?_;show z=g*(z / g);rw [GN (B r f z m)]
    ·have X:d*g∣g:=L (d*g) λr f z m=>by
      have W:=M (r.map (·/ g)) (BR.mpr ⟨r,f,rfl⟩) (z / g) (BR.mpr ⟨z,m,rfl⟩);obtain ⟨c,Y⟩:=W;refine ⟨c,?_⟩;have:=GN (B r f z m);rw [<-this,Y];ext
     obtain ⟨c,Y⟩:=X
     have e:g*(d*c)=g*1:=by rw [Int.mul_one];conv=>rhs;rw [Y]
                            ext
     have e1:=Int.eq_of_mul_eq_mul_left ⋯ e;have:d.natAbs*c.natAbs=1:=by rw [<-BX,e1];rfl
     exact Nat.eq_one_of_mul_eq_one_right this
   ·have G:∀ r∈b,r=[]:=λr f=>by
     rcases gz r f with h | h
     ·exact absurd h gp
     ·exact h
    have em:b.map (λr=>r.map (·/ g))=b:=by
     conv=>rhs;rw [<-List.map_id b]
     refine Ej λr f=>?_;rw [G r f];rfl
    rw [em] at q;refine k t b _ (n.trans st) ⟨y,upd_same,q.tp st⟩ ⟨1,∅,?_⟩ (.inl G)
    conv=>lhs;rw [<-List.map_id b]
    refine Ej λr f=>?_;rw [G r f];rfl
def uG {r:dq} (h:∀ d:Int,(∀ z∈r,d∣z)->d.natAbs=1):Prim r:=λc a=>h c λz b=>by
 obtain ⟨i,e,rfl⟩:=GI b;have:=a i;unfold co at this;rw [AU,Az e] at this;exact this
theorem uH (h:Hi K vs H Q E):RA K { nx:=λ_ j=>Q .non j,rt:=Q } (L2.start ["row"] vs) H:=by
 obtain ⟨p,u,rfl,hp,x,y,k⟩:=h;unfold RA;rwa [];refine ⟨sz ∅,λa A=>?_⟩;have v:=AQ A (.lst [.ref p]);refine ⟨[u],⟨[V.ref p],upd_same,⟨⟨p,rfl,v _ _ hp⟩,trivial⟩⟩,by simp,?_,λt c j B e m n=>?_⟩
 ·intro r o;rw [B7.mp o];exact ⟨x,y⟩
 obtain ⟨g,C,f⟩:=m
 match c,f,e,n with
 | [q],f,e,n=>
   obtain ⟨b,I,D,F,_⟩:=e.head;have i:u=q.map (g*·):=by simpa using f
   refine ⟨_,D,_,IB _ _,k b q g j (v.trans B) F C i ?_⟩;rcases n with h | h
   ·left;rw [i,h q (B7.mpr rfl)];rfl
   ·right;exact uG λd G=>h d λr o z w=>by rw [B7.mp o] at w;exact G z w
 | [],f,_,_=>simp at f
 | _::_::_,f,_,_=>simp at f
def UC {a b:dq} (c:Tz a) (n:Nat) (h:∀ k,n<=k->co a k=0):a.length<=n:=by
 rcases Av n a.length with z | z
 ·rcases c with e | e
  ·rw [e] at z;simp at z
  ·exact absurd (h _ ⋯) e
 ·exact z
def Gv {n:Nat} {a:dq} (h:∀ k,Bd n (co a k)):∀ z∈a,Bd n z:=λz b=>by
 obtain ⟨i,c,rfl⟩:=GI b;have:=h i;unfold co at this;rw [AU,Az c] at this;exact this
def Gw (g:Int) (a:dq) (k:Nat):co (a.map (g*·)) k=g*co a k:=JR (F:=(g*·)) ⋯ a k
def NQ {g:Int} (b:g≠0) {a:dq} (h:Tz (a.map (g*·))):Tz a:=by
 rcases h with h | h
 ·left;exact List.map_eq_nil_iff.mp h
 ·right;rw [Gw,AR] at h;exact λz=>h (by rw [z];omega)
def NR {n:Nat} {g:Int} (c:0<g) {a:dq} (h:∀ z∈a.map (g*·),Bd n z):∀ z∈a,Bd n z:=λz b=>(h (g*z) (BR.mpr ⟨z,b,rfl⟩)).le (by
 rw [BX];exact HE _ ⋯)
def UD {a b:Int} (c:b≠0) (h:a∣b):a.natAbs<=b.natAbs:=Ei ⋯ (C5.mpr h)
def uI (h:KQ K vs H Q E):Q8 K { nx:=λ_ d=>Q .non d,rt:=Q } (L2.start ["strand","other","shift","top","lead","shared","factor","weight"] vs) H:=by
 obtain ⟨p,q,o,rfl,j,w,J,k⟩:=h;obtain ⟨m,x,hp,f,_⟩:=j.head;obtain ⟨u,y,z,i,_⟩:=w.head;have A:N_ (V.ref m::x) 0=some (V.ref m):=IB _ _;have B:N_ (V.ref u::y) 0=some (V.ref u):=IB _ _;unfold Q8;rwa [];refine FA (λn v d=>v=[some (.ref p),some (.ref q),none,none,none,none,none,none]/\d=H/\n=0) 0 ⟨rfl,rfl,rfl⟩ ?_;rintro n v d ⟨rfl,rfl,rfl⟩;rwa [hp,z,f,i,A,B];refine Ap (λc=>by rw [AR] at c;exfalso;omega) (λ_=>?_);unfold Q7;rwa [];refine ⟨[[]],j,∅,(λr C=>by rw [B7.mp C];exact ⟨∅,.inl rfl⟩),λt a D F b G _=>k t D F ?_⟩;obtain ⟨g,_,e⟩:=G;have I:a.length=1:=by have:=congrArg List.length e;simpa using this.symm
 obtain ⟨r,rfl⟩:∃ r,a=[r]:=List.length_eq_one_iff.mp I;have e:[]=r.map (g*·):=List.head_eq_of_cons_eq e;rw [List.map_eq_nil_iff.mp e.symm] at b;exact b
def Dn {a:dq} (h:Tz a) (b:a≠[]):Lz a:=by
 refine ⟨BI.mpr b,?_⟩;rcases h with e | e
 ·exact absurd e b
 ·exact e
def uJ (h:JA K vs H Q E):RD K { nx:=λ_ b=>Q .non b,rt:=Q } (L2.start ["strand","other","rest"] vs) H:=by
 obtain ⟨p,q,s,o,rfl,m,e,em,k⟩:=h;unfold RD;rwa [];refine FA (λn g b=>(g=[some (.ref p),some (.ref q),none]/\b=H/\n=1)\/∃ (t:Addr) (u:dl),g=[some (.ref q),some (.ref t),u]/\Same H b/\SD b t [[]]/\o≠[]/\n=0) 1 (.inl ⟨rfl,rfl,rfl⟩) ?_;rintro n g b (⟨rfl,rfl,rfl⟩ | ⟨t,u,rfl,r,i,x,rfl⟩)
 ·obtain ⟨v,y,w,d,_⟩:=e.head;have f:N_ (V.ref v::y) 0=some (V.ref v):=IB _ _;rwa [w,d,f];by_cases a:o=[]
  ·refine Ap (λc=>absurd a (by simpa using c)) (λ_=>?_);rw [kA a] at k;exact k p _ (Same.refl _) m
  ·refine Ap (λ_=>?_) (λc=>absurd (by simpa using c) a)
   have A:s=[]:=by
    rcases em with z | z
    ·exact z
    ·exact absurd z a
   rw [lZ a] at k;refine ⟨λB C=>∃ D,D<1/\_,λ_ _ h=>h,?_⟩;rwa [w,d,f];refine Ap (λ_=>k q _ (Same.refl _) e) (λ_=>?_);refine ⟨by rw [<-A];exact m,o,e,BI.mpr a,λt I F i=>?_⟩;exact ⟨0,∅,.inr ⟨F,i,a,rfl⟩⟩
 ·obtain ⟨at',xt,G,j,_⟩:=i.head;have f:N_ (V.ref at'::xt) 0=some (V.ref at'):=IB _ _;rwa [G,j,f];refine Ap (λc=>absurd c (by simp)) (λ_=>?_);rw [lZ x] at k;exact k q _ r (e.tp r)
def uK {b n c:Nat} {r a g:dq} (o:∀ z∈r,Bd b z) (f:r.length<=n) (p:n<2 ^ c) (i:Lz g) (h:∀ k,co r k=cvL a (co g) k):∀ k,Bd (b+n*(2*c+4)) (co a k):=by
 rcases Dz a with z | ⟨d,e,_,j⟩
 ·intro k;rw [z k];exact Cn _
 have m:∀ k,co r k=cvL g (co d) k:=λk=>by rw [h k,Bz,BJ (λk=>(j k).symm) g k]
 have t:co r (d.length - 1+(g.length - 1))≠0:=by rw [m,Bz,JO e i];exact BV e.2 i.2
 have q:d.length<=r.length:=by
  rcases Av (d.length - 1+(g.length - 1)) r.length with c | c
  ·have:=e.1;omega
  ·exact absurd (Ah c) t
 intro k;rw [<-j k];exact JM o ⟨_,t⟩ f (A7 q f) p m k
def uL {G S:dq} (a:Lz G) (h:∀ k,cvL S (co G) k=0) (k:Nat):co S k=0:=(NL a (T:=0) λk _=>h k).1 k (Ae k)
def Gen.Prim {r o:dL} {g:dq} (G:Gen r o g):Prim g:=λc a=>by
 rcases Av c.natAbs 2 with h | h
 ·rcases Ce c.natAbs with z | z
  ·exfalso;have b:c=0:=by omega
   have:=a (g.length - 1);rw [b] at this;exact G.lz.2 (Int.zero_dvd.mp this)
  ·omega
 ·exfalso;obtain ⟨n,d,_⟩:=G.prim h;exact d (Int.natAbs_dvd.mpr (a n))
def uM {R O A B G:dq} (a:Lz G) (b:∀ k,co R k=cvL A (co G) k) (c:∀ k,co O k=cvL B (co G) k) (q:QI (co R) (co O) (co G)):QI (co A) (co B) Aj:=by
 obtain ⟨d,f,U,V,h⟩:=q;refine ⟨d,f,U,V,λk=>?_⟩
 have z:=uL (S:=A3 (A3 (BW U A) (BW V B)) [-d]) a (λk=>by
  rw [Bh,Bh,By,By,<-BJ b,<-BJ c];have:=h k
  have e:cvL [-d] (co G) k = -d*co G k:=by
   cases k with
   | zero=>rw [Ax];omega
   | succ k=>rw [Ar,BE];omega
  rw [e,Int.neg_mul,this];omega) k
 rw [Cz,Bh,Bh,By,By,<-BJ (Cz A),<-BJ (Cz B)] at z
 have e:cvL [-d] Aj k = -d*Aj k:=by
  cases k with
  | zero=>rw [Ax];omega
  | succ k=>rw [Ar,BE];omega
 rw [e,Int.neg_mul] at z;omega
def uN (p:Nat) (d:0<p) (S:dq):(∀ k,(p:Int)∣co S k)\/∃ T,Lz T/\(∀ k,(p:Int)∣co S k - co T k)/\¬ (p:Int)∣co T (T.length - 1):=by
 have cm:∀ k,co (S.map (·% (p:Int))) k=co S k % (p:Int):=λk=>JR (F:=(·% (p:Int))) (Int.zero_emod _) S k;rcases Dz (S.map (·% (p:Int))) with z | ⟨T,a,_,b⟩
 ·exact .inl λk=>Int.dvd_of_emod_eq_zero (by rw [<-cm k];exact z k)
 ·refine .inr ⟨T,a,λk=>?_,λh=>?_⟩
  ·rw [b,cm];exact ⟨co S k / p,by have:=Int.emod_add_mul_ediv (co S k) p;omega⟩
  ·have c:=b (T.length - 1);rw [cm] at c;have e:=Cf (co S (T.length - 1)) (show (p:Int)≠0 by omega);have f:=C4 (co S (T.length - 1)) (show (0:Int)<p by omega);have:=a.2;have l:=Int.le_of_dvd ⋯ h;omega
def cvT {p:Int} {S T:dq} {g:dL} {n:Nat} (a:∀ i,n<=i->g i=0) (h:∀ k,p∣co S k - co T k) (k:Nat):p∣cvL S g k - cvL T g k:=by
 have e:∀ k,g k=co ((List.range n).map g) k:=λk=>by
  rw [KC];split
  ·rfl
  ·exact a k ⋯
 rw [BJ e,BJ e,Bz,Bz T]
 have:=bV (S:=[1]) (f:=co S) (g:=co T) (λk=>by
  have d:cvL [1] (co T) k=co T k:=by
   cases k with
   | zero=>rw [Ax];omega
   | succ k=>rw [Ar,BE];omega
  rw [d];exact h k) ((List.range n).map g) k
 rwa [BJ (b:=cvL [1] (co T)) (c:=co T) (λk=>by
  cases k with
  | zero=>rw [Ax];omega
  | succ k=>rw [Ar,BE];omega)] at this
def UE {p:Nat} (hp:Pr p) {R A G a T:dq} (b:∀ k,co R k=cvL A (co G) k) (m:Lz G) (c:¬ (p:Int)∣co G (G.length - 1)) (f:∀ k,(p:Int)∣co a k - cvL T (co G) k) (d:Dm (p:Int) (co a) (co R)):Dm (p:Int) (co T) (co A):=by
 obtain ⟨X,g⟩:=d;refine ⟨X,λk=>?_⟩
 have z:=KA hp c (λi n=>by rw [Ah ⋯];exact Cu _) (A3 A ((BW X T).map ((-1)*·))) (λk _=>by
  rw [Bh,BF,By,<-b];have h:=g k;have j:=bV f X k;have:=Cr h j;refine CL this (FN ?_);omega)
 have e:co A k - cvL X (co T) k=co (A3 A ((BW X T).map ((-1)*·))) k:=by
  rw [Cz (A3 A _),Bh,BF,By,<-Cz,<-BJ (Cz T)];omega
 rw [e];exact Tv z k
def uO {x e c M p N:Nat} (b:x<2 ^ (c+1)) (d:N<=M) (a:2 ^ ((e+c+2)*M)<p):(2*(x*2 ^ e)) ^ N<p:=by
 have f:2*(x*2 ^ e)<=2 ^ (e+c+2):=by
  have:x*2 ^ e<=2 ^ (c+1)*2 ^ e:=Bk _ (CU b);have g:2 ^ (e+c+2)=2*(2 ^ (c+1)*2 ^ e):=by rw [<-C3,show e+c+2=(c+1+e)+1 by omega,CV];omega
  omega
 refine DI ?_ a;rw [Nat.pow_mul];exact A7 (Nat.pow_le_pow_left f N) (Ed (Nat.pow_pos ∅) d)
theorem UF (g:dL):∀ k,cvL [1] g k=g k
 | 0=>by rw [Ax];omega
 | k+1=>by rw [Ar,BE];omega
def uP {ns u b m G:dq} {p c e N:Nat} {d:Int} (hp:Pr p) (ln:Lz ns) (lm:Lz u) (fn:Fi e ns) (fm:Fi e u) (hc:ns.length+u.length<2 ^ (c+1)) (hN:ns.length+u.length<=N+2) (n2:2<=N) (W:2 ^ ((e+c+2)*N)<p)
  (I:((Int.gcd (co ns (ns.length - 1)) (co u (u.length - 1)):Nat):Int)=d) (X:Gen (co ns) (co u) G) (r0:0<b.length) (one:co b (b.length - 1)=1) (am:G.length<=b.length) (pG:¬ (p:Int)∣co G (G.length - 1)) (dG:Dm (p:Int) (co G) (co b)) (dn:Dm (p:Int) (co b) (co ns)) (dm:Dm (p:Int) (co b) (co u))
  (gl:m.length=b.length) (hg:∀ k,k<b.length->(p:Int)∣co m k - d*co b k) (hb:∀ z∈m,2*z.natAbs<=p):MQ (co m) (co ns)/\MQ (co m) (co u):=by
 have p2:=hp.two;have P:=X.Prim;have C:=X.lz;obtain ⟨A,J⟩:=T_ P X.rc.left;obtain ⟨B,U⟩:=T_ P X.rc.right;have Y:=fn G A (λk=>by rw [J k,Bz]);have bB:=fm G B (λk=>by rw [U k,Bz]);have bG:=fn A G J;have ac:=fn [1] ns (λk=>(UF _ k).symm);have ad:=uM C J U X.qi;obtain ⟨S,hS⟩:=dG;have p0:0<p:=by omega
 have D:¬ (p:Int)∣(1:Int):=λz=>by have:=Int.le_of_dvd ∅ z;omega
 rcases uN p p0 S with z | ⟨T,lT,hT,pT⟩
 ·exfalso;have o:=hS (b.length - 1);have r:=cvT (p:=(p:Int)) (S:=S) (T:=[]) (g:=co G) (n:=G.length) (λi L=>Ah L) (λk=>by rw [Ah (a:=[]) (Ae _),Int.sub_zero];exact z k) (b.length - 1);rw [one] at o;rw [BE,Int.sub_zero] at r;have:=Cr o r;rw [Int.sub_add_cancel] at this;exact D this
 have v:∀ k,(p:Int)∣co b k - cvL T (co G) k:=λk=>by
  have:=Cr (hS k) (cvT (λi L=>Ah L) hT k (g:=co G) (n:=G.length));refine CL this (FN ?_);omega
 have t0:=lT.1;have g0:=C.1
 have tl:T.length+G.length=b.length+1:=by
  have tp:=JO lT C
  have np:¬ (p:Int)∣co T (T.length - 1)*co G (G.length - 1):=λz=>by
   rcases hp.mulI z with q | q
   ·exact pT q
   ·exact pG q
  have o:=v (T.length - 1+(G.length - 1));rw [tp] at o
  have c1:T.length - 1+(G.length - 1)<b.length:=by
   rcases Av (T.length - 1+(G.length - 1)) b.length with c | c
   ·exact c
   ·exfalso;rw [Ah c,Int.zero_sub] at o;exact np (Int.dvd_neg.mp o)
  have r:=v (b.length - 1);rw [one] at r;rcases Av (T.length - 1+(G.length - 1)) (b.length - 1) with c | c
  ·exfalso;rw [Et (n:=G.length) (λi L=>Ah L) T _ ⋯,Int.sub_zero] at r;exact D r
  ·omega
 have Z:=UE hp J C pG v dn;have a1:=UE hp U C pG v dm
 have f:∀ {R A:dq},Lz R->(∀ k,co R k=cvL A (co G) k)->(∀ k,Bd e (co A k))->∃ j,Lz j/\j.length<=R.length/\co j=co A:=λ{R A} lR h _=>by
  rcases Dz A with z | ⟨j,F,_,ea⟩
  ·exact absurd (by rw [h,Bz,Fr G z]) lR.2
  ·refine ⟨j,F,?_,funext ea⟩
   have t:co R (j.length - 1+(G.length - 1))≠0:=by
    rw [h,Bz,BJ (λk=>(ea k).symm) G,<-Bz,JO F C];exact BV F.2 C.2
   rcases Av (j.length - 1+(G.length - 1)) R.length with c | c
   ·have:=F.1;omega
   ·exact absurd (Ah c) t
 obtain ⟨j,lA,An,eA⟩:=f ln J Y;obtain ⟨B',lB,Bn,eB⟩:=f lm U bB
 have an:2 ^ e<p:=DI (Ed ∅ (by
  have:(e+c+2)*1<=(e+c+2)*N:=CM _ ⋯;omega)) W
 have T1:T.length=1:=by
  rcases Av T.length 2 with cT | cT
  ·omega
  ·exfalso
   have w:∀ {A:dq},Lz A->(∀ k,Bd e (co A k))->Dm (p:Int) (co T) (co A)->2<=A.length:=λ{A} lA Y dA=>by
    have:=Dm.len hp t0 pT dA ⟨A.length - 1,λz=>by
     have o:=Y (A.length - 1);have r:=C5.mpr z;have h3:=Ei (by have:=lA.2;omega) r;rw [Ct] at h3;have:(co A (A.length - 1)).natAbs<2 ^ e:=o;omega⟩
    omega
   have a2:=w lA (λk=>by rw [eA];exact Y k) (by rw [eA];exact Z);have b2:=w lB (λk=>by rw [eB];exact bB k) (by rw [eB];exact a1);refine cA hp lA lB (by rw [eA,eB];exact ad) (λk=>by rw [eA];exact Y k) (λk=>by rw [eB];exact bB k) a2 b2 cT pT (by rw [eA];exact Z) (by rw [eB];exact a1) (uO (x:=j.length+B'.length) (c:=c) (M:=N) ⋯ ⋯ W)
 obtain ⟨s,rfl⟩:∃ s,T=[s]:=by
  match T,T1 with
  | [s],_=>exact ⟨s,rfl⟩
 have a3:∀ k,(p:Int)∣co b k - s*co G k:=λk=>by
  have:=v k
  have e1:cvL [s] (co G) k=s*co G k:=by
   cases k with
   | zero=>rw [Ax];omega
   | succ k=>rw [Ar,BE];omega
  rwa [e1] at this
 have lr:G.length=b.length:=by simp at tl;omega
 have a4:∀ {R A:dq},(∀ k,co R k=cvL A (co G) k)->Lz R->co G (G.length - 1)∣co R (R.length - 1):=λ{R A} h lR=>by
  rcases Dz A with z | ⟨j,F,_,ea⟩
  ·exact absurd (by rw [h,Bz,Fr G z]) lR.2
  ·have hh:∀ k,co R k=cvL j (co G) k:=λk=>by rw [h,Bz,BJ (λk=>(ea k).symm) G,<-Bz]
   have tp:=JO F C;have a0:=F.1
   have rl:R.length - 1=j.length - 1+(G.length - 1):=by
    rcases Nat.lt_trichotomy (R.length - 1) (j.length - 1+(G.length - 1)) with c | c | c
    ·exfalso;have:=hh (j.length - 1+(G.length - 1));rw [Ah (by have:=lR.1;omega),tp] at this;exact BV F.2 C.2 this.symm
    ·exact c
    ·exfalso;have:=hh (R.length - 1);rw [Et (n:=G.length) (λi L=>Ah L) j _ ⋯] at this;exact lR.2 this
   rw [rl,hh,tp];exact Int.dvd_mul_left _ _
 obtain ⟨t,ht⟩:co G (G.length - 1)∣d:=by rw [<-I];exact Int.dvd_coe_gcd (a4 J ln) (a4 U lm)
 have O:d≠0:=λz=>by
  rw [<-I] at z;have:Int.gcd (co ns (ns.length - 1)) (co u (u.length - 1))=0:=by omega
  exact ln.2 (Int.gcd_eq_zero_iff.mp this).1
 have aj:t≠0:=λz=>O (by rw [ht,z,Int.mul_zero])
 have bt:t.natAbs<2 ^ e:=by
  have o:d∣co ns (ns.length - 1):=by rw [<-I];exact Ey ..
  have r:=CL (show t∣d from ⟨co G (G.length - 1),by rw [ht,Int.mul_comm]⟩) o;have h3:=Ei (by have:=ln.2;omega) (C5.mpr r);have h4:(co ns (ns.length - 1)).natAbs<2 ^ e:=ac _;omega
 have al:∀ k,co m k=t*co G k:=λk=>by
  rcases Av k b.length with ck | ck
  ·have o:=hg k ck;have r:=a3 k;have h3:=a3 (b.length - 1);rw [one,<-lr] at h3
   have dv:(p:Int)∣co m k - t*co G k:=by
    have q1:(p:Int)∣d*(co b k - s*co G k):=E3 r;have q2:(p:Int)∣(t*co G k)*(1 - s*co G (G.length - 1)):=E3 h3;have:=Int.dvd_sub (Cr o q1) q2;refine CL this (FN ?_);rw [ht];ext
   have b1:2*(co m k).natAbs<=p:=by
    have:co m k∈m:=by
     unfold co;rw [AU,Az ⋯];exact Eh _
    exact hb _ this
   have b2:2*(t*co G k).natAbs<p:=by
    rw [BX];have h5:t.natAbs*(co G k).natAbs<=2 ^ e*2 ^ e:=B4 (CU bt) (CU (bG k))
    have h6:2*(2 ^ e*2 ^ e)<=2 ^ ((e+c+2)*N):=by
     rw [<-C3,show 2*2 ^ (e+e)=2 ^ (e+e+1) by rw [CV];omega];refine Ed ∅ ?_;have:(e+c+2)*2<=(e+c+2)*N:=CM _ ⋯;omega
    omega
   obtain ⟨y,hy⟩:=dv;have ab:(co m k - t*co G k).natAbs<p:=by
    refine Nat.lt_of_le_of_lt (Int.natAbs_sub_le _ _) ?_;revert b1 b2;generalize (co m k).natAbs=x1;generalize (t*co G k).natAbs=x2;intro h1 h2;omega
   rcases Int.lt_trichotomy y 0 with z | z | z
   ·have:(p:Int)*y<=(p:Int)*(-1):=IK ⋯ ⋯;omega
   ·rw [z] at hy;omega
   ·have:(p:Int)*1<=(p:Int)*y:=IK ⋯ ⋯;omega
  ·rw [Ah ⋯,Ah (a:=G) ⋯];omega
 have a6:∀ {R A:dq},(∀ k,co R k=cvL A (co G) k)->MQ (co m) (co R):=λ{R A} h=>⟨t,aj,A,λk=>by rw [BJ al,DD,h k]⟩;exact ⟨a6 J,a6 U⟩
def UG {g f:dq} {A:dq} (h:∀ k,co f k=cvL A (co g) k):MQ (co g) (co f):=⟨1,∅,A,λk=>by rw [<-h k];omega⟩
def uQ (h:KZ K vs H Q E):Re K { nx:=λ_ M=>Q .non M,rt:=Q } (L2.start ["row","other","prime","lead","found","guess"] vs) H:=by
 obtain ⟨a,b,o,v,p,d,O,W,NN,rfl,ha,hb,N,bp,P,lm,bn,bm,dn,dm,fn,fm,nc,hN,ab,kN,kR⟩:=h;have p2:(2:Int)<=(p:Int):=by have:=N.two;omega
 unfold Re;have an:=JQ P.1;have am:=JQ lm.1;rwa [ha,hb,an,am];generalize I:((Int.gcd (co o (o.length - 1)) (co v (v.length - 1)):Nat):Int)=j;have X:j∣co o (o.length - 1):=by rw [<-I];exact Ey ..
 have bl:Bd d j:=(D3 bn (o.length - 1)).le (UD P.2 X);refine ⟨⋯,Ap (λc=>?_) (λc=>?_)⟩
 ·refine kN (λw=>?_) _ (Same.refl H);have b1:j.natAbs<2 ^ O:=(fn [1] o (λk=>(UF _ k).symm) (o.length - 1)).le (UD P.2 X);have z:=Int.dvd_of_emod_eq_zero (show j % (p:Int)=0 by simpa using c)
  have l0:j≠0:=λz=>by
   rw [<-I] at z;have:Int.gcd (co o (o.length - 1)) (co v (v.length - 1))=0:=by omega
   exact P.2 (Int.gcd_eq_zero_iff.mp this).1
  have h3:=Ei ⋯ (C5.mpr z);rw [Ct] at h3
  have:2 ^ O<=2 ^ ((O+W+2)*NN):=by
   refine Ed ∅ ?_;have:(O+W+2)*1<=(O+W+2)*NN:=CM _ ⋯;omega
  have w:2 ^ ((O+W+2)*NN)<p:=w;omega
 have pl:¬ (p:Int)∣j:=λz=>c (by rw [Int.emod_eq_zero_of_dvd z])
 have Y:¬ (p:Int)∣co o (o.length - 1)\/¬ (p:Int)∣co v (v.length - 1):=by
  by_cases Z:(p:Int)∣co o (o.length - 1)
  ·right;intro h2;exact pl (by rw [<-I];exact Int.dvd_coe_gcd Z h2)
  ·exact .inl Z
 refine ⟨o,v,p,rfl,rfl,rfl,N,bp,⋯,⋯,?_,λs J H1 s1 hs r0 rl one br hD ac ad=>?_⟩
 ·rcases Y with h | h
  ·exact .inl ⟨_,h⟩
  ·exact .inr ⟨_,h⟩
 refine ⟨⟨_,SqL.of hs⟩,CompJ.lst (xs:=J.map V.int) (λi ys M=>i<=J.length/\M=H1/\∃ m:dq,ys=m.map V.int/\m.length=i/\(∀ k,k<i->(p:Int)∣co m k - j*co J k)/\∀ z∈m,Bd 45000 z/\2*z.natAbs<=p) ⟨Ae _,rfl,[],rfl,rfl,λk hk=>absurd hk ⋯,λz R=>nomatch R⟩ ?_ ?_ ?_⟩
 ·rintro i ys M ⟨Z,rfl,m,rfl,gl,_⟩;exact ⟨by rw [AR];exact Z,sz (by rw [AR];omega),SqL.of hs⟩
 ·rintro i x ys M hi ⟨Z,rfl,m,rfl,gl,hg,w⟩;rw [Aq] at hi;cases e:J[i]? with
  | none=>rw [e] at hi;cases hi
  | some n=>
    rw [e] at hi;obtain rfl:V.int n=x:=kH hi;have b2:i<J.length:=(Bw.mp e).1;have b3:=br n (Bj e);have cn:co J i=n:=by unfold co;rw [AU,e];rfl
    rwa [];refine ⟨D2 bl (bp.le (x:=(p:Int)) (y:=n) ⋯),⋯,λr aj S=>⟨⋯,m++[r],by simp,by simp;omega,λk hk=>?_,λz R=>?_⟩⟩
    ·by_cases ek:k=i
     ·subst ek;have:co (m++[r]) k=r:=by unfold co;rw [AU,<-gl];simp
      rw [this,cn];exact aj
     ·have:co (m++[r]) k=co m k:=by unfold co;rw [AU,AU,FU ⋯]
      rw [this];exact hg k ⋯
    ·rcases EA.mp R with z1 | z1
     ·exact w z z1
     ·rw [B7.mp z1];exact ⟨bp.le ⋯,by rw [Ct] at S;exact S⟩
 ·rintro ys M ⟨_,rfl,m,rfl,gl,hg,w⟩ t ht;rw [AR] at gl hg;have st:=AQ ht (.lst (m.map V.int));have a0:upd M t (.lst (m.map V.int)) t=_:=upd_same;generalize upd M t (.lst (m.map V.int))=H2 at st a0 ⊢;have a1:0<m.length:=by omega
  have B:co m (m.length - 1)≠0:=λz=>by
   have:=hg (m.length - 1) ⋯;rw [z,show m.length - 1=J.length - 1 by omega,one] at this;exact pl (by have t2:=Int.dvd_neg.mpr this;rw [show -(0 - j*1)=j by omega] at t2;exact t2)
  rwa [a0];refine ⟨m,rfl,⋯,.inr B,λu q g H3 s3 hu g0 eg hp=>?_⟩
  have Pg:Prim q:=by
   rcases hp with h | h
   ·rw [h] at a1;simp at a1
   ·exact h
  have a2:q.length=m.length:=by rw [eg,AR]
  have T:Lz q:=Dn (NQ (AV g0) (by rw [<-eg];exact .inr B)) (λz=>by rw [z] at a2;simp at a2;omega);have a3:∀ z∈q,Bd 45000 z:=NR g0 (by rw [<-eg];exact λz R=>(w z R).1);have C:Same H H3:=(s1.trans st).trans s3;have al:=C _ _ ha;have ao:=C _ _ hb;obtain ⟨G,L⟩:=zT P (QI.left (co o) (co v));have mn:=L.mq _ o (AT _) (QI.left _ _);have mm:=L.mq _ v (AT _) (QI.right _ _)
  have D:¬ (p:Int)∣co G (G.length - 1):=by
   rcases Y with h | h
   ·exact L.lead N P mn h
   ·exact L.lead N lm mm h
  have dG:=hD (co G) (L.dm N mn) (L.dm N mm)
  have a4:G.length<=J.length:=Dm.len N L.lz.1 D dG ⟨J.length - 1,by
   rw [one];intro z;have:=Int.le_of_dvd ∅ z;omega⟩
  have F:Qs O W NN p->(∃ A:dq,∀ k,co o k=cvL A (co q) k)/\∃ A:dq,∀ k,co v k=cvL A (co q) k:=λar=>by
   obtain ⟨q1,q2⟩:=uP N P lm fn fm nc hN ab ar I L r0 one a4 D dG ac ad gl hg (λz R=>(w z R).2);have sc:∀ k,co m k=g*co q k:=λk=>by rw [eg,Gw]
   have mg:MQ (co q) (co m):=⟨1,∅,[g],λk=>by
    have e:cvL [g] (co q) k=g*co q k:=by
     cases k with
     | zero=>rw [Ax];omega
     | succ k=>rw [Ar,BE];omega
    rw [e,sc];omega⟩
   exact ⟨T_ Pg (mg.trans q1),T_ Pg (mg.trans q2)⟩
  rwa [al,hu];refine ⟨o,rfl,q,rfl,T,d,bn,45000,a3,⋯,∅,⋯,⋯,λno=>kN (λw=>no (F w).1) |> λf H4 U=>f H4 (C.trans U),λr qs H4 U hr hq=>?_⟩;have az:=U _ _ ao;have a6:=U _ _ hu;rwa [az,a6];refine ⟨v,rfl,q,rfl,T,d,bm,45000,a3,⋯,∅,⋯,⋯,λno=>kN (λw=>no (F w).2) |> λf H5 s5=>f H5 ((C.trans U).trans s5),λr2 b4 H5 s5 S b0=>?_⟩;exact kR u q H5 ((C.trans U).trans s5) (s5 _ _ a6) (zW L.rc T (UG hq) (UG b0) ⋯) Pg
noncomputable def exps:List Nat:=[61,127,521,1279,4423,9941,21701,44497]
def uR (K:W.Frag):Prop:=∀ H:Hp,SqT K H (Gj K) (exps.map λe:Nat=>V.int (e:Int))
def uS:∀ e∈exps,Pr (mers e)/\e<=44497:=by
 intro e a;have h:e=61\/e=127\/e=521\/e=1279\/e=4423\/e=9941\/e=21701\/e=44497:=by simpa [exps] using a
 rcases h with h | h | h | h | h | h | h | h <;> rw [h]
 ·exact ⟨zK,∅⟩
 ·exact ⟨zL,∅⟩
 ·exact ⟨zM,∅⟩
 ·exact ⟨zN,∅⟩
 ·exact ⟨zO,∅⟩
 ·exact ⟨zP,∅⟩
 ·exact ⟨zQ,∅⟩
 ·exact ⟨zR,∅⟩
def uT (e:Nat):(2:Int) ^ (e:Int).toNat - 1=((mers e:Nat):Int):=by
 unfold mers;have:=Nat.one_le_two_pow (n:=e);rw [Int.natCast_sub this,DR,Int.natCast_pow];rfl
def uU {e:Nat} (h:e<=44497):Bd 45000 ((mers e:Nat):Int):=by
 unfold Bd mers;rw [Ct];have a:=Nat.one_le_two_pow (n:=e);have b:=Ed (n:=2) ∅ (show e<=45000 by omega);omega
def NS {ns b one a i:dq} {g h:Int} (n:g≠0) (o:h≠0) (p:ns=one.map (g*·)) (q:b=a.map (h*·)) (R:RC (co one) (co a) i):RC (co ns) (co b) i:=by
 have j:∀ k,co ns k=g*co one k:=λk=>by rw [p,Gw]
 have m:∀ k,co b k=h*co a k:=λk=>by rw [q,Gw]
 refine ⟨R.lz,?_,?_,?_⟩
 ·obtain ⟨c,e,A,f⟩:=R.left;exact ⟨c,e,A.map (g*·),λk=>by rw [BF,<-f k,j k];ext⟩
 ·obtain ⟨c,e,A,f⟩:=R.right;exact ⟨c,e,A.map (h*·),λk=>by rw [BF,<-f k,m k];ext⟩
 ·obtain ⟨d,r,U,W,u⟩:=R.qi;refine ⟨g*h*d,BV (BV n o) r,U.map (h*·),W.map (g*·),λk=>?_⟩;rw [BF,BF,BJ j U k,BJ m W k,DD,DD];have:=u k;ext
def UH {e:Nat} {a:Int} {one ns:dq} (m:a≠0) (b:ns=one.map (a*·)) (h:Fp e ns):Fp e one:=λg d f ⟨c,i,A,j⟩=>h g d f ⟨c,i,A.map (a*·),λk=>by
 rw [BF,<-j k,b,Gw];ext⟩
theorem UI {c:Int} {g:dL} (h:∀ k,c∣g k):∀ (A:dq) (k:Nat),c∣cvL A g k
 | [],_=>by rw [BE];exact Cu c
 | x::A,0=>by rw [Ax];exact Cr (E3 (h 0)) (Cu c)
 | x::A,k+1=>by rw [Ar];exact Cr (E3 (h _)) (UI h A k)
def UJ {e:Nat} {one:dq} (p:Prim one) (h:Fp e one):Fi e one:=λA g b k=>by
 rcases Dz g with z | ⟨d,f,_,a⟩
 ·rw [z k];exact Cn _
 ·rw [<-a k];refine h d f (λc i=>p c λk=>?_) ⟨1,∅,A,λk=>by rw [Int.one_mul,b k];exact BJ (λk=>(a k).symm) A k⟩ k;rw [b k];exact UI (λk=>by rw [<-a k];exact i k) A k
def uV {K:W.Frag} (hK:uR K) {vs:dj} {H:Hp} {Q:VK} {E:XK} (h:Ka K vs H Q E):Rf K { nx:=λ_ j=>Q .non j,rt:=Q } (L2.start ["row","other","one","two","exponent","found"] vs) H:=by
 obtain ⟨a,b,p,D,d,J,cc,NN,rfl,ha,hb,tn,tm,bn,bm,d9,nN,mN,L,nc,hN,a0,sm,k⟩:=h;unfold Rf;rwa [ha];refine ⟨p,rfl,⋯,tn,λF one g1 H1 s1 n f q p1=>?_⟩;have a3:=s1 _ _ hb;rwa [a3];refine ⟨D,rfl,⋯,tm,λM c g2 G s2 r g w p2=>?_⟩;have m:=s1.trans s2;have a4:=m _ _ ha;have a6:=m _ _ hb;have N:=s2 _ _ n;have l1:p.length=one.length:=by rw [q,AR]
 have l2:D.length=c.length:=by rw [w,AR]
 have t1:Tz one:=NQ (AV f) (by rw [<-q];exact tn);have t2:Tz c:=NQ (AV g) (by rw [<-w];exact tm);have b1:∀ z∈one,Bd d z:=NR f (by rw [<-q];exact bn);have b2:∀ z∈c,Bd d z:=NR g (by rw [<-w];exact bm);have n1:one=[]↔p=[]:=by rw [<-CA,<-CA,l1]
 have I:c=[]↔D=[]:=by rw [<-CA,<-CA,l2]
 have O:(p=[]\/D=[])->∀ (T:Hp) (u v:dl),Same G T->(Ab (A_ gL (AE (JA K) [] E0 (AA (B9 (AA (AB 2) AC)) (AA (B9 (AA (AB 3) AC)) AC))) (tC (.int 0)))) { nx:=λ_ j=>Q .non j,rt:=Q } [some (.ref a),some (.ref b),some (.ref F),some (.ref M),u,v] T:=λem T u v o=>by
  have A:=o _ _ N;have B:=o _ _ r;rwa [];refine ⟨sz ∅,λx hx=>?_⟩;have sx:=AQ hx (.lst [.ref F]);refine ⟨sz ∅,λy hy=>?_⟩;have sy:=AQ hy (.lst [.ref M]);have ab:=sy _ _ (show upd T x (.lst [.ref F]) x=_ from upd_same);refine ⟨one,⟨[V.ref F],ab,⟨⟨F,rfl,sy _ _ (sx _ _ A)⟩,trivial⟩⟩,c,⟨[V.ref M],upd_same,⟨⟨M,rfl,sy _ _ (sx _ _ B)⟩,trivial⟩⟩,em.imp (λz=>n1.mpr z) (λz=>I.mpr z),λt U P ac=>?_⟩;obtain ⟨ar,xr,ht,ad,_⟩:=ac.head;refine ⟨_,ht,_,IB _ _,?_⟩;refine k ar _ U (m.trans (o.trans ((sx.trans sy).trans P))) ad (λaj=>?_) λn r=>by rw [kA (I.mpr r)];exact n1.mpr n
  have z0:∀ {x:dq},x=[]->∀ k,co x k=0:=λe k=>by rw [e];exact Ah (Ae _)
  by_cases C:c=[]
  ·rw [kA C]
   have X:p≠[]:=by
    rcases aj with h | h
    ·exact h
    ·exact absurd (I.mp C) h
   have al:Lz one:=Dn t1 λz=>X (n1.mp z);exact ⟨NS (AV f) (AV g) q w ⟨al,MQ.refl _,MQ.zero _ (z0 C),QI.left _ _⟩,p1.resolve_left X⟩
  ·rw [lZ C];have X:one=[]:=n1.mpr (em.resolve_right λz=>C (I.mpr z));exact ⟨NS (AV f) (AV g) q w ⟨Dn t2 C,MQ.zero _ (z0 X),MQ.refl _,QI.right _ _⟩,p2.resolve_left λz=>C (I.mpr z)⟩
 have l0:=λem=>O em G none none (Same.refl G);simp only [AI,AM,AE,AA,AB,AC,AH,Fb,L2.start,BG,aV,A4,tB,A_,ai,rI,tC,R',rU,BM,Ab,Ak,B9,V6,EK,IM,K',WJ,HG,aF,DV,LQ,LR,V0,au,aA,Di,BU,BA,Au,Li,YH,Cw,O4,IV,bj,iLe,aR,cu,Bc,gT,gL,gS,GW,GZ,YI,YJ,DX,CI,IW,E9,YK,YL,YM,eqT,YN,YO,YQ,Ds,List.map_nil,CB,List.length_nil,List.replicate,List.cons_append,List.nil_append,List.append_nil,List.getElem?_cons_zero,List.getElem?_cons_succ,Option.some.injEq,exists_eq_left',exists_eq_left,V.int.injEq,V.bl.injEq,V.ref.injEq,V.ty.injEq,HO.tup.injEq,HO.lst.injEq,List.cons.injEq,and_true,true_and,and_assoc,exists_and_left,List.set_cons_zero,List.set_cons_succ,decide_eq_true_eq,decide_eq_false_iff_not,Bool.not_eq_true',Bool.true_eq_false,Bool.false_eq_true,Bool.not_true,Bool.not_false,if_true,if_false,ite_true,ite_false,YW,YX,YR,YS,YT,YU,YV,YY,YZ,Nat.zero_add,Nat.reduceAdd,Nat.reduceSub,upd_same,Int.cast_ofNat_Int,decide_true,decide_false,eq_self,not_true_eq_false,not_false_eq_true,Int.natCast_add,Int.natCast_zero,reduceCtorEq,Nm,Dj,B8,Dh,GO,aY,GU,E8,sL,sT,J2,Lo,Ie,Ep,ZF,Fe,Jw,Lb,Jv,Wm,bO,Wk,Yx,Yy,Yz,Y4,ZQ,ZP,Y1,Y3,ZJ,ZK,Ly,PU,MA,Ii,PQ,FC,ET,PR,J5,Ci,Option.bind_some,Option.bind_none,Option.bind,Option.join,id_eq,sS,Zg,Zi,Ev,Gk,Hh,Ir,Iu,Iw,Ix,Iy,Hi,KQ,JA,KR,KS,Hj,Hk,KT,KU,KW,KY,KZ,Ka,Co,Dc,EV,Gn,Fx,Kb,Kc,Ho,Kd,Cp,JC,EW,Go,JE,Hr,Ew,aI,MD,E9,Kj,CT,Hv,Kq,JH] at l0;have am:p≠[]->D≠[]->Lz one/\Lz c:=λn r=>⟨Dn t1 λz=>n (n1.mp z),Dn t2 λz=>r (I.mp z)⟩;refine ⟨_,a4,Ap (λY=>⟨_,a6,Ap (λc2=>⟨⟨_,hK G⟩,?_⟩) (λc2=>l0 (.inr (by simpa using c2)))⟩) (λY=>l0 (.inl (by simpa using Y)))⟩;have Z:p≠[]:=by simpa using Y
 have y2:D≠[]:=by simpa using c2
 obtain ⟨z1,z2⟩:=am Z y2;have an:Fi J one:=UJ (p1.resolve_left Z) (UH (AV f) q (L Z y2).1);have ao:Fi J c:=UJ (p2.resolve_left y2) (UH (AV g) w (L Z y2).2);refine LU (xs:=exps.map λe:Nat=>V.int (e:Int)) (λi σ j=>i<8/\∃ u v,σ=[some (.ref a),some (.ref b),some (.ref F),some (.ref M),u,v]/\Same G j) ⟨∅,none,none,rfl,Same.refl G⟩ (λi σ j _ _=>hK j) ?_ ?_
 ·rintro i x σ j R ⟨i8,u,v,rfl,o⟩;rw [Aq] at R;cases e:exps[i]? with
  | none=>rw [e] at R;cases R
  | some S=>
    rw [e] at R;obtain rfl:V.int (S:Int)=x:=kH R;obtain ⟨pe,pl⟩:=uS S (Bj e);have A:=o _ _ N;have B:=o _ _ r;rwa [A,B];refine ⟨⋯,2,by unfold Bd;decide,⋯,one,c,mers S,uT S,rfl,rfl,pe,uU pl,z1,z2,d,b1,b2,⋯,⋯,J,an,ao,cc,⋯,NN,⋯,a0,λnb U P=>⟨?_,o.trans P⟩,λt rs U P ht rc pr=>?_⟩
    ·rcases Av (i+1) 8 with c8 | c8
     ·exact c8
     ·exfalso;have i7:i=7:=by omega
      rw [i7] at e;obtain rfl:44497=S:=kH e;refine nb ?_;show 2 ^ ((J+cc+2)*NN)<mers 44497;have n:2 ^ ((J+cc+2)*NN)<=2 ^ 44490:=Ed ∅ sm
      have r:2 ^ 44490<mers 44497:=by
       unfold mers;have e7:2 ^ 44497=2 ^ 44490*2 ^ 7:=by rw [<-C3]
       rw [e7];have:1<=2 ^ 44490:=Nat.one_le_two_pow;omega
      omega
    exact k t rs U (m.trans (o.trans P)) ht (λ_=>⟨NS (AV f) (AV g) q w rc,pr⟩) λn _=>absurd n (by simpa using Y)
 ·rintro σ j ⟨i8,_⟩;exact absurd i8 (by simp [exps])
def Be (l:d7):(AL l).length=l.length:=by unfold AL;rw [AR]
def FO {l:d7} (a:AX l) (b:Nz l):Tz (AL l):=by
 by_cases h:l=[]
 ·left;rw [h];rfl
 ·right;rw [Be];exact Kv a b (BI.mpr h)
def uW {l:d7} {M N:Int} (f:AX l) (g:Ov l M) (i:Ov l N) (h:M∣N) {b:Nat} (j:∀ z∈P_ l N,Bd b z):∀ z∈P_ l M,Bd b z:=λz k=>by
 obtain ⟨q,a,rfl⟩:=BR.mp k;refine (j (q.1*(N / q.2)) (BR.mpr ⟨q,a,rfl⟩)).le ?_;rw [BX,BX];refine CM _ ?_;have c:=(f q a).pos;obtain ⟨x,d⟩:=g.2 q a;obtain ⟨y,e⟩:=h;have m:M / q.2=x:=by rw [d,GJ _ (AV c)]
 have n:N / q.2=x*y:=by rw [e,d,Int.mul_assoc,GJ _ (AV c)]
 rw [m,n,BX];refine Nat.le_mul_of_pos_right _ ?_;rcases Ce y.natAbs with z | z
 ·have o:y=0:=by omega
  have:=i.1;rw [e,o] at this;omega
 ·exact z
def Gq.clr {b c:Nat} {l:d7} (G:Gq b c l):(∀ z∈AL l,Bd b z)/\Bd c (Aa l)/\(∀ q∈l,Bd b q.1):=by
 obtain ⟨M,a,bM,d⟩:=G.ov;have e:=QN G.low a;exact ⟨uW G.low (Br G.low) a e d,DN (AV a.1) e bM,Tw G.low a d⟩
def D4 (g:dq):(K_ g).length=g.length:=by unfold K_;rw [AR]
def IC {g:dq} (a:Lz g):AX (K_ g):=λq b=>by
 obtain ⟨z,_,rfl⟩:=BR.mp b;exact DB a.2
theorem Ky {g:dq} (a:Lz g) (k:Nat):B_ (K_ g) k=(co g k:Rat) / (co g (g.length - 1):Rat):=by
 unfold B_ AZ K_;rw [AU,Aq];unfold co;rw [AU (l:=g) (i:=k)];cases e:g[k]? with
 | none=>
   show val (0,1)=((0:Int):Rat) / _;unfold val;show ((0:Int):Rat) / _=_;rw [show ((0:Int):Rat)=0 from rfl,O',O']
 | some z=>exact DC a.2
def UK {g:dq} (a:Lz g):AZ (K_ g) (g.length - 1)=(1,1):=EU (CZ (IC a) _) ⟨∅,∅⟩ (by
 have h:=Ky a (g.length - 1);unfold B_ at h;rw [h];have:=AY a.2;have b:val (1,1)=1:=by unfold val;show ((1:Int):Rat) / ((1:Int):Rat)=1;ext
 rw [b];ext)
def JS {g:dq} (b:Lz g):Nz (K_ g):=λq a=>by
 have h:=UK b;rw [FX,D4] at a;unfold AZ at h;rw [AU,a] at h;have c:q=(1,1):=h;rw [c];decide
def uX (h:Fx K vs H Q E):R4 K { nx:=λ_ Y=>Q .non Y,rt:=Q } (L2.start ["P","Q","row"] vs) H:=by
 obtain ⟨p,q,Z,ys,l,m,b,c,ee,dd,NN,rfl,hp,j,hN,hM,f,g,b9,c9,lN,mN,x,y,A,B,sm,k0,k1⟩:=h;obtain ⟨bI,a0,C⟩:=f.clr;obtain ⟨D,a1,F⟩:=g.clr;obtain ⟨M1,O1,G,_⟩:=f.ov;obtain ⟨M2,O2,I,_⟩:=g.ov;unfold R4;refine BC (Af (A6 (Ca (AO rfl ⟨_,Z,l,M1,rfl,hp,hN,f.low,O1,G.mono ⋯,λq j=>(C q j).mono ⋯,⋯,λr a H1 J hr ha=>⟨_,_,_,_,rfl,rfl,hr,rfl,?_⟩⟩))));have L:=J _ _ j;refine A6 (Ca (AO rfl ⟨_,ys,m,M2,rfl,SqT.of L,NuK.of (hM.tp (M_ J)),g.low,O2,I.mono ⋯,λq j=>(F q j).mono ⋯,⋯,λr2 a2 H2 W M N=>⟨_,_,_,_,rfl,rfl,M,rfl,?_⟩⟩));have O:=W _ _ ha;have n1:AL l=[]↔l=[]:=by rw [<-CA,<-CA,Be]
 have v:AL m=[]↔m=[]:=by rw [<-CA,<-CA,Be]
 refine ⟨_,_,AL l,AL m,b,ee,dd,NN,rfl,O,N,FO f.low f.nz,FO g.low g.nz,bI,D,b9,by rw [Be];exact lN,by rw [Be];exact mN,λw S=>x (λz=>w (n1.mpr z)) (λz=>S (v.mpr z)),by rw [Be,Be];exact y,by rw [Be,Be];exact A,B,sm,λs d H3 s3 X rc r0=>?_⟩;have k:=(J.trans W).trans s3;rwa [X];by_cases o:l=[]/\m=[]
 ·have e:=r0 (n1.mpr o.1) (v.mpr o.2);subst e;refine Ap (λz=>absurd z (by simp)) (λ_=>?_);exact ⟨sz ∅,λt T=>k0 o.1 o.2 t [] _ (k.trans (AQ T _)) upd_same trivial⟩
 ·have i:l≠[]\/m≠[]:=by
   by_cases w:l=[]
   ·exact .inr λS=>o ⟨w,S⟩
   ·exact .inl w
  obtain ⟨R,P⟩:=rc (i.imp (λh z=>h (n1.mp z)) (λh z=>h (v.mp z)));have U:d≠[]:=BI.mp R.lz.1;refine Ap (λ_=>?_) (λz=>absurd U (by simpa using z));have al:=JQ R.lz.1
  have rl:d.length<=1000:=by
   rcases i with h | h
   ·have:=F3 R.lz (Dn (FO f.low f.nz) λz=>h (n1.mp z)) R.left;rw [Be] at this;omega
   ·have:=F3 R.lz (Dn (FO g.low g.nz) λz=>h (v.mp z)) R.right;rw [Be] at this;omega
  rwa [X,al];refine ⟨d,rfl,R.lz.2,rl,λt zs H4 s4 T u=>?_⟩;have e:trim (d.map λn=>Ao n (co d (d.length - 1)))=K_ d:=MM (JS R.lz);rw [e] at u;exact k1 i d R P t zs H4 (k.trans s4) T u
def MR.short {g f:dM} {n:Nat} (b:g n≠0) (h:∀ i,n<i->g i=0) (m:MR g f) (c:∀ k,n<=k->f k=0) (k:Nat):f k=0:=by
 obtain ⟨A,a⟩:=m;rw [a k];exact Mh A (Qe b h A λk hk=>by rw [<-a k];exact c k hk) k
def UL {q:Nu} {n M:Int} (c:q.2≠0) (d:M≠0) (h:val q=(n:Rat) / (M:Rat)):Wo q n M:=by
 unfold Wo;unfold val at h;have a:=AY c;have b:=AY d;have e:(q.1:Rat)*(M:Rat)=(n:Rat)*(q.2:Rat):=by ext
 exact_mod_cast e
def UM {q:Nu} {n M:Int} (a:Low q.1 q.2) (h:Wo q n M):q.2∣M/\q.1*(M / q.2)=n:=by
 unfold Wo at h;have d:q.2∣M:=MK a ⟨n,by rw [h,Int.mul_comm]⟩;refine ⟨d,?_⟩;have b:=a.pos
 have e:q.2*(q.1*(M / q.2))=q.2*n:=by
  have:=GN d
  calc q.2*(q.1*(M / q.2))=q.1*(q.2*(M / q.2)):=by ext
   _=q.1*M:=by rw [this]
   _=q.2*n:=by rw [h,Int.mul_comm]
 exact Int.eq_of_mul_eq_mul_left (AV b) e
def uY (q:Nu):val (-q.1,q.2) = - val q:=by
 unfold val;show ((-q.1:Int):Rat) / _=_;push_cast;ext
def UN {m:d7} (b:Nz m) (c:m≠[]):(AZ m (m.length - 1)).1≠0:=by
 have a:m.length - 1<m.length:=by have:=BI.mpr c;omega
 have q:=b m[m.length - 1] (by rw [FX];exact Az a);have e:AZ m (m.length - 1)=m[m.length - 1]:=by unfold AZ;rw [AU,Az a];rfl
 rw [e];exact q
def DG {m:d7} (c:AX m) (d:Nz m) (e:m≠[]):B_ m (m.length - 1)≠0:=by
 have a:=AY (UN d e);have b:=AY (AV (CZ c (m.length - 1)).pos);unfold B_ val;ext
theorem UO (f:dL):∀ (A:dq) (k:Nat),cvL (A.map λz:Int=>(z:Rat)) (λk=>(f k:Rat)) k=((cvL A f k:Int):Rat)
 | [],_=>rfl
 | x::A,0=>by rw [Ds,Ax,Ax];push_cast;ext
 | x::A,k+1=>by rw [Ds,Ar,Ar,UO f A k];push_cast;ext
def Kz {f:dL} {G:dM} {a:Rat} (b:a≠0) (c:∀ k,G k=a*(f k:Rat)) (A:dq) (k:Nat):((cvL A f k:Int):Rat)=a⁻¹*cvL (A.map λz:Int=>(z:Rat)) G k:=by
 rw [BJ c,DD,UO];ext
def MR.of {f g:dL} {F G:dM} {d a:Rat} (b:a≠0) (h:∀ k,F k=d*(f k:Rat)) (i:∀ k,G k=a*(g k:Rat)) (m:MQ g f):MR G F:=by
 obtain ⟨c,j,A,n⟩:=m;have o:=AY j;refine ⟨(A.map λz:Int=>(z:Rat)).map (d*(c:Rat)⁻¹*a⁻¹*·),λk=>?_⟩;have e:(c:Rat)*(f k:Rat)=((cvL A g k:Int):Rat):=by exact_mod_cast n k
 rw [BF,h k];rw [Kz b i] at e;ext
def EX {l:d7} (a:AX l) (k:Nat):B_ l k=((Aa l:Rat))⁻¹*(co (AL l) k:Rat):=by
 rw [DY a (Br a),<-J8];show (co (AL l) k:Rat) / _=_;ext
def UP {l:d7} (a:AX l):((Aa l:Rat))⁻¹≠0:=by
 have:=AY (AV (Br a).1);ext
def EY {g:dq} (a:Lz g) (k:Nat):B_ (K_ g) k=((co g (g.length - 1):Rat))⁻¹*(co g k:Rat):=by
 rw [Ky a];ext
def GA {g:dq} (a:Lz g):((co g (g.length - 1):Rat))⁻¹≠0:=by
 have:=AY a.2;ext
def JT {a:Int} (d:a≠0) {B:Nat} {ns:dq} (g:∀ z∈ns,Bd B z):Ov (ns.map λn=>Ao n a) (a.natAbs:Int)/\∀ z∈P_ (ns.map λn=>Ao n a) (a.natAbs:Int),Bd B z:=by
 have h:(0:Int)<(a.natAbs:Int):=by omega
 have c:∀ n∈ns,(Ao n a).2∣(a.natAbs:Int)/\Bd B ((Ao n a).1*((a.natAbs:Int) / (Ao n a).2)):=λn b=>by
  have i:=DB (n:=n) d;have u:=AY d
  have:∃ s:Int,val (Ao n a)=(s:Rat) / (((a.natAbs:Int):Int):Rat)/\Bd B s:=by
   rw [DC d];rcases Int.natAbs_eq a with e | e
   ·exact ⟨n,by rw [<-e],g n b⟩
   ·refine ⟨-n,?_,(g n b).neg⟩;have j:(a.natAbs:Int) = -a:=by omega
    rw [j];push_cast;ext
  obtain ⟨s,k,m⟩:=this;obtain ⟨o,p⟩:=UM i (UL (AV i.pos) (AV h) k);exact ⟨o,by rw [p];exact m⟩
 refine ⟨⟨h,λq f=>?_⟩,λz r=>?_⟩
 ·obtain ⟨n,b,rfl⟩:=BR.mp f;exact (c n b).1
 ·obtain ⟨q,f,rfl⟩:=BR.mp r;obtain ⟨n,b,rfl⟩:=BR.mp f;exact (c n b).2
def uZ {l:d7} {M:Int} {B:Nat} (h:Ov l M) (b:∀ z∈P_ l M,Bd B z):Ov (trim l) M/\∀ z∈P_ (trim l) M,Bd B z:=by
 refine ⟨⟨h.1,λq a=>h.2 q (DL a)⟩,λz c=>?_⟩;obtain ⟨q,a,rfl⟩:=BR.mp c;exact b _ (BR.mpr ⟨q,DL a,rfl⟩)
theorem tE {F G:dM} {P:dM} (n:Nat) (h:∀ k,P k=cv F G n k):MR G P:=by
 refine ⟨(List.range n).map F,λk=>?_⟩;rw [h k];clear h
 induction n with
 | zero=>rfl
 | succ n a=>
   show cv F G n k+(if n<=k then F n*G (k - n) else 0)=_;rw [a,List.range_succ,EF,List.map_singleton,Db,AR,BL];unfold Ay;by_cases hk:n<=k
   ·rw [kA hk,kA hk]
   ·rw [lZ hk,lZ hk];ext
structure PS (l m:d7) (b c d e nq:Nat) (r:dq) (B:Int) (qs:d7):Prop where
 len:r.length<=l.length
 tz:Tz r
 B0:B≠0
 N:∃ N,0<N/\B∣N/\Bd (c+(nq - (r.length+1 - m.length))*d) N/\∀ q∈qs,q.2∣N
 low:AX qs
 qb:∀ q∈qs,Bd (b+nq*(d+1)+e) q.1
 rb:∀ z∈r,Bd (b+(nq - (r.length+1 - m.length))*(d+1)) z
 ql:qs.length=nq
 zer:∀ j,j+m.length<=r.length->AZ qs j=(0,1)
 idn:∀ k,B_ l k=cv (B_ qs) (B_ m) nq k+(co r k:Rat) / (B:Rat)
def UQ {ns:dq} {g:Int} (k:Nat):co (ns.map (·/ g)) k=co ns k / g:=JR (F:=(·/ g)) (Int.zero_ediv g) ns k
def UR {ns:dq} {g:Int} (h:∀ z∈ns,g∣z) (k:Nat):g∣co ns k:=Tv h k
def PS.step {l m:d7} {b c d e u:Nat} {r:dq} {B:Int} {D:d7} (S:PS l m b c d e u r B D) (U:AX m) (nm:Nz m) (m1:1<=m.length) (bC:∀ z∈AL m,Bd d z) (bE:Bd e (Aa m)) (M:u=l.length+1 - m.length) (hr:m.length<=r.length)
  {o top I f w g:Int} (v:o=co (AL m) (m.length - 1)) (J:top=co r (r.length - 1)) (X:0<I) (O:f*I=o) (W:w*I=top) {A:dq} (t1:Tz A) (F:∀ k,co A k=f*co r k - w*Ay (r.length - m.length) (co (AL m)) k) (Y:0<g) (Z:g∣B*f) (gr:∀ z∈A,g∣z) :
  PS l m b c d e u (A.map (·/ g)) (B*f / g) (D.set (r.length - m.length) (Ao (top*Aa m) (B*o)))/\A.length<r.length:=by
 have G:o≠0:=by rw [v];exact Kv U nm m1
 have cl:(AL m).length=m.length:=Be m;have P:f≠0:=λz=>G (by rw [<-O,z,Int.zero_mul])
 have a0:A.length<r.length:=by
  have:A.length<=r.length - 1:=UC (b:=[]) t1 _ λk hk=>by
   rw [F k];unfold Ay;rw [kA ⋯];by_cases ek:k=r.length - 1
   ·rw [ek,<-J,show r.length - 1 - (r.length - m.length)=m.length - 1 by omega,<-v,<-W,<-O];ext
   ·rw [Ah (a:=r) ⋯,Ah (a:=AL m) (k:=k - (r.length - m.length)) ⋯];omega
  omega
 have Bi:(A.map (·/ g)).length=A.length:=AR ..;obtain ⟨N,N0,NB,Nb,Nq⟩:=S.N;have a2:=S.len;have bl:Bd d o:=by rw [v];exact D3 bC _
 have bt:Bd (b+(u - (r.length+1 - m.length))*(d+1)) top:=by rw [J];exact D3 S.rb _
 have bf:Bd d f:=DN G ⟨I,by rw [O]⟩ bl
 have bw:Bd (b+(u - (r.length+1 - m.length))*(d+1)) w:=by
  by_cases z:top=0
  ·have w0:w=0:=by
    rcases Int.mul_eq_zero.mp (W.trans z) with h | h
    ·exact h
    ·omega
   rw [w0];exact Cn _
  ·exact DN z ⟨I,by rw [W]⟩ bt
 have R:r.length - m.length<u:=by omega
 have bne:B*o≠0:=BV S.B0 G;have T:=DB (n:=top*Aa m) bne;have p:∀ {q:Nu},q∈D.set (r.length - m.length) (Ao (top*Aa m) (B*o))->q∈D\/q=Ao (top*Aa m) (B*o):=λ{q} h=>List.mem_or_eq_of_mem_set h
 have C:∀ j,AZ (D.set (r.length - m.length) (Ao (top*Aa m) (B*o))) j=if j=r.length - m.length then Ao (top*Aa m) (B*o) else AZ D j:=λj=>by
  unfold AZ;rw [AU,AU];by_cases e:j=r.length - m.length
  ·rw [kA e,e,List.getElem?_set_self (by rw [S.ql];exact R)];rfl
  ·rw [lZ e,List.getElem?_set_ne (λz=>e z.symm)]
 have L:∀ x:Nat,(u - (r.length+1 - m.length))*x+x<=(u - (A.length+1 - m.length))*x:=λx=>by
  have:=Bk x (show u - (r.length+1 - m.length)+1<=u - (A.length+1 - m.length) from A7 (m:=u - (r.length - m.length)) (by omega) (Nat.sub_le_sub_left (by omega) u));rw [Cl,Nat.one_mul] at this;exact this
 refine ⟨⟨⋯,?_,?_,⟨N*(o.natAbs:Int),?_,?_,?_,?_⟩,?_,?_,?_,?_,?_,?_⟩,a0⟩
 ·rcases t1 with h | h
  ·left;rw [h];rfl
  ·right;rw [Bi,UQ];intro z;have:=Int.ediv_mul_cancel (UR gr (A.length - 1));rw [z,Int.zero_mul] at this;exact h this.symm
 ·intro z;have d:=Int.ediv_mul_cancel Z;rw [z,Int.zero_mul] at d;exact BV S.B0 P d.symm
 ·exact CF N0 ⋯
 ·refine CL (Int.ediv_dvd_of_dvd Z) (Int.mul_dvd_mul NB ?_);exact Int.dvd_natAbs.mpr ⟨I,by rw [O]⟩
 ·have a1:Bd d (o.natAbs:Int):=bl.le (by rw [Ct];exact AT _);refine (Nb.mul a1).mono ?_;rw [Bi];have:=L d;omega
 ·intro q M;rcases p M with h | h
  ·exact CL (Nq q h) (Int.dvd_mul_right ..)
  ·rw [h];exact zA bne (Int.mul_dvd_mul NB (Int.dvd_natAbs.mpr (Int.dvd_refl _)))
 ·intro q M;rcases p M with h | h
  ·exact S.low q h
  ·rw [h];exact T
 ·intro q M;rcases p M with h | h
  ·exact S.qb q h
  ·rw [h];refine (Dk bne (bt.mul bE) (Nat.lt_two_pow_self:Bd _ (B*o))).1.mono ?_;have:=Bk (d+1) (show u - (r.length+1 - m.length)<=u by omega);omega
 ·intro z hz;obtain ⟨y,hy,rfl⟩:=BR.mp hz;refine NF (gr y hy) ?_;refine Gv (n:=b+(u - ((A.map (·/ g)).length+1 - m.length))*(d+1)) (λk=>?_) y hy;rw [F k,Bi];have gw:=L (d+1);refine Bd.mono (m:=(b+(u - (r.length+1 - m.length))*(d+1)+d)+1) (Bd.sub ((bf.mul (D3 S.rb k)).mono ⋯) ?_) ⋯;unfold Ay;split
  ·exact bw.mul (D3 bC _)
  ·rw [Int.mul_zero];exact Cn _
 ·rw [List.length_set];exact S.ql
 ·intro j hj;rw [Bi] at hj;rw [C,lZ ⋯];exact S.zer j ⋯
 ·intro k;have hB:=AY S.B0;have hL:=AY G;have hg:=AY (AV Y);have hF:=AY P;have hE:=AY (AV (Br U).1)
  have c1:=QH (f:=B_ D) (f':=B_ (D.set (r.length - m.length) (Ao (top*Aa m) (B*o)))) (g:=B_ m) (s:=r.length - m.length) (x:=val (Ao (top*Aa m) (B*o)))
   (by unfold B_;rw [S.zer _ ⋯];exact O' _) (by unfold B_;rw [C,kA rfl]) (λi hi=>by unfold B_;rw [C,lZ hi]) u k
  have gd:g∣f*co r k - w*Ay (r.length - m.length) (co (AL m)) k:=by rw [<-F k];exact UR gr k
  rw [c1,S.idn k,UQ,F k,Tu (AV Y) gd,Tu (AV Y) Z,DC bne];have a3:(f:Rat)*I=o:=by exact_mod_cast O
  have a4:(w:Rat)*I=top:=by exact_mod_cast W
  have hS:=AY (AV X);unfold Ay;by_cases hk:r.length - m.length<=k
  ·rw [kA hk,kA ⟨R,hk⟩,DY U (Br U),<-J8];show _+(co r k:Rat) / _=_+_*((co (AL m) (k - (r.length - m.length)):Rat) / _)+_;push_cast;generalize (co (AL m) (k - (r.length - m.length)):Rat)=dk;generalize cv (B_ D) (B_ m) u k=c;generalize (co r k:Rat)=x;ext
  ·rw [lZ hk,lZ ⋯];push_cast;generalize cv (B_ D) (B_ m) u k=c;generalize (co r k:Rat)=x;ext
def NT {a b:Nu} (h:D1 a=D1 b):a=b:=by
 unfold D1 at h;injection h with h;injection h with d c;injection c with c _;injection d with d;injection c with c;exact Prod.ext d c
theorem tF {l m:d7} (h:Fv l=Fv m):l=m:=by
 unfold Fv at h;injection h with h
 induction l generalizing m with
 | nil=>
   cases m with
   | nil=>rfl
   | cons b m=>simp at h
 | cons a l c=>
   cases m with
   | nil=>simp at h
   | cons b m=>
     rw [Ds,Ds] at h;injection h with d e;rw [NT d,c e]
def eqP {H:Hp} {p q:Addr} {xs a:dj} {l m:d7} {Q:VK} (hp:H p=some (.tup xs)) (d:Nums H xs l) (e:H q=some (.tup a)) (f:Nums H a m) (b:Bool) (c:b=true↔l=m) (h:Q (.bl b) H):aS (.ref p) (.ref q) H Q:=
 ⟨_,_,b,KG hp d,KG e f,okP _ 6,okP _ 6,⟨λz=>by rw [c.mp z],λz=>c.mpr (tF z)⟩,h⟩
def tG (h:Kc K vs H Q E):xZ K { nx:=λ_ H'=>Q .non H',rt:=Q } (L2.start ["P","Q","row","divisor","rest","bottom","lead","quotient","shift","shared","spare"] vs) H:=by
 obtain ⟨p,q,xs,ys,l,m,b0,c0,d0,e0,rfl,hp,v,hN,hM,GL,GM,m0,c6,m6,hc,hb,he,hd,k⟩:=h;obtain ⟨bI,ba,bb⟩:=GL.clr;obtain ⟨T,bc,bd⟩:=GM.clr;obtain ⟨M,hO,bM,c7⟩:=GL.ov;obtain ⟨M',c8,cb,_⟩:=GM.ov;have hl:=GL.low;have hm:=GM.low;have nm:=GM.nz;have m1:1<=m.length:=BI.mpr m0;have b9:b0<=900000:=by omega
 have c9:c0<=400000:=by omega
 have lx:=hN.length;have ly:=hM.length;have bf:∀ q∈m,Bd 60000000 q.1:=λq v=>(bd q v).mono ⋯;have bE:Bd e0 (Aa m):=bc;have OE:=Br hm;have OL:=Br hl;have bL:Bd c0 (Aa l):=ba;have cl:(AL m).length=m.length:=by unfold AL;rw [AR]
 have bg:(AL l).length=l.length:=by unfold AL;rw [AR]
 refine QZ (AO rfl ⟨_,_,l,M,rfl,hp,hN,hl,hO,bM.mono ⋯,λq v=>(bb q v).mono ⋯,⋯,λra a H1 s1 F G=>?_⟩);have bi:=s1 _ _ v;refine QZ (AO rfl ⟨_,_,m,Aa m,rfl,SqT.of bi,NuK.of (hM.tp (M_ s1)),hm,OE,bE.mono ⋯,bf,⋯,λrb b H2 s2 U W=>?_⟩);have F:=s2 _ _ F;have G:=s2 _ _ G;have X:=s1.trans s2;have bl:=X.sqT hp;have ac:=X _ _ v
 have A:∀ {r:dq},1<=r.length->N_ (r.map V.int) (-1)=some (V.int (r.getD (r.length - 1) 0)):=λ{r} h=>by
  unfold N_ ak;rw [lZ ∅,kA (by rw [AR];omega),AR,show (-1+(r.length:Int)).toNat=r.length - 1 by omega];show (r.map V.int)[r.length - 1]?=_;rw [Aq,AU,Az ⋯];rfl
 have el:=A (r:=AL m) ⋯;rw [cl] at el;generalize x:(AL m).getD (m.length - 1) 0=e at el;have Y:e≠0:=by rw [<-x];exact Kv hm nm m1
 have ad:Bd d0 e:=by rw [<-x];exact DM T _
 refine BC (A9 rfl F rfl (BC (A9 rfl F rfl (BC (A6 (A9 rfl U rfl ⟨_,rfl,_,_,_,_,rfl,rfl,W,el,?_⟩))))));refine BC (A6 (KI (CJ (L_ (L_ ⟨Bi,λe1 aj=>⟨Cj,λe2 al=>?_⟩⟩)))));have u:=(AQ aj (.tup [.int 0,.int 1])).trans (AQ al (.lst [.ref e1]));have en:(if (0:Int) > (xs.length:Int) - (ys.length:Int)+1 then 0 else (xs.length:Int) - (ys.length:Int)+1)=((l.length+1 - m.length:Nat):Int):=by split <;> omega
 refine ⟨_,rfl,_,_,rfl,u.sqT bl,_,rfl,_,_,rfl,u _ _ ac,_,_,rfl,rfl,_,_,rfl,rfl,_,_,rfl,?_⟩;refine ⟨_,((l.length+1 - m.length:Nat):Int),_,rfl,congrArg V.int en,upd_same,⋯,⋯,sz (by simp;omega),λw hw=>?_⟩;clear en;refine Mg aj al hw λH3 h1 am u _ w2=>?_;rw [DR,HZ] at am;have N0:Nums H3 (List.replicate (l.length+1 - m.length) (V.ref e1)) (List.replicate (l.length+1 - m.length) (0,1)):=Nums.rep ⟨e1,rfl,h1⟩ _
 have gz:∀ n j:Nat,AZ (List.replicate n ((0,1):Nu)) j=(0,1):=λn j=>by
  unfold AZ;rw [AU,EC];split <;> rfl
 refine FA (λn σ H'=>∃ (c:Addr) (r:dq) (B:Int) (zs:dj) (I:d7) (x8 x9 J:dl),σ=[some (.ref p),some (.ref q),some (.ref ra),some (.ref rb),some (.ref c),some (.int B),some (.int e),some (.ref w),x8,x9,J]/\Same H2 H'/\H' c=some (.lst (r.map V.int))/\c≠w/\H' w=some (.lst zs)/\Nums H' zs I/\PS l m b0 c0 d0 e0 (l.length+1 - m.length) r B I/\n=r.length) l.length
  ⟨a,AL l,Aa l,_,_,none,none,none,rfl,u,u _ _ G,B5 G w2,am,N0,⟨⋯,FO hl GL.nz,AV OL.1,⟨Aa l,OL.1,Int.dvd_refl _,bL.mono ⋯,λq v=>?_⟩,λq v=>?_,λq v=>?_,λz hz=>?_,Dr ..,λj _=>gz _ j,λk=>?_⟩,bg.symm⟩ ?_
 ·rw [(List.mem_replicate.mp v).2];exact Int.one_dvd _
 ·rw [(List.mem_replicate.mp v).2];exact FH
 ·rw [(List.mem_replicate.mp v).2];exact Cn _
 ·exact (bI z hz).mono ⋯
 ·rw [QJ _ _ (λi _=>by unfold B_;rw [gz];exact O' _),DY hl OL,J8];exact (Rat.zero_add _).symm
 rintro n σ H4 ⟨c,r,B,zs,I,x8,x9,J,rfl,s4,C,cw,Z,N4,o,rfl⟩;have an:=s4 _ _ ac;refine ⟨_,rfl,_,_,rfl,C,_,rfl,_,_,rfl,an,_,_,rfl,rfl,_,rfl,Ap (λcc=>?_) (λcc=>?_)⟩
 ·have ao:m.length<=r.length:=by have cc:=kC cc;rw [AR] at cc;omega
  refine ⟨_,λ_ _ h=>h,?_⟩;have es:((r.map V.int).length:Int) - (ys.length:Int)=((r.length - m.length:Nat):Int):=by rw [AR];omega
  have lt:=A (r:=r) ⋯;generalize P:r.getD (r.length - 1) 0=top at lt;have ar:=s4 _ _ U;have bz:=s4 _ _ W;obtain ⟨N,L,NB,Nb,Nq⟩:=o.N;have a0:Bd 400000 B:=(DN (AV L) NB Nb).mono (A7 (Nat.add_le_add_left (Bk _ (Nat.sub_le _ _)) _) hc)
  have bm:b0+(l.length+1 - m.length - (r.length+1 - m.length))*(d0+1)<=900000:=by
   have:=Bk (d0+1) (Nat.sub_le (l.length+1 - m.length) (r.length+1 - m.length));omega
  have R:Bd 900000 top:=by rw [<-P];exact (DM o.rb _).mono bm
  have bn:∀ z∈r,Bd 60000000 z:=λz hz=>(o.rb z hz).mono ⋯;refine ⟨_,rfl,_,_,rfl,C,_,rfl,_,_,rfl,an,_,_,rfl,rfl,?_⟩;show Ry K _ [some (.ref p),some (.ref q),some (.ref ra),some (.ref rb),some (.ref c),some (.int B),some (.int e),some (.ref w),some (.int (((r.map V.int).length:Int) - (ys.length:Int))),x9,J] _;rw [es];have bne:B*e≠0:=BV o.B0 Y;refine Qb (Af ⟨_,rfl,_,rfl,_,_,_,_,rfl,rfl,C,lt,_,rfl,_,_,_,_,rfl,rfl,ar,rfl,_,_,rfl,rfl,D2 R bE,_,rfl,_,rfl,_,_,rfl,rfl,D2 a0 ad,_,_,rfl,bne,λt1 az=>?_⟩);have cd:zs.length=l.length+1 - m.length:=by rw [N4.length,o.ql]
  have c3:=o.len;refine ⟨_,rfl,_,rfl,_,zs,_,r.length - m.length,rfl,rfl,AQ az _ _ _ Z,Fz rfl ⋯,?_⟩;refine yI az Z w2 s4 λH5 s5 b1 h5 bp k5=>?_;have hn:=Nums.set (q:=Ao (top*Aa m) (B*e)) ⟨t1,rfl,h5⟩ (r.length - m.length) (N4.tp bp);have D:=k5 _ _ cw C;have b2:=s5 _ _ U;have b3:=s5 _ _ W;refine FJ ⟨_,rfl,_,rfl,_,_,_,_,rfl,rfl,D,lt,_,rfl,_,_,rfl,?_⟩;show Rx K _ [some (.ref p),some (.ref q),some (.ref ra),some (.ref rb),some (.ref c),some (.int B),some (.int e),some (.ref w),some (.int ((r.length - m.length:Nat):Int)),some (.int ((Int.gcd top e:Nat):Int)),J] _;have y:(0:Int)<((Int.gcd top e:Nat):Int):=by have:=Int.gcd_pos_of_ne_zero_right top Y;omega
  have a1:((Int.gcd top e:Nat):Int)∣e:=ED top e;have a2:((Int.gcd top e:Nat):Int)∣top:=Ey top e;have hf:=Int.ediv_mul_cancel a1;have a3:=Int.ediv_mul_cancel a2;generalize c4:((Int.gcd top e:Nat):Int)=sh at y a1 a2 hf a3 ⊢;have a4:=NF a1 ad;have b4:=NF a2 R;have a6:e.fdiv sh=e / sh:=Ee e (De y);have b5:top.fdiv sh=top / sh:=Ee top (De y);generalize ce:e / sh=f at hf a4 a6 ⊢;generalize top / sh=wt at a3 b4 b5 ⊢;refine BC (yG ⟨_,rfl,_,rfl,_,rfl,_,_,rfl,rfl,AV y,_,rfl,_,_,_,_,rfl,rfl,b2,rfl,_,rfl,_,rfl,_,_,_,_,rfl,rfl,D,lt,_,rfl,_,_,rfl,rfl,AV y,_,rfl,?_⟩);refine ⟨_,_,r,AL m,f,wt,r.length - m.length,by rw [<-a6,<-b5],D,b3,⋯,⋯,a4.mono ⋯,b4.mono ∅,bn,λz hz=>(T z hz).mono ⋯,λc1 O H6 s6 b6 t6 e6=>?_⟩;have bq:f≠0:=λz=>Y (by rw [<-hf,z,Int.zero_mul])
  have l6:O.length<=1000:=by
   have:O.length<=1000:=UC (b:=[]) t6 1000 λk hk=>by
    rw [e6 k,Ah (a:=r) ⋯];unfold Ay;split
    ·rw [Ah (a:=AL m) ⋯];omega
    ·omega
   exact this
  refine ⟨_,rfl,_,rfl,_,rfl,_,_,rfl,rfl,AV y,_,_,rfl,rfl,?_⟩;rw [a6];refine ⟨D2 a0 a4,?_⟩;show Rw K _ _ _;refine FJ ⟨_,rfl,_,rfl,_,O,_,rfl,b6,l6,λg H7 s7 gn gB gr _=>?_⟩
  have g0:0<g:=by
   rcases Int.lt_or_eq_of_le gn with z | z
   ·exact z
   ·exact absurd (Int.zero_dvd.mp (z ▸ gB)) (BV o.B0 bq)
  have br:=s7 _ _ b6;obtain ⟨S5,bs⟩:=o.step hm nm m1 T bE rfl ao x.symm P.symm y hf a3 t6 e6 g0 gB gr;have bt:(O.map (·/ g)).length=O.length:=AR ..;refine FJ ⟨_,rfl,_,rfl,_,O,_,rfl,br,.inl g0,⋯,λc2 b7=>⟨_,rfl,_,rfl,_,_,rfl,rfl,g0,?_⟩⟩;have bv:=AQ b7 (.lst ((O.map (·/ g)).map V.int));have b8:=s6.trans s7;have ab:=b8.trans bv;exact ⟨O.length,bs,_,O.map (·/ g),_,_,_,_,_,_,rfl,s5.trans ab,upd_same,(B5 (b8 _ _ b1) b7).symm,ab _ _ b1,hn.tp (M_ ab),S5,bt.symm⟩
 ·have ao:r.length<m.length:=by have cc:=of_decide_eq_false (Bool.eq_false_iff.mpr cc);rw [AR] at cc;omega
  obtain ⟨N,L,NB,Nb,Nq⟩:=o.N;have a0:Bd 400000 B:=(DN (AV L) NB Nb).mono (A7 (Nat.add_le_add_left (Bk _ (Nat.sub_le _ _)) _) hc);have c5:=o.ql;show Rz K _ _ _;refine Bt (CJ (Ca ⟨_,rfl,_,_,I,rfl,Z,N4,⋯,λt1 z1 H5 s5 h5 n5=>?_⟩));have D:=s5 _ _ C;have bw:=o.len;refine Af ⟨_,rfl,_,rfl,_,r,_,rfl,D,o.B0,⋯,λt2 z2 H6 s6 h6 n6=>⟨Bi,λt ht=>?_⟩⟩;have st:=AQ ht (.tup [.ref t1,.ref t2]);have S:AX (r.map λn=>Ao n B):=λq v=>by obtain ⟨n,_,rfl⟩:=BR.mp v;exact DB o.B0
  have bx:∀ k,B_ (r.map λn=>Ao n B) k=(r.getD k 0:Rat) / (B:Rat):=λk=>by
   unfold B_ AZ;rw [AU,AU,Aq];cases r[k]? with
   | none=>exact (O' _).trans (O' _).symm
   | some z=>exact DC o.B0
  have Bo:=o.rb;have r0:r.length+1 - m.length=0:=by omega
  rw [r0,DJ] at Bo Nb;have bB:Bd (c0+(l.length+1 - m.length)*d0) B:=DN (AV L) NB Nb;obtain ⟨RO,RB⟩:=JT o.B0 Bo;obtain ⟨TO,TB⟩:=uZ RO RB;refine k t t1 t2 _ (trim I) (trim (r.map λn=>Ao n B)) ((((X.trans s4).trans s5).trans s6).trans st) upd_same (Pl.same ⟨z1,h5,n5⟩ (s6.trans st)) (Pl.same ⟨z2,h6,n6⟩ st) (λq v=>o.low q (DL v)) (Dx _) ?_ ⟨λq v=>S q (DL v),Dx _,_,TO,bB.le ⋯,TB⟩ ?_ λk=>?_
  ·have:=Dy I;omega
  ·have:=Dy (r.map λn=>Ao n B);rw [AR] at this;omega
  ·obtain ⟨d,hd⟩:∃ d,l.length+1 - m.length=(trim I).length+d:=⟨l.length+1 - m.length - (trim I).length,(Nat.add_sub_cancel' (by rw [<-c5];exact Dy I)).symm⟩;rw [Es S,bx,o.idn k,QL (λi=>(Es o.low i).symm),hd,QK (λi hi=>BN hi)];rfl
def MR.add {n F G L:dM} (a:MR n F) (b:MR n G) (h:∀ k,L k=F k+G k):MR n L:=by
 obtain ⟨A,c⟩:=a;obtain ⟨B,d⟩:=b;exact ⟨A3 A B,λk=>by rw [Bh,<-c k,<-d k,h k]⟩
def MR.smul {n F L:dM} (a:MR n F) (c:Rat) (h:∀ k,L k=c*F k):MR n L:=by
 obtain ⟨A,b⟩:=a;exact ⟨A.map (c*·),λk=>by rw [BF,<-b k,h k]⟩
def MR.sub {n F G L:dM} (a:MR n F) (b:MR n G) (h:∀ k,L k=F k - G k):MR n L:=
 a.add (b.smul (-1) (L:=λk=>-1*G k) λ_=>rfl) λk=>by rw [h k];ext
theorem K0 (F G:dM) (k:Nat):∀ n,cv F G n k=cvL ((List.range n).map F) G k
 | 0=>rfl
 | n+1=>by
   show cv F G n k+(if n<=k then F n*G (k - n) else 0)=_;rw [K0 F G k n,List.range_succ,EF,List.map_singleton,Db,AR,BL];unfold Ay;by_cases hk:n<=k
   ·rw [kA hk,kA hk]
   ·rw [lZ hk,lZ hk];ext
def tH {F:dM} {n:Nat} (h:∀ i,n<=i->F i=0) (k:Nat):F k=cvL ((List.range n).map F) Aj k:=by
 rw [Cy,AU,Aq];by_cases hk:k<n
 ·rw [DU hk];rfl
 ·rw [Bf (by rw [BL];omega),h k ⋯];rfl
def Gq.mono {b c b' c':Nat} {l:d7} (G:Gq b c l) (a:b<=b') (d:c<=c'):Gq b' c' l:=by
 obtain ⟨x,y,M,O,bM,e⟩:=G;exact ⟨x,y,M,O,bM.mono d,λz f=>(e z f).mono a⟩
def Do {T:d7} {b c:Nat} (g:AX T) (n:Nz T) {M:Int} (j:0<M) (bM:Bd c M) {N:dL} (h:∀ k,B_ T k=(N k:Rat) / (M:Rat)) (o:∀ k,Bd b (N k)):Gq b c T:=by
 have f:∀ q∈T,∃ k,q.2∣M/\q.1*(M / q.2)=N k:=λq d=>by
  obtain ⟨i,p,rfl⟩:=GI d;have e:AZ T i=T[i]:=by unfold AZ;rw [AU,Az p];rfl
  have m:=g _ d;have v:=h i;unfold B_ at v;rw [e] at v;exact ⟨i,UM m (UL (AV m.pos) (AV j) v)⟩
 refine ⟨g,n,M,⟨j,λq d=>?_⟩,bM,λz r=>?_⟩
 ·obtain ⟨k,a,_⟩:=f q d;exact a
 ·obtain ⟨q,d,rfl⟩:=BR.mp r;obtain ⟨k,_,a⟩:=f q d;rw [a];exact o k
def tI (h:JB K vs H Q E):Rj K { nx:=λ_ g=>Q .non g,rt:=Q } (L2.start ["one","other"] vs) H:=by
 obtain ⟨p,q,a,b,c,d,rfl,hp,i,e,f,j,m,n,o,k⟩:=h;unfold Rj;rwa [hp,i];exact ⟨DF j n,DF m o,AV (CF e f),λr u=>by rw [JL (CF e f)];exact k r u⟩
def tJ (h:Ho K vs H Q E):Rk K { nx:=λ_ e=>Q .non e,rt:=Q } (L2.start ["one","other"] vs) H:=by
 obtain ⟨p,q,a,b,c,d,rfl,hp,f,g,i,j,m,n,o,k⟩:=h;unfold Rk;rwa [hp,f];exact ⟨DF j o,DF m n,BV (AV g) i,k⟩
def tK (h:Kd K vs H Q E):Qy K { nx:=λ_ n=>Q .non n,rt:=Q } (L2.start ["row","other","result","place","whole","step","factor"] vs) H:=by
 obtain ⟨p,q,f,g,b,d,rfl,hp,O,bn,bm,b9,d9,ln,lm,k⟩:=h;unfold Qy;rwa [hp,O];have R:∀ C:dq,((!(List.map V.int C).isEmpty)=false)↔C.length=0:=λC=>by cases C <;> simp
 simp only [R];refine Ap (λc=>?_) (λc=>Ap (λc2=>?_) (λc2=>?_))
 ·exact ⟨sz ∅,λr S=>k r _ (AQ S _) (by rw [kA (.inl c)];exact upd_same)⟩
 ·exact ⟨sz ∅,λr S=>k r _ (AQ S _) (by rw [kA (.inr c2)];exact upd_same)⟩
 rw [lZ ⋯] at k;refine ⟨sz ∅,λa ha=>?_⟩;have P:=AQ ha (.lst [.int 0]);have G:=P _ _ hp;have T:=P _ _ O;rwa [G,T];rw [AR,AR];have eL:((f.length:Int)+(g.length:Int) - 1).toNat=f.length+g.length - 1:=by omega
 rw [eL,NC];refine ⟨⋯,⋯,sz ⋯,λw U=>?_⟩;generalize W:f.length+g.length - 1=L at U ⊢;have sw:=AQ U (.lst (Ag L λ_=>0))
 have w0:H w=none:=by
  cases e:H w with
  | none=>rfl
  | some o=>have z:=P _ _ e;rw [U] at z;cases z
 refine ⟨⟨_,SqL.of (sw _ _ G)⟩,ForJ.enumL (xs:=f.map V.int) (λi v n=>∃ X Y D F:dl,v=[some (.ref p),some (.ref q),some (.ref w),X,Y,D,F]/\Same H n/\n w=some (.lst (Ag L λk=>ps f g i k)))
  ⟨none,none,none,none,rfl,P.trans sw,upd_same⟩ ?_ ?_ ?_⟩
 ·rintro i v n _ ⟨_,_,_,_,_,B,_⟩;exact SqL.of (B _ _ hp)
 ·rintro i x pp v H1 I ⟨X,Y,D,F,rfl,B,m⟩ Z;rw [Aq] at I;cases en:f[i]? with
  | none=>rw [en] at I;cases I
  | some z=>
    rw [en] at I;obtain rfl:V.int z=x:=kH I;have il:i<f.length:=(Bw.mp en).1;have zd:f.getD i 0=z:=by rw [AU,en];rfl
    have J:=AQ Z (.tup [.int (i:Int),.int z]);rwa [];refine Ap (λc3=>?_) (λc3=>?_)
    ·refine ⟨⟨_,SqL.of (J _ _ (B _ _ O))⟩,ForJ.enumL (xs:=g.map V.int) (λj v n=>∃ D F:dl,v=[some (.ref p),some (.ref q),some (.ref w),some (.int (i:Int)),some (.int z),D,F]/\Same H n/\n w=some (.lst (Ag L λk=>bo f g i j k)))
      ⟨D,F,rfl,B.trans J,by rw [J _ _ m];exact congrArg (λl=>some (HO.lst l)) (Gu λk _=>(Z8 f g i k))⟩ ?_ ?_ ?_⟩
     ·rintro j v n _ ⟨_,_,_,M,_⟩;exact SqL.of (M _ _ O)
     ·rintro j y pq v H2 N ⟨y3,y4,rfl,M,A⟩ a0;rw [Aq] at N;cases em:g[j]? with
      | none=>rw [em] at N;cases N
      | some u=>
        rw [em] at N;obtain rfl:V.int u=y:=kH N;have jl:j<g.length:=(Bw.mp em).1;have ud:g.getD j 0=u:=by rw [AU,em];rfl
        have sq:=AQ a0 (.tup [.int (j:Int),.int u]);have a1:=sq _ _ A;rwa [a1];have kl:i+j<L:=by omega
        refine ⟨_,Dl ⋯ (CO _ kl),DF ((bn z (Bj en)).mono ⋯) ((bm u (Bj em)).mono ⋯),_,rfl,i+j,?_,λb o h=>Kp.upd b o (B5 h w0) (sq b o (M b o h)),?_⟩
        ·rw [CK];exact Fz ⋯ kl
        ·refine Gs kl ?_ λk _ hk=>?_
         ·rw [Ps,kA rfl,zd,ud]
         ·rw [Ps,lZ hk]
     ·rintro v H2 ⟨y3,y4,rfl,M,A⟩;rw [AR] at A;exact ⟨_,_,_,_,rfl,M,A⟩
    ·refine ⟨B.trans J,?_⟩;rw [J _ _ m];refine congrArg (λl=>some (HO.lst l)) (Gu λk _=>?_);have z0:z=0:=Decidable.not_not.mp c3;show ps f g i k+_=ps f g i k;rw [zd,z0];simp
 ·rintro v H1 ⟨X,Y,D,F,rfl,B,m⟩;rwa [];rw [AR] at m;subst W;exact k w H1 B m
def tL (h:Cp K vs H Q E):Ru K { nx:=λ_ P=>Q .non P,rt:=Q } (L2.start ["P","Q","one","other"] vs) H:=by
 obtain ⟨p,q,R,S,l,m,b,c,d,e,rfl,hp,f,T,U,Gl,j,ll,lm,b9,c9,d9,e9,k⟩:=h;unfold Ru;obtain ⟨n1,g,W⟩:=Gl.clr;obtain ⟨J,i,X⟩:=j.clr;have o:=Br Gl.low;have u:=Br j.low;refine BC (Ca (AO rfl ⟨_,R,l,Aa l,rfl,hp,T,Gl.low,o,g.mono ⋯,λq f=>(W q f).mono ⋯,⋯,λr a H1 A Y Z=>?_⟩));have B:=A _ _ f;refine BC (Ca (AO rfl ⟨_,S,m,Aa m,rfl,SqT.of B,NuK.of (U.tp (M_ A)),j.low,u,i.mono ⋯,λq f=>(X q f).mono ⋯,⋯,λr2 a2 H2 C v D=>?_⟩));have x:=C _ _ Y;have F:=C _ _ Z;rwa [x,v];have m1:(AL l).length=l.length:=by unfold AL;rw [AR]
 have L:(AL m).length=m.length:=by unfold AL;rw [AR]
 refine ⟨AL l,F,AL m,D,b,n1,d,J,⋯,⋯,⋯,⋯,λw H3 G hw=>?_⟩;have I:=G _ _ x;have y:=G _ _ v;rwa [I,y];have z:0<Aa l*Aa m:=CF o.1 u.1;refine ⟨DF (g.mono ⋯) (i.mono ⋯),_,hw,AV z,?_,λr4 zs H4 s4 h4 M=>?_⟩
 ·split
  ·exact Ae _
  ·rw [AR,BL];omega
 have O:trim (Fk l m (l.length+m.length))=trim (List.map (λn=>Ao n (Aa l*Aa m)) (if (AL l).length=0\/(AL m).length=0 then [] else List.map (λk=>ps (AL l) (AL m) (AL l).length k) (List.range ((AL l).length+(AL m).length - 1)))):=by
  rw [m1,L,show (λn=>Ao n (Aa l*Aa m))=λn=>a7 n (Aa l*Aa m) from funext λn=>JL z];exact Z9 z L
 have lo:AX (Fk l m (l.length+m.length)):=zD o u
 have pv:∀ k,B_ (trim (Fk l m (l.length+m.length))) k=cv (B_ l) (B_ m) l.length k:=λk=>by
  rw [Es lo];exact zE Gl.low j.low o u k
 rw [<-O] at M;refine k r4 _ H4 (((A.trans C).trans G).trans s4) ⟨zs,h4,M⟩ ?_ ?_ pv
 ·refine Do (λq f=>lo q (DL f)) (Dx _) z (g.mul i) (N:=λk=>ps (AL l) (AL m) l.length k) (λk=>?_) λk=>Pt n1 J _ _;rw [pv];exact (MU Gl.low j.low o u _ _).symm
 ·rw [O];refine A7 (Dy _) ?_;rw [AR];split
  ·exact Ae _
  ·rw [AR,BL];omega
def tM (h:JC K vs H Q E):Rv K { nx:=λ_ d=>Q .non d,rt:=Q } (L2.start ["P","c"] vs) H:=by
 obtain ⟨p,c,m,l,a,b,rfl,hp,F,y,G,I,J,L,M,ll,k⟩:=h;unfold Rv;rwa [hp];have N:=y.length;refine ⟨⟨_,SqT.of hp⟩,CompJ.tup (xs:=m) (λi g d=>i<=m.length/\Same H d/\Nums d g ((l.take i).map λq=>I_ q (a,b))) ⟨Ae _,Same.refl H,trivial⟩ ?_ ?_ ?_⟩
 ·rintro i g d ⟨A,e,f⟩;exact ⟨A,sz (by rw [f.length,AR,Cd];omega),e _ _ hp⟩
 ·rintro i x g d B ⟨A,e,f⟩;obtain ⟨z,o,X,rfl,u⟩:=y.get B;have O:i<m.length:=(Bw.mp B).1;have j:=e _ _ u;have v:=e _ _ F;have P:=G z (Bj o);have C:=M z (Bj o);rwa [j,v];refine ⟨P.pos,I,C.1,C.2,J,L,λr n=>⟨⋯,e.trans (AQ n _),?_⟩⟩;rw [Hz _ o];exact (f.tp (M_ (AQ n _))).append (Nums.one Ft)
 ·rintro g d ⟨_,e,f⟩ w R;have D:=AQ R (.lst g);rw [N,DS] at f;rwa [];exact ⟨_,f.tp (M_ D),by rw [AR];omega,λr S T U n W=>k r S T ((e.trans D).trans U) n W⟩
def tO (h:EW K vs H Q E):SJ K { nx:=λ_ r=>Q .non r,rt:=Q } (L2.start ["P","Q"] vs) H:=by
 obtain ⟨p,q,w,x,l,m,b,c,d,e,rfl,hp,y,z,A,Gl,f,n,ll,B,C,D,F,G,I,k⟩:=h;unfold SJ;refine Bt (A6 (Af (AO rfl (AO rfl ⟨p,q,w,x,l,m,b,c,d,e,rfl,hp,y,z,A,Gl,f,n,ll,B,C,D,F,G,λt u v J a g L M N U O R S W X o=>?_⟩))))
 have T:∀ k,B_ g k=0:=by
  have j:MR (B_ m) (B_ g):=I.sub (tE (P:=λk=>cv (B_ a) (B_ m) a.length k) a.length (λk=>rfl)) λk=>by have:=o k;show B_ g k=B_ l k - cv (B_ a) (B_ m) a.length k;ext
  refine λk=>MR.short (DG f.low f.nz n) (λi Y=>BN ⋯) j (λk hk=>BN ⋯) k
 exact ⟨_,_,_,_,rfl,rfl,M,rfl,k u a J L N O R S λk=>by rw [o k,T k];ext⟩
def K1 (l:d7) (k:Nat):cvL (rw' l) Aj k=B_ l k:=(tH (λi a=>BN a) k).symm
def K2 (l:d7) (g:dM) (k:Nat):cv (B_ l) g l.length k=cvL (rw' l) g k:=K0 _ _ k _
theorem tP {L M G T B:dM} {t b U W:List Rat} {n:Nat} (a:∀ k,cvL t Aj k=T k) (c:∀ k,cvL b Aj k=B k) (d:G n≠0) (f:∀ i,n<i->G i=0)
  (g:∀ k,L k=cvL t G k) (h:∀ k,M k=cvL b G k) (e:∀ k,G k=cvL U L k+cvL W M k):Cop T B:=by
 refine ⟨U,W,λk=>?_⟩
 have z:=Mi d f (A:=[1]) (B:=A3 (BW U t) (BW W b)) (λk=>by
  rw [Bh,By,By,<-BJ g,<-BJ h,<-e k];cases k with
  | zero=>rw [Ax];ext
  | succ k=>rw [Ar,BE];ext) Aj k
 rw [Bh,By,By,BJ a,BJ c] at z;rw [<-z,Cy];cases k with
 | zero=>rfl
 | succ k=>rfl
def Cop.scal {T B a b:dM} {s:Rat} (c:s≠0) (h:Cop T B) (d:∀ k,a k=s*T k) (f:∀ k,b k=s*B k):Cop a b:=by
 obtain ⟨U,W,e⟩:=h;refine ⟨U.map (s⁻¹*·),W.map (s⁻¹*·),λk=>?_⟩;rw [BF,BF,BJ d,BJ f,DD,DD,e k];have:s⁻¹*s=1:=Rat.inv_mul_cancel s c;ext
def tQ {B a:d7} (m:AX B) (b:AX a) (n:Nz B) (g:Nz a) (p:B≠[]) (j:a≠[]) (o:AZ B (B.length - 1)=(1,1)) (q:AZ a (a.length - 1)=(1,1)) (h:MR (B_ B) (B_ a)) (h':MR (B_ a) (B_ B)):B=a:=by
 have len:∀ {B a:d7},AX B->AX a->Nz B->Nz a->B≠[]->a≠[]->MR (B_ B) (B_ a)->B.length<=a.length:=λ{B a} m b n g p j h=>by
  rcases Av a.length B.length with c | c
  ·exact absurd (MR.short (DG m n p) (λi r=>BN ⋯) h (λk hk=>BN ⋯) (a.length - 1)) (DG b g j)
  ·exact c
 have e:B.length=a.length:=Ef (len m b n g p j h) (len b m g n j p h');have v:0<B.length:=BI.mpr p;refine QG m b n g λk=>?_
 have d:=MR.short (f:=λk=>B_ a k - B_ B k) (DG m n p) (λi r=>BN ⋯) (h.sub ⟨[1],λk=>by
  cases k with
  | zero=>rw [Ax];ext
  | succ k=>rw [Ar,BE];ext⟩ λk=>rfl) (λk hk=>by
    rcases Av (B.length - 1) k with c | c
    ·show B_ a k - B_ B k=0;rw [BN ⋯,BN ⋯];ext
    ·have u:k=B.length - 1:=by omega
     show B_ a k - B_ B k=0;unfold B_;rw [u,o,e,q];ext) k
 have d:B_ a k - B_ B k=0:=d;ext
def tR {l m:d7} {g:dq} (a:AX l) (b:AX m) (R:RC (co (AL l)) (co (AL m)) g):∃ U W:List Rat,∀ k,B_ (K_ g) k=cvL U (B_ l) k+cvL W (B_ m) k:=by
 obtain ⟨d,c,U,W,f⟩:=R.qi;have h:=AY c;have j:=UP a;have n:=UP b;refine ⟨(U.map λz:Int=>(z:Rat)).map (((co g (g.length - 1):Rat))⁻¹*(d:Rat)⁻¹*(((Aa l:Rat))⁻¹)⁻¹*·),(W.map λz:Int=>(z:Rat)).map (((co g (g.length - 1):Rat))⁻¹*(d:Rat)⁻¹*(((Aa m:Rat))⁻¹)⁻¹*·),λk=>?_⟩;have e:(d:Rat)*(co g k:Rat)=((cvL U (co (AL l)) k:Int):Rat)+((cvL W (co (AL m)) k:Int):Rat):=by exact_mod_cast f k
 rw [Kz j (EX a),Kz n (EX b)] at e;rw [BF,BF,EY R.lz];generalize cvL (U.map λz:Int=>(z:Rat)) (B_ l) k=x at e ⊢;generalize cvL (W.map λz:Int=>(z:Rat)) (B_ m) k=y at e ⊢;generalize ((Aa l:Rat)⁻¹)⁻¹=u at e ⊢;generalize ((Aa m:Rat)⁻¹)⁻¹=v at e ⊢;have i:(d:Rat)⁻¹*(d:Rat)=1:=Rat.inv_mul_cancel _ h;have:(co g k:Rat)=(d:Rat)⁻¹*(u*x+v*y):=by rw [<-e];ext
 rw [this];ext
theorem NU {l a:d7} {g:dq} {b n c:Nat} (j:AX l) (r:AX a) (o:∀ z∈AL l,Bd b z) (p:l.length<=n) (q:n<2 ^ c) (d:Lz g) (P:Prim g) (m:MQ (co g) (co (AL l))) (e:∀ k,B_ l k=cv (B_ a) (B_ (K_ g)) a.length k) :
  ∃ A:dq,(∀ k,Bd (b+n*(2*c+4)) (co A k))/\∀ k,B_ a k=((co g (g.length - 1):Rat))*(co A k:Rat)*((Aa l:Rat))⁻¹:=by
 obtain ⟨A,f⟩:=T_ P m;refine ⟨A,uK o (by rw [Be];exact p) q d f,λk=>?_⟩;have u:=AY d.2;have top:B_ (K_ g) (g.length - 1)≠0:=by rw [EY d];ext
 have h:∀ i,g.length - 1<i->B_ (K_ g) i=0:=λi h=>BN (by rw [D4];omega)
 have z:=Mi top h (A:=rw' a) (B:=(A.map λz:Int=>(z:Rat)).map ((co g (g.length - 1):Rat)*((Aa l:Rat))⁻¹*·)) (λk=>by
  rw [<-K2,<-e k,BF,EX j,f k,Kz (GA d) (EY d)];ext) Aj k
 rw [K1,BF,Cy,AU,Aq] at z;rw [z];unfold co;rw [AU (l:=A)];cases A[k]? with
 | none=>show _*(0:Rat)=_*((0:Int):Rat)*_;ext
 | some v=>show _*(v:Rat)=_*(v:Rat)*_;ext
theorem K3 {l:d7} {a b:Int} (c:AX l) (d:0<b) (k:Nat):B_ (l.map λq=>I_ q (a,b)) k=val (a,b)*B_ l k:=by
 unfold B_ AZ;rw [AU,AU,Aq];cases e:l[k]? with
 | none=>
   show val (0,1)=_*val (0,1);have:val (0,1)=0:=by unfold val;exact O' _
   rw [this];ext
 | some q=>
   show val (I_ q (a,b))=_*val q;rw [QD (c q (Bj e)).pos d];ext
def K4 {l:d7} {a b:Int} (c:AX l) (d:0<b):AX (l.map λq=>I_ q (a,b)):=λq e=>by
 obtain ⟨z,f,rfl⟩:=BR.mp e;exact Pi (c z f).pos d
def tS {H:Hp} {p:Addr} (h:H p=some (.tup [.int 1,.int 1])):isN H (.ref p) (1,1):=⟨p,rfl,h⟩
def JU:Low 1 1:=⟨∅,∅⟩
def b_ {n:Nat} {x:Int} (h:x.natAbs<2 ^ n):Bd n x:=h
def tT (h:Hr K vs H Q E):SI K { nx:=λ_ W=>Q .non W,rt:=Q } (L2.start ["P","Q","factor"] vs) H:=by
 obtain ⟨p,q,l,m,rfl,⟨xs,hp,X⟩,⟨Y,c,A⟩,ll,L,Z,M,N,D,l9,m9,k⟩:=h;have p1:0<m.length:=BI.mpr M;obtain ⟨v,F,pv,rfl,b⟩:=A.at (i:=m.length - 1) ⋯ (0,1);have G:N_ Y (-1)=some (V.ref pv):=NG (by rw [A.length];exact p1) (by rw [A.length];exact F);have O:Low (AZ m (m.length - 1)).1 (AZ m (m.length - 1)).2:=CZ L _;have tn:=UN Z M
 have mL:AZ m (m.length - 1)∈m:=by
  unfold AZ;rw [AU,Az ⋯];exact Eh _
 have r:=D _ mL;have b:H pv=some (HO.tup [V.int (AZ m (m.length - 1)).1,V.int (AZ m (m.length - 1)).2]):=b;generalize a0:AZ m (m.length - 1)=o at b O tn r k;unfold SI;rwa [];refine ⟨sz ∅,λw hw=>?_⟩;have B:=AQ hw (.tup [.int 1,.int 1]);have x:=B _ _ c;have d:=B _ _ b;have y:upd H w (.tup [.int 1,.int 1]) w=some (HO.tup [V.int 1,V.int 1]):=upd_same;generalize upd H w (.tup [.int 1,.int 1])=P at B x d y ⊢;refine ⟨_,x,_,G,_,rfl,?_⟩;rwa [d,y];have R:Bd 60000000 1:=(b_ (n:=1) ∅).mono ∅;refine ⟨∅,tn,R,R,r.1.mono ∅,r.2.mono ∅,λf hf=>?_⟩;rw [Int.one_mul,Int.one_mul];have C:=DB (n:=o.2) tn;have z:=Dk tn r.2 r.1
 have S:val (Ao o.2 o.1)*val o=1:=by
  have z1:=AY tn;have z2:=AY (AV O.pos);rw [DC tn];unfold val;ext
 generalize Ao o.2 o.1=a at C z S ⊢;have T:=AQ hf (.tup [.int a.1,.int a.2]);have e:upd P f (.tup [.int a.1,.int a.2]) f=some (HO.tup [V.int a.1,V.int a.2]):=upd_same;generalize upd P f (.tup [.int a.1,.int a.2])=H4 at T e ⊢;have g:=B.trans T;have I:=g _ _ hp;rwa [I,e];refine ⟨l,X.tp (M_ g),ll,C.pos,z.1.mono ∅,z.2.mono ∅,λq c=>⟨(N q c).1.mono ∅,(N q c).2.mono ∅⟩,⋯,λu us H6 U hu nu=>?_⟩;have j:=g.trans U;refine ⟨_,j _ _ c,m,a.1,a.2,U _ _ e,A.tp (M_ j),L,C.pos,z.1.mono ∅,z.2.mono ∅,λq c=>⟨(D q c).1.mono ∅,(D q c).2.mono ∅⟩,⋯,λv vs H7 J F nv=>⟨sz ∅,λt ht=>?_⟩⟩;have st:=AQ ht (.tup [.ref u,.ref v]);exact k a C S t u v _ ((j.trans J).trans st) upd_same ⟨us,st _ _ (J _ _ hu),(nu.tp (M_ J)).tp (M_ st)⟩ ⟨vs,st _ _ F,nv.tp (M_ st)⟩
def aD (q r:Nu):a8 q (-r.1,r.2)=a9 q r:=by
 unfold a8 a9;congr 1;show q.1*r.2 + -r.1*q.2=_;ext
def US {q r:Nu} (a:0<q.2) (b:0<r.2):val (a9 q r)=val q - val r:=by
 rw [<-aD,QC (r:=(-r.1,r.2)) a b,uY];ext
def UT {f:Nu->Nu->Nu} {s:Int} (j:∀ q r:Nu,0<q.2->0<r.2->Low (f q r).1 (f q r).2/\val (f q r)=val q+(s:Rat)*val r) (u:s=1\/s = -1) {l m:d7} {M:Int} {b c:Nat} (d:AX l) (g:AX m) (n:Ov l M) (v:Ov m M) (bM:Bd c M) (w:∀ z∈P_ l M,Bd b z) (x:∀ z∈P_ m M,Bd b z) :
  Gq (b+1) c (trim (FE f l m))/\(trim (FE f l m)).length<=max l.length m.length/\∀ k,B_ (trim (FE f l m)) k=B_ l k+(s:Rat)*B_ m k:=by
 have a:AX (FE f l m):=λq h=>by
  obtain ⟨i,_,rfl⟩:=BR.mp h;exact (j _ _ (CZ d i).pos (CZ g i).pos).1
 have pv:∀ k,B_ (trim (FE f l m)) k=B_ l k+(s:Rat)*B_ m k:=λk=>by
  rw [Es a];rcases Av k (max l.length m.length) with c | c
  ·have e:AZ (FE f l m) k=f (AZ l k) (AZ m k):=by
    unfold FE AZ;rw [AU,Aq,DU c];rfl
   unfold B_;rw [e,(j _ _ (CZ d k).pos (CZ g k).pos).2]
  ·rw [BN (by unfold FE;rw [AR,BL];exact c),BN (l:=l) ⋯,BN (l:=m) ⋯];ext
 refine ⟨Do (λq h=>a q (DL h)) (Dx _) n.1 bM (N:=λk=>(P_ l M).getD k 0+s*(P_ m M).getD k 0) (λk=>?_) λk=>?_,?_,pv⟩
 ·rw [pv,DY d n,DY g v];push_cast;ext
 ·have o:=DM w k;have p:=DM x k;rcases u with z | z
  ·rw [z,Int.one_mul];exact o.add p
  ·rw [z,show (P_ l M).getD k 0 + -1*(P_ m M).getD k 0=(P_ l M).getD k 0 - (P_ m M).getD k 0 by omega];exact o.sub p
 ·refine A7 (Dy _) ?_;unfold FE;rw [AR,BL];exact AT _
def tU (h:Mo K vs H Q E):Rh K { nx:=λ_ j=>Q .non j,rt:=Q } (L2.start ["one","other"] vs) H:=by
 obtain ⟨p,q,a,b,c,d,rfl,hp,m,e,f,n,g,o,i,k⟩:=h;unfold Rh;rwa [hp,m];exact ⟨DF n i,DF o g,DF g i,AV (CF e f),λr u=>by rw [JL (CF e f)];exact k r u⟩
def tV (h:Ke K vs H Q E):Ri K { nx:=λ_ j=>Q .non j,rt:=Q } (L2.start ["one","other"] vs) H:=by
 obtain ⟨p,q,a,b,c,d,rfl,hp,m,e,f,n,g,o,i,k⟩:=h;unfold Ri;rwa [hp,m];exact ⟨DF n i,DF o g,DF g i,AV (CF e f),λr u=>by rw [JL (CF e f)];exact k r u⟩
def tY (h:Go K vs H Q E):Ro K { nx:=λ_ b=>Q .non b,rt:=Q } (L2.start ["P","place"] vs) H:=by
 obtain ⟨p,g,l,i,rfl,hp,a,q⟩:=h;unfold Ro;rwa [hp];have j:=a.length;refine Ap (λc=>?_) (λc=>⟨sz ∅,λr d=>q _ _ (AQ d _) ?_⟩)
 ·obtain ⟨v,e,f⟩:=a.at (i:=i) ⋯ (0,1);exact ⟨v,IU e,q v H (Same.refl H) f⟩
 ·rw [MT ⋯];exact Ft (q:=(0,1))
theorem K5 {l:d7} {M:Int} {b c:Nat} (a:AX l) (O:Ov l M) (bM:Bd c M) (d:∀ z∈P_ l M,Bd b z) (i:Nat):Bd (b+1) (AZ l i).1/\Bd (c+1) (AZ l i).2:=by
 unfold AZ;rw [AU];cases e:l[i]? with
 | none=>exact ⟨Cn _,(b_ (n:=1) ∅).mono ⋯⟩
 | some q=>
   have m:=Bj e;exact ⟨(Tw a O d q m).mono ⋯,(DN (AV O.1) (O.2 q m) bM).mono ⋯⟩
def tZ (h:Kf K vs H Q E):Rs K { nx:=λ_ e=>Q .non e,rt:=Q } (L2.start ["P","Q"] vs) H:=by
 obtain ⟨p,q,T,U,l,m,M,b,c,rfl,hp,I,J,L,B,C,N,O,bM,n,o,b9,c9,ll,lm,k⟩:=h;unfold Rs;rwa [hp,I];have W:=J.length;have X:=L.length;rw [Tr,W,X];refine ⟨⋯,⋯,CompJ.range (λi w e=>i<=max l.length m.length/\Same H e/\Nums e w ((List.range i).map λi=>a9 (AZ l i) (AZ m i))) ⟨Ae _,Same.refl H,trivial⟩ ?_ ?_ ?_⟩
 ·rintro i w e ⟨x,d,y⟩;exact ⟨x,sz (by rw [y.length,AR,BL];omega)⟩
 ·rintro i w e hi ⟨x,d,y⟩;rwa [];rw [show (0:Int)+(i:Int)=(i:Int) by omega];refine ⟨T,l,i,rfl,d _ _ hp,J.tp (M_ d),λv H1 g Y=>⟨U,m,i,rfl,g _ _ (d _ _ I),L.tp (M_ (d.trans g)),λu H2 z Z=>?_⟩⟩;obtain ⟨pv,rfl,D⟩:=Y.tp (M_ z);obtain ⟨pu,rfl,F⟩:=Z;have P:=K5 B N bM n i;have R:=K5 C O bM o i;refine ⟨pv,rfl,pu,rfl,_,_,D,_,_,F,(CZ B i).pos,(CZ C i).pos,P.1.mono ⋯,P.2.mono ⋯,R.1.mono ⋯,R.2.mono ⋯,λr A=>⟨⋯,((d.trans g).trans z).trans (AQ A _),?_⟩⟩;rw [Ts];exact (y.tp (M_ ((g.trans z).trans (AQ A _)))).append (Nums.one Ft)
 ·rintro w e ⟨_,d,y⟩ a ha;rwa [];have g:=AQ ha (.lst w);have j:=UT (f:=a9) (s:=-1) (λq r x S=>⟨Ph x S,by rw [US x S];push_cast;ext⟩) (.inr rfl) B C N O bM n o;refine ⟨_,y.tp (M_ g),by rw [AR,BL];omega,λr os G z A hz=>?_⟩;exact k r _ G ((d.trans g).trans z) ⟨os,A,hz⟩ j.1 j.2.1 λk=>by have:=j.2.2 k;exact this
def JV {P A C:d7} (f:AX P) (g:Nz P) (j:AX A) (m:Nz A) (b:A≠[]) (o:AX C) (p:Nz C) (C0:C≠[]) (h:∀ k,B_ P k=cv (B_ A) (B_ C) A.length k) :
  P.length+1=A.length+C.length/\B_ P (P.length - 1)=B_ A (A.length - 1)*B_ C (C.length - 1)/\P≠[]:=by
 have v:0<A.length:=BI.mpr b;have w:0<C.length:=BI.mpr C0
 have a:∀ k,A.length+C.length - 1<=k->B_ P k=0:=λk hk=>by
  rw [h,K0];exact KL (n:=C.length - 1) (λi a=>BN ⋯) _ _ (by rw [AR,BL];omega)
 have top:B_ P (A.length - 1+(C.length - 1))=B_ A (A.length - 1)*B_ C (C.length - 1):=by
  rw [h];obtain ⟨n,e⟩:∃ n,A.length=n+1:=⟨A.length - 1,⋯⟩;rw [e];show cv (B_ A) (B_ C) n (n+1 - 1+(C.length - 1))+_=_
  have z:cv (B_ A) (B_ C) n (n+(C.length - 1))=0:=by
   rw [K0];exact KL (n:=C.length - 1) (λi a=>BN ⋯) _ _ (by rw [AR,BL];omega)
  rw [E2,z,kA ⋯,show n+(C.length - 1) - n=C.length - 1 by omega,Rat.zero_add]
 have r:B_ P (A.length - 1+(C.length - 1))≠0:=by
  rw [top];intro z;rcases Cg.mp z with q | q
  ·exact DG j m b q
  ·exact DG o p C0 q
 have x:A.length - 1+(C.length - 1)<P.length:=by
  rcases Av (A.length - 1+(C.length - 1)) P.length with c | c
  ·exact c
  ·exact absurd (BN c) r
 have d:P≠[]:=BI.mp ⋯
 have u:P.length=A.length - 1+(C.length - 1)+1:=by
  rcases Av (A.length - 1+(C.length - 1)+1) P.length with c | c
  ·exact absurd (a (P.length - 1) ⋯) (DG f g d)
  ·omega
 exact ⟨⋯,by rw [u,E2];exact top,d⟩
def JW {B:d7} (a:AX B) (h:B_ B (B.length - 1)=1):AZ B (B.length - 1)=(1,1):=by
 refine EU (CZ a _) JU ?_;have:val ((1:Int),(1:Int))=1:=by unfold val;show ((1:Int):Rat) / ((1:Int):Rat)=1;rw [show ((1:Int):Rat)=1 from rfl];ext
 rw [this];exact h
def D5 {B:d7} (h:AZ B (B.length - 1)=(1,1)):B_ B (B.length - 1)=1:=by
 unfold B_;rw [h];unfold val;show ((1:Int):Rat) / ((1:Int):Rat)=1;rw [show ((1:Int):Rat)=1 from rfl];ext
def FF.same {H d:Hp} {p:Addr} {T B:d7} (h:FF H p T B) (s:Same H d):FF d p T B:=let ⟨u,v,a,b,c⟩:=h;⟨u,v,s _ _ a,b.same s,c.same s⟩
def UU {l a:d7} {g:dq} {b c n e d:Nat} (Gl:Gq b c l) (f:AX a) (h:Nz a) (i:l.length<=n) (j:n<2 ^ e) (o:Lz g) (P:Prim g) (p:Bd d (co g (g.length - 1))) (m:MQ (co g) (co (AL l))) (q:∀ k,B_ l k=cv (B_ a) (B_ (K_ g)) a.length k):Gq (d+(b+n*(2*e+4))) c a:=by
 obtain ⟨A,r,u⟩:=NU Gl.low f Gl.clr.1 i j o P m q;exact Do f h (Br Gl.low).1 Gl.clr.2.1 (N:=λk=>co g (g.length - 1)*co A k) (λk=>by rw [u,Rat.div_def];push_cast;rfl) λk=>Bd.mul p (r k)
def UV {b c:Nat} {l m:d7} (g:Gq b c l) (h:Gq b c m):∃ M,Ov l M/\Ov m M/\Bd (c+c) M/\(∀ z∈P_ l M,Bd (b+c) z)/\∀ z∈P_ m M,Bd (b+c) z:=by
 have a:∀ {l:d7} {M N:Int},AX l->Ov l M->(∀ z∈P_ l M,Bd b z)->0<N->Bd c N->Ov l (M*N)/\∀ z∈P_ l (M*N),Bd (b+c) z:=λ{l M N} y O o p d=>by
  refine ⟨⟨CF O.1 p,λq f=>GH (O.2 q f)⟩,λz r=>?_⟩;obtain ⟨q,f,rfl⟩:=BR.mp r;have e:M*N / q.2=M / q.2*N:=Int.mul_ediv_assoc' N (O.2 q f);rw [e,<-Int.mul_assoc];exact (o _ (BR.mpr ⟨q,f,rfl⟩)).mul d
 obtain ⟨M,i,bM,u⟩:=g.ov;obtain ⟨N,j,d,v⟩:=h.ov;obtain ⟨w,x⟩:=a g.low i u j.1 d;obtain ⟨k,n⟩:=a h.low j v i.1 bM;rw [Int.mul_comm N M] at k n;exact ⟨M*N,w,k,bM.mul d,x,n⟩
theorem UW:∀ A:List Rat,∃ (N:Int) (Z:dq),N≠0/\A.map ((N:Rat)*·)=Z.map λz:Int=>(z:Rat)
 | []=>⟨1,[],∅,rfl⟩
 | a::A=>by
   obtain ⟨N,Z,b,h⟩:=UW A;refine ⟨(a.den:Int)*N,(a.num*N)::Z.map ((a.den:Int)*·),BV (by have:=a.den_nz;omega) b,?_⟩;rw [Ds,Ds];congr 1
   ·have h:=Rat.num_divInt_den a;rw [Rat.divInt_eq_div] at h;have d:((a.den:Int):Rat)≠0:=by have:=a.den_nz;exact_mod_cast this
    have e:((a.den:Int):Rat)=(a.den:Rat):=by push_cast;rfl
    push_cast;ext
   ·rw [List.map_map]
    have e:A.map (λx=>(((a.den:Int)*N:Int):Rat)*x)=(A.map ((N:Rat)*·)).map ((a.den:Rat)*·):=by
     rw [List.map_map];refine Ej λx _=>?_;show _=(a.den:Rat)*((N:Rat)*x);push_cast;ext
    rw [e,h,List.map_map];refine Ej λz _=>?_;show (a.den:Rat)*(z:Rat)=(((a.den:Int)*z:Int):Rat);push_cast;rfl
def CompJ.enumL {K:W.Frag} {capt:List (Option Nat)} {g:TG} {f:TE} {j:L2.St} {H:Hp} {Q:VK} {a:Addr} {xs:dj} (W:Nat->dj->Hp->Prop) (k:W 0 [] H) (c:∀ i b H,W i b H->i<=xs.length/\b.length<=sizeLine/\SqL K H a xs)
  (m:∀ i x p b H,xs[i]?=some x->W i b H->H p=none->g (.ref p) (Ci capt j) (upd H p (.tup [.int i,x])) λd n=>f d n λy o=>W (i+1) (b++[y]) o) (r:∀ b H,W xs.length b H->∀ p,H p=none->Q (.ref p) (upd H p (.lst b))):CompJ (HQ K a) capt g f j Q H:=by
 refine ⟨xs.length,W,k,λi b H w=>⟨(c i b H w).1,(c i b H w).2.1,?_⟩⟩;have q:SqL K H a xs:=(c i b H w).2.2;by_cases h:i<xs.length
 ·refine .inr ⟨h,⟨xs,xs[i],q,by simp [h]⟩,λx v y=>?_⟩;obtain ⟨p,u,hp,rfl,rfl,y⟩:=y;exact m i u p b _ (y xs q) w hp
 ·have e:i=xs.length:=Ef (c i b H w).1 (Nat.not_lt.mp h);subst e;exact .inl ⟨⟨xs,q,AT _⟩,r b H w⟩
def JX (l:d7):sr l=Sr.L (rw' l):=Sr.ext' λk=>(K1 l k).symm
def AW (l:d7):Sr.Pol (sr l):=⟨_,JX l⟩
def sA (l:d7) (g:dM):(⟨cvL (rw' l) g⟩:Sr)=sr l*⟨g⟩:=by rw [JX,Sr.L_mul]
def Dp {P A C:d7} (h:∀ k,B_ P k=cv (B_ A) (B_ C) A.length k):sr P=sr A*sr C:=by
 refine Eq.trans ?_ (sA A (B_ C));exact Sr.ext' λk=>(h k).trans (K2 _ _ _)
def Bu {l:d7} (a:AX l) (b:Nz l) (c:l≠[]):sr l≠0:=λz=>DG a b c (by
 have:=kJ (congrArg Sr.c z) (l.length - 1);rw [Sr.zero_c] at this;exact this)
def UX {l m:d7} (a:AX l) (b:AX m) (n1:Nz l) (c:Nz m) (h:sr l=sr m):l=m:=QG a b n1 c λk=>kJ (congrArg Sr.c h) k
def Gx (k:Nat):(1:Sr).c k=Aj k:=by show ((1:Nat):Rat)*Aj k=_;push_cast;ext
def sr_cop {T B:d7}:Cop (B_ T) (B_ B)↔Sr.Cs (sr T) (sr B):=by
 constructor
 ·rintro ⟨U,W,e⟩;refine ⟨Sr.L U,Sr.L W,Sr.Pol.L _,Sr.Pol.L _,?_⟩;rw [Sr.L_mul,Sr.L_mul];exact Sr.ext' λk=>by rw [Gx,e k];rfl
 ·rintro ⟨_,_,⟨U,rfl⟩,⟨W,rfl⟩,e⟩;refine ⟨U,W,λk=>?_⟩;rw [Sr.L_mul,Sr.L_mul] at e;have:=kJ (congrArg Sr.c e) k;rw [Gx] at this;exact this.symm
def sB (h:JF K vs H Q E):Rq K { nx:=λ_ e=>Q .non e,rt:=Q } (L2.start ["P","Q"] vs) H:=by
 obtain ⟨p,q,T,U,l,m,M,b,c,rfl,hp,I,J,L,B,C,N,O,bM,n,o,b9,c9,ll,lm,k⟩:=h;unfold Rq;rwa [hp,I];have W:=J.length;have X:=L.length;rw [Tr,W,X];refine ⟨⋯,⋯,CompJ.range (λi w e=>i<=max l.length m.length/\Same H e/\Nums e w ((List.range i).map λi=>a8 (AZ l i) (AZ m i))) ⟨Ae _,Same.refl H,trivial⟩ ?_ ?_ ?_⟩
 ·rintro i w e ⟨x,d,y⟩;exact ⟨x,sz (by rw [y.length,AR,BL];omega)⟩
 ·rintro i w e hi ⟨x,d,y⟩;rwa [];rw [show (0:Int)+(i:Int)=(i:Int) by omega];refine ⟨T,l,i,rfl,d _ _ hp,J.tp (M_ d),λv H1 g Y=>⟨U,m,i,rfl,g _ _ (d _ _ I),L.tp (M_ (d.trans g)),λu H2 z Z=>?_⟩⟩;obtain ⟨pv,rfl,D⟩:=Y.tp (M_ z);obtain ⟨pu,rfl,F⟩:=Z;have P:=K5 B N bM n i;have R:=K5 C O bM o i;refine ⟨pv,rfl,pu,rfl,_,_,D,_,_,F,(CZ B i).pos,(CZ C i).pos,P.1.mono ⋯,P.2.mono ⋯,R.1.mono ⋯,R.2.mono ⋯,λr A=>⟨⋯,((d.trans g).trans z).trans (AQ A _),?_⟩⟩;rw [Ts];exact (y.tp (M_ ((g.trans z).trans (AQ A _)))).append (Nums.one Ft)
 ·rintro w e ⟨_,d,y⟩ a ha;rwa [];have g:=AQ ha (.lst w);have j:=UT (f:=a8) (s:=1) (λq r x S=>⟨Z3 x S,by rw [QC x S];ext⟩) (.inl rfl) B C N O bM n o;refine ⟨_,y.tp (M_ g),by rw [AR,BL];omega,λr os G z A hz=>?_⟩;exact k r _ G ((d.trans g).trans z) ⟨os,A,hz⟩ j.1 j.2.1 λk=>by have:=j.2.2 k;exact this
theorem JY (p:dL):∀ (w:dq) (k:Nat),((cvL w p k:Int):Rat)=cvL (w.map λz:Int=>(z:Rat)) (λk=>(p k:Rat)) k
 | [],_=>rfl
 | x::w,0=>by rw [Ax];show _=(x:Rat)*(p 0:Rat)+0;push_cast;rfl
 | x::w,k+1=>by rw [Ar];show _=(x:Rat)*(p (k+1):Rat)+cvL (w.map λz:Int=>(z:Rat)) (λk=>(p k:Rat)) k;rw [<-JY p w k];push_cast;rfl
def Dq (ns:dq):si ns=Sr.L (ns.map λz:Int=>(z:Rat)):=Sr.ext' λk=>by
 show ((co ns k:Int):Rat)=cvL _ Aj k;rw [Cy];unfold co;rw [AU,AU,Aq];cases ns[k]? <;> rfl
def DO (ns:dq):Sr.Pol (si ns):=⟨_,Dq ns⟩
def UY {ns a b:dq} (h:∀ k,co ns k=cvL a (co b) k):si ns=si a*si b:=by
 rw [Dq a,Sr.L_mul];refine Sr.ext' λk=>?_;show ((co ns k:Int):Rat)=cvL _ (λk=>((co b k:Int):Rat)) k;rw [h k,JY]
def JZ {ns:dq} (h:Lz ns):si ns≠0:=λz=>h.2 (by
 have:=kJ (congrArg Sr.c z) (ns.length - 1);rw [Sr.zero_c] at this;have this:((co ns (ns.length - 1):Int):Rat)=0:=this;exact_mod_cast this)
def sC (ns:dq):Sr.Bn (si ns) ns.length:=λk hk=>by
 show ((co ns k:Int):Rat)=0;rw [Ah hk];rfl
def FP {g:Int} (a:dq):si (a.map (g*·))=Sr.num (g:Rat)*si a:=Sr.ext' λk=>by
 rw [Sr.num_mul];show ((co (a.map (g*·)) k:Int):Rat)=(g:Rat)*((co a k:Int):Rat)
 have e:co (a.map (g*·)) k=g*co a k:=by
  unfold co;rw [AU,AU,Aq];cases a[k]? with
  | none=>simp
  | some z=>rfl
 rw [e];push_cast;rfl
namespace Sr
def num_num (x y:Rat):num x*num y=num (x*y):=ext' λk=>by
 rw [num_mul];show x*(y*Aj k)=x*y*Aj k;ext
def num_one:num 1=1:=congrArg num (show (1:Rat)=((1:Nat):Rat) by push_cast;rfl)
def num_inv {x:Rat} (h:x≠0):num x⁻¹*num x=1:=by
 rw [num_num,Rat.inv_mul_cancel _ h];exact num_one
end Sr
def sD {x:Rat} (h:x≠0):x⁻¹≠0:=λz=>by
 have:=Rat.inv_mul_cancel _ h;rw [z] at this;ext
def UZ {g f:dq} (m:MQ (co g) (co f)):∃ B,Sr.Pol B/\si f=B*si g:=by
 obtain ⟨c,a,A,h⟩:=m;have b:=AY a;refine ⟨Sr.num ((c:Rat)⁻¹)*si A,(Sr.Pol.num _).mul (DO A),?_⟩
 have e:Sr.num (c:Rat)*si f=si A*si g:=by
  rw [<-FP];refine UY λk=>?_;rw [<-h k];unfold co;rw [AU,AU,Aq];cases f[k]? with
  | none=>simp
  | some z=>rfl
 have i:=Sr.num_inv b;have:si f=Sr.num ((c:Rat)⁻¹)*Sr.num (c:Rat)*si f:=by rw [i];ext
 rw [this,show Sr.num ((c:Rat)⁻¹)*Sr.num (c:Rat)*si f=Sr.num ((c:Rat)⁻¹)*(Sr.num (c:Rat)*si f) by ext,e];ext
def sE {r o g:dq} (R:RC (co r) (co o) g) {A B:Sr} (pA:Sr.Pol A) (a:Sr.Pol B) (b:si r=A*si g) (c:si o=B*si g):Sr.Cs A B:=by
 obtain ⟨d,f,U,W,h⟩:=R.qi
 have e:Sr.num (d:Rat)*si g=si U*si r+si W*si o:=by
  rw [Dq U,Dq W,Sr.L_mul,Sr.L_mul];refine Sr.ext' λk=>?_;rw [Sr.num_mul];show (d:Rat)*((co g k:Int):Rat)=cvL _ (λk=>((co r k:Int):Rat)) k+cvL _ (λk=>((co o k:Int):Rat)) k;rw [<-JY,<-JY];exact_mod_cast h k
 have i:Sr.num (d:Rat)=si U*A+si W*B:=Sr.cancel (Sr.Pol.num _) (((DO U).mul pA).add ((DO W).mul a)) (DO g) (JZ R.lz) (by rw [e,b,c];ext);exact Sr.Cs.of_unit (AY f) rfl (DO U) (DO W) i.symm
def DvI (a g:dq):Prop:=∃ A:dq,∀ k,co a k=cvL A (co g) k
def DvI.len {a g:dq} (h:DvI a g) (b:Lz a) (c:Lz g):g.length<=a.length:=F3 c b (by
 obtain ⟨A,d⟩:=h;exact ⟨1,∅,A,λk=>by rw [Int.one_mul];exact d k⟩)
def NV {ns:dq} (h:Lz ns):sr (K_ ns)=Sr.num ((co ns (ns.length - 1):Rat))⁻¹*si ns:=Sr.ext' λk=>by
 rw [Sr.num_mul];exact EY h k
def EZ {l:d7} (h:AX l):sr l=Sr.num ((Aa l:Rat))⁻¹*si (AL l):=Sr.ext' λk=>by
 rw [Sr.num_mul];exact EX h k
def Z_ {x y:Rat} (a:x≠0) (b:y≠0):x*y≠0:=λz=>by
 rcases Cg.mp z with z | z
 ·exact a z
 ·exact b z
def sF (l:d7):Sr.Bn (sr l) l.length:=λk hk=>BN hk
structure Mon (b:Nat) (R:d7):Prop where
 gq:Gq b b R
 ne:R≠[]
 one:AZ R (R.length - 1)=(1,1)
def Mon.top {b:Nat} {R:d7} (h:Mon b R):(sr R).c (R.length - 1)=1/\Sr.Bn (sr R) (R.length - 1+1):=by
 have:=BI.mpr h.ne;exact ⟨D5 h.one,by rw [Nat.sub_add_cancel this];exact sF R⟩
def sG {R:d7} {Y:Sr} {n:Nat} (f:AX R) (g:Nz R) (e:sr R=Y) (i:Y.c n≠0) (j:Sr.Bn Y (n+1)):R≠[]/\R.length=n+1/\B_ R (R.length - 1)=Y.c n:=by
 have a:B_ R n=Y.c n:=kJ (congrArg Sr.c e) n
 have b:n<R.length:=by
  rcases Av n R.length with h | h
  ·exact h
  ·exact absurd (a.symm.trans (BN h)) i
 have c:R≠[]:=λz=>by rw [z] at b;simp at b
 have d:R.length=n+1:=by
  rcases Av (n+1) R.length with h | h
  ·have z:=DG f g c;exact absurd ((kJ (congrArg Sr.c e) (R.length - 1)).trans (j _ ⋯)) z
  ·omega
 exact ⟨c,d,by rw [d];exact a⟩
theorem NW:∀ (n:Nat) (D:dq),Lz D->(co D (D.length - 1)).natAbs<=n->∃ (g:Int) (P:dq),g≠0/\D=P.map (g*·)/\Prim P/\Lz P/\P.length=D.length:=by
 intro n
 induction n with
 | zero=>intro D l h;exact absurd (Int.natAbs_eq_zero.mp ⋯) l.2
 | succ n p=>
   intro D l h;by_cases d:Prim D
   ·exact ⟨1,D,∅,by simp,d,l,rfl⟩
   ·obtain ⟨c,f⟩:=Classical.not_forall.mp d;have a:∀ k,c∣co D k:=Classical.byContradiction λz=>f λy=>absurd y z;have q:c.natAbs≠1:=λz=>f λ_=>z;have j:c≠0:=λz=>l.2 (by have:=a (D.length - 1);rw [z] at this;exact Int.zero_dvd.mp this)
    have e:D=(D.map (·/ c)).map (c*·):=by
     rw [List.map_map];refine (List.map_id D).symm.trans (Ej λz r=>?_);obtain ⟨i,u,rfl⟩:=GI r;have:=a i;unfold co at this;rw [AU,Az u] at this;exact (GN this).symm
    have b:(D.map (·/ c)).length=D.length:=AR ..
    have m:∀ k,co D k=c*co (D.map (·/ c)) k:=λk=>by
     have:=kJ (congrArg Sr.c (FP (g:=c) (D.map (·/ c)))) k;rw [<-e,Sr.num_mul] at this;have this:((co D k:Int):Rat)=(c:Rat)*((co (D.map (·/ c)) k:Int):Rat):=this;exact_mod_cast this
    have o:Lz (D.map (·/ c)):=⟨by rw [b];exact l.1,λz=>l.2 (by rw [b] at z;rw [m,z,Int.mul_zero])⟩
    have sm:(co (D.map (·/ c)) ((D.map (·/ c)).length - 1)).natAbs<=n:=by
     have v:=m (D.length - 1);rw [b];rw [v,BX] at h;have F:(co (D.map (·/ c)) (D.length - 1)).natAbs≠0:=λz=>o.2 (by rw [b];exact Int.natAbs_eq_zero.mp z);have w:2<=c.natAbs:=by have:=Int.natAbs_pos.mpr j;omega
     have:=Bk (co (D.map (·/ c)) (D.length - 1)).natAbs w;omega
    obtain ⟨g,P,x,A,B,C,ll⟩:=p _ o sm;refine ⟨c*g,P,BV j x,?_,B,C,⋯⟩;rw [e,A,List.map_map];refine Ej λz _=>?_;show c*(g*z)=c*g*z;ext
theorem Ua:∀ a:List Rat,∃ c:Int,c≠0/\∃ A:dq,∀ k,(c:Rat)*a.getD k 0=((A.getD k 0:Int):Rat)
 | []=>⟨1,∅,[],λk=>by simp⟩
 | x::a=>by
   obtain ⟨c,d,A,h⟩:=Ua a;have b:((x.den:Int))≠0:=by have:=x.den_pos;omega
   have f:(x.den:Rat)*x=(x.num:Rat):=by
    have g:(x.num:Rat) / ((x.den:Int):Rat)=x:=(Rat.divInt_eq_div x.num (x.den:Int)).symm.trans (Rat.num_divInt_den x);have i:=AY b;have j:((x.den:Int):Rat)=(x.den:Rat):=rfl;rw [j] at g i;ext
   refine ⟨c*x.den,BV d b,(c*x.num)::A.map (λz=>(x.den:Int)*z),λk=>?_⟩;cases k with
   | zero=>
     show ((c*x.den:Int):Rat)*x=((c*x.num:Int):Rat);push_cast;rw [Rat.mul_assoc,f]
   | succ k=>
     show ((c*x.den:Int):Rat)*a.getD k 0=(((A.map λz=>(x.den:Int)*z).getD k 0:Int):Rat)
     have e:(A.map λz=>(x.den:Int)*z).getD k 0=(x.den:Int)*A.getD k 0:=by
      rw [AU,AU,Aq];cases A[k]? <;> simp
     rw [e];have:=h k;push_cast at this ⊢;ext
def Gy {f g:dq} {Y:Sr} (d:Sr.Pol Y) (e:si f=Y*si g):MQ (co g) (co f):=by
 obtain ⟨a,rfl⟩:=d;obtain ⟨c,i,A,h⟩:=Ua a;refine ⟨c,i,A,λk=>?_⟩
 have m:si A=Sr.num (c:Rat)*Sr.L a:=Sr.ext' λj=>by
  rw [Sr.num_mul];show ((A.getD j 0:Int):Rat)=(c:Rat)*cvL a Aj j;rw [Cy];exact (h j).symm
 have b:Sr.num (c:Rat)*si f=si A*si g:=by rw [e,m];ext
 rw [Dq A,Sr.L_mul] at b;have:=kJ (congrArg Sr.c b) k;rw [Sr.num_mul] at this;have this:(c:Rat)*((co f k:Int):Rat)=cvL (A.map λz:Int=>(z:Rat)) (λk=>((co g k:Int):Rat)) k:=this;rw [<-JY] at this;exact_mod_cast this
def Ub {l:d7} (a:AX l) (b:Nz l) (c:l≠[]):∃ (x:Rat) (P:dq),x≠0/\sr l=Sr.num x*si P/\Prim P/\Lz P/\P.length=l.length:=by
 have d:Lz (AL l):=Dn (FO a b) (λz=>c (CA.mp (by rw [<-Be,z];rfl)));obtain ⟨g,P,f,e,h,i,j⟩:=NW _ _ d (AT _);refine ⟨((Aa l:Rat))⁻¹*(g:Rat),P,Z_ (sD (AY (AV (Br a).1))) (AY f),?_,h,i,by rw [j,Be]⟩;rw [EZ a,e,FP,<-Sr.num_num];ext
def Uc {P:dq} {d:Nat} (b:Lz P) (e:∀ k,Bd d (co P k)):Mon d (K_ P):=by
 have a:=b.2;refine ⟨Do (IC b) (JS b) (M:=((co P (P.length - 1)).natAbs:Int)) ⋯ ?_ (N:=λk=>if 0<co P (P.length - 1) then co P k else - co P k) (λk=>?_) (λk=>?_),?_,?_⟩
 ·show ((co P (P.length - 1)).natAbs:Int).natAbs<2 ^ d;rw [Ct];exact e _
 ·rw [Ky b];by_cases c:0<co P (P.length - 1)
  ·rw [kA c,Int.natAbs_of_nonneg ⋯]
  ·rw [lZ c,show ((co P (P.length - 1)).natAbs:Int) = - co P (P.length - 1) by omega];have f:=AY a;push_cast;ext
 ·split
  ·exact e k
  ·exact (e k).neg
 ·intro z;have g:(K_ P).length=0:=by rw [z];rfl
  rw [D4] at g;have:=b.1;omega
 ·refine EU (CZ (IC b) _) ⟨∅,∅⟩ ?_;show B_ (K_ P) _=_;rw [D4,Ky b];have f:=AY a;unfold val;show _=((1:Int):Rat) / ((1:Int):Rat);push_cast;ext
def sI {c:Nat} {p q:d7} {x:Rat} (d:AX p) (f:Nz p) (m:p≠[]) (g:AZ p (p.length - 1)=(1,1)) (b:Mon c q) (h:x≠0) (e:sr p=Sr.num x*sr q):p=q:=by
 have t:(Sr.num x*sr q).c (q.length - 1)=x:=by rw [Sr.num_mul,b.top.1];ext
 have i:Sr.Bn (Sr.num x*sr q) (q.length - 1+1):=λk hk=>by rw [Sr.num_mul,b.top.2 k hk];ext
 obtain ⟨_,len,a⟩:=sG d f e (by rw [t];exact h) i;have j:x=1:=by rw [<-t,<-a,D5 g]
 rw [j,Sr.num_one] at e;exact UX d b.gq.low f b.gq.nz (by rw [e];ext)
def Ud {R:dq} {Y:Sr} {n:Nat} (l:Lz R) (e:si R=Y) (c:Y.c n≠0) (d:Sr.Bn Y (n+1)):R.length=n+1/\((co R (R.length - 1):Int):Rat)=Y.c n:=by
 have a:((co R n:Int):Rat)=Y.c n:=kJ (congrArg Sr.c e) n
 have f:n<R.length:=by
  rcases Av n R.length with h | h
  ·exact h
  ·rw [Ah h] at a;exact absurd a.symm c
 have b:R.length=n+1:=by
  rcases Av (n+1) R.length with h | h
  ·have z:((co R (R.length - 1):Int):Rat)=0:=(kJ (congrArg Sr.c e) (R.length - 1)).trans (d _ ⋯);exact absurd (by exact_mod_cast z) l.2
  ·omega
 exact ⟨b,by rw [b];exact a⟩
def Ue {T B:d7} {N D:dq} {b n e:Nat} (h:Lw T B) (g:Lz D) (tN:Tz N) (R:∀ z∈N,Bd b z) (S:∀ z∈D,Bd b z) (n1:N.length<=n) (n2:D.length<=n) (X:n<2 ^ e) (Z:sr T*si D=si N*sr B) :
  Gq (b+(b+n*(2*e+4))) (b+(b+n*(2*e+4))) T/\Gq (b+n*(2*e+4)) (b+n*(2*e+4)) B/\T.length<=N.length/\B.length<=D.length:=by
 obtain ⟨U,W,pU,pW,h1⟩:=h.cs
 have o:si D=(U*si N+W*si D)*sr B:=by
  have:si D=(U*sr T+W*sr B)*si D:=by rw [h1];ext
  calc si D=(U*sr T+W*sr B)*si D:=this
   _=U*(sr T*si D)+W*sr B*si D:=by ext
   _=_:=by rw [Z];ext
 generalize hY:U*si N+W*si D=Y at o;have p:Sr.Pol Y:=by rw [<-hY];exact (pU.mul (DO N)).add (pW.mul (DO D))
 obtain ⟨x,P,x0,eB,pP,i,pl⟩:=Ub h.lb h.nb h.ne;obtain ⟨A,hA⟩:=T_ pP (Gy (p.mul (Sr.Pol.num x)) (show si D=Y*Sr.num x*si P by rw [o,eB];ext));have gl:P.length<=D.length:=DvI.len ⟨A,hA⟩ g i;have bP:∀ k,Bd (b+n*(2*e+4)) (co P k):=JM S ⟨_,g.2⟩ n2 ⋯ X hA
 have hB:B=K_ P:=by
  have mB:Mon (b+n*(2*e+4)) (K_ P):=Uc i bP;have x1:x*(co P (P.length - 1):Rat)≠0:=Z_ x0 (AY i.2);refine sI h.lb h.nb h.ne h.one mB x1 ?_;rw [eB,NV i,<-Sr.num_num]
  have iP:Sr.num (co P (P.length - 1):Rat)*Sr.num ((co P (P.length - 1):Rat))⁻¹=1:=by
   have:=Sr.num_inv (AY i.2);ext
  ext
 have C:Gq (b+n*(2*e+4)) (b+n*(2*e+4)) B:=by rw [hB];exact (Uc i bP).gq
 have lB:B.length<=D.length:=by rw [hB,D4];exact gl
 have B0:=Bu h.lb h.nb h.ne
 have F:si N=Y*sr T:=by
  refine Sr.cancel (DO N) (p.mul (AW T)) (AW B) B0 ?_;rw [<-Z,show sr T*si D=sr T*(Y*sr B) from congrArg _ o];ext
 by_cases G:T=[]
 ·subst G;refine ⟨⟨h.lt,h.nt,1,⟨∅,(λ_ h=>nomatch h)⟩,b_ (by show 1<2 ^ _;exact Nat.one_lt_two_pow (by have:=g.1;have:0<n*(2*e+4):=Nat.mul_pos ⋯ ⋯;omega)),(λ_ h=>nomatch h)⟩,C,Ae _,lB⟩
 have D0:=JZ g;have Y0:Y≠0:=λz=>D0 (by rw [o,z];ext);have TT:=Bu h.lt h.nt G;have N0:si N≠0:=by rw [F];exact Sr.ne_mul p (AW T) Y0 TT
 have Nn:N≠[]:=λz=>N0 (by rw [z,Dq []];exact Sr.L_nil);have I:Lz N:=Dn tN Nn;obtain ⟨y,a,y0,J,pQ,v,ql⟩:=Ub h.lt h.nt G;obtain ⟨A2,u⟩:=T_ pQ (Gy (p.mul (Sr.Pol.num y)) (show si N=Y*Sr.num y*si a by rw [F,J];ext));have a0:a.length<=N.length:=DvI.len ⟨A2,u⟩ I v;have bQ:∀ k,Bd (b+n*(2*e+4)) (co a k):=JM R ⟨_,I.2⟩ n1 ⋯ X u;obtain ⟨m,hm⟩:=p.bn;rcases Sr.top_ex m hm with z | ⟨j,_,j0,jb⟩
 ·exact absurd z Y0
 have MB:Mon (b+n*(2*e+4)) B:=⟨C,h.ne,h.one⟩;have w:=Sr.top_mul jb MB.top.2;rw [MB.top.1] at w;obtain ⟨_,dD⟩:=Ud g o (n:=j+(B.length - 1)) (by rw [w.1];intro z;exact j0 ()) w.2;rw [w.1] at dD;have L:Sr.Bn (si a) (a.length - 1+1):=by rw [Nat.sub_add_cancel v.1];exact sC a
 have d:=Sr.top_mul (f:=Y*Sr.num y) (m:=j) (λk hk=>by rw [show Y*Sr.num y=Sr.num y*Y by ext,Sr.num_mul,jb k hk];ext) L;have cY:(Y*Sr.num y).c j=y*Y.c j:=by rw [show Y*Sr.num y=Sr.num y*Y by ext,Sr.num_mul]
 rw [cY] at d;have O:(si a).c (a.length - 1)=(co a (a.length - 1):Rat):=rfl;rw [O] at d;have q1:=AY v.2;obtain ⟨_,dN⟩:=Ud I (show si N=Y*Sr.num y*si a by rw [F,J];ext) (n:=j+(a.length - 1)) (by rw [d.1];exact Z_ (Z_ y0 j0) q1) d.2;rw [d.1] at dN;have d1:=AY g.2;have mz:co D (D.length - 1)*co a (a.length - 1)≠0:=BV g.2 v.2;have bm:Bd (b+(b+n*(2*e+4))) (co D (D.length - 1)*co a (a.length - 1)):=Bd.mul (D3 S _) (bQ _);have bt:∀ k,Bd (b+(b+n*(2*e+4))) (co N (N.length - 1)*co a k):=λk=>Bd.mul (D3 R _) (bQ k)
 have pT:∀ k,B_ T k=((co N (N.length - 1)*co a k:Int):Rat) / ((co D (D.length - 1)*co a (a.length - 1):Int):Rat):=λk=>by
  have e1:B_ T k=y*((co a k:Int):Rat):=by
   have:=kJ (congrArg Sr.c J) k;rw [Sr.num_mul] at this;exact this
  rw [e1];push_cast;rw [dN,dD];generalize ((co a (a.length - 1):Int):Rat)=q at *;generalize ((co a k:Int):Rat)=r at *;ext
 refine ⟨Do h.lt h.nt (M:=((co D (D.length - 1)*co a (a.length - 1)).natAbs:Int)) ⋯ ?_ (N:=λk=>if 0<co D (D.length - 1)*co a (a.length - 1) then co N (N.length - 1)*co a k else - (co N (N.length - 1)*co a k)) (λk=>?_) (λk=>?_),C,⋯,lB⟩
 ·show ((co D (D.length - 1)*co a (a.length - 1)).natAbs:Int).natAbs<2 ^ _;rw [Ct];exact bm
 ·rw [pT k];generalize co D (D.length - 1)*co a (a.length - 1)=M at *;generalize co N (N.length - 1)*co a k=r at *;by_cases c:0<M
  ·rw [kA c,Int.natAbs_of_nonneg ⋯]
  ·rw [lZ c,show (M.natAbs:Int) = - M by omega];have c1:=AY mz;push_cast;ext
 ·split
  ·exact bt k
  ·exact (bt k).neg
def ID {T B:d7} {N D:Sr} (h:Lw T B) (a:Sr.Pol N) (b:Sr.Pol D) (c:sr T*D=N*sr B):∃ Y,Sr.Pol Y/\D=Y*sr B/\N=Y*sr T:=by
 obtain ⟨U,W,d,pW,f⟩:=h.cs
 have e:D=(U*N+W*D)*sr B:=by
  have:D=(U*sr T+W*sr B)*D:=by rw [f];ext
  calc D=(U*sr T+W*sr B)*D:=this
   _=U*(sr T*D)+W*sr B*D:=by ext
   _=_:=by rw [c];ext
 refine ⟨U*N+W*D,(d.mul a).add (pW.mul b),e,?_⟩;refine Sr.cancel a (((d.mul a).add (pW.mul b)).mul (AW T)) (AW B) (Bu h.lb h.nb h.ne) ?_;rw [<-c,show sr T*D=sr T*((U*N+W*D)*sr B) from congrArg _ e];ext
def NX {l:d7} {N:dq} {Y:Sr} {b n e:Nat} (f:AX l) (c:Lz N) (h:∀ z∈N,Bd b z) (i:N.length<=n) (j:n<2 ^ e) (k:Sr.Pol Y) (m:si N=Y*sr l):Fp (b+n*(2*e+4)) (AL l):=λg o p q=>by
 obtain ⟨r,a,u⟩:=UZ q;obtain ⟨A,d⟩:=T_ p (Gy ((k.mul (Sr.Pol.num _)).mul a) (show si N=Y*Sr.num ((Aa l:Rat))⁻¹*r*si g by rw [m,EZ f,u];ext));have v:g.length<=N.length:=DvI.len ⟨A,d⟩ c o;exact JM h ⟨_,c.2⟩ i ⋯ j d
def Fp.mono {x y:Nat} {ns:dq} (h:Fp x ns) (e:x<=y):Fp y ns:=λg a b c k=>(h g a b c k).mono e
def IE {l:d7} (a:AX l) (b:Nz l) (c:l≠[]):Lz (AL l):=Dn (FO a b) λz=>c (CA.mp (by rw [<-Be,z];rfl))
def K6 {b c n e:Nat} {l:d7} (G:Gq b c l) (f:l≠[]) (h:l.length<=n) (i:n<2 ^ e):Fp (b+n*(2*e+4)) (AL l):=λg j k a=>by
 have d:=IE G.low G.nz f;obtain ⟨A,m⟩:=T_ k a;have o:g.length<=l.length:=by have:=F3 j d a;rw [Be] at this;exact this
 exact JM G.clr.1 ⟨_,d.2⟩ (by rw [Be];exact h) ⋯ i m
def K7 {x:Nat} {l m:d7} {Y:Sr} (c:AX l) (b:AX m) (d:Sr.Pol Y) (e:sr m=Y*sr l) (h:Fp x (AL m)):Fp x (AL l):=λg f j k=>by
 obtain ⟨q,a,n⟩:=UZ k;refine h g f j (Gy (((Sr.Pol.num (Aa m:Rat)).mul d).mul ((Sr.Pol.num ((Aa l:Rat))⁻¹).mul a)) ?_);have i:=Sr.num_inv (AY (AV (Br b).1));have o:=EZ b;have p:si (AL m)=Sr.num (Aa m:Rat)*sr m:=by rw [o];ext
 rw [p,e,EZ c,n];ext
def Rp.facts {b n m e:Nat} {T B:d7} (h:Rp b n m T B) (o:n<2 ^ e) (p:m<2 ^ e) :
  Gq (b+(b+max n m*(2*e+4))) (b+(b+max n m*(2*e+4))) T/\Gq (b+max n m*(2*e+4)) (b+max n m*(2*e+4)) B/\T.length<=n/\B.length<=m/\(T≠[]->Fp (b+n*(2*e+4)) (AL T))/\Fp (b+m*(2*e+4)) (AL B):=by
 obtain ⟨N,D,a,d,f,g,nN,q,i⟩:=h.rp;obtain ⟨r,u,x,y⟩:=Ue h.lw a d f g (show N.length<=max n m by omega) (show D.length<=max n m by omega) (show max n m<2 ^ e by omega) i;obtain ⟨Y,c,j,k⟩:=ID h.lw (DO N) (DO D) i;refine ⟨r,u,⋯,⋯,λv=>?_,NX h.lw.lb a g q p c j⟩;refine NX h.lw.lt (Dn d λz=>?_) f nN o c k;have w:Y≠0:=λz=>JZ a (by rw [j,z];ext);have:=Sr.ne_mul c (AW T) w (Bu h.lw.lt h.lw.nt v);exact this (by rw [<-k,z,Dq []];exact Sr.L_nil)
def C0.dd {x n m e:Nat} (h:C0 x n m e):x*2<=44490/\∀ y,y<=n+m->y*(x+1)<=44490/\y*x<=44490:=by
 have c:=h.lu;have n1:=h.n1;have d:=h.m1
 have k:∀ y,y<=n+m->y*(x+1)<=44490/\y*x<=44490:=λy a=>by
  have b:y*(x+1)<=(n+m)*(x+e+2):=B4 a ⋯;have f:y*x<=y*(x+1):=CM _ ⋯;rw [B6 (n+m)] at b;omega
 exact ⟨by have:=(k 2 ⋯).2;omega,k⟩
def C0.ml {x n m e:Nat} (h:C0 x n m e):max n m<2 ^ e/\max n m*(2*e+4)<=960:=by
 have:=h.ne;have:=h.me;have:=h.n60;have:=h.m60;have:=h.e6;have:max n m*(2*e+4)<=60*16:=B4 ⋯ ⋯;exact ⟨⋯,this⟩
def K8 {m:d7} {g:dq} {x:Nat} (e:AX m) (f:Nz m) (h:m≠[]) (F:Fp x (AL m)) (a:Lz g) (c:MQ (co g) (co (AL m))) (P:Prim g) :
  Gq x x (K_ g)/\K_ g≠[]/\(K_ g).length<=m.length/\MR (B_ (K_ g)) (B_ m)/\(∀ k,Bd x (co g k))/\B_ (K_ g) ((K_ g).length - 1)=1:=by
 have d:=IE e f h;have i:g.length<=m.length:=by have:=F3 a d c;rw [Be] at this;exact this
 have b:=F g a P c;refine ⟨⟨IC a,JS a,_,(JT a.2 (Gv b)).1,(b (g.length - 1)).le ⋯,(JT a.2 (Gv b)).2⟩,BI.mp (by rw [D4];exact a.1),by rw [D4];exact i,MR.of (GA a) (EX e) (EY a) c,b,D5 ?_⟩;rw [D4];exact UK a
def sJ (h:Ew K vs H Q E):wC K { nx:=λ_ H'=>Q .non H',rt:=Q } (L2.start ["P","Q","shared"] vs) H:=by
 obtain ⟨p,q,l,m,b,D,n,J,e,rfl,⟨xs,hp,hN⟩,⟨ys,j,hM⟩,Gl,x,m0,ln,mn,ad,Y,Z,b9,k⟩:=h;obtain ⟨D9,zz⟩:=Z.dd;obtain ⟨a0,b8⟩:=Z.ml;have ba:=Z.n60;have bb:=Z.m60;have bc:=Z.n1;have bd:=Z.m1;have bf:=Z.ne;have bi:=Z.me;refine BC (Af (AO rfl (AO rfl (M8 (SqT.of hp) j (NuK.of hN) hM Gl x ⋯ ⋯ ⋯ ⋯ (λl0 _=>⟨ad l0,Y⟩) (d:=e) (by rw [CV];omega) (N:=n+J) ⋯ ⋯ Z.lu (λ_ z=>absurd z m0) λ_ g R P r zs H1 s1 hr hz=>?_))));have o:=R.lz;have aj:Lz (AL m):=Dn (FO x.low x.nz) λz=>m0 (CA.mp (by rw [<-Be,z];rfl));have gl:g.length<=m.length:=by have:=F3 o aj R.right;rwa [Be] at this
 have bg:=Y g o P R.right;have Gg:Gq D D (K_ g):=⟨IC o,JS o,_,(JT o.2 (Gv bg)).1,(bg (g.length - 1)).le ⋯,(JT o.2 (Gv bg)).2⟩;have g0:K_ g≠[]:=BI.mp (by rw [D4];exact o.1);have M1:MR (B_ (K_ g)) (B_ l):=MR.of (GA o) (EX Gl.low) (EY o) R.left;have M2:MR (B_ (K_ g)) (B_ m):=MR.of (GA o) (EX x.low) (EY o) R.right;have al:=s1 _ _ hp;have bl:0<(K_ g).length:=BI.mpr g0;have e1:=(zz (l.length+1 - (K_ g).length) ⋯).1;have e2:=(zz (l.length+1 - (K_ g).length) ⋯).2;refine Bt (Af (Af (AO rfl (AO rfl (Hy (SqT.of al) hr (NuK.of (hN.tp (M_ s1))) hz Gl Gg g0 ⋯ (by rw [D4];omega) ⋯ ⋯ ⋯ ⋯ M1 λr0 w H2 s2 ⟨am,h0,n0⟩ y an L S=>?_)))));obtain ⟨A0,ao,ar⟩:=NU Gl.low y Gl.clr.1 (show l.length<=max n J by omega) a0 o P R.left S;have G0:Gq (D+(b+max n J*(2*e+4))) b w:=Do y an (Br Gl.low).1 Gl.clr.2.1 (N:=λk=>co g (g.length - 1)*co A0 k) (λk=>by rw [ar,Rat.div_def];push_cast;rfl) λk=>Bd.mul (bg _) (ao k)
 have F:∀ q∈w,Bd (D+(b+max n J*(2*e+4))) q.1/\Bd b q.2:=λq j=>⟨G0.clr.2.2 q j,by
  obtain ⟨M,O,bM,_⟩:=G0.ov;exact DN (AV O.1) (O.2 q j) bM⟩
 have X:=s1.trans s2;have az:=X _ _ j;have b0:=s2 _ _ hr;have e1:=(zz (m.length+1 - (K_ g).length) ⋯).1;have e2:=(zz (m.length+1 - (K_ g).length) ⋯).2;refine Af (AO rfl (AO rfl (Hy (SqT.of az) b0 (NuK.of (hM.tp (M_ X))) (hz.tp (M_ s2)) x Gg g0 ⋯ (by rw [D4];omega) ⋯ ⋯ ⋯ ⋯ M2 λr1 f H3 s3 ⟨b1,h1,n1⟩ A a1 b2 C=>?_)));obtain ⟨A1,b3,b4⟩:=NU x.low A x.clr.1 (show m.length<=max n J by omega) a0 o P R.right C
 have a2:f≠[]:=λz=>by
  have:=C (m.length - 1);rw [z] at this;exact DG x.low x.nz m0 this
 have G1:Gq (D+(b+max n J*(2*e+4))) b f:=Do A a1 (Br x.low).1 x.clr.2.1 (N:=λk=>co g (g.length - 1)*co A1 k) (λk=>by rw [b4,Rat.div_def];push_cast;rfl) λk=>Bd.mul (bg _) (b3 k);have p1:0<f.length:=BI.mpr a2
 have a3:∀ q∈f,Bd (D+(b+max n J*(2*e+4))) q.1/\Bd b q.2:=λq j=>⟨G1.clr.2.2 q j,by
  obtain ⟨M,O,bM,_⟩:=G1.ov;exact DN (AV O.1) (O.2 q j) bM⟩
 have l0:=L;refine ⟨r0,r1,w,f,rfl,⟨am,s3 _ _ h0,n0.tp (M_ s3)⟩,⟨b1,h1,n1⟩,y,A,a1,a2,λq j=>⟨(F q j).1.mono ⋯,(F q j).2.mono ⋯⟩,λq j=>⟨(a3 q j).1.mono ⋯,(a3 q j).2.mono ⋯⟩,⋯,⋯,λc fl fv t u v H4 s4 ht ⟨us,hu,nu⟩ ⟨vs,hv,nv⟩=>?_⟩;generalize b5:AZ f (f.length - 1)=la at fv;have G:=K4 (a:=c.1) y fl.pos;have I:=K4 (a:=c.1) A fl.pos;have eT:∀ k,B_ (trim (w.map λq=>I_ q (c.1,c.2))) k=val c*B_ w k:=λk=>(Es G k).trans (K3 y fl.pos k);have eB:∀ k,B_ (trim (f.map λq=>I_ q (c.1,c.2))) k=val c*B_ f k:=λk=>(Es I k).trans (K3 A fl.pos k);have a4:(trim (w.map λq=>I_ q (c.1,c.2))).length<=w.length:=A7 (Dy _) (by rw [AR];exact AT _);have a6:(trim (f.map λq=>I_ q (c.1,c.2))).length<=f.length:=A7 (Dy _) (by rw [AR];exact AT _);have lT:AX (trim (w.map λq=>I_ q (c.1,c.2))):=λq j=>G q (DL j);have lB:AX (trim (f.map λq=>I_ q (c.1,c.2))):=λq j=>I q (DL j);have nT:=Dx (w.map λq=>I_ q (c.1,c.2));have nB:=Dx (f.map λq=>I_ q (c.1,c.2));generalize trim (w.map λq=>I_ q (c.1,c.2))=T at nu eT a4 lT nT;generalize trim (f.map λq=>I_ q (c.1,c.2))=B at nv eB a6 lB nB;have s0:val c≠0:=λz=>by rw [z] at fv;ext
 have b6:B_ f (f.length - 1)=val la:=by unfold B_;rw [b5]
 have tB:B_ B (f.length - 1)=1:=by rw [eB,b6];exact fv
 have ab:B.length=f.length:=by
  rcases Av (f.length - 1) B.length with z | z
  ·omega
  ·rw [BN z] at tB;exact absurd tB ∅
 obtain ⟨U,W,eU⟩:=tR Gl.low x.low R;have ac:B_ (K_ g) ((K_ g).length - 1)≠0:=DG (IC o) (JS o) g0;have c0:∀ k,B_ l k=cvL (rw' w) (B_ (K_ g)) k:=λk=>(S k).trans (K2 _ _ _);have c1:∀ k,B_ m k=cvL (rw' f) (B_ (K_ g)) k:=λk=>(C k).trans (K2 _ _ _);have b7:=(X.trans s3).trans s4;refine k t H4 T B b7 ⟨u,v,ht,⟨us,hu,nu⟩,⟨vs,hv,nv⟩⟩ ⟨lT,lB,nT,nB,BI.mp ⋯,?_,sr_cop.mp ?_⟩ ?_
 ·refine EU (CZ lB _) JU ?_;have:val ((1:Int),(1:Int))=1:=by unfold val;show ((1:Int):Rat) / ((1:Int):Rat)=1;rw [show ((1:Int):Rat)=1 from rfl];ext
  rw [this,ab];exact tB
 ·exact (tP (t:=rw' w) (b:=rw' f) (K1 w) (K1 f) ac (λi hi=>BN ⋯) c0 c1 eU).scal s0 eT eB
 ·have e1:sr T=Sr.num (val c)*sr w:=Sr.ext' λk=>by rw [Sr.num_mul];exact eT k
  have e2:sr B=Sr.num (val c)*sr f:=Sr.ext' λk=>by rw [Sr.num_mul];exact eB k
  rw [e1,e2,Dp S,Dp C];ext
structure Al (b n m e:Nat) (T B:d7):Prop where
 lw:Lw T B
 gt:Gq (2*b+960) (2*b+960) T
 gb:Gq (2*b+960) (2*b+960) B
 tn:T.length<=n
 bm:B.length<=m
 ft:T≠[]->Fp (b+n*(2*e+4)) (AL T)
 fb:Fp (b+m*(2*e+4)) (AL B)
def Rp.all {b n m e:Nat} {T B:d7} (h:Rp b n m T B) (a:n<2 ^ e) (c:m<2 ^ e) (d:n<=60) (f:m<=60) (q:e<=6):Al b n m e T B:=by
 obtain ⟨g,i,j,k,o,p⟩:=h.facts a c;have:max n m*(2*e+4)<=60*16:=B4 ⋯ ⋯;exact ⟨h.lw,g.mono ⋯ ⋯,i.mono ⋯ ⋯,j,k,o,p⟩
def Uf {T B:d7} {b n e:Nat} {l m:d7} (h:Lw T B) (Gl:Gq b b l) (a:Gq b b m) (j:m≠[]) (k:l.length<=n) (o:m.length<=n) (p:n<2 ^ e) (G:sr T*sr m=sr l*sr B) :
  Gq (2*b+(2*b+n*(2*e+4))) (2*b+(2*b+n*(2*e+4))) T/\Gq (2*b+(2*b+n*(2*e+4))) (2*b+(2*b+n*(2*e+4))) B/\T.length<=l.length/\B.length<=m.length:=by
 have f:=Gl.clr;have g:=a.clr;have q:=AY (AV (Br Gl.low).1);have r:=AY (AV (Br a.low).1)
 have u:∀ z∈(AL l).map (Aa m*·),Bd (2*b) z:=λz c=>by
  obtain ⟨y,d,rfl⟩:=BR.mp c;exact ((g.2.1).mul (f.1 y d)).mono ⋯
 have v:∀ z∈(AL m).map (Aa l*·),Bd (2*b) z:=λz c=>by
  obtain ⟨y,d,rfl⟩:=BR.mp c;exact ((f.2.1).mul (g.1 y d)).mono ⋯
 have i:=IE a.low a.nz j;have w:=(Br Gl.low).1;have x:=(Br a.low).1;have A:Lz ((AL m).map (Aa l*·)):=⟨by rw [AR];exact i.1,by rw [AR,Gw];exact BV (AV w) i.2⟩
 have C:Tz ((AL l).map (Aa m*·)):=by
  rcases FO Gl.low Gl.nz with h | h
  ·left;rw [h];rfl
  ·right;rw [AR,Gw];exact BV (AV x) h
 have I:=Sr.num_inv q;have J:=Sr.num_inv r;have D:si (AL l)=Sr.num (Aa l:Rat)*sr l:=by rw [EZ Gl.low];ext
 have F:si (AL m)=Sr.num (Aa m:Rat)*sr m:=by rw [EZ a.low];ext
 have:=Ue h A C u v (by rw [AR,Be];exact k) (by rw [AR,Be];exact o) p (by rw [FP,FP,D,F];ext);rw [AR,AR,Be,Be] at this;exact ⟨this.1,this.2.1.mono ⋯ ⋯,this.2.2.1,this.2.2.2⟩
def sK {P A C:d7} (a:AX P) (c:Nz P) (d:AX A) (e:Nz A) (f:A≠[]) (oA:AZ A (A.length - 1)=(1,1)) (g:AX C) (i:Nz C) (C0:C≠[]) (oC:AZ C (C.length - 1)=(1,1)) (h:∀ k,B_ P k=cv (B_ A) (B_ C) A.length k):P≠[]/\AZ P (P.length - 1)=(1,1):=by
 obtain ⟨_,b,j⟩:=JV a c d e f g i C0 h;rw [D5 oA,D5 oC] at b;exact ⟨j,JW a (by rw [b];ext)⟩
def sM {a b c d:Sr} (e:Sr.Pol a) (f:Sr.Pol b) (pc:Sr.Pol c) (g:Sr.Pol d) (h:Sr.Cs a c) (i:Sr.Cs a d) (j:Sr.Cs b c) (k:Sr.Cs b d):Sr.Cs (a*b) (c*d):=by
 have m:=(h.mul e pc i).comm;have n:=(j.mul f pc k).comm;exact (m.mul (pc.mul g) e n).comm
def sO (h:Kh K vs H Q E):SN K { nx:=λ_ H'=>Q .non H',rt:=Q } (L2.start ["F","G","one","other"] vs) H:=by
 obtain ⟨p,q,T,B,T',F,x,n,m,x',L,M,e,rfl,⟨u,v,hp,Pu,Pv⟩,⟨u',v',hq,N,O⟩,P,R2,f,g,i,j,tn,R,S,bm,fT,U,W,fB,Z,G,k⟩:=h;have bc:=Z.n60;have bd:=Z.m60;have b9:=G.n60;have ba:=G.m60;obtain ⟨a0,bf⟩:=Z.ml;obtain ⟨o,bb⟩:=G.ml;unfold SN;rwa [hp,hq];refine ⟨T,Pu,F,O,_,f,j,R2.ne,x,n,tn,M,R,fT,U,e,Z,⋯,λt1 H1 P1 Q1 r ⟨a1,d1,h1,a3,a4⟩ L1 b=>?_⟩;have a6:=r _ _ hp;have ab:=r _ _ hq;unfold SL;rwa [a6,ab];refine ⟨T',N.same r,B,Pv.same r,_,i,g,P.ne,x',L,S,m,bm,W,fB,e,G,⋯,λt2 H2 P2 Q2 I ⟨a2,d2,h2,ac,ad⟩ a c=>?_⟩;obtain ⟨g1,aj,l1,bg⟩:=Uf L1 f j R2.ne (show _<=max n M by omega) (show _<=max n M by omega) a0 b;obtain ⟨g2,al,l2,bi⟩:=Uf a i g P.ne (show _<=max L m by omega) (show _<=max L m by omega) o c;have y:=I _ _ h1;obtain ⟨bl,am,an⟩:=a3.same I;obtain ⟨bn,ao,ar⟩:=a4.same I;obtain ⟨bp,az,b0⟩:=ac;obtain ⟨bq,b1,b2⟩:=ad;unfold SK;refine Bt (CJ (Af (A9 rfl y rfl (A9 rfl h2 rfl (JI (SqT.of am) az (NuK.of an) b0 g1 g2 ⋯ ⋯ ⋯ ⋯ ⋯ ⋯ λr3 X H3 d PX GX lX eX=>?_)))));have b3:=d _ _ y;have b4:=d _ _ h2;have z:=d _ _ ao;have A:=d _ _ b1;refine Af (A9 rfl b3 rfl (A9 rfl b4 rfl (JI (SqT.of z) A (NuK.of (ar.tp (M_ d))) (b2.tp (M_ d)) aj al ⋯ ⋯ ⋯ ⋯ ⋯ ⋯ λr4 Y H4 s4 PY J lY eY=>⟨Bi,λw hw=>?_⟩)));have s5:=AQ hw (.tup [.ref r3,.ref r4]);obtain ⟨Y0,oY⟩:=sK J.low J.nz L1.lb L1.nb L1.ne L1.one a.lb a.nb a.ne a.one eY;have o1:=Dp eX;have o2:=Dp eY;obtain ⟨f1,C,b5,b6⟩:=ID L1 (AW T) (AW F) b;obtain ⟨f2,D,b7,b8⟩:=ID a (AW T') (AW B) c;have c1:Sr.Cs (sr P1) (sr Q2):=((P.cs.comm.dvd C b6).comm).dvd D b7;have c2:Sr.Cs (sr P2) (sr Q1):=((R2.cs.comm.dvd D b8).comm).dvd C b5;refine k w _ X Y (((r.trans I).trans d).trans (s4.trans s5)) ⟨r3,r4,upd_same,(PX.same s4).same s5,PY.same s5⟩ ⟨GX.low,J.low,GX.nz,J.nz,Y0,oY,?_⟩ ?_
 ·rw [o1,o2];exact sM (AW _) (AW _) (AW _) (AW _) L1.cs c1 c2 a.cs
 ·rw [o1,o2];have:sr P1*sr P2*(sr B*sr F)=(sr P1*sr F)*(sr P2*sr B):=by ext
  rw [this,b,c];ext
def sP {F:dL} {w x:Nat} (a:∀ k,w<=k->F k=0) (f:∀ k,Bd x (F k)):∃ Z:dq,Tz Z/\(∀ k,co Z k=F k)/\(∀ z∈Z,Bd x z)/\Z.length<=w:=by
 have b:∀ k,co ((List.range w).map F) k=F k:=λk=>by
  unfold co;rw [AU,Aq];rcases Av k w with c | c
  ·rw [DU c];rfl
  ·rw [Bf (by rw [BL];exact c)];exact (a k c).symm
 rcases Dz ((List.range w).map F) with z | ⟨g,j,d,e⟩
 ·exact ⟨[],.inl rfl,λk=>by rw [<-b,z];exact Ah (Ae _),(λ_ h=>nomatch h),Ae _⟩
 ·refine ⟨g,.inr j.2,λk=>(e k).trans (b k),λz a=>?_,by rw [AR,BL] at d;exact d⟩;obtain ⟨i,m,rfl⟩:=GI a;have:co g i=g[i]:=by unfold co;rw [AU,Az m];rfl
  rw [<-this,e,b];exact f i
def Ug {l m:d7} {g:dq} {A B:Sr} (a:AX l) (b:AX m) (R:RC (co (AL l)) (co (AL m)) g) (pA:Sr.Pol A) (c:Sr.Pol B) (d:sr l=A*sr (K_ g)) (e:sr m=B*sr (K_ g)):Sr.Cs A B:=by
 have k:=Sr.num_inv (AY (AV (Br a).1));have n:=Sr.num_inv (AY (AV (Br b).1));have f:si (AL l)=Sr.num (Aa l:Rat)*sr l:=by rw [EZ a];ext
 have h:si (AL m)=Sr.num (Aa m:Rat)*sr m:=by rw [EZ b];ext
 have i:si (AL l)=(Sr.num (Aa l:Rat)*Sr.num ((co g (g.length - 1):Rat))⁻¹*A)*si g:=by rw [f,d,NV R.lz];ext
 have j:si (AL m)=(Sr.num (Aa m:Rat)*Sr.num ((co g (g.length - 1):Rat))⁻¹*B)*si g:=by rw [h,e,NV R.lz];ext
 have:=sE R (((Sr.Pol.num _).mul (Sr.Pol.num _)).mul pA) (((Sr.Pol.num _).mul (Sr.Pol.num _)).mul c) i j;exact ((this.dvd ((Sr.Pol.num _).mul (Sr.Pol.num _)) rfl).comm.dvd ((Sr.Pol.num _).mul (Sr.Pol.num _)) rfl).comm
def sQ {T B b k G a R c S X g:Sr} {s:Rat} (v:s≠0) (m:Sr.Pol T) (d:Sr.Pol b) (h:Sr.Pol a) (n:Sr.Pol R) (o:Sr.Pol G) (p:Sr.Pol S) (q:Sr.Pol X) (w:Sr.Pol g) (x:B=a*G) (j:k=R*G) (f:Sr.Cs a R) (y:Sr.Cs T B) (z:Sr.Cs b k) (r:c=T*R+Sr.num s*(b*a)) (u:c=X*S) (Y:G=g*S) (A:Sr.Cs X g):Sr.Cs X (a*R*g):=by
 have C:Sr.Cs T a:=y.dvd o (by rw [x];ext);have D:Sr.Cs b R:=z.dvd o (by rw [j];ext);have F:Sr.Cs (T*R) a:=(C.comm.mul h m f).comm;have I:Sr.Cs c a:=F.add ((Sr.Pol.num s).mul d) (by rw [r];ext);have J:Sr.Cs (b*a) R:=(D.comm.mul n d f.comm).comm
 have L:Sr.Cs (Sr.num s*(b*a)) R:=by
  obtain ⟨U,W,M,pW,e⟩:=J;have i:=Sr.num_inv v;exact ⟨U*Sr.num s⁻¹,W,M.mul (Sr.Pol.num _),pW,()⟩
 have N:Sr.Cs c R:=L.add m (by rw [r];ext);have O:Sr.Cs X a:=(I.comm.dvd p (show c=S*X by rw [u];ext)).comm;have P:Sr.Cs X R:=(N.comm.dvd p (show c=S*X by rw [u];ext)).comm;exact (O.mul q h P).mul q (h.mul n) A
def K9 {l m:d7} {Y:Sr} (a:Sr.Pol Y) (h:sr m=Y*sr l):MR (B_ l) (B_ m):=by
 obtain ⟨A,rfl⟩:=a;refine ⟨A,λk=>?_⟩;have:=kJ (congrArg Sr.c h) k;rw [Sr.L_mul] at this;exact this
def Ja {l m:d7} (h:MR (B_ l) (B_ m)):∃ Y,Sr.Pol Y/\sr m=Y*sr l:=by
 obtain ⟨A,a⟩:=h;refine ⟨Sr.L A,Sr.Pol.L A,?_⟩;rw [Sr.L_mul];exact Sr.ext' a
def LA {K:W.Frag} {i:Nat} {k:Int} {a:Addr} {xs:dj} {v:V} {b:L2.St} {H:Hp} {Q:VK} (c:b[i]?=some (some (.ref a))) (d:SqT K H a xs) (e:N_ xs k=some v) (h:Q v H):A_ (aI K) (AB i) (tC (.int k)) b H Q:=⟨_,c,a,k,xs,v,rfl,rfl,d,e,h⟩
def sU (h:Kg K vs H Q E):wI K { nx:=λ_ H'=>Q .non H',rt:=Q } (L2.start ["F","G","shared","rest","top","spare"] vs) H:=by
 obtain ⟨p,q,T,B,T',B',x,y,w,m,m',mm,e,rfl,⟨u,v,zu,zv,hp,hu,nu,hv,nv⟩,⟨u',v',hq,az,b0⟩,L1,L2,b3,C,b4,L,b5,b6,w1,w2,O,b7,A,D9,b8,fy,b9,P,k⟩:=h;obtain ⟨cp,a0,a1⟩:=b0;have cq:=P.n60;have cb:=P.m60;have ba:=A.n60;have a2:=A.m60;have n1:=P.n1;have m1:=A.n1;have ct:=A.m1;have e6:=A.e6;have cc:m'*(2*e+4)<=960:=A7 (B4 a2 (show 2*e+4<=16 by omega)) ∅;have cd:m*(2*e+4)<=960:=A7 (B4 ba (show 2*e+4<=16 by omega)) ∅;have b1:=BI.mpr L1.ne;have b2:=BI.mpr L2.ne;refine FJ (LA rfl hp rfl (A9 rfl hq rfl (M8 hv a0 nv a1 C L ⋯ ⋯ ⋯ ⋯ (λ_ _=>⟨O,b7⟩) (d:=e) (by rw [CV];have:=A.me;have:=A.ne;omega) (N:=m+m') ⋯ ⋯ A.lu (λz _=>absurd z L1.ne) λ_ j n P1 r1 z1 H1 s1 h1 S=>?_)));obtain ⟨a,f,cw,M1,a3,o1⟩:=K8 L1.lb L1.nb L1.ne O n.lz n.left P1;have bb:MR (B_ (K_ j)) (B_ B'):=MR.of (GA n.lz) (EX L2.lb) (EY n.lz) n.right;have ce:0<(K_ j).length:=BI.mpr f;have bc:=s1 _ _ hq;have a4:=s1 _ _ a0
 have ch:(K_ j).length<=B'.length:=by
  have:=F3 n.lz (IE L2.lb L2.nb L2.ne) n.right;rw [Be] at this;rw [D4];exact this
 have cz:(K_ j).length<=mm:=by rcases b9 with h | h <;> omega
 have mD:∀ i,i<=w+1+m->i*x<=242121/\i*(x+1)<=242121:=λi hi=>by
  have h1:i*(x+1)<=121*2001:=B4 ⋯ ⋯;have h2:i*x<=i*(x+1):=CM _ ⋯;omega
 have mB:=mD (B.length+1 - (K_ j).length) ⋯;have d0:=mD (B'.length+1 - (K_ j).length) ⋯;refine FJ (A9 rfl bc rfl (AO rfl (Hy (SqT.of a4) h1 (NuK.of (a1.tp (M_ s1))) S L a f ⋯ ⋯ ⋯ ⋯ ⋯ ⋯ bb λr2 R H2 s2 ⟨z2,h2,a6⟩ lR nR ci eR=>?_)));have GR:=(UU L lR nR b6 A.me n.lz P1 (a3 _) n.right eR).mono (b':=20000) (c':=11000) ⋯ ⋯;have D:=s1.trans s2;have bd:=D.sqT hp;refine FJ (Af (LA rfl bd rfl (AO rfl (JI (D.sqT hu) h2 (nu.same D) a6 b3 GR ⋯ ⋯ ⋯ ⋯ ⋯ ⋯ λr3 X1 H3 s3 ⟨z3,h3,n3⟩ G3 l3 e3=>?_))));have o:=D.trans s3;have bf:=o.sqT hp;have bg:=o _ _ hq;have bi:=o.sqT hv;have bl:=(s2.trans s3) _ _ h1;refine Af (A9 rfl bg rfl (Af (LA rfl bf rfl (AO rfl (Hy bi bl (nv.same o) (S.tp (M_ (s2.trans s3))) C a f ⋯ ⋯ ⋯ ⋯ ⋯ ⋯ M1 λr4 U H4 s4 ⟨z4,h4,n4⟩ lQ nQ cj eQ=>?_)))));have GQ:=(UU C lQ nQ b5 A.ne n.lz P1 (a3 _) n.left eQ).mono (b':=20000) (c':=11000) ⋯ ⋯;have ab:=o.trans s4;obtain ⟨d1,bm,bn⟩:=az.same ab;refine JI (SqT.of bm) h4 (NuK.of bn) n4 b4 GQ ⋯ ⋯ ⋯ ⋯ ⋯ ⋯ λr5 X2 H5 s5 ⟨z5,h5,n5⟩ G5 l5 e5=>?_;have bp:=(s4.trans s5) _ _ h3;have bq:=G3.mono (b':=32000) (c':=22000) ⋯ ⋯;have br:=G5.mono (b':=32000) (c':=22000) ⋯ ⋯;obtain ⟨M,bs,bt,bM,q1,q2⟩:=UV bq br;refine vC bp h5 (n3.tp (M_ (s4.trans s5))) n5 G3.low G5.low bs bt bM q1 q2 ⋯ ⋯ ⋯ ⋯ λr6 F H6 s6 ⟨z6,h6,n6⟩ G6 l6 e6=>?_;have d2:F.length<=w:=A7 l6 (Nat.max_le.mpr ⟨⋯,⋯⟩)
 have ac:=((((s2.trans s3).trans s4).trans s5).trans s6);have bv:=ac _ _ h1;have J:=Dp eQ;have oR:=Dp eR
 have ot:sr F=sr T*sr R+Sr.num 1*(sr T'*sr U):=by
  rw [<-Dp e3,<-Dp e5];exact Sr.ext' λk=>by show B_ F k=(sr X1).c k+(Sr.num 1*sr X2).c k;rw [Sr.num_mul];exact e6 k
 have G0:=Bu a.low a.nz f;have bw:F≠[]->Fp y (AL F):=λt0=>fy F (sr (K_ j)) G6.low G6.nz t0 (AW _) G0 (by rw [ot,J,oR,Sr.num_one];ext);have ad:Fp x (AL (K_ j)):=K7 a.low L1.lb (AW U) J O;refine FJ (AO rfl (AO rfl (M8 (b:=60000) (c:=60000) (SqT.of h6) bv (NuK.of n6) (S.tp (M_ ac)) (G6.mono ⋯ ⋯) (a.mono ⋯ ⋯) ⋯ ⋯ ⋯ ⋯ (λt0 _=>⟨(bw t0).mono (Nat.le_max_right ..),ad.mono (Nat.le_max_left ..)⟩) (d:=e) (by rw [CV];have:=P.ne;have:=P.me;omega) (N:=w+mm) ⋯ (by have:=P.m1;omega) P.lu (λ_ z=>absurd z f) λ_ W Rr P2 r7 z7 H7 s7 h7 n7=>?_)));obtain ⟨g,r,d3,M2,d4,o2⟩:=K8 a.low a.nz f ad Rr.lz Rr.right P2;have ck:0<(K_ W).length:=BI.mpr r;have bx:MR (B_ (K_ W)) (B_ F):=MR.of (GA Rr.lz) (EX G6.low) (EY Rr.lz) Rr.left;have bz:=s7 _ _ h6;have m3:=mD (F.length+1 - (K_ W).length) ⋯;refine Bt (CJ (Af (AO rfl (AO rfl (Hy (SqT.of bz) h7 (NuK.of (n6.tp (M_ s7))) n7 G6 g r ⋯ ⋯ ⋯ ⋯ ⋯ ⋯ bx λr8 X H8 s8 PX lX nX cl eX=>?_)))));have G:=(((ab.trans s5).trans s6).trans s7).trans s8;have aj:=((((s3.trans s4).trans s5).trans s6).trans s7).trans s8;have c0:=G.sqT hp;have c1:=G.sqT hv;have c2:=aj _ _ h2;have c3:=s8 _ _ h7;refine Af (Af (LA rfl c0 rfl (AO rfl (JI c1 c2 (nv.same G) (a6.tp (M_ aj)) C GR ⋯ ⋯ ⋯ ⋯ ⋯ ⋯ λr9 Pb H9 s9 ⟨z9,h9,n9⟩ Z l9 e9=>AO rfl ?_))));have c4:=s9 _ _ c3;have m4:=mD (Pb.length+1 - (K_ W).length) ⋯;have oX:=Dp eX;have o9:=Dp e9;obtain ⟨G',I,oG⟩:=Ja M2;have M3:MR (B_ (K_ W)) (B_ Pb):=K9 (Y:=sr U*G'*sr R) (((AW _).mul I).mul (AW _)) (by rw [o9,J,oG];ext);refine Hy (SqT.of h9) c4 (NuK.of n9) (n7.tp (M_ (s8.trans s9))) Z g r ⋯ ⋯ ⋯ ⋯ ⋯ ⋯ M3 λal Y d5 am PY lY nY cn eY=>⟨Bi,λwt c5=>?_⟩;have st:=AQ c5 (.tup [.ref r8,.ref al]);have oY:=Dp eY;have S0:=Bu g.low g.nz r;have c6:=Ug L1.lb L2.lb n (AW U) (AW R) J oR;have c7:=Ug G6.low a.low Rr (AW X) I oX oG
 have an:sr Y=sr U*sr R*G':=by
  refine Sr.cancel (AW Y) (((AW _).mul (AW _)).mul I) (AW (K_ W)) S0 ?_;rw [<-oY,o9,J,oG];ext
 have cs:=sQ (s:=1) ∅ (AW T) (AW T') (AW U) (AW R) (AW (K_ j)) (AW (K_ W)) (AW X) I J oR c6 L1.cs L2.cs ot oX oG c7;rw [<-an] at cs
 have R0:R≠[]:=λz=>by
  have:=eR (B'.length - 1);rw [z] at this;exact DG L2.lb L2.nb L2.ne this
 have lr:=JV L2.lb L2.nb lR nR R0 a.low a.nz f eR;have lp:=JV Z.low Z.nz L1.lb L1.nb L1.ne lR nR R0 e9
 have Y0:Y≠[]:=λz=>by
  have:=eY (Pb.length - 1);rw [z] at this;exact DG Z.low Z.nz lp.2.2 this
 have ly:=JV Z.low Z.nz lY nY Y0 g.low g.nz r eY
 have ao:B_ R (R.length - 1)=1:=by
  have:=lr.2.1;rw [D5 L2.one,o1] at this;ext
 have ar:B_ Y (Y.length - 1)=1:=by
  have h1:=ly.2.1;have h2:=lp.2.1;rw [D5 L1.one,ao] at h2;rw [o2,h2] at h1;ext
 refine k wt _ X Y (((G.trans s9).trans am).trans st) ⟨r8,al,upd_same,((PX.same s9).same am).same st,PY.same st⟩ ⟨lX,lY,nX,nY,Y0,JW lY ar,cs⟩ ?_;have c8:sr X*(sr B*sr B')=sr U*sr R*sr (K_ j)*(sr X*sr (K_ j)):=by rw [J,oR];ext
 have c9:sr X*sr (K_ j)=sr F*G':=by rw [oX,oG];ext
 rw [c8,c9,an,ot,J,oR,Sr.num_one];ext
def Uh {Z:dq} (t:Tz Z) (h:si Z≠0):Lz Z:=Dn t λz=>h (by rw [z,Dq []];exact Sr.L_nil)
def sV:Sr.num ((-1:Int):Rat) = -1:=by
 have a:Sr.num ((-1:Int):Rat)+Sr.num 1=0:=Sr.ext' λk=>by
  show ((-1:Int):Rat)*Aj k+1*Aj k=(0:Sr).c k;rw [Sr.zero_c,show (((-1:Int)):Rat) = -1 from rfl];ext
 rw [Sr.num_one] at a;ext
def Lw.uniq {X Y a b:d7} (h:Lw X Y) (h':Lw a b) (c:sr X*sr b=sr a*sr Y):X=a/\Y=b:=by
 obtain ⟨f,d,e,_⟩:=ID h (AW a) (AW b) c;obtain ⟨g,i,j,_⟩:=ID h' (AW X) (AW Y) c.symm;have k:Y=b:=tQ h.lb h'.lb h.nb h'.nb h.ne h'.ne h.one h'.one (K9 d e) (K9 i j);subst k;exact ⟨UX h.lt h'.lt h.nt h'.nt (Sr.cancel (AW X) (AW a) (AW Y) (Bu h.lb h.nb h.ne) c),rfl⟩
def Lw.uniq' {X Y a b:d7} {Z:Sr} (h:Lw X Y) (h':Lw a b) (c:Sr.Pol Z) (d:Z≠0) (e:sr X*sr b*Z=sr a*sr Y*Z):X=a/\Y=b:=h.uniq h' (Sr.cancel ((AW X).mul (AW b)) ((AW a).mul (AW Y)) c d e)
noncomputable def Jb (T B:d7):W.Dat:=.tuple [Fv T,Fv B]
def Jc {H:Hp} {p:Addr} {T B:d7} (h:FF H p T B):RepD H (.ref p) (Jb T B):=by
 obtain ⟨u,v,hp,⟨e,a,b⟩,⟨f,c,d⟩⟩:=h;exact .tup hp (.cons (KG a b) (.cons (KG c d) .nil))
def cD (T B:d7) (n:Nat):W.kqdOk (n+3) (Jb T B)=true:=by
 simp only [Jb,W.kqdOk,List.all_cons,List.all_nil,okP,Bool.and_self]
def sW {H:Hp} {p q:Addr} {T B a b:d7} {Q:VK} (hp:FF H p T B) (c:FF H q a b) (e:T=a/\B=b) (h:Q (.bl true) H):aS (.ref p) (.ref q) H Q:=by
 obtain ⟨rfl,rfl⟩:=e;exact ⟨_,_,true,Jc hp,Jc c,cD _ _ 5,cD _ _ 5,by simp,h⟩
def sX {H:Hp} {p q:Addr} {T B a b:d7} {Q:VK} (hp:FF H p T B) (c:FF H q a b) (e:T=a/\B=b) (h:Q (.bl false) H):cJ (.ref p) (.ref q) H Q:=by
 obtain ⟨rfl,rfl⟩:=e;exact ⟨_,_,true,Jc hp,Jc c,cD _ _ 5,cD _ _ 5,by simp,h⟩
noncomputable instance (x n m e:Nat):Decidable (C0 x n m e):=decidable_of_iff (1<=n/\1<=m/\n<=60/\m<=60/\n<2 ^ e/\m<2 ^ e/\e<=6/\(x+e+2)*(n+m)<=44490) ⟨λ⟨a,b,c,d,e,f,g,h⟩=>⟨a,b,c,d,e,f,g,h⟩,λ⟨a,b,c,d,e,f,g,h⟩=>⟨a,b,c,d,e,f,g,h⟩⟩
theorem NY:sr [(1,1)]=1:=Sr.ext' λk=>by
 rw [Gx];cases k with
 | zero=>show val (1,1)=_;unfold val;show ((1:Int):Rat) / ((1:Int):Rat)=1;rw [show ((1:Int):Rat)=1 from rfl];ext
 | succ k=>show B_ [(1,1)] (k+1)=0;exact BN (by simp)
def Gz:sr []=0:=Sr.ext' λk=>by rw [Sr.zero_c];exact BN (Ae _)
theorem si1:si [1]=1:=Sr.ext' λk=>by
 rw [Gx];cases k with
 | zero=>rfl
 | succ k=>show ((co [1] (k+1):Int):Rat)=0;rw [Ah (by simp)];rfl
def lw1 {T:d7} (b:AX T) (c:Nz T):Lw T [(1,1)]:=⟨b,λq a=>by rw [B7.mp a];exact JU,c,λq a=>by obtain rfl:(1,1)=q:=kH a;decide,by simp,rfl,by rw [NY];exact Sr.Cs.one⟩
def one_ne:(1:Sr)≠0:=by rw [<-si1];exact JZ ⟨∅,∅⟩
namespace Sr
noncomputable def ev:List Rat->Rat->Rat
 | [],_=>0
 | a::l,x=>a+x*ev l x
theorem NZ:∀ (l:List Rat) (x:Rat),(∀ k,l.getD k 0=0)->ev l x=0
 | [],_,_=>rfl
 | a::l,x,h=>by
   have b:a=0:=h 0;show a+x*ev l x=0;rw [b,NZ l x λk=>by have:=h (k+1);rw [FY] at this;exact this];ext
theorem af:∀ (a b:List Rat) (x:Rat),(∀ k,a.getD k 0=b.getD k 0)->ev a x=ev b x
 | [],b,x,h=>(NZ b x λk=>(h k).symm.trans (by simp)).symm
 | a::l,[],x,h=>NZ (a::l) x λk=>(h k).trans (by simp)
 | a::l,b::m,x,h=>by
   have c:a=b:=h 0;show a+x*ev l x=b+x*ev m x;rw [c,af l m x λk=>by have:=h (k+1);rw [FY,FY] at this;exact this]
def Ui {a b:List Rat} (h:L a=L b) (x:Rat):ev a x=ev b x:=af a b x λk=>by rw [<-Cy,<-Cy];exact kJ (congrArg Sr.c h) k
theorem GC:∀ (a b:List Rat) (x:Rat),ev (A3 a b) x=ev a x+ev b x
 | [],b,x=>by show ev b x=0+ev b x;ext
 | a::l,[],x=>by rw [J9];show _=_+0;ext
 | a::l,b::m,x=>by
   show (a+b)+x*ev (A3 l m) x=a+x*ev l x+(b+x*ev m x);rw [GC l m x];ext
theorem LB (c:Rat):∀ (a:List Rat) (x:Rat),ev (a.map (c*·)) x=c*ev a x
 | [],x=>by show (0:Rat)=c*0;ext
 | a::l,x=>by
   show c*a+x*ev (l.map (c*·)) x=c*(a+x*ev l x);rw [LB c l x];ext
theorem Jd:∀ (a b:List Rat) (x:Rat),ev (BW a b) x=ev a x*ev b x
 | [],b,x=>by show (0:Rat)=0*_;ext
 | a::l,b,x=>by
   show ev (A3 (b.map (a*·)) (0::BW l b)) x=(a+x*ev l x)*ev b x;rw [GC,LB];show a*ev b x+(0+x*ev (BW l b) x)=_;rw [Jd l b x];ext
theorem Uj:∀ (Z:dq) (x:Int),ev (Z.map λz:Int=>(z:Rat)) (x:Rat)=((evI Z x:Int):Rat)
 | [],_=>rfl
 | z::Z,x=>by
   show (z:Rat)+(x:Rat)*ev (Z.map λz:Int=>(z:Rat)) (x:Rat)=((z+x*evI Z x:Int):Rat);rw [Uj Z x];push_cast;rfl
def sY {a:List Rat} (h:∀ x,ev a x=0):L a=0:=by
 obtain ⟨N,Z,c,b⟩:=UW a
 have z:∀ k,co Z k=0:=NK ((List.range Z.length).map λi:Nat=>(i:Int)) Z (by
   unfold List.Nodup;rw [List.pairwise_map];exact (List.nodup_range (n:=Z.length)).imp λh q=>h ⋯) (λt _=>by
   have:((evI Z t:Int):Rat)=0:=by rw [<-Uj,<-b,LB,h];ext
   exact_mod_cast this) (by rw [AR,BL];exact AT _)
 refine ext' λk=>?_;rw [zero_c];show cvL a Aj k=0
 have e:(N:Rat)*cvL a Aj k=((co Z k:Int):Rat):=by
  rw [<-BF,b,Cy];unfold co;rw [AU,AU,Aq];cases Z[k]? <;> rfl
 rw [z k] at e;rcases Cg.mp (e.trans (by rfl:((0:Int):Rat)=0)) with q | q
 ·exact absurd q (AY c)
 ·exact q
def Je (a b:List Rat):L (A3 a b)=L a+L b:=ext' λk=>Bh Aj a b k
def sZ (s:Rat) (a:List Rat):L (a.map (s*·))=num s*L a:=ext' λk=>by rw [num_mul];exact BF s Aj a k
def Na (a b:List Rat):L (BW a b)=L a*L b:=by rw [L_mul];exact ext' λk=>By Aj a b k
def ev_ext {a b:List Rat} (h:∀ x,ev a x=ev b x):L a=L b:=by
 have z:=sY (a:=A3 a (b.map ((-1:Rat)*·))) λx=>by rw [GC,LB,h];ext
 rw [Je,sZ] at z;have:num (-1)=(-1:Sr):=num_neg 1;rw [this] at z;ext
noncomputable def cE (c:Rat):List Rat->List Rat
 | []=>[]
 | x::a=>A3 [x] (BW [c,1] (cE c a))
theorem ev_mvR (c:Rat):∀ (a:List Rat) (x:Rat),ev (cE c a) x=ev a (x+c)
 | [],_=>rfl
 | y::a,x=>by
   show ev (A3 [y] (BW [c,1] (cE c a))) x=y+(x+c)*ev a (x+c);rw [GC,Jd,ev_mvR c a];show y+x*0+(c+x*(1+x*0))*_=_;ext
noncomputable def mv (c:Rat) (f:Sr):Sr:=open Classical in if h:Pol f then L (cE c h.choose) else 0
def mv_L (c:Rat) (a:List Rat):mv c (L a)=L (cE c a):=by
 unfold mv;rw [dif_pos (Pol.L a)];exact ev_ext λx=>by rw [ev_mvR,ev_mvR];exact Ui (Exists.choose_spec (Pol.L a)).symm _
def rA {c:Rat} {f g:Sr} (d:Pol f) (e:Pol g):mv c (f+g)=mv c f+mv c g:=by
 obtain ⟨a,rfl⟩:=d;obtain ⟨b,rfl⟩:=e;rw [<-Je,mv_L,mv_L,mv_L,<-Je];exact ev_ext λx=>by rw [GC,ev_mvR,ev_mvR,ev_mvR,GC]
def rB {c:Rat} {f g:Sr} (d:Pol f) (e:Pol g):mv c (f*g)=mv c f*mv c g:=by
 obtain ⟨a,rfl⟩:=d;obtain ⟨b,rfl⟩:=e;rw [<-Na,mv_L,mv_L,mv_L,<-Na];exact ev_ext λx=>by rw [Jd,ev_mvR,ev_mvR,ev_mvR,Jd]
theorem Nc (x:Rat):num x=L [x]:=ext' λk=>by
 show x*Aj k=cvL [x] Aj k;cases k with
 | zero=>rw [Ax];ext
 | succ k=>rw [Ar,BE];ext
def Uk {c:Rat} (s:Rat):mv c (num s)=num s:=by
 rw [Nc,mv_L];exact ev_ext λx=>by rw [ev_mvR];show s+_*0=s+_*0;ext
def rC (c:Rat):mv c (X 1)=X 1+num c:=by
 show mv c (L [0,1])=L [0,1]+num c;rw [mv_L,Nc,<-Je];exact ev_ext λx=>by rw [ev_mvR,GC];show 0+(x+c)*(1+_*0)=0+x*(1+x*0)+(c+x*0);ext
theorem mv_cm {c:Rat} {f:Sr} (b:Pol f):mv c f=cm (X 1+num c) f:=by
 obtain ⟨a,rfl⟩:=b;rw [cm_L]
 induction a with
 | nil=>rw [L_nil,<-n0,Uk];exact n0
 | cons x a d=>
   rw [L_cons,rA (Pol.num x) ((pXn 1).mul (Pol.L a)),Uk,rB (pXn 1) (Pol.L a),rC,d];rfl
end Sr
namespace Sr
open Classical in
noncomputable def at' (f:Sr) (x:Rat):Rat:=if h:∃ a,L a=f then ev h.choose x else 0
def at_L (a:List Rat) (x:Rat):at' (L a) x=ev a x:=by
 have h:∃ b,L b=L a:=⟨a,rfl⟩;unfold at';rw [dif_pos h];exact Ui h.choose_spec x
def Nd {f g:Sr} (c:Pol f) (d:Pol g) (x:Rat):at' (f+g) x=at' f x+at' g x:=by
 obtain ⟨a,rfl⟩:=c;obtain ⟨b,rfl⟩:=d;rw [<-Je,at_L,at_L,at_L,GC]
def at_mul {f g:Sr} (c:Pol f) (d:Pol g) (x:Rat):at' (f*g) x=at' f x*at' g x:=by
 obtain ⟨a,rfl⟩:=c;obtain ⟨b,rfl⟩:=d;rw [<-Na,at_L,at_L,at_L,Jd]
def at_num (c x:Rat):at' (num c) x=c:=by
 rw [Nc,at_L];show c+x*0=c;ext
def Ul (x:Rat):at' 0 x=0:=by rw [<-n0,at_num]
def Um (x:Rat):at' 1 x=1:=by rw [<-n1,at_num]
def rD (x:Rat):at' (X 1) x=x:=by
 rw [show X 1=L [0,1] from rfl,at_L];show 0+x*(1+x*0)=x;ext
theorem at_Xn (x:Rat):∀ n:Nat,at' (X n) x=x ^ n
 | 0=>by
   have a:X 0=(1:Sr):=ext' λk=>by rw [show X 0=X 0*1 by ext,X_mul,kA (Ae _),DJ]
   rw [a,Um,Rat.pow_zero]
 | n+1=>by rw [<-Eu n 1,at_mul (pXn n) (pXn 1),at_Xn x n,rD,Dg]
def at_sub {f g:Sr} (b:Pol f) (a:Pol g) (x:Rat):at' (f - g) x=at' f x - at' g x:=by
 rw [show f - g=f+num (-1)*g by rw [n_1];ext,Nd b ((Pol.num _).mul a),at_mul (Pol.num _) a,at_num];ext
theorem at_cm {u f:Sr} (pu:Pol u) (b:Pol f) (x:Rat):at' (cm u f) x=at' f (at' u x):=by
 obtain ⟨a,rfl⟩:=b;rw [cm_L,at_L]
 induction a with
 | nil=>exact Ul x
 | cons y a c=>
   show at' (num y+u*cmL u a) x=y+at' u x*ev a (at' u x);rw [Nd (Pol.num y) (pu.mul (He pu a)),at_num,at_mul pu (He pu a),c]
theorem j_at {p q:Nat->Sr} (hp:∀ i,Pol (p i)) (a:∀ i,Pol (q i)) (x:Rat) (t:dM) (b:t 0=0) (v:dM):∀ n,(∀ i,i<n->v i*at' (q i) x=at' (p i) x/\t (i+1)=t i+v i*x ^ i)->at' (jN p q n) x=t n*at' (jD q n) x
 | 0,_=>by show at' 0 x=t 0*_;rw [Ul,b];ext
 | n+1,h=>by
   have c:=j_at hp a x t b v n λi f=>h i ⋯;obtain ⟨d,e⟩:=h n ⋯;show at' (jN p q n*q n+X n*p n*jD q n) x=t (n+1)*at' (jD q n*q n) x;rw [Nd ((jN_pol hp a n).mul (a n)) (((pXn n).mul (hp n)).mul (jD_pol a n)),at_mul (jN_pol hp a n) (a n),at_mul ((pXn n).mul (hp n)) (jD_pol a n),at_mul (pXn n) (hp n),at_mul (jD_pol a n) (a n),at_Xn,c,e,<-d];ext
theorem jD_at {q:Nat->Sr} (a:∀ i,Pol (q i)) (x:Rat):∀ n,(∀ i,i<n->at' (q i) x≠0)->at' (jD q n) x≠0
 | 0,_=>by show at' 1 x≠0;rw [Um];decide
 | n+1,h=>by
   show at' (jD q n*q n) x≠0;rw [at_mul (jD_pol a n) (a n)];exact λz=>(Cg.mp z).elim (jD_at a x n λi b=>h i ⋯) (h n ⋯)
end Sr
noncomputable def Ea:dq->dq->dq
 | [],b=>b
 | x::a,[]=>x::a
 | x::a,y::b=>(x+y)::Ea a b
theorem Nf:∀ a b:dq,(Ea a b).length=max a.length b.length
 | [],b=>by show b.length=max 0 b.length;omega
 | x::a,[]=>by show (x::a).length=max (x::a).length 0;omega
 | x::a,y::b=>by
   show (Ea a b).length+1=max (a.length+1) (b.length+1);rw [Nf a b];omega
theorem Ng:∀ a b:dq,L1 (Ea a b)<=L1 a+L1 b
 | [],b=>by show L1 b<=0+L1 b;omega
 | x::a,[]=>by show L1 (x::a)<=L1 (x::a)+0;omega
 | x::a,y::b=>by
   have:=Ng a b;have h:=Int.natAbs_add_le x y;show (x+y).natAbs+L1 (Ea a b)<=(x.natAbs+L1 a)+(y.natAbs+L1 b);omega
def IF (x:Int) (a:dq):si (x::a)=Sr.num (x:Rat)+Sr.X 1*si a:=by
 rw [Dq,Dq,Ds,Sr.L_cons]
def rE:Sr.num ((0:Int):Rat)=0:=Sr.ext' λk=>by rw [Sr.zero_c];show ((0:Int):Rat)*Aj k=0;rw [show ((0:Int):Rat)=0 from rfl];ext
def Jf:si []=0:=by rw [Dq];exact Sr.L_nil
theorem Nh:∀ a b:dq,si (Ea a b)=si a+si b
 | [],b=>by show si b=si []+si b;rw [Jf];ext
 | x::a,[]=>by show si (x::a)=si (x::a)+si [];rw [Jf];ext
 | x::a,y::b=>by
   show si ((x+y)::Ea a b)=_;rw [IF,IF,IF,Nh a b,show ((x+y:Int):Rat)=(x:Rat)+(y:Rat) from Rat.intCast_add x y,show Sr.num ((x:Rat)+(y:Rat))=Sr.num (x:Rat)+Sr.num (y:Rat) from Sr.num_add _ _];ext
noncomputable def FQ:dq->dq->dq
 | [],_=>[]
 | x::a,b=>Ea (b.map (x*·)) (0::FQ a b)
theorem Ni (x:Int):∀ b:dq,L1 (b.map (x*·))=x.natAbs*L1 b
 | []=>rfl
 | y::b=>by
   show (x*y).natAbs+L1 (b.map (x*·))=x.natAbs*(y.natAbs+L1 b);rw [Ni x b,BX,Nat.mul_add]
theorem Uo:∀ a b:dq,L1 (FQ a b)<=L1 a*L1 b
 | [],b=>Ae _
 | x::a,b=>by
   refine A7 (Ng _ _) ?_;have:=Uo a b;have e:=Ni x b;show L1 (b.map (x*·))+(0+L1 (FQ a b))<=(x.natAbs+L1 a)*L1 b;rw [e,Cl];omega
theorem Up:∀ a b:dq,si (FQ a b)=si a*si b
 | [],b=>by show si []=si []*si b;rw [Jf];ext
 | x::a,b=>by
   show si (Ea (b.map (x*·)) (0::FQ a b))=_;rw [Nh,IF,IF,Up a b,FP,rE];ext
def rF {n m:Nat} (f:1<=m):∀ (a b:dq),a.length<=n->b.length<=m->(FQ a b).length<=n+m - 1:=by
 have c:∀ a b:dq,b.length<=m->(FQ a b).length<=a.length+m - 1:=λa=>by
  induction a with
  | nil=>intro b _;exact Ae _
  | cons x a e=>
    intro b d;show (Ea (b.map (x*·)) (0::FQ a b)).length<=a.length+1+m - 1;have:=e b d;rw [Nf,AR,CB];omega
 intro a b g d;have:=c a b d;omega
def Iz.mono {A B n m:Nat} {f:Sr} (h:Iz A n f) (b:A<=B) (c:n<=m):Iz B m f:=let ⟨X,e,a,l⟩:=h;⟨X,e,⋯,⋯⟩
def Iz.pol {A n:Nat} {f:Sr} (h:Iz A n f):Sr.Pol f:=let ⟨X,e,_,_⟩:=h;e ▸ DO X
def Iz.add {A B n m:Nat} {f g:Sr} (h:Iz A n f) (h':Iz B m g):Iz (A+B) (max n m) (f+g):=by
 obtain ⟨X,rfl,a,l⟩:=h;obtain ⟨Y,rfl,b,c⟩:=h';exact ⟨Ea X Y,Nh X Y,A7 (Ng X Y) ⋯,by rw [Nf];omega⟩
def Iz.smul {A n:Nat} {f:Sr} (c:Int) (h:Iz A n f):Iz (c.natAbs*A) n (Sr.num (c:Rat)*f):=by
 obtain ⟨X,rfl,a,l⟩:=h;exact ⟨X.map (c*·),FP X,by rw [Ni];exact CM _ a,by rw [AR];exact l⟩
def Iz.neg {A n:Nat} {f:Sr} (h:Iz A n f):Iz A n (-f):=by
 have:=h.smul (-1);rw [sV,show (-1:Sr)*f = -f by ext,show (-1:Int).natAbs=1 from rfl,Nat.one_mul] at this;exact this
def Iz.sub {A B n m:Nat} {f g:Sr} (h:Iz A n f) (h':Iz B m g):Iz (A+B) (max n m) (f - g):=by
 have:=h.add h'.neg;rw [show f + -g=f - g by grind] at this;exact this
def Iz.mul {A B n m:Nat} {f g:Sr} (b:1<=m) (h:Iz A n f) (h':Iz B m g):Iz (A*B) (n+m - 1) (f*g):=by
 obtain ⟨X,rfl,a,l⟩:=h;obtain ⟨Y,rfl,c,d⟩:=h';exact ⟨FQ X Y,Up X Y,A7 (Uo X Y) (B4 a c),rF b X Y l d⟩
theorem IG:∀ (X:dq) (k:Nat),(co X k).natAbs<=L1 X
 | [],k=>by rw [Ah (Ae _)];exact AT 0
 | x::X,0=>by show x.natAbs<=x.natAbs+L1 X;omega
 | x::X,k+1=>by
   have:=IG X k;show (co X k).natAbs<=x.natAbs+L1 X;omega
def Iz.row {A n b:Nat} {f:Sr} (h:Iz A n f) (c:A<2 ^ b):∃ Z:dq,Tz Z/\si Z=f/\(∀ z∈Z,Bd b z)/\Z.length<=n:=by
 obtain ⟨X,rfl,a,l⟩:=h;obtain ⟨Z,t,d,e,g⟩:=sP (F:=co X) (w:=X.length) (x:=b) (λk hk=>Ah hk) (λk=>DI (A7 (IG X k) a) c);exact ⟨Z,t,Sr.ext' λk=>by show ((co Z k:Int):Rat)=_;rw [d];rfl,e,⋯⟩
def Iz.fp {A n b e:Nat} {f Y:Sr} {l:d7} (h:Iz A n f) (c:A<2 ^ b) (d:n<2 ^ e) (g:AX l) (i:Sr.Pol Y) (j:f≠0) (k:f=Y*sr l):Fp (b+n*(2*e+4)) (AL l):=by
 obtain ⟨X,m,a,o,p⟩:=h.row c;exact NX g (Uh m (by rw [a];exact j)) o p d i (by rw [a];exact k)
def rG {T U c a X Y:d7} {N D d b:Sr} (l:Lw X Y) (L1:Lw T U) (L2:Lw c a) (h:Sr.Pol N) (i:Sr.Pol D) (f:Sr.Pol d) (g:Sr.Pol b) (j:sr T*D=N*sr U) (k:sr c*b=d*sr a) (e:sr X*(sr U*sr a)=sr T*sr c*sr Y):sr X*(D*b)=N*d*sr Y:=by
 refine Sr.cancel ((AW X).mul (i.mul g)) ((h.mul f).mul (AW Y)) ((AW U).mul (AW a)) (Sr.ne_mul (AW U) (AW a) (Bu L1.lb L1.nb L1.ne) (Bu L2.lb L2.nb L2.ne)) ?_;have m:sr X*(D*b)*(sr U*sr a)=sr X*(sr U*sr a)*(D*b):=by ext
 have n:sr T*sr c*sr Y*(D*b)=sr T*D*(sr c*b)*sr Y:=by ext
 rw [m,e,n,j,k];ext
def rH {s:Rat} {T U c a X Y:d7} {N D f b:Sr} (l:Lw X Y) (L1:Lw T U) (L2:Lw c a) (i:Sr.Pol N) (h:Sr.Pol D) (g:Sr.Pol f) (d:Sr.Pol b) (j:sr T*D=N*sr U) (k:sr c*b=f*sr a) (e:sr X*(sr U*sr a)=(sr T*sr a+Sr.num s*sr c*sr U)*sr Y):sr X*(D*b)=(N*b+Sr.num s*f*D)*sr Y:=by
 refine Sr.cancel ((AW X).mul (h.mul d)) (((i.mul d).add (((Sr.Pol.num s).mul g).mul h)).mul (AW Y)) ((AW U).mul (AW a)) (Sr.ne_mul (AW U) (AW a) (Bu L1.lb L1.nb L1.ne) (Bu L2.lb L2.nb L2.ne)) ?_;have m:sr X*(D*b)*(sr U*sr a)=sr X*(sr U*sr a)*(D*b):=by ext
 have n:(sr T*sr a+Sr.num s*sr c*sr U)*sr Y*(D*b)=(sr T*D*(sr a*b)+Sr.num s*(sr c*b)*(sr U*D))*sr Y:=by ext
 rw [m,e,n,j,k];ext
def Ex {c:Rat} (h:c≠0):Sr.num c≠0:=λz=>by
 have e:=Sr.num_inv h;rw [z] at e;exact one_ne (by rw [<-e];ext)
def nI (a b:Int):Sr.num ((a*b:Int):Rat)=Sr.num (a:Rat)*Sr.num (b:Rat):=by rw [Sr.num_num,CG]
def LC (A n:Nat):Iz A n 0:=⟨[],Jf,Ae _,Ae _⟩
def Nj (x:Int) {A n:Nat} (h:x.natAbs<=A) (n1:1<=n):Iz A n (Sr.num (x:Rat)):=⟨[x],by rw [IF,Jf];ext,by show x.natAbs+0<=A;omega,n1⟩
theorem Uq {M d:Nat} {u:Sr} {S:Int} (c:Iz M (d+1) u) (e:S≠0) (f:S.natAbs<=M):∀ X:dq,Iz (L1 X*M ^ (X.length - 1)) (d*(X.length - 1)+1) (Sr.num ((S ^ (X.length - 1):Int):Rat)*Sr.cmL (Sr.num (S:Rat)⁻¹*u) (X.map λz:Int=>(z:Rat)))
 | []=>by
   show Iz _ _ (_*0);rw [show ∀ a:Sr,a*0=0 from λa=>by grind];exact LC _ _
 | [x]=>by
   show Iz _ _ (Sr.num ((S ^ 0:Int):Rat)*(Sr.num (x:Rat)+_*0));rw [DT,show Sr.num ((1:Int):Rat)=1 from Sr.n1,show (1:Sr)*(Sr.num (x:Rat)+Sr.num (S:Rat)⁻¹*u*0)=Sr.num (x:Rat) by grind];exact Nj x (by show x.natAbs<=(x.natAbs+0)*M ^ 0;rw [Nat.pow_zero];omega) ⋯
 | x::y::l=>by
   have b:=Uq c e f (y::l);have i:=Sr.num_inv (AY e);show Iz ((x.natAbs+L1 (y::l))*M ^ (l.length+1)) (d*(l.length+1)+1) (Sr.num ((S ^ (l.length+1):Int):Rat)*(Sr.num (x:Rat)+Sr.num (S:Rat)⁻¹*u*Sr.cmL (Sr.num (S:Rat)⁻¹*u) ((y::l).map λz:Int=>(z:Rat))));have b:Iz (L1 (y::l)*M ^ l.length) (d*l.length+1) (Sr.num ((S ^ l.length:Int):Rat)*Sr.cmL (Sr.num (S:Rat)⁻¹*u) ((y::l).map λz:Int=>(z:Rat))):=b;generalize Sr.cmL (Sr.num (S:Rat)⁻¹*u) ((y::l).map λz:Int=>(z:Rat))=w at b ⊢;have g:=Nj (x*S ^ (l.length+1)) (AT _) (AT 1);have h:=(g.add (c.mul ⋯ b)).mono (B:=(x.natAbs+L1 (y::l))*M ^ (l.length+1)) (m:=d*(l.length+1)+1) ?_ ?_
   ·rw [show Sr.num ((S ^ (l.length+1):Int):Rat)*(Sr.num (x:Rat)+Sr.num (S:Rat)⁻¹*u*w)=Sr.num ((x*S ^ (l.length+1):Int):Rat)+u*(Sr.num ((S ^ l.length:Int):Rat)*w) by
     rw [nI x,Df,nI (S ^ l.length)];grind]
    exact h
   ·rw [BX,Int.natAbs_pow,Cl];have j:x.natAbs*S.natAbs ^ (l.length+1)<=x.natAbs*M ^ (l.length+1):=CM _ (Nat.pow_le_pow_left f _);have k:M*(L1 (y::l)*M ^ l.length)=L1 (y::l)*M ^ (l.length+1):=by rw [CV];ext
    omega
   ·rw [Nat.mul_succ];omega
theorem Iz.cm {A M n d:Nat} {f u:Sr} {S:Int} (m:Iz M (d+1) u) (g:S≠0) (i:S.natAbs<=M) (h:Iz A n f) (n1:1<=n):Iz (A*M ^ (n - 1)) (d*(n - 1)+1) (Sr.num ((S ^ (n - 1):Int):Rat)*Sr.cm (Sr.num (S:Rat)⁻¹*u) f):=by
 obtain ⟨X,rfl,o,p⟩:=h;rw [Dq,Sr.cm_L];have k:=Uq m g i X;have r:1<=M:=by have:=Int.natAbs_pos.mpr g;omega
 cases X with
 | nil=>
   show Iz _ _ (_*0);rw [show ∀ a:Sr,a*0=0 from λa=>by grind];exact LC _ _
 | cons x l=>
   have e:n - 1=(n - 1 - l.length)+l.length:=by have:l.length+1<=n:=p;omega
   have k:Iz (L1 (x::l)*M ^ l.length) (d*l.length+1) (Sr.num ((S ^ l.length:Int):Rat)*_):=k;have j:=k.smul (S ^ (n - 1 - l.length));rw [show ∀ a b c:Sr,a*(b*c)=a*b*c from λa b c=>by ext,<-nI,<-Int.pow_add,<-e] at j;refine j.mono ?_ ?_
   ·rw [Int.natAbs_pow,show M ^ (n - 1)=M ^ (n - 1 - l.length)*M ^ l.length by rw [<-C3,<-e]];have q:=B4 (Nat.pow_le_pow_left i (n - 1 - l.length)) (Bk (M ^ l.length) o);refine A7 q (Nat.le_of_eq ?_);ext
   ·have:=CM d (show l.length<=n - 1 by omega);omega
theorem GD {a:Type} (n:Nat):∀ i:Nat,R_ n i ([]:List a)=[]
 | 0=>rfl
 | _+1=>rfl
theorem Nk {n:Nat} (a:1<=n):∀ (X:dq) (i k:Nat),i<n->co (R_ n i X) k=co X (i+k*n)
 | [],_,k,_=>by rw [GD,Ah (Ae _),Ah (Ae _)]
 | x::l,0,0,_=>by rw [Nat.zero_mul,Nat.add_zero];rfl
 | x::l,0,k+1,_=>by
   have e:=Nk a l (n - 1) k ⋯;show co (R_ n (n - 1) l) k=co (x::l) (0+(k+1)*n);rw [e,show 0+(k+1)*n=(n - 1+k*n)+1 by rw [Nat.succ_mul];omega];rfl
 | x::l,i+1,k,h=>by
   have e:=Nk a l i k ⋯;show co (R_ n i l) k=co (x::l) (i+1+k*n);rw [e,show i+1+k*n=(i+k*n)+1 by omega];rfl
theorem Nl (n:Nat):∀ (i:Nat) (X:dq),L1 (R_ n i X)<=L1 X
 | _,[]=>by rw [GD];exact AT _
 | 0,x::l=>by have:=Nl n (n - 1) l;show x.natAbs+L1 (R_ n (n - 1) l)<=x.natAbs+L1 l;omega
 | i+1,x::l=>by have:=Nl n i l;show L1 (R_ n i l)<=x.natAbs+L1 l;omega
theorem LD {b:Type} {n:Nat} (a:1<=n):∀ (i:Nat) (X:List b),i<n->n*(R_ n i X).length<=X.length+(n - 1) - i
 | _,[],_=>by rw [GD];exact Ae _
 | 0,x::l,h=>by
   have:=LD a (n - 1) l ⋯;show n*((R_ n (n - 1) l).length+1)<=l.length+1+(n - 1) - 0;rw [Nat.mul_succ];omega
 | i+1,x::l,h=>by
   have:=LD a i l ⋯;show n*(R_ n i l).length<=l.length+1+(n - 1) - (i+1);omega
def Iz.st {A k n i:Nat} {f:Sr} (b:1<=n) (c:i<n) (h:Iz A k f):Iz A ((k+(n - 1) - i) / n) (Sr.st n i f):=by
 obtain ⟨X,rfl,a,l⟩:=h;refine ⟨R_ n i X,Sr.ext' λj=>?_,A7 (Nl n i X) a,(Nat.le_div_iff_mul_le ⋯).mpr ?_⟩
 ·show ((co (R_ n i X) j:Int):Rat)=((co X (i+j*n):Int):Rat);rw [Nk b X i j c]
 ·rw [B6];exact A7 (LD b i X c) (Nat.sub_le_sub_right (Nat.add_le_add_right l _) _)
def Qz.mono {A B n m:Nat} {f:Sr} (h:Qz A n f) (a:A<=B) (b:n<=m):Qz B m f:=let ⟨c,d,i⟩:=h;⟨c,d,i.mono a b⟩
def Qz.st {A k n i:Nat} {f:Sr} (a:1<=n) (b:i<n) (h:Qz A k f):Qz A ((k+(n - 1) - i) / n) (Sr.st n i f):=by
 obtain ⟨c,d,j⟩:=h;refine ⟨c,d,?_⟩;rw [<-Sr.st_num];exact j.st a b
def IH (n:Nat):Iz 1 (n+1) (Sr.X n):=by
 refine ⟨List.replicate n 0++[1],?_,?_,by simp⟩
 ·rw [Dq];simp [Sr.X]
 ·unfold L1;simp
def Qz.fp {A n b e:Nat} {l:d7} (h:Qz A n (sr l)) (d:A<2 ^ b) (f:n<2 ^ e) (a:AX l) (g:Nz l) (j:l≠[]):Fp (b+n*(2*e+4)) (AL l):=by
 obtain ⟨c,k,i⟩:=h;exact i.fp d f a (Sr.Pol.num c) (Sr.ne_mul (Sr.Pol.num c) (AW l) (Ex k) (Bu a g j)) rfl
def No {x k:Nat} {l m:d7} {Y:Sr} (F:Fp x (AL m)) (a:AX l) (o:Nz l) (p:l≠[]) (q:AX m) (r:Sr.Pol Y) (e:sr m=Y*sr l) (c:l.length<=k):Qz (k*2 ^ x) k (sr l):=by
 obtain ⟨g,P,d,u,v,w,f⟩:=NW _ (AL l) (IE a o p) (AT _);have A:=K7 a q r e F;have j:si (AL l)=Sr.num (g:Rat)*si P:=by rw [<-FP,<-u]
 have B:=A P w v (Gy (Sr.Pol.num (g:Rat)) j);have i:=Sr.num_inv (AY d);have n:=AY (AV (Br a).1);have I:=Sr.num_inv n;refine ⟨(g:Rat)⁻¹*(Aa l:Rat),λz=>(Cg.mp z).elim (λh=>AY d ()) n,P,?_,?_,?_⟩
 ·rw [<-Sr.num_num,EZ a,j];ext
 ·have b:∀ Z:dq,(∀ z∈Z,z.natAbs<=2 ^ x)->L1 Z<=Z.length*2 ^ x:=λZ=>by
   induction Z with
   | nil=>intro _;exact Ae _
   | cons z Z C=>
     intro h;have:=C λy D=>h y (CD _ D);have J:=h z CC;show z.natAbs+L1 Z<=(Z.length+1)*2 ^ x;rw [Cl];omega
  refine A7 (b P λz G=>CU (Gv B z G)) (Bk _ ?_);rw [f,Be];exact c
 ·rw [f,Be];exact c
def Qz.gq {A n b:Nat} {l:d7} (h:Qz A n (sr l)) (o:A<2 ^ b) (i:AX l) (j:Nz l) (u:l≠[]) (one:AZ l (l.length - 1)=(1,1)):Gq b b l:=by
 obtain ⟨c,p,X,e,q,v⟩:=h
 have f:∀ k,((co X k:Int):Rat)=c*B_ l k:=λk=>by
  have:=kJ (congrArg Sr.c e) k;rw [Sr.num_mul] at this;exact this
 have a:((co X (l.length - 1):Int):Rat)=c:=by rw [f,D5 one];ext
 have g:∀ k,Bd b (co X k):=λk=>DI (A7 (IG X k) q) o;have d:co X (l.length - 1)≠0:=λz=>p (by rw [<-a,z];rfl);generalize r:co X (l.length - 1)=z at a d;have m:Bd b z:=r ▸ g _;rcases Int.lt_or_gt_of_ne d with s | s
 ·refine Do i j (M:=-z) ⋯ m.neg (N:=λk=>-(co X k)) (λk=>?_) λk=>(g k).neg;have:=AY d;have h:=f k;rw [<-a] at h;push_cast;rw [h];ext
 ·refine Do i j (M:=z) s m (N:=λk=>co X k) (λk=>?_) g;have:=AY d;have h:=f k;rw [<-a] at h;rw [h];ext
def D6 (n:Nat):n<2 ^ C' n:=Nat.lt_log2_self
def Cb.ne {c:Rat} (h:Cb c):c≠0:=by
 obtain ⟨p,q,a,b,rfl,_⟩:=h;have d:=AY a;have e:=AY b;ext
def bI:Cb 1:=⟨1,1,∅,∅,by rw [show ((1:Int):Rat)=1 from rfl];ext,(b_ (n:=1) ∅).mono ∅,(b_ (n:=1) ∅).mono ∅⟩
def Sq.cn {c:Rat} {z:Sz} {T B:d7} (h:Sq c z T B):∃ (N D Y:Sr) (a:Int),Iz z.A z.n N/\Iz z.C z.m D/\D≠0/\a≠0/\a.natAbs<=z.k/\Sr.Pol Y/\Y≠0/\Sr.num c*Sr.num (a:Rat)*D=Y*sr B/\N=Y*sr T:=by
 obtain ⟨N,D,a,d,b,f,g,j,e⟩:=h.ex;have pc:Sr.Pol (Sr.num c*Sr.num (a:Rat)):=(Sr.Pol.num _).mul (Sr.Pol.num _);obtain ⟨Y,k,i,m⟩:=ID h.lw d.pol (pc.mul b.pol) e;refine ⟨N,D,Y,a,d,b,f,g,j,k,λz=>?_,i,m⟩;exact Sr.ne_mul pc b.pol (Sr.ne_mul (Sr.Pol.num _) (Sr.Pol.num _) (Ex h.cb.ne) (Ex (AY g))) f (by rw [i,z];ext)
def Sq.rp {c:Rat} {z:Sz} {T B:d7} (h:Sq c z T B):Rp z.b z.n z.m T B:=by
 obtain ⟨N,D,a,m,i,o,r,u,e⟩:=h.ex;obtain ⟨p,q,g,v,w,x,y⟩:=h.cb;have j:∀ n,n<=z.b->2 ^ n<=2 ^ z.b:=λn A=>Ed ∅ A;have U:C' z.A+900<=z.b:=Nat.le_max_left ..;have Y:C' z.C+C' z.k+900<=z.b:=Nat.le_max_right ..
 have C:q.natAbs*z.A<2 ^ z.b:=by
  have f:q.natAbs*z.A<=2 ^ 900*z.A:=Bk _ (CU y);have b:2 ^ 900*z.A<2 ^ 900*2 ^ C' z.A:=Nat.mul_lt_mul_of_pos_left (D6 z.A) (Nat.pow_pos ∅);rw [<-C3] at b;exact DI f (CP b (j _ ⋯))
 obtain ⟨X,F,G,I,J⟩:=(m.smul q).row C;have d:=(i.smul (p*a));rw [nI] at d
 have sz:(p*a).natAbs*z.C<2 ^ z.b:=by
  rw [BX];have L:a.natAbs<2 ^ C' z.k:=DI u (D6 z.k);have f:p.natAbs*a.natAbs*z.C<=2 ^ 900*2 ^ C' z.k*z.C:=Bk _ (B4 (CU x) (CU L));have g:0<2 ^ 900*2 ^ C' z.k:=Nat.mul_pos (Nat.pow_pos ∅) (Nat.pow_pos ∅);have b:2 ^ 900*2 ^ C' z.k*z.C<2 ^ 900*2 ^ C' z.k*2 ^ C' z.C:=Nat.mul_lt_mul_of_pos_left (D6 z.C) g;rw [<-C3,<-C3] at b;exact DI (by rw [<-C3] at f;exact f) (CP b (j _ ⋯))
 obtain ⟨W,M,k,O,P⟩:=d.row sz;have R:Sr.num (p:Rat)*Sr.num (a:Rat)*D≠0:=Sr.ne_mul ((Sr.Pol.num _).mul (Sr.Pol.num _)) i.pol (Sr.ne_mul (Sr.Pol.num _) (Sr.Pol.num _) (Ex (AY g)) (Ex (AY r))) o;refine ⟨h.lw,X,W,Uh M (by rw [k];exact R),F,I,O,J,P,?_⟩;rw [G,k]
 have S:Sr.num (p:Rat)=Sr.num c*Sr.num (q:Rat):=by
  rw [Sr.num_num,w];have:=AY v;congr 1;ext
 rw [S,show sr T*(Sr.num c*Sr.num (q:Rat)*Sr.num (a:Rat)*D)=Sr.num (q:Rat)*(sr T*(Sr.num c*Sr.num (a:Rat)*D)) by ext,e];ext
def Sq.fTe {c:Rat} {z:Sz} {T B:d7} {e:Nat} (h:Sq c z T B) (a:z.n<2 ^ e) (f:T≠[]):Fp (C' z.A+z.n*(2*e+4)) (AL T):=by
 obtain ⟨N,D,Y,j,g,_,_,_,_,b,i,_,d⟩:=h.cn;exact g.fp (e:=e) (D6 z.A) a h.lw.lt b (by rw [d];exact Sr.ne_mul b (AW T) i (Bu h.lw.lt h.lw.nt f)) d
def Sq.fT {c:Rat} {z:Sz} {T B:d7} (h:Sq c z T B) (a:z.n<=31) (b:T≠[]):Fp z.xA (AL T):=h.fTe (e:=5) ⋯ b
def Sq.fBe {c:Rat} {z:Sz} {T B:d7} {e:Nat} (h:Sq c z T B) (b:z.m<2 ^ e):Fp (C' z.C+z.m*(2*e+4)) (AL B):=by
 obtain ⟨N,D,Y,a,_,d,f,g,_,i,k,j,_⟩:=h.cn;have m:=Sr.num_inv h.cb.ne;have n:=Sr.num_inv (AY g)
 exact d.fp (e:=e) (D6 z.C) b h.lw.lb (Y:=Sr.num c⁻¹*Sr.num (a:Rat)⁻¹*Y) (((Sr.Pol.num _).mul (Sr.Pol.num _)).mul i) f (by
  have:Sr.num c⁻¹*Sr.num (a:Rat)⁻¹*Y*sr B=Sr.num c⁻¹*Sr.num (a:Rat)⁻¹*(Sr.num c*Sr.num (a:Rat)*D):=by rw [j];ext
  rw [this];ext)
def Sq.fB {c:Rat} {z:Sz} {T B:d7} (h:Sq c z T B) (a:z.m<=31):Fp z.xC (AL B):=h.fBe (e:=5) ⋯
def Sq.mul {c d:Rat} {z y:Sz} {T B n o X Y:d7} (h:Sq c z T B) (h':Sq d y n o) (r:Cb (c*d)) (l:Lw X Y) (u:1<=y.m) (v:1<=y.n) (e:sr X*(sr B*sr o)=sr T*sr n*sr Y):Sq (c*d) (z.mu y) X Y:=by
 obtain ⟨N,D,b,p,i,w,x,A,C⟩:=h.ex;obtain ⟨F,G,f,g,a,j,k,m,I⟩:=h'.ex;have pc:∀ (c:Rat) (b:Int),Sr.Pol (Sr.num c*Sr.num (b:Rat)):=λc b=>(Sr.Pol.num _).mul (Sr.Pol.num _);have q:=rG l h.lw h'.lw p.pol ((pc c b).mul i.pol) g.pol ((pc d f).mul a.pol) C I e;refine ⟨l,r,N*F,D*G,b*f,p.mul v g,i.mul u a,Sr.ne_mul i.pol a.pol w j,BV x k,?_,?_⟩
 ·rw [BX];exact B4 A m
 ·rw [<-Sr.num_num,nI,<-q];ext
def Jg {c:Rat} {z:Sz} {X Y:d7} {N D:Sr} (a:Cb c) (l:Lw X Y) (b:Iz z.A z.n N) (d:Iz z.C z.m D) (f:D≠0) (g:1<=z.k) (e:sr X*(Sr.num c*D)=N*sr Y):Sq c z X Y:=
 ⟨l,a,N,D,1,b,d,f,∅,g,by rw [show Sr.num ((1:Int):Rat)=1 from Sr.n1,<-e];ext⟩
def Qc.qz {c:Rat} {A n:Nat} {f:Sr} (h:Qc c A n f):Qz A n f:=⟨c,h⟩
def Qc.mul {c d:Rat} {A B n m:Nat} {f g:Sr} (a:1<=m) (h:Qc c A n f) (h':Qc d B m g):Qc (c*d) (A*B) (n+m - 1) (f*g):=by
 refine ⟨λz=>(Cg.mp z).elim h.1 h'.1,?_⟩;have:=h.2.mul a h'.2;rw [show Sr.num c*f*(Sr.num d*g)=Sr.num c*Sr.num d*(f*g) by ext,Sr.num_num] at this;exact this
def Qc.st {c:Rat} {A k n i:Nat} {f:Sr} (a:1<=n) (b:i<n) (h:Qc c A k f):Qc c A ((k+(n - 1) - i) / n) (Sr.st n i f):=⟨h.1,by rw [<-Sr.st_num];exact h.2.st a b⟩
def Qc.mono {c:Rat} {A B n m:Nat} {f:Sr} (h:Qc c A n f) (a:A<=B) (b:n<=m):Qc c B m f:=⟨h.1,h.2.mono a b⟩
def Qc.cm1 {c:Rat} {A n d:Nat} {f u:Sr} (b:Sr.Pol f) (e:Iz 1 (d+1) u) (h:Qc c A n f) (n1:1<=n):Qc c A (d*(n - 1)+1) (Sr.cm u f):=by
 refine ⟨h.1,?_⟩;have k:=Iz.cm (S:=1) e ∅ ∅ h.2 n1;have g:Sr.num (((1:Int) ^ (n - 1):Int):Rat)=1:=by rw [Int.one_pow];exact Sr.n1
 have i:Sr.num ((1:Int):Rat)⁻¹*u=u:=by
  have:=Sr.num_inv (show ((1:Int):Rat)≠0 by decide);rw [show Sr.num ((1:Int):Rat)=1 from Sr.n1] at this;rw [show Sr.num ((1:Int):Rat)⁻¹=1 by grind];ext
 rw [g,i,Sr.cm_mul u (Sr.Pol.num c) b,Sr.cm_num,Nat.one_pow,Nat.mul_one,show ∀ a:Sr,1*a=a from λa=>by grind] at k;exact k
def Qz.whole {A n:Nat} {l:d7} (h:Qz A n (sr l)) (one:AZ l (l.length - 1)=(1,1)):∃ c:Int,c≠0/\c.natAbs<=A/\Qc (c:Rat) A n (sr l):=by
 obtain ⟨c,a,X,e,b,f⟩:=h
 have d:((co X (l.length - 1):Int):Rat)=c:=by
  have:=kJ (congrArg Sr.c e) (l.length - 1);rw [Sr.num_mul] at this;have h:((co X (l.length - 1):Int):Rat)=c*B_ l (l.length - 1):=this;rw [h,D5 one];ext
 refine ⟨co X (l.length - 1),λz=>a (by rw [<-d,z];rfl),A7 (IG X _) b,?_⟩;rw [d];exact ⟨a,X,e,b,f⟩
def Sq.rowT {z:Sz} {T B:d7} {e:Nat} (h:Sq 1 z T B) (u:z.n<2 ^ e) (I:T≠[]) (J:T.length<=z.n):∃ p q:Int,p≠0/\q≠0/\p.natAbs<=z.k*z.C/\q.natAbs<=z.A/\Qc ((p:Rat) / (q:Rat)) (z.n*2 ^ (C' z.A+z.n*(2*e+4))) z.n (sr T):=by
 have F:=h.fTe u I;obtain ⟨N,D,Y,d,iN,iD,D0,k0,kk,v,Y0,eD,L⟩:=h.cn;obtain ⟨g,P,M,eg,O,n,R⟩:=NW _ (AL T) (IE h.lw.lt h.lw.nt I) (AT _);have S:si (AL T)=Sr.num (g:Rat)*si P:=by rw [<-FP,<-eg]
 have U:=AY (AV (Br h.lw.lt).1);have iB:=Sr.num_inv U;have ig:=Sr.num_inv (AY M);have bP:=F P n O (Gy (Sr.Pol.num (g:Rat)) S);have w:sr T=Sr.num ((Aa T:Rat)⁻¹*(g:Rat))*si P:=by rw [<-Sr.num_num,EZ h.lw.lt,S];ext
 obtain ⟨X,eX,aX,lX⟩:=iN;obtain ⟨W,eW,aW,lW⟩:=iD;obtain ⟨Z,hZ⟩:=T_ O (Gy (v.mul (Sr.Pol.num ((Aa T:Rat)⁻¹*(g:Rat)))) (show si X=Y*Sr.num ((Aa T:Rat)⁻¹*(g:Rat))*si P by rw [eX,L,w];ext));have eZ:si X=si Z*si P:=UY hZ;have P0:=JZ n
 have i:si Z=Y*Sr.num ((Aa T:Rat)⁻¹*(g:Rat)):=by
  refine Sr.cancel (DO Z) (v.mul (Sr.Pol.num _)) (DO P) P0 ?_;rw [<-eZ,eX,L,w];ext
 obtain ⟨ny,x⟩:=v.bn;obtain ⟨m,_,ym,bY⟩:=(Sr.top_ex ny x).resolve_left Y0;have b0:=BI.mpr h.lw.ne;have bB:Sr.Bn (sr B) (B.length - 1+1):=λk hk=>BN ⋯;have a:=(Sr.top_mul bY bB).1;rw [<-eD,show (sr B).c (B.length - 1)=1 from D5 h.lw.one,show Sr.num 1=(1:Sr) from Sr.n1,show (1:Sr)*Sr.num (d:Rat)*D=Sr.num (d:Rat)*D by ext,Sr.num_mul,<-eW] at a;have a:(d:Rat)*((co W (m+(B.length - 1)):Int):Rat)=Y.c m*1:=a;have p1:=n.1;have A:Sr.Bn (si P) (P.length - 1+1):=λk hk=>by show ((co P k:Int):Rat)=0;rw [Ah ⋯];rfl
 have o:((co Z m:Int):Rat)=Y.c m*((Aa T:Rat)⁻¹*(g:Rat)):=by
  have:=kJ (congrArg Sr.c i) m;rw [show Y*Sr.num ((Aa T:Rat)⁻¹*(g:Rat))=Sr.num ((Aa T:Rat)⁻¹*(g:Rat))*Y by ext,Sr.num_mul] at this;have h:((co Z m:Int):Rat)=_:=this;rw [h];ext
 have bZ:Sr.Bn (si Z) (m+1):=λk hk=>by
  rw [i,show Y*Sr.num ((Aa T:Rat)⁻¹*(g:Rat))=Sr.num ((Aa T:Rat)⁻¹*(g:Rat))*Y by ext,Sr.num_mul,bY k hk];ext
 have b:=(Sr.top_mul bZ A).1;rw [<-eZ] at b;have b:((co X (m+(P.length - 1)):Int):Rat)=((co Z m:Int):Rat)*((co P (P.length - 1):Int):Rat):=b;have j:co X (m+(P.length - 1))=co Z m*co P (P.length - 1):=by exact_mod_cast b
 have gi:(g:Rat)≠0:=AY M
 have q0:co Z m≠0:=λz=>by
  rw [z] at o;have z2:(0:Rat)=Y.c m*((Aa T:Rat)⁻¹*(g:Rat)):=o;rcases Cg.mp z2.symm with c | c
  ·exact ym c
  ·rcases Cg.mp c with f | f
   ·ext
   ·exact gi f
 have p0:d*co W (m+(B.length - 1))≠0:=λz=>ym (by
  have:((d*co W (m+(B.length - 1)):Int):Rat)=Y.c m*1:=by rw [CG];exact a
  rw [z] at this;have:(0:Rat)=Y.c m*1:=this;ext)
 have et:((d*co W (m+(B.length - 1)):Int):Rat) / ((co Z m:Int):Rat)=(Aa T:Rat)*(g:Rat)⁻¹:=by
  have c:((d*co W (m+(B.length - 1)):Int):Rat)=Y.c m:=by rw [CG,a];ext
  have f:=AY q0;rw [c,o];rw [o] at f;ext
 refine ⟨d*co W (m+(B.length - 1)),co Z m,p0,q0,?_,?_,?_⟩
 ·rw [BX];exact B4 kk (A7 (IG W _) aW)
 ·have c:=A7 (IG X (m+(P.length - 1))) aX;rw [j,BX] at c;have f:1<=(co P (P.length - 1)).natAbs:=Int.natAbs_pos.mpr n.2;exact A7 (Nat.le_mul_of_pos_right _ f) c
 ·rw [et];refine ⟨λz=>(Cg.mp z).elim U (λh=>by ext),P,?_,?_,by rw [R,Be];exact J⟩
  ·rw [w,<-Sr.num_num,<-Sr.num_num];have:=Sr.num_inv gi;have i3:Sr.num (Aa T:Rat)⁻¹*Sr.num (Aa T:Rat)=1:=iB;rw [show Sr.num (Aa T:Rat)*Sr.num (g:Rat)⁻¹*(Sr.num (Aa T:Rat)⁻¹*Sr.num (g:Rat)*si P)=(Sr.num (Aa T:Rat)⁻¹*Sr.num (Aa T:Rat))*((Sr.num (g:Rat)⁻¹*Sr.num (g:Rat))*si P) by ext,i3,this];ext
  ·have C:∀ Z:dq,(∀ y∈Z,y.natAbs<=2 ^ (C' z.A+z.n*(2*e+4)))->L1 Z<=Z.length*2 ^ (C' z.A+z.n*(2*e+4)):=λr=>by
    induction r with
    | nil=>intro _;exact Ae _
    | cons y r ih=>
      intro h;have:=ih λy G=>h y (CD _ G);have c:=h y CC;show y.natAbs+L1 r<=(r.length+1)*2 ^ (C' z.A+z.n*(2*e+4));rw [Cl];omega
   refine A7 (C P λy G=>CU (Gv bP y G)) (Bk _ ?_);rw [R,Be];exact J
def II {a:Nu} (l:Low a.1 a.2) (h:a.1≠0):val a≠0:=λz=>by
 have b:=AY h;have c:=AY (AV l.pos);unfold val at z;ext
def FR {u:Sr} (pu:Sr.Pol u) (a b:Nu):Sr.Pol (xq u a b):=(Sr.Pol.num _).mul (pu.sub (Sr.Pol.num _))
def Ur {v u:Sr} (pu:Sr.Pol u) (a b:Nu):Sr.cm v (xq u a b)=xq (Sr.cm v u) a b:=by
 unfold xq;rw [Sr.cm_mul v (Sr.Pol.num _) (pu.sub (Sr.Pol.num _)),Sr.cm_sub v pu (Sr.Pol.num _),Sr.cm_num,Sr.cm_num]
def Us {f:Sr} (n:Nat) (a b:Nu) (c:Sr.Pol f):Sr.cm (Sr.X n) (Sr.cm (xq (Sr.X 1) a b) f)=Sr.cm (xq (Sr.X n) a b) f:=by
 rw [Sr.cm_cm (FR (Sr.pXn 1) a b) c,Ur (Sr.pXn 1),Sr.cm_X]
noncomputable def bk (a b:Nu):Sr:=Sr.num (val a)*Sr.X 1+Sr.num (val b)
def Ut (a b:Nu):Sr.Pol (bk a b):=((Sr.Pol.num _).mul (Sr.pXn 1)).add (Sr.Pol.num _)
def rJ {a b:Nu} (h:val a≠0):Sr.cm (bk a b) (xq (Sr.X 1) a b)=Sr.X 1:=by
 have i:=Sr.num_inv h;rw [Ur (Sr.pXn 1),Sr.cm_X];unfold xq bk;ext
def Jh {a b:Nu} (h:val a≠0) {f:Sr} (c:Sr.Pol f):Sr.cm (bk a b) (Sr.cm (xq (Sr.X 1) a b) f)=f:=by
 rw [Sr.cm_cm (FR (Sr.pXn 1) a b) c,rJ h,Sr.cm_id c]
def Np {a b:Nu} (h:val a≠0) {n:Nat} (n0:0<n) {f:Sr} (c:Sr.Pol f) (d:f≠0):Sr.cm (xq (Sr.X n) a b) f≠0:=by
 rw [<-Us n a b c];refine Sr.cX_ne n0 (Sr.cm_pol (FR (Sr.pXn 1) a b) c) λz=>d ?_;have:=Jh (b:=b) h c;rw [z,Sr.cm_zero] at this;exact this.symm
def Nr {a b:Nu} (h:val a≠0) (n:Nat):Sr.cm (xq (Sr.X n) a b) (bk a b)=Sr.X n:=by
 have i:=Sr.num_inv h;unfold bk;rw [Sr.cm_add _ ((Sr.Pol.num _).mul (Sr.pXn 1)) (Sr.Pol.num _),Sr.cm_mul _ (Sr.Pol.num _) (Sr.pXn 1),Sr.cm_num,Sr.cm_num,Sr.cm_X];unfold xq;ext
def rK {a b:Nu} (c:Low a.1 a.2) (d:Low b.1 b.2):bk a b=Sr.num ((a.2*b.2:Int):Rat)⁻¹*(Sr.num ((a.1*b.2:Int):Rat)*Sr.X 1+Sr.num ((b.1*a.2:Int):Rat)):=by
 have e:=AY (AV c.pos);have f:=AY (AV d.pos);have j:=Sr.num_inv e;have k:=Sr.num_inv f;have g:val a=(a.1:Rat)*(a.2:Rat)⁻¹:=by unfold val;ext
 have h:val b=(b.1:Rat)*(b.2:Rat)⁻¹:=by unfold val;ext
 have i:((a.2*b.2:Int):Rat)⁻¹=(a.2:Rat)⁻¹*(b.2:Rat)⁻¹:=by rw [CG];ext
 unfold bk;rw [g,h,i,nI,nI,<-Sr.num_num,<-Sr.num_num,<-Sr.num_num];ext
def Uu {a b:Nu} (c:Bd 40 a.1/\Bd 20 a.2) (d:Bd 40 b.1/\Bd 20 b.2):Iz (2 ^ 61) 2 (Sr.num ((a.1*b.2:Int):Rat)*Sr.X 1+Sr.num ((b.1*a.2:Int):Rat)):=by
 refine (((IH 1).smul (a.1*b.2)).add (Nj (b.1*a.2) (AT _) (AT 1))).mono ?_ ∅;rw [BX,BX];have e:a.1.natAbs<2 ^ 40:=c.1;have f:a.2.natAbs<2 ^ 20:=c.2;have g:b.1.natAbs<2 ^ 40:=d.1;have h:b.2.natAbs<2 ^ 20:=d.2;have i:=B4 (CU e) (CU h);have j:=B4 (CU g) (CU f);omega
def FFK.of {K:W.Frag} {H:Hp} {p:Addr} {T B:d7} (h:FF H p T B):FFK K H p T B:=by
 obtain ⟨u,v,hp,⟨a,b,c⟩,⟨d,e,f⟩⟩:=h;exact ⟨u,v,a,d,SqT.of hp,SqT.of b,NuK.of c,SqT.of e,NuK.of f⟩
def LE {x n m:Nat} (h:bU x n m=true):C0 x n m 5:=by
 unfold bU at h;simp only [Eg,decide_eq_true_eq] at h;obtain ⟨⟨⟨⟨a,b⟩,d⟩,e⟩,c⟩:=h;exact ⟨a,b,⋯,⋯,⋯,⋯,∅,c⟩
def FS {z:Sz} (h:z.sm=true):z.b<=5000/\1<=z.n/\1<=z.m/\z.n<=31/\z.m<=31:=by
 unfold Sz.sm at h;simp only [Eg,decide_eq_true_eq] at h;omega
def Sq.all {c:Rat} {z:Sz} {T B:d7} (h:Sq c z T B) (s:z.sm=true):Gq 10960 10960 T/\Gq 10960 10960 B/\T.length<=z.n/\B.length<=z.m:=by
 obtain ⟨a,b,d,f,g⟩:=FS s;have A:=h.rp.all (e:=5) ⋯ ⋯ ⋯ ⋯ ∅;exact ⟨A.gt.mono ⋯ ⋯,A.gb.mono ⋯ ⋯,A.tn,A.bm⟩
def Sq.num_sum {c:Rat} {z y:Sz} {T B p q:d7} (h:Sq c z T B) (h':Sq c y p q) (r:1<=z.m) (u:1<=y.m):∃ N W:Sr,Iz (z.ad y).A (z.ad y).n N/\Sr.Pol W/\W≠0/\N=W*(sr T*sr q+sr p*sr B):=by
 obtain ⟨N,D,Y,d,v,w,O,P,x,e,A,C,F⟩:=h.cn;obtain ⟨f,g,G,a,i,j,I,J,k,b,m,n,o⟩:=h'.cn;have L:=((v.mul u j).smul a).add ((i.mul r w).smul d);have R:=Sr.num_inv h.cb.ne;refine ⟨Sr.num (a:Rat)*(N*g)+Sr.num (d:Rat)*(f*D),Sr.num c⁻¹*(Y*G),L.mono ?_ ?_,(Sr.Pol.num _).mul (e.mul b),Sr.ne_mul (Sr.Pol.num _) (e.mul b) (Ex (λz=>by have:=h.cb.ne;ext)) (Sr.ne_mul e b A m),?_⟩
 ·show _<=y.k*(z.A*y.C)+z.k*(y.A*z.C);exact Nat.add_le_add (Bk _ k) (Bk _ x)
 ·exact Nat.max_le.mpr ⟨Nat.sub_le_sub_right (Nat.le_max_left ..) 1,Nat.sub_le_sub_right (Nat.le_max_right ..) 1⟩
 ·have M:Sr.num (a:Rat)*(N*g)+Sr.num (d:Rat)*(f*D)=Sr.num c⁻¹*(N*(Sr.num c*Sr.num (a:Rat)*g)+f*(Sr.num c*Sr.num (d:Rat)*D)):=by ext
  rw [M,C,n,F,o];ext
def rL {K:W.Frag} {H:Hp} {Q:VK} {E:XK} {p q:Addr} {c:Rat} {z y:Sz} {T B f a:d7} (F:FFK K H p T B) (o:FF H q f a) (h:Sq c z T B) (h':Sq c y f a) (ok:cP z y=true)
  (k:∀ t b X Y,Same H b->FF b t X Y->Lw X Y->sr X*(sr B*sr a)=(sr T*sr a+sr f*sr B)*sr Y->Q (.ref t) b):Kg K [.ref p,.ref q] H Q E:=by
 unfold cP at ok;simp only [Eg,decide_eq_true_eq] at ok;obtain ⟨⟨⟨⟨i,j⟩,r⟩,u⟩,v⟩:=ok;obtain ⟨x,A,l1,C⟩:=h.all i;obtain ⟨D,I,l3,J⟩:=h'.all j;obtain ⟨_,s2,L,s4,M⟩:=FS i;obtain ⟨_,t2,O,t4,P⟩:=FS j;have w:(z.ad y).n=max (z.n+y.m) (y.n+z.m) - 1:=rfl;have m:=LE v;refine ⟨p,q,T,B,f,a,max z.xC y.xC,(z.ad y).xA,(z.ad y).n,z.m,y.m,min z.m y.m,5,rfl,F,o,h.lw,h'.lw,x,A,D,I,C,J,⋯,⋯,(h.fB M).mono (Nat.le_max_left ..),(h'.fB P).mono (Nat.le_max_right ..),LE r,u,⋯,λn G lo R S g U e=>?_,⋯,m,λt b X Y s F l e=>k t b X Y s F l e⟩;obtain ⟨N,W,Z,pW,W0,eN⟩:=h.num_sum h' L O;have d:N=W*G*sr n:=by rw [eN,<-e];ext
 exact Z.fp (e:=5) (D6 _) m.ne lo (pW.mul g) (by rw [d];exact Sr.ne_mul (pW.mul g) (AW n) (Sr.ne_mul pW g W0 U) (Bu lo R S)) d
def rM {K:W.Frag} {H:Hp} {Q:VK} {E:XK} {p q:Addr} {c d:Rat} {z y:Sz} {T B b f:d7} (F:FF H p T B) (m:FF H q b f) (h:Sq c z T B) (h':Sq d y b f) (n:Cb (c*d)) (ok:cQ z y=true)
  (k:∀ t a X Y,Same H a->FF a t X Y->Sq (c*d) (z.mu y) X Y->sr X*(sr B*sr f)=sr T*sr b*sr Y->Q (.ref t) a):Kh K [.ref p,.ref q] H Q E:=by
 unfold cQ at ok;simp only [Eg] at ok;obtain ⟨⟨⟨i,j⟩,o⟩,r⟩:=ok;obtain ⟨u,v,w,x⟩:=h.all i;obtain ⟨A,C,D,G⟩:=h'.all j;obtain ⟨_,P,R,I,J⟩:=FS i;obtain ⟨_,L,M,N,O⟩:=FS j;exact ⟨p,q,T,B,b,f,max z.xA y.xC,z.n,z.m,max y.xA z.xC,y.n,y.m,5,rfl,F,m,h.lw,h'.lw,u.mono ∅ ∅,v.mono ∅ ∅,A.mono ∅ ∅,C.mono ∅ ∅,w,G,D,x,λg=>(h.fT I g).mono (Nat.le_max_left ..),(h'.fB O).mono (Nat.le_max_right ..),λg=>(h'.fT N g).mono (Nat.le_max_left ..),(h.fB J).mono (Nat.le_max_right ..),LE o,LE r,λt a X Y s F l e=>k t a X Y s F (h.mul h' n l M L e) e⟩
theorem Uv {f:dM} {n:Nat} {x s:Rat}:∀ d,d<=n->evF (λi=>f i*s ^ i) n x d=s ^ (n - d)*evF f n (s*x) d
 | 0,_=>by show (0:Rat)=s ^ n*0;ext
 | d+1,a=>by
   show f (n - 1 - d)*s ^ (n - 1 - d)+x*evF (λi=>f i*s ^ i) n x d=s ^ (n - (d+1))*(f (n - 1 - d)+s*x*evF f n (s*x) d);rw [Uv d ⋯,show n - d=(n - (d+1))+1 by omega,show n - 1 - d=n - (d+1) by omega,Dg];ext
theorem Uw {f:dM} {n:Nat} {z s:Rat}:∀ d,d<=n->evF (λi=>f i*s ^ (n - 1 - i)) n (s*z) d*s=s ^ d*evF f n z d
 | 0,_=>by show (0:Rat)*s=s ^ 0*0;ext
 | d+1,a=>by
   show (f (n - 1 - d)*s ^ (n - 1 - (n - 1 - d))+s*z*evF (λi=>f i*s ^ (n - 1 - i)) n (s*z) d)*s=s ^ (d+1)*(f (n - 1 - d)+z*evF f n z d);have h:=Uw (f:=f) (n:=n) (z:=z) (s:=s) d ⋯;rw [show n - 1 - (n - 1 - d)=d by omega,Dg];generalize evF (λi=>f i*s ^ (n - 1 - i)) n (s*z) d=A at *;generalize evF f n z d=C at *;generalize s ^ d=S at *;ext
noncomputable def a5 (R:dL) (k:Nat):Rat:=(R k:Rat)
theorem Ux {c:Int} {R:dL} {n first:Nat} {y:Rat}:∀ d,d+1+first<=n->evF (a5 R) n y (d+1)=(sy c R n d:Rat)+(y - c)*evF (a5 (rnd c R n first)) n y d
 | 0,_=>by show (R (n - 1 - 0):Rat)+y*0=(R (n - 1):Rat)+(y - c)*0;rw [DJ];ext
 | d+1,h=>by
   show (R (n - 1 - (d+1)):Rat)+y*evF (a5 R) n y (d+1)=((R (n - 1 - (d+1))+c*sy c R n d:Int):Rat)+(y - c)*((rnd c R n first (n - 1 - d):Rat)+y*evF (a5 (rnd c R n first)) n y d);rw [Ux (c:=c) (first:=first) d ⋯]
   have e:rnd c R n first (n - 1 - d)=sy c R n d:=by
    unfold rnd;rw [lZ ⋯,show n - 1 - (n - 1 - d)=d by omega]
   rw [e];push_cast;ext
noncomputable def mx (R:dL) (n:Nat) (y c:Rat):Nat->dM
 | 0,lo=>evF (a5 R) n y (n - lo)
 | t+1,lo=>(R lo:Rat)+(y - c)*mx R n y c t (lo+1)
theorem Uy {c:Int} {R:dL} {n first:Nat} {y:Rat} (a:first+1<=n):∀ t lo,lo+t=first->mx R n y c t lo=mx (rnd c R n first) n y c (t+1) lo
 | 0,lo,h=>by
   show evF (a5 R) n y (n - lo)=(rnd c R n first lo:Rat)+(y - c)*evF (a5 (rnd c R n first)) n y (n - (lo+1));have e:rnd c R n first lo=sy c R n (n - 1 - lo):=by unfold rnd;rw [lZ ⋯]
   rw [e,show n - lo=(n - 1 - lo)+1 by omega,show n - (lo+1)=n - 1 - lo by omega];exact Ux _ ⋯
 | t+1,lo,h=>by
   show (R lo:Rat)+(y - c)*mx R n y c t (lo+1)=(rnd c R n first lo:Rat)+(y - c)*mx (rnd c R n first) n y c (t+1) (lo+1);have e:rnd c R n first lo=R lo:=by unfold rnd;rw [kA ⋯]
   rw [e,Uy a t (lo+1) ⋯]
theorem Uz {R:dL} {n:Nat} {y c:Rat}:∀ t lo,lo+t+1=n->mx R n y c t lo=evF (a5 R) n (y - c) (n - lo)
 | 0,lo,h=>by
   show evF (a5 R) n y (n - lo)=_;rw [show n - lo=0+1 by omega];show a5 R (n - 1 - 0)+y*0=a5 R (n - 1 - 0)+(y - c)*0;ext
 | t+1,lo,h=>by
   show (R lo:Rat)+(y - c)*mx R n y c t (lo+1)=_;rw [Uz t (lo+1) ⋯,show n - lo=(n - (lo+1))+1 by omega];show _=a5 R (n - 1 - (n - (lo+1)))+_;rw [show n - 1 - (n - (lo+1))=lo by omega];rfl
theorem U0 {c:Int} {R:dL} {n:Nat} {y:Rat}:∀ i,i+1<=n->mx (S_ c R n i) n y c i 0=evF (a5 R) n y n
 | 0,_=>rfl
 | i+1,h=>by
   rw [<-U0 i ⋯];exact (Uy ⋯ i 0 ⋯).symm
def rN {c:Int} {R:dL} {n:Nat} {y:Rat} (a:1<=n):evF (a5 (S_ c R n (n - 1))) n y n=evF (a5 R) n (y+c) n:=by
 have h:=U0 (c:=c) (R:=R) (n:=n) (y:=y+c) (n - 1) ⋯;rw [Uz (n - 1) 0 ⋯] at h;rw [<-h,DJ];congr 1;ext
def U1 {a:Type} {n k:Nat} (f:Nat->a) (h:k<n):((List.range n).map f)[k]?=some (f k):=by
 rw [Aq,DU h];rfl
def U2 (f:dM) (n:Nat) (x:Rat) (d:Nat):evF f n x (d+1)=f (n - 1 - d)+x*evF f n x d:=rfl
def Nt (m:Nat) (f:dL):Ag (m+1) f=Ag m f++[V.int (f m)]:=by
 unfold Ag;rw [List.range_succ,EF,EF];rfl
theorem Nv {b:Nat} {c:Int} {R:dL} {n:Nat} (a:Bd 40 c) (h:∀ j,Bd b (R j)):∀ d,Bd (b+41*d) (sy c R n d)
 | 0=>h _
 | d+1=>by
   have e:=(a.mul (Nv (n:=n) a h d)).mono (show 40+(b+41*d)<=b+41*d+40 by omega);exact (((h (n - 1 - (d+1))).mono (show b<=b+41*d+40 by omega)).add e).mono ⋯
def rO {c:Int} {R:dL} {n p:Nat} (h:p+1<n):sy c R n (n - 1 - p)=R p+c*sy c R n (n - 1 - (p+1)):=by
 rw [show n - 1 - p=(n - 1 - (p+1))+1 by omega];show R (n - 1 - (n - 1 - (p+1)+1))+_=_;rw [show n - 1 - (n - 1 - (p+1)+1)=p by omega]
theorem LF {b m:Nat} {c:Int} {R:dL} {n:Nat} (a:Bd 40 c) (h:∀ j,Bd b (R j)) (d:n<=m):∀ i j,Bd (b+41*m*i) (S_ c R n i j)
 | 0,j=>h j
 | i+1,j=>by
   show Bd _ (rnd c (S_ c R n i) n i j);have e:41*m*(i+1)=41*m*i+41*m:=by rw [Nat.mul_add,Nat.mul_one]
   unfold rnd;split
   ·exact (LF a h d i j).mono ⋯
   ·exact (Nv a (LF a h d i) _).mono ⋯
def U3 (ns:dq):ns.map V.int=Ag ns.length λk=>ns.getD k 0:=by
 refine FZ λk=>?_;rcases Av k ns.length with h | h
 ·rw [CO _ h,Aq,AU,Az h];rfl
 ·rw [Bf (by rw [AR];exact h),Bf (by rw [CK];exact h)]
def U4 {n k:Nat} {f:dL} {v:V} (h:(Ag n f)[k]?=some v):k<n/\v=.int (f k):=by
 have hk:k<n:=by have:=(Bw.mp h).1;rw [CK] at this;exact this
 rw [CO f hk] at h;exact ⟨hk,(kH h).symm⟩
def rP {l:d7} {a b:Int} {mv R:dL} (e:AX l) (g:0<b) (q:∀ k,k<l.length->R k=(AL l).getD k 0*b ^ (l.length - 1 - k)) (c:mv=S_ a R l.length (l.length - 1)) (x:Rat) :
  evF (λk=>((mv k*b ^ k:Int):Rat) / ((Aa l*b ^ (l.length - 1):Int):Rat)) l.length x l.length=evF (B_ l) l.length (x+val (a,b)) l.length:=by
 rcases Ce l.length with h | h
 ·rw [h];rfl
 have o:=Br e;have J:=AY (AV o.1);have L:=AY (AV g)
 have r:evF (B_ l) l.length (x+val (a,b)) l.length=evF (λj=>((AL l).getD j 0:Rat)) l.length (x+val (a,b)) l.length / (Aa l:Rat):=by
  rw [<-KO];exact Hf _ (AT _) λi _ _=>DY e o i
 have u:evF (λk=>((mv k*b ^ k:Int):Rat)) l.length x l.length=evF (a5 mv) l.length (b*x) l.length:=by
  have z:=Uv (f:=a5 mv) (n:=l.length) (x:=x) (s:=(b:Rat)) l.length (AT _);rw [Nat.sub_self] at z;have v:evF (λk=>((mv k*b ^ k:Int):Rat)) l.length x l.length=evF (λi=>a5 mv i*(b:Rat) ^ i) l.length x l.length:=Hf _ (AT _) λi _ _=>by unfold a5;push_cast;rfl
  rw [v,z];ext
 have w:evF (a5 mv) l.length (b*x) l.length=evF (a5 R) l.length (b*x+a) l.length:=by
  rw [c];exact rN h
 have p:=Uw (f:=λj=>((AL l).getD j 0:Rat)) (n:=l.length) (z:=x+val (a,b)) (s:=(b:Rat)) l.length (AT _)
 have y:(b:Rat)*(x+val (a,b))=b*x+a:=by
  show (b:Rat)*(x+(a:Rat) / (b:Rat))=_;ext
 rw [y] at p;have B:evF (a5 R) l.length (b*x+a) l.length=evF (λi=>((AL l).getD i 0:Rat)*(b:Rat) ^ (l.length - 1 - i)) l.length (b*x+a) l.length:=Hf _ (AT _) λi _ D=>by unfold a5;rw [q i D];push_cast;rfl
 rw [KO,u,w,B,r];obtain ⟨m,F⟩:∃ m,l.length=m+1:=⟨l.length - 1,⋯⟩
 have G:(b:Rat) ^ l.length=(b:Rat) ^ (l.length - 1)*b:=by
  rw [F];exact Dg ..
 rw [G] at p;have I:((b ^ (l.length - 1):Int):Rat)≠0:=AY (AV (Dt g));have d:((b ^ (l.length - 1):Int):Rat)=(b:Rat) ^ (l.length - 1):=by push_cast;rfl
 rw [d] at I;push_cast;generalize evF (λi=>((AL l).getD i 0:Rat)*(b:Rat) ^ (l.length - 1 - i)) l.length (b*x+a) l.length=A at *;generalize evF (λj=>((AL l).getD j 0:Rat)) l.length (x+val (a,b)) l.length=C at *;generalize (b:Rat) ^ (l.length - 1)=S at *;ext
def rQ {x y z:Int} (a:y≠0) (b:z≠0):((x*z:Int):Rat) / ((y*z:Int):Rat)=(x:Rat) / (y:Rat):=by
 have c:=AY a;have d:=AY b;push_cast;ext
def rR (h:Kj K vs H Q E):Q6 K { nx:=λ_ f=>Q .non f,rt:=Q } (L2.start ["row","whole","result","first","place"] vs) H:=by
 obtain ⟨p,a,c,b,n,rfl,hp,T,I,J,U,u,k⟩:=h;unfold Q6;rwa [hp];intro w B;rw [U3];have C:=AQ B (.lst (Ag a.length λk=>a.getD k 0));have v:=C _ _ hp;rwa [v];rw [AR];have L:∀ i j,Bd (b+41*20*i) (S_ c (λk=>a.getD k 0) a.length i j):=LF u (λj=>DM J j) ⋯;refine ⟨⋯,⋯,ForR.by (λi g f=>∃ x m:dl,g=[some (.ref p),some (.int c),some (.ref w),x,m]/\Same H f/\f w=some (.lst (Ag a.length (S_ c (λk=>a.getD k 0) a.length i)))) ⟨none,none,rfl,C,upd_same⟩ ?_ ?_⟩
 ·rintro i g D W ⟨x,m,rfl,r,d⟩;have z:=r _ _ hp;rwa [z];rw [AR];refine ⟨⋯,⋯,⋯,⋯,?_⟩;have en:((a.length:Int) - 2 - (0+(i:Int) - 1)).toNat=a.length - 1 - i:=by omega
  rw [en];refine ForJ.down (λj g f=>∃ m:dl,g=[some (.ref p),some (.int c),some (.ref w),some (.int (0+(i:Int))),m]/\Same H f/\f w=some (.lst (Ag a.length λq=>if q+j+1<a.length then S_ c (λk=>a.getD k 0) a.length i q else sy c (S_ c (λk=>a.getD k 0) a.length i) a.length (a.length - 1 - q)))) ⟨_,rfl,r,?_⟩ ?_ ?_
  ·rw [d];refine congrArg (λl=>some (HO.lst l)) (Gu λq F=>?_);by_cases h:q+0+1<a.length
   ·rw [kA h]
   ·rw [lZ h,show a.length - 1 - q=0 by omega,show q=a.length - 1 by omega];rfl
  ·rintro j g M X ⟨y,rfl,A,e⟩;have N:((a.length:Int) - 2 - (j:Int))=((a.length - 2 - j:Nat):Int):=by omega
   rw [N];have G:=λq=>((Nv (n:=a.length) u (L i) (a.length - 1 - q)).mono (show _<=60000 by omega));generalize S_ c (λk=>a.getD k 0) a.length i=R at e G ⊢
   have O:N_ (Ag a.length λq=>if q+j+1<a.length then R q else sy c R a.length (a.length - 1 - q)) ((a.length - 2 - j:Nat):Int)=some (V.int (R (a.length - 2 - j))):=by
    rw [IU (CO _ ⋯),kA ⋯]
   have P:N_ (Ag a.length λq=>if q+j+1<a.length then R q else sy c R a.length (a.length - 1 - q)) (((a.length - 2 - j:Nat):Int)+1)=some (V.int (sy c R a.length (a.length - 1 - (a.length - 2 - j+1)))):=by
    rw [Dl (j:=a.length - 2 - j+1) ⋯ (CO _ ⋯),lZ ⋯]
   rwa [e,O,P];refine ⟨Ck u (G _),a.length - 2 - j,?_,λb o h=>Kp.upd b o (B5 h B) (A b o h),?_⟩
   ·rw [CK];exact Fz rfl ⋯
   ·refine Gs ⋯ ?_ λq F S=>?_
    ·rw [lZ ⋯];exact rO ⋯
    ·by_cases h:q+j+1<a.length
     ·rw [kA h,kA ⋯]
     ·rw [lZ h,lZ ⋯]
  ·rintro g M ⟨y,rfl,A,e⟩;refine ⟨_,_,rfl,A,?_⟩;rw [e];refine congrArg (λl=>some (HO.lst l)) (Gu λq F=>?_);show rnd c (S_ c (λk=>a.getD k 0) a.length i) a.length i q=_;unfold rnd;by_cases h:q<i
   ·rw [kA h,kA ⋯]
   ·rw [lZ h,lZ ⋯]
 ·rintro g D ⟨x,m,rfl,r,d⟩;rwa [];have en:((a.length:Int) - 1).toNat=a.length - 1:=by omega
  rw [en] at d;exact k w D r d
def rS (h:JG K vs H Q E):wB K { nx:=λ_ u=>Q .non u,rt:=Q } (L2.start ["P","c","row","scales","number","last","stretched","moved"] vs) H:=by
 obtain ⟨p,q,C,l,a,b,D,n,rfl,hp,g,hN,G,b2,lo,ba,bb,l9,I,k⟩:=h;have X:=G.low;have nl:=G.nz;obtain ⟨bc,bB,bt⟩:=G.clr;have OL:=Br X;have bL:Bd D (Aa l):=bB;have J:(AL l).length=l.length:=by unfold AL;rw [AR]
 have lx:=hN.length;have b0:0<b:=lo.pos;have F:∀ i,i<=n->Bd (40*n+1) (b ^ i):=λi f=>(bb.pow i).mono ⋯;have q6:D<=60000000:=by omega
 have p6:40*n+1<=60000000:=by omega
 unfold Nm at g;refine BC (Ca (AO rfl ⟨_,C,l,Aa l,rfl,SqT.of hp,NuK.of hN,X,OL,bL.mono ⋯,λq g=>(bt q g).mono ⋯,⋯,λr c H1 S hr hc=>?_⟩));show Mz K _ [some (.ref p),some (.ref q),some (.ref r),none,none,none,none,none] H1;unfold Mz SH;rwa [];refine ⟨sz ∅,λw hw=>?_⟩;have sw:=AQ hw (.lst [.int 1]);have a6:=sw _ _ (S _ _ hp);refine ⟨⟨_,SqT.of a6⟩,ForT.by (xs:=C) (λi σ u=>∃ x4:dl,σ=[some (.ref p),some (.ref q),some (.ref r),some (.ref w),x4,none,none,none]/\Same H1 u/\u w=some (.lst (Ag (i+1) λk=>b ^ k))) ⟨none,rfl,sw,?_⟩ ?_ ?_ ?_⟩
 ·rw [upd_same];show some (HO.lst [V.int 1])=some (HO.lst [V.int (b ^ 0)]);rw [DT]
 ·rintro i σ u _ ⟨_,_,A,_⟩;exact A _ _ (S _ _ hp)
 ·rintro i x σ u f ⟨x4,rfl,A,v⟩;have b3:i<C.length:=(Bw.mp f).1;have ab:=A _ _ (S _ _ g);have M:N_ (Ag (i+1) λk=>b ^ k) (-1)=some (V.int (b ^ i)):=NG (by rw [CK];omega) (by rw [CK];exact CO _ ⋯);rwa [v,M,ab];refine ⟨Ls v,Ck (F i ⋯) bb p6,DI (show _<=1000 by rw [CK];omega) (by rw [sizeLine_eq];omega),λb o h=>Kp.upd b o (B5 h hw) (A b o h),?_⟩;rw [Nt (i+1),Df]
 ·rintro σ H2 ⟨x4,rfl,A,v⟩;rw [lx] at v;have ac:=A _ _ (S _ _ hp);have Y:=A _ _ hr;have Z:=A _ _ hc;unfold SF SE;rwa [ac,Y];refine ⟨⟨_,SqL.of Z⟩,CompJ.enumL (xs:=(AL l).map V.int) (λi B u=>i<=l.length/\Same H2 u/\B=Ag i λk=>(AL l).getD k 0*b ^ (l.length - 1 - k)) ⟨Ae _,Same.refl H2,rfl⟩ ?_ ?_ ?_⟩
  ·rintro i B u ⟨h1,T,rfl⟩;exact ⟨by rw [AR,J];exact h1,sz (by rw [CK];omega),SqL.of (T _ _ Z)⟩
  ·rintro i x e B u hx ⟨h1,T,rfl⟩ he;rw [U3,J] at hx;obtain ⟨f,rfl⟩:=U4 hx;have se:=AQ he (.tup [.int (i:Int),.int ((AL l).getD i 0)]);have ad:=se _ _ (T _ _ v);have M:N_ (Ag (l.length+1) λk=>b ^ k) ((C.length:Int) - 1 - (i:Int))=some (V.int (b ^ (l.length - 1 - i))):=Dl (j:=l.length - 1 - i) ⋯ (CO _ ⋯);rwa [ad,M];refine ⟨Ck (DM bc i) (F _ ⋯) q6 p6,⋯,T.trans se,?_⟩;rw [Nt i]
  ·rintro B H3 ⟨_,T,rfl⟩ d hd;rw [AR,J] at *;have sd:=AQ hd (.lst (Ag l.length λk=>(AL l).getD k 0*b ^ (l.length - 1 - k)));have u3:=T.trans sd;have aj:=u3 _ _ (A _ _ (S _ _ g));have al:upd H3 d (.lst (Ag l.length λk=>(AL l).getD k 0*b ^ (l.length - 1 - k))) d=some (HO.lst (Ag l.length λk=>(AL l).getD k 0*b ^ (l.length - 1 - k))):=upd_same;unfold SC;rwa [aj,al];have sl:((List.range l.length).map λk=>(AL l).getD k 0*b ^ (l.length - 1 - k)).length=l.length:=by rw [AR,BL]
   have sg:∀ k,k<l.length->((List.range l.length).map λk=>(AL l).getD k 0*b ^ (l.length - 1 - k)).getD k 0=(AL l).getD k 0*b ^ (l.length - 1 - k):=λk hk=>by
    rw [show ∀ t:dq,t.getD k 0=(t[k]?).getD 0 from λt=>AU ..,U1 _ hk];rfl
   refine ⟨(List.range l.length).map λk=>(AL l).getD k 0*b ^ (l.length - 1 - k),rfl,D+(40*n+1),n,by rw [sl];exact l9,I,λz hz=>?_,⋯,ba,λm H4 s4 hm=>?_⟩
   ·obtain ⟨i,f,rfl⟩:=BR.mp hz;exact (DM bc i).mul (F (l.length - 1 - i) ⋯)
   rw [sl] at hm;generalize hR:(λk=>((List.range l.length).map λk=>(AL l).getD k 0*b ^ (l.length - 1 - k)).getD k 0)=R at hm;have a0:∀ k,k<l.length->R k=(AL l).getD k 0*b ^ (l.length - 1 - k):=λk hk=>by rw [<-hR];exact sg k hk
   have bR:∀ j,Bd (D+(40*n+1)) (R j):=λj=>by
    rw [<-hR];refine DM (λz hz=>?_) j;obtain ⟨i,f,rfl⟩:=BR.mp hz;exact (DM bc i).mul (F (l.length - 1 - i) ⋯)
   have nn:41*n*(l.length - 1)<=41*n*n:=CM _ ⋯;have b4:41*n*n<=41*20*20:=B4 (CM _ I) I;have O:=λj=>(LF ba bR l9 (l.length - 1) j).mono (show _<=D+(40*n+1)+41*n*n by omega);generalize a1:S_ a R l.length (l.length - 1)=mv at hm O
   have y:1<=l.length->mv (l.length - 1)=(AL l).getD (l.length - 1) 0:=λh=>by
    rw [<-a1,Qq _ ⋯,a0 _ ⋯,Nat.sub_self,DT,Int.mul_one]
   have u4:=u3.trans s4;have a2:=u4 _ _ v;have am:=u4 _ _ Y;unfold R8;rwa [];refine ⟨⟨_,SqL.of hm⟩,CompJ.enumL (xs:=Ag l.length mv) (λi B u=>i<=l.length/\Same H4 u/\B=Ag i λk=>mv k*b ^ k) ⟨Ae _,Same.refl H4,rfl⟩ ?_ ?_ ?_⟩
   ·rintro i B u ⟨h1,U,rfl⟩;exact ⟨by rw [CK];exact h1,sz (by rw [CK];omega),SqL.of (U _ _ hm)⟩
   ·rintro i x e B u hx ⟨h1,U,rfl⟩ he;obtain ⟨f,rfl⟩:=U4 hx;have se:=AQ he (.tup [.int (i:Int),.int (mv i)]);have P:=se _ _ (U _ _ a2);have M:N_ (Ag (l.length+1) λk=>b ^ k) (i:Int)=some (V.int (b ^ i)):=IU (CO _ ⋯);rwa [P,M];refine ⟨Ck (O i) (F _ ⋯) ⋯ p6,⋯,U.trans se,?_⟩;rw [Nt i]
   ·rintro B H5 ⟨_,U,rfl⟩ d5 an;rw [CK];have ao:=AQ an (.lst (Ag l.length λk=>mv k*b ^ k));have u5:=U.trans ao;have ar:=u5 _ _ am;have P:=u5 _ _ a2;have az:upd H5 d5 (.lst (Ag l.length λk=>mv k*b ^ k)) d5=some (HO.lst (Ag l.length λk=>mv k*b ^ k)):=upd_same
    have M:N_ (Ag (l.length+1) λk=>b ^ k) ((C.length:Int) - 1)=some (V.int (b ^ (l.length - 1))):=by
     rcases Ce l.length with h | h
     ·rw [lx,h];show some (V.int (b ^ 0))=some (V.int (b ^ 0));rfl
     ·exact Dl (j:=l.length - 1) ⋯ (CO _ ⋯)
    have W:0<Aa l*b ^ (l.length - 1):=CF OL.1 (Dt b0);have b1:Bd (D+(40*n+1)) (Aa l*b ^ (l.length - 1)):=bL.mul (F _ ⋯);rwa [ar,P,az,M];refine ⟨Ck bL (F _ ⋯) q6 p6,(List.range l.length).map λk=>mv k*b ^ k,rfl,AV W,by rw [AR,BL];omega,λt zs H6 s6 h6 n6=>?_⟩;generalize hL:((List.range l.length).map λk=>mv k*b ^ k).map (λn=>Ao n (Aa l*b ^ (l.length - 1)))=L at n6;have Ll:L.length=l.length:=by rw [<-hL,AR,AR,BL]
    have Lg:∀ i,i<l.length->L[i]?=some (Ao (mv i*b ^ i) (Aa l*b ^ (l.length - 1))):=λi f=>by rw [<-hL,Aq,U1 _ f];rfl
    have Lm:∀ q∈L,∃ i,q=Ao (mv i*b ^ i) (Aa l*b ^ (l.length - 1))/\i<l.length:=λq g=>by
     rw [<-hL] at g;obtain ⟨z,hz,rfl⟩:=BR.mp g;obtain ⟨i,f,rfl⟩:=BR.mp hz;exact ⟨i,rfl,Ec.mp f⟩
    have a3:AX L:=λq g=>by obtain ⟨i,rfl,_⟩:=Lm q g;exact DB (AV W)
    have a4:Nz L:=λq g=>by
     rw [FX,Ll] at g;rcases Ce l.length with h | h
     ·rw [Bf ⋯] at g;cases g
     ·rw [Lg _ ⋯] at g;obtain rfl:=kH g;intro z;have z2:=DC (n:=mv (l.length - 1)*b ^ (l.length - 1)) (AV W);unfold val at z2;rw [z] at z2;have n1:mv (l.length - 1)*b ^ (l.length - 1)≠0:=BV (by rw [y h];exact Kv X nl h) (AV (Dt b0));have c1:=AY n1;have c2:=AY (AV W);push_cast at z2 c1 c2;ext
    rw [MM a4] at n6
    have Lp:∀ i,i<l.length->B_ L i=((mv i*b ^ i:Int):Rat) / ((Aa l*b ^ (l.length - 1):Int):Rat):=λi f=>by
     unfold B_ AZ;rw [AU,Lg i f];exact DC (AV W)
    have b5:bM D n=D+80*n+41*n*n+3:=rfl;refine k t H6 L ((((((S.trans A).trans u3).trans s4).trans u5)).trans s6) ⟨zs,h6,n6⟩ ⟨Do a3 a4 W (b1.mono ⋯) (N:=λi=>if i<l.length then mv i*b ^ i else 0) (λi=>?_) (λi=>?_),Ll,?_,λx=>?_⟩
    ·by_cases f:i<l.length
     ·rw [kA f];exact Lp i f
     ·rw [lZ f,BN ⋯];show _=((0:Int):Rat) / _;rw [show ((0:Int):Rat)=0 from rfl];ext
    ·by_cases f:i<l.length
     ·rw [kA f];exact ((O i).mul (F i ⋯)).mono ⋯
     ·rw [lZ f];exact Cn _
    ·rcases Ce l.length with h | h
     ·rw [BN (l:=L) ⋯,BN (l:=l) ⋯]
     ·rw [Lp _ ⋯,y h];exact (rQ (AV OL.1) (AV (show 0<b ^ (l.length - 1) from Dt b0))).trans (DY X OL (l.length - 1)).symm
    ·unfold ap;rw [<-rP X b0 a0 a1.symm x,Ll];exact Hf _ (AT _) λi _ f=>Lp i f
theorem U5 (f:dM) (n:Nat) (x:Rat):∀ d,d<=n->evF f n x d=Sr.ev (((List.range n).map f).drop (n - d)) x
 | 0,_=>by rw [DJ,List.drop_eq_nil_of_le (by rw [AR,BL];exact AT _)];rfl
 | d+1,h=>by
   rw [U2,U5 f n x d ⋯]
   have e:((List.range n).map f).drop (n - (d+1))=f (n - 1 - d)::((List.range n).map f).drop (n - d):=by
    rw [List.drop_eq_getElem_cons (by rw [AR,BL];omega),show n - (d+1)+1=n - d by omega];congr 1;rw [List.getElem_map,List.getElem_range,show n - (d+1)=n - 1 - d by omega]
   rw [e];rfl
def Nw (l:d7) (x:Rat):ap l x=Sr.ev (rw' l) x:=by
 unfold ap;rw [U5 _ _ _ _ (AT _),Nat.sub_self];rfl
def Mvd.sr {s:Rat} {b n:Nat} {l L:d7} (h:Mvd s b n l L):Bs.sr L=Sr.mv s (Bs.sr l):=by
 rw [JX,JX,Sr.mv_L];exact Sr.ev_ext λx=>by rw [Sr.ev_mvR,<-Nw,<-Nw];exact h.ev x
noncomputable instance (n:Nat) (x:Int):Decidable (Bd n x):=inferInstanceAs (Decidable (x.natAbs<2 ^ n))
def rT (h:Ki K vs H Q E):xL K { nx:=λ_ g=>Q .non g,rt:=Q } (L2.start ["one","n","top","bottom"] vs) H:=by
 obtain ⟨p,t,d,n,rfl,hp,i,j,v,q⟩:=h;have k:(if (n:Int)<0 then -(n:Int) else (n:Int))=(n:Int):=lZ ⋯;have n0:(0:Int)<=(n:Int):=by omega
 have en:(n:Int).toNat=n:=DR n
 have e:∀ {x:Int} {a:Hp} {b:VK} {f:XK},Bd 40 x->b (.int (x ^ n)) a->Gk K [.int x,.int (if (n:Int)<0 then -(n:Int) else (n:Int))] a b f:=λ{x a b f} m o=>by
  rw [k];exact ⟨x,n,40,rfl,n0,m,by rw [en];omega,by rw [en];exact o⟩
 refine FJ (A9 rfl hp rfl (Gf (AO rfl ⟨_,rfl,e i ?_⟩)));refine FJ (A9 rfl hp rfl (Gf (AO rfl ⟨_,rfl,e j ?_⟩)));refine ⟨_,rfl,_,_,rfl,rfl,_,rfl,Ap (λ_=>⟨_,rfl,_,rfl,Bi,λr u=>q r u⟩) (λc=>absurd (kB n0) c)⟩
def rV (h:Kl K vs H Q E):xM K { nx:=λ_ m=>Q .non m,rt:=Q } (L2.start ["i"] vs) H:=by
 obtain ⟨i,rfl,I,k⟩:=h
 have x:∀ (a:Addr) (g:dj) (c:Hp),Same H c->c a=some (.tup g)->Nums c g (List.replicate i (0,1))->(Ak (AA (Ak (AA (tC (.int 1)) (AA (tC (.int 1)) AC))) AC)) [some (.int (i:Int))] c (λy C=>MJ K (.ref a) y C Q):=λa g c A D r=>by
  refine KH (CJ (L_ (L_ ⟨Bi,λe u=>⟨Cj,λt v=>?_⟩⟩)));have n:=AQ u (.tup [.int 1,.int 1]);have d:=AQ v (.tup [.ref e]);have b:=n.trans d;have B:=r.length;rw [Dr] at B;have one:∀ {m:Hp},Same (upd (upd c e (.tup [.int 1,.int 1])) t (.tup [.ref e])) m->Nums m [.ref e] [(1,1)]:=λs=>Nums.one ⟨e,rfl,s _ _ (d _ _ upd_same)⟩;refine ⟨a,t,g,[.ref e],rfl,rfl,SqT.of (b _ _ D),SqT.of upd_same,sz (by simp;omega),λz=>?_,(λ_ z=>nomatch z),λ_ _ p hp=>?_⟩
  ·have F:i=0:=by rw [<-B,z];rfl
   refine k t _ (A.trans b) ⟨_,upd_same,?_⟩;subst F;exact one (Same.refl _)
  ·have f:=AQ hp (.tup (g++[V.ref e]));exact k p _ ((A.trans b).trans f) ⟨_,upd_same,(r.tp (M_ (b.trans f))).append (one f)⟩
 refine Bt (A6 (A6 (KH (CJ (L_ (L_ ⟨Bi,λe u=>⟨Cj,λt v=>AO rfl ?_⟩⟩))))));have n:=AQ u (.tup [.int 0,.int 1]);have d:=AQ v (.tup [.ref e]);have j:=d _ _ (upd_same (H:=H) (a:=e) (o:=HO.tup [V.int 0,V.int 1]));refine ⟨t,(i:Int),[.ref e],rfl,rfl,SqT.of upd_same,by simp,⋯,⋯,sz (by simp;omega),λz=>?_,λ_ p hp=>?_⟩
 ·have G:i=1:=by omega
  subst G;exact x t _ _ (n.trans d) upd_same (Nums.one ⟨e,rfl,j⟩)
 ·have f:=AQ hp (.tup (List.replicate (i:Int).toNat [V.ref e]).flatten)
  have w:∀ {q:Hp},q e=some (.tup [.int 0,.int 1])->Nums q (List.replicate (i:Int).toNat [V.ref e]).flatten (List.replicate i (0,1)):=λ{q} h=>by
   rw [HZ,DR];exact Nums.rep (show isN q (.ref e) (0,1) from ⟨e,rfl,h⟩) _
  exact x p _ _ ((n.trans d).trans f) upd_same (w (f _ _ j))
def LG (i:Nat):sr (xt i)=Sr.X i:=Sr.ext' λk=>by
 show B_ (xt i) k=_;rw [show Sr.X i=Sr.X i*1 by ext,Sr.X_mul];unfold B_ AZ xt;rw [AU];rcases Nat.lt_trichotomy k i with c | c | c
 ·rw [lZ ⋯,FU (by rw [Dr];exact c),EC,kA c];exact O' _
 ·rw [kA ⋯,c,EB (by rw [Dr];omega),Dr,Nat.sub_self,Gx];show val (1,1)=1;unfold val;show ((1:Int):Rat) / ((1:Int):Rat)=1;rw [show ((1:Int):Rat)=1 from rfl];ext
 ·rw [kA ⋯,EB (by rw [Dr];omega),Dr,Gx];obtain ⟨m,a⟩:∃ m,k - i=m+1:=⟨k - i - 1,⋯⟩;rw [show ([(1,1)]:d7)[k - i]?=none from Bf (by show 1<=_;omega),a];exact O' _
def U6 (i:Nat):AX (xt i):=λq a=>by
 rcases EA.mp a with h | h
 ·rw [(List.mem_replicate.mp h).2];exact FH
 ·rw [B7.mp h];exact JU
def U7 (i:Nat):Nz (xt i):=λq a=>by
 unfold xt at a;rw [List.getLast?_append] at a;obtain rfl:(1,1)=q:=by simpa using a
 decide
def rW (i:Nat):Sq 1 ⟨1,i+1,1,1,1⟩ (xt i) [(1,1)]:=
 ⟨lw1 (U6 i) (U7 i),bI,Sr.X i,1,1,IH i,⟨[1],si1,AT 1,AT 1⟩,one_ne,∅,AT 1,by
  rw [LG,NY,show Sr.num ((1:Int):Rat)=1 from Sr.n1,Sr.n1];ext⟩
def rX {a:Type} (i:Nat) {n:Nat} (b:1<=n):stV ([]:List a) i n=[]:=by
 unfold stV;rw [show (([]:List a).length - i+n - 1) / n=0 by rw [List.length_nil];exact Ez ⋯];rfl
theorem Nx {d:Type} {n:Nat} (a:1<=n):∀ (xs:List d) (i:Nat),i<n->stV xs i n=R_ n i xs
 | [],i,_=>by rw [rX i a,GD]
 | x::l,0,_=>by
   have b:=Nx a l (n - 1) ⋯;rw [R_,<-b];unfold stV
   have e:((x::l).length - 0+n - 1) / n=l.length / n+1:=by
    rw [show (x::l).length - 0+n - 1=l.length+n by rw [CB];omega,Nat.add_div_right _ ⋯]
   have g:(l.length - (n - 1)+n - 1) / n=l.length / n:=by
    rcases Av l.length (n - 1) with c | c
    ·rw [show l.length - (n - 1)+n - 1=n - 1 by omega,Ez ⋯,Ez ⋯]
    ·rw [show l.length - (n - 1)+n - 1=l.length by omega]
   rw [e,g,List.range_succ_eq_map,FT,List.filterMap_map];rw [show 0+0*n=0 by rw [Nat.zero_mul]];show x::_=x::_;refine congrArg (λf=>x::List.filterMap f (List.range (l.length / n))) (funext λm=>?_);show (x::l)[0+(m+1)*n]?=l[n - 1+m*n]?;rw [show 0+(m+1)*n=(n - 1+m*n)+1 by rw [Nat.succ_mul];omega];rfl
 | x::l,i+1,h=>by
   have b:=Nx a l i ⋯;rw [R_,<-b];unfold stV;rw [show (x::l).length - (i+1)+n - 1=l.length - i+n - 1 by rw [CB];omega];refine congrArg (λf=>List.filterMap f (List.range ((l.length - i+n - 1) / n))) (funext λm=>?_);show (x::l)[i+1+m*n]?=l[i+m*n]?;rw [show i+1+m*n=(i+m*n)+1 by omega];rfl
theorem Nums.st {H:Hp} (n:Nat):∀ {xs:dj} {l:d7} (i:Nat),Nums H xs l->Nums H (R_ n i xs) (R_ n i l)
 | [],[],_,_=>by rw [GD,GD];trivial
 | [],_::_,_,h=>h.elim
 | _::_,[],_,h=>h.elim
 | _::_,_::_,0,h=>⟨h.1,Nums.st n (n - 1) h.2⟩
 | _::_,_::_,i+1,h=>Nums.st n i h.2
theorem Ny {a:Type} (n:Nat):∀ (l:List a) (i:Nat) {x:a},x∈R_ n i l->x∈l
 | [],_,_,h=>by rw [GD] at h;exact h
 | y::l,0,x,h=>by
   rw [R_] at h;rcases D8.mp h with h | h
   ·rw [h];exact CC
   ·exact CD _ (Ny n l _ h)
 | y::l,i+1,x,h=>by rw [R_] at h;exact CD _ (Ny n l _ h)
theorem N2 {n:Nat} (a:1<=n):∀ (l:d7) (i k:Nat),i<n->B_ (R_ n i l) k=B_ l (i+k*n)
 | [],_,k,_=>by rw [GD,BN (Ae _),BN (Ae _)]
 | x::l,0,0,_=>by rw [Nat.zero_mul,Nat.add_zero];rfl
 | x::l,0,k+1,_=>by
   have e:=N2 a l (n - 1) k ⋯;show B_ (R_ n (n - 1) l) k=B_ (x::l) (0+(k+1)*n);rw [e,show 0+(k+1)*n=(n - 1+k*n)+1 by rw [Nat.succ_mul];omega];rfl
 | x::l,i+1,k,h=>by
   have e:=N2 a l i k ⋯;show B_ (R_ n i l) k=B_ (x::l) (i+1+k*n);rw [e,show i+1+k*n=(i+k*n)+1 by omega];rfl
def Gq.sub {b c:Nat} {l T:d7} (G:Gq b c l) (a:AX T) (d:Nz T) (h:∀ k,∃ j,B_ T k=B_ l j):Gq b c T:=by
 obtain ⟨M,O,bM,e⟩:=G.ov;refine Do a d O.1 bM (N:=λk=>(P_ l M).getD (h k).choose 0) (λk=>?_) λk=>DM e _;exact (h k).choose_spec.trans (DY G.low O _)
def VC {n i a b:Nat} (d:2<=n) (h:n*a<=b+(n - 1) - i):a<=b:=by
 rcases Ce a with c | c
 ·omega
 ·have e:n*a=a+(n - 1)*a:=by rw [show n=1+(n - 1) by omega,Cl];simp
  have f:=CM (n - 1) (show 1<=a from c);omega
def rY (h:Gp K vs H Q E):wN K { nx:=λ_ u=>Q .non u,rt:=Q } (L2.start ["P","n","i"] vs) H:=by
 obtain ⟨p,l,n,i,b,rfl,⟨d,hp,m⟩,v,g,G,L,k⟩:=h;have M:=m.length;have ll:=LD (by omega:1<=n) i l g
 have N:(R_ n i l).length<=l.length:=VC v ll
 refine Bt (Ca (Gf ⟨_,rfl,_,rfl,_,rfl,_,rfl,_,rfl,p,i,n,d,rfl,rfl,rfl,hp,v,λa x=>⟨a,_,rfl,upd_same,λw y=>?_⟩⟩));rw [Nx ⋯ d i g] at *;have z:=AQ x (.tup (R_ n i d));have A:=AQ y (.lst (R_ n i d));have e:=z.trans A;have f:AX (R_ n i l):=λq j=>G.low q (Ny n l i j);refine ⟨w,R_ n i d,R_ n i l,rfl,upd_same,(m.tp (M_ e)).st n i,⋯,λr B C D F I=>?_⟩;have o:∀ k,B_ (trim (R_ n i l)) k=B_ l (i+k*n):=λk=>(Es f k).trans (N2 ⋯ l i k g);have J:=Dy (R_ n i l);have:=CM n J;exact k r (trim (R_ n i l)) C (e.trans D) ⟨B,F,I⟩ (G.sub (λq j=>f q (DL j)) (Dx _) λk=>⟨_,o k⟩) ⋯ (Sr.ext' λk=>o k)
def rZ {A:d7} {q:Nu} (b:q.1≠0) (m:Nat):trim (A++[q]++List.replicate m (0,1))=A++[q]:=by
 have a:∀ j,j<=m->Bg (A++[q]++List.replicate m (0,1)) (A.length+1+j)=A.length+1:=λj=>by
  induction j with
  | zero=>
    intro _;show Bg _ (A.length+1)=_;rw [NA]
    have e:(A++[q]++List.replicate m (0,1)).getD A.length (1,1)=q:=by
     rw [AU,List.append_assoc,EB (AT _),Nat.sub_self];rfl
    rw [e,lZ b]
  | succ j c=>
    intro d;show Bg _ ((A.length+1+j)+1)=_;rw [NA]
    have e:(A++[q]++List.replicate m (0,1)).getD (A.length+1+j) (1,1)=(0,1):=by
     rw [AU,EB (by first | (simp;done) | (simp;omega))];rw [EC,kA (by first | (simp;done) | (simp;omega))];rfl
    rw [e,kA rfl];exact c ⋯
 unfold trim;have l:(A++[q]++List.replicate m (0,1)).length=A.length+1+m:=by first | (simp;done) | (simp;omega)
 rw [l,a m (AT m),List.take_append_of_le_length (by simp),List.take_of_length_le (by simp)]
def CompJ.enumT {K:W.Frag} {capt:List (Option Nat)} {g:TG} {f:TE} {j:L2.St} {H:Hp} {Q:VK} {a:Addr} {xs:dj} (W:Nat->dj->Hp->Prop) (k:W 0 [] H) (c:∀ i b H,W i b H->i<=xs.length/\b.length<=sizeLine/\SqT K H a xs)
  (m:∀ i x p b H,xs[i]?=some x->W i b H->H p=none->g (.ref p) (Ci capt j) (upd H p (.tup [.int i,x])) λd n=>f d n λy o=>W (i+1) (b++[y]) o) (r:∀ b H,W xs.length b H->∀ p,H p=none->Q (.ref p) (upd H p (.lst b))):CompJ (Ga K a) capt g f j Q H:=by
 refine ⟨xs.length,W,k,λi b H w=>⟨(c i b H w).1,(c i b H w).2.1,?_⟩⟩;have q:SqT K H a xs:=(c i b H w).2.2;by_cases h:i<xs.length
 ·refine .inr ⟨h,⟨xs,xs[i],q,by simp [h]⟩,λx v y=>?_⟩;obtain ⟨p,u,hp,rfl,rfl,y⟩:=y;exact m i u p b _ (y xs q) w hp
 ·have e:i=xs.length:=Ef (c i b H w).1 (Nat.not_lt.mp h);subst e;exact .inl ⟨⟨xs,q,AT _⟩,r b H w⟩
def qA {K:W.Frag} {c:TA} {capt:List (Option Nat)} {g:TG} {d:TE} {b:L2.St} {H:Hp} {Q:VK} (h:c b H (λvs e=>∃ a,vs=[.ref a]/\(∃ f,SqT K e a f)/\CompJ (Ga K a) capt g d b Q e)):Bb (Gb K c) capt g d b H Q:=h
def Ji {b:TA} {capt:List (Option Nat)} {g:TG} {c:TE} {a:L2.St} {H:Hp} {Q:VK} (h:b a H (λvs d=>∃ j:Int,vs=[.int j]/\-(2 ^ 62)<=j/\j<2 ^ 62/\CompJ (ay 0 j.toNat) capt g c a Q d)):Bb (CW b) capt g c a H Q:=h
def N3 {b:TA} {g:TG} {c rest:TS} {D:Ends} {a:L2.St} {H:Hp} (h:b a H (λvs d=>∃ j:Int,vs=[.int j]/\-(2 ^ 62)<=j/\j<2 ^ 62/\ForR 0 j.toNat g c { D with nx:=rest D } a d)):AI (BH (CW b) g c) rest D a H:=h
def U8 {K:W.Frag} {c:TA} {g:TG} {d rest:TS} {D:Ends} {b:L2.St} {H:Hp} (h:c b H (λvs e=>∃ a,vs=[.ref a]/\(∃ f,SqT K e a f)/\ForJ (Ga K a) g d { D with nx:=rest D } b e)):AI (BH (Gb K c) g d) rest D b H:=h
noncomputable def ag (n:Nat) (l:d7):d7:=l.flatMap λq=>q::List.replicate (n - 1) (0,1)
theorem N5 {n:Nat} (b:1<=n):∀ (l:d7) (k:Nat),B_ (ag n l) k=if k % n=0 then B_ l (k / n) else 0
 | [],k=>by
   rw [show ag n []=[] from rfl,BN (Ae _),BN (Ae _)];split <;> rfl
 | q::l,k=>by
   have e:ag n (q::l)=(q::List.replicate (n - 1) (0,1))++ag n l:=rfl;have ll:(q::List.replicate (n - 1) ((0,1):Nu)).length=n:=by rw [CB,Dr];omega
   rcases Av k n with c | c
   ·have a:B_ (ag n (q::l)) k=B_ (q::List.replicate (n - 1) (0,1)) k:=by
     unfold B_ AZ;rw [e,AU,AU,FU ⋯]
    rw [a,EG c,Ez c];cases k with
    | zero=>rfl
    | succ k=>
      rw [lZ ⋯];show val ((List.replicate (n - 1) ((0,1):Nu)).getD k (0,1))=0;rw [AU,EC];split <;> exact O' _
   ·have a:B_ (ag n (q::l)) k=B_ (ag n l) (k - n):=by
     unfold B_ AZ;rw [e,AU,AU,EB ⋯,ll]
    have d:(k - n) % n=k % n:=by rw [Nat.mod_eq_sub_mod c]
    have f:k / n=(k - n) / n+1:=by rw [Nat.div_eq_sub_div ⋯ c]
    rw [a,N5 b l (k - n),d,f];rfl
def qC {n:Nat} (a:1<=n) (l:d7):sr (ag n l)=Sr.cm (Sr.X n) (sr l):=Sr.ext' λk=>by
 rw [Sr.sp_c ⋯ (AW l)];exact N5 a l k
theorem N6 {n:Nat} (b:1<=n) (l:d7):(ag n l).length=n*l.length:=by
 unfold ag
 induction l with
 | nil=>rfl
 | cons q l a=>rw [List.flatMap_cons,Cq,a,CB,CB,Dr,Nat.mul_succ];omega
def qD {n:Nat} {l:d7} (h:AX l):AX (ag n l):=λq a=>by
 obtain ⟨y,c,a⟩:=List.mem_flatMap.mp a;rcases D8.mp a with b | b
 ·rw [b];exact h y c
 ·rw [(List.mem_replicate.mp b).2];exact FH
def qE {n:Nat} (a:1<=n) {l:d7} (b:Nz l):(trim (ag n l)).length=if l=[] then 0 else n*(l.length - 1)+1:=by
 by_cases h:l=[]
 ·rw [h];rfl
 ·rw [lZ h];obtain ⟨A,q,e⟩:∃ A q,l=A++[q]:=⟨l.dropLast,l.getLast h,(GK h).symm⟩;have c:q.1≠0:=b q (by rw [e];simp);have d:ag n l=ag n A++[q]++List.replicate (n - 1) (0,1):=by rw [e];unfold ag;simp
  rw [d,rZ c,Cq,N6 a,e,Cq];simp
def qG (h:Hu K vs H Q E):SQ K { nx:=λ_ m=>Q .non m,rt:=Q } (L2.start ["P","n","row","number"] vs) H:=by
 obtain ⟨p,l,n,b,rfl,⟨O,hp,P⟩,n2,R,G,l9,k⟩:=h;have lx:=P.length;unfold SQ;rwa [];refine ⟨sz ∅,λw S=>?_⟩;have T:=AQ S (.lst []);refine ⟨⟨_,SqT.of (T _ _ hp)⟩,ForT.by (xs:=O) (λi A m=>∃ (F:dl) (g:dj),A=[some (.ref p),some (.int (n:Int)),some (.ref w),F]/\Same H m/\m w=some (.lst g)/\Nums m g (ag n (l.take i))) ⟨none,[],rfl,T,upd_same,trivial⟩ ?_ ?_ ?_⟩
 ·rintro i A m _ ⟨_,_,_,u,_⟩;exact u _ _ hp
 ·rintro i x A B U ⟨F,g,rfl,u,d,v⟩;have a0:i<l.length:=by have:=(Bw.mp U).1;omega
  obtain ⟨o,ho,W⟩:=P.get U;have a1:=W;obtain ⟨e,rfl,I⟩:=W;rwa [];simp only [HZ];have en:((n:Int) - 1).toNat=n - 1:=by omega
  rw [en];refine ⟨Ls d,sz ∅,λC h1=>⟨sz ∅,λa h2=>⟨sz ∅,λJ h3=>⟨⋯,⋯,sz ⋯,λL h4=>?_⟩⟩⟩⟩;have t1:=AQ h1 (.lst [.ref e]);have X:=AQ h2 (.tup [.int 0,.int 1]);have M:=AQ h3 (.lst [.ref a]);have N:=AQ h4 (.lst (List.replicate (n - 1) (V.ref a)));have Y:upd (upd (upd (upd B C (.lst [.ref e])) a (.tup [.int 0,.int 1])) J (.lst [.ref a])) L (.lst (List.replicate (n - 1) (V.ref a))) a=some (HO.tup [V.int 0,V.int 1]):=N _ _ (M _ _ upd_same);have Z:upd (upd (upd (upd B C (.lst [.ref e])) a (.tup [.int 0,.int 1])) J (.lst [.ref a])) L (.lst (List.replicate (n - 1) (V.ref a))) C=some (HO.lst [V.ref e]):=N _ _ (M _ _ (X _ _ upd_same));have f:=((t1.trans X).trans M).trans N;generalize upd (upd (upd (upd B C (.lst [.ref e])) a (.tup [.int 0,.int 1])) J (.lst [.ref a])) L (.lst (List.replicate (n - 1) (V.ref a)))=H2 at Z Y f ⊢;refine ⟨_,Z,sz (by simp;omega),λc5 h5=>?_⟩;have D:=AQ h5 (.lst ([V.ref e]++List.replicate (n - 1) (V.ref a)));have s5:=(u.trans f).trans D;have j:=(f.trans D) _ _ d
  have zl:g.length<=160:=by
   rw [v.length,N6 ⋯,Cd];have:n*min i l.length<=4*40:=B4 R ⋯;omega
  refine ⟨g,j,sz (by simp;omega),λb o h=>by rw [A8 (B5 h S)];exact s5 b o h,?_⟩;have y:=(M_ (f.trans D)).trans (Kp.tp (Kp.upd (p:=w) (o:=HO.lst (g++([V.ref e]++List.replicate (n - 1) (V.ref a))))) j);unfold ag;rw [FW,ho,Option.toList_some,List.flatMap_append,List.flatMap_singleton];refine (v.tp y).append ?_;refine ⟨(⟨e,rfl,y _ _ (u _ _ I)⟩:isN _ (V.ref e) o),Nums.rep ⟨a,rfl,?_⟩ _⟩;exact (Kp.tp Kp.upd j) _ _ (D _ _ Y)
 ·rintro A B ⟨F,g,rfl,u,d,v⟩;rw [lx,DS] at v;rwa [d];refine ⟨_,v,?_,λr ys H2 s2 hr hz=>?_⟩
  ·rw [N6 ⋯];have:n*l.length<=4*40:=B4 R l9;omega
  have z:=qD (n:=n) G.low;have pt:∀ k,B_ (trim (ag n l)) k=B_ (ag n l) k:=λk=>Es z k;refine k r (trim (ag n l)) H2 (u.trans s2) ⟨ys,hr,hz⟩ (G.sub (λq hq=>z q (DL hq)) (Dx _) λk=>?_) (qE ⋯ G.nz) (by rw [<-qC ⋯];exact Sr.ext' λk=>pt k);rw [pt,N5 ⋯];by_cases c:k % n=0
  ·exact ⟨_,kA c⟩
  ·exact ⟨l.length,by rw [lZ c,BN (AT _)]⟩
noncomputable def aE (l:d7) (a d:Int) (i:Nat):d7:=(List.range i).map λk=>I_ (AZ l k) (a ^ k,d ^ k)
def qH (h:FM K vs H Q E):wK K { nx:=λ_ n=>Q .non n,rt:=Q } (L2.start ["P","c"] vs) H:=by
 obtain ⟨p,q,l,a,d,b,s,rfl,⟨F,hp,Z⟩,hq,lo,a0,P,I,f,G,l9,b9,k⟩:=h;have lx:=Z.length;obtain ⟨M,O,bM,hb⟩:=G.ov;obtain ⟨_,cB,ct⟩:=G.clr;have g:=lo.pos
 have nb:∀ i,i<l.length->Bd 60000000 (AZ l i).1/\Bd 60000000 (AZ l i).2:=λi hi=>by
  have m:AZ l i∈l:=by unfold AZ;rw [AU,Az hi];exact Eh _
  exact ⟨(ct _ m).mono ⋯,(DN (AV O.1) (O.2 _ m) bM).mono ⋯⟩
 refine Bt (Ca (qA ⟨_,rfl,p,rfl,⟨_,SqT.of hp⟩,CompJ.enumT (xs:=F) (λi v n=>i<=F.length/\Same H n/\Nums n v (aE l a d i)) ⟨Ae _,Same.refl H,trivial⟩ ?_ ?_ ?_⟩))
 ·rintro i v n ⟨o,C,A⟩;exact ⟨o,sz (by rw [A.length];unfold aE;rw [AR,BL];omega),SqT.of (C _ _ hp)⟩
 ·rintro i x e v n hx ⟨o,C,A⟩ he;have a1:i<F.length:=(Bw.mp hx).1;obtain ⟨z,hz,R,rfl,S⟩:=Z.get hx;have ez:AZ l i=z:=by unfold AZ;rw [AU,hz];rfl
  have se:=AQ he (.tup [.int (i:Int),.ref R]);have s2:=C.trans se;refine ⟨e,_,rfl,upd_same,rfl,_,_,rfl,_,_,rfl,rfl,?_⟩;show (AE (JB K) [] E0 (AA (AB 1) (AA (AE (Ki K) [] E0 (AA (AB 2) (AA (AB 0) AC))) AC))) [some (.int (i:Int)),some (.ref R),some (.ref q)] _ _;refine Af (AO rfl (Af (AO rfl (AO rfl ⟨q,a,d,i,rfl,s2 _ _ hq,P.mono f,I.mono f,⋯,λr T=>?_⟩))));have J:=AQ T (.tup [.int (a ^ i),.int (d ^ i)]);have D:=s2.trans J;have U:=nb i ⋯;rw [ez] at U;refine ⟨R,r,z.1,z.2,a ^ i,d ^ i,rfl,D _ _ S,upd_same,(G.low z (Bj hz)).pos,Dt g,U.1,U.2,((P.mono f).pow i).mono ⋯,((I.mono f).pow i).mono ⋯,λt ht=>⟨⋯,D.trans (AQ ht _),?_⟩⟩;show Nums _ _ (aE l a d (i+1));unfold aE;rw [List.range_succ,EF,List.map_singleton,ez];exact (A.tp (M_ ((se.trans J).trans (AQ ht _)))).append (Nums.one Ft)
 ·rintro v n ⟨_,C,A⟩ w hw;have sw:=AQ hw (.lst v);rw [lx] at A;have ll:(aE l a d l.length).length=l.length:=by unfold aE;rw [AR,BL]
  have W:AX (aE l a d l.length):=λy B=>by
   obtain ⟨j,hj,rfl⟩:=BR.mp B;exact Pi (CZ G.low j).pos (Dt g)
  have X:∀ j,B_ (aE l a d l.length) j=val (a,d) ^ j*B_ l j:=λj=>by
   rcases Av j l.length with c | c
   ·have:AZ (aE l a d l.length) j=I_ (AZ l j) (a ^ j,d ^ j):=by
     unfold aE AZ;rw [AU,Aq,DU c];rfl
    show val (AZ _ j)=_;rw [this,QD (CZ G.low j).pos (Dt g)]
    have e:val (a ^ j,d ^ j)=val (a,d) ^ j:=by
     unfold val;have o:=AY (AV g)
     induction j with
     | zero=>rw [DT,DT,Rat.pow_zero];show ((1:Int):Rat) / ((1:Int):Rat)=1;rw [show ((1:Int):Rat)=1 from rfl];ext
     | succ j u=>
       have u:=u ⋯ (by
        unfold aE AZ;rw [AU,Aq,DU (show j<l.length by omega)];rfl)
       have L:((d ^ j:Int):Rat)≠0:=AY (AV (Dt g));show ((a ^ (j+1):Int):Rat) / ((d ^ (j+1):Int):Rat)=_;have Y:((a ^ j:Int):Rat) / ((d ^ j:Int):Rat)=((a:Rat) / (d:Rat)) ^ j:=u;rw [Df,Df,CG,CG,Dg];show _=((a:Rat) / (d:Rat)) ^ j*((a:Rat) / (d:Rat));rw [<-Y];ext
    rw [e];show B_ l j*_=_;ext
   ·rw [BN ⋯,BN c];ext
  have v0:val (a,d)≠0:=II (a:=(a,d)) lo a0
  have vp:∀ j:Nat,val (a,d) ^ j≠0:=λj=>by
   induction j with
   | zero=>rw [Rat.pow_zero];decide
   | succ j u=>rw [Dg];exact λz=>(Cg.mp z).elim u v0
  have nz:Nz (aE l a d l.length):=λy B=>by
   rcases Ce l.length with c | c
   ·rw [CA.mp (ll.trans c)] at B;cases B
   ·have o:B_ (aE l a d l.length) (l.length - 1)=val y:=by
     show val (AZ _ _)=_;rw [FX,ll] at B;unfold AZ;rw [AU,B];rfl
    intro y0;have L:val y=0:=by unfold val;rw [y0];exact O' _
    rw [X,L] at o;exact (Cg.mp o).elim (vp _) (DG G.low G.nz (BI.mp c))
  refine ⟨w,v,_,rfl,upd_same,A.tp (M_ sw),⋯,λr us H3 J T hu=>?_⟩;rw [MM nz] at hu;refine k r _ H3 ((C.trans sw).trans J) ⟨us,T,hu⟩ ?_ ll (Sr.ext' λj=>by rw [Sr.str_c _ (AW l)];exact X j);refine Do W nz (M:=M*d ^ l.length) (CF O.1 (Dt g)) ((bM.mul (I.pow l.length)).mono (by rw [B6];omega)) (N:=λj=>if j<l.length then (P_ l M).getD j 0*(a ^ j*d ^ (l.length - j)) else 0) (λj=>?_) λj=>?_
  ·rw [X];by_cases c:j<l.length
   ·rw [kA c,DY G.low O j];have e1:((d ^ l.length:Int):Rat)=((d ^ j:Int):Rat)*((d ^ (l.length - j):Int):Rat):=by rw [<-CG,<-Int.pow_add,show j+(l.length - j)=l.length by omega]
    have L:((d ^ j:Int):Rat)≠0:=AY (AV (Dt g));have h3:((d ^ (l.length - j):Int):Rat)≠0:=AY (AV (Dt g));have h4:=AY (AV O.1)
    have e2:val (a,d) ^ j*((d ^ j:Int):Rat)=((a ^ j:Int):Rat):=by
     have o:=AY (AV g);clear e1 L h3 c
     induction j with
     | zero=>rw [Rat.pow_zero,DT,DT,show ((1:Int):Rat)=1 from rfl];ext
     | succ j u=>
       rw [Dg,Df,Df,CG,CG,<-u];show _*((a:Rat) / (d:Rat))*_=_;ext
    rw [CG,CG,CG,e1,<-e2];ext
   ·rw [lZ c,BN ⋯];rw [show ((0:Int):Rat)=0 from rfl];ext
  ·by_cases c:j<l.length
   ·rw [kA c];refine ((DM hb j).mul ((P.pow j).mul (I.pow (l.length - j)))).mono ?_;have:l.length*s=j*s+(l.length - j)*s:=by rw [<-Cl,show j+(l.length - j)=l.length by omega]
    rw [B6 s j,B6 s (l.length - j)];omega
   ·rw [lZ c];exact Cn _
def Gq.bds {b:Nat} {l:d7} (G:Gq b b l) (h:b<=1000000):∀ q∈l,Bd 1000000 q.1/\Bd 1000000 q.2:=λq a=>by
 obtain ⟨M,O,bM,_⟩:=G.ov;exact ⟨(G.clr.2.2 q a).mono h,(DN (AV O.1) (O.2 q a) bM).mono h⟩
def U9 {l m:d7} {b:Nu} (n:AX l) (o:AX m) (B:Nz l) (C:Nz m) (w:m≠[]) (g:Low b.1 b.2) (p:val b*val (AZ m (m.length - 1))=1) (cs:Sr.Cs (sr l) (sr m)) :
  Lw (trim (l.map λq=>I_ q (b.1,b.2))) (trim (m.map λq=>I_ q (b.1,b.2)))/\sr (trim (l.map λq=>I_ q (b.1,b.2)))=Sr.num (val b)*sr l/\sr (trim (m.map λq=>I_ q (b.1,b.2)))=Sr.num (val b)*sr m:=by
 have c:=K4 (a:=b.1) n g.pos;have d:=K4 (a:=b.1) o g.pos;have r:sr (trim (l.map λq=>I_ q (b.1,b.2)))=Sr.num (val b)*sr l:=Sr.ext' λk=>by rw [Sr.num_mul];exact (Es c k).trans (K3 n g.pos k)
 have h:sr (trim (m.map λq=>I_ q (b.1,b.2)))=Sr.num (val b)*sr m:=Sr.ext' λk=>by rw [Sr.num_mul];exact (Es d k).trans (K3 o g.pos k)
 have x:val b≠0:=λz=>by rw [z] at p;ext
 have i:=Sr.num_inv x;have u:(trim (m.map λq=>I_ q (b.1,b.2))).length<=m.length:=A7 (Dy _) (by rw [AR];exact AT _)
 have top:B_ (trim (m.map λq=>I_ q (b.1,b.2))) (m.length - 1)=1:=by
  have:=kJ (congrArg Sr.c h) (m.length - 1);rw [Sr.num_mul] at this;exact this.trans p
 have v:AX (trim (m.map λq=>I_ q (b.1,b.2))):=λq j=>d q (DL j);have y:=Dx (m.map λq=>I_ q (b.1,b.2));have D:=BI.mpr w
 have f:(trim (m.map λq=>I_ q (b.1,b.2))).length=m.length:=by
  rcases Av (m.length - 1) (trim (m.map λq=>I_ q (b.1,b.2))).length with z | z
  ·omega
  ·rw [BN z] at top;exact absurd top ∅
 refine ⟨⟨λq j=>c q (DL j),v,Dx _,y,BI.mp ⋯,JW v (by rw [f];exact top),?_⟩,r,h⟩;rw [r,h];obtain ⟨U,W,A,pW,e⟩:=cs;refine ⟨U*Sr.num (val b)⁻¹,W*Sr.num (val b)⁻¹,A.mul (Sr.Pol.num _),pW.mul (Sr.Pol.num _),?_⟩;rw [show U*Sr.num (val b)⁻¹*(Sr.num (val b)*sr l)+W*Sr.num (val b)⁻¹*(Sr.num (val b)*sr m)=(Sr.num (val b)⁻¹*Sr.num (val b))*(U*sr l+W*sr m) by ext,i,e];ext
def bJ (b:Nu):val (-b.1,b.2) = -val b:=by unfold val;push_cast;ext
def nneg (x:Rat):Sr.num (-x) = -Sr.num x:=Sr.num_neg x
def qJ (h:Kk K vs H Q E):wJ K { nx:=λ_ M=>Q .non M,rt:=Q } (L2.start ["kind","P"] vs) H:=by
 obtain ⟨p,x,N,O,n,P,a,b,l,rfl,d,R,G,S,l4,k⟩:=h;have o:Bd 60000000 1:=(b_ (n:=1) ∅).mono ∅;have hp:=d.at';refine Bt (Af (Af (Af (AO rfl (Af (CJ (L_ (L_ ⟨Bi,λT U=>?_⟩))))))));have u:=AQ U (.tup [.int 1,.int 1]);refine A9 rfl (u _ _ hp) rfl ⟨T,N,1,1,a.1,a.2,rfl,upd_same,u _ _ d.at1,∅,d.a0,o,o,d.ba.1.mono ∅,d.ba.2.mono ∅,λW v=>?_⟩;rw [Int.one_mul,Int.one_mul];have C:=DB (n:=a.2) d.a0;have w:=Dk d.a0 (d.ba.2.mono (show 20<=40 by decide)) d.ba.1
 have ev:val (Ao a.2 a.1)=(val a)⁻¹:=by
  have z1:=AY d.a0;have z2:=AY (AV d.la.pos);rw [DC d.a0];unfold val;ext
 generalize Ao a.2 a.1=e at C w ev ⊢
 have X:e.1≠0:=λz=>by
  have Y:val e=0:=by unfold val;rw [z];exact O' _
  have va:=II d.la d.a0;rw [Y] at ev;ext
 have Z:=AQ v (.tup [.int e.1,.int e.2]);have g:=u.trans Z;refine ⟨x,W,l,e.1,e.2,P,40,rfl,R.same g,upd_same,C,X,w.1,w.2,AT _,G,⋯,⋯,λr2 L1 H3 s3 P3 G3 Fw e3=>?_⟩;have y:=g.trans s3;refine Af (CJ (L_ (L_ ⟨Bi,λe2 h2=>?_⟩)));have D:=AQ h2 (.tup [.int 0,.int 1]);have f:=y.trans D;refine A9 rfl (f _ _ hp) rfl ⟨e2,O,0,1,b.1,b.2,rfl,upd_same,f _ _ d.at2,∅,d.lb.pos,Cn _,o,d.bb.1.mono ∅,d.bb.2.mono ∅,λr3 A=>?_⟩;have i:Low (-b.1) b.2:=⟨d.lb.pos,by rw [Int.neg_gcd];exact d.lb.one⟩
 have dB:a9 (0,1) (b.1,b.2)=(-b.1,b.2):=EU (Ph (show (0:Int)<1 by decide) d.lb.pos) i (by
  rw [US (q:=(0,1)) (r:=(b.1,b.2)) (show (0:Int)<1 by decide) d.lb.pos,show val (0,1)=0 from O' _,bJ];ext)
 rw [dB];have F:=AQ A (.tup [.int (-b.1),.int b.2]);have j:=f.trans F;obtain ⟨zs,h3,n3⟩:=P3.same (D.trans F);have ll:l.length*40<=320:=by omega
 refine ⟨r2,r3,zs,L1,-b.1,b.2,6322,8,rfl,h3,upd_same,n3,G3.mono ⋯ ⋯,∅,i,d.bb.1.neg,d.bb.2.mono ∅,⋯,∅,λr4 H6 L I P6 mv=>?_⟩;refine A9 rfl (I _ _ (j _ _ hp)) rfl ⟨r4,L,n,_,rfl,P6,d.n2,d.n4,mv.gq,by rw [mv.len];omega,λr5 L5 H7 s7 P7 G7 m e7=>k r5 L5 H7 ((j.trans I).trans s7) P7 (G7.mono ∅ ∅) ?_ ?_⟩
 ·rw [m,mv.len,Fw];have:L=[]↔l=[]:=by rw [<-CA,<-CA,mv.len,Fw]
  by_cases c:l=[]
  ·rw [kA c,kA (this.mpr c)]
  ·rw [lZ c,lZ λz=>c (this.mp z)]
 ·have pv:Sr.Pol (Sr.X 1+Sr.num (val (-b.1,b.2))):=(Sr.pXn 1).add (Sr.Pol.num _);have J:Sr.Pol (Sr.num (val e)*Sr.X 1):=(Sr.Pol.num _).mul (Sr.pXn 1);have B:sr L1=Sr.cm (Sr.num (val e)*Sr.X 1) (sr l):=e3;rw [e7,mv.sr,Sr.mv_cm (AW L1),B,Sr.cm_cm J (AW l),Sr.cm_cm (Sr.cm_pol pv J) (AW l),Sr.cm_mul _ (Sr.Pol.num _) (Sr.pXn 1),Sr.cm_num,Sr.cm_X,Sr.cm_mul _ (Sr.Pol.num _) pv,Sr.cm_num,Sr.cm_add _ (Sr.pXn 1) (Sr.Pol.num _),Sr.cm_X,Sr.cm_num,ev,bJ,nneg];unfold xq;rw [show Sr.X n + -Sr.num (val b)=Sr.X n - Sr.num (val b) by grind]
def qL (h:Mp K vs H Q E):wT K { nx:=λ_ f=>Q .non f,rt:=Q } (L2.start ["kind","F","moved"] vs) H:=by
 obtain ⟨p,q,q1,q2,n,a,b,y,F,rfl,g,⟨u,v,hq,Pu,Pv⟩,L',GT,GB,t4,b4,k⟩:=h;have hp:=g.at'
 have go:∀ (w:Addr) (P:d7) (G:Hp) (O:VK),Same H G->Pl G w P->Gq 6000 6000 P->P.length<=8->(∀ r X B,Same G B->Pl B r X->Gq 10000 10000 X->X.length=P.length->sr X=Sr.cm (bk a b) (sr P)->O (.ref r) B)->(AE (FM K) [] E0 (AA (AE (JG K) [] E0 (AA (AB 0) (AA (A_ gT (AB 1) (tC (.int 2))) AC))) (AA (A_ gT (AB 1) (tC (.int 1))) AC))) [some (.ref w),some (.ref p)] G O:=λw P G O d Pw GP P4 k1=>by
  obtain ⟨zs,R,nw⟩:=Pw;refine Af (Af (AO rfl (A9 rfl (d _ _ hp) rfl ⟨w,q2,zs,P,b.1,b.2,6000,8,rfl,R,d _ _ g.at2,nw,GP,∅,g.lb,g.bb.1,g.bb.2.mono ∅,P4,∅,λr1 B L z P1 mv=>?_⟩)));have I:=d.trans z;have ml:=mv.len;refine A9 rfl (I _ _ hp) rfl ⟨r1,q1,L,a.1,a.2,bM 6000 8,40,rfl,P1,I _ _ g.at1,g.la,g.a0,g.ba.1,g.ba.2.mono ∅,AT _,mv.gq,⋯,∅,λr2 X S T P2 G2 U e2=>k1 r2 X S (z.trans T) P2 (G2.mono ?_ ?_) ⋯ ?_⟩
  ·have:L.length*40<=320:=by omega
   show bM 6000 8+_+2<=_;have:bM 6000 8=9267:=rfl;omega
  ·have:L.length*40<=320:=by omega
   show bM 6000 8+_+2<=_;have:bM 6000 8=9267:=rfl;omega
  ·have pv:Sr.Pol (Sr.X 1+Sr.num (val (b.1,b.2))):=(Sr.pXn 1).add (Sr.Pol.num _);rw [e2,mv.sr,Sr.mv_cm (AW P),Sr.cm_cm pv (AW P),Sr.cm_add _ (Sr.pXn 1) (Sr.Pol.num _),Sr.cm_X,Sr.cm_num];rfl
 refine BC (yH (AO rfl ⟨q,rfl,⟨_,SqT.of hq⟩,CompJ.tup (xs:=[.ref u,.ref v]) (λi C f=>Same H f/\((i=0/\C=[])\/(i=1/\∃ r X,C=[.ref r]/\Pl f r X/\Gq 10000 10000 X/\X.length=y.length/\sr X=Sr.cm (bk a b) (sr y))\/(i=2/\∃ r X j e,C=[.ref r,.ref j]/\(Pl f r X/\Gq 10000 10000 X/\X.length=y.length/\sr X=Sr.cm (bk a b) (sr y))/\Pl f j e/\Gq 10000 10000 e/\e.length=F.length/\sr e=Sr.cm (bk a b) (sr F)))) ⟨Same.refl H,.inl ⟨rfl,rfl⟩⟩ ?_ ?_ ?_⟩))
 ·rintro i C f ⟨d,h⟩;refine ⟨?_,sz ?_,d _ _ hq⟩ <;> rcases h with ⟨rfl,rfl⟩ | ⟨rfl,r,X,rfl,_⟩ | ⟨rfl,r,X,j,e,rfl,_⟩ <;> simp
 ·rintro i x C f W ⟨d,h⟩;rcases h with ⟨rfl,rfl⟩ | ⟨rfl,r,X,rfl,J,o,N,D⟩ | ⟨rfl,r,X,j,e,rfl,_⟩
  ·obtain rfl:V.ref u=x:=kH W;exact go u y f _ d (Pu.same d) GT t4 λr X B z J o N D=>⟨d.trans z,.inr (.inl ⟨rfl,r,X,rfl,J,o,N,D⟩)⟩
  ·obtain rfl:V.ref v=x:=kH W;exact go v F f _ d (Pv.same d) GB b4 λj e B z A c M m=>⟨d.trans z,.inr (.inr ⟨rfl,r,X,j,e,rfl,⟨J.same z,o,N,D⟩,A,c,M,m⟩)⟩
  ·cases W
 ·rintro C f ⟨d,h⟩ w R;rcases h with ⟨h,_⟩ | ⟨h,_⟩ | ⟨_,r,X,j,e,rfl,⟨J,o,N,D⟩,A,c,M,m⟩
  ·cases h
  ·cases h
  have Y:=AQ R (.lst [.ref r,.ref j]);show Sk K _ [some (.ref p),some (.ref q),some (.ref w)] _;have a1:=BI.mpr L'.ne;have X0:e≠[]:=BI.mp ⋯;refine Bt (Af (QY rfl upd_same rfl (QY rfl upd_same rfl ⟨r,j,X,e,rfl,J.same Y,A.same Y,o.low,c.low,c.nz,X0,o.bds ∅,c.bds ∅,⋯,⋯,λfa fl fv t u' v' S T ht hu hv=>?_⟩)));have cs:Sr.Cs (sr X) (sr e):=by rw [D,m];exact L'.cs.cm (Ut a b) (AW y) (AW F)
  obtain ⟨lw,Z,a0⟩:=U9 o.low c.low o.nz c.nz X0 fl fv cs
  exact k t _ _ S ((d.trans Y).trans T) ⟨u',v',ht,hu,hv⟩ lw (by
   show _*Sr.cm (bk a b) (sr F)=Sr.cm (bk a b) (sr y)*_;rw [Z,a0,D,m];ext)
def VA (b:Nat):Gq (b+1) (b+1) []:=⟨(λ_ h=>nomatch h),(λ_ h=>nomatch h),1,⟨∅,λ_ h=>nomatch h⟩,Bd.one.mono ⋯,λ_ h=>nomatch h⟩
def Qz.len {A k:Nat} {l:d7} (h:Qz A k (sr l)) (b:AX l) (d:Nz l):l.length<=k:=by
 obtain ⟨c,f,X,e,_,i⟩:=h;rcases Av k l.length with z | z
 ·have g:l≠[]:=BI.mp ⋯;have:=kJ (congrArg Sr.c e) (l.length - 1);rw [Sr.num_mul] at this;have a:((co X (l.length - 1):Int):Rat)=c*B_ l (l.length - 1):=this;rw [Ah ⋯] at a;exact absurd a.symm (λh=>(Cg.mp h).elim f (DG b d g))
 ·exact z
def VB {l:d7} (a:AX l):Qz (L1 (AL l)) l.length (sr l):=by
 have b:=AY (AV (Br a).1);have i:=Sr.num_inv b;exact ⟨(Aa l:Rat),b,AL l,by rw [EZ a];ext,AT _,by rw [Be];exact AT _⟩
theorem sm0 {f:Nat->Sr}:∀ n,(∀ j,j<n->f j=0)->Sr.sm f n=0
 | 0,_=>rfl
 | n+1,h=>by show Sr.sm f n+f n=0;rw [sm0 n λj a=>h j ⋯,h n ⋯];ext
def qN (h:Mq K vs H Q E):wQ K { nx:=λ_ N=>Q .non N,rt:=Q } (L2.start ["Q","n","kept","i"] vs) H:=by
 obtain ⟨p,l,n,A,b,x,d,rfl,Pp,T,n4,G,l0,b9,qz,lk,k1,ac,hx,U,k⟩:=h
 have x9:x<=22239:=by
  have:(x+6)*2<=(x+6)*(2*d):=CM _ ⋯;omega
 refine BC ⟨sz ∅,λw hw=>?_⟩;have sw:=AQ hw (.tup []);refine N3 ⟨_,rfl,(n:Int),rfl,⋯,⋯,?_⟩;rw [DR];refine ForR.by (λi W N=>i<=n/\∃ (c:Addr) (L:d7) (X:dl),W=[some (.ref p),some (.int (n:Int)),some (.ref c),X]/\Same H N/\Pl N c L/\((L=[]/\∀ j,j<i->Sr.st n j (sr l)=0)\/(L≠[]/\Gq x x L/\L.length<=d/\AZ L (L.length - 1)=(1,1)/\Fp x (AL L)/\∀ j,j<i->∃ Y,Sr.Pol Y/\Sr.st n j (sr l)=Y*sr L))) ⟨Ae _,w,[],none,rfl,sw,⟨[],upd_same,trivial⟩,.inl ⟨rfl,λj B=>absurd B ⋯⟩⟩ ?_ ?_
 ·rintro i W H1 O ⟨_,c,L,X,rfl,S,Z,m⟩;rw [Int.zero_add];refine Ip (Af (AO rfl (Hb (AO rfl (AO rfl (AO rfl ⟨p,l,n,i,b,rfl,Pp.same S,T,O,G,⋯,λr L2 H2 s2 P2 o q e2=>?_⟩))))));have ad:L2.length<=d:=by have:=VC T q;omega
  have a0:Qz A d (sr L2):=by
   rw [e2];refine (qz.st ⋯ O).mono (AT _) ?_;exact VC (i:=i) T (Nat.mul_div_le _ _)
  have F2:L2≠[]->Fp x (AL L2):=λz=>(a0.fp (e:=4) (D6 A) ⋯ o.low o.nz z).mono hx;obtain ⟨C,hc,nc⟩:=Z.same s2;obtain ⟨ys,hr,nr⟩:=P2
  have D:Gq 60000 60000 L:=by
   rcases m with ⟨rfl,_⟩ | ⟨_,g,_⟩
   ·exact (VA 0).mono ∅ ∅
   ·exact g.mono ⋯ ⋯
  have FL:L≠[]->Fp x (AL L):=λz=>by
   rcases m with ⟨h,_⟩ | ⟨_,_,_,_,f,_⟩
   ·exact absurd h z
   ·exact f
  have lL:L.length<=d:=by
   rcases m with ⟨rfl,_⟩ | ⟨_,_,h,_⟩
   ·exact Ae _
   ·exact h
  have F:=S.trans s2;refine ⟨c,r,C,ys,L,L2,60000,60000,x,4,2*d,rfl,SqT.of hc,hr,NuK.of nc,nr,D,o.mono ⋯ ⋯,∅,∅,⋯,⋯,λa b=>⟨FL a,F2 b⟩,by show _<32;omega,⋯,⋯,U,λa b t C H3 s3 ht hz=>?_,λne g R P t C H3 s3 ht hz=>?_⟩
  ·refine ⟨O,t,[],some (.int (i:Int)),rfl,F.trans s3,⟨C,ht,hz⟩,.inl ⟨rfl,λj B=>?_⟩⟩;rcases Av j i with z | z
   ·rcases m with ⟨_,h⟩ | ⟨h,_⟩
    ·exact h j z
    ·exact absurd a h
   ·rw [show j=i by omega,<-e2,b,Gz]
  ·have y:=R.lz
   have ab:Gq x x (K_ g)/\K_ g≠[]/\(K_ g).length<=d/\B_ (K_ g) ((K_ g).length - 1)=1/\Fp x (AL (K_ g)):=by
    by_cases z:L2=[]
    ·have L0:L≠[]:=ne.resolve_right (λh=>h z);obtain ⟨I,a2,a3,a4,_,a6⟩:=K8 D.low D.nz L0 (FL L0) y R.left P;obtain ⟨Y,J,M⟩:=Ja a4;exact ⟨I,a2,⋯,a6,K7 I.low D.low J M (FL L0)⟩
    ·obtain ⟨I,a2,a3,a4,_,a6⟩:=K8 o.low o.nz z (F2 z) y R.right P;obtain ⟨Y,J,M⟩:=Ja a4;exact ⟨I,a2,⋯,a6,K7 I.low o.low J M (F2 z)⟩
   obtain ⟨f1,f2,f3,f4,f5⟩:=ab;refine ⟨O,t,K_ g,some (.int (i:Int)),rfl,F.trans s3,⟨C,ht,hz⟩,.inr ⟨f2,f1,f3,JW f1.low f4,f5,λj B=>?_⟩⟩;rcases Av j i with z | z
   ·rcases m with ⟨_,h⟩ | ⟨_,_,_,_,_,h⟩
    ·exact ⟨0,Sr.Pol.nat 0,by rw [h j z];ext⟩
    ·obtain ⟨Y,J,M⟩:=h j z;obtain ⟨Y2,u,v⟩:=Ja (MR.of (GA y) (EX D.low) (EY y) R.left);exact ⟨Y*Y2,J.mul u,by rw [M,v];ext⟩
   ·obtain ⟨Y2,u,v⟩:=Ja (MR.of (GA y) (EX o.low) (EY y) R.right);exact ⟨Y2,u,by rw [show j=i by omega,<-e2,v]⟩
 ·rintro W H1 ⟨_,c,L,X,rfl,S,Z,m⟩;refine Bt (AO rfl ?_);rcases m with ⟨_,h⟩ | ⟨h1,h2,h3,h4,_,h6⟩
  ·refine absurd ?_ (Bu G.low G.nz l0);rw [Sr.parts_all (n:=n) ⋯ (AW l)];exact sm0 n λj B=>by rw [h j B,Sr.cm_zero];ext
  ·exact k c L H1 S Z h2 h1 h3 h4 h6
noncomputable def Dd (n:Nat):Nat->dq->dq
 | _,[]=>[]
 | 0,x::l=>x::Dd n (n - 1) l
 | i+1,_::l=>0::Dd n i l
theorem N7 (n:Nat):∀ i:Nat,Dd n i []=[]
 | 0=>rfl
 | _+1=>rfl
theorem N8 (n:Nat):∀ (i:Nat) (X:dq),L1 (Dd n i X)<=L1 X
 | _,[]=>by rw [N7];exact AT _
 | 0,x::l=>by have:=N8 n (n - 1) l;show x.natAbs+L1 (Dd n (n - 1) l)<=x.natAbs+L1 l;omega
 | i+1,x::l=>by have:=N8 n i l;show 0+L1 (Dd n i l)<=x.natAbs+L1 l;omega
theorem N9 (n:Nat):∀ (i:Nat) (X:dq),(Dd n i X).length=X.length
 | _,[]=>by rw [N7]
 | 0,x::l=>by rw [Dd,CB,CB,N9]
 | i+1,x::l=>by rw [Dd,CB,CB,N9]
theorem OA {n:Nat} (a:1<=n):∀ (X:dq) (i t:Nat),i<n->co (Dd n i X) t=if t % n=i then co X t else 0
 | [],_,t,_=>by rw [N7,Ah (Ae _)];split <;> rfl
 | x::l,0,0,_=>by rw [Nat.zero_mod,kA rfl];rfl
 | x::l,0,t+1,h=>by
   have e:=OA a l (n - 1) t ⋯;show co (Dd n (n - 1) l) t=if (t+1) % n=0 then co l t else 0
   rw [e]
   have:t % n=n - 1↔(t+1) % n=0:=by
    have b:=Nat.mod_lt t (show 0<n by omega);rw [Nat.add_mod];rcases Av (t % n+1 % n) n with c | c
    ·rw [EG c];rcases Nat.eq_or_lt_of_le a with z | z
     ·have:t % n=0:=by omega
      have:(1:Nat) % n=0:=by rw [<-z]
      omega
     ·rw [EG z] at *;omega
    ·rcases Nat.eq_or_lt_of_le a with z | z
     ·have:t % n=0:=by omega
      have:(1:Nat) % n=0:=by rw [<-z]
      omega
     ·rw [EG z] at *;rw [show t % n+1=n by omega,Nat.mod_self];omega
   by_cases c:t % n=n - 1
   ·rw [kA c,kA (this.mp c)]
   ·rw [lZ c,lZ λz=>c (this.mpr z)]
 | x::l,i+1,0,h=>by rw [Nat.zero_mod,lZ ⋯];rfl
 | x::l,i+1,t+1,h=>by
   have e:=OA a l i t ⋯;show co (Dd n i l) t=if (t+1) % n=i+1 then co l t else 0
   rw [e]
   have:t % n=i↔(t+1) % n=i+1:=by
    have b:=Nat.mod_lt t (show 0<n by omega);rw [Nat.add_mod,EG (show 1<n by omega)];rcases Av (t % n+1) n with c | c
    ·rw [EG c];omega
    ·rw [show t % n+1=n by omega,Nat.mod_self];omega
   by_cases c:t % n=i
   ·rw [kA c,kA (this.mp c)]
   ·rw [lZ c,lZ λz=>c (this.mpr z)]
def Iz.msk {A k n j:Nat} {f:Sr} (d:1<=n) (b:j<n) (h:Iz A k f):Iz A k (Sr.X j*Sr.cm (Sr.X n) (Sr.st n j f)):=by
 obtain ⟨X,rfl,a,l⟩:=h;refine ⟨Dd n j X,Sr.ext' λt=>?_,A7 (N8 n j X) a,by rw [N9];exact l⟩;rw [Sr.Xs_c ⋯ (Sr.st_pol ⋯ (DO X)) b];show ((co (Dd n j X) t:Int):Rat)=_;rw [OA d X j t b];by_cases c:t % n=j
 ·rw [kA c,kA c];show _=((co X (j+t / n*n):Int):Rat);rw [show j+t / n*n=t by have:=Nat.mod_add_div t n;rw [B6] at this;omega]
 ·rw [lZ c,lZ c];rfl
def HA {K:W.Frag} {H:Hp} {Q:VK} {E:XK} {p q:Addr} {l m:d7} {b d:Nat} (g:Pl H p l) (h:Pl H q m) (Gl:Gq b b l) (i:Gq d d m) (ll:l.length<=100) (j:m.length<=100) (c:b<=300000) (f:d<=300000)
  (k:∀ r R a,Same H a->Pl a r R->Gq (b+d+l.length) (b+d) R->R.length<=l.length+m.length - 1->sr R=sr l*sr m->Q (.ref r) a):Cp K [.ref p,.ref q] H Q E:=by
 obtain ⟨n,hp,o⟩:=g;obtain ⟨u,v,w⟩:=h;exact ⟨p,q,n,u,l,m,b,b,d,d,rfl,SqT.of hp,v,NuK.of o,w,Gl,i,ll,j,c,c,f,f,λr R a s P G len e=>k r R a s P G len (Dp e)⟩
def VD {f:Nu->Nu->Nu} {s:Rat} {K:W.Frag} {H:Hp} {Q:VK} {E:XK} {p q:Addr} {l m:d7} {b:Nat} (d:Pl H p l) (g:Pl H q m) (Gl:Gq b b l) (c:Gq b b m) (ll:l.length<=100) (h:m.length<=100) (B:b<=100000)
  (k:∀ r R a,Same H a->Pl a r R->Gq (b+b+1) (b+b+1) R->R.length<=max l.length m.length->sr R=sr l+Sr.num s*sr m->Q (.ref r) a):JE f s K [.ref p,.ref q] H Q E:=by
 obtain ⟨i,hp,n⟩:=d;obtain ⟨o,u,v⟩:=g;obtain ⟨M,w,x,bM,y,z⟩:=UV Gl c
 exact ⟨p,q,i,o,l,m,M,_,_,rfl,hp,u,n,v,Gl.low,c.low,w,x,bM,y,z,⋯,⋯,ll,h,λr R a A P G len e=>k r R a A P (G.mono ⋯ ⋯) len (Sr.ext' λj=>by
  show B_ R j=(sr l).c j+(Sr.num s*sr m).c j;rw [Sr.num_mul];exact e j)⟩
noncomputable def pc (f:Sr) (j:Nat):Sr:=Sr.X j*Sr.cm (Sr.X 3) (Sr.st 3 j f)
def PcAt (H:Hp) (r:Addr) (f:Sr) (j:Nat):Prop:=∃ X,Pl H r X/\Gq 1020 1020 X/\X.length<=20/\sr X=pc f j
def PcAt.same {H a:Hp} {r:Addr} {f:Sr} {j:Nat} (h:PcAt H r f j) (s:Same H a):PcAt a r f j:=let ⟨X,P,r⟩:=h;⟨X,P.same s,r⟩
def qO (i:Nat):Gq 1 1 (xt i):=by
 refine Do (U6 i) (U7 i) (M:=1) ∅ ∅ (N:=λk=>if k=i then 1 else 0) (λk=>?_) λk=>by
  by_cases c:k=i
  ·rw [kA c];decide
  ·rw [lZ c];decide
 have:=kJ (congrArg Sr.c (LG i)) k;rw [show Sr.X i=Sr.X i*1 by ext,Sr.X_mul] at this;have h:B_ (xt i) k=_:=this;rw [h,Gx];by_cases c:k=i
 ·rw [kA c,kA ⋯,c,Nat.sub_self];show (1:Rat)=((1:Int):Rat) / ((1:Int):Rat);rw [show ((1:Int):Rat)=1 from rfl];ext
 ·rw [lZ c];by_cases d:i<=k
  ·obtain ⟨m,a⟩:∃ m,k - i=m+1:=⟨k - i - 1,⋯⟩;rw [kA d,a];show (0:Rat)=((0:Int):Rat) / ((1:Int):Rat);rw [show ((1:Int):Rat)=1 from rfl,show ((0:Int):Rat)=0 from rfl];ext
  ·rw [lZ d,show ((1:Int):Rat)=1 from rfl,show ((0:Int):Rat)=0 from rfl];ext
def qP (h:Ms K vs H Q E):wS K { nx:=λ_ f=>Q .non f,rt:=Q } (L2.start ["Q","pieces","found","i"] vs) H:=by
 obtain ⟨p,l,b,rfl,Pp,G,l0,b9,l9,k⟩:=h;refine BC (Ji ⟨3,rfl,∅,∅,CompJ.range (n:=3) (λi v f=>i<=3/\Same H f/\v.length=i/\∀ j,j<i->∃ r,v[j]?=some (.ref r)/\PcAt f r (sr l) j) ⟨∅,Same.refl H,rfl,λj B=>absurd B ⋯⟩ ?_ ?_ ?_⟩)
 ·rintro i v f ⟨h1,_,h2,_⟩;exact ⟨h1,sz ⋯⟩
 ·rintro i v f I ⟨_,s1,ly,B⟩;rw [Int.zero_add];refine Af (Ca (AO rfl ⟨i,rfl,⋯,λm H1 s2 P1=>?_⟩));have a2:=s1.trans s2;refine Af (Hb (AO rfl (L_ (AO rfl ⟨p,l,3,i,b,rfl,Pp.same a2,∅,I,G,⋯,λg L2 J s3 P2 G2 a3 e2=>?_⟩))));refine L_ ⟨g,L2,3,b,rfl,P2,∅,∅,G2,⋯,λr3 L3 H3 u P3 G3 Fw e3=>?_⟩
  have l3:L3.length<=15:=by
   rw [Fw];split
   ·omega
   ·omega
  have xl:(xt i).length=i+1:=by unfold xt;rw [Cq,Dr];rfl
  have M:=s3.trans u;refine HA (P1.same M) P3 (qO i) G3 ⋯ ⋯ ∅ ⋯ λr4 R H4 N P4 G4 ac e4=>?_;have O:=(s2.trans M).trans N;refine ⟨I,s1.trans O,by rw [Cq,ly];rfl,λj am=>?_⟩;rcases Av j i with c | c
  ·obtain ⟨r,hr,pr⟩:=B j c;exact ⟨r,by rw [FU ⋯];exact hr,pr.same O⟩
  ·have:j=i:=by omega
   subst this;refine ⟨r4,by rw [EB ⋯,ly,Nat.sub_self];rfl,R,P4,G4.mono ⋯ ⋯,⋯,?_⟩;rw [e4,LG,e3,e2];rfl
 ·rintro v H1 ⟨_,s1,ly,B⟩ w hw;obtain ⟨q,q0,P⟩:=B 0 ∅;obtain ⟨m,q1,S⟩:=B 1 ∅;obtain ⟨g,q2,T⟩:=B 2 ∅
  have ey:v=[.ref q,.ref m,.ref g]:=by
   match v,ly with
   | [x,y,z],_=>
     obtain rfl:x=.ref q:=kH q0;obtain rfl:y=.ref m:=kH q1;obtain rfl:z=.ref g:=kH q2;rfl
  subst ey;have sw:=AQ hw (.lst [.ref q,.ref m,.ref g]);show Sj K _ [some (.ref p),some (.ref w),none,none] _;refine BC ⟨sz ∅,λU a4=>?_⟩;have W:=AQ a4 (.tup []);have Z:=W _ _ (upd_same (H:=H1) (a:=w) (o:=HO.lst [V.ref q,V.ref m,V.ref g]));have s3:=(s1.trans sw).trans W;have P:=P.same (sw.trans W);have S:=S.same (sw.trans W);have T:=T.same (sw.trans W);show Si K _ [some (.ref p),some (.ref w),some (.ref U),none] _;have a0:upd (upd H1 w (.lst [.ref q,.ref m,.ref g])) U (.tup []) U=some (HO.tup []):=upd_same;generalize upd (upd H1 w (.lst [.ref q,.ref m,.ref g])) U (.tup [])=J at Z s3 P S T a0 ⊢;refine N3 ⟨3,rfl,∅,∅,ForR.by (n:=3) (λi σ f=>i<=3/\∃ (c:Addr) (F:d7) (L:dl),σ=[some (.ref p),some (.ref w),some (.ref c),L]/\Same J f/\Pl f c F/\Gq (3101*2 ^ i - 1) (3101*2 ^ i - 1) F/\F.length<=60/\sr F=Sr.sm (λj=>pc (sr l) j*(pc (sr l) j+Sr.num (-1)*pc (sr l) ((j+2) % 3))) i) ⟨∅,U,[],none,rfl,Same.refl J,⟨[],a0,trivial⟩,(VA 0).mono ∅ ∅,∅,Gz⟩ ?_ ?_⟩
  ·rintro i σ H3 I ⟨_,c,F,L,rfl,u,PF,GF,lF,eF⟩;rw [Int.zero_add];have C:=u _ _ Z
   have go:∀ (ra rb:Addr),N_ [V.ref q,V.ref m,V.ref g] (i:Int)=some (.ref ra)->N_ [V.ref q,V.ref m,V.ref g] ((i:Int) - 1)=some (.ref rb)->PcAt J ra (sr l) i->PcAt J rb (sr l) ((i+2) % 3)->(AH 3) (.int (i:Int)) [some (.ref p),some (.ref w),some (.ref c),L] H3 (λa6 ab=>(AM (AE (JF K) [] E0 (AA (AB 2) (AA (AE (Cp K) [] E0 (AA (A_ gL (AB 1) (AB 3)) (AA (AE (Kf K) [] E0 (AA (A_ gL (AB 1) (AB 3)) (AA (A_ gL (AB 1) (A_ BA (AB 3) (tC (.int 1)))) AC))) AC))) AC))) (AH 2)) { nx:=λσ f=>i+1<=3/\∃ (c:Addr) (F:d7) (L:dl),σ=[some (.ref p),some (.ref w),some (.ref c),L]/\Same J f/\Pl f c F/\Gq (3101*2 ^ (i+1) - 1) (3101*2 ^ (i+1) - 1) F/\F.length<=60/\sr F=Sr.sm (λj=>pc (sr l) j*(pc (sr l) j+Sr.num (-1)*pc (sr l) ((j+2) % 3))) (i+1),rt:=Q } a6 ab):=λra rb ha hb pa pb=>by
    obtain ⟨X,PX,GX,lX,eX⟩:=pa.same u;obtain ⟨Y,PY,GY,lY,eY⟩:=pb.same u;refine KK (Ip (Af (AO rfl (Af (A6 (AO rfl (AO rfl (KJ C ha (Af (A6 (AO rfl (AO rfl (KJ C ha (A6 (AO rfl (A6 (AO rfl (L_ ⟨_,_,rfl,rfl,KJ C hb ?_⟩))))))))))))))))));refine VD PX PY GX GY ⋯ ⋯ ∅ λr5 R5 H5 N P5 G5 ad e5=>?_;refine HA (PX.same N) P5 GX G5 ⋯ ⋯ ∅ ∅ λr6 R6 H6 s6 P6 G6 aj e6=>?_;have pw:1<=2 ^ i:=Nat.one_le_two_pow;have an:2 ^ i<=4:=Ed (n:=2) (j:=2) ∅ ⋯;refine VD (PF.same (N.trans s6)) P6 GF (G6.mono ⋯ ⋯) ⋯ ⋯ ⋯ λr7 R7 H7 s7 P7 G7 al e7=>⟨I,r7,R7,_,rfl,((u.trans N).trans s6).trans s7,P7,G7.mono ?_ ?_,⋯,?_⟩
    ·rw [CV];omega
    ·rw [CV];omega
    ·rw [e7,eF,e6,e5,eX,eY,Sr.num_one];show _+1*_=Sr.sm _ i+_;ext
   have h3:i=0\/i=1\/i=2:=by omega
   rcases h3 with rfl | rfl | rfl
   ·exact go q g rfl rfl P T
   ·exact go m q rfl rfl S P
   ·exact go g m rfl rfl T S
  ·rintro σ H3 ⟨_,c,F,L,rfl,u,PF,GF,lF,eF⟩;show Sg K _ _ _;refine Bt (AO rfl (k c F H3 (s3.trans u) PF ?_));have x0:Sr.X 0=(1:Sr):=Sr.ext' λk=>by rw [show Sr.X 0=Sr.X 0*1 by ext,Sr.X_mul,kA (Ae _),DJ]
   have e0:pc (sr l) 0=Sr.cm (Sr.X 3) (Sr.st 3 0 (sr l)):=by unfold pc;rw [x0];ext
   have D:sr F=pc (sr l) 0*pc (sr l) 0+pc (sr l) 1*pc (sr l) 1+pc (sr l) 2*pc (sr l) 2 - pc (sr l) 0*pc (sr l) 1 - pc (sr l) 0*pc (sr l) 2 - pc (sr l) 1*pc (sr l) 2:=by
    rw [eF];show 0+pc (sr l) 0*(pc (sr l) 0+Sr.num (-1)*pc (sr l) 2)+pc (sr l) 1*(pc (sr l) 1+Sr.num (-1)*pc (sr l) 0)+pc (sr l) 2*(pc (sr l) 2+Sr.num (-1)*pc (sr l) 1)=_;rw [Sr.n_1];ext
   have F0:F≠[]:=λz=>by
    have:=Sr.roots3_ne (AW l) (Bu G.low G.nz l0) _ _ _ e0 (rfl:pc (sr l) 1=_) (rfl:pc (sr l) 2=_);rw [<-D,z,Gz] at this;exact this rfl
   have qq:∀ d A k,Qc d A k (sr l)->l.length<=k->Qc (oC 3 d) (oA 3 A) (2*(k - 1)+1) (sr F):=λd A k hq lk=>by
    obtain ⟨a1,j⟩:=hq;have lp:=BI.mpr l0
    have pj:∀ i,i<3->Iz A k (Sr.num d*pc (sr l) i):=λi I=>by
     have:=j.msk (n:=3) ∅ I;rw [Sr.st_num,Sr.cm_mul _ (Sr.Pol.num _) (Sr.st_pol ∅ (AW l)),Sr.cm_num] at this;unfold pc;rw [show Sr.num d*(Sr.X i*Sr.cm (Sr.X 3) (Sr.st 3 i (sr l)))=Sr.X i*(Sr.num d*Sr.cm (Sr.X 3) (Sr.st 3 i (sr l))) by grind];exact this
    have t:∀ i i',i<3->i'<3->Iz (A*(A+A)) (2*(k - 1)+1) (Sr.num d*pc (sr l) i*(Sr.num d*pc (sr l) i - Sr.num d*pc (sr l) i')):=λi i' h1 h2=>((pj i h1).mul ⋯ ((pj i h1).sub (pj i' h2))).mono (AT _) ⋯;refine ⟨λz=>(Cg.mp (show d*d=0 from z)).elim a1 a1,?_⟩;show Iz _ _ (Sr.num (d*d)*sr F);have:=((t 0 2 ∅ ∅).add (t 1 0 ∅ ∅)).add (t 2 1 ∅ ∅);rw [D,<-Sr.num_num];have e:Sr.num d*Sr.num d*(pc (sr l) 0*pc (sr l) 0+pc (sr l) 1*pc (sr l) 1+pc (sr l) 2*pc (sr l) 2 - pc (sr l) 0*pc (sr l) 1 - pc (sr l) 0*pc (sr l) 2 - pc (sr l) 1*pc (sr l) 2)=Sr.num d*pc (sr l) 0*(Sr.num d*pc (sr l) 0 - Sr.num d*pc (sr l) 2)+Sr.num d*pc (sr l) 1*(Sr.num d*pc (sr l) 1 - Sr.num d*pc (sr l) 0)+Sr.num d*pc (sr l) 2*(Sr.num d*pc (sr l) 2 - Sr.num d*pc (sr l) 1):=by ext
    rw [e];refine this.mono ?_ ⋯;show _<=(if (3:Nat)=2 then A else if (3:Nat)=3 then 6*(A*A) else A*(A*A));rw [lZ ∅,kA rfl,Nat.mul_add];omega
   obtain ⟨_,hh,ph,eh⟩:=Sr.roots3 (AW l) _ _ _ e0 (rfl:pc (sr l) 1=_) (rfl:pc (sr l) 2=_);exact ⟨GF.mono ∅ ∅,F0,(let ⟨_,h⟩:=VB G.low;(qq _ _ _ h (AT _)).qz.len GF.low GF.nz),⟨hh,ph,by rw [D];exact eh⟩,qq⟩
def qQ:val (-1,1) = -1:=by unfold val;show ((-1:Int):Rat) / ((1:Int):Rat) = -1;rw [show ((1:Int):Rat)=1 from rfl,show ((-1:Int):Rat) = -1 from rfl];ext
def OB {K:W.Frag} {H:Hp} {Q:VK} {E:XK} {p e:Addr} {l:d7} {b:Nat} (c:Pl H p l) (d:H e=some (.tup [.int (-1),.int 1])) (G:Gq b b l) (ll:l.length<=40) (f:b<=60000)
  (k:∀ r L a,Same H a->Pl a r L->Gq (b+42) (b+42) L->L.length=l.length->sr L=Sr.tn (sr l)->Q (.ref r) a):FM K [.ref p,.ref e] H Q E:=
 ⟨p,e,l,-1,1,b,1,rfl,c,d,⟨∅,∅⟩,∅,∅,∅,∅,G,ll,f,λr L a s P g len h=>k r L a s P (g.mono ⋯ ⋯) len (by rw [h,qQ])⟩
def qU:Iz 1 2 (Sr.num (-1)*Sr.X 1):=(IH 1).smul (-1)
def qV (h:Mr K vs H Q E):wR K { nx:=λ_ w=>Q .non w,rt:=Q } (L2.start ["Q","n","turned","squares"] vs) H:=by
 obtain ⟨p,l,n,b,rfl,o,n2,n4,G,x,b9,l9,k⟩:=h;have lp:=BI.mpr x;have y:∀ {c:Rat} {A k:Nat} {f:Sr},Sr.Pol f->1<=k->Qc c A k f->Qc c A k (Sr.tn f):=λ{c A k f} pf k1 h=>(Qc.cm1 pf qU h k1).mono (AT _) ⋯;refine Gh (FK (A6 (AO rfl (L_ ⟨rfl,_,rfl,Ap (λc=>?_) (λc=>?_)⟩))))
 ·have q:n=2:=by have:=kC c;injection this with h;omega
  subst q;refine Bt (Af (AO rfl (CJ ⟨1,rfl,L_ ⟨Bi,λe1 B=>?_⟩⟩)));have d:=AQ B (.tup [.int (-1),.int 1]);refine OB (o.same d) upd_same G ⋯ ⋯ λr L w s PL GL len e=>k r L w (d.trans s) PL ⟨GL.mono ⋯ ⋯,BI.mp ⋯,⋯,⟨Sr.st 2 0 (sr l*Sr.tn (sr l)),Sr.st_pol ∅ ((AW l).mul (Sr.tn_pol (AW l))),by rw [e];exact Sr.roots2 (AW l)⟩,λc A k u lk=>?_⟩;rw [e];refine (show Qc c _ _ _ from y (AW l) ⋯ u).mono ?_ ⋯;show A<=(if (2:Nat)=2 then A else _);rw [kA rfl];exact AT _
 show Sf K _ [some (.ref p),some (.int (n:Int)),none,none] H;refine Gh (FK (A6 (AO rfl (L_ ⟨rfl,_,rfl,Ap (λC=>?_) (λC=>?_)⟩))))
 ·have D:n=3:=by have:=kC C;injection this with h;omega
  subst D;exact Bt (Ca (AO rfl ⟨p,l,b,rfl,o,G,x,b9,l9,k⟩))
 show Se K _ [some (.ref p),some (.int (n:Int)),none,none] H
 have e4:n=4:=by
  have h2:¬ n=2:=λz=>c (by rw [z];rfl);have h3:¬ n=3:=λz=>C (by rw [z];rfl);omega
 subst e4;refine BC (Af (AO rfl (CJ ⟨1,rfl,L_ ⟨Bi,λe1 B=>?_⟩⟩)));have d:=AQ B (.tup [.int (-1),.int 1]);refine OB (o.same d) upd_same G ⋯ ⋯ λR L2 H2 s2 S T F q=>?_;have g:=d.trans s2;show Sd K _ [some (.ref p),some (.int 4),some (.ref R),none] H2;refine BC (Hb (Af (AO rfl (AO rfl (HA (o.same g) S G T ⋯ ⋯ ⋯ ⋯ λr3 U H3 s3 P3 G3 Fw D=>?_)))));have I:Gq 2100 2100 U:=G3.mono ⋯ ⋯;refine L_ (L_ ⟨r3,U,2,0,2100,rfl,P3,∅,∅,I,⋯,λr4 L4 H4 s4 P4 G4 W e5=>?_⟩);have J:=s3.trans s4;show Sc K _ [some (.ref p),some (.int 4),some (.ref R),some (.ref r4)] H4;have l4:L4.length<=l.length:=by omega
 refine Bt (Af (AO rfl (Af (Af (AO rfl (CJ ⟨1,rfl,L_ ⟨Bi,λe6 h6=>?_⟩⟩))))));have X:=AQ h6 (.tup [.int (-1),.int 1]);refine OB (P4.same X) upd_same G4 ⋯ ∅ λr7 L7 H7 s7 P7 G7 Y e7=>?_;refine L_ ⟨r7,L7,2,_,rfl,P7,∅,∅,G7,⋯,λr8 L8 H8 s8 P8 G8 j e8=>?_⟩;have m:=((J.trans X).trans s7).trans s8
 have l8:L8.length<=20:=by
  rw [j];split <;> omega
 refine HA (S.same m) P8 T G8 ⋯ ⋯ ⋯ ∅ λr9 v H9 s9 P9 M Z e9=>?_;have N:=Sr.tn_pol (AW l);have a:Sr.Pol (Sr.st 2 0 (sr l*Sr.tn (sr l))):=Sr.st_pol ∅ ((AW l).mul N);have O:sr v=Sr.tn (sr l)*Sr.cm (Sr.X 2) (Sr.tn (Sr.st 2 0 (sr l*Sr.tn (sr l)))):=by rw [e9,q,e8,e7,e5,D,q]
 have R0:v≠[]:=λz=>by
  have l1:=Bu G.low G.nz x;have t1:=Sr.tn_ne (AW l) l1;have P:=Sr.roots2 (AW l);have s0:Sr.st 2 0 (sr l*Sr.tn (sr l))≠0:=λh=>Sr.ne_mul (AW l) N l1 t1 (by rw [P,h,Sr.cm_zero]);have:=Sr.ne_mul N (Sr.cm_pol (Sr.pXn 2) (Sr.tn_pol a)) t1 (Sr.cX_ne ∅ (Sr.tn_pol a) (Sr.tn_ne a s0));rw [<-O,z,Gz] at this;exact this rfl
 have qq:∀ c A k,Qc c A k (sr l)->l.length<=k->Qc (oC 4 c) (oA 4 A) (3*(k - 1)+1) (sr v):=λc A k u lk=>by
  have q1:=y (AW l) ⋯ u;have q2:=(u.mul ⋯ q1).st (n:=2) (i:=0) ∅ ∅;have q3:=y a ⋯ q2;have q4:=Qc.cm1 (Sr.tn_pol a) (IH 2) q3 ⋯;have q5:=q1.mul ⋯ q4;rw [O];refine (show Qc (oC 4 c) _ _ _ from q5).mono ?_ ⋯;show _<=(if (4:Nat)=2 then A else if (4:Nat)=3 then 6*(A*A) else A*(A*A));rw [lZ ∅,lZ ∅];exact AT _
 exact k r9 v H9 ((g.trans m).trans s9) P9 ⟨M.mono ⋯ ⋯,R0,(let ⟨_,h⟩:=VB G.low;(qq _ _ _ h (AT _)).qz.len M.low M.nz),⟨Sr.st 2 0 (Sr.st 2 0 (sr l*Sr.tn (sr l))*Sr.tn (Sr.st 2 0 (sr l*Sr.tn (sr l)))),Sr.st_pol ∅ (a.mul (Sr.tn_pol a)),by rw [O];exact Sr.roots4 (AW l)⟩,qq⟩
def KindAt.same {H c:Hp} {p d e:Addr} {n:Nat} {a b:Nu} (h:KindAt H p d e n a b) (s:Same H c):KindAt c p d e n a b:=
 { h with at':=s _ _ h.at',at1:=s _ _ h.at1,at2:=s _ _ h.at2 }
theorem FFs.length {H:Hp}:∀ {ps:dj} {L:List (d7×d7)},FFs H ps L->ps.length=L.length
 | [],[],_=>rfl
 | [],_::_,h=>h.elim
 | _::_,[],h=>h.elim
 | _::_,_::_,h=>congrArg Nat.succ (FFs.length h.2)
theorem FFs.same {H a:Hp} (s:Same H a):∀ {ps:dj} {L:List (d7×d7)},FFs H ps L->FFs a ps L
 | [],[],_=>trivial
 | [],_::_,h=>h.elim
 | _::_,[],h=>h.elim
 | _::_,_::_,h=>⟨let ⟨p,e,f⟩:=h.1;⟨p,e,f.same s⟩,FFs.same s h.2⟩
theorem FFs.get {H:Hp}:∀ {ps:dj} {L:List (d7×d7)} {i:Nat} {v:V},FFs H ps L->ps[i]?=some v->∃ p,v=.ref p/\FF H p (O_ L i) (F_ L i)
 | [],[],_,_,_,e=>nomatch e
 | [],_::_,_,_,h,_=>h.elim
 | _::_,[],_,_,h,_=>h.elim
 | _::_,_::_,0,_,h,e=>kH e ▸ h.1
 | _::_,_::_,i+1,_,h,e=>FFs.get (i:=i) h.2 e
theorem FFs.app {H:Hp}:∀ {ps a:dj} {L M:List (d7×d7)},FFs H ps L->FFs H a M->FFs H (ps++a) (L++M)
 | [],_,[],_,_,h=>h
 | [],_,_::_,_,h,_=>h.elim
 | _::_,_,[],_,h,_=>h.elim
 | _::_,_,_::_,_,h,b=>⟨h.1,FFs.app h.2 b⟩
def btL {n k:Nat} (h:n<2 ^ k) (a:1<=k):C' n<=k:=by
 unfold C';by_cases c:n=0
 ·rw [c,show Nat.log2 0=0 from by decide];omega
 ·have:=(Nat.log2_lt c).mpr h;omega
def OC {n:Nat} {z:Sz} (h:bH n z=true):Pk n z:=by
 unfold bH at h;simp only [Eg,decide_eq_true_eq,FV,Ec] at h;obtain ⟨⟨⟨⟨⟨⟨⟨⟨⟨⟨⟨a,b⟩,c⟩,d⟩,e⟩,f⟩,g⟩,i⟩,j⟩,k⟩,l⟩,m⟩:=h;exact ⟨a,b,c,d,e,f,g,i,j,k,l,λi o=>(m i o).1,λi o=>(m i o).2⟩
def Iz.cX {A k n:Nat} {f:Sr} (h:Iz A k f) (a:1<=k):Iz A (n*(k - 1)+1) (Sr.cm (Sr.X n) f):=by
 have b:Qc 1 A k f:=⟨∅,by rw [Sr.n1,show (1:Sr)*f=f by grind];exact h⟩;have:=(b.cm1 h.pol (IH n) a).2;rw [Sr.n1,show (1:Sr)*Sr.cm (Sr.X n) f=Sr.cm (Sr.X n) f by grind] at this;exact this
noncomputable def sN (n:Nat) (N:Nat->Sr) (i:Nat):Sr:=Sr.sm (λj=>Sr.X j*Sr.cm (Sr.X n) (N j)) i
theorem VE {A w n:Nat} {N:Nat->Sr} (a:1<=w):∀ i,(∀ j,j<i->Iz A w (N j))->Iz (i*A) (n*(w - 1)+1+i) (sN n N i)
 | 0,_=>LC _ _
 | i+1,h=>by
   have b:=VE (n:=n) a i λj d=>h j ⋯;have c:=(IH i).mul ⋯ ((h i ⋯).cX (n:=n) a);refine (b.add c).mono ?_ ⋯;rw [Cl];omega
theorem OD {n:Nat} {p q N:Nat->Sr} {E:Sr}:∀ i,(∀ j,j<i->p j*E=Sr.cm (Sr.X n) (N j)*q j)->Sr.jN p q i*E=sN n N i*Sr.jD q i
 | 0,_=>by show (0:Sr)*E=0*1;ext
 | i+1,h=>by
   have a:=OD i λj b=>h j ⋯;have e:=h i ⋯;show (Sr.jN p q i*q i+Sr.X i*p i*Sr.jD q i)*E=(sN n N i+Sr.X i*Sr.cm (Sr.X n) (N i))*(Sr.jD q i*q i);rw [show (Sr.jN p q i*q i+Sr.X i*p i*Sr.jD q i)*E=Sr.jN p q i*E*q i+Sr.X i*Sr.jD q i*(p i*E) by ext,a,e];ext
def qW {n i:Nat} {a b:Nu} {z:Sz} {L:List (d7×d7)} {X Y:d7} {c:Rat} {D:Sr} {N:Nat->Sr} (r:val a≠0) (n0:0<n) (u:Cb c) (v:D≠0) (g:Iz (pC n z) z.m D) (w:1<=z.m) (x:1<=pW n z)
  (f:∀ j,j<i->Lw (O_ L j) (F_ L j)/\Iz (pA n z) (pW n z) (N j)/\Sr.cm (xq (Sr.X n) a b) (sr (O_ L j))*(Sr.num c*Sr.cm (Sr.X n) D)=Sr.cm (Sr.X n) (N j)*Sr.cm (xq (Sr.X n) a b) (sr (F_ L j)))
  (y:Lw X Y) (J:Jn (xq (Sr.X n) a b) i L X Y):Sq c (zS n i z) X Y:=by
 have pu:=FR (Sr.pXn n) a b;have h:∀ l:d7,Sr.Pol (Sr.cm (xq (Sr.X n) a b) (sr l)):=λl=>Sr.cm_pol pu (AW l);have k:=VE (n:=n) x i λj d=>(f j d).2.1;have A:=Sr.cm_pol (Sr.pXn n) g.pol;refine Jg u y k (g.cX w) (Sr.cX_ne n0 g.pol v) (AT 1) ?_;have e:=OD (n:=n) (p:=λj=>Sr.cm (xq (Sr.X n) a b) (sr (O_ L j))) (q:=λj=>Sr.cm (xq (Sr.X n) a b) (sr (F_ L j))) (N:=N) (E:=Sr.num c*Sr.cm (Sr.X n) D) i λj d=>(f j d).2.2;have J:sr X*Sr.jD (λj=>Sr.cm (xq (Sr.X n) a b) (sr (F_ L j))) i=Sr.jN (λj=>Sr.cm (xq (Sr.X n) a b) (sr (O_ L j))) (λj=>Sr.cm (xq (Sr.X n) a b) (sr (F_ L j))) i*sr Y:=J;have B:=Sr.jD_pol (q:=λj=>Sr.cm (xq (Sr.X n) a b) (sr (F_ L j))) (λj=>h _) i;have C:=Sr.jD_ne (q:=λj=>Sr.cm (xq (Sr.X n) a b) (sr (F_ L j))) (λj=>h _) i λj d=>Np r n0 (AW _) (Bu (f j d).1.lb (f j d).1.nb (f j d).1.ne);generalize Sr.jD (λj=>Sr.cm (xq (Sr.X n) a b) (sr (F_ L j))) i=m at *;generalize Sr.jN (λj=>Sr.cm (xq (Sr.X n) a b) (sr (O_ L j))) (λj=>Sr.cm (xq (Sr.X n) a b) (sr (F_ L j))) i=o at *;refine Sr.cancel ((AW X).mul ((Sr.Pol.num c).mul A)) (k.pol.mul (AW Y)) B C ?_;rw [show sr X*(Sr.num c*Sr.cm (Sr.X n) D)*m=sr X*m*(Sr.num c*Sr.cm (Sr.X n) D) by ext,J,show o*sr Y*(Sr.num c*Sr.cm (Sr.X n) D)=o*(Sr.num c*Sr.cm (Sr.X n) D)*sr Y by ext,e];ext
def qX {K:W.Frag} {vs:dj} {H:Hp} {Q:VK} {E:XK} (g:NOk K) (h:Mt K vs H Q E):wO K { nx:=λ_ m=>Q .non m,rt:=Q } (L2.start ["kind","parts","g","i","part","bottom"] vs) H:=by
 obtain ⟨p,w,q1,q2,ps,n,a,b,L,z,rfl,o,hw,Fs,lL,⟨c,D,N,cb,D0,iD,hs⟩,po,k⟩:=h;obtain ⟨u0,v0,w0,g⟩:=g;have P:=OC po;obtain ⟨_,z2,z3,z4,z5⟩:=FS P.sm;have lp:=Fs.length;have n2:=o.n2;have n4:=o.n4;have va:=II o.la o.a0;have pu:=FR (Sr.pXn n) a b;have sub:∀ i,i<=n->∀ j,j<i->Lw (O_ L j) (F_ L j)/\Iz (pA n z) (pW n z) (N j)/\Sr.cm (xq (Sr.X n) a b) (sr (O_ L j))*(Sr.num c*Sr.cm (Sr.X n) D)=Sr.cm (Sr.X n) (N j)*Sr.cm (xq (Sr.X n) a b) (sr (F_ L j)):=λi q j hj=>let ⟨a,_,_,_,_,b,c,_⟩:=hs j ⋯;⟨a,b,c⟩;refine BC (L_ ?_);show SU K _ [some (.ref p),some (.ref w),some (.ref (Hg K)),none,none,none] H;refine U8 ⟨_,rfl,w,rfl,⟨_,SqT.of hw⟩,ForJ.enumT (xs:=ps) (λi S m=>i<=n/\∃ (c:Addr) (T B:d7) (U Z r:dl),S=[some (.ref p),some (.ref w),some (.ref c),U,Z,r]/\Same H m/\FFK K m c T B/\(i=0\/FF m c T B)/\Lw T B/\Jn (xq (Sr.X n) a b) i L T B) ⟨Ae _,Hg K,[],[(1,1)],none,none,none,rfl,Same.refl H,⟨u0,v0,[],[.ref w0],(g H).1,(g H).2.1,trivial,(g H).2.2.1,⟨w0,rfl,(g H).2.2.2⟩,trivial⟩,.inl rfl,lw1 (λ_ h=>nomatch h) (λ_ h=>nomatch h),by show sr []*1=0*sr _;rw [Gz];ext⟩ ?_ ?_ ?_⟩
 ·rintro i S m _ ⟨_,c,T,B,U,Z,r,_,y,_⟩;exact y _ _ hw
 ·rintro i x e S H1 hx ⟨_,A,T,B,U,Z,r,rfl,y,Fc,_,hT,C⟩ he;have q:i<n:=by have:=(Bw.mp hx).1;omega
  obtain ⟨f,rfl,F0⟩:=Fs.get hx;have se:=AQ he (.tup [.int (i:Int),.ref f]);have F:=y.trans se;obtain ⟨G,gt,gb,lt,lb,a0,a6,_⟩:=hs i q;refine ⟨e,_,rfl,upd_same,rfl,_,_,rfl,_,_,rfl,rfl,?_⟩;show SS K _ [some (.ref p),some (.ref w),some (.ref A),some (.int (i:Int)),some (.ref f),r] _;obtain ⟨u,v,hf,Pu,Pv⟩:=F0.same F;generalize upd H1 e (.tup [.int (i:Int),.ref f])=H2 at se F hf Pu Pv ⊢;refine BC (Af (AO rfl (A9 rfl hf rfl ⟨p,v,q1,q2,n,6000,a,b,_,rfl,o.same F,Pv,gb,∅,lb,λr1 L1 H3 s3 P1 I Cj e1=>?_⟩)));show SR K _ [some (.ref p),some (.ref w),some (.ref A),some (.int (i:Int)),some (.ref f),some (.ref r1)] H3;refine Ip (Af (AO rfl (Af (Ca (Ca (AO rfl ⟨i,rfl,⋯,λr2 H4 s4 P2=>⟨_,rfl,λr3 w3 H5 s5 h5 P5=>?_⟩⟩))))));have F5:FF H5 r3 (xt i) [(1,1)]:=⟨r2,w3,h5,P2.same s5,P5⟩;have d:=(s3.trans s4).trans s5;refine Af (Af (AO rfl (A9 rfl (d _ _ hf) rfl ⟨p,u,q1,q2,n,6000,a,b,_,rfl,o.same (F.trans d),Pu.same d,gt,∅,lt,λr6 L6 H6 s6 P6 G6 J e6=>AO rfl ?_⟩)))
  have B0:L1≠[]:=λz=>by
   rw [z,lZ G.ne] at Cj;cases Cj
  have l1:L1.length<=100:=by
   rw [Cj];have:n*((F_ L i).length - 1)<=4*7:=B4 n4 ⋯;split <;> omega
  have l6:L6.length<=100:=by
   rw [J];have:n*((O_ L i).length - 1)<=4*7:=B4 n4 ⋯;split <;> omega
  refine ⟨r6,r1,L6,L1,rfl,P6,P1.same ((s4.trans s5).trans s6),G6.low,I.low,I.nz,B0,G6.bds ∅,I.bds ∅,⋯,⋯,λM fl fv t u' v' H7 s7 ht hu hv=>?_⟩;have cs:Sr.Cs (sr L6) (sr L1):=by rw [e6,e1];exact G.cs.cm pu (AW _) (AW _)
  obtain ⟨lw,qT,qB⟩:=U9 G6.low I.low G6.nz I.nz B0 fl fv cs
  have Sx:Sq c ⟨pA n z,n*(pW n z - 1)+1,pC n z,n*(z.m - 1)+1,1⟩ _ _:=Jg (z:=⟨pA n z,n*(pW n z - 1)+1,pC n z,n*(z.m - 1)+1,1⟩) cb lw (a0.cX (n:=n) P.w1) (iD.cX (n:=n) z3) (Sr.cX_ne ⋯ iD.pol D0) (AT 1) (by
   rw [qT,qB,e6,e1,show Sr.num (val M)*Sr.cm (xq (Sr.X n) a b) (sr (O_ L i))*(Sr.num c*Sr.cm (Sr.X n) D)=Sr.num (val M)*(Sr.cm (xq (Sr.X n) a b) (sr (O_ L i))*(Sr.num c*Sr.cm (Sr.X n) D)) by ext,a6];ext)
  have F7:FF H7 t _ _:=⟨u',v',ht,hu,hv⟩;have O:=s6.trans s7;refine rM (F5.same O) F7 (rW i) Sx (by rw [Rat.one_mul];exact cb) (P.oM i q) λt2 H8 X2 Y2 s8 F8 S8 e8=>?_;rw [Rat.one_mul] at S8
  have ez:(⟨1,i+1,1,1,1⟩:Sz).mu ⟨pA n z,n*(pW n z - 1)+1,pC n z,n*(z.m - 1)+1,1⟩=zY n i z:=by
   show Sz.mk (1*pA n z) (i+1+(n*(pW n z - 1)+1) - 1) (1*pC n z) (1+(n*(z.m - 1)+1) - 1) (1*1)=Sz.mk (pA n z) (n*(pW n z - 1)+1+i) (pC n z) (n*(z.m - 1)+1) 1;rw [Nat.one_mul,Nat.one_mul,show i+1+(n*(pW n z - 1)+1) - 1=n*(pW n z - 1)+1+i by omega,show 1+(n*(z.m - 1)+1) - 1=n*(z.m - 1)+1 by omega]
  rw [ez] at S8;have R:=(d.trans O).trans s8
  have ab:FFK K H8 A T B:=by
   obtain ⟨a1,a2,a3,a4,h1,h2,h3,h4,h5⟩:=Fc;have s:=se.trans R;exact ⟨a1,a2,a3,a4,s.sqT h1,s.sqT h2,h3.same s,s.sqT h4,h5.same s⟩
  have hS:=qW (z:=z) va ⋯ cb D0 iD z3 P.w1 (sub i ⋯) hT C;refine rL ab F8 hS S8 (P.oS i q) λt3 H9 X Y s9 F9 l9 e9=>⟨q,t3,X,Y,_,_,_,rfl,(F.trans R).trans s9,FFK.of F9,.inr F9,l9,?_⟩;have f0:val M≠0:=λz=>by rw [z] at fv;ext
  have ad:=Sr.num_inv f0
  have ac:sr X2*Sr.cm (xq (Sr.X n) a b) (sr (F_ L i))=Sr.X i*Sr.cm (xq (Sr.X n) a b) (sr (O_ L i))*sr Y2:=by
   rw [NY,LG,qT,qB,e6,e1] at e8;have h1:sr X2*Sr.cm (xq (Sr.X n) a b) (sr (F_ L i))=Sr.num (val M)⁻¹*(sr X2*(1*(Sr.num (val M)*Sr.cm (xq (Sr.X n) a b) (sr (F_ L i))))):=by ext
   rw [h1,e8];ext
  have pq:∀ j,Sr.Pol (Sr.cm (xq (Sr.X n) a b) (sr (F_ L j))):=λj=>Sr.cm_pol pu (AW _);have pp:∀ j,Sr.Pol (Sr.cm (xq (Sr.X n) a b) (sr (O_ L j))):=λj=>Sr.cm_pol pu (AW _);have:=rH (s:=1) l9 hT S8.lw (Sr.jN_pol pp pq i) (Sr.jD_pol pq i) ((Sr.pXn i).mul (pp i)) (pq i) C ac (by rw [e9,Sr.num_one];ext);rw [Sr.num_one] at this;show sr X*(Sr.jD _ i*_)=(Sr.jN _ _ i*_+_)*sr Y;rw [this];ext
 ·rintro S H1 ⟨_,A,T,B,U,Z,r,rfl,y,_,hF,hT,C⟩;have e:ps.length=n:=by omega
  rw [e] at hF C;show ST K _ _ _;exact Bt (AO rfl (k A T B H1 y (hF.resolve_left ⋯) hT C))
def Iz.cut {A k n:Nat} {f:Sr} (h:Iz A k f) (b:∀ j,n<=j->f.c j=0):Iz A n f:=by
 obtain ⟨X,rfl,a,l⟩:=h
 have d:∀ (X:dq) (n:Nat),L1 (X.take n)<=L1 X:=λX=>by
  induction X with
  | nil=>intro n;rw [List.take_nil];exact AT _
  | cons x X e=>
    intro n;cases n with
    | zero=>exact Ae _
    | succ n=>have:=e n;show x.natAbs+L1 (X.take n)<=x.natAbs+L1 X;omega
 refine ⟨X.take n,Sr.ext' λj=>?_,A7 (d X n) a,by rw [Cd];omega⟩;show ((co (X.take n) j:Int):Rat)=((co X j:Int):Rat);rcases Av j n with c | c
 ·unfold co;rw [AU,AU,List.getElem?_take,kA c]
 ·rw [Ah (by rw [Cd];omega)];exact (b j c).symm
def Qz.cut {A k n:Nat} {l:d7} (h:Qz A k (sr l)) (b:l.length<=n):Qz A n (sr l):=by
 obtain ⟨c,a,j⟩:=h;exact ⟨c,a,j.cut λi d=>by rw [Sr.num_mul,show (sr l).c i=0 from BN ⋯];ext⟩
def qY {n:Nat} (n0:0<n) {f h:Sr} (g:Sr.Pol f) (k:Sr.Pol h) (d:∀ i,i<n->∃ Y,Sr.Pol Y/\Sr.st n i f=Y*h):∃ Y,Sr.Pol Y/\f=Y*Sr.cm (Sr.X n) h:=by
 have a:∀ m,m<=n->∃ Y,Sr.Pol Y/\Sr.sm (λj=>Sr.X j*Sr.cm (Sr.X n) (Sr.st n j f)) m=Y*Sr.cm (Sr.X n) h:=λm=>by
  induction m with
  | zero=>intro _;exact ⟨0,Sr.Pol.nat 0,by show (0:Sr)=_;ext⟩
  | succ m o=>
    intro r;obtain ⟨Y,b,p⟩:=o ⋯;obtain ⟨Z,c,q⟩:=d m ⋯;refine ⟨Y+Sr.X m*Sr.cm (Sr.X n) Z,b.add ((Sr.pXn m).mul (Sr.cm_pol (Sr.pXn n) c)),?_⟩;show Sr.sm _ m+Sr.X m*Sr.cm (Sr.X n) (Sr.st n m f)=_;rw [p,q,Sr.cm_mul _ c k];ext
 obtain ⟨Y,b,e⟩:=a n (AT _);exact ⟨Y,b,(Sr.parts_all n0 g).trans e⟩
def Qc.cut {c:Rat} {A k n:Nat} {l:d7} (h:Qc c A k (sr l)) (a:l.length<=n):Qc c A n (sr l):=⟨h.1,h.2.cut λi b=>by rw [Sr.num_mul,show (sr l).c i=0 from BN ⋯];ext⟩
def qZ (x y z:Sr):x*(y*z)=x*y*z:=by ext
def pE (x y z w:Sr):x*y*(z*w)=z*(x*w)*y:=by ext
def pH (x y z w:Sr):x*(y*(z*w))=x*z*(y*w):=by ext
def pI (n:Nat) {c:Rat} (h:c≠0):oC n c≠0:=by
 unfold oC;have a:c*c≠0:=λz=>(Cg.mp z).elim h h;split
 ·exact h
 ·split
  ·exact a
  ·exact λz=>(Cg.mp z).elim h a
def LH {x:Int} {A k:Nat} (h:x.natAbs<=A) (a:A<2 ^ k):Bd k x:=DI h a
def Sq.rowZ {z:Sz} {T B:d7} (h:Sq 1 z T B) (n:z.n<=9) (c:T.length<=z.n):∃ p q:Int,p≠0/\q≠0/\Bd (C' z.C+C' z.k) p/\Bd (C' z.A) q/\Qc ((p:Rat) / (q:Rat)) (z.n*2 ^ (C' z.A+z.n*12)) z.n (sr T):=by
 by_cases b:T=[]
 ·refine ⟨1,1,∅,∅,?_,?_,?_,?_⟩
  ·show 1<2 ^ _;exact Nat.one_lt_two_pow (by unfold C';omega)
  ·show 1<2 ^ _;exact Nat.one_lt_two_pow (by unfold C';omega)
  ·rw [show ((1:Int):Rat)=1 from rfl];ext
  ·rw [b,Gz,show ∀ a:Sr,a*0=0 from λa=>by grind];exact LC _ _
 ·obtain ⟨p,q,d,f,g,i,j⟩:=h.rowT (e:=4) (show z.n<2 ^ 4 by omega) b c;refine ⟨p,q,d,f,LH g ?_,LH i (D6 _),j⟩;rw [C3,B6];have k:=D6 z.C;have m:=D6 z.k;have o:z.C*z.k<=z.C*2 ^ C' z.k:=CM _ (CU m);have r:z.C*2 ^ C' z.k<2 ^ C' z.C*2 ^ C' z.k:=Nat.mul_lt_mul_of_pos_right k (Nat.pow_pos ∅);omega
abbrev pKi (n:Nat) (z:Sz) (N:Nat->Sr) (a b:Nu) (c:Rat) (D:Sr):List (d7×d7)->Nat->Prop:=λL i=>Lw (O_ L i) (F_ L i)/\Gq 6000 6000 (O_ L i)/\Gq 6000 6000 (F_ L i)/\(O_ L i).length<=8/\(F_ L i).length<=8/\Iz (pA n z) (pW n z) (N i)/\Sr.cm (xq (Sr.X n) a b) (sr (O_ L i))*(Sr.num c*Sr.cm (Sr.X n) D)=Sr.cm (Sr.X n) (N i)*Sr.cm (xq (Sr.X n) a b) (sr (F_ L i))/\∃ c',Sq c' (zX n z) (O_ L i) (F_ L i)
def pK (h:Km K vs H Q E):wP K { nx:=λ_ M=>Q .non M,rt:=Q } (L2.start ["kind","g","n","kept","rest","beside","bottom","top"] vs) H:=by
 obtain ⟨p,w,q1,q2,n,a,b,T,B,z,rfl,o,⟨u,v,hw,Pu,Pv⟩,hq,po,k⟩:=h;have n2:=o.n2;have n4:=o.n4;have P:=OC po;have sm:=P.sm;have zn:=P.n9;have zm:=P.m8;have xC:=P.xC;obtain ⟨s1,s2,s3,s4,s5⟩:=FS sm;obtain ⟨gT,gB,lT,lB⟩:=hq.all sm;have C:=hq.lw;have FB:=hq.fBe (e:=4) (show z.m<2 ^ 4 by omega);have FB:Fp (C' z.C+z.m*12) (AL B):=FB
 have bz:C' z.C+z.m*12+2<=300:=by
  have:z.xC=C' z.C+z.m*14:=rfl;omega
 obtain ⟨xB,a3⟩:∃ xB,xB=C' z.C+z.m*12:=⟨_,rfl⟩;rw [<-a3] at FB bz;have qB:Qz (z.m*2 ^ xB) z.m (sr B):=No FB C.lb C.nb C.ne C.lb (Sr.Pol.nat 1) () lB
 have b1:z.m*2 ^ xB<2 ^ (xB+4):=by
  rw [C3,B6];exact Nat.mul_lt_mul_of_pos_left ⋯ (Nat.pow_pos ∅)
 have c0:=btL b1 ⋯;obtain ⟨O,a0⟩:∃ O,O=z.m*2 ^ xB:=⟨_,rfl⟩;rw [<-a0] at qB b1 c0;refine BC (A9 rfl o.at' rfl ?_);show Sb K _ [some (.ref p),some (.ref w),some (.int (n:Int)),none,none,none,none,none] H;have c1:(412+6)*(2*z.m)<=44490:=by omega
 refine BC (Af (A9 rfl hw rfl (AO rfl ⟨v,B,n,O,10960,412,z.m,rfl,Pv,n2,n4,gB,C.ne,∅,qB,lB,s3,⋯,⋯,c1,λr1 kp H1 t1 P1 G1 k0 lk one dv=>?_⟩)));show Sa K _ [some (.ref p),some (.ref w),some (.int (n:Int)),some (.ref r1),none,none,none,none] H1;have dk:=BI.mpr k0;refine BC (Af (A9 rfl (t1 _ _ hw) rfl (Af (AO rfl (AO rfl ⟨r1,kp,n,412,rfl,P1,n2,n4,G1,⋯,λr2 SP H2 t2 P2 G2 I e2=>?_⟩)))));rw [lZ k0] at I;obtain ⟨Yd,c2,b5⟩:=qY (n:=n) ⋯ (AW B) (AW kp) dv;rw [<-e2] at b5;have aj:SP≠[]:=BI.mp ⋯;have c3:=t1.trans t2;obtain ⟨zv,hv,nv⟩:=Pv.same c3;obtain ⟨z2,h2,c4⟩:=P2;have dm:n*(kp.length - 1)<=4*8:=B4 n4 ⋯;refine ⟨v,r2,zv,z2,B,SP,10960,10960,412,412,rfl,SqT.of hv,h2,NuK.of nv,c4,gB,G2,aj,⋯,⋯,?_,?_,∅,∅,K9 c2 b5,λr3 R H3 t3 P3 J am dd eR=>?_⟩
 ·have:(B.length+1 - SP.length)*412<=10*412:=Bk _ ⋯;omega
 ·have:(B.length+1 - SP.length)*(412+1)<=10*413:=Bk _ ⋯;omega
 have R0:R≠[]:=λz=>by
  have:=eR (B.length - 1);rw [z] at this;exact DG C.lb C.nb C.ne this
 obtain ⟨de,b6,_⟩:=JV C.lb C.nb J am R0 G2.low G2.nz aj eR;have R1:=BI.mpr R0;have eB:sr B=sr R*sr SP:=Dp eR
 have b7:B_ SP (SP.length - 1)=1:=by
  have:=kJ (congrArg Sr.c e2) (SP.length - 1);rw [Sr.sp_c ⋯ (AW kp),I,E2,Nat.mul_mod_right,kA rfl,Nat.mul_div_cancel_left _ ⋯] at this;rw [I,E2];exact this.trans (D5 one)
 have ab:AZ R (R.length - 1)=(1,1):=JW J (by rw [D5 C.one,b7] at b6;ext);have qR:Qz O z.m (sr R):=by rw [a0];exact No FB J am R0 C.lb (AW SP) (by rw [eB];ext) ⋯
 have c5:Qz O z.m (sr SP):=by rw [a0];exact No FB G2.low G2.nz aj C.lb (AW R) eB ⋯
 have x0:Sr.X 0=(1:Sr):=Sr.ext' λk=>by rw [show Sr.X 0=Sr.X 0*1 by ext,Sr.X_mul,kA (Ae _),DJ]
 have b8:∀ {f:Sr},Sr.Pol f->Sr.st n 0 (Sr.cm (Sr.X n) f)=f:=λ{f} pf=>by
  have h1:=Sr.st_sp (i:=0) (n:=n) ⋯ ⋯ 1 pf;have s1:=Sr.st_one (n:=n) (i:=0) (j:=0) ⋯ ⋯ ⋯;rw [kA rfl,x0] at s1;rw [show (1:Sr)*Sr.cm (Sr.X n) f=Sr.cm (Sr.X n) f by ext,s1] at h1;rw [h1];ext
 have qK:Qz O z.m (sr kp):=by
  have:=(c5.st (n:=n) (i:=0) ⋯ ⋯);rw [e2,b8 (AW kp)] at this;exact this.cut ⋯
 have gR:Gq 904 904 R:=(qR.gq b1 J am R0 ab).mono ⋯ ⋯;have nk:kp.length - 1<=n*(kp.length - 1):=HE _ ⋯;show SZ K _ [some (.ref p),some (.ref w),some (.int (n:Int)),some (.ref r1),some (.ref r3),none,none,none] H3;refine BC (Af (AO rfl (AO rfl ⟨r3,R,n,904,rfl,P3,n2,n4,gR,R0,∅,⋯,λr4 S H4 t4 P4 ⟨gS,S0,lS,⟨hh,ph,eh⟩,c6⟩=>?_⟩)));obtain ⟨cR,an,c7,b9⟩:=qR.whole ab;obtain ⟨U,ba,c8,c9⟩:=qK.whole one;have qS:=c6 cR O z.m b9 ⋯;have mS:(n - 1)*(R.length - 1)<=(n - 1)*(z.m - 1):=CM _ ⋯;have dp:(n - 1)*(z.m - 1)<=3*8:=B4 ⋯ ⋯
 have dr:n*(R.length - 1)=(R.length - 1)+(n - 1)*(R.length - 1):=by
  rw [show n=1+(n - 1) by omega,Cl];simp
 show SY K _ [some (.ref p),some (.ref w),some (.int (n:Int)),some (.ref r1),some (.ref r3),some (.ref r4),none,none] H4;have cc:=t3.trans t4;refine BC (Af (AO rfl (Hb (Af (AO rfl (AO rfl (HA (P3.same t4) P4 gR gS ⋯ ⋯ ∅ ∅ λr5 R5 H5 t5 P5 G5 df e5=>?_)))))));refine AO rfl (L_ ⟨r5,R5,n,0,61000,rfl,P5,n2,⋯,G5.mono ⋯ ⋯,⋯,λr6 hl H6 t6 P6 G6 dg e6=>?_⟩);have cd:sr hl=hh:=by rw [e6,e5,eh,b8 ph]
 have bb:=((t2.trans cc).trans t5).trans t6
 have ds:hl.length<=R.length:=by
  have h1:n*hl.length<=n*R.length:=by
   have:n*R.length=n*(R.length - 1)+n:=by rw [show R.length=(R.length - 1)+1 by omega,Nat.mul_succ,E2]
   omega
  exact Nat.le_of_mul_le_mul_left h1 ⋯
 refine HA (P1.same bb) P6 G1 G6 ⋯ ⋯ ∅ ∅ λr7 Z H7 t7 P7 G7 dh e7=>?_;show SW K _ [some (.ref p),some (.ref w),some (.int (n:Int)),some (.ref r1),some (.ref r3),some (.ref r4),some (.ref r7),none] H7;have ce:=(t5.trans t6).trans t7;have ao:=(t1.trans bb).trans t7;refine BC (Af (A9 rfl (ao _ _ hw) rfl (AO rfl (HA (Pu.same ao) (P4.same ce) gT gS ⋯ ⋯ ∅ ∅ λr8 tp H8 t8 P8 G8 di e8=>?_))));show SV K _ [some (.ref p),some (.ref w),some (.int (n:Int)),some (.ref r1),some (.ref r3),some (.ref r4),some (.ref r7),some (.ref r8)] H8;have bc:=ao.trans t8
 have bd:sr B*sr S=Sr.cm (Sr.X n) (sr Z):=by
  rw [e7,cd,Sr.cm_mul _ (AW kp) ph,<-eh,<-e2,eB];ext
 have Bn:=Bu C.lb C.nb C.ne
 have ar:Z≠[]:=λz=>by
  have:=Sr.ne_mul (AW B) (AW S) Bn (Bu gS.low gS.nz S0);rw [bd,z,Gz,Sr.cm_zero] at this;exact this rfl
 have bf:Z.length<=z.m:=by omega
 have ch:=Bu G7.low G7.nz ar;have va:=II o.la o.a0;have pu:=FR (Sr.pXn n) a b;have oc:=pI n (AY an)
 have az:Qc ((U:Rat)*((cR:Rat)*oC n (cR:Rat))) (pC n z) z.m (sr Z):=by
  have q1:=(b9.mul ⋯ qS).st (n:=n) (i:=0) ⋯ ⋯;rw [<-e5,<-e6] at q1;have q2:=c9.mul (m:=hl.length+1) ⋯ (q1.cut (n:=hl.length+1) ⋯);rw [<-e7] at q2;have e:pC n z=O*(O*oA n O):=by unfold pC;rw [a0,a3]
  rw [e];exact q2.cut bf
 obtain ⟨G,g,bg,bi,bp,bq,qT⟩:=hq.rowZ zn lT;have lu:=P.lu;obtain ⟨W,hW⟩:∃ W,W=pW n z:=⟨_,rfl⟩;have W8:=P.w8;have W1:=P.w1;rw [<-hW] at lu W8 W1;have ci:C0 (max (C' (pA n z)+W*12) (C' (pC n z)+z.m*12)) W z.m 4:=⟨W1,s3,⋯,⋯,⋯,⋯,∅,lu⟩;have ck:=(az.qz.fp (e:=4) (D6 _) ⋯ G7.low G7.nz ar).mono (Nat.le_max_right (C' (pA n z)+W*12) _)
 have bm:∀ i m:Nat,n*m<=tp.length+(n - 1) - i->m<=W:=λi m h=>by
  rw [hW];unfold pW;refine (Nat.le_div_iff_mul_le ⋯).mpr ?_;rw [B6];omega
 have a4:=qT.mul ⋯ qS;rw [<-e8] at a4;have eA:z.n*2 ^ (C' z.A+z.n*12)*oA n O=pA n z:=by unfold pA;rw [a0,a3]
 rw [eA] at a4;have cl:(G:Rat) / (g:Rat)*oC n (cR:Rat)≠0:=a4.1;have cn:(U:Rat)*((cR:Rat)*oC n (cR:Rat))≠0:=az.1;have dt:=AY bi;have dx:=AY ba;have dy:=AY an
 have ec:(G:Rat) / ((g*U*cR:Int):Rat)*((U:Rat)*((cR:Rat)*oC n (cR:Rat)))=(G:Rat) / (g:Rat)*oC n (cR:Rat):=by
  rw [CG,CG];ext
 have q3:g*U*cR≠0:=BV (BV bi ba) an;have bn:O<2 ^ (xB+4):=b1;have br:Bd (C' z.A+(xB+4)+(xB+4)) (g*U*cR):=(bq.mul (LH c8 bn)).mul (LH c7 bn);have cq:=P.cq;have cp:=P.cp;rw [<-a3] at cq;have cb:Cb ((G:Rat) / ((g*U*cR:Int):Rat)):=⟨G,g*U*cR,bg,q3,rfl,bp.mono ⋯,br.mono ⋯⟩;obtain ⟨D,hD⟩:∃ D,D=Sr.num ((U:Rat)*((cR:Rat)*oC n (cR:Rat)))*sr Z:=⟨_,rfl⟩;obtain ⟨N,hN⟩:∃ N:Nat->Sr,∀ i,N i=Sr.num ((G:Rat) / (g:Rat)*oC n (cR:Rat))*Sr.st n i (sr tp):=⟨_,λ_=>rfl⟩;have iD:Iz (pC n z) z.m D:=by rw [hD];exact az.2
 have D0:D≠0:=by rw [hD];exact Sr.ne_mul (Sr.Pol.num _) (AW Z) (Ex cn) ch
 obtain ⟨c,hc⟩:∃ c,c=(G:Rat) / ((g*U*cR:Int):Rat):=⟨_,rfl⟩;rw [<-hc] at cb ec;have bs:Sr.num c*D=Sr.num ((G:Rat) / (g:Rat)*oC n (cR:Rat))*sr Z:=by rw [hD,<-ec,<-Sr.num_num c];exact qZ _ _ _
 have cs:∀ (r:Addr) (ws:dj) (L:List (d7×d7)) (M:Hp),Same H M->M r=some (.tup ws)->FFs M ws L->L.length=n->(∀ i,i<n->(pKi n z N a b c D) L i)->Q (.ref r) M:=λr ws L M s hr F lL hp=>by
  refine k r ws L M s hr F lL ?_ ⟨c,D,N,cb,D0,iD,hp⟩;have e:=OD (n:=n) (p:=λj=>Sr.cm (xq (Sr.X n) a b) (sr (O_ L j))) (q:=λj=>Sr.cm (xq (Sr.X n) a b) (sr (F_ L j))) (N:=N) (E:=Sr.num c*Sr.cm (Sr.X n) D) n λj hj=>(hp j hj).2.2.2.2.2.2.1
  have eS:sN n N n=Sr.num ((G:Rat) / (g:Rat)*oC n (cR:Rat))*sr tp:=by
   have cw:∀ m,sN n N m=Sr.num ((G:Rat) / (g:Rat)*oC n (cR:Rat))*Sr.sm (λj=>Sr.X j*Sr.cm (Sr.X n) (Sr.st n j (sr tp))) m:=λm=>by
    induction m with
    | zero=>show (0:Sr)=_*0;ext
    | succ m ih=>
      show sN n N m+Sr.X m*Sr.cm (Sr.X n) (N m)=_*(Sr.sm _ m+_);rw [ih,hN,Sr.cm_mul _ (Sr.Pol.num _) (Sr.st_pol ⋯ (AW tp)),Sr.cm_num];ext
   rw [cw,<-Sr.parts_all ⋯ (AW tp)]
  have eD:Sr.num c*Sr.cm (Sr.X n) D=Sr.num ((G:Rat) / (g:Rat)*oC n (cR:Rat))*Sr.cm (Sr.X n) (sr Z):=by
   have:=congrArg (Sr.cm (Sr.X n)) bs;rw [Sr.cm_mul _ (Sr.Pol.num _) iD.pol,Sr.cm_mul _ (Sr.Pol.num _) (AW Z),Sr.cm_num,Sr.cm_num] at this;exact this
  rw [eS,eD,<-bd,e8] at e;show sr T*Sr.jD (λj=>Sr.cm (xq (Sr.X n) a b) (sr (F_ L j))) n=Sr.jN (λj=>Sr.cm (xq (Sr.X n) a b) (sr (O_ L j))) (λj=>Sr.cm (xq (Sr.X n) a b) (sr (F_ L j))) n*sr B;have pq:∀ l:d7,Sr.Pol (Sr.cm (xq (Sr.X n) a b) (sr l)):=λl=>Sr.cm_pol pu (AW l);have pJ:=Sr.jD_pol (q:=λj=>Sr.cm (xq (Sr.X n) a b) (sr (F_ L j))) (λj=>pq _) n;have pN:=Sr.jN_pol (p:=λj=>Sr.cm (xq (Sr.X n) a b) (sr (O_ L j))) (q:=λj=>Sr.cm (xq (Sr.X n) a b) (sr (F_ L j))) (λj=>pq _) (λj=>pq _) n;generalize Sr.jD (λj=>Sr.cm (xq (Sr.X n) a b) (sr (F_ L j))) n=JD at *;generalize Sr.jN (λj=>Sr.cm (xq (Sr.X n) a b) (sr (O_ L j))) (λj=>Sr.cm (xq (Sr.X n) a b) (sr (F_ L j))) n=JN at *;refine Sr.cancel ((AW T).mul pJ) (pN.mul (AW B)) ((Sr.Pol.num ((G:Rat) / (g:Rat)*oC n (cR:Rat))).mul (AW S)) (Sr.ne_mul (Sr.Pol.num _) (AW S) (Ex cl) (Bu gS.low gS.nz S0)) ?_;generalize Sr.num ((G:Rat) / (g:Rat)*oC n (cR:Rat))=ct at *;rw [pE,<-e];exact pH _ _ _ _
 refine Bt (Gf (Ji ⟨_,rfl,(n:Int),rfl,⋯,⋯,?_⟩));rw [DR];refine CompJ.range (n:=n) (λi ys M=>i<=n/\Same H8 M/\∃ L,FFs M ys L/\L.length=i/\∀ j,j<i->(pKi n z N a b c D) L j) ⟨Ae _,Same.refl H8,[],trivial,rfl,λj hj=>absurd hj ⋯⟩ ?_ ?_ ?_
 ·rintro i ys M ⟨h1,_,L,h2,h3,_⟩;exact ⟨h1,sz (by rw [h2.length];omega)⟩
 ·rintro i ys H9 hi ⟨_,t9,L,Fy,lL,hj⟩;rw [Int.zero_add];have cz:=bc.trans t9;refine Af (AO rfl (Af (Hb (AO rfl (AO rfl (AO rfl ⟨r8,tp,n,i,72000,rfl,P8.same t9,n2,hi,G8.mono ⋯ ⋯,⋯,λd0 st dz a6 d1 b0 a1 b2=>AO rfl ?_⟩))))))
  have bv:Qc ((G:Rat) / (g:Rat)*oC n (cR:Rat)) (pA n z) W (sr st):=by
   have:=a4.st (n:=n) (i:=i) ⋯ hi;rw [<-b2] at this;exact this.cut (bm i _ a1)
  have d2:st≠[]->Fp (max (C' (pA n z)+W*12) (C' (pC n z)+z.m*12)) (AL st):=λs0=>(bv.qz.fp (e:=4) (D6 _) ⋯ b0.low b0.nz s0).mono (Nat.le_max_left ..);refine ⟨d0,r7,st,Z,72000,_,W,z.m,4,rfl,d1,P7.same ((t8.trans t9).trans a6),b0,G7.mono ⋯ ⋯,ar,bm i _ a1,bf,d2,ck,ci,∅,λd3 e0 T' B' b3 d4 a2 d5=>?_⟩;have iN:Iz (pA n z) (pW n z) (N i):=by rw [hN,<-b2,<-hW];exact bv.2
  have bw:sr T'*(Sr.num c*D)=N i*sr B':=by
   rw [bs,hN,<-b2,show ∀ x:Sr,sr T'*(x*sr Z)=x*(sr T'*sr Z) from λx=>by ext,d5];ext
  have SP:Sq c (Hs n z) T' B':=Jg (z:=Hs n z) cb a2 iN iD D0 (AT 1) bw;have bP:=P.bP;have e1:(Hs n z).n=pW n z:=rfl;have e3:(Hs n z).m=z.m:=rfl;have A:=SP.rp.all (e:=5) ⋯ ⋯ ⋯ ⋯ ∅;have al:=A.tn;have bl:=A.bm;refine ⟨p,d3,q1,q2,n,a,b,T',B',rfl,o.same ((cz.trans a6).trans b3),d4,a2,A.gt.mono ⋯ ⋯,A.gb.mono ⋯ ⋯,⋯,⋯,λd6 X Y e4 ac d8 bx b4=>⟨hi,((t9.trans a6).trans b3).trans ac,L++[(X,Y)],(Fy.same ((a6.trans b3).trans ac)).app ⟨⟨d6,rfl,d8⟩,trivial⟩,by rw [Cq,lL];rfl,λj e9=>?_⟩⟩
  have gj:(L++[(X,Y)]).getD j (([],[(1,1)]):d7×d7)=if j<i then L.getD j ([],[(1,1)]) else (X,Y):=by
   rw [AU];by_cases c:j<i
   ·rw [kA c,FU ⋯,AU]
   ·rw [lZ c,EB ⋯,show j - L.length=0 by omega];rfl
  show Lw ((L++[(X,Y)]).getD j ([],[(1,1)])).1 ((L++[(X,Y)]).getD j ([],[(1,1)])).2/\Gq 6000 6000 ((L++[(X,Y)]).getD j ([],[(1,1)])).1/\Gq 6000 6000 ((L++[(X,Y)]).getD j ([],[(1,1)])).2/\((L++[(X,Y)]).getD j ([],[(1,1)])).1.length<=8/\((L++[(X,Y)]).getD j ([],[(1,1)])).2.length<=8/\Iz (pA n z) (pW n z) (N j)/\Sr.cm (xq (Sr.X n) a b) (sr ((L++[(X,Y)]).getD j ([],[(1,1)])).1)*(Sr.num c*Sr.cm (Sr.X n) D)=Sr.cm (Sr.X n) (N j)*Sr.cm (xq (Sr.X n) a b) (sr ((L++[(X,Y)]).getD j ([],[(1,1)])).2)/\∃ c',Sq c' (zX n z) ((L++[(X,Y)]).getD j ([],[(1,1)])).1 ((L++[(X,Y)]).getD j ([],[(1,1)])).2;rw [gj];by_cases cj:j<i
  ·rw [kA cj];exact hj j cj
  rw [lZ cj,show j=i by omega];have b4:sr X*Sr.cm (bk a b) (sr B')=Sr.cm (bk a b) (sr T')*sr Y:=b4;have d9:=Bu a2.lb a2.nb a2.ne;have d:=Ut a b;have bB:Sr.cm (bk a b) (sr B')≠0:=Sr.cm_ne (v:=xq (Sr.X 1) a b) d (AW B') (Nr va 1) d9;have bD:Sr.cm (bk a b) D≠0:=Sr.cm_ne (v:=xq (Sr.X 1) a b) d iD.pol (Nr va 1) D0;have S0:a.2*b.2≠0:=BV (AV o.la.pos) (AV o.lb.pos);have bS:Bd 40 (a.2*b.2):=o.ba.2.mul o.bb.2;have SM:(a.2*b.2).natAbs<=2 ^ 61:=CU (bS.mono ∅);have jN:=Iz.cm (Uu o.ba o.bb) S0 SM iN P.w1;have jD:=Iz.cm (Uu o.ba o.bb) S0 SM iD s3;rw [<-rK o.la o.lb] at jN jD
  have ad:sr X*(Sr.num c*Sr.cm (bk a b) D)=Sr.cm (bk a b) (N i)*sr Y:=by
   refine Sr.cancel ((AW X).mul ((Sr.Pol.num c).mul (Sr.cm_pol d iD.pol))) ((Sr.cm_pol d iN.pol).mul (AW Y)) (Sr.cm_pol d (AW B')) bB ?_;have r1:=congrArg (Sr.cm (bk a b)) bw;rw [Sr.cm_mul _ (AW T') ((Sr.Pol.num c).mul iD.pol),Sr.cm_mul _ (Sr.Pol.num c) iD.pol,Sr.cm_num,Sr.cm_mul _ iN.pol (AW B')] at r1;rw [show sr X*(Sr.num c*Sr.cm (bk a b) D)*Sr.cm (bk a b) (sr B')=sr X*Sr.cm (bk a b) (sr B')*(Sr.num c*Sr.cm (bk a b) D) by ext,b4,show Sr.cm (bk a b) (sr T')*sr Y*(Sr.num c*Sr.cm (bk a b) D)=Sr.cm (bk a b) (sr T')*(Sr.num c*Sr.cm (bk a b) D)*sr Y by ext,r1];ext
  have ea:(((a.2*b.2) ^ (pW n z - 1):Int):Rat)≠0:=AY (Int.pow_ne_zero S0);have da:(((a.2*b.2) ^ (z.m - 1):Int):Rat)≠0:=AY (Int.pow_ne_zero S0)
  have db:Cb (c*(((a.2*b.2) ^ (pW n z - 1):Int):Rat) / (((a.2*b.2) ^ (z.m - 1):Int):Rat)):=by
   refine ⟨G*(a.2*b.2) ^ (pW n z - 1),g*U*cR*(a.2*b.2) ^ (z.m - 1),BV bg (Int.pow_ne_zero S0),BV q3 (Int.pow_ne_zero S0),?_,(bp.mul (bS.pow _)).mono ⋯,(br.mul (bS.pow _)).mono ⋯⟩;rw [hc,CG G,CG (g*U*cR)];have:=AY q3;ext
  have SX:Sq (c*(((a.2*b.2) ^ (pW n z - 1):Int):Rat) / (((a.2*b.2) ^ (z.m - 1):Int):Rat)) (zX n z) X Y:=by
   refine Jg (z:=zX n z) db bx (jN.mono ?_ ?_) (jD.mono ?_ ?_) (Sr.ne_mul (Sr.Pol.num _) (Sr.cm_pol d iD.pol) (Ex da) bD) (AT 1) ?_
   ·show pA n z*(2 ^ 61) ^ (pW n z - 1)<=pA n z*2 ^ (61*(pW n z - 1));rw [Nat.pow_mul];exact AT _
   ·show 1*(pW n z - 1)+1<=pW n z;have:=P.w1;omega
   ·show pC n z*(2 ^ 61) ^ (z.m - 1)<=pC n z*2 ^ (61*(z.m - 1));rw [Nat.pow_mul];exact AT _
   ·show 1*(z.m - 1)+1<=z.m;omega
   ·have en:Sr.num (c*(((a.2*b.2) ^ (pW n z - 1):Int):Rat) / (((a.2*b.2) ^ (z.m - 1):Int):Rat))*Sr.num (((a.2*b.2) ^ (z.m - 1):Int):Rat)=Sr.num c*Sr.num (((a.2*b.2) ^ (pW n z - 1):Int):Rat):=by
     rw [Sr.num_num,Sr.num_num];congr 1;ext
    rw [show ∀ x y w:Sr,sr X*(x*(y*w))=sr X*(x*y*w) from λx y w=>by ext,en,show ∀ y w:Sr,sr X*(Sr.num c*y*w)=y*(sr X*(Sr.num c*w)) from λy w=>by ext,ad];ext
  have bX:=P.bX;have eb:(zX n z).n=pW n z:=rfl;have ed:(zX n z).m=z.m:=rfl;have A2:=SX.rp.all (e:=5) ⋯ ⋯ ⋯ ⋯ ∅;have ee:=A2.tn;have ef:=A2.bm;refine ⟨bx,A2.gt.mono ⋯ ⋯,A2.gb.mono ⋯ ⋯,by show X.length<=8;omega,by show Y.length<=8;omega,iN,?_,_,SX⟩;show Sr.cm (xq (Sr.X n) a b) (sr X)*(Sr.num c*Sr.cm (Sr.X n) D)=Sr.cm (Sr.X n) (N i)*Sr.cm (xq (Sr.X n) a b) (sr Y);have r2:=congrArg (Sr.cm (xq (Sr.X n) a b)) ad;rw [Sr.cm_mul _ (AW X) ((Sr.Pol.num c).mul (Sr.cm_pol d iD.pol)),Sr.cm_mul _ (Sr.Pol.num c) (Sr.cm_pol d iD.pol),Sr.cm_num,Sr.cm_mul _ (Sr.cm_pol d iN.pol) (AW Y),Sr.cm_cm d iD.pol,Sr.cm_cm d iN.pol,Nr va n] at r2;exact r2
 ·rintro ys H9 ⟨_,t9,L,Fy,lL,hj⟩ w2 dc;have sw:=AQ dc (.lst ys);refine ⟨w2,ys,rfl,upd_same,λr hr=>?_⟩;have s':=AQ hr (.tup ys);exact cs r ys L _ (((bc.trans t9).trans sw).trans s') upd_same (Fy.same (sw.trans s')) lL hj
def VF {a b:Int} (c:-18446744073709551616<a) (d:a<18446744073709551616):IntMulOk a b:=IntMulOk.of_left (intBits_le_64 ⋯ ⋯)
def pL {a b:Int} (c:-18446744073709551616<b) (d:b<18446744073709551616):IntMulOk a b:=IntMulOk.of_right (intBits_le_64 ⋯ ⋯)
theorem VG:∀ i:Nat,List.map V.bl (List.replicate i true)++[V.bl true]=V.bl true::List.map V.bl (List.replicate i true)
 | 0=>rfl
 | i+1=>by rw [GG,Ds,List.cons_append,VG i]
def VH {ns:dq} {k:Int} (b:0<=k) (h:k<(ns.length:Int)):∃ v:Int,N_ (ns.map V.int) k=some (.int v):=by
 have hk:k.toNat<ns.length:=by omega
 have a:k=((k.toNat:Nat):Int):=by omega
 have q:N_ (ns.map V.int) ((k.toNat:Nat):Int)=some (.int ns[k.toNat]):=IU (by rw [Aq,Az hk] <;> rfl);rw [<-a] at q;exact ⟨_,q⟩
def cS {y:Int} (a:0<y) (h:y<=1000000):Bd 20 y:=by
 show y.natAbs<2 ^ 20;omega
def pM (ns:dq) (lo b:Option Int):∃ a:dq,CN (ns.map V.int) lo b=a.map V.int/\a.length<=ns.length:=by
 unfold CN;rw [<-List.map_drop,<-List.map_take];exact ⟨_,rfl,by rw [Cd,List.length_drop];omega⟩
def Src.same {H a:Hp} {s:Addr} (h:Src H s) (k:Same H a):Src a s:=by
 obtain ⟨x,y,e,r⟩:=h;exact ⟨x,y,k _ _ e,r⟩
def Src.tp {H a:Hp} {s:Addr} (h:Src H s) (k:Kp s H a):Tp H a:=by
 obtain ⟨x,y,e,r⟩:=h;exact k.tp e
def pO (h:CT K vs H Q E):S9 K { nx:=λ_ e=>Q .non e,rt:=Q } (L2.start ["_law_source_here","_law_many","_law_digit"] vs) H:=by
 obtain ⟨s,m,rfl,⟨x,y,a,f,b⟩,g,k⟩:=h;have i:∀ x y:V,N_ [x,y] 0=some x:=λ_ _=>rfl;have q:∀ x y:V,N_ [x,y] 1=some y:=λ_ _=>rfl;have o:ak 2 0=some 0:=rfl;have r:ak 2 1=some 1:=rfl
 have j:∀ (x y:Int) (d:Hp),d s=some (.lst [.int x,.int y])->0<=x->0<=y->Kp s H d->M5 K { nx:=λ_ e=>Q V.non e,rt:=Q } [some (.ref s),some (.int m),none] d:=λx y d a f b p=>by
  unfold M5;rwa [a,i];refine ⟨g,?_⟩;unfold S7 S3;rwa [a,i,o];exact ⟨g,k _ _ (Cf _ ⋯) (C4 _ g) ⟨_,_,upd_same,Int.ediv_nonneg f ⋯,b⟩ (p.trans Kp.upd)⟩
 unfold S9;rwa [a,i];refine Ap (λc=>?_) (λc=>j x y H a f b (Kp.of_same (Same.refl H)));refine ⟨sz ∅,λt n=>⟨_,(AQ n _) _ _ a,0,rfl,1,rfl,?_⟩⟩;exact j y 0 _ upd_same b ∅ (((Kp.of_same (AQ n _)).trans Kp.upd).trans Kp.upd)
def pV (h:Hv K vs H Q E):TH K { nx:=λ_ w=>Q .non w,rt:=Q } (L2.start ["_law_source_here","_law_how"] vs) H:=by
 obtain ⟨p,rfl,hp,k⟩:=h
 have a:∀ {x y:Int} {b:Hp},Bd 40 x->0<y->y<=1000000->Src b p->Kp p H b->y≠0/\∀ r,b r=none->Q (V.ref r) (upd b r (.tup [.int (Ao x y).1,.int (Ao x y).2])):=λ{x y b} z c L d g=>⟨AV c,λr A=>by
  have B:=Dk (AV c) z (JJ (x:=y) ⋯ ⋯);have M:(Ao x y).2<=y:=by rw [JL c];exact Int.ediv_le_self _ (De c)
  have s:=AQ A (.tup [.int (Ao x y).1,.int (Ao x y).2]);exact k r (Ao x y) _ ⟨r,rfl,upd_same⟩ (DB (AV c)) B.1 ⋯ (d.same s) (g.same s)⟩
 unfold TH;rwa [];refine ⟨hp,∅,λC b N O d g=>?_⟩;unfold TF;rwa [];refine Ap (λ_=>?_) (λ_=>?_)
 ·refine ⟨d,∅,λe o q u i j=>?_⟩;exact a (JJ ⋯ ⋯) ∅ ∅ i (g.trans j)
 unfold TD;rwa [];refine Ap (λ_=>?_) (λ_=>?_)
 ·refine ⟨d,∅,λe o q u i j=>⟨i,∅,λf D F G m n=>?_⟩⟩;exact a (JJ ⋯ ⋯) ⋯ ⋯ m ((g.trans j).trans n)
 unfold TC;rwa [];have P:Lh 10 6:=⟨∅,∅,∅⟩;have v:Lh 10 12:=⟨∅,∅,∅⟩;have I:(10:Int) ^ Int.toNat 6=1000000:=by decide
 have J:(10:Int) ^ Int.toNat 12=1000000000000:=by decide
 rw [I,J];refine ⟨v,VF ∅ ∅,d,∅,λe o q u i j=>⟨v,P,i,∅,λf D F G m n=>?_⟩⟩;exact a (JJ ⋯ ⋯) ⋯ ⋯ m ((g.trans j).trans n)
def oB (h:Mv K vs H Q E):TK K { nx:=λ_ v=>Q .non v,rt:=Q } (L2.start ["_law_source_here","_law_a"] vs) H:=by
 obtain ⟨s,rfl,P,k⟩:=h
 have L:∀ (f:Addr) (a:Nu) (g:Hp),g f=some (.tup [.int a.1,.int a.2])->Low a.1 a.2->a.1≠0->Bd 40 a.1->Bd 20 a.2->Src g s->Kp s H g->M6 K { nx:=λ_ v=>Q V.non v,rt:=Q } [some (.ref s),some (.ref f)] g:=λf a g R i M x y m o=>by
  unfold M6;rwa [];refine ⟨m,∅,λd S T U p r=>⟨p,λN b Y A B C n W O=>⟨sz ∅,λt D=>?_⟩⟩⟩;obtain ⟨_,F,A⟩:=A;injection F with F;subst F;have G:=cS B.pos n;have st:=AQ D (.tup [.int (2+d),.ref f,.ref N]);have en:((d.toNat+2:Nat):Int)=2+d:=by omega
  refine k t f N (d.toNat+2) a b _ { at':=by rw [en];exact upd_same,at1:=st _ _ (p.tp O _ _ (m.tp r _ _ R)),at2:=st _ _ A,la:=i,lb:=B,a0:=M,ba:=⟨x,y⟩,bb:=⟨C,G⟩,n2:=by omega,n4:=by omega } (W.same st) (((o.trans r).trans O).same st)
 unfold TK;rwa [];refine ⟨P,λf a g u i x I m o=>?_⟩;have y:=cS i.pos I;obtain ⟨_,J,u⟩:=u;injection J with J;subst J;unfold TJ;rwa [];refine ⟨sz ∅,λw X=>?_⟩;have j:=AQ X (.tup [.int 0,.int 1]);refine ⟨_,_,decide (a=(0,1)),FI (q:=a) ⟨f,rfl,j _ _ u⟩,FI (q:=(0,1)) ⟨w,rfl,upd_same⟩,rfl,rfl,⟨λz=>by rw [kC z],λz=>kB (NT z)⟩,_,rfl,Ap (λc=>?_) (λc=>?_)⟩
 ·refine ⟨m.same j,∅,λd S T U p r=>⟨sz ∅,λt D=>?_⟩⟩;have st:=AQ D (.tup [.int (1+d),.int 1]);exact L t (1+d,1) _ upd_same ⟨show (0:Int)<1 by decide,Int.gcd_one_right _⟩ (show 1+d≠0 by omega) (JJ ⋯ ⋯) (show Bd 20 1 by decide) (p.same st) (((o.same j).trans r).same st)
 ·refine L f a _ (j _ _ u) i (λz=>?_) x y (m.same j) (o.same j);have e:a=(0,1):=EU i FH (by unfold val;rw [z];exact (O' _).trans (O' _).symm);simp [e] at c
def oD (h:Kq K vs H Q E):TL K { nx:=λ_ a=>Q .non a,rt:=Q } (L2.start ["_law_found","_law_part"] vs) H:=by
 obtain ⟨p,t,d,rfl,hp,f,k⟩:=h;unfold TL;unfold Nm at hp;rwa [hp,Jy hp];refine ⟨⟨_,SqT.of hp⟩,ForT.by (xs:=[.int t,.int d]) (λi c a=>∃ e:dl,c=[some (.ref p),e]/\a=H) ⟨none,rfl,rfl⟩ ?_ ?_ ?_⟩
 ·rintro i c a _ ⟨_,_,rfl⟩;exact hp
 ·rintro i x c a b ⟨e,rfl,rfl⟩;have g:i<2:=(Bw.mp b).1
  obtain ⟨z,rfl⟩:∃ z,x=V.int z:=by
   match i,b with
   | 0,b=>exact ⟨_,(kH b).symm⟩
   | 1,b=>exact ⟨_,(kH b).symm⟩
  rwa [];exact ⟨_,rfl⟩
 ·rintro c a ⟨e,rfl,rfl⟩;rwa [hp];have:=k a (Same.refl a);simp only [f.pos,decide_true];exact this
def oE (h:Mx K vs H Q E):TM K { nx:=λ_ d=>Q .non d,rt:=Q } (L2.start ["_law_found","_law_row"] vs) H:=by
 obtain ⟨p,u,v,L,M,rfl,hp,J,N,m,n,O,P,k⟩:=h;unfold TM;rwa [hp,Jy hp];refine ⟨⟨_,SqT.of hp⟩,ForT.by (xs:=[.ref u,.ref v]) (λi q d=>∃ z:dl,q=[some (.ref p),z]/\Same H d) ⟨none,rfl,Same.refl H⟩ ?_ ?_ ?_⟩
 ·rintro i q d _ ⟨_,_,e⟩;exact e _ _ hp
 ·rintro i x q r f ⟨z,rfl,e⟩;have R:i<2:=(Bw.mp f).1
  obtain ⟨w,l,c,rfl,A,B,C,X⟩:∃ w l c,x=V.ref w/\r w=some (.tup c)/\Nums r c l/\AX l/\l.length<=100:=by
   match i,f with
   | 0,f=>obtain ⟨c,a,b⟩:=J;exact ⟨u,L,c,(kH f).symm,e _ _ a,b.tp (M_ e),m,O⟩
   | 1,f=>obtain ⟨c,a,b⟩:=N;exact ⟨v,M,c,(kH f).symm,e _ _ a,b.tp (M_ e),n,P⟩
  rwa [Jy A];refine ⟨⟨_,SqT.of A⟩,CompJ.tup (xs:=c) (λi y d=>i<=l.length/\Same r d/\y=(List.replicate i true).map V.bl) ⟨Ae _,Same.refl r,rfl⟩ ?_ ?_ ?_⟩
  ·rintro j y d ⟨G,g,rfl⟩;exact ⟨by rw [B.length];exact G,sz (by rw [AR,Dr];omega),g _ _ A⟩
  ·rintro j x y d I ⟨G,g,rfl⟩;have S:j<c.length:=(Bw.mp I).1;have Y:=B.length;obtain ⟨o,T,Z,rfl,D⟩:=B.get I;rwa [];refine ⟨_,_,g _ _ D,C o (Bj T),λH3 F=>⟨⋯,g.trans F,VG j⟩⟩
  ·rintro y d ⟨_,g,rfl⟩ a U;have F:=AQ U (.lst ((List.replicate c.length true).map V.bl));refine ⟨a,List.replicate c.length true,rfl,upd_same,?_⟩;have W:(List.replicate c.length true).all id=true:=by simp
   refine ⟨_,rfl,?_⟩;rw [W,lZ ∅];exact (e.trans g).trans F
 ·rintro q d ⟨z,rfl,e⟩;rwa [];exact k d e
def oF (h:Kn K vs H Q E):Sy K { nx:=λ_ b=>Q .non b,rt:=Q } (L2.start ["_law_script","_law_k","_law_cell","_law_some","_law_more","_law_number_here","_law_j"] vs) H:=by
 obtain ⟨s,d,k,rfl,n,k0,k9,O,q⟩:=h;have R:∀ {x y:Int},0<=y->y<4611686018427387904->IntMulOk x y:=λP S=>pL ⋯ ⋯;have F:∀ {x y:Int},0<=x->x<4611686018427387904->IntMulOk x y:=λP S=>VF ⋯ ⋯
 have G:∀ a:Int,M4 K { nx:=λ_ b=>Q V.non b,rt:=Q } [some (.ref s),some (.int k),some (.int a),none,none,none,none] H:=λa=>by
  unfold M4;rwa [];obtain ⟨w,T,_⟩:=pM d none (some 1);refine ⟨∅,F ∅ ∅,_,n,λp hp=>⟨w,T,∅,R ∅ ∅,∅,?_⟩⟩;have A:=AQ hp (.lst (CN (d.map V.int) none (some 1)));have f:=Same.seq A n;generalize upd H p (.lst (CN (d.map V.int) none (some 1)))=U at A f ⊢;have I:=Cf ((a % 2147483647+7919*k+w.sum % 99991+11)*48271) (show (2147483629:Int)≠0 by decide);have W:=C4 ((a % 2147483647+7919*k+w.sum % 99991+11)*48271) (show (0:Int)<2147483629 by decide);generalize (a % 2147483647+7919*k+w.sum % 99991+11)*48271 % 2147483629=z at I W ⊢;unfold Sv;rwa [];refine ⟨R I ⋯,∅,?_⟩;generalize z*z % 1999999973=J;unfold Su Ss;rwa [];refine ⟨∅,∅,ForR.by (λi B b=>i<=9/\∃ (m g:Int) (C:dl),B=[some (.ref s),some (.int k),some (.int a),some (.int z),some (.int m),some (.int g),C]/\0<=g/\b=U) ⟨∅,J,0,none,rfl,∅,rfl⟩ ?_ ?_⟩
  ·rintro i B b X ⟨_,m,g,C,rfl,j,rfl⟩;have Y:i<9:=X;unfold Sm;rwa [];refine ⟨R ∅ ∅,F ∅ ∅,∅,?_⟩;have L:=Cf (m*99991+z+39373*(0+(i:Int))) (show (1999999973:Int)≠0 by decide);generalize (m*99991+z+39373*(0+(i:Int))) % 1999999973=m' at L ⊢;unfold Sl;rwa [];exact ⟨R ∅ ∅,⋯,⋯⟩
  ·rintro B b ⟨_,m,g,C,rfl,j,rfl⟩
   have u:∀ x y:Int,0<=x->0<=y->∀ r,b r=none->Q (.ref r) (upd b r (.lst [.int x,.int y])):=λx y Z y0 r M=>by
    have r0:H r=none:=by
     cases e:H r with
     | none=>rfl
     | some o=>have z:=A _ _ e;rw [M] at z;cases z
    exact q r _ r0 (A.trans (AQ M _)) ⟨x,y,upd_same,Z,y0⟩
   unfold So Sn;rwa [];have N:2<=sizeLine/\∀ (p:Addr),b p=none->Q (V.ref p) (upd b p (.lst [.int g,.int 0])):=⟨sz ∅,u g 0 j ∅⟩;refine ⟨_,f,Ap (λc=>?_) (λc=>N)⟩;rw [AR] at c;obtain ⟨v,D⟩:=VH (ns:=d) (k:=0) ∅ ⋯;refine ⟨_,f,_,D,v,rfl,∅,Ap (λ_=>⟨sz ∅,u _ g (by split <;> omega) j⟩) (λ_=>N)⟩
 unfold Sy Sw;rwa [];refine ⟨_,n,Ap (λc=>?_) (λc=>G 0)⟩;rw [AR] at c;have J:=Cf k (show (d.length:Int) - 1≠0 by omega);have L:=C4 k (show (0:Int)<(d.length:Int) - 1 by omega);obtain ⟨v,D⟩:=VH (ns:=d) (k:=1+k % ((d.length:Int) - 1)) ⋯ ⋯;refine ⟨_,n,by rw [AR];omega,_,n,V.int v,by rw [AR];exact D,G v⟩
def oH (h:Hw K vs H Q E):TN K { nx:=λ_ a=>Q .non a,rt:=Q } (L2.start ["_law_number_here","_law_many","_law_made","_law_k"] vs) H:=by
 obtain ⟨x,n,rfl,f,d,k⟩:=h;unfold TN;rwa [];refine ⟨⋯,⋯,ForR.by (λi b a=>i<=n/\∃ c:dl,b=[some (.int x),some (.int (n:Int)),some (.int (x ^ i)),c]/\a=H) ⟨⋯,none,by rw [DT],rfl⟩ ?_ ?_⟩
 ·rintro i b a g ⟨_,c,rfl,rfl⟩;have e:i<n:=by omega
  rwa [];exact ⟨Ck ((d.pow i).mono (show _<=1000 by omega)) d ∅ ∅,⋯,(Df x i).symm,_,rfl⟩
 ·rintro b a ⟨_,c,rfl,rfl⟩;rwa [];exact k
def oI (h:Mu K vs H Q E):wD K { nx:=λ_ f=>Q .non f,rt:=Q } (L2.start ["P"] vs) H:=by
 obtain ⟨p,rfl,k⟩:=h;refine Bt (CJ (AO rfl (KH (CJ (L_ (L_ ⟨Bi,λa g=>⟨Cj,λb i=>⟨Bi,λc j=>?_⟩⟩⟩))))));have e:=AQ i (.tup [.ref a]);have d:=AQ j (.tup [p,.ref b]);exact k c b _ (((AQ g _).trans e).trans d) upd_same ⟨_,d _ _ upd_same,Nums.one (tS (d _ _ (e _ _ upd_same)))⟩
noncomputable def dn:d7->Int
 | []=>1
 | q::l=>q.2*dn l
theorem VI:∀ {l:d7},AX l->0<dn l
 | [],_=>by decide
 | q::l,h=>CF (h q CC).pos (VI λy a=>h y (CD _ a))
theorem OF:∀ {l:d7} {q:Nu},q∈l->q.2∣dn l
 | y::l,q,h=>by
   rcases D8.mp h with e | e
   ·rw [e];exact Int.dvd_mul_right _ _
   ·exact E3 (OF e)
theorem OG:∀ {l:d7},AX l->(∀ q∈l,q.2<=1000000)->(dn l).natAbs<=2 ^ (20*l.length)
 | [],_,_=>by decide
 | q::l,h,b=>by
   have c:=OG (l:=l) (λy a=>h y (CD _ a)) λy a=>b y (CD _ a);have d:=b q CC;have e:=(h q CC).pos;show (q.2*dn l).natAbs<=2 ^ (20*(l.length+1));rw [BX,Nat.mul_succ,C3,B6];exact B4 c ⋯
theorem VJ:∀ {l:d7} {q:Nu},AX l->(∀ q∈l,q.2<=1000000)->q∈l->(dn l / q.2).natAbs<=2 ^ (20*(l.length - 1))
 | y::l,q,h,b,m=>by
   have c:AX l:=λy a=>h y (CD _ a);have d:∀ q∈l,q.2<=1000000:=λy a=>b y (CD _ a);have i:=b y CC;have f:=(h y CC).pos;have j:=(h q m).pos;show (y.2*dn l / q.2).natAbs<=2 ^ (20*l.length);rcases D8.mp m with e | e
   ·rw [e,GJ _ (AV f)];exact OG c d
   ·rw [Int.mul_ediv_assoc _ (OF e),BX];have g:=VJ c d e;have k:0<l.length:=List.length_pos_of_mem e;have:20*l.length=20+20*(l.length - 1):=by omega
    rw [this,C3];exact B4 ⋯ g
def Lp.iz {d:Nat} {l:d7} (h:Lp d l):0<dn l/\(dn l).natAbs<=2 ^ (20*d)/\Iz (d*2 ^ (20+20*d)) d (Sr.num (dn l:Rat)*sr l)/\Gq 120 120 l\/5<=d:=by
 by_cases o:5<=d
 ·exact .inr o
 left;have c:=VI h.low;have i:∀ q∈l,q.2<=1000000:=λq b=>(h.bt q b).2;have O:Ov l (dn l):=⟨c,λq b=>OF b⟩;have j:=OG h.low i;have ll:=h.len;have a:∀ {x y:Nat},x<=y->2 ^ x<=2 ^ y:=λe=>Ed ∅ e
 have en:∀ z∈P_ l (dn l),z.natAbs<=2 ^ (20+20*d):=λz f=>by
  obtain ⟨q,b,rfl⟩:=BR.mp f;rw [BX];have m:q.1.natAbs<2 ^ 40:=(h.bt q b).1;have p:=VJ h.low i b;have v:0<l.length:=List.length_pos_of_mem b;have n:=B4 (CU m) p;rw [<-C3] at n;exact A7 n (a ⋯)
 have g:∀ Z:dq,(∀ z∈Z,z.natAbs<=2 ^ (20+20*d))->L1 Z<=Z.length*2 ^ (20+20*d):=λZ=>by
  induction Z with
  | nil=>intro _;exact Ae _
  | cons z Z r=>
    intro h;have:=r λy u=>h y (CD _ u);have m:=h z CC;show z.natAbs+L1 Z<=(Z.length+1)*2 ^ (20+20*d);rw [Cl];omega
 have w:(P_ l (dn l)).length=l.length:=AR ..;have A:=AY (AV c);refine ⟨c,A7 j (a ⋯),⟨P_ l (dn l),Sr.ext' λk=>?_,A7 (g _ en) (Bk _ ⋯),⋯⟩,h.low,h.nz,dn l,O,DI j (Nat.pow_lt_pow_right ∅ ⋯),λz f=>DI (en z f) (Nat.pow_lt_pow_right ∅ ⋯)⟩;rw [Sr.num_mul];show (((P_ l (dn l)).getD k 0:Int):Rat)=(dn l:Rat)*B_ l k;rw [DY h.low O k];ext
def Lp.iz3 {d:Nat} {l:d7} (h:Lp d l) (a:d<=4):0<dn l/\(dn l).natAbs<=2 ^ (20*d)/\Iz (d*2 ^ (20+20*d)) d (Sr.num (dn l:Rat)*sr l)/\Gq 120 120 l:=h.iz.resolve_right ⋯
def oJ (h:Ko K vs H Q E):wU K { nx:=λ_ a=>Q .non a,rt:=Q } (L2.start ["_law_source_here","_law_most"] vs) H:=by
 obtain ⟨s,d,rfl,B,S,k⟩:=h;refine Bt (Ca (Ji (A6 (L_ (Af (AO rfl (A6 (AO rfl (L_ ⟨_,_,rfl,rfl,s,(d:Int)+1,rfl,B,⋯,λe T U W C D=>⟨_,_,rfl,rfl,_,rfl,⋯,⋯,?_⟩⟩)))))))));refine CompJ.range (n:=(1+e).toNat) (λi b a=>i<=(1+e).toNat/\Src a s/\Kp s H a/\∃ l,Nums a b l/\l.length=i/\∀ q∈l,Low q.1 q.2/\Bd 40 q.1/\q.2<=1000000) ⟨Ae _,C,D,[],trivial,rfl,λ_ h=>nomatch h⟩ ?_ ?_ ?_
 ·rintro i b a ⟨F,_,_,l,c,j,_⟩;exact ⟨F,sz (by rw [c.length];omega)⟩
 ·rintro i b a G ⟨_,f,m,l,c,j,g⟩;refine Ca (AO rfl ⟨s,rfl,f,λr q v o I J L M x=>⟨G,M,m.trans x,l++[q],(c.tp (f.tp x)).append (Nums.one o),by rw [Cq,j];rfl,λy N=>?_⟩⟩);rcases EA.mp N with z | z
  ·exact g y z
  ·rw [B7.mp z];exact ⟨I,J,L⟩
 ·rintro b a ⟨_,f,m,l,c,j,g⟩ w O;have p:=AQ O (.lst b);refine ⟨w,b,l,rfl,upd_same,c.tp (M_ p),⋯,λr P v A o R=>k r (trim l) v ⟨P,o,R⟩ ⟨λq u=>(g q (DL u)).1,Dx l,?_,λq u=>(g q (DL u)).2⟩ ((f.same p).same A) ((m.same p).same A)⟩;have:=Dy l;omega
def Sq.frac {d:Nat} {l m T B:d7} (b:Lp (d+1) l) (a:Lp (d+1) m) (c:m≠[]) (q:d<=3) (e:Lw T B) (f:sr T*sr m=sr l*sr B):Sq 1 (fz (d+1)) T B:=by
 obtain ⟨g,h,i,r⟩:=b.iz3 ⋯;obtain ⟨j,k,n,u⟩:=a.iz3 ⋯;have o:=Bu a.low a.nz c;refine ⟨e,bI,Sr.num (dn m:Rat)*(Sr.num (dn l:Rat)*sr l),Sr.num (dn m:Rat)*sr m,dn l,(i.smul (dn m)).mono (Bk _ k) (AT _),n,Sr.ne_mul (Sr.Pol.num _) (AW m) (Ex (AY (AV j))) o,AV g,h,?_⟩;rw [Sr.n1];have p:sr T*(1*Sr.num (dn l:Rat)*(Sr.num (dn m:Rat)*sr m))=Sr.num (dn l:Rat)*Sr.num (dn m:Rat)*(sr T*sr m):=by ext
 rw [p,f];ext
def oK (h:Mw K vs H Q E):wV K { nx:=λ_ v=>Q .non v,rt:=Q } (L2.start ["_law_source_here","_law_top","_law_bottom","_law_kp","_law_kq"] vs) H:=by
 obtain ⟨s,d,rfl,S,x,k⟩:=h;refine BC (Af (AO rfl (AO rfl ⟨s,d,rfl,S,x,λy l H1 U e G I=>?_⟩)));refine BC (Af (AO rfl (AO rfl ⟨s,d,rfl,G,x,λW m H2 X A J C=>?_⟩)));have j:=U.tp (G.tp C)
 have n:∀ (r:Addr) (m:d7) (i:Hp),m≠[]->Pl i r m->Lp (d+1) m->Pl i y l->Src i s->Kp s H i->(Ab (AE (Ew K) [] E0 (AA (AB 3) (AA (AB 4) AC)))) { nx:=λ_ v=>Q V.non v,rt:=Q } [some (.ref s),some (.int (d:Int)),some (.int (d:Int)),some (.ref y),some (.ref r)] i:=λr m i p Pm D F Y Z=>by
  obtain ⟨_,_,i1,L⟩:=e.iz3 ⋯;obtain ⟨_,_,i2,M⟩:=D.iz3 ⋯;have l3:=e.len;have m3:=D.len;refine Bt (Af (AO rfl (AO rfl ⟨y,r,l,m,120,120+4*(2*3+4),4,4,3,rfl,F,Pm,L,M,p,⋯,⋯,λl0=>K6 L l0 ⋯ ∅,K6 M p ⋯ ∅,∅,∅,λt H4 T B N F4 lw eq=>k t T B H4 F4 (Sq.frac e D p x lw eq) (Y.same N) (Z.same N)⟩)))
 obtain ⟨zs,O,P⟩:=X;refine Gh (FK (A6 (AO rfl ⟨sz ∅,λw hw=>?_⟩)));have f:=AQ hw (.tup []);refine eqP (f _ _ O) (P.tp (M_ f)) (upd_same (o:=HO.tup [])) (m:=[]) trivial (decide (m=[])) (by simp) ⟨_,rfl,Ap (λc=>?_) (λc=>?_)⟩
 ·refine Ip (KH (CJ (L_ (L_ ⟨Bi,λa ha=>⟨Cj,λb hb=>?_⟩⟩))));have s2:=AQ ha (.tup [.int 1,.int 1]);have R:=AQ hb (.tup [.ref a]);have g:=(f.trans s2).trans R;refine n b [(1,1)] _ (by simp) ⟨_,upd_same,Nums.one ⟨a,rfl,R _ _ upd_same⟩⟩ ⟨λq u=>by rw [B7.mp u];exact JU,λq u=>by obtain rfl:(1,1)=q:=kH u;decide,by show 1<=d+1;omega,λq u=>by rw [B7.mp u];exact ⟨∅,∅⟩⟩ (j.same g) (J.same g) ((I.trans C).same g)
 ·have p:m≠[]:=λz=>c (by rw [z];rfl);exact n W m _ p (Pl.same ⟨zs,O,P⟩ f) A (j.same f) (J.same f) ((I.trans C).same f)
def oN {z:Nu} (h:Low z.1 z.2):val z=0↔z=(0,1):=by
 constructor
 ·intro e;refine EU h FH ?_;rw [e];exact (O' _).symm
 ·intro e;rw [e];exact O' _
def oO {q r:Nu}:D1 q=D1 r↔q=r:=⟨λh=>NT h,λh=>by rw [h]⟩
def oP (h:JH K vs H Q E):wA K { nx:=λ_ g=>Q .non g,rt:=Q } (L2.start ["P","c","row","value","scale","whole"] vs) H:=by
 obtain ⟨p,q,P,l,a,b,bq,rfl,hp,z,R,G,S,lo,I,m,l9,k⟩:=h;have D:=G.low;obtain ⟨T,U,W⟩:=G.clr;have A:=Br D;have B:Bd 8000 (Aa l):=U.mono ⋯;have o:(AL l).length=l.length:=by unfold AL;rw [AR]
 have J:0<b:=lo.pos;unfold Nm at z;refine BC (Ca (AO rfl ⟨_,P,l,Aa l,rfl,SqT.of hp,NuK.of R,D,A,B.mono ∅,λq z=>(W q z).mono ⋯,⋯,λr c X L M N=>?_⟩));have u:=L _ _ z;rwa [M];refine ⟨_,SqL.of N,ForJ.rev (λi C g=>∃ (v:Int) (Y:dl),C=[some (.ref p),some (.ref q),some (.ref r),some (.int v),some (.int (b ^ i)),Y]/\g=X/\Bd (11000+2000*i) v/\(v:Rat)*b=((b ^ i:Int):Rat)*evF (λj=>((AL l).getD j 0:Rat)) l.length (val (a,b)) i) ⟨0,none,by rw [DT],rfl,Cn _,?_⟩ ?_ ?_ ?_⟩
 ·show ((0:Int):Rat)*b=_*0;push_cast;ext
 ·rintro i C g _ ⟨_,_,_,rfl,_⟩;exact SqL.of N
 ·rintro i x C g Z F ⟨v,y,rfl,rfl,n,id⟩;rw [AR,o] at Z F;rw [Aq,Az ⋯] at F;have ew:(AL l).getD (l.length - 1 - i) 0=(AL l)[l.length - 1 - i]'⋯:=by rw [AU,Az ⋯];rfl
  obtain rfl:V.int _=x:=kH F;rw [<-ew];have O:Bd 8000 ((AL l).getD (l.length - 1 - i) 0):=(DM T _).mono ⋯;have f:Bd 2001 (b ^ i):=(m.pow i).mono ⋯;rwa [u];refine ⟨Ck (n.mono (show _<=60000 by omega)) I,Ck O f,Ck f m,?_⟩;refine ⟨by rw [Df],?_,?_⟩
  ·exact (((n.mul I).mono (show _<=11100+2000*i by omega)).add ((O.mul f).mono ⋯)).mono ⋯
  ·rw [U2];have hb:=AY (AV J);have hv:val (a,b)=(a:Rat) / b:=rfl;rw [Df];push_cast at id ⊢;ext
 ·rintro C g ⟨v,y,rfl,rfl,n,id⟩;rw [AR,o] at *;have f:Bd 2001 (b ^ l.length):=(m.pow l.length).mono ⋯;have d:0<b ^ l.length:=Dt J;have w:=CF A.1 d;rwa [u,M];refine ⟨Ck (n.mono (show _<=60000 by omega)) m,Ck B f,AV w,λt ht=>?_⟩;refine k t _ (Ao (v*b) (Aa l*b ^ l.length)) (L.trans (AQ ht _)) Ft (DB (AV w)) ((Dk (AV w) ((n.mul m).mono (show _<=60000 by omega)) (B.mul f)).1.mono ∅) ((Dk (AV w) ((n.mul m).mono (show _<=60000 by omega)) (B.mul f)).2.mono ∅) ?_;unfold ap;rw [DC (AV w)]
  have e:evF (B_ l) l.length (val (a,b)) l.length=evF (λj=>((AL l).getD j 0:Rat)) l.length (val (a,b)) l.length / (Aa l:Rat):=by
   rw [<-KO];exact Hf _ (AT _) λi _ _=>DY D A i
  rw [e];have h1:=AY (AV A.1);have h2:=AY (AV d);push_cast at *;ext
def oT (h:Kr K vs H Q E):SO K { nx:=λ_ H'=>Q .non H',rt:=Q } (L2.start ["F","c","bottom"] vs) H:=by
 obtain ⟨p,q,T,B,a,d,b,rfl,⟨u,v,hp,⟨zu,hu,nu⟩,⟨zv,hv,nv⟩⟩,C,G1,G2,S,D,cS,lo,U,W,k⟩:=h;unfold SO;unfold Nm at C;rwa [hp,hv,C];refine ⟨B,nv,b,G2,S,lo,U,W,cS,λr1 H1 z i hz X Y Z F=>?_⟩;obtain ⟨_,G,j⟩:=hz;injection G with G;subst G;have I:=i _ _ hp;have J:=i _ _ C;have L:=i _ _ hu;refine ⟨sz ∅,λw hw=>?_⟩;have f:=AQ hw (.tup [.int 0,.int 1]);refine ⟨_,_,decide (z=(0,1)),FI ⟨r1,rfl,f _ _ j⟩,FI (q:=(0,1)) ⟨w,rfl,upd_same⟩,bu _ 7,bu _ 7,by rw [oO];simp,_,rfl,Ap (λc=>?_) (λc=>?_)⟩
 ·have c:z=(0,1):=by simpa using c
  exact k .non _ (i.trans f) (.inl ⟨by rw [<-F,c];exact O' _,rfl⟩)
 have c:z≠(0,1):=by simpa using c
 have z0:val z≠0:=λe=>c ((oN X).mp e);have m:=f _ _ I;have n:=f _ _ J;have o:=f _ _ L;have r:=f _ _ j;have g:=i.trans f;generalize upd H1 w (.tup [.int 0,.int 1])=H2 at m n o r g ⊢;rwa [m,o,n];refine ⟨T,nu.tp (M_ g),b,G1,S,lo,U,W,D,λr3 H3 y s3 hy M b3 b4 ey=>?_⟩;obtain ⟨_,N,O⟩:=hy;injection N with N;subst N;have x:=s3 _ _ r;rwa [O,x];have P:z.1≠0:=λe=>z0 (by unfold val;rw [e];show ((0:Int):Rat) / _=0;rw [show ((0:Int):Rat)=0 from rfl];ext);refine ⟨M.pos,P,b3.mono ∅,b4.mono ∅,Y.mono ∅,Z.mono ∅,λt ht=>?_⟩;have R:y.2*z.1≠0:=BV (AV M.pos) P;have A:=Dk R (b3.mul Z) (b4.mul Y);refine k (.ref t) _ ((g.trans s3).trans (AQ ht _)) (.inr ⟨by rw [<-F];exact z0,Ao (y.1*z.2) (y.2*z.1),Ft,DB R,A.1.mono ∅,A.2.mono ∅,?_⟩);rw [DC R,<-F,<-ey];have c1:=AY (AV M.pos);have c2:=AY (AV X.pos);have c3:=AY P;unfold val;push_cast;ext
def oU (h:Ks K vs H Q E):wW K { nx:=λ_ u=>Q .non u,rt:=Q } (L2.start ["_law_one","_law_other"] vs) H:=by
 obtain ⟨p,q,x,y,rfl,⟨_,d,hp⟩,⟨_,e,f⟩,j,m,v,n,w,o,k⟩:=h;injection d with d;injection e with e;subst d e;have a:x.2*y.2≠0:=AV (CF j m);refine Bt (Af (A6 (A6 (A9 rfl hp rfl (A9 rfl f rfl ⟨_,_,rfl,rfl,Ck v o ∅ ∅,A6 (A9 rfl f rfl (A9 rfl hp rfl ⟨_,_,rfl,rfl,Ck w n ∅ ∅,⟨_,_,rfl,rfl,A6 (A9 rfl hp rfl (A9 rfl f rfl ⟨_,_,rfl,rfl,Ck n o ∅ ∅,⟨_,_,rfl,a,λr z=>?_⟩⟩))⟩⟩))⟩)))));refine k r _ z (DB a) ?_ λb c A g B i=>?_
 ·rw [DC a];have C:=AY (AV j);have D:=AY (AV m);unfold val;rw [Rat.intCast_add,CG,CG,CG];ext
 ·have:=Dk a (((A.mul i).add ((B.mul g).mono (show c+b<=b+c by omega)))) ((g.mul i).mono (show b+c<=b+c+1 by omega));have t:=Dk a (Nat.lt_two_pow_self:Bd _ (x.1*y.2+y.1*x.2)) (g.mul i);refine ⟨this.1,?_⟩;exact t.2
def oV (h:Kt K vs H Q E):wX K { nx:=λ_ j=>Q .non j,rt:=Q } (L2.start ["_law_one","_law_other"] vs) H:=by
 obtain ⟨p,q,x,y,rfl,⟨_,d,hp⟩,⟨_,e,f⟩,g,i,m,n,o,u,k⟩:=h;injection d with d;injection e with e;subst d e;have a:x.2*y.2≠0:=AV (CF g i);refine Bt (Af (A6 (A9 rfl hp rfl (A9 rfl f rfl ⟨_,_,rfl,rfl,Ck m o ∅ ∅,A6 (A9 rfl hp rfl (A9 rfl f rfl ⟨_,_,rfl,rfl,Ck n u ∅ ∅,⟨_,_,rfl,a,λr v=>?_⟩⟩))⟩))));refine k r _ v (DB a) ?_ λb c w z A B=>Dk a (w.mul A) (z.mul B);rw [DC a];have C:=AY (AV g);have D:=AY (AV i);unfold val;rw [CG,CG];ext
noncomputable def sR (v:dM) (x:Rat):dM
 | 0=>0
 | i+1=>sR v x i+v i*x ^ i
theorem VL {v w:dM} (x:Rat):∀ i,(∀ j,j<i->v j=w j)->sR v x i=sR w x i
 | 0,_=>rfl
 | i+1,h=>by show sR v x i+v i*x ^ i=sR w x i+w i*x ^ i;rw [VL x i λj a=>h j ⋯,h i ⋯]
def OH (l:d7) (x:Rat):ap l x=Sr.at' (sr l) x:=by rw [Nw,JX,Sr.at_L]
theorem OI (c d:Int) (a:d≠0):∀ n:Nat,((c ^ n:Int):Rat) / ((d ^ n:Int):Rat)=val (c,d) ^ n
 | 0=>by rw [DT,DT,Rat.pow_zero,show ((1:Int):Rat)=1 from rfl];ext
 | n+1=>by
   have b:=OI c d a n;have e:=AY a;have f:((d ^ n:Int):Rat)≠0:=AY (Int.pow_ne_zero a);rw [Df,Df,CG,CG,Dg,<-b];show _=_*((c:Rat) / (d:Rat));ext
def oW (h:My K vs H Q E):wY K { nx:=λ_ H'=>Q .non H',rt:=Q } (L2.start ["_law_kind_here","_law_g","_law_parts","_law_c","_law_n","_law_a","_law_b","_law_tall_here","_law_place","_law_total","_law_i","_law_part","_law_told"] vs) H:=by
 obtain ⟨p,w,v,e,P,R,n,a,b,T,B,ps,L,c,d,rfl,g,FG,gT,gB,lT,lB,hv,FL,lL,hp,J,he,lo,bc,bd,k⟩:=h;unfold Nm at he;have n2:=g.n2;have n4:=g.n4;have d0:=lo.pos;have r:∀ i:Nat,d ^ i≠0:=λi=>Int.pow_ne_zero (AV d0);have va:=II g.la g.a0;have lp:=FL.length;have pw:∀ {x:Int} (i:Nat),i<=4->Bd 3 x->Bd 13 (x ^ i):=λi hi hx=>(hx.pow i).mono ⋯;refine Qb (AO rfl ⟨p,_,rfl,g.at',rfl,_,_,rfl,_,_,rfl,_,_,rfl,rfl,?_⟩);show Ta K _ [some (.ref p),some (.ref w),some (.ref v),some (.ref e),some (.int (n:Int)),some (.ref P),some (.ref R),none,none,none,none,none,none] H;refine BC (Af (Af (A9 rfl he rfl (AO rfl ⟨c,n,rfl,n4,bc,Af (A9 rfl he rfl (AO rfl ⟨d,n,rfl,n4,bd,⟨_,_,rfl,r n,λy h1=>?_⟩⟩))⟩))));have tl:=DB (n:=c ^ n) (r n);have tb:=Dk (r n) (pw n n4 bc) (pw n n4 bd);have tv:val (Ao (c ^ n) (d ^ n))=val (c,d) ^ n:=by rw [DC (r n),OI c d (AV d0)]
 generalize Ao (c ^ n) (d ^ n)=S at tl tb tv ⊢;have s1:=AQ h1 (.tup [.int S.1,.int S.2]);show TZ K _ [some (.ref p),some (.ref w),some (.ref v),some (.ref e),some (.int (n:Int)),some (.ref P),some (.ref R),some (.ref y),none,none,none,none,none] _;have U:=g.same s1;have an:upd H y (.tup [.int S.1,.int S.2]) y=some (HO.tup [V.int S.1,V.int S.2]):=upd_same;generalize upd H y (.tup [.int S.1,.int S.2])=H1 at s1 U an ⊢;refine BC (Af (Af (AO rfl (CJ (A9 rfl U.at2 rfl ⟨_,rfl,A9 rfl U.at2 rfl ⟨Bi,λr2 h2=>?_⟩⟩)))));have s2:=AQ h2 (.tup [.int (-b.1),.int b.2]);refine ⟨y,r2,S,(-b.1,b.2),rfl,⟨y,rfl,s2 _ _ an⟩,⟨r2,rfl,upd_same⟩,tl.pos,g.lb.pos,tb.1.mono ∅,tb.2.mono ∅,g.bb.1.neg.mono ∅,g.bb.2.mono ∅,λr3 z3 h3 l3 v3 b3=>?_⟩;have s3:=AQ h3 (.tup [.int z3.1,.int z3.2]);have W:=b3 13 40 tb.1 tb.2 g.bb.1.neg (g.bb.2.mono ∅);have ao:=(U.same s2).same s3;refine Af (A9 rfl ao.at1 rfl (A9 rfl ao.at1 rfl ⟨_,_,rfl,g.a0,λr4 h4=>?_⟩));have il:=DB (n:=a.2) g.a0;have ib:=Dk g.a0 (g.ba.2.mono (show 20<=40 by decide)) g.ba.1
 have iv:val (Ao a.2 a.1)=(val a)⁻¹:=by
  have z1:=AY g.a0;have z2:=AY (AV g.la.pos);rw [DC g.a0];unfold val;ext
 generalize Ao a.2 a.1=ia at il ib iv ⊢;have s4:=AQ h4 (.tup [.int ia.1,.int ia.2]);refine ⟨r3,r4,z3,ia,rfl,⟨r3,rfl,s4 _ _ upd_same⟩,⟨r4,rfl,upd_same⟩,l3.pos,il.pos,W.1.mono ∅,W.2.mono ∅,ib.1.mono ∅,ib.2.mono ∅,λI o h5 l5 v5 b5=>?_⟩;have s5:=AQ h5 (.tup [.int o.1,.int o.2]);have ar:=b5 54 40 W.1 (W.2.mono ∅) ib.1 ib.2;have b0:=(((s1.trans s2).trans s3).trans s4).trans s5
 have ev:val o=Sr.at' (xq (Sr.X n) a b) (val (c,d)):=by
  unfold xq;rw [v5,v3,iv,tv,bJ,Sr.at_mul (Sr.Pol.num _) ((Sr.pXn n).sub (Sr.Pol.num _)),Sr.at_sub (Sr.pXn n) (Sr.Pol.num _),Sr.at_num,Sr.at_num,Sr.at_Xn];ext
 show TY K _ [some (.ref p),some (.ref w),some (.ref v),some (.ref e),some (.int (n:Int)),some (.ref P),some (.ref R),some (.ref y),some (.ref I),none,none,none,none] _;have b1:upd (upd (upd (upd H1 r2 (.tup [.int (-b.1),.int b.2])) r3 (.tup [.int z3.1,.int z3.2])) r4 (.tup [.int ia.1,.int ia.2])) I (.tup [.int o.1,.int o.2]) I=some (HO.tup [V.int o.1,V.int o.2]):=upd_same;generalize upd (upd (upd (upd H1 r2 (.tup [.int (-b.1),.int b.2])) r3 (.tup [.int z3.1,.int z3.2])) r4 (.tup [.int ia.1,.int ia.2])) I (.tup [.int o.1,.int o.2])=H5 at b0 b1 ⊢;refine BC (CJ (L_ (L_ ⟨Bi,λr6 h6=>?_⟩)));have s6:=AQ h6 (.tup [.int 0,.int 1]);have N:=b0.trans s6;have b2:upd H5 r6 (.tup [.int 0,.int 1]) r6=some (HO.tup [V.int 0,V.int 1]):=upd_same;show TX K _ [some (.ref p),some (.ref w),some (.ref v),some (.ref e),some (.int (n:Int)),some (.ref P),some (.ref R),some (.ref y),some (.ref I),some (.ref r6),none,none,none] _;generalize upd H5 r6 (.tup [.int 0,.int 1])=H6 at s6 N b2 ⊢;have c0:(o.1,o.2)=o:=rfl;refine U8 ⟨_,rfl,v,rfl,⟨_,SqT.of (N _ _ hv)⟩,ForJ.enumT (xs:=ps) (λi σ H'=>i<=n/\∃ (z:Addr) (M:Nu) (A:dM) (D F G:dl),σ=[some (.ref p),some (.ref w),some (.ref v),some (.ref e),some (.int (n:Int)),some (.ref P),some (.ref R),some (.ref y),some (.ref I),some (.ref z),D,F,G]/\Same H6 H'/\isN H' (.ref z) M/\Low M.1 M.2/\Bd (500000*i+1) M.1/\Bd (500000*i+1) M.2/\val M=sR A (val (c,d)) i/\∀ j,j<i->ap (F_ L j) (val o)≠0/\A j*ap (F_ L j) (val o)=ap (O_ L j) (val o)) ⟨Ae _,r6,(0,1),λ_=>0,none,none,none,rfl,Same.refl H6,⟨r6,rfl,b2⟩,FH,Cn _,Bd.one.mono ∅,O' _,λj Y=>absurd Y ⋯⟩ ?_ ?_ ?_⟩
 ·rintro i σ H' _ ⟨_,z,M,A,D,F,G,_,s7,_⟩;exact s7 _ _ (N _ _ hv)
 ·rintro i x ee σ H7 hx ⟨_,z,M,A,D,F,G,rfl,s7,ht,lt,a2,a3,et,Y⟩ bg;have hi:i<n:=by have:=(Bw.mp hx).1;omega
  obtain ⟨f,rfl,F0⟩:=FL.get hx;have se:=AQ bg (.tup [.int (i:Int),.ref f]);have m:=(N.trans s7).trans se;obtain ⟨c1,gt,gb,c2,c3⟩:=hp i hi;refine ⟨ee,_,rfl,upd_same,rfl,_,_,rfl,_,_,rfl,rfl,?_⟩;show TU K _ [some (.ref p),some (.ref w),some (.ref v),some (.ref e),some (.int (n:Int)),some (.ref P),some (.ref R),some (.ref y),some (.ref I),some (.ref z),some (.int (i:Int)),some (.ref f),G] _;have Z:=(s6.trans (s7.trans se)) _ _ b1;have b4:isN (upd H7 ee (.tup [.int (i:Int),.ref f])) (.ref z) M:=by obtain ⟨q,eq,hq⟩:=ht;exact ⟨q,eq,se _ _ hq⟩
  generalize upd H7 ee (.tup [.int (i:Int),.ref f])=H8 at se m Z b4 ⊢;refine BC (Af (AO rfl (AO rfl ⟨f,I,_,_,o.1,o.2,6000,rfl,F0.same m,Z,gt,gb,∅,⋯,⋯,l5,ar.1.mono ∅,(ar.2.mono ∅),λu9 H9 s9 a4=>?_⟩)));show TR K _ [some (.ref p),some (.ref w),some (.ref v),some (.ref e),some (.int (n:Int)),some (.ref P),some (.ref R),some (.ref y),some (.ref I),some (.ref z),some (.int (i:Int)),some (.ref f),some u9] H9;rcases a4 with ⟨_,rfl⟩ | ⟨nb,zz,⟨az,rfl,a6⟩,lz,ab,ad,ez⟩
  ·exact Gh (FK (A6 (AO rfl (L_ ⟨rfl,_,rfl,Ap (λ_=>Bt (L_ (k H9 (m.trans s9)))) (λcc=>absurd (kB rfl) cc)⟩))))
  refine Gh (FK (A6 (AO rfl (L_ ⟨rfl,_,rfl,Ap (λcc=>nomatch kC cc) (λ_=>?_)⟩))));show TQ K _ [some (.ref p),some (.ref w),some (.ref v),some (.ref e),some (.int (n:Int)),some (.ref P),some (.ref R),some (.ref y),some (.ref I),some (.ref z),some (.int (i:Int)),some (.ref f),some (.ref az)] H9;have b6:=(m.trans s9) _ _ he;refine Ip (Af (AO rfl (Af (AO rfl (Af (Af (A9 rfl b6 rfl (AO rfl ⟨c,i,rfl,⋯,bc,Af (A9 rfl b6 rfl (AO rfl ⟨d,i,rfl,⋯,bd,⟨_,_,rfl,r i,λb7 bi=>?_⟩⟩))⟩))))))));have b8:=DB (n:=c ^ i) (r i);have O:=Dk (r i) (pw i ⋯ bc) (pw i ⋯ bd);have b9:val (Ao (c ^ i) (d ^ i))=val (c,d) ^ i:=by rw [DC (r i),OI c d (AV d0)]
  generalize Ao (c ^ i) (d ^ i)=tz at b8 O b9 ⊢;have ba:=AQ bi (.tup [.int tz.1,.int tz.2]);refine ⟨az,b7,zz,tz,rfl,⟨az,rfl,ba _ _ a6⟩,⟨b7,rfl,upd_same⟩,lz.pos,b8.pos,ab.mono ∅,ad.mono ∅,O.1.mono ∅,O.2.mono ∅,λbb aj bl bm bn bp=>?_⟩;have bq:=AQ bl (.tup [.int aj.1,.int aj.2]);have C:=bp 400000 13 ab ad O.1 O.2;have a0:=(s9.trans ba).trans bq;obtain ⟨_,u,al⟩:=b4;injection u with u;subst u;refine ⟨z,bb,M,aj,rfl,⟨z,rfl,a0 _ _ al⟩,⟨bb,rfl,upd_same⟩,lt.pos,bm.pos,a2.mono ⋯,a3.mono ⋯,C.1.mono ∅,C.2.mono ∅,λbf X br bs bt bv=>?_⟩;have bw:=AQ br (.tup [.int X.1,.int X.2]);have a1:=bv (500000*i+1) 400013 a2 a3 C.1 C.2;refine ⟨hi,bf,X,λj=>if j=i then val zz else A j,_,_,_,rfl,(s7.trans se).trans (a0.trans bw),⟨bf,rfl,upd_same⟩,bs,a1.1.mono ⋯,a1.2.mono ⋯,?_,λj c4=>?_⟩
  ·show val X=sR _ _ i+(if i=i then val zz else A i)*_;rw [bt,et,bn,b9,kA rfl,VL (v:=A) (w:=λj=>if j=i then val zz else A j) _ i λj Y=>by rw [lZ ⋯]]
  ·show _/\(if j=i then val zz else A j)*_=_;by_cases cj:j=i
   ·rw [kA cj,cj];exact ⟨nb,ez⟩
   ·rw [lZ cj];exact Y j ⋯
 ·rintro σ H7 ⟨_,z,M,A,D,F,G,rfl,s7,ht,lt,a2,a3,et,Y⟩;rw [show ps.length=n by omega] at et Y;show TW K _ [some (.ref p),some (.ref w),some (.ref v),some (.ref e),some (.int (n:Int)),some (.ref P),some (.ref R),some (.ref y),some (.ref I),some (.ref z),D,F,G] H7;have m:=N.trans s7;refine BC (Af (AO rfl (AO rfl ⟨w,e,T,B,c,d,6000,rfl,FG.same m,m _ _ he,gT,gB,∅,⋯,⋯,lo,bc.mono ∅,bd.mono ∅,λu9 H9 s9 a4=>?_⟩)));show TV K _ [some (.ref p),some (.ref w),some (.ref v),some (.ref e),some (.int (n:Int)),some (.ref P),some (.ref R),some (.ref y),some (.ref I),some (.ref z),D,F,some u9] H9;rcases a4 with ⟨_,rfl⟩ | ⟨nb,zz,⟨az,rfl,a6⟩,lz,ab,ad,ez⟩
  ·exact Bt (A6 (AO rfl (L_ ⟨rfl,_,rfl,Ap (λ_=>k H9 (m.trans s9)) (λcc=>absurd (kB rfl) cc)⟩)))
  refine Bt (A6 (AO rfl (L_ ⟨rfl,_,rfl,Ap (λcc=>nomatch kC cc) (λ_=>?_)⟩)));obtain ⟨_,u,al⟩:=ht;injection u with u;subst u;have pu:=FR (Sr.pXn n) a b;have pq:∀ l:d7,Sr.Pol (Sr.cm (xq (Sr.X n) a b) (sr l)):=λl=>Sr.cm_pol pu (AW l);have ac:∀ l:d7,Sr.at' (Sr.cm (xq (Sr.X n) a b) (sr l)) (val (c,d))=ap l (val o):=λl=>by rw [Sr.at_cm pu (AW l),<-ev,OH]
  have j1:=Sr.j_at (p:=λj=>Sr.cm (xq (Sr.X n) a b) (sr (O_ L j))) (q:=λj=>Sr.cm (xq (Sr.X n) a b) (sr (F_ L j))) (λj=>pq _) (λj=>pq _) (val (c,d)) (sR A (val (c,d))) rfl A n λj am=>⟨by
   show A j*Sr.at' (Sr.cm _ _) _=Sr.at' (Sr.cm _ _) _;rw [ac,ac];exact (Y j am).2,rfl⟩
  have j2:=Sr.jD_at (q:=λj=>Sr.cm (xq (Sr.X n) a b) (sr (F_ L j))) (λj=>pq _) (val (c,d)) n λj am=>by
   show Sr.at' (Sr.cm _ _) _≠0;rw [ac];exact (Y j am).1
  have J:sr T*Sr.jD (λj=>Sr.cm (xq (Sr.X n) a b) (sr (F_ L j))) n=Sr.jN (λj=>Sr.cm (xq (Sr.X n) a b) (sr (O_ L j))) (λj=>Sr.cm (xq (Sr.X n) a b) (sr (F_ L j))) n*sr B:=J;have j3:=congrArg (λf=>Sr.at' f (val (c,d))) J;have j3:Sr.at' (sr T*_) _=Sr.at' (_*sr B) _:=j3;rw [Sr.at_mul (AW T) (Sr.jD_pol (λj=>pq _) n),Sr.at_mul (Sr.jN_pol (λj=>pq _) (λj=>pq _) n) (AW B),j1,<-OH,<-OH,<-ez] at j3
  have bx:val zz=val M:=by
   rw [et];generalize Sr.at' (Sr.jD (λj=>Sr.cm (xq (Sr.X n) a b) (sr (F_ L j))) n) (val (c,d))=JD at j2 j3;generalize sR A (val (c,d)) n=tn at j3 ⊢;generalize ap B (val (c,d))=eb at nb j3;have:(val zz - tn)*(eb*JD)=0:=by ext
   rcases Cg.mp this with h | h
   ·ext
   ·exact absurd h (λh=>(Cg.mp h).elim nb j2)
  have bz:=EU lz lt bx;subst bz;exact A6 (AO rfl (AO rfl ⟨_,_,true,FI ⟨az,rfl,a6⟩,FI ⟨z,rfl,s9 _ _ al⟩,bu _ 7,bu _ 7,by simp,k H9 (m.trans s9)⟩))
theorem OJ {H:Hp}:∀ {ps:dj} {L:List (d7×d7)},FFs H ps L->RepA H ps (L.map λt=>Jb t.1 t.2)
 | [],[],_=>.nil
 | [],_::_,h=>h.elim
 | _::_,[],h=>h.elim
 | _::_,_::_,h=>.cons (let ⟨_,e,f⟩:=h.1;e ▸ Jc f) (OJ h.2)
def VM (L:List (d7×d7)):W.kqdOk 8 (.tuple (L.map λt=>Jb t.1 t.2))=true:=by
 simp only [W.kqdOk,List.all_map,FV,Function.comp];intro t _;exact cD t.1 t.2 4
def oZ {K:W.Frag} {c:TE} {g:TG} {d rest:TS} {D:Ends} {b:L2.St} {H:Hp} (h:c b H (λx e=>∃ a,x=.ref a/\(∃ f,SqL K e a f)/\ForL K a g d { D with nx:=rest D } b e)):AI (BH (C7 K c) g d) rest D b H:=h
def nE {K:W.Frag} {c:TE} {g:TG} {d rest:TS} {D:Ends} {b:L2.St} {H:Hp} (h:c b H (λx e=>∃ a,x=.ref a/\(∃ f,SqT K e a f)/\ForT K a g d { D with nx:=rest D } b e)):AI (BH (C8 K c) g d) rest D b H:=h
def nF {xs:dj} {w:Nat} {v:V} (h:xs.length=w+1) (a:xs[w]?=some v):N_ xs (-1)=some v:=by
 unfold N_ ak;rw [lZ ∅,kA ⋯,show ((-1:Int)+(xs.length:Int)).toNat=w by omega];exact a
def nG {X Y a b:d7} {N D:Sr} (h:Lw X Y) (h':Lw a b) (c:Sr.Pol D) (d:D≠0) (e:sr X*D=N*sr Y) (f:sr a*D=N*sr b):X=a/\Y=b:=by
 refine h.uniq' h' c d ?_;rw [show sr X*sr b*D=sr X*D*sr b by ext,e,show sr a*sr Y*D=sr a*D*sr Y by ext,f];ext
def nH {a b:Nu} {n:Nat} (n0:0<n) (k:val a≠0) {L M:List (d7×d7)} {T B:d7} (G:sr B≠0) (I:L.length=n) (J:M.length=n) (A:∀ i,i<n->Lw (O_ L i) (F_ L i)) (C:∀ i,i<n->Lw (O_ M i) (F_ M i)) (o:Jn (xq (Sr.X n) a b) n L T B) (u:Jn (xq (Sr.X n) a b) n M T B):L=M:=by
 have d:∀ l:d7,Sr.Pol (Sr.cm (xq (Sr.X 1) a b) (sr l)):=λl=>Sr.cm_pol (FR (Sr.pXn 1) a b) (AW l);have N:∀ l:d7,Sr.cm (xq (Sr.X n) a b) (sr l)=Sr.cm (Sr.X n) (Sr.cm (xq (Sr.X 1) a b) (sr l)):=λl=>(Us n a b (AW l)).symm;have D:∀ {T B:d7},Lw T B->Sr.cm (xq (Sr.X 1) a b) (sr B)≠0:=λv=>Np k ⋯ (AW _) (Bu v.lb v.nb v.ne);unfold Jn at o u;simp only [N] at o u;rw [Sr.jD_cm (q:=λi=>Sr.cm (xq (Sr.X 1) a b) (sr (F_ L i))) (λi=>d _)] at o;rw [Sr.jD_cm (q:=λi=>Sr.cm (xq (Sr.X 1) a b) (sr (F_ M i))) (λi=>d _)] at u;have O:=Sr.jD_pol (q:=λi=>Sr.cm (xq (Sr.X 1) a b) (sr (F_ L i))) (λi=>d _) n;have j:=Sr.jD_pol (q:=λi=>Sr.cm (xq (Sr.X 1) a b) (sr (F_ M i))) (λi=>d _) n;have z:=Sr.jD_ne (q:=λi=>Sr.cm (xq (Sr.X 1) a b) (sr (F_ M i))) (λi=>d _) n λi f=>D (C i f);have pc:∀ l:d7,Sr.Pol (Sr.cm (Sr.X n) (Sr.cm (xq (Sr.X 1) a b) (sr l))):=λl=>Sr.cm_pol (Sr.pXn n) (d l);have P:=Sr.jN_pol (p:=λi=>Sr.cm (Sr.X n) (Sr.cm (xq (Sr.X 1) a b) (sr (O_ L i)))) (q:=λi=>Sr.cm (Sr.X n) (Sr.cm (xq (Sr.X 1) a b) (sr (F_ L i)))) (λi=>pc _) (λi=>pc _) n;have m:=Sr.jN_pol (p:=λi=>Sr.cm (Sr.X n) (Sr.cm (xq (Sr.X 1) a b) (sr (O_ M i)))) (q:=λi=>Sr.cm (Sr.X n) (Sr.cm (xq (Sr.X 1) a b) (sr (F_ M i)))) (λi=>pc _) (λi=>pc _) n
 have e:Sr.jN (λi=>Sr.cm (Sr.X n) (Sr.cm (xq (Sr.X 1) a b) (sr (O_ M i)))) (λi=>Sr.cm (Sr.X n) (Sr.cm (xq (Sr.X 1) a b) (sr (F_ M i)))) n*Sr.cm (Sr.X n) (Sr.jD (λi=>Sr.cm (xq (Sr.X 1) a b) (sr (F_ L i))) n)=Sr.jN (λi=>Sr.cm (Sr.X n) (Sr.cm (xq (Sr.X 1) a b) (sr (O_ L i)))) (λi=>Sr.cm (Sr.X n) (Sr.cm (xq (Sr.X 1) a b) (sr (F_ L i)))) n*Sr.cm (Sr.X n) (Sr.jD (λi=>Sr.cm (xq (Sr.X 1) a b) (sr (F_ M i))) n):=by
  refine Sr.cancel (m.mul (Sr.cm_pol (Sr.pXn n) O)) (P.mul (Sr.cm_pol (Sr.pXn n) j)) (AW B) G ?_;have r:∀ x y w:Sr,x*y*w=x*w*y:=λx y w=>by ext
  rw [r,<-u,r,o];exact r _ _ _
 have R:∀ i,i<n->L[i]?=M[i]?:=λi f=>by
  have h:=Sr.parts_of n0 (p:=λi=>Sr.cm (xq (Sr.X 1) a b) (sr (O_ L i))) (q:=λi=>Sr.cm (xq (Sr.X 1) a b) (sr (F_ L i))) (λi=>d _) (λi=>d _) (λi f=>D (A i f)) m j e f;have S:=(Sr.j_st n0 (p:=λi=>Sr.cm (xq (Sr.X 1) a b) (sr (O_ M i))) (q:=λi=>Sr.cm (xq (Sr.X 1) a b) (sr (F_ M i))) (λi=>d _) (λi=>d _) f n (AT _)).2 f
  have U:Sr.cm (xq (Sr.X 1) a b) (sr (O_ L i))*Sr.cm (xq (Sr.X 1) a b) (sr (F_ M i))=Sr.cm (xq (Sr.X 1) a b) (sr (O_ M i))*Sr.cm (xq (Sr.X 1) a b) (sr (F_ L i)):=by
   refine Sr.cancel ((d _).mul (d _)) ((d _).mul (d _)) j z ?_;have r:∀ x y w:Sr,x*y*w=x*w*y:=λx y w=>by ext
   rw [r,<-h,r,S];exact r _ _ _
  have F:=congrArg (Sr.cm (bk a b)) U;rw [Sr.cm_mul _ (d _) (d _),Sr.cm_mul _ (d _) (d _),Jh k (AW _),Jh k (AW _),Jh k (AW _),Jh k (AW _)] at F;obtain ⟨W,X⟩:=(A i f).uniq (C i f) F
  have g:∀ {L:List (d7×d7)},L.length=n->L[i]?=some (O_ L i,F_ L i):=λ{L} h=>by
   unfold O_ F_;rw [AU,Az ⋯];rfl
  rw [g I,g J,W,X]
 refine FZ λi=>?_;by_cases c:i<n
 ·exact R i c
 ·rw [Bf ⋯,Bf ⋯]
def nK {H:Hp} {p q:Addr} {ps a:dj} {L:List (d7×d7)} {Q:VK} (hp:H p=some (.tup ps)) (b:H q=some (.tup a)) (Fp:FFs H ps L) (c:FFs H a L) (h:Q (.bl true) H):aS (.ref p) (.ref q) H Q:=
 ⟨_,_,true,.tup hp (OJ Fp),.tup b (OJ c),VM L,VM L,by simp,h⟩
def nL {a:TA} {b:L2.St} {H:Hp} {Q:VK} (h:a b H λc d=>c.length<=sizeLine/\∀ p,d p=none->Q (.ref p) (upd d p (.lst c))):B9 a b H Q:=h
def HB {t:TE} {b:TA} {a:L2.St} {H:Hp} {Q:dj->Hp->Prop} (h:t a H λx c=>b a c λd e=>Q (x::d) e):AA t b a H Q:=h
def nM {a:L2.St} {H:Hp} {Q:dj->Hp->Prop} (h:Q [] H):AC a H Q:=h
def Plc (H:Hp) (v:V):Prop:=∃ (e:Addr) (c d:Int),v=.ref e/\Nm H e c d/\Low c d/\Bd 3 c/\Bd 3 d
def Plc.same {H a:Hp} {v:V} (h:Plc H v) (s:Same H a):Plc a v:=let ⟨e,c,d,b,f,g⟩:=h;⟨e,c,d,b,s _ _ f,g⟩
def Jj {c d:Int} {b:L2.St} {H:Hp} {Q:VK} (lo:Low c d) (e:Bd 3 c) (f:Bd 3 d) (h:∀ v a,Same H a->Plc a v->Q v a):Ak (AA (tC (.int c)) (AA (tC (.int d)) AC)) b H Q:=CJ (L_ (L_ ⟨Bi,λp hp=>h _ _ (AQ hp _) ⟨p,c,d,rfl,upd_same,lo,e,f⟩⟩))
def VN {c d:Int} {b:L2.St} {H:Hp} {Q:VK} (lo:Low (-c) d) (e:Bd 3 (-c)) (f:Bd 3 d) (h:∀ v a,Same H a->Plc a v->Q v a):Ak (AA (R' Bc (tC (.int c))) (AA (tC (.int d)) AC)) b H Q:=⟨c,rfl,Bi,λp hp=>h _ _ (AQ hp _) ⟨p,-c,d,rfl,upd_same,lo,e,f⟩⟩
def nO (h:Ku K vs H Q E):wZ K { nx:=λ_ M=>Q .non M,rt:=Q } (L2.start ["_law_kind_here","_law_g","_law_parts","_law_part","_law_c"] vs) H:=by
 obtain ⟨p,w,q1,q2,n,a,b,T,B,z,rfl,y,FG,SG,po,k⟩:=h;have P:=OC po;have n2:=y.n2;have n4:=y.n4;have va:=II y.la y.a0;have pu:=FR (Sr.pXn n) a b;have pq:∀ l:d7,Sr.Pol (Sr.cm (xq (Sr.X n) a b) (sr l)):=λl=>Sr.cm_pol pu (AW l);refine BC (Af (AO rfl (AO rfl ⟨p,w,q1,q2,n,a,b,T,B,z,rfl,y,FG,SG,po,λr ws L H1 s1 hr Fs lL J a3=>?_⟩)));show Te K _ [some (.ref p),some (.ref w),some (.ref r),none,none] H1;have lw:ws.length=n:=by rw [Fs.length,lL]
 have sh:∀ i,i<n->Lw (O_ L i) (F_ L i)/\Gq 6000 6000 (O_ L i)/\Gq 6000 6000 (F_ L i)/\(O_ L i).length<=8/\(F_ L i).length<=8/\∃ c',Sq c' (zX n z) (O_ L i) (F_ L i):=λi j=>by
  obtain ⟨c,D,N,_,_,_,hs⟩:=a3;obtain ⟨x1,x2,o,C,x5,_,_,x6⟩:=hs i j;exact ⟨x1,x2,o,C,x5,x6⟩
 refine Gh (yF (AO rfl (L_ ⟨_, "tuple", true,rfl,Jy hr,⟨true,rfl,Ap (λc=>by cases c) (λ_=>FK (A6 (Gf (AO rfl ⟨_,ws,rfl,hr,?_⟩))))⟩⟩)));rw [lw];refine A9 rfl (s1 _ _ y.at') rfl ⟨rfl,_,rfl,Ap (λc=>by simp at c) (λ_=>?_)⟩;show Td K _ [some (.ref p),some (.ref w),some (.ref r),none,none] H1;refine nE (AO rfl ⟨r,rfl,⟨_,SqT.of hr⟩,ForT.by (xs:=ws) (λi F M=>i<=n/\∃ o:dl,F=[some (.ref p),some (.ref w),some (.ref r),o,none]/\Same H1 M) ⟨Ae _,none,rfl,Same.refl H1⟩ ?_ ?_ ?_⟩)
 ·rintro i F M _ ⟨_,o,_,s⟩;exact s _ _ hr
 ·rintro i x F H2 hx ⟨_,o,rfl,s2⟩;have j:i<n:=by have:=(Bw.mp hx).1;omega
  obtain ⟨f,rfl,F0⟩:=Fs.get hx;obtain ⟨m,gt,gb,lt,lb,c',Sx⟩:=sh i j;obtain ⟨u1,u,hf,Pu,Pv⟩:=F0.same s2;refine KK ?_;show (BG _ _ _) _ [some (.ref p),some (.ref w),some (.ref r),some (.ref f),none] H2;refine Ca (AO rfl ⟨f,u1,u,_,_,rfl,hf,Pu,Pv,m.lt,m.lb,⋯,⋯,λH3 s3=>⟨true,rfl,Ap (λc=>by cases c) (λ_=>?_)⟩⟩);have G:=s3 _ _ hf;have bX:max (C' (zX n z).A+900) (C' (zX n z).C+C' (zX n z).k+900)<=2500:=P.bX;have zn:(zX n z).n=pW n z:=rfl;have zm:(zX n z).m=z.m:=rfl;have w8:=P.w8;have w1:=P.w1;have m8:=P.m8;have m1:=(FS P.sm).2.2.1;have A:=Sx.rp.all (e:=5) ⋯ ⋯ ⋯ (by have:=P.bX;omega) ∅;have tn:=A.tn;have bm:=A.bm;have xT:O_ L i≠[]->Fp 1700 (AL (O_ L i)):=λt0=>(Sx.fTe (e:=4) ⋯ t0).mono ⋯;have xB:Fp 1700 (AL (F_ L i)):=(Sx.fBe (e:=4) ⋯).mono ⋯;refine FK (A6 (AO rfl (Af (A9 rfl G rfl (A9 rfl G rfl ⟨u1,u,_,_,6000,1700,8,8,4,rfl,Pu.same s3,Pv.same s3,gt,gb,m.ne,lt,lb,xT,xB,⟨∅,∅,∅,∅,∅,∅,∅,∅⟩,∅,λt3 H4 T3 B3 s4 F4 ab e4=>?_⟩)))));have ac:FF H4 f (O_ L i) (F_ L i):=⟨u1,u,s4 _ _ G,Pu.same (s3.trans s4),Pv.same (s3.trans s4)⟩;obtain ⟨t1,t2⟩:=ab.uniq m e4;refine sX ac F4 ⟨t1.symm,t2.symm⟩ ⟨_,rfl,Ap (λc=>by cases c) (λ_=>?_)⟩;obtain ⟨zs,hz,nz⟩:=Pv.same (s3.trans s4);have lz:=nz.length;have l0:(F_ L i).length≠0:=λe=>m.ne (List.eq_nil_of_length_eq_zero e);obtain ⟨vl,ad,aj⟩:=nz.at (i:=(F_ L i).length - 1) ⋯ (0,1);have a4:isN H4 vl (AZ (F_ L i) ((F_ L i).length - 1)):=aj;rw [m.one] at a4;obtain ⟨el,rfl,hl⟩:=a4;have al:N_ zs (-1)=some (V.ref el):=nF (w:=(F_ L i).length - 1) ⋯ ad;refine FK (A6 (A6 (A9 rfl (s4 _ _ G) rfl ⟨1,rfl,yD hz al (CJ (L_ (L_ ⟨Bi,λe5 h5=>?_⟩)))⟩)));have s5:=AQ h5 (.tup [.int 1,.int 1]);refine ⟨D1 (1,1),D1 (1,1),true,FI ⟨el,rfl,s5 _ _ hl⟩,FI ⟨e5,rfl,upd_same⟩,bu _ 7,bu _ 7,by simp,⟨_,rfl,Ap (λc=>by cases c) (λ_=>?_)⟩⟩;exact ⟨j,some (.ref f),rfl,((s2.trans s3).trans s4).trans s5⟩
 rintro F H2 ⟨_,o,rfl,s2⟩;show Tc K _ [some (.ref p),some (.ref w),some (.ref r),o,none] H2;have am:=s1.trans s2
 have bz:z.b<=1799:=by
  show max (C' z.A+900) (C' z.C+C' z.k+900)<=1799;have:=P.cp;have:=P.cq;omega
 have z9:=P.n9;have z8:=P.m8;have zz:=FS P.sm;have AG:=SG.rp.all (e:=5) ⋯ ⋯ ⋯ ⋯ ∅;have gn:=AG.tn;have gm:=AG.bm;refine oZ (nL (HB (Jj FH ∅ ∅ λu H3 t3 P1=>HB (Jj ⟨∅,∅⟩ ∅ ∅ λO H4 t4 P2=>HB (VN ⟨∅,∅⟩ ∅ ∅ λR H5 t5 P3=>HB (Jj ⟨∅,∅⟩ ∅ ∅ λS H6 t6 P4=>HB (VN ⟨∅,∅⟩ ∅ ∅ λU H7 t7 P5=>HB (Jj ⟨∅,∅⟩ ∅ ∅ λW H8 t8 P6=>HB (Jj ⟨∅,∅⟩ ∅ ∅ λZ H9 t9 P7=>nM ⟨sz (show 7<=1000000 by decide),λls an=>⟨ls,rfl,⟨_,SqL.of upd_same⟩,?_⟩⟩)))))))));have tl:=AQ an (.lst [u,O,R,S,U,W,Z])
 have all:∀ x∈[u,O,R,S,U,W,Z],Plc (upd H9 ls (.lst [u,O,R,S,U,W,Z])) x:=by
  have c8:=t9.trans tl;have c7:=t8.trans c8;have c6:=t7.trans c7;have c5:=t6.trans c6;have c4:=t5.trans c5;have c3:=t4.trans c4;refine Cv.mpr ⟨P1.same c3,Cv.mpr ⟨P2.same c4,Cv.mpr ⟨P3.same c5,Cv.mpr ⟨P4.same c6,Cv.mpr ⟨P5.same c7,Cv.mpr ⟨P6.same c8,Cv.mpr ⟨P7.same tl,λx hx=>by cases hx⟩⟩⟩⟩⟩⟩⟩
 have a0:upd H9 ls (.lst [u,O,R,S,U,W,Z]) ls=some (.lst [u,O,R,S,U,W,Z]):=upd_same;have a1:=(((((((am.trans t3).trans t4).trans t5).trans t6).trans t7).trans t8).trans t9).trans tl;have a2:Same H1 (upd H9 ls (.lst [u,O,R,S,U,W,Z])):=(((((((s2.trans t3).trans t4).trans t5).trans t6).trans t7).trans t8).trans t9).trans tl;generalize upd H9 ls (.lst [u,O,R,S,U,W,Z])=Hl at all a0 a1 a2 ⊢;refine ForL.by (xs:=[u,O,R,S,U,W,Z]) (λi F M=>∃ C:dl,F=[some (.ref p),some (.ref w),some (.ref r),o,C]/\Same Hl M) ⟨none,rfl,Same.refl Hl⟩ ?_ ?_ ?_
 ·rintro i F M _ ⟨C,_,s⟩;exact SqL.of (s _ _ a0)
 ·rintro i x F Hm hx ⟨C,rfl,sm⟩;obtain ⟨e,c,d,rfl,he,lo,bc,bd⟩:=(all x (Bj hx)).same sm;have v:=a1.trans sm;have g:=a2.trans sm;refine KK ?_;show (BG _ _ _) _ [some (.ref p),some (.ref w),some (.ref r),o,some (.ref e)] Hm;refine yE (AO rfl (AO rfl (AO rfl (AO rfl ⟨p,w,r,e,q1,q2,n,a,b,T,B,ws,L,c,d,rfl,y.same v,FG.same v,AG.gt.mono ⋯ ⋯,AG.gb.mono ⋯ ⋯,⋯,⋯,g _ _ hr,Fs.same g,lL,λi j=>let ⟨x1,x2,o,C,x5,_⟩:=sh i j;⟨x1,x2,o,C,x5⟩,J,he,lo,bc,bd,λM s'=>⟨true,rfl,Ap (λc=>by cases c) (λ_=>⟨some (.ref e),rfl,sm.trans s'⟩)⟩⟩))))
 rintro F Hm ⟨C,rfl,sm⟩;have v:=a1.trans sm;have g:=a2.trans sm;show Tb K _ [some (.ref p),some (.ref w),some (.ref r),o,C] Hm;refine Bt (A6 (Af (AO rfl (AO rfl ⟨p,r,q1,q2,ws,n,a,b,L,z,rfl,y.same v,g _ _ hr,Fs.same g,lL,a3,po,λr5 X Y Hn sn Fn ao ar=>AO rfl ?_⟩))));have pD:=Sr.jD_pol (q:=λi=>Sr.cm (xq (Sr.X n) a b) (sr (F_ L i))) (λi=>pq _) n;have D0:=Sr.jD_ne (q:=λi=>Sr.cm (xq (Sr.X n) a b) (sr (F_ L i))) (λi=>pq _) n λi j=>Np va ⋯ (AW _) (Bu (sh i j).1.lb (sh i j).1.nb (sh i j).1.ne);have I:=v.trans sn;refine sW Fn (FG.same I) (nG ao SG.lw pD D0 ar J) ⟨true,rfl,Ap (λ_=>?_) (λc=>absurd rfl c)⟩;refine A6 (Af (AO rfl (AO rfl ⟨p,w,q1,q2,n,a,b,T,B,z,rfl,y.same I,FG.same I,SG,po,λr6 b2 L6 H6 s6 az b0 b1 J6 a6=>AO rfl ?_⟩)));have e6:L6=L:=nH ⋯ va (Bu SG.lw.lb SG.lw.nb SG.lw.ne) b1 lL (λi j=>by obtain ⟨c,D,N,_,_,_,hs⟩:=a6;exact (hs i j).1) (λi j=>(sh i j).1) J6 J;subst e6;exact nK az ((g.trans (sn.trans s6)) _ _ hr) b0 (Fs.same (g.trans (sn.trans s6))) (k _ (I.trans s6))
def KindAt.tp {H c:Hp} {p d e:Addr} {n:Nat} {a b:Nu} (h:KindAt H p d e n a b) (s:Tp H c):KindAt c p d e n a b:=
 { h with at':=s _ _ h.at',at1:=s _ _ h.at1,at2:=s _ _ h.at2 }
def Kp.over {a H c:Hp} {p:Addr} (s:Same a H) (k:Kp p H c) (n:a p=none):Same a c:=λb o h=>k b o (B5 h n) (s b o h)
def nU {n:Nat} (a:2<=n) (b:n<=4):N_ [V.int 3,V.int 2,V.int 1] ((n:Int) - 2)=some (.int ((5 - n:Nat):Int)):=by
 have h:n=2\/n=3\/n=4:=by omega
 rcases h with rfl | rfl | rfl <;> rfl
noncomputable def OK (n:Nat):Sz:=⟨12,4,3*(12 - 2*n),12 - 2*n,1⟩
def VO {n:Nat} (a:2<=n) (b:n<=4):bH n (fz (5 - n+1))=true/\bH n (OK n)=true:=by
 have h:n=2\/n=3\/n=4:=by omega
 rcases h with rfl | rfl | rfl <;> exact ⟨by decide +kernel,by decide +kernel⟩
def P3 (l:d7):Prop:=∀ q∈l,q.2=1/\q.1.natAbs<=3
def P3.low {l:d7} (h:P3 l):AX l:=λq a=>by
 rw [(h q a).1];exact ⟨∅,Int.gcd_one_right _⟩
def P3.ov {l:d7} (h:P3 l):Ov l 1:=⟨∅,λq a=>by rw [(h q a).1];exact Int.dvd_refl _⟩
def P3.row {l:d7} (h:P3 l):∀ z∈P_ l 1,z.natAbs<=3:=λz a=>by
 obtain ⟨q,b,rfl⟩:=BR.mp a;obtain ⟨c,d⟩:=h q b;show (q.1*(1 / q.2)).natAbs<=3;rw [c,Int.ediv_one,Int.mul_one];exact d
def P3.trim {l:d7} (h:P3 l):P3 (trim l):=λq a=>h q (DL a)
def P3.gq {l:d7} (h:P3 l):Gq 2 2 (Bs.trim l):=⟨h.trim.low,Dx l,1,h.trim.ov,∅,λz a=>by
 have:=h.trim.row z a;show z.natAbs<2 ^ 2;omega⟩
theorem VP {c:Nat}:∀ {Z:dq},(∀ z∈Z,z.natAbs<=c)->L1 Z<=c*Z.length
 | [],_=>Ae _
 | z::Z,h=>by
   have b:=VP (c:=c) (Z:=Z) λy a=>h y (CD _ a);have d:=h z CC;show z.natAbs+L1 Z<=c*(Z.length+1);rw [Nat.mul_add];omega
def P3.iz {l:d7} {n:Nat} (h:P3 l) (a:l.length<=n):Iz (3*n) n (sr l):=by
 have b:(P_ l 1).length=l.length:=AR ..;refine ⟨P_ l 1,Sr.ext' λk=>?_,A7 (VP h.row) ⋯,⋯⟩;show (((P_ l 1).getD k 0:Int):Rat)=B_ l k;rw [DY h.low h.ov k,show ((1:Int):Rat)=1 from rfl];ext
def VQ {K:W.Frag} {r:Addr} {H:Hp} {Q:VK} {u v x A B C D:dl} {n:Nat} (N:n<=9) (F:Src H r) (k:∀ (w:Addr) (xs:dj) (l:d7) (a:Hp),Src a r->Kp r H a->a w=some (.lst xs)->Nums a xs l->l.length=n->P3 l->Q (.ref w) a) :
  CompJ (ay 0 n) [none,some 2] (AH 0) (Ak (AA (A_ BA (AE (CT K) [] E0 (AA (AB 1) (AA (tC (.int 7)) AC))) (tC (.int 3))) (AA (tC (.int 1)) AC))) [u,v,some (.ref r),x,A,B,C,D] Q H:=by
 refine CompJ.range (n:=n) (λi b a=>i<=n/\Src a r/\Kp r H a/\∃ l,Nums a b l/\l.length=i/\P3 l) ⟨Ae _,F,λ_ _ _ h=>h,[],trivial,rfl,λ_ h=>nomatch h⟩ ?_ ?_ ?_
 ·rintro i b a ⟨G,_,_,l,c,e,_⟩;exact ⟨G,sz (by rw [c.length];omega)⟩
 ·rintro i b a I ⟨_,f,g,l,c,e,j⟩;refine KK (CJ (A6 (Af (AO rfl (L_ ⟨r,7,rfl,f,∅,λd O P R J q=>L_ ⟨_,_,rfl,rfl,L_ ⟨Bi,λp hp=>?_⟩⟩⟩)))));have m:=AQ hp (.tup [.int (d - 3),.int 1]);refine ⟨I,J.same m,(g.trans q).same m,l++[(d - 3,1)],((c.tp (f.tp q)).tp (M_ m)).append (Nums.one ⟨p,rfl,upd_same⟩),by rw [Cq,e];rfl,λy L=>?_⟩;rcases EA.mp L with z | z
  ·exact j y z
  ·rw [B7.mp z];exact ⟨rfl,by show (d - 3).natAbs<=3;omega⟩
 ·rintro b a ⟨_,f,g,l,c,e,j⟩ w M;have o:=AQ M (.lst b);exact k w b l _ (f.same o) (g.same o) upd_same (c.tp (M_ o)) e j
def nV (h:KP K vs H Q E):vB K { nx:=λ_ H'=>Q .non H',rt:=Q } (L2.start ["_law_script","_law_k","_law_source_here","_law_kind_here","_law_most","_law_n","_law_bottom","_law_top"] vs) H:=by
 obtain ⟨j,ns,rfl,hs,a0,k⟩:=h;refine N3 ⟨3,rfl,∅,∅,ForR.by (n:=3) (λi σ H'=>∃ v x2 D p F u q:dl,σ=[some (.ref j),v,x2,D,p,F,u,q]/\Same H H') ⟨none,none,none,none,none,none,none,rfl,Same.refl H⟩ ?_ ?_⟩
 ·rintro kk σ H1 hi ⟨v,x2,D,p,F,u,q,rfl,s1⟩;rw [Int.zero_add];show Ti K _ [some (.ref j),some (.int (kk:Int)),x2,D,p,F,u,q] H1;refine BC (Af (AO rfl (AO rfl ⟨j,ns,(kk:Int),rfl,s1.seq hs,⋯,⋯,a0,λr H2 r0 s2 hr=>?_⟩)));show Th K _ [some (.ref j),some (.int (kk:Int)),some (.ref r),D,p,F,u,q] H2;refine BC (Ca (AO rfl ⟨r,rfl,hr,λt P G n a b H3 R I k3=>?_⟩));have s3:Same H1 H3:=Kp.over s2 k3 r0;have n2:=R.n2;have n4:=R.n4;show Tg K _ [some (.ref j),some (.int (kk:Int)),some (.ref r),some (.ref t),p,F,u,q] H3;refine BC (A6 ⟨Fw,λe he=>?_⟩);have se:=AQ he (.lst [.int 3,.int 2,.int 1]);refine A6 (A9 rfl (se _ _ R.at') rfl (L_ ⟨_,_,rfl,rfl,KJ upd_same (nU n2 n4) ?_⟩));show Tf K _ [some (.ref j),some (.int (kk:Int)),some (.ref r),some (.ref t),some (.int ((5 - n:Nat):Int)),F,u,q] _;refine Af (AO rfl (Hb (AO rfl (AO rfl (AO rfl ⟨r,5 - n,rfl,I.same se,⋯,λp6 T B H6 F6 S6 bl k6=>?_⟩)))));have tp:Tp H3 H6:=(M_ se).trans ((I.same se).tp k6);have sa:Same H1 H6:=Kp.over (s3.trans se) k6 r0;exact ⟨t,p6,P,G,n,a,b,T,B,fz (5 - n+1),rfl,R.tp tp,F6,S6,(VO n2 n4).1,λH7 s7=>⟨true,rfl,Ap (λc=>by cases c) (λ_=>⟨_,_,_,_,_,_,_,rfl,s1.trans (sa.trans s7)⟩)⟩⟩
 ·rintro σ H1 ⟨v,x2,D,p,F,u,q,rfl,s1⟩;show To K _ [some (.ref j),v,x2,D,p,F,u,q] H1;refine BC (Af (AO rfl (L_ ⟨j,ns,3,rfl,s1.seq hs,∅,∅,a0,λr H2 r0 s2 hr=>?_⟩)));show Tn K _ [some (.ref j),v,some (.ref r),D,p,F,u,q] H2;refine Gh (FK (A6 (Af (AO rfl (L_ ⟨r,8,rfl,hr,∅,λd H3 d0 d1 I k3=>L_ ⟨rfl,_,rfl,Ap (λ_=>?_) (λ_=>k H3)⟩⟩)))));show Tm K _ [some (.ref j),v,some (.ref r),D,p,F,u,q] H3;refine BC (A6 (L_ (Af (AO rfl (L_ ⟨r,3,rfl,I,∅,λe H4 e0 e1 b2 k4=>⟨_,_,rfl,rfl,?_⟩⟩)))));obtain ⟨n,hn⟩:∃ n:Nat,2+e=(n:Int):=⟨(2+e).toNat,⋯⟩;show M7 K _ [some (.ref j),v,some (.ref r),D,p,some (.int (2+e)),u,q] H4;rw [hn];have n2:2<=n:=by omega
  have n4:n<=4:=by omega
  show M7 K _ [some (.ref j),v,some (.ref r),D,p,some (.int (n:Int)),u,q] H4;refine BC (yC (AO rfl (CJ (A6 (L_ (Af (AO rfl (L_ ⟨r,3,rfl,b2,∅,λf H5 f0 f1 a2 k5=>⟨_,_,rfl,rfl,L_ ⟨Bi,λP a3=>CJ (A6 (Af (AO rfl (L_ ⟨r,7,rfl,a2.same (AQ a3 _),∅,λg H6 g0 g1 b3 k6=>L_ ⟨_,_,rfl,rfl,L_ ⟨Bi,λG b4=>⟨Fw,λt ht=>?_⟩⟩⟩⟩))))⟩⟩⟩))))))));have b5:=AQ a3 (.tup [.int (1+f),.int 1]);have a4:=AQ b4 (.tup [.int (g - 3),.int 1]);have st:=AQ ht (.tup [.int (n:Int),.ref P,.ref G]);have b6:=(a2.same b5).tp k6;have R:KindAt (upd (upd H6 G (.tup [.int (g - 3),.int 1])) t (.tup [.int (n:Int),.ref P,.ref G])) t P G n (1+f,1) (g - 3,1):=⟨upd_same,st _ _ (a4 _ _ (b6 _ _ upd_same)),st _ _ upd_same,⟨(by decide:(0:Int)<1),Int.gcd_one_right _⟩,⟨(by decide:(0:Int)<1),Int.gcd_one_right _⟩,by show 1+f≠0;omega,⟨by show (1+f).natAbs<2 ^ 40;omega,(by decide:Bd 20 1)⟩,⟨by show (g - 3).natAbs<2 ^ 40;omega,(by decide:Bd 20 1)⟩,n2,n4⟩;have S:=(b3.same a4).same st;show Tl K _ [some (.ref j),v,some (.ref r),some (.ref t),p,some (.int (n:Int)),u,q] _;generalize upd (upd H6 G (.tup [.int (g - 3),.int 1])) t (.tup [.int (n:Int),.ref P,.ref G])=Ht at R S ⊢;refine BC (A6 (Ji (A6 (A6 (L_ (A6 (L_ (AO rfl ⟨_,_,rfl,rfl,Ck (m:=3) (n:=3) ∅ (by show (n:Int).natAbs<2 ^ 3;omega),⟨_,_,rfl,rfl,Af (AO rfl (L_ ⟨r,2,rfl,S,∅,λe2 H7 bm bn a6 k7=>⟨_,_,rfl,rfl,_,rfl,⋯,⋯,?_⟩⟩))⟩⟩))))))));refine VQ (n:=(10 - 2*(n:Int)+e2).toNat) ⋯ a6 λw xs l H8 ab k8 hw nw lw pw=>?_;refine KI (CJ (L_ (L_ ⟨Bi,λA ac=>⟨Cj,λb1 ad=>⟨w,b1,xs,[.ref A],rfl,rfl,?_,upd_same,sz (by rw [nw.length];show _+1<=_;omega),λw2 U=>?_⟩⟩⟩)))
  ·exact (AQ ad _) _ _ ((AQ ac _) _ _ hw)
  have J:=AQ ac (.tup [.int 1,.int 1]);have C:=AQ ad (.lst [.ref A]);have L:=AQ U (.lst (xs++[V.ref A]));have nb:Nums _ (xs++[V.ref A]) (l++[(1,1)]):=(nw.tp (M_ ((J.trans C).trans L))).append (Nums.one ⟨A,rfl,L _ _ (C _ _ upd_same)⟩);have M:=upd_same (H:=upd (upd H8 A (.tup [.int 1,.int 1])) b1 (.lst [.ref A])) (a:=w2) (o:=HO.lst (xs++[V.ref A]));have W:=ab.same ((J.trans C).trans L);have aj:=(R.tp ((S.tp k7).trans (a6.tp k8))).same ((J.trans C).trans L)
  have pb:P3 (l++[(1,1)]):=λy hy=>by
   rcases EA.mp hy with z | z
   ·exact pw y z
   ·rw [B7.mp z];exact ⟨rfl,∅⟩
  show Tk K _ [some (.ref j),v,some (.ref r),some (.ref t),p,some (.int (n:Int)),some (.ref w2),q] _
  have b7:w2≠r:=λz=>by
   obtain ⟨x,y,hx,_⟩:=ab.same (J.trans C);rw [z,hx] at U;cases U
  generalize upd (upd (upd H8 A (.tup [.int 1,.int 1])) b1 (.lst [.ref A])) w2 (.lst (xs++[V.ref A]))=H9 at nb M W aj ⊢;refine BC (Ji (A6 (L_ (Af (AO rfl (L_ ⟨r,4,rfl,W,∅,λe3 bp bq br N al=>⟨_,_,rfl,rfl,_,rfl,⋯,⋯,?_⟩⟩))))));refine VQ (n:=(1+e3).toNat) ⋯ N λw3 b8 l3 b9 bi am ba bb bs X=>?_;show Tj K _ [some (.ref j),v,some (.ref r),some (.ref t),p,some (.int (n:Int)),some (.ref w2),some (.ref w3)] b9;have an:=al.trans am;have O:=(W.tp al).trans (N.tp am);have ao:=aj.tp O;have ar:=nb.tp O;have az:=an _ _ b7 M;have lb:(l++[((1,1):Nu)]).length=l.length+1:=by rw [Cq];rfl
  refine Bt (Af (AO rfl (Af (Ca (AO rfl ⟨w3,b8,l3,rfl,ba,bb,⋯,λp5 bc bt Y h5 n5=>Ca (AO rfl ⟨w2,_,_,rfl,Y _ _ az,ar.tp (M_ Y),⋯,λp6 bd bv Z h6 n6=>?_⟩)⟩)))))
  have t0:Bs.trim (l++[(1,1)])≠[]:=λz=>by
   have h:=QE pb.low l.length;rw [z] at h;unfold AZ at h;rw [AU,AU,EB (AT _),Nat.sub_self,List.getElem?_nil] at h;have h:=congrArg Prod.fst h;exact absurd h ∅
  have l5:=Dy l3;have l6:=Dy (l++[((1,1):Nu)]);refine ⟨p5,p6,Bs.trim l3,Bs.trim (l++[(1,1)]),2,2+8*(2*4+4),8,8,4,rfl,⟨bc,Z _ _ h5,n5.tp (M_ Z)⟩,⟨bd,h6,n6⟩,X.gq,pb.gq,t0,⋯,⋯,λl0=>K6 X.gq l0 ⋯ ∅,K6 pb.gq t0 ⋯ ∅,⟨∅,∅,∅,∅,∅,∅,∅,∅⟩,∅,λtt bw T B bf bg b0 eq=>?_⟩;refine ⟨t,tt,P,G,n,_,_,T,B,OK n,rfl,ao.same ((Y.trans Z).trans bf),bg,?_,(VO n2 n4).2,λH' _=>k H'⟩;refine Jg (z:=OK n) bI b0 (X.trim.iz (n:=4) ⋯) (pb.trim.iz (n:=12 - 2*n) ⋯) (Bu pb.gq.low pb.gq.nz t0) (AT 1) ?_;rw [Sr.n1,<-eq];ext
end Bs
namespace Bs
open PySem PySem.Spec PyProof.Rows L2
set_option maxHeartbeats 4000000
open Hd
structure Bl (K:W.Frag) (mg:dE):Prop where
 abs:mg "abs" = none
 min:mg "min" = none
 len:mg "len" = none
 enumerate:mg "enumerate" = none
 list:mg "list" = none
 max:mg "max" = none
 range:mg "range" = none
 any:mg "any" = none
 zip:mg "zip" = none
 EXPONENTS:mg "EXPONENTS" = some (.ref (Gj K))
 tuple:mg "tuple" = none
 reversed:mg "reversed" = none
 NOUGHT:mg "NOUGHT" = some (.ref (Hg K))
 sum:mg "sum" = none
 isinstance:mg "isinstance" = none
 int:mg "int" = none
 bool:mg "bool" = none
 all:mg "all" = none
 xEXPONENTS:∀ H:Hp,SqT K H (Gj K) (exps.map λe:Nat=>V.int (e:Int))
 xNOUGHT:NOk K
section
variable {P:Program} {w:World} {K:W.Frag} {mg:dE} {base:Heap} {f:Addr} {fd:FuncData}
def J_ {n:Str} {st:Stmt} {N ps:dH} {k:Nat} {sp:Sp} {t:TS} (F:Fun K n n st f fd) (v:∀ {c:dj} {H:Hp} {Q:VK} {E:XK},sp c H Q E->t { nx:=λ_ i=>Q .non i,rt:=Q } (start N c) H) (d:∀ {a:Value} {A:Around} {b:List Env} {s:Shared} {H:Hp} {E:XK} (e:Room k (A.deeper (envOfC n (Cm st) s.heap.objs.size f a))) (j:N.Nodup) (m:(A.deeper (envOfC n (Cm st) s.heap.objs.size f a)).units<cLine) (g:(A.deeper (envOfC n (Cm st) s.heap.objs.size f a)).units+64<cLine),PSs (GS aM P w K mg base N n (Cm st) f a A b s H E).nox (Dv st) t) (S:FnScope N ps (Cm st):=by exact ⟨rfl,rfl,rfl,by decide +kernel,rfl,by decide +kernel,by decide +kernel⟩) (len:∀ c H Q E,sp c H Q E->c.length=ps.length:=by intro c H Q E h;repeat (first | (obtain ⟨rfl,_⟩:=h;rfl) | obtain ⟨_,h⟩:=h)):FnOk P w K mg base aM (k+1) f fd ps sp:=F.ok S len λa A b s H c Q E e h=>⟨t,d e S.nd e.units0 e.units,v h⟩
def li {a:Prop} {b:Type} {x:b}:x=x\/a:=Or.inl rfl
end
set_option maxHeartbeats 4000000
open Hd
def OM {K:W.Frag} {st:Stmt} {f c:Addr} {n:Str} {pm:Value} (l:K.lookup f=some (G_ n st pm c)) (e:W.codeIn K (.ref c) n=true) (k:W.keepIn K (.ref f)=true):Fun K n n st f (W.fnOf n n (Eo st) (Dv st) (Cm st) .none .none .none pm none (.ref c) .none):=Wt (st:=st) l e k
def nW {P:Program} {K:W.Frag} {w:World} {h c:Heap} {d:dE} {k:Nat} {f:Addr} {g:FuncData} {n:Str} {ps:dH} {sp:Sp} (X:K.In h) (G:h.Ns mainGlobals d) (ok:FnOk P w K d c aM k f g ps sp) (b:Binds K g ps []) (e:W.keepIn K (.ref f)=true) (a:W.nsIn K mainGlobals n=some (some (.ref f))):Cal P w K d c k n ps sp:=⟨f,g,ok,b,e,W.mg_of X G a⟩
def Jk {a:du} {n:Nat} (h:a.length=n+1):∃ x t,a=x::t/\t.length=n:=by cases a with | nil=>cases h | cons x t=>exact ⟨x,t,rfl,Nat.succ.inj h⟩
def VR (a:du) (h:a.length=1):∃ b,a=[b]:=by obtain ⟨x,t,rfl,q⟩:=Jk h;exact ⟨x,by rw [CA.mp q]⟩
def VS (b:du) (h:b.length=2):∃ c a,b=[c,a]:=by obtain ⟨x,t,rfl,q⟩:=Jk h;obtain ⟨a,rfl⟩:=VR t q;exact ⟨x,a,rfl⟩
def VT (c:du) (h:c.length=3):∃ d a b,c=[d,a,b]:=by obtain ⟨x,t,rfl,q⟩:=Jk h;obtain ⟨a,b,rfl⟩:=VS t q;exact ⟨x,a,b,rfl⟩
def VU (d:du) (h:d.length=4):∃ e a b c,d=[e,a,b,c]:=by obtain ⟨x,t,rfl,q⟩:=Jk h;obtain ⟨a,b,c,rfl⟩:=VT t q;exact ⟨x,a,b,c,rfl⟩
def nZ (e:du) (h:e.length=5):∃ f a b c d,e=[f,a,b,c,d]:=by obtain ⟨x,t,rfl,q⟩:=Jk h;obtain ⟨a,b,c,d,rfl⟩:=VU t q;exact ⟨x,a,b,c,d,rfl⟩
def Ai {P:Program} {K:W.Frag} {w:World} {h i:Heap} {j:dE} {k:Nat} {f c:Addr} {n:Str} {ps:dH} {sp:Sp} {st:Stmt} {pm:Value} (X:K.In h) (G:h.Ns mainGlobals j) (ok:Fun K n n st f (W.fnOf n n (Eo st) (Dv st) (Cm st) .none .none .none pm none (.ref c) .none)->FnOk P w K j i aM k f (W.fnOf n n (Eo st) (Dv st) (Cm st) .none .none .none pm none (.ref c) .none) ps sp) (l:K.lookup f=some (G_ n st pm c):=by kernel_rfl) (e:W.codeIn K (.ref c) n=true:=by kernel_rfl) (q:W.keepIn K (.ref f)=true:=by kernel_rfl) (a:W.nsIn K mainGlobals n=some (some (.ref f)):=by kernel_rfl) (b:∀ (kV m pm:Value) (p:Option Addr) (o r:Value) (d:du),d.length=ps.length->bindArgs (W.fnOf n n (Eo st) (Dv st) (Cm st) .none kV m pm p o r) ⟨d,[]⟩=pure (ps.zip d):=by first | exact λ_ _ _ _ _ _ d g=>by obtain ⟨_,rfl⟩:=VR d g;rfl | exact λ_ _ _ _ _ _ d g=>by obtain ⟨_,_,rfl⟩:=VS d g;rfl | exact λ_ _ _ _ _ _ d g=>by obtain ⟨_,_,_,rfl⟩:=VT d g;rfl | exact λ_ _ _ _ _ _ d g=>by obtain ⟨_,_,_,_,rfl⟩:=VU d g;rfl | exact λ_ _ _ _ _ _ d g=>by obtain ⟨_,_,_,_,_,rfl⟩:=nZ d g;rfl):Cal P w K j i k n ps sp:=nW X G (ok (OM l e q)) ((OM l e q).binds b) q a
abbrev J' (P:Program) (w:World) (b:dE) (a:Heap) (k:Nat) (n:Str) (ps:dH) (sp:W.Frag->Sp):Prop:=Cal P w (hp w.params) b a k n ps (sp (hp w.params))
section
variable {P:Program} {w:World} {mg:dE} {base h:Heap} (X:(hp w.params).In h) (G:h.Ns mainGlobals mg) (B:Bl (hp w.params) mg)
include X G B
theorem HC:J' P w mg base 1 "common_divisor" ["one", "other"] Ev:=Ai (f:=22) (c:=21) (pm:=P') (st:=Wu) X G λF=>J_ F (vD ) λb a d e=>(AJ (E7 PassesOwn.never (cR En (pv 1) AF) (AJ (D_ a (AN WF (pv 0) (pv 1))) (AJ (D_ a (pv 1)) (AS (D_ a (pv 2)))))) (AS (Ac (As Ib rfl B.abs IY (AD (pv 0) AK)))))
theorem ON:J' P w mg base 1 "raised" ["whole", "n"] Gk:=Ai (f:=29) (c:=28) (pm:=P') (st:=Wv) X G λF=>J_ F (vE ) λb a d e=>(AJ (D_ a AF) (AJ (D_ a (pv 0)) (AJ (E7 PassesOwn.never (cR Fd (pv 1) AF) (AJ (BT (cR EO (AN C9 (pv 1) AF) AF) (AS (E6 (i:=2) a rfl li (pv 3) Ia)) BS) (AJ (E6 (i:=1) a rfl li AF ZI) (AS (BT (cR Fd (pv 1) AF) (AS (E6 (i:=3) a rfl li (pv 3) Ia)) BS))))) (AS (Ac (pv 2))))))
theorem OO:J' P w mg base 1 "row_trimmed" ["row"] Hh:=Ai (f:=41) (c:=40) (pm:=P') (st:=Wx) X G λF=>J_ F (vH ) λb a d e=>(AJ (D_ a (As CS rfl B.len BQ (AD (pv 0) AK))) (AJ (E7 PassesOwn.never (PW.pt (Jp (cR Fd (pv 1) AF) (Jo (cR EO (BY BD (pv 0) (AN BO (pv 1) AF) (λ_ _=>rfl)) AF)))) (AS (E6 (i:=1) a rfl li AF IP))) (AS (Ac (IT J4 (pv 0) IS (GV (pv 1)))))))
theorem VV:J' P w mg base 1 "row_parted" ["row", "divisor"] Iu:=Ai (f:=46) (c:=45) (pm:=P') (st:=Wy) X G λF=>J_ F (vQ ) λa b d e=>(AS (Ac (DA (N:=["whole", "divisor"]) (capt:=[none,some 1]) rfl (BlkOk.of rfl rfl rfl rfl (CQ.mpr rfl) rfl rfl rfl) (EM (pv 0)) (λ_ _ _ _=>(Am (i:=0) (show (["whole", "divisor"]:List PySem.Str).Nodup by decide +kernel) rfl li)) (λ_ _ _ _=>(AN Ij (pv 0) (pv 1))))))
theorem mC:J' P w mg base 1 "row_times" ["row", "other"] Kd:=Ai (f:=53) (c:=52) (pm:=P') (st:=Wz) X G λF=>J_ F (tK ) λb a d e=>(AJ (BT (PW.pt (E5 (Du (Fh (pv 0) (λ_=>rfl))) (Fa (Du (Fh (pv 1) (λ_=>rfl)))))) (AS (Ac (Ch AK))) BS) (AJ (D_ a (AN HL (Ch (AD AF AK)) (AN BO (AN BZ (As CS rfl B.len BQ (AD (pv 0) AK)) (As CS rfl B.len BQ (AD (pv 1) AK))) AF))) (AJ (Bx PassesOwn.never rfl (Id rfl B.enumerate (AD (pv 0) AK)) (ES rfl (CH (Am (i:=3) a rfl li) (CH (Am (i:=4) a rfl li) EJ))) (AS (BT (cR En (pv 4) AF) (AS (Bx PassesOwn.never rfl (Id rfl B.enumerate (AD (pv 1) AK)) (ES rfl (CH (Am (i:=5) a rfl li) (CH (Am (i:=6) a rfl li) EJ))) (AS (IN (pv 2) (AN BZ (pv 3) (pv 5)) Ih (AN A5 (pv 4) (pv 6)) Oc ER)))) BS))) (AS (Ac (pv 2))))))
theorem VW:J' P w mg base 1 "row_over" ["row", "divisor"] Ix:=Ai (f:=60) (c:=59) (pm:=P') (st:=W2) X G λF=>J_ F (vV ) λb a d e=>(AJ (D_ a (HK Lr rfl B.list Jz (AD (pv 0) AK))) (AJ (D_ a (AN BO (As CS rfl B.len BQ (AD (pv 1) AK)) AF)) (AJ (D_ a (AN HL (Ch (AD AF AK)) (As (Ic rfl) rfl B.max IZ (AD (AN BO (As CS rfl B.len BQ (AD (pv 0) AK)) (pv 3)) (AD AF AK))))) (AJ (Bx PassesOwn.never rfl (Lv rfl B.range (AD (AN BO (AN BO (As CS rfl B.len BQ (AD (pv 0) AK)) (pv 3)) AF) (AD (Bm Bq AF) (AD (Bm Bq AF) AK)))) (Am (i:=5) a rfl li) (AJ (D_ a (AN FD (BY BD (pv 2) (AN BZ (pv 5) (pv 3)) (λ_ _=>rfl)) (BY BD (pv 1) (Bm Bq AF) (λ_ _=>rfl)))) (AJ (BT (cR En (AN A5 (pv 6) (BY BD (pv 1) (Bm Bq AF) (λ_ _=>rfl))) (BY BD (pv 2) (AN BZ (pv 5) (pv 3)) (λ_ _=>rfl))) (AS (Ac El)) BS) (AJ (HI (pv 6) (HH (pv 4) (pv 5) ER)) (AS (BT (cR En (pv 6) AF) (AS (Bx PassesOwn.never rfl (DK rfl B.range (AD (pv 3) AK)) (Am (i:=7) a rfl li) (AS (IN (pv 2) (AN BZ (pv 5) (pv 7)) Ih (AN A5 (pv 6) (BY BD (pv 1) (pv 7) (λ_ _=>rfl))) IP ER)))) BS)))))) (AS (Ac (IL (EI (As (ZX rfl) rfl B.any ZW (AD (IT J4 (pv 2) IS (GV (pv 3))) AK))) El (pv 4))))))))
theorem mE:J' P w mg base 1 "row_moved" ["row", "whole"] Kj:=Ai (f:=72) (c:=71) (pm:=P') (st:=W4) X G λF=>J_ F (rR ) λb a d e=>(AJ (D_ a (HK Lr rfl B.list Jz (AD (pv 0) AK))) (AJ (Bx PassesOwn.never rfl (DK rfl B.range (AD (AN BO (As CS rfl B.len BQ (AD (pv 0) AK)) AF) AK)) (Am (i:=3) a rfl li) (AS (Bx PassesOwn.never rfl (Lv rfl B.range (AD (AN BO (As CS rfl B.len BQ (AD (pv 0) AK)) AF) (AD (AN BO (pv 3) AF) (AD (Bm Bq AF) AK)))) (Am (i:=4) a rfl li) (AS (IN (pv 2) (pv 4) Ih (AN A5 (pv 1) (BY BD (pv 2) (AN BZ (pv 4) AF) (λ_ _=>rfl))) Oc ER))))) (AS (Ac (pv 2)))))
theorem mF:J' P w mg base 1 "inverse_modulo" ["whole", "prime"] KR:=Ai (f:=103) (c:=102) (pm:=P') (st:=XA) X G λF=>J_ F (vZ ) λb a d e=>(AJ (D_ a (pv 1)) (AJ (D_ a (AN C9 (pv 0) (pv 1))) (AJ (D_ a AF) (AJ (D_ a AF) (AJ (E7 PassesOwn.never (cR En (pv 3) AF) (AJ (D_ a (AN Ij (pv 2) (pv 3))) (AJ (D_ a (AN BO (pv 2) (AN A5 (pv 6) (pv 3)))) (AJ (D_ a (pv 3)) (AJ (D_ a (pv 7)) (AJ (D_ a (AN BO (pv 4) (AN A5 (pv 6) (pv 5)))) (AJ (D_ a (pv 5)) (AS (D_ a (pv 7)))))))))) (AS (Ac (AN C9 (pv 4) (pv 1)))))))))
theorem mG:J' P w mg base 1 "rests_modulo" ["row", "prime"] KS:=Ai (f:=108) (c:=107) (pm:=P') (st:=XB) X G λF=>J_ F (vW ) λa b d e=>(AS (Ac (DA (N:=["whole", "prime"]) (capt:=[none,some 1]) rfl (BlkOk.of rfl rfl rfl rfl (CQ.mpr rfl) rfl rfl rfl) (EM (pv 0)) (λ_ _ _ _=>(Am (i:=0) (show (["whole", "prime"]:List PySem.Str).Nodup by decide +kernel) rfl li)) (λ_ _ _ _=>(AN C9 (pv 0) (pv 1))))))
theorem mH:J' P w mg base 1 "nearest" ["whole", "prime"] KY:=Ai (f:=148) (c:=147) (pm:=P') (st:=XH) X G λF=>J_ F (uB ) λb a d e=>(AJ (D_ a (AN C9 (pv 0) (pv 1))) (AS (Ac (IL (cR Fd (AN A5 AF (pv 2)) (pv 1)) (AN BO (pv 2) (pv 1)) (pv 2)))))
theorem Eb:J' P w mg base 1 "poly" ["row"] Dc:=Ai (f:=209) (c:=208) (pm:=W_) (st:=XT) X G λF=>J_ F (vF ) λb a d e=>(AJ (D_ a (As CS rfl B.len BQ (AD (pv 0) AK))) (AJ (E7 PassesOwn.never (PW.pt (Jp (cR Fd (pv 1) AF) (Jo (cR EO (xI Ad (BY BD (pv 0) (AN BO (pv 1) AF) (λ_ _=>rfl))) AF)))) (AS (E6 (i:=1) a rfl li AF IP))) (AS (Ac (HK PM rfl B.tuple HN (AD (IT J4 (pv 0) IS (GV (pv 1))) AK))))))
theorem LI:J' P w mg base 1 "number_of" ["P", "place"] Go:=Ai (f:=226) (c:=225) (pm:=W_) (st:=XW) X G λF=>J_ F (tY ) λa b d e=>(AS (Ac (IL (cR IQ (pv 1) (As Dw rfl B.len BQ (AD (pv 0) AK))) (BY Ad (pv 0) (pv 1) (λ_ _=>rfl)) (Aw (AD AF (AD AF AK))))))
theorem VX:J' P w mg base 1 "x_to" ["i"] Kl:=Ai (f:=233) (c:=232) (pm:=W_) (st:=XX) X G λF=>J_ F (rV ) λa b d e=>(AS (Ac (AN Z1 (AN Zy (Aw (AD (Aw (AD AF (AD AF AK))) AK)) (pv 0)) (Aw (AD (Aw (AD AF (AD AF AK))) AK)))))
theorem mI:J' P w mg base 1 "f_poly" ["P"] Mu:=Ai (f:=309) (c:=308) (pm:=av) (st:=Xj) X G λF=>J_ F (oI ) λa b d e=>(AS (Ac (Aw (AD (pv 0) (AD (Aw (AD (Aw (AD AF (AD AF AK))) AK)) AK)))))
theorem VY:J' P w mg base 1 "_law_source" ["_law_script", "_law_k"] Kn:=Ai (f:=403) (c:=402) (pm:=U_) (st:=Xy) X G λF=>J_ F (oF ) λb a d e=>(AJ (D_ a AF) (AJ (BT (cR Fd (As Lk rfl B.len BQ (AD (pv 0) AK)) AF) (AS (D_ a (BY O8 (pv 0) (AN BZ AF (AN C9 (pv 1) (AN BO (As Lk rfl B.len BQ (AD (pv 0) AK)) AF))) (λ_ _=>rfl)))) BS) (AJ (D_ a (AN C9 (AN A5 (AN BZ (AN BZ (AN BZ (AN C9 (pv 2) AF) (AN A5 AF (pv 1))) (AN C9 (As (Zf rfl) rfl B.sum Ye (AD (IT Ze (pv 0) IS (GV AF)) AK)) AF)) AF) AF) AF)) (AJ (D_ a (AN C9 (AN A5 (pv 3) (pv 3)) AF)) (AJ (D_ a AF) (AJ (Bx PassesOwn.never rfl (DK rfl B.range (AD AF AK)) (Am (i:=6) a rfl li) (AJ (D_ a (AN C9 (AN BZ (AN BZ (AN A5 (pv 4) AF) (pv 3)) (AN A5 AF (pv 6))) AF)) (AS (D_ a (AN BZ (AN A5 (pv 5) AF) (pv 4)))))) (AJ (BT (PW.pt (Jp (cR Fd (As Lk rfl B.len BQ (AD (pv 0) AK)) AF) (Jo (cR EO (AN C9 (xI O8 (pv 0)) AF) AF)))) (AS (Ac (Ch (AD (As Ib rfl B.abs IY (AD (pv 2) AK)) (AD (pv 5) AK))))) BS) (AS (Ac (Ch (AD (pv 5) (AD AF AK))))))))))))
theorem C2:J' P w mg base 1 "_law_take" ["_law_source_here", "_law_many"] CT:=Ai (f:=410) (c:=409) (pm:=U_) (st:=Xz) X G λF=>J_ F (pO ) λb a d e=>(AJ (BT (cR EO (xI BD (pv 0)) AF) (AS (HI (Aw (AD (xI BD (pv 0)) (AD AF AK))) (ES rfl (CH (HH (pv 0) AF ER) (CH (HH (pv 0) AF ER) EJ))))) BS) (AJ (D_ a (AN C9 (xI BD (pv 0)) (pv 1))) (AJ (HI (AN Ij (xI BD (pv 0)) (pv 1)) (HH (pv 0) AF ER)) (AS (Ac (pv 2))))))
theorem mJ:J' P w mg base 1 "_law_is_number" ["_law_found"] Kq:=Ai (f:=443) (c:=442) (pm:=U_) (st:=X7) X G λF=>J_ F (oD ) λb a d e=>(AJ (BT (PW.pt (E5 (Du (EI (As HP rfl B.isinstance HM (AD (pv 0) (AD (HF rfl B.tuple HN rfl) AK))))) (Fa (cR En (As Dw rfl B.len BQ (AD (pv 0) AK)) AF)))) (AS (Ac EH)) BS) (AJ (Bx PassesOwn.never rfl (EN (pv 0)) (Am (i:=1) a rfl li) (AS (BT (PW.pt (E5 (Du (EI (As HP rfl B.isinstance HM (AD (pv 1) (AD (HF rfl B.int Yg rfl) AK))))) (Fa (EI (As HP rfl B.isinstance HM (AD (pv 1) (AD (HF rfl B.bool Yh rfl) AK))))))) (AS (Ac EH)) BS))) (AS (Ac (IR Fd (xI Ad (pv 0)) AF (V_ _))))))
theorem LJ:J' P w mg base 1 "_law_tall" ["_law_number_here", "_law_many"] Hw:=Ai (f:=469) (c:=468) (pm:=U_) (st:=YB) X G λF=>J_ F (oH ) λb a d e=>(AJ (D_ a AF) (AJ (Bx PassesOwn.never rfl (DK rfl B.range (AD (pv 1) AK)) (Am (i:=3) a rfl li) (AS (D_ a (AN A5 (pv 2) (pv 0))))) (AS (Ac (pv 2)))))
theorem VZ:J' P w mg base 2 "content" ["row", "start"] Ir:=Ai (f:=34) (c:=33) (pm:=P') (st:=Ww) X G λF=>J_ F (vP ) λb a d e=>(AJ (D_ a ((HC X G B).q2 b (Zb rfl B.min Yb (Zm (N:=["whole"]) (capt:=[none]) rfl (BlkOk.of rfl rfl rfl rfl (λ_ h=>nomatch h) rfl rfl rfl) (EM (pv 0)) (λ_ _ _ _=>(Am (i:=0) (show (["whole"]:List PySem.Str).Nodup by decide +kernel) rfl li)) (λ_ _ _ _=>(cR En (pv 0) AF)) (λ_ _ _ _=>(As Ib rfl B.abs IY (AD (pv 0) AK))))) (pv 1))) (AJ (Bx PassesOwn.never rfl (EM (pv 0)) (Am (i:=3) a rfl li) (AJ (BT (cR EO (pv 2) AF) (AS (Ac AF)) BS) (AS (D_ a ((HC X G B).q2 b (pv 3) (pv 2)))))) (AS (Ac (pv 2)))))
theorem Va:J' P w mg base 2 "row_less" ["row", "factor", "other", "weight", "shift"] Iw:=Ai (f:=65) (c:=64) (pm:=P') (st:=W3) X G λF=>J_ F (vS ) λb a d e=>(AJ (HV (i:=5) (N:=["whole", "factor"]) (capt:=[none,some 1]) a rfl li rfl (BlkOk.of rfl rfl rfl rfl (CQ.mpr rfl) rfl rfl rfl) (EM (pv 0)) (λ_ _ _ _=>(Am (i:=0) (show (["whole", "factor"]:List PySem.Str).Nodup by decide +kernel) rfl li)) (λ_ _ _ _=>(AN A5 (pv 1) (pv 0)))) (AJ (LS (LZ PySem.F.plainAttrs_list PySem.F.slot_list_extend PySem.F.type_list_extend Ox (pv 5) (AD (AN HL (Ch (AD AF AK)) (AN BO (AN BZ (As CS rfl B.len BQ (AD (pv 2) AK)) (pv 4)) (As CS rfl B.len BQ (AD (pv 0) AK)))) AK))) (AJ (Bx PassesOwn.never rfl (Id rfl B.enumerate (AD (pv 2) AK)) (ES rfl (CH (Am (i:=6) a rfl li) (CH (Am (i:=7) a rfl li) EJ))) (AS (IN (pv 5) (AN BZ (pv 6) (pv 4)) Ih (AN A5 (pv 3) (pv 7)) IP ER))) (AS (Ac ((OO X G B).q1 b (pv 5)))))))
theorem OP:J' P w mg base 2 "row_modulo" ["row", "prime"] Hj:=Ai (f:=115) (c:=114) (pm:=P') (st:=XC) X G λF=>J_ F (vY ) λa b d e=>(AS (Ac ((OO X G B).q1 a ((mG X G B).q2 a (pv 0) (pv 1)))))
theorem OQ:J' P w mg base 2 "monic_modulo" ["row", "prime"] Hk:=Ai (f:=120) (c:=119) (pm:=P') (st:=XD) X G λF=>J_ F (uA ) λa b d e=>(AJ (BT (Du (Fh (pv 0) (λ_=>rfl))) (AS (Ac (Ch AK))) BS) (AJ (C6 (i:=2) b rfl (Or.inr rfl) ((mF X G B).q2 a (BY BD (pv 0) (Bm Bq AF) (λ_ _=>rfl)) (pv 1))) (AS (Ac (DA (N:=["whole", "prime", "factor"]) (capt:=[none,some 1,some 2]) rfl (BlkOk.of rfl rfl rfl rfl (Cv.mpr ⟨rfl,(CQ.mpr rfl)⟩) rfl rfl rfl) (EM (pv 0)) (λ_ _ _ _=>(Am (i:=0) (show (["whole", "prime", "factor"]:List PySem.Str).Nodup by decide +kernel) rfl li)) (λ_ _ _ _=>(AN C9 (AN A5 (pv 0) (pv 2)) (pv 1))))))))
theorem DP:J' P w mg base 2 "ratio" ["top", "bottom"] Co:=Ai (f:=167) (c:=166) (pm:=aH) (st:=XM) X G λF=>J_ F (vI ) λb a d e=>(AJ (D_ a ((HC X G B).q2 b (pv 0) (pv 1))) (AJ (BT (cR IQ (pv 1) AF) (AS (D_ a (Bm Bq (pv 2)))) BS) (AS (Ac (Aw (AD (AN FD (pv 0) (pv 2)) (AD (AN FD (pv 1) (pv 2)) AK)))))))
theorem mK:J' P w mg base 2 "power" ["one", "n"] Ki:=Ai (f:=202) (c:=201) (pm:=aH) (st:=XS) X G λF=>J_ F (rT ) λa b d e=>(AJ (D_ b ((ON X G B).q2 a (xI Ad (pv 0)) (As Ib rfl B.abs IY (AD (pv 1) AK)))) (AJ (D_ b ((ON X G B).q2 a (xI Ad (pv 0)) (As Ib rfl B.abs IY (AD (pv 1) AK)))) (AJ (BT (cR LX (pv 1) AF) (AS (Ac (Aw (AD (pv 2) (AD (pv 3) AK))))) BS) (AJ (BT (cR IQ (pv 2) AF) (AS (Ac (Aw (AD (Bm Bq (pv 3)) (AD (Bm Bq (pv 2)) AK))))) BS) (AS (Ac (Aw (AD (pv 3) (AD (pv 2) AK)))))))))
theorem GE:J' P w mg base 2 "cleared" ["P"] EV:=Ai (f:=214) (c:=213) (pm:=W_) (st:=XU) X G λF=>J_ F (vJ ) λb a d e=>(AJ (C6 (i:=1) a rfl (Or.inr rfl) AF) (AJ (Bx PassesOwn.never rfl (EN (pv 0)) (Am (i:=2) a rfl li) (AS (E6 (i:=1) a rfl (Or.inr rfl) (AN Ij (xI Fj (pv 2)) ((HC X G B).q2 b (pv 1) (xI Fj (pv 2)))) Ia))) (AS (Ac (Aw (AD (DA (N:=["number", "bottom"]) (capt:=[none,some 1]) rfl (BlkOk.of rfl rfl rfl rfl (CQ.mpr rfl) rfl rfl rfl) (EN (pv 0)) (λ_ _ _ _=>(Am (i:=0) (show (["number", "bottom"]:List PySem.Str).Nodup by decide +kernel) rfl li)) (λ_ _ _ _=>(AN A5 (xI Fj (pv 0)) (AN Ij (pv 1) (xI Fj (pv 0)))))) (AD (pv 1) AK)))))))
theorem LK:J' P w mg base 2 "spread" ["P", "n"] Hu:=Ai (f:=353) (c:=352) (pm:=ae) (st:=Xp) X G λF=>J_ F (qG ) λb a d e=>(AJ (D_ a (Ch AK)) (AJ (Bx PassesOwn.never rfl (EN (pv 0)) (Am (i:=3) a rfl li) (AS (LS (LZ PySem.F.plainAttrs_list PySem.F.slot_list_extend PySem.F.type_list_extend Ox (pv 2) (AD (AN Oy (Ch (AD (pv 3) AK)) (AN HL (Ch (AD (Aw (AD AF (AD AF AK))) AK)) (AN BO (pv 1) AF))) AK))))) (AS (Ac ((Eb X G B).q1 b (pv 2))))))
theorem Jl:J' P w mg base 2 "strand" ["P", "n", "i"] Gp:=Ai (f:=360) (c:=359) (pm:=ae) (st:=Xq) X G λF=>J_ F (rY ) λa b d e=>(AS (Ac ((Eb X G B).q1 a (HK ZG rfl B.list Jz (AD (Zr (pv 0) (pv 2) (pv 1)) AK)))))
theorem mM:J' P w mg base 2 "_law_is_fraction" ["_law_found"] Mx:=Ai (f:=448) (c:=447) (pm:=U_) (st:=X8) X G λF=>J_ F (oE ) λa b d e=>(AJ (BT (PW.pt (E5 (Du (EI (As HP rfl B.isinstance HM (AD (pv 0) (AD (HF rfl B.tuple HN rfl) AK))))) (Fa (cR En (As Dw rfl B.len BQ (AD (pv 0) AK)) AF)))) (AS (Ac EH)) BS) (AJ (Bx PassesOwn.never rfl (EN (pv 0)) (Am (i:=1) b rfl li) (AS (BT (PW.pt (E5 (Du (EI (As HP rfl B.isinstance HM (AD (pv 1) (AD (HF rfl B.tuple HN rfl) AK))))) (Fa (Du (EI (As (ZH rfl) rfl B.all Yc (AD (DA (N:=["_law_one"]) (capt:=[none]) rfl (BlkOk.of rfl rfl rfl rfl (λ_ h=>nomatch h) rfl rfl rfl) (EN (pv 1)) (λ_ _ _ _=>(Am (i:=0) (show (["_law_one"]:List PySem.Str).Nodup by decide +kernel) rfl li)) (λ_ _ _ _=>((mJ X G B).q1 a (pv 0)))) AK))))))) (AS (Ac EH)) BS))) (AS (Ac EH))))
theorem Vb:J' P w mg base 3 "strand_shortened" ["strand"] Iy:=Ai (f:=82) (c:=81) (pm:=P') (st:=W6) X G λF=>J_ F (uF ) λb a d e=>(AJ (C6 (i:=1) a rfl (Or.inr rfl) AF) (AJ (Bx PassesOwn.never rfl (EM (pv 0)) (Am (i:=2) a rfl li) (AS (C6 (i:=1) a rfl (Or.inr rfl) ((VZ X G B).q2 b (pv 2) (pv 1))))) (AS (Ac (DA (N:=["row", "shared"]) (capt:=[none,some 1]) rfl (BlkOk.of rfl rfl rfl rfl (CQ.mpr rfl) rfl rfl rfl) (EM (pv 0)) (λ_ _ _ _=>(Am (i:=0) (show (["row", "shared"]:List PySem.Str).Nodup by decide +kernel) rfl li)) (λ_ _ _ _=>((VV X G B).q2 b (pv 0) (pv 1))))))))
theorem mO:J' P w mg base 3 "split_modulo" ["row", "divisor", "modulus"] KT:=Ai (f:=127) (c:=126) (pm:=P') (st:=XE) X G λF=>J_ F (uE ) λb a d e=>(AJ (D_ a (HK Lr rfl B.list Jz (AD (pv 0) AK))) (AJ (D_ a (AN BO (As CS rfl B.len BQ (AD (pv 1) AK)) AF)) (AJ (D_ a (AN HL (Ch (AD AF AK)) (As (Ic rfl) rfl B.max IZ (AD (AN BO (As CS rfl B.len BQ (AD (pv 0) AK)) (pv 4)) (AD AF AK))))) (AJ (Bx PassesOwn.never rfl (Lv rfl B.range (AD (AN BO (AN BO (As CS rfl B.len BQ (AD (pv 0) AK)) (pv 4)) AF) (AD (Bm Bq AF) (AD (Bm Bq AF) AK)))) (Am (i:=6) a rfl li) (AJ (D_ a (AN C9 (BY BD (pv 3) (AN BZ (pv 6) (pv 4)) (λ_ _=>rfl)) (pv 2))) (AJ (HI (pv 7) (HH (pv 5) (pv 6) ER)) (AS (BT (cR En (pv 7) AF) (AS (Bx PassesOwn.never rfl (DK rfl B.range (AD (pv 4) AK)) (Am (i:=8) a rfl li) (AS (IN (pv 3) (AN BZ (pv 6) (pv 8)) Ih (AN A5 (pv 7) (BY BD (pv 1) (pv 8) (λ_ _=>rfl))) IP ER)))) BS))))) (AS (Ac (Aw (AD ((OO X G B).q1 b (pv 5)) (AD ((OP X G B).q2 b (IT J4 (pv 3) IS (GV (pv 4))) (pv 2)) AK)))))))))
theorem mP:J' P w mg base 3 "plus" ["one", "other"] Mo:=Ai (f:=174) (c:=173) (pm:=aH) (st:=XN) X G λF=>J_ F (tU ) λa b d e=>(AS (Ac ((DP X G B).q2 a (AN BZ (AN A5 (xI Ad (pv 0)) (xI Ad (pv 1))) (AN A5 (xI Ad (pv 1)) (xI Ad (pv 0)))) (AN A5 (xI Ad (pv 0)) (xI Ad (pv 1))))))
theorem Vc:J' P w mg base 3 "minus" ["one", "other"] Ke:=Ai (f:=181) (c:=180) (pm:=aH) (st:=XO) X G λF=>J_ F (tV ) λa b d e=>(AS (Ac ((DP X G B).q2 a (AN BO (AN A5 (xI Ad (pv 0)) (xI Ad (pv 1))) (AN A5 (xI Ad (pv 1)) (xI Ad (pv 0)))) (AN A5 (xI Ad (pv 0)) (xI Ad (pv 1))))))
theorem Vd:J' P w mg base 3 "times" ["one", "other"] JB:=Ai (f:=188) (c:=187) (pm:=aH) (st:=XQ) X G λF=>J_ F (tI ) λa b d e=>(AS (Ac ((DP X G B).q2 a (AN A5 (xI Ad (pv 0)) (xI Ad (pv 1))) (AN A5 (xI Ad (pv 0)) (xI Ad (pv 1))))))
theorem OS:J' P w mg base 3 "over" ["one", "other"] Ho:=Ai (f:=195) (c:=194) (pm:=aH) (st:=XR) X G λF=>J_ F (tJ ) λa b d e=>(AS (Ac ((DP X G B).q2 a (AN A5 (xI Ad (pv 0)) (xI Ad (pv 1))) (AN A5 (xI Ad (pv 0)) (xI Ad (pv 1))))))
theorem LL:J' P w mg base 3 "uncleared" ["row", "bottom"] Gn:=Ai (f:=219) (c:=218) (pm:=W_) (st:=XV) X G λF=>J_ F (vK ) λa b d e=>(AS (Ac ((Eb X G B).q1 a (DA (N:=["whole", "bottom"]) (capt:=[none,some 1]) rfl (BlkOk.of rfl rfl rfl rfl (CQ.mpr rfl) rfl rfl rfl) (EM (pv 0)) (λ_ _ _ _=>(Am (i:=0) (show (["whole", "bottom"]:List PySem.Str).Nodup by decide +kernel) rfl li)) (λ_ _ _ _=>((DP X G B).q2 a (pv 0) (pv 1)))))))
theorem Ve:J' P w mg base 3 "p_at" ["P", "c"] JH:=Ai (f:=276) (c:=275) (pm:=W_) (st:=Xe) X G λF=>J_ F (oP ) λb a d e=>(AJ (D_ a ((GE X G B).q1 b (pv 0))) (AJ (D_ a AF) (AJ (D_ a AF) (AJ (Bx PassesOwn.never rfl (ZO rfl B.reversed (AD (xI Ad (pv 2)) AK)) (Am (i:=5) a rfl li) (AJ (D_ a (AN BZ (AN A5 (pv 3) (xI Ad (pv 1))) (AN A5 (pv 5) (pv 4)))) (AS (E6 (i:=4) a rfl li (xI Ad (pv 1)) Ia)))) (AS (Ac ((DP X G B).q2 b (AN A5 (pv 3) (xI Ad (pv 1))) (AN A5 (xI Ad (pv 2)) (pv 4)))))))))
theorem OT:J' P w mg base 3 "_law_number" ["_law_source_here"] Hv:=Ai (f:=417) (c:=416) (pm:=U_) (st:=X3) X G λF=>J_ F (pV ) λa b d e=>(AJ (D_ b ((C2 X G B).q2 a (pv 0) AF)) (AJ (BT (cR IQ (pv 1) AF) (AS (Ac ((DP X G B).q2 a (AN BO ((C2 X G B).q2 a (pv 0) AF) AF) AF))) BS) (AJ (BT (cR IQ (pv 1) AF) (AS (Ac ((DP X G B).q2 a (AN BO ((C2 X G B).q2 a (pv 0) AF) AF) (AN BZ AF ((C2 X G B).q2 a (pv 0) AF))))) BS) (AS (Ac ((DP X G B).q2 a (AN BZ (AN BO ((C2 X G B).q2 a (pv 0) (AN BO (AN A5 AF (AN Lj AF AF)) AF)) (AN Lj AF AF)) AF) (AN BZ AF ((C2 X G B).q2 a (pv 0) (AN Lj AF AF)))))))))
theorem Vf:J' P w mg base 3 "_law_sum" ["_law_one", "_law_other"] Ks:=Ai (f:=455) (c:=454) (pm:=U_) (st:=X9) X G λF=>J_ F (oU ) λa b d e=>(AS (Ac ((DP X G B).q2 a (AN BZ (AN A5 (xI Ad (pv 0)) (xI Ad (pv 1))) (AN A5 (xI Ad (pv 1)) (xI Ad (pv 0)))) (AN A5 (xI Ad (pv 0)) (xI Ad (pv 1))))))
theorem Vg:J' P w mg base 3 "_law_product" ["_law_one", "_law_other"] Kt:=Ai (f:=462) (c:=461) (pm:=U_) (st:=YA) X G λF=>J_ F (oV ) λa b d e=>(AS (Ac ((DP X G B).q2 a (AN A5 (xI Ad (pv 0)) (xI Ad (pv 1))) (AN A5 (xI Ad (pv 0)) (xI Ad (pv 1))))))
theorem mQ:J' P w mg base 4 "strand_rest" ["strand", "other"] KQ:=Ai (f:=77) (c:=76) (pm:=P') (st:=W5) X G λF=>J_ F (uI ) λb a d e=>(AJ (E7 PassesOwn.never (cR LX (As CS rfl B.len BQ (AD (xI BD (pv 0)) AK)) (As CS rfl B.len BQ (AD (xI BD (pv 1)) AK))) (AJ (C6 (i:=2) a rfl (Or.inr rfl) (AN BO (As CS rfl B.len BQ (AD (xI BD (pv 0)) AK)) (As CS rfl B.len BQ (AD (xI BD (pv 1)) AK)))) (AJ (D_ a (BY BD (xI BD (pv 0)) (Bm Bq AF) (λ_ _=>rfl))) (AJ (D_ a (BY BD (xI BD (pv 1)) (Bm Bq AF) (λ_ _=>rfl))) (AJ (D_ a ((HC X G B).q2 b (pv 3) (pv 4))) (AJ (C6 (i:=6) a rfl (Or.inr rfl) (AN FD (pv 4) (pv 5))) (AJ (C6 (i:=7) a rfl (Or.inr rfl) (AN FD (pv 3) (pv 5))) (AS (HV (i:=0) (N:=["row", "follower", "factor", "weight", "shift"]) (capt:=[none,none,some 6,some 7,some 2]) a rfl li rfl (BlkOk.of rfl rfl rfl rfl (Cv.mpr ⟨rfl,(Cv.mpr ⟨rfl,(CQ.mpr rfl)⟩)⟩) rfl rfl rfl) (ZV rfl B.zip (AD (pv 0) (AD (pv 1) AK))) (λ_ _ _ _=>(ES rfl (CH (Am (i:=0) (show (["row", "follower", "factor", "weight", "shift"]:List PySem.Str).Nodup by decide +kernel) rfl li) (CH (Am (i:=1) (show (["row", "follower", "factor", "weight", "shift"]:List PySem.Str).Nodup by decide +kernel) rfl li) EJ)))) (λ_ _ _ _=>((Va X G B).pe b ∅ rfl (AD (pv 0) (AD (pv 2) (AD (pv 1) (AD (pv 3) (AD (pv 4) AK)))))))))))))))) (AS (Ac ((Vb X G B).q1 b (pv 0)))))
theorem OU:J' P w mg base 4 "row_shortened" ["row"] Hi:=Ai (f:=89) (c:=88) (pm:=P') (st:=W7) X G λF=>J_ F (uH ) λa b d e=>(AS (Ac (xI BD ((Vb X G B).q1 a (Ch (AD (pv 0) AK))))))
theorem mR:J' P w mg base 4 "rest_modulo" ["row", "divisor", "modulus"] KU:=Ai (f:=134) (c:=133) (pm:=P') (st:=XF) X G λF=>J_ F (uC ) λa b d e=>(AS (Ac (xI Ad ((mO X G B).q3 a (pv 0) (pv 1) (pv 2)))))
theorem Vh:J' P w mg base 4 "p_plus" ["P", "Q"] JF:=Ai (f:=238) (c:=237) (pm:=W_) (st:=XY) X G λF=>J_ F (sB ) λa b d e=>(AS (Ac ((Eb X G B).q1 a (DA (N:=["place", "P", "Q"]) (capt:=[none,some 0,some 1]) rfl (BlkOk.of rfl rfl rfl rfl (Cv.mpr ⟨rfl,(CQ.mpr rfl)⟩) rfl rfl rfl) (DK rfl B.range (AD (As (Ic rfl) rfl B.max IZ (AD (As Dw rfl B.len BQ (AD (pv 0) AK)) (AD (As Dw rfl B.len BQ (AD (pv 1) AK)) AK))) AK)) (λ_ _ _ _=>(Am (i:=0) (show (["place", "P", "Q"]:List PySem.Str).Nodup by decide +kernel) rfl li)) (λ_ _ _ _=>((mP X G B).q2 a ((LI X G B).q2 a (pv 1) (pv 0)) ((LI X G B).q2 a (pv 2) (pv 0))))))))
theorem mT:J' P w mg base 4 "p_minus" ["P", "Q"] Kf:=Ai (f:=243) (c:=242) (pm:=W_) (st:=XZ) X G λF=>J_ F (tZ ) λa b d e=>(AS (Ac ((Eb X G B).q1 a (DA (N:=["place", "P", "Q"]) (capt:=[none,some 0,some 1]) rfl (BlkOk.of rfl rfl rfl rfl (Cv.mpr ⟨rfl,(CQ.mpr rfl)⟩) rfl rfl rfl) (DK rfl B.range (AD (As (Ic rfl) rfl B.max IZ (AD (As Dw rfl B.len BQ (AD (pv 0) AK)) (AD (As Dw rfl B.len BQ (AD (pv 1) AK)) AK))) AK)) (λ_ _ _ _=>(Am (i:=0) (show (["place", "P", "Q"]:List PySem.Str).Nodup by decide +kernel) rfl li)) (λ_ _ _ _=>((Vc X G B).q2 a ((LI X G B).q2 a (pv 1) (pv 0)) ((LI X G B).q2 a (pv 2) (pv 0))))))))
theorem D7:J' P w mg base 4 "p_times" ["P", "Q"] Cp:=Ai (f:=250) (c:=249) (pm:=W_) (st:=Xa) X G λF=>J_ F (tL ) λa b d e=>(AJ (D_ b ((GE X G B).q1 a (pv 0))) (AJ (D_ b ((GE X G B).q1 a (pv 1))) (AS (Ac ((LL X G B).q2 a ((mC X G B).q2 a (xI Ad (pv 2)) (xI Ad (pv 3))) (AN A5 (xI Ad (pv 2)) (xI Ad (pv 3))))))))
theorem Vi:J' P w mg base 4 "p_scaled" ["P", "c"] JC:=Ai (f:=255) (c:=254) (pm:=W_) (st:=Xb) X G λF=>J_ F (tM ) λa b d e=>(AS (Ac ((Eb X G B).q1 a (DA (N:=["number", "c"]) (capt:=[none,some 1]) rfl (BlkOk.of rfl rfl rfl rfl (CQ.mpr rfl) rfl rfl rfl) (EN (pv 0)) (λ_ _ _ _=>(Am (i:=0) (show (["number", "c"]:List PySem.Str).Nodup by decide +kernel) rfl li)) (λ_ _ _ _=>((Vd X G B).q2 a (pv 0) (pv 1)))))))
theorem mU:J' P w mg base 4 "p_split" ["P", "Q"] Kc:=Ai (f:=262) (c:=261) (pm:=W_) (st:=Xc) X G λF=>J_ F (tG ) λb a d e=>(AJ (D_ a ((GE X G B).q1 b (pv 0))) (AJ (D_ a ((GE X G B).q1 b (pv 1))) (AJ (D_ a (xI Ad (pv 2))) (AJ (D_ a (xI Ad (pv 2))) (AJ (D_ a (BY BD (xI Ad (pv 3)) (Bm Bq AF) (λ_ _=>rfl))) (AJ (D_ a (AN HL (Ch (AD (Aw (AD AF (AD AF AK))) AK)) (As (Ic rfl) rfl B.max IZ (AD (AN BZ (AN BO (As Zz rfl B.len BQ (AD (pv 0) AK)) (As Dw rfl B.len BQ (AD (pv 1) AK))) AF) (AD AF AK))))) (AJ (E7 PassesOwn.never (cR LX (As CS rfl B.len BQ (AD (pv 4) AK)) (As Dw rfl B.len BQ (AD (pv 1) AK))) (AJ (D_ a (AN BO (As CS rfl B.len BQ (AD (pv 4) AK)) (As Dw rfl B.len BQ (AD (pv 1) AK)))) (AJ (HI ((DP X G B).q2 b (AN A5 (BY BD (pv 4) (Bm Bq AF) (λ_ _=>rfl)) (xI Ad (pv 3))) (AN A5 (pv 5) (pv 6))) (HH (pv 7) (pv 8) ER)) (AJ (D_ a ((HC X G B).q2 b (BY BD (pv 4) (Bm Bq AF) (λ_ _=>rfl)) (pv 6))) (AJ (D_ a ((Va X G B).pe b ∅ rfl (AD (pv 4) (AD (AN FD (pv 6) (pv 9)) (AD (xI Ad (pv 3)) (AD (AN FD (BY BD (pv 4) (Bm Bq AF) (λ_ _=>rfl)) (pv 9)) (AD (pv 8) AK))))))) (AJ (E6 (i:=5) a rfl li (AN FD (pv 6) (pv 9)) Ia) (AJ (D_ a ((VZ X G B).q2 b (pv 4) (pv 5))) (AJ (D_ a ((VV X G B).q2 b (pv 4) (pv 10))) (AS (E6 (i:=5) a rfl li (pv 10) Zd)))))))))) (AS (Ac (Aw (AD ((Eb X G B).q1 b (pv 7)) (AD ((LL X G B).q2 b (pv 4) (pv 5)) AK))))))))))))
theorem Vj:J' P w mg base 4 "p_moved" ["P", "c"] JG:=Ai (f:=281) (c:=280) (pm:=W_) (st:=Xf) X G λF=>J_ F (rS ) λb a d e=>(AJ (D_ a ((GE X G B).q1 b (pv 0))) (AJ (C6 (i:=3) a rfl (Or.inr rfl) (Ch (AD AF AK))) (AJ (Bx PassesOwn.never rfl (EN (pv 0)) (Am (i:=4) a rfl li) (AS (LS (LZ PySem.F.plainAttrs_list PySem.F.slot_list_append PySem.F.type_list_append Wl (pv 3) (AD (AN A5 (BY BD (pv 3) (Bm Bq AF) (λ_ _=>rfl)) (xI Ad (pv 1))) AK))))) (AJ (C6 (i:=5) a rfl (Or.inr rfl) (AN BO (As Dw rfl B.len BQ (AD (pv 0) AK)) AF)) (AJ (HV (i:=6) (N:=["place", "whole", "scales", "last"]) (capt:=[none,none,some 3,some 5]) a rfl li rfl (BlkOk.of rfl rfl rfl rfl (Cv.mpr ⟨rfl,(CQ.mpr rfl)⟩) rfl rfl rfl) (Id rfl B.enumerate (AD (xI Ad (pv 2)) AK)) (λ_ _ _ _=>(ES rfl (CH (Am (i:=0) (show (["place", "whole", "scales", "last"]:List PySem.Str).Nodup by decide +kernel) rfl li) (CH (Am (i:=1) (show (["place", "whole", "scales", "last"]:List PySem.Str).Nodup by decide +kernel) rfl li) EJ)))) (λ_ _ _ _=>(AN A5 (pv 1) (BY BD (pv 2) (AN BO (pv 3) (pv 0)) (λ_ _=>rfl))))) (AJ (D_ a ((mE X G B).q2 b (pv 6) (xI Ad (pv 1)))) (AS (Ac ((LL X G B).q2 b (DA (N:=["place", "whole", "scales"]) (capt:=[none,none,some 3]) rfl (BlkOk.of rfl rfl rfl rfl (CQ.mpr rfl) rfl rfl rfl) (Id rfl B.enumerate (AD (pv 7) AK)) (λ_ _ _ _=>(ES rfl (CH (Am (i:=0) (show (["place", "whole", "scales"]:List PySem.Str).Nodup by decide +kernel) rfl li) (CH (Am (i:=1) (show (["place", "whole", "scales"]:List PySem.Str).Nodup by decide +kernel) rfl li) EJ)))) (λ_ _ _ _=>(AN A5 (pv 1) (BY BD (pv 2) (pv 0) (λ_ _=>rfl))))) (AN A5 (xI Ad (pv 2)) (BY BD (pv 3) (pv 5) (λ_ _=>rfl))))))))))))
theorem Vk:J' P w mg base 4 "f_at" ["F", "c"] Kr:=Ai (f:=330) (c:=329) (pm:=av) (st:=Xm) X G λF=>J_ F (oT ) λa b e d=>(AJ (D_ b ((Ve X G B).q2 a (xI Ad (pv 0)) (pv 1))) (AS (Ac (IL (cR (HR d) (pv 2) (Aw (AD AF (AD AF AK)))) El ((OS X G B).q2 a ((Ve X G B).q2 a (xI Ad (pv 0)) (pv 1)) (pv 2))))))
theorem Jm:J' P w mg base 4 "stretched" ["P", "c"] FM:=Ai (f:=346) (c:=345) (pm:=ae) (st:=Xo) X G λF=>J_ F (qH ) λa b d e=>(AS (Ac ((Eb X G B).q1 a (DA (N:=["place", "number", "c"]) (capt:=[none,none,some 1]) rfl (BlkOk.of rfl rfl rfl rfl (CQ.mpr rfl) rfl rfl rfl) (Ln rfl B.enumerate (AD (pv 0) AK)) (λ_ _ _ _=>(ES rfl (CH (Am (i:=0) (show (["place", "number", "c"]:List PySem.Str).Nodup by decide +kernel) rfl li) (CH (Am (i:=1) (show (["place", "number", "c"]:List PySem.Str).Nodup by decide +kernel) rfl li) EJ)))) (λ_ _ _ _=>((Vd X G B).q2 a (pv 1) ((mK X G B).q2 a (pv 2) (pv 0))))))))
theorem mV:J' P w mg base 4 "_law_kind" ["_law_source_here"] Mv:=Ai (f:=424) (c:=423) (pm:=U_) (st:=X4) X G λF=>J_ F (oB ) λa b e d=>(AJ (D_ b ((OT X G B).q1 a (pv 0))) (AJ (BT (cR (HR d) (pv 1) (Aw (AD AF (AD AF AK)))) (AS (D_ b (Aw (AD (AN BZ AF ((C2 X G B).q2 a (pv 0) AF)) (AD AF AK))))) BS) (AS (Ac (Aw (AD (AN BZ AF ((C2 X G B).q2 a (pv 0) AF)) (AD (pv 1) (AD ((OT X G B).q1 a (pv 0)) AK))))))))
theorem Vl:J' P w mg base 4 "_law_poly" ["_law_source_here", "_law_most"] Ko:=Ai (f:=429) (c:=428) (pm:=U_) (st:=X5) X G λF=>J_ F (oJ ) λa b d e=>(AS (Ac ((Eb X G B).q1 a (DA (N:=["_law_k", "_law_source_here"]) (capt:=[none,some 0]) rfl (BlkOk.of rfl rfl rfl rfl (CQ.mpr rfl) rfl rfl rfl) (DK rfl B.range (AD (AN BZ AF ((C2 X G B).q2 a (pv 0) (AN BZ (pv 1) AF))) AK)) (λ_ _ _ _=>(Am (i:=0) (show (["_law_k", "_law_source_here"]:List PySem.Str).Nodup by decide +kernel) rfl li)) (λ_ _ _ _=>((OT X G B).q1 a (pv 1)))))))
theorem mW:J' P w mg base 5 "strand_euclid" ["strand", "other"] JA:=Ai (f:=96) (c:=95) (pm:=P') (st:=W9) X G λF=>J_ F (uJ ) λb a d e=>(AJ (E7 PassesOwn.never (Fh (xI BD (pv 1)) (λ_=>rfl)) (AJ (BT (cR EO (As CS rfl B.len BQ (AD (xI BD (pv 1)) AK)) AF) (AS (Ac (pv 1))) BS) (AJ (D_ a ((mQ X G B).q2 b (pv 0) (pv 1))) (AJ (D_ a (pv 1)) (AS (D_ a (pv 2))))))) (AS (Ac (pv 0))))
theorem mX:J' P w mg base 5 "euclid_modulo" ["row", "other", "prime"] KW:=Ai (f:=141) (c:=140) (pm:=P') (st:=XG) X G λF=>J_ F (uD ) λa b d e=>(AJ (D_ b ((OQ X G B).q2 a ((OP X G B).q2 a (pv 0) (pv 2)) (pv 2))) (AJ (D_ b ((OQ X G B).q2 a ((OP X G B).q2 a (pv 1) (pv 2)) (pv 2))) (AJ (E7 PassesOwn.never (Fh (pv 1) (λ_=>rfl)) (AJ (D_ b ((mR X G B).q3 a (pv 0) (pv 1) (pv 2))) (AJ (D_ b (pv 1)) (AS (D_ b ((OQ X G B).q2 a (pv 3) (pv 2))))))) (AS (Ac (pv 0))))))
theorem OV:J' P w mg base 5 "evened" ["P", "Q"] Hr:=Ai (f:=295) (c:=294) (pm:=av) (st:=Xh) X G λF=>J_ F (tT ) λa b d e=>(AJ (D_ b ((OS X G B).q2 a (Aw (AD AF (AD AF AK))) (BY Ad (pv 1) (Bm Bq AF) (λ_ _=>rfl)))) (AS (Ac (Aw (AD ((Vi X G B).q2 a (pv 0) (pv 2)) (AD ((Vi X G B).q2 a (pv 1) (pv 2)) AK))))))
theorem HD:J' P w mg base 5 "quotient" ["P", "Q"] EW:=Ai (f:=302) (c:=301) (pm:=av) (st:=Xi) X G λF=>J_ F (tO ) λa b d e=>(AS (Ac (xI Ad ((mU X G B).q2 a (pv 0) (pv 1)))))
theorem Vm:J' P w mg base 5 "in_root" ["kind", "P"] Kk:=Ai (f:=341) (c:=340) (pm:=ae) (st:=Xn) X G λF=>J_ F (qJ ) λa b d e=>(AS (Ac ((LK X G B).q2 a ((Vj X G B).q2 a ((Jm X G B).q2 a (pv 1) ((OS X G B).q2 a (Aw (AD AF (AD AF AK))) (xI Ad (pv 0)))) ((Vc X G B).q2 a (Aw (AD AF (AD AF AK))) (xI Ad (pv 0)))) (xI Ad (pv 0)))))
theorem mY:J' P w mg base 5 "other_two" ["Q"] Ms:=Ai (f:=391) (c:=390) (pm:=ae) (st:=Xw) X G λF=>J_ F (qP ) λa b d e=>(AJ (HV (i:=1) (N:=["i", "Q"]) (capt:=[none,some 0]) b rfl li rfl (BlkOk.of rfl rfl rfl rfl (CQ.mpr rfl) rfl rfl rfl) (DK rfl B.range (AD AF AK)) (λ_ _ _ _=>(Am (i:=0) (show (["i", "Q"]:List PySem.Str).Nodup by decide +kernel) rfl li)) (λ_ _ _ _=>((D7 X G B).q2 a ((VX X G B).q1 a (pv 0)) ((LK X G B).q2 a ((Jl X G B).q3 a (pv 1) AF (pv 0)) AF)))) (AJ (D_ b (Aw AK)) (AJ (Bx PassesOwn.never rfl (DK rfl B.range (AD AF AK)) (Am (i:=3) b rfl li) (AS (D_ b ((Vh X G B).q2 a (pv 2) ((D7 X G B).q2 a (BY BD (pv 1) (pv 3) (λ_ _=>rfl)) ((mT X G B).q2 a (BY BD (pv 1) (pv 3) (λ_ _=>rfl)) (BY BD (pv 1) (AN BO (pv 3) AF) (λ_ _=>rfl)))))))) (AS (Ac (pv 2))))))
theorem mZ:J' P w mg base 5 "_law_at_place" ["_law_kind_here", "_law_g", "_law_parts", "_law_c"] My:=Ai (f:=476) (c:=475) (pm:=U_) (st:=YC) X G λF=>J_ F (oW ) λa b e d=>(AJ (HI (pv 0) (ES rfl (CH (Am (i:=4) b rfl li) (CH (Am (i:=5) b rfl li) (CH (Am (i:=6) b rfl li) EJ))))) (AJ (D_ b ((DP X G B).q2 a ((LJ X G B).q2 a (xI Ad (pv 3)) (pv 4)) ((LJ X G B).q2 a (xI Ad (pv 3)) (pv 4)))) (AJ (D_ b ((Vg X G B).q2 a ((Vf X G B).q2 a (pv 7) (Aw (AD (Bm Bq (xI Ad (pv 6))) (AD (xI Ad (pv 6)) AK)))) ((DP X G B).q2 a (xI Ad (pv 5)) (xI Ad (pv 5))))) (AJ (D_ b (Aw (AD AF (AD AF AK)))) (AJ (Bx PassesOwn.never rfl (Ln rfl B.enumerate (AD (pv 2) AK)) (ES rfl (CH (Am (i:=10) b rfl li) (CH (Am (i:=11) b rfl li) EJ))) (AJ (D_ b ((Vk X G B).q2 a (pv 11) (pv 8))) (AJ (BT (cR Jt (pv 12) El) (AS (Ac EH)) BS) (AS (D_ b ((Vf X G B).q2 a (pv 9) ((Vg X G B).q2 a (pv 12) ((DP X G B).q2 a ((LJ X G B).q2 a (xI Ad (pv 3)) (pv 10)) ((LJ X G B).q2 a (xI Ad (pv 3)) (pv 10)))))))))) (AJ (D_ b ((Vk X G B).q2 a (pv 1) (pv 3))) (AS (Ac (V2 (IR Jt (pv 12) El (V_ _)) (Ob (IR (HR d) (pv 12) (pv 9) (V_ _))))))))))))
theorem lE:J' P w mg base 6 "common_by_prime" ["row", "other", "prime"] KZ:=Ai (f:=153) (c:=152) (pm:=P') (st:=XI) X G λF=>J_ F (uQ ) λa b d e=>(AJ (C6 (i:=3) b rfl (Or.inr rfl) ((HC X G B).q2 a (BY BD (pv 0) (Bm Bq AF) (λ_ _=>rfl)) (BY BD (pv 1) (Bm Bq AF) (λ_ _=>rfl)))) (AJ (BT (cR EO (AN C9 (pv 3) (pv 2)) AF) (AS (Ac El)) BS) (AJ (D_ b ((mX X G B).q3 a (pv 0) (pv 1) (pv 2))) (AJ (D_ b ((OU X G B).q1 a (DA (N:=["whole", "prime", "lead"]) (capt:=[none,some 2,some 3]) rfl (BlkOk.of rfl rfl rfl rfl (Cv.mpr ⟨rfl,(CQ.mpr rfl)⟩) rfl rfl rfl) (EM (pv 4)) (λ_ _ _ _=>(Am (i:=0) (show (["whole", "prime", "lead"]:List PySem.Str).Nodup by decide +kernel) rfl li)) (λ_ _ _ _=>((mH X G B).q2 a (AN A5 (pv 2) (pv 0)) (pv 1)))))) (AJ (BT (PW.pt (E5 (cR Jt ((VW X G B).q2 a (pv 0) (pv 5)) El) (Fa (cR Jt ((VW X G B).q2 a (pv 1) (pv 5)) El)))) (AS (Ac El)) BS) (AS (Ac (pv 5))))))))
theorem lH:J' P w mg base 6 "other_roots" ["Q", "n"] Mr:=Ai (f:=386) (c:=385) (pm:=ae) (st:=Xv) X G λF=>J_ F (qV ) λa b d e=>(AJ (BT (cR EO (pv 1) AF) (AS (Ac ((Jm X G B).q2 a (pv 0) (Aw (AD (Bm Bq AF) (AD AF AK)))))) BS) (AJ (BT (cR EO (pv 1) AF) (AS (Ac ((mY X G B).q1 a (pv 0)))) BS) (AJ (D_ b ((Jm X G B).q2 a (pv 0) (Aw (AD (Bm Bq AF) (AD AF AK))))) (AJ (D_ b ((Jl X G B).q3 a ((D7 X G B).q2 a (pv 0) (pv 2)) AF AF)) (AS (Ac ((D7 X G B).q2 a (pv 2) ((LK X G B).q2 a ((Jm X G B).q2 a (pv 3) (Aw (AD (Bm Bq AF) (AD AF AK)))) AF))))))))
theorem lI:J' P w mg base 6 "in_place" ["kind", "F"] Mp:=Ai (f:=396) (c:=395) (pm:=ae) (st:=Xx) X G λF=>J_ F (qL ) λa b d e=>(AJ (HV (i:=2) (N:=["P", "kind"]) (capt:=[none,some 0]) b rfl li rfl (BlkOk.of rfl rfl rfl rfl (CQ.mpr rfl) rfl rfl rfl) (EN (pv 1)) (λ_ _ _ _=>(Am (i:=0) (show (["P", "kind"]:List PySem.Str).Nodup by decide +kernel) rfl li)) (λ_ _ _ _=>((Jm X G B).q2 a ((Vj X G B).q2 a (pv 0) (xI Ad (pv 1))) (xI Ad (pv 1))))) (AS (Ac ((OV X G B).q2 a (xI BD (pv 2)) (xI BD (pv 2))))))
theorem lJ:J' P w mg base 7 "row_common" ["row", "other"] Ka:=Ai (f:=160) (c:=159) (pm:=P') (st:=XJ) X G λF=>J_ F (uV B.xEXPONENTS ) λa b d e=>(AJ (D_ b ((OU X G B).q1 a (pv 0))) (AJ (D_ b ((OU X G B).q1 a (pv 1))) (AJ (BT (PW.pt (Jp (Fh (pv 0) (λ_=>rfl)) (Jo (Fh (pv 1) (λ_=>rfl))))) (AS (Bx PassesOwn.never rfl (EN (Oa rfl B.EXPONENTS rfl)) (Am (i:=4) b rfl li) (AJ (D_ b ((lE X G B).q3 a (pv 2) (pv 3) (AN BO ((ON X G B).q2 a AF (pv 4)) AF))) (AS (BT (cR WH (pv 5) El) (AS (Ac (pv 5))) BS))))) BS) (AS (Ac (xI BD ((mW X G B).q2 a (Ch (AD (pv 2) AK)) (Ch (AD (pv 3) AK)))))))))
theorem LM:J' P w mg base 8 "common" ["P", "Q"] Fx:=Ai (f:=269) (c:=268) (pm:=W_) (st:=Xd) X G λF=>J_ F (uX ) λa b d e=>(AJ (D_ b ((lJ X G B).q2 a (xI Ad ((GE X G B).q1 a (pv 0))) (xI Ad ((GE X G B).q1 a (pv 1))))) (AS (Ac (IL (Fh (pv 2) (λ_=>rfl)) ((LL X G B).q2 a (pv 2) (BY BD (pv 2) (Bm Bq AF) (λ_ _=>rfl))) (Aw AK)))))
theorem IJ:J' P w mg base 9 "fraction" ["P", "Q"] Ew:=Ai (f:=288) (c:=287) (pm:=av) (st:=Xg) X G λF=>J_ F (sJ ) λa b d e=>(AJ (D_ b ((LM X G B).q2 a (pv 0) (pv 1))) (AS (Ac ((OV X G B).q2 a ((HD X G B).q2 a (pv 0) (pv 2)) ((HD X G B).q2 a (pv 1) (pv 2))))))
theorem lK:J' P w mg base 9 "f_plus" ["F", "G"] Kg:=Ai (f:=316) (c:=315) (pm:=av) (st:=Xk) X G λF=>J_ F (sU ) λa b d e=>(AJ (D_ b ((LM X G B).q2 a (xI Fj (pv 0)) (xI Ad (pv 1)))) (AJ (D_ b ((HD X G B).q2 a (xI Ad (pv 1)) (pv 2))) (AJ (D_ b ((Vh X G B).q2 a ((D7 X G B).q2 a (xI Fj (pv 0)) (pv 3)) ((D7 X G B).q2 a (xI Ad (pv 1)) ((HD X G B).q2 a (xI Fj (pv 0)) (pv 2))))) (AJ (D_ b ((LM X G B).q2 a (pv 4) (pv 2))) (AS (Ac (Aw (AD ((HD X G B).q2 a (pv 4) (pv 5)) (AD ((HD X G B).q2 a ((D7 X G B).q2 a (xI Fj (pv 0)) (pv 3)) (pv 5)) AK)))))))))
theorem lM:J' P w mg base 9 "strands_common" ["Q", "n"] Mq:=Ai (f:=379) (c:=378) (pm:=ae) (st:=Xu) X G λF=>J_ F (qN ) λb a d e=>(AJ (D_ a (Aw AK)) (AJ (Bx PassesOwn.never rfl (DK rfl B.range (AD (pv 1) AK)) (Am (i:=3) a rfl li) (AS (D_ a ((LM X G B).q2 b (pv 2) ((Jl X G B).q3 b (pv 0) (pv 1) (pv 3)))))) (AS (Ac (pv 2)))))
theorem lO:J' P w mg base 10 "f_times" ["F", "G"] Kh:=Ai (f:=323) (c:=322) (pm:=av) (st:=Xl) X G λF=>J_ F (sO ) λa b d e=>(AJ (D_ b ((IJ X G B).q2 a (xI Ad (pv 0)) (xI Ad (pv 1)))) (AJ (D_ b ((IJ X G B).q2 a (xI Ad (pv 1)) (xI Ad (pv 0)))) (AS (Ac (Aw (AD ((D7 X G B).q2 a (xI Ad (pv 2)) (xI Ad (pv 3))) (AD ((D7 X G B).q2 a (xI Ad (pv 2)) (xI Ad (pv 3))) AK)))))))
theorem Vn:J' P w mg base 10 "parted" ["kind", "g"] Km:=Ai (f:=372) (c:=371) (pm:=ae) (st:=Xs) X G λF=>J_ F (pK ) λa b d e=>(AJ (C6 (i:=2) b rfl (Or.inr rfl) (xI Ad (pv 0))) (AJ (D_ b ((lM X G B).q2 a (xI Ad (pv 1)) (pv 2))) (AJ (D_ b ((HD X G B).q2 a (xI Ad (pv 1)) ((LK X G B).q2 a (pv 3) (pv 2)))) (AJ (D_ b ((lH X G B).q2 a (pv 4) (pv 2))) (AJ (C6 (i:=6) b rfl (Or.inr rfl) ((D7 X G B).q2 a (pv 3) ((Jl X G B).q3 a ((D7 X G B).q2 a (pv 4) (pv 5)) (pv 2) AF))) (AJ (C6 (i:=7) b rfl (Or.inr rfl) ((D7 X G B).q2 a (xI Ad (pv 1)) (pv 5))) (AS (Ac (HK PM rfl B.tuple HN (AD (DA (N:=["i", "kind", "bottom", "top", "n"]) (capt:=[none,some 0,some 6,some 7,some 2]) rfl (BlkOk.of rfl rfl rfl rfl (Cv.mpr ⟨rfl,(Cv.mpr ⟨rfl,(Cv.mpr ⟨rfl,(CQ.mpr rfl)⟩)⟩)⟩) rfl rfl rfl) (DK rfl B.range (AD (pv 2) AK)) (λ_ _ _ _=>(Am (i:=0) (show (["i", "kind", "bottom", "top", "n"]:List PySem.Str).Nodup by decide +kernel) rfl li)) (λ_ _ _ _=>((lI X G B).q2 a (pv 1) ((IJ X G B).q2 a ((Jl X G B).q3 a (pv 3) (pv 4) (pv 0)) (pv 2))))) AK))))))))))
theorem lU:J' P w mg base 10 "_law_fraction" ["_law_source_here", "_law_top", "_law_bottom"] Mw:=Ai (f:=436) (c:=435) (pm:=U_) (st:=X6) X G λF=>J_ F (oK ) λa b e d=>(AJ (D_ b ((Vl X G B).q2 a (pv 0) (pv 1))) (AJ (D_ b ((Vl X G B).q2 a (pv 0) (pv 2))) (AJ (BT (cR (HR d) (pv 4) (Aw AK)) (AS (D_ b (Aw (AD (Aw (AD AF (AD AF AK))) AK)))) BS) (AS (Ac ((IJ X G B).q2 a (pv 3) (pv 4)))))))
theorem lV:J' P w mg base 11 "joined" ["kind", "parts"] Mt:=Ai (f:=367) (c:=366) (pm:=ae) (st:=Xr) X G λF=>J_ F (qX B.xNOUGHT ) λa b d e=>(AJ (D_ b (Oa rfl B.NOUGHT rfl)) (AJ (Bx PassesOwn.never rfl (Ln rfl B.enumerate (AD (pv 1) AK)) (ES rfl (CH (Am (i:=3) b rfl li) (CH (Am (i:=4) b rfl li) EJ))) (AJ (D_ b ((Vm X G B).q2 a (pv 0) (xI Ad (pv 4)))) (AS (D_ b ((lK X G B).q2 a (pv 2) ((lO X G B).q2 a ((mI X G B).q1 a ((VX X G B).q1 a (pv 3))) ((OV X G B).q2 a ((Vm X G B).q2 a (pv 0) (xI Ad (pv 4))) (pv 5)))))))) (AS (Ac (pv 2)))))
theorem Vo:J' P w mg base 12 "_law_right" ["_law_kind_here", "_law_g"] Ku:=Ai (f:=483) (c:=482) (pm:=U_) (st:=YD) X G λF=>J_ F (nO ) λa d e b=>(AJ (D_ d ((Vn X G B).q2 a (pv 0) (pv 1))) (AJ (BT (PW.pt (E5 (Du (EI (As HP rfl B.isinstance HM (AD (pv 2) (AD (HF rfl B.tuple HN rfl) AK))))) (Fa (cR En (As Dw rfl B.len BQ (AD (pv 2) AK)) (xI Ad (pv 0)))))) (AS (Ac EH)) BS) (AJ (Bx PassesOwn.never rfl (EN (pv 2)) (Am (i:=3) d rfl li) (AS (BT (PW.pt (E5 (Du (EI ((mM X G B).q1 a (pv 3)))) (E5 (cR (PJ b) (pv 3) ((IJ X G B).q2 a (xI Ad (pv 3)) (xI Ad (pv 3)))) (Fa (cR (PJ b) (BY Ad (xI Ad (pv 3)) (Bm Bq AF) (λ_ _=>rfl)) (Aw (AD AF (AD AF AK)))))))) (AS (Ac EH)) BS))) (AJ (Bx PassesOwn.never rfl (EM (Ch (AD (Aw (AD AF (AD AF AK))) (AD (Aw (AD AF (AD AF AK))) (AD (Aw (AD (Bm Bq AF) (AD AF AK))) (AD (Aw (AD AF (AD AF AK))) (AD (Aw (AD (Bm Bq AF) (AD AF AK))) (AD (Aw (AD AF (AD AF AK))) (AD (Aw (AD AF (AD AF AK))) AK))))))))) (Am (i:=4) d rfl li) (AS (BT (Du (EI ((mZ X G B).pe a ∅ rfl (AD (pv 0) (AD (pv 1) (AD (pv 2) (AD (pv 4) AK))))))) (AS (Ac EH)) BS))) (AS (Ac (V1 (IR (HR b) ((lV X G B).q2 a (pv 0) (pv 2)) (pv 1) (V_ _)) (Ob (IR (HR b) ((Vn X G B).q2 a (pv 0) (pv 1)) (pv 2) (V_ _))))))))))
end
def all_mk {l:W.OpenLaw} {w:World} {h:Heap} {u:dE} {y:Addr} (X:(hp w.params).In h) (G:h.Ns mainGlobals u) (x:u "law" = some (.ref y))
  : ∃ z:FuncData,(∀ (s:Shared) (v:Value),BindsTo s z ⟨[v],[]⟩ [("_law_script", v)])/\∀ j:Heap,(hp w.params).In j->j.Ns mainGlobals u->FnOk l.prog w (hp w.params) u j aM 13 y z ["_law_script"] (KP (hp w.params)):=by
 have e:=x.symm.trans (W.mg_of X G (n := "law") (v:=.ref 488) (by kernel_rfl));cases e;have a:Gj (hp w.params)=15:=by kernel_rfl
 have b:∀ H:Hp,SqT (hp w.params) H (Gj (hp w.params)) (exps.map λe:Nat=>V.int (e:Int)):=λH=>.inr ⟨_,_,_,(show (hp w.params).lookup (Gj (hp w.params))=some ⟨.type "tuple", none,.seq #[(.int 61 189),(.int 127 190),(.int 521 191),(.int 1279 192),(.int 4423 193),(.int 9941 194),(.int 21701 195),(.int 44497 196)] 0,#[]⟩ by rw [a];kernel_rfl),rfl,rfl,by show 8<=sizeLine;rw [sizeLine_eq];decide,.cons ⟨_,rfl⟩ (.cons ⟨_,rfl⟩ (.cons ⟨_,rfl⟩ (.cons ⟨_,rfl⟩ (.cons ⟨_,rfl⟩ (.cons ⟨_,rfl⟩ (.cons ⟨_,rfl⟩ (.cons ⟨_,rfl⟩ (.nil))))))))⟩;have d:Hg (hp w.params)=334:=by kernel_rfl
 have k:∀ H:Hp,SqT (hp w.params) H 334 [.ref 331,.ref 333]:=λH=>.inr ⟨_,_,_,(show (hp w.params).lookup 334=some ⟨.type "tuple", none,.seq #[(R 331),(R 333)] 0,#[]⟩ by kernel_rfl),rfl,rfl,by show 2<=sizeLine;rw [sizeLine_eq];decide,.cons rfl (.cons rfl (.nil))⟩;have m:∀ H:Hp,SqT (hp w.params) H 331 []:=λH=>.inr ⟨_,_,_,(show (hp w.params).lookup 331=some ⟨.type "tuple", none,.seq #[] 0,#[]⟩ by kernel_rfl),rfl,rfl,by show 0<=sizeLine;rw [sizeLine_eq];decide,.nil⟩;have o:∀ H:Hp,SqT (hp w.params) H 333 [.ref 332]:=λH=>.inr ⟨_,_,_,(show (hp w.params).lookup 333=some ⟨.type "tuple", none,.seq #[(R 332)] 0,#[]⟩ by kernel_rfl),rfl,rfl,by show 1<=sizeLine;rw [sizeLine_eq];decide,.cons rfl (.nil)⟩;have p:∀ H:Hp,SqT (hp w.params) H 332 [.int 1,.int 1]:=λH=>.inr ⟨_,_,_,(show (hp w.params).lookup 332=some ⟨.type "tuple", none,.seq #[(.int 1 632),(.int 1 633)] 0,#[]⟩ by kernel_rfl),rfl,rfl,by show 2<=sizeLine;rw [sizeLine_eq];decide,.cons ⟨_,rfl⟩ (.cons ⟨_,rfl⟩ (.nil))⟩;have q:NOk (hp w.params):=⟨331,333,332,λH=>⟨by rw [d];exact k H,m H,o H,p H⟩⟩;have B:Bl (hp w.params) u:=⟨W.mg_none_of X G (by kernel_rfl),W.mg_none_of X G (by kernel_rfl),W.mg_none_of X G (by kernel_rfl),W.mg_none_of X G (by kernel_rfl),W.mg_none_of X G (by kernel_rfl),W.mg_none_of X G (by kernel_rfl),W.mg_none_of X G (by kernel_rfl),W.mg_none_of X G (by kernel_rfl),W.mg_none_of X G (by kernel_rfl),by rw [a];exact W.mg_of X G (by kernel_rfl),W.mg_none_of X G (by kernel_rfl),W.mg_none_of X G (by kernel_rfl),by rw [d];exact W.mg_of X G (by kernel_rfl),W.mg_none_of X G (by kernel_rfl),W.mg_none_of X G (by kernel_rfl),W.mg_none_of X G (by kernel_rfl),W.mg_none_of X G (by kernel_rfl),W.mg_none_of X G (by kernel_rfl),b,q⟩;have A:=OM (K:=hp w.params) (st:=Jx) (f:=488) (c:=487) (n := "law") (pm:=U_) (by kernel_rfl) (by kernel_rfl) (by kernel_rfl);refine ⟨W.fnOf "law" "law" (Eo Jx) (Dv Jx) (Cm Jx) .none .none .none U_ none (.ref 487) .none,λs v=>.of_eq rfl,λj KB _=>?_⟩;exact J_ A (nV ) λg r C D=>(AJ (Bx PassesOwn.never rfl (DK rfl B.range (AD AF AK)) (Am (i:=1) r rfl li) (AJ (C6 (i:=2) r rfl (Or.inr rfl) ((VY X G B).q2 g (pv 0) (pv 1))) (AJ (D_ r ((mV X G B).q1 g (pv 2))) (AJ (D_ r (BY BD (Ch (AD AF (AD AF (AD AF AK)))) (AN BO (xI Ad (pv 3)) AF) (λ_ _=>rfl))) (AS (BT (Du (EI ((Vo X G B).q2 g (pv 3) ((lU X G B).q3 g (pv 2) (pv 4) (pv 4))))) (AS (Ac EH)) BS)))))) (AJ (C6 (i:=2) r rfl (Or.inr rfl) ((VY X G B).q2 g (pv 0) AF)) (AJ (BT (cR EO ((C2 X G B).q2 g (pv 2) AF) AF) (AJ (D_ r (AN BZ AF ((C2 X G B).q2 g (pv 2) AF))) (AJ (D_ r (Aw (AD (pv 5) (AD (Aw (AD (AN BZ AF ((C2 X G B).q2 g (pv 2) AF)) (AD AF AK))) (AD (Aw (AD (AN BO ((C2 X G B).q2 g (pv 2) AF) AF) (AD AF AK))) AK))))) (AJ (D_ r (AN Oy (DA (N:=["_law_k", "_law_source_here"]) (capt:=[none,some 2]) rfl (BlkOk.of rfl rfl rfl rfl (CQ.mpr rfl) rfl rfl rfl) (DK rfl B.range (AD (AN BZ (AN BO AF (AN A5 AF (pv 5))) ((C2 X G B).q2 g (pv 2) AF)) AK)) (λ_ _ _ _=>(Am (i:=0) (show (["_law_k", "_law_source_here"]:List PySem.Str).Nodup by decide +kernel) rfl li)) (λ_ _ _ _=>(Aw (AD (AN BO ((C2 X G B).q2 g (pv 1) AF) AF) (AD AF AK))))) (Ch (AD (Aw (AD AF (AD AF AK))) AK)))) (AJ (HV (i:=7) (N:=["_law_k", "_law_source_here"]) (capt:=[none,some 2]) r rfl li rfl (BlkOk.of rfl rfl rfl rfl (CQ.mpr rfl) rfl rfl rfl) (DK rfl B.range (AD (AN BZ AF ((C2 X G B).q2 g (pv 2) AF)) AK)) (λ_ _ _ _=>(Am (i:=0) (show (["_law_k", "_law_source_here"]:List PySem.Str).Nodup by decide +kernel) rfl li)) (λ_ _ _ _=>(Aw (AD (AN BO ((C2 X G B).q2 g (pv 1) AF) AF) (AD AF AK))))) (AS (Ac ((Vo X G B).q2 g (pv 3) ((IJ X G B).q2 g ((Eb X G B).q1 g (pv 7)) ((Eb X G B).q1 g (pv 6)))))))))) BS) (AS (Ac EH)))))
def row_said {l:W.OpenLaw} (h:l.wellSaid=true):l.row.wellSaid=true:=by
 unfold W.OpenLaw.wellSaid at h;simp only [Eg] at h;exact h.1.1.1.1.1.1.1.1.1.1.1.1.1.1.1.1.1.1
def walk {l:W.OpenLaw} {q:Program} {loose:dH} {XP:(dE)->Heap->Prop} {YP:World->Heap->Prop} {d:DefRec} {K:Params->W.Frag} (j:l.most=some 63) (e:d.params.defaults=[]) (m:importsNone q=true) (o:∀ w,(model l.prog w).prog.given.tree=none)
  (p:∀ (w:World) (h:Heap),YP w h->(K w.params).In h)
  (F:∀ (w:World) (c:dE) (g:Addr) (h:Heap),(K w.params).In h->h.Ns mainGlobals c->c d.name=some (.ref g)->
   ∃ i:FuncData,(∀ (s:Shared) (u:Value),BindsTo s i ⟨[u],[]⟩ [("_law_script", u)])/\∀ b:Heap,(K w.params).In b->b.Ns mainGlobals c->FnOk l.prog w (K w.params) c b aM 13 g i ["_law_script"] (KP (K w.params))) :
  W.WalkO q loose XP YP l.row.toRowW d [] (λf r=>PySem.call f r):=
 L2.walk_of (n:=63) (k:=13) (x := "_law_script") (CX:=λ_=>aM) (sp:=λw=>KP (K w.params)) j ∅ e m o ⟨rfl,∅,∅⟩ p F (λ_ _ a v y _ A=>⟨a,v,rfl,A,y,λ_=>rfl⟩) λ_ _ _ _ _ z=>z
end Bs
open PySem PySem.W PyProof.Rows
set_option maxRecDepth 100000 in
set_option maxHeartbeats 0 in
theorem PySem.Challenge.cw_backslope_k43_parted_and_joined_holds : PySem.Challenge.rw_backslope_k43_parted_and_joined.Holds := by
  have a : PySem.Challenge.rw_backslope_k43_parted_and_joined.wellSaid = true := Bs.Hd.sd;refine ⟨a, ?_⟩;refine W.holds_open (q := Bs.Hd.vw) (loose := Bs.Hd.lo) (Xt := fun s => W.xlAt Bs.Hd.vw [] s && W.recOk (W.RowW.records (W.OpenRow.toRowW (W.OpenLaw.row PySem.Challenge.rw_backslope_k43_parted_and_joined))) s) (XP := W.XL Bs.Hd.vw []) (Yf := Bs.Hd.hk.obs) (Ya := Bs.Hd.hk.val) (YP := Bs.Hd.hk.says) (N := 4718) Bs.Hd.left Bs.Hd.hk.of Bs.Hd.hk.keeps (fun s e => W.xl_of s (Bool.and_eq_true_iff.mp e).1) W.XL.keeps (by rfl) (by rfl) (by rfl) (fun s e => W.recFacts_of (Bool.and_eq_true_iff.mp e).2) (by rfl) (Bs.row_said a) (by decide +kernel) ⟨rfl, rfl, rfl, rfl, rfl, by decide +kernel⟩ ?hw ?hc
  case hw => w_witness2
  case hc => exact Bs.walk (l := PySem.Challenge.rw_backslope_k43_parted_and_joined) (K := Bs.Hd.hp) rfl rfl (by decide +kernel) (fun _ => rfl) (fun w h Y => Y) (fun w d f h c G b => Bs.all_mk c G b)
#print axioms PySem.Challenge.cw_backslope_k43_parted_and_joined_holds


