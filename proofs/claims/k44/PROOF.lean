import PyProof.Rows.All
import Wide.All
import OpenK.AllK
import Wide.FinOn
import Lean
import PyProof.EqAt
import PyProof.EqKinds
import PyProof.TupleCall
import PySem.Challenge.RW_backslope_k44_joined_then_parted
local macro_rules | `(()) => `(by grind)
local macro_rules | `(tactic| ext) => `(tactic| grind)
local macro_rules | `(⋯) => `(by omega)
local macro_rules | `(∅) => `(by decide)
set_option Elab.async false
set_option linter.all false
set_option maxRecDepth 100000
def mE:type_of% @if_neg:=@if_neg
def mF:type_of% @if_pos:=@if_pos
def mG:type_of% @decide_eq_true:=@decide_eq_true
def mH:type_of% @of_decide_eq_true:=@of_decide_eq_true
def mI:type_of% @decide_eq_false:=@decide_eq_false
def mJ:type_of% @PySem.wpAny_bind:=@PySem.wpAny_bind
def mK:type_of% @PySem.wpAny_pure:=@PySem.wpAny_pure
def mM:type_of% @PySem.wpAny_mono:=@PySem.wpAny_mono
def mO:type_of% @Option.some.inj:=@Option.some.inj
def mP:type_of% @PySem.Heap.lt_size:=@PySem.Heap.lt_size
def mQ:type_of% @congrFun:=@congrFun
def AM:type_of% @Nat.le_refl:=@Nat.le_refl
def AO:type_of% @List.length_map:=@List.length_map
def AT:type_of% @List.getD_eq_getElem?_getD:=@List.getD_eq_getElem?_getD
def AV:type_of% @Int.ne_of_gt:=@Int.ne_of_gt
def Ab:type_of% @Nat.zero_le:=@Nat.zero_le
def Aj:type_of% @List.getElem?_map:=@List.getElem?_map
def Am:type_of% @Nat.lt_or_ge:=@Nat.lt_or_ge
def Ax:type_of% @List.getElem?_eq_getElem:=@List.getElem?_eq_getElem
def A7:type_of% @Nat.le_trans:=@Nat.le_trans
def A9:type_of% @List.size_toArray:=@List.size_toArray
def BD:type_of% @List.length_range:=@List.length_range
def BE:type_of% @List.length_pos_iff:=@List.length_pos_iff
def BK:type_of% @Int.mul_ne_zero:=@Int.mul_ne_zero
def BM:type_of% @List.mem_map:=@List.mem_map
def BN:type_of% @Int.natAbs_mul:=@Int.natAbs_mul
def BV:type_of% @Nat.ne_of_lt:=@Nat.ne_of_lt
def BW:type_of% @Nat.mul_le_mul_right:=@Nat.mul_le_mul_right
def Be:type_of% @Nat.mul_le_mul:=@Nat.mul_le_mul
def Bg:type_of% @List.mem_of_getElem?:=@List.mem_of_getElem?
def Bh:type_of% @List.getElem?_eq_none:=@List.getElem?_eq_none
def By:type_of% @List.getElem?_eq_some_iff:=@List.getElem?_eq_some_iff
def B5:type_of% @Nat.mul_comm:=@Nat.mul_comm
def B6:type_of% @List.length_eq_zero_iff:=@List.length_eq_zero_iff
def B7:type_of% @List.length_cons:=@List.length_cons
def CB:type_of% @List.length_take:=@List.length_take
def CC:type_of% @List.mem_singleton:=@List.mem_singleton
def CD:type_of% @List.mem_cons_self:=@List.mem_cons_self
def CJ:type_of% @Int.dvd_trans:=@Int.dvd_trans
def CO:type_of% @Nat.lt_of_lt_of_le:=@Nat.lt_of_lt_of_le
def CP:type_of% @Nat.le_of_lt:=@Nat.le_of_lt
def CQ:type_of% @List.mem_cons_of_mem:=@List.mem_cons_of_mem
def CS:type_of% @Nat.mul_le_mul_left:=@Nat.mul_le_mul_left
def CU:type_of% @Nat.pow_succ:=@Nat.pow_succ
def CV:type_of% @Int.mul_pos:=@Int.mul_pos
def Cb:type_of% @Bool.false_ne_true:=@Bool.false_ne_true
def Cc:type_of% @Nat.eq_zero_or_pos:=@Nat.eq_zero_or_pos
def Cd:type_of% @Int.emod_nonneg:=@Int.emod_nonneg
def Ce:type_of% @List.forall_mem_singleton:=@List.forall_mem_singleton
def Cj:type_of% @Nat.pow_add:=@Nat.pow_add
def Ck:type_of% @Int.dvd_add:=@Int.dvd_add
def Cl:type_of% @Int.natAbs_natCast:=@Int.natAbs_natCast
def Cm:type_of% @Int.dvd_zero:=@Int.dvd_zero
def Cr:type_of% @List.length_append:=@List.length_append
def Ct:type_of% @Int.emod_lt_of_pos:=@Int.emod_lt_of_pos
def Cu:type_of% @Nat.sub_zero:=@Nat.sub_zero
def Cv:type_of% @List.take_length:=@List.take_length
def Cw:type_of% @Int.natAbs_dvd_natAbs:=@Int.natAbs_dvd_natAbs
def Cy:type_of% @Nat.add_mul:=@Nat.add_mul
def C8:type_of% @Nat.lt_irrefl:=@Nat.lt_irrefl
def C9:type_of% @Bool.and_eq_true:=@Bool.and_eq_true
def DA:type_of% @Int.toNat_natCast:=@Int.toNat_natCast
def DC:type_of% @List.mem_append_right:=@List.mem_append_right
def DD:type_of% @List.getElem?_range:=@List.getElem?_range
def DQ:type_of% @Nat.lt_of_le_of_lt:=@Nat.lt_of_le_of_lt
def DS:type_of% @Int.le_of_lt:=@Int.le_of_lt
def De:type_of% @List.mem_cons:=@List.mem_cons
def Df:type_of% @List.length_replicate:=@List.length_replicate
def Dg:type_of% @List.map_cons:=@List.map_cons
def Dw:type_of% @List.getElem?_append_right:=@List.getElem?_append_right
def Dx:type_of% @List.getElem?_replicate:=@List.getElem?_replicate
def Dy:type_of% @Int.gcd_dvd_right:=@Int.gcd_dvd_right
def Dz:type_of% @Nat.le_antisymm:=@Nat.le_antisymm
def D3:type_of% @Nat.lt_succ_self:=@Nat.lt_succ_self
def D4:type_of% @List.map_append:=@List.map_append
def D5:type_of% @Nat.mod_eq_of_lt:=@Nat.mod_eq_of_lt
def D6:type_of% @Rat.mul_eq_zero:=@Rat.mul_eq_zero
def D7:type_of% @Rat.pow_succ:=@Rat.pow_succ
def EK:type_of% @List.mem_range:=@List.mem_range
def EL:type_of% @Nat.pow_le_pow_right:=@Nat.pow_le_pow_right
def EM:type_of% @Int.fdiv_eq_ediv_of_nonneg:=@Int.fdiv_eq_ediv_of_nonneg
def EN:type_of% @List.getElem_mem:=@List.getElem_mem
def EO:type_of% @Nat.le_of_dvd:=@Nat.le_of_dvd
def EQ:type_of% @List.map_congr_left:=@List.map_congr_left
def ER:type_of% @Rat.intCast_mul:=@Rat.intCast_mul
def ES:type_of% @List.forall_mem_cons:=@List.forall_mem_cons
def Er:type_of% @List.mem_append:=@List.mem_append
def Es:type_of% @List.getElem?_append_left:=@List.getElem?_append_left
def Et:type_of% @Int.gcd_dvd_left:=@Int.gcd_dvd_left
def Eu:type_of% @List.take_add_one:=@List.take_add_one
def Ev:type_of% @Nat.div_eq_of_lt:=@Nat.div_eq_of_lt
def Ew:type_of% @Nat.add_sub_cancel:=@Nat.add_sub_cancel
def Ex:type_of% @Int.dvd_mul_of_dvd_right:=@Int.dvd_mul_of_dvd_right
def FP:type_of% @List.filterMap_cons:=@List.filterMap_cons
def FQ:type_of% @List.all_eq_true:=@List.all_eq_true
def FS:type_of% @List.getLast?_eq_getElem?:=@List.getLast?_eq_getElem?
def FT:type_of% @List.getD_cons_succ:=@List.getD_cons_succ
def GE:type_of% @List.replicate_succ:=@List.replicate_succ
def GG:type_of% @Int.dvd_mul_of_dvd_left:=@Int.dvd_mul_of_dvd_left
def GH:type_of% @List.getElem_of_mem:=@List.getElem_of_mem
def GI:type_of% @Int.mul_ediv_cancel_left:=@Int.mul_ediv_cancel_left
def GJ:type_of% @List.dropLast_concat_getLast:=@List.dropLast_concat_getLast
def GK:type_of% @Int.mul_ediv_cancel':=@Int.mul_ediv_cancel'
def HE:type_of% @Nat.le_mul_of_pos_left:=@Nat.le_mul_of_pos_left
def IC:type_of% @Int.mul_le_mul_of_nonneg_left:=@Int.mul_le_mul_of_nonneg_left
abbrev de:=List Int
abbrev dh:=List PySem.Value
abbrev dj:=PySem.Value->PySem.Shared->Prop
abbrev dl:=List (PySem.Addr×PySem.Obj)
abbrev dq:=PySem.Str->Option PySem.Value
abbrev du:=List PySem.Expr
abbrev dw:=List PySem.Str
abbrev dC:=Option PySem.Value
abbrev dE:=List PySem.Addr
abbrev dF:=Nat->Int
abbrev dH:=Nat->Rat
namespace L2
open PySem PySem.Spec PyProof.Rows
noncomputable abbrev ak:=Sum Int Str
noncomputable def OZ:ak->Value->Bool
 | .inl k,v=>Value.isInt k v
 | .inr x,v=>Value.isStrOf x v
noncomputable def Va (w:World):ak->Int
 | .inl k=>hashInt k
 | .inr x=>hashStr w x
theorem Ey:∀ {k:ak} {v:Value},OZ k v=true->(∃ i t,k=Sum.inl i/\v=Value.int i t)\/(∃ x t,k=Sum.inr x/\v=Value.str x t)
 | .inl i,v,h=>by
   obtain ⟨t,e⟩:=Value.isInt_shape (k:=i) (v:=v) h;exact .inl ⟨i,t,rfl,e⟩
 | .inr x,v,h=>by
   obtain ⟨t,e⟩:=Value.isStrOf_shape (x:=x) (v:=v) h;exact .inr ⟨x,t,rfl,e⟩
def Vb (a b:Int):decide ((Sum.inl a:ak)=Sum.inl b)=(a == b):=by
 by_cases e:a=b
 ·subst e;simp
 ·have h:¬ (Sum.inl a:ak)=Sum.inl b:=λq=>e (Sum.inl.inj q);rw [mI h];exact (beq_eq_false_iff_ne.mpr e).symm
def Vc (a b:Str):decide ((Sum.inr a:ak)=Sum.inr b)=decide (a=b):=by
 by_cases e:a=b
 ·subst e;simp
 ·have h:¬ (Sum.inr a:ak)=Sum.inr b:=λq=>e (Sum.inr.inj q);rw [mI h,mI e]
def Vd (a:Int) (b:Str):decide ((Sum.inl a:ak)=Sum.inr b)=false:=mI (λq=>nomatch q)
def Ve (a:Str) (b:Int):decide ((Sum.inr a:ak)=Sum.inl b)=false:=mI (λq=>nomatch q)
noncomputable def LW (prog:Program) (w:World):PySem.KeyKind prog w ak where
 is:=OZ
 hash:=Va w
 inj:=λv a b g f=>by
  rcases Ey g with ⟨i,t,rfl,rfl⟩ | ⟨x,t,rfl,rfl⟩
  ·rcases Ey f with ⟨j,u,rfl,e⟩ | ⟨y,u,rfl,e⟩
   ·injection e with c _;rw [c]
   ·exact nomatch e
  ·rcases Ey f with ⟨j,u,rfl,e⟩ | ⟨y,u,rfl,e⟩
   ·exact nomatch e
   ·injection e with c _;rw [c]
 byValue:=λk v h=>by
  rcases Ey h with ⟨i,t,rfl,rfl⟩ | ⟨x,t,rfl,rfl⟩ <;> rfl
 pyHash:=λd h=>by
  rcases Ey d with ⟨i,t,rfl,rfl⟩ | ⟨x,t,rfl,rfl⟩
  ·exact wpAny_pyHash_int h
  ·exact wpAny_pyHash_str h
 eqBool:=λm d h=>by
  rcases Ey m with ⟨i,t,rfl,rfl⟩ | ⟨x,t,rfl,rfl⟩
  ·rcases Ey d with ⟨j,u,rfl,rfl⟩ | ⟨y,u,rfl,rfl⟩
   ·rw [Vb] at h;exact wpAny_eqBool_int h
   ·rw [Vd] at h;exact SeqAt.EqAt.int_str i t y u _ _ _ _ h
  ·rcases Ey d with ⟨j,u,rfl,rfl⟩ | ⟨y,u,rfl,rfl⟩
   ·rw [Ve] at h;exact SeqAt.EqAt.str_int x t j u _ _ _ _ h
   ·rw [Vc] at h;exact wpAny_eqBool_str h
 «strs»:=λk x t v h=>by
  rcases Ey h with ⟨i,u,rfl,e⟩ | ⟨y,u,rfl,e⟩
  ·exact nomatch e
  ·injection e with c _
   subst c
   cases v <;> rfl
inductive V where
 | non | bl (b:Bool) | int (i:Int) | str (x:Str) | byt (b:Array UInt8) | flt (b:UInt64) | ref (a:Addr) | ty (n:String)
 deriving DecidableEq
noncomputable def RelV:V->Value->Prop
 | .non,u=>u=Value.none
 | .bl b,u=>u=Value.bool b
 | .int i,u=>∃ t,u=Value.int i t
 | .str x,u=>∃ t,u=Value.str x t
 | .byt b,u=>∃ t,u=Value.bytes b t
 | .flt b,u=>∃ t,u=Value.float b t
 | .ref a,u=>u=Value.ref a
 | .ty n,u=>u=Value.type n
abbrev Vals:List V->dh->Prop:=Paired RelV
def Vals.length {xs:List V} {a:dh} (r:Vals xs a):xs.length=a.length:=Paired.length r
theorem Vals.get:∀ {xs:List V} {a:dh} {i:Nat} {x:V},Vals xs a->xs[i]?=some x->∃ u,a[i]?=some u/\RelV x u
 | _,_,_,_,.nil,e=>by simp at e
 | _,_,0,_,.cons r _,e=>by simp at e;subst e;exact ⟨_,rfl,r⟩
 | _,_,i+1,x,.cons _ t,e=>by
   obtain ⟨u,b,c⟩:=Vals.get (i:=i) (x:=x) t (by simpa using e);exact ⟨u,by simpa using b,c⟩
theorem Vals.set {x:V} {u:Value} (r:RelV x u):∀ {xs:List V} {a:dh} (i:Nat),Vals xs a->Vals (xs.set i x) (a.set i u)
 | _,_,_,.nil=>.nil
 | _,_,0,.cons _ t=>.cons r t
 | _,_,i+1,.cons q t=>.cons q (Vals.set r i t)
theorem Vals.append:∀ {xs ys:List V} {a b:dh},Vals xs a->Vals ys b->Vals (xs++ys) (a++b)
 | _,_,_,_,.nil,s=>s
 | _,_,_,_,.cons r t,s=>.cons r (Vals.append t s)
theorem Vals.take:∀ {xs:List V} {a:dh} (n:Nat),Vals xs a->Vals (xs.take n) (a.take n)
 | _,_,0,_=>.nil
 | _,_,_+1,.nil=>.nil
 | _,_,n+1,.cons r t=>.cons r (Vals.take n t)
theorem Vals.drop:∀ {xs:List V} {a:dh} (n:Nat),Vals xs a->Vals (xs.drop n) (a.drop n)
 | _,_,0,r=>r
 | _,_,_+1,.nil=>.nil
 | _,_,n+1,.cons _ t=>Vals.drop n t
noncomputable def LX:Option V->dC->Prop
 | some v,some u=>RelV v u
 | none,none=>True
 | _,_=>False
def KV {a:Type}:List (a×V)->List (a×Value)->Prop:=Paired λ(p:a×V) (q:a×Value)=>p.1=q.1/\RelV p.2 q.2
noncomputable def kV:ak->V
 | .inl i=>.int i
 | .inr x=>.str x
inductive HO where

 | lst (xs:List V)

 | tup (xs:List V)

 | dK (kvs:List (ak×V)) | dT (kvs:List (List ak×V))

 | set (S:Int->Bool) (n:Nat)

 | ins (C dx:Addr) (fs:List (Str×V))

 | own (x:Addr)

 | xd (fs:List (Str×V))

 | met (f x:Addr)

 | rng (lo hi:Int)

 | frz (o:Obj) (u:HO)

 | tbl (ps:Array Value)

 | ext (φ:Heap->Prop)
noncomputable abbrev Hp:=Addr->Option HO
abbrev d8:=Option V
abbrev d7:=List V
noncomputable def upd (H:Hp) (a:Addr) (o:HO):Hp:=λb=>if b=a then some o else H b
def upd_same {H:Hp} {a:Addr} {o:HO}:upd H a o a=some o:=by unfold upd;rw [mF rfl]
def Ar {H:Hp} {a b:Addr} {o:HO} (h:b≠a):upd H a o b=H b:=by unfold upd;rw [mE h]
def Vf {H:Hp} {a b:Addr} {o u:HO} (h:H a=some o) (h':H b=some u) (d:o≠u):a≠b:=by
 intro e;subst e;rw [h] at h';exact d (mO h')
def Bi {H:Hp} {a b:Addr} {o:HO} (h:H a=some o) (h':H b=none):a≠b:=by
 intro e;subst e;rw [h] at h';cases h'
section
variable (P:Program) (w:World)
noncomputable def ObjOk (H:Hp) (h:Heap) (a:Addr):HO->Prop
 | .lst c=>c.length<=sizeLine/\∃ (its:dh) (n:Nat),Vals c its/\h.get? a=some { cls:=.type "list", data:=.seq its.toArray n }
 | .tup c=>c.length<=sizeLine/\∃ its:dh,Vals c its/\IsTup h a its.toArray
 | .dK b=>b.length<=sizeLine/\(a == sysModules)=false/\∃ j,KV b j/\h.DictOf (LW P w) a j
 | .dT b=>b.length<=sizeLine/\(a == sysModules)=false/\∃ c:List (List ak×Addr×Value),
   Paired (λ(p:List ak×V) (q:List ak×Addr×Value)=>p.1=q.1/\H q.2.1=some (.tup (p.1.map kV))/\RelV p.2 q.2.2) b c/\
   ∃ o k y,h.get? a=some o/\o.ExactDict/\o.data=.dict k y/\k.toList=c.map (entryOfKey (tupleKind (LW P w)))/\(c.map (·.1)).Nodup
 | .set S n=>h.SetOf (intKind P w) a S n
 | .ins C g e=>H g=some (.own a)/\e.length<=1000/\g≠a/\h.get? a=some (W.instObj C g)/\
   ∃ d,h.Ns1 g d/\(∀ f,LX (e.lookup f) (d f))/\PySem.Within d (e.map (·.1))
 | .own _=>∃ o,h.get? a=some o
 | .xd e=>∃ d,h.Ns1 a d/\∀ f,LX (e.lookup f) (d f)
 | .rng lo z=>∃ t u v,h.get? a=some { cls:=.type "range", data:=.fields #[.int lo t,.int z u,.int 1 v] }
 | .frz o u=>h.get? a=some o/\ObjOk H h a u
 | .tbl ps=>h.get? a=some { cls:=.none,data:=.fields ps }
 | .met f x=>h.get? a=some (W.methodObj (.ref f) (.ref x))
 | .ext i=>i h/\(∃ o,h.get? a=some o)/\∀ m r:Heap,i m->(∀ o,m.get? a=some o->r.get? a=some o)->i r
def HOk (H:Hp) (h:Heap):Prop:=∀ a o,H a=some o->ObjOk P w H h a o
end
section
variable {P:Program} {w:World} {H H':Hp} {h h':Heap} {a:Addr} {o:HO}
theorem ObjOk.lt (x:ObjOk P w H h a o):a<h.objs.size:=by
 cases o with
 | lst c=>obtain ⟨_,_,_,_,e⟩:=x;exact mP e
 | tup c=>obtain ⟨_,_,_,p⟩:=x;exact p.lt
 | dK b=>obtain ⟨_,_,_,_,o,_,_,e,_⟩:=x;exact mP e
 | dT b=>obtain ⟨_,_,_,_,o,_,_,e,_⟩:=x;exact mP e
 | set S n=>obtain ⟨o,_,_,_,e,_⟩:=x;exact mP e
 | ins C g d=>obtain ⟨_,_,_,e,_⟩:=x;exact mP e
 | own y=>obtain ⟨_,e⟩:=x;exact mP e
 | xd d=>obtain ⟨_,⟨_,_,_,e,_⟩,_⟩:=x;exact mP e
 | rng lo i=>obtain ⟨_,_,_,e⟩:=x;exact mP e
 | frz j u=>obtain ⟨e,_⟩:=x;exact mP e
 | tbl ps=>exact mP (show h.get? a=some _ from x)
 | met f y=>exact mP (show h.get? a=some _ from x)
 | ext k=>obtain ⟨_,⟨_,e⟩,_⟩:=x;exact mP e
theorem Paired.mapP {e g:Type} {F G:e->g->Prop}:∀ {c:List e} {d:List g},Paired F c d->(∀ a b,F a b->G a b)->Paired G c d
 | _,_,.nil,_=>.nil
 | _,_,.cons r t,f=>.cons (f _ _ r) (Paired.mapP t f)
theorem ObjOk.stay (x:ObjOk P w H h a o) (k:∀ b u,(b=a\/H b=some (.own a))->h.get? b=some u->h'.get? b=some u)
  (F:∀ b,H b=some (.own a)->H' b=some (.own a)) (G:∀ b A,H b=some (.tup A)->H' b=some (.tup A)):ObjOk P w H' h' a o:=by
 induction o with
 | lst A=>obtain ⟨z,m,n,r,e⟩:=x;exact ⟨z,m,n,r,k _ _ (.inl rfl) e⟩
 | tup A=>obtain ⟨z,m,r,g,e,c⟩:=x;exact ⟨z,m,r,g,k _ _ (.inl rfl) e,c⟩
 | dK B=>obtain ⟨z,y,I,r,g,i,j,e,c⟩:=x;exact ⟨z,y,I,r,g,i,j,k _ _ (.inl rfl) e,c⟩
 | dT B=>
   obtain ⟨z,y,A,r,g,i,j,e,c⟩:=x;exact ⟨z,y,A,Paired.mapP r λp q z=>⟨z.1,G _ _ z.2.1,z.2.2⟩,g,i,j,k _ _ (.inl rfl) e,c⟩
 | set S n=>obtain ⟨g,i,j,t,e,c⟩:=x;exact ⟨g,i,j,t,k _ _ (.inl rfl) e,c⟩
 | ins C N J=>
   obtain ⟨d,z,K,e,D,⟨E,i,j,L,c⟩,r⟩:=x;exact ⟨F _ d,z,K,k _ _ (.inl rfl) e,D,⟨E,i,j,k _ _ (.inr d) L,c⟩,r⟩
 | own y=>obtain ⟨g,e⟩:=x;exact ⟨g,k _ _ (.inl rfl) e⟩
 | xd J=>obtain ⟨D,⟨E,i,j,e,c⟩,r⟩:=x;exact ⟨D,⟨E,i,j,k _ _ (.inl rfl) e,c⟩,r⟩
 | rng lo O=>obtain ⟨t,u,v,e⟩:=x;exact ⟨t,u,v,k _ _ (.inl rfl) e⟩
 | frz g u M=>obtain ⟨e,q⟩:=x;exact ⟨k _ _ (.inl rfl) e,M q⟩
 | tbl ps=>
   have e:h.get? a=some { cls:=.none,data:=.fields ps }:=x;show h'.get? a=some { cls:=.none,data:=.fields ps };exact k a _ (.inl rfl) e
 | met f y=>
   have e:h.get? a=some (W.methodObj (.ref f) (.ref y)):=x;show h'.get? a=some (W.methodObj (.ref f) (.ref y));exact k a _ (.inl rfl) e
 | ext Q=>obtain ⟨p,⟨o,e⟩,st⟩:=x;exact ⟨st _ _ p λo q=>k _ _ (.inl rfl) q,⟨o,k _ _ (.inl rfl) e⟩,st⟩
def HOk.lt (x:HOk P w H h) (e:H a=some o):a<h.objs.size:=(x a o e).lt
theorem HOk.fresh (x:HOk P w H h) (e:h.objs.size<=a):H a=none:=by
 cases q:H a with
 | none=>rfl
 | some u=>exact absurd (CO (x.lt q) e) (C8 _)
def HOk.kept (x:HOk P w H h) (k:∀ b u,h.get? b=some u->h'.get? b=some u):HOk P w H h':=λa o e=>
 (x a o e).stay (λb u _ q=>k b u q) (λ_ q=>q) λ_ _ q=>q
def HOk.laid (x:HOk P w H h) (k:∀ b u,h.get? b=some u->h'.get? b=some u) (hp:h.objs.size<=a) (d:ObjOk P w (upd H a o) h' a o):HOk P w (upd H a o) h':=λb u e=>by
 have f:=x.fresh hp;by_cases g:b=a
 ·subst g;rw [upd_same] at e;cases e;exact d
 ·rw [Ar g] at e;exact (x b u e).stay (λc v _ q=>k c v q) (λc q=>by rw [Ar (Bi q f)];exact q) λc i q=>by rw [Ar (Bi q f)];exact q
end
def Rd (H:Hp) (a:Addr) (u:HO):Prop:=H a=some u\/∃ o,H a=some (.frz o u)
def Rd.ok {P:Program} {w:World} {H:Hp} {h:Heap} {a:Addr} {u:HO} (r:Rd H a u) (x:HOk P w H h):ObjOk P w H h a u:=by
 rcases r with r | ⟨o,r⟩
 ·exact x a u r
 ·obtain ⟨_,q⟩:=x a _ r;exact q
noncomputable def cE:Option HO->Prop
 | some (.lst _)=>True
 | some (.dK _)=>True
 | some (.dT _)=>True
 | some (.set _ _)=>True
 | some (.ins _ _ _)=>True
 | some (.ext _)=>True
 | _=>False
section
variable {P:Program} {w:World} {H:Hp} {h h':Heap} {x e:Addr} {o':HO}
def HOk.write (ok:HOk P w H h) (g:cE (H x)) (p:e=x\/H e=some (.own x)) (k:∀ b u,b≠e->h.get? b=some u->h'.get? b=some u) (n:∃ u,h'.get? e=some u)
  (o:ObjOk P w (upd H x o') h' x o'):HOk P w (upd H x o') h':=λb u q=>by
 have d:∀ c y,H c=some (.own y)->c≠x:=λc y r z=>by subst z;rw [r] at g;exact g
 have f:∀ c i,H c=some (.tup i)->c≠x:=λc i r z=>by subst z;rw [r] at g;exact g
 by_cases j:b=x
 ·subst j;rw [upd_same] at q;cases q;exact o
 ·rw [Ar j] at q;by_cases a:b=e
  ·have A:H b=some (.own x):=by
    rcases p with z | z
    ·exact absurd (a.trans z) j
    ·rw [a];exact z
   rw [q] at A;cases A;obtain ⟨v,B⟩:=n;exact ⟨v,by rw [a];exact B⟩
  ·refine (ok b u q).stay (λc v m r=>k c v ?_ r) (λc r=>by rw [Ar (d c b r)];exact r) λc i r=>by rw [Ar (f c i r)];exact r
   rcases m with rfl | m
   ·exact a
   ·rintro rfl;rcases p with z | z
    ·exact d c b m z
    ·rw [m] at z;cases z;exact j rfl
end
structure Un (fs ex:dE) (H H':Hp) (h h':Heap):Prop where
 keep:∀ b o,h.get? b=some o->H b=none->b∉fs->b∉ex->h'.get? b=some o
 slot:∀ b o,h.get? b=some o->H b=none->b∈fs->b∉ex->∃ sl,h'.get? b=some { o with slots:=sl }
 free:∀ b o,h.get? b=some o->H b=none->b∉ex->H' b=none
 there:∀ b o,h.get? b=some o->b∉ex->∃ o',h'.get? b=some o'
 tups:∀ b xs,H b=some (.tup xs)->H' b=some (.tup xs)
 frzs:∀ b o u,H b=some (.frz o u)->H' b=some (.frz o u)
 tbls:∀ b ps,H b=some (.tbl ps)->∃ more,H' b=some (.tbl (ps++more))
section
variable {fs fs' ex ex':dE} {H H1 H2:Hp} {h h1 h2 h':Heap} {a x e:Addr} {o:HO}
def Un.any (u:Un fs ex H H1 h h1) {b:Addr} {c:Obj} (q:h.get? b=some c) (n:H b=none) (f:b∉ex):∃ i,h1.get? b=some { c with slots:=i }:=by
 by_cases g:b∈fs
 ·exact u.slot b c q n g f
 ·exact ⟨c.slots,u.keep b c q n g f⟩
def Un.kept (k:∀ b u,h.get? b=some u->h'.get? b=some u):Un fs ex H H h h':=
 ⟨λb c q _ _ _=>k b c q,λb c q _ _ _=>⟨c.slots,k b c q⟩,λ_ _ _ n _=>n,λb c q _=>⟨c,k b c q⟩,λ_ _ q=>q,λ_ _ _ q=>q,λ_ ps q=>⟨#[],by rw [q];simp⟩⟩
def Un.refl:Un fs ex H H h h:=Un.kept λ_ _ q=>q
def Un.laid (k:∀ b u,h.get? b=some u->h'.get? b=some u) (hp:h.objs.size<=a) (c:H a=none):Un fs ex H (upd H a o) h h' where
 keep:=λb u q _ _ _=>k b u q
 slot:=λb u q _ _ _=>⟨u.slots,k b u q⟩
 free:=λb u q n _=>by rw [Ar (BV (CO (mP q) hp))];exact n
 there:=λb u q _=>⟨u,k b u q⟩
 tups:=λb d q=>by rw [Ar (Bi q c)];exact q
 frzs:=λb u d q=>by rw [Ar (Bi q c)];exact q
 tbls:=λb ps q=>⟨#[],by rw [Ar (Bi q c),q];simp⟩
def Un.write (d:cE (H x)) (m:e=x\/H e=some (.own x)) (k:∀ b u,b≠e->h.get? b=some u->h'.get? b=some u) (f:∃ u,h'.get? e=some u):Un fs ex H (upd H x o) h h':=by
 have i:∀ b,H b=none->b≠x:=λb n z=>by subst z;rw [n] at d;exact d
 have j:∀ b,H b=none->b≠e:=λb n z=>by
  subst z;rcases m with r | r
  ·exact i b n r
  ·rw [n] at r;cases r
 have g:∀ b u,H b=some u->¬ cE (some u)->b≠x:=λb u q p z=>by subst z;rw [q] at d;exact p d
 refine ⟨λb u q n _ _=>k b u (j b n) q,λb u q n _ _=>⟨u.slots,k b u (j b n) q⟩,λb u q n _=>by rw [Ar (i b n)];exact n,λb u q _=>?_,
  λb v q=>by rw [Ar (g b _ q λz=>z)];exact q,λb u v q=>by rw [Ar (g b _ q λz=>z)];exact q,λb ps q=>⟨#[],by rw [Ar (g b _ q λz=>z),q];simp⟩⟩
 by_cases c:b=e
 ·subst c;exact f
 ·exact ⟨u,k b u c q⟩
end
noncomputable def cF (h:Heap) (H:Hp):dE:=(List.range h.objs.size).filter λa=>(H a).isSome
noncomputable def ET (h:Heap) (H:Hp):Heap:=W.hideAll h (cF h H)
def Vg (h:Heap) (H:Hp):(ET h H).objs.size=h.objs.size:=W.hideAll_size _ _
def Vh {h:Heap} {H:Hp} {b:Addr} {o:Obj} (e:h.get? b=some o) (n:H b=none):(ET h H).get? b=some o:=
 W.hideAll_get _ e λa=>by
  have q:(H b).isSome=true:=(List.mem_filter.mp a).2;rw [n] at q;simp at q
theorem Vi {h:Heap} {H:Hp} {b:Addr} {o:Obj} (e:(ET h H).get? b=some o):h.get? b=some o/\H b=none:=by
 have a:h.get? b=some o:=W.of_hideAll (cF h H) e;refine ⟨a,?_⟩;cases q:H b with
 | none=>rfl
 | some x=>
   have c:b∈cF h H:=List.mem_filter.mpr ⟨EK.mpr (mP a),by simp [q]⟩;have z:(ET h H).get? b=none:=W.hideAll_none (cF h H) c;rw [z] at e;cases e
noncomputable def Vj (g h:Heap) (L:Addr):dl:=(List.range h.objs.size).filterMap λa=>if a=L\/(g.get? a).isSome=true then none else (h.get? a).map λo=>(a,o)
noncomputable def rest (g h:Heap) (L d:Addr):dl:=(Vj g h L).filter λp=>decide (p.1≠d)
structure Mod (K:W.Frag) (mg:dq) (base:Heap):Prop where
 kin:K.In base
 glob:base.Ns mainGlobals mg
 blt:∃ mb,base.Ns builtinsNs mb/\∀ x:Str,x ≠ "__name__" -> mb x=bootBuiltins x
 nolimit:base.NoLimit
structure Cx where
 prog:Program
 w:World
 K:W.Frag
 mg:dq
 base:Heap
 A:Around
 N:dw
 s₀:Shared
 H₀:Hp
 env:Env
 outer:List Env
 stack:List Env
 ex:dE
 fn:Str->Bool
 calm:Bool
 pn:dl
 xe:dj
noncomputable def aw (l:List Env):dE:=l.filterMap (·.frame)
noncomputable abbrev Cx.fs (X:Cx):dE:=aw X.outer
def b_ (a:Scope) (x:Str):Prop:=a.names.lookup x=some .local\/a.names.lookup x=some .cell\/a.names.lookup x=some .free
def aZ (a:Scope) (x:Str):Prop:=a.names.lookup x=some .local\/a.names.lookup x=some .cell
def Look (a:Env) (h:Heap) (m:dq) (x:Str) (u:Value):Prop:=
 (a.kindOf x=some .local/\m x=some u)\/((a.kindOf x=some .cell\/a.kindOf x=some .free)/\∃ c,a.cells.lookup x=some c/\h.IsCell c (some u))
structure Cx.Ok (X:Cx):Prop where
 mod:Mod X.K X.mg X.base
 kind:X.env.scope.kind=.function
 glob:X.env.globals=mainGlobals
 blt:X.env.builtins=builtinsNs
 above:X.s₀.heap.objs.size<=X.env.locals
 inj:∀ x y c,X.env.cells.lookup x=some c->X.env.cells.lookup y=some c->x=y
 has:∀ x,(X.env.kindOf x=some .cell\/X.env.kindOf x=some .free)->∃ c,X.env.cells.lookup x=some c
 cab:∀ x c,X.fn x=true->X.env.cells.lookup x=some c->X.s₀.heap.objs.size<=c
 hd:X.calm=true->X.A.handled=none
 frames:X.A.frames=some X.stack
 stk:X.stack=X.outer\/(X.stack=X.env::X.outer/\X.env.frame=some X.env.locals)
 exf:∀ b∈X.ex,b≠X.env.locals/\∀ x c,X.env.cells.lookup x=some c->c≠b
 bs:∀ b o,X.base.get? b=some o->X.s₀.heap.get? b=some o/\X.H₀ b=none
 bsz:X.base.objs.size<=X.s₀.heap.objs.size
 noex:∀ b o,X.base.get? b=some o->b∉X.ex
 exfs:∀ b∈X.ex,b∉X.fs
 funs:X.s₀.heap.FunFrames X.base X.outer
 frf:∀ b∈X.fs,X.H₀ b=none
 seer:X.base.NoSeer
 tree:(model X.prog X.w).prog.given.tree=none
 plr:∀ s:Shared,(∀ b o,X.base.get? b=some o->s.heap.get? b=some o)->PySem.PylongRoom (model X.prog X.w) X.A s
structure Inv (X:Cx) (pins:dl) (σ:List (d8)) (H:Hp) (s:Shared):Prop where
 ok:X.Ok
 os:s.os=X.s₀.os
 bare:AllBare s.gens
 base:Un X.fs X.ex X.H₀ H X.s₀.heap s.heap
 loc:∃ m,s.heap.Ns X.env.locals m/\∀ (i:Nat) (x:Str) (v:V),X.N[i]?=some x->σ[i]?=some (some v)->b_ X.env.scope x->∃ u,RelV v u/\Look X.env s.heap m x u
 cell:∀ x c,X.env.cells.lookup x=some c->∃ v,s.heap.IsCell c v
 free:H X.env.locals=none
 freeC:∀ x c,X.env.cells.lookup x=some c->H c=none
 pin:∀ p∈X.pn++pins,s.heap.get? p.1=some p.2/\H p.1=none/\p.1≠X.env.locals/\p.1∉X.fs/\∀ v,p.2.data≠.cell v
 hok:HOk X.prog X.w H s.heap
 len:σ.length=X.N.length
section
variable {X:Cx} {pins:dl} {σ:List (d8)} {H H':Hp} {s:Shared} {h':Heap}
def Cx.Ok.nofr (ok:X.Ok) {b:Addr} {o:Obj} (e:X.base.get? b=some o):b∉X.fs:=λa=>by
 have:=(ok.funs.mem a).1;rw [e] at this;cases this
def Inv.bs (I:Inv X pins σ H s):∀ b o,X.base.get? b=some o->s.heap.get? b=some o/\H b=none:=λb o e=>
 ⟨I.base.keep b o (I.ok.bs b o e).1 (I.ok.bs b o e).2 (I.ok.nofr e) (I.ok.noex b o e),I.base.free b o (I.ok.bs b o e).1 (I.ok.bs b o e).2 (I.ok.noex b o e)⟩
def Inv.bk (I:Inv X pins σ H s):∀ b o,X.base.get? b=some o->s.heap.get? b=some o:=λb o e=>(I.bs b o e).1
def Inv.mod (I:Inv X pins σ H s):Mod X.K X.mg X.base:=I.ok.mod
def Inv.kIn (I:Inv X pins σ H s):X.K.In s.heap:=I.ok.mod.kin.keeps I.bk
def Inv.lt (I:Inv X pins σ H s):X.env.locals<s.heap.objs.size:=let ⟨_,a,_⟩:=I.loc;a.lt
def Inv.sz (I:Inv X pins σ H s):X.s₀.heap.objs.size<=s.heap.objs.size:=A7 I.ok.above (CP I.lt)
def Inv.nofs (I:Inv X pins σ H s) {a:Addr} (h:s.heap.objs.size<=a):a∉X.fs:=λb=>by
 obtain ⟨_,o,c,_⟩:=I.ok.funs.mem b;exact absurd (CO (mP c) (A7 I.sz h)) (C8 _)
def Inv.cne (I:Inv X pins σ H s):∀ x c,X.env.cells.lookup x=some c->c≠X.env.locals:=λx c e z=>by
 obtain ⟨v,o,d,f⟩:=I.cell x c e;obtain ⟨m,⟨g,h,i,a,b,_⟩,_⟩:=I.loc;rw [z,a] at d;cases d;rw [b] at f;cases f
def Inv.funs (I:Inv X pins σ H s):s.heap.FunFrames X.base X.outer:=by
 have all:∀ (l:List Env),(∀ b∈aw l,b∈X.fs)->X.s₀.heap.FunFrames X.base l->s.heap.FunFrames X.base l:=by
  intro l
  induction l with
  | nil=>intro _ _;trivial
  | cons g r h=>
    intro f i;obtain ⟨hk,⟨L,o,a,j,k,m⟩,n⟩:=i;have c:L∈X.fs:=f L (by unfold aw;rw [FP,a];exact CD);obtain ⟨p,e⟩:=I.base.slot L o k (I.ok.frf L c) c λz=>I.ok.exfs L z c;exact ⟨hk,⟨L,_,a,j,e,m⟩,h (λb d=>f b (by unfold aw;rw [FP,a];exact CQ _ d)) n⟩
 exact all X.outer (λ_ d=>d) I.ok.funs
def Inv.stack (I:Inv X pins σ H s):s.heap.FunFrames X.base X.stack:=by
 rcases I.ok.stk with e | ⟨e,a⟩
 ·rw [e];exact I.funs
 ·rw [e];obtain ⟨m,b,_⟩:=I.loc;refine .cons (by rw [I.ok.kind];decide) a b ?_ I.funs;exact Heap.get?_none_of_le (A7 I.ok.bsz I.ok.above)
def Inv.stkSub (I:Inv X pins σ H s):∀ b∈aw X.stack,b∈X.env.locals::X.fs:=λb a=>by
 rcases I.ok.stk with e | ⟨e,c⟩
 ·rw [e] at a;exact CQ _ a
 ·rw [e] at a;unfold aw at a;rw [FP,c] at a;exact a
def Inv.stkFree (I:Inv X pins σ H s):∀ b∈aw X.stack,H b=none:=λb a=>by
 rcases De.mp (I.stkSub b a) with e | a
 ·rw [e];exact I.free
 ·obtain ⟨_,o,c,_⟩:=I.ok.funs.mem a;exact I.base.free b o c (I.ok.frf b a) λz=>I.ok.exfs b z a
def Inv.step {g':Array GenState} {t':Nat} {d':Drawn} {ch:dE} (I:Inv X pins σ H s)
  (g:∀ b∈ch,(b∈X.ex\/X.s₀.heap.objs.size<=b)/\b≠X.env.locals/\(∀ x c,X.env.cells.lookup x=some c->c≠b)/\∀ p∈X.pn++pins,p.1≠b)
  (h:∀ b o,b≠X.env.locals->b∉X.fs->b∉ch->s.heap.get? b=some o->H b=none->h'.get? b=some o)
  (B:∀ b o,b≠X.env.locals->b∈X.fs->b∉ch->s.heap.get? b=some o->H b=none->∃ P,h'.get? b=some { o with slots:=P }) (f:∀ b o,b∉ch->s.heap.get? b=some o->H b=none->H' b=none)
  (D:∀ b o,b∉ch->s.heap.get? b=some o->∃ G,h'.get? b=some G)
  (J:∀ b C,H b=some (.tup C)->H' b=some (.tup C)) (K:∀ b o u,H b=some (.frz o u)->H' b=some (.frz o u)) (L:∀ b ps,H b=some (.tbl ps)->∃ M,H' b=some (.tbl (ps++M)))
  (ns:∀ m,s.heap.Ns X.env.locals m->h'.Ns X.env.locals m) (R:HOk X.prog X.w H' h') (hg:AllBare g') :
  Inv X pins σ H' { s with heap:=h',gens:=g',drawn:=d',toks:=t' }:=by
 have N:∀ b o,X.s₀.heap.get? b=some o->b≠X.env.locals:=λb o e=>BV (CO (mP e) I.ok.above)
 have y:∀ b o,X.s₀.heap.get? b=some o->b∉X.ex->b∉ch:=λb o e a E=>by
  rcases (g b E).1 with z | z
  ·exact a z
  ·exact absurd (CO (mP e) z) (C8 _)
 have j:∀ x c,X.env.cells.lookup x=some c->∀ v,s.heap.IsCell c v->h'.IsCell c v:=λx c e v ⟨o,F,S⟩=>by
  have w:c∉ch:=λz=>(g c z).2.2.1 x c e rfl;by_cases Z:c∈X.fs
  ·obtain ⟨P,q⟩:=B c o (I.cne x c e) Z w F (I.freeC x c e);exact ⟨_,q,S⟩
  ·exact ⟨o,h c o (I.cne x c e) Z w F (I.freeC x c e),S⟩
 refine ⟨I.ok,I.os,hg,⟨λb o e n E a=>?_,λb o e n E a=>?_,λb o e n a=>?_,λb o e a=>?_,λb C e=>J b C (I.base.tups b C e),λb o C e=>K b o C (I.base.frzs b o C e),λb ps e=>?_⟩,?_,λx c e=>?_,?_,λx c e=>?_,λp hp=>?_,R,I.len⟩
 ·exact h b o (N b o e) E (y b o e a) (I.base.keep b o e n E a) (I.base.free b o e n a)
 ·obtain ⟨P,A⟩:=I.base.slot b o e n E a;obtain ⟨T,O⟩:=B b _ (N b o e) E (y b o e a) A (I.base.free b o e n a);exact ⟨T,O⟩
 ·obtain ⟨G,A⟩:=I.base.there b o e a;exact f b G (y b o e a) A (I.base.free b o e n a)
 ·obtain ⟨G,A⟩:=I.base.there b o e a;exact D b G (y b o e a) A
 ·obtain ⟨m1,A⟩:=I.base.tbls b ps e;obtain ⟨m2,O⟩:=L b _ A;exact ⟨m1++m2,by rw [O,Array.append_assoc]⟩
 ·obtain ⟨m,hn,hl⟩:=I.loc;refine ⟨m,ns m hn,λi x v A O e3=>?_⟩;obtain ⟨u,r,l⟩:=hl i x v A O e3;refine ⟨u,r,?_⟩;rcases l with l | ⟨k,c,e,z⟩
  ·exact .inl l
  ·exact .inr ⟨k,c,e,j x c e _ z⟩
 ·obtain ⟨v,z⟩:=I.cell x c e;exact ⟨v,j x c e v z⟩
 ·obtain ⟨m,⟨o,_,_,F,_⟩,_⟩:=I.loc;exact f _ o (λz=>(g _ z).2.1 rfl) F I.free
 ·obtain ⟨v,o,F,S⟩:=I.cell x c e;exact f c o (λz=>(g c z).2.2.1 x c e rfl) F (I.freeC x c e)
 ·obtain ⟨e,n,ne,nf,d⟩:=I.pin p hp;have w:p.1∉ch:=λz=>(g p.1 z).2.2.2 p hp rfl;exact ⟨h p.1 p.2 ne nf w e n,f p.1 p.2 w e n,ne,nf,d⟩
def Inv.un {t':Nat} (I:Inv X pins σ H s) (u:Un X.fs [] H H' s.heap h') (c:HOk X.prog X.w H' h'):Inv X pins σ H' { s with heap:=h',toks:=t' }:=by
 obtain ⟨m,⟨o,v,w,j,r⟩,_⟩:=id I.loc;obtain ⟨x,k⟩:=u.any j I.free (by simp)
 exact I.step (g':=s.gens) (d':=s.drawn) (ch:=[]) (λ_ z=>nomatch z) (λb o _ d _ e n=>u.keep b o e n d (by simp)) (λb o _ d _ e n=>u.slot b o e n d (by simp)) (λb o _ e n=>u.free b o e n (by simp)) (λb o _ e=>u.there b o e (by simp)) u.tups u.frzs u.tbls (λy p=>by
  obtain ⟨A,f,g,a,q⟩:=p;rw [j] at a;cases a;exact ⟨_,f,g,k,q⟩) c I.bare
def Inv.call {g':Array GenState} {t':Nat} {d':Drawn} {ch:dE} (I:Inv X pins σ H s) (u:Un (aw X.stack) ch H H' s.heap h') (g:HOk X.prog X.w H' h') (y:AllBare g')
  (d:∀ b∈ch,(b∈X.ex\/X.s₀.heap.objs.size<=b)/\b≠X.env.locals/\(∀ x c,X.env.cells.lookup x=some c->c≠b)/\∀ p∈X.pn++pins,p.1≠b) :
  Inv X pins σ H' { s with heap:=h',gens:=g',drawn:=d',toks:=t' }:=by
 obtain ⟨m,⟨o,D,E,w,r⟩,_⟩:=id I.loc;obtain ⟨F,h⟩:=u.any w I.free λz=>(d _ z).2.1 rfl
 exact I.step (ch:=ch) d (λb o h A a e n=>u.keep b o e n (λz=>(De.mp (I.stkSub b z)).elim h A) a) (λb o _ _ a e n=>u.any e n a) (λb o a e n=>u.free b o e n a) (λb o a e=>u.there b o e a) u.tups u.frzs u.tbls (λG B=>by
  obtain ⟨J,i,j,f,C⟩:=B;rw [w] at f;cases f;exact ⟨_,i,j,h,C⟩) g y
def Inv.turned {t':Nat} {a:Addr} (I:Inv X pins σ H s) (k:∀ b o,b≠a->s.heap.get? b=some o->h'.get? b=some o) (j:H a=none) (g:a≠X.env.locals)
  (w:a∈X.ex\/X.s₀.heap.objs.size<=a) (y:∀ x c,X.env.cells.lookup x=some c->c≠a) (A:∀ p∈X.pn++pins,p.1≠a):Inv X pins σ H { s with heap:=h',toks:=t' }:=by
 have f:∀ b u,H b=some u->b≠a:=λb u e z=>by rw [z,j] at e;cases e
 refine I.step (g':=s.gens) (d':=s.drawn) (ch:=[a]) (λb B=>?_) (λb o _ _ d e _=>k b o (λz=>d (by simp [z])) e) (λb o _ _ d e _=>⟨o.slots,k b o (λz=>d (by simp [z])) e⟩) (λ_ _ _ _ n=>n)
  (λb o d e=>⟨o,k b o (λz=>d (by simp [z])) e⟩) (λ_ _ e=>e) (λ_ _ _ e=>e) (λb ps e=>⟨#[],by rw [e];simp⟩) (λm C=>?_) (λb u e=>?_) I.bare
 ·have e:b=a:=by simpa using B
  subst e;exact ⟨w,g,y,A⟩
 ·obtain ⟨o,D,E,F,r⟩:=C;exact ⟨o,D,E,k _ o (Ne.symm g) F,r⟩
 ·refine (I.hok b u e).stay (λc v d q=>k c v ?_ q) (λ_ q=>q) λ_ _ q=>q;rcases d with z | z
  ·rw [z];exact f b u e
  ·exact f c _ z
def Inv.tok (I:Inv X pins σ H s) (t:Nat):Inv X pins σ H { s with toks:=t }:=I.un (h':=s.heap) (t':=t) Un.refl I.hok
def Inv.kept {t':Nat} (I:Inv X pins σ H s) (k:∀ b u,s.heap.get? b=some u->h'.get? b=some u):Inv X pins σ H { s with heap:=h',toks:=t' }:=I.un (Un.kept k) (I.hok.kept k)
def Inv.laid {a:Addr} {o:HO} {t':Nat} (I:Inv X pins σ H s) (k:∀ b u,s.heap.get? b=some u->h'.get? b=some u) (hp:s.heap.objs.size<=a) (c:ObjOk X.prog X.w (upd H a o) h' a o) :
  Inv X pins σ (upd H a o) { s with heap:=h',toks:=t' }:=I.un (Un.laid k hp (I.hok.fresh hp)) (I.hok.laid k hp c)
def Inv.write {x e:Addr} {o:HO} {t':Nat} (I:Inv X pins σ H s) (d:cE (H x)) (f:e=x\/H e=some (.own x)) (k:∀ b u,b≠e->s.heap.get? b=some u->h'.get? b=some u) (a:∃ u,h'.get? e=some u)
  (c:ObjOk X.prog X.w (upd H x o) h' x o):Inv X pins σ (upd H x o) { s with heap:=h',toks:=t' }:=I.un (Un.write d f k a) (I.hok.write d f k a c)
def Inv.pins_of {a:dl} (I:Inv X pins σ H s) (h:∀ p∈a,s.heap.get? p.1=some p.2/\H p.1=none/\p.1≠X.env.locals/\p.1∉X.fs/\∀ v,p.2.data≠.cell v):Inv X a σ H s:=
 ⟨I.ok,I.os,I.bare,I.base,I.loc,I.cell,I.free,I.freeC,λp hp=>(Er.mp hp).elim (λz=>I.pin p (List.mem_append_left _ z)) (h p),I.hok,I.len⟩
def Oa {N:dw} (c:N.Nodup) {i j:Nat} {x:Str} (a:N[i]?=some x) (b:N[j]?=some x):i=j:=by
 obtain ⟨f,d⟩:=By.mp a;obtain ⟨g,e⟩:=By.mp b;exact (List.getElem_inj c).mp (d.trans e.symm)
def Ob {M:Model} {A:Around} {E:dj} {i:Nat} {x:Str} {v:V} {u:Value} {Q:Unit->Shared->Prop} (I:Inv X pins σ H s) (hN:X.N.Nodup) (O:X.N[i]?=some x) (C:aZ X.env.scope x) (r:RelV v u)
  (h:∀ s',Inv X pins (σ.set i (some v)) H s'->(∃ a,Heap.SameBut a s.heap s'.heap/\(a=X.env.locals\/X.env.cells.lookup x=some a))->Q Unit.unit s') (hf:X.fn x=true\/X.env.scope.names.lookup x=some .local:=by first | exact .inl rfl | exact .inr rfl | assumption):wpAny M A (storeName X.env x u) Q E s:=by
 obtain ⟨m,hn,hl⟩:=id I.loc;have P:(X.env.scope.kind == .class || (X.env.scope.kind == .module && X.env.locals != X.env.globals))=false:=by rw [I.ok.kind];rfl
 have G:i<σ.length:=by rw [I.len];exact (By.mp O).1
 have J:=I.cne
 have g:∀ {a:Addr} {h':Heap},(∃ o,s.heap.get? a=some o/\H a=none)->Heap.SameBut a s.heap h'->HOk X.prog X.w H h':=λ{a h'} ha f b ob e=>by
  obtain ⟨_,_,D⟩:=ha;refine (I.hok b ob e).stay (λc W B q=>(f.2 c ?_).trans q) (λ_ q=>q) λ_ _ q=>q;rintro rfl;rcases B with rfl | B
  ·rw [D] at e;cases e
  ·rw [D] at B;cases B
 rcases C with hk | hk
 ·refine wpAny_storeName_local hk hn (λh' a0 f=>?_) P;obtain ⟨oL,_,_,a1,_⟩:=id hn;refine h _ ⟨I.ok,I.os,I.bare,⟨λb o e n K C=>?_,λb o e n K C=>?_,I.base.free,λb o e C=>?_,I.base.tups,I.base.frzs,I.base.tbls⟩,⟨_,a0,λj y v' w F e3=>?_⟩,λy c e=>?_,I.free,I.freeC,λp hp=>?_,g ⟨oL,a1,I.free⟩ f,by simpa using I.len⟩ ⟨_,f,.inl rfl⟩
  ·exact (f.2 b (BV (CO (mP e) I.ok.above))).trans (I.base.keep b o e n K C)
  ·obtain ⟨sl,w⟩:=I.base.slot b o e n K C;exact ⟨sl,(f.2 b (BV (CO (mP e) I.ok.above))).trans w⟩
  ·obtain ⟨o',w⟩:=I.base.there b o e C;exact ⟨o',(f.2 b (BV (CO (mP e) I.ok.above))).trans w⟩
  ·by_cases L:j=i
   ·subst L;rw [O] at w;cases w;rw [List.getElem?_set_self G] at F;cases F;exact ⟨u,r,.inl ⟨hk,by simp⟩⟩
   ·rw [List.getElem?_set_ne (Ne.symm L)] at F;obtain ⟨u',r',q⟩:=hl j y v' w F e3;refine ⟨u',r',?_⟩;rcases q with ⟨k,e⟩ | ⟨k,c,e,z⟩
    ·refine .inl ⟨k,?_⟩;have:y≠x:=λe=>L (Oa hN w (e ▸ O));simp [this,e]
    ·exact .inr ⟨k,c,e,z.sameBut f (J y c e)⟩
  ·obtain ⟨W,z⟩:=I.cell y c e;exact ⟨W,z.sameBut f (J y c e)⟩
  ·obtain ⟨e,n,Y,nf,d⟩:=I.pin p hp;exact ⟨(f.2 p.1 Y).trans e,n,Y,nf,d⟩
 ·have N:X.fn x=true:=by
   rcases hf with z | z
   ·exact z
   ·rw [z] at hk;cases hk
  obtain ⟨c,B⟩:=I.ok.has x (.inl hk);obtain ⟨W,z⟩:=I.cell x c B;refine wpAny_storeName_cell I.ok.kind hk B z (λh' R f=>?_);obtain ⟨oc,S,T⟩:=id z;refine h { s with heap:=h' } ⟨I.ok,I.os,I.bare,⟨λb o e n K C=>?_,λb o e n K C=>?_,I.base.free,λb o e C=>?_,I.base.tups,I.base.frzs,I.base.tbls⟩,⟨m,hn.sameBut f (Ne.symm (J x c B)),λj y v' w F e3=>?_⟩,λy Z e=>?_,I.free,I.freeC,λp hp=>?_,g ⟨oc,S,I.freeC x c B⟩ f,by simpa using I.len⟩ ⟨c,f,.inr B⟩
  ·exact (f.2 b (BV (CO (mP e) (I.ok.cab x c N B)))).trans (I.base.keep b o e n K C)
  ·obtain ⟨sl,w⟩:=I.base.slot b o e n K C;exact ⟨sl,(f.2 b (BV (CO (mP e) (I.ok.cab x c N B)))).trans w⟩
  ·obtain ⟨o',w⟩:=I.base.there b o e C;exact ⟨o',(f.2 b (BV (CO (mP e) (I.ok.cab x c N B)))).trans w⟩
  ·by_cases L:j=i
   ·subst L;rw [O] at w;cases w;rw [List.getElem?_set_self G] at F;cases F;exact ⟨u,r,.inr ⟨.inl hk,c,B,R⟩⟩
   ·rw [List.getElem?_set_ne (Ne.symm L)] at F;obtain ⟨u',r',q⟩:=hl j y v' w F e3;refine ⟨u',r',?_⟩;rcases q with q | ⟨k,Z,e,z'⟩
    ·exact .inl q
    ·refine .inr ⟨k,Z,e,z'.sameBut f ?_⟩;rintro rfl;exact L (Oa hN w (I.ok.inj _ _ _ e B ▸ O))
  ·by_cases U:Z=c
   ·subst U;exact ⟨_,R⟩
   ·obtain ⟨w2,z2⟩:=I.cell y Z e;exact ⟨w2,z2.sameBut f U⟩
  ·obtain ⟨e,n,Y,nf,d⟩:=I.pin p hp;refine ⟨(f.2 p.1 ?_).trans e,n,Y,nf,d⟩;intro q;rw [q,S] at e;have q':oc=p.2:=mO e;exact d W (by rw [<-q'];exact T)
def LY {M:Model} {A:Around} {E:dj} {i:Nat} {x:Str} {v:V} {u:Value} {Q:Unit->Shared->Prop} (I:Inv X pins σ H s) (b:X.N.Nodup) (c:X.N[i]?=some x) (d:aZ X.env.scope x) (r:RelV v u)
  (h:∀ a,Inv X pins (σ.set i (some v)) H a->Q Unit.unit a) (e:X.fn x=true\/X.env.scope.names.lookup x=some .local:=by first | exact .inl rfl | exact .inr rfl | assumption):wpAny M A (storeName X.env x u) Q E s:=
 Ob I b c d r (λa f _=>h a f) e
def Inv.call' {s':Shared} {ch:dE} (I:Inv X pins σ H s) (f:s'.os=s.os) (u:Un (aw X.stack) ch H H' s.heap s'.heap) (a:HOk X.prog X.w H' s'.heap) (g:AllBare s'.gens)
  (d:∀ b∈ch,(b∈X.ex\/X.s₀.heap.objs.size<=b)/\b≠X.env.locals/\(∀ x c,X.env.cells.lookup x=some c->c≠b)/\∀ p∈X.pn++pins,p.1≠b):Inv X pins σ H' s':=by
 obtain ⟨h',g',d',t',h⟩:=s';have e:h=s.os:=f;subst e;exact I.call (g':=g') (t':=t') (d':=d') u a g d
end
noncomputable abbrev XK:=Value->Option Addr->Hp->Prop
noncomputable abbrev St:=List (d8)
noncomputable abbrev VK:=V->Hp->Prop
noncomputable abbrev TE:=St->Hp->VK->Prop
noncomputable abbrev TT:=St->Hp->(Bool->Hp->Prop)->Prop
noncomputable abbrev TA:=St->Hp->(d7->Hp->Prop)->Prop
structure Ends where
 nx:St->Hp->Prop
 rt:VK
 bk:St->Hp->Prop:=λ_ _=>False
 ct:St->Hp->Prop:=λ_ _=>False
noncomputable abbrev TS:=Ends->St->Hp->Prop
def EP (X:Cx) (a:dl) (c:St) (Q:VK) (u:Value) (s':Shared):Prop:=∃ v b,Inv X a c b s'/\RelV v u/\Q v b
def TP (X:Cx) (a:dl) (d:St) (Q:Bool->Hp->Prop) (b:Bool) (s':Shared):Prop:=∃ c,Inv X a d c s'/\Q b c
def AP (X:Cx) (a:dl) (d:St) (Q:d7->Hp->Prop) (e:dh) (s':Shared):Prop:=∃ b c,Inv X a d c s'/\Vals b e/\Q b c
def SP (X:Cx) (b:dl) (D:Ends) (f:Flow) (s':Shared):Prop:=
 match f with
 | .next=>∃ a c,Inv X b a c s'/\D.nx a c
 | .brk=>∃ a c,Inv X b a c s'/\D.bk a c
 | .cont=>∃ a c,Inv X b a c s'/\D.ct a c
 | .ret u=>∃ v a c,Inv X b a c s'/\RelV v u/\D.rt v c
def PE (X:Cx) (e:Expr) (t:TE):Prop:=
 ∀ (a:dl) (s:Shared) (b:St) (H:Hp) (Q:VK),Inv X a b H s->t b H Q->wpAny (model X.prog X.w) X.A (eval e X.env) (EP X a b Q) X.xe s
def PT (X:Cx) (e:Expr) (t:TT):Prop:=
 ∀ (a:dl) (s:Shared) (b:St) (H:Hp) (Q:Bool->Hp->Prop),Inv X a b H s->t b H Q->wpAny (model X.prog X.w) X.A (isTrue e X.env (eval e X.env)) (TP X a b Q) X.xe s
def PW (X:Cx) (e:Expr) (t:TT):Prop:=
 ∀ (b:Sem Value) (a:dl) (s:Shared) (c:St) (H:Hp) (Q:Bool->Hp->Prop),Inv X a c H s->t c H Q->wpAny (model X.prog X.w) X.A (isTrue e X.env b) (TP X a c Q) X.xe s
def PW.pt {X:Cx} {e:Expr} {t:TT} (h:PW X e t):PT X e t:=h _
def PA (X:Cx) (d:du) (t:TA):Prop:=
 ∀ (b:Pos) (a:dl) (s:Shared) (c:St) (H:Hp) (Q:d7->Hp->Prop),Inv X a c H s->t c H Q->wpAny (model X.prog X.w) X.A (spliced (backTo b (starEach d X.env))) (AP X a c Q) X.xe s
def PS (X:Cx) (st:Stmt) (t:TS):Prop:=
 ∀ (a:dl) (s:Shared) (b:St) (H:Hp) (D:Ends),Inv X a b H s->t D b H->wpAny (model X.prog X.w) X.A (exec st X.env) (SP X a D) X.xe s
def PSs (X:Cx) (st:List Stmt) (t:TS):Prop:=
 ∀ (a:dl) (s:Shared) (b:St) (H:Hp) (D:Ends),Inv X a b H s->t D b H->wpAny (model X.prog X.w) X.A (execs st X.env) (SP X a D) X.xe s
def F_ {b:Type} {t:Sem b} {Q c:b->Shared->Prop} {M:Model} {A:Around} {E:dj} {s:Shared} (h:wpAny M A t Q E s) (d:∀ a s,Q a s->c a s):wpAny M A t c E s:=mM h d λ_ _ x=>x
section
variable {X:Cx}
def AA (i:Nat):TE:=λa H Q=>∃ v,a[i]?=some (some v)/\Q v H
def tC (v:V):TE:=λ_ H Q=>Q v H
def Vk {i:Nat} {x:Str} {f:Pos} (n:X.N[i]?=some x) (o:b_ X.env.scope x) (g:(x == ("__debug__" : Str))=false:=by decide) (j:(x == ("__classdict__" : Str))=false:=by decide):PE X (.Name x f) (AA i):=by
 intro d s p H Q I h;obtain ⟨v,e,h⟩:=h;obtain ⟨m,q,w⟩:=I.loc;obtain ⟨u,r,l⟩:=w i x v n e o;have b:EP X d p Q u s:=⟨v,H,I,r,h⟩;rcases l with ⟨hk,y⟩ | ⟨hk,c,k,a⟩
 ·exact wpAny_Name (wpAny_loadName_local I.ok.kind hk q y b) g
 ·rcases hk with hk | hk
  ·exact wpAny_Name (wpAny_loadName_cell I.ok.kind hk k a b) g
  ·exact wpAny_Name (wpAny_loadName_free I.ok.kind hk k a b j) g
def AG {i j pos}:PE X (.Constant (.int i) j pos) (tC (.int i)):=λ_ _ _ H _ I h=>wpAny_Constant_int ⟨.int i,H,I.tok _,⟨_,rfl⟩,h⟩
def EU {b j pos}:PE X (.Constant (.bool b) j pos) (tC (.bl b)):=λ_ _ _ H _ I h=>Constant_bool ⟨.bl b,H,I,rfl,h⟩
def GN {j pos}:PE X (.Constant .none j pos) (tC .non):=λ_ _ _ H _ I h=>Constant_none ⟨.non,H,I,rfl,h⟩
def Gl (X:Cx) (x:Str):Prop:=X.env.kindOf x=some .globalImplicit
def Oc {E:dj} {a:dl} {s:Shared} {c:St} {H:Hp} {x:Str} {u:Value} {b:Pos} {Q:dj} (I:Inv X a c H s) (d:Gl X x) (e:X.mg x=some u) (h:Q u s)
  (f:(x == ("__debug__" : Str))=false:=by decide):wpAny (model X.prog X.w) X.A (eval (.Name x b) X.env) Q E s:=
 Calls.Name_function_global I.ok.kind d (Calls.loadGlobal_global (by rw [I.ok.glob];exact I.mod.glob.keeps I.bk) e h) f
def EV {E:dj} {a:dl} {s:Shared} {c:St} {H:Hp} {x:Str} {u:Value} {b:Pos} {Q:dj} (I:Inv X a c H s) (d:Gl X x) (e:X.mg x=none) (f:bootBuiltins x=some u) (h:Q u s)
  (g:x ≠ "__name__" := by decide) (i:(x == ("__debug__" : Str))=false:=by decide):wpAny (model X.prog X.w) X.A (eval (.Name x b) X.env) Q E s:=by
 obtain ⟨m,j,k⟩:=I.mod.blt;exact Calls.Name_function_global I.ok.kind d (Calls.loadGlobal_builtin (by rw [I.ok.glob];exact I.mod.glob.keeps I.bk) e (by rw [I.ok.blt];exact j.keeps I.bk) ((k x g).trans f) h) i
def Od {x:Str} {v:V} {u:Value} {a:Pos} (b:Gl X x) (c:X.mg x=some u) (r:RelV v u) (d:(x == ("__debug__" : Str))=false:=by decide):PE X (.Name x a) (tC v):=
 λ_ _ _ H _ I h=>Oc I b c ⟨v,H,I,r,h⟩ d
def ID {x:Str} {v:V} {u:Value} {a:Pos} (b:Gl X x) (c:X.mg x=none) (d:bootBuiltins x=some u) (r:RelV v u) (e:x ≠ "__name__" := by decide) (f:(x == ("__debug__" : Str))=false:=by decide):PE X (.Name x a) (tC v):=
 λ_ _ _ H _ I h=>EV I b c d ⟨v,H,I,r,h⟩ e f
variable {a b:Expr} {ta tb:TE} {pos:Pos}
def tB (t:TE):TT:=λd H Q=>t d H λx e=>∃ c,x=.bl c/\Q c e
def Ez {e:Expr} {t:TE} (h:PE X e t) (g:∀ c,isTrue e X.env c=(do let v <-c;standAt e.pos;holding [v] (truthy v)):=by intro _;rfl):PT X e (tB t):=by
 intro f s i H Q I j;refine isTrue_plain (F_ (h f s i H _ I j) λv p ⟨x,k,m,n,o⟩=>?_) (g _);obtain ⟨d,rfl,q⟩:=o;cases n;exact wpAny_truthy_bool ⟨k,m,q⟩
variable {tA tB':TT} {rest:du}
def HF (t u:TT):TT:=λd H Q=>t d H λc e=>if c=true then u d e Q else Q false e
def aS (t u:TT):TT:=λd H Q=>t d H λc e=>if c=true then Q true e else u d e Q
def Dh (t:TT):TT:=λd H Q=>t d H λc e=>Q (!c) e
theorem Jf (f:PT X a tA):PW X (.BoolOp .And [a] pos) tA:=by
 intro i d s g H Q I h;refine isTrue_and (F_ (f d s g H Q I h) λc j e=>?_);cases c with
 | true=>exact isTrue_and_nil e
 | false=>exact e
theorem GO (f:PT X a tA):PW X (.BoolOp .Or [a] pos) tA:=by
 intro i d s g H Q I h;refine isTrue_or (F_ (f d s g H Q I h) λc j e=>?_);cases c with
 | false=>exact isTrue_or_nil e
 | true=>exact e
theorem Jg (j:PT X a tA) (k:PW X (.BoolOp .And (b::rest) pos) tB'):PW X (.BoolOp .And (a::b::rest) pos) (HF tA tB'):=by
 intro m d s e H Q I h;refine isTrue_and (F_ (j d s e H _ I h) λc n ⟨f,g,i⟩=>?_);cases c with
 | true=>exact k m d n e f Q g i
 | false=>exact ⟨f,g,i⟩
theorem GS (j:PT X a tA) (k:PW X (.BoolOp .Or (b::rest) pos) tB'):PW X (.BoolOp .Or (a::b::rest) pos) (aS tA tB'):=by
 intro m d s e H Q I h;refine isTrue_or (F_ (j d s e H _ I h) λc n ⟨f,g,i⟩=>?_);cases c with
 | true=>exact ⟨f,g,i⟩
 | false=>exact k m d n e f Q g i
def EW (e:PT X a tA):PT X (.UnaryOp .Not a pos) (Dh tA):=by
 intro d s f H Q I h;exact isTrue_not (e d s f H (λc g=>Q (!c) g) I h)
def Vl (ta tb:TE):TE:=λd H Q=>ta d H λx e=>∃ c,x=.bl c/\if c=true then tb d e Q else Q (.bl false) e
def Vm (ta tb:TE):TE:=λd H Q=>ta d H λx e=>∃ c,x=.bl c/\if c=true then Q (.bl true) e else tb d e Q
def Vn (ta:TE):TE:=λd H Q=>ta d H λx e=>∃ c,x=.bl c/\Q (.bl (!c)) e
def bu (t:TT) (ta tb:TE):TE:=λd H Q=>t d H λc e=>if c=true then ta d e Q else tb d e Q
theorem Jh {c:Expr} (m:PT X c tA) (n:PE X a ta) (o:PE X b tb):PE X (.IfExp c a b pos) (bu tA ta tb):=by
 intro e s f H Q I h;refine wpAny_IfExp (F_ (m e s f H _ I h) λd g ⟨i,j,k⟩=>?_);cases d with
 | true=>exact n e g f i Q j k
 | false=>exact o e g f i Q j k
end
def SqL (K:W.Frag) (H:Hp) (a:Addr) (xs:d7):Prop:=
 Rd H a (.lst xs)\/
  ∃ (o:Obj) (b:Array Value) (n:Nat),K.lookup a=some o/\o.cls=.type "list" /\ o.dict=none/\o.data=.seq b n/\b.size<=sizeLine/\Vals xs b.toList
def SqT (K:W.Frag) (H:Hp) (a:Addr) (xs:d7):Prop:=
 Rd H a (.tup xs)\/
  ∃ (o:Obj) (b:Array Value) (n:Nat),K.lookup a=some o/\o.cls=.type "tuple" /\ o.data=.seq b n/\b.size<=sizeLine/\Vals xs b.toList
noncomputable def Vo:Value->d8
 | .none=>some .non
 | .bool b=>some (.bl b)
 | .int i _=>some (.int i)
 | .str x _=>some (.str x)
 | .bytes b _=>some (.byt b)
 | .float b _=>some (.flt b)
 | .ref a=>some (.ref a)
 | .type n=>some (.ty n)
 | _=>none
theorem RelV.abs {x:V} {u:Value} (r:RelV x u):Vo u=some x:=by
 cases x with
 | non=>cases r;rfl
 | bl _=>cases r;rfl
 | int _=>obtain ⟨t,rfl⟩:=r;rfl
 | str _=>obtain ⟨t,rfl⟩:=r;rfl
 | byt _=>obtain ⟨t,rfl⟩:=r;rfl
 | flt _=>obtain ⟨t,rfl⟩:=r;rfl
 | ref _=>cases r;rfl
 | ty _=>cases r;rfl
def RelV.inj {x y:V} {u:Value} (r:RelV x u) (q:RelV y u):x=y:=mO (r.abs.symm.trans q.abs)
theorem Vals.inj:∀ {xs ys:d7} {a:dh},Vals xs a->Vals ys a->xs=ys
 | _,_,_,.nil,.nil=>rfl
 | _,_,_,.cons r t,.cons b c=>by rw [r.inj b,Vals.inj t c]
section
variable {X:Cx} {pins:dl} {σ:St} {H:Hp} {s:Shared} {a:Addr} {xs ys:d7}
def SqL.of {K:W.Frag} (h:H a=some (.lst xs)):SqL K H a xs:=.inl (.inl h)
def SqT.of {K:W.Frag} (h:H a=some (.tup xs)):SqT K H a xs:=.inl (.inl h)
def Inv.list (I:Inv X pins σ H s) (h:SqL X.K H a xs):∃ b:dh,Vals xs b/\PlainL s.heap a b.toArray/\xs.length<=sizeLine:=by
 rcases h with h | ⟨o,b,n,hk,c,d,f,g,r⟩
 ·obtain ⟨z,b,n,r,e⟩:=h.ok I.hok;exact ⟨b,r,⟨_,n,e,rfl,rfl,rfl⟩,z⟩
 ·refine ⟨b.toList,r,⟨o,n,I.kIn a o hk,c,d,by simpa using f⟩,?_⟩;have e:=r.length;simp only [Array.length_toList] at e;omega
def Inv.tuple (I:Inv X pins σ H s) (h:SqT X.K H a xs):∃ b:dh,Vals xs b/\IsTup s.heap a b.toArray/\xs.length<=sizeLine:=by
 rcases h with h | ⟨o,b,n,hk,c,d,f,r⟩
 ·obtain ⟨z,b,r,p⟩:=h.ok I.hok;exact ⟨b,r,p,z⟩
 ·refine ⟨b.toList,r,⟨o,I.kIn a o hk,c,n,by simpa using d⟩,?_⟩;have e:=r.length;simp only [Array.length_toList] at e;omega
def Inv.list_inj (I:Inv X pins σ H s) (h:SqL X.K H a xs) (h':SqL X.K H a ys):xs=ys:=by
 obtain ⟨c,r,⟨o,n,e,_,_,d⟩,_⟩:=I.list h;obtain ⟨b,i,⟨k,m,f,_,_,g⟩,_⟩:=I.list h';rw [e] at f;cases f;rw [d] at g;injection g with j _;have:c=b:=by simpa using congrArg Array.toList j
 subst this;exact r.inj i
def Inv.tuple_inj (I:Inv X pins σ H s) (h:SqT X.K H a xs) (h':SqT X.K H a ys):xs=ys:=by
 obtain ⟨c,r,⟨o,e,_,n,d⟩,_⟩:=I.tuple h;obtain ⟨b,i,⟨k,f,_,m,g⟩,_⟩:=I.tuple h';rw [e] at f;cases f;rw [d] at g;injection g with j _;have:c=b:=by simpa using congrArg Array.toList j
 subst this;exact r.inj i
end
noncomputable abbrev Cx.wish (X:Cx) (E:dj):Cx:={ X with xe:=E }
noncomputable abbrev Cx.nox (X:Cx):Cx:=X.wish λ_ _=>False
def Cx.Ok.wish {X:Cx} (ok:X.Ok) (E:dj):(X.wish E).Ok:=
 ⟨ok.mod,ok.kind,ok.glob,ok.blt,ok.above,ok.inj,ok.has,ok.cab,ok.hd,ok.frames,ok.stk,ok.exf,ok.bs,ok.bsz,ok.noex,ok.exfs,ok.funs,ok.frf,ok.seer,ok.tree,ok.plr⟩
def Cx.Ok.unwish {X:Cx} {E:dj} (ok:(X.wish E).Ok):X.Ok:=
 ⟨ok.mod,ok.kind,ok.glob,ok.blt,ok.above,ok.inj,ok.has,ok.cab,ok.hd,ok.frames,ok.stk,ok.exf,ok.bs,ok.bsz,ok.noex,ok.exfs,ok.funs,ok.frf,ok.seer,ok.tree,ok.plr⟩
section
variable {X:Cx} {pins:dl} {σ:St} {H:Hp} {s:Shared} {E:dj}
def Inv.wish (I:Inv X pins σ H s) (E:dj):Inv (X.wish E) pins σ H s:=⟨I.ok.wish E,I.os,I.bare,I.base,I.loc,I.cell,I.free,I.freeC,I.pin,I.hok,I.len⟩
def Inv.unwish (I:Inv (X.wish E) pins σ H s):Inv X pins σ H s:=⟨I.ok.unwish,I.os,I.bare,I.base,I.loc,I.cell,I.free,I.freeC,I.pin,I.hok,I.len⟩
theorem SP.unwish {D:Ends} {f:Flow} {s':Shared} (h:SP (X.wish E) pins D f s'):SP X pins D f s':=by
 cases f with
 | next=>obtain ⟨a,b,I,q⟩:=h;exact ⟨a,b,I.unwish,q⟩
 | brk=>obtain ⟨a,b,I,q⟩:=h;exact ⟨a,b,I.unwish,q⟩
 | cont=>obtain ⟨a,b,I,q⟩:=h;exact ⟨a,b,I.unwish,q⟩
 | ret u=>obtain ⟨v,a,b,I,r,q⟩:=h;exact ⟨v,a,b,I.unwish,r,q⟩
def PSs.nox {st:List Stmt} {t:TS} (h:PSs X.nox st t):PSs X st t:=λpins s σ H D I a=>
 mM (h pins s σ H D (I.wish _) a) (λ_ _ q=>q.unwish) λ_ _ z=>False.elim z
end
section
variable {X:Cx} {st:Stmt} {rest:List Stmt} {t u:TS} {e:Expr} {te:TE} {pos:Pos}
def BG:TS:=λD a H=>D.nx a H
def AH (t u:TS):TS:=λD a H=>t { D with nx:=u D } a H
def BO:PSs X [] BG:=λ_ _ a H _ I h=>wpAny_execs_nil ⟨a,H,I,h⟩
theorem AI (c:PS X st t) (d:PSs X rest u):PSs X (st::rest) (AH t u):=by
 intro a s g H D I h;refine wpAny_execs_cons (F_ (c a s g H { D with nx:=u D } I h) λf i q=>?_);cases f with
 | next=>
   obtain ⟨b,j,k,q⟩:=q;exact d a i b j D k q
 | ret v=>exact q
 | brk=>exact q
 | cont=>exact q
theorem AS (b:PS X st t):PSs X [st] t:=by
 intro a s c H D I h;refine wpAny_execs_cons (F_ (b a s c H D I h) λf d q=>?_);cases f with
 | next=>exact wpAny_execs_nil q
 | ret v=>exact q
 | brk=>exact q
 | cont=>exact q
def Inv.quiet {a:dl} {b:St} {H:Hp} {s:Shared} (I:Inv X a b H s):interactive X.env=false:=by simp [interactive,I.ok.kind]
def GU (te:TE):TS:=λD a H=>te a H λ_ b=>D.nx a b
def IE (c:PE X e te) (d:swapsWith e none pos.line X.env=pure false:=by rfl):PS X (.Expr e pos) (GU te):=by
 intro a s b H D I h;exact wpAny_Expr_any (F_ (c a s b H _ I h) λv j ⟨x,f,g,k,i⟩=>⟨b,f,g,i⟩) I.quiet d
def AY (te:TE):TS:=λD a H=>te a H D.rt
def AZ (c:PE X e te):PS X (.Return (some e) pos) (AY te):=by
 intro a s b H D I h;exact wpAny_Return_some (F_ (c a s b H _ I h) λv j ⟨x,d,f,g,i⟩=>⟨x,b,d,f,g,i⟩)
def BH (c:TT) (t u:TS):TS:=λD a H=>c a H λb d=>if b=true then t D a d else u D a d
theorem BQ {c:Expr} {a b:List Stmt} {tc:TT} (n:PT X c tc) (o:PSs X a t) (p:PSs X b u):PS X (.If c a b pos) (BH tc t u):=by
 intro f s g H D I h;refine wpAny_If (F_ (n f s g H _ I h) λd i ⟨j,k,m⟩=>?_);cases d with
 | true=>exact o f i g j D k m
 | false=>exact p f i g j D k m
end
noncomputable abbrev TG:=V->St->Hp->(St->Hp->Prop)->Prop
noncomputable abbrev aU:=d7->St->Hp->(St->Hp->Prop)->Prop
def PG (X:Cx) (a:Expr) (t:TG):Prop:=
 ∀ (b:dl) (s:Shared) (d:St) (H:Hp) (v:V) (u:Value) (Q:St->Hp->Prop),Inv X b d H s->RelV v u->t v d H Q->
   wpAny (model X.prog X.w) X.A (assign a X.env u) (λ_ f=>∃ c e,Inv X b c e f/\Q c e) X.xe s
def c6 (X:Cx) (g:du) (t:aU):Prop:=
 ∀ (a:dl) (s:Shared) (c:St) (H:Hp) (d:d7) (e:dh) (Q:St->Hp->Prop),Inv X a c H s->Vals d e->t d c H Q->
   wpAny (model X.prog X.w) X.A (assignInOrder ((assignEach g X.env).map (·.2)) e) (λ_ h=>∃ b f,Inv X a b f h/\Q b f) X.xe s
noncomputable abbrev aK:=V->V->V->Hp->(Hp->Prop)->Prop
def bv (X:Cx) (t:aK):Prop:=
 ∀ (a:dl) (s:Shared) (b:St) (H:Hp) (o i v:V) (c d u:Value) (Q:Hp->Prop),Inv X a b H s->RelV o c->RelV i d->RelV v u->t o i v H Q->
   wpAny (model X.prog X.w) X.A (setItem c d u) (λ_ f=>∃ e,Inv X a b e f/\Q e) X.xe s
noncomputable abbrev c7:=V->V->Hp->VK->Prop
def PIp (X:Cx) (c:Operator) (t:c7):Prop:=
 ∀ (a:dl) (s:Shared) (b:St) (H:Hp) (x y:V) (v u:Value) (Q:VK),Inv X a b H s->RelV x v->RelV y u->t x y H Q->
   wpAny (model X.prog X.w) X.A (inplaceOp c v u) (EP X a b Q) X.xe s
section
variable {X:Cx} {pos:Pos}
def AF (i:Nat):TG:=λv a H Q=>Q (a.set i (some v)) H
def Ao {i:Nat} {x:Str} (b:X.N.Nodup) (c:X.N[i]?=some x) (d:aZ X.env.scope x) (e:X.fn x=true\/X.env.scope.names.lookup x=some .local:=by first | exact .inl rfl | exact .inr rfl | assumption):PG X (.Name x pos) (AF i):=by
 intro a s g H v u Q I r h;exact wpAny_assign_Name (LY I b c d r (λj f=>⟨_,H,f,h⟩) e)
noncomputable def Di:aU:=λa b H Q=>a=[]/\Q b H
noncomputable def CK (t:TG) (u:aU):aU:=λb c H Q=>∃ v r,b=v::r/\t v c H λa d=>u r a d Q
def EX:c6 X [] Di:=by
 intro a s b H c d Q I r h;obtain ⟨e,h⟩:=h;subst e;cases r;exact assignInOrder_nil ⟨b,H,I,h⟩
theorem CW {e:Expr} {b:du} {t:TG} {u:aU} (d:PG X e t) (f:c6 X b u)
  (g:(assignEach (e::b) X.env).map (·.2)=assign e X.env::(assignEach b X.env).map (·.2):=by rfl):c6 X (e::b) (CK t u):=by
 intro a s i H q w Q I r h;obtain ⟨v,x,j,h⟩:=h;subst j;cases r with
 | cons r k=>
   rw [g];refine assignInOrder_cons (F_ (d a s i H _ _ _ I r h) λ_ m ⟨c,n,o,p⟩=>?_);exact f a m c n _ _ Q o k p
def Vp (K:W.Frag) (n:Nat) (t:aU):TG:=λv c H Q=>∃ a b,v=.ref a/\SqT K H a b/\b.length=n/\t b c H Q
def Vq {d:du} {k:Nat} {t:aU} {n:Nat} (p:X.calm=true) (h:c6 X d t)
  (q:(assignEach d X.env).length=n:=by rfl) (f:(assignEach d X.env).findIdx? (·.1)=none:=by rfl):PG X (.Tuple d k pos) (Vp X.K n t):=by
 intro c s i H v u Q I r g;obtain ⟨a,w,x,y,z,g⟩:=g;subst x;cases r;obtain ⟨A,j,B,F⟩:=I.tuple y;refine assign_Tuple_tuple (I.ok.hd p) B (by simp [q,<-z,j.length]) f λC D=>?_;have E:Inv X c i H { s with heap:=C }:=I.kept (t':=s.toks) λb o e=>D b o (BV (mP e)) e;exact h c _ i H w _ Q E (by simpa using j) g
def FU (b c:TE) (t:aK):TG:=λv a H Q=>b a H λo d=>c a d λi e=>t o i v e λf=>Q a f
def HG {o i:Expr} {e f:TE} {t:aK} (g:PE X o e) (j:PE X i f) (k:bv X t)
  (m:∀ v,assign (.Subscript o i pos) X.env v=(do
   let b <-holding [v] (eval o X.env);let c <-holding [v,b] (eval i X.env)
   standAt pos
   holding [v,b,c] (setItem b c v)
   release [v,b,c] []):=by intro _;rfl):PG X (.Subscript o i pos) (FU e f t):=by
 intro a s d H v u Q I r h;rw [m];refine mJ (wpAny_holding (F_ (g a s d H _ I h) λb n ⟨x,p,q,w,z⟩=>?_));refine mJ (wpAny_holding (F_ (j a n d p _ q z) λc A ⟨y,B,C,D,E⟩=>?_));refine mJ (wpAny_standAt (mJ (wpAny_holding (F_ (k a A d B x y v b c u _ C w D r E) λ_ K ⟨F,G,J⟩=>?_))));exact wpAny_release ⟨d,F,G,J⟩
def AN (b:TE) (g:TG):TS:=λD a H=>b a H λx c=>g x a c D.nx
def IF {b e:Expr} {c:TE} {g:TG} (f:PE X e c) (i:PG X b g) (j:swapsWithSole [b] e pos.line X.env=pure false:=by rfl) (k:swappedStores [b] e X.env=pure none:=by rfl)
  (m:(assignEach [b] X.env).map (·.2)=[assign b X.env]:=by rfl):PS X (.Assign [b] e pos) (AN c g):=by
 intro a s d H D I h;refine wpAny_Assign_stores (F_ (f a s d H _ I h) λv n ⟨x,o,p,r,u⟩=>?_) j k;rw [m];exact F_ (i a n d o x v _ p r u) λ_ w q=>q
def DE {i:Nat} {x:Str} {e:Expr} {c:TE} {a:Pos} (d:X.N.Nodup) (f:X.N[i]?=some x) (g:aZ X.env.scope x) (j:PE X e c) (k:swapsWith e (some (.Name x a)) pos.line X.env=pure false:=by rfl) (m:X.fn x=true\/X.env.scope.names.lookup x=some .local:=by first | exact .inl rfl | exact .inr rfl | assumption) :
  PS X (.Assign [.Name x a] e pos) (AN c (AF i)):=by
 intro b s n H D I h;refine wpAny_Assign_Name (F_ (j b s n H _ I h) λv w ⟨y,o,p,q,r⟩=>?_) k;exact LY p d f g q (λz u=>⟨_,o,u,r⟩) m
def Vr (i j:Nat) (b:TA):TS:=λD a H=>b a H λc d=>∃ v w,c=[v,w]/\D.nx ((a.set i (some v)).set j (some w)) d
def EY (i:Nat) (b:TE) (c:c7):TS:=λD a H=>∃ x,a[i]?=some (some x)/\b a H λy d=>c x y d λz e=>D.nx (a.set i (some z)) e
def FV {i:Nat} {x:Str} {e:Expr} {p:TE} {j:Operator} {q:c7} {d:Pos} (E:X.N.Nodup) (A:X.N[i]?=some x) (n:aZ X.env.scope x) (F:PE X e p) (G:PIp X j q) (J:X.fn x=true\/X.env.scope.names.lookup x=some .local:=by first | exact .inl rfl | exact .inr rfl | assumption) :
  PS X (.AugAssign (.Name x d) j e pos) (EY i p q):=by
 intro a s B H D I h;obtain ⟨v,K,h⟩:=h;obtain ⟨m,L,M⟩:=I.loc;have o:b_ X.env.scope x:=by rcases n with k | k;exact .inl k;exact .inr (.inl k)
 obtain ⟨u,r,l⟩:=M i x v A K o;refine wpAny_AugAssign_Name ?_
 have C:wpAny (model X.prog X.w) X.A (eval e X.env) (λw f=>wpAny (model X.prog X.w) X.A (inplaceOp j u w) (λr g=>wpAny (model X.prog X.w) X.A (storeName X.env x r) (λ_=>SP X a D .next) X.xe g) X.xe f) X.xe s:=by
  refine F_ (F a s B H _ I h) λw N ⟨y,O,P,Q,R⟩=>?_;refine F_ (G a N B O v y u w _ P r Q R) λz s2 ⟨zv,S,T,U,W⟩=>?_;exact LY T E A n U (λs3 Y=>⟨_,S,Y,W⟩) J
 rcases l with ⟨hk,Z⟩ | ⟨hk,c,hc,b⟩
 ·exact wpAny_loadName_local I.ok.kind hk L Z C
 ·rcases hk with hk | hk
  ·exact wpAny_loadName_cell I.ok.kind hk hc b C
  ·rcases n with k | k
   ·have:X.env.scope.names.lookup x=some .free:=hk;rw [k] at this;cases this
   ·have:X.env.scope.names.lookup x=some .free:=hk;rw [k] at this;cases this
def GV (e f g:TE) (a:V->V->Hp->VK->Prop) (d:c7) (b:aK):TS:=λD c H=>e c H λo h=>f c h λi j=>a o i j λx k=>g c k λy m=>d x y m λz n=>b o i z n λp=>D.nx c p
def ca (X:Cx) (t:V->V->Hp->VK->Prop):Prop:=
 ∀ (a:dl) (s:Shared) (b:St) (H:Hp) (o i:V) (c d:Value) (Q:VK),Inv X a b H s->RelV o c->RelV i d->t o i H Q->
   wpAny (model X.prog X.w) X.A (getItem c d) (EP X a b Q) X.xe s
def IG {o i e:Expr} {p q r:TE} {c:V->V->Hp->VK->Prop} {k:c7} {d:aK} {u:Operator} {m:Pos} (A:PE X o p) (B:PE X i q) (C:ca X c) (E:PE X e r) (hp:PIp X u k) (F:bv X d)
  (G:∀ f g b,augStore i f g b=(do holding [b,f,g] (setItem f g b);release [b,f,g] [];pure .next):=by intros;rfl):PS X (.AugAssign (.Subscript o i m) u e pos) (GV p q r c k d):=by
 intro a s j H D I h;refine wpAny_AugAssign_SubscriptAny (F_ (A a s j H _ I h) λf J ⟨w,K,L,x,M⟩=>?_) G;refine F_ (B a J j K _ L M) λg N ⟨y,O,P,z,Q⟩=>?_;refine F_ (C a N j O w y f g _ P x z Q) λn R ⟨S,T,U,W,Y⟩=>?_;refine F_ (E a R j T _ U Y) λv Z ⟨x4,H4,I4,r4,q4⟩=>?_;refine F_ (hp a Z j H4 S x4 n v _ I4 W r4 q4) λb s5 ⟨x5,H5,I5,r5,q5⟩=>?_;exact F_ (F a s5 j H5 w y x5 f g b _ I5 x z r5 q5) λ_ s6 ⟨H6,I6,q6⟩=>⟨j,H6,I6,q6⟩
end
section
variable {X:Cx} {pos:Pos}
def D8 (c:TT) (h:TS):TS:=λD a H=>∃ W:Nat->St->Hp->Prop,(∃ m,W m a H)/\∀ m a H,W m a H->
 c a H λb e=>if b=true then ∃ N:St->Hp->Prop,(∀ d f,N d f->∃ g,g<m/\W g d f)/\h { D with nx:=N,ct:=N,bk:=D.nx } a e else D.nx a e
theorem E2 {c:Expr} {g:List Stmt} {tc:TT} {x:TS} (hp:PassesOwn (model X.prog X.w) X.A X.env X.xe) (E:PT X c tc) (F:PSs X g x):PS X (.While c g [] pos) (D8 tc x):=by
 intro a s G H D I h;obtain ⟨W,⟨J,K⟩,i⟩:=h;refine wpAny_While (codeAny_whileLoop (λn L=>∃ j y,Inv X a j y L/\W n j y) ?_ J ⟨G,H,I,K⟩);rintro n M ⟨e,z,O,P⟩;refine wpAny_passesOwn hp (F_ (E a M e z _ O (i n e z P)) λb Q ⟨A,B,m⟩=>?_);cases b with
 | true=>
   obtain ⟨N,C,m⟩:=m;rw [mF rfl];refine wpAny_passesOwn hp (F_ (F a Q e A _ B m) λf R o=>?_);cases f with
   | next=>
     obtain ⟨d,k,p,q⟩:=o;obtain ⟨r,u,w⟩:=C d k q;exact ⟨r,u,d,k,p,w⟩
   | cont=>
     obtain ⟨d,k,p,q⟩:=o;obtain ⟨r,u,w⟩:=C d k q;exact ⟨r,u,d,k,p,w⟩
   | brk=>exact o
   | ret v=>exact o
 | false=>
   rw [mE Cb];exact wpAny_execs_nil ⟨e,A,B,m⟩
end
structure It where
 go:Nat->Hp->Prop
 yld:Nat->Hp->V->Hp->Prop
 stop:Nat->Hp->Prop
def DF (X:Cx) (a:dl) (H:Hp) (b:Addr):Prop:=
 H b=none/\b≠X.env.locals/\b∉X.fs/\(b∈X.ex\/X.s₀.heap.objs.size<=b)/\(∀ x c,X.env.cells.lookup x=some c->c≠b)/\∀ p∈X.pn++a,p.1≠b
def Inv.fpOk {X:Cx} {a:dl} {g:St} {H f:Hp} {s:Shared} {b:Addr} (I:Inv X a g H s) (d:s.heap.objs.size<=b) (h:f b=none):DF X a f b:=by
 refine ⟨h,Nat.ne_of_gt (CO I.lt d),I.nofs d,.inr (A7 I.sz d),λx c e z=>?_,λp hp z=>?_⟩
 ·obtain ⟨v,q⟩:=I.cell x c e;exact absurd (CO q.lt (by rw [z];exact d)) (C8 _)
 ·exact absurd (CO (mP (I.pin p hp).1) (by rw [z];exact d)) (C8 _)
structure Turn (P:Program) (w:World) (K:W.Frag) (tg:Expr) (J:It) (fp:dE) (it:Addr) (tn:Nat->Heap->Prop):Prop where
 mem:it∈fp
 obj:∀ i h,tn i h->∀ b∈fp,∃ o,h.get? b=some o/\∀ v,o.data≠.cell v
 keep:∀ i h h',tn i h->(∀ b∈fp,∀ o,h.get? b=some o->h'.get? b=some o)->tn i h'
 item:∀ (X:Cx),X.prog=P->X.w=w->X.K=K->X.calm=true->∀ (i:Nat) (pins:dl) (s:Shared) (σ:St) (H:Hp) (E:dj),Inv X pins σ H s->(∀ b∈fp,DF X pins H b)->tn i s.heap->J.go i H->
  wpAny (model P w) X.A (pyNext (.ref it)) (λr s1=>∃ u,r=some u/\
   wpAny (model P w) X.A (letOwnedTupleGo tg (.ref it) u) (λ_ s2=>∃ x H',Inv X pins σ H' s2/\RelV x u/\J.yld i H x H'/\tn (i+1) s2.heap/\∀ b∈fp,H' b=none) E s1) E s
 done:∀ (X:Cx),X.prog=P->X.w=w->X.K=K->X.calm=true->∀ (i:Nat) (pins:dl) (s:Shared) (σ:St) (H:Hp) (E:dj),Inv X pins σ H s->(∀ b∈fp,DF X pins H b)->tn i s.heap->J.stop i H->
  wpAny (model P w) X.A (pyNext (.ref it)) (λr s1=>r=none/\Inv X pins σ H s1) E s
 self:∀ (A:Around) (i:Nat) (s:Shared) (Q:dj) (E:dj),tn i s.heap->Q (.ref it) s->wpAny (model P w) A (pyIter (.ref it)) Q E s
noncomputable abbrev TI:=St->Hp->(It->Hp->Prop)->Prop
def PIE (X:Cx) (a:dl) (h:St) (i:Expr) (R:It->Hp->Prop) (c:Value) (e:Shared):Prop:=
 ∃ (f:Addr) (g:dE) (tn:Nat->Heap->Prop) (J:It) (d:Hp),c=.ref f/\Inv X a h d e/\Turn X.prog X.w X.K i J g f tn/\tn 0 e.heap/\(∀ b∈g,DF X a d b)/\R J d
def PI (X:Cx) (d b:Expr) (e:TI):Prop:=
 ∀ (a:dl) (s:Shared) (c:St) (H:Hp) (R:It->Hp->Prop),Inv X a c H s->e c H R->
   wpAny (model X.prog X.w) X.A (eval b X.env) (λv f=>wpAny (model X.prog X.w) X.A (pyIter v) (PIE X a c d R) X.xe f) X.xe s
def Ji {M:Model} {A:Around} {E:dj} {s:Shared} {b:Expr} {c:Addr} {u:Value} {o:Obj} {n:String} {d:Array Value} {Q:Unit->Shared->Prop} (e:s.heap.get? c=some o) (f:o.cls=.type n) (g:o.data=.fields d)
  (i:["enumerate", "zip", "dict_itemiterator", "dict_reverseitemiterator", "odict_iterator", "itertools.zip_longest", "itertools.pairwise"].contains n=false) (a:Q Unit.unit s):wpAny M A (letOwnedTupleGo b (.ref c) u) Q E s:=by
 unfold letOwnedTupleGo
 cases b <;> first
  | exact mK a
  | (cases u <;> first
    | exact mK a
    | (refine mJ (wpAny_load e ?_)
       rw [f,g];show wpAny M A (if (["enumerate", "zip", "dict_itemiterator", "dict_reverseitemiterator", "odict_iterator", "itertools.zip_longest", "itertools.pairwise"].contains n && d[0]? == some (rawInt _))=true then _ else _) Q E s;rw [mE (by intro h;rw [i,Bool.false_and] at h;cases h)];exact mK a))
noncomputable def ax (K:W.Frag) (a:Addr):It:=
 ⟨λi H=>∃ b x,SqL K H a b/\b[i]?=some x,λi H x c=>c=H/\∀ b,SqL K H a b->b[i]?=some x,λi H=>∃ b,SqL K H a b/\b.length<=i⟩
noncomputable def aE (K:W.Frag) (a:Addr):It:=
 ⟨λi H=>∃ b x,SqT K H a b/\b[i]?=some x,λi H x c=>c=H/\∀ b,SqT K H a b->b[i]?=some x,λi H=>∃ b,SqT K H a b/\b.length<=i⟩
noncomputable def aF (lo:Int) (n:Nat):It:=⟨λi _=>i<n,λi H x a=>a=H/\x=.int (lo+i),λi _=>n<=i⟩
def Vs {P:Program} {w:World} {K:W.Frag} {T:Expr} (a g:Addr):Turn P w K T (ax K a) [g] g (λi h=>h.IsListIter g a i) where
 mem:=by simp
 obj:=λi h st b j=>by
  have e:b=g:=by simpa using j
  subst e
  obtain ⟨o,e,c,d⟩:=st
  exact ⟨o,e,λv z=>by rw [d] at z;cases z⟩
 keep:=λi h q st k=>st.at λo e=>k g (by simp) o e
 item:=by
  intro X A B C R i f s S H E I r st D
  subst A B C
  obtain ⟨U,x,y,F⟩:=D
  obtain ⟨G,J,p,Y⟩:=I.list y
  obtain ⟨u,Z,ru⟩:=J.get F
  obtain ⟨L,M,f2,N,O,Q⟩:=r g (by simp)
  refine wpAny_pyNext_list_item st p.isList (x:=u) (by simpa using Z) λq m sb=>?_
  have I1:Inv X f S H { s with heap:=q }:=I.turned (t':=s.toks) (λb o j e=>(sb.2 b j).trans e) L M N O Q
  obtain ⟨o,e,c,d⟩:=id m
  exact ⟨u,rfl,Ji (s:={ s with heap:=q }) e c d ∅ ⟨x,H,I1,ru,⟨rfl,λys hy=>by rw [I.list_inj hy y];exact F⟩,m,λb j=>(r b j).1⟩⟩
 done:=by
  intro X A B C R i f s S H E I r st D
  subst A B C
  obtain ⟨U,y,F⟩:=D
  obtain ⟨G,J,p,Y⟩:=I.list y
  obtain ⟨L,M,f2,N,O,Q⟩:=r g (by simp)
  have hl:=J.length
  exact wpAny_pyNext_list_end (I.ok.hd R) st p.isList (by simp;omega) λq eb=>⟨rfl,I.turned (t':=s.toks) (λb o j e=>eb b o j e) L M N O Q⟩
 self:=λ_ _ _ _ _ st h=>wpAny_pyIter_listiter st h
def Vt {P:Program} {w:World} {K:W.Frag} {T:Expr} (a g:Addr):Turn P w K T (aE K a) [g] g (λi h=>h.IsTupleIter g a i) where
 mem:=by simp
 obj:=λi h st b j=>by
  have e:b=g:=by simpa using j
  subst e
  obtain ⟨o,e,c,d⟩:=st
  exact ⟨o,e,λv z=>by rw [d] at z;cases z⟩
 keep:=λi h r st k=>st.at λo e=>k g (by simp) o e
 item:=by
  intro X B C D R i f s S H E I y st F
  subst B C D
  obtain ⟨U,x,A,G⟩:=F
  obtain ⟨m,J,p,Y⟩:=I.tuple A
  obtain ⟨u,Z,ru⟩:=J.get G
  obtain ⟨L,M,f2,N,O,Q⟩:=y g (by simp)
  refine wpAny_pyNext_tuple_item st (show s.heap.IsTuple a m.toArray from p) (x:=u) (by simpa using Z) λr n sb=>?_
  have I1:Inv X f S H { s with heap:=r }:=I.turned (t':=s.toks) (λb o j e=>(sb.2 b j).trans e) L M N O Q
  obtain ⟨o,e,c,d⟩:=id n
  exact ⟨u,rfl,Ji (s:={ s with heap:=r }) e c d ∅ ⟨x,H,I1,ru,⟨rfl,λys hy=>by rw [I.tuple_inj hy A];exact G⟩,n,λb j=>(y b j).1⟩⟩
 done:=by
  intro X B C D R i f s S H E I y st F
  subst B C D
  obtain ⟨U,A,G⟩:=F
  obtain ⟨m,J,p,Y⟩:=I.tuple A
  obtain ⟨L,M,f2,N,O,Q⟩:=y g (by simp)
  have hl:=J.length
  exact wpAny_pyNext_tuple_end (I.ok.hd R) st (show s.heap.IsTuple a m.toArray from p) (by simp;omega) λr eb=>⟨rfl,I.turned (t':=s.toks) (λb o j e=>eb b o j e) L M N O Q⟩
 self:=λ_ _ _ _ _ st h=>wpAny_pyIter_tupleiter st h
def Vu {P:Program} {w:World} {K:W.Frag} {L:Expr} (a:Addr) (lo:Int) (n:Nat):Turn P w K L (aF lo n) [a] a (λi h=>IsRangeIter h a (lo+(i:Nat)*1) ((n:Int) - (i:Nat)) 1) where
 mem:=by simp
 obj:=λi h st b d=>by
  have e:b=a:=by simpa using d
  subst e
  exact ⟨_,st,λv z=>by
   have M:Data.fields _=Data.cell v:=z
   cases M⟩
 keep:=λi h m st k=>k a (by simp) _ st
 item:=by
  intro X q r u x i c s G H E I p st y
  subst q r u
  obtain ⟨A,B,N,C,D,F⟩:=p a (by simp)
  have W:=Walks.range (prog:=X.prog) (w:=X.w) (I.ok.hd x) a lo 1 n
  refine W.item i s _ _ y st λv m J O f Q=>?_
  obtain ⟨t,rfl⟩:=O
  have R:Inv X c G H { s with heap:=m,toks:=J }:=I.turned (λb o d e=>Q b o (by simpa using d) e) A B C D F
  refine ⟨_,rfl,Ji (s:={ s with heap:=m,toks:=J }) (n := "range_iterator") f rfl rfl ∅ ⟨.int (lo+i),H,R,⟨t,?_⟩,⟨rfl,rfl⟩,f,λb d=>(p b d).1⟩⟩
  rw [Int.mul_one]
 done:=by
  intro X q r u x i c s G H E I p st y
  subst q r u
  obtain ⟨A,B,N,C,D,F⟩:=p a (by simp)
  exact wpAny_pyNext_range_end (I.ok.hd x) st (by have:n<=i:=y;omega) λm S=>⟨rfl,I.turned (t':=s.toks) (λb o d e=>S b o d e) A B C D F⟩
 self:=λ_ _ _ _ _ st h=>wpAny_pyIter_rangeiter st h
section
variable {X:Cx} {tg:Expr}
def DG (K:W.Frag) (c:TE):TI:=λd H R=>c d H λx b=>∃ a,x=.ref a/\(∃ e,SqL K b a e)/\R (ax K a) b
def DH (K:W.Frag) (c:TE):TI:=λd H R=>c d H λx b=>∃ a,x=.ref a/\(∃ e,SqT K b a e)/\R (aE K a) b
def EZ {l:Expr} {g:TE} (i:PE X l g):PI X tg l (DG X.K g):=by
 intro c s j H R I h;refine F_ (i c s j H _ I h) λv d ⟨x,k,f,m,n⟩=>?_;obtain ⟨a,e,⟨y,r⟩,q⟩:=n;subst e;cases m;obtain ⟨u,z,p,A⟩:=f.list r;refine wpAny_pyIter_list p.isList ?_;refine ⟨d.heap.objs.size,[d.heap.objs.size],_,_,k,rfl,f.kept (t':=d.toks) λb o e=>Heap.get?_push_of_some _ e,Vs a _,⟨_,Heap.get?_push_size _ rfl,rfl,rfl⟩,λb w=>?_,q⟩;have e:b=d.heap.objs.size:=by simpa using w
 subst e;exact f.fpOk (AM _) (f.hok.fresh (AM _))
def Ea {l:Expr} {i:TE} (j:PE X l i):PI X tg l (DH X.K i):=by
 intro c s k H R I h;refine F_ (j c s k H _ I h) λv d ⟨x,m,f,n,r⟩=>?_;obtain ⟨a,e,⟨y,u⟩,q⟩:=r;subst e;cases n;obtain ⟨g,z,p,A⟩:=f.tuple u;refine wpAny_pyIter_tuple (show d.heap.IsTuple a g.toArray from p) ?_;refine ⟨d.heap.objs.size,[d.heap.objs.size],_,_,m,rfl,f.kept (t':=d.toks) λb o e=>Heap.get?_push_of_some _ e,Vt a _,⟨_,Heap.get?_push_size _ rfl,rfl,rfl⟩,λb w=>?_,q⟩;have e:b=d.heap.objs.size:=by simpa using w
 subst e;exact f.fpOk (AM _) (f.hok.fresh (AM _))
def Vv {d:dl} {i:St} {H:Hp} {s:Shared} {R:It->Hp->Prop} {E:dj} {lo c:Int} {t u v:Tok} {tk:Nat} (I:Inv X d i H s) (k:-(2 ^ 62)<=lo) (m:lo<2 ^ 62) (n:-(2 ^ 62)<=c) (p:c<2 ^ 62)
  (q:R (aF lo (c - lo).toNat) H):wpAny (model X.prog X.w) X.A (pyIter (.ref s.heap.objs.size)) (PIE X d i tg R) E { s with heap:=s.heap.push { cls:=.type "range", data:=.fields #[.int lo t,.int c u,.int 1 v] },toks:=tk }:=by
 refine wpAny_pyIter_range (IsRange.new ..) (small_one k m n p) ?_;have j:Inv X d i H { s with heap:=s.heap.push { cls:=.type "range", data:=.fields #[.int lo t,.int c u,.int 1 v] },toks:=tk }:=I.kept λb o e=>Heap.get?_push_of_some _ e
 refine ⟨(s.heap.push { cls:=.type "range", data:=.fields #[.int lo t,.int c u,.int 1 v] }).objs.size,[(s.heap.push { cls:=.type "range", data:=.fields #[.int lo t,.int c u,.int 1 v] }).objs.size],_,_,H,rfl,
  j.kept (t':=tk) λb o e=>Heap.get?_push_of_some _ e,Vu _ lo (c - lo).toNat,?_,λb r=>?_,q⟩
 ·have w:lo+((0:Nat):Int)*1=lo:=by simp
  have x:(((c - lo).toNat:Nat):Int) - ((0:Nat):Int)=Builtin.Range.rangeSize lo c 1:=by rw [rangeSize_one];split <;> omega
  show IsRangeIter _ _ (lo+((0:Nat):Int)*1) ((((c - lo).toNat:Nat):Int) - ((0:Nat):Int)) 1;rw [w,x];exact Heap.get?_push_size _ rfl
 ·have e:b=(s.heap.push { cls:=.type "range", data:=.fields #[.int lo t,.int c u,.int 1 v] }).objs.size:=by simpa using r
  subst e;exact j.fpOk (AM _) (j.hok.fresh (AM _))
def Cg (a:TA):TI:=λb H R=>a b H λc d=>∃ j:Int,c=[.int j]/\-(2 ^ 62)<=j/\j<2 ^ 62/\R (aF 0 j.toNat) d
theorem DT {a:Expr} {f:TA} {p b:Pos} (g:Gl X "range") (i:X.mg "range" = none) (k:PA X [a] f) (m:starEach [a] X.env=[(false,eval a X.env)]:=by rfl):PI X tg (.Call (.Name "range" p) [a] [] b) (Cg f):=by
 intro c s n H R I h;refine Call_ (EV I g i boot_range (PyProof.Rows.callWith_type1 (F_ (k b c s n H _ I h) λx y ⟨z,A,o,u,d⟩=>?_) m rfl));obtain ⟨j,e,d,v,q⟩:=d;subst e;cases u with
 | cons r w=>
   cases w;obtain ⟨t,rfl⟩:=r;exact call_range_1 (Vv o ⋯ ⋯ d v (by simpa using q))
def BT (f:TI) (g:TG) (h:TS):TS:=λD a H=>f a H λJ j=>∃ W:Nat->Nat->St->Hp->Prop,(∃ m,W 0 m a j)/\∀ i m a H,W i m a H->
 (J.stop i H/\D.nx a H)\/(J.go i H/\∃ N:St->Hp->Prop,(∀ b c,N b c->∃ e,e<m/\W (i+1) e b c)/\∀ x c,J.yld i H x c->g x a c λd k=>h { D with nx:=N,ct:=N,bk:=D.nx } d k)
noncomputable def Jj (a:dE) (h:Heap):dl:=a.filterMap λb=>(h.get? b).map λo=>(b,o)
def Jk {a:dE} {h:Heap} {b:Addr} {o:Obj} (c:b∈a) (e:h.get? b=some o):(b,o)∈Jj a h:=List.mem_filterMap.mpr ⟨b,c,by rw [e];rfl⟩
theorem Vw {a:dE} {h:Heap} {p:Addr×Obj} (hp:p∈Jj a h):p.1∈a/\h.get? p.1=some p.2:=by
 obtain ⟨b,c,e⟩:=List.mem_filterMap.mp hp;cases q:h.get? b with
 | none=>rw [q] at e;cases e
 | some o=>
   rw [q] at e;have d:(b,o)=p:=mO e;subst d;exact ⟨c,q⟩
def Inv.pinned {a:dl} {f:St} {H:Hp} {s:Shared} {c:dE} (I:Inv X a f H s) (i:∀ b∈c,DF X a H b) (j:∀ b∈c,∃ o,s.heap.get? b=some o/\∀ v,o.data≠.cell v):Inv X (a++Jj c s.heap) f H s:=
 I.pins_of λp hp=>(Er.mp hp).elim (λz=>I.pin p (DC _ z)) λz=>by
  obtain ⟨g,e⟩:=Vw z;obtain ⟨k,m,n,_⟩:=i p.1 g;obtain ⟨o,h,d⟩:=j p.1 g;rw [e] at h;cases h;exact ⟨e,k,m,n,d⟩
def Inv.unpinned {a c:dl} {b:St} {H:Hp} {s:Shared} (I:Inv X (a++c) b H s):Inv X a b H s:=I.pins_of λp hp=>I.pin p (DC _ (List.mem_append_left _ hp))
def CF {j:Expr} {C:List Stmt} {wi:TI} {g:TG} {tb:TS} {S:Pos} (hp:PassesOwn (model X.prog X.w) X.A X.env X.xe) (hc:X.calm=true) (hi:PI X tg j wi) (hg:PG X tg g) (k:PSs X C tb)
  (hs:∀ x,foldedSetIterable j X.env x=pure x:=by intro _;rfl):PS X (.For tg j C [] S) (BT wi g tb):=by
 intro a s σ H D I h;refine wpAny_For (F_ (hi a s σ H _ I h) λv s1 h1=>F_ h1 λa2 s2 h2=>?_) hs;obtain ⟨it,G,tn,J,H2,e,I2,T,U,f2,W,⟨m0,w0⟩,K⟩:=h2;subst e;have p:∀ {B:Hp},(∀ b∈G,B b=none)->∀ b∈G,DF X a B b:=λhn b k=>⟨hn b k,(f2 b k).2⟩;refine codeAny_forLoop_any (λn s'=>∃ i q B,Inv X a q B s'/\tn i s'.heap/\(∀ b∈G,B b=none)/\W i n q B) ?_ m0 ⟨0,σ,H2,I2,U,λb k=>(f2 b k).1,w0⟩;rintro n s3 ⟨i,w,R,I3,L,M,w3⟩;rcases K i n w R w3 with ⟨O,qn⟩ | ⟨go,N,hN,P⟩
 ·refine wpAny_passesOwn hp (F_ (T.done X rfl rfl rfl hc i a s3 w R X.xe I3 (p M) L O) λr s4 ⟨Y,I4⟩=>?_);subst Y;exact wpAny_execs_nil ⟨w,R,I4,qn⟩
 ·refine wpAny_passesOwn hp (F_ (T.item X rfl rfl rfl hc i a s3 w R X.xe I3 (p M) L go) λr s4 ⟨u,Y,h4⟩=>?_);subst Y;refine wpAny_passesOwn hp (F_ h4 λ_ s5 ⟨x,H5,I5,r5,y5,F,Z⟩=>?_);have a0:=I5.pinned (p Z) (T.obj _ _ F);refine wpAny_passesOwn hp (F_ (hg _ s5 w H5 x u _ a0 r5 (P x H5 y5)) λ_ s6 ⟨a1,H6,I6,q6⟩=>?_);refine wpAny_passesOwn hp (F_ (k _ s6 a1 H6 _ I6 q6) λf s7 E=>?_)
  have y:∀ {c:St} {z:Hp},Inv X (a++Jj G s5.heap) c z s7->N c z->∃ m,m<n/\∃ i q B,Inv X a q B s7/\tn i s7.heap/\(∀ b∈G,B b=none)/\W i m q B:=λ{c z} A Q=>by
   obtain ⟨m',hm,w7⟩:=hN c z Q;refine ⟨m',hm,i+1,c,z,A.unpinned,T.keep _ _ _ F λb k o e=>(A.pin (b,o) (DC _ (DC _ (Jk k e)))).1,λb k=>?_,w7⟩;obtain ⟨o,e,d⟩:=T.obj _ _ F b k;exact (A.pin (b,o) (DC _ (DC _ (Jk k e)))).2.1
  cases f with
  | next=>obtain ⟨c,z,A,Q⟩:=E;exact y A Q
  | cont=>obtain ⟨c,z,A,Q⟩:=E;exact y A Q
  | brk=>obtain ⟨c,z,A,E⟩:=E;exact ⟨c,z,A.unpinned,E⟩
  | ret v=>obtain ⟨x7,c,z,A,r7,E⟩:=E;exact ⟨x7,c,z,A.unpinned,r7,E⟩
end
def Vx {K:W.Frag} {a:Addr} {xs:d7} {g:TG} {k:TS} {D:Ends} {b:St} {H:Hp} (Pv:Nat->St->Hp->Prop) (o:Pv 0 b H) (r:∀ i b H,i<=xs.length->Pv i b H->SqL K H a xs)
  (u:∀ i x b H,xs[i]?=some x->Pv i b H->g x b H λc j=>k { D with nx:=Pv (i+1),ct:=Pv (i+1),bk:=D.nx } c j) (z:∀ b H,Pv xs.length b H->D.nx b H) :
  ∃ W:Nat->Nat->St->Hp->Prop,(∃ m,W 0 m b H)/\∀ i m b H,W i m b H->
    ((ax K a).stop i H/\D.nx b H)\/((ax K a).go i H/\∃ N:St->Hp->Prop,(∀ d f,N d f->∃ n,n<m/\W (i+1) n d f)/\∀ x f,(ax K a).yld i H x f->g x b f λc j=>k { D with nx:=N,ct:=N,bk:=D.nx } c j):=by
 refine ⟨λi m b H=>m=xs.length - i/\i<=xs.length/\Pv i b H,⟨xs.length,by simp,Ab _,o⟩,?_⟩;rintro i m b H ⟨rfl,A,p⟩;have q:=r i b H A p;by_cases h:i<xs.length
 ·refine .inr ⟨⟨xs,xs[i],q,by simp [h]⟩,Pv (i+1),λd f B=>⟨xs.length - (i+1),⋯,rfl,h,B⟩,λx f y=>?_⟩;obtain ⟨e,y⟩:=y;subst e;exact u i x b _ (y xs q) p
 ·have e:i=xs.length:=by omega
  subst e;exact .inl ⟨⟨xs,q,AM _⟩,z b H p⟩
def LZ {K:W.Frag} {a:Addr} {xs:d7} {g:TG} {k:TS} {D:Ends} {b:St} {H:Hp} (Pv:Nat->St->Hp->Prop) (o:Pv 0 b H) (r:∀ i b H,i<=xs.length->Pv i b H->SqT K H a xs)
  (u:∀ i x b H,xs[i]?=some x->Pv i b H->g x b H λc j=>k { D with nx:=Pv (i+1),ct:=Pv (i+1),bk:=D.nx } c j) (z:∀ b H,Pv xs.length b H->D.nx b H) :
  ∃ W:Nat->Nat->St->Hp->Prop,(∃ m,W 0 m b H)/\∀ i m b H,W i m b H->
    ((aE K a).stop i H/\D.nx b H)\/((aE K a).go i H/\∃ N:St->Hp->Prop,(∀ d f,N d f->∃ n,n<m/\W (i+1) n d f)/\∀ x f,(aE K a).yld i H x f->g x b f λc j=>k { D with nx:=N,ct:=N,bk:=D.nx } c j):=by
 refine ⟨λi m b H=>m=xs.length - i/\i<=xs.length/\Pv i b H,⟨xs.length,by simp,Ab _,o⟩,?_⟩;rintro i m b H ⟨rfl,A,p⟩;have q:=r i b H A p;by_cases h:i<xs.length
 ·refine .inr ⟨⟨xs,xs[i],q,by simp [h]⟩,Pv (i+1),λd f B=>⟨xs.length - (i+1),⋯,rfl,h,B⟩,λx f y=>?_⟩;obtain ⟨e,y⟩:=y;subst e;exact u i x b _ (y xs q) p
 ·have e:i=xs.length:=by omega
  subst e;exact .inl ⟨⟨xs,q,AM _⟩,z b H p⟩
def Vy {lo:Int} {n:Nat} {g:TG} {j:TS} {D:Ends} {a:St} {H:Hp} (Pv:Nat->St->Hp->Prop) (o:Pv 0 a H)
  (q:∀ i a H,i<n->Pv i a H->g (.int (lo+i)) a H λb h=>j { D with nx:=Pv (i+1),ct:=Pv (i+1),bk:=D.nx } b h) (v:∀ a H,Pv n a H->D.nx a H) :
  ∃ W:Nat->Nat->St->Hp->Prop,(∃ m,W 0 m a H)/\∀ i m a H,W i m a H->
    ((aF lo n).stop i H/\D.nx a H)\/((aF lo n).go i H/\∃ N:St->Hp->Prop,(∀ c d,N c d->∃ k,k<m/\W (i+1) k c d)/\∀ x d,(aF lo n).yld i H x d->g x a d λb h=>j { D with nx:=N,ct:=N,bk:=D.nx } b h):=by
 refine ⟨λi m a H=>m=n - i/\i<=n/\Pv i a H,⟨n,by simp,Ab _,o⟩,?_⟩;rintro i m a H ⟨rfl,z,p⟩;by_cases f:i<n
 ·refine .inr ⟨f,Pv (i+1),λc d w=>⟨n - (i+1),⋯,rfl,f,w⟩,λx d y=>?_⟩;obtain ⟨e,y⟩:=y;subst e y;exact q i a _ f p
 ·have e:i=n:=by omega
  subst e;exact .inl ⟨AM _,v a H p⟩
noncomputable abbrev R2:=V->V->Hp->VK->Prop
def OpR (X:Cx) (f:Value->Value->Sem Value) (r:R2):Prop:=
 ∀ (a:dl) (s:Shared) (b:St) (H:Hp) (x y:V) (v u:Value) (Q:VK),Inv X a b H s->RelV x v->RelV y u->r x y H Q->
   wpAny (model X.prog X.w) X.A (f v u) (EP X a b Q) X.xe s
def UnR (X:Cx) (f:Value->Sem Value) (r:V->Hp->VK->Prop):Prop:=
 ∀ (a:dl) (s:Shared) (b:St) (H:Hp) (x:V) (v:Value) (Q:VK),Inv X a b H s->RelV x v->r x H Q->
   wpAny (model X.prog X.w) X.A (f v) (EP X a b Q) X.xe s
def CL (X:Cx) (f:Value) (r:d7->Hp->VK->Prop):Prop:=
 ∀ (a:dl) (s:Shared) (b:St) (H:Hp) (c:d7) (d:dh) (Q:VK),Inv X a b H s->Vals c d->r c H Q->
   wpAny (model X.prog X.w) X.A (call f d) (EP X a b Q) X.xe s
def Vz (X:Cx) (r:V->Hp->(Bool->Hp->Prop)->Prop):Prop:=
 ∀ (a:dl) (s:Shared) (b:St) (H:Hp) (x:V) (v:Value) (Q:Bool->Hp->Prop),Inv X a b H s->RelV x v->r x H Q->
   wpAny (model X.prog X.w) X.A (truthy v) (TP X a b Q) X.xe s
def A_ (r:R2) (b c:TE):TE:=λa H Q=>b a H λx d=>c a d λy e=>r x y e Q
def S_ (r:V->Hp->VK->Prop) (a:TE):TE:=λb H Q=>a b H λx c=>r x c Q
def rI (C:Int->Int->Prop) (g:Int->Int->V):R2:=λx y H Q=>∃ i j,x=.int i/\y=.int j/\C i j/\Q (g i j) H
def ap (g:Int->Int->V):R2:=λx y H Q=>∃ i j,x=.int i/\y=.int j/\Q (g i j) H
def rU (g:Int->V):V->Hp->VK->Prop:=λx H Q=>∃ i,x=.int i/\Q (g i) H
section
variable {X:Cx} {a b c:Expr} {ta tb tc:TE} {pos:Pos}
def La (n:PE X a ta) (o:PE X b tb) {d:dl} {s:Shared} {e:St} {H:Hp} {R:V->V->Hp->Prop} (I:Inv X d e H s)
  (h:ta e H λx m=>tb e m λy g=>R x y g) {Q:dj} {f:Value->Value->Sem Value}
  (p:∀ v u k x y g,Inv X d e g k->RelV x v->RelV y u->R x y g->wpAny (model X.prog X.w) X.A (f v u) Q X.xe k) :
  wpAny (model X.prog X.w) X.A (eval a X.env) (λv i=>wpAny (model X.prog X.w) X.A (eval b X.env) (λu j=>wpAny (model X.prog X.w) X.A (f v u) Q X.xe j) X.xe i) X.xe s:=by
 refine F_ (n d s e H _ I h) λv q ⟨x,m,r,w,z⟩=>?_;refine F_ (o d q e m _ r z) λu k ⟨y,g,A,B,C⟩=>?_;exact p v u k x y g A w B C
def AQ {e:Operator} {r:R2} (f:OpR X (binaryOp e) r) (g:PE X a ta) (i:PE X b tb):PE X (.BinOp a e b pos) (A_ r ta tb):=by
 intro d s j H Q I h;exact wpAny_BinOp (La g i I h λv u k x y m n o p q=>f d k j m x y v u Q n o p q)
def Bq {e:UnaryOp} {r:V->Hp->VK->Prop} (g:UnR X (unaryOp e) r) (i:PE X a ta):PE X (.UnaryOp e a pos) (S_ r ta):=by
 intro d s f H Q I h;exact UnaryOp_ (F_ (i d s f H _ I h) λv j ⟨x,k,m,n,o⟩=>g d j f k x v Q m n o)
def bO {f:Value->Value->Sem Value} {C:Int->Int->Prop} {g:Int->Int->Int}
  (rule:∀ (i j:Int) (t u:Tok) (s:Shared) (Q:dj) (E:dj),C i j->Q (.int (g i j) s.toks) { s with toks:=s.toks+1 }->wpAny (model X.prog X.w) X.A (f (.int i t) (.int j u)) Q E s) :
  OpR X f (rI C λi j=>.int (g i j)):=by
 intro e s p H x y v u Q I k m h;obtain ⟨i,j,rfl,rfl,n,q⟩:=h;obtain ⟨t,rfl⟩:=k;obtain ⟨o,rfl⟩:=m;exact rule i j t o s _ _ n ⟨.int (g i j),H,I.tok _,⟨_,rfl⟩,q⟩
def Jl {f:Value->Value->Sem Value} {g:Int->Int->Int}
  (rule:∀ (i j:Int) (t u:Tok) (s:Shared) (Q:dj) (E:dj),Q (.int (g i j) s.toks) { s with toks:=s.toks+1 }->wpAny (model X.prog X.w) X.A (f (.int i t) (.int j u)) Q E s) :
  OpR X f (ap λi j=>.int (g i j)):=by
 intro e s o H x y v u Q I k m h;obtain ⟨i,j,rfl,rfl,q⟩:=h;obtain ⟨t,rfl⟩:=k;obtain ⟨n,rfl⟩:=m;exact rule i j t n s _ _ ⟨.int (g i j),H,I.tok _,⟨_,rfl⟩,q⟩
def Lb {f:Value->Value->Sem Value} {g:Int->Int->Bool}
  (rule:∀ (i j:Int) (t u:Tok) (s:Shared) (Q:dj) (E:dj),Q (.bool (g i j)) s->wpAny (model X.prog X.w) X.A (f (.int i t) (.int j u)) Q E s) :
  OpR X f (ap λi j=>.bl (g i j)):=by
 intro d s n H x y v u Q I e k h;obtain ⟨i,j,rfl,rfl,q⟩:=h;obtain ⟨t,rfl⟩:=e;obtain ⟨m,rfl⟩:=k;exact rule i j t m s _ _ ⟨.bl (g i j),H,I,rfl,q⟩
def Br:OpR X (binaryOp .Add) (ap λi j=>.int (i+j)):=Jl λ_ _ _ _ _ _ _ q=>add_int q
def BU:OpR X (binaryOp .Sub) (ap λi j=>.int (i - j)):=Jl λ_ _ _ _ _ _ _ q=>sub_int q
def Cz:OpR X (binaryOp .Mod) (rI (λ_ j=>0<j) λi j=>.int (i % j)):=bO λi j _ _ _ _ _ d q=>by
 have e:(0:Int)<j:=d;exact mod_int' ⋯ (by rw [Int.fmod_eq_emod_of_nonneg i ⋯];exact q)
def V0:OpR X (binaryOp .Mod) (rI (λ_ j=>j≠0) λi j=>.int (i.fmod j)):=bO λ_ _ _ _ _ _ _ d q=>mod_int' d q
def Oe:OpR X (inplaceOp .Add) (ap λi j=>.int (i+j)):=Jl λ_ _ _ _ _ _ _ q=>iadd_int q
def IH:OpR X (inplaceOp .Sub) (ap λi j=>.int (i - j)):=Jl λ_ _ _ _ _ _ _ q=>isub_int q
def V1 {f:Value->Sem Value} {g:Int->Int}
  (rule:∀ (i:Int) (t:Tok) (s:Shared) (Q:dj) (E:dj),Q (.int (g i) s.toks) { s with toks:=s.toks+1 }->wpAny (model X.prog X.w) X.A (f (.int i t)) Q E s) :
  UnR X f (rU λi=>.int (g i)):=by
 intro e s k H x v Q I j h;obtain ⟨i,rfl,q⟩:=h;obtain ⟨t,rfl⟩:=j;exact rule i t s _ _ ⟨.int (g i),H,I.tok _,⟨_,rfl⟩,q⟩
def Bt:UnR X (unaryOp .USub) (rU λi=>.int (-i)):=V1 λ_ _ _ _ _ q=>neg_int q
end
noncomputable def scal:V->V->Bool
 | .non,.non=>true | .non,.int _=>true | .int _,.non=>true | .non,.bl _=>true | .bl _,.non=>true | .non,.str _=>true | .str _,.non=>true
 | .int _,.int _=>true | .bl _,.bl _=>true | .str _,.str _=>true | .byt _,.byt _=>true
 | .int _,.str _=>true | .str _,.int _=>true | .bl _,.str _=>true | .str _,.bl _=>true
 | _,_=>false
def ay:R2:=λx y H Q=>scal x y=true/\Q (.bl (decide (x=y))) H
def aG:R2:=λx y H Q=>scal x y=true/\Q (.bl (!decide (x=y))) H
def Of {i j:Int}:decide (V.int i=V.int j)=(i == j):=by
 rw [Bool.eq_iff_iff];simp
def Og {i j:Bool}:decide (V.bl i=V.bl j)=(i == j):=by
 rw [Bool.eq_iff_iff];simp
def Oh {i j:Str}:decide (V.str i=V.str j)=(i == j):=by
 rw [Bool.eq_iff_iff];simp
def Oi {i j:Array UInt8}:decide (V.byt i=V.byt j)=(i.toList == j.toList):=by
 rw [Bool.eq_iff_iff];cases i;cases j;simp
section
variable {X:Cx} {a b c:Expr} {ta tb tc:TE} {pos:Pos}
def BX {d:dl} {f:St} {H:Hp} {s:Shared} {Q:VK} {k g:Bool} (I:Inv X d f H s) (q:Q (.bl k) H) (e:k=g):EP X d f Q (.bool g) s:=by
 subst e;exact ⟨.bl k,H,I,rfl,q⟩
theorem Eb:OpR X (compareOp .Eq) ay:=by
 intro k s m H x y v u Q I g d h;obtain ⟨f,q⟩:=h;cases x with
 | non=>
   cases g;cases y with
   | non=>cases d;exact PySem.EqNone.eq_none_none (BX I q (by simp))
   | bl j=>cases d;exact PySem.EqNone.eq_none_bool (BX I q (by simp))
   | int j=>obtain ⟨e,rfl⟩:=d;exact PySem.EqNone.eq_none_int (BX I q (by simp))
   | str j=>obtain ⟨e,rfl⟩:=d;exact PySem.EqNone.eq_none_str (BX I q (by simp))
   | _=>exact absurd (show false=true from f) Cb
 | bl i=>
   cases g;cases y with
   | non=>cases d;exact PySem.EqNone.eq_bool_none (BX I q (by simp))
   | bl j=>cases d;exact eq_bool (BX I q Og)
   | str j=>obtain ⟨e,rfl⟩:=d;exact PySem.EqMixed.eq_bool_str (BX I q (by simp))
   | _=>exact absurd (show false=true from f) Cb
 | int i=>
   obtain ⟨t,rfl⟩:=g;cases y with
   | non=>cases d;exact PySem.EqNone.eq_int_none (BX I q (by simp))
   | int j=>obtain ⟨e,rfl⟩:=d;exact eq_int (BX I q Of)
   | str j=>obtain ⟨e,rfl⟩:=d;exact PySem.EqMixed.eq_int_str (BX I q (by simp))
   | _=>exact absurd (show false=true from f) Cb
 | str i=>
   obtain ⟨t,rfl⟩:=g;cases y with
   | non=>cases d;exact PySem.EqNone.eq_str_none (BX I q (by simp))
   | bl j=>cases d;exact PySem.EqMixed.eq_str_bool (BX I q (by simp))
   | int j=>obtain ⟨e,rfl⟩:=d;exact PySem.EqMixed.eq_str_int (BX I q (by simp))
   | str j=>obtain ⟨e,rfl⟩:=d;exact eq_str (BX I q Oh)
   | _=>exact absurd (show false=true from f) Cb
 | byt i=>
   obtain ⟨t,rfl⟩:=g;cases y with
   | byt j=>obtain ⟨e,rfl⟩:=d;exact W.eq_bytes (BX I q Oi)
   | _=>exact absurd (show false=true from f) Cb
 | _=>cases y <;> exact absurd (show false=true from f) Cb
theorem E3:OpR X (compareOp .NotEq) aG:=by
 intro k s m H x y v u Q I g d h;obtain ⟨f,q⟩:=h;cases x with
 | non=>
   cases g;cases y with
   | non=>cases d;exact PySem.EqNone.ne_none_none (BX I q (by simp))
   | bl j=>cases d;exact PySem.EqNone.ne_none_bool (BX I q (by simp))
   | int j=>obtain ⟨e,rfl⟩:=d;exact PySem.EqNone.ne_none_int (BX I q (by simp))
   | str j=>obtain ⟨e,rfl⟩:=d;exact PySem.EqNone.ne_none_str (BX I q (by simp))
   | _=>exact absurd (show false=true from f) Cb
 | bl i=>
   cases g;cases y with
   | non=>cases d;exact PySem.EqNone.ne_bool_none (BX I q (by simp))
   | bl j=>cases d;exact ne_bool (BX I q (congrArg not Og))
   | str j=>obtain ⟨e,rfl⟩:=d;exact PySem.EqMixed.ne_bool_str (BX I q (by simp))
   | _=>exact absurd (show false=true from f) Cb
 | int i=>
   obtain ⟨t,rfl⟩:=g;cases y with
   | non=>cases d;exact PySem.EqNone.ne_int_none (BX I q (by simp))
   | int j=>obtain ⟨e,rfl⟩:=d;exact ne_int (BX I q (congrArg not Of))
   | str j=>obtain ⟨e,rfl⟩:=d;exact PySem.EqMixed.ne_int_str (BX I q (by simp))
   | _=>exact absurd (show false=true from f) Cb
 | str i=>
   obtain ⟨t,rfl⟩:=g;cases y with
   | non=>cases d;exact PySem.EqNone.ne_str_none (BX I q (by simp))
   | bl j=>cases d;exact PySem.EqMixed.ne_str_bool (BX I q (by simp))
   | int j=>obtain ⟨e,rfl⟩:=d;exact PySem.EqMixed.ne_str_int (BX I q (by simp))
   | str j=>obtain ⟨e,rfl⟩:=d;exact ne_str (BX I q (congrArg not Oh))
   | _=>exact absurd (show false=true from f) Cb
 | byt i=>
   obtain ⟨t,rfl⟩:=g;cases y with
   | byt j=>obtain ⟨e,rfl⟩:=d;exact W.ne_bytes (BX I q (congrArg not Oi))
   | _=>exact absurd (show false=true from f) Cb
 | _=>cases y <;> exact absurd (show false=true from f) Cb
def II:OpR X (compareOp .Lt) (ap λi j=>.bl (decide (i<j))):=Lb λ_ _ _ _ _ _ _ q=>lt_int q
def EA:OpR X (compareOp .Gt) (ap λi j=>.bl (decide (j<i))):=Lb λ_ _ _ _ _ _ _ q=>gt_int q
def Lc:OpR X (compareOp .GtE) (ap λi j=>.bl (decide (j<=i))):=Lb λ_ _ _ _ _ _ _ q=>ge_int q
def Oj:OpR X (compareOp .Is) (λx y H Q=>y=.non/\Q (.bl (decide (x=.non))) H):=by
 intro d s g H x y v u Q I e f h;obtain ⟨rfl,q⟩:=h;cases f;refine is_none_gen (BX I q ?_)
 cases x <;> first
  | (cases e;rfl)
  | (obtain ⟨t,rfl⟩:=e;rfl)
def V2:OpR X (compareOp .IsNot) (λx y H Q=>y=.non/\Q (.bl (!decide (x=.non))) H):=by
 intro d s g H x y v u Q I e f h;obtain ⟨rfl,q⟩:=h;cases f;refine isnot_none_gen (BX I q ?_)
 cases x <;> first
  | (cases e;rfl)
  | (obtain ⟨t,rfl⟩:=e;rfl)
def U_ (b:Expr) {d:CmpOp} (h:d≠.In:=by decide) (e:d≠.NotIn:=by decide):behindInMarks d b=false:=by
 have f:(d == CmpOp.In)=false:=by cases d <;> first | rfl | exact absurd rfl h
 have g:(d == CmpOp.NotIn)=false:=by cases d <;> first | rfl | exact absurd rfl e
 cases b <;> simp [behindInMarks,f,g]
def IJ {e:CmpOp} {r:R2} (f:OpR X (compareOp e) r) (g:PE X a ta) (i:PE X b tb) (j:behindInMarks e b=false):PE X (.Compare a [e] [b] pos) (A_ r ta tb):=by
 intro d s k H Q I h;exact wpAny_Compare1 (La g i I h λv u m x y n o p w q=>f d m k n x y v u Q o p w q) j
def Az (t:TE):TT:=λd H Q=>t d H λx e=>∃ k,x=.bl k/\Q k e
def V3 {f:CmpOp} {r:R2} (i:OpR X (compareOp f) r) (j:PE X a ta) (m:PE X b tb) (n:behindInMarks f b=false):PT X (.Compare a [f] [b] pos) (Az (A_ r ta tb)):=by
 intro d s g H Q I h
 refine wpAny_isTrue_Compare1 (F_ (j d s g H _ I h) λv o ⟨x,p,q,w,A⟩=>F_ (m d o g p _ q A) λu B ⟨y,C,D,E,F⟩=>
  F_ (i d B g C x y v u _ D w E F) λc M ⟨z,G,J,K,k,e,L⟩=>?_) n
 subst e;cases K;exact wpAny_truthy_bool ⟨G,J,L⟩
def V4 (r f:R2) (ta tb tc:TE):TE:=λd H Q=>ta d H λx g=>tb d g λy h=>r x y h λz e=>∃ k,z=.bl k/\
 (if k=true then tc d e λi j=>f y i j Q else Q (.bl false) e)
def V5 (K:W.Frag) (x:V) (H:Hp) (k:Bool):Prop:=
 match x with
 | .non=>k=false
 | .bl b=>k=b
 | .int i=>k=(i != 0)
 | .str y=>y.length<=sizeLine/\k=((y.length:Int) != 0)
 | .byt y=>y.size<=sizeLine/\k=((y.size:Int) != 0)
 | .ref p=>(∃ d,SqL K H p d/\k=!d.isEmpty)\/(∃ d,SqT K H p d/\k=!d.isEmpty)\/∃ e,H p=some (.dK e)/\k=!e.isEmpty
 | _=>False
def V6 {e:Type} {d:List (e×V)} {f:List (e×Value)} (r:KV d f):(!f.isEmpty)=!d.isEmpty:=by
 cases r <;> rfl
def Ol {xs:d7} {its:dh} (r:Vals xs its):(!its.toArray.isEmpty)=!xs.isEmpty:=by
 cases r <;> simp
def HH:(sizeLine:Nat)<2 ^ 63:=by rw [sizeLine_eq];decide
theorem V7:Vz X (λx H Q=>∃ k,V5 X.K x H k/\Q k H):=by
 intro A s E H x v Q I n h;obtain ⟨k,e,q⟩:=h;have F:=HH;have G:sizeLine=16777216:=sizeLine_eq;cases x with
 | non=>
   cases n;have d:k=false:=e;subst d;exact truthy_none ⟨H,I,q⟩
 | bl b=>
   cases n;have d:k=b:=e;subst d;exact wpAny_truthy_bool ⟨H,I,q⟩
 | int i=>
   obtain ⟨t,rfl⟩:=n;have d:k=(i != 0):=e;subst d;exact PySem.P.truthy_int ⟨H,I,q⟩
 | str y=>
   obtain ⟨t,rfl⟩:=n;obtain ⟨C,d⟩:y.length<=sizeLine/\k=((y.length:Int) != 0):=e;subst d;exact PySem.P.truthy_str ⋯ ⟨H,I.tok _,q⟩
 | byt y=>
   obtain ⟨t,rfl⟩:=n;obtain ⟨C,d⟩:y.size<=sizeLine/\k=((y.size:Int) != 0):=e;subst d;exact W.truthy_bytes ⋯ ⟨H,I.tok _,q⟩
 | ref p=>
   cases n;have d:(∃ j,SqL X.K H p j/\k=!j.isEmpty)\/(∃ j,SqT X.K H p j/\k=!j.isEmpty)\/∃ f,H p=some (.dK f)/\k=!f.isEmpty:=e;rcases d with ⟨j,o,d⟩ | ⟨j,o,d⟩ | ⟨f,o,d⟩
   ·subst d;obtain ⟨w,r,z,B⟩:=I.list o;have g:=r.length;exact wpAny_truthy_list z.isList (by simp only [A9];omega) ⟨H,I.tok _,by rw [Ol r];exact q⟩
   ·subst d;obtain ⟨w,r,z,B⟩:=I.tuple o;have g:=r.length;exact truthy_tuple z (by simp only [A9];omega) ⟨H,I.tok _,by rw [Ol r];exact q⟩
   ·subst d;obtain ⟨B,D,u,r,m⟩:f.length<=sizeLine/\(p == sysModules)=false/\∃ u,KV f u/\s.heap.DictOf (LW X.prog X.w) p u:=I.hok p _ o;have g:f.length=u.length:=Paired.length r;exact wpAny_truthy_dict D m ⋯ ⟨H,I.tok _,by rw [V6 r];exact q⟩
 | _=>exact (show False from e).elim
theorem Dj {x:V} {d:dh} (r:Vals [x] d):∃ u,d=[u]/\RelV x u:=by
 cases r with
 | cons e f=>cases f;exact ⟨_,rfl,e⟩
theorem vals2 {x y:V} {d:dh} (r:Vals [x,y] d):∃ u e,d=[u,e]/\RelV x u/\RelV y e:=by
 cases r with
 | cons f g=>
   cases g with
   | cons h i=>cases i;exact ⟨_,_,rfl,f,h⟩
def V8:CL X (.builtin "abs") (λd H Q=>∃ i,d=[.int i]/\Q (.int (if i<0 then -i else i)) H):=by
 intro e s f H d g Q I r h;obtain ⟨i,rfl,q⟩:=h;obtain ⟨u,rfl,t,rfl⟩:=Dj r;exact call_abs_int λu j=>⟨.int (if i<0 then -i else i),H,I.tok _,⟨_,rfl⟩,q⟩
def V9 (g:X.calm=true):CL X (.builtin "max") (λe H Q=>∃ i j,e=[.int i,.int j]/\Q (.int (if j > i then j else i)) H):=by
 intro f s m H e n Q I r h;obtain ⟨i,j,rfl,q⟩:=h;obtain ⟨u,o,rfl,⟨t,rfl⟩,⟨p,rfl⟩⟩:=vals2 r;refine max_two_ints (I.ok.hd g) λv w k=>⟨_,H,I.kept k,?_,q⟩;by_cases d:j > i
 ·rw [mF d,mF d];exact ⟨_,rfl⟩
 ·rw [mE d,mE d];exact ⟨_,rfl⟩
def WA:CL X (.type "int") (λd H Q=>(∃ i,d=[.int i]/\Q (.int i) H)\/∃ k,d=[.bl k]/\Q (.int (if k then 1 else 0)) H):=by
 intro e s g H d j Q I r h;rcases h with ⟨i,rfl,q⟩ | ⟨k,rfl,q⟩
 ·obtain ⟨u,rfl,t,rfl⟩:=Dj r;exact call_int_int ⟨.int i,H,I,⟨_,rfl⟩,q⟩
 ·obtain ⟨u,rfl,f⟩:=Dj r;cases f;exact call_int_bool ⟨.int (if k then 1 else 0),H,I.tok _,⟨_,rfl⟩,q⟩
end
structure ObjM (h:Heap) (x dx C:Addr) (mA:dq):Prop where
 obj:h.get? x=some (W.instObj C dx)
 ns:h.Ns1 dx mA
 ne:dx≠x
def WB {h:Heap} {d:Addr} {f:dq} (n:h.Ns1 d f):∃ g,h.get? d=some g/\∀ b,W.lookIn b g=some (f b):=by
 obtain ⟨o,i,u,j,k,hk,_,m⟩:=n;refine ⟨o,j,λb=>?_⟩;have e:=m b;unfold nsFind findBy at e;rw [<-Array.find?_toList] at e;unfold W.lookIn;rw [k];dsimp only;split
 ·rename_i y q;rw [q] at e;exact congrArg some e
 ·rename_i q;rw [q] at e
  have a:i.toList.any (·.refKey)=false:=by
   rw [List.any_eq_false];intro y p;obtain ⟨z,t,c⟩:=hk y (Array.mem_toList_iff.mp p);simp [DictEntry.refKey,c]
  have r:¬ i.toList.any (·.refKey)=true:=by rw [a];exact Cb
  rw [mE r];exact congrArg some e
def ObjM.look {h:Heap} {x c C:Addr} {d:dq} (I:ObjM h x c C d):∃ b,W.InstAt h x (W.instObj C c) C (some b)/\∀ a,W.lookIn a b=some (d a):=
 let ⟨b,e,f⟩:=WB I.ns
 ⟨b,⟨I.obj,rfl,rfl,e⟩,f⟩
section
variable {P:Program} {w:World} {H H':Hp} {h h':Heap} {a C dx:Addr} {fs fs':List (Str×V)}
def WC (c:HOk P w H h) (e:H a=some (.ins C dx fs)):∃ b,ObjM h a dx C b/\(∀ f,LX (fs.lookup f) (b f))/\PySem.Within b (fs.map (·.1))/\fs.length<=1000/\H dx=some (.own a):=by
 obtain ⟨d,z,g,i,b,n,r,q⟩:=(show ObjOk P w H h a (.ins C dx fs) from c a _ e);exact ⟨b,⟨i,n,g⟩,r,q,z,d⟩
end
structure Cls (K:W.Frag) (C:Addr):Prop where
 pg:W.plainGet K C Str.empty=true
 hd:W.hasDictIn K C=true
 po:W.plainOver K C=true
 sa:W.findIn K (.ref C) "__setattr__" = some (some (.builtin "object.__setattr__"))
def Cls.get {K:W.Frag} {C:Addr} (c:Cls K C) (f:Str):W.plainGet K C f=true:=c.pg
section
variable {X:Cx} {pins:dl} {σ:St} {H:Hp} {s:Shared} {A:Around} {E:dj} {Q:dj} {c:Value} {b:Bool}
inductive TyOf (K:W.Frag) (H:Hp):V->Value->Prop where
 | non:TyOf K H .non (.type "NoneType")
 | bl (x:Bool):TyOf K H (.bl x) (.type "bool")
 | int (i:Int):TyOf K H (.int i) (.type "int")
 | str (x:Str):TyOf K H (.str x) (.type "str")
 | flt (x:UInt64):TyOf K H (.flt x) (.type "float")
 | lst {a:Addr} {xs:d7} (e:H a=some (.lst xs)):TyOf K H (.ref a) (.type "list")
 | frz {a:Addr} {o:Obj} {xs:d7} (e:H a=some (.frz o (.lst xs))):TyOf K H (.ref a) (.type "list")
 | tup {a:Addr} {xs:d7} (e:H a=some (.tup xs)):TyOf K H (.ref a) (.type "tuple")
 | dK {a:Addr} {kvs:List (ak×V)} (e:H a=some (.dK kvs)):TyOf K H (.ref a) (.type "dict")
 | dT {a:Addr} {kvs:List (List ak×V)} (e:H a=some (.dT kvs)):TyOf K H (.ref a) (.type "dict")
 | ins {a C dx:Addr} {fs:List (Str×V)} (e:H a=some (.ins C dx fs)) (cl:Cls K C) (ha:W.findIn K (.ref C) "__class__" = some (some (.builtin "object.__class__")))
   (hn:W.specialIn K (.builtin "object.__class__") "__get__" = some (some (.builtin "getset_descriptor.__get__"))) (htk:W.takesIn K (.builtin "object.__class__")=some true)
   (hm:W.mroIn K C (.type "object")=some true):TyOf K H (.ref a) (.ref C)
theorem WD {x:V} {u t:Value} (I:Inv X pins σ H s) (d:RelV x u) (B:TyOf X.K H x t) (e:W.kitOne X.K t c=some b) (h:∀ D,Q (.bool b) { s with toks:=D }) :
  wpAny (model X.prog X.w) A (call (.builtin "isinstance") [u,c]) Q E s:=by
 cases B with
 | non=>cases (show u=Value.none from d);exact W.kia_one W.kitx_none I.kIn True.intro e (λz=>nomatch z) h
 | bl y=>cases (show u=Value.bool y from d);exact W.kia_one W.kitx_bool I.kIn True.intro e (λz=>nomatch z) h
 | int i=>obtain ⟨t,q⟩:=(show ∃ t,u=Value.int i t from d);cases q;exact W.kia_one W.kitx_int I.kIn True.intro e (λz=>nomatch z) h
 | str y=>obtain ⟨t,q⟩:=(show ∃ t,u=Value.str y t from d);cases q;exact W.kia_one W.kitx_str I.kIn True.intro e (λz=>nomatch z) h
 | flt y=>obtain ⟨t,q⟩:=(show ∃ t,u=Value.float y t from d);cases q;exact W.kia_one W.kitx_float I.kIn True.intro e (λz=>nomatch z) h
 | @lst a k f=>
   cases (show u=Value.ref a from d);obtain ⟨_,_,n,_,g⟩:=(show ObjOk X.prog X.w H s.heap a (.lst k) from I.hok a _ f);exact W.kia_one W.kitx_list I.kIn ⟨_,g,rfl⟩ e (λz=>nomatch z) h
 | @frz a F k f=>
   cases (show u=Value.ref a from d);obtain ⟨_,_,_,n,_,g⟩:=(show ObjOk X.prog X.w H s.heap a (.frz F (.lst k)) from I.hok a _ f);exact W.kia_one W.kitx_list I.kIn ⟨_,g,rfl⟩ e (λz=>nomatch z) h
 | @tup a k f=>
   cases (show u=Value.ref a from d);obtain ⟨_,_,_,p⟩:=(show ObjOk X.prog X.w H s.heap a (.tup k) from I.hok a _ f);obtain ⟨o,g,m,_⟩:=p;exact W.kia_one W.kitx_tuple I.kIn ⟨o,g,m⟩ e (λz=>nomatch z) h
 | @dK a j f=>
   cases (show u=Value.ref a from d);obtain ⟨_,_,P,_,p⟩:=(show ObjOk X.prog X.w H s.heap a (.dK j) from I.hok a _ f);obtain ⟨o,G,K,g,m,_⟩:=p;exact W.kia_one W.kitx_dict I.kIn ⟨o,g,m.1⟩ e (λz=>nomatch z) h
 | @dT a j f=>
   cases (show u=Value.ref a from d);obtain ⟨_,_,k,_,o,G,K,g,m,_⟩:=(show ObjOk X.prog X.w H s.heap a (.dT j) from I.hok a _ f);exact W.kia_one W.kitx_dict I.kIn ⟨o,g,m.1⟩ e (λz=>nomatch z) h
 | @ins a C R S f w L M r N=>
   cases (show u=Value.ref a from d);obtain ⟨T,O,_⟩:=WC I.hok f;obtain ⟨U,J,_⟩:=O.look;exact W.kia_one (W.kitx_own (w.get _) w.hd L M r N) I.kIn J e (λz=>nomatch z) h
end
structure Room (k:Nat) (A:Around):Prop where
 hd:A.handled=none
 dp:A.depth+3*k+105<recursionLimit
 un:A.units+16*k+200<cLine
def Room.mono {j k:Nat} {A:Around} (r:Room k A) (h:j<=k):Room j A:=⟨r.hd,by have:=r.dp;omega,by have:=r.un;omega⟩
def Room.deeper {k:Nat} {A:Around} (r:Room (k+1) A) (a:Env):Room k (A.deeper a):=
 ⟨r.hd,by have:=r.dp;show A.depth+1+3*k+105<_;omega,by have:=r.un;show A.units+3+16*k+200<_;omega⟩
def Room.depth {k:Nat} {A:Around} (r:Room k A):A.depth<recursionLimit:=by have:=r.dp;omega
def Room.units {k:Nat} {A:Around} (r:Room k A):A.units+64<cLine:=by have:=r.un;omega
def Room.units0 {k:Nat} {A:Around} (r:Room k A):A.units<cLine:=by have:=r.un;omega
def AC:TA:=λ_ H Q=>Q [] H
def AB (b:TE) (tr:TA):TA:=λa H Q=>b a H λx c=>tr a c λd e=>Q (x::d) e
section
variable {X:Cx} {e:Expr} {es:du} {te:TE} {t:TA} {pos:Pos}
def AJ:PA X [] AC:=λ_ _ _ _ H Q I h=>Calls.spliced_nil ⟨[],H,I,.nil,h⟩
def AD (c:PE X e te) (d:PA X es t) (f:starEach (e::es) X.env=(false,eval e X.env)::starEach es X.env:=by rfl):PA X (e::es) (AB te t):=by
 intro pos a s b H Q I h;rw [f];show wpAny _ _ (spliced ((false,eval e X.env)::backTo pos (starEach es X.env))) _ _ s;refine Calls.spliced_cons (F_ (c a s b H _ I h) λu g ⟨x,i,j,k,m⟩=>?_);exact F_ (d pos a g b i _ j m) λv w ⟨n,o,p,q,r⟩=>⟨x::n,o,p,.cons k q,r⟩
def Ay (t:TA):TE:=λc H Q=>t c H λa b=>a.length<=sizeLine/\∀ p,b p=none->Q (.ref p) (upd b p (.tup a))
def Bj (t:TA):TE:=λc H Q=>t c H λa b=>a.length<=sizeLine/\∀ p,b p=none->Q (.ref p) (upd b p (.lst a))
def A8 {x1} (h:PA X es t):PE X (.Tuple es x1 pos) (Ay t):=by
 intro a s g H Q I i;refine wpAny_Tuple_spliced (F_ (h pos a s g H _ I i) λj c ⟨k,d,f,r,z,q⟩=>⟨by rw [<-r.length];exact z,?_⟩);have m:d c.heap.objs.size=none:=f.hok.fresh (AM _);refine ⟨.ref c.heap.objs.size,upd d c.heap.objs.size (.tup k),f.laid (t':=c.toks) (λb u e=>Heap.get?_push_of_some _ e) (AM _) ?_,rfl,q _ m⟩;exact ⟨z,j,r,⟨_,Heap.get?_push_size _ rfl,rfl,_,rfl⟩⟩
def CM (h:PA X es t):PE X (.List es pos) (Bj t):=by
 intro a s g H Q I i;refine wpAny_List_spliced (F_ (h pos a s g H _ I i) λj c ⟨k,d,f,r,z,q⟩=>⟨by rw [<-r.length];exact z,?_⟩);have m:d c.heap.objs.size=none:=f.hok.fresh (AM _);refine ⟨.ref c.heap.objs.size,upd d c.heap.objs.size (.lst k),f.laid (t':=c.toks) (λb u e=>Heap.get?_push_of_some _ e) (AM _) ?_,rfl,q _ m⟩;exact ⟨z,j,0,r,Heap.get?_push_size _ rfl⟩
end
noncomputable abbrev Sp:=d7->Hp->VK->XK->Prop
noncomputable abbrev aM:=List Env->Hp->Shared->XK->dj
structure Env0 (P:Program) (w:World) (K:W.Frag) (mg:dq) (base:Heap) (A:Around) (outer:List Env) (s:Shared) (H:Hp):Prop where
 frames:A.frames=some outer
 mod:Mod K mg base
 bs:∀ b o,base.get? b=some o->s.heap.get? b=some o/\H b=none
 bsz:base.objs.size<=s.heap.objs.size
 funs:s.heap.FunFrames base outer
 frf:∀ b∈aw outer,H b=none
 hok:HOk P w H s.heap
 bare:AllBare s.gens
 seer:base.NoSeer
 tree:(model P w).prog.given.tree=none
def CE (a:List Env) (P:Program) (w:World) (H:Hp) (s:Shared) (Q:VK) (u:Value) (s':Shared):Prop:=
 ∃ v b,s'.os=s.os/\AllBare s'.gens/\Un (aw a) [] H b s.heap s'.heap/\HOk P w b s'.heap/\RelV v u/\Q v b
def CR (CX:aM) (a:List Env) (P:Program) (w:World) (H:Hp) (s:Shared) (Q:VK) (E:XK) (r:Result) (s':Shared):Prop:=
 match r with
 | .ok (.ret u)=>CE a P w H s Q u s'
 | .ok _=>False
 | .error e=>CX a H s E e s'
structure FnOk (P:Program) (w:World) (K:W.Frag) (mg:dq) (base:Heap) (CX:aM) (k:Nat) (f:Addr) (fd:FuncData) (ps:dw) (sp:Sp):Prop where
 len:∀ vs H Q E,sp vs H Q E->vs.length=ps.length
 run:∀ (A:Around) (outer:List Env) (s:Shared) (H:Hp) (args:Args) (us:dh) (vs:d7) (Q:VK) (E:XK),Room k A->Env0 P w K mg base A outer s H->BindsTo s fd args (ps.zip us)->Vals vs us->sp vs H Q E->
  codeAny (model P w) A (.call (.ref f) args) (CR CX outer P w H s Q E) s
section
variable {X:Cx} {pins:dl} {σ:St} {H:Hp} {s s':Shared}
def Inv.env0 (I:Inv X pins σ H s):Env0 X.prog X.w X.K X.mg X.base X.A X.stack s H:=
 ⟨I.ok.frames,I.ok.mod,I.bs,A7 I.ok.bsz I.sz,I.stack,I.stkFree,I.hok,I.bare,I.ok.seer,I.ok.tree⟩
def Inv.after {Q:VK} {u:Value} (I:Inv X pins σ H s) (h:CE X.stack X.prog X.w H s Q u s'):EP X pins σ Q u s':=by
 obtain ⟨v,f,os,a,i,c,r,q⟩:=h;obtain ⟨j,g,d,t,e⟩:=s';obtain rfl:e=s.os:=os;exact ⟨v,f,I.call (h':=j) (g':=g) (d':=d) (t':=t) (ch:=[]) i c a (λb z=>absurd z (by simp)),r,q⟩
end
def AE (sp:Sp) (a:d7) (E:XK) (t:TA):TE:=λb H Q=>t b H λc d=>sp (c++a) d Q E
def Binds (K:W.Frag) (c:FuncData) (ps:dw) (b:dh):Prop:=
 ∀ (s:Shared) (a:dh),K.In s.heap->(a++b).length=ps.length->BindsTo s c ⟨a,[]⟩ (ps.zip (a++b))
def Binds.all {K:W.Frag} {b:FuncData} {ps:dw} (h:∀ a:dh,a.length=ps.length->bindArgs b ⟨a,[]⟩=pure (ps.zip a)):Binds K b ps []:=λs a _ c=>by
 rw [List.append_nil] at c ⊢;exact .of_eq (h a c)
def au (CX:aM) (X:Cx) (E:XK):Prop:=∀ (a:dl) (c:St) (H:Hp) (s:Shared) (e:Value) (b:Shared),Inv X a c H s->CX X.stack H s E e b->X.xe e b
section
variable {X:Cx} {CX:aM} {k:Nat} {f C:Addr} {fd:FuncData} {ps:dw} {sp:Sp} {dvs:d7} {ds:dh} {E:XK} {x m:Str} {p pos apos:Pos} {e o:Expr} {es:du} {ta:TE} {t:TA}
theorem WE {a:dl} {g:St} {H:Hp} {s:Shared} {Q:VK} {b:dh} {d:d7} (F:FnOk X.prog X.w X.K X.mg X.base CX k f fd ps sp) (j:Room k X.A) (n:Binds X.K fd ps ds) (q:Vals dvs ds) (v:au CX X E)
  (I:Inv X a g H s) (r:Vals d b) (h:sp (d++dvs) H Q E):wpAny (model X.prog X.w) X.A (call (.ref f) b) (EP X a g Q) X.xe s:=by
 have i:Vals (d++dvs) (b++ds):=r.append q;have w:(b++ds).length=ps.length:=by rw [<-i.length];exact F.len _ _ _ _ h
 refine wpAny_call (codeAny_mono (F.run X.A X.stack s H ⟨b,[]⟩ (b++ds) (d++dvs) Q E j I.env0 (n s b I.kIn w) i h) λr y c=>?_);cases r with
 | error e=>exact v a g H s e y I c
 | ok z=>
   cases z with
   | ret u=>exact I.after c
   | next=>exact False.elim c
   | brk=>exact False.elim c
   | cont=>exact False.elim c
def WF (F:FnOk X.prog X.w X.K X.mg X.base CX k f fd ps sp) (g:Room k X.A) (i:Gl X x) (j:X.mg x=some (.ref f)) (hk:W.keepIn X.K (.ref f)=true) (n:Binds X.K fd ps ds) (u:Vals dvs ds) (v:au CX X E)
  (w:PA X (e::es) t) (b:(x == ("__debug__" : Str))=false:=by decide) (y:starEach (e::es) X.env=(false,eval e X.env)::starEach es X.env:=by rfl) (c:(backTo pos (starEach es X.env)).any (·.1)=false:=by rfl) :
  PE X (.Call (.Name x p) (e::es) [] pos) (AE sp dvs E t):=by
 intro a s z H Q I h;refine wpAny_Call_Name_kw (Oc I i j ?_ b);refine W.callWith_K (h₀:=X.base) I.ok.mod.kin hk (F_ (w pos a s z H _ I h) λA B ⟨D,G,d,r,q⟩=>⟨d.kIn,?_⟩) y c;exact WE F g n u v d r q
end
def PK (X:Cx) (b:List Keyword) (t:TA):Prop:=
 ∀ (c:Pos) (a:dl) (s:Shared) (d:St) (H:Hp) (Q:d7->Hp->Prop),Inv X a d H s->t d H Q->wpAny (model X.prog X.w) X.A (evalAll ((backToKw c (keywordEach b X.env)).map (·.2))) (AP X a d Q) X.xe s
section
variable {X:Cx} {CX:aM} {k:Nat} {f C:Addr} {fd:FuncData} {ps ks:dw} {sp:Sp} {E:XK} {x m:Str} {p pos apos kpos:Pos} {e o:Expr} {es:du} {kws:List Keyword} {te ta:TE} {t tk:TA} {nm:Option Str}
def WG:PK X [] AC:=λ_ _ _ _ H Q I h=>wpAny_evalAll_nil ⟨[],H,I,.nil,h⟩
def WH (c:PE X e te) (d:PK X kws t):PK X (⟨nm,e,kpos⟩::kws) (AB te t):=by
 intro pos a s b H Q I h;show wpAny _ _ (evalAll ((do let v <-eval e X.env;standAt pos;pure v)::(backToKw pos (keywordEach kws X.env)).map (·.2))) _ _ s;refine wpAny_evalAll_cons (mJ (F_ (c a s b H _ I h) λu g ⟨x,i,j,n,q⟩=>mJ (wpAny_standAt (mK ?_))));exact F_ (d pos a g b i _ j q) λB D ⟨r,w,y,z,A⟩=>⟨x::r,w,y,.cons n z,A⟩
variable {g:dh->dh->dh} {gV:d7->d7->d7}
end
structure FnScope (N P:dw) (sc:Scope):Prop where
 kind:sc.kind=.function
 co:sc.isCoroutine=false
 gen:sc.isGenerator=false
 nd:N.Nodup
 pre:N.take P.length=P
 par:∀ x∈P,sc.names.lookup x=some .local\/sc.names.lookup x=some .cell
 nofree:∀ y∈sc.names,y.2≠.free
theorem Om {kindOf:Str->Option NameKind} {x:Str}:∀ {a:List (Str×Value)} {m:dq},(∀ v,(x,v)∉a)->bindL kindOf a m x=m x
 | [],_,_=>rfl
 | (n,v)::r,m,h=>by
   unfold bindL;rw [Om λw b=>h w (CQ _ b)];split
   ·have:x≠n:=by rintro rfl;exact h v CD
    simp [this]
   ·rfl
theorem On {kindOf:Str->Option NameKind} {x:Str}:∀ {a:List (Str×Value)} {m:dq},(∀ v,(x,v)∉a)->bindC kindOf a m x=m x
 | [],_,_=>rfl
 | (n,v)::r,m,h=>by
   unfold bindC;rw [On λw b=>h w (CQ _ b)];split
   ·rfl
   ·have:x≠n:=by rintro rfl;exact h v CD
    simp [this]
theorem Oo {kindOf:Str->Option NameKind} {x:Str} {v:Value}:∀ {P:dw} {a:dh} {i:Nat} {m:dq},P.Nodup->P[i]?=some x->a[i]?=some v->kindOf x=some .local->
  bindL kindOf (P.zip a) m x=some v
 | [],_,_,_,_,h,_,_=>by simp at h
 | _::_,[],_,_,_,_,h,_=>by simp at h
 | p::P,w::a,0,m,d,b,c,hk=>by
   simp at b c;subst b;subst c;show bindL kindOf ((p,w)::P.zip a) m p=_;unfold bindL;rw [Om λv e=>(List.nodup_cons.mp d).1 (List.of_mem_zip e).1,mF hk];simp
 | p::P,w::a,i+1,m,d,b,c,hk=>by
   show bindL kindOf ((p,w)::P.zip a) m x=_;unfold bindL;exact Oo (i:=i) (List.nodup_cons.mp d).2 (by simpa using b) (by simpa using c) hk
theorem Op {kindOf:Str->Option NameKind} {x:Str} {v:Value}:∀ {P:dw} {a:dh} {i:Nat} {m:dq},P.Nodup->P[i]?=some x->a[i]?=some v->kindOf x≠some .local->
  bindC kindOf (P.zip a) m x=some v
 | [],_,_,_,_,h,_,_=>by simp at h
 | _::_,[],_,_,_,_,h,_=>by simp at h
 | p::P,w::a,0,m,d,b,c,hk=>by
   simp at b c;subst b;subst c;show bindC kindOf ((p,w)::P.zip a) m p=_;unfold bindC;rw [On λv e=>(List.nodup_cons.mp d).1 (List.of_mem_zip e).1,mE hk];simp
 | p::P,w::a,i+1,m,d,b,c,hk=>by
   show bindC kindOf ((p,w)::P.zip a) m x=_;unfold bindC;exact Op (i:=i) (List.nodup_cons.mp d).2 (by simpa using b) (by simpa using c) hk
noncomputable def start (N:dw) (a:d7):St:=a.map some++List.replicate (N.length - a.length) none
noncomputable def GW (CX:aM) (P:Program) (w:World) (K:W.Frag) (i:dq) (d:Heap) (N:dw) (c:Str) (a:Scope) (f:Addr) (h:Value) (A:Around) (b:List Env) (s:Shared) (H:Hp) (E:XK):Cx where
 prog:=P
 w:=w
 K:=K
 mg:=i
 base:=d
 A:=A.deeper (envOfC c a s.heap.objs.size f h)
 N:=N
 s₀:=s
 H₀:=H
 env:=envOfC c a s.heap.objs.size f h
 outer:=b
 stack:=envOfC c a s.heap.objs.size f h::b
 ex:=[]
 calm:=true
 fn:=λ_=>true
 pn:=[]
 xe:=λe j=>wpAny (model P w) (A.deeper (envOfC c a s.heap.objs.size f h)) (leaving (envOfC c a s.heap.objs.size f h) e) (λ_ g=>CX b H s E e g) (λk g=>CX b H s E k g) j
def Oq {a:Scope} {n:Nat} {x:Str} (h:a.names.lookup x=some .cell):∃ c,(cellsFrom n a.names []).lookup x=some c:=by
 have q:=W.cellsFrom_some a.names n [] (.inl h);exact Option.isSome_iff_exists.mp q
def WI {CX:aM} {P:Program} {w:World} {K:W.Frag} {O:dq} {B:Heap} {N ps:dw} {g:Str} {d:Scope} {f:Addr} {G:Value} {A:Around} {m:List Env} {s T:Shared} {H:Hp} {E:XK} {Q:dh} {C:d7}
  (S:FnScope N ps d) (X:A.handled=none) (R:(A.deeper (envOfC g d s.heap.objs.size f G)).depth+Builtin.pylongFrames<recursionLimit) (j:Env0 P w K O B A m s H) (hl:C.length=ps.length) (r:Vals C Q)
  (x:InCallC s s.heap.objs.size (bindL (envOfC g d s.heap.objs.size f G).kindOf (ps.zip Q) λ_=>none) (cellsFrom (s.heap.objs.size+1) d.names []) (bindC (envOfC g d s.heap.objs.size f G).kindOf (ps.zip Q) λ_=>none) T) :
  Inv (GW CX P w K O B N g d f G A m s H E) [] (start N C) H T:=by
 have Y:ps.length<=N.length:=by have:=congrArg List.length S.pre;rw [CB] at this;omega
 obtain ⟨L,tk,rfl,hk⟩:=x.done;have D:∀ b:Addr,b∉(GW CX P w K O B N g d f G A m s H E).ex:=λb z=>absurd (show b∈([]:dE) from z) (by simp)
 refine ⟨⟨j.mod,S.kind,rfl,rfl,AM _,λy z c L o=>?_,λy F=>?_,λy c _ h=>?_,λ_=>X,Around.frames_deeper j.frames,.inr ⟨rfl,rfl⟩,λb z=>absurd z (D b),j.bs,j.bsz,λb _ _=>D b,λb z=>absurd z (D b),j.funs,j.frf,j.seer,j.tree,λs' I=>PySem.PylongRoom.of (j.mod.nolimit.keeps I) R (PySem.SeerAt.of (j.seer.keeps I) j.tree (Around.frames_deeper j.frames) S.gen S.co rfl rfl)⟩,
  rfl,j.bare,Un.kept hk,⟨_,x.toInCall.ns,λi y v L o h3=>?_⟩,λy c h=>⟨_,x.cell y c h⟩,j.hok.fresh (AM _),λy c h=>?_,λp hp=>absurd (show p∈([]:dl) from hp) (by simp),j.hok.kept hk,?_⟩
 ·exact name_of_addr x.apart (PySem.mem_of_lookup L) (PySem.mem_of_lookup o)
 ·have F:d.names.lookup y=some .cell\/d.names.lookup y=some .free:=F;rcases F with F | F
  ·exact Oq F
  ·exact absurd rfl (S.nofree _ (PySem.mem_of_lookup F))
 ·exact CP (x.above y c (PySem.mem_of_lookup h))
 ·have M:i<C.length:=by
   unfold start at o;by_cases M:i<C.length
   ·exact M
   ·rw [Dw (by simpa using M)] at o;rw [Dx] at o;split at o <;> cases o
  have Z:C[i]?=some v:=by
   unfold start at o;rw [Es (by simpa using M),Aj] at o;cases e:C[i]? with
   | none=>rw [e] at o;cases o
   | some a=>rw [e] at o;cases o;rfl
  obtain ⟨u,U,rv⟩:=r.get Z
  have hp:ps[i]?=some y:=by
   rw [<-S.pre,List.getElem?_take_of_lt ⋯];exact L
  have J:ps.Nodup:=by rw [<-S.pre];exact S.nd.sublist (List.take_sublist _ _)
  refine ⟨u,rv,?_⟩;rcases S.par y (Bg hp) with k | k
  ·exact .inl ⟨k,Oo J hp U k⟩
  ·obtain ⟨c,e⟩:=Oq (n:=s.heap.objs.size+1) k;refine .inr ⟨.inl k,c,e,?_⟩;have q:=x.cell y c e;rw [Op J hp U (by show d.names.lookup y≠_;rw [k];decide)] at q;exact q
 ·exact j.hok.fresh (CP (x.above y c (PySem.mem_of_lookup h)))
 ·unfold start;show _=N.length;rw [Cr,AO,Df];omega
theorem WJ {CX:aM} {P:Program} {w:World} {K:W.Frag} {O:dq} {h:Heap} {k:Nat} {f:Addr} {name d:Str} {i:Arguments} {j:List Stmt} {a:Scope} {dV kV F pm g ct oc:Value} {an od:Option Addr}
  {T:Array (dC)} {N ps:dw} {sp:Sp} (lk:K.lookup f=some ⟨oc,od,.func (W.fnOf name d i j a dV kV F pm an g ct),T⟩) (U:W.codeIn K g d=true) (S:FnScope N ps a)
  (len:∀ m H Q E,sp m H Q E->m.length=ps.length)
  (B:∀ (A:Around) (c:List Env) (s:Shared) (H:Hp) (m:d7) (Q:VK) (E:XK),Room k (A.deeper (envOfC d a s.heap.objs.size f g))->sp m H Q E->
   ∃ t,PSs (GW CX P w K O h N d a f g A c s H E) j t/\t { nx:=λ_ z=>Q .non z,rt:=Q } (start N m) H) :
  FnOk P w K O h CX (k+1) f (W.fnOf name d i j a dV kV F pm an g ct) ps sp:=by
 refine ⟨len,λA c s H a0 us m Q E R G hb r L=>?_⟩;have hl:=len _ _ _ _ L;have KX:K.In s.heap:=G.mod.kin.keeps λb o e=>(G.bs b o e).1;have X:s.heap.NoLimit:=G.mod.nolimit.keeps λb o e=>(G.bs b o e).1
 have C:∀ y∈ps.zip us,a.names.lookup y.1=some .local\/(a.names.lookup y.1=some .cell/\((cellsFrom (s.heap.objs.size+1) a.names []).lookup y.1).isSome=true):=λ⟨n,v⟩ hy=>by
  rcases S.par n (List.of_mem_zip hy).1 with q | q
  ·exact .inl q
  ·exact .inr ⟨q,W.cellsFrom_some _ _ _ (.inl q)⟩
 refine codeAny_call_function R.depth (KX _ _ lk) rfl S.co S.gen rfl (W.codeRec_of KX U) (hb _ _ _ _ ?_);refine wpAny_newFunctionEnv_cells S.kind C λa1 he s1 x=>?_;subst he;refine ⟨X.keeps x.toInCall.keep,codeAny_func ?_⟩;obtain ⟨t,ht,hq⟩:=B A c s H m Q E (R.deeper _) L;have I:Inv (GW CX P w K O h N d a f g A c s H E) [] (start N m) H s1:=WI S R.hd (by have:=(R.deeper (envOfC d a s.heap.objs.size f g)).dp;show _+100<_;omega) G hl r x;refine mM (ht [] s1 (start N m) H _ I hq) (λfl Y D=>?_) λe Y D=>D
 have M:∀ {p:St} {z:Hp} {v:V} {u:Value},Inv (GW CX P w K O h N d a f g A c s H E) [] p z Y->RelV v u->Q v z->CE c P w H s Q u Y:=
  λ{p z v u} J Z q=>⟨v,z,J.os,J.bare,J.base,J.hok,Z,q⟩
 cases fl with
 | ret u=>
   obtain ⟨v,p,z,J,Z,q⟩:=D;exact M J Z q
 | next=>
   obtain ⟨p,z,J,q⟩:=D;exact M (v:=V.non) (u:=Value.none) J rfl q
 | brk=>
   obtain ⟨_,_,_,q⟩:=D;exact False.elim q
 | cont=>
   obtain ⟨_,_,_,q⟩:=D;exact False.elim q
section
variable {X:Cx} {x:Str} {p pos:Pos} {e:Expr} {es:du} {t:TA} {id T:String} {r:d7->Hp->VK->Prop}
def G_ (r:d7->Hp->VK->Prop) (t:TA):TE:=λa H Q=>t a H λb c=>r b c Q
def Ap (f:CL X (.builtin id) r) (g:Gl X x) (i:X.mg x=none) (j:bootBuiltins x=some (.builtin id)) (k:PA X (e::es) t) (m:x ≠ "__name__" := by decide) (b:(x == ("__debug__" : Str))=false:=by decide)
  (n:starEach (e::es) X.env=(false,eval e X.env)::starEach es X.env:=by rfl) (c:(backTo pos (starEach es X.env)).any (·.1)=false:=by rfl):PE X (.Call (.Name x p) (e::es) [] pos) (G_ r t):=by
 intro a s d H Q I h;refine wpAny_Call_Name_kw (EV I g i j ?_ m b);exact PyProof.Rows.callWith_builtin1 (F_ (k pos a s d H _ I h) λo q ⟨u,v,w,y,z⟩=>f a q d v u o Q w y z) n c
def Dk (f:CL X (.type T) r) (g:Gl X x) (i:X.mg x=none) (j:bootBuiltins x=some (.type T)) (k:PA X (e::es) t) (m:x ≠ "__name__" := by decide) (b:(x == ("__debug__" : Str))=false:=by decide)
  (n:starEach (e::es) X.env=(false,eval e X.env)::starEach es X.env:=by rfl) (c:(backTo pos (starEach es X.env)).any (·.1)=false:=by rfl):PE X (.Call (.Name x p) (e::es) [] pos) (G_ r t):=by
 intro a s d H Q I h;refine wpAny_Call_Name_kw (EV I g i j ?_ m b);exact PyProof.Rows.callWith_type1 (F_ (k pos a s d H _ I h) λo q ⟨u,v,w,y,z⟩=>f a q d v u o Q w y z) n c
end
end L2
namespace HT
open PySem PyProof.Rows
section
variable {prog:Program} {w:World} {A:Around} {E:dj} {s:Shared}
def cat_tup {t b:Addr} {d a:dh} {Q:dj} (B:IsTup s.heap t d.toArray) (C:IsTup s.heap b a.toArray) (p:d≠[])
  (D:a=[]->Q (.ref t) s) (F:a≠[]->Q (.ref s.heap.objs.size) { s with heap:=s.heap.push { cls:=.type "tuple", data:=.seq (d++a).toArray } })
  (hsz:d.length+a.length<=sizeLine):wpAny (model prog w) A (binaryOp .Add (.ref t) (.ref b)) Q E s:=by
 obtain ⟨⟨o,r,f,u⟩,k,v,n,x⟩:=id B;obtain ⟨⟨y,g,data2,h⟩,c,i,z,j⟩:=id C;simp only at v x i j;subst v x i j;have e:d.toArray++a.toArray=(d++a).toArray:=by simp
 by_cases m:a=[]
 ·exact concat_meets ⟨_,k,rfl⟩ ⟨_,c,rfl⟩ noFill_tuple_add seq_tuple_add PySem.F.slot_tuple_add PySem.F.entry_tuple_add (PySem.F.args_tuple_add_2 _ _)
   (tuple_addW1 t b d.toArray a.toArray n z r g u h (by simpa using p) (by simp [m])) ⟨k,c,D m⟩
 ·refine concat_meets ⟨_,k,rfl⟩ ⟨_,c,rfl⟩ noFill_tuple_add seq_tuple_add PySem.F.slot_tuple_add PySem.F.entry_tuple_add (PySem.F.args_tuple_add_2 _ _)
   (tuple_addW2 t b d.toArray a.toArray n z r g u h (by simpa using p) (by simpa using m) (by rw [A9,A9];exact hsz)) ⟨k,c,?_⟩
  rw [e];exact F m
noncomputable def sIx (n d:Nat):Option Int->Nat
 | none=>d
 | some v=>if v<0 then (v+(n:Int)).toNat else min v.toNat n
theorem WK (n d:Nat) (b:d<=n) (o:Option Int):sIx n d o<=n:=by
 cases o with
 | none=>exact b
 | some v=>
   show (if v<0 then (v+(n:Int)).toNat else min v.toNat n)<=n;by_cases a:v<0
   ·rw [mF a];omega
   ·rw [mE a];exact Nat.min_le_right _ _
def Os (v:Int) (n d:Nat):(if v<0 then max (v+(n:Int)) 0 else min v (n:Int))=((sIx n d (some v):Nat):Int):=by
 show (if v<0 then max (v+(n:Int)) 0 else min v (n:Int))=(((if v<0 then (v+(n:Int)).toNat else min v.toNat n):Nat):Int);by_cases a:v<0
 ·simp only [mF a];omega
 ·simp only [mE a];omega
def WL (lo a:Option Int) (n:Nat):Builtin.Slice.sliceAdjust lo a 1 (n:Int)=(((sIx n 0 lo:Nat):Int),((sIx n n a:Nat):Int)):=by
 have b:¬ ((1:Int)<0):=by omega
 unfold Builtin.Slice.sliceAdjust;simp only [b,if_false];refine Prod.ext ?_ ?_
 ·cases lo with
  | none=>rfl
  | some v=>exact Os v n 0
 ·cases a with
  | none=>rfl
  | some v=>exact Os v n n
def WM (i j:Nat):Builtin.Slice.slicePlaces (i:Int) (j:Int) 1=j - i:=by
 unfold Builtin.Slice.slicePlaces;have a:(1:Int) > 0:=by omega
 simp only [a,if_true,Int.ediv_one];split <;> omega
theorem Jm {v:Value} {o:Option Int} {Q:Option Int->Shared->Prop} (p:IsPart v o) (h:Q o s):wpAny (model prog w) A (Builtin.Slice.slicePartIndex v) Q E s:=by
 cases p with
 | none=>exact slicePart_none h
 | int i t=>exact slicePart_int h
def Ot {f:Addr} {d e:Value} {lo a:Option Int} {n:Nat} {Q:Int×Int×Nat->Shared->Prop} (g:s.heap.IsSliceOf f d e .none) (i:IsPart d lo) (pu:IsPart e a)
  (h:Q (((sIx n 0 lo:Nat):Int),1,sIx n n a - sIx n 0 lo) s):wpAny (model prog w) A (Builtin.Slice.sliceApplied (.ref f) (pure (n:Int))) Q E s:=by
 obtain ⟨os,b,j,c⟩:=id g;unfold Builtin.Slice.sliceApplied Builtin.Slice.sliceFields;refine mJ (mJ (wpAny_field b c (x:=d) rfl (mJ (wpAny_field b c (x:=e) rfl (mJ (wpAny_field b c (x:=.none) rfl (mK ?_)))))));refine mJ (slicePart_none ?_);show wpAny _ _ (if ((1:Int) == 0)=true then _ else _) _ _ s;rw [mE ∅];refine mJ (Jm i (mJ (Jm pu (mJ (mK ?_)))));show wpAny _ _ (match Builtin.Slice.sliceAdjust lo a 1 (n:Int) with | (lo,a)=>pure (lo,(1:Int),Builtin.Slice.slicePlaces lo a 1)) _ _ s;rw [WL lo a n];show wpAny _ _ (pure (((sIx n 0 lo:Nat):Int),(1:Int),Builtin.Slice.slicePlaces ((sIx n 0 lo:Nat):Int) ((sIx n n a:Nat):Int) 1)) _ _ s;rw [WM];exact mK h
def WN (xs:Array Value) (i k:Nat):((List.range k).filterMap λ(m:Nat)=>xs[((i:Int)+(m:Int)*1).toNat]?).toArray=((xs.toList.drop i).take k).toArray:=by
 have e:(λ(m:Nat)=>xs[((i:Int)+(m:Int)*1).toNat]?)=λm=>xs[i+m]?:=by
  funext m;have:((i:Int)+(m:Int)*1).toNat=i+m:=by omega
  rw [this]
 rw [e];have:=pick_run xs i k;rw [List.filterMap_map] at this;have a:((λx=>xs[x]?) ∘ λx=>i+x)=λm=>xs[i+m]?:=rfl;rw [a] at this;rw [this]
def getItem_tuple_cut {t e:Addr} {a:Array Value} {k n:Value} {lo c:Option Int} {Q:dj} (d:IsTup s.heap t a) (o:s.heap.IsSliceOf e k n .none) (u:IsPart k lo) (pu:IsPart n c)
  (v:¬ (sIx a.size 0 lo=0/\sIx a.size a.size c=a.size))
  (h:Q (.ref s.heap.objs.size) { s with heap:=s.heap.push { cls:=.type "tuple", data:=.seq ((a.toList.drop (sIx a.size 0 lo)).take (sIx a.size a.size c - sIx a.size 0 lo)).toArray } })
  (hsz:a.size<=sizeLine):wpAny (model prog w) A (getItem (.ref t) (.ref e)) Q E s:=by
 have b:sizeOk (.seq ((a.toList.drop (sIx a.size 0 lo)).take (sIx a.size a.size c - sIx a.size 0 lo)).toArray):=by
  show ((a.toList.drop (sIx a.size 0 lo)).take (sIx a.size a.size c - sIx a.size 0 lo)).toArray.size<=sizeLine;rw [A9,CB,List.length_drop,Array.length_toList];omega
 have z:sIx a.size a.size c<=a.size:=WK _ _ (AM _) c;obtain ⟨os,f,g,y⟩:=id o;have i:s.TypeIs (.ref e) "slice" := ⟨os,f,g⟩;unfold getItem
 try with_reducible refine wpAny_holding ?_
 first | refine mJ (mK ?_) | skip
 refine mJ (wpAny_sequenceKey d.typeIs ∅ ?_)
 refine mJ (wpAny_callSpecial?_slot (name:=Str.ofString "__getitem__") d.typeIs PyProof.Rows.slot_tuple_getitem
  (wpAny_call_entry PyProof.Rows.slot_tuple_getitem d.typeIs entry_tuple_getitem ?_ (args_tuple_getitem _ _)))
 show wpAny _ _ (Builtin.Tuple.tupleItemsOf (.ref t) >>= _) _ _ s;refine mJ (tupleItemsOf_ d ?_);refine mJ (wpAny_typeOf i ?_);rw [mF ∅];refine mJ (Ot o u pu ?_)
 have j:¬ ((((sIx a.size 0 lo:Nat):Int) == 0 && (1:Int) == 1 && (sIx a.size a.size c - sIx a.size 0 lo) == a.size)=true):=by
  intro q;rw [C9,C9] at q;have B:((sIx a.size 0 lo:Nat):Int)=0:=eq_of_beq q.1.1;have C:sIx a.size a.size c - sIx a.size 0 lo=a.size:=eq_of_beq q.2;exact v ⟨⋯,⋯⟩
 show wpAny _ _ (if (((sIx a.size 0 lo:Nat):Int) == 0 && (1:Int) == 1 && (sIx a.size a.size c - sIx a.size 0 lo) == a.size)=true then _ else _) _ _ s;rw [mE j,WN]
 first
  | exact mJ (m:=Builtin.Tuple.tupleExact _) (wpAny_newObj_type (mK ⟨_,rfl,mK h⟩) b)
  | exact mJ (m:=Builtin.Tuple.tupleExact _) (wpAny_newObj_type (mJ (mK (mK ⟨_,rfl,mK h⟩))) b)
  | exact mJ (mJ (m:=Builtin.Tuple.tupleExact _) (wpAny_newObj_type (mK (mK ⟨_,rfl,mK h⟩)) b))
  | exact mJ (mJ (m:=Builtin.Tuple.tupleExact _) (wpAny_newObj_type (mK ⟨_,rfl,mK h⟩) b))
end
end HT
namespace L2
open PySem PySem.Spec PyProof.Rows
noncomputable abbrev TO:=St->Hp->(Option Int->Hp->Prop)->Prop
def PO (X:Cx) (e:Option Expr) (t:TO):Prop:=
 ∀ (a:dl) (s:Shared) (b:St) (H:Hp) (Q:Option Int->Hp->Prop),Inv X a b H s->t b H Q->
   wpAny (model X.prog X.w) X.A (evalPart e X.env) (λu d=>∃ o c,Inv X a b c d/\IsPart u o/\Q o c) X.xe s
noncomputable def FW:TO:=λ_ H Q=>Q none H
noncomputable def Ec (t:TE):TO:=λa H Q=>t a H λx b=>∃ i,x=.int i/\Q (some i) b
section
variable {X:Cx} {e:Expr} {te:TE} {lo hi:Option Expr} {tl th:TO} {pos p2:Pos}
def HI:PO X none FW:=by
 intro a s b H Q I h;rw [evalPart_none];exact mK ⟨none,H,I,.none,h⟩
def FX (h:PE X e te):PO X (some e) (Ec te):=by
 intro a s b H Q I c;rw [evalPart_some];refine F_ (h a s b H _ I c) λu k ⟨x,d,f,g,j⟩=>?_;obtain ⟨i,rfl,q⟩:=j;obtain ⟨t,rfl⟩:=g;exact ⟨some i,d,f,.int i t,q⟩
def bT (X:Cx) (r:V->Option Int->Option Int->Hp->VK->Prop):Prop:=
 ∀ (a:dl) (s:Shared) (b:St) (H:Hp) (x:V) (v c d:Value) (lo hi:Option Int) (f:Addr) (Q:VK),Inv X a b H s->RelV x v->s.heap.IsSliceOf f c d .none->IsPart c lo->IsPart d hi->r x lo hi H Q->
   ∃ T id,typeLookup (.type T) "__getitem__" = pure (some (.builtin id))/\s.TypeIs v T/\wpAny (model X.prog X.w) X.A (getItem v (.ref f)) (EP X a b Q) X.xe s
def aV (r:V->Option Int->Option Int->Hp->VK->Prop) (te:TE) (tl th:TO):TE:=λa H Q=>te a H λx b=>tl a b λl c=>th a c λu d=>r x l u d Q
def HJ {r:V->Option Int->Option Int->Hp->VK->Prop} (n:bT X r) (o:PE X e te) (p:PO X lo tl) (w:PO X hi th):PE X (.Subscript e (.Slice lo hi none p2) pos) (aV r te tl th):=by
 intro a s g H Q I h;refine Subscript_ (F_ (o a s g H _ I h) λv y ⟨x,z,A,B,C⟩=>?_);refine wpAny_Slice (F_ (p a y g z _ A C) λj D ⟨l,E,F,G,J⟩=>F_ (w a D g E _ F J) λk c ⟨u,m,K,pu,L⟩=>?_);rw [evalPart_none];refine mK ?_;have M:Inv X a g m { c with heap:=c.heap.push { cls:=.type "slice", data:=.fields #[j,k,.none] } }:=K.kept (t':=c.toks) λb R q=>Heap.get?_push_of_some _ q;obtain ⟨T,id,N,O,P⟩:=n a { c with heap:=c.heap.push { cls:=.type "slice", data:=.fields #[j,k,.none] } } g m x v j k l u c.heap.objs.size Q M B (Heap.IsSliceOf.new ..) G pu L;show wpAny (model X.prog X.w) X.A (subscriptTail e (.Slice lo hi none p2) v (.ref c.heap.objs.size)) (EP X a g Q) X.xe { c with heap:=c.heap.push { cls:=.type "slice", data:=.fields #[j,k,.none] } };exact tail_any (ops:=[.ref c.heap.objs.size,v]) O N P (by with_unfolding_all rfl)
noncomputable def Bu (xs:d7) (lo hi:Option Int):d7:=(xs.drop (HT.sIx xs.length 0 lo)).take (HT.sIx xs.length xs.length hi - HT.sIx xs.length 0 lo)
def Ou (xs:d7) (lo hi:Option Int):(Bu xs lo hi).length<=xs.length:=by
 unfold Bu;rw [CB,List.length_drop];omega
def WO (K:W.Frag):V->Option Int->Option Int->Hp->VK->Prop:=λx lo hi H Q=>∃ a b,x=.ref a/\SqT K H a b/\
 ¬ (HT.sIx b.length 0 lo=0/\HT.sIx b.length b.length hi=b.length)/\∀ p,H p=none->Q (.ref p) (upd H p (.tup (Bu b lo hi)))
def WP:bT X (WO X.K):=by
 intro g s w H x v y z lo hi A Q I k m n pu h;obtain ⟨a,d,rfl,p,u,q⟩:=h;cases k;obtain ⟨f,r,i,j⟩:=I.tuple p;have c:f.toArray.size=d.length:=by rw [A9];exact r.length.symm
 refine ⟨"tuple", _,PyProof.Rows.slot_tuple_getitem.lookup,i.typeIs,?_⟩;refine HT.getItem_tuple_cut i m n pu (by rw [c];exact u) ?_ (by rw [c];exact j);rw [c];refine ⟨.ref s.heap.objs.size,_,I.laid (t':=s.toks) (o:=.tup (Bu d lo hi)) (λb B q=>Heap.get?_push_of_some _ q) (AM _) ?_,rfl,q _ (I.hok.fresh (AM _))⟩;exact ⟨A7 (Ou d lo hi) j,_,(r.drop (HT.sIx d.length 0 lo)).take (HT.sIx d.length d.length hi - HT.sIx d.length 0 lo),IsTup.new _ _⟩
def Ld (K:W.Frag):R2:=λx y H Q=>∃ a b d c,x=.ref a/\y=.ref b/\SqT K H a d/\SqT K H b c/\d≠[]/\d.length+c.length<=sizeLine/\
 (c=[]->Q (.ref a) H)/\(c≠[]->∀ p,H p=none->Q (.ref p) (upd H p (.tup (d++c))))
theorem Vals.nil_iff {xs:d7} {a:dh} (r:Vals xs a):a=[]↔xs=[]:=by
 cases r with
 | nil=>simp
 | cons _ _=>simp
def Ow:OpR X (binaryOp .Add) (Ld X.K):=by
 intro f s F H x y v u Q I j k h;obtain ⟨a,b,m,n,rfl,rfl,p,r,A,g,B,C⟩:=h;cases j;cases k;obtain ⟨D,d,E,_⟩:=I.tuple p;obtain ⟨i,c,p2,_⟩:=I.tuple r;refine HT.cat_tup E p2 (λz=>A (d.nil_iff.mp z)) (λz=>⟨.ref a,H,I,rfl,B (c.nil_iff.mp z)⟩) (λz=>?_) (by rw [<-d.length,<-c.length];exact g);refine ⟨.ref s.heap.objs.size,_,I.laid (t':=s.toks) (o:=.tup (m++n)) (λb G q=>Heap.get?_push_of_some _ q) (AM _) ?_,rfl,C (λw=>z (c.nil_iff.mpr w)) _ (I.hok.fresh (AM _))⟩;exact ⟨by rw [Cr];exact g,_,d.append c,IsTup.new _ _⟩
end
noncomputable def aq (n:Nat) (i:Int):Option Nat:=if 0<=i then (if i<n then some i.toNat else none) else if -(n:Int)<=i then some (i+n).toNat else none
noncomputable def N_ {a:Type} (xs:List a) (i:Int):Option a:=(aq xs.length i).bind λj=>xs[j]?
def Ox {n:Nat} {i:Int} {j:Nat} (h:aq n i=some j):seqIndex? i n=some j/\j<n/\-(n:Int)<=i/\i<n:=by
 unfold aq at h;by_cases b:0<=i
 ·rw [mF b] at h;by_cases a:i<n
  ·rw [mF a] at h;have e:i.toNat=j:=mO h;exact ⟨by rw [seqIndex_of b a,e],⋯,⋯,a⟩
  ·rw [mE a] at h;cases h
 ·rw [mE b] at h;by_cases a:-(n:Int)<=i
  ·rw [mF a] at h;have e:(i+n).toNat=j:=mO h;exact ⟨by rw [seqIndex_neg ⋯ a,e],⋯,a,⋯⟩
  ·rw [mE a] at h;cases h
theorem Le {a:Type} {xs:List a} {i:Int} {v:a} (h:N_ xs i=some v):∃ j,seqIndex? i xs.length=some j/\xs[j]?=some v/\j<xs.length/\-(xs.length:Int)<=i/\i<xs.length:=by
 unfold N_ at h;cases e:aq xs.length i with
 | none=>rw [e] at h;cases h
 | some j=>
   rw [e] at h;obtain ⟨b,c,d,f⟩:=Ox e;exact ⟨j,b,h,c,d,f⟩
def IK {a:Type} {xs:List a} {j:Nat} {v:a} (h:xs[j]?=some v):N_ xs (j:Int)=some v:=by
 have b:j<xs.length:=(By.mp h).1
 have e:aq xs.length (j:Int)=some j:=by
  unfold aq;rw [mF ⋯,mF ⋯];simp
 unfold N_;rw [e];exact h
def WQ (b:Expr):Prop:=∀ o i,subscripted b false o i=operate [o,i] (getItem o i)
def a_ (X:Cx) (r:R2):Prop:=
 ∀ (c a:Expr) (b:dl) (s:Shared) (d:St) (H:Hp) (x y:V) (v u:Value) (Q:VK),Inv X b d H s->RelV x v->RelV y u->r x y H Q->
   subscripted a false v u=operate [v,u] (getItem v u)->wpAny (model X.prog X.w) X.A (subscriptTail c a v u) (EP X b d Q) X.xe s
def MtR (X:Cx) (id:String) (r:V->d7->Hp->VK->Prop):Prop:=
 ∀ (a:dl) (s:Shared) (b:St) (H:Hp) (x:V) (c:d7) (v:Value) (d:dh) (Q:VK),Inv X a b H s->RelV x v->Vals c d->r x c H Q->
   wpAny (model X.prog X.w) X.A (call (.builtin id) (v::d)) (EP X a b Q) X.xe s
section
variable {X:Cx} {a b:Expr} {ta tb:TE} {pos:Pos}
def BR {r:R2} (d:a_ X r) (e:PE X a ta) (f:PE X b tb) (g:WQ b):PE X (.Subscript a b pos) (A_ r ta tb):=by
 intro c s i H Q I h;exact Subscript_ (La e f I h λv u j x y k m n o q=>d a b c j i k x y v u Q m n o q (g _ _))
def WR (K:W.Frag):R2:=λx y H Q=>∃ p c i v,x=.ref p/\y=.int i/\SqL K H p c/\N_ c i=some v/\Q v H
def WS (K:W.Frag):R2:=λx y H Q=>∃ p c i v,x=.ref p/\y=.int i/\SqT K H p c/\N_ c i=some v/\Q v H
def Oy:a_ X (WR X.K):=by
 intro f g c s o H x y v u Q I D E h A;obtain ⟨p,O,i,z,rfl,rfl,F,G,q⟩:=h;cases D;obtain ⟨t,rfl⟩:=E;obtain ⟨k,r,m,P⟩:=I.list F;obtain ⟨j,e,J,R,K,L⟩:=Le G;obtain ⟨w,B,rw'⟩:=r.get J;have M:=r.length;have S:=HH;have d:EP X c o Q w s:=⟨z,H,I,rw',q⟩;by_cases C:0<=i
 ·have n:i.toNat=j:=by
   rw [seqIndex_of C L] at e;exact mO e
  exact item_listR m.isList C ⋯ (by rw [n];simpa using B) d A
 ·have n:(i+(k.toArray.size:Int)).toNat=j:=by
   rw [seqIndex_neg ⋯ K] at e;rw [A9,<-M];exact mO e
  exact subscriptTail_builtinR (x:=w) m.isList.typeIs slot_list_getitem.lookup
   (wpAny_getItem_list_neg (Q:=λr N=>r=w/\EP X c o Q r N) m.isList ⋯ (by rw [A9] <;> omega) ⋯ (by rw [n];simpa using B) ⟨rfl,d⟩) A
def Oz:a_ X (WS X.K):=by
 intro d e c s g H x y v u Q I m n h o;obtain ⟨p,K,i,z,rfl,rfl,A,B,q⟩:=h;cases m;obtain ⟨t,rfl⟩:=n;obtain ⟨C,r,k,L⟩:=I.tuple A;obtain ⟨j,D,E,M,N,O⟩:=Le B;obtain ⟨w,F,rw'⟩:=r.get E;have G:=r.length;have P:=HH;have f:EP X c g Q w s:=⟨z,H,I,rw',q⟩
 exact subscriptTail_builtinR (x:=w) k.typeIs slot_tuple_getitem.lookup
  (getItem_tuple (j:=j) (Q:=λr J=>r=w/\EP X c g Q r J) k ⋯ ⋯ (by rw [A9,<-G];exact D) (by simpa using F) ⟨rfl,f⟩) o
def WT (its:dh) (n j:Nat) (u:Value):Obj.mapSeq (·.setIfInBounds j u) { cls:=.type "list", data:=.seq its.toArray n }={ cls:=.type "list", data:=.seq (its.set j u).toArray n }:=by
 simp [Obj.mapSeq]
def Inv.lst {c:dl} {d:St} {H:Hp} {s:Shared} {p:Addr} {xs:d7} (I:Inv X c d H s) (h:H p=some (.lst xs)) :
  ∃ (its:dh) (n:Nat),Vals xs its/\s.heap.get? p=some { cls:=.type "list", data:=.seq its.toArray n }/\xs.length<=sizeLine:=by
 obtain ⟨z,its,n,r,e⟩:=I.hok p _ h;exact ⟨its,n,r,e,z⟩
def Inv.lstUpd {c:dl} {g:St} {H:Hp} {s:Shared} {p:Addr} {xs ys:d7} {its its':dh} {n d:Nat} {f:Obj->Obj} (I:Inv X c g H s) (h:H p=some (.lst xs))
  (m:s.heap.get? p=some { cls:=.type "list", data:=.seq its.toArray n }) (i:f { cls:=.type "list", data:=.seq its.toArray n }={ cls:=.type "list", data:=.seq its'.toArray d }) (r:Vals ys its') (o:ys.length<=sizeLine) (t:Nat) :
  Inv X c g (upd H p (.lst ys)) { s with heap:=s.heap.update p f,toks:=t }:=by
 have e:(s.heap.update p f).get? p=some { cls:=.type "list", data:=.seq its'.toArray d }:=by
  rw [Heap.get?_update_self f m (by rw [i] <;> rfl),i]
 refine I.write (x:=p) (e:=p) (by rw [h];trivial) (.inl rfl) (λb u v q=>(Heap.get?_update_other _ _ (Ne.symm v)).trans q) ⟨_,e⟩ ?_;exact ⟨o,its',d,r,e⟩
def DU:V->V->V->Hp->(Hp->Prop)->Prop:=λo i v H Q=>∃ p c k j,o=.ref p/\i=.int k/\H p=some (.lst c)/\aq c.length k=some j/\Q (upd H p (.lst (c.set j v)))
def EB:bv X DU:=by
 intro c s A H o i v J K u Q I B C D h;obtain ⟨p,E,k,j,rfl,rfl,hp,F,q⟩:=h;cases B;obtain ⟨t,rfl⟩:=C;obtain ⟨d,n,r,f,G⟩:=I.lst hp;obtain ⟨e,L,m,w⟩:=Ox F;have g:=r.length;have M:=HH
 have x:Inv X c A (upd H p (.lst (E.set j v))) { s with heap:=s.heap.update p (Obj.mapSeq (·.setIfInBounds j u)) }:=
  I.lstUpd hp f (WT d n j u) (r.set D j) (by rw [List.length_set];exact G) s.toks
 by_cases z:0<=k
 ·have hk:k.toNat=j:=by
   rw [seqIndex_of z w] at e;exact mO e
  exact W.ki_setAt f z ⋯ (by rw [A9,<-g];exact w) (by rw [hk];exact ⟨_,x,q⟩)
 ·have hk:(k+(d.toArray.size:Int)).toNat=j:=by
   rw [seqIndex_neg ⋯ m] at e;rw [A9,<-g];exact mO e
  exact W.ki_setBack f ⋯ (by rw [A9,<-g];exact m) ⋯ (by rw [hk];exact ⟨_,x,q⟩)
def WU (lo c:Option Int) (n:Nat):(sliceBounds lo c none n).1=((HT.sIx n 0 lo:Nat):Int)/\(sliceBounds lo c none n).2.1=((HT.sIx n n c:Nat):Int)/\(sliceBounds lo c none n).2.2=1:=by
 refine ⟨?_,?_,rfl⟩
 ·cases lo with
  | none=>simp [sliceBounds,HT.sIx]
  | some i=>
    simp only [sliceBounds,HT.sIx,Option.getD_none,show (1:Int) > 0 by decide,if_true];by_cases h:i<0
    ·simp only [h,if_true] <;> omega
    ·simp only [h,if_false] <;> omega
 ·cases c with
  | none=>simp [sliceBounds,HT.sIx]
  | some i=>
    simp only [sliceBounds,HT.sIx,Option.getD_none,show (1:Int) > 0 by decide,if_true];by_cases h:i<0
    ·simp only [h,if_true] <;> omega
    ·simp only [h,if_false] <;> omega
def WV (its:dh) (lo c:Option Int):slicePick its.toArray lo c none=((its.drop (HT.sIx its.length 0 lo)).take (HT.sIx its.length its.length c - HT.sIx its.length 0 lo)).toArray:=by
 obtain ⟨d,e,f⟩:=WU lo c its.toArray.size;unfold slicePick;rw [d,e,f];simp only [sliceRange_one,pick_run,A9] <;> rfl
def WW (K:W.Frag):V->Option Int->Option Int->Hp->VK->Prop:=λx lo d H Q=>∃ a c,x=.ref a/\SqL K H a c/\∀ p,H p=none->Q (.ref p) (upd H p (.lst (Bu c lo d)))
def O0:bT X (WW X.K):=by
 intro f s u H x v w y lo e z Q I i j k pu h;obtain ⟨a,c,rfl,m,q⟩:=h;cases i;obtain ⟨n,r,g,p⟩:=I.list m;have d:=r.length;refine ⟨"list", _,slot_list_getitem.lookup,g.isList.typeIs,?_⟩;refine wpAny_getItem_list_slice g.isList j k pu .none (by simp) ?_ (by rw [A9] <;> omega);rw [WV,<-d];refine ⟨.ref s.heap.objs.size,_,I.laid (t':=s.toks) (o:=.lst (Bu c lo e)) (λb A q=>Heap.get?_push_of_some _ q) (AM _) ?_,rfl,q _ (I.hok.fresh (AM _))⟩;exact ⟨A7 (Ou c lo e) p,_,0,(r.drop (HT.sIx c.length 0 lo)).take (HT.sIx c.length c.length e - HT.sIx c.length 0 lo),Heap.get?_push_size _ rfl⟩
def Jo:CL X (.builtin "len") (λj H Q=>∃ p d,j=[.ref p]/\(SqL X.K H p d\/SqT X.K H p d)/\Q (.int d.length) H):=by
 intro k s o H j v Q I r h;obtain ⟨p,d,rfl,e,q⟩:=h;obtain ⟨u,rfl,m⟩:=Dj r;cases m;have w:=HH;rcases e with e | e
 ·obtain ⟨f,g,i,n⟩:=I.list e;have c:=g.length;exact Calls.call_len_list i.isList (by simp only [A9] <;> omega) ⟨.int d.length,H,I.tok _,⟨s.toks+1,by rw [A9,c]⟩,q⟩
 ·obtain ⟨f,g,i,n⟩:=I.tuple e;have c:=g.length;exact len_tuple i (by simp only [A9] <;> omega) ⟨.int d.length,H,I.tok _,⟨s.toks+1,by rw [A9,c]⟩,q⟩
def O3:CL X (.type "list") (λB H Q=>∃ p f,B=[.ref p]/\(SqL X.K H p f\/SqT X.K H p f)/\∀ l,H l=none->Q (.ref l) (upd H l (.lst f))):=by
 intro j s E H B G Q I r h;obtain ⟨p,f,rfl,k,q⟩:=h;obtain ⟨u,rfl,F⟩:=Dj r;cases F
 have m:∀ (c:dh),Vals f c->f.length<=sizeLine->∀ (d:Heap) (g:Nat),(∀ b C,s.heap.get? b=some C->d.get? b=some C)->
   d.get? s.heap.objs.size=some { cls:=.type "list", dict:=none,data:=.seq c.toArray g,slots:=#[] }->EP X j E Q (.ref s.heap.objs.size) { s with heap:=d }:=λc i v d g kp e=>
  ⟨.ref s.heap.objs.size,_,I.laid (t':=s.toks) kp (AM _) (show ObjOk X.prog X.w _ d _ (.lst f) from ⟨v,c,g,i,e⟩),rfl,q _ (I.hok.fresh (AM _))⟩
 rcases k with k | k
 ·obtain ⟨c,i,x,v⟩:=I.list k;have w:=i.length;obtain ⟨o,y,z,n,A⟩:=x.isList;exact call_list_seq p (.inl rfl) y z A (λd g kp e=>m c i v d g kp e) (by simp only [A9] <;> omega)
 ·obtain ⟨c,i,x,v⟩:=I.tuple k;have w:=i.length;obtain ⟨o,y,z,n,A⟩:=x;exact call_list_seq p (.inr rfl) y z A (λd g kp e=>m c i v d g kp e) (by simp only [A9] <;> omega)
def WX:CL X (.type "tuple") (λn H Q=>∃ p f,n=[.ref p]/\((SqL X.K H p f/\∀ l,H l=none->Q (.ref l) (upd H l (.tup f)))\/(SqT X.K H p f/\Q (.ref p) H))):=by
 intro c s v H n D Q I r h;obtain ⟨p,f,rfl,h⟩:=h;obtain ⟨u,rfl,A⟩:=Dj r;cases A;rcases h with ⟨j,q⟩ | ⟨j,q⟩
 ·obtain ⟨d,k,m,w⟩:=I.list j;have x:=k.length;refine call_tuple_list m.isList (λi kp=>?_) (by simp only [A9] <;> omega);have y:Inv X c v H { s with heap:=i }:=I.kept (t':=s.toks) kp
  have B:Inv X c v (upd H i.objs.size (.tup f)) { s with heap:=i.push { cls:=.type "tuple", data:=.seq d.toArray } }:=
   y.laid (t':=s.toks) (λb o e=>Heap.get?_push_of_some _ e) (AM _) (show ObjOk X.prog X.w _ _ _ (.tup f) from ⟨w,d,k,IsTup.new _ _⟩)
  exact ⟨.ref i.objs.size,_,B,rfl,q _ (y.hok.fresh (AM _))⟩
 ·obtain ⟨d,k,m,w⟩:=I.tuple j;exact call_tuple_same m ⟨.ref p,H,I,rfl,q⟩
def cG (K:W.Frag) (T:String) (x:V) (H:Hp):Prop:=match x with
 | .str _=>T = "str"
 | .int _=>T = "int"
 | .ref p=>(T = "list" /\ ∃ d,SqL K H p d)\/(T = "tuple" /\ ∃ o,K.lookup p=some o/\o.cls=.type "tuple" /\ o.dict=none)\/
   (T = "dict" /\ ((∃ c,H p=some (.dK c))\/∃ c,H p=some (.dT c)))\/(T = "set" /\ ∃ S n,H p=some (.set S n))
 | _=>False
theorem WY {f:dl} {u:St} {H:Hp} {s:Shared} {T:String} {x:V} {v:Value} (I:Inv X f u H s) (r:RelV x v) (g:cG X.K T x H) :
  s.TypeIs v T/\∀ a,v=.ref a->∃ m,s.heap.get? a=some m/\m.dict=none:=by
 cases x with
 | str z=>
   obtain ⟨t,rfl⟩:=r;cases (show T = "str" from g);exact ⟨typeIs_str s z t,λ_ e=>nomatch e⟩
 | int i=>
   obtain ⟨t,rfl⟩:=r;cases (show T = "int" from g);exact ⟨typeIs_int s i t,λ_ e=>nomatch e⟩
 | ref p=>
   cases r;rcases g with ⟨rfl,B,w⟩ | ⟨rfl,o,hk,y,h⟩ | ⟨rfl,hk⟩ | ⟨rfl,S,n,hk⟩
   ·obtain ⟨A,_,q,_⟩:=I.list w;refine ⟨q.isList.typeIs,λa e=>?_⟩;cases e;obtain ⟨o,n,e,c,h,_⟩:=q;exact ⟨o,e,h⟩
   ·refine ⟨⟨o,I.kIn p o hk,y⟩,λa e=>?_⟩;cases e;exact ⟨o,I.kIn _ o hk,h⟩
   ·have z:∃ o,s.heap.get? p=some o/\o.ExactDict:=by
     rcases hk with ⟨j,hk⟩ | ⟨j,hk⟩
     ·obtain ⟨_,_,_,_,o,_,_,e,d,_⟩:=I.hok p _ hk;exact ⟨o,e,d⟩
     ·obtain ⟨_,_,_,_,o,_,_,e,d,_⟩:=I.hok p _ hk;exact ⟨o,e,d⟩
    obtain ⟨o,e,d⟩:=z;refine ⟨⟨o,e,d.1⟩,λa k=>?_⟩;cases k;exact ⟨o,e,d.2.1⟩
   ·obtain ⟨o,_,_,_,e,d,_⟩:=I.hok p _ hk;refine ⟨⟨o,e,d.1⟩,λa k=>?_⟩;cases k;exact ⟨o,e,d.2.1⟩
 | _=>exact False.elim g
def WZ (K:W.Frag) (T:String) (r:V->d7->Hp->VK->Prop) (d:TE):TE:=λe H Q=>d e H λx c=>cG K T x c/\r x [] c Q
def b8 (K:W.Frag) (T:String) (r:V->d7->Hp->VK->Prop) (e:TE) (t:TA):TE:=λc H Q=>e c H λx d=>cG K T x d/\t c d λf g=>r x f g Q
variable {o e:Expr} {es:du} {to:TE} {t:TA} {name:Str} {apos cpos:Pos} {T id:String} {r:V->d7->Hp->VK->Prop}
def IL (u:PlainAttrs T) (i:Slot T name id) (k:typeOf (.builtin id)=pure (.type "method_descriptor")) (w:MtR X id r) (y:PE X o to) (z:PA X (e::es) t)
  (f:attributeBase o name X.env (eval o X.env)=eval o X.env:=by rfl)
  (j:((backTo cpos (starEach (e::es) X.env)).all (λx=>!x.1) && (backToKw cpos (keywordEach [] X.env)).all (λx=>x.1.isSome)
   && decide ((e::es).length+([]:List Keyword).length+(if ([]:List Keyword).isEmpty then 0 else 1)<30))=true:=by rfl)
  (g:(apos.endLine == cpos.line)=true:=by rfl) (A:starEach (e::es) X.env=(false,eval e X.env)::starEach es X.env:=by rfl) (d:(backTo cpos (starEach es X.env)).any (·.1)=false:=by rfl) :
  PE X (.Call (.Attribute o name apos) (e::es) [] cpos) (b8 X.K T r to t):=by
 intro c s m H Q I h;refine wpAny_Call_method_late f j g rfl (F_ (y c s m H _ I h) λv B ⟨x,C,n,p,D,E⟩=>?_);obtain ⟨F,G⟩:=WY n p D;refine ⟨T,id,u,i,k,F,G,?_⟩;have q:=z cpos c B m C _ n E;rw [A] at q ⊢;refine Calls.callWith_builtin (by show (false || (backTo cpos (starEach es X.env)).any (·.1))=false;rw [d] <;> rfl) (Calls.evalArgs_plain ?_);exact F_ q λJ K ⟨L,M,N,O,P⟩=>w c K m M x L v J Q N p O P
end
def MtM (X:Cx) (id:String) (r:V->d7->Hp->VK->Prop):Prop:=
 ∀ (a:dl) (s:Shared) (b:St) (H:Hp) (x:V) (c:d7) (v:Value) (d:dh) (Q:VK),Inv X a b H s->RelV x v->Vals c d->r x c H Q->
   wpAny (model X.prog X.w) X.A (call (.builtin id) (v::d)) (EP X a b Q) X.xe s
def Vals.zero {a:dh} (h:Vals [] a):a=[]:=by cases h;rfl
def Vals.inv {x:V} {xs:d7} {a:dh} (h:Vals (x::xs) a):∃ u t,a=u::t/\RelV x u/\Vals xs t:=by cases h with | cons r t=>exact ⟨_,_,rfl,r,t⟩
def Vals.one {x:V} {a:dh} (h:Vals [x] a):∃ u,a=[u]/\RelV x u:=by obtain ⟨u,t,rfl,r,h⟩:=h.inv;exact ⟨u,by rw [h.zero],r⟩
def Vals.two {x y:V} {a:dh} (h:Vals [x,y] a):∃ u v,a=[u,v]/\RelV x u/\RelV y v:=by obtain ⟨u,t,rfl,r,h⟩:=h.inv;obtain ⟨v,rfl,q⟩:=h.one;exact ⟨u,v,rfl,r,q⟩
theorem Vals.rep {xs:d7} {a:dh} (h:Vals xs a):∀ k:Nat,Vals (List.replicate k xs).flatten (List.replicate k a).flatten
 | 0=>.nil
 | k+1=>by
   rw [GE,GE,List.flatten_cons,List.flatten_cons];exact Vals.append h (Vals.rep h k)
theorem Lf (its:dh):∀ (k:Nat) (a:dh),
  List.foldl (λb c=>b++c) a.toArray (List.replicate k its.toArray)=(a++(List.replicate k its).flatten).toArray
 | 0,a=>by simp
 | k+1,a=>by
   have e:a.toArray++its.toArray=(a++its).toArray:=by simp
   have d:(a++its)++(List.replicate k its).flatten=a++(List.replicate (k+1) its).flatten:=by
    rw [GE,List.flatten_cons,List.append_assoc]
   rw [<-d,<-Lf its k (a++its),<-e,GE,List.foldl_cons]
section
variable {X:Cx} {pins:dl} {σ:St} {H:Hp} {s:Shared} {l b:Addr} {xs ys zs:d7}
def Inv.lset {its its':dh} {n:Nat} {f:Array Value->Array Value} {t':Nat} (I:Inv X pins σ H s) (d:H l=some (.lst xs))
  (e:s.heap.get? l=some { cls:=.type "list", data:=.seq its.toArray n }) (g:f its.toArray=its'.toArray) (h:Vals ys its') (i:ys.length<=sizeLine) :
  Inv X pins σ (upd H l (.lst ys)) { s with heap:=s.heap.update l (Obj.mapSeq f),toks:=t' }:=by
 have q:=PySem.IsL.update e f;rw [g] at q;refine I.write (x:=l) (e:=l) (by rw [d];exact trivial) (.inl rfl) (λm u j k=>(Heap.get?_update_other s.heap (Obj.mapSeq f) (Ne.symm j)).trans k) ⟨_,q⟩ ?_;exact ⟨i,its',_,h,q⟩
def Inv.lnew {its:dh} {t':Nat} (I:Inv X pins σ H s) (e:Vals ys its) (f:ys.length<=sizeLine) :
  Inv X pins σ (upd H s.heap.objs.size (.lst ys)) { s with heap:=s.heap.push { cls:=.type "list", data:=.seq its.toArray },toks:=t' }:=
 I.laid (λ_ _ q=>Heap.get?_push_of_some _ q) (AM _) ⟨f,its,0,e,Heap.get?_push_size _ rfl⟩
def Inv.fresh (I:Inv X pins σ H s):H s.heap.objs.size=none:=I.hok.fresh (AM _)
def Inv.lstM (I:Inv X pins σ H s) (a:H l=some (.lst xs)):xs.length<=sizeLine/\∃ (its:dh) (n:Nat),Vals xs its/\xs.length=its.length/\s.heap.get? l=some { cls:=.type "list", data:=.seq its.toArray n }:=by
 obtain ⟨z,its,n,r,e⟩:=I.hok l _ a;exact ⟨z,its,n,r,r.length,e⟩
def O4 {n:Nat} (h:n<=sizeLine):Builtin.List.listTooLong n=false:=by
 unfold Builtin.List.listTooLong;exact mI ⋯
end
section
variable {X:Cx}
def HK:V->d7->Hp->VK->Prop:=λx b H Q=>∃ l a y,x=.ref l/\b=[y]/\H l=some (.lst a)/\a.length<sizeLine/\Q .non (upd H l (.lst (a++[y])))
def Lh:MtM X "list.append" HK:=by
 intro b s i H x j v k Q I d f h;obtain ⟨l,m,y,rfl,rfl,c,o,q⟩:=h;cases d;obtain ⟨u,rfl,g⟩:=f.one;obtain ⟨z,a,n,r,p,e⟩:=I.lstM c;refine call_meets F.slot_list_append ⟨_,e,rfl⟩ F.entry_list_append (F.args_list_append_2 _ _) (PySem.list_append l a.toArray n u (by rw [A9];omega)) ⟨e,?_⟩;refine ⟨.non,_,I.lset (its':=a++[u]) c e (by simp) (r.append (.cons g .nil)) ?_,rfl,q⟩;rw [Cr,List.length_singleton];omega
def Jp:V->d7->Hp->VK->Prop:=λx d H Q=>∃ l b a c,x=.ref l/\d=[.ref b]/\H l=some (.lst a)/\H b=some (.lst c)/\a.length+c.length<=sizeLine/\Q .non (upd H l (.lst (a++c)))
def O5:MtM X "list.extend" Jp:=by
 intro g s B H x C v D Q I j k h;obtain ⟨l,b,E,G,rfl,rfl,i,m,J,q⟩:=h;cases j;obtain ⟨u,rfl,o⟩:=k.one;cases o;obtain ⟨z,c,n,r,K,e⟩:=I.lstM i;obtain ⟨L,a,p,w,y,A⟩:=I.lstM m;have f:c.toArray.size+a.toArray.size<=sizeLine:=by rw [A9,A9];omega
 have d:¬ (!c.toArray.isEmpty && Builtin.List.listTooLong (c.toArray.size+a.toArray.size))=true:=by
  rw [O4 f,Bool.and_false];exact Cb
 refine call_meets F.slot_list_extend ⟨_,e,rfl⟩ F.entry_list_extend (F.args_list_extend_2 _ _)
  (AutoSeq1.list_extend_list_list_0 l c.toArray n b a.toArray p d (by rw [A9];omega) ⋯) ⟨e,A,?_⟩
 refine ⟨.non,_,I.lset (its':=c++a) i e (by simp) (r.append w) ?_,rfl,q⟩;rw [Cr];omega
def Wa:V->d7->Hp->VK->Prop:=λx b H Q=>∃ l a y,x=.ref l/\b=[]/\H l=some (.lst a)/\a[a.length - 1]?=some y/\Q y (upd H l (.lst a.dropLast))
def Li:R2:=λx y H Q=>∃ l b a c,x=.ref l/\y=.ref b/\H l=some (.lst a)/\H b=some (.lst c)/\a.length+c.length<=sizeLine/\∀ p,H p=none->Q (.ref p) (upd H p (.lst (a++c)))
def Wb:OpR X (binaryOp .Add) Li:=by
 intro d s w H x y v u Q I f g h;obtain ⟨l,b,A,B,rfl,rfl,i,j,C,q⟩:=h;cases f;cases g;obtain ⟨z,c,n,r,D,e⟩:=I.lstM i;obtain ⟨E,a,F,k,m,o⟩:=I.lstM j;refine PySem.P.add_list e o ?_ (by rw [A9,A9];omega);have p:c.toArray++a.toArray=(c++a).toArray:=by simp
 rw [p];exact ⟨.ref _,_,I.lnew (t':=s.toks) (r.append k) (by rw [Cr];omega),rfl,q _ I.fresh⟩
def FY:R2:=λx y H Q=>∃ l k a,x=.ref l/\y=.int k/\H l=some (.lst a)/\-(2 ^ 63)<=k/\k<2 ^ 63/\a.length*k.toNat<=sizeLine/\
 ∀ p,H p=none->Q (.ref p) (upd H p (.lst (List.replicate k.toNat a).flatten))
theorem Lj {a:Type} (xs:List a) (k:Nat):(List.replicate k xs).flatten.length=k*xs.length:=by
 induction k with
 | zero=>simp
 | succ k b=>rw [GE,List.flatten_cons,Cr,b,Nat.succ_mul,Nat.add_comm]
def HL:OpR X (binaryOp .Mult) FY:=by
 intro p s L H x y v u Q I A B h;obtain ⟨l,k,M,rfl,rfl,C,D,E,w,q⟩:=h;cases A;obtain ⟨t,rfl⟩:=B;obtain ⟨z,b,n,r,G,e⟩:=I.lstM C;have d:b.toArray.size*k.toNat<=sizeLine:=by rw [A9,<-G];exact w
 have f:¬ b.toArray.size*k.toNat > (2 ^ 63 - 1) / 8:=by
  have:(sizeLine:Nat)<=(2 ^ 63 - 1) / 8:=by decide
  omega
 have g:¬ (!Builtin.List.listFitsIndex k)=true:=by
  rw [fitsIndex_both D E];exact Cb
 have c:¬ Builtin.List.listTooLong (b.toArray.size*k.toNat)=true:=by
  rw [O4 d];exact Cb
 have i:List.foldl (λj o=>j++o) #[] (List.replicate (if b.toArray.isEmpty=true then 0 else k.toNat) b.toArray)=(List.replicate k.toNat b).flatten.toArray:=by
  have J:∀ m:Nat,List.foldl (λj o=>j++o) #[] (List.replicate m b.toArray)=(List.replicate m b).flatten.toArray:=λm=>by
   have:=Lf b m [];rw [List.nil_append] at this;exact this
  rw [J];cases b with
  | nil=>simp
  | cons a N=>rw [mE (by simp)]
 refine wpAny_binaryOp_repeat_ref (T := "list") (U := "int") ∅ ⟨_,e,rfl⟩ (λK=>typeIs_int K k t) noFill_list_mul F.fills_int_mul F.slot_int_rmul repeat_list F.slot_int_index.lookup
  (call_meets F.slot_int_rmul (typeIs_int s k t) F.entry_int_rmul (F.args_int_rmul_2 _ _) (int___rmul___int_list k t l b.toArray n)
   ⟨e,rfl,⟨_,e,rfl⟩,call_meets F.slot_list_mul ⟨_,e,rfl⟩ F.entry_list_mul (F.args_list_mul_2 _ _) (AutoListH.list___mul___list_int_3 l b.toArray n k t g f c) ⟨e,?_⟩⟩)
 rw [i];exact ⟨.ref _,_,I.lnew (t':=s.toks) (r.rep k.toNat) (by rw [Lj,B5];exact w),rfl,q _ I.fresh⟩
end
end L2
namespace Att
open PySem PySem.W PySem.Calls PyProof.Rows
theorem Wc {P:Params} {h:Heap}:∀ (ns:de) (c:dh),WellAll P h c (ns.map WData.int)->IntsAre c ns:=by
 intro ns
 induction ns with
 | nil=>
   intro c w;rw [List.map_nil] at w;cases w;exact .nil
 | cons n ns d=>
   intro c w;rw [Dg] at w;cases w with
   | cons a b=>
     cases a;exact .cons _ _ (d _ b)
theorem Wd {l:OpenLaw} {n:Nat} (v:l.most=some n) {P:Params} {h:Heap} {b:List WData} {e:dh}
  (f:l.row.toRowW.claim.pre b=true) (m:WellAll P h e b) :
  ∃ a p c,e=[Value.ref a]/\b=[WData.list (c.map WData.int)]/\h.get? a=some { cls:=.type "list", data:=.seq p.toArray }/\IntsAre p c/\c.length<=n:=by
 have o:WShape.hasAll [] b [.list .int]=true:=(pre_splitW f).1;have u:l.pre.holds [] { args:=b }=true:=(pre_splitW f).2;obtain ⟨d,r,rfl,w,x⟩:=hasAllW_cons o;obtain rfl:=hasAllW_nil x;obtain ⟨D,rfl,y⟩:=hasW_list w;obtain ⟨c,rfl⟩:=items_int y
 have g:c.length<=n:=by
  unfold OpenLaw.pre at u
  have j:(WTm.not (.lt (.lit (.int (n:Int))) (.len (.arg 0)))).holds [] { args:=[.list (c.map .int)] }=true:=by
   have j:=(holds_andW u).1;rw [v] at j;exact j
  have k:=condW_of j (w_not (w_lt w_lit (w_len_list (w_arg rfl))));rw [AO] at k;refine Nat.le_of_not_lt λq=>?_;have z:(n:Int)<((c.length:Nat):Int):=by omega
  first
   | (rw [mG z] at k;exact absurd k ∅)
   | (simp at k;omega)
 cases m with
 | cons A B=>
   cases B;cases A with
   | list C i=>exact ⟨_,_,c,rfl,rfl,C,Wc c _ i,g⟩
def We (l:OpenLaw) (a:List WData):l.row.toRowW.claim.post a (.bool true) a=true:=
 postW_of (r:=l.row.toRowW) (X:=(true == true))
  (show WShape.has [] (.bool true) .bool=true by first | rfl | decide | simp [WShape.has,WShape.arms,WShape.armsAll])
  (show (WTm.eq .res (.lit (.bool true))).value [] { args:=a,res:=some (.bool true),after:=a }=some (.bool (true == true)) from w_eq_bool (w_res rfl) w_lit) rfl
def attach_call {l:OpenLaw} {n:Nat} {q:Program} {loose:dw} {XP:(dq)->Heap->Prop} {YP:World->Heap->Prop} {d:DefRec}
  (H:l.most=some n) (x:d.params.defaults=[])
  (call:∀ (w:World) (c b:Shared) (p y:dq) (i:Addr) (o:Obj) (pm u e:Value) (a:Addr) (h:dh) (ns:de),
   Ground q loose [] XP w c p y b.heap->YP w b.heap->
   b.heap.get? i=some o->o.data=.func (docDef d.name d.params d.body d.scope pm u e)->b.heap.CodeRec u d.name->p d.name=some (.ref i)->
   b.heap.get? a=some { cls:=.type "list", data:=.seq h.toArray }->IntsAre h ns->ns.length<=n->b.gens=#[]->
   codeAny (model l.prog w) callerA (.call (.ref i) ⟨[.ref a],[]⟩) (λr v=>r=.ok (.ret (.bool true))/\OldK b.heap v.heap/\v.os=b.os/\AllBare v.gens) b) :
  WalkO q loose XP YP l.row.toRowW d [] (λf h=>PySem.call f h):=by
 intro w c b p y G Y i o pm u e I kV J K z C A L D E as j F M B N;obtain rfl:I=.none:=Dflts.none C x;obtain rfl:kV=.none:=Dflts.noKw C;obtain ⟨a,h,ns,rfl,rfl,k,g,m⟩:=Wd H j B;refine enter_call (codeAny_mono (call w c b p y i o pm u e a h ns G Y J (fd_plain K) z A k g m L) λr v O=>?_);obtain ⟨rfl,P,Q,R⟩:=O;exact ⟨.inl ⟨.bool true,.bool true,[],rfl,λ_=>rfl,.bool true,We l _,λ_=>⟨List.Pairwise.nil,λ_ S=>(nomatch S)⟩⟩,P,Q,R⟩
end Att
namespace L2
open PySem PySem.Spec PyProof.Rows
theorem O6:∀ {a:dh} {ns:de},IntsAre a ns->Vals (ns.map V.int) a
 | _,_,.nil=>.nil
 | _,_,.cons n t h=>.cons ⟨t,rfl⟩ (O6 h)
def bH (H:Hp):Prop:=∀ b,H b=none\/∃ o a,H b=some (.frz o (.lst a))
theorem Wf {P:Program} {w:World} {K:W.Frag} {G mb:dq} {CX:aM} {k:Nat} {fa a:Addr} {fd:FuncData} {x:Str} {sp:Sp} {c:Shared} {B:dh} {ns:de}
  (KX:K.In c.heap) (I:c.heap.Ns mainGlobals G) (j:c.heap.Ns builtinsNs mb) (a0:∀ x:Str,x ≠ "__name__" -> mb x=bootBuiltins x) (J:c.heap.NoLimit) (g:c.heap.NoSeer) (C:(model P w).prog.given.tree=none) (hg:c.gens=#[])
  (L:c.heap.get? a=some { cls:=.type "list", data:=.seq B.toArray }) (hi:IntsAre B ns) (hl:ns.length<=sizeLine) (hr:Room k callerA)
  (F:∀ p:Heap,K.In p->p.Ns mainGlobals G->FnOk P w K G p CX k fa fd [x] sp) (D:∀ (s:Shared) (u:Value),BindsTo s fd ⟨[u],[]⟩ [(x,u)])
  (a1:∀ H:Hp,bH H->SqL K H a (ns.map V.int)->sp [.ref a] H (λv _=>v=.bl true) λ_ _ _=>False)
  (a2:∀ H e y,CX [] H c (λ_ _ _=>False) e y->False) :
  codeAny (model P w) callerA (.call (.ref fa) ⟨[.ref a],[]⟩) (λr y=>r=.ok (.ret (.bool true))/\OldK c.heap y.heap/\y.os=c.os/\AllBare y.gens) c:=by
 have rv:=O6 hi;have M:=hi.length
 have A:∀ H:Hp,bH H->SqL K H a (ns.map V.int)->HOk P w H c.heap->(∀ b,H b≠none->b=a)->(H a≠none->K.lookup a=none)->
   codeAny (model P w) callerA (.call (.ref fa) ⟨[.ref a],[]⟩) (λr y=>r=.ok (.ret (.bool true))/\OldK c.heap y.heap/\y.os=c.os/\AllBare y.gens) c:=by
  intro H hO hS N hA hK;have f:∀ {b:Addr} {o:Obj},c.heap.get? b=some o->H b=none->(ET c.heap H).get? b=some o:=λe n=>Vh e n
  have a3:∀ {b:Addr} {o:Obj} {O:Array DictEntry} {Q:Nat},c.heap.get? b=some o->o.data=.dict O Q->H b=none:=λ{b o O Q} e d=>by
   cases q:H b with
   | none=>rfl
   | some u=>
     have R:b=a:=hA b (by rw [q];simp);subst R;rw [L] at e;cases e;have Y:Data.seq B.toArray _=Data.dict O Q:=d;cases Y
  have i:∀ {b:Addr} {m:dq},c.heap.Ns b m->(ET c.heap H).Ns b m:=λ{b m} ⟨o,O,Q,e,d,r⟩=>⟨o,O,Q,f e (a3 e d),d,r⟩
  have S:K.In (ET c.heap H):=λb o e=>f (KX b o e) (by
   cases q:H b with
   | none=>rfl
   | some u=>
     have R:b=a:=hA b (by rw [q];simp);subst R;rw [hK (by rw [q];simp)] at e;cases e)
  have hM:Mod K G (ET c.heap H):=⟨S,i I,⟨mb,i j,a0⟩,let ⟨E,h1,h2⟩:=J;⟨E,i h1,h2⟩⟩
  have a4:(ET c.heap H).NoSeer:=⟨let ⟨E,a,b⟩:=g.statics;⟨E,i a,b⟩,let ⟨E,a,b⟩:=g.mods;⟨E,i a,b⟩,let ⟨E,a,b⟩:=g.imp;⟨E,i a,b⟩,
   let ⟨a5,Z,ob,a',b',c',Y,R⟩:=g.main;⟨a5,Z,ob,i a',b',f c' (by
    cases q:H Z with
    | none=>rfl
    | some u=>
      have z:Z=a:=hA Z (by rw [q];simp);subst z;rw [L] at c';cases c';simp at Y),Y,R⟩⟩
  have e0:Env0 P w K G (ET c.heap H) callerA [] c H:=⟨rfl,hM,λb o e=>Vi e,Nat.le_of_eq (Vg _ _),trivial,λb j=>absurd (show b∈([]:dE) from j) (by simp),N,.of_eq hg,a4,C⟩;refine codeAny_mono ((F _ S (i I)).run callerA [] c H ⟨[.ref a],[]⟩ [.ref a] [.ref a] _ _ hr e0 (D c (.ref a)) (.cons rfl .nil) (a1 H hO hS)) λr y h=>?_;cases r with
  | error e=>exact (a2 H e y h).elim
  | ok fl=>
    cases fl with
    | next=>exact False.elim h
    | brk=>exact False.elim h
    | cont=>exact False.elim h
    | ret u=>
      obtain ⟨v,H',os,T,un,U,r',q⟩:=h;have q':v=.bl true:=q;subst q';obtain rfl:u=Value.bool true:=r';refine ⟨rfl,OldK.of_keep λb o e=>?_,os,T⟩;cases q:H b with
      | none=>exact un.keep b o e q (by intro z;exact absurd (show b∈([]:dE) from z) (by simp)) (by simp)
      | some u=>
        rcases hO b with z | ⟨ob,xs,z⟩
        ·rw [q] at z;cases z
        ·have z2:=un.frzs b ob _ z;obtain ⟨e1,_⟩:=N b _ z;obtain ⟨e2,_⟩:=U b _ z2;rw [e] at e1;cases e1;exact e2
 cases hk:K.lookup a with
 | some o=>
   have e:=KX a o hk;rw [L] at e;cases e;refine A (λ_=>none) (λ_=>.inl rfl) (.inr ⟨_,B.toArray,_,hk,rfl,rfl,rfl,by rw [A9,M];exact hl,by simpa using rv⟩) (λb u z=>by have X:(none:Option HO)=some u:=z;cases X) (λb z=>absurd rfl z) λz=>absurd rfl z
 | none=>
   refine A (λb=>if b=a then some (.frz { cls:=.type "list", data:=.seq B.toArray } (.lst (ns.map V.int))) else none) (λb=>?_) (.inl (.inr ⟨{ cls:=.type "list", data:=.seq B.toArray },mF rfl⟩)) (λb u z=>?_) (λb z=>?_) λ_=>hk
   ·by_cases j:b=a
    ·exact .inr ⟨_,_,mF j⟩
    ·exact .inl (mE j)
   ·by_cases j:b=a
    ·have X:=(mF j).symm.trans z;cases X;subst j;exact ⟨L,by rw [AO];exact hl,B,_,rv,L⟩
    ·have X:=(mE j).symm.trans z;cases X
   ·by_cases j:b=a
    ·exact j
    ·exact absurd (mE j) z
def walk_of {l:W.OpenLaw} {n k:Nat} {q:Program} {loose:dw} {XP:(dq)->Heap->Prop} {YP:World->Heap->Prop} {d:DefRec} {K:Params->W.Frag} {CX:World->aM} {sp:World->Sp} {x:Str}
  (L:l.most=some n) (y:n<=sizeLine) (z:d.params.defaults=[]) (M:importsNone q=true) (g:∀ w,(model l.prog w).prog.given.tree=none) (N:Room k callerA)
  (O:∀ (w:World) (h:Heap),YP w h->(K w.params).In h)
  (F:∀ (w:World) (j:dq) (r:Addr) (h:Heap),(K w.params).In h->h.Ns mainGlobals j->j d.name=some (.ref r)->
   ∃ A:FuncData,(∀ (s:Shared) (u:Value),BindsTo s A ⟨[u],[]⟩ [(x,u)])/\
     ∀ b:Heap,(K w.params).In b->b.Ns mainGlobals j->FnOk l.prog w (K w.params) j b (CX w) k r A [x] (sp w))
  (B:∀ (w:World) (H:Hp) (a:Addr) (ns:de),ns.length<=n->bH H->SqL (K w.params) H a (ns.map V.int)->sp w [.ref a] H (λv _=>v=.bl true) λ_ _ _=>False)
  (C:∀ (w:World) (H:Hp) (s:Shared) (e:Value) (s':Shared),CX w [] H s (λ_ _ _=>False) e s'->False) :
  W.WalkO q loose XP YP l.row.toRowW d [] (λf E=>PySem.call f E):=by
 refine Att.attach_call L z λw I m j Z r o pm cd P a E ns G Y ho hd Q D p i c R=>?_;have J:=O w _ Y;obtain ⟨A,S,T⟩:=F w j r _ J G.T.g D;exact Wf J G.T.g G.T.b G.T.builtins G.T.nolimit (G.T.seer M) (g w) R p i (A7 c y) N T S (λH U X=>B w H a ns c U X) λH e s'=>C w H m e s'
noncomputable def Ed (s:Stmt):Arguments:=match s with
 | .FunctionDef _ a _ _ _ _ _ _ _ _=>a
 | _=>{ posonlyargs:=[],args:=[],vararg:=none,kwonlyargs:=[],kw_defaults:=[],kwarg:=none,defaults:=[] }
noncomputable def Dl (s:Stmt):List Stmt:=match s with
 | .FunctionDef _ _ b _ _ _ _ _ _ _=>b
 | _=>[]
noncomputable def Ch (s:Stmt):Scope:=match s with
 | .FunctionDef _ _ _ _ _ _ a _ _ _=>a
 | _=>{ kind:=.function,names:=[],isGenerator:=false,isCoroutine:=false }
noncomputable abbrev aN:aM:=λ_ _ _ _ _ _=>False
abbrev E0:XK:=λ_ _ _=>False
def Wg {X:Cx}:au aN X E0:=λ_ _ _ _ _ _ _ h=>h.elim
structure Fun (K:W.Frag) (x qual:Str) (st:Stmt) (f:Addr) (fd:FuncData):Prop where
 ex:∃ (oc:Value) (od:Option Addr) (kV doc pm:Value) (an:Option Addr) (cdv ct:Value) (osl:Array (dC)),
  fd=W.fnOf x qual (Ed st) (Dl st) (Ch st) .none kV doc pm an cdv ct/\K.lookup f=some ⟨oc,od,.func fd,osl⟩/\W.codeIn K cdv qual=true
 kp:W.keepIn K (.ref f)=true
section
variable {P:Program} {w:World} {K:W.Frag} {mg:dq} {base:Heap}
def Fun.ok {x b:Str} {st:Stmt} {f:Addr} {j:FuncData} {N ps:dw} {k:Nat} {sp:Sp} (F:Fun K x b st f j) (S:FnScope N ps (Ch st)) (len:∀ d H Q E,sp d H Q E->d.length=ps.length)
  (e:∀ (c:Value) (A:Around) (a:List Env) (s:Shared) (H:Hp) (d:d7) (Q:VK) (E:XK),Room k (A.deeper (envOfC b (Ch st) s.heap.objs.size f c))->sp d H Q E->
   ∃ t,PSs (GW aN P w K mg base N b (Ch st) f c A a s H E).nox (Dl st) t/\t { nx:=λ_ m=>Q .non m,rt:=Q } (start N d) H):FnOk P w K mg base aN (k+1) f j ps sp:=by
 obtain ⟨u,v,kV,n,y,z,c,B,o,rfl,p,g⟩:=F.ex;refine WJ p g S len λA a s H d Q E r i=>?_;obtain ⟨t,h,q⟩:=e c A a s H d Q E r i;exact ⟨t,h.nox,q⟩
def Fun.binds {x a:Str} {st:Stmt} {f:Addr} {i:FuncData} {ps:dw} (F:Fun K x a st f i)
  (h:∀ (kV b pm:Value) (d:Option Addr) (c e:Value) (g:dh),g.length=ps.length->bindArgs (W.fnOf x a (Ed st) (Dl st) (Ch st) .none kV b pm d c e) ⟨g,[]⟩=pure (ps.zip g)):Binds K i ps []:=by
 obtain ⟨m,n,kV,b,pm,d,c,e,j,rfl,o,k⟩:=F.ex;exact .all (h kV b pm d c e)
def Wh {x a:Str} {st:Stmt} {f:Addr} {i:Value} {j g:Option Addr} {e:Array (dC)} {kV d pm b h:Value} (l:K.lookup f=some ⟨i,j,.func (W.fnOf x a (Ed st) (Dl st) (Ch st) .none kV d pm g b h),e⟩)
  (c:W.codeIn K b a=true) (k:W.keepIn K (.ref f)=true):Fun K x a st f (W.fnOf x a (Ed st) (Dl st) (Ch st) .none kV d pm g b h):=⟨⟨i,j,kV,d,pm,g,b,h,e,rfl,l,c⟩,k⟩
end
section
variable {X:Cx}
def pv (i:Nat) {x:Str} {a:Pos} (c:X.N[i]?=some x:=by rfl) (d:b_ X.env.scope x:=by first | exact Or.inl rfl | exact Or.inr (Or.inl rfl) | exact Or.inr (Or.inr rfl)) (e:(x == ("__debug__" : Str))=false:=by decide)
  (b:(x == ("__classdict__" : Str))=false:=by decide):PE X (.Name x a) (AA i):=Vk c d e b
end
def Av {c A B:Prop} [Decidable c] (a:c->A) (b:¬ c->B):if c then A else B:=by
 by_cases h:c
 ·rw [mF h];exact a h
 ·rw [mE h];exact b h
def Same (H a:Hp):Prop:=∀ b o,H b=some o->a b=some o
def Same.refl (H:Hp):Same H H:=λ_ _ h=>h
def Same.trans {H d e:Hp} (a:Same H d) (b:Same d e):Same H e:=λc o h=>b c o (a c o h)
theorem Same.free {H a:Hp} (e:Same H a) {l:Addr} (h:a l=Option.none):H l=Option.none:=by
 cases q:H l with
 | none=>rfl
 | some o=>
   rw [e l o q] at h;cases h
def Same.seq {K:W.Frag} {H b:Hp} {a:Addr} {xs:d7} (e:Same H b) (h:SqL K H a xs):SqL K b a xs:=by
 rcases h with (h | ⟨o,h⟩) | h
 ·exact .inl (.inl (e _ _ h))
 ·exact .inl (.inr ⟨o,e _ _ h⟩)
 ·exact .inr h
end L2
local macro_rules | `(tactic| omega)=>`(tactic| lia)
namespace Bs.Hd
open PySem PySem.Spec PyProof.Rows L2
set_option maxRecDepth 100000
set_option maxHeartbeats 4000000
noncomputable def top (i:Nat):Stmt:=PySem.Challenge.pw_backslope_k44_joined_then_parted.main.body.getD i (.Pass ⟨0,0,0,0⟩)
noncomputable abbrev Wi:Stmt:=top 2
noncomputable abbrev Wj:Stmt:=top 3
noncomputable abbrev Wk:Stmt:=top 4
noncomputable abbrev Wl:Stmt:=top 5
noncomputable abbrev Wm:Stmt:=top 6
noncomputable abbrev Wn:Stmt:=top 7
noncomputable abbrev Wp:Stmt:=top 8
noncomputable abbrev Wq:Stmt:=top 9
noncomputable abbrev Wr:Stmt:=top 10
noncomputable abbrev Ws:Stmt:=top 11
noncomputable abbrev Wt:Stmt:=top 12
noncomputable abbrev Wu:Stmt:=top 13
noncomputable abbrev Wv:Stmt:=top 14
noncomputable abbrev Ww:Stmt:=top 15
noncomputable abbrev Wx:Stmt:=top 16
noncomputable abbrev Wy:Stmt:=top 17
noncomputable abbrev Wz:Stmt:=top 18
noncomputable abbrev W2:Stmt:=top 19
noncomputable abbrev W3:Stmt:=top 20
noncomputable abbrev W4:Stmt:=top 21
noncomputable abbrev W5:Stmt:=top 22
noncomputable abbrev W6:Stmt:=top 23
noncomputable abbrev W7:Stmt:=top 24
noncomputable abbrev W8:Stmt:=top 26
noncomputable abbrev W9:Stmt:=top 27
noncomputable abbrev XA:Stmt:=top 28
noncomputable abbrev XB:Stmt:=top 29
noncomputable abbrev XC:Stmt:=top 30
noncomputable abbrev XD:Stmt:=top 31
noncomputable abbrev XE:Stmt:=top 33
noncomputable abbrev XF:Stmt:=top 34
noncomputable abbrev XG:Stmt:=top 35
noncomputable abbrev XH:Stmt:=top 36
noncomputable abbrev XI:Stmt:=top 37
noncomputable abbrev XJ:Stmt:=top 38
noncomputable abbrev XM:Stmt:=top 39
noncomputable abbrev XN:Stmt:=top 40
noncomputable abbrev XO:Stmt:=top 41
noncomputable abbrev XQ:Stmt:=top 42
noncomputable abbrev XR:Stmt:=top 43
noncomputable abbrev XS:Stmt:=top 44
noncomputable abbrev XT:Stmt:=top 46
noncomputable abbrev XU:Stmt:=top 47
noncomputable abbrev XV:Stmt:=top 48
noncomputable abbrev XW:Stmt:=top 49
noncomputable abbrev XX:Stmt:=top 50
noncomputable abbrev XY:Stmt:=top 51
noncomputable abbrev XZ:Stmt:=top 52
noncomputable abbrev Xa:Stmt:=top 55
noncomputable abbrev Xb:Stmt:=top 56
noncomputable abbrev Xc:Stmt:=top 57
noncomputable abbrev Xd:Stmt:=top 58
noncomputable abbrev Xe:Stmt:=top 59
noncomputable abbrev Xf:Stmt:=top 60
noncomputable abbrev Xg:Stmt:=top 61
noncomputable abbrev Xh:Stmt:=top 62
noncomputable abbrev Xi:Stmt:=top 63
noncomputable abbrev Xj:Stmt:=top 64
noncomputable abbrev Xk:Stmt:=top 66
noncomputable abbrev Xl:Stmt:=top 67
noncomputable abbrev Xm:Stmt:=top 68
noncomputable abbrev Xn:Stmt:=top 69
noncomputable abbrev Xo:Stmt:=top 70
noncomputable abbrev Xp:Stmt:=top 71
noncomputable abbrev Xq:Stmt:=top 72
noncomputable abbrev Xr:Stmt:=top 73
noncomputable abbrev Xs:Stmt:=top 74
noncomputable abbrev Xu:Stmt:=top 75
noncomputable abbrev Jq:Stmt:=top 76
noncomputable abbrev N:Value:=.none
noncomputable abbrev S (x:Str) (t:Tok):Value:=.str x t
noncomputable abbrev I (i:Int):Value:=.int i 0
noncomputable abbrev R (a:Addr):Value:=.ref a
noncomputable def en (P:Params) (k:Str) (t:Tok) (v:Value):DictEntry:=⟨PyData.keyHash P k,.str k t,v⟩
noncomputable def J_ (n:Str) (t:Tok) (l c u:Int) (a:Addr) (b g d e f:Value) (x:Int) (y:Tok):Obj:=⟨.type "code", none,.fields #[S n t,S n (t+1),S "/claim/cut.py" (t+2),I l,I c,I 0,I 0,I u,R a,.bool true,I 181,b,g,d,e,f,I x,I l,S "/claim/cut.py" y],#[]⟩
noncomputable def I_ (n:Str) (s:Stmt) (pm:Value) (c:Addr):Obj:=⟨.type "function", none,.func (W.fnOf n n (Ed s) (Dl s) (Ch s) .none .none .none pm none (.ref c) .none),#[]⟩
noncomputable abbrev O_:Value:=S "backslope.wholes" 187
noncomputable abbrev aH:Value:=S "backslope.numbers" 404
noncomputable abbrev X_:Value:=S "backslope.polys" 457
noncomputable abbrev av:Value:=S "backslope.fractions" 554
noncomputable abbrev ag:Value:=S "backslope.roots" 621
noncomputable abbrev Z_:Value:=S "law_backslope_k44_joined_then_parted" 706
noncomputable def hp (P:Params):W.Frag:=[
 (3,⟨.type "dict", none,.dict #[en P "__name__" 165 (S "law_backslope_k44_joined_then_parted" 706),en P "__doc__" 166 N,en P "__package__" 167 N,en P "__loader__" 168 (.builtin "__main__.__loader__#opaque"),en P "__spec__" 169 N,en P "__annotations__" 170 (R 6),en P "__builtins__" 171 (R 4),en P "__file__" 173 (S "/claim/cut.py" 172),en P "__cached__" 174 N,en P "EXPONENTS" 197 (R 15),en P "common_divisor" 206 (R 22),en P "raised" 216 (R 29),en P "content" 222 (R 34),en P "row_trimmed" 230 (R 41),en P "row_parted" 236 (R 46),en P "row_times" 249 (R 53),en P "row_over" 263 (R 60),en P "row_less" 269 (R 65),en P "row_moved" 280 (R 72),en P "strand_rest" 286 (R 77),en P "strand_shortened" 292 (R 82),en P "row_shortened" 299 (R 89),en P "strand_euclid" 308 (R 96),en P "inverse_modulo" 322 (R 103),en P "rests_modulo" 328 (R 108),en P "row_modulo" 336 (R 115),en P "monic_modulo" 342 (R 120),en P "split_modulo" 357 (R 127),en P "rest_modulo" 366 (R 134),en P "euclid_modulo" 376 (R 141),en P "nearest" 385 (R 148),en P "common_by_prime" 391 (R 153),en P "row_common" 403 (R 160),en P "ratio" 414 (R 167),en P "plus" 422 (R 174),en P "minus" 430 (R 181),en P "times" 438 (R 188),en P "over" 446 (R 195),en P "power" 456 (R 202),en P "poly" 466 (R 209),en P "cleared" 472 (R 214),en P "uncleared" 478 (R 219),en P "number_of" 486 (R 226),en P "x_to" 493 (R 233),en P "p_plus" 499 (R 238),en P "p_minus" 505 (R 243),en P "p_times" 515 (R 250),en P "p_scaled" 521 (R 255),en P "p_split" 538 (R 262),en P "common" 547 (R 269),en P "p_moved" 553 (R 274),en P "fraction" 564 (R 281),en P "evened" 573 (R 288),en P "quotient" 581 (R 295),en P "f_poly" 588 (R 302),en P "f_number" 595 (R 309),en P "f_plus" 607 (R 316),en P "f_times" 617 (R 323),en P "NOUGHT" 620 (R 327),en P "in_root" 630 (R 334),en P "stretched" 636 (R 339),en P "spread" 646 (R 346),en P "strand" 655 (R 353),en P "joined" 667 (R 360),en P "parted" 673 (R 365),en P "strands_common" 683 (R 372),en P "other_roots" 693 (R 379),en P "other_two" 699 (R 384),en P "in_place" 705 (R 389),en P "_law_source" 720 (R 396),en P "_law_take" 729 (R 403),en P "_law_number" 737 (R 410),en P "_law_kind" 745 (R 417),en P "_law_poly" 751 (R 422),en P "_law_fraction" 762 (R 429),en P "_law_is_number" 770 (R 436),en P "_law_is_fraction" 776 (R 441),en P "_law_round" 785 (R 448),en P "_law_right" 791 (R 453),en P "law" 804 (R 460)] 80,#[]⟩),
 (15,⟨.type "tuple", none,.seq #[(.int 61 189),(.int 127 190),(.int 521 191),(.int 1279 192),(.int 4423 193),(.int 9941 194),(.int 21701 195),(.int 44497 196)] 0,#[]⟩),
 (327,⟨.type "tuple", none,.seq #[(R 324),(R 326)] 0,#[]⟩),
 (324,⟨.type "tuple", none,.seq #[] 0,#[]⟩),
 (326,⟨.type "tuple", none,.seq #[(R 325)] 0,#[]⟩),
 (325,⟨.type "tuple", none,.seq #[(.int 1 618),(.int 1 619)] 0,#[]⟩),
 (21,J_ "common_divisor" 198 3 2 3 16 (R 17) N (R 18) (R 19) (R 20) 204 205),
 (22,I_ "common_divisor" (top 2) O_ 21),
 (28,J_ "raised" 207 9 2 3 23 (R 24) N (R 25) (R 26) (R 27) 214 215),
 (29,I_ "raised" (top 3) O_ 28),
 (33,J_ "content" 217 19 2 3 30 (R 31) N N N (R 32) 220 221),
 (34,I_ "content" (top 4) O_ 33),
 (40,J_ "row_trimmed" 223 26 1 3 35 (R 36) N (R 37) (R 38) (R 39) 228 229),
 (41,I_ "row_trimmed" (top 5) O_ 40),
 (45,J_ "row_parted" 231 31 2 3 42 (R 43) N N N (R 44) 234 235),
 (46,I_ "row_parted" (top 6) O_ 45),
 (52,J_ "row_times" 237 33 2 3 47 (R 48) N (R 49) (R 50) (R 51) 247 248),
 (53,I_ "row_times" (top 7) O_ 52),
 (59,J_ "row_over" 250 42 2 3 54 (R 55) N (R 56) (R 57) (R 58) 261 262),
 (60,I_ "row_over" (top 8) O_ 59),
 (64,J_ "row_less" 264 55 5 3 61 (R 62) N N N (R 63) 267 268),
 (65,I_ "row_less" (top 9) O_ 64),
 (71,J_ "row_moved" 270 61 2 3 66 (R 67) N (R 68) (R 69) (R 70) 278 279),
 (72,I_ "row_moved" (top 10) O_ 71),
 (76,J_ "strand_rest" 281 67 2 3 73 (R 74) N N N (R 75) 284 285),
 (77,I_ "strand_rest" (top 11) O_ 76),
 (81,J_ "strand_shortened" 287 77 1 3 78 (R 79) N N N (R 80) 290 291),
 (82,I_ "strand_shortened" (top 12) O_ 81),
 (88,J_ "row_shortened" 293 82 1 3 83 (R 84) N (R 85) (R 86) (R 87) 297 298),
 (89,I_ "row_shortened" (top 13) O_ 88),
 (95,J_ "strand_euclid" 300 84 2 3 90 (R 91) N (R 92) (R 93) (R 94) 306 307),
 (96,I_ "strand_euclid" (top 14) O_ 95),
 (102,J_ "inverse_modulo" 309 92 2 3 97 (R 98) N (R 99) (R 100) (R 101) 320 321),
 (103,I_ "inverse_modulo" (top 15) O_ 102),
 (107,J_ "rests_modulo" 323 106 2 3 104 (R 105) N N N (R 106) 326 327),
 (108,I_ "rests_modulo" (top 16) O_ 107),
 (114,J_ "row_modulo" 329 108 2 3 109 (R 110) N (R 111) (R 112) (R 113) 334 335),
 (115,I_ "row_modulo" (top 17) O_ 114),
 (119,J_ "monic_modulo" 337 110 2 3 116 (R 117) N N N (R 118) 340 341),
 (120,I_ "monic_modulo" (top 18) O_ 119),
 (126,J_ "split_modulo" 343 115 3 3 121 (R 122) N (R 123) (R 124) (R 125) 355 356),
 (127,I_ "split_modulo" (top 19) O_ 126),
 (133,J_ "rest_modulo" 358 126 3 3 128 (R 129) N (R 130) (R 131) (R 132) 364 365),
 (134,I_ "rest_modulo" (top 20) O_ 133),
 (140,J_ "euclid_modulo" 367 128 3 3 135 (R 136) N (R 137) (R 138) (R 139) 374 375),
 (141,I_ "euclid_modulo" (top 21) O_ 140),
 (147,J_ "nearest" 377 136 2 3 142 (R 143) N (R 144) (R 145) (R 146) 383 384),
 (148,I_ "nearest" (top 22) O_ 147),
 (152,J_ "common_by_prime" 386 139 3 3 149 (R 150) N N N (R 151) 389 390),
 (153,I_ "common_by_prime" (top 23) O_ 152),
 (159,J_ "row_common" 392 148 2 3 154 (R 155) N (R 156) (R 157) (R 158) 401 402),
 (160,I_ "row_common" (top 24) O_ 159),
 (166,J_ "ratio" 406 158 2 3 161 (R 162) N (R 163) (R 164) (R 165) 412 413),
 (167,I_ "ratio" (top 26) aH 166),
 (173,J_ "plus" 415 163 2 3 168 (R 169) N (R 170) (R 171) (R 172) 420 421),
 (174,I_ "plus" (top 27) aH 173),
 (180,J_ "minus" 423 165 2 3 175 (R 176) N (R 177) (R 178) (R 179) 428 429),
 (181,I_ "minus" (top 28) aH 180),
 (187,J_ "times" 431 167 2 3 182 (R 183) N (R 184) (R 185) (R 186) 436 437),
 (188,I_ "times" (top 29) aH 187),
 (194,J_ "over" 439 169 2 3 189 (R 190) N (R 191) (R 192) (R 193) 444 445),
 (195,I_ "over" (top 30) aH 194),
 (201,J_ "power" 447 171 2 3 196 (R 197) N (R 198) (R 199) (R 200) 454 455),
 (202,I_ "power" (top 31) aH 201),
 (208,J_ "poly" 459 180 1 3 203 (R 204) N (R 205) (R 206) (R 207) 464 465),
 (209,I_ "poly" (top 33) X_ 208),
 (213,J_ "cleared" 467 185 1 3 210 (R 211) N N N (R 212) 470 471),
 (214,I_ "cleared" (top 34) X_ 213),
 (218,J_ "uncleared" 473 190 2 3 215 (R 216) N N N (R 217) 476 477),
 (219,I_ "uncleared" (top 35) X_ 218),
 (225,J_ "number_of" 479 192 2 3 220 (R 221) N (R 222) (R 223) (R 224) 484 485),
 (226,I_ "number_of" (top 36) X_ 225),
 (232,J_ "x_to" 487 194 1 3 227 (R 228) N (R 229) (R 230) (R 231) 491 492),
 (233,I_ "x_to" (top 37) X_ 232),
 (237,J_ "p_plus" 494 196 2 3 234 (R 235) N N N (R 236) 497 498),
 (238,I_ "p_plus" (top 38) X_ 237),
 (242,J_ "p_minus" 500 198 2 3 239 (R 240) N N N (R 241) 503 504),
 (243,I_ "p_minus" (top 39) X_ 242),
 (249,J_ "p_times" 506 200 2 3 244 (R 245) N (R 246) (R 247) (R 248) 513 514),
 (250,I_ "p_times" (top 40) X_ 249),
 (254,J_ "p_scaled" 516 204 2 3 251 (R 252) N N N (R 253) 519 520),
 (255,I_ "p_scaled" (top 41) X_ 254),
 (261,J_ "p_split" 522 206 2 3 256 (R 257) N (R 258) (R 259) (R 260) 536 537),
 (262,I_ "p_split" (top 42) X_ 261),
 (268,J_ "common" 539 223 2 3 263 (R 264) N (R 265) (R 266) (R 267) 545 546),
 (269,I_ "common" (top 43) X_ 268),
 (273,J_ "p_moved" 548 226 2 3 270 (R 271) N N N (R 272) 551 552),
 (274,I_ "p_moved" (top 44) X_ 273),
 (280,J_ "fraction" 556 236 2 3 275 (R 276) N (R 277) (R 278) (R 279) 562 563),
 (281,I_ "fraction" (top 46) av 280),
 (287,J_ "evened" 565 239 2 3 282 (R 283) N (R 284) (R 285) (R 286) 571 572),
 (288,I_ "evened" (top 47) av 287),
 (294,J_ "quotient" 574 242 2 3 289 (R 290) N (R 291) (R 292) (R 293) 579 580),
 (295,I_ "quotient" (top 48) av 294),
 (301,J_ "f_poly" 582 244 1 3 296 (R 297) N (R 298) (R 299) (R 300) 586 587),
 (302,I_ "f_poly" (top 49) av 301),
 (308,J_ "f_number" 589 246 1 3 303 (R 304) N (R 305) (R 306) (R 307) 593 594),
 (309,I_ "f_number" (top 50) av 308),
 (315,J_ "f_plus" 596 248 2 3 310 (R 311) N (R 312) (R 313) (R 314) 605 606),
 (316,I_ "f_plus" (top 51) av 315),
 (322,J_ "f_times" 608 254 2 3 317 (R 318) N (R 319) (R 320) (R 321) 615 616),
 (323,I_ "f_times" (top 52) av 322),
 (333,J_ "in_root" 623 260 2 3 328 (R 329) N (R 330) (R 331) (R 332) 628 629),
 (334,I_ "in_root" (top 55) ag 333),
 (338,J_ "stretched" 631 262 2 3 335 (R 336) N N N (R 337) 634 635),
 (339,I_ "stretched" (top 56) ag 338),
 (345,J_ "spread" 637 264 2 3 340 (R 341) N (R 342) (R 343) (R 344) 644 645),
 (346,I_ "spread" (top 57) ag 345),
 (352,J_ "strand" 647 269 3 3 347 (R 348) N (R 349) (R 350) (R 351) 653 654),
 (353,I_ "strand" (top 58) ag 352),
 (359,J_ "joined" 656 271 2 3 354 (R 355) N (R 356) (R 357) (R 358) 665 666),
 (360,I_ "joined" (top 59) ag 359),
 (364,J_ "parted" 668 277 2 3 361 (R 362) N N N (R 363) 671 672),
 (365,I_ "parted" (top 60) ag 364),
 (371,J_ "strands_common" 674 285 2 3 366 (R 367) N (R 368) (R 369) (R 370) 681 682),
 (372,I_ "strands_common" (top 61) ag 371),
 (378,J_ "other_roots" 684 290 2 3 373 (R 374) N (R 375) (R 376) (R 377) 691 692),
 (379,I_ "other_roots" (top 62) ag 378),
 (383,J_ "other_two" 694 298 1 3 380 (R 381) N N N (R 382) 697 698),
 (384,I_ "other_two" (top 63) ag 383),
 (388,J_ "in_place" 700 304 2 3 385 (R 386) N N N (R 387) 703 704),
 (389,I_ "in_place" (top 64) ag 388),
 (395,J_ "_law_source" 708 308 2 3 390 (R 391) N (R 392) (R 393) (R 394) 718 719),
 (396,I_ "_law_source" (top 66) Z_ 395),
 (402,J_ "_law_take" 721 321 2 3 397 (R 398) N (R 399) (R 400) (R 401) 727 728),
 (403,I_ "_law_take" (top 67) Z_ 402),
 (409,J_ "_law_number" 730 327 1 3 404 (R 405) N (R 406) (R 407) (R 408) 735 736),
 (410,I_ "_law_number" (top 68) Z_ 409),
 (416,J_ "_law_kind" 738 334 1 3 411 (R 412) N (R 413) (R 414) (R 415) 743 744),
 (417,I_ "_law_kind" (top 69) Z_ 416),
 (421,J_ "_law_poly" 746 339 2 3 418 (R 419) N N N (R 420) 749 750),
 (422,I_ "_law_poly" (top 70) Z_ 421),
 (428,J_ "_law_fraction" 752 341 3 3 423 (R 424) N (R 425) (R 426) (R 427) 760 761),
 (429,I_ "_law_fraction" (top 71) Z_ 428),
 (435,J_ "_law_is_number" 763 347 1 3 430 (R 431) N (R 432) (R 433) (R 434) 768 769),
 (436,I_ "_law_is_number" (top 72) Z_ 435),
 (440,J_ "_law_is_fraction" 771 354 1 3 437 (R 438) N N N (R 439) 774 775),
 (441,I_ "_law_is_fraction" (top 73) Z_ 440),
 (447,J_ "_law_round" 777 361 2 3 442 (R 443) N (R 444) (R 445) (R 446) 783 784),
 (448,I_ "_law_round" (top 74) Z_ 447),
 (452,J_ "_law_right" 786 364 3 3 449 (R 450) N N N (R 451) 789 790),
 (453,I_ "_law_right" (top 75) Z_ 452),
 (459,J_ "law" 792 374 1 3 454 (R 455) N (R 456) (R 457) (R 458) 802 803),
 (460,I_ "law" (top 76) Z_ 459)]
noncomputable def as:dE:=[3,15,327,324,326,325,21,22,28,29,33,34,40,41,45,46,52,53,59,60,64,65,71,72,76,77,81,82,88,89,95,96,102,103,107,108,114,115,119,120,126,127,133,134,140,141,147,148,152,153,159,160,166,167,173,174,180,181,187,188,194,195,201,202,208,209,213,214,218,219,225,226,232,233,237,238,242,243,249,250,254,255,261,262,268,269,273,274,280,281,287,288,294,295,301,302,308,309,315,316,322,323,333,334,338,339,345,346,352,353,359,360,364,365,371,372,378,379,383,384,388,389,395,396,402,403,409,410,416,417,421,422,428,429,435,436,440,441,447,448,452,453,459,460]
noncomputable def vw:Program:=W.view PySem.Challenge.pw_backslope_k44_joined_then_parted [76]
noncomputable def lo:dw:=(["EXPONENTS", "common_divisor", "raised", "content", "row_trimmed", "row_parted", "row_times", "row_over", "row_less", "row_moved", "strand_rest", "strand_shortened", "row_shortened", "strand_euclid", "inverse_modulo", "rests_modulo", "row_modulo", "monic_modulo", "split_modulo", "rest_modulo", "euclid_modulo", "nearest", "common_by_prime", "row_common", "ratio"]:dw)++(["plus", "minus", "times", "over", "power", "poly", "cleared", "uncleared", "number_of", "x_to", "p_plus", "p_minus", "p_times", "p_scaled", "p_split", "common", "p_moved", "fraction", "evened", "quotient", "f_poly", "f_number", "f_plus", "f_times", "NOUGHT"]:dw)++(["in_root", "stretched", "spread", "strand", "joined", "parted", "strands_common", "other_roots", "other_two", "in_place", "_law_source", "_law_take", "_law_number", "_law_kind", "_law_poly", "_law_fraction", "_law_is_number", "_law_is_fraction", "_law_round", "_law_right"]:dw)
noncomputable def hk:W.Hook:=W.kHook hp as (λ_=>by kernel_rfl)
def left:W.LeftO PySem.Challenge.pw_backslope_k44_joined_then_parted vw lo (λs=>W.xlAt vw [] s && W.recOk (W.RowW.records (W.OpenRow.toRowW (W.OpenLaw.row PySem.Challenge.rw_backslope_k44_joined_then_parted))) s) hk.obs hk.val 4446:=λw=>by kernel_rfl
def sd:PySem.Challenge.rw_backslope_k44_joined_then_parted.wellSaid=true:=by decide +kernel
end Bs.Hd
namespace Bs
def Bd (n:Nat) (x:Int):Prop:=x.natAbs<2 ^ n
def Bd.mono {m n:Nat} {x:Int} (h:Bd m x) (a:m<=n):Bd n x:=CO h (EL ∅ a)
def Bd.le {n:Nat} {x y:Int} (h:Bd n x) (a:y.natAbs<=x.natAbs):Bd n y:=DQ a h
def Bd.neg {n:Nat} {x:Int} (h:Bd n x):Bd n (-x):=by unfold Bd at *;rw [Int.natAbs_neg];exact h
def Bd.add {n:Nat} {x y:Int} (h:Bd n x) (h':Bd n y):Bd (n+1) (x+y):=by
 unfold Bd at *;have:=Int.natAbs_add_le x y;rw [CU];omega
def Bd.sub {n:Nat} {x y:Int} (h:Bd n x) (h':Bd n y):Bd (n+1) (x - y):=by
 rw [Int.sub_eq_add_neg];exact h.add h'.neg
def Bd.mul {m n:Nat} {x y:Int} (h:Bd m x) (h':Bd n y):Bd (m+n) (x*y):=by
 unfold Bd at *;rw [BN,Cj];exact Nat.mul_lt_mul'' h h'
def Xv {x:Int} (a:-18446744073709551616<x) (b:x<18446744073709551616):Bd 64 x:=by
 unfold Bd;have:(2:Nat) ^ 64=18446744073709551616:=by decide
 rw [this];omega
def Bd.log2 {n:Nat} {x:Int} (h:Bd n x) (a:0<n):x.natAbs.log2<n:=by
 unfold Bd at h;rcases Cc x.natAbs with b | hp
 ·rw [b];simpa using a
 ·exact (Nat.log2_lt (Nat.ne_of_gt hp)).mpr h
structure Low (t d:Int):Prop where
 pos:0<d
 one:Int.gcd t d=1
def O7 (a b:Int):Int.gcd b (a.fmod b)=Int.gcd a b:=by
 have e:a.fmod b=a - b*a.fdiv b:=Int.fmod_def a b;rw [e];apply Nat.dvd_antisymm
 ·apply Int.dvd_gcd
  ·have f:=Et b (a - b*a.fdiv b);have g:=Dy b (a - b*a.fdiv b);have d:=Ck g (GG (c:=a.fdiv b) f);rw [Int.sub_add_cancel] at d;exact d
  ·exact Et b _
 ·apply Int.dvd_gcd
  ·exact Dy a b
  ·exact Int.dvd_sub (Et a b) (GG (Dy a b))
def O8 (a:Int) {b:Int} (h:0<=b):Int.gcd b (a % b)=Int.gcd a b:=by
 rw [<-Int.fmod_eq_emod_of_nonneg a h,O7]
def Xw (a:Int) {b:Int} (h:b≠0):(a.fmod b).natAbs<b.natAbs:=by
 rcases Int.lt_or_gt_of_ne h with d | d
 ·rw [Int.fmod_eq_emod];have e:=Cd a h;have f:=Int.emod_lt a h;split
  ·rename_i c;rcases c with c | c
   ·omega
   ·have:a % b=0:=Int.emod_eq_zero_of_dvd c;omega
  ·rename_i c;have:a % b≠0:=λz=>c (.inr (Int.dvd_of_emod_eq_zero z));omega
 ·rw [Int.fmod_eq_emod_of_nonneg a (DS d)];have e:=Cd a h;have f:=Ct a d;omega
def Lk {a b s:Int} (m:b≠0) (j:s=if b<0 then -((Int.gcd a b:Nat):Int) else ((Int.gcd a b:Nat):Int)) :
  s≠0/\s.natAbs<=b.natAbs/\Low (a.fdiv s) (b.fdiv s)/\a.fdiv s*b=a*b.fdiv s/\(a.fdiv s).natAbs<=a.natAbs/\(b.fdiv s).natAbs<=b.natAbs:=by
 have w:0<Int.gcd a b:=Int.gcd_pos_of_ne_zero_right a m;have e:s.natAbs=Int.gcd a b:=by rw [j];split <;> simp
 have k:s≠0:=by intro z;rw [z] at e;simp at e;omega
 have p:s∣a:=by
  rw [<-Int.natAbs_dvd,e];exact Et a b
 have q:s∣b:=by
  rw [<-Int.natAbs_dvd,e];exact Dy a b
 obtain ⟨t,rfl⟩:=p;obtain ⟨d,rfl⟩:=q;rw [Int.mul_fdiv_cancel_left _ k,Int.mul_fdiv_cancel_left _ k];have n:d≠0:=by rintro rfl;simp at m
 have o:1<=s.natAbs:=by omega
 have r:Int.gcd t d=1:=by
  rw [Int.gcd_mul_left] at e;have u:s.natAbs*Int.gcd t d=s.natAbs*1:=by omega
  exact Nat.eq_of_mul_eq_mul_left o u
 have v:0<d:=by
  by_cases h:s*d<0
  ·rw [mF h] at j;have f:s<0:=by omega
   rcases Int.lt_or_gt_of_ne n with c | c
   ·have:=Int.mul_pos_of_neg_of_neg f c;omega
   ·exact c
  ·rw [mE h] at j;have g:0<s:=by omega
   rcases Int.lt_or_gt_of_ne n with c | c
   ·have:=Int.mul_neg_of_pos_of_neg g c;omega
   ·exact c
 have i:∀ y:Int,y.natAbs<=(s*y).natAbs:=λy=>by
  rw [BN];exact HE _ o
 refine ⟨k,?_,⟨v,r⟩,?_,i t,i d⟩
 ·rw [BN];exact Nat.le_mul_of_pos_right _ ⋯
 ·ext
def Ln {a b:Int} (f:0<b):Low (a / ((Int.gcd a b:Nat):Int)) (b / ((Int.gcd a b:Nat):Int))/\(a / ((Int.gcd a b:Nat):Int)).natAbs<=a.natAbs/\(b / ((Int.gcd a b:Nat):Int)).natAbs<=b.natAbs/\0<((Int.gcd a b:Nat):Int)/\((Int.gcd a b:Nat):Int)<=b:=by
 have g:0<Int.gcd a b:=Int.gcd_pos_of_ne_zero_right a ⋯;obtain ⟨_,h,c,i,d,e⟩:=Lk (a:=a) (b:=b) (s:=((Int.gcd a b:Nat):Int)) ⋯ (by rw [mE ⋯]);rw [EM _ ⋯,EM _ ⋯] at c;rw [EM _ ⋯] at d e;exact ⟨c,d,e,⋯,⋯⟩
end Bs
namespace Bs
open PySem L2
def Lo (_ j:Int):Prop:=0<j/\Bd 9000 j
def Xx (_ j:Int):Prop:=j≠0/\Bd 9000 j
def Lq (i j:Int):Prop:=0<=j/\j<=1000000/\i.natAbs<2 ^ 64
abbrev BZ:R2:=ap λi j=>.int (i+j)
abbrev BA:R2:=ap λi j=>.int (i - j)
abbrev A4:R2:=rI IntMulOk λi j=>.int (i*j)
abbrev Lr:R2:=rI Lo λi j=>.int (i / j)
abbrev Xy:R2:=rI Xx λi j=>.int (i.fdiv j)
abbrev Cn:R2:=rI (λ_ j=>0<j) λi j=>.int (i % j)
abbrev O9:R2:=rI (λ_ j=>j≠0) λi j=>.int (i.fmod j)
abbrev IM:R2:=rI Lq λi j=>.int (i ^ j.toNat)
abbrev bI:R2:=ap λi j=>.bl (decide (i<j))
abbrev iLe:R2:=ap λi j=>.bl (decide (i<=j))
abbrev az:R2:=ap λi j=>.bl (decide (j<i))
abbrev cf:R2:=ap λi j=>.bl (decide (j<=i))
abbrev Bk:V->Hp->VK->Prop:=rU λi=>.int (-i)
def gT:R2:=λx y H Q=>∃ p i a v,x=.ref p/\y=.int i/\H p=some (.tup a)/\N_ a i=some v/\Q v H
def gL:R2:=λx y H Q=>∃ p i a v,x=.ref p/\y=.int i/\H p=some (.lst a)/\N_ a i=some v/\Q v H
def gS (K:W.Frag):R2:=λx y H Q=>∃ p i a v,x=.ref p/\y=.int i/\SqL K H p a/\N_ a i=some v/\Q v H
def GZ:d7->Hp->VK->Prop:=λa H Q=>∃ i,a=[.int i]/\Q (.int (if i<0 then -i else i)) H
def Ga:d7->Hp->VK->Prop:=λa H Q=>∃ i j,a=[.int i,.int j]/\Q (.int (if j > i then j else i)) H
def Xz:d7->Hp->VK->Prop:=λa H Q=>∃ i j,a=[.int i,.int j]/\Q (.int (if j<i then j else i)) H
def IN:d7->Hp->VK->Prop:=λa H Q=>∃ k,a=[.bl k]/\Q (.int (if k=true then 1 else 0)) H
def DV:d7->Hp->VK->Prop:=λb H Q=>∃ p a,b=[.ref p]/\H p=some (.tup a)/\Q (.int a.length) H
def CG:d7->Hp->VK->Prop:=λb H Q=>∃ p a,b=[.ref p]/\H p=some (.lst a)/\Q (.int a.length) H
def IO (K:W.Frag):d7->Hp->VK->Prop:=λb H Q=>∃ p a,b=[.ref p]/\SqL K H p a/\Q (.int a.length) H
noncomputable def IP:Option HO->String->Option Bool
 | some (.tup _),n=>if n = "tuple" then some true else if n = "bool" \/ n = "int" \/ n = "list" then some false else none
 | some (.lst _),n=>if n = "list" then some true else if n = "bool" \/ n = "int" \/ n = "tuple" then some false else none
 | _,_=>none
noncomputable def FZ (H:Hp):V->String->Option Bool
 | .int _,n=>if n = "int" then some true else if n = "bool" \/ n = "tuple" \/ n = "list" then some false else none
 | .bl _,n=>if n = "int" \/ n = "bool" then some true else if n = "tuple" \/ n = "list" then some false else none
 | .ref p,n=>IP (H p) n
 | _,_=>none
def Fa:d7->Hp->VK->Prop:=λa H Q=>∃ x n b,a=[x,.ty n]/\FZ H x n=some b/\Q (.bl b) H
def X3 (H:Hp) (i:Int):FZ H (.int i) "int" = some true:=rfl
def X4 (H:Hp) (i:Int):FZ H (.int i) "bool" = some false:=rfl
def X5 (H:Hp) (b:Bool):FZ H (.bl b) "bool" = some true:=rfl
def Ls {H:Hp} {p:Addr} {xs:d7} (h:H p=some (.tup xs)):FZ H (.ref p) "tuple" = some true:=by
 show IP (H p) "tuple" = _;rw [h];rfl
noncomputable def PB:V->Bool
 | .int _=>true
 | _=>false
def eqT:R2:=λx y H Q=>∃ a b c d,x=.ref a/\y=.ref b/\H a=some (.tup c)/\H b=some (.tup d)/\c.all PB=true/\d.all PB=true/\Q (.bl (decide (c=d))) H
def ForR (lo:Int) (n:Nat) (g:TG) (f:TS) (D:Ends) (a:St) (H:Hp):Prop:=∃ W:Nat->Nat->St->Hp->Prop,(∃ m,W 0 m a H)/\∀ i m a H,W i m a H->
 ((aF lo n).stop i H/\D.nx a H)\/((aF lo n).go i H/\∃ N:St->Hp->Prop,(∀ b c,N b c->∃ e,e<m/\W (i+1) e b c)/\∀ x c,(aF lo n).yld i H x c->g x a c λd h=>f { D with nx:=N,ct:=N,bk:=D.nx } d h)
def X6 {b:TA} {g:TG} {c:TS} {D:Ends} {a:St} {H:Hp}:BT (Cg b) g c D a H=b a H (λd e=>∃ j:Int,d=[.int j]/\-(2 ^ 62)<=j/\j<2 ^ 62/\ForR 0 j.toNat g c D a e):=rfl
def ForR.by {lo:Int} {n:Nat} {g:TG} {c:TS} {D:Ends} {a:St} {H:Hp} (Pv:Nat->St->Hp->Prop) (d:Pv 0 a H)
  (e:∀ i a H,i<n->Pv i a H->g (.int (lo+i)) a H λb f=>c { D with nx:=Pv (i+1),ct:=Pv (i+1),bk:=D.nx } b f) (h:∀ a H,Pv n a H->D.nx a H):ForR lo n g c D a H:=Vy Pv d e h
def ForT (K:W.Frag) (a:Addr) (g:TG) (h:TS) (D:Ends) (b:St) (H:Hp):Prop:=∃ W:Nat->Nat->St->Hp->Prop,(∃ m,W 0 m b H)/\∀ i m b H,W i m b H->
 ((aE K a).stop i H/\D.nx b H)\/((aE K a).go i H/\∃ N:St->Hp->Prop,(∀ c d,N c d->∃ f,f<m/\W (i+1) f c d)/\∀ x d,(aE K a).yld i H x d->g x b d λe j=>h { D with nx:=N,ct:=N,bk:=D.nx } e j)
def ForL (K:W.Frag) (a:Addr) (g:TG) (h:TS) (D:Ends) (b:St) (H:Hp):Prop:=∃ W:Nat->Nat->St->Hp->Prop,(∃ m,W 0 m b H)/\∀ i m b H,W i m b H->
 ((ax K a).stop i H/\D.nx b H)\/((ax K a).go i H/\∃ N:St->Hp->Prop,(∀ c d,N c d->∃ f,f<m/\W (i+1) f c d)/\∀ x d,(ax K a).yld i H x d->g x b d λe j=>h { D with nx:=N,ct:=N,bk:=D.nx } e j)
def X8 {K:W.Frag} {c:TE} {g:TG} {d:TS} {D:Ends} {b:St} {H:Hp}:BT (DH K c) g d D b H=c b H (λx e=>∃ a,x=.ref a/\(∃ f,SqT K e a f)/\ForT K a g d D b e):=rfl
def YA {K:W.Frag} {c:TE} {g:TG} {d:TS} {D:Ends} {b:St} {H:Hp}:BT (DG K c) g d D b H=c b H (λx e=>∃ a,x=.ref a/\(∃ f,SqL K e a f)/\ForL K a g d D b e):=rfl
def ForT.by {K:W.Frag} {a:Addr} {xs:d7} {g:TG} {d:TS} {D:Ends} {b:St} {H:Hp} (Pv:Nat->St->Hp->Prop) (e:Pv 0 b H) (f:∀ i b H,i<=xs.length->Pv i b H->H a=some (.tup xs))
  (j:∀ i x b H,xs[i]?=some x->Pv i b H->g x b H λc k=>d { D with nx:=Pv (i+1),ct:=Pv (i+1),bk:=D.nx } c k) (m:∀ b H,Pv xs.length b H->D.nx b H):ForT K a g d D b H:=
 LZ Pv e (λi b H h p=>SqT.of (f i b H h p)) j m
def ForL.by {K:W.Frag} {a:Addr} {xs:d7} {g:TG} {d:TS} {D:Ends} {b:St} {H:Hp} (Pv:Nat->St->Hp->Prop) (e:Pv 0 b H) (f:∀ i b H,i<=xs.length->Pv i b H->SqL K H a xs)
  (h:∀ i x b H,xs[i]?=some x->Pv i b H->g x b H λc j=>d { D with nx:=Pv (i+1),ct:=Pv (i+1),bk:=D.nx } c j) (k:∀ b H,Pv xs.length b H->D.nx b H):ForL K a g d D b H:=
 Vx Pv e f h k
def E4 {c:TT} {e:TS} {D:Ends} {a:St} {H:Hp} (W:Nat->St->Hp->Prop) (m:Nat) (i:W m a H)
  (j:∀ m a H,W m a H->c a H λb f=>if b=true then ∃ N:St->Hp->Prop,(∀ d g,N d g->∃ h,h<m/\W h d g)/\e { D with nx:=N,ct:=N,bk:=D.nx } a f else D.nx a f):D8 c e D a H:=⟨W,⟨m,i⟩,j⟩
def Kp (p:Addr) (H a:Hp):Prop:=∀ b o,b≠p->H b=some o->a b=some o
def Kp.trans {p:Addr} {H d e:Hp} (a:Kp p H d) (b:Kp p d e):Kp p H e:=λc o n h=>b c o n (a c o n h)
def Kp.same {p:Addr} {H d e:Hp} (a:Kp p H d) (b:Same d e):Kp p H e:=λc o n h=>b c o (a c o n h)
def Kp.of_same {p:Addr} {H a:Hp} (b:Same H a):Kp p H a:=λc o _ h=>b c o h
def Kp.upd {p:Addr} {H:Hp} {o:HO}:Kp p H (upd H p o):=λb u n h=>by rw [Ar n];exact h
def AR {H:Hp} {p:Addr} (h:H p=none) (o:HO):Same H (upd H p o):=λb u q=>by rw [Ar (Bi q h)];exact q
def sz {n:Nat} (h:n<=1000000):n<=sizeLine:=by rw [sizeLine_eq];omega
def YB {c:Type} (a b:c):N_ [a,b] 0=some a:=rfl
def YC {c:Type} (a b:c):N_ [a,b] 1=some b:=rfl
def YD {d:Type} (a b c:d):N_ [a,b,c] 0=some a:=rfl
def YE {d:Type} (a b c:d):N_ [a,b,c] 1=some b:=rfl
def YF {d:Type} (a b c:d):N_ [a,b,c] 2=some c:=rfl
def YG (a b:Int):scal (.int a) (.int b)=true:=rfl
def YH (a b:Bool):scal (.bl a) (.bl b)=true:=rfl
def YI:aq 3 0=some 0:=rfl
def YJ:aq 3 2=some 2:=rfl
end Bs
namespace Bs
open PySem PySem.Spec PyProof.Rows L2
def IQ:bootBuiltins "abs" = some (.builtin "abs"):=by decide +kernel
def BL:bootBuiltins "len" = some (.builtin "len"):=by decide +kernel
def IR:bootBuiltins "max" = some (.builtin "max"):=by decide +kernel
def YK:bootBuiltins "min" = some (.builtin "min"):=by decide +kernel
def IS:bootBuiltins "isinstance" = some (.builtin "isinstance"):=by decide +kernel
def YL:bootBuiltins "all" = some (.builtin "all"):=by decide +kernel
def YM:bootBuiltins "sum" = some (.builtin "sum"):=by decide +kernel
def Jr:bootBuiltins "int" = some (.type "int"):=by decide +kernel
def YN:bootBuiltins "bool" = some (.type "bool"):=by decide +kernel
def Fb:bootBuiltins "tuple" = some (.type "tuple"):=by decide +kernel
def Js:bootBuiltins "list" = some (.type "list"):=by decide +kernel
def PC:bootBuiltins "enumerate" = some (.type "enumerate"):=by decide +kernel
def PD:bootBuiltins "zip" = some (.type "zip"):=by decide +kernel
section
variable {X:Cx}
def PH {n:Nat} {x:Int} (h:Bd n x):Builtin.Int.intBits x<=n:=by
 unfold Builtin.Int.intBits;split
 ·exact Ab _
 ·rename_i a
  have b:x.natAbs≠0:=λz=>a (by have e:x=0:=by omega
                               subst e;rfl)
  have:=(Nat.log2_lt b).mpr h;omega
def BI:OpR X (binaryOp .Mult) A4:=bO λ_ _ _ _ _ _ _ a q=>mul_int q a
def Jt:OpR X (inplaceOp .Mult) A4:=bO λ_ _ _ _ _ _ _ a q=>imul_int q a
def Lu:OpR X (binaryOp .Pow) IM:=bO λ_ _ _ _ _ _ _ a q=>pow_int_small a.1 a.2.1 a.2.2 q
def Ae:a_ X gT:=by
 intro a b c s d H x y v u Q I e f h g;obtain ⟨p,i,j,w,k,m,hp,n,q⟩:=h;exact Oz a b c s d H x y v u Q I e f ⟨p,j,i,w,k,m,SqT.of hp,n,q⟩ g
def A3:a_ X gL:=by
 intro a b c s d H x y v u Q I e f h g;obtain ⟨p,i,j,w,k,m,hp,n,q⟩:=h;exact Oy a b c s d H x y v u Q I e f ⟨p,j,i,w,k,m,SqL.of hp,n,q⟩ g
def PJ:a_ X (gS X.K):=by
 intro a b c s d H x y v u Q I e f h g;obtain ⟨p,i,j,w,k,m,hp,n,q⟩:=h;exact Oy a b c s d H x y v u Q I e f ⟨p,j,i,w,k,m,hp,n,q⟩ g
def IT:CL X (.builtin "abs") GZ:=V8
def IU (a:X.calm=true):CL X (.builtin "max") Ga:=V9 a
def Lv:CL X (.type "int") IN:=λa s b H c d Q I r h=>WA a s b H c d Q I r (.inr h)
def EC:CL X (.builtin "len") DV:=λa s b H c d Q I r h=>by
 obtain ⟨p,f,e,hp,q⟩:=h;exact Jo a s b H c d Q I r ⟨p,f,e,.inr (SqT.of hp),q⟩
def CT:CL X (.builtin "len") CG:=λa s b H c d Q I r h=>by
 obtain ⟨p,f,e,hp,q⟩:=h;exact Jo a s b H c d Q I r ⟨p,f,e,.inl (SqL.of hp),q⟩
def Lx:CL X (.builtin "len") (IO X.K):=λa s b H c d Q I r h=>by
 obtain ⟨p,f,e,hp,q⟩:=h;exact Jo a s b H c d Q I r ⟨p,f,e,.inl hp,q⟩
def YO (K:W.Frag):W.kitOne K (.type "int") (.type "bool")=some false:=by kernel_rfl
def YQ (K:W.Frag):W.kitOne K (.type "int") (.type "tuple")=some false:=by kernel_rfl
def YR (K:W.Frag):W.kitOne K (.type "int") (.type "list")=some false:=by kernel_rfl
def YS (K:W.Frag):W.kitOne K (.type "bool") (.type "int")=some true:=by kernel_rfl
def YT (K:W.Frag):W.kitOne K (.type "bool") (.type "tuple")=some false:=by kernel_rfl
def YU (K:W.Frag):W.kitOne K (.type "bool") (.type "list")=some false:=by kernel_rfl
def YV (K:W.Frag):W.kitOne K (.type "tuple") (.type "bool")=some false:=by kernel_rfl
def YW (K:W.Frag):W.kitOne K (.type "tuple") (.type "int")=some false:=by kernel_rfl
def YX (K:W.Frag):W.kitOne K (.type "tuple") (.type "list")=some false:=by kernel_rfl
def YY (K:W.Frag):W.kitOne K (.type "list") (.type "bool")=some false:=by kernel_rfl
def YZ (K:W.Frag):W.kitOne K (.type "list") (.type "int")=some false:=by kernel_rfl
def Yb (K:W.Frag):W.kitOne K (.type "list") (.type "tuple")=some false:=by kernel_rfl
def Ju (K:W.Frag) (n:String):W.kitOne K (.type n) (.type n)=some true:=by
 unfold W.kitOne;rw [mF (beq_self_eq_true _)]
theorem Yc {H:Hp} {x:V} {n:String} {b:Bool} (K:W.Frag) (h:FZ H x n=some b):∃ t,TyOf K H x t/\W.kitOne K t (.type n)=some b:=by
 cases x with
 | int i=>
   refine ⟨_,.int i,?_⟩;unfold FZ at h;dsimp only at h;split at h
   ·rename_i e;cases h;subst e;exact Ju K _
   ·split at h
    ·rename_i e;cases h;rcases e with rfl | rfl | rfl
     ·exact YO K
     ·exact YQ K
     ·exact YR K
    ·cases h
 | bl i=>
   refine ⟨_,.bl i,?_⟩;unfold FZ at h;dsimp only at h;split at h
   ·rename_i e;cases h;rcases e with rfl | rfl
    ·exact YS K
    ·exact Ju K _
   ·split at h
    ·rename_i e;cases h;rcases e with rfl | rfl
     ·exact YT K
     ·exact YU K
    ·cases h
 | ref p=>
   have a:IP (H p) n=some b:=h;cases e:H p with
   | none=>rw [e] at a;cases a
   | some o=>
     rw [e] at a;cases o with
     | tup c=>
       refine ⟨_,.tup e,?_⟩;unfold IP at a;dsimp only at a;split at a
       ·rename_i e;cases a;subst e;exact Ju K _
       ·split at a
        ·rename_i e;cases a;rcases e with rfl | rfl | rfl
         ·exact YV K
         ·exact YW K
         ·exact YX K
        ·cases a
     | lst c=>
       refine ⟨_,.lst e,?_⟩;unfold IP at a;dsimp only at a;split at a
       ·rename_i e;cases a;subst e;exact Ju K _
       ·split at a
        ·rename_i e;cases a;rcases e with rfl | rfl | rfl
         ·exact YY K
         ·exact YZ K
         ·exact Yb K
        ·cases a
     | _=>cases a
 | _=>cases h
def IV:CL X (.builtin "isinstance") Fa:=λc s j H m o Q I r h=>by
 obtain ⟨x,n,b,rfl,e,q⟩:=h;obtain ⟨u,d,rfl,f,rn⟩:=vals2 r;have a:d=Value.type n:=rn;subst a;obtain ⟨t,g,k⟩:=Yc X.K e;exact WD I f g k λi=>⟨.bl b,H,I.tok i,rfl,q⟩
end
structure Cal (P:Program) (w:World) (K:W.Frag) (mg:dq) (base:Heap) (n:Nat) (x:Str) (ps:dw) (sp:Sp):Prop where
 ex:∃ (f:Addr) (fd:FuncData),FnOk P w K mg base aN n f fd ps sp/\Binds K fd ps []/\W.keepIn K (.ref f)=true/\mg x=some (.ref f)
def Cal.pe {X:Cx} {n m:Nat} {x:Str} {ps:dw} {sp:Sp} {e:Expr} {a:du} {t:TA} {p c:Pos} (C:Cal X.prog X.w X.K X.mg X.base n x ps sp) (h:Room m X.A) (i:n<=m) (j:Gl X x) (o:PA X (e::a) t)
  (d:(x == ("__debug__" : Str))=false:=by decide) (q:starEach (e::a) X.env=(false,eval e X.env)::starEach a X.env:=by rfl) (g:(backTo c (starEach a X.env)).any (·.1)=false:=by rfl) :
  PE X (.Call (.Name x p) (e::a) [] c) (AE sp [] E0 t):=by
 obtain ⟨f,r,F,b,k,m⟩:=C.ex;exact WF F (h.mono i) j m k b .nil Wg o d q g
end Bs
namespace Bs
open PySem L2
noncomputable def CY (capt:List (Option Nat)) (a:L2.St):L2.St:=capt.map λo=>o.bind λj=>(a[j]?).join
def BY (e:TI) (capt:List (Option Nat)) (g:TG) (f:TE):TE:=λc H Q=>e c H λJ h=>∃ (n:Nat) (W:Nat->d7->Hp->Prop),W 0 [] h/\∀ i a H,W i a H->i<=n/\a.length<=sizeLine/\
 ((J.stop i H/\∀ p,H p=none->Q (.ref p) (upd H p (.lst a)))\/(i<n/\J.go i H/\∀ x d,J.yld i H x d->g x (CY capt c) d λb j=>f b j λy k=>W (i+1) (a++[y]) k))
def CompJ (J:It) (capt:List (Option Nat)) (g:TG) (d:TE) (e:L2.St) (Q:VK) (f:Hp):Prop:=∃ (n:Nat) (W:Nat->d7->Hp->Prop),W 0 [] f/\∀ i a H,W i a H->i<=n/\a.length<=sizeLine/\
 ((J.stop i H/\∀ p,H p=none->Q (.ref p) (upd H p (.lst a)))\/(i<n/\J.go i H/\∀ x c,J.yld i H x c->g x (CY capt e) c λb h=>d b h λy j=>W (i+1) (a++[y]) j))
section
variable {K:W.Frag} {ta:TA} {tl:TE} {capt:List (Option Nat)} {g:TG} {te:TE} {σ:L2.St} {H:Hp} {Q:VK}
def Ye:BY (Cg ta) capt g te σ H Q=ta σ H (λa b=>∃ j:Int,a=[.int j]/\-(2 ^ 62)<=j/\j<2 ^ 62/\CompJ (aF 0 j.toNat) capt g te σ Q b):=rfl
def Yg:BY (DH K tl) capt g te σ H Q=tl σ H (λx b=>∃ a,x=.ref a/\(∃ c,SqT K b a c)/\CompJ (aE K a) capt g te σ Q b):=rfl
def Yh:BY (DG K tl) capt g te σ H Q=tl σ H (λx b=>∃ a,x=.ref a/\(∃ c,SqL K b a c)/\CompJ (ax K a) capt g te σ Q b):=rfl
def CompJ.range {lo:Int} {n:Nat} (W:Nat->d7->Hp->Prop) (d:W 0 [] H) (b:∀ i a H,W i a H->i<=n/\a.length<=sizeLine)
  (f:∀ i a H,i<n->W i a H->g (.int (lo+i)) (CY capt σ) H λc j=>te c j λy k=>W (i+1) (a++[y]) k) (m:∀ a H,W n a H->∀ p,H p=none->Q (.ref p) (upd H p (.lst a))):CompJ (aF lo n) capt g te σ Q H:=by
 refine ⟨n,W,d,λi a H w=>⟨(b i a H w).1,(b i a H w).2,?_⟩⟩;by_cases h:i<n
 ·refine .inr ⟨h,h,λx o y=>?_⟩;obtain ⟨e,y⟩:=y;subst e y;exact f i a _ h w
 ·have e:i=n:=Dz (b i a H w).1 (Nat.not_lt.mp h);subst e;exact .inl ⟨AM _,m a H w⟩
def CompJ.tup {a:Addr} {xs:d7} (W:Nat->d7->Hp->Prop) (f:W 0 [] H) (c:∀ i b H,W i b H->i<=xs.length/\b.length<=sizeLine/\H a=some (.tup xs))
  (j:∀ i x b H,xs[i]?=some x->W i b H->g x (CY capt σ) H λd k=>te d k λy m=>W (i+1) (b++[y]) m) (n:∀ b H,W xs.length b H->∀ p,H p=none->Q (.ref p) (upd H p (.lst b))):CompJ (aE K a) capt g te σ Q H:=by
 refine ⟨xs.length,W,f,λi b H w=>⟨(c i b H w).1,(c i b H w).2.1,?_⟩⟩;have q:SqT K H a xs:=SqT.of (c i b H w).2.2;by_cases h:i<xs.length
 ·refine .inr ⟨h,⟨xs,xs[i],q,by simp [h]⟩,λx o y=>?_⟩;obtain ⟨e,y⟩:=y;subst e;exact j i x b _ (y xs q) w
 ·have e:i=xs.length:=Dz (c i b H w).1 (Nat.not_lt.mp h);subst e;exact .inl ⟨⟨xs,q,AM _⟩,n b H w⟩
def CompJ.lst {a:Addr} {xs:d7} (W:Nat->d7->Hp->Prop) (f:W 0 [] H) (c:∀ i b H,W i b H->i<=xs.length/\b.length<=sizeLine/\SqL K H a xs)
  (j:∀ i x b H,xs[i]?=some x->W i b H->g x (CY capt σ) H λd k=>te d k λy m=>W (i+1) (b++[y]) m) (n:∀ b H,W xs.length b H->∀ p,H p=none->Q (.ref p) (upd H p (.lst b))):CompJ (ax K a) capt g te σ Q H:=by
 refine ⟨xs.length,W,f,λi b H w=>⟨(c i b H w).1,(c i b H w).2.1,?_⟩⟩;have q:SqL K H a xs:=(c i b H w).2.2;by_cases h:i<xs.length
 ·refine .inr ⟨h,⟨xs,xs[i],q,by simp [h]⟩,λx o y=>?_⟩;obtain ⟨e,y⟩:=y;subst e;exact j i x b _ (y xs q) w
 ·have e:i=xs.length:=Dz (c i b H w).1 (Nat.not_lt.mp h);subst e;exact .inl ⟨⟨xs,q,AM _⟩,n b H w⟩
end
noncomputable def HM (K:W.Frag) (a:Addr):It:=
 ⟨λi H=>∃ b x,SqL K H a b/\b[i]?=some x,λi H v c=>∃ p x,H p=none/\v=.ref p/\c=upd H p (.tup [.int i,x])/\∀ b,SqL K H a b->b[i]?=some x,λi H=>∃ b,SqL K H a b/\b.length<=i⟩
noncomputable def Gb (K:W.Frag) (a:Addr):It:=
 ⟨λi H=>∃ b x,SqT K H a b/\b[i]?=some x,λi H v c=>∃ p x,H p=none/\v=.ref p/\c=upd H p (.tup [.int i,x])/\∀ b,SqT K H a b->b[i]?=some x,λi H=>∃ b,SqT K H a b/\b.length<=i⟩
def Fd (K:W.Frag) (c:TA):TI:=λd H R=>c d H λe b=>∃ a,e=[.ref a]/\(∃ f,SqL K b a f)/\R (HM K a) b
def HN (K:W.Frag) (c:TA):TI:=λd H R=>c d H λe b=>∃ a,e=[.ref a]/\(∃ f,SqT K b a f)/\R (Gb K a) b
def ForJ (J:It) (g:TG) (f:TS) (D:Ends) (a:L2.St) (H:Hp):Prop:=∃ W:Nat->Nat->L2.St->Hp->Prop,(∃ m,W 0 m a H)/\∀ i m a H,W i m a H->
 (J.stop i H/\D.nx a H)\/(J.go i H/\∃ N:L2.St->Hp->Prop,(∀ b c,N b c->∃ e,e<m/\W (i+1) e b c)/\∀ x c,J.yld i H x c->g x a c λd h=>f { D with nx:=N,ct:=N,bk:=D.nx } d h)
section
variable {K:W.Frag} {ta:TA} {g:TG} {tb:TS} {D:Ends} {σ:L2.St} {H:Hp} {a:Addr} {xs:d7}
def Yi:BT (Fd K ta) g tb D σ H=ta σ H (λc b=>∃ a,c=[.ref a]/\(∃ xs,SqL K b a xs)/\ForJ (HM K a) g tb D σ b):=rfl
def Yj:BT (HN K ta) g tb D σ H=ta σ H (λc b=>∃ a,c=[.ref a]/\(∃ xs,SqT K b a xs)/\ForJ (Gb K a) g tb D σ b):=rfl
def Yk {capt:List (Option Nat)} {b:TE} {Q:VK}:BY (Fd K ta) capt g b σ H Q=ta σ H (λd c=>∃ a,d=[.ref a]/\(∃ xs,SqL K c a xs)/\CompJ (HM K a) capt g b σ Q c):=rfl
def ForJ.enumL (Pv:Nat->L2.St->Hp->Prop) (d:Pv 0 σ H) (f:∀ i σ H,i<=xs.length->Pv i σ H->SqL K H a xs)
  (h:∀ i x p σ H,xs[i]?=some x->Pv i σ H->H p=none->g (.ref p) σ (upd H p (.tup [.int i,x])) λb j=>tb { D with nx:=Pv (i+1),ct:=Pv (i+1),bk:=D.nx } b j) (k:∀ σ H,Pv xs.length σ H->D.nx σ H):ForJ (HM K a) g tb D σ H:=by
 refine ⟨λi m σ H=>m=xs.length - i/\i<=xs.length/\Pv i σ H,⟨xs.length,by simp,Ab _,d⟩,?_⟩;rintro i m σ H ⟨rfl,n,pv⟩;have q:=f i σ H n pv;by_cases c:i<xs.length
 ·refine .inr ⟨⟨xs,xs[i],q,by simp [c]⟩,Pv (i+1),λo r u=>⟨xs.length - (i+1),⋯,rfl,c,u⟩,λx r y=>?_⟩;obtain ⟨p,v,hp,rfl,rfl,y⟩:=y;exact h i v p σ _ (y xs q) pv hp
 ·have e:i=xs.length:=by omega
  subst e;exact .inl ⟨⟨xs,q,AM _⟩,k σ H pv⟩
def ForJ.enumT (Pv:Nat->L2.St->Hp->Prop) (d:Pv 0 σ H) (f:∀ i σ H,i<=xs.length->Pv i σ H->H a=some (.tup xs))
  (h:∀ i x p σ H,xs[i]?=some x->Pv i σ H->H p=none->g (.ref p) σ (upd H p (.tup [.int i,x])) λb j=>tb { D with nx:=Pv (i+1),ct:=Pv (i+1),bk:=D.nx } b j) (k:∀ σ H,Pv xs.length σ H->D.nx σ H):ForJ (Gb K a) g tb D σ H:=by
 refine ⟨λi m σ H=>m=xs.length - i/\i<=xs.length/\Pv i σ H,⟨xs.length,by simp,Ab _,d⟩,?_⟩;rintro i m σ H ⟨rfl,n,pv⟩;have q:SqT K H a xs:=SqT.of (f i σ H n pv);by_cases c:i<xs.length
 ·refine .inr ⟨⟨xs,xs[i],q,by simp [c]⟩,Pv (i+1),λo r u=>⟨xs.length - (i+1),⋯,rfl,c,u⟩,λx r y=>?_⟩;obtain ⟨p,v,hp,rfl,rfl,y⟩:=y;exact h i v p σ _ (y xs q) pv hp
 ·have e:i=xs.length:=by omega
  subst e;exact .inl ⟨⟨xs,q,AM _⟩,k σ H pv⟩
end
end Bs
namespace Bs
open PySem PySem.Spec PyProof.Rows L2
noncomputable def V_ (X:Cx) (N:dw) (a:Scope) (e:List (Str×Addr)) (C:Addr) (s:Shared) (H:Hp) (f:dE):Cx:=
 { X with N:=N,s₀:=s,H₀:=H,env:=compEnvC a e C X.env,outer:=X.stack,stack:=X.stack,ex:=f,fn:=λ_=>false,pn:=[],xe:=λ_ _=>False }
structure BlkOk (X:Cx) (N:dw) (capt:List (Option Nat)) (scope:Scope) (cl:List (Str×Addr)):Prop where
 kind:scope.kind=.function
 clos:closureFor scope X.env=pure cl
 nocell:∀ y∈scope.names,y.2≠.cell
 names:∀ y∈scope.names,y.2=.local->scope.names.lookup y.1=some .local
 cells:∀ y c,cl.lookup y=some c->X.env.cells.lookup y=some c
 has:∀ y,((relabel scope X.env).names.lookup y=some .cell\/(relabel scope X.env).names.lookup y=some .free)->∃ c,cl.lookup y=some c
 cap:∀ (i:Nat) (x:Str) (j:Nat),N[i]?=some x->capt[i]?=some (some j)->X.N[j]?=some x/\b_ X.env.scope x/\X.env.kindOf x≠some .local/\((relabel scope X.env).names.lookup x=some .cell\/(relabel scope X.env).names.lookup x=some .free)
 len:capt.length=N.length
section
variable {X:Cx} {pins:dl} {σ:L2.St} {H:Hp} {s:Shared} {N:dw} {capt:List (Option Nat)} {scope:Scope} {cl:List (Str×Addr)} {C:Addr} {fp:dE}
def PM (B:BlkOk X N capt scope cl) (I:Inv X pins σ H s) (d:∀ b∈fp,DF X pins H b) (g:∀ b∈fp,b<s.heap.objs.size) (f:s.heap.objs.size<=C):(V_ X N scope cl C s H fp).Ok where
 mod:=I.ok.mod
 kind:=B.kind
 glob:=I.ok.glob
 blt:=I.ok.blt
 above:=f
 inj:=λx y c i j=>I.ok.inj x y c (B.cells x c i) (B.cells y c j)
 has:=λx h=>B.has x h
 cab:=λ_ _ h=>nomatch h
 hd:=I.ok.hd
 frames:=I.ok.frames
 stk:=.inl rfl
 exf:=λb a=>⟨λe=>absurd (CO (g b a) f) (by rw [show b=C from e];exact C8 _),λx c e=>(d b a).2.2.2.2.1 x c (B.cells x c e)⟩
 bs:=I.bs
 bsz:=A7 I.ok.bsz I.sz
 noex:=λb o e a=>by
  rcases (d b a).2.2.2.1 with z | z
  ·exact I.ok.noex b o e z
  ·exact absurd (CO (mP e) (A7 I.ok.bsz z)) (C8 _)
 exfs:=λb a k=>by
  rcases De.mp (I.stkSub b k) with z | z
  ·exact (d b a).2.1 z
  ·exact (d b a).2.2.1 z
 funs:=I.stack
 frf:=I.stkFree
 seer:=I.ok.seer
 tree:=I.ok.tree
 plr:=I.ok.plr
def Yl (B:BlkOk X N capt scope cl) (I:Inv X pins σ H s) (E:∀ b∈fp,DF X pins H b) (F:∀ b∈fp,b<s.heap.objs.size) (y:s.heap.objs.size<=C) {g:Heap} {m:dq} {tk:Nat}
  (G:g.Ns C m) (hk:∀ b o,s.heap.get? b=some o->g.get? b=some o):Inv (V_ X N scope cl C s H fp) [] (CY capt σ) H { s with heap:=g,toks:=tk } where
 ok:=PM B I E F y
 os:=rfl
 bare:=I.bare
 base:=Un.kept hk
 loc:=by
  refine ⟨m,G,λi x v J K U=>?_⟩;have a:(capt.map λo=>o.bind λj=>(σ[j]?).join)[i]?=some (some v):=K;rw [Aj] at a;cases h:capt[i]? with
  | none=>rw [h] at a;cases a
  | some o=>
    rw [h] at a;cases o with
    | none=>cases a
    | some j=>
      have f:(σ[j]?).join=some v:=mO a;obtain ⟨L,M,O,D⟩:=B.cap i x j J h
      have P:σ[j]?=some (some v):=by
       cases q:σ[j]? with
       | none=>rw [q] at f;cases f
       | some w=>rw [q] at f;exact congrArg some f
      obtain ⟨W,_,Q⟩:=I.loc;obtain ⟨u,r,l⟩:=Q j x v L P M;refine ⟨u,r,.inr ⟨D,?_⟩⟩;rcases l with ⟨l,_⟩ | ⟨_,c,R,S⟩
      ·exact absurd l O
      ·obtain ⟨T,d⟩:=B.has x D;have:=B.cells x T d;rw [R] at this;cases this;obtain ⟨o,k,n⟩:=S;exact ⟨c,d,o,hk c o k,n⟩
 cell:=λx c e=>by
  obtain ⟨v,o,k,n⟩:=I.cell x c (B.cells x c e);exact ⟨v,o,hk c o k,n⟩
 free:=I.hok.fresh y
 freeC:=λx c e=>I.freeC x c (B.cells x c e)
 pin:=λp hp=>nomatch hp
 hok:=I.hok.kept hk
 len:=by show (capt.map _).length=N.length;rw [AO];exact B.len
def PN {h:L2.St} {p:Hp} {y:Shared} {d:dl} (B:BlkOk X N capt scope cl) (I:Inv X pins σ H s) (A:∀ b∈fp,DF X pins H b) (e:Inv (V_ X N scope cl C s H fp) d h p y):Inv (V_ X N scope cl C s H fp) d (CY capt σ) p y:=
 ⟨e.ok,e.os,e.bare,e.base,by
  obtain ⟨m,D,_⟩:=e.loc;refine ⟨m,D,λi x v E F T=>?_⟩;have a:(capt.map λo=>o.bind λj=>(σ[j]?).join)[i]?=some (some v):=F;rw [Aj] at a;cases k:capt[i]? with
  | none=>rw [k] at a;cases a
  | some o=>
    rw [k] at a;cases o with
    | none=>cases a
    | some j=>
      have g:(σ[j]?).join=some v:=mO a;obtain ⟨G,J,K,z⟩:=B.cap i x j E k
      have L:σ[j]?=some (some v):=by
       cases q:σ[j]? with
       | none=>rw [q] at g;cases g
       | some w=>rw [q] at g;exact congrArg some g
      obtain ⟨U,_,M⟩:=I.loc;obtain ⟨u,r,l⟩:=M j x v G L J;refine ⟨u,r,.inr ⟨z,?_⟩⟩;rcases l with ⟨l,_⟩ | ⟨_,c,n,O⟩
      ·exact absurd l K
      ·obtain ⟨P,f⟩:=B.has x z;have:=B.cells x P f;rw [n] at this;cases this;obtain ⟨o,Q,R⟩:=O;obtain ⟨W,hk⟩:=e.base.any Q (I.freeC x c n) λS=>(A c S).2.2.2.2.1 x c n rfl;exact ⟨c,f,_,hk,R⟩,e.cell,e.free,e.freeC,e.pin,e.hok,by show (capt.map _).length=N.length;rw [AO];exact B.len⟩
theorem Jv {a b:Type} [BEq a] [LawfulBEq a]:∀ {l:List (a×b)} {y:a} {c:b},l.lookup y=some c->(y,c)∈l
 | (k,v)::l,y,c,h=>by
   rw [List.lookup_cons] at h;cases e:y == k with
   | true=>
     rw [e] at h;cases h;rw [eq_of_beq e];exact CD ..
   | false=>
     rw [e] at h;exact CQ _ (Jv h)
def BlkOk.of (k:scope.kind=.function) (c:closureFor scope X.env=pure cl) (n1:(scope.names.all λy=>y.2 != .cell)=true) (o:(scope.names.all λy=>y.2 != .local || scope.names.lookup y.1 == some .local)=true)
  (cs:∀ b∈cl,X.env.cells.lookup b.1=some b.2) (p:((relabel scope X.env).names.all λb=>(b.2 != .cell && b.2 != .free) || (cl.lookup b.1).isSome)=true)
  (r:((List.range N.length).all λi=>match N[i]?,capt[i]? with
   | some x,some (some j)=>X.N[j]? == some x && (X.env.scope.names.lookup x == some .cell || X.env.scope.names.lookup x == some .free) && ((relabel scope X.env).names.lookup x == some .cell || (relabel scope X.env).names.lookup x == some .free)
   | _,_=>true)=true) (u:capt.length=N.length):BlkOk X N capt scope cl where
 kind:=k
 clos:=c
 nocell:=λy f e=>by
  have z:=FQ.mp n1 y f;rw [e] at z;exact absurd z ∅
 names:=λy f e=>by
  have z:=FQ.mp o y f;rw [e] at z;simpa using z
 cells:=λy c h=>cs (y,c) (Jv h)
 has:=λy h=>by
  have m:∃ d,(y,d)∈(relabel scope X.env).names/\(d=.cell\/d=.free):=by
   rcases h with h | h
   ·exact ⟨_,Jv h,.inl rfl⟩
   ·exact ⟨_,Jv h,.inr rfl⟩
  obtain ⟨d,m,e⟩:=m;have z:=FQ.mp p _ m
  have a:(cl.lookup y).isSome=true:=by
   rcases e with rfl | rfl
   ·simpa using z
   ·simpa using z
  exact Option.isSome_iff_exists.mp a
 cap:=λi x j g v=>by
  have li:i<N.length:=(By.mp g).1;have z:=FQ.mp r i (EK.mpr li);rw [g,v] at z;simp only [C9,Bool.or_eq_true,beq_iff_eq] at z;obtain ⟨⟨w,a⟩,A⟩:=z;refine ⟨w,.inr a,λq=>?_,A⟩;have n:X.env.scope.names.lookup x=some .local:=q;rcases a with a | a <;> (rw [a] at n;cases n)
 len:=u
end
open PySem.AutoSeq1 (wpAny_loadPart')
section
variable {prog:Program} {w:World} {A:Around} {E:dj} {s:Shared} {e it t:Addr} {i:Nat} {zs:Array Value}
def Jw {x:Value} {Q:dj} (si:s.heap.IsTupleIter it t i) (st:s.heap.IsTuple t zs) (d:zs[i]?=some x)
  (f:∀ g,g.IsTupleIter it t (i+1)->Heap.SameBut it s.heap g->Q x { s with heap:=g }):wpAny (model prog w) A (Builtin.SmallTypes.nextOf (.ref it)) Q E s:=by
 obtain ⟨m,b,h,a⟩:=id si;obtain ⟨n,j,_,o,k⟩:=st;unfold Builtin.SmallTypes.nextOf;refine mJ (wpAny_callSpecial?_slot (name:=Str.ofString "__next__") si.typeIs F.slot_tuple_iterator_next (wpAny_call_entry F.slot_tuple_iterator_next si.typeIs F.entry_tuple_iterator_next ?_ (F.args_tuple_iterator_next_1 _)));show wpAny _ _ (field (.ref it) 0 >>= _) _ _ s;refine mJ (wpAny_field b a (x:=.ref t) rfl ?_);show wpAny _ _ (if (Value.ref t == Value.none)=true then _ else _) _ _ s;rw [mE (λq:(Value.ref t == Value.none)=true=>Cb q)];show wpAny _ _ (field (.ref it) 1 >>= _) _ _ s;refine mJ (wpAny_field b a (x:=.int i 0) rfl ?_);show wpAny _ _ (seqItems? (.ref t) >>= _) _ _ s;refine mJ (wpAny_seqItems j k ?_);simp only [DA,d];refine mJ (wpAny_setField b a (by simp) (mK ⟨x,rfl,mK (f _ ⟨_,Heap.get?_update_self _ b (Obj.isFreed_of_fields (Obj.data_mapFields a _)),(Obj.cls_mapFields ..).trans h,?_⟩ (Heap.SameBut.update ..))⟩));rw [Obj.data_mapFields a];simp [rawInt]
def Ly {Q:dj} (d:A.handled=none) (si:s.heap.IsTupleIter it t i) (st:s.heap.IsTuple t zs) (h:zs[i]?=none)
  (j:∀ g x,Heap.ExtBut it s.heap g->(∃ o,g.get? x=some o/\o.cls=.type "StopIteration")->E (.ref x) { s with heap:=g }):wpAny (model prog w) A (Builtin.SmallTypes.nextOf (.ref it)) Q E s:=by
 obtain ⟨p,b,r,c⟩:=id si;obtain ⟨u,k,_,v,n⟩:=st;unfold Builtin.SmallTypes.nextOf;refine mJ (wpAny_callSpecial?_slot (name:=Str.ofString "__next__") si.typeIs F.slot_tuple_iterator_next (wpAny_call_entry F.slot_tuple_iterator_next si.typeIs F.entry_tuple_iterator_next ?_ (F.args_tuple_iterator_next_1 _)));show wpAny _ _ (field (.ref it) 0 >>= _) _ _ s;refine mJ (wpAny_field b c (x:=.ref t) rfl ?_);show wpAny _ _ (if (Value.ref t == Value.none)=true then _ else _) _ _ s;rw [mE (λq:(Value.ref t == Value.none)=true=>Cb q)];show wpAny _ _ (field (.ref it) 1 >>= _) _ _ s;refine mJ (wpAny_field b c (x:=.int i 0) rfl ?_);show wpAny _ _ (seqItems? (.ref t) >>= _) _ _ s;refine mJ (wpAny_seqItems k n ?_);simp only [DA,h];refine mJ (wpAny_rule (mJ (wpAny_setField b c (by simp) (mJ ?_))));simp only [newExc,newTuple];refine mJ (wpAny_newObj_type (mJ (m:=firstArgMember _ _) (wpAny_of_eq (a:=Value.none) (by first | rfl | (simp only [firstArgMember];rfl)) (wpAny_newObj_type ?_ (by size_fits)))) (by size_fits));simp only [raiseNew];refine mJ (wpAny_handled ?_)
 first
  | rw [show A.in1.handled=none from d]
  | rw [d]
 exact mJ (mK (wpAny_throw (j _ _ (((Heap.SameBut.update ..).extBut.push _).push _) ⟨_,Heap.get?_push_size _ rfl,rfl⟩)))
def Ym {x a:Value} {Q:dj} (J:IsEnum s.heap e it i a) (si:s.heap.IsTupleIter it t i) (st:s.heap.IsTuple t zs) (hx:zs[i]?=some x) (z:e≠it)
  (hQ:∀ g,IsEnumOut g e it ((i:Int)+1) x s.heap.objs.size->g.IsTupleIter it t (i+1)->g.get? s.heap.objs.size=some { cls:=.type "tuple", data:=.seq #[.int i s.toks,x] }->
   (∀ b o,b≠e->b≠it->s.heap.get? b=some o->g.get? b=some o)->Q (.ref s.heap.objs.size) { s with heap:=g,toks:=s.toks+1 }) :
  wpAny (model prog w) A (Builtin.«enumerate.__next__» ⟨[.ref e],[]⟩) (λK s'=>∃ v,K=.done (.ret v)/\Q v s') E s:=by
 obtain ⟨f,h,j,c,os⟩:=s;show wpAny _ _ (field (.ref e) 2 >>= _) _ _ _;refine mJ (wpAny_field J rfl (x:=.ref it) rfl ?_);refine mJ (Jw si st hx λk i1 n=>?_);replace n:Heap.SameBut it f k:=n;have B:IsEnum k e it i a:=(n.2 e z).trans J;show wpAny _ _ (field (.ref e) 3 >>= _) _ _ ⟨k,h,j,c,os⟩;refine mJ (wpAny_field B rfl (x:=rawInt i) rfl ?_);show wpAny _ _ (field (.ref e) 4 >>= _) _ _ ⟨k,h,j,c,os⟩;refine mJ (wpAny_field B rfl (x:=.none) rfl ?_);show wpAny _ _ (mkInt i >>= _) _ _ ⟨k,h,j,c,os⟩;refine mJ (wpAny_mkInt ?_);show wpAny _ _ (setField (.ref e) 3 (rawInt ((i:Int)+1)) >>= _) _ _ ⟨k,h,j,c+1,os⟩;refine mJ (wpAny_setField_rec B (by simp) λu C p=>?_);replace p:Heap.SameBut e k u:=p;replace C:IsEnum u e it ((i:Int)+1) a:=C;show wpAny _ _ (setField (.ref e) 4 .none >>= _) _ _ ⟨u,h,j,c+1,os⟩;refine mJ (wpAny_setField_rec C (by simp) λm D q=>?_);replace q:Heap.SameBut e u m:=q;replace D:IsEnum m e it ((i:Int)+1) a:=D;show wpAny _ _ (newTuple [.int i c,x] >>= _) _ _ ⟨m,h,j,c+1,os⟩;refine mJ (wpAny_newTuple ?_);have F:IsEnum (m.push { cls:=.type "tuple", data:=.seq #[.int i c,x] }) e it ((i:Int)+1) a:=Heap.get?_push_of_some _ D;generalize G:m.push { cls:=.type "tuple", data:=.seq #[.int i c,x] }=r at F;have L:m.objs.size=f.objs.size:=by rw [q.1,p.1,n.1]
 have le:e<f.objs.size:=mP J;have t4:r.get? f.objs.size=some { cls:=.type "tuple", data:=.seq #[.int i c,x] }:=by rw [<-G,<-L];exact Heap.get?_push_size _ rfl
 have k4:∀ b o,b≠e->b≠it->f.get? b=some o->r.get? b=some o:=λb o d y M=>by
  rw [<-G];exact Heap.get?_push_of_some _ (q.extBut b o d (p.extBut b o d (n.extBut b o y M)))
 have i4:r.IsTupleIter it t (i+1):=by
  obtain ⟨o,N,O⟩:=i1;exact ⟨o,by rw [<-G];exact Heap.get?_push_of_some _ (q.extBut it o z.symm (p.extBut it o z.symm N)),O⟩
 show wpAny _ _ (Builtin.SmallTypes.ownedTupleIsFree (.ref e) >>= _) _ _ ⟨r,h,j,c+1,os⟩;rw [L];clear G D q C p B n i1 L m u k;refine mJ ?_;unfold Builtin.SmallTypes.ownedTupleIsFree;refine mJ (wpAny_field F rfl (x:=.none) rfl (mK ?_));simp only [if_true];refine mJ (wpAny_rule (mJ (wpAny_field F rfl (x:=a) rfl (mJ (wpAny_setField_rec F (by simp) λH P R=>?_)))));replace R:Heap.SameBut e r H:=R;replace P:IsEnum H e it ((i:Int)+1) x:=P;show wpAny _ _ (Builtin.SmallTypes.ownedTupleHandOut (.ref e) (.ref f.objs.size) >>= _) _ _ ⟨H,h,j,c+1,os⟩;refine mJ ?_;unfold Builtin.SmallTypes.ownedTupleHandOut;refine mJ (wpAny_setField_rec P (by simp) λS T U=>?_);replace U:Heap.SameBut e H S:=U;replace T:IsEnumOut S e it ((i:Int)+1) x f.objs.size:=T;refine wpAny_setField_rec T (by simp) λI W X=>?_;replace X:Heap.SameBut e S I:=X;replace W:IsEnumOut I e it ((i:Int)+1) x f.objs.size:=W;have Y:∀ b o,b≠e->r.get? b=some o->I.get? b=some o:=λb o d y=>X.extBut b o d (U.extBut b o d (R.extBut b o d y));refine mJ (wpAny_letGo (mK ⟨_,rfl,hQ I W ?_ (Y _ _ (Nat.ne_of_gt le) t4) λb o d y M=>Y b o d (k4 b o d y M)⟩));obtain ⟨o,N,O⟩:=i4;exact ⟨o,Y it o z.symm N,O⟩
def Yn {x d:Value} {Q:dC->Shared->Prop} (f:IsEnum s.heap e it i d) (si:s.heap.IsTupleIter it t i) (st:s.heap.IsTuple t zs) (n:zs[i]?=some x) (p:e≠it)
  (q:∀ g,IsEnumOut g e it ((i:Int)+1) x s.heap.objs.size->g.IsTupleIter it t (i+1)->g.get? s.heap.objs.size=some { cls:=.type "tuple", data:=.seq #[.int i s.toks,x] }->
   (∀ b o,b≠e->b≠it->s.heap.get? b=some o->g.get? b=some o)->Q (some (.ref s.heap.objs.size)) { s with heap:=g,toks:=s.toks+1 }):wpAny (model prog w) A (pyNext (.ref e)) Q E s:=by
 have m:s.TypeIs (.ref e) "enumerate" := ⟨_,f,rfl⟩;unfold pyNext;exact mJ (wpAny_attempt (wpAny_callSpecial?_slot (name:=Str.ofString "__next__") m F.slot_enumerate_next (wpAny_call_entry F.slot_enumerate_next m F.entry_enumerate_next (Ym f si st n p λg a b c k=>mK (q g a b c k)) (F.args_enumerate_next_1 _))))
def Yo {a:Value} {Q:dC->Shared->Prop} (h:A.handled=none) (c:IsEnum s.heap e it i a) (si:s.heap.IsTupleIter it t i) (st:s.heap.IsTuple t zs) (j:zs[i]?=none)
  (k:∀ g,Heap.ExtBut it s.heap g->Q none { s with heap:=g }):wpAny (model prog w) A (pyNext (.ref e)) Q E s:=by
 have f:s.TypeIs (.ref e) "enumerate" := ⟨_,c,rfl⟩;unfold pyNext;refine mJ (wpAny_attempt (wpAny_callSpecial?_slot (name:=Str.ofString "__next__") f F.slot_enumerate_next (wpAny_call_entry F.slot_enumerate_next f F.entry_enumerate_next ?_ (F.args_enumerate_next_1 _))));show wpAny _ _ (field (.ref e) 2 >>= _) _ _ _;refine mJ (wpAny_field c rfl (x:=.ref it) rfl (mJ (Ly h si st j λg x m ⟨o,n,p⟩=>?_)));exact mJ (wpAny_isInstance (T := "StopIteration") (b:=true) ⟨o,n,p⟩ isSubtype_stop (mK (k _ m)))
def Yp (n:Nat) (f:Option Addr) (m:Array (dC)) :
  Meets (Builtin.«enumerate.__new__» ⟨[.type "enumerate", .ref t],[]⟩) (λ_ R s=>s.heap.get? t=some { cls:=.type "tuple", dict:=f,data:=.seq zs n,slots:=m }/\
   R (.ok (.ret (.ref (s.heap.push { cls:=.type "tuple_iterator", data:=.fields #[.ref t,.int 0 0] }).objs.size)))
     { s with heap:=(s.heap.push { cls:=.type "tuple_iterator", data:=.fields #[.ref t,.int 0 0] }).push { cls:=.type "enumerate", data:=.fields #[.none,.bool false,.ref s.heap.objs.size,rawInt 0,.none,.none] } }):=
 .of_wp λprog w A R s h=>by
  obtain ⟨o,p,q,r,os⟩:=s;obtain ⟨d,h⟩:=h;have j:=sub_enumerate;have k:Heap.IsTuple (Shared.heap ⟨o,p,q,r,os⟩) t zs:=⟨_,d,rfl,n,rfl⟩
  wp_walk using wpAny_loadPart' d
  refine wpAny_stack_any λst=>mK ?_;split
  ·rename_i c _ _ _ _ _;cases (c == Value.type "enumerate") <;> (wp_walk using wpAny_loadPart' d,wpAny_pyIter_tuple k;exact ⟨_,rfl,h⟩)
  ·wp_walk using wpAny_loadPart' d,wpAny_pyIter_tuple k
   exact ⟨_,rfl,h⟩
def Yq {Q:dj} (q:s.heap.IsTuple t zs)
  (h:∀ g,IsEnum g (s.heap.objs.size+1) s.heap.objs.size 0 .none->g.IsTupleIter s.heap.objs.size t 0->(∀ b o,s.heap.get? b=some o->g.get? b=some o)->Q (.ref (s.heap.objs.size+1)) { s with heap:=g }) :
  wpAny (model prog w) A (call (.type "enumerate") [.ref t]) Q E s:=by
 obtain ⟨⟨c,a,r,u⟩,v,d,n,f⟩:=q;replace d:c=.type "tuple" := d;replace f:r=.seq zs n:=f;subst d f;refine callType_new F.called_enumerate ∅ (F.typeCall_enumerate_1 _) (F.newCall_enumerate_1 _) (λj=>F.args_object_init_2 j _) F.entry_enumerate_new (Yp n a u) ⟨v,?_⟩;have m:(s.heap.push { cls:=.type "tuple_iterator", data:=.fields #[.ref t,.int 0 0] }).objs.size=s.heap.objs.size+1:=Heap.size_push ..;show _/\_;rw [m]
 have p:IsEnum ((s.heap.push { cls:=.type "tuple_iterator", data:=.fields #[.ref t,.int 0 0] }).push { cls:=.type "enumerate", data:=.fields #[.none,.bool false,.ref s.heap.objs.size,rawInt 0,.none,.none] }) (s.heap.objs.size+1) s.heap.objs.size 0 .none:=by
  have z:=Heap.get?_push_size (s.heap.push { cls:=.type "tuple_iterator", data:=.fields #[.ref t,.int 0 0] }) (o:={ cls:=.type "enumerate", data:=.fields #[.none,.bool false,.ref s.heap.objs.size,rawInt 0,.none,.none] }) rfl;rw [m] at z;exact z
 exact ⟨⟨_,p,rfl⟩,h _ p ⟨_,Heap.get?_push_of_some _ (Heap.get?_push_size _ rfl),rfl,rfl⟩ λb o x=>Heap.get?_push_of_some _ (Heap.get?_push_of_some _ x)⟩
end
section
variable {X:Cx} {pins:dl} {σ:L2.St} {H:Hp} {s:Shared}
def PP {e f:Addr} {g:Heap} {tk:Nat} {xs:d7} {its:dh} (I:Inv X pins σ H s) (i:DF X pins H e) (j:DF X pins H f) (k:∀ b o,b≠e->b≠f->s.heap.get? b=some o->g.get? b=some o)
  (x:xs.length<=sizeLine) (A:Vals xs its) (B:g.get? s.heap.objs.size=some { cls:=.type "tuple", data:=.seq its.toArray }):Inv X pins σ (upd H s.heap.objs.size (.tup xs)) { s with heap:=g,toks:=tk }:=by
 have C:H s.heap.objs.size=none:=I.hok.fresh (AM _);have p:∀ b o,s.heap.get? b=some o->b≠s.heap.objs.size:=λb o q=>BV (mP q);have tr:∀ b u,H b=some u->b≠s.heap.objs.size/\b≠e/\b≠f:=λb u q=>⟨Bi q C,Bi q i.1,Bi q j.1⟩;have a:∀ b,b∉[e,f]->b≠e/\b≠f:=λb h=>⟨λz=>h (by simp [z]),λz=>h (by simp [z])⟩
 refine I.step (g':=s.gens) (d':=s.drawn) (ch:=[e,f]) (λb h=>?_) (λb o _ _ d q _=>k b o (a b d).1 (a b d).2 q) (λb o _ _ d q _=>⟨o.slots,k b o (a b d).1 (a b d).2 q⟩) (λb o _ q n=>?_) (λb o d q=>⟨o,k b o (a b d).1 (a b d).2 q⟩)
  (λb D q=>?_) (λb o u q=>?_) (λb ps q=>⟨#[],?_⟩) (λm E=>?_) (λb u q=>?_) I.bare
 ·have z:b=e\/b=f:=by simpa using h
  rcases z with rfl | rfl
  ·exact ⟨i.2.2.2.1,i.2.1,i.2.2.2.2.1,i.2.2.2.2.2⟩
  ·exact ⟨j.2.2.2.1,j.2.1,j.2.2.2.2.1,j.2.2.2.2.2⟩
 ·rw [Ar (p b o q)];exact n
 ·rw [Ar (tr b _ q).1];exact q
 ·rw [Ar (tr b _ q).1];exact q
 ·rw [Ar (tr b _ q).1,q];simp
 ·obtain ⟨o,F,G,J,K⟩:=E;exact ⟨o,F,G,k _ o i.2.1.symm j.2.1.symm J,K⟩
 ·by_cases h:b=s.heap.objs.size
  ·subst h;rw [upd_same] at q;cases q;exact ⟨x,its,A,⟨_,B,rfl,_,rfl⟩⟩
  ·rw [Ar h] at q;refine (I.hok b u q).stay (λc v d z=>?_) (λc z=>by rw [Ar (tr c _ z).1];exact z) λc D z=>by rw [Ar (tr c _ z).1];exact z
   rcases d with y | y
   ·subst y;exact k _ v (tr _ u q).2.1 (tr _ u q).2.2 z
   ·exact k c v (tr c _ y).2.1 (tr c _ y).2.2 z
end
def Yr {P:Program} {w:World} {K:W.Frag} {r:du} {k:Nat} {D:Pos} (a e m:Addr) (S:e≠m):Turn P w K (.Tuple r k D) (HM K a) [e,m] e (λi h=>(∃ f,IsEnum h e m i f)/\h.IsListIter m a i) where
 mem:=by simp
 obj:=λi h st b n=>by
  obtain ⟨⟨f,j⟩,o,F,c,d⟩:=st
  have z:b=e\/b=m:=by simpa using n
  rcases z with rfl | rfl
  ·exact ⟨_,j,λv z=>nomatch z⟩
  ·exact ⟨o,F,λv z=>by rw [d] at z;cases z⟩
 keep:=λi h h' st T=>⟨let ⟨f,j⟩:=st.1;⟨f,T e (by simp) _ j⟩,st.2.at λo q=>T m (by simp) o q⟩
 item:=by
  intro X G J L U i y s σ H E I A st M
  subst G J L
  obtain ⟨Y,x,C,N⟩:=M
  obtain ⟨⟨f,j⟩,si⟩:=st
  obtain ⟨B,O,p,hz⟩:=I.list C
  obtain ⟨u,hu,ru⟩:=O.get N
  refine wpAny_pyNext_enum_item j si p.isList (x:=u) (by simpa using hu) S λg eo gi gt _ gk=>?_
  refine ⟨_,rfl,wpAny_letOwnedTupleGo_enum eo λg' Q R=>?_⟩
  have I1:=PP (g:=g') (tk:=s.toks+1) (xs:=[.int i,x]) (its:=[.int i s.toks,u]) I (A e (by simp)) (A m (by simp)) (λb o Z h2 q=>R.extBut b o Z (gk b o Z h2 q)) (sz (by simp)) (.cons ⟨_,rfl⟩ (.cons ru .nil)) (R.extBut _ _ (Nat.ne_of_gt (mP j)) gt)
  refine ⟨.ref s.heap.objs.size,_,I1,rfl,⟨_,x,I.hok.fresh (AM _),rfl,rfl,λys hy=>by rw [I.list_inj hy C];exact N⟩,⟨⟨_,by simpa using Q⟩,gi.at λo q=>R.extBut m o S.symm q⟩,λb n=>?_⟩
  rw [Ar]
  ·exact (A b n).1
  ·have z:b=e\/b=m:=by simpa using n
   rcases z with rfl | rfl
   ·exact BV (mP j)
   ·obtain ⟨o,F,_⟩:=si;exact BV (mP F)
 done:=by
  intro X G J L U i y s σ H E I A st M
  subst G J L
  obtain ⟨Y,C,N⟩:=M
  obtain ⟨⟨f,j⟩,si⟩:=st
  obtain ⟨B,O,p,hz⟩:=I.list C
  obtain ⟨f0,f1,f2,f3,f4,f5⟩:=A m (by simp)
  have hl:=O.length
  exact wpAny_pyNext_enum_end (I.ok.hd U) j si p.isList (by simp;omega) λg eb=>⟨rfl,I.turned (t':=s.toks) (λb o n q=>eb b o n q) f0 f1 f3 f4 f5⟩
 self:=λ_ _ _ _ _ st h=>let ⟨_,j⟩:=st.1;wpAny_pyIter_enum j h
def Ys {P:Program} {w:World} {K:W.Frag} {y:du} {k:Nat} {D:Pos} (a e m:Addr) (S:e≠m):Turn P w K (.Tuple y k D) (Gb K a) [e,m] e (λi h=>(∃ f,IsEnum h e m i f)/\h.IsTupleIter m a i) where
 mem:=by simp
 obj:=λi h st b r=>by
  obtain ⟨⟨f,j⟩,o,F,c,d⟩:=st
  have z:b=e\/b=m:=by simpa using r
  rcases z with rfl | rfl
  ·exact ⟨_,j,λv z=>nomatch z⟩
  ·exact ⟨o,F,λv z=>by rw [d] at z;cases z⟩
 keep:=λi h h' st T=>⟨let ⟨f,j⟩:=st.1;⟨f,T e (by simp) _ j⟩,st.2.at λo q=>T m (by simp) o q⟩
 item:=by
  intro X G J L U i A s σ H E I B st M
  subst G J L
  obtain ⟨Y,x,C,N⟩:=M
  obtain ⟨⟨f,j⟩,si⟩:=st
  obtain ⟨n,O,p,hz⟩:=I.tuple C
  obtain ⟨u,hu,ru⟩:=O.get N
  refine Yn j si (show s.heap.IsTuple a n.toArray from p) (x:=u) (by simpa using hu) S λg eo gi gt gk=>?_
  refine ⟨_,rfl,wpAny_letOwnedTupleGo_enum eo λg' Q R=>?_⟩
  have I1:=PP (g:=g') (tk:=s.toks+1) (xs:=[.int i,x]) (its:=[.int i s.toks,u]) I (B e (by simp)) (B m (by simp)) (λb o Z h2 q=>R.extBut b o Z (gk b o Z h2 q)) (sz (by simp)) (.cons ⟨_,rfl⟩ (.cons ru .nil)) (R.extBut _ _ (Nat.ne_of_gt (mP j)) gt)
  refine ⟨.ref s.heap.objs.size,_,I1,rfl,⟨_,x,I.hok.fresh (AM _),rfl,rfl,λys hy=>by rw [I.tuple_inj hy C];exact N⟩,⟨⟨_,by simpa using Q⟩,gi.at λo q=>R.extBut m o S.symm q⟩,λb r=>?_⟩
  rw [Ar]
  ·exact (B b r).1
  ·have z:b=e\/b=m:=by simpa using r
   rcases z with rfl | rfl
   ·exact BV (mP j)
   ·obtain ⟨o,F,_⟩:=si;exact BV (mP F)
 done:=by
  intro X G J L U i A s σ H E I B st M
  subst G J L
  obtain ⟨Y,C,N⟩:=M
  obtain ⟨⟨f,j⟩,si⟩:=st
  obtain ⟨n,O,p,hz⟩:=I.tuple C
  obtain ⟨f0,f1,f2,f3,f4,f5⟩:=B m (by simp)
  have hl:=O.length
  exact Yo (I.ok.hd U) j si (show s.heap.IsTuple a n.toArray from p) (by simp;omega) λg eb=>⟨rfl,I.turned (t':=s.toks) (λb o r q=>eb b o r q) f0 f1 f3 f4 f5⟩
 self:=λ_ _ _ _ _ st h=>let ⟨_,j⟩:=st.1;wpAny_pyIter_enum j h
section
variable {X:Cx} {elts:du} {k:Nat} {tpos:Pos} {a:Expr} {ta:TA} {p pos:Pos}
def IW (o:Gl X "enumerate") (r:X.mg "enumerate" = none) (v:PA X [a] ta) (w:starEach [a] X.env=[(false,eval a X.env)]:=by rfl):PI X (.Tuple elts k tpos) (.Call (.Name "enumerate" p) [a] [] pos) (Fd X.K ta):=by
 intro d s i H R I h;refine Call_ (EV I o r PC (PyProof.Rows.callWith_type1 (F_ (v pos d s i H _ I h) λJ e ⟨K,j,f,x,y⟩=>?_) w rfl));obtain ⟨b,rfl,⟨L,A⟩,q⟩:=y;obtain ⟨u,rfl,B⟩:=Dj x;cases B;obtain ⟨C,M,D,N⟩:=f.list A;refine call_enumerate_list D.isList λg m si _ E=>?_;have F:Inv X d i j { e with heap:=g }:=f.kept (t':=e.toks) E;refine wpAny_pyIter_enum m ⟨_,[e.heap.objs.size+1,e.heap.objs.size],_,_,j,rfl,F,Yr b _ _ (Nat.succ_ne_self _),⟨⟨_,m⟩,si⟩,λc G=>?_,q⟩;have z:c=e.heap.objs.size+1\/c=e.heap.objs.size:=by simpa using G
 rcases z with rfl | rfl
 ·exact f.fpOk (Nat.le_succ _) (f.hok.fresh (Nat.le_succ _))
 ·exact f.fpOk (AM _) (f.hok.fresh (AM _))
def PQ (r:Gl X "enumerate") (v:X.mg "enumerate" = none) (w:PA X [a] ta) (x:starEach [a] X.env=[(false,eval a X.env)]:=by rfl):PI X (.Tuple elts k tpos) (.Call (.Name "enumerate" p) [a] [] pos) (HN X.K ta):=by
 intro d s j H R I h;refine Call_ (EV I r v PC (PyProof.Rows.callWith_type1 (F_ (w pos d s j H _ I h) λJ e ⟨K,m,f,y,A⟩=>?_) x rfl));obtain ⟨b,rfl,⟨L,B⟩,q⟩:=A;obtain ⟨u,rfl,C⟩:=Dj y;cases C;obtain ⟨i,M,D,N⟩:=f.tuple B;refine Yq (show e.heap.IsTuple b i.toArray from D) λg n si E=>?_;have F:Inv X d j m { e with heap:=g }:=f.kept (t':=e.toks) E;refine wpAny_pyIter_enum n ⟨_,[e.heap.objs.size+1,e.heap.objs.size],_,_,m,rfl,F,Ys b _ _ (Nat.succ_ne_self _),⟨⟨_,n⟩,si⟩,λc G=>?_,q⟩;have z:c=e.heap.objs.size+1\/c=e.heap.objs.size:=by simpa using G
 rcases z with rfl | rfl
 ·exact f.fpOk (Nat.le_succ _) (f.hok.fresh (Nat.le_succ _))
 ·exact f.fpOk (AM _) (f.hok.fresh (AM _))
end
end Bs
namespace Bs
open PySem L2
mutual
inductive RepD (H:Hp):V->W.Dat->Prop
 | non:RepD H .non .none
 | int (i:Int):RepD H (.int i) (.int i)
 | tup {p:Addr} {xs:d7} {ds:List W.Dat} (h:H p=some (.tup xs)) (r:RepA H xs ds):RepD H (.ref p) (.tuple ds)
 | lst {p:Addr} {xs:d7} {ds:List W.Dat} (h:H p=some (.lst xs)) (r:RepA H xs ds):RepD H (.ref p) (.list ds)
inductive RepA (H:Hp):d7->List W.Dat->Prop
 | nil:RepA H [] []
 | cons {x:V} {xs:d7} {d:W.Dat} {ds:List W.Dat} (h:RepD H x d) (r:RepA H xs ds):RepA H (x::xs) (d::ds)
end
def bU:R2:=λx y H Q=>∃ (d e:W.Dat) (b:Bool),RepD H x d/\RepD H y e/\W.kqdOk 8 d=true/\W.kqdOk 8 e=true/\(b=true↔d=e)/\Q (.bl b) H
def bJ:R2:=λx y H Q=>∃ (d e:W.Dat) (b:Bool),RepD H x d/\RepD H y e/\W.kqdOk 8 d=true/\W.kqdOk 8 e=true/\(b=true↔d=e)/\Q (.bl (!b)) H
def Ee (c:TE):TT:=λd H Q=>c d H λx a=>∃ p b,x=.ref p/\a p=some (.lst b)/\Q (!b.isEmpty) a
def Yt (c:TE):TT:=λd H Q=>c d H λx a=>∃ p b,x=.ref p/\a p=some (.tup b)/\Q (!b.isEmpty) a
def sL:V->Option Int->Option Int->Hp->VK->Prop:=λx lo c H Q=>∃ a b,x=.ref a/\H a=some (.lst b)/\∀ p,H p=none->Q (.ref p) (upd H p (.lst (Bu b lo c)))
def E5:d7->Hp->VK->Prop:=λb H Q=>∃ p a,b=[.ref p]/\H p=some (.lst a)/\∀ l,H l=none->Q (.ref l) (upd H l (.tup a))
def MA:d7->Hp->VK->Prop:=λb H Q=>∃ p a,b=[.ref p]/\H p=some (.tup a)/\∀ l,H l=none->Q (.ref l) (upd H l (.lst a))
def IX:d7->Hp->VK->Prop:=λb H Q=>∃ p a,b=[.ref p]/\H p=some (.lst a)/\∀ l,H l=none->Q (.ref l) (upd H l (.lst a))
def PR:d7->Hp->VK->Prop:=λb H Q=>∃ (p:Addr) (a:List Bool),b=[.ref p]/\H p=some (.lst (a.map V.bl))/\Q (.bl (a.all id)) H
end Bs
namespace Bs
open PySem PySem.Spec PyProof.Rows L2
section
variable {X:Cx} {pins:dl} {σ:L2.St} {H:Hp} {s:Shared}
mutual
theorem IY (I:Inv X pins σ H s):∀ {x:V} {d:W.Dat} {u:Value},RepD H x d->RelV x u->∃ as,Reads s.heap u (W.kqdP d) as
 | _,_,_,.non,e=>by cases e;rw [W.kqdP];exact ⟨_,Reads.none⟩
 | _,_,_,.int i,⟨t,e⟩=>by subst e;rw [W.kqdP];exact ⟨_,Reads.int i t⟩
 | _,_,_,.tup h r,e=>by
   cases e;obtain ⟨a,b,p,_⟩:=I.tuple (SqT.of h);obtain ⟨as,q⟩:=MC I r b;obtain ⟨o,c,f,n,g⟩:=p;rw [W.kqdP];exact ⟨as,reads_tuple_at c f g (by simpa using q)⟩
 | _,_,_,.lst h r,e=>by
   cases e;obtain ⟨a,b,p,_⟩:=I.list (SqL.of h);obtain ⟨as,q⟩:=MC I r b;obtain ⟨o,n,c,f,_,g⟩:=p;rw [W.kqdP];exact ⟨_,reads_list_at c f g (by simpa using q)⟩
theorem MC (I:Inv X pins σ H s):∀ {xs:d7} {a:List W.Dat} {b:dh},RepA H xs a->Vals xs b->∃ as,ReadsAll s.heap b (W.kqdPs a) as
 | _,_,_,.nil,.nil=>by rw [W.kqdPs];exact ⟨_,ReadsAll.nil⟩
 | _,_,_,.cons h r,.cons e c=>by
   obtain ⟨as,q⟩:=IY I h e;obtain ⟨f,d⟩:=MC I r c;rw [W.kqdPs];exact ⟨_,ReadsAll.cons q d⟩
end
def Jx {d:W.Dat} (h:W.kqdOk 8 d=true):SeqAt.shaped (W.kqdP d)=true:=by
 have z:=W.kqd_lay 8 d h;unfold SeqAt.shaped;rw [z.1,Bool.true_and];exact mG (A7 z.2 ∅)
def PU {d e:W.Dat} {b:Bool} (a:W.kqdOk 8 d=true) (c:W.kqdOk 8 e=true) (f:b=true↔d=e):PyData.eqv (W.kqdP d) (W.kqdP e)=b:=by
 rw [Bool.eq_iff_iff,f];exact W.kqd_eqv 8 d e 8 a c
def MD (f:X.A.units+64<cLine):OpR X (compareOp .Eq) bU:=by
 intro pins s σ H x y v u Q I g i h;obtain ⟨d,e,b,j,k,a,c,m,q⟩:=h;obtain ⟨as,n⟩:=IY I j g;obtain ⟨p,o⟩:=IY I k i;exact eq_dataH n o (Jx a) (Jx c) f (by rw [PU a c m];exact ⟨.bl b,H,I,rfl,q⟩)
def ME (f:X.A.units+64<cLine):OpR X (compareOp .NotEq) bJ:=by
 intro pins s σ H x y v u Q I g i h;obtain ⟨d,e,b,j,k,a,c,m,q⟩:=h;obtain ⟨as,n⟩:=IY I j g;obtain ⟨p,o⟩:=IY I k i;exact ne_dataH n o (Jx a) (Jx c) f (by rw [PU a c m];exact ⟨.bl (!b),H,I,rfl,q⟩)
def Fe {a:Expr} {c:TE} (d:PE X a c) (f:∀ b,isTrue a X.env b=(do let v <-b;standAt a.pos;holding [v] (truthy v))):PT X a (Ee c):=λpins s σ H Q I h=>
 isTrue_plain (F_ (d pins s σ H _ I h) λv g ⟨x,i,j,k,m⟩=>by
  obtain ⟨p,n,e,hp,q⟩:=m;subst e;exact V7 pins g σ i _ v Q j k ⟨_,.inl ⟨n,SqL.of hp,rfl⟩,q⟩) (f _)
def Jy:bT X sL:=by
 intro pins s σ H x v b c lo d f Q I g i j pu h;obtain ⟨a,k,e,m,q⟩:=h;exact O0 pins s σ H x v b c lo d f Q I g i j pu ⟨a,k,e,SqL.of m,q⟩
def IZ:CL X (.type "tuple") E5:=λpins s σ H a b Q I r h=>by
 obtain ⟨p,c,e,hp,q⟩:=h;exact WX pins s σ H a b Q I r ⟨p,c,e,.inl ⟨SqL.of hp,q⟩⟩
def Yu:CL X (.type "list") MA:=λpins s σ H a b Q I r h=>by
 obtain ⟨p,c,e,hp,q⟩:=h;exact O3 pins s σ H a b Q I r ⟨p,c,e,.inr (SqT.of hp),q⟩
def MF:CL X (.type "list") IX:=λpins s σ H a b Q I r h=>by
 obtain ⟨p,c,e,hp,q⟩:=h;exact O3 pins s σ H a b Q I r ⟨p,c,e,.inl (SqL.of hp),q⟩
theorem PV:∀ {a:List Bool} {c:dh},Vals (a.map V.bl) c->c=a.map Value.bool
 | [],_,.nil=>rfl
 | b::a,_,.cons e r=>by rw [show _=Value.bool b from e,PV r];rfl
def Yv (j:X.calm=true):CL X (.builtin "all") PR:=λpins s σ H G J Q I r h=>by
 obtain ⟨p,a,rfl,hp,q⟩:=h;obtain ⟨u,rfl,k⟩:=Dj r;cases k;obtain ⟨m,n,f,K⟩:=I.list (SqL.of hp);have y:=PV n;subst y;refine call_all_walk (wpAny_pyIter_list f.isList ⟨s.heap.objs.size,[s.heap.objs.size,p],[s.heap.objs.size],(a.map Value.bool).toArray.size,_,_,λi=>a.getD i false,rfl,Walks.list (A:=X.A.in1) (show X.A.in1.handled=none from I.ok.hd j) s.heap.objs.size p (BV f.lt) _,⟨⟨_,Heap.get?_push_size _ rfl,rfl,rfl⟩,f.isList.push _⟩,?_,λg L B=>?_⟩)
 ·intro i v M N O C D
  have e:v=Value.bool (a.getD i false):=by
   have z:(a.map Value.bool)[i]?=some v:=by simpa using C
   rw [Aj] at z;cases w:a[i]? with
   | none=>rw [w] at z;cases z
   | some c=>
     rw [w] at z;rw [AT,w];exact (mO z).symm
  subst e;exact wpAny_truthy_bool D
 ·have E:∀ b o,s.heap.get? b=some o->g.get? b=some o:=λb o e=>B b o (λz=>absurd (mP e) (by rw [CC.mp z];exact C8 _)) (Heap.get?_push_of_some _ e);refine ⟨.bl (a.all id),H,I.kept E,?_,q⟩;show Value.bool _=Value.bool _;congr 1;rw [Bool.eq_iff_iff];simp only [FQ,EK,A9,AO,id];constructor
  ·intro h x F;obtain ⟨i,d,e⟩:=GH F;have z:=h i d;rw [AT,Ax d] at z;rw [<-e];exact z
  ·intro h i d;rw [AT,Ax d];exact h _ (EN d)
def Ia:ca X gL:=by
 intro pins s σ H o i B C Q I m n h;obtain ⟨p,k,D,v,rfl,rfl,hp,u,q⟩:=h;cases m;obtain ⟨t,rfl⟩:=n;obtain ⟨c,r,e,E⟩:=I.list (SqL.of hp);obtain ⟨j,b,x,F,y,z⟩:=Le u;obtain ⟨w,f,rw'⟩:=r.get x;have A:=r.length;have G:=HH;have a:EP X pins σ Q w s:=⟨v,H,I,rw',q⟩;by_cases g:0<=k
 ·have d:k.toNat=j:=by
   rw [seqIndex_of g z] at b;exact mO b
  exact wpAny_getItem_list e.isList g ⋯ (by rw [d];simpa using f) a
 ·have d:(k+(c.toArray.size:Int)).toNat=j:=by
   rw [seqIndex_neg ⋯ y] at b;rw [A9,<-A];exact mO b
  exact wpAny_getItem_list_neg e.isList ⋯ (by rw [A9] <;> omega) ⋯ (by rw [d];simpa using f) a
def Ib {K:W.Frag} {p:Addr} {xs:d7} (h:H p=some (.lst xs)):cG K "list" (.ref p) H:=.inl ⟨rfl,xs,SqL.of h⟩
end
end Bs
namespace Bs
open PySem L2
def Dn (n:Nat) (t:aU):TG:=λv c H Q=>∃ a b,v=.ref a/\H a=some (.tup b)/\b.length=n/\t b c H Q
end Bs
namespace Bs
open PySem PySem.Spec PyProof.Rows L2
def Ef {X:Cx} {c:du} {k:Nat} {d:Pos} {t:aU} {n:Nat} (g:X.calm=true) (h:c6 X c t)
  (i:(assignEach c X.env).length=n:=by rfl) (f:(assignEach c X.env).findIdx? (·.1)=none:=by rfl):PG X (.Tuple c k d) (Dn n t):=λb s j H v u Q I r q=>by
 obtain ⟨a,m,e,o,p,q⟩:=q;exact Vq g h i f b s j H v u Q I r ⟨a,m,e,SqT.of o,p,q⟩
def Yw {X:Cx}:OpR X (inplaceOp .FloorDiv) Lr:=bO λi j _ _ _ _ _ a q=>by
 refine ifloordiv_int (AV a.1) ?_ (.inl (PyProof.noPylong_of_log2 (a.2.log2 ∅)));rw [EM i (DS a.1)];exact q
end Bs
namespace Bs
open PySem L2
def sT:V->Option Int->Option Int->Hp->VK->Prop:=λx lo d H Q=>∃ a b,x=.ref a/\H a=some (.tup b)/\∀ p c,(c=H/\p=a/\Bu b lo d=b)\/(H p=none/\c=upd H p (.tup (Bu b lo d)))->Q (.ref p) c
end Bs
namespace HT
open PySem PySem.Spec PyProof.Rows
def whole_cut {prog:Program} {w:World} {A:Around} {E:dj} {s:Shared} {t c:Addr} {a:Array Value} {i j:Value} {lo d:Option Int} {Q:dj} (b:IsTup s.heap t a) (k:s.heap.IsSliceOf c i j .none) (o:IsPart i lo) (pu:IsPart j d)
  (n:sIx a.size 0 lo=0/\sIx a.size a.size d=a.size) (h:Q (.ref t) s):wpAny (model prog w) A (getItem (.ref t) (.ref c)) Q E s:=by
 obtain ⟨os,e,f,p⟩:=id k;have g:s.TypeIs (.ref c) "slice" := ⟨os,e,f⟩;unfold getItem
 try with_reducible refine wpAny_holding ?_
 first | refine mJ (mK ?_) | skip
 refine mJ (wpAny_sequenceKey b.typeIs ∅ ?_)
 refine mJ (wpAny_callSpecial?_slot (name:=Str.ofString "__getitem__") b.typeIs PyProof.Rows.slot_tuple_getitem
  (wpAny_call_entry PyProof.Rows.slot_tuple_getitem b.typeIs entry_tuple_getitem ?_ (args_tuple_getitem _ _)))
 show wpAny _ _ (Builtin.Tuple.tupleItemsOf (.ref t) >>= _) _ _ s;refine mJ (tupleItemsOf_ b ?_);refine mJ (wpAny_typeOf g ?_);rw [mF ∅];refine mJ (Ot k o pu ?_);show wpAny _ _ (if (((sIx a.size 0 lo:Nat):Int) == 0 && (1:Int) == 1 && (sIx a.size a.size d - sIx a.size 0 lo) == a.size)=true then _ else _) _ _ s;rw [mF (by rw [n.1,n.2];simp)];refine mJ (m:=Builtin.Tuple.tupleIsExact (.ref t)) (mJ (wpAny_typeOf b.typeIs (mK ?_)));rw [mF ∅]
 first
  | exact mJ (wpAny_rule (mJ (mK (mK ⟨_,rfl,mK h⟩))))
  | exact mJ (wpAny_rule (mJ (mK ⟨_,rfl,mK h⟩)))
  | exact mJ (wpAny_rule (mK ⟨_,rfl,mK h⟩))
  | exact mJ (mJ (wpAny_rule (mK (mK ⟨_,rfl,mK h⟩))))
end HT
namespace Bs
open PySem PySem.Spec PyProof.Rows L2
def Yx {X:Cx}:bT X sT:=by
 intro c s u H x v w y lo i z Q I j k m pu h;obtain ⟨a,b,e,n,q⟩:=h;by_cases f:HT.sIx b.length 0 lo=0/\HT.sIx b.length b.length i=b.length
 ·subst e;cases j;obtain ⟨g,r,o,A⟩:=I.tuple (SqT.of n);have d:g.toArray.size=b.length:=by rw [A9];exact r.length.symm
  refine ⟨"tuple", _,PyProof.Rows.slot_tuple_getitem.lookup,o.typeIs,HT.whole_cut o k m pu (by rw [d];exact f) ⟨.ref a,H,I,rfl,q a H (.inl ⟨rfl,rfl,?_⟩)⟩⟩;unfold Bu;rw [f.1,f.2,List.drop_zero,Cu,Cv]
 ·exact WP c s u H x v w y lo i z Q I j k m pu ⟨a,b,e,SqT.of n,f,λp hp=>q p _ (.inr ⟨hp,rfl⟩)⟩
end Bs
namespace Bs
open PySem L2
noncomputable def cg (lo:Int) (n:Nat):It:=⟨λi _=>i<n,λi H x a=>a=H/\x=.int (lo - i),λi _=>n<=i⟩
def HP (a:TA):TI:=λb H R=>a b H λc d=>∃ i j:Int,c=[.int i,.int j,.int (-1)]/\(-(2 ^ 62)<=i/\i<2 ^ 62/\-(2 ^ 62)<=j/\j<2 ^ 62)/\R (cg i (i - j).toNat) d
section
variable {K:W.Frag} {ta:TA} {g:TG} {tb:TS} {D:Ends} {σ:L2.St} {H:Hp} {a:Addr} {xs:d7}
def Yy:BT (HP ta) g tb D σ H=ta σ H (λb c=>∃ i j:Int,b=[.int i,.int j,.int (-1)]/\(-(2 ^ 62)<=i/\i<2 ^ 62/\-(2 ^ 62)<=j/\j<2 ^ 62)/\ForJ (cg i (i - j).toNat) g tb D σ c):=rfl
def ForJ.down {lo:Int} {n:Nat} (Pv:Nat->L2.St->Hp->Prop) (d:Pv 0 σ H)
  (f:∀ i σ H,i<n->Pv i σ H->g (.int (lo - i)) σ H λb h=>tb { D with nx:=Pv (i+1),ct:=Pv (i+1),bk:=D.nx } b h) (j:∀ σ H,Pv n σ H->D.nx σ H):ForJ (cg lo n) g tb D σ H:=by
 refine ⟨λi m σ H=>m=n - i/\i<=n/\Pv i σ H,⟨n,by simp,Ab _,d⟩,?_⟩;rintro i m σ H ⟨rfl,u,pv⟩;by_cases c:i<n
 ·refine .inr ⟨c,Pv (i+1),λk o p=>⟨n - (i+1),⋯,rfl,c,p⟩,λx o y=>?_⟩;obtain ⟨e,y⟩:=y;subst e y;exact f i σ _ c pv
 ·have e:i=n:=by omega
  subst e;exact .inl ⟨AM _,j σ H pv⟩
end
end Bs
namespace Bs
open PySem PySem.Spec PyProof.Rows L2
def Yz {P:Program} {w:World} {K:W.Frag} {L:Expr} (a:Addr) (lo:Int) (n:Nat):Turn P w K L (cg lo n) [a] a (λi h=>IsRangeIter h a (lo+(i:Nat)*(-1)) ((n:Int) - (i:Nat)) (-1)) where
 mem:=by simp
 obj:=λi h st b d=>by
  have e:b=a:=by simpa using d
  subst e
  exact ⟨_,st,λv z=>by
   have M:Data.fields _=Data.cell v:=z
   cases M⟩
 keep:=λi h m st k=>k a (by simp) _ st
 item:=by
  intro X q r u x i c s G H E I p st y
  subst q r u
  obtain ⟨A,B,N,C,D,F⟩:=p a (by simp)
  have W:=Walks.range (prog:=X.prog) (w:=X.w) (I.ok.hd x) a lo (-1) n
  refine W.item i s _ _ y st λv m J O f Q=>?_
  obtain ⟨t,rfl⟩:=O
  have R:Inv X c G H { s with heap:=m,toks:=J }:=I.turned (λb o d e=>Q b o (by simpa using d) e) A B C D F
  refine ⟨_,rfl,Ji (s:={ s with heap:=m,toks:=J }) (n := "range_iterator") f rfl rfl ∅ ⟨.int (lo - i),H,R,⟨t,?_⟩,⟨rfl,rfl⟩,f,λb d=>(p b d).1⟩⟩
  rw [show lo+(i:Int)*(-1)=lo - i by omega]
 done:=by
  intro X q r u x i c s G H E I p st y
  subst q r u
  obtain ⟨A,B,N,C,D,F⟩:=p a (by simp)
  exact wpAny_pyNext_range_end (I.ok.hd x) st (by have:n<=i:=y;omega) λm S=>⟨rfl,I.turned (t':=s.toks) (λb o d e=>S b o d e) A B C D F⟩
 self:=λ_ _ _ _ _ st h=>wpAny_pyIter_rangeiter st h
def PZ (a b:Int):Builtin.Range.rangeSize a b (-1)=if b<a then a - b else 0:=by
 unfold Builtin.Range.rangeSize;simp only [show ¬ ((-1:Int) > 0) by decide,if_false,Int.neg_neg,Int.ediv_one];split <;> omega
def Y1 {a b:Int} (e:-(2 ^ 62)<=a) (c:a<2 ^ 62) (f:-(2 ^ 62)<=b) (d:b<2 ^ 62):Builtin.Range.small a b (-1)=true:=by
 unfold Builtin.Range.small;rw [PZ];simp only [Builtin.Range.rangeFitsLong,C9,Bool.or_eq_true,decide_eq_true_eq,beq_iff_eq,show ¬ ((-1:Int) > 0) by decide,if_false];split <;> omega
theorem MG {X:Cx} {E:Expr} {a b c:Expr} {z:TA} {p n:Pos} (F:Gl X "range") (G:X.mg "range" = none) (J:PA X [a,b,c] z) (K:starEach [a,b,c] X.env=[(false,eval a X.env),(false,eval b X.env),(false,eval c X.env)]:=by rfl) (u:starEach [b,c] X.env=[(false,eval b X.env),(false,eval c X.env)]:=by rfl) :
  PI X E (.Call (.Name "range" p) [a,b,c] [] n) (HP z):=by
 intro g s A H R I h;refine Call_ (EV I F G boot_range (PyProof.Rows.callWith_type1 (F_ (J n g s A H _ I h) λW k ⟨Y,B,L,M,w⟩=>?_) (by rw [K,u]) (by rw [u];rfl)));obtain ⟨i,j,e,⟨w,N,O,P⟩,q⟩:=w;subst e;cases M with
 | cons r v=>
   cases v with
   | cons Q v=>
     cases v with
     | cons x v=>
       cases v;obtain ⟨t,rfl⟩:=r;obtain ⟨t',rfl⟩:=Q;obtain ⟨f,rfl⟩:=x;refine call_range_3 ∅ ?_ (.inl (PyProof.noPylong_small ∅));refine wpAny_pyIter_range (IsRange.new ..) (Y1 w N O P) ?_;have y:Inv X g A B { k with heap:=k.heap.push { cls:=.type "range", data:=.fields #[.int i t,.int j t',.int (-1) f] },toks:=k.toks }:=L.kept λb o e=>Heap.get?_push_of_some _ e
       refine ⟨(k.heap.push { cls:=.type "range", data:=.fields #[.int i t,.int j t',.int (-1) f] }).objs.size,[(k.heap.push { cls:=.type "range", data:=.fields #[.int i t,.int j t',.int (-1) f] }).objs.size],_,_,B,rfl,
        y.kept (t':=k.toks) λb o e=>Heap.get?_push_of_some _ e,Yz _ i (i - j).toNat,?_,λb S=>?_,q⟩
       ·have T:i+((0:Nat):Int)*(-1)=i:=by simp
        have U:(((i - j).toNat:Nat):Int) - ((0:Nat):Int)=Builtin.Range.rangeSize i j (-1):=by rw [PZ];split <;> omega
        show IsRangeIter _ _ (i+((0:Nat):Int)*(-1)) ((((i - j).toNat:Nat):Int) - ((0:Nat):Int)) (-1);rw [T,U];exact Heap.get?_push_size _ rfl
       ·have e:b=(k.heap.push { cls:=.type "range", data:=.fields #[.int i t,.int j t',.int (-1) f] }).objs.size:=by simpa using S
        subst e;exact y.fpOk (AM _) (y.hok.fresh (AM _))
end Bs
namespace Bs
open PySem L2
def MH:R2:=λx y H Q=>y=.non/\Q (.bl (decide (x=.non))) H
def Pa:R2:=λx y H Q=>y=.non/\Q (.bl (!decide (x=.non))) H
def Pc (_ j:Int):Prop:=0<j
def Jz (_ j:Int):Prop:=j≠0
abbrev E6:R2:=rI Pc λi j=>.int (i / j)
abbrev ED:R2:=rI Jz λi j=>.int (i.fdiv j)
noncomputable def Itz (K:W.Frag) (a b:Addr):It:=
 ⟨λi H=>∃ c d x y,SqL K H a c/\SqL K H b d/\c[i]?=some x/\d[i]?=some y,λi H v e=>∃ p x y,H p=none/\v=.ref p/\e=upd H p (.tup [x,y])/\(∀ c,SqL K H a c->c[i]?=some x)/\∀ d,SqL K H b d->d[i]?=some y,λi H=>∃ c d,SqL K H a c/\SqL K H b d/\c.length<=i⟩
def MI (K:W.Frag) (d:TA):TI:=λe H R=>d e H λf c=>∃ a b,f=[.ref a,.ref b]/\(∃ g,SqL K c a g)/\(∃ h,SqL K c b h)/\R (Itz K a b) c
def HQ (h:TI) (capt:List (Option Nat)) (g:TG) (tc:TT) (j:TE):TE:=λd H Q=>h d H λJ k=>∃ (n:Nat) (W:Nat->d7->Hp->Prop),W 0 [] k/\∀ i a H,W i a H->i<=n/\a.length<=sizeLine/\
 ((J.stop i H/\∀ p,H p=none->Q (.ref p) (upd H p (.lst a)))\/(i<n/\J.go i H/\∀ x e,J.yld i H x e->g x (CY capt d) e λc m=>tc c m λb f=>if b=true then j c f λy o=>W (i+1) (a++[y]) o else W (i+1) a f))
def CompF (J:It) (capt:List (Option Nat)) (g:TG) (tc:TT) (f:TE) (h:L2.St) (Q:VK) (j:Hp):Prop:=∃ (n:Nat) (W:Nat->d7->Hp->Prop),W 0 [] j/\∀ i a H,W i a H->i<=n/\a.length<=sizeLine/\
 ((J.stop i H/\∀ p,H p=none->Q (.ref p) (upd H p (.lst a)))\/(i<n/\J.go i H/\∀ x d,J.yld i H x d->g x (CY capt h) d λc k=>tc c k λb e=>if b=true then f c e λy m=>W (i+1) (a++[y]) m else W (i+1) a e))
section
variable {K:W.Frag} {ta:TA} {tl:TE} {capt:List (Option Nat)} {g:TG} {tc:TT} {te:TE} {tb:TS} {D:Ends} {σ:L2.St} {H:Hp} {Q:VK} {a b:Addr} {xs ys:d7}
def Y3:HQ (DG K tl) capt g tc te σ H Q=tl σ H (λx c=>∃ a,x=.ref a/\(∃ xs,SqL K c a xs)/\CompF (ax K a) capt g tc te σ Q c):=rfl
def Y4:BY (MI K ta) capt g te σ H Q=ta σ H (λd c=>∃ a b,d=[.ref a,.ref b]/\(∃ xs,SqL K c a xs)/\(∃ ys,SqL K c b ys)/\CompJ (Itz K a b) capt g te σ Q c):=rfl
def CompF.lst (W:Nat->d7->Hp->Prop) (j:W 0 [] H) (d:∀ i ys H,W i ys H->i<=xs.length/\ys.length<=sizeLine/\SqL K H a xs)
  (k:∀ i x ys H,xs[i]?=some x->W i ys H->g x (CY capt σ) H λc m=>tc c m λb f=>if b=true then te c f λy n=>W (i+1) (ys++[y]) n else W (i+1) ys f) (o:∀ ys H,W xs.length ys H->∀ p,H p=none->Q (.ref p) (upd H p (.lst ys))):CompF (ax K a) capt g tc te σ Q H:=by
 refine ⟨xs.length,W,j,λi ys H w=>⟨(d i ys H w).1,(d i ys H w).2.1,?_⟩⟩;have q:SqL K H a xs:=(d i ys H w).2.2;by_cases h:i<xs.length
 ·refine .inr ⟨h,⟨xs,xs[i],q,by simp [h]⟩,λx r y=>?_⟩;obtain ⟨e,y⟩:=y;subst e;exact k i x ys _ (y xs q) w
 ·have e:i=xs.length:=Dz (d i ys H w).1 (Nat.not_lt.mp h);subst e;exact .inl ⟨⟨xs,q,AM _⟩,o ys H w⟩
end
def Pd:V->Hp->VK->Prop:=λx H Q=>∃ (p:Addr) (a:de),x=.ref p/\H p=some (.lst (a.map V.int))/\∀ m:Int,(a=[]/\m=0\/m∈a)->Q (.int m) H
def MJ (a:TE):TE:=λb H Q=>a b H λx c=>Pd x c Q
def MK:d7->Hp->VK->Prop:=λb H Q=>∃ (p:Addr) (a:de),b=[.ref p]/\H p=some (.lst (a.map V.int))/\Q (.bl (a.any λz=>!decide (z=0))) H
end Bs
namespace Bs
open PySem PySem.Spec PyProof.Rows L2
section
variable {X:Cx} {pins:dl} {σ:L2.St} {H:Hp} {s:Shared}
def E7:OpR X (binaryOp .FloorDiv) ED:=by
 intro pins s σ H x y v u Q I a b ⟨i,j,c,d,e,q⟩;subst c d;obtain ⟨t,rfl⟩:=a;obtain ⟨f,rfl⟩:=b;exact floordiv_int e ⟨.int (i.fdiv j),H,I.tok _,⟨_,rfl⟩,q⟩ (Or.inr (I.ok.plr s I.bk))
def Ic:OpR X (binaryOp .FloorDiv) E6:=by
 intro pins s σ H x y v u Q I b c ⟨i,j,d,e,f,q⟩;have a:0<j:=f;replace q:Q (.int (i / j)) H:=q;rw [<-EM i (DS a)] at q;exact E7 pins s σ H x y v u Q I b c ⟨i,j,d,e,AV a,q⟩
def Pe {f:dE} {g:Heap} {tk:Nat} (I:Inv X pins σ H s) (e:∀ b∈f,DF X pins H b) (k:∀ b o,b∉f->s.heap.get? b=some o->g.get? b=some o):Inv X pins σ H { s with heap:=g,toks:=tk }:=by
 have tr:∀ b u,H b=some u->b∉f:=λb u q a=>by rw [(e b a).1] at q;cases q
 refine I.step (g':=s.gens) (d':=s.drawn) (ch:=f) (λb a=>⟨(e b a).2.2.2.1,(e b a).2.1,(e b a).2.2.2.2.1,(e b a).2.2.2.2.2⟩) (λb o _ _ d q _=>k b o d q) (λb o _ _ d q _=>⟨o.slots,k b o d q⟩) (λ_ _ _ _ n=>n)
  (λb o d q=>⟨o,k b o d q⟩) (λ_ _ q=>q) (λ_ _ _ q=>q) (λb ps q=>⟨#[],by rw [q];simp⟩) (λm j=>?_) (λb u q=>?_) I.bare
 ·obtain ⟨o,p,r,w,x⟩:=j;exact ⟨o,p,r,k _ o (λa=>(e _ a).2.1 rfl) w,x⟩
 ·refine (I.hok b u q).stay (λc v d z=>?_) (λ_ z=>z) λ_ _ z=>z;rcases d with y | y
  ·subst y;exact k _ v (tr _ u q) z
  ·exact k c v (tr c _ y) z
def Pf {f:dE} {g:Heap} {tk:Nat} {xs:d7} {its:dh} (I:Inv X pins σ H s) (e:∀ b∈f,DF X pins H b) (k:∀ b o,b∉f->s.heap.get? b=some o->g.get? b=some o)
  (j:xs.length<=sizeLine) (p:Vals xs its) (r:g.get? s.heap.objs.size=some { cls:=.type "tuple", data:=.seq its.toArray }):Inv X pins σ (upd H s.heap.objs.size (.tup xs)) { s with heap:=g,toks:=tk }:=by
 have w:H s.heap.objs.size=none:=I.hok.fresh (AM _);have tn:∀ b u,H b=some u->b≠s.heap.objs.size:=λb u q=>Bi q w;have tr:∀ b u,H b=some u->b∉f:=λb u q a=>by rw [(e b a).1] at q;cases q
 refine I.step (g':=s.gens) (d':=s.drawn) (ch:=f) (λb a=>⟨(e b a).2.2.2.1,(e b a).2.1,(e b a).2.2.2.2.1,(e b a).2.2.2.2.2⟩) (λb o _ _ d q _=>k b o d q) (λb o _ _ d q _=>⟨o.slots,k b o d q⟩) (λb o _ q n=>?_)
  (λb o d q=>⟨o,k b o d q⟩) (λb x q=>?_) (λb o u q=>?_) (λb ps q=>⟨#[],?_⟩) (λm A=>?_) (λb u q=>?_) I.bare
 ·rw [Ar (BV (mP q))];exact n
 ·rw [Ar (tn b _ q)];exact q
 ·rw [Ar (tn b _ q)];exact q
 ·rw [Ar (tn b _ q),q];simp
 ·obtain ⟨o,B,C,D,E⟩:=A;exact ⟨o,B,C,k _ o (λa=>(e _ a).2.1 rfl) D,E⟩
 ·by_cases a:b=s.heap.objs.size
  ·subst a;rw [upd_same] at q;cases q;exact ⟨j,its,p,⟨_,r,rfl,_,rfl⟩⟩
  ·rw [Ar a] at q;refine (I.hok b u q).stay (λc v d z=>?_) (λc z=>by rw [Ar (tn c _ z)];exact z) λc x z=>by rw [Ar (tn c _ z)];exact z
   rcases d with y | y
   ·subst y;exact k _ v (tr _ u q) z
   ·exact k c v (tr c _ y) z
end
def Y5 (a b z c d e f:Addr) (i:Nat) (h:Heap):Prop:=IsZip h z c d .none/\IsPair h c (.ref e) (.ref f)/\(∃ u v,IsPair h d u v)/\h.IsListIter e a i/\h.IsListIter f b i
def Y6 {P:Program} {w:World} {K:W.Frag} {L:du} {k:Nat} {U:Pos} {a b z n p j m:Addr} (D:ZipApart z n p j m a b):Turn P w K (.Tuple L k U) (Itz K a b) [z,n,p,j,m] z (Y5 a b z n p j m) where
 mem:=by simp
 obj:=λi h st c f=>by
  obtain ⟨F,C,⟨u,v,G⟩,⟨o4,A,_,d4⟩,⟨o5,B,_,d5⟩⟩:=st
  have d:c=z\/c=n\/c=p\/c=j\/c=m:=by simpa using f
  rcases d with rfl | rfl | rfl | rfl | rfl
  ·exact ⟨_,F,λv q=>nomatch q⟩
  ·exact ⟨_,C,λv q=>nomatch q⟩
  ·exact ⟨_,G,λv q=>nomatch q⟩
  ·exact ⟨_,A,λv q=>by rw [d4] at q;cases q⟩
  ·exact ⟨_,B,λv q=>by rw [d5] at q;cases q⟩
 keep:=λi h h' st M=>⟨M z (by simp) _ st.1,M n (by simp) _ st.2.1,let ⟨u,v,q⟩:=st.2.2.1;⟨u,v,M p (by simp) _ q⟩,st.2.2.2.1.at λo q=>M j (by simp) o q,st.2.2.2.2.at λo q=>M m (by simp) o q⟩
 item:=by
  intro X Y Z hK f i N s σ H E I R st hg
  subst Y Z hK
  obtain ⟨xs,ys,x,y,S,r,hx,hy⟩:=hg
  obtain ⟨F,C,⟨u0,v0,G⟩,A,B⟩:=st
  obtain ⟨O,rv,p1,_⟩:=I.list S
  obtain ⟨a0,rw',p2,_⟩:=I.list r
  obtain ⟨u,hu,ru⟩:=rv.get hx
  obtain ⟨v,hv,a1⟩:=rw'.get hy
  refine wpAny_pyNext_zip_item D F C G A B p1.isList p2.isList (x:=u) (y:=v) (by simpa using hu) (by simpa using hv) λg g1 g2 g3 g4 g5 _ T=>?_
  refine ⟨_,rfl,wpAny_letOwnedTupleGo_zip g1 λg' z1 J=>?_⟩
  have lz:z<s.heap.objs.size:=mP F
  have Q:∀ c o,c∉[z,n,p,j,m]->s.heap.get? c=some o->g'.get? c=some o:=λc o f q=>by
   have d:¬ (c=z\/c=n\/c=p\/c=j\/c=m):=by simpa using f
   exact J.extBut c o (λe=>d (.inl e)) (T c o (λe=>d (.inl e)) (λe=>d (.inr (.inr (.inl e)))) (λe=>d (.inr (.inr (.inr (.inl e))))) (λe=>d (.inr (.inr (.inr (.inr e))))) q)
  have I1:=Pf (g:=g') (tk:=s.toks) (xs:=[x,y]) (its:=[u,v]) I R Q (sz (by simp)) (.cons ru (.cons a1 .nil)) (J.extBut _ _ (Nat.ne_of_gt lz) g5)
  refine ⟨.ref s.heap.objs.size,_,I1,rfl,⟨_,x,y,I.hok.fresh (AM _),rfl,rfl,λzs hz=>by rw [I.list_inj hz S];exact hx,λzs hz=>by rw [I.list_inj hz r];exact hy⟩,⟨z1,?_,⟨u,v,J.extBut _ _ D.TOz g2⟩,g3.at λo q=>J.extBut j o D.i1z q,g4.at λo q=>J.extBut m o D.i2z q⟩,λc f=>?_⟩
  ·exact J.extBut _ _ D.TIz (T _ _ D.TIz D.TITO D.TIi1 D.TIi2 C)
  ·rw [Ar]
   ·exact (R c f).1
   ·have d:c=z\/c=n\/c=p\/c=j\/c=m:=by simpa using f
    obtain ⟨o4,A,_⟩:=A
    obtain ⟨o5,B,_⟩:=B
    rcases d with rfl | rfl | rfl | rfl | rfl
    ·exact BV lz
    ·exact BV (mP C)
    ·exact BV (mP G)
    ·exact BV (mP A)
    ·exact BV (mP B)
 done:=by
  intro X Y Z hK f i N s σ H E I R st hg
  subst Y Z hK
  obtain ⟨xs,ys,S,r,hx⟩:=hg
  obtain ⟨F,C,⟨u0,v0,G⟩,A,B⟩:=st
  obtain ⟨O,rv,p1,_⟩:=I.list S
  obtain ⟨a0,_,p2,_⟩:=I.list r
  have hl:=rv.length
  refine wpAny_pyNext_zip_end (I.ok.hd f) D F C G A B p1.isList p2.isList (.inl (by simp;omega)) λg T=>⟨rfl,Pe (tk:=s.toks) I R λc o f q=>?_⟩
  have d:¬ (c=z\/c=n\/c=p\/c=j\/c=m):=by simpa using f
  exact T c o (λe=>d (.inl e)) (λe=>d (.inr (.inr (.inl e)))) (λe=>d (.inr (.inr (.inr (.inl e))))) (λe=>d (.inr (.inr (.inr (.inr e))))) q
 self:=λ_ _ _ _ _ st h=>wpAny_pyIter_zip st.1 h
section
variable {X:Cx} {elts:du} {k:Nat} {tpos:Pos} {a b:Expr} {ta:TA} {p pos:Pos}
def vals2 {x y:V} {c:dh} (r:Vals [x,y] c):∃ u v,c=[u,v]/\RelV x u/\RelV y v:=r.two
def Y8 (C:Gl X "zip") (E:X.mg "zip" = none) (F:PA X [a,b] ta) (G:starEach [a,b] X.env=(false,eval a X.env)::starEach [b] X.env:=by rfl) (j:(backTo pos (starEach [b] X.env)).any (·.1)=false:=by rfl):PI X (.Tuple elts k tpos) (.Call (.Name "zip" p) [a,b] [] pos) (MI X.K ta):=by
 intro e s n H R I h;refine Call_ (EV I C E PD (PyProof.Rows.callWith_type1 (F_ (F pos e s n H _ I h) λus d ⟨vs,o,f,J,K⟩=>?_) G j));obtain ⟨r,w,rfl,⟨xs,L⟩,⟨ys,m⟩,q⟩:=K;obtain ⟨u,v,rfl,M,N⟩:=vals2 J;cases M;cases N;obtain ⟨O,_,x,_⟩:=f.list L;obtain ⟨P,_,y,_⟩:=f.list m;refine call_zip_2 x.isList y.isList λg A Q S T U _ W=>?_;have Y:Inv X e n o { d with heap:=g }:=f.kept (t':=d.toks) W;have n1:@LT.lt Nat _ r d.heap.objs.size:=x.lt;have n2:@LT.lt Nat _ w d.heap.objs.size:=y.lt
 have D:ZipApart (d.heap.objs.size+4) (d.heap.objs.size+2) (d.heap.objs.size+3) d.heap.objs.size (d.heap.objs.size+1) r w:=by
  constructor <;> (show (_:Nat)≠_;omega)
 refine wpAny_pyIter_zip A ⟨_,[d.heap.objs.size+4,d.heap.objs.size+2,d.heap.objs.size+3,d.heap.objs.size,d.heap.objs.size+1],_,_,o,rfl,Y,Y6 D,⟨A,Q,⟨_,_,S⟩,T,U⟩,λc Z=>?_,q⟩
 have i:d.heap.objs.size<=c:=by
  have z:c=d.heap.objs.size+4\/c=d.heap.objs.size+2\/c=d.heap.objs.size+3\/c=d.heap.objs.size\/c=d.heap.objs.size+1:=by simpa using Z
  rcases z with z | z | z | z | z <;> rw [z] <;> first | exact Nat.le_add_right _ _ | exact AM _
 exact f.fpOk i (f.hok.fresh i)
end
def ZA:bootBuiltins "any" = some (.builtin "any"):=by decide +kernel
theorem Id:∀ {ns:de} {a:dh} {i:Nat} {u:Value},Vals (ns.map V.int) a->a[i]?=some u->∃ n t,ns[i]?=some n/\u=Value.int n t
 | [],_,_,_,.nil,e=>by simp at e
 | n::ns,_,0,_,.cons r _,e=>by
   simp at e;subst e;obtain ⟨t,rfl⟩:=r;exact ⟨n,t,rfl,rfl⟩
 | _::ns,_,i+1,u,.cons _ r,e=>by
   obtain ⟨n,t,b,c⟩:=Id (i:=i) (u:=u) r (by simpa using e);exact ⟨n,t,by simpa using b,c⟩
section
variable {X:Cx}
def ZB (y:X.calm=true):CL X (.builtin "any") MK:=λk s M H N O Q I r ⟨p,c,e,hp,q⟩=>by
 subst e;obtain ⟨u,rfl,B⟩:=Dj r;cases B;obtain ⟨a,m,j,P⟩:=I.list (SqL.of hp);have R:c.length=a.length:=by have:=m.length;simpa using this
 refine call_any_walk (wpAny_pyIter_list j.isList ⟨s.heap.objs.size,[s.heap.objs.size,p],[s.heap.objs.size],a.toArray.size,_,_,λi=>!decide (c.getD i 0=0),rfl,Walks.list (A:=X.A.in1) (show X.A.in1.handled=none from I.ok.hd y) s.heap.objs.size p (BV j.lt) _,⟨⟨_,Heap.get?_push_size _ rfl,rfl,rfl⟩,j.isList.push _⟩,?_,λg S C=>?_⟩)
 ·intro i v D E T F f;obtain ⟨n,t,G,rfl⟩:=Id m (show a[i]?=some v by simpa using F);have e:c.getD i 0=n:=by rw [AT,G];rfl
  replace f:E (!decide (c.getD i 0=0)) D:=f;rw [e] at f;refine PySem.P.truthy_int ?_;have J:(n != 0)=!decide (n=0):=by rw [Bool.eq_iff_iff];simp
  rw [J];exact f
 ·have K:∀ b o,s.heap.get? b=some o->g.get? b=some o:=λb o e=>C b o (λz=>absurd (mP e) (by rw [CC.mp z];exact C8 _)) (Heap.get?_push_of_some _ e);refine ⟨_,H,I.kept K,?_,q⟩;show Value.bool _=Value.bool _;congr 1;rw [Bool.eq_iff_iff];simp only [List.any_eq_true,EK,A9];constructor
  ·rintro ⟨i,w,h⟩;have d:i<c.length:=by omega
   rw [AT,Ax d] at h;exact ⟨c[i],EN d,h⟩
  ·rintro ⟨x,L,h⟩;obtain ⟨i,w,rfl⟩:=GH L;refine ⟨i,⋯,?_⟩;rw [AT,Ax w];exact h
end
section
variable {prog:Program} {w:World} {A:Around} {R:Result->Shared->Prop} {I:Addr} {fp wr:dE} {n:Nat} {P:Nat->Value->Prop} {St:Nat->Heap->Prop} {d:Value}
theorem ML (W:Walks prog w A.in1 I fp wr n P St) (G:Nat->Nat->Bool) (a:CmpOf prog w A.in1 .Lt P G) (S:Addr) (f:S∉fp):∀ (k j q:Nat) (s:Shared) (h:Value) (c:Nat),n - j=k->j<=n->St j s.heap->q<n->P q h->
  s.heap.get? S=some { cls:=.type "list", dict:=none,data:=.seq #[h,h] c,slots:=#[] }->
  (∀ q v H J,q<n->P q v->(∀ b o,b∉wr->b≠S->s.heap.get? b=some o->H.get? b=some o)->R (.ok (.ret v)) { s with heap:=H,toks:=J })->
  codeAny (model prog w) A (.builtin "min.loop" ⟨[.ref I,.none,.ref S],[("default", d)]⟩) R s
 | 0,j,q,s,h,c,hk,Z,r,N,i,D,K=>by
   have L:j=n:=by omega
   refine codeAny_builtin F.entry_min_loop ?_;rw [Around.under_plainId F.plain_min_loop _];refine mJ (m:=seqItems? (.ref S)) (wpAny_seqItems D rfl ?_);refine mJ (m:=tryCatch (pyNext (.ref I)) _) (wpAny_tryCatch (W.done s _ _ (L ▸ r) λH J kp=>?_));have g:=kp S _ (λz=>f (W.sub _ z)) D;refine mJ (m:=updateSeq S (λ_=>#[])) (wpAny_updateSeq g rfl (mJ (wpAny_letGo (mK ?_))));exact K q h _ J N i λb o u E e=>(Heap.get?_update_other _ _ E.symm).trans (kp b o u e)
 | k+1,j,q,s,h,c,hk,Z,r,N,i,D,K=>by
   have L:j<n:=by omega
   refine codeAny_builtin F.entry_min_loop ?_;rw [Around.under_plainId F.plain_min_loop _];refine mJ (m:=seqItems? (.ref S)) (wpAny_seqItems D rfl ?_);refine mJ (m:=tryCatch (pyNext (.ref I)) _) (wpAny_tryCatch (W.item j s _ _ L r λv H J X p kp=>?_));have g:=kp S _ (λz=>f (W.sub _ z)) D;refine mJ (m:=tryCatch (holding [v,v] (richCompare .Lt v h >>= _)) _) (wpAny_tryCatch (wpAny_holding (mJ (a j q v h _ _ _ X i ?_))));refine mJ (wpAny_holding (wpAny_truthy_bool (mJ (wpAny_letGo (mK ?_)))));have Y:(toString "min" ++ toString ".loop" : String) = "min.loop" := by decide
   cases G j q with
   | true=>
     simp only [if_true];refine mJ (wpAny_updateSeq g rfl (mJ (wpAny_letGo ?_)));rw [Y];refine mK ⟨plainId_quiet F.plain_min_loop _,ML W G a S f k (j+1) j _ v _ ⋯ ⋯ (W.frame _ _ _ p λb hb o e=>(Heap.get?_update_other _ _ (λz:S=b=>f (by rw [z];exact hb))).trans e) L X (Heap.get?_update_self _ g rfl) λO Q E x y B C=>?_⟩;exact K O Q E x y B λb o u M e=>C b o u M ((Heap.get?_update_other _ _ M.symm).trans (kp b o u e))
   | false=>
     simp only [Bool.false_eq_true,if_false];refine mJ (wpAny_letGo ?_);rw [Y];exact mK ⟨plainId_quiet F.plain_min_loop _,ML W G a S f k (j+1) q _ h c ⋯ ⋯ p N i g λO Q E x y B C=>K O Q E x y B λb o u M e=>C b o u M (kp b o u e)⟩
def ZC (W:Walks prog w A.in1 I fp wr n P St) (B:Nat->Nat->Bool) (f:CmpOf prog w A.in1 .Lt P B) (S:Addr) (a:S∉fp) {s:Shared} {c:Nat} (g:St 0 s.heap)
  (C:s.heap.get? S=some { cls:=.type "list", dict:=none,data:=.seq #[] c,slots:=#[] })
  (D:∀ v h k,(n=0/\v=d\/∃ q,q<n/\P q v)->(∀ b o,b∉wr->b≠S->s.heap.get? b=some o->h.get? b=some o)->R (.ok (.ret v)) { s with heap:=h,toks:=k }) :
  codeAny (model prog w) A (.builtin "min.loop" ⟨[.ref I,.none,.ref S],[("default", d)]⟩) R s:=by
 refine codeAny_builtin F.entry_min_loop ?_;rw [Around.under_plainId F.plain_min_loop _];refine mJ (m:=seqItems? (.ref S)) (wpAny_seqItems C rfl ?_);rcases Cc n with z | z
 ·refine mJ (m:=tryCatch (pyNext (.ref I)) _) (wpAny_tryCatch (W.done s _ _ (z ▸ g) λh k kp=>?_));refine mJ (wpAny_rule (mK ?_));exact D d h k (.inl ⟨z,rfl⟩) λb o p _ e=>kp b o p e
 ·refine mJ (m:=tryCatch (pyNext (.ref I)) _) (wpAny_tryCatch (W.item 0 s _ _ z g λv h k J i kp=>?_));have j:=kp S _ (λz=>a (W.sub _ z)) C;have K:(toString "min" ++ toString ".loop" : String) = "min.loop" := by decide
  refine mJ (m:=updateSeq S (λ_=>#[v,v])) (wpAny_updateSeq j rfl ?_);rw [K];refine mK ⟨plainId_quiet F.plain_min_loop _,ML W B f S a _ 1 0 _ v _ rfl z (W.frame _ _ _ i λb L o e=>(Heap.get?_update_other _ _ (λz:S=b=>a (by rw [z];exact L))).trans e) z J (Heap.get?_update_self _ j rfl) λM N O r u x y=>?_⟩;exact D N O r (.inr ⟨M,u,x⟩) λb o p H e=>y b o p H ((Heap.get?_update_other _ _ H.symm).trans (kp b o p e))
end
def ZD (a v:Value):argsOk "min" ⟨[a],[("default", v)]⟩:=by unfold argsOk;kernel_rfl
section
variable {X:Cx} {e:Expr} {te:TE} {p pos kp1 kp2:Pos} {kk:Nat}
def ZE (S:X.calm=true) (T:X.mg "min" = none) (U:bootBuiltins "min" = some (.builtin "min")) (Y:PE X e te) (Z:Gl X "min" := by rfl)
  (hs:starEach [e] X.env=(false,eval e X.env)::starEach [] X.env:=by rfl) (k:backTo pos (starEach [e] X.env)=(false,eval e X.env)::backTo pos (starEach [] X.env):=by rfl):PE X (.Call (.Name "min" p) [e] [⟨some "default", .Constant (.int 0) kk kp1,kp2⟩] pos) (MJ te):=by
 intro f s L H Q I h;refine wpAny_Call_Name_kw (EV I Z T U ?_ ∅ ∅);refine PyProof.Rows.callWith_kw ?_ k (by rw [k];rfl);rw [k];refine Calls.spliced_cons (F_ (Y f s L H _ I h) λu s1 ⟨x,M,I1,r1,q1⟩=>Calls.spliced_nil ?_);have kw:PK X [⟨some "default", .Constant (.int 0) kk kp1,kp2⟩] (AB (tC (.int 0)) AC):=WH AG WG;refine F_ (kw pos f s1 L M (λvs N=>vs=[.int 0]/\N=M) I1 ⟨rfl,rfl⟩) λws c ⟨zs,N,r,rz,ez,eh⟩=>?_;subst ez eh;obtain ⟨z,rfl,t,rfl⟩:=Dj rz;obtain ⟨l,O,rfl,hl,q⟩:=q1;cases r1;obtain ⟨d,y,B,hz⟩:=r.list (SqL.of hl);have a0:O.length=d.length:=by have:=y.length;simpa using this
 have nm:(toString "min" ++ toString ".loop" : String) = "min.loop" := by decide
 refine kmb_tree F.kind_min F.plain_min F.entry_min (ZD _ _) ?_;refine mJ (m:=Builtin.Builtins.bindParams "min" ["key", "default"] 0 ⟨[],[("default", Value.int 0 t)]⟩) (wpAny_of_eq (a:=[none,some (Value.int 0 t)]) rfl ?_);refine mJ (mK (mJ (wpAny_pyIter_list B.isList ?_)));refine mJ (wpAny_newObj_type ?_);rw [nm];have C:l<c.heap.objs.size:=B.lt;have P:(c.heap.push { cls:=.type "list_iterator", data:=.fields #[.ref l,.int 0 0] }).objs.size=c.heap.objs.size+1:=Heap.size_push ..;have W:=Walks.list (prog:=X.prog) (w:=X.w) (A:=X.A.in1) (show X.A.in1.handled=none from r.ok.hd S) c.heap.objs.size l (BV C) d.toArray;refine mK ⟨plainId_quiet F.plain_min_loop _,ZC W _ (CmpOf.ints_lt (λi=>O.getD i 0) λi v D=>?_) _ ?_ ⟨⟨_,Heap.get?_push_of_some _ (Heap.get?_push_size _ rfl),rfl,rfl⟩,(B.isList.push _).push _⟩ (Heap.get?_push_size _ rfl) λv g tk E gk=>?_⟩
 ·obtain ⟨n,G,J,rfl⟩:=Id y (show d[i]?=some v by simpa using D);exact ⟨G,by rw [AT,J];rfl⟩
 ·rw [P]
  have:¬ (c.heap.objs.size+1=c.heap.objs.size\/c.heap.objs.size+1=l):=λz=>by
   rcases z with z | z
   ·exact absurd z (Nat.succ_ne_self _)
   ·rw [<-z] at C;exact absurd C (Nat.not_lt.mpr (Nat.le_succ _))
  simpa using this
 ·have K:∀ b o,c.heap.get? b=some o->g.get? b=some o:=λb o e=>by
   have j:b<c.heap.objs.size:=mP e;refine gk b o (λz=>?_) (λz=>?_) (Heap.get?_push_of_some _ (Heap.get?_push_of_some _ e))
   ·rw [CC.mp z] at j;exact absurd j (C8 _)
   ·rw [z,P] at j;exact absurd j (Nat.not_lt.mpr (Nat.le_succ _))
  have R:=r.kept (t':=tk) K;rcases E with ⟨z,rfl⟩ | ⟨i,hi,D⟩
  ·exact ⟨.int 0,_,R,⟨t,rfl⟩,q 0 (.inl ⟨B6.mp (by rw [A9] at z;omega),rfl⟩)⟩
  ·obtain ⟨n,G,J,rfl⟩:=Id y (show d[i]?=some v by simpa using D);exact ⟨.int n,_,R,⟨G,rfl⟩,q n (.inr (Bg J))⟩
end
end Bs
namespace Bs
open PySem L2
def sS (K:W.Frag):V->Option Int->Option Int->Hp->VK->Prop:=λx lo c H Q=>∃ a b,x=.ref a/\SqL K H a b/\∀ p,H p=none->Q (.ref p) (upd H p (.lst (Bu b lo c)))
def MM:d7->Hp->VK->Prop:=λb H Q=>∃ (p:Addr) (a:de),b=[.ref p]/\H p=some (.lst (a.map V.int))/\Q (.int a.sum) H
end Bs
namespace Bs
open PySem PySem.Spec PyProof.Rows L2
section
variable {X:Cx}
def ZF:OpR X (inplaceOp .FloorDiv) ED:=by
 intro a s g H x y v u Q I b c ⟨i,j,d,e,f,q⟩;subst d e;obtain ⟨t,rfl⟩:=b;obtain ⟨h,rfl⟩:=c;exact ifloordiv_int f ⟨.int (i.fdiv j),H,I.tok _,⟨_,rfl⟩,q⟩ (Or.inr (I.ok.plr s I.bk))
def ZG:OpR X (inplaceOp .FloorDiv) E6:=by
 intro a s c H x y v u Q I d e ⟨i,j,f,g,h,q⟩;have b:0<j:=h;replace q:Q (.int (i / j)) H:=q;rw [<-EM i (DS b)] at q;exact ZF a s c H x y v u Q I d e ⟨i,j,f,g,AV b,q⟩
def ZH:bT X (sS X.K):=O0
theorem Ph (ns:de):∀ k,k<=ns.length->preSum (λi=>ns.getD i 0) k=(ns.take k).sum
 | 0,_=>rfl
 | k+1,h=>by
   have e:ns.take (k+1)=ns.take k++[ns.getD k 0]:=by
    rw [Eu,AT,Ax ⋯];rfl
   show preSum _ k+_=_;rw [e,Ph ns k ⋯,List.sum_append];simp
def ZI (j:X.calm=true):CL X (.builtin "sum") MM:=λf s E H F G Q I r ⟨p,a,e,hp,q⟩=>by
 subst e;obtain ⟨u,rfl,k⟩:=Dj r;cases k;obtain ⟨c,h,d,J⟩:=I.list (SqL.of hp);have m:a.length=c.length:=by have:=h.length;simpa using this
 refine call_sum_walkG (wpAny_pyIter_list d.isList ⟨s.heap.objs.size,[s.heap.objs.size,p],[s.heap.objs.size],c.toArray.size,_,_,λi=>a.getD i 0,rfl,Walks.list (A:=X.A.in1) (show X.A.in1.handled=none from I.ok.hd j) s.heap.objs.size p (BV d.lt) _,⟨⟨_,Heap.get?_push_size _ rfl,rfl,rfl⟩,d.isList.push _⟩,?_,?_,λg K t w=>?_⟩)
 ·intro b x;have z:b=s.heap.objs.size\/b=p:=by simpa using x
  rcases z with z | z
  ·rw [z];exact mP (Heap.get?_push_size _ rfl)
  ·obtain ⟨o,_,y,_⟩:=d;rw [z];exact mP (Heap.get?_push_of_some _ y)
 ·intro i v B;obtain ⟨n,t,C,rfl⟩:=Id h (show c[i]?=some v by simpa using B);have e:a.getD i 0=n:=by rw [AT,C];rfl
  exact ⟨t,by show Value.int n t=Value.int (a.getD i 0) t;rw [e]⟩
 ·have D:∀ b o,s.heap.get? b=some o->g.get? b=some o:=λb o e=>w b o (λz=>absurd (mP e) (by rw [CC.mp z];exact C8 _)) (Heap.get?_push_of_some _ e);refine ⟨.int a.sum,H,I.kept D,⟨t,?_⟩,q⟩;have e:=Ph a a.length (AM _);rw [Cv] at e;rw [A9,<-m,e]
end
end Bs
namespace Bs
open PySem L2
def ZJ (n:Nat) (t:aU):TG:=λv c H Q=>∃ a b,v=.ref a/\H a=some (.lst b)/\b.length=n/\t b c H Q
end Bs
namespace Bs
open PySem PySem.Spec PyProof.Rows L2
def ZK {m n:Nat} {a b:Int} (c:Bd m a) (d:Bd n b) (h:m+n<=134217728):IntMulOk a b:=IntMulOk.of_le (PH c) (PH d) h
end Bs
namespace Bs
open PySem L2
def ZL (i j k:Nat) (b:TA):TS:=λD a H=>b a H λc d=>∃ u v w,c=[u,v,w]/\D.nx (((a.set i (some u)).set j (some v)).set k (some w)) d
end Bs
namespace Bs
open PySem PySem.Spec PyProof.Rows L2
section
variable {X:Cx} {pins:dl} {σ:L2.St} {H:Hp} {s:Shared} {N:dw} {capt:List (Option Nat)} {scope:Scope} {cl:List (Str×Addr)} {C:Addr} {fp:dE}
def MN:TT:=λ_ H Q=>Q true H
def cH (X:Cx) (cs:du) (tc:TT):Prop:=∀ (pins:dl) (s:Shared) (σ:L2.St) (H:Hp) (Q:Bool->Hp->Prop),Inv X pins σ H s->tc σ H Q->
 wpAny (model X.prog X.w) X.A (forIn cs true λc r=>if r=true then do let ok <-isTrue c X.env (eval c X.env);pure (ForInStep.yield ok) else pure (ForInStep.yield r)) (λb d=>∃ a,Inv X pins σ a d/\Q b a) X.xe s
def Pi {X:Cx}:cH X [] MN:=λ_ s _ H _ I h=>wpAny_tests_nil ⟨H,I,h⟩
def ZM {X:Cx} {c:Expr} {tc:TT} (h:L2.PT X c tc):cH X [c] tc:=λpins s σ H Q I q=>wpAny_tests_one (h pins s σ H Q I q)
theorem ZN {prog:Program} {w:World} {A:Around} {R:Result->Shared->Prop} {s:Shared} {y a i:Expr} {cs:du} {scope:Scope} {E:Pos} {M z:Value} {b:Env} (I:Nat->Shared->Prop)
  (F:∀ n s,I n s->wpAny (model prog w) A (pyNext M) (λr d=>match r with
   | none=>R (.ok .next) d
   | some v=>wpAny (model prog w) A (letOwnedTupleGo a M v) (λ_ j=>wpAny (model prog w) A (assign a b v) (λ_ k=>wpAny (model prog w) A (forIn cs true λc r=>if r=true then do let ok <-isTrue c b (eval c b);pure (ForInStep.yield ok) else pure (ForInStep.yield r)) (λB g=>if B=true then wpAny (model prog w) A (eval y b) (λx o=>
     wpAny (model prog w) A (call (.builtin "list.append") [z,x]) (λ_ p=>∃ m,m<n/\I m p) (λ_ _=>False) o) (λ_ _=>False) g else ∃ m,m<n/\I m g) (λ_ _=>False) k) (λ_ _=>False) j) (λ_ _=>False) d) (λ_ _=>False) s)
  (n:Nat) (h:I n s):codeAny (model prog w) A (.compLoop (.ListComp y [⟨a,i,cs,0⟩] scope E) 0 M z b) R s:=by
 refine codeAny_loop rfl I (λn s P=>?_) n h;show wpAny _ A ((compTurn (.ListComp y [⟨a,i,cs,0⟩] scope E) 0 M z b).onRaise (λx=>do noteFrame x b;theTreesLotGoes x)) _ _ s;refine wpAny_noted ?_;rw [compTurn_list];have D:∀ {Q:dj} (e:Value) (O:Shared),(λ(_:Value) (_:Shared)=>False) e O->Q e O:=λ_ _ f=>f.elim;refine mJ (wpAny_standAt (mJ (mM (F n s P) (λr d q=>?_) D)));cases r with
 | none=>exact mK q
 | some v=>
   refine mJ (mM q (λ_ j G=>?_) D);refine mJ (mM G (λ_ g J=>mJ (mM J (λB k u=>?_) D)) D);cases B with
   | false=>exact mK ⟨rfl,u⟩
   | true=>exact mJ (mJ (mM u (λx o K=>mJ (mM K (λ_ p L=>mK (mK ⟨rfl,L⟩)) D)) D))
def MO {a4 A tg:Expr} {cs:du} {tc:TT} {ac:Pos} {wi:TI} {g:TG} {te:TE} {pins:dl} {s:Shared} {σ:L2.St} {H:Hp} {Q:VK} (RR:Value->Addr->Result->Shared->Prop) (hc:X.calm=true) (B:BlkOk X N capt scope cl) (hi:PI X tg A wi)
  (hg:∀ C s H fp,PG (V_ X N scope cl C s H fp) tg g) (ht:∀ C s H fp,cH (V_ X N scope cl C s H fp) cs tc) (he:∀ C s H fp,PE (V_ X N scope cl C s H fp) a4 te) (I:Inv X pins σ H s) (h:HQ wi capt g tc te σ H Q)
  (bf:∀ (D C:Addr) (Z:Shared) (Hq:Hp) (m:dq),Inv X pins σ Hq Z->Q (.ref D) Hq->Z.heap.Ns C m->Hq C=none->C≠X.env.locals->X.s₀.heap.objs.size<=C->(∀ x c,X.env.cells.lookup x=some c->c≠C)->(∀ p∈X.pn++pins,p.1≠C)->RR (.ref D) C (.ok .next) Z) :
  wpAny (model X.prog X.w) X.A (eval A X.env) (λx ad=>wpAny (model X.prog X.w) X.A (pyIter x) (λit aj=>wpAny (model X.prog X.w) X.A (newList []) (λal am=>
   wpAny (model X.prog X.w) X.A (newFunctionEnv scope X.env.globals cl [] X.env.qual none .none (some X.env)) (λa0 an=>
    codeAny (model X.prog X.w) X.A (.compStart (.ListComp a4 [⟨tg,A,cs,0⟩] scope ac) 0 it al { a0 with scope:=relabel scope X.env }) (RR al a0.locals) an) X.xe am) X.xe aj) X.xe ad) X.xe s:=by
 refine F_ (hi pins s σ H _ I h) λv s1 h1=>F_ h1 λbw d h2=>?_;obtain ⟨it,fp,tn,J,M,e,E,T,a5,S,n0,W,w0,ao⟩:=h2;subst e;have fl:∀ b∈fp,b<d.heap.objs.size:=λb a=>by obtain ⟨o,e,_⟩:=T.obj _ _ a5 b a;exact mP e
 refine wpAny_newObj_type (wpAny_newFunctionEnv B.nocell (by intro y hy;simp at hy) (λF w j=>?_) B.kind);dsimp only at w j ⊢;generalize hG:d.heap.push { cls:=.type "list", dict:=none,data:=.seq ([]:dh).toArray }=G at w j ⊢;have hC:G.objs.size=d.heap.objs.size+1:=by rw [<-hG,Heap.size_push]
 have K:d.heap.objs.size<=G.objs.size:=by rw [hC];exact Nat.le_succ _
 have U:d.heap.objs.size≠G.objs.size:=by rw [hC];exact BV (D3 _)
 have a6:∀ b o,d.heap.get? b=some o->F.get? b=some o:=λb o e=>j.extBut b o (by rw [hC];exact BV (Nat.lt_succ_of_lt (mP e))) (Heap.get?_push_of_some _ (hG ▸ Heap.get?_push_of_some _ e));have ar:F.get? d.heap.objs.size=some { cls:=.type "list", data:=.seq ([]:dh).toArray }:=j.extBut _ _ U (Heap.get?_push_of_some _ (hG ▸ Heap.get?_push_size _ rfl));have a7:=PM B E S fl K
 have bg:d.heap.objs.size∉aw X.stack:=λa=>by
  rcases De.mp (E.stkSub _ a) with z | z
  ·exact absurd E.lt (by rw [<-z];exact C8 _)
  ·exact E.nofs (AM _) z
 have bi:∀ x c,cl.lookup x=some c->c≠d.heap.objs.size:=λx c e z=>by
  obtain ⟨v,q⟩:=E.cell x c (B.cells x c e);exact absurd q.lt (by rw [z];exact C8 _)
 have b0:∀ b∈fp,d.heap.objs.size≠b:=λb a z=>absurd (fl b a) (by rw [<-z];exact C8 _);have b1:Inv (V_ X N scope cl G.objs.size d M fp) [] (CY capt σ) M { d with heap:=F,toks:=d.toks+([]:List (Str×Value)).length }:=Yl B E S fl K w a6
 have a3:codeAny (model X.prog X.w) X.A (.compLoop (.ListComp a4 [⟨tg,A,cs,0⟩] scope ac) 0 (.ref it) (.ref d.heap.objs.size) (compEnvC scope cl G.objs.size X.env))
   (RR (.ref d.heap.objs.size) G.objs.size) { d with heap:=F,toks:=d.toks+([]:List (Str×Value)).length }:=by
  refine ZN (λn s'=>∃ (i:Nat) (Y:d7) (f:dh) (k:Nat) (O:Hp),Inv (V_ X N scope cl G.objs.size d M fp) [] (CY capt σ) O s'/\s'.heap.get? d.heap.objs.size=some { cls:=.type "list", data:=.seq f.toArray k }/\Vals Y f/\
   O d.heap.objs.size=none/\tn i s'.heap/\(∀ b∈fp,O b=none)/\W i Y O/\n=n0 - i) ?_ n0 ⟨0,[],[],0,M,b1,ar,.nil,E.hok.fresh (AM _),T.keep _ _ _ a5 (λb _ o e=>a6 b o e),λb a=>(S b a).1,w0,rfl⟩
  rintro n s3 ⟨i,Y,f,k,O,I3,hD,hv,nD,b2,b3,w3,en⟩;obtain ⟨_,hl,b4⟩:=ao i Y O w3;have hz:f.toArray.size<=sizeLine:=by rw [A9,<-hv.length];exact hl
  have b5:Inv (V_ X N scope cl G.objs.size d M fp) [(d.heap.objs.size,{ cls:=.type "list", data:=.seq f.toArray k })] (CY capt σ) O s3:=I3.pins_of λp hp=>by
   rw [CC] at hp;subst hp;exact ⟨hD,nD,U,bg,λv z=>nomatch z⟩
  have ab:∀ {Hx:Hp} (_:∀ b∈fp,Hx b=none),∀ b∈fp,DF (V_ X N scope cl G.objs.size d M fp) [(d.heap.objs.size,{ cls:=.type "list", data:=.seq f.toArray k })] Hx b:=λhx b a=>
   ⟨hx b a,(a7.exf b a).1,a7.exfs b a,.inl a,(a7.exf b a).2,λp hp=>by
    have b6:p∈[((d.heap.objs.size,{ cls:=.type "list", data:=.seq f.toArray k }):Addr×Obj)]:=hp;rw [CC] at b6;subst b6;exact b0 b a⟩
  rcases b4 with ⟨b7,q⟩ | ⟨bx,go,bl⟩
  ·refine F_ (T.done (V_ X N scope cl G.objs.size d M fp) rfl rfl rfl hc i _ s3 _ O _ b5 (ab b3) b2 b7) λr Z ⟨hr,I4⟩=>?_;subst hr;have bm:=(I4.pin (d.heap.objs.size,{ cls:=.type "list", data:=.seq f.toArray k }) (DC _ (CC.mpr rfl))).1;obtain ⟨m,hn,_⟩:=I4.loc;have P:∀ b u,O b=some u->b≠d.heap.objs.size:=λb u e z=>by rw [z,nD] at e;cases e
   have b9:∀ b o,d.heap.get? b=some o->b≠d.heap.objs.size:=λb o e=>BV (mP e);have ub:Un (aw X.stack) fp M O d.heap Z.heap:=I4.base;have cC:∀ b,b<d.heap.objs.size->b≠G.objs.size:=λb a z=>absurd (CO a K) (by rw [z];exact C8 _)
   refine bf _ G.objs.size Z (upd O d.heap.objs.size (.lst Y)) m ?_ (q _ nD) hn (by rw [Ar (λz=>U z.symm)];exact I4.free) (λz=>cC _ E.lt z.symm) (A7 E.sz K)
    (λx c e=>by obtain ⟨v,q⟩:=E.cell x c e;exact cC _ q.lt) λp hp=>cC _ (mP (E.pin p hp).1)
   refine E.call' (ch:=fp) (s':=Z) I4.os ?_ ?_ I4.bare λb a=>⟨(S b a).2.2.2.1,(S b a).2.1,(S b a).2.2.2.2.1,(S b a).2.2.2.2.2⟩
   ·refine ⟨ub.keep,ub.slot,λb o e n hx=>?_,ub.there,λb xs e=>?_,λb o u e=>?_,λb ps e=>?_⟩
    ·rw [Ar (b9 b o e)];exact ub.free b o e n hx
    ·have z:=ub.tups b xs e;rw [Ar (P b _ z)];exact z
    ·have z:=ub.frzs b o u e;rw [Ar (P b _ z)];exact z
    ·obtain ⟨ba,z⟩:=ub.tbls b ps e;exact ⟨ba,by rw [Ar (P b _ z)];exact z⟩
   ·intro b u e;by_cases a:b=d.heap.objs.size
    ·subst a;rw [upd_same] at e;cases e;exact ⟨hl,f,k,hv,bm⟩
    ·rw [Ar a] at e;exact (I4.hok b u e).stay (λc v _ q=>q) (λc q=>by rw [Ar (P c _ q)];exact q) λc xs q=>by rw [Ar (P c _ q)];exact q
  ·refine F_ (T.item (V_ X N scope cl G.objs.size d M fp) rfl rfl rfl hc i _ s3 _ O _ b5 (ab b3) b2 go) λr Z ⟨u,hr,h4⟩=>?_;subst hr;refine F_ h4 λ_ s5 ⟨x,H5,I5,r5,y5,R,bn⟩=>?_;have bp:=I5.pinned (ab bn) (T.obj _ _ R);refine F_ (hg _ _ _ _ _ s5 _ H5 x u _ bp r5 (bl x H5 y5)) λ_ s6 ⟨L,H6,I6,q6⟩=>?_;refine F_ (ht _ _ _ _ _ s6 L H6 _ I6 q6) λbq s9 ⟨H9,I9,q9⟩=>?_
   have bb:∀ b∈fp,∀ o,s5.heap.get? b=some o->s9.heap.get? b=some o/\H9 b=none:=λb a o e=>by
    have z:=I9.pin (b,o) (DC _ (DC _ (Jk a e)));exact ⟨z.1,z.2.1⟩
   cases bq with
   | false=>
     have w9:W (i+1) Y H9:=q9;have bc:=I9.pin (d.heap.objs.size,{ cls:=.type "list", data:=.seq f.toArray k }) (DC _ (List.mem_append_left _ (CC.mpr rfl)));have br:Inv (V_ X N scope cl G.objs.size d M fp) [] L H9 s9:=I9.pins_of λp hp=>nomatch hp
     exact ⟨n0 - (i+1),⋯,i+1,Y,f,k,H9,PN B E S br,bc.1,hv,bc.2.1,T.keep _ _ _ R (λb a o e=>(bb b a o e).1),(λb a=>by
      obtain ⟨o,e,_⟩:=T.obj _ _ R b a;exact (bb b a o e).2),w9,rfl⟩
   | true=>
   replace q9:te L H9 λy H4=>W (i+1) (Y++[y]) H4:=q9;refine F_ (he _ _ _ _ _ s9 L H9 _ I9 q9) λuy s7 ⟨y,H7,I7,r7,w7⟩=>?_;have pD:=I7.pin (d.heap.objs.size,{ cls:=.type "list", data:=.seq f.toArray k }) (DC _ (List.mem_append_left _ (CC.mpr rfl)))
   have pF:∀ b∈fp,∀ o,s5.heap.get? b=some o->s7.heap.get? b=some o/\H7 b=none:=λb a o e=>by
    have z:=I7.pin (b,o) (DC _ (DC _ (Jk a e)));exact ⟨z.1,z.2.1⟩
   refine append_at (hsz:=hz) pD.1 λh8 bd bs=>?_;have bt:Inv (V_ X N scope cl G.objs.size d M fp) [] L H7 s7:=I7.pins_of λp hp=>nomatch hp;have I8:Inv (V_ X N scope cl G.objs.size d M fp) [] L H7 { s7 with heap:=h8,toks:=s7.toks }:=bt.turned (λb o a e=>bd.extBut b o a e) pD.2.1 U (.inr (AM _)) bi (λp hp=>nomatch hp);refine ⟨n0 - (i+1),⋯,i+1,Y++[y],f++[uy],k+1,H7,PN B E S I8,?_,Paired.snoc hv r7,pD.2.1,T.keep _ _ _ R (λb a o e=>bd.extBut b o (b0 b a).symm (pF b a o e).1),λb a=>?_,w7,rfl⟩
   ·show h8.get? _=_;rw [bs,List.push_toArray]
   ·obtain ⟨o,e,_⟩:=T.obj _ _ R b a;exact (pF b a o e).2
 exact codeAny_compStart_list a3 (T.self X.A 0 _ _ _ (T.keep _ _ _ a5 (λb _ o e=>a6 b o e)) a3)
def C2 {c a d:Expr} {f:Pos} {i:TI} {g:TG} {j:TE} (n:X.calm=true) (B:BlkOk X N capt scope cl) (p:PI X d a i)
  (r:∀ C s H fp,PG (V_ X N scope cl C s H fp) d g) (u:∀ C s H fp,PE (V_ X N scope cl C s H fp) c j)
  (v:∀ x,foldedSetIterable a X.env x=pure x:=by intro _;rfl):PE X (.ListComp c [⟨d,a,[],0⟩] scope f) (BY i capt g j):=by
 intro pins s σ H Q I h;rw [eval_ListComp];refine wpAny_comprehension_free (use:=none) rfl v B.clos B.kind B.names (MO (cs:=[]) (tc:=MN) (λk C=>compPost (model X.prog X.w) X.A X.xe none (EP X pins σ Q) k C) n B p r (λ_ _ _ _=>Pi) u I (show HQ i capt g MN j σ H _ from h) λD C M w m y q z A E F G J=>?_);exact ⟨m,z,λO K=>⟨.ref D,w,y.turned (λb o L e=>K.extBut b o L e) A E (.inr F) G J,rfl,q⟩⟩
def ZO {i:Nat} {x:Str} {c j:Pos} {f d n:Expr} {cs:du} {tc:TT} {k:Pos} {E:TI} {g:TG} {F:TE} (K:X.N.Nodup) (r:X.N[i]?=some x) (L:aZ X.env.scope x) (M:X.calm=true) (B:BlkOk X N capt scope cl) (O:PI X n d E)
  (P:∀ C s H fp,PG (V_ X N scope cl C s H fp) n g) (R:∀ C s H fp,cH (V_ X N scope cl C s H fp) cs tc) (S:∀ C s H fp,PE (V_ X N scope cl C s H fp) f F)
  (u:swapsWith (.ListComp f [⟨n,d,cs,0⟩] scope k) (some (.Name x c)) j.line X.env=pure true)
  (T:∀ x,foldedSetIterable d X.env x=pure x) (U:X.fn x=true\/X.env.scope.names.lookup x=some .local) :
  PS X (.Assign [.Name x c] (.ListComp f [⟨n,d,cs,0⟩] scope k) j) (AN (HQ E capt g tc F) (AF i)):=by
 intro pins s σ H D I h;rw [exec_Assign_Name_used _ _ _ _ u];refine mJ (wpAny_standAt (mJ ?_));show wpAny _ X.A (do let _ <-comprehension (.ListComp f [⟨n,d,cs,0⟩] scope k) scope X.env _ (newList []) false (eval d X.env) (some (assign (.Name x c) X.env))) _ _ s
 refine mJ (mM (wpAny_comprehension_free (use:=some (assign (.Name x c) X.env)) (Q:=λ_ p=>SP X pins D .next p) rfl T B.clos B.kind B.names
  (MO (λw C=>compPost (model X.prog X.w) X.A X.xe (some (assign (.Name x c) X.env)) (λ_ p=>SP X pins D .next p) w C) M B O P R S I h λDa C s4 Hq m W q Y y G Z J h4=>?_)) (λ_ p hq=>mK (mK hq)) λ_ _ e=>e)
 show wpAny _ X.A (assign (.Name x c) X.env (.ref Da)) _ _ _;refine wpAny_assign_Name (Ob W K r L (v:=.ref Da) rfl (λs5 I5 ⟨a,A,ha⟩=>⟨m,Y.sameBut A ?_,λh' sb=>⟨_,_,I5.turned (λb o hb e=>sb.extBut b o hb e) y G (.inr Z) J h4,q⟩⟩) U);rcases ha with z | z
 ·rw [z];exact G
 ·exact λe=>J x a z e.symm
def Ie {i:Nat} {x:Str} {b c:Pos} {d a f:Expr} {e:Pos} {k:TI} {g:TG} {m:TE} (n:X.N.Nodup) (h:X.N[i]?=some x) (o:aZ X.env.scope x) (p:X.calm=true) (B:BlkOk X N capt scope cl) (q:PI X f a k)
  (r:∀ C s H fp,PG (V_ X N scope cl C s H fp) f g) (u:∀ C s H fp,PE (V_ X N scope cl C s H fp) d m)
  (j:swapsWith (.ListComp d [⟨f,a,[],0⟩] scope e) (some (.Name x b)) c.line X.env=pure true:=by rfl)
  (v:∀ x,foldedSetIterable a X.env x=pure x:=by intro _;rfl) (w:X.fn x=true\/X.env.scope.names.lookup x=some .local:=by first | exact .inl rfl | exact .inr rfl | assumption) :
  PS X (.Assign [.Name x b] (.ListComp d [⟨f,a,[],0⟩] scope e) c) (AN (BY k capt g m) (AF i)):=
 ZO n h o p B q r (λC s H fp=>Pi) u j v w
def ZP {d a f c:Expr} {tc:TT} {i:Pos} {k:TI} {g:TG} {n:TE} (p:X.calm=true) (B:BlkOk X N capt scope cl) (r:PI X f a k)
  (u:∀ C s H fp,PG (V_ X N scope cl C s H fp) f g) (v:∀ C s H fp,L2.PT (V_ X N scope cl C s H fp) c tc) (w:∀ C s H fp,PE (V_ X N scope cl C s H fp) d n)
  (y:∀ x,foldedSetIterable a X.env x=pure x:=by intro _;rfl):PE X (.ListComp d [⟨f,a,[c],0⟩] scope i) (HQ k capt g tc n):=by
 intro pins s σ H Q I h;rw [eval_ListComp];refine wpAny_comprehension_free (use:=none) rfl y B.clos B.kind B.names (MO (λj C=>compPost (model X.prog X.w) X.A X.xe none (EP X pins σ Q) j C) p B r u (λC s H fp=>ZM (v C s H fp)) w I h λD C P z m A q E F G J K L=>?_);exact ⟨m,E,λR M=>⟨.ref D,z,A.turned (λb o O e=>M.extBut b o O e) F G (.inr J) K L,rfl,q⟩⟩
end
section
variable {X:Cx}
def xI {r:R2} {a:Expr} {c:TE} {n:Int} {j} {q b:Pos} (d:a_ X r) (e:PE X a c):PE X (.Subscript a (.Constant (.int n) j q) b) (A_ r c (tC (.int n))):=BR d e AG (λ_ _=>rfl)
def C' {i:Nat} {x:Str} {e:Expr} {c:TE} {a b:Pos} (d:X.N.Nodup) (f:PE X e c) (g:X.N[i]?=some x:=by rfl) (h:aZ X.env.scope x:=by exact .inl rfl) (j:swapsWith e (some (.Name x a)) b.line X.env=pure false:=by rfl) (k:X.fn x=true\/X.env.scope.names.lookup x=some .local:=by first | exact .inl rfl | exact .inr rfl):PS X (.Assign [.Name x a] e b) (AN c (AF i)):=DE d g h f j k
def cR {c:CmpOp} {r:R2} {a b:Expr} {e f:TE} {d:Pos} (g:OpR X (compareOp c) r) (h:PE X a e) (i:PE X b f) (j:behindInMarks c b=false:=by exact U_ _):L2.PT X (.Compare a [c] [b] d) (Az (A_ r e f)):=V3 g h i j
variable {n m:Nat} {x:Str} {ps:dw} {sp:Sp} {a b c:Expr} {ta tb tc:TE} {p pos:Pos} (C:Cal X.prog X.w X.K X.mg X.base n x ps sp) (hr:Room m X.A)
include C hr
theorem Cal.q1 (e:PE X a ta) (f:n<=m:=by decide) (g:Gl X x:=by rfl) (h:(x == ("__debug__" : Str))=false:=by decide) (d:starEach [a] X.env=(false,eval a X.env)::starEach [] X.env:=by rfl):PE X (.Call (.Name x p) [a] [] pos) (AE sp [] E0 (AB ta AC)):=C.pe hr f g (AD e AJ d) h d rfl
theorem Cal.q2 (e:PE X a ta) (f:PE X b tb) (g:n<=m:=by decide) (h:Gl X x:=by rfl) (i:(x == ("__debug__" : Str))=false:=by decide) (d:starEach [a,b] X.env=(false,eval a X.env)::starEach [b] X.env:=by rfl) (j:starEach [b] X.env=(false,eval b X.env)::starEach [] X.env:=by rfl) (hp:(backTo pos (starEach [b] X.env)).any (·.1)=false:=by rfl):PE X (.Call (.Name x p) [a,b] [] pos) (AE sp [] E0 (AB ta (AB tb AC))):=C.pe hr g h (AD e (AD f AJ j) d) i d hp
theorem Cal.q3 (e:PE X a ta) (f:PE X b tb) (g:PE X c tc) (h:n<=m:=by decide) (i:Gl X x:=by rfl) (j:(x == ("__debug__" : Str))=false:=by decide) (d:starEach [a,b,c] X.env=(false,eval a X.env)::starEach [b,c] X.env:=by rfl) (k:starEach [b,c] X.env=(false,eval b X.env)::starEach [c] X.env:=by rfl) (o:starEach [c] X.env=(false,eval c X.env)::starEach [] X.env:=by rfl) (hp:(backTo pos (starEach [b,c] X.env)).any (·.1)=false:=by rfl):PE X (.Call (.Name x p) [a,b,c] [] pos) (AE sp [] E0 (AB ta (AB tb (AB tc AC)))):=C.pe hr h i (AD e (AD f (AD g AJ o) k) d) j d hp
end
end Bs
namespace Bs
open PySem PySem.W PyProof.Rows
section
variable {k:dF} {N:Nat} {p:Array Nat}
noncomputable def kp (k:dF) (p:Array Nat) (i:Nat):Int:=k (p.getD i 0)
def Pm (N:Nat) (p:Array Nat):Prop:=p.Perm (List.range N).toArray
end
end Bs
namespace Bs
open PySem L2
noncomputable def stV {a:Type} (xs:List a) (i n:Nat):List a:=(List.range ((xs.length - i+n - 1) / n)).filterMap λm=>xs[i+m*n]?
def Pj (e f g:TE):TE:=λb H Q=>e b H λx h=>Ec f b h λo j=>Ec g b j λu c=>∃ (a:Addr) (i n:Nat) (d:d7),x=.ref a/\o=some (i:Int)/\u=some (n:Int)/\c a=some (.tup d)/\2<=n/\∀ p,c p=none->Q (.ref p) (upd c p (.tup (stV d i n)))
end Bs
namespace HT
open PySem PySem.Spec PyProof.Rows L2
variable {prog:Program} {w:World} {A:Around} {E:dj} {s:Shared}
def ZQ (i n m:Nat) (c:2<=n):Builtin.Slice.sliceAdjust (some (i:Int)) none (n:Int) (m:Int)=(((min i m:Nat):Int),(m:Int)):=by
 unfold Builtin.Slice.sliceAdjust;have a:¬ ((n:Int)<0):=by omega
 have b:¬ ((i:Int)<0):=by omega
 simp only [a,b,if_false];refine Prod.ext ?_ rfl;show min (i:Int) (m:Int)=_;omega
def ZR (i n m:Nat) (b:2<=n):Builtin.Slice.slicePlaces ((min i m:Nat):Int) (m:Int) (n:Int)=(m - i+n - 1) / n:=by
 unfold Builtin.Slice.slicePlaces;have a:(n:Int) > 0:=by omega
 simp only [a,if_true];rcases Am i m with c | c
 ·rw [show min i m=i by omega,mF ⋯,show (m:Int) - (i:Int) - 1=((m - i - 1:Nat):Int) by omega,show ((m - i - 1:Nat):Int) / (n:Int)=(((m - i - 1) / n:Nat):Int) from (Int.natCast_ediv ..).symm]
  have:(m - i+n - 1) / n=(m - i - 1) / n+1:=by
   rw [show m - i+n - 1=m - i - 1+n by omega,Nat.add_div_right _ ⋯]
  rw [this];generalize (m - i - 1) / n=q;omega
 ·rw [show min i m=m by omega,mE ⋯,show m - i+n - 1=n - 1 by omega,Ev ⋯];rfl
def ZS {e:Addr} {c d:Value} {i n m:Nat} {Q:Int×Int×Nat->Shared->Prop} (g:s.heap.IsSliceOf e c .none d) (j:IsPart c (some (i:Int))) (ps:IsPart d (some (n:Int))) (f:2<=n)
  (h:Q (((min i m:Nat):Int),(n:Int),(m - i+n - 1) / n) s):wpAny (model prog w) A (Builtin.Slice.sliceApplied (.ref e) (pure (m:Int))) Q E s:=by
 obtain ⟨os,a,k,b⟩:=id g;unfold Builtin.Slice.sliceApplied Builtin.Slice.sliceFields;refine mJ (mJ (wpAny_field a b (x:=c) rfl (mJ (wpAny_field a b (x:=.none) rfl (mJ (wpAny_field a b (x:=d) rfl (mK ?_)))))));refine mJ (Jm ps ?_);show wpAny _ _ (if ((n:Int) == 0)=true then _ else _) _ _ s;rw [mE (λz=>by have:(n:Int)=0:=eq_of_beq z;omega)];refine mJ (Jm j (mJ (slicePart_none (mJ (mK ?_)))));show wpAny _ _ (match Builtin.Slice.sliceAdjust (some (i:Int)) none (n:Int) (m:Int) with | (lo,o)=>pure (lo,(n:Int),Builtin.Slice.slicePlaces lo o (n:Int))) _ _ s;rw [ZQ i n m f];show wpAny _ _ (pure (((min i m:Nat):Int),(n:Int),Builtin.Slice.slicePlaces ((min i m:Nat):Int) (m:Int) (n:Int))) _ _ s;rw [ZR i n m f];exact mK h
def ZT (xs:Array Value) (i n:Nat):((List.range ((xs.size - i+n - 1) / n)).filterMap λ(m:Nat)=>xs[(((min i xs.size:Nat):Int)+(m:Int)*(n:Int)).toNat]?).toArray=(Bs.stV xs.toList i n).toArray:=by
 unfold Bs.stV;rw [Array.length_toList];congr 1;rcases Am i xs.size with c | c
 ·refine congrArg (λf=>List.filterMap f _) (funext λm=>?_);rw [show (((min i xs.size:Nat):Int)+(m:Int)*(n:Int)).toNat=i+m*n by rw [show min i xs.size=i by omega,<-Int.natCast_mul,<-Int.natCast_add];rfl];rw [Array.getElem?_toList]
 ·rcases Cc n with z | z
  ·subst z;simp
  ·rw [show (xs.size - i+n - 1) / n=0 by rw [show xs.size - i+n - 1=n - 1 by omega];exact Ev ⋯];rfl
def stV_len {d:Type} (xs:List d) (i n:Nat):(Bs.stV xs i n).length<=xs.length:=by
 unfold Bs.stV;refine A7 (List.length_filterMap_le _ _) ?_;rw [BD];rcases Cc n with z | z
 ·subst z;simp
 ·rcases Am i xs.length with c | c
  ·refine A7 (Nat.div_le_of_le_mul (m:=xs.length - i+n - 1) (n:=xs.length - i) ?_) ⋯;obtain ⟨a,e⟩:∃ a,xs.length - i=a+1:=⟨xs.length - i - 1,⋯⟩;obtain ⟨b,f⟩:∃ b,n=b+1:=⟨n - 1,⋯⟩;rw [e,f];have:(b+1)*(a+1)=a*b+a+b+1:=by ext
   have:0<=a*b:=Ab _;omega
  ·rw [show xs.length - i+n - 1=n - 1 by omega,Ev ⋯];exact Ab _
def getItem_tuple_stp {t d:Addr} {a:Array Value} {k o:Value} {i n:Nat} {Q:dj} (c:IsTup s.heap t a) (p:s.heap.IsSliceOf d k .none o) (v:IsPart k (some (i:Int))) (ps:IsPart o (some (n:Int))) (x:2<=n)
  (h:Q (.ref s.heap.objs.size) { s with heap:=s.heap.push { cls:=.type "tuple", data:=.seq (Bs.stV a.toList i n).toArray } })
  (hsz:a.size<=sizeLine):wpAny (model prog w) A (getItem (.ref t) (.ref d)) Q E s:=by
 have b:sizeOk (.seq (Bs.stV a.toList i n).toArray):=by
  show (Bs.stV a.toList i n).length<=sizeLine;have B:=stV_len a.toList i n;have C:a.toList.length=a.size:=Array.length_toList ..;omega
 obtain ⟨os,e,f,z⟩:=id p;have g:s.TypeIs (.ref d) "slice" := ⟨os,e,f⟩;unfold getItem
 try with_reducible refine wpAny_holding ?_
 first | refine mJ (mK ?_) | skip
 refine mJ (wpAny_sequenceKey c.typeIs ∅ ?_)
 refine mJ (wpAny_callSpecial?_slot (name:=Str.ofString "__getitem__") c.typeIs PyProof.Rows.slot_tuple_getitem
  (wpAny_call_entry PyProof.Rows.slot_tuple_getitem c.typeIs entry_tuple_getitem ?_ (args_tuple_getitem _ _)))
 show wpAny _ _ (Builtin.Tuple.tupleItemsOf (.ref t) >>= _) _ _ s;refine mJ (tupleItemsOf_ c ?_);refine mJ (wpAny_typeOf g ?_);rw [mF ∅];refine mJ (ZS (m:=a.size) p v ps x ?_)
 have j:¬ ((((min i a.size:Nat):Int) == 0 && (n:Int) == 1 && ((a.size - i+n - 1) / n) == a.size)=true):=by
  intro q;rw [C9,C9] at q;have D:(n:Int)=1:=eq_of_beq q.1.2;omega
 show wpAny _ _ (if (((min i a.size:Nat):Int) == 0 && (n:Int) == 1 && ((a.size - i+n - 1) / n) == a.size)=true then _ else _) _ _ s;rw [mE j,ZT]
 first
  | exact mJ (m:=Builtin.Tuple.tupleExact _) (wpAny_newObj_type (mK ⟨_,rfl,mK h⟩) b)
  | exact mJ (m:=Builtin.Tuple.tupleExact _) (wpAny_newObj_type (mJ (mK (mK ⟨_,rfl,mK h⟩))) b)
end HT
namespace Bs
open PySem PySem.Spec PyProof.Rows L2
theorem Vals.stV {xs:d7} {a:dh} (r:Vals xs a) (i n:Nat):Vals (stV xs i n) (stV a i n):=by
 have e:=r.length;unfold Bs.stV;rw [<-e];generalize (xs.length - i+n - 1) / n=k;generalize List.range k=b
 induction b with
 | nil=>exact .nil
 | cons m b d=>
   rcases Am (i+m*n) xs.length with c | c
   ·obtain ⟨u,f,g⟩:=r.get (Ax c);rw [FP,FP,Ax c,f];exact .cons g d
   ·rw [FP,FP,Bh c,Bh ⋯];exact d
def ZU {X:Cx} {e lo st:Expr} {B C D:TE} {E m:Pos} (L:PE X e B) (M:PE X lo C) (p:PE X st D):PE X (.Subscript e (.Slice (some lo) none (some st) E) m) (Pj B C D):=by
 intro c s f H Q I h;refine Subscript_ (F_ (L c s f H _ I h) λv N ⟨x,O,P,R,S⟩=>?_);refine wpAny_Slice (F_ (FX M c N f O _ P S) λF T ⟨o,U,W,Y,Z⟩=>?_);rw [evalPart_none];refine mK (F_ (FX p c T f U _ W Z) λG d ⟨u,H3,I3,pk,q3⟩=>?_);obtain ⟨a,i,n,w,rfl,rfl,rfl,hx,n2,q⟩:=q3;have y:Inv X c f H3 { d with heap:=d.heap.push { cls:=.type "slice", data:=.fields #[F,.none,G] } }:=I3.kept (t':=d.toks) λb ob q=>Heap.get?_push_of_some _ q;cases R;obtain ⟨A,r,J,K⟩:=y.tuple (SqT.of hx);have k:A.toArray.size=w.length:=by rw [A9];exact r.length.symm
 show wpAny (model X.prog X.w) X.A (subscriptTail e (.Slice (some lo) none (some st) E) (.ref a) (.ref d.heap.objs.size)) (EP X c f Q) X.xe { d with heap:=d.heap.push { cls:=.type "slice", data:=.fields #[F,.none,G] } };refine tail_any (ops:=[.ref a,.ref d.heap.objs.size]) J.typeIs PyProof.Rows.slot_tuple_getitem.lookup ?_ (by with_unfolding_all rfl);refine HT.getItem_tuple_stp J (Heap.IsSliceOf.new ..) Y pk n2 ?_ (by rw [k];exact K);refine ⟨.ref _,_,y.laid (t':=d.toks) (o:=.tup (stV w i n)) (λb ob q=>Heap.get?_push_of_some _ q) (AM _) ?_,rfl,q _ (y.hok.fresh (AM _))⟩;exact ⟨A7 (HT.stV_len w i n) K,_,Vals.stV r i n,IsTup.new _ _⟩
end Bs
namespace Bs
open PySem L2
def aI (K:W.Frag):R2:=λx y H Q=>∃ p i a v,x=.ref p/\y=.int i/\SqT K H p a/\N_ a i=some v/\Q v H
def ZV (K:W.Frag):R2:=λx y H Q=>∃ a k b,x=.ref a/\y=.int k/\SqT K H a b/\b≠[]/\1<=k/\k<2 ^ 62/\b.length*k.toNat<=sizeLine/\
 (k=1->Q (.ref a) H)/\(2<=k->∀ p,H p=none->Q (.ref p) (upd H p (.tup (List.replicate k.toNat b).flatten)))
end Bs
namespace Bs
open PySem PySem.Spec PyProof.Rows L2
open Builtin
def MP:fillsNumberSlot (.type "tuple") "mul" = pure false:=
 PySem.fillsNumberSlot_seq (id := "tuple.__mul__") (r:=some (.builtin "tuple.__rmul__")) F.slot_tuple_mul.lookup (by decide +kernel) F.slot_tuple_rmul.lookup (by decide +kernel)
def MS:seqRepeat? (.type "tuple")=pure (some (.builtin "tuple.__mul__")):=by
 unfold seqRepeat?;rw [PySem.seqSlot_of (T := "tuple") (name := "__mul__") (id := "tuple.__mul__") F.slot_tuple_mul.lookup (by decide +kernel),PySem.seqSlot_of (T := "tuple") (name := "__rmul__") (id := "tuple.__rmul__") F.slot_tuple_rmul.lookup (by decide +kernel)];rfl
def MT (a:Int) (t:Tok) (l:Addr) (b:Array Value) (n:Nat) (e:Option Addr) (f:Array (dC)) :
  Meets (Builtin.«int.__rmul__» ⟨[.int a t,.ref l],[]⟩) (λ_ R s=>s.heap.get? l=some ⟨.type "tuple", e,.seq b n,f⟩/\R (.ok (.ret Value.notImplemented)) s):=
 .of_wp λc w A R s h=>by obtain ⟨hp,g,d,i,os⟩:=s;obtain ⟨j,h⟩:=h;wp_walk;exact ⟨_,rfl,h⟩
def ZW (t:Tok) (l:Addr) (c:Option Addr) (e:Array (dC)) (a:Array Value) (n:Nat) :
  Meets (Builtin.«tuple.__mul__» ⟨[.ref l,.int 1 t],[]⟩) (λ_ R s=>s.heap.get? l=some ⟨.type "tuple", c,.seq a n,e⟩/\R (.ok (.ret (.ref l))) s):=
 .of_wp λb w A R s h=>by
  obtain ⟨hp,g,d,f,os⟩:=s;obtain ⟨i,h⟩:=h
  wp_walk
  exact ⟨_,rfl,h⟩
def ZX (a:Int) (t:Tok) (l:Addr) (k:Option Addr) (m:Array (dC)) (b:Array Value) (n:Nat) (u:2<=a) (v:a<2 ^ 62) (f:b.isEmpty=false) (o:¬ ((b.size:Int)*a > (2 ^ 63 - 1) / 8)) (x:¬ Tuple.tupleTooMany (b.size*a)=true) (y:¬ (List.foldl (λc e=>c++e) #[] (List.replicate a.toNat b)).size > sizeLine) :
  Meets (Builtin.«tuple.__mul__» ⟨[.ref l,.int a t],[]⟩) (λ_ R s=>s.heap.get? l=some ⟨.type "tuple", k,.seq b n,m⟩/\R (.ok (.ret (.ref s.heap.objs.size))) { s with heap:=s.heap.push ⟨.type "tuple", none,.seq (List.foldl (λc e=>c++e) #[] (List.replicate a.toNat b)) 0,#[]⟩ }):=
 .of_wp λj w A R s h=>by
  obtain ⟨hp,g,d,z,os⟩:=s;obtain ⟨B,h⟩:=h;have p:(decide (a < -2 ^ 63) || decide (a ≥ 2 ^ 63))=false:=by simp;omega
  have q:(b.isEmpty || a == 1)=false:=by rw [f];simp;omega
  have r:(decide (a<=0) || b.isEmpty)=false:=by rw [f];simp;omega
  wp_walk
  rw [mE (by rw [p];decide)]
  wp_walk
  rw [mE (by rw [q];decide)]
  wp_walk
  rw [mE (by rw [r];decide)]
  wp_walk
  rw [mE o]
  wp_walk
  exact ⟨_,rfl,h⟩
section
variable {X:Cx}
def Ff:a_ X (aI X.K):=by
 intro a b c s d H x y v u Q I e f h g;obtain ⟨p,i,j,w,k,m,hp,n,q⟩:=h;exact Oz a b c s d H x y v u Q I e f ⟨p,j,i,w,k,m,hp,n,q⟩ g
def ZY:OpR X (binaryOp .Mult) (ZV X.K):=by
 intro B s σ H x y v u Q I J K h;obtain ⟨a,k,L,rfl,rfl,M,N,k1,O,C,P,R⟩:=h;cases J;obtain ⟨t,rfl⟩:=K;obtain ⟨d,r,p,_⟩:=I.tuple M;have S:=r.length;have w:d≠[]:=λz=>N (r.nil_iff.mp z);obtain ⟨⟨c,j,dt,m⟩,e,D,n,E⟩:=p;simp only at D E;subst D E;by_cases W:k=1
 ·subst W
  exact wpAny_binaryOp_repeat_ref (T := "tuple") (U := "int") ∅ ⟨_,e,rfl⟩ (λA=>typeIs_int A 1 t) MP F.fills_int_mul F.slot_int_rmul MS F.slot_int_index.lookup
   (call_meets F.slot_int_rmul (typeIs_int s 1 t) F.entry_int_rmul (F.args_int_rmul_2 _ _) (MT 1 t a d.toArray n j m)
    ⟨e,rfl,⟨_,e,rfl⟩,call_meets F.slot_tuple_mul ⟨_,e,rfl⟩ F.entry_tuple_mul (F.args_tuple_mul_2 _ _) (ZW t a j m d.toArray n) ⟨e,⟨.ref a,H,I,rfl,P rfl⟩⟩⟩)
 have i:2<=k:=by omega
 have f:d.toArray.size*k.toNat<=sizeLine:=by rw [A9,<-S];exact C
 have G:List.foldl (λY Z=>Y++Z) #[] (List.replicate k.toNat d.toArray)=(List.replicate k.toNat d).flatten.toArray:=by
  have:=Lf d k.toNat [];rw [List.nil_append] at this;exact this
 have g:((List.replicate k.toNat d).flatten).length=k.toNat*d.length:=Lj ..;have hint:((d.toArray.size:Nat):Int)*k=((d.toArray.size*k.toNat:Nat):Int):=by rw [Int.natCast_mul,Int.toNat_of_nonneg ⋯]
 have hi:d.toArray.isEmpty=false:=by
  cases d with
  | nil=>exact absurd rfl w
  | cons _ _=>rfl
 have a0:(sizeLine:Nat)<=(2 ^ 63 - 1) / 8:=by decide
 refine wpAny_binaryOp_repeat_ref (T := "tuple") (U := "int") ∅ ⟨_,e,rfl⟩ (λA=>typeIs_int A k t) MP F.fills_int_mul F.slot_int_rmul MS F.slot_int_index.lookup
  (call_meets F.slot_int_rmul (typeIs_int s k t) F.entry_int_rmul (F.args_int_rmul_2 _ _) (MT k t a d.toArray n j m)
   ⟨e,rfl,⟨_,e,rfl⟩,call_meets F.slot_tuple_mul ⟨_,e,rfl⟩ F.entry_tuple_mul (F.args_tuple_mul_2 _ _) (ZX k t a j m d.toArray n i O hi (by rw [hint];omega) (λz=>Nat.not_lt.mpr f (Int.ofNat_lt.mp (show ((sizeLine:Nat):Int)<((d.toArray.size*k.toNat:Nat):Int) by rw [<-hint];exact mH z))) (by rw [G,A9,g,B5];exact Nat.not_lt.mpr f)) ⟨e,?_⟩⟩)
 rw [G];refine ⟨.ref s.heap.objs.size,_,I.laid (t':=s.toks) (o:=.tup (List.replicate k.toNat L).flatten) (λb ob q=>Heap.get?_push_of_some _ q) (AM _) ?_,rfl,R i _ (I.hok.fresh (AM _))⟩;exact ⟨by rw [Lj,B5];exact C,_,r.rep k.toNat,IsTup.new _ _⟩
end
end Bs
namespace Bs
open PySem L2
def Pk (K:W.Frag):R2:=λx y H Q=>∃ a k b,x=.ref a/\y=.int k/\SqT K H a b/\b≠[]/\0<=k/\k<2 ^ 62/\b.length*k.toNat<=sizeLine/\
 (k=1->Q (.ref a) H)/\(k≠1->∀ p,H p=none->Q (.ref p) (upd H p (.tup (List.replicate k.toNat b).flatten)))
end Bs
namespace Bs
open PySem PySem.Spec PyProof.Rows L2
open Builtin
def ZZ (t:Tok) (l:Addr) (e:Option Addr) (f:Array (dC)) (a:Array Value) (n:Nat) (i:a.isEmpty=false) :
  Meets (Builtin.«tuple.__mul__» ⟨[.ref l,.int 0 t],[]⟩) (λ_ R s=>s.heap.get? l=some ⟨.type "tuple", e,.seq a n,f⟩/\R (.ok (.ret (.ref s.heap.objs.size))) { s with heap:=s.heap.push ⟨.type "tuple", none,.seq #[] 0,#[]⟩ }):=
 .of_wp λc w A R s h=>by
  obtain ⟨hp,g,d,j,os⟩:=s;obtain ⟨k,h⟩:=h
  wp_walk
  exact ⟨_,rfl,h⟩
section
variable {X:Cx}
def Zb:OpR X (binaryOp .Mult) (Pk X.K):=by
 intro f s K H x y v u Q I i j h;obtain ⟨a,k,L,m,w,A,B,W,M,N,O,C⟩:=h;by_cases P:k=0
 ·subst P m w;cases i;obtain ⟨t,rfl⟩:=j;obtain ⟨d,r,p,_⟩:=I.tuple A;have g:d≠[]:=λz=>B (r.nil_iff.mp z);obtain ⟨⟨c,D,Y,E⟩,e,G,n,J⟩:=p;simp only at G J;subst G J
  have R:d.toArray.isEmpty=false:=by
   cases d with
   | nil=>exact absurd rfl g
   | cons _ _=>rfl
  refine wpAny_binaryOp_repeat_ref (T := "tuple") (U := "int") ∅ ⟨_,e,rfl⟩ (λS=>typeIs_int S 0 t) MP F.fills_int_mul F.slot_int_rmul MS F.slot_int_index.lookup
   (call_meets F.slot_int_rmul (typeIs_int s 0 t) F.entry_int_rmul (F.args_int_rmul_2 _ _) (MT 0 t a d.toArray n D E)
    ⟨e,rfl,⟨_,e,rfl⟩,call_meets F.slot_tuple_mul ⟨_,e,rfl⟩ F.entry_tuple_mul (F.args_tuple_mul_2 _ _) (ZZ t a D E d.toArray n R) ⟨e,?_⟩⟩)
  refine ⟨.ref s.heap.objs.size,_,I.laid (t':=s.toks) (o:=.tup []) (λb Z q=>Heap.get?_push_of_some _ q) (AM _) ?_,rfl,C ∅ _ (I.hok.fresh (AM _))⟩;exact ⟨Ab _,_,.nil,IsTup.new _ _⟩
 ·exact ZY f s K H x y v u Q I i j ⟨a,k,L,m,w,A,B,⋯,M,N,O,λc=>C ⋯⟩
end
end Bs
namespace Bs
open PySem L2
noncomputable def aW (K:W.Frag) (a b:Addr):It:=
 ⟨λi H=>∃ c d x y,SqT K H a c/\SqT K H b d/\c[i]?=some x/\d[i]?=some y,λi H v e=>∃ p x y,H p=none/\v=.ref p/\e=upd H p (.tup [x,y])/\(∀ c,SqT K H a c->c[i]?=some x)/\∀ d,SqT K H b d->d[i]?=some y,λi H=>∃ c d,SqT K H a c/\SqT K H b d/\c.length<=i⟩
def MU (K:W.Frag) (d:TA):TI:=λe H R=>d e H λf c=>∃ a b,f=[.ref a,.ref b]/\(∃ g,SqT K c a g)/\(∃ h,SqT K c b h)/\R (aW K a b) c
end Bs
namespace Bs
open PySem PySem.Spec PyProof.Rows L2
open PySem.AutoSeq1 (wpAny_loadPart')
section
variable {prog:Program} {w:World} {A:Around} {E:dj} {s:Shared}
def Zc {z TI TO K L U W:Addr} {k1 k2:Nat} {xs ys:Array Value} {x y a b:Value} {Q:dj} (D:ZipApart z TI TO K L U W)
  (X:IsZip s.heap z TI TO .none) (a5:IsPair s.heap TI (.ref K) (.ref L)) (a6:IsPair s.heap TO a b)
  (h1:s.heap.IsTupleIter K U k1) (h2:s.heap.IsTupleIter L W k2) (a7:s.heap.IsTuple U xs) (ab:s.heap.IsTuple W ys) (hx:xs[k1]?=some x) (hy:ys[k2]?=some y)
  (hQ:∀ M,IsZip M z TI TO (rawInt s.heap.objs.size)->IsPair M TO x y->M.IsTupleIter K U (k1+1)->M.IsTupleIter L W (k2+1)->IsPair M s.heap.objs.size x y->M.objs.size=s.heap.objs.size+1->
   (∀ c o,c≠z->c≠TO->c≠K->c≠L->s.heap.get? c=some o->M.get? c=some o)->Q (.ref s.heap.objs.size) { s with heap:=M }) :
  wpAny (model prog w) A (Builtin.«zip.__next__» ⟨[.ref z],[]⟩) (λac s'=>∃ v,ac=.done (.ret v)/\Q v s') E s:=by
 show wpAny _ _ (field (.ref z) 2 >>= _) _ _ _;refine mJ (wpAny_field X rfl (x:=.bool false) rfl ?_);show wpAny _ _ (field (.ref z) 3 >>= _) _ _ _;refine mJ (wpAny_field X rfl (x:=.ref TI) rfl ?_);refine mJ (wpAny_seqItems a5 rfl ?_);show wpAny _ _ (Builtin.SmallTypes.ownedTupleIsFree (.ref z) >>= _) _ _ _;refine mJ ?_;unfold Builtin.SmallTypes.ownedTupleIsFree;refine mJ (wpAny_field X rfl (x:=.none) rfl (mK ?_));simp only [if_true];refine mJ (wpAny_rule ?_);refine mJ (wpAny_field X rfl (x:=.ref TO) rfl ?_);refine mJ (wpAny_setField_rec X (by simp) λY q f=>?_);replace q:IsZip Y z TI TO .ellipsis:=q;refine mJ ?_;simp only [List.zipIdx_cons,List.zipIdx_nil,List.forIn_cons,List.forIn_nil];refine mJ (mJ (wpAny_onRaise ?_));show wpAny _ _ (Builtin.SmallTypes.nextOf (.ref K) >>= _) _ _ _;refine mJ (Jw (h1.extBut f.extBut D.i1z) (a7.extBut f.extBut D.l1z) hx λZ O h=>mK ?_);have C:IsPair Z TO a b:=h.extBut _ _ D.TOi1 (f.extBut _ _ D.TOz a6);refine mJ (wpAny_seqItems C rfl ?_);refine mJ (wpAny_updateSeq_pair C λa0 m i=>?_);replace m:IsPair a0 TO x b:=m;refine mJ (wpAny_letGo (mK ?_));refine mJ (mJ (wpAny_onRaise ?_));show wpAny _ _ (Builtin.SmallTypes.nextOf (.ref L) >>= _) _ _ _
 refine mJ (Jw (((h2.extBut f.extBut D.i2z).extBut h.extBut D.i12.symm).extBut i.extBut D.TOi2.symm)
  (((ab.extBut f.extBut D.l2z).extBut h.extBut D.l2i1).extBut i.extBut D.l2TO) hy λa1 P j=>mK ?_)
 have F:IsPair a1 TO x b:=j.extBut _ _ D.TOi2 m;refine mJ (wpAny_seqItems F rfl ?_);refine mJ (wpAny_updateSeq_pair F λd g k=>?_);replace g:IsPair d TO x y:=g;refine mJ (wpAny_letGo (mK (mK ?_)));refine mJ (wpAny_seqItems g rfl ?_);refine mJ (wpAny_newTuple ?_);have a2:d.objs.size=s.heap.objs.size:=by rw [k.1,j.1,i.1,h.1,f.1]
 have G:IsZip d z TI TO .ellipsis:=k.extBut _ _ D.TOz.symm (j.extBut _ _ D.i2z.symm (i.extBut _ _ D.TOz.symm (h.extBut _ _ D.i1z.symm q)))
 have R:∀ c o,c≠z->c≠TO->c≠K->c≠L->s.heap.get? c=some o->d.get? c=some o:=λc o S c2 c3 c4 e=>
  k.extBut _ _ c2 (j.extBut _ _ c4 (i.extBut _ _ c2 (h.extBut _ _ c3 (f.extBut _ _ S e))))
 have H:d.IsTupleIter K U (k1+1):=((O.extBut i.extBut D.TOi1.symm).extBut j.extBut D.i12).extBut k.extBut D.TOi1.symm;have I:d.IsTupleIter L W (k2+1):=P.extBut k.extBut D.TOi2.symm;have N:z<d.objs.size:=mP G;have ad:TO<d.objs.size:=mP g;have aj:K<d.objs.size:=by obtain ⟨_,e,_⟩:=H;exact mP e
 have al:L<d.objs.size:=by obtain ⟨_,e,_⟩:=I;exact mP e
 show wpAny _ _ (Builtin.SmallTypes.ownedTupleHandOut (.ref z) (.ref d.objs.size) >>= _) _ _ _;refine mJ ?_;unfold Builtin.SmallTypes.ownedTupleHandOut;have T:IsZip (d.push { cls:=.type "tuple", data:=.seq #[x,y] }) z TI TO .ellipsis:=Heap.get?_push_of_some _ G;refine mJ (wpAny_setField_rec T (by simp) λa3 r u=>?_);replace r:IsZip a3 z TI TO (rawInt d.objs.size):=r;refine wpAny_setField_rec r (by simp) λp n B=>?_;replace n:IsZip p z TI TO (rawInt d.objs.size):=n;have up:∀ c o,c≠z->d.get? c=some o->p.get? c=some o:=λc o S e=>B.extBut _ _ S (u.extBut _ _ S (Heap.get?_push_of_some _ e));have J:IsPair p d.objs.size x y:=B.extBut _ _ (Nat.ne_of_gt N) (u.extBut _ _ (Nat.ne_of_gt N) (Heap.get?_push_size _ rfl));have a4:p.objs.size=d.objs.size+1:=by rw [B.1,u.1,Heap.size_push]
 rw [a2] at n J a4;refine mK ⟨_,rfl,?_⟩;show Q (.ref d.objs.size) _;rw [a2];exact hQ p n (up _ _ D.TOz g) (H.at λo e=>up _ o D.i1z e) (I.at λo e=>up _ o D.i2z e) J a4 λc o S c2 c3 c4 e=>up c o S (R c o S c2 c3 c4 e)
theorem Zd {z TI TO B C N O:Addr} {P R:Nat} {xs ys:Array Value} {a b:Value} {Q:Fin->Shared->Prop} (hh:A.handled=none) (D:ZipApart z TI TO B C N O)
  (F:IsZip s.heap z TI TO .none) (S:IsPair s.heap TI (.ref B) (.ref C)) (T:IsPair s.heap TO a b)
  (h1:s.heap.IsTupleIter B N P) (h2:s.heap.IsTupleIter C O R) (G:s.heap.IsTuple N xs) (U:s.heap.IsTuple O ys) (H:xs[P]?=none\/ys[R]?=none)
  (hE:∀ W e,(∀ c o,c≠z->c≠TO->c≠B->c≠C->s.heap.get? c=some o->W.get? c=some o)->(∃ o,W.get? e=some o/\o.cls=.type "StopIteration")->E (.ref e) { s with heap:=W }) :
  wpAny (model prog w) A (Builtin.«zip.__next__» ⟨[.ref z],[]⟩) Q E s:=by
 show wpAny _ _ (field (.ref z) 2 >>= _) _ _ _;refine mJ (wpAny_field F rfl (x:=.bool false) rfl ?_);show wpAny _ _ (field (.ref z) 3 >>= _) _ _ _;refine mJ (wpAny_field F rfl (x:=.ref TI) rfl ?_);refine mJ (wpAny_seqItems S rfl ?_);show wpAny _ _ (Builtin.SmallTypes.ownedTupleIsFree (.ref z) >>= _) _ _ _;refine mJ ?_;unfold Builtin.SmallTypes.ownedTupleIsFree;refine mJ (wpAny_field F rfl (x:=.none) rfl (mK ?_));simp only [if_true];refine mJ (wpAny_rule ?_);refine mJ (wpAny_field F rfl (x:=.ref TO) rfl ?_);refine mJ (wpAny_setField_rec F (by simp) λI i d=>?_);replace i:IsZip I z TI TO .ellipsis:=i;refine mJ ?_;simp only [List.zipIdx_cons,List.zipIdx_nil,List.forIn_cons,List.forIn_nil];refine mJ (mJ (wpAny_onRaise ?_));show wpAny _ _ (Builtin.SmallTypes.nextOf (.ref B) >>= _) _ _ _;cases X:xs[P]? with
 | none=>
   refine mJ (Ly hh (h1.extBut d.extBut D.i1z) (G.extBut d.extBut D.l1z) X λm e f Y=>?_);obtain ⟨Z,j,n⟩:=Y;have p:IsZip m z TI TO .ellipsis:=f _ _ D.i1z.symm i;have y:e≠z:=λx=>by subst x;rw [p] at j;cases j;simp at n
   refine wpAny_setField_rec p (by simp) λv _ g=>hE v e (λc o J _ c3 _ x=>g.extBut _ _ J (f _ _ c3 (d.extBut _ _ J x))) ⟨Z,g.extBut _ _ y j,n⟩
 | some x=>
   have hy:ys[R]?=none:=by rcases H with h | h;rw [X] at h;cases h;exact h
   refine mJ (Jw (h1.extBut d.extBut D.i1z) (G.extBut d.extBut D.l1z) X λm a0 f=>mK ?_);have k:IsPair m TO a b:=f.extBut _ _ D.TOi1 (d.extBut _ _ D.TOz T);refine mJ (wpAny_seqItems k rfl ?_);refine mJ (wpAny_updateSeq_pair k λv M g=>?_);refine mJ (wpAny_letGo (mK ?_));refine mJ (mJ (wpAny_onRaise ?_));show wpAny _ _ (Builtin.SmallTypes.nextOf (.ref C) >>= _) _ _ _
   refine mJ (Ly hh (((h2.extBut d.extBut D.i2z).extBut f.extBut D.i12.symm).extBut g.extBut D.TOi2.symm)
    (((U.extBut d.extBut D.l2z).extBut f.extBut D.l2i1).extBut g.extBut D.l2TO) hy λK e q Y=>?_)
   obtain ⟨Z,j,n⟩:=Y;have r:IsZip K z TI TO .ellipsis:=q _ _ D.i2z.symm (g.extBut _ _ D.TOz.symm (f.extBut _ _ D.i1z.symm i));have y:e≠z:=λx=>by subst x;rw [r] at j;cases j;simp at n
   refine wpAny_setField_rec r (by simp) λL _ u=>hE L e (λc o J c2 c3 c4 x=>u.extBut _ _ J (q _ _ c4 (g.extBut _ _ c2 (f.extBut _ _ c3 (d.extBut _ _ J x))))) ⟨Z,u.extBut _ _ y j,n⟩
def Ze {z TI TO e f g h:Addr} {i j:Nat} {xs ys:Array Value} {x y a b:Value} {Q:dC->Shared->Prop} (D:ZipApart z TI TO e f g h)
  (q:IsZip s.heap z TI TO .none) (k:IsPair s.heap TI (.ref e) (.ref f)) (m:IsPair s.heap TO a b)
  (v:s.heap.IsTupleIter e g i) (B:s.heap.IsTupleIter f h j) (n:s.heap.IsTuple g xs) (p:s.heap.IsTuple h ys) (C:xs[i]?=some x) (G:ys[j]?=some y)
  (H:∀ d,IsZip d z TI TO (rawInt s.heap.objs.size)->IsPair d TO x y->d.IsTupleIter e g (i+1)->d.IsTupleIter f h (j+1)->IsPair d s.heap.objs.size x y->d.objs.size=s.heap.objs.size+1->
   (∀ c o,c≠z->c≠TO->c≠e->c≠f->s.heap.get? c=some o->d.get? c=some o)->Q (some (.ref s.heap.objs.size)) { s with heap:=d }) :
  wpAny (model prog w) A (pyNext (.ref z)) Q E s:=by
 have u:s.TypeIs (.ref z) "zip" := ⟨_,q,rfl⟩;unfold pyNext
 exact mJ (wpAny_attempt (wpAny_callSpecial?_slot (name:=Str.ofString "__next__") u F.slot_zip_next
  (wpAny_call_entry F.slot_zip_next u F.entry_zip_next
   (Zc D q k m v B n p C G λd I J K L M N O=>mK (H d I J K L M N O)) (F.args_zip_next_1 _))))
def Zf {z TI TO f g h i:Addr} {q r:Nat} {xs ys:Array Value} {a b:Value} {Q:dC->Shared->Prop} (y:A.handled=none) (D:ZipApart z TI TO f g h i)
  (u:IsZip s.heap z TI TO .none) (j:IsPair s.heap TI (.ref f) (.ref g)) (k:IsPair s.heap TO a b)
  (B:s.heap.IsTupleIter f h q) (C:s.heap.IsTupleIter g i r) (m:s.heap.IsTuple h xs) (n:s.heap.IsTuple i ys) (d:xs[q]?=none\/ys[r]?=none)
  (G:∀ p,(∀ c o,c≠z->c≠TO->c≠f->c≠g->s.heap.get? c=some o->p.get? c=some o)->Q none { s with heap:=p }):wpAny (model prog w) A (pyNext (.ref z)) Q E s:=by
 have x:s.TypeIs (.ref z) "zip" := ⟨_,u,rfl⟩;unfold pyNext
 refine mJ (wpAny_attempt (wpAny_callSpecial?_slot (name:=Str.ofString "__next__") x F.slot_zip_next
  (wpAny_call_entry F.slot_zip_next x F.entry_zip_next (Zd y D u j k B C m n d λp e hk H=>?_) (F.args_zip_next_1 _))))
 obtain ⟨o,I,J⟩:=H;refine mJ (wpAny_isInstance (T := "StopIteration") (b:=true) ⟨o,I,J⟩ isSubtype_stop ?_);exact mK (G _ hk)
end
noncomputable abbrev J0 (h:Heap) (a:Addr):Heap:=h.push { cls:=.type "tuple_iterator", data:=.fields #[.ref a,.int 0 0] }
noncomputable abbrev J2 (h:Heap) (a b:Addr):Heap:=(J0 h a).push { cls:=.type "tuple_iterator", data:=.fields #[.ref b,.int 0 0] }
noncomputable abbrev J3 (h:Heap) (a b:Addr):Heap:=(J2 h a b).push { cls:=.type "tuple", data:=.seq #[.ref h.objs.size,.ref (J0 h a).objs.size] }
noncomputable abbrev J4 (h:Heap) (a b:Addr):Heap:=(J3 h a b).push { cls:=.type "tuple", data:=.seq #[.none,.none] }
noncomputable abbrev Gc (h:Heap) (a b:Addr):Heap:=(J4 h a b).push { cls:=.type "zip", data:=.fields #[.none,.bool false,.bool false,.ref (J2 h a b).objs.size,.ref (J3 h a b).objs.size] }
def Zg (a b:Addr) (xs ys:Array Value) :
  Meets (Builtin.«zip.__new__» ⟨[.type "zip", .ref a,.ref b],[]⟩) (λ_ R s=>s.heap.IsTuple a xs/\s.heap.IsTuple b ys/\
   R (.ok (.ret (.ref (J4 s.heap a b).objs.size))) { s with heap:=Gc s.heap a b }):=
 .of_wp λk w A R s h=>by
  obtain ⟨hp,g,d,m,os⟩:=s;obtain ⟨c,e,h⟩:=h;have n:=sub_zip;have f:Heap.IsTuple (Shared.heap ⟨hp,g,d,m,os⟩) a xs:=c;have i:Heap.IsTuple (Shared.heap ⟨hp.push { cls:=.type "tuple_iterator", data:=.fields #[.ref a,.int 0 0] },g,d,m,os⟩) b ys:=Heap.IsTuple.push e _
  wp_walk using wpAny_pyIter_tuple f,wpAny_pyIter_tuple i
  exact ⟨_,rfl,h⟩
section
variable {prog:Program} {w:World} {A:Around} {E:dj} {s:Shared}
def Zh {a b:Addr} {xs ys:Array Value} {Q:dj} (e:s.heap.IsTuple a xs) (f:s.heap.IsTuple b ys)
  (h:∀ d,IsZip d (s.heap.objs.size+4) (s.heap.objs.size+2) (s.heap.objs.size+3) .none->IsPair d (s.heap.objs.size+2) (.ref s.heap.objs.size) (.ref (s.heap.objs.size+1))->
   IsPair d (s.heap.objs.size+3) .none .none->d.IsTupleIter s.heap.objs.size a 0->d.IsTupleIter (s.heap.objs.size+1) b 0->d.objs.size=s.heap.objs.size+5->
   (∀ c o,s.heap.get? c=some o->d.get? c=some o)->Q (.ref (s.heap.objs.size+4)) { s with heap:=d }) :
  wpAny (model prog w) A (call (.type "zip") [.ref a,.ref b]) Q E s:=by
 refine callType_new F.called_zip ∅ (F.typeCall_zip_2 _ _) (F.newCall_zip_2 _ _) (λg=>F.args_object_init_3 g _ _) F.entry_zip_new
  (Zg a b xs ys) ⟨e,f,?_⟩
 have i:(J0 s.heap a).objs.size=s.heap.objs.size+1:=Heap.size_push ..;have j:(J2 s.heap a b).objs.size=s.heap.objs.size+2:=by rw [Heap.size_push,i]
 have k:(J3 s.heap a b).objs.size=s.heap.objs.size+3:=by rw [Heap.size_push,j]
 have m:(J4 s.heap a b).objs.size=s.heap.objs.size+4:=by rw [Heap.size_push,k]
 have v:(Gc s.heap a b).objs.size=s.heap.objs.size+5:=by rw [Heap.size_push,m]
 have n:(Gc s.heap a b).get? (J4 s.heap a b).objs.size=some _:=Heap.get?_push_size _ rfl;have q:(Gc s.heap a b).get? (J3 s.heap a b).objs.size=some _:=Heap.get?_push_of_some _ (Heap.get?_push_size _ rfl);have r:(Gc s.heap a b).get? (J2 s.heap a b).objs.size=some _:=Heap.get?_push_of_some _ (Heap.get?_push_of_some _ (Heap.get?_push_size _ rfl));have u:(Gc s.heap a b).get? (J0 s.heap a).objs.size=some _:=Heap.get?_push_of_some _ (Heap.get?_push_of_some _ (Heap.get?_push_of_some _ (Heap.get?_push_size _ rfl)));have y:(Gc s.heap a b).get? s.heap.objs.size=some _:=Heap.get?_push_of_some _ (Heap.get?_push_of_some _ (Heap.get?_push_of_some _ (Heap.get?_push_of_some _ (Heap.get?_push_size _ rfl))));show _/\_;rw [j,k,m] at n;rw [i,j] at r;rw [k] at q;rw [i] at u;rw [m]
 exact ⟨⟨_,n,rfl⟩,h _ n r q ⟨_,y,rfl,rfl⟩ ⟨_,u,rfl,rfl⟩ v λc o x=>
  Heap.get?_push_of_some _ (Heap.get?_push_of_some _ (Heap.get?_push_of_some _ (Heap.get?_push_of_some _ (Heap.get?_push_of_some _ x))))⟩
end
def Zi (a b z c d e f:Addr) (i:Nat) (h:Heap):Prop:=IsZip h z c d .none/\IsPair h c (.ref e) (.ref f)/\(∃ u v,IsPair h d u v)/\h.IsTupleIter e a i/\h.IsTupleIter f b i
def Zj {P:Program} {w:World} {K:W.Frag} {L:du} {k:Nat} {U:Pos} {a b z n p j m:Addr} (D:ZipApart z n p j m a b):Turn P w K (.Tuple L k U) (aW K a b) [z,n,p,j,m] z (Zi a b z n p j m) where
 mem:=by simp
 obj:=λi h st c f=>by
  obtain ⟨F,C,⟨u,v,G⟩,⟨o4,A,_,d4⟩,⟨o5,B,_,d5⟩⟩:=st
  have d:c=z\/c=n\/c=p\/c=j\/c=m:=by simpa using f
  rcases d with rfl | rfl | rfl | rfl | rfl
  ·exact ⟨_,F,λv q=>nomatch q⟩
  ·exact ⟨_,C,λv q=>nomatch q⟩
  ·exact ⟨_,G,λv q=>nomatch q⟩
  ·exact ⟨_,A,λv q=>by rw [d4] at q;cases q⟩
  ·exact ⟨_,B,λv q=>by rw [d5] at q;cases q⟩
 keep:=λi h h' st M=>⟨M z (by simp) _ st.1,M n (by simp) _ st.2.1,let ⟨u,v,q⟩:=st.2.2.1;⟨u,v,M p (by simp) _ q⟩,st.2.2.2.1.at λo q=>M j (by simp) o q,st.2.2.2.2.at λo q=>M m (by simp) o q⟩
 item:=by
  intro X Y Z hK f i N s σ H E I R st hg
  subst Y Z hK
  obtain ⟨xs,ys,x,y,S,r,hx,hy⟩:=hg
  obtain ⟨F,C,⟨u0,v0,G⟩,A,B⟩:=st
  obtain ⟨O,rv,p1,_⟩:=I.tuple S
  obtain ⟨a0,rw',p2,_⟩:=I.tuple r
  obtain ⟨u,hu,ru⟩:=rv.get hx
  obtain ⟨v,hv,a1⟩:=rw'.get hy
  refine Ze D F C G A B p1 p2 (x:=u) (y:=v) (by simpa using hu) (by simpa using hv) λg g1 g2 g3 g4 g5 _ T=>?_
  refine ⟨_,rfl,wpAny_letOwnedTupleGo_zip g1 λg' z1 J=>?_⟩
  have lz:z<s.heap.objs.size:=mP F
  have Q:∀ c o,c∉[z,n,p,j,m]->s.heap.get? c=some o->g'.get? c=some o:=λc o f q=>by
   have d:¬ (c=z\/c=n\/c=p\/c=j\/c=m):=by simpa using f
   exact J.extBut c o (λe=>d (.inl e)) (T c o (λe=>d (.inl e)) (λe=>d (.inr (.inr (.inl e)))) (λe=>d (.inr (.inr (.inr (.inl e))))) (λe=>d (.inr (.inr (.inr (.inr e))))) q)
  have I1:=Pf (g:=g') (tk:=s.toks) (xs:=[x,y]) (its:=[u,v]) I R Q (sz (by simp)) (.cons ru (.cons a1 .nil)) (J.extBut _ _ (Nat.ne_of_gt lz) g5)
  refine ⟨.ref s.heap.objs.size,_,I1,rfl,⟨_,x,y,I.hok.fresh (AM _),rfl,rfl,λzs hz=>by rw [I.tuple_inj hz S];exact hx,λzs hz=>by rw [I.tuple_inj hz r];exact hy⟩,⟨z1,?_,⟨u,v,J.extBut _ _ D.TOz g2⟩,g3.at λo q=>J.extBut j o D.i1z q,g4.at λo q=>J.extBut m o D.i2z q⟩,λc f=>?_⟩
  ·exact J.extBut _ _ D.TIz (T _ _ D.TIz D.TITO D.TIi1 D.TIi2 C)
  ·rw [Ar]
   ·exact (R c f).1
   ·have d:c=z\/c=n\/c=p\/c=j\/c=m:=by simpa using f
    obtain ⟨o4,A,_⟩:=A
    obtain ⟨o5,B,_⟩:=B
    rcases d with rfl | rfl | rfl | rfl | rfl
    ·exact BV lz
    ·exact BV (mP C)
    ·exact BV (mP G)
    ·exact BV (mP A)
    ·exact BV (mP B)
 done:=by
  intro X Y Z hK f i N s σ H E I R st hg
  subst Y Z hK
  obtain ⟨xs,ys,S,r,hx⟩:=hg
  obtain ⟨F,C,⟨u0,v0,G⟩,A,B⟩:=st
  obtain ⟨O,rv,p1,_⟩:=I.tuple S
  obtain ⟨a0,_,p2,_⟩:=I.tuple r
  have hl:=rv.length
  refine Zf (I.ok.hd f) D F C G A B p1 p2 (.inl (by simp;omega)) λg T=>⟨rfl,Pe (tk:=s.toks) I R λc o f q=>?_⟩
  have d:¬ (c=z\/c=n\/c=p\/c=j\/c=m):=by simpa using f
  exact T c o (λe=>d (.inl e)) (λe=>d (.inr (.inr (.inl e)))) (λe=>d (.inr (.inr (.inr (.inl e))))) (λe=>d (.inr (.inr (.inr (.inr e))))) q
 self:=λ_ _ _ _ _ st h=>wpAny_pyIter_zip st.1 h
section
variable {X:Cx} {elts:du} {k:Nat} {tpos:Pos} {a b:Expr} {ta:TA} {p pos:Pos}
def Zk (C:Gl X "zip") (E:X.mg "zip" = none) (F:PA X [a,b] ta) (G:starEach [a,b] X.env=(false,eval a X.env)::starEach [b] X.env:=by rfl) (j:(backTo pos (starEach [b] X.env)).any (·.1)=false:=by rfl):PI X (.Tuple elts k tpos) (.Call (.Name "zip" p) [a,b] [] pos) (MU X.K ta):=by
 intro e s n H R I h;refine Call_ (EV I C E PD (PyProof.Rows.callWith_type1 (F_ (F pos e s n H _ I h) λus d ⟨vs,o,f,J,K⟩=>?_) G j));obtain ⟨r,w,rfl,⟨xs,L⟩,⟨ys,m⟩,q⟩:=K;obtain ⟨u,v,rfl,M,N⟩:=vals2 J;cases M;cases N;obtain ⟨O,_,x,_⟩:=f.tuple L;obtain ⟨P,_,y,_⟩:=f.tuple m;refine Zh x y λg A Q S T U _ W=>?_;have Y:Inv X e n o { d with heap:=g }:=f.kept (t':=d.toks) W;have n1:@LT.lt Nat _ r d.heap.objs.size:=x.lt;have n2:@LT.lt Nat _ w d.heap.objs.size:=y.lt
 have D:ZipApart (d.heap.objs.size+4) (d.heap.objs.size+2) (d.heap.objs.size+3) d.heap.objs.size (d.heap.objs.size+1) r w:=by
  constructor <;> (show (_:Nat)≠_;omega)
 refine wpAny_pyIter_zip A ⟨_,[d.heap.objs.size+4,d.heap.objs.size+2,d.heap.objs.size+3,d.heap.objs.size,d.heap.objs.size+1],_,_,o,rfl,Y,Zj D,⟨A,Q,⟨_,_,S⟩,T,U⟩,λc Z=>?_,q⟩
 have i:d.heap.objs.size<=c:=by
  have z:c=d.heap.objs.size+4\/c=d.heap.objs.size+2\/c=d.heap.objs.size+3\/c=d.heap.objs.size\/c=d.heap.objs.size+1:=by simpa using Z
  rcases z with z | z | z | z | z <;> rw [z] <;> first | exact Nat.le_add_right _ _ | exact AM _
 exact f.fpOk i (f.hok.fresh i)
end
end Bs
namespace Bs
open PySem L2
def Pn (K:W.Frag):d7->Hp->VK->Prop:=λb H Q=>∃ p a,b=[.ref p]/\SqT K H p a/\Q (.int a.length) H
end Bs
namespace Bs
open PySem PySem.Spec PyProof.Rows L2
def Zl {X:Cx}:CL X (.builtin "len") (Pn X.K):=λa s b H c d Q I r h=>by
 obtain ⟨p,f,e,hp,q⟩:=h;exact Jo a s b H c d Q I r ⟨p,f,e,.inr hp,q⟩
end Bs
namespace Bs
open PySem L2
def MV (K:W.Frag):R2:=λx y H Q=>∃ a b c d,x=.ref a/\y=.ref b/\SqT K H a c/\SqT K H b d/\c.length+d.length<=sizeLine/\
 (c=[]->Q (.ref b) H)/\(c≠[]->d=[]->Q (.ref a) H)/\(c≠[]->d≠[]->∀ p,H p=none->Q (.ref p) (upd H p (.tup (c++d))))
end Bs
namespace Bs
open PySem PySem.Spec PyProof.Rows L2
open Builtin
section
variable {X:Cx}
def Zm:OpR X (binaryOp .Add) (MV X.K):=by
 intro d s G H x y v u Q I o p h;obtain ⟨a,b,q,J,r,w,z,A,K,L,M,N⟩:=h;by_cases c:q=[]
 ·subst r w;cases o;cases p;obtain ⟨e,O,P,_⟩:=I.tuple z;obtain ⟨f,Z,R,_⟩:=I.tuple A;have S:e=[]:=O.nil_iff.mpr c;obtain ⟨⟨T,U,B,W⟩,C,D,n,E⟩:=P;obtain ⟨⟨F,k,data2,m⟩,g,i,Y,j⟩:=R;simp only at D E i j;subst D E i j
  exact concat_meets ⟨_,C,rfl⟩ ⟨_,g,rfl⟩ noFill_tuple_add seq_tuple_add PySem.F.slot_tuple_add PySem.F.entry_tuple_add (PySem.F.args_tuple_add_2 _ _)
   (tuple_addW0 a b e.toArray f.toArray n Y U k W m (by simp [S])) ⟨C,g,.ref b,H,I,rfl,L c⟩
 ·exact Ow d s G H x y v u Q I o p ⟨a,b,q,J,r,w,z,A,c,K,M c,N c⟩
end
end Bs
namespace Bs
def Bd.one:Bd 1 1:=by unfold Bd;decide
theorem Bd.pow {b:Nat} {x:Int} (h:Bd b x) (k:Nat):Bd (b*k+1) (x ^ k):=by
 induction k with
 | zero=>rw [Int.pow_zero,Nat.mul_zero];exact Bd.one
 | succ k a=>
   have e:b*(k+1)+1=(b*k+1)+b:=by rw [Nat.mul_add,Nat.mul_one];omega
   rw [Int.pow_succ,e];exact a.mul h
noncomputable abbrev Nu:=Int×Int
abbrev cW:=List Nu
noncomputable def a9 (n m:Int):Nu:=(n / ((Int.gcd n m:Nat):Int),m / ((Int.gcd n m:Nat):Int))
noncomputable def aa (q r:Nu):Nu:=a9 (q.1*r.2+r.1*q.2) (q.2*r.2)
noncomputable def ae (q r:Nu):Nu:=a9 (q.1*r.2 - r.1*q.2) (q.2*r.2)
noncomputable def H_ (q r:Nu):Nu:=a9 (q.1*r.1) (q.2*r.2)
def Wo (q:Nu) (n m:Int):Prop:=q.1*m=n*q.2
def Eg {n m:Int} (b:0<m):Low (a9 n m).1 (a9 n m).2:=(Ln (a:=n) b).1
def J5 {n m:Int} (c:0<m):Wo (a9 n m) n m:=by
 have h:=(Lk (a:=n) (b:=m) (s:=((Int.gcd n m:Nat):Int)) ⋯ (by rw [mE ⋯])).2.2.2.1;rw [EM _ ⋯,EM _ ⋯] at h;exact h
def MW {a b d:Int} (h:Low a b) (e:b∣a*d):b∣d:=by
 have c:Nat.Coprime b.natAbs a.natAbs:=by
  have:Nat.Coprime a.natAbs b.natAbs:=h.one;exact this.symm
 have z:=Cw.mpr e;rw [BN] at z;exact Cw.mp (c.dvd_of_dvd_mul_left z)
def Po {a b c d:Int} (f:Low a b) (g:Low c d) (h:a*d=c*b):a=c/\b=d:=by
 have i:b∣d:=MW f ⟨c,by rw [h,Int.mul_comm]⟩;have j:d∣b:=MW g ⟨a,by rw [<-h,Int.mul_comm]⟩;have e:b=d:=Int.dvd_antisymm (DS f.pos) (DS g.pos) i j;subst e;exact ⟨Int.eq_of_mul_eq_mul_right (AV f.pos) h,rfl⟩
def Ps {q r:Nu} {n m:Int} (c:Low q.1 q.2) (d:Low r.1 r.2) (f:m≠0) (g:Wo q n m) (h:Wo r n m):q=r:=by
 unfold Wo at g h
 have e:q.1*r.2=r.1*q.2:=by
  have z:m*(q.1*r.2)=m*(r.1*q.2):=by ext
  exact Int.eq_of_mul_eq_mul_left f z
 obtain ⟨a,b⟩:=Po c d e;exact Prod.ext a b
def Zn {q:Nu} {n m:Int} (c:Low q.1 q.2) (b:0<m) (w:Wo q n m):q.1.natAbs<=n.natAbs/\q.2.natAbs<=m.natAbs:=by
 have e:q=a9 n m:=Ps c (Eg b) (AV b) w (J5 b);subst e;exact ⟨(Ln (a:=n) b).2.1,(Ln (a:=n) b).2.2.1⟩
def Zo {q r:Nu} (a:0<q.2) (b:0<r.2):Low (aa q r).1 (aa q r).2:=Eg (CV a b)
def Pt {q r:Nu} (a:0<q.2) (b:0<r.2):Low (ae q r).1 (ae q r).2:=Eg (CV a b)
def Py {q r:Nu} (a:0<q.2) (b:0<r.2):Low (H_ q r).1 (H_ q r).2:=Eg (CV a b)
def Pz {m:Int} (a:0<m):a9 0 m=(0,1):=Ps (Eg a) ⟨∅,∅⟩ (AV a) (J5 a) (by unfold Wo;omega)
noncomputable def Ba (l:cW):Nat->Nat
 | 0=>0
 | m+1=>if (l.getD m (1,1)).1=0 then Ba l m else m+1
noncomputable def trim (l:cW):cW:=l.take (Ba l l.length)
theorem MX (l:cW):∀ m,Ba l m<=m
 | 0=>AM 0
 | m+1=>by
   unfold Ba;split
   ·exact Nat.le_succ_of_le (MX l m)
   ·exact AM _
theorem QA (l:cW):∀ m,Ba l m=0\/(l.getD (Ba l m - 1) (1,1)).1≠0
 | 0=>.inl rfl
 | m+1=>by
   unfold Ba;split
   ·exact QA l m
   ·rename_i h;exact .inr h
def Nz (l:cW):Prop:=∀ q,l.getLast?=some q->q.1≠0
def J6 {l:cW} (h:Nz l):trim l=l:=by
 unfold trim
 have e:Ba l l.length=l.length:=by
  cases b:l.length with
  | zero=>rfl
  | succ m=>
    unfold Ba;have a:m<l.length:=by omega
    have z:(l.getD m (1,1)).1≠0:=by
     have q:=h l[m] (by rw [FS,b];simp [a]);rw [AT,Ax a];exact q
    rw [mE z]
 rw [e,Cv]
def EE (l:cW):Nz (trim l):=by
 intro q a;unfold trim at a;have b:=MX l l.length;rw [FS,CB,Nat.min_eq_left b] at a;rcases QA l l.length with z | z
 ·rw [z] at a;simp at a
 ·by_cases c:Ba l l.length=0
  ·rw [c] at a;simp at a
  ·rw [List.getElem?_take_of_lt ⋯] at a;rw [AT,a] at z;exact z
def DI {l:cW} {q:Nu} (h:q∈trim l):q∈l:=List.mem_of_mem_take h
def Eh (l:cW):(trim l).length<=l.length:=by
 unfold trim;rw [CB];omega
def AW (l:cW):Prop:=∀ q∈l,Low q.1 q.2
def Zp (n:Nat) (l:cW):Prop:=∀ q∈l,Bd n q.1/\Bd n q.2
noncomputable def AX (l:cW) (i:Nat):Nu:=l.getD i (0,1)
noncomputable def E8 (f:Nu->Nu->Nu) (l m:cW):cW:=(List.range (max l.length m.length)).map λi=>f (AX l i) (AX m i)
def HR:Low 0 1:=⟨∅,∅⟩
theorem CZ {l:cW} (h:AW l) (i:Nat):Low (AX l i).1 (AX l i).2:=by
 unfold AX;rw [AT];cases e:l[i]? with
 | none=>exact HR
 | some q=>exact h q (Bg e)
noncomputable def Ac (l:cW):Int:=l.foldl (λB q=>B*(q.2 / ((Int.gcd B q.2:Nat):Int))) 1
noncomputable def AK (l:cW):de:=l.map λq=>q.1*(Ac l / q.2)
def MY {B d:Int} (b:0<B) (c:0<d):0<B*(d / ((Int.gcd B d:Nat):Int))/\B∣B*(d / ((Int.gcd B d:Nat):Int))/\d∣B*(d / ((Int.gcd B d:Nat):Int))/\(d / ((Int.gcd B d:Nat):Int)).natAbs<=d.natAbs/\0<((Int.gcd B d:Nat):Int)/\((Int.gcd B d:Nat):Int)<=d:=by
 have f:0<Int.gcd B d:=Int.gcd_pos_of_ne_zero_right B ⋯;obtain ⟨k,hk⟩:((Int.gcd B d:Nat):Int)∣d:=Dy B d;obtain ⟨m,g⟩:((Int.gcd B d:Nat):Int)∣B:=Et B d;have a:(0:Int)<((Int.gcd B d:Nat):Int):=by omega
 have e:d / ((Int.gcd B d:Nat):Int)=k:=by
  have z:d / ((Int.gcd B d:Nat):Int)=(((Int.gcd B d:Nat):Int)*k) / ((Int.gcd B d:Nat):Int):=by rw [<-hk]
  rw [z,GI _ (AV a)]
 have kp:0<k:=by
  rcases Int.lt_or_le 0 k with h | h
  ·exact h
  ·exfalso;have:=Int.mul_nonneg (DS a) (show 0<=-k by omega);rw [Int.mul_neg] at this;omega
 have i:((Int.gcd B d:Nat):Int)<=d:=Int.le_of_dvd c (Dy B d);refine ⟨by rw [e];exact CV b kp,Int.dvd_mul_right ..,?_,?_,a,i⟩
 ·rw [e];refine ⟨m,?_⟩;have z:d*m=((Int.gcd B d:Nat):Int)*k*m:=by rw [<-hk]
  have j:B*k=((Int.gcd B d:Nat):Int)*m*k:=by rw [<-g]
  rw [z,j];ext
 ·rw [e]
  have z:d.natAbs=(Int.gcd B d)*k.natAbs:=by
   have:d.natAbs=(((Int.gcd B d:Nat):Int)*k).natAbs:=by rw [<-hk]
   rw [this,BN];simp
  rw [z];exact HE _ f
theorem QB {b:Nat}:∀ (l:cW) (B:Int) (c:Nat),(∀ q∈l,0<q.2/\Bd b q.2)->0<B->Bd c B->
  0<l.foldl (λB q=>B*(q.2 / ((Int.gcd B q.2:Nat):Int))) B/\B∣l.foldl (λB q=>B*(q.2 / ((Int.gcd B q.2:Nat):Int))) B/\(∀ q∈l,q.2∣l.foldl (λB q=>B*(q.2 / ((Int.gcd B q.2:Nat):Int))) B)/\Bd (c+b*l.length) (l.foldl (λB q=>B*(q.2 / ((Int.gcd B q.2:Nat):Int))) B)
 | [],B,c,_,d,e=>⟨d,Int.dvd_refl B,(λ_ h=>nomatch h),by simpa using e⟩
 | q::l,B,c,h,d,e=>by
   obtain ⟨g,i⟩:=h q (CD ..);obtain ⟨j,k,m,n,_,_⟩:=MY d g;obtain ⟨o,f,p,u⟩:=QB l (B*(q.2 / ((Int.gcd B q.2:Nat):Int))) (c+b) (λr a=>h r (CQ _ a)) j (e.mul (i.le n));rw [List.foldl_cons];refine ⟨o,CJ k f,λr a=>?_,u.mono (by rw [B7,Nat.mul_add,Nat.mul_one];omega)⟩;rcases De.mp a with rfl | a
   ·exact CJ m f
   ·exact p r a
def Zq {b:Nat} {l:cW} (c:AW l) (d:Zp b l):0<Ac l/\(∀ q∈l,q.2∣Ac l)/\Bd (1+b*l.length) (Ac l):=by
 obtain ⟨e,_,f,g⟩:=QB (b:=b) l 1 1 (λq a=>⟨(c q a).pos,(d q a).2⟩) ∅ Bd.one;exact ⟨e,f,g⟩
def Zr {B d:Int} (a:0<B) (b:0<d):(B / d).natAbs<=B.natAbs:=by
 have c:0<=B / d:=Int.ediv_nonneg (DS a) (DS b);have e:B / d<=B:=Int.ediv_le_self d (DS a);omega
def Zs {q:Nu} {B:Int} (a:q.2∣B):Wo q (q.1*(B / q.2)) B:=by
 unfold Wo;rw [Int.mul_assoc,Int.ediv_mul_cancel a]
noncomputable def ps (ns a:de):Nat->dF
 | 0,_=>0
 | i+1,k=>ps ns a i k+(if i<=k/\k - i<a.length then ns.getD i 0*a.getD (k - i) 0 else 0)
noncomputable def bK (ns a:de) (i j k:Nat):Int:=ps ns a i k+(if i<=k/\k - i<j then ns.getD i 0*a.getD (k - i) 0 else 0)
def Zu (ns a:de) (i k:Nat):bK ns a i 0 k=ps ns a i k:=by
 unfold bK;rw [mE ⋯];omega
def QC (ns a:de) (i j k:Nat):bK ns a i (j+1) k=if k=i+j then bK ns a i j k+ns.getD i 0*a.getD j 0 else bK ns a i j k:=by
 unfold bK;by_cases h:k=i+j
 ·subst h;rw [mF rfl,mF ⟨⋯,⋯⟩,mE ⋯,show i+j - i=j by omega];omega
 ·rw [mE h];congr 1;by_cases b:i<=k/\k - i<j
  ·rw [mF b,mF ⟨b.1,⋯⟩]
  ·rw [mE b,mE ⋯]
theorem DJ {c:Nat} {ns:de} (h:∀ z∈ns,Bd c z) (i:Nat):Bd c (ns.getD i 0):=by
 rw [AT];cases e:ns[i]? with
 | none=>exact Nat.pow_pos ∅
 | some z=>exact h z (Bg e)
def C3 (c:Nat):Bd c 0:=Nat.pow_pos ∅
theorem QD {c d:Nat} {ns a:de} (b:∀ z∈ns,Bd c z) (e:∀ z∈a,Bd d z):∀ i k,Bd (c+d+i) (ps ns a i k)
 | 0,_=>C3 _
 | i+1,k=>by
   unfold ps;refine (QD b e i k).add ?_;split
   ·exact ((DJ b i).mul (DJ e (k - i))).mono ⋯
   ·exact C3 _
theorem MZ {ns a:de}:∀ i k,i+a.length<=k+1->ps ns a i k=0
 | 0,_,_=>rfl
 | i+1,k,h=>by
   unfold ps;rw [MZ i k ⋯,mE ⋯];rfl
noncomputable def Fg (l m:cW) (n:Nat):cW:=(List.range n).map λk=>a9 (ps (AK l) (AK m) l.length k) (Ac l*Ac m)
theorem QE {l m:cW}:∀ {n:Nat},(∀ i,i<n->l.getD i (1,1)=m.getD i (1,1))->Ba l n=Ba m n
 | 0,_=>rfl
 | n+1,h=>by
   unfold Ba;rw [h n (D3 n),QE λi a=>h i (Nat.lt_succ_of_lt a)]
def QF (l:cW):trim (l++[(0,1)])=trim l:=by
 unfold trim;rw [Cr,List.length_singleton]
 have e:Ba (l++[(0,1)]) (l.length+1)=Ba l l.length:=by
  rw [show Ba (l++[(0,1)]) (l.length+1)=if ((l++[((0,1):Nu)]).getD l.length (1,1)).1=0 then Ba (l++[(0,1)]) l.length else l.length+1 from rfl];rw [mF (by simp [AT])];exact QE λi a=>by rw [AT,AT,Es a]
 rw [e,List.take_append_of_le_length (MX l l.length)]
def QG (l m:cW) (n:Nat):Fg l m (n+1)=Fg l m n++[a9 (ps (AK l) (AK m) l.length n) (Ac l*Ac m)]:=by
 unfold Fg;rw [List.range_succ,D4];rfl
theorem Ma (l m:cW) (a:0<Ac l*Ac m):∀ n,(∀ k,k<n->ps (AK l) (AK m) l.length k=0)->trim (Fg l m n)=[]
 | 0,_=>rfl
 | n+1,h=>by
   rw [QG,h n (D3 n),Pz a,QF];exact Ma l m a n λk hk=>h k (Nat.lt_succ_of_lt hk)
theorem QH {ns a:de} (h:a.length=0):∀ i k,ps ns a i k=0
 | 0,_=>rfl
 | i+1,k=>by unfold ps;rw [QH h i k,mE ⋯];rfl
def Zv {l m:cW} (a:0<Ac l*Ac m) (b:(AK m).length=m.length) :
  trim (Fg l m (l.length+m.length))=trim (List.map (λn=>a9 n (Ac l*Ac m)) (if l.length=0\/m.length=0 then [] else List.map (λk=>ps (AK l) (AK m) l.length k) (List.range (l.length+m.length - 1)))):=by
 by_cases c:l.length=0
 ·rw [mF (.inl c)];refine Ma l m a _ λk _=>?_;rw [c];rfl
 ·by_cases d:m.length=0
  ·rw [mF (.inr d)];exact Ma l m a _ λk _=>QH (by rw [b];exact d) _ _
  ·rw [mE ⋯];obtain ⟨n,e⟩:∃ n,l.length+m.length=n+1:=⟨l.length+m.length - 1,⋯⟩;rw [e,QG,MZ l.length n (by rw [b];omega),Pz a,QF,Ew,List.map_map];rfl
noncomputable def val (q:Nu):Rat:=(q.1:Rat) / (q.2:Rat)
def P' (x:Rat):0 / x=0:=by rw [Rat.div_def,Rat.zero_mul]
def Aa {z:Int} (h:z≠0):(z:Rat)≠0:=by exact_mod_cast h
def Mb {q:Nu} {n m:Int} (a:q.2≠0) (b:m≠0) (w:Wo q n m):val q=(n:Rat) / (m:Rat):=by
 have c:=Aa a;have d:=Aa b;have e:(q.1:Rat)*m=n*q.2:=by unfold Wo at w;exact_mod_cast w
 unfold val;ext
def E9 {q r:Nu} (c:Low q.1 q.2) (d:Low r.1 r.2) (h:val q=val r):q=r:=by
 have a:=Aa (AV c.pos);have b:=Aa (AV d.pos);unfold val at h;have z:(q.1:Rat)*r.2=r.1*q.2:=by ext
 have e:q.1*r.2=r.1*q.2:=by exact_mod_cast z
 obtain ⟨x,y⟩:=Po c d e;exact Prod.ext x y
def Ig {n m:Int} (a:0<m):val (a9 n m)=(n:Rat) / (m:Rat):=Mb (AV (Eg a).pos) (AV a) (J5 a)
def QJ {q r:Nu} (c:0<q.2) (d:0<r.2):val (aa q r)=val q+val r:=by
 unfold aa;rw [Ig (CV c d)];have a:=Aa (AV c);have b:=Aa (AV d);unfold val;push_cast;ext
def QK {q r:Nu} (c:0<q.2) (d:0<r.2):val (H_ q r)=val q*val r:=by
 unfold H_;rw [Ig (CV c d)];have a:=Aa (AV c);have b:=Aa (AV d);unfold val;push_cast;ext
noncomputable def Aq (n m:Int):Nu:=if m<0 then a9 (-n) (-m) else a9 n m
def FA {n m:Int} (a:m≠0):Low (Aq n m).1 (Aq n m).2:=by
 unfold Aq;split
 ·exact Eg ⋯
 ·exact Eg ⋯
def FC {n m:Int} (a:m≠0):val (Aq n m)=(n:Rat) / (m:Rat):=by
 unfold Aq;split
 ·rw [Ig ⋯];have:=Aa a;push_cast;ext
 ·exact Ig ⋯
def Zw {n m N:Int} (b:m≠0) (h:m∣N):(Aq n m).2∣N:=by
 have a:∀ {n m:Int},0<m->(a9 n m).2∣m:=λ{n m} c=>by
  unfold a9;exact Int.ediv_dvd_of_dvd (Dy n m)
 unfold Aq;split
 ·exact CJ (a ⋯) (CJ (Int.neg_dvd.mpr (Int.dvd_refl m)) h)
 ·exact CJ (a ⋯) h
def J9 {c d:Nat} {n m:Int} (g:m≠0) (b:Bd c n) (e:Bd d m):Bd c (Aq n m).1/\Bd d (Aq n m).2:=by
 have a:∀ {n m:Int},0<m->Bd c n->Bd d m->Bd c (a9 n m).1/\Bd d (a9 n m).2:=λ{n m} f b e=>by
  have w:=Zn (Eg f) f (J5 (n:=n) f);exact ⟨b.le w.1,e.le w.2⟩
 unfold Aq;split
 ·exact a ⋯ b.neg e.neg
 ·exact a ⋯ b e
noncomputable def B_ (l:cW) (k:Nat):Rat:=val (AX l k)
def Zx {q:Nu} (h:Low q.1 q.2) (z:q.1=0):q=(0,1):=E9 h HR (by unfold val;rw [z];show ((0:Int):Rat) / _=((0:Int):Rat) / _;rw [show ((0:Int):Rat)=0 from rfl,P',P'])
def Zy {l:cW} (n:AW l) (k:Nat):AX (trim l) k=AX l k:=by
 have g:∀ (m:Nat),m<=l.length->(∀ j,m<=j->j<l.length->(AX l j).1=0)->∀ j,Ba l m<=j->j<l.length->(AX l j).1=0:=by
  intro m
  induction m with
  | zero=>intro _ h j i c;exact h j ⋯ c
  | succ m o=>
    intro p h j d f;rw [show Ba l (m+1)=if (l.getD m (1,1)).1=0 then Ba l m else m+1 from rfl] at d;split at d
    ·rename_i z;refine o ⋯ (λj i c=>?_) j d f;by_cases e:j=m
     ·subst e;unfold AX;rw [AT,Ax c] at z ⊢;exact z
     ·exact h j ⋯ c
    ·exact h j d f
 unfold trim;by_cases d:k<Ba l l.length
 ·unfold AX;rw [AT,AT,List.getElem?_take_of_lt d]
 ·have e:AX (l.take (Ba l l.length)) k=(0,1):=by
   unfold AX;rw [AT,Bh (by rw [CB];omega)];rfl
  rw [e];by_cases f:k<l.length
  ·exact (Zx (CZ n k) (g l.length (AM _) (λj a b=>absurd b ⋯) k ⋯ f)).symm
  ·unfold AX;rw [AT,Bh ⋯];rfl
def Ei {l:cW} (a:AW l) (k:Nat):B_ (trim l) k=B_ l k:=by unfold B_;rw [Zy a]
def Mc {l:cW} {k:Nat} (h:l.length<=k):AX l k=(0,1):=by
 unfold AX;rw [AT,Bh h];rfl
def BF {l:cW} {k:Nat} (h:l.length<=k):B_ l k=0:=by
 unfold B_;rw [Mc h];exact P' _
def QL {a b:cW} (f:Nz b) (h:∀ k,AX a k=AX b k):b.length<=a.length:=by
 rcases Am a.length b.length with g | c
 ·exfalso;have d:b.length - 1<b.length:=by omega
  have q:=f b[b.length - 1] (by rw [FS];exact Ax d);have e:=h (b.length - 1);rw [Mc ⋯] at e;unfold AX at e;rw [AT,Ax d] at e;have i:((0,1):Nu)=b[b.length - 1]:=e;rw [<-i] at q;exact q rfl
 ·exact c
def QM {a b:cW} (c:AW a) (d:AW b) (f:Nz a) (j:Nz b) (h:∀ k,B_ a k=B_ b k):a=b:=by
 have g:∀ k,AX a k=AX b k:=λk=>E9 (CZ c k) (CZ d k) (h k);have e:a.length=b.length:=Dz (QL f λk=>(g k).symm) (QL j g);refine List.ext_getElem e λi m n=>?_;have z:=g i;unfold AX at z;rw [AT,AT,Ax m,Ax n] at z;exact z
noncomputable def cv (f g:dH):Nat->dH
 | 0,_=>0
 | n+1,k=>cv f g n k+(if n<=k then f n*g (k - n) else 0)
theorem QN {f f' g:dH} {s:Nat} {x:Rat} (a:f s=0) (b:f' s=x) (c:∀ i,i≠s->f' i=f i):∀ n k,cv f' g n k=cv f g n k+(if s<n/\s<=k then x*g (k - s) else 0)
 | 0,k=>by unfold cv;rw [mE ⋯];exact (Rat.add_zero 0).symm
 | n+1,k=>by
   unfold cv;rw [QN a b c n k];by_cases e:n=s
   ·subst e;rw [a,b];by_cases hk:n<=k
    ·rw [mF hk,mF hk,mE ⋯,mF ⟨⋯,hk⟩];ext
    ·rw [mE hk,mE hk,mE ⋯,mE ⋯]
   ·rw [c n e];have d:(s<n+1/\s<=k)↔(s<n/\s<=k):=by omega
    simp only [d];ext
theorem QO {f g:dH}:∀ n k,(∀ i,i<n->f i=0)->cv f g n k=0
 | 0,_,_=>rfl
 | n+1,k,h=>by
   unfold cv;rw [QO n k λi a=>h i ⋯,h n ⋯];split <;> ext
theorem QP {f g:dH} {n:Nat} (h:∀ i,n<=i->f i=0):∀ d k,cv f g (n+d) k=cv f g n k
 | 0,_=>rfl
 | d+1,k=>by
   show cv f g (n+d) k+(if n+d<=k then f (n+d)*g (k - (n+d)) else 0)=_;rw [QP h d k,h (n+d) ⋯];split <;> ext
theorem QQ {f f' g:dH} (h:∀ i,f i=f' i):∀ n k,cv f g n k=cv f' g n k
 | 0,_=>rfl
 | n+1,k=>by unfold cv;rw [QQ h n k,h n]
noncomputable def P_ (l:cW) (M:Int):de:=l.map λq=>q.1*(M / q.2)
def Ov (l:cW) (M:Int):Prop:=0<M/\∀ q∈l,q.2∣M
theorem QR {l:cW} {M:Int} (i:Nat):(P_ l M).getD i 0=(AX l i).1*(M / (AX l i).2):=by
 unfold P_ AX;rw [AT,AT,Aj];cases l[i]? with
 | none=>simp
 | some q=>rfl
theorem Ov.get {l:cW} {M:Int} (h:Ov l M) (i:Nat):(AX l i).2∣M:=by
 unfold AX;rw [AT];cases e:l[i]? with
 | none=>exact Int.one_dvd M
 | some q=>exact h.2 q (Bg e)
def Zz {l:cW} {M:Int} (h:Ov l M) (i:Nat):Wo (AX l i) ((P_ l M).getD i 0) M:=by
 rw [QR];exact Zs (h.get i)
def Do {l:cW} {M:Int} (a:AW l) (h:Ov l M) (i:Nat):B_ l i=((P_ l M).getD i 0:Rat) / (M:Rat):=Mb (AV (CZ a i).pos) (AV h.1) (Zz h i)
noncomputable def Ih (l m:cW) (a b:Int) (n:Nat):cW:=(List.range n).map λk=>a9 (ps (P_ l a) (P_ m b) l.length k) (a*b)
theorem Me {l m:cW} {d c:Int} (g:AW l) (h:AW m) (e:Ov l d) (f:Ov m c):∀ n k,(ps (P_ l d) (P_ m c) n k:Rat) / ((d*c:Int):Rat)=cv (B_ l) (B_ m) n k
 | 0,k=>P' _
 | n+1,k=>by
   have a:=Aa (AV e.1);have b:=Aa (AV f.1);have i:=Me g h e f n k;unfold ps cv;rw [<-i];by_cases hk:n<=k
   ·rw [mF hk,Do g e,Do h f];by_cases j:k - n<(P_ m c).length
    ·rw [mF ⟨hk,j⟩];push_cast;ext
    ·rw [mE ⋯,show (P_ m c).getD (k - n) 0=0 by rw [AT,Bh ⋯];rfl];push_cast;ext
   ·rw [mE hk,mE ⋯];push_cast;ext
def Z1 {l m:cW} {a b:Int} {n:Nat} (c:Ov l a) (d:Ov m b):AW (Ih l m a b n):=by
 intro q e;obtain ⟨k,_,rfl⟩:=BM.mp e;exact Eg (CV c.1 d.1)
def Z2 {l m:cW} {a b:Int} (f:AW l) (g:AW m) (c:Ov l a) (d:Ov m b) (k:Nat):B_ (Ih l m a b (l.length+m.length)) k=cv (B_ l) (B_ m) l.length k:=by
 rw [<-Me f g c d];have i:=CV c.1 d.1;by_cases h:k<l.length+m.length
 ·have e:AX (Ih l m a b (l.length+m.length)) k=a9 (ps (P_ l a) (P_ m b) l.length k) (a*b):=by
   unfold Ih AX;rw [AT,Aj,DD h];rfl
  unfold B_;rw [e,Ig i]
 ·rw [BF (by unfold Ih;rw [AO,BD];omega),MZ l.length k (by unfold P_;rw [AO];omega)];exact (P' _).symm
def lcm_dvd {B d M:Int} (c:0<B) (f:0<d) (a:B∣M) (b:d∣M):B*(d / ((Int.gcd B d:Nat):Int))∣M:=by
 have z:((Nat.lcm B.natAbs d.natAbs:Nat):Int)∣M:=Cw.mp (by rw [Cl];exact Nat.lcm_dvd (Cw.mpr a) (Cw.mpr b))
 have e:((Nat.lcm B.natAbs d.natAbs:Nat):Int)=B*(d / ((Int.gcd B d:Nat):Int)):=by
  unfold Nat.lcm;rw [Nat.mul_div_assoc _ (Nat.gcd_dvd_right _ _)];push_cast;rw [show ((B.natAbs:Nat):Int)=B by omega,show ((d.natAbs:Nat):Int)=d by omega];rfl
 rw [<-e];exact z
theorem Mf {M:Int}:∀ (l:cW) (B:Int),(∀ q∈l,0<q.2/\q.2∣M)->0<B->B∣M->0<l.foldl (λB q=>B*(q.2 / ((Int.gcd B q.2:Nat):Int))) B/\l.foldl (λB q=>B*(q.2 / ((Int.gcd B q.2:Nat):Int))) B∣M
 | [],B,_,a,h=>⟨a,h⟩
 | q::l,B,b,a,h=>by
   obtain ⟨c,d⟩:=b q (CD ..);obtain ⟨e,_⟩:=MY a c;exact Mf l _ (λr f=>b r (CQ _ f)) e (lcm_dvd a c h d)
def DB {n:Nat} {a b:Int} (d:b≠0) (h:a∣b) (c:Bd n b):Bd n a:=c.le (EO ⋯ (Cw.mpr h))
def Bz {l:cW} (e:AW l):Ov l (Ac l):=by
 obtain ⟨a,b,_⟩:=Zq (b:=(l.foldl (λn q=>n+q.1.natAbs+q.2.natAbs) 1)) e (λq c=>by
  have d:∀ (l:cW) (n:Nat),n<=l.foldl (λn q=>n+q.1.natAbs+q.2.natAbs) n/\∀ q∈l,q.1.natAbs+q.2.natAbs<=l.foldl (λn q=>n+q.1.natAbs+q.2.natAbs) n:=by
   intro l
   induction l with
   | nil=>intro n;exact ⟨AM _,λ_ h=>nomatch h⟩
   | cons r l f=>
     intro n;obtain ⟨i,g⟩:=f (n+r.1.natAbs+r.2.natAbs);rw [List.foldl_cons];refine ⟨⋯,λq c=>?_⟩;rcases De.mp c with rfl | c
     ·omega
     ·exact g q c
  have z:=(d l 1).2 q c;exact ⟨DQ ⋯ (Nat.lt_two_pow_self),DQ ⋯ (Nat.lt_two_pow_self)⟩)
 exact ⟨a,b⟩
def QS {l:cW} {M:Int} (b:AW l) (h:Ov l M):Ac l∣M:=(Mf l 1 (λq a=>⟨(b q a).pos,h.2 q a⟩) ∅ (Int.one_dvd M)).2
def KA (l:cW):AK l=P_ l (Ac l):=rfl
section
variable {α:Type} [Lean.Grind.CommRing α]
noncomputable def cvL:List α->(Nat->α)->Nat->α
 | [],_,_=>0
 | x::a,b,k=>x*b k+(match k with | 0=>0 | k+1=>cvL a b k)
def A5 (b:Nat->α) (k:Nat):cvL [] b k=0:=rfl
def At (x:α) (a:List α) (b:Nat->α):cvL (x::a) b 0=x*b 0+0:=rfl
def Ak (x:α) (a:List α) (b:Nat->α) (k:Nat):cvL (x::a) b (k+1)=x*b (k+1)+cvL a b k:=rfl
theorem BC {b c:Nat->α} (h:∀ k,b k=c k):∀ (a:List α) (k:Nat),cvL a b k=cvL a c k
 | [],_=>rfl
 | x::a,0=>by rw [At,At,h 0]
 | x::a,k+1=>by rw [Ak,Ak,h (k+1),BC h a k]
theorem HS (b c:Nat->α):∀ (a:List α) (k:Nat),cvL a (λk=>b k+c k) k=cvL a b k+cvL a c k
 | [],_=>by rw [A5,A5,A5];ext
 | x::a,0=>by rw [At,At,At];ext
 | x::a,k+1=>by rw [Ak,Ak,Ak,HS b c a k];ext
theorem C4 (s:α) (b:Nat->α):∀ (a:List α) (k:Nat),cvL a (λk=>s*b k) k=s*cvL a b k
 | [],_=>by rw [A5,A5];ext
 | x::a,0=>by rw [At,At];ext
 | x::a,k+1=>by rw [Ak,Ak,C4 s b a k];ext
noncomputable def DK (b:Nat->α):Nat->α
 | 0=>0
 | k+1=>b k
theorem Mg (b:Nat->α):∀ (a:List α) (k:Nat),cvL a (DK b) k=DK (cvL a b) k
 | [],0=>rfl
 | [],k+1=>rfl
 | x::a,0=>by rw [At];show x*0+0=0;ext
 | x::a,1=>by
   rw [Ak];have h:=Mg b a 0;rw [h];show x*b 0+0=cvL (x::a) b 0;rw [At]
 | x::a,k+2=>by
   rw [Ak,Mg b a (k+1)];show x*b (k+1)+cvL a b k=cvL (x::a) b (k+1);rw [Ak]
theorem Fh (x:α) (a:List α) (b:Nat->α) (k:Nat):cvL (x::a) b k=x*b k+DK (cvL a b) k:=by
 cases k with
 | zero=>exact At x a b
 | succ k=>exact Ak x a b k
theorem Ii (c:Nat->α):∀ (a b:List α) (k:Nat),cvL a (cvL b c) k=cvL b (cvL a c) k
 | [],b,k=>by
   rw [A5];have e:cvL b (cvL [] c) k=cvL b (λk=>0*c k) k:=BC (λk=>by rw [A5];ext) b k;rw [e,C4];ext
 | x::a,b,k=>by
   rw [Fh];have e:cvL b (cvL (x::a) c) k=cvL b (λk=>x*c k+DK (cvL a c) k) k:=BC (λk=>Fh x a c k) b k;rw [e,HS,C4,Mg]
   have d:DK (cvL a (cvL b c)) k=DK (cvL b (cvL a c)) k:=by
    cases k with
    | zero=>rfl
    | succ k=>exact Ii c a b k
   rw [d]
noncomputable def Ai:Nat->α
 | 0=>1
 | _+1=>0
theorem Co:∀ (a:List α) (k:Nat),cvL a Ai k=a.getD k 0
 | [],k=>by rw [A5];simp
 | x::a,0=>by rw [At];show x*1+0=x;ext
 | x::a,k+1=>by
   rw [Ak,Co a k];show x*0+a.getD k 0=(x::a).getD (k+1) 0;rw [FT];ext
end
def Z3 {n k:Nat}:k∣2 ^ n↔∃ a,a<=n/\k=2 ^ a:=by
 constructor
 ·induction n generalizing k with
  | zero=>intro h;exact ⟨0,AM 0,by simpa using h⟩
  | succ n d=>
    intro h;by_cases f:2∣k
    ·obtain ⟨j,rfl⟩:=f;rw [CU,B5 (2 ^ n) 2] at h;obtain ⟨a,b,e⟩:=d (Nat.dvd_of_mul_dvd_mul_left ∅ h);exact ⟨a+1,⋯,by rw [e,CU,B5]⟩
    ·have c:Nat.Coprime k 2:=by
      have:Nat.gcd k 2∣2:=Nat.gcd_dvd_right k 2;have g:=EO ∅ this;have i:Nat.gcd k 2≠2:=λz=>f (by rw [<-z];exact Nat.gcd_dvd_left k 2);have m:Nat.gcd k 2≠0:=λz=>by have:=Nat.eq_zero_of_gcd_eq_zero_right z;omega
      show Nat.gcd k 2=1;omega
     rw [CU] at h;obtain ⟨a,b,e⟩:=d (c.dvd_of_dvd_mul_right h);exact ⟨a,⋯,e⟩
 ·rintro ⟨a,b,rfl⟩;exact Nat.pow_dvd_pow 2 b
structure Pr (p:Nat):Prop where
 two:2<=p
 div:∀ d,d∣p->d=1\/d=p
def Pr.cop {p:Nat} (h:Pr p) {a:Nat} (b:¬ p∣a):Nat.gcd a p=1:=by
 rcases h.div _ (Nat.gcd_dvd_right a p) with e | e
 ·exact e
 ·exact absurd (e ▸ Nat.gcd_dvd_left a p) b
def Pr.mul {p:Nat} (h:Pr p) {a b:Nat} (d:p∣a*b):p∣a\/p∣b:=by
 by_cases c:p∣a
 ·exact .inl c
 ·refine .inr (Nat.Coprime.dvd_of_dvd_mul_left (k:=p) (m:=a) ?_ d);have:=h.cop c;rw [Nat.gcd_comm] at this;exact this
def Pr.mulI {p:Nat} (h:Pr p) {a b:Int} (c:(p:Int)∣a*b):(p:Int)∣a\/(p:Int)∣b:=by
 have z:=Cw.mpr c;rw [BN,Cl] at z;rcases h.mul z with e | e
 ·exact .inl (Cw.mp (by rw [Cl];exact e))
 ·exact .inr (Cw.mp (by rw [Cl];exact e))
def QT {m:Nat} (v:2<=m):∃ q,Pr q/\q∣m/\(q=m\/q*q<=m):=by
 have c:∀ n d,2<=d->(∀ e,2<=e->e<d->¬ e∣m)->m=d+n->∃ q,2<=q/\q∣m/\∀ e,2<=e->e<q->¬ e∣m:=by
  intro n
  induction n with
  | zero=>intro d a h e;exact ⟨d,a,by rw [e];exact Nat.dvd_refl _,h⟩
  | succ n o=>
    intro d a h e;by_cases b:d∣m
    ·exact ⟨d,a,b,h⟩
    ·refine o (d+1) ⋯ (λx p r=>?_) ⋯;by_cases f:x=d
     ·rw [f];exact b
     ·exact h x p ⋯
 obtain ⟨q,u,g,j⟩:=c (m - 2) 2 (AM 2) (λe w i=>absurd i ⋯) ⋯;refine ⟨q,⟨u,λd a=>?_⟩,g,?_⟩
 ·by_cases i:2<=d
  ·right;rcases Am d q with h | h
   ·exact absurd (Nat.dvd_trans a g) (j d i h)
   ·exact Dz (EO ⋯ a) h
  ·left;have:d≠0:=λz=>by rw [z] at a;have:=Nat.eq_zero_of_zero_dvd a;omega
   omega
 ·obtain ⟨k,hk⟩:=g;by_cases y:k<=1
  ·left
   have:k=1:=by
    rcases Cc k with z | z
    ·rw [z] at hk;omega
    ·omega
   rw [hk,this,Nat.mul_one]
  ·right;rcases Am k q with h | h
   ·exact absurd ⟨q,by rw [hk,B5]⟩ (j k ⋯ h)
   ·rw [hk];exact CS q h
theorem aO:∀ (n m:Nat) (f:Nat->Nat),(∀ i,i<m->f i<n)->(∀ i j,i<m->j<m->f i=f j->i=j)->m<=n
 | 0,m,f,h,_=>by
   rcases Cc m with z | z
   ·omega
   ·exact absurd (h 0 z) ⋯
 | n+1,0,_,_,_=>by omega
 | n+1,m+1,f,h,a=>by
   have:=aO n m (λi=>if f i=n then f m else f i) (λi d=>by
    show (if f i=n then f m else f i)<n;by_cases e:f i=n
    ·rw [mF e];have g:=h m (D3 m);have:f m≠n:=λz=>absurd (a i m ⋯ ⋯ (by rw [e,z])) ⋯;omega
    ·rw [mE e];have g:=h i ⋯;omega) (λi j d k e=>by
    have e:(if f i=n then f m else f i)=(if f j=n then f m else f j):=e;by_cases c:f i=n
    ·rw [mF c] at e;by_cases b:f j=n
     ·exact a i j ⋯ ⋯ (by rw [c,b])
     ·rw [mE b] at e;exact absurd (a m j ⋯ ⋯ e) ⋯
    ·rw [mE c] at e;by_cases b:f j=n
     ·rw [mF b] at e;exact absurd (a i m ⋯ ⋯ e) ⋯
     ·rw [mE b] at e;exact a i j ⋯ ⋯ e)
   omega
noncomputable abbrev Rt:=Int×Int
noncomputable def Q_ (q:Int) (x y:Rt):Rt:=((x.1*y.1+3*(x.2*y.2)) % q,(x.1*y.2+x.2*y.1) % q)
noncomputable def C_ (q:Int):Nat->Rt
 | 0=>(1 % q,0 % q)
 | n+1=>Q_ q (2,1) (C_ q n)
def Fj {q a b c:Int} (h:a - b=q*c):a % q=b % q:=by
 have:a=b+q*c:=by omega
 rw [this,Int.add_mul_emod_self_left]
def em {a q:Int}:∃ c,a % q=a - q*c:=⟨a / q,by have:=Int.emod_add_mul_ediv a q;omega⟩
def HU (q:Int) (x y z:Rt):Q_ q (Q_ q x y) z=Q_ q x (Q_ q y z):=by
 obtain ⟨a,b⟩:=x;obtain ⟨c,d⟩:=y;obtain ⟨e,f⟩:=z;obtain ⟨g,h⟩:=em (a:=a*c+3*(b*d)) (q:=q);obtain ⟨i,j⟩:=em (a:=a*d+b*c) (q:=q);obtain ⟨k,m⟩:=em (a:=c*e+3*(d*f)) (q:=q);obtain ⟨n,o⟩:=em (a:=c*f+d*e) (q:=q);refine Prod.ext ?_ ?_
 ·show ((a*c+3*(b*d)) % q*e+3*((a*d+b*c) % q*f)) % q=(a*((c*e+3*(d*f)) % q)+3*(b*((c*f+d*e) % q))) % q;rw [h,j,m,o];exact Fj (c:=a*k+3*b*n - g*e - 3*i*f) ()
 ·show ((a*c+3*(b*d)) % q*f+((a*d+b*c) % q*e)) % q=(a*((c*f+d*e) % q)+(b*((c*e+3*(d*f)) % q))) % q;rw [h,j,m,o];exact Fj (c:=a*n+b*k - g*f - i*e) ()
def Z4 (q:Int) (x y:Rt):Q_ q x y=Q_ q y x:=by
 refine Prod.ext ?_ ?_
 ·show (x.1*y.1+3*(x.2*y.2)) % q=(y.1*x.1+3*(y.2*x.2)) % q;congr 1;ext
 ·show (x.1*y.2+x.2*y.1) % q=(y.1*x.2+y.2*x.1) % q;congr 1;ext
def rn (q:Int) (x:Rt):Prop:=x.1 % q=x.1/\x.2 % q=x.2
def Z5 (q:Int) (x y:Rt):rn q (Q_ q x y):=⟨Int.emod_emod ..,Int.emod_emod ..⟩
theorem Ge (q:Int):∀ n,rn q (C_ q n)
 | 0=>⟨Int.emod_emod ..,Int.emod_emod ..⟩
 | _+1=>Z5 q _ _
def aA (q:Int) {x:Rt} (h:rn q x):Q_ q (C_ q 0) x=x:=by
 obtain ⟨d,e⟩:=em (a:=1) (q:=q);obtain ⟨f,g⟩:=em (a:=0) (q:=q);refine Prod.ext ?_ ?_
 ·show (1 % q*x.1+3*(0 % q*x.2)) % q=x.1;rw [e,g,<-h.1];rw [Fj (b:=x.1 % q) (c:=- d*(x.1 % q) - 3*f*x.2) (),Int.emod_emod]
 ·show (1 % q*x.2+0 % q*x.1) % q=x.2;rw [e,g,<-h.2];rw [Fj (b:=x.2 % q) (c:=- d*(x.2 % q) - f*x.1) (),Int.emod_emod]
theorem Gf (q:Int):∀ m n,C_ q (m+n)=Q_ q (C_ q m) (C_ q n)
 | 0,n=>by rw [Nat.zero_add,aA q (Ge q n)]
 | m+1,n=>by
   rw [Nat.succ_add];show Q_ q (2,1) (C_ q (m+n))=Q_ q (Q_ q (2,1) (C_ q m)) (C_ q n);rw [Gf q m n,HU]
noncomputable def aB (q:Int):Nat->Rt
 | 0=>(1 % q,0 % q)
 | n+1=>Q_ q (2,-1) (aB q n)
def r21 (q:Int):Q_ q (2,-1) (2,1)=C_ q 0:=by
 refine Prod.ext ?_ ?_
 ·show (2*2+3*(-1*1)) % q=1 % q;rfl
 ·show (2*1 + -1*2) % q=0 % q;rfl
theorem QU (q:Int):∀ n,Q_ q (aB q n) (C_ q n)=C_ q 0
 | 0=>aA q (Ge q 0)
 | n+1=>by
   show Q_ q (Q_ q (2,-1) (aB q n)) (Q_ q (2,1) (C_ q n))=_;rw [HU,<-HU q (aB q n),Z4 q (aB q n) (2,1),HU q (2,1),QU q n,<-HU,r21,aA q (Ge q 0)]
theorem Mh (q:Int) {m:Nat} (h:C_ q m=C_ q 0):∀ k,C_ q (m*k)=C_ q 0
 | 0=>rfl
 | k+1=>by rw [Nat.mul_succ,Gf,Mh q h k,h,aA q (Ge q 0)]
theorem rord (q:Int) {n:Nat} (c:C_ q (2 ^ (n+1))=C_ q 0) (f:C_ q (2 ^ n)≠C_ q 0):∀ d,0<d->d<2 ^ (n+1)->C_ q d≠C_ q 0:=by
 intro d
 induction d using Nat.strongRecOn with
 | _ d g=>
 intro i u e;have j:=Nat.mod_lt (2 ^ (n+1)) i
 have m:C_ q (2 ^ (n+1) % d)=C_ q 0:=by
  have o:=Nat.div_add_mod (2 ^ (n+1)) d;rw [<-o,Gf,Mh q e,aA q (Ge q _)] at c;exact c
 rcases Cc (2 ^ (n+1) % d) with z | z
 ·obtain ⟨k,hk⟩:=Nat.dvd_of_mod_eq_zero z;obtain ⟨a,v,b⟩:=(Z3 (n:=n+1) (k:=d)).mp ⟨k,hk⟩
  have p:a<=n:=by
   rcases Am n a with h | h
   ·exfalso;have:a=n+1:=by omega
    rw [this] at b;omega
   ·exact h
  apply f;have r:2 ^ n=d*2 ^ (n - a):=by rw [b,<-Cj];congr 1;omega
  rw [r];exact Mh q e _
 ·exact g _ j z ⋯ m
theorem aP (q:Int):∀ n,∃ c,(C_ q n).1*(C_ q n).1 - 3*((C_ q n).2*(C_ q n).2) - 1=q*c
 | 0=>by
   obtain ⟨d,f⟩:=em (a:=1) (q:=q);obtain ⟨e,g⟩:=em (a:=0) (q:=q);refine ⟨-2*d+q*d*d - 3*q*e*e,?_⟩;show (1 % q)*(1 % q) - 3*((0 % q)*(0 % q)) - 1=_;rw [f,g];ext
 | n+1=>by
   obtain ⟨c,j⟩:=aP q n;obtain ⟨d,f⟩:=em (a:=2*(C_ q n).1+3*(1*(C_ q n).2)) (q:=q);obtain ⟨e,g⟩:=em (a:=2*(C_ q n).2+1*(C_ q n).1) (q:=q);have h:(C_ q (n+1)).1=2*(C_ q n).1+3*(1*(C_ q n).2) - q*d:=f;have i:(C_ q (n+1)).2=2*(C_ q n).2+1*(C_ q n).1 - q*e:=g;rw [h,i];generalize (C_ q n).1=a at *;generalize (C_ q n).2=b at *;exact ⟨c - 2*d*(2*a+3*b)+q*d*d+6*e*(2*b+a) - 3*q*e*e,()⟩
def Z6 (q:Int) (n:Nat):∃ c,2*(C_ q (n+n)).1=(2*(C_ q n).1)*(2*(C_ q n).1) - 2+q*c:=by
 obtain ⟨c,e⟩:=aP q n;rw [Gf];obtain ⟨b,d⟩:=em (a:=(C_ q n).1*(C_ q n).1+3*((C_ q n).2*(C_ q n).2)) (q:=q);refine ⟨-2*b - 2*c,?_⟩;show 2*(((C_ q n).1*(C_ q n).1+3*((C_ q n).2*(C_ q n).2)) % q)=_;rw [d];ext
noncomputable def ll (M:Nat):Nat->Nat->Nat
 | 0,s=>s
 | k+1,s=>ll M k ((s*s+(M - 2)) % M)
theorem QV {q:Int} {M:Nat} (f:2<=M) (g:q∣(M:Int)):∀ (k t s:Nat),q∣2*(C_ q (2 ^ t)).1 - (s:Int)->q∣2*(C_ q (2 ^ (t+k))).1 - (ll M k s:Int)
 | 0,t,s,h=>h
 | k+1,t,s,h=>by
   have:=QV f g k (t+1) ((s*s+(M - 2)) % M) (by
    obtain ⟨c,i⟩:=Z6 q (2 ^ t);obtain ⟨d,j⟩:=h;obtain ⟨m,n⟩:=g;have e:(2:Nat) ^ (t+1)=2 ^ t+2 ^ t:=by rw [CU];omega
    rw [e,i]
    have z:(((s*s+(M - 2)) % M:Nat):Int)=(s:Int)*s+(M - 2) - M*(((s*s+(M - 2)) / M:Nat):Int):=by
     have:=Nat.mod_add_div (s*s+(M - 2)) M
     have o:(((s*s+(M - 2)) % M:Nat):Int)+(M:Int)*(((s*s+(M - 2)) / M:Nat):Int)=(s:Int)*s+(M - 2):=by
      have:=congrArg (λx:Nat=>(x:Int)) this;simp only [Int.natCast_add,Int.natCast_mul] at this;rw [this,Int.natCast_sub f];rfl
     omega
    rw [z];generalize (((s*s+(M - 2)) / M:Nat):Int)=w;generalize (C_ q (2 ^ t)).1=a at j;have b:2*a=s+q*d:=by omega
    rw [b,n];exact ⟨2*s*d+q*d*d+c - m+m*w,()⟩)
   rw [show t+(k+1)=t+1+k by omega];exact this
def Z7 {n:Nat} (h:ll (2 ^ (n+2) - 1) n 4 % (2 ^ (n+2) - 1)=0):Pr (2 ^ (n+2) - 1):=by
 have N:4<=2 ^ (n+2):=by rw [Cj];have:=Nat.one_le_two_pow (n:=n);omega
 generalize hM:2 ^ (n+2) - 1=M at h ⊢;obtain ⟨q,p,r,A⟩:=QT (m:=M) ⋯;rcases A with e | A
 ·rw [<-e];exact p
 exfalso;have O:(q:Int)∣(M:Int):=Int.natCast_dvd_natCast.mpr r;have q2:=p.two
 have P:q≠2:=λz=>by
  rw [z] at r;have:2 ^ (n+2)=2*2 ^ (n+1):=by rw [CU 2 (n+1)];omega
  omega
 have Q:(q:Int)∣2*(C_ q (2 ^ (0+n))).1 - (ll M n 4:Int):=QV ⋯ O n 0 4 (by
  show (q:Int)∣2*(Q_ q (2,1) (C_ q 0)).1 - 4;obtain ⟨f,u⟩:=em (a:=1) (q:=(q:Int));obtain ⟨g,v⟩:=em (a:=0) (q:=(q:Int));show (q:Int)∣2*((2*(1 % (q:Int))+3*(1*(0 % (q:Int)))) % (q:Int)) - 4;obtain ⟨R,S⟩:=em (a:=2*(1 % (q:Int))+3*(1*(0 % (q:Int)))) (q:=(q:Int));rw [S,u,v];exact ⟨-4*f - 6*g - 2*R,()⟩)
 have T:(q:Int)∣(ll M n 4:Int):=Int.natCast_dvd_natCast.mpr (Nat.dvd_trans r (Nat.dvd_of_mod_eq_zero h))
 have U:(q:Int)∣2*(C_ q (2 ^ n)).1:=by
  have:=Ck Q T;rw [Nat.zero_add] at this;rw [Int.sub_add_cancel] at this;exact this
 have W:(q:Int)∣(C_ q (2 ^ n)).1:=by
  rcases p.mulI U with z | z
  ·exfalso;have w:=Int.natCast_dvd_natCast.mp (show (q:Int)∣((2:Nat):Int) from z);have:=EO ∅ w;omega
  ·exact z
 have k:(q:Int)≠0:=by omega
 have o:C_ q (2 ^ (n+1))=((-1) % (q:Int),0 % (q:Int)):=by
  have e:(2:Nat) ^ (n+1)=2 ^ n+2 ^ n:=by rw [CU];omega
  rw [e,Gf];obtain ⟨c,X⟩:=aP q (2 ^ n);obtain ⟨d,x⟩:=W;refine Prod.ext ?_ ?_
  ·show ((C_ q (2 ^ n)).1*(C_ q (2 ^ n)).1+3*((C_ q (2 ^ n)).2*(C_ q (2 ^ n)).2)) % (q:Int)=(-1) % (q:Int);refine Fj (c:=2*q*d*d - c) ?_;generalize (C_ q (2 ^ n)).2=b at *;rw [x] at X ⊢;ext
  ·show ((C_ q (2 ^ n)).1*(C_ q (2 ^ n)).2+(C_ q (2 ^ n)).2*(C_ q (2 ^ n)).1) % (q:Int)=0 % (q:Int);refine Fj (c:=2*d*(C_ q (2 ^ n)).2) ?_;rw [x];ext
 have v:C_ q (2 ^ (n+1))≠C_ q 0:=λz=>by
  rw [o] at z;have Y:(-1) % (q:Int)=1 % (q:Int):=congrArg Prod.fst z;have w:(q:Int)∣-1 - 1:=Int.dvd_of_emod_eq_zero ((Int.emod_eq_emod_iff_emod_sub_eq_zero).mp Y);have Z:=Cw.mpr w;have:=EO ∅ Z;rw [Cl] at this;have:(-1 - 1:Int).natAbs=2:=by decide
  omega
 have u:C_ q (2 ^ (n+1+1))=C_ q 0:=by
  have e:(2:Nat) ^ (n+1+1)=2 ^ (n+1)+2 ^ (n+1):=by rw [CU 2 (n+1)];omega
  rw [e,Gf,o];obtain ⟨f,B⟩:=em (a:=-1) (q:=(q:Int));obtain ⟨g,C⟩:=em (a:=0) (q:=(q:Int));refine Prod.ext ?_ ?_
  ·show ((-1) % (q:Int)*((-1) % (q:Int))+3*(0 % (q:Int)*(0 % (q:Int)))) % (q:Int)=1 % (q:Int);refine Fj (c:=2*f+q*f*f+3*q*g*g) ?_;rw [B,C];ext
  ·show ((-1) % (q:Int)*(0 % (q:Int))+0 % (q:Int)*((-1) % (q:Int))) % (q:Int)=0 % (q:Int);refine Fj (c:=2*g+2*q*f*g) ?_;rw [B,C];ext
 have ord:=rord (q:Int) u v
 have D:∀ i d,0<d->i+d<2 ^ (n+2)->C_ q i≠C_ q (i+d):=λi d d0 x z=>by
  have e:C_ q d=C_ q 0:=by
   have a:=QU (q:Int) i
   have b:Q_ q (aB q i) (C_ q (i+d))=C_ q d:=by
    rw [Gf,<-HU,a,aA _ (Ge _ _)]
   rw [<-b,<-z,a]
  exact ord d d0 (by have:(2:Nat) ^ (n+1+1)=2 ^ (n+2):=rfl;omega) e
 have y:∀ i,0<=(C_ q i).1/\(C_ q i).1<q/\0<=(C_ q i).2/\(C_ q i).2<q:=λi=>by
  obtain ⟨a,b⟩:=Ge (q:Int) i;have E:(0:Int)<q:=by omega
  have F:=Cd (C_ q i).1 k;have G:=Ct (C_ q i).1 E;have H:=Cd (C_ q i).2 k;have I:=Ct (C_ q i).2 E;rw [a] at F G;rw [b] at H I;exact ⟨F,G,H,I⟩
 have pg:=aO (q*q) (2 ^ (n+2)) (λi=>(C_ q i).1.toNat*q+(C_ q i).2.toNat) (λi _=>by
  obtain ⟨a,b,c,d⟩:=y i;have J:(C_ q i).1.toNat+1<=q:=by omega
  have d':(C_ q i).2.toNat<q:=by omega
  have:=BW q J;rw [Cy,Nat.one_mul] at this;show (C_ q i).1.toNat*q+(C_ q i).2.toNat<q*q;omega) (λi j hi hj e=>by
  have e:(C_ q i).1.toNat*q+(C_ q i).2.toNat=(C_ q j).1.toNat*q+(C_ q j).2.toNat:=e;obtain ⟨a,b,c,d⟩:=y i;obtain ⟨J,b',c',d'⟩:=y j;have o:=congrArg (·% q) e;have K:=congrArg (·/ q) e;simp only [B5 _ q,Nat.mul_add_mod,Nat.mul_add_div (show 0<q by omega)] at o K;rw [D5 ⋯,D5 ⋯] at o;rw [Ev ⋯,Ev ⋯] at K;have L:C_ q i=C_ q j:=Prod.ext ⋯ ⋯;rcases Nat.lt_trichotomy i j with h | h | h
  ·exact absurd L (by have:=D i (j - i) ⋯ ⋯;rw [show i+(j - i)=j by omega] at this;exact this)
  ·exact h
  ·exact absurd L.symm (by have:=D j (i - j) ⋯ ⋯;rw [show j+(i - j)=i by omega] at this;exact this))
 omega
noncomputable def cI (M k s:Nat):Nat:=Nat.rec (motive:=λ_=>Nat->Nat) (λs=>s) (λ_ a s=>a ((s*s+(M - 2)) % M)) k s
noncomputable def cJ (x:Nat) (f:Nat->Nat):Nat:=Nat.rec (motive:=λ_=>Nat) (f 0) (λn _=>f (n+1)) x
noncomputable def llo (M k j s:Nat):Nat:=Nat.rec (motive:=λ_=>Nat->Nat) (λs=>s) (λ_ a s=>cJ (cI M k s) a) j s
theorem Mi (M:Nat):∀ k s,cI M k s=ll M k s
 | 0,_=>rfl
 | k+1,s=>Mi M k _
def QW (x:Nat) (f:Nat->Nat):cJ x f=f x:=by cases x <;> rfl
theorem Mj (M:Nat):∀ a b s,ll M (a+b) s=ll M b (ll M a s)
 | 0,b,s=>by rw [Nat.zero_add];rfl
 | a+1,b,s=>by rw [Nat.succ_add];exact Mj M a b _
theorem QX (M k:Nat):∀ j s,llo M k j s=ll M (k*j) s
 | 0,_=>rfl
 | j+1,s=>by
   show cJ (cI M k s) (llo M k j)=_;rw [QW,Mi,QX M k j,<-Mj];congr 1;rw [Nat.mul_succ,Nat.add_comm]
noncomputable def mers (e:Nat):Nat:=2 ^ e - 1
def Fk {n r k j:Nat} (e:n=k*j+r) (h:Nat.beq (cJ (llo (mers (n+2)) k j 4) (λs=>cI (mers (n+2)) r s % mers (n+2))) 0=true):Pr (mers (n+2)):=by
 refine Z7 ?_;replace h:=Nat.eq_of_beq_eq_true h;rw [QW,QX,Mi,<-Mj,<-e] at h;exact h
def Z8:Pr (mers 61):=Fk (n:=59) (r:=9) (k:=10) (j:=5) rfl (by decide +kernel)
def Z9:Pr (mers 127):=Fk (n:=125) (r:=5) (k:=20) (j:=6) rfl (by decide +kernel)
def zA:Pr (mers 521):=Fk (n:=519) (r:=19) (k:=50) (j:=10) rfl (by decide +kernel)
def zC:Pr (mers 1279):=Fk (n:=1277) (r:=77) (k:=100) (j:=12) rfl (by decide +kernel)
def zD:Pr (mers 4423):=Fk (n:=4421) (r:=21) (k:=100) (j:=44) rfl (by decide +kernel)
def zE:Pr (mers 9941):=Fk (n:=9939) (r:=39) (k:=100) (j:=99) rfl (by decide +kernel)
def zF:Pr (mers 21701):=Fk (n:=21699) (r:=99) (k:=150) (j:=144) rfl (by decide +kernel)
def zG:Pr (mers 44497):=Fk (n:=44495) (r:=95) (k:=200) (j:=222) rfl (by decide +kernel)
noncomputable def co (ns:de) (k:Nat):Int:=ns.getD k 0
section
variable {α:Type} [Lean.Grind.CommRing α]
noncomputable def Aw:List α->List α->List α
 | [],b=>b
 | a,[]=>a
 | x::a,y::b=>(x+y)::Aw a b
def KC (a:List α):Aw a []=a:=by cases a <;> rfl
theorem Bb (g:Nat->α):∀ (a b:List α) (k:Nat),cvL (Aw a b) g k=cvL a g k+cvL b g k
 | [],b,k=>by show cvL b g k=0+cvL b g k;ext
 | x::a,[],k=>by rw [KC,A5];ext
 | x::a,y::b,0=>by show cvL ((x+y)::Aw a b) g 0=_;rw [At,At,At];ext
 | x::a,y::b,k+1=>by show cvL ((x+y)::Aw a b) g (k+1)=_;rw [Ak,Ak,Ak,Bb g a b k];ext
theorem A6 (c:α) (g:Nat->α):∀ (a:List α) (k:Nat),cvL (a.map (c*·)) g k=c*cvL a g k
 | [],k=>by show (0:α)=c*0;ext
 | x::a,0=>by rw [Dg,At,At];ext
 | x::a,k+1=>by rw [Dg,Ak,Ak,A6 c g a k];ext
noncomputable def Au (s:Nat) (f:Nat->α) (k:Nat):α:=if s<=k then f (k - s) else 0
theorem HV (g:Nat->α):∀ (s:Nat) (a:List α) (k:Nat),cvL (List.replicate s 0++a) g k=Au s (cvL a g) k
 | 0,a,k=>by unfold Au;rw [mF (Ab k)];rfl
 | s+1,a,0=>by unfold Au;rw [mE ⋯];show cvL (0::(List.replicate s 0++a)) g 0=0;rw [At];ext
 | s+1,a,k+1=>by
   show cvL (0::(List.replicate s 0++a)) g (k+1)=_;rw [Ak,HV g s a k];unfold Au;by_cases h:s<=k
   ·rw [mF h,mF ⋯,show k+1 - (s+1)=k - s by omega];ext
   ·rw [mE h,mE ⋯];ext
noncomputable def BS:List α->List α->List α
 | [],_=>[]
 | x::a,b=>Aw (b.map (x*·)) (0::BS a b)
theorem Bv (g:Nat->α):∀ (a b:List α) (k:Nat),cvL (BS a b) g k=cvL a (cvL b g) k
 | [],b,k=>rfl
 | x::a,b,k=>by
   show cvL (Aw (b.map (x*·)) (0::BS a b)) g k=_;rw [Bb,A6,Fh,Fh]
   have e:DK (cvL (BS a b) g) k=DK (cvL a (cvL b g)) k:=by
    cases k with
    | zero=>rfl
    | succ k=>exact Bv g a b k
   rw [e];ext
theorem DN (g:Nat->α) (s:α):∀ (a:List α) (k:Nat),cvL (a++[s]) g k=cvL a g k+s*Au a.length g k
 | [],0=>by show cvL [s] g 0=0+s*g 0;rw [At];ext
 | [],k+1=>by show cvL [s] g (k+1)=0+s*g (k+1);rw [Ak,A5];ext
 | x::a,0=>by show cvL (x::(a++[s])) g 0=_;rw [At,At];unfold Au;rw [mE (by simp)];ext
 | x::a,k+1=>by
   show cvL (x::(a++[s])) g (k+1)=_;rw [Ak,Ak,DN g s a k]
   have e:Au (x::a).length g (k+1)=Au a.length g k:=by
    unfold Au;rw [B7];by_cases h:a.length<=k
    ·rw [mF h,mF ⋯,show k+1 - (a.length+1)=k - a.length by omega]
    ·rw [mE h,mE ⋯]
   rw [e];ext
def Fl (a:List α) {g:Nat->α} (h:∀ k,g k=0) (k:Nat):cvL a g k=0:=by
 rw [BC (c:=λk=>0*g k) (λj=>by rw [h j];ext) a k,C4];ext
end
def Cp (a:de) (k:Nat):co a k=cvL a Ai k:=(Co a k).symm
def Bw (a b:de) (k:Nat):cvL a (co b) k=cvL b (co a) k:=by
 rw [BC (Cp b) a k,Ii,BC (λj=>(Cp a j).symm) b k]
def Af {a:de} {k:Nat} (h:a.length<=k):co a k=0:=by
 unfold co;rw [AT,Bh h];rfl
theorem Ej {g:dF} {n:Nat} (h:∀ i,n<=i->g i=0):∀ (a:de) (k:Nat),a.length+n<=k+1->cvL a g k=0
 | [],_,_=>rfl
 | x::a,0,hk=>by
   rw [B7] at hk;rw [At,h 0 ⋯];omega
 | x::a,k+1,hk=>by
   rw [B7] at hk;rw [Ak,h (k+1) ⋯,Ej h a k ⋯];omega
theorem Mk {p:Int} {g:dF} {n:Nat} (h:∀ i,n<i->p∣g i):∀ (a:de) (k:Nat),a.length+n<=k->p∣cvL a g k
 | [],_,_=>Cm p
 | x::a,0,hk=>absurd hk (by rw [B7];omega)
 | x::a,k+1,hk=>by
   rw [B7] at hk;rw [Ak];exact Ck (Ex (h (k+1) ⋯)) (Mk h a k ⋯)
theorem KD {p:Nat} (hp:Pr p) {g:dF} {n:Nat} (q:¬ (p:Int)∣g n) (h:∀ i,n<i->(p:Int)∣g i) (S:de) :
  (∀ k,n<=k->(p:Int)∣cvL S g k)->∀ s∈S,(p:Int)∣s:=by
 induction hl:S.length generalizing S with
 | zero=>intro _ s d;rw [B6.mp hl] at d;exact nomatch d
 | succ m r=>
   intro hk;have j:S≠[]:=λz=>by rw [z] at hl;simp at hl
   obtain ⟨T,t,rfl⟩:∃ T t,S=T++[t]:=⟨S.dropLast,S.getLast j,(GJ j).symm⟩;have u:T.length=m:=by simpa using hl
   have o:(p:Int)∣t:=by
    have a:=hk (T.length+n) ⋯;rw [DN] at a;have b:=Mk h T (T.length+n) (AM _)
    have c:(p:Int)∣t*Au T.length g (T.length+n):=by
     have:=Int.dvd_sub a b;rwa [show ∀ x y:Int,x+y - x=y by intro x y;omega] at this
    unfold Au at c;rw [mF ⋯,show T.length+n - T.length=n by omega] at c;rcases hp.mulI c with z | z
    ·exact z
    ·exact absurd z q
   have e:=r T u (λk f=>by
    have a:=hk k f;rw [DN] at a;have:=Int.dvd_sub a (GG (c:=Au T.length g k) o);rwa [show ∀ x y:Int,x+y - y=x by intro x y;omega] at this)
   intro s d;rcases Er.mp d with h | h
   ·exact e s h
   ·rw [CC.mp h];exact o
def Lz (g:de):Prop:=0<g.length/\co g (g.length - 1)≠0
def QI (r o f:dF):Prop:=∃ d:Int,d≠0/\∃ U V:de,∀ k,d*f k=cvL U r k+cvL V o k
def MQ (g f:dF):Prop:=∃ c:Int,c≠0/\∃ A:de,∀ k,c*f k=cvL A g k
def QI.congr {r o f h:dF} (q:QI r o f) (e:∀ k,h k=f k):QI r o h:=by
 obtain ⟨d,a,U,V,b⟩:=q;exact ⟨d,a,U,V,λk=>by rw [e k];exact b k⟩
theorem QI.left (r o:dF):QI r o r:=⟨1,∅,[1],[],λk=>by
 rw [A5];cases k with
 | zero=>rw [At];omega
 | succ k=>rw [Ak,A5];omega⟩
theorem QI.right (r o:dF):QI r o o:=⟨1,∅,[],[1],λk=>by
 rw [A5];cases k with
 | zero=>rw [At];omega
 | succ k=>rw [Ak,A5];omega⟩
def QI.less {r o f h:dF} (q:QI r o f) (q':QI r o h) (a w:Int) (s:Nat):QI r o (λk=>a*f k - w*Au s h k):=by
 obtain ⟨d,i,U,V,j⟩:=q;obtain ⟨c,e,m,n,g⟩:=q';refine ⟨d*c,BK i e,Aw (U.map (c*a*·)) (List.replicate s 0++m.map (-(d*w)*·)),Aw (V.map (c*a*·)) (List.replicate s 0++n.map (-(d*w)*·)),λk=>?_⟩;show d*c*(a*f k - w*Au s h k)=_;rw [Bb,Bb,A6,A6,HV,HV];unfold Au;have p:=j k;by_cases b:s<=k
 ·rw [mF b,mF b,mF b,A6,A6];have u:=g (k - s);ext
 ·rw [mE b,mE b,mE b];ext
def QI.scal {r o f:dF} {c:Int} (a:c≠0) (q:QI r o (λk=>c*f k)):QI r o f:=by
 obtain ⟨d,b,U,V,e⟩:=q;exact ⟨d*c,BK b a,U,V,λk=>by rw [<-e k];ext⟩
theorem MQ.refl (g:dF):MQ g g:=⟨1,∅,[1],λk=>by
 cases k with
 | zero=>rw [At];omega
 | succ k=>rw [Ak,A5];omega⟩
def MQ.zero (g:dF) {f:dF} (h:∀ k,f k=0):MQ g f:=⟨1,∅,[],λk=>by rw [A5,h k];rfl⟩
def MQ.congr {g f h:dF} (m:MQ g f) (e:∀ k,h k=f k):MQ g h:=by
 obtain ⟨c,a,A,b⟩:=m;exact ⟨c,a,A,λk=>by rw [e k];exact b k⟩
def MQ.less {g f h:dF} (m:MQ g f) (j:MQ g h) (a w:Int) (s:Nat):MQ g (λk=>a*f k - w*Au s h k):=by
 obtain ⟨d,n,U,o⟩:=m;obtain ⟨c,e,p,i⟩:=j;refine ⟨d*c,BK n e,Aw (U.map (c*a*·)) (List.replicate s 0++p.map (-(d*w)*·)),λk=>?_⟩;show d*c*(a*f k - w*Au s h k)=_;rw [Bb,A6,HV];unfold Au;have q:=o k;by_cases b:s<=k
 ·rw [mF b,mF b,A6];have r:=i (k - s);ext
 ·rw [mE b,mE b];ext
def MQ.scal {g f:dF} {c:Int} (a:c≠0) (m:MQ g (λk=>c*f k)):MQ g f:=by
 obtain ⟨d,b,A,e⟩:=m;exact ⟨d*c,BK b a,A,λk=>by rw [<-e k];ext⟩
def MQ.trans {g f h:dF} (m:MQ g f) (a:MQ f h):MQ g h:=by
 obtain ⟨c,b,A,i⟩:=m;obtain ⟨d,j,B,n⟩:=a;refine ⟨c*d,BK b j,BS B A,λk=>?_⟩;rw [Bv];have e:c*cvL B f k=cvL B (cvL A g) k:=by rw [<-C4];exact BC i B k
 rw [<-e,<-n k];ext
def MQ.of_QI {r o f g:dF} (a:MQ g r) (b:MQ g o) (q:QI r o f):MQ g f:=by
 obtain ⟨d,h,U,V,i⟩:=q;obtain ⟨c,j,A,m⟩:=a;obtain ⟨e,n,B,p⟩:=b;refine ⟨c*e*d,BK (BK j n) h,Aw ((BS U A).map (e*·)) ((BS V B).map (c*·)),λk=>?_⟩;rw [Bb,A6,A6,Bv,Bv];have u:c*cvL U r k=cvL U (cvL A g) k:=by rw [<-C4];exact BC m U k
 have v:e*cvL V o k=cvL V (cvL B g) k:=by rw [<-C4];exact BC p V k
 have w:=i k;ext
def QI.of_MQ {r o f h:dF} (q:QI r o f) (m:MQ f h):QI r o h:=by
 obtain ⟨c,a,A,b⟩:=m;obtain ⟨d,g,U,V,i⟩:=q;refine ⟨d*c,BK g a,BS A U,BS A V,λk=>?_⟩;rw [Bv,Bv];have e:d*cvL A f k=cvL A (cvL U r) k+cvL A (cvL V o) k:=by rw [<-C4,<-HS];exact BC i A k
 rw [<-e,<-b k];ext
def Ml {f:de} (h:co f (f.length - 1)=0) (k:Nat):co f.dropLast k=co f k:=by
 unfold co at *;rw [AT,AT];rw [List.getElem?_dropLast];by_cases hk:k<f.length - 1
 ·rw [mF hk]
 ·rw [mE hk];by_cases e:k=f.length - 1
  ·subst e;rw [AT] at h;rw [h];rfl
  ·rw [Bh ⋯]
theorem Dp (f:de):(∀ k,co f k=0)\/∃ g,Lz g/\g.length<=f.length/\∀ k,co g k=co f k:=by
 induction hn:f.length generalizing f with
 | zero=>exact .inl λk=>Af ⋯
 | succ n a=>
   by_cases h:co f (f.length - 1)=0
   ·rcases a f.dropLast (by rw [List.length_dropLast];omega) with z | ⟨g,b,d,c⟩
    ·exact .inl λk=>by rw [<-Ml h];exact z k
    ·exact .inr ⟨g,b,⋯,λk=>by rw [c,Ml h]⟩
   ·exact .inr ⟨f,⟨⋯,h⟩,⋯,λ_=>rfl⟩
def KE (n:Nat) (F:dF) (k:Nat):co ((List.range n).map F) k=if k<n then F k else 0:=by
 unfold co;rw [AT,Aj];by_cases h:k<n
 ·rw [mF h,DD h];rfl
 ·rw [mE h,Bh (by rw [BD];omega)];rfl
structure Gen (r o:dF) (g:de):Prop where
 lz:Lz g
 qi:QI r o (co g)
 len:∀ h,Lz h->QI r o (co h)->g.length<=h.length
 last:∀ h,Lz h->QI r o (co h)->h.length=g.length->(co g (g.length - 1)).natAbs<=(co h (h.length - 1)).natAbs
def zH {r o:dF} {f:de} (d:Lz f) (q:QI r o (co f)):∃ g,Gen r o g:=by
 have L:∀ n,(∃ f,f.length=n/\Lz f/\QI r o (co f))->∃ m,(∃ f,f.length=m/\Lz f/\QI r o (co f))/\∀ h,Lz h->QI r o (co h)->m<=h.length:=by
  intro n
  induction n using Nat.strongRecOn with
  | _ n e=>
    intro k;by_cases a:∃ m,m<n/\∃ f,f.length=m/\Lz f/\QI r o (co f)
    ·obtain ⟨m,i,a⟩:=a;exact e m i a
    ·refine ⟨n,k,λh b c=>?_⟩;rcases Am h.length n with z | z
     ·exact absurd ⟨h.length,z,h,rfl,b,c⟩ a
     ·exact z
 obtain ⟨m,⟨p,u,v,w⟩,i⟩:=L f.length ⟨f,rfl,d,q⟩
 have M:∀ n,(∃ f,f.length=m/\Lz f/\QI r o (co f)/\(co f (f.length - 1)).natAbs=n)->∃ g,Gen r o g:=by
  intro n
  induction n using Nat.strongRecOn with
  | _ n e=>
    rintro ⟨f,x,d,y,B⟩;by_cases a:∃ j,j<n/\∃ f,f.length=m/\Lz f/\QI r o (co f)/\(co f (f.length - 1)).natAbs=j
    ·obtain ⟨j,A,a⟩:=a;exact e j A a
    ·refine ⟨f,d,y,λh b c=>by rw [x];exact i h b c,λh b c C=>?_⟩;rcases Am (co h (h.length - 1)).natAbs (co f (f.length - 1)).natAbs with z | z
     ·exact absurd ⟨_,⋯,h,⋯,b,c,rfl⟩ a
     ·exact z
 exact M _ ⟨p,u,v,w,rfl⟩
theorem Gen.mq {r o:dF} {g:de} (G:Gen r o g):∀ (n:Nat) (f:de),f.length<=n->QI r o (co f)->MQ (co g) (co f)
 | 0,f,h,_=>MQ.zero _ λk=>Af ⋯
 | n+1,f,h,q=>by
   rcases Dp f with z | ⟨b,u,A,i⟩
   ·exact MQ.zero _ z
   have j:QI r o (co b):=q.congr i;have B:=G.len b u j;refine MQ.congr (f:=co b) ?_ λk=>(i k).symm;generalize C:b.length - g.length=s;have D:=G.lz.1;let F:de:=(List.range (b.length - 1)).map λk=>co g (g.length - 1)*co b k - co b (b.length - 1)*Au s (co g) k
   have p:∀ k,co F k=co g (g.length - 1)*co b k - co b (b.length - 1)*Au s (co g) k:=λk=>by
    rw [KE];by_cases hk:k<b.length - 1
    ·rw [mF hk]
    ·rw [mE hk];unfold Au;by_cases e:k=b.length - 1
     ·rw [mF ⋯,e,show b.length - 1 - s=g.length - 1 by omega];ext
     ·rw [Af (a:=b) ⋯];by_cases d:s<=k
      ·rw [mF d,Af (a:=g) (k:=k - s) ⋯];omega
      ·rw [mE d];omega
   have v:QI r o (co F):=QI.congr (j.less G.qi (co g (g.length - 1)) (co b (b.length - 1)) s) p
   have w:F.length<=n:=by
    have:F.length=b.length - 1:=by show ((List.range (b.length - 1)).map _).length=_;rw [AO,BD]
    omega
   have m:=Gen.mq G n F w v;have x:=MQ.less (MQ.congr m λk=>(p k).symm) (MQ.refl (co g)) 1 (-(co b (b.length - 1))) s;refine MQ.scal (c:=co g (g.length - 1)) G.lz.2 (MQ.congr x λk=>?_);show _=1*_ - _*Au s (co g) k;generalize Au s (co g) k=y;ext
def Gen.prim {r o:dF} {g:de} (G:Gen r o g) {p:Nat} (hp:2<=p):∃ n,¬ (p:Int)∣co g n/\∀ i,n<i->(p:Int)∣co g i:=by
 have b:∀ n,(∀ i,n<=i->(p:Int)∣co g i)->(∀ i,(p:Int)∣co g i)\/∃ n,¬ (p:Int)∣co g n/\∀ i,n<i->(p:Int)∣co g i:=by
  intro n
  induction n with
  | zero=>intro h;exact .inl λi=>h i (Ab i)
  | succ n v=>
    intro h;by_cases m:(p:Int)∣co g n
    ·exact v λi d=>by
      by_cases e:i=n
      ·rw [e];exact m
      ·exact h i ⋯
    ·exact .inr ⟨n,m,λi d=>h i ⋯⟩
 rcases b g.length (λi d=>by rw [Af d];exact Cm _) with h | h
 ·exfalso;let a:de:=g.map (·/ (p:Int))
  have f:∀ k,(p:Int)*co a k=co g k:=λk=>by
   have:co a k=co g k / (p:Int):=by
    show (g.map (·/ (p:Int))).getD k 0=g.getD k 0 / (p:Int);rw [AT,AT,Aj];cases g[k]? with
    | none=>exact (Int.zero_ediv _).symm
    | some z=>rfl
   rw [this,GK (h k)]
  have w:(p:Int)≠0:=by omega
  have Ca:a.length=g.length:=AO ..;have q:co a (a.length - 1)≠0:=λz=>G.lz.2 (by rw [<-f,<-Ca,z];omega);have x:Lz a:=⟨by rw [Ca];exact G.lz.1,q⟩;have y:QI r o (co a):=QI.scal (c:=(p:Int)) w (QI.congr G.qi f);have u:=G.last a x y Ca;have j:=f (g.length - 1);rw [<-Ca] at j;rw [Ca] at j u;rw [<-j,BN,Cl] at u;rw [Ca] at q;have A:0<(co a (g.length - 1)).natAbs:=by omega
  have:=BW (co a (g.length - 1)).natAbs hp;omega
 ·exact h
def Gen.loc {r o:dF} {g:de} (G:Gen r o g) {p:Nat} (hp:Pr p) {f:dF} (m:MQ (co g) f) :
  ∃ (c:Int) (A:de),¬ (p:Int)∣c/\∀ k,c*f k=cvL A (co g) k:=by
 obtain ⟨n,n0,n1⟩:=G.prim hp.two;obtain ⟨c,v,A,b⟩:=m
 have i:∀ (m:Nat) (c:Int) (A:de),c.natAbs<=m->c≠0->(∀ k,c*f k=cvL A (co g) k)->∃ (c:Int) (A:de),¬ (p:Int)∣c/\∀ k,c*f k=cvL A (co g) k:=by
  intro m
  induction m with
  | zero=>intro c A h u;omega
  | succ m w=>
    intro c A h u b;by_cases j:(p:Int)∣c
    ·have x:∀ a∈A,(p:Int)∣a:=KD hp n0 n1 A λk _=>by rw [<-b k];exact GG j
     obtain ⟨d,rfl⟩:=j;have y:=hp.two;have q:d≠0:=λz=>u (by rw [z];omega)
     have B:A=(A.map (·/ (p:Int))).map ((p:Int)*·):=by
      rw [List.map_map]
      conv=>lhs;rw [<-List.map_id A]
      refine EQ λa C=>?_;show a=(p:Int)*(a / (p:Int));rw [GK (x a C)]
     refine w d (A.map (·/ (p:Int))) ?_ q λk=>?_
     ·rw [BN,Cl] at h;have D:0<d.natAbs:=by omega
      have:=BW d.natAbs y;omega
     ·have e:=b k;rw [B,A6,Int.mul_assoc] at e;exact Int.eq_of_mul_eq_mul_left ⋯ e
    ·exact ⟨c,A,j,b⟩
 exact i _ c A (AM _) v b
theorem zI (a b:Nat):∃ x y:Int,x*a+y*b=(Nat.gcd a b:Int):=by
 induction a,b using Nat.gcd.induction with
 | H0 n=>exact ⟨0,1,by simp⟩
 | H1 m n d c=>
   obtain ⟨x,y,h⟩:=c;refine ⟨y - x*((n / m:Nat):Int),x,?_⟩;rw [Nat.gcd_rec,<-h]
   have e:(n:Int)=(m:Int)*((n / m:Nat):Int)+((n % m:Nat):Int):=by
    have:=Nat.div_add_mod n m;exact_mod_cast this.symm
   generalize ((n / m:Nat):Int)=q at *;generalize ((n % m:Nat):Int)=w at *;rw [e];ext
def zJ (a b:Int):∃ x y:Int,x*a+y*b=(Int.gcd a b:Int):=by
 obtain ⟨x,y,h⟩:=zI a.natAbs b.natAbs
 have s:∀ z:Int,∃ e:Int,(z.natAbs:Int)=e*z:=λz=>by
  rcases Int.natAbs_eq z with h | h
  ·exact ⟨1,⋯⟩
  ·exact ⟨-1,⋯⟩
 obtain ⟨e,c⟩:=s a;obtain ⟨f,d⟩:=s b;refine ⟨x*e,y*f,?_⟩;show _=((Nat.gcd a.natAbs b.natAbs:Nat):Int);rw [<-h,c,d];ext
def Dm (p:Int) (g f:dF):Prop:=∃ S:de,∀ k,p∣f k - cvL S g k
def Gen.dm {r o:dF} {g:de} (G:Gen r o g) {p:Nat} (hp:Pr p) {f:dF} (m:MQ (co g) f):Dm (p:Int) (co g) f:=by
 obtain ⟨c,A,d,e⟩:=G.loc hp m
 have b:Int.gcd c (p:Int)=1:=by
  have:=hp.cop (a:=c.natAbs) λz=>d (Cw.mp (by rw [Cl];exact z));exact this
 obtain ⟨x,y,i⟩:∃ x y:Int,x*c+y*(p:Int)=1:=by
  obtain ⟨x,y,h⟩:=zJ c (p:Int);exact ⟨x,y,by rw [h,b];rfl⟩
 refine ⟨A.map (x*·),λk=>⟨f k*y,?_⟩⟩;rw [A6,<-e k];ext
def Dm.less {p:Int} {g f h:dF} (m:Dm p g f) (d:Dm p g h) (a w:Int) (s:Nat):Dm p g (λk=>a*f k - w*Au s h k):=by
 obtain ⟨S,e⟩:=m;obtain ⟨i,c⟩:=d;refine ⟨Aw (S.map (a*·)) (List.replicate s 0++i.map (-w*·)),λk=>?_⟩;show p∣a*f k - w*Au s h k - _;rw [Bb,A6,HV];unfold Au;obtain ⟨x,j⟩:=e k;by_cases b:s<=k
 ·rw [mF b,mF b,A6];obtain ⟨y,n⟩:=c (k - s);exact ⟨a*x - w*y,()⟩
 ·rw [mE b,mE b];exact ⟨a*x,()⟩
def Dm.congr {p:Int} {g f h:dF} (m:Dm p g f) (e:∀ k,p∣h k - f k):Dm p g h:=by
 obtain ⟨S,a⟩:=m;exact ⟨S,λk=>by have:=Ck (e k) (a k);rwa [show ∀ x y z:Int,x - y+(y - z)=x - z by intro x y z;omega] at this⟩
def Dm.zero (p:Int) (g:dF) {f:dF} (h:∀ k,p∣f k):Dm p g f:=⟨[],λk=>by rw [A5];simpa using h k⟩
def Gen.lead {r o:dF} {g R:de} (G:Gen r o g) {p:Nat} (hp:Pr p) (C:Lz R) (m:MQ (co g) (co R)) (h:¬ (p:Int)∣co R (R.length - 1)):¬ (p:Int)∣co g (g.length - 1):=by
 intro D;obtain ⟨n,n0,n1⟩:=G.prim hp.two;obtain ⟨c,A,b,d⟩:=G.loc hp m
 have K:n+1<g.length:=by
  rcases Am n g.length with z | z
  ·rcases Am (n+1) g.length with y | y
   ·exact y
   ·exact absurd D (by rw [show g.length - 1=n by omega];exact n0)
  ·exact absurd (by rw [Af z];exact Cm _) n0
 rcases Dp A with z | ⟨B,f,_,E⟩
 ·have:c*co R (R.length - 1)=0:=by
   rw [d,Bw,Fl g z]
  rcases Int.mul_eq_zero.mp this with e | e
  ·exact b (by rw [e];exact Cm _)
  ·exact C.2 e
 ·have q:∀ k,c*co R k=cvL B (co g) k:=λk=>by rw [d,Bw,BC (λj=>(E j).symm) g k,<-Bw]
  have L:B.length+g.length<=R.length+1:=by
   rcases Am (R.length+1) (B.length+g.length) with z | z
   ·exfalso;have u:=f.1;have M:=G.lz.1;have e:=q (B.length - 1+(g.length - 1));rw [Af ⋯] at e;have v:B≠[]:=λz=>by rw [z] at u;simp at u
    obtain ⟨T,t,a⟩:∃ T t,B=T++[t]:=⟨B.dropLast,B.getLast v,(GJ v).symm⟩;have F:T.length=B.length - 1:=by rw [a];simp
    have H:co B (B.length - 1)=t:=by rw [<-F,a];unfold co;simp [AT]
    rw [a,DN,<-a,Ej (n:=g.length) (λi I=>Af I) T _ ⋯] at e;unfold Au at e;rw [mF ⋯,show B.length - 1+(g.length - 1) - T.length=g.length - 1 by omega] at e;have J:t*co g (g.length - 1)=0:=by omega
    rcases Int.mul_eq_zero.mp J with x | x
    ·exact f.2 (H.trans x)
    ·exact G.lz.2 x
   ·exact z
  have w:=Mk n1 B (R.length - 1) ⋯;rw [<-q] at w;rcases hp.mulI w with x | x
  ·exact b x
  ·exact h x
def Dm.len {p:Nat} (hp:Pr p) {g f:de} (o:0<g.length) (b:¬ (p:Int)∣co g (g.length - 1)) (d:Dm (p:Int) (co g) (co f)) (j:∃ k,¬ (p:Int)∣co f k):g.length<=f.length:=by
 rcases Am f.length g.length with z | z
 ·exfalso;obtain ⟨S,a⟩:=d
  have sS:=KD hp b (λi q=>by rw [Af ⋯];exact Cm _) S λk hk=>by
   have:=a k;rw [Af ⋯] at this;have e:=Int.dvd_neg.mpr this;rwa [show ∀ x:Int,-(0 - x)=x by intro x;omega] at e
  obtain ⟨k,hk⟩:=j;apply hk
  have c:∀ (S:de),(∀ s∈S,(p:Int)∣s)->∀ k,(p:Int)∣cvL S (co g) k:=by
   intro S
   induction S with
   | nil=>intro _ k;exact Cm _
   | cons x S m=>
     intro h k;rw [Fh];refine Ck (GG (h x (CD ..))) ?_;cases k with
     | zero=>exact Cm _
     | succ k=>exact m (λs n=>h s (CQ _ n)) k
  have:=Ck (a k) (c S sS k);rwa [Int.sub_add_cancel] at this
 ·exact z
structure RC (r o:dF) (g:de):Prop where
 lz:Lz g
 left:MQ (co g) r
 right:MQ (co g) o
 qi:QI r o (co g)
def Gen.rc {R O g:de} (G:Gen (co R) (co O) g):RC (co R) (co O) g:=
 ⟨G.lz,G.mq _ R (AM _) (QI.left _ _),G.mq _ O (AM _) (QI.right _ _),G.qi⟩
def zK {r o:dF} {g h:de} (G:RC r o g) (b:Lz h) (f:MQ (co h) r) (m:MQ (co h) o) (J:g.length<=h.length):RC r o h:=by
 refine ⟨b,f,m,G.qi.of_MQ ?_⟩;obtain ⟨d,A,T,p⟩:=MQ.of_QI f m G.qi;rcases Dp T with z | ⟨B,c,_,C⟩
 ·exfalso;have:d*co g (g.length - 1)=0:=by rw [p,Bw,Fl h z]
  rcases Int.mul_eq_zero.mp this with e | e
  ·exact A e
  ·exact G.lz.2 e
 ·have q:∀ k,d*co g k=cvL B (co h) k:=λk=>by rw [p,Bw,BC (λj=>(C j).symm) h k,<-Bw]
  have u:=c.1;have K:=b.1;have v:B≠[]:=λz=>by rw [z] at u;simp at u
  obtain ⟨X,t,a⟩:∃ X t,B=X++[t]:=⟨B.dropLast,B.getLast v,(GJ v).symm⟩;have D:X.length=B.length - 1:=by rw [a];simp
  have w:co B (B.length - 1)=t:=by rw [<-D,a];unfold co;simp [AT]
  have one:B.length=1:=by
   rcases Am 1 B.length with y | y
   ·exfalso;have e:=q (B.length - 1+(h.length - 1));rw [Af ⋯,a,DN,<-a,Ej (n:=h.length) (λi E=>Af E) X _ ⋯] at e;unfold Au at e;rw [mF ⋯,show B.length - 1+(h.length - 1) - X.length=h.length - 1 by omega] at e;have F:t*co h (h.length - 1)=0:=by omega
    rcases Int.mul_eq_zero.mp F with x | x
    ·exact c.2 (w.trans x)
    ·exact b.2 x
   ·omega
  have H:X=[]:=B6.mp ⋯;have I:t≠0:=λz=>c.2 (w.trans z);refine ⟨t,I,[d],λk=>?_⟩;have e:=q k;rw [a,H] at e;cases k with
  | zero=>rw [At];rw [show ([]++[t]:de)=[t] from rfl,At] at e;omega
  | succ k=>rw [Ak,A5];rw [show ([]++[t]:de)=[t] from rfl,Ak,A5] at e;omega
def Prim (g:de):Prop:=∀ c:Int,(∀ k,c∣co g k)->c.natAbs=1
def Prim.top {g:de} (P:Prim g) {p:Nat} (hp:2<=p):∃ n,¬ (p:Int)∣co g n/\∀ i,n<i->(p:Int)∣co g i:=by
 have a:∀ n,(∀ i,n<=i->(p:Int)∣co g i)->(∀ i,(p:Int)∣co g i)\/∃ n,¬ (p:Int)∣co g n/\∀ i,n<i->(p:Int)∣co g i:=by
  intro n
  induction n with
  | zero=>intro h;exact .inl λi=>h i (Ab i)
  | succ n d=>
    intro h;by_cases c:(p:Int)∣co g n
    ·exact d λi b=>by
      by_cases e:i=n
      ·rw [e];exact c
      ·exact h i ⋯
    ·exact .inr ⟨n,c,λi b=>h i ⋯⟩
 rcases a g.length (λi b=>by rw [Af b];exact Cm _) with h | h
 ·have:=P (p:Int) h;omega
 ·exact h
def T_ {g:de} (P:Prim g) {f:dF} (m:MQ (co g) f):∃ A:de,∀ k,f k=cvL A (co g) k:=by
 obtain ⟨c,u,A,b⟩:=m
 have i:∀ (m:Nat) (c:Int) (A:de),c.natAbs<=m->c≠0->(∀ k,c*f k=cvL A (co g) k)->∃ A:de,∀ k,f k=cvL A (co g) k:=by
  intro m
  induction m with
  | zero=>intro c A h o;omega
  | succ m v=>
    intro c A h o b;by_cases q:c.natAbs=1
    ·rcases Int.natAbs_eq c with e | e
     ·exact ⟨A,λk=>by rw [<-b k,e,q];omega⟩
     ·exact ⟨A.map (-1*·),λk=>by rw [A6,<-b k,e,q];omega⟩
    ·obtain ⟨p,hp,w,_⟩:=QT (m:=c.natAbs) ⋯;have r:(p:Int)∣c:=Cw.mp (by rw [Cl];exact w);obtain ⟨n,n0,n1⟩:=P.top hp.two;have x:∀ a∈A,(p:Int)∣a:=KD hp n0 n1 A λk _=>by rw [<-b k];exact GG r
     obtain ⟨d,rfl⟩:=r;have y:=hp.two;have j:d≠0:=λz=>o (by rw [z];omega)
     have B:A=(A.map (·/ (p:Int))).map ((p:Int)*·):=by
      rw [List.map_map]
      conv=>lhs;rw [<-List.map_id A]
      refine EQ λa C=>?_;show a=(p:Int)*(a / (p:Int));rw [GK (x a C)]
     refine v d (A.map (·/ (p:Int))) ?_ j λk=>?_
     ·rw [BN,Cl] at h;have D:0<d.natAbs:=by omega
      have:=BW d.natAbs y;omega
     ·have e:=b k;rw [B,A6,Int.mul_assoc] at e;exact Int.eq_of_mul_eq_mul_left ⋯ e
 exact i _ c A (AM _) u b
noncomputable def evI:de->Int->Int
 | [],_=>0
 | a::l,x=>a+x*evI l x
theorem KF:∀ (l:de) (x:Int),(∀ k,co l k=0)->evI l x=0
 | [],_,_=>rfl
 | a::l,x,h=>by
   have b:a=0:=h 0;show a+x*evI l x=0;rw [b,KF l x λk=>h (k+1)];omega
theorem Mm:∀ (a b:de) (x:Int),(∀ k,co a k=co b k)->evI a x=evI b x
 | [],b,x,h=>(KF b x λk=>(h k).symm).symm
 | a::l,[],x,h=>KF (a::l) x h
 | a::l,b::m,x,h=>by
   have c:a=b:=h 0;show a+x*evI l x=b+x*evI m x;rw [c,Mm l m x λk=>h (k+1)]
theorem QY:∀ (a b:de) (x:Int),evI (Aw a b) x=evI a x+evI b x
 | [],b,x=>by show evI b x=0+evI b x;omega
 | a::l,[],x=>by rw [KC];show _=_+0;omega
 | a::l,b::m,x=>by
   show (a+b)+x*evI (Aw l m) x=a+x*evI l x+(b+x*evI m x);rw [QY l m x];ext
theorem QZ (c:Int):∀ (a:de) (x:Int),evI (a.map (c*·)) x=c*evI a x
 | [],x=>by show (0:Int)=c*0;omega
 | a::l,x=>by
   show c*a+x*evI (l.map (c*·)) x=c*(a+x*evI l x);rw [QZ c l x];ext
theorem Qa:∀ (a b:de) (x:Int),evI (BS a b) x=evI a x*evI b x
 | [],b,x=>by show (0:Int)=0*_;omega
 | a::l,b,x=>by
   show evI (Aw (b.map (a*·)) (0::BS l b)) x=(a+x*evI l x)*evI b x;rw [QY,QZ];show a*evI b x+(0+x*evI (BS l b) x)=_;rw [Qa l b x];ext
def zM (a b:de) (k:Nat):co (BS a b) k=cvL a (co b) k:=by
 rw [Cp,Bv];exact BC (λj=>(Cp b j).symm) a k
def zN {r a g:de} (h:∀ k,co r k=cvL a (co g) k) (x:Int):evI r x=evI a x*evI g x:=by
 rw [<-Qa];exact Mm r (BS a g) x λk=>by rw [zM];exact h k
theorem Qb {b c:Nat} {x:Int} (d:Bd c x):∀ (l:de),(∀ z∈l,Bd b z)->Bd (b+l.length*(c+1)) (evI l x)
 | [],_=>C3 _
 | a::l,f=>by
   show Bd _ (a+x*evI l x);have g:=f a (CD ..);have h:=d.mul (Qb d l λz i=>f z (CQ _ i));have e:(l.length+1)*(c+1)=l.length*(c+1)+(c+1):=by rw [Cy,Nat.one_mul]
   refine ((g.mono (n:=c+(b+l.length*(c+1))) ⋯).add h).mono ?_;rw [B7,e];omega
noncomputable def af:de->Int->de
 | [],_=>[]
 | _::l,t=>evI l t::af l t
theorem KG:∀ (l:de) (t:Int),(af l t).length=l.length
 | [],_=>rfl
 | _::l,t=>congrArg (·+1) (KG l t)
theorem Mn:∀ (l:de) (t x:Int),evI l x - evI l t=(x - t)*evI (af l t) x
 | [],t,x=>by show (0:Int) - 0=_*0;omega
 | a::l,t,x=>by
   show a+x*evI l x - (a+t*evI l t)=(x - t)*(evI l t+x*evI (af l t) x);have:=Mn l t x;ext
theorem KH:∀ (l:de) (t:Int) (k:Nat),co l k=(if k=0 then evI l t else co (af l t) (k - 1)) - t*co (af l t) k
 | [],t,k=>by
   rw [show co (af [] t) k=0 from Af (Ab _),show co (af [] t) (k - 1)=0 from Af (Ab _),Af (Ab _)];show 0=(if k=0 then 0 else 0) - _;split <;> omega
 | a::l,t,0=>by
   show a=a+t*evI l t - t*evI l t;omega
 | a::l,t,k+1=>by
   have:=KH l t k;show co l k=(if k+1=0 then _ else co (evI l t::af l t) (k+1 - 1)) - t*co (af l t) k;rw [mE ⋯,this];cases k with
   | zero=>rfl
   | succ k=>rw [mE ⋯];rfl
theorem zQ (l:de) (t:Int):co (af l t) (l.length - 1)=0:=by
 induction l with
 | nil=>exact Af (Ab _)
 | cons a l b=>
   show co (evI l t::af l t) l.length=0;cases h:l.length with
   | zero=>rw [B6.mp h];rfl
   | succ m=>rw [h] at b;exact b
theorem aQ {c:Nat}:∀ (d:Nat) (l:de) (y:Nat) (x:dF),(∀ k,d<k->co l k=0)->(∀ i,i<=d->Bd c (x i))->(∀ i j,i<=d->j<=d->i≠j->x i≠x j)->(∀ i,i<=d->Bd y (evI l (x i)))->∀ k,Bd (y+d*(c+3)) (co l k)
 | 0,l,y,x,m,_,_,f,k=>by
   cases k with
   | zero=>
     have e:evI l (x 0)=co l 0:=by
      cases l with
      | nil=>rfl
      | cons a l=>
        show a+x 0*evI l (x 0)=a;rw [KF l (x 0) λk=>m (k+1) ⋯];omega
     have:=f 0 (AM 0);rw [e] at this;exact this.mono ⋯
   | succ k=>rw [m (k+1) ⋯];exact C3 _
 | d+1,l,y,x,m,q,r,f,k=>by
   have v:∀ j,d<j->co (af l (x (d+1))) j=0:=by
    have g:∀ n,∀ j,d<j->l.length<=j+n->co (af l (x (d+1))) j=0:=by
     intro n
     induction n with
     | zero=>intro j _ h;exact Af (by rw [KG];omega)
     | succ n o=>
       intro j p h;have e:=KH l (x (d+1)) (j+1);rw [m (j+1) ⋯,mE ⋯,o (j+1) ⋯ ⋯] at e;rw [show j+1 - 1=j by omega] at e;omega
    intro j p;exact g l.length j p ⋯
   have o:=aQ d (af l (x (d+1))) (y+1) x v (λi u=>q i ⋯) (λi j u p=>r i j ⋯ ⋯) (λi u=>by
    have e:=Mn l (x (d+1)) (x i);have C:x i - x (d+1)≠0:=λz=>r i (d+1) ⋯ ⋯ ⋯ ⋯;have b:=(f i ⋯).sub (f (d+1) ⋯);rw [e] at b;refine b.le ?_;rw [BN];exact HE _ ⋯)
   have e:=KH l (x (d+1)) k;rw [e];have w:=q (d+1) (AM _);have A:=w.mul (o k);have em:(d+1)*(c+3)=d*(c+3)+(c+3):=by rw [Cy,Nat.one_mul]
   have B:Bd (c+(y+1+d*(c+3))) (if k=0 then evI l (x (d+1)) else co (af l (x (d+1))) (k - 1)):=by
    split
    ·exact (f (d+1) (AM _)).mono ⋯
    ·exact (o (k - 1)).mono ⋯
   exact (B.sub A).mono ⋯
end Bs
namespace Bs
open PySem L2
def isN (H:Hp) (v:V) (q:Nu):Prop:=∃ p,v=.ref p/\H p=some (.tup [.int q.1,.int q.2])
noncomputable def Nums (H:Hp):d7->cW->Prop
 | [],[]=>True
 | x::a,q::l=>isN H x q/\Nums H a l
 | _,_=>False
def Tp (H c:Hp):Prop:=∀ b a,H b=some (.tup a)->c b=some (.tup a)
def M_ {H a:Hp} (s:Same H a):Tp H a:=λb c h=>s b _ h
def Tp.trans {H d e:Hp} (a:Tp H d) (b:Tp d e):Tp H e:=λc f h=>b c f (a c f h)
def Kp.tp {p:Addr} {H a:Hp} {xs:d7} (k:Kp p H a) (h:H p=some (.lst xs)):Tp H a:=λb c q=>k b _ (Vf q h (by intro z;cases z)) q
def Tp.updL {p:Addr} {H:Hp} {xs ys:d7} (h:H p=some (.lst xs)):Tp H (upd H p (.lst ys)):=Kp.tp Kp.upd h
def isN.tp {H a:Hp} {v:V} {q:Nu} (h:isN H v q) (t:Tp H a):isN a v q:=let ⟨p,e,z⟩:=h;⟨p,e,t _ _ z⟩
theorem Nums.tp {H a:Hp} (t:Tp H a):∀ {xs:d7} {l:cW},Nums H xs l->Nums a xs l
 | [],[],_=>trivial
 | _::_,_::_,h=>⟨h.1.tp t,Nums.tp t h.2⟩
 | [],_::_,h=>h.elim
 | _::_,[],h=>h.elim
theorem Nums.length {H:Hp}:∀ {xs:d7} {l:cW},Nums H xs l->xs.length=l.length
 | [],[],_=>rfl
 | _::_,_::_,h=>congrArg (·+1) (Nums.length h.2)
 | [],_::_,h=>h.elim
 | _::_,[],h=>h.elim
theorem Nums.get {H:Hp}:∀ {xs:d7} {l:cW} {i:Nat} {v:V},Nums H xs l->xs[i]?=some v->∃ q,l[i]?=some q/\isN H v q
 | [],[],_,_,_,e=>by simp at e
 | _::_,q::_,0,_,h,e=>by simp at e;subst e;exact ⟨q,rfl,h.1⟩
 | _::_,_::_,i+1,_,h,e=>by
   obtain ⟨q,a,b⟩:=Nums.get (i:=i) h.2 (by simpa using e);exact ⟨q,by simpa using a,b⟩
 | [],_::_,_,_,h,_=>h.elim
 | _::_,[],_,_,h,_=>h.elim
def Nums.at {H:Hp} {xs:d7} {l:cW} {i:Nat} (h:Nums H xs l) (b:i<l.length) (d:Nu):∃ v,xs[i]?=some v/\isN H v (l.getD i d):=by
 have a:i<xs.length:=by rw [h.length];exact b
 obtain ⟨q,c,e⟩:=h.get (Ax a);refine ⟨_,Ax a,?_⟩;rw [AT,c];exact e
theorem Nums.append {H:Hp}:∀ {xs ys:d7} {l m:cW},Nums H xs l->Nums H ys m->Nums H (xs++ys) (l++m)
 | [],_,[],_,_,h=>h
 | _::_,_,_::_,_,h,a=>⟨h.1,Nums.append h.2 a⟩
 | [],_,_::_,_,h,_=>h.elim
 | _::_,_,[],_,h,_=>h.elim
def Nums.one {H:Hp} {v:V} {q:Nu} (h:isN H v q):Nums H [v] [q]:=⟨h,trivial⟩
theorem Nums.take {H:Hp}:∀ {xs:d7} {l:cW} (n:Nat),Nums H xs l->Nums H (xs.take n) (l.take n)
 | [],[],n,_=>by simp [Nums]
 | _::_,_::_,0,_=>trivial
 | _::_,_::_,n+1,h=>⟨h.1,Nums.take n h.2⟩
 | [],_::_,_,h=>h.elim
 | _::_,[],_,h=>h.elim
theorem Nums.set {H:Hp} {v:V} {q:Nu} (a:isN H v q):∀ {xs:d7} {l:cW} (i:Nat),Nums H xs l->Nums H (xs.set i v) (l.set i q)
 | [],[],_,_=>trivial
 | _::_,_::_,0,h=>⟨a,h.2⟩
 | _::_,_::_,i+1,h=>⟨h.1,Nums.set a i h.2⟩
 | [],_::_,_,h=>h.elim
 | _::_,[],_,h=>h.elim
theorem Nums.rep {H:Hp} {v:V} {q:Nu} (a:isN H v q):∀ n:Nat,Nums H (List.replicate n v) (List.replicate n q)
 | 0=>trivial
 | n+1=>⟨a,Nums.rep a n⟩
theorem HW {a:Type} (v:a):∀ n:Nat,(List.replicate n [v]).flatten=List.replicate n v
 | 0=>rfl
 | n+1=>by rw [GE,List.flatten_cons,HW v n];rfl
def DW {a:Type} {xs:List a} {i:Int} {j:Nat} {v:a} (e:i=(j:Int)) (h:xs[j]?=some v):N_ xs i=some v:=by subst e;exact IK h
def HX {H:Hp} {p:Addr} {q:Nu}:isN (upd H p (.tup [.int q.1,.int q.2])) (.ref p) q:=⟨p,rfl,upd_same⟩
def Mo {xs:d7} {m:Nat} (h:m<=xs.length):Bu xs none (some (m:Int))=xs.take m:=by
 unfold Bu HT.sIx;simp only [List.drop_zero,Cu,DA];rw [mE ⋯,Nat.min_eq_left h]
def Fm (H:Hp) (Q:VK) (l:cW):Prop:=∀ (r:Addr) (b:d7) (a:Hp),Same H a->a r=some (.tup b)->Nums a b l->Q (.ref r) a
noncomputable def Fn (q:Nu):W.Dat:=.tuple [.int q.1,.int q.2]
noncomputable def Fo (l:cW):W.Dat:=.tuple (l.map Fn)
def Mp {H:Hp} {v:V} {q:Nu} (h:isN H v q):RepD H v (Fn q):=by
 obtain ⟨p,rfl,hp⟩:=h;exact .tup hp (.cons (.int _) (.cons (.int _) .nil))
theorem Qc {H:Hp}:∀ {xs:d7} {l:cW},Nums H xs l->RepA H xs (l.map Fn)
 | [],[],_=>.nil
 | _::_,_::_,h=>.cons (Mp h.1) (Qc h.2)
 | [],_::_,h=>h.elim
 | _::_,[],h=>h.elim
def KI {H:Hp} {p:Addr} {xs:d7} {l:cW} (hp:H p=some (.tup xs)) (h:Nums H xs l):RepD H (.ref p) (Fo l):=.tup hp (Qc h)
def okN (q:Nu) (n:Nat):W.kqdOk (n+1) (Fn q)=true:=by simp [Fn,W.kqdOk]
def okP (l:cW) (n:Nat):W.kqdOk (n+2) (Fo l)=true:=by
 simp only [Fo,W.kqdOk,List.all_map,FQ,Function.comp];intro q _;exact okN q n
section
variable {σ:L2.St} {H:Hp} {Q:VK} {D:Ends} {rest:TS} {sp:Sp} {E:XK}
def AU {i:Nat} {v:V} (a:σ[i]?=some (some v)) (h:Q v H):AA i σ H Q:=⟨v,a,h⟩
def Bm {i:Nat} {k:Int} {a:Addr} {xs:d7} {v:V} (b:σ[i]?=some (some (.ref a))) (c:H a=some (.tup xs)) (d:N_ xs k=some v) (h:Q v H):A_ gT (AA i) (tC (.int k)) σ H Q:=⟨_,b,a,k,xs,v,rfl,rfl,c,d,h⟩
def Qe {i:Nat} {k:Int} {a:Addr} {xs:d7} {v:V} (b:σ[i]?=some (some (.ref a))) (c:H a=some (.lst xs)) (d:N_ xs k=some v) (h:Q v H):A_ gL (AA i) (tC (.int k)) σ H Q:=⟨_,b,a,k,xs,v,rfl,rfl,c,d,h⟩
def Qf {a:TE} {k:Nat} (h:a σ H λx b=>sp [x] b (λv c=>rest D (σ.set k (some v)) c) E):AH (AN (AE sp [] E (AB a AC)) (AF k)) rest D σ H:=h
def FD {a b:TE} {k:Nat} (h:a σ H λx c=>b σ c λy d=>sp [x,y] d (λv e=>rest D (σ.set k (some v)) e) E):AH (AN (AE sp [] E (AB a (AB b AC))) (AF k)) rest D σ H:=h
def CH {a:TE} (h:a σ H λx b=>sp [x] b Q E):AE sp [] E (AB a AC) σ H Q:=h
def Ag {a b:TE} (h:a σ H λx c=>b σ c λy d=>sp [x,y] d Q E):AE sp [] E (AB a (AB b AC)) σ H Q:=h
def Fr {a b tc:TE} (h:a σ H λx c=>b σ c λy d=>tc σ d λz e=>sp [x,y,z] e Q E):AE sp [] E (AB a (AB b (AB tc AC))) σ H Q:=h
def BJ {a:TE} {k:Nat} (h:a σ H λx b=>rest D (σ.set k (some x)) b):AH (AN a (AF k)) rest D σ H:=h
def CA {a:TE} (h:a σ H D.rt):AY a D σ H:=h
def Ij {a:TE} (h:a σ H λx b=>[x].length<=sizeLine/\∀ p,b p=none->Q (.ref p) (upd b p (.tup [x]))):Ay (AB a AC) σ H Q:=h
def Cf {a b:TE} (h:a σ H λx d=>b σ d λy c=>[x,y].length<=sizeLine/\∀ p,c p=none->Q (.ref p) (upd c p (.tup [x,y]))):Ay (AB a (AB b AC)) σ H Q:=h
def KJ {a:TE} (h:a σ H λx b=>[x].length<=sizeLine/\∀ p,b p=none->Q (.ref p) (upd b p (.lst [x]))):Bj (AB a AC) σ H Q:=h
def Qg {a b:TE} (h:a σ H λx d=>b σ d λy c=>[x,y].length<=sizeLine/\∀ p,c p=none->Q (.ref p) (upd c p (.lst [x,y]))):Bj (AB a (AB b AC)) σ H Q:=h
def O' {v:V} (h:Q v H):tC v σ H Q:=h
def Bc {r:R2} {a b:TE} (h:a σ H λx c=>b σ c λy d=>r x y d Q):A_ r a b σ H Q:=h
def HY {k:Int} {a:Addr} {xs:d7} {v:V} (b:H a=some (.lst xs)) (c:N_ xs k=some v) (h:Q v H):gL (.ref a) (.int k) H Q:=⟨a,k,xs,v,rfl,rfl,b,c,h⟩
def Dq {b:d7->Hp->VK->Prop} {a:TE} (h:a σ H λx c=>b [x] c Q):G_ b (AB a AC) σ H Q:=h
def Qh {a:TA} {g:TG} {b:TS} (h:a σ H (λc d=>∃ i j:Int,c=[.int i,.int j,.int (-1)]/\(-(2 ^ 62)<=i/\i<2 ^ 62/\-(2 ^ 62)<=j/\j<2 ^ 62)/\ForJ (cg i (i - j).toNat) g b { D with nx:=rest D } σ d)):AH (BT (HP a) g b) rest D σ H:=h
def zS {a:TE} {g:TG} (h:a σ H λx b=>g x σ b (rest D)):AH (AN a g) rest D σ H:=h
def zV {c d tc e f:TE} (h:c σ H λx g=>d σ g λy i=>tc σ i λz j=>e σ j λa k=>f σ k λb m=>sp [x,y,z,a,b] m Q E):AE sp [] E (AB c (AB d (AB tc (AB e (AB f AC))))) σ H Q:=h
def zW {i:Nat} {v:V} {σ:L2.St} {H:Hp} {Q:L2.St->Hp->Prop} (h:Q (σ.set i (some v)) H):AF i v σ H Q:=h
def zX {K:W.Frag} {b:TE} {capt:List (Option Nat)} {g:TG} {c:TE} {σ:L2.St} {H:Hp} {Q:VK} (h:b σ H (λx d=>∃ a,x=.ref a/\(∃ e,SqT K d a e)/\CompJ (aE K a) capt g c σ Q d)):BY (DH K b) capt g c σ H Q:=h
def KK {a:TE} {k:Nat} {D:Ends} {σ:L2.St} {H:Hp} (h:a σ H λx b=>D.nx (σ.set k (some x)) b):AN a (AF k) D σ H:=h
def HZ {c:TT} {t u:TS} (h:c σ H λb a=>if b=true then t { D with nx:=rest D } σ a else u { D with nx:=rest D } σ a):AH (BH c t u) rest D σ H:=h
def Hb {a:TE} {Q:Bool->Hp->Prop} (h:a σ H λx b=>∃ k,x=.bl k/\Q k b):Az a σ H Q:=h
def Ca {x:V}:[x].length<=sizeLine:=by show 1<=_;exact sz ∅
def Bx {x y:V}:[x,y].length<=sizeLine:=by show 2<=_;exact sz ∅
def Gh {x y z:V}:[x,y,z].length<=sizeLine:=by show 3<=_;exact sz ∅
theorem Mq {H:Hp} {a x y:Addr} {A X Y:HO} {P:Hp->Prop} (g:H a=none) (i:upd H a A x=none) (d:upd (upd H a A) x X y=none) (k:∀ b,b a=some A->b y=some Y->Same H b->a≠y->H y=none->P b):P (upd (upd (upd H a A) x X) y Y):=by
 have f:=AR g A;have c:=AR i X;have sy:=AR d Y;refine k _ (sy _ _ (c _ _ upd_same)) upd_same (λz o h=>sy z o (c z o (f z o h))) (Bi (c _ _ upd_same) d) ?_;cases e:H y with
 | none=>rfl
 | some o=>have:=c _ _ (f _ _ e);rw [d] at this;cases this
def zY {d H:Hp} {t w:Addr} {X:HO} {g ys:d7} {P:Hp->Prop} (e:H t=none) (f:H w=some (.lst g)) (i:d w=none) (s:Same d H) (k:∀ a,Same d a->a w=some (.lst ys)->a t=some X->Tp H a->(∀ c o,c≠w->H c=some o->a c=some o)->P a):P (upd (upd H t X) w (.lst ys)):=by
 have st:=AR e X;exact k _ (λb o h=>Kp.upd b o (Bi h i) (st b o (s b o h))) upd_same (Kp.upd _ _ (Bi f e).symm upd_same) (λb o h=>Tp.updL (st _ _ f) b o (st _ _ h)) λc o n h=>Kp.upd c o n (st _ _ h)
end
end Bs
set_option maxHeartbeats 4000000
namespace Bs
open PySem L2
theorem KL {g:dH} {n:Nat} (h:∀ i,n<i->g i=0):∀ (a:List Rat) (k:Nat),a.length+n<=k->cvL a g k=0
 | [],_,_=>rfl
 | x::a,0,hk=>absurd hk (by rw [B7];omega)
 | x::a,k+1,hk=>by
   rw [B7] at hk;rw [Ak,h (k+1) ⋯,KL h a k ⋯];ext
theorem Qi {g:dH} {n:Nat} (j:g n≠0) (h:∀ i,n<i->g i=0) (S:List Rat):(∀ k,n<=k->cvL S g k=0)->∀ s∈S,s=0:=by
 induction hl:S.length generalizing S with
 | zero=>intro _ s b;rw [B6.mp hl] at b;exact nomatch b
 | succ m o=>
   intro hk;have e:S≠[]:=λz=>by rw [z] at hl;simp at hl
   obtain ⟨T,t,rfl⟩:∃ T t,S=T++[t]:=⟨S.dropLast,S.getLast e,(GJ e).symm⟩
   have f:t=0:=by
    have a:=hk (T.length+n) ⋯;rw [DN,KL h T _ (AM _)] at a;unfold Au at a;rw [mF ⋯,show T.length+n - T.length=n by omega] at a;have p:t*g n=0:=by ext
    rcases D6.mp p with z | z
    ·exact z
    ·exact absurd z j
   have c:=o T (by simpa using hl) (λk d=>by
    have a:=hk k d;rw [DN,f] at a;ext)
   intro s b;rcases Er.mp b with h | h
   ·exact c s h
   ·rw [CC.mp h];exact f
theorem Mr {g:dH}:∀ (S:List Rat),(∀ s∈S,s=0)->∀ k,cvL S g k=0
 | [],_,_=>rfl
 | x::S,h,0=>by rw [At,h x (CD ..)];ext
 | x::S,h,k+1=>by rw [Ak,h x (CD ..),Mr S (λs a=>h s (CQ _ a)) k];ext
def Ms {G:dH} {n:Nat} (a:G n≠0) (b:∀ i,n<i->G i=0) {A B:List Rat} (h:∀ k,cvL A G k=cvL B G k) (g:dH) (k:Nat):cvL A g k=cvL B g k:=by
 have z:=Mr (g:=g) (Aw A (B.map ((-1:Rat)*·))) (Qi a b _ λk _=>by rw [Bb,A6,h k];ext) k;rw [Bb,A6] at z;ext
structure Sr where
 c:dH
def Sr.ext' {f g:Sr} (h:∀ k,f.c k=g.c k):f=g:=by
 cases f;cases g;congr;exact funext h
noncomputable def tr (n:Nat) (f:dH):List Rat:=(List.range n).map f
def Gi (n:Nat) (f:dH) (k:Nat):(tr n f).getD k 0=if k<n then f k else 0:=by
 unfold tr;rw [AT,Aj];by_cases h:k<n
 ·rw [DD h,mF h];rfl
 ·rw [mE h,Bh (by rw [BD];omega)];rfl
theorem Ik:∀ (a b:List Rat) (g h:dH) (k:Nat),(∀ i,i<=k->a.getD i 0=b.getD i 0)->(∀ i,i<=k->g i=h i)->cvL a g k=cvL b h k:=by
 intro a
 induction a with
 | nil=>
   intro b
   induction b with
   | nil=>intro g h k _ _;rfl
   | cons y b j=>
     intro g h k c e;have m:=c 0 (Ab _);simp at m;cases k with
     | zero=>rw [A5,At,<-m];ext
     | succ k=>
       rw [A5,Ak,<-m];have:=j g h k (λi f=>by have:=c (i+1) ⋯;simpa using this) (λi f=>e i ⋯);rw [A5] at this;ext
 | cons x a j=>
   intro b g h k c e;cases b with
   | nil=>
     have d:=c 0 (Ab _);simp at d;cases k with
     | zero=>rw [A5,At,d];ext
     | succ k=>
       rw [A5,Ak,d];have:=j [] g h k (λi f=>by have:=c (i+1) ⋯;simpa using this) (λi f=>e i ⋯);rw [A5] at this;ext
   | cons y b=>
     have d:=c 0 (Ab _);simp at d;cases k with
     | zero=>rw [At,At,d,e 0 (AM _)]
     | succ k=>
       rw [Ak,Ak,d,e _ (AM _),j b g h k (λi f=>by have:=c (i+1) ⋯;simpa using this) (λi f=>e i ⋯)]
namespace Sr
noncomputable def zero:Sr:=⟨λ_=>0⟩
noncomputable def one:Sr:=⟨Ai⟩
noncomputable def add (f g:Sr):Sr:=⟨λk=>f.c k+g.c k⟩
noncomputable def neg (f:Sr):Sr:=⟨λk=>- f.c k⟩
noncomputable def mul (f g:Sr):Sr:=⟨λk=>cvL (tr (k+1) f.c) g.c k⟩
noncomputable def num (x:Rat):Sr:=⟨λk=>x*Ai k⟩
def KM (f g:Sr) {n k:Nat} (h:k<n):(mul f g).c k=cvL (tr n f.c) g.c k:=by
 refine Ik _ _ _ _ _ (λi a=>?_) (λ_ _=>rfl);rw [Gi,Gi,mF ⋯,mF ⋯]
def Mt (f g:Sr) {n m k:Nat} (h:k<n) (h':k<m):(mul f g).c k=cvL (tr n f.c) (cvL (tr m g.c) Ai) k:=by
 rw [KM f g h];refine Ik _ _ _ _ _ (λ_ _=>rfl) (λi a=>?_);rw [Co,Gi,mF ⋯]
def mul_comm (f g:Sr):mul f g=mul g f:=ext' λk=>by
 rw [Mt f g (D3 k) (D3 k),Mt g f (D3 k) (D3 k),Ii]
def mul_assoc (f g h:Sr):mul (mul f g) h=mul f (mul g h):=ext' λk=>by
 rw [KM (mul f g) h (D3 k),KM f (mul g h) (D3 k)]
 have a:cvL (tr (k+1) (mul f g).c) h.c k=cvL (BS (tr (k+1) f.c) (tr (k+1) g.c)) h.c k:=by
  refine Ik _ _ _ _ _ (λi b=>?_) (λ_ _=>rfl);rw [Gi,mF ⋯,<-Co,Bv,Mt f g (n:=k+1) (m:=k+1) ⋯ ⋯]
 rw [a,Bv];exact Ik _ _ _ _ _ (λ_ _=>rfl) (λi b=>(KM g h ⋯).symm)
def mul_add (f g h:Sr):mul f (add g h)=add (mul f g) (mul f h):=ext' λk=>by
 show cvL (tr (k+1) f.c) (λk=>g.c k+h.c k) k=_;rw [HS];rfl
def mul_one (f:Sr):mul f one=f:=ext' λk=>by
 show cvL (tr (k+1) f.c) Ai k=_;rw [Co,Gi,mF (D3 k)]
def mul_zero (f:Sr):mul f zero=zero:=ext' λk=>by
 show cvL (tr (k+1) f.c) (λ_=>0) k=0;have:=C4 (0:Rat) (λ_=>0) (tr (k+1) f.c) k;rw [show (λk:Nat=>(0:Rat)*(λ_=>(0:Rat)) k)=λ_=>0 from funext λ_=>by grind] at this;rw [this];ext
noncomputable def cj (f:Sr):Nat->Sr
 | 0=>one
 | n+1=>mul (cj f n) f
noncomputable instance:Add Sr:=⟨add⟩
noncomputable instance:Mul Sr:=⟨mul⟩
noncomputable instance:Neg Sr:=⟨neg⟩
noncomputable instance:Sub Sr:=⟨λf g=>add f (neg g)⟩
noncomputable instance:NatCast Sr:=⟨λn=>num (n:Rat)⟩
noncomputable instance:IntCast Sr:=⟨λn=>num (n:Rat)⟩
noncomputable instance (n:Nat):OfNat Sr n:=⟨num (n:Rat)⟩
noncomputable instance:Pow Sr Nat:=⟨cj⟩
noncomputable instance:SMul Nat Sr:=⟨λn f=>mul (num (n:Rat)) f⟩
noncomputable instance:SMul Int Sr:=⟨λn f=>mul (num (n:Rat)) f⟩
def num0:num 0=zero:=ext' λk=>by show 0*Ai k=(0:Rat);ext
def num1:num 1=one:=ext' λk=>by show 1*Ai k=(Ai k:Rat);ext
def num_add (x y:Rat):num (x+y)=add (num x) (num y):=ext' λk=>by show (x+y)*Ai k=x*Ai k+y*Ai k;ext
def num_neg (x:Rat):num (-x)=neg (num x):=ext' λk=>by show (-x)*Ai k = -(x*Ai k);ext
def add_comm (f g:Sr):add f g=add g f:=ext' λk=>by show f.c k+g.c k=g.c k+f.c k;ext
def add_assoc (f g h:Sr):add (add f g) h=add f (add g h):=ext' λk=>by show f.c k+g.c k+h.c k=f.c k+(g.c k+h.c k);ext
def add_zero (f:Sr):add f zero=f:=ext' λk=>by show f.c k+0=f.c k;ext
def Mu (f:Sr):add (neg f) f=zero:=ext' λk=>by show -f.c k+f.c k=0;ext
def add_mul (f g h:Sr):mul (add f g) h=add (mul f h) (mul g h):=by rw [mul_comm,mul_add,mul_comm h f,mul_comm h g]
def neg_mul (f g:Sr):mul (neg f) g=neg (mul f g):=by
 have h:add (mul (neg f) g) (mul f g)=zero:=by rw [<-add_mul,Mu,mul_comm,mul_zero]
 have c:add (neg (mul f g)) (mul f g)=zero:=Mu _;refine ext' λk=>?_;have a:=mQ (congrArg Sr.c h) k;have b:=mQ (congrArg Sr.c c) k;have a:(mul (neg f) g).c k+(mul f g).c k=0:=a;have b:(neg (mul f g)).c k+(mul f g).c k=0:=b;ext
noncomputable instance:Lean.Grind.CommRing Sr where
 add_zero f:=(congrArg (add f) num0).trans (add_zero f)
 add_comm:=add_comm
 add_assoc:=add_assoc
 mul_assoc:=mul_assoc
 mul_comm:=mul_comm
 mul_one f:=(congrArg (mul f) num1).trans (mul_one f)
 one_mul f:=(congrArg (λz=>mul z f) num1).trans ((mul_comm _ _).trans (mul_one f))
 left_distrib:=mul_add
 right_distrib:=add_mul
 zero_mul f:=by show mul (num 0) f=num 0;rw [num0,mul_comm,mul_zero]
 mul_zero f:=by show mul f (num 0)=num 0;rw [num0,mul_zero]
 pow_zero f:=num1.symm
 pow_succ f n:=rfl
 ofNat_succ n:=by
  show num ((n+1:Nat):Rat)=add (num (n:Rat)) (num 1)
  rw [<-num_add];push_cast;rfl
 ofNat_eq_natCast n:=rfl
 nsmul_eq_natCast_mul n f:=rfl
 sub_eq_add_neg f g:=rfl
 neg_add_cancel f:=(Mu f).trans num0.symm
 intCast_neg n:=by show num ((-n:Int):Rat)=neg (num (n:Rat));rw [<-num_neg];push_cast;rfl
 intCast_ofNat n:=rfl
 neg_zsmul n f:=by show mul (num ((-n:Int):Rat)) f=neg (mul (num (n:Rat)) f);rw [show ((-n:Int):Rat) = -(n:Rat) by push_cast;rfl,num_neg,neg_mul]
 zsmul_natCast_eq_nsmul n f:=rfl
noncomputable def L (a:List Rat):Sr:=⟨cvL a Ai⟩
def L_mul (a:List Rat) (g:Sr):L a*g=⟨cvL a g.c⟩:=ext' λk=>by
 refine Ik _ _ _ _ _ (λi b=>?_) (λ_ _=>rfl);rw [Gi,mF ⋯];exact Co a i
def Bn (f:Sr) (n:Nat):Prop:=∀ k,n<=k->f.c k=0
def Bn.row {f:Sr} {n:Nat} (h:Bn f n):L (tr n f.c)=f:=ext' λk=>by
 show cvL (tr n f.c) Ai k=f.c k;rw [Co,Gi];by_cases hk:k<n
 ·rw [mF hk]
 ·rw [mE hk,h k ⋯]
def Pol (f:Sr):Prop:=∃ a,f=L a
def Pol.L (a:List Rat):Pol (L a):=⟨a,rfl⟩
def Bn.pol {f:Sr} {n:Nat} (h:Bn f n):Pol f:=⟨_,h.row.symm⟩
def zZ (a:List Rat):Bn (Sr.L a) a.length:=λk hk=>by
 show cvL a Ai k=0;rw [Co,AT,Bh hk];rfl
def Pol.bn {f:Sr} (h:Pol f):∃ n,Bn f n:=let ⟨a,e⟩:=h;⟨a.length,e ▸ zZ a⟩
def Pol.add {f g:Sr} (h:Pol f) (h':Pol g):Pol (f+g):=by
 obtain ⟨a,rfl⟩:=h;obtain ⟨b,rfl⟩:=h';exact ⟨Aw a b,ext' λk=>(Bb Ai a b k).symm⟩
def Pol.mul {f g:Sr} (h:Pol f) (h':Pol g):Pol (f*g):=by
 obtain ⟨a,rfl⟩:=h;obtain ⟨b,rfl⟩:=h';exact ⟨BS a b,by rw [L_mul];exact ext' λk=>(Bv Ai a b k).symm⟩
theorem Pol.num (x:Rat):Pol (num x):=⟨[x],ext' λk=>by
 show x*Ai k=cvL [x] Ai k;cases k with
 | zero=>rw [At];ext
 | succ k=>rw [Ak,A5];ext⟩
def Pol.nat (n:Nat):Pol (OfNat.ofNat n:Sr):=Pol.num (n:Rat)
def Pol.neg {f:Sr} (h:Pol f):Pol (-f):=by
 have e:-f=Sr.num (-1)*f:=by
  have:Sr.num (-1)=(-1:Sr):=num_neg 1;rw [this];ext
 rw [e];exact (Pol.num _).mul h
def Pol.sub {f g:Sr} (h:Pol f) (h':Pol g):Pol (f - g):=by
 have e:f - g=f + -g:=by ext
 rw [e];exact h.add h'.neg
theorem top_ex {f:Sr}:∀ n,Bn f n->f=0\/∃ m,m<n/\f.c m≠0/\Bn f (m+1)
 | 0,h=>.inl (ext' λk=>by rw [h k (Ab _)];show 0=((0:Nat):Rat)*Ai k;push_cast;ext)
 | n+1,h=>by
   by_cases z:f.c n=0
   ·rcases top_ex n (λk hk=>by rcases Nat.eq_or_lt_of_le hk with e | e;exact e ▸ z;exact h k e) with q | ⟨m,c,a,b⟩
    ·exact .inl q
    ·exact .inr ⟨m,⋯,a,b⟩
   ·exact .inr ⟨n,⋯,z,h⟩
def zero_c (k:Nat):(0:Sr).c k=0:=by show ((0:Nat):Rat)*Ai k=0;push_cast;ext
def cancel {f g h:Sr} (c:Pol f) (d:Pol g) (j:Pol h) (o:h≠0) (e:f*h=g*h):f=g:=by
 obtain ⟨a,rfl⟩:=c;obtain ⟨b,rfl⟩:=d;obtain ⟨n,p⟩:=j.bn;rcases top_ex n p with z | ⟨m,_,q,r⟩
 ·exact absurd z o
 rw [L_mul,L_mul] at e;exact ext' λk=>Ms q (λi u=>r i u) (λk=>mQ (congrArg Sr.c e) k) Ai k
def ne_mul {f g:Sr} (a:Pol f) (b:Pol g) (c:f≠0) (d:g≠0):f*g≠0:=λe=>c (cancel a (Pol.nat 0) b d (by rw [e];ext))
noncomputable def X (n:Nat):Sr:=L (List.replicate n 0++[1])
def X_mul (n:Nat) (g:Sr) (k:Nat):(X n*g).c k=if n<=k then g.c (k - n) else 0:=by
 unfold X;rw [L_mul];show cvL (List.replicate n 0++[1]) g.c k=_;rw [HV];unfold Au;by_cases h:n<=k
 ·rw [mF h,mF h];cases k - n with
  | zero=>rw [At];ext
  | succ k=>rw [Ak,A5];ext
 ·rw [mE h,mE h]
theorem num_mul (x:Rat) (g:Sr) (k:Nat):(num x*g).c k=x*g.c k:=by
 have:num x=L [x]:=ext' λk=>by
  show x*Ai k=cvL [x] Ai k;cases k with
  | zero=>rw [At];ext
  | succ k=>rw [Ak,A5];ext
 rw [this,L_mul];show cvL [x] g.c k=_;cases k with
 | zero=>rw [At];ext
 | succ k=>rw [Ak,A5];ext
noncomputable def D (f:Sr):Sr:=⟨λk=>((k:Rat)+1)*f.c (k+1)⟩
theorem L_cons (x:Rat) (a:List Rat):L (x::a)=num x+X 1*L a:=ext' λk=>by
 show cvL (x::a) Ai k=x*Ai k+(X 1*L a).c k;rw [X_mul,Fh];cases k with
 | zero=>rw [mE ⋯];rfl
 | succ k=>rw [mF ⋯];rfl
def L_nil:L []=0:=ext' λk=>by rw [zero_c];rfl
def Cs (f g:Sr):Prop:=∃ U W,Pol U/\Pol W/\U*f+W*g=1
def Cs.comm {f g:Sr} (h:Cs f g):Cs g f:=let ⟨U,W,a,b,e⟩:=h;⟨W,U,b,a,()⟩
def Cs.mul {f g h:Sr} (p:Pol f) (j:Pol g) (k:Cs f g) (m:Cs f h):Cs f (g*h):=by
 obtain ⟨U,W,n,i,e⟩:=k;obtain ⟨a,b,c,d,o⟩:=m;refine ⟨U+W*a*g,W*b,n.add ((i.mul c).mul j),i.mul d,?_⟩;have:(U+W*a*g)*f+W*b*(g*h)=U*f+W*g*(a*f+b*h):=by ext
 rw [this,o,<-e];ext
def Cs.dvd {f w g a:Sr} (h:Cs f w) (b:Pol a) (e:w=a*g):Cs f g:=by
 obtain ⟨U,W,c,d,q⟩:=h;exact ⟨U,W*a,c,d.mul b,by rw [e] at q;ext⟩
def Cs.one {f:Sr}:Cs f 1:=⟨0,1,Pol.nat 0,Pol.nat 1,()⟩
def Cs.add {f g z c:Sr} (h:Cs f g) (pc:Pol c) (e:z=f+c*g):Cs z g:=by
 obtain ⟨U,W,a,b,q⟩:=h;exact ⟨U,W - U*c,a,b.sub (a.mul pc),by rw [e];ext⟩
def one_ne:(1:Sr)≠0:=λh=>by
 have:=mQ (congrArg Sr.c h) 0;rw [zero_c] at this;have this:((1:Nat):Rat)*Ai 0=0:=this;have e:(Ai 0:Rat)=1:=rfl;rw [e] at this;push_cast at this;ext
theorem Qj {b:dH} {d:Nat} (h:∀ k,d<k->b k=0):∀ (a:List Rat) (k:Nat),d+a.length<=k->cvL a b k=0
 | [],_,_=>rfl
 | x::a,0,hk=>by simp at hk
 | x::a,k+1,hk=>by
   rw [Ak,Qj h a k (by simp at hk;omega),h (k+1) (by simp at hk;omega)];ext
def top_mul {f g:Sr} {m n:Nat} (b:Bn f (m+1)) (h:Bn g (n+1)):(f*g).c (m+n)=f.c m*g.c n/\Bn (f*g) (m+n+1):=by
 have c:∀ (a:List Rat) (k:Nat),n+a.length<=k->cvL a g.c k=0:=Qj λk hk=>h k hk;rw [<-b.row,L_mul];refine ⟨?_,λk hk=>c _ k (by unfold tr;rw [AO,BD];omega)⟩;show cvL (tr (m+1) f.c) g.c (m+n)=_;have e:tr (m+1) f.c=tr m f.c++[f.c m]:=by unfold tr;rw [List.range_succ,D4];rfl
 have d:(tr m f.c).length=m:=by unfold tr;rw [AO,BD]
 rw [e,DN,c (tr m f.c) _ (by rw [d];omega),d];unfold Au;rw [mF ⋯,show m+n - m=n by omega]
 have z:(L (tr m f.c++[f.c m])).c m=f.c m:=by
  rw [<-e];exact mQ (congrArg Sr.c b.row) m
 rw [z];ext
def Cs.of_unit {f g d U W:Sr} {x:Rat} (a:x≠0) (e:d=num x) (b:Pol U) (c:Pol W) (h:U*f+W*g=d):Cs f g:=by
 refine ⟨num (x⁻¹)*U,num (x⁻¹)*W,(Pol.num _).mul b,(Pol.num _).mul c,?_⟩
 have i:num (x⁻¹)*num x=1:=ext' λk=>by
  rw [num_mul];show x⁻¹*(x*Ai k)=_;have:x⁻¹*x=1:=Rat.inv_mul_cancel _ a;show _=((1:Nat):Rat)*Ai k;push_cast;ext
 rw [e] at h;ext
noncomputable def cmL (u:Sr):List Rat->Sr
 | []=>0
 | a::l=>num a+u*cmL u l
theorem cmL_zero (u:Sr):∀ l:List Rat,(∀ k,l.getD k 0=0)->cmL u l=0
 | [],_=>rfl
 | a::l,h=>by
   have b:a=0:=h 0;show num a+u*cmL u l=0;rw [b,cmL_zero u l λk=>by have:=h (k+1);rw [FT] at this;exact this,show num 0=(0:Sr) from num0'];ext
where num0':num 0=(0:Sr):=ext' λk=>by rw [zero_c];show (0:Rat)*Ai k=0;ext
theorem Qk (u:Sr):∀ a b:List Rat,(∀ k,a.getD k 0=b.getD k 0)->cmL u a=cmL u b
 | [],b,h=>(cmL_zero u b λk=>(h k).symm.trans (by simp)).symm
 | a::l,[],h=>cmL_zero u (a::l) λk=>(h k).trans (by simp)
 | a::l,b::m,h=>by
   have c:a=b:=h 0;show num a+u*cmL u l=num b+u*cmL u m;rw [c,Qk u l m λk=>by have:=h (k+1);rw [FT,FT] at this;exact this]
def Mv (a:List Rat) (k:Nat):(L a).c k=a.getD k 0:=Co a k
def Pol.ex {f:Sr} (h:Pol f):∃ a,Sr.L a=f:=let ⟨a,e⟩:=h;⟨a,e.symm⟩
open Classical in
noncomputable def cm (u f:Sr):Sr:=if h:∃ a,L a=f then cmL u h.choose else 0
def cm_L (u:Sr) (a:List Rat):cm u (L a)=cmL u a:=by
 have h:∃ b,L b=L a:=⟨a,rfl⟩;unfold cm;rw [dif_pos h];exact Qk u _ _ λk=>by rw [<-Mv,<-Mv,h.choose_spec]
theorem KN {u:Sr} (pu:Pol u):∀ l:List Rat,Pol (cmL u l)
 | []=>Pol.nat 0
 | a::l=>(Pol.num a).add (pu.mul (KN pu l))
def cm_pol {u f:Sr} (pu:Pol u) (b:Pol f):Pol (cm u f):=by
 obtain ⟨a,rfl⟩:=b.ex;rw [cm_L];exact KN pu a
noncomputable def bV:List Rat->List Rat->List Rat
 | [],b=>b
 | x::a,[]=>x::a
 | x::a,y::b=>(x+y)::bV a b
theorem Mw:∀ a b:List Rat,L (bV a b)=L a+L b
 | [],b=>by show L b=L []+L b;rw [L_nil];ext
 | x::a,[]=>by show L (x::a)=L (x::a)+L [];rw [L_nil];ext
 | x::a,y::b=>by
   show L ((x+y)::bV a b)=_;rw [L_cons,L_cons,L_cons,Mw a b,show num (x+y)=num x+num y from num_add x y];ext
theorem Mx (u:Sr):∀ a b:List Rat,cmL u (bV a b)=cmL u a+cmL u b
 | [],b=>by show cmL u b=0+cmL u b;ext
 | x::a,[]=>by show cmL u (x::a)=cmL u (x::a)+0;ext
 | x::a,y::b=>by
   show num (x+y)+u*cmL u (bV a b)=num x+u*cmL u a+(num y+u*cmL u b);rw [Mx u a b,show num (x+y)=num x+num y from num_add x y];ext
def cm_add {f g:Sr} (u:Sr) (c:Pol f) (d:Pol g):cm u (f+g)=cm u f+cm u g:=by
 obtain ⟨a,rfl⟩:=c.ex;obtain ⟨b,rfl⟩:=d.ex;rw [<-Mw,cm_L,cm_L,cm_L,Mx]
def Ql (x y:Rat):num x*num y=num (x*y):=ext' λk=>by
 rw [num_mul];show x*(y*Ai k)=x*y*Ai k;ext
theorem Qm (x:Rat):∀ a:List Rat,L (a.map (x*·))=num x*L a
 | []=>by show L []=_*L [];rw [L_nil];ext
 | y::a=>by
   show L ((x*y)::a.map (x*·))=_;rw [L_cons,L_cons,Qm x a,<-Ql];ext
theorem Qn (u:Sr) (x:Rat):∀ a:List Rat,cmL u (a.map (x*·))=num x*cmL u a
 | []=>by show (0:Sr)=num x*0;ext
 | y::a=>by
   show num (x*y)+u*cmL u (a.map (x*·))=num x*(num y+u*cmL u a);rw [Qn u x a,<-Ql];ext
theorem Qo (u:Sr) (b:List Rat):∀ a:List Rat,∃ c,L c=L a*L b/\cmL u c=cmL u a*cmL u b
 | []=>⟨[],by rw [L_nil];ext,by show (0:Sr)=0*_;ext⟩
 | x::a=>by
   obtain ⟨c,d,e⟩:=Qo u b a;refine ⟨bV (b.map (x*·)) (0::c),?_,?_⟩
   ·rw [Mw,Qm,L_cons,L_cons,d,show num 0=(0:Sr) from cmL_zero.num0'];ext
   ·rw [Mx,Qn];show num x*cmL u b+(num 0+u*cmL u c)=(num x+u*cmL u a)*cmL u b;rw [e,show num 0=(0:Sr) from cmL_zero.num0'];ext
def cm_mul {f g:Sr} (u:Sr) (d:Pol f) (e:Pol g):cm u (f*g)=cm u f*cm u g:=by
 obtain ⟨a,rfl⟩:=d.ex;obtain ⟨b,rfl⟩:=e.ex;obtain ⟨c,h,i⟩:=Qo u b a;rw [<-h,cm_L,cm_L,cm_L,i]
def cm_num (u:Sr) (x:Rat):cm u (num x)=num x:=by
 have e:L [x]=num x:=by rw [L_cons,L_nil];ext
 rw [<-e,cm_L];show num x+u*0=L [x];rw [e];ext
def cm_X (u:Sr):cm u (X 1)=u:=by
 have n0:num 0=(0:Sr):=cmL_zero.num0';have e:L [0,1]=X 1:=rfl;rw [<-e,cm_L];show num 0+u*(num 1+u*0)=u;rw [n0,show num 1=(1:Sr) from num1'.trans rfl];ext
where num1':num 1=(1:Sr):=congrArg num (show (1:Rat)=((1:Nat):Rat) by push_cast;rfl)
theorem cm_cm {u v f:Sr} (pv:Pol v) (b:Pol f):cm u (cm v f)=cm (cm u v) f:=by
 obtain ⟨a,rfl⟩:=b.ex;rw [cm_L,cm_L];clear b
 induction a with
 | nil=>
   show cm u 0=0;have:cm u (L [])=cmL u []:=cm_L u [];rw [L_nil] at this;exact this
 | cons x a c=>
   show cm u (num x+v*cmL v a)=num x+cm u v*cmL (cm u v) a;rw [cm_add u (Pol.num x) (pv.mul (KN pv a)),cm_num,cm_mul u pv (KN pv a),c]
theorem cm_id {f:Sr} (b:Pol f):cm (X 1) f=f:=by
 obtain ⟨a,rfl⟩:=b.ex;rw [cm_L];clear b
 induction a with
 | nil=>exact L_nil.symm
 | cons x a c=>show num x+X 1*cmL (X 1) a=_;rw [c,<-L_cons]
noncomputable def st (n i:Nat) (f:Sr):Sr:=⟨λk=>f.c (i+k*n)⟩
def Qp (n i:Nat) (f g:Sr):st n i (f+g)=st n i f+st n i g:=rfl
def st_num (n i:Nat) (x:Rat) (f:Sr):st n i (num x*f)=num x*st n i f:=ext' λk=>by rw [num_mul];show (num x*f).c (i+k*n)=x*f.c (i+k*n);rw [num_mul]
theorem yA {n:Nat} (n0:0<n) (i:Nat) (a:i<n) (f:Sr):st n i (X n*f)=X 1*st n i f:=ext' λk=>by
 rw [X_mul];show (X n*f).c (i+k*n)=_;rw [X_mul];cases k with
 | zero=>rw [mE ⋯,mE ⋯]
 | succ k=>
   rw [mF (by rw [Nat.succ_mul];omega),mF ⋯];show f.c (i+(k+1)*n - n)=f.c (i+(k+1 - 1)*n);rw [Nat.succ_mul,show i+(k*n+n) - n=i+(k+1 - 1)*n by rw [Ew];omega]
theorem st_sp {n i:Nat} (n0:0<n) (c:i<n) (f:Sr) {h:Sr} (b:Pol h):st n i (f*cm (X n) h)=st n i f*h:=by
 obtain ⟨a,rfl⟩:=b.ex;rw [cm_L];clear b
 induction a generalizing f with
 | nil=>
   show st n i (f*0)=_;rw [L_nil,show f*0=num 0*f by rw [show num 0=(0:Sr) from cmL_zero.num0'];ext,st_num,show num 0=(0:Sr) from cmL_zero.num0'];ext
 | cons x a d=>
   show st n i (f*(num x+X n*cmL (X n) a))=_;rw [show f*(num x+X n*cmL (X n) a)=num x*f+X n*(f*cmL (X n) a) by ext,Qp,st_num,yA n0 i c,d,L_cons];ext
def st_pol {n i:Nat} (n0:0<n) {f:Sr} (a:Pol f):Pol (st n i f):=by
 obtain ⟨m,b⟩:=a.bn;exact Bn.pol (n:=m) λk hk=>b _ (by have:=CS k (show 1<=n by omega);omega)
noncomputable def sm (f:Nat->Sr):Nat->Sr
 | 0=>0
 | n+1=>sm f n+f n
def st_one {n:Nat} (n0:0<n) {i j:Nat} (b:i<n) (d:j<n):st n i (X j)=if i=j then 1 else 0:=ext' λk=>by
 have e:X j=X j*1:=by ext
 show (X j).c (i+k*n)=_;rw [e,X_mul]
 have o:∀ m:Nat,(1:Sr).c m=if m=0 then 1 else 0:=λm=>by
  show ((1:Nat):Rat)*Ai m=_;cases m with
  | zero=>show ((1:Nat):Rat)*1=_;rw [mF rfl];push_cast;ext
  | succ m=>show ((1:Nat):Rat)*0=_;rw [mE ⋯];ext
 by_cases h:i=j
 ·rw [mF h,o k,h,mF ⋯,o,show j+k*n - j=k*n by omega];by_cases a:k=0
  ·rw [mF a,a,mF ⋯]
  ·rw [mE a,mE (λz=>by rcases Nat.mul_eq_zero.mp z with y | y <;> omega)]
 ·rw [mE h,zero_c];by_cases c:j<=i+k*n
  ·rw [mF c,o,mE (λz=>by
    have:i+k*n=j:=by omega
    cases k with
    | zero=>omega
    | succ k=>rw [Nat.succ_mul] at this;omega)]
  ·rw [mE c]
def sp_c {n:Nat} (n0:0<n) {f:Sr} (b:Pol f) (k:Nat):(cm (X n) f).c k=if k % n=0 then f.c (k / n) else 0:=by
 have h:=Nat.mod_add_div k n;have a:=Nat.mod_lt k n0;have e:=st_sp (i:=k % n) n0 a 1 b;rw [show (1:Sr)*cm (X n) f=cm (X n) f by grind] at e
 have d:(st n (k % n) (cm (X n) f)).c (k / n)=(cm (X n) f).c k:=by
  show (cm (X n) f).c (k % n+k / n*n)=_;rw [B5,h]
 have g:st n (k % n) (1:Sr)=if k % n=0 then 1 else 0:=by
  have:=st_one n0 a n0
  rw [show X 0=(1:Sr) from ext' λk=>by
   rw [show X 0=X 0*1 by ext,X_mul,mF (Ab _),Cu]] at this
  exact this
 rw [<-d,e,g];by_cases c:k % n=0
 ·rw [mF c,mF c,show (1:Sr)*f=f by grind]
 ·rw [mE c,mE c,show (0:Sr)*f=0 by ext,zero_c]
def Xs_c {n j:Nat} (n0:0<n) {f:Sr} (a:Pol f) (b:j<n) (k:Nat):(X j*cm (X n) f).c k=if k % n=j then f.c (k / n) else 0:=by
 rw [X_mul];by_cases c:j<=k
 ·rw [mF c,sp_c n0 a];have h:=Nat.mod_add_div k n;have i:=Nat.mod_lt k n0;by_cases d:k % n=j
  ·have e:k - j=n*(k / n):=by omega
   rw [mF d,e,Nat.mul_mod_right,mF rfl,Nat.mul_div_cancel_left _ n0]
  ·rw [mE d,mE λz=>d ?_];have g:=Nat.mod_add_div (k - j) n;rw [z] at g;have:k=j+n*((k - j) / n):=by omega
   rw [this,Nat.add_mul_mod_self_left,D5 b]
 ·rw [mE c,mE λz=>c (by rw [<-z];exact Nat.mod_le k n)]
def parts_all {n:Nat} (n0:0<n) {f:Sr} (b:Pol f):f=sm (λj=>X j*cm (X n) (st n j f)) n:=ext' λk=>by
 have e:=Nat.mod_lt k n0
 have a:∀ m,m<=n->(sm (λj=>X j*cm (X n) (st n j f)) m).c k=if k % n<m then f.c k else 0:=λm=>by
  induction m with
  | zero=>intro _;rw [mE ⋯];exact zero_c k
  | succ m g=>
    intro h;show (sm _ m).c k+(X m*cm (X n) (st n m f)).c k=_;rw [g ⋯,Xs_c n0 (st_pol n0 b) ⋯];by_cases c:k % n=m
    ·rw [mE ⋯,mF c,mF ⋯];show 0+f.c (m+k / n*n)=f.c k;rw [show m+k / n*n=k by have:=Nat.mod_add_div k n;rw [B5] at this;omega];ext
    ·rw [mE c];by_cases d:k % n<m
     ·rw [mF d,mF ⋯];ext
     ·rw [mE d,mE ⋯];ext
 rw [a n (AM _),mF e]
end Sr
namespace Sr
theorem str_c (c:Rat) {f:Sr} (b:Pol f) (k:Nat):(cm (num c*X 1) f).c k=c ^ k*f.c k:=by
 obtain ⟨a,rfl⟩:=b.ex;rw [cm_L,Mv];clear b
 induction a generalizing k with
 | nil=>rw [show cmL (num c*X 1) []=0 from rfl,zero_c];show (0:Rat)=c ^ k*0;ext
 | cons x a d=>
   show (num x).c k+(num c*X 1*cmL (num c*X 1) a).c k=_;rw [show num c*X 1*cmL (num c*X 1) a=num c*(X 1*cmL (num c*X 1) a) by ext,num_mul,X_mul];cases k with
   | zero=>rw [mE ⋯,Rat.pow_zero];show x*1+c*0=1*x;ext
   | succ k=>rw [mF ⋯,Ew,d,FT,D7];show x*0+_=_;ext
noncomputable abbrev tn (f:Sr):Sr:=cm (num (-1)*X 1) f
def pu:Pol (num (-1)*X 1):=(Pol.num _).mul ⟨_,rfl⟩
def tn_pol {f:Sr} (a:Pol f):Pol (tn f):=cm_pol pu a
theorem Qq:∀ k:Nat,(-1:Rat) ^ k*(-1:Rat) ^ k=1
 | 0=>by rw [Rat.pow_zero];ext
 | k+1=>by have:=Qq k;rw [D7];ext
def Qs {f:Sr} (a:Pol f):tn (tn f)=f:=ext' λk=>by
 rw [str_c _ (tn_pol a),str_c _ a];have:=Qq k;ext
theorem yB (k:Nat):(-1:Rat) ^ (1+k*2) = -1:=by
 induction k with
 | zero=>rw [show 1+0*2=0+1 by omega,D7,Rat.pow_zero];ext
 | succ k a=>rw [show 1+(k+1)*2=1+k*2+1+1 by omega,D7,D7,a];ext
def tn_ne {f:Sr} (a:Pol f) (b:f≠0):tn f≠0:=λz=>b (by
 rw [<-Qs a,z];exact ext' λk=>by rw [str_c _ (Pol.nat 0),zero_c];ext)
def yC {g:Sr} (a:Pol g) (h:tn g=g):g=cm (X 2) (st 2 0 g):=by
 have o:st 2 1 g=0:=ext' λk=>by
  rw [zero_c];show g.c (1+k*2)=0;have:=mQ (congrArg Sr.c h) (1+k*2);rw [str_c _ a,yB] at this;ext
 have e:=parts_all (n:=2) ∅ a
 have z:cm (X 2) 0=0:=by
  have:=cm_L (X 2) [];rw [L_nil] at this;exact this
 have b:X 0=(1:Sr):=ext' λk=>by rw [show X 0=X 0*1 by ext,X_mul,mF (Ab _),Cu]
 have c:sm (λj=>X j*cm (X 2) (st 2 j g)) 2=cm (X 2) (st 2 0 g):=by
  show (0+X 0*cm (X 2) (st 2 0 g))+X 1*cm (X 2) (st 2 1 g)=_;rw [o,z,b];ext
 exact e.trans c
def roots2 {f:Sr} (a:Pol f):f*tn f=cm (X 2) (st 2 0 (f*tn f)):=yC (a.mul (tn_pol a)) (by
 show cm (num (-1)*X 1) (f*tn f)=_;rw [cm_mul _ a (tn_pol a),show cm (num (-1)*X 1) (tn f)=f from Qs a];ext)
def X_add (m n:Nat):X m*X n=X (m+n):=ext' λk=>by
 have e:∀ j:Nat,X j=X j*1:=λj=>by ext
 rw [X_mul,e n,e (m+n),X_mul,X_mul];by_cases c:m<=k
 ·rw [mF c];by_cases d:n<=k - m
  ·rw [mF d,mF ⋯,show k - m - n=k - (m+n) by omega]
  ·rw [mE d,mE ⋯]
 ·rw [mE c,mE ⋯]
def pXn (n:Nat):Pol (X n):=⟨_,rfl⟩
theorem KO (n:Nat):∀ m:Nat,cm (X n) (X m)=X (m*n)
 | 0=>by
   have a:X 0=(1:Sr):=ext' λk=>by rw [show X 0=X 0*1 by ext,X_mul,mF (Ab _),Cu]
   rw [Nat.zero_mul,a,show (1:Sr)=num 1 from cm_X.num1'.symm,cm_num]
 | m+1=>by rw [<-X_add m 1,cm_mul _ (pXn m) (pXn 1),KO n m,cm_X,X_add,Nat.succ_mul]
def roots4 {f:Sr} (b:Pol f):f*(tn f*cm (X 2) (tn (st 2 0 (f*tn f))))=cm (X 4) (st 2 0 (st 2 0 (f*tn f)*tn (st 2 0 (f*tn f)))):=by
 have a:Pol (st 2 0 (f*tn f)):=st_pol ∅ (b.mul (tn_pol b));have e:=roots2 b;have c:=roots2 a;rw [show f*(tn f*cm (X 2) (tn (st 2 0 (f*tn f))))=f*tn f*cm (X 2) (tn (st 2 0 (f*tn f))) by grind]
 have d:f*tn f*cm (X 2) (tn (st 2 0 (f*tn f)))=cm (X 2) (st 2 0 (f*tn f)*tn (st 2 0 (f*tn f))):=by
  rw [cm_mul _ a (tn_pol a),<-e]
 rw [d];have g:cm (X 2) (st 2 0 (f*tn f)*tn (st 2 0 (f*tn f)))=cm (X 2) (cm (X 2) (st 2 0 (st 2 0 (f*tn f)*tn (st 2 0 (f*tn f))))):=congrArg _ c;rw [g,cm_cm (pXn 2) (st_pol ∅ (a.mul (tn_pol a))),KO]
def yD (a b c:Sr):(a+b+c)*(a*a+b*b+c*c - a*b - a*c - b*c)=a*a*a+b*b*b+c*c*c - 3*(a*b*c):=by ext
def roots3 {f:Sr} (m:Pol f) (A B C:Sr) (q:A=cm (X 3) (st 3 0 f)) (w:B=X 1*cm (X 3) (st 3 1 f)) (z:C=X 2*cm (X 3) (st 3 2 f)):f=A+B+C/\∃ h,Pol h/\f*(A*A+B*B+C*C - A*B - A*C - B*C)=cm (X 3) h:=by
 have F:X 0=(1:Sr):=ext' λk=>by rw [show X 0=X 0*1 by ext,X_mul,mF (Ab _),Cu]
 have D:f=A+B+C:=by
  have e:=parts_all (n:=3) ∅ m
  have G:sm (λj=>X j*cm (X 3) (st 3 j f)) 3=A+B+C:=by
   show 0+X 0*cm (X 3) (st 3 0 f)+X 1*cm (X 3) (st 3 1 f)+X 2*cm (X 3) (st 3 2 f)=_;rw [q,w,z,F];ext
  exact e.trans G
 have g:=st_pol (n:=3) (i:=0) ∅ m;have d:=st_pol (n:=3) (i:=1) ∅ m;have pc:=st_pol (n:=3) (i:=2) ∅ m;refine ⟨D,st 3 0 f*st 3 0 f*st 3 0 f+X 1*(st 3 1 f*st 3 1 f*st 3 1 f)+X 2*(st 3 2 f*st 3 2 f*st 3 2 f) - num 3*(X 1*(st 3 0 f*st 3 1 f*st 3 2 f)),?_,?_⟩
 ·exact ((((g.mul g).mul g).add ((pXn 1).mul ((d.mul d).mul d))).add ((pXn 2).mul ((pc.mul pc).mul pc))).sub ((Pol.num 3).mul ((pXn 1).mul ((g.mul d).mul pc)))
 ·have H:∀ {u v:Sr},Pol u->Pol v->cm (X 3) (u - v)=cm (X 3) u - cm (X 3) v:=λ{u v} I E=>by
   have n1:num (-1)=(-1:Sr):=by
    have h:=num_add (-1) 1;rw [show (-1:Rat)+1=0 by grind] at h;have o:num 0=num (-1)+num 1:=h;rw [cmL_zero.num0',cm_X.num1'] at o;ext
   rw [show u - v=u+num (-1)*v by rw [n1];ext,cm_add _ I ((Pol.num _).mul E),cm_mul _ (Pol.num _) E,cm_num,n1];ext
  have J:num 3=(3:Sr):=by
   have K:num (1+1)=num 1+num 1:=num_add 1 1;have o:num (1+1+1)=num (1+1)+num 1:=num_add (1+1) 1;rw [show (1:Rat)+1+1=3 by ext,K,cm_X.num1'] at o;rw [o];ext
  have L:f*(A*A+B*B+C*C - A*B - A*C - B*C)=A*A*A+B*B*B+C*C*C - 3*(A*B*C):=by
   rw [<-yD];exact congrArg (·*(A*A+B*B+C*C - A*B - A*C - B*C)) D
  rw [L,H ((((g.mul g).mul g).add ((pXn 1).mul ((d.mul d).mul d))).add ((pXn 2).mul ((pc.mul pc).mul pc))) ((Pol.num 3).mul ((pXn 1).mul ((g.mul d).mul pc))),
   cm_add _ (((g.mul g).mul g).add ((pXn 1).mul ((d.mul d).mul d))) ((pXn 2).mul ((pc.mul pc).mul pc)),cm_add _ ((g.mul g).mul g) ((pXn 1).mul ((d.mul d).mul d)),
   cm_mul _ (g.mul g) g,cm_mul _ g g,cm_mul _ (pXn 1) ((d.mul d).mul d),cm_mul _ (d.mul d) d,cm_mul _ d d,cm_mul _ (pXn 2) ((pc.mul pc).mul pc),cm_mul _ (pc.mul pc) pc,cm_mul _ pc pc,
   cm_mul _ (Pol.num 3) ((pXn 1).mul ((g.mul d).mul pc)),cm_mul _ (pXn 1) ((g.mul d).mul pc),cm_mul _ (g.mul d) pc,cm_mul _ g d,cm_num,KO,KO,J,q,w,z]
  have M:X (1*3)=X 1*X 1*X 1:=by rw [X_add,X_add]
  have N:X (2*3)=X 2*X 2*X 2:=by rw [X_add,X_add]
  have p:X 1*X 2=X 1*X 1*X 1:=by rw [X_add,X_add,X_add]
  rw [M,N]
  have r:∀ a b c x y:Sr,x*y=x*x*x->a*a*a+x*b*(x*b)*(x*b)+y*c*(y*c)*(y*c) - 3*(a*(x*b)*(y*c))=a*a*a+x*x*x*(b*b*b)+y*y*y*(c*c*c) - 3*(x*x*x*(a*b*c)):=λa b c x y h=>by
   rw [<-h];ext
  exact r _ _ _ _ _ p
def sq3 {p q r:Sr} (hp:Pol p) (o:Pol q) (u:Pol r) (e:p*p+q*q+r*r=0):p=0/\q=0/\r=0:=by
 obtain ⟨a,v⟩:=hp.bn;obtain ⟨b,A⟩:=o.bn;obtain ⟨c,B⟩:=u.bn
 have n:∀ m,Bn p m->Bn q m->Bn r m->p=0/\q=0/\r=0:=λm=>by
  induction m with
  | zero=>intro f i j;exact ⟨ext' λk=>by rw [zero_c];exact f k (Ab _),ext' λk=>by rw [zero_c];exact i k (Ab _),ext' λk=>by rw [zero_c];exact j k (Ab _)⟩
  | succ m C=>
    intro f i j;have D:=(top_mul f f).1;have E:=(top_mul i i).1;have F:=(top_mul j j).1;have z:=mQ (congrArg Sr.c e) (m+m);rw [zero_c] at z;have G:(p*p).c (m+m)+(q*q).c (m+m)+(r*r).c (m+m)=0:=z;rw [D,E,F] at G
    have s:∀ x:Rat,0<=x*x:=λx=>by
     rcases Rat.le_total (a:=0) (b:=x) with h | h
     ·exact Rat.mul_nonneg h h
     ·have:x*x=(-x)*(-x):=by ext
      rw [this];exact Rat.mul_nonneg () ()
    have L:=s (p.c m);have M:=s (q.c m);have N:=s (r.c m);have H:p.c m*p.c m=0:=by ext
    have I:q.c m*q.c m=0:=by ext
    have J:r.c m*r.c m=0:=by ext
    have w:∀ {x:Rat},x*x=0->x=0:=λ{x} h=>by rcases D6.mp h with y | y <;> exact y
    have d:∀ {g:Sr},Bn g (m+1)->g.c m=0->Bn g m:=λ{g} h K k hk=>by
     rcases Am m k with c | c
     ·exact h k ⋯
     ·rw [show k=m by omega];exact K
    exact C (d f (w H)) (d i (w I)) (d j (w J))
 exact n (max a (max b c)) (λk hk=>v k ⋯) (λk hk=>A k ⋯) (λk hk=>B k ⋯)
def roots3_ne {f:Sr} (d:Pol f) (v:f≠0) (A B C:Sr) (g:A=cm (X 3) (st 3 0 f)) (e:B=X 1*cm (X 3) (st 3 1 f)) (h:C=X 2*cm (X 3) (st 3 2 f)):A*A+B*B+C*C - A*B - A*C - B*C≠0:=λz=>by
 have j:=st_pol (n:=3) (i:=0) ∅ d;have m:=st_pol (n:=3) (i:=1) ∅ d;have pc:=st_pol (n:=3) (i:=2) ∅ d;have o:Pol A:=by rw [g];exact cm_pol (pXn 3) j
 have p:Pol B:=by rw [e];exact (pXn 1).mul (cm_pol (pXn 3) m)
 have q:Pol C:=by rw [h];exact (pXn 2).mul (cm_pol (pXn 3) pc)
 have r:∀ a b c:Sr,(a - b)*(a - b)+(b - c)*(b - c)+(c - a)*(c - a)=2*(a*a+b*b+c*c - a*b - a*c - b*c):=λa b c=>by ext
 obtain ⟨w,x,_⟩:=sq3 (o.sub p) (p.sub q) (q.sub o) (by rw [r,z];ext)
 have u:A=B:=by have:A=A - B+B:=by ext
                rw [this,w];ext
 have y:B=C:=by have:B=B - C+C:=by ext
                rw [this,x];ext
 have D:=(roots3 d A B C g e h).1;have E:A=1*cm (X 3) (st 3 0 f):=by rw [g];ext
 have F:X 0=(1:Sr):=ext' λk=>by rw [show X 0=X 0*1 by ext,X_mul,mF (Ab _),Cu]
 have G:st 3 1 A=0:=by
  rw [E,st_sp ∅ ∅ 1 j,<-F,st_one ∅ ∅ ∅,mE ∅];ext
 have H:st 3 1 B=st 3 1 f:=by
  rw [e,st_sp ∅ ∅ (X 1) m,st_one ∅ ∅ ∅,mF rfl];ext
 have I:st 3 1 f=0:=by rw [<-H,<-u,G]
 have J:cm (X 3) 0=0:=by
  have:=cm_L (X 3) [];rw [L_nil] at this;exact this
 have K:B=0:=by rw [e,I,J];ext
 exact v (by rw [D,<-y,u,K];ext)
def n0:num 0=(0:Sr):=cmL_zero.num0'
def n1:num 1=(1:Sr):=cm_X.num1'
def n_1:num (-1)=(-1:Sr):=by
 have h:=num_add (-1) 1;rw [show (-1:Rat)+1=0 by grind] at h;have a:num 0=num (-1)+num 1:=h;rw [n0,n1] at a;ext
def Qt (u:Sr):cm u 1=1:=by rw [<-n1,cm_num]
def cm_zero (u:Sr):cm u 0=0:=by rw [<-n0,cm_num]
def cm_sub {f g:Sr} (u:Sr) (b:Pol f) (a:Pol g):cm u (f - g)=cm u f - cm u g:=by
 rw [show f - g=f+num (-1)*g by rw [n_1];ext,cm_add u b ((Pol.num _).mul a),cm_mul u (Pol.num _) a,cm_num,n_1];ext
def Cs.cm {f g u:Sr} (pu:Pol u) (c:Pol f) (d:Pol g) (h:Cs f g):Cs (Sr.cm u f) (Sr.cm u g):=by
 obtain ⟨U,W,a,b,e⟩:=h;refine ⟨Sr.cm u U,Sr.cm u W,cm_pol pu a,cm_pol pu b,?_⟩;rw [<-cm_mul u a c,<-cm_mul u b d,<-cm_add u (a.mul c) (b.mul d),e,Qt]
def st_zero (n i:Nat):st n i 0=0:=ext' λk=>by rw [zero_c];exact zero_c _
def cX_ne {n:Nat} (n0:0<n) {f:Sr} (b:Pol f) (c:f≠0):cm (X n) f≠0:=λz=>c (by
 have:=st_sp (i:=0) n0 n0 1 b;rw [show (1:Sr)*cm (X n) f=cm (X n) f by ext,z,st_zero] at this;have d:X 0=(1:Sr):=ext' λk=>by rw [show X 0=X 0*1 by ext,X_mul,mF (Ab _),Cu]
 have a:=st_one n0 n0 n0;rw [mF rfl,d] at a;rw [a] at this;rw [this];ext)
noncomputable def jD (q:Nat->Sr):Nat->Sr
 | 0=>1
 | i+1=>jD q i*q i
noncomputable def jN (p q:Nat->Sr):Nat->Sr
 | 0=>0
 | i+1=>jN p q i*q i+X i*p i*jD q i
theorem jD_pol {q:Nat->Sr} (h:∀ i,Pol (q i)):∀ n,Pol (jD q n)
 | 0=>Pol.nat 1
 | n+1=>(jD_pol h n).mul (h n)
theorem jD_ne {q:Nat->Sr} (h:∀ i,Pol (q i)):∀ n,(∀ i,i<n->q i≠0)->jD q n≠0
 | 0,_=>one_ne
 | n+1,a=>ne_mul (jD_pol h n) (h n) (jD_ne h n λi b=>a i ⋯) (a n ⋯)
theorem jN_pol {p q:Nat->Sr} (hp:∀ i,Pol (p i)) (h:∀ i,Pol (q i)):∀ n,Pol (jN p q n)
 | 0=>Pol.nat 0
 | n+1=>((jN_pol hp h n).mul (h n)).add (((pXn n).mul (hp n)).mul (jD_pol h n))
theorem jD_mul (q q':Nat->Sr):∀ n,jD (λi=>q i*q' i) n=jD q n*jD q' n
 | 0=>by show (1:Sr)=1*1;ext
 | n+1=>by
   show jD _ n*(q n*q' n)=jD q n*q n*(jD q' n*q' n);rw [jD_mul q q' n];ext
theorem j_congr {p q p' q':Nat->Sr}:∀ n,(∀ i,i<n->p i*q' i=p' i*q i)->jN p q n*jD q' n=jN p' q' n*jD q n
 | 0,_=>by show (0:Sr)*1=0*1;rfl
 | n+1,h=>by
   have a:=j_congr n λi c=>h i ⋯;have e:=h n ⋯;show (jN p q n*q n+X n*p n*jD q n)*(jD q' n*q' n)=(jN p' q' n*q' n+X n*p' n*jD q' n)*(jD q n*q n);have b:(jN p q n*q n+X n*p n*jD q n)*(jD q' n*q' n)=(jN p q n*jD q' n)*(q n*q' n)+X n*(jD q n*jD q' n)*(p n*q' n):=by ext
   rw [b,a,e];ext
theorem j_add (p q p' q':Nat->Sr):∀ n,jN (λi=>p i*q' i+p' i*q i) (λi=>q i*q' i) n=jN p q n*jD q' n+jN p' q' n*jD q n
 | 0=>by show (0:Sr)=0*1+0*1;ext
 | n+1=>by
   show jN _ _ n*(q n*q' n)+X n*(p n*q' n+p' n*q n)*jD (λi=>q i*q' i) n=(jN p q n*q n+X n*p n*jD q n)*(jD q' n*q' n)+(jN p' q' n*q' n+X n*p' n*jD q' n)*(jD q n*q n);rw [j_add p q p' q' n,jD_mul];ext
theorem jD_cm {n:Nat} {q:Nat->Sr} (a:∀ i,Pol (q i)):∀ m,jD (λi=>cm (X n) (q i)) m=cm (X n) (jD q m)
 | 0=>(Qt _).symm
 | m+1=>by
   show jD _ m*cm (X n) (q m)=cm (X n) (jD q m*q m);rw [jD_cm a m,cm_mul _ (jD_pol a m) (a m)]
theorem Qu {n:Nat} (n0:0<n) {p q:Nat->Sr} (hp:∀ i,Pol (p i)) (a:∀ i,Pol (q i)) {i:Nat} (b:i<n):∀ m,m<=n->(m<=i->st n i (jN (λi=>cm (X n) (p i)) (λi=>cm (X n) (q i)) m)=0)/\(i<m->st n i (jN (λi=>cm (X n) (p i)) (λi=>cm (X n) (q i)) m)*q i=p i*jD q m)
 | 0,_=>⟨λ_=>st_zero n i,λh=>absurd h ⋯⟩
 | m+1,k=>by
   obtain ⟨f,g⟩:=Qu n0 hp a b m ⋯
   have e:st n i (jN (λi=>cm (X n) (p i)) (λi=>cm (X n) (q i)) (m+1))=st n i (jN (λi=>cm (X n) (p i)) (λi=>cm (X n) (q i)) m)*q m+(if i=m then 1 else 0)*(p m*jD q m):=by
    show st n i (jN _ _ m*cm (X n) (q m)+X m*cm (X n) (p m)*jD (λi=>cm (X n) (q i)) m)=_;rw [Qp,st_sp n0 b _ (a m),jD_cm a m,show X m*cm (X n) (p m)*cm (X n) (jD q m)=X m*(cm (X n) (p m)*cm (X n) (jD q m)) by ext,<-cm_mul _ (hp m) (jD_pol a m),st_sp n0 b _ ((hp m).mul (jD_pol a m)),st_one n0 b ⋯]
   refine ⟨λc=>?_,λc=>?_⟩
   ·rw [e,f ⋯,mE ⋯];ext
   ·rw [e];by_cases d:i=m
    ·rw [mF d,f ⋯,d];show (0*q m+1*(p m*jD q m))*q m=p m*(jD q m*q m);ext
    ·rw [mE d];have:=g ⋯;show _=p i*(jD q m*q m);have j:(st n i (jN (λi=>cm (X n) (p i)) (λi=>cm (X n) (q i)) m)*q m+0*(p m*jD q m))*q i=st n i (jN (λi=>cm (X n) (p i)) (λi=>cm (X n) (q i)) m)*q i*q m:=by ext
     rw [j,this];ext
def parts_of {n:Nat} (n0:0<n) {p q:Nat->Sr} (hp:∀ i,Pol (p i)) (d:∀ i,Pol (q i)) (j:∀ i,i<n->q i≠0) {t b:Sr} (m:Pol t) (g:Pol b) (e:t*cm (X n) (jD q n)=jN (λi=>cm (X n) (p i)) (λi=>cm (X n) (q i)) n*cm (X n) b) {i:Nat} (f:i<n):st n i t*q i=p i*b:=by
 have h:=congrArg (st n i) e;rw [st_sp n0 f _ (jD_pol d n),st_sp n0 f _ g] at h;have k:=(Qu n0 hp d f n (AM _)).2 f;have o:=jD_ne d n j;refine cancel ((st_pol n0 m).mul (d i)) ((hp i).mul g) (jD_pol d n) o ?_;have r:st n i t*q i*jD q n=st n i t*jD q n*q i:=by ext
 rw [r,h];have u:∀ a b c:Sr,a*b*c=a*c*b:=λa b c=>by ext
 rw [u,k];ext
end Sr
noncomputable def evF (f:dH) (n:Nat) (x:Rat):dH
 | 0=>0
 | d+1=>f (n - 1 - d)+x*evF f n x d
theorem Il {f g:dH} {n:Nat} {x:Rat}:∀ d,d<=n->(∀ i,n - d<=i->i<n->f i=g i)->evF f n x d=evF g n x d
 | 0,_,_=>rfl
 | d+1,b,h=>by
   show f (n - 1 - d)+x*evF f n x d=g (n - 1 - d)+x*evF g n x d;rw [Il d ⋯ (λi c a=>h i ⋯ a),h (n - 1 - d) ⋯ ⋯]
theorem My {f:dH} {n:Nat} {x B:Rat}:∀ d,evF (λi=>f i / B) n x d=evF f n x d / B
 | 0=>(P' B).symm
 | d+1=>by
   show f (n - 1 - d) / B+x*evF (λi=>f i / B) n x d=(f (n - 1 - d)+x*evF f n x d) / B;rw [My d];ext
noncomputable def sy (c:Int) (R:dF) (n:Nat):dF
 | 0=>R (n - 1)
 | d+1=>R (n - 1 - (d+1))+c*sy c R n d
noncomputable def rnd (c:Int) (R:dF) (n first:Nat) (j:Nat):Int:=if j<first then R j else sy c R n (n - 1 - j)
noncomputable def R' (c:Int) (R:dF) (n:Nat):Nat->dF
 | 0=>R
 | i+1=>rnd c (R' c R n i) n i
def yE {c:Int} {R:dF} {n first:Nat} (h:first<n):rnd c R n first (n - 1)=R (n - 1):=by
 unfold rnd;rw [mE ⋯,show n - 1 - (n - 1)=0 by omega];rfl
theorem Qv {c:Int} {R:dF} {n:Nat}:∀ i,i<n->R' c R n i (n - 1)=R (n - 1)
 | 0,_=>rfl
 | i+1,h=>by
   show rnd c (R' c R n i) n i (n - 1)=_;rw [yE ⋯,Qv i ⋯]
end Bs
namespace Bs
open PySem
noncomputable def Gj (K:W.Frag):Addr:=match W.nsIn K PySem.mainGlobals "EXPONENTS" with | some (some (.ref a))=>a | _=>0
noncomputable def He (K:W.Frag):Addr:=match W.nsIn K PySem.mainGlobals "NOUGHT" with | some (some (.ref a))=>a | _=>0
end Bs
namespace Bs
open PySem L2
noncomputable def NuK (K:W.Frag) (H:Hp):d7->cW->Prop
 | [],[]=>True
 | v::a,q::l=>(∃ p,v=.ref p/\SqT K H p [.int q.1,.int q.2])/\NuK K H a l
 | _,_=>False
theorem NuK.of {K:W.Frag} {H:Hp}:∀ {xs:d7} {l:cW},Nums H xs l->NuK K H xs l
 | [],[],_=>trivial
 | [],_::_,h=>h.elim
 | _::_,[],h=>h.elim
 | _::_,_::_,h=>⟨let ⟨p,e,r⟩:=h.1;⟨p,e,SqT.of r⟩,NuK.of h.2⟩
theorem NuK.length {K:W.Frag} {H:Hp}:∀ {xs:d7} {l:cW},NuK K H xs l->xs.length=l.length
 | [],[],_=>rfl
 | [],_::_,h=>h.elim
 | _::_,[],h=>h.elim
 | _::_,_::_,h=>congrArg Nat.succ (NuK.length h.2)
theorem NuK.get {K:W.Frag} {H:Hp}:∀ {xs:d7} {l:cW} {i:Nat} {v:V},NuK K H xs l->xs[i]?=some v->∃ q,l[i]?=some q/\∃ p,v=.ref p/\SqT K H p [.int q.1,.int q.2]
 | [],[],_,_,_,e=>nomatch e
 | [],_::_,_,_,h,_=>h.elim
 | _::_,[],_,_,h,_=>h.elim
 | _::_,q::_,0,_,h,e=>⟨q,rfl,mO e ▸ h.1⟩
 | _::_,_::_,i+1,_,h,e=>NuK.get (i:=i) h.2 e
def _root_.L2.Same.sqT {K:W.Frag} {H b:Hp} {a:Addr} {xs:d7} (e:Same H b) (h:SqT K H a xs):SqT K b a xs:=by
 rcases h with (h | ⟨o,h⟩) | h
 ·exact .inl (.inl (e _ _ h))
 ·exact .inl (.inr ⟨o,e _ _ h⟩)
 ·exact .inr h
theorem NuK.same {K:W.Frag} {H a:Hp} (s:Same H a):∀ {xs:d7} {l:cW},NuK K H xs l->NuK K a xs l
 | [],[],_=>trivial
 | [],_::_,h=>h.elim
 | _::_,[],h=>h.elim
 | _::_,_::_,h=>⟨let ⟨p,e,r⟩:=h.1;⟨p,e,s.sqT r⟩,NuK.same s h.2⟩
abbrev Nm (H:Hp) (p:Addr) (t d:Int):Prop:=H p=some (.tup [.int t,.int d])
def Ek (_:W.Frag):Sp:=λc H Q _=>∃ a b:Int,c=[.int a,.int b]/\Q (.int ((Int.gcd a b:Nat):Int)) H
def KP (K:W.Frag):Sp:=λc H Q _=>∃ (a:Addr) (b:de),c=[.ref a]/\SqL K H a (b.map V.int)/\b.length<=63/\∀ d,Q (.bl true) d
def Gk (_:W.Frag):Sp:=λa H Q _=>∃ (x n:Int) (b:Nat),a=[.int x,.int n]/\0<=n/\Bd b x/\b*n.toNat+1<=200000/\Q (.int (x ^ n.toNat)) H
noncomputable def Ad (n:Nat) (f:dF):d7:=((List.range n).map f).map V.int
noncomputable def C5 (ns:de):Nat->Nat
 | 0=>0
 | m+1=>if ns.getD m 1=0 then C5 ns m else m+1
noncomputable def Cq (ns:de):de:=ns.take (C5 ns ns.length)
def Pl (H:Hp) (r:Addr) (L:cW):Prop:=∃ a,H r=some (.tup a)/\Nums H a L
def Hf (_:W.Frag):Sp:=λb H Q _=>∃ (p:Addr) (a:de),b=[.ref p]/\H p=some (.lst (a.map V.int))/\∀ r,H r=none->Q (.ref r) (upd H r (.lst ((Cq a).map V.int)))
def Tz (ns:de):Prop:=ns=[]\/co ns (ns.length - 1)≠0
noncomputable def SDs (H:Hp):d7->List (de)->Prop
 | [],[]=>True
 | x::a,r::b=>(∃ p,x=.ref p/\H p=some (.lst (r.map V.int)))/\SDs H a b
 | _,_=>False
def SD (H:Hp) (p:Addr) (b:List (de)):Prop:=∃ a,H p=some (.lst a)/\SDs H a b
def Im (_:W.Frag):Sp:=λc H Q _=>∃ (p:Addr) (a:de) (st:Int),c=[.ref p,.int st]/\H p=some (.lst (a.map V.int))/\a.length<=1000/\∀ (g:Int) (b:Hp),Same H b->0<=g->g∣st->(∀ z∈a,g∣z)->(∀ d:Int,d∣st->(∀ z∈a,d∣z)->d∣g)->Q (.int g) b
def Io (_:W.Frag):Sp:=λb H Q _=>∃ (p:Addr) (a:de) (g:Int),b=[.ref p,.int g]/\H p=some (.lst (a.map V.int))/\(0<g\/a=[])/\a.length<=1000/\∀ r,H r=none->Q (.ref r) (upd H r (.lst ((a.map (·/ g)).map V.int)))
def Ip (_:W.Frag):Sp:=λe H Q _=>∃ (p q:Addr) (a b:de) (f w:Int) (s:Nat),e=[.ref p,.int f,.ref q,.int w,.int (s:Int)]/\H p=some (.lst (a.map V.int))/\H q=some (.lst (b.map V.int))/\a.length<=1000/\s+b.length<=1000/\Bd 60000000 f/\Bd 60000000 w/\(∀ z∈a,Bd 60000000 z)/\(∀ z∈b,Bd 60000000 z)/\
 ∀ (r:Addr) (c:de) (d:Hp),Same H d->d r=some (.lst (c.map V.int))->Tz c->(∀ k,co c k=f*co a k - w*Au s (co b) k)->Q (.ref r) d
def Iq (_:W.Frag):Sp:=λg H Q _=>∃ (p q:Addr) (a c:de) (b d:Nat),g=[.ref p,.ref q]/\H p=some (.lst (a.map V.int))/\H q=some (.lst (c.map V.int))/\Lz c/\(∀ z∈a,Bd b z)/\(∀ z∈c,Bd d z)/\b+a.length*(d+1)<=60000000/\d<=60000000/\a.length<=1000/\c.length<=1000/\((¬ ∃ A:de,∀ k,co a k=cvL A (co c) k)->∀ e,Same H e->Q .non e)/\
 ∀ (r:Addr) (f:de) (e:Hp),Same H e->e r=some (.lst (f.map V.int))->(∀ k,co a k=cvL f (co c) k)->Q (.ref r) e
def Sh (b a:List (de)):Prop:=∃ g:Int,0<g/\b=a.map (·.map (g*·))
def yF (a:List (de)):Prop:=(∀ r∈a,r=[])\/∀ d:Int,(∀ r∈a,∀ z∈r,d∣z)->d.natAbs=1
def Ir (_:W.Frag):Sp:=λd H Q _=>∃ (p:Addr) (b:List (de)),d=[.ref p]/\SD H p b/\b.length<=1000/\(∀ r∈b,r.length<=1000/\Tz r)/\
 ∀ (t:Addr) (a:List (de)) (c:Hp),Same H c->SD c t a->Sh b a->yF a->Q (.ref t) c
def Hg (_:W.Frag):Sp:=λd H Q _=>∃ (p:Addr) (a:de),d=[.ref p]/\H p=some (.lst (a.map V.int))/\a.length<=1000/\Tz a/\
 ∀ (t:Addr) (b:de) (g:Int) (c:Hp),Same H c->c t=some (.lst (b.map V.int))->0<g->a=b.map (g*·)->(a=[]\/Prim b)->Q (.ref t) c
def KQ (_:W.Frag):Sp:=λb H Q _=>∃ (p q:Addr) (o:de),b=[.ref p,.ref q]/\SD H p [[]]/\SD H q [o]/\0<o.length/\∀ (t:Addr) (a:Hp),Same H a->SD a t [[]]->Q (.ref t) a
def Iu (_:W.Frag):Sp:=λb H Q _=>∃ (p q:Addr) (s o:de),b=[.ref p,.ref q]/\SD H p [s]/\SD H q [o]/\(s=[]\/o=[])/\∀ (t:Addr) (a:Hp),Same H a->SD a t [if o=[] then s else o]->Q (.ref t) a
def KR (_:W.Frag):Sp:=λb H Q _=>∃ a p:Int,b=[.int a,.int p]/\2<=p/\Bd 45000 p/\∀ r:Int,0<=r->r<p->(Int.gcd a p=1->p∣r*a - 1)->Q (.int r) H
def KS (_:W.Frag):Sp:=λb H Q _=>∃ (p:Addr) (a:de) (m:Int),b=[.ref p,.int m]/\H p=some (.lst (a.map V.int))/\0<m/\a.length<=1000/\∀ r,H r=none->Q (.ref r) (upd H r (.lst ((a.map (·% m)).map V.int)))
def Md (m:Int) (a:de) (f:dF):Prop:=(∀ z∈a,0<=z/\z<m)/\∀ k,m∣co a k - f k
def Hh (_:W.Frag):Sp:=λd H Q _=>∃ (p:Addr) (a:de) (m:Int),d=[.ref p,.int m]/\H p=some (.lst (a.map V.int))/\0<m/\a.length<=1000/\∀ (r:Addr) (b:de) (c:Hp),Same H c->c r=some (.lst (b.map V.int))->Tz b->b.length<=a.length->Md m b (co a)->Q (.ref r) c
def Hi (_:W.Frag):Sp:=λd H Q _=>∃ (q:Addr) (a:de) (p:Nat),d=[.ref q,.int (p:Int)]/\H q=some (.lst (a.map V.int))/\Pr p/\Bd 45000 (p:Int)/\a.length<=1000/\Tz a/\(∀ z∈a,0<=z/\z<(p:Int))/\
 ∀ (r:Addr) (b:de) (f:Int) (c:Hp),Same H c->c r=some (.lst (b.map V.int))->b.length=a.length->(a≠[]->co b (b.length - 1)=1)->Md (p:Int) b (λk=>f*co a k)->Q (.ref r) c
def KT (_:W.Frag):Sp:=λg H Q _=>∃ (p q:Addr) (f a:de) (m:Int) (b:Nat),g=[.ref p,.ref q,.int m]/\H p=some (.lst (f.map V.int))/\H q=some (.lst (a.map V.int))/\0<a.length/\co a (a.length - 1)=1/\0<m/\Bd b m/\(∀ z∈a,Bd b z)/\b<=60000000/\f.length<=1000/\a.length<=1000/\
 ∀ (t r s:Addr) (d e:de) (c:Hp),Same H c->c t=some (.tup [.ref r,.ref s])->c r=some (.lst (d.map V.int))->c s=some (.lst (e.map V.int))->Tz d->Tz e->e.length<a.length->Md m e (λk=>co f k - cvL d (co a) k)->(∀ z∈d,0<=z/\z<m)->Q (.ref t) c
def KU (_:W.Frag):Sp:=λf H Q _=>∃ (p q:Addr) (d a:de) (m:Int) (b:Nat),f=[.ref p,.ref q,.int m]/\H p=some (.lst (d.map V.int))/\H q=some (.lst (a.map V.int))/\0<a.length/\co a (a.length - 1)=1/\0<m/\Bd b m/\(∀ z∈a,Bd b z)/\b<=60000000/\d.length<=1000/\a.length<=1000/\
 ∀ (s:Addr) (g c:de) (e:Hp),Same H e->e s=some (.lst (c.map V.int))->Tz c->c.length<a.length->Md m c (λk=>co d k - cvL g (co a) k)->Q (.ref s) e
def KW (_:W.Frag):Sp:=λh H Q _=>∃ (a b:Addr) (d e:de) (p:Nat),h=[.ref a,.ref b,.int (p:Int)]/\H a=some (.lst (d.map V.int))/\H b=some (.lst (e.map V.int))/\Pr p/\Bd 45000 (p:Int)/\d.length<=1000/\e.length<=1000/\((∃ k,¬ (p:Int)∣co d k)\/∃ k,¬ (p:Int)∣co e k)/\
 ∀ (s:Addr) (c:de) (f:Hp),Same H f->f s=some (.lst (c.map V.int))->0<c.length->c.length<=1000->co c (c.length - 1)=1->(∀ z∈c,0<=z/\z<(p:Int))->(∀ g:dF,Dm (p:Int) g (co d)->Dm (p:Int) g (co e)->Dm (p:Int) g (co c))->Dm (p:Int) (co c) (co d)->Dm (p:Int) (co c) (co e)->Q (.ref s) f
def KY (_:W.Frag):Sp:=λa H Q _=>∃ w p:Int,a=[.int w,.int p]/\0<p/\∀ r:Int,p∣r - w->2*r.natAbs<=p.natAbs->Q (.int r) H
def Fi (e:Nat) (ns:de):Prop:=∀ A g:de,(∀ k,co ns k=cvL A (co g) k)->∀ k,Bd e (co g k)
def Fp (e:Nat) (ns:de):Prop:=∀ g:de,Lz g->Prim g->MQ (co g) (co ns)->∀ k,Bd e (co g k)
def Qw (e c N p:Nat):Prop:=2 ^ ((e+c+2)*N)<p
def KZ (_:W.Frag):Sp:=λj H Q _=>∃ (a b:Addr) (f g:de) (p d e c N:Nat),j=[.ref a,.ref b,.int (p:Int)]/\H a=some (.lst (f.map V.int))/\H b=some (.lst (g.map V.int))/\Pr p/\Bd 45000 (p:Int)/\Lz f/\Lz g/\(∀ z∈f,Bd d z)/\(∀ z∈g,Bd d z)/\d+f.length*45001<=3000000/\d+g.length*45001<=3000000/\Fi e f/\Fi e g/\f.length+g.length<2 ^ (c+1)/\f.length+g.length<=N+2/\2<=N/\(¬ Qw e c N p->∀ h,Same H h->Q .non h)/\
 ∀ (s:Addr) (i:de) (h:Hp),Same H h->h s=some (.lst (i.map V.int))->RC (co f) (co g) i->Prim i->Q (.ref s) h
def Ka (_:W.Frag):Sp:=λj H Q _=>∃ (a b:Addr) (f g:de) (d e c N:Nat),j=[.ref a,.ref b]/\H a=some (.lst (f.map V.int))/\H b=some (.lst (g.map V.int))/\Tz f/\Tz g/\(∀ z∈f,Bd d z)/\(∀ z∈g,Bd d z)/\d<=200000/\f.length<=60/\g.length<=60/\(f≠[]->g≠[]->Fp e f/\Fp e g)/\f.length+g.length<2 ^ (c+1)/\f.length+g.length<=N+2/\2<=N/\(e+c+2)*N<=44490/\
 ∀ (s:Addr) (h:de) (i:Hp),Same H i->i s=some (.lst (h.map V.int))->((f≠[]\/g≠[])->RC (co f) (co g) h/\Prim h)->(f=[]->g=[]->h=[])->Q (.ref s) i
structure Gq (b c:Nat) (l:cW):Prop where
 low:AW l
 nz:Nz l
 ov:∃ M,Ov l M/\Bd c M/\∀ z∈P_ l M,Bd b z
noncomputable def J' (g:de):cW:=g.map λn=>Aq n (co g (g.length - 1))
def MR (g f:dH):Prop:=∃ A:List Rat,∀ k,f k=cvL A g k
def Dr (_:W.Frag):Sp:=λc H Q _=>∃ a b:Int,c=[.int a,.int b]/\b≠0/\∀ (p:Addr),H p=none->Q (.ref p) (upd H p (.tup [.int (Aq a b).1,.int (Aq a b).2]))
def DO (_:W.Frag):Sp:=λb H Q _=>∃ (p:Addr) (a:d7) (l:cW),b=[.ref p]/\H p=some (.lst a)/\Nums H a l/\l.length<=1000/\Fm H Q (trim l)
def El (K:W.Frag):Sp:=λd H Q _=>∃ (p:Addr) (c:d7) (l:cW) (M:Int),d=[.ref p]/\SqT K H p c/\NuK K H c l/\AW l/\Ov l M/\Bd 400000 M/\(∀ q∈l,Bd 60000000 q.1)/\l.length<=1000/\
 ∀ (r a:Addr) (b:Hp),Same H b->b r=some (.tup [.ref a,.int (Ac l)])->b a=some (.lst ((AK l).map V.int))->Q (.ref r) b
def Gn (_:W.Frag):Sp:=λb H Q _=>∃ (p:Addr) (a:de) (B:Int),b=[.ref p,.int B]/\H p=some (.lst (a.map V.int))/\B≠0/\a.length<=1000/\Fm H Q (trim (a.map λn=>Aq n B))
def Ft (K:W.Frag):Sp:=λh H Q _=>∃ (p q:Addr) (a f:d7) (l m:cW) (b c e d N:Nat),h=[.ref p,.ref q]/\SqT K H p a/\H q=some (.tup f)/\NuK K H a l/\Nums H f m/\Gq b c l/\Gq b c m/\b<=200000/\c<=200000/\l.length<=60/\m.length<=60/\(l≠[]->m≠[]->Fp e (AK l)/\Fp e (AK m))/\l.length+m.length<2 ^ (d+1)/\l.length+m.length<=N+2/\2<=N/\(e+d+2)*N<=44490/\
 (l=[]->m=[]->Fm H Q [])/\((l≠[]\/m≠[])->∀ g,RC (co (AK l)) (co (AK m)) g->Prim g->Fm H Q (J' g))
def Kb (f:Nu->Nu->Nu) (_:W.Frag):Sp:=λe H Q _=>∃ (p q:Addr) (a b c d:Int),e=[.ref p,.ref q]/\Nm H p a b/\Nm H q c d/\0<b/\0<d/\Bd 60000000 a/\Bd 60000000 b/\Bd 60000000 c/\Bd 60000000 d/\
 ∀ (r:Addr),H r=none->Q (.ref r) (upd H r (.tup [.int (f (a,b) (c,d)).1,.int (f (a,b) (c,d)).2]))
def Kc (K:W.Frag):Sp:=λj H Q _=>∃ (p q:Addr) (h i:d7) (l m:cW) (b c d e:Nat),j=[.ref p,.ref q]/\SqT K H p h/\H q=some (.tup i)/\NuK K H h l/\Nums H i m/\Gq b c l/\Gq d e m/\m≠[]/\l.length<=100/\m.length<=100/\
 c+(l.length+1 - m.length)*d<=400000/\b+(l.length+1 - m.length)*(d+1)+e<=900000/\e<=400000/\d<=400000/\
 ∀ (t u v:Addr) (f:Hp) (a g:cW),Same H f->f t=some (.tup [.ref u,.ref v])->Pl f u a->Pl f v g->AW a->Nz a->a.length<=l.length+1 - m.length->Gq (b+(l.length+1 - m.length)*(d+1)) (c+(l.length+1 - m.length)*d) g->g.length<m.length->
   (∀ k,B_ l k=cv (B_ a) (B_ m) a.length k+B_ g k)->Q (.ref t) f
def Cop (T B:dH):Prop:=∃ U W:List Rat,∀ k,(Ai k:Rat)=cvL U T k+cvL W B k
noncomputable abbrev Iw:=Kb H_
def Ix (_:W.Frag):Sp:=λe H Q _=>∃ (p q:Addr) (a b c d:Int),e=[.ref p,.ref q]/\Nm H p a b/\Nm H q c d/\0<b/\c≠0/\Bd 60000000 a/\Bd 60000000 b/\Bd 60000000 c/\Bd 60000000 d/\
 ∀ (r:Addr),H r=none->Q (.ref r) (upd H r (.tup [.int (Aq (a*d) (b*c)).1,.int (Aq (a*d) (b*c)).2]))
def Kd (_:W.Frag):Sp:=λf H Q _=>∃ (p q:Addr) (a c:de) (b d:Nat),f=[.ref p,.ref q]/\H p=some (.lst (a.map V.int))/\H q=some (.lst (c.map V.int))/\(∀ z∈a,Bd b z)/\(∀ z∈c,Bd d z)/\b<=900000/\d<=900000/\a.length<=100/\c.length<=100/\
 ∀ (r:Addr) (e:Hp),Same H e->e r=some (.lst ((if a.length=0\/c.length=0 then [] else (List.range (a.length+c.length - 1)).map λk=>ps a c a.length k).map V.int))->Q (.ref r) e
def Ci (K:W.Frag):Sp:=λh H Q _=>∃ (p q:Addr) (f g:d7) (l m:cW) (b c d e:Nat),h=[.ref p,.ref q]/\SqT K H p f/\H q=some (.tup g)/\NuK K H f l/\Nums H g m/\Gq b c l/\Gq d e m/\l.length<=100/\m.length<=100/\b<=300000/\c<=300000/\d<=300000/\e<=300000/\
 ∀ (r:Addr) (R:cW) (a:Hp),Same H a->Pl a r R->Gq (b+d+l.length) (c+e) R->R.length<=l.length+m.length - 1->(∀ k,B_ R k=cv (B_ l) (B_ m) l.length k)->Q (.ref r) a
def Iy (_:W.Frag):Sp:=λe H Q _=>∃ (p c:Addr) (d:d7) (l:cW) (a b:Int),e=[.ref p,.ref c]/\H p=some (.tup d)/\Nm H c a b/\Nums H d l/\AW l/\0<b/\Bd 60000000 a/\Bd 60000000 b/\(∀ q∈l,Bd 60000000 q.1/\Bd 60000000 q.2)/\l.length<=1000/\Fm H Q (trim (l.map λq=>H_ q (a,b)))
def EF (K:W.Frag):Sp:=λh H Q _=>∃ (p q:Addr) (f g:d7) (l m:cW) (b c d e:Nat),h=[.ref p,.ref q]/\SqT K H p f/\H q=some (.tup g)/\NuK K H f l/\Nums H g m/\Gq b c l/\Gq d e m/\m≠[]/\l.length<=100/\m.length<=100/\
 c+(l.length+1 - m.length)*d<=400000/\b+(l.length+1 - m.length)*(d+1)+e<=900000/\e<=400000/\d<=400000/\MR (B_ m) (B_ l)/\
 ∀ (r:Addr) (R:cW) (a:Hp),Same H a->Pl a r R->AW R->Nz R->R.length<=l.length+1 - m.length->(∀ k,B_ l k=cv (B_ R) (B_ m) R.length k)->Q (.ref r) a
noncomputable abbrev Mz:=Kb aa
noncomputable abbrev Ke:=Kb ae
def Go (_:W.Frag):Sp:=λc H Q _=>∃ (p:Addr) (b:d7) (l:cW) (i:Nat),c=[.ref p,.int (i:Int)]/\H p=some (.tup b)/\Nums H b l/\∀ (v:V) (a:Hp),Same H a->isN a v (AX l i)->Q v a
def JA (f:Nu->Nu->Nu) (s:Rat) (_:W.Frag):Sp:=λg H Q _=>∃ (p q:Addr) (d e:d7) (l m:cW) (M:Int) (b c:Nat),g=[.ref p,.ref q]/\H p=some (.tup d)/\H q=some (.tup e)/\Nums H d l/\Nums H e m/\AW l/\AW m/\Ov l M/\Ov m M/\Bd c M/\(∀ z∈P_ l M,Bd b z)/\(∀ z∈P_ m M,Bd b z)/\b<=300000/\c<=300000/\l.length<=100/\m.length<=100/\
 ∀ (r:Addr) (R:cW) (a:Hp),Same H a->Pl a r R->Gq (b+1) c R->R.length<=max l.length m.length->(∀ k,B_ R k=B_ l k+s*B_ m k)->Q (.ref r) a
noncomputable abbrev JB:=JA aa 1
noncomputable abbrev Kf:=JA ae (-1)
def Hj (_:W.Frag):Sp:=λc H Q _=>∃ (p q:Addr) (l m:cW),c=[.ref p,.ref q]/\Pl H p l/\Pl H q m/\AW l/\AW m/\Nz m/\m≠[]/\(∀ q∈l,Bd 1000000 q.1/\Bd 1000000 q.2)/\(∀ q∈m,Bd 1000000 q.1/\Bd 1000000 q.2)/\l.length<=1000/\m.length<=1000/\
 ∀ a:Nu,Low a.1 a.2->val a*val (AX m (m.length - 1))=1->∀ (t u v:Addr) (b:Hp),Same H b->b t=some (.tup [.ref u,.ref v])->Pl b u (trim (l.map λq=>H_ q (a.1,a.2)))->Pl b v (trim (m.map λq=>H_ q (a.1,a.2)))->Q (.ref t) b
noncomputable def rw' (l:cW):List Rat:=(List.range l.length).map (B_ l)
def FF (H:Hp) (p:Addr) (T B:cW):Prop:=∃ u v,H p=some (.tup [.ref u,.ref v])/\Pl H u T/\Pl H v B
noncomputable def dv (f:dH) (k:Nat):Rat:=((k:Rat)+1)*f (k+1)
noncomputable def sr (l:cW):Sr:=⟨B_ l⟩
noncomputable def si (ns:de):Sr:=⟨λk=>(co ns k:Rat)⟩
structure Lw (T B:cW):Prop where
 lt:AW T
 lb:AW B
 nt:Nz T
 nb:Nz B
 ne:B≠[]
 one:AX B (B.length - 1)=(1,1)
 cs:Sr.Cs (sr T) (sr B)
structure Rp (b n m:Nat) (T B:cW):Prop where
 lw:Lw T B
 rp:∃ N D:de,Lz D/\Tz N/\(∀ z∈N,Bd b z)/\(∀ z∈D,Bd b z)/\N.length<=n/\D.length<=m/\sr T*si D=si N*sr B
structure C0 (x n m e:Nat):Prop where
 n1:1<=n
 m1:1<=m
 n60:n<=60
 m60:m<=60
 ne:n<2 ^ e
 me:m<2 ^ e
 e6:e<=6
 lu:(x+e+2)*(n+m)<=44490
abbrev C1 (b n m e:Nat):Prop:=C0 (b+max n m*(2*e+4)) n m e
def FE (_:W.Frag):Sp:=λc H Q _=>∃ (p q:Addr) (l m:cW) (b x n k e:Nat),c=[.ref p,.ref q]/\Pl H p l/\Pl H q m/\Gq b b l/\Gq b b m/\m≠[]/\l.length<=n/\m.length<=k/\(l≠[]->Fp x (AK l))/\Fp x (AK m)/\C0 x n k e/\b<=100000/\
 ∀ (t:Addr) (a:Hp) (T B:cW),Same H a->FF a t T B->Lw T B->sr T*sr m=sr l*sr B->Q (.ref t) a
def FFK (K:W.Frag) (H:Hp) (p:Addr) (T B:cW):Prop:=∃ u v a b,SqT K H p [.ref u,.ref v]/\SqT K H u a/\NuK K H a T/\SqT K H v b/\NuK K H b B
def Gp (K:W.Frag):Sp:=λh H Q _=>∃ (p q:Addr) (T B b a:cW) (x y w m d f e:Nat),h=[.ref p,.ref q]/\FFK K H p T B/\FF H q b a/\Lw T B/\Lw b a/\Gq 10960 10960 T/\Gq 10960 10960 B/\Gq 10960 10960 b/\Gq 10960 10960 a/\B.length<=m/\a.length<=d/\T.length+a.length<=w+1/\b.length+B.length<=w+1/\Fp x (AK B)/\Fp x (AK a)/\C0 x m d e/\x<=2000/\m+d<=100/\(∀ (c:cW) (G:Sr),AW c->Nz c->c≠[]->Sr.Pol G->G≠0->G*sr c=sr T*sr a+sr b*sr B->Fp y (AK c))/\(m<=f\/d<=f)/\C0 (max x y) w f e/\
 ∀ (t:Addr) (g:Hp) (X Y:cW),Same H g->FF g t X Y->Lw X Y->sr X*(sr B*sr a)=(sr T*sr a+sr b*sr B)*sr Y->Q (.ref t) g
def Hk (_:W.Frag):Sp:=λh H Q _=>∃ (p q:Addr) (T B a b:cW) (x n m c f g e:Nat),h=[.ref p,.ref q]/\FF H p T B/\FF H q a b/\Lw T B/\Lw a b/\Gq 60100 60100 T/\Gq 60100 60100 B/\Gq 60100 60100 a/\Gq 60100 60100 b/\T.length<=n/\b.length<=g/\a.length<=f/\B.length<=m/\(T≠[]->Fp x (AK T))/\Fp x (AK b)/\(a≠[]->Fp c (AK a))/\Fp c (AK B)/\C0 x n g e/\C0 c f m e/\
 ∀ (t:Addr) (d:Hp) (X Y:cW),Same H d->FF d t X Y->Lw X Y->sr X*(sr B*sr b)=sr T*sr a*sr Y->Q (.ref t) d
structure KindAt (H:Hp) (p q1 q2:Addr) (n:Nat) (a b:Nu):Prop where
 at':H p=some (.tup [.int (n:Int),.ref q1,.ref q2])
 at1:H q1=some (.tup [.int a.1,.int a.2])
 at2:H q2=some (.tup [.int b.1,.int b.2])
 la:Low a.1 a.2
 lb:Low b.1 b.2
 a0:a.1≠0
 ba:Bd 40 a.1/\Bd 20 a.2
 bb:Bd 40 b.1/\Bd 20 b.2
 n2:2<=n
 n4:n<=4
def Src (H:Hp) (s:Addr):Prop:=∃ x y:Int,H s=some (.lst [.int x,.int y])/\0<=x/\0<=y
noncomputable def xq (u:Sr) (a b:Nu):Sr:=Sr.num (val a)⁻¹*(u - Sr.num (val b))
noncomputable def L1 (b:de):Nat:=(b.map Int.natAbs).sum
def Iz (A n:Nat) (f:Sr):Prop:=∃ X:de,si X=f/\L1 X<=A/\X.length<=n
def Qz (A n:Nat) (f:Sr):Prop:=∃ c:Rat,c≠0/\Iz A n (Sr.num c*f)
structure Sz where
 A:Nat
 n:Nat
 C:Nat
 m:Nat
 k:Nat
noncomputable def Sz.ad (z y:Sz):Sz:=⟨y.k*(z.A*y.C)+z.k*(y.A*z.C),max (z.n+y.m) (y.n+z.m) - 1,z.C*y.C,z.m+y.m - 1,z.k*y.k⟩
noncomputable def Sz.mu (z y:Sz):Sz:=⟨z.A*y.A,z.n+y.n - 1,z.C*y.C,z.m+y.m - 1,z.k*y.k⟩
noncomputable def E_ (n:Nat):Nat:=Nat.log2 n+1
structure Sq (c:Int) (z:Sz) (T B:cW):Prop where
 lw:Lw T B
 c0:c≠0
 cb:Bd 200 c
 ex:∃ (N D:Sr) (κ:Int),Iz z.A z.n N/\Iz z.C z.m D/\D≠0/\κ≠0/\κ.natAbs<=z.k/\sr T*(Sr.num (c:Rat)*Sr.num (κ:Rat)*D)=N*sr B
noncomputable def Sz.b (z:Sz):Nat:=max (E_ z.A) (E_ z.C+E_ z.k+200)
noncomputable def Sz.xA (z:Sz):Nat:=E_ z.A+z.n*14
noncomputable def Sz.xC (z:Sz):Nat:=E_ z.C+z.m*14
noncomputable def Sz.sm (z:Sz):Bool:=decide (z.b<=5000) && decide (1<=z.n) && decide (1<=z.m) && decide (z.n<=31) && decide (z.m<=31)
noncomputable def be (x n m:Nat):Bool:=decide (1<=n) && decide (1<=m) && decide (n<=31) && decide (m<=31) && decide ((x+7)*(n+m)<=44490)
noncomputable def aR (z y:Sz):Bool:=z.sm && y.sm && be (max z.xC y.xC) z.m y.m && decide (max z.xC y.xC<=2000) && be (max (max z.xC y.xC) (z.ad y).xA) (z.ad y).n (min z.m y.m)
noncomputable def aY (z y:Sz):Bool:=z.sm && y.sm && be (max z.xA y.xC) z.n y.m && be (max y.xA z.xC) y.n z.m
noncomputable def yz (n g:Nat) (z:Sz):Sz:=⟨z.A*2 ^ (61*(z.n - 1+(g+z.m - z.n))),n*(z.n - 1)+1,z.C*2 ^ (61*(z.m - 1)),n*(z.m - 1)+1,z.k⟩
noncomputable def cK (n g i:Nat) (z:Sz):Sz:=(⟨1,i+1,1,1,1⟩:Sz).mu (yz n g z)
noncomputable def bh (g:Nat) (z:Sz):Bool:=decide (1<=z.n) && decide (1<=z.m) && decide (z.n<=4) && decide (z.m<=4) && decide (z.n<=z.m+g) && decide (g<=3) && decide (z.b<=1000)
noncomputable def jz (n g:Nat) (a:Nat->Sz):Nat->Sz
 | 0=>⟨0,1,1,1,1⟩
 | i+1=>(jz n g a i).ad (cK n g i (a i))
noncomputable def aJ (n g:Nat) (a:Nat->Sz):Nat->Bool
 | 0=>true
 | i+1=>aJ n g a i && bh g (a i) && aY ⟨1,i+1,1,1,1⟩ (yz n g (a i)) && aR (jz n g a i) (cK n g i (a i))
noncomputable def FFs (H:Hp):d7->List (cW×cW)->Prop
 | [],[]=>True
 | v::a,t::L=>(∃ p,v=.ref p/\FF H p t.1 t.2)/\FFs H a L
 | _,_=>False
noncomputable def L_ (L:List (cW×cW)) (i:Nat):cW:=(L.getD i ([],[(1,1)])).1
noncomputable def D_ (L:List (cW×cW)) (i:Nat):cW:=(L.getD i ([],[(1,1)])).2
def Jn (u:Sr) (n:Nat) (L:List (cW×cW)) (T B:cW):Prop:=sr T*Sr.jD (λi=>Sr.cm u (sr (D_ L i))) n=Sr.jN (λi=>Sr.cm u (sr (L_ L i))) (λi=>Sr.cm u (sr (D_ L i))) n*sr B
def Ptz (L:List (cW×cW)) (a:Nat->Sz) (n:Nat):Prop:=L.length=n/\∀ i,i<n->Sq 1 (a i) (L_ L i) (D_ L i)
noncomputable def oA (n A:Nat):Nat:=if n=2 then A else if n=3 then 6*(A*A) else A*(A*A)
noncomputable def cL (n:Nat) (z:Sz):Bool:=
 z.sm && decide (z.n<=21) && decide (z.m<=9) && decide (z.xC<=900) && decide (z.xA<=2000) && decide ((z.n+(n - 1)*(z.m - 1)+n - 1) / n<=15) &&
 decide (1<=(z.n+(n - 1)*(z.m - 1)+n - 1) / n) && decide ((max (E_ (z.n*2 ^ z.xA*oA n (z.m*2 ^ (E_ z.C+z.m*12)))+((z.n+(n - 1)*(z.m - 1)+n - 1) / n)*12) (E_ (z.m*2 ^ (E_ z.C+z.m*12)*(z.m*2 ^ (E_ z.C+z.m*12)*oA n (z.m*2 ^ (E_ z.C+z.m*12))))+z.m*12)+6)*((z.n+(n - 1)*(z.m - 1)+n - 1) / n+z.m)<=44490)
noncomputable def xt (i:Nat):cW:=List.replicate i (0,1)++[(1,1)]
noncomputable def R_ {a:Type} (n:Nat):Nat->List a->List a
 | _,[]=>[]
 | 0,x::l=>x::R_ n (n - 1) l
 | i+1,_::l=>R_ n i l
def NOk (K:W.Frag):Prop:=∃ u v w:Addr,∀ H:Hp,SqT K H (He K) [.ref u,.ref v]/\SqT K H u []/\SqT K H v [.ref w]/\SqT K H w [.int 1,.int 1]
def Kg (_:W.Frag):Sp:=λa H Q _=>∃ (p:Addr) (t d:Int) (n:Nat),a=[.ref p,.int (n:Int)]/\Nm H p t d/\Bd 40 t/\Bd 40 d/\n<=40/\
 ∀ (r:Addr),H r=none->Q (.ref r) (upd H r (.tup [.int (t ^ n),.int (d ^ n)]))
def Kh (_:W.Frag):Sp:=λe H Q _=>∃ (p:Addr) (a:de) (c:Int) (b n:Nat),e=[.ref p,.int c]/\H p=some (.lst (a.map V.int))/\a.length<=n/\n<=20/\(∀ z∈a,Bd b z)/\b<=20000/\Bd 40 c/\
 ∀ (r:Addr) (d:Hp),Same H d->d r=some (.lst (Ad a.length (R' c (λk=>a.getD k 0) a.length (a.length - 1))))->Q (.ref r) d
noncomputable def bM (b n:Nat):Nat:=b+80*n+41*n*n+3
noncomputable def cr (l:cW) (x:Rat):Rat:=evF (B_ l) l.length x l.length
structure Mvd (s:Rat) (b n:Nat) (l L:cW):Prop where
 gq:Gq (bM b n) (bM b n) L
 len:L.length=l.length
 top:B_ L (l.length - 1)=B_ l (l.length - 1)
 ev:∀ x,cr L x=cr l (x+s)
def JC (_:W.Frag):Sp:=λf H Q _=>∃ (p q:Addr) (e:d7) (l:cW) (a d:Int) (b n:Nat),f=[.ref p,.ref q]/\H p=some (.tup e)/\Nm H q a d/\Nums H e l/\Gq b b l/\b<=8000/\Low a d/\Bd 40 a/\Bd 40 d/\l.length<=n/\n<=20/\
 ∀ (r:Addr) (c:Hp) (L:cW),Same H c->Pl c r L->Mvd (val (a,d)) b n l L->Q (.ref r) c
def FG (_:W.Frag):Sp:=λe H Q _=>∃ (p q:Addr) (l:cW) (a d:Int) (b s:Nat),e=[.ref p,.ref q]/\Pl H p l/\Nm H q a d/\Low a d/\a≠0/\Bd s a/\Bd s d/\s<=40/\Gq b b l/\l.length<=40/\b<=60000/\
 ∀ (r:Addr) (L:cW) (c:Hp),Same H c->Pl c r L->Gq (b+l.length*s+2) (b+l.length*s+2) L->L.length=l.length->sr L=Sr.cm (Sr.num (val (a,d))*Sr.X 1) (sr l)->Q (.ref r) c
def Hl (_:W.Frag):Sp:=λc H Q _=>∃ (p:Addr) (l:cW) (n b:Nat),c=[.ref p,.int (n:Int)]/\Pl H p l/\2<=n/\n<=4/\Gq b b l/\l.length<=40/\
 ∀ (r:Addr) (L:cW) (a:Hp),Same H a->Pl a r L->Gq b b L->L.length=(if l=[] then 0 else n*(l.length - 1)+1)->sr L=Sr.cm (Sr.X n) (sr l)->Q (.ref r) a
def Ki (_:W.Frag):Sp:=λe H Q _=>∃ (p x f g:Addr) (n c:Nat) (a b:Nu) (l:cW),e=[.ref p,.ref x]/\KindAt H p f g n a b/\Pl H x l/\Gq c c l/\c<=6000/\l.length<=4/\
 ∀ (r:Addr) (L:cW) (d:Hp),Same H d->Pl d r L->Gq 9000 9000 L->L.length=(if l=[] then 0 else n*(l.length - 1)+1)->sr L=Sr.cm (xq (Sr.X n) a b) (sr l)->Q (.ref r) d
def M4 (_:W.Frag):Sp:=λf H Q _=>∃ (p q g h:Addr) (n:Nat) (a b:Nu) (T B c d:cW),f=[.ref p,.ref q]/\KindAt H p g h n a b/\FF H q c d/\Lw c d/\Gq 6000 6000 c/\Gq 6000 6000 d/\c.length<=4/\d.length<=4/\Lw T B/\Sr.cm (Sr.num (val a)*Sr.X 1+Sr.num (val b)) (sr c)*sr B=sr T*Sr.cm (Sr.num (val a)*Sr.X 1+Sr.num (val b)) (sr d)/\
 ∀ (r:Addr) (e:Hp),Same H e->FF e r T B->Q (.ref r) e
def Kj (_:W.Frag):Sp:=λb H Q _=>∃ i:Nat,b=[.int (i:Int)]/\i<=4/\∀ (r:Addr) (a:Hp),Same H a->Pl a r (xt i)->Q (.ref r) a
def Gs (_:W.Frag):Sp:=λc H Q _=>∃ (p:Addr) (l:cW) (n i b:Nat),c=[.ref p,.int (n:Int),.int (i:Int)]/\Pl H p l/\2<=n/\i<n/\Gq b b l/\l.length<=100/\
 ∀ (r:Addr) (L:cW) (a:Hp),Same H a->Pl a r L->Gq b b L->n*L.length<=l.length+(n - 1) - i->sr L=Sr.st n i (sr l)->Q (.ref r) a
def M5 (_:W.Frag):Sp:=λc H Q _=>∃ (p:Addr) (l:cW) (n A b x k:Nat),c=[.ref p,.int (n:Int)]/\Pl H p l/\2<=n/\n<=4/\Gq b b l/\l≠[]/\b<=60000/\Qz A k (sr l)/\l.length<=k/\1<=k/\k<=15/\E_ A+k*12<=x/\(x+6)*(2*k)<=44490/\
 ∀ (r:Addr) (L:cW) (a:Hp),Same H a->Pl a r L->Gq x x L->L≠[]->L.length<=k->AX L (L.length - 1)=(1,1)->(∀ i,i<n->∃ Y,Sr.Pol Y/\Sr.st n i (sr l)=Y*sr L)->Q (.ref r) a
def OR (n:Nat) (l L:cW):Prop:=Gq 60000 60000 L/\L≠[]/\L.length<=(n - 1)*(l.length - 1)+1/\(∃ h,Sr.Pol h/\sr l*sr L=Sr.cm (Sr.X n) h)/\∀ A k,Qz A k (sr l)->l.length<=k->Qz (oA n A) ((n - 1)*(k - 1)+1) (sr L)
def M6 (_:W.Frag):Sp:=λc H Q _=>∃ (p:Addr) (l:cW) (n b:Nat),c=[.ref p,.int (n:Int)]/\Pl H p l/\2<=n/\n<=4/\Gq b b l/\l≠[]/\b<=1000/\l.length<=9/\
 ∀ (r:Addr) (L:cW) (a:Hp),Same H a->Pl a r L->OR n l L->Q (.ref r) a
def M7 (_:W.Frag):Sp:=λc H Q _=>∃ (p:Addr) (l:cW) (b:Nat),c=[.ref p]/\Pl H p l/\Gq b b l/\l≠[]/\b<=1000/\l.length<=9/\
 ∀ (r:Addr) (L:cW) (a:Hp),Same H a->Pl a r L->OR 3 l L->Q (.ref r) a
noncomputable def cS (a b:Nu) (g:Nat):Int:=(a.1*b.2) ^ g
def Hm (_:W.Frag):Sp:=λe H Q _=>∃ (p w f h:Addr) (ps:d7) (n g:Nat) (a b:Nu) (L:List (cW×cW)) (c:Nat->Sz),e=[.ref p,.ref w]/\KindAt H p f h n a b/\H w=some (.tup ps)/\FFs H ps L/\Ptz L c n/\aJ n g c n=true/\
 ∀ (r:Addr) (T B:cW) (d:Hp),Same H d->FF d r T B->Sq (cS a b g) (jz n g c n) T B->Jn (xq (Sr.X n) a b) n L T B->Q (.ref r) d
def M8 (_:W.Frag):Sp:=λh H Q _=>∃ (p w j k:Addr) (n g:Nat) (a b:Nu) (T B:cW) (L:List (cW×cW)) (e:Nat->Sz) (c:Int) (z:Sz),h=[.ref p,.ref w]/\KindAt H p j k n a b/\FF H w T B/\Sq c z T B/\Jn (xq (Sr.X n) a b) n L T B/\Ptz L e n/\(∀ i,i<n->bh g (e i)=true)/\cL n z=true/\
 ∀ (r:Addr) (f:d7) (d:Hp),Same H d->d r=some (.tup f)->FFs d f L->Q (.ref r) d
def Hn (_:W.Frag):Sp:=λb H Q _=>∃ v:V,b=[v]/\∀ (r w:Addr) (a:Hp),Same H a->a r=some (.tup [v,.ref w])->Pl a w [(1,1)]->Q (.ref r) a
def NA (_:W.Frag):Sp:=λb H Q _=>∃ p:Addr,b=[.ref p]/\Nm H p 0 1/\∀ (r:Addr) (a:Hp),Same H a->FF a r [] [(1,1)]->Q (.ref r) a
def NC (K:W.Frag):Sp:=λc H Q _=>∃ (s:Addr) (b:de) (k:Int),c=[.ref s,.int k]/\SqL K H s (b.map V.int)/\0<=k/\k<=1000/\b.length<=63/\∀ (r:Addr) (a:Hp),H r=none->Same H a->Src a r->Q (.ref r) a
def DX (_:W.Frag):Sp:=λb H Q _=>∃ (s:Addr) (m:Int),b=[.ref s,.int m]/\Src H s/\0<m/\∀ (d:Int) (a:Hp),0<=d->d<m->Src a s->Kp s H a->Q (.int d) a
def Ho (_:W.Frag):Sp:=λb H Q _=>∃ (s:Addr),b=[.ref s]/\Src H s/\∀ (r:Addr) (q:Nu) (a:Hp),isN a (.ref r) q->Low q.1 q.2->Bd 40 q.1->q.2<=1000000->Src a s->Kp s H a->Q (.ref r) a
def ND (_:W.Frag):Sp:=λd H Q _=>∃ (s:Addr),d=[.ref s]/\Src H s/\∀ (t e f:Addr) (n:Nat) (a b:Nu) (c:Hp),KindAt c t e f n a b->Src c s->Kp s H c->Q (.ref t) c
structure Lp (d:Nat) (l:cW):Prop where
 low:AW l
 nz:Nz l
 len:l.length<=d
 bt:∀ q∈l,Bd 40 q.1/\q.2<=1000000
def Kk (_:W.Frag):Sp:=λb H Q _=>∃ (s:Addr) (d:Nat),b=[.ref s,.int (d:Int)]/\Src H s/\d<=2/\∀ (r:Addr) (l:cW) (a:Hp),Pl a r l->Lp (d+1) l->Src a s->Kp s H a->Q (.ref r) a
noncomputable def fz (n m:Nat):Sz:=if m=1 then ⟨2 ^ 20*(n*2 ^ (20+20*n)),n,1,1,2 ^ (40+20*n)⟩ else ⟨2 ^ (20*m)*(n*2 ^ (20+20*n)),n,m*2 ^ (20+20*m),m,2 ^ (20*n)⟩
def Kl (_:W.Frag):Sp:=λb H Q _=>∃ (s:Addr) (d e:Nat),b=[.ref s,.int (d:Int),.int (e:Int)]/\Src H s/\d<=2/\e<=2/\∀ (r:Addr) (T B:cW) (a:Hp),FF a r T B->Sq 1 (fz (d+1) (e+1)) T B->Src a s->Kp s H a->Q (.ref r) a
def Km (_:W.Frag):Sp:=λb H Q _=>∃ (p:Addr) (t d:Int),b=[.ref p]/\Nm H p t d/\Low t d/\∀ a,Same H a->Q (.bl true) a
def NE (_:W.Frag):Sp:=λb H Q _=>∃ (p u v:Addr) (L M:cW),b=[.ref p]/\H p=some (.tup [.ref u,.ref v])/\Pl H u L/\Pl H v M/\AW L/\AW M/\L.length<=100/\M.length<=100/\∀ a,Same H a->Q (.bl true) a
noncomputable def dP (n i:Nat):Nat:=if n=2 then 3 else if i<=1 then 2 else 1
noncomputable def dO (i:Nat):Nat:=if i=0 then 2 else 1
noncomputable def zP (n i:Nat):Sz:=fz 3 (dP n i)
noncomputable def zO (i:Nat):Sz:=fz 2 (dO i)
noncomputable def zB (n i:Nat):Sz:=(zP n i).ad (zO i)
noncomputable def zR (n i:Nat):Sz:=if i=0 then (zP n (n - 1)).mu ⟨2 ^ 61,2,1,1,2 ^ 40⟩ else zP n (i - 1)
def NF (_:W.Frag):Sp:=λe H Q _=>∃ (p w f g:Addr) (ps:d7) (n:Nat) (a b:Nu) (L:List (cW×cW)),e=[.ref p,.ref w]/\KindAt H p f g n a b/\H w=some (.tup ps)/\FFs H ps L/\Ptz L (zP n) n/\
 ∀ (r:Addr) (d:d7) (X Y:cW) (c:Hp),Same H c->c r=some (.tup d)->FFs c d ((X,Y)::L.take (n - 1))->Sq 1 (zR n 0) X Y->sr X*sr (D_ L (n - 1))=sr (L_ L (n - 1))*(Sr.num (val b)+Sr.num (val a)*Sr.X 1)*sr Y->Q (.ref r) c
def Kn (_:W.Frag):Sp:=λd H Q _=>∃ (p v w e f:Addr) (ps os:d7) (n:Nat) (a b:Nu) (L M:List (cW×cW)),d=[.ref p,.ref v,.ref w]/\KindAt H p e f n a b/\H v=some (.tup ps)/\H w=some (.tup os)/\FFs H ps L/\FFs H os M/\Ptz L (zP n) n/\Ptz M zO n/\∀ c,Same H c->Q (.bl true) c
section
variable (K:W.Frag)
set_option linter.unusedVariables false
def Qx (_:W.Frag):TS:=
 (AH (D8 (Az (A_ aG (AA 1) (tC (.int 0)))) (AH (AN (A_ O9 (AA 0) (AA 1)) (AF 2))
  (AH (AN (AA 1) (AF 0))
  (AN (AA 2) (AF 1)))))
  (AY (G_ GZ (AB (AA 0) AC))))
def Qy (_:W.Frag):TS:=
 (AH (AN (tC (.int 1)) (AF 2))
  (AH (AN (AA 0) (AF 3))
  (AH (D8 (Az (A_ az (AA 1) (tC (.int 0)))) (AH (BH (Az (A_ ay (A_ Cn (AA 1) (tC (.int 2))) (tC (.int 1)))) (EY 2 (AA 3) A4) BG)
  (AH (EY 1 (tC (.int 2)) Lr)
  (BH (Az (A_ az (AA 1) (tC (.int 0)))) (EY 3 (AA 3) A4) BG))))
  (AY (AA 2)))))
def Q0:TS:=
 (AH (AN (AE (Ek K) [] E0 (AB (MJ (HQ (DG K (AA 0)) [none] (AF 0) (Az (A_ aG (AA 0) (tC (.int 0)))) (G_ GZ (AB (AA 0) AC)))) (AB (AA 1) AC))) (AF 2))
  (AH (BT (DG K (AA 0)) (AF 3) (AH (BH (Az (A_ ay (AA 2) (tC (.int 1)))) (AY (tC (.int 1))) BG)
  (AN (AE (Ek K) [] E0 (AB (AA 3) (AB (AA 2) AC))) (AF 2))))
  (AY (AA 2))))
def Q3 (_:W.Frag):TS:=
 (AH (AN (G_ CG (AB (AA 0) AC)) (AF 1))
  (AH (D8 (HF (Az (A_ az (AA 1) (tC (.int 0)))) (Az (A_ ay (A_ gL (AA 0) (A_ BA (AA 1) (tC (.int 1)))) (tC (.int 0))))) (EY 1 (tC (.int 1)) BA))
  (AY (aV sL (AA 0) FW (Ec (AA 1))))))
def Q4:TS:=
 (AY (BY (DG K (AA 0)) [none,some 1] (AF 0) (A_ E6 (AA 0) (AA 1))))
def Q5:TS:=
 (AH (BH (aS (Dh (Ee (AA 0))) (Dh (Ee (AA 1)))) (AY (Bj AC)) BG)
  (AH (AN (A_ FY (Bj (AB (tC (.int 0)) AC)) (A_ BA (A_ BZ (G_ CG (AB (AA 0) AC)) (G_ CG (AB (AA 1) AC))) (tC (.int 1)))) (AF 2))
  (AH (BT (Fd K (AB (AA 0) AC)) (Dn 2 (CK (AF 3) (CK (AF 4) Di))) (BH (Az (A_ aG (AA 4) (tC (.int 0)))) (BT (Fd K (AB (AA 1) AC)) (Dn 2 (CK (AF 5) (CK (AF 6) Di))) (GV (AA 2) (A_ BZ (AA 3) (AA 5)) (A_ A4 (AA 4) (AA 6)) gL BZ DU)) BG))
  (AY (AA 2)))))
def Q6 (_:W.Frag):TS:=
 (BH (Az (A_ aG (AA 6) (tC (.int 0)))) (BT (Cg (AB (AA 3) AC)) (AF 7) (GV (AA 2) (A_ BZ (AA 5) (AA 7)) (A_ A4 (AA 6) (A_ gL (AA 1) (AA 7))) gL BA DU)) BG)
def yG:TS:=
 (AH (AN (AA 6) (FU (AA 4) (AA 5) DU))
  (Q6 K))
def Q7:TS:=
 (AH (BH (Az (A_ aG (A_ A4 (AA 6) (A_ gL (AA 1) (S_ Bk (tC (.int 1))))) (A_ gL (AA 2) (A_ BZ (AA 5) (AA 3))))) (AY (tC .non)) BG)
  (yG K))
def yH:TS:=
 (AH (AN (A_ ED (A_ gL (AA 2) (A_ BZ (AA 5) (AA 3))) (A_ gL (AA 1) (S_ Bk (tC (.int 1))))) (AF 6))
  (Q7 K))
def yI (_:W.Frag):TS:=
 (AY (bu (tB (G_ MK (AB (aV sL (AA 2) FW (Ec (AA 3))) AC))) (tC .non) (AA 4)))
def yJ:TS:=
 (AH (BT (HP (AB (A_ BA (A_ BA (G_ CG (AB (AA 0) AC)) (AA 3)) (tC (.int 1))) (AB (S_ Bk (tC (.int 1))) (AB (S_ Bk (tC (.int 1))) AC)))) (AF 5) (yH K))
  (yI K))
def Q8:TS:=
 (AH (AN (A_ FY (Bj (AB (tC (.int 0)) AC)) (G_ Ga (AB (A_ BA (G_ CG (AB (AA 0) AC)) (AA 3)) (AB (tC (.int 0)) AC)))) (AF 4))
  (yJ K))
def yK:TS:=
 (AH (AN (A_ BA (G_ CG (AB (AA 1) AC)) (tC (.int 1))) (AF 3))
  (Q8 K))
def yL:TS:=
 (AH (AN (G_ IX (AB (AA 0) AC)) (AF 2))
  (yK K))
def Q9:TS:=
 (AH (AN (BY (DG K (AA 0)) [none,some 1] (AF 0) (A_ A4 (AA 1) (AA 0))) (AF 5))
  (AH (GU (b8 K "list" Jp (AA 5) (AB (A_ FY (Bj (AB (tC (.int 0)) AC)) (A_ BA (A_ BZ (G_ CG (AB (AA 2) AC)) (AA 4)) (G_ CG (AB (AA 0) AC)))) AC)))
  (AH (BT (Fd K (AB (AA 2) AC)) (Dn 2 (CK (AF 6) (CK (AF 7) Di))) (GV (AA 5) (A_ BZ (AA 6) (AA 4)) (A_ A4 (AA 3) (AA 7)) gL BA DU))
  (AY (AE (Hf K) [] E0 (AB (AA 5) AC))))))
def RA (_:W.Frag):TS:=
 (AH (AN (G_ IX (AB (AA 0) AC)) (AF 2))
  (AH (BT (Cg (AB (A_ BA (G_ CG (AB (AA 0) AC)) (tC (.int 1))) AC)) (AF 3) (BT (HP (AB (A_ BA (G_ CG (AB (AA 0) AC)) (tC (.int 2))) (AB (A_ BA (AA 3) (tC (.int 1))) (AB (S_ Bk (tC (.int 1))) AC)))) (AF 4) (GV (AA 2) (AA 4) (A_ A4 (AA 1) (A_ gL (AA 2) (A_ BZ (AA 4) (tC (.int 1))))) gL BZ DU)))
  (AY (AA 2))))
def yM:TS:=
 (AN (BY (MI K (AB (AA 0) (AB (AA 1) AC))) [none,none,some 6,some 7,some 2] (Dn 2 (CK (AF 0) (CK (AF 1) Di))) (AE (Ip K) [] E0 (AB (AA 0) (AB (AA 2) (AB (AA 1) (AB (AA 3) (AB (AA 4) AC))))))) (AF 0))
def yN:TS:=
 (AH (AN (A_ ED (AA 3) (AA 5)) (AF 7))
  (yM K))
def yO:TS:=
 (AH (AN (A_ ED (AA 4) (AA 5)) (AF 6))
  (yN K))
def yP:TS:=
 (AH (AN (AE (Ek K) [] E0 (AB (AA 3) (AB (AA 4) AC))) (AF 5))
  (yO K))
def yQ:TS:=
 (AH (AN (A_ gL (A_ gL (AA 1) (tC (.int 0))) (S_ Bk (tC (.int 1)))) (AF 4))
  (yP K))
def yR:TS:=
 (AH (AN (A_ gL (A_ gL (AA 0) (tC (.int 0))) (S_ Bk (tC (.int 1)))) (AF 3))
  (yQ K))
def yS:TS:=
 (AH (AN (A_ BA (G_ CG (AB (A_ gL (AA 0) (tC (.int 0))) AC)) (G_ CG (AB (A_ gL (AA 1) (tC (.int 0))) AC))) (AF 2))
  (yR K))
def RD:TS:=
 (AY (AE (Ir K) [] E0 (AB (AA 0) AC)))
def RE:TS:=
 (AH (D8 (Az (A_ cf (G_ CG (AB (A_ gL (AA 0) (tC (.int 0))) AC)) (G_ CG (AB (A_ gL (AA 1) (tC (.int 0))) AC)))) (yS K))
  (RD K))
def RF:TS:=
 (AH (AN (tC (.int 0)) (AF 1))
  (AH (BT (DG K (AA 0)) (AF 2) (AN (AE (Im K) [] E0 (AB (AA 2) (AB (AA 1) AC))) (AF 1)))
  (AY (BY (DG K (AA 0)) [none,some 1] (AF 0) (AE (Io K) [] E0 (AB (AA 0) (AB (AA 1) AC)))))))
def RG:TS:=
 (AY (A_ gL (AE (Ir K) [] E0 (AB (Bj (AB (AA 0) AC)) AC)) (tC (.int 0))))
def RH:TS:=
 (AH (D8 (Ee (A_ gL (AA 1) (tC (.int 0)))) (AH (BH (Az (A_ ay (G_ CG (AB (A_ gL (AA 1) (tC (.int 0))) AC)) (tC (.int 1)))) (AY (AA 1)) BG)
  (AH (AN (AE (KQ K) [] E0 (AB (AA 0) (AB (AA 1) AC))) (AF 2))
  (AH (AN (AA 1) (AF 0))
  (AN (AA 2) (AF 1))))))
  (AY (AA 0)))
def RI (_:W.Frag):TS:=
 (AN (AA 7) (AF 5))
def RJ:TS:=
 (AH (AN (AA 5) (AF 4))
  (RI K))
def RK:TS:=
 (AH (AN (A_ BA (AA 4) (A_ A4 (AA 6) (AA 5))) (AF 7))
  (RJ K))
def RL:TS:=
 (AH (AN (AA 7) (AF 3))
  (RK K))
def RM:TS:=
 (AH (AN (AA 3) (AF 2))
  (RL K))
def RN:TS:=
 (AH (AN (A_ BA (AA 2) (A_ A4 (AA 6) (AA 3))) (AF 7))
  (RM K))
def RP:TS:=
 (AH (AN (A_ E6 (AA 2) (AA 3)) (AF 6))
  (RN K))
def RQ (_:W.Frag):TS:=
 (AY (A_ Cn (AA 4) (AA 1)))
def RS:TS:=
 (AH (D8 (Az (A_ aG (AA 3) (tC (.int 0)))) (RP K))
  (RQ K))
def RT:TS:=
 (AH (AN (tC (.int 1)) (AF 5))
  (RS K))
def RU:TS:=
 (AH (AN (tC (.int 0)) (AF 4))
  (RT K))
def RV:TS:=
 (AH (AN (A_ Cn (AA 0) (AA 1)) (AF 3))
  (RU K))
def RW:TS:=
 (AH (AN (AA 1) (AF 2))
  (RV K))
def RX:TS:=
 (AY (BY (DG K (AA 0)) [none,some 1] (AF 0) (A_ Cn (AA 0) (AA 1))))
def RY:TS:=
 (AY (AE (Hf K) [] E0 (AB (AE (KS K) [] E0 (AB (AA 0) (AB (AA 1) AC))) AC)))
def RZ:TS:=
 (AH (BH (Dh (Ee (AA 0))) (AY (Bj AC)) BG)
  (AH (AN (AE (KR K) [] E0 (AB (A_ gL (AA 0) (S_ Bk (tC (.int 1)))) (AB (AA 1) AC))) (AF 2))
  (AY (BY (DG K (AA 0)) [none,some 1,some 2] (AF 0) (A_ Cn (A_ A4 (AA 0) (AA 2)) (AA 1))))))
def Ra (_:W.Frag):TS:=
 (BH (Az (A_ aG (AA 7) (tC (.int 0)))) (BT (Cg (AB (AA 4) AC)) (AF 8) (GV (AA 3) (A_ BZ (AA 6) (AA 8)) (A_ A4 (AA 7) (A_ gL (AA 1) (AA 8))) gL BA DU)) BG)
def Rb:TS:=
 (AH (AN (AA 7) (FU (AA 5) (AA 6) DU))
  (Ra K))
def yT:TS:=
 (AH (AN (A_ Cn (A_ gL (AA 3) (A_ BZ (AA 6) (AA 4))) (AA 2)) (AF 7))
  (Rb K))
def Rc:TS:=
 (AY (Ay (AB (AE (Hf K) [] E0 (AB (AA 5) AC)) (AB (AE (Hh K) [] E0 (AB (aV sL (AA 3) FW (Ec (AA 4))) (AB (AA 2) AC))) AC))))
def yU:TS:=
 (AH (BT (HP (AB (A_ BA (A_ BA (G_ CG (AB (AA 0) AC)) (AA 4)) (tC (.int 1))) (AB (S_ Bk (tC (.int 1))) (AB (S_ Bk (tC (.int 1))) AC)))) (AF 6) (yT K))
  (Rc K))
def Re:TS:=
 (AH (AN (A_ FY (Bj (AB (tC (.int 0)) AC)) (G_ Ga (AB (A_ BA (G_ CG (AB (AA 0) AC)) (AA 4)) (AB (tC (.int 0)) AC)))) (AF 5))
  (yU K))
def yV:TS:=
 (AH (AN (A_ BA (G_ CG (AB (AA 1) AC)) (tC (.int 1))) (AF 4))
  (Re K))
def yW:TS:=
 (AH (AN (G_ IX (AB (AA 0) AC)) (AF 3))
  (yV K))
def Rf:TS:=
 (AY (A_ gT (AE (KT K) [] E0 (AB (AA 0) (AB (AA 1) (AB (AA 2) AC)))) (tC (.int 1))))
def Rg:TS:=
 (AH (AN (AE (Hi K) [] E0 (AB (AE (Hh K) [] E0 (AB (AA 0) (AB (AA 2) AC))) (AB (AA 2) AC))) (AF 0))
  (AH (AN (AE (Hi K) [] E0 (AB (AE (Hh K) [] E0 (AB (AA 1) (AB (AA 2) AC))) (AB (AA 2) AC))) (AF 1))
  (AH (D8 (Ee (AA 1)) (AH (AN (AE (KU K) [] E0 (AB (AA 0) (AB (AA 1) (AB (AA 2) AC)))) (AF 3))
  (AH (AN (AA 1) (AF 0))
  (AN (AE (Hi K) [] E0 (AB (AA 3) (AB (AA 2) AC))) (AF 1)))))
  (AY (AA 0)))))
def Rh (_:W.Frag):TS:=
 (AH (AN (A_ Cn (AA 0) (AA 1)) (AF 2))
  (AY (bu (Az (A_ az (A_ A4 (tC (.int 2)) (AA 2)) (AA 1))) (A_ BA (AA 2) (AA 1)) (AA 2))))
def Ri:TS:=
 (AH (AN (AE (Ek K) [] E0 (AB (A_ gL (AA 0) (S_ Bk (tC (.int 1)))) (AB (A_ gL (AA 1) (S_ Bk (tC (.int 1)))) AC))) (AF 3))
  (AH (BH (Az (A_ ay (A_ Cn (AA 3) (AA 2)) (tC (.int 0)))) (AY (tC .non)) BG)
  (AH (AN (AE (KW K) [] E0 (AB (AA 0) (AB (AA 1) (AB (AA 2) AC)))) (AF 4))
  (AH (AN (AE (Hg K) [] E0 (AB (BY (DG K (AA 4)) [none,some 2,some 3] (AF 0) (AE (KY K) [] E0 (AB (A_ A4 (AA 2) (AA 0)) (AB (AA 1) AC)))) AC)) (AF 5))
  (AH (BH (aS (Az (A_ MH (AE (Iq K) [] E0 (AB (AA 0) (AB (AA 5) AC))) (tC .non))) (Az (A_ MH (AE (Iq K) [] E0 (AB (AA 1) (AB (AA 5) AC))) (tC .non)))) (AY (tC .non)) BG)
  (AY (AA 5)))))))
def Rj:TS:=
 (AH (AN (AE (Hg K) [] E0 (AB (AA 0) AC)) (AF 2))
  (AH (AN (AE (Hg K) [] E0 (AB (AA 1) AC)) (AF 3))
  (AH (BH (HF (Ee (AA 0)) (Ee (AA 1))) (BT (DH K (tC (.ref (Gj K)))) (AF 4) (AH (AN (AE (KZ K) [] E0 (AB (AA 2) (AB (AA 3) (AB (A_ BA (AE (Gk K) [] E0 (AB (tC (.int 2)) (AB (AA 4) AC))) (tC (.int 1))) AC)))) (AF 5))
  (BH (Az (A_ Pa (AA 5) (tC .non))) (AY (AA 5)) BG))) BG)
  (AY (A_ gL (AE (Iu K) [] E0 (AB (Bj (AB (AA 2) AC)) (AB (Bj (AB (AA 3) AC)) AC))) (tC (.int 0)))))))
def Rk:TS:=
 (AH (AN (AE (Ek K) [] E0 (AB (AA 0) (AB (AA 1) AC))) (AF 2))
  (AH (BH (Az (A_ bI (AA 1) (tC (.int 0)))) (AN (S_ Bk (AA 2)) (AF 2)) BG)
  (AY (Ay (AB (A_ ED (AA 0) (AA 2)) (AB (A_ ED (AA 1) (AA 2)) AC))))))
def Rl:TS:=
 (AY (AE (Dr K) [] E0 (AB (A_ BZ (A_ A4 (A_ gT (AA 0) (tC (.int 0))) (A_ gT (AA 1) (tC (.int 1)))) (A_ A4 (A_ gT (AA 1) (tC (.int 0))) (A_ gT (AA 0) (tC (.int 1))))) (AB (A_ A4 (A_ gT (AA 0) (tC (.int 1))) (A_ gT (AA 1) (tC (.int 1)))) AC))))
def Rm:TS:=
 (AY (AE (Dr K) [] E0 (AB (A_ BA (A_ A4 (A_ gT (AA 0) (tC (.int 0))) (A_ gT (AA 1) (tC (.int 1)))) (A_ A4 (A_ gT (AA 1) (tC (.int 0))) (A_ gT (AA 0) (tC (.int 1))))) (AB (A_ A4 (A_ gT (AA 0) (tC (.int 1))) (A_ gT (AA 1) (tC (.int 1)))) AC))))
def Rn:TS:=
 (AY (AE (Dr K) [] E0 (AB (A_ A4 (A_ gT (AA 0) (tC (.int 0))) (A_ gT (AA 1) (tC (.int 0)))) (AB (A_ A4 (A_ gT (AA 0) (tC (.int 1))) (A_ gT (AA 1) (tC (.int 1)))) AC))))
def Ro:TS:=
 (AY (AE (Dr K) [] E0 (AB (A_ A4 (A_ gT (AA 0) (tC (.int 0))) (A_ gT (AA 1) (tC (.int 1)))) (AB (A_ A4 (A_ gT (AA 0) (tC (.int 1))) (A_ gT (AA 1) (tC (.int 0)))) AC))))
def yX:TS:=
 (AH (AN (AE (Gk K) [] E0 (AB (A_ gT (AA 0) (tC (.int 0))) (AB (G_ GZ (AB (AA 1) AC)) AC))) (AF 2))
  (AH (AN (AE (Gk K) [] E0 (AB (A_ gT (AA 0) (tC (.int 1))) (AB (G_ GZ (AB (AA 1) AC)) AC))) (AF 3))
  (AH (BH (Az (A_ cf (AA 1) (tC (.int 0)))) (AY (Ay (AB (AA 2) (AB (AA 3) AC)))) BG)
  (AH (BH (Az (A_ bI (AA 2) (tC (.int 0)))) (AY (Ay (AB (S_ Bk (AA 3)) (AB (S_ Bk (AA 2)) AC)))) BG)
  (AY (Ay (AB (AA 3) (AB (AA 2) AC))))))))
def Rq (_:W.Frag):TS:=
 (AH (AN (G_ CG (AB (AA 0) AC)) (AF 1))
  (AH (D8 (HF (Az (A_ az (AA 1) (tC (.int 0)))) (Az (A_ ay (A_ gT (A_ gL (AA 0) (A_ BA (AA 1) (tC (.int 1)))) (tC (.int 0))) (tC (.int 0))))) (EY 1 (tC (.int 1)) BA))
  (AY (G_ E5 (AB (aV sL (AA 0) FW (Ec (AA 1))) AC)))))
def Rs:TS:=
 (AH (AN (tC (.int 1)) (AF 1))
  (AH (BT (DH K (AA 0)) (AF 2) (EY 1 (A_ E6 (A_ (aI K) (AA 2) (tC (.int 1))) (AE (Ek K) [] E0 (AB (AA 1) (AB (A_ (aI K) (AA 2) (tC (.int 1))) AC)))) A4))
  (AY (Ay (AB (BY (DH K (AA 0)) [none,some 1] (AF 0) (A_ A4 (A_ (aI K) (AA 0) (tC (.int 0))) (A_ E6 (AA 1) (A_ (aI K) (AA 0) (tC (.int 1)))))) (AB (AA 1) AC))))))
def Ru:TS:=
 (AY (AE (DO K) [] E0 (AB (BY (DG K (AA 0)) [none,some 1] (AF 0) (AE (Dr K) [] E0 (AB (AA 0) (AB (AA 1) AC)))) AC)))
def Rv (_:W.Frag):TS:=
 (AY (bu (Az (A_ bI (AA 1) (G_ DV (AB (AA 0) AC)))) (A_ gT (AA 0) (AA 1)) (Ay (AB (tC (.int 0)) (AB (tC (.int 1)) AC)))))
def yY:TS:=
 (AY (A_ (MV K) (A_ (Pk K) (Ay (AB (Ay (AB (tC (.int 0)) (AB (tC (.int 1)) AC))) AC)) (AA 0)) (Ay (AB (Ay (AB (tC (.int 1)) (AB (tC (.int 1)) AC))) AC))))
def Rw:TS:=
 (AY (AE (DO K) [] E0 (AB (BY (Cg (AB (G_ Ga (AB (G_ DV (AB (AA 0) AC)) (AB (G_ DV (AB (AA 1) AC)) AC))) AC)) [none,some 0,some 1] (AF 0) (AE (Mz K) [] E0 (AB (AE (Go K) [] E0 (AB (AA 1) (AB (AA 0) AC))) (AB (AE (Go K) [] E0 (AB (AA 2) (AB (AA 0) AC))) AC)))) AC)))
def Rx:TS:=
 (AY (AE (DO K) [] E0 (AB (BY (Cg (AB (G_ Ga (AB (G_ DV (AB (AA 0) AC)) (AB (G_ DV (AB (AA 1) AC)) AC))) AC)) [none,some 0,some 1] (AF 0) (AE (Ke K) [] E0 (AB (AE (Go K) [] E0 (AB (AA 1) (AB (AA 0) AC))) (AB (AE (Go K) [] E0 (AB (AA 2) (AB (AA 0) AC))) AC)))) AC)))
def Ry:TS:=
 (AH (AN (AE (El K) [] E0 (AB (AA 0) AC)) (AF 2))
  (AH (AN (AE (El K) [] E0 (AB (AA 1) AC)) (AF 3))
  (AY (AE (Gn K) [] E0 (AB (AE (Kd K) [] E0 (AB (A_ gT (AA 2) (tC (.int 0))) (AB (A_ gT (AA 3) (tC (.int 0))) AC))) (AB (A_ A4 (A_ gT (AA 2) (tC (.int 1))) (A_ gT (AA 3) (tC (.int 1)))) AC))))))
def Rz:TS:=
 (AY (AE (DO K) [] E0 (AB (BY (DH K (AA 0)) [none,some 1] (AF 0) (AE (Iw K) [] E0 (AB (AA 0) (AB (AA 1) AC)))) AC)))
def yZ (_:W.Frag):TS:=
 (EY 5 (AA 10) E6)
def xD:TS:=
 (AH (AN (AE (Io K) [] E0 (AB (AA 4) (AB (AA 10) AC))) (AF 4))
  (yZ K))
def R4:TS:=
 (AH (AN (AE (Im K) [] E0 (AB (AA 4) (AB (AA 5) AC))) (AF 10))
  (xD K))
def xE:TS:=
 (AH (EY 5 (A_ ED (AA 6) (AA 9)) A4)
  (R4 K))
def R8:TS:=
 (AH (AN (AE (Ip K) [] E0 (AB (AA 4) (AB (A_ ED (AA 6) (AA 9)) (AB (A_ gT (AA 3) (tC (.int 0))) (AB (A_ ED (A_ gL (AA 4) (S_ Bk (tC (.int 1)))) (AA 9)) (AB (AA 8) AC)))))) (AF 4))
  (xE K))
def xF:TS:=
 (AH (AN (AE (Ek K) [] E0 (AB (A_ gL (AA 4) (S_ Bk (tC (.int 1)))) (AB (AA 6) AC))) (AF 9))
  (R8 K))
def SC:TS:=
 (AH (AN (AE (Dr K) [] E0 (AB (A_ A4 (A_ gL (AA 4) (S_ Bk (tC (.int 1)))) (A_ gT (AA 3) (tC (.int 1)))) (AB (A_ A4 (AA 5) (AA 6)) AC))) (FU (AA 7) (AA 8) DU))
  (xF K))
def xG:TS:=
 (AH (AN (A_ BA (G_ CG (AB (AA 4) AC)) (G_ DV (AB (AA 1) AC))) (AF 8))
  (SC K))
def SE:TS:=
 (AY (Ay (AB (AE (DO K) [] E0 (AB (AA 7) AC)) (AB (AE (Gn K) [] E0 (AB (AA 4) (AB (AA 5) AC))) AC))))
def xH:TS:=
 (AH (D8 (Az (A_ cf (G_ CG (AB (AA 4) AC)) (G_ DV (AB (AA 1) AC)))) (xG K))
  (SE K))
def xJ:TS:=
 (AH (AN (A_ FY (Bj (AB (Ay (AB (tC (.int 0)) (AB (tC (.int 1)) AC))) AC)) (G_ Ga (AB (A_ BZ (A_ BA (G_ (Pn K) (AB (AA 0) AC)) (G_ DV (AB (AA 1) AC))) (tC (.int 1))) (AB (tC (.int 0)) AC)))) (AF 7))
  (xH K))
def xK:TS:=
 (AH (AN (A_ gL (A_ gT (AA 3) (tC (.int 0))) (S_ Bk (tC (.int 1)))) (AF 6))
  (xJ K))
def xL:TS:=
 (AH (AN (A_ gT (AA 2) (tC (.int 1))) (AF 5))
  (xK K))
def xM:TS:=
 (AH (AN (A_ gT (AA 2) (tC (.int 0))) (AF 4))
  (xL K))
def xN:TS:=
 (AH (AN (AE (El K) [] E0 (AB (AA 1) AC)) (AF 3))
  (xM K))
def xO:TS:=
 (AH (AN (AE (El K) [] E0 (AB (AA 0) AC)) (AF 2))
  (xN K))
def SF:TS:=
 (AH (AN (AE (Ka K) [] E0 (AB (A_ gT (AE (El K) [] E0 (AB (AA 0) AC)) (tC (.int 0))) (AB (A_ gT (AE (El K) [] E0 (AB (AA 1) AC)) (tC (.int 0))) AC))) (AF 2))
  (AY (bu (Ee (AA 2)) (AE (Gn K) [] E0 (AB (AA 2) (AB (A_ gL (AA 2) (S_ Bk (tC (.int 1)))) AC))) (Ay AC))))
def SG:TS:=
 (AY (AE (Gn K) [] E0 (AB (BY (Fd K (AB (AA 7) AC)) [none,none,some 3] (Dn 2 (CK (AF 0) (CK (AF 1) Di))) (A_ A4 (AA 1) (A_ gL (AA 2) (AA 0)))) (AB (A_ A4 (A_ gT (AA 2) (tC (.int 1))) (A_ gL (AA 3) (AA 5))) AC))))
def SH:TS:=
 (AH (AN (AE (Kh K) [] E0 (AB (AA 6) (AB (A_ gT (AA 1) (tC (.int 0))) AC))) (AF 7))
  (SG K))
def SI:TS:=
 (AH (AN (BY (Fd K (AB (A_ gT (AA 2) (tC (.int 0))) AC)) [none,none,some 3,some 5] (Dn 2 (CK (AF 0) (CK (AF 1) Di))) (A_ A4 (AA 1) (A_ gL (AA 2) (A_ BA (AA 3) (AA 0))))) (AF 6))
  (SH K))
def SJ:TS:=
 (AH (AN (A_ BA (G_ DV (AB (AA 0) AC)) (tC (.int 1))) (AF 5))
  (SI K))
def SK:TS:=
 (AH (BT (DH K (AA 0)) (AF 4) (GU (b8 K "list" HK (AA 3) (AB (A_ A4 (A_ gL (AA 3) (S_ Bk (tC (.int 1)))) (A_ gT (AA 1) (tC (.int 1)))) AC))))
  (SJ K))
def NG:TS:=
 (AH (AN (Bj (AB (tC (.int 1)) AC)) (AF 3))
  (SK K))
def xP:TS:=
 (AH (AN (AE (El K) [] E0 (AB (AA 0) AC)) (AF 2))
  (NG K))
def xQ:TS:=
 (AH (AN (AE (Ft K) [] E0 (AB (AA 0) (AB (AA 1) AC))) (AF 2))
  (AY (AE (Hj K) [] E0 (AB (AE (EF K) [] E0 (AB (AA 0) (AB (AA 2) AC))) (AB (AE (EF K) [] E0 (AB (AA 1) (AB (AA 2) AC))) AC)))))
def SL:TS:=
 (AH (AN (AE (Ix K) [] E0 (AB (Ay (AB (tC (.int 1)) (AB (tC (.int 1)) AC))) (AB (A_ gT (AA 1) (S_ Bk (tC (.int 1)))) AC))) (AF 2))
  (AY (Ay (AB (AE (Iy K) [] E0 (AB (AA 0) (AB (AA 2) AC))) (AB (AE (Iy K) [] E0 (AB (AA 1) (AB (AA 2) AC))) AC)))))
def SN:TS:=
 (AY (A_ gT (AE (Kc K) [] E0 (AB (AA 0) (AB (AA 1) AC))) (tC (.int 0))))
def xR (_:W.Frag):TS:=
 (AY (Ay (AB (AA 0) (AB (Ay (AB (Ay (AB (tC (.int 1)) (AB (tC (.int 1)) AC))) AC)) AC))))
def xS:TS:=
 (AY (AE (Hn K) [] E0 (AB (AE (DO K) [] E0 (AB (Bj (AB (AA 0) AC)) AC)) AC)))
def xT:TS:=
 (AY (Ay (AB (AE (EF K) [] E0 (AB (AA 4) (AB (AA 5) AC))) (AB (AE (EF K) [] E0 (AB (AE (Ci K) [] E0 (AB (A_ (aI K) (AA 0) (tC (.int 1))) (AB (AA 3) AC))) (AB (AA 5) AC))) AC))))
def xU:TS:=
 (AH (AN (AE (Ft K) [] E0 (AB (AA 4) (AB (AA 2) AC))) (AF 5))
  (xT K))
def xV:TS:=
 (AH (AN (AE (JB K) [] E0 (AB (AE (Ci K) [] E0 (AB (A_ (aI K) (AA 0) (tC (.int 0))) (AB (AA 3) AC))) (AB (AE (Ci K) [] E0 (AB (A_ gT (AA 1) (tC (.int 0))) (AB (AE (EF K) [] E0 (AB (A_ (aI K) (AA 0) (tC (.int 1))) (AB (AA 2) AC))) AC))) AC))) (AF 4))
  (xU K))
def xW:TS:=
 (AH (AN (AE (EF K) [] E0 (AB (A_ gT (AA 1) (tC (.int 1))) (AB (AA 2) AC))) (AF 3))
  (xV K))
def xX:TS:=
 (AH (AN (AE (Ft K) [] E0 (AB (A_ (aI K) (AA 0) (tC (.int 1))) (AB (A_ gT (AA 1) (tC (.int 1))) AC))) (AF 2))
  (xW K))
def SO:TS:=
 (AY (Ay (AB (AE (Ci K) [] E0 (AB (A_ gT (AA 2) (tC (.int 0))) (AB (A_ gT (AA 3) (tC (.int 0))) AC))) (AB (AE (Ci K) [] E0 (AB (A_ gT (AA 2) (tC (.int 1))) (AB (A_ gT (AA 3) (tC (.int 1))) AC))) AC))))
def SQ:TS:=
 (AH (AN (AE (FE K) [] E0 (AB (A_ gT (AA 1) (tC (.int 0))) (AB (A_ gT (AA 0) (tC (.int 1))) AC))) (AF 3))
  (SO K))
def SR:TS:=
 (AH (AN (AE (FE K) [] E0 (AB (A_ gT (AA 0) (tC (.int 0))) (AB (A_ gT (AA 1) (tC (.int 1))) AC))) (AF 2))
  (SQ K))
def xY:TS:=
 (AY (AE (Hl K) [] E0 (AB (AE (JC K) [] E0 (AB (AE (FG K) [] E0 (AB (AA 1) (AB (AE (Ix K) [] E0 (AB (Ay (AB (tC (.int 1)) (AB (tC (.int 1)) AC))) (AB (A_ gT (AA 0) (tC (.int 1))) AC))) AC))) (AB (AE (Ke K) [] E0 (AB (Ay (AB (tC (.int 0)) (AB (tC (.int 1)) AC))) (AB (A_ gT (AA 0) (tC (.int 2))) AC))) AC))) (AB (A_ gT (AA 0) (tC (.int 0))) AC))))
def xZ:TS:=
 (AY (AE (DO K) [] E0 (AB (BY (HN K (AB (AA 0) AC)) [none,none,some 1] (Dn 2 (CK (AF 0) (CK (AF 1) Di))) (AE (Iw K) [] E0 (AB (AA 1) (AB (AE (Kg K) [] E0 (AB (AA 2) (AB (AA 0) AC))) AC)))) AC)))
def SS:TS:=
 (AH (AN (Bj AC) (AF 2))
  (AH (BT (DH K (AA 0)) (AF 3) (GU (b8 K "list" Jp (AA 2) (AB (A_ Li (Bj (AB (AA 3) AC)) (A_ FY (Bj (AB (Ay (AB (tC (.int 0)) (AB (tC (.int 1)) AC))) AC)) (A_ BA (AA 1) (tC (.int 1))))) AC))))
  (AY (AE (DO K) [] E0 (AB (AA 2) AC)))))
def wA:TS:=
 (AY (AE (DO K) [] E0 (AB (G_ MA (AB (Pj (AA 0) (AA 2) (AA 1)) AC)) AC)))
def ST:TS:=
 (AN (AE (Gp K) [] E0 (AB (AA 2) (AB (AE (Hk K) [] E0 (AB (AE (Hn K) [] E0 (AB (AE (Kj K) [] E0 (AB (AA 3) AC)) AC)) (AB (AE (Hj K) [] E0 (AB (AE (Ki K) [] E0 (AB (AA 0) (AB (A_ gT (AA 4) (tC (.int 0))) AC))) (AB (AA 5) AC))) AC))) AC))) (AF 2))
def SU:TS:=
 (AH (AN (AE (Ki K) [] E0 (AB (AA 0) (AB (A_ gT (AA 4) (tC (.int 1))) AC))) (AF 5))
  (ST K))
def SV (_:W.Frag):TS:=
 (AY (AA 2))
def SW:TS:=
 (AH (BT (HN K (AB (AA 1) AC)) (Dn 2 (CK (AF 3) (CK (AF 4) Di))) (SU K))
  (SV K))
def wB:TS:=
 (AH (AN (tC (.ref (He K))) (AF 2))
  (SW K))
def SX:TS:=
 (AY (G_ E5 (AB (BY (Cg (AB (AA 2) AC)) [none,some 0,some 6,some 7,some 2] (AF 0) (AE (M4 K) [] E0 (AB (AA 1) (AB (AE (FE K) [] E0 (AB (AE (Gs K) [] E0 (AB (AA 3) (AB (AA 4) (AB (AA 0) AC)))) (AB (AA 2) AC))) AC)))) AC)))
def SY:TS:=
 (AH (AN (AE (Ci K) [] E0 (AB (A_ gT (AA 1) (tC (.int 0))) (AB (AA 5) AC))) (AF 7))
  (SX K))
def SZ:TS:=
 (AH (AN (AE (Ci K) [] E0 (AB (AA 3) (AB (AE (Gs K) [] E0 (AB (AE (Ci K) [] E0 (AB (AA 4) (AB (AA 5) AC))) (AB (AA 2) (AB (tC (.int 0)) AC)))) AC))) (AF 6))
  (SY K))
def Sa:TS:=
 (AH (AN (AE (M6 K) [] E0 (AB (AA 4) (AB (AA 2) AC))) (AF 5))
  (SZ K))
def Sb:TS:=
 (AH (AN (AE (EF K) [] E0 (AB (A_ gT (AA 1) (tC (.int 1))) (AB (AE (Hl K) [] E0 (AB (AA 3) (AB (AA 2) AC))) AC))) (AF 4))
  (Sa K))
def Sc:TS:=
 (AH (AN (AE (M5 K) [] E0 (AB (A_ gT (AA 1) (tC (.int 1))) (AB (AA 2) AC))) (AF 3))
  (Sb K))
def wC:TS:=
 (AH (AN (A_ gT (AA 0) (tC (.int 0))) (AF 2))
  (Sc K))
def wD:TS:=
 (AH (AN (Ay AC) (AF 2))
  (AH (BT (Cg (AB (AA 1) AC)) (AF 3) (AN (AE (Ft K) [] E0 (AB (AA 2) (AB (AE (Gs K) [] E0 (AB (AA 0) (AB (AA 1) (AB (AA 3) AC)))) AC))) (AF 2)))
  (AY (AA 2))))
def Sd:TS:=
 (AY (AE (Ci K) [] E0 (AB (AA 2) (AB (AE (Hl K) [] E0 (AB (AE (FG K) [] E0 (AB (AA 3) (AB (Ay (AB (S_ Bk (tC (.int 1))) (AB (tC (.int 1)) AC))) AC))) (AB (tC (.int 2)) AC))) AC))))
def Se:TS:=
 (AH (AN (AE (Gs K) [] E0 (AB (AE (Ci K) [] E0 (AB (AA 0) (AB (AA 2) AC))) (AB (tC (.int 2)) (AB (tC (.int 0)) AC)))) (AF 3))
  (Sd K))
def Sf:TS:=
 (AH (AN (AE (FG K) [] E0 (AB (AA 0) (AB (Ay (AB (S_ Bk (tC (.int 1))) (AB (tC (.int 1)) AC))) AC))) (AF 2))
  (Se K))
def Sg:TS:=
 (AH (BH (Az (A_ ay (AA 1) (tC (.int 3)))) (AY (AE (M7 K) [] E0 (AB (AA 0) AC))) BG)
  (Sf K))
def wE:TS:=
 (AH (BH (Az (A_ ay (AA 1) (tC (.int 2)))) (AY (AE (FG K) [] E0 (AB (AA 0) (AB (Ay (AB (S_ Bk (tC (.int 1))) (AB (tC (.int 1)) AC))) AC)))) BG)
  (Sg K))
def Si (_:W.Frag):TS:=
 (AY (AA 2))
def Sj:TS:=
 (AH (BT (Cg (AB (tC (.int 3)) AC)) (AF 3) (AN (AE (JB K) [] E0 (AB (AA 2) (AB (AE (Ci K) [] E0 (AB (A_ gL (AA 1) (AA 3)) (AB (AE (Kf K) [] E0 (AB (A_ gL (AA 1) (AA 3)) (AB (A_ gL (AA 1) (A_ BA (AA 3) (tC (.int 1)))) AC))) AC))) AC))) (AF 2)))
  (Si K))
def Sk:TS:=
 (AH (AN (Ay AC) (AF 2))
  (Sj K))
def wF:TS:=
 (AH (AN (BY (Cg (AB (tC (.int 3)) AC)) [none,some 0] (AF 0) (AE (Ci K) [] E0 (AB (AE (Kj K) [] E0 (AB (AA 0) AC)) (AB (AE (Hl K) [] E0 (AB (AE (Gs K) [] E0 (AB (AA 1) (AB (tC (.int 3)) (AB (AA 0) AC)))) (AB (tC (.int 3)) AC))) AC)))) (AF 1))
  (Sk K))
def Sl:TS:=
 (AY (AE (Hj K) [] E0 (AB (A_ gL (AA 2) (tC (.int 0))) (AB (A_ gL (AA 2) (tC (.int 1))) AC))))
def wG:TS:=
 (AH (AN (BY (DH K (AA 1)) [none,some 0] (AF 0) (AE (FG K) [] E0 (AB (AE (JC K) [] E0 (AB (AA 0) (AB (A_ gT (AA 1) (tC (.int 2))) AC))) (AB (A_ gT (AA 1) (tC (.int 1))) AC)))) (AF 2))
  (Sl K))
def Sm (_:W.Frag):TS:=
 (AN (A_ BZ (A_ A4 (AA 5) (tC (.int 1999999973))) (AA 4)) (AF 5))
def Sn:TS:=
 (AH (AN (A_ Cn (A_ BZ (A_ BZ (A_ A4 (AA 4) (tC (.int 99991))) (AA 3)) (A_ A4 (tC (.int 39373)) (AA 6))) (tC (.int 1999999973))) (AF 4))
  (Sm K))
def So (_:W.Frag):TS:=
 (AY (Bj (AB (AA 5) (AB (tC (.int 0)) AC))))
def Ss:TS:=
 (AH (BH (HF (Az (A_ az (G_ (IO K) (AB (AA 0) AC)) (tC (.int 0)))) (Az (A_ ay (A_ Cn (A_ (gS K) (AA 0) (tC (.int 0))) (tC (.int 2))) (tC (.int 0))))) (AY (Bj (AB (G_ GZ (AB (AA 2) AC)) (AB (AA 5) AC)))) BG)
  (So K))
def Su:TS:=
 (AH (BT (Cg (AB (tC (.int 9)) AC)) (AF 6) (Sn K))
  (Ss K))
def Sv:TS:=
 (AH (AN (tC (.int 0)) (AF 5))
  (Su K))
def Sw:TS:=
 (AH (AN (A_ Cn (A_ A4 (AA 3) (AA 3)) (tC (.int 1999999973))) (AF 4))
  (Sv K))
def NH:TS:=
 (AH (AN (A_ Cn (A_ A4 (A_ BZ (A_ BZ (A_ BZ (A_ Cn (AA 2) (tC (.int 2147483647))) (A_ A4 (tC (.int 7919)) (AA 1))) (A_ Cn (G_ MM (AB (aV (sS K) (AA 0) FW (Ec (tC (.int 1)))) AC)) (tC (.int 99991)))) (tC (.int 11))) (tC (.int 48271))) (tC (.int 2147483629))) (AF 3))
  (Sw K))
def Sy:TS:=
 (AH (BH (Az (A_ az (G_ (IO K) (AB (AA 0) AC)) (tC (.int 1)))) (AN (A_ (gS K) (AA 0) (A_ BZ (tC (.int 1)) (A_ Cn (AA 1) (A_ BA (G_ (IO K) (AB (AA 0) AC)) (tC (.int 1)))))) (AF 2)) BG)
  (NH K))
def S3:TS:=
 (AH (AN (tC (.int 0)) (AF 2))
  (Sy K))
def TC (_:W.Frag):TS:=
 (AY (AA 2))
def TD:TS:=
 (AH (AN (A_ E6 (A_ gL (AA 0) (tC (.int 0))) (AA 1)) (FU (AA 0) (tC (.int 0)) DU))
  (TC K))
def NI:TS:=
 (AH (AN (A_ Cn (A_ gL (AA 0) (tC (.int 0))) (AA 1)) (AF 2))
  (TD K))
def TF:TS:=
 (AH (BH (Az (A_ ay (A_ gL (AA 0) (tC (.int 0))) (tC (.int 0)))) (AN (Ay (AB (A_ gL (AA 0) (tC (.int 1))) (AB (tC (.int 0)) AC))) (Dn 2 (CK (FU (AA 0) (tC (.int 0)) DU) (CK (FU (AA 0) (tC (.int 1)) DU) Di)))) BG)
  (NI K))
def TH:TS:=
 (AY (AE (Dr K) [] E0 (AB (A_ BZ (A_ BA (AE (DX K) [] E0 (AB (AA 0) (AB (A_ BA (A_ A4 (tC (.int 2)) (A_ IM (tC (.int 10)) (tC (.int 12)))) (tC (.int 1))) AC))) (A_ IM (tC (.int 10)) (tC (.int 12)))) (tC (.int 1))) (AB (A_ BZ (tC (.int 1)) (AE (DX K) [] E0 (AB (AA 0) (AB (A_ IM (tC (.int 10)) (tC (.int 6))) AC)))) AC))))
def TJ:TS:=
 (AH (BH (Az (A_ bI (AA 1) (tC (.int 98)))) (AY (AE (Dr K) [] E0 (AB (A_ BA (AE (DX K) [] E0 (AB (AA 0) (AB (tC (.int 19)) AC))) (tC (.int 9))) (AB (A_ BZ (tC (.int 1)) (AE (DX K) [] E0 (AB (AA 0) (AB (tC (.int 6)) AC)))) AC)))) BG)
  (TH K))
def TK:TS:=
 (AH (BH (Az (A_ bI (AA 1) (tC (.int 70)))) (AY (AE (Dr K) [] E0 (AB (A_ BA (AE (DX K) [] E0 (AB (AA 0) (AB (tC (.int 7)) AC))) (tC (.int 3))) (AB (tC (.int 1)) AC)))) BG)
  (TJ K))
def TL:TS:=
 (AH (AN (AE (DX K) [] E0 (AB (AA 0) (AB (tC (.int 99)) AC))) (AF 1))
  (TK K))
def NJ:TS:=
 (AY (Ay (AB (A_ BZ (tC (.int 2)) (AE (DX K) [] E0 (AB (AA 0) (AB (tC (.int 3)) AC)))) (AB (AA 1) (AB (AE (Ho K) [] E0 (AB (AA 0) AC)) AC)))))
def TM:TS:=
 (AH (BH (Az (A_ bU (AA 1) (Ay (AB (tC (.int 0)) (AB (tC (.int 1)) AC))))) (AN (Ay (AB (A_ BZ (tC (.int 1)) (AE (DX K) [] E0 (AB (AA 0) (AB (tC (.int 3)) AC)))) (AB (tC (.int 1)) AC))) (AF 1)) BG)
  (NJ K))
def TN:TS:=
 (AH (AN (AE (Ho K) [] E0 (AB (AA 0) AC)) (AF 1))
  (TM K))
def wH:TS:=
 (AY (AE (DO K) [] E0 (AB (BY (Cg (AB (A_ BZ (tC (.int 1)) (AE (DX K) [] E0 (AB (AA 0) (AB (A_ BZ (AA 1) (tC (.int 1))) AC)))) AC)) [none,some 0] (AF 0) (AE (Ho K) [] E0 (AB (AA 1) AC))) AC)))
def wI:TS:=
 (AH (AN (AE (Kk K) [] E0 (AB (AA 0) (AB (AA 1) AC))) (AF 3))
  (AH (AN (AE (Kk K) [] E0 (AB (AA 0) (AB (AA 2) AC))) (AF 4))
  (AH (BH (Az (A_ bU (AA 4) (Ay AC))) (AN (Ay (AB (Ay (AB (tC (.int 1)) (AB (tC (.int 1)) AC))) AC)) (AF 4)) BG)
  (AY (AE (FE K) [] E0 (AB (AA 3) (AB (AA 4) AC)))))))
def TQ:TS:=
 (AH (BH (aS (Dh (tB (G_ Fa (AB (AA 0) (AB (tC (.ty "tuple")) AC))))) (Az (A_ aG (G_ DV (AB (AA 0) AC)) (tC (.int 2))))) (AY (tC (.bl false))) BG)
  (AH (BT (DH K (AA 0)) (AF 1) (BH (aS (Dh (tB (G_ Fa (AB (AA 1) (AB (tC (.ty "int")) AC))))) (tB (G_ Fa (AB (AA 1) (AB (tC (.ty "bool")) AC))))) (AY (tC (.bl false))) BG))
  (AY (A_ az (A_ gT (AA 0) (tC (.int 1))) (tC (.int 0))))))
def TR:TS:=
 (AH (BH (aS (Dh (tB (G_ Fa (AB (AA 0) (AB (tC (.ty "tuple")) AC))))) (Az (A_ aG (G_ DV (AB (AA 0) AC)) (tC (.int 2))))) (AY (tC (.bl false))) BG)
  (AH (BT (DH K (AA 0)) (AF 1) (BH (aS (Dh (tB (G_ Fa (AB (AA 1) (AB (tC (.ty "tuple")) AC))))) (Dh (tB (G_ PR (AB (BY (DH K (AA 1)) [none] (AF 0) (AE (Km K) [] E0 (AB (AA 0) AC))) AC))))) (AY (tC (.bl false))) BG))
  (AY (tC (.bl true)))))
def TU:TS:=
 (AY (A_ (Ld K) (Ay (AB (AE (Hk K) [] E0 (AB (A_ gT (AA 1) (S_ Bk (tC (.int 1)))) (AB (AA 2) AC))) AC)) (aV sT (AA 1) FW (Ec (S_ Bk (tC (.int 1)))))))
def wJ:TS:=
 (AH (AN (AE (Hn K) [] E0 (AB (AE (DO K) [] E0 (AB (Bj (AB (A_ gT (AA 0) (tC (.int 2))) (AB (A_ gT (AA 0) (tC (.int 1))) AC))) AC)) AC)) (AF 2))
  (TU K))
def Ko:TS:=
 (AY (A_ bU (AE (Hm K) [] E0 (AB (AA 0) (AB (AE (NF K) [] E0 (AB (AA 0) (AB (AA 1) AC))) AC))) (AE (Hk K) [] E0 (AB (AA 3) (AB (AE (Hn K) [] E0 (AB (Ay (AB (Ay (AB (tC (.int 0)) (AB (tC (.int 1)) AC))) (AB (Ay (AB (tC (.int 1)) (AB (tC (.int 1)) AC))) AC))) AC)) AC)))))
def TV:TS:=
 (AH (BH (Az (A_ bJ (AE (Hm K) [] E0 (AB (AA 0) (AB (AA 4) AC))) (AE (Gp K) [] E0 (AB (AA 3) (AB (AE (Hm K) [] E0 (AB (AA 0) (AB (AA 2) AC))) AC))))) (AY (tC (.bl false))) BG)
  (Ko K))
def TW:TS:=
 (AH (AN (G_ E5 (AB (BY (MU K (AB (AA 1) (AB (AA 2) AC))) [none,none] (Dn 2 (CK (AF 0) (CK (AF 1) Di))) (AE (Gp K) [] E0 (AB (AA 0) (AB (AA 1) AC)))) AC)) (AF 4))
  (TV K))
def TX:TS:=
 (AH (BH (Az (A_ bJ (AE (M8 K) [] E0 (AB (AA 0) (AB (AA 3) AC))) (AA 1))) (AY (tC (.bl false))) BG)
  (TW K))
def TY:TS:=
 (AH (BH (aS (Dh (tB (AE (NE K) [] E0 (AB (AA 3) AC)))) (Az (A_ bJ (AA 3) (AE (FE K) [] E0 (AB (A_ gT (AA 3) (tC (.int 0))) (AB (A_ gT (AA 3) (tC (.int 1))) AC)))))) (AY (tC (.bl false))) BG)
  (TX K))
def wK:TS:=
 (AH (AN (AE (Hm K) [] E0 (AB (AA 0) (AB (AA 1) AC))) (AF 3))
  (TY K))
def TZ:TS:=
 (GU (b8 K "list" HK (AA 5) (AB (A_ gL (Bj (AB (AE (NA K) [] E0 (AB (Ay (AB (tC (.int 0)) (AB (tC (.int 1)) AC))) AC)) (AB (AE (Kl K) [] E0 (AB (AA 2) (AB (tC (.int 1)) (AB (A_ BA (tC (.int 1)) (G_ IN (AB (A_ az (AA 6) (tC (.int 0))) AC))) AC)))) AC))) (AE (DX K) [] E0 (AB (AA 2) (AB (tC (.int 2)) AC)))) AC)))
def Ta:TS:=
 (AH (GU (b8 K "list" HK (AA 4) (AB (AE (Kl K) [] E0 (AB (AA 2) (AB (tC (.int 2)) (AB (A_ gL (Bj (AB (tC (.int 2)) (AB (tC (.int 1)) (AB (tC (.int 0)) AC)))) (A_ BZ (G_ IN (AB (A_ az (A_ gT (AA 3) (tC (.int 0))) (tC (.int 2))) AC)) (G_ IN (AB (A_ az (AA 6) (tC (.int 1))) AC)))) AC)))) AC)))
  (TZ K))
def wL:TS:=
 (BH (Dh (tB (AE (Kn K) [] E0 (AB (AA 3) (AB (G_ E5 (AB (AA 4) AC)) (AB (G_ E5 (AB (AA 5) AC)) AC)))))) (AY (tC (.bl false))) BG)
def Tb:TS:=
 (AH (BT (Cg (AB (A_ gT (AA 3) (tC (.int 0))) AC)) (AF 6) (Ta K))
  (wL K))
def Tc:TS:=
 (AH (AN (Bj AC) (AF 5))
  (Tb K))
def Td:TS:=
 (AH (AN (Bj AC) (AF 4))
  (Tc K))
def Te:TS:=
 (AH (AN (AE (ND K) [] E0 (AB (AA 2) AC)) (AF 3))
  (Td K))
def Tf:TS:=
 (AH (AN (AE (NC K) [] E0 (AB (AA 0) (AB (AA 1) AC))) (AF 2))
  (Te K))
def Tg (_:W.Frag):TS:=
 (AY (tC (.bl true)))
def wM:TS:=
 (AH (BT (Cg (AB (tC (.int 2)) AC)) (AF 1) (Tf K))
  (Tg K))
end
def NK {K:W.Frag} {H:Hp} {Q:VK} {E:XK} {p:Addr} {q:Addr} {xs:d7} {ys:d7} {l:cW} {m:cW} {b:Nat} {c:Nat} {e:Nat} {d:Nat} {N:Nat} (r:SqT K H p xs) (u:H q=some (.tup ys)) (v:NuK K H xs l) (w:Nums H ys m) (x:Gq b c l) (y:Gq b c m) (z:b<=200000) (A:c<=200000) (B:l.length<=60) (a:m.length<=60) (f:(l≠[]->m≠[]->Fp e (AK l)/\Fp e (AK m))) (h:l.length+m.length<2 ^ (d+1)) (i:l.length+m.length<=N+2) (j:2<=N) (k:(e+d+2)*N<=44490) (n:(l=[]->m=[]->Fm H Q [])) (o:((l≠[]\/m≠[])->∀ g,RC (co (AK l)) (co (AK m)) g->Prim g->Fm H Q (J' g))):Ft K [.ref p,.ref q] H Q E:=⟨p,q,xs,ys,l,m,b,c,e,d,N,rfl,r,u,v,w,x,y,z,A,B,a,f,h,i,j,k,n,o⟩
def JD {K:W.Frag} {H:Hp} {Q:VK} {E:XK} {p:Addr} {q:Addr} {xs:d7} {ys:d7} {l:cW} {m:cW} {b:Nat} {c:Nat} {d:Nat} {e:Nat} (j:SqT K H p xs) (n:H q=some (.tup ys)) (o:NuK K H xs l) (u:Nums H ys m) (v:Gq b c l) (w:Gq d e m) (x:l.length<=100) (y:m.length<=100) (z:b<=300000) (a:c<=300000) (f:d<=300000) (g:e<=300000) (h:∀ (r:Addr) (R:cW) (i:Hp),Same H i->Pl i r R->Gq (b+d+l.length) (c+e) R->R.length<=l.length+m.length - 1->(∀ k,B_ R k=cv (B_ l) (B_ m) l.length k)->Q (.ref r) i):Ci K [.ref p,.ref q] H Q E:=⟨p,q,xs,ys,l,m,b,c,d,e,rfl,j,n,o,u,v,w,x,y,z,a,f,g,h⟩
def Hr {K:W.Frag} {H:Hp} {Q:VK} {E:XK} {p:Addr} {q:Addr} {xs:d7} {ys:d7} {l:cW} {m:cW} {b:Nat} {c:Nat} {d:Nat} {e:Nat} (o:SqT K H p xs) (u:H q=some (.tup ys)) (v:NuK K H xs l) (w:Nums H ys m) (x:Gq b c l) (y:Gq d e m) (z:m≠[]) (A:l.length<=100) (B:m.length<=100) (a:c+(l.length+1 - m.length)*d<=400000) (f:b+(l.length+1 - m.length)*(d+1)+e<=900000) (g:e<=400000) (h:d<=400000) (i:MR (B_ m) (B_ l)) (j:∀ (r:Addr) (R:cW) (n:Hp),Same H n->Pl n r R->AW R->Nz R->R.length<=l.length+1 - m.length->(∀ k,B_ l k=cv (B_ R) (B_ m) R.length k)->Q (.ref r) n):EF K [.ref p,.ref q] H Q E:=⟨p,q,xs,ys,l,m,b,c,d,e,rfl,o,u,v,w,x,y,z,A,B,a,f,g,h,i,j⟩
def wN {f:Nu->Nu->Nu} {s:Rat} {K:W.Frag} {H:Hp} {Q:VK} {E:XK} {p:Addr} {q:Addr} {xs:d7} {ys:d7} {l:cW} {m:cW} {M:Int} {b:Nat} {c:Nat} (o:H p=some (.tup xs)) (u:H q=some (.tup ys)) (v:Nums H xs l) (w:Nums H ys m) (x:AW l) (y:AW m) (A:Ov l M) (B:Ov m M) (C:Bd c M) (a:(∀ z∈P_ l M,Bd b z)) (d:(∀ z∈P_ m M,Bd b z)) (e:b<=300000) (g:c<=300000) (h:l.length<=100) (i:m.length<=100) (j:∀ (r:Addr) (R:cW) (n:Hp),Same H n->Pl n r R->Gq (b+1) c R->R.length<=max l.length m.length->(∀ k,B_ R k=B_ l k+s*B_ m k)->Q (.ref r) n):JA f s K [.ref p,.ref q] H Q E:=⟨p,q,xs,ys,l,m,M,b,c,rfl,o,u,v,w,x,y,A,B,C,a,d,e,g,h,i,j⟩
variable {K:W.Frag} {vs:d7} {H:Hp} {Q:VK} {E:XK}
local macro_rules | `(tactic| rwa [$[$t:term],*]) => do
 let l : Array Lean.Term := (("AH AN AE AB AA AC AF FU L2.start BH bu Az L2.tB A_ ap rI L2.tC S_ rU BG AY Ay Bj Vr EY GU G_ V4 HF aS Dh Vl Vm Vn ay aG DU BZ BA A4 Lr Xy Cn O9 IM bI iLe az cf Bk gT gL gS GZ Ga Xz IN DV CG IO Fa X3 X4 X5 eqT X6 X8 YA List.map_cons List.map_nil List.length_cons List.length_nil List.replicate List.cons_append List.nil_append List.append_nil List.getElem?_cons_zero List.getElem?_cons_succ Option.some.injEq exists_eq_left' exists_eq_left V.int.injEq V.bl.injEq V.ref.injEq V.ty.injEq HO.tup.injEq HO.lst.injEq List.cons.injEq and_true true_and and_assoc exists_and_left List.set_cons_zero List.set_cons_succ decide_eq_true_eq decide_eq_false_iff_not Bool.not_eq_true' Bool.true_eq_false Bool.false_eq_true Bool.not_true Bool.not_false if_true if_false ite_true ite_false YG YH YB YC YD YE YF YI YJ Nat.zero_add Nat.reduceAdd Nat.reduceSub upd_same Int.cast_ofNat_Int decide_true decide_false eq_self not_true_eq_false not_false_eq_true Int.natCast_add Int.natCast_zero reduceCtorEq Nm Dn CK Di GV aV FW Ec sL sT E5 MA IX Ee Yt FY Li HK Jp Wa b8 WZ Ye Yg Yh Yk Y4 Y3 Yi Yj Yy MJ Pd MK MH Pa E6 ED Pc Jz CY Option.bind_some Option.bind_none Option.bind Option.join id_eq sS ZJ ZL Ek Gk Hf Im Io Ip Iq Ir Hg KQ Iu KR KS Hh Hi KT KU KW KY KZ Ka Dr DO El Gn Ft Kb Kc Ix Kd Ci Iy EF Go JA Hj FE aI MM Fa Kh DX Ho Km".splitOn " ").map λs => (⟨(Lean.mkIdent s.toName).raw⟩ : Lean.Term)).toArray
 `(tactic| simp only [$[$(l ++ t):term],*])
def JE {x:Int} (a:-1099511627776<x) (b:x<1099511627776):Bd 40 x:=by
 show x.natAbs<1099511627776;omega
def C6 {a b:Int} (c:Bd 60000000 a) (d:Bd 60000000 b):IntMulOk a b:=ZK c d ∅
def wO (h:Ek K vs H Q E):Qx K { nx:=λ_ d=>Q .non d,rt:=Q } (L2.start ["one","other","rest"] vs) H:=by
 obtain ⟨a,b,rfl,q⟩:=h;unfold Qx;rwa [];refine E4 (λm f d=>∃ (x y:Int) (r:d8),f=[some (.int x),some (.int y),r]/\d=H/\Int.gcd x y=Int.gcd a b/\m=y.natAbs) b.natAbs ⟨a,b,none,rfl,rfl,rfl,rfl⟩ ?_;rintro m f d ⟨x,y,r,rfl,rfl,g,rfl⟩;rwa [];refine Av (λc=>?_) (λc=>?_)
 ·refine ⟨λi j=>∃ k,k<y.natAbs/\_,λ_ _ h=>h,?_⟩;refine ⟨c,_,Xw x c,y,x.fmod y,_,rfl,rfl,?_,rfl⟩;rw [O7];exact g
 ·have n:y=0:=Decidable.not_not.mp c;subst n
  have e:(if x<0 then -x else x)=((Int.gcd a b:Nat):Int):=by
   rw [<-g,Int.gcd_zero_right];split <;> omega
  rw [e];exact q
def wP (h:Gk K vs H Q E):Qy K { nx:=λ_ f=>Q .non f,rt:=Q } (L2.start ["whole","n","result","square"] vs) H:=by
 obtain ⟨x,n,b,rfl,n0,B,J,q⟩:=h;unfold Qy;rwa []
 have p:∀ k:Nat,k<=n.toNat->Bd 60000000 (x ^ k):=λk hk=>(B.pow k).mono (by
  have:=CS b hk;omega)
 refine E4 (λm A f=>∃ r s:Nat,A=[some (.int x),some (.int (m:Int)),some (.int (x ^ r)),some (.int (x ^ s))]/\f=H/\r+s*m=n.toNat) n.toNat ⟨0,1,?_,rfl,⋯⟩ ?_
 ·have e:((n.toNat:Nat):Int)=n:=by omega
  rw [e,Int.pow_zero,show x ^ 1=x by rw [Int.pow_succ,Int.pow_zero,Int.one_mul]]
 rintro m A f ⟨r,s,rfl,rfl,L⟩;rwa [];refine Av (λc=>?_) (λc=>?_)
 ·have C:1<=m:=by omega
  have M:s<=s*m:=Nat.le_mul_of_pos_right s C;have D:Lo (m:Int) 2:=⟨∅,(Xv ∅ ∅).mono ∅⟩
  have i:s*m=(s+s)*(m / 2)+s*(m % 2):=by
   have e:m=2*(m / 2)+m % 2:=(Nat.div_add_mod m 2).symm;generalize m / 2=u at e ⊢;generalize m % 2=v at e ⊢;subst e;rw [Nat.mul_add];congr 1;rw [<-Nat.mul_assoc,B5 s 2];congr 1;omega
  have F:((m:Int) / 2)=((m / 2:Nat):Int):=by omega
  rw [F];refine ⟨λG I=>∃ d,d<m/\_,λ_ _ h=>h,?_⟩
  have j:∀ g:Nat,g+(s+s)*(m / 2)=n.toNat->Lo (m:Int) 2/\if 0<((m / 2:Nat):Int) then IntMulOk (x ^ s) (x ^ s)/\∃ d,d<m/\∃ r a,[some (V.int x),some (V.int ((m / 2:Nat):Int)),some (V.int (x ^ g)),some (V.int (x ^ s*x ^ s))]=[some (V.int x),some (V.int (d:Int)),some (V.int (x ^ r)),some (V.int (x ^ a))]/\f=f/\r+a*d=n.toNat
    else ∃ d,d<m/\∃ r a,[some (V.int x),some (V.int ((m / 2:Nat):Int)),some (V.int (x ^ g)),some (V.int (x ^ s))]=[some (V.int x),some (V.int (d:Int)),some (V.int (x ^ r)),some (V.int (x ^ a))]/\f=f/\r+a*d=n.toNat:=λg o=>by
   refine ⟨D,Av (λw=>?_) (λw=>?_)⟩
   ·exact ⟨C6 (p s ⋯) (p s ⋯),m / 2,⋯,g,s+s,by rw [Int.pow_add],rfl,o⟩
   ·have z:m / 2=0:=by omega
    rw [z] at o ⊢;exact ⟨0,⋯,g,s,rfl,rfl,⋯⟩
  refine ⟨∅,Av (λw=>⟨C6 (p r ⋯) (p s ⋯),?_⟩) (λw=>?_)⟩
  ·rw [<-Int.pow_add];have y:m % 2=1:=by omega
   rw [y] at i;exact j (r+s) ⋯
  ·have y:m % 2=0:=by omega
   rw [y] at i;exact j r ⋯
 ·have z:m=0:=by omega
  subst z;have e:r=n.toNat:=by omega
  subst e;exact q
def Th {H:Hp} {Q:VK} {xs:d7} {l:cW} {m:Nat} (a:Nums H xs l) (b:m<=l.length) (e:Ba l l.length=m) (q:Fm H Q (trim l)) :
  ∀ (p:Addr),H p=none->∀ (r:Addr),upd H p (.lst (Bu xs none (some (m:Int)))) r=none->Q (V.ref r) (upd (upd H p (.lst (Bu xs none (some (m:Int))))) r (.tup (Bu xs none (some (m:Int))))):=λp hp r c=>by
 have s:=(AR hp (.lst (Bu xs none (some (m:Int))))).trans (AR c (.tup (Bu xs none (some (m:Int)))));refine q r _ _ s upd_same ?_;rw [Mo (by rw [a.length];exact b)];rw [Mo (by rw [a.length];exact b)] at s;unfold trim;rw [e];exact (a.take m).tp (M_ s)
def NO (l:cW) (m:Nat):Ba l (m+1)=if (l.getD m (1,1)).1=0 then Ba l m else m+1:=rfl
def wQ (h:DO K vs H Q E):Rq K { nx:=λ_ b=>Q .non b,rt:=Q } (L2.start ["row","many"] vs) H:=by
 obtain ⟨p,n,l,rfl,hp,d,A,q⟩:=h;unfold Rq;rwa [hp];have o:=d.length;refine E4 (λm g b=>g=[some (.ref p),some (.int (m:Int))]/\b=H/\Ba l m=Ba l l.length/\m<=l.length) n.length ⟨rfl,rfl,by rw [o],⋯⟩ ?_;rintro m g b ⟨rfl,rfl,a,j⟩;rwa [hp];refine Av (λc=>?_) (λc=>?_)
 ·obtain ⟨k,rfl⟩:∃ k,m=k+1:=⟨m - 1,⋯⟩;obtain ⟨v,r,u,rfl,e⟩:=d.at (i:=k) ⋯ (1,1);rw [NO] at a;refine ⟨_,DW ⋯ r,u,rfl,_,e,_,rfl,rfl,Av (λf=>?_) (λf=>?_)⟩
  ·have z:(l.getD k (1,1)).1=0:=by injection f
   rw [mF z] at a;exact ⟨λw x=>∃ y,y<k+1/\_,λ_ _ h=>h,k,⋯,by rw [show ((k+1:Nat):Int) - 1=(k:Int) by omega],rfl,a,⋯⟩
  ·have z:(l.getD k (1,1)).1≠0:=λz=>f (by rw [z]);rw [mE z] at a;exact Th d j a.symm q
 ·have z:m=0:=by omega
  subst z;exact Th d j a.symm q
def wR {l:cW} {i:Nat} {q:Nu} (h:l[i]?=some q):(l.take (i+1)).foldl (λB q=>B*(q.2 / ((Int.gcd B q.2:Nat):Int))) 1=(l.take i).foldl (λB q=>B*(q.2 / ((Int.gcd B q.2:Nat):Int))) 1*(q.2 / ((Int.gcd ((l.take i).foldl (λB q=>B*(q.2 / ((Int.gcd B q.2:Nat):Int))) 1) q.2:Nat):Int)):=by
 rw [Eu,h,List.foldl_append];rfl
def Hs {a b:Type} {l:List a} {i:Nat} {q:a} (f:a->b) (h:l[i]?=some q):(l.take (i+1)).map f=(l.take i).map f++[f q]:=by
 rw [Eu,h,D4];rfl
def Ti (a b:Nat):(if (b:Int) > (a:Int) then (b:Int) else (a:Int)).toNat=max a b:=by split <;> omega
def Tj {a:Type} (f:Nat->a) (i:Nat):(List.range (i+1)).map f=(List.range i).map f++[f i]:=by rw [List.range_succ,D4];rfl
def CI (n:Nat) (f:dF):(Ad n f).length=n:=by unfold Ad;rw [AO,AO,BD]
def CN {n k:Nat} (f:dF) (h:k<n):(Ad n f)[k]?=some (.int (f k)):=by
 unfold Ad;rw [Aj,Aj,DD h];rfl
def Gu {n k:Nat} {f g:dF} {z:Int} (h:k<n) (b:g k=z) (c:∀ i,i<n->i≠k->g i=f i):(Ad n f).set k (.int z)=Ad n g:=by
 apply List.ext_getElem?;intro i;by_cases a:i<n
 ·by_cases e:i=k
  ·subst e;rw [List.getElem?_set_self (by rw [CI];exact a),CN g a,b]
  ·rw [List.getElem?_set_ne (λz=>e z.symm),CN f a,CN g a,c i a e]
 ·rw [Bh (by rw [List.length_set,CI];omega),Bh (by rw [CI];omega)]
def Gv {n:Nat} {f g:dF} (h:∀ i,i<n->g i=f i):Ad n f=Ad n g:=by
 apply List.ext_getElem?;intro i;by_cases a:i<n
 ·rw [CN f a,CN g a,h i a]
 ·rw [Bh (by rw [CI];omega),Bh (by rw [CI];omega)]
def NP (n:Nat):(List.replicate n [V.int 0]).flatten=Ad n λ_=>0:=by
 rw [HW];apply List.ext_getElem?;intro i;by_cases a:i<n
 ·rw [CN _ a,Dx,mF a]
 ·rw [Dx,mE a,Bh (by rw [CI];omega)]
def Fu {n k:Nat} {i:Int} (e:i=(k:Int)) (h:k<n):aq n i=some k:=by
 subst e;unfold aq;rw [mF ⋯,mF ⋯];simp
def Pl.same {H c:Hp} {r:Addr} {L:cW} (h:Pl H r L) (s:Same H c):Pl c r L:=let ⟨d,a,b⟩:=h;⟨d,s _ _ a,b.tp (M_ s)⟩
def Pl.tp {H c:Hp} {r:Addr} {L:cW} (h:Pl H r L) (s:Tp H c):Pl c r L:=let ⟨d,a,b⟩:=h;⟨d,s _ _ a,b.tp s⟩
def Gw {m n:Nat} {x y:Int} (a:Bd m x) (b:Bd n y) (c:m<=60000000:=by decide) (d:n<=60000000:=by decide):IntMulOk x y:=C6 (a.mono c) (b.mono d)
def JF (ns:de) (m:Nat):C5 ns (m+1)=if ns.getD m 1=0 then C5 ns m else m+1:=rfl
def wS (h:Hf K vs H Q E):Q3 K { nx:=λ_ d=>Q .non d,rt:=Q } (L2.start ["row","many"] vs) H:=by
 obtain ⟨p,a,rfl,hp,q⟩:=h;unfold Q3;rwa [hp]
 have b:∀ m:Nat,m<=a.length->C5 a m=C5 a a.length->C5 a m=m->∀ r,H r=none->Q (V.ref r) (upd H r (.lst (Bu (a.map V.int) none (some (m:Int))))):=λm j n o r u=>by
  rw [Mo (by rw [AO];exact j),<-List.map_take,<-o,n];exact q r u
 refine E4 (λm g d=>g=[some (.ref p),some (.int (m:Int))]/\d=H/\C5 a m=C5 a a.length/\m<=a.length) a.length ⟨by rw [AO],rfl,rfl,AM _⟩ ?_;rintro m g d ⟨rfl,rfl,e,i⟩;rwa [hp];refine Av (λc=>?_) (λc=>?_)
 ·obtain ⟨k,rfl⟩:∃ k,m=k+1:=⟨m - 1,⋯⟩
  have v:(a.map V.int)[k]?=some (V.int (a.getD k 1)):=by
   rw [Aj,Ax ⋯,AT,Ax ⋯];rfl
  refine ⟨_,DW ⋯ v,rfl,Av (λf=>?_) (λf=>?_)⟩
  ·have z:a.getD k 1=0:=by injection f
   rw [JF,mF z] at e;exact ⟨λw x=>∃ y,y<k+1/\_,λ_ _ h=>h,k,⋯,by rw [show ((k+1:Nat):Int) - 1=(k:Int) by omega],rfl,e,⋯⟩
  ·have z:a.getD k 1≠0:=λz=>f (by rw [z]);exact b (k+1) i e (by rw [JF,mE z])
 ·have z:m=0:=by omega
  subst z;exact b 0 i e rfl
theorem NQ (ns:de):∀ m,C5 ns m<=m
 | 0=>AM 0
 | m+1=>by
   rw [JF];split
   ·exact Nat.le_succ_of_le (NQ ns m)
   ·exact AM _
def NS {ns:de}:(Cq ns).length=C5 ns ns.length:=by
 unfold Cq;rw [CB,Nat.min_eq_left (NQ ns ns.length)]
def Tk {ns:de} (k:Nat):(Cq ns).getD k 0=ns.getD k 0:=by
 have g:∀ (m:Nat),m<=ns.length->(∀ j,m<=j->j<ns.length->ns.getD j 0=0)->∀ j,C5 ns m<=j->j<ns.length->ns.getD j 0=0:=by
  intro m
  induction m with
  | zero=>intro _ h j i c;exact h j ⋯ c
  | succ m n=>
    intro o h j d f;rw [JF] at d;split at d
    ·rename_i z;refine n ⋯ (λj i c=>?_) j d f;by_cases e:j=m
     ·subst e;rw [AT,Ax c] at z ⊢;exact z
     ·exact h j ⋯ c
    ·exact h j d f
 by_cases d:k<C5 ns ns.length
 ·unfold Cq;rw [AT,AT,List.getElem?_take_of_lt d]
 ·have e:(Cq ns).getD k 0=0:=by
   rw [AT,Bh (by rw [NS];omega)];rfl
  rw [e];by_cases f:k<ns.length
  ·exact (g ns.length (AM _) (λj a b=>absurd b ⋯) k ⋯ f).symm
  ·rw [AT,Bh ⋯];rfl
def NT {n:Nat} {z g:Int} (h:g∣z) (b:Bd n z):Bd n (z / g):=by
 by_cases a:z=0
 ·rw [a,Int.zero_ediv];exact C3 n
 ·exact DB a (Int.ediv_dvd_of_dvd h) b
def Tl {z g:Int} (a:g≠0) (h:g∣z):((z / g:Int):Rat)=(z:Rat) / (g:Rat):=by
 obtain ⟨y,rfl⟩:=h;rw [GI _ a];have:=Aa a;push_cast;ext
theorem Tm {ns:de} {g:Int} (h:∀ z∈ns,g∣z) (k:Nat):g∣ns.getD k 0:=by
 rw [AT];cases e:ns[k]? with
 | none=>exact Cm g
 | some z=>exact h z (Bg e)
def Kq {m:cW} (b:AW m) (f:Nz m) (h:1<=m.length):(AK m).getD (m.length - 1) 0≠0:=by
 rw [KA,QR];have a:m.length - 1<m.length:=by omega
 have q:=f m[m.length - 1] (by rw [FS];exact Ax a);have e:AX m (m.length - 1)=m[m.length - 1]:=by unfold AX;rw [AT,Ax a];rfl
 rw [e];refine BK q ?_;have o:=Bz b;have d:=o.2 m[m.length - 1] (EN a);obtain ⟨y,c⟩:=d;have g:=(b m[m.length - 1] (EN a)).pos;rw [c,GI _ (AV g)];intro z;rw [z,Int.mul_zero] at c;have:=o.1;omega
def Kr {xs:d7} {v:V} (h:1<=xs.length) (e:xs[xs.length - 1]?=some v):N_ xs (-1)=some v:=by
 unfold N_ aq;rw [mE ∅,mF ⋯,show (-1+(xs.length:Int)).toNat=xs.length - 1 by omega];exact e
def JG {n m:Int} (h:0<m):Aq n m=a9 n m:=by unfold Aq;rw [mE ⋯]
def wT (h:Dr K vs H Q E):Rk K { nx:=λ_ j=>Q .non j,rt:=Q } (L2.start ["top","bottom","shared"] vs) H:=by
 obtain ⟨a,b,rfl,d,q⟩:=h;unfold Rk;rwa []
 have f:∀ s:Int,(s=if b<0 then -((Int.gcd a b:Nat):Int) else ((Int.gcd a b:Nat):Int))->Jz a s/\Jz b s/\2<=sizeLine/\∀ (p:Addr),H p=none->Q (V.ref p) (upd H p (.tup [.int (a.fdiv s),.int (b.fdiv s)])):=λs k=>by
  obtain ⟨g,n,i,m,o,r⟩:=Lk d k
  have e:Aq a b=(a.fdiv s,b.fdiv s):=by
   refine E9 (FA d) i ?_;rw [FC d,Mb (q:=(a.fdiv s,b.fdiv s)) (AV i.pos) d m]
  rw [e] at q;exact ⟨g,g,sz ∅,q⟩
 refine Av (λc=>?_) (λc=>?_)
 ·exact f _ (by rw [mF c])
 ·exact f _ (by rw [mE c])
def CompJ.tupK {K:W.Frag} {capt:List (Option Nat)} {g:TG} {f:TE} {j:L2.St} {H:Hp} {Q:VK} {a:Addr} {xs:d7} (W:Nat->d7->Hp->Prop) (k:W 0 [] H) (c:∀ i b H,W i b H->i<=xs.length/\b.length<=sizeLine/\SqT K H a xs)
  (m:∀ i x b H,xs[i]?=some x->W i b H->g x (CY capt j) H λd n=>f d n λy o=>W (i+1) (b++[y]) o) (r:∀ b H,W xs.length b H->∀ p,H p=none->Q (.ref p) (upd H p (.lst b))):CompJ (aE K a) capt g f j Q H:=by
 refine ⟨xs.length,W,k,λi b H w=>⟨(c i b H w).1,(c i b H w).2.1,?_⟩⟩;have q:SqT K H a xs:=(c i b H w).2.2;by_cases h:i<xs.length
 ·refine .inr ⟨h,⟨xs,xs[i],q,by simp [h]⟩,λx u y=>?_⟩;obtain ⟨rfl,y⟩:=y;exact m i x b _ (y xs q) w
 ·have e:i=xs.length:=Dz (c i b H w).1 (Nat.not_lt.mp h);subst e;exact .inl ⟨⟨xs,q,AM _⟩,r b H w⟩
def wU (h:El K vs H Q E):Rs K { nx:=λ_ f=>Q .non f,rt:=Q } (L2.start ["P","bottom","number"] vs) H:=by
 obtain ⟨p,g,l,M,rfl,hp,w,k,j,bM,I,hl,q⟩:=h;unfold Rs;rwa [];have C:=w.length;have J:=(Bz k).1;have L:=DB (AV j.1) (QS k j) bM;have D:∀ q∈l,Bd 400000 q.2:=λq m=>DB (AV j.1) (j.2 q m) bM;refine ⟨⟨_,hp⟩,LZ (xs:=g) (λi n f=>∃ x,n=[some (.ref p),some (.int ((l.take i).foldl (λB q=>B*(q.2 / ((Int.gcd B q.2:Nat):Int))) 1)),x]/\f=H) ⟨none,rfl,rfl⟩ ?_ ?_ ?_⟩
 ·rintro i n f _ ⟨x,rfl,rfl⟩;exact hp
 ·rintro i x n f o ⟨y,rfl,rfl⟩;obtain ⟨z,d,N,rfl,b⟩:=w.get o;have u:=k z (Bg d);have F:=D z (Bg d);obtain ⟨O,P⟩:=Mf (M:=M) (l.take i) 1 (λq m=>⟨(k q (List.mem_of_mem_take m)).pos,j.2 q (List.mem_of_mem_take m)⟩) ∅ (Int.one_dvd M);have R:=DB (AV j.1) P bM;obtain ⟨s1,_,_,S,T,s6⟩:=MY O u.pos;rwa [];refine ⟨_,b,_,rfl,_,b,_,rfl,_,rfl,_,rfl,T,Gw R (F.le S),?_,_,rfl⟩;rw [wR d]
 ·rintro n f ⟨x,rfl,rfl⟩;rw [C,Cv];rwa [];refine ⟨⟨_,hp⟩,CompJ.tupK (xs:=g) (λi v c=>i<=g.length/\v=((AK l).take i).map V.int/\c=f) ⟨Ab _,rfl,rfl⟩ ?_ ?_ ?_⟩
  ·rintro i v c ⟨G,rfl,rfl⟩;refine ⟨G,sz ?_,hp⟩;rw [AO,CB];omega
  ·rintro i x v c o ⟨G,rfl,rfl⟩;obtain ⟨z,d,N,rfl,b⟩:=w.get o;have u:=k z (Bg d);have F:=D z (Bg d);have U:=I z (Bg d);have W:i<g.length:=(By.mp o).1;rwa [];have X:l.foldl (λB q=>B*(q.2 / ((Int.gcd B q.2:Nat):Int))) 1=Ac l:=rfl;rw [X];have Y:(AK l)[i]?=some (z.1*(Ac l / z.2)):=by unfold AK;rw [Aj,d];rfl
   refine ⟨_,b,_,rfl,_,b,_,rfl,_,rfl,u.pos,_,rfl,Gw U (L.le (Zr J u.pos)),⋯,?_⟩;rw [Hs V.int Y]
  ·rintro v c ⟨_,rfl,rfl⟩ a Z;refine ⟨sz ∅,λr A=>?_⟩
   have e:(AK l).take g.length=AK l:=by
    rw [C,show l.length=(AK l).length by unfold AK;rw [AO],Cv]
   rw [e] at A ⊢;have s:=(AR Z (.lst ((AK l).map V.int))).trans (AR A (.tup [.ref a,.int (Ac l)]));exact q r a _ s upd_same (AR A _ _ _ upd_same)
def wV (h:Gn K vs H Q E):Ru K { nx:=λ_ b=>Q .non b,rt:=Q } (L2.start ["row","bottom"] vs) H:=by
 obtain ⟨p,d,B,rfl,hp,v,w,q⟩:=h;unfold Ru;rwa [hp];refine ⟨⟨_,SqL.of hp⟩,CompJ.lst (xs:=d.map V.int) (λi f b=>i<=d.length/\Same H b/\Nums b f ((d.take i).map λn=>Aq n B)) ⟨Ab _,Same.refl H,trivial⟩ ?_ ?_ ?_⟩
 ·rintro i f b ⟨o,g,c⟩;refine ⟨by rw [AO];exact o,sz ?_,SqL.of (g _ _ hp)⟩;rw [c.length,AO,CB];omega
 ·rintro i x f b j ⟨o,g,c⟩;rw [Aj] at j;cases e:d[i]? with
  | none=>rw [e] at j;cases j
  | some n=>
    rw [e] at j;obtain rfl:V.int n=x:=mO j;have y:i<d.length:=(By.mp e).1;rwa [];refine ⟨v,λr k=>⟨⋯,g.trans (AR k _),?_⟩⟩;rw [Hs _ e];exact (c.tp (M_ (AR k _))).append (Nums.one HX)
 ·rintro f b ⟨_,g,c⟩ a z;rw [AO,Cv] at c;have u:=AR z (.lst f);rwa [];refine ⟨_,c.tp (M_ u),by rw [AO];exact w,λr A m C k D=>q r A m ((g.trans u).trans C) k D⟩
def Tn {b:Nat} {l:cW} {M:Int} (d:AW l) (h:Ov l M) (e:∀ z∈P_ l M,Bd b z):∀ q∈l,Bd b q.1:=λq a=>by
 refine (e (q.1*(M / q.2)) (BM.mpr ⟨q,a,rfl⟩)).le ?_;rw [BN];obtain ⟨y,c⟩:=h.2 q a;have f:=(d q a).pos;have i:=h.1;have:M / q.2=y:=by rw [c,GI _ (AV f)]
 rw [this];refine Nat.le_mul_of_pos_right _ ?_;rcases Cc y.natAbs with z | z
 ·have g:y=0:=by omega
  rw [g] at c;omega
 ·exact z
def Fv {g f:de} (b:Lz g) (o:Lz f) (p:MQ (co g) (co f)):g.length<=f.length:=by
 obtain ⟨c,q,A,d⟩:=p;rcases Am f.length g.length with y | y
 ·exfalso;rcases Dp A with z | ⟨B,h,_,r⟩
  ·have:c*co f (f.length - 1)=0:=by rw [d,Bw,Fl g z]
   rcases Int.mul_eq_zero.mp this with e | e
   ·exact q e
   ·exact o.2 e
  ·have u:∀ k,c*co f k=cvL B (co g) k:=λk=>by rw [d,Bw,BC (λj=>(r j).symm) g k,<-Bw]
   have v:=h.1;have G:=b.1;have m:B≠[]:=BE.mp v;obtain ⟨X,t,a⟩:∃ X t,B=X++[t]:=⟨B.dropLast,B.getLast m,(GJ m).symm⟩;have w:X.length=B.length - 1:=by rw [a];simp
   have C:co B (B.length - 1)=t:=by rw [<-w,a];unfold co;simp [AT]
   have e:=u (B.length - 1+(g.length - 1));rw [Af ⋯,a,DN,<-a,Ej (n:=g.length) (λi D=>Af D) X _ ⋯] at e;unfold Au at e;rw [mF ⋯,show B.length - 1+(g.length - 1) - X.length=g.length - 1 by omega] at e;have F:t*co g (g.length - 1)=0:=by omega
   rcases Int.mul_eq_zero.mp F with x | x
   ·exact h.2 (C.trans x)
   ·exact b.2 x
 ·exact y
theorem php:∀ (m n:Nat) (f:Nat->Nat),(∀ i,i<n->f i<m)->m<n->∃ i j,i<j/\j<n/\f i=f j
 | 0,n,f,h,d=>absurd (h 0 d) (Nat.not_lt_zero _)
 | m+1,n,f,h,d=>by
   obtain ⟨n,rfl⟩:∃ k,n=k+1:=⟨n - 1,⋯⟩;by_cases c:∃ i,i<n/\f i=f n
   ·obtain ⟨i,a,e⟩:=c;exact ⟨i,n,a,⋯,e⟩
   ·have c:∀ i,i<n->f i≠f n:=λi a e=>c ⟨i,a,e⟩;have o:=h n ⋯
    obtain ⟨i,j,b,g,e⟩:=php m n (λi=>if f n<f i then f i - 1 else f i) (λi a=>by
     have p:=h i ⋯;have q:=c i a;show (if f n<f i then f i - 1 else f i)<m;split <;> omega) ⋯
    refine ⟨i,j,b,⋯,?_⟩;have r:=c i ⋯;have u:=c j g;have e:(if f n<f i then f i - 1 else f i)=(if f n<f j then f j - 1 else f j):=e;split at e <;> split at e <;> omega
noncomputable def bj (M:Nat):Nat->(Nat->Nat)->Nat
 | 0,_=>0
 | N+1,e=>e 0+M*bj M N (λk=>e (k+1))
theorem To {M:Nat}:∀ (N:Nat) (e:Nat->Nat),(∀ k,k<N->e k<M)->bj M N e<M ^ N
 | 0,_,_=>Nat.one_pos
 | N+1,e,h=>by
   have a:=To N (λk=>e (k+1)) (λk hk=>h (k+1) ⋯);have c:=h 0 ⋯;show e 0+M*bj M N (λk=>e (k+1))<M ^ (N+1);have b:M*(bj M N (λk=>e (k+1))+1)<=M*M ^ N:=CS M a;rw [CU,B5 (M ^ N)];rw [Nat.mul_add,Nat.mul_one] at b;omega
def Tq {M a b x y:Nat} (c:a<M) (d:b<M) (h:a+M*x=b+M*y):a=b/\x=y:=by
 have f:(a+M*x) % M=a:=by rw [Nat.add_mul_mod_self_left,D5 c]
 have g:(b+M*y) % M=b:=by rw [Nat.add_mul_mod_self_left,D5 d]
 have e:a=b:=by rw [<-f,h,g]
 subst e;exact ⟨rfl,Nat.eq_of_mul_eq_mul_left ⋯ (Nat.add_left_cancel h)⟩
theorem Tr {M:Nat}:∀ (N:Nat) (e a:Nat->Nat),(∀ k,k<N->e k<M)->(∀ k,k<N->a k<M)->bj M N e=bj M N a->∀ k,k<N->e k=a k
 | 0,_,_,_,_,_,k,hk=>absurd hk (Nat.not_lt_zero _)
 | N+1,e,a,h,b,q,k,hk=>by
   obtain ⟨c,d⟩:=Tq (h 0 ⋯) (b 0 ⋯) q;cases k with
   | zero=>exact c
   | succ k=>exact Tr N _ _ (λk hk=>h (k+1) ⋯) (λk hk=>b (k+1) ⋯) d k ⋯
noncomputable def W_ (p:Nat):Nat->Nat->de
 | 0,_=>[]
 | N+1,t=>((t % p:Nat):Int)::W_ p N (t / p)
theorem NU (p:Nat):∀ (N t:Nat),(W_ p N t).length=N
 | 0,_=>rfl
 | N+1,t=>by show (W_ p N (t / p)).length+1=N+1;rw [NU p N]
theorem NV {p:Nat} (a:0<p):∀ (N t:Nat),∀ z∈W_ p N t,0<=z/\z<(p:Int)
 | 0,_,z,h=>by cases h
 | N+1,t,z,h=>by
   rcases De.mp h with rfl | h
   ·have:=Nat.mod_lt t a;omega
   ·exact NV a N _ z h
theorem Ts {p:Nat} (e:0<p):∀ (N t s:Nat),t<p ^ N->s<p ^ N->W_ p N t=W_ p N s->t=s
 | 0,t,s,c,d,_=>by rw [Nat.pow_zero] at c d;omega
 | N+1,t,s,c,d,h=>by
   injection h with a b;rw [CU,B5] at c d;have:=Ts e N (t / p) (s / p) (Nat.div_lt_of_lt_mul c) (Nat.div_lt_of_lt_mul d) b;have f:=Nat.div_add_mod t p;have g:=Nat.div_add_mod s p;have a:t % p=s % p:=by exact_mod_cast a
   rw [<-f,<-g,this,a]
theorem NW {g:dF} {h q:Nat} (c:∀ k,(g k).natAbs<=h):∀ (a:de),(∀ z∈a,z.natAbs<=q)->∀ k,(cvL a g k).natAbs<=a.length*(q*h)
 | [],_,k=>by show (0:Int).natAbs<=_;simp
 | x::a,b,0=>by
   rw [At];have d:(x*g 0).natAbs<=q*h:=by rw [BN];exact Be (b x (CD ..)) (c 0)
   have:(x::a).length*(q*h)=a.length*(q*h)+q*h:=by rw [B7,Cy,Nat.one_mul]
   omega
 | x::a,b,k+1=>by
   rw [Ak];have d:(x*g (k+1)).natAbs<=q*h:=by rw [BN];exact Be (b x (CD ..)) (c (k+1))
   have f:=NW c a (λz e=>b z (CQ _ e)) k;have:(x::a).length*(q*h)=a.length*(q*h)+q*h:=by rw [B7,Cy,Nat.one_mul]
   omega
def wW {A B u v:de} (i:Lz A) (c:Lz B) (q:QI (co A) (co B) Ai) (g:u.length<B.length) (j:v.length<A.length) (h:∀ k,cvL u (co A) k+cvL v (co B) k=0):(∀ k,co u k=0)/\∀ k,co v k=0:=by
 obtain ⟨d,m,U,V,b⟩:=q
 have a:∀ {A B u v U V:de},Lz B->(∀ k,d*Ai k=cvL U (co A) k+cvL V (co B) k)->u.length<B.length->(∀ k,cvL u (co A) k+cvL v (co B) k=0)->∀ k,co u k=0:=λ{A B u v U V} c b g h=>by
  rcases Dp u with z | ⟨f,n,r,o⟩
  ·exact z
  ·exfalso
   have p:MQ (co B) (co f):=by
    refine ⟨d,m,Aw (BS V u) ((BS U v).map ((-1)*·)),λk=>?_⟩;rw [Bb,A6,Bv,Bv,o k,Cp u k,<-C4,BC b,HS,Ii (co A) u U,Ii (co B) u V]
    have e:cvL U (cvL u (co A)) k = - cvL U (cvL v (co B)) k:=by
     have:cvL U (cvL u (co A)) k+cvL U (cvL v (co B)) k=0:=by rw [<-HS];exact Fl U h k
     omega
    rw [e];omega
   have:=Fv c n p;omega
 exact ⟨a c b g h,a (A:=B) (B:=A) (u:=v) (v:=u) (U:=V) (V:=U) i (λk=>by rw [b k];omega) j (λk=>by have:=h k;omega)⟩
def FH {a b:Int} (h:a=b):a∣b:=by rw [h];exact Int.dvd_refl b
theorem bZ {p:Int} {f g:dF} {S:de} (h:∀ k,p∣f k - cvL S g k):∀ (a:de) (k:Nat),p∣cvL a f k - cvL a (cvL S g) k
 | [],k=>by show p∣(0:Int) - 0;simp
 | x::a,0=>by
   rw [At,At];have:=CJ (h 0) (Int.dvd_mul_left x _);rw [Int.mul_sub] at this;refine CJ this (FH ?_);omega
 | x::a,k+1=>by
   rw [Ak,Ak];have b:=CJ (h (k+1)) (Int.dvd_mul_left x _);have c:=bZ h a k;rw [Int.mul_sub] at b;have:=Ck b c;refine CJ this (FH ?_);omega
theorem Tt:∀ (a b:de),(Aw a b).length=max a.length b.length
 | [],b=>by show b.length=max 0 b.length;omega
 | a,[]=>by rw [KC];show a.length=max a.length 0;omega
 | x::a,y::b=>by
   show (Aw a b).length+1=max (a.length+1) (b.length+1);rw [Tt a b];omega
def Tu {a b:de} (c:a.length=b.length) (h:∀ k,co a k=co b k):a=b:=by
 refine List.ext_getElem c λi d e=>?_;have:=h i;unfold co at this;rwa [AT,AT,Ax d,Ax e] at this
def cu {A B G:de} {p b:Nat} (hp:Pr p) (lA:Lz A) (lB:Lz B) (q:QI (co A) (co B) Ai) (hA:∀ k,Bd b (co A k)) (hB:∀ k,Bd b (co B k)) (n1:2<=A.length) (m1:2<=B.length) (g2:2<=G.length) (g1:¬ (p:Int)∣co G (G.length - 1)) (dA:Dm (p:Int) (co G) (co A)) (dB:Dm (p:Int) (co G) (co B))
  (j:(2*((A.length+B.length)*2 ^ b)) ^ (A.length+B.length - 2)<p):False:=by
 have p2:=hp.two;have S:0<p:=by omega
 generalize hn:A.length - 1=n at *;generalize hm:B.length - 1=m at *;generalize hE:(A.length+B.length)*2 ^ b=E at *;have N1:A.length+B.length - 2=n+m:=by omega
 rw [N1] at j;have Y:∀ k,(co A k).natAbs<=2 ^ b:=λk=>CP (hA k);have Z:∀ k,(co B k).natAbs<=2 ^ b:=λk=>CP (hB k);have E0:0<E:=by rw [<-hE];exact Nat.mul_pos ⋯ (Nat.pow_pos ∅)
 obtain ⟨u,T⟩:∃ u:Nat->de,∀ t,u t=(W_ p (m+n) t).take m:=⟨_,λ_=>rfl⟩;obtain ⟨v,U⟩:∃ v:Nat->de,∀ t,v t=(W_ p (m+n) t).drop m:=⟨_,λ_=>rfl⟩;obtain ⟨f,W⟩:∃ f:Nat->dF,∀ t k,f t k=cvL (u t) (co A) k+cvL (v t) (co B) k:=⟨_,λ_ _=>rfl⟩;have J:∀ t,(u t).length=m:=λt=>by rw [T,CB,NU];omega
 have L:∀ t,(v t).length=n:=λt=>by rw [U,List.length_drop,NU];omega
 have uz:∀ t,∀ z∈u t,0<=z/\z<(p:Int):=λt z o=>NV S _ t z (List.mem_of_mem_take (T t ▸ o));have vz:∀ t,∀ z∈v t,0<=z/\z<(p:Int):=λt z o=>NV S _ t z (List.mem_of_mem_drop (U t ▸ o))
 have fb:∀ t k,(f t k).natAbs<E*p:=λt k=>by
  have d:=NW (q:=p - 1) Y (u t) (λz o=>by have:=uz t z o;omega) k;have g:=NW (q:=p - 1) Z (v t) (λz o=>by have:=vz t z o;omega) k;rw [J] at d;rw [L] at g
  have h3:(f t k).natAbs<=(m+n)*((p - 1)*2 ^ b):=by
   rw [Cy,W];omega
  refine DQ h3 ?_;rw [<-hE];have e:(m+n)*((p - 1)*2 ^ b)=((m+n)*2 ^ b)*(p - 1):=by rw [B5 (p - 1),Nat.mul_assoc]
  rw [e];exact CO (Nat.mul_lt_mul_of_pos_left ⋯ (Nat.mul_pos ⋯ (Nat.pow_pos ∅))) (BW p (BW _ ⋯))
 obtain ⟨X,r⟩:∃ X:Nat->Nat,∀ t,X t=(f t 0 / (p:Int)+(E:Int)).toNat:=⟨_,λ_=>rfl⟩;obtain ⟨O,w⟩:∃ O:Nat->Nat->Nat,∀ t k,O t k=(f t (k+1)+((E*p:Nat):Int)).toNat:=⟨_,λ_ _=>rfl⟩
 have C:∀ t,0<=f t 0 / (p:Int)+(E:Int)/\f t 0 / (p:Int)+(E:Int)<2*(E:Int):=λt=>by
  have h:=fb t 0
  have d:-((E:Int)*(p:Int))<=f t 0:=by have:((E*p:Nat):Int)=(E:Int)*(p:Int):=by push_cast;rfl
                                       omega
  have g:f t 0<(E:Int)*(p:Int):=by have:((E*p:Nat):Int)=(E:Int)*(p:Int):=by push_cast;rfl
                                   omega
  have q1:-(E:Int)<=f t 0 / (p:Int):=by
   refine (Int.le_ediv_iff_mul_le ⋯).mpr ?_;rw [Int.neg_mul];exact d
  have q2:f t 0 / (p:Int)<(E:Int):=Int.ediv_lt_of_lt_mul ⋯ g;omega
 have D:∀ t k,0<=f t (k+1)+((E*p:Nat):Int)/\f t (k+1)+((E*p:Nat):Int)<2*((E*p:Nat):Int):=λt k=>by
  have h:=fb t (k+1);omega
 have F:∀ t,X t<2*E:=λt=>by have:=C t;rw [r];omega
 have I:∀ t k,O t k<2*(E*p):=λt k=>by have:=D t k;rw [w];omega
 have cl:∀ t,X t+2*E*bj (2*(E*p)) (m+n - 1) (O t)<2*E*(2*(E*p)) ^ (m+n - 1):=λt=>by
  have d:=To (M:=2*(E*p)) (m+n - 1) (O t) (λk _=>I t k);have g:2*E*(bj (2*(E*p)) (m+n - 1) (O t)+1)<=2*E*(2*(E*p)) ^ (m+n - 1):=CS _ d;have h3:=F t;rw [Nat.mul_add,Nat.mul_one] at g;omega
 have R:2*E*(2*(E*p)) ^ (m+n - 1)<p ^ (m+n):=by
  obtain ⟨N,hN⟩:∃ N,m+n=N+1:=⟨m+n - 1,⋯⟩;rw [hN,Ew];rw [Nat.add_comm n m,hN] at j
  have e:2*E*(2*(E*p)) ^ N=(2*E) ^ (N+1)*p ^ N:=by
   rw [<-Nat.mul_assoc 2 E p,Nat.mul_pow (2*E) p N,CU,B5 ((2*E) ^ N) (2*E),Nat.mul_assoc (2*E)]
  rw [e,CU p,B5 (p ^ N) p];exact Nat.mul_lt_mul_of_pos_right j (Nat.pow_pos S)
 obtain ⟨s,t,st,ht,e⟩:=php _ _ _ (λi _=>cl i) R;obtain ⟨q0,q1⟩:=Tq (F s) (F t) e;have qk:=Tr (m+n - 1) _ _ (λk _=>I s k) (λk _=>I t k) q1;have w0:∀ k,(co (u s) k - co (u t) k)=co (Aw (u s) ((u t).map ((-1)*·))) k:=λk=>by rw [Cp,Cp,Cp,Bb,A6];omega
 have df:∀ k,f s k - f t k=cvL (Aw (u s) ((u t).map ((-1)*·))) (co A) k+cvL (Aw (v s) ((v t).map ((-1)*·))) (co B) k:=λk=>by
  rw [Bb,Bb,A6,A6,W,W];omega
 have P:∀ k,0<k->f s k - f t k=0:=λk hk=>by
  rcases Am k (m+n) with c | c
  ·have:=qk (k - 1) ⋯;have r1:=D s (k - 1);have r2:=D t (k - 1);rw [w,w,show k - 1+1=k by omega] at this;rw [show k - 1+1=k by omega] at r1 r2;omega
  ·have z:∀ t,f t k=0:=λt=>by
    rw [W,Ej (n:=A.length) (λi P=>Af P) (u t) k (by rw [J];omega),Ej (n:=B.length) (λi P=>Af P) (v t) k (by rw [L];omega)];rfl
   rw [z,z];rfl
 have d0:(f s 0 - f t 0).natAbs<p:=by
  have r1:=C s;have r2:=C t;rw [r,r] at q0;have q0:f s 0 / (p:Int)=f t 0 / (p:Int):=by omega
  have m1:=Int.emod_add_mul_ediv (f s 0) p;have m2:=Int.emod_add_mul_ediv (f t 0) p;have b1:=Cd (f s 0) (show (p:Int)≠0 by omega);have b2:=Ct (f s 0) (show (0:Int)<p by omega);have b3:=Cd (f t 0) (show (p:Int)≠0 by omega);have b4:=Ct (f t 0) (show (0:Int)<p by omega);rw [q0] at m1;omega
 have dm:Dm (p:Int) (co G) (co [f s 0 - f t 0]):=by
  obtain ⟨SA,a0⟩:=dA;obtain ⟨SB,a1⟩:=dB;refine ⟨Aw (BS (Aw (u s) ((u t).map ((-1)*·))) SA) (BS (Aw (v s) ((v t).map ((-1)*·))) SB),λk=>?_⟩
  have e:co [f s 0 - f t 0] k=f s k - f t k:=by
   cases k with
   | zero=>rfl
   | succ k=>rw [P (k+1) ⋯];exact Af (by simp)
  rw [e,df,Bb (co G),Bv,Bv];have d:=bZ (p:=(p:Int)) a0 (Aw (u s) ((u t).map ((-1)*·))) k;have g:=bZ (p:=(p:Int)) a1 (Aw (v s) ((v t).map ((-1)*·))) k;have:=Ck d g;refine CJ this (FH ?_);omega
 have z0:f s 0 - f t 0=0:=by
  by_cases c:(p:Int)∣f s 0 - f t 0
  ·obtain ⟨y,hy⟩:=c;rcases Int.lt_trichotomy y 0 with z | z | z
   ·have:(p:Int)*y<=(p:Int)*(-1):=IC ⋯ ⋯;omega
   ·rw [hy,z];omega
   ·have:(p:Int)*1<=(p:Int)*y:=IC ⋯ ⋯;omega
  ·exfalso;have:=Dm.len hp ⋯ g1 dm ⟨0,c⟩;simp at this;omega
 have all:∀ k,cvL (Aw (u s) ((u t).map ((-1)*·))) (co A) k+cvL (Aw (v s) ((v t).map ((-1)*·))) (co B) k=0:=λk=>by
  rw [<-df];cases k with
  | zero=>exact z0
  | succ k=>exact P (k+1) ⋯
 have ll:∀ {a c:de} {x:Nat},a.length=x->c.length=x->(Aw a (c.map ((-1)*·))).length=x:=λ{a c x} d g=>by
  rw [Tt,AO,d,g];omega
 obtain ⟨c1,c2⟩:=wW lA lB q (by rw [ll (J s) (J t)];omega) (by rw [ll (L s) (L t)];omega) all;have eu:u s=u t:=Tu (by rw [J,J]) λk=>by have:=c1 k;rw [<-w0] at this;omega
 have ev:v s=v t:=Tu (by rw [L,L]) λk=>by
  have:=c2 k;rw [Cp,Bb,A6,<-Cp,<-Cp] at this;omega
 have:W_ p (m+n) s=W_ p (m+n) t:=by
  rw [<-List.take_append_drop m (W_ p (m+n) s),<-List.take_append_drop m (W_ p (m+n) t)];rw [<-T,<-U,<-T,<-U,eu,ev]
 have:=Ts S _ _ _ ⋯ ⋯ this;omega
theorem NX:∀ (a l:de),a.Nodup->(∀ t∈a,evI l t=0)->l.length<=a.length->∀ k,co l k=0
 | [],l,_,_,h,k=>Af (by have:l.length=0:=by simpa using h
                        omega)
 | t::a,l,i,d,j,k=>by
   have b:=List.nodup_cons.mp i;have e:=d t (CD ..);have sd:co (af l t) ((af l t).length - 1)=0:=by rw [KG];exact zQ l t
   have f:=Ml sd
   have z:∀ k,co (af l t) k=0:=λk=>by
    rw [<-f k];refine NX a (af l t).dropLast b.2 (λx g=>?_) (by rw [List.length_dropLast,KG];simp at j;omega) k;rw [Mm _ _ x f];have c:=Mn l t x;rw [d x (CQ _ g),e] at c
    have m:x - t≠0:=λq=>b.1 (by have:x=t:=by omega
                                rw [<-this];exact g)
    have c:(x - t)*evI (af l t) x=0:=by omega
    rcases Int.mul_eq_zero.mp c with q | q
    ·exact absurd q m
    ·exact q
   rw [KH l t k,z k];split
   ·rw [e];omega
   ·rw [z (k - 1)];omega
def wX (n:Nat):((List.range (2*n+1)).map λi:Nat=>(i:Int) - (n:Int)).Nodup:=by
 unfold List.Nodup;rw [List.pairwise_map];exact (List.nodup_range (n:=2*n+1)).imp λh q=>h ⋯
theorem Tv (f:Int->Bool):∀ P:de,(P.filter f).length+(P.filter λx=>!f x).length=P.length
 | []=>rfl
 | x::P=>by
   have:=Tv f P;rw [List.filter_cons,List.filter_cons,B7];cases f x
   ·simp;omega
   ·simp;omega
def wY {r:de} {n:Nat} (v:∃ k,co r k≠0) (C:r.length<=n):∃ x:dF,(∀ i,i<=n->evI r (x i)≠0/\(x i).natAbs<=n)/\∀ i j,i<=n->j<=n->i≠j->x i≠x j:=by
 let P:de:=(List.range (2*n+1)).map λi:Nat=>(i:Int) - (n:Int);have D:P.length=2*n+1:=by show ((List.range (2*n+1)).map λi:Nat=>(i:Int) - (n:Int)).length=_;rw [AO,BD]
 have p:P.Nodup:=wX n
 have w:∀ x∈P,x.natAbs<=n:=λx y=>by
  obtain ⟨i,d,rfl⟩:=BM.mp y;have:=EK.mp d;omega
 have f:(P.filter λx=>decide (evI r x=0)).length+(P.filter λx=>!decide (evI r x=0)).length=P.length:=by
  exact Tv _ P
 have z:(P.filter λx=>decide (evI r x=0)).length<r.length:=by
  rcases Am (P.filter λx=>decide (evI r x=0)).length r.length with c | c
  ·exact c
  ·exfalso;obtain ⟨k,hk⟩:=v;exact hk (NX _ r (p.filter _) (λt A=>by simpa using (List.mem_filter.mp A).2) c k)
 let a:=P.filter λx=>!decide (evI r x=0)
 have F:n+1<=a.length:=by
  show n+1<=(P.filter λx=>!decide (evI r x=0)).length;omega
 have B:a.Nodup:=p.filter _;refine ⟨λi=>a.getD i 0,λi d=>?_,λi j d G g e=>?_⟩
 ·have b:i<a.length:=by omega
  have e:a.getD i 0=a[i]:=by rw [AT,Ax b];rfl
  show evI r (a.getD i 0)≠0/\(a.getD i 0).natAbs<=n;rw [e];have m:=List.mem_filter.mp (EN b);exact ⟨by simpa using m.2,w _ m.1⟩
 ·have h:i<a.length:=by omega
  have o:j<a.length:=by omega
  have e:a.getD i 0=a.getD j 0:=e;rw [AT,AT,Ax h,Ax o] at e;have e:a[i]=a[j]:=e;have u:=List.pairwise_iff_getElem.mp B;rcases Nat.lt_or_gt_of_ne g with q | q
  ·exact u i j h o q e
  ·exact u j i o h q e.symm
def JH {b n c:Nat} {r g A:de} (o:∀ z∈r,Bd b z) (p:∃ k,co r k≠0) (f:r.length<=n) (B:g.length<=n) (C:n<2 ^ c) (q:∀ k,co r k=cvL A (co g) k):∀ k,Bd (b+n*(2*c+4)) (co g k):=by
 by_cases D:g.length=0
 ·intro k;rw [Af ⋯];exact C3 _
 obtain ⟨x,h,u⟩:=wY p f
 have m:∀ i,i<=n->Bd c (x i):=λi a=>by
  show (x i).natAbs<2 ^ c;have:=(h i a).2;omega
 intro k
 have:=aQ (c:=c) (g.length - 1) g (b+n*(c+1)) x (λk hk=>Af ⋯) (λi a=>m i ⋯) (λi j a F d=>u i j ⋯ ⋯ d) (λi a=>by
  have v:=(h i ⋯).1;have e:=zN q (x i);have w:=Qb (m i ⋯) r o
  have y:(evI g (x i)).natAbs<=(evI r (x i)).natAbs:=by
   rw [e,BN];refine HE _ ?_;rcases Cc (evI A (x i)).natAbs with z | z
   ·exact absurd (by rw [e,Int.natAbs_eq_zero.mp z];omega) v
   ·exact z
  refine (w.le y).mono ?_;have:=BW (c+1) f;omega) k
 refine this.mono ?_;have G:(g.length - 1)*(c+3)<=n*(c+3):=BW (c+3) ⋯;have I:n*(2*c+4)=n*(c+1)+n*(c+3):=by rw [<-Nat.mul_add];congr 1;omega
 omega
def JI {a g:de} (b:Lz a) (c:Lz g):cvL a (co g) (a.length - 1+(g.length - 1))=co a (a.length - 1)*co g (g.length - 1):=by
 obtain ⟨i,s,rfl⟩:∃ i s,a=i++[s]:=⟨a.dropLast,a.getLast (BE.mp b.1),(GJ _).symm⟩;have e:(i++[s]).length - 1=i.length:=by rw [Cr];simp
 have d:co (i++[s]) i.length=s:=by
  unfold co;rw [AT,Dw (AM _),Nat.sub_self];rfl
 rw [e,d,DN,Ej (n:=g.length) (λi f=>Af f) i _ (by have:=c.1;omega)];unfold Au;rw [mF ⋯,show i.length+(g.length - 1) - i.length=g.length - 1 by omega];omega
def NY {X a:de} (b:Lz a) {T:Nat} (h:∀ k,T+(a.length - 1)<=k->cvL X (co a) k=0):(∀ j,T<=j->co X j=0)/\∀ s,T=s+1->cvL X (co a) (s+(a.length - 1))=co X s*co a (a.length - 1):=by
 rcases Dp X with z | ⟨Y,d,_,e⟩
 ·refine ⟨λj _=>z j,λs _=>?_⟩;rw [Bw,Fl a z,z s];omega
 ·have f:∀ k,cvL X (co a) k=cvL Y (co a) k:=λk=>by rw [Bw,BC (λj=>(e j).symm) a k,<-Bw]
  have g:=JI d b
  have o:Y.length<=T:=by
   rcases Am T Y.length with c | c
   ·exfalso;have:=h (Y.length - 1+(a.length - 1)) ⋯;rw [f,g] at this;exact BK d.2 b.2 this
   ·exact c
  refine ⟨λj p=>by rw [<-e];exact Af ⋯,λs q=>?_⟩;rw [f,<-e];have r:=d.1;rcases Am Y.length T with c | c
  ·rw [Af ⋯,Ej (n:=a.length) (λi m=>Af m) Y _ (by have:=b.1;omega)];omega
  ·rw [show s=Y.length - 1 by omega];exact g
def Ds {m n:Nat} {x y:Int} (a:Bd m x) (b:Bd n y) (c:m<=60000000:=by omega) (d:n<=60000000:=by omega):IntMulOk x y:=C6 (a.mono c) (b.mono d)
def wZ {ns:de} {m:Int} (a:de) (b:a=(ns.filter (λz=>!decide (z=0))).map λz=>if z<0 then -z else z) (h:a=[]/\m=0\/m∈a) (d:Int):(∀ z∈ns,d∣z)->d∣m:=by
 intro c;rcases h with ⟨_,e⟩ | h
 ·rw [e];exact Cm d
 ·rw [b] at h;obtain ⟨z,f,rfl⟩:=BM.mp h;have:=c z (List.mem_filter.mp f).1;show d∣if z<0 then -z else z
  split
  ·exact Int.dvd_neg.mpr this
  ·exact this
def vA (h:Im K vs H Q E):Q0 K { nx:=λ_ j=>Q .non j,rt:=Q } (L2.start ["row","start","found","whole"] vs) H:=by
 obtain ⟨p,b,st,rfl,hp,W,k⟩:=h;unfold Q0;rwa [];refine ⟨⟨_,SqL.of hp⟩,CompF.lst (xs:=b.map V.int) (λi r j=>i<=b.length/\j=H/\r=(((b.take i).filter (λz=>!decide (z=0))).map λz=>if z<0 then -z else z).map V.int) ⟨Ab _,rfl,rfl⟩ ?_ ?_ ?_⟩
 ·rintro i r j ⟨q,rfl,rfl⟩;refine ⟨by rw [AO];exact q,sz ?_,SqL.of hp⟩;rw [AO,AO];exact A7 (List.length_filter_le _ _) (by rw [CB];omega)
 ·rintro i x r j f ⟨q,rfl,rfl⟩;rw [Aj] at f;cases e:b[i]? with
  | none=>rw [e] at f;cases f
  | some n=>
    rw [e] at f;obtain rfl:V.int n=x:=mO f;have M:i<b.length:=(By.mp e).1;have J:b.take (i+1)=b.take i++[n]:=by rw [Eu,e];rfl
    rwa [];refine Av (λc=>?_) (λc=>?_)
    ·refine ⟨⋯,?_⟩;have F:¬ n=0:=by simpa using c
     simp [J,List.filter_append,F]
    ·refine ⟨⋯,?_⟩;have F:n=0:=by simpa using c
     simp [J,List.filter_append,F]
 ·rintro r j ⟨_,rfl,rfl⟩ a N;rw [AO,Cv];have u:=AR N (.lst (((b.filter (λz=>!decide (z=0))).map λz=>if z<0 then -z else z).map V.int));have o:=u _ _ hp;refine ⟨_,rfl,_,upd_same,λm O=>?_⟩;have P:=wZ _ rfl O;generalize R:upd j a (.lst (((b.filter (λz=>!decide (z=0))).map λz=>if z<0 then -z else z).map V.int))=S at u o ⊢;refine ⟨⟨_,SqL.of o⟩,ForL.by (xs:=b.map V.int) (λi v w=>∃ (g:Int) (x:d8),v=[some (.ref p),some (.int st),some (.int g),x]/\w=S/\0<=g/\g∣st/\(∀ z∈b.take i,g∣z)/\(∀ d:Int,d∣st->(∀ z∈b,d∣z)->d∣g)) ⟨_,none,rfl,rfl,⋯,Dy m st,λz A=>(by simp at A),λd q B=>Int.dvd_coe_gcd (P d B) q⟩ ?_ ?_ ?_⟩
  ·rintro i v w _ ⟨g,x,rfl,rfl,_⟩;exact SqL.of o
  ·rintro i x v w f ⟨g,y,rfl,rfl,L,G,C,D⟩;rw [Aj] at f;cases e:b[i]? with
   | none=>rw [e] at f;cases f
   | some n=>
     rw [e] at f;obtain rfl:V.int n=x:=mO f;rwa [];refine Av (λc=>?_) (λc=>?_)
     ·have T:g=1:=by simpa using c
      subst T;exact k 1 _ u ∅ (Int.one_dvd _) (λz _=>Int.one_dvd z) D
     ·refine ⟨⋯,CJ (Dy n g) G,λz A=>?_,λd q B=>Int.dvd_coe_gcd (B n (Bg e)) (D d q B)⟩;rw [Eu,e] at A;rcases Er.mp A with I | I
      ·exact CJ (Dy n g) (C z I)
      ·have U:z=n:=by simpa using I
       rw [U];exact Et n g
  ·rintro v w ⟨g,x,rfl,rfl,L,G,C,D⟩;rw [AO,Cv] at C;rwa [];exact k g _ u L G C D
def vB (h:Io K vs H Q E):Q4 K { nx:=λ_ c=>Q .non c,rt:=Q } (L2.start ["row","divisor"] vs) H:=by
 obtain ⟨p,b,g,rfl,hp,m,u,q⟩:=h;unfold Q4;rwa [];refine ⟨⟨_,SqL.of hp⟩,CompJ.lst (xs:=b.map V.int) (λi j c=>i<=b.length/\c=H/\j=((b.map (·/ g)).take i).map V.int) ⟨Ab _,rfl,rfl⟩ ?_ ?_ ?_⟩
 ·rintro i j c ⟨k,rfl,rfl⟩;refine ⟨by rw [AO];exact k,sz ?_,SqL.of hp⟩;rw [AO,CB];omega
 ·rintro i x j c d ⟨k,rfl,rfl⟩;rw [Aj] at d;cases e:b[i]? with
  | none=>rw [e] at d;cases d
  | some n=>
    rw [e] at d;obtain rfl:V.int n=x:=mO d;have f:i<b.length:=(By.mp e).1
    have o:0<g:=by
     rcases m with h | h
     ·exact h
     ·rw [h] at f;exact absurd f (by simp)
    rwa [];refine ⟨o,⋯,?_⟩;rw [Hs V.int (q:=n / g) (by rw [Aj,e];rfl)]
 ·rintro j c ⟨_,rfl,rfl⟩ a r;have e:(b.map (·/ g)).take (b.map V.int).length=b.map (·/ g):=by rw [AO,show b.length=(b.map (·/ g)).length by rw [AO],Cv]
  rw [e];exact q a r
def Tw {ns:de} {k:Nat}:co ns k=ns.getD k 0:=rfl
def NZ (ns:de):Tz (Cq ns):=by
 have a:∀ m,m<=ns.length->C5 ns m=0\/co ns (C5 ns m - 1)≠0:=by
  intro m
  induction m with
  | zero=>intro _;exact .inl rfl
  | succ m c=>
    intro d;rw [JF];split
    ·exact c ⋯
    ·rename_i z;right;rw [show m+1 - 1=m by omega,Tw];rw [AT,Ax ⋯] at z ⊢;exact z
 have b:(Cq ns).length=C5 ns ns.length:=NS;rcases a ns.length (AM _) with h | h
 ·left;exact B6.mp (b.trans h)
 ·right;rw [b];show (Cq ns).getD _ 0≠0;rw [Tk];exact h
def Na (ns:de) (k:Nat):co (Cq ns) k=co ns k:=Tk k
def JJ (n:Nat) (F:dF):Ad n F=((List.range n).map F).map V.int:=rfl
def vC (ns:de) (f:Int) (n:Nat) (h:ns.length<=n):List.map V.int (ns.map (f*·))++List.replicate (n - ns.length) (V.int 0)=Ad n λk=>f*co ns k:=by
 rw [JJ];apply List.ext_getElem?;intro i;by_cases a:i<ns.length
 ·rw [Es (by rw [AO,AO];exact a),Aj,Aj,Aj,Aj,DD ⋯,Ax a];show _=some (V.int (f*ns.getD i 0));rw [AT,Ax a];rfl
 ·rw [Dw (by rw [AO,AO];omega),AO,AO,Aj,Aj];by_cases b:i<n
  ·rw [Dx,mF ⋯,DD b];show _=some (V.int (f*co ns i));rw [Af ⋯,Int.mul_zero]
  ·rw [Dx,mE ⋯,Bh (by rw [BD];omega)];rfl
def vD (h:Ip K vs H Q E):Q9 K { nx:=λ_ m=>Q .non m,rt:=Q } (L2.start ["row","factor","other","weight","shift","result","place","whole"] vs) H:=by
 obtain ⟨p,q,d,g,f,w,s,rfl,hp,P,hl,a0,bf,bw,bn,bm,k⟩:=h;unfold Q9;rwa [];refine ⟨⟨_,SqL.of hp⟩,CompJ.lst (xs:=d.map V.int) (λi J m=>i<=d.length/\m=H/\J=((d.map (f*·)).take i).map V.int) ⟨Ab _,rfl,rfl⟩ ?_ ?_ ?_⟩
 ·rintro i J m ⟨Y,rfl,rfl⟩;refine ⟨by rw [AO];exact Y,sz ?_,SqL.of hp⟩;rw [AO,CB];omega
 ·rintro i x J m z ⟨Y,rfl,rfl⟩;rw [Aj] at z;cases e:d[i]? with
  | none=>rw [e] at z;cases z
  | some n=>
    rw [e] at z;obtain rfl:V.int n=x:=mO z;have a1:i<d.length:=(By.mp e).1;rwa [];refine ⟨Ds bf (bn n (Bg e)),⋯,?_⟩;rw [Hs V.int (q:=f*n) (by rw [Aj,e];rfl)]
 ·rintro J m ⟨_,rfl,rfl⟩ a R;have e:(d.map (f*·)).take (d.map V.int).length=d.map (f*·):=by rw [AO,show d.length=(d.map (f*·)).length by rw [AO],Cv]
  rw [e];generalize hL:max d.length (s+g.length)=L;have S:=AR R (.lst (List.map V.int (d.map (f*·))));have A:=S _ _ hp;have B:=S _ _ P;rwa [A,B];refine ⟨Ib upd_same,sz ∅,λb hb=>?_⟩;have M:=AR hb (.lst [.int 0]);refine ⟨_,M _ _ B,_,M _ _ A,?_⟩;have e0:(((g.map V.int).length:Int)+(s:Int) - ((d.map V.int).length:Int))=(g.length:Int)+(s:Int) - (d.length:Int):=by rw [AO,AO]
  rw [e0];have Z:((g.length:Int)+(s:Int) - (d.length:Int)).toNat=L - d.length:=by omega
  refine ⟨⋯,⋯,sz (by rw [Z];simp;omega),λc hc=>?_⟩;rw [Z,HW];have sc:=AR hc (.lst (List.replicate (L - d.length) (V.int 0)));have T:upd m a (.lst (List.map V.int (d.map (f*·)))) a=some (HO.lst (List.map V.int (d.map (f*·)))):=upd_same;have C:=sc _ _ (M _ _ T);refine ⟨_,C,sz (by simp;omega),?_⟩;rw [vC d f L ⋯];generalize hX:upd (upd (upd m a (.lst (List.map V.int (d.map (f*·))))) b (.lst [.int 0])) c (.lst (List.replicate (L - d.length) (V.int 0)))=N at C ⊢;have sx:Same m N:=λx o h=>by rw [<-hX];exact sc x o (M x o (S x o h))
  have sd:Same m (upd N a (.lst (Ad L λk=>f*co d k))):=λx o h=>Kp.upd x o (Bi h R) (sx x o h);have D:(upd N a (.lst (Ad L λk=>f*co d k))) a=_:=upd_same;generalize upd N a (.lst (Ad L λk=>f*co d k))=Hd at sd D ⊢;refine ⟨⟨_,SqL.of (sd _ _ P)⟩,ForJ.enumL (xs:=g.map V.int) (λj O F=>∃ x y:d8,O=[some (.ref p),some (.int f),some (.ref q),some (.int w),some (.int (s:Int)),some (.ref a),x,y]/\Same m F/\F a=some (.lst (Ad L λk=>f*co d k - (if s<=k/\k - s<j then w*co g (k - s) else 0)))) ⟨none,none,rfl,sd,?_⟩ ?_ ?_ ?_⟩
  ·rw [D];exact congrArg (λl=>some (HO.lst l)) (Gv λk _=>by rw [mE ⋯];omega)
  ·rintro j O F _ ⟨_,_,_,G,_⟩;exact SqL.of (G _ _ P)
  ·rintro j y pq O F I ⟨y3,y4,rfl,G,v⟩ U;rw [Aj] at I;cases em:g[j]? with
   | none=>rw [em] at I;cases I
   | some u=>
     rw [em] at I;obtain rfl:V.int u=y:=mO I;have jl:j<g.length:=(By.mp em).1;have ud:co g j=u:=by rw [Tw,AT,em];rfl
     have sq:=AR U (.tup [.int (j:Int),.int u]);have W:=sq _ _ v;rwa [W];have X:s+j<L:=by omega
     refine ⟨_,DW ⋯ (CN _ X),Ds bw (bm u (Bg em)),_,rfl,s+j,?_,λb o h=>Kp.upd b o (Bi h R) (sq b o (G b o h)),?_⟩
     ·rw [CI];exact Fu ⋯ X
     ·refine Gu X ?_ λk _ hk=>?_
      ·rw [mF ⋯,mE ⋯,show s+j - s=j by omega,ud];omega
      ·by_cases h:s<=k/\k - s<j
       ·rw [mF h,mF ⋯]
       ·rw [mE h,mE ⋯]
  ·rintro O F ⟨y3,y4,rfl,G,v⟩;rw [AO,JJ] at v;rwa [v];refine ⟨_,rfl,λr hr=>k r _ _ (G.trans (AR hr _)) upd_same (NZ _) λi=>?_⟩;rw [Na,KE];unfold Au;by_cases z:i<L
   ·rw [mF z];by_cases h:s<=i
    ·rw [mF h];by_cases h2:i - s<g.length
     ·rw [mF ⟨h,h2⟩]
     ·rw [mE ⋯,Af (a:=g) ⋯];omega
    ·rw [mE h,mE ⋯];omega
   ·rw [mE z,Af (a:=d) ⋯];by_cases h:s<=i
    ·rw [mF h,Af (a:=g) ⋯];omega
    ·rw [mE h];omega
def vE (a b:Int):(a.fdiv b).natAbs<=a.natAbs:=by
 rw [Int.fdiv_eq_ediv];split
 ·rw [Int.sub_zero];exact Int.natAbs_ediv_le_natAbs a b
 ·rename_i h;have d:b<0:=by omega
  have f:¬ b∣a:=λz=>h (.inr z);have e:=Int.mul_ediv_add_emod a b;have i:=Cd a (show b≠0 by omega);have j:=Int.emod_lt_of_neg a d;have rn:a % b≠0:=λz=>f (Int.dvd_of_emod_eq_zero z);generalize a / b=q at *;generalize a % b=r at *;rcases Int.lt_or_le q 1 with g | g
  ·have c:(-b)*(-q) ≥ 2*(-q):=Int.mul_le_mul_of_nonneg_right ⋯ ⋯;rw [Int.neg_mul_neg] at c;omega
  ·have c:(-b)*(q - 1) ≥ 1*(q - 1):=Int.mul_le_mul_of_nonneg_right ⋯ ⋯;rw [Int.neg_mul,Int.mul_sub] at c;omega
def Nc {n m:Nat} {F:dF}:Bu (Ad n F) none (some (m:Int))=((List.range (min m n)).map F).map V.int:=by
 unfold Bu HT.sIx;simp only [List.drop_zero,Cu,DA];rw [mE ⋯,CI];unfold Ad;rw [<-List.map_take,<-List.map_take,List.take_range];congr 3;omega
def vF {n:Nat} {F:dF} (h:((List.range n).map F).any (λz=>!decide (z=0))=false):∀ k,k<n->F k=0:=by
 intro k hk;have:=List.any_eq_false.mp h (F k) (BM.mpr ⟨k,EK.mpr hk,rfl⟩);simpa using this
def Tx {n s:Nat} {F:dF} {w:Int} (a:s<n) (b:F s=0) (g:dF) (k:Nat) :
  cvL ((List.range n).map λj=>if j=s then w else F j) g k=cvL ((List.range n).map F) g k+w*Au s g k:=by
 have e:∀ m,m<=n->cvL ((List.range m).map λj=>if j=s then w else F j) g k=cvL ((List.range m).map F) g k+(if s<m then w*Au s g k else 0):=by
  intro m
  induction m with
  | zero=>intro _;rw [mE ⋯];rfl
  | succ m c=>
    intro d;rw [List.range_succ,D4,D4,List.map_singleton,List.map_singleton,DN,DN,c ⋯,AO,AO,BD];by_cases e:m=s
    ·subst e;rw [mF rfl,mE ⋯,mF ⋯,b];omega
    ·rw [mE e];by_cases h:s<m
     ·rw [mF h,mF ⋯];omega
     ·rw [mE h,mE ⋯];omega
 rw [e n (AM n),mF a]
def Dt {b:Nat} {ns:de} (h:∀ z∈ns,Bd b z) (k:Nat):Bd b (co ns k):=DJ h k
def Ks {n:Nat} {g:dF} (k:Nat):cvL ((List.range n).map λ_=>(0:Int)) g k=0:=by
 have e:((List.range n).map λ_=>(0:Int))=(List.replicate n (1:Int)).map (0*·):=by
  apply List.ext_getElem?;intro i;rw [Aj,Aj];by_cases h:i<n
  ·rw [DD h,Dx,mF h];rfl
  ·rw [Bh (by rw [BD];omega),Dx,mE h];rfl
 rw [e,A6];omega
def Kt (ns:de):List.map V.int ns=Ad ns.length (co ns):=by
 rw [JJ];congr 1;apply List.ext_getElem?;intro i;rw [Aj];by_cases h:i<ns.length
 ·rw [DD h,Ax h];show _=some (ns.getD i 0);rw [AT,Ax h];rfl
 ·rw [Bh ⋯,Bh (by rw [BD];omega)];rfl
def JK {a:de} (h:0<a.length):N_ (a.map V.int) (-1)=some (V.int (co a (a.length - 1))):=by
 refine Kr (by rw [AO];omega) ?_;rw [AO,Aj,Ax ⋯];show _=some (V.int (a.getD (a.length - 1) 0));rw [AT,Ax ⋯];rfl
def vG (h:Iq K vs H Q E):yL K { nx:=λ_ H'=>Q .non H',rt:=Q } (L2.start ["row","divisor","rest","last","quotient","shift","weight","place"] vs) H:=by
 obtain ⟨p,q,f,g,b,d,rfl,hp,hq,lm,bn,bm,bb,b7,hn,hm,kN,kR⟩:=h;have m0:=lm.1;have P:=lm.2;obtain ⟨L,hL⟩:∃ L,g.length=L+1:=⟨g.length - 1,⋯⟩;have R:g.length - 1=L:=by omega
 rw [R] at P;generalize n:co g L=r at P;have aL:=JK m0;rw [R,n] at aL;generalize hc:f.length - L=c;refine BJ (Dq (AU rfl ⟨_,_,rfl,hp,λa ha=>?_⟩));have sa:=AR ha (.lst (f.map V.int));have ac:=sa _ _ hp;have ad:=sa _ _ hq;have al:((List.map V.int g).length:Int) - 1=(L:Int):=by rw [AO];omega
 refine ⟨_,rfl,_,_,rfl,ad,_,_,rfl,rfl,?_⟩;show Q8 K _ [some (.ref p),some (.ref q),some (.ref a),some (.int (((List.map V.int g).length:Int) - 1)),none,none,none,none] _;rw [al];refine BJ (Bc (KJ (O' ⟨Ca,λx hx=>?_⟩)));have sx:=AR hx (.lst [.int 0]);have am:=sx _ _ ac
 have a1:(if (0:Int) > ((List.map V.int f).length:Int) - (L:Int) then (0:Int) else ((List.map V.int f).length:Int) - (L:Int))=(c:Int):=by
  rw [AO];split <;> omega
 refine ⟨_,rfl,_,_,rfl,am,_,rfl,_,_,rfl,rfl,_,_,rfl,?_⟩;refine ⟨_,(c:Int),_,rfl,congrArg V.int a1,upd_same,⋯,⋯,sz (by simp;omega),λy hy=>?_⟩;refine Mq ha hx hy λH1 a2 a3 sH a4 an=>?_;rw [Kt f] at a2;rw [DA,NP] at a3;have ao:=sH _ _ hp;have ar:((List.map V.int f).length:Int) - (L:Int) - 1=(f.length:Int) - (L:Int) - 1:=by rw [AO]
 have b0:((f.length:Int) - (L:Int) - 1 - -1).toNat=c:=by omega
 refine Qh ?_;refine ⟨_,rfl,_,_,rfl,ao,_,rfl,_,_,rfl,rfl,_,_,rfl,rfl,_,rfl,_,rfl,(f.length:Int) - (L:Int) - 1,_,by rw [<-ar],⟨⋯,⋯,∅,∅⟩,?_⟩;rw [b0]
 let Iv:Nat->L2.St->Hp->Prop:=λi S D=>i<=c/\∃ (F G:dF) (u v w:d8),S=[some (.ref p),some (.ref q),some (.ref a),some (.int (L:Int)),some (.ref y),u,v,w]/\Same H D/\D a=some (.lst (Ad f.length F))/\D y=some (.lst (Ad c G))/\
  (∀ j,j<c - i->G j=0)/\(∀ k,k<f.length - i->F k=co f k - cvL ((List.range c).map G) (co g) k)/\(∀ k,f.length - i<=k->co f k=cvL ((List.range c).map G) (co g) k)/\(∀ k,k<f.length->Bd (b+i*(d+1)) (F k))
 refine ForJ.down Iv ⟨Ab _,co f,λ_=>0,none,none,none,rfl,sH,a2,a3,λ_ _=>rfl,λk _=>by rw [Ks];omega,λk hk=>by rw [Ks,Af ⋯],λk _=>(Dt bn k).mono ⋯⟩ ?_ ?_
 ·rintro i S D hi ⟨_,F,G,u,v,w,rfl,s2,I,U,hG,hF,J,bF⟩;have a5:=s2 _ _ hq;have ic:i<c:=hi;have b1:((f.length:Int) - (L:Int) - 1 - (i:Int))=((c - 1 - i:Nat):Int):=by omega
  rw [b1];generalize hs:c - 1 - i=s;have b9:s+L=f.length - 1 - i:=by omega
  have aT:N_ (Ad f.length F) ((s:Int)+(L:Int))=some (V.int (F (s+L))):=DW (j:=s+L) ⋯ (CN F ⋯);refine ⟨_,rfl,_,rfl,_,rfl,_,_,rfl,rfl,_,_,_,_,rfl,rfl,I,aT,_,rfl,_,rfl,_,_,_,_,rfl,rfl,a5,aL,_,_,rfl,rfl,P,?_⟩;show Q7 K _ [some (.ref p),some (.ref q),some (.ref a),some (.int (L:Int)),some (.ref y),some (.int (s:Int)),some (.int ((F (s+L)).fdiv r)),w] D;generalize hw:(F (s+L)).fdiv r=m;have b2:=bF (s+L) ⋯;have W:Bd (b+i*(d+1)) m:=b2.le (by rw [<-hw];exact vE _ _)
  have bi:b+i*(d+1)<=60000000:=by
   have:=BW (d+1) (show i<=f.length by omega);omega
  have ba:b+(i+1)*(d+1)<=60000000:=by
   have:=BW (d+1) (show i+1<=f.length by omega);omega
  have b3:Bd d r:=by rw [<-n];exact Dt bm L
  refine ⟨_,rfl,_,rfl,_,rfl,_,_,_,_,rfl,rfl,a5,aL,_,_,rfl,rfl,Ds W b3,_,rfl,_,rfl,_,rfl,_,_,rfl,rfl,_,_,_,_,rfl,rfl,I,aT,rfl,_,rfl,Av (λY=>?_) (λY=>?_)⟩
  ·refine kN (λ⟨A,hA⟩=>?_) _ s2;have M:m*r≠F (s+L):=by simpa using Y
   have hX:∀ k,cvL (Aw A (((List.range c).map G).map ((-1)*·))) (co g) k=co f k - cvL ((List.range c).map G) (co g) k:=λk=>by rw [Bb,A6,<-hA];omega
   have q:=(NY lm (X:=Aw A (((List.range c).map G).map ((-1)*·))) (T:=s+1) (λk hk=>by rw [hX,J k ⋯];omega)).2 s rfl;rw [hX,R,n,<-hF (s+L) ⋯] at q;exact M (by rw [<-hw,q,Int.mul_fdiv_cancel _ P])
  have ex:m*r=F (s+L):=by simpa using Y
  refine ⟨_,rfl,_,rfl,_,rfl,_,_,_,s,rfl,rfl,U,by rw [CI];exact Fu rfl ⋯,?_⟩;show Q6 K _ [some (.ref p),some (.ref q),some (.ref a),some (.int (L:Int)),some (.ref y),some (.int (s:Int)),some (.int m),w] (upd D y (.lst ((Ad c G).set s (V.int m))));have b4:(Ad c G).set s (V.int m)=Ad c (λj=>if j=s then m else G j):=Gu ⋯ (mF rfl) λj _ hj=>mE hj;rw [b4];have s3:Same H (upd D y (.lst (Ad c λj=>if j=s then m else G j))):=λz o h=>Kp.upd z o (Bi h an) (s2 z o h);have Z:(upd D y (.lst (Ad c λj=>if j=s then m else G j))) a=_:=(Ar a4).trans I;have B:(upd D y (.lst (Ad c λj=>if j=s then m else G j))) y=_:=upd_same;generalize (upd D y (.lst (Ad c λj=>if j=s then m else G j)))=H3 at s3 Z B ⊢;have a6:∀ k,cvL ((List.range c).map λj=>if j=s then m else G j) (co g) k=cvL ((List.range c).map G) (co g) k+m*Au s (co g) k:=λk=>Tx ⋯ (hG s ⋯) _ k
  have a7:∀ (F':dF) (u v w:d8) (N:Hp),Same H N->N a=some (.lst (Ad f.length F'))->N y=some (.lst (Ad c λj=>if j=s then m else G j))->(∀ k,k<f.length->F' k=F k - (if s<=k/\k - s<L then m*co g (k - s) else 0))->
    Iv (i+1) [some (.ref p),some (.ref q),some (.ref a),some (.int (L:Int)),some (.ref y),u,v,w] N:=λF' u v w N s4 C O eF=>by
   refine ⟨⋯,F',_,u,v,w,rfl,s4,C,O,λj hj=>?_,λk hk=>?_,λk hk=>?_,λk hk=>?_⟩
   ·show (if j=s then m else G j)=0;rw [mE ⋯];exact hG j ⋯
   ·rw [eF k ⋯,a6,hF k ⋯];unfold Au;by_cases h:s<=k
    ·rw [mF h,mF ⟨h,⋯⟩];omega
    ·rw [mE h,mE ⋯];omega
   ·rw [a6];by_cases ek:k=s+L
    ·have hf:=hF k ⋯;rw [ek] at hf ⊢;unfold Au;rw [mF ⋯,show s+L - s=L by omega,n,ex];omega
    ·have h2:=J k ⋯;rw [h2];unfold Au;by_cases h:s<=k
     ·rw [mF h,Af (a:=g) ⋯];omega
     ·rw [mE h];omega
   ·rw [eF k hk];have e2:b+(i+1)*(d+1)=b+i*(d+1)+d+1:=by rw [Cy];omega
    rw [e2];refine Bd.sub ((bF k hk).mono ⋯) ?_;split
    ·exact W.mul (Dt bm _)
    ·exact C3 _
  refine ⟨_,rfl,rfl,_,rfl,Av (λcw=>?_) (λcw=>?_)⟩
  ·refine ⟨_,rfl,_,rfl,⋯,⋯,?_⟩;rw [DA];refine ForR.by (λj S N=>∃ (u:d8),S=[some (.ref p),some (.ref q),some (.ref a),some (.int (L:Int)),some (.ref y),some (.int (s:Int)),some (.int m),u]/\Same H N/\N a=some (.lst (Ad f.length λk=>F k - (if s<=k/\k - s<j then m*co g (k - s) else 0)))/\N y=some (.lst (Ad c λj=>if j=s then m else G j))) ⟨w,rfl,s3,?_,B⟩ ?_ ?_
   ·rw [Z];exact congrArg (λl=>some (HO.lst l)) (Gv λk _=>by rw [mE ⋯];omega)
   ·rintro j S N hj ⟨u',rfl,s4,C,O⟩;have b5:=s4 _ _ hq;have aj:N_ (g.map V.int) (0+(j:Int))=some (V.int (co g j)):=DW (j:=j) ⋯ (by rw [Kt];exact CN _ ⋯);refine ⟨_,rfl,_,rfl,_,rfl,_,_,rfl,rfl,_,_,_,_,rfl,rfl,C,DW (j:=s+j) ⋯ (CN _ ⋯),_,rfl,_,rfl,_,rfl,_,_,_,_,rfl,rfl,b5,aj,_,_,rfl,rfl,Ds W (Dt bm j),_,_,rfl,rfl,_,_,_,s+j,rfl,rfl,C,by rw [CI];exact Fu ⋯ ⋯,?_⟩;refine ⟨_,rfl,?_,?_,?_⟩
    ·intro z o h;exact Kp.upd z o (Bi h ha) (s4 z o h)
    ·refine upd_same.trans (congrArg (λl=>some (HO.lst l)) (Gu ⋯ ?_ λk _ hk=>?_))
     ·rw [mF ⋯,mE ⋯,show s+j - s=j by omega];omega
     ·by_cases h:s<=k/\k - s<j
      ·rw [mF h,mF ⋯]
      ·rw [mE h,mE ⋯]
    ·rw [Ar (Ne.symm a4)];exact O
   ·rintro S N ⟨u',rfl,s4,C,O⟩;exact a7 _ _ _ _ _ s4 C O λk _=>rfl
  ·have w0:m=0:=by simpa using cw
   exact a7 F _ _ _ _ s3 Z B λk _=>by rw [w0];split <;> omega
 ·rintro S D ⟨_,F,G,u,v,w,rfl,s2,I,U,hG,hF,J,bF⟩;refine ⟨_,rfl,_,rfl,_,rfl,_,_,rfl,I,λz hz=>?_⟩;have a0:=AR hz (.lst (((List.range (min L f.length)).map F).map V.int));refine ⟨z,(List.range (min L f.length)).map F,rfl,by rw [Nc];exact upd_same,?_⟩;rw [Nc];refine ⟨_,rfl,Av (λY=>?_) (λY=>?_)⟩
  ·refine kN (λ⟨A,hA⟩=>?_) _ (s2.trans a0);have hX:∀ k,cvL (Aw A (((List.range c).map G).map ((-1)*·))) (co g) k=co f k - cvL ((List.range c).map G) (co g) k:=λk=>by rw [Bb,A6,<-hA];omega
   have q:=(NY lm (X:=Aw A (((List.range c).map G).map ((-1)*·))) (T:=0) (λk hk=>by rw [hX,J k ⋯];omega)).1;have M:((List.range (min L f.length)).map F).any (λz=>!decide (z=0))=true:=by simpa using Y
   obtain ⟨z,b6,ab⟩:=List.any_eq_true.mp M;obtain ⟨k,hk,rfl⟩:=BM.mp b6;have hk:=EK.mp hk;have e:=hX k;rw [Bw,Fl g (λj=>q j (Ab j)),<-hF k ⋯] at e;rw [<-e] at ab;simp at ab
  ·have M:((List.range (min L f.length)).map F).any (λz=>!decide (z=0))=false:=by simpa using Y
   have B:=a0 _ _ U;rw [JJ] at B;refine AU rfl (kR y _ _ (s2.trans a0) B λk=>?_);by_cases hk:f.length - c<=k
   ·exact J k hk
   ·have:=hF k ⋯;rw [vF M k ⋯] at this;omega
def Ty {K:W.Frag} {a:Addr} {capt:List (Option Nat)} {f:TE} {g:L2.St} {Q:VK} {H:Hp} {ns:de} (F:Int->Int) (hp:H a=some (.lst (ns.map V.int))) (r:ns.length<=1000)
  (k:∀ n,n∈ns->∀ P:VK,P (.int (F n)) H->f ((CY capt g).set 0 (some (.int n))) H P) (m:∀ p,H p=none->Q (.ref p) (upd H p (.lst ((ns.map F).map V.int)))):CompJ (ax K a) capt (AF 0) f g Q H:=by
 refine CompJ.lst (xs:=ns.map V.int) (λi d b=>i<=ns.length/\b=H/\d=((ns.map F).take i).map V.int) ⟨Ab _,rfl,rfl⟩ ?_ ?_ ?_
 ·rintro i d b ⟨j,rfl,rfl⟩;refine ⟨by rw [AO];exact j,sz ?_,SqL.of hp⟩;rw [AO,CB];omega
 ·rintro i x d b c ⟨j,rfl,rfl⟩;rw [Aj] at c;cases e:ns[i]? with
  | none=>rw [e] at c;cases c
  | some n=>
    rw [e] at c;obtain rfl:V.int n=x:=mO c;have o:i<ns.length:=(By.mp e).1;show f ((CY capt g).set 0 (some (.int n))) b _;refine k n (Bg e) _ ⟨⋯,rfl,?_⟩;rw [Hs V.int (q:=F n) (by rw [Aj,e];rfl)]
 ·rintro d b ⟨_,rfl,rfl⟩ p h;have e:(ns.map F).take (ns.map V.int).length=ns.map F:=by rw [AO,show ns.length=(ns.map F).length by rw [AO],Cv]
  rw [e];exact m p h
def vH (h:KS K vs H Q E):RX K { nx:=λ_ a=>Q .non a,rt:=Q } (L2.start ["row","prime"] vs) H:=by
 obtain ⟨p,e,m,rfl,hp,b,c,q⟩:=h;unfold RX;rwa [];refine ⟨⟨_,SqL.of hp⟩,Ty (·% m) hp c (λn _ P d=>?_) q⟩;rwa [];exact ⟨b,d⟩
theorem JL {F:Int->Int} (a:F 0=0) (ns:de) (k:Nat):co (ns.map F) k=F (co ns k):=by
 unfold co;rw [AT,AT,Aj];cases ns[k]? with
 | none=>exact a.symm
 | some z=>rfl
def T2 {ns:de} {z:Int} (h:z∈Cq ns):z∈ns:=List.mem_of_mem_take h
def vI (ns:de):(Cq ns).length<=ns.length:=by rw [NS];exact NQ _ _
def Ht (a m:Int):m∣a % m - a:=⟨-(a / m),by have:=Int.emod_add_mul_ediv a m;rw [Int.mul_neg];omega⟩
def vJ (h:Hh K vs H Q E):RY K { nx:=λ_ b=>Q .non b,rt:=Q } (L2.start ["row","prime"] vs) H:=by
 obtain ⟨p,g,m,rfl,hp,a,c,q⟩:=h;unfold RY;rwa [hp];refine ⟨_,rfl,a,c,λr d=>?_⟩;refine ⟨_,rfl,λt e=>?_⟩;refine q t _ _ ((AR d _).trans (AR e _)) upd_same (NZ _) (A7 (vI _) (by rw [AO];exact AM _)) ⟨λz f=>?_,λk=>?_⟩
 ·obtain ⟨y,_,rfl⟩:=BM.mp (T2 f);exact ⟨Cd _ ⋯,Ct _ a⟩
 ·rw [Na,JL (Int.zero_emod m)];exact Ht _ _
def vK (h:KR K vs H Q E):RW K { nx:=λ_ d=>Q .non d,rt:=Q } (L2.start ["whole","prime","one","other","one_weight","other_weight","quotient","rest"] vs) H:=by
 obtain ⟨a,p,rfl,Z,I,q⟩:=h;unfold RW RV RU RT RS;rwa [];refine ⟨⋯,?_⟩;have J:=Cd a (show p≠0 by omega);have L:=Ct a (show 0<p by omega)
 refine E4 (λn m d=>∃ (x y s t:Int) (u v:d8),m=[some (.int a),some (.int p),some (.int x),some (.int y),some (.int s),some (.int t),u,v]/\d=H/\n=y.toNat/\0<=y/\y<x/\x<=p/\
  Int.gcd x y=Int.gcd a p/\p∣x - s*a/\p∣y - t*a/\(t.natAbs:Int)*x+(s.natAbs:Int)*y<=p/\(s.natAbs:Int)<=p) (a % p).toNat ⟨p,a % p,0,1,none,none,rfl,rfl,rfl,J,L,Int.le_refl _,?_,⟨1,⋯⟩,?_,by simp,by simp;omega⟩ ?_
 ·rw [O8 a ⋯]
 ·rw [show a % p - 1*a=a % p - a by omega];exact Ht a p
 ·rintro n m d ⟨x,y,s,t,u,v,rfl,rfl,rfl,e,yx,xp,f,o,r,hb,M⟩;have tx:(t.natAbs:Int)*1<=(t.natAbs:Int)*x:=IC ⋯ ⋯;have sy:0<=(s.natAbs:Int)*y:=Int.mul_nonneg ⋯ e;have N:(t.natAbs:Int)<=p:=by omega
  rwa [];refine Av (λc=>?_) (λc=>?_)
  ·have w:0<y:=by
    have:y≠0:=by simpa using c
    omega
   unfold RP RN RM RL RK RJ RI;have q0:=Int.ediv_nonneg (show 0<=x by omega) e;have q1:x / y<=x:=Int.ediv_le_self y ⋯;have r0:=Cd x (show y≠0 by omega);have r1:=Ct x w;have g:x - x / y*y=x % y:=by have:=Int.emod_add_mul_ediv x y;rw [Int.mul_comm] at this;omega
   have B:∀ {z:Int},z.natAbs<=p.natAbs->Bd 60000000 z:=λh=>(I.le h).mono ∅;refine ⟨λO P=>∃ R,R<y.toNat/\_,λ_ _ h=>h,?_⟩;rwa [];refine ⟨w,Ds (B ⋯) (B ⋯),Ds (B ⋯) (B ⋯),?_⟩;refine ⟨(x - x / y*y).toNat,⋯,rfl,⋯,⋯,⋯,?_,r,?_,?_,N⟩
   ·rw [g,O8 x e];exact f
   ·obtain ⟨b,i⟩:=o;obtain ⟨A,S⟩:=r
    exact ⟨b - x / y*A,by
     generalize x / y=j at *;have k:x=s*a+p*b:=by omega
     have C:y=t*a+p*A:=by omega
     rw [k,C];ext⟩
   ·have n1:((s - x / y*t).natAbs:Int)<=(s.natAbs:Int)+x / y*(t.natAbs:Int):=by
     have T:=Int.natAbs_sub_le s (x / y*t);rw [BN] at T;have U:((x / y).natAbs:Int)=x / y:=by omega
     have h3:(((x / y).natAbs*t.natAbs:Nat):Int)=x / y*(t.natAbs:Int):=by rw [Int.natCast_mul,U]
     omega
    have n2:=Int.mul_le_mul_of_nonneg_right n1 e;rw [g];have W:(t.natAbs:Int)*(x % y)=(t.natAbs:Int)*x - (t.natAbs:Int)*(x / y*y):=by rw [<-g,Int.mul_sub]
    rw [W];generalize (t.natAbs:Int)=D at *;generalize (s.natAbs:Int)=F at *;generalize x / y=j at *;have n4:(F+j*D)*y=F*y+D*(j*y):=by ext
    omega
  ·have yz:y=0:=by simpa using c
   unfold RQ;rwa [];refine ⟨⋯,q _ (Cd _ ⋯) (Ct _ ⋯) λX=>?_⟩
   have x1:x=1:=by
    rw [yz] at f;rw [Int.gcd_zero_right,X] at f;omega
   obtain ⟨b,i⟩:=o;obtain ⟨G,Y⟩:=Ht s p;refine ⟨G*a - b,?_⟩;have k:s % p=s+p*G:=by omega
   rw [k];have C:s*a=1 - p*b:=by omega
   ext
def vL (h:Hi K vs H Q E):RZ K { nx:=λ_ v=>Q .non v,rt:=Q } (L2.start ["row","prime","factor"] vs) H:=by
 obtain ⟨q,a,p,rfl,g,o,u,w,x,b,k⟩:=h;have A:(2:Int)<=(p:Int):=by have:=o.two;omega
 unfold RZ;rwa [g];by_cases d:a=[]
 ·subst d;refine Av (λ_=>?_) (λc=>absurd rfl c);refine ⟨sz ∅,λr j=>k r [] 0 _ (AR j _) upd_same rfl (λz=>absurd rfl z) ⟨λz b=>(by cases b),λi=>?_⟩⟩;show (p:Int)∣co [] i - 0*co [] i;rw [Af (Ab _)];exact ⟨0,⋯⟩
 have C:0<a.length:=BE.mpr d;refine Av (λc=>absurd c (by simpa using d)) (λ_=>?_);have D:=JK C;rwa [D];refine ⟨A,u,λf G I m=>?_⟩
 have J:co a (a.length - 1)≠0:=by
  rcases x with h | h
  ·exact absurd h d
  ·exact h
 have N:0<=co a (a.length - 1)/\co a (a.length - 1)<(p:Int):=b _ (by
  unfold co;rw [AT,Ax ⋯];exact EN _)
 have L:Int.gcd (co a (a.length - 1)) (p:Int)=1:=o.cop λz=>by
  have:=EO ⋯ z;omega
 have m:=m L;have B:∀ {z:Int},0<=z->z<(p:Int)->Bd 60000000 z:=λO R=>(u.le ⋯).mono ∅;refine ⟨⟨_,SqL.of g⟩,Ty (λn=>n*f % (p:Int)) g w (λn d P M=>?_) λr j=>?_⟩
 ·rwa [];exact ⟨Ds (B (b n d).1 (b n d).2) (B G I),⋯,M⟩
 ·have cm:∀ i,co (a.map λn=>n*f % (p:Int)) i=co a i*f % (p:Int):=λi=>JL (F:=λn=>n*f % (p:Int)) (by simp) a i;refine k r _ f _ (AR j _) upd_same (AO ..) (λ_=>?_) ⟨λz b=>?_,λi=>?_⟩
  ·rw [AO,cm];obtain ⟨c,S⟩:=m;have e:co a (a.length - 1)*f=1+(p:Int)*c:=by rw [Int.mul_comm];omega
   rw [e,Int.add_mul_emod_self_left];exact Int.emod_eq_of_lt ∅ ⋯
  ·obtain ⟨y,_,rfl⟩:=BM.mp b;exact ⟨Cd _ ⋯,Ct _ ⋯⟩
  ·rw [cm];show (p:Int)∣co a i*f % (p:Int) - f*co a i;rw [Int.mul_comm f];exact Ht _ _
def vM (h:KY K vs H Q E):Rh K { nx:=λ_ d=>Q .non d,rt:=Q } (L2.start ["whole","prime","rest"] vs) H:=by
 obtain ⟨w,p,rfl,a,k⟩:=h;unfold Rh;rwa [];have g:=Cd w (show p≠0 by omega);have i:=Ct w a;have b:=Ht w p;refine ⟨a,IntMulOk.of_left (intBits_le_64 ⋯ ⋯),Av (λc=>?_) (λc=>?_)⟩
 ·refine k _ ?_ ⋯;obtain ⟨e,f⟩:=b;exact ⟨e - 1,by rw [Int.mul_sub];omega⟩
 ·exact k _ b ⋯
def vN (h:KU K vs H Q E):Rf K { nx:=λ_ a=>Q .non a,rt:=Q } (L2.start ["row","divisor","modulus"] vs) H:=by
 obtain ⟨p,q,d,e,m,b,rfl,hp,f,g,i,j,n,c,o,u,v,k⟩:=h;unfold Rf;rwa [hp,f];refine ⟨d,rfl,e,rfl,g,i,j,b,n,c,o,u,v,λt r s w x a y z D A F tr B C _=>?_⟩;refine ⟨_,z,?_⟩;rwa [];exact k s w x a y A tr B C
def vO (h:KW K vs H Q E):Rg K { nx:=λ_ P=>Q .non P,rt:=Q } (L2.start ["row","other","prime","rest"] vs) H:=by
 obtain ⟨a,b,ns,ms,p,rfl,ha,hb,pp,Y,hn,hm,h0,k⟩:=h;have p2:(2:Int)<=(p:Int):=by have:=pp.two;omega
 unfold Rg;rwa [ha];refine ⟨ns,rfl,⋯,hn,λc r1 H1 s1 hc a2 l1 w=>?_⟩;refine ⟨r1,p,rfl,hc,pp,Y,⋯,a2,w.1,λd n f H2 s2 hd l2 o2 R=>?_⟩;have a3:=s2 _ _ (s1 _ _ hb);rwa [a3];refine ⟨ms,rfl,⋯,hm,λc' r3 H3 s3 a4 a5 l3 L=>?_⟩;refine ⟨r3,p,rfl,a4,pp,Y,⋯,a5,L.1,λd' r4 f' H4 s4 a6 l4 o4 S=>?_⟩;have a7:Same H H4:=((s1.trans s2).trans s3).trans s4;have ab:=(s3.trans s4) _ _ hd
 have I:∀ {g h:dF} {q:de} {f:Int},Dm (p:Int) g h->Md (p:Int) q (λk=>f*h k)->Dm (p:Int) g (co q):=λ{g h q f} d v=>by
  refine Dm.congr (Dm.less d d f 0 0) λk=>?_;have:=v.2 k;show (p:Int)∣co q k - (f*h k - 0*_);rw [Int.zero_mul,Int.sub_zero];exact this
 have nz:∀ {i q M:de} {f:Int},(∃ k,¬ (p:Int)∣co i k)->Md (p:Int) q (co i)->M.length=q.length->0<M.length:=λ{i q M f} ⟨k,hk⟩ v e=>by
  rcases Cc M.length with z | z
  ·exfalso;have:=v.2 k;rw [Af ⋯] at this;have t2:=Int.dvd_neg.mpr this;rw [show ∀ x:Int,-(0 - x)=x by intro x;omega] at t2;exact hk t2
  ·exact z
 have M1:∀ {i q:de},Md (p:Int) q (co i)->∀ {g:dF},Dm (p:Int) g (co i)->Dm (p:Int) g (co q):=λv g d=>Dm.congr d v.2
 have J:∀ {g:dF} {r n:de} {f:Int},Md (p:Int) n (λk=>f*co r k)->n.length=r.length->(r≠[]->co n (n.length - 1)=1)->Dm (p:Int) g (co n)->Dm (p:Int) g (co r):=λ{g r n f} v l o d=>by
  by_cases r0:r=[]
  ·exact Dm.zero _ _ λk=>by rw [r0,Af (Ab _)];exact Cm _
  ·refine Dm.congr (Dm.less d d (co r (r.length - 1)) 0 0) λk=>?_;show (p:Int)∣co r k - (co r (r.length - 1)*co n k - 0*_);rw [Int.zero_mul,Int.sub_zero];have X:=v.2 k;have T:=v.2 (n.length - 1);rw [o r0,l] at T;have q1:(p:Int)∣co r (r.length - 1)*(co n k - f*co r k):=Ex X;have q2:(p:Int)∣co r k*(1 - f*co r (r.length - 1)):=Ex T;refine CJ (Int.dvd_sub q2 q1) (FH ?_);ext
 have O:∀ {g:dF} {i r n:de} {f:Int},Md (p:Int) r (co i)->Md (p:Int) n (λk=>f*co r k)->n.length=r.length->(r≠[]->co n (n.length - 1)=1)->Dm (p:Int) g (co n)->Dm (p:Int) g (co i):=λ{g i r n f} w v l o d=>Dm.congr (J v l o d) λk=>by
  have:=Int.dvd_neg.mpr (w.2 k);refine CJ this (FH ?_);omega
 refine E4 (λm σ P=>∃ (x y:Addr) (i j:de) (u:d8),σ=[some (.ref x),some (.ref y),some (.int (p:Int)),u]/\Same H P/\P x=some (.lst (i.map V.int))/\P y=some (.lst (j.map V.int))/\m=j.length/\i.length<=1000/\j.length<=1000/\(0<i.length\/0<j.length)/\(i≠[]->co i (i.length - 1)=1)/\(j≠[]->co j (j.length - 1)=1)/\(∀ z∈i,0<=z/\z<(p:Int))/\(∀ z∈j,0<=z/\z<(p:Int))/\
  (∀ g:dF,Dm (p:Int) g (co ns)->Dm (p:Int) g (co ms)->Dm (p:Int) g (co i)/\Dm (p:Int) g (co j))/\(∀ g:dF,Dm (p:Int) g (co i)->Dm (p:Int) g (co j)->Dm (p:Int) g (co ns)/\Dm (p:Int) g (co ms))) r4.length ⟨d,d',n,r4,none,rfl,a7,ab,a6,rfl,⋯,⋯,?_,?_,?_,R.1,S.1,λg C F=>⟨I (M1 w C) R,I (M1 L F) S⟩,λg C F=>⟨O w R l2 o2 C,O L S l4 o4 F⟩⟩ ?_
 ·rcases h0 with h | h
  ·exact .inl (nz (f:=f) h w l2)
  ·exact .inr (nz (f:=f) h L l4)
 ·intro z;exact o2 λe=>z (B6.mp (by rw [l2,e];rfl))
 ·intro z;exact o4 λe=>z (B6.mp (by rw [l4,e];rfl))
 ·rintro m σ P ⟨x,y,i,j,u,rfl,sH,hx,hy,rfl,xl,yl,ne,ox,oy,bx,bY,hD,hE⟩;rwa [hy];by_cases N:j=[]
  ·subst N;refine Av (λc=>absurd c (by simp)) (λ_=>?_);have x0:0<i.length:=by simpa using ne
   have Z:Dm (p:Int) (co i) (co i):=⟨[1],λk=>by
    have e:cvL [1] (co i) k=co i k:=by
     cases k with
     | zero=>rw [At];omega
     | succ k=>rw [Ak,A5];omega
    rw [e,Int.sub_self];exact Cm _⟩
   have zz:Dm (p:Int) (co i) (co []):=Dm.zero _ _ λk=>by rw [Af (Ab _)];exact Cm _
   exact k x i P sH hx x0 xl (ox (BE.mp x0)) bx (λg C F=>(hD g C F).1) (hE _ Z zz).1 (hE _ Z zz).2
  ·have y0:0<j.length:=BE.mpr N;refine Av (λ_=>?_) (λc=>absurd N (by simpa using c));refine ⟨λaj al=>∃ m',m'<j.length/\_,λ_ _ h=>h,?_⟩;rwa [hx,hy];have B:∀ z:Int,0<=z->z<(p:Int)->Bd 45000 z:=λz X T=>Y.le ⋯;refine ⟨i,rfl,j,rfl,y0,oy N,⋯,45000,Y,λz hz=>B z (bY z hz).1 (bY z hz).2,∅,xl,yl,λs G q H2 a0 hs ac am v=>?_⟩
   have U:∀ g:dF,Dm (p:Int) g (co j)->Dm (p:Int) g (co q)->Dm (p:Int) g (co i):=λg C F=>by
    obtain ⟨S1,X⟩:=C;obtain ⟨D,T⟩:=F;refine ⟨Aw D (BS G S1),λk=>?_⟩;rw [Bb,Bv];have e1:=bZ X G k;have m2:(p:Int)∣co q k - (co i k - cvL G (co j) k):=v.2 k;have:=Ck (Int.dvd_sub (T k) m2) e1;refine CJ this (FH ?_);omega
   refine ⟨q,p,rfl,hs,pp,Y,⋯,ac,v.1,λt ts f H3 a1 ht lt ot W=>?_⟩;refine ⟨ts.length,⋯,(sH.trans a0).trans a1,j,(a0.trans a1) _ _ hy,ts,ht,rfl,yl,⋯,.inl y0,oy,λz=>ot λe=>z (B6.mp (by rw [lt,e];rfl)),bY,W.1,λg C F=>⟨(hD g C F).2,?_⟩,λg C F=>hE g (U g C (J W lt ot F)) C⟩;obtain ⟨dx,dy⟩:=hD g C F
   have dr:Dm (p:Int) g (co q):=by
    obtain ⟨S1,X⟩:=dx;obtain ⟨D,T⟩:=dy;refine Dm.congr (f:=λk=>co i k - cvL G (co j) k) ⟨Aw S1 ((BS G D).map (-1*·)),λk=>?_⟩ v.2;rw [Bb,A6,Bv]
    have e:(p:Int)∣cvL G (co j) k - cvL G (cvL D g) k:=by
     have ad:∀ (A:de) (k:Nat),(p:Int)∣cvL A (co j) k - cvL A (cvL D g) k:=by
      intro A
      induction A with
      | nil=>intro k;rw [A5,A5];exact ⟨0,⋯⟩
      | cons a A ih=>
        intro k;rw [Fh,Fh]
        have i2:(p:Int)∣DK (cvL A (co j)) k - DK (cvL A (cvL D g)) k:=by
         cases k with
         | zero=>exact ⟨0,by show (0:Int) - 0=_;omega⟩
         | succ k=>exact ih k
        have i1:(p:Int)∣a*(co j k - cvL D g k):=Ex (T k);have:=Ck i1 i2;rw [show a*(co j k - cvL D g k)+(DK (cvL A (co j)) k - DK (cvL A (cvL D g)) k)=a*co j k+DK (cvL A (co j)) k - (a*cvL D g k+DK (cvL A (cvL D g)) k) by rw [Int.mul_sub];omega] at this;exact this
     exact ad G k
    have:=Int.dvd_sub (X k) e;rw [show co i k - cvL S1 g k - (cvL G (co j) k - cvL G (cvL D g) k)=co i k - cvL G (co j) k - (cvL S1 g k + -1*cvL G (cvL D g) k) by omega] at this;exact this
   exact I dr W
def vP (h:KT K vs H Q E):yW K { nx:=λ_ H'=>Q .non H',rt:=Q } (L2.start ["row","divisor","modulus","rest","last","quotient","shift","weight","place"] vs) H:=by
 obtain ⟨p,q,d,g,m,b,rfl,hp,hq,m0,ml,mp,bm,a2,bb,hn,hm,kR⟩:=h;obtain ⟨L,hL⟩:∃ L,g.length=L+1:=⟨g.length - 1,⋯⟩;have a3:g.length - 1=L:=by omega
 rw [a3] at ml;generalize hc:d.length - L=c;refine BJ (Dq (AU rfl ⟨_,_,rfl,hp,λa ha=>?_⟩));have sa:=AR ha (.lst (d.map V.int));have a4:=sa _ _ hp;have a5:=sa _ _ hq;have a6:((List.map V.int g).length:Int) - 1=(L:Int):=by rw [AO];omega
 refine ⟨_,rfl,_,_,rfl,a5,_,_,rfl,rfl,?_⟩;show Re K _ [some (.ref p),some (.ref q),some (.int m),some (.ref a),some (.int (((List.map V.int g).length:Int) - 1)),none,none,none,none] _;rw [a6];refine BJ (Bc (KJ (O' ⟨Ca,λx hx=>?_⟩)));have a7:=AR hx (.lst [.int 0]) _ _ a4
 have T:(if (0:Int) > ((List.map V.int d).length:Int) - (L:Int) then (0:Int) else ((List.map V.int d).length:Int) - (L:Int))=(c:Int):=by
  rw [AO];split <;> omega
 refine ⟨_,rfl,_,_,rfl,a7,_,rfl,_,_,rfl,rfl,_,_,rfl,?_⟩;refine ⟨_,(c:Int),_,rfl,congrArg V.int T,upd_same,⋯,⋯,sz (by simp;omega),λy hy=>?_⟩;refine Mq ha hx hy λH1 U W sH X ab=>?_;rw [Kt d] at U;rw [DA,NP] at W;have ac:=sH _ _ hp;have ad:((List.map V.int d).length:Int) - (L:Int) - 1=(d.length:Int) - (L:Int) - 1:=by rw [AO]
 have al:((d.length:Int) - (L:Int) - 1 - -1).toNat=c:=by omega
 refine Qh ?_;refine ⟨_,rfl,_,_,rfl,ac,_,rfl,_,_,rfl,rfl,_,_,rfl,rfl,_,rfl,_,rfl,(d.length:Int) - (L:Int) - 1,_,by rw [<-ad],⟨⋯,⋯,∅,∅⟩,?_⟩;rw [al]
 let Iv:Nat->L2.St->Hp->Prop:=λi O n=>i<=c/\∃ (F G:dF) (u v w:d8),O=[some (.ref p),some (.ref q),some (.int m),some (.ref a),some (.int (L:Int)),some (.ref y),u,v,w]/\Same H n/\n a=some (.lst (Ad d.length F))/\n y=some (.lst (Ad c G))/\
  (∀ j,j<c - i->G j=0)/\(∀ k,k<d.length - i->m∣F k - (co d k - cvL ((List.range c).map G) (co g) k))/\(∀ k,d.length - i<=k->m∣co d k - cvL ((List.range c).map G) (co g) k)/\(∀ j,j<c->0<=G j/\G j<m)
 refine ForJ.down Iv ⟨Ab _,co d,λ_=>0,none,none,none,rfl,sH,U,W,λ_ _=>rfl,λk _=>by rw [Ks];exact ⟨0,⋯⟩,λk hk=>by rw [Ks,Af ⋯];exact ⟨0,⋯⟩,λk _=>⟨Int.le_refl 0,mp⟩⟩ ?_ ?_
 ·rintro i O n hi ⟨_,F,G,u,v,w,rfl,s2,I,J,hG,hF,P,bG⟩;have b1:=s2 _ _ hq;have ic:i<c:=hi;have am:((d.length:Int) - (L:Int) - 1 - (i:Int))=((c - 1 - i:Nat):Int):=by omega
  rw [am];generalize hs:c - 1 - i=s;have b2:s+L=d.length - 1 - i:=by omega
  have aT:N_ (Ad d.length F) ((s:Int)+(L:Int))=some (V.int (F (s+L))):=DW (j:=s+L) ⋯ (CN F ⋯);refine ⟨_,rfl,_,rfl,_,rfl,_,_,rfl,rfl,_,_,_,_,rfl,rfl,I,aT,_,rfl,_,_,rfl,rfl,mp,?_⟩;show Rb K _ [some (.ref p),some (.ref q),some (.int m),some (.ref a),some (.int (L:Int)),some (.ref y),some (.int (s:Int)),some (.int (F (s+L) % m)),w] n;have w0:=Cd (F (s+L)) (show m≠0 by omega);have w1:=Ct (F (s+L)) mp;have wd:=Ht (F (s+L)) m;generalize hw:F (s+L) % m=f at w0 w1 wd ⊢;have an:Bd b f:=bm.le ⋯;refine ⟨_,rfl,_,rfl,_,rfl,_,_,_,s,rfl,rfl,J,by rw [CI];exact Fu rfl ⋯,?_⟩;show Ra K _ [some (.ref p),some (.ref q),some (.int m),some (.ref a),some (.int (L:Int)),some (.ref y),some (.int (s:Int)),some (.int f),w] (upd n y (.lst ((Ad c G).set s (V.int f))));rw [show (Ad c G).set s (V.int f)=Ad c (λj=>if j=s then f else G j) from Gu ⋯ (mF rfl) λj _ R=>mE R];have s3:Same H (upd n y (.lst (Ad c λj=>if j=s then f else G j))):=λz o h=>Kp.upd z o (Bi h ab) (s2 z o h);have A:(upd n y (.lst (Ad c λj=>if j=s then f else G j))) a=_:=(Ar X).trans I;have S:(upd n y (.lst (Ad c λj=>if j=s then f else G j))) y=_:=upd_same;generalize (upd n y (.lst (Ad c λj=>if j=s then f else G j)))=H3 at s3 A S ⊢;have Y:∀ k,cvL ((List.range c).map λj=>if j=s then f else G j) (co g) k=cvL ((List.range c).map G) (co g) k+f*Au s (co g) k:=λk=>Tx ⋯ (hG s ⋯) _ k
  have Z:∀ (F':dF) (u v w:d8) (C:Hp),Same H C->C a=some (.lst (Ad d.length F'))->C y=some (.lst (Ad c λj=>if j=s then f else G j))->(∀ k,k<d.length->F' k=F k - (if s<=k/\k - s<L then f*co g (k - s) else 0))->
    Iv (i+1) [some (.ref p),some (.ref q),some (.int m),some (.ref a),some (.int (L:Int)),some (.ref y),u,v,w] C:=λF' u v w C M B D eF=>by
   refine ⟨⋯,F',_,u,v,w,rfl,M,B,D,λj R=>?_,λk hk=>?_,λk hk=>?_,λj R=>?_⟩
   ·show (if j=s then f else G j)=0;rw [mE ⋯];exact hG j ⋯
   ·have hf:=hF k ⋯;rw [eF k ⋯,Y];unfold Au;by_cases h:s<=k
    ·rw [mF h,mF ⟨h,⋯⟩];rw [show ∀ x y z w:Int,x - y - (z - (w+y))=x - (z - w) by intro x y z w;omega];exact hf
    ·rw [mE h,mE ⋯];rw [show ∀ x z w:Int,x - 0 - (z - (w+f*0))=x - (z - w) by intro x z w;omega];exact hf
   ·rw [Y];by_cases ek:k=s+L
    ·have hf:=hF k ⋯;rw [ek] at hf ⊢;unfold Au;rw [mF ⋯,show s+L - s=L by omega,ml];obtain ⟨α,b3⟩:=hf;obtain ⟨β,b4⟩:=wd;exact ⟨-α - β,by rw [Int.mul_sub,Int.mul_neg];omega⟩
    ·have N:=P k ⋯;unfold Au;by_cases h:s<=k
     ·rw [mF h,Af (a:=g) ⋯,Int.mul_zero,Int.add_zero];exact N
     ·rw [mE h,Int.mul_zero,Int.add_zero];exact N
   ·show 0<=(if j=s then f else G j)/\(if j=s then f else G j)<m;split
    ·exact ⟨w0,w1⟩
    ·exact bG j R
  refine ⟨_,rfl,rfl,_,rfl,Av (λcw=>?_) (λcw=>?_)⟩
  ·refine ⟨_,rfl,_,rfl,⋯,⋯,?_⟩;rw [DA];refine ForR.by (λj O C=>∃ (u:d8),O=[some (.ref p),some (.ref q),some (.int m),some (.ref a),some (.int (L:Int)),some (.ref y),some (.int (s:Int)),some (.int f),u]/\Same H C/\C a=some (.lst (Ad d.length λk=>F k - (if s<=k/\k - s<j then f*co g (k - s) else 0)))/\C y=some (.lst (Ad c λj=>if j=s then f else G j))) ⟨w,rfl,s3,?_,S⟩ ?_ ?_
   ·rw [A];exact congrArg (λl=>some (HO.lst l)) (Gv λk _=>by rw [mE ⋯];omega)
   ·rintro j O C R ⟨u',rfl,M,B,D⟩;have ao:=M _ _ hq;have aj:N_ (g.map V.int) (0+(j:Int))=some (V.int (co g j)):=DW (j:=j) ⋯ (by rw [Kt];exact CN _ ⋯);refine ⟨_,rfl,_,rfl,_,rfl,_,_,rfl,rfl,_,_,_,_,rfl,rfl,B,DW (j:=s+j) ⋯ (CN _ ⋯),_,rfl,_,rfl,_,rfl,_,_,_,_,rfl,rfl,ao,aj,_,_,rfl,rfl,Ds an (Dt a2 j),_,_,rfl,rfl,_,_,_,s+j,rfl,rfl,B,by rw [CI];exact Fu ⋯ ⋯,?_⟩;refine ⟨_,rfl,?_,?_,?_⟩
    ·intro z o h;exact Kp.upd z o (Bi h ha) (M z o h)
    ·refine upd_same.trans (congrArg (λl=>some (HO.lst l)) (Gu ⋯ ?_ λk _ hk=>?_))
     ·rw [mF ⋯,mE ⋯,show s+j - s=j by omega];omega
     ·by_cases h:s<=k/\k - s<j
      ·rw [mF h,mF ⋯]
      ·rw [mE h,mE ⋯]
    ·rw [Ar (Ne.symm X)];exact D
   ·rintro O C ⟨u',rfl,M,B,D⟩;exact Z _ _ _ _ _ M B D λk _=>rfl
  ·have ar:f=0:=by simpa using cw
   exact Z F _ _ _ _ s3 A S λk _=>by rw [ar];split <;> omega
 ·rintro O n ⟨_,F,G,u,v,w,rfl,s2,I,J,hG,hF,P,bG⟩;rw [JJ] at J;show Rc K _ _ _;refine CA (Cf (CH ⟨_,rfl,_,_,rfl,J,λt ht=>?_⟩));have st:=AR ht (.lst (List.map V.int (Cq (List.map G (List.range c)))));have A:=st _ _ I;have a0:upd n t (.lst (List.map V.int (Cq (List.map G (List.range c))))) t=_:=upd_same;generalize upd n t (.lst (List.map V.int (Cq (List.map G (List.range c)))))=H3 at st A a0 ⊢;refine Ag ⟨_,rfl,_,rfl,_,rfl,_,_,rfl,A,λz hz=>⟨_,rfl,z,(List.range (min L d.length)).map F,m,rfl,by rw [Nc];exact upd_same,mp,by rw [AO,BD];omega,λr rs C M b0 tr lr md=>?_⟩⟩;have a1:=(AR hz _).trans M;rw [AO,BD] at lr;refine ⟨Bx,λe he=>?_⟩;have se:=AR he (.tup [.ref t,.ref r])
  have cq:∀ k,cvL (Cq ((List.range c).map G)) (co g) k=cvL ((List.range c).map G) (co g) k:=λk=>by
   rw [Bw,BC (λj=>Na _ j) g k,<-Bw]
  refine kR e t r _ rs _ ((s2.trans st).trans (a1.trans se)) upd_same (se _ _ (a1 _ _ a0)) (se _ _ b0) (NZ _) tr ⋯ ⟨md.1,λk=>?_⟩ λz hz=>?_
  ·have:=md.2 k;rw [KE] at this;show m∣co rs k - (co d k - cvL (Cq ((List.range c).map G)) (co g) k);rw [cq];by_cases hk:k<min L d.length
   ·rw [mF hk] at this;have N:=Ck this (hF k ⋯);rw [show ∀ x y z:Int,x - y+(y - z)=x - z by intro x y z;omega] at N;exact N
   ·rw [mE hk] at this;have N:=Int.dvd_sub this (P k ⋯);rw [show ∀ x y:Int,x - 0 - y=x - y by intro x y;omega] at N;exact N
  ·obtain ⟨j,R,rfl⟩:=BM.mp (T2 hz);exact bG j (EK.mp R)
theorem SDs.tp {H a:Hp} (s:Same H a):∀ {xs:d7} {b:List (de)},SDs H xs b->SDs a xs b
 | [],[],_=>trivial
 | _::_,_::_,h=>⟨let ⟨p,e,q⟩:=h.1;⟨p,e,s _ _ q⟩,SDs.tp s h.2⟩
 | [],_::_,h=>h.elim
 | _::_,[],h=>h.elim
def SD.tp {H a:Hp} (s:Same H a) {p:Addr} {b:List (de)} (h:SD H p b):SD a p b:=let ⟨c,e,q⟩:=h;⟨c,s _ _ e,q.tp s⟩
theorem SDs.length {H:Hp}:∀ {xs:d7} {a:List (de)},SDs H xs a->xs.length=a.length
 | [],[],_=>rfl
 | _::_,_::_,h=>congrArg (·+1) (SDs.length h.2)
 | [],_::_,h=>h.elim
 | _::_,[],h=>h.elim
theorem SDs.get {H:Hp}:∀ {xs:d7} {a:List (de)} {i:Nat} {v:V},SDs H xs a->xs[i]?=some v->∃ p r,v=.ref p/\a[i]?=some r/\H p=some (.lst (r.map V.int))
 | [],[],_,_,_,e=>by simp at e
 | _::_,r::_,0,_,h,e=>by
   simp at e;subst e;obtain ⟨p,e,q⟩:=h.1;exact ⟨p,r,e,rfl,q⟩
 | _::_,_::_,i+1,_,h,e=>by
   obtain ⟨p,r,b,c,d⟩:=SDs.get (i:=i) h.2 (by simpa using e);exact ⟨p,r,b,by simpa using c,d⟩
 | [],_::_,_,_,h,_=>h.elim
 | _::_,[],_,_,h,_=>h.elim
theorem SDs.snoc {H:Hp} {p:Addr} {r:de} (hp:H p=some (.lst (r.map V.int))):∀ {xs:d7} {a:List (de)},SDs H xs a->SDs H (xs++[.ref p]) (a++[r])
 | [],[],_=>⟨⟨p,rfl,hp⟩,trivial⟩
 | _::_,_::_,h=>⟨h.1,SDs.snoc hp h.2⟩
 | [],_::_,h=>h.elim
 | _::_,[],h=>h.elim
theorem SD.head {H:Hp} {p:Addr} {r:de} {c:List (de)} (h:SD H p (r::c)):∃ a b,H p=some (.lst (.ref a::b))/\H a=some (.lst (r.map V.int))/\SDs H (.ref a::b) (r::c):=by
 obtain ⟨b,e,q⟩:=h
 match b,q with
 | [],q=>exact q.elim
 | x::b,q=>
   obtain ⟨a,d,f⟩:=q.1;subst d;exact ⟨a,b,e,f,q⟩
def Hu {a:Type} (x:a) (xs:List a):N_ (x::xs) 0=some x:=by
 unfold N_ aq;rw [mF ∅,mF (by rw [B7];omega)];rfl
def vQ (h:Ir K vs H Q E):RF K { nx:=λ_ A=>Q .non A,rt:=Q } (L2.start ["strand","shared","row"] vs) H:=by
 obtain ⟨p,b,rfl,⟨I,hp,O⟩,hl,D,k⟩:=h;have Z:=O.length;unfold RF;rwa [];refine ⟨⟨_,SqL.of hp⟩,ForL.by (xs:=I) (λi J A=>∃ (g:Int) (u:d8),J=[some (.ref p),some (.int g),u]/\Same H A/\0<=g/\(∀ r∈b.take i,∀ z∈r,g∣z)/\(∀ d:Int,(∀ r∈b.take i,∀ z∈r,d∣z)->d∣g)) ⟨0,none,rfl,Same.refl H,Int.le_refl 0,λr D=>(by simp at D),λd _=>Cm d⟩ ?_ ?_ ?_⟩
 ·rintro i J A _ ⟨g,u,rfl,s,_⟩;exact SqL.of (s _ _ hp)
 ·rintro i x J A P ⟨g,u,rfl,s,g0,B,L⟩;obtain ⟨a,r,rfl,j,R⟩:=O.get P;have v:=s _ _ R;have w:=D r (Bg j);rwa [v];refine ⟨r,rfl,w.1,λg' C n S d1 d2 d3=>?_⟩;have F:b.take (i+1)=b.take i++[r]:=by rw [Eu,j];rfl
  refine ⟨s.trans n,S,λT o z m=>?_,λd M=>d3 d ?_ λz m=>?_⟩
  ·rw [F] at o;rcases Er.mp o with h | h
   ·exact CJ d1 (B T h z m)
   ·rw [CC.mp h] at m;exact d2 z m
  ·exact L d λT o z m=>M T (by rw [F];exact List.mem_append_left _ o) z m
  ·exact M r (by rw [F];exact DC _ (CC.mpr rfl)) z m
 ·rintro J A ⟨g,u,rfl,s,g0,B,L⟩;rw [Z,Cv] at B L;have U:=s _ _ hp
  have gz:∀ r∈b,0<g\/r=[]:=λr f=>by
   rcases Int.lt_or_le 0 g with h | h
   ·exact .inl h
   ·right;have G:g=0:=by omega
    rcases (D r f).2 with h | h
    ·exact h
    ·exfalso;by_cases a0:r.length=0
     ·rw [Af ⋯] at h;exact h rfl
     ·have:=B r f (co r (r.length - 1)) (by
       unfold co;rw [AT,Ax ⋯];exact EN _)
      rw [G] at this;exact h (Int.zero_dvd.mp this)
  rwa [];refine ⟨⟨_,SqL.of U⟩,CompJ.lst (xs:=I) (λi y C=>i<=b.length/\Same H C/\SDs C y ((b.take i).map λr=>r.map (·/ g))) ⟨Ab _,s,trivial⟩ ?_ ?_ ?_⟩
  ·rintro i y C ⟨W,n,q⟩;refine ⟨⋯,sz ?_,SqL.of (n _ _ hp)⟩;rw [q.length,AO,CB];omega
  ·rintro i x y C P ⟨W,n,q⟩;obtain ⟨a,r,rfl,j,R⟩:=O.get P;have v:=n _ _ R;have w:=D r (Bg j);have a1:i<b.length:=(By.mp j).1;rwa [v];refine ⟨r,rfl,gz r (Bg j),w.1,λt N=>?_⟩;refine ⟨⋯,n.trans (AR N _),?_⟩;have F:(b.take (i+1)).map (λr=>r.map (·/ g))=(b.take i).map (λr=>r.map (·/ g))++[r.map (·/ g)]:=by rw [Eu,j];simp
   rw [F];exact SDs.snoc upd_same (q.tp (AR N _))
  ·rintro y C ⟨_,n,q⟩ t N;rw [Z,Cv] at q;have st:=AR N (.lst y);by_cases gp:0<g
   ·refine k t _ _ (n.trans st) ⟨y,upd_same,q.tp st⟩ ⟨g,gp,?_⟩ (.inr λd M=>?_)
    ·rw [List.map_map]
     conv=>lhs;rw [<-List.map_id b]
     refine EQ λr f=>?_;show r=(r.map (·/ g)).map (g*·);rw [List.map_map]
     conv=>lhs;rw [<-List.map_id r]
     refine EQ λz m=>?_;show z=g*(z / g);rw [GK (B r f z m)]
    ·have X:d*g∣g:=L (d*g) λr f z m=>by
      have W:=M (r.map (·/ g)) (BM.mpr ⟨r,f,rfl⟩) (z / g) (BM.mpr ⟨z,m,rfl⟩);obtain ⟨c,Y⟩:=W;refine ⟨c,?_⟩;have:=GK (B r f z m);rw [<-this,Y];ext
     obtain ⟨c,Y⟩:=X
     have e:g*(d*c)=g*1:=by rw [Int.mul_one];conv=>rhs;rw [Y]
                            ext
     have e1:=Int.eq_of_mul_eq_mul_left ⋯ e;have:d.natAbs*c.natAbs=1:=by rw [<-BN,e1];rfl
     exact Nat.eq_one_of_mul_eq_one_right this
   ·have G:∀ r∈b,r=[]:=λr f=>by
     rcases gz r f with h | h
     ·exact absurd h gp
     ·exact h
    have em:b.map (λr=>r.map (·/ g))=b:=by
     conv=>rhs;rw [<-List.map_id b]
     refine EQ λr f=>?_;rw [G r f];rfl
    rw [em] at q;refine k t b _ (n.trans st) ⟨y,upd_same,q.tp st⟩ ⟨1,∅,?_⟩ (.inl G)
    conv=>lhs;rw [<-List.map_id b]
    refine EQ λr f=>?_;rw [G r f];rfl
def vR {r:de} (h:∀ d:Int,(∀ z∈r,d∣z)->d.natAbs=1):Prim r:=λc a=>h c λz b=>by
 obtain ⟨i,e,rfl⟩:=GH b;have:=a i;unfold co at this;rw [AT,Ax e] at this;exact this
theorem vS (h:Hg K vs H Q E):RG K { nx:=λ_ j=>Q .non j,rt:=Q } (L2.start ["row"] vs) H:=by
 obtain ⟨p,u,rfl,hp,x,y,k⟩:=h;unfold RG;rwa [];refine ⟨sz ∅,λa A=>?_⟩;have v:=AR A (.lst [.ref p]);refine ⟨[u],⟨[V.ref p],upd_same,⟨⟨p,rfl,v _ _ hp⟩,trivial⟩⟩,by simp,?_,λt c j B e m n=>?_⟩
 ·intro r o;rw [CC.mp o];exact ⟨x,y⟩
 obtain ⟨g,C,f⟩:=m
 match c,f,e,n with
 | [q],f,e,n=>
   obtain ⟨b,I,D,F,_⟩:=e.head;have i:u=q.map (g*·):=by simpa using f
   refine ⟨_,D,_,Hu _ _,k b q g j (v.trans B) F C i ?_⟩;rcases n with h | h
   ·left;rw [i,h q (CC.mpr rfl)];rfl
   ·right;exact vR λd G=>h d λr o z w=>by rw [CC.mp o] at w;exact G z w
 | [],f,_,_=>simp at f
 | _::_::_,f,_,_=>simp at f
def T4 {a b:de} (c:Tz a) (n:Nat) (h:∀ k,n<=k->co a k=0):a.length<=n:=by
 rcases Am n a.length with z | z
 ·rcases c with e | e
  ·rw [e] at z;simp at z
  ·exact absurd (h _ ⋯) e
 ·exact z
def Hv {n:Nat} {a:de} (h:∀ k,Bd n (co a k)):∀ z∈a,Bd n z:=λz b=>by
 obtain ⟨i,c,rfl⟩:=GH b;have:=h i;unfold co at this;rw [AT,Ax c] at this;exact this
def Gx (g:Int) (a:de) (k:Nat):co (a.map (g*·)) k=g*co a k:=JL (F:=(g*·)) ⋯ a k
def Nd {g:Int} (b:g≠0) {a:de} (h:Tz (a.map (g*·))):Tz a:=by
 rcases h with h | h
 ·left;exact List.map_eq_nil_iff.mp h
 ·right;rw [Gx,AO] at h;exact λz=>h (by rw [z];omega)
def Nf {n:Nat} {g:Int} (c:0<g) {a:de} (h:∀ z∈a.map (g*·),Bd n z):∀ z∈a,Bd n z:=λz b=>(h (g*z) (BM.mpr ⟨z,b,rfl⟩)).le (by
 rw [BN];exact HE _ ⋯)
def T5 {a b:Int} (c:b≠0) (h:a∣b):a.natAbs<=b.natAbs:=EO ⋯ (Cw.mpr h)
def vT (h:KQ K vs H Q E):RE K { nx:=λ_ d=>Q .non d,rt:=Q } (L2.start ["strand","other","shift","top","lead","shared","factor","weight"] vs) H:=by
 obtain ⟨p,q,o,rfl,j,w,J,k⟩:=h;obtain ⟨m,x,hp,f,_⟩:=j.head;obtain ⟨u,y,z,i,_⟩:=w.head;have A:N_ (V.ref m::x) 0=some (V.ref m):=Hu _ _;have B:N_ (V.ref u::y) 0=some (V.ref u):=Hu _ _;unfold RE;rwa [];refine E4 (λn v d=>v=[some (.ref p),some (.ref q),none,none,none,none,none,none]/\d=H/\n=0) 0 ⟨rfl,rfl,rfl⟩ ?_;rintro n v d ⟨rfl,rfl,rfl⟩;rwa [hp,z,f,i,A,B];refine Av (λc=>by rw [AO] at c;exfalso;omega) (λ_=>?_);unfold RD;rwa [];refine ⟨[[]],j,∅,(λr C=>by rw [CC.mp C];exact ⟨∅,.inl rfl⟩),λt a D F b G _=>k t D F ?_⟩;obtain ⟨g,_,e⟩:=G;have I:a.length=1:=by have:=congrArg List.length e;simpa using this.symm
 obtain ⟨r,rfl⟩:∃ r,a=[r]:=List.length_eq_one_iff.mp I;have e:[]=r.map (g*·):=List.head_eq_of_cons_eq e;rw [List.map_eq_nil_iff.mp e.symm] at b;exact b
def DY {a:de} (h:Tz a) (b:a≠[]):Lz a:=by
 refine ⟨BE.mpr b,?_⟩;rcases h with e | e
 ·exact absurd e b
 ·exact e
def vU (h:Iu K vs H Q E):RH K { nx:=λ_ b=>Q .non b,rt:=Q } (L2.start ["strand","other","rest"] vs) H:=by
 obtain ⟨p,q,s,o,rfl,r,f,em,k⟩:=h;unfold RH;rwa [];refine E4 (λn i b=>(i=[some (.ref p),some (.ref q),none]/\b=H/\n=1)\/∃ (t:Addr) (u:d8),i=[some (.ref q),some (.ref t),u]/\Same H b/\SD b t [[]]/\o≠[]/\n=0) 1 (.inl ⟨rfl,rfl,rfl⟩) ?_;rintro n i b (⟨rfl,rfl,rfl⟩ | ⟨t,u,rfl,v,j,y,rfl⟩)
 ·obtain ⟨w,A,x,d,_⟩:=f.head;have g:N_ (V.ref w::A) 0=some (V.ref w):=Hu _ _;rwa [x,d,g];by_cases a:o=[]
  ·refine Av (λc=>absurd a (by simpa using c)) (λ_=>?_);rw [mF a] at k;exact k p _ (Same.refl _) r
  ·refine Av (λ_=>?_) (λc=>absurd (by simpa using c) a)
   have B:s=[]:=by
    rcases em with z | z
    ·exact z
    ·exact absurd z a
   rw [mE a] at k;refine ⟨λC D=>∃ F,F<1/\_,λ_ _ h=>h,?_⟩;rwa [x,d,g];refine Av (λ_=>k q _ (Same.refl _) f) (λ_=>?_);refine ⟨by rw [<-B];exact r,o,f,BE.mpr a,λt J G j=>?_⟩;exact ⟨0,∅,.inr ⟨G,j,a,rfl⟩⟩
 ·obtain ⟨e,xt,I,m,_⟩:=j.head;have g:N_ (V.ref e::xt) 0=some (V.ref e):=Hu _ _;rwa [I,m,g];refine Av (λc=>absurd c (by simp)) (λ_=>?_);rw [mE y] at k;exact k q _ v (f.tp v)
def vV {b n c:Nat} {r a g:de} (o:∀ z∈r,Bd b z) (f:r.length<=n) (p:n<2 ^ c) (i:Lz g) (h:∀ k,co r k=cvL a (co g) k):∀ k,Bd (b+n*(2*c+4)) (co a k):=by
 rcases Dp a with z | ⟨d,e,_,j⟩
 ·intro k;rw [z k];exact C3 _
 have m:∀ k,co r k=cvL g (co d) k:=λk=>by rw [h k,Bw,BC (λk=>(j k).symm) g k]
 have t:co r (d.length - 1+(g.length - 1))≠0:=by rw [m,Bw,JI e i];exact BK e.2 i.2
 have q:d.length<=r.length:=by
  rcases Am (d.length - 1+(g.length - 1)) r.length with c | c
  ·have:=e.1;omega
  ·exact absurd (Af c) t
 intro k;rw [<-j k];exact JH o ⟨_,t⟩ f (A7 q f) p m k
def vW {G S:de} (a:Lz G) (h:∀ k,cvL S (co G) k=0) (k:Nat):co S k=0:=(NY a (T:=0) λk _=>h k).1 k (Ab k)
def Gen.Prim {r o:dF} {g:de} (G:Gen r o g):Prim g:=λc a=>by
 rcases Am c.natAbs 2 with h | h
 ·rcases Cc c.natAbs with z | z
  ·exfalso;have b:c=0:=by omega
   have:=a (g.length - 1);rw [b] at this;exact G.lz.2 (Int.zero_dvd.mp this)
  ·omega
 ·exfalso;obtain ⟨n,d,_⟩:=G.prim h;exact d (Int.natAbs_dvd.mpr (a n))
def vX {R O A B G:de} (a:Lz G) (b:∀ k,co R k=cvL A (co G) k) (c:∀ k,co O k=cvL B (co G) k) (q:QI (co R) (co O) (co G)):QI (co A) (co B) Ai:=by
 obtain ⟨d,f,U,V,h⟩:=q;refine ⟨d,f,U,V,λk=>?_⟩
 have z:=vW (S:=Aw (Aw (BS U A) (BS V B)) [-d]) a (λk=>by
  rw [Bb,Bb,Bv,Bv,<-BC b,<-BC c];have:=h k
  have e:cvL [-d] (co G) k = -d*co G k:=by
   cases k with
   | zero=>rw [At];omega
   | succ k=>rw [Ak,A5];omega
  rw [e,Int.neg_mul,this];omega) k
 rw [Cp,Bb,Bb,Bv,Bv,<-BC (Cp A),<-BC (Cp B)] at z
 have e:cvL [-d] Ai k = -d*Ai k:=by
  cases k with
  | zero=>rw [At];omega
  | succ k=>rw [Ak,A5];omega
 rw [e,Int.neg_mul] at z;omega
def vY (p:Nat) (d:0<p) (S:de):(∀ k,(p:Int)∣co S k)\/∃ T,Lz T/\(∀ k,(p:Int)∣co S k - co T k)/\¬ (p:Int)∣co T (T.length - 1):=by
 have cm:∀ k,co (S.map (·% (p:Int))) k=co S k % (p:Int):=λk=>JL (F:=(·% (p:Int))) (Int.zero_emod _) S k;rcases Dp (S.map (·% (p:Int))) with z | ⟨T,a,_,b⟩
 ·exact .inl λk=>Int.dvd_of_emod_eq_zero (by rw [<-cm k];exact z k)
 ·refine .inr ⟨T,a,λk=>?_,λh=>?_⟩
  ·rw [b,cm];exact ⟨co S k / p,by have:=Int.emod_add_mul_ediv (co S k) p;omega⟩
  ·have c:=b (T.length - 1);rw [cm] at c;have e:=Cd (co S (T.length - 1)) (show (p:Int)≠0 by omega);have f:=Ct (co S (T.length - 1)) (show (0:Int)<p by omega);have:=a.2;have l:=Int.le_of_dvd ⋯ h;omega
def cvT {p:Int} {S T:de} {g:dF} {n:Nat} (a:∀ i,n<=i->g i=0) (h:∀ k,p∣co S k - co T k) (k:Nat):p∣cvL S g k - cvL T g k:=by
 have e:∀ k,g k=co ((List.range n).map g) k:=λk=>by
  rw [KE];split
  ·rfl
  ·exact a k ⋯
 rw [BC e,BC e,Bw,Bw T]
 have:=bZ (S:=[1]) (f:=co S) (g:=co T) (λk=>by
  have d:cvL [1] (co T) k=co T k:=by
   cases k with
   | zero=>rw [At];omega
   | succ k=>rw [Ak,A5];omega
  rw [d];exact h k) ((List.range n).map g) k
 rwa [BC (b:=cvL [1] (co T)) (c:=co T) (λk=>by
  cases k with
  | zero=>rw [At];omega
  | succ k=>rw [Ak,A5];omega)] at this
def T6 {p:Nat} (hp:Pr p) {R A G a T:de} (b:∀ k,co R k=cvL A (co G) k) (m:Lz G) (c:¬ (p:Int)∣co G (G.length - 1)) (f:∀ k,(p:Int)∣co a k - cvL T (co G) k) (d:Dm (p:Int) (co a) (co R)):Dm (p:Int) (co T) (co A):=by
 obtain ⟨X,g⟩:=d;refine ⟨X,λk=>?_⟩
 have z:=KD hp c (λi n=>by rw [Af ⋯];exact Cm _) (Aw A ((BS X T).map ((-1)*·))) (λk _=>by
  rw [Bb,A6,Bv,<-b];have h:=g k;have j:=bZ f X k;have:=Ck h j;refine CJ this (FH ?_);omega)
 have e:co A k - cvL X (co T) k=co (Aw A ((BS X T).map ((-1)*·))) k:=by
  rw [Cp (Aw A _),Bb,A6,Bv,<-Cp,<-BC (Cp T)];omega
 rw [e];exact Tm z k
def vZ {x e c M p N:Nat} (b:x<2 ^ (c+1)) (d:N<=M) (a:2 ^ ((e+c+2)*M)<p):(2*(x*2 ^ e)) ^ N<p:=by
 have f:2*(x*2 ^ e)<=2 ^ (e+c+2):=by
  have:x*2 ^ e<=2 ^ (c+1)*2 ^ e:=BW _ (CP b);have g:2 ^ (e+c+2)=2*(2 ^ (c+1)*2 ^ e):=by rw [<-Cj,show e+c+2=(c+1+e)+1 by omega,CU];omega
  omega
 refine DQ ?_ a;rw [Nat.pow_mul];exact A7 (Nat.pow_le_pow_left f N) (EL (Nat.pow_pos ∅) d)
theorem T7 (g:dF):∀ k,cvL [1] g k=g k
 | 0=>by rw [At];omega
 | k+1=>by rw [Ak,A5];omega
def uA {ns u b m G:de} {p c e N:Nat} {d:Int} (hp:Pr p) (ln:Lz ns) (lm:Lz u) (fn:Fi e ns) (fm:Fi e u) (hc:ns.length+u.length<2 ^ (c+1)) (hN:ns.length+u.length<=N+2) (n2:2<=N) (W:2 ^ ((e+c+2)*N)<p)
  (I:((Int.gcd (co ns (ns.length - 1)) (co u (u.length - 1)):Nat):Int)=d) (X:Gen (co ns) (co u) G) (r0:0<b.length) (one:co b (b.length - 1)=1) (aj:G.length<=b.length) (pG:¬ (p:Int)∣co G (G.length - 1)) (dG:Dm (p:Int) (co G) (co b)) (dn:Dm (p:Int) (co b) (co ns)) (dm:Dm (p:Int) (co b) (co u))
  (gl:m.length=b.length) (hg:∀ k,k<b.length->(p:Int)∣co m k - d*co b k) (hb:∀ z∈m,2*z.natAbs<=p):MQ (co m) (co ns)/\MQ (co m) (co u):=by
 have p2:=hp.two;have P:=X.Prim;have C:=X.lz;obtain ⟨A,J⟩:=T_ P X.rc.left;obtain ⟨B,U⟩:=T_ P X.rc.right;have Y:=fn G A (λk=>by rw [J k,Bw]);have bB:=fm G B (λk=>by rw [U k,Bw]);have bG:=fn A G J;have a6:=fn [1] ns (λk=>(T7 _ k).symm);have a7:=vX C J U X.qi;obtain ⟨S,hS⟩:=dG;have p0:0<p:=by omega
 have D:¬ (p:Int)∣(1:Int):=λz=>by have:=Int.le_of_dvd ∅ z;omega
 rcases vY p p0 S with z | ⟨T,lT,hT,pT⟩
 ·exfalso;have o:=hS (b.length - 1);have r:=cvT (p:=(p:Int)) (S:=S) (T:=[]) (g:=co G) (n:=G.length) (λi L=>Af L) (λk=>by rw [Af (a:=[]) (Ab _),Int.sub_zero];exact z k) (b.length - 1);rw [one] at o;rw [A5,Int.sub_zero] at r;have:=Ck o r;rw [Int.sub_add_cancel] at this;exact D this
 have v:∀ k,(p:Int)∣co b k - cvL T (co G) k:=λk=>by
  have:=Ck (hS k) (cvT (λi L=>Af L) hT k (g:=co G) (n:=G.length));refine CJ this (FH ?_);omega
 have t0:=lT.1;have g0:=C.1
 have tl:T.length+G.length=b.length+1:=by
  have tp:=JI lT C
  have np:¬ (p:Int)∣co T (T.length - 1)*co G (G.length - 1):=λz=>by
   rcases hp.mulI z with q | q
   ·exact pT q
   ·exact pG q
  have o:=v (T.length - 1+(G.length - 1));rw [tp] at o
  have c1:T.length - 1+(G.length - 1)<b.length:=by
   rcases Am (T.length - 1+(G.length - 1)) b.length with c | c
   ·exact c
   ·exfalso;rw [Af c,Int.zero_sub] at o;exact np (Int.dvd_neg.mp o)
  have r:=v (b.length - 1);rw [one] at r;rcases Am (T.length - 1+(G.length - 1)) (b.length - 1) with c | c
  ·exfalso;rw [Ej (n:=G.length) (λi L=>Af L) T _ ⋯,Int.sub_zero] at r;exact D r
  ·omega
 have Z:=T6 hp J C pG v dn;have a1:=T6 hp U C pG v dm
 have f:∀ {R A:de},Lz R->(∀ k,co R k=cvL A (co G) k)->(∀ k,Bd e (co A k))->∃ j,Lz j/\j.length<=R.length/\co j=co A:=λ{R A} lR h _=>by
  rcases Dp A with z | ⟨j,F,_,ea⟩
  ·exact absurd (by rw [h,Bw,Fl G z]) lR.2
  ·refine ⟨j,F,?_,funext ea⟩
   have t:co R (j.length - 1+(G.length - 1))≠0:=by
    rw [h,Bw,BC (λk=>(ea k).symm) G,<-Bw,JI F C];exact BK F.2 C.2
   rcases Am (j.length - 1+(G.length - 1)) R.length with c | c
   ·have:=F.1;omega
   ·exact absurd (Af c) t
 obtain ⟨j,lA,An,eA⟩:=f ln J Y;obtain ⟨B',lB,Bn,eB⟩:=f lm U bB
 have al:2 ^ e<p:=DQ (EL ∅ (by
  have:(e+c+2)*1<=(e+c+2)*N:=CS _ ⋯;omega)) W
 have T1:T.length=1:=by
  rcases Am T.length 2 with cT | cT
  ·omega
  ·exfalso
   have w:∀ {A:de},Lz A->(∀ k,Bd e (co A k))->Dm (p:Int) (co T) (co A)->2<=A.length:=λ{A} lA Y dA=>by
    have:=Dm.len hp t0 pT dA ⟨A.length - 1,λz=>by
     have o:=Y (A.length - 1);have r:=Cw.mpr z;have h3:=EO (by have:=lA.2;omega) r;rw [Cl] at h3;have:(co A (A.length - 1)).natAbs<2 ^ e:=o;omega⟩
    omega
   have a2:=w lA (λk=>by rw [eA];exact Y k) (by rw [eA];exact Z);have b2:=w lB (λk=>by rw [eB];exact bB k) (by rw [eB];exact a1);refine cu hp lA lB (by rw [eA,eB];exact a7) (λk=>by rw [eA];exact Y k) (λk=>by rw [eB];exact bB k) a2 b2 cT pT (by rw [eA];exact Z) (by rw [eB];exact a1) (vZ (x:=j.length+B'.length) (c:=c) (M:=N) ⋯ ⋯ W)
 obtain ⟨s,rfl⟩:∃ s,T=[s]:=by
  match T,T1 with
  | [s],_=>exact ⟨s,rfl⟩
 have a3:∀ k,(p:Int)∣co b k - s*co G k:=λk=>by
  have:=v k
  have e1:cvL [s] (co G) k=s*co G k:=by
   cases k with
   | zero=>rw [At];omega
   | succ k=>rw [Ak,A5];omega
  rwa [e1] at this
 have lr:G.length=b.length:=by simp at tl;omega
 have a4:∀ {R A:de},(∀ k,co R k=cvL A (co G) k)->Lz R->co G (G.length - 1)∣co R (R.length - 1):=λ{R A} h lR=>by
  rcases Dp A with z | ⟨j,F,_,ea⟩
  ·exact absurd (by rw [h,Bw,Fl G z]) lR.2
  ·have hh:∀ k,co R k=cvL j (co G) k:=λk=>by rw [h,Bw,BC (λk=>(ea k).symm) G,<-Bw]
   have tp:=JI F C;have a0:=F.1
   have rl:R.length - 1=j.length - 1+(G.length - 1):=by
    rcases Nat.lt_trichotomy (R.length - 1) (j.length - 1+(G.length - 1)) with c | c | c
    ·exfalso;have:=hh (j.length - 1+(G.length - 1));rw [Af (by have:=lR.1;omega),tp] at this;exact BK F.2 C.2 this.symm
    ·exact c
    ·exfalso;have:=hh (R.length - 1);rw [Ej (n:=G.length) (λi L=>Af L) j _ ⋯] at this;exact lR.2 this
   rw [rl,hh,tp];exact Int.dvd_mul_left _ _
 obtain ⟨t,ht⟩:co G (G.length - 1)∣d:=by rw [<-I];exact Int.dvd_coe_gcd (a4 J ln) (a4 U lm)
 have O:d≠0:=λz=>by
  rw [<-I] at z;have:Int.gcd (co ns (ns.length - 1)) (co u (u.length - 1))=0:=by omega
  exact ln.2 (Int.gcd_eq_zero_iff.mp this).1
 have ac:t≠0:=λz=>O (by rw [ht,z,Int.mul_zero])
 have bt:t.natAbs<2 ^ e:=by
  have o:d∣co ns (ns.length - 1):=by rw [<-I];exact Et ..
  have r:=CJ (show t∣d from ⟨co G (G.length - 1),by rw [ht,Int.mul_comm]⟩) o;have h3:=EO (by have:=ln.2;omega) (Cw.mpr r);have h4:(co ns (ns.length - 1)).natAbs<2 ^ e:=a6 _;omega
 have ad:∀ k,co m k=t*co G k:=λk=>by
  rcases Am k b.length with ck | ck
  ·have o:=hg k ck;have r:=a3 k;have h3:=a3 (b.length - 1);rw [one,<-lr] at h3
   have dv:(p:Int)∣co m k - t*co G k:=by
    have q1:(p:Int)∣d*(co b k - s*co G k):=Ex r;have q2:(p:Int)∣(t*co G k)*(1 - s*co G (G.length - 1)):=Ex h3;have:=Int.dvd_sub (Ck o q1) q2;refine CJ this (FH ?_);rw [ht];ext
   have b1:2*(co m k).natAbs<=p:=by
    have:co m k∈m:=by
     unfold co;rw [AT,Ax ⋯];exact EN _
    exact hb _ this
   have b2:2*(t*co G k).natAbs<p:=by
    rw [BN];have h5:t.natAbs*(co G k).natAbs<=2 ^ e*2 ^ e:=Be (CP bt) (CP (bG k))
    have h6:2*(2 ^ e*2 ^ e)<=2 ^ ((e+c+2)*N):=by
     rw [<-Cj,show 2*2 ^ (e+e)=2 ^ (e+e+1) by rw [CU];omega];refine EL ∅ ?_;have:(e+c+2)*2<=(e+c+2)*N:=CS _ ⋯;omega
    omega
   obtain ⟨y,hy⟩:=dv;have ab:(co m k - t*co G k).natAbs<p:=by omega
   rcases Int.lt_trichotomy y 0 with z | z | z
   ·have:(p:Int)*y<=(p:Int)*(-1):=IC ⋯ ⋯;omega
   ·rw [z] at hy;omega
   ·have:(p:Int)*1<=(p:Int)*y:=IC ⋯ ⋯;omega
  ·rw [Af ⋯,Af (a:=G) ⋯];omega
 have a5:∀ {R A:de},(∀ k,co R k=cvL A (co G) k)->MQ (co m) (co R):=λ{R A} h=>⟨t,ac,A,λk=>by rw [BC ad,C4,h k]⟩;exact ⟨a5 J,a5 U⟩
def UA {g f:de} {A:de} (h:∀ k,co f k=cvL A (co g) k):MQ (co g) (co f):=⟨1,∅,A,λk=>by rw [<-h k];omega⟩
def uB (h:KZ K vs H Q E):Ri K { nx:=λ_ M=>Q .non M,rt:=Q } (L2.start ["row","other","prime","lead","found","guess"] vs) H:=by
 obtain ⟨a,b,o,v,p,d,O,W,NN,rfl,ha,hb,N,bp,P,lm,bn,bm,dn,dm,fn,fm,nc,hN,a6,kN,kR⟩:=h;have p2:(2:Int)<=(p:Int):=by have:=N.two;omega
 unfold Ri;have an:=JK P.1;have am:=JK lm.1;rwa [ha,hb,an,am];generalize I:((Int.gcd (co o (o.length - 1)) (co v (v.length - 1)):Nat):Int)=j;have X:j∣co o (o.length - 1):=by rw [<-I];exact Et ..
 have bl:Bd d j:=(Dt bn (o.length - 1)).le (T5 P.2 X);refine ⟨⋯,Av (λc=>?_) (λc=>?_)⟩
 ·refine kN (λw=>?_) _ (Same.refl H);have b0:j.natAbs<2 ^ O:=(fn [1] o (λk=>(T7 _ k).symm) (o.length - 1)).le (T5 P.2 X);have z:=Int.dvd_of_emod_eq_zero (show j % (p:Int)=0 by simpa using c)
  have l0:j≠0:=λz=>by
   rw [<-I] at z;have:Int.gcd (co o (o.length - 1)) (co v (v.length - 1))=0:=by omega
   exact P.2 (Int.gcd_eq_zero_iff.mp this).1
  have h3:=EO ⋯ (Cw.mpr z);rw [Cl] at h3
  have:2 ^ O<=2 ^ ((O+W+2)*NN):=by
   refine EL ∅ ?_;have:(O+W+2)*1<=(O+W+2)*NN:=CS _ ⋯;omega
  have w:2 ^ ((O+W+2)*NN)<p:=w;omega
 have pl:¬ (p:Int)∣j:=λz=>c (by rw [Int.emod_eq_zero_of_dvd z])
 have Y:¬ (p:Int)∣co o (o.length - 1)\/¬ (p:Int)∣co v (v.length - 1):=by
  by_cases Z:(p:Int)∣co o (o.length - 1)
  ·right;intro h2;exact pl (by rw [<-I];exact Int.dvd_coe_gcd Z h2)
  ·exact .inl Z
 refine ⟨o,v,p,rfl,rfl,rfl,N,bp,⋯,⋯,?_,λs J H1 s1 hs r0 rl one br hD a7 ab=>?_⟩
 ·rcases Y with h | h
  ·exact .inl ⟨_,h⟩
  ·exact .inr ⟨_,h⟩
 refine ⟨⟨_,SqL.of hs⟩,CompJ.lst (xs:=J.map V.int) (λi ys M=>i<=J.length/\M=H1/\∃ m:de,ys=m.map V.int/\m.length=i/\(∀ k,k<i->(p:Int)∣co m k - j*co J k)/\∀ z∈m,Bd 45000 z/\2*z.natAbs<=p) ⟨Ab _,rfl,[],rfl,rfl,λk hk=>absurd hk ⋯,λz R=>nomatch R⟩ ?_ ?_ ?_⟩
 ·rintro i ys M ⟨Z,rfl,m,rfl,gl,_⟩;exact ⟨by rw [AO];exact Z,sz (by rw [AO];omega),SqL.of hs⟩
 ·rintro i x ys M hi ⟨Z,rfl,m,rfl,gl,hg,w⟩;rw [Aj] at hi;cases e:J[i]? with
  | none=>rw [e] at hi;cases hi
  | some n=>
    rw [e] at hi;obtain rfl:V.int n=x:=mO hi;have b1:i<J.length:=(By.mp e).1;have b2:=br n (Bg e);have cn:co J i=n:=by unfold co;rw [AT,e];rfl
    rwa [];refine ⟨Ds bl (bp.le (x:=(p:Int)) (y:=n) ⋯),⋯,λr ac S=>⟨⋯,m++[r],by simp,by simp;omega,λk hk=>?_,λz R=>?_⟩⟩
    ·by_cases ek:k=i
     ·subst ek;have:co (m++[r]) k=r:=by unfold co;rw [AT,<-gl];simp
      rw [this,cn];exact ac
     ·have:co (m++[r]) k=co m k:=by unfold co;rw [AT,AT,Es ⋯]
      rw [this];exact hg k ⋯
    ·rcases Er.mp R with z1 | z1
     ·exact w z z1
     ·rw [CC.mp z1];exact ⟨bp.le ⋯,by rw [Cl] at S;exact S⟩
 ·rintro ys M ⟨_,rfl,m,rfl,gl,hg,w⟩ t ht;rw [AO] at gl hg;have st:=AR ht (.lst (m.map V.int));have a0:upd M t (.lst (m.map V.int)) t=_:=upd_same;generalize upd M t (.lst (m.map V.int))=H2 at st a0 ⊢;have a1:0<m.length:=by omega
  have B:co m (m.length - 1)≠0:=λz=>by
   have:=hg (m.length - 1) ⋯;rw [z,show m.length - 1=J.length - 1 by omega,one] at this;exact pl (by have t2:=Int.dvd_neg.mpr this;rw [show -(0 - j*1)=j by omega] at t2;exact t2)
  rwa [a0];refine ⟨m,rfl,⋯,.inr B,λu q g H3 s3 hu g0 eg hp=>?_⟩
  have Pg:Prim q:=by
   rcases hp with h | h
   ·rw [h] at a1;simp at a1
   ·exact h
  have a2:q.length=m.length:=by rw [eg,AO]
  have T:Lz q:=DY (Nd (AV g0) (by rw [<-eg];exact .inr B)) (λz=>by rw [z] at a2;simp at a2;omega);have a3:∀ z∈q,Bd 45000 z:=Nf g0 (by rw [<-eg];exact λz R=>(w z R).1);have C:Same H H3:=(s1.trans st).trans s3;have ad:=C _ _ ha;have aj:=C _ _ hb;obtain ⟨G,L⟩:=zH P (QI.left (co o) (co v));have mn:=L.mq _ o (AM _) (QI.left _ _);have mm:=L.mq _ v (AM _) (QI.right _ _)
  have D:¬ (p:Int)∣co G (G.length - 1):=by
   rcases Y with h | h
   ·exact L.lead N P mn h
   ·exact L.lead N lm mm h
  have dG:=hD (co G) (L.dm N mn) (L.dm N mm)
  have a4:G.length<=J.length:=Dm.len N L.lz.1 D dG ⟨J.length - 1,by
   rw [one];intro z;have:=Int.le_of_dvd ∅ z;omega⟩
  have F:Qw O W NN p->(∃ A:de,∀ k,co o k=cvL A (co q) k)/\∃ A:de,∀ k,co v k=cvL A (co q) k:=λal=>by
   obtain ⟨q1,q2⟩:=uA N P lm fn fm nc hN a6 al I L r0 one a4 D dG a7 ab gl hg (λz R=>(w z R).2);have sc:∀ k,co m k=g*co q k:=λk=>by rw [eg,Gx]
   have mg:MQ (co q) (co m):=⟨1,∅,[g],λk=>by
    have e:cvL [g] (co q) k=g*co q k:=by
     cases k with
     | zero=>rw [At];omega
     | succ k=>rw [Ak,A5];omega
    rw [e,sc];omega⟩
   exact ⟨T_ Pg (mg.trans q1),T_ Pg (mg.trans q2)⟩
  rwa [ad,hu];refine ⟨o,rfl,q,rfl,T,d,bn,45000,a3,⋯,∅,⋯,⋯,λno=>kN (λw=>no (F w).1) |> λf H4 U=>f H4 (C.trans U),λr qs H4 U hr hq=>?_⟩;have ao:=U _ _ aj;have a5:=U _ _ hu;rwa [ao,a5];refine ⟨v,rfl,q,rfl,T,d,bm,45000,a3,⋯,∅,⋯,⋯,λno=>kN (λw=>no (F w).2) |> λf H5 s5=>f H5 ((C.trans U).trans s5),λr2 b3 H5 s5 S ar=>?_⟩;exact kR u q H5 ((C.trans U).trans s5) (s5 _ _ a5) (zK L.rc T (UA hq) (UA ar) ⋯) Pg
noncomputable def exps:List Nat:=[61,127,521,1279,4423,9941,21701,44497]
def uC (K:W.Frag):Prop:=∀ H:Hp,SqT K H (Gj K) (exps.map λe:Nat=>V.int (e:Int))
def uD:∀ e∈exps,Pr (mers e)/\e<=44497:=by
 intro e a;have h:e=61\/e=127\/e=521\/e=1279\/e=4423\/e=9941\/e=21701\/e=44497:=by simpa [exps] using a
 rcases h with h | h | h | h | h | h | h | h <;> rw [h]
 ·exact ⟨Z8,∅⟩
 ·exact ⟨Z9,∅⟩
 ·exact ⟨zA,∅⟩
 ·exact ⟨zC,∅⟩
 ·exact ⟨zD,∅⟩
 ·exact ⟨zE,∅⟩
 ·exact ⟨zF,∅⟩
 ·exact ⟨zG,∅⟩
def uE (e:Nat):(2:Int) ^ (e:Int).toNat - 1=((mers e:Nat):Int):=by
 unfold mers;have:=Nat.one_le_two_pow (n:=e);rw [Int.natCast_sub this,DA,Int.natCast_pow];rfl
def uF {e:Nat} (h:e<=44497):Bd 45000 ((mers e:Nat):Int):=by
 unfold Bd mers;rw [Cl];have a:=Nat.one_le_two_pow (n:=e);have b:=EL (n:=2) ∅ (show e<=45000 by omega);omega
def Ng {ns b one a i:de} {g h:Int} (n:g≠0) (o:h≠0) (p:ns=one.map (g*·)) (q:b=a.map (h*·)) (R:RC (co one) (co a) i):RC (co ns) (co b) i:=by
 have j:∀ k,co ns k=g*co one k:=λk=>by rw [p,Gx]
 have m:∀ k,co b k=h*co a k:=λk=>by rw [q,Gx]
 refine ⟨R.lz,?_,?_,?_⟩
 ·obtain ⟨c,e,A,f⟩:=R.left;exact ⟨c,e,A.map (g*·),λk=>by rw [A6,<-f k,j k];ext⟩
 ·obtain ⟨c,e,A,f⟩:=R.right;exact ⟨c,e,A.map (h*·),λk=>by rw [A6,<-f k,m k];ext⟩
 ·obtain ⟨d,r,U,W,u⟩:=R.qi;refine ⟨g*h*d,BK (BK n o) r,U.map (h*·),W.map (g*·),λk=>?_⟩;rw [A6,A6,BC j U k,BC m W k,C4,C4];have:=u k;ext
def UB {e:Nat} {a:Int} {one ns:de} (m:a≠0) (b:ns=one.map (a*·)) (h:Fp e ns):Fp e one:=λg d f ⟨c,i,A,j⟩=>h g d f ⟨c,i,A.map (a*·),λk=>by
 rw [A6,<-j k,b,Gx];ext⟩
theorem UC {c:Int} {g:dF} (h:∀ k,c∣g k):∀ (A:de) (k:Nat),c∣cvL A g k
 | [],_=>by rw [A5];exact Cm c
 | x::A,0=>by rw [At];exact Ck (Ex (h 0)) (Cm c)
 | x::A,k+1=>by rw [Ak];exact Ck (Ex (h _)) (UC h A k)
def UD {e:Nat} {one:de} (p:Prim one) (h:Fp e one):Fi e one:=λA g b k=>by
 rcases Dp g with z | ⟨d,f,_,a⟩
 ·rw [z k];exact C3 _
 ·rw [<-a k];refine h d f (λc i=>p c λk=>?_) ⟨1,∅,A,λk=>by rw [Int.one_mul,b k];exact BC (λk=>(a k).symm) A k⟩ k;rw [b k];exact UC (λk=>by rw [<-a k];exact i k) A k
def uG {K:W.Frag} (hK:uC K) {vs:d7} {H:Hp} {Q:VK} {E:XK} (h:Ka K vs H Q E):Rj K { nx:=λ_ j=>Q .non j,rt:=Q } (L2.start ["row","other","one","two","exponent","found"] vs) H:=by
 obtain ⟨a,b,p,D,d,J,cc,NN,rfl,ha,hb,tn,tm,bn,bm,d9,nN,mN,L,nc,hN,a0,sm,k⟩:=h;unfold Rj;rwa [ha];refine ⟨p,rfl,⋯,tn,λF one g1 H1 s1 n f q p1=>?_⟩;have a3:=s1 _ _ hb;rwa [a3];refine ⟨D,rfl,⋯,tm,λM c g2 G s2 r g w p2=>?_⟩;have m:=s1.trans s2;have a4:=m _ _ ha;have a5:=m _ _ hb;have N:=s2 _ _ n;have l1:p.length=one.length:=by rw [q,AO]
 have l2:D.length=c.length:=by rw [w,AO]
 have t1:Tz one:=Nd (AV f) (by rw [<-q];exact tn);have t2:Tz c:=Nd (AV g) (by rw [<-w];exact tm);have b1:∀ z∈one,Bd d z:=Nf f (by rw [<-q];exact bn);have b2:∀ z∈c,Bd d z:=Nf g (by rw [<-w];exact bm);have n1:one=[]↔p=[]:=by rw [<-B6,<-B6,l1]
 have I:c=[]↔D=[]:=by rw [<-B6,<-B6,l2]
 have O:(p=[]\/D=[])->∀ (T:Hp) (u v:d8),Same G T->(AY (A_ gL (AE (Iu K) [] E0 (AB (Bj (AB (AA 2) AC)) (AB (Bj (AB (AA 3) AC)) AC))) (tC (.int 0)))) { nx:=λ_ j=>Q .non j,rt:=Q } [some (.ref a),some (.ref b),some (.ref F),some (.ref M),u,v] T:=λem T u v o=>by
  have A:=o _ _ N;have B:=o _ _ r;rwa [];refine ⟨sz ∅,λx hx=>?_⟩;have sx:=AR hx (.lst [.ref F]);refine ⟨sz ∅,λy hy=>?_⟩;have sy:=AR hy (.lst [.ref M]);have a6:=sy _ _ (show upd T x (.lst [.ref F]) x=_ from upd_same);refine ⟨one,⟨[V.ref F],a6,⟨⟨F,rfl,sy _ _ (sx _ _ A)⟩,trivial⟩⟩,c,⟨[V.ref M],upd_same,⟨⟨M,rfl,sy _ _ (sx _ _ B)⟩,trivial⟩⟩,em.imp (λz=>n1.mpr z) (λz=>I.mpr z),λt U P a7=>?_⟩;obtain ⟨ar,xr,ht,ab,_⟩:=a7.head;refine ⟨_,ht,_,Hu _ _,?_⟩;refine k ar _ U (m.trans (o.trans ((sx.trans sy).trans P))) ab (λac=>?_) λn r=>by rw [mF (I.mpr r)];exact n1.mpr n
  have z0:∀ {x:de},x=[]->∀ k,co x k=0:=λe k=>by rw [e];exact Af (Ab _)
  by_cases C:c=[]
  ·rw [mF C]
   have X:p≠[]:=by
    rcases ac with h | h
    ·exact h
    ·exact absurd (I.mp C) h
   have ad:Lz one:=DY t1 λz=>X (n1.mp z);exact ⟨Ng (AV f) (AV g) q w ⟨ad,MQ.refl _,MQ.zero _ (z0 C),QI.left _ _⟩,p1.resolve_left X⟩
  ·rw [mE C];have X:one=[]:=n1.mpr (em.resolve_right λz=>C (I.mpr z));exact ⟨Ng (AV f) (AV g) q w ⟨DY t2 C,MQ.zero _ (z0 X),MQ.refl _,QI.right _ _⟩,p2.resolve_left λz=>C (I.mpr z)⟩
 have l0:=λem=>O em G none none (Same.refl G);simp only [AH,AN,AE,AB,AA,AC,AF,FU,L2.start,BH,bu,Az,tB,A_,ap,rI,tC,S_,rU,BG,AY,Ay,Bj,Vr,EY,GU,G_,V4,HF,aS,Dh,Vl,Vm,Vn,ay,aG,DU,BZ,BA,A4,Lr,Xy,Cn,O9,IM,bI,iLe,az,cf,Bk,gT,gL,gS,GZ,Ga,Xz,IN,DV,CG,IO,Fa,X3,X4,X5,eqT,X6,X8,YA,Dg,List.map_nil,B7,List.length_nil,List.replicate,List.cons_append,List.nil_append,List.append_nil,List.getElem?_cons_zero,List.getElem?_cons_succ,Option.some.injEq,exists_eq_left',exists_eq_left,V.int.injEq,V.bl.injEq,V.ref.injEq,V.ty.injEq,HO.tup.injEq,HO.lst.injEq,List.cons.injEq,and_true,true_and,and_assoc,exists_and_left,List.set_cons_zero,List.set_cons_succ,decide_eq_true_eq,decide_eq_false_iff_not,Bool.not_eq_true',Bool.true_eq_false,Bool.false_eq_true,Bool.not_true,Bool.not_false,if_true,if_false,ite_true,ite_false,YG,YH,YB,YC,YD,YE,YF,YI,YJ,Nat.zero_add,Nat.reduceAdd,Nat.reduceSub,upd_same,Int.cast_ofNat_Int,decide_true,decide_false,eq_self,not_true_eq_false,not_false_eq_true,Int.natCast_add,Int.natCast_zero,reduceCtorEq,Nm,Dn,CK,Di,GV,aV,FW,Ec,sL,sT,E5,MA,IX,Ee,Yt,FY,Li,HK,Jp,Wa,b8,WZ,Ye,Yg,Yh,Yk,Y4,Y3,Yi,Yj,Yy,MJ,Pd,MK,MH,Pa,E6,ED,Pc,Jz,CY,Option.bind_some,Option.bind_none,Option.bind,Option.join,id_eq,sS,ZJ,ZL,Ek,Gk,Hf,Im,Io,Ip,Iq,Ir,Hg,KQ,Iu,KR,KS,Hh,Hi,KT,KU,KW,KY,KZ,Ka,Dr,DO,El,Gn,Ft,Kb,Kc,Ix,Kd,Ci,Iy,EF,Go,JA,Hj,FE,aI,MM,Fa,Kh,DX,Ho,Km] at l0;have aj:p≠[]->D≠[]->Lz one/\Lz c:=λn r=>⟨DY t1 λz=>n (n1.mp z),DY t2 λz=>r (I.mp z)⟩;refine ⟨_,a4,Av (λY=>⟨_,a5,Av (λc2=>⟨⟨_,hK G⟩,?_⟩) (λc2=>l0 (.inr (by simpa using c2)))⟩) (λY=>l0 (.inl (by simpa using Y)))⟩;have Z:p≠[]:=by simpa using Y
 have y2:D≠[]:=by simpa using c2
 obtain ⟨z1,z2⟩:=aj Z y2;have al:Fi J one:=UD (p1.resolve_left Z) (UB (AV f) q (L Z y2).1);have am:Fi J c:=UD (p2.resolve_left y2) (UB (AV g) w (L Z y2).2);refine LZ (xs:=exps.map λe:Nat=>V.int (e:Int)) (λi σ j=>i<8/\∃ u v,σ=[some (.ref a),some (.ref b),some (.ref F),some (.ref M),u,v]/\Same G j) ⟨∅,none,none,rfl,Same.refl G⟩ (λi σ j _ _=>hK j) ?_ ?_
 ·rintro i x σ j R ⟨i8,u,v,rfl,o⟩;rw [Aj] at R;cases e:exps[i]? with
  | none=>rw [e] at R;cases R
  | some S=>
    rw [e] at R;obtain rfl:V.int (S:Int)=x:=mO R;obtain ⟨pe,pl⟩:=uD S (Bg e);have A:=o _ _ N;have B:=o _ _ r;rwa [A,B];refine ⟨⋯,2,by unfold Bd;decide,⋯,one,c,mers S,uE S,rfl,rfl,pe,uF pl,z1,z2,d,b1,b2,⋯,⋯,J,al,am,cc,⋯,NN,⋯,a0,λnb U P=>⟨?_,o.trans P⟩,λt rs U P ht rc pr=>?_⟩
    ·rcases Am (i+1) 8 with c8 | c8
     ·exact c8
     ·exfalso;have i7:i=7:=by omega
      rw [i7] at e;obtain rfl:44497=S:=mO e;refine nb ?_;show 2 ^ ((J+cc+2)*NN)<mers 44497;have n:2 ^ ((J+cc+2)*NN)<=2 ^ 44490:=EL ∅ sm
      have r:2 ^ 44490<mers 44497:=by
       unfold mers;have e7:2 ^ 44497=2 ^ 44490*2 ^ 7:=by rw [<-Cj]
       rw [e7];have:1<=2 ^ 44490:=Nat.one_le_two_pow;omega
      omega
    exact k t rs U (m.trans (o.trans P)) ht (λ_=>⟨Ng (AV f) (AV g) q w rc,pr⟩) λn _=>absurd n (by simpa using Y)
 ·rintro σ j ⟨i8,_⟩;exact absurd i8 (by simp [exps])
def Bf (l:cW):(AK l).length=l.length:=by unfold AK;rw [AO]
def FI {l:cW} (a:AW l) (b:Nz l):Tz (AK l):=by
 by_cases h:l=[]
 ·left;rw [h];rfl
 ·right;rw [Bf];exact Kq a b (BE.mpr h)
def uH {l:cW} {M N:Int} (f:AW l) (g:Ov l M) (i:Ov l N) (h:M∣N) {b:Nat} (j:∀ z∈P_ l N,Bd b z):∀ z∈P_ l M,Bd b z:=λz k=>by
 obtain ⟨q,a,rfl⟩:=BM.mp k;refine (j (q.1*(N / q.2)) (BM.mpr ⟨q,a,rfl⟩)).le ?_;rw [BN,BN];refine CS _ ?_;have c:=(f q a).pos;obtain ⟨x,d⟩:=g.2 q a;obtain ⟨y,e⟩:=h;have m:M / q.2=x:=by rw [d,GI _ (AV c)]
 have n:N / q.2=x*y:=by rw [e,d,Int.mul_assoc,GI _ (AV c)]
 rw [m,n,BN];refine Nat.le_mul_of_pos_right _ ?_;rcases Cc y.natAbs with z | z
 ·have o:y=0:=by omega
  have:=i.1;rw [e,o] at this;omega
 ·exact z
def Gq.clr {b c:Nat} {l:cW} (G:Gq b c l):(∀ z∈AK l,Bd b z)/\Bd c (Ac l)/\(∀ q∈l,Bd b q.1):=by
 obtain ⟨M,a,bM,d⟩:=G.ov;have e:=QS G.low a;exact ⟨uH G.low (Bz G.low) a e d,DB (AV a.1) e bM,Tn G.low a d⟩
def Du (g:de):(J' g).length=g.length:=by unfold J';rw [AO]
def Hw {g:de} (a:Lz g):AW (J' g):=λq b=>by
 obtain ⟨z,_,rfl⟩:=BM.mp b;exact FA a.2
theorem Ku {g:de} (a:Lz g) (k:Nat):B_ (J' g) k=(co g k:Rat) / (co g (g.length - 1):Rat):=by
 unfold B_ AX J';rw [AT,Aj];unfold co;rw [AT (l:=g) (i:=k)];cases e:g[k]? with
 | none=>
   show val (0,1)=((0:Int):Rat) / _;unfold val;show ((0:Int):Rat) / _=_;rw [show ((0:Int):Rat)=0 from rfl,P',P']
 | some z=>exact FC a.2
def UE {g:de} (a:Lz g):AX (J' g) (g.length - 1)=(1,1):=E9 (CZ (Hw a) _) ⟨∅,∅⟩ (by
 have h:=Ku a (g.length - 1);unfold B_ at h;rw [h];have:=Aa a.2;have b:val (1,1)=1:=by unfold val;show ((1:Int):Rat) / ((1:Int):Rat)=1;ext
 rw [b];ext)
def JM {g:de} (b:Lz g):Nz (J' g):=λq a=>by
 have h:=UE b;rw [FS,Du] at a;unfold AX at h;rw [AT,a] at h;have c:q=(1,1):=h;rw [c];decide
def uI (h:Ft K vs H Q E):SF K { nx:=λ_ Z=>Q .non Z,rt:=Q } (L2.start ["P","Q","row"] vs) H:=by
 obtain ⟨p,q,xs,ys,l,m,b,c,ee,dd,NN,rfl,hp,j,hN,hM,f,g,b9,c9,lN,mN,x,y,A,B,sm,k0,k1⟩:=h;obtain ⟨C,a0,D⟩:=f.clr;obtain ⟨F,a1,G⟩:=g.clr;obtain ⟨M1,O1,I,_⟩:=f.ov;obtain ⟨M2,O2,J,_⟩:=g.ov;unfold SF;refine BJ (Ag (Bc (CH (AU rfl ⟨_,xs,l,M1,rfl,hp,hN,f.low,O1,I.mono ⋯,λq j=>(D q j).mono ⋯,⋯,λr a H1 L hr ha=>⟨_,_,_,_,rfl,rfl,hr,rfl,?_⟩⟩))));have M:=L _ _ j;refine Bc (CH (AU rfl ⟨_,ys,m,M2,rfl,SqT.of M,NuK.of (hM.tp (M_ L)),g.low,O2,J.mono ⋯,λq j=>(G q j).mono ⋯,⋯,λr2 a2 H2 X N O=>⟨_,_,_,_,rfl,rfl,N,rfl,?_⟩⟩));have S:=X _ _ ha;have n1:AK l=[]↔l=[]:=by rw [<-B6,<-B6,Bf]
 have v:AK m=[]↔m=[]:=by rw [<-B6,<-B6,Bf]
 refine ⟨_,_,AK l,AK m,b,ee,dd,NN,rfl,S,O,FI f.low f.nz,FI g.low g.nz,C,F,b9,by rw [Bf];exact lN,by rw [Bf];exact mN,λw T=>x (λz=>w (n1.mpr z)) (λz=>T (v.mpr z)),by rw [Bf,Bf];exact y,by rw [Bf,Bf];exact A,B,sm,λs d H3 s3 Y rc r0=>?_⟩;have k:=(L.trans X).trans s3;rwa [Y];by_cases o:l=[]/\m=[]
 ·have e:=r0 (n1.mpr o.1) (v.mpr o.2);subst e;refine Av (λz=>absurd z (by simp)) (λ_=>?_);exact ⟨sz ∅,λt U=>k0 o.1 o.2 t [] _ (k.trans (AR U _)) upd_same trivial⟩
 ·have i:l≠[]\/m≠[]:=by
   by_cases w:l=[]
   ·exact .inr λT=>o ⟨w,T⟩
   ·exact .inl w
  obtain ⟨R,P⟩:=rc (i.imp (λh z=>h (n1.mp z)) (λh z=>h (v.mp z)));have W:d≠[]:=BE.mp R.lz.1;refine Av (λ_=>?_) (λz=>absurd W (by simpa using z));have al:=JK R.lz.1
  have rl:d.length<=1000:=by
   rcases i with h | h
   ·have:=Fv R.lz (DY (FI f.low f.nz) λz=>h (n1.mp z)) R.left;rw [Bf] at this;omega
   ·have:=Fv R.lz (DY (FI g.low g.nz) λz=>h (v.mp z)) R.right;rw [Bf] at this;omega
  rwa [Y,al];refine ⟨d,rfl,R.lz.2,rl,λt zs H4 s4 U u=>?_⟩;have e:trim (d.map λn=>Aq n (co d (d.length - 1)))=J' d:=J6 (JM R.lz);rw [e] at u;exact k1 i d R P t zs H4 (k.trans s4) U u
def MR.short {g f:dH} {n:Nat} (b:g n≠0) (h:∀ i,n<i->g i=0) (m:MR g f) (c:∀ k,n<=k->f k=0) (k:Nat):f k=0:=by
 obtain ⟨A,a⟩:=m;rw [a k];exact Mr A (Qi b h A λk hk=>by rw [<-a k];exact c k hk) k
def UF {q:Nu} {n M:Int} (c:q.2≠0) (d:M≠0) (h:val q=(n:Rat) / (M:Rat)):Wo q n M:=by
 unfold Wo;unfold val at h;have a:=Aa c;have b:=Aa d;have e:(q.1:Rat)*(M:Rat)=(n:Rat)*(q.2:Rat):=by ext
 exact_mod_cast e
def UG {q:Nu} {n M:Int} (a:Low q.1 q.2) (h:Wo q n M):q.2∣M/\q.1*(M / q.2)=n:=by
 unfold Wo at h;have d:q.2∣M:=MW a ⟨n,by rw [h,Int.mul_comm]⟩;refine ⟨d,?_⟩;have b:=a.pos
 have e:q.2*(q.1*(M / q.2))=q.2*n:=by
  have:=GK d
  calc q.2*(q.1*(M / q.2))=q.1*(q.2*(M / q.2)):=by ext
   _=q.1*M:=by rw [this]
   _=q.2*n:=by rw [h,Int.mul_comm]
 exact Int.eq_of_mul_eq_mul_left (AV b) e
def uJ (q:Nu):val (-q.1,q.2) = - val q:=by
 unfold val;show ((-q.1:Int):Rat) / _=_;push_cast;ext
def UH {m:cW} (b:Nz m) (c:m≠[]):(AX m (m.length - 1)).1≠0:=by
 have a:m.length - 1<m.length:=by have:=BE.mpr c;omega
 have q:=b m[m.length - 1] (by rw [FS];exact Ax a);have e:AX m (m.length - 1)=m[m.length - 1]:=by unfold AX;rw [AT,Ax a];rfl
 rw [e];exact q
def C7 {m:cW} (c:AW m) (d:Nz m) (e:m≠[]):B_ m (m.length - 1)≠0:=by
 have a:=Aa (UH d e);have b:=Aa (AV (CZ c (m.length - 1)).pos);unfold B_ val;ext
theorem UI (f:dF):∀ (A:de) (k:Nat),cvL (A.map λz:Int=>(z:Rat)) (λk=>(f k:Rat)) k=((cvL A f k:Int):Rat)
 | [],_=>rfl
 | x::A,0=>by rw [Dg,At,At];push_cast;ext
 | x::A,k+1=>by rw [Dg,Ak,Ak,UI f A k];push_cast;ext
def Kv {f:dF} {G:dH} {a:Rat} (b:a≠0) (c:∀ k,G k=a*(f k:Rat)) (A:de) (k:Nat):((cvL A f k:Int):Rat)=a⁻¹*cvL (A.map λz:Int=>(z:Rat)) G k:=by
 rw [BC c,C4,UI];ext
def MR.of {f g:dF} {F G:dH} {d a:Rat} (b:a≠0) (h:∀ k,F k=d*(f k:Rat)) (i:∀ k,G k=a*(g k:Rat)) (m:MQ g f):MR G F:=by
 obtain ⟨c,j,A,n⟩:=m;have o:=Aa j;refine ⟨(A.map λz:Int=>(z:Rat)).map (d*(c:Rat)⁻¹*a⁻¹*·),λk=>?_⟩;have e:(c:Rat)*(f k:Rat)=((cvL A g k:Int):Rat):=by exact_mod_cast n k
 rw [A6,h k];rw [Kv b i] at e;ext
def EG {l:cW} (a:AW l) (k:Nat):B_ l k=((Ac l:Rat))⁻¹*(co (AK l) k:Rat):=by
 rw [Do a (Bz a),<-KA];show (co (AK l) k:Rat) / _=_;ext
def UJ {l:cW} (a:AW l):((Ac l:Rat))⁻¹≠0:=by
 have:=Aa (AV (Bz a).1);ext
def EH {g:de} (a:Lz g) (k:Nat):B_ (J' g) k=((co g (g.length - 1):Rat))⁻¹*(co g k:Rat):=by
 rw [Ku a];ext
def Fw {g:de} (a:Lz g):((co g (g.length - 1):Rat))⁻¹≠0:=by
 have:=Aa a.2;ext
def JN {a:Int} (d:a≠0) {B:Nat} {ns:de} (g:∀ z∈ns,Bd B z):Ov (ns.map λn=>Aq n a) (a.natAbs:Int)/\∀ z∈P_ (ns.map λn=>Aq n a) (a.natAbs:Int),Bd B z:=by
 have h:(0:Int)<(a.natAbs:Int):=by omega
 have c:∀ n∈ns,(Aq n a).2∣(a.natAbs:Int)/\Bd B ((Aq n a).1*((a.natAbs:Int) / (Aq n a).2)):=λn b=>by
  have i:=FA (n:=n) d;have u:=Aa d
  have:∃ s:Int,val (Aq n a)=(s:Rat) / (((a.natAbs:Int):Int):Rat)/\Bd B s:=by
   rw [FC d];rcases Int.natAbs_eq a with e | e
   ·exact ⟨n,by rw [<-e],g n b⟩
   ·refine ⟨-n,?_,(g n b).neg⟩;have j:(a.natAbs:Int) = -a:=by omega
    rw [j];push_cast;ext
  obtain ⟨s,k,m⟩:=this;obtain ⟨o,p⟩:=UG i (UF (AV i.pos) (AV h) k);exact ⟨o,by rw [p];exact m⟩
 refine ⟨⟨h,λq f=>?_⟩,λz r=>?_⟩
 ·obtain ⟨n,b,rfl⟩:=BM.mp f;exact (c n b).1
 ·obtain ⟨q,f,rfl⟩:=BM.mp r;obtain ⟨n,b,rfl⟩:=BM.mp f;exact (c n b).2
def uK {l:cW} {M:Int} {B:Nat} (h:Ov l M) (b:∀ z∈P_ l M,Bd B z):Ov (trim l) M/\∀ z∈P_ (trim l) M,Bd B z:=by
 refine ⟨⟨h.1,λq a=>h.2 q (DI a)⟩,λz c=>?_⟩;obtain ⟨q,a,rfl⟩:=BM.mp c;exact b _ (BM.mpr ⟨q,DI a,rfl⟩)
theorem uL {F G:dH} {P:dH} (n:Nat) (h:∀ k,P k=cv F G n k):MR G P:=by
 refine ⟨(List.range n).map F,λk=>?_⟩;rw [h k];clear h
 induction n with
 | zero=>rfl
 | succ n a=>
   show cv F G n k+(if n<=k then F n*G (k - n) else 0)=_;rw [a,List.range_succ,D4,List.map_singleton,DN,AO,BD];unfold Au;by_cases hk:n<=k
   ·rw [mF hk,mF hk]
   ·rw [mE hk,mE hk];ext
structure PS (l m:cW) (b c d e nq:Nat) (r:de) (B:Int) (qs:cW):Prop where
 len:r.length<=l.length
 tz:Tz r
 B0:B≠0
 N:∃ N,0<N/\B∣N/\Bd (c+(nq - (r.length+1 - m.length))*d) N/\∀ q∈qs,q.2∣N
 low:AW qs
 qb:∀ q∈qs,Bd (b+nq*(d+1)+e) q.1
 rb:∀ z∈r,Bd (b+(nq - (r.length+1 - m.length))*(d+1)) z
 ql:qs.length=nq
 zer:∀ j,j+m.length<=r.length->AX qs j=(0,1)
 idn:∀ k,B_ l k=cv (B_ qs) (B_ m) nq k+(co r k:Rat) / (B:Rat)
def UK {ns:de} {g:Int} (k:Nat):co (ns.map (·/ g)) k=co ns k / g:=JL (F:=(·/ g)) (Int.zero_ediv g) ns k
def UL {ns:de} {g:Int} (h:∀ z∈ns,g∣z) (k:Nat):g∣co ns k:=Tm h k
def PS.step {l m:cW} {b c d e u:Nat} {r:de} {B:Int} {D:cW} (S:PS l m b c d e u r B D) (U:AW m) (nm:Nz m) (m1:1<=m.length) (bC:∀ z∈AK m,Bd d z) (bE:Bd e (Ac m)) (M:u=l.length+1 - m.length) (hr:m.length<=r.length)
  {o top I f w g:Int} (v:o=co (AK m) (m.length - 1)) (J:top=co r (r.length - 1)) (X:0<I) (O:f*I=o) (W:w*I=top) {A:de} (t1:Tz A) (F:∀ k,co A k=f*co r k - w*Au (r.length - m.length) (co (AK m)) k) (Y:0<g) (gB:g∣B*f) (Z:∀ z∈A,g∣z) :
  PS l m b c d e u (A.map (·/ g)) (B*f / g) (D.set (r.length - m.length) (Aq (top*Ac m) (B*o)))/\A.length<r.length:=by
 have G:o≠0:=by rw [v];exact Kq U nm m1
 have cl:(AK m).length=m.length:=Bf m;have P:f≠0:=λz=>G (by rw [<-O,z,Int.zero_mul])
 have a0:A.length<r.length:=by
  have:A.length<=r.length - 1:=T4 (b:=[]) t1 _ λk hk=>by
   rw [F k];unfold Au;rw [mF ⋯];by_cases ek:k=r.length - 1
   ·rw [ek,<-J,show r.length - 1 - (r.length - m.length)=m.length - 1 by omega,<-v,<-W,<-O];ext
   ·rw [Af (a:=r) ⋯,Af (a:=AK m) (k:=k - (r.length - m.length)) ⋯];omega
  omega
 have Bx:(A.map (·/ g)).length=A.length:=AO ..;obtain ⟨N,N0,NB,Nb,Nq⟩:=S.N;have a2:=S.len;have bl:Bd d o:=by rw [v];exact Dt bC _
 have bt:Bd (b+(u - (r.length+1 - m.length))*(d+1)) top:=by rw [J];exact Dt S.rb _
 have bf:Bd d f:=DB G ⟨I,by rw [O]⟩ bl
 have bw:Bd (b+(u - (r.length+1 - m.length))*(d+1)) w:=by
  by_cases z:top=0
  ·have w0:w=0:=by
    rcases Int.mul_eq_zero.mp (W.trans z) with h | h
    ·exact h
    ·omega
   rw [w0];exact C3 _
  ·exact DB z ⟨I,by rw [W]⟩ bt
 have R:r.length - m.length<u:=by omega
 have bne:B*o≠0:=BK S.B0 G;have T:=FA (n:=top*Ac m) bne;have p:∀ {q:Nu},q∈D.set (r.length - m.length) (Aq (top*Ac m) (B*o))->q∈D\/q=Aq (top*Ac m) (B*o):=λ{q} h=>List.mem_or_eq_of_mem_set h
 have C:∀ j,AX (D.set (r.length - m.length) (Aq (top*Ac m) (B*o))) j=if j=r.length - m.length then Aq (top*Ac m) (B*o) else AX D j:=λj=>by
  unfold AX;rw [AT,AT];by_cases e:j=r.length - m.length
  ·rw [mF e,e,List.getElem?_set_self (by rw [S.ql];exact R)];rfl
  ·rw [mE e,List.getElem?_set_ne (λz=>e z.symm)]
 have L:∀ x:Nat,(u - (r.length+1 - m.length))*x+x<=(u - (A.length+1 - m.length))*x:=λx=>by
  have:=BW x (show u - (r.length+1 - m.length)+1<=u - (A.length+1 - m.length) by omega);rw [Cy,Nat.one_mul] at this;exact this
 refine ⟨⟨⋯,?_,?_,⟨N*(o.natAbs:Int),?_,?_,?_,?_⟩,?_,?_,?_,?_,?_,?_⟩,a0⟩
 ·rcases t1 with h | h
  ·left;rw [h];rfl
  ·right;rw [Bx,UK];intro z;have:=Int.ediv_mul_cancel (UL Z (A.length - 1));rw [z,Int.zero_mul] at this;exact h this.symm
 ·intro z;have d:=Int.ediv_mul_cancel gB;rw [z,Int.zero_mul] at d;exact BK S.B0 P d.symm
 ·exact CV N0 ⋯
 ·refine CJ (Int.ediv_dvd_of_dvd gB) (Int.mul_dvd_mul NB ?_);exact Int.dvd_natAbs.mpr ⟨I,by rw [O]⟩
 ·have a1:Bd d (o.natAbs:Int):=bl.le (by rw [Cl];exact AM _);refine (Nb.mul a1).mono ?_;rw [Bx];have:=L d;omega
 ·intro q M;rcases p M with h | h
  ·exact CJ (Nq q h) (Int.dvd_mul_right ..)
  ·rw [h];exact Zw bne (Int.mul_dvd_mul NB (Int.dvd_natAbs.mpr (Int.dvd_refl _)))
 ·intro q M;rcases p M with h | h
  ·exact S.low q h
  ·rw [h];exact T
 ·intro q M;rcases p M with h | h
  ·exact S.qb q h
  ·rw [h];refine (J9 bne (bt.mul bE) (Nat.lt_two_pow_self:Bd _ (B*o))).1.mono ?_;have:=BW (d+1) (show u - (r.length+1 - m.length)<=u by omega);omega
 ·intro z hz;obtain ⟨y,hy,rfl⟩:=BM.mp hz;refine NT (Z y hy) ?_;refine Hv (n:=b+(u - ((A.map (·/ g)).length+1 - m.length))*(d+1)) (λk=>?_) y hy;rw [F k,Bx];have gw:=L (d+1);refine Bd.mono (m:=(b+(u - (r.length+1 - m.length))*(d+1)+d)+1) (Bd.sub ((bf.mul (Dt S.rb k)).mono ⋯) ?_) ⋯;unfold Au;split
  ·exact bw.mul (Dt bC _)
  ·rw [Int.mul_zero];exact C3 _
 ·rw [List.length_set];exact S.ql
 ·intro j hj;rw [Bx] at hj;rw [C,mE ⋯];exact S.zer j ⋯
 ·intro k;have hB:=Aa S.B0;have hL:=Aa G;have hg:=Aa (AV Y);have hF:=Aa P;have hE:=Aa (AV (Bz U).1)
  have c1:=QN (f:=B_ D) (f':=B_ (D.set (r.length - m.length) (Aq (top*Ac m) (B*o)))) (g:=B_ m) (s:=r.length - m.length) (x:=val (Aq (top*Ac m) (B*o)))
   (by unfold B_;rw [S.zer _ ⋯];exact P' _) (by unfold B_;rw [C,mF rfl]) (λi hi=>by unfold B_;rw [C,mE hi]) u k
  have gd:g∣f*co r k - w*Au (r.length - m.length) (co (AK m)) k:=by rw [<-F k];exact UL Z k
  rw [c1,S.idn k,UK,F k,Tl (AV Y) gd,Tl (AV Y) gB,FC bne];have a3:(f:Rat)*I=o:=by exact_mod_cast O
  have a4:(w:Rat)*I=top:=by exact_mod_cast W
  have hS:=Aa (AV X);unfold Au;by_cases hk:r.length - m.length<=k
  ·rw [mF hk,mF ⟨R,hk⟩,Do U (Bz U),<-KA];show _+(co r k:Rat) / _=_+_*((co (AK m) (k - (r.length - m.length)):Rat) / _)+_;push_cast;generalize (co (AK m) (k - (r.length - m.length)):Rat)=dk;generalize cv (B_ D) (B_ m) u k=c;generalize (co r k:Rat)=x;ext
  ·rw [mE hk,mE ⋯];push_cast;generalize cv (B_ D) (B_ m) u k=c;generalize (co r k:Rat)=x;ext
def UM {a b:Nu} (h:Fn a=Fn b):a=b:=by
 unfold Fn at h;injection h with h;injection h with d c;injection c with c _;injection d with d;injection c with c;exact Prod.ext d c
theorem uM {l m:cW} (h:Fo l=Fo m):l=m:=by
 unfold Fo at h;injection h with h
 induction l generalizing m with
 | nil=>
   cases m with
   | nil=>rfl
   | cons b m=>simp at h
 | cons a l c=>
   cases m with
   | nil=>simp at h
   | cons b m=>
     rw [Dg,Dg] at h;injection h with d e;rw [UM d,c e]
def eqP {H:Hp} {p q:Addr} {xs ys:d7} {l m:cW} {Q:VK} (hp:H p=some (.tup xs)) (c:Nums H xs l) (d:H q=some (.tup ys)) (e:Nums H ys m) (b:Bool) (a:b=true↔l=m) (h:Q (.bl b) H):bU (.ref p) (.ref q) H Q:=
 ⟨_,_,b,KI hp c,KI d e,okP _ 6,okP _ 6,⟨λz=>by rw [a.mp z],λz=>a.mpr (uM z)⟩,h⟩
def uN (h:Kc K vs H Q E):xO K { nx:=λ_ H'=>Q .non H',rt:=Q } (L2.start ["P","Q","row","divisor","rest","bottom","lead","quotient","shift","shared","spare"] vs) H:=by
 obtain ⟨p,q,xs,ys,l,m,b0,c0,d0,e0,rfl,hp,v,hN,hM,GL,GM,m0,cd,m6,hc,hb,he,hd,k⟩:=h;obtain ⟨ba,bb,bc⟩:=GL.clr;obtain ⟨T,bd,bf⟩:=GM.clr;obtain ⟨M,hO,bM,ce⟩:=GL.ov;obtain ⟨M',ch,ci,_⟩:=GM.ov;have hl:=GL.low;have hm:=GM.low;have nm:=GM.nz;have m1:1<=m.length:=BE.mpr m0;have b9:b0<=900000:=by omega
 have c9:c0<=400000:=by omega
 have lx:=hN.length;have ly:=hM.length;have bg:∀ q∈m,Bd 60000000 q.1:=λq v=>(bf q v).mono ⋯;have bE:Bd e0 (Ac m):=bd;have OE:=Bz hm;have OL:=Bz hl;have bL:Bd c0 (Ac l):=bb;have cl:(AK m).length=m.length:=by unfold AK;rw [AO]
 have bi:(AK l).length=l.length:=by unfold AK;rw [AO]
 refine Qf (AU rfl ⟨_,_,l,M,rfl,hp,hN,hl,hO,bM.mono ⋯,λq v=>(bc q v).mono ⋯,⋯,λra a H1 s1 F G=>?_⟩);have bl:=s1 _ _ v;refine Qf (AU rfl ⟨_,_,m,Ac m,rfl,SqT.of bl,NuK.of (hM.tp (M_ s1)),hm,OE,bE.mono ⋯,bg,⋯,λrb b H2 s2 U W=>?_⟩);have F:=s2 _ _ F;have G:=s2 _ _ G;have X:=s1.trans s2;have bm:=X.sqT hp;have a7:=X _ _ v
 have A:∀ {r:de},1<=r.length->N_ (r.map V.int) (-1)=some (V.int (r.getD (r.length - 1) 0)):=λ{r} h=>by
  unfold N_ aq;rw [mE ∅,mF (by rw [AO];omega),AO,show (-1+(r.length:Int)).toNat=r.length - 1 by omega];show (r.map V.int)[r.length - 1]?=_;rw [Aj,AT,Ax ⋯];rfl
 have el:=A (r:=AK m) ⋯;rw [cl] at el;generalize x:(AK m).getD (m.length - 1) 0=e at el;have Y:e≠0:=by rw [<-x];exact Kq hm nm m1
 have ab:Bd d0 e:=by rw [<-x];exact DJ T _
 refine BJ (Bm rfl F rfl (BJ (Bm rfl F rfl (BJ (Bc (Bm rfl U rfl ⟨_,rfl,_,_,_,_,rfl,rfl,W,el,?_⟩))))));refine BJ (Bc (KJ (Cf (O' (O' ⟨Bx,λe1 ac=>⟨Ca,λe2 ad=>?_⟩⟩)))));have u:=(AR ac (.tup [.int 0,.int 1])).trans (AR ad (.lst [.ref e1]));have en:(if (0:Int) > (xs.length:Int) - (ys.length:Int)+1 then 0 else (xs.length:Int) - (ys.length:Int)+1)=((l.length+1 - m.length:Nat):Int):=by split <;> omega
 refine ⟨_,rfl,_,_,rfl,u.sqT bm,_,rfl,_,_,rfl,u _ _ a7,_,_,rfl,rfl,_,_,rfl,rfl,_,_,rfl,?_⟩;refine ⟨_,((l.length+1 - m.length:Nat):Int),_,rfl,congrArg V.int en,upd_same,⋯,⋯,sz (by simp;omega),λw hw=>?_⟩;refine Mq ac ad hw λH3 h1 aj u _ w2=>?_;rw [DA,HW] at aj;have N0:Nums H3 (List.replicate (l.length+1 - m.length) (V.ref e1)) (List.replicate (l.length+1 - m.length) (0,1)):=Nums.rep ⟨e1,rfl,h1⟩ _
 have gz:∀ n j:Nat,AX (List.replicate n ((0,1):Nu)) j=(0,1):=λn j=>by
  unfold AX;rw [AT,Dx];split <;> rfl
 refine E4 (λn σ H'=>∃ (c:Addr) (r:de) (B:Int) (zs:d7) (I:cW) (x8 x9 J:d8),σ=[some (.ref p),some (.ref q),some (.ref ra),some (.ref rb),some (.ref c),some (.int B),some (.int e),some (.ref w),x8,x9,J]/\Same H2 H'/\H' c=some (.lst (r.map V.int))/\c≠w/\H' w=some (.lst zs)/\Nums H' zs I/\PS l m b0 c0 d0 e0 (l.length+1 - m.length) r B I/\n=r.length) l.length
  ⟨a,AK l,Ac l,_,_,none,none,none,rfl,u,u _ _ G,Bi G w2,aj,N0,⟨⋯,FI hl GL.nz,AV OL.1,⟨Ac l,OL.1,Int.dvd_refl _,bL.mono ⋯,λq v=>?_⟩,λq v=>?_,λq v=>?_,λz hz=>?_,Df ..,λj _=>gz _ j,λk=>?_⟩,bi.symm⟩ ?_
 ·rw [(List.mem_replicate.mp v).2];exact Int.one_dvd _
 ·rw [(List.mem_replicate.mp v).2];exact HR
 ·rw [(List.mem_replicate.mp v).2];exact C3 _
 ·exact (ba z hz).mono ⋯
 ·rw [QO _ _ (λi _=>by unfold B_;rw [gz];exact P' _),Do hl OL,KA];exact (Rat.zero_add _).symm
 rintro n σ H4 ⟨c,r,B,zs,I,x8,x9,J,rfl,s4,C,cw,Z,N4,o,rfl⟩;have al:=s4 _ _ a7;refine ⟨_,rfl,_,_,rfl,C,_,rfl,_,_,rfl,al,_,_,rfl,rfl,_,rfl,Av (λcc=>?_) (λcc=>?_)⟩
 ·have am:m.length<=r.length:=by have cc:=mH cc;rw [AO] at cc;omega
  refine ⟨_,λ_ _ h=>h,?_⟩;have es:((r.map V.int).length:Int) - (ys.length:Int)=((r.length - m.length:Nat):Int):=by rw [AO];omega
  have lt:=A (r:=r) ⋯;generalize P:r.getD (r.length - 1) 0=top at lt;have an:=s4 _ _ U;have c4:=s4 _ _ W;obtain ⟨N,L,NB,Nb,Nq⟩:=o.N;have a0:Bd 400000 B:=(DB (AV L) NB Nb).mono (A7 (Nat.add_le_add_left (BW _ (Nat.sub_le _ _)) _) hc)
  have bn:b0+(l.length+1 - m.length - (r.length+1 - m.length))*(d0+1)<=900000:=by
   have:=BW (d0+1) (Nat.sub_le (l.length+1 - m.length) (r.length+1 - m.length));omega
  have R:Bd 900000 top:=by rw [<-P];exact (DJ o.rb _).mono bn
  have bp:∀ z∈r,Bd 60000000 z:=λz hz=>(o.rb z hz).mono ⋯;refine ⟨_,rfl,_,_,rfl,C,_,rfl,_,_,rfl,al,_,_,rfl,rfl,?_⟩;show SC K _ [some (.ref p),some (.ref q),some (.ref ra),some (.ref rb),some (.ref c),some (.int B),some (.int e),some (.ref w),some (.int (((r.map V.int).length:Int) - (ys.length:Int))),x9,J] _;rw [es];have bne:B*e≠0:=BK o.B0 Y;refine zS (Ag ⟨_,rfl,_,rfl,_,_,_,_,rfl,rfl,C,lt,_,rfl,_,_,_,_,rfl,rfl,an,rfl,_,_,rfl,rfl,Ds R bE,_,rfl,_,rfl,_,_,rfl,rfl,Ds a0 ab,_,_,rfl,bne,λt1 ao=>?_⟩);have ck:zs.length=l.length+1 - m.length:=by rw [N4.length,o.ql]
  have c5:=o.len;refine ⟨_,rfl,_,rfl,_,zs,_,r.length - m.length,rfl,rfl,AR ao _ _ _ Z,Fu rfl ⋯,?_⟩;refine zY ao Z w2 s4 λH5 s5 ar h5 bq k5=>?_;have hn:=Nums.set (q:=Aq (top*Ac m) (B*e)) ⟨t1,rfl,h5⟩ (r.length - m.length) (N4.tp bq);have D:=k5 _ _ cw C;have b1:=s5 _ _ U;have b2:=s5 _ _ W;refine FD ⟨_,rfl,_,rfl,_,_,_,_,rfl,rfl,D,lt,_,rfl,_,_,rfl,?_⟩;show R8 K _ [some (.ref p),some (.ref q),some (.ref ra),some (.ref rb),some (.ref c),some (.int B),some (.int e),some (.ref w),some (.int ((r.length - m.length:Nat):Int)),some (.int ((Int.gcd top e:Nat):Int)),J] _;have y:(0:Int)<((Int.gcd top e:Nat):Int):=by have:=Int.gcd_pos_of_ne_zero_right top Y;omega
  have a1:((Int.gcd top e:Nat):Int)∣e:=Dy top e;have a2:((Int.gcd top e:Nat):Int)∣top:=Et top e;have hf:=Int.ediv_mul_cancel a1;have a3:=Int.ediv_mul_cancel a2;generalize c8:((Int.gcd top e:Nat):Int)=sh at y a1 a2 hf a3 ⊢;have a4:=NT a1 ab;have b3:=NT a2 R;have a5:e.fdiv sh=e / sh:=EM e (DS y);have b4:top.fdiv sh=top / sh:=EM top (DS y);generalize cn:e / sh=f at hf a4 a5 ⊢;generalize top / sh=wt at a3 b3 b4 ⊢;refine BJ (zV ⟨_,rfl,_,rfl,_,rfl,_,_,rfl,rfl,AV y,_,rfl,_,_,_,_,rfl,rfl,b1,rfl,_,rfl,_,rfl,_,_,_,_,rfl,rfl,D,lt,_,rfl,_,_,rfl,rfl,AV y,_,rfl,?_⟩);refine ⟨_,_,r,AK m,f,wt,r.length - m.length,by rw [<-a5,<-b4],D,b2,⋯,⋯,a4.mono ⋯,b3.mono ∅,bp,λz hz=>(T z hz).mono ⋯,λc1 O H6 s6 b5 t6 e6=>?_⟩;have br:f≠0:=λz=>Y (by rw [<-hf,z,Int.zero_mul])
  have l6:O.length<=1000:=by
   have:O.length<=1000:=T4 (b:=[]) t6 1000 λk hk=>by
    rw [e6 k,Af (a:=r) ⋯];unfold Au;split
    ·rw [Af (a:=AK m) ⋯];omega
    ·omega
   exact this
  refine ⟨_,rfl,_,rfl,_,rfl,_,_,rfl,rfl,AV y,_,_,rfl,rfl,?_⟩;rw [a5];refine ⟨Ds a0 a4,?_⟩;show R4 K _ _ _;refine FD ⟨_,rfl,_,rfl,_,O,_,rfl,b5,l6,λg H7 s7 gn gB gr _=>?_⟩
  have g0:0<g:=by
   rcases Int.lt_or_eq_of_le gn with z | z
   ·exact z
   ·exact absurd (Int.zero_dvd.mp (z ▸ gB)) (BK o.B0 br)
  have bs:=s7 _ _ b5;obtain ⟨S5,bt⟩:=o.step hm nm m1 T bE rfl am x.symm P.symm y hf a3 t6 e6 g0 gB gr;have bw:(O.map (·/ g)).length=O.length:=AO ..;refine FD ⟨_,rfl,_,rfl,_,O,_,rfl,bs,.inl g0,⋯,λc2 b6=>⟨_,rfl,_,rfl,_,_,rfl,rfl,g0,?_⟩⟩;have bx:=AR b6 (.lst ((O.map (·/ g)).map V.int));have b7:=s6.trans s7;have a6:=b7.trans bx;exact ⟨O.length,bt,_,O.map (·/ g),_,_,_,_,_,_,rfl,s5.trans a6,upd_same,(Bi (b7 _ _ ar) b6).symm,a6 _ _ ar,hn.tp (M_ a6),S5,bw.symm⟩
 ·have am:r.length<m.length:=by have cc:=of_decide_eq_false (Bool.eq_false_iff.mpr cc);rw [AO] at cc;omega
  obtain ⟨N,L,NB,Nb,Nq⟩:=o.N;have a0:Bd 400000 B:=(DB (AV L) NB Nb).mono (A7 (Nat.add_le_add_left (BW _ (Nat.sub_le _ _)) _) hc);have cb:=o.ql;show SE K _ _ _;refine CA (Cf (CH ⟨_,rfl,_,_,I,rfl,Z,N4,⋯,λt1 z1 H5 s5 h5 n5=>?_⟩));have D:=s5 _ _ C;have bz:=o.len;refine Ag ⟨_,rfl,_,rfl,_,r,_,rfl,D,o.B0,⋯,λt2 z2 H6 s6 h6 n6=>⟨Bx,λt ht=>?_⟩⟩;have st:=AR ht (.tup [.ref t1,.ref t2]);have S:AW (r.map λn=>Aq n B):=λq v=>by obtain ⟨n,_,rfl⟩:=BM.mp v;exact FA o.B0
  have c3:∀ k,B_ (r.map λn=>Aq n B) k=(r.getD k 0:Rat) / (B:Rat):=λk=>by
   unfold B_ AX;rw [AT,AT,Aj];cases r[k]? with
   | none=>exact (P' _).trans (P' _).symm
   | some z=>exact FC o.B0
  have Bo:=o.rb;have r0:r.length+1 - m.length=0:=by omega
  rw [r0,Cu] at Bo Nb;have bB:Bd (c0+(l.length+1 - m.length)*d0) B:=DB (AV L) NB Nb;obtain ⟨RO,RB⟩:=JN o.B0 Bo;obtain ⟨TO,TB⟩:=uK RO RB;refine k t t1 t2 _ (trim I) (trim (r.map λn=>Aq n B)) ((((X.trans s4).trans s5).trans s6).trans st) upd_same (Pl.same ⟨z1,h5,n5⟩ (s6.trans st)) (Pl.same ⟨z2,h6,n6⟩ st) (λq v=>o.low q (DI v)) (EE _) ?_ ⟨λq v=>S q (DI v),EE _,_,TO,bB.le ⋯,TB⟩ ?_ λk=>?_
  ·have:=Eh I;omega
  ·have:=Eh (r.map λn=>Aq n B);rw [AO] at this;omega
  ·obtain ⟨d,hd⟩:∃ d,l.length+1 - m.length=(trim I).length+d:=⟨l.length+1 - m.length - (trim I).length,by have:=Eh I;omega⟩;rw [Ei S,c3,o.idn k,QQ (λi=>(Ei o.low i).symm),hd,QP (λi hi=>BF hi)];rfl
def MR.add {n F G L:dH} (a:MR n F) (b:MR n G) (h:∀ k,L k=F k+G k):MR n L:=by
 obtain ⟨A,c⟩:=a;obtain ⟨B,d⟩:=b;exact ⟨Aw A B,λk=>by rw [Bb,<-c k,<-d k,h k]⟩
def MR.smul {n F L:dH} (a:MR n F) (c:Rat) (h:∀ k,L k=c*F k):MR n L:=by
 obtain ⟨A,b⟩:=a;exact ⟨A.map (c*·),λk=>by rw [A6,<-b k,h k]⟩
def MR.sub {n F G L:dH} (a:MR n F) (b:MR n G) (h:∀ k,L k=F k - G k):MR n L:=
 a.add (b.smul (-1) (L:=λk=>-1*G k) λ_=>rfl) λk=>by rw [h k];ext
theorem Kw (F G:dH) (k:Nat):∀ n,cv F G n k=cvL ((List.range n).map F) G k
 | 0=>rfl
 | n+1=>by
   show cv F G n k+(if n<=k then F n*G (k - n) else 0)=_;rw [Kw F G k n,List.range_succ,D4,List.map_singleton,DN,AO,BD];unfold Au;by_cases hk:n<=k
   ·rw [mF hk,mF hk]
   ·rw [mE hk,mE hk];ext
def uO {F:dH} {n:Nat} (h:∀ i,n<=i->F i=0) (k:Nat):F k=cvL ((List.range n).map F) Ai k:=by
 rw [Co,AT,Aj];by_cases hk:k<n
 ·rw [DD hk];rfl
 ·rw [Bh (by rw [BD];omega),h k ⋯];rfl
def Gq.mono {b c b' c':Nat} {l:cW} (G:Gq b c l) (a:b<=b') (d:c<=c'):Gq b' c' l:=by
 obtain ⟨x,y,M,O,bM,e⟩:=G;exact ⟨x,y,M,O,bM.mono d,λz f=>(e z f).mono a⟩
def DZ {T:cW} {b c:Nat} (g:AW T) (n:Nz T) {M:Int} (j:0<M) (bM:Bd c M) {N:dF} (h:∀ k,B_ T k=(N k:Rat) / (M:Rat)) (o:∀ k,Bd b (N k)):Gq b c T:=by
 have f:∀ q∈T,∃ k,q.2∣M/\q.1*(M / q.2)=N k:=λq d=>by
  obtain ⟨i,p,rfl⟩:=GH d;have e:AX T i=T[i]:=by unfold AX;rw [AT,Ax p];rfl
  have m:=g _ d;have v:=h i;unfold B_ at v;rw [e] at v;exact ⟨i,UG m (UF (AV m.pos) (AV j) v)⟩
 refine ⟨g,n,M,⟨j,λq d=>?_⟩,bM,λz r=>?_⟩
 ·obtain ⟨k,a,_⟩:=f q d;exact a
 ·obtain ⟨q,d,rfl⟩:=BM.mp r;obtain ⟨k,_,a⟩:=f q d;rw [a];exact o k
def uP (h:Iw K vs H Q E):Rn K { nx:=λ_ g=>Q .non g,rt:=Q } (L2.start ["one","other"] vs) H:=by
 obtain ⟨p,q,a,b,c,d,rfl,hp,i,e,f,j,m,n,o,k⟩:=h;unfold Rn;rwa [hp,i];exact ⟨C6 j n,C6 m o,AV (CV e f),λr u=>by rw [JG (CV e f)];exact k r u⟩
def uQ (h:Ix K vs H Q E):Ro K { nx:=λ_ e=>Q .non e,rt:=Q } (L2.start ["one","other"] vs) H:=by
 obtain ⟨p,q,a,b,c,d,rfl,hp,f,g,i,j,m,n,o,k⟩:=h;unfold Ro;rwa [hp,f];exact ⟨C6 j o,C6 m n,BK (AV g) i,k⟩
def uR (h:Kd K vs H Q E):Q5 K { nx:=λ_ n=>Q .non n,rt:=Q } (L2.start ["row","other","result","place","whole","step","factor"] vs) H:=by
 obtain ⟨p,q,f,g,b,d,rfl,hp,O,bn,bm,b9,d9,ln,lm,k⟩:=h;unfold Q5;rwa [hp,O];have R:∀ C:de,((!(List.map V.int C).isEmpty)=false)↔C.length=0:=λC=>by cases C <;> simp
 simp only [R];refine Av (λc=>?_) (λc=>Av (λc2=>?_) (λc2=>?_))
 ·exact ⟨sz ∅,λr S=>k r _ (AR S _) (by rw [mF (.inl c)];exact upd_same)⟩
 ·exact ⟨sz ∅,λr S=>k r _ (AR S _) (by rw [mF (.inr c2)];exact upd_same)⟩
 rw [mE ⋯] at k;refine ⟨sz ∅,λa ha=>?_⟩;have P:=AR ha (.lst [.int 0]);have G:=P _ _ hp;have T:=P _ _ O;rwa [G,T];rw [AO,AO];have eL:((f.length:Int)+(g.length:Int) - 1).toNat=f.length+g.length - 1:=by omega
 rw [eL,NP];refine ⟨⋯,⋯,sz ⋯,λw U=>?_⟩;generalize W:f.length+g.length - 1=L at U ⊢;have sw:=AR U (.lst (Ad L λ_=>0))
 have w0:H w=none:=by
  cases e:H w with
  | none=>rfl
  | some o=>have z:=P _ _ e;rw [U] at z;cases z
 refine ⟨⟨_,SqL.of (sw _ _ G)⟩,ForJ.enumL (xs:=f.map V.int) (λi v n=>∃ X Y D F:d8,v=[some (.ref p),some (.ref q),some (.ref w),X,Y,D,F]/\Same H n/\n w=some (.lst (Ad L λk=>ps f g i k)))
  ⟨none,none,none,none,rfl,P.trans sw,upd_same⟩ ?_ ?_ ?_⟩
 ·rintro i v n _ ⟨_,_,_,_,_,B,_⟩;exact SqL.of (B _ _ hp)
 ·rintro i x pp v H1 I ⟨X,Y,D,F,rfl,B,m⟩ Z;rw [Aj] at I;cases en:f[i]? with
  | none=>rw [en] at I;cases I
  | some z=>
    rw [en] at I;obtain rfl:V.int z=x:=mO I;have il:i<f.length:=(By.mp en).1;have zd:f.getD i 0=z:=by rw [AT,en];rfl
    have J:=AR Z (.tup [.int (i:Int),.int z]);rwa [];refine Av (λc3=>?_) (λc3=>?_)
    ·refine ⟨⟨_,SqL.of (J _ _ (B _ _ O))⟩,ForJ.enumL (xs:=g.map V.int) (λj v n=>∃ D F:d8,v=[some (.ref p),some (.ref q),some (.ref w),some (.int (i:Int)),some (.int z),D,F]/\Same H n/\n w=some (.lst (Ad L λk=>bK f g i j k)))
      ⟨D,F,rfl,B.trans J,by rw [J _ _ m];exact congrArg (λl=>some (HO.lst l)) (Gv λk _=>(Zu f g i k))⟩ ?_ ?_ ?_⟩
     ·rintro j v n _ ⟨_,_,_,M,_⟩;exact SqL.of (M _ _ O)
     ·rintro j y pq v H2 N ⟨y3,y4,rfl,M,A⟩ a0;rw [Aj] at N;cases em:g[j]? with
      | none=>rw [em] at N;cases N
      | some u=>
        rw [em] at N;obtain rfl:V.int u=y:=mO N;have jl:j<g.length:=(By.mp em).1;have ud:g.getD j 0=u:=by rw [AT,em];rfl
        have sq:=AR a0 (.tup [.int (j:Int),.int u]);have a1:=sq _ _ A;rwa [a1];have kl:i+j<L:=by omega
        refine ⟨_,DW ⋯ (CN _ kl),C6 ((bn z (Bg en)).mono ⋯) ((bm u (Bg em)).mono ⋯),_,rfl,i+j,?_,λb o h=>Kp.upd b o (Bi h w0) (sq b o (M b o h)),?_⟩
        ·rw [CI];exact Fu ⋯ kl
        ·refine Gu kl ?_ λk _ hk=>?_
         ·rw [QC,mF rfl,zd,ud]
         ·rw [QC,mE hk]
     ·rintro v H2 ⟨y3,y4,rfl,M,A⟩;rw [AO] at A;exact ⟨_,_,_,_,rfl,M,A⟩
    ·refine ⟨B.trans J,?_⟩;rw [J _ _ m];refine congrArg (λl=>some (HO.lst l)) (Gv λk _=>?_);have z0:z=0:=Decidable.not_not.mp c3;show ps f g i k+_=ps f g i k;rw [zd,z0];simp
 ·rintro v H1 ⟨X,Y,D,F,rfl,B,m⟩;rwa [];rw [AO] at m;subst W;exact k w H1 B m
def uS (h:Ci K vs H Q E):Ry K { nx:=λ_ P=>Q .non P,rt:=Q } (L2.start ["P","Q","one","other"] vs) H:=by
 obtain ⟨p,q,R,S,l,m,b,c,d,e,rfl,hp,f,T,U,Gl,j,ll,lm,b9,c9,d9,e9,k⟩:=h;unfold Ry;obtain ⟨n1,g,W⟩:=Gl.clr;obtain ⟨J,i,X⟩:=j.clr;have o:=Bz Gl.low;have u:=Bz j.low;refine BJ (CH (AU rfl ⟨_,R,l,Ac l,rfl,hp,T,Gl.low,o,g.mono ⋯,λq f=>(W q f).mono ⋯,⋯,λr a H1 A Y Z=>?_⟩));have B:=A _ _ f;refine BJ (CH (AU rfl ⟨_,S,m,Ac m,rfl,SqT.of B,NuK.of (U.tp (M_ A)),j.low,u,i.mono ⋯,λq f=>(X q f).mono ⋯,⋯,λr2 a2 H2 C v D=>?_⟩));have x:=C _ _ Y;have F:=C _ _ Z;rwa [x,v];have m1:(AK l).length=l.length:=by unfold AK;rw [AO]
 have L:(AK m).length=m.length:=by unfold AK;rw [AO]
 refine ⟨AK l,F,AK m,D,b,n1,d,J,⋯,⋯,⋯,⋯,λw H3 G hw=>?_⟩;have I:=G _ _ x;have y:=G _ _ v;rwa [I,y];have z:0<Ac l*Ac m:=CV o.1 u.1;refine ⟨C6 (g.mono ⋯) (i.mono ⋯),_,hw,AV z,?_,λr4 zs H4 s4 h4 M=>?_⟩
 ·split
  ·exact Ab _
  ·rw [AO,BD];omega
 have O:trim (Fg l m (l.length+m.length))=trim (List.map (λn=>Aq n (Ac l*Ac m)) (if (AK l).length=0\/(AK m).length=0 then [] else List.map (λk=>ps (AK l) (AK m) (AK l).length k) (List.range ((AK l).length+(AK m).length - 1)))):=by
  rw [m1,L,show (λn=>Aq n (Ac l*Ac m))=λn=>a9 n (Ac l*Ac m) from funext λn=>JG z];exact Zv z L
 have lo:AW (Fg l m (l.length+m.length)):=Z1 o u
 have pv:∀ k,B_ (trim (Fg l m (l.length+m.length))) k=cv (B_ l) (B_ m) l.length k:=λk=>by
  rw [Ei lo];exact Z2 Gl.low j.low o u k
 rw [<-O] at M;refine k r4 _ H4 (((A.trans C).trans G).trans s4) ⟨zs,h4,M⟩ ?_ ?_ pv
 ·refine DZ (λq f=>lo q (DI f)) (EE _) z (g.mul i) (N:=λk=>ps (AK l) (AK m) l.length k) (λk=>?_) λk=>QD n1 J _ _;rw [pv];exact (Me Gl.low j.low o u _ _).symm
 ·rw [O];refine A7 (Eh _) ?_;rw [AO];split
  ·exact Ab _
  ·rw [AO,BD];omega
def uT (h:Iy K vs H Q E):Rz K { nx:=λ_ d=>Q .non d,rt:=Q } (L2.start ["P","c"] vs) H:=by
 obtain ⟨p,c,m,l,a,b,rfl,hp,F,y,G,I,J,L,M,ll,k⟩:=h;unfold Rz;rwa [hp];have N:=y.length;refine ⟨⟨_,SqT.of hp⟩,CompJ.tup (xs:=m) (λi g d=>i<=m.length/\Same H d/\Nums d g ((l.take i).map λq=>H_ q (a,b))) ⟨Ab _,Same.refl H,trivial⟩ ?_ ?_ ?_⟩
 ·rintro i g d ⟨A,e,f⟩;exact ⟨A,sz (by rw [f.length,AO,CB];omega),e _ _ hp⟩
 ·rintro i x g d B ⟨A,e,f⟩;obtain ⟨z,o,X,rfl,u⟩:=y.get B;have O:i<m.length:=(By.mp B).1;have j:=e _ _ u;have v:=e _ _ F;have P:=G z (Bg o);have C:=M z (Bg o);rwa [j,v];refine ⟨P.pos,I,C.1,C.2,J,L,λr n=>⟨⋯,e.trans (AR n _),?_⟩⟩;rw [Hs _ o];exact (f.tp (M_ (AR n _))).append (Nums.one HX)
 ·rintro g d ⟨_,e,f⟩ w R;have D:=AR R (.lst g);rw [N,Cv] at f;rwa [];exact ⟨_,f.tp (M_ D),by rw [AO];omega,λr S T U n W=>k r S T ((e.trans D).trans U) n W⟩
def uU (h:EF K vs H Q E):SN K { nx:=λ_ r=>Q .non r,rt:=Q } (L2.start ["P","Q"] vs) H:=by
 obtain ⟨p,q,w,x,l,m,b,c,d,e,rfl,hp,y,z,A,Gl,f,n,ll,B,C,D,F,G,I,k⟩:=h;unfold SN;refine CA (Bc (Ag (AU rfl (AU rfl ⟨p,q,w,x,l,m,b,c,d,e,rfl,hp,y,z,A,Gl,f,n,ll,B,C,D,F,G,λt u v J a g L M N U O R S W X o=>?_⟩))))
 have T:∀ k,B_ g k=0:=by
  have j:MR (B_ m) (B_ g):=I.sub (uL (P:=λk=>cv (B_ a) (B_ m) a.length k) a.length (λk=>rfl)) λk=>by have:=o k;show B_ g k=B_ l k - cv (B_ a) (B_ m) a.length k;ext
  refine λk=>MR.short (C7 f.low f.nz n) (λi Y=>BF ⋯) j (λk hk=>BF ⋯) k
 exact ⟨_,_,_,_,rfl,rfl,M,rfl,k u a J L N O R S λk=>by rw [o k,T k];ext⟩
def Kx (l:cW) (k:Nat):cvL (rw' l) Ai k=B_ l k:=(uO (λi a=>BF a) k).symm
def Ky (l:cW) (g:dH) (k:Nat):cv (B_ l) g l.length k=cvL (rw' l) g k:=Kw _ _ k _
theorem uV {L M G T B:dH} {t b U W:List Rat} {n:Nat} (a:∀ k,cvL t Ai k=T k) (c:∀ k,cvL b Ai k=B k) (d:G n≠0) (f:∀ i,n<i->G i=0)
  (g:∀ k,L k=cvL t G k) (h:∀ k,M k=cvL b G k) (e:∀ k,G k=cvL U L k+cvL W M k):Cop T B:=by
 refine ⟨U,W,λk=>?_⟩
 have z:=Ms d f (A:=[1]) (B:=Aw (BS U t) (BS W b)) (λk=>by
  rw [Bb,Bv,Bv,<-BC g,<-BC h,<-e k];cases k with
  | zero=>rw [At];ext
  | succ k=>rw [Ak,A5];ext) Ai k
 rw [Bb,Bv,Bv,BC a,BC c] at z;rw [<-z,Co];cases k with
 | zero=>rfl
 | succ k=>rfl
def Cop.scal {T B a b:dH} {s:Rat} (c:s≠0) (h:Cop T B) (d:∀ k,a k=s*T k) (f:∀ k,b k=s*B k):Cop a b:=by
 obtain ⟨U,W,e⟩:=h;refine ⟨U.map (s⁻¹*·),W.map (s⁻¹*·),λk=>?_⟩;rw [A6,A6,BC d,BC f,C4,C4,e k];have:s⁻¹*s=1:=Rat.inv_mul_cancel s c;ext
def uW {B a:cW} (m:AW B) (b:AW a) (n:Nz B) (g:Nz a) (p:B≠[]) (j:a≠[]) (o:AX B (B.length - 1)=(1,1)) (q:AX a (a.length - 1)=(1,1)) (h:MR (B_ B) (B_ a)) (h':MR (B_ a) (B_ B)):B=a:=by
 have len:∀ {B a:cW},AW B->AW a->Nz B->Nz a->B≠[]->a≠[]->MR (B_ B) (B_ a)->B.length<=a.length:=λ{B a} m b n g p j h=>by
  rcases Am a.length B.length with c | c
  ·exact absurd (MR.short (C7 m n p) (λi r=>BF ⋯) h (λk hk=>BF ⋯) (a.length - 1)) (C7 b g j)
  ·exact c
 have e:B.length=a.length:=Dz (len m b n g p j h) (len b m g n j p h');have v:0<B.length:=BE.mpr p;refine QM m b n g λk=>?_
 have d:=MR.short (f:=λk=>B_ a k - B_ B k) (C7 m n p) (λi r=>BF ⋯) (h.sub ⟨[1],λk=>by
  cases k with
  | zero=>rw [At];ext
  | succ k=>rw [Ak,A5];ext⟩ λk=>rfl) (λk hk=>by
    rcases Am (B.length - 1) k with c | c
    ·show B_ a k - B_ B k=0;rw [BF ⋯,BF ⋯];ext
    ·have u:k=B.length - 1:=by omega
     show B_ a k - B_ B k=0;unfold B_;rw [u,o,e,q];ext) k
 have d:B_ a k - B_ B k=0:=d;ext
def uX {l m:cW} {g:de} (a:AW l) (b:AW m) (R:RC (co (AK l)) (co (AK m)) g):∃ U W:List Rat,∀ k,B_ (J' g) k=cvL U (B_ l) k+cvL W (B_ m) k:=by
 obtain ⟨d,c,U,W,f⟩:=R.qi;have h:=Aa c;have j:=UJ a;have n:=UJ b;refine ⟨(U.map λz:Int=>(z:Rat)).map (((co g (g.length - 1):Rat))⁻¹*(d:Rat)⁻¹*(((Ac l:Rat))⁻¹)⁻¹*·),(W.map λz:Int=>(z:Rat)).map (((co g (g.length - 1):Rat))⁻¹*(d:Rat)⁻¹*(((Ac m:Rat))⁻¹)⁻¹*·),λk=>?_⟩;have e:(d:Rat)*(co g k:Rat)=((cvL U (co (AK l)) k:Int):Rat)+((cvL W (co (AK m)) k:Int):Rat):=by exact_mod_cast f k
 rw [Kv j (EG a),Kv n (EG b)] at e;rw [A6,A6,EH R.lz];generalize cvL (U.map λz:Int=>(z:Rat)) (B_ l) k=x at e ⊢;generalize cvL (W.map λz:Int=>(z:Rat)) (B_ m) k=y at e ⊢;generalize ((Ac l:Rat)⁻¹)⁻¹=u at e ⊢;generalize ((Ac m:Rat)⁻¹)⁻¹=v at e ⊢;have i:(d:Rat)⁻¹*(d:Rat)=1:=Rat.inv_mul_cancel _ h;have:(co g k:Rat)=(d:Rat)⁻¹*(u*x+v*y):=by rw [<-e];ext
 rw [this];ext
theorem Nh {l a:cW} {g:de} {b n c:Nat} (j:AW l) (r:AW a) (o:∀ z∈AK l,Bd b z) (p:l.length<=n) (q:n<2 ^ c) (d:Lz g) (P:Prim g) (m:MQ (co g) (co (AK l))) (e:∀ k,B_ l k=cv (B_ a) (B_ (J' g)) a.length k) :
  ∃ A:de,(∀ k,Bd (b+n*(2*c+4)) (co A k))/\∀ k,B_ a k=((co g (g.length - 1):Rat))*(co A k:Rat)*((Ac l:Rat))⁻¹:=by
 obtain ⟨A,f⟩:=T_ P m;refine ⟨A,vV o (by rw [Bf];exact p) q d f,λk=>?_⟩;have u:=Aa d.2;have top:B_ (J' g) (g.length - 1)≠0:=by rw [EH d];ext
 have h:∀ i,g.length - 1<i->B_ (J' g) i=0:=λi h=>BF (by rw [Du];omega)
 have z:=Ms top h (A:=rw' a) (B:=(A.map λz:Int=>(z:Rat)).map ((co g (g.length - 1):Rat)*((Ac l:Rat))⁻¹*·)) (λk=>by
  rw [<-Ky,<-e k,A6,EG j,f k,Kv (Fw d) (EH d)];ext) Ai k
 rw [Kx,A6,Co,AT,Aj] at z;rw [z];unfold co;rw [AT (l:=A)];cases A[k]? with
 | none=>show _*(0:Rat)=_*((0:Int):Rat)*_;ext
 | some v=>show _*(v:Rat)=_*(v:Rat)*_;ext
theorem Kz {l:cW} {a b:Int} (c:AW l) (d:0<b) (k:Nat):B_ (l.map λq=>H_ q (a,b)) k=val (a,b)*B_ l k:=by
 unfold B_ AX;rw [AT,AT,Aj];cases e:l[k]? with
 | none=>
   show val (0,1)=_*val (0,1);have:val (0,1)=0:=by unfold val;exact P' _
   rw [this];ext
 | some q=>
   show val (H_ q (a,b))=_*val q;rw [QK (c q (Bg e)).pos d];ext
def K0 {l:cW} {a b:Int} (c:AW l) (d:0<b):AW (l.map λq=>H_ q (a,b)):=λq e=>by
 obtain ⟨z,f,rfl⟩:=BM.mp e;exact Py (c z f).pos d
def uY {H:Hp} {p:Addr} (h:H p=some (.tup [.int 1,.int 1])):isN H (.ref p) (1,1):=⟨p,rfl,h⟩
def JO:Low 1 1:=⟨∅,∅⟩
def cM {n:Nat} {x:Int} (h:x.natAbs<2 ^ n):Bd n x:=h
def uZ (h:Hj K vs H Q E):SL K { nx:=λ_ W=>Q .non W,rt:=Q } (L2.start ["P","Q","factor"] vs) H:=by
 obtain ⟨p,q,l,m,rfl,⟨xs,hp,X⟩,⟨Y,c,A⟩,ll,L,Z,M,N,D,l9,m9,k⟩:=h;have p1:0<m.length:=BE.mpr M;obtain ⟨v,F,pv,rfl,b⟩:=A.at (i:=m.length - 1) ⋯ (0,1);have G:N_ Y (-1)=some (V.ref pv):=Kr (by rw [A.length];exact p1) (by rw [A.length];exact F);have O:Low (AX m (m.length - 1)).1 (AX m (m.length - 1)).2:=CZ L _;have tn:=UH Z M
 have mL:AX m (m.length - 1)∈m:=by
  unfold AX;rw [AT,Ax ⋯];exact EN _
 have r:=D _ mL;have b:H pv=some (HO.tup [V.int (AX m (m.length - 1)).1,V.int (AX m (m.length - 1)).2]):=b;generalize a0:AX m (m.length - 1)=o at b O tn r k;unfold SL;rwa [];refine ⟨sz ∅,λw hw=>?_⟩;have B:=AR hw (.tup [.int 1,.int 1]);have x:=B _ _ c;have d:=B _ _ b;have y:upd H w (.tup [.int 1,.int 1]) w=some (HO.tup [V.int 1,V.int 1]):=upd_same;generalize upd H w (.tup [.int 1,.int 1])=P at B x d y ⊢;refine ⟨_,x,_,G,_,rfl,?_⟩;rwa [d,y];have R:Bd 60000000 1:=(cM (n:=1) ∅).mono ∅;refine ⟨∅,tn,R,R,r.1.mono ∅,r.2.mono ∅,λf hf=>?_⟩;rw [Int.one_mul,Int.one_mul];have C:=FA (n:=o.2) tn;have z:=J9 tn r.2 r.1
 have S:val (Aq o.2 o.1)*val o=1:=by
  have z1:=Aa tn;have z2:=Aa (AV O.pos);rw [FC tn];unfold val;ext
 generalize Aq o.2 o.1=a at C z S ⊢;have T:=AR hf (.tup [.int a.1,.int a.2]);have e:upd P f (.tup [.int a.1,.int a.2]) f=some (HO.tup [V.int a.1,V.int a.2]):=upd_same;generalize upd P f (.tup [.int a.1,.int a.2])=H4 at T e ⊢;have g:=B.trans T;have I:=g _ _ hp;rwa [I,e];refine ⟨l,X.tp (M_ g),ll,C.pos,z.1.mono ∅,z.2.mono ∅,λq c=>⟨(N q c).1.mono ∅,(N q c).2.mono ∅⟩,⋯,λu us H6 U hu nu=>?_⟩;have j:=g.trans U;refine ⟨_,j _ _ c,m,a.1,a.2,U _ _ e,A.tp (M_ j),L,C.pos,z.1.mono ∅,z.2.mono ∅,λq c=>⟨(D q c).1.mono ∅,(D q c).2.mono ∅⟩,⋯,λv vs H7 J F nv=>⟨sz ∅,λt ht=>?_⟩⟩;have st:=AR ht (.tup [.ref u,.ref v]);exact k a C S t u v _ ((j.trans J).trans st) upd_same ⟨us,st _ _ (J _ _ hu),(nu.tp (M_ J)).tp (M_ st)⟩ ⟨vs,st _ _ F,nv.tp (M_ st)⟩
def aC (q r:Nu):aa q (-r.1,r.2)=ae q r:=by
 unfold aa ae;congr 1;show q.1*r.2 + -r.1*q.2=_;ext
def UN {q r:Nu} (a:0<q.2) (b:0<r.2):val (ae q r)=val q - val r:=by
 rw [<-aC,QJ (r:=(-r.1,r.2)) a b,uJ];ext
def UO {f:Nu->Nu->Nu} {s:Int} (j:∀ q r:Nu,0<q.2->0<r.2->Low (f q r).1 (f q r).2/\val (f q r)=val q+(s:Rat)*val r) (u:s=1\/s = -1) {l m:cW} {M:Int} {b c:Nat} (d:AW l) (g:AW m) (n:Ov l M) (v:Ov m M) (bM:Bd c M) (w:∀ z∈P_ l M,Bd b z) (x:∀ z∈P_ m M,Bd b z) :
  Gq (b+1) c (trim (E8 f l m))/\(trim (E8 f l m)).length<=max l.length m.length/\∀ k,B_ (trim (E8 f l m)) k=B_ l k+(s:Rat)*B_ m k:=by
 have a:AW (E8 f l m):=λq h=>by
  obtain ⟨i,_,rfl⟩:=BM.mp h;exact (j _ _ (CZ d i).pos (CZ g i).pos).1
 have pv:∀ k,B_ (trim (E8 f l m)) k=B_ l k+(s:Rat)*B_ m k:=λk=>by
  rw [Ei a];rcases Am k (max l.length m.length) with c | c
  ·have e:AX (E8 f l m) k=f (AX l k) (AX m k):=by
    unfold E8 AX;rw [AT,Aj,DD c];rfl
   unfold B_;rw [e,(j _ _ (CZ d k).pos (CZ g k).pos).2]
  ·rw [BF (by unfold E8;rw [AO,BD];exact c),BF (l:=l) ⋯,BF (l:=m) ⋯];ext
 refine ⟨DZ (λq h=>a q (DI h)) (EE _) n.1 bM (N:=λk=>(P_ l M).getD k 0+s*(P_ m M).getD k 0) (λk=>?_) λk=>?_,?_,pv⟩
 ·rw [pv,Do d n,Do g v];push_cast;ext
 ·have o:=DJ w k;have p:=DJ x k;rcases u with z | z
  ·rw [z,Int.one_mul];exact o.add p
  ·rw [z,show (P_ l M).getD k 0 + -1*(P_ m M).getD k 0=(P_ l M).getD k 0 - (P_ m M).getD k 0 by omega];exact o.sub p
 ·refine A7 (Eh _) ?_;unfold E8;rw [AO,BD];exact AM _
def tE (h:Mz K vs H Q E):Rl K { nx:=λ_ j=>Q .non j,rt:=Q } (L2.start ["one","other"] vs) H:=by
 obtain ⟨p,q,a,b,c,d,rfl,hp,m,e,f,n,g,o,i,k⟩:=h;unfold Rl;rwa [hp,m];exact ⟨C6 n i,C6 o g,C6 g i,AV (CV e f),λr u=>by rw [JG (CV e f)];exact k r u⟩
def tF (h:Ke K vs H Q E):Rm K { nx:=λ_ j=>Q .non j,rt:=Q } (L2.start ["one","other"] vs) H:=by
 obtain ⟨p,q,a,b,c,d,rfl,hp,m,e,f,n,g,o,i,k⟩:=h;unfold Rm;rwa [hp,m];exact ⟨C6 n i,C6 o g,C6 g i,AV (CV e f),λr u=>by rw [JG (CV e f)];exact k r u⟩
def tG (h:Go K vs H Q E):Rv K { nx:=λ_ b=>Q .non b,rt:=Q } (L2.start ["P","place"] vs) H:=by
 obtain ⟨p,g,l,i,rfl,hp,a,q⟩:=h;unfold Rv;rwa [hp];have j:=a.length;refine Av (λc=>?_) (λc=>⟨sz ∅,λr d=>q _ _ (AR d _) ?_⟩)
 ·obtain ⟨v,e,f⟩:=a.at (i:=i) ⋯ (0,1);exact ⟨v,IK e,q v H (Same.refl H) f⟩
 ·rw [Mc ⋯];exact HX (q:=(0,1))
theorem K1 {l:cW} {M:Int} {b c:Nat} (a:AW l) (O:Ov l M) (bM:Bd c M) (d:∀ z∈P_ l M,Bd b z) (i:Nat):Bd (b+1) (AX l i).1/\Bd (c+1) (AX l i).2:=by
 unfold AX;rw [AT];cases e:l[i]? with
 | none=>exact ⟨C3 _,(cM (n:=1) ∅).mono ⋯⟩
 | some q=>
   have m:=Bg e;exact ⟨(Tn a O d q m).mono ⋯,(DB (AV O.1) (O.2 q m) bM).mono ⋯⟩
def tH (h:Kf K vs H Q E):Rx K { nx:=λ_ e=>Q .non e,rt:=Q } (L2.start ["P","Q"] vs) H:=by
 obtain ⟨p,q,T,U,l,m,M,b,c,rfl,hp,I,J,L,B,C,N,O,bM,n,o,b9,c9,ll,lm,k⟩:=h;unfold Rx;rwa [hp,I];have W:=J.length;have X:=L.length;rw [Ti,W,X];refine ⟨⋯,⋯,CompJ.range (λi w e=>i<=max l.length m.length/\Same H e/\Nums e w ((List.range i).map λi=>ae (AX l i) (AX m i))) ⟨Ab _,Same.refl H,trivial⟩ ?_ ?_ ?_⟩
 ·rintro i w e ⟨x,d,y⟩;exact ⟨x,sz (by rw [y.length,AO,BD];omega)⟩
 ·rintro i w e hi ⟨x,d,y⟩;rwa [];rw [show (0:Int)+(i:Int)=(i:Int) by omega];refine ⟨T,l,i,rfl,d _ _ hp,J.tp (M_ d),λv H1 g Y=>⟨U,m,i,rfl,g _ _ (d _ _ I),L.tp (M_ (d.trans g)),λu H2 z Z=>?_⟩⟩;obtain ⟨pv,rfl,D⟩:=Y.tp (M_ z);obtain ⟨pu,rfl,F⟩:=Z;have P:=K1 B N bM n i;have R:=K1 C O bM o i;refine ⟨pv,rfl,pu,rfl,_,_,D,_,_,F,(CZ B i).pos,(CZ C i).pos,P.1.mono ⋯,P.2.mono ⋯,R.1.mono ⋯,R.2.mono ⋯,λr A=>⟨⋯,((d.trans g).trans z).trans (AR A _),?_⟩⟩;rw [Tj];exact (y.tp (M_ ((g.trans z).trans (AR A _)))).append (Nums.one HX)
 ·rintro w e ⟨_,d,y⟩ a ha;rwa [];have g:=AR ha (.lst w);have j:=UO (f:=ae) (s:=-1) (λq r x S=>⟨Pt x S,by rw [UN x S];push_cast;ext⟩) (.inr rfl) B C N O bM n o;refine ⟨_,y.tp (M_ g),by rw [AO,BD];omega,λr os G z A hz=>?_⟩;exact k r _ G ((d.trans g).trans z) ⟨os,A,hz⟩ j.1 j.2.1 λk=>by have:=j.2.2 k;exact this
def JP {P A C:cW} (f:AW P) (g:Nz P) (j:AW A) (m:Nz A) (b:A≠[]) (o:AW C) (p:Nz C) (C0:C≠[]) (h:∀ k,B_ P k=cv (B_ A) (B_ C) A.length k) :
  P.length+1=A.length+C.length/\B_ P (P.length - 1)=B_ A (A.length - 1)*B_ C (C.length - 1)/\P≠[]:=by
 have v:0<A.length:=BE.mpr b;have w:0<C.length:=BE.mpr C0
 have a:∀ k,A.length+C.length - 1<=k->B_ P k=0:=λk hk=>by
  rw [h,Kw];exact KL (n:=C.length - 1) (λi a=>BF ⋯) _ _ (by rw [AO,BD];omega)
 have top:B_ P (A.length - 1+(C.length - 1))=B_ A (A.length - 1)*B_ C (C.length - 1):=by
  rw [h];obtain ⟨n,e⟩:∃ n,A.length=n+1:=⟨A.length - 1,⋯⟩;rw [e];show cv (B_ A) (B_ C) n (n+1 - 1+(C.length - 1))+_=_
  have z:cv (B_ A) (B_ C) n (n+(C.length - 1))=0:=by
   rw [Kw];exact KL (n:=C.length - 1) (λi a=>BF ⋯) _ _ (by rw [AO,BD];omega)
  rw [Ew,z,mF ⋯,show n+(C.length - 1) - n=C.length - 1 by omega,Rat.zero_add]
 have r:B_ P (A.length - 1+(C.length - 1))≠0:=by
  rw [top];intro z;rcases D6.mp z with q | q
  ·exact C7 j m b q
  ·exact C7 o p C0 q
 have x:A.length - 1+(C.length - 1)<P.length:=by
  rcases Am (A.length - 1+(C.length - 1)) P.length with c | c
  ·exact c
  ·exact absurd (BF c) r
 have d:P≠[]:=BE.mp ⋯
 have u:P.length=A.length - 1+(C.length - 1)+1:=by
  rcases Am (A.length - 1+(C.length - 1)+1) P.length with c | c
  ·exact absurd (a (P.length - 1) ⋯) (C7 f g d)
  ·omega
 exact ⟨⋯,by rw [u,Ew];exact top,d⟩
def JQ {B:cW} (a:AW B) (h:B_ B (B.length - 1)=1):AX B (B.length - 1)=(1,1):=by
 refine E9 (CZ a _) JO ?_;have:val ((1:Int),(1:Int))=1:=by unfold val;show ((1:Int):Rat) / ((1:Int):Rat)=1;rw [show ((1:Int):Rat)=1 from rfl];ext
 rw [this];exact h
def Em {B:cW} (h:AX B (B.length - 1)=(1,1)):B_ B (B.length - 1)=1:=by
 unfold B_;rw [h];unfold val;show ((1:Int):Rat) / ((1:Int):Rat)=1;rw [show ((1:Int):Rat)=1 from rfl];ext
def FF.same {H d:Hp} {p:Addr} {T B:cW} (h:FF H p T B) (s:Same H d):FF d p T B:=let ⟨u,v,a,b,c⟩:=h;⟨u,v,s _ _ a,b.same s,c.same s⟩
def UP {l a:cW} {g:de} {b c n e d:Nat} (Gl:Gq b c l) (f:AW a) (h:Nz a) (i:l.length<=n) (j:n<2 ^ e) (o:Lz g) (P:Prim g) (p:Bd d (co g (g.length - 1))) (m:MQ (co g) (co (AK l))) (q:∀ k,B_ l k=cv (B_ a) (B_ (J' g)) a.length k):Gq (d+(b+n*(2*e+4))) c a:=by
 obtain ⟨A,r,u⟩:=Nh Gl.low f Gl.clr.1 i j o P m q;exact DZ f h (Bz Gl.low).1 Gl.clr.2.1 (N:=λk=>co g (g.length - 1)*co A k) (λk=>by rw [u,Rat.div_def];push_cast;rfl) λk=>Bd.mul p (r k)
def UQ {b c:Nat} {l m:cW} (g:Gq b c l) (h:Gq b c m):∃ M,Ov l M/\Ov m M/\Bd (c+c) M/\(∀ z∈P_ l M,Bd (b+c) z)/\∀ z∈P_ m M,Bd (b+c) z:=by
 have a:∀ {l:cW} {M N:Int},AW l->Ov l M->(∀ z∈P_ l M,Bd b z)->0<N->Bd c N->Ov l (M*N)/\∀ z∈P_ l (M*N),Bd (b+c) z:=λ{l M N} y O o p d=>by
  refine ⟨⟨CV O.1 p,λq f=>GG (O.2 q f)⟩,λz r=>?_⟩;obtain ⟨q,f,rfl⟩:=BM.mp r;have e:M*N / q.2=M / q.2*N:=Int.mul_ediv_assoc' N (O.2 q f);rw [e,<-Int.mul_assoc];exact (o _ (BM.mpr ⟨q,f,rfl⟩)).mul d
 obtain ⟨M,i,bM,u⟩:=g.ov;obtain ⟨N,j,d,v⟩:=h.ov;obtain ⟨w,x⟩:=a g.low i u j.1 d;obtain ⟨k,n⟩:=a h.low j v i.1 bM;rw [Int.mul_comm N M] at k n;exact ⟨M*N,w,k,bM.mul d,x,n⟩
theorem UR:∀ A:List Rat,∃ (N:Int) (Z:de),N≠0/\A.map ((N:Rat)*·)=Z.map λz:Int=>(z:Rat)
 | []=>⟨1,[],∅,rfl⟩
 | a::A=>by
   obtain ⟨N,Z,b,h⟩:=UR A;refine ⟨(a.den:Int)*N,(a.num*N)::Z.map ((a.den:Int)*·),BK (by have:=a.den_nz;omega) b,?_⟩;rw [Dg,Dg];congr 1
   ·have h:=Rat.num_divInt_den a;rw [Rat.divInt_eq_div] at h;have d:((a.den:Int):Rat)≠0:=by have:=a.den_nz;exact_mod_cast this
    have e:((a.den:Int):Rat)=(a.den:Rat):=by push_cast;rfl
    push_cast;ext
   ·rw [List.map_map]
    have e:A.map (λx=>(((a.den:Int)*N:Int):Rat)*x)=(A.map ((N:Rat)*·)).map ((a.den:Rat)*·):=by
     rw [List.map_map];refine EQ λx _=>?_;show _=(a.den:Rat)*((N:Rat)*x);push_cast;ext
    rw [e,h,List.map_map];refine EQ λz _=>?_;show (a.den:Rat)*(z:Rat)=(((a.den:Int)*z:Int):Rat);push_cast;rfl
def CompJ.enumL {K:W.Frag} {capt:List (Option Nat)} {g:TG} {f:TE} {j:L2.St} {H:Hp} {Q:VK} {a:Addr} {xs:d7} (W:Nat->d7->Hp->Prop) (k:W 0 [] H) (c:∀ i b H,W i b H->i<=xs.length/\b.length<=sizeLine/\SqL K H a xs)
  (m:∀ i x p b H,xs[i]?=some x->W i b H->H p=none->g (.ref p) (CY capt j) (upd H p (.tup [.int i,x])) λd n=>f d n λy o=>W (i+1) (b++[y]) o) (r:∀ b H,W xs.length b H->∀ p,H p=none->Q (.ref p) (upd H p (.lst b))):CompJ (HM K a) capt g f j Q H:=by
 refine ⟨xs.length,W,k,λi b H w=>⟨(c i b H w).1,(c i b H w).2.1,?_⟩⟩;have q:SqL K H a xs:=(c i b H w).2.2;by_cases h:i<xs.length
 ·refine .inr ⟨h,⟨xs,xs[i],q,by simp [h]⟩,λx v y=>?_⟩;obtain ⟨p,u,hp,rfl,rfl,y⟩:=y;exact m i u p b _ (y xs q) w hp
 ·have e:i=xs.length:=Dz (c i b H w).1 (Nat.not_lt.mp h);subst e;exact .inl ⟨⟨xs,q,AM _⟩,r b H w⟩
def K2 (l:cW):sr l=Sr.L (rw' l):=Sr.ext' λk=>(Kx l k).symm
def AL (l:cW):Sr.Pol (sr l):=⟨_,K2 l⟩
def tI (l:cW) (g:dH):(⟨cvL (rw' l) g⟩:Sr)=sr l*⟨g⟩:=by rw [K2,Sr.L_mul]
def Db {P A C:cW} (h:∀ k,B_ P k=cv (B_ A) (B_ C) A.length k):sr P=sr A*sr C:=by
 refine Eq.trans ?_ (tI A (B_ C));exact Sr.ext' λk=>(h k).trans (Ky _ _ _)
def B4 {l:cW} (a:AW l) (b:Nz l) (c:l≠[]):sr l≠0:=λz=>C7 a b c (by
 have:=mQ (congrArg Sr.c z) (l.length - 1);rw [Sr.zero_c] at this;exact this)
def US {l m:cW} (a:AW l) (b:AW m) (n1:Nz l) (c:Nz m) (h:sr l=sr m):l=m:=QM a b n1 c λk=>mQ (congrArg Sr.c h) k
def FJ (k:Nat):(1:Sr).c k=Ai k:=by show ((1:Nat):Rat)*Ai k=_;push_cast;ext
def sr_cop {T B:cW}:Cop (B_ T) (B_ B)↔Sr.Cs (sr T) (sr B):=by
 constructor
 ·rintro ⟨U,W,e⟩;refine ⟨Sr.L U,Sr.L W,Sr.Pol.L _,Sr.Pol.L _,?_⟩;rw [Sr.L_mul,Sr.L_mul];exact Sr.ext' λk=>by rw [FJ,e k];rfl
 ·rintro ⟨_,_,⟨U,rfl⟩,⟨W,rfl⟩,e⟩;refine ⟨U,W,λk=>?_⟩;rw [Sr.L_mul,Sr.L_mul] at e;have:=mQ (congrArg Sr.c e) k;rw [FJ] at this;exact this.symm
def tJ (h:JB K vs H Q E):Rw K { nx:=λ_ e=>Q .non e,rt:=Q } (L2.start ["P","Q"] vs) H:=by
 obtain ⟨p,q,T,U,l,m,M,b,c,rfl,hp,I,J,L,B,C,N,O,bM,n,o,b9,c9,ll,lm,k⟩:=h;unfold Rw;rwa [hp,I];have W:=J.length;have X:=L.length;rw [Ti,W,X];refine ⟨⋯,⋯,CompJ.range (λi w e=>i<=max l.length m.length/\Same H e/\Nums e w ((List.range i).map λi=>aa (AX l i) (AX m i))) ⟨Ab _,Same.refl H,trivial⟩ ?_ ?_ ?_⟩
 ·rintro i w e ⟨x,d,y⟩;exact ⟨x,sz (by rw [y.length,AO,BD];omega)⟩
 ·rintro i w e hi ⟨x,d,y⟩;rwa [];rw [show (0:Int)+(i:Int)=(i:Int) by omega];refine ⟨T,l,i,rfl,d _ _ hp,J.tp (M_ d),λv H1 g Y=>⟨U,m,i,rfl,g _ _ (d _ _ I),L.tp (M_ (d.trans g)),λu H2 z Z=>?_⟩⟩;obtain ⟨pv,rfl,D⟩:=Y.tp (M_ z);obtain ⟨pu,rfl,F⟩:=Z;have P:=K1 B N bM n i;have R:=K1 C O bM o i;refine ⟨pv,rfl,pu,rfl,_,_,D,_,_,F,(CZ B i).pos,(CZ C i).pos,P.1.mono ⋯,P.2.mono ⋯,R.1.mono ⋯,R.2.mono ⋯,λr A=>⟨⋯,((d.trans g).trans z).trans (AR A _),?_⟩⟩;rw [Tj];exact (y.tp (M_ ((g.trans z).trans (AR A _)))).append (Nums.one HX)
 ·rintro w e ⟨_,d,y⟩ a ha;rwa [];have g:=AR ha (.lst w);have j:=UO (f:=aa) (s:=1) (λq r x S=>⟨Zo x S,by rw [QJ x S];ext⟩) (.inl rfl) B C N O bM n o;refine ⟨_,y.tp (M_ g),by rw [AO,BD];omega,λr os G z A hz=>?_⟩;exact k r _ G ((d.trans g).trans z) ⟨os,A,hz⟩ j.1 j.2.1 λk=>by have:=j.2.2 k;exact this
theorem JR (p:dF):∀ (w:de) (k:Nat),((cvL w p k:Int):Rat)=cvL (w.map λz:Int=>(z:Rat)) (λk=>(p k:Rat)) k
 | [],_=>rfl
 | x::w,0=>by rw [At];show _=(x:Rat)*(p 0:Rat)+0;push_cast;rfl
 | x::w,k+1=>by rw [Ak];show _=(x:Rat)*(p (k+1):Rat)+cvL (w.map λz:Int=>(z:Rat)) (λk=>(p k:Rat)) k;rw [<-JR p w k];push_cast;rfl
def Dc (ns:de):si ns=Sr.L (ns.map λz:Int=>(z:Rat)):=Sr.ext' λk=>by
 show ((co ns k:Int):Rat)=cvL _ Ai k;rw [Co];unfold co;rw [AT,AT,Aj];cases ns[k]? <;> rfl
def Dd (ns:de):Sr.Pol (si ns):=⟨_,Dc ns⟩
def tK {ns a b:de} (h:∀ k,co ns k=cvL a (co b) k):si ns=si a*si b:=by
 rw [Dc a,Sr.L_mul];refine Sr.ext' λk=>?_;show ((co ns k:Int):Rat)=cvL _ (λk=>((co b k:Int):Rat)) k;rw [h k,JR]
def K3 {ns:de} (h:Lz ns):si ns≠0:=λz=>h.2 (by
 have:=mQ (congrArg Sr.c z) (ns.length - 1);rw [Sr.zero_c] at this;have this:((co ns (ns.length - 1):Int):Rat)=0:=this;exact_mod_cast this)
def tL (ns:de):Sr.Bn (si ns) ns.length:=λk hk=>by
 show ((co ns k:Int):Rat)=0;rw [Af hk];rfl
def Fz {g:Int} (a:de):si (a.map (g*·))=Sr.num (g:Rat)*si a:=Sr.ext' λk=>by
 rw [Sr.num_mul];show ((co (a.map (g*·)) k:Int):Rat)=(g:Rat)*((co a k:Int):Rat)
 have e:co (a.map (g*·)) k=g*co a k:=by
  unfold co;rw [AT,AT,Aj];cases a[k]? with
  | none=>simp
  | some z=>rfl
 rw [e];push_cast;rfl
namespace Sr
def num_num (x y:Rat):num x*num y=num (x*y):=ext' λk=>by
 rw [num_mul];show x*(y*Ai k)=x*y*Ai k;ext
def num_one:num 1=1:=congrArg num (show (1:Rat)=((1:Nat):Rat) by push_cast;rfl)
def num_inv {x:Rat} (h:x≠0):num x⁻¹*num x=1:=by
 rw [num_num,Rat.inv_mul_cancel _ h];exact num_one
end Sr
def tM {x:Rat} (h:x≠0):x⁻¹≠0:=λz=>by
 have:=Rat.inv_mul_cancel _ h;rw [z] at this;ext
def UT {g f:de} (m:MQ (co g) (co f)):∃ B,Sr.Pol B/\si f=B*si g:=by
 obtain ⟨c,a,A,h⟩:=m;have b:=Aa a;refine ⟨Sr.num ((c:Rat)⁻¹)*si A,(Sr.Pol.num _).mul (Dd A),?_⟩
 have e:Sr.num (c:Rat)*si f=si A*si g:=by
  rw [<-Fz];refine tK λk=>?_;rw [<-h k];unfold co;rw [AT,AT,Aj];cases f[k]? with
  | none=>simp
  | some z=>rfl
 have i:=Sr.num_inv b;have:si f=Sr.num ((c:Rat)⁻¹)*Sr.num (c:Rat)*si f:=by rw [i];ext
 rw [this,show Sr.num ((c:Rat)⁻¹)*Sr.num (c:Rat)*si f=Sr.num ((c:Rat)⁻¹)*(Sr.num (c:Rat)*si f) by ext,e];ext
def tO {r o g:de} (R:RC (co r) (co o) g) {A B:Sr} (a:Sr.Pol A) (b:Sr.Pol B) (c:si r=A*si g) (f:si o=B*si g):Sr.Cs A B:=by
 obtain ⟨d,i,U,W,h⟩:=R.qi
 have e:Sr.num (d:Rat)*si g=si U*si r+si W*si o:=by
  rw [Dc U,Dc W,Sr.L_mul,Sr.L_mul];refine Sr.ext' λk=>?_;rw [Sr.num_mul];show (d:Rat)*((co g k:Int):Rat)=cvL _ (λk=>((co r k:Int):Rat)) k+cvL _ (λk=>((co o k:Int):Rat)) k;rw [<-JR,<-JR];exact_mod_cast h k
 have j:Sr.num (d:Rat)=si U*A+si W*B:=Sr.cancel (Sr.Pol.num _) (((Dd U).mul a).add ((Dd W).mul b)) (Dd g) (K3 R.lz) (by rw [e,c,f];ext);exact Sr.Cs.of_unit (Aa i) rfl (Dd U) (Dd W) j.symm
def DvI (a g:de):Prop:=∃ A:de,∀ k,co a k=cvL A (co g) k
def DvI.len {a g:de} (h:DvI a g) (b:Lz a) (c:Lz g):g.length<=a.length:=Fv c b (by
 obtain ⟨A,d⟩:=h;exact ⟨1,∅,A,λk=>by rw [Int.one_mul];exact d k⟩)
def Ni {ns:de} (h:Lz ns):sr (J' ns)=Sr.num ((co ns (ns.length - 1):Rat))⁻¹*si ns:=Sr.ext' λk=>by
 rw [Sr.num_mul];exact EH h k
def En {l:cW} (h:AW l):sr l=Sr.num ((Ac l:Rat))⁻¹*si (AK l):=Sr.ext' λk=>by
 rw [Sr.num_mul];exact EG h k
def Y_ {x y:Rat} (a:x≠0) (b:y≠0):x*y≠0:=λz=>by
 rcases D6.mp z with z | z
 ·exact a z
 ·exact b z
def tP (l:cW):Sr.Bn (sr l) l.length:=λk hk=>BF hk
structure Mon (b:Nat) (R:cW):Prop where
 gq:Gq b b R
 ne:R≠[]
 one:AX R (R.length - 1)=(1,1)
def Mon.top {b:Nat} {R:cW} (h:Mon b R):(sr R).c (R.length - 1)=1/\Sr.Bn (sr R) (R.length - 1+1):=by
 have:=BE.mpr h.ne;exact ⟨Em h.one,by rw [Nat.sub_add_cancel this];exact tP R⟩
def tQ {R:cW} {Y:Sr} {n:Nat} (f:AW R) (g:Nz R) (e:sr R=Y) (i:Y.c n≠0) (j:Sr.Bn Y (n+1)):R≠[]/\R.length=n+1/\B_ R (R.length - 1)=Y.c n:=by
 have a:B_ R n=Y.c n:=mQ (congrArg Sr.c e) n
 have b:n<R.length:=by
  rcases Am n R.length with h | h
  ·exact h
  ·exact absurd (a.symm.trans (BF h)) i
 have c:R≠[]:=λz=>by rw [z] at b;simp at b
 have d:R.length=n+1:=by
  rcases Am (n+1) R.length with h | h
  ·have z:=C7 f g c;exact absurd ((mQ (congrArg Sr.c e) (R.length - 1)).trans (j _ ⋯)) z
  ·omega
 exact ⟨c,d,by rw [d];exact a⟩
theorem UU:∀ (n:Nat) (D:de),Lz D->(co D (D.length - 1)).natAbs<=n->∃ (g:Int) (P:de),g≠0/\D=P.map (g*·)/\Prim P/\Lz P/\P.length=D.length:=by
 intro n
 induction n with
 | zero=>intro D l h;exact absurd (Int.natAbs_eq_zero.mp ⋯) l.2
 | succ n p=>
   intro D l h;by_cases d:Prim D
   ·exact ⟨1,D,∅,by simp,d,l,rfl⟩
   ·obtain ⟨c,f⟩:=Classical.not_forall.mp d;have a:∀ k,c∣co D k:=Classical.byContradiction λz=>f λy=>absurd y z;have q:c.natAbs≠1:=λz=>f λ_=>z;have j:c≠0:=λz=>l.2 (by have:=a (D.length - 1);rw [z] at this;exact Int.zero_dvd.mp this)
    have e:D=(D.map (·/ c)).map (c*·):=by
     rw [List.map_map];refine (List.map_id D).symm.trans (EQ λz r=>?_);obtain ⟨i,u,rfl⟩:=GH r;have:=a i;unfold co at this;rw [AT,Ax u] at this;exact (GK this).symm
    have b:(D.map (·/ c)).length=D.length:=AO ..
    have m:∀ k,co D k=c*co (D.map (·/ c)) k:=λk=>by
     have:=mQ (congrArg Sr.c (Fz (g:=c) (D.map (·/ c)))) k;rw [<-e,Sr.num_mul] at this;have this:((co D k:Int):Rat)=(c:Rat)*((co (D.map (·/ c)) k:Int):Rat):=this;exact_mod_cast this
    have o:Lz (D.map (·/ c)):=⟨by rw [b];exact l.1,λz=>l.2 (by rw [b] at z;rw [m,z,Int.mul_zero])⟩
    have sm:(co (D.map (·/ c)) ((D.map (·/ c)).length - 1)).natAbs<=n:=by
     have v:=m (D.length - 1);rw [b];rw [v,BN] at h;have F:(co (D.map (·/ c)) (D.length - 1)).natAbs≠0:=λz=>o.2 (by rw [b];exact Int.natAbs_eq_zero.mp z);have w:2<=c.natAbs:=by have:=Int.natAbs_pos.mpr j;omega
     have:=BW (co (D.map (·/ c)) (D.length - 1)).natAbs w;omega
    obtain ⟨g,P,x,A,B,C,ll⟩:=p _ o sm;refine ⟨c*g,P,BK j x,?_,B,C,⋯⟩;rw [e,A,List.map_map];refine EQ λz _=>?_;show c*(g*z)=c*g*z;ext
theorem UV:∀ a:List Rat,∃ c:Int,c≠0/\∃ A:de,∀ k,(c:Rat)*a.getD k 0=((A.getD k 0:Int):Rat)
 | []=>⟨1,∅,[],λk=>by simp⟩
 | x::a=>by
   obtain ⟨c,d,A,h⟩:=UV a;have b:((x.den:Int))≠0:=by have:=x.den_pos;omega
   have f:(x.den:Rat)*x=(x.num:Rat):=by
    have g:(x.num:Rat) / ((x.den:Int):Rat)=x:=(Rat.divInt_eq_div x.num (x.den:Int)).symm.trans (Rat.num_divInt_den x);have i:=Aa b;have j:((x.den:Int):Rat)=(x.den:Rat):=rfl;rw [j] at g i;ext
   refine ⟨c*x.den,BK d b,(c*x.num)::A.map (λz=>(x.den:Int)*z),λk=>?_⟩;cases k with
   | zero=>
     show ((c*x.den:Int):Rat)*x=((c*x.num:Int):Rat);push_cast;rw [Rat.mul_assoc,f]
   | succ k=>
     show ((c*x.den:Int):Rat)*a.getD k 0=(((A.map λz=>(x.den:Int)*z).getD k 0:Int):Rat)
     have e:(A.map λz=>(x.den:Int)*z).getD k 0=(x.den:Int)*A.getD k 0:=by
      rw [AT,AT,Aj];cases A[k]? <;> simp
     rw [e];have:=h k;push_cast at this ⊢;ext
def JS {f g:de} {Y:Sr} (d:Sr.Pol Y) (e:si f=Y*si g):MQ (co g) (co f):=by
 obtain ⟨a,rfl⟩:=d;obtain ⟨c,i,A,h⟩:=UV a;refine ⟨c,i,A,λk=>?_⟩
 have m:si A=Sr.num (c:Rat)*Sr.L a:=Sr.ext' λj=>by
  rw [Sr.num_mul];show ((A.getD j 0:Int):Rat)=(c:Rat)*cvL a Ai j;rw [Co];exact (h j).symm
 have b:Sr.num (c:Rat)*si f=si A*si g:=by rw [e,m];ext
 rw [Dc A,Sr.L_mul] at b;have:=mQ (congrArg Sr.c b) k;rw [Sr.num_mul] at this;have this:(c:Rat)*((co f k:Int):Rat)=cvL (A.map λz:Int=>(z:Rat)) (λk=>((co g k:Int):Rat)) k:=this;rw [<-JR] at this;exact_mod_cast this
def UW {l:cW} (a:AW l) (b:Nz l) (c:l≠[]):∃ (x:Rat) (P:de),x≠0/\sr l=Sr.num x*si P/\Prim P/\Lz P/\P.length=l.length:=by
 have d:Lz (AK l):=DY (FI a b) (λz=>c (B6.mp (by rw [<-Bf,z];rfl)));obtain ⟨g,P,f,e,h,i,j⟩:=UU _ _ d (AM _);refine ⟨((Ac l:Rat))⁻¹*(g:Rat),P,Y_ (tM (Aa (AV (Bz a).1))) (Aa f),?_,h,i,by rw [j,Bf]⟩;rw [En a,e,Fz,<-Sr.num_num];ext
def UX {P:de} {d:Nat} (b:Lz P) (e:∀ k,Bd d (co P k)):Mon d (J' P):=by
 have a:=b.2;refine ⟨DZ (Hw b) (JM b) (M:=((co P (P.length - 1)).natAbs:Int)) ⋯ ?_ (N:=λk=>if 0<co P (P.length - 1) then co P k else - co P k) (λk=>?_) (λk=>?_),?_,?_⟩
 ·show ((co P (P.length - 1)).natAbs:Int).natAbs<2 ^ d;rw [Cl];exact e _
 ·rw [Ku b];by_cases c:0<co P (P.length - 1)
  ·rw [mF c,Int.natAbs_of_nonneg ⋯]
  ·rw [mE c,show ((co P (P.length - 1)).natAbs:Int) = - co P (P.length - 1) by omega];have f:=Aa a;push_cast;ext
 ·split
  ·exact e k
  ·exact (e k).neg
 ·intro z;have g:(J' P).length=0:=by rw [z];rfl
  rw [Du] at g;have:=b.1;omega
 ·refine E9 (CZ (Hw b) _) ⟨∅,∅⟩ ?_;show B_ (J' P) _=_;rw [Du,Ku b];have f:=Aa a;unfold val;show _=((1:Int):Rat) / ((1:Int):Rat);push_cast;ext
def tR {c:Nat} {p q:cW} {x:Rat} (d:AW p) (f:Nz p) (m:p≠[]) (g:AX p (p.length - 1)=(1,1)) (b:Mon c q) (h:x≠0) (e:sr p=Sr.num x*sr q):p=q:=by
 have t:(Sr.num x*sr q).c (q.length - 1)=x:=by rw [Sr.num_mul,b.top.1];ext
 have i:Sr.Bn (Sr.num x*sr q) (q.length - 1+1):=λk hk=>by rw [Sr.num_mul,b.top.2 k hk];ext
 obtain ⟨_,len,a⟩:=tQ d f e (by rw [t];exact h) i;have j:x=1:=by rw [<-t,<-a,Em g]
 rw [j,Sr.num_one] at e;exact US d b.gq.low f b.gq.nz (by rw [e];ext)
def UY {R:de} {Y:Sr} {n:Nat} (l:Lz R) (e:si R=Y) (c:Y.c n≠0) (d:Sr.Bn Y (n+1)):R.length=n+1/\((co R (R.length - 1):Int):Rat)=Y.c n:=by
 have a:((co R n:Int):Rat)=Y.c n:=mQ (congrArg Sr.c e) n
 have f:n<R.length:=by
  rcases Am n R.length with h | h
  ·exact h
  ·rw [Af h] at a;exact absurd a.symm c
 have b:R.length=n+1:=by
  rcases Am (n+1) R.length with h | h
  ·have z:((co R (R.length - 1):Int):Rat)=0:=(mQ (congrArg Sr.c e) (R.length - 1)).trans (d _ ⋯);exact absurd (by exact_mod_cast z) l.2
  ·omega
 exact ⟨b,by rw [b];exact a⟩
def UZ {T B:cW} {N D:de} {b n e:Nat} (h:Lw T B) (g:Lz D) (tN:Tz N) (R:∀ z∈N,Bd b z) (S:∀ z∈D,Bd b z) (n1:N.length<=n) (n2:D.length<=n) (X:n<2 ^ e) (Z:sr T*si D=si N*sr B) :
  Gq (b+(b+n*(2*e+4))) (b+(b+n*(2*e+4))) T/\Gq (b+n*(2*e+4)) (b+n*(2*e+4)) B/\T.length<=N.length/\B.length<=D.length:=by
 obtain ⟨U,W,pU,pW,h1⟩:=h.cs
 have o:si D=(U*si N+W*si D)*sr B:=by
  have:si D=(U*sr T+W*sr B)*si D:=by rw [h1];ext
  calc si D=(U*sr T+W*sr B)*si D:=this
   _=U*(sr T*si D)+W*sr B*si D:=by ext
   _=_:=by rw [Z];ext
 generalize hY:U*si N+W*si D=Y at o;have p:Sr.Pol Y:=by rw [<-hY];exact (pU.mul (Dd N)).add (pW.mul (Dd D))
 obtain ⟨x,P,x0,eB,pP,i,pl⟩:=UW h.lb h.nb h.ne;obtain ⟨A,hA⟩:=T_ pP (JS (p.mul (Sr.Pol.num x)) (show si D=Y*Sr.num x*si P by rw [o,eB];ext));have gl:P.length<=D.length:=DvI.len ⟨A,hA⟩ g i;have bP:∀ k,Bd (b+n*(2*e+4)) (co P k):=JH S ⟨_,g.2⟩ n2 ⋯ X hA
 have hB:B=J' P:=by
  have mB:Mon (b+n*(2*e+4)) (J' P):=UX i bP;have x1:x*(co P (P.length - 1):Rat)≠0:=Y_ x0 (Aa i.2);refine tR h.lb h.nb h.ne h.one mB x1 ?_;rw [eB,Ni i,<-Sr.num_num]
  have iP:Sr.num (co P (P.length - 1):Rat)*Sr.num ((co P (P.length - 1):Rat))⁻¹=1:=by
   have:=Sr.num_inv (Aa i.2);ext
  ext
 have C:Gq (b+n*(2*e+4)) (b+n*(2*e+4)) B:=by rw [hB];exact (UX i bP).gq
 have lB:B.length<=D.length:=by rw [hB,Du];exact gl
 have B0:=B4 h.lb h.nb h.ne
 have F:si N=Y*sr T:=by
  refine Sr.cancel (Dd N) (p.mul (AL T)) (AL B) B0 ?_;rw [<-Z,show sr T*si D=sr T*(Y*sr B) from congrArg _ o];ext
 by_cases G:T=[]
 ·subst G;refine ⟨⟨h.lt,h.nt,1,⟨∅,(λ_ h=>nomatch h)⟩,cM (by show 1<2 ^ _;exact Nat.one_lt_two_pow (by have:=g.1;have:0<n*(2*e+4):=Nat.mul_pos ⋯ ⋯;omega)),(λ_ h=>nomatch h)⟩,C,Ab _,lB⟩
 have D0:=K3 g;have Y0:Y≠0:=λz=>D0 (by rw [o,z];ext);have TT:=B4 h.lt h.nt G;have N0:si N≠0:=by rw [F];exact Sr.ne_mul p (AL T) Y0 TT
 have Nn:N≠[]:=λz=>N0 (by rw [z,Dc []];exact Sr.L_nil);have I:Lz N:=DY tN Nn;obtain ⟨y,a,y0,J,pQ,v,ql⟩:=UW h.lt h.nt G;obtain ⟨A2,u⟩:=T_ pQ (JS (p.mul (Sr.Pol.num y)) (show si N=Y*Sr.num y*si a by rw [F,J];ext));have a0:a.length<=N.length:=DvI.len ⟨A2,u⟩ I v;have bQ:∀ k,Bd (b+n*(2*e+4)) (co a k):=JH R ⟨_,I.2⟩ n1 ⋯ X u;obtain ⟨m,hm⟩:=p.bn;rcases Sr.top_ex m hm with z | ⟨j,_,j0,jb⟩
 ·exact absurd z Y0
 have MB:Mon (b+n*(2*e+4)) B:=⟨C,h.ne,h.one⟩;have w:=Sr.top_mul jb MB.top.2;rw [MB.top.1] at w;obtain ⟨_,dD⟩:=UY g o (n:=j+(B.length - 1)) (by rw [w.1];intro z;exact j0 ()) w.2;rw [w.1] at dD;have L:Sr.Bn (si a) (a.length - 1+1):=by rw [Nat.sub_add_cancel v.1];exact tL a
 have d:=Sr.top_mul (f:=Y*Sr.num y) (m:=j) (λk hk=>by rw [show Y*Sr.num y=Sr.num y*Y by ext,Sr.num_mul,jb k hk];ext) L;have cY:(Y*Sr.num y).c j=y*Y.c j:=by rw [show Y*Sr.num y=Sr.num y*Y by ext,Sr.num_mul]
 rw [cY] at d;have O:(si a).c (a.length - 1)=(co a (a.length - 1):Rat):=rfl;rw [O] at d;have q1:=Aa v.2;obtain ⟨_,dN⟩:=UY I (show si N=Y*Sr.num y*si a by rw [F,J];ext) (n:=j+(a.length - 1)) (by rw [d.1];exact Y_ (Y_ y0 j0) q1) d.2;rw [d.1] at dN;have d1:=Aa g.2;have mz:co D (D.length - 1)*co a (a.length - 1)≠0:=BK g.2 v.2;have bm:Bd (b+(b+n*(2*e+4))) (co D (D.length - 1)*co a (a.length - 1)):=Bd.mul (Dt S _) (bQ _);have bt:∀ k,Bd (b+(b+n*(2*e+4))) (co N (N.length - 1)*co a k):=λk=>Bd.mul (Dt R _) (bQ k)
 have pT:∀ k,B_ T k=((co N (N.length - 1)*co a k:Int):Rat) / ((co D (D.length - 1)*co a (a.length - 1):Int):Rat):=λk=>by
  have e1:B_ T k=y*((co a k:Int):Rat):=by
   have:=mQ (congrArg Sr.c J) k;rw [Sr.num_mul] at this;exact this
  rw [e1];push_cast;rw [dN,dD];generalize ((co a (a.length - 1):Int):Rat)=q at *;generalize ((co a k:Int):Rat)=r at *;ext
 refine ⟨DZ h.lt h.nt (M:=((co D (D.length - 1)*co a (a.length - 1)).natAbs:Int)) ⋯ ?_ (N:=λk=>if 0<co D (D.length - 1)*co a (a.length - 1) then co N (N.length - 1)*co a k else - (co N (N.length - 1)*co a k)) (λk=>?_) (λk=>?_),C,⋯,lB⟩
 ·show ((co D (D.length - 1)*co a (a.length - 1)).natAbs:Int).natAbs<2 ^ _;rw [Cl];exact bm
 ·rw [pT k];generalize co D (D.length - 1)*co a (a.length - 1)=M at *;generalize co N (N.length - 1)*co a k=r at *;by_cases c:0<M
  ·rw [mF c,Int.natAbs_of_nonneg ⋯]
  ·rw [mE c,show (M.natAbs:Int) = - M by omega];have c1:=Aa mz;push_cast;ext
 ·split
  ·exact bt k
  ·exact (bt k).neg
def Hy {T B:cW} {N D:Sr} (h:Lw T B) (a:Sr.Pol N) (b:Sr.Pol D) (c:sr T*D=N*sr B):∃ Y,Sr.Pol Y/\D=Y*sr B/\N=Y*sr T:=by
 obtain ⟨U,W,d,e,g⟩:=h.cs
 have f:D=(U*N+W*D)*sr B:=by
  have:D=(U*sr T+W*sr B)*D:=by rw [g];ext
  calc D=(U*sr T+W*sr B)*D:=this
   _=U*(sr T*D)+W*sr B*D:=by ext
   _=_:=by rw [c];ext
 refine ⟨U*N+W*D,(d.mul a).add (e.mul b),f,?_⟩;refine Sr.cancel a (((d.mul a).add (e.mul b)).mul (AL T)) (AL B) (B4 h.lb h.nb h.ne) ?_;rw [<-c,show sr T*D=sr T*((U*N+W*D)*sr B) from congrArg _ f];ext
def Nj {l:cW} {N:de} {Y:Sr} {b n e:Nat} (f:AW l) (c:Lz N) (h:∀ z∈N,Bd b z) (i:N.length<=n) (j:n<2 ^ e) (k:Sr.Pol Y) (m:si N=Y*sr l):Fp (b+n*(2*e+4)) (AK l):=λg o p q=>by
 obtain ⟨r,a,u⟩:=UT q;obtain ⟨A,d⟩:=T_ p (JS ((k.mul (Sr.Pol.num _)).mul a) (show si N=Y*Sr.num ((Ac l:Rat))⁻¹*r*si g by rw [m,En f,u];ext));have v:g.length<=N.length:=DvI.len ⟨A,d⟩ c o;exact JH h ⟨_,c.2⟩ i ⋯ j d
def Fp.mono {x y:Nat} {ns:de} (h:Fp x ns) (e:x<=y):Fp y ns:=λg a b c k=>(h g a b c k).mono e
def JT {l:cW} (a:AW l) (b:Nz l) (c:l≠[]):Lz (AK l):=DY (FI a b) λz=>c (B6.mp (by rw [<-Bf,z];rfl))
def Ua {b c n e:Nat} {l:cW} (G:Gq b c l) (f:l≠[]) (h:l.length<=n) (i:n<2 ^ e):Fp (b+n*(2*e+4)) (AK l):=λg j k a=>by
 have d:=JT G.low G.nz f;obtain ⟨A,m⟩:=T_ k a;have o:g.length<=l.length:=by have:=Fv j d a;rw [Bf] at this;exact this
 exact JH G.clr.1 ⟨_,d.2⟩ (by rw [Bf];exact h) ⋯ i m
def K4 {x:Nat} {l m:cW} {Y:Sr} (c:AW l) (b:AW m) (d:Sr.Pol Y) (e:sr m=Y*sr l) (h:Fp x (AK m)):Fp x (AK l):=λg f j k=>by
 obtain ⟨q,a,n⟩:=UT k;refine h g f j (JS (((Sr.Pol.num (Ac m:Rat)).mul d).mul ((Sr.Pol.num ((Ac l:Rat))⁻¹).mul a)) ?_);have i:=Sr.num_inv (Aa (AV (Bz b).1));have o:=En b;have p:si (AK m)=Sr.num (Ac m:Rat)*sr m:=by rw [o];ext
 rw [p,e,En c,n];ext
def Rp.facts {b n m e:Nat} {T B:cW} (h:Rp b n m T B) (o:n<2 ^ e) (p:m<2 ^ e) :
  Gq (b+(b+max n m*(2*e+4))) (b+(b+max n m*(2*e+4))) T/\Gq (b+max n m*(2*e+4)) (b+max n m*(2*e+4)) B/\T.length<=n/\B.length<=m/\(T≠[]->Fp (b+n*(2*e+4)) (AK T))/\Fp (b+m*(2*e+4)) (AK B):=by
 obtain ⟨N,D,a,d,f,g,nN,q,i⟩:=h.rp;obtain ⟨r,u,x,y⟩:=UZ h.lw a d f g (show N.length<=max n m by omega) (show D.length<=max n m by omega) (show max n m<2 ^ e by omega) i;obtain ⟨Y,c,j,k⟩:=Hy h.lw (Dd N) (Dd D) i;refine ⟨r,u,⋯,⋯,λv=>?_,Nj h.lw.lb a g q p c j⟩;refine Nj h.lw.lt (DY d λz=>?_) f nN o c k;have w:Y≠0:=λz=>K3 a (by rw [j,z];ext);have:=Sr.ne_mul c (AL T) w (B4 h.lw.lt h.lw.nt v);exact this (by rw [<-k,z,Dc []];exact Sr.L_nil)
def C0.dd {x n m e:Nat} (h:C0 x n m e):x*2<=44490/\∀ y,y<=n+m->y*(x+1)<=44490/\y*x<=44490:=by
 have c:=h.lu;have n1:=h.n1;have d:=h.m1
 have k:∀ y,y<=n+m->y*(x+1)<=44490/\y*x<=44490:=λy a=>by
  have b:y*(x+1)<=(n+m)*(x+e+2):=Be a ⋯;have f:y*x<=y*(x+1):=CS _ ⋯;rw [B5 (n+m)] at b;omega
 exact ⟨by have:=(k 2 ⋯).2;omega,k⟩
def C0.ml {x n m e:Nat} (h:C0 x n m e):max n m<2 ^ e/\max n m*(2*e+4)<=960:=by
 have:=h.ne;have:=h.me;have:=h.n60;have:=h.m60;have:=h.e6;have:max n m*(2*e+4)<=60*16:=Be ⋯ ⋯;exact ⟨⋯,this⟩
def K5 {m:cW} {g:de} {x:Nat} (e:AW m) (f:Nz m) (h:m≠[]) (F:Fp x (AK m)) (a:Lz g) (c:MQ (co g) (co (AK m))) (P:Prim g) :
  Gq x x (J' g)/\J' g≠[]/\(J' g).length<=m.length/\MR (B_ (J' g)) (B_ m)/\(∀ k,Bd x (co g k))/\B_ (J' g) ((J' g).length - 1)=1:=by
 have d:=JT e f h;have i:g.length<=m.length:=by have:=Fv a d c;rw [Bf] at this;exact this
 have b:=F g a P c;refine ⟨⟨Hw a,JM a,_,(JN a.2 (Hv b)).1,(b (g.length - 1)).le ⋯,(JN a.2 (Hv b)).2⟩,BE.mp (by rw [Du];exact a.1),by rw [Du];exact i,MR.of (Fw a) (EG e) (EH a) c,b,Em ?_⟩;rw [Du];exact UE a
def tS (h:FE K vs H Q E):xQ K { nx:=λ_ H'=>Q .non H',rt:=Q } (L2.start ["P","Q","shared"] vs) H:=by
 obtain ⟨p,q,l,m,b,D,n,J,e,rfl,⟨xs,hp,hN⟩,⟨ys,j,hM⟩,Gl,x,m0,ln,mn,ab,Y,Z,b9,k⟩:=h;obtain ⟨D9,zz⟩:=Z.dd;obtain ⟨a0,b7⟩:=Z.ml;have ba:=Z.n60;have bb:=Z.m60;have bc:=Z.n1;have bd:=Z.m1;have bf:=Z.ne;have bi:=Z.me;refine BJ (Ag (AU rfl (AU rfl (NK (SqT.of hp) j (NuK.of hN) hM Gl x ⋯ ⋯ ⋯ ⋯ (λl0 _=>⟨ab l0,Y⟩) (d:=e) (by rw [CU];omega) (N:=n+J) ⋯ ⋯ Z.lu (λ_ z=>absurd z m0) λ_ g R P r zs H1 s1 hr hz=>?_))));have o:=R.lz;have ac:Lz (AK m):=DY (FI x.low x.nz) λz=>m0 (B6.mp (by rw [<-Bf,z];rfl));have gl:g.length<=m.length:=by have:=Fv o ac R.right;rwa [Bf] at this
 have bg:=Y g o P R.right;have Gg:Gq D D (J' g):=⟨Hw o,JM o,_,(JN o.2 (Hv bg)).1,(bg (g.length - 1)).le ⋯,(JN o.2 (Hv bg)).2⟩;have g0:J' g≠[]:=BE.mp (by rw [Du];exact o.1);have M1:MR (B_ (J' g)) (B_ l):=MR.of (Fw o) (EG Gl.low) (EH o) R.left;have M2:MR (B_ (J' g)) (B_ m):=MR.of (Fw o) (EG x.low) (EH o) R.right;have ad:=s1 _ _ hp;have bl:0<(J' g).length:=BE.mpr g0;have e1:=(zz (l.length+1 - (J' g).length) ⋯).1;have e2:=(zz (l.length+1 - (J' g).length) ⋯).2;refine CA (Ag (Ag (AU rfl (AU rfl (Hr (SqT.of ad) hr (NuK.of (hN.tp (M_ s1))) hz Gl Gg g0 ⋯ (by rw [Du];omega) ⋯ ⋯ ⋯ ⋯ M1 λr0 w H2 s2 ⟨aj,h0,n0⟩ y al L S=>?_)))));obtain ⟨A0,am,an⟩:=Nh Gl.low y Gl.clr.1 (show l.length<=max n J by omega) a0 o P R.left S;have G0:Gq (D+(b+max n J*(2*e+4))) b w:=DZ y al (Bz Gl.low).1 Gl.clr.2.1 (N:=λk=>co g (g.length - 1)*co A0 k) (λk=>by rw [an,Rat.div_def];push_cast;rfl) λk=>Bd.mul (bg _) (am k)
 have F:∀ q∈w,Bd (D+(b+max n J*(2*e+4))) q.1/\Bd b q.2:=λq j=>⟨G0.clr.2.2 q j,by
  obtain ⟨M,O,bM,_⟩:=G0.ov;exact DB (AV O.1) (O.2 q j) bM⟩
 have X:=s1.trans s2;have ao:=X _ _ j;have ar:=s2 _ _ hr;have e1:=(zz (m.length+1 - (J' g).length) ⋯).1;have e2:=(zz (m.length+1 - (J' g).length) ⋯).2;refine Ag (AU rfl (AU rfl (Hr (SqT.of ao) ar (NuK.of (hM.tp (M_ X))) (hz.tp (M_ s2)) x Gg g0 ⋯ (by rw [Du];omega) ⋯ ⋯ ⋯ ⋯ M2 λr1 f H3 s3 ⟨b0,h1,n1⟩ A a1 b1 C=>?_)));obtain ⟨A1,b2,b3⟩:=Nh x.low A x.clr.1 (show m.length<=max n J by omega) a0 o P R.right C
 have a2:f≠[]:=λz=>by
  have:=C (m.length - 1);rw [z] at this;exact C7 x.low x.nz m0 this
 have G1:Gq (D+(b+max n J*(2*e+4))) b f:=DZ A a1 (Bz x.low).1 x.clr.2.1 (N:=λk=>co g (g.length - 1)*co A1 k) (λk=>by rw [b3,Rat.div_def];push_cast;rfl) λk=>Bd.mul (bg _) (b2 k);have p1:0<f.length:=BE.mpr a2
 have a3:∀ q∈f,Bd (D+(b+max n J*(2*e+4))) q.1/\Bd b q.2:=λq j=>⟨G1.clr.2.2 q j,by
  obtain ⟨M,O,bM,_⟩:=G1.ov;exact DB (AV O.1) (O.2 q j) bM⟩
 have l0:=L;refine ⟨r0,r1,w,f,rfl,⟨aj,s3 _ _ h0,n0.tp (M_ s3)⟩,⟨b0,h1,n1⟩,y,A,a1,a2,λq j=>⟨(F q j).1.mono ⋯,(F q j).2.mono ⋯⟩,λq j=>⟨(a3 q j).1.mono ⋯,(a3 q j).2.mono ⋯⟩,⋯,⋯,λc fl fv t u v H4 s4 ht ⟨us,hu,nu⟩ ⟨vs,hv,nv⟩=>?_⟩;generalize b4:AX f (f.length - 1)=la at fv;have G:=K0 (a:=c.1) y fl.pos;have I:=K0 (a:=c.1) A fl.pos;have eT:∀ k,B_ (trim (w.map λq=>H_ q (c.1,c.2))) k=val c*B_ w k:=λk=>(Ei G k).trans (Kz y fl.pos k);have eB:∀ k,B_ (trim (f.map λq=>H_ q (c.1,c.2))) k=val c*B_ f k:=λk=>(Ei I k).trans (Kz A fl.pos k);have a4:(trim (w.map λq=>H_ q (c.1,c.2))).length<=w.length:=A7 (Eh _) (by rw [AO];exact AM _);have a5:(trim (f.map λq=>H_ q (c.1,c.2))).length<=f.length:=A7 (Eh _) (by rw [AO];exact AM _);have lT:AW (trim (w.map λq=>H_ q (c.1,c.2))):=λq j=>G q (DI j);have lB:AW (trim (f.map λq=>H_ q (c.1,c.2))):=λq j=>I q (DI j);have nT:=EE (w.map λq=>H_ q (c.1,c.2));have nB:=EE (f.map λq=>H_ q (c.1,c.2));generalize trim (w.map λq=>H_ q (c.1,c.2))=T at nu eT a4 lT nT;generalize trim (f.map λq=>H_ q (c.1,c.2))=B at nv eB a5 lB nB;have s0:val c≠0:=λz=>by rw [z] at fv;ext
 have b5:B_ f (f.length - 1)=val la:=by unfold B_;rw [b4]
 have tB:B_ B (f.length - 1)=1:=by rw [eB,b5];exact fv
 have a6:B.length=f.length:=by
  rcases Am (f.length - 1) B.length with z | z
  ·omega
  ·rw [BF z] at tB;exact absurd tB ∅
 obtain ⟨U,W,eU⟩:=uX Gl.low x.low R;have a7:B_ (J' g) ((J' g).length - 1)≠0:=C7 (Hw o) (JM o) g0;have c0:∀ k,B_ l k=cvL (rw' w) (B_ (J' g)) k:=λk=>(S k).trans (Ky _ _ _);have c1:∀ k,B_ m k=cvL (rw' f) (B_ (J' g)) k:=λk=>(C k).trans (Ky _ _ _);have b6:=(X.trans s3).trans s4;refine k t H4 T B b6 ⟨u,v,ht,⟨us,hu,nu⟩,⟨vs,hv,nv⟩⟩ ⟨lT,lB,nT,nB,BE.mp ⋯,?_,sr_cop.mp ?_⟩ ?_
 ·refine E9 (CZ lB _) JO ?_;have:val ((1:Int),(1:Int))=1:=by unfold val;show ((1:Int):Rat) / ((1:Int):Rat)=1;rw [show ((1:Int):Rat)=1 from rfl];ext
  rw [this,a6];exact tB
 ·exact (uV (t:=rw' w) (b:=rw' f) (Kx w) (Kx f) a7 (λi hi=>BF ⋯) c0 c1 eU).scal s0 eT eB
 ·have e1:sr T=Sr.num (val c)*sr w:=Sr.ext' λk=>by rw [Sr.num_mul];exact eT k
  have e2:sr B=Sr.num (val c)*sr f:=Sr.ext' λk=>by rw [Sr.num_mul];exact eB k
  rw [e1,e2,Db S,Db C];ext
structure Al (b n m e:Nat) (T B:cW):Prop where
 lw:Lw T B
 gt:Gq (2*b+960) (2*b+960) T
 gb:Gq (2*b+960) (2*b+960) B
 tn:T.length<=n
 bm:B.length<=m
 ft:T≠[]->Fp (b+n*(2*e+4)) (AK T)
 fb:Fp (b+m*(2*e+4)) (AK B)
def Rp.all {b n m e:Nat} {T B:cW} (h:Rp b n m T B) (a:n<2 ^ e) (c:m<2 ^ e) (d:n<=60) (f:m<=60) (q:e<=6):Al b n m e T B:=by
 obtain ⟨g,i,j,k,o,p⟩:=h.facts a c;have:max n m*(2*e+4)<=60*16:=Be ⋯ ⋯;exact ⟨h.lw,g.mono ⋯ ⋯,i.mono ⋯ ⋯,j,k,o,p⟩
def Ub {T B:cW} {b n e:Nat} {l m:cW} (h:Lw T B) (Gl:Gq b b l) (a:Gq b b m) (j:m≠[]) (k:l.length<=n) (o:m.length<=n) (p:n<2 ^ e) (G:sr T*sr m=sr l*sr B) :
  Gq (2*b+(2*b+n*(2*e+4))) (2*b+(2*b+n*(2*e+4))) T/\Gq (2*b+(2*b+n*(2*e+4))) (2*b+(2*b+n*(2*e+4))) B/\T.length<=l.length/\B.length<=m.length:=by
 have f:=Gl.clr;have g:=a.clr;have q:=Aa (AV (Bz Gl.low).1);have r:=Aa (AV (Bz a.low).1)
 have u:∀ z∈(AK l).map (Ac m*·),Bd (2*b) z:=λz c=>by
  obtain ⟨y,d,rfl⟩:=BM.mp c;exact ((g.2.1).mul (f.1 y d)).mono ⋯
 have v:∀ z∈(AK m).map (Ac l*·),Bd (2*b) z:=λz c=>by
  obtain ⟨y,d,rfl⟩:=BM.mp c;exact ((f.2.1).mul (g.1 y d)).mono ⋯
 have i:=JT a.low a.nz j;have w:=(Bz Gl.low).1;have x:=(Bz a.low).1;have A:Lz ((AK m).map (Ac l*·)):=⟨by rw [AO];exact i.1,by rw [AO,Gx];exact BK (AV w) i.2⟩
 have C:Tz ((AK l).map (Ac m*·)):=by
  rcases FI Gl.low Gl.nz with h | h
  ·left;rw [h];rfl
  ·right;rw [AO,Gx];exact BK (AV x) h
 have I:=Sr.num_inv q;have J:=Sr.num_inv r;have D:si (AK l)=Sr.num (Ac l:Rat)*sr l:=by rw [En Gl.low];ext
 have F:si (AK m)=Sr.num (Ac m:Rat)*sr m:=by rw [En a.low];ext
 have:=UZ h A C u v (by rw [AO,Bf];exact k) (by rw [AO,Bf];exact o) p (by rw [Fz,Fz,D,F];ext);rw [AO,AO,Bf,Bf] at this;exact ⟨this.1,this.2.1.mono ⋯ ⋯,this.2.2.1,this.2.2.2⟩
def tT {P A C:cW} (a:AW P) (c:Nz P) (d:AW A) (e:Nz A) (f:A≠[]) (oA:AX A (A.length - 1)=(1,1)) (g:AW C) (i:Nz C) (C0:C≠[]) (j:AX C (C.length - 1)=(1,1)) (h:∀ k,B_ P k=cv (B_ A) (B_ C) A.length k):P≠[]/\AX P (P.length - 1)=(1,1):=by
 obtain ⟨_,b,m⟩:=JP a c d e f g i C0 h;rw [Em oA,Em j] at b;exact ⟨m,JQ a (by rw [b];ext)⟩
def tU {a b c d:Sr} (e:Sr.Pol a) (f:Sr.Pol b) (pc:Sr.Pol c) (g:Sr.Pol d) (h:Sr.Cs a c) (i:Sr.Cs a d) (j:Sr.Cs b c) (k:Sr.Cs b d):Sr.Cs (a*b) (c*d):=by
 have m:=(h.mul e pc i).comm;have n:=(j.mul f pc k).comm;exact (m.mul (pc.mul g) e n).comm
def tV (h:Hk K vs H Q E):SR K { nx:=λ_ H'=>Q .non H',rt:=Q } (L2.start ["F","G","one","other"] vs) H:=by
 obtain ⟨p,q,T,B,T',F,x,n,m,x',L,M,e,rfl,⟨u,v,hp,Pu,Pv⟩,⟨u',v',hq,N,O⟩,P,R2,f,g,i,j,tn,R,S,bm,fT,U,W,fB,Z,G,k⟩:=h;have bc:=Z.n60;have bd:=Z.m60;have b9:=G.n60;have ba:=G.m60;obtain ⟨a0,bf⟩:=Z.ml;obtain ⟨o,bb⟩:=G.ml;unfold SR;rwa [hp,hq];refine ⟨T,Pu,F,O,_,f,j,R2.ne,x,n,tn,M,R,fT,U,e,Z,⋯,λt1 H1 P1 Q1 r ⟨a1,d1,h1,a3,a4⟩ L1 b=>?_⟩;have a5:=r _ _ hp;have a6:=r _ _ hq;unfold SQ;rwa [a5,a6];refine ⟨T',N.same r,B,Pv.same r,_,i,g,P.ne,x',L,S,m,bm,W,fB,e,G,⋯,λt2 H2 P2 Q2 I ⟨a2,d2,h2,a7,ab⟩ a c=>?_⟩;obtain ⟨g1,ac,l1,bg⟩:=Ub L1 f j R2.ne (show _<=max n M by omega) (show _<=max n M by omega) a0 b;obtain ⟨g2,ad,l2,bi⟩:=Ub a i g P.ne (show _<=max L m by omega) (show _<=max L m by omega) o c;have y:=I _ _ h1;obtain ⟨bl,aj,al⟩:=a3.same I;obtain ⟨bn,am,an⟩:=a4.same I;obtain ⟨bp,ao,ar⟩:=a7;obtain ⟨bq,b0,b1⟩:=ab;unfold SO;refine CA (Cf (Ag (Bm rfl y rfl (Bm rfl h2 rfl (JD (SqT.of aj) ao (NuK.of al) ar g1 g2 ⋯ ⋯ ⋯ ⋯ ⋯ ⋯ λr3 X H3 d PX GX lX eX=>?_)))));have b2:=d _ _ y;have b3:=d _ _ h2;have z:=d _ _ am;have A:=d _ _ b0;refine Ag (Bm rfl b2 rfl (Bm rfl b3 rfl (JD (SqT.of z) A (NuK.of (an.tp (M_ d))) (b1.tp (M_ d)) ac ad ⋯ ⋯ ⋯ ⋯ ⋯ ⋯ λr4 Y H4 s4 PY J lY eY=>⟨Bx,λw hw=>?_⟩)));have s5:=AR hw (.tup [.ref r3,.ref r4]);obtain ⟨Y0,oY⟩:=tT J.low J.nz L1.lb L1.nb L1.ne L1.one a.lb a.nb a.ne a.one eY;have o1:=Db eX;have o2:=Db eY;obtain ⟨f1,C,b4,b5⟩:=Hy L1 (AL T) (AL F) b;obtain ⟨f2,D,b6,b7⟩:=Hy a (AL T') (AL B) c;have c1:Sr.Cs (sr P1) (sr Q2):=((P.cs.comm.dvd C b5).comm).dvd D b6;have c2:Sr.Cs (sr P2) (sr Q1):=((R2.cs.comm.dvd D b7).comm).dvd C b4;refine k w _ X Y (((r.trans I).trans d).trans (s4.trans s5)) ⟨r3,r4,upd_same,(PX.same s4).same s5,PY.same s5⟩ ⟨GX.low,J.low,GX.nz,J.nz,Y0,oY,?_⟩ ?_
 ·rw [o1,o2];exact tU (AL _) (AL _) (AL _) (AL _) L1.cs c1 c2 a.cs
 ·rw [o1,o2];have:sr P1*sr P2*(sr B*sr F)=(sr P1*sr F)*(sr P2*sr B):=by ext
  rw [this,b,c];ext
def tY {F:dF} {w x:Nat} (a:∀ k,w<=k->F k=0) (f:∀ k,Bd x (F k)):∃ Z:de,Tz Z/\(∀ k,co Z k=F k)/\(∀ z∈Z,Bd x z)/\Z.length<=w:=by
 have b:∀ k,co ((List.range w).map F) k=F k:=λk=>by
  unfold co;rw [AT,Aj];rcases Am k w with c | c
  ·rw [DD c];rfl
  ·rw [Bh (by rw [BD];exact c)];exact (a k c).symm
 rcases Dp ((List.range w).map F) with z | ⟨g,j,d,e⟩
 ·exact ⟨[],.inl rfl,λk=>by rw [<-b,z];exact Af (Ab _),(λ_ h=>nomatch h),Ab _⟩
 ·refine ⟨g,.inr j.2,λk=>(e k).trans (b k),λz a=>?_,by rw [AO,BD] at d;exact d⟩;obtain ⟨i,m,rfl⟩:=GH a;have:co g i=g[i]:=by unfold co;rw [AT,Ax m];rfl
  rw [<-this,e,b];exact f i
def Uc {l m:cW} {g:de} {A B:Sr} (a:AW l) (b:AW m) (R:RC (co (AK l)) (co (AK m)) g) (c:Sr.Pol A) (d:Sr.Pol B) (e:sr l=A*sr (J' g)) (f:sr m=B*sr (J' g)):Sr.Cs A B:=by
 have n:=Sr.num_inv (Aa (AV (Bz a).1));have o:=Sr.num_inv (Aa (AV (Bz b).1));have h:si (AK l)=Sr.num (Ac l:Rat)*sr l:=by rw [En a];ext
 have i:si (AK m)=Sr.num (Ac m:Rat)*sr m:=by rw [En b];ext
 have j:si (AK l)=(Sr.num (Ac l:Rat)*Sr.num ((co g (g.length - 1):Rat))⁻¹*A)*si g:=by rw [h,e,Ni R.lz];ext
 have k:si (AK m)=(Sr.num (Ac m:Rat)*Sr.num ((co g (g.length - 1):Rat))⁻¹*B)*si g:=by rw [i,f,Ni R.lz];ext
 have:=tO R (((Sr.Pol.num _).mul (Sr.Pol.num _)).mul c) (((Sr.Pol.num _).mul (Sr.Pol.num _)).mul d) j k;exact ((this.dvd ((Sr.Pol.num _).mul (Sr.Pol.num _)) rfl).comm.dvd ((Sr.Pol.num _).mul (Sr.Pol.num _)) rfl).comm
def tZ {T B b k G a R c S X g:Sr} {s:Rat} (v:s≠0) (m:Sr.Pol T) (d:Sr.Pol b) (h:Sr.Pol a) (n:Sr.Pol R) (o:Sr.Pol G) (p:Sr.Pol S) (q:Sr.Pol X) (w:Sr.Pol g) (x:B=a*G) (j:k=R*G) (f:Sr.Cs a R) (y:Sr.Cs T B) (z:Sr.Cs b k) (r:c=T*R+Sr.num s*(b*a)) (u:c=X*S) (Z:G=g*S) (A:Sr.Cs X g):Sr.Cs X (a*R*g):=by
 have C:Sr.Cs T a:=y.dvd o (by rw [x];ext);have D:Sr.Cs b R:=z.dvd o (by rw [j];ext);have F:Sr.Cs (T*R) a:=(C.comm.mul h m f).comm;have I:Sr.Cs c a:=F.add ((Sr.Pol.num s).mul d) (by rw [r];ext);have J:Sr.Cs (b*a) R:=(D.comm.mul n d f.comm).comm
 have L:Sr.Cs (Sr.num s*(b*a)) R:=by
  obtain ⟨U,W,M,N,e⟩:=J;have i:=Sr.num_inv v;exact ⟨U*Sr.num s⁻¹,W,M.mul (Sr.Pol.num _),N,()⟩
 have O:Sr.Cs c R:=L.add m (by rw [r];ext);have P:Sr.Cs X a:=(I.comm.dvd p (show c=S*X by rw [u];ext)).comm;have Y:Sr.Cs X R:=(O.comm.dvd p (show c=S*X by rw [u];ext)).comm;exact (P.mul q h Y).mul q (h.mul n) A
def K6 {l m:cW} {Y:Sr} (a:Sr.Pol Y) (h:sr m=Y*sr l):MR (B_ l) (B_ m):=by
 obtain ⟨A,rfl⟩:=a;refine ⟨A,λk=>?_⟩;have:=mQ (congrArg Sr.c h) k;rw [Sr.L_mul] at this;exact this
def JU {l m:cW} (h:MR (B_ l) (B_ m)):∃ Y,Sr.Pol Y/\sr m=Y*sr l:=by
 obtain ⟨A,a⟩:=h;refine ⟨Sr.L A,Sr.Pol.L A,?_⟩;rw [Sr.L_mul];exact Sr.ext' a
def K7 {K:W.Frag} {i:Nat} {k:Int} {a:Addr} {xs:d7} {v:V} {b:L2.St} {H:Hp} {Q:VK} (c:b[i]?=some (some (.ref a))) (d:SqT K H a xs) (e:N_ xs k=some v) (h:Q v H):A_ (aI K) (AA i) (tC (.int k)) b H Q:=⟨_,c,a,k,xs,v,rfl,rfl,d,e,h⟩
def sA (h:Gp K vs H Q E):xX K { nx:=λ_ H'=>Q .non H',rt:=Q } (L2.start ["F","G","shared","rest","top","spare"] vs) H:=by
 obtain ⟨p,q,T,B,T',B',x,y,w,m,m',mm,e,rfl,⟨u,v,zu,zv,hp,hu,nu,hv,nv⟩,⟨u',v',hq,ao,ar⟩,L1,L2,b0,C,b3,L,b4,b5,w1,w2,O,b6,A,D9,b7,fy,b9,P,k⟩:=h;obtain ⟨cz,a0,a1⟩:=ar;have d0:=P.n60;have ce:=P.m60;have ba:=A.n60;have a2:=A.m60;have n1:=P.n1;have m1:=A.n1;have d1:=A.m1;have e6:=A.e6;have ch:m'*(2*e+4)<=960:=A7 (Be a2 (show 2*e+4<=16 by omega)) ∅;have ci:m*(2*e+4)<=960:=A7 (Be ba (show 2*e+4<=16 by omega)) ∅;have b1:=BE.mpr L1.ne;have b2:=BE.mpr L2.ne;refine FD (K7 rfl hp rfl (Bm rfl hq rfl (NK hv a0 nv a1 C L ⋯ ⋯ ⋯ ⋯ (λ_ _=>⟨O,b6⟩) (d:=e) (by rw [CU];have:=A.me;have:=A.ne;omega) (N:=m+m') ⋯ ⋯ A.lu (λz _=>absurd z L1.ne) λ_ j n P1 r1 z1 H1 s1 h1 S=>?_)));obtain ⟨a,f,d2,M1,a3,o1⟩:=K5 L1.lb L1.nb L1.ne O n.lz n.left P1;have bb:MR (B_ (J' j)) (B_ B'):=MR.of (Fw n.lz) (EG L2.lb) (EH n.lz) n.right;have ck:0<(J' j).length:=BE.mpr f;have bc:=s1 _ _ hq;have a4:=s1 _ _ a0
 have cl:(J' j).length<=B'.length:=by
  have:=Fv n.lz (JT L2.lb L2.nb L2.ne) n.right;rw [Bf] at this;rw [Du];exact this
 have d3:(J' j).length<=mm:=by rcases b9 with h | h <;> omega
 have mD:∀ i,i<=w+1+m->i*x<=242121/\i*(x+1)<=242121:=λi hi=>by
  have h1:i*(x+1)<=121*2001:=Be ⋯ ⋯;have h2:i*x<=i*(x+1):=CS _ ⋯;omega
 have mB:=mD (B.length+1 - (J' j).length) ⋯;have d4:=mD (B'.length+1 - (J' j).length) ⋯;refine FD (Bm rfl bc rfl (AU rfl (Hr (SqT.of a4) h1 (NuK.of (a1.tp (M_ s1))) S L a f ⋯ ⋯ ⋯ ⋯ ⋯ ⋯ bb λr2 R H2 s2 ⟨z2,h2,a5⟩ lR nR cn eR=>?_)));have GR:=(UP L lR nR b5 A.me n.lz P1 (a3 _) n.right eR).mono (b':=20000) (c':=11000) ⋯ ⋯;have D:=s1.trans s2;have bd:=D.sqT hp;refine FD (Ag (K7 rfl bd rfl (AU rfl (JD (D.sqT hu) h2 (nu.same D) a5 b0 GR ⋯ ⋯ ⋯ ⋯ ⋯ ⋯ λr3 X1 H3 s3 ⟨z3,h3,n3⟩ G3 l3 e3=>?_))));have o:=D.trans s3;have bf:=o.sqT hp;have bg:=o _ _ hq;have bi:=o.sqT hv;have bl:=(s2.trans s3) _ _ h1;refine Ag (Bm rfl bg rfl (Ag (K7 rfl bf rfl (AU rfl (Hr bi bl (nv.same o) (S.tp (M_ (s2.trans s3))) C a f ⋯ ⋯ ⋯ ⋯ ⋯ ⋯ M1 λr4 U H4 s4 ⟨z4,h4,n4⟩ lQ nQ cp eQ=>?_)))));have GQ:=(UP C lQ nQ b4 A.ne n.lz P1 (a3 _) n.left eQ).mono (b':=20000) (c':=11000) ⋯ ⋯;have a6:=o.trans s4;obtain ⟨d5,bm,bn⟩:=ao.same a6;refine JD (SqT.of bm) h4 (NuK.of bn) n4 b3 GQ ⋯ ⋯ ⋯ ⋯ ⋯ ⋯ λr5 X2 H5 s5 ⟨z5,h5,n5⟩ G5 l5 e5=>?_;have bp:=(s4.trans s5) _ _ h3;have bq:=G3.mono (b':=32000) (c':=22000) ⋯ ⋯;have br:=G5.mono (b':=32000) (c':=22000) ⋯ ⋯;obtain ⟨M,bs,bt,bM,q1,q2⟩:=UQ bq br;refine wN bp h5 (n3.tp (M_ (s4.trans s5))) n5 G3.low G5.low bs bt bM q1 q2 ⋯ ⋯ ⋯ ⋯ λr6 F H6 s6 ⟨z6,h6,n6⟩ G6 l6 e6=>?_;have d6:F.length<=w:=by omega
 have a7:=((((s2.trans s3).trans s4).trans s5).trans s6);have bw:=a7 _ _ h1;have J:=Db eQ;have oR:=Db eR
 have ot:sr F=sr T*sr R+Sr.num 1*(sr T'*sr U):=by
  rw [<-Db e3,<-Db e5];exact Sr.ext' λk=>by show B_ F k=(sr X1).c k+(Sr.num 1*sr X2).c k;rw [Sr.num_mul];exact e6 k
 have G0:=B4 a.low a.nz f;have bx:F≠[]->Fp y (AK F):=λt0=>fy F (sr (J' j)) G6.low G6.nz t0 (AL _) G0 (by rw [ot,J,oR,Sr.num_one];ext);have ab:Fp x (AK (J' j)):=K4 a.low L1.lb (AL U) J O;refine FD (AU rfl (AU rfl (NK (b:=60000) (c:=60000) (SqT.of h6) bw (NuK.of n6) (S.tp (M_ a7)) (G6.mono ⋯ ⋯) (a.mono ⋯ ⋯) ⋯ ⋯ ⋯ ⋯ (λt0 _=>⟨(bx t0).mono (Nat.le_max_right ..),ab.mono (Nat.le_max_left ..)⟩) (d:=e) (by rw [CU];have:=P.ne;have:=P.me;omega) (N:=w+mm) ⋯ (by have:=P.m1;omega) P.lu (λ_ z=>absurd z f) λ_ W Rr P2 r7 z7 H7 s7 h7 n7=>?_)));obtain ⟨g,r,d9,M2,da,o2⟩:=K5 a.low a.nz f ab Rr.lz Rr.right P2;have cq:0<(J' W).length:=BE.mpr r;have bz:MR (B_ (J' W)) (B_ F):=MR.of (Fw Rr.lz) (EG G6.low) (EH Rr.lz) Rr.left;have c0:=s7 _ _ h6;have m3:=mD (F.length+1 - (J' W).length) ⋯;refine CA (Cf (Ag (AU rfl (AU rfl (Hr (SqT.of c0) h7 (NuK.of (n6.tp (M_ s7))) n7 G6 g r ⋯ ⋯ ⋯ ⋯ ⋯ ⋯ bz λr8 X H8 s8 PX lX nX ct eX=>?_)))));have G:=(((a6.trans s5).trans s6).trans s7).trans s8;have ac:=((((s3.trans s4).trans s5).trans s6).trans s7).trans s8;have c1:=G.sqT hp;have c2:=G.sqT hv;have c3:=ac _ _ h2;have c4:=s8 _ _ h7;refine Ag (Ag (K7 rfl c1 rfl (AU rfl (JD c2 c3 (nv.same G) (a5.tp (M_ ac)) C GR ⋯ ⋯ ⋯ ⋯ ⋯ ⋯ λr9 Pb H9 s9 ⟨z9,h9,n9⟩ Z l9 e9=>AU rfl ?_))));have c5:=s9 _ _ c4;have m4:=mD (Pb.length+1 - (J' W).length) ⋯;have oX:=Db eX;have o9:=Db e9;obtain ⟨G',I,oG⟩:=JU M2;have M3:MR (B_ (J' W)) (B_ Pb):=K6 (Y:=sr U*G'*sr R) (((AL _).mul I).mul (AL _)) (by rw [o9,J,oG];ext);refine Hr (SqT.of h9) c5 (NuK.of n9) (n7.tp (M_ (s8.trans s9))) Z g r ⋯ ⋯ ⋯ ⋯ ⋯ ⋯ M3 λad Y db aj PY lY nY cw eY=>⟨Bx,λwt c8=>?_⟩;have st:=AR c8 (.tup [.ref r8,.ref ad]);have oY:=Db eY;have S0:=B4 g.low g.nz r;have c9:=Uc L1.lb L2.lb n (AL U) (AL R) J oR;have cb:=Uc G6.low a.low Rr (AL X) I oX oG
 have al:sr Y=sr U*sr R*G':=by
  refine Sr.cancel (AL Y) (((AL _).mul (AL _)).mul I) (AL (J' W)) S0 ?_;rw [<-oY,o9,J,oG];ext
 have cs:=tZ (s:=1) ∅ (AL T) (AL T') (AL U) (AL R) (AL (J' j)) (AL (J' W)) (AL X) I J oR c9 L1.cs L2.cs ot oX oG cb;rw [<-al] at cs
 have R0:R≠[]:=λz=>by
  have:=eR (B'.length - 1);rw [z] at this;exact C7 L2.lb L2.nb L2.ne this
 have lr:=JP L2.lb L2.nb lR nR R0 a.low a.nz f eR;have lp:=JP Z.low Z.nz L1.lb L1.nb L1.ne lR nR R0 e9
 have Y0:Y≠[]:=λz=>by
  have:=eY (Pb.length - 1);rw [z] at this;exact C7 Z.low Z.nz lp.2.2 this
 have ly:=JP Z.low Z.nz lY nY Y0 g.low g.nz r eY
 have am:B_ R (R.length - 1)=1:=by
  have:=lr.2.1;rw [Em L2.one,o1] at this;ext
 have an:B_ Y (Y.length - 1)=1:=by
  have h1:=ly.2.1;have h2:=lp.2.1;rw [Em L1.one,am] at h2;rw [o2,h2] at h1;ext
 refine k wt _ X Y (((G.trans s9).trans aj).trans st) ⟨r8,ad,upd_same,((PX.same s9).same aj).same st,PY.same st⟩ ⟨lX,lY,nX,nY,Y0,JQ lY an,cs⟩ ?_;have cc:sr X*(sr B*sr B')=sr U*sr R*sr (J' j)*(sr X*sr (J' j)):=by rw [J,oR];ext
 have cd:sr X*sr (J' j)=sr F*G':=by rw [oX,oG];ext
 rw [cc,cd,al,ot,J,oR,Sr.num_one];ext
def Ud {Z:de} (t:Tz Z) (h:si Z≠0):Lz Z:=DY t λz=>h (by rw [z,Dc []];exact Sr.L_nil)
def sB:Sr.num ((-1:Int):Rat) = -1:=by
 have a:Sr.num ((-1:Int):Rat)+Sr.num 1=0:=Sr.ext' λk=>by
  show ((-1:Int):Rat)*Ai k+1*Ai k=(0:Sr).c k;rw [Sr.zero_c,show (((-1:Int)):Rat) = -1 from rfl];ext
 rw [Sr.num_one] at a;ext
def Lw.uniq {X Y a b:cW} (h:Lw X Y) (h':Lw a b) (c:sr X*sr b=sr a*sr Y):X=a/\Y=b:=by
 obtain ⟨f,d,e,_⟩:=Hy h (AL a) (AL b) c;obtain ⟨g,i,j,_⟩:=Hy h' (AL X) (AL Y) c.symm;have k:Y=b:=uW h.lb h'.lb h.nb h'.nb h.ne h'.ne h.one h'.one (K6 d e) (K6 i j);subst k;exact ⟨US h.lt h'.lt h.nt h'.nt (Sr.cancel (AL X) (AL a) (AL Y) (B4 h.lb h.nb h.ne) c),rfl⟩
def Lw.uniq' {X Y a b:cW} {Z:Sr} (h:Lw X Y) (h':Lw a b) (c:Sr.Pol Z) (d:Z≠0) (e:sr X*sr b*Z=sr a*sr Y*Z):X=a/\Y=b:=h.uniq h' (Sr.cancel ((AL X).mul (AL b)) ((AL a).mul (AL Y)) c d e)
noncomputable def JV (T B:cW):W.Dat:=.tuple [Fo T,Fo B]
def JW {H:Hp} {p:Addr} {T B:cW} (h:FF H p T B):RepD H (.ref p) (JV T B):=by
 obtain ⟨u,v,hp,⟨e,a,b⟩,⟨f,c,d⟩⟩:=h;exact .tup hp (.cons (KI a b) (.cons (KI c d) .nil))
def cx (T B:cW) (n:Nat):W.kqdOk (n+3) (JV T B)=true:=by
 simp only [JV,W.kqdOk,List.all_cons,List.all_nil,okP,Bool.and_self]
def sC {H:Hp} {p q:Addr} {T B a b:cW} {Q:VK} (hp:FF H p T B) (c:FF H q a b) (e:T=a/\B=b) (h:Q (.bl true) H):bU (.ref p) (.ref q) H Q:=by
 obtain ⟨rfl,rfl⟩:=e;exact ⟨_,_,true,JW hp,JW c,cx _ _ 5,cx _ _ 5,by simp,h⟩
def Ue {H:Hp} {p q:Addr} {T B a b:cW} {Q:VK} (hp:FF H p T B) (c:FF H q a b) (e:T=a/\B=b) (h:Q (.bl false) H):bJ (.ref p) (.ref q) H Q:=by
 obtain ⟨rfl,rfl⟩:=e;exact ⟨_,_,true,JW hp,JW c,cx _ _ 5,cx _ _ 5,by simp,h⟩
noncomputable instance (x n m e:Nat):Decidable (C0 x n m e):=decidable_of_iff (1<=n/\1<=m/\n<=60/\m<=60/\n<2 ^ e/\m<2 ^ e/\e<=6/\(x+e+2)*(n+m)<=44490) ⟨λ⟨a,b,c,d,e,f,g,h⟩=>⟨a,b,c,d,e,f,g,h⟩,λ⟨a,b,c,d,e,f,g,h⟩=>⟨a,b,c,d,e,f,g,h⟩⟩
theorem Hz:sr [(1,1)]=1:=Sr.ext' λk=>by
 rw [FJ];cases k with
 | zero=>show val (1,1)=_;unfold val;show ((1:Int):Rat) / ((1:Int):Rat)=1;rw [show ((1:Int):Rat)=1 from rfl];ext
 | succ k=>show B_ [(1,1)] (k+1)=0;exact BF (by simp)
def GA:sr []=0:=Sr.ext' λk=>by rw [Sr.zero_c];exact BF (Ab _)
theorem cy:si [1]=1:=Sr.ext' λk=>by
 rw [FJ];cases k with
 | zero=>rfl
 | succ k=>show ((co [1] (k+1):Int):Rat)=0;rw [Af (by simp)];rfl
def lw1 {T:cW} (b:AW T) (c:Nz T):Lw T [(1,1)]:=⟨b,λq a=>by rw [CC.mp a];exact JO,c,λq a=>by obtain rfl:(1,1)=q:=mO a;decide,by simp,rfl,by rw [Hz];exact Sr.Cs.one⟩
def one_ne:(1:Sr)≠0:=by rw [<-cy];exact K3 ⟨∅,∅⟩
namespace Sr
noncomputable def ev:List Rat->Rat->Rat
 | [],_=>0
 | a::l,x=>a+x*ev l x
theorem Nk:∀ (l:List Rat) (x:Rat),(∀ k,l.getD k 0=0)->ev l x=0
 | [],_,_=>rfl
 | a::l,x,h=>by
   have b:a=0:=h 0;show a+x*ev l x=0;rw [b,Nk l x λk=>by have:=h (k+1);rw [FT] at this;exact this];ext
theorem ah:∀ (a b:List Rat) (x:Rat),(∀ k,a.getD k 0=b.getD k 0)->ev a x=ev b x
 | [],b,x,h=>(Nk b x λk=>(h k).symm.trans (by simp)).symm
 | a::l,[],x,h=>Nk (a::l) x λk=>(h k).trans (by simp)
 | a::l,b::m,x,h=>by
   have c:a=b:=h 0;show a+x*ev l x=b+x*ev m x;rw [c,ah l m x λk=>by have:=h (k+1);rw [FT,FT] at this;exact this]
def sD {a b:List Rat} (h:L a=L b) (x:Rat):ev a x=ev b x:=ah a b x λk=>by rw [<-Co,<-Co];exact mQ (congrArg Sr.c h) k
theorem Gy:∀ (a b:List Rat) (x:Rat),ev (Aw a b) x=ev a x+ev b x
 | [],b,x=>by show ev b x=0+ev b x;ext
 | a::l,[],x=>by rw [KC];show _=_+0;ext
 | a::l,b::m,x=>by
   show (a+b)+x*ev (Aw l m) x=a+x*ev l x+(b+x*ev m x);rw [Gy l m x];ext
theorem K8 (c:Rat):∀ (a:List Rat) (x:Rat),ev (a.map (c*·)) x=c*ev a x
 | [],x=>by show (0:Rat)=c*0;ext
 | a::l,x=>by
   show c*a+x*ev (l.map (c*·)) x=c*(a+x*ev l x);rw [K8 c l x];ext
theorem K9:∀ (a b:List Rat) (x:Rat),ev (BS a b) x=ev a x*ev b x
 | [],b,x=>by show (0:Rat)=0*_;ext
 | a::l,b,x=>by
   show ev (Aw (b.map (a*·)) (0::BS l b)) x=(a+x*ev l x)*ev b x;rw [Gy,K8];show a*ev b x+(0+x*ev (BS l b) x)=_;rw [K9 l b x];ext
theorem Uf:∀ (Z:de) (x:Int),ev (Z.map λz:Int=>(z:Rat)) (x:Rat)=((evI Z x:Int):Rat)
 | [],_=>rfl
 | z::Z,x=>by
   show (z:Rat)+(x:Rat)*ev (Z.map λz:Int=>(z:Rat)) (x:Rat)=((z+x*evI Z x:Int):Rat);rw [Uf Z x];push_cast;rfl
def sE {a:List Rat} (h:∀ x,ev a x=0):L a=0:=by
 obtain ⟨N,Z,c,b⟩:=UR a
 have z:∀ k,co Z k=0:=NX ((List.range Z.length).map λi:Nat=>(i:Int)) Z (by
   unfold List.Nodup;rw [List.pairwise_map];exact (List.nodup_range (n:=Z.length)).imp λh q=>h ⋯) (λt _=>by
   have:((evI Z t:Int):Rat)=0:=by rw [<-Uf,<-b,K8,h];ext
   exact_mod_cast this) (by rw [AO,BD];exact AM _)
 refine ext' λk=>?_;rw [zero_c];show cvL a Ai k=0
 have e:(N:Rat)*cvL a Ai k=((co Z k:Int):Rat):=by
  rw [<-A6,b,Co];unfold co;rw [AT,AT,Aj];cases Z[k]? <;> rfl
 rw [z k] at e;rcases D6.mp (e.trans (by rfl:((0:Int):Rat)=0)) with q | q
 ·exact absurd q (Aa c)
 ·exact q
def LA (a b:List Rat):L (Aw a b)=L a+L b:=ext' λk=>Bb Ai a b k
def sF (s:Rat) (a:List Rat):L (a.map (s*·))=num s*L a:=ext' λk=>by rw [num_mul];exact A6 s Ai a k
def Ug (a b:List Rat):L (BS a b)=L a*L b:=by rw [L_mul];exact ext' λk=>Bv Ai a b k
def ev_ext {a b:List Rat} (h:∀ x,ev a x=ev b x):L a=L b:=by
 have z:=sE (a:=Aw a (b.map ((-1:Rat)*·))) λx=>by rw [Gy,K8,h];ext
 rw [LA,sF] at z;have:num (-1)=(-1:Sr):=num_neg 1;rw [this] at z;ext
noncomputable def cA (c:Rat):List Rat->List Rat
 | []=>[]
 | x::a=>Aw [x] (BS [c,1] (cA c a))
theorem ev_mvR (c:Rat):∀ (a:List Rat) (x:Rat),ev (cA c a) x=ev a (x+c)
 | [],_=>rfl
 | y::a,x=>by
   show ev (Aw [y] (BS [c,1] (cA c a))) x=y+(x+c)*ev a (x+c);rw [Gy,K9,ev_mvR c a];show y+x*0+(c+x*(1+x*0))*_=_;ext
noncomputable def mv (c:Rat) (f:Sr):Sr:=open Classical in if h:Pol f then L (cA c h.choose) else 0
def mv_L (c:Rat) (a:List Rat):mv c (L a)=L (cA c a):=by
 unfold mv;rw [dif_pos (Pol.L a)];exact ev_ext λx=>by rw [ev_mvR,ev_mvR];exact sD (Exists.choose_spec (Pol.L a)).symm _
def sG {c:Rat} {f g:Sr} (d:Pol f) (e:Pol g):mv c (f+g)=mv c f+mv c g:=by
 obtain ⟨a,rfl⟩:=d;obtain ⟨b,rfl⟩:=e;rw [<-LA,mv_L,mv_L,mv_L,<-LA];exact ev_ext λx=>by rw [Gy,ev_mvR,ev_mvR,ev_mvR,Gy]
def sI {c:Rat} {f g:Sr} (d:Pol f) (e:Pol g):mv c (f*g)=mv c f*mv c g:=by
 obtain ⟨a,rfl⟩:=d;obtain ⟨b,rfl⟩:=e;rw [<-Ug,mv_L,mv_L,mv_L,<-Ug];exact ev_ext λx=>by rw [K9,ev_mvR,ev_mvR,ev_mvR,K9]
theorem Uh (x:Rat):num x=L [x]:=ext' λk=>by
 show x*Ai k=cvL [x] Ai k;cases k with
 | zero=>rw [At];ext
 | succ k=>rw [Ak,A5];ext
def Ui {c:Rat} (s:Rat):mv c (num s)=num s:=by
 rw [Uh,mv_L];exact ev_ext λx=>by rw [ev_mvR];show s+_*0=s+_*0;ext
def sJ (c:Rat):mv c (X 1)=X 1+num c:=by
 show mv c (L [0,1])=L [0,1]+num c;rw [mv_L,Uh,<-LA];exact ev_ext λx=>by rw [ev_mvR,Gy];show 0+(x+c)*(1+_*0)=0+x*(1+x*0)+(c+x*0);ext
theorem mv_cm {c:Rat} {f:Sr} (b:Pol f):mv c f=cm (X 1+num c) f:=by
 obtain ⟨a,rfl⟩:=b;rw [cm_L]
 induction a with
 | nil=>rw [L_nil,<-n0,Ui];exact n0
 | cons x a d=>
   rw [L_cons,sG (Pol.num x) ((pXn 1).mul (Pol.L a)),Ui,sI (pXn 1) (Pol.L a),sJ,d];rfl
end Sr
noncomputable def EI:de->de->de
 | [],b=>b
 | x::a,[]=>x::a
 | x::a,y::b=>(x+y)::EI a b
theorem Nl:∀ a b:de,(EI a b).length=max a.length b.length
 | [],b=>by show b.length=max 0 b.length;omega
 | x::a,[]=>by show (x::a).length=max (x::a).length 0;omega
 | x::a,y::b=>by
   show (EI a b).length+1=max (a.length+1) (b.length+1);rw [Nl a b];omega
theorem No:∀ a b:de,L1 (EI a b)<=L1 a+L1 b
 | [],b=>by show L1 b<=0+L1 b;omega
 | x::a,[]=>by show L1 (x::a)<=L1 (x::a)+0;omega
 | x::a,y::b=>by
   have:=No a b;have h:=Int.natAbs_add_le x y;show (x+y).natAbs+L1 (EI a b)<=(x.natAbs+L1 a)+(y.natAbs+L1 b);omega
def IA (x:Int) (a:de):si (x::a)=Sr.num (x:Rat)+Sr.X 1*si a:=by
 rw [Dc,Dc,Dg,Sr.L_cons]
def sK:Sr.num ((0:Int):Rat)=0:=Sr.ext' λk=>by rw [Sr.zero_c];show ((0:Int):Rat)*Ai k=0;rw [show ((0:Int):Rat)=0 from rfl];ext
def JX:si []=0:=by rw [Dc];exact Sr.L_nil
theorem Np:∀ a b:de,si (EI a b)=si a+si b
 | [],b=>by show si b=si []+si b;rw [JX];ext
 | x::a,[]=>by show si (x::a)=si (x::a)+si [];rw [JX];ext
 | x::a,y::b=>by
   show si ((x+y)::EI a b)=_;rw [IA,IA,IA,Np a b,show ((x+y:Int):Rat)=(x:Rat)+(y:Rat) from Rat.intCast_add x y,show Sr.num ((x:Rat)+(y:Rat))=Sr.num (x:Rat)+Sr.num (y:Rat) from Sr.num_add _ _];ext
noncomputable def FK:de->de->de
 | [],_=>[]
 | x::a,b=>EI (b.map (x*·)) (0::FK a b)
theorem Nr (x:Int):∀ b:de,L1 (b.map (x*·))=x.natAbs*L1 b
 | []=>rfl
 | y::b=>by
   show (x*y).natAbs+L1 (b.map (x*·))=x.natAbs*(y.natAbs+L1 b);rw [Nr x b,BN,Nat.mul_add]
theorem Uj:∀ a b:de,L1 (FK a b)<=L1 a*L1 b
 | [],b=>Ab _
 | x::a,b=>by
   refine A7 (No _ _) ?_;have:=Uj a b;have e:=Nr x b;show L1 (b.map (x*·))+(0+L1 (FK a b))<=(x.natAbs+L1 a)*L1 b;rw [e,Cy];omega
theorem Uk:∀ a b:de,si (FK a b)=si a*si b
 | [],b=>by show si []=si []*si b;rw [JX];ext
 | x::a,b=>by
   show si (EI (b.map (x*·)) (0::FK a b))=_;rw [Np,IA,IA,Uk a b,Fz,sK];ext
def sM {n m:Nat} (f:1<=m):∀ (a b:de),a.length<=n->b.length<=m->(FK a b).length<=n+m - 1:=by
 have c:∀ a b:de,b.length<=m->(FK a b).length<=a.length+m - 1:=λa=>by
  induction a with
  | nil=>intro b _;exact Ab _
  | cons x a e=>
    intro b d;show (EI (b.map (x*·)) (0::FK a b)).length<=a.length+1+m - 1;have:=e b d;rw [Nl,AO,B7];omega
 intro a b g d;have:=c a b d;omega
def Iz.mono {A B n m:Nat} {f:Sr} (h:Iz A n f) (b:A<=B) (c:n<=m):Iz B m f:=let ⟨X,e,a,l⟩:=h;⟨X,e,⋯,⋯⟩
def Iz.pol {A n:Nat} {f:Sr} (h:Iz A n f):Sr.Pol f:=let ⟨X,e,_,_⟩:=h;e ▸ Dd X
def Iz.add {A B n m:Nat} {f g:Sr} (h:Iz A n f) (h':Iz B m g):Iz (A+B) (max n m) (f+g):=by
 obtain ⟨X,rfl,a,l⟩:=h;obtain ⟨Y,rfl,b,c⟩:=h';exact ⟨EI X Y,Np X Y,A7 (No X Y) ⋯,by rw [Nl];omega⟩
def Iz.smul {A n:Nat} {f:Sr} (c:Int) (h:Iz A n f):Iz (c.natAbs*A) n (Sr.num (c:Rat)*f):=by
 obtain ⟨X,rfl,a,l⟩:=h;exact ⟨X.map (c*·),Fz X,by rw [Nr];exact CS _ a,by rw [AO];exact l⟩
def Iz.neg {A n:Nat} {f:Sr} (h:Iz A n f):Iz A n (-f):=by
 have:=h.smul (-1);rw [sB,show (-1:Sr)*f = -f by ext,show (-1:Int).natAbs=1 from rfl,Nat.one_mul] at this;exact this
def Iz.sub {A B n m:Nat} {f g:Sr} (h:Iz A n f) (h':Iz B m g):Iz (A+B) (max n m) (f - g):=by
 have:=h.add h'.neg;rw [show f + -g=f - g by grind] at this;exact this
def Iz.mul {A B n m:Nat} {f g:Sr} (b:1<=m) (h:Iz A n f) (h':Iz B m g):Iz (A*B) (n+m - 1) (f*g):=by
 obtain ⟨X,rfl,a,l⟩:=h;obtain ⟨Y,rfl,c,d⟩:=h';exact ⟨FK X Y,Uk X Y,A7 (Uj X Y) (Be a c),sM b X Y l d⟩
theorem Nt:∀ (X:de) (k:Nat),(co X k).natAbs<=L1 X
 | [],k=>by rw [Af (Ab _)];exact AM 0
 | x::X,0=>by show x.natAbs<=x.natAbs+L1 X;omega
 | x::X,k+1=>by
   have:=Nt X k;show (co X k).natAbs<=x.natAbs+L1 X;omega
def Iz.row {A n b:Nat} {f:Sr} (h:Iz A n f) (c:A<2 ^ b):∃ Z:de,Tz Z/\si Z=f/\(∀ z∈Z,Bd b z)/\Z.length<=n:=by
 obtain ⟨X,rfl,a,l⟩:=h;obtain ⟨Z,t,d,e,g⟩:=tY (F:=co X) (w:=X.length) (x:=b) (λk hk=>Af hk) (λk=>DQ (A7 (Nt X k) a) c);exact ⟨Z,t,Sr.ext' λk=>by show ((co Z k:Int):Rat)=_;rw [d];rfl,e,⋯⟩
def Iz.fp {A n b e:Nat} {f Y:Sr} {l:cW} (h:Iz A n f) (c:A<2 ^ b) (d:n<2 ^ e) (g:AW l) (i:Sr.Pol Y) (j:f≠0) (k:f=Y*sr l):Fp (b+n*(2*e+4)) (AK l):=by
 obtain ⟨X,m,a,o,p⟩:=h.row c;exact Nj g (Ud m (by rw [a];exact j)) o p d i (by rw [a];exact k)
def sN {T U c a X Y:cW} {N D d b:Sr} (l:Lw X Y) (L1:Lw T U) (L2:Lw c a) (h:Sr.Pol N) (i:Sr.Pol D) (f:Sr.Pol d) (g:Sr.Pol b) (j:sr T*D=N*sr U) (k:sr c*b=d*sr a) (e:sr X*(sr U*sr a)=sr T*sr c*sr Y):sr X*(D*b)=N*d*sr Y:=by
 refine Sr.cancel ((AL X).mul (i.mul g)) ((h.mul f).mul (AL Y)) ((AL U).mul (AL a)) (Sr.ne_mul (AL U) (AL a) (B4 L1.lb L1.nb L1.ne) (B4 L2.lb L2.nb L2.ne)) ?_;have m:sr X*(D*b)*(sr U*sr a)=sr X*(sr U*sr a)*(D*b):=by ext
 have n:sr T*sr c*sr Y*(D*b)=sr T*D*(sr c*b)*sr Y:=by ext
 rw [m,e,n,j,k];ext
def Nv {s:Rat} {T U c a X Y:cW} {N D f b:Sr} (l:Lw X Y) (L1:Lw T U) (L2:Lw c a) (i:Sr.Pol N) (h:Sr.Pol D) (g:Sr.Pol f) (d:Sr.Pol b) (j:sr T*D=N*sr U) (k:sr c*b=f*sr a) (e:sr X*(sr U*sr a)=(sr T*sr a+Sr.num s*sr c*sr U)*sr Y):sr X*(D*b)=(N*b+Sr.num s*f*D)*sr Y:=by
 refine Sr.cancel ((AL X).mul (h.mul d)) (((i.mul d).add (((Sr.Pol.num s).mul g).mul h)).mul (AL Y)) ((AL U).mul (AL a)) (Sr.ne_mul (AL U) (AL a) (B4 L1.lb L1.nb L1.ne) (B4 L2.lb L2.nb L2.ne)) ?_;have m:sr X*(D*b)*(sr U*sr a)=sr X*(sr U*sr a)*(D*b):=by ext
 have n:(sr T*sr a+Sr.num s*sr c*sr U)*sr Y*(D*b)=(sr T*D*(sr a*b)+Sr.num s*(sr c*b)*(sr U*D))*sr Y:=by ext
 rw [m,e,n,j,k];ext
def FN {c:Rat} (h:c≠0):Sr.num c≠0:=λz=>by
 have e:=Sr.num_inv h;rw [z] at e;exact one_ne (by rw [<-e];ext)
def nI (a b:Int):Sr.num ((a*b:Int):Rat)=Sr.num (a:Rat)*Sr.num (b:Rat):=by rw [Sr.num_num,ER]
def Nw (A n:Nat):Iz A n 0:=⟨[],JX,Ab _,Ab _⟩
def LB (x:Int) {A n:Nat} (h:x.natAbs<=A) (n1:1<=n):Iz A n (Sr.num (x:Rat)):=⟨[x],by rw [IA,JX];ext,by show x.natAbs+0<=A;omega,n1⟩
theorem Ul {M d:Nat} {u:Sr} {S:Int} (c:Iz M (d+1) u) (e:S≠0) (f:S.natAbs<=M):∀ X:de,Iz (L1 X*M ^ (X.length - 1)) (d*(X.length - 1)+1) (Sr.num ((S ^ (X.length - 1):Int):Rat)*Sr.cmL (Sr.num (S:Rat)⁻¹*u) (X.map λz:Int=>(z:Rat)))
 | []=>by
   show Iz _ _ (_*0);rw [show ∀ a:Sr,a*0=0 from λa=>by grind];exact Nw _ _
 | [x]=>by
   show Iz _ _ (Sr.num ((S ^ 0:Int):Rat)*(Sr.num (x:Rat)+_*0));rw [Int.pow_zero,show Sr.num ((1:Int):Rat)=1 from Sr.n1,show (1:Sr)*(Sr.num (x:Rat)+Sr.num (S:Rat)⁻¹*u*0)=Sr.num (x:Rat) by grind];exact LB x (by show x.natAbs<=(x.natAbs+0)*M ^ 0;rw [Nat.pow_zero];omega) ⋯
 | x::y::l=>by
   have b:=Ul c e f (y::l);have i:=Sr.num_inv (Aa e);show Iz ((x.natAbs+L1 (y::l))*M ^ (l.length+1)) (d*(l.length+1)+1) (Sr.num ((S ^ (l.length+1):Int):Rat)*(Sr.num (x:Rat)+Sr.num (S:Rat)⁻¹*u*Sr.cmL (Sr.num (S:Rat)⁻¹*u) ((y::l).map λz:Int=>(z:Rat))));have b:Iz (L1 (y::l)*M ^ l.length) (d*l.length+1) (Sr.num ((S ^ l.length:Int):Rat)*Sr.cmL (Sr.num (S:Rat)⁻¹*u) ((y::l).map λz:Int=>(z:Rat))):=b;generalize Sr.cmL (Sr.num (S:Rat)⁻¹*u) ((y::l).map λz:Int=>(z:Rat))=w at b ⊢;have g:=LB (x*S ^ (l.length+1)) (AM _) (AM 1);have h:=(g.add (c.mul ⋯ b)).mono (B:=(x.natAbs+L1 (y::l))*M ^ (l.length+1)) (m:=d*(l.length+1)+1) ?_ ?_
   ·rw [show Sr.num ((S ^ (l.length+1):Int):Rat)*(Sr.num (x:Rat)+Sr.num (S:Rat)⁻¹*u*w)=Sr.num ((x*S ^ (l.length+1):Int):Rat)+u*(Sr.num ((S ^ l.length:Int):Rat)*w) by
     rw [nI x,Int.pow_succ,nI (S ^ l.length)];grind]
    exact h
   ·rw [BN,Int.natAbs_pow,Cy];have j:x.natAbs*S.natAbs ^ (l.length+1)<=x.natAbs*M ^ (l.length+1):=CS _ (Nat.pow_le_pow_left f _);have k:M*(L1 (y::l)*M ^ l.length)=L1 (y::l)*M ^ (l.length+1):=by rw [CU];ext
    omega
   ·rw [Nat.mul_succ];omega
theorem Iz.cm {A M n d:Nat} {f u:Sr} {S:Int} (m:Iz M (d+1) u) (g:S≠0) (i:S.natAbs<=M) (h:Iz A n f) (n1:1<=n):Iz (A*M ^ (n - 1)) (d*(n - 1)+1) (Sr.num ((S ^ (n - 1):Int):Rat)*Sr.cm (Sr.num (S:Rat)⁻¹*u) f):=by
 obtain ⟨X,rfl,o,p⟩:=h;rw [Dc,Sr.cm_L];have k:=Ul m g i X;have r:1<=M:=by have:=Int.natAbs_pos.mpr g;omega
 cases X with
 | nil=>
   show Iz _ _ (_*0);rw [show ∀ a:Sr,a*0=0 from λa=>by grind];exact Nw _ _
 | cons x l=>
   have e:n - 1=(n - 1 - l.length)+l.length:=by have:l.length+1<=n:=p;omega
   have k:Iz (L1 (x::l)*M ^ l.length) (d*l.length+1) (Sr.num ((S ^ l.length:Int):Rat)*_):=k;have j:=k.smul (S ^ (n - 1 - l.length));rw [show ∀ a b c:Sr,a*(b*c)=a*b*c from λa b c=>by ext,<-nI,<-Int.pow_add,<-e] at j;refine j.mono ?_ ?_
   ·rw [Int.natAbs_pow,show M ^ (n - 1)=M ^ (n - 1 - l.length)*M ^ l.length by rw [<-Cj,<-e]];have q:=Be (Nat.pow_le_pow_left i (n - 1 - l.length)) (BW (M ^ l.length) o);refine A7 q (Nat.le_of_eq ?_);ext
   ·have:=CS d (show l.length<=n - 1 by omega);omega
theorem GC {a:Type} (n:Nat):∀ i:Nat,R_ n i ([]:List a)=[]
 | 0=>rfl
 | _+1=>rfl
theorem Nx {n:Nat} (a:1<=n):∀ (X:de) (i k:Nat),i<n->co (R_ n i X) k=co X (i+k*n)
 | [],_,k,_=>by rw [GC,Af (Ab _),Af (Ab _)]
 | x::l,0,0,_=>by rw [Nat.zero_mul,Nat.add_zero];rfl
 | x::l,0,k+1,_=>by
   have e:=Nx a l (n - 1) k ⋯;show co (R_ n (n - 1) l) k=co (x::l) (0+(k+1)*n);rw [e,show 0+(k+1)*n=(n - 1+k*n)+1 by rw [Nat.succ_mul];omega];rfl
 | x::l,i+1,k,h=>by
   have e:=Nx a l i k ⋯;show co (R_ n i l) k=co (x::l) (i+1+k*n);rw [e,show i+1+k*n=(i+k*n)+1 by omega];rfl
theorem Ny (n:Nat):∀ (i:Nat) (X:de),L1 (R_ n i X)<=L1 X
 | _,[]=>by rw [GC];exact AM _
 | 0,x::l=>by have:=Ny n (n - 1) l;show x.natAbs+L1 (R_ n (n - 1) l)<=x.natAbs+L1 l;omega
 | i+1,x::l=>by have:=Ny n i l;show L1 (R_ n i l)<=x.natAbs+L1 l;omega
theorem LC {b:Type} {n:Nat} (a:1<=n):∀ (i:Nat) (X:List b),i<n->n*(R_ n i X).length<=X.length+(n - 1) - i
 | _,[],_=>by rw [GC];exact Ab _
 | 0,x::l,h=>by
   have:=LC a (n - 1) l ⋯;show n*((R_ n (n - 1) l).length+1)<=l.length+1+(n - 1) - 0;rw [Nat.mul_succ];omega
 | i+1,x::l,h=>by
   have:=LC a i l ⋯;show n*(R_ n i l).length<=l.length+1+(n - 1) - (i+1);omega
def Iz.st {A k n i:Nat} {f:Sr} (b:1<=n) (c:i<n) (h:Iz A k f):Iz A ((k+(n - 1) - i) / n) (Sr.st n i f):=by
 obtain ⟨X,rfl,a,l⟩:=h;refine ⟨R_ n i X,Sr.ext' λj=>?_,A7 (Ny n i X) a,(Nat.le_div_iff_mul_le ⋯).mpr ?_⟩
 ·show ((co (R_ n i X) j:Int):Rat)=((co X (i+j*n):Int):Rat);rw [Nx b X i j c]
 ·have:=LC b i X c;rw [B5];omega
def Qz.mono {A B n m:Nat} {f:Sr} (h:Qz A n f) (a:A<=B) (b:n<=m):Qz B m f:=let ⟨c,d,i⟩:=h;⟨c,d,i.mono a b⟩
def Qz.mul {A B n m:Nat} {f g:Sr} (a:1<=m) (h:Qz A n f) (h':Qz B m g):Qz (A*B) (n+m - 1) (f*g):=by
 obtain ⟨c,b,i⟩:=h;obtain ⟨d,e,j⟩:=h';refine ⟨c*d,λz=>(D6.mp z).elim b e,?_⟩;have:=i.mul a j;rw [show Sr.num c*f*(Sr.num d*g)=Sr.num c*Sr.num d*(f*g) by ext,Sr.num_num] at this;exact this
def Qz.st {A k n i:Nat} {f:Sr} (a:1<=n) (b:i<n) (h:Qz A k f):Qz A ((k+(n - 1) - i) / n) (Sr.st n i f):=by
 obtain ⟨c,d,j⟩:=h;refine ⟨c,d,?_⟩;rw [<-Sr.st_num];exact j.st a b
def Qz.cm1 {A n d:Nat} {f u:Sr} (b:Sr.Pol f) (e:Iz 1 (d+1) u) (h:Qz A n f) (n1:1<=n):Qz A (d*(n - 1)+1) (Sr.cm u f):=by
 obtain ⟨c,g,j⟩:=h;refine ⟨c,g,?_⟩;have k:=Iz.cm (S:=1) e ∅ ∅ j n1;have i:Sr.num (((1:Int) ^ (n - 1):Int):Rat)=1:=by rw [Int.one_pow];exact Sr.n1
 have m:Sr.num ((1:Int):Rat)⁻¹*u=u:=by
  have:=Sr.num_inv (show ((1:Int):Rat)≠0 by decide);rw [show Sr.num ((1:Int):Rat)=1 from Sr.n1] at this;rw [show Sr.num ((1:Int):Rat)⁻¹=1 by grind];ext
 rw [i,m,Sr.cm_mul u (Sr.Pol.num c) b,Sr.cm_num,Nat.one_pow,Nat.mul_one,show ∀ a:Sr,1*a=a from λa=>by grind] at k;exact k
def JY (n:Nat):Iz 1 (n+1) (Sr.X n):=by
 refine ⟨List.replicate n 0++[1],?_,?_,by simp⟩
 ·rw [Dc];simp [Sr.X]
 ·unfold L1;simp
def Qz.fp {A n b e:Nat} {l:cW} (h:Qz A n (sr l)) (d:A<2 ^ b) (f:n<2 ^ e) (a:AW l) (g:Nz l) (j:l≠[]):Fp (b+n*(2*e+4)) (AK l):=by
 obtain ⟨c,k,i⟩:=h;exact i.fp d f a (Sr.Pol.num c) (Sr.ne_mul (Sr.Pol.num c) (AL l) (FN k) (B4 a g j)) rfl
def LD {x k:Nat} {l m:cW} {Y:Sr} (F:Fp x (AK m)) (a:AW l) (o:Nz l) (p:l≠[]) (q:AW m) (r:Sr.Pol Y) (e:sr m=Y*sr l) (c:l.length<=k):Qz (k*2 ^ x) k (sr l):=by
 obtain ⟨g,P,d,u,v,w,f⟩:=UU _ (AK l) (JT a o p) (AM _);have A:=K4 a q r e F;have j:si (AK l)=Sr.num (g:Rat)*si P:=by rw [<-Fz,<-u]
 have B:=A P w v (JS (Sr.Pol.num (g:Rat)) j);have i:=Sr.num_inv (Aa d);have n:=Aa (AV (Bz a).1);have I:=Sr.num_inv n;refine ⟨(g:Rat)⁻¹*(Ac l:Rat),λz=>(D6.mp z).elim (λh=>Aa d ()) n,P,?_,?_,?_⟩
 ·rw [<-Sr.num_num,En a,j];ext
 ·have b:∀ Z:de,(∀ z∈Z,z.natAbs<=2 ^ x)->L1 Z<=Z.length*2 ^ x:=λZ=>by
   induction Z with
   | nil=>intro _;exact Ab _
   | cons z Z C=>
     intro h;have:=C λy D=>h y (CQ _ D);have J:=h z CD;show z.natAbs+L1 Z<=(Z.length+1)*2 ^ x;rw [Cy];omega
  refine A7 (b P λz G=>CP (Hv B z G)) (BW _ ?_);rw [f,Bf];exact c
 ·rw [f,Bf];exact c
def Qz.gq {A n b:Nat} {l:cW} (h:Qz A n (sr l)) (o:A<2 ^ b) (i:AW l) (j:Nz l) (u:l≠[]) (one:AX l (l.length - 1)=(1,1)):Gq b b l:=by
 obtain ⟨c,p,X,e,q,v⟩:=h
 have f:∀ k,((co X k:Int):Rat)=c*B_ l k:=λk=>by
  have:=mQ (congrArg Sr.c e) k;rw [Sr.num_mul] at this;exact this
 have a:((co X (l.length - 1):Int):Rat)=c:=by rw [f,Em one];ext
 have g:∀ k,Bd b (co X k):=λk=>DQ (A7 (Nt X k) q) o;have d:co X (l.length - 1)≠0:=λz=>p (by rw [<-a,z];rfl);generalize r:co X (l.length - 1)=z at a d;have m:Bd b z:=r ▸ g _;rcases Int.lt_or_gt_of_ne d with s | s
 ·refine DZ i j (M:=-z) ⋯ m.neg (N:=λk=>-(co X k)) (λk=>?_) λk=>(g k).neg;have:=Aa d;have h:=f k;rw [<-a] at h;push_cast;rw [h];ext
 ·refine DZ i j (M:=z) s m (N:=λk=>co X k) (λk=>?_) g;have:=Aa d;have h:=f k;rw [<-a] at h;rw [h];ext
def Eo (n:Nat):n<2 ^ E_ n:=Nat.lt_log2_self
def Sq.cn {c:Int} {z:Sz} {T B:cW} (h:Sq c z T B):∃ (N D Y:Sr) (a:Int),Iz z.A z.n N/\Iz z.C z.m D/\D≠0/\a≠0/\a.natAbs<=z.k/\Sr.Pol Y/\Y≠0/\Sr.num (c:Rat)*Sr.num (a:Rat)*D=Y*sr B/\N=Y*sr T:=by
 obtain ⟨N,D,a,d,b,f,g,j,e⟩:=h.ex;have pc:Sr.Pol (Sr.num (c:Rat)*Sr.num (a:Rat)):=(Sr.Pol.num _).mul (Sr.Pol.num _);obtain ⟨Y,k,i,m⟩:=Hy h.lw d.pol (pc.mul b.pol) e;refine ⟨N,D,Y,a,d,b,f,g,j,k,λz=>?_,i,m⟩;exact Sr.ne_mul pc b.pol (Sr.ne_mul (Sr.Pol.num _) (Sr.Pol.num _) (FN (Aa h.c0)) (FN (Aa g))) f (by rw [i,z];ext)
def Sq.rp {c:Int} {z:Sz} {T B:cW} (h:Sq c z T B):Rp z.b z.n z.m T B:=by
 obtain ⟨N,D,a,m,f,o,p,q,e⟩:=h.ex;have g:∀ n,n<=z.b->2 ^ n<=2 ^ z.b:=λn r=>EL ∅ r;have u:E_ z.A<=z.b:=Nat.le_max_left ..;have M:E_ z.C+E_ z.k+200<=z.b:=Nat.le_max_right ..;obtain ⟨X,v,w,x,y⟩:=m.row (b:=z.b) (CO (Eo z.A) (g _ u));have d:=(f.smul (c*a));rw [nI] at d
 have sz:(c*a).natAbs*z.C<2 ^ z.b:=by
  rw [BN];have A:c.natAbs<2 ^ 200:=h.cb;have C:a.natAbs<2 ^ E_ z.k:=DQ q (Eo z.k);have i:c.natAbs*a.natAbs*z.C<=2 ^ 200*2 ^ E_ z.k*z.C:=BW _ (Be (CP A) (CP C));have F:0<2 ^ 200*2 ^ E_ z.k:=Nat.mul_pos (Nat.pow_pos ∅) (Nat.pow_pos ∅);have j:2 ^ 200*2 ^ E_ z.k*z.C<2 ^ 200*2 ^ E_ z.k*2 ^ E_ z.C:=Nat.mul_lt_mul_of_pos_left (Eo z.C) F;rw [<-Cj,<-Cj] at j;exact DQ (by rw [<-Cj] at i;exact i) (CO j (g _ ⋯))
 obtain ⟨W,G,k,I,J⟩:=d.row sz;have L:Sr.num (c:Rat)*Sr.num (a:Rat)*D≠0:=Sr.ne_mul ((Sr.Pol.num _).mul (Sr.Pol.num _)) f.pol (Sr.ne_mul (Sr.Pol.num _) (Sr.Pol.num _) (FN (Aa h.c0)) (FN (Aa p))) o;exact ⟨h.lw,X,W,Ud G (by rw [k];exact L),v,x,I,y,J,by rw [w,k];exact e⟩
def Sq.fT {c:Int} {z:Sz} {T B:cW} (h:Sq c z T B) (d:z.n<=31) (f:T≠[]):Fp z.xA (AK T):=by
 obtain ⟨N,D,Y,j,g,_,_,_,_,a,i,_,b⟩:=h.cn;exact g.fp (e:=5) (Eo z.A) ⋯ h.lw.lt a (by rw [b];exact Sr.ne_mul a (AL T) i (B4 h.lw.lt h.lw.nt f)) b
def Sq.fBe {c:Int} {z:Sz} {T B:cW} {e:Nat} (h:Sq c z T B) (b:z.m<2 ^ e):Fp (E_ z.C+z.m*(2*e+4)) (AK B):=by
 obtain ⟨N,D,Y,a,_,d,f,g,_,i,k,j,_⟩:=h.cn;have m:=Sr.num_inv (Aa h.c0);have n:=Sr.num_inv (Aa g)
 exact d.fp (e:=e) (Eo z.C) b h.lw.lb (Y:=Sr.num (c:Rat)⁻¹*Sr.num (a:Rat)⁻¹*Y) (((Sr.Pol.num _).mul (Sr.Pol.num _)).mul i) f (by
  have:Sr.num (c:Rat)⁻¹*Sr.num (a:Rat)⁻¹*Y*sr B=Sr.num (c:Rat)⁻¹*Sr.num (a:Rat)⁻¹*(Sr.num (c:Rat)*Sr.num (a:Rat)*D):=by rw [j];ext
  rw [this];ext)
def Sq.fB {c:Int} {z:Sz} {T B:cW} (h:Sq c z T B) (a:z.m<=31):Fp z.xC (AK B):=h.fBe (e:=5) ⋯
def Sq.sum {c:Int} {z y:Sz} {T B o k X Y:cW} (h:Sq c z T B) (h':Sq c y o k) (l:Lw X Y) (w:1<=z.m) (p:1<=y.m) (e:sr X*(sr B*sr k)=(sr T*sr k+sr o*sr B)*sr Y):Sq c (z.ad y) X Y:=by
 obtain ⟨N,D,d,r,f,x,A,u,C⟩:=h.ex;obtain ⟨F,j,a,g,b,m,n,i,G⟩:=h'.ex;have pc:∀ d:Int,Sr.Pol (Sr.num (c:Rat)*Sr.num (d:Rat)):=λd=>(Sr.Pol.num _).mul (Sr.Pol.num _);have q:=Nv (s:=1) l h.lw h'.lw r.pol ((pc d).mul f.pol) g.pol ((pc a).mul b.pol) C G (by rw [e,Sr.num_one];ext);rw [Sr.num_one] at q;have v:=((r.mul p b).smul a).add ((g.mul w f).smul d);refine ⟨l,h.c0,h.cb,Sr.num (a:Rat)*(N*j)+Sr.num (d:Rat)*(F*D),D*j,d*a,v.mono ?_ ?_,f.mul p b,Sr.ne_mul f.pol b.pol x m,BK A n,?_,?_⟩
 ·show _<=y.k*(z.A*y.C)+z.k*(y.A*z.C);exact Nat.add_le_add (BW _ i) (BW _ u)
 ·show _<=max (z.n+y.m) (y.n+z.m) - 1;omega
 ·rw [BN];exact Be u i
 ·refine Sr.cancel ((AL X).mul (((Sr.Pol.num _).mul (Sr.Pol.num _)).mul (f.pol.mul b.pol))) (v.pol.mul (AL Y)) (Sr.Pol.num (c:Rat)) (FN (Aa h.c0)) ?_;rw [nI];have I:sr X*(Sr.num (c:Rat)*(Sr.num (d:Rat)*Sr.num (a:Rat))*(D*j))*Sr.num (c:Rat)=sr X*(Sr.num (c:Rat)*Sr.num (d:Rat)*D*(Sr.num (c:Rat)*Sr.num (a:Rat)*j)):=by ext
  rw [I,q];ext
def Sq.mul {c d:Int} {z y:Sz} {T B n o X Y:cW} (h:Sq c z T B) (h':Sq d y n o) (r:Bd 200 (c*d)) (l:Lw X Y) (u:1<=y.m) (v:1<=y.n) (e:sr X*(sr B*sr o)=sr T*sr n*sr Y):Sq (c*d) (z.mu y) X Y:=by
 obtain ⟨N,D,b,p,i,w,x,A,C⟩:=h.ex;obtain ⟨F,G,f,g,a,j,k,m,I⟩:=h'.ex;have pc:∀ (c b:Int),Sr.Pol (Sr.num (c:Rat)*Sr.num (b:Rat)):=λc b=>(Sr.Pol.num _).mul (Sr.Pol.num _);have q:=sN l h.lw h'.lw p.pol ((pc c b).mul i.pol) g.pol ((pc d f).mul a.pol) C I e;refine ⟨l,BK h.c0 h'.c0,r,N*F,D*G,b*f,p.mul v g,i.mul u a,Sr.ne_mul i.pol a.pol w j,BK x k,?_,?_⟩
 ·rw [BN];exact Be A m
 ·rw [nI,nI,<-q];ext
def Sq.up {c:Int} {z:Sz} {T B:cW} (h:Sq c z T B) {t:Int} {t':Nat} (b:t≠0) (d:t.natAbs<=t') (e:Bd 200 (c*t)):Sq (c*t) { z with A:=t'*z.A } T B:=by
 obtain ⟨N,D,a,f,g,i,j,k,m⟩:=h.ex;refine ⟨h.lw,BK h.c0 b,e,Sr.num (t:Rat)*N,D,a,(f.smul t).mono (BW _ d) (AM _),g,i,j,k,?_⟩;rw [nI];have:sr T*(Sr.num (c:Rat)*Sr.num (t:Rat)*Sr.num (a:Rat)*D)=Sr.num (t:Rat)*(sr T*(Sr.num (c:Rat)*Sr.num (a:Rat)*D)):=by ext
 rw [this,m];ext
def Sq.zero {c:Int} (a:c≠0) (b:Bd 200 c) (z:Sz) (C1:1<=z.C) (d:1<=z.m) (e:1<=z.k):Sq c z [] [(1,1)]:=
 ⟨lw1 (λ_ h=>nomatch h) (λ_ h=>nomatch h),a,b,0,1,1,Nw _ _,⟨[1],cy,C1,d⟩,one_ne,∅,e,by rw [GA];ext⟩
def IB {a:Nu} (l:Low a.1 a.2) (h:a.1≠0):val a≠0:=λz=>by
 have b:=Aa h;have c:=Aa (AV l.pos);unfold val at z;ext
def sO {a b:Nu} (c:Low a.1 a.2) (d:Low b.1 b.2) (e:a.1≠0) (u:Sr):xq u a b=Sr.num ((a.1*b.2:Int):Rat)⁻¹*(Sr.num (a.2:Rat)*(Sr.num (b.2:Rat)*u - Sr.num (b.1:Rat))):=by
 have j:=Aa e;have k:=Aa (AV c.pos);have f:=Aa (AV d.pos);have m:=Sr.num_inv f;have g:(val a)⁻¹=(a.2:Rat)*(a.1:Rat)⁻¹:=by unfold val;ext
 have h:val b=(b.1:Rat)*(b.2:Rat)⁻¹:=by unfold val;ext
 have i:((a.1*b.2:Int):Rat)⁻¹=(a.1:Rat)⁻¹*(b.2:Rat)⁻¹:=by rw [ER];ext
 unfold xq;rw [g,h,i,<-Sr.num_num,<-Sr.num_num,<-Sr.num_num];ext
def GD {u:Sr} (pu:Sr.Pol u) (a b:Nu):Sr.Pol (xq u a b):=(Sr.Pol.num _).mul (pu.sub (Sr.Pol.num _))
def Um {v u:Sr} (pu:Sr.Pol u) (a b:Nu):Sr.cm v (xq u a b)=xq (Sr.cm v u) a b:=by
 unfold xq;rw [Sr.cm_mul v (Sr.Pol.num _) (pu.sub (Sr.Pol.num _)),Sr.cm_sub v pu (Sr.Pol.num _),Sr.cm_num,Sr.cm_num]
def LE {f:Sr} (n:Nat) (a b:Nu) (c:Sr.Pol f):Sr.cm (Sr.X n) (Sr.cm (xq (Sr.X 1) a b) f)=Sr.cm (xq (Sr.X n) a b) f:=by
 rw [Sr.cm_cm (GD (Sr.pXn 1) a b) c,Um (Sr.pXn 1),Sr.cm_X]
noncomputable def bk (a b:Nu):Sr:=Sr.num (val a)*Sr.X 1+Sr.num (val b)
def sP (a b:Nu):Sr.Pol (bk a b):=((Sr.Pol.num _).mul (Sr.pXn 1)).add (Sr.Pol.num _)
def sQ {a b:Nu} (h:val a≠0):Sr.cm (bk a b) (xq (Sr.X 1) a b)=Sr.X 1:=by
 have i:=Sr.num_inv h;rw [Um (Sr.pXn 1),Sr.cm_X];unfold xq bk;ext
def LF {a b:Nu} (h:val a≠0) {f:Sr} (c:Sr.Pol f):Sr.cm (bk a b) (Sr.cm (xq (Sr.X 1) a b) f)=f:=by
 rw [Sr.cm_cm (GD (Sr.pXn 1) a b) c,sQ h,Sr.cm_id c]
def N2 {a b:Nu} (h:val a≠0) {n:Nat} (n0:0<n) {f:Sr} (c:Sr.Pol f) (d:f≠0):Sr.cm (xq (Sr.X n) a b) f≠0:=by
 rw [<-LE n a b c];refine Sr.cX_ne n0 (Sr.cm_pol (GD (Sr.pXn 1) a b) c) λz=>d ?_;have:=LF (b:=b) h c;rw [z,Sr.cm_zero] at this;exact this.symm
def LG {g:Nat} {z:Sz} (h:bh g z=true):1<=z.n/\1<=z.m/\z.n<=4/\z.m<=4/\z.n<=z.m+g/\g<=3/\z.b<=1000:=by
 unfold bh at h;simp only [C9,decide_eq_true_eq] at h;omega
def Uo {a b:Nu} (c:Low b.1 b.2) (d:a.1≠0) (g:Nat):cS a b g≠0:=Int.pow_ne_zero (BK d (AV c.pos))
def LH {a b:Nu} (c:Bd 40 a.1) (d:Bd 20 b.2) {g:Nat} (h:g<=3):Bd 200 (cS a b g):=((c.mul d).pow g).mono ⋯
def sR {a b:Nu} (d:Bd 40 a.1/\Bd 20 a.2) (c:Bd 40 b.1/\Bd 20 b.2) (n:Nat):Iz (2 ^ 61) (n+1) (Sr.num (a.2:Rat)*(Sr.num (b.2:Rat)*Sr.X n - Sr.num (b.1:Rat))):=by
 refine (((JY n).smul b.2).sub (LB b.1 (AM _) (AM 1))).smul a.2 |>.mono ?_ ⋯;have e:a.2.natAbs<2 ^ 20:=d.2;have f:b.2.natAbs<2 ^ 20:=c.2;have g:b.1.natAbs<2 ^ 40:=c.1;have:a.2.natAbs*(b.2.natAbs*1+b.1.natAbs)<=2 ^ 20*(2 ^ 20+2 ^ 40):=Be ⋯ ⋯;exact A7 this ∅
def Sq.cm {z:Sz} {T B d f:cW} {a b:Nu} {n g:Nat} (h:Sq 1 z T B) (p:Low a.1 a.2) (q:Low b.1 b.2) (j:a.1≠0) (r:Bd 40 a.1/\Bd 20 a.2) (u:Bd 40 b.1/\Bd 20 b.2) (L:bh g z=true) (n0:0<n) (l:Lw d f) (e:sr d*Sr.cm (xq (Sr.X n) a b) (sr B)=Sr.cm (xq (Sr.X n) a b) (sr T)*sr f):Sq (cS a b g) (yz n g z) d f:=by
 obtain ⟨M,O,z3,z4,z5,P,z7⟩:=LG L;obtain ⟨N,D,c,v,k,R,S,U,C⟩:=h.ex;rw [show Sr.num ((1:Int):Rat)=1 from Sr.n1,show (1:Sr)*Sr.num (c:Rat)*D=Sr.num (c:Rat)*D by grind] at C;have F:=sR r u n;have w:a.1*b.2≠0:=BK j (AV q.pos);have W:Bd 61 (a.1*b.2):=(r.1.mul u.2).mono ⋯;have x:(a.1*b.2).natAbs<=2 ^ 61:=CP W;have jN:=Iz.cm F w x v M;have jD:=Iz.cm F w x k O;rw [<-sO p q j] at jN jD;have pu:=GD (Sr.pXn n) a b
 have X:Sr.cm (xq (Sr.X n) a b) (sr T)*(Sr.num (c:Rat)*Sr.cm (xq (Sr.X n) a b) D)=Sr.cm (xq (Sr.X n) a b) N*Sr.cm (xq (Sr.X n) a b) (sr B):=by
  rw [<-Sr.cm_mul _ v.pol (AL B),<-C,Sr.cm_mul _ (AL T) ((Sr.Pol.num _).mul k.pol),Sr.cm_mul _ (Sr.Pol.num _) k.pol,Sr.cm_num]
 have Y:=N2 (IB p j) n0 (AL B) (B4 h.lw.lb h.lw.nb h.lw.ne) (b:=b);have Z:=N2 (IB p j) n0 k.pol R (b:=b);have pN:=Sr.cm_pol pu v.pol;have G:=Sr.cm_pol pu k.pol;have pB:=Sr.cm_pol pu (AL B);have pT:=Sr.cm_pol pu (AL T);generalize Sr.cm (xq (Sr.X n) a b) N=y at *;generalize Sr.cm (xq (Sr.X n) a b) D=i at *;generalize Sr.cm (xq (Sr.X n) a b) (sr B)=I at *;generalize Sr.cm (xq (Sr.X n) a b) (sr T)=J at *
 have A:sr d*(Sr.num (c:Rat)*i)=y*sr f:=by
  refine Sr.cancel ((AL d).mul ((Sr.Pol.num _).mul G)) (pN.mul (AL f)) pB Y ?_;rw [show sr d*(Sr.num (c:Rat)*i)*I=sr d*I*(Sr.num (c:Rat)*i) by ext,e,show J*sr f*(Sr.num (c:Rat)*i)=J*(Sr.num (c:Rat)*i)*sr f by ext,X];ext
 have hg:g+z.m - z.n+(z.n - 1)=g+(z.m - 1):=by omega
 have m:=jN.smul ((a.1*b.2) ^ (g+z.m - z.n))
 have o:Sr.num (((a.1*b.2) ^ (g+(z.m - 1)):Int):Rat)*y=Sr.num (((a.1*b.2) ^ (g+z.m - z.n):Int):Rat)*(Sr.num (((a.1*b.2) ^ (z.n - 1):Int):Rat)*y):=by
  rw [<-hg,Int.pow_add,nI];ext
 rw [<-o] at m;refine ⟨l,Uo q j g,LH r.1 u.2 P,_,_,c,m.mono ?_ (AM _),jD.mono ?_ (AM _),Sr.ne_mul (Sr.Pol.num _) G (FN (Aa (Int.pow_ne_zero w))) Z,S,U,?_⟩
 ·show ((a.1*b.2) ^ (g+z.m - z.n)).natAbs*(z.A*(2 ^ 61) ^ (z.n - 1))<=z.A*2 ^ (61*(z.n - 1+(g+z.m - z.n)));rw [Int.natAbs_pow,Nat.pow_mul,Cj];have:=BW (z.A*(2 ^ 61) ^ (z.n - 1)) (Nat.pow_le_pow_left x (g+z.m - z.n));refine A7 this (Nat.le_of_eq ?_);ext
 ·show z.C*(2 ^ 61) ^ (z.m - 1)<=z.C*2 ^ (61*(z.m - 1));rw [Nat.pow_mul];exact AM _
 ·unfold cS;rw [Int.pow_add,nI,show sr d*(Sr.num (((a.1*b.2) ^ g:Int):Rat)*Sr.num (c:Rat)*(Sr.num (((a.1*b.2) ^ (z.m - 1):Int):Rat)*i))=Sr.num (((a.1*b.2) ^ g:Int):Rat)*Sr.num (((a.1*b.2) ^ (z.m - 1):Int):Rat)*(sr d*(Sr.num (c:Rat)*i)) by ext,A];ext
def FFK.of {K:W.Frag} {H:Hp} {p:Addr} {T B:cW} (h:FF H p T B):FFK K H p T B:=by
 obtain ⟨u,v,hp,⟨a,b,c⟩,⟨d,e,f⟩⟩:=h;exact ⟨u,v,a,d,SqT.of hp,SqT.of b,NuK.of c,SqT.of e,NuK.of f⟩
def JZ {x n m:Nat} (h:be x n m=true):C0 x n m 5:=by
 unfold be at h;simp only [C9,decide_eq_true_eq] at h;obtain ⟨⟨⟨⟨a,b⟩,d⟩,e⟩,c⟩:=h;exact ⟨a,b,⋯,⋯,⋯,⋯,∅,c⟩
def Gz {z:Sz} (h:z.sm=true):z.b<=5000/\1<=z.n/\1<=z.m/\z.n<=31/\z.m<=31:=by
 unfold Sz.sm at h;simp only [C9,decide_eq_true_eq] at h;omega
def Sq.all {c:Int} {z:Sz} {T B:cW} (h:Sq c z T B) (s:z.sm=true):Gq 10960 10960 T/\Gq 10960 10960 B/\T.length<=z.n/\B.length<=z.m:=by
 obtain ⟨a,b,d,f,g⟩:=Gz s;have A:=h.rp.all (e:=5) ⋯ ⋯ ⋯ ⋯ ∅;exact ⟨A.gt.mono ⋯ ⋯,A.gb.mono ⋯ ⋯,A.tn,A.bm⟩
def Sq.num_sum {c:Int} {z y:Sz} {T B p q:cW} (h:Sq c z T B) (h':Sq c y p q) (r:1<=z.m) (u:1<=y.m):∃ N W:Sr,Iz (z.ad y).A (z.ad y).n N/\Sr.Pol W/\W≠0/\N=W*(sr T*sr q+sr p*sr B):=by
 obtain ⟨N,D,Y,d,v,w,O,P,x,e,A,C,F⟩:=h.cn;obtain ⟨f,g,G,a,i,j,I,J,k,b,m,n,o⟩:=h'.cn;have L:=((v.mul u j).smul a).add ((i.mul r w).smul d);have R:=Sr.num_inv (Aa h.c0);refine ⟨Sr.num (a:Rat)*(N*g)+Sr.num (d:Rat)*(f*D),Sr.num (c:Rat)⁻¹*(Y*G),L.mono ?_ ?_,(Sr.Pol.num _).mul (e.mul b),Sr.ne_mul (Sr.Pol.num _) (e.mul b) (FN (λz=>by have:=Aa h.c0;ext)) (Sr.ne_mul e b A m),?_⟩
 ·show _<=y.k*(z.A*y.C)+z.k*(y.A*z.C);exact Nat.add_le_add (BW _ k) (BW _ x)
 ·show _<=max (z.n+y.m) (y.n+z.m) - 1;omega
 ·have M:Sr.num (a:Rat)*(N*g)+Sr.num (d:Rat)*(f*D)=Sr.num (c:Rat)⁻¹*(N*(Sr.num (c:Rat)*Sr.num (a:Rat)*g)+f*(Sr.num (c:Rat)*Sr.num (d:Rat)*D)):=by ext
  rw [M,C,n,F,o];ext
def LJ {K:W.Frag} {H:Hp} {Q:VK} {E:XK} {p q:Addr} {c:Int} {z y:Sz} {T B f a:cW} (F:FFK K H p T B) (v:FF H q f a) (h:Sq c z T B) (h':Sq c y f a) (ok:aR z y=true)
  (k:∀ t b X Y,Same H b->FF b t X Y->Sq c (z.ad y) X Y->sr X*(sr B*sr a)=(sr T*sr a+sr f*sr B)*sr Y->Q (.ref t) b):Gp K [.ref p,.ref q] H Q E:=by
 unfold aR at ok;simp only [C9,decide_eq_true_eq] at ok;obtain ⟨⟨⟨⟨j,m⟩,x⟩,A⟩,C⟩:=ok;obtain ⟨D,I,l1,J⟩:=h.all j;obtain ⟨L,M,l3,O⟩:=h'.all m;obtain ⟨_,s2,n,s4,P⟩:=Gz j;obtain ⟨_,t2,o,t4,R⟩:=Gz m;have w:(z.ad y).n=max (z.n+y.m) (y.n+z.m) - 1:=rfl;have r:=JZ C;refine ⟨p,q,T,B,f,a,max z.xC y.xC,(z.ad y).xA,(z.ad y).n,z.m,y.m,min z.m y.m,5,rfl,F,v,h.lw,h'.lw,D,I,L,M,J,O,⋯,⋯,(h.fB P).mono (Nat.le_max_left ..),(h'.fB R).mono (Nat.le_max_right ..),JZ x,A,⋯,λu G lo S U g Z e=>?_,⋯,r,λt b X Y s F l e=>k t b X Y s F (h.sum h' l n o e) e⟩;obtain ⟨N,W,iN,i,W0,eN⟩:=h.num_sum h' n o;have d:N=W*G*sr u:=by rw [eN,<-e];ext
 exact iN.fp (e:=5) (Eo _) r.ne lo (i.mul g) (by rw [d];exact Sr.ne_mul (i.mul g) (AL u) (Sr.ne_mul i g W0 Z) (B4 lo S U)) d
def N3 {K:W.Frag} {H:Hp} {Q:VK} {E:XK} {p q:Addr} {c d:Int} {z y:Sz} {T B b f:cW} (F:FF H p T B) (m:FF H q b f) (h:Sq c z T B) (h':Sq d y b f) (n:Bd 200 (c*d)) (ok:aY z y=true)
  (k:∀ t a X Y,Same H a->FF a t X Y->Sq (c*d) (z.mu y) X Y->sr X*(sr B*sr f)=sr T*sr b*sr Y->Q (.ref t) a):Hk K [.ref p,.ref q] H Q E:=by
 unfold aY at ok;simp only [C9] at ok;obtain ⟨⟨⟨i,j⟩,o⟩,r⟩:=ok;obtain ⟨u,v,w,x⟩:=h.all i;obtain ⟨A,C,D,G⟩:=h'.all j;obtain ⟨_,P,R,I,J⟩:=Gz i;obtain ⟨_,L,M,N,O⟩:=Gz j;exact ⟨p,q,T,B,b,f,max z.xA y.xC,z.n,z.m,max y.xA z.xC,y.n,y.m,5,rfl,F,m,h.lw,h'.lw,u.mono ∅ ∅,v.mono ∅ ∅,A.mono ∅ ∅,C.mono ∅ ∅,w,G,D,x,λg=>(h.fT I g).mono (Nat.le_max_left ..),(h'.fB O).mono (Nat.le_max_right ..),λg=>(h'.fT N g).mono (Nat.le_max_left ..),(h.fB J).mono (Nat.le_max_right ..),JZ o,JZ r,λt a X Y s F l e=>k t a X Y s F (h.mul h' n l M L e) e⟩
theorem Up {f:dH} {n:Nat} {x s:Rat}:∀ d,d<=n->evF (λi=>f i*s ^ i) n x d=s ^ (n - d)*evF f n (s*x) d
 | 0,_=>by show (0:Rat)=s ^ n*0;ext
 | d+1,a=>by
   show f (n - 1 - d)*s ^ (n - 1 - d)+x*evF (λi=>f i*s ^ i) n x d=s ^ (n - (d+1))*(f (n - 1 - d)+s*x*evF f n (s*x) d);rw [Up d ⋯,show n - d=(n - (d+1))+1 by omega,show n - 1 - d=n - (d+1) by omega,D7];ext
theorem Uq {f:dH} {n:Nat} {z s:Rat}:∀ d,d<=n->evF (λi=>f i*s ^ (n - 1 - i)) n (s*z) d*s=s ^ d*evF f n z d
 | 0,_=>by show (0:Rat)*s=s ^ 0*0;ext
 | d+1,a=>by
   show (f (n - 1 - d)*s ^ (n - 1 - (n - 1 - d))+s*z*evF (λi=>f i*s ^ (n - 1 - i)) n (s*z) d)*s=s ^ (d+1)*(f (n - 1 - d)+z*evF f n z d);have h:=Uq (f:=f) (n:=n) (z:=z) (s:=s) d ⋯;rw [show n - 1 - (n - 1 - d)=d by omega,D7];generalize evF (λi=>f i*s ^ (n - 1 - i)) n (s*z) d=A at *;generalize evF f n z d=C at *;generalize s ^ d=S at *;ext
noncomputable def a8 (R:dF) (k:Nat):Rat:=(R k:Rat)
theorem Ur {c:Int} {R:dF} {n first:Nat} {y:Rat}:∀ d,d+1+first<=n->evF (a8 R) n y (d+1)=(sy c R n d:Rat)+(y - c)*evF (a8 (rnd c R n first)) n y d
 | 0,_=>by show (R (n - 1 - 0):Rat)+y*0=(R (n - 1):Rat)+(y - c)*0;rw [Cu];ext
 | d+1,h=>by
   show (R (n - 1 - (d+1)):Rat)+y*evF (a8 R) n y (d+1)=((R (n - 1 - (d+1))+c*sy c R n d:Int):Rat)+(y - c)*((rnd c R n first (n - 1 - d):Rat)+y*evF (a8 (rnd c R n first)) n y d);rw [Ur (c:=c) (first:=first) d ⋯]
   have e:rnd c R n first (n - 1 - d)=sy c R n d:=by
    unfold rnd;rw [mE ⋯,show n - 1 - (n - 1 - d)=d by omega]
   rw [e];push_cast;ext
noncomputable def mx (R:dF) (n:Nat) (y c:Rat):Nat->dH
 | 0,lo=>evF (a8 R) n y (n - lo)
 | t+1,lo=>(R lo:Rat)+(y - c)*mx R n y c t (lo+1)
theorem Us {c:Int} {R:dF} {n first:Nat} {y:Rat} (a:first+1<=n):∀ t lo,lo+t=first->mx R n y c t lo=mx (rnd c R n first) n y c (t+1) lo
 | 0,lo,h=>by
   show evF (a8 R) n y (n - lo)=(rnd c R n first lo:Rat)+(y - c)*evF (a8 (rnd c R n first)) n y (n - (lo+1));have e:rnd c R n first lo=sy c R n (n - 1 - lo):=by unfold rnd;rw [mE ⋯]
   rw [e,show n - lo=(n - 1 - lo)+1 by omega,show n - (lo+1)=n - 1 - lo by omega];exact Ur _ ⋯
 | t+1,lo,h=>by
   show (R lo:Rat)+(y - c)*mx R n y c t (lo+1)=(rnd c R n first lo:Rat)+(y - c)*mx (rnd c R n first) n y c (t+1) (lo+1);have e:rnd c R n first lo=R lo:=by unfold rnd;rw [mF ⋯]
   rw [e,Us a t (lo+1) ⋯]
theorem Ut {R:dF} {n:Nat} {y c:Rat}:∀ t lo,lo+t+1=n->mx R n y c t lo=evF (a8 R) n (y - c) (n - lo)
 | 0,lo,h=>by
   show evF (a8 R) n y (n - lo)=_;rw [show n - lo=0+1 by omega];show a8 R (n - 1 - 0)+y*0=a8 R (n - 1 - 0)+(y - c)*0;ext
 | t+1,lo,h=>by
   show (R lo:Rat)+(y - c)*mx R n y c t (lo+1)=_;rw [Ut t (lo+1) ⋯,show n - lo=(n - (lo+1))+1 by omega];show _=a8 R (n - 1 - (n - (lo+1)))+_;rw [show n - 1 - (n - (lo+1))=lo by omega];rfl
theorem Uu {c:Int} {R:dF} {n:Nat} {y:Rat}:∀ i,i+1<=n->mx (R' c R n i) n y c i 0=evF (a8 R) n y n
 | 0,_=>rfl
 | i+1,h=>by
   rw [<-Uu i ⋯];exact (Us ⋯ i 0 ⋯).symm
def sU {c:Int} {R:dF} {n:Nat} {y:Rat} (a:1<=n):evF (a8 (R' c R n (n - 1))) n y n=evF (a8 R) n (y+c) n:=by
 have h:=Uu (c:=c) (R:=R) (n:=n) (y:=y+c) (n - 1) ⋯;rw [Ut (n - 1) 0 ⋯] at h;rw [<-h,Cu];congr 1;ext
def Uv {a:Type} {n k:Nat} (f:Nat->a) (h:k<n):((List.range n).map f)[k]?=some (f k):=by
 rw [Aj,DD h];rfl
def sV (f:dH) (n:Nat) (x:Rat) (d:Nat):evF f n x (d+1)=f (n - 1 - d)+x*evF f n x d:=rfl
def N5 (m:Nat) (f:dF):Ad (m+1) f=Ad m f++[V.int (f m)]:=by
 unfold Ad;rw [List.range_succ,D4,D4];rfl
theorem N6 {b:Nat} {c:Int} {R:dF} {n:Nat} (a:Bd 40 c) (h:∀ j,Bd b (R j)):∀ d,Bd (b+41*d) (sy c R n d)
 | 0=>h _
 | d+1=>by
   have e:=(a.mul (N6 (n:=n) a h d)).mono (show 40+(b+41*d)<=b+41*d+40 by omega);exact (((h (n - 1 - (d+1))).mono (show b<=b+41*d+40 by omega)).add e).mono ⋯
def sW {c:Int} {R:dF} {n p:Nat} (h:p+1<n):sy c R n (n - 1 - p)=R p+c*sy c R n (n - 1 - (p+1)):=by
 rw [show n - 1 - p=(n - 1 - (p+1))+1 by omega];show R (n - 1 - (n - 1 - (p+1)+1))+_=_;rw [show n - 1 - (n - 1 - (p+1)+1)=p by omega]
theorem LK {b m:Nat} {c:Int} {R:dF} {n:Nat} (a:Bd 40 c) (h:∀ j,Bd b (R j)) (d:n<=m):∀ i j,Bd (b+41*m*i) (R' c R n i j)
 | 0,j=>h j
 | i+1,j=>by
   show Bd _ (rnd c (R' c R n i) n i j);have e:41*m*(i+1)=41*m*i+41*m:=by rw [Nat.mul_add,Nat.mul_one]
   unfold rnd;split
   ·exact (LK a h d i j).mono ⋯
   ·exact (N6 a (LK a h d i) _).mono ⋯
def Uw (ns:de):ns.map V.int=Ad ns.length λk=>ns.getD k 0:=by
 refine List.ext_getElem? λk=>?_;rcases Am k ns.length with h | h
 ·rw [CN _ h,Aj,AT,Ax h];rfl
 ·rw [Bh (by rw [AO];exact h),Bh (by rw [CI];exact h)]
def Ux {n k:Nat} {f:dF} {v:V} (h:(Ad n f)[k]?=some v):k<n/\v=.int (f k):=by
 have hk:k<n:=by have:=(By.mp h).1;rw [CI] at this;exact this
 rw [CN f hk] at h;exact ⟨hk,(mO h).symm⟩
def sX {l:cW} {a b:Int} {mv R:dF} (e:AW l) (g:0<b) (q:∀ k,k<l.length->R k=(AK l).getD k 0*b ^ (l.length - 1 - k)) (c:mv=R' a R l.length (l.length - 1)) (x:Rat) :
  evF (λk=>((mv k*b ^ k:Int):Rat) / ((Ac l*b ^ (l.length - 1):Int):Rat)) l.length x l.length=evF (B_ l) l.length (x+val (a,b)) l.length:=by
 rcases Cc l.length with h | h
 ·rw [h];rfl
 have o:=Bz e;have J:=Aa (AV o.1);have L:=Aa (AV g)
 have r:evF (B_ l) l.length (x+val (a,b)) l.length=evF (λj=>((AK l).getD j 0:Rat)) l.length (x+val (a,b)) l.length / (Ac l:Rat):=by
  rw [<-My];exact Il _ (AM _) λi _ _=>Do e o i
 have u:evF (λk=>((mv k*b ^ k:Int):Rat)) l.length x l.length=evF (a8 mv) l.length (b*x) l.length:=by
  have z:=Up (f:=a8 mv) (n:=l.length) (x:=x) (s:=(b:Rat)) l.length (AM _);rw [Nat.sub_self] at z;have v:evF (λk=>((mv k*b ^ k:Int):Rat)) l.length x l.length=evF (λi=>a8 mv i*(b:Rat) ^ i) l.length x l.length:=Il _ (AM _) λi _ _=>by unfold a8;push_cast;rfl
  rw [v,z];ext
 have w:evF (a8 mv) l.length (b*x) l.length=evF (a8 R) l.length (b*x+a) l.length:=by
  rw [c];exact sU h
 have p:=Uq (f:=λj=>((AK l).getD j 0:Rat)) (n:=l.length) (z:=x+val (a,b)) (s:=(b:Rat)) l.length (AM _)
 have y:(b:Rat)*(x+val (a,b))=b*x+a:=by
  show (b:Rat)*(x+(a:Rat) / (b:Rat))=_;ext
 rw [y] at p;have B:evF (a8 R) l.length (b*x+a) l.length=evF (λi=>((AK l).getD i 0:Rat)*(b:Rat) ^ (l.length - 1 - i)) l.length (b*x+a) l.length:=Il _ (AM _) λi _ D=>by unfold a8;rw [q i D];push_cast;rfl
 rw [My,u,w,B,r];obtain ⟨m,F⟩:∃ m,l.length=m+1:=⟨l.length - 1,⋯⟩
 have G:(b:Rat) ^ l.length=(b:Rat) ^ (l.length - 1)*b:=by
  rw [F];exact D7 ..
 rw [G] at p;have I:((b ^ (l.length - 1):Int):Rat)≠0:=Aa (AV (Int.pow_pos g));have d:((b ^ (l.length - 1):Int):Rat)=(b:Rat) ^ (l.length - 1):=by push_cast;rfl
 rw [d] at I;push_cast;generalize evF (λi=>((AK l).getD i 0:Rat)*(b:Rat) ^ (l.length - 1 - i)) l.length (b*x+a) l.length=A at *;generalize evF (λj=>((AK l).getD j 0:Rat)) l.length (x+val (a,b)) l.length=C at *;generalize (b:Rat) ^ (l.length - 1)=S at *;ext
def sY {x y z:Int} (a:y≠0) (b:z≠0):((x*z:Int):Rat) / ((y*z:Int):Rat)=(x:Rat) / (y:Rat):=by
 have c:=Aa a;have d:=Aa b;push_cast;ext
def sZ (h:Kh K vs H Q E):RA K { nx:=λ_ f=>Q .non f,rt:=Q } (L2.start ["row","whole","result","first","place"] vs) H:=by
 obtain ⟨p,a,c,b,n,rfl,hp,T,I,J,U,u,k⟩:=h;unfold RA;rwa [hp];intro w B;rw [Uw];have C:=AR B (.lst (Ad a.length λk=>a.getD k 0));have v:=C _ _ hp;rwa [v];rw [AO];have L:∀ i j,Bd (b+41*20*i) (R' c (λk=>a.getD k 0) a.length i j):=LK u (λj=>DJ J j) ⋯;refine ⟨⋯,⋯,ForR.by (λi g f=>∃ x m:d8,g=[some (.ref p),some (.int c),some (.ref w),x,m]/\Same H f/\f w=some (.lst (Ad a.length (R' c (λk=>a.getD k 0) a.length i)))) ⟨none,none,rfl,C,upd_same⟩ ?_ ?_⟩
 ·rintro i g D W ⟨x,m,rfl,r,d⟩;have z:=r _ _ hp;rwa [z];rw [AO];refine ⟨⋯,⋯,⋯,⋯,?_⟩;have en:((a.length:Int) - 2 - (0+(i:Int) - 1)).toNat=a.length - 1 - i:=by omega
  rw [en];refine ForJ.down (λj g f=>∃ m:d8,g=[some (.ref p),some (.int c),some (.ref w),some (.int (0+(i:Int))),m]/\Same H f/\f w=some (.lst (Ad a.length λq=>if q+j+1<a.length then R' c (λk=>a.getD k 0) a.length i q else sy c (R' c (λk=>a.getD k 0) a.length i) a.length (a.length - 1 - q)))) ⟨_,rfl,r,?_⟩ ?_ ?_
  ·rw [d];refine congrArg (λl=>some (HO.lst l)) (Gv λq F=>?_);by_cases h:q+0+1<a.length
   ·rw [mF h]
   ·rw [mE h,show a.length - 1 - q=0 by omega,show q=a.length - 1 by omega];rfl
  ·rintro j g M X ⟨y,rfl,A,e⟩;have N:((a.length:Int) - 2 - (j:Int))=((a.length - 2 - j:Nat):Int):=by omega
   rw [N];have G:=λq=>((N6 (n:=a.length) u (L i) (a.length - 1 - q)).mono (show _<=60000 by omega));generalize R' c (λk=>a.getD k 0) a.length i=R at e G ⊢
   have O:N_ (Ad a.length λq=>if q+j+1<a.length then R q else sy c R a.length (a.length - 1 - q)) ((a.length - 2 - j:Nat):Int)=some (V.int (R (a.length - 2 - j))):=by
    rw [IK (CN _ ⋯),mF ⋯]
   have P:N_ (Ad a.length λq=>if q+j+1<a.length then R q else sy c R a.length (a.length - 1 - q)) (((a.length - 2 - j:Nat):Int)+1)=some (V.int (sy c R a.length (a.length - 1 - (a.length - 2 - j+1)))):=by
    rw [DW (j:=a.length - 2 - j+1) ⋯ (CN _ ⋯),mE ⋯]
   rwa [e,O,P];refine ⟨Gw u (G _),a.length - 2 - j,?_,λb o h=>Kp.upd b o (Bi h B) (A b o h),?_⟩
   ·rw [CI];exact Fu rfl ⋯
   ·refine Gu ⋯ ?_ λq F S=>?_
    ·rw [mE ⋯];exact sW ⋯
    ·by_cases h:q+j+1<a.length
     ·rw [mF h,mF ⋯]
     ·rw [mE h,mE ⋯]
  ·rintro g M ⟨y,rfl,A,e⟩;refine ⟨_,_,rfl,A,?_⟩;rw [e];refine congrArg (λl=>some (HO.lst l)) (Gv λq F=>?_);show rnd c (R' c (λk=>a.getD k 0) a.length i) a.length i q=_;unfold rnd;by_cases h:q<i
   ·rw [mF h,mF ⋯]
   ·rw [mE h,mE ⋯]
 ·rintro g D ⟨x,m,rfl,r,d⟩;rwa [];have en:((a.length:Int) - 1).toNat=a.length - 1:=by omega
  rw [en] at d;exact k w D r d
def rA (h:JC K vs H Q E):xP K { nx:=λ_ u=>Q .non u,rt:=Q } (L2.start ["P","c","row","scales","number","last","stretched","moved"] vs) H:=by
 obtain ⟨p,q,C,l,a,b,D,n,rfl,hp,g,hN,G,b1,lo,ba,bb,l9,I,k⟩:=h;have X:=G.low;have nl:=G.nz;obtain ⟨bc,bB,bt⟩:=G.clr;have OL:=Bz X;have bL:Bd D (Ac l):=bB;have J:(AK l).length=l.length:=by unfold AK;rw [AO]
 have lx:=hN.length;have b0:0<b:=lo.pos;have F:∀ i,i<=n->Bd (40*n+1) (b ^ i):=λi f=>(bb.pow i).mono ⋯;have q6:D<=60000000:=by omega
 have p6:40*n+1<=60000000:=by omega
 unfold Nm at g;refine BJ (CH (AU rfl ⟨_,C,l,Ac l,rfl,SqT.of hp,NuK.of hN,X,OL,bL.mono ⋯,λq g=>(bt q g).mono ⋯,⋯,λr c H1 S hr hc=>?_⟩));show NG K _ [some (.ref p),some (.ref q),some (.ref r),none,none,none,none,none] H1;unfold NG SK;rwa [];refine ⟨sz ∅,λw hw=>?_⟩;have sw:=AR hw (.lst [.int 1]);have a5:=sw _ _ (S _ _ hp);refine ⟨⟨_,SqT.of a5⟩,ForT.by (xs:=C) (λi σ u=>∃ x4:d8,σ=[some (.ref p),some (.ref q),some (.ref r),some (.ref w),x4,none,none,none]/\Same H1 u/\u w=some (.lst (Ad (i+1) λk=>b ^ k))) ⟨none,rfl,sw,?_⟩ ?_ ?_ ?_⟩
 ·rw [upd_same];show some (HO.lst [V.int 1])=some (HO.lst [V.int (b ^ 0)]);rw [Int.pow_zero]
 ·rintro i σ u _ ⟨_,_,A,_⟩;exact A _ _ (S _ _ hp)
 ·rintro i x σ u f ⟨x4,rfl,A,v⟩;have b2:i<C.length:=(By.mp f).1;have a6:=A _ _ (S _ _ g);have M:N_ (Ad (i+1) λk=>b ^ k) (-1)=some (V.int (b ^ i)):=Kr (by rw [CI];omega) (by rw [CI];exact CN _ ⋯);rwa [v,M,a6];refine ⟨Ib v,Gw (F i ⋯) bb p6,DQ (show _<=1000 by rw [CI];omega) (by rw [sizeLine_eq];omega),λb o h=>Kp.upd b o (Bi h hw) (A b o h),?_⟩;rw [N5 (i+1),Int.pow_succ]
 ·rintro σ H2 ⟨x4,rfl,A,v⟩;rw [lx] at v;have a7:=A _ _ (S _ _ hp);have Y:=A _ _ hr;have Z:=A _ _ hc;unfold SJ SI;rwa [a7,Y];refine ⟨⟨_,SqL.of Z⟩,CompJ.enumL (xs:=(AK l).map V.int) (λi B u=>i<=l.length/\Same H2 u/\B=Ad i λk=>(AK l).getD k 0*b ^ (l.length - 1 - k)) ⟨Ab _,Same.refl H2,rfl⟩ ?_ ?_ ?_⟩
  ·rintro i B u ⟨h1,T,rfl⟩;exact ⟨by rw [AO,J];exact h1,sz (by rw [CI];omega),SqL.of (T _ _ Z)⟩
  ·rintro i x e B u hx ⟨h1,T,rfl⟩ he;rw [Uw,J] at hx;obtain ⟨f,rfl⟩:=Ux hx;have se:=AR he (.tup [.int (i:Int),.int ((AK l).getD i 0)]);have ab:=se _ _ (T _ _ v);have M:N_ (Ad (l.length+1) λk=>b ^ k) ((C.length:Int) - 1 - (i:Int))=some (V.int (b ^ (l.length - 1 - i))):=DW (j:=l.length - 1 - i) ⋯ (CN _ ⋯);rwa [ab,M];refine ⟨Gw (DJ bc i) (F _ ⋯) q6 p6,⋯,T.trans se,?_⟩;rw [N5 i]
  ·rintro B H3 ⟨_,T,rfl⟩ d hd;rw [AO,J] at *;have sd:=AR hd (.lst (Ad l.length λk=>(AK l).getD k 0*b ^ (l.length - 1 - k)));have u3:=T.trans sd;have ac:=u3 _ _ (A _ _ (S _ _ g));have ad:upd H3 d (.lst (Ad l.length λk=>(AK l).getD k 0*b ^ (l.length - 1 - k))) d=some (HO.lst (Ad l.length λk=>(AK l).getD k 0*b ^ (l.length - 1 - k))):=upd_same;unfold SH;rwa [ac,ad];have sl:((List.range l.length).map λk=>(AK l).getD k 0*b ^ (l.length - 1 - k)).length=l.length:=by rw [AO,BD]
   have sg:∀ k,k<l.length->((List.range l.length).map λk=>(AK l).getD k 0*b ^ (l.length - 1 - k)).getD k 0=(AK l).getD k 0*b ^ (l.length - 1 - k):=λk hk=>by
    rw [show ∀ t:de,t.getD k 0=(t[k]?).getD 0 from λt=>AT ..,Uv _ hk];rfl
   refine ⟨(List.range l.length).map λk=>(AK l).getD k 0*b ^ (l.length - 1 - k),rfl,D+(40*n+1),n,by rw [sl];exact l9,I,λz hz=>?_,⋯,ba,λm H4 s4 hm=>?_⟩
   ·obtain ⟨i,f,rfl⟩:=BM.mp hz;exact (DJ bc i).mul (F (l.length - 1 - i) ⋯)
   rw [sl] at hm;generalize hR:(λk=>((List.range l.length).map λk=>(AK l).getD k 0*b ^ (l.length - 1 - k)).getD k 0)=R at hm;have a0:∀ k,k<l.length->R k=(AK l).getD k 0*b ^ (l.length - 1 - k):=λk hk=>by rw [<-hR];exact sg k hk
   have bR:∀ j,Bd (D+(40*n+1)) (R j):=λj=>by
    rw [<-hR];refine DJ (λz hz=>?_) j;obtain ⟨i,f,rfl⟩:=BM.mp hz;exact (DJ bc i).mul (F (l.length - 1 - i) ⋯)
   have nn:41*n*(l.length - 1)<=41*n*n:=CS _ ⋯;have b3:41*n*n<=41*20*20:=Be (CS _ I) I;have O:=λj=>(LK ba bR l9 (l.length - 1) j).mono (show _<=D+(40*n+1)+41*n*n by omega);generalize a1:R' a R l.length (l.length - 1)=mv at hm O
   have y:1<=l.length->mv (l.length - 1)=(AK l).getD (l.length - 1) 0:=λh=>by
    rw [<-a1,Qv _ ⋯,a0 _ ⋯,Nat.sub_self,Int.pow_zero,Int.mul_one]
   have u4:=u3.trans s4;have a2:=u4 _ _ v;have aj:=u4 _ _ Y;unfold SG;rwa [];refine ⟨⟨_,SqL.of hm⟩,CompJ.enumL (xs:=Ad l.length mv) (λi B u=>i<=l.length/\Same H4 u/\B=Ad i λk=>mv k*b ^ k) ⟨Ab _,Same.refl H4,rfl⟩ ?_ ?_ ?_⟩
   ·rintro i B u ⟨h1,U,rfl⟩;exact ⟨by rw [CI];exact h1,sz (by rw [CI];omega),SqL.of (U _ _ hm)⟩
   ·rintro i x e B u hx ⟨h1,U,rfl⟩ he;obtain ⟨f,rfl⟩:=Ux hx;have se:=AR he (.tup [.int (i:Int),.int (mv i)]);have P:=se _ _ (U _ _ a2);have M:N_ (Ad (l.length+1) λk=>b ^ k) (i:Int)=some (V.int (b ^ i)):=IK (CN _ ⋯);rwa [P,M];refine ⟨Gw (O i) (F _ ⋯) ⋯ p6,⋯,U.trans se,?_⟩;rw [N5 i]
   ·rintro B H5 ⟨_,U,rfl⟩ d5 al;rw [CI];have am:=AR al (.lst (Ad l.length λk=>mv k*b ^ k));have u5:=U.trans am;have an:=u5 _ _ aj;have P:=u5 _ _ a2;have ao:upd H5 d5 (.lst (Ad l.length λk=>mv k*b ^ k)) d5=some (HO.lst (Ad l.length λk=>mv k*b ^ k)):=upd_same
    have M:N_ (Ad (l.length+1) λk=>b ^ k) ((C.length:Int) - 1)=some (V.int (b ^ (l.length - 1))):=by
     rcases Cc l.length with h | h
     ·rw [lx,h];show some (V.int (b ^ 0))=some (V.int (b ^ 0));rfl
     ·exact DW (j:=l.length - 1) ⋯ (CN _ ⋯)
    have W:0<Ac l*b ^ (l.length - 1):=CV OL.1 (Int.pow_pos b0);have ar:Bd (D+(40*n+1)) (Ac l*b ^ (l.length - 1)):=bL.mul (F _ ⋯);rwa [an,P,ao,M];refine ⟨Gw bL (F _ ⋯) q6 p6,(List.range l.length).map λk=>mv k*b ^ k,rfl,AV W,by rw [AO,BD];omega,λt zs H6 s6 h6 n6=>?_⟩;generalize hL:((List.range l.length).map λk=>mv k*b ^ k).map (λn=>Aq n (Ac l*b ^ (l.length - 1)))=L at n6;have Ll:L.length=l.length:=by rw [<-hL,AO,AO,BD]
    have Lg:∀ i,i<l.length->L[i]?=some (Aq (mv i*b ^ i) (Ac l*b ^ (l.length - 1))):=λi f=>by rw [<-hL,Aj,Uv _ f];rfl
    have Lm:∀ q∈L,∃ i,q=Aq (mv i*b ^ i) (Ac l*b ^ (l.length - 1))/\i<l.length:=λq g=>by
     rw [<-hL] at g;obtain ⟨z,hz,rfl⟩:=BM.mp g;obtain ⟨i,f,rfl⟩:=BM.mp hz;exact ⟨i,rfl,EK.mp f⟩
    have a3:AW L:=λq g=>by obtain ⟨i,rfl,_⟩:=Lm q g;exact FA (AV W)
    have a4:Nz L:=λq g=>by
     rw [FS,Ll] at g;rcases Cc l.length with h | h
     ·rw [Bh ⋯] at g;cases g
     ·rw [Lg _ ⋯] at g;obtain rfl:=mO g;intro z;have z2:=FC (n:=mv (l.length - 1)*b ^ (l.length - 1)) (AV W);unfold val at z2;rw [z] at z2;have n1:mv (l.length - 1)*b ^ (l.length - 1)≠0:=BK (by rw [y h];exact Kq X nl h) (AV (Int.pow_pos b0));have c1:=Aa n1;have c2:=Aa (AV W);push_cast at z2 c1 c2;ext
    rw [J6 a4] at n6
    have Lp:∀ i,i<l.length->B_ L i=((mv i*b ^ i:Int):Rat) / ((Ac l*b ^ (l.length - 1):Int):Rat):=λi f=>by
     unfold B_ AX;rw [AT,Lg i f];exact FC (AV W)
    have b4:bM D n=D+80*n+41*n*n+3:=rfl;refine k t H6 L ((((((S.trans A).trans u3).trans s4).trans u5)).trans s6) ⟨zs,h6,n6⟩ ⟨DZ a3 a4 W (ar.mono ⋯) (N:=λi=>if i<l.length then mv i*b ^ i else 0) (λi=>?_) (λi=>?_),Ll,?_,λx=>?_⟩
    ·by_cases f:i<l.length
     ·rw [mF f];exact Lp i f
     ·rw [mE f,BF ⋯];show _=((0:Int):Rat) / _;rw [show ((0:Int):Rat)=0 from rfl];ext
    ·by_cases f:i<l.length
     ·rw [mF f];exact ((O i).mul (F i ⋯)).mono ⋯
     ·rw [mE f];exact C3 _
    ·rcases Cc l.length with h | h
     ·rw [BF (l:=L) ⋯,BF (l:=l) ⋯]
     ·rw [Lp _ ⋯,y h];exact (sY (AV OL.1) (AV (show 0<b ^ (l.length - 1) from Int.pow_pos b0))).trans (Do X OL (l.length - 1)).symm
    ·unfold cr;rw [<-sX X b0 a0 a1.symm x,Ll];exact Il _ (AM _) λi _ f=>Lp i f
theorem Uy (f:dH) (n:Nat) (x:Rat):∀ d,d<=n->evF f n x d=Sr.ev (((List.range n).map f).drop (n - d)) x
 | 0,_=>by rw [Cu,List.drop_eq_nil_of_le (by rw [AO,BD];exact AM _)];rfl
 | d+1,h=>by
   rw [sV,Uy f n x d ⋯]
   have e:((List.range n).map f).drop (n - (d+1))=f (n - 1 - d)::((List.range n).map f).drop (n - d):=by
    rw [List.drop_eq_getElem_cons (by rw [AO,BD];omega),show n - (d+1)+1=n - d by omega];congr 1;rw [List.getElem_map,List.getElem_range,show n - (d+1)=n - 1 - d by omega]
   rw [e];rfl
def Uz (l:cW) (x:Rat):cr l x=Sr.ev (rw' l) x:=by
 unfold cr;rw [Uy _ _ _ _ (AM _),Nat.sub_self];rfl
def Mvd.sr {s:Rat} {b n:Nat} {l L:cW} (h:Mvd s b n l L):Bs.sr L=Sr.mv s (Bs.sr l):=by
 rw [K2,K2,Sr.mv_L];exact Sr.ev_ext λx=>by rw [Sr.ev_mvR,<-Uz,<-Uz];exact h.ev x
noncomputable instance (n:Nat) (x:Int):Decidable (Bd n x):=inferInstanceAs (Decidable (x.natAbs<2 ^ n))
def rB (h:Kg K vs H Q E):yX K { nx:=λ_ g=>Q .non g,rt:=Q } (L2.start ["one","n","top","bottom"] vs) H:=by
 obtain ⟨p,t,d,n,rfl,hp,i,j,v,q⟩:=h;have k:(if (n:Int)<0 then -(n:Int) else (n:Int))=(n:Int):=mE ⋯;have n0:(0:Int)<=(n:Int):=by omega
 have en:(n:Int).toNat=n:=DA n
 have e:∀ {x:Int} {a:Hp} {b:VK} {f:XK},Bd 40 x->b (.int (x ^ n)) a->Gk K [.int x,.int (if (n:Int)<0 then -(n:Int) else (n:Int))] a b f:=λ{x a b f} m o=>by
  rw [k];exact ⟨x,n,40,rfl,n0,m,by rw [en];omega,by rw [en];exact o⟩
 refine FD (Bm rfl hp rfl (Dq (AU rfl ⟨_,rfl,e i ?_⟩)));refine FD (Bm rfl hp rfl (Dq (AU rfl ⟨_,rfl,e j ?_⟩)));refine ⟨_,rfl,_,_,rfl,rfl,_,rfl,Av (λ_=>⟨_,rfl,_,rfl,Bx,λr u=>q r u⟩) (λc=>absurd (mG n0) c)⟩
def rC (h:Kj K vs H Q E):yY K { nx:=λ_ m=>Q .non m,rt:=Q } (L2.start ["i"] vs) H:=by
 obtain ⟨i,rfl,I,k⟩:=h
 have x:∀ (a:Addr) (g:d7) (c:Hp),Same H c->c a=some (.tup g)->Nums c g (List.replicate i (0,1))->(Ay (AB (Ay (AB (tC (.int 1)) (AB (tC (.int 1)) AC))) AC)) [some (.int (i:Int))] c (λy C=>MV K (.ref a) y C Q):=λa g c A D r=>by
  refine Ij (Cf (O' (O' ⟨Bx,λe u=>⟨Ca,λt v=>?_⟩⟩)));have n:=AR u (.tup [.int 1,.int 1]);have d:=AR v (.tup [.ref e]);have b:=n.trans d;have B:=r.length;rw [Df] at B;have one:∀ {m:Hp},Same (upd (upd c e (.tup [.int 1,.int 1])) t (.tup [.ref e])) m->Nums m [.ref e] [(1,1)]:=λs=>Nums.one ⟨e,rfl,s _ _ (d _ _ upd_same)⟩;refine ⟨a,t,g,[.ref e],rfl,rfl,SqT.of (b _ _ D),SqT.of upd_same,sz (by simp;omega),λz=>?_,(λ_ z=>nomatch z),λ_ _ p hp=>?_⟩
  ·have F:i=0:=by rw [<-B,z];rfl
   refine k t _ (A.trans b) ⟨_,upd_same,?_⟩;subst F;exact one (Same.refl _)
  ·have f:=AR hp (.tup (g++[V.ref e]));exact k p _ ((A.trans b).trans f) ⟨_,upd_same,(r.tp (M_ (b.trans f))).append (one f)⟩
 refine CA (Bc (Bc (Ij (Cf (O' (O' ⟨Bx,λe u=>⟨Ca,λt v=>AU rfl ?_⟩⟩))))));have n:=AR u (.tup [.int 0,.int 1]);have d:=AR v (.tup [.ref e]);have j:=d _ _ (upd_same (H:=H) (a:=e) (o:=HO.tup [V.int 0,V.int 1]));refine ⟨t,(i:Int),[.ref e],rfl,rfl,SqT.of upd_same,by simp,⋯,⋯,sz (by simp;omega),λz=>?_,λ_ p hp=>?_⟩
 ·have G:i=1:=by omega
  subst G;exact x t _ _ (n.trans d) upd_same (Nums.one ⟨e,rfl,j⟩)
 ·have f:=AR hp (.tup (List.replicate (i:Int).toNat [V.ref e]).flatten)
  have w:∀ {q:Hp},q e=some (.tup [.int 0,.int 1])->Nums q (List.replicate (i:Int).toNat [V.ref e]).flatten (List.replicate i (0,1)):=λ{q} h=>by
   rw [HW,DA];exact Nums.rep (show isN q (.ref e) (0,1) from ⟨e,rfl,h⟩) _
  exact x p _ _ ((n.trans d).trans f) upd_same (w (f _ _ j))
def Ja (i:Nat):sr (xt i)=Sr.X i:=Sr.ext' λk=>by
 show B_ (xt i) k=_;rw [show Sr.X i=Sr.X i*1 by ext,Sr.X_mul];unfold B_ AX xt;rw [AT];rcases Nat.lt_trichotomy k i with c | c | c
 ·rw [mE ⋯,Es (by rw [Df];exact c),Dx,mF c];exact P' _
 ·rw [mF ⋯,c,Dw (by rw [Df];omega),Df,Nat.sub_self,FJ];show val (1,1)=1;unfold val;show ((1:Int):Rat) / ((1:Int):Rat)=1;rw [show ((1:Int):Rat)=1 from rfl];ext
 ·rw [mF ⋯,Dw (by rw [Df];omega),Df,FJ];obtain ⟨m,a⟩:∃ m,k - i=m+1:=⟨k - i - 1,⋯⟩;rw [show ([(1,1)]:cW)[k - i]?=none from Bh (by show 1<=_;omega),a];exact P' _
def U0 (i:Nat):AW (xt i):=λq a=>by
 rcases Er.mp a with h | h
 ·rw [(List.mem_replicate.mp h).2];exact HR
 ·rw [CC.mp h];exact JO
def U1 (i:Nat):Nz (xt i):=λq a=>by
 unfold xt at a;rw [List.getLast?_append] at a;obtain rfl:(1,1)=q:=by simpa using a
 decide
def U2 (i:Nat):Sq 1 ⟨1,i+1,1,1,1⟩ (xt i) [(1,1)]:=
 ⟨lw1 (U0 i) (U1 i),∅,∅,Sr.X i,1,1,JY i,⟨[1],cy,AM 1,AM 1⟩,one_ne,∅,AM 1,by
  rw [Ja,Hz,show Sr.num ((1:Int):Rat)=1 from Sr.n1];ext⟩
def rD {a:Type} (i:Nat) {n:Nat} (b:1<=n):stV ([]:List a) i n=[]:=by
 unfold stV;rw [show (([]:List a).length - i+n - 1) / n=0 by rw [List.length_nil];exact Ev ⋯];rfl
theorem N7 {d:Type} {n:Nat} (a:1<=n):∀ (xs:List d) (i:Nat),i<n->stV xs i n=R_ n i xs
 | [],i,_=>by rw [rD i a,GC]
 | x::l,0,_=>by
   have b:=N7 a l (n - 1) ⋯;rw [R_,<-b];unfold stV
   have e:((x::l).length - 0+n - 1) / n=l.length / n+1:=by
    rw [show (x::l).length - 0+n - 1=l.length+n by rw [B7];omega,Nat.add_div_right _ ⋯]
   have g:(l.length - (n - 1)+n - 1) / n=l.length / n:=by
    rcases Am l.length (n - 1) with c | c
    ·rw [show l.length - (n - 1)+n - 1=n - 1 by omega,Ev ⋯,Ev ⋯]
    ·rw [show l.length - (n - 1)+n - 1=l.length by omega]
   rw [e,g,List.range_succ_eq_map,FP,List.filterMap_map];rw [show 0+0*n=0 by rw [Nat.zero_mul]];show x::_=x::_;refine congrArg (λf=>x::List.filterMap f (List.range (l.length / n))) (funext λm=>?_);show (x::l)[0+(m+1)*n]?=l[n - 1+m*n]?;rw [show 0+(m+1)*n=(n - 1+m*n)+1 by rw [Nat.succ_mul];omega];rfl
 | x::l,i+1,h=>by
   have b:=N7 a l i ⋯;rw [R_,<-b];unfold stV;rw [show (x::l).length - (i+1)+n - 1=l.length - i+n - 1 by rw [B7];omega];refine congrArg (λf=>List.filterMap f (List.range ((l.length - i+n - 1) / n))) (funext λm=>?_);show (x::l)[i+1+m*n]?=l[i+m*n]?;rw [show i+1+m*n=(i+m*n)+1 by omega];rfl
theorem Nums.st {H:Hp} (n:Nat):∀ {xs:d7} {l:cW} (i:Nat),Nums H xs l->Nums H (R_ n i xs) (R_ n i l)
 | [],[],_,_=>by rw [GC,GC];trivial
 | [],_::_,_,h=>h.elim
 | _::_,[],_,h=>h.elim
 | _::_,_::_,0,h=>⟨h.1,Nums.st n (n - 1) h.2⟩
 | _::_,_::_,i+1,h=>Nums.st n i h.2
theorem N8 {a:Type} (n:Nat):∀ (l:List a) (i:Nat) {x:a},x∈R_ n i l->x∈l
 | [],_,_,h=>by rw [GC] at h;exact h
 | y::l,0,x,h=>by
   rw [R_] at h;rcases De.mp h with h | h
   ·rw [h];exact CD
   ·exact CQ _ (N8 n l _ h)
 | y::l,i+1,x,h=>by rw [R_] at h;exact CQ _ (N8 n l _ h)
theorem N9 {n:Nat} (a:1<=n):∀ (l:cW) (i k:Nat),i<n->B_ (R_ n i l) k=B_ l (i+k*n)
 | [],_,k,_=>by rw [GC,BF (Ab _),BF (Ab _)]
 | x::l,0,0,_=>by rw [Nat.zero_mul,Nat.add_zero];rfl
 | x::l,0,k+1,_=>by
   have e:=N9 a l (n - 1) k ⋯;show B_ (R_ n (n - 1) l) k=B_ (x::l) (0+(k+1)*n);rw [e,show 0+(k+1)*n=(n - 1+k*n)+1 by rw [Nat.succ_mul];omega];rfl
 | x::l,i+1,k,h=>by
   have e:=N9 a l i k ⋯;show B_ (R_ n i l) k=B_ (x::l) (i+1+k*n);rw [e,show i+1+k*n=(i+k*n)+1 by omega];rfl
def Gq.sub {b c:Nat} {l T:cW} (G:Gq b c l) (a:AW T) (d:Nz T) (h:∀ k,∃ j,B_ T k=B_ l j):Gq b c T:=by
 obtain ⟨M,O,bM,e⟩:=G.ov;refine DZ a d O.1 bM (N:=λk=>(P_ l M).getD (h k).choose 0) (λk=>?_) λk=>DJ e _;exact (h k).choose_spec.trans (Do G.low O _)
def rE (h:Gs K vs H Q E):wA K { nx:=λ_ u=>Q .non u,rt:=Q } (L2.start ["P","n","i"] vs) H:=by
 obtain ⟨p,l,n,i,b,rfl,⟨d,hp,m⟩,v,g,G,L,k⟩:=h;have M:=m.length;have ll:=LC (by omega:1<=n) i l g
 have N:(R_ n i l).length<=l.length:=by
  have:1*(R_ n i l).length<=n*(R_ n i l).length:=BW _ ⋯;rcases Cc (R_ n i l).length with c | c
  ·omega
  ·have O:n*(R_ n i l).length=(R_ n i l).length+(n - 1)*(R_ n i l).length:=by
    rw [show n=1+(n - 1) by omega,Cy];simp
   have P:=CS (n - 1) (show 1<=(R_ n i l).length from c);omega
 refine CA (CH (Dq ⟨_,rfl,_,rfl,_,rfl,_,rfl,_,rfl,p,i,n,d,rfl,rfl,rfl,hp,v,λa x=>⟨a,_,rfl,upd_same,λw y=>?_⟩⟩));rw [N7 ⋯ d i g] at *;have z:=AR x (.tup (R_ n i d));have A:=AR y (.lst (R_ n i d));have e:=z.trans A;have f:AW (R_ n i l):=λq j=>G.low q (N8 n l i j);refine ⟨w,R_ n i d,R_ n i l,rfl,upd_same,(m.tp (M_ e)).st n i,⋯,λr B C D F I=>?_⟩;have o:∀ k,B_ (trim (R_ n i l)) k=B_ l (i+k*n):=λk=>(Ei f k).trans (N9 ⋯ l i k g);have J:=Eh (R_ n i l);have:=CS n J;exact k r (trim (R_ n i l)) C (e.trans D) ⟨B,F,I⟩ (G.sub (λq j=>f q (DI j)) (EE _) λk=>⟨_,o k⟩) ⋯ (Sr.ext' λk=>o k)
def rF {A:cW} {q:Nu} (b:q.1≠0) (m:Nat):trim (A++[q]++List.replicate m (0,1))=A++[q]:=by
 have a:∀ j,j<=m->Ba (A++[q]++List.replicate m (0,1)) (A.length+1+j)=A.length+1:=λj=>by
  induction j with
  | zero=>
    intro _;show Ba _ (A.length+1)=_;rw [NO]
    have e:(A++[q]++List.replicate m (0,1)).getD A.length (1,1)=q:=by
     rw [AT,List.append_assoc,Dw (AM _),Nat.sub_self];rfl
    rw [e,mE b]
  | succ j c=>
    intro d;show Ba _ ((A.length+1+j)+1)=_;rw [NO]
    have e:(A++[q]++List.replicate m (0,1)).getD (A.length+1+j) (1,1)=(0,1):=by
     rw [AT,Dw (by first | (simp;done) | (simp;omega))];rw [Dx,mF (by first | (simp;done) | (simp;omega))];rfl
    rw [e,mF rfl];exact c ⋯
 unfold trim;have l:(A++[q]++List.replicate m (0,1)).length=A.length+1+m:=by first | (simp;done) | (simp;omega)
 rw [l,a m (AM m),List.take_append_of_le_length (by simp),List.take_of_length_le (by simp)]
def CompJ.enumT {K:W.Frag} {capt:List (Option Nat)} {g:TG} {f:TE} {j:L2.St} {H:Hp} {Q:VK} {a:Addr} {xs:d7} (W:Nat->d7->Hp->Prop) (k:W 0 [] H) (c:∀ i b H,W i b H->i<=xs.length/\b.length<=sizeLine/\SqT K H a xs)
  (m:∀ i x p b H,xs[i]?=some x->W i b H->H p=none->g (.ref p) (CY capt j) (upd H p (.tup [.int i,x])) λd n=>f d n λy o=>W (i+1) (b++[y]) o) (r:∀ b H,W xs.length b H->∀ p,H p=none->Q (.ref p) (upd H p (.lst b))):CompJ (Gb K a) capt g f j Q H:=by
 refine ⟨xs.length,W,k,λi b H w=>⟨(c i b H w).1,(c i b H w).2.1,?_⟩⟩;have q:SqT K H a xs:=(c i b H w).2.2;by_cases h:i<xs.length
 ·refine .inr ⟨h,⟨xs,xs[i],q,by simp [h]⟩,λx v y=>?_⟩;obtain ⟨p,u,hp,rfl,rfl,y⟩:=y;exact m i u p b _ (y xs q) w hp
 ·have e:i=xs.length:=Dz (c i b H w).1 (Nat.not_lt.mp h);subst e;exact .inl ⟨⟨xs,q,AM _⟩,r b H w⟩
def rG {K:W.Frag} {c:TA} {capt:List (Option Nat)} {g:TG} {d:TE} {b:L2.St} {H:Hp} {Q:VK} (h:c b H (λvs e=>∃ a,vs=[.ref a]/\(∃ f,SqT K e a f)/\CompJ (Gb K a) capt g d b Q e)):BY (HN K c) capt g d b H Q:=h
def OA {b:TA} {capt:List (Option Nat)} {g:TG} {c:TE} {a:L2.St} {H:Hp} {Q:VK} (h:b a H (λvs d=>∃ j:Int,vs=[.int j]/\-(2 ^ 62)<=j/\j<2 ^ 62/\CompJ (aF 0 j.toNat) capt g c a Q d)):BY (Cg b) capt g c a H Q:=h
def rH {K:W.Frag} {e:TA} {capt:List (Option Nat)} {g:TG} {f:TE} {c:L2.St} {H:Hp} {Q:VK} (h:e c H (λvs d=>∃ a b,vs=[.ref a,.ref b]/\(∃ i,SqT K d a i)/\(∃ j,SqT K d b j)/\CompJ (aW K a b) capt g f c Q d)):BY (MU K e) capt g f c H Q:=h
def LL {b:TA} {g:TG} {c rest:TS} {D:Ends} {a:L2.St} {H:Hp} (h:b a H (λvs d=>∃ j:Int,vs=[.int j]/\-(2 ^ 62)<=j/\j<2 ^ 62/\ForR 0 j.toNat g c { D with nx:=rest D } a d)):AH (BT (Cg b) g c) rest D a H:=h
def rJ {K:W.Frag} {c:TA} {g:TG} {d rest:TS} {D:Ends} {b:L2.St} {H:Hp} (h:c b H (λvs e=>∃ a,vs=[.ref a]/\(∃ f,SqT K e a f)/\ForJ (Gb K a) g d { D with nx:=rest D } b e)):AH (BT (HN K c) g d) rest D b H:=h
noncomputable def ai (n:Nat) (l:cW):cW:=l.flatMap λq=>q::List.replicate (n - 1) (0,1)
theorem OB {n:Nat} (b:1<=n):∀ (l:cW) (k:Nat),B_ (ai n l) k=if k % n=0 then B_ l (k / n) else 0
 | [],k=>by
   rw [show ai n []=[] from rfl,BF (Ab _),BF (Ab _)];split <;> rfl
 | q::l,k=>by
   have e:ai n (q::l)=(q::List.replicate (n - 1) (0,1))++ai n l:=rfl;have ll:(q::List.replicate (n - 1) ((0,1):Nu)).length=n:=by rw [B7,Df];omega
   rcases Am k n with c | c
   ·have a:B_ (ai n (q::l)) k=B_ (q::List.replicate (n - 1) (0,1)) k:=by
     unfold B_ AX;rw [e,AT,AT,Es ⋯]
    rw [a,D5 c,Ev c];cases k with
    | zero=>rfl
    | succ k=>
      rw [mE ⋯];show val ((List.replicate (n - 1) ((0,1):Nu)).getD k (0,1))=0;rw [AT,Dx];split <;> exact P' _
   ·have a:B_ (ai n (q::l)) k=B_ (ai n l) (k - n):=by
     unfold B_ AX;rw [e,AT,AT,Dw ⋯,ll]
    have d:(k - n) % n=k % n:=by rw [Nat.mod_eq_sub_mod c]
    have f:k / n=(k - n) / n+1:=by rw [Nat.div_eq_sub_div ⋯ c]
    rw [a,OB b l (k - n),d,f];rfl
def rK {n:Nat} (a:1<=n) (l:cW):sr (ai n l)=Sr.cm (Sr.X n) (sr l):=Sr.ext' λk=>by
 rw [Sr.sp_c ⋯ (AL l)];exact OB a l k
theorem OC {n:Nat} (b:1<=n) (l:cW):(ai n l).length=n*l.length:=by
 unfold ai
 induction l with
 | nil=>rfl
 | cons q l a=>rw [List.flatMap_cons,Cr,a,B7,B7,Df,Nat.mul_succ];omega
def rL {n:Nat} {l:cW} (h:AW l):AW (ai n l):=λq a=>by
 obtain ⟨y,c,a⟩:=List.mem_flatMap.mp a;rcases De.mp a with b | b
 ·rw [b];exact h y c
 ·rw [(List.mem_replicate.mp b).2];exact HR
def rM {n:Nat} (a:1<=n) {l:cW} (b:Nz l):(trim (ai n l)).length=if l=[] then 0 else n*(l.length - 1)+1:=by
 by_cases h:l=[]
 ·rw [h];rfl
 ·rw [mE h];obtain ⟨A,q,e⟩:∃ A q,l=A++[q]:=⟨l.dropLast,l.getLast h,(GJ h).symm⟩;have c:q.1≠0:=b q (by rw [e];simp);have d:ai n l=ai n A++[q]++List.replicate (n - 1) (0,1):=by rw [e];unfold ai;simp
  rw [d,rF c,Cr,OC a,e,Cr];simp
def rN (h:Hl K vs H Q E):SS K { nx:=λ_ m=>Q .non m,rt:=Q } (L2.start ["P","n","row","number"] vs) H:=by
 obtain ⟨p,l,n,b,rfl,⟨O,hp,P⟩,n2,R,G,l9,k⟩:=h;have lx:=P.length;unfold SS;rwa [];refine ⟨sz ∅,λw S=>?_⟩;have T:=AR S (.lst []);refine ⟨⟨_,SqT.of (T _ _ hp)⟩,ForT.by (xs:=O) (λi A m=>∃ (F:d8) (g:d7),A=[some (.ref p),some (.int (n:Int)),some (.ref w),F]/\Same H m/\m w=some (.lst g)/\Nums m g (ai n (l.take i))) ⟨none,[],rfl,T,upd_same,trivial⟩ ?_ ?_ ?_⟩
 ·rintro i A m _ ⟨_,_,_,u,_⟩;exact u _ _ hp
 ·rintro i x A B U ⟨F,g,rfl,u,d,v⟩;have a0:i<l.length:=by have:=(By.mp U).1;omega
  obtain ⟨o,ho,W⟩:=P.get U;have a1:=W;obtain ⟨e,rfl,I⟩:=W;rwa [];simp only [HW];have en:((n:Int) - 1).toNat=n - 1:=by omega
  rw [en];refine ⟨Ib d,sz ∅,λC h1=>⟨sz ∅,λa h2=>⟨sz ∅,λJ h3=>⟨⋯,⋯,sz ⋯,λL h4=>?_⟩⟩⟩⟩;have t1:=AR h1 (.lst [.ref e]);have X:=AR h2 (.tup [.int 0,.int 1]);have M:=AR h3 (.lst [.ref a]);have N:=AR h4 (.lst (List.replicate (n - 1) (V.ref a)));have Y:upd (upd (upd (upd B C (.lst [.ref e])) a (.tup [.int 0,.int 1])) J (.lst [.ref a])) L (.lst (List.replicate (n - 1) (V.ref a))) a=some (HO.tup [V.int 0,V.int 1]):=N _ _ (M _ _ upd_same);have Z:upd (upd (upd (upd B C (.lst [.ref e])) a (.tup [.int 0,.int 1])) J (.lst [.ref a])) L (.lst (List.replicate (n - 1) (V.ref a))) C=some (HO.lst [V.ref e]):=N _ _ (M _ _ (X _ _ upd_same));have f:=((t1.trans X).trans M).trans N;generalize upd (upd (upd (upd B C (.lst [.ref e])) a (.tup [.int 0,.int 1])) J (.lst [.ref a])) L (.lst (List.replicate (n - 1) (V.ref a)))=H2 at Z Y f ⊢;refine ⟨_,Z,sz (by simp;omega),λc5 h5=>?_⟩;have D:=AR h5 (.lst ([V.ref e]++List.replicate (n - 1) (V.ref a)));have s5:=(u.trans f).trans D;have j:=(f.trans D) _ _ d
  have zl:g.length<=160:=by
   rw [v.length,OC ⋯,CB];have:n*min i l.length<=4*40:=Be R ⋯;omega
  refine ⟨g,j,sz (by simp;omega),λb o h=>by rw [Ar (Bi h S)];exact s5 b o h,?_⟩;have y:=(M_ (f.trans D)).trans (Kp.tp (Kp.upd (p:=w) (o:=HO.lst (g++([V.ref e]++List.replicate (n - 1) (V.ref a))))) j);unfold ai;rw [Eu,ho,Option.toList_some,List.flatMap_append,List.flatMap_singleton];refine (v.tp y).append ?_;refine ⟨(⟨e,rfl,y _ _ (u _ _ I)⟩:isN _ (V.ref e) o),Nums.rep ⟨a,rfl,?_⟩ _⟩;exact (Kp.tp Kp.upd j) _ _ (D _ _ Y)
 ·rintro A B ⟨F,g,rfl,u,d,v⟩;rw [lx,Cv] at v;rwa [d];refine ⟨_,v,?_,λr ys H2 s2 hr hz=>?_⟩
  ·rw [OC ⋯];have:n*l.length<=4*40:=Be R l9;omega
  have z:=rL (n:=n) G.low;have pt:∀ k,B_ (trim (ai n l)) k=B_ (ai n l) k:=λk=>Ei z k;refine k r (trim (ai n l)) H2 (u.trans s2) ⟨ys,hr,hz⟩ (G.sub (λq hq=>z q (DI hq)) (EE _) λk=>?_) (rM ⋯ G.nz) (by rw [<-rK ⋯];exact Sr.ext' λk=>pt k);rw [pt,OB ⋯];by_cases c:k % n=0
  ·exact ⟨_,mF c⟩
  ·exact ⟨l.length,by rw [mE c,BF (AM _)]⟩
noncomputable def aD (l:cW) (a d:Int) (i:Nat):cW:=(List.range i).map λk=>H_ (AX l k) (a ^ k,d ^ k)
def rO (h:FG K vs H Q E):xZ K { nx:=λ_ n=>Q .non n,rt:=Q } (L2.start ["P","c"] vs) H:=by
 obtain ⟨p,q,l,a,d,b,s,rfl,⟨F,hp,Z⟩,hq,lo,a0,P,I,f,G,l9,b9,k⟩:=h;have lx:=Z.length;obtain ⟨M,O,bM,hb⟩:=G.ov;obtain ⟨_,cB,ct⟩:=G.clr;have g:=lo.pos
 have nb:∀ i,i<l.length->Bd 60000000 (AX l i).1/\Bd 60000000 (AX l i).2:=λi hi=>by
  have m:AX l i∈l:=by unfold AX;rw [AT,Ax hi];exact EN _
  exact ⟨(ct _ m).mono ⋯,(DB (AV O.1) (O.2 _ m) bM).mono ⋯⟩
 refine CA (CH (rG ⟨_,rfl,p,rfl,⟨_,SqT.of hp⟩,CompJ.enumT (xs:=F) (λi v n=>i<=F.length/\Same H n/\Nums n v (aD l a d i)) ⟨Ab _,Same.refl H,trivial⟩ ?_ ?_ ?_⟩))
 ·rintro i v n ⟨o,C,A⟩;exact ⟨o,sz (by rw [A.length];unfold aD;rw [AO,BD];omega),SqT.of (C _ _ hp)⟩
 ·rintro i x e v n hx ⟨o,C,A⟩ he;have a1:i<F.length:=(By.mp hx).1;obtain ⟨z,hz,R,rfl,S⟩:=Z.get hx;have ez:AX l i=z:=by unfold AX;rw [AT,hz];rfl
  have se:=AR he (.tup [.int (i:Int),.ref R]);have s2:=C.trans se;refine ⟨e,_,rfl,upd_same,rfl,_,_,rfl,_,_,rfl,rfl,?_⟩;show (AE (Iw K) [] E0 (AB (AA 1) (AB (AE (Kg K) [] E0 (AB (AA 2) (AB (AA 0) AC))) AC))) [some (.int (i:Int)),some (.ref R),some (.ref q)] _ _;refine Ag (AU rfl (Ag (AU rfl (AU rfl ⟨q,a,d,i,rfl,s2 _ _ hq,P.mono f,I.mono f,⋯,λr T=>?_⟩))));have J:=AR T (.tup [.int (a ^ i),.int (d ^ i)]);have D:=s2.trans J;have U:=nb i ⋯;rw [ez] at U;refine ⟨R,r,z.1,z.2,a ^ i,d ^ i,rfl,D _ _ S,upd_same,(G.low z (Bg hz)).pos,Int.pow_pos g,U.1,U.2,((P.mono f).pow i).mono ⋯,((I.mono f).pow i).mono ⋯,λt ht=>⟨⋯,D.trans (AR ht _),?_⟩⟩;show Nums _ _ (aD l a d (i+1));unfold aD;rw [List.range_succ,D4,List.map_singleton,ez];exact (A.tp (M_ ((se.trans J).trans (AR ht _)))).append (Nums.one HX)
 ·rintro v n ⟨_,C,A⟩ w hw;have sw:=AR hw (.lst v);rw [lx] at A;have ll:(aD l a d l.length).length=l.length:=by unfold aD;rw [AO,BD]
  have W:AW (aD l a d l.length):=λy B=>by
   obtain ⟨j,hj,rfl⟩:=BM.mp B;exact Py (CZ G.low j).pos (Int.pow_pos g)
  have X:∀ j,B_ (aD l a d l.length) j=val (a,d) ^ j*B_ l j:=λj=>by
   rcases Am j l.length with c | c
   ·have:AX (aD l a d l.length) j=H_ (AX l j) (a ^ j,d ^ j):=by
     unfold aD AX;rw [AT,Aj,DD c];rfl
    show val (AX _ j)=_;rw [this,QK (CZ G.low j).pos (Int.pow_pos g)]
    have e:val (a ^ j,d ^ j)=val (a,d) ^ j:=by
     unfold val;have o:=Aa (AV g)
     induction j with
     | zero=>rw [Int.pow_zero,Int.pow_zero,Rat.pow_zero];show ((1:Int):Rat) / ((1:Int):Rat)=1;rw [show ((1:Int):Rat)=1 from rfl];ext
     | succ j u=>
       have u:=u ⋯ (by
        unfold aD AX;rw [AT,Aj,DD (show j<l.length by omega)];rfl)
       have L:((d ^ j:Int):Rat)≠0:=Aa (AV (Int.pow_pos g));show ((a ^ (j+1):Int):Rat) / ((d ^ (j+1):Int):Rat)=_;have Y:((a ^ j:Int):Rat) / ((d ^ j:Int):Rat)=((a:Rat) / (d:Rat)) ^ j:=u;rw [Int.pow_succ,Int.pow_succ,ER,ER,D7];show _=((a:Rat) / (d:Rat)) ^ j*((a:Rat) / (d:Rat));rw [<-Y];ext
    rw [e];show B_ l j*_=_;ext
   ·rw [BF ⋯,BF c];ext
  have v0:val (a,d)≠0:=IB (a:=(a,d)) lo a0
  have vp:∀ j:Nat,val (a,d) ^ j≠0:=λj=>by
   induction j with
   | zero=>rw [Rat.pow_zero];decide
   | succ j u=>rw [D7];exact λz=>(D6.mp z).elim u v0
  have nz:Nz (aD l a d l.length):=λy B=>by
   rcases Cc l.length with c | c
   ·rw [B6.mp (ll.trans c)] at B;cases B
   ·have o:B_ (aD l a d l.length) (l.length - 1)=val y:=by
     show val (AX _ _)=_;rw [FS,ll] at B;unfold AX;rw [AT,B];rfl
    intro y0;have L:val y=0:=by unfold val;rw [y0];exact P' _
    rw [X,L] at o;exact (D6.mp o).elim (vp _) (C7 G.low G.nz (BE.mp c))
  refine ⟨w,v,_,rfl,upd_same,A.tp (M_ sw),⋯,λr us H3 J T hu=>?_⟩;rw [J6 nz] at hu;refine k r _ H3 ((C.trans sw).trans J) ⟨us,T,hu⟩ ?_ ll (Sr.ext' λj=>by rw [Sr.str_c _ (AL l)];exact X j);refine DZ W nz (M:=M*d ^ l.length) (CV O.1 (Int.pow_pos g)) ((bM.mul (I.pow l.length)).mono (by rw [B5];omega)) (N:=λj=>if j<l.length then (P_ l M).getD j 0*(a ^ j*d ^ (l.length - j)) else 0) (λj=>?_) λj=>?_
  ·rw [X];by_cases c:j<l.length
   ·rw [mF c,Do G.low O j];have e1:((d ^ l.length:Int):Rat)=((d ^ j:Int):Rat)*((d ^ (l.length - j):Int):Rat):=by rw [<-ER,<-Int.pow_add,show j+(l.length - j)=l.length by omega]
    have L:((d ^ j:Int):Rat)≠0:=Aa (AV (Int.pow_pos g));have h3:((d ^ (l.length - j):Int):Rat)≠0:=Aa (AV (Int.pow_pos g));have h4:=Aa (AV O.1)
    have e2:val (a,d) ^ j*((d ^ j:Int):Rat)=((a ^ j:Int):Rat):=by
     have o:=Aa (AV g);clear e1 L h3 c
     induction j with
     | zero=>rw [Rat.pow_zero,Int.pow_zero,Int.pow_zero,show ((1:Int):Rat)=1 from rfl];ext
     | succ j u=>
       rw [D7,Int.pow_succ,Int.pow_succ,ER,ER,<-u];show _*((a:Rat) / (d:Rat))*_=_;ext
    rw [ER,ER,ER,e1,<-e2];ext
   ·rw [mE c,BF ⋯];rw [show ((0:Int):Rat)=0 from rfl];ext
  ·by_cases c:j<l.length
   ·rw [mF c];refine ((DJ hb j).mul ((P.pow j).mul (I.pow (l.length - j)))).mono ?_;have:l.length*s=j*s+(l.length - j)*s:=by rw [<-Cy,show j+(l.length - j)=l.length by omega]
    rw [B5 s j,B5 s (l.length - j)];omega
   ·rw [mE c];exact C3 _
def Gq.bds {b:Nat} {l:cW} (G:Gq b b l) (h:b<=1000000):∀ q∈l,Bd 1000000 q.1/\Bd 1000000 q.2:=λq a=>by
 obtain ⟨M,O,bM,_⟩:=G.ov;exact ⟨(G.clr.2.2 q a).mono h,(DB (AV O.1) (O.2 q a) bM).mono h⟩
def U3 {l m:cW} {b:Nu} (n:AW l) (o:AW m) (C:Nz l) (D:Nz m) (w:m≠[]) (g:Low b.1 b.2) (p:val b*val (AX m (m.length - 1))=1) (cs:Sr.Cs (sr l) (sr m)) :
  Lw (trim (l.map λq=>H_ q (b.1,b.2))) (trim (m.map λq=>H_ q (b.1,b.2)))/\sr (trim (l.map λq=>H_ q (b.1,b.2)))=Sr.num (val b)*sr l/\sr (trim (m.map λq=>H_ q (b.1,b.2)))=Sr.num (val b)*sr m:=by
 have c:=K0 (a:=b.1) n g.pos;have d:=K0 (a:=b.1) o g.pos;have r:sr (trim (l.map λq=>H_ q (b.1,b.2)))=Sr.num (val b)*sr l:=Sr.ext' λk=>by rw [Sr.num_mul];exact (Ei c k).trans (Kz n g.pos k)
 have h:sr (trim (m.map λq=>H_ q (b.1,b.2)))=Sr.num (val b)*sr m:=Sr.ext' λk=>by rw [Sr.num_mul];exact (Ei d k).trans (Kz o g.pos k)
 have x:val b≠0:=λz=>by rw [z] at p;ext
 have i:=Sr.num_inv x;have u:(trim (m.map λq=>H_ q (b.1,b.2))).length<=m.length:=A7 (Eh _) (by rw [AO];exact AM _)
 have top:B_ (trim (m.map λq=>H_ q (b.1,b.2))) (m.length - 1)=1:=by
  have:=mQ (congrArg Sr.c h) (m.length - 1);rw [Sr.num_mul] at this;exact this.trans p
 have v:AW (trim (m.map λq=>H_ q (b.1,b.2))):=λq j=>d q (DI j);have y:=EE (m.map λq=>H_ q (b.1,b.2));have F:=BE.mpr w
 have f:(trim (m.map λq=>H_ q (b.1,b.2))).length=m.length:=by
  rcases Am (m.length - 1) (trim (m.map λq=>H_ q (b.1,b.2))).length with z | z
  ·omega
  ·rw [BF z] at top;exact absurd top ∅
 refine ⟨⟨λq j=>c q (DI j),v,EE _,y,BE.mp ⋯,JQ v (by rw [f];exact top),?_⟩,r,h⟩;rw [r,h];obtain ⟨U,W,A,B,e⟩:=cs;refine ⟨U*Sr.num (val b)⁻¹,W*Sr.num (val b)⁻¹,A.mul (Sr.Pol.num _),B.mul (Sr.Pol.num _),?_⟩;rw [show U*Sr.num (val b)⁻¹*(Sr.num (val b)*sr l)+W*Sr.num (val b)⁻¹*(Sr.num (val b)*sr m)=(Sr.num (val b)⁻¹*Sr.num (val b))*(U*sr l+W*sr m) by ext,i,e];ext
def cD (b:Nu):val (-b.1,b.2) = -val b:=by unfold val;push_cast;ext
def nneg (x:Rat):Sr.num (-x) = -Sr.num x:=Sr.num_neg x
def rP (h:Ki K vs H Q E):xY K { nx:=λ_ M=>Q .non M,rt:=Q } (L2.start ["kind","P"] vs) H:=by
 obtain ⟨p,x,N,O,n,P,a,b,l,rfl,d,R,G,S,l4,k⟩:=h;have o:Bd 60000000 1:=(cM (n:=1) ∅).mono ∅;have hp:=d.at';refine CA (Ag (Ag (Ag (AU rfl (Ag (Cf (O' (O' ⟨Bx,λT U=>?_⟩))))))));have u:=AR U (.tup [.int 1,.int 1]);refine Bm rfl (u _ _ hp) rfl ⟨T,N,1,1,a.1,a.2,rfl,upd_same,u _ _ d.at1,∅,d.a0,o,o,d.ba.1.mono ∅,d.ba.2.mono ∅,λW v=>?_⟩;rw [Int.one_mul,Int.one_mul];have C:=FA (n:=a.2) d.a0;have w:=J9 d.a0 (d.ba.2.mono (show 20<=40 by decide)) d.ba.1
 have ev:val (Aq a.2 a.1)=(val a)⁻¹:=by
  have z1:=Aa d.a0;have z2:=Aa (AV d.la.pos);rw [FC d.a0];unfold val;ext
 generalize Aq a.2 a.1=e at C w ev ⊢
 have X:e.1≠0:=λz=>by
  have Y:val e=0:=by unfold val;rw [z];exact P' _
  have va:=IB d.la d.a0;rw [Y] at ev;ext
 have Z:=AR v (.tup [.int e.1,.int e.2]);have g:=u.trans Z;refine ⟨x,W,l,e.1,e.2,P,40,rfl,R.same g,upd_same,C,X,w.1,w.2,AM _,G,⋯,⋯,λr2 L1 H3 s3 P3 G3 Gh e3=>?_⟩;have y:=g.trans s3;refine Ag (Cf (O' (O' ⟨Bx,λe2 h2=>?_⟩)));have D:=AR h2 (.tup [.int 0,.int 1]);have f:=y.trans D;refine Bm rfl (f _ _ hp) rfl ⟨e2,O,0,1,b.1,b.2,rfl,upd_same,f _ _ d.at2,∅,d.lb.pos,C3 _,o,d.bb.1.mono ∅,d.bb.2.mono ∅,λr3 A=>?_⟩;have i:Low (-b.1) b.2:=⟨d.lb.pos,by rw [Int.neg_gcd];exact d.lb.one⟩
 have dB:ae (0,1) (b.1,b.2)=(-b.1,b.2):=E9 (Pt (show (0:Int)<1 by decide) d.lb.pos) i (by
  rw [UN (q:=(0,1)) (r:=(b.1,b.2)) (show (0:Int)<1 by decide) d.lb.pos,show val (0,1)=0 from P' _,cD];ext)
 rw [dB];have F:=AR A (.tup [.int (-b.1),.int b.2]);have j:=f.trans F;obtain ⟨zs,h3,n3⟩:=P3.same (D.trans F);have ll:l.length*40<=160:=by omega
 refine ⟨r2,r3,zs,L1,-b.1,b.2,6162,4,rfl,h3,upd_same,n3,G3.mono ⋯ ⋯,∅,i,d.bb.1.neg,d.bb.2.mono ∅,⋯,∅,λr4 H6 L I P6 mv=>?_⟩;refine Bm rfl (I _ _ (j _ _ hp)) rfl ⟨r4,L,n,_,rfl,P6,d.n2,d.n4,mv.gq,by rw [mv.len];omega,λr5 L5 H7 s7 P7 G7 m e7=>k r5 L5 H7 ((j.trans I).trans s7) P7 (G7.mono ∅ ∅) ?_ ?_⟩
 ·rw [m,mv.len,Gh];have:L=[]↔l=[]:=by rw [<-B6,<-B6,mv.len,Gh]
  by_cases c:l=[]
  ·rw [mF c,mF (this.mpr c)]
  ·rw [mE c,mE λz=>c (this.mp z)]
 ·have pv:Sr.Pol (Sr.X 1+Sr.num (val (-b.1,b.2))):=(Sr.pXn 1).add (Sr.Pol.num _);have J:Sr.Pol (Sr.num (val e)*Sr.X 1):=(Sr.Pol.num _).mul (Sr.pXn 1);have B:sr L1=Sr.cm (Sr.num (val e)*Sr.X 1) (sr l):=e3;rw [e7,mv.sr,Sr.mv_cm (AL L1),B,Sr.cm_cm J (AL l),Sr.cm_cm (Sr.cm_pol pv J) (AL l),Sr.cm_mul _ (Sr.Pol.num _) (Sr.pXn 1),Sr.cm_num,Sr.cm_X,Sr.cm_mul _ (Sr.Pol.num _) pv,Sr.cm_num,Sr.cm_add _ (Sr.pXn 1) (Sr.Pol.num _),Sr.cm_X,Sr.cm_num,ev,cD,nneg];unfold xq;rw [show Sr.X n + -Sr.num (val b)=Sr.X n - Sr.num (val b) by grind]
def rQ (h:M4 K vs H Q E):wG K { nx:=λ_ g=>Q .non g,rt:=Q } (L2.start ["kind","F","moved"] vs) H:=by
 obtain ⟨p,q,q1,q2,n,a,b,T,B,m,I,rfl,j,⟨u,v,hq,Pu,Pv⟩,L',GT,GB,t4,b4,S,e,k⟩:=h;have hp:=j.at';have e:Sr.cm (bk a b) (sr m)*sr B=sr T*Sr.cm (bk a b) (sr I):=e
 have go:∀ (w:Addr) (P:cW) (J:Hp) (U:VK),Same H J->Pl J w P->Gq 6000 6000 P->P.length<=4->(∀ r X D,Same J D->Pl D r X->Gq 9000 9000 X->X.length=P.length->sr X=Sr.cm (bk a b) (sr P)->U (.ref r) D)->(AE (FG K) [] E0 (AB (AE (JC K) [] E0 (AB (AA 0) (AB (A_ gT (AA 1) (tC (.int 2))) AC))) (AB (A_ gT (AA 1) (tC (.int 1))) AC))) [some (.ref w),some (.ref p)] J U:=λw P J U d Pw GP P4 k1=>by
  obtain ⟨zs,W,nw⟩:=Pw;refine Ag (Ag (AU rfl (Bm rfl (d _ _ hp) rfl ⟨w,q2,zs,P,b.1,b.2,6000,4,rfl,W,d _ _ j.at2,nw,GP,∅,j.lb,j.bb.1,j.bb.2.mono ∅,P4,∅,λr1 D L A P1 mv=>?_⟩)));have M:=d.trans A;have ml:=mv.len;refine Bm rfl (M _ _ hp) rfl ⟨r1,q1,L,a.1,a.2,bM 6000 4,40,rfl,P1,M _ _ j.at1,j.la,j.a0,j.ba.1,j.ba.2.mono ∅,AM _,mv.gq,⋯,∅,λr2 X Y Z P2 G2 a0 e2=>k1 r2 X Y (A.trans Z) P2 (G2.mono ?_ ?_) ⋯ ?_⟩
  ·have:L.length*40<=160:=by omega
   show bM 6000 4+_+2<=_;have:bM 6000 4=6979:=rfl;omega
  ·have:L.length*40<=160:=by omega
   show bM 6000 4+_+2<=_;have:bM 6000 4=6979:=rfl;omega
  ·have pv:Sr.Pol (Sr.X 1+Sr.num (val (b.1,b.2))):=(Sr.pXn 1).add (Sr.Pol.num _);rw [e2,mv.sr,Sr.mv_cm (AL P),Sr.cm_cm pv (AL P),Sr.cm_add _ (Sr.pXn 1) (Sr.Pol.num _),Sr.cm_X,Sr.cm_num];rfl
 refine BJ (zX (AU rfl ⟨q,rfl,⟨_,SqT.of hq⟩,CompJ.tup (xs:=[.ref u,.ref v]) (λi F g=>Same H g/\((i=0/\F=[])\/(i=1/\∃ r X,F=[.ref r]/\Pl g r X/\Gq 9000 9000 X/\X.length=m.length/\sr X=Sr.cm (bk a b) (sr m))\/(i=2/\∃ r X o f,F=[.ref r,.ref o]/\(Pl g r X/\Gq 9000 9000 X/\X.length=m.length/\sr X=Sr.cm (bk a b) (sr m))/\Pl g o f/\Gq 9000 9000 f/\f.length=I.length/\sr f=Sr.cm (bk a b) (sr I)))) ⟨Same.refl H,.inl ⟨rfl,rfl⟩⟩ ?_ ?_ ?_⟩))
 ·rintro i F g ⟨d,h⟩;refine ⟨?_,sz ?_,d _ _ hq⟩ <;> rcases h with ⟨rfl,rfl⟩ | ⟨rfl,r,X,rfl,_⟩ | ⟨rfl,r,X,o,f,rfl,_⟩ <;> simp
 ·rintro i x F g hx ⟨d,h⟩;rcases h with ⟨rfl,rfl⟩ | ⟨rfl,r,X,rfl,N,z,R,G⟩ | ⟨rfl,r,X,o,f,rfl,_⟩
  ·obtain rfl:V.ref u=x:=mO hx;exact go u m g _ d (Pu.same d) GT t4 λr X D A N z R G=>⟨d.trans A,.inr (.inl ⟨rfl,r,X,rfl,N,z,R,G⟩)⟩
  ·obtain rfl:V.ref v=x:=mO hx;exact go v I g _ d (Pv.same d) GB b4 λo f D A C c O y=>⟨d.trans A,.inr (.inr ⟨rfl,r,X,o,f,rfl,⟨N.same A,z,R,G⟩,C,c,O,y⟩)⟩
  ·cases hx
 ·rintro F g ⟨d,h⟩ w W;rcases h with ⟨h,_⟩ | ⟨h,_⟩ | ⟨_,r,X,o,f,rfl,⟨N,z,R,G⟩,C,c,O,y⟩
  ·cases h
  ·cases h
  have sw:=AR W (.lst [.ref r,.ref o]);show Sl K _ [some (.ref p),some (.ref q),some (.ref w)] _;have a3:=BE.mpr L'.ne;have X0:f≠[]:=BE.mp ⋯;refine CA (Ag (Qe rfl upd_same rfl (Qe rfl upd_same rfl ⟨r,o,X,f,rfl,N.same sw,C.same sw,z.low,c.low,c.nz,X0,z.bds ∅,c.bds ∅,⋯,⋯,λfa fl fv t u' v' Y Z ht hu hv=>?_⟩)));have cs:Sr.Cs (sr X) (sr f):=by rw [G,y];exact L'.cs.cm (sP a b) (AL m) (AL I)
  obtain ⟨lw,a1,a2⟩:=U3 z.low c.low z.nz c.nz X0 fl fv cs
  obtain ⟨rfl,rfl⟩:=lw.uniq S (by
   rw [a1,a2,G,y];have h1:Sr.num (val fa)*Sr.cm (bk a b) (sr m)*sr B=Sr.num (val fa)*(Sr.cm (bk a b) (sr m)*sr B):=by ext
   rw [h1,e];ext)
  exact k t Y ((d.trans sw).trans Z) ⟨u',v',ht,hu,hv⟩
def U4 (b:Nat):Gq (b+1) (b+1) []:=⟨(λ_ h=>nomatch h),(λ_ h=>nomatch h),1,⟨∅,λ_ h=>nomatch h⟩,Bd.one.mono ⋯,λ_ h=>nomatch h⟩
def Qz.len {A k:Nat} {l:cW} (h:Qz A k (sr l)) (b:AW l) (d:Nz l):l.length<=k:=by
 obtain ⟨c,f,X,e,_,i⟩:=h;rcases Am k l.length with z | z
 ·have g:l≠[]:=BE.mp ⋯;have:=mQ (congrArg Sr.c e) (l.length - 1);rw [Sr.num_mul] at this;have a:((co X (l.length - 1):Int):Rat)=c*B_ l (l.length - 1):=this;rw [Af ⋯] at a;exact absurd a.symm (λh=>(D6.mp h).elim f (C7 b d g))
 ·exact z
def U5 {l:cW} (a:AW l):Qz (L1 (AK l)) l.length (sr l):=by
 have b:=Aa (AV (Bz a).1);have i:=Sr.num_inv b;exact ⟨(Ac l:Rat),b,AK l,by rw [En a];ext,AM _,by rw [Bf];exact AM _⟩
def U6 {n i a b:Nat} (d:2<=n) (h:n*a<=b+(n - 1) - i):a<=b:=by
 rcases Cc a with c | c
 ·omega
 ·have e:n*a=a+(n - 1)*a:=by rw [show n=1+(n - 1) by omega,Cy];simp
  have f:=CS (n - 1) (show 1<=a from c);omega
theorem sm0 {f:Nat->Sr}:∀ n,(∀ j,j<n->f j=0)->Sr.sm f n=0
 | 0,_=>rfl
 | n+1,h=>by show Sr.sm f n+f n=0;rw [sm0 n λj a=>h j ⋯,h n ⋯];ext
def rR (h:M5 K vs H Q E):wD K { nx:=λ_ N=>Q .non N,rt:=Q } (L2.start ["Q","n","kept","i"] vs) H:=by
 obtain ⟨p,l,n,A,b,x,d,rfl,Pp,T,n4,G,l0,b9,qz,lk,k1,a7,hx,U,k⟩:=h
 have x9:x<=22239:=by
  have:(x+6)*2<=(x+6)*(2*d):=CS _ ⋯;omega
 refine BJ ⟨sz ∅,λw hw=>?_⟩;have sw:=AR hw (.tup []);refine LL ⟨_,rfl,(n:Int),rfl,⋯,⋯,?_⟩;rw [DA];refine ForR.by (λi W N=>i<=n/\∃ (c:Addr) (L:cW) (X:d8),W=[some (.ref p),some (.int (n:Int)),some (.ref c),X]/\Same H N/\Pl N c L/\((L=[]/\∀ j,j<i->Sr.st n j (sr l)=0)\/(L≠[]/\Gq x x L/\L.length<=d/\AX L (L.length - 1)=(1,1)/\Fp x (AK L)/\∀ j,j<i->∃ Y,Sr.Pol Y/\Sr.st n j (sr l)=Y*sr L))) ⟨Ab _,w,[],none,rfl,sw,⟨[],upd_same,trivial⟩,.inl ⟨rfl,λj B=>absurd B ⋯⟩⟩ ?_ ?_
 ·rintro i W H1 O ⟨_,c,L,X,rfl,S,Z,m⟩;rw [Int.zero_add];refine KK (Ag (AU rfl (Fr (AU rfl (AU rfl (AU rfl ⟨p,l,n,i,b,rfl,Pp.same S,T,O,G,⋯,λr L2 H2 s2 P2 o q e2=>?_⟩))))));have ab:L2.length<=d:=by have:=U6 T q;omega
  have a0:Qz A d (sr L2):=by
   rw [e2];refine (qz.st ⋯ O).mono (AM _) ?_;exact U6 (i:=i) T (Nat.mul_div_le _ _)
  have F2:L2≠[]->Fp x (AK L2):=λz=>(a0.fp (e:=4) (Eo A) ⋯ o.low o.nz z).mono hx;obtain ⟨C,hc,nc⟩:=Z.same s2;obtain ⟨ys,hr,nr⟩:=P2
  have D:Gq 60000 60000 L:=by
   rcases m with ⟨rfl,_⟩ | ⟨_,g,_⟩
   ·exact (U4 0).mono ∅ ∅
   ·exact g.mono ⋯ ⋯
  have FL:L≠[]->Fp x (AK L):=λz=>by
   rcases m with ⟨h,_⟩ | ⟨_,_,_,_,f,_⟩
   ·exact absurd h z
   ·exact f
  have lL:L.length<=d:=by
   rcases m with ⟨rfl,_⟩ | ⟨_,_,h,_⟩
   ·exact Ab _
   ·exact h
  have F:=S.trans s2;refine ⟨c,r,C,ys,L,L2,60000,60000,x,4,2*d,rfl,SqT.of hc,hr,NuK.of nc,nr,D,o.mono ⋯ ⋯,∅,∅,⋯,⋯,λa b=>⟨FL a,F2 b⟩,by show _<32;omega,⋯,⋯,U,λa b t C H3 s3 ht hz=>?_,λne g R P t C H3 s3 ht hz=>?_⟩
  ·refine ⟨O,t,[],some (.int (i:Int)),rfl,F.trans s3,⟨C,ht,hz⟩,.inl ⟨rfl,λj B=>?_⟩⟩;rcases Am j i with z | z
   ·rcases m with ⟨_,h⟩ | ⟨h,_⟩
    ·exact h j z
    ·exact absurd a h
   ·rw [show j=i by omega,<-e2,b,GA]
  ·have y:=R.lz
   have a5:Gq x x (J' g)/\J' g≠[]/\(J' g).length<=d/\B_ (J' g) ((J' g).length - 1)=1/\Fp x (AK (J' g)):=by
    by_cases z:L2=[]
    ·have L0:L≠[]:=ne.resolve_right (λh=>h z);obtain ⟨I,a2,a3,a4,_,a6⟩:=K5 D.low D.nz L0 (FL L0) y R.left P;obtain ⟨Y,J,M⟩:=JU a4;exact ⟨I,a2,⋯,a6,K4 I.low D.low J M (FL L0)⟩
    ·obtain ⟨I,a2,a3,a4,_,a6⟩:=K5 o.low o.nz z (F2 z) y R.right P;obtain ⟨Y,J,M⟩:=JU a4;exact ⟨I,a2,⋯,a6,K4 I.low o.low J M (F2 z)⟩
   obtain ⟨f1,f2,f3,f4,f5⟩:=a5;refine ⟨O,t,J' g,some (.int (i:Int)),rfl,F.trans s3,⟨C,ht,hz⟩,.inr ⟨f2,f1,f3,JQ f1.low f4,f5,λj B=>?_⟩⟩;rcases Am j i with z | z
   ·rcases m with ⟨_,h⟩ | ⟨_,_,_,_,_,h⟩
    ·exact ⟨0,Sr.Pol.nat 0,by rw [h j z];ext⟩
    ·obtain ⟨Y,J,M⟩:=h j z;obtain ⟨Y2,u,v⟩:=JU (MR.of (Fw y) (EG D.low) (EH y) R.left);exact ⟨Y*Y2,J.mul u,by rw [M,v];ext⟩
   ·obtain ⟨Y2,u,v⟩:=JU (MR.of (Fw y) (EG o.low) (EH y) R.right);exact ⟨Y2,u,by rw [show j=i by omega,<-e2,v]⟩
 ·rintro W H1 ⟨_,c,L,X,rfl,S,Z,m⟩;refine CA (AU rfl ?_);rcases m with ⟨_,h⟩ | ⟨h1,h2,h3,h4,_,h6⟩
  ·refine absurd ?_ (B4 G.low G.nz l0);rw [Sr.parts_all (n:=n) ⋯ (AL l)];exact sm0 n λj B=>by rw [h j B,Sr.cm_zero];ext
  ·exact k c L H1 S Z h2 h1 h3 h4 h6
noncomputable def DP (n:Nat):Nat->de->de
 | _,[]=>[]
 | 0,x::l=>x::DP n (n - 1) l
 | i+1,_::l=>0::DP n i l
theorem OD (n:Nat):∀ i:Nat,DP n i []=[]
 | 0=>rfl
 | _+1=>rfl
theorem OF (n:Nat):∀ (i:Nat) (X:de),L1 (DP n i X)<=L1 X
 | _,[]=>by rw [OD];exact AM _
 | 0,x::l=>by have:=OF n (n - 1) l;show x.natAbs+L1 (DP n (n - 1) l)<=x.natAbs+L1 l;omega
 | i+1,x::l=>by have:=OF n i l;show 0+L1 (DP n i l)<=x.natAbs+L1 l;omega
theorem OG (n:Nat):∀ (i:Nat) (X:de),(DP n i X).length=X.length
 | _,[]=>by rw [OD]
 | 0,x::l=>by rw [DP,B7,B7,OG]
 | i+1,x::l=>by rw [DP,B7,B7,OG]
theorem OH {n:Nat} (a:1<=n):∀ (X:de) (i t:Nat),i<n->co (DP n i X) t=if t % n=i then co X t else 0
 | [],_,t,_=>by rw [OD,Af (Ab _)];split <;> rfl
 | x::l,0,0,_=>by rw [Nat.zero_mod,mF rfl];rfl
 | x::l,0,t+1,h=>by
   have e:=OH a l (n - 1) t ⋯;show co (DP n (n - 1) l) t=if (t+1) % n=0 then co l t else 0
   rw [e]
   have:t % n=n - 1↔(t+1) % n=0:=by
    have b:=Nat.mod_lt t (show 0<n by omega);rw [Nat.add_mod];rcases Am (t % n+1 % n) n with c | c
    ·rw [D5 c];rcases Nat.eq_or_lt_of_le a with z | z
     ·have:t % n=0:=by omega
      have:(1:Nat) % n=0:=by rw [<-z]
      omega
     ·rw [D5 z] at *;omega
    ·rcases Nat.eq_or_lt_of_le a with z | z
     ·have:t % n=0:=by omega
      have:(1:Nat) % n=0:=by rw [<-z]
      omega
     ·rw [D5 z] at *;rw [show t % n+1=n by omega,Nat.mod_self];omega
   by_cases c:t % n=n - 1
   ·rw [mF c,mF (this.mp c)]
   ·rw [mE c,mE λz=>c (this.mpr z)]
 | x::l,i+1,0,h=>by rw [Nat.zero_mod,mE ⋯];rfl
 | x::l,i+1,t+1,h=>by
   have e:=OH a l i t ⋯;show co (DP n i l) t=if (t+1) % n=i+1 then co l t else 0
   rw [e]
   have:t % n=i↔(t+1) % n=i+1:=by
    have b:=Nat.mod_lt t (show 0<n by omega);rw [Nat.add_mod,D5 (show 1<n by omega)];rcases Am (t % n+1) n with c | c
    ·rw [D5 c];omega
    ·rw [show t % n+1=n by omega,Nat.mod_self];omega
   by_cases c:t % n=i
   ·rw [mF c,mF (this.mp c)]
   ·rw [mE c,mE λz=>c (this.mpr z)]
def Iz.msk {A k n j:Nat} {f:Sr} (d:1<=n) (b:j<n) (h:Iz A k f):Iz A k (Sr.X j*Sr.cm (Sr.X n) (Sr.st n j f)):=by
 obtain ⟨X,rfl,a,l⟩:=h;refine ⟨DP n j X,Sr.ext' λt=>?_,A7 (OF n j X) a,by rw [OG];exact l⟩;rw [Sr.Xs_c ⋯ (Sr.st_pol ⋯ (Dd X)) b];show ((co (DP n j X) t:Int):Rat)=_;rw [OH d X j t b];by_cases c:t % n=j
 ·rw [mF c,mF c];show _=((co X (j+t / n*n):Int):Rat);rw [show j+t / n*n=t by have:=Nat.mod_add_div t n;rw [B5] at this;omega]
 ·rw [mE c,mE c];rfl
def HA {K:W.Frag} {H:Hp} {Q:VK} {E:XK} {p q:Addr} {l m:cW} {b d:Nat} (g:Pl H p l) (h:Pl H q m) (Gl:Gq b b l) (i:Gq d d m) (ll:l.length<=100) (j:m.length<=100) (c:b<=300000) (f:d<=300000)
  (k:∀ r R a,Same H a->Pl a r R->Gq (b+d+l.length) (b+d) R->R.length<=l.length+m.length - 1->sr R=sr l*sr m->Q (.ref r) a):Ci K [.ref p,.ref q] H Q E:=by
 obtain ⟨n,hp,o⟩:=g;obtain ⟨u,v,w⟩:=h;exact ⟨p,q,n,u,l,m,b,b,d,d,rfl,SqT.of hp,v,NuK.of o,w,Gl,i,ll,j,c,c,f,f,λr R a s P G len e=>k r R a s P G len (Db e)⟩
def U7 {f:Nu->Nu->Nu} {s:Rat} {K:W.Frag} {H:Hp} {Q:VK} {E:XK} {p q:Addr} {l m:cW} {b:Nat} (d:Pl H p l) (g:Pl H q m) (Gl:Gq b b l) (c:Gq b b m) (ll:l.length<=100) (h:m.length<=100) (B:b<=100000)
  (k:∀ r R a,Same H a->Pl a r R->Gq (b+b+1) (b+b+1) R->R.length<=max l.length m.length->sr R=sr l+Sr.num s*sr m->Q (.ref r) a):JA f s K [.ref p,.ref q] H Q E:=by
 obtain ⟨i,hp,n⟩:=d;obtain ⟨o,u,v⟩:=g;obtain ⟨M,w,x,bM,y,z⟩:=UQ Gl c
 exact ⟨p,q,i,o,l,m,M,_,_,rfl,hp,u,n,v,Gl.low,c.low,w,x,bM,y,z,⋯,⋯,ll,h,λr R a A P G len e=>k r R a A P (G.mono ⋯ ⋯) len (Sr.ext' λj=>by
  show B_ R j=(sr l).c j+(Sr.num s*sr m).c j;rw [Sr.num_mul];exact e j)⟩
noncomputable def pc (f:Sr) (j:Nat):Sr:=Sr.X j*Sr.cm (Sr.X 3) (Sr.st 3 j f)
def PcAt (H:Hp) (r:Addr) (f:Sr) (j:Nat):Prop:=∃ X,Pl H r X/\Gq 1020 1020 X/\X.length<=20/\sr X=pc f j
def PcAt.same {H a:Hp} {r:Addr} {f:Sr} {j:Nat} (h:PcAt H r f j) (s:Same H a):PcAt a r f j:=let ⟨X,P,r⟩:=h;⟨X,P.same s,r⟩
def rS (i:Nat):Gq 1 1 (xt i):=by
 refine DZ (U0 i) (U1 i) (M:=1) ∅ ∅ (N:=λk=>if k=i then 1 else 0) (λk=>?_) λk=>by
  by_cases c:k=i
  ·rw [mF c];decide
  ·rw [mE c];decide
 have:=mQ (congrArg Sr.c (Ja i)) k;rw [show Sr.X i=Sr.X i*1 by ext,Sr.X_mul] at this;have h:B_ (xt i) k=_:=this;rw [h,FJ];by_cases c:k=i
 ·rw [mF c,mF ⋯,c,Nat.sub_self];show (1:Rat)=((1:Int):Rat) / ((1:Int):Rat);rw [show ((1:Int):Rat)=1 from rfl];ext
 ·rw [mE c];by_cases d:i<=k
  ·obtain ⟨m,a⟩:∃ m,k - i=m+1:=⟨k - i - 1,⋯⟩;rw [mF d,a];show (0:Rat)=((0:Int):Rat) / ((1:Int):Rat);rw [show ((1:Int):Rat)=1 from rfl,show ((0:Int):Rat)=0 from rfl];ext
  ·rw [mE d,show ((1:Int):Rat)=1 from rfl,show ((0:Int):Rat)=0 from rfl];ext
def rT (h:M7 K vs H Q E):wF K { nx:=λ_ f=>Q .non f,rt:=Q } (L2.start ["Q","pieces","found","i"] vs) H:=by
 obtain ⟨p,l,b,rfl,Pp,G,l0,b9,l9,k⟩:=h;refine BJ (OA ⟨3,rfl,∅,∅,CompJ.range (n:=3) (λi v f=>i<=3/\Same H f/\v.length=i/\∀ j,j<i->∃ r,v[j]?=some (.ref r)/\PcAt f r (sr l) j) ⟨∅,Same.refl H,rfl,λj B=>absurd B ⋯⟩ ?_ ?_ ?_⟩)
 ·rintro i v f ⟨h1,_,h2,_⟩;exact ⟨h1,sz ⋯⟩
 ·rintro i v f I ⟨_,s1,ly,B⟩;rw [Int.zero_add];refine Ag (CH (AU rfl ⟨i,rfl,⋯,λm H1 s2 P1=>?_⟩));have a2:=s1.trans s2;refine Ag (Fr (AU rfl (O' (AU rfl ⟨p,l,3,i,b,rfl,Pp.same a2,∅,I,G,⋯,λg L2 J s3 P2 G2 a3 e2=>?_⟩))));refine O' ⟨g,L2,3,b,rfl,P2,∅,∅,G2,⋯,λr3 L3 H3 u P3 G3 Gh e3=>?_⟩
  have l3:L3.length<=15:=by
   rw [Gh];split
   ·omega
   ·omega
  have xl:(xt i).length=i+1:=by unfold xt;rw [Cr,Df];rfl
  have M:=s3.trans u;refine HA (P1.same M) P3 (rS i) G3 ⋯ ⋯ ∅ ⋯ λr4 R H4 N P4 G4 a7 e4=>?_;have O:=(s2.trans M).trans N;refine ⟨I,s1.trans O,by rw [Cr,ly];rfl,λj aj=>?_⟩;rcases Am j i with c | c
  ·obtain ⟨r,hr,pr⟩:=B j c;exact ⟨r,by rw [Es ⋯];exact hr,pr.same O⟩
  ·have:j=i:=by omega
   subst this;refine ⟨r4,by rw [Dw ⋯,ly,Nat.sub_self];rfl,R,P4,G4.mono ⋯ ⋯,⋯,?_⟩;rw [e4,Ja,e3,e2];rfl
 ·rintro v H1 ⟨_,s1,ly,B⟩ w hw;obtain ⟨q,q0,P⟩:=B 0 ∅;obtain ⟨m,q1,S⟩:=B 1 ∅;obtain ⟨g,q2,T⟩:=B 2 ∅
  have ey:v=[.ref q,.ref m,.ref g]:=by
   match v,ly with
   | [x,y,z],_=>
     obtain rfl:x=.ref q:=mO q0;obtain rfl:y=.ref m:=mO q1;obtain rfl:z=.ref g:=mO q2;rfl
  subst ey;have sw:=AR hw (.lst [.ref q,.ref m,.ref g]);show Sk K _ [some (.ref p),some (.ref w),none,none] _;refine BJ ⟨sz ∅,λU a4=>?_⟩;have W:=AR a4 (.tup []);have Z:=W _ _ (upd_same (H:=H1) (a:=w) (o:=HO.lst [V.ref q,V.ref m,V.ref g]));have s3:=(s1.trans sw).trans W;have P:=P.same (sw.trans W);have S:=S.same (sw.trans W);have T:=T.same (sw.trans W);show Sj K _ [some (.ref p),some (.ref w),some (.ref U),none] _;have a0:upd (upd H1 w (.lst [.ref q,.ref m,.ref g])) U (.tup []) U=some (HO.tup []):=upd_same;generalize upd (upd H1 w (.lst [.ref q,.ref m,.ref g])) U (.tup [])=J at Z s3 P S T a0 ⊢;refine LL ⟨3,rfl,∅,∅,ForR.by (n:=3) (λi σ f=>i<=3/\∃ (c:Addr) (F:cW) (L:d8),σ=[some (.ref p),some (.ref w),some (.ref c),L]/\Same J f/\Pl f c F/\Gq (3101*2 ^ i - 1) (3101*2 ^ i - 1) F/\F.length<=60/\sr F=Sr.sm (λj=>pc (sr l) j*(pc (sr l) j+Sr.num (-1)*pc (sr l) ((j+2) % 3))) i) ⟨∅,U,[],none,rfl,Same.refl J,⟨[],a0,trivial⟩,(U4 0).mono ∅ ∅,∅,GA⟩ ?_ ?_⟩
  ·rintro i σ H3 I ⟨_,c,F,L,rfl,u,PF,GF,lF,eF⟩;rw [Int.zero_add];have C:=u _ _ Z
   have go:∀ (ra rb:Addr),N_ [V.ref q,V.ref m,V.ref g] (i:Int)=some (.ref ra)->N_ [V.ref q,V.ref m,V.ref g] ((i:Int) - 1)=some (.ref rb)->PcAt J ra (sr l) i->PcAt J rb (sr l) ((i+2) % 3)->(AF 3) (.int (i:Int)) [some (.ref p),some (.ref w),some (.ref c),L] H3 (λa5 a6=>(AN (AE (JB K) [] E0 (AB (AA 2) (AB (AE (Ci K) [] E0 (AB (A_ gL (AA 1) (AA 3)) (AB (AE (Kf K) [] E0 (AB (A_ gL (AA 1) (AA 3)) (AB (A_ gL (AA 1) (A_ BA (AA 3) (tC (.int 1)))) AC))) AC))) AC))) (AF 2)) { nx:=λσ f=>i+1<=3/\∃ (c:Addr) (F:cW) (L:d8),σ=[some (.ref p),some (.ref w),some (.ref c),L]/\Same J f/\Pl f c F/\Gq (3101*2 ^ (i+1) - 1) (3101*2 ^ (i+1) - 1) F/\F.length<=60/\sr F=Sr.sm (λj=>pc (sr l) j*(pc (sr l) j+Sr.num (-1)*pc (sr l) ((j+2) % 3))) (i+1),rt:=Q } a5 a6):=λra rb ha hb pa pb=>by
    obtain ⟨X,PX,GX,lX,eX⟩:=pa.same u;obtain ⟨Y,PY,GY,lY,eY⟩:=pb.same u;refine zW (KK (Ag (AU rfl (Ag (Bc (AU rfl (AU rfl (HY C ha (Ag (Bc (AU rfl (AU rfl (HY C ha (Bc (AU rfl (Bc (AU rfl (O' ⟨_,_,rfl,rfl,HY C hb ?_⟩))))))))))))))))));refine U7 PX PY GX GY ⋯ ⋯ ∅ λr5 R5 H5 N P5 G5 ab e5=>?_;refine HA (PX.same N) P5 GX G5 ⋯ ⋯ ∅ ∅ λr6 R6 H6 s6 P6 G6 ac e6=>?_;have pw:1<=2 ^ i:=Nat.one_le_two_pow;have al:2 ^ i<=4:=EL (n:=2) (j:=2) ∅ ⋯;refine U7 (PF.same (N.trans s6)) P6 GF (G6.mono ⋯ ⋯) ⋯ ⋯ ⋯ λr7 R7 H7 s7 P7 G7 ad e7=>⟨I,r7,R7,_,rfl,((u.trans N).trans s6).trans s7,P7,G7.mono ?_ ?_,⋯,?_⟩
    ·rw [CU];omega
    ·rw [CU];omega
    ·rw [e7,eF,e6,e5,eX,eY,Sr.num_one];show _+1*_=Sr.sm _ i+_;ext
   have h3:i=0\/i=1\/i=2:=by omega
   rcases h3 with rfl | rfl | rfl
   ·exact go q g rfl rfl P T
   ·exact go m q rfl rfl S P
   ·exact go g m rfl rfl T S
  ·rintro σ H3 ⟨_,c,F,L,rfl,u,PF,GF,lF,eF⟩;show Si K _ _ _;refine CA (AU rfl (k c F H3 (s3.trans u) PF ?_));have x0:Sr.X 0=(1:Sr):=Sr.ext' λk=>by rw [show Sr.X 0=Sr.X 0*1 by ext,Sr.X_mul,mF (Ab _),Cu]
   have e0:pc (sr l) 0=Sr.cm (Sr.X 3) (Sr.st 3 0 (sr l)):=by unfold pc;rw [x0];ext
   have D:sr F=pc (sr l) 0*pc (sr l) 0+pc (sr l) 1*pc (sr l) 1+pc (sr l) 2*pc (sr l) 2 - pc (sr l) 0*pc (sr l) 1 - pc (sr l) 0*pc (sr l) 2 - pc (sr l) 1*pc (sr l) 2:=by
    rw [eF];show 0+pc (sr l) 0*(pc (sr l) 0+Sr.num (-1)*pc (sr l) 2)+pc (sr l) 1*(pc (sr l) 1+Sr.num (-1)*pc (sr l) 0)+pc (sr l) 2*(pc (sr l) 2+Sr.num (-1)*pc (sr l) 1)=_;rw [Sr.n_1];ext
   have F0:F≠[]:=λz=>by
    have:=Sr.roots3_ne (AL l) (B4 G.low G.nz l0) _ _ _ e0 (rfl:pc (sr l) 1=_) (rfl:pc (sr l) 2=_);rw [<-D,z,GA] at this;exact this rfl
   have qq:∀ A k,Qz A k (sr l)->l.length<=k->Qz (oA 3 A) (2*(k - 1)+1) (sr F):=λA k hq lk=>by
    obtain ⟨d,a1,j⟩:=hq;have lp:=BE.mpr l0
    have pj:∀ i,i<3->Iz A k (Sr.num d*pc (sr l) i):=λi I=>by
     have:=j.msk (n:=3) ∅ I;rw [Sr.st_num,Sr.cm_mul _ (Sr.Pol.num _) (Sr.st_pol ∅ (AL l)),Sr.cm_num] at this;unfold pc;rw [show Sr.num d*(Sr.X i*Sr.cm (Sr.X 3) (Sr.st 3 i (sr l)))=Sr.X i*(Sr.num d*Sr.cm (Sr.X 3) (Sr.st 3 i (sr l))) by grind];exact this
    have t:∀ i i',i<3->i'<3->Iz (A*(A+A)) (2*(k - 1)+1) (Sr.num d*pc (sr l) i*(Sr.num d*pc (sr l) i - Sr.num d*pc (sr l) i')):=λi i' h1 h2=>((pj i h1).mul ⋯ ((pj i h1).sub (pj i' h2))).mono (AM _) ⋯;refine ⟨d*d,λz=>(D6.mp z).elim a1 a1,?_⟩;have:=((t 0 2 ∅ ∅).add (t 1 0 ∅ ∅)).add (t 2 1 ∅ ∅);rw [D,<-Sr.num_num];have e:Sr.num d*Sr.num d*(pc (sr l) 0*pc (sr l) 0+pc (sr l) 1*pc (sr l) 1+pc (sr l) 2*pc (sr l) 2 - pc (sr l) 0*pc (sr l) 1 - pc (sr l) 0*pc (sr l) 2 - pc (sr l) 1*pc (sr l) 2)=Sr.num d*pc (sr l) 0*(Sr.num d*pc (sr l) 0 - Sr.num d*pc (sr l) 2)+Sr.num d*pc (sr l) 1*(Sr.num d*pc (sr l) 1 - Sr.num d*pc (sr l) 0)+Sr.num d*pc (sr l) 2*(Sr.num d*pc (sr l) 2 - Sr.num d*pc (sr l) 1):=by ext
    rw [e];refine this.mono ?_ ⋯;show _<=(if (3:Nat)=2 then A else if (3:Nat)=3 then 6*(A*A) else A*(A*A));rw [mE ∅,mF rfl,Nat.mul_add];omega
   obtain ⟨_,hh,ph,eh⟩:=Sr.roots3 (AL l) _ _ _ e0 (rfl:pc (sr l) 1=_) (rfl:pc (sr l) 2=_);exact ⟨GF.mono ∅ ∅,F0,(qq _ _ (U5 G.low) (AM _)).len GF.low GF.nz,⟨hh,ph,by rw [D];exact eh⟩,qq⟩
def rV:val (-1,1) = -1:=by unfold val;show ((-1:Int):Rat) / ((1:Int):Rat) = -1;rw [show ((1:Int):Rat)=1 from rfl,show ((-1:Int):Rat) = -1 from rfl];ext
def OI {K:W.Frag} {H:Hp} {Q:VK} {E:XK} {p e:Addr} {l:cW} {b:Nat} (c:Pl H p l) (d:H e=some (.tup [.int (-1),.int 1])) (G:Gq b b l) (ll:l.length<=40) (f:b<=60000)
  (k:∀ r L a,Same H a->Pl a r L->Gq (b+42) (b+42) L->L.length=l.length->sr L=Sr.tn (sr l)->Q (.ref r) a):FG K [.ref p,.ref e] H Q E:=
 ⟨p,e,l,-1,1,b,1,rfl,c,d,⟨∅,∅⟩,∅,∅,∅,∅,G,ll,f,λr L a s P g len h=>k r L a s P (g.mono ⋯ ⋯) len (by rw [h,rV])⟩
def rW:Iz 1 2 (Sr.num (-1)*Sr.X 1):=(JY 1).smul (-1)
def rX (h:M6 K vs H Q E):wE K { nx:=λ_ w=>Q .non w,rt:=Q } (L2.start ["Q","n","turned","squares"] vs) H:=by
 obtain ⟨p,l,n,b,rfl,o,n2,n4,G,x,b9,l9,k⟩:=h;have lp:=BE.mpr x;have y:∀ {A k:Nat} {f:Sr},Sr.Pol f->1<=k->Qz A k f->Qz A k (Sr.tn f):=λ{A k f} pf k1 h=>(Qz.cm1 pf rW h k1).mono (AM _) ⋯;refine HZ (Hb (Bc (AU rfl (O' ⟨rfl,_,rfl,Av (λc=>?_) (λc=>?_)⟩))))
 ·have q:n=2:=by have:=mH c;injection this with h;omega
  subst q;refine CA (Ag (AU rfl (Cf ⟨1,rfl,O' ⟨Bx,λe1 B=>?_⟩⟩)));have d:=AR B (.tup [.int (-1),.int 1]);refine OI (o.same d) upd_same G ⋯ ⋯ λr L w s PL GL len e=>k r L w (d.trans s) PL ⟨GL.mono ⋯ ⋯,BE.mp ⋯,⋯,⟨Sr.st 2 0 (sr l*Sr.tn (sr l)),Sr.st_pol ∅ ((AL l).mul (Sr.tn_pol (AL l))),by rw [e];exact Sr.roots2 (AL l)⟩,λA k u lk=>?_⟩;rw [e];refine (y (AL l) ⋯ u).mono ?_ ⋯;show A<=(if (2:Nat)=2 then A else _);rw [mF rfl];exact AM _
 show Sg K _ [some (.ref p),some (.int (n:Int)),none,none] H;refine HZ (Hb (Bc (AU rfl (O' ⟨rfl,_,rfl,Av (λC=>?_) (λC=>?_)⟩))))
 ·have D:n=3:=by have:=mH C;injection this with h;omega
  subst D;exact CA (CH (AU rfl ⟨p,l,b,rfl,o,G,x,b9,l9,k⟩))
 show Sf K _ [some (.ref p),some (.int (n:Int)),none,none] H
 have e4:n=4:=by
  have h2:¬ n=2:=λz=>c (by rw [z];rfl);have h3:¬ n=3:=λz=>C (by rw [z];rfl);omega
 subst e4;refine BJ (Ag (AU rfl (Cf ⟨1,rfl,O' ⟨Bx,λe1 B=>?_⟩⟩)));have d:=AR B (.tup [.int (-1),.int 1]);refine OI (o.same d) upd_same G ⋯ ⋯ λR L2 H2 s2 S T F q=>?_;have g:=d.trans s2;show Se K _ [some (.ref p),some (.int 4),some (.ref R),none] H2;refine BJ (Fr (Ag (AU rfl (AU rfl (HA (o.same g) S G T ⋯ ⋯ ⋯ ⋯ λr3 U H3 s3 P3 G3 Gh D=>?_)))));have I:Gq 2100 2100 U:=G3.mono ⋯ ⋯;refine O' (O' ⟨r3,U,2,0,2100,rfl,P3,∅,∅,I,⋯,λr4 L4 H4 s4 P4 G4 W e5=>?_⟩);have J:=s3.trans s4;show Sd K _ [some (.ref p),some (.int 4),some (.ref R),some (.ref r4)] H4;have l4:L4.length<=l.length:=by omega
 refine CA (Ag (AU rfl (Ag (Ag (AU rfl (Cf ⟨1,rfl,O' ⟨Bx,λe6 h6=>?_⟩⟩))))));have X:=AR h6 (.tup [.int (-1),.int 1]);refine OI (P4.same X) upd_same G4 ⋯ ∅ λr7 L7 H7 s7 P7 G7 Y e7=>?_;refine O' ⟨r7,L7,2,_,rfl,P7,∅,∅,G7,⋯,λr8 L8 H8 s8 P8 G8 j e8=>?_⟩;have m:=((J.trans X).trans s7).trans s8
 have l8:L8.length<=20:=by
  rw [j];split <;> omega
 refine HA (S.same m) P8 T G8 ⋯ ⋯ ⋯ ∅ λr9 v H9 s9 P9 M Z e9=>?_;have N:=Sr.tn_pol (AL l);have a:Sr.Pol (Sr.st 2 0 (sr l*Sr.tn (sr l))):=Sr.st_pol ∅ ((AL l).mul N);have O:sr v=Sr.tn (sr l)*Sr.cm (Sr.X 2) (Sr.tn (Sr.st 2 0 (sr l*Sr.tn (sr l)))):=by rw [e9,q,e8,e7,e5,D,q]
 have R0:v≠[]:=λz=>by
  have l1:=B4 G.low G.nz x;have t1:=Sr.tn_ne (AL l) l1;have P:=Sr.roots2 (AL l);have s0:Sr.st 2 0 (sr l*Sr.tn (sr l))≠0:=λh=>Sr.ne_mul (AL l) N l1 t1 (by rw [P,h,Sr.cm_zero]);have:=Sr.ne_mul N (Sr.cm_pol (Sr.pXn 2) (Sr.tn_pol a)) t1 (Sr.cX_ne ∅ (Sr.tn_pol a) (Sr.tn_ne a s0));rw [<-O,z,GA] at this;exact this rfl
 have qq:∀ A k,Qz A k (sr l)->l.length<=k->Qz (oA 4 A) (3*(k - 1)+1) (sr v):=λA k u lk=>by
  have q1:=y (AL l) ⋯ u;have q2:=(u.mul ⋯ q1).st (n:=2) (i:=0) ∅ ∅;have q3:=y a ⋯ q2;have q4:=Qz.cm1 (Sr.tn_pol a) (JY 2) q3 ⋯;have q5:=q1.mul ⋯ q4;rw [O];refine q5.mono ?_ ⋯;show _<=(if (4:Nat)=2 then A else if (4:Nat)=3 then 6*(A*A) else A*(A*A));rw [mE ∅,mE ∅];exact AM _
 exact k r9 v H9 ((g.trans m).trans s9) P9 ⟨M.mono ⋯ ⋯,R0,(qq _ _ (U5 G.low) (AM _)).len M.low M.nz,⟨Sr.st 2 0 (Sr.st 2 0 (sr l*Sr.tn (sr l))*Sr.tn (Sr.st 2 0 (sr l*Sr.tn (sr l)))),Sr.st_pol ∅ (a.mul (Sr.tn_pol a)),by rw [O];exact Sr.roots4 (AL l)⟩,qq⟩
def KindAt.same {H c:Hp} {p d e:Addr} {n:Nat} {a b:Nu} (h:KindAt H p d e n a b) (s:Same H c):KindAt c p d e n a b:=
 { h with at':=s _ _ h.at',at1:=s _ _ h.at1,at2:=s _ _ h.at2 }
theorem FFs.length {H:Hp}:∀ {ps:d7} {L:List (cW×cW)},FFs H ps L->ps.length=L.length
 | [],[],_=>rfl
 | [],_::_,h=>h.elim
 | _::_,[],h=>h.elim
 | _::_,_::_,h=>congrArg Nat.succ (FFs.length h.2)
theorem FFs.same {H a:Hp} (s:Same H a):∀ {ps:d7} {L:List (cW×cW)},FFs H ps L->FFs a ps L
 | [],[],_=>trivial
 | [],_::_,h=>h.elim
 | _::_,[],h=>h.elim
 | _::_,_::_,h=>⟨let ⟨p,e,f⟩:=h.1;⟨p,e,f.same s⟩,FFs.same s h.2⟩
theorem FFs.get {H:Hp}:∀ {ps:d7} {L:List (cW×cW)} {i:Nat} {v:V},FFs H ps L->ps[i]?=some v->∃ p,v=.ref p/\FF H p (L_ L i) (D_ L i)
 | [],[],_,_,_,e=>nomatch e
 | [],_::_,_,_,h,_=>h.elim
 | _::_,[],_,_,h,_=>h.elim
 | _::_,_::_,0,_,h,e=>mO e ▸ h.1
 | _::_,_::_,i+1,_,h,e=>FFs.get (i:=i) h.2 e
theorem FFs.app {H:Hp}:∀ {ps a:d7} {L M:List (cW×cW)},FFs H ps L->FFs H a M->FFs H (ps++a) (L++M)
 | [],_,[],_,_,h=>h
 | [],_,_::_,_,h,_=>h.elim
 | _::_,_,[],_,h,_=>h.elim
 | _::_,_,_::_,_,h,b=>⟨h.1,FFs.app h.2 b⟩
def btL {n k:Nat} (h:n<2 ^ k) (a:1<=k):E_ n<=k:=by
 unfold E_;by_cases c:n=0
 ·rw [c,show Nat.log2 0=0 from by decide];omega
 ·have:=(Nat.log2_lt c).mpr h;omega
def btM (n j:Nat):E_ (n*2 ^ j)<=E_ n+j:=btL (by rw [Cj];exact Nat.mul_lt_mul_of_pos_right (Eo n) (Nat.pow_pos ∅)) (by unfold E_;omega)
def rY {z:Sz} {T B:cW} {g:Nat} (h:Sq 1 z T B) (a:bh g z=true):Gq 2960 2960 T/\Gq 2960 2960 B/\T.length<=4/\B.length<=4:=by
 obtain ⟨b,c,d,f,i,j,k⟩:=LG a;have A:=h.rp.all (e:=5) ⋯ ⋯ ⋯ ⋯ ∅;have:=A.tn;have:=A.bm;exact ⟨A.gt.mono ⋯ ⋯,A.gb.mono ⋯ ⋯,⋯,⋯⟩
theorem LM {n g:Nat} {a:Nat->Sz}:∀ m,aJ n g a m=true->∀ i,i<m->bh g (a i)=true/\aY ⟨1,i+1,1,1,1⟩ (yz n g (a i))=true/\aR (jz n g a i) (cK n g i (a i))=true
 | 0,_,i,b=>absurd b ⋯
 | m+1,h,i,b=>by
   have h:(aJ n g a m && bh g (a m) && aY ⟨1,m+1,1,1,1⟩ (yz n g (a m)) && aR (jz n g a m) (cK n g m (a m)))=true:=h;simp only [C9] at h;obtain ⟨⟨⟨d,e⟩,f⟩,j⟩:=h;rcases Am i m with c | c
   ·exact LM m d i c
   ·rw [show i=m by omega];exact ⟨e,f,j⟩
def rZ {K:W.Frag} {vs:d7} {H:Hp} {Q:VK} {E:XK} (r:NOk K) (h:Hm K vs H Q E):wB K { nx:=λ_ y=>Q .non y,rt:=Q } (L2.start ["kind","parts","g","i","part","bottom"] vs) H:=by
 obtain ⟨p,w,q1,q2,ps,n,g,a,b,L,zs,rfl,d,hw,Fs,⟨lL,hz⟩,jo,k⟩:=h;obtain ⟨u0,v0,w0,r⟩:=r;have lp:=Fs.length;have n2:=d.n2;have n4:=d.n4;have g3:=(LG (LM n jo 0 ⋯).1).2.2.2.2.2.1;have c0:=Uo d.lb d.a0 g;have cb:=LH d.ba.1 d.bb.2 g3;have pu:=GD (Sr.pXn n) a b;refine BJ (O' ?_);show SW K _ [some (.ref p),some (.ref w),some (.ref (He K)),none,none,none] H;refine rJ ⟨_,rfl,w,rfl,⟨_,SqT.of hw⟩,ForJ.enumT (xs:=ps) (λi N y=>i<=n/\∃ (c:Addr) (T B:cW) (O P A:d8),N=[some (.ref p),some (.ref w),some (.ref c),O,P,A]/\Same H y/\FFK K y c T B/\(i=0\/FF y c T B)/\Sq (cS a b g) (jz n g zs i) T B/\Jn (xq (Sr.X n) a b) i L T B) ⟨Ab _,He K,[],[(1,1)],none,none,none,rfl,Same.refl H,⟨u0,v0,[],[.ref w0],(r H).1,(r H).2.1,trivial,(r H).2.2.1,⟨w0,rfl,(r H).2.2.2⟩,trivial⟩,.inl rfl,Sq.zero c0 cb _ (AM 1) (AM 1) (AM 1),by show sr []*1=0*sr _;rw [GA];ext⟩ ?_ ?_ ?_⟩
 ·rintro i N y _ ⟨_,c,T,B,O,P,A,_,C,_⟩;exact C _ _ hw
 ·rintro i x e N U hx ⟨_,c,T,B,O,P,A,rfl,C,Fc,_,D,R⟩ he;have Z:i<n:=by have:=(By.mp hx).1;omega
  obtain ⟨f,rfl,F0⟩:=Fs.get hx;have se:=AR he (.tup [.int (i:Int),.ref f]);have F:=C.trans se;obtain ⟨ib,oM,oS⟩:=LM n jo i Z;have o:=hz i Z;obtain ⟨gt,gb,lt,lb⟩:=rY o ib;refine ⟨e,_,rfl,upd_same,rfl,_,_,rfl,_,_,rfl,rfl,?_⟩;show SU K _ [some (.ref p),some (.ref w),some (.ref c),some (.int (i:Int)),some (.ref f),A] _;obtain ⟨u,v,hf,Pu,Pv⟩:=F0.same F;generalize upd U e (.tup [.int (i:Int),.ref f])=H2 at se F hf Pu Pv ⊢;refine BJ (Ag (AU rfl (Bm rfl hf rfl ⟨p,v,q1,q2,n,2960,a,b,_,rfl,d.same F,Pv,gb,∅,lb,λr1 L1 H3 s3 P1 G Ca e1=>?_⟩)));show ST K _ [some (.ref p),some (.ref w),some (.ref c),some (.int (i:Int)),some (.ref f),some (.ref r1)] H3;refine KK (Ag (AU rfl (Ag (CH (CH (AU rfl ⟨i,rfl,⋯,λr2 H4 s4 P2=>⟨_,rfl,λr3 w3 H5 s5 h5 P5=>?_⟩⟩))))));have F5:FF H5 r3 (xt i) [(1,1)]:=⟨r2,w3,h5,P2.same s5,P5⟩;have q:=(s3.trans s4).trans s5;refine Ag (Ag (AU rfl (Bm rfl (q _ _ hf) rfl ⟨p,u,q1,q2,n,2960,a,b,_,rfl,d.same (F.trans q),Pu.same q,gt,∅,lt,λr6 L6 H6 s6 P6 S I e6=>AU rfl ?_⟩)))
  have B0:L1≠[]:=λz=>by
   rw [z,mE o.lw.ne] at Ca;cases Ca
  have ll:∀ {l:cW} {m:Nat},m<=4->l.length=(if l=[] then 0 else n*(m - 1)+1)\/True:=λ_=>.inr trivial
  have l1:L1.length<=100:=by
   rw [Ca];have:n*((D_ L i).length - 1)<=4*3:=Be n4 ⋯;split <;> omega
  have l6:L6.length<=100:=by
   rw [I];have:n*((L_ L i).length - 1)<=4*3:=Be n4 ⋯;split <;> omega
  refine ⟨r6,r1,L6,L1,rfl,P6,P1.same ((s4.trans s5).trans s6),S.low,G.low,G.nz,B0,S.bds ∅,G.bds ∅,⋯,⋯,λfa fl fv t u' v' H7 s7 ht hu hv=>?_⟩;have cs:Sr.Cs (sr L6) (sr L1):=by rw [e6,e1];exact o.lw.cs.cm pu (AL _) (AL _)
  obtain ⟨lw,qT,qB⟩:=U3 S.low G.low S.nz G.nz B0 fl fv cs;have Sx:=o.cm (n:=n) (g:=g) d.la d.lb d.a0 d.ba d.bb ib ⋯ lw (by rw [qT,qB,e6,e1];ext);have F7:FF H7 t _ _:=⟨u',v',ht,hu,hv⟩;have J:=s6.trans s7;refine N3 (F5.same J) F7 (U2 i) Sx (by rw [Int.one_mul];exact cb) oM λt2 H8 X2 Y2 s8 F8 S8 e8=>?_;rw [Int.one_mul] at S8;have M:=(q.trans J).trans s8
  have a0:FFK K H8 c T B:=by
   obtain ⟨a1,a2,a3,a4,h1,h2,h3,h4,h5⟩:=Fc;have s:=se.trans M;exact ⟨a1,a2,a3,a4,s.sqT h1,s.sqT h2,h3.same s,s.sqT h4,h5.same s⟩
  refine LJ a0 F8 D S8 oS λt3 H9 X Y s9 F9 S9 e9=>⟨Z,t3,X,Y,_,_,_,rfl,(F.trans M).trans s9,FFK.of F9,.inr F9,S9,?_⟩;have f0:val fa≠0:=λz=>by rw [z] at fv;ext
  have a6:=Sr.num_inv f0
  have a5:sr X2*Sr.cm (xq (Sr.X n) a b) (sr (D_ L i))=Sr.X i*Sr.cm (xq (Sr.X n) a b) (sr (L_ L i))*sr Y2:=by
   rw [Hz,Ja,qT,qB,e6,e1] at e8;have h1:sr X2*Sr.cm (xq (Sr.X n) a b) (sr (D_ L i))=Sr.num (val fa)⁻¹*(sr X2*(1*(Sr.num (val fa)*Sr.cm (xq (Sr.X n) a b) (sr (D_ L i))))):=by ext
   rw [h1,e8];ext
  have pq:∀ j,Sr.Pol (Sr.cm (xq (Sr.X n) a b) (sr (D_ L j))):=λj=>Sr.cm_pol pu (AL _);have pp:∀ j,Sr.Pol (Sr.cm (xq (Sr.X n) a b) (sr (L_ L j))):=λj=>Sr.cm_pol pu (AL _);have:=Nv (s:=1) S9.lw D.lw S8.lw (Sr.jN_pol pp pq i) (Sr.jD_pol pq i) ((Sr.pXn i).mul (pp i)) (pq i) R a5 (by rw [e9,Sr.num_one];ext);rw [Sr.num_one] at this;show sr X*(Sr.jD _ i*_)=(Sr.jN _ _ i*_+_)*sr Y;rw [this];ext
 ·rintro N U ⟨_,c,T,B,O,P,A,rfl,C,_,hF,D,R⟩;have e:ps.length=n:=by omega
  rw [e] at hF D R;show SV K _ _ _;exact CA (AU rfl (k c T B U C (hF.resolve_left ⋯) D R))
def Iz.cut {A k n:Nat} {f:Sr} (h:Iz A k f) (b:∀ j,n<=j->f.c j=0):Iz A n f:=by
 obtain ⟨X,rfl,a,l⟩:=h
 have d:∀ (X:de) (n:Nat),L1 (X.take n)<=L1 X:=λX=>by
  induction X with
  | nil=>intro n;rw [List.take_nil];exact AM _
  | cons x X e=>
    intro n;cases n with
    | zero=>exact Ab _
    | succ n=>have:=e n;show x.natAbs+L1 (X.take n)<=x.natAbs+L1 X;omega
 refine ⟨X.take n,Sr.ext' λj=>?_,A7 (d X n) a,by rw [CB];omega⟩;show ((co (X.take n) j:Int):Rat)=((co X j:Int):Rat);rcases Am j n with c | c
 ·unfold co;rw [AT,AT,List.getElem?_take,mF c]
 ·rw [Af (by rw [CB];omega)];exact (b j c).symm
def Qz.cut {A k n:Nat} {l:cW} (h:Qz A k (sr l)) (b:l.length<=n):Qz A n (sr l):=by
 obtain ⟨c,a,j⟩:=h;exact ⟨c,a,j.cut λi d=>by rw [Sr.num_mul,show (sr l).c i=0 from BF ⋯];ext⟩
def qA {n:Nat} (n0:0<n) {f h:Sr} (g:Sr.Pol f) (k:Sr.Pol h) (d:∀ i,i<n->∃ Y,Sr.Pol Y/\Sr.st n i f=Y*h):∃ Y,Sr.Pol Y/\f=Y*Sr.cm (Sr.X n) h:=by
 have a:∀ m,m<=n->∃ Y,Sr.Pol Y/\Sr.sm (λj=>Sr.X j*Sr.cm (Sr.X n) (Sr.st n j f)) m=Y*Sr.cm (Sr.X n) h:=λm=>by
  induction m with
  | zero=>intro _;exact ⟨0,Sr.Pol.nat 0,by show (0:Sr)=_;ext⟩
  | succ m o=>
    intro r;obtain ⟨Y,b,p⟩:=o ⋯;obtain ⟨Z,c,q⟩:=d m ⋯;refine ⟨Y+Sr.X m*Sr.cm (Sr.X n) Z,b.add ((Sr.pXn m).mul (Sr.cm_pol (Sr.pXn n) c)),?_⟩;show Sr.sm _ m+Sr.X m*Sr.cm (Sr.X n) (Sr.st n m f)=_;rw [p,q,Sr.cm_mul _ c k];ext
 obtain ⟨Y,b,e⟩:=a n (AM _);exact ⟨Y,b,(Sr.parts_all n0 g).trans e⟩
def qC (h:M8 K vs H Q E):wC K { nx:=λ_ H'=>Q .non H',rt:=Q } (L2.start ["kind","g","n","kept","rest","beside","bottom","top"] vs) H:=by
 obtain ⟨p,w,Z,q2,n,g,a,b,T,B,L,d,c,z,rfl,G,⟨u,v,hw,Pu,Pv⟩,hq,J,⟨lL,hz⟩,ib,po,k⟩:=h;have n2:=G.n2;have n4:=G.n4;unfold cL at po;simp only [C9,decide_eq_true_eq] at po;obtain ⟨⟨⟨⟨⟨⟨⟨sm,zn⟩,zm⟩,xC⟩,xA⟩,b7⟩,W1⟩,lu⟩:=po;obtain ⟨s1,s2,s3,s4,s5⟩:=Gz sm;obtain ⟨gT,gB,lT,lB⟩:=hq.all sm;generalize hW:(z.n+(n - 1)*(z.m - 1)+n - 1) / n=W at b7 W1 lu;have o:=hq.lw;have FB:=hq.fBe (e:=4) (show z.m<2 ^ 4 by omega);have FB:Fp (E_ z.C+z.m*12) (AK B):=FB
 have b9:E_ z.C+z.m*12+2<=900:=by
  have:z.xC=E_ z.C+z.m*14:=rfl;omega
 generalize cl:E_ z.C+z.m*12=xB at FB b9 lu;have qB:Qz (z.m*2 ^ xB) z.m (sr B):=LD FB o.lb o.nb o.ne o.lb (Sr.Pol.nat 1) () lB
 have b1:z.m*2 ^ xB<2 ^ (xB+4):=by
  rw [Cj,B5];exact Nat.mul_lt_mul_of_pos_left ⋯ (Nat.pow_pos ∅)
 have ba:=btL b1 ⋯;generalize a7:z.m*2 ^ xB=β at qB b1 ba lu;refine BJ (Bm rfl G.at' rfl ?_);show Sc K _ [some (.ref p),some (.ref w),some (.int (n:Int)),none,none,none,none,none] H;have bb:(1012+6)*(2*z.m)<=44490:=by omega
 refine BJ (Ag (Bm rfl hw rfl (AU rfl ⟨v,B,n,β,10960,1012,z.m,rfl,Pv,n2,n4,gB,o.ne,∅,qB,lB,s3,⋯,⋯,bb,λr1 kp H1 t1 P1 G1 k0 lk one dv=>?_⟩)));show Sb K _ [some (.ref p),some (.ref w),some (.int (n:Int)),some (.ref r1),none,none,none,none] H1;have cn:=BE.mpr k0;refine BJ (Ag (Bm rfl (t1 _ _ hw) rfl (Ag (AU rfl (AU rfl ⟨r1,kp,n,1012,rfl,P1,n2,n4,G1,⋯,λr2 SP H2 t2 P2 G2 x e2=>?_⟩)))));rw [mE k0] at x;obtain ⟨Yd,bc,ab⟩:=qA (n:=n) ⋯ (AL B) (AL kp) dv;rw [<-e2] at ab;have a0:SP≠[]:=BE.mp ⋯;have bd:=t1.trans t2;obtain ⟨zv,hv,nv⟩:=Pv.same bd;obtain ⟨z2,h2,bf⟩:=P2;have cp:n*(kp.length - 1)<=4*8:=Be n4 ⋯;refine ⟨v,r2,zv,z2,B,SP,10960,10960,1012,1012,rfl,SqT.of hv,h2,NuK.of nv,bf,gB,G2,a0,⋯,⋯,?_,?_,∅,∅,K6 bc ab,λr3 R H3 t3 P3 C a1 cc eR=>?_⟩
 ·have:(B.length+1 - SP.length)*1012<=10*1012:=BW _ ⋯;omega
 ·have:(B.length+1 - SP.length)*(1012+1)<=10*1013:=BW _ ⋯;omega
 have R0:R≠[]:=λz=>by
  have:=eR (B.length - 1);rw [z] at this;exact C7 o.lb o.nb o.ne this
 obtain ⟨cd,ac,_⟩:=JP o.lb o.nb C a1 R0 G2.low G2.nz a0 eR;have R1:=BE.mpr R0;have eB:sr B=sr R*sr SP:=Db eR
 have ad:B_ SP (SP.length - 1)=1:=by
  have:=mQ (congrArg Sr.c e2) (SP.length - 1);rw [Sr.sp_c ⋯ (AL kp),x,Ew,Nat.mul_mod_right,mF rfl,Nat.mul_div_cancel_left _ ⋯] at this;rw [x,Ew];exact this.trans (Em one)
 have aj:AX R (R.length - 1)=(1,1):=JQ C (by rw [Em o.one,ad] at ac;ext);have qR:Qz β z.m (sr R):=by rw [<-a7];exact LD FB C a1 R0 o.lb (AL SP) (by rw [eB];ext) ⋯
 have bg:Qz β z.m (sr SP):=by rw [<-a7];exact LD FB G2.low G2.nz a0 o.lb (AL R) eB ⋯
 have x0:Sr.X 0=(1:Sr):=Sr.ext' λk=>by rw [show Sr.X 0=Sr.X 0*1 by ext,Sr.X_mul,mF (Ab _),Cu]
 have am:∀ {f:Sr},Sr.Pol f->Sr.st n 0 (Sr.cm (Sr.X n) f)=f:=λ{f} pf=>by
  have F:=Sr.st_sp (i:=0) (n:=n) ⋯ ⋯ 1 pf;have s1:=Sr.st_one (n:=n) (i:=0) (j:=0) ⋯ ⋯ ⋯;rw [mF rfl,x0] at s1;rw [show (1:Sr)*Sr.cm (Sr.X n) f=Sr.cm (Sr.X n) f by ext,s1] at F;rw [F];ext
 have qK:Qz β z.m (sr kp):=by
  have:=(bg.st (n:=n) (i:=0) ⋯ ⋯);rw [e2,am (AL kp)] at this;exact this.cut ⋯
 have gR:Gq 904 904 R:=(qR.gq b1 C a1 R0 aj).mono ⋯ ⋯;have nk:kp.length - 1<=n*(kp.length - 1):=HE _ ⋯;show Sa K _ [some (.ref p),some (.ref w),some (.int (n:Int)),some (.ref r1),some (.ref r3),none,none,none] H3;refine BJ (Ag (AU rfl (AU rfl ⟨r3,R,n,904,rfl,P3,n2,n4,gR,R0,∅,⋯,λr4 S H4 t4 P4 ⟨gS,S0,lS,⟨hh,ph,eh⟩,bi⟩=>?_⟩)));have qS:=bi β z.m qR ⋯;have mS:(n - 1)*(R.length - 1)<=(n - 1)*(z.m - 1):=CS _ ⋯;have cq:(n - 1)*(z.m - 1)<=3*8:=Be ⋯ ⋯
 have cs:n*(R.length - 1)=(R.length - 1)+(n - 1)*(R.length - 1):=by
  rw [show n=1+(n - 1) by omega,Cy];simp
 show SZ K _ [some (.ref p),some (.ref w),some (.int (n:Int)),some (.ref r1),some (.ref r3),some (.ref r4),none,none] H4;have bm:=t3.trans t4;refine BJ (Ag (AU rfl (Fr (Ag (AU rfl (AU rfl (HA (P3.same t4) P4 gR gS ⋯ ⋯ ∅ ∅ λr5 R5 H5 t5 P5 G5 ce e5=>?_)))))));refine AU rfl (O' ⟨r5,R5,n,0,61000,rfl,P5,n2,⋯,G5.mono ⋯ ⋯,⋯,λr6 hl H6 t6 P6 G6 ch e6=>?_⟩);have bn:sr hl=hh:=by rw [e6,e5,eh,am ph]
 have an:=((t2.trans bm).trans t5).trans t6
 have ct:hl.length<=R.length:=by
  have F:n*hl.length<=n*R.length:=by
   have:n*R.length=n*(R.length - 1)+n:=by rw [show R.length=(R.length - 1)+1 by omega,Nat.mul_succ,Ew]
   omega
  exact Nat.le_of_mul_le_mul_left F ⋯
 refine HA (P1.same an) P6 G1 G6 ⋯ ⋯ ∅ ∅ λr7 O H7 t7 P7 G7 ci e7=>?_;show SY K _ [some (.ref p),some (.ref w),some (.int (n:Int)),some (.ref r1),some (.ref r3),some (.ref r4),some (.ref r7),none] H7;have bp:=(t5.trans t6).trans t7;have a2:=(t1.trans an).trans t7;refine BJ (Ag (Bm rfl (a2 _ _ hw) rfl (AU rfl (HA (Pu.same a2) (P4.same bp) gT gS ⋯ ⋯ ∅ ∅ λr8 tp H8 t8 P8 G8 ck e8=>?_))));show SX K _ [some (.ref p),some (.ref w),some (.int (n:Int)),some (.ref r1),some (.ref r3),some (.ref r4),some (.ref r7),some (.ref r8)] H8;have ao:=a2.trans t8
 have ar:sr B*sr S=Sr.cm (Sr.X n) (sr O):=by
  rw [e7,bn,Sr.cm_mul _ (AL kp) ph,<-eh,<-e2,eB];ext
 have Bn:=B4 o.lb o.nb o.ne
 have a3:O≠[]:=λz=>by
  have:=Sr.ne_mul (AL B) (AL S) Bn (B4 gS.low gS.nz S0);rw [ar,z,GA,Sr.cm_zero] at this;exact this rfl
 have b0:O.length<=z.m:=by omega
 have bq:=B4 G7.low G7.nz a3;have y:∀ l:cW,Sr.Pol (Sr.cm (xq (Sr.X 1) a b) (sr l)):=λl=>Sr.cm_pol (GD (Sr.pXn 1) a b) (AL l);have va:=IB G.la G.a0
 have a4:∀ i,i<n->Sr.st n i (sr tp)*Sr.cm (xq (Sr.X 1) a b) (sr (D_ L i))=Sr.cm (xq (Sr.X 1) a b) (sr (L_ L i))*sr O:=λi U=>by
  refine Sr.parts_of (n:=n) ⋯ (p:=λi=>Sr.cm (xq (Sr.X 1) a b) (sr (L_ L i))) (q:=λi=>Sr.cm (xq (Sr.X 1) a b) (sr (D_ L i))) (λi=>y _) (λi=>y _) (λj hj z=>?_) (AL tp) (AL O) ?_ U
  ·have F:=LF (b:=b) va (AL (D_ L j));have z:Sr.cm (xq (Sr.X 1) a b) (sr (D_ L j))=0:=z;rw [z,Sr.cm_zero] at F;exact B4 (hz j hj).lw.lb (hz j hj).lw.nb (hz j hj).lw.ne F.symm
  ·have eD:Sr.cm (Sr.X n) (Sr.jD (λi=>Sr.cm (xq (Sr.X 1) a b) (sr (D_ L i))) n)=Sr.jD (λi=>Sr.cm (xq (Sr.X n) a b) (sr (D_ L i))) n:=by
    rw [<-Sr.jD_cm λi=>y _];exact congrArg (λf=>Sr.jD f n) (funext λi=>LE n a b (AL _))
   have eN:Sr.jN (λi=>Sr.cm (Sr.X n) (Sr.cm (xq (Sr.X 1) a b) (sr (L_ L i)))) (λi=>Sr.cm (Sr.X n) (Sr.cm (xq (Sr.X 1) a b) (sr (D_ L i)))) n=Sr.jN (λi=>Sr.cm (xq (Sr.X n) a b) (sr (L_ L i))) (λi=>Sr.cm (xq (Sr.X n) a b) (sr (D_ L i))) n:=by
    rw [show (λi=>Sr.cm (Sr.X n) (Sr.cm (xq (Sr.X 1) a b) (sr (L_ L i))))=λi=>Sr.cm (xq (Sr.X n) a b) (sr (L_ L i)) from funext λi=>LE n a b (AL _),show (λi=>Sr.cm (Sr.X n) (Sr.cm (xq (Sr.X 1) a b) (sr (D_ L i))))=λi=>Sr.cm (xq (Sr.X n) a b) (sr (D_ L i)) from funext λi=>LE n a b (AL _)]
   have J:sr T*Sr.jD (λi=>Sr.cm (xq (Sr.X n) a b) (sr (D_ L i))) n=Sr.jN (λi=>Sr.cm (xq (Sr.X n) a b) (sr (L_ L i))) (λi=>Sr.cm (xq (Sr.X n) a b) (sr (D_ L i))) n*sr B:=J;rw [eD,eN,e8,<-ar];generalize Sr.jD (λi=>Sr.cm (xq (Sr.X n) a b) (sr (D_ L i))) n=D at J ⊢;generalize Sr.jN (λi=>Sr.cm (xq (Sr.X n) a b) (sr (L_ L i))) (λi=>Sr.cm (xq (Sr.X n) a b) (sr (D_ L i))) n=N at J ⊢;rw [show sr T*sr S*D=sr T*D*sr S by ext,J];ext
 have br:Qz (β*(β*oA n β)) z.m (sr O):=by
  have Z:=(qR.mul ⋯ qS).st (n:=n) (i:=0) ⋯ ⋯;rw [<-e5,<-e6] at Z;have q2:=qK.mul (m:=hl.length+1) ⋯ (Z.cut (n:=hl.length+1) ⋯);rw [<-e7] at q2;exact q2.cut b0
 have bs:C0 (max (E_ (z.n*2 ^ z.xA*oA n β)+W*12) (E_ (β*(β*oA n β))+z.m*12)) W z.m 4:=⟨W1,s3,⋯,⋯,⋯,⋯,∅,lu⟩;have bw:=(br.fp (e:=4) (Eo _) ⋯ G7.low G7.nz a3).mono (Nat.le_max_right (E_ (z.n*2 ^ z.xA*oA n β)+W*12) _)
 have b2:∀ i m:Nat,n*m<=tp.length+(n - 1) - i->m<=W:=λi m h=>by
  rw [<-hW];refine (Nat.le_div_iff_mul_le ⋯).mpr ?_;rw [B5];omega
 refine CA (Dq (OA ⟨_,rfl,(n:Int),rfl,⋯,⋯,?_⟩));rw [DA];refine CompJ.range (n:=n) (λi X H'=>i<=n/\Same H8 H'/\FFs H' X (L.take i)) ⟨Ab _,Same.refl H8,trivial⟩ ?_ ?_ ?_
 ·rintro i X H' ⟨F,_,h2⟩;exact ⟨F,sz (by rw [h2.length,CB];omega)⟩
 ·rintro i X H9 U ⟨_,t9,Fy⟩;rw [Int.zero_add];have bx:=ao.trans t9;refine Ag (AU rfl (Ag (Fr (AU rfl (AU rfl (AU rfl ⟨r8,tp,n,i,72000,rfl,P8.same t9,n2,U,G8.mono ⋯ ⋯,⋯,λbz st cw P c0 I M a5=>AU rfl ?_⟩))))))
  have c1:st≠[]->Fp (max (E_ (z.n*2 ^ z.xA*oA n β)+W*12) (E_ (β*(β*oA n β))+z.m*12)) (AK st):=λs0=>by
   have T0:T≠[]:=λz=>s0 (by
    have:sr st=0:=by rw [a5,e8,z,GA,show (0:Sr)*sr S=0 by ext,Sr.st_zero]
    rcases B6.symm.symm with _;by_cases c:st=[]
    ·exact c
    ·exact absurd this (B4 I.low I.nz c))
   have qT:Qz (z.n*2 ^ z.xA) z.n (sr T):=LD (hq.fT s4 T0) o.lt o.nt T0 o.lt (Sr.Pol.nat 1) () lT;have Z:=(qT.mul ⋯ qS).st (n:=n) (i:=i) ⋯ U;rw [<-e8,<-a5] at Z;exact ((Z.cut (b2 i _ M)).fp (e:=4) (Eo _) ⋯ I.low I.nz s0).mono (Nat.le_max_left ..)
  refine ⟨bz,r7,st,O,72000,_,W,z.m,4,rfl,c0,P7.same ((t8.trans t9).trans P),I,G7.mono ⋯ ⋯,a3,b2 i _ M,b0,c1,bw,bs,∅,λc2 cz T' B' a6 c3 b3 c4=>?_⟩;have b4:=hz i U;have b5:=ib i U
  have b6:sr T'*Sr.cm (xq (Sr.X 1) a b) (sr (D_ L i))=Sr.cm (xq (Sr.X 1) a b) (sr (L_ L i))*sr B':=by
   refine Sr.cancel ((AL T').mul (y _)) ((y _).mul (AL B')) (AL O) bq ?_;have:=a4 i U;rw [<-a5] at this;rw [show sr T'*Sr.cm (xq (Sr.X 1) a b) (sr (D_ L i))*sr O=sr T'*sr O*Sr.cm (xq (Sr.X 1) a b) (sr (D_ L i)) by ext,c4,show sr st*sr B'*Sr.cm (xq (Sr.X 1) a b) (sr (D_ L i))=sr st*Sr.cm (xq (Sr.X 1) a b) (sr (D_ L i))*sr B' by ext,this];ext
  have Sx:=b4.cm (n:=1) (g:=g) G.la G.lb G.a0 G.ba G.bb b5 ∅ b3 b6;obtain ⟨z1,z2,z3,z4,z5,z6,z7⟩:=LG b5
  have d0:(yz 1 g (d i)).b<=2000:=by
   have hb:(d i).b=max (E_ (d i).A) (E_ (d i).C+E_ (d i).k+200):=rfl;have F:E_ ((d i).A*2 ^ (61*((d i).n - 1+(g+(d i).m - (d i).n))))<=_:=btM _ _;have h2:E_ ((d i).C*2 ^ (61*((d i).m - 1)))<=_:=btM _ _;show max (E_ ((d i).A*2 ^ (61*((d i).n - 1+(g+(d i).m - (d i).n))))) (E_ ((d i).C*2 ^ (61*((d i).m - 1)))+E_ (d i).k+200)<=2000;omega
  have yn:(yz 1 g (d i)).n=1*((d i).n - 1)+1:=rfl;have ym:(yz 1 g (d i)).m=1*((d i).m - 1)+1:=rfl;have A:=Sx.rp.all (e:=5) ⋯ ⋯ ⋯ ⋯ ∅;have al:=A.tn;have bl:=A.bm;refine ⟨p,c2,Z,q2,n,a,b,L_ L i,D_ L i,T',B',rfl,G.same ((bx.trans P).trans a6),c3,b3,A.gt.mono ⋯ ⋯,A.gb.mono ⋯ ⋯,⋯,⋯,b4.lw,?_,λc5 d1 Y c8=>⟨U,((t9.trans P).trans a6).trans Y,?_⟩⟩
  ·show Sr.cm (bk a b) (sr T')*_=_*Sr.cm (bk a b) (sr B');have F:=congrArg (Sr.cm (bk a b)) b6;rw [Sr.cm_mul _ (AL T') (y _),Sr.cm_mul _ (y _) (AL B'),LF va (AL _),LF va (AL _)] at F;exact F
  ·have tk:L.take (i+1)=L.take i++[(L_ L i,D_ L i)]:=by
    rw [Eu];congr 1;have c9:i<L.length:=by omega
    unfold L_ D_;rw [AT,Ax c9];rfl
   rw [tk];exact (Fy.same ((P.trans a6).trans Y)).app ⟨⟨c5,rfl,c8⟩,trivial⟩
 ·rintro X H9 ⟨_,t9,Fy⟩ w2 cb;have sw:=AR cb (.lst X);refine ⟨w2,X,rfl,upd_same,λr hr=>?_⟩;have s':=AR hr (.tup X);rw [show L.take n=L by rw [<-lL,Cv]] at Fy;exact k r X _ (((ao.trans t9).trans sw).trans s') upd_same (Fy.same (sw.trans s'))
def U8 {a b:Int} (c:-18446744073709551616<a) (d:a<18446744073709551616):IntMulOk a b:=IntMulOk.of_left (intBits_le_64 ⋯ ⋯)
def qD {a b:Int} (c:-18446744073709551616<b) (d:b<18446744073709551616):IntMulOk a b:=IntMulOk.of_right (intBits_le_64 ⋯ ⋯)
theorem U9:∀ i:Nat,List.map V.bl (List.replicate i true)++[V.bl true]=V.bl true::List.map V.bl (List.replicate i true)
 | 0=>rfl
 | i+1=>by rw [GE,Dg,List.cons_append,U9 i]
def VA {ns:de} {k:Int} (b:0<=k) (h:k<(ns.length:Int)):∃ v:Int,N_ (ns.map V.int) k=some (.int v):=by
 have hk:k.toNat<ns.length:=by omega
 have a:k=((k.toNat:Nat):Int):=by omega
 have q:N_ (ns.map V.int) ((k.toNat:Nat):Int)=some (.int ns[k.toNat]):=IK (by rw [Aj,Ax hk] <;> rfl);rw [<-a] at q;exact ⟨_,q⟩
def b20 {y:Int} (a:0<y) (h:y<=1000000):Bd 20 y:=by
 show y.natAbs<2 ^ 20;omega
def qE (ns:de) (lo b:Option Int):∃ a:de,Bu (ns.map V.int) lo b=a.map V.int/\a.length<=ns.length:=by
 unfold Bu;rw [<-List.map_drop,<-List.map_take];exact ⟨_,rfl,by rw [CB,List.length_drop];omega⟩
def Src.same {H a:Hp} {s:Addr} (h:Src H s) (k:Same H a):Src a s:=by
 obtain ⟨x,y,e,r⟩:=h;exact ⟨x,y,k _ _ e,r⟩
def Src.tp {H a:Hp} {s:Addr} (h:Src H s) (k:Kp s H a):Tp H a:=by
 obtain ⟨x,y,e,r⟩:=h;exact k.tp e
def qG (h:DX K vs H Q E):TF K { nx:=λ_ e=>Q .non e,rt:=Q } (L2.start ["_law_source_here","_law_many","_law_digit"] vs) H:=by
 obtain ⟨s,m,rfl,⟨x,y,a,f,b⟩,g,k⟩:=h;have i:∀ x y:V,N_ [x,y] 0=some x:=λ_ _=>rfl;have q:∀ x y:V,N_ [x,y] 1=some y:=λ_ _=>rfl;have o:aq 2 0=some 0:=rfl;have r:aq 2 1=some 1:=rfl
 have j:∀ (x y:Int) (d:Hp),d s=some (.lst [.int x,.int y])->0<=x->0<=y->Kp s H d->NI K { nx:=λ_ e=>Q V.non e,rt:=Q } [some (.ref s),some (.int m),none] d:=λx y d a f b p=>by
  unfold NI;rwa [a,i];refine ⟨g,?_⟩;unfold TD TC;rwa [a,i,o];exact ⟨g,k _ _ (Cd _ ⋯) (Ct _ g) ⟨_,_,upd_same,Int.ediv_nonneg f ⋯,b⟩ (p.trans Kp.upd)⟩
 unfold TF;rwa [a,i];refine Av (λc=>?_) (λc=>j x y H a f b (Kp.of_same (Same.refl H)));refine ⟨sz ∅,λt n=>⟨_,(AR n _) _ _ a,0,rfl,1,rfl,?_⟩⟩;exact j y 0 _ upd_same b ∅ (((Kp.of_same (AR n _)).trans Kp.upd).trans Kp.upd)
def qH (h:Ho K vs H Q E):TL K { nx:=λ_ w=>Q .non w,rt:=Q } (L2.start ["_law_source_here","_law_how"] vs) H:=by
 obtain ⟨p,rfl,hp,k⟩:=h
 have a:∀ {x y:Int} {b:Hp},Bd 40 x->0<y->y<=1000000->Src b p->Kp p H b->y≠0/\∀ r,b r=none->Q (V.ref r) (upd b r (.tup [.int (Aq x y).1,.int (Aq x y).2])):=λ{x y b} z c L d g=>⟨AV c,λr A=>by
  have B:=J9 (AV c) z (JE (x:=y) ⋯ ⋯);have M:(Aq x y).2<=y:=by rw [JG c];exact Int.ediv_le_self _ (DS c)
  have s:=AR A (.tup [.int (Aq x y).1,.int (Aq x y).2]);exact k r (Aq x y) _ ⟨r,rfl,upd_same⟩ (FA (AV c)) B.1 ⋯ (d.same s) (g.same s)⟩
 unfold TL;rwa [];refine ⟨hp,∅,λC b N O d g=>?_⟩;unfold TK;rwa [];refine Av (λ_=>?_) (λ_=>?_)
 ·refine ⟨d,∅,λe o q u i j=>?_⟩;exact a (JE ⋯ ⋯) ∅ ∅ i (g.trans j)
 unfold TJ;rwa [];refine Av (λ_=>?_) (λ_=>?_)
 ·refine ⟨d,∅,λe o q u i j=>⟨i,∅,λf D F G m n=>?_⟩⟩;exact a (JE ⋯ ⋯) ⋯ ⋯ m ((g.trans j).trans n)
 unfold TH;rwa [];have P:Lq 10 6:=⟨∅,∅,∅⟩;have v:Lq 10 12:=⟨∅,∅,∅⟩;have I:(10:Int) ^ Int.toNat 6=1000000:=by decide
 have J:(10:Int) ^ Int.toNat 12=1000000000000:=by decide
 rw [I,J];refine ⟨v,U8 ∅ ∅,d,∅,λe o q u i j=>⟨v,P,i,∅,λf D F G m n=>?_⟩⟩;exact a (JE ⋯ ⋯) ⋯ ⋯ m ((g.trans j).trans n)
def qJ (h:ND K vs H Q E):TN K { nx:=λ_ v=>Q .non v,rt:=Q } (L2.start ["_law_source_here","_law_a"] vs) H:=by
 obtain ⟨s,rfl,P,k⟩:=h
 have L:∀ (f:Addr) (a:Nu) (g:Hp),g f=some (.tup [.int a.1,.int a.2])->Low a.1 a.2->a.1≠0->Bd 40 a.1->Bd 20 a.2->Src g s->Kp s H g->NJ K { nx:=λ_ v=>Q V.non v,rt:=Q } [some (.ref s),some (.ref f)] g:=λf a g R i M x y m o=>by
  unfold NJ;rwa [];refine ⟨m,∅,λd S T U p r=>⟨p,λN b Y A B C n W O=>⟨sz ∅,λt D=>?_⟩⟩⟩;obtain ⟨_,F,A⟩:=A;injection F with F;subst F;have G:=b20 B.pos n;have st:=AR D (.tup [.int (2+d),.ref f,.ref N]);have en:((d.toNat+2:Nat):Int)=2+d:=by omega
  refine k t f N (d.toNat+2) a b _ { at':=by rw [en];exact upd_same,at1:=st _ _ (p.tp O _ _ (m.tp r _ _ R)),at2:=st _ _ A,la:=i,lb:=B,a0:=M,ba:=⟨x,y⟩,bb:=⟨C,G⟩,n2:=by omega,n4:=by omega } (W.same st) (((o.trans r).trans O).same st)
 unfold TN;rwa [];refine ⟨P,λf a g u i x I m o=>?_⟩;have y:=b20 i.pos I;obtain ⟨_,J,u⟩:=u;injection J with J;subst J;unfold TM;rwa [];refine ⟨sz ∅,λw X=>?_⟩;have j:=AR X (.tup [.int 0,.int 1]);refine ⟨_,_,decide (a=(0,1)),Mp (q:=a) ⟨f,rfl,j _ _ u⟩,Mp (q:=(0,1)) ⟨w,rfl,upd_same⟩,rfl,rfl,⟨λz=>by rw [mH z],λz=>mG (UM z)⟩,_,rfl,Av (λc=>?_) (λc=>?_)⟩
 ·refine ⟨m.same j,∅,λd S T U p r=>⟨sz ∅,λt D=>?_⟩⟩;have st:=AR D (.tup [.int (1+d),.int 1]);exact L t (1+d,1) _ upd_same ⟨show (0:Int)<1 by decide,Int.gcd_one_right _⟩ (show 1+d≠0 by omega) (JE ⋯ ⋯) (show Bd 20 1 by decide) (p.same st) (((o.same j).trans r).same st)
 ·refine L f a _ (j _ _ u) i (λz=>?_) x y (m.same j) (o.same j);have e:a=(0,1):=E9 i HR (by unfold val;rw [z];exact (P' _).trans (P' _).symm);simp [e] at c
def qL (h:Km K vs H Q E):TQ K { nx:=λ_ a=>Q .non a,rt:=Q } (L2.start ["_law_found","_law_part"] vs) H:=by
 obtain ⟨p,t,d,rfl,hp,f,k⟩:=h;unfold TQ;unfold Nm at hp;rwa [hp,Ls hp];refine ⟨⟨_,SqT.of hp⟩,ForT.by (xs:=[.int t,.int d]) (λi c a=>∃ e:d8,c=[some (.ref p),e]/\a=H) ⟨none,rfl,rfl⟩ ?_ ?_ ?_⟩
 ·rintro i c a _ ⟨_,_,rfl⟩;exact hp
 ·rintro i x c a b ⟨e,rfl,rfl⟩;have g:i<2:=(By.mp b).1
  obtain ⟨z,rfl⟩:∃ z,x=V.int z:=by
   match i,b with
   | 0,b=>exact ⟨_,(mO b).symm⟩
   | 1,b=>exact ⟨_,(mO b).symm⟩
  rwa [];exact ⟨_,rfl⟩
 ·rintro c a ⟨e,rfl,rfl⟩;rwa [hp];have:=k a (Same.refl a);simp only [f.pos,decide_true];exact this
def qN (h:NE K vs H Q E):TR K { nx:=λ_ d=>Q .non d,rt:=Q } (L2.start ["_law_found","_law_row"] vs) H:=by
 obtain ⟨p,u,v,L,M,rfl,hp,J,N,m,n,O,P,k⟩:=h;unfold TR;rwa [hp,Ls hp];refine ⟨⟨_,SqT.of hp⟩,ForT.by (xs:=[.ref u,.ref v]) (λi q d=>∃ z:d8,q=[some (.ref p),z]/\Same H d) ⟨none,rfl,Same.refl H⟩ ?_ ?_ ?_⟩
 ·rintro i q d _ ⟨_,_,e⟩;exact e _ _ hp
 ·rintro i x q r f ⟨z,rfl,e⟩;have R:i<2:=(By.mp f).1
  obtain ⟨w,l,c,rfl,A,B,C,X⟩:∃ w l c,x=V.ref w/\r w=some (.tup c)/\Nums r c l/\AW l/\l.length<=100:=by
   match i,f with
   | 0,f=>obtain ⟨c,a,b⟩:=J;exact ⟨u,L,c,(mO f).symm,e _ _ a,b.tp (M_ e),m,O⟩
   | 1,f=>obtain ⟨c,a,b⟩:=N;exact ⟨v,M,c,(mO f).symm,e _ _ a,b.tp (M_ e),n,P⟩
  rwa [Ls A];refine ⟨⟨_,SqT.of A⟩,CompJ.tup (xs:=c) (λi y d=>i<=l.length/\Same r d/\y=(List.replicate i true).map V.bl) ⟨Ab _,Same.refl r,rfl⟩ ?_ ?_ ?_⟩
  ·rintro j y d ⟨G,g,rfl⟩;exact ⟨by rw [B.length];exact G,sz (by rw [AO,Df];omega),g _ _ A⟩
  ·rintro j x y d I ⟨G,g,rfl⟩;have S:j<c.length:=(By.mp I).1;have Y:=B.length;obtain ⟨o,T,Z,rfl,D⟩:=B.get I;rwa [];refine ⟨_,_,g _ _ D,C o (Bg T),λH3 F=>⟨⋯,g.trans F,U9 j⟩⟩
  ·rintro y d ⟨_,g,rfl⟩ a U;have F:=AR U (.lst ((List.replicate c.length true).map V.bl));refine ⟨a,List.replicate c.length true,rfl,upd_same,?_⟩;have W:(List.replicate c.length true).all id=true:=by simp
   refine ⟨_,rfl,?_⟩;rw [W,mE ∅];exact (e.trans g).trans F
 ·rintro q d ⟨z,rfl,e⟩;rwa [];exact k d e
def qO (h:NC K vs H Q E):S3 K { nx:=λ_ b=>Q .non b,rt:=Q } (L2.start ["_law_script","_law_k","_law_cell","_law_some","_law_more","_law_number_here","_law_j"] vs) H:=by
 obtain ⟨s,d,k,rfl,n,k0,k9,O,q⟩:=h;have R:∀ {x y:Int},0<=y->y<4611686018427387904->IntMulOk x y:=λP S=>qD ⋯ ⋯;have F:∀ {x y:Int},0<=x->x<4611686018427387904->IntMulOk x y:=λP S=>U8 ⋯ ⋯
 have G:∀ a:Int,NH K { nx:=λ_ b=>Q V.non b,rt:=Q } [some (.ref s),some (.int k),some (.int a),none,none,none,none] H:=λa=>by
  unfold NH;rwa [];obtain ⟨w,T,_⟩:=qE d none (some 1);refine ⟨∅,F ∅ ∅,_,n,λp hp=>⟨w,T,∅,R ∅ ∅,∅,?_⟩⟩;have A:=AR hp (.lst (Bu (d.map V.int) none (some 1)));have f:=Same.seq A n;generalize upd H p (.lst (Bu (d.map V.int) none (some 1)))=U at A f ⊢;have I:=Cd ((a % 2147483647+7919*k+w.sum % 99991+11)*48271) (show (2147483629:Int)≠0 by decide);have W:=Ct ((a % 2147483647+7919*k+w.sum % 99991+11)*48271) (show (0:Int)<2147483629 by decide);generalize (a % 2147483647+7919*k+w.sum % 99991+11)*48271 % 2147483629=z at I W ⊢;unfold Sw;rwa [];refine ⟨R I ⋯,∅,?_⟩;generalize z*z % 1999999973=J;unfold Sv Su;rwa [];refine ⟨∅,∅,ForR.by (λi B b=>i<=9/\∃ (m g:Int) (C:d8),B=[some (.ref s),some (.int k),some (.int a),some (.int z),some (.int m),some (.int g),C]/\0<=g/\b=U) ⟨∅,J,0,none,rfl,∅,rfl⟩ ?_ ?_⟩
  ·rintro i B b X ⟨_,m,g,C,rfl,j,rfl⟩;have Y:i<9:=X;unfold Sn;rwa [];refine ⟨R ∅ ∅,F ∅ ∅,∅,?_⟩;have L:=Cd (m*99991+z+39373*(0+(i:Int))) (show (1999999973:Int)≠0 by decide);generalize (m*99991+z+39373*(0+(i:Int))) % 1999999973=m' at L ⊢;unfold Sm;rwa [];exact ⟨R ∅ ∅,⋯,⋯⟩
  ·rintro B b ⟨_,m,g,C,rfl,j,rfl⟩
   have u:∀ x y:Int,0<=x->0<=y->∀ r,b r=none->Q (.ref r) (upd b r (.lst [.int x,.int y])):=λx y Z y0 r M=>by
    have r0:H r=none:=by
     cases e:H r with
     | none=>rfl
     | some o=>have z:=A _ _ e;rw [M] at z;cases z
    exact q r _ r0 (A.trans (AR M _)) ⟨x,y,upd_same,Z,y0⟩
   unfold Ss So;rwa [];have N:2<=sizeLine/\∀ (p:Addr),b p=none->Q (V.ref p) (upd b p (.lst [.int g,.int 0])):=⟨sz ∅,u g 0 j ∅⟩;refine ⟨_,f,Av (λc=>?_) (λc=>N)⟩;rw [AO] at c;obtain ⟨v,D⟩:=VA (ns:=d) (k:=0) ∅ ⋯;refine ⟨_,f,_,D,v,rfl,∅,Av (λ_=>⟨sz ∅,u _ g (by split <;> omega) j⟩) (λ_=>N)⟩
 unfold S3 Sy;rwa [];refine ⟨_,n,Av (λc=>?_) (λc=>G 0)⟩;rw [AO] at c;have J:=Cd k (show (d.length:Int) - 1≠0 by omega);have L:=Ct k (show (0:Int)<(d.length:Int) - 1 by omega);obtain ⟨v,D⟩:=VA (ns:=d) (k:=1+k % ((d.length:Int) - 1)) ⋯ ⋯;refine ⟨_,n,by rw [AO];omega,_,n,V.int v,by rw [AO];exact D,G v⟩
def qP (h:Hn K vs H Q E):xR K { nx:=λ_ f=>Q .non f,rt:=Q } (L2.start ["P"] vs) H:=by
 obtain ⟨p,rfl,k⟩:=h;refine CA (Cf (AU rfl (Ij (Cf (O' (O' ⟨Bx,λa g=>⟨Ca,λb i=>⟨Bx,λc j=>?_⟩⟩⟩))))));have e:=AR i (.tup [.ref a]);have d:=AR j (.tup [p,.ref b]);exact k c b _ (((AR g _).trans e).trans d) upd_same ⟨_,d _ _ upd_same,Nums.one (uY (d _ _ (e _ _ upd_same)))⟩
def qQ (h:NA K vs H Q E):xS K { nx:=λ_ d=>Q .non d,rt:=Q } (L2.start ["c"] vs) H:=by
 obtain ⟨p,rfl,hp,k⟩:=h;refine CA (CH (CH (KJ (AU rfl ⟨Ca,λw f=>?_⟩))));have b:=AR f (.lst [.ref p]);refine ⟨w,_,[(0,1)],rfl,upd_same,Nums.one ⟨p,rfl,b _ _ hp⟩,∅,λr g o i j c=>⟨_,rfl,λt v m a n Pv=>k t m ((b.trans i).trans a) ⟨r,v,n,⟨g,a _ _ j,?_⟩,Pv⟩⟩⟩;have e:trim [((0:Int),(1:Int))]=[]:=by decide
 rw [e] at c;exact c.tp (M_ a)
noncomputable def dn:cW->Int
 | []=>1
 | q::l=>q.2*dn l
theorem VB:∀ {l:cW},AW l->0<dn l
 | [],_=>by decide
 | q::l,h=>CV (h q CD).pos (VB λy a=>h y (CQ _ a))
theorem OJ:∀ {l:cW} {q:Nu},q∈l->q.2∣dn l
 | y::l,q,h=>by
   rcases De.mp h with e | e
   ·rw [e];exact Int.dvd_mul_right _ _
   ·exact Ex (OJ e)
theorem OK:∀ {l:cW},AW l->(∀ q∈l,q.2<=1000000)->(dn l).natAbs<=2 ^ (20*l.length)
 | [],_,_=>by decide
 | q::l,h,b=>by
   have c:=OK (l:=l) (λy a=>h y (CQ _ a)) λy a=>b y (CQ _ a);have d:=b q CD;have e:=(h q CD).pos;show (q.2*dn l).natAbs<=2 ^ (20*(l.length+1));rw [BN,Nat.mul_succ,Cj,B5];exact Be c ⋯
theorem VC:∀ {l:cW} {q:Nu},AW l->(∀ q∈l,q.2<=1000000)->q∈l->(dn l / q.2).natAbs<=2 ^ (20*(l.length - 1))
 | y::l,q,h,b,m=>by
   have c:AW l:=λy a=>h y (CQ _ a);have d:∀ q∈l,q.2<=1000000:=λy a=>b y (CQ _ a);have i:=b y CD;have f:=(h y CD).pos;have j:=(h q m).pos;show (y.2*dn l / q.2).natAbs<=2 ^ (20*l.length);rcases De.mp m with e | e
   ·rw [e,GI _ (AV f)];exact OK c d
   ·rw [Int.mul_ediv_assoc _ (OJ e),BN];have g:=VC c d e;have k:0<l.length:=List.length_pos_of_mem e;have:20*l.length=20+20*(l.length - 1):=by omega
    rw [this,Cj];exact Be ⋯ g
def Lp.iz {d:Nat} {l:cW} (h:Lp d l):0<dn l/\(dn l).natAbs<=2 ^ (20*d)/\Iz (d*2 ^ (20+20*d)) d (Sr.num (dn l:Rat)*sr l)/\Gq 120 120 l\/4<=d:=by
 by_cases o:4<=d
 ·exact .inr o
 left;have c:=VB h.low;have i:∀ q∈l,q.2<=1000000:=λq b=>(h.bt q b).2;have O:Ov l (dn l):=⟨c,λq b=>OJ b⟩;have j:=OK h.low i;have ll:=h.len;have a:∀ {x y:Nat},x<=y->2 ^ x<=2 ^ y:=λe=>EL ∅ e
 have en:∀ z∈P_ l (dn l),z.natAbs<=2 ^ (20+20*d):=λz f=>by
  obtain ⟨q,b,rfl⟩:=BM.mp f;rw [BN];have m:q.1.natAbs<2 ^ 40:=(h.bt q b).1;have p:=VC h.low i b;have v:0<l.length:=List.length_pos_of_mem b;have n:=Be (CP m) p;rw [<-Cj] at n;exact A7 n (a ⋯)
 have g:∀ Z:de,(∀ z∈Z,z.natAbs<=2 ^ (20+20*d))->L1 Z<=Z.length*2 ^ (20+20*d):=λZ=>by
  induction Z with
  | nil=>intro _;exact Ab _
  | cons z Z r=>
    intro h;have:=r λy u=>h y (CQ _ u);have m:=h z CD;show z.natAbs+L1 Z<=(Z.length+1)*2 ^ (20+20*d);rw [Cy];omega
 have w:(P_ l (dn l)).length=l.length:=AO ..;have A:=Aa (AV c);refine ⟨c,A7 j (a ⋯),⟨P_ l (dn l),Sr.ext' λk=>?_,A7 (g _ en) (BW _ ⋯),⋯⟩,h.low,h.nz,dn l,O,DQ j (Nat.pow_lt_pow_right ∅ ⋯),λz f=>DQ (en z f) (Nat.pow_lt_pow_right ∅ ⋯)⟩;rw [Sr.num_mul];show (((P_ l (dn l)).getD k 0:Int):Rat)=(dn l:Rat)*B_ l k;rw [Do h.low O k];ext
def Lp.iz3 {d:Nat} {l:cW} (h:Lp d l) (a:d<=3):0<dn l/\(dn l).natAbs<=2 ^ (20*d)/\Iz (d*2 ^ (20+20*d)) d (Sr.num (dn l:Rat)*sr l)/\Gq 120 120 l:=h.iz.resolve_right ⋯
def qU (h:Kk K vs H Q E):wH K { nx:=λ_ a=>Q .non a,rt:=Q } (L2.start ["_law_source_here","_law_most"] vs) H:=by
 obtain ⟨s,d,rfl,B,S,k⟩:=h;refine CA (CH (OA (Bc (O' (Ag (AU rfl (Bc (AU rfl (O' ⟨_,_,rfl,rfl,s,(d:Int)+1,rfl,B,⋯,λe T U W C D=>⟨_,_,rfl,rfl,_,rfl,⋯,⋯,?_⟩⟩)))))))));refine CompJ.range (n:=(1+e).toNat) (λi b a=>i<=(1+e).toNat/\Src a s/\Kp s H a/\∃ l,Nums a b l/\l.length=i/\∀ q∈l,Low q.1 q.2/\Bd 40 q.1/\q.2<=1000000) ⟨Ab _,C,D,[],trivial,rfl,λ_ h=>nomatch h⟩ ?_ ?_ ?_
 ·rintro i b a ⟨F,_,_,l,c,j,_⟩;exact ⟨F,sz (by rw [c.length];omega)⟩
 ·rintro i b a G ⟨_,f,m,l,c,j,g⟩;refine CH (AU rfl ⟨s,rfl,f,λr q v o I J L M x=>⟨G,M,m.trans x,l++[q],(c.tp (f.tp x)).append (Nums.one o),by rw [Cr,j];rfl,λy N=>?_⟩⟩);rcases Er.mp N with z | z
  ·exact g y z
  ·rw [CC.mp z];exact ⟨I,J,L⟩
 ·rintro b a ⟨_,f,m,l,c,j,g⟩ w O;have p:=AR O (.lst b);refine ⟨w,b,l,rfl,upd_same,c.tp (M_ p),⋯,λr P v A o R=>k r (trim l) v ⟨P,o,R⟩ ⟨λq u=>(g q (DI u)).1,EE l,?_,λq u=>(g q (DI u)).2⟩ ((f.same p).same A) ((m.same p).same A)⟩;have:=Eh l;omega
def Sq.frac {d e:Nat} {l m T B:cW} (u:Lp (d+1) l) (a:Lp (e+1) m) (g:m≠[]) (F:d<=2) (G:e<=2) (h:Lw T B) (i:sr T*sr m=sr l*sr B):Sq 1 (fz (d+1) (e+1)) T B:=by
 obtain ⟨j,n,o,I⟩:=u.iz3 ⋯;obtain ⟨v,w,x,J⟩:=a.iz3 ⋯;have b:Sr.num ((1:Int):Rat)=1:=Sr.n1;by_cases c:e+1=1
 ·have y:e=0:=by omega
  subst y
  obtain ⟨q,rfl⟩:∃ q,m=[q]:=by
   match m,g,a.len with
   | [q],_,_=>exact ⟨q,rfl⟩
  have p:=a.low q CD;have r:=a.bt q CD;have z:q.1≠0:=a.nz q rfl
  have em:Sr.num (q.2:Rat)*sr [q]=Sr.num (q.1:Rat):=by
   have A:sr [q]=Sr.num (val q):=Sr.ext' λk=>by
    show B_ [q] k=val q*Ai k;cases k with
    | zero=>show val q=val q*1;ext
    | succ k=>rw [BF (by simp)];show (0:Rat)=val q*0;ext
   rw [A,Sr.num_num];have:=Aa (AV p.pos);congr 1;unfold val;ext
  refine ⟨h,∅,∅,Sr.num (q.2:Rat)*(Sr.num (dn l:Rat)*sr l),1,dn l*q.1,(o.smul q.2).mono ?_ (AM _),⟨[1],cy,AM 1,AM 1⟩,one_ne,BK (AV j) z,?_,?_⟩
  ·exact BW _ (by have:=p.pos;have:=r.2;omega)
  ·show (dn l*q.1).natAbs<=2 ^ (40+20*(d+1));rw [BN,Cj,B5];exact Be (CP r.1) n
  ·rw [b,nI];have f:sr T*(1*(Sr.num (dn l:Rat)*Sr.num (q.1:Rat))*1)=Sr.num (dn l:Rat)*Sr.num (q.2:Rat)*(sr T*sr [q]):=by rw [<-em];ext
   rw [f,i];ext
 ·have C:fz (d+1) (e+1)=⟨2 ^ (20*(e+1))*((d+1)*2 ^ (20+20*(d+1))),d+1,(e+1)*2 ^ (20+20*(e+1)),e+1,2 ^ (20*(d+1))⟩:=mE c;rw [C];have D:=B4 a.low a.nz g;refine ⟨h,∅,∅,Sr.num (dn m:Rat)*(Sr.num (dn l:Rat)*sr l),Sr.num (dn m:Rat)*sr m,dn l,(o.smul (dn m)).mono (BW _ w) (AM _),x,Sr.ne_mul (Sr.Pol.num _) (AL m) (FN (Aa (AV v))) D,AV j,n,?_⟩;rw [b];have f:sr T*(1*Sr.num (dn l:Rat)*(Sr.num (dn m:Rat)*sr m))=Sr.num (dn l:Rat)*Sr.num (dn m:Rat)*(sr T*sr m):=by ext
  rw [f,i];ext
def qV (h:Kl K vs H Q E):wI K { nx:=λ_ x=>Q .non x,rt:=Q } (L2.start ["_law_source_here","_law_top","_law_bottom","_law_kp","_law_kq"] vs) H:=by
 obtain ⟨s,d,e,rfl,W,G,I,k⟩:=h;refine BJ (Ag (AU rfl (AU rfl ⟨s,d,rfl,W,G,λy l H1 X f J L=>?_⟩)));refine BJ (Ag (AU rfl (AU rfl ⟨s,e,rfl,J,I,λY m H2 Z A M C=>?_⟩)));have n:=X.tp (J.tp C)
 have p:∀ (r:Addr) (m:cW) (j:Hp),m≠[]->Pl j r m->Lp (e+1) m->Pl j y l->Src j s->Kp s H j->(AY (AE (FE K) [] E0 (AB (AA 3) (AB (AA 4) AC)))) { nx:=λ_ x=>Q V.non x,rt:=Q } [some (.ref s),some (.int (d:Int)),some (.int (e:Int)),some (.ref y),some (.ref r)] j:=λr m j u Pm D F x3 k3=>by
  obtain ⟨_,_,i1,N⟩:=f.iz3 ⋯;obtain ⟨_,_,i2,O⟩:=D.iz3 ⋯;have l3:=f.len;have m3:=D.len;refine CA (Ag (AU rfl (AU rfl ⟨y,r,l,m,120,120+3*(2*2+4),3,3,2,rfl,F,Pm,N,O,u,⋯,⋯,λl0=>Ua N l0 ⋯ ∅,Ua O u ⋯ ∅,∅,∅,λt H4 T B P F4 lw eq=>k t T B H4 F4 (Sq.frac f D u G I lw eq) (x3.same P) (k3.same P)⟩)))
 obtain ⟨zs,R,S⟩:=Z;refine HZ (Hb (Bc (AU rfl ⟨sz ∅,λw hw=>?_⟩)));have g:=AR hw (.tup []);refine eqP (g _ _ R) (S.tp (M_ g)) (upd_same (o:=HO.tup [])) (m:=[]) trivial (decide (m=[])) (by simp) ⟨_,rfl,Av (λc=>?_) (λc=>?_)⟩
 ·refine KK (Ij (Cf (O' (O' ⟨Bx,λa ha=>⟨Ca,λb hb=>?_⟩⟩))));have s2:=AR ha (.tup [.int 1,.int 1]);have U:=AR hb (.tup [.ref a]);have i:=(g.trans s2).trans U;refine p b [(1,1)] _ (by simp) ⟨_,upd_same,Nums.one ⟨a,rfl,U _ _ upd_same⟩⟩ ⟨λq v=>by rw [CC.mp v];exact JO,λq v=>by obtain rfl:(1,1)=q:=mO v;decide,by show 1<=e+1;omega,λq v=>by rw [CC.mp v];exact ⟨∅,∅⟩⟩ (n.same i) (M.same i) ((L.trans C).same i)
 ·have u:m≠[]:=λz=>c (by rw [z];rfl);exact p Y m _ u (Pl.same ⟨zs,R,S⟩ g) A (n.same g) (M.same g) ((L.trans C).same g)
def FF.tp {H a:Hp} {p:Addr} {T B:cW} (h:FF H p T B) (t:Tp H a):FF a p T B:=let ⟨u,v,hp,b,Pv⟩:=h;⟨u,v,t _ _ hp,b.tp t,Pv.tp t⟩
theorem FFs.tp {H a:Hp} (s:Tp H a):∀ {ps:d7} {L:List (cW×cW)},FFs H ps L->FFs a ps L
 | [],[],_=>trivial
 | [],_::_,h=>h.elim
 | _::_,[],h=>h.elim
 | _::_,_::_,h=>⟨let ⟨p,e,f⟩:=h.1;⟨p,e,f.tp s⟩,FFs.tp s h.2⟩
theorem FFs.take {H:Hp}:∀ {ps:d7} {L:List (cW×cW)} (i:Nat),FFs H ps L->FFs H (ps.take i) (L.take i)
 | [],[],i,_=>by rw [List.take_nil,List.take_nil];trivial
 | [],_::_,_,h=>h.elim
 | _::_,[],_,h=>h.elim
 | _::_,_::_,0,_=>trivial
 | _::_,_::_,i+1,h=>⟨h.1,FFs.take i h.2⟩
theorem OM {H:Hp}:∀ {ps:d7} {L:List (cW×cW)},FFs H ps L->RepA H ps (L.map λt=>JV t.1 t.2)
 | [],[],_=>.nil
 | [],_::_,h=>h.elim
 | _::_,[],h=>h.elim
 | _::_,_::_,h=>.cons (let ⟨_,e,f⟩:=h.1;e ▸ JW f) (OM h.2)
def VD (L:List (cW×cW)):W.kqdOk 8 (.tuple (L.map λt=>JV t.1 t.2))=true:=by
 simp only [W.kqdOk,List.all_map,FQ,Function.comp];intro t _;exact cx t.1 t.2 4
def qW {H:Hp} {p q:Addr} {ps a:d7} {L:List (cW×cW)} {Q:VK} (hp:H p=some (.tup ps)) (b:H q=some (.tup a)) (Fp:FFs H ps L) (c:FFs H a L) (h:Q (.bl false) H):bJ (.ref p) (.ref q) H Q:=
 ⟨_,_,true,.tup hp (OM Fp),.tup b (OM c),VD L,VD L,by simp,h⟩
def CompJ.zipW {K:W.Frag} {capt:List (Option Nat)} {g:TG} {k:TE} {m:L2.St} {H:Hp} {Q:VK} {a b:Addr} {xs ys:d7} (n:xs.length=ys.length) (W:Nat->d7->Hp->Prop) (o:W 0 [] H) (d:∀ i c H,W i c H->i<=xs.length/\c.length<=sizeLine/\H a=some (.tup xs)/\H b=some (.tup ys))
  (r:∀ i x y p c H,xs[i]?=some x->ys[i]?=some y->W i c H->H p=none->g (.ref p) (CY capt m) (upd H p (.tup [x,y])) λf u=>k f u λv z=>W (i+1) (c++[v]) z) (A:∀ c H,W xs.length c H->∀ p,H p=none->Q (.ref p) (upd H p (.lst c))):CompJ (aW K a b) capt g k m Q H:=by
 refine ⟨xs.length,W,o,λi c H w=>⟨(d i c H w).1,(d i c H w).2.1,?_⟩⟩;have q:SqT K H a xs:=SqT.of (d i c H w).2.2.1;have j:SqT K H b ys:=SqT.of (d i c H w).2.2.2;by_cases h:i<xs.length
 ·refine .inr ⟨h,⟨xs,ys,xs[i],ys[i],q,j,by simp [h],by simp [n ▸ h]⟩,λx G y=>?_⟩;obtain ⟨p,B,C,hp,rfl,rfl,D,F⟩:=y;exact r i B C p c _ (D xs q) (F ys j) w hp
 ·have e:i=xs.length:=Dz (d i c H w).1 (Nat.not_lt.mp h);subst e;exact .inl ⟨⟨xs,ys,q,j,AM _⟩,A c H w⟩
noncomputable def gP (n:Nat):Nat:=if n=2 then 0 else 2
noncomputable def gB (n:Nat):Nat:=if n=2 then 1 else 2
noncomputable def gR (n:Nat):Nat:=if n=2 then 1 else 3
noncomputable def zL:Sz:=⟨2 ^ 61,2,1,1,2 ^ 40⟩
noncomputable def zT (n:Nat):Sz:=jz n (gP n) (zP n) n
noncomputable def zU (n:Nat):Sz:=jz n 1 zO n
noncomputable def LN (z:Sz):Sz:={ z with A:=2 ^ 61*z.A }
noncomputable def bo (n:Nat):Bool:=aJ n (gP n) (zP n) n && cL n (zT n) && aJ n 1 zO n && aJ n (gB n) (zB n) n && aJ n (gR n) (zR n) n && aY (zP n (n - 1)) zL && aY (zT n) ⟨1,2,1,1,1⟩ && be (max (zT n).xA (zT n).xC) (zT n).n (zT n).m && (zT n).sm && (if n=2 then aR (LN (zT n)) (zU n) else aR (zT n) (LN (zU n))) && (List.range n).all λi=>aR (zP n i) (zO i)
def qX {n:Nat} (a:2<=n) (b:n<=4):bo n=true:=by
 have h:n=2\/n=3\/n=4:=by omega
 rcases h with rfl | rfl | rfl
 ·decide +kernel
 ·decide +kernel
 ·decide +kernel
structure AOk (n:Nat):Prop where
 jP:aJ n (gP n) (zP n) n=true
 p:cL n (zT n)=true
 jO:aJ n 1 zO n=true
 jB:aJ n (gB n) (zB n) n=true
 jR:aJ n (gR n) (zR n) n=true
 mL:aY (zP n (n - 1)) zL=true
 mX:aY (zT n) ⟨1,2,1,1,1⟩=true
 c:be (max (zT n).xA (zT n).xC) (zT n).n (zT n).m=true
 sm:(zT n).sm=true
 s:(if n=2 then aR (LN (zT n)) (zU n) else aR (zT n) (LN (zU n)))=true
 b:∀ i,i<n->aR (zP n i) (zO i)=true
def aok {n:Nat} (m:2<=n) (o:n<=4):AOk n:=by
 have h:=qX m o;unfold bo at h;simp only [C9,FQ] at h;obtain ⟨⟨⟨⟨⟨⟨⟨⟨⟨⟨a,b⟩,c⟩,d⟩,e⟩,f⟩,g⟩,i⟩,j⟩,k⟩,l⟩:=h;exact ⟨a,b,c,d,e,f,g,i,j,k,λi p=>l i (EK.mpr p)⟩
theorem ON (q q':Nat->Sr):∀ n,(∀ i,i<n->q' (i+1)=q i)->Sr.jD q' (n+1)=q' 0*Sr.jD q n
 | 0,_=>by show (1:Sr)*q' 0=q' 0*1;ext
 | n+1,h=>by show Sr.jD q' (n+1)*q' (n+1)=q' 0*(Sr.jD q n*q n);rw [ON q q' n λi a=>h i ⋯,h n ⋯];ext
theorem VE (p q p' q':Nat->Sr):∀ n,(∀ i,i<n->q' (i+1)=q i)->(∀ i,i<n->p' (i+1)=p i)->Sr.jN p' q' (n+1)=p' 0*Sr.jD q n+Sr.X 1*Sr.jN p q n*q' 0
 | 0,_,_=>by
   have c:Sr.X 0=(1:Sr):=Sr.ext' λk=>by rw [show Sr.X 0=Sr.X 0*1 by ext,Sr.X_mul,mF (Ab _),Cu]
   show (0:Sr)*q' 0+Sr.X 0*p' 0*1=p' 0*1+Sr.X 1*0*q' 0;rw [c];ext
 | n+1,h,a=>by
   have e:=VE p q p' q' n (λi b=>h i ⋯) λi b=>a i ⋯;have d:=ON q q' n λi b=>h i ⋯;have x:Sr.X (n+1)=Sr.X 1*Sr.X n:=by rw [Sr.X_add,Nat.add_comm]
   show Sr.jN p' q' (n+1)*q' (n+1)+Sr.X (n+1)*p' (n+1)*Sr.jD q' (n+1)=p' 0*(Sr.jD q n*q n)+Sr.X 1*(Sr.jN p q n*q n+Sr.X n*p n*Sr.jD q n)*q' 0;rw [e,d,h n ⋯,a n ⋯,x];ext
theorem VF {a b:Nu}:sr [b,a]=Sr.num (val b)+Sr.num (val a)*Sr.X 1:=Sr.ext' λk=>by
 show B_ [b,a] k=val b*Ai k+(Sr.num (val a)*Sr.X 1).c k;rw [Sr.num_mul,show Sr.X 1=Sr.X 1*1 by ext,Sr.X_mul]
 match k with
 | 0=>rw [mE ∅];show val b=val b*1+val a*0;ext
 | 1=>rw [mF ∅,FJ];show val a=val b*0+val a*1;ext
 | k+2=>rw [BF (by simp),mF ⋯,FJ];show (0:Rat)=val b*0+val a*0;ext
def qY {a b:Nu} (c:Low a.1 a.2) (d:Low b.1 b.2) (m:a.1≠0) (g:Bd 40 a.1/\Bd 20 a.2) (i:Bd 40 b.1/\Bd 20 b.2):Sq 1 zL [b,a] [(1,1)]:=by
 have e:AW [b,a]:=λq f=>by
  rcases De.mp f with h | h
  ·rw [h];exact d
  ·rw [CC.mp h];exact c
 have n:Nz [b,a]:=λq f=>by obtain rfl:a=q:=mO f;exact m
 have x:=Aa (AV c.pos);have y:=Aa (AV d.pos);have o:=(LB (b.1*a.2) (AM _) (AM 1)).add ((JY 1).smul (a.1*b.2));have p:a.1.natAbs<2 ^ 40:=g.1;have j:a.2.natAbs<2 ^ 20:=g.2;have r:b.1.natAbs<2 ^ 40:=i.1;have k:b.2.natAbs<2 ^ 20:=i.2;refine ⟨lw1 e n,∅,∅,_,1,a.2*b.2,o.mono ?_ ∅,⟨[1],cy,∅,∅⟩,one_ne,BK (AV c.pos) (AV d.pos),?_,?_⟩
 ·rw [BN,BN];have u:=Be (CP r) (CP j);have z:=Be (CP p) (CP k);show _+_*1<=2 ^ 61;omega
 ·rw [BN];have u:=Be (CP j) (CP k);show _<=2 ^ 40;omega
 ·rw [Hz,VF,show Sr.num ((1:Int):Rat)=1 from Sr.n1,nI,nI,nI];have v:Sr.num (val b)*Sr.num (b.2:Rat)=Sr.num (b.1:Rat):=by rw [Sr.num_num];congr 1;unfold val;ext
  have w:Sr.num (val a)*Sr.num (a.2:Rat)=Sr.num (a.1:Rat):=by rw [Sr.num_num];congr 1;unfold val;ext
  rw [<-v,<-w];ext
def qZ (h:NF K vs H Q E):wJ K { nx:=λ_ W=>Q .non W,rt:=Q } (L2.start ["_law_kind_here","_law_parts","_law_line"] vs) H:=by
 obtain ⟨p,w,M,N,ps,n,a,b,L,rfl,c,O,u,⟨lL,Z⟩,k⟩:=h;have n2:=c.n2;have n4:=c.n4;have A:=aok n2 n4;have lp:=u.length;refine BJ (CH (CH (Qg (Bm rfl c.at' rfl (Bm rfl c.at' rfl ⟨Bx,λw1 h1=>?_⟩)))));have v:=AR h1 (.lst [.ref N,.ref M]);refine ⟨w1,_,[b,a],rfl,upd_same,⟨⟨N,rfl,v _ _ c.at2⟩,⟨M,rfl,v _ _ c.at1⟩,trivial⟩,by simp,λr2 zs H2 s2 h2 j=>⟨_,rfl,λP v3 R y h3 P3=>?_⟩⟩;have nz:Nz [b,a]:=λq hq=>by obtain rfl:a=q:=mO hq;exact c.a0
 rw [J6 nz] at j;have d:=(v.trans s2).trans y;have FL:FF R P [b,a] [(1,1)]:=⟨r2,v3,h3,⟨zs,y _ _ h2,j.tp (M_ y)⟩,P3⟩;show TU K _ [some (.ref p),some (.ref w),some (.ref P)] R;obtain ⟨x,S⟩:∃ x,ps[n - 1]?=some x:=⟨ps[n - 1]'⋯,Ax ⋯⟩;obtain ⟨f,rfl,F⟩:=u.get S;have B:N_ ps (-1)=some (V.ref f):=Kr ⋯ (by rw [show ps.length - 1=n - 1 by omega];exact S);refine CA (Bc (Ij (Ag ⟨_,rfl,1,rfl,_,_,_,_,rfl,rfl,d _ _ O,B,AU rfl (N3 (F.same d) FL (Z (n - 1) ⋯) (qY c.la c.lb c.a0 c.ba c.bb) ∅ A.mL λt H4 X Y s4 F4 S4 T=>⟨Ca,λC h5=>?_⟩)⟩)));have U:=AR h5 (.tup [.ref t]);have g:=(d.trans s4).trans U;have D:=g _ _ O
 have G:Bu ps none (some (-1))=ps.take (n - 1):=by
  unfold Bu;show (ps.drop 0).take ((if (-1:Int)<0 then ((-1:Int)+(ps.length:Int)).toNat else min (-1:Int).toNat ps.length) - 0)=_;rw [mF ∅,List.drop_zero,show ((-1:Int)+(ps.length:Int)).toNat - 0=n - 1 by omega]
 have go:∀ (i:Addr) (m:Hp),Same (upd H4 C (.tup [.ref t])) m->m i=some (.tup (ps.take (n - 1)))->Ld K (.ref C) (.ref i) m Q:=λi m o r=>by
  have ll:(ps.take (n - 1)).length=n - 1:=by rw [CB];omega
  refine ⟨C,i,[.ref t],ps.take (n - 1),rfl,rfl,SqT.of (o _ _ upd_same),SqT.of r,by simp,sz (by rw [ll];show 1+_<=_;omega),λz=>?_,λ_ p7 h7=>?_⟩
  ·rw [z] at ll;exact absurd ll (by show ¬ 0=n - 1;omega)
  ·have I:=AR h7 (.tup ([V.ref t]++ps.take (n - 1)));have J:=(U.trans o).trans I;refine k p7 _ X Y _ ((g.trans o).trans I) upd_same ⟨⟨t,rfl,F4.same J⟩,(u.same ((g.trans o).trans I)).take (n - 1)⟩ ?_ ?_
   ·have:zR n 0=(zP n (n - 1)).mu zL:=mF rfl;rw [this];exact S4
   ·rw [Hz,VF] at T;rw [<-T];ext
 refine ⟨_,rfl,1,rfl,_,rfl,w,ps,rfl,D,λi m r=>?_⟩;rw [G] at r;rcases r with ⟨rfl,rfl,e⟩ | ⟨hp,rfl⟩
 ·have:=congrArg List.length e;rw [CB] at this;omega
 ·exact go i _ (AR hp _) upd_same
def LO {a b:Nu} (g:Nat):cS a b g*(a.1*b.2)=cS a b (g+1):=(Int.pow_succ _ _).symm
def pE {a b:Nu} (c:Bd 40 a.1) (d:Bd 20 b.2):(a.1*b.2).natAbs<=2 ^ 61:=CP ((c.mul d).mono (show 40+20<=61 by decide))
def VG {X Y a b:cW} {N D:Sr} (h:Lw X Y) (h':Lw a b) (c:Sr.Pol D) (d:D≠0) (e:sr X*D=N*sr Y) (f:sr a*D=N*sr b):X=a/\Y=b:=by
 refine h.uniq' h' c d ?_;rw [show sr X*sr b*D=sr X*D*sr b by ext,e,show sr a*sr Y*D=sr a*D*sr Y by ext,f];ext
def pH {u:Sr} (pu:Sr.Pol u) {n:Nat} {L M R:List (cW×cW)} {X Y T B x g y z:cW} (W:∀ i,i<n->Sr.cm u (sr (D_ L i))≠0) (Z:∀ i,i<n->Sr.cm u (sr (D_ M i))≠0) (hR:∀ i,i<n->Sr.cm u (sr (D_ R i))≠0)
  (hs:∀ i,i<n->sr (L_ R i)*(sr (D_ L i)*sr (D_ M i))=(sr (L_ L i)*sr (D_ M i)+sr (L_ M i)*sr (D_ L i))*sr (D_ R i))
  (lX:Lw X Y) (lT:Lw T B) (A:Lw x g) (j:Lw y z) (C:Jn u n R X Y) (D:Jn u n L T B) (F:Jn u n M x g) (e:sr y*(sr B*sr g)=(sr T*sr g+sr x*sr B)*sr z):X=y/\Y=z:=by
 have f:∀ l:cW,Sr.Pol (Sr.cm u (sr l)):=λl=>Sr.cm_pol pu (AL l)
 have P:=Sr.j_congr (p:=λi=>Sr.cm u (sr (L_ R i))) (q:=λi=>Sr.cm u (sr (D_ R i))) (p':=λi=>Sr.cm u (sr (L_ L i))*Sr.cm u (sr (D_ M i))+Sr.cm u (sr (L_ M i))*Sr.cm u (sr (D_ L i))) (q':=λi=>Sr.cm u (sr (D_ L i))*Sr.cm u (sr (D_ M i))) n λi hi=>by
  have h:=congrArg (Sr.cm u) (hs i hi);have m:=λ(a b:cW)=>Sr.cm_mul u (AL a) (AL b);rw [Sr.cm_mul u (AL _) ((AL _).mul (AL _)),m,Sr.cm_mul u (((AL _).mul (AL _)).add ((AL _).mul (AL _))) (AL _),Sr.cm_add u ((AL _).mul (AL _)) ((AL _).mul (AL _)),m,m] at h;exact h
 rw [Sr.j_add (λi=>Sr.cm u (sr (L_ L i))) (λi=>Sr.cm u (sr (D_ L i))) (λi=>Sr.cm u (sr (L_ M i))) (λi=>Sr.cm u (sr (D_ M i))),Sr.jD_mul (λi=>Sr.cm u (sr (D_ L i))) (λi=>Sr.cm u (sr (D_ M i)))] at P;have C:sr X*Sr.jD (λi=>Sr.cm u (sr (D_ R i))) n=Sr.jN (λi=>Sr.cm u (sr (L_ R i))) (λi=>Sr.cm u (sr (D_ R i))) n*sr Y:=C;have D:sr T*Sr.jD (λi=>Sr.cm u (sr (D_ L i))) n=Sr.jN (λi=>Sr.cm u (sr (L_ L i))) (λi=>Sr.cm u (sr (D_ L i))) n*sr B:=D;have F:sr x*Sr.jD (λi=>Sr.cm u (sr (D_ M i))) n=Sr.jN (λi=>Sr.cm u (sr (L_ M i))) (λi=>Sr.cm u (sr (D_ M i))) n*sr g:=F;have c:=Sr.jD_pol (q:=λi=>Sr.cm u (sr (D_ L i))) (λi=>f _) n;have d:=Sr.jD_pol (q:=λi=>Sr.cm u (sr (D_ M i))) (λi=>f _) n;have G:=Sr.jD_pol (q:=λi=>Sr.cm u (sr (D_ R i))) (λi=>f _) n;have k:=Sr.jN_pol (p:=λi=>Sr.cm u (sr (L_ L i))) (q:=λi=>Sr.cm u (sr (D_ L i))) (λi=>f _) (λi=>f _) n;have o:=Sr.jN_pol (p:=λi=>Sr.cm u (sr (L_ M i))) (q:=λi=>Sr.cm u (sr (D_ M i))) (λi=>f _) (λi=>f _) n;have I:=Sr.jD_ne (q:=λi=>Sr.cm u (sr (D_ L i))) (λi=>f _) n W;have J:=Sr.jD_ne (q:=λi=>Sr.cm u (sr (D_ M i))) (λi=>f _) n Z;have O:=Sr.jD_ne (q:=λi=>Sr.cm u (sr (D_ R i))) (λi=>f _) n hR;generalize Sr.jD (λi=>Sr.cm u (sr (D_ L i))) n=r at *;generalize Sr.jD (λi=>Sr.cm u (sr (D_ M i))) n=v at *;generalize Sr.jD (λi=>Sr.cm u (sr (D_ R i))) n=S at *;generalize Sr.jN (λi=>Sr.cm u (sr (L_ L i))) (λi=>Sr.cm u (sr (D_ L i))) n=NL at *;generalize Sr.jN (λi=>Sr.cm u (sr (L_ M i))) (λi=>Sr.cm u (sr (D_ M i))) n=NM at *;generalize Sr.jN (λi=>Sr.cm u (sr (L_ R i))) (λi=>Sr.cm u (sr (D_ R i))) n=U at *;have w:=Nv (s:=1) j lT A k c o d D F (by rw [e,Sr.num_one];ext);rw [Sr.num_one] at w;refine VG (N:=NL*v+NM*r) lX j (c.mul d) (Sr.ne_mul c d I J) ?_ (by rw [w];ext);refine Sr.cancel ((AL X).mul (c.mul d)) (((k.mul d).add (o.mul c)).mul (AL Y)) G O ?_;rw [show sr X*(r*v)*S=sr X*S*(r*v) by ext,C,show U*sr Y*(r*v)=U*(r*v)*sr Y by ext,P];ext
def pI {a b:Nu} (M:val a≠0) {m:Nat} {L:List (cW×cW)} {d c X Y T B n o:cW} (lL:L.length=m+1) (F:∀ i,i<m+1->Sr.cm (xq (Sr.X (m+1)) a b) (sr (D_ L i))≠0) (O:Sr.cm (xq (Sr.X (m+1)) a b) (sr c)≠0)
  (P:sr d*sr (D_ L m)=sr (L_ L m)*(Sr.num (val b)+Sr.num (val a)*Sr.X 1)*sr c)
  (R:Lw X Y) (w:Lw T B) (x:Lw n o) (r:Jn (xq (Sr.X (m+1)) a b) (m+1) ((d,c)::L.take m) X Y) (y:Jn (xq (Sr.X (m+1)) a b) (m+1) L T B) (e:sr n*(sr B*1)=sr T*Sr.X 1*sr o):X=n/\Y=o:=by
 have pu:=GD (Sr.pXn (m+1)) a b;have ix:=Sr.num_inv M
 have S:Sr.cm (xq (Sr.X (m+1)) a b) (Sr.num (val b)+Sr.num (val a)*Sr.X 1)=Sr.X (m+1):=by
  rw [Sr.cm_add _ (Sr.Pol.num _) ((Sr.Pol.num _).mul (Sr.pXn 1)),Sr.cm_mul _ (Sr.Pol.num _) (Sr.pXn 1),Sr.cm_num,Sr.cm_num,Sr.cm_X];unfold xq;ext
 generalize xq (Sr.X (m+1)) a b=u at *;have g:∀ l:cW,Sr.Pol (Sr.cm u (sr l)):=λl=>Sr.cm_pol pu (AL l)
 have G:Sr.cm u (sr d)*Sr.cm u (sr (D_ L m))=Sr.cm u (sr (L_ L m))*Sr.X (m+1)*Sr.cm u (sr c):=by
  have h:=congrArg (Sr.cm u) P;rw [Sr.cm_mul u (AL _) (AL _),Sr.cm_mul u ((AL _).mul ((Sr.Pol.num _).add ((Sr.Pol.num _).mul (Sr.pXn 1)))) (AL _),Sr.cm_mul u (AL _) ((Sr.Pol.num _).add ((Sr.Pol.num _).mul (Sr.pXn 1))),S] at h;exact h
 have z:∀ i,i<m->(L.take m).getD i (([],[(1,1)]):cW×cW)=L.getD i ([],[(1,1)]):=λi j=>by
  rw [AT,AT,List.getElem?_take,mF j]
 have U:=VE (λi=>Sr.cm u (sr (L_ L i))) (λi=>Sr.cm u (sr (D_ L i))) (λi=>Sr.cm u (sr (L_ ((d,c)::L.take m) i))) (λi=>Sr.cm u (sr (D_ ((d,c)::L.take m) i))) m (λi j=>by
  show Sr.cm u (sr ((L.take m).getD i ([],[(1,1)])).2)=_;rw [z i j];rfl) λi j=>by
  show Sr.cm u (sr ((L.take m).getD i ([],[(1,1)])).1)=_;rw [z i j];rfl
 have sd:=ON (λi=>Sr.cm u (sr (D_ L i))) (λi=>Sr.cm u (sr (D_ ((d,c)::L.take m) i))) m λi j=>by
  show Sr.cm u (sr ((L.take m).getD i ([],[(1,1)])).2)=_;rw [z i j];rfl
 have r:sr X*Sr.jD (λi=>Sr.cm u (sr (D_ ((d,c)::L.take m) i))) (m+1)=Sr.jN (λi=>Sr.cm u (sr (L_ ((d,c)::L.take m) i))) (λi=>Sr.cm u (sr (D_ ((d,c)::L.take m) i))) (m+1)*sr Y:=r;rw [U,sd] at r;have r:sr X*(Sr.cm u (sr c)*Sr.jD (λi=>Sr.cm u (sr (D_ L i))) m)=(Sr.cm u (sr d)*Sr.jD (λi=>Sr.cm u (sr (D_ L i))) m+Sr.X 1*Sr.jN (λi=>Sr.cm u (sr (L_ L i))) (λi=>Sr.cm u (sr (D_ L i))) m*Sr.cm u (sr c))*sr Y:=r;have y:sr T*(Sr.jD (λi=>Sr.cm u (sr (D_ L i))) m*Sr.cm u (sr (D_ L m)))=(Sr.jN (λi=>Sr.cm u (sr (L_ L i))) (λi=>Sr.cm u (sr (D_ L i))) m*Sr.cm u (sr (D_ L m))+Sr.X m*Sr.cm u (sr (L_ L m))*Sr.jD (λi=>Sr.cm u (sr (D_ L i))) m)*sr B:=y;have A:=Sr.jD_pol (q:=λi=>Sr.cm u (sr (D_ L i))) (λi=>g _) m;have W:=Sr.jN_pol (p:=λi=>Sr.cm u (sr (L_ L i))) (q:=λi=>Sr.cm u (sr (D_ L i))) (λi=>g _) (λi=>g _) m;have Z:=Sr.jD_ne (q:=λi=>Sr.cm u (sr (D_ L i))) (λi=>g _) m λi j=>F i ⋯;have xm:Sr.X (m+1)=Sr.X 1*Sr.X m:=by rw [Sr.X_add,Nat.add_comm]
 have pY:=g c;have pX:=g d;have C:=g (D_ L m);have pT:=g (L_ L m);have nB:=F m ⋯;rw [xm] at G;generalize Sr.jD (λi=>Sr.cm u (sr (D_ L i))) m=D at *;generalize Sr.jN (λi=>Sr.cm u (sr (L_ L i))) (λi=>Sr.cm u (sr (D_ L i))) m=N at *;generalize Sr.cm u (sr (D_ L m))=f at *;generalize Sr.cm u (sr (L_ L m))=pm at *;generalize Sr.cm u (sr c)=v at *;generalize Sr.cm u (sr d)=I at *;have k:=A.mul C;have J:=(W.mul C).add (((Sr.pXn m).mul pT).mul A);refine VG (N:=Sr.X 1*(N*f+Sr.X m*pm*D)) R x k (Sr.ne_mul A C Z nB) ?_ ?_
 ·refine Sr.cancel ((AL X).mul k) (((Sr.pXn 1).mul J).mul (AL Y)) pY O ?_;rw [show sr X*(D*f)*v=sr X*(v*D)*f by ext,r,show (I*D+Sr.X 1*N*v)*sr Y*f=(I*f*D+Sr.X 1*N*v*f)*sr Y by ext,G];ext
 ·refine Sr.cancel ((AL n).mul k) (((Sr.pXn 1).mul J).mul (AL o)) (AL B) (B4 w.lb w.nb w.ne) ?_;rw [show sr n*(D*f)*sr B=sr n*(sr B*1)*(D*f) by ext,e,show sr T*Sr.X 1*sr o*(D*f)=sr T*(D*f)*Sr.X 1*sr o by ext,y];ext
def pJ (h:Kn K vs H Q E):wK K { nx:=λ_ D=>Q .non D,rt:=Q } (L2.start ["_law_kind_here","_law_parts","_law_others","_law_total","_law_both"] vs) H:=by
 obtain ⟨p,v,w,q1,q2,ps,os,n,a,b,L,M,rfl,o,hv,hw,FL,FM,O,hM,k⟩:=h;have n2:=o.n2;have n4:=o.n4;have A:=aok n2 n4;have va:=IB o.la o.a0;have pu:=GD (Sr.pXn n) a b;have lL:=FL.length;have lM:=FM.length;have eL:=O.1;have eM:=hM.1;have nz:∀ {T B:cW},Lw T B->Sr.cm (xq (Sr.X n) a b) (sr B)≠0:=λlw=>N2 va ⋯ (AL _) (B4 lw.lb lw.nb lw.ne);refine BJ (Ag (AU rfl (AU rfl ⟨p,v,q1,q2,ps,n,gP n,a,b,L,zP n,rfl,o,hv,FL,O,A.jP,λr T B H1 s1 F1 u J1=>?_⟩)));have u:Sq (cS a b (gP n)) (zT n) T B:=u;show TY K _ [some (.ref p),some (.ref v),some (.ref w),some (.ref r),none] H1;obtain ⟨g1,g2,l1,l2⟩:=u.all A.sm;obtain ⟨_,z2,z3,z4,z5⟩:=Gz A.sm;obtain ⟨u1,v1,hr,Pu,Pv⟩:=F1;refine HZ (CH (AU rfl ⟨r,u1,v1,T,B,rfl,hr,Pu,Pv,u.lw.lt,u.lw.lb,⋯,⋯,λH2 s2=>⟨true,rfl,?_⟩⟩));refine Av (λc=>by cases c) (λ_=>?_);have a7:=s2 _ _ hr;refine Hb (Bc (AU rfl (Ag (Bm rfl a7 rfl (Bm rfl a7 rfl ⟨u1,v1,T,B,10960,_,(zT n).n,(zT n).m,5,rfl,Pu.same s2,Pv.same s2,g1,g2,u.lw.ne,l1,l2,λt0=>(u.fT z4 t0).mono (Nat.le_max_left ..),(u.fB z5).mono (Nat.le_max_right ..),JZ A.c,∅,λt3 H3 T3 B3 s3 F3 b3 e3=>?_⟩)))));obtain ⟨rfl,rfl⟩:=b3.uniq u.lw e3;have F:=s2.trans s3;have a0:FF H3 r T3 B3:=⟨u1,v1,F _ _ hr,Pu.same F,Pv.same F⟩;refine Ue a0 F3 ⟨rfl,rfl⟩ ⟨_,rfl,Av (λc=>by cases c) (λ_=>?_)⟩;show TX K _ [some (.ref p),some (.ref v),some (.ref w),some (.ref r),none] H3;have ab:=s1.trans F;refine HZ (Hb (Bc (Ag (AU rfl (AU rfl ⟨p,r,q1,q2,n,gP n,a,b,T3,B3,L,zP n,_,_,rfl,o.same ab,a0,u,J1,O,λi d=>(LM n A.jP i d).1,A.p,λr4 ws H4 s4 h4 F4=>AU rfl ?_⟩)))));have q:=ab.trans s4;refine qW h4 (q _ _ hv) F4 (FL.same q) ⟨_,rfl,Av (λc=>by cases c) (λ_=>?_)⟩;show TW K _ [some (.ref p),some (.ref v),some (.ref w),some (.ref r),none] H4;refine BJ (Dq (rH ⟨_,rfl,_,rfl,v,w,rfl,⟨ps,SqT.of (q _ _ hv)⟩,⟨os,SqT.of (q _ _ hw)⟩,CompJ.zipW (xs:=ps) (ys:=os) ⋯ (λi C D=>i<=n/\Same H4 D/\∃ R,FFs D C R/\R.length=i/\∀ j,j<i->Sq 1 (zB n j) (L_ R j) (D_ R j)/\sr (L_ R j)*(sr (D_ L j)*sr (D_ M j))=(sr (L_ L j)*sr (D_ M j)+sr (L_ M j)*sr (D_ L j))*sr (D_ R j)) ⟨Ab _,Same.refl H4,[],trivial,rfl,λj hj=>absurd hj ⋯⟩ ?_ ?_ ?_⟩))
 ·rintro i C D ⟨h1,s5,R,h2,h3,_⟩;exact ⟨⋯,sz (by rw [h2.length];omega),s5 _ _ (q _ _ hv),s5 _ _ (q _ _ hw)⟩
 ·rintro i x y e C H5 hx hy ⟨_,s5,R,h2,h3,h6⟩ he;have d:i<n:=by have:=(By.mp hx).1;omega
  obtain ⟨f,rfl,Fx⟩:=FL.get hx;obtain ⟨f',rfl,Fy⟩:=FM.get hy;have se:=AR he (.tup [.ref f,.ref f']);have ac:=(q.trans s5).trans se;refine ⟨e,_,rfl,upd_same,rfl,_,_,rfl,_,_,rfl,rfl,?_⟩;show (AE (Gp K) [] E0 (AB (AA 0) (AB (AA 1) AC))) [some (.ref f),some (.ref f')] _ _;refine Ag (AU rfl (AU rfl (LJ (FFK.of (Fx.same ac)) (Fy.same ac) (O.2 i d) (hM.2 i d) (A.b i d) λt H6 X Y s6 F6 S6 e6=>⟨d,(s5.trans se).trans s6,R++[(X,Y)],(h2.same (se.trans s6)).app ⟨⟨t,rfl,F6⟩,trivial⟩,by rw [Cr,h3];rfl,λj hj=>?_⟩)))
  have gj:(R++[(X,Y)]).getD j (([],[(1,1)]):cW×cW)=if j<i then R.getD j ([],[(1,1)]) else (X,Y):=by
   rw [AT];by_cases c:j<i
   ·rw [mF c,Es ⋯,AT]
   ·rw [mE c,Dw ⋯,show j - R.length=0 by omega];rfl
  unfold L_ D_;rw [gj];by_cases c:j<i
  ·rw [mF c];exact h6 j c
  ·rw [mE c,show j=i by omega];exact ⟨S6,e6⟩
 ·rintro C H5 ⟨_,s5,R,h2,h3,h6⟩ w5 b4;rw [show ps.length=n by omega] at h3 h6;have sw:=AR b4 (.lst C);refine ⟨w5,C,rfl,upd_same,λP b5=>?_⟩;have s6:=AR b5 (.tup C);show TV K _ [some (.ref p),some (.ref v),some (.ref w),some (.ref r),some (.ref P)] _;have a4:=(s5.trans sw).trans s6;have a5:=q.trans a4;have ad:upd (upd H5 w5 (.lst C)) P (.tup C) P=some (HO.tup C):=upd_same;have FR:=h2.same (sw.trans s6);generalize upd (upd H5 w5 (.lst C)) P (.tup C)=H6 at a4 a5 ad FR ⊢;refine HZ (Hb (Bc (Ag (AU rfl (AU rfl ⟨p,P,q1,q2,C,n,gB n,a,b,R,zB n,rfl,o.same a5,ad,FR,⟨h3,λi d=>(h6 i d).1⟩,A.jB,λr7 X7 Y7 H7 s7 F7 S7 J7=>?_⟩)))));have G:=a5.trans s7;refine Ag (AU rfl (Ag (AU rfl (AU rfl ⟨p,w,q1,q2,os,n,1,a,b,M,zO,rfl,o.same G,G _ _ hw,FM.same G,hM,A.jO,λr8 T8 B8 H8 s8 F8 S8 J8=>?_⟩))));have S8:Sq (cS a b 1) (zU n) T8 B8:=S8;have a6:FF H8 r T3 B3:=a0.same (((s4.trans a4).trans s7).trans s8);have S0:a.1*b.2≠0:=BK o.a0 (AV o.lb.pos);have SM:=pE (a:=a) (b:=b) o.ba.1 o.bb.2
  have aj:∀ t I S U,Same H8 I->FF I t S U->Lw S U->sr S*(sr B3*sr B8)=(sr T3*sr B8+sr T8*sr B3)*sr U->bJ (.ref r7) (.ref t) I (λx D=>∃ k,x=.bl k/\if k=true then (AY (tC (.bl false))) { nx:=Ko K { nx:=λ_ D=>Q V.non D,rt:=Q },rt:=Q } [some (.ref p),some (.ref v),some (.ref w),some (.ref r),some (.ref P)] D else BG { nx:=Ko K { nx:=λ_ D=>Q V.non D,rt:=Q },rt:=Q } [some (.ref p),some (.ref v),some (.ref w),some (.ref r),some (.ref P)] D):=λt I S U s9 F9 b6 e9=>by
   obtain ⟨rfl,rfl⟩:=pH pu (λi d=>nz (O.2 i d).lw) (λi d=>nz (hM.2 i d).lw) (λi d=>nz (h6 i d).1.lw) (λi d=>(h6 i d).2) S7.lw u.lw S8.lw b6 J7 J1 J8 e9;refine Ue (F7.same (s8.trans s9)) F9 ⟨rfl,rfl⟩ ⟨_,rfl,Av (λc=>by cases c) (λ_=>?_)⟩;show Ko K _ [some (.ref p),some (.ref v),some (.ref w),some (.ref r),some (.ref P)] I;have J:=(G.trans s8).trans s9;refine CA (Bc (Ag (AU rfl (Ag (AU rfl (AU rfl ⟨p,v,q1,q2,ps,n,a,b,L,rfl,o.same J,J _ _ hv,FL.same J,O,λb7 ws X0 Y0 c0 al b9 ba am bb=>?_⟩))))));have W:=J.trans al
   have an:Ptz ((X0,Y0)::L.take (n - 1)) (zR n) n:=by
    refine ⟨by rw [B7,CB];omega,λi d=>?_⟩;cases i with
    | zero=>exact am
    | succ i=>
      have e1:zR n (i+1)=zP n i:=mE ⋯
      have g:(L.take (n - 1)).getD i (([],[(1,1)]):cW×cW)=L.getD i ([],[(1,1)]):=by
       rw [AT,AT,List.getElem?_take,mF ⋯]
      rw [e1];show Sq 1 (zP n i) ((L.take (n - 1)).getD i ([],[(1,1)])).1 ((L.take (n - 1)).getD i ([],[(1,1)])).2;rw [g];exact O.2 i ⋯
   refine ⟨p,b7,q1,q2,ws,n,gR n,a,b,_,zR n,rfl,o.same W,b9,ba,an,A.jR,λc1 c3 c4 c5 ao bc bd bf=>?_⟩;refine Ag (AU rfl (CH (Cf (Cf (O' (O' ⟨Bx,λa1 bg=>Cf (O' (O' ⟨Bx,λa2 bi=>⟨Bx,λa3 bl=>?_⟩⟩))⟩))))));have t1:=AR bg (.tup [.int 0,.int 1]);have t2:=AR bi (.tup [.int 1,.int 1]);have t3:=AR bl (.tup [.ref a1,.ref a2]);refine ⟨_,rfl,λc8 bm ar N bn bp=>?_⟩;have bq:=(t1.trans t2).trans t3;have Px:Pl ar a3 (xt 1):=⟨_,N _ _ upd_same,⟨⟨a1,rfl,N _ _ (t3 _ _ (t2 _ _ upd_same))⟩,⟨a2,rfl,N _ _ (t3 _ _ upd_same)⟩,trivial⟩⟩;have z:=bq.trans N;have br:FF ar r T3 B3:=a6.same (((s9.trans al).trans ao).trans z);refine N3 br ⟨a3,bm,bn,Px,bp⟩ u (U2 1) (by rw [Int.mul_one];exact u.cb) A.mX λbz bs c9 cb Z bt bw b0=>?_;rw [Hz,Ja] at b0;obtain ⟨m,rfl⟩:∃ m,n=m+1:=⟨n - 1,⋯⟩;obtain ⟨rfl,rfl⟩:=pI va ⋯ (λi d=>nz (O.2 i d).lw) (nz am.lw) bb bd.lw u.lw bw.lw bf J1 b0;exact sC (bc.same (z.trans Z)) bt ⟨rfl,rfl⟩ (k bs (((W.trans ao).trans z).trans Z))
  by_cases c2:n=2
  ·subst c2;have b1:=u.up (t:=a.1*b.2) (t':=2 ^ 61) S0 SM (by rw [LO];exact LH o.ba.1 o.bb.2 ∅);rw [LO] at b1;exact LJ (FFK.of a6) F8 b1 S8 A.s λt I S U s9 F9 S9 e9=>aj t I S U s9 F9 S9.lw e9
  ·have As:=A.s;rw [mE c2] at As;have bx:gP n=1+1:=mE c2;have b2:=S8.up (t:=a.1*b.2) (t':=2 ^ 61) S0 SM (by rw [LO];exact LH o.ba.1 o.bb.2 ∅);rw [LO,<-bx] at b2;exact LJ (FFK.of a6) F8 u b2 As λt I S U s9 F9 S9 e9=>aj t I S U s9 F9 S9.lw e9
def KindAt.tp {H c:Hp} {p d e:Addr} {n:Nat} {a b:Nu} (h:KindAt H p d e n a b) (s:Tp H c):KindAt c p d e n a b:=
 { h with at':=s _ _ h.at',at1:=s _ _ h.at1,at2:=s _ _ h.at2 }
def Kp.over {a H c:Hp} {p:Addr} (s:Same a H) (k:Kp p H c) (n:a p=none):Same a c:=λb o h=>k b o (Bi h n) (s b o h)
def pK {n i:Nat} (a:2<=n) (b:n<=4) (c:i<n):N_ [V.int 2,V.int 1,V.int 0] ((if decide ((n:Int) > 2)=true then 1 else 0)+(if decide ((i:Int) > 1)=true then 1 else 0))=some (.int ((dP n i - 1:Nat):Int)):=by
 have h:n=2\/n=3\/n=4:=by omega
 have g:i=0\/i=1\/i=2\/i=3:=by omega
 rcases h with rfl | rfl | rfl <;> rcases g with rfl | rfl | rfl | rfl <;> first | rfl | omega
def dP1 (n i:Nat):1<=dP n i/\dP n i<=3:=by
 unfold dP;by_cases c:n=2
 ·rw [mF c];omega
 ·rw [mE c];by_cases d:i<=1
  ·rw [mF d];omega
  ·rw [mE d];omega
def dO1 (i:Nat):1<=dO i/\dO i<=2:=by unfold dO;split <;> omega
def pL (i:Nat):(1:Int) - (if decide ((i:Int) > 0)=true then 1 else 0)=((dO i - 1:Nat):Int):=by
 unfold dO;by_cases c:i=0
 ·rw [mF c,c];rfl
 ·rw [mE c,mF (mG (show (i:Int) > 0 by omega))];rfl
structure LI (K:W.Frag) (H1:Hp) (r t q1 q2 w1 w2:Addr) (n:Nat) (a b:Nu) (i:Nat) (H':Hp):Prop where
 sa:Same H1 H'
 kd:KindAt H' t q1 q2 n a b
 sr':Src H' r
 ex:∃ ps os L M,H' w1=some (.lst ps)/\H' w2=some (.lst os)/\FFs H' ps L/\FFs H' os M/\Ptz L (zP n) i/\Ptz M zO i
def Ptz.snoc {L:List (cW×cW)} {a:Nat->Sz} {i:Nat} {X Y:cW} (h:Ptz L a i) (s:Sq 1 (a i) X Y):Ptz (L++[(X,Y)]) a (i+1):=by
 refine ⟨by rw [Cr,h.1];rfl,λj d=>?_⟩
 have b:(L++[(X,Y)]).getD j (([],[(1,1)]):cW×cW)=if j<i then L.getD j ([],[(1,1)]) else (X,Y):=by
  have:=h.1;rw [AT];by_cases c:j<i
  ·rw [mF c,Es ⋯,AT]
  ·rw [mE c,Dw ⋯,show j - L.length=0 by omega];rfl
 unfold L_ D_;rw [b];by_cases c:j<i
 ·rw [mF c];exact h.2 j c
 ·rw [mE c,show j=i by omega];exact s
def pM (i:Nat):Sq 1 (zO i) [] [(1,1)]:=by
 refine Sq.zero ∅ ∅ _ ?_ ?_ ?_
 all_goals
  unfold zO fz dO;by_cases c:i=0
  ·rw [mF c];decide +kernel
  ·rw [mE c];decide +kernel
def pO (h:KP K vs H Q E):wM K { nx:=λ_ R=>Q .non R,rt:=Q } (L2.start ["_law_script","_law_k","_law_source_here","_law_kind_here","_law_parts","_law_others","_law_i"] vs) H:=by
 obtain ⟨v,ns,rfl,hs,ar,k⟩:=h;refine LL ⟨2,rfl,∅,∅,ForR.by (n:=2) (λi σ R=>∃ x1 x2 x3 x4 Z p:d8,σ=[some (.ref v),x1,x2,x3,x4,Z,p]/\Same H R) ⟨none,none,none,none,none,none,rfl,Same.refl H⟩ ?_ ?_⟩
 ·rintro F σ G hi ⟨x1,x2,x3,x4,Z,p,rfl,s1⟩;rw [Int.zero_add];show Tf K _ [some (.ref v),some (.int (F:Int)),x2,x3,x4,Z,p] G;refine BJ (Ag (AU rfl (AU rfl ⟨v,ns,(F:Int),rfl,s1.seq hs,⋯,⋯,ar,λr H2 r0 s2 hr=>?_⟩)));show Te K _ [some (.ref v),some (.int (F:Int)),some (.ref r),x3,x4,Z,p] H2;refine BJ (CH (AU rfl ⟨r,rfl,hr,λt q1 q2 n a b H3 kd a5 k3=>?_⟩));have s3:Same G H3:=Kp.over s2 k3 r0;have n2:=kd.n2;have n4:=kd.n4;show Td K _ [some (.ref v),some (.int (F:Int)),some (.ref r),some (.ref t),x4,Z,p] H3;refine BJ ⟨sz ∅,λf S=>?_⟩;show Tc K _ [some (.ref v),some (.int (F:Int)),some (.ref r),some (.ref t),some (.ref f),Z,p] _;refine BJ ⟨sz ∅,λm C=>?_⟩;have t1:=AR S (.lst []);have t2:=AR C (.lst []);have U:=t1.trans t2;have f1:G f=none:=s3.free S;have f2:G m=none:=s3.free (t1.free C);obtain ⟨xr,yr,a6,_⟩:=id a5;have r1:f≠r:=λz=>by rw [z,a6] at S;cases S
  have r2:m≠r:=λz=>by rw [z,t1 _ _ a6] at C;cases C
  have a7:f≠m:=λz=>by rw [<-z,upd_same] at C;cases C
  show Tb K _ [some (.ref v),some (.int (F:Int)),some (.ref r),some (.ref t),some (.ref f),some (.ref m),p] _;refine LL ⟨_,rfl,_,_,_,_,rfl,rfl,U _ _ kd.at',rfl,(n:Int),rfl,⋯,⋯,?_⟩;rw [DA];refine ForR.by (λi σ R=>i<=n/\∃ p:d8,σ=[some (.ref v),some (.int (F:Int)),some (.ref r),some (.ref t),some (.ref f),some (.ref m),p]/\LI K G r t q1 q2 f m n a b i R) ⟨Ab _,p,rfl,⟨s3.trans U,kd.same U,a5.same U,[],[],[],[],t2 _ _ upd_same,upd_same,trivial,trivial,⟨rfl,λj hj=>absurd hj ⋯⟩,⟨rfl,λj hj=>absurd hj ⋯⟩⟩⟩ ?_ ?_
  ·rintro i σ H5 hi ⟨_,y6,rfl,⟨sa,W,a4,ps,os,L,M,h1,h2,FL,FM,hL,hM⟩⟩;have bg:=FL.length;have bi:=FM.length;have eL:=hL.1;have eM:=hM.1;rw [Int.zero_add];show Ta K _ [some (.ref v),some (.int (F:Int)),some (.ref r),some (.ref t),some (.ref f),some (.ref m),some (.int (i:Int))] H5;refine ⟨_,rfl,Ib h1,Fr (AU rfl (O' (Bc ⟨Gh,λe he=>?_⟩)))⟩;have se:=AR he (.lst [.int 2,.int 1,.int 0]);refine Bc (Dq (Bc (Bm rfl (se _ _ W.at') rfl (O' ⟨_,_,rfl,rfl,_,rfl,Dq (Bc (AU rfl (O' ⟨_,_,rfl,rfl,_,rfl,⟨_,_,rfl,rfl,HY upd_same (pK n2 n4 hi) ?_⟩⟩)))⟩))));have d1:=dP1 n i;refine ⟨r,2,dP n i - 1,rfl,a4.same se,∅,⋯,λD T B I F6 S6 p k6=>?_⟩;rw [show dP n i - 1+1=dP n i by omega] at S6;have J:Tp H5 I:=(M_ se).trans ((a4.same se).tp k6);have b0:Same G I:=Kp.over (sa.trans se) k6 r0;have ab:I f=some (.lst ps):=k6 _ _ r1 (se _ _ h1);have b1:I m=some (.lst os):=k6 _ _ r2 (se _ _ h2);refine ⟨f,ps,.ref D,rfl,rfl,ab,by rw [sizeLine_eq];omega,?_⟩;show TZ K _ [some (.ref v),some (.int (F:Int)),some (.ref r),some (.ref t),some (.ref f),some (.ref m),some (.int (i:Int))] _;have w:Tp I (upd I f (.lst (ps++[.ref D]))):=Kp.tp Kp.upd ab;have b2:upd I f (.lst (ps++[.ref D])) f=some (.lst (ps++[.ref D])):=upd_same;have ac:upd I f (.lst (ps++[.ref D])) m=some (.lst os):=by rw [Ar a7.symm];exact b1
   have b3:Same G (upd I f (.lst (ps++[.ref D]))):=λc o hc=>by rw [Ar (Bi hc f1)];exact b0 c o hc
   have x7:Src (upd I f (.lst (ps++[.ref D]))) r:=by
    obtain ⟨x,y,hx,hy⟩:=p;exact ⟨x,y,by rw [Ar r1.symm];exact hx,hy⟩
   have b4:FFs (upd I f (.lst (ps++[.ref D]))) (ps++[.ref D]) (L++[(T,B)]):=((FL.tp J).tp w).app ⟨⟨D,rfl,F6.tp w⟩,trivial⟩;have b5:=(FM.tp J).tp w;have b6:=(W.tp J).tp w;have b7:Ptz (L++[(T,B)]) (zP n) (i+1):=hL.snoc S6;generalize upd I f (.lst (ps++[V.ref D]))=H7 at *;refine ⟨_,rfl,Ib ac,Bc (Qg (CH (Cf (O' (O' ⟨Bx,λa1 b9=>⟨a1,rfl,upd_same,λp8 H8 s8 F8=>?_⟩⟩)))))⟩;have ba:=AR b9 (.tup [.int 0,.int 1]);have N:=ba.trans s8;have d2:=dO1 i;refine Fr (AU rfl (O' (Bc (O' (Dq (Bc (AU rfl (O' ⟨_,_,rfl,rfl,_,rfl,⟨_,_,rfl,rfl,?_⟩⟩))))))));refine ⟨r,1,dO i - 1,congrArg (λz:Int=>[V.ref r,V.int 1,V.int z]) (pL i),x7.same N,∅,⋯,λp9 T9 B9 H9 F9 S9 x9 k9=>⟨Bx,λad O=>?_⟩⟩;rw [show dO i - 1+1=dO i by omega] at S9;have P:=AR O (.lst [.ref p8,.ref p9]);refine Ag (AU rfl (O' ⟨r,2,rfl,x9.same P,∅,λd g d0 bl bb X=>?_⟩))
   have aj:ad≠r:=λz=>by
    obtain ⟨x,y,hx,_⟩:=x9;rw [z,hx] at O;cases O
   have al:g ad=some (.lst [.ref p8,.ref p9]):=X _ _ aj upd_same;have a0:Tp H8 H9:=(x7.same N).tp k9;have q:Tp H9 g:=(M_ P).trans ((x9.same P).tp X);have u:Tp H7 g:=((M_ N).trans a0).trans q;have am:Same G g:=Kp.over ((Kp.over (b3.trans N) k9 r0).trans P) X r0;have a2:∀ c o,c≠r->H7 c=some o->g c=some o:=λc o hc h=>X _ _ hc (P _ _ (k9 _ _ hc (N _ _ h)))
   have an:∀ (pp:Addr) (T' B':cW),FF g pp T' B'->Sq 1 (zO i) T' B'->HK (.ref m) [.ref pp] g (λ_ R=>i+1<=n/\∃ p:d8,[some (.ref v),some (.int (F:Int)),some (.ref r),some (.ref t),some (.ref f),some (.ref m),some (.int (i:Int))]=[some (.ref v),some (.int (F:Int)),some (.ref r),some (.ref t),some (.ref f),some (.ref m),p]/\LI K G r t q1 q2 f m n a b (i+1) R):=λpp T' B' Fp Sp=>by
    have a3:=a2 _ _ r2 ac;have ao:=a2 _ _ r1 b2;have A:Tp g (upd g m (.lst (os++[.ref pp]))):=Kp.tp Kp.upd a3;refine ⟨m,os,.ref pp,rfl,rfl,a3,by rw [sizeLine_eq];omega,hi,_,rfl,⟨λc o hc=>by rw [Ar (Bi hc f2)];exact am c o hc,(b6.tp u).tp A,?_,_,_,_,M++[(T',B')],by rw [Ar a7];exact ao,upd_same,(b4.tp u).tp A,((b5.tp u).tp A).app (L:=M) (M:=[(T',B')]) ⟨⟨pp,rfl,Fp.tp A⟩,trivial⟩,b7,hM.snoc Sp⟩⟩;obtain ⟨x,y,hx,hy⟩:=bb;exact ⟨x,y,by rw [Ar r2.symm];exact hx,hy⟩
   have bc:d=0\/d=1:=by omega
   rcases bc with rfl | rfl
   ·exact HY al rfl (an p8 _ _ (F8.tp (a0.trans q)) (pM i))
   ·exact HY al rfl (an p9 _ _ (F9.tp q) S9)
  ·rintro σ H5 ⟨_,y6,rfl,⟨sa,W,a4,ps,os,L,M,h1,h2,FL,FM,hL,hM⟩⟩;show (AE (Kn K) [] E0 (AB (AA 3) (AB (G_ E5 (AB (AA 4) AC)) (AB (G_ E5 (AB (AA 5) AC)) AC)))) [some (.ref v),some (.int (F:Int)),some (.ref r),some (.ref t),some (.ref f),some (.ref m),y6] H5 _;refine Fr (AU rfl (Dq (AU rfl ⟨f,ps,rfl,h1,λD bd=>Dq (AU rfl ?_)⟩)));have s6:=AR bd (.tup ps);refine ⟨m,os,rfl,s6 _ _ h2,λp7 bf=>?_⟩;have s7:=AR bf (.tup os);have Y:=s6.trans s7;refine ⟨t,D,p7,q1,q2,ps,os,n,a,b,L,M,rfl,W.same Y,s7 _ _ upd_same,upd_same,FL.same Y,FM.same Y,hL,hM,λH8 s8=>⟨true,rfl,?_⟩⟩;refine Av (λc=>by cases c) (λ_=>⟨_,_,_,_,_,_,rfl,s1.trans ((sa.trans Y).trans s8)⟩)
 ·rintro σ G ⟨x1,x2,x3,x4,Z,p,rfl,s1⟩;show Tg K { nx:=λ_ R=>Q V.non R,rt:=Q } [some (.ref v),x1,x2,x3,x4,Z,p] G;exact CA (O' (k G))
end Bs
namespace Bs
open PySem PySem.Spec PyProof.Rows L2
set_option maxHeartbeats 4000000
open Hd
structure Bl (K:W.Frag) (mg:dq):Prop where
 abs:mg "abs" = none
 min:mg "min" = none
 len:mg "len" = none
 enumerate:mg "enumerate" = none
 list:mg "list" = none
 max:mg "max" = none
 range:mg "range" = none
 any:mg "any" = none
 zip:mg "zip" = none
 EXPONENTS:mg "EXPONENTS" = some (.ref (Gj K))
 tuple:mg "tuple" = none
 NOUGHT:mg "NOUGHT" = some (.ref (He K))
 sum:mg "sum" = none
 isinstance:mg "isinstance" = none
 int:mg "int" = none
 bool:mg "bool" = none
 all:mg "all" = none
 xEXPONENTS:∀ H:Hp,SqT K H (Gj K) (exps.map λe:Nat=>V.int (e:Int))
 xNOUGHT:NOk K
section
variable {P:Program} {w:World} {K:W.Frag} {mg:dq} {base:Heap} {f:Addr} {fd:FuncData}
def K_ {n:Str} {st:Stmt} {N ps:dw} {k:Nat} {sp:Sp} {t:TS} (F:Fun K n n st f fd) (v:∀ {c:d7} {H:Hp} {Q:VK} {E:XK},sp c H Q E->t { nx:=λ_ i=>Q .non i,rt:=Q } (start N c) H) (d:∀ {a:Value} {A:Around} {b:List Env} {s:Shared} {H:Hp} {E:XK} (e:Room k (A.deeper (envOfC n (Ch st) s.heap.objs.size f a))) (j:N.Nodup) (m:(A.deeper (envOfC n (Ch st) s.heap.objs.size f a)).units<cLine) (g:(A.deeper (envOfC n (Ch st) s.heap.objs.size f a)).units+64<cLine),PSs (GW aN P w K mg base N n (Ch st) f a A b s H E).nox (Dl st) t) (S:FnScope N ps (Ch st):=by exact ⟨rfl,rfl,rfl,by decide +kernel,rfl,by decide +kernel,by decide +kernel⟩) (len:∀ c H Q E,sp c H Q E->c.length=ps.length:=by intro c H Q E h;repeat (first | (obtain ⟨rfl,_⟩:=h;rfl) | obtain ⟨_,h⟩:=h)):FnOk P w K mg base aN (k+1) f fd ps sp:=F.ok S len λa A b s H c Q E e h=>⟨t,d e S.nd e.units0 e.units,v h⟩
def li {a:Prop} {b:Type} {x:b}:x=x\/a:=Or.inl rfl
end
set_option maxHeartbeats 4000000
open Hd
def OO {K:W.Frag} {st:Stmt} {f c:Addr} {n:Str} {pm:Value} (l:K.lookup f=some (I_ n st pm c)) (e:W.codeIn K (.ref c) n=true) (k:W.keepIn K (.ref f)=true):Fun K n n st f (W.fnOf n n (Ed st) (Dl st) (Ch st) .none .none .none pm none (.ref c) .none):=Wh (st:=st) l e k
def pV {P:Program} {K:W.Frag} {w:World} {h c:Heap} {d:dq} {k:Nat} {f:Addr} {g:FuncData} {n:Str} {ps:dw} {sp:Sp} (X:K.In h) (G:h.Ns mainGlobals d) (ok:FnOk P w K d c aN k f g ps sp) (b:Binds K g ps []) (e:W.keepIn K (.ref f)=true) (a:W.nsIn K mainGlobals n=some (some (.ref f))):Cal P w K d c k n ps sp:=⟨f,g,ok,b,e,W.mg_of X G a⟩
def Jb {a:dh} {n:Nat} (h:a.length=n+1):∃ x t,a=x::t/\t.length=n:=by cases a with | nil=>cases h | cons x t=>exact ⟨x,t,rfl,Nat.succ.inj h⟩
def VH (a:dh) (h:a.length=1):∃ b,a=[b]:=by obtain ⟨x,t,rfl,q⟩:=Jb h;exact ⟨x,by rw [B6.mp q]⟩
def VI (b:dh) (h:b.length=2):∃ c a,b=[c,a]:=by obtain ⟨x,t,rfl,q⟩:=Jb h;obtain ⟨a,rfl⟩:=VH t q;exact ⟨x,a,rfl⟩
def VJ (c:dh) (h:c.length=3):∃ d a b,c=[d,a,b]:=by obtain ⟨x,t,rfl,q⟩:=Jb h;obtain ⟨a,b,rfl⟩:=VI t q;exact ⟨x,a,b,rfl⟩
def oB (d:dh) (h:d.length=4):∃ e a b c,d=[e,a,b,c]:=by obtain ⟨x,t,rfl,q⟩:=Jb h;obtain ⟨a,b,c,rfl⟩:=VJ t q;exact ⟨x,a,b,c,rfl⟩
def oD (e:dh) (h:e.length=5):∃ f a b c d,e=[f,a,b,c,d]:=by obtain ⟨x,t,rfl,q⟩:=Jb h;obtain ⟨a,b,c,d,rfl⟩:=oB t q;exact ⟨x,a,b,c,d,rfl⟩
def Ah {P:Program} {K:W.Frag} {w:World} {h g:Heap} {j:dq} {k:Nat} {f c:Addr} {n:Str} {ps:dw} {sp:Sp} {st:Stmt} {pm:Value} (X:K.In h) (G:h.Ns mainGlobals j) (ok:Fun K n n st f (W.fnOf n n (Ed st) (Dl st) (Ch st) .none .none .none pm none (.ref c) .none)->FnOk P w K j g aN k f (W.fnOf n n (Ed st) (Dl st) (Ch st) .none .none .none pm none (.ref c) .none) ps sp) (l:K.lookup f=some (I_ n st pm c):=by kernel_rfl) (e:W.codeIn K (.ref c) n=true:=by kernel_rfl) (q:W.keepIn K (.ref f)=true:=by kernel_rfl) (a:W.nsIn K mainGlobals n=some (some (.ref f)):=by kernel_rfl) (b:∀ (kV m pm:Value) (p:Option Addr) (o r:Value) (d:dh),d.length=ps.length->bindArgs (W.fnOf n n (Ed st) (Dl st) (Ch st) .none kV m pm p o r) ⟨d,[]⟩=pure (ps.zip d):=by first | exact λ_ _ _ _ _ _ d i=>by obtain ⟨_,rfl⟩:=VH d i;rfl | exact λ_ _ _ _ _ _ d i=>by obtain ⟨_,_,rfl⟩:=VI d i;rfl | exact λ_ _ _ _ _ _ d i=>by obtain ⟨_,_,_,rfl⟩:=VJ d i;rfl | exact λ_ _ _ _ _ _ d i=>by obtain ⟨_,_,_,_,_,rfl⟩:=oD d i;rfl):Cal P w K j g k n ps sp:=pV X G (ok (OO l e q)) ((OO l e q).binds b) q a
abbrev K' (P:Program) (w:World) (b:dq) (a:Heap) (k:Nat) (n:Str) (ps:dw) (sp:W.Frag->Sp):Prop:=Cal P w (hp w.params) b a k n ps (sp (hp w.params))
section
variable {P:Program} {w:World} {mg:dq} {base h:Heap} (X:(hp w.params).In h) (G:h.Ns mainGlobals mg) (B:Bl (hp w.params) mg)
include X G B
theorem HB:K' P w mg base 1 "common_divisor" ["one", "other"] Ek:=Ah (f:=22) (c:=21) (pm:=O_) (st:=Wi) X G λF=>K_ F (wO ) λb a d e=>(AI (E2 PassesOwn.never (cR E3 (pv 1) AG) (AI (C' a (AQ V0 (pv 0) (pv 1))) (AI (C' a (pv 1)) (AS (C' a (pv 2)))))) (AS (AZ (Ap IT rfl B.abs IQ (AD (pv 0) AJ)))))
theorem OP:K' P w mg base 1 "raised" ["whole", "n"] Gk:=Ah (f:=29) (c:=28) (pm:=O_) (st:=Wj) X G λF=>K_ F (wP ) λb a d e=>(AI (C' a AG) (AI (C' a (pv 0)) (AI (E2 PassesOwn.never (cR EA (pv 1) AG) (AI (BQ (cR Eb (AQ Cz (pv 1) AG) AG) (AS (FV (i:=2) a rfl li (pv 3) Jt)) BO) (AI (FV (i:=1) a rfl li AG Yw) (AS (BQ (cR EA (pv 1) AG) (AS (FV (i:=3) a rfl li (pv 3) Jt)) BO))))) (AS (AZ (pv 2))))))
theorem OQ:K' P w mg base 1 "row_trimmed" ["row"] Hf:=Ah (f:=41) (c:=40) (pm:=O_) (st:=Wl) X G λF=>K_ F (wS ) λb a d e=>(AI (C' a (Ap CT rfl B.len BL (AD (pv 0) AJ))) (AI (E2 PassesOwn.never (PW.pt (Jg (cR EA (pv 1) AG) (Jf (cR Eb (BR A3 (pv 0) (AQ BU (pv 1) AG) (λ_ _=>rfl)) AG)))) (AS (FV (i:=1) a rfl li AG IH))) (AS (AZ (HJ Jy (pv 0) HI (FX (pv 1)))))))
theorem VL:K' P w mg base 1 "row_parted" ["row", "divisor"] Io:=Ah (f:=46) (c:=45) (pm:=O_) (st:=Wm) X G λF=>K_ F (vB ) λa b d e=>(AS (AZ (C2 (N:=["whole", "divisor"]) (capt:=[none,some 1]) rfl (BlkOk.of rfl rfl rfl rfl (Ce.mpr rfl) rfl rfl rfl) (EZ (pv 0)) (λ_ _ _ _=>(Ao (i:=0) (show (["whole", "divisor"]:List PySem.Str).Nodup by decide +kernel) rfl li)) (λ_ _ _ _=>(AQ Ic (pv 0) (pv 1))))))
theorem oE:K' P w mg base 1 "row_times" ["row", "other"] Kd:=Ah (f:=53) (c:=52) (pm:=O_) (st:=Wn) X G λF=>K_ F (uR ) λb a d e=>(AI (BQ (PW.pt (GS (EW (Fe (pv 0) (λ_=>rfl))) (GO (EW (Fe (pv 1) (λ_=>rfl)))))) (AS (AZ (CM AJ))) BO) (AI (C' a (AQ HL (CM (AD AG AJ)) (AQ BU (AQ Br (Ap CT rfl B.len BL (AD (pv 0) AJ)) (Ap CT rfl B.len BL (AD (pv 1) AJ))) AG))) (AI (CF PassesOwn.never rfl (IW rfl B.enumerate (AD (pv 0) AJ)) (Ef rfl (CW (Ao (i:=3) a rfl li) (CW (Ao (i:=4) a rfl li) EX))) (AS (BQ (cR E3 (pv 4) AG) (AS (CF PassesOwn.never rfl (IW rfl B.enumerate (AD (pv 1) AJ)) (Ef rfl (CW (Ao (i:=5) a rfl li) (CW (Ao (i:=6) a rfl li) EX))) (AS (IG (pv 2) (AQ Br (pv 3) (pv 5)) Ia (AQ BI (pv 4) (pv 6)) Oe EB)))) BO))) (AS (AZ (pv 2))))))
theorem VM:K' P w mg base 1 "row_over" ["row", "divisor"] Iq:=Ah (f:=60) (c:=59) (pm:=O_) (st:=Wp) X G λF=>K_ F (vG ) λb a d e=>(AI (C' a (Dk MF rfl B.list Js (AD (pv 0) AJ))) (AI (C' a (AQ BU (Ap CT rfl B.len BL (AD (pv 1) AJ)) AG)) (AI (C' a (AQ HL (CM (AD AG AJ)) (Ap (IU rfl) rfl B.max IR (AD (AQ BU (Ap CT rfl B.len BL (AD (pv 0) AJ)) (pv 3)) (AD AG AJ))))) (AI (CF PassesOwn.never rfl (MG rfl B.range (AD (AQ BU (AQ BU (Ap CT rfl B.len BL (AD (pv 0) AJ)) (pv 3)) AG) (AD (Bq Bt AG) (AD (Bq Bt AG) AJ)))) (Ao (i:=5) a rfl li) (AI (C' a (AQ E7 (BR A3 (pv 2) (AQ Br (pv 5) (pv 3)) (λ_ _=>rfl)) (BR A3 (pv 1) (Bq Bt AG) (λ_ _=>rfl)))) (AI (BQ (cR E3 (AQ BI (pv 6) (BR A3 (pv 1) (Bq Bt AG) (λ_ _=>rfl))) (BR A3 (pv 2) (AQ Br (pv 5) (pv 3)) (λ_ _=>rfl))) (AS (AZ GN)) BO) (AI (IF (pv 6) (HG (pv 4) (pv 5) EB)) (AS (BQ (cR E3 (pv 6) AG) (AS (CF PassesOwn.never rfl (DT rfl B.range (AD (pv 3) AJ)) (Ao (i:=7) a rfl li) (AS (IG (pv 2) (AQ Br (pv 5) (pv 7)) Ia (AQ BI (pv 6) (BR A3 (pv 1) (pv 7) (λ_ _=>rfl))) IH EB)))) BO)))))) (AS (AZ (Jh (Ez (Ap (ZB rfl) rfl B.any ZA (AD (HJ Jy (pv 2) HI (FX (pv 3))) AJ))) GN (pv 4))))))))
theorem oF:K' P w mg base 1 "row_moved" ["row", "whole"] Kh:=Ah (f:=72) (c:=71) (pm:=O_) (st:=Wr) X G λF=>K_ F (sZ ) λb a d e=>(AI (C' a (Dk MF rfl B.list Js (AD (pv 0) AJ))) (AI (CF PassesOwn.never rfl (DT rfl B.range (AD (AQ BU (Ap CT rfl B.len BL (AD (pv 0) AJ)) AG) AJ)) (Ao (i:=3) a rfl li) (AS (CF PassesOwn.never rfl (MG rfl B.range (AD (AQ BU (Ap CT rfl B.len BL (AD (pv 0) AJ)) AG) (AD (AQ BU (pv 3) AG) (AD (Bq Bt AG) AJ)))) (Ao (i:=4) a rfl li) (AS (IG (pv 2) (pv 4) Ia (AQ BI (pv 1) (BR A3 (pv 2) (AQ Br (pv 4) AG) (λ_ _=>rfl))) Oe EB))))) (AS (AZ (pv 2)))))
theorem oH:K' P w mg base 1 "inverse_modulo" ["whole", "prime"] KR:=Ah (f:=103) (c:=102) (pm:=O_) (st:=Ww) X G λF=>K_ F (vK ) λb a d e=>(AI (C' a (pv 1)) (AI (C' a (AQ Cz (pv 0) (pv 1))) (AI (C' a AG) (AI (C' a AG) (AI (E2 PassesOwn.never (cR E3 (pv 3) AG) (AI (C' a (AQ Ic (pv 2) (pv 3))) (AI (C' a (AQ BU (pv 2) (AQ BI (pv 6) (pv 3)))) (AI (C' a (pv 3)) (AI (C' a (pv 7)) (AI (C' a (AQ BU (pv 4) (AQ BI (pv 6) (pv 5)))) (AI (C' a (pv 5)) (AS (C' a (pv 7)))))))))) (AS (AZ (AQ Cz (pv 4) (pv 1)))))))))
theorem oI:K' P w mg base 1 "rests_modulo" ["row", "prime"] KS:=Ah (f:=108) (c:=107) (pm:=O_) (st:=Wx) X G λF=>K_ F (vH ) λa b d e=>(AS (AZ (C2 (N:=["whole", "prime"]) (capt:=[none,some 1]) rfl (BlkOk.of rfl rfl rfl rfl (Ce.mpr rfl) rfl rfl rfl) (EZ (pv 0)) (λ_ _ _ _=>(Ao (i:=0) (show (["whole", "prime"]:List PySem.Str).Nodup by decide +kernel) rfl li)) (λ_ _ _ _=>(AQ Cz (pv 0) (pv 1))))))
theorem oJ:K' P w mg base 1 "nearest" ["whole", "prime"] KY:=Ah (f:=148) (c:=147) (pm:=O_) (st:=W5) X G λF=>K_ F (vM ) λb a d e=>(AI (C' a (AQ Cz (pv 0) (pv 1))) (AS (AZ (Jh (cR EA (AQ BI AG (pv 2)) (pv 1)) (AQ BU (pv 2) (pv 1)) (pv 2)))))
theorem EJ:K' P w mg base 1 "poly" ["row"] DO:=Ah (f:=209) (c:=208) (pm:=X_) (st:=XE) X G λF=>K_ F (wQ ) λb a d e=>(AI (C' a (Ap CT rfl B.len BL (AD (pv 0) AJ))) (AI (E2 PassesOwn.never (PW.pt (Jg (cR EA (pv 1) AG) (Jf (cR Eb (xI Ae (BR A3 (pv 0) (AQ BU (pv 1) AG) (λ_ _=>rfl))) AG)))) (AS (FV (i:=1) a rfl li AG IH))) (AS (AZ (Dk IZ rfl B.tuple Fb (AD (HJ Jy (pv 0) HI (FX (pv 1))) AJ))))))
theorem LP:K' P w mg base 1 "number_of" ["P", "place"] Go:=Ah (f:=226) (c:=225) (pm:=X_) (st:=XH) X G λF=>K_ F (tG ) λa b d e=>(AS (AZ (Jh (cR II (pv 1) (Ap EC rfl B.len BL (AD (pv 0) AJ))) (BR Ae (pv 0) (pv 1) (λ_ _=>rfl)) (A8 (AD AG (AD AG AJ))))))
theorem VN:K' P w mg base 1 "x_to" ["i"] Kj:=Ah (f:=233) (c:=232) (pm:=X_) (st:=XI) X G λF=>K_ F (rC ) λa b d e=>(AS (AZ (AQ Zm (AQ Zb (A8 (AD (A8 (AD AG (AD AG AJ))) AJ)) (pv 0)) (A8 (AD (A8 (AD AG (AD AG AJ))) AJ)))))
theorem LQ:K' P w mg base 1 "f_poly" ["P"] Hn:=Ah (f:=302) (c:=301) (pm:=av) (st:=XW) X G λF=>K_ F (qP ) λa b d e=>(AS (AZ (A8 (AD (pv 0) (AD (A8 (AD (A8 (AD AG (AD AG AJ))) AJ)) AJ)))))
theorem oK:K' P w mg base 1 "_law_source" ["_law_script", "_law_k"] NC:=Ah (f:=396) (c:=395) (pm:=Z_) (st:=Xk) X G λF=>K_ F (qO ) λb a d e=>(AI (C' a AG) (AI (BQ (cR EA (Ap Lx rfl B.len BL (AD (pv 0) AJ)) AG) (AS (C' a (BR PJ (pv 0) (AQ Br AG (AQ Cz (pv 1) (AQ BU (Ap Lx rfl B.len BL (AD (pv 0) AJ)) AG))) (λ_ _=>rfl)))) BO) (AI (C' a (AQ Cz (AQ BI (AQ Br (AQ Br (AQ Br (AQ Cz (pv 2) AG) (AQ BI AG (pv 1))) (AQ Cz (Ap (ZI rfl) rfl B.sum YM (AD (HJ ZH (pv 0) HI (FX AG)) AJ)) AG)) AG) AG) AG)) (AI (C' a (AQ Cz (AQ BI (pv 3) (pv 3)) AG)) (AI (C' a AG) (AI (CF PassesOwn.never rfl (DT rfl B.range (AD AG AJ)) (Ao (i:=6) a rfl li) (AI (C' a (AQ Cz (AQ Br (AQ Br (AQ BI (pv 4) AG) (pv 3)) (AQ BI AG (pv 6))) AG)) (AS (C' a (AQ Br (AQ BI (pv 5) AG) (pv 4)))))) (AI (BQ (PW.pt (Jg (cR EA (Ap Lx rfl B.len BL (AD (pv 0) AJ)) AG) (Jf (cR Eb (AQ Cz (xI PJ (pv 0)) AG) AG)))) (AS (AZ (CM (AD (Ap IT rfl B.abs IQ (AD (pv 2) AJ)) (AD (pv 5) AJ))))) BO) (AS (AZ (CM (AD (pv 5) (AD AG AJ))))))))))))
theorem Ep:K' P w mg base 1 "_law_take" ["_law_source_here", "_law_many"] DX:=Ah (f:=403) (c:=402) (pm:=Z_) (st:=Xl) X G λF=>K_ F (qG ) λb a d e=>(AI (BQ (cR Eb (xI A3 (pv 0)) AG) (AS (IF (A8 (AD (xI A3 (pv 0)) (AD AG AJ))) (Ef rfl (CW (HG (pv 0) AG EB) (CW (HG (pv 0) AG EB) EX))))) BO) (AI (C' a (AQ Cz (xI A3 (pv 0)) (pv 1))) (AI (IF (AQ Ic (xI A3 (pv 0)) (pv 1)) (HG (pv 0) AG EB)) (AS (AZ (pv 2))))))
theorem oN:K' P w mg base 1 "_law_is_number" ["_law_found"] Km:=Ah (f:=436) (c:=435) (pm:=Z_) (st:=Xq) X G λF=>K_ F (qL ) λb a d e=>(AI (BQ (PW.pt (GS (EW (Ez (Ap IV rfl B.isinstance IS (AD (pv 0) (AD (ID rfl B.tuple Fb rfl) AJ))))) (GO (cR E3 (Ap EC rfl B.len BL (AD (pv 0) AJ)) AG)))) (AS (AZ EU)) BO) (AI (CF PassesOwn.never rfl (Ea (pv 0)) (Ao (i:=1) a rfl li) (AS (BQ (PW.pt (GS (EW (Ez (Ap IV rfl B.isinstance IS (AD (pv 1) (AD (ID rfl B.int Jr rfl) AJ))))) (GO (Ez (Ap IV rfl B.isinstance IS (AD (pv 1) (AD (ID rfl B.bool YN rfl) AJ))))))) (AS (AZ EU)) BO))) (AS (AZ (IJ EA (xI Ae (pv 0)) AG (U_ _))))))
theorem VO:K' P w mg base 2 "content" ["row", "start"] Im:=Ah (f:=34) (c:=33) (pm:=O_) (st:=Wk) X G λF=>K_ F (vA ) λb a d e=>(AI (C' a ((HB X G B).q2 b (ZE rfl B.min YK (ZP (N:=["whole"]) (capt:=[none]) rfl (BlkOk.of rfl rfl rfl rfl (λ_ h=>nomatch h) rfl rfl rfl) (EZ (pv 0)) (λ_ _ _ _=>(Ao (i:=0) (show (["whole"]:List PySem.Str).Nodup by decide +kernel) rfl li)) (λ_ _ _ _=>(cR E3 (pv 0) AG)) (λ_ _ _ _=>(Ap IT rfl B.abs IQ (AD (pv 0) AJ))))) (pv 1))) (AI (CF PassesOwn.never rfl (EZ (pv 0)) (Ao (i:=3) a rfl li) (AI (BQ (cR Eb (pv 2) AG) (AS (AZ AG)) BO) (AS (C' a ((HB X G B).q2 b (pv 3) (pv 2)))))) (AS (AZ (pv 2)))))
theorem VP:K' P w mg base 2 "row_less" ["row", "factor", "other", "weight", "shift"] Ip:=Ah (f:=65) (c:=64) (pm:=O_) (st:=Wq) X G λF=>K_ F (vD ) λb a d e=>(AI (Ie (i:=5) (N:=["whole", "factor"]) (capt:=[none,some 1]) a rfl li rfl (BlkOk.of rfl rfl rfl rfl (Ce.mpr rfl) rfl rfl rfl) (EZ (pv 0)) (λ_ _ _ _=>(Ao (i:=0) (show (["whole", "factor"]:List PySem.Str).Nodup by decide +kernel) rfl li)) (λ_ _ _ _=>(AQ BI (pv 1) (pv 0)))) (AI (IE (IL PySem.F.plainAttrs_list PySem.F.slot_list_extend PySem.F.type_list_extend O5 (pv 5) (AD (AQ HL (CM (AD AG AJ)) (AQ BU (AQ Br (Ap CT rfl B.len BL (AD (pv 2) AJ)) (pv 4)) (Ap CT rfl B.len BL (AD (pv 0) AJ)))) AJ))) (AI (CF PassesOwn.never rfl (IW rfl B.enumerate (AD (pv 2) AJ)) (Ef rfl (CW (Ao (i:=6) a rfl li) (CW (Ao (i:=7) a rfl li) EX))) (AS (IG (pv 5) (AQ Br (pv 6) (pv 4)) Ia (AQ BI (pv 3) (pv 7)) IH EB))) (AS (AZ ((OQ X G B).q1 b (pv 5)))))))
theorem OS:K' P w mg base 2 "row_modulo" ["row", "prime"] Hh:=Ah (f:=115) (c:=114) (pm:=O_) (st:=Wy) X G λF=>K_ F (vJ ) λa b d e=>(AS (AZ ((OQ X G B).q1 a ((oI X G B).q2 a (pv 0) (pv 1)))))
theorem OT:K' P w mg base 2 "monic_modulo" ["row", "prime"] Hi:=Ah (f:=120) (c:=119) (pm:=O_) (st:=Wz) X G λF=>K_ F (vL ) λa b d e=>(AI (BQ (EW (Fe (pv 0) (λ_=>rfl))) (AS (AZ (CM AJ))) BO) (AI (DE (i:=2) b rfl (Or.inr rfl) ((oH X G B).q2 a (BR A3 (pv 0) (Bq Bt AG) (λ_ _=>rfl)) (pv 1))) (AS (AZ (C2 (N:=["whole", "prime", "factor"]) (capt:=[none,some 1,some 2]) rfl (BlkOk.of rfl rfl rfl rfl (ES.mpr ⟨rfl,(Ce.mpr rfl)⟩) rfl rfl rfl) (EZ (pv 0)) (λ_ _ _ _=>(Ao (i:=0) (show (["whole", "prime", "factor"]:List PySem.Str).Nodup by decide +kernel) rfl li)) (λ_ _ _ _=>(AQ Cz (AQ BI (pv 0) (pv 2)) (pv 1))))))))
theorem FO:K' P w mg base 2 "ratio" ["top", "bottom"] Dr:=Ah (f:=167) (c:=166) (pm:=aH) (st:=W8) X G λF=>K_ F (wT ) λb a d e=>(AI (C' a ((HB X G B).q2 b (pv 0) (pv 1))) (AI (BQ (cR II (pv 1) AG) (AS (C' a (Bq Bt (pv 2)))) BO) (AS (AZ (A8 (AD (AQ E7 (pv 0) (pv 2)) (AD (AQ E7 (pv 1) (pv 2)) AJ)))))))
theorem oO:K' P w mg base 2 "power" ["one", "n"] Kg:=Ah (f:=202) (c:=201) (pm:=aH) (st:=XD) X G λF=>K_ F (rB ) λa b d e=>(AI (C' b ((OP X G B).q2 a (xI Ae (pv 0)) (Ap IT rfl B.abs IQ (AD (pv 1) AJ)))) (AI (C' b ((OP X G B).q2 a (xI Ae (pv 0)) (Ap IT rfl B.abs IQ (AD (pv 1) AJ)))) (AI (BQ (cR Lc (pv 1) AG) (AS (AZ (A8 (AD (pv 2) (AD (pv 3) AJ))))) BO) (AI (BQ (cR II (pv 2) AG) (AS (AZ (A8 (AD (Bq Bt (pv 3)) (AD (Bq Bt (pv 2)) AJ))))) BO) (AS (AZ (A8 (AD (pv 3) (AD (pv 2) AJ)))))))))
theorem HC:K' P w mg base 2 "cleared" ["P"] El:=Ah (f:=214) (c:=213) (pm:=X_) (st:=XF) X G λF=>K_ F (wU ) λb a d e=>(AI (DE (i:=1) a rfl (Or.inr rfl) AG) (AI (CF PassesOwn.never rfl (Ea (pv 0)) (Ao (i:=2) a rfl li) (AS (FV (i:=1) a rfl (Or.inr rfl) (AQ Ic (xI Ff (pv 2)) ((HB X G B).q2 b (pv 1) (xI Ff (pv 2)))) Jt))) (AS (AZ (A8 (AD (C2 (N:=["number", "bottom"]) (capt:=[none,some 1]) rfl (BlkOk.of rfl rfl rfl rfl (Ce.mpr rfl) rfl rfl rfl) (Ea (pv 0)) (λ_ _ _ _=>(Ao (i:=0) (show (["number", "bottom"]:List PySem.Str).Nodup by decide +kernel) rfl li)) (λ_ _ _ _=>(AQ BI (xI Ff (pv 0)) (AQ Ic (pv 1) (xI Ff (pv 0)))))) (AD (pv 1) AJ)))))))
theorem oP:K' P w mg base 2 "f_number" ["c"] NA:=Ah (f:=309) (c:=308) (pm:=av) (st:=XX) X G λF=>K_ F (qQ ) λa b d e=>(AS (AZ ((LQ X G B).q1 a ((EJ X G B).q1 a (CM (AD (pv 0) AJ))))))
theorem LR:K' P w mg base 2 "spread" ["P", "n"] Hl:=Ah (f:=346) (c:=345) (pm:=ag) (st:=Xc) X G λF=>K_ F (rN ) λb a d e=>(AI (C' a (CM AJ)) (AI (CF PassesOwn.never rfl (Ea (pv 0)) (Ao (i:=3) a rfl li) (AS (IE (IL PySem.F.plainAttrs_list PySem.F.slot_list_extend PySem.F.type_list_extend O5 (pv 2) (AD (AQ Wb (CM (AD (pv 3) AJ)) (AQ HL (CM (AD (A8 (AD AG (AD AG AJ))) AJ)) (AQ BU (pv 1) AG))) AJ))))) (AS (AZ ((EJ X G B).q1 b (pv 2))))))
theorem Jc:K' P w mg base 2 "strand" ["P", "n", "i"] Gs:=Ah (f:=353) (c:=352) (pm:=ag) (st:=Xd) X G λF=>K_ F (rE ) λa b d e=>(AS (AZ ((EJ X G B).q1 a (Dk Yu rfl B.list Js (AD (ZU (pv 0) (pv 2) (pv 1)) AJ)))))
theorem oT:K' P w mg base 2 "_law_is_fraction" ["_law_found"] NE:=Ah (f:=441) (c:=440) (pm:=Z_) (st:=Xr) X G λF=>K_ F (qN ) λa b d e=>(AI (BQ (PW.pt (GS (EW (Ez (Ap IV rfl B.isinstance IS (AD (pv 0) (AD (ID rfl B.tuple Fb rfl) AJ))))) (GO (cR E3 (Ap EC rfl B.len BL (AD (pv 0) AJ)) AG)))) (AS (AZ EU)) BO) (AI (CF PassesOwn.never rfl (Ea (pv 0)) (Ao (i:=1) b rfl li) (AS (BQ (PW.pt (GS (EW (Ez (Ap IV rfl B.isinstance IS (AD (pv 1) (AD (ID rfl B.tuple Fb rfl) AJ))))) (GO (EW (Ez (Ap (Yv rfl) rfl B.all YL (AD (C2 (N:=["_law_one"]) (capt:=[none]) rfl (BlkOk.of rfl rfl rfl rfl (λ_ h=>nomatch h) rfl rfl rfl) (Ea (pv 1)) (λ_ _ _ _=>(Ao (i:=0) (show (["_law_one"]:List PySem.Str).Nodup by decide +kernel) rfl li)) (λ_ _ _ _=>((oN X G B).q1 a (pv 0)))) AJ))))))) (AS (AZ EU)) BO))) (AS (AZ EU))))
theorem VQ:K' P w mg base 3 "strand_shortened" ["strand"] Ir:=Ah (f:=82) (c:=81) (pm:=O_) (st:=Wt) X G λF=>K_ F (vQ ) λb a d e=>(AI (DE (i:=1) a rfl (Or.inr rfl) AG) (AI (CF PassesOwn.never rfl (EZ (pv 0)) (Ao (i:=2) a rfl li) (AS (DE (i:=1) a rfl (Or.inr rfl) ((VO X G B).q2 b (pv 2) (pv 1))))) (AS (AZ (C2 (N:=["row", "shared"]) (capt:=[none,some 1]) rfl (BlkOk.of rfl rfl rfl rfl (Ce.mpr rfl) rfl rfl rfl) (EZ (pv 0)) (λ_ _ _ _=>(Ao (i:=0) (show (["row", "shared"]:List PySem.Str).Nodup by decide +kernel) rfl li)) (λ_ _ _ _=>((VL X G B).q2 b (pv 0) (pv 1))))))))
theorem oU:K' P w mg base 3 "split_modulo" ["row", "divisor", "modulus"] KT:=Ah (f:=127) (c:=126) (pm:=O_) (st:=W2) X G λF=>K_ F (vP ) λb a d e=>(AI (C' a (Dk MF rfl B.list Js (AD (pv 0) AJ))) (AI (C' a (AQ BU (Ap CT rfl B.len BL (AD (pv 1) AJ)) AG)) (AI (C' a (AQ HL (CM (AD AG AJ)) (Ap (IU rfl) rfl B.max IR (AD (AQ BU (Ap CT rfl B.len BL (AD (pv 0) AJ)) (pv 4)) (AD AG AJ))))) (AI (CF PassesOwn.never rfl (MG rfl B.range (AD (AQ BU (AQ BU (Ap CT rfl B.len BL (AD (pv 0) AJ)) (pv 4)) AG) (AD (Bq Bt AG) (AD (Bq Bt AG) AJ)))) (Ao (i:=6) a rfl li) (AI (C' a (AQ Cz (BR A3 (pv 3) (AQ Br (pv 6) (pv 4)) (λ_ _=>rfl)) (pv 2))) (AI (IF (pv 7) (HG (pv 5) (pv 6) EB)) (AS (BQ (cR E3 (pv 7) AG) (AS (CF PassesOwn.never rfl (DT rfl B.range (AD (pv 4) AJ)) (Ao (i:=8) a rfl li) (AS (IG (pv 3) (AQ Br (pv 6) (pv 8)) Ia (AQ BI (pv 7) (BR A3 (pv 1) (pv 8) (λ_ _=>rfl))) IH EB)))) BO))))) (AS (AZ (A8 (AD ((OQ X G B).q1 b (pv 5)) (AD ((OS X G B).q2 b (HJ Jy (pv 3) HI (FX (pv 4))) (pv 2)) AJ)))))))))
theorem oV:K' P w mg base 3 "plus" ["one", "other"] Mz:=Ah (f:=174) (c:=173) (pm:=aH) (st:=W9) X G λF=>K_ F (tE ) λa b d e=>(AS (AZ ((FO X G B).q2 a (AQ Br (AQ BI (xI Ae (pv 0)) (xI Ae (pv 1))) (AQ BI (xI Ae (pv 1)) (xI Ae (pv 0)))) (AQ BI (xI Ae (pv 0)) (xI Ae (pv 1))))))
theorem VR:K' P w mg base 3 "minus" ["one", "other"] Ke:=Ah (f:=181) (c:=180) (pm:=aH) (st:=XA) X G λF=>K_ F (tF ) λa b d e=>(AS (AZ ((FO X G B).q2 a (AQ BU (AQ BI (xI Ae (pv 0)) (xI Ae (pv 1))) (AQ BI (xI Ae (pv 1)) (xI Ae (pv 0)))) (AQ BI (xI Ae (pv 0)) (xI Ae (pv 1))))))
theorem VS:K' P w mg base 3 "times" ["one", "other"] Iw:=Ah (f:=188) (c:=187) (pm:=aH) (st:=XB) X G λF=>K_ F (uP ) λa b d e=>(AS (AZ ((FO X G B).q2 a (AQ BI (xI Ae (pv 0)) (xI Ae (pv 1))) (AQ BI (xI Ae (pv 0)) (xI Ae (pv 1))))))
theorem VT:K' P w mg base 3 "over" ["one", "other"] Ix:=Ah (f:=195) (c:=194) (pm:=aH) (st:=XC) X G λF=>K_ F (uQ ) λa b d e=>(AS (AZ ((FO X G B).q2 a (AQ BI (xI Ae (pv 0)) (xI Ae (pv 1))) (AQ BI (xI Ae (pv 0)) (xI Ae (pv 1))))))
theorem LS:K' P w mg base 3 "uncleared" ["row", "bottom"] Gn:=Ah (f:=219) (c:=218) (pm:=X_) (st:=XG) X G λF=>K_ F (wV ) λa b d e=>(AS (AZ ((EJ X G B).q1 a (C2 (N:=["whole", "bottom"]) (capt:=[none,some 1]) rfl (BlkOk.of rfl rfl rfl rfl (Ce.mpr rfl) rfl rfl rfl) (EZ (pv 0)) (λ_ _ _ _=>(Ao (i:=0) (show (["whole", "bottom"]:List PySem.Str).Nodup by decide +kernel) rfl li)) (λ_ _ _ _=>((FO X G B).q2 a (pv 0) (pv 1)))))))
theorem OU:K' P w mg base 3 "_law_number" ["_law_source_here"] Ho:=Ah (f:=410) (c:=409) (pm:=Z_) (st:=Xm) X G λF=>K_ F (qH ) λa b d e=>(AI (C' b ((Ep X G B).q2 a (pv 0) AG)) (AI (BQ (cR II (pv 1) AG) (AS (AZ ((FO X G B).q2 a (AQ BU ((Ep X G B).q2 a (pv 0) AG) AG) AG))) BO) (AI (BQ (cR II (pv 1) AG) (AS (AZ ((FO X G B).q2 a (AQ BU ((Ep X G B).q2 a (pv 0) AG) AG) (AQ Br AG ((Ep X G B).q2 a (pv 0) AG))))) BO) (AS (AZ ((FO X G B).q2 a (AQ Br (AQ BU ((Ep X G B).q2 a (pv 0) (AQ BU (AQ BI AG (AQ Lu AG AG)) AG)) (AQ Lu AG AG)) AG) (AQ Br AG ((Ep X G B).q2 a (pv 0) (AQ Lu AG AG)))))))))
theorem oW:K' P w mg base 4 "strand_rest" ["strand", "other"] KQ:=Ah (f:=77) (c:=76) (pm:=O_) (st:=Ws) X G λF=>K_ F (vT ) λb a d e=>(AI (E2 PassesOwn.never (cR Lc (Ap CT rfl B.len BL (AD (xI A3 (pv 0)) AJ)) (Ap CT rfl B.len BL (AD (xI A3 (pv 1)) AJ))) (AI (DE (i:=2) a rfl (Or.inr rfl) (AQ BU (Ap CT rfl B.len BL (AD (xI A3 (pv 0)) AJ)) (Ap CT rfl B.len BL (AD (xI A3 (pv 1)) AJ)))) (AI (C' a (BR A3 (xI A3 (pv 0)) (Bq Bt AG) (λ_ _=>rfl))) (AI (C' a (BR A3 (xI A3 (pv 1)) (Bq Bt AG) (λ_ _=>rfl))) (AI (C' a ((HB X G B).q2 b (pv 3) (pv 4))) (AI (DE (i:=6) a rfl (Or.inr rfl) (AQ E7 (pv 4) (pv 5))) (AI (DE (i:=7) a rfl (Or.inr rfl) (AQ E7 (pv 3) (pv 5))) (AS (Ie (i:=0) (N:=["row", "follower", "factor", "weight", "shift"]) (capt:=[none,none,some 6,some 7,some 2]) a rfl li rfl (BlkOk.of rfl rfl rfl rfl (ES.mpr ⟨rfl,(ES.mpr ⟨rfl,(Ce.mpr rfl)⟩)⟩) rfl rfl rfl) (Y8 rfl B.zip (AD (pv 0) (AD (pv 1) AJ))) (λ_ _ _ _=>(Ef rfl (CW (Ao (i:=0) (show (["row", "follower", "factor", "weight", "shift"]:List PySem.Str).Nodup by decide +kernel) rfl li) (CW (Ao (i:=1) (show (["row", "follower", "factor", "weight", "shift"]:List PySem.Str).Nodup by decide +kernel) rfl li) EX)))) (λ_ _ _ _=>((VP X G B).pe b ∅ rfl (AD (pv 0) (AD (pv 2) (AD (pv 1) (AD (pv 3) (AD (pv 4) AJ)))))))))))))))) (AS (AZ ((VQ X G B).q1 b (pv 0)))))
theorem OV:K' P w mg base 4 "row_shortened" ["row"] Hg:=Ah (f:=89) (c:=88) (pm:=O_) (st:=Wu) X G λF=>K_ F (vS ) λa b d e=>(AS (AZ (xI A3 ((VQ X G B).q1 a (CM (AD (pv 0) AJ))))))
theorem oZ:K' P w mg base 4 "rest_modulo" ["row", "divisor", "modulus"] KU:=Ah (f:=134) (c:=133) (pm:=O_) (st:=W3) X G λF=>K_ F (vN ) λa b d e=>(AS (AZ (xI Ae ((oU X G B).q3 a (pv 0) (pv 1) (pv 2)))))
theorem VU:K' P w mg base 4 "p_plus" ["P", "Q"] JB:=Ah (f:=238) (c:=237) (pm:=X_) (st:=XJ) X G λF=>K_ F (tJ ) λa b d e=>(AS (AZ ((EJ X G B).q1 a (C2 (N:=["place", "P", "Q"]) (capt:=[none,some 0,some 1]) rfl (BlkOk.of rfl rfl rfl rfl (ES.mpr ⟨rfl,(Ce.mpr rfl)⟩) rfl rfl rfl) (DT rfl B.range (AD (Ap (IU rfl) rfl B.max IR (AD (Ap EC rfl B.len BL (AD (pv 0) AJ)) (AD (Ap EC rfl B.len BL (AD (pv 1) AJ)) AJ))) AJ)) (λ_ _ _ _=>(Ao (i:=0) (show (["place", "P", "Q"]:List PySem.Str).Nodup by decide +kernel) rfl li)) (λ_ _ _ _=>((oV X G B).q2 a ((LP X G B).q2 a (pv 1) (pv 0)) ((LP X G B).q2 a (pv 2) (pv 0))))))))
theorem nE:K' P w mg base 4 "p_minus" ["P", "Q"] Kf:=Ah (f:=243) (c:=242) (pm:=X_) (st:=XM) X G λF=>K_ F (tH ) λa b d e=>(AS (AZ ((EJ X G B).q1 a (C2 (N:=["place", "P", "Q"]) (capt:=[none,some 0,some 1]) rfl (BlkOk.of rfl rfl rfl rfl (ES.mpr ⟨rfl,(Ce.mpr rfl)⟩) rfl rfl rfl) (DT rfl B.range (AD (Ap (IU rfl) rfl B.max IR (AD (Ap EC rfl B.len BL (AD (pv 0) AJ)) (AD (Ap EC rfl B.len BL (AD (pv 1) AJ)) AJ))) AJ)) (λ_ _ _ _=>(Ao (i:=0) (show (["place", "P", "Q"]:List PySem.Str).Nodup by decide +kernel) rfl li)) (λ_ _ _ _=>((VR X G B).q2 a ((LP X G B).q2 a (pv 1) (pv 0)) ((LP X G B).q2 a (pv 2) (pv 0))))))))
theorem Dv:K' P w mg base 4 "p_times" ["P", "Q"] Ci:=Ah (f:=250) (c:=249) (pm:=X_) (st:=XN) X G λF=>K_ F (uS ) λa b d e=>(AI (C' b ((HC X G B).q1 a (pv 0))) (AI (C' b ((HC X G B).q1 a (pv 1))) (AS (AZ ((LS X G B).q2 a ((oE X G B).q2 a (xI Ae (pv 2)) (xI Ae (pv 3))) (AQ BI (xI Ae (pv 2)) (xI Ae (pv 3))))))))
theorem VV:K' P w mg base 4 "p_scaled" ["P", "c"] Iy:=Ah (f:=255) (c:=254) (pm:=X_) (st:=XO) X G λF=>K_ F (uT ) λa b d e=>(AS (AZ ((EJ X G B).q1 a (C2 (N:=["number", "c"]) (capt:=[none,some 1]) rfl (BlkOk.of rfl rfl rfl rfl (Ce.mpr rfl) rfl rfl rfl) (Ea (pv 0)) (λ_ _ _ _=>(Ao (i:=0) (show (["number", "c"]:List PySem.Str).Nodup by decide +kernel) rfl li)) (λ_ _ _ _=>((VS X G B).q2 a (pv 0) (pv 1)))))))
theorem nF:K' P w mg base 4 "p_split" ["P", "Q"] Kc:=Ah (f:=262) (c:=261) (pm:=X_) (st:=XQ) X G λF=>K_ F (uN ) λb a d e=>(AI (C' a ((HC X G B).q1 b (pv 0))) (AI (C' a ((HC X G B).q1 b (pv 1))) (AI (C' a (xI Ae (pv 2))) (AI (C' a (xI Ae (pv 2))) (AI (C' a (BR A3 (xI Ae (pv 3)) (Bq Bt AG) (λ_ _=>rfl))) (AI (C' a (AQ HL (CM (AD (A8 (AD AG (AD AG AJ))) AJ)) (Ap (IU rfl) rfl B.max IR (AD (AQ Br (AQ BU (Ap Zl rfl B.len BL (AD (pv 0) AJ)) (Ap EC rfl B.len BL (AD (pv 1) AJ))) AG) (AD AG AJ))))) (AI (E2 PassesOwn.never (cR Lc (Ap CT rfl B.len BL (AD (pv 4) AJ)) (Ap EC rfl B.len BL (AD (pv 1) AJ))) (AI (C' a (AQ BU (Ap CT rfl B.len BL (AD (pv 4) AJ)) (Ap EC rfl B.len BL (AD (pv 1) AJ)))) (AI (IF ((FO X G B).q2 b (AQ BI (BR A3 (pv 4) (Bq Bt AG) (λ_ _=>rfl)) (xI Ae (pv 3))) (AQ BI (pv 5) (pv 6))) (HG (pv 7) (pv 8) EB)) (AI (C' a ((HB X G B).q2 b (BR A3 (pv 4) (Bq Bt AG) (λ_ _=>rfl)) (pv 6))) (AI (C' a ((VP X G B).pe b ∅ rfl (AD (pv 4) (AD (AQ E7 (pv 6) (pv 9)) (AD (xI Ae (pv 3)) (AD (AQ E7 (BR A3 (pv 4) (Bq Bt AG) (λ_ _=>rfl)) (pv 9)) (AD (pv 8) AJ))))))) (AI (FV (i:=5) a rfl li (AQ E7 (pv 6) (pv 9)) Jt) (AI (C' a ((VO X G B).q2 b (pv 4) (pv 5))) (AI (C' a ((VL X G B).q2 b (pv 4) (pv 10))) (AS (FV (i:=5) a rfl li (pv 10) ZG)))))))))) (AS (AZ (A8 (AD ((EJ X G B).q1 b (pv 7)) (AD ((LS X G B).q2 b (pv 4) (pv 5)) AJ))))))))))))
theorem VW:K' P w mg base 4 "p_moved" ["P", "c"] JC:=Ah (f:=274) (c:=273) (pm:=X_) (st:=XS) X G λF=>K_ F (rA ) λb a d e=>(AI (C' a ((HC X G B).q1 b (pv 0))) (AI (DE (i:=3) a rfl (Or.inr rfl) (CM (AD AG AJ))) (AI (CF PassesOwn.never rfl (Ea (pv 0)) (Ao (i:=4) a rfl li) (AS (IE (IL PySem.F.plainAttrs_list PySem.F.slot_list_append PySem.F.type_list_append Lh (pv 3) (AD (AQ BI (BR A3 (pv 3) (Bq Bt AG) (λ_ _=>rfl)) (xI Ae (pv 1))) AJ))))) (AI (DE (i:=5) a rfl (Or.inr rfl) (AQ BU (Ap EC rfl B.len BL (AD (pv 0) AJ)) AG)) (AI (Ie (i:=6) (N:=["place", "whole", "scales", "last"]) (capt:=[none,none,some 3,some 5]) a rfl li rfl (BlkOk.of rfl rfl rfl rfl (ES.mpr ⟨rfl,(Ce.mpr rfl)⟩) rfl rfl rfl) (IW rfl B.enumerate (AD (xI Ae (pv 2)) AJ)) (λ_ _ _ _=>(Ef rfl (CW (Ao (i:=0) (show (["place", "whole", "scales", "last"]:List PySem.Str).Nodup by decide +kernel) rfl li) (CW (Ao (i:=1) (show (["place", "whole", "scales", "last"]:List PySem.Str).Nodup by decide +kernel) rfl li) EX)))) (λ_ _ _ _=>(AQ BI (pv 1) (BR A3 (pv 2) (AQ BU (pv 3) (pv 0)) (λ_ _=>rfl))))) (AI (C' a ((oF X G B).q2 b (pv 6) (xI Ae (pv 1)))) (AS (AZ ((LS X G B).q2 b (C2 (N:=["place", "whole", "scales"]) (capt:=[none,none,some 3]) rfl (BlkOk.of rfl rfl rfl rfl (Ce.mpr rfl) rfl rfl rfl) (IW rfl B.enumerate (AD (pv 7) AJ)) (λ_ _ _ _=>(Ef rfl (CW (Ao (i:=0) (show (["place", "whole", "scales"]:List PySem.Str).Nodup by decide +kernel) rfl li) (CW (Ao (i:=1) (show (["place", "whole", "scales"]:List PySem.Str).Nodup by decide +kernel) rfl li) EX)))) (λ_ _ _ _=>(AQ BI (pv 1) (BR A3 (pv 2) (pv 0) (λ_ _=>rfl))))) (AQ BI (xI Ae (pv 2)) (BR A3 (pv 3) (pv 5) (λ_ _=>rfl))))))))))))
theorem Jd:K' P w mg base 4 "stretched" ["P", "c"] FG:=Ah (f:=339) (c:=338) (pm:=ag) (st:=Xb) X G λF=>K_ F (rO ) λa b d e=>(AS (AZ ((EJ X G B).q1 a (C2 (N:=["place", "number", "c"]) (capt:=[none,none,some 1]) rfl (BlkOk.of rfl rfl rfl rfl (Ce.mpr rfl) rfl rfl rfl) (PQ rfl B.enumerate (AD (pv 0) AJ)) (λ_ _ _ _=>(Ef rfl (CW (Ao (i:=0) (show (["place", "number", "c"]:List PySem.Str).Nodup by decide +kernel) rfl li) (CW (Ao (i:=1) (show (["place", "number", "c"]:List PySem.Str).Nodup by decide +kernel) rfl li) EX)))) (λ_ _ _ _=>((VS X G B).q2 a (pv 1) ((oO X G B).q2 a (pv 2) (pv 0))))))))
theorem nG:K' P w mg base 4 "_law_kind" ["_law_source_here"] ND:=Ah (f:=417) (c:=416) (pm:=Z_) (st:=Xn) X G λF=>K_ F (qJ ) λa b e d=>(AI (C' b ((OU X G B).q1 a (pv 0))) (AI (BQ (cR (MD d) (pv 1) (A8 (AD AG (AD AG AJ)))) (AS (C' b (A8 (AD (AQ Br AG ((Ep X G B).q2 a (pv 0) AG)) (AD AG AJ))))) BO) (AS (AZ (A8 (AD (AQ Br AG ((Ep X G B).q2 a (pv 0) AG)) (AD (pv 1) (AD ((OU X G B).q1 a (pv 0)) AJ))))))))
theorem VX:K' P w mg base 4 "_law_poly" ["_law_source_here", "_law_most"] Kk:=Ah (f:=422) (c:=421) (pm:=Z_) (st:=Xo) X G λF=>K_ F (qU ) λa b d e=>(AS (AZ ((EJ X G B).q1 a (C2 (N:=["_law_k", "_law_source_here"]) (capt:=[none,some 0]) rfl (BlkOk.of rfl rfl rfl rfl (Ce.mpr rfl) rfl rfl rfl) (DT rfl B.range (AD (AQ Br AG ((Ep X G B).q2 a (pv 0) (AQ Br (pv 1) AG))) AJ)) (λ_ _ _ _=>(Ao (i:=0) (show (["_law_k", "_law_source_here"]:List PySem.Str).Nodup by decide +kernel) rfl li)) (λ_ _ _ _=>((OU X G B).q1 a (pv 1)))))))
theorem nH:K' P w mg base 5 "strand_euclid" ["strand", "other"] Iu:=Ah (f:=96) (c:=95) (pm:=O_) (st:=Wv) X G λF=>K_ F (vU ) λb a d e=>(AI (E2 PassesOwn.never (Fe (xI A3 (pv 1)) (λ_=>rfl)) (AI (BQ (cR Eb (Ap CT rfl B.len BL (AD (xI A3 (pv 1)) AJ)) AG) (AS (AZ (pv 1))) BO) (AI (C' a ((oW X G B).q2 b (pv 0) (pv 1))) (AI (C' a (pv 1)) (AS (C' a (pv 2))))))) (AS (AZ (pv 0))))
theorem nJ:K' P w mg base 5 "euclid_modulo" ["row", "other", "prime"] KW:=Ah (f:=141) (c:=140) (pm:=O_) (st:=W4) X G λF=>K_ F (vO ) λa b d e=>(AI (C' b ((OT X G B).q2 a ((OS X G B).q2 a (pv 0) (pv 2)) (pv 2))) (AI (C' b ((OT X G B).q2 a ((OS X G B).q2 a (pv 1) (pv 2)) (pv 2))) (AI (E2 PassesOwn.never (Fe (pv 1) (λ_=>rfl)) (AI (C' b ((oZ X G B).q3 a (pv 0) (pv 1) (pv 2))) (AI (C' b (pv 1)) (AS (C' b ((OT X G B).q2 a (pv 3) (pv 2))))))) (AS (AZ (pv 0))))))
theorem OW:K' P w mg base 5 "evened" ["P", "Q"] Hj:=Ah (f:=288) (c:=287) (pm:=av) (st:=XU) X G λF=>K_ F (uZ ) λa b d e=>(AI (C' b ((VT X G B).q2 a (A8 (AD AG (AD AG AJ))) (BR Ae (pv 1) (Bq Bt AG) (λ_ _=>rfl)))) (AS (AZ (A8 (AD ((VV X G B).q2 a (pv 0) (pv 2)) (AD ((VV X G B).q2 a (pv 1) (pv 2)) AJ))))))
theorem HD:K' P w mg base 5 "quotient" ["P", "Q"] EF:=Ah (f:=295) (c:=294) (pm:=av) (st:=XV) X G λF=>K_ F (uU ) λa b d e=>(AS (AZ (xI Ae ((nF X G B).q2 a (pv 0) (pv 1)))))
theorem VY:K' P w mg base 5 "in_root" ["kind", "P"] Ki:=Ah (f:=334) (c:=333) (pm:=ag) (st:=Xa) X G λF=>K_ F (rP ) λa b d e=>(AS (AZ ((LR X G B).q2 a ((VW X G B).q2 a ((Jd X G B).q2 a (pv 1) ((VT X G B).q2 a (A8 (AD AG (AD AG AJ))) (xI Ae (pv 0)))) ((VR X G B).q2 a (A8 (AD AG (AD AG AJ))) (xI Ae (pv 0)))) (xI Ae (pv 0)))))
theorem nK:K' P w mg base 5 "other_two" ["Q"] M7:=Ah (f:=384) (c:=383) (pm:=ag) (st:=Xi) X G λF=>K_ F (rT ) λa b d e=>(AI (Ie (i:=1) (N:=["i", "Q"]) (capt:=[none,some 0]) b rfl li rfl (BlkOk.of rfl rfl rfl rfl (Ce.mpr rfl) rfl rfl rfl) (DT rfl B.range (AD AG AJ)) (λ_ _ _ _=>(Ao (i:=0) (show (["i", "Q"]:List PySem.Str).Nodup by decide +kernel) rfl li)) (λ_ _ _ _=>((Dv X G B).q2 a ((VN X G B).q1 a (pv 0)) ((LR X G B).q2 a ((Jc X G B).q3 a (pv 1) AG (pv 0)) AG)))) (AI (C' b (A8 AJ)) (AI (CF PassesOwn.never rfl (DT rfl B.range (AD AG AJ)) (Ao (i:=3) b rfl li) (AS (C' b ((VU X G B).q2 a (pv 2) ((Dv X G B).q2 a (BR A3 (pv 1) (pv 3) (λ_ _=>rfl)) ((nE X G B).q2 a (BR A3 (pv 1) (pv 3) (λ_ _=>rfl)) (BR A3 (pv 1) (AQ BU (pv 3) AG) (λ_ _=>rfl)))))))) (AS (AZ (pv 2))))))
theorem nL:K' P w mg base 6 "common_by_prime" ["row", "other", "prime"] KZ:=Ah (f:=153) (c:=152) (pm:=O_) (st:=W6) X G λF=>K_ F (uB ) λa b d e=>(AI (DE (i:=3) b rfl (Or.inr rfl) ((HB X G B).q2 a (BR A3 (pv 0) (Bq Bt AG) (λ_ _=>rfl)) (BR A3 (pv 1) (Bq Bt AG) (λ_ _=>rfl)))) (AI (BQ (cR Eb (AQ Cz (pv 3) (pv 2)) AG) (AS (AZ GN)) BO) (AI (C' b ((nJ X G B).q3 a (pv 0) (pv 1) (pv 2))) (AI (C' b ((OV X G B).q1 a (C2 (N:=["whole", "prime", "lead"]) (capt:=[none,some 2,some 3]) rfl (BlkOk.of rfl rfl rfl rfl (ES.mpr ⟨rfl,(Ce.mpr rfl)⟩) rfl rfl rfl) (EZ (pv 4)) (λ_ _ _ _=>(Ao (i:=0) (show (["whole", "prime", "lead"]:List PySem.Str).Nodup by decide +kernel) rfl li)) (λ_ _ _ _=>((oJ X G B).q2 a (AQ BI (pv 2) (pv 0)) (pv 1)))))) (AI (BQ (PW.pt (GS (cR Oj ((VM X G B).q2 a (pv 0) (pv 5)) GN) (GO (cR Oj ((VM X G B).q2 a (pv 1) (pv 5)) GN)))) (AS (AZ GN)) BO) (AS (AZ (pv 5))))))))
theorem nM:K' P w mg base 6 "other_roots" ["Q", "n"] M6:=Ah (f:=379) (c:=378) (pm:=ag) (st:=Xh) X G λF=>K_ F (rX ) λa b d e=>(AI (BQ (cR Eb (pv 1) AG) (AS (AZ ((Jd X G B).q2 a (pv 0) (A8 (AD (Bq Bt AG) (AD AG AJ)))))) BO) (AI (BQ (cR Eb (pv 1) AG) (AS (AZ ((nK X G B).q1 a (pv 0)))) BO) (AI (C' b ((Jd X G B).q2 a (pv 0) (A8 (AD (Bq Bt AG) (AD AG AJ))))) (AI (C' b ((Jc X G B).q3 a ((Dv X G B).q2 a (pv 0) (pv 2)) AG AG)) (AS (AZ ((Dv X G B).q2 a (pv 2) ((LR X G B).q2 a ((Jd X G B).q2 a (pv 3) (A8 (AD (Bq Bt AG) (AD AG AJ)))) AG))))))))
theorem nO:K' P w mg base 6 "in_place" ["kind", "F"] M4:=Ah (f:=389) (c:=388) (pm:=ag) (st:=Xj) X G λF=>K_ F (rQ ) λa b d e=>(AI (Ie (i:=2) (N:=["P", "kind"]) (capt:=[none,some 0]) b rfl li rfl (BlkOk.of rfl rfl rfl rfl (Ce.mpr rfl) rfl rfl rfl) (Ea (pv 1)) (λ_ _ _ _=>(Ao (i:=0) (show (["P", "kind"]:List PySem.Str).Nodup by decide +kernel) rfl li)) (λ_ _ _ _=>((Jd X G B).q2 a ((VW X G B).q2 a (pv 0) (xI Ae (pv 1))) (xI Ae (pv 1))))) (AS (AZ ((OW X G B).q2 a (xI A3 (pv 2)) (xI A3 (pv 2))))))
theorem nU:K' P w mg base 7 "row_common" ["row", "other"] Ka:=Ah (f:=160) (c:=159) (pm:=O_) (st:=W7) X G λF=>K_ F (uG B.xEXPONENTS ) λa b d e=>(AI (C' b ((OV X G B).q1 a (pv 0))) (AI (C' b ((OV X G B).q1 a (pv 1))) (AI (BQ (PW.pt (Jg (Fe (pv 0) (λ_=>rfl)) (Jf (Fe (pv 1) (λ_=>rfl))))) (AS (CF PassesOwn.never rfl (Ea (Od rfl B.EXPONENTS rfl)) (Ao (i:=4) b rfl li) (AI (C' b ((nL X G B).q3 a (pv 2) (pv 3) (AQ BU ((OP X G B).q2 a AG (pv 4)) AG))) (AS (BQ (cR V2 (pv 5) GN) (AS (AZ (pv 5))) BO))))) BO) (AS (AZ (xI A3 ((nH X G B).q2 a (CM (AD (pv 2) AJ)) (CM (AD (pv 3) AJ)))))))))
theorem LU:K' P w mg base 8 "common" ["P", "Q"] Ft:=Ah (f:=269) (c:=268) (pm:=X_) (st:=XR) X G λF=>K_ F (uI ) λa b d e=>(AI (C' b ((nU X G B).q2 a (xI Ae ((HC X G B).q1 a (pv 0))) (xI Ae ((HC X G B).q1 a (pv 1))))) (AS (AZ (Jh (Fe (pv 2) (λ_=>rfl)) ((LS X G B).q2 a (pv 2) (BR A3 (pv 2) (Bq Bt AG) (λ_ _=>rfl))) (A8 AJ)))))
theorem Je:K' P w mg base 9 "fraction" ["P", "Q"] FE:=Ah (f:=281) (c:=280) (pm:=av) (st:=XT) X G λF=>K_ F (tS ) λa b d e=>(AI (C' b ((LU X G B).q2 a (pv 0) (pv 1))) (AS (AZ ((OW X G B).q2 a ((HD X G B).q2 a (pv 0) (pv 2)) ((HD X G B).q2 a (pv 1) (pv 2))))))
theorem OX:K' P w mg base 9 "f_plus" ["F", "G"] Gp:=Ah (f:=316) (c:=315) (pm:=av) (st:=XY) X G λF=>K_ F (sA ) λa b d e=>(AI (C' b ((LU X G B).q2 a (xI Ff (pv 0)) (xI Ae (pv 1)))) (AI (C' b ((HD X G B).q2 a (xI Ae (pv 1)) (pv 2))) (AI (C' b ((VU X G B).q2 a ((Dv X G B).q2 a (xI Ff (pv 0)) (pv 3)) ((Dv X G B).q2 a (xI Ae (pv 1)) ((HD X G B).q2 a (xI Ff (pv 0)) (pv 2))))) (AI (C' b ((LU X G B).q2 a (pv 4) (pv 2))) (AS (AZ (A8 (AD ((HD X G B).q2 a (pv 4) (pv 5)) (AD ((HD X G B).q2 a ((Dv X G B).q2 a (xI Ff (pv 0)) (pv 3)) (pv 5)) AJ)))))))))
theorem nV:K' P w mg base 9 "strands_common" ["Q", "n"] M5:=Ah (f:=372) (c:=371) (pm:=ag) (st:=Xg) X G λF=>K_ F (rR ) λb a d e=>(AI (C' a (A8 AJ)) (AI (CF PassesOwn.never rfl (DT rfl B.range (AD (pv 1) AJ)) (Ao (i:=3) a rfl li) (AS (C' a ((LU X G B).q2 b (pv 2) ((Jc X G B).q3 b (pv 0) (pv 1) (pv 3)))))) (AS (AZ (pv 2)))))
theorem OY:K' P w mg base 10 "f_times" ["F", "G"] Hk:=Ah (f:=323) (c:=322) (pm:=av) (st:=XZ) X G λF=>K_ F (tV ) λa b d e=>(AI (C' b ((Je X G B).q2 a (xI Ae (pv 0)) (xI Ae (pv 1)))) (AI (C' b ((Je X G B).q2 a (xI Ae (pv 1)) (xI Ae (pv 0)))) (AS (AZ (A8 (AD ((Dv X G B).q2 a (xI Ae (pv 2)) (xI Ae (pv 3))) (AD ((Dv X G B).q2 a (xI Ae (pv 2)) (xI Ae (pv 3))) AJ)))))))
theorem nW:K' P w mg base 10 "parted" ["kind", "g"] M8:=Ah (f:=365) (c:=364) (pm:=ag) (st:=Xf) X G λF=>K_ F (qC ) λa b d e=>(AI (DE (i:=2) b rfl (Or.inr rfl) (xI Ae (pv 0))) (AI (C' b ((nV X G B).q2 a (xI Ae (pv 1)) (pv 2))) (AI (C' b ((HD X G B).q2 a (xI Ae (pv 1)) ((LR X G B).q2 a (pv 3) (pv 2)))) (AI (C' b ((nM X G B).q2 a (pv 4) (pv 2))) (AI (DE (i:=6) b rfl (Or.inr rfl) ((Dv X G B).q2 a (pv 3) ((Jc X G B).q3 a ((Dv X G B).q2 a (pv 4) (pv 5)) (pv 2) AG))) (AI (DE (i:=7) b rfl (Or.inr rfl) ((Dv X G B).q2 a (xI Ae (pv 1)) (pv 5))) (AS (AZ (Dk IZ rfl B.tuple Fb (AD (C2 (N:=["i", "kind", "bottom", "top", "n"]) (capt:=[none,some 0,some 6,some 7,some 2]) rfl (BlkOk.of rfl rfl rfl rfl (ES.mpr ⟨rfl,(ES.mpr ⟨rfl,(ES.mpr ⟨rfl,(Ce.mpr rfl)⟩)⟩)⟩) rfl rfl rfl) (DT rfl B.range (AD (pv 2) AJ)) (λ_ _ _ _=>(Ao (i:=0) (show (["i", "kind", "bottom", "top", "n"]:List PySem.Str).Nodup by decide +kernel) rfl li)) (λ_ _ _ _=>((nO X G B).q2 a (pv 1) ((Je X G B).q2 a ((Jc X G B).q3 a (pv 3) (pv 4) (pv 0)) (pv 2))))) AJ))))))))))
theorem VZ:K' P w mg base 10 "_law_fraction" ["_law_source_here", "_law_top", "_law_bottom"] Kl:=Ah (f:=429) (c:=428) (pm:=Z_) (st:=Xp) X G λF=>K_ F (qV ) λa b e d=>(AI (C' b ((VX X G B).q2 a (pv 0) (pv 1))) (AI (C' b ((VX X G B).q2 a (pv 0) (pv 2))) (AI (BQ (cR (MD d) (pv 4) (A8 AJ)) (AS (C' b (A8 (AD (A8 (AD AG (AD AG AJ))) AJ)))) BO) (AS (AZ ((Je X G B).q2 a (pv 3) (pv 4)))))))
theorem LV:K' P w mg base 11 "joined" ["kind", "parts"] Hm:=Ah (f:=360) (c:=359) (pm:=ag) (st:=Xe) X G λF=>K_ F (rZ B.xNOUGHT ) λa b d e=>(AI (C' b (Od rfl B.NOUGHT rfl)) (AI (CF PassesOwn.never rfl (PQ rfl B.enumerate (AD (pv 1) AJ)) (Ef rfl (CW (Ao (i:=3) b rfl li) (CW (Ao (i:=4) b rfl li) EX))) (AI (C' b ((VY X G B).q2 a (pv 0) (xI Ae (pv 4)))) (AS (C' b ((OX X G B).q2 a (pv 2) ((OY X G B).q2 a ((LQ X G B).q1 a ((VN X G B).q1 a (pv 3))) ((OW X G B).q2 a ((VY X G B).q2 a (pv 0) (xI Ae (pv 4))) (pv 5)))))))) (AS (AZ (pv 2)))))
theorem nZ:K' P w mg base 11 "_law_round" ["_law_kind_here", "_law_parts"] NF:=Ah (f:=448) (c:=447) (pm:=Z_) (st:=Xs) X G λF=>K_ F (qZ ) λa b d e=>(AI (C' b ((LQ X G B).q1 a ((EJ X G B).q1 a (CM (AD (xI Ae (pv 0)) (AD (xI Ae (pv 0)) AJ)))))) (AS (AZ (AQ Ow (A8 (AD ((OY X G B).q2 a (BR Ae (pv 1) (Bq Bt AG) (λ_ _=>rfl)) (pv 2)) AJ)) (HJ Yx (pv 1) HI (FX (Bq Bt AG)))))))
theorem mC:K' P w mg base 12 "_law_right" ["_law_kind_here", "_law_parts", "_law_others"] Kn:=Ah (f:=453) (c:=452) (pm:=Z_) (st:=Xu) X G λF=>K_ F (pJ ) λa d e b=>(AI (C' d ((LV X G B).q2 a (pv 0) (pv 1))) (AI (BQ (PW.pt (GS (EW (Ez ((oT X G B).q1 a (pv 3)))) (GO (cR (ME b) (pv 3) ((Je X G B).q2 a (xI Ae (pv 3)) (xI Ae (pv 3))))))) (AS (AZ EU)) BO) (AI (BQ (cR (ME b) ((nW X G B).q2 a (pv 0) (pv 3)) (pv 1)) (AS (AZ EU)) BO) (AI (C' d (Dk IZ rfl B.tuple Fb (AD (C2 (N:=["_law_one", "_law_other"]) (capt:=[none,none]) rfl (BlkOk.of rfl rfl rfl rfl (λ_ h=>nomatch h) rfl rfl rfl) (Zk rfl B.zip (AD (pv 1) (AD (pv 2) AJ))) (λ_ _ _ _=>(Ef rfl (CW (Ao (i:=0) (show (["_law_one", "_law_other"]:List PySem.Str).Nodup by decide +kernel) rfl li) (CW (Ao (i:=1) (show (["_law_one", "_law_other"]:List PySem.Str).Nodup by decide +kernel) rfl li) EX)))) (λ_ _ _ _=>((OX X G B).q2 a (pv 0) (pv 1)))) AJ))) (AI (BQ (cR (ME b) ((LV X G B).q2 a (pv 0) (pv 4)) ((OX X G B).q2 a (pv 3) ((LV X G B).q2 a (pv 0) (pv 2)))) (AS (AZ EU)) BO) (AS (AZ (IJ (MD b) ((LV X G B).q2 a (pv 0) ((nZ X G B).q2 a (pv 0) (pv 1))) ((OY X G B).q2 a (pv 3) ((LQ X G B).q1 a (A8 (AD (A8 (AD AG (AD AG AJ))) (AD (A8 (AD AG (AD AG AJ))) AJ))))) (U_ _)))))))))
end
def all_mk {l:W.OpenLaw} {w:World} {h:Heap} {u:dq} {y:Addr} (X:(hp w.params).In h) (G:h.Ns mainGlobals u) (x:u "law" = some (.ref y))
  : ∃ z:FuncData,(∀ (s:Shared) (v:Value),BindsTo s z ⟨[v],[]⟩ [("_law_script", v)])/\∀ g:Heap,(hp w.params).In g->g.Ns mainGlobals u->FnOk l.prog w (hp w.params) u g aN 13 y z ["_law_script"] (KP (hp w.params)):=by
 have e:=x.symm.trans (W.mg_of X G (n := "law") (v:=.ref 460) (by kernel_rfl));cases e;have a:Gj (hp w.params)=15:=by kernel_rfl
 have b:∀ H:Hp,SqT (hp w.params) H (Gj (hp w.params)) (exps.map λe:Nat=>V.int (e:Int)):=λH=>.inr ⟨_,_,_,(show (hp w.params).lookup (Gj (hp w.params))=some ⟨.type "tuple", none,.seq #[(.int 61 189),(.int 127 190),(.int 521 191),(.int 1279 192),(.int 4423 193),(.int 9941 194),(.int 21701 195),(.int 44497 196)] 0,#[]⟩ by rw [a];kernel_rfl),rfl,rfl,by show 8<=sizeLine;rw [sizeLine_eq];decide,.cons ⟨_,rfl⟩ (.cons ⟨_,rfl⟩ (.cons ⟨_,rfl⟩ (.cons ⟨_,rfl⟩ (.cons ⟨_,rfl⟩ (.cons ⟨_,rfl⟩ (.cons ⟨_,rfl⟩ (.cons ⟨_,rfl⟩ (.nil))))))))⟩;have d:He (hp w.params)=327:=by kernel_rfl
 have j:∀ H:Hp,SqT (hp w.params) H 327 [.ref 324,.ref 326]:=λH=>.inr ⟨_,_,_,(show (hp w.params).lookup 327=some ⟨.type "tuple", none,.seq #[(R 324),(R 326)] 0,#[]⟩ by kernel_rfl),rfl,rfl,by show 2<=sizeLine;rw [sizeLine_eq];decide,.cons rfl (.cons rfl (.nil))⟩;have k:∀ H:Hp,SqT (hp w.params) H 324 []:=λH=>.inr ⟨_,_,_,(show (hp w.params).lookup 324=some ⟨.type "tuple", none,.seq #[] 0,#[]⟩ by kernel_rfl),rfl,rfl,by show 0<=sizeLine;rw [sizeLine_eq];decide,.nil⟩;have m:∀ H:Hp,SqT (hp w.params) H 326 [.ref 325]:=λH=>.inr ⟨_,_,_,(show (hp w.params).lookup 326=some ⟨.type "tuple", none,.seq #[(R 325)] 0,#[]⟩ by kernel_rfl),rfl,rfl,by show 1<=sizeLine;rw [sizeLine_eq];decide,.cons rfl (.nil)⟩;have o:∀ H:Hp,SqT (hp w.params) H 325 [.int 1,.int 1]:=λH=>.inr ⟨_,_,_,(show (hp w.params).lookup 325=some ⟨.type "tuple", none,.seq #[(.int 1 618),(.int 1 619)] 0,#[]⟩ by kernel_rfl),rfl,rfl,by show 2<=sizeLine;rw [sizeLine_eq];decide,.cons ⟨_,rfl⟩ (.cons ⟨_,rfl⟩ (.nil))⟩;have p:NOk (hp w.params):=⟨324,326,325,λH=>⟨by rw [d];exact j H,k H,m H,o H⟩⟩;have B:Bl (hp w.params) u:=⟨W.mg_none_of X G (by kernel_rfl),W.mg_none_of X G (by kernel_rfl),W.mg_none_of X G (by kernel_rfl),W.mg_none_of X G (by kernel_rfl),W.mg_none_of X G (by kernel_rfl),W.mg_none_of X G (by kernel_rfl),W.mg_none_of X G (by kernel_rfl),W.mg_none_of X G (by kernel_rfl),W.mg_none_of X G (by kernel_rfl),by rw [a];exact W.mg_of X G (by kernel_rfl),W.mg_none_of X G (by kernel_rfl),by rw [d];exact W.mg_of X G (by kernel_rfl),W.mg_none_of X G (by kernel_rfl),W.mg_none_of X G (by kernel_rfl),W.mg_none_of X G (by kernel_rfl),W.mg_none_of X G (by kernel_rfl),W.mg_none_of X G (by kernel_rfl),b,p⟩;have A:=OO (K:=hp w.params) (st:=Jq) (f:=460) (c:=459) (n := "law") (pm:=Z_) (by kernel_rfl) (by kernel_rfl) (by kernel_rfl);refine ⟨W.fnOf "law" "law" (Ed Jq) (Dl Jq) (Ch Jq) .none .none .none Z_ none (.ref 459) .none,λs v=>.of_eq rfl,λg KB _=>?_⟩;exact K_ A (pO ) λq r C D=>(AI (CF PassesOwn.never rfl (DT rfl B.range (AD AG AJ)) (Ao (i:=1) r rfl li) (AI (C' r ((oK X G B).q2 q (pv 0) (pv 1))) (AI (C' r ((nG X G B).q1 q (pv 2))) (AI (C' r (CM AJ)) (AI (C' r (CM AJ)) (AI (CF PassesOwn.never rfl (DT rfl B.range (AD (xI Ae (pv 3)) AJ)) (Ao (i:=6) r rfl li) (AI (IE (IL PySem.F.plainAttrs_list PySem.F.slot_list_append PySem.F.type_list_append Lh (pv 4) (AD ((VZ X G B).q3 q (pv 2) AG (BR A3 (CM (AD AG (AD AG (AD AG AJ)))) (AQ Br (Dk Lv rfl B.int Jr (AD (IJ EA (xI Ae (pv 3)) AG (U_ _)) AJ)) (Dk Lv rfl B.int Jr (AD (IJ EA (pv 6) AG (U_ _)) AJ))) (λ_ _=>rfl))) AJ))) (AS (IE (IL PySem.F.plainAttrs_list PySem.F.slot_list_append PySem.F.type_list_append Lh (pv 5) (AD (BR A3 (CM (AD ((oP X G B).q1 q (A8 (AD AG (AD AG AJ)))) (AD ((VZ X G B).q3 q (pv 2) AG (AQ BU AG (Dk Lv rfl B.int Jr (AD (IJ EA (pv 6) AG (U_ _)) AJ)))) AJ))) ((Ep X G B).q2 q (pv 2) AG) (λ_ _=>rfl)) AJ)))))) (AS (BQ (EW (Ez ((mC X G B).q3 q (pv 3) (Dk IZ rfl B.tuple Fb (AD (pv 4) AJ)) (Dk IZ rfl B.tuple Fb (AD (pv 5) AJ))))) (AS (AZ EU)) BO)))))))) (AS (AZ EU)))
def row_said {l:W.OpenLaw} (h:l.wellSaid=true):l.row.wellSaid=true:=by
 unfold W.OpenLaw.wellSaid at h;simp only [C9] at h;exact h.1.1.1.1.1.1.1.1.1.1.1.1.1.1.1.1.1.1
def walk {l:W.OpenLaw} {q:Program} {loose:dw} {XP:(dq)->Heap->Prop} {YP:World->Heap->Prop} {d:DefRec} {K:Params->W.Frag} (j:l.most=some 63) (e:d.params.defaults=[]) (m:importsNone q=true) (o:∀ w,(model l.prog w).prog.given.tree=none)
  (p:∀ (w:World) (h:Heap),YP w h->(K w.params).In h)
  (F:∀ (w:World) (c:dq) (g:Addr) (h:Heap),(K w.params).In h->h.Ns mainGlobals c->c d.name=some (.ref g)->
   ∃ i:FuncData,(∀ (s:Shared) (u:Value),BindsTo s i ⟨[u],[]⟩ [("_law_script", u)])/\∀ b:Heap,(K w.params).In b->b.Ns mainGlobals c->FnOk l.prog w (K w.params) c b aN 13 g i ["_law_script"] (KP (K w.params))) :
  W.WalkO q loose XP YP l.row.toRowW d [] (λf r=>PySem.call f r):=
 L2.walk_of (n:=63) (k:=13) (x := "_law_script") (CX:=λ_=>aN) (sp:=λw=>KP (K w.params)) j ∅ e m o ⟨rfl,∅,∅⟩ p F (λ_ _ a v y _ A=>⟨a,v,rfl,A,y,λ_=>rfl⟩) λ_ _ _ _ _ z=>z
end Bs
open PySem PySem.W PyProof.Rows
set_option maxRecDepth 100000 in
set_option maxHeartbeats 0 in
theorem PySem.Challenge.cw_backslope_k44_joined_then_parted_holds : PySem.Challenge.rw_backslope_k44_joined_then_parted.Holds := by
  have a : PySem.Challenge.rw_backslope_k44_joined_then_parted.wellSaid = true := Bs.Hd.sd;refine ⟨a, ?_⟩;refine W.holds_open (q := Bs.Hd.vw) (loose := Bs.Hd.lo) (Xt := fun s => W.xlAt Bs.Hd.vw [] s && W.recOk (W.RowW.records (W.OpenRow.toRowW (W.OpenLaw.row PySem.Challenge.rw_backslope_k44_joined_then_parted))) s) (XP := W.XL Bs.Hd.vw []) (Yf := Bs.Hd.hk.obs) (Ya := Bs.Hd.hk.val) (YP := Bs.Hd.hk.says) (N := 4446) Bs.Hd.left Bs.Hd.hk.of Bs.Hd.hk.keeps (fun s e => W.xl_of s (Bool.and_eq_true_iff.mp e).1) W.XL.keeps (by rfl) (by rfl) (by rfl) (fun s e => W.recFacts_of (Bool.and_eq_true_iff.mp e).2) (by rfl) (Bs.row_said a) (by decide +kernel) ⟨rfl, rfl, rfl, rfl, rfl, by decide +kernel⟩ ?hw ?hc
  case hw => w_witness2
  case hc => exact Bs.walk (l := PySem.Challenge.rw_backslope_k44_joined_then_parted) (K := Bs.Hd.hp) rfl rfl (by decide +kernel) (fun _ => rfl) (fun w h Y => Y) (fun w d f h c G b => Bs.all_mk c G b)
#print axioms PySem.Challenge.cw_backslope_k44_joined_then_parted_holds


