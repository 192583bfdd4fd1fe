import PyProof.Rows.All
import Wide.All
import OpenK.AllK
import Wide.FinOn
import Lean
import PyProof.EqAt
import PyProof.EqKinds
import PyProof.TupleCall
import PySem.Challenge.RW_backslope_k63_reduced
local macro_rules | `(()) => `(by grind)
local macro_rules | `(tactic| ext) => `(tactic| grind)
local macro_rules | `(⋯) => `(by omega)
local macro_rules | `(∅) => `(by decide)
set_option Elab.async false
set_option linter.all false
set_option maxRecDepth 100000
def sB:type_of% @if_neg:=@if_neg
def sC:type_of% @if_pos:=@if_pos
def sD:type_of% @of_decide_eq_true:=@of_decide_eq_true
def sE:type_of% @decide_eq_false:=@decide_eq_false
def sF:type_of% @PySem.wpAny_bind:=@PySem.wpAny_bind
def sG:type_of% @PySem.wpAny_pure:=@PySem.wpAny_pure
def sI:type_of% @PySem.wpAny_mono:=@PySem.wpAny_mono
def sJ:type_of% @Option.some.inj:=@Option.some.inj
def sK:type_of% @PySem.Heap.lt_size:=@PySem.Heap.lt_size
def sM:type_of% @congrFun:=@congrFun
def AL:type_of% @List.length_map:=@List.length_map
def AT:type_of% @List.getD_eq_getElem?_getD:=@List.getD_eq_getElem?_getD
def AU:type_of% @Nat.le_refl:=@Nat.le_refl
def AW:type_of% @Int.ne_of_gt:=@Int.ne_of_gt
def Ai:type_of% @Nat.zero_le:=@Nat.zero_le
def Aj:type_of% @List.getElem?_map:=@List.getElem?_map
def Aw:type_of% @List.getElem?_eq_getElem:=@List.getElem?_eq_getElem
def A7:type_of% @Nat.le_trans:=@Nat.le_trans
def BA:type_of% @List.mem_singleton:=@List.mem_singleton
def BD:type_of% @List.length_pos_iff:=@List.length_pos_iff
def BF:type_of% @Nat.lt_or_ge:=@Nat.lt_or_ge
def BG:type_of% @List.mem_map:=@List.mem_map
def BK:type_of% @List.length_range:=@List.length_range
def BN:type_of% @Nat.mul_le_mul:=@Nat.mul_le_mul
def BS:type_of% @Int.emod_nonneg:=@Int.emod_nonneg
def BV:type_of% @List.mem_of_getElem?:=@List.mem_of_getElem?
def BW:type_of% @Int.emod_lt_of_pos:=@Int.emod_lt_of_pos
def Bf:type_of% @List.size_toArray:=@List.size_toArray
def Bg:type_of% @Int.mul_ne_zero:=@Int.mul_ne_zero
def Bx:type_of% @List.mem_cons:=@List.mem_cons
def By:type_of% @Int.natAbs_mul:=@Int.natAbs_mul
def B8:type_of% @Nat.mul_le_mul_right:=@Nat.mul_le_mul_right
def CC:type_of% @List.getElem?_eq_none:=@List.getElem?_eq_none
def CG:type_of% @Nat.ne_of_lt:=@Nat.ne_of_lt
def CH:type_of% @List.mem_cons_self:=@List.mem_cons_self
def CI:type_of% @Nat.pow_succ:=@Nat.pow_succ
def CK:type_of% @List.getElem?_eq_some_iff:=@List.getElem?_eq_some_iff
def CL:type_of% @List.length_eq_zero_iff:=@List.length_eq_zero_iff
def CM:type_of% @Int.dvd_trans:=@Int.dvd_trans
def CN:type_of% @Int.natAbs_natCast:=@Int.natAbs_natCast
def CT:type_of% @List.length_take:=@List.length_take
def CZ:type_of% @Nat.lt_of_lt_of_le:=@Nat.lt_of_lt_of_le
def Ca:type_of% @List.mem_cons_of_mem:=@List.mem_cons_of_mem
def Cd:type_of% @Bool.false_ne_true:=@Bool.false_ne_true
def Ce:type_of% @Int.mul_pos:=@Int.mul_pos
def Cf:type_of% @List.length_cons:=@List.length_cons
def Cn:type_of% @Int.dvd_add:=@Int.dvd_add
def Co:type_of% @Int.dvd_zero:=@Int.dvd_zero
def Cz:type_of% @List.mem_append_right:=@List.mem_append_right
def C3:type_of% @Nat.mul_comm:=@Nat.mul_comm
def C4:type_of% @Int.natAbs_dvd_natAbs:=@Int.natAbs_dvd_natAbs
def C5:type_of% @Nat.mul_le_mul_left:=@Nat.mul_le_mul_left
def DB:type_of% @List.length_append:=@List.length_append
def DC:type_of% @List.map_append:=@List.map_append
def DE:type_of% @List.getElem?_range:=@List.getElem?_range
def DF:type_of% @Int.toNat_natCast:=@Int.toNat_natCast
def DG:type_of% @List.forall_mem_singleton:=@List.forall_mem_singleton
def DT:type_of% @Nat.lt_of_le_of_lt:=@Nat.lt_of_le_of_lt
def Dg:type_of% @Nat.lt_irrefl:=@Nat.lt_irrefl
def Dh:type_of% @List.length_replicate:=@List.length_replicate
def Di:type_of% @List.take_length:=@List.take_length
def Dj:type_of% @Int.dvd_refl:=@Int.dvd_refl
def Dq:type_of% @Nat.pow_le_pow_right:=@Nat.pow_le_pow_right
def Ds:type_of% @Nat.eq_zero_or_pos:=@Nat.eq_zero_or_pos
def Dt:type_of% @Int.le_of_lt:=@Int.le_of_lt
def Du:type_of% @Nat.add_mul:=@Nat.add_mul
def EB:type_of% @Nat.le_of_lt:=@Nat.le_of_lt
def EC:type_of% @List.mem_append:=@List.mem_append
def ED:type_of% @List.replicate_succ:=@List.replicate_succ
def EE:type_of% @Int.gcd_dvd_right:=@Int.gcd_dvd_right
def EF:type_of% @Nat.lt_succ_self:=@Nat.lt_succ_self
def ER:type_of% @List.getElem?_replicate:=@List.getElem?_replicate
def ES:type_of% @Int.fdiv_eq_ediv_of_nonneg:=@Int.fdiv_eq_ediv_of_nonneg
def ET:type_of% @Nat.le_of_dvd:=@Nat.le_of_dvd
def Ep:type_of% @Int.gcd_dvd_left:=@Int.gcd_dvd_left
def Er:type_of% @List.getElem_mem:=@List.getElem_mem
def Es:type_of% @List.getLast?_eq_getElem?:=@List.getLast?_eq_getElem?
def Et:type_of% @Rat.inv_mul_cancel:=@Rat.inv_mul_cancel
def FS:type_of% @Int.dvd_mul_of_dvd_right:=@Int.dvd_mul_of_dvd_right
def FT:type_of% @List.map_congr_left:=@List.map_congr_left
def FV:type_of% @List.take_add_one:=@List.take_add_one
def GD:type_of% @List.mem_append_left:=@List.mem_append_left
def GF:type_of% @List.getElem?_append_left:=@List.getElem?_append_left
def GH:type_of% @Int.dvd_mul_of_dvd_left:=@Int.dvd_mul_of_dvd_left
def GI:type_of% @List.mem_of_mem_take:=@List.mem_of_mem_take
def GJ:type_of% @Int.mul_ediv_cancel':=@Int.mul_ediv_cancel'
def HE:type_of% @Int.mul_ediv_cancel_left:=@Int.mul_ediv_cancel_left
def HF:type_of% @List.dropLast_concat_getLast:=@List.dropLast_concat_getLast
def IB:type_of% @Int.mul_le_mul_of_nonneg_left:=@Int.mul_le_mul_of_nonneg_left
abbrev cP:=List Int
abbrev cQ:=List PySem.Value
abbrev cS:=PySem.Value->PySem.Shared->Prop
abbrev cV:=List (PySem.Addr×PySem.Obj)
abbrev cW:=PySem.Str->Option PySem.Value
abbrev cZ:=List PySem.Expr
abbrev c_:=List PySem.Str
abbrev de:=List PySem.Addr
abbrev dh:=Nat->Int
abbrev di:=Nat->Rat
namespace L2
open PySem PySem.Spec PyProof.Rows
noncomputable abbrev aa:=Sum Int Str
noncomputable def NO:aa->Value->Bool
 | .inl k,v=>Value.isInt k v
 | .inr x,v=>Value.isStrOf x v
noncomputable def UI (w:World):aa->Int
 | .inl k=>hashInt k
 | .inr x=>hashStr w x
theorem Eu:∀ {k:aa} {v:Value},NO k v=true->(∃ i t,k=Sum.inl i/\v=Value.int i t)\/(∃ x t,k=Sum.inr x/\v=Value.str x t)
 | .inl i,v,h=>by
   obtain ⟨t,e⟩:=Value.isInt_shape (k:=i) (v:=v) h;exact .inl ⟨i,t,rfl,e⟩
 | .inr x,v,h=>by
   obtain ⟨t,e⟩:=Value.isStrOf_shape (x:=x) (v:=v) h;exact .inr ⟨x,t,rfl,e⟩
def UJ (a b:Int):decide ((Sum.inl a:aa)=Sum.inl b)=(a == b):=by
 by_cases e:a=b
 ·subst e;simp
 ·have h:¬ (Sum.inl a:aa)=Sum.inl b:=λq=>e (Sum.inl.inj q);rw [sE h];exact (beq_eq_false_iff_ne.mpr e).symm
def UK (a b:Str):decide ((Sum.inr a:aa)=Sum.inr b)=decide (a=b):=by
 by_cases e:a=b
 ·subst e;simp
 ·have h:¬ (Sum.inr a:aa)=Sum.inr b:=λq=>e (Sum.inr.inj q);rw [sE h,sE e]
def UL (a:Int) (b:Str):decide ((Sum.inl a:aa)=Sum.inr b)=false:=sE (λq=>nomatch q)
def UM (a:Str) (b:Int):decide ((Sum.inr a:aa)=Sum.inl b)=false:=sE (λq=>nomatch q)
noncomputable def Kr (prog:Program) (w:World):PySem.KeyKind prog w aa where
 is:=NO
 hash:=UI w
 inj:=λv a b g f=>by
  rcases Eu g with ⟨i,t,rfl,rfl⟩ | ⟨x,t,rfl,rfl⟩
  ·rcases Eu f with ⟨j,u,rfl,e⟩ | ⟨y,u,rfl,e⟩
   ·injection e with c _;rw [c]
   ·exact nomatch e
  ·rcases Eu f with ⟨j,u,rfl,e⟩ | ⟨y,u,rfl,e⟩
   ·exact nomatch e
   ·injection e with c _;rw [c]
 byValue:=λk v h=>by
  rcases Eu h with ⟨i,t,rfl,rfl⟩ | ⟨x,t,rfl,rfl⟩ <;> rfl
 pyHash:=λd h=>by
  rcases Eu d with ⟨i,t,rfl,rfl⟩ | ⟨x,t,rfl,rfl⟩
  ·exact wpAny_pyHash_int h
  ·exact wpAny_pyHash_str h
 eqBool:=λm d h=>by
  rcases Eu m with ⟨i,t,rfl,rfl⟩ | ⟨x,t,rfl,rfl⟩
  ·rcases Eu d with ⟨j,u,rfl,rfl⟩ | ⟨y,u,rfl,rfl⟩
   ·rw [UJ] at h;exact wpAny_eqBool_int h
   ·rw [UL] at h;exact SeqAt.EqAt.int_str i t y u _ _ _ _ h
  ·rcases Eu d with ⟨j,u,rfl,rfl⟩ | ⟨y,u,rfl,rfl⟩
   ·rw [UM] at h;exact SeqAt.EqAt.str_int x t j u _ _ _ _ h
   ·rw [UK] at h;exact wpAny_eqBool_str h
 «strs»:=λk x t v h=>by
  rcases Eu h with ⟨i,u,rfl,e⟩ | ⟨y,u,rfl,e⟩
  ·exact nomatch e
  ·injection e with c _
   subst c
   cases v <;> rfl
inductive V where
 | non | bl (b:Bool) | int (i:Int) | str (x:Str) | byt (b:Array UInt8) | flt (b:UInt64) | ref (a:Addr) | ty (n:String)
 deriving DecidableEq
noncomputable def RelV:V->Value->Prop
 | .non,u=>u=Value.none
 | .bl b,u=>u=Value.bool b
 | .int i,u=>∃ t,u=Value.int i t
 | .str x,u=>∃ t,u=Value.str x t
 | .byt b,u=>∃ t,u=Value.bytes b t
 | .flt b,u=>∃ t,u=Value.float b t
 | .ref a,u=>u=Value.ref a
 | .ty n,u=>u=Value.type n
abbrev Vals:List V->cQ->Prop:=Paired RelV
def Vals.length {xs:List V} {a:cQ} (r:Vals xs a):xs.length=a.length:=Paired.length r
theorem Vals.get:∀ {xs:List V} {a:cQ} {i:Nat} {x:V},Vals xs a->xs[i]?=some x->∃ u,a[i]?=some u/\RelV x u
 | _,_,_,_,.nil,e=>by simp at e
 | _,_,0,_,.cons r _,e=>by simp at e;subst e;exact ⟨_,rfl,r⟩
 | _,_,i+1,x,.cons _ t,e=>by
   obtain ⟨u,b,c⟩:=Vals.get (i:=i) (x:=x) t (by simpa using e);exact ⟨u,by simpa using b,c⟩
theorem Vals.set {x:V} {u:Value} (r:RelV x u):∀ {xs:List V} {a:cQ} (i:Nat),Vals xs a->Vals (xs.set i x) (a.set i u)
 | _,_,_,.nil=>.nil
 | _,_,0,.cons _ t=>.cons r t
 | _,_,i+1,.cons q t=>.cons q (Vals.set r i t)
theorem Vals.append:∀ {xs a:List V} {b c:cQ},Vals xs b->Vals a c->Vals (xs++a) (b++c)
 | _,_,_,_,.nil,s=>s
 | _,_,_,_,.cons r t,s=>.cons r (Vals.append t s)
theorem Vals.take:∀ {xs:List V} {a:cQ} (n:Nat),Vals xs a->Vals (xs.take n) (a.take n)
 | _,_,0,_=>.nil
 | _,_,_+1,.nil=>.nil
 | _,_,n+1,.cons r t=>.cons r (Vals.take n t)
theorem Vals.drop:∀ {xs:List V} {a:cQ} (n:Nat),Vals xs a->Vals (xs.drop n) (a.drop n)
 | _,_,0,r=>r
 | _,_,_+1,.nil=>.nil
 | _,_,n+1,.cons _ t=>Vals.drop n t
noncomputable def Ks:Option V->Option Value->Prop
 | some v,some u=>RelV v u
 | none,none=>True
 | _,_=>False
def KV {a:Type}:List (a×V)->List (a×Value)->Prop:=Paired λ(p:a×V) (q:a×Value)=>p.1=q.1/\RelV p.2 q.2
noncomputable def kV:aa->V
 | .inl i=>.int i
 | .inr x=>.str x
inductive HO where

 | lst (xs:List V)

 | tup (xs:List V)

 | dK (kvs:List (aa×V)) | dT (kvs:List (List aa×V))

 | set (S:Int->Bool) (n:Nat)

 | ins (C dx:Addr) (fs:List (Str×V))

 | own (x:Addr)

 | xd (fs:List (Str×V))

 | met (f x:Addr)

 | rng (lo hi:Int)

 | frz (o:Obj) (u:HO)

 | tbl (ps:Array Value)

 | ext (φ:Heap->Prop)
noncomputable abbrev Hp:=Addr->Option HO
abbrev cO:=Option V
abbrev cN:=List V
noncomputable def upd (H:Hp) (a:Addr) (o:HO):Hp:=λb=>if b=a then some o else H b
def upd_same {H:Hp} {a:Addr} {o:HO}:upd H a o a=some o:=by unfold upd;rw [sC rfl]
def A3 {H:Hp} {a b:Addr} {o:HO} (h:b≠a):upd H a o b=H b:=by unfold upd;rw [sB h]
def NP {H:Hp} {a b:Addr} {o u:HO} (h:H a=some o) (h':H b=some u) (d:o≠u):a≠b:=by
 intro e;subst e;rw [h] at h';exact d (sJ h')
def B6 {H:Hp} {a b:Addr} {o:HO} (h:H a=some o) (h':H b=none):a≠b:=by
 intro e;subst e;rw [h] at h';cases h'
section
variable (P:Program) (w:World)
noncomputable def ObjOk (H:Hp) (h:Heap) (a:Addr):HO->Prop
 | .lst c=>c.length<=sizeLine/\∃ (its:cQ) (n:Nat),Vals c its/\h.get? a=some { cls:=.type "list", data:=.seq its.toArray n }
 | .tup c=>c.length<=sizeLine/\∃ its:cQ,Vals c its/\IsTup h a its.toArray
 | .dK b=>b.length<=sizeLine/\(a == sysModules)=false/\∃ j,KV b j/\h.DictOf (Kr P w) a j
 | .dT b=>b.length<=sizeLine/\(a == sysModules)=false/\∃ c:List (List aa×Addr×Value),
   Paired (λ(p:List aa×V) (q:List aa×Addr×Value)=>p.1=q.1/\H q.2.1=some (.tup (p.1.map kV))/\RelV p.2 q.2.2) b c/\
   ∃ o k y,h.get? a=some o/\o.ExactDict/\o.data=.dict k y/\k.toList=c.map (entryOfKey (tupleKind (Kr P w)))/\(c.map (·.1)).Nodup
 | .set S n=>h.SetOf (intKind P w) a S n
 | .ins C g e=>H g=some (.own a)/\e.length<=1000/\g≠a/\h.get? a=some (W.instObj C g)/\
   ∃ d,h.Ns1 g d/\(∀ f,Ks (e.lookup f) (d f))/\PySem.Within d (e.map (·.1))
 | .own _=>∃ o,h.get? a=some o
 | .xd e=>∃ d,h.Ns1 a d/\∀ f,Ks (e.lookup f) (d f)
 | .rng lo z=>∃ t u v,h.get? a=some { cls:=.type "range", data:=.fields #[.int lo t,.int z u,.int 1 v] }
 | .frz o u=>h.get? a=some o/\ObjOk H h a u
 | .tbl ps=>h.get? a=some { cls:=.none,data:=.fields ps }
 | .met f x=>h.get? a=some (W.methodObj (.ref f) (.ref x))
 | .ext i=>i h/\(∃ o,h.get? a=some o)/\∀ m r:Heap,i m->(∀ o,m.get? a=some o->r.get? a=some o)->i r
def HOk (H:Hp) (h:Heap):Prop:=∀ a o,H a=some o->ObjOk P w H h a o
end
section
variable {P:Program} {w:World} {H H':Hp} {h h':Heap} {a:Addr} {o:HO}
theorem ObjOk.lt (x:ObjOk P w H h a o):a<h.objs.size:=by
 cases o with
 | lst c=>obtain ⟨_,_,_,_,e⟩:=x;exact sK e
 | tup c=>obtain ⟨_,_,_,p⟩:=x;exact p.lt
 | dK b=>obtain ⟨_,_,_,_,o,_,_,e,_⟩:=x;exact sK e
 | dT b=>obtain ⟨_,_,_,_,o,_,_,e,_⟩:=x;exact sK e
 | set S n=>obtain ⟨o,_,_,_,e,_⟩:=x;exact sK e
 | ins C g d=>obtain ⟨_,_,_,e,_⟩:=x;exact sK e
 | own y=>obtain ⟨_,e⟩:=x;exact sK e
 | xd d=>obtain ⟨_,⟨_,_,_,e,_⟩,_⟩:=x;exact sK e
 | rng lo i=>obtain ⟨_,_,_,e⟩:=x;exact sK e
 | frz j u=>obtain ⟨e,_⟩:=x;exact sK e
 | tbl ps=>exact sK (show h.get? a=some _ from x)
 | met f y=>exact sK (show h.get? a=some _ from x)
 | ext k=>obtain ⟨_,⟨_,e⟩,_⟩:=x;exact sK e
theorem Paired.mapP {e g:Type} {F G:e->g->Prop}:∀ {c:List e} {d:List g},Paired F c d->(∀ a b,F a b->G a b)->Paired G c d
 | _,_,.nil,_=>.nil
 | _,_,.cons r t,f=>.cons (f _ _ r) (Paired.mapP t f)
theorem ObjOk.stay (x:ObjOk P w H h a o) (k:∀ b u,(b=a\/H b=some (.own a))->h.get? b=some u->h'.get? b=some u)
  (G:∀ b,H b=some (.own a)->H' b=some (.own a)) (I:∀ b A,H b=some (.tup A)->H' b=some (.tup A)):ObjOk P w H' h' a o:=by
 induction o with
 | lst A=>obtain ⟨z,m,n,r,e⟩:=x;exact ⟨z,m,n,r,k _ _ (.inl rfl) e⟩
 | tup A=>obtain ⟨z,m,r,g,e,c⟩:=x;exact ⟨z,m,r,g,k _ _ (.inl rfl) e,c⟩
 | dK B=>obtain ⟨z,y,J,r,g,i,j,e,c⟩:=x;exact ⟨z,y,J,r,g,i,j,k _ _ (.inl rfl) e,c⟩
 | dT B=>
   obtain ⟨z,y,A,r,g,i,j,e,c⟩:=x;exact ⟨z,y,A,Paired.mapP r λp q z=>⟨z.1,I _ _ z.2.1,z.2.2⟩,g,i,j,k _ _ (.inl rfl) e,c⟩
 | set S n=>obtain ⟨g,i,j,t,e,c⟩:=x;exact ⟨g,i,j,t,k _ _ (.inl rfl) e,c⟩
 | ins C O K=>
   obtain ⟨d,z,L,e,D,⟨E,i,j,M,c⟩,r⟩:=x;exact ⟨G _ d,z,L,k _ _ (.inl rfl) e,D,⟨E,i,j,k _ _ (.inr d) M,c⟩,r⟩
 | own y=>obtain ⟨g,e⟩:=x;exact ⟨g,k _ _ (.inl rfl) e⟩
 | xd K=>obtain ⟨D,⟨E,i,j,e,c⟩,r⟩:=x;exact ⟨D,⟨E,i,j,k _ _ (.inl rfl) e,c⟩,r⟩
 | rng lo Q=>obtain ⟨t,u,v,e⟩:=x;exact ⟨t,u,v,k _ _ (.inl rfl) e⟩
 | frz g u N=>obtain ⟨e,q⟩:=x;exact ⟨k _ _ (.inl rfl) e,N q⟩
 | tbl ps=>
   have e:h.get? a=some { cls:=.none,data:=.fields ps }:=x;show h'.get? a=some { cls:=.none,data:=.fields ps };exact k a _ (.inl rfl) e
 | met f y=>
   have e:h.get? a=some (W.methodObj (.ref f) (.ref y)):=x;show h'.get? a=some (W.methodObj (.ref f) (.ref y));exact k a _ (.inl rfl) e
 | ext R=>obtain ⟨p,⟨o,e⟩,F⟩:=x;exact ⟨F _ _ p λo q=>k _ _ (.inl rfl) q,⟨o,k _ _ (.inl rfl) e⟩,F⟩
def HOk.lt (x:HOk P w H h) (e:H a=some o):a<h.objs.size:=(x a o e).lt
theorem HOk.fresh (x:HOk P w H h) (e:h.objs.size<=a):H a=none:=by
 cases q:H a with
 | none=>rfl
 | some u=>exact absurd (CZ (x.lt q) e) (Dg _)
def HOk.kept (x:HOk P w H h) (k:∀ b u,h.get? b=some u->h'.get? b=some u):HOk P w H h':=λa o e=>
 (x a o e).stay (λb u _ q=>k b u q) (λ_ q=>q) λ_ _ q=>q
def HOk.laid (x:HOk P w H h) (k:∀ b u,h.get? b=some u->h'.get? b=some u) (hp:h.objs.size<=a) (d:ObjOk P w (upd H a o) h' a o):HOk P w (upd H a o) h':=λb u e=>by
 have f:=x.fresh hp;by_cases g:b=a
 ·subst g;rw [upd_same] at e;cases e;exact d
 ·rw [A3 g] at e;exact (x b u e).stay (λc v _ q=>k c v q) (λc q=>by rw [A3 (B6 q f)];exact q) λc i q=>by rw [A3 (B6 q f)];exact q
end
def Rd (H:Hp) (a:Addr) (u:HO):Prop:=H a=some u\/∃ o,H a=some (.frz o u)
def Rd.ok {P:Program} {w:World} {H:Hp} {h:Heap} {a:Addr} {u:HO} (r:Rd H a u) (x:HOk P w H h):ObjOk P w H h a u:=by
 rcases r with r | ⟨o,r⟩
 ·exact x a u r
 ·obtain ⟨_,q⟩:=x a _ r;exact q
noncomputable def b_:Option HO->Prop
 | some (.lst _)=>True
 | some (.dK _)=>True
 | some (.dT _)=>True
 | some (.set _ _)=>True
 | some (.ins _ _ _)=>True
 | some (.ext _)=>True
 | _=>False
section
variable {P:Program} {w:World} {H:Hp} {h h':Heap} {x e:Addr} {o':HO}
def HOk.write (ok:HOk P w H h) (g:b_ (H x)) (p:e=x\/H e=some (.own x)) (k:∀ b u,b≠e->h.get? b=some u->h'.get? b=some u) (n:∃ u,h'.get? e=some u)
  (o:ObjOk P w (upd H x o') h' x o'):HOk P w (upd H x o') h':=λb u q=>by
 have d:∀ c y,H c=some (.own y)->c≠x:=λc y r z=>by subst z;rw [r] at g;exact g
 have f:∀ c i,H c=some (.tup i)->c≠x:=λc i r z=>by subst z;rw [r] at g;exact g
 by_cases j:b=x
 ·subst j;rw [upd_same] at q;cases q;exact o
 ·rw [A3 j] at q;by_cases a:b=e
  ·have A:H b=some (.own x):=by
    rcases p with z | z
    ·exact absurd (a.trans z) j
    ·rw [a];exact z
   rw [q] at A;cases A;obtain ⟨v,B⟩:=n;exact ⟨v,by rw [a];exact B⟩
  ·refine (ok b u q).stay (λc v m r=>k c v ?_ r) (λc r=>by rw [A3 (d c b r)];exact r) λc i r=>by rw [A3 (f c i r)];exact r
   rcases m with rfl | m
   ·exact a
   ·rintro rfl;rcases p with z | z
    ·exact d c b m z
    ·rw [m] at z;cases z;exact j rfl
end
structure Un (fs ex:de) (H H':Hp) (h h':Heap):Prop where
 keep:∀ b o,h.get? b=some o->H b=none->b∉fs->b∉ex->h'.get? b=some o
 slot:∀ b o,h.get? b=some o->H b=none->b∈fs->b∉ex->∃ sl,h'.get? b=some { o with slots:=sl }
 free:∀ b o,h.get? b=some o->H b=none->b∉ex->H' b=none
 there:∀ b o,h.get? b=some o->b∉ex->∃ o',h'.get? b=some o'
 tups:∀ b xs,H b=some (.tup xs)->H' b=some (.tup xs)
 frzs:∀ b o u,H b=some (.frz o u)->H' b=some (.frz o u)
 tbls:∀ b ps,H b=some (.tbl ps)->∃ more,H' b=some (.tbl (ps++more))
section
variable {fs fs' ex ex':de} {H H1 H2:Hp} {h h1 h2 h':Heap} {a x e:Addr} {o:HO}
def Un.any (u:Un fs ex H H1 h h1) {b:Addr} {c:Obj} (q:h.get? b=some c) (n:H b=none) (f:b∉ex):∃ i,h1.get? b=some { c with slots:=i }:=by
 by_cases g:b∈fs
 ·exact u.slot b c q n g f
 ·exact ⟨c.slots,u.keep b c q n g f⟩
def Un.kept (k:∀ b u,h.get? b=some u->h'.get? b=some u):Un fs ex H H h h':=
 ⟨λb c q _ _ _=>k b c q,λb c q _ _ _=>⟨c.slots,k b c q⟩,λ_ _ _ n _=>n,λb c q _=>⟨c,k b c q⟩,λ_ _ q=>q,λ_ _ _ q=>q,λ_ ps q=>⟨#[],by rw [q];simp⟩⟩
def Un.refl:Un fs ex H H h h:=Un.kept λ_ _ q=>q
def Un.laid (k:∀ b u,h.get? b=some u->h'.get? b=some u) (hp:h.objs.size<=a) (c:H a=none):Un fs ex H (upd H a o) h h' where
 keep:=λb u q _ _ _=>k b u q
 slot:=λb u q _ _ _=>⟨u.slots,k b u q⟩
 free:=λb u q n _=>by rw [A3 (CG (CZ (sK q) hp))];exact n
 there:=λb u q _=>⟨u,k b u q⟩
 tups:=λb d q=>by rw [A3 (B6 q c)];exact q
 frzs:=λb u d q=>by rw [A3 (B6 q c)];exact q
 tbls:=λb ps q=>⟨#[],by rw [A3 (B6 q c),q];simp⟩
def Un.write (d:b_ (H x)) (m:e=x\/H e=some (.own x)) (k:∀ b u,b≠e->h.get? b=some u->h'.get? b=some u) (f:∃ u,h'.get? e=some u):Un fs ex H (upd H x o) h h':=by
 have i:∀ b,H b=none->b≠x:=λb n z=>by subst z;rw [n] at d;exact d
 have j:∀ b,H b=none->b≠e:=λb n z=>by
  subst z;rcases m with r | r
  ·exact i b n r
  ·rw [n] at r;cases r
 have g:∀ b u,H b=some u->¬ b_ (some u)->b≠x:=λb u q p z=>by subst z;rw [q] at d;exact p d
 refine ⟨λb u q n _ _=>k b u (j b n) q,λb u q n _ _=>⟨u.slots,k b u (j b n) q⟩,λb u q n _=>by rw [A3 (i b n)];exact n,λb u q _=>?_,
  λb v q=>by rw [A3 (g b _ q λz=>z)];exact q,λb u v q=>by rw [A3 (g b _ q λz=>z)];exact q,λb ps q=>⟨#[],by rw [A3 (g b _ q λz=>z),q];simp⟩⟩
 by_cases c:b=e
 ·subst c;exact f
 ·exact ⟨u,k b u c q⟩
end
noncomputable def ca (h:Heap) (H:Hp):de:=(List.range h.objs.size).filter λa=>(H a).isSome
noncomputable def EU (h:Heap) (H:Hp):Heap:=W.hideAll h (ca h H)
def UN (h:Heap) (H:Hp):(EU h H).objs.size=h.objs.size:=W.hideAll_size _ _
def UO {h:Heap} {H:Hp} {b:Addr} {o:Obj} (e:h.get? b=some o) (n:H b=none):(EU h H).get? b=some o:=
 W.hideAll_get _ e λa=>by
  have q:(H b).isSome=true:=(List.mem_filter.mp a).2;rw [n] at q;simp at q
theorem UP {h:Heap} {H:Hp} {b:Addr} {o:Obj} (e:(EU h H).get? b=some o):h.get? b=some o/\H b=none:=by
 have a:h.get? b=some o:=W.of_hideAll (ca h H) e;refine ⟨a,?_⟩;cases q:H b with
 | none=>rfl
 | some x=>
   have c:b∈ca h H:=List.mem_filter.mpr ⟨List.mem_range.mpr (sK a),by simp [q]⟩;have z:(EU h H).get? b=none:=W.hideAll_none (ca h H) c;rw [z] at e;cases e
noncomputable def UQ (g h:Heap) (L:Addr):cV:=(List.range h.objs.size).filterMap λa=>if a=L\/(g.get? a).isSome=true then none else (h.get? a).map λo=>(a,o)
noncomputable def rest (g h:Heap) (L d:Addr):cV:=(UQ g h L).filter λp=>decide (p.1≠d)
structure Mod (K:W.Frag) (mg:cW) (base:Heap):Prop where
 kin:K.In base
 glob:base.Ns mainGlobals mg
 blt:∃ mb,base.Ns builtinsNs mb/\∀ x:Str,x ≠ "__name__" -> mb x=bootBuiltins x
 nolimit:base.NoLimit
structure Cx where
 prog:Program
 w:World
 K:W.Frag
 mg:cW
 base:Heap
 A:Around
 N:c_
 s₀:Shared
 H₀:Hp
 env:Env
 outer:List Env
 stack:List Env
 ex:de
 fn:Str->Bool
 calm:Bool
 pn:cV
 xe:cS
noncomputable def aw (l:List Env):de:=l.filterMap (·.frame)
noncomputable abbrev Cx.fs (X:Cx):de:=aw X.outer
def bH (a:Scope) (x:Str):Prop:=a.names.lookup x=some .local\/a.names.lookup x=some .cell\/a.names.lookup x=some .free
def aR (a:Scope) (x:Str):Prop:=a.names.lookup x=some .local\/a.names.lookup x=some .cell
def Look (a:Env) (h:Heap) (m:cW) (x:Str) (u:Value):Prop:=
 (a.kindOf x=some .local/\m x=some u)\/((a.kindOf x=some .cell\/a.kindOf x=some .free)/\∃ c,a.cells.lookup x=some c/\h.IsCell c (some u))
structure Cx.Ok (X:Cx):Prop where
 mod:Mod X.K X.mg X.base
 kind:X.env.scope.kind=.function
 glob:X.env.globals=mainGlobals
 blt:X.env.builtins=builtinsNs
 above:X.s₀.heap.objs.size<=X.env.locals
 inj:∀ x y c,X.env.cells.lookup x=some c->X.env.cells.lookup y=some c->x=y
 has:∀ x,(X.env.kindOf x=some .cell\/X.env.kindOf x=some .free)->∃ c,X.env.cells.lookup x=some c
 cab:∀ x c,X.fn x=true->X.env.cells.lookup x=some c->X.s₀.heap.objs.size<=c
 hd:X.calm=true->X.A.handled=none
 frames:X.A.frames=some X.stack
 stk:X.stack=X.outer\/(X.stack=X.env::X.outer/\X.env.frame=some X.env.locals)
 exf:∀ b∈X.ex,b≠X.env.locals/\∀ x c,X.env.cells.lookup x=some c->c≠b
 bs:∀ b o,X.base.get? b=some o->X.s₀.heap.get? b=some o/\X.H₀ b=none
 bsz:X.base.objs.size<=X.s₀.heap.objs.size
 noex:∀ b o,X.base.get? b=some o->b∉X.ex
 exfs:∀ b∈X.ex,b∉X.fs
 funs:X.s₀.heap.FunFrames X.base X.outer
 frf:∀ b∈X.fs,X.H₀ b=none
 seer:X.base.NoSeer
 tree:(model X.prog X.w).prog.given.tree=none
 plr:∀ s:Shared,(∀ b o,X.base.get? b=some o->s.heap.get? b=some o)->PySem.PylongRoom (model X.prog X.w) X.A s
structure Inv (X:Cx) (pins:cV) (σ:List (cO)) (H:Hp) (s:Shared):Prop where
 ok:X.Ok
 os:s.os=X.s₀.os
 bare:AllBare s.gens
 base:Un X.fs X.ex X.H₀ H X.s₀.heap s.heap
 loc:∃ m,s.heap.Ns X.env.locals m/\∀ (i:Nat) (x:Str) (v:V),X.N[i]?=some x->σ[i]?=some (some v)->bH X.env.scope x->∃ u,RelV v u/\Look X.env s.heap m x u
 cell:∀ x c,X.env.cells.lookup x=some c->∃ v,s.heap.IsCell c v
 free:H X.env.locals=none
 freeC:∀ x c,X.env.cells.lookup x=some c->H c=none
 pin:∀ p∈X.pn++pins,s.heap.get? p.1=some p.2/\H p.1=none/\p.1≠X.env.locals/\p.1∉X.fs/\∀ v,p.2.data≠.cell v
 hok:HOk X.prog X.w H s.heap
 len:σ.length=X.N.length
section
variable {X:Cx} {pins:cV} {σ:List (cO)} {H H':Hp} {s:Shared} {h':Heap}
def Cx.Ok.nofr (ok:X.Ok) {b:Addr} {o:Obj} (e:X.base.get? b=some o):b∉X.fs:=λa=>by
 have:=(ok.funs.mem a).1;rw [e] at this;cases this
def Inv.bs (I:Inv X pins σ H s):∀ b o,X.base.get? b=some o->s.heap.get? b=some o/\H b=none:=λb o e=>
 ⟨I.base.keep b o (I.ok.bs b o e).1 (I.ok.bs b o e).2 (I.ok.nofr e) (I.ok.noex b o e),I.base.free b o (I.ok.bs b o e).1 (I.ok.bs b o e).2 (I.ok.noex b o e)⟩
def Inv.bk (I:Inv X pins σ H s):∀ b o,X.base.get? b=some o->s.heap.get? b=some o:=λb o e=>(I.bs b o e).1
def Inv.mod (I:Inv X pins σ H s):Mod X.K X.mg X.base:=I.ok.mod
def Inv.kIn (I:Inv X pins σ H s):X.K.In s.heap:=I.ok.mod.kin.keeps I.bk
def Inv.lt (I:Inv X pins σ H s):X.env.locals<s.heap.objs.size:=let ⟨_,a,_⟩:=I.loc;a.lt
def Inv.sz (I:Inv X pins σ H s):X.s₀.heap.objs.size<=s.heap.objs.size:=A7 I.ok.above (EB I.lt)
def Inv.nofs (I:Inv X pins σ H s) {a:Addr} (h:s.heap.objs.size<=a):a∉X.fs:=λb=>by
 obtain ⟨_,o,c,_⟩:=I.ok.funs.mem b;exact absurd (CZ (sK c) (A7 I.sz h)) (Dg _)
def Inv.cne (I:Inv X pins σ H s):∀ x c,X.env.cells.lookup x=some c->c≠X.env.locals:=λx c e z=>by
 obtain ⟨v,o,d,f⟩:=I.cell x c e;obtain ⟨m,⟨g,h,i,a,b,_⟩,_⟩:=I.loc;rw [z,a] at d;cases d;rw [b] at f;cases f
def Inv.funs (I:Inv X pins σ H s):s.heap.FunFrames X.base X.outer:=by
 have all:∀ (l:List Env),(∀ b∈aw l,b∈X.fs)->X.s₀.heap.FunFrames X.base l->s.heap.FunFrames X.base l:=by
  intro l
  induction l with
  | nil=>intro _ _;trivial
  | cons g r h=>
    intro f i;obtain ⟨hk,⟨L,o,a,j,k,m⟩,n⟩:=i;have c:L∈X.fs:=f L (by unfold aw;rw [List.filterMap_cons,a];exact CH);obtain ⟨p,e⟩:=I.base.slot L o k (I.ok.frf L c) c λz=>I.ok.exfs L z c;exact ⟨hk,⟨L,_,a,j,e,m⟩,h (λb d=>f b (by unfold aw;rw [List.filterMap_cons,a];exact Ca _ d)) n⟩
 exact all X.outer (λ_ d=>d) I.ok.funs
def Inv.stack (I:Inv X pins σ H s):s.heap.FunFrames X.base X.stack:=by
 rcases I.ok.stk with e | ⟨e,a⟩
 ·rw [e];exact I.funs
 ·rw [e];obtain ⟨m,b,_⟩:=I.loc;refine .cons (by rw [I.ok.kind];decide) a b ?_ I.funs;exact Heap.get?_none_of_le (A7 I.ok.bsz I.ok.above)
def Inv.stkSub (I:Inv X pins σ H s):∀ b∈aw X.stack,b∈X.env.locals::X.fs:=λb a=>by
 rcases I.ok.stk with e | ⟨e,c⟩
 ·rw [e] at a;exact Ca _ a
 ·rw [e] at a;unfold aw at a;rw [List.filterMap_cons,c] at a;exact a
def Inv.stkFree (I:Inv X pins σ H s):∀ b∈aw X.stack,H b=none:=λb a=>by
 rcases Bx.mp (I.stkSub b a) with e | a
 ·rw [e];exact I.free
 ·obtain ⟨_,o,c,_⟩:=I.ok.funs.mem a;exact I.base.free b o c (I.ok.frf b a) λz=>I.ok.exfs b z a
def Inv.step {g':Array GenState} {t':Nat} {d':Drawn} {ch:de} (I:Inv X pins σ H s)
  (g:∀ b∈ch,(b∈X.ex\/X.s₀.heap.objs.size<=b)/\b≠X.env.locals/\(∀ x c,X.env.cells.lookup x=some c->c≠b)/\∀ p∈X.pn++pins,p.1≠b)
  (h:∀ b o,b≠X.env.locals->b∉X.fs->b∉ch->s.heap.get? b=some o->H b=none->h'.get? b=some o)
  (B:∀ b o,b≠X.env.locals->b∈X.fs->b∉ch->s.heap.get? b=some o->H b=none->∃ P,h'.get? b=some { o with slots:=P }) (f:∀ b o,b∉ch->s.heap.get? b=some o->H b=none->H' b=none)
  (D:∀ b o,b∉ch->s.heap.get? b=some o->∃ G,h'.get? b=some G)
  (J:∀ b C,H b=some (.tup C)->H' b=some (.tup C)) (K:∀ b o u,H b=some (.frz o u)->H' b=some (.frz o u)) (L:∀ b ps,H b=some (.tbl ps)->∃ M,H' b=some (.tbl (ps++M)))
  (ns:∀ m,s.heap.Ns X.env.locals m->h'.Ns X.env.locals m) (R:HOk X.prog X.w H' h') (hg:AllBare g') :
  Inv X pins σ H' { s with heap:=h',gens:=g',drawn:=d',toks:=t' }:=by
 have N:∀ b o,X.s₀.heap.get? b=some o->b≠X.env.locals:=λb o e=>CG (CZ (sK e) I.ok.above)
 have y:∀ b o,X.s₀.heap.get? b=some o->b∉X.ex->b∉ch:=λb o e a E=>by
  rcases (g b E).1 with z | z
  ·exact a z
  ·exact absurd (CZ (sK e) z) (Dg _)
 have j:∀ x c,X.env.cells.lookup x=some c->∀ v,s.heap.IsCell c v->h'.IsCell c v:=λx c e v ⟨o,F,S⟩=>by
  have w:c∉ch:=λz=>(g c z).2.2.1 x c e rfl;by_cases Z:c∈X.fs
  ·obtain ⟨P,q⟩:=B c o (I.cne x c e) Z w F (I.freeC x c e);exact ⟨_,q,S⟩
  ·exact ⟨o,h c o (I.cne x c e) Z w F (I.freeC x c e),S⟩
 refine ⟨I.ok,I.os,hg,⟨λb o e n E a=>?_,λb o e n E a=>?_,λb o e n a=>?_,λb o e a=>?_,λb C e=>J b C (I.base.tups b C e),λb o C e=>K b o C (I.base.frzs b o C e),λb ps e=>?_⟩,?_,λx c e=>?_,?_,λx c e=>?_,λp hp=>?_,R,I.len⟩
 ·exact h b o (N b o e) E (y b o e a) (I.base.keep b o e n E a) (I.base.free b o e n a)
 ·obtain ⟨P,A⟩:=I.base.slot b o e n E a;obtain ⟨T,O⟩:=B b _ (N b o e) E (y b o e a) A (I.base.free b o e n a);exact ⟨T,O⟩
 ·obtain ⟨G,A⟩:=I.base.there b o e a;exact f b G (y b o e a) A (I.base.free b o e n a)
 ·obtain ⟨G,A⟩:=I.base.there b o e a;exact D b G (y b o e a) A
 ·obtain ⟨m1,A⟩:=I.base.tbls b ps e;obtain ⟨m2,O⟩:=L b _ A;exact ⟨m1++m2,by rw [O,Array.append_assoc]⟩
 ·obtain ⟨m,hn,hl⟩:=I.loc;refine ⟨m,ns m hn,λi x v A O e3=>?_⟩;obtain ⟨u,r,l⟩:=hl i x v A O e3;refine ⟨u,r,?_⟩;rcases l with l | ⟨k,c,e,z⟩
  ·exact .inl l
  ·exact .inr ⟨k,c,e,j x c e _ z⟩
 ·obtain ⟨v,z⟩:=I.cell x c e;exact ⟨v,j x c e v z⟩
 ·obtain ⟨m,⟨o,_,_,F,_⟩,_⟩:=I.loc;exact f _ o (λz=>(g _ z).2.1 rfl) F I.free
 ·obtain ⟨v,o,F,S⟩:=I.cell x c e;exact f c o (λz=>(g c z).2.2.1 x c e rfl) F (I.freeC x c e)
 ·obtain ⟨e,n,ne,nf,d⟩:=I.pin p hp;have w:p.1∉ch:=λz=>(g p.1 z).2.2.2 p hp rfl;exact ⟨h p.1 p.2 ne nf w e n,f p.1 p.2 w e n,ne,nf,d⟩
def Inv.un {t':Nat} (I:Inv X pins σ H s) (u:Un X.fs [] H H' s.heap h') (c:HOk X.prog X.w H' h'):Inv X pins σ H' { s with heap:=h',toks:=t' }:=by
 obtain ⟨m,⟨o,v,w,j,r⟩,_⟩:=id I.loc;obtain ⟨x,k⟩:=u.any j I.free (by simp)
 exact I.step (g':=s.gens) (d':=s.drawn) (ch:=[]) (λ_ z=>nomatch z) (λb o _ d _ e n=>u.keep b o e n d (by simp)) (λb o _ d _ e n=>u.slot b o e n d (by simp)) (λb o _ e n=>u.free b o e n (by simp)) (λb o _ e=>u.there b o e (by simp)) u.tups u.frzs u.tbls (λy p=>by
  obtain ⟨A,f,g,a,q⟩:=p;rw [j] at a;cases a;exact ⟨_,f,g,k,q⟩) c I.bare
def Inv.call {g':Array GenState} {t':Nat} {d':Drawn} {ch:de} (I:Inv X pins σ H s) (u:Un (aw X.stack) ch H H' s.heap h') (g:HOk X.prog X.w H' h') (y:AllBare g')
  (d:∀ b∈ch,(b∈X.ex\/X.s₀.heap.objs.size<=b)/\b≠X.env.locals/\(∀ x c,X.env.cells.lookup x=some c->c≠b)/\∀ p∈X.pn++pins,p.1≠b) :
  Inv X pins σ H' { s with heap:=h',gens:=g',drawn:=d',toks:=t' }:=by
 obtain ⟨m,⟨o,D,E,w,r⟩,_⟩:=id I.loc;obtain ⟨F,h⟩:=u.any w I.free λz=>(d _ z).2.1 rfl
 exact I.step (ch:=ch) d (λb o h A a e n=>u.keep b o e n (λz=>(Bx.mp (I.stkSub b z)).elim h A) a) (λb o _ _ a e n=>u.any e n a) (λb o a e n=>u.free b o e n a) (λb o a e=>u.there b o e a) u.tups u.frzs u.tbls (λG B=>by
  obtain ⟨J,i,j,f,C⟩:=B;rw [w] at f;cases f;exact ⟨_,i,j,h,C⟩) g y
def Inv.turned {t':Nat} {a:Addr} (I:Inv X pins σ H s) (k:∀ b o,b≠a->s.heap.get? b=some o->h'.get? b=some o) (j:H a=none) (g:a≠X.env.locals)
  (w:a∈X.ex\/X.s₀.heap.objs.size<=a) (y:∀ x c,X.env.cells.lookup x=some c->c≠a) (A:∀ p∈X.pn++pins,p.1≠a):Inv X pins σ H { s with heap:=h',toks:=t' }:=by
 have f:∀ b u,H b=some u->b≠a:=λb u e z=>by rw [z,j] at e;cases e
 refine I.step (g':=s.gens) (d':=s.drawn) (ch:=[a]) (λb B=>?_) (λb o _ _ d e _=>k b o (λz=>d (by simp [z])) e) (λb o _ _ d e _=>⟨o.slots,k b o (λz=>d (by simp [z])) e⟩) (λ_ _ _ _ n=>n)
  (λb o d e=>⟨o,k b o (λz=>d (by simp [z])) e⟩) (λ_ _ e=>e) (λ_ _ _ e=>e) (λb ps e=>⟨#[],by rw [e];simp⟩) (λm C=>?_) (λb u e=>?_) I.bare
 ·have e:b=a:=by simpa using B
  subst e;exact ⟨w,g,y,A⟩
 ·obtain ⟨o,D,E,F,r⟩:=C;exact ⟨o,D,E,k _ o (Ne.symm g) F,r⟩
 ·refine (I.hok b u e).stay (λc v d q=>k c v ?_ q) (λ_ q=>q) λ_ _ q=>q;rcases d with z | z
  ·rw [z];exact f b u e
  ·exact f c _ z
def Inv.tok (I:Inv X pins σ H s) (t:Nat):Inv X pins σ H { s with toks:=t }:=I.un (h':=s.heap) (t':=t) Un.refl I.hok
def Inv.kept {t':Nat} (I:Inv X pins σ H s) (k:∀ b u,s.heap.get? b=some u->h'.get? b=some u):Inv X pins σ H { s with heap:=h',toks:=t' }:=I.un (Un.kept k) (I.hok.kept k)
def Inv.laid {a:Addr} {o:HO} {t':Nat} (I:Inv X pins σ H s) (k:∀ b u,s.heap.get? b=some u->h'.get? b=some u) (hp:s.heap.objs.size<=a) (c:ObjOk X.prog X.w (upd H a o) h' a o) :
  Inv X pins σ (upd H a o) { s with heap:=h',toks:=t' }:=I.un (Un.laid k hp (I.hok.fresh hp)) (I.hok.laid k hp c)
def Inv.write {x e:Addr} {o:HO} {t':Nat} (I:Inv X pins σ H s) (d:b_ (H x)) (f:e=x\/H e=some (.own x)) (k:∀ b u,b≠e->s.heap.get? b=some u->h'.get? b=some u) (a:∃ u,h'.get? e=some u)
  (c:ObjOk X.prog X.w (upd H x o) h' x o):Inv X pins σ (upd H x o) { s with heap:=h',toks:=t' }:=I.un (Un.write d f k a) (I.hok.write d f k a c)
def Inv.pins_of {a:cV} (I:Inv X pins σ H s) (h:∀ p∈a,s.heap.get? p.1=some p.2/\H p.1=none/\p.1≠X.env.locals/\p.1∉X.fs/\∀ v,p.2.data≠.cell v):Inv X a σ H s:=
 ⟨I.ok,I.os,I.bare,I.base,I.loc,I.cell,I.free,I.freeC,λp hp=>(EC.mp hp).elim (λz=>I.pin p (GD _ z)) (h p),I.hok,I.len⟩
def NQ {N:c_} (c:N.Nodup) {i j:Nat} {x:Str} (a:N[i]?=some x) (b:N[j]?=some x):i=j:=by
 obtain ⟨f,d⟩:=CK.mp a;obtain ⟨g,e⟩:=CK.mp b;exact (List.getElem_inj c).mp (d.trans e.symm)
def NR {M:Model} {A:Around} {E:cS} {i:Nat} {x:Str} {v:V} {u:Value} {Q:Unit->Shared->Prop} (I:Inv X pins σ H s) (hN:X.N.Nodup) (O:X.N[i]?=some x) (C:aR X.env.scope x) (r:RelV v u)
  (h:∀ s',Inv X pins (σ.set i (some v)) H s'->(∃ a,Heap.SameBut a s.heap s'.heap/\(a=X.env.locals\/X.env.cells.lookup x=some a))->Q Unit.unit s') (hf:X.fn x=true\/X.env.scope.names.lookup x=some .local:=by first | exact .inl rfl | exact .inr rfl | assumption):wpAny M A (storeName X.env x u) Q E s:=by
 obtain ⟨m,hn,hl⟩:=id I.loc;have P:(X.env.scope.kind == .class || (X.env.scope.kind == .module && X.env.locals != X.env.globals))=false:=by rw [I.ok.kind];rfl
 have G:i<σ.length:=by rw [I.len];exact (CK.mp O).1
 have J:=I.cne
 have g:∀ {a:Addr} {h':Heap},(∃ o,s.heap.get? a=some o/\H a=none)->Heap.SameBut a s.heap h'->HOk X.prog X.w H h':=λ{a h'} ha f b ob e=>by
  obtain ⟨_,_,D⟩:=ha;refine (I.hok b ob e).stay (λc W B q=>(f.2 c ?_).trans q) (λ_ q=>q) λ_ _ q=>q;rintro rfl;rcases B with rfl | B
  ·rw [D] at e;cases e
  ·rw [D] at B;cases B
 rcases C with hk | hk
 ·refine wpAny_storeName_local hk hn (λh' a0 f=>?_) P;obtain ⟨oL,_,_,a1,_⟩:=id hn;refine h _ ⟨I.ok,I.os,I.bare,⟨λb o e n K C=>?_,λb o e n K C=>?_,I.base.free,λb o e C=>?_,I.base.tups,I.base.frzs,I.base.tbls⟩,⟨_,a0,λj y v' w F e3=>?_⟩,λy c e=>?_,I.free,I.freeC,λp hp=>?_,g ⟨oL,a1,I.free⟩ f,by simpa using I.len⟩ ⟨_,f,.inl rfl⟩
  ·exact (f.2 b (CG (CZ (sK e) I.ok.above))).trans (I.base.keep b o e n K C)
  ·obtain ⟨sl,w⟩:=I.base.slot b o e n K C;exact ⟨sl,(f.2 b (CG (CZ (sK e) I.ok.above))).trans w⟩
  ·obtain ⟨o',w⟩:=I.base.there b o e C;exact ⟨o',(f.2 b (CG (CZ (sK e) I.ok.above))).trans w⟩
  ·by_cases L:j=i
   ·subst L;rw [O] at w;cases w;rw [List.getElem?_set_self G] at F;cases F;exact ⟨u,r,.inl ⟨hk,by simp⟩⟩
   ·rw [List.getElem?_set_ne (Ne.symm L)] at F;obtain ⟨u',r',q⟩:=hl j y v' w F e3;refine ⟨u',r',?_⟩;rcases q with ⟨k,e⟩ | ⟨k,c,e,z⟩
    ·refine .inl ⟨k,?_⟩;have:y≠x:=λe=>L (NQ hN w (e ▸ O));simp [this,e]
    ·exact .inr ⟨k,c,e,z.sameBut f (J y c e)⟩
  ·obtain ⟨W,z⟩:=I.cell y c e;exact ⟨W,z.sameBut f (J y c e)⟩
  ·obtain ⟨e,n,Y,nf,d⟩:=I.pin p hp;exact ⟨(f.2 p.1 Y).trans e,n,Y,nf,d⟩
 ·have N:X.fn x=true:=by
   rcases hf with z | z
   ·exact z
   ·rw [z] at hk;cases hk
  obtain ⟨c,B⟩:=I.ok.has x (.inl hk);obtain ⟨W,z⟩:=I.cell x c B;refine wpAny_storeName_cell I.ok.kind hk B z (λh' R f=>?_);obtain ⟨oc,S,T⟩:=id z;refine h { s with heap:=h' } ⟨I.ok,I.os,I.bare,⟨λb o e n K C=>?_,λb o e n K C=>?_,I.base.free,λb o e C=>?_,I.base.tups,I.base.frzs,I.base.tbls⟩,⟨m,hn.sameBut f (Ne.symm (J x c B)),λj y v' w F e3=>?_⟩,λy Z e=>?_,I.free,I.freeC,λp hp=>?_,g ⟨oc,S,I.freeC x c B⟩ f,by simpa using I.len⟩ ⟨c,f,.inr B⟩
  ·exact (f.2 b (CG (CZ (sK e) (I.ok.cab x c N B)))).trans (I.base.keep b o e n K C)
  ·obtain ⟨sl,w⟩:=I.base.slot b o e n K C;exact ⟨sl,(f.2 b (CG (CZ (sK e) (I.ok.cab x c N B)))).trans w⟩
  ·obtain ⟨o',w⟩:=I.base.there b o e C;exact ⟨o',(f.2 b (CG (CZ (sK e) (I.ok.cab x c N B)))).trans w⟩
  ·by_cases L:j=i
   ·subst L;rw [O] at w;cases w;rw [List.getElem?_set_self G] at F;cases F;exact ⟨u,r,.inr ⟨.inl hk,c,B,R⟩⟩
   ·rw [List.getElem?_set_ne (Ne.symm L)] at F;obtain ⟨u',r',q⟩:=hl j y v' w F e3;refine ⟨u',r',?_⟩;rcases q with q | ⟨k,Z,e,z'⟩
    ·exact .inl q
    ·refine .inr ⟨k,Z,e,z'.sameBut f ?_⟩;rintro rfl;exact L (NQ hN w (I.ok.inj _ _ _ e B ▸ O))
  ·by_cases U:Z=c
   ·subst U;exact ⟨_,R⟩
   ·obtain ⟨w2,z2⟩:=I.cell y Z e;exact ⟨w2,z2.sameBut f U⟩
  ·obtain ⟨e,n,Y,nf,d⟩:=I.pin p hp;refine ⟨(f.2 p.1 ?_).trans e,n,Y,nf,d⟩;intro q;rw [q,S] at e;have q':oc=p.2:=sJ e;exact d W (by rw [<-q'];exact T)
def Ku {M:Model} {A:Around} {E:cS} {i:Nat} {x:Str} {v:V} {u:Value} {Q:Unit->Shared->Prop} (I:Inv X pins σ H s) (b:X.N.Nodup) (c:X.N[i]?=some x) (d:aR X.env.scope x) (r:RelV v u)
  (h:∀ a,Inv X pins (σ.set i (some v)) H a->Q Unit.unit a) (e:X.fn x=true\/X.env.scope.names.lookup x=some .local:=by first | exact .inl rfl | exact .inr rfl | assumption):wpAny M A (storeName X.env x u) Q E s:=
 NR I b c d r (λa f _=>h a f) e
def Inv.call' {s':Shared} {ch:de} (I:Inv X pins σ H s) (f:s'.os=s.os) (u:Un (aw X.stack) ch H H' s.heap s'.heap) (a:HOk X.prog X.w H' s'.heap) (g:AllBare s'.gens)
  (d:∀ b∈ch,(b∈X.ex\/X.s₀.heap.objs.size<=b)/\b≠X.env.locals/\(∀ x c,X.env.cells.lookup x=some c->c≠b)/\∀ p∈X.pn++pins,p.1≠b):Inv X pins σ H' s':=by
 obtain ⟨h',g',d',t',h⟩:=s';have e:h=s.os:=f;subst e;exact I.call (g':=g') (t':=t') (d':=d') u a g d
end
noncomputable abbrev XK:=Value->Option Addr->Hp->Prop
noncomputable abbrev St:=List (cO)
noncomputable abbrev VK:=V->Hp->Prop
noncomputable abbrev TE:=St->Hp->VK->Prop
noncomputable abbrev TT:=St->Hp->(Bool->Hp->Prop)->Prop
noncomputable abbrev TA:=St->Hp->(cN->Hp->Prop)->Prop
structure Ends where
 nx:St->Hp->Prop
 rt:VK
 bk:St->Hp->Prop:=λ_ _=>False
 ct:St->Hp->Prop:=λ_ _=>False
noncomputable abbrev TS:=Ends->St->Hp->Prop
def EP (X:Cx) (a:cV) (c:St) (Q:VK) (u:Value) (s':Shared):Prop:=∃ v b,Inv X a c b s'/\RelV v u/\Q v b
def TP (X:Cx) (a:cV) (d:St) (Q:Bool->Hp->Prop) (b:Bool) (s':Shared):Prop:=∃ c,Inv X a d c s'/\Q b c
def AP (X:Cx) (a:cV) (d:St) (Q:cN->Hp->Prop) (e:cQ) (s':Shared):Prop:=∃ b c,Inv X a d c s'/\Vals b e/\Q b c
def SP (X:Cx) (b:cV) (D:Ends) (f:Flow) (s':Shared):Prop:=
 match f with
 | .next=>∃ a c,Inv X b a c s'/\D.nx a c
 | .brk=>∃ a c,Inv X b a c s'/\D.bk a c
 | .cont=>∃ a c,Inv X b a c s'/\D.ct a c
 | .ret u=>∃ v a c,Inv X b a c s'/\RelV v u/\D.rt v c
def PE (X:Cx) (e:Expr) (t:TE):Prop:=
 ∀ (a:cV) (s:Shared) (b:St) (H:Hp) (Q:VK),Inv X a b H s->t b H Q->wpAny (model X.prog X.w) X.A (eval e X.env) (EP X a b Q) X.xe s
def PT (X:Cx) (e:Expr) (t:TT):Prop:=
 ∀ (a:cV) (s:Shared) (b:St) (H:Hp) (Q:Bool->Hp->Prop),Inv X a b H s->t b H Q->wpAny (model X.prog X.w) X.A (isTrue e X.env (eval e X.env)) (TP X a b Q) X.xe s
def PW (X:Cx) (e:Expr) (t:TT):Prop:=
 ∀ (b:Sem Value) (a:cV) (s:Shared) (c:St) (H:Hp) (Q:Bool->Hp->Prop),Inv X a c H s->t c H Q->wpAny (model X.prog X.w) X.A (isTrue e X.env b) (TP X a c Q) X.xe s
def PW.pt {X:Cx} {e:Expr} {t:TT} (h:PW X e t):PT X e t:=h _
def PA (X:Cx) (d:cZ) (t:TA):Prop:=
 ∀ (b:Pos) (a:cV) (s:Shared) (c:St) (H:Hp) (Q:cN->Hp->Prop),Inv X a c H s->t c H Q->wpAny (model X.prog X.w) X.A (spliced (backTo b (starEach d X.env))) (AP X a c Q) X.xe s
def PS (X:Cx) (st:Stmt) (t:TS):Prop:=
 ∀ (a:cV) (s:Shared) (b:St) (H:Hp) (D:Ends),Inv X a b H s->t D b H->wpAny (model X.prog X.w) X.A (exec st X.env) (SP X a D) X.xe s
def PSs (X:Cx) (st:List Stmt) (t:TS):Prop:=
 ∀ (a:cV) (s:Shared) (b:St) (H:Hp) (D:Ends),Inv X a b H s->t D b H->wpAny (model X.prog X.w) X.A (execs st X.env) (SP X a D) X.xe s
def F_ {b:Type} {t:Sem b} {Q c:b->Shared->Prop} {M:Model} {A:Around} {E:cS} {s:Shared} (h:wpAny M A t Q E s) (d:∀ a s,Q a s->c a s):wpAny M A t c E s:=sI h d λ_ _ x=>x
section
variable {X:Cx}
def AA (i:Nat):TE:=λa H Q=>∃ v,a[i]?=some (some v)/\Q v H
def tC (v:V):TE:=λ_ H Q=>Q v H
def UR {i:Nat} {x:Str} {f:Pos} (n:X.N[i]?=some x) (o:bH X.env.scope x) (g:(x == ("__debug__" : Str))=false:=by decide) (j:(x == ("__classdict__" : Str))=false:=by decide):PE X (.Name x f) (AA i):=by
 intro d s p H Q I h;obtain ⟨v,e,h⟩:=h;obtain ⟨m,q,w⟩:=I.loc;obtain ⟨u,r,l⟩:=w i x v n e o;have b:EP X d p Q u s:=⟨v,H,I,r,h⟩;rcases l with ⟨hk,y⟩ | ⟨hk,c,k,a⟩
 ·exact wpAny_Name (wpAny_loadName_local I.ok.kind hk q y b) g
 ·rcases hk with hk | hk
  ·exact wpAny_Name (wpAny_loadName_cell I.ok.kind hk k a b) g
  ·exact wpAny_Name (wpAny_loadName_free I.ok.kind hk k a b j) g
def AE {i j pos}:PE X (.Constant (.int i) j pos) (tC (.int i)):=λ_ _ _ H _ I h=>wpAny_Constant_int ⟨.int i,H,I.tok _,⟨_,rfl⟩,h⟩
def NS {b j pos}:PE X (.Constant (.bool b) j pos) (tC (.bl b)):=λ_ _ _ H _ I h=>Constant_bool ⟨.bl b,H,I,rfl,h⟩
def FW {j pos}:PE X (.Constant .none j pos) (tC .non):=λ_ _ _ H _ I h=>Constant_none ⟨.non,H,I,rfl,h⟩
def Kv {x j pos}:PE X (.Constant (.str x) j pos) (tC (.str x)):=λ_ _ _ H _ I h=>Calls.Constant_str ⟨.str x,H,I.tok _,⟨_,rfl⟩,h⟩
def Gl (X:Cx) (x:Str):Prop:=X.env.kindOf x=some .globalImplicit
def NT {E:cS} {a:cV} {s:Shared} {c:St} {H:Hp} {x:Str} {u:Value} {b:Pos} {Q:cS} (I:Inv X a c H s) (d:Gl X x) (e:X.mg x=some u) (h:Q u s)
  (f:(x == ("__debug__" : Str))=false:=by decide):wpAny (model X.prog X.w) X.A (eval (.Name x b) X.env) Q E s:=
 Calls.Name_function_global I.ok.kind d (Calls.loadGlobal_global (by rw [I.ok.glob];exact I.mod.glob.keeps I.bk) e h) f
def Ev {E:cS} {a:cV} {s:Shared} {c:St} {H:Hp} {x:Str} {u:Value} {b:Pos} {Q:cS} (I:Inv X a c H s) (d:Gl X x) (e:X.mg x=none) (f:bootBuiltins x=some u) (h:Q u s)
  (g:x ≠ "__name__" := by decide) (i:(x == ("__debug__" : Str))=false:=by decide):wpAny (model X.prog X.w) X.A (eval (.Name x b) X.env) Q E s:=by
 obtain ⟨m,j,k⟩:=I.mod.blt;exact Calls.Name_function_global I.ok.kind d (Calls.loadGlobal_builtin (by rw [I.ok.glob];exact I.mod.glob.keeps I.bk) e (by rw [I.ok.blt];exact j.keeps I.bk) ((k x g).trans f) h) i
def US {x:Str} {v:V} {u:Value} {a:Pos} (b:Gl X x) (c:X.mg x=some u) (r:RelV v u) (d:(x == ("__debug__" : Str))=false:=by decide):PE X (.Name x a) (tC v):=
 λ_ _ _ H _ I h=>NT I b c ⟨v,H,I,r,h⟩ d
def UT {x:Str} {v:V} {u:Value} {a:Pos} (b:Gl X x) (c:X.mg x=none) (d:bootBuiltins x=some u) (r:RelV v u) (e:x ≠ "__name__" := by decide) (f:(x == ("__debug__" : Str))=false:=by decide):PE X (.Name x a) (tC v):=
 λ_ _ _ H _ I h=>Ev I b c d ⟨v,H,I,r,h⟩ e f
variable {a b:Expr} {ta tb:TE} {pos:Pos}
def PC (X:Cx) (g:CmpOp) (a b:Expr) (t:TE):Prop:=
 ∀ (c:cV) (s:Shared) (f:St) (H:Hp) (Q:VK),Inv X c f H s->t f H Q->
   wpAny (model X.prog X.w) X.A (eval a X.env) (λv d=>wpAny (model X.prog X.w) X.A (eval b X.env) (λu e=>wpAny (model X.prog X.w) X.A (compareOp g v u) (EP X c f Q) X.xe e) X.xe d) X.xe s
def tB (t:TE):TT:=λd H Q=>t d H λx e=>∃ c,x=.bl c/\Q c e
def NU {e:Expr} {t:TE} (h:PE X e t) (g:∀ c,isTrue e X.env c=(do let v <-c;standAt e.pos;holding [v] (truthy v)):=by intro _;rfl):PT X e (tB t):=by
 intro f s i H Q I j;refine isTrue_plain (F_ (h f s i H _ I j) λv p ⟨x,k,m,n,o⟩=>?_) (g _);obtain ⟨d,rfl,q⟩:=o;cases n;exact wpAny_truthy_bool ⟨k,m,q⟩
variable {tA tB':TT} {rest:cZ}
def EG (t u:TT):TT:=λd H Q=>t d H λc e=>if c=true then u d e Q else Q false e
def aA (t u:TT):TT:=λd H Q=>t d H λc e=>if c=true then Q true e else u d e Q
def HG (t:TT):TT:=λd H Q=>t d H λc e=>Q (!c) e
theorem GK (f:PT X a tA):PW X (.BoolOp .And [a] pos) tA:=by
 intro i d s g H Q I h;refine isTrue_and (F_ (f d s g H Q I h) λc j e=>?_);cases c with
 | true=>exact isTrue_and_nil e
 | false=>exact e
theorem JL (f:PT X a tA):PW X (.BoolOp .Or [a] pos) tA:=by
 intro i d s g H Q I h;refine isTrue_or (F_ (f d s g H Q I h) λc j e=>?_);cases c with
 | false=>exact isTrue_or_nil e
 | true=>exact e
theorem GN (j:PT X a tA) (k:PW X (.BoolOp .And (b::rest) pos) tB'):PW X (.BoolOp .And (a::b::rest) pos) (EG tA tB'):=by
 intro m d s e H Q I h;refine isTrue_and (F_ (j d s e H _ I h) λc n ⟨f,g,i⟩=>?_);cases c with
 | true=>exact k m d n e f Q g i
 | false=>exact ⟨f,g,i⟩
theorem IC (j:PT X a tA) (k:PW X (.BoolOp .Or (b::rest) pos) tB'):PW X (.BoolOp .Or (a::b::rest) pos) (aA tA tB'):=by
 intro m d s e H Q I h;refine isTrue_or (F_ (j d s e H _ I h) λc n ⟨f,g,i⟩=>?_);cases c with
 | true=>exact ⟨f,g,i⟩
 | false=>exact k m d n e f Q g i
def JM (e:PT X a tA):PT X (.UnaryOp .Not a pos) (HG tA):=by
 intro d s f H Q I h;exact isTrue_not (e d s f H (λc g=>Q (!c) g) I h)
def UU (ta tb:TE):TE:=λd H Q=>ta d H λx e=>∃ c,x=.bl c/\if c=true then tb d e Q else Q (.bl false) e
def UV (ta tb:TE):TE:=λd H Q=>ta d H λx e=>∃ c,x=.bl c/\if c=true then Q (.bl true) e else tb d e Q
def UW (ta:TE):TE:=λd H Q=>ta d H λx e=>∃ c,x=.bl c/\Q (.bl (!c)) e
def aV (t:TT) (ta tb:TE):TE:=λd H Q=>t d H λc e=>if c=true then ta d e Q else tb d e Q
theorem JN {c:Expr} (m:PT X c tA) (n:PE X a ta) (o:PE X b tb):PE X (.IfExp c a b pos) (aV tA ta tb):=by
 intro e s f H Q I h;refine wpAny_IfExp (F_ (m e s f H _ I h) λd g ⟨i,j,k⟩=>?_);cases d with
 | true=>exact n e g f i Q j k
 | false=>exact o e g f i Q j k
end
def SqL (K:W.Frag) (H:Hp) (a:Addr) (xs:cN):Prop:=
 Rd H a (.lst xs)\/
  ∃ (o:Obj) (b:Array Value) (n:Nat),K.lookup a=some o/\o.cls=.type "list" /\ o.dict=none/\o.data=.seq b n/\b.size<=sizeLine/\Vals xs b.toList
def SqT (K:W.Frag) (H:Hp) (a:Addr) (xs:cN):Prop:=
 Rd H a (.tup xs)\/
  ∃ (o:Obj) (b:Array Value) (n:Nat),K.lookup a=some o/\o.cls=.type "tuple" /\ o.data=.seq b n/\b.size<=sizeLine/\Vals xs b.toList
noncomputable def UX:Value->cO
 | .none=>some .non
 | .bool b=>some (.bl b)
 | .int i _=>some (.int i)
 | .str x _=>some (.str x)
 | .bytes b _=>some (.byt b)
 | .float b _=>some (.flt b)
 | .ref a=>some (.ref a)
 | .type n=>some (.ty n)
 | _=>none
theorem RelV.abs {x:V} {u:Value} (r:RelV x u):UX u=some x:=by
 cases x with
 | non=>cases r;rfl
 | bl _=>cases r;rfl
 | int _=>obtain ⟨t,rfl⟩:=r;rfl
 | str _=>obtain ⟨t,rfl⟩:=r;rfl
 | byt _=>obtain ⟨t,rfl⟩:=r;rfl
 | flt _=>obtain ⟨t,rfl⟩:=r;rfl
 | ref _=>cases r;rfl
 | ty _=>cases r;rfl
def RelV.inj {x y:V} {u:Value} (r:RelV x u) (q:RelV y u):x=y:=sJ (r.abs.symm.trans q.abs)
theorem Vals.inj:∀ {xs a:cN} {b:cQ},Vals xs b->Vals a b->xs=a
 | _,_,_,.nil,.nil=>rfl
 | _,_,_,.cons r t,.cons c d=>by rw [r.inj c,Vals.inj t d]
section
variable {X:Cx} {pins:cV} {σ:St} {H:Hp} {s:Shared} {a:Addr} {xs ys:cN}
def SqL.of {K:W.Frag} (h:H a=some (.lst xs)):SqL K H a xs:=.inl (.inl h)
def SqT.of {K:W.Frag} (h:H a=some (.tup xs)):SqT K H a xs:=.inl (.inl h)
def Inv.list (I:Inv X pins σ H s) (h:SqL X.K H a xs):∃ b:cQ,Vals xs b/\PlainL s.heap a b.toArray/\xs.length<=sizeLine:=by
 rcases h with h | ⟨o,b,n,hk,c,d,f,g,r⟩
 ·obtain ⟨z,b,n,r,e⟩:=h.ok I.hok;exact ⟨b,r,⟨_,n,e,rfl,rfl,rfl⟩,z⟩
 ·refine ⟨b.toList,r,⟨o,n,I.kIn a o hk,c,d,by simpa using f⟩,?_⟩;have e:=r.length;simp only [Array.length_toList] at e;omega
def Inv.tuple (I:Inv X pins σ H s) (h:SqT X.K H a xs):∃ b:cQ,Vals xs b/\IsTup s.heap a b.toArray/\xs.length<=sizeLine:=by
 rcases h with h | ⟨o,b,n,hk,c,d,f,r⟩
 ·obtain ⟨z,b,r,p⟩:=h.ok I.hok;exact ⟨b,r,p,z⟩
 ·refine ⟨b.toList,r,⟨o,I.kIn a o hk,c,n,by simpa using d⟩,?_⟩;have e:=r.length;simp only [Array.length_toList] at e;omega
def Inv.list_inj (I:Inv X pins σ H s) (h:SqL X.K H a xs) (h':SqL X.K H a ys):xs=ys:=by
 obtain ⟨c,r,⟨o,n,e,_,_,d⟩,_⟩:=I.list h;obtain ⟨b,i,⟨k,m,f,_,_,g⟩,_⟩:=I.list h';rw [e] at f;cases f;rw [d] at g;injection g with j _;have:c=b:=by simpa using congrArg Array.toList j
 subst this;exact r.inj i
def Inv.tuple_inj (I:Inv X pins σ H s) (h:SqT X.K H a xs) (h':SqT X.K H a ys):xs=ys:=by
 obtain ⟨c,r,⟨o,e,_,n,d⟩,_⟩:=I.tuple h;obtain ⟨b,i,⟨k,f,_,m,g⟩,_⟩:=I.tuple h';rw [e] at f;cases f;rw [d] at g;injection g with j _;have:c=b:=by simpa using congrArg Array.toList j
 subst this;exact r.inj i
end
noncomputable abbrev Cx.wish (X:Cx) (E:cS):Cx:={ X with xe:=E }
noncomputable abbrev Cx.nox (X:Cx):Cx:=X.wish λ_ _=>False
def Cx.Ok.wish {X:Cx} (ok:X.Ok) (E:cS):(X.wish E).Ok:=
 ⟨ok.mod,ok.kind,ok.glob,ok.blt,ok.above,ok.inj,ok.has,ok.cab,ok.hd,ok.frames,ok.stk,ok.exf,ok.bs,ok.bsz,ok.noex,ok.exfs,ok.funs,ok.frf,ok.seer,ok.tree,ok.plr⟩
def Cx.Ok.unwish {X:Cx} {E:cS} (ok:(X.wish E).Ok):X.Ok:=
 ⟨ok.mod,ok.kind,ok.glob,ok.blt,ok.above,ok.inj,ok.has,ok.cab,ok.hd,ok.frames,ok.stk,ok.exf,ok.bs,ok.bsz,ok.noex,ok.exfs,ok.funs,ok.frf,ok.seer,ok.tree,ok.plr⟩
section
variable {X:Cx} {pins:cV} {σ:St} {H:Hp} {s:Shared} {E:cS}
def Inv.wish (I:Inv X pins σ H s) (E:cS):Inv (X.wish E) pins σ H s:=⟨I.ok.wish E,I.os,I.bare,I.base,I.loc,I.cell,I.free,I.freeC,I.pin,I.hok,I.len⟩
def Inv.unwish (I:Inv (X.wish E) pins σ H s):Inv X pins σ H s:=⟨I.ok.unwish,I.os,I.bare,I.base,I.loc,I.cell,I.free,I.freeC,I.pin,I.hok,I.len⟩
theorem SP.unwish {D:Ends} {f:Flow} {s':Shared} (h:SP (X.wish E) pins D f s'):SP X pins D f s':=by
 cases f with
 | next=>obtain ⟨a,b,I,q⟩:=h;exact ⟨a,b,I.unwish,q⟩
 | brk=>obtain ⟨a,b,I,q⟩:=h;exact ⟨a,b,I.unwish,q⟩
 | cont=>obtain ⟨a,b,I,q⟩:=h;exact ⟨a,b,I.unwish,q⟩
 | ret u=>obtain ⟨v,a,b,I,r,q⟩:=h;exact ⟨v,a,b,I.unwish,r,q⟩
def PSs.nox {st:List Stmt} {t:TS} (h:PSs X.nox st t):PSs X st t:=λpins s σ H D I a=>
 sI (h pins s σ H D (I.wish _) a) (λ_ _ q=>q.unwish) λ_ _ z=>False.elim z
end
section
variable {X:Cx} {st:Stmt} {rest:List Stmt} {t u:TS} {e:Expr} {te:TE} {pos:Pos}
def BX:TS:=λD a H=>D.nx a H
def AI (t u:TS):TS:=λD a H=>t { D with nx:=u D } a H
def Bp:PSs X [] BX:=λ_ _ a H _ I h=>wpAny_execs_nil ⟨a,H,I,h⟩
theorem AK (c:PS X st t) (d:PSs X rest u):PSs X (st::rest) (AI t u):=by
 intro a s g H D I h;refine wpAny_execs_cons (F_ (c a s g H { D with nx:=u D } I h) λf i q=>?_);cases f with
 | next=>
   obtain ⟨b,j,k,q⟩:=q;exact d a i b j D k q
 | ret v=>exact q
 | brk=>exact q
 | cont=>exact q
theorem AS (b:PS X st t):PSs X [st] t:=by
 intro a s c H D I h;refine wpAny_execs_cons (F_ (b a s c H D I h) λf d q=>?_);cases f with
 | next=>exact wpAny_execs_nil q
 | ret v=>exact q
 | brk=>exact q
 | cont=>exact q
def Inv.quiet {a:cV} {b:St} {H:Hp} {s:Shared} (I:Inv X a b H s):interactive X.env=false:=by simp [interactive,I.ok.kind]
def GO (te:TE):TS:=λD a H=>te a H λ_ b=>D.nx a b
def ID (c:PE X e te) (d:swapsWith e none pos.line X.env=pure false:=by rfl):PS X (.Expr e pos) (GO te):=by
 intro a s b H D I h;exact wpAny_Expr_any (F_ (c a s b H _ I h) λv j ⟨x,f,g,k,i⟩=>⟨b,f,g,i⟩) I.quiet d
def Ab (te:TE):TS:=λD a H=>te a H D.rt
def Ac (c:PE X e te):PS X (.Return (some e) pos) (Ab te):=by
 intro a s b H D I h;exact wpAny_Return_some (F_ (c a s b H _ I h) λv j ⟨x,d,f,g,i⟩=>⟨x,b,d,f,g,i⟩)
def BO (c:TT) (t u:TS):TS:=λD a H=>c a H λb d=>if b=true then t D a d else u D a d
theorem Bh {c:Expr} {a b:List Stmt} {tc:TT} (n:PT X c tc) (o:PSs X a t) (p:PSs X b u):PS X (.If c a b pos) (BO tc t u):=by
 intro f s g H D I h;refine wpAny_If (F_ (n f s g H _ I h) λd i ⟨j,k,m⟩=>?_);cases d with
 | true=>exact o f i g j D k m
 | false=>exact p f i g j D k m
end
noncomputable abbrev TG:=V->St->Hp->(St->Hp->Prop)->Prop
noncomputable abbrev aM:=cN->St->Hp->(St->Hp->Prop)->Prop
def PG (X:Cx) (a:Expr) (t:TG):Prop:=
 ∀ (b:cV) (s:Shared) (d:St) (H:Hp) (v:V) (u:Value) (Q:St->Hp->Prop),Inv X b d H s->RelV v u->t v d H Q->
   wpAny (model X.prog X.w) X.A (assign a X.env u) (λ_ f=>∃ c e,Inv X b c e f/\Q c e) X.xe s
def bI (X:Cx) (g:cZ) (t:aM):Prop:=
 ∀ (a:cV) (s:Shared) (c:St) (H:Hp) (d:cN) (e:cQ) (Q:St->Hp->Prop),Inv X a c H s->Vals d e->t d c H Q->
   wpAny (model X.prog X.w) X.A (assignInOrder ((assignEach g X.env).map (·.2)) e) (λ_ h=>∃ b f,Inv X a b f h/\Q b f) X.xe s
noncomputable abbrev aB:=V->V->V->Hp->(Hp->Prop)->Prop
def aW (X:Cx) (t:aB):Prop:=
 ∀ (a:cV) (s:Shared) (b:St) (H:Hp) (o i v:V) (c d u:Value) (Q:Hp->Prop),Inv X a b H s->RelV o c->RelV i d->RelV v u->t o i v H Q->
   wpAny (model X.prog X.w) X.A (setItem c d u) (λ_ f=>∃ e,Inv X a b e f/\Q e) X.xe s
noncomputable abbrev bJ:=V->V->Hp->VK->Prop
def PIp (X:Cx) (c:Operator) (t:bJ):Prop:=
 ∀ (a:cV) (s:Shared) (b:St) (H:Hp) (x y:V) (v u:Value) (Q:VK),Inv X a b H s->RelV x v->RelV y u->t x y H Q->
   wpAny (model X.prog X.w) X.A (inplaceOp c v u) (EP X a b Q) X.xe s
section
variable {X:Cx} {pos:Pos}
def AH (i:Nat):TG:=λv a H Q=>Q (a.set i (some v)) H
def Ay {i:Nat} {x:Str} (b:X.N.Nodup) (c:X.N[i]?=some x) (d:aR X.env.scope x) (e:X.fn x=true\/X.env.scope.names.lookup x=some .local:=by first | exact .inl rfl | exact .inr rfl | assumption):PG X (.Name x pos) (AH i):=by
 intro a s g H v u Q I r h;exact wpAny_assign_Name (Ku I b c d r (λj f=>⟨_,H,f,h⟩) e)
noncomputable def EH:aM:=λa b H Q=>a=[]/\Q b H
noncomputable def CO (t:TG) (u:aM):aM:=λb c H Q=>∃ v r,b=v::r/\t v c H λa d=>u r a d Q
def Ew:bI X [] EH:=by
 intro a s b H c d Q I r h;obtain ⟨e,h⟩:=h;subst e;cases r;exact assignInOrder_nil ⟨b,H,I,h⟩
theorem CV {e:Expr} {b:cZ} {t:TG} {u:aM} (d:PG X e t) (f:bI X b u)
  (g:(assignEach (e::b) X.env).map (·.2)=assign e X.env::(assignEach b X.env).map (·.2):=by rfl):bI X (e::b) (CO t u):=by
 intro a s i H q w Q I r h;obtain ⟨v,x,j,h⟩:=h;subst j;cases r with
 | cons r k=>
   rw [g];refine assignInOrder_cons (F_ (d a s i H _ _ _ I r h) λ_ m ⟨c,n,o,p⟩=>?_);exact f a m c n _ _ Q o k p
def UY (K:W.Frag) (n:Nat) (t:aM):TG:=λv c H Q=>∃ a b,v=.ref a/\SqT K H a b/\b.length=n/\t b c H Q
def UZ {d:cZ} {k:Nat} {t:aM} {n:Nat} (p:X.calm=true) (h:bI X d t)
  (q:(assignEach d X.env).length=n:=by rfl) (f:(assignEach d X.env).findIdx? (·.1)=none:=by rfl):PG X (.Tuple d k pos) (UY X.K n t):=by
 intro c s i H v u Q I r g;obtain ⟨a,w,x,y,z,g⟩:=g;subst x;cases r;obtain ⟨A,j,B,F⟩:=I.tuple y;refine assign_Tuple_tuple (I.ok.hd p) B (by simp [q,<-z,j.length]) f λC D=>?_;have E:Inv X c i H { s with heap:=C }:=I.kept (t':=s.toks) λb o e=>D b o (CG (sK e)) e;exact h c _ i H w _ Q E (by simpa using j) g
def IE (b c:TE) (t:aB):TG:=λv a H Q=>b a H λo d=>c a d λi e=>t o i v e λf=>Q a f
def Kw {o i:Expr} {e f:TE} {t:aB} (g:PE X o e) (j:PE X i f) (k:aW X t)
  (m:∀ v,assign (.Subscript o i pos) X.env v=(do
   let b <-holding [v] (eval o X.env);let c <-holding [v,b] (eval i X.env)
   standAt pos
   holding [v,b,c] (setItem b c v)
   release [v,b,c] []):=by intro _;rfl):PG X (.Subscript o i pos) (IE e f t):=by
 intro a s d H v u Q I r h;rw [m];refine sF (wpAny_holding (F_ (g a s d H _ I h) λb n ⟨x,p,q,w,z⟩=>?_));refine sF (wpAny_holding (F_ (j a n d p _ q z) λc A ⟨y,B,C,D,E⟩=>?_));refine sF (wpAny_standAt (sF (wpAny_holding (F_ (k a A d B x y v b c u _ C w D r E) λ_ K ⟨F,G,J⟩=>?_))));exact wpAny_release ⟨d,F,G,J⟩
def AQ (b:TE) (g:TG):TS:=λD a H=>b a H λx c=>g x a c D.nx
def IF {b e:Expr} {c:TE} {g:TG} (f:PE X e c) (i:PG X b g) (j:swapsWithSole [b] e pos.line X.env=pure false:=by rfl) (k:swappedStores [b] e X.env=pure none:=by rfl)
  (m:(assignEach [b] X.env).map (·.2)=[assign b X.env]:=by rfl):PS X (.Assign [b] e pos) (AQ c g):=by
 intro a s d H D I h;refine wpAny_Assign_stores (F_ (f a s d H _ I h) λv n ⟨x,o,p,r,u⟩=>?_) j k;rw [m];exact F_ (i a n d o x v _ p r u) λ_ w q=>q
def Ex {i:Nat} {x:Str} {e:Expr} {c:TE} {a:Pos} (d:X.N.Nodup) (f:X.N[i]?=some x) (g:aR X.env.scope x) (j:PE X e c) (k:swapsWith e (some (.Name x a)) pos.line X.env=pure false:=by rfl) (m:X.fn x=true\/X.env.scope.names.lookup x=some .local:=by first | exact .inl rfl | exact .inr rfl | assumption) :
  PS X (.Assign [.Name x a] e pos) (AQ c (AH i)):=by
 intro b s n H D I h;refine wpAny_Assign_Name (F_ (j b s n H _ I h) λv w ⟨y,o,p,q,r⟩=>?_) k;exact Ku p d f g q (λz u=>⟨_,o,u,r⟩) m
def Ua (i j:Nat) (b:TA):TS:=λD a H=>b a H λc d=>∃ v w,c=[v,w]/\D.nx ((a.set i (some v)).set j (some w)) d
def Dv (i:Nat) (b:TE) (c:bJ):TS:=λD a H=>∃ x,a[i]?=some (some x)/\b a H λy d=>c x y d λz e=>D.nx (a.set i (some z)) e
def EV {i:Nat} {x:Str} {e:Expr} {p:TE} {j:Operator} {q:bJ} {d:Pos} (E:X.N.Nodup) (A:X.N[i]?=some x) (n:aR X.env.scope x) (F:PE X e p) (G:PIp X j q) (J:X.fn x=true\/X.env.scope.names.lookup x=some .local:=by first | exact .inl rfl | exact .inr rfl | assumption) :
  PS X (.AugAssign (.Name x d) j e pos) (Dv i p q):=by
 intro a s B H D I h;obtain ⟨v,K,h⟩:=h;obtain ⟨m,L,M⟩:=I.loc;have o:bH X.env.scope x:=by rcases n with k | k;exact .inl k;exact .inr (.inl k)
 obtain ⟨u,r,l⟩:=M i x v A K o;refine wpAny_AugAssign_Name ?_
 have C:wpAny (model X.prog X.w) X.A (eval e X.env) (λw f=>wpAny (model X.prog X.w) X.A (inplaceOp j u w) (λr g=>wpAny (model X.prog X.w) X.A (storeName X.env x r) (λ_=>SP X a D .next) X.xe g) X.xe f) X.xe s:=by
  refine F_ (F a s B H _ I h) λw N ⟨y,O,P,Q,R⟩=>?_;refine F_ (G a N B O v y u w _ P r Q R) λz s2 ⟨zv,S,T,U,W⟩=>?_;exact Ku T E A n U (λs3 Y=>⟨_,S,Y,W⟩) J
 rcases l with ⟨hk,Z⟩ | ⟨hk,c,hc,b⟩
 ·exact wpAny_loadName_local I.ok.kind hk L Z C
 ·rcases hk with hk | hk
  ·exact wpAny_loadName_cell I.ok.kind hk hc b C
  ·rcases n with k | k
   ·have:X.env.scope.names.lookup x=some .free:=hk;rw [k] at this;cases this
   ·have:X.env.scope.names.lookup x=some .free:=hk;rw [k] at this;cases this
def HH (e f g:TE) (a:V->V->Hp->VK->Prop) (d:bJ) (b:aB):TS:=λD c H=>e c H λo h=>f c h λi j=>a o i j λx k=>g c k λy m=>d x y m λz n=>b o i z n λp=>D.nx c p
def bK (X:Cx) (t:V->V->Hp->VK->Prop):Prop:=
 ∀ (a:cV) (s:Shared) (b:St) (H:Hp) (o i:V) (c d:Value) (Q:VK),Inv X a b H s->RelV o c->RelV i d->t o i H Q->
   wpAny (model X.prog X.w) X.A (getItem c d) (EP X a b Q) X.xe s
def JO {o i e:Expr} {p q r:TE} {c:V->V->Hp->VK->Prop} {k:bJ} {d:aB} {u:Operator} {m:Pos} (A:PE X o p) (B:PE X i q) (C:bK X c) (E:PE X e r) (hp:PIp X u k) (F:aW X d)
  (G:∀ f g b,augStore i f g b=(do holding [b,f,g] (setItem f g b);release [b,f,g] [];pure .next):=by intros;rfl):PS X (.AugAssign (.Subscript o i m) u e pos) (HH p q r c k d):=by
 intro a s j H D I h;refine wpAny_AugAssign_SubscriptAny (F_ (A a s j H _ I h) λf J ⟨w,K,L,x,M⟩=>?_) G;refine F_ (B a J j K _ L M) λg N ⟨y,O,P,z,Q⟩=>?_;refine F_ (C a N j O w y f g _ P x z Q) λn R ⟨S,T,U,W,Y⟩=>?_;refine F_ (E a R j T _ U Y) λv Z ⟨x4,H4,I4,r4,q4⟩=>?_;refine F_ (hp a Z j H4 S x4 n v _ I4 W r4 q4) λb s5 ⟨x5,H5,I5,r5,q5⟩=>?_;exact F_ (F a s5 j H5 w y x5 f g b _ I5 x z r5 q5) λ_ s6 ⟨H6,I6,q6⟩=>⟨j,H6,I6,q6⟩
end
section
variable {X:Cx} {pos:Pos}
def Dw (c:TT) (h:TS):TS:=λD a H=>∃ W:Nat->St->Hp->Prop,(∃ m,W m a H)/\∀ m a H,W m a H->
 c a H λb e=>if b=true then ∃ N:St->Hp->Prop,(∀ d f,N d f->∃ g,g<m/\W g d f)/\h { D with nx:=N,ct:=N,bk:=D.nx } a e else D.nx a e
theorem EW {c:Expr} {g:List Stmt} {tc:TT} {x:TS} (hp:PassesOwn (model X.prog X.w) X.A X.env X.xe) (E:PT X c tc) (F:PSs X g x):PS X (.While c g [] pos) (Dw tc x):=by
 intro a s G H D I h;obtain ⟨W,⟨J,K⟩,i⟩:=h;refine wpAny_While (codeAny_whileLoop (λn L=>∃ j y,Inv X a j y L/\W n j y) ?_ J ⟨G,H,I,K⟩);rintro n M ⟨e,z,O,P⟩;refine wpAny_passesOwn hp (F_ (E a M e z _ O (i n e z P)) λb Q ⟨A,B,m⟩=>?_);cases b with
 | true=>
   obtain ⟨N,C,m⟩:=m;rw [sC rfl];refine wpAny_passesOwn hp (F_ (F a Q e A _ B m) λf R o=>?_);cases f with
   | next=>
     obtain ⟨d,k,p,q⟩:=o;obtain ⟨r,u,w⟩:=C d k q;exact ⟨r,u,d,k,p,w⟩
   | cont=>
     obtain ⟨d,k,p,q⟩:=o;obtain ⟨r,u,w⟩:=C d k q;exact ⟨r,u,d,k,p,w⟩
   | brk=>exact o
   | ret v=>exact o
 | false=>
   rw [sB Cd];exact wpAny_execs_nil ⟨e,A,B,m⟩
end
structure It where
 go:Nat->Hp->Prop
 yld:Nat->Hp->V->Hp->Prop
 stop:Nat->Hp->Prop
def DU (X:Cx) (a:cV) (H:Hp) (b:Addr):Prop:=
 H b=none/\b≠X.env.locals/\b∉X.fs/\(b∈X.ex\/X.s₀.heap.objs.size<=b)/\(∀ x c,X.env.cells.lookup x=some c->c≠b)/\∀ p∈X.pn++a,p.1≠b
def Inv.fpOk {X:Cx} {a:cV} {g:St} {H f:Hp} {s:Shared} {b:Addr} (I:Inv X a g H s) (d:s.heap.objs.size<=b) (h:f b=none):DU X a f b:=by
 refine ⟨h,Nat.ne_of_gt (CZ I.lt d),I.nofs d,.inr (A7 I.sz d),λx c e z=>?_,λp hp z=>?_⟩
 ·obtain ⟨v,q⟩:=I.cell x c e;exact absurd (CZ q.lt (by rw [z];exact d)) (Dg _)
 ·exact absurd (CZ (sK (I.pin p hp).1) (by rw [z];exact d)) (Dg _)
structure Turn (P:Program) (w:World) (K:W.Frag) (tg:Expr) (J:It) (fp:de) (it:Addr) (tn:Nat->Heap->Prop):Prop where
 mem:it∈fp
 obj:∀ i h,tn i h->∀ b∈fp,∃ o,h.get? b=some o/\∀ v,o.data≠.cell v
 keep:∀ i h h',tn i h->(∀ b∈fp,∀ o,h.get? b=some o->h'.get? b=some o)->tn i h'
 item:∀ (X:Cx),X.prog=P->X.w=w->X.K=K->X.calm=true->∀ (i:Nat) (pins:cV) (s:Shared) (σ:St) (H:Hp) (E:cS),Inv X pins σ H s->(∀ b∈fp,DU X pins H b)->tn i s.heap->J.go i H->
  wpAny (model P w) X.A (pyNext (.ref it)) (λr s1=>∃ u,r=some u/\
   wpAny (model P w) X.A (letOwnedTupleGo tg (.ref it) u) (λ_ s2=>∃ x H',Inv X pins σ H' s2/\RelV x u/\J.yld i H x H'/\tn (i+1) s2.heap/\∀ b∈fp,H' b=none) E s1) E s
 done:∀ (X:Cx),X.prog=P->X.w=w->X.K=K->X.calm=true->∀ (i:Nat) (pins:cV) (s:Shared) (σ:St) (H:Hp) (E:cS),Inv X pins σ H s->(∀ b∈fp,DU X pins H b)->tn i s.heap->J.stop i H->
  wpAny (model P w) X.A (pyNext (.ref it)) (λr s1=>r=none/\Inv X pins σ H s1) E s
 self:∀ (A:Around) (i:Nat) (s:Shared) (Q:cS) (E:cS),tn i s.heap->Q (.ref it) s->wpAny (model P w) A (pyIter (.ref it)) Q E s
noncomputable abbrev TI:=St->Hp->(It->Hp->Prop)->Prop
def PIE (X:Cx) (a:cV) (i:St) (j:Expr) (R:It->Hp->Prop) (c:Value) (e:Shared):Prop:=
 ∃ (f:Addr) (g:de) (h:Nat->Heap->Prop) (J:It) (d:Hp),c=.ref f/\Inv X a i d e/\Turn X.prog X.w X.K j J g f h/\h 0 e.heap/\(∀ b∈g,DU X a d b)/\R J d
def PI (X:Cx) (d b:Expr) (e:TI):Prop:=
 ∀ (a:cV) (s:Shared) (c:St) (H:Hp) (R:It->Hp->Prop),Inv X a c H s->e c H R->
   wpAny (model X.prog X.w) X.A (eval b X.env) (λv f=>wpAny (model X.prog X.w) X.A (pyIter v) (PIE X a c d R) X.xe f) X.xe s
def JP {M:Model} {A:Around} {E:cS} {s:Shared} {b:Expr} {c:Addr} {u:Value} {o:Obj} {n:String} {vs:Array Value} {Q:Unit->Shared->Prop} (d:s.heap.get? c=some o) (e:o.cls=.type n) (f:o.data=.fields vs)
  (g:["enumerate", "zip", "dict_itemiterator", "dict_reverseitemiterator", "odict_iterator", "itertools.zip_longest", "itertools.pairwise"].contains n=false) (a:Q Unit.unit s):wpAny M A (letOwnedTupleGo b (.ref c) u) Q E s:=by
 unfold letOwnedTupleGo
 cases b <;> first
  | exact sG a
  | (cases u <;> first
    | exact sG a
    | (refine sF (wpAny_load d ?_)
       rw [e,f];show wpAny M A (if (["enumerate", "zip", "dict_itemiterator", "dict_reverseitemiterator", "odict_iterator", "itertools.zip_longest", "itertools.pairwise"].contains n && vs[0]? == some (rawInt _))=true then _ else _) Q E s;rw [sB (by intro h;rw [g,Bool.false_and] at h;cases h)];exact sG a))
noncomputable def ap (K:W.Frag) (a:Addr):It:=
 ⟨λi H=>∃ b x,SqL K H a b/\b[i]?=some x,λi H x c=>c=H/\∀ b,SqL K H a b->b[i]?=some x,λi H=>∃ b,SqL K H a b/\b.length<=i⟩
noncomputable def aO (K:W.Frag) (a:Addr):It:=
 ⟨λi H=>∃ b x,SqT K H a b/\b[i]?=some x,λi H x c=>c=H/\∀ b,SqT K H a b->b[i]?=some x,λi H=>∃ b,SqT K H a b/\b.length<=i⟩
noncomputable def aq (lo:Int) (n:Nat):It:=⟨λi _=>i<n,λi H x a=>a=H/\x=.int (lo+i),λi _=>n<=i⟩
def Ub {P:Program} {w:World} {K:W.Frag} {U:Expr} (a j:Addr):Turn P w K U (ap K a) [j] j (λi h=>h.IsListIter j a i) where
 mem:=by simp
 obj:=λi h f b m=>by
  have e:b=j:=by simpa using m
  subst e
  obtain ⟨o,e,c,d⟩:=f
  exact ⟨o,e,λv z=>by rw [d] at z;cases z⟩
 keep:=λi h r f k=>f.at λo e=>k j (by simp) o e
 item:=by
  intro X B C D S i g s T H E I y f F
  subst B C D
  obtain ⟨Y,x,A,G⟩:=F
  obtain ⟨J,L,p,Z⟩:=I.list A
  obtain ⟨u,hu,ru⟩:=L.get G
  obtain ⟨M,N,f2,O,Q,R⟩:=y j (by simp)
  refine wpAny_pyNext_list_item f p.isList (x:=u) (by simpa using hu) λr n sb=>?_
  have I1:Inv X g T H { s with heap:=r }:=I.turned (t':=s.toks) (λb o m e=>(sb.2 b m).trans e) M N O Q R
  obtain ⟨o,e,c,d⟩:=id n
  exact ⟨u,rfl,JP (s:={ s with heap:=r }) e c d ∅ ⟨x,H,I1,ru,⟨rfl,λys hy=>by rw [I.list_inj hy A];exact G⟩,n,λb m=>(y b m).1⟩⟩
 done:=by
  intro X B C D S i g s T H E I y f F
  subst B C D
  obtain ⟨Y,A,G⟩:=F
  obtain ⟨J,L,p,Z⟩:=I.list A
  obtain ⟨M,N,f2,O,Q,R⟩:=y j (by simp)
  have hl:=L.length
  exact wpAny_pyNext_list_end (I.ok.hd S) f p.isList (by simp;omega) λr eb=>⟨rfl,I.turned (t':=s.toks) (λb o m e=>eb b o m e) M N O Q R⟩
 self:=λ_ _ _ _ _ f h=>wpAny_pyIter_listiter f h
def Uc {P:Program} {w:World} {K:W.Frag} {U:Expr} (a j:Addr):Turn P w K U (aO K a) [j] j (λi h=>h.IsTupleIter j a i) where
 mem:=by simp
 obj:=λi h f b m=>by
  have e:b=j:=by simpa using m
  subst e
  obtain ⟨o,e,c,d⟩:=f
  exact ⟨o,e,λv z=>by rw [d] at z;cases z⟩
 keep:=λi h y f k=>f.at λo e=>k j (by simp) o e
 item:=by
  intro X C D F S i g s T H E I A f G
  subst C D F
  obtain ⟨Y,x,B,J⟩:=G
  obtain ⟨n,L,p,Z⟩:=I.tuple B
  obtain ⟨u,hu,ru⟩:=L.get J
  obtain ⟨M,N,f2,O,Q,R⟩:=A j (by simp)
  refine wpAny_pyNext_tuple_item f (show s.heap.IsTuple a n.toArray from p) (x:=u) (by simpa using hu) λy q sb=>?_
  have I1:Inv X g T H { s with heap:=y }:=I.turned (t':=s.toks) (λb o m e=>(sb.2 b m).trans e) M N O Q R
  obtain ⟨o,e,c,d⟩:=id q
  exact ⟨u,rfl,JP (s:={ s with heap:=y }) e c d ∅ ⟨x,H,I1,ru,⟨rfl,λys hy=>by rw [I.tuple_inj hy B];exact J⟩,q,λb m=>(A b m).1⟩⟩
 done:=by
  intro X C D F S i g s T H E I A f G
  subst C D F
  obtain ⟨Y,B,J⟩:=G
  obtain ⟨n,L,p,Z⟩:=I.tuple B
  obtain ⟨M,N,f2,O,Q,R⟩:=A j (by simp)
  have hl:=L.length
  exact wpAny_pyNext_tuple_end (I.ok.hd S) f (show s.heap.IsTuple a n.toArray from p) (by simp;omega) λy eb=>⟨rfl,I.turned (t':=s.toks) (λb o m e=>eb b o m e) M N O Q R⟩
 self:=λ_ _ _ _ _ f h=>wpAny_pyIter_tupleiter f h
def Ue {P:Program} {w:World} {K:W.Frag} {M:Expr} (c:Addr) (lo:Int) (n:Nat):Turn P w K M (aq lo n) [c] c (λi h=>IsRangeIter h c (lo+(i:Nat)*1) ((n:Int) - (i:Nat)) 1) where
 mem:=by simp
 obj:=λi h a b f=>by
  have e:b=c:=by simpa using f
  subst e
  exact ⟨_,a,λv z=>by
   have N:Data.fields _=Data.cell v:=z
   cases N⟩
 keep:=λi h p a k=>k c (by simp) _ a
 item:=by
  intro X r u x y i d s J H E I q a A
  subst r u x
  obtain ⟨B,C,O,D,F,G⟩:=q c (by simp)
  have W:=Walks.range (prog:=X.prog) (w:=X.w) (I.ok.hd y) c lo 1 n
  refine W.item i s _ _ A a λv p L Q g R=>?_
  obtain ⟨t,rfl⟩:=Q
  have S:Inv X d J H { s with heap:=p,toks:=L }:=I.turned (λb o f e=>R b o (by simpa using f) e) B C D F G
  refine ⟨_,rfl,JP (s:={ s with heap:=p,toks:=L }) (n := "range_iterator") g rfl rfl ∅ ⟨.int (lo+i),H,S,⟨t,?_⟩,⟨rfl,rfl⟩,g,λb f=>(q b f).1⟩⟩
  rw [Int.mul_one]
 done:=by
  intro X r u x y i d s J H E I q a A
  subst r u x
  obtain ⟨B,C,O,D,F,G⟩:=q c (by simp)
  exact wpAny_pyNext_range_end (I.ok.hd y) a (by have:n<=i:=A;omega) λp T=>⟨rfl,I.turned (t':=s.toks) (λb o f e=>T b o f e) B C D F G⟩
 self:=λ_ _ _ _ _ a h=>wpAny_pyIter_rangeiter a h
section
variable {X:Cx} {tg:Expr}
def CW (K:W.Frag) (c:TE):TI:=λd H R=>c d H λx b=>∃ a,x=.ref a/\(∃ e,SqL K b a e)/\R (ap K a) b
def FZ (K:W.Frag) (c:TE):TI:=λd H R=>c d H λx b=>∃ a,x=.ref a/\(∃ e,SqT K b a e)/\R (aO K a) b
def DV {l:Expr} {g:TE} (i:PE X l g):PI X tg l (CW X.K g):=by
 intro c s j H R I h;refine F_ (i c s j H _ I h) λv d ⟨x,k,f,m,n⟩=>?_;obtain ⟨a,e,⟨y,r⟩,q⟩:=n;subst e;cases m;obtain ⟨u,z,p,A⟩:=f.list r;refine wpAny_pyIter_list p.isList ?_;refine ⟨d.heap.objs.size,[d.heap.objs.size],_,_,k,rfl,f.kept (t':=d.toks) λb o e=>Heap.get?_push_of_some _ e,Ub a _,⟨_,Heap.get?_push_size _ rfl,rfl,rfl⟩,λb w=>?_,q⟩;have e:b=d.heap.objs.size:=by simpa using w
 subst e;exact f.fpOk (AU _) (f.hok.fresh (AU _))
def IG {l:Expr} {i:TE} (j:PE X l i):PI X tg l (FZ X.K i):=by
 intro c s k H R I h;refine F_ (j c s k H _ I h) λv d ⟨x,m,f,n,r⟩=>?_;obtain ⟨a,e,⟨y,u⟩,q⟩:=r;subst e;cases n;obtain ⟨g,z,p,A⟩:=f.tuple u;refine wpAny_pyIter_tuple (show d.heap.IsTuple a g.toArray from p) ?_;refine ⟨d.heap.objs.size,[d.heap.objs.size],_,_,m,rfl,f.kept (t':=d.toks) λb o e=>Heap.get?_push_of_some _ e,Uc a _,⟨_,Heap.get?_push_size _ rfl,rfl,rfl⟩,λb w=>?_,q⟩;have e:b=d.heap.objs.size:=by simpa using w
 subst e;exact f.fpOk (AU _) (f.hok.fresh (AU _))
def NV {d:cV} {i:St} {H:Hp} {s:Shared} {R:It->Hp->Prop} {E:cS} {lo c:Int} {t u v:Tok} {tk:Nat} (I:Inv X d i H s) (k:-(2 ^ 62)<=lo) (m:lo<2 ^ 62) (n:-(2 ^ 62)<=c) (p:c<2 ^ 62)
  (q:R (aq lo (c - lo).toNat) H):wpAny (model X.prog X.w) X.A (pyIter (.ref s.heap.objs.size)) (PIE X d i tg R) E { s with heap:=s.heap.push { cls:=.type "range", data:=.fields #[.int lo t,.int c u,.int 1 v] },toks:=tk }:=by
 refine wpAny_pyIter_range (IsRange.new ..) (small_one k m n p) ?_;have j:Inv X d i H { s with heap:=s.heap.push { cls:=.type "range", data:=.fields #[.int lo t,.int c u,.int 1 v] },toks:=tk }:=I.kept λb o e=>Heap.get?_push_of_some _ e
 refine ⟨(s.heap.push { cls:=.type "range", data:=.fields #[.int lo t,.int c u,.int 1 v] }).objs.size,[(s.heap.push { cls:=.type "range", data:=.fields #[.int lo t,.int c u,.int 1 v] }).objs.size],_,_,H,rfl,
  j.kept (t':=tk) λb o e=>Heap.get?_push_of_some _ e,Ue _ lo (c - lo).toNat,?_,λb r=>?_,q⟩
 ·have w:lo+((0:Nat):Int)*1=lo:=by simp
  have x:(((c - lo).toNat:Nat):Int) - ((0:Nat):Int)=Builtin.Range.rangeSize lo c 1:=by rw [rangeSize_one];split <;> omega
  show IsRangeIter _ _ (lo+((0:Nat):Int)*1) ((((c - lo).toNat:Nat):Int) - ((0:Nat):Int)) 1;rw [w,x];exact Heap.get?_push_size _ rfl
 ·have e:b=(s.heap.push { cls:=.type "range", data:=.fields #[.int lo t,.int c u,.int 1 v] }).objs.size:=by simpa using r
  subst e;exact j.fpOk (AU _) (j.hok.fresh (AU _))
def Fa (a:TA):TI:=λb H R=>a b H λc d=>∃ j:Int,c=[.int j]/\-(2 ^ 62)<=j/\j<2 ^ 62/\R (aq 0 j.toNat) d
def Fb (a:TA):TI:=λb H R=>a b H λc d=>∃ i j:Int,c=[.int i,.int j]/\(-(2 ^ 62)<=i/\i<2 ^ 62/\-(2 ^ 62)<=j/\j<2 ^ 62)/\R (aq i (j - i).toNat) d
theorem IH {a:Expr} {f:TA} {p b:Pos} (g:Gl X "range") (i:X.mg "range" = none) (k:PA X [a] f) (m:starEach [a] X.env=[(false,eval a X.env)]:=by rfl):PI X tg (.Call (.Name "range" p) [a] [] b) (Fa f):=by
 intro c s n H R I h;refine Call_ (Ev I g i boot_range (PyProof.Rows.callWith_type1 (F_ (k b c s n H _ I h) λx y ⟨z,A,o,u,d⟩=>?_) m rfl));obtain ⟨j,e,d,v,q⟩:=d;subst e;cases u with
 | cons r w=>
   cases w;obtain ⟨t,rfl⟩:=r;exact call_range_1 (NV o ⋯ ⋯ d v (by simpa using q))
theorem JQ {a b:Expr} {m:TA} {p c:Pos} (n:Gl X "range") (o:X.mg "range" = none) (u:PA X [a,b] m) (v:starEach [a,b] X.env=[(false,eval a X.env),(false,eval b X.env)]:=by rfl) (d:starEach [b] X.env=[(false,eval b X.env)]:=by rfl) :
  PI X tg (.Call (.Name "range" p) [a,b] [] c) (Fb m):=by
 intro f s w H R I h;refine Call_ (Ev I n o boot_range (PyProof.Rows.callWith_type1 (F_ (u c f s w H _ I h) λD E ⟨F,G,x,y,g⟩=>?_) (by rw [v,d]) (by rw [d];rfl)));obtain ⟨i,j,e,⟨g,z,A,B⟩,q⟩:=g;subst e;cases y with
 | cons r k=>
   cases k with
   | cons C k=>
     cases k;obtain ⟨t,rfl⟩:=r;obtain ⟨J,rfl⟩:=C;exact call_range_2 (NV x g z A B q)
def Bz (f:TI) (g:TG) (h:TS):TS:=λD a H=>f a H λJ j=>∃ W:Nat->Nat->St->Hp->Prop,(∃ m,W 0 m a j)/\∀ i m a H,W i m a H->
 (J.stop i H/\D.nx a H)\/(J.go i H/\∃ N:St->Hp->Prop,(∀ b c,N b c->∃ e,e<m/\W (i+1) e b c)/\∀ x c,J.yld i H x c->g x a c λd k=>h { D with nx:=N,ct:=N,bk:=D.nx } d k)
noncomputable def JR (a:de) (h:Heap):cV:=a.filterMap λb=>(h.get? b).map λo=>(b,o)
def JS {a:de} {h:Heap} {b:Addr} {o:Obj} (c:b∈a) (e:h.get? b=some o):(b,o)∈JR a h:=List.mem_filterMap.mpr ⟨b,c,by rw [e];rfl⟩
theorem Uf {a:de} {h:Heap} {p:Addr×Obj} (hp:p∈JR a h):p.1∈a/\h.get? p.1=some p.2:=by
 obtain ⟨b,c,e⟩:=List.mem_filterMap.mp hp;cases q:h.get? b with
 | none=>rw [q] at e;cases e
 | some o=>
   rw [q] at e;have d:(b,o)=p:=sJ e;subst d;exact ⟨c,q⟩
def Inv.pinned {a:cV} {f:St} {H:Hp} {s:Shared} {c:de} (I:Inv X a f H s) (i:∀ b∈c,DU X a H b) (j:∀ b∈c,∃ o,s.heap.get? b=some o/\∀ v,o.data≠.cell v):Inv X (a++JR c s.heap) f H s:=
 I.pins_of λp hp=>(EC.mp hp).elim (λz=>I.pin p (Cz _ z)) λz=>by
  obtain ⟨g,e⟩:=Uf z;obtain ⟨k,m,n,_⟩:=i p.1 g;obtain ⟨o,h,d⟩:=j p.1 g;rw [e] at h;cases h;exact ⟨e,k,m,n,d⟩
def Inv.unpinned {a c:cV} {b:St} {H:Hp} {s:Shared} (I:Inv X (a++c) b H s):Inv X a b H s:=I.pins_of λp hp=>I.pin p (Cz _ (GD _ hp))
def Cp {j:Expr} {C:List Stmt} {wi:TI} {g:TG} {tb:TS} {S:Pos} (hp:PassesOwn (model X.prog X.w) X.A X.env X.xe) (hc:X.calm=true) (hi:PI X tg j wi) (hg:PG X tg g) (k:PSs X C tb)
  (hs:∀ x,foldedSetIterable j X.env x=pure x:=by intro _;rfl):PS X (.For tg j C [] S) (Bz wi g tb):=by
 intro a s σ H D I h;refine wpAny_For (F_ (hi a s σ H _ I h) λv s1 h1=>F_ h1 λa2 s2 h2=>?_) hs;obtain ⟨it,G,tn,J,H2,e,I2,T,U,f2,W,⟨m0,w0⟩,K⟩:=h2;subst e;have p:∀ {B:Hp},(∀ b∈G,B b=none)->∀ b∈G,DU X a B b:=λhn b k=>⟨hn b k,(f2 b k).2⟩;refine codeAny_forLoop_any (λn s'=>∃ i q B,Inv X a q B s'/\tn i s'.heap/\(∀ b∈G,B b=none)/\W i n q B) ?_ m0 ⟨0,σ,H2,I2,U,λb k=>(f2 b k).1,w0⟩;rintro n s3 ⟨i,w,R,I3,L,M,w3⟩;rcases K i n w R w3 with ⟨O,qn⟩ | ⟨go,N,hN,P⟩
 ·refine wpAny_passesOwn hp (F_ (T.done X rfl rfl rfl hc i a s3 w R X.xe I3 (p M) L O) λr s4 ⟨Y,I4⟩=>?_);subst Y;exact wpAny_execs_nil ⟨w,R,I4,qn⟩
 ·refine wpAny_passesOwn hp (F_ (T.item X rfl rfl rfl hc i a s3 w R X.xe I3 (p M) L go) λr s4 ⟨u,Y,h4⟩=>?_);subst Y;refine wpAny_passesOwn hp (F_ h4 λ_ s5 ⟨x,H5,I5,r5,y5,F,Z⟩=>?_);have a0:=I5.pinned (p Z) (T.obj _ _ F);refine wpAny_passesOwn hp (F_ (hg _ s5 w H5 x u _ a0 r5 (P x H5 y5)) λ_ s6 ⟨a1,H6,I6,q6⟩=>?_);refine wpAny_passesOwn hp (F_ (k _ s6 a1 H6 _ I6 q6) λf s7 E=>?_)
  have y:∀ {c:St} {z:Hp},Inv X (a++JR G s5.heap) c z s7->N c z->∃ m,m<n/\∃ i q B,Inv X a q B s7/\tn i s7.heap/\(∀ b∈G,B b=none)/\W i m q B:=λ{c z} A Q=>by
   obtain ⟨m',hm,w7⟩:=hN c z Q;refine ⟨m',hm,i+1,c,z,A.unpinned,T.keep _ _ _ F λb k o e=>(A.pin (b,o) (Cz _ (Cz _ (JS k e)))).1,λb k=>?_,w7⟩;obtain ⟨o,e,d⟩:=T.obj _ _ F b k;exact (A.pin (b,o) (Cz _ (Cz _ (JS k e)))).2.1
  cases f with
  | next=>obtain ⟨c,z,A,Q⟩:=E;exact y A Q
  | cont=>obtain ⟨c,z,A,Q⟩:=E;exact y A Q
  | brk=>obtain ⟨c,z,A,E⟩:=E;exact ⟨c,z,A.unpinned,E⟩
  | ret v=>obtain ⟨x7,c,z,A,r7,E⟩:=E;exact ⟨x7,c,z,A.unpinned,r7,E⟩
end
def Ug {K:W.Frag} {a:Addr} {xs:cN} {g:TG} {k:TS} {D:Ends} {b:St} {H:Hp} (Pv:Nat->St->Hp->Prop) (o:Pv 0 b H) (r:∀ i b H,i<=xs.length->Pv i b H->SqL K H a xs)
  (u:∀ i x b H,xs[i]?=some x->Pv i b H->g x b H λc j=>k { D with nx:=Pv (i+1),ct:=Pv (i+1),bk:=D.nx } c j) (A:∀ b H,Pv xs.length b H->D.nx b H) :
  ∃ W:Nat->Nat->St->Hp->Prop,(∃ m,W 0 m b H)/\∀ i m b H,W i m b H->
    ((ap K a).stop i H/\D.nx b H)\/((ap K a).go i H/\∃ N:St->Hp->Prop,(∀ d f,N d f->∃ n,n<m/\W (i+1) n d f)/\∀ x f,(ap K a).yld i H x f->g x b f λc j=>k { D with nx:=N,ct:=N,bk:=D.nx } c j):=by
 refine ⟨λi m b H=>m=xs.length - i/\i<=xs.length/\Pv i b H,⟨xs.length,by simp,Ai _,o⟩,?_⟩;rintro i m b H ⟨rfl,B,p⟩;have q:=r i b H B p;by_cases h:i<xs.length
 ·refine .inr ⟨⟨xs,xs[i],q,by simp [h]⟩,Pv (i+1),λd f C=>⟨xs.length - (i+1),⋯,rfl,h,C⟩,λx f y=>?_⟩;obtain ⟨e,y⟩:=y;subst e;exact u i x b _ (y xs q) p
 ·have e:i=xs.length:=by omega
  subst e;exact .inl ⟨⟨xs,q,AU _⟩,A b H p⟩
def NW {K:W.Frag} {a:Addr} {xs:cN} {g:TG} {k:TS} {D:Ends} {b:St} {H:Hp} (Pv:Nat->St->Hp->Prop) (o:Pv 0 b H) (r:∀ i b H,i<=xs.length->Pv i b H->SqT K H a xs)
  (u:∀ i x b H,xs[i]?=some x->Pv i b H->g x b H λc j=>k { D with nx:=Pv (i+1),ct:=Pv (i+1),bk:=D.nx } c j) (A:∀ b H,Pv xs.length b H->D.nx b H) :
  ∃ W:Nat->Nat->St->Hp->Prop,(∃ m,W 0 m b H)/\∀ i m b H,W i m b H->
    ((aO K a).stop i H/\D.nx b H)\/((aO K a).go i H/\∃ N:St->Hp->Prop,(∀ d f,N d f->∃ n,n<m/\W (i+1) n d f)/\∀ x f,(aO K a).yld i H x f->g x b f λc j=>k { D with nx:=N,ct:=N,bk:=D.nx } c j):=by
 refine ⟨λi m b H=>m=xs.length - i/\i<=xs.length/\Pv i b H,⟨xs.length,by simp,Ai _,o⟩,?_⟩;rintro i m b H ⟨rfl,B,p⟩;have q:=r i b H B p;by_cases h:i<xs.length
 ·refine .inr ⟨⟨xs,xs[i],q,by simp [h]⟩,Pv (i+1),λd f C=>⟨xs.length - (i+1),⋯,rfl,h,C⟩,λx f y=>?_⟩;obtain ⟨e,y⟩:=y;subst e;exact u i x b _ (y xs q) p
 ·have e:i=xs.length:=by omega
  subst e;exact .inl ⟨⟨xs,q,AU _⟩,A b H p⟩
def Ui {lo:Int} {n:Nat} {g:TG} {j:TS} {D:Ends} {a:St} {H:Hp} (Pv:Nat->St->Hp->Prop) (o:Pv 0 a H)
  (q:∀ i a H,i<n->Pv i a H->g (.int (lo+i)) a H λb h=>j { D with nx:=Pv (i+1),ct:=Pv (i+1),bk:=D.nx } b h) (w:∀ a H,Pv n a H->D.nx a H) :
  ∃ W:Nat->Nat->St->Hp->Prop,(∃ m,W 0 m a H)/\∀ i m a H,W i m a H->
    ((aq lo n).stop i H/\D.nx a H)\/((aq lo n).go i H/\∃ N:St->Hp->Prop,(∀ c d,N c d->∃ k,k<m/\W (i+1) k c d)/\∀ x d,(aq lo n).yld i H x d->g x a d λb h=>j { D with nx:=N,ct:=N,bk:=D.nx } b h):=by
 refine ⟨λi m a H=>m=n - i/\i<=n/\Pv i a H,⟨n,by simp,Ai _,o⟩,?_⟩;rintro i m a H ⟨rfl,A,p⟩;by_cases f:i<n
 ·refine .inr ⟨f,Pv (i+1),λc d z=>⟨n - (i+1),⋯,rfl,f,z⟩,λx d y=>?_⟩;obtain ⟨e,y⟩:=y;subst e y;exact q i a _ f p
 ·have e:i=n:=by omega
  subst e;exact .inl ⟨AU _,w a H p⟩
noncomputable abbrev R2:=V->V->Hp->VK->Prop
def OpR (X:Cx) (f:Value->Value->Sem Value) (r:R2):Prop:=
 ∀ (a:cV) (s:Shared) (b:St) (H:Hp) (x y:V) (v u:Value) (Q:VK),Inv X a b H s->RelV x v->RelV y u->r x y H Q->
   wpAny (model X.prog X.w) X.A (f v u) (EP X a b Q) X.xe s
def UnR (X:Cx) (f:Value->Sem Value) (r:V->Hp->VK->Prop):Prop:=
 ∀ (a:cV) (s:Shared) (b:St) (H:Hp) (x:V) (v:Value) (Q:VK),Inv X a b H s->RelV x v->r x H Q->
   wpAny (model X.prog X.w) X.A (f v) (EP X a b Q) X.xe s
def Cb (X:Cx) (f:Value) (r:cN->Hp->VK->Prop):Prop:=
 ∀ (a:cV) (s:Shared) (b:St) (H:Hp) (c:cN) (d:cQ) (Q:VK),Inv X a b H s->Vals c d->r c H Q->
   wpAny (model X.prog X.w) X.A (call f d) (EP X a b Q) X.xe s
def Uj (X:Cx) (r:V->Hp->(Bool->Hp->Prop)->Prop):Prop:=
 ∀ (a:cV) (s:Shared) (b:St) (H:Hp) (x:V) (v:Value) (Q:Bool->Hp->Prop),Inv X a b H s->RelV x v->r x H Q->
   wpAny (model X.prog X.w) X.A (truthy v) (TP X a b Q) X.xe s
def A_ (r:R2) (b c:TE):TE:=λa H Q=>b a H λx d=>c a d λy e=>r x y e Q
def Q_ (r:V->Hp->VK->Prop) (a:TE):TE:=λb H Q=>a b H λx c=>r x c Q
def rI (C:Int->Int->Prop) (g:Int->Int->V):R2:=λx y H Q=>∃ i j,x=.int i/\y=.int j/\C i j/\Q (g i j) H
def ae (g:Int->Int->V):R2:=λx y H Q=>∃ i j,x=.int i/\y=.int j/\Q (g i j) H
def rU (g:Int->V):V->Hp->VK->Prop:=λx H Q=>∃ i,x=.int i/\Q (g i) H
section
variable {X:Cx} {a b c:Expr} {ta tb tc:TE} {pos:Pos}
def Kx (n:PE X a ta) (o:PE X b tb) {d:cV} {s:Shared} {e:St} {H:Hp} {R:V->V->Hp->Prop} (I:Inv X d e H s)
  (h:ta e H λx m=>tb e m λy g=>R x y g) {Q:cS} {f:Value->Value->Sem Value}
  (p:∀ v u k x y g,Inv X d e g k->RelV x v->RelV y u->R x y g->wpAny (model X.prog X.w) X.A (f v u) Q X.xe k) :
  wpAny (model X.prog X.w) X.A (eval a X.env) (λv i=>wpAny (model X.prog X.w) X.A (eval b X.env) (λu j=>wpAny (model X.prog X.w) X.A (f v u) Q X.xe j) X.xe i) X.xe s:=by
 refine F_ (n d s e H _ I h) λv q ⟨x,m,r,w,z⟩=>?_;refine F_ (o d q e m _ r z) λu k ⟨y,g,A,B,C⟩=>?_;exact p v u k x y g A w B C
def AG {e:Operator} {r:R2} (f:OpR X (binaryOp e) r) (g:PE X a ta) (i:PE X b tb):PE X (.BinOp a e b pos) (A_ r ta tb):=by
 intro d s j H Q I h;exact wpAny_BinOp (Kx g i I h λv u k x y m n o p q=>f d k j m x y v u Q n o p q)
def CP {e:UnaryOp} {r:V->Hp->VK->Prop} (g:UnR X (unaryOp e) r) (i:PE X a ta):PE X (.UnaryOp e a pos) (Q_ r ta):=by
 intro d s f H Q I h;exact UnaryOp_ (F_ (i d s f H _ I h) λv j ⟨x,k,m,n,o⟩=>g d j f k x v Q m n o)
def bo {f:Value->Value->Sem Value} {C:Int->Int->Prop} {g:Int->Int->Int}
  (rule:∀ (i j:Int) (t u:Tok) (s:Shared) (Q:cS) (E:cS),C i j->Q (.int (g i j) s.toks) { s with toks:=s.toks+1 }->wpAny (model X.prog X.w) X.A (f (.int i t) (.int j u)) Q E s) :
  OpR X f (rI C λi j=>.int (g i j)):=by
 intro e s p H x y v u Q I k m h;obtain ⟨i,j,rfl,rfl,n,q⟩:=h;obtain ⟨t,rfl⟩:=k;obtain ⟨o,rfl⟩:=m;exact rule i j t o s _ _ n ⟨.int (g i j),H,I.tok _,⟨_,rfl⟩,q⟩
def JT {f:Value->Value->Sem Value} {g:Int->Int->Int}
  (rule:∀ (i j:Int) (t u:Tok) (s:Shared) (Q:cS) (E:cS),Q (.int (g i j) s.toks) { s with toks:=s.toks+1 }->wpAny (model X.prog X.w) X.A (f (.int i t) (.int j u)) Q E s) :
  OpR X f (ae λi j=>.int (g i j)):=by
 intro e s o H x y v u Q I k m h;obtain ⟨i,j,rfl,rfl,q⟩:=h;obtain ⟨t,rfl⟩:=k;obtain ⟨n,rfl⟩:=m;exact rule i j t n s _ _ ⟨.int (g i j),H,I.tok _,⟨_,rfl⟩,q⟩
def Ky {f:Value->Value->Sem Value} {g:Int->Int->Bool}
  (rule:∀ (i j:Int) (t u:Tok) (s:Shared) (Q:cS) (E:cS),Q (.bool (g i j)) s->wpAny (model X.prog X.w) X.A (f (.int i t) (.int j u)) Q E s) :
  OpR X f (ae λi j=>.bl (g i j)):=by
 intro d s n H x y v u Q I e k h;obtain ⟨i,j,rfl,rfl,q⟩:=h;obtain ⟨t,rfl⟩:=e;obtain ⟨m,rfl⟩:=k;exact rule i j t m s _ _ ⟨.bl (g i j),H,I,rfl,q⟩
def Br:OpR X (binaryOp .Add) (ae λi j=>.int (i+j)):=JT λ_ _ _ _ _ _ _ q=>add_int q
def BY:OpR X (binaryOp .Sub) (ae λi j=>.int (i - j)):=JT λ_ _ _ _ _ _ _ q=>sub_int q
def BH:OpR X (binaryOp .Mod) (rI (λ_ j=>0<j) λi j=>.int (i % j)):=bo λi j _ _ _ _ _ d q=>by
 have e:(0:Int)<j:=d;exact mod_int' ⋯ (by rw [Int.fmod_eq_emod_of_nonneg i ⋯];exact q)
def Uk:OpR X (binaryOp .Mod) (rI (λ_ j=>j≠0) λi j=>.int (i.fmod j)):=bo λ_ _ _ _ _ _ _ d q=>mod_int' d q
def Kz:OpR X (inplaceOp .Add) (ae λi j=>.int (i+j)):=JT λ_ _ _ _ _ _ _ q=>iadd_int q
def II:OpR X (inplaceOp .Sub) (ae λi j=>.int (i - j)):=JT λ_ _ _ _ _ _ _ q=>isub_int q
def Um {f:Value->Sem Value} {g:Int->Int}
  (rule:∀ (i:Int) (t:Tok) (s:Shared) (Q:cS) (E:cS),Q (.int (g i) s.toks) { s with toks:=s.toks+1 }->wpAny (model X.prog X.w) X.A (f (.int i t)) Q E s) :
  UnR X f (rU λi=>.int (g i)):=by
 intro e s k H x v Q I j h;obtain ⟨i,rfl,q⟩:=h;obtain ⟨t,rfl⟩:=j;exact rule i t s _ _ ⟨.int (g i),H,I.tok _,⟨_,rfl⟩,q⟩
def CQ:UnR X (unaryOp .USub) (rU λi=>.int (-i)):=Um λ_ _ _ _ _ q=>neg_int q
end
noncomputable def scal:V->V->Bool
 | .non,.non=>true | .non,.int _=>true | .int _,.non=>true | .non,.bl _=>true | .bl _,.non=>true | .non,.str _=>true | .str _,.non=>true
 | .int _,.int _=>true | .bl _,.bl _=>true | .str _,.str _=>true | .byt _,.byt _=>true
 | .int _,.str _=>true | .str _,.int _=>true | .bl _,.str _=>true | .str _,.bl _=>true
 | _,_=>false
def X_:R2:=λx y H Q=>scal x y=true/\Q (.bl (decide (x=y))) H
def aC:R2:=λx y H Q=>scal x y=true/\Q (.bl (!decide (x=y))) H
def NX {i j:Int}:decide (V.int i=V.int j)=(i == j):=by
 rw [Bool.eq_iff_iff];simp
def NY {i j:Bool}:decide (V.bl i=V.bl j)=(i == j):=by
 rw [Bool.eq_iff_iff];simp
def NZ {i j:Str}:decide (V.str i=V.str j)=(i == j):=by
 rw [Bool.eq_iff_iff];simp
def Na {i j:Array UInt8}:decide (V.byt i=V.byt j)=(i.toList == j.toList):=by
 rw [Bool.eq_iff_iff];cases i;cases j;simp
section
variable {X:Cx} {a b c:Expr} {ta tb tc:TE} {pos:Pos}
def BZ {d:cV} {f:St} {H:Hp} {s:Shared} {Q:VK} {k g:Bool} (I:Inv X d f H s) (q:Q (.bl k) H) (e:k=g):EP X d f Q (.bool g) s:=by
 subst e;exact ⟨.bl k,H,I,rfl,q⟩
theorem C6:OpR X (compareOp .Eq) X_:=by
 intro k s m H x y v u Q I g d h;obtain ⟨f,q⟩:=h;cases x with
 | non=>
   cases g;cases y with
   | non=>cases d;exact PySem.EqNone.eq_none_none (BZ I q (by simp))
   | bl j=>cases d;exact PySem.EqNone.eq_none_bool (BZ I q (by simp))
   | int j=>obtain ⟨e,rfl⟩:=d;exact PySem.EqNone.eq_none_int (BZ I q (by simp))
   | str j=>obtain ⟨e,rfl⟩:=d;exact PySem.EqNone.eq_none_str (BZ I q (by simp))
   | _=>exact absurd (show false=true from f) Cd
 | bl i=>
   cases g;cases y with
   | non=>cases d;exact PySem.EqNone.eq_bool_none (BZ I q (by simp))
   | bl j=>cases d;exact eq_bool (BZ I q NY)
   | str j=>obtain ⟨e,rfl⟩:=d;exact PySem.EqMixed.eq_bool_str (BZ I q (by simp))
   | _=>exact absurd (show false=true from f) Cd
 | int i=>
   obtain ⟨t,rfl⟩:=g;cases y with
   | non=>cases d;exact PySem.EqNone.eq_int_none (BZ I q (by simp))
   | int j=>obtain ⟨e,rfl⟩:=d;exact eq_int (BZ I q NX)
   | str j=>obtain ⟨e,rfl⟩:=d;exact PySem.EqMixed.eq_int_str (BZ I q (by simp))
   | _=>exact absurd (show false=true from f) Cd
 | str i=>
   obtain ⟨t,rfl⟩:=g;cases y with
   | non=>cases d;exact PySem.EqNone.eq_str_none (BZ I q (by simp))
   | bl j=>cases d;exact PySem.EqMixed.eq_str_bool (BZ I q (by simp))
   | int j=>obtain ⟨e,rfl⟩:=d;exact PySem.EqMixed.eq_str_int (BZ I q (by simp))
   | str j=>obtain ⟨e,rfl⟩:=d;exact eq_str (BZ I q NZ)
   | _=>exact absurd (show false=true from f) Cd
 | byt i=>
   obtain ⟨t,rfl⟩:=g;cases y with
   | byt j=>obtain ⟨e,rfl⟩:=d;exact W.eq_bytes (BZ I q Na)
   | _=>exact absurd (show false=true from f) Cd
 | _=>cases y <;> exact absurd (show false=true from f) Cd
theorem Fc:OpR X (compareOp .NotEq) aC:=by
 intro k s m H x y v u Q I g d h;obtain ⟨f,q⟩:=h;cases x with
 | non=>
   cases g;cases y with
   | non=>cases d;exact PySem.EqNone.ne_none_none (BZ I q (by simp))
   | bl j=>cases d;exact PySem.EqNone.ne_none_bool (BZ I q (by simp))
   | int j=>obtain ⟨e,rfl⟩:=d;exact PySem.EqNone.ne_none_int (BZ I q (by simp))
   | str j=>obtain ⟨e,rfl⟩:=d;exact PySem.EqNone.ne_none_str (BZ I q (by simp))
   | _=>exact absurd (show false=true from f) Cd
 | bl i=>
   cases g;cases y with
   | non=>cases d;exact PySem.EqNone.ne_bool_none (BZ I q (by simp))
   | bl j=>cases d;exact ne_bool (BZ I q (congrArg not NY))
   | str j=>obtain ⟨e,rfl⟩:=d;exact PySem.EqMixed.ne_bool_str (BZ I q (by simp))
   | _=>exact absurd (show false=true from f) Cd
 | int i=>
   obtain ⟨t,rfl⟩:=g;cases y with
   | non=>cases d;exact PySem.EqNone.ne_int_none (BZ I q (by simp))
   | int j=>obtain ⟨e,rfl⟩:=d;exact ne_int (BZ I q (congrArg not NX))
   | str j=>obtain ⟨e,rfl⟩:=d;exact PySem.EqMixed.ne_int_str (BZ I q (by simp))
   | _=>exact absurd (show false=true from f) Cd
 | str i=>
   obtain ⟨t,rfl⟩:=g;cases y with
   | non=>cases d;exact PySem.EqNone.ne_str_none (BZ I q (by simp))
   | bl j=>cases d;exact PySem.EqMixed.ne_str_bool (BZ I q (by simp))
   | int j=>obtain ⟨e,rfl⟩:=d;exact PySem.EqMixed.ne_str_int (BZ I q (by simp))
   | str j=>obtain ⟨e,rfl⟩:=d;exact ne_str (BZ I q (congrArg not NZ))
   | _=>exact absurd (show false=true from f) Cd
 | byt i=>
   obtain ⟨t,rfl⟩:=g;cases y with
   | byt j=>obtain ⟨e,rfl⟩:=d;exact W.ne_bytes (BZ I q (congrArg not Na))
   | _=>exact absurd (show false=true from f) Cd
 | _=>cases y <;> exact absurd (show false=true from f) Cd
def GT:OpR X (compareOp .Lt) (ae λi j=>.bl (decide (i<j))):=Ky λ_ _ _ _ _ _ _ q=>lt_int q
def Fe:OpR X (compareOp .Gt) (ae λi j=>.bl (decide (j<i))):=Ky λ_ _ _ _ _ _ _ q=>gt_int q
def Nc:OpR X (compareOp .GtE) (ae λi j=>.bl (decide (j<=i))):=Ky λ_ _ _ _ _ _ _ q=>ge_int q
def Nd:OpR X (compareOp .Is) (λx y H Q=>y=.non/\Q (.bl (decide (x=.non))) H):=by
 intro d s g H x y v u Q I e f h;obtain ⟨rfl,q⟩:=h;cases f;refine is_none_gen (BZ I q ?_)
 cases x <;> first
  | (cases e;rfl)
  | (obtain ⟨t,rfl⟩:=e;rfl)
def Uo:OpR X (compareOp .IsNot) (λx y H Q=>y=.non/\Q (.bl (!decide (x=.non))) H):=by
 intro d s g H x y v u Q I e f h;obtain ⟨rfl,q⟩:=h;cases f;refine isnot_none_gen (BZ I q ?_)
 cases x <;> first
  | (cases e;rfl)
  | (obtain ⟨t,rfl⟩:=e;rfl)
def ai (b:Expr) {d:CmpOp} (h:d≠.In:=by decide) (e:d≠.NotIn:=by decide):behindInMarks d b=false:=by
 have f:(d == CmpOp.In)=false:=by cases d <;> first | rfl | exact absurd rfl h
 have g:(d == CmpOp.NotIn)=false:=by cases d <;> first | rfl | exact absurd rfl e
 cases b <;> simp [behindInMarks,f,g]
def Nf {e:CmpOp} {r:R2} (f:OpR X (compareOp e) r) (g:PE X a ta) (i:PE X b tb) (j:behindInMarks e b=false):PE X (.Compare a [e] [b] pos) (A_ r ta tb):=by
 intro d s k H Q I h;exact wpAny_Compare1 (Kx g i I h λv u m x y n o p w q=>f d m k n x y v u Q o p w q) j
def Ax (t:TE):TT:=λd H Q=>t d H λx e=>∃ k,x=.bl k/\Q k e
def K0 {f:CmpOp} {r:R2} (i:OpR X (compareOp f) r) (j:PE X a ta) (m:PE X b tb) (n:behindInMarks f b=false):PT X (.Compare a [f] [b] pos) (Ax (A_ r ta tb)):=by
 intro d s g H Q I h
 refine wpAny_isTrue_Compare1 (F_ (j d s g H _ I h) λv o ⟨x,p,q,w,A⟩=>F_ (m d o g p _ q A) λu B ⟨y,C,D,E,F⟩=>
  F_ (i d B g C x y v u _ D w E F) λc M ⟨z,G,J,K,k,e,L⟩=>?_) n
 subst e;cases K;exact wpAny_truthy_bool ⟨G,J,L⟩
def Up (r f:R2) (ta tb tc:TE):TE:=λd H Q=>ta d H λx g=>tb d g λy h=>r x y h λz e=>∃ k,z=.bl k/\
 (if k=true then tc d e λi j=>f y i j Q else Q (.bl false) e)
def Uq (K:W.Frag) (x:V) (H:Hp) (k:Bool):Prop:=
 match x with
 | .non=>k=false
 | .bl b=>k=b
 | .int i=>k=(i != 0)
 | .str y=>y.length<=sizeLine/\k=((y.length:Int) != 0)
 | .byt y=>y.size<=sizeLine/\k=((y.size:Int) != 0)
 | .ref p=>(∃ d,SqL K H p d/\k=!d.isEmpty)\/(∃ d,SqT K H p d/\k=!d.isEmpty)\/∃ e,H p=some (.dK e)/\k=!e.isEmpty
 | _=>False
def Ur {e:Type} {d:List (e×V)} {vs:List (e×Value)} (r:KV d vs):(!vs.isEmpty)=!d.isEmpty:=by
 cases r <;> rfl
def Ng {xs:cN} {its:cQ} (r:Vals xs its):(!its.toArray.isEmpty)=!xs.isEmpty:=by
 cases r <;> simp
def HI:(sizeLine:Nat)<2 ^ 63:=by rw [sizeLine_eq];decide
theorem Us:Uj X (λx H Q=>∃ k,Uq X.K x H k/\Q k H):=by
 intro A s E H x v Q I n h;obtain ⟨k,e,q⟩:=h;have F:=HI;have G:sizeLine=16777216:=sizeLine_eq;cases x with
 | non=>
   cases n;have d:k=false:=e;subst d;exact truthy_none ⟨H,I,q⟩
 | bl b=>
   cases n;have d:k=b:=e;subst d;exact wpAny_truthy_bool ⟨H,I,q⟩
 | int i=>
   obtain ⟨t,rfl⟩:=n;have d:k=(i != 0):=e;subst d;exact PySem.P.truthy_int ⟨H,I,q⟩
 | str y=>
   obtain ⟨t,rfl⟩:=n;obtain ⟨C,d⟩:y.length<=sizeLine/\k=((y.length:Int) != 0):=e;subst d;exact PySem.P.truthy_str ⋯ ⟨H,I.tok _,q⟩
 | byt y=>
   obtain ⟨t,rfl⟩:=n;obtain ⟨C,d⟩:y.size<=sizeLine/\k=((y.size:Int) != 0):=e;subst d;exact W.truthy_bytes ⋯ ⟨H,I.tok _,q⟩
 | ref p=>
   cases n;have d:(∃ j,SqL X.K H p j/\k=!j.isEmpty)\/(∃ j,SqT X.K H p j/\k=!j.isEmpty)\/∃ f,H p=some (.dK f)/\k=!f.isEmpty:=e;rcases d with ⟨j,o,d⟩ | ⟨j,o,d⟩ | ⟨f,o,d⟩
   ·subst d;obtain ⟨w,r,z,B⟩:=I.list o;have g:=r.length;exact wpAny_truthy_list z.isList (by simp only [Bf];omega) ⟨H,I.tok _,by rw [Ng r];exact q⟩
   ·subst d;obtain ⟨w,r,z,B⟩:=I.tuple o;have g:=r.length;exact truthy_tuple z (by simp only [Bf];omega) ⟨H,I.tok _,by rw [Ng r];exact q⟩
   ·subst d;obtain ⟨B,D,u,r,m⟩:f.length<=sizeLine/\(p == sysModules)=false/\∃ u,KV f u/\s.heap.DictOf (Kr X.prog X.w) p u:=I.hok p _ o;have g:f.length=u.length:=Paired.length r;exact wpAny_truthy_dict D m ⋯ ⟨H,I.tok _,by rw [Ur r];exact q⟩
 | _=>exact (show False from e).elim
theorem Ey {x:V} {d:cQ} (r:Vals [x] d):∃ u,d=[u]/\RelV x u:=by
 cases r with
 | cons e f=>cases f;exact ⟨_,rfl,e⟩
theorem vals2 {x y:V} {d:cQ} (r:Vals [x,y] d):∃ u e,d=[u,e]/\RelV x u/\RelV y e:=by
 cases r with
 | cons f g=>
   cases g with
   | cons h i=>cases i;exact ⟨_,_,rfl,f,h⟩
def Ut:Cb X (.builtin "abs") (λd H Q=>∃ i,d=[.int i]/\Q (.int (if i<0 then -i else i)) H):=by
 intro e s f H d g Q I r h;obtain ⟨i,rfl,q⟩:=h;obtain ⟨u,rfl,t,rfl⟩:=Ey r;exact call_abs_int λu j=>⟨.int (if i<0 then -i else i),H,I.tok _,⟨_,rfl⟩,q⟩
def Uu (g:X.calm=true):Cb X (.builtin "max") (λe H Q=>∃ i j,e=[.int i,.int j]/\Q (.int (if j > i then j else i)) H):=by
 intro f s m H e n Q I r h;obtain ⟨i,j,rfl,q⟩:=h;obtain ⟨u,o,rfl,⟨t,rfl⟩,⟨p,rfl⟩⟩:=vals2 r;refine max_two_ints (I.ok.hd g) λv w k=>⟨_,H,I.kept k,?_,q⟩;by_cases d:j > i
 ·rw [sC d,sC d];exact ⟨_,rfl⟩
 ·rw [sB d,sB d];exact ⟨_,rfl⟩
def Uv (g:X.calm=true):Cb X (.builtin "min") (λe H Q=>∃ i j,e=[.int i,.int j]/\Q (.int (if j<i then j else i)) H):=by
 intro f s m H e n Q I r h;obtain ⟨i,j,rfl,q⟩:=h;obtain ⟨u,o,rfl,⟨t,rfl⟩,⟨p,rfl⟩⟩:=vals2 r;refine min_two_ints (I.ok.hd g) λv w k=>⟨_,H,I.kept k,?_,q⟩;by_cases d:j<i
 ·rw [sC d,sC d];exact ⟨_,rfl⟩
 ·rw [sB d,sB d];exact ⟨_,rfl⟩
def Uw:Cb X (.type "int") (λd H Q=>(∃ i,d=[.int i]/\Q (.int i) H)\/∃ k,d=[.bl k]/\Q (.int (if k then 1 else 0)) H):=by
 intro e s g H d j Q I r h;rcases h with ⟨i,rfl,q⟩ | ⟨k,rfl,q⟩
 ·obtain ⟨u,rfl,t,rfl⟩:=Ey r;exact call_int_int ⟨.int i,H,I,⟨_,rfl⟩,q⟩
 ·obtain ⟨u,rfl,f⟩:=Ey r;cases f;exact call_int_bool ⟨.int (if k then 1 else 0),H,I.tok _,⟨_,rfl⟩,q⟩
end
structure ObjM (h:Heap) (x dx C:Addr) (mA:cW):Prop where
 obj:h.get? x=some (W.instObj C dx)
 ns:h.Ns1 dx mA
 ne:dx≠x
def Ux {h:Heap} {d:Addr} {f:cW} (n:h.Ns1 d f):∃ g,h.get? d=some g/\∀ b,W.lookIn b g=some (f b):=by
 obtain ⟨o,i,u,j,k,hk,_,m⟩:=n;refine ⟨o,j,λb=>?_⟩;have e:=m b;unfold nsFind findBy at e;rw [<-Array.find?_toList] at e;unfold W.lookIn;rw [k];dsimp only;split
 ·rename_i y q;rw [q] at e;exact congrArg some e
 ·rename_i q;rw [q] at e
  have a:i.toList.any (·.refKey)=false:=by
   rw [List.any_eq_false];intro y p;obtain ⟨z,t,c⟩:=hk y (Array.mem_toList_iff.mp p);simp [DictEntry.refKey,c]
  have r:¬ i.toList.any (·.refKey)=true:=by rw [a];exact Cd
  rw [sB r];exact congrArg some e
def ObjM.look {h:Heap} {x c C:Addr} {d:cW} (I:ObjM h x c C d):∃ b,W.InstAt h x (W.instObj C c) C (some b)/\∀ a,W.lookIn a b=some (d a):=
 let ⟨b,e,f⟩:=Ux I.ns
 ⟨b,⟨I.obj,rfl,rfl,e⟩,f⟩
section
variable {P:Program} {w:World} {H H':Hp} {h h':Heap} {a C dx:Addr} {fs fs':List (Str×V)}
def Uz (c:HOk P w H h) (e:H a=some (.ins C dx fs)):∃ b,ObjM h a dx C b/\(∀ f,Ks (fs.lookup f) (b f))/\PySem.Within b (fs.map (·.1))/\fs.length<=1000/\H dx=some (.own a):=by
 obtain ⟨d,z,g,i,b,n,r,q⟩:=(show ObjOk P w H h a (.ins C dx fs) from c a _ e);exact ⟨b,⟨i,n,g⟩,r,q,z,d⟩
end
structure Cls (K:W.Frag) (C:Addr):Prop where
 pg:W.plainGet K C Str.empty=true
 hd:W.hasDictIn K C=true
 po:W.plainOver K C=true
 sa:W.findIn K (.ref C) "__setattr__" = some (some (.builtin "object.__setattr__"))
def Cls.get {K:W.Frag} {C:Addr} (c:Cls K C) (f:Str):W.plainGet K C f=true:=c.pg
structure Con (K:W.Frag) (C:Addr) (f:Str) (v:V) (u:Value):Prop where
 at_:W.findIn K (.ref C) f=some (some u)
 rel:RelV v u
 get:W.specialIn K u "__get__" = some none
 cp:W.copiedNames.contains f=false
structure Meth (K:W.Frag) (C:Addr) (m:Str) (f:Addr):Prop where
 at_:W.findIn K (.ref C) m=some (some (.ref f))
 fn:W.isFn K (.ref f)=true
 kp:W.keepIn K (.ref f)=true
section
variable {X:Cx} {pins:cV} {σ:St} {H:Hp} {s:Shared} {A:Around} {E:cS} {Q:cS} {c:Value} {b:Bool}
inductive TyOf (K:W.Frag) (H:Hp):V->Value->Prop where
 | non:TyOf K H .non (.type "NoneType")
 | bl (x:Bool):TyOf K H (.bl x) (.type "bool")
 | int (i:Int):TyOf K H (.int i) (.type "int")
 | str (x:Str):TyOf K H (.str x) (.type "str")
 | flt (x:UInt64):TyOf K H (.flt x) (.type "float")
 | lst {a:Addr} {xs:cN} (e:H a=some (.lst xs)):TyOf K H (.ref a) (.type "list")
 | frz {a:Addr} {o:Obj} {xs:cN} (e:H a=some (.frz o (.lst xs))):TyOf K H (.ref a) (.type "list")
 | tup {a:Addr} {xs:cN} (e:H a=some (.tup xs)):TyOf K H (.ref a) (.type "tuple")
 | dK {a:Addr} {kvs:List (aa×V)} (e:H a=some (.dK kvs)):TyOf K H (.ref a) (.type "dict")
 | dT {a:Addr} {kvs:List (List aa×V)} (e:H a=some (.dT kvs)):TyOf K H (.ref a) (.type "dict")
 | ins {a C dx:Addr} {fs:List (Str×V)} (e:H a=some (.ins C dx fs)) (cl:Cls K C) (ha:W.findIn K (.ref C) "__class__" = some (some (.builtin "object.__class__")))
   (hn:W.specialIn K (.builtin "object.__class__") "__get__" = some (some (.builtin "getset_descriptor.__get__"))) (htk:W.takesIn K (.builtin "object.__class__")=some true)
   (hm:W.mroIn K C (.type "object")=some true):TyOf K H (.ref a) (.ref C)
theorem U3 {x:V} {u t:Value} (I:Inv X pins σ H s) (d:RelV x u) (B:TyOf X.K H x t) (e:W.kitOne X.K t c=some b) (h:∀ D,Q (.bool b) { s with toks:=D }) :
  wpAny (model X.prog X.w) A (call (.builtin "isinstance") [u,c]) Q E s:=by
 cases B with
 | non=>cases (show u=Value.none from d);exact W.kia_one W.kitx_none I.kIn True.intro e (λz=>nomatch z) h
 | bl y=>cases (show u=Value.bool y from d);exact W.kia_one W.kitx_bool I.kIn True.intro e (λz=>nomatch z) h
 | int i=>obtain ⟨t,q⟩:=(show ∃ t,u=Value.int i t from d);cases q;exact W.kia_one W.kitx_int I.kIn True.intro e (λz=>nomatch z) h
 | str y=>obtain ⟨t,q⟩:=(show ∃ t,u=Value.str y t from d);cases q;exact W.kia_one W.kitx_str I.kIn True.intro e (λz=>nomatch z) h
 | flt y=>obtain ⟨t,q⟩:=(show ∃ t,u=Value.float y t from d);cases q;exact W.kia_one W.kitx_float I.kIn True.intro e (λz=>nomatch z) h
 | @lst a k f=>
   cases (show u=Value.ref a from d);obtain ⟨_,_,n,_,g⟩:=(show ObjOk X.prog X.w H s.heap a (.lst k) from I.hok a _ f);exact W.kia_one W.kitx_list I.kIn ⟨_,g,rfl⟩ e (λz=>nomatch z) h
 | @frz a F k f=>
   cases (show u=Value.ref a from d);obtain ⟨_,_,_,n,_,g⟩:=(show ObjOk X.prog X.w H s.heap a (.frz F (.lst k)) from I.hok a _ f);exact W.kia_one W.kitx_list I.kIn ⟨_,g,rfl⟩ e (λz=>nomatch z) h
 | @tup a k f=>
   cases (show u=Value.ref a from d);obtain ⟨_,_,_,p⟩:=(show ObjOk X.prog X.w H s.heap a (.tup k) from I.hok a _ f);obtain ⟨o,g,m,_⟩:=p;exact W.kia_one W.kitx_tuple I.kIn ⟨o,g,m⟩ e (λz=>nomatch z) h
 | @dK a j f=>
   cases (show u=Value.ref a from d);obtain ⟨_,_,P,_,p⟩:=(show ObjOk X.prog X.w H s.heap a (.dK j) from I.hok a _ f);obtain ⟨o,G,K,g,m,_⟩:=p;exact W.kia_one W.kitx_dict I.kIn ⟨o,g,m.1⟩ e (λz=>nomatch z) h
 | @dT a j f=>
   cases (show u=Value.ref a from d);obtain ⟨_,_,k,_,o,G,K,g,m,_⟩:=(show ObjOk X.prog X.w H s.heap a (.dT j) from I.hok a _ f);exact W.kia_one W.kitx_dict I.kIn ⟨o,g,m.1⟩ e (λz=>nomatch z) h
 | @ins a C R S f w L M r N=>
   cases (show u=Value.ref a from d);obtain ⟨T,O,_⟩:=Uz I.hok f;obtain ⟨U,J,_⟩:=O.look;exact W.kia_one (W.kitx_own (w.get _) w.hd L M r N) I.kIn J e (λz=>nomatch z) h
end
structure Room (k:Nat) (A:Around):Prop where
 hd:A.handled=none
 dp:A.depth+3*k+105<recursionLimit
 un:A.units+16*k+200<cLine
def Room.mono {j k:Nat} {A:Around} (r:Room k A) (h:j<=k):Room j A:=⟨r.hd,by have:=r.dp;omega,by have:=r.un;omega⟩
def Room.deeper {k:Nat} {A:Around} (r:Room (k+1) A) (a:Env):Room k (A.deeper a):=
 ⟨r.hd,by have:=r.dp;show A.depth+1+3*k+105<_;omega,by have:=r.un;show A.units+3+16*k+200<_;omega⟩
def Room.depth {k:Nat} {A:Around} (r:Room k A):A.depth<recursionLimit:=by have:=r.dp;omega
def Room.units {k:Nat} {A:Around} (r:Room k A):A.units+64<cLine:=by have:=r.un;omega
def Room.units0 {k:Nat} {A:Around} (r:Room k A):A.units<cLine:=by have:=r.un;omega
def AC:TA:=λ_ H Q=>Q [] H
def AB (b:TE) (tr:TA):TA:=λa H Q=>b a H λx c=>tr a c λd e=>Q (x::d) e
section
variable {X:Cx} {e:Expr} {es:cZ} {te:TE} {t:TA} {pos:Pos}
def AN:PA X [] AC:=λ_ _ _ _ H Q I h=>Calls.spliced_nil ⟨[],H,I,.nil,h⟩
def AD (c:PE X e te) (d:PA X es t) (f:starEach (e::es) X.env=(false,eval e X.env)::starEach es X.env:=by rfl):PA X (e::es) (AB te t):=by
 intro pos a s b H Q I h;rw [f];show wpAny _ _ (spliced ((false,eval e X.env)::backTo pos (starEach es X.env))) _ _ s;refine Calls.spliced_cons (F_ (c a s b H _ I h) λu g ⟨x,i,j,k,m⟩=>?_);exact F_ (d pos a g b i _ j m) λv w ⟨n,o,p,q,r⟩=>⟨x::n,o,p,.cons k q,r⟩
def A6 (t:TA):TE:=λc H Q=>t c H λa b=>a.length<=sizeLine/\∀ p,b p=none->Q (.ref p) (upd b p (.tup a))
def BQ (t:TA):TE:=λc H Q=>t c H λa b=>a.length<=sizeLine/\∀ p,b p=none->Q (.ref p) (upd b p (.lst a))
def BI {x1} (h:PA X es t):PE X (.Tuple es x1 pos) (A6 t):=by
 intro a s g H Q I i;refine wpAny_Tuple_spliced (F_ (h pos a s g H _ I i) λj c ⟨k,d,f,r,z,q⟩=>⟨by rw [<-r.length];exact z,?_⟩);have m:d c.heap.objs.size=none:=f.hok.fresh (AU _);refine ⟨.ref c.heap.objs.size,upd d c.heap.objs.size (.tup k),f.laid (t':=c.toks) (λb u e=>Heap.get?_push_of_some _ e) (AU _) ?_,rfl,q _ m⟩;exact ⟨z,j,r,⟨_,Heap.get?_push_size _ rfl,rfl,_,rfl⟩⟩
def Bi (h:PA X es t):PE X (.List es pos) (BQ t):=by
 intro a s g H Q I i;refine wpAny_List_spliced (F_ (h pos a s g H _ I i) λj c ⟨k,d,f,r,z,q⟩=>⟨by rw [<-r.length];exact z,?_⟩);have m:d c.heap.objs.size=none:=f.hok.fresh (AU _);refine ⟨.ref c.heap.objs.size,upd d c.heap.objs.size (.lst k),f.laid (t':=c.toks) (λb u e=>Heap.get?_push_of_some _ e) (AU _) ?_,rfl,q _ m⟩;exact ⟨z,j,0,r,Heap.get?_push_size _ rfl⟩
end
noncomputable abbrev Sp:=cN->Hp->VK->XK->Prop
noncomputable abbrev aD:=List Env->Hp->Shared->XK->cS
structure Env0 (P:Program) (w:World) (K:W.Frag) (mg:cW) (base:Heap) (A:Around) (outer:List Env) (s:Shared) (H:Hp):Prop where
 frames:A.frames=some outer
 mod:Mod K mg base
 bs:∀ b o,base.get? b=some o->s.heap.get? b=some o/\H b=none
 bsz:base.objs.size<=s.heap.objs.size
 funs:s.heap.FunFrames base outer
 frf:∀ b∈aw outer,H b=none
 hok:HOk P w H s.heap
 bare:AllBare s.gens
 seer:base.NoSeer
 tree:(model P w).prog.given.tree=none
def CE (a:List Env) (P:Program) (w:World) (H:Hp) (s:Shared) (Q:VK) (u:Value) (s':Shared):Prop:=
 ∃ v b,s'.os=s.os/\AllBare s'.gens/\Un (aw a) [] H b s.heap s'.heap/\HOk P w b s'.heap/\RelV v u/\Q v b
def CR (CX:aD) (a:List Env) (P:Program) (w:World) (H:Hp) (s:Shared) (Q:VK) (E:XK) (r:Result) (s':Shared):Prop:=
 match r with
 | .ok (.ret u)=>CE a P w H s Q u s'
 | .ok _=>False
 | .error e=>CX a H s E e s'
structure FnOk (P:Program) (w:World) (K:W.Frag) (mg:cW) (base:Heap) (CX:aD) (k:Nat) (f:Addr) (fd:FuncData) (ps:c_) (sp:Sp):Prop where
 len:∀ vs H Q E,sp vs H Q E->vs.length=ps.length
 run:∀ (A:Around) (outer:List Env) (s:Shared) (H:Hp) (args:Args) (us:cQ) (vs:cN) (Q:VK) (E:XK),Room k A->Env0 P w K mg base A outer s H->BindsTo s fd args (ps.zip us)->Vals vs us->sp vs H Q E->
  codeAny (model P w) A (.call (.ref f) args) (CR CX outer P w H s Q E) s
section
variable {X:Cx} {pins:cV} {σ:St} {H:Hp} {s s':Shared}
def Inv.env0 (I:Inv X pins σ H s):Env0 X.prog X.w X.K X.mg X.base X.A X.stack s H:=
 ⟨I.ok.frames,I.ok.mod,I.bs,A7 I.ok.bsz I.sz,I.stack,I.stkFree,I.hok,I.bare,I.ok.seer,I.ok.tree⟩
def Inv.after {Q:VK} {u:Value} (I:Inv X pins σ H s) (h:CE X.stack X.prog X.w H s Q u s'):EP X pins σ Q u s':=by
 obtain ⟨v,f,os,a,i,c,r,q⟩:=h;obtain ⟨j,g,d,t,e⟩:=s';obtain rfl:e=s.os:=os;exact ⟨v,f,I.call (h':=j) (g':=g) (d':=d) (t':=t) (ch:=[]) i c a (λb z=>absurd z (by simp)),r,q⟩
end
def AF (sp:Sp) (a:cN) (E:XK) (t:TA):TE:=λb H Q=>t b H λc d=>sp (c++a) d Q E
def Binds (K:W.Frag) (c:FuncData) (ps:c_) (b:cQ):Prop:=
 ∀ (s:Shared) (a:cQ),K.In s.heap->(a++b).length=ps.length->BindsTo s c ⟨a,[]⟩ (ps.zip (a++b))
def Binds.all {K:W.Frag} {b:FuncData} {ps:c_} (h:∀ a:cQ,a.length=ps.length->bindArgs b ⟨a,[]⟩=pure (ps.zip a)):Binds K b ps []:=λs a _ c=>by
 rw [List.append_nil] at c ⊢;exact .of_eq (h a c)
def ak (CX:aD) (X:Cx) (E:XK):Prop:=∀ (a:cV) (c:St) (H:Hp) (s:Shared) (e:Value) (b:Shared),Inv X a c H s->CX X.stack H s E e b->X.xe e b
section
variable {X:Cx} {CX:aD} {k:Nat} {f C:Addr} {fd:FuncData} {ps:c_} {sp:Sp} {dvs:cN} {ds:cQ} {E:XK} {x m:Str} {p pos apos:Pos} {e o:Expr} {es:cZ} {ta:TE} {t:TA}
theorem U4 {a:cV} {d:St} {H:Hp} {s:Shared} {Q:VK} {b:cQ} {vs:cN} (F:FnOk X.prog X.w X.K X.mg X.base CX k f fd ps sp) (i:Room k X.A) (j:Binds X.K fd ps ds) (n:Vals dvs ds) (q:ak CX X E)
  (I:Inv X a d H s) (r:Vals vs b) (h:sp (vs++dvs) H Q E):wpAny (model X.prog X.w) X.A (call (.ref f) b) (EP X a d Q) X.xe s:=by
 have g:Vals (vs++dvs) (b++ds):=r.append n;have v:(b++ds).length=ps.length:=by rw [<-g.length];exact F.len _ _ _ _ h
 refine wpAny_call (codeAny_mono (F.run X.A X.stack s H ⟨b,[]⟩ (b++ds) (vs++dvs) Q E i I.env0 (j s b I.kIn v) g h) λr w c=>?_);cases r with
 | error e=>exact q a d H s e w I c
 | ok y=>
   cases y with
   | ret u=>exact I.after c
   | next=>exact False.elim c
   | brk=>exact False.elim c
   | cont=>exact False.elim c
def U5 (F:FnOk X.prog X.w X.K X.mg X.base CX k f fd ps sp) (g:Room k X.A) (i:Gl X x) (j:X.mg x=some (.ref f)) (hk:W.keepIn X.K (.ref f)=true) (n:Binds X.K fd ps ds) (u:Vals dvs ds) (v:ak CX X E)
  (w:PA X (e::es) t) (b:(x == ("__debug__" : Str))=false:=by decide) (y:starEach (e::es) X.env=(false,eval e X.env)::starEach es X.env:=by rfl) (c:(backTo pos (starEach es X.env)).any (·.1)=false:=by rfl) :
  PE X (.Call (.Name x p) (e::es) [] pos) (AF sp dvs E t):=by
 intro a s z H Q I h;refine wpAny_Call_Name_kw (NT I i j ?_ b);refine W.callWith_K (h₀:=X.base) I.ok.mod.kin hk (F_ (w pos a s z H _ I h) λA B ⟨D,G,d,r,q⟩=>⟨d.kIn,?_⟩) y c;exact U4 F g n u v d r q
structure Mk (K:W.Frag) (C f:Addr):Prop where
 makes:W.makesIn K C=true
 init:W.findIn K (.ref C) "__init__" = some (some (.ref f))
 fn:W.isFn K (.ref f)=true
 kp:W.keepIn K (.ref C)=true
end
def PK (X:Cx) (b:List Keyword) (t:TA):Prop:=
 ∀ (c:Pos) (a:cV) (s:Shared) (d:St) (H:Hp) (Q:cN->Hp->Prop),Inv X a d H s->t d H Q->wpAny (model X.prog X.w) X.A (evalAll ((backToKw c (keywordEach b X.env)).map (·.2))) (AP X a d Q) X.xe s
section
variable {X:Cx} {CX:aD} {k:Nat} {f C:Addr} {fd:FuncData} {ps ks:c_} {sp:Sp} {E:XK} {x m:Str} {p pos apos kpos:Pos} {e o:Expr} {es:cZ} {kws:List Keyword} {te ta:TE} {t tk:TA} {nm:Option Str}
def U6:PK X [] AC:=λ_ _ _ _ H Q I h=>wpAny_evalAll_nil ⟨[],H,I,.nil,h⟩
def U7 (c:PE X e te) (d:PK X kws t):PK X (⟨nm,e,kpos⟩::kws) (AB te t):=by
 intro pos a s b H Q I h;show wpAny _ _ (evalAll ((do let v <-eval e X.env;standAt pos;pure v)::(backToKw pos (keywordEach kws X.env)).map (·.2))) _ _ s;refine wpAny_evalAll_cons (sF (F_ (c a s b H _ I h) λu g ⟨x,i,j,n,q⟩=>sF (wpAny_standAt (sG ?_))));exact F_ (d pos a g b i _ j q) λB D ⟨r,w,y,z,A⟩=>⟨x::r,w,y,.cons n z,A⟩
structure KBinds (K:W.Frag) (fd:FuncData) (ps ks:c_) (g:cQ->cQ->cQ) (gV:cN->cN->cN):Prop where
 to:∀ (s:Shared) (us ws:cQ),K.In s.heap->(g us ws).length=ps.length->BindsTo s fd ⟨us,ks.zip ws⟩ (ps.zip (g us ws))
 rel:∀ {vs:cN} {us:cQ} {zs:cN} {ws:cQ},Vals vs us->Vals zs ws->Vals (gV vs zs) (g us ws)
variable {g:cQ->cQ->cQ} {gV:cN->cN->cN}
end
structure FnScope (N P:c_) (sc:Scope):Prop where
 kind:sc.kind=.function
 co:sc.isCoroutine=false
 gen:sc.isGenerator=false
 nd:N.Nodup
 pre:N.take P.length=P
 par:∀ x∈P,sc.names.lookup x=some .local\/sc.names.lookup x=some .cell
 nofree:∀ y∈sc.names,y.2≠.free
theorem Nh {kindOf:Str->Option NameKind} {x:Str}:∀ {a:List (Str×Value)} {m:cW},(∀ v,(x,v)∉a)->bindL kindOf a m x=m x
 | [],_,_=>rfl
 | (n,v)::r,m,h=>by
   unfold bindL;rw [Nh λw b=>h w (Ca _ b)];split
   ·have:x≠n:=by rintro rfl;exact h v CH
    simp [this]
   ·rfl
theorem Ni {kindOf:Str->Option NameKind} {x:Str}:∀ {a:List (Str×Value)} {m:cW},(∀ v,(x,v)∉a)->bindC kindOf a m x=m x
 | [],_,_=>rfl
 | (n,v)::r,m,h=>by
   unfold bindC;rw [Ni λw b=>h w (Ca _ b)];split
   ·rfl
   ·have:x≠n:=by rintro rfl;exact h v CH
    simp [this]
theorem Nj {kindOf:Str->Option NameKind} {x:Str} {v:Value}:∀ {P:c_} {vs:cQ} {i:Nat} {m:cW},P.Nodup->P[i]?=some x->vs[i]?=some v->kindOf x=some .local->
  bindL kindOf (P.zip vs) m x=some v
 | [],_,_,_,_,h,_,_=>by simp at h
 | _::_,[],_,_,_,_,h,_=>by simp at h
 | p::P,w::vs,0,m,c,a,b,hk=>by
   simp at a b;subst a;subst b;show bindL kindOf ((p,w)::P.zip vs) m p=_;unfold bindL;rw [Nh λv d=>(List.nodup_cons.mp c).1 (List.of_mem_zip d).1,sC hk];simp
 | p::P,w::vs,i+1,m,c,a,b,hk=>by
   show bindL kindOf ((p,w)::P.zip vs) m x=_;unfold bindL;exact Nj (i:=i) (List.nodup_cons.mp c).2 (by simpa using a) (by simpa using b) hk
theorem Nk {kindOf:Str->Option NameKind} {x:Str} {v:Value}:∀ {P:c_} {vs:cQ} {i:Nat} {m:cW},P.Nodup->P[i]?=some x->vs[i]?=some v->kindOf x≠some .local->
  bindC kindOf (P.zip vs) m x=some v
 | [],_,_,_,_,h,_,_=>by simp at h
 | _::_,[],_,_,_,_,h,_=>by simp at h
 | p::P,w::vs,0,m,c,a,b,hk=>by
   simp at a b;subst a;subst b;show bindC kindOf ((p,w)::P.zip vs) m p=_;unfold bindC;rw [Ni λv d=>(List.nodup_cons.mp c).1 (List.of_mem_zip d).1,sB hk];simp
 | p::P,w::vs,i+1,m,c,a,b,hk=>by
   show bindC kindOf ((p,w)::P.zip vs) m x=_;unfold bindC;exact Nk (i:=i) (List.nodup_cons.mp c).2 (by simpa using a) (by simpa using b) hk
noncomputable def start (N:c_) (vs:cN):St:=vs.map some++List.replicate (N.length - vs.length) none
noncomputable def GU (CX:aD) (P:Program) (w:World) (K:W.Frag) (i:cW) (d:Heap) (N:c_) (c:Str) (a:Scope) (f:Addr) (h:Value) (A:Around) (b:List Env) (s:Shared) (H:Hp) (E:XK):Cx where
 prog:=P
 w:=w
 K:=K
 mg:=i
 base:=d
 A:=A.deeper (envOfC c a s.heap.objs.size f h)
 N:=N
 s₀:=s
 H₀:=H
 env:=envOfC c a s.heap.objs.size f h
 outer:=b
 stack:=envOfC c a s.heap.objs.size f h::b
 ex:=[]
 calm:=true
 fn:=λ_=>true
 pn:=[]
 xe:=λe j=>wpAny (model P w) (A.deeper (envOfC c a s.heap.objs.size f h)) (leaving (envOfC c a s.heap.objs.size f h) e) (λ_ g=>CX b H s E e g) (λk g=>CX b H s E k g) j
def No {a:Scope} {n:Nat} {x:Str} (h:a.names.lookup x=some .cell):∃ c,(cellsFrom n a.names []).lookup x=some c:=by
 have q:=W.cellsFrom_some a.names n [] (.inl h);exact Option.isSome_iff_exists.mp q
def U8 {CX:aD} {P:Program} {w:World} {K:W.Frag} {M:cW} {B:Heap} {N ps:c_} {g:Str} {d:Scope} {f:Addr} {F:Value} {A:Around} {m:List Env} {s R:Shared} {H:Hp} {E:XK} {O:cQ} {vs:cN}
  (S:FnScope N ps d) (U:A.handled=none) (Q:(A.deeper (envOfC g d s.heap.objs.size f F)).depth+Builtin.pylongFrames<recursionLimit) (j:Env0 P w K M B A m s H) (hl:vs.length=ps.length) (r:Vals vs O)
  (x:InCallC s s.heap.objs.size (bindL (envOfC g d s.heap.objs.size f F).kindOf (ps.zip O) λ_=>none) (cellsFrom (s.heap.objs.size+1) d.names []) (bindC (envOfC g d s.heap.objs.size f F).kindOf (ps.zip O) λ_=>none) R) :
  Inv (GU CX P w K M B N g d f F A m s H E) [] (start N vs) H R:=by
 have X:ps.length<=N.length:=by have:=congrArg List.length S.pre;rw [CT] at this;omega
 obtain ⟨J,tk,rfl,hk⟩:=x.done;have C:∀ b:Addr,b∉(GU CX P w K M B N g d f F A m s H E).ex:=λb z=>absurd (show b∈([]:de) from z) (by simp)
 refine ⟨⟨j.mod,S.kind,rfl,rfl,AU _,λy z c J o=>?_,λy D=>?_,λy c _ h=>?_,λ_=>U,Around.frames_deeper j.frames,.inr ⟨rfl,rfl⟩,λb z=>absurd z (C b),j.bs,j.bsz,λb _ _=>C b,λb z=>absurd z (C b),j.funs,j.frf,j.seer,j.tree,λs' G=>PySem.PylongRoom.of (j.mod.nolimit.keeps G) Q (PySem.SeerAt.of (j.seer.keeps G) j.tree (Around.frames_deeper j.frames) S.gen S.co rfl rfl)⟩,
  rfl,j.bare,Un.kept hk,⟨_,x.toInCall.ns,λi y v J o h3=>?_⟩,λy c h=>⟨_,x.cell y c h⟩,j.hok.fresh (AU _),λy c h=>?_,λp hp=>absurd (show p∈([]:cV) from hp) (by simp),j.hok.kept hk,?_⟩
 ·exact name_of_addr x.apart (PySem.mem_of_lookup J) (PySem.mem_of_lookup o)
 ·have D:d.names.lookup y=some .cell\/d.names.lookup y=some .free:=D;rcases D with D | D
  ·exact No D
  ·exact absurd rfl (S.nofree _ (PySem.mem_of_lookup D))
 ·exact EB (x.above y c (PySem.mem_of_lookup h))
 ·have L:i<vs.length:=by
   unfold start at o;by_cases L:i<vs.length
   ·exact L
   ·rw [List.getElem?_append_right (by simpa using L)] at o;rw [ER] at o;split at o <;> cases o
  have Y:vs[i]?=some v:=by
   unfold start at o;rw [GF (by simpa using L),Aj] at o;cases e:vs[i]? with
   | none=>rw [e] at o;cases o
   | some a=>rw [e] at o;cases o;rfl
  obtain ⟨u,T,Z⟩:=r.get Y
  have hp:ps[i]?=some y:=by
   rw [<-S.pre,List.getElem?_take_of_lt ⋯];exact J
  have I:ps.Nodup:=by rw [<-S.pre];exact S.nd.sublist (List.take_sublist _ _)
  refine ⟨u,Z,?_⟩;rcases S.par y (BV hp) with k | k
  ·exact .inl ⟨k,Nj I hp T k⟩
  ·obtain ⟨c,e⟩:=No (n:=s.heap.objs.size+1) k;refine .inr ⟨.inl k,c,e,?_⟩;have q:=x.cell y c e;rw [Nk I hp T (by show d.names.lookup y≠_;rw [k];decide)] at q;exact q
 ·exact j.hok.fresh (EB (x.above y c (PySem.mem_of_lookup h)))
 ·unfold start;show _=N.length;rw [DB,AL,Dh];omega
theorem U9 {CX:aD} {P:Program} {w:World} {K:W.Frag} {O:cW} {h:Heap} {k:Nat} {f:Addr} {p d:Str} {i:Arguments} {j:List Stmt} {a:Scope} {dV kV F pm g ct oc:Value} {an od:Option Addr}
  {T:Array (Option Value)} {N ps:c_} {sp:Sp} (lk:K.lookup f=some ⟨oc,od,.func (W.fnOf p d i j a dV kV F pm an g ct),T⟩) (U:W.codeIn K g d=true) (S:FnScope N ps a)
  (len:∀ vs H Q E,sp vs H Q E->vs.length=ps.length)
  (B:∀ (A:Around) (c:List Env) (s:Shared) (H:Hp) (vs:cN) (Q:VK) (E:XK),Room k (A.deeper (envOfC d a s.heap.objs.size f g))->sp vs H Q E->
   ∃ t,PSs (GU CX P w K O h N d a f g A c s H E) j t/\t { nx:=λ_ z=>Q .non z,rt:=Q } (start N vs) H) :
  FnOk P w K O h CX (k+1) f (W.fnOf p d i j a dV kV F pm an g ct) ps sp:=by
 refine ⟨len,λA c s H a0 us vs Q E R G hb r L=>?_⟩;have hl:=len _ _ _ _ L;have KX:K.In s.heap:=G.mod.kin.keeps λb o e=>(G.bs b o e).1;have X:s.heap.NoLimit:=G.mod.nolimit.keeps λb o e=>(G.bs b o e).1
 have C:∀ y∈ps.zip us,a.names.lookup y.1=some .local\/(a.names.lookup y.1=some .cell/\((cellsFrom (s.heap.objs.size+1) a.names []).lookup y.1).isSome=true):=λ⟨n,v⟩ hy=>by
  rcases S.par n (List.of_mem_zip hy).1 with q | q
  ·exact .inl q
  ·exact .inr ⟨q,W.cellsFrom_some _ _ _ (.inl q)⟩
 refine codeAny_call_function R.depth (KX _ _ lk) rfl S.co S.gen rfl (W.codeRec_of KX U) (hb _ _ _ _ ?_);refine wpAny_newFunctionEnv_cells S.kind C λa1 he s1 x=>?_;subst he;refine ⟨X.keeps x.toInCall.keep,codeAny_func ?_⟩;obtain ⟨t,ht,hq⟩:=B A c s H vs Q E (R.deeper _) L;have I:Inv (GU CX P w K O h N d a f g A c s H E) [] (start N vs) H s1:=U8 S R.hd (by have:=(R.deeper (envOfC d a s.heap.objs.size f g)).dp;show _+100<_;omega) G hl r x;refine sI (ht [] s1 (start N vs) H _ I hq) (λfl Y D=>?_) λe Y D=>D
 have M:∀ {m:St} {z:Hp} {v:V} {u:Value},Inv (GU CX P w K O h N d a f g A c s H E) [] m z Y->RelV v u->Q v z->CE c P w H s Q u Y:=
  λ{m z v u} J Z q=>⟨v,z,J.os,J.bare,J.base,J.hok,Z,q⟩
 cases fl with
 | ret u=>
   obtain ⟨v,m,z,J,Z,q⟩:=D;exact M J Z q
 | next=>
   obtain ⟨m,z,J,q⟩:=D;exact M (v:=V.non) (u:=Value.none) J rfl q
 | brk=>
   obtain ⟨_,_,_,q⟩:=D;exact False.elim q
 | cont=>
   obtain ⟨_,_,_,q⟩:=D;exact False.elim q
section
variable {X:Cx} {x:Str} {p pos:Pos} {e:Expr} {es:cZ} {t:TA} {id T:String} {r:cN->Hp->VK->Prop}
def K_ (r:cN->Hp->VK->Prop) (t:TA):TE:=λa H Q=>t a H λb c=>r b c Q
def A4 (f:Cb X (.builtin id) r) (g:Gl X x) (i:X.mg x=none) (j:bootBuiltins x=some (.builtin id)) (k:PA X (e::es) t) (m:x ≠ "__name__" := by decide) (b:(x == ("__debug__" : Str))=false:=by decide)
  (n:starEach (e::es) X.env=(false,eval e X.env)::starEach es X.env:=by rfl) (c:(backTo pos (starEach es X.env)).any (·.1)=false:=by rfl):PE X (.Call (.Name x p) (e::es) [] pos) (K_ r t):=by
 intro a s d H Q I h;refine wpAny_Call_Name_kw (Ev I g i j ?_ m b);exact PyProof.Rows.callWith_builtin1 (F_ (k pos a s d H _ I h) λo q ⟨u,v,w,y,z⟩=>f a q d v u o Q w y z) n c
def HJ (f:Cb X (.type T) r) (g:Gl X x) (i:X.mg x=none) (j:bootBuiltins x=some (.type T)) (k:PA X (e::es) t) (m:x ≠ "__name__" := by decide) (b:(x == ("__debug__" : Str))=false:=by decide)
  (n:starEach (e::es) X.env=(false,eval e X.env)::starEach es X.env:=by rfl) (c:(backTo pos (starEach es X.env)).any (·.1)=false:=by rfl):PE X (.Call (.Name x p) (e::es) [] pos) (K_ r t):=by
 intro a s d H Q I h;refine wpAny_Call_Name_kw (Ev I g i j ?_ m b);exact PyProof.Rows.callWith_type1 (F_ (k pos a s d H _ I h) λo q ⟨u,v,w,y,z⟩=>f a q d v u o Q w y z) n c
end
end L2
namespace HT
open PySem PyProof.Rows
section
variable {prog:Program} {w:World} {A:Around} {E:cS} {s:Shared}
noncomputable def sIx (n d:Nat):Option Int->Nat
 | none=>d
 | some v=>if v<0 then (v+(n:Int)).toNat else min v.toNat n
end
end HT
namespace L2
open PySem PySem.Spec PyProof.Rows
noncomputable abbrev TO:=St->Hp->(Option Int->Hp->Prop)->Prop
def PO (X:Cx) (e:Option Expr) (t:TO):Prop:=
 ∀ (a:cV) (s:Shared) (b:St) (H:Hp) (Q:Option Int->Hp->Prop),Inv X a b H s->t b H Q->
   wpAny (model X.prog X.w) X.A (evalPart e X.env) (λu d=>∃ o c,Inv X a b c d/\IsPart u o/\Q o c) X.xe s
noncomputable def EX:TO:=λ_ H Q=>Q none H
noncomputable def Cg (t:TE):TO:=λa H Q=>t a H λx b=>∃ i,x=.int i/\Q (some i) b
section
variable {X:Cx} {e:Expr} {te:TE} {lo hi:Option Expr} {tl th:TO} {pos p2:Pos}
def Ff:PO X none EX:=by
 intro a s b H Q I h;rw [evalPart_none];exact sG ⟨none,H,I,.none,h⟩
def Dx (h:PE X e te):PO X (some e) (Cg te):=by
 intro a s b H Q I c;rw [evalPart_some];refine F_ (h a s b H _ I c) λu k ⟨x,d,f,g,j⟩=>?_;obtain ⟨i,rfl,q⟩:=j;obtain ⟨t,rfl⟩:=g;exact ⟨some i,d,f,.int i t,q⟩
def cb (X:Cx) (r:V->Option Int->Option Int->Hp->VK->Prop):Prop:=
 ∀ (a:cV) (s:Shared) (b:St) (H:Hp) (x:V) (v c d:Value) (lo hi:Option Int) (f:Addr) (Q:VK),Inv X a b H s->RelV x v->s.heap.IsSliceOf f c d .none->IsPart c lo->IsPart d hi->r x lo hi H Q->
   ∃ T id,typeLookup (.type T) "__getitem__" = pure (some (.builtin id))/\s.TypeIs v T/\wpAny (model X.prog X.w) X.A (getItem v (.ref f)) (EP X a b Q) X.xe s
def au (r:V->Option Int->Option Int->Hp->VK->Prop) (te:TE) (tl th:TO):TE:=λa H Q=>te a H λx b=>tl a b λl c=>th a c λu d=>r x l u d Q
def EY {r:V->Option Int->Option Int->Hp->VK->Prop} (n:cb X r) (o:PE X e te) (p:PO X lo tl) (w:PO X hi th):PE X (.Subscript e (.Slice lo hi none p2) pos) (au r te tl th):=by
 intro a s g H Q I h;refine Subscript_ (F_ (o a s g H _ I h) λv y ⟨x,z,A,B,C⟩=>?_);refine wpAny_Slice (F_ (p a y g z _ A C) λj D ⟨l,E,F,G,J⟩=>F_ (w a D g E _ F J) λk c ⟨u,m,K,L,M⟩=>?_);rw [evalPart_none];refine sG ?_;have N:Inv X a g m { c with heap:=c.heap.push { cls:=.type "slice", data:=.fields #[j,k,.none] } }:=K.kept (t':=c.toks) λb S q=>Heap.get?_push_of_some _ q;obtain ⟨T,id,O,P,R⟩:=n a { c with heap:=c.heap.push { cls:=.type "slice", data:=.fields #[j,k,.none] } } g m x v j k l u c.heap.objs.size Q N B (Heap.IsSliceOf.new ..) G L M;show wpAny (model X.prog X.w) X.A (subscriptTail e (.Slice lo hi none p2) v (.ref c.heap.objs.size)) (EP X a g Q) X.xe { c with heap:=c.heap.push { cls:=.type "slice", data:=.fields #[j,k,.none] } };exact tail_any (ops:=[.ref c.heap.objs.size,v]) P O R (by with_unfolding_all rfl)
noncomputable def BU (xs:cN) (lo hi:Option Int):cN:=(xs.drop (HT.sIx xs.length 0 lo)).take (HT.sIx xs.length xs.length hi - HT.sIx xs.length 0 lo)
def VA (xs:cN) (lo hi:Option Int):(BU xs lo hi).length<=xs.length:=by
 unfold BU;rw [CT,List.length_drop];omega
end
noncomputable def av (n:Nat) (i:Int):Option Nat:=if 0<=i then (if i<n then some i.toNat else none) else if -(n:Int)<=i then some (i+n).toNat else none
noncomputable def L_ {a:Type} (xs:List a) (i:Int):Option a:=(av xs.length i).bind λj=>xs[j]?
def Np {n:Nat} {i:Int} {j:Nat} (h:av n i=some j):seqIndex? i n=some j/\j<n/\-(n:Int)<=i/\i<n:=by
 unfold av at h;by_cases b:0<=i
 ·rw [sC b] at h;by_cases a:i<n
  ·rw [sC a] at h;have e:i.toNat=j:=sJ h;exact ⟨by rw [seqIndex_of b a,e],⋯,⋯,a⟩
  ·rw [sB a] at h;cases h
 ·rw [sB b] at h;by_cases a:-(n:Int)<=i
  ·rw [sC a] at h;have e:(i+n).toNat=j:=sJ h;exact ⟨by rw [seqIndex_neg ⋯ a,e],⋯,a,⋯⟩
  ·rw [sB a] at h;cases h
theorem K1 {a:Type} {xs:List a} {i:Int} {v:a} (h:L_ xs i=some v):∃ j,seqIndex? i xs.length=some j/\xs[j]?=some v/\j<xs.length/\-(xs.length:Int)<=i/\i<xs.length:=by
 unfold L_ at h;cases e:av xs.length i with
 | none=>rw [e] at h;cases h
 | some j=>
   rw [e] at h;obtain ⟨b,c,d,f⟩:=Np e;exact ⟨j,b,h,c,d,f⟩
def JU {a:Type} {xs:List a} {j:Nat} {v:a} (h:xs[j]?=some v):L_ xs (j:Int)=some v:=by
 have b:j<xs.length:=(CK.mp h).1
 have e:av xs.length (j:Int)=some j:=by
  unfold av;rw [sC ⋯,sC ⋯];simp
 unfold L_;rw [e];exact h
def VB (b:Expr):Prop:=∀ o i,subscripted b false o i=operate [o,i] (getItem o i)
def bq (X:Cx) (r:R2):Prop:=
 ∀ (c a:Expr) (b:cV) (s:Shared) (d:St) (H:Hp) (x y:V) (v u:Value) (Q:VK),Inv X b d H s->RelV x v->RelV y u->r x y H Q->
   subscripted a false v u=operate [v,u] (getItem v u)->wpAny (model X.prog X.w) X.A (subscriptTail c a v u) (EP X b d Q) X.xe s
def MtR (X:Cx) (id:String) (r:V->cN->Hp->VK->Prop):Prop:=
 ∀ (a:cV) (s:Shared) (b:St) (H:Hp) (x:V) (c:cN) (v:Value) (d:cQ) (Q:VK),Inv X a b H s->RelV x v->Vals c d->r x c H Q->
   wpAny (model X.prog X.w) X.A (call (.builtin id) (v::d)) (EP X a b Q) X.xe s
section
variable {X:Cx} {a b:Expr} {ta tb:TE} {pos:Pos}
def BT {r:R2} (d:bq X r) (e:PE X a ta) (f:PE X b tb) (g:VB b):PE X (.Subscript a b pos) (A_ r ta tb):=by
 intro c s i H Q I h;exact Subscript_ (Kx e f I h λv u j x y k m n o q=>d a b c j i k x y v u Q m n o q (g _ _))
def VC (K:W.Frag):R2:=λx y H Q=>∃ p c i v,x=.ref p/\y=.int i/\SqL K H p c/\L_ c i=some v/\Q v H
def VD (K:W.Frag):R2:=λx y H Q=>∃ p c i v,x=.ref p/\y=.int i/\SqT K H p c/\L_ c i=some v/\Q v H
def VE:bq X (VC X.K):=by
 intro f g c s o H x y v u Q I D E h A;obtain ⟨p,O,i,z,rfl,rfl,F,G,q⟩:=h;cases D;obtain ⟨t,rfl⟩:=E;obtain ⟨k,r,m,P⟩:=I.list F;obtain ⟨j,e,J,R,K,L⟩:=K1 G;obtain ⟨w,B,rw'⟩:=r.get J;have M:=r.length;have S:=HI;have d:EP X c o Q w s:=⟨z,H,I,rw',q⟩;by_cases C:0<=i
 ·have n:i.toNat=j:=by
   rw [seqIndex_of C L] at e;exact sJ e
  exact item_listR m.isList C ⋯ (by rw [n];simpa using B) d A
 ·have n:(i+(k.toArray.size:Int)).toNat=j:=by
   rw [seqIndex_neg ⋯ K] at e;rw [Bf,<-M];exact sJ e
  exact subscriptTail_builtinR (x:=w) m.isList.typeIs slot_list_getitem.lookup
   (wpAny_getItem_list_neg (Q:=λr N=>r=w/\EP X c o Q r N) m.isList ⋯ (by rw [Bf] <;> omega) ⋯ (by rw [n];simpa using B) ⟨rfl,d⟩) A
def VF:bq X (VD X.K):=by
 intro d e c s g H x y v u Q I m n h o;obtain ⟨p,K,i,z,rfl,rfl,A,B,q⟩:=h;cases m;obtain ⟨t,rfl⟩:=n;obtain ⟨C,r,k,L⟩:=I.tuple A;obtain ⟨j,D,E,M,N,O⟩:=K1 B;obtain ⟨w,F,rw'⟩:=r.get E;have G:=r.length;have P:=HI;have f:EP X c g Q w s:=⟨z,H,I,rw',q⟩
 exact subscriptTail_builtinR (x:=w) k.typeIs slot_tuple_getitem.lookup
  (getItem_tuple (j:=j) (Q:=λr J=>r=w/\EP X c g Q r J) k ⋯ ⋯ (by rw [Bf,<-G];exact D) (by simpa using F) ⟨rfl,f⟩) o
def VG (its:cQ) (n j:Nat) (u:Value):Obj.mapSeq (·.setIfInBounds j u) { cls:=.type "list", data:=.seq its.toArray n }={ cls:=.type "list", data:=.seq (its.set j u).toArray n }:=by
 simp [Obj.mapSeq]
def Inv.lst {c:cV} {d:St} {H:Hp} {s:Shared} {p:Addr} {xs:cN} (I:Inv X c d H s) (h:H p=some (.lst xs)) :
  ∃ (its:cQ) (n:Nat),Vals xs its/\s.heap.get? p=some { cls:=.type "list", data:=.seq its.toArray n }/\xs.length<=sizeLine:=by
 obtain ⟨z,its,n,r,e⟩:=I.hok p _ h;exact ⟨its,n,r,e,z⟩
def Inv.lstUpd {c:cV} {i:St} {H:Hp} {s:Shared} {p:Addr} {xs d:cN} {its its':cQ} {n g:Nat} {f:Obj->Obj} (I:Inv X c i H s) (h:H p=some (.lst xs))
  (o:s.heap.get? p=some { cls:=.type "list", data:=.seq its.toArray n }) (j:f { cls:=.type "list", data:=.seq its.toArray n }={ cls:=.type "list", data:=.seq its'.toArray g }) (r:Vals d its') (v:d.length<=sizeLine) (t:Nat) :
  Inv X c i (upd H p (.lst d)) { s with heap:=s.heap.update p f,toks:=t }:=by
 have e:(s.heap.update p f).get? p=some { cls:=.type "list", data:=.seq its'.toArray g }:=by
  rw [Heap.get?_update_self f o (by rw [j] <;> rfl),j]
 refine I.write (x:=p) (e:=p) (by rw [h];trivial) (.inl rfl) (λb u w q=>(Heap.get?_update_other _ _ (Ne.symm w)).trans q) ⟨_,e⟩ ?_;exact ⟨v,its',g,r,e⟩
def Ez:V->V->V->Hp->(Hp->Prop)->Prop:=λo i v H Q=>∃ p c k j,o=.ref p/\i=.int k/\H p=some (.lst c)/\av c.length k=some j/\Q (upd H p (.lst (c.set j v)))
def GV:aW X Ez:=by
 intro c s A H o i v J K u Q I B C D h;obtain ⟨p,E,k,j,rfl,rfl,hp,F,q⟩:=h;cases B;obtain ⟨t,rfl⟩:=C;obtain ⟨d,n,r,f,G⟩:=I.lst hp;obtain ⟨e,L,m,w⟩:=Np F;have g:=r.length;have M:=HI
 have x:Inv X c A (upd H p (.lst (E.set j v))) { s with heap:=s.heap.update p (Obj.mapSeq (·.setIfInBounds j u)) }:=
  I.lstUpd hp f (VG d n j u) (r.set D j) (by rw [List.length_set];exact G) s.toks
 by_cases z:0<=k
 ·have hk:k.toNat=j:=by
   rw [seqIndex_of z w] at e;exact sJ e
  exact W.ki_setAt f z ⋯ (by rw [Bf,<-g];exact w) (by rw [hk];exact ⟨_,x,q⟩)
 ·have hk:(k+(d.toArray.size:Int)).toNat=j:=by
   rw [seqIndex_neg ⋯ m] at e;rw [Bf,<-g];exact sJ e
  exact W.ki_setBack f ⋯ (by rw [Bf,<-g];exact m) ⋯ (by rw [hk];exact ⟨_,x,q⟩)
def VH (lo c:Option Int) (n:Nat):(sliceBounds lo c none n).1=((HT.sIx n 0 lo:Nat):Int)/\(sliceBounds lo c none n).2.1=((HT.sIx n n c:Nat):Int)/\(sliceBounds lo c none n).2.2=1:=by
 refine ⟨?_,?_,rfl⟩
 ·cases lo with
  | none=>simp [sliceBounds,HT.sIx]
  | some i=>
    simp only [sliceBounds,HT.sIx,Option.getD_none,show (1:Int) > 0 by decide,if_true];by_cases h:i<0
    ·simp only [h,if_true] <;> omega
    ·simp only [h,if_false] <;> omega
 ·cases c with
  | none=>simp [sliceBounds,HT.sIx]
  | some i=>
    simp only [sliceBounds,HT.sIx,Option.getD_none,show (1:Int) > 0 by decide,if_true];by_cases h:i<0
    ·simp only [h,if_true] <;> omega
    ·simp only [h,if_false] <;> omega
def VI (its:cQ) (lo c:Option Int):slicePick its.toArray lo c none=((its.drop (HT.sIx its.length 0 lo)).take (HT.sIx its.length its.length c - HT.sIx its.length 0 lo)).toArray:=by
 obtain ⟨d,e,f⟩:=VH lo c its.toArray.size;unfold slicePick;rw [d,e,f];simp only [sliceRange_one,pick_run,Bf] <;> rfl
def VJ (K:W.Frag):V->Option Int->Option Int->Hp->VK->Prop:=λx lo d H Q=>∃ a c,x=.ref a/\SqL K H a c/\∀ p,H p=none->Q (.ref p) (upd H p (.lst (BU c lo d)))
def Nr:cb X (VJ X.K):=by
 intro f s w H x v y z lo e A Q I i j k m h;obtain ⟨a,c,rfl,n,q⟩:=h;cases i;obtain ⟨p,r,g,u⟩:=I.list n;have d:=r.length;refine ⟨"list", _,slot_list_getitem.lookup,g.isList.typeIs,?_⟩;refine wpAny_getItem_list_slice g.isList j k m .none (by simp) ?_ (by rw [Bf] <;> omega);rw [VI,<-d];refine ⟨.ref s.heap.objs.size,_,I.laid (t':=s.toks) (o:=.lst (BU c lo e)) (λb B q=>Heap.get?_push_of_some _ q) (AU _) ?_,rfl,q _ (I.hok.fresh (AU _))⟩;exact ⟨A7 (VA c lo e) u,_,0,(r.drop (HT.sIx c.length 0 lo)).take (HT.sIx c.length c.length e - HT.sIx c.length 0 lo),Heap.get?_push_size _ rfl⟩
def Nt:Cb X (.builtin "len") (λj H Q=>∃ p d,j=[.ref p]/\(SqL X.K H p d\/SqT X.K H p d)/\Q (.int d.length) H):=by
 intro k s o H j v Q I r h;obtain ⟨p,d,rfl,e,q⟩:=h;obtain ⟨u,rfl,m⟩:=Ey r;cases m;have w:=HI;rcases e with e | e
 ·obtain ⟨f,g,i,n⟩:=I.list e;have c:=g.length;exact Calls.call_len_list i.isList (by simp only [Bf] <;> omega) ⟨.int d.length,H,I.tok _,⟨s.toks+1,by rw [Bf,c]⟩,q⟩
 ·obtain ⟨f,g,i,n⟩:=I.tuple e;have c:=g.length;exact len_tuple i (by simp only [Bf] <;> omega) ⟨.int d.length,H,I.tok _,⟨s.toks+1,by rw [Bf,c]⟩,q⟩
def VL:Cb X (.type "list") (λB H Q=>∃ p f,B=[.ref p]/\(SqL X.K H p f\/SqT X.K H p f)/\∀ l,H l=none->Q (.ref l) (upd H l (.lst f))):=by
 intro j s E H B G Q I r h;obtain ⟨p,f,rfl,k,q⟩:=h;obtain ⟨u,rfl,F⟩:=Ey r;cases F
 have m:∀ (c:cQ),Vals f c->f.length<=sizeLine->∀ (d:Heap) (g:Nat),(∀ b C,s.heap.get? b=some C->d.get? b=some C)->
   d.get? s.heap.objs.size=some { cls:=.type "list", dict:=none,data:=.seq c.toArray g,slots:=#[] }->EP X j E Q (.ref s.heap.objs.size) { s with heap:=d }:=λc i v d g kp e=>
  ⟨.ref s.heap.objs.size,_,I.laid (t':=s.toks) kp (AU _) (show ObjOk X.prog X.w _ d _ (.lst f) from ⟨v,c,g,i,e⟩),rfl,q _ (I.hok.fresh (AU _))⟩
 rcases k with k | k
 ·obtain ⟨c,i,x,v⟩:=I.list k;have w:=i.length;obtain ⟨o,y,z,n,A⟩:=x.isList;exact call_list_seq p (.inl rfl) y z A (λd g kp e=>m c i v d g kp e) (by simp only [Bf] <;> omega)
 ·obtain ⟨c,i,x,v⟩:=I.tuple k;have w:=i.length;obtain ⟨o,y,z,n,A⟩:=x;exact call_list_seq p (.inr rfl) y z A (λd g kp e=>m c i v d g kp e) (by simp only [Bf] <;> omega)
def VM:Cb X (.type "tuple") (λn H Q=>∃ p f,n=[.ref p]/\((SqL X.K H p f/\∀ l,H l=none->Q (.ref l) (upd H l (.tup f)))\/(SqT X.K H p f/\Q (.ref p) H))):=by
 intro c s v H n D Q I r h;obtain ⟨p,f,rfl,h⟩:=h;obtain ⟨u,rfl,A⟩:=Ey r;cases A;rcases h with ⟨j,q⟩ | ⟨j,q⟩
 ·obtain ⟨d,k,m,w⟩:=I.list j;have x:=k.length;refine call_tuple_list m.isList (λi kp=>?_) (by simp only [Bf] <;> omega);have y:Inv X c v H { s with heap:=i }:=I.kept (t':=s.toks) kp
  have B:Inv X c v (upd H i.objs.size (.tup f)) { s with heap:=i.push { cls:=.type "tuple", data:=.seq d.toArray } }:=
   y.laid (t':=s.toks) (λb o e=>Heap.get?_push_of_some _ e) (AU _) (show ObjOk X.prog X.w _ _ _ (.tup f) from ⟨w,d,k,IsTup.new _ _⟩)
  exact ⟨.ref i.objs.size,_,B,rfl,q _ (y.hok.fresh (AU _))⟩
 ·obtain ⟨d,k,m,w⟩:=I.tuple j;exact call_tuple_same m ⟨.ref p,H,I,rfl,q⟩
def cf (K:W.Frag) (T:String) (x:V) (H:Hp):Prop:=match x with
 | .str _=>T = "str"
 | .int _=>T = "int"
 | .ref p=>(T = "list" /\ ∃ d,SqL K H p d)\/(T = "tuple" /\ ∃ o,K.lookup p=some o/\o.cls=.type "tuple" /\ o.dict=none)\/
   (T = "dict" /\ ((∃ c,H p=some (.dK c))\/∃ c,H p=some (.dT c)))\/(T = "set" /\ ∃ S n,H p=some (.set S n))
 | _=>False
theorem VN {f:cV} {u:St} {H:Hp} {s:Shared} {T:String} {x:V} {v:Value} (I:Inv X f u H s) (r:RelV x v) (g:cf X.K T x H) :
  s.TypeIs v T/\∀ a,v=.ref a->∃ m,s.heap.get? a=some m/\m.dict=none:=by
 cases x with
 | str z=>
   obtain ⟨t,rfl⟩:=r;cases (show T = "str" from g);exact ⟨typeIs_str s z t,λ_ e=>nomatch e⟩
 | int i=>
   obtain ⟨t,rfl⟩:=r;cases (show T = "int" from g);exact ⟨typeIs_int s i t,λ_ e=>nomatch e⟩
 | ref p=>
   cases r;rcases g with ⟨rfl,B,w⟩ | ⟨rfl,o,hk,y,h⟩ | ⟨rfl,hk⟩ | ⟨rfl,S,n,hk⟩
   ·obtain ⟨A,_,q,_⟩:=I.list w;refine ⟨q.isList.typeIs,λa e=>?_⟩;cases e;obtain ⟨o,n,e,c,h,_⟩:=q;exact ⟨o,e,h⟩
   ·refine ⟨⟨o,I.kIn p o hk,y⟩,λa e=>?_⟩;cases e;exact ⟨o,I.kIn _ o hk,h⟩
   ·have z:∃ o,s.heap.get? p=some o/\o.ExactDict:=by
     rcases hk with ⟨j,hk⟩ | ⟨j,hk⟩
     ·obtain ⟨_,_,_,_,o,_,_,e,d,_⟩:=I.hok p _ hk;exact ⟨o,e,d⟩
     ·obtain ⟨_,_,_,_,o,_,_,e,d,_⟩:=I.hok p _ hk;exact ⟨o,e,d⟩
    obtain ⟨o,e,d⟩:=z;refine ⟨⟨o,e,d.1⟩,λa k=>?_⟩;cases k;exact ⟨o,e,d.2.1⟩
   ·obtain ⟨o,_,_,_,e,d,_⟩:=I.hok p _ hk;refine ⟨⟨o,e,d.1⟩,λa k=>?_⟩;cases k;exact ⟨o,e,d.2.1⟩
 | _=>exact False.elim g
def VO (K:W.Frag) (T:String) (r:V->cN->Hp->VK->Prop) (d:TE):TE:=λe H Q=>d e H λx c=>cf K T x c/\r x [] c Q
def aS (K:W.Frag) (T:String) (r:V->cN->Hp->VK->Prop) (e:TE) (t:TA):TE:=λc H Q=>e c H λx d=>cf K T x d/\t c d λf g=>r x f g Q
variable {o e:Expr} {es:cZ} {to:TE} {t:TA} {name:Str} {apos cpos:Pos} {T id:String} {r:V->cN->Hp->VK->Prop}
def IJ (u:PlainAttrs T) (i:Slot T name id) (k:typeOf (.builtin id)=pure (.type "method_descriptor")) (w:MtR X id r) (y:PE X o to) (z:PA X (e::es) t)
  (f:attributeBase o name X.env (eval o X.env)=eval o X.env:=by rfl)
  (j:((backTo cpos (starEach (e::es) X.env)).all (λx=>!x.1) && (backToKw cpos (keywordEach [] X.env)).all (λx=>x.1.isSome)
   && decide ((e::es).length+([]:List Keyword).length+(if ([]:List Keyword).isEmpty then 0 else 1)<30))=true:=by rfl)
  (g:(apos.endLine == cpos.line)=true:=by rfl) (A:starEach (e::es) X.env=(false,eval e X.env)::starEach es X.env:=by rfl) (d:(backTo cpos (starEach es X.env)).any (·.1)=false:=by rfl) :
  PE X (.Call (.Attribute o name apos) (e::es) [] cpos) (aS X.K T r to t):=by
 intro c s m H Q I h;refine wpAny_Call_method_late f j g rfl (F_ (y c s m H _ I h) λv B ⟨x,C,n,p,D,E⟩=>?_);obtain ⟨F,G⟩:=VN n p D;refine ⟨T,id,u,i,k,F,G,?_⟩;have q:=z cpos c B m C _ n E;rw [A] at q ⊢;refine Calls.callWith_builtin (by show (false || (backTo cpos (starEach es X.env)).any (·.1))=false;rw [d] <;> rfl) (Calls.evalArgs_plain ?_);exact F_ q λJ K ⟨L,M,N,O,P⟩=>w c K m M x L v J Q N p O P
end
def MtM (X:Cx) (id:String) (r:V->cN->Hp->VK->Prop):Prop:=
 ∀ (a:cV) (s:Shared) (b:St) (H:Hp) (x:V) (c:cN) (v:Value) (d:cQ) (Q:VK),Inv X a b H s->RelV x v->Vals c d->r x c H Q->
   wpAny (model X.prog X.w) X.A (call (.builtin id) (v::d)) (EP X a b Q) X.xe s
def Vals.zero {a:cQ} (h:Vals [] a):a=[]:=by cases h;rfl
def Vals.inv {x:V} {xs:cN} {a:cQ} (h:Vals (x::xs) a):∃ u t,a=u::t/\RelV x u/\Vals xs t:=by cases h with | cons r t=>exact ⟨_,_,rfl,r,t⟩
def Vals.one {x:V} {a:cQ} (h:Vals [x] a):∃ u,a=[u]/\RelV x u:=by obtain ⟨u,t,rfl,r,h⟩:=h.inv;exact ⟨u,by rw [h.zero],r⟩
def Vals.two {x y:V} {a:cQ} (h:Vals [x,y] a):∃ u v,a=[u,v]/\RelV x u/\RelV y v:=by obtain ⟨u,t,rfl,r,h⟩:=h.inv;obtain ⟨v,rfl,q⟩:=h.one;exact ⟨u,v,rfl,r,q⟩
theorem Vals.rep {xs:cN} {a:cQ} (h:Vals xs a):∀ k:Nat,Vals (List.replicate k xs).flatten (List.replicate k a).flatten
 | 0=>.nil
 | k+1=>by
   rw [ED,ED,List.flatten_cons,List.flatten_cons];exact Vals.append h (Vals.rep h k)
theorem Nv (its:cQ):∀ (k:Nat) (a:cQ),
  List.foldl (λb c=>b++c) a.toArray (List.replicate k its.toArray)=(a++(List.replicate k its).flatten).toArray
 | 0,a=>by simp
 | k+1,a=>by
   have e:a.toArray++its.toArray=(a++its).toArray:=by simp
   have d:(a++its)++(List.replicate k its).flatten=a++(List.replicate (k+1) its).flatten:=by
    rw [ED,List.flatten_cons,List.append_assoc]
   rw [<-d,<-Nv its k (a++its),<-e,ED,List.foldl_cons]
section
variable {X:Cx} {pins:cV} {σ:St} {H:Hp} {s:Shared} {l b:Addr} {xs ys zs:cN}
def Inv.lset {its its':cQ} {n:Nat} {f:Array Value->Array Value} {t':Nat} (I:Inv X pins σ H s) (d:H l=some (.lst xs))
  (e:s.heap.get? l=some { cls:=.type "list", data:=.seq its.toArray n }) (g:f its.toArray=its'.toArray) (h:Vals ys its') (i:ys.length<=sizeLine) :
  Inv X pins σ (upd H l (.lst ys)) { s with heap:=s.heap.update l (Obj.mapSeq f),toks:=t' }:=by
 have q:=PySem.IsL.update e f;rw [g] at q;refine I.write (x:=l) (e:=l) (by rw [d];exact trivial) (.inl rfl) (λm u j k=>(Heap.get?_update_other s.heap (Obj.mapSeq f) (Ne.symm j)).trans k) ⟨_,q⟩ ?_;exact ⟨i,its',_,h,q⟩
def Inv.lnew {its:cQ} {t':Nat} (I:Inv X pins σ H s) (e:Vals ys its) (f:ys.length<=sizeLine) :
  Inv X pins σ (upd H s.heap.objs.size (.lst ys)) { s with heap:=s.heap.push { cls:=.type "list", data:=.seq its.toArray },toks:=t' }:=
 I.laid (λ_ _ q=>Heap.get?_push_of_some _ q) (AU _) ⟨f,its,0,e,Heap.get?_push_size _ rfl⟩
def Inv.fresh (I:Inv X pins σ H s):H s.heap.objs.size=none:=I.hok.fresh (AU _)
def Inv.lstM (I:Inv X pins σ H s) (a:H l=some (.lst xs)):xs.length<=sizeLine/\∃ (its:cQ) (n:Nat),Vals xs its/\xs.length=its.length/\s.heap.get? l=some { cls:=.type "list", data:=.seq its.toArray n }:=by
 obtain ⟨z,its,n,r,e⟩:=I.hok l _ a;exact ⟨z,its,n,r,r.length,e⟩
def Nw {n:Nat} (h:n<=sizeLine):Builtin.List.listTooLong n=false:=by
 unfold Builtin.List.listTooLong;exact sE ⋯
end
section
variable {X:Cx}
def HK:V->cN->Hp->VK->Prop:=λx b H Q=>∃ l a y,x=.ref l/\b=[y]/\H l=some (.lst a)/\a.length<sizeLine/\Q .non (upd H l (.lst (a++[y])))
def JV:MtM X "list.append" HK:=by
 intro b s i H x j v k Q I d f h;obtain ⟨l,m,y,rfl,rfl,c,o,q⟩:=h;cases d;obtain ⟨u,rfl,g⟩:=f.one;obtain ⟨z,a,n,r,p,e⟩:=I.lstM c;refine call_meets F.slot_list_append ⟨_,e,rfl⟩ F.entry_list_append (F.args_list_append_2 _ _) (PySem.list_append l a.toArray n u (by rw [Bf];omega)) ⟨e,?_⟩;refine ⟨.non,_,I.lset (its':=a++[u]) c e (by simp) (r.append (.cons g .nil)) ?_,rfl,q⟩;rw [DB,List.length_singleton];omega
def K2:V->cN->Hp->VK->Prop:=λx d H Q=>∃ l b a c,x=.ref l/\d=[.ref b]/\H l=some (.lst a)/\H b=some (.lst c)/\a.length+c.length<=sizeLine/\Q .non (upd H l (.lst (a++c)))
def VP:MtM X "list.extend" K2:=by
 intro g s B H x C v D Q I j k h;obtain ⟨l,b,E,G,rfl,rfl,i,m,J,q⟩:=h;cases j;obtain ⟨u,rfl,o⟩:=k.one;cases o;obtain ⟨z,c,n,r,K,e⟩:=I.lstM i;obtain ⟨L,a,p,w,y,A⟩:=I.lstM m;have f:c.toArray.size+a.toArray.size<=sizeLine:=by rw [Bf,Bf];omega
 have d:¬ (!c.toArray.isEmpty && Builtin.List.listTooLong (c.toArray.size+a.toArray.size))=true:=by
  rw [Nw f,Bool.and_false];exact Cd
 refine call_meets F.slot_list_extend ⟨_,e,rfl⟩ F.entry_list_extend (F.args_list_extend_2 _ _)
  (AutoSeq1.list_extend_list_list_0 l c.toArray n b a.toArray p d (by rw [Bf];omega) ⋯) ⟨e,A,?_⟩
 refine ⟨.non,_,I.lset (its':=c++a) i e (by simp) (r.append w) ?_,rfl,q⟩;rw [DB];omega
def VQ:V->cN->Hp->VK->Prop:=λx b H Q=>∃ l a y,x=.ref l/\b=[]/\H l=some (.lst a)/\a[a.length - 1]?=some y/\Q y (upd H l (.lst a.dropLast))
def HL:R2:=λx y H Q=>∃ l b a c,x=.ref l/\y=.ref b/\H l=some (.lst a)/\H b=some (.lst c)/\a.length+c.length<=sizeLine/\∀ p,H p=none->Q (.ref p) (upd H p (.lst (a++c)))
def JW:OpR X (binaryOp .Add) HL:=by
 intro d s w H x y v u Q I f g h;obtain ⟨l,b,A,B,rfl,rfl,i,j,C,q⟩:=h;cases f;cases g;obtain ⟨z,c,n,r,D,e⟩:=I.lstM i;obtain ⟨E,a,F,k,m,o⟩:=I.lstM j;refine PySem.P.add_list e o ?_ (by rw [Bf,Bf];omega);have p:c.toArray++a.toArray=(c++a).toArray:=by simp
 rw [p];exact ⟨.ref _,_,I.lnew (t':=s.toks) (r.append k) (by rw [DB];omega),rfl,q _ I.fresh⟩
def E2:R2:=λx y H Q=>∃ l k a,x=.ref l/\y=.int k/\H l=some (.lst a)/\-(2 ^ 63)<=k/\k<2 ^ 63/\a.length*k.toNat<=sizeLine/\
 ∀ p,H p=none->Q (.ref p) (upd H p (.lst (List.replicate k.toNat a).flatten))
theorem VR {a:Type} (xs:List a) (k:Nat):(List.replicate k xs).flatten.length=k*xs.length:=by
 induction k with
 | zero=>simp
 | succ k b=>rw [ED,List.flatten_cons,DB,b,Nat.succ_mul,Nat.add_comm]
def Ga:OpR X (binaryOp .Mult) E2:=by
 intro p s L H x y v u Q I A B h;obtain ⟨l,k,M,rfl,rfl,C,D,E,w,q⟩:=h;cases A;obtain ⟨t,rfl⟩:=B;obtain ⟨z,b,n,r,G,e⟩:=I.lstM C;have d:b.toArray.size*k.toNat<=sizeLine:=by rw [Bf,<-G];exact w
 have f:¬ b.toArray.size*k.toNat > (2 ^ 63 - 1) / 8:=by
  have:(sizeLine:Nat)<=(2 ^ 63 - 1) / 8:=by decide
  omega
 have g:¬ (!Builtin.List.listFitsIndex k)=true:=by
  rw [fitsIndex_both D E];exact Cd
 have c:¬ Builtin.List.listTooLong (b.toArray.size*k.toNat)=true:=by
  rw [Nw d];exact Cd
 have i:List.foldl (λj o=>j++o) #[] (List.replicate (if b.toArray.isEmpty=true then 0 else k.toNat) b.toArray)=(List.replicate k.toNat b).flatten.toArray:=by
  have J:∀ m:Nat,List.foldl (λj o=>j++o) #[] (List.replicate m b.toArray)=(List.replicate m b).flatten.toArray:=λm=>by
   have:=Nv b m [];rw [List.nil_append] at this;exact this
  rw [J];cases b with
  | nil=>simp
  | cons a N=>rw [sB (by simp)]
 refine wpAny_binaryOp_repeat_ref (T := "list") (U := "int") ∅ ⟨_,e,rfl⟩ (λK=>typeIs_int K k t) noFill_list_mul F.fills_int_mul F.slot_int_rmul repeat_list F.slot_int_index.lookup
  (call_meets F.slot_int_rmul (typeIs_int s k t) F.entry_int_rmul (F.args_int_rmul_2 _ _) (int___rmul___int_list k t l b.toArray n)
   ⟨e,rfl,⟨_,e,rfl⟩,call_meets F.slot_list_mul ⟨_,e,rfl⟩ F.entry_list_mul (F.args_list_mul_2 _ _) (AutoListH.list___mul___list_int_3 l b.toArray n k t g f c) ⟨e,?_⟩⟩)
 rw [i];exact ⟨.ref _,_,I.lnew (t':=s.toks) (r.rep k.toNat) (by rw [VR,C3];exact w),rfl,q _ I.fresh⟩
end
end L2
namespace Att
open PySem PySem.W PySem.Calls PyProof.Rows
theorem VS {P:Params} {h:Heap}:∀ (ns:cP) (vs:cQ),WellAll P h vs (ns.map WData.int)->IntsAre vs ns:=by
 intro ns
 induction ns with
 | nil=>
   intro vs w;rw [List.map_nil] at w;cases w;exact .nil
 | cons n ns c=>
   intro vs w;rw [List.map_cons] at w;cases w with
   | cons a b=>
     cases a;exact .cons _ _ (c _ b)
theorem VT {l:OpenLaw} {n:Nat} (v:l.most=some n) {P:Params} {h:Heap} {b:List WData} {e:cQ}
  (f:l.row.toRowW.claim.pre b=true) (m:WellAll P h e b) :
  ∃ a p c,e=[Value.ref a]/\b=[WData.list (c.map WData.int)]/\h.get? a=some { cls:=.type "list", data:=.seq p.toArray }/\IntsAre p c/\c.length<=n:=by
 have o:WShape.hasAll [] b [.list .int]=true:=(pre_splitW f).1;have u:l.pre.holds [] { args:=b }=true:=(pre_splitW f).2;obtain ⟨d,r,rfl,w,x⟩:=hasAllW_cons o;obtain rfl:=hasAllW_nil x;obtain ⟨D,rfl,y⟩:=hasW_list w;obtain ⟨c,rfl⟩:=items_int y
 have g:c.length<=n:=by
  unfold OpenLaw.pre at u
  have j:(WTm.not (.lt (.lit (.int (n:Int))) (.len (.arg 0)))).holds [] { args:=[.list (c.map .int)] }=true:=by
   have j:=(holds_andW u).1;rw [v] at j;exact j
  have k:=condW_of j (w_not (w_lt w_lit (w_len_list (w_arg rfl))));rw [AL] at k;refine Nat.le_of_not_lt λq=>?_;have z:(n:Int)<((c.length:Nat):Int):=by omega
  first
   | (rw [decide_eq_true z] at k;exact absurd k ∅)
   | (simp at k;omega)
 cases m with
 | cons A B=>
   cases B;cases A with
   | list C i=>exact ⟨_,_,c,rfl,rfl,C,VS c _ i,g⟩
def VU (l:OpenLaw) (a:List WData):l.row.toRowW.claim.post a (.bool true) a=true:=
 postW_of (r:=l.row.toRowW) (X:=(true == true))
  (show WShape.has [] (.bool true) .bool=true by first | rfl | decide | simp [WShape.has,WShape.arms,WShape.armsAll])
  (show (WTm.eq .res (.lit (.bool true))).value [] { args:=a,res:=some (.bool true),after:=a }=some (.bool (true == true)) from w_eq_bool (w_res rfl) w_lit) rfl
def attach_call {l:OpenLaw} {n:Nat} {q:Program} {loose:c_} {XP:(cW)->Heap->Prop} {YP:World->Heap->Prop} {d:DefRec}
  (F:l.most=some n) (v:d.params.defaults=[])
  (call:∀ (w:World) (c b:Shared) (m x:cW) (h:Addr) (o:Obj) (pm p e:Value) (a:Addr) (vs:cQ) (ns:cP),
   Ground q loose [] XP w c m x b.heap->YP w b.heap->
   b.heap.get? h=some o->o.data=.func (docDef d.name d.params d.body d.scope pm p e)->b.heap.CodeRec p d.name->m d.name=some (.ref h)->
   b.heap.get? a=some { cls:=.type "list", data:=.seq vs.toArray }->IntsAre vs ns->ns.length<=n->b.gens=#[]->
   codeAny (model l.prog w) callerA (.call (.ref h) ⟨[.ref a],[]⟩) (λr u=>r=.ok (.ret (.bool true))/\OldK b.heap u.heap/\u.os=b.os/\AllBare u.gens) b) :
  WalkO q loose XP YP l.row.toRowW d [] (λf vs=>PySem.call f vs):=by
 intro w c b m x G Y h o pm p e H kV I J y B z K C D as i E L A M;obtain rfl:H=.none:=Dflts.none B v;obtain rfl:kV=.none:=Dflts.noKw B;obtain ⟨a,vs,ns,rfl,rfl,j,g,k⟩:=VT F i A;refine enter_call (codeAny_mono (call w c b m x h o pm p e a vs ns G Y I (fd_plain J) y z j g k K) λr u N=>?_);obtain ⟨rfl,O,P,Q⟩:=N;exact ⟨.inl ⟨.bool true,.bool true,[],rfl,λ_=>rfl,.bool true,VU l _,λ_=>⟨List.Pairwise.nil,λ_ R=>(nomatch R)⟩⟩,O,P,Q⟩
end Att
namespace L2
open PySem PySem.Spec PyProof.Rows
theorem Nx:∀ {vs:cQ} {ns:cP},IntsAre vs ns->Vals (ns.map V.int) vs
 | _,_,.nil=>.nil
 | _,_,.cons n t h=>.cons ⟨t,rfl⟩ (Nx h)
def aY (H:Hp):Prop:=∀ b,H b=none\/∃ o a,H b=some (.frz o (.lst a))
theorem VV {P:Program} {w:World} {K:W.Frag} {E Z:cW} {CX:aD} {k:Nat} {fa a:Addr} {fd:FuncData} {x:Str} {sp:Sp} {c:Shared} {vs:cQ} {ns:cP}
  (KX:K.In c.heap) (G:c.heap.Ns mainGlobals E) (j:c.heap.Ns builtinsNs Z) (a0:∀ x:Str,x ≠ "__name__" -> Z x=bootBuiltins x) (I:c.heap.NoLimit) (g:c.heap.NoSeer) (B:(model P w).prog.given.tree=none) (hg:c.gens=#[])
  (J:c.heap.get? a=some { cls:=.type "list", data:=.seq vs.toArray }) (hi:IntsAre vs ns) (hl:ns.length<=sizeLine) (hr:Room k callerA)
  (F:∀ p:Heap,K.In p->p.Ns mainGlobals E->FnOk P w K E p CX k fa fd [x] sp) (C:∀ (s:Shared) (u:Value),BindsTo s fd ⟨[u],[]⟩ [(x,u)])
  (a1:∀ H:Hp,aY H->SqL K H a (ns.map V.int)->sp [.ref a] H (λv _=>v=.bl true) λ_ _ _=>False)
  (a2:∀ H e y,CX [] H c (λ_ _ _=>False) e y->False) :
  codeAny (model P w) callerA (.call (.ref fa) ⟨[.ref a],[]⟩) (λr y=>r=.ok (.ret (.bool true))/\OldK c.heap y.heap/\y.os=c.os/\AllBare y.gens) c:=by
 have rv:=Nx hi;have L:=hi.length
 have A:∀ H:Hp,aY H->SqL K H a (ns.map V.int)->HOk P w H c.heap->(∀ b,H b≠none->b=a)->(H a≠none->K.lookup a=none)->
   codeAny (model P w) callerA (.call (.ref fa) ⟨[.ref a],[]⟩) (λr y=>r=.ok (.ret (.bool true))/\OldK c.heap y.heap/\y.os=c.os/\AllBare y.gens) c:=by
  intro H hO hS M hA hK;have f:∀ {b:Addr} {o:Obj},c.heap.get? b=some o->H b=none->(EU c.heap H).get? b=some o:=λe n=>UO e n
  have a3:∀ {b:Addr} {o:Obj} {N:Array DictEntry} {O:Nat},c.heap.get? b=some o->o.data=.dict N O->H b=none:=λ{b o N O} e d=>by
   cases q:H b with
   | none=>rfl
   | some u=>
     have Q:b=a:=hA b (by rw [q];simp);subst Q;rw [J] at e;cases e;have X:Data.seq vs.toArray _=Data.dict N O:=d;cases X
  have i:∀ {b:Addr} {m:cW},c.heap.Ns b m->(EU c.heap H).Ns b m:=λ{b m} ⟨o,N,O,e,d,r⟩=>⟨o,N,O,f e (a3 e d),d,r⟩
  have R:K.In (EU c.heap H):=λb o e=>f (KX b o e) (by
   cases q:H b with
   | none=>rfl
   | some u=>
     have Q:b=a:=hA b (by rw [q];simp);subst Q;rw [hK (by rw [q];simp)] at e;cases e)
  have hM:Mod K E (EU c.heap H):=⟨R,i G,⟨Z,i j,a0⟩,let ⟨D,h1,h2⟩:=I;⟨D,i h1,h2⟩⟩
  have a4:(EU c.heap H).NoSeer:=⟨let ⟨D,a,b⟩:=g.statics;⟨D,i a,b⟩,let ⟨D,a,b⟩:=g.mods;⟨D,i a,b⟩,let ⟨D,a,b⟩:=g.imp;⟨D,i a,b⟩,
   let ⟨a5,Y,ob,a',b',c',X,Q⟩:=g.main;⟨a5,Y,ob,i a',b',f c' (by
    cases q:H Y with
    | none=>rfl
    | some u=>
      have z:Y=a:=hA Y (by rw [q];simp);subst z;rw [J] at c';cases c';simp at X),X,Q⟩⟩
  have e0:Env0 P w K E (EU c.heap H) callerA [] c H:=⟨rfl,hM,λb o e=>UP e,Nat.le_of_eq (UN _ _),trivial,λb j=>absurd (show b∈([]:de) from j) (by simp),M,.of_eq hg,a4,B⟩;refine codeAny_mono ((F _ R (i G)).run callerA [] c H ⟨[.ref a],[]⟩ [.ref a] [.ref a] _ _ hr e0 (C c (.ref a)) (.cons rfl .nil) (a1 H hO hS)) λr y h=>?_;cases r with
  | error e=>exact (a2 H e y h).elim
  | ok fl=>
    cases fl with
    | next=>exact False.elim h
    | brk=>exact False.elim h
    | cont=>exact False.elim h
    | ret u=>
      obtain ⟨v,H',os,S,un,T,r',q⟩:=h;have q':v=.bl true:=q;subst q';obtain rfl:u=Value.bool true:=r';refine ⟨rfl,OldK.of_keep λb o e=>?_,os,S⟩;cases q:H b with
      | none=>exact un.keep b o e q (by intro z;exact absurd (show b∈([]:de) from z) (by simp)) (by simp)
      | some u=>
        rcases hO b with z | ⟨ob,xs,z⟩
        ·rw [q] at z;cases z
        ·have z2:=un.frzs b ob _ z;obtain ⟨e1,_⟩:=M b _ z;obtain ⟨e2,_⟩:=T b _ z2;rw [e] at e1;cases e1;exact e2
 cases hk:K.lookup a with
 | some o=>
   have e:=KX a o hk;rw [J] at e;cases e;refine A (λ_=>none) (λ_=>.inl rfl) (.inr ⟨_,vs.toArray,_,hk,rfl,rfl,rfl,by rw [Bf,L];exact hl,by simpa using rv⟩) (λb u z=>by have U:(none:Option HO)=some u:=z;cases U) (λb z=>absurd rfl z) λz=>absurd rfl z
 | none=>
   refine A (λb=>if b=a then some (.frz { cls:=.type "list", data:=.seq vs.toArray } (.lst (ns.map V.int))) else none) (λb=>?_) (.inl (.inr ⟨{ cls:=.type "list", data:=.seq vs.toArray },sC rfl⟩)) (λb u z=>?_) (λb z=>?_) λ_=>hk
   ·by_cases j:b=a
    ·exact .inr ⟨_,_,sC j⟩
    ·exact .inl (sB j)
   ·by_cases j:b=a
    ·have U:=(sC j).symm.trans z;cases U;subst j;exact ⟨J,by rw [AL];exact hl,vs,_,rv,J⟩
    ·have U:=(sB j).symm.trans z;cases U
   ·by_cases j:b=a
    ·exact j
    ·exact absurd (sB j) z
def walk_of {l:W.OpenLaw} {n k:Nat} {q:Program} {loose:c_} {XP:(cW)->Heap->Prop} {YP:World->Heap->Prop} {d:DefRec} {K:Params->W.Frag} {CX:World->aD} {sp:World->Sp} {x:Str}
  (L:l.most=some n) (y:n<=sizeLine) (z:d.params.defaults=[]) (M:importsNone q=true) (g:∀ w,(model l.prog w).prog.given.tree=none) (N:Room k callerA)
  (O:∀ (w:World) (h:Heap),YP w h->(K w.params).In h)
  (F:∀ (w:World) (j:cW) (r:Addr) (h:Heap),(K w.params).In h->h.Ns mainGlobals j->j d.name=some (.ref r)->
   ∃ A:FuncData,(∀ (s:Shared) (u:Value),BindsTo s A ⟨[u],[]⟩ [(x,u)])/\
     ∀ b:Heap,(K w.params).In b->b.Ns mainGlobals j->FnOk l.prog w (K w.params) j b (CX w) k r A [x] (sp w))
  (B:∀ (w:World) (H:Hp) (a:Addr) (ns:cP),ns.length<=n->aY H->SqL (K w.params) H a (ns.map V.int)->sp w [.ref a] H (λv _=>v=.bl true) λ_ _ _=>False)
  (C:∀ (w:World) (H:Hp) (s:Shared) (e:Value) (s':Shared),CX w [] H s (λ_ _ _=>False) e s'->False) :
  W.WalkO q loose XP YP l.row.toRowW d [] (λf E=>PySem.call f E):=by
 refine Att.attach_call L z λw I m j Z r o pm cd P a E ns G Y ho hd Q D p i c R=>?_;have J:=O w _ Y;obtain ⟨A,S,T⟩:=F w j r _ J G.T.g D;exact VV J G.T.g G.T.b G.T.builtins G.T.nolimit (G.T.seer M) (g w) R p i (A7 c y) N T S (λH U X=>B w H a ns c U X) λH e s'=>C w H m e s'
noncomputable def EZ (s:Stmt):Arguments:=match s with
 | .FunctionDef _ a _ _ _ _ _ _ _ _=>a
 | _=>{ posonlyargs:=[],args:=[],vararg:=none,kwonlyargs:=[],kw_defaults:=[],kwarg:=none,defaults:=[] }
noncomputable def Dz (s:Stmt):List Stmt:=match s with
 | .FunctionDef _ _ b _ _ _ _ _ _ _=>b
 | _=>[]
noncomputable def Ch (s:Stmt):Scope:=match s with
 | .FunctionDef _ _ _ _ _ _ a _ _ _=>a
 | _=>{ kind:=.function,names:=[],isGenerator:=false,isCoroutine:=false }
noncomputable abbrev aE:aD:=λ_ _ _ _ _ _=>False
abbrev E0:XK:=λ_ _ _=>False
def VW {X:Cx}:ak aE X E0:=λ_ _ _ _ _ _ _ h=>h.elim
structure Fun (K:W.Frag) (x qual:Str) (st:Stmt) (f:Addr) (fd:FuncData):Prop where
 ex:∃ (oc:Value) (od:Option Addr) (kV doc pm:Value) (an:Option Addr) (cdv ct:Value) (osl:Array (Option Value)),
  fd=W.fnOf x qual (EZ st) (Dz st) (Ch st) .none kV doc pm an cdv ct/\K.lookup f=some ⟨oc,od,.func fd,osl⟩/\W.codeIn K cdv qual=true
 kp:W.keepIn K (.ref f)=true
section
variable {P:Program} {w:World} {K:W.Frag} {mg:cW} {base:Heap}
def Fun.ok {x b:Str} {st:Stmt} {f:Addr} {i:FuncData} {N ps:c_} {k:Nat} {sp:Sp} (F:Fun K x b st f i) (S:FnScope N ps (Ch st)) (len:∀ vs H Q E,sp vs H Q E->vs.length=ps.length)
  (d:∀ (c:Value) (A:Around) (a:List Env) (s:Shared) (H:Hp) (vs:cN) (Q:VK) (E:XK),Room k (A.deeper (envOfC b (Ch st) s.heap.objs.size f c))->sp vs H Q E->
   ∃ t,PSs (GU aE P w K mg base N b (Ch st) f c A a s H E).nox (Dz st) t/\t { nx:=λ_ j=>Q .non j,rt:=Q } (start N vs) H):FnOk P w K mg base aE (k+1) f i ps sp:=by
 obtain ⟨r,u,kV,m,v,y,c,z,n,rfl,o,e⟩:=F.ex;refine U9 o e S len λA a s H vs Q E p g=>?_;obtain ⟨t,h,q⟩:=d c A a s H vs Q E p g;exact ⟨t,h.nox,q⟩
def Fun.binds {x a:Str} {st:Stmt} {f:Addr} {i:FuncData} {ps:c_} (F:Fun K x a st f i)
  (h:∀ (kV b pm:Value) (d:Option Addr) (c e:Value) (g:cQ),g.length=ps.length->bindArgs (W.fnOf x a (EZ st) (Dz st) (Ch st) .none kV b pm d c e) ⟨g,[]⟩=pure (ps.zip g)):Binds K i ps []:=by
 obtain ⟨m,n,kV,b,pm,d,c,e,j,rfl,o,k⟩:=F.ex;exact .all (h kV b pm d c e)
def VX {x a:Str} {st:Stmt} {f:Addr} {i:Value} {j g:Option Addr} {e:Array (Option Value)} {kV d pm b h:Value} (l:K.lookup f=some ⟨i,j,.func (W.fnOf x a (EZ st) (Dz st) (Ch st) .none kV d pm g b h),e⟩)
  (c:W.codeIn K b a=true) (k:W.keepIn K (.ref f)=true):Fun K x a st f (W.fnOf x a (EZ st) (Dz st) (Ch st) .none kV d pm g b h):=⟨⟨i,j,kV,d,pm,g,b,h,e,rfl,l,c⟩,k⟩
end
section
variable {X:Cx}
def pv (i:Nat) {x:Str} {a:Pos} (c:X.N[i]?=some x:=by rfl) (d:bH X.env.scope x:=by first | exact Or.inl rfl | exact Or.inr (Or.inl rfl) | exact Or.inr (Or.inr rfl)) (e:(x == ("__debug__" : Str))=false:=by decide)
  (b:(x == ("__classdict__" : Str))=false:=by decide):PE X (.Name x a) (AA i):=UR c d e b
end
def Au {c A B:Prop} [Decidable c] (a:c->A) (b:¬ c->B):if c then A else B:=by
 by_cases h:c
 ·rw [sC h];exact a h
 ·rw [sB h];exact b h
def Same (H a:Hp):Prop:=∀ b o,H b=some o->a b=some o
def Same.refl (H:Hp):Same H H:=λ_ _ h=>h
def Same.trans {H d e:Hp} (a:Same H d) (b:Same d e):Same H e:=λc o h=>b c o (a c o h)
end L2
local macro_rules | `(tactic| omega)=>`(tactic| lia)
namespace Bs.Hd
open PySem PySem.Spec PyProof.Rows L2
set_option maxRecDepth 100000
set_option maxHeartbeats 4000000
noncomputable def top (i:Nat):Stmt:=PySem.Challenge.pw_backslope_k63_reduced.main.body.getD i (.Pass ⟨0,0,0,0⟩)
noncomputable abbrev VY:Stmt:=top 2
noncomputable abbrev VZ:Stmt:=top 3
noncomputable abbrev Va:Stmt:=top 4
noncomputable abbrev Vb:Stmt:=top 5
noncomputable abbrev Vc:Stmt:=top 6
noncomputable abbrev Vd:Stmt:=top 7
noncomputable abbrev Ve:Stmt:=top 8
noncomputable abbrev Vf:Stmt:=top 9
noncomputable abbrev Vg:Stmt:=top 10
noncomputable abbrev Vh:Stmt:=top 11
noncomputable abbrev Vi:Stmt:=top 12
noncomputable abbrev Vj:Stmt:=top 13
noncomputable abbrev Vk:Stmt:=top 14
noncomputable abbrev Vl:Stmt:=top 15
noncomputable abbrev Vm:Stmt:=top 16
noncomputable abbrev Vn:Stmt:=top 17
noncomputable abbrev Vo:Stmt:=top 18
noncomputable abbrev Vp:Stmt:=top 19
noncomputable abbrev Vq:Stmt:=top 20
noncomputable abbrev Vr:Stmt:=top 21
noncomputable abbrev Vs:Stmt:=top 22
noncomputable abbrev Vt:Stmt:=top 23
noncomputable abbrev Vu:Stmt:=top 24
noncomputable abbrev Vv:Stmt:=top 26
noncomputable abbrev Vw:Stmt:=top 27
noncomputable abbrev Vx:Stmt:=top 28
noncomputable abbrev Vy:Stmt:=top 29
noncomputable abbrev Vz:Stmt:=top 30
noncomputable abbrev V0:Stmt:=top 32
noncomputable abbrev V3:Stmt:=top 33
noncomputable abbrev V4:Stmt:=top 34
noncomputable abbrev V5:Stmt:=top 35
noncomputable abbrev V6:Stmt:=top 36
noncomputable abbrev V7:Stmt:=top 37
noncomputable abbrev V8:Stmt:=top 38
noncomputable abbrev V9:Stmt:=top 39
noncomputable abbrev WA:Stmt:=top 40
noncomputable abbrev WB:Stmt:=top 41
noncomputable abbrev WC:Stmt:=top 42
noncomputable abbrev WD:Stmt:=top 43
noncomputable abbrev WE:Stmt:=top 44
noncomputable abbrev WF:Stmt:=top 45
noncomputable abbrev WG:Stmt:=top 47
noncomputable abbrev WH:Stmt:=top 48
noncomputable abbrev WI:Stmt:=top 49
noncomputable abbrev WJ:Stmt:=top 50
noncomputable abbrev WK:Stmt:=top 51
noncomputable abbrev WL:Stmt:=top 52
noncomputable abbrev WM:Stmt:=top 53
noncomputable abbrev WN:Stmt:=top 54
noncomputable abbrev WO:Stmt:=top 56
noncomputable abbrev WP:Stmt:=top 58
noncomputable abbrev WQ:Stmt:=top 59
noncomputable abbrev WR:Stmt:=top 60
noncomputable abbrev WS:Stmt:=top 61
noncomputable abbrev WT:Stmt:=top 62
noncomputable abbrev WU:Stmt:=top 63
noncomputable abbrev WV:Stmt:=top 64
noncomputable abbrev WW:Stmt:=top 65
noncomputable abbrev JX:Stmt:=top 66
noncomputable abbrev N:Value:=.none
noncomputable abbrev S (x:Str) (t:Tok):Value:=.str x t
noncomputable abbrev I (i:Int):Value:=.int i 0
noncomputable abbrev R (a:Addr):Value:=.ref a
noncomputable def en (P:Params) (k:Str) (t:Tok) (v:Value):DictEntry:=⟨PyData.keyHash P k,.str k t,v⟩
noncomputable def I_ (n:Str) (t:Tok) (l c u:Int) (a:Addr) (b g d e f:Value) (x:Int) (y:Tok):Obj:=⟨.type "code", none,.fields #[S n t,S n (t+1),S "/claim/cut.py" (t+2),I l,I c,I 0,I 0,I u,R a,.bool true,I 181,b,g,d,e,f,I x,I l,S "/claim/cut.py" y],#[]⟩
noncomputable def H_ (n:Str) (s:Stmt) (pm:Value) (c:Addr):Obj:=⟨.type "function", none,.func (W.fnOf n n (EZ s) (Dz s) (Ch s) .none .none .none pm none (.ref c) .none),#[]⟩
noncomputable abbrev L':Value:=S "backslope.wholes" 187
noncomputable abbrev aP:Value:=S "backslope.numbers" 405
noncomputable abbrev P_:Value:=S "backslope.polys" 448
noncomputable abbrev af:Value:=S "backslope.fractions" 561
noncomputable abbrev mo4:Value:=S "backslope.slopes" 637
noncomputable abbrev Y_:Value:=S "law_backslope_k63_reduced" 652
noncomputable def hp (P:Params):W.Frag:=[
 (3,⟨.type "dict", none,.dict #[en P "__name__" 165 (S "law_backslope_k63_reduced" 652),en P "__doc__" 166 N,en P "__package__" 167 N,en P "__loader__" 168 (.builtin "__main__.__loader__#opaque"),en P "__spec__" 169 N,en P "__annotations__" 170 (R 6),en P "__builtins__" 171 (R 4),en P "__file__" 173 (S "/claim/cut.py" 172),en P "__cached__" 174 N,en P "EXPONENTS" 197 (R 15),en P "common_divisor" 206 (R 22),en P "raised" 216 (R 29),en P "content" 222 (R 34),en P "row_trimmed" 230 (R 41),en P "row_parted" 236 (R 46),en P "row_times" 249 (R 53),en P "row_over" 263 (R 60),en P "row_less" 269 (R 65),en P "row_power" 281 (R 72),en P "strand_rest" 287 (R 77),en P "strand_shortened" 293 (R 82),en P "row_shortened" 300 (R 89),en P "strand_euclid" 309 (R 96),en P "inverse_modulo" 323 (R 103),en P "rests_modulo" 329 (R 108),en P "row_modulo" 337 (R 115),en P "monic_modulo" 343 (R 120),en P "split_modulo" 358 (R 127),en P "rest_modulo" 367 (R 134),en P "euclid_modulo" 377 (R 141),en P "nearest" 386 (R 148),en P "common_by_prime" 392 (R 153),en P "row_common" 404 (R 160),en P "ratio" 415 (R 167),en P "plus" 423 (R 174),en P "minus" 431 (R 181),en P "times" 439 (R 188),en P "over" 447 (R 195),en P "poly" 457 (R 202),en P "degree" 464 (R 209),en P "cleared" 470 (R 214),en P "uncleared" 476 (R 219),en P "number_of" 484 (R 226),en P "p_plus" 490 (R 231),en P "p_minus" 496 (R 236),en P "p_times" 506 (R 243),en P "p_scaled" 512 (R 248),en P "p_split" 529 (R 255),en P "monic" 535 (R 260),en P "common" 544 (R 267),en P "p_slope" 550 (R 272),en P "p_power" 560 (R 279),en P "fraction" 571 (R 286),en P "evened" 580 (R 293),en P "quotient" 588 (R 300),en P "f_poly" 595 (R 307),en P "f_plus" 607 (R 314),en P "f_minus" 615 (R 321),en P "f_times" 625 (R 328),en P "f_slope" 636 (R 335),en P "reduced" 651 (R 342),en P "_law_mixed" 662 (R 349),en P "_law_draws" 674 (R 356),en P "_law_number" 681 (R 363),en P "_law_factor" 689 (R 370),en P "_law_piece" 700 (R 377),en P "_law_equation" 706 (R 382),en P "_law_solution" 721 (R 389),en P "_law_left" 729 (R 396),en P "law" 735 (R 401)] 70,#[]⟩),
 (15,⟨.type "tuple", none,.seq #[(.int 61 189),(.int 127 190),(.int 521 191),(.int 1279 192),(.int 4423 193),(.int 9941 194),(.int 21701 195),(.int 44497 196)] 0,#[]⟩),
 (21,I_ "common_divisor" 198 3 2 3 16 (R 17) N (R 18) (R 19) (R 20) 204 205),
 (22,H_ "common_divisor" (top 2) L' 21),
 (28,I_ "raised" 207 9 2 3 23 (R 24) N (R 25) (R 26) (R 27) 214 215),
 (29,H_ "raised" (top 3) L' 28),
 (33,I_ "content" 217 19 2 3 30 (R 31) N N N (R 32) 220 221),
 (34,H_ "content" (top 4) L' 33),
 (40,I_ "row_trimmed" 223 26 1 3 35 (R 36) N (R 37) (R 38) (R 39) 228 229),
 (41,H_ "row_trimmed" (top 5) L' 40),
 (45,I_ "row_parted" 231 31 2 3 42 (R 43) N N N (R 44) 234 235),
 (46,H_ "row_parted" (top 6) L' 45),
 (52,I_ "row_times" 237 33 2 3 47 (R 48) N (R 49) (R 50) (R 51) 247 248),
 (53,H_ "row_times" (top 7) L' 52),
 (59,I_ "row_over" 250 42 2 3 54 (R 55) N (R 56) (R 57) (R 58) 261 262),
 (60,H_ "row_over" (top 8) L' 59),
 (64,I_ "row_less" 264 55 5 3 61 (R 62) N N N (R 63) 267 268),
 (65,H_ "row_less" (top 9) L' 64),
 (71,I_ "row_power" 270 61 2 3 66 (R 67) N (R 68) (R 69) (R 70) 279 280),
 (72,H_ "row_power" (top 10) L' 71),
 (76,I_ "strand_rest" 282 69 2 3 73 (R 74) N N N (R 75) 285 286),
 (77,H_ "strand_rest" (top 11) L' 76),
 (81,I_ "strand_shortened" 288 79 1 3 78 (R 79) N N N (R 80) 291 292),
 (82,H_ "strand_shortened" (top 12) L' 81),
 (88,I_ "row_shortened" 294 84 1 3 83 (R 84) N (R 85) (R 86) (R 87) 298 299),
 (89,H_ "row_shortened" (top 13) L' 88),
 (95,I_ "strand_euclid" 301 86 2 3 90 (R 91) N (R 92) (R 93) (R 94) 307 308),
 (96,H_ "strand_euclid" (top 14) L' 95),
 (102,I_ "inverse_modulo" 310 94 2 3 97 (R 98) N (R 99) (R 100) (R 101) 321 322),
 (103,H_ "inverse_modulo" (top 15) L' 102),
 (107,I_ "rests_modulo" 324 108 2 3 104 (R 105) N N N (R 106) 327 328),
 (108,H_ "rests_modulo" (top 16) L' 107),
 (114,I_ "row_modulo" 330 110 2 3 109 (R 110) N (R 111) (R 112) (R 113) 335 336),
 (115,H_ "row_modulo" (top 17) L' 114),
 (119,I_ "monic_modulo" 338 112 2 3 116 (R 117) N N N (R 118) 341 342),
 (120,H_ "monic_modulo" (top 18) L' 119),
 (126,I_ "split_modulo" 344 117 3 3 121 (R 122) N (R 123) (R 124) (R 125) 356 357),
 (127,H_ "split_modulo" (top 19) L' 126),
 (133,I_ "rest_modulo" 359 128 3 3 128 (R 129) N (R 130) (R 131) (R 132) 365 366),
 (134,H_ "rest_modulo" (top 20) L' 133),
 (140,I_ "euclid_modulo" 368 130 3 3 135 (R 136) N (R 137) (R 138) (R 139) 375 376),
 (141,H_ "euclid_modulo" (top 21) L' 140),
 (147,I_ "nearest" 378 138 2 3 142 (R 143) N (R 144) (R 145) (R 146) 384 385),
 (148,H_ "nearest" (top 22) L' 147),
 (152,I_ "common_by_prime" 387 141 3 3 149 (R 150) N N N (R 151) 390 391),
 (153,H_ "common_by_prime" (top 23) L' 152),
 (159,I_ "row_common" 393 150 2 3 154 (R 155) N (R 156) (R 157) (R 158) 402 403),
 (160,H_ "row_common" (top 24) L' 159),
 (166,I_ "ratio" 407 160 2 3 161 (R 162) N (R 163) (R 164) (R 165) 413 414),
 (167,H_ "ratio" (top 26) aP 166),
 (173,I_ "plus" 416 165 2 3 168 (R 169) N (R 170) (R 171) (R 172) 421 422),
 (174,H_ "plus" (top 27) aP 173),
 (180,I_ "minus" 424 167 2 3 175 (R 176) N (R 177) (R 178) (R 179) 429 430),
 (181,H_ "minus" (top 28) aP 180),
 (187,I_ "times" 432 169 2 3 182 (R 183) N (R 184) (R 185) (R 186) 437 438),
 (188,H_ "times" (top 29) aP 187),
 (194,I_ "over" 440 171 2 3 189 (R 190) N (R 191) (R 192) (R 193) 445 446),
 (195,H_ "over" (top 30) aP 194),
 (201,I_ "poly" 450 174 1 3 196 (R 197) N (R 198) (R 199) (R 200) 455 456),
 (202,H_ "poly" (top 32) P_ 201),
 (208,I_ "degree" 458 179 1 3 203 (R 204) N (R 205) (R 206) (R 207) 462 463),
 (209,H_ "degree" (top 33) P_ 208),
 (213,I_ "cleared" 465 181 1 3 210 (R 211) N N N (R 212) 468 469),
 (214,H_ "cleared" (top 34) P_ 213),
 (218,I_ "uncleared" 471 186 2 3 215 (R 216) N N N (R 217) 474 475),
 (219,H_ "uncleared" (top 35) P_ 218),
 (225,I_ "number_of" 477 188 2 3 220 (R 221) N (R 222) (R 223) (R 224) 482 483),
 (226,H_ "number_of" (top 36) P_ 225),
 (230,I_ "p_plus" 485 190 2 3 227 (R 228) N N N (R 229) 488 489),
 (231,H_ "p_plus" (top 37) P_ 230),
 (235,I_ "p_minus" 491 192 2 3 232 (R 233) N N N (R 234) 494 495),
 (236,H_ "p_minus" (top 38) P_ 235),
 (242,I_ "p_times" 497 194 2 3 237 (R 238) N (R 239) (R 240) (R 241) 504 505),
 (243,H_ "p_times" (top 39) P_ 242),
 (247,I_ "p_scaled" 507 198 2 3 244 (R 245) N N N (R 246) 510 511),
 (248,H_ "p_scaled" (top 40) P_ 247),
 (254,I_ "p_split" 513 200 2 3 249 (R 250) N (R 251) (R 252) (R 253) 527 528),
 (255,H_ "p_split" (top 41) P_ 254),
 (259,I_ "monic" 530 217 1 3 256 (R 257) N N N (R 258) 533 534),
 (260,H_ "monic" (top 42) P_ 259),
 (266,I_ "common" 536 219 2 3 261 (R 262) N (R 263) (R 264) (R 265) 542 543),
 (267,H_ "common" (top 43) P_ 266),
 (271,I_ "p_slope" 545 222 1 3 268 (R 269) N N N (R 270) 548 549),
 (272,H_ "p_slope" (top 44) P_ 271),
 (278,I_ "p_power" 551 224 2 3 273 (R 274) N (R 275) (R 276) (R 277) 558 559),
 (279,H_ "p_power" (top 45) P_ 278),
 (285,I_ "fraction" 563 235 2 3 280 (R 281) N (R 282) (R 283) (R 284) 569 570),
 (286,H_ "fraction" (top 47) af 285),
 (292,I_ "evened" 572 238 2 3 287 (R 288) N (R 289) (R 290) (R 291) 578 579),
 (293,H_ "evened" (top 48) af 292),
 (299,I_ "quotient" 581 241 2 3 294 (R 295) N (R 296) (R 297) (R 298) 586 587),
 (300,H_ "quotient" (top 49) af 299),
 (306,I_ "f_poly" 589 243 1 3 301 (R 302) N (R 303) (R 304) (R 305) 593 594),
 (307,H_ "f_poly" (top 50) af 306),
 (313,I_ "f_plus" 596 245 2 3 308 (R 309) N (R 310) (R 311) (R 312) 605 606),
 (314,H_ "f_plus" (top 51) af 313),
 (320,I_ "f_minus" 608 251 2 3 315 (R 316) N (R 317) (R 318) (R 319) 613 614),
 (321,H_ "f_minus" (top 52) af 320),
 (327,I_ "f_times" 616 253 2 3 322 (R 323) N (R 324) (R 325) (R 326) 623 624),
 (328,H_ "f_times" (top 53) af 327),
 (334,I_ "f_slope" 626 257 1 3 329 (R 330) N (R 331) (R 332) (R 333) 634 635),
 (335,H_ "f_slope" (top 54) af 334),
 (341,I_ "reduced" 639 264 3 3 336 (R 337) N (R 338) (R 339) (R 340) 649 650),
 (342,H_ "reduced" (top 56) mo4 341),
 (348,I_ "_law_mixed" 654 271 2 3 343 (R 344) N (R 345) (R 346) (R 347) 660 661),
 (349,H_ "_law_mixed" (top 58) Y_ 348),
 (355,I_ "_law_draws" 663 274 2 3 350 (R 351) N (R 352) (R 353) (R 354) 672 673),
 (356,H_ "_law_draws" (top 59) Y_ 355),
 (362,I_ "_law_number" 675 285 1 3 357 (R 358) N (R 359) (R 360) (R 361) 679 680),
 (363,H_ "_law_number" (top 60) Y_ 362),
 (369,I_ "_law_factor" 682 287 1 3 364 (R 365) N (R 366) (R 367) (R 368) 687 688),
 (370,H_ "_law_factor" (top 61) Y_ 369),
 (376,I_ "_law_piece" 690 292 2 3 371 (R 372) N (R 373) (R 374) (R 375) 698 699),
 (377,H_ "_law_piece" (top 62) Y_ 376),
 (381,I_ "_law_equation" 701 301 2 3 378 (R 379) N N N (R 380) 704 705),
 (382,H_ "_law_equation" (top 63) Y_ 381),
 (388,I_ "_law_solution" 707 313 2 3 383 (R 384) N (R 385) (R 386) (R 387) 719 720),
 (389,H_ "_law_solution" (top 64) Y_ 388),
 (395,I_ "_law_left" 722 326 2 3 390 (R 391) N (R 392) (R 393) (R 394) 727 728),
 (396,H_ "_law_left" (top 65) Y_ 395),
 (400,I_ "law" 730 328 1 3 397 (R 398) N N N (R 399) 733 734),
 (401,H_ "law" (top 66) Y_ 400)]
noncomputable def as:de:=[3,15,21,22,28,29,33,34,40,41,45,46,52,53,59,60,64,65,71,72,76,77,81,82,88,89,95,96,102,103,107,108,114,115,119,120,126,127,133,134,140,141,147,148,152,153,159,160,166,167,173,174,180,181,187,188,194,195,201,202,208,209,213,214,218,219,225,226,230,231,235,236,242,243,247,248,254,255,259,260,266,267,271,272,278,279,285,286,292,293,299,300,306,307,313,314,320,321,327,328,334,335,341,342,348,349,355,356,362,363,369,370,376,377,381,382,388,389,395,396,400,401]
noncomputable def vw:Program:=W.view PySem.Challenge.pw_backslope_k63_reduced [66]
noncomputable def lo:c_:=(["EXPONENTS", "common_divisor", "raised", "content", "row_trimmed", "row_parted", "row_times", "row_over", "row_less", "row_power", "strand_rest", "strand_shortened", "row_shortened", "strand_euclid", "inverse_modulo", "rests_modulo", "row_modulo", "monic_modulo", "split_modulo", "rest_modulo", "euclid_modulo", "nearest", "common_by_prime", "row_common", "ratio"]:c_)++(["plus", "minus", "times", "over", "poly", "degree", "cleared", "uncleared", "number_of", "p_plus", "p_minus", "p_times", "p_scaled", "p_split", "monic", "common", "p_slope", "p_power", "fraction", "evened", "quotient", "f_poly", "f_plus", "f_minus", "f_times"]:c_)++(["f_slope", "reduced", "_law_mixed", "_law_draws", "_law_number", "_law_factor", "_law_piece", "_law_equation", "_law_solution", "_law_left"]:c_)
noncomputable def hk:W.Hook:=W.kHook hp as (λ_=>by kernel_rfl)
def left:W.LeftO PySem.Challenge.pw_backslope_k63_reduced vw lo (λs=>W.xlAt vw [] s && W.recOk (W.RowW.records (W.OpenRow.toRowW (W.OpenLaw.row PySem.Challenge.rw_backslope_k63_reduced))) s) hk.obs hk.val 3898:=λw=>by kernel_rfl
def sd:PySem.Challenge.rw_backslope_k63_reduced.wellSaid=true:=by decide +kernel
end Bs.Hd
namespace Bs
def Bd (n:Nat) (x:Int):Prop:=x.natAbs<2 ^ n
def Bd.mono {m n:Nat} {x:Int} (h:Bd m x) (a:m<=n):Bd n x:=CZ h (Dq ∅ a)
def Bd.le {n:Nat} {x y:Int} (h:Bd n x) (a:y.natAbs<=x.natAbs):Bd n y:=DT a h
def Bd.neg {n:Nat} {x:Int} (h:Bd n x):Bd n (-x):=by unfold Bd at *;rw [Int.natAbs_neg];exact h
def Bd.add {n:Nat} {x y:Int} (h:Bd n x) (h':Bd n y):Bd (n+1) (x+y):=by
 unfold Bd at *;have:=Int.natAbs_add_le x y;rw [CI];omega
def Bd.sub {n:Nat} {x y:Int} (h:Bd n x) (h':Bd n y):Bd (n+1) (x - y):=by
 rw [Int.sub_eq_add_neg];exact h.add h'.neg
def Bd.mul {m n:Nat} {x y:Int} (h:Bd m x) (h':Bd n y):Bd (m+n) (x*y):=by
 unfold Bd at *;rw [By,Nat.pow_add];exact Nat.mul_lt_mul'' h h'
def E3 {x:Int} (a:-18446744073709551616<x) (b:x<18446744073709551616):Bd 64 x:=by
 unfold Bd;have:(2:Nat) ^ 64=18446744073709551616:=by decide
 rw [this];omega
def Bd.log2 {n:Nat} {x:Int} (h:Bd n x) (a:0<n):x.natAbs.log2<n:=by
 unfold Bd at h;rcases Ds x.natAbs with b | hp
 ·rw [b];simpa using a
 ·exact (Nat.log2_lt (Nat.ne_of_gt hp)).mpr h
structure Low (t d:Int):Prop where
 pos:0<d
 one:Int.gcd t d=1
def N2 (a b:Int):Int.gcd b (a.fmod b)=Int.gcd a b:=by
 have e:a.fmod b=a - b*a.fdiv b:=Int.fmod_def a b;rw [e];apply Nat.dvd_antisymm
 ·apply Int.dvd_gcd
  ·have f:=Ep b (a - b*a.fdiv b);have g:=EE b (a - b*a.fdiv b);have d:=Cn g (GH (c:=a.fdiv b) f);rw [Int.sub_add_cancel] at d;exact d
  ·exact Ep b _
 ·apply Int.dvd_gcd
  ·exact EE a b
  ·exact Int.dvd_sub (Ep a b) (GH (EE a b))
def N3 (a:Int) {b:Int} (h:0<=b):Int.gcd b (a % b)=Int.gcd a b:=by
 rw [<-Int.fmod_eq_emod_of_nonneg a h,N2]
def WY (a:Int) {b:Int} (h:b≠0):(a.fmod b).natAbs<b.natAbs:=by
 rcases Int.lt_or_gt_of_ne h with d | d
 ·rw [Int.fmod_eq_emod];have e:=BS a h;have f:=Int.emod_lt a h;split
  ·rename_i c;rcases c with c | c
   ·omega
   ·have:a % b=0:=Int.emod_eq_zero_of_dvd c;omega
  ·rename_i c;have:a % b≠0:=λz=>c (.inr (Int.dvd_of_emod_eq_zero z));omega
 ·rw [Int.fmod_eq_emod_of_nonneg a (Dt d)];have e:=BS a h;have f:=BW a d;omega
def K3 {a b s:Int} (m:b≠0) (j:s=if b<0 then -((Int.gcd a b:Nat):Int) else ((Int.gcd a b:Nat):Int)) :
  s≠0/\s.natAbs<=b.natAbs/\Low (a.fdiv s) (b.fdiv s)/\a.fdiv s*b=a*b.fdiv s/\(a.fdiv s).natAbs<=a.natAbs/\(b.fdiv s).natAbs<=b.natAbs:=by
 have w:0<Int.gcd a b:=Int.gcd_pos_of_ne_zero_right a m;have e:s.natAbs=Int.gcd a b:=by rw [j];split <;> simp
 have k:s≠0:=by intro z;rw [z] at e;simp at e;omega
 have p:s∣a:=by
  rw [<-Int.natAbs_dvd,e];exact Ep a b
 have q:s∣b:=by
  rw [<-Int.natAbs_dvd,e];exact EE a b
 obtain ⟨t,rfl⟩:=p;obtain ⟨d,rfl⟩:=q;rw [Int.mul_fdiv_cancel_left _ k,Int.mul_fdiv_cancel_left _ k];have n:d≠0:=by rintro rfl;simp at m
 have o:1<=s.natAbs:=by omega
 have r:Int.gcd t d=1:=by
  rw [Int.gcd_mul_left] at e;have u:s.natAbs*Int.gcd t d=s.natAbs*1:=by omega
  exact Nat.eq_of_mul_eq_mul_left o u
 have v:0<d:=by
  by_cases h:s*d<0
  ·rw [sC h] at j;have f:s<0:=by omega
   rcases Int.lt_or_gt_of_ne n with c | c
   ·have:=Int.mul_pos_of_neg_of_neg f c;omega
   ·exact c
  ·rw [sB h] at j;have g:0<s:=by omega
   rcases Int.lt_or_gt_of_ne n with c | c
   ·have:=Int.mul_neg_of_pos_of_neg g c;omega
   ·exact c
 have i:∀ y:Int,y.natAbs<=(s*y).natAbs:=λy=>by
  rw [By];exact Nat.le_mul_of_pos_left _ o
 refine ⟨k,?_,⟨v,r⟩,?_,i t,i d⟩
 ·rw [By];exact Nat.le_mul_of_pos_right _ ⋯
 ·ext
def IK {a b:Int} (f:0<b):Low (a / ((Int.gcd a b:Nat):Int)) (b / ((Int.gcd a b:Nat):Int))/\(a / ((Int.gcd a b:Nat):Int)).natAbs<=a.natAbs/\(b / ((Int.gcd a b:Nat):Int)).natAbs<=b.natAbs/\0<((Int.gcd a b:Nat):Int)/\((Int.gcd a b:Nat):Int)<=b:=by
 have g:0<Int.gcd a b:=Int.gcd_pos_of_ne_zero_right a ⋯;obtain ⟨_,h,c,i,d,e⟩:=K3 (a:=a) (b:=b) (s:=((Int.gcd a b:Nat):Int)) ⋯ (by rw [sB ⋯]);rw [ES _ ⋯,ES _ ⋯] at c;rw [ES _ ⋯] at d e;exact ⟨c,d,e,⋯,⋯⟩
end Bs
namespace Bs
open PySem L2
def K4 (_ j:Int):Prop:=0<j/\Bd 9000 j
def WZ (_ j:Int):Prop:=j≠0/\Bd 9000 j
def Wa (i j:Int):Prop:=0<=j/\j<=1000000/\i.natAbs<2 ^ 64
abbrev Ba:R2:=ae λi j=>.int (i+j)
abbrev BM:R2:=ae λi j=>.int (i - j)
abbrev A5:R2:=rI IntMulOk λi j=>.int (i*j)
abbrev K5:R2:=rI K4 λi j=>.int (i / j)
abbrev K6:R2:=rI WZ λi j=>.int (i.fdiv j)
abbrev BE:R2:=rI (λ_ j=>0<j) λi j=>.int (i % j)
abbrev N5:R2:=rI (λ_ j=>j≠0) λi j=>.int (i.fmod j)
abbrev Wb:R2:=rI Wa λi j=>.int (i ^ j.toNat)
abbrev aQ:R2:=ae λi j=>.bl (decide (i<j))
abbrev iLe:R2:=ae λi j=>.bl (decide (i<=j))
abbrev aF:R2:=ae λi j=>.bl (decide (j<i))
abbrev cg:R2:=ae λi j=>.bl (decide (j<=i))
abbrev CJ:V->Hp->VK->Prop:=rU λi=>.int (-i)
def gT:R2:=λx y H Q=>∃ p i a v,x=.ref p/\y=.int i/\H p=some (.tup a)/\L_ a i=some v/\Q v H
def gL:R2:=λx y H Q=>∃ p i a v,x=.ref p/\y=.int i/\H p=some (.lst a)/\L_ a i=some v/\Q v H
def gS (K:W.Frag):R2:=λx y H Q=>∃ p i a v,x=.ref p/\y=.int i/\SqL K H p a/\L_ a i=some v/\Q v H
def IL:cN->Hp->VK->Prop:=λa H Q=>∃ i,a=[.int i]/\Q (.int (if i<0 then -i else i)) H
def Gb:cN->Hp->VK->Prop:=λa H Q=>∃ i j,a=[.int i,.int j]/\Q (.int (if j > i then j else i)) H
def K8:cN->Hp->VK->Prop:=λa H Q=>∃ i j,a=[.int i,.int j]/\Q (.int (if j<i then j else i)) H
def K9:cN->Hp->VK->Prop:=λa H Q=>∃ k,a=[.bl k]/\Q (.int (if k=true then 1 else 0)) H
def C7:cN->Hp->VK->Prop:=λb H Q=>∃ p a,b=[.ref p]/\H p=some (.tup a)/\Q (.int a.length) H
def CD:cN->Hp->VK->Prop:=λb H Q=>∃ p a,b=[.ref p]/\H p=some (.lst a)/\Q (.int a.length) H
def Wc (K:W.Frag):cN->Hp->VK->Prop:=λb H Q=>∃ p a,b=[.ref p]/\SqL K H p a/\Q (.int a.length) H
noncomputable def IM:Option HO->String->Option Bool
 | some (.tup _),n=>if n = "tuple" then some true else if n = "bool" \/ n = "int" \/ n = "list" then some false else none
 | some (.lst _),n=>if n = "list" then some true else if n = "bool" \/ n = "int" \/ n = "tuple" then some false else none
 | _,_=>none
noncomputable def Fg (H:Hp):V->String->Option Bool
 | .int _,n=>if n = "int" then some true else if n = "bool" \/ n = "tuple" \/ n = "list" then some false else none
 | .bl _,n=>if n = "int" \/ n = "bool" then some true else if n = "tuple" \/ n = "list" then some false else none
 | .ref p,n=>IM (H p) n
 | _,_=>none
def LA:cN->Hp->VK->Prop:=λa H Q=>∃ x n b,a=[x,.ty n]/\Fg H x n=some b/\Q (.bl b) H
def We (H:Hp) (i:Int):Fg H (.int i) "int" = some true:=rfl
def Wf (H:Hp) (i:Int):Fg H (.int i) "bool" = some false:=rfl
def Wg (H:Hp) (b:Bool):Fg H (.bl b) "bool" = some true:=rfl
def Wi {H:Hp} {p:Addr} {xs:cN} (h:H p=some (.tup xs)):Fg H (.ref p) "tuple" = some true:=by
 show IM (H p) "tuple" = _;rw [h];rfl
noncomputable def N6:V->Bool
 | .int _=>true
 | _=>false
def eqT:R2:=λx y H Q=>∃ a b c d,x=.ref a/\y=.ref b/\H a=some (.tup c)/\H b=some (.tup d)/\c.all N6=true/\d.all N6=true/\Q (.bl (decide (c=d))) H
def ForR (lo:Int) (n:Nat) (g:TG) (f:TS) (D:Ends) (a:St) (H:Hp):Prop:=∃ W:Nat->Nat->St->Hp->Prop,(∃ m,W 0 m a H)/\∀ i m a H,W i m a H->
 ((aq lo n).stop i H/\D.nx a H)\/((aq lo n).go i H/\∃ N:St->Hp->Prop,(∀ b c,N b c->∃ e,e<m/\W (i+1) e b c)/\∀ x c,(aq lo n).yld i H x c->g x a c λd h=>f { D with nx:=N,ct:=N,bk:=D.nx } d h)
def Wj {b:TA} {g:TG} {c:TS} {D:Ends} {a:St} {H:Hp}:Bz (Fa b) g c D a H=b a H (λd e=>∃ j:Int,d=[.int j]/\-(2 ^ 62)<=j/\j<2 ^ 62/\ForR 0 j.toNat g c D a e):=rfl
def Wk {b:TA} {g:TG} {c:TS} {D:Ends} {a:St} {H:Hp}:Bz (Fb b) g c D a H=b a H (λd e=>∃ i j:Int,d=[.int i,.int j]/\(-(2 ^ 62)<=i/\i<2 ^ 62/\-(2 ^ 62)<=j/\j<2 ^ 62)/\ForR i (j - i).toNat g c D a e):=rfl
def ForR.by {lo:Int} {n:Nat} {g:TG} {c:TS} {D:Ends} {a:St} {H:Hp} (Pv:Nat->St->Hp->Prop) (d:Pv 0 a H)
  (e:∀ i a H,i<n->Pv i a H->g (.int (lo+i)) a H λb f=>c { D with nx:=Pv (i+1),ct:=Pv (i+1),bk:=D.nx } b f) (h:∀ a H,Pv n a H->D.nx a H):ForR lo n g c D a H:=Ui Pv d e h
def ForT (K:W.Frag) (a:Addr) (g:TG) (h:TS) (D:Ends) (b:St) (H:Hp):Prop:=∃ W:Nat->Nat->St->Hp->Prop,(∃ m,W 0 m b H)/\∀ i m b H,W i m b H->
 ((aO K a).stop i H/\D.nx b H)\/((aO K a).go i H/\∃ N:St->Hp->Prop,(∀ c d,N c d->∃ f,f<m/\W (i+1) f c d)/\∀ x d,(aO K a).yld i H x d->g x b d λe j=>h { D with nx:=N,ct:=N,bk:=D.nx } e j)
def ForL (K:W.Frag) (a:Addr) (g:TG) (h:TS) (D:Ends) (b:St) (H:Hp):Prop:=∃ W:Nat->Nat->St->Hp->Prop,(∃ m,W 0 m b H)/\∀ i m b H,W i m b H->
 ((ap K a).stop i H/\D.nx b H)\/((ap K a).go i H/\∃ N:St->Hp->Prop,(∀ c d,N c d->∃ f,f<m/\W (i+1) f c d)/\∀ x d,(ap K a).yld i H x d->g x b d λe j=>h { D with nx:=N,ct:=N,bk:=D.nx } e j)
def Wm {K:W.Frag} {c:TE} {g:TG} {d:TS} {D:Ends} {b:St} {H:Hp}:Bz (FZ K c) g d D b H=c b H (λx e=>∃ a,x=.ref a/\(∃ f,SqT K e a f)/\ForT K a g d D b e):=rfl
def Wn {K:W.Frag} {c:TE} {g:TG} {d:TS} {D:Ends} {b:St} {H:Hp}:Bz (CW K c) g d D b H=c b H (λx e=>∃ a,x=.ref a/\(∃ f,SqL K e a f)/\ForL K a g d D b e):=rfl
def ForT.by {K:W.Frag} {a:Addr} {xs:cN} {g:TG} {d:TS} {D:Ends} {b:St} {H:Hp} (Pv:Nat->St->Hp->Prop) (e:Pv 0 b H) (f:∀ i b H,i<=xs.length->Pv i b H->H a=some (.tup xs))
  (j:∀ i x b H,xs[i]?=some x->Pv i b H->g x b H λc k=>d { D with nx:=Pv (i+1),ct:=Pv (i+1),bk:=D.nx } c k) (m:∀ b H,Pv xs.length b H->D.nx b H):ForT K a g d D b H:=
 NW Pv e (λi b H h p=>SqT.of (f i b H h p)) j m
def ForL.by {K:W.Frag} {a:Addr} {xs:cN} {g:TG} {d:TS} {D:Ends} {b:St} {H:Hp} (Pv:Nat->St->Hp->Prop) (e:Pv 0 b H) (f:∀ i b H,i<=xs.length->Pv i b H->SqL K H a xs)
  (h:∀ i x b H,xs[i]?=some x->Pv i b H->g x b H λc j=>d { D with nx:=Pv (i+1),ct:=Pv (i+1),bk:=D.nx } c j) (k:∀ b H,Pv xs.length b H->D.nx b H):ForL K a g d D b H:=
 Ug Pv e f h k
def Ea {c:TT} {e:TS} {D:Ends} {a:St} {H:Hp} (W:Nat->St->Hp->Prop) (m:Nat) (i:W m a H)
  (j:∀ m a H,W m a H->c a H λb f=>if b=true then ∃ N:St->Hp->Prop,(∀ d g,N d g->∃ h,h<m/\W h d g)/\e { D with nx:=N,ct:=N,bk:=D.nx } a f else D.nx a f):Dw c e D a H:=⟨W,⟨m,i⟩,j⟩
def Kp (p:Addr) (H a:Hp):Prop:=∀ b o,b≠p->H b=some o->a b=some o
def Kp.trans {p:Addr} {H d e:Hp} (a:Kp p H d) (b:Kp p d e):Kp p H e:=λc o n h=>b c o n (a c o n h)
def Kp.of_same {p:Addr} {H a:Hp} (b:Same H a):Kp p H a:=λc o _ h=>b c o h
def Kp.upd {p:Addr} {H:Hp} {o:HO}:Kp p H (upd H p o):=λb u n h=>by rw [A3 n];exact h
def AO {H:Hp} {p:Addr} (h:H p=none) (o:HO):Same H (upd H p o):=λb u q=>by rw [A3 (B6 q h)];exact q
def sz {n:Nat} (h:n<=1000000):n<=sizeLine:=by rw [sizeLine_eq];omega
def Wp {c:Type} (a b:c):L_ [a,b] 0=some a:=rfl
def Wq {c:Type} (a b:c):L_ [a,b] 1=some b:=rfl
def Wu {d:Type} (a b c:d):L_ [a,b,c] 0=some a:=rfl
def Wv {d:Type} (a b c:d):L_ [a,b,c] 1=some b:=rfl
def Ww {d:Type} (a b c:d):L_ [a,b,c] 2=some c:=rfl
def Wx (a b:Int):scal (.int a) (.int b)=true:=rfl
def Wz (a b:Bool):scal (.bl a) (.bl b)=true:=rfl
def W0:av 3 0=some 0:=rfl
def W3:av 3 2=some 2:=rfl
end Bs
namespace Bs
open PySem PySem.Spec PyProof.Rows L2
def LB:bootBuiltins "abs" = some (.builtin "abs"):=by decide +kernel
def BR:bootBuiltins "len" = some (.builtin "len"):=by decide +kernel
def IN:bootBuiltins "max" = some (.builtin "max"):=by decide +kernel
def N7:bootBuiltins "min" = some (.builtin "min"):=by decide +kernel
def W5:bootBuiltins "isinstance" = some (.builtin "isinstance"):=by decide +kernel
def W6:bootBuiltins "int" = some (.type "int"):=by decide +kernel
def JY:bootBuiltins "tuple" = some (.type "tuple"):=by decide +kernel
def N8:bootBuiltins "list" = some (.type "list"):=by decide +kernel
def W7:bootBuiltins "enumerate" = some (.type "enumerate"):=by decide +kernel
def W9:bootBuiltins "zip" = some (.type "zip"):=by decide +kernel
section
variable {X:Cx}
def N9 {n:Nat} {x:Int} (h:Bd n x):Builtin.Int.intBits x<=n:=by
 unfold Builtin.Int.intBits;split
 ·exact Ai _
 ·rename_i a
  have b:x.natAbs≠0:=λz=>a (by have e:x=0:=by omega
                               subst e;rfl)
  have:=(Nat.log2_lt b).mpr h;omega
def BJ:OpR X (binaryOp .Mult) A5:=bo λ_ _ _ _ _ _ _ a q=>mul_int q a
def JZ:OpR X (inplaceOp .Mult) A5:=bo λ_ _ _ _ _ _ _ a q=>imul_int q a
def XA:OpR X (binaryOp .FloorDiv) K6:=bo λ_ _ _ _ _ _ _ a q=>floordiv_int a.1 q (.inl (PyProof.noPylong_of_log2 (a.2.log2 ∅)))
def Aa:bq X gT:=by
 intro a b c s d H x y v u Q I e f h g;obtain ⟨p,i,j,w,k,m,hp,n,q⟩:=h;exact VF a b c s d H x y v u Q I e f ⟨p,j,i,w,k,m,SqT.of hp,n,q⟩ g
def Am:bq X gL:=by
 intro a b c s d H x y v u Q I e f h g;obtain ⟨p,i,j,w,k,m,hp,n,q⟩:=h;exact VE a b c s d H x y v u Q I e f ⟨p,j,i,w,k,m,SqL.of hp,n,q⟩ g
def LC:Cb X (.builtin "abs") IL:=Ut
def IO (a:X.calm=true):Cb X (.builtin "max") Gb:=Uu a
def XB (a:X.calm=true):Cb X (.builtin "min") K8:=Uv a
def XC:Cb X (.type "int") K9:=λa s b H c d Q I r h=>Uw a s b H c d Q I r (.inr h)
def DW:Cb X (.builtin "len") C7:=λa s b H c d Q I r h=>by
 obtain ⟨p,f,e,hp,q⟩:=h;exact Nt a s b H c d Q I r ⟨p,f,e,.inr (SqT.of hp),q⟩
def CS:Cb X (.builtin "len") CD:=λa s b H c d Q I r h=>by
 obtain ⟨p,f,e,hp,q⟩:=h;exact Nt a s b H c d Q I r ⟨p,f,e,.inl (SqL.of hp),q⟩
def XD (K:W.Frag):W.kitOne K (.type "int") (.type "bool")=some false:=by kernel_rfl
def XE (K:W.Frag):W.kitOne K (.type "int") (.type "tuple")=some false:=by kernel_rfl
def XF (K:W.Frag):W.kitOne K (.type "int") (.type "list")=some false:=by kernel_rfl
def XG (K:W.Frag):W.kitOne K (.type "bool") (.type "int")=some true:=by kernel_rfl
def XH (K:W.Frag):W.kitOne K (.type "bool") (.type "tuple")=some false:=by kernel_rfl
def XI (K:W.Frag):W.kitOne K (.type "bool") (.type "list")=some false:=by kernel_rfl
def XJ (K:W.Frag):W.kitOne K (.type "tuple") (.type "bool")=some false:=by kernel_rfl
def XM (K:W.Frag):W.kitOne K (.type "tuple") (.type "int")=some false:=by kernel_rfl
def XN (K:W.Frag):W.kitOne K (.type "tuple") (.type "list")=some false:=by kernel_rfl
def XO (K:W.Frag):W.kitOne K (.type "list") (.type "bool")=some false:=by kernel_rfl
def XQ (K:W.Frag):W.kitOne K (.type "list") (.type "int")=some false:=by kernel_rfl
def XR (K:W.Frag):W.kitOne K (.type "list") (.type "tuple")=some false:=by kernel_rfl
def Ja (K:W.Frag) (n:String):W.kitOne K (.type n) (.type n)=some true:=by
 unfold W.kitOne;rw [sC (beq_self_eq_true _)]
theorem XS {H:Hp} {x:V} {n:String} {b:Bool} (K:W.Frag) (h:Fg H x n=some b):∃ t,TyOf K H x t/\W.kitOne K t (.type n)=some b:=by
 cases x with
 | int i=>
   refine ⟨_,.int i,?_⟩;unfold Fg at h;dsimp only at h;split at h
   ·rename_i e;cases h;subst e;exact Ja K _
   ·split at h
    ·rename_i e;cases h;rcases e with rfl | rfl | rfl
     ·exact XD K
     ·exact XE K
     ·exact XF K
    ·cases h
 | bl i=>
   refine ⟨_,.bl i,?_⟩;unfold Fg at h;dsimp only at h;split at h
   ·rename_i e;cases h;rcases e with rfl | rfl
    ·exact XG K
    ·exact Ja K _
   ·split at h
    ·rename_i e;cases h;rcases e with rfl | rfl
     ·exact XH K
     ·exact XI K
    ·cases h
 | ref p=>
   have a:IM (H p) n=some b:=h;cases e:H p with
   | none=>rw [e] at a;cases a
   | some o=>
     rw [e] at a;cases o with
     | tup c=>
       refine ⟨_,.tup e,?_⟩;unfold IM at a;dsimp only at a;split at a
       ·rename_i e;cases a;subst e;exact Ja K _
       ·split at a
        ·rename_i e;cases a;rcases e with rfl | rfl | rfl
         ·exact XJ K
         ·exact XM K
         ·exact XN K
        ·cases a
     | lst c=>
       refine ⟨_,.lst e,?_⟩;unfold IM at a;dsimp only at a;split at a
       ·rename_i e;cases a;subst e;exact Ja K _
       ·split at a
        ·rename_i e;cases a;rcases e with rfl | rfl | rfl
         ·exact XO K
         ·exact XQ K
         ·exact XR K
        ·cases a
     | _=>cases a
 | _=>cases h
def XT:Cb X (.builtin "isinstance") LA:=λc s j H m o Q I r h=>by
 obtain ⟨x,n,b,rfl,e,q⟩:=h;obtain ⟨u,d,rfl,f,rn⟩:=vals2 r;have a:d=Value.type n:=rn;subst a;obtain ⟨t,g,k⟩:=XS X.K e;exact U3 I f g k λi=>⟨.bl b,H,I.tok i,rfl,q⟩
end
structure Cal (P:Program) (w:World) (K:W.Frag) (mg:cW) (base:Heap) (n:Nat) (x:Str) (ps:c_) (sp:Sp):Prop where
 ex:∃ (f:Addr) (fd:FuncData),FnOk P w K mg base aE n f fd ps sp/\Binds K fd ps []/\W.keepIn K (.ref f)=true/\mg x=some (.ref f)
def Cal.pe {X:Cx} {n m:Nat} {x:Str} {ps:c_} {sp:Sp} {e:Expr} {a:cZ} {t:TA} {p c:Pos} (C:Cal X.prog X.w X.K X.mg X.base n x ps sp) (h:Room m X.A) (i:n<=m) (j:Gl X x) (o:PA X (e::a) t)
  (d:(x == ("__debug__" : Str))=false:=by decide) (q:starEach (e::a) X.env=(false,eval e X.env)::starEach a X.env:=by rfl) (g:(backTo c (starEach a X.env)).any (·.1)=false:=by rfl) :
  PE X (.Call (.Name x p) (e::a) [] c) (AF sp [] E0 t):=by
 obtain ⟨f,r,F,b,k,m⟩:=C.ex;exact U5 F (h.mono i) j m k b .nil VW o d q g
end Bs
namespace Bs
open PySem L2
noncomputable def C8 (capt:List (Option Nat)) (a:L2.St):L2.St:=capt.map λo=>o.bind λj=>(a[j]?).join
def B3 (e:TI) (capt:List (Option Nat)) (g:TG) (f:TE):TE:=λc H Q=>e c H λJ h=>∃ (n:Nat) (W:Nat->cN->Hp->Prop),W 0 [] h/\∀ i a H,W i a H->i<=n/\a.length<=sizeLine/\
 ((J.stop i H/\∀ p,H p=none->Q (.ref p) (upd H p (.lst a)))\/(i<n/\J.go i H/\∀ x d,J.yld i H x d->g x (C8 capt c) d λb j=>f b j λy k=>W (i+1) (a++[y]) k))
def CompJ (J:It) (capt:List (Option Nat)) (g:TG) (d:TE) (e:L2.St) (Q:VK) (f:Hp):Prop:=∃ (n:Nat) (W:Nat->cN->Hp->Prop),W 0 [] f/\∀ i a H,W i a H->i<=n/\a.length<=sizeLine/\
 ((J.stop i H/\∀ p,H p=none->Q (.ref p) (upd H p (.lst a)))\/(i<n/\J.go i H/\∀ x c,J.yld i H x c->g x (C8 capt e) c λb h=>d b h λy j=>W (i+1) (a++[y]) j))
section
variable {K:W.Frag} {ta:TA} {tl:TE} {capt:List (Option Nat)} {g:TG} {te:TE} {σ:L2.St} {H:Hp} {Q:VK}
def XU:B3 (Fa ta) capt g te σ H Q=ta σ H (λa b=>∃ j:Int,a=[.int j]/\-(2 ^ 62)<=j/\j<2 ^ 62/\CompJ (aq 0 j.toNat) capt g te σ Q b):=rfl
def XV:B3 (Fb ta) capt g te σ H Q=ta σ H (λa b=>∃ i j:Int,a=[.int i,.int j]/\(-(2 ^ 62)<=i/\i<2 ^ 62/\-(2 ^ 62)<=j/\j<2 ^ 62)/\CompJ (aq i (j - i).toNat) capt g te σ Q b):=rfl
def XW:B3 (FZ K tl) capt g te σ H Q=tl σ H (λx b=>∃ a,x=.ref a/\(∃ c,SqT K b a c)/\CompJ (aO K a) capt g te σ Q b):=rfl
def XX:B3 (CW K tl) capt g te σ H Q=tl σ H (λx b=>∃ a,x=.ref a/\(∃ c,SqL K b a c)/\CompJ (ap K a) capt g te σ Q b):=rfl
def CompJ.range {lo:Int} {n:Nat} (W:Nat->cN->Hp->Prop) (d:W 0 [] H) (b:∀ i a H,W i a H->i<=n/\a.length<=sizeLine)
  (f:∀ i a H,i<n->W i a H->g (.int (lo+i)) (C8 capt σ) H λc j=>te c j λy k=>W (i+1) (a++[y]) k) (m:∀ a H,W n a H->∀ p,H p=none->Q (.ref p) (upd H p (.lst a))):CompJ (aq lo n) capt g te σ Q H:=by
 refine ⟨n,W,d,λi a H w=>⟨(b i a H w).1,(b i a H w).2,?_⟩⟩;by_cases h:i<n
 ·refine .inr ⟨h,h,λx o y=>?_⟩;obtain ⟨e,y⟩:=y;subst e y;exact f i a _ h w
 ·have e:i=n:=Nat.le_antisymm (b i a H w).1 (Nat.not_lt.mp h);subst e;exact .inl ⟨AU _,m a H w⟩
def CompJ.tup {a:Addr} {xs:cN} (W:Nat->cN->Hp->Prop) (f:W 0 [] H) (c:∀ i b H,W i b H->i<=xs.length/\b.length<=sizeLine/\H a=some (.tup xs))
  (j:∀ i x b H,xs[i]?=some x->W i b H->g x (C8 capt σ) H λd k=>te d k λy m=>W (i+1) (b++[y]) m) (n:∀ b H,W xs.length b H->∀ p,H p=none->Q (.ref p) (upd H p (.lst b))):CompJ (aO K a) capt g te σ Q H:=by
 refine ⟨xs.length,W,f,λi b H w=>⟨(c i b H w).1,(c i b H w).2.1,?_⟩⟩;have q:SqT K H a xs:=SqT.of (c i b H w).2.2;by_cases h:i<xs.length
 ·refine .inr ⟨h,⟨xs,xs[i],q,by simp [h]⟩,λx o y=>?_⟩;obtain ⟨e,y⟩:=y;subst e;exact j i x b _ (y xs q) w
 ·have e:i=xs.length:=Nat.le_antisymm (c i b H w).1 (Nat.not_lt.mp h);subst e;exact .inl ⟨⟨xs,q,AU _⟩,n b H w⟩
def CompJ.lst {a:Addr} {xs:cN} (W:Nat->cN->Hp->Prop) (f:W 0 [] H) (c:∀ i b H,W i b H->i<=xs.length/\b.length<=sizeLine/\SqL K H a xs)
  (j:∀ i x b H,xs[i]?=some x->W i b H->g x (C8 capt σ) H λd k=>te d k λy m=>W (i+1) (b++[y]) m) (n:∀ b H,W xs.length b H->∀ p,H p=none->Q (.ref p) (upd H p (.lst b))):CompJ (ap K a) capt g te σ Q H:=by
 refine ⟨xs.length,W,f,λi b H w=>⟨(c i b H w).1,(c i b H w).2.1,?_⟩⟩;have q:SqL K H a xs:=(c i b H w).2.2;by_cases h:i<xs.length
 ·refine .inr ⟨h,⟨xs,xs[i],q,by simp [h]⟩,λx o y=>?_⟩;obtain ⟨e,y⟩:=y;subst e;exact j i x b _ (y xs q) w
 ·have e:i=xs.length:=Nat.le_antisymm (c i b H w).1 (Nat.not_lt.mp h);subst e;exact .inl ⟨⟨xs,q,AU _⟩,n b H w⟩
end
noncomputable def HM (K:W.Frag) (a:Addr):It:=
 ⟨λi H=>∃ b x,SqL K H a b/\b[i]?=some x,λi H v c=>∃ p x,H p=none/\v=.ref p/\c=upd H p (.tup [.int i,x])/\∀ b,SqL K H a b->b[i]?=some x,λi H=>∃ b,SqL K H a b/\b.length<=i⟩
def Fj (K:W.Frag) (c:TA):TI:=λd H R=>c d H λe b=>∃ a,e=[.ref a]/\(∃ f,SqL K b a f)/\R (HM K a) b
def ForJ (J:It) (g:TG) (f:TS) (D:Ends) (a:L2.St) (H:Hp):Prop:=∃ W:Nat->Nat->L2.St->Hp->Prop,(∃ m,W 0 m a H)/\∀ i m a H,W i m a H->
 (J.stop i H/\D.nx a H)\/(J.go i H/\∃ N:L2.St->Hp->Prop,(∀ b c,N b c->∃ e,e<m/\W (i+1) e b c)/\∀ x c,J.yld i H x c->g x a c λd h=>f { D with nx:=N,ct:=N,bk:=D.nx } d h)
section
variable {K:W.Frag} {ta:TA} {g:TG} {tb:TS} {D:Ends} {σ:L2.St} {H:Hp} {a:Addr} {xs:cN}
def XY:Bz (Fj K ta) g tb D σ H=ta σ H (λc b=>∃ a,c=[.ref a]/\(∃ xs,SqL K b a xs)/\ForJ (HM K a) g tb D σ b):=rfl
def XZ {capt:List (Option Nat)} {b:TE} {Q:VK}:B3 (Fj K ta) capt g b σ H Q=ta σ H (λd c=>∃ a,d=[.ref a]/\(∃ xs,SqL K c a xs)/\CompJ (HM K a) capt g b σ Q c):=rfl
def ForJ.enumL (Pv:Nat->L2.St->Hp->Prop) (d:Pv 0 σ H) (f:∀ i σ H,i<=xs.length->Pv i σ H->SqL K H a xs)
  (h:∀ i x p σ H,xs[i]?=some x->Pv i σ H->H p=none->g (.ref p) σ (upd H p (.tup [.int i,x])) λb j=>tb { D with nx:=Pv (i+1),ct:=Pv (i+1),bk:=D.nx } b j) (k:∀ σ H,Pv xs.length σ H->D.nx σ H):ForJ (HM K a) g tb D σ H:=by
 refine ⟨λi m σ H=>m=xs.length - i/\i<=xs.length/\Pv i σ H,⟨xs.length,by simp,Ai _,d⟩,?_⟩;rintro i m σ H ⟨rfl,n,pv⟩;have q:=f i σ H n pv;by_cases c:i<xs.length
 ·refine .inr ⟨⟨xs,xs[i],q,by simp [c]⟩,Pv (i+1),λo r u=>⟨xs.length - (i+1),⋯,rfl,c,u⟩,λx r y=>?_⟩;obtain ⟨p,v,hp,rfl,rfl,y⟩:=y;exact h i v p σ _ (y xs q) pv hp
 ·have e:i=xs.length:=by omega
  subst e;exact .inl ⟨⟨xs,q,AU _⟩,k σ H pv⟩
end
end Bs
namespace Bs
open PySem PySem.Spec PyProof.Rows L2
noncomputable def P' (X:Cx) (N:c_) (a:Scope) (e:List (Str×Addr)) (C:Addr) (s:Shared) (H:Hp) (f:de):Cx:=
 { X with N:=N,s₀:=s,H₀:=H,env:=compEnvC a e C X.env,outer:=X.stack,stack:=X.stack,ex:=f,fn:=λ_=>false,pn:=[],xe:=λ_ _=>False }
structure BlkOk (X:Cx) (N:c_) (capt:List (Option Nat)) (scope:Scope) (cl:List (Str×Addr)):Prop where
 kind:scope.kind=.function
 clos:closureFor scope X.env=pure cl
 nocell:∀ y∈scope.names,y.2≠.cell
 names:∀ y∈scope.names,y.2=.local->scope.names.lookup y.1=some .local
 cells:∀ y c,cl.lookup y=some c->X.env.cells.lookup y=some c
 has:∀ y,((relabel scope X.env).names.lookup y=some .cell\/(relabel scope X.env).names.lookup y=some .free)->∃ c,cl.lookup y=some c
 cap:∀ (i:Nat) (x:Str) (j:Nat),N[i]?=some x->capt[i]?=some (some j)->X.N[j]?=some x/\bH X.env.scope x/\X.env.kindOf x≠some .local/\((relabel scope X.env).names.lookup x=some .cell\/(relabel scope X.env).names.lookup x=some .free)
 len:capt.length=N.length
section
variable {X:Cx} {pins:cV} {σ:L2.St} {H:Hp} {s:Shared} {N:c_} {capt:List (Option Nat)} {scope:Scope} {cl:List (Str×Addr)} {C:Addr} {fp:de}
def OA (B:BlkOk X N capt scope cl) (I:Inv X pins σ H s) (d:∀ b∈fp,DU X pins H b) (g:∀ b∈fp,b<s.heap.objs.size) (f:s.heap.objs.size<=C):(P' X N scope cl C s H fp).Ok where
 mod:=I.ok.mod
 kind:=B.kind
 glob:=I.ok.glob
 blt:=I.ok.blt
 above:=f
 inj:=λx y c i j=>I.ok.inj x y c (B.cells x c i) (B.cells y c j)
 has:=λx h=>B.has x h
 cab:=λ_ _ h=>nomatch h
 hd:=I.ok.hd
 frames:=I.ok.frames
 stk:=.inl rfl
 exf:=λb a=>⟨λe=>absurd (CZ (g b a) f) (by rw [show b=C from e];exact Dg _),λx c e=>(d b a).2.2.2.2.1 x c (B.cells x c e)⟩
 bs:=I.bs
 bsz:=A7 I.ok.bsz I.sz
 noex:=λb o e a=>by
  rcases (d b a).2.2.2.1 with z | z
  ·exact I.ok.noex b o e z
  ·exact absurd (CZ (sK e) (A7 I.ok.bsz z)) (Dg _)
 exfs:=λb a k=>by
  rcases Bx.mp (I.stkSub b k) with z | z
  ·exact (d b a).2.1 z
  ·exact (d b a).2.2.1 z
 funs:=I.stack
 frf:=I.stkFree
 seer:=I.ok.seer
 tree:=I.ok.tree
 plr:=I.ok.plr
def Xa (B:BlkOk X N capt scope cl) (I:Inv X pins σ H s) (E:∀ b∈fp,DU X pins H b) (F:∀ b∈fp,b<s.heap.objs.size) (y:s.heap.objs.size<=C) {g:Heap} {m:cW} {tk:Nat}
  (G:g.Ns C m) (hk:∀ b o,s.heap.get? b=some o->g.get? b=some o):Inv (P' X N scope cl C s H fp) [] (C8 capt σ) H { s with heap:=g,toks:=tk } where
 ok:=OA B I E F y
 os:=rfl
 bare:=I.bare
 base:=Un.kept hk
 loc:=by
  refine ⟨m,G,λi x v J K U=>?_⟩;have a:(capt.map λo=>o.bind λj=>(σ[j]?).join)[i]?=some (some v):=K;rw [Aj] at a;cases h:capt[i]? with
  | none=>rw [h] at a;cases a
  | some o=>
    rw [h] at a;cases o with
    | none=>cases a
    | some j=>
      have f:(σ[j]?).join=some v:=sJ a;obtain ⟨L,M,O,D⟩:=B.cap i x j J h
      have P:σ[j]?=some (some v):=by
       cases q:σ[j]? with
       | none=>rw [q] at f;cases f
       | some w=>rw [q] at f;exact congrArg some f
      obtain ⟨W,_,Q⟩:=I.loc;obtain ⟨u,r,l⟩:=Q j x v L P M;refine ⟨u,r,.inr ⟨D,?_⟩⟩;rcases l with ⟨l,_⟩ | ⟨_,c,R,S⟩
      ·exact absurd l O
      ·obtain ⟨T,d⟩:=B.has x D;have:=B.cells x T d;rw [R] at this;cases this;obtain ⟨o,k,n⟩:=S;exact ⟨c,d,o,hk c o k,n⟩
 cell:=λx c e=>by
  obtain ⟨v,o,k,n⟩:=I.cell x c (B.cells x c e);exact ⟨v,o,hk c o k,n⟩
 free:=I.hok.fresh y
 freeC:=λx c e=>I.freeC x c (B.cells x c e)
 pin:=λp hp=>nomatch hp
 hok:=I.hok.kept hk
 len:=by show (capt.map _).length=N.length;rw [AL];exact B.len
def OB {h:L2.St} {p:Hp} {y:Shared} {d:cV} (B:BlkOk X N capt scope cl) (I:Inv X pins σ H s) (A:∀ b∈fp,DU X pins H b) (e:Inv (P' X N scope cl C s H fp) d h p y):Inv (P' X N scope cl C s H fp) d (C8 capt σ) p y:=
 ⟨e.ok,e.os,e.bare,e.base,by
  obtain ⟨m,D,_⟩:=e.loc;refine ⟨m,D,λi x v E F T=>?_⟩;have a:(capt.map λo=>o.bind λj=>(σ[j]?).join)[i]?=some (some v):=F;rw [Aj] at a;cases k:capt[i]? with
  | none=>rw [k] at a;cases a
  | some o=>
    rw [k] at a;cases o with
    | none=>cases a
    | some j=>
      have g:(σ[j]?).join=some v:=sJ a;obtain ⟨G,J,K,z⟩:=B.cap i x j E k
      have L:σ[j]?=some (some v):=by
       cases q:σ[j]? with
       | none=>rw [q] at g;cases g
       | some w=>rw [q] at g;exact congrArg some g
      obtain ⟨U,_,M⟩:=I.loc;obtain ⟨u,r,l⟩:=M j x v G L J;refine ⟨u,r,.inr ⟨z,?_⟩⟩;rcases l with ⟨l,_⟩ | ⟨_,c,n,O⟩
      ·exact absurd l K
      ·obtain ⟨P,f⟩:=B.has x z;have:=B.cells x P f;rw [n] at this;cases this;obtain ⟨o,Q,R⟩:=O;obtain ⟨W,hk⟩:=e.base.any Q (I.freeC x c n) λS=>(A c S).2.2.2.2.1 x c n rfl;exact ⟨c,f,_,hk,R⟩,e.cell,e.free,e.freeC,e.pin,e.hok,by show (capt.map _).length=N.length;rw [AL];exact B.len⟩
theorem Jb {a b:Type} [BEq a] [LawfulBEq a]:∀ {l:List (a×b)} {y:a} {c:b},l.lookup y=some c->(y,c)∈l
 | (k,v)::l,y,c,h=>by
   rw [List.lookup_cons] at h;cases e:y == k with
   | true=>
     rw [e] at h;cases h;rw [eq_of_beq e];exact CH ..
   | false=>
     rw [e] at h;exact Ca _ (Jb h)
def BlkOk.of (k:scope.kind=.function) (c:closureFor scope X.env=pure cl) (o:(scope.names.all λy=>y.2 != .cell)=true) (p:(scope.names.all λy=>y.2 != .local || scope.names.lookup y.1 == some .local)=true)
  (cs:∀ b∈cl,X.env.cells.lookup b.1=some b.2) (r:((relabel scope X.env).names.all λb=>(b.2 != .cell && b.2 != .free) || (cl.lookup b.1).isSome)=true)
  (u:((List.range N.length).all λi=>match N[i]?,capt[i]? with
   | some x,some (some j)=>X.N[j]? == some x && (X.env.scope.names.lookup x == some .cell || X.env.scope.names.lookup x == some .free) && ((relabel scope X.env).names.lookup x == some .cell || (relabel scope X.env).names.lookup x == some .free)
   | _,_=>true)=true) (v:capt.length=N.length):BlkOk X N capt scope cl where
 kind:=k
 clos:=c
 nocell:=λy f e=>by
  have z:=List.all_eq_true.mp o y f;rw [e] at z;exact absurd z ∅
 names:=λy f e=>by
  have z:=List.all_eq_true.mp p y f;rw [e] at z;simpa using z
 cells:=λy c h=>cs (y,c) (Jb h)
 has:=λy h=>by
  have m:∃ d,(y,d)∈(relabel scope X.env).names/\(d=.cell\/d=.free):=by
   rcases h with h | h
   ·exact ⟨_,Jb h,.inl rfl⟩
   ·exact ⟨_,Jb h,.inr rfl⟩
  obtain ⟨d,m,e⟩:=m;have z:=List.all_eq_true.mp r _ m
  have a:(cl.lookup y).isSome=true:=by
   rcases e with rfl | rfl
   ·simpa using z
   ·simpa using z
  exact Option.isSome_iff_exists.mp a
 cap:=λi x j g w=>by
  have li:i<N.length:=(CK.mp g).1;have z:=List.all_eq_true.mp u i (List.mem_range.mpr li);rw [g,w] at z;simp only [Bool.and_eq_true,Bool.or_eq_true,beq_iff_eq] at z;obtain ⟨⟨A,a⟩,B⟩:=z;refine ⟨A,.inr a,λq=>?_,B⟩;have n:X.env.scope.names.lookup x=some .local:=q;rcases a with a | a <;> (rw [a] at n;cases n)
 len:=v
end
open PySem.AutoSeq1 (wpAny_loadPart')
section
variable {X:Cx} {pins:cV} {σ:L2.St} {H:Hp} {s:Shared}
def Xb {e f:Addr} {g:Heap} {tk:Nat} {xs:cN} {its:cQ} (I:Inv X pins σ H s) (i:DU X pins H e) (j:DU X pins H f) (k:∀ b o,b≠e->b≠f->s.heap.get? b=some o->g.get? b=some o)
  (x:xs.length<=sizeLine) (A:Vals xs its) (B:g.get? s.heap.objs.size=some { cls:=.type "tuple", data:=.seq its.toArray }):Inv X pins σ (upd H s.heap.objs.size (.tup xs)) { s with heap:=g,toks:=tk }:=by
 have C:H s.heap.objs.size=none:=I.hok.fresh (AU _);have p:∀ b o,s.heap.get? b=some o->b≠s.heap.objs.size:=λb o q=>CG (sK q);have tr:∀ b u,H b=some u->b≠s.heap.objs.size/\b≠e/\b≠f:=λb u q=>⟨B6 q C,B6 q i.1,B6 q j.1⟩;have a:∀ b,b∉[e,f]->b≠e/\b≠f:=λb h=>⟨λz=>h (by simp [z]),λz=>h (by simp [z])⟩
 refine I.step (g':=s.gens) (d':=s.drawn) (ch:=[e,f]) (λb h=>?_) (λb o _ _ d q _=>k b o (a b d).1 (a b d).2 q) (λb o _ _ d q _=>⟨o.slots,k b o (a b d).1 (a b d).2 q⟩) (λb o _ q n=>?_) (λb o d q=>⟨o,k b o (a b d).1 (a b d).2 q⟩)
  (λb D q=>?_) (λb o u q=>?_) (λb ps q=>⟨#[],?_⟩) (λm E=>?_) (λb u q=>?_) I.bare
 ·have z:b=e\/b=f:=by simpa using h
  rcases z with rfl | rfl
  ·exact ⟨i.2.2.2.1,i.2.1,i.2.2.2.2.1,i.2.2.2.2.2⟩
  ·exact ⟨j.2.2.2.1,j.2.1,j.2.2.2.2.1,j.2.2.2.2.2⟩
 ·rw [A3 (p b o q)];exact n
 ·rw [A3 (tr b _ q).1];exact q
 ·rw [A3 (tr b _ q).1];exact q
 ·rw [A3 (tr b _ q).1,q];simp
 ·obtain ⟨o,F,G,J,K⟩:=E;exact ⟨o,F,G,k _ o i.2.1.symm j.2.1.symm J,K⟩
 ·by_cases h:b=s.heap.objs.size
  ·subst h;rw [upd_same] at q;cases q;exact ⟨x,its,A,⟨_,B,rfl,_,rfl⟩⟩
  ·rw [A3 h] at q;refine (I.hok b u q).stay (λc v d z=>?_) (λc z=>by rw [A3 (tr c _ z).1];exact z) λc D z=>by rw [A3 (tr c _ z).1];exact z
   rcases d with y | y
   ·subst y;exact k _ v (tr _ u q).2.1 (tr _ u q).2.2 z
   ·exact k c v (tr c _ y).2.1 (tr c _ y).2.2 z
end
def Xc {P:Program} {w:World} {K:W.Frag} {y:cZ} {k:Nat} {F:Pos} (a e m:Addr) (T:e≠m):Turn P w K (.Tuple y k F) (HM K a) [e,m] e (λi h=>(∃ f,IsEnum h e m i f)/\h.IsListIter m a i) where
 mem:=by simp
 obj:=λi h n b r=>by
  obtain ⟨⟨f,j⟩,o,G,c,d⟩:=n
  have z:b=e\/b=m:=by simpa using r
  rcases z with rfl | rfl
  ·exact ⟨_,j,λv z=>nomatch z⟩
  ·exact ⟨o,G,λv z=>by rw [d] at z;cases z⟩
 keep:=λi h h' n U=>⟨let ⟨f,j⟩:=n.1;⟨f,U e (by simp) _ j⟩,n.2.at λo q=>U m (by simp) o q⟩
 item:=by
  intro X J L M Y i A s σ H E I B n N
  subst J L M
  obtain ⟨Z,x,D,O⟩:=N
  obtain ⟨⟨f,j⟩,si⟩:=n
  obtain ⟨C,Q,p,hz⟩:=I.list D
  obtain ⟨u,hu,ru⟩:=Q.get O
  refine wpAny_pyNext_enum_item j si p.isList (x:=u) (by simpa using hu) T λg eo gi gt _ gk=>?_
  refine ⟨_,rfl,wpAny_letOwnedTupleGo_enum eo λg' R S=>?_⟩
  have I1:=Xb (g:=g') (tk:=s.toks+1) (xs:=[.int i,x]) (its:=[.int i s.toks,u]) I (B e (by simp)) (B m (by simp)) (λb o h1 h2 q=>S.extBut b o h1 (gk b o h1 h2 q)) (sz (by simp)) (.cons ⟨_,rfl⟩ (.cons ru .nil)) (S.extBut _ _ (Nat.ne_of_gt (sK j)) gt)
  refine ⟨.ref s.heap.objs.size,_,I1,rfl,⟨_,x,I.hok.fresh (AU _),rfl,rfl,λys hy=>by rw [I.list_inj hy D];exact O⟩,⟨⟨_,by simpa using R⟩,gi.at λo q=>S.extBut m o T.symm q⟩,λb r=>?_⟩
  rw [A3]
  ·exact (B b r).1
  ·have z:b=e\/b=m:=by simpa using r
   rcases z with rfl | rfl
   ·exact CG (sK j)
   ·obtain ⟨o,G,_⟩:=si;exact CG (sK G)
 done:=by
  intro X J L M Y i A s σ H E I B n N
  subst J L M
  obtain ⟨Z,D,O⟩:=N
  obtain ⟨⟨f,j⟩,si⟩:=n
  obtain ⟨C,Q,p,hz⟩:=I.list D
  obtain ⟨f0,f1,f2,f3,f4,f5⟩:=B m (by simp)
  have hl:=Q.length
  exact wpAny_pyNext_enum_end (I.ok.hd Y) j si p.isList (by simp;omega) λg eb=>⟨rfl,I.turned (t':=s.toks) (λb o r q=>eb b o r q) f0 f1 f3 f4 f5⟩
 self:=λ_ _ _ _ _ n h=>let ⟨_,j⟩:=n.1;wpAny_pyIter_enum j h
section
variable {X:Cx} {elts:cZ} {k:Nat} {tpos:Pos} {a:Expr} {ta:TA} {p pos:Pos}
def Jc (o:Gl X "enumerate") (r:X.mg "enumerate" = none) (v:PA X [a] ta) (w:starEach [a] X.env=[(false,eval a X.env)]:=by rfl):PI X (.Tuple elts k tpos) (.Call (.Name "enumerate" p) [a] [] pos) (Fj X.K ta):=by
 intro d s i H R I h;refine Call_ (Ev I o r W7 (PyProof.Rows.callWith_type1 (F_ (v pos d s i H _ I h) λJ e ⟨K,j,f,x,y⟩=>?_) w rfl));obtain ⟨b,rfl,⟨L,A⟩,q⟩:=y;obtain ⟨u,rfl,B⟩:=Ey x;cases B;obtain ⟨C,M,D,N⟩:=f.list A;refine call_enumerate_list D.isList λg m si _ E=>?_;have F:Inv X d i j { e with heap:=g }:=f.kept (t':=e.toks) E;refine wpAny_pyIter_enum m ⟨_,[e.heap.objs.size+1,e.heap.objs.size],_,_,j,rfl,F,Xc b _ _ (Nat.succ_ne_self _),⟨⟨_,m⟩,si⟩,λc G=>?_,q⟩;have z:c=e.heap.objs.size+1\/c=e.heap.objs.size:=by simpa using G
 rcases z with rfl | rfl
 ·exact f.fpOk (Nat.le_succ _) (f.hok.fresh (Nat.le_succ _))
 ·exact f.fpOk (AU _) (f.hok.fresh (AU _))
end
end Bs
namespace Bs
open PySem L2
mutual
inductive RepD (H:Hp):V->W.Dat->Prop
 | non:RepD H .non .none
 | int (i:Int):RepD H (.int i) (.int i)
 | tup {p:Addr} {xs:cN} {ds:List W.Dat} (h:H p=some (.tup xs)) (r:RepA H xs ds):RepD H (.ref p) (.tuple ds)
 | lst {p:Addr} {xs:cN} {ds:List W.Dat} (h:H p=some (.lst xs)) (r:RepA H xs ds):RepD H (.ref p) (.list ds)
inductive RepA (H:Hp):cN->List W.Dat->Prop
 | nil:RepA H [] []
 | cons {x:V} {xs:cN} {d:W.Dat} {ds:List W.Dat} (h:RepD H x d) (r:RepA H xs ds):RepA H (x::xs) (d::ds)
end
def bO:R2:=λx y H Q=>∃ (d e:W.Dat) (b:Bool),RepD H x d/\RepD H y e/\W.kqdOk 8 d=true/\W.kqdOk 8 e=true/\(b=true↔d=e)/\Q (.bl b) H
def neD:R2:=λx y H Q=>∃ (d e:W.Dat) (b:Bool),RepD H x d/\RepD H y e/\W.kqdOk 8 d=true/\W.kqdOk 8 e=true/\(b=true↔d=e)/\Q (.bl (!b)) H
def Eb (c:TE):TT:=λd H Q=>c d H λx a=>∃ p b,x=.ref p/\a p=some (.lst b)/\Q (!b.isEmpty) a
def Xd (c:TE):TT:=λd H Q=>c d H λx a=>∃ p b,x=.ref p/\a p=some (.tup b)/\Q (!b.isEmpty) a
def sL:V->Option Int->Option Int->Hp->VK->Prop:=λx lo c H Q=>∃ a b,x=.ref a/\H a=some (.lst b)/\∀ p,H p=none->Q (.ref p) (upd H p (.lst (BU b lo c)))
def IP:cN->Hp->VK->Prop:=λb H Q=>∃ p a,b=[.ref p]/\H p=some (.lst a)/\∀ l,H l=none->Q (.ref l) (upd H l (.tup a))
def Xe:cN->Hp->VK->Prop:=λb H Q=>∃ p a,b=[.ref p]/\H p=some (.tup a)/\∀ l,H l=none->Q (.ref l) (upd H l (.lst a))
def Jd:cN->Hp->VK->Prop:=λb H Q=>∃ p a,b=[.ref p]/\H p=some (.lst a)/\∀ l,H l=none->Q (.ref l) (upd H l (.lst a))
end Bs
namespace Bs
open PySem PySem.Spec PyProof.Rows L2
section
variable {X:Cx} {pins:cV} {σ:L2.St} {H:Hp} {s:Shared}
mutual
theorem Gc (I:Inv X pins σ H s):∀ {x:V} {d:W.Dat} {u:Value},RepD H x d->RelV x u->∃ as,Reads s.heap u (W.kqdP d) as
 | _,_,_,.non,e=>by cases e;rw [W.kqdP];exact ⟨_,Reads.none⟩
 | _,_,_,.int i,⟨t,e⟩=>by subst e;rw [W.kqdP];exact ⟨_,Reads.int i t⟩
 | _,_,_,.tup h r,e=>by
   cases e;obtain ⟨a,b,p,_⟩:=I.tuple (SqT.of h);obtain ⟨as,q⟩:=IQ I r b;obtain ⟨o,c,f,n,g⟩:=p;rw [W.kqdP];exact ⟨as,reads_tuple_at c f g (by simpa using q)⟩
 | _,_,_,.lst h r,e=>by
   cases e;obtain ⟨a,b,p,_⟩:=I.list (SqL.of h);obtain ⟨as,q⟩:=IQ I r b;obtain ⟨o,n,c,f,_,g⟩:=p;rw [W.kqdP];exact ⟨_,reads_list_at c f g (by simpa using q)⟩
theorem IQ (I:Inv X pins σ H s):∀ {xs:cN} {a:List W.Dat} {b:cQ},RepA H xs a->Vals xs b->∃ as,ReadsAll s.heap b (W.kqdPs a) as
 | _,_,_,.nil,.nil=>by rw [W.kqdPs];exact ⟨_,ReadsAll.nil⟩
 | _,_,_,.cons h r,.cons e c=>by
   obtain ⟨as,q⟩:=Gc I h e;obtain ⟨f,d⟩:=IQ I r c;rw [W.kqdPs];exact ⟨_,ReadsAll.cons q d⟩
end
def Je {d:W.Dat} (h:W.kqdOk 8 d=true):SeqAt.shaped (W.kqdP d)=true:=by
 have z:=W.kqd_lay 8 d h;unfold SeqAt.shaped;rw [z.1,Bool.true_and];exact decide_eq_true (A7 z.2 ∅)
def OC {d e:W.Dat} {b:Bool} (a:W.kqdOk 8 d=true) (c:W.kqdOk 8 e=true) (f:b=true↔d=e):PyData.eqv (W.kqdP d) (W.kqdP e)=b:=by
 rw [Bool.eq_iff_iff,f];exact W.kqd_eqv 8 d e 8 a c
def OD (f:X.A.units+64<cLine):OpR X (compareOp .Eq) bO:=by
 intro pins s σ H x y v u Q I g i h;obtain ⟨d,e,b,j,k,a,c,m,q⟩:=h;obtain ⟨as,n⟩:=Gc I j g;obtain ⟨p,o⟩:=Gc I k i;exact eq_dataH n o (Je a) (Je c) f (by rw [OC a c m];exact ⟨.bl b,H,I,rfl,q⟩)
def Xf (f:X.A.units+64<cLine):OpR X (compareOp .NotEq) neD:=by
 intro pins s σ H x y v u Q I g i h;obtain ⟨d,e,b,j,k,a,c,m,q⟩:=h;obtain ⟨as,n⟩:=Gc I j g;obtain ⟨p,o⟩:=Gc I k i;exact ne_dataH n o (Je a) (Je c) f (by rw [OC a c m];exact ⟨.bl (!b),H,I,rfl,q⟩)
def Fk {a:Expr} {c:TE} (d:PE X a c) (f:∀ b,isTrue a X.env b=(do let v <-b;standAt a.pos;holding [v] (truthy v))):PT X a (Eb c):=λpins s σ H Q I h=>
 isTrue_plain (F_ (d pins s σ H _ I h) λv g ⟨x,i,j,k,m⟩=>by
  obtain ⟨p,n,e,hp,q⟩:=m;subst e;exact Us pins g σ i _ v Q j k ⟨_,.inl ⟨n,SqL.of hp,rfl⟩,q⟩) (f _)
def E4:cb X sL:=by
 intro pins s σ H x v b c lo d f Q I g i j k h;obtain ⟨a,m,e,n,q⟩:=h;exact Nr pins s σ H x v b c lo d f Q I g i j k ⟨a,m,e,SqL.of n,q⟩
def LD:Cb X (.type "tuple") IP:=λpins s σ H a b Q I r h=>by
 obtain ⟨p,c,e,hp,q⟩:=h;exact VM pins s σ H a b Q I r ⟨p,c,e,.inl ⟨SqL.of hp,q⟩⟩
def OF:Cb X (.type "list") Jd:=λpins s σ H a b Q I r h=>by
 obtain ⟨p,c,e,hp,q⟩:=h;exact VL pins s σ H a b Q I r ⟨p,c,e,.inl (SqL.of hp),q⟩
def Jf:bK X gL:=by
 intro pins s σ H o i B C Q I m n h;obtain ⟨p,k,D,v,rfl,rfl,hp,u,q⟩:=h;cases m;obtain ⟨t,rfl⟩:=n;obtain ⟨c,r,e,E⟩:=I.list (SqL.of hp);obtain ⟨j,b,x,F,y,z⟩:=K1 u;obtain ⟨w,f,rw'⟩:=r.get x;have A:=r.length;have G:=HI;have a:EP X pins σ Q w s:=⟨v,H,I,rw',q⟩;by_cases g:0<=k
 ·have d:k.toNat=j:=by
   rw [seqIndex_of g z] at b;exact sJ b
  exact wpAny_getItem_list e.isList g ⋯ (by rw [d];simpa using f) a
 ·have d:(k+(c.toArray.size:Int)).toNat=j:=by
   rw [seqIndex_neg ⋯ y] at b;rw [Bf,<-A];exact sJ b
  exact wpAny_getItem_list_neg e.isList ⋯ (by rw [Bf] <;> omega) ⋯ (by rw [d];simpa using f) a
def IR {K:W.Frag} {p:Addr} {xs:cN} (h:H p=some (.lst xs)):cf K "list" (.ref p) H:=.inl ⟨rfl,xs,SqL.of h⟩
end
end Bs
namespace Bs
open PySem L2
def EI (n:Nat) (t:aM):TG:=λv c H Q=>∃ a b,v=.ref a/\H a=some (.tup b)/\b.length=n/\t b c H Q
end Bs
namespace Bs
open PySem PySem.Spec PyProof.Rows L2
def E5 {X:Cx} {c:cZ} {k:Nat} {d:Pos} {t:aM} {n:Nat} (g:X.calm=true) (h:bI X c t)
  (i:(assignEach c X.env).length=n:=by rfl) (f:(assignEach c X.env).findIdx? (·.1)=none:=by rfl):PG X (.Tuple c k d) (EI n t):=λb s j H v u Q I r q=>by
 obtain ⟨a,m,e,o,p,q⟩:=q;exact UZ g h i f b s j H v u Q I r ⟨a,m,e,SqT.of o,p,q⟩
def Xg {X:Cx}:OpR X (inplaceOp .FloorDiv) K5:=bo λi j _ _ _ _ _ a q=>by
 refine ifloordiv_int (AW a.1) ?_ (.inl (PyProof.noPylong_of_log2 (a.2.log2 ∅)));rw [ES i (Dt a.1)];exact q
end Bs
namespace Bs
open PySem L2
def sT:V->Option Int->Option Int->Hp->VK->Prop:=λx lo d H Q=>∃ a b,x=.ref a/\H a=some (.tup b)/\∀ p c,(c=H/\p=a/\BU b lo d=b)\/(H p=none/\c=upd H p (.tup (BU b lo d)))->Q (.ref p) c
noncomputable def bR (lo:Int) (n:Nat):It:=⟨λi _=>i<n,λi H x a=>a=H/\x=.int (lo - i),λi _=>n<=i⟩
def IS (a:TA):TI:=λb H R=>a b H λc d=>∃ i j:Int,c=[.int i,.int j,.int (-1)]/\(-(2 ^ 62)<=i/\i<2 ^ 62/\-(2 ^ 62)<=j/\j<2 ^ 62)/\R (bR i (i - j).toNat) d
section
variable {K:W.Frag} {ta:TA} {g:TG} {tb:TS} {D:Ends} {σ:L2.St} {H:Hp} {a:Addr} {xs:cN}
def Xh:Bz (IS ta) g tb D σ H=ta σ H (λb c=>∃ i j:Int,b=[.int i,.int j,.int (-1)]/\(-(2 ^ 62)<=i/\i<2 ^ 62/\-(2 ^ 62)<=j/\j<2 ^ 62)/\ForJ (bR i (i - j).toNat) g tb D σ c):=rfl
def ForJ.down {lo:Int} {n:Nat} (Pv:Nat->L2.St->Hp->Prop) (d:Pv 0 σ H)
  (f:∀ i σ H,i<n->Pv i σ H->g (.int (lo - i)) σ H λb h=>tb { D with nx:=Pv (i+1),ct:=Pv (i+1),bk:=D.nx } b h) (j:∀ σ H,Pv n σ H->D.nx σ H):ForJ (bR lo n) g tb D σ H:=by
 refine ⟨λi m σ H=>m=n - i/\i<=n/\Pv i σ H,⟨n,by simp,Ai _,d⟩,?_⟩;rintro i m σ H ⟨rfl,v,pv⟩;by_cases c:i<n
 ·refine .inr ⟨c,Pv (i+1),λk o p=>⟨n - (i+1),⋯,rfl,c,p⟩,λx o y=>?_⟩;obtain ⟨e,y⟩:=y;subst e y;exact f i σ _ c pv
 ·have e:i=n:=by omega
  subst e;exact .inl ⟨AU _,j σ H pv⟩
end
end Bs
namespace Bs
open PySem PySem.Spec PyProof.Rows L2
def Xi {P:Program} {w:World} {K:W.Frag} {M:Expr} (c:Addr) (lo:Int) (n:Nat):Turn P w K M (bR lo n) [c] c (λi h=>IsRangeIter h c (lo+(i:Nat)*(-1)) ((n:Int) - (i:Nat)) (-1)) where
 mem:=by simp
 obj:=λi h a b f=>by
  have e:b=c:=by simpa using f
  subst e
  exact ⟨_,a,λv z=>by
   have N:Data.fields _=Data.cell v:=z
   cases N⟩
 keep:=λi h p a k=>k c (by simp) _ a
 item:=by
  intro X r u x y i d s J H E I q a A
  subst r u x
  obtain ⟨B,C,O,D,F,G⟩:=q c (by simp)
  have W:=Walks.range (prog:=X.prog) (w:=X.w) (I.ok.hd y) c lo (-1) n
  refine W.item i s _ _ A a λv p L Q g R=>?_
  obtain ⟨t,rfl⟩:=Q
  have S:Inv X d J H { s with heap:=p,toks:=L }:=I.turned (λb o f e=>R b o (by simpa using f) e) B C D F G
  refine ⟨_,rfl,JP (s:={ s with heap:=p,toks:=L }) (n := "range_iterator") g rfl rfl ∅ ⟨.int (lo - i),H,S,⟨t,?_⟩,⟨rfl,rfl⟩,g,λb f=>(q b f).1⟩⟩
  rw [show lo+(i:Int)*(-1)=lo - i by omega]
 done:=by
  intro X r u x y i d s J H E I q a A
  subst r u x
  obtain ⟨B,C,O,D,F,G⟩:=q c (by simp)
  exact wpAny_pyNext_range_end (I.ok.hd y) a (by have:n<=i:=A;omega) λp T=>⟨rfl,I.turned (t':=s.toks) (λb o f e=>T b o f e) B C D F G⟩
 self:=λ_ _ _ _ _ a h=>wpAny_pyIter_rangeiter a h
def OG (a b:Int):Builtin.Range.rangeSize a b (-1)=if b<a then a - b else 0:=by
 unfold Builtin.Range.rangeSize;simp only [show ¬ ((-1:Int) > 0) by decide,if_false,Int.neg_neg,Int.ediv_one];split <;> omega
def Xj {a b:Int} (e:-(2 ^ 62)<=a) (c:a<2 ^ 62) (f:-(2 ^ 62)<=b) (d:b<2 ^ 62):Builtin.Range.small a b (-1)=true:=by
 unfold Builtin.Range.small;rw [OG];simp only [Builtin.Range.rangeFitsLong,Bool.and_eq_true,Bool.or_eq_true,decide_eq_true_eq,beq_iff_eq,show ¬ ((-1:Int) > 0) by decide,if_false];split <;> omega
theorem OH {X:Cx} {E:Expr} {a b c:Expr} {z:TA} {p n:Pos} (F:Gl X "range") (G:X.mg "range" = none) (J:PA X [a,b,c] z) (K:starEach [a,b,c] X.env=[(false,eval a X.env),(false,eval b X.env),(false,eval c X.env)]:=by rfl) (u:starEach [b,c] X.env=[(false,eval b X.env),(false,eval c X.env)]:=by rfl) :
  PI X E (.Call (.Name "range" p) [a,b,c] [] n) (IS z):=by
 intro g s A H R I h;refine Call_ (Ev I F G boot_range (PyProof.Rows.callWith_type1 (F_ (J n g s A H _ I h) λW k ⟨Y,B,L,M,w⟩=>?_) (by rw [K,u]) (by rw [u];rfl)));obtain ⟨i,j,e,⟨w,N,O,P⟩,q⟩:=w;subst e;cases M with
 | cons r v=>
   cases v with
   | cons Q v=>
     cases v with
     | cons x v=>
       cases v;obtain ⟨t,rfl⟩:=r;obtain ⟨t',rfl⟩:=Q;obtain ⟨f,rfl⟩:=x;refine call_range_3 ∅ ?_ (.inl (PyProof.noPylong_small ∅));refine wpAny_pyIter_range (IsRange.new ..) (Xj w N O P) ?_;have y:Inv X g A B { k with heap:=k.heap.push { cls:=.type "range", data:=.fields #[.int i t,.int j t',.int (-1) f] },toks:=k.toks }:=L.kept λb o e=>Heap.get?_push_of_some _ e
       refine ⟨(k.heap.push { cls:=.type "range", data:=.fields #[.int i t,.int j t',.int (-1) f] }).objs.size,[(k.heap.push { cls:=.type "range", data:=.fields #[.int i t,.int j t',.int (-1) f] }).objs.size],_,_,B,rfl,
        y.kept (t':=k.toks) λb o e=>Heap.get?_push_of_some _ e,Xi _ i (i - j).toNat,?_,λb S=>?_,q⟩
       ·have T:i+((0:Nat):Int)*(-1)=i:=by simp
        have U:(((i - j).toNat:Nat):Int) - ((0:Nat):Int)=Builtin.Range.rangeSize i j (-1):=by rw [OG];split <;> omega
        show IsRangeIter _ _ (i+((0:Nat):Int)*(-1)) ((((i - j).toNat:Nat):Int) - ((0:Nat):Int)) (-1);rw [T,U];exact Heap.get?_push_size _ rfl
       ·have e:b=(k.heap.push { cls:=.type "range", data:=.fields #[.int i t,.int j t',.int (-1) f] }).objs.size:=by simpa using S
        subst e;exact y.fpOk (AU _) (y.hok.fresh (AU _))
end Bs
namespace Bs
open PySem L2
def LE:R2:=λx y H Q=>y=.non/\Q (.bl (decide (x=.non))) H
def OI:R2:=λx y H Q=>y=.non/\Q (.bl (!decide (x=.non))) H
def LF (_ j:Int):Prop:=0<j
def Jg (_ j:Int):Prop:=j≠0
abbrev Bt:R2:=rI LF λi j=>.int (i / j)
abbrev EJ:R2:=rI Jg λi j=>.int (i.fdiv j)
noncomputable def Itz (K:W.Frag) (a b:Addr):It:=
 ⟨λi H=>∃ c d x y,SqL K H a c/\SqL K H b d/\c[i]?=some x/\d[i]?=some y,λi H v e=>∃ p x y,H p=none/\v=.ref p/\e=upd H p (.tup [x,y])/\(∀ c,SqL K H a c->c[i]?=some x)/\∀ d,SqL K H b d->d[i]?=some y,λi H=>∃ c d,SqL K H a c/\SqL K H b d/\c.length<=i⟩
def LG (K:W.Frag) (d:TA):TI:=λe H R=>d e H λf c=>∃ a b,f=[.ref a,.ref b]/\(∃ g,SqL K c a g)/\(∃ h,SqL K c b h)/\R (Itz K a b) c
def HN (h:TI) (capt:List (Option Nat)) (g:TG) (tc:TT) (j:TE):TE:=λd H Q=>h d H λJ k=>∃ (n:Nat) (W:Nat->cN->Hp->Prop),W 0 [] k/\∀ i a H,W i a H->i<=n/\a.length<=sizeLine/\
 ((J.stop i H/\∀ p,H p=none->Q (.ref p) (upd H p (.lst a)))\/(i<n/\J.go i H/\∀ x e,J.yld i H x e->g x (C8 capt d) e λc m=>tc c m λb f=>if b=true then j c f λy o=>W (i+1) (a++[y]) o else W (i+1) a f))
def CompF (J:It) (capt:List (Option Nat)) (g:TG) (tc:TT) (f:TE) (h:L2.St) (Q:VK) (j:Hp):Prop:=∃ (n:Nat) (W:Nat->cN->Hp->Prop),W 0 [] j/\∀ i a H,W i a H->i<=n/\a.length<=sizeLine/\
 ((J.stop i H/\∀ p,H p=none->Q (.ref p) (upd H p (.lst a)))\/(i<n/\J.go i H/\∀ x d,J.yld i H x d->g x (C8 capt h) d λc k=>tc c k λb e=>if b=true then f c e λy m=>W (i+1) (a++[y]) m else W (i+1) a e))
section
variable {K:W.Frag} {ta:TA} {tl:TE} {capt:List (Option Nat)} {g:TG} {tc:TT} {te:TE} {tb:TS} {D:Ends} {σ:L2.St} {H:Hp} {Q:VK} {a b:Addr} {xs ys:cN}
def Xk:HN (CW K tl) capt g tc te σ H Q=tl σ H (λx c=>∃ a,x=.ref a/\(∃ xs,SqL K c a xs)/\CompF (ap K a) capt g tc te σ Q c):=rfl
def Xl:B3 (LG K ta) capt g te σ H Q=ta σ H (λd c=>∃ a b,d=[.ref a,.ref b]/\(∃ xs,SqL K c a xs)/\(∃ ys,SqL K c b ys)/\CompJ (Itz K a b) capt g te σ Q c):=rfl
def CompF.lst (W:Nat->cN->Hp->Prop) (j:W 0 [] H) (d:∀ i ys H,W i ys H->i<=xs.length/\ys.length<=sizeLine/\SqL K H a xs)
  (k:∀ i x ys H,xs[i]?=some x->W i ys H->g x (C8 capt σ) H λc m=>tc c m λb f=>if b=true then te c f λy n=>W (i+1) (ys++[y]) n else W (i+1) ys f) (o:∀ ys H,W xs.length ys H->∀ p,H p=none->Q (.ref p) (upd H p (.lst ys))):CompF (ap K a) capt g tc te σ Q H:=by
 refine ⟨xs.length,W,j,λi ys H w=>⟨(d i ys H w).1,(d i ys H w).2.1,?_⟩⟩;have q:SqL K H a xs:=(d i ys H w).2.2;by_cases h:i<xs.length
 ·refine .inr ⟨h,⟨xs,xs[i],q,by simp [h]⟩,λx r y=>?_⟩;obtain ⟨e,y⟩:=y;subst e;exact k i x ys _ (y xs q) w
 ·have e:i=xs.length:=Nat.le_antisymm (d i ys H w).1 (Nat.not_lt.mp h);subst e;exact .inl ⟨⟨xs,q,AU _⟩,o ys H w⟩
end
def OJ:V->Hp->VK->Prop:=λx H Q=>∃ (p:Addr) (a:cP),x=.ref p/\H p=some (.lst (a.map V.int))/\∀ m:Int,(a=[]/\m=0\/m∈a)->Q (.int m) H
def LH (a:TE):TE:=λb H Q=>a b H λx c=>OJ x c Q
def LI:cN->Hp->VK->Prop:=λb H Q=>∃ (p:Addr) (a:cP),b=[.ref p]/\H p=some (.lst (a.map V.int))/\Q (.bl (a.any λz=>!decide (z=0))) H
end Bs
namespace Bs
open PySem PySem.Spec PyProof.Rows L2
section
variable {X:Cx} {pins:cV} {σ:L2.St} {H:Hp} {s:Shared}
def E6:OpR X (binaryOp .FloorDiv) EJ:=by
 intro pins s σ H x y v u Q I a b ⟨i,j,c,d,e,q⟩;subst c d;obtain ⟨t,rfl⟩:=a;obtain ⟨f,rfl⟩:=b;exact floordiv_int e ⟨.int (i.fdiv j),H,I.tok _,⟨_,rfl⟩,q⟩ (Or.inr (I.ok.plr s I.bk))
def CF:OpR X (binaryOp .FloorDiv) Bt:=by
 intro pins s σ H x y v u Q I b c ⟨i,j,d,e,f,q⟩;have a:0<j:=f;replace q:Q (.int (i / j)) H:=q;rw [<-ES i (Dt a)] at q;exact E6 pins s σ H x y v u Q I b c ⟨i,j,d,e,AW a,q⟩
def Xn {f:de} {g:Heap} {tk:Nat} (I:Inv X pins σ H s) (e:∀ b∈f,DU X pins H b) (k:∀ b o,b∉f->s.heap.get? b=some o->g.get? b=some o):Inv X pins σ H { s with heap:=g,toks:=tk }:=by
 have tr:∀ b u,H b=some u->b∉f:=λb u q a=>by rw [(e b a).1] at q;cases q
 refine I.step (g':=s.gens) (d':=s.drawn) (ch:=f) (λb a=>⟨(e b a).2.2.2.1,(e b a).2.1,(e b a).2.2.2.2.1,(e b a).2.2.2.2.2⟩) (λb o _ _ d q _=>k b o d q) (λb o _ _ d q _=>⟨o.slots,k b o d q⟩) (λ_ _ _ _ n=>n)
  (λb o d q=>⟨o,k b o d q⟩) (λ_ _ q=>q) (λ_ _ _ q=>q) (λb ps q=>⟨#[],by rw [q];simp⟩) (λm j=>?_) (λb u q=>?_) I.bare
 ·obtain ⟨o,p,r,w,x⟩:=j;exact ⟨o,p,r,k _ o (λa=>(e _ a).2.1 rfl) w,x⟩
 ·refine (I.hok b u q).stay (λc v d z=>?_) (λ_ z=>z) λ_ _ z=>z;rcases d with y | y
  ·subst y;exact k _ v (tr _ u q) z
  ·exact k c v (tr c _ y) z
def Xo {h:de} {g:Heap} {tk:Nat} {xs:cN} {its:cQ} (I:Inv X pins σ H s) (e:∀ b∈h,DU X pins H b) (k:∀ b o,b∉h->s.heap.get? b=some o->g.get? b=some o)
  (p:xs.length<=sizeLine) (r:Vals xs its) (w:g.get? s.heap.objs.size=some { cls:=.type "tuple", data:=.seq its.toArray }):Inv X pins σ (upd H s.heap.objs.size (.tup xs)) { s with heap:=g,toks:=tk }:=by
 have x:H s.heap.objs.size=none:=I.hok.fresh (AU _);have f:∀ b u,H b=some u->b≠s.heap.objs.size:=λb u q=>B6 q x;have tr:∀ b u,H b=some u->b∉h:=λb u q a=>by rw [(e b a).1] at q;cases q
 refine I.step (g':=s.gens) (d':=s.drawn) (ch:=h) (λb a=>⟨(e b a).2.2.2.1,(e b a).2.1,(e b a).2.2.2.2.1,(e b a).2.2.2.2.2⟩) (λb o _ _ d q _=>k b o d q) (λb o _ _ d q _=>⟨o.slots,k b o d q⟩) (λb o _ q n=>?_)
  (λb o d q=>⟨o,k b o d q⟩) (λb A q=>?_) (λb o u q=>?_) (λb ps q=>⟨#[],?_⟩) (λm B=>?_) (λb u q=>?_) I.bare
 ·rw [A3 (CG (sK q))];exact n
 ·rw [A3 (f b _ q)];exact q
 ·rw [A3 (f b _ q)];exact q
 ·rw [A3 (f b _ q),q];simp
 ·obtain ⟨o,C,D,E,F⟩:=B;exact ⟨o,C,D,k _ o (λa=>(e _ a).2.1 rfl) E,F⟩
 ·by_cases a:b=s.heap.objs.size
  ·subst a;rw [upd_same] at q;cases q;exact ⟨p,its,r,⟨_,w,rfl,_,rfl⟩⟩
  ·rw [A3 a] at q;refine (I.hok b u q).stay (λc v d z=>?_) (λc z=>by rw [A3 (f c _ z)];exact z) λc A z=>by rw [A3 (f c _ z)];exact z
   rcases d with y | y
   ·subst y;exact k _ v (tr _ u q) z
   ·exact k c v (tr c _ y) z
end
def Xp (a b z c d e f:Addr) (i:Nat) (h:Heap):Prop:=IsZip h z c d .none/\IsPair h c (.ref e) (.ref f)/\(∃ u v,IsPair h d u v)/\h.IsListIter e a i/\h.IsListIter f b i
def Xq {P:Program} {w:World} {K:W.Frag} {M:cZ} {k:Nat} {Y:Pos} {a b z p r m n:Addr} (D:ZipApart z p r m n a b):Turn P w K (.Tuple M k Y) (Itz K a b) [z,p,r,m,n] z (Xp a b z p r m n) where
 mem:=by simp
 obj:=λi h f c j=>by
  obtain ⟨G,F,⟨u,v,J⟩,⟨o4,B,_,d4⟩,⟨o5,C,_,d5⟩⟩:=f
  have d:c=z\/c=p\/c=r\/c=m\/c=n:=by simpa using j
  rcases d with rfl | rfl | rfl | rfl | rfl
  ·exact ⟨_,G,λv q=>nomatch q⟩
  ·exact ⟨_,F,λv q=>nomatch q⟩
  ·exact ⟨_,J,λv q=>nomatch q⟩
  ·exact ⟨_,B,λv q=>by rw [d4] at q;cases q⟩
  ·exact ⟨_,C,λv q=>by rw [d5] at q;cases q⟩
 keep:=λi h h' f N=>⟨N z (by simp) _ f.1,N p (by simp) _ f.2.1,let ⟨u,v,q⟩:=f.2.2.1;⟨u,v,N r (by simp) _ q⟩,f.2.2.2.1.at λo q=>N m (by simp) o q,f.2.2.2.2.at λo q=>N n (by simp) o q⟩
 item:=by
  intro X Z hw hK j i O s σ H E I S f hg
  subst Z hw hK
  obtain ⟨xs,ys,x,y,T,A,hx,hy⟩:=hg
  obtain ⟨G,F,⟨u0,v0,J⟩,B,C⟩:=f
  obtain ⟨Q,rv,p1,_⟩:=I.list T
  obtain ⟨a0,rw',p2,_⟩:=I.list A
  obtain ⟨u,hu,ru⟩:=rv.get hx
  obtain ⟨v,hv,a1⟩:=rw'.get hy
  refine wpAny_pyNext_zip_item D G F J B C p1.isList p2.isList (x:=u) (y:=v) (by simpa using hu) (by simpa using hv) λg g1 g2 g3 g4 g5 _ U=>?_
  refine ⟨_,rfl,wpAny_letOwnedTupleGo_zip g1 λg' z1 L=>?_⟩
  have lz:z<s.heap.objs.size:=sK G
  have R:∀ c o,c∉[z,p,r,m,n]->s.heap.get? c=some o->g'.get? c=some o:=λc o j q=>by
   have d:¬ (c=z\/c=p\/c=r\/c=m\/c=n):=by simpa using j
   exact L.extBut c o (λe=>d (.inl e)) (U c o (λe=>d (.inl e)) (λe=>d (.inr (.inr (.inl e)))) (λe=>d (.inr (.inr (.inr (.inl e))))) (λe=>d (.inr (.inr (.inr (.inr e))))) q)
  have I1:=Xo (g:=g') (tk:=s.toks) (xs:=[x,y]) (its:=[u,v]) I S R (sz (by simp)) (.cons ru (.cons a1 .nil)) (L.extBut _ _ (Nat.ne_of_gt lz) g5)
  refine ⟨.ref s.heap.objs.size,_,I1,rfl,⟨_,x,y,I.hok.fresh (AU _),rfl,rfl,λzs hz=>by rw [I.list_inj hz T];exact hx,λzs hz=>by rw [I.list_inj hz A];exact hy⟩,⟨z1,?_,⟨u,v,L.extBut _ _ D.TOz g2⟩,g3.at λo q=>L.extBut m o D.i1z q,g4.at λo q=>L.extBut n o D.i2z q⟩,λc j=>?_⟩
  ·exact L.extBut _ _ D.TIz (U _ _ D.TIz D.TITO D.TIi1 D.TIi2 F)
  ·rw [A3]
   ·exact (S c j).1
   ·have d:c=z\/c=p\/c=r\/c=m\/c=n:=by simpa using j
    obtain ⟨o4,B,_⟩:=B
    obtain ⟨o5,C,_⟩:=C
    rcases d with rfl | rfl | rfl | rfl | rfl
    ·exact CG lz
    ·exact CG (sK F)
    ·exact CG (sK J)
    ·exact CG (sK B)
    ·exact CG (sK C)
 done:=by
  intro X Z hw hK j i O s σ H E I S f hg
  subst Z hw hK
  obtain ⟨xs,ys,T,A,hx⟩:=hg
  obtain ⟨G,F,⟨u0,v0,J⟩,B,C⟩:=f
  obtain ⟨Q,rv,p1,_⟩:=I.list T
  obtain ⟨a0,_,p2,_⟩:=I.list A
  have hl:=rv.length
  refine wpAny_pyNext_zip_end (I.ok.hd j) D G F J B C p1.isList p2.isList (.inl (by simp;omega)) λg U=>⟨rfl,Xn (tk:=s.toks) I S λc o j q=>?_⟩
  have d:¬ (c=z\/c=p\/c=r\/c=m\/c=n):=by simpa using j
  exact U c o (λe=>d (.inl e)) (λe=>d (.inr (.inr (.inl e)))) (λe=>d (.inr (.inr (.inr (.inl e))))) (λe=>d (.inr (.inr (.inr (.inr e))))) q
 self:=λ_ _ _ _ _ f h=>wpAny_pyIter_zip f.1 h
section
variable {X:Cx} {elts:cZ} {k:Nat} {tpos:Pos} {a b:Expr} {ta:TA} {p pos:Pos}
def vals2 {x y:V} {c:cQ} (r:Vals [x,y] c):∃ u v,c=[u,v]/\RelV x u/\RelV y v:=r.two
def Xr (C:Gl X "zip") (E:X.mg "zip" = none) (F:PA X [a,b] ta) (G:starEach [a,b] X.env=(false,eval a X.env)::starEach [b] X.env:=by rfl) (j:(backTo pos (starEach [b] X.env)).any (·.1)=false:=by rfl):PI X (.Tuple elts k tpos) (.Call (.Name "zip" p) [a,b] [] pos) (LG X.K ta):=by
 intro e s n H R I h;refine Call_ (Ev I C E W9 (PyProof.Rows.callWith_type1 (F_ (F pos e s n H _ I h) λus d ⟨vs,o,f,J,K⟩=>?_) G j));obtain ⟨r,w,rfl,⟨xs,L⟩,⟨ys,m⟩,q⟩:=K;obtain ⟨u,v,rfl,M,N⟩:=vals2 J;cases M;cases N;obtain ⟨O,_,x,_⟩:=f.list L;obtain ⟨P,_,y,_⟩:=f.list m;refine call_zip_2 x.isList y.isList λg A Q S T U _ W=>?_;have Y:Inv X e n o { d with heap:=g }:=f.kept (t':=d.toks) W;have n1:@LT.lt Nat _ r d.heap.objs.size:=x.lt;have n2:@LT.lt Nat _ w d.heap.objs.size:=y.lt
 have D:ZipApart (d.heap.objs.size+4) (d.heap.objs.size+2) (d.heap.objs.size+3) d.heap.objs.size (d.heap.objs.size+1) r w:=by
  constructor <;> (show (_:Nat)≠_;omega)
 refine wpAny_pyIter_zip A ⟨_,[d.heap.objs.size+4,d.heap.objs.size+2,d.heap.objs.size+3,d.heap.objs.size,d.heap.objs.size+1],_,_,o,rfl,Y,Xq D,⟨A,Q,⟨_,_,S⟩,T,U⟩,λc Z=>?_,q⟩
 have i:d.heap.objs.size<=c:=by
  have z:c=d.heap.objs.size+4\/c=d.heap.objs.size+2\/c=d.heap.objs.size+3\/c=d.heap.objs.size\/c=d.heap.objs.size+1:=by simpa using Z
  rcases z with z | z | z | z | z <;> rw [z] <;> first | exact Nat.le_add_right _ _ | exact AU _
 exact f.fpOk i (f.hok.fresh i)
end
def Xs:bootBuiltins "any" = some (.builtin "any"):=by decide +kernel
theorem Jh:∀ {ns:cP} {a:cQ} {i:Nat} {u:Value},Vals (ns.map V.int) a->a[i]?=some u->∃ n t,ns[i]?=some n/\u=Value.int n t
 | [],_,_,_,.nil,e=>by simp at e
 | n::ns,_,0,_,.cons r _,e=>by
   simp at e;subst e;obtain ⟨t,rfl⟩:=r;exact ⟨n,t,rfl,rfl⟩
 | _::ns,_,i+1,u,.cons _ r,e=>by
   obtain ⟨n,t,b,c⟩:=Jh (i:=i) (u:=u) r (by simpa using e);exact ⟨n,t,by simpa using b,c⟩
section
variable {X:Cx}
def Xu (y:X.calm=true):Cb X (.builtin "any") LI:=λk s M H N O Q I r ⟨p,c,e,hp,q⟩=>by
 subst e;obtain ⟨u,rfl,B⟩:=Ey r;cases B;obtain ⟨a,m,j,P⟩:=I.list (SqL.of hp);have R:c.length=a.length:=by have:=m.length;simpa using this
 refine call_any_walk (wpAny_pyIter_list j.isList ⟨s.heap.objs.size,[s.heap.objs.size,p],[s.heap.objs.size],a.toArray.size,_,_,λi=>!decide (c.getD i 0=0),rfl,Walks.list (A:=X.A.in1) (show X.A.in1.handled=none from I.ok.hd y) s.heap.objs.size p (CG j.lt) _,⟨⟨_,Heap.get?_push_size _ rfl,rfl,rfl⟩,j.isList.push _⟩,?_,λg S C=>?_⟩)
 ·intro i v D E T F f;obtain ⟨n,t,G,rfl⟩:=Jh m (show a[i]?=some v by simpa using F);have e:c.getD i 0=n:=by rw [AT,G];rfl
  replace f:E (!decide (c.getD i 0=0)) D:=f;rw [e] at f;refine PySem.P.truthy_int ?_;have J:(n != 0)=!decide (n=0):=by rw [Bool.eq_iff_iff];simp
  rw [J];exact f
 ·have K:∀ b o,s.heap.get? b=some o->g.get? b=some o:=λb o e=>C b o (λz=>absurd (sK e) (by rw [BA.mp z];exact Dg _)) (Heap.get?_push_of_some _ e);refine ⟨_,H,I.kept K,?_,q⟩;show Value.bool _=Value.bool _;congr 1;rw [Bool.eq_iff_iff];simp only [List.any_eq_true,List.mem_range,Bf];constructor
  ·rintro ⟨i,w,h⟩;have d:i<c.length:=by omega
   rw [AT,Aw d] at h;exact ⟨c[i],Er d,h⟩
  ·rintro ⟨x,L,h⟩;obtain ⟨i,w,rfl⟩:=List.getElem_of_mem L;refine ⟨i,⋯,?_⟩;rw [AT,Aw w];exact h
end
section
variable {prog:Program} {w:World} {A:Around} {R:Result->Shared->Prop} {I:Addr} {fp wr:de} {n:Nat} {P:Nat->Value->Prop} {St:Nat->Heap->Prop} {d:Value}
theorem LJ (W:Walks prog w A.in1 I fp wr n P St) (G:Nat->Nat->Bool) (a:CmpOf prog w A.in1 .Lt P G) (S:Addr) (f:S∉fp):∀ (k j q:Nat) (s:Shared) (h:Value) (c:Nat),n - j=k->j<=n->St j s.heap->q<n->P q h->
  s.heap.get? S=some { cls:=.type "list", dict:=none,data:=.seq #[h,h] c,slots:=#[] }->
  (∀ q v H J,q<n->P q v->(∀ b o,b∉wr->b≠S->s.heap.get? b=some o->H.get? b=some o)->R (.ok (.ret v)) { s with heap:=H,toks:=J })->
  codeAny (model prog w) A (.builtin "min.loop" ⟨[.ref I,.none,.ref S],[("default", d)]⟩) R s
 | 0,j,q,s,h,c,hk,Z,r,N,i,D,K=>by
   have L:j=n:=by omega
   refine codeAny_builtin F.entry_min_loop ?_;rw [Around.under_plainId F.plain_min_loop _];refine sF (m:=seqItems? (.ref S)) (wpAny_seqItems D rfl ?_);refine sF (m:=tryCatch (pyNext (.ref I)) _) (wpAny_tryCatch (W.done s _ _ (L ▸ r) λH J kp=>?_));have g:=kp S _ (λz=>f (W.sub _ z)) D;refine sF (m:=updateSeq S (λ_=>#[])) (wpAny_updateSeq g rfl (sF (wpAny_letGo (sG ?_))));exact K q h _ J N i λb o u E e=>(Heap.get?_update_other _ _ E.symm).trans (kp b o u e)
 | k+1,j,q,s,h,c,hk,Z,r,N,i,D,K=>by
   have L:j<n:=by omega
   refine codeAny_builtin F.entry_min_loop ?_;rw [Around.under_plainId F.plain_min_loop _];refine sF (m:=seqItems? (.ref S)) (wpAny_seqItems D rfl ?_);refine sF (m:=tryCatch (pyNext (.ref I)) _) (wpAny_tryCatch (W.item j s _ _ L r λv H J X p kp=>?_));have g:=kp S _ (λz=>f (W.sub _ z)) D;refine sF (m:=tryCatch (holding [v,v] (richCompare .Lt v h >>= _)) _) (wpAny_tryCatch (wpAny_holding (sF (a j q v h _ _ _ X i ?_))));refine sF (wpAny_holding (wpAny_truthy_bool (sF (wpAny_letGo (sG ?_)))));have Y:(toString "min" ++ toString ".loop" : String) = "min.loop" := by decide
   cases G j q with
   | true=>
     simp only [if_true];refine sF (wpAny_updateSeq g rfl (sF (wpAny_letGo ?_)));rw [Y];refine sG ⟨plainId_quiet F.plain_min_loop _,LJ W G a S f k (j+1) j _ v _ ⋯ ⋯ (W.frame _ _ _ p λb hb o e=>(Heap.get?_update_other _ _ (λz:S=b=>f (by rw [z];exact hb))).trans e) L X (Heap.get?_update_self _ g rfl) λO Q E x y B C=>?_⟩;exact K O Q E x y B λb o u M e=>C b o u M ((Heap.get?_update_other _ _ M.symm).trans (kp b o u e))
   | false=>
     simp only [Bool.false_eq_true,if_false];refine sF (wpAny_letGo ?_);rw [Y];exact sG ⟨plainId_quiet F.plain_min_loop _,LJ W G a S f k (j+1) q _ h c ⋯ ⋯ p N i g λO Q E x y B C=>K O Q E x y B λb o u M e=>C b o u M (kp b o u e)⟩
def Xv (W:Walks prog w A.in1 I fp wr n P St) (B:Nat->Nat->Bool) (f:CmpOf prog w A.in1 .Lt P B) (S:Addr) (a:S∉fp) {s:Shared} {c:Nat} (g:St 0 s.heap)
  (C:s.heap.get? S=some { cls:=.type "list", dict:=none,data:=.seq #[] c,slots:=#[] })
  (D:∀ v h k,(n=0/\v=d\/∃ q,q<n/\P q v)->(∀ b o,b∉wr->b≠S->s.heap.get? b=some o->h.get? b=some o)->R (.ok (.ret v)) { s with heap:=h,toks:=k }) :
  codeAny (model prog w) A (.builtin "min.loop" ⟨[.ref I,.none,.ref S],[("default", d)]⟩) R s:=by
 refine codeAny_builtin F.entry_min_loop ?_;rw [Around.under_plainId F.plain_min_loop _];refine sF (m:=seqItems? (.ref S)) (wpAny_seqItems C rfl ?_);rcases Ds n with z | z
 ·refine sF (m:=tryCatch (pyNext (.ref I)) _) (wpAny_tryCatch (W.done s _ _ (z ▸ g) λh k kp=>?_));refine sF (wpAny_rule (sG ?_));exact D d h k (.inl ⟨z,rfl⟩) λb o p _ e=>kp b o p e
 ·refine sF (m:=tryCatch (pyNext (.ref I)) _) (wpAny_tryCatch (W.item 0 s _ _ z g λv h k J i kp=>?_));have j:=kp S _ (λz=>a (W.sub _ z)) C;have K:(toString "min" ++ toString ".loop" : String) = "min.loop" := by decide
  refine sF (m:=updateSeq S (λ_=>#[v,v])) (wpAny_updateSeq j rfl ?_);rw [K];refine sG ⟨plainId_quiet F.plain_min_loop _,LJ W B f S a _ 1 0 _ v _ rfl z (W.frame _ _ _ i λb L o e=>(Heap.get?_update_other _ _ (λz:S=b=>a (by rw [z];exact L))).trans e) z J (Heap.get?_update_self _ j rfl) λM N O r u x y=>?_⟩;exact D N O r (.inr ⟨M,u,x⟩) λb o p H e=>y b o p H ((Heap.get?_update_other _ _ H.symm).trans (kp b o p e))
end
def Xw (a v:Value):argsOk "min" ⟨[a],[("default", v)]⟩:=by unfold argsOk;kernel_rfl
section
variable {X:Cx} {e:Expr} {te:TE} {p pos kp1 kp2:Pos} {kk:Nat}
def Xx (S:X.calm=true) (T:X.mg "min" = none) (U:bootBuiltins "min" = some (.builtin "min")) (Y:PE X e te) (Z:Gl X "min" := by rfl)
  (hs:starEach [e] X.env=(false,eval e X.env)::starEach [] X.env:=by rfl) (k:backTo pos (starEach [e] X.env)=(false,eval e X.env)::backTo pos (starEach [] X.env):=by rfl):PE X (.Call (.Name "min" p) [e] [⟨some "default", .Constant (.int 0) kk kp1,kp2⟩] pos) (LH te):=by
 intro f s L H Q I h;refine wpAny_Call_Name_kw (Ev I Z T U ?_ ∅ ∅);refine PyProof.Rows.callWith_kw ?_ k (by rw [k];rfl);rw [k];refine Calls.spliced_cons (F_ (Y f s L H _ I h) λu s1 ⟨x,M,I1,r1,q1⟩=>Calls.spliced_nil ?_);have kw:PK X [⟨some "default", .Constant (.int 0) kk kp1,kp2⟩] (AB (tC (.int 0)) AC):=U7 AE U6;refine F_ (kw pos f s1 L M (λvs N=>vs=[.int 0]/\N=M) I1 ⟨rfl,rfl⟩) λws c ⟨zs,N,r,rz,ez,eh⟩=>?_;subst ez eh;obtain ⟨z,rfl,t,rfl⟩:=Ey rz;obtain ⟨l,O,rfl,hl,q⟩:=q1;cases r1;obtain ⟨d,y,B,hz⟩:=r.list (SqL.of hl);have a0:O.length=d.length:=by have:=y.length;simpa using this
 have nm:(toString "min" ++ toString ".loop" : String) = "min.loop" := by decide
 refine kmb_tree F.kind_min F.plain_min F.entry_min (Xw _ _) ?_;refine sF (m:=Builtin.Builtins.bindParams "min" ["key", "default"] 0 ⟨[],[("default", Value.int 0 t)]⟩) (wpAny_of_eq (a:=[none,some (Value.int 0 t)]) rfl ?_);refine sF (sG (sF (wpAny_pyIter_list B.isList ?_)));refine sF (wpAny_newObj_type ?_);rw [nm];have C:l<c.heap.objs.size:=B.lt;have P:(c.heap.push { cls:=.type "list_iterator", data:=.fields #[.ref l,.int 0 0] }).objs.size=c.heap.objs.size+1:=Heap.size_push ..;have W:=Walks.list (prog:=X.prog) (w:=X.w) (A:=X.A.in1) (show X.A.in1.handled=none from r.ok.hd S) c.heap.objs.size l (CG C) d.toArray;refine sG ⟨plainId_quiet F.plain_min_loop _,Xv W _ (CmpOf.ints_lt (λi=>O.getD i 0) λi v D=>?_) _ ?_ ⟨⟨_,Heap.get?_push_of_some _ (Heap.get?_push_size _ rfl),rfl,rfl⟩,(B.isList.push _).push _⟩ (Heap.get?_push_size _ rfl) λv g tk E gk=>?_⟩
 ·obtain ⟨n,G,J,rfl⟩:=Jh y (show d[i]?=some v by simpa using D);exact ⟨G,by rw [AT,J];rfl⟩
 ·rw [P]
  have:¬ (c.heap.objs.size+1=c.heap.objs.size\/c.heap.objs.size+1=l):=λz=>by
   rcases z with z | z
   ·exact absurd z (Nat.succ_ne_self _)
   ·rw [<-z] at C;exact absurd C (Nat.not_lt.mpr (Nat.le_succ _))
  simpa using this
 ·have K:∀ b o,c.heap.get? b=some o->g.get? b=some o:=λb o e=>by
   have j:b<c.heap.objs.size:=sK e;refine gk b o (λz=>?_) (λz=>?_) (Heap.get?_push_of_some _ (Heap.get?_push_of_some _ e))
   ·rw [BA.mp z] at j;exact absurd j (Dg _)
   ·rw [z,P] at j;exact absurd j (Nat.not_lt.mpr (Nat.le_succ _))
  have R:=r.kept (t':=tk) K;rcases E with ⟨z,rfl⟩ | ⟨i,hi,D⟩
  ·exact ⟨.int 0,_,R,⟨t,rfl⟩,q 0 (.inl ⟨CL.mp (by rw [Bf] at z;omega),rfl⟩)⟩
  ·obtain ⟨n,G,J,rfl⟩:=Jh y (show d[i]?=some v by simpa using D);exact ⟨.int n,_,R,⟨G,rfl⟩,q n (.inr (BV J))⟩
end
end Bs
namespace Bs
open PySem L2
def sS (K:W.Frag):V->Option Int->Option Int->Hp->VK->Prop:=λx lo c H Q=>∃ a b,x=.ref a/\SqL K H a b/\∀ p,H p=none->Q (.ref p) (upd H p (.lst (BU b lo c)))
end Bs
namespace Bs
open PySem PySem.Spec PyProof.Rows L2
section
variable {X:Cx}
def Xy:OpR X (inplaceOp .FloorDiv) EJ:=by
 intro a s g H x y v u Q I b c ⟨i,j,d,e,f,q⟩;subst d e;obtain ⟨t,rfl⟩:=b;obtain ⟨h,rfl⟩:=c;exact ifloordiv_int f ⟨.int (i.fdiv j),H,I.tok _,⟨_,rfl⟩,q⟩ (Or.inr (I.ok.plr s I.bk))
def Xz:OpR X (inplaceOp .FloorDiv) Bt:=by
 intro a s c H x y v u Q I d e ⟨i,j,f,g,h,q⟩;have b:0<j:=h;replace q:Q (.int (i / j)) H:=q;rw [<-ES i (Dt b)] at q;exact Xy a s c H x y v u Q I d e ⟨i,j,f,g,AW b,q⟩
def X3:cb X (sS X.K):=Nr
end
end Bs
namespace Bs
open PySem L2
def X4 (n:Nat) (t:aM):TG:=λv c H Q=>∃ a b,v=.ref a/\H a=some (.lst b)/\b.length=n/\t b c H Q
end Bs
namespace Bs
open PySem PySem.Spec PyProof.Rows L2
def X5 {m n:Nat} {a b:Int} (c:Bd m a) (d:Bd n b) (h:m+n<=134217728):IntMulOk a b:=IntMulOk.of_le (N9 c) (N9 d) h
end Bs
namespace Bs
open PySem L2
def X6 (i j k:Nat) (b:TA):TS:=λD a H=>b a H λc d=>∃ u v w,c=[u,v,w]/\D.nx (((a.set i (some u)).set j (some v)).set k (some w)) d
def inD (neg:Bool):R2:=λx y H Q=>∃ (p:Addr) (c:cN) (d:W.Dat) (a:List W.Dat) (b:Bool),y=.ref p/\H p=some (.lst c)/\RepD H x d/\RepA H c a/\W.kqdOk 8 d=true/\(∀ e∈a,W.kqdOk 8 e=true)/\(b=true↔d∈a)/\Q (.bl (if neg=true then !b else b)) H
end Bs
namespace Bs
open PySem PySem.Spec PyProof.Rows L2
def OK {d:W.Dat} {a:List W.Dat} {b:Bool} (c:W.kqdOk 8 d=true) (f:∀ e∈a,W.kqdOk 8 e=true) (g:b=true↔d∈a):((W.kqdPs a).any λy=>PyData.eqv y (W.kqdP d))=b:=by
 rw [Bool.eq_iff_iff,g];exact W.kqd_any a d f c
def X7 {X:Cx} (G:X.A.units+64<cLine):OpR X (compareOp .NotIn) (inD true):=by
 intro a s J H x y v u Q I g i h;obtain ⟨p,K,d,j,b,e,hp,k,m,c,f,r,q⟩:=h;subst e;obtain ⟨as,w⟩:=Gc I k g;cases i;obtain ⟨z,A,B,_⟩:=I.list (SqL.of hp);obtain ⟨L,C⟩:=IQ I m A;obtain ⟨o,n,D,E,_,F⟩:=B;have l:=W.kqd_layL f;have ld:=W.kqd_lay 8 d c;have M:=ld.2;refine SeqAt.notIn_list_reads (reads_list_at D E F (by simpa using C)) w l.1 ld.1 ?_ (by rw [OK c f r];exact ⟨.bl (!b),H,I,rfl,q⟩);have:=Nat.min_le_right (PyData.depthAll (W.kqdPs j)) (W.kqdP d).depth;omega
section
variable {X:Cx} {pins:cV} {σ:L2.St} {H:Hp} {s:Shared} {N:c_} {capt:List (Option Nat)} {scope:Scope} {cl:List (Str×Addr)} {C:Addr} {fp:de}
def LK:TT:=λ_ H Q=>Q true H
def ci (X:Cx) (cs:cZ) (tc:TT):Prop:=∀ (pins:cV) (s:Shared) (σ:L2.St) (H:Hp) (Q:Bool->Hp->Prop),Inv X pins σ H s->tc σ H Q->
 wpAny (model X.prog X.w) X.A (forIn cs true λc r=>if r=true then do let ok <-isTrue c X.env (eval c X.env);pure (ForInStep.yield ok) else pure (ForInStep.yield r)) (λb d=>∃ a,Inv X pins σ a d/\Q b a) X.xe s
def OM {X:Cx}:ci X [] LK:=λ_ s _ H _ I h=>wpAny_tests_nil ⟨H,I,h⟩
def X8 {X:Cx} {c:Expr} {tc:TT} (h:L2.PT X c tc):ci X [c] tc:=λpins s σ H Q I q=>wpAny_tests_one (h pins s σ H Q I q)
theorem X9 {prog:Program} {w:World} {A:Around} {R:Result->Shared->Prop} {s:Shared} {y a i:Expr} {cs:cZ} {scope:Scope} {E:Pos} {M z:Value} {b:Env} (I:Nat->Shared->Prop)
  (F:∀ n s,I n s->wpAny (model prog w) A (pyNext M) (λr d=>match r with
   | none=>R (.ok .next) d
   | some v=>wpAny (model prog w) A (letOwnedTupleGo a M v) (λ_ j=>wpAny (model prog w) A (assign a b v) (λ_ k=>wpAny (model prog w) A (forIn cs true λc r=>if r=true then do let ok <-isTrue c b (eval c b);pure (ForInStep.yield ok) else pure (ForInStep.yield r)) (λB g=>if B=true then wpAny (model prog w) A (eval y b) (λx o=>
     wpAny (model prog w) A (call (.builtin "list.append") [z,x]) (λ_ p=>∃ m,m<n/\I m p) (λ_ _=>False) o) (λ_ _=>False) g else ∃ m,m<n/\I m g) (λ_ _=>False) k) (λ_ _=>False) j) (λ_ _=>False) d) (λ_ _=>False) s)
  (n:Nat) (h:I n s):codeAny (model prog w) A (.compLoop (.ListComp y [⟨a,i,cs,0⟩] scope E) 0 M z b) R s:=by
 refine codeAny_loop rfl I (λn s P=>?_) n h;show wpAny _ A ((compTurn (.ListComp y [⟨a,i,cs,0⟩] scope E) 0 M z b).onRaise (λx=>do noteFrame x b;theTreesLotGoes x)) _ _ s;refine wpAny_noted ?_;rw [compTurn_list];have D:∀ {Q:cS} (e:Value) (O:Shared),(λ(_:Value) (_:Shared)=>False) e O->Q e O:=λ_ _ f=>f.elim;refine sF (wpAny_standAt (sF (sI (F n s P) (λr d q=>?_) D)));cases r with
 | none=>exact sG q
 | some v=>
   refine sF (sI q (λ_ j G=>?_) D);refine sF (sI G (λ_ g J=>sF (sI J (λB k u=>?_) D)) D);cases B with
   | false=>exact sG ⟨rfl,u⟩
   | true=>exact sF (sF (sI u (λx o K=>sF (sI K (λ_ p L=>sG (sG ⟨rfl,L⟩)) D)) D))
def LL {a4 A tg:Expr} {cs:cZ} {tc:TT} {a9:Pos} {wi:TI} {g:TG} {te:TE} {pins:cV} {s:Shared} {σ:L2.St} {H:Hp} {Q:VK} (RR:Value->Addr->Result->Shared->Prop) (hc:X.calm=true) (B:BlkOk X N capt scope cl) (hi:PI X tg A wi)
  (hg:∀ C s H fp,PG (P' X N scope cl C s H fp) tg g) (ht:∀ C s H fp,ci (P' X N scope cl C s H fp) cs tc) (he:∀ C s H fp,PE (P' X N scope cl C s H fp) a4 te) (I:Inv X pins σ H s) (h:HN wi capt g tc te σ H Q)
  (bb:∀ (D C:Addr) (Z:Shared) (Hq:Hp) (m:cW),Inv X pins σ Hq Z->Q (.ref D) Hq->Z.heap.Ns C m->Hq C=none->C≠X.env.locals->X.s₀.heap.objs.size<=C->(∀ x c,X.env.cells.lookup x=some c->c≠C)->(∀ p∈X.pn++pins,p.1≠C)->RR (.ref D) C (.ok .next) Z) :
  wpAny (model X.prog X.w) X.A (eval A X.env) (λx ab=>wpAny (model X.prog X.w) X.A (pyIter x) (λit ac=>wpAny (model X.prog X.w) X.A (newList []) (λah aj=>
   wpAny (model X.prog X.w) X.A (newFunctionEnv scope X.env.globals cl [] X.env.qual none .none (some X.env)) (λa0 al=>
    codeAny (model X.prog X.w) X.A (.compStart (.ListComp a4 [⟨tg,A,cs,0⟩] scope a9) 0 it ah { a0 with scope:=relabel scope X.env }) (RR ah a0.locals) al) X.xe aj) X.xe ac) X.xe ab) X.xe s:=by
 refine F_ (hi pins s σ H _ I h) λv s1 h1=>F_ h1 λbp d h2=>?_;obtain ⟨it,fp,tn,J,M,e,E,T,a5,S,n0,W,w0,am⟩:=h2;subst e;have fl:∀ b∈fp,b<d.heap.objs.size:=λb a=>by obtain ⟨o,e,_⟩:=T.obj _ _ a5 b a;exact sK e
 refine wpAny_newObj_type (wpAny_newFunctionEnv B.nocell (by intro y hy;simp at hy) (λF w j=>?_) B.kind);dsimp only at w j ⊢;generalize hG:d.heap.push { cls:=.type "list", dict:=none,data:=.seq ([]:cQ).toArray }=G at w j ⊢;have hC:G.objs.size=d.heap.objs.size+1:=by rw [<-hG,Heap.size_push]
 have K:d.heap.objs.size<=G.objs.size:=by rw [hC];exact Nat.le_succ _
 have U:d.heap.objs.size≠G.objs.size:=by rw [hC];exact CG (EF _)
 have a6:∀ b o,d.heap.get? b=some o->F.get? b=some o:=λb o e=>j.extBut b o (by rw [hC];exact CG (Nat.lt_succ_of_lt (sK e))) (Heap.get?_push_of_some _ (hG ▸ Heap.get?_push_of_some _ e));have an:F.get? d.heap.objs.size=some { cls:=.type "list", data:=.seq ([]:cQ).toArray }:=j.extBut _ _ U (Heap.get?_push_of_some _ (hG ▸ Heap.get?_push_size _ rfl));have a7:=OA B E S fl K
 have bc:d.heap.objs.size∉aw X.stack:=λa=>by
  rcases Bx.mp (E.stkSub _ a) with z | z
  ·exact absurd E.lt (by rw [<-z];exact Dg _)
  ·exact E.nofs (AU _) z
 have bd:∀ x c,cl.lookup x=some c->c≠d.heap.objs.size:=λx c e z=>by
  obtain ⟨v,q⟩:=E.cell x c (B.cells x c e);exact absurd q.lt (by rw [z];exact Dg _)
 have ao:∀ b∈fp,d.heap.objs.size≠b:=λb a z=>absurd (fl b a) (by rw [<-z];exact Dg _);have ar:Inv (P' X N scope cl G.objs.size d M fp) [] (C8 capt σ) M { d with heap:=F,toks:=d.toks+([]:List (Str×Value)).length }:=Xa B E S fl K w a6
 have a3:codeAny (model X.prog X.w) X.A (.compLoop (.ListComp a4 [⟨tg,A,cs,0⟩] scope a9) 0 (.ref it) (.ref d.heap.objs.size) (compEnvC scope cl G.objs.size X.env))
   (RR (.ref d.heap.objs.size) G.objs.size) { d with heap:=F,toks:=d.toks+([]:List (Str×Value)).length }:=by
  refine X9 (λn s'=>∃ (i:Nat) (Y:cN) (f:cQ) (k:Nat) (O:Hp),Inv (P' X N scope cl G.objs.size d M fp) [] (C8 capt σ) O s'/\s'.heap.get? d.heap.objs.size=some { cls:=.type "list", data:=.seq f.toArray k }/\Vals Y f/\
   O d.heap.objs.size=none/\tn i s'.heap/\(∀ b∈fp,O b=none)/\W i Y O/\n=n0 - i) ?_ n0 ⟨0,[],[],0,M,ar,an,.nil,E.hok.fresh (AU _),T.keep _ _ _ a5 (λb _ o e=>a6 b o e),λb a=>(S b a).1,w0,rfl⟩
  rintro n s3 ⟨i,Y,f,k,O,I3,hD,hv,nD,b0,b1,w3,en⟩;obtain ⟨_,hl,b2⟩:=am i Y O w3;have hz:f.toArray.size<=sizeLine:=by rw [Bf,<-hv.length];exact hl
  have b3:Inv (P' X N scope cl G.objs.size d M fp) [(d.heap.objs.size,{ cls:=.type "list", data:=.seq f.toArray k })] (C8 capt σ) O s3:=I3.pins_of λp hp=>by
   rw [BA] at hp;subst hp;exact ⟨hD,nD,U,bc,λv z=>nomatch z⟩
  have a8:∀ {Hx:Hp} (_:∀ b∈fp,Hx b=none),∀ b∈fp,DU (P' X N scope cl G.objs.size d M fp) [(d.heap.objs.size,{ cls:=.type "list", data:=.seq f.toArray k })] Hx b:=λhx b a=>
   ⟨hx b a,(a7.exf b a).1,a7.exfs b a,.inl a,(a7.exf b a).2,λp hp=>by
    have b4:p∈[((d.heap.objs.size,{ cls:=.type "list", data:=.seq f.toArray k }):Addr×Obj)]:=hp;rw [BA] at b4;subst b4;exact ao b a⟩
  rcases b2 with ⟨b5,q⟩ | ⟨br,go,bf⟩
  ·refine F_ (T.done (P' X N scope cl G.objs.size d M fp) rfl rfl rfl hc i _ s3 _ O _ b3 (a8 b1) b0 b5) λr Z ⟨hr,I4⟩=>?_;subst hr;have bg:=(I4.pin (d.heap.objs.size,{ cls:=.type "list", data:=.seq f.toArray k }) (Cz _ (BA.mpr rfl))).1;obtain ⟨m,hn,_⟩:=I4.loc;have P:∀ b u,O b=some u->b≠d.heap.objs.size:=λb u e z=>by rw [z,nD] at e;cases e
   have b6:∀ b o,d.heap.get? b=some o->b≠d.heap.objs.size:=λb o e=>CG (sK e);have ub:Un (aw X.stack) fp M O d.heap Z.heap:=I4.base;have cC:∀ b,b<d.heap.objs.size->b≠G.objs.size:=λb a z=>absurd (CZ a K) (by rw [z];exact Dg _)
   refine bb _ G.objs.size Z (upd O d.heap.objs.size (.lst Y)) m ?_ (q _ nD) hn (by rw [A3 (λz=>U z.symm)];exact I4.free) (λz=>cC _ E.lt z.symm) (A7 E.sz K)
    (λx c e=>by obtain ⟨v,q⟩:=E.cell x c e;exact cC _ q.lt) λp hp=>cC _ (sK (E.pin p hp).1)
   refine E.call' (ch:=fp) (s':=Z) I4.os ?_ ?_ I4.bare λb a=>⟨(S b a).2.2.2.1,(S b a).2.1,(S b a).2.2.2.2.1,(S b a).2.2.2.2.2⟩
   ·refine ⟨ub.keep,ub.slot,λb o e n hx=>?_,ub.there,λb xs e=>?_,λb o u e=>?_,λb ps e=>?_⟩
    ·rw [A3 (b6 b o e)];exact ub.free b o e n hx
    ·have z:=ub.tups b xs e;rw [A3 (P b _ z)];exact z
    ·have z:=ub.frzs b o u e;rw [A3 (P b _ z)];exact z
    ·obtain ⟨b7,z⟩:=ub.tbls b ps e;exact ⟨b7,by rw [A3 (P b _ z)];exact z⟩
   ·intro b u e;by_cases a:b=d.heap.objs.size
    ·subst a;rw [upd_same] at e;cases e;exact ⟨hl,f,k,hv,bg⟩
    ·rw [A3 a] at e;exact (I4.hok b u e).stay (λc v _ q=>q) (λc q=>by rw [A3 (P c _ q)];exact q) λc xs q=>by rw [A3 (P c _ q)];exact q
  ·refine F_ (T.item (P' X N scope cl G.objs.size d M fp) rfl rfl rfl hc i _ s3 _ O _ b3 (a8 b1) b0 go) λr Z ⟨u,hr,h4⟩=>?_;subst hr;refine F_ h4 λ_ s5 ⟨x,H5,I5,r5,y5,R,bi⟩=>?_;have bj:=I5.pinned (a8 bi) (T.obj _ _ R);refine F_ (hg _ _ _ _ _ s5 _ H5 x u _ bj r5 (bf x H5 y5)) λ_ s6 ⟨L,H6,I6,q6⟩=>?_;refine F_ (ht _ _ _ _ _ s6 L H6 _ I6 q6) λbk s9 ⟨H9,I9,q9⟩=>?_
   have b8:∀ b∈fp,∀ o,s5.heap.get? b=some o->s9.heap.get? b=some o/\H9 b=none:=λb a o e=>by
    have z:=I9.pin (b,o) (Cz _ (Cz _ (JS a e)));exact ⟨z.1,z.2.1⟩
   cases bk with
   | false=>
     have w9:W (i+1) Y H9:=q9;have b9:=I9.pin (d.heap.objs.size,{ cls:=.type "list", data:=.seq f.toArray k }) (Cz _ (GD _ (BA.mpr rfl)));have bl:Inv (P' X N scope cl G.objs.size d M fp) [] L H9 s9:=I9.pins_of λp hp=>nomatch hp
     exact ⟨n0 - (i+1),⋯,i+1,Y,f,k,H9,OB B E S bl,b9.1,hv,b9.2.1,T.keep _ _ _ R (λb a o e=>(b8 b a o e).1),(λb a=>by
      obtain ⟨o,e,_⟩:=T.obj _ _ R b a;exact (b8 b a o e).2),w9,rfl⟩
   | true=>
   replace q9:te L H9 λy H4=>W (i+1) (Y++[y]) H4:=q9;refine F_ (he _ _ _ _ _ s9 L H9 _ I9 q9) λuy s7 ⟨y,H7,I7,r7,w7⟩=>?_;have pD:=I7.pin (d.heap.objs.size,{ cls:=.type "list", data:=.seq f.toArray k }) (Cz _ (GD _ (BA.mpr rfl)))
   have pF:∀ b∈fp,∀ o,s5.heap.get? b=some o->s7.heap.get? b=some o/\H7 b=none:=λb a o e=>by
    have z:=I7.pin (b,o) (Cz _ (Cz _ (JS a e)));exact ⟨z.1,z.2.1⟩
   refine append_at (hsz:=hz) pD.1 λh8 ba bm=>?_;have bn:Inv (P' X N scope cl G.objs.size d M fp) [] L H7 s7:=I7.pins_of λp hp=>nomatch hp;have I8:Inv (P' X N scope cl G.objs.size d M fp) [] L H7 { s7 with heap:=h8,toks:=s7.toks }:=bn.turned (λb o a e=>ba.extBut b o a e) pD.2.1 U (.inr (AU _)) bd (λp hp=>nomatch hp);refine ⟨n0 - (i+1),⋯,i+1,Y++[y],f++[uy],k+1,H7,OB B E S I8,?_,Paired.snoc hv r7,pD.2.1,T.keep _ _ _ R (λb a o e=>ba.extBut b o (ao b a).symm (pF b a o e).1),λb a=>?_,w7,rfl⟩
   ·show h8.get? _=_;rw [bm,List.push_toArray]
   ·obtain ⟨o,e,_⟩:=T.obj _ _ R b a;exact (pF b a o e).2
 exact codeAny_compStart_list a3 (T.self X.A 0 _ _ _ (T.keep _ _ _ a5 (λb _ o e=>a6 b o e)) a3)
def DY {c a d:Expr} {f:Pos} {i:TI} {g:TG} {j:TE} (n:X.calm=true) (B:BlkOk X N capt scope cl) (p:PI X d a i)
  (r:∀ C s H fp,PG (P' X N scope cl C s H fp) d g) (u:∀ C s H fp,PE (P' X N scope cl C s H fp) c j)
  (v:∀ x,foldedSetIterable a X.env x=pure x:=by intro _;rfl):PE X (.ListComp c [⟨d,a,[],0⟩] scope f) (B3 i capt g j):=by
 intro pins s σ H Q I h;rw [eval_ListComp];refine wpAny_comprehension_free (use:=none) rfl v B.clos B.kind B.names (LL (cs:=[]) (tc:=LK) (λk C=>compPost (model X.prog X.w) X.A X.xe none (EP X pins σ Q) k C) n B p r (λ_ _ _ _=>OM) u I (show HN i capt g LK j σ H _ from h) λD C M w m y q z A E F G J=>?_);exact ⟨m,z,λO K=>⟨.ref D,w,y.turned (λb o L e=>K.extBut b o L e) A E (.inr F) G J,rfl,q⟩⟩
def YA {i:Nat} {x:Str} {c j:Pos} {f d n:Expr} {cs:cZ} {tc:TT} {k:Pos} {E:TI} {g:TG} {F:TE} (K:X.N.Nodup) (r:X.N[i]?=some x) (L:aR X.env.scope x) (M:X.calm=true) (B:BlkOk X N capt scope cl) (O:PI X n d E)
  (P:∀ C s H fp,PG (P' X N scope cl C s H fp) n g) (R:∀ C s H fp,ci (P' X N scope cl C s H fp) cs tc) (S:∀ C s H fp,PE (P' X N scope cl C s H fp) f F)
  (u:swapsWith (.ListComp f [⟨n,d,cs,0⟩] scope k) (some (.Name x c)) j.line X.env=pure true)
  (T:∀ x,foldedSetIterable d X.env x=pure x) (U:X.fn x=true\/X.env.scope.names.lookup x=some .local) :
  PS X (.Assign [.Name x c] (.ListComp f [⟨n,d,cs,0⟩] scope k) j) (AQ (HN E capt g tc F) (AH i)):=by
 intro pins s σ H D I h;rw [exec_Assign_Name_used _ _ _ _ u];refine sF (wpAny_standAt (sF ?_));show wpAny _ X.A (do let _ <-comprehension (.ListComp f [⟨n,d,cs,0⟩] scope k) scope X.env _ (newList []) false (eval d X.env) (some (assign (.Name x c) X.env))) _ _ s
 refine sF (sI (wpAny_comprehension_free (use:=some (assign (.Name x c) X.env)) (Q:=λ_ p=>SP X pins D .next p) rfl T B.clos B.kind B.names
  (LL (λw C=>compPost (model X.prog X.w) X.A X.xe (some (assign (.Name x c) X.env)) (λ_ p=>SP X pins D .next p) w C) M B O P R S I h λDa C s4 Hq m W q Y y G Z J h4=>?_)) (λ_ p hq=>sG (sG hq)) λ_ _ e=>e)
 show wpAny _ X.A (assign (.Name x c) X.env (.ref Da)) _ _ _;refine wpAny_assign_Name (NR W K r L (v:=.ref Da) rfl (λs5 I5 ⟨a,A,ha⟩=>⟨m,Y.sameBut A ?_,λh' sb=>⟨_,_,I5.turned (λb o hb e=>sb.extBut b o hb e) y G (.inr Z) J h4,q⟩⟩) U);rcases ha with z | z
 ·rw [z];exact G
 ·exact λe=>J x a z e.symm
def LM {i:Nat} {x:Str} {b c:Pos} {d a f:Expr} {e:Pos} {k:TI} {g:TG} {m:TE} (n:X.N.Nodup) (h:X.N[i]?=some x) (o:aR X.env.scope x) (p:X.calm=true) (B:BlkOk X N capt scope cl) (q:PI X f a k)
  (r:∀ C s H fp,PG (P' X N scope cl C s H fp) f g) (u:∀ C s H fp,PE (P' X N scope cl C s H fp) d m)
  (j:swapsWith (.ListComp d [⟨f,a,[],0⟩] scope e) (some (.Name x b)) c.line X.env=pure true:=by rfl)
  (v:∀ x,foldedSetIterable a X.env x=pure x:=by intro _;rfl) (w:X.fn x=true\/X.env.scope.names.lookup x=some .local:=by first | exact .inl rfl | exact .inr rfl | assumption) :
  PS X (.Assign [.Name x b] (.ListComp d [⟨f,a,[],0⟩] scope e) c) (AQ (B3 k capt g m) (AH i)):=
 YA n h o p B q r (λC s H fp=>OM) u j v w
def YB {d a f c:Expr} {tc:TT} {i:Pos} {k:TI} {g:TG} {n:TE} (p:X.calm=true) (B:BlkOk X N capt scope cl) (r:PI X f a k)
  (u:∀ C s H fp,PG (P' X N scope cl C s H fp) f g) (v:∀ C s H fp,L2.PT (P' X N scope cl C s H fp) c tc) (w:∀ C s H fp,PE (P' X N scope cl C s H fp) d n)
  (y:∀ x,foldedSetIterable a X.env x=pure x:=by intro _;rfl):PE X (.ListComp d [⟨f,a,[c],0⟩] scope i) (HN k capt g tc n):=by
 intro pins s σ H Q I h;rw [eval_ListComp];refine wpAny_comprehension_free (use:=none) rfl y B.clos B.kind B.names (LL (λj C=>compPost (model X.prog X.w) X.A X.xe none (EP X pins σ Q) j C) p B r u (λC s H fp=>X8 (v C s H fp)) w I h λD C P z m A q E F G J K L=>?_);exact ⟨m,E,λR M=>⟨.ref D,z,A.turned (λb o O e=>M.extBut b o O e) F G (.inr J) K L,rfl,q⟩⟩
end
section
variable {X:Cx}
def xI {r:R2} {a:Expr} {c:TE} {n:Int} {j} {q b:Pos} (d:bq X r) (e:PE X a c):PE X (.Subscript a (.Constant (.int n) j q) b) (A_ r c (tC (.int n))):=BT d e AE (λ_ _=>rfl)
def C' {i:Nat} {x:Str} {e:Expr} {c:TE} {a b:Pos} (d:X.N.Nodup) (f:PE X e c) (g:X.N[i]?=some x:=by rfl) (h:aR X.env.scope x:=by exact .inl rfl) (j:swapsWith e (some (.Name x a)) b.line X.env=pure false:=by rfl) (k:X.fn x=true\/X.env.scope.names.lookup x=some .local:=by first | exact .inl rfl | exact .inr rfl):PS X (.Assign [.Name x a] e b) (AQ c (AH i)):=Ex d g h f j k
def cR {c:CmpOp} {r:R2} {a b:Expr} {e f:TE} {d:Pos} (g:OpR X (compareOp c) r) (h:PE X a e) (i:PE X b f) (j:behindInMarks c b=false:=by exact ai _):L2.PT X (.Compare a [c] [b] d) (Ax (A_ r e f)):=K0 g h i j
variable {n m:Nat} {x:Str} {ps:c_} {sp:Sp} {a b c:Expr} {ta tb tc:TE} {p pos:Pos} (C:Cal X.prog X.w X.K X.mg X.base n x ps sp) (hr:Room m X.A)
include C hr
theorem Cal.q1 (e:PE X a ta) (f:n<=m:=by decide) (g:Gl X x:=by rfl) (h:(x == ("__debug__" : Str))=false:=by decide) (d:starEach [a] X.env=(false,eval a X.env)::starEach [] X.env:=by rfl):PE X (.Call (.Name x p) [a] [] pos) (AF sp [] E0 (AB ta AC)):=C.pe hr f g (AD e AN d) h d rfl
theorem Cal.q2 (e:PE X a ta) (f:PE X b tb) (g:n<=m:=by decide) (h:Gl X x:=by rfl) (i:(x == ("__debug__" : Str))=false:=by decide) (d:starEach [a,b] X.env=(false,eval a X.env)::starEach [b] X.env:=by rfl) (j:starEach [b] X.env=(false,eval b X.env)::starEach [] X.env:=by rfl) (hp:(backTo pos (starEach [b] X.env)).any (·.1)=false:=by rfl):PE X (.Call (.Name x p) [a,b] [] pos) (AF sp [] E0 (AB ta (AB tb AC))):=C.pe hr g h (AD e (AD f AN j) d) i d hp
theorem Cal.q3 (e:PE X a ta) (f:PE X b tb) (g:PE X c tc) (h:n<=m:=by decide) (i:Gl X x:=by rfl) (j:(x == ("__debug__" : Str))=false:=by decide) (d:starEach [a,b,c] X.env=(false,eval a X.env)::starEach [b,c] X.env:=by rfl) (k:starEach [b,c] X.env=(false,eval b X.env)::starEach [c] X.env:=by rfl) (o:starEach [c] X.env=(false,eval c X.env)::starEach [] X.env:=by rfl) (hp:(backTo pos (starEach [b,c] X.env)).any (·.1)=false:=by rfl):PE X (.Call (.Name x p) [a,b,c] [] pos) (AF sp [] E0 (AB ta (AB tb (AB tc AC)))):=C.pe hr h i (AD e (AD f (AD g AN o) k) d) j d hp
end
end Bs
namespace Bs
open PySem PySem.W PyProof.Rows
section
variable {k:dh} {N:Nat} {p:Array Nat}
noncomputable def kp (k:dh) (p:Array Nat) (i:Nat):Int:=k (p.getD i 0)
end
end Bs
namespace Bs
open PySem PySem.Spec PySem.Calls PyProof.Rows L2
structure ZFp (z TI TO i1 i2 l1 l2 N0:Addr):Prop where
 D:ZipApart z TI TO i1 i2 l1 l2
 zN:z<N0
 oN:TO<N0
 aN:i1<N0
 bN:i2<N0
end Bs
namespace Bs
open PySem PySem.Spec PySem.Calls PySem.W PyProof.Rows L2
open Classical in
noncomputable def zF (as:de) (ns:cP) (c:cN) (D:Addr) (b:cN):Hp:=λa=>if a=D then some (.lst b) else if h:∃ j:Nat,as[j]?=some a then some (.tup [.int (ns.getD h.choose 0),c.getD h.choose .non]) else none
end Bs
namespace Bs
open PySem PySem.Spec PyProof.Rows L2
structure Z3A (z TI TO i1 i2 i3:Addr):Prop where
 nd:[z,TI,TO,i1,i2,i3].Nodup
end Bs
namespace Bs
open PySem L2
def LN:R2:=λx y H Q=>∃ (p:Addr) (c:cN) (d:W.Dat) (a:List W.Dat) (b:Bool),y=.ref p/\H p=some (.lst c)/\(RepD H x d\/∃ s,x=.str s/\d=.str s)/\RepA H c a/\W.kqdOk 8 d=true/\(∀ e∈a,W.kqdOk 8 e=true)/\(b=true↔d∈a)/\Q (.bl b) H
end Bs
namespace Bs
open PySem PySem.Spec PyProof.Rows L2
def YC {X:Cx} (J:X.A.units+64<cLine):OpR X (compareOp .In) LN:=by
 intro a s K H x y v u Q I c i h;obtain ⟨p,L,d,j,b,e,hp,k,m,f,g,r,q⟩:=h;subst e
 obtain ⟨as,w⟩:∃ as,Reads s.heap v (W.kqdP d) as:=by
  rcases k with z | ⟨x,rfl,rfl⟩
  ·exact Gc I z c
  ·obtain ⟨t,rfl⟩:=c;rw [W.kqdP];exact ⟨_,Reads.str x t⟩
 cases i;obtain ⟨A,B,C,_⟩:=I.list (SqL.of hp);obtain ⟨M,D⟩:=IQ I m B;obtain ⟨o,n,E,F,_,G⟩:=C;have l:=W.kqd_layL g;have ld:=W.kqd_lay 8 d f;have N:=ld.2;refine SeqAt.in_list_reads (reads_list_at E F G (by simpa using D)) w l.1 ld.1 ?_ (by rw [OK f g r];exact ⟨.bl b,H,I,rfl,q⟩);have:=Nat.min_le_right (PyData.depthAll (W.kqdPs j)) (W.kqdP d).depth;omega
end Bs
namespace Bs
def Bd.one:Bd 1 1:=by unfold Bd;decide
theorem Bd.pow {b:Nat} {x:Int} (h:Bd b x) (k:Nat):Bd (b*k+1) (x ^ k):=by
 induction k with
 | zero=>rw [Int.pow_zero,Nat.mul_zero];exact Bd.one
 | succ k a=>
   have e:b*(k+1)+1=(b*k+1)+b:=by rw [Nat.mul_add,Nat.mul_one];omega
   rw [Int.pow_succ,e];exact a.mul h
noncomputable abbrev Nu:=Int×Int
abbrev cJ:=List Nu
abbrev cI:=(cJ)
noncomputable def T_ (n m:Int):Nu:=(n / ((Int.gcd n m:Nat):Int),m / ((Int.gcd n m:Nat):Int))
noncomputable def U_ (q r:Nu):Nu:=T_ (q.1*r.2+r.1*q.2) (q.2*r.2)
noncomputable def Z_ (q r:Nu):Nu:=T_ (q.1*r.2 - r.1*q.2) (q.2*r.2)
noncomputable def G_ (q r:Nu):Nu:=T_ (q.1*r.1) (q.2*r.2)
def Wo (q:Nu) (n m:Int):Prop:=q.1*m=n*q.2
def Ec {n m:Int} (b:0<m):Low (T_ n m).1 (T_ n m).2:=(IK (a:=n) b).1
def Ji {n m:Int} (c:0<m):Wo (T_ n m) n m:=by
 have h:=(K3 (a:=n) (b:=m) (s:=((Int.gcd n m:Nat):Int)) ⋯ (by rw [sB ⋯])).2.2.2.1;rw [ES _ ⋯,ES _ ⋯] at h;exact h
def LO {a b d:Int} (h:Low a b) (e:b∣a*d):b∣d:=by
 have c:Nat.Coprime b.natAbs a.natAbs:=by
  have:Nat.Coprime a.natAbs b.natAbs:=h.one;exact this.symm
 have z:=C4.mpr e;rw [By] at z;exact C4.mp (c.dvd_of_dvd_mul_left z)
def ON {a b c d:Int} (f:Low a b) (g:Low c d) (h:a*d=c*b):a=c/\b=d:=by
 have i:b∣d:=LO f ⟨c,by rw [h,Int.mul_comm]⟩;have j:d∣b:=LO g ⟨a,by rw [<-h,Int.mul_comm]⟩;have e:b=d:=Int.dvd_antisymm (Dt f.pos) (Dt g.pos) i j;subst e;exact ⟨Int.eq_of_mul_eq_mul_right (AW f.pos) h,rfl⟩
def OO {q r:Nu} {n m:Int} (c:Low q.1 q.2) (d:Low r.1 r.2) (f:m≠0) (g:Wo q n m) (h:Wo r n m):q=r:=by
 unfold Wo at g h
 have e:q.1*r.2=r.1*q.2:=by
  have z:m*(q.1*r.2)=m*(r.1*q.2):=by ext
  exact Int.eq_of_mul_eq_mul_left f z
 obtain ⟨a,b⟩:=ON c d e;exact Prod.ext a b
def YD {q:Nu} {n m:Int} (c:Low q.1 q.2) (b:0<m) (w:Wo q n m):q.1.natAbs<=n.natAbs/\q.2.natAbs<=m.natAbs:=by
 have e:q=T_ n m:=OO c (Ec b) (AW b) w (Ji b);subst e;exact ⟨(IK (a:=n) b).2.1,(IK (a:=n) b).2.2.1⟩
def YE {q r:Nu} (a:0<q.2) (b:0<r.2):Low (U_ q r).1 (U_ q r).2:=Ec (Ce a b)
def YF {q r:Nu} (a:0<q.2) (b:0<r.2):Low (Z_ q r).1 (Z_ q r).2:=Ec (Ce a b)
def OP {q r:Nu} (a:0<q.2) (b:0<r.2):Low (G_ q r).1 (G_ q r).2:=Ec (Ce a b)
def OQ {m:Int} (a:0<m):T_ 0 m=(0,1):=OO (Ec a) ⟨∅,∅⟩ (AW a) (Ji a) (by unfold Wo;omega)
noncomputable def B4 (l:cJ):Nat->Nat
 | 0=>0
 | m+1=>if (l.getD m (1,1)).1=0 then B4 l m else m+1
noncomputable def trim (l:cJ):cJ:=l.take (B4 l l.length)
theorem LP (l:cJ):∀ m,B4 l m<=m
 | 0=>AU 0
 | m+1=>by
   unfold B4;split
   ·exact Nat.le_succ_of_le (LP l m)
   ·exact AU _
theorem OR (l:cJ):∀ m,B4 l m=0\/(l.getD (B4 l m - 1) (1,1)).1≠0
 | 0=>.inl rfl
 | m+1=>by
   unfold B4;split
   ·exact OR l m
   ·rename_i h;exact .inr h
def Nz (l:cJ):Prop:=∀ q,l.getLast?=some q->q.1≠0
def Jj {l:cJ} (h:Nz l):trim l=l:=by
 unfold trim
 have e:B4 l l.length=l.length:=by
  cases b:l.length with
  | zero=>rfl
  | succ m=>
    unfold B4;have a:m<l.length:=by omega
    have z:(l.getD m (1,1)).1≠0:=by
     have q:=h l[m] (by rw [Es,b];simp [a]);rw [AT,Aw a];exact q
    rw [sB z]
 rw [e,Di]
def EK (l:cJ):Nz (trim l):=by
 intro q a;unfold trim at a;have b:=LP l l.length;rw [Es,CT,Nat.min_eq_left b] at a;rcases OR l l.length with z | z
 ·rw [z] at a;simp at a
 ·by_cases c:B4 l l.length=0
  ·rw [c] at a;simp at a
  ·rw [List.getElem?_take_of_lt ⋯] at a;rw [AT,a] at z;exact z
def Cq {l:cJ} {q:Nu} (h:q∈trim l):q∈l:=GI h
def EL (l:cJ):(trim l).length<=l.length:=by
 unfold trim;rw [CT];omega
def AV (l:cJ):Prop:=∀ q∈l,Low q.1 q.2
def YG (n:Nat) (l:cJ):Prop:=∀ q∈l,Bd n q.1/\Bd n q.2
noncomputable def AR (l:cJ) (i:Nat):Nu:=l.getD i (0,1)
noncomputable def E9 (f:Nu->Nu->Nu) (l m:cJ):cJ:=(List.range (max l.length m.length)).map λi=>f (AR l i) (AR m i)
def LQ:Low 0 1:=⟨∅,∅⟩
theorem B9 {l:cJ} (h:AV l) (i:Nat):Low (AR l i).1 (AR l i).2:=by
 unfold AR;rw [AT];cases e:l[i]? with
 | none=>exact LQ
 | some q=>exact h q (BV e)
noncomputable def AY (l:cJ):Int:=l.foldl (λB q=>B*(q.2 / ((Int.gcd B q.2:Nat):Int))) 1
noncomputable def AJ (l:cJ):cP:=l.map λq=>q.1*(AY l / q.2)
def LR {B d:Int} (b:0<B) (c:0<d):0<B*(d / ((Int.gcd B d:Nat):Int))/\B∣B*(d / ((Int.gcd B d:Nat):Int))/\d∣B*(d / ((Int.gcd B d:Nat):Int))/\(d / ((Int.gcd B d:Nat):Int)).natAbs<=d.natAbs/\0<((Int.gcd B d:Nat):Int)/\((Int.gcd B d:Nat):Int)<=d:=by
 have f:0<Int.gcd B d:=Int.gcd_pos_of_ne_zero_right B ⋯;obtain ⟨k,hk⟩:((Int.gcd B d:Nat):Int)∣d:=EE B d;obtain ⟨m,g⟩:((Int.gcd B d:Nat):Int)∣B:=Ep B d;have a:(0:Int)<((Int.gcd B d:Nat):Int):=by omega
 have e:d / ((Int.gcd B d:Nat):Int)=k:=by
  have z:d / ((Int.gcd B d:Nat):Int)=(((Int.gcd B d:Nat):Int)*k) / ((Int.gcd B d:Nat):Int):=by rw [<-hk]
  rw [z,HE _ (AW a)]
 have kp:0<k:=by
  rcases Int.lt_or_le 0 k with h | h
  ·exact h
  ·exfalso;have:=Int.mul_nonneg (Dt a) (show 0<=-k by omega);rw [Int.mul_neg] at this;omega
 have i:((Int.gcd B d:Nat):Int)<=d:=Int.le_of_dvd c (EE B d);refine ⟨by rw [e];exact Ce b kp,Int.dvd_mul_right ..,?_,?_,a,i⟩
 ·rw [e];refine ⟨m,?_⟩;have z:d*m=((Int.gcd B d:Nat):Int)*k*m:=by rw [<-hk]
  have j:B*k=((Int.gcd B d:Nat):Int)*m*k:=by rw [<-g]
  rw [z,j];ext
 ·rw [e]
  have z:d.natAbs=(Int.gcd B d)*k.natAbs:=by
   have:d.natAbs=(((Int.gcd B d:Nat):Int)*k).natAbs:=by rw [<-hk]
   rw [this,By];simp
  rw [z];exact Nat.le_mul_of_pos_left _ f
theorem OS {b:Nat}:∀ (l:cJ) (B:Int) (c:Nat),(∀ q∈l,0<q.2/\Bd b q.2)->0<B->Bd c B->
  0<l.foldl (λB q=>B*(q.2 / ((Int.gcd B q.2:Nat):Int))) B/\B∣l.foldl (λB q=>B*(q.2 / ((Int.gcd B q.2:Nat):Int))) B/\(∀ q∈l,q.2∣l.foldl (λB q=>B*(q.2 / ((Int.gcd B q.2:Nat):Int))) B)/\Bd (c+b*l.length) (l.foldl (λB q=>B*(q.2 / ((Int.gcd B q.2:Nat):Int))) B)
 | [],B,c,_,d,e=>⟨d,Dj B,(λ_ h=>nomatch h),by simpa using e⟩
 | q::l,B,c,h,d,e=>by
   obtain ⟨g,i⟩:=h q (CH ..);obtain ⟨j,k,m,n,_,_⟩:=LR d g;obtain ⟨o,f,p,u⟩:=OS l (B*(q.2 / ((Int.gcd B q.2:Nat):Int))) (c+b) (λr a=>h r (Ca _ a)) j (e.mul (i.le n));rw [List.foldl_cons];refine ⟨o,CM k f,λr a=>?_,u.mono (by rw [Cf,Nat.mul_add,Nat.mul_one];omega)⟩;rcases Bx.mp a with rfl | a
   ·exact CM m f
   ·exact p r a
def YH {b:Nat} {l:cJ} (c:AV l) (d:YG b l):0<AY l/\(∀ q∈l,q.2∣AY l)/\Bd (1+b*l.length) (AY l):=by
 obtain ⟨e,_,f,g⟩:=OS (b:=b) l 1 1 (λq a=>⟨(c q a).pos,(d q a).2⟩) ∅ Bd.one;exact ⟨e,f,g⟩
def YI {B d:Int} (a:0<B) (b:0<d):(B / d).natAbs<=B.natAbs:=by
 have c:0<=B / d:=Int.ediv_nonneg (Dt a) (Dt b);have e:B / d<=B:=Int.ediv_le_self d (Dt a);omega
def YJ {q:Nu} {B:Int} (a:q.2∣B):Wo q (q.1*(B / q.2)) B:=by
 unfold Wo;rw [Int.mul_assoc,Int.ediv_mul_cancel a]
noncomputable def ps (ns a:cP):Nat->dh
 | 0,_=>0
 | i+1,k=>ps ns a i k+(if i<=k/\k - i<a.length then ns.getD i 0*a.getD (k - i) 0 else 0)
noncomputable def aZ (ns a:cP) (i j k:Nat):Int:=ps ns a i k+(if i<=k/\k - i<j then ns.getD i 0*a.getD (k - i) 0 else 0)
def YK (ns a:cP) (i k:Nat):aZ ns a i 0 k=ps ns a i k:=by
 unfold aZ;rw [sB ⋯];omega
def OT (ns a:cP) (i j k:Nat):aZ ns a i (j+1) k=if k=i+j then aZ ns a i j k+ns.getD i 0*a.getD j 0 else aZ ns a i j k:=by
 unfold aZ;by_cases h:k=i+j
 ·subst h;rw [sC rfl,sC ⟨⋯,⋯⟩,sB ⋯,show i+j - i=j by omega];omega
 ·rw [sB h];congr 1;by_cases b:i<=k/\k - i<j
  ·rw [sC b,sC ⟨b.1,⋯⟩]
  ·rw [sB b,sB ⋯]
theorem Ed {c:Nat} {ns:cP} (h:∀ z∈ns,Bd c z) (i:Nat):Bd c (ns.getD i 0):=by
 rw [AT];cases e:ns[i]? with
 | none=>exact Nat.pow_pos ∅
 | some z=>exact h z (BV e)
def Ci (c:Nat):Bd c 0:=Nat.pow_pos ∅
theorem OU {c d:Nat} {ns a:cP} (b:∀ z∈ns,Bd c z) (e:∀ z∈a,Bd d z):∀ i k,Bd (c+d+i) (ps ns a i k)
 | 0,_=>Ci _
 | i+1,k=>by
   unfold ps;refine (OU b e i k).add ?_;split
   ·exact ((Ed b i).mul (Ed e (k - i))).mono ⋯
   ·exact Ci _
theorem LS {ns a:cP}:∀ i k,i+a.length<=k+1->ps ns a i k=0
 | 0,_,_=>rfl
 | i+1,k,h=>by
   unfold ps;rw [LS i k ⋯,sB ⋯];rfl
noncomputable def Fn (l m:cJ) (n:Nat):cJ:=(List.range n).map λk=>T_ (ps (AJ l) (AJ m) l.length k) (AY l*AY m)
theorem OV {l m:cJ}:∀ {n:Nat},(∀ i,i<n->l.getD i (1,1)=m.getD i (1,1))->B4 l n=B4 m n
 | 0,_=>rfl
 | n+1,h=>by
   unfold B4;rw [h n (EF n),OV λi a=>h i (Nat.lt_succ_of_lt a)]
def OW (l:cJ):trim (l++[(0,1)])=trim l:=by
 unfold trim;rw [DB,List.length_singleton]
 have e:B4 (l++[(0,1)]) (l.length+1)=B4 l l.length:=by
  rw [show B4 (l++[(0,1)]) (l.length+1)=if ((l++[((0,1):Nu)]).getD l.length (1,1)).1=0 then B4 (l++[(0,1)]) l.length else l.length+1 from rfl];rw [sC (by simp [AT])];exact OV λi a=>by rw [AT,AT,GF a]
 rw [e,List.take_append_of_le_length (LP l l.length)]
def OX (l m:cJ) (n:Nat):Fn l m (n+1)=Fn l m n++[T_ (ps (AJ l) (AJ m) l.length n) (AY l*AY m)]:=by
 unfold Fn;rw [List.range_succ,DC];rfl
theorem LV (l m:cJ) (a:0<AY l*AY m):∀ n,(∀ k,k<n->ps (AJ l) (AJ m) l.length k=0)->trim (Fn l m n)=[]
 | 0,_=>rfl
 | n+1,h=>by
   rw [OX,h n (EF n),OQ a,OW];exact LV l m a n λk hk=>h k (Nat.lt_succ_of_lt hk)
theorem OY {ns a:cP} (h:a.length=0):∀ i k,ps ns a i k=0
 | 0,_=>rfl
 | i+1,k=>by unfold ps;rw [OY h i k,sB ⋯];rfl
def YL {l m:cJ} (a:0<AY l*AY m) (b:(AJ m).length=m.length) :
  trim (Fn l m (l.length+m.length))=trim (List.map (λn=>T_ n (AY l*AY m)) (if l.length=0\/m.length=0 then [] else List.map (λk=>ps (AJ l) (AJ m) l.length k) (List.range (l.length+m.length - 1)))):=by
 by_cases c:l.length=0
 ·rw [sC (.inl c)];refine LV l m a _ λk _=>?_;rw [c];rfl
 ·by_cases d:m.length=0
  ·rw [sC (.inr d)];exact LV l m a _ λk _=>OY (by rw [b];exact d) _ _
  ·rw [sB ⋯];obtain ⟨n,e⟩:∃ n,l.length+m.length=n+1:=⟨l.length+m.length - 1,⋯⟩;rw [e,OX,LS l.length n (by rw [b];omega),OQ a,OW,Nat.add_sub_cancel,List.map_map];rfl
noncomputable def val (q:Nu):Rat:=(q.1:Rat) / (q.2:Rat)
def O_ (x:Rat):0 / x=0:=by rw [Rat.div_def,Rat.zero_mul]
def Aq {z:Int} (h:z≠0):(z:Rat)≠0:=by exact_mod_cast h
def LW {q:Nu} {n m:Int} (a:q.2≠0) (b:m≠0) (w:Wo q n m):val q=(n:Rat) / (m:Rat):=by
 have c:=Aq a;have d:=Aq b;have e:(q.1:Rat)*m=n*q.2:=by unfold Wo at w;exact_mod_cast w
 unfold val;ext
def FA {q r:Nu} (c:Low q.1 q.2) (d:Low r.1 r.2) (h:val q=val r):q=r:=by
 have a:=Aq (AW c.pos);have b:=Aq (AW d.pos);unfold val at h;have z:(q.1:Rat)*r.2=r.1*q.2:=by ext
 have e:q.1*r.2=r.1*q.2:=by exact_mod_cast z
 obtain ⟨x,y⟩:=ON c d e;exact Prod.ext x y
def IT {n m:Int} (a:0<m):val (T_ n m)=(n:Rat) / (m:Rat):=LW (AW (Ec a).pos) (AW a) (Ji a)
def OZ {q r:Nu} (c:0<q.2) (d:0<r.2):val (U_ q r)=val q+val r:=by
 unfold U_;rw [IT (Ce c d)];have a:=Aq (AW c);have b:=Aq (AW d);unfold val;push_cast;ext
def LY {q r:Nu} (c:0<q.2) (d:0<r.2):val (G_ q r)=val q*val r:=by
 unfold G_;rw [IT (Ce c d)];have a:=Aq (AW c);have b:=Aq (AW d);unfold val;push_cast;ext
noncomputable def AX (n m:Int):Nu:=if m<0 then T_ (-n) (-m) else T_ n m
def D2 {n m:Int} (a:m≠0):Low (AX n m).1 (AX n m).2:=by
 unfold AX;split
 ·exact Ec ⋯
 ·exact Ec ⋯
def Ee {n m:Int} (a:m≠0):val (AX n m)=(n:Rat) / (m:Rat):=by
 unfold AX;split
 ·rw [IT ⋯];have:=Aq a;push_cast;ext
 ·exact IT ⋯
def LZ {n m N:Int} (b:m≠0) (h:m∣N):(AX n m).2∣N:=by
 have a:∀ {n m:Int},0<m->(T_ n m).2∣m:=λ{n m} c=>by
  unfold T_;exact Int.ediv_dvd_of_dvd (EE n m)
 unfold AX;split
 ·exact CM (a ⋯) (CM (Int.neg_dvd.mpr (Dj m)) h)
 ·exact CM (a ⋯) h
def Oa {c d:Nat} {n m:Int} (g:m≠0) (b:Bd c n) (e:Bd d m):Bd c (AX n m).1/\Bd d (AX n m).2:=by
 have a:∀ {n m:Int},0<m->Bd c n->Bd d m->Bd c (T_ n m).1/\Bd d (T_ n m).2:=λ{n m} f b e=>by
  have w:=YD (Ec f) f (Ji (n:=n) f);exact ⟨b.le w.1,e.le w.2⟩
 unfold AX;split
 ·exact a ⋯ b.neg e.neg
 ·exact a ⋯ b e
noncomputable def B_ (l:cJ) (k:Nat):Rat:=val (AR l k)
def YM {q:Nu} (h:Low q.1 q.2) (z:q.1=0):q=(0,1):=FA h LQ (by unfold val;rw [z];show ((0:Int):Rat) / _=((0:Int):Rat) / _;rw [show ((0:Int):Rat)=0 from rfl,O_,O_])
def YN {l:cJ} (n:AV l) (k:Nat):AR (trim l) k=AR l k:=by
 have g:∀ (m:Nat),m<=l.length->(∀ j,m<=j->j<l.length->(AR l j).1=0)->∀ j,B4 l m<=j->j<l.length->(AR l j).1=0:=by
  intro m
  induction m with
  | zero=>intro _ h j i c;exact h j ⋯ c
  | succ m o=>
    intro p h j d f;rw [show B4 l (m+1)=if (l.getD m (1,1)).1=0 then B4 l m else m+1 from rfl] at d;split at d
    ·rename_i z;refine o ⋯ (λj i c=>?_) j d f;by_cases e:j=m
     ·subst e;unfold AR;rw [AT,Aw c] at z ⊢;exact z
     ·exact h j ⋯ c
    ·exact h j d f
 unfold trim;by_cases d:k<B4 l l.length
 ·unfold AR;rw [AT,AT,List.getElem?_take_of_lt d]
 ·have e:AR (l.take (B4 l l.length)) k=(0,1):=by
   unfold AR;rw [AT,CC (by rw [CT];omega)];rfl
  rw [e];by_cases f:k<l.length
  ·exact (YM (B9 n k) (g l.length (AU _) (λj a b=>absurd b ⋯) k ⋯ f)).symm
  ·unfold AR;rw [AT,CC ⋯];rfl
def Fo {l:cJ} (a:AV l) (k:Nat):B_ (trim l) k=B_ l k:=by unfold B_;rw [YN a]
def La {l:cJ} {k:Nat} (h:l.length<=k):AR l k=(0,1):=by
 unfold AR;rw [AT,CC h];rfl
def Bc {l:cJ} {k:Nat} (h:l.length<=k):B_ l k=0:=by
 unfold B_;rw [La h];exact O_ _
def Ob {a b:cJ} (f:Nz b) (h:∀ k,AR a k=AR b k):b.length<=a.length:=by
 rcases BF a.length b.length with g | c
 ·exfalso;have d:b.length - 1<b.length:=by omega
  have q:=f b[b.length - 1] (by rw [Es];exact Aw d);have e:=h (b.length - 1);rw [La ⋯] at e;unfold AR at e;rw [AT,Aw d] at e;have i:((0,1):Nu)=b[b.length - 1]:=e;rw [<-i] at q;exact q rfl
 ·exact c
def Oc {a b:cJ} (c:AV a) (d:AV b) (f:Nz a) (j:Nz b) (h:∀ k,B_ a k=B_ b k):a=b:=by
 have g:∀ k,AR a k=AR b k:=λk=>FA (B9 c k) (B9 d k) (h k);have e:a.length=b.length:=Nat.le_antisymm (Ob f λk=>(g k).symm) (Ob j g);refine List.ext_getElem e λi m n=>?_;have z:=g i;unfold AR at z;rw [AT,AT,Aw m,Aw n] at z;exact z
noncomputable def cv (f g:di):Nat->di
 | 0,_=>0
 | n+1,k=>cv f g n k+(if n<=k then f n*g (k - n) else 0)
theorem Od {f f' g:di} {s:Nat} {x:Rat} (a:f s=0) (b:f' s=x) (c:∀ i,i≠s->f' i=f i):∀ n k,cv f' g n k=cv f g n k+(if s<n/\s<=k then x*g (k - s) else 0)
 | 0,k=>by unfold cv;rw [sB ⋯];exact (Rat.add_zero 0).symm
 | n+1,k=>by
   unfold cv;rw [Od a b c n k];by_cases e:n=s
   ·subst e;rw [a,b];by_cases hk:n<=k
    ·rw [sC hk,sC hk,sB ⋯,sC ⟨⋯,hk⟩];ext
    ·rw [sB hk,sB hk,sB ⋯,sB ⋯]
   ·rw [c n e];have d:(s<n+1/\s<=k)↔(s<n/\s<=k):=by omega
    simp only [d];ext
theorem Oe {f g:di}:∀ n k,(∀ i,i<n->f i=0)->cv f g n k=0
 | 0,_,_=>rfl
 | n+1,k,h=>by
   unfold cv;rw [Oe n k λi a=>h i ⋯,h n ⋯];split <;> ext
theorem Of {f g:di} {n:Nat} (h:∀ i,n<=i->f i=0):∀ d k,cv f g (n+d) k=cv f g n k
 | 0,_=>rfl
 | d+1,k=>by
   show cv f g (n+d) k+(if n+d<=k then f (n+d)*g (k - (n+d)) else 0)=_;rw [Of h d k,h (n+d) ⋯];split <;> ext
theorem Og {f f' g:di} (h:∀ i,f i=f' i):∀ n k,cv f g n k=cv f' g n k
 | 0,_=>rfl
 | n+1,k=>by unfold cv;rw [Og h n k,h n]
noncomputable def N_ (l:cJ) (M:Int):cP:=l.map λq=>q.1*(M / q.2)
def Ov (l:cJ) (M:Int):Prop:=0<M/\∀ q∈l,q.2∣M
theorem Oh {l:cJ} {M:Int} (i:Nat):(N_ l M).getD i 0=(AR l i).1*(M / (AR l i).2):=by
 unfold N_ AR;rw [AT,AT,Aj];cases l[i]? with
 | none=>simp
 | some q=>rfl
theorem Ov.get {l:cJ} {M:Int} (h:Ov l M) (i:Nat):(AR l i).2∣M:=by
 unfold AR;rw [AT];cases e:l[i]? with
 | none=>exact Int.one_dvd M
 | some q=>exact h.2 q (BV e)
def YO {l:cJ} {M:Int} (h:Ov l M) (i:Nat):Wo (AR l i) ((N_ l M).getD i 0) M:=by
 rw [Oh];exact YJ (h.get i)
def Fq {l:cJ} {M:Int} (a:AV l) (h:Ov l M) (i:Nat):B_ l i=((N_ l M).getD i 0:Rat) / (M:Rat):=LW (AW (B9 a i).pos) (AW h.1) (YO h i)
noncomputable def IV (l m:cJ) (a b:Int) (n:Nat):cJ:=(List.range n).map λk=>T_ (ps (N_ l a) (N_ m b) l.length k) (a*b)
theorem Lb {l m:cJ} {d c:Int} (g:AV l) (h:AV m) (e:Ov l d) (f:Ov m c):∀ n k,(ps (N_ l d) (N_ m c) n k:Rat) / ((d*c:Int):Rat)=cv (B_ l) (B_ m) n k
 | 0,k=>O_ _
 | n+1,k=>by
   have a:=Aq (AW e.1);have b:=Aq (AW f.1);have i:=Lb g h e f n k;unfold ps cv;rw [<-i];by_cases hk:n<=k
   ·rw [sC hk,Fq g e,Fq h f];by_cases j:k - n<(N_ m c).length
    ·rw [sC ⟨hk,j⟩];push_cast;ext
    ·rw [sB ⋯,show (N_ m c).getD (k - n) 0=0 by rw [AT,CC ⋯];rfl];push_cast;ext
   ·rw [sB hk,sB ⋯];push_cast;ext
def YQ {l m:cJ} {a b:Int} {n:Nat} (c:Ov l a) (d:Ov m b):AV (IV l m a b n):=by
 intro q e;obtain ⟨k,_,rfl⟩:=BG.mp e;exact Ec (Ce c.1 d.1)
def YR {l m:cJ} {a b:Int} (f:AV l) (g:AV m) (c:Ov l a) (d:Ov m b) (k:Nat):B_ (IV l m a b (l.length+m.length)) k=cv (B_ l) (B_ m) l.length k:=by
 rw [<-Lb f g c d];have i:=Ce c.1 d.1;by_cases h:k<l.length+m.length
 ·have e:AR (IV l m a b (l.length+m.length)) k=T_ (ps (N_ l a) (N_ m b) l.length k) (a*b):=by
   unfold IV AR;rw [AT,Aj,DE h];rfl
  unfold B_;rw [e,IT i]
 ·rw [Bc (by unfold IV;rw [AL,BK];omega),LS l.length k (by unfold N_;rw [AL];omega)];exact (O_ _).symm
def lcm_dvd {B d M:Int} (c:0<B) (f:0<d) (a:B∣M) (b:d∣M):B*(d / ((Int.gcd B d:Nat):Int))∣M:=by
 have z:((Nat.lcm B.natAbs d.natAbs:Nat):Int)∣M:=C4.mp (by rw [CN];exact Nat.lcm_dvd (C4.mpr a) (C4.mpr b))
 have e:((Nat.lcm B.natAbs d.natAbs:Nat):Int)=B*(d / ((Int.gcd B d:Nat):Int)):=by
  unfold Nat.lcm;rw [Nat.mul_div_assoc _ (Nat.gcd_dvd_right _ _)];push_cast;rw [show ((B.natAbs:Nat):Int)=B by omega,show ((d.natAbs:Nat):Int)=d by omega];rfl
 rw [<-e];exact z
theorem Lc {M:Int}:∀ (l:cJ) (B:Int),(∀ q∈l,0<q.2/\q.2∣M)->0<B->B∣M->0<l.foldl (λB q=>B*(q.2 / ((Int.gcd B q.2:Nat):Int))) B/\l.foldl (λB q=>B*(q.2 / ((Int.gcd B q.2:Nat):Int))) B∣M
 | [],B,_,a,h=>⟨a,h⟩
 | q::l,B,b,a,h=>by
   obtain ⟨c,d⟩:=b q (CH ..);obtain ⟨e,_⟩:=LR a c;exact Lc l _ (λr f=>b r (Ca _ f)) e (lcm_dvd a c h d)
def DH {n:Nat} {a b:Int} (d:b≠0) (h:a∣b) (c:Bd n b):Bd n a:=c.le (ET ⋯ (C4.mpr h))
def Bj {l:cJ} (e:AV l):Ov l (AY l):=by
 obtain ⟨a,b,_⟩:=YH (b:=(l.foldl (λn q=>n+q.1.natAbs+q.2.natAbs) 1)) e (λq c=>by
  have d:∀ (l:cJ) (n:Nat),n<=l.foldl (λn q=>n+q.1.natAbs+q.2.natAbs) n/\∀ q∈l,q.1.natAbs+q.2.natAbs<=l.foldl (λn q=>n+q.1.natAbs+q.2.natAbs) n:=by
   intro l
   induction l with
   | nil=>intro n;exact ⟨AU _,λ_ h=>nomatch h⟩
   | cons r l f=>
     intro n;obtain ⟨i,g⟩:=f (n+r.1.natAbs+r.2.natAbs);rw [List.foldl_cons];refine ⟨⋯,λq c=>?_⟩;rcases Bx.mp c with rfl | c
     ·omega
     ·exact g q c
  have z:=(d l 1).2 q c;exact ⟨DT ⋯ (Nat.lt_two_pow_self),DT ⋯ (Nat.lt_two_pow_self)⟩)
 exact ⟨a,b⟩
def Oi {l:cJ} {M:Int} (b:AV l) (h:Ov l M):AY l∣M:=(Lc l 1 (λq a=>⟨(b q a).pos,h.2 q a⟩) ∅ (Int.one_dvd M)).2
def Jk (l:cJ):AJ l=N_ l (AY l):=rfl
section
variable {α:Type} [Lean.Grind.CommRing α]
noncomputable def cvL:List α->(Nat->α)->Nat->α
 | [],_,_=>0
 | x::a,b,k=>x*b k+(match k with | 0=>0 | k+1=>cvL a b k)
def Az (b:Nat->α) (k:Nat):cvL [] b k=0:=rfl
def Ap (x:α) (a:List α) (b:Nat->α):cvL (x::a) b 0=x*b 0+0:=rfl
def Ak (x:α) (a:List α) (b:Nat->α) (k:Nat):cvL (x::a) b (k+1)=x*b (k+1)+cvL a b k:=rfl
theorem A8 {b c:Nat->α} (h:∀ k,b k=c k):∀ (a:List α) (k:Nat),cvL a b k=cvL a c k
 | [],_=>rfl
 | x::a,0=>by rw [Ap,Ap,h 0]
 | x::a,k+1=>by rw [Ak,Ak,h (k+1),A8 h a k]
theorem Ge (b c:Nat->α):∀ (a:List α) (k:Nat),cvL a (λk=>b k+c k) k=cvL a b k+cvL a c k
 | [],_=>by rw [Az,Az,Az];ext
 | x::a,0=>by rw [Ap,Ap,Ap];ext
 | x::a,k+1=>by rw [Ak,Ak,Ak,Ge b c a k];ext
theorem Cj (s:α) (b:Nat->α):∀ (a:List α) (k:Nat),cvL a (λk=>s*b k) k=s*cvL a b k
 | [],_=>by rw [Az,Az];ext
 | x::a,0=>by rw [Ap,Ap];ext
 | x::a,k+1=>by rw [Ak,Ak,Cj s b a k];ext
noncomputable def DI (b:Nat->α):Nat->α
 | 0=>0
 | k+1=>b k
theorem Jl (b:Nat->α):∀ (a:List α) (k:Nat),cvL a (DI b) k=DI (cvL a b) k
 | [],0=>rfl
 | [],k+1=>rfl
 | x::a,0=>by rw [Ap];show x*0+0=0;ext
 | x::a,1=>by
   rw [Ak];have h:=Jl b a 0;rw [h];show x*b 0+0=cvL (x::a) b 0;rw [Ap]
 | x::a,k+2=>by
   rw [Ak,Jl b a (k+1)];show x*b (k+1)+cvL a b k=cvL (x::a) b (k+1);rw [Ak]
theorem FB (x:α) (a:List α) (b:Nat->α) (k:Nat):cvL (x::a) b k=x*b k+DI (cvL a b) k:=by
 cases k with
 | zero=>exact Ap x a b
 | succ k=>exact Ak x a b k
theorem HP (c:Nat->α):∀ (a b:List α) (k:Nat),cvL a (cvL b c) k=cvL b (cvL a c) k
 | [],b,k=>by
   rw [Az];have e:cvL b (cvL [] c) k=cvL b (λk=>0*c k) k:=A8 (λk=>by rw [Az];ext) b k;rw [e,Cj];ext
 | x::a,b,k=>by
   rw [FB];have e:cvL b (cvL (x::a) c) k=cvL b (λk=>x*c k+DI (cvL a c) k) k:=A8 (λk=>FB x a c k) b k;rw [e,Ge,Cj,Jl]
   have d:DI (cvL a (cvL b c)) k=DI (cvL b (cvL a c)) k:=by
    cases k with
    | zero=>rfl
    | succ k=>exact HP c a b k
   rw [d]
noncomputable def Af:Nat->α
 | 0=>1
 | _+1=>0
theorem Dk:∀ (a:List α) (k:Nat),cvL a Af k=a.getD k 0
 | [],k=>by rw [Az];simp
 | x::a,0=>by rw [Ap];show x*1+0=x;ext
 | x::a,k+1=>by
   rw [Ak,Dk a k];show x*0+a.getD k 0=(x::a).getD (k+1) 0;rw [List.getD_cons_succ];ext
noncomputable def Ar (f:List α):Nat->Nat->α
 | 0=>Af
 | n+1=>cvL f (Ar f n)
end
def YS {n k:Nat}:k∣2 ^ n↔∃ a,a<=n/\k=2 ^ a:=by
 constructor
 ·induction n generalizing k with
  | zero=>intro h;exact ⟨0,AU 0,by simpa using h⟩
  | succ n d=>
    intro h;by_cases f:2∣k
    ·obtain ⟨j,rfl⟩:=f;rw [CI,C3 (2 ^ n) 2] at h;obtain ⟨a,b,e⟩:=d (Nat.dvd_of_mul_dvd_mul_left ∅ h);exact ⟨a+1,⋯,by rw [e,CI,C3]⟩
    ·have c:Nat.Coprime k 2:=by
      have:Nat.gcd k 2∣2:=Nat.gcd_dvd_right k 2;have g:=ET ∅ this;have i:Nat.gcd k 2≠2:=λz=>f (by rw [<-z];exact Nat.gcd_dvd_left k 2);have m:Nat.gcd k 2≠0:=λz=>by have:=Nat.eq_zero_of_gcd_eq_zero_right z;omega
      show Nat.gcd k 2=1;omega
     rw [CI] at h;obtain ⟨a,b,e⟩:=d (c.dvd_of_dvd_mul_right h);exact ⟨a,⋯,e⟩
 ·rintro ⟨a,b,rfl⟩;exact Nat.pow_dvd_pow 2 b
structure Pr (p:Nat):Prop where
 two:2<=p
 div:∀ d,d∣p->d=1\/d=p
def Pr.cop {p:Nat} (h:Pr p) {a:Nat} (b:¬ p∣a):Nat.gcd a p=1:=by
 rcases h.div _ (Nat.gcd_dvd_right a p) with e | e
 ·exact e
 ·exact absurd (e ▸ Nat.gcd_dvd_left a p) b
def Pr.mul {p:Nat} (h:Pr p) {a b:Nat} (d:p∣a*b):p∣a\/p∣b:=by
 by_cases c:p∣a
 ·exact .inl c
 ·refine .inr (Nat.Coprime.dvd_of_dvd_mul_left (k:=p) (m:=a) ?_ d);have:=h.cop c;rw [Nat.gcd_comm] at this;exact this
def Pr.mulI {p:Nat} (h:Pr p) {a b:Int} (c:(p:Int)∣a*b):(p:Int)∣a\/(p:Int)∣b:=by
 have z:=C4.mpr c;rw [By,CN] at z;rcases h.mul z with e | e
 ·exact .inl (C4.mp (by rw [CN];exact e))
 ·exact .inr (C4.mp (by rw [CN];exact e))
def Oj {m:Nat} (v:2<=m):∃ q,Pr q/\q∣m/\(q=m\/q*q<=m):=by
 have c:∀ n d,2<=d->(∀ e,2<=e->e<d->¬ e∣m)->m=d+n->∃ q,2<=q/\q∣m/\∀ e,2<=e->e<q->¬ e∣m:=by
  intro n
  induction n with
  | zero=>intro d a h e;exact ⟨d,a,by rw [e];exact Nat.dvd_refl _,h⟩
  | succ n o=>
    intro d a h e;by_cases b:d∣m
    ·exact ⟨d,a,b,h⟩
    ·refine o (d+1) ⋯ (λx p r=>?_) ⋯;by_cases f:x=d
     ·rw [f];exact b
     ·exact h x p ⋯
 obtain ⟨q,u,g,j⟩:=c (m - 2) 2 (AU 2) (λe w i=>absurd i ⋯) ⋯;refine ⟨q,⟨u,λd a=>?_⟩,g,?_⟩
 ·by_cases i:2<=d
  ·right;rcases BF d q with h | h
   ·exact absurd (Nat.dvd_trans a g) (j d i h)
   ·exact Nat.le_antisymm (ET ⋯ a) h
  ·left;have:d≠0:=λz=>by rw [z] at a;have:=Nat.eq_zero_of_zero_dvd a;omega
   omega
 ·obtain ⟨k,hk⟩:=g;by_cases y:k<=1
  ·left
   have:k=1:=by
    rcases Ds k with z | z
    ·rw [z] at hk;omega
    ·omega
   rw [hk,this,Nat.mul_one]
  ·right;rcases BF k q with h | h
   ·exact absurd ⟨q,by rw [hk,C3]⟩ (j k ⋯ h)
   ·rw [hk];exact C5 q h
theorem aG:∀ (n m:Nat) (f:Nat->Nat),(∀ i,i<m->f i<n)->(∀ i j,i<m->j<m->f i=f j->i=j)->m<=n
 | 0,m,f,h,_=>by
   rcases Ds m with z | z
   ·omega
   ·exact absurd (h 0 z) ⋯
 | n+1,0,_,_,_=>by omega
 | n+1,m+1,f,h,a=>by
   have:=aG n m (λi=>if f i=n then f m else f i) (λi d=>by
    show (if f i=n then f m else f i)<n;by_cases e:f i=n
    ·rw [sC e];have g:=h m (EF m);have:f m≠n:=λz=>absurd (a i m ⋯ ⋯ (by rw [e,z])) ⋯;omega
    ·rw [sB e];have g:=h i ⋯;omega) (λi j d k e=>by
    have e:(if f i=n then f m else f i)=(if f j=n then f m else f j):=e;by_cases c:f i=n
    ·rw [sC c] at e;by_cases b:f j=n
     ·exact a i j ⋯ ⋯ (by rw [c,b])
     ·rw [sB b] at e;exact absurd (a m j ⋯ ⋯ e) ⋯
    ·rw [sB c] at e;by_cases b:f j=n
     ·rw [sC b] at e;exact absurd (a i m ⋯ ⋯ e) ⋯
     ·rw [sB b] at e;exact a i j ⋯ ⋯ e)
   omega
noncomputable abbrev Rt:=Int×Int
noncomputable def M_ (q:Int) (x y:Rt):Rt:=((x.1*y.1+3*(x.2*y.2)) % q,(x.1*y.2+x.2*y.1) % q)
noncomputable def C_ (q:Int):Nat->Rt
 | 0=>(1 % q,0 % q)
 | n+1=>M_ q (2,1) (C_ q n)
def Fs {q a b c:Int} (h:a - b=q*c):a % q=b % q:=by
 have:a=b+q*c:=by omega
 rw [this,Int.add_mul_emod_self_left]
def em {a q:Int}:∃ c,a % q=a - q*c:=⟨a / q,by have:=Int.emod_add_mul_ediv a q;omega⟩
def HQ (q:Int) (x y z:Rt):M_ q (M_ q x y) z=M_ q x (M_ q y z):=by
 obtain ⟨a,b⟩:=x;obtain ⟨c,d⟩:=y;obtain ⟨e,f⟩:=z;obtain ⟨g,h⟩:=em (a:=a*c+3*(b*d)) (q:=q);obtain ⟨i,j⟩:=em (a:=a*d+b*c) (q:=q);obtain ⟨k,m⟩:=em (a:=c*e+3*(d*f)) (q:=q);obtain ⟨n,o⟩:=em (a:=c*f+d*e) (q:=q);refine Prod.ext ?_ ?_
 ·show ((a*c+3*(b*d)) % q*e+3*((a*d+b*c) % q*f)) % q=(a*((c*e+3*(d*f)) % q)+3*(b*((c*f+d*e) % q))) % q;rw [h,j,m,o];exact Fs (c:=a*k+3*b*n - g*e - 3*i*f) ()
 ·show ((a*c+3*(b*d)) % q*f+((a*d+b*c) % q*e)) % q=(a*((c*f+d*e) % q)+(b*((c*e+3*(d*f)) % q))) % q;rw [h,j,m,o];exact Fs (c:=a*n+b*k - g*f - i*e) ()
def YT (q:Int) (x y:Rt):M_ q x y=M_ q y x:=by
 refine Prod.ext ?_ ?_
 ·show (x.1*y.1+3*(x.2*y.2)) % q=(y.1*x.1+3*(y.2*x.2)) % q;congr 1;ext
 ·show (x.1*y.2+x.2*y.1) % q=(y.1*x.2+y.2*x.1) % q;congr 1;ext
def rn (q:Int) (x:Rt):Prop:=x.1 % q=x.1/\x.2 % q=x.2
def YU (q:Int) (x y:Rt):rn q (M_ q x y):=⟨Int.emod_emod ..,Int.emod_emod ..⟩
theorem Gf (q:Int):∀ n,rn q (C_ q n)
 | 0=>⟨Int.emod_emod ..,Int.emod_emod ..⟩
 | _+1=>YU q _ _
def ax (q:Int) {x:Rt} (h:rn q x):M_ q (C_ q 0) x=x:=by
 obtain ⟨d,e⟩:=em (a:=1) (q:=q);obtain ⟨f,g⟩:=em (a:=0) (q:=q);refine Prod.ext ?_ ?_
 ·show (1 % q*x.1+3*(0 % q*x.2)) % q=x.1;rw [e,g,<-h.1];rw [Fs (b:=x.1 % q) (c:=- d*(x.1 % q) - 3*f*x.2) (),Int.emod_emod]
 ·show (1 % q*x.2+0 % q*x.1) % q=x.2;rw [e,g,<-h.2];rw [Fs (b:=x.2 % q) (c:=- d*(x.2 % q) - f*x.1) (),Int.emod_emod]
theorem Gh (q:Int):∀ m n,C_ q (m+n)=M_ q (C_ q m) (C_ q n)
 | 0,n=>by rw [Nat.zero_add,ax q (Gf q n)]
 | m+1,n=>by
   rw [Nat.succ_add];show M_ q (2,1) (C_ q (m+n))=M_ q (M_ q (2,1) (C_ q m)) (C_ q n);rw [Gh q m n,HQ]
noncomputable def ay (q:Int):Nat->Rt
 | 0=>(1 % q,0 % q)
 | n+1=>M_ q (2,-1) (ay q n)
def r21 (q:Int):M_ q (2,-1) (2,1)=C_ q 0:=by
 refine Prod.ext ?_ ?_
 ·show (2*2+3*(-1*1)) % q=1 % q;rfl
 ·show (2*1 + -1*2) % q=0 % q;rfl
theorem Ol (q:Int):∀ n,M_ q (ay q n) (C_ q n)=C_ q 0
 | 0=>ax q (Gf q 0)
 | n+1=>by
   show M_ q (M_ q (2,-1) (ay q n)) (M_ q (2,1) (C_ q n))=_;rw [HQ,<-HQ q (ay q n),YT q (ay q n) (2,1),HQ q (2,1),Ol q n,<-HQ,r21,ax q (Gf q 0)]
theorem Le (q:Int) {m:Nat} (h:C_ q m=C_ q 0):∀ k,C_ q (m*k)=C_ q 0
 | 0=>rfl
 | k+1=>by rw [Nat.mul_succ,Gh,Le q h k,h,ax q (Gf q 0)]
theorem rord (q:Int) {n:Nat} (c:C_ q (2 ^ (n+1))=C_ q 0) (f:C_ q (2 ^ n)≠C_ q 0):∀ d,0<d->d<2 ^ (n+1)->C_ q d≠C_ q 0:=by
 intro d
 induction d using Nat.strongRecOn with
 | _ d g=>
 intro i u e;have j:=Nat.mod_lt (2 ^ (n+1)) i
 have m:C_ q (2 ^ (n+1) % d)=C_ q 0:=by
  have o:=Nat.div_add_mod (2 ^ (n+1)) d;rw [<-o,Gh,Le q e,ax q (Gf q _)] at c;exact c
 rcases Ds (2 ^ (n+1) % d) with z | z
 ·obtain ⟨k,hk⟩:=Nat.dvd_of_mod_eq_zero z;obtain ⟨a,v,b⟩:=(YS (n:=n+1) (k:=d)).mp ⟨k,hk⟩
  have p:a<=n:=by
   rcases BF n a with h | h
   ·exfalso;have:a=n+1:=by omega
    rw [this] at b;omega
   ·exact h
  apply f;have r:2 ^ n=d*2 ^ (n - a):=by rw [b,<-Nat.pow_add];congr 1;omega
  rw [r];exact Le q e _
 ·exact g _ j z ⋯ m
theorem aH (q:Int):∀ n,∃ c,(C_ q n).1*(C_ q n).1 - 3*((C_ q n).2*(C_ q n).2) - 1=q*c
 | 0=>by
   obtain ⟨d,f⟩:=em (a:=1) (q:=q);obtain ⟨e,g⟩:=em (a:=0) (q:=q);refine ⟨-2*d+q*d*d - 3*q*e*e,?_⟩;show (1 % q)*(1 % q) - 3*((0 % q)*(0 % q)) - 1=_;rw [f,g];ext
 | n+1=>by
   obtain ⟨c,j⟩:=aH q n;obtain ⟨d,f⟩:=em (a:=2*(C_ q n).1+3*(1*(C_ q n).2)) (q:=q);obtain ⟨e,g⟩:=em (a:=2*(C_ q n).2+1*(C_ q n).1) (q:=q);have h:(C_ q (n+1)).1=2*(C_ q n).1+3*(1*(C_ q n).2) - q*d:=f;have i:(C_ q (n+1)).2=2*(C_ q n).2+1*(C_ q n).1 - q*e:=g;rw [h,i];generalize (C_ q n).1=a at *;generalize (C_ q n).2=b at *;exact ⟨c - 2*d*(2*a+3*b)+q*d*d+6*e*(2*b+a) - 3*q*e*e,()⟩
def YV (q:Int) (n:Nat):∃ c,2*(C_ q (n+n)).1=(2*(C_ q n).1)*(2*(C_ q n).1) - 2+q*c:=by
 obtain ⟨c,e⟩:=aH q n;rw [Gh];obtain ⟨b,d⟩:=em (a:=(C_ q n).1*(C_ q n).1+3*((C_ q n).2*(C_ q n).2)) (q:=q);refine ⟨-2*b - 2*c,?_⟩;show 2*(((C_ q n).1*(C_ q n).1+3*((C_ q n).2*(C_ q n).2)) % q)=_;rw [d];ext
noncomputable def ll (M:Nat):Nat->Nat->Nat
 | 0,s=>s
 | k+1,s=>ll M k ((s*s+(M - 2)) % M)
theorem Om {q:Int} {M:Nat} (f:2<=M) (g:q∣(M:Int)):∀ (k t s:Nat),q∣2*(C_ q (2 ^ t)).1 - (s:Int)->q∣2*(C_ q (2 ^ (t+k))).1 - (ll M k s:Int)
 | 0,t,s,h=>h
 | k+1,t,s,h=>by
   have:=Om f g k (t+1) ((s*s+(M - 2)) % M) (by
    obtain ⟨c,i⟩:=YV q (2 ^ t);obtain ⟨d,j⟩:=h;obtain ⟨m,n⟩:=g;have e:(2:Nat) ^ (t+1)=2 ^ t+2 ^ t:=by rw [CI];omega
    rw [e,i]
    have z:(((s*s+(M - 2)) % M:Nat):Int)=(s:Int)*s+(M - 2) - M*(((s*s+(M - 2)) / M:Nat):Int):=by
     have:=Nat.mod_add_div (s*s+(M - 2)) M
     have o:(((s*s+(M - 2)) % M:Nat):Int)+(M:Int)*(((s*s+(M - 2)) / M:Nat):Int)=(s:Int)*s+(M - 2):=by
      have:=congrArg (λx:Nat=>(x:Int)) this;simp only [Int.natCast_add,Int.natCast_mul] at this;rw [this,Int.natCast_sub f];rfl
     omega
    rw [z];generalize (((s*s+(M - 2)) / M:Nat):Int)=w;generalize (C_ q (2 ^ t)).1=a at j;have b:2*a=s+q*d:=by omega
    rw [b,n];exact ⟨2*s*d+q*d*d+c - m+m*w,()⟩)
   rw [show t+(k+1)=t+1+k by omega];exact this
def YW {n:Nat} (h:ll (2 ^ (n+2) - 1) n 4 % (2 ^ (n+2) - 1)=0):Pr (2 ^ (n+2) - 1):=by
 have N:4<=2 ^ (n+2):=by rw [Nat.pow_add];have:=Nat.one_le_two_pow (n:=n);omega
 generalize hM:2 ^ (n+2) - 1=M at h ⊢;obtain ⟨q,p,r,A⟩:=Oj (m:=M) ⋯;rcases A with e | A
 ·rw [<-e];exact p
 exfalso;have O:(q:Int)∣(M:Int):=Int.natCast_dvd_natCast.mpr r;have q2:=p.two
 have P:q≠2:=λz=>by
  rw [z] at r;have:2 ^ (n+2)=2*2 ^ (n+1):=by rw [CI 2 (n+1)];omega
  omega
 have Q:(q:Int)∣2*(C_ q (2 ^ (0+n))).1 - (ll M n 4:Int):=Om ⋯ O n 0 4 (by
  show (q:Int)∣2*(M_ q (2,1) (C_ q 0)).1 - 4;obtain ⟨f,u⟩:=em (a:=1) (q:=(q:Int));obtain ⟨g,v⟩:=em (a:=0) (q:=(q:Int));show (q:Int)∣2*((2*(1 % (q:Int))+3*(1*(0 % (q:Int)))) % (q:Int)) - 4;obtain ⟨R,S⟩:=em (a:=2*(1 % (q:Int))+3*(1*(0 % (q:Int)))) (q:=(q:Int));rw [S,u,v];exact ⟨-4*f - 6*g - 2*R,()⟩)
 have T:(q:Int)∣(ll M n 4:Int):=Int.natCast_dvd_natCast.mpr (Nat.dvd_trans r (Nat.dvd_of_mod_eq_zero h))
 have U:(q:Int)∣2*(C_ q (2 ^ n)).1:=by
  have:=Cn Q T;rw [Nat.zero_add] at this;rw [Int.sub_add_cancel] at this;exact this
 have W:(q:Int)∣(C_ q (2 ^ n)).1:=by
  rcases p.mulI U with z | z
  ·exfalso;have w:=Int.natCast_dvd_natCast.mp (show (q:Int)∣((2:Nat):Int) from z);have:=ET ∅ w;omega
  ·exact z
 have k:(q:Int)≠0:=by omega
 have o:C_ q (2 ^ (n+1))=((-1) % (q:Int),0 % (q:Int)):=by
  have e:(2:Nat) ^ (n+1)=2 ^ n+2 ^ n:=by rw [CI];omega
  rw [e,Gh];obtain ⟨c,X⟩:=aH q (2 ^ n);obtain ⟨d,x⟩:=W;refine Prod.ext ?_ ?_
  ·show ((C_ q (2 ^ n)).1*(C_ q (2 ^ n)).1+3*((C_ q (2 ^ n)).2*(C_ q (2 ^ n)).2)) % (q:Int)=(-1) % (q:Int);refine Fs (c:=2*q*d*d - c) ?_;generalize (C_ q (2 ^ n)).2=b at *;rw [x] at X ⊢;ext
  ·show ((C_ q (2 ^ n)).1*(C_ q (2 ^ n)).2+(C_ q (2 ^ n)).2*(C_ q (2 ^ n)).1) % (q:Int)=0 % (q:Int);refine Fs (c:=2*d*(C_ q (2 ^ n)).2) ?_;rw [x];ext
 have v:C_ q (2 ^ (n+1))≠C_ q 0:=λz=>by
  rw [o] at z;have Y:(-1) % (q:Int)=1 % (q:Int):=congrArg Prod.fst z;have w:(q:Int)∣-1 - 1:=Int.dvd_of_emod_eq_zero ((Int.emod_eq_emod_iff_emod_sub_eq_zero).mp Y);have Z:=C4.mpr w;have:=ET ∅ Z;rw [CN] at this;have:(-1 - 1:Int).natAbs=2:=by decide
  omega
 have u:C_ q (2 ^ (n+1+1))=C_ q 0:=by
  have e:(2:Nat) ^ (n+1+1)=2 ^ (n+1)+2 ^ (n+1):=by rw [CI 2 (n+1)];omega
  rw [e,Gh,o];obtain ⟨f,B⟩:=em (a:=-1) (q:=(q:Int));obtain ⟨g,C⟩:=em (a:=0) (q:=(q:Int));refine Prod.ext ?_ ?_
  ·show ((-1) % (q:Int)*((-1) % (q:Int))+3*(0 % (q:Int)*(0 % (q:Int)))) % (q:Int)=1 % (q:Int);refine Fs (c:=2*f+q*f*f+3*q*g*g) ?_;rw [B,C];ext
  ·show ((-1) % (q:Int)*(0 % (q:Int))+0 % (q:Int)*((-1) % (q:Int))) % (q:Int)=0 % (q:Int);refine Fs (c:=2*g+2*q*f*g) ?_;rw [B,C];ext
 have ord:=rord (q:Int) u v
 have D:∀ i d,0<d->i+d<2 ^ (n+2)->C_ q i≠C_ q (i+d):=λi d d0 x z=>by
  have e:C_ q d=C_ q 0:=by
   have a:=Ol (q:Int) i
   have b:M_ q (ay q i) (C_ q (i+d))=C_ q d:=by
    rw [Gh,<-HQ,a,ax _ (Gf _ _)]
   rw [<-b,<-z,a]
  exact ord d d0 (by have:(2:Nat) ^ (n+1+1)=2 ^ (n+2):=rfl;omega) e
 have y:∀ i,0<=(C_ q i).1/\(C_ q i).1<q/\0<=(C_ q i).2/\(C_ q i).2<q:=λi=>by
  obtain ⟨a,b⟩:=Gf (q:Int) i;have E:(0:Int)<q:=by omega
  have F:=BS (C_ q i).1 k;have G:=BW (C_ q i).1 E;have H:=BS (C_ q i).2 k;have I:=BW (C_ q i).2 E;rw [a] at F G;rw [b] at H I;exact ⟨F,G,H,I⟩
 have pg:=aG (q*q) (2 ^ (n+2)) (λi=>(C_ q i).1.toNat*q+(C_ q i).2.toNat) (λi _=>by
  obtain ⟨a,b,c,d⟩:=y i;have J:(C_ q i).1.toNat+1<=q:=by omega
  have d':(C_ q i).2.toNat<q:=by omega
  have:=B8 q J;rw [Du,Nat.one_mul] at this;show (C_ q i).1.toNat*q+(C_ q i).2.toNat<q*q;omega) (λi j hi hj e=>by
  have e:(C_ q i).1.toNat*q+(C_ q i).2.toNat=(C_ q j).1.toNat*q+(C_ q j).2.toNat:=e;obtain ⟨a,b,c,d⟩:=y i;obtain ⟨J,b',c',d'⟩:=y j;have o:=congrArg (·% q) e;have K:=congrArg (·/ q) e;simp only [C3 _ q,Nat.mul_add_mod,Nat.mul_add_div (show 0<q by omega)] at o K;rw [Nat.mod_eq_of_lt ⋯,Nat.mod_eq_of_lt ⋯] at o;rw [Nat.div_eq_of_lt ⋯,Nat.div_eq_of_lt ⋯] at K;have L:C_ q i=C_ q j:=Prod.ext ⋯ ⋯;rcases Nat.lt_trichotomy i j with h | h | h
  ·exact absurd L (by have:=D i (j - i) ⋯ ⋯;rw [show i+(j - i)=j by omega] at this;exact this)
  ·exact h
  ·exact absurd L.symm (by have:=D j (i - j) ⋯ ⋯;rw [show j+(i - j)=i by omega] at this;exact this))
 omega
noncomputable def cr (M k s:Nat):Nat:=Nat.rec (motive:=λ_=>Nat->Nat) (λs=>s) (λ_ a s=>a ((s*s+(M - 2)) % M)) k s
noncomputable def cu (x:Nat) (f:Nat->Nat):Nat:=Nat.rec (motive:=λ_=>Nat) (f 0) (λn _=>f (n+1)) x
noncomputable def llo (M k j s:Nat):Nat:=Nat.rec (motive:=λ_=>Nat->Nat) (λs=>s) (λ_ a s=>cu (cr M k s) a) j s
theorem Lf (M:Nat):∀ k s,cr M k s=ll M k s
 | 0,_=>rfl
 | k+1,s=>Lf M k _
def On (x:Nat) (f:Nat->Nat):cu x f=f x:=by cases x <;> rfl
theorem Lg (M:Nat):∀ a b s,ll M (a+b) s=ll M b (ll M a s)
 | 0,b,s=>by rw [Nat.zero_add];rfl
 | a+1,b,s=>by rw [Nat.succ_add];exact Lg M a b _
theorem Oo (M k:Nat):∀ j s,llo M k j s=ll M (k*j) s
 | 0,_=>rfl
 | j+1,s=>by
   show cu (cr M k s) (llo M k j)=_;rw [On,Lf,Oo M k j,<-Lg];congr 1;rw [Nat.mul_succ,Nat.add_comm]
noncomputable def mers (e:Nat):Nat:=2 ^ e - 1
def Ft {n r k j:Nat} (e:n=k*j+r) (h:Nat.beq (cu (llo (mers (n+2)) k j 4) (λs=>cr (mers (n+2)) r s % mers (n+2))) 0=true):Pr (mers (n+2)):=by
 refine YW ?_;replace h:=Nat.eq_of_beq_eq_true h;rw [On,Oo,Lf,<-Lg,<-e] at h;exact h
def YX:Pr (mers 61):=Ft (n:=59) (r:=9) (k:=10) (j:=5) rfl (by decide +kernel)
def YY:Pr (mers 127):=Ft (n:=125) (r:=5) (k:=20) (j:=6) rfl (by decide +kernel)
def YZ:Pr (mers 521):=Ft (n:=519) (r:=19) (k:=50) (j:=10) rfl (by decide +kernel)
def Yb:Pr (mers 1279):=Ft (n:=1277) (r:=77) (k:=100) (j:=12) rfl (by decide +kernel)
def Yc:Pr (mers 4423):=Ft (n:=4421) (r:=21) (k:=100) (j:=44) rfl (by decide +kernel)
def Ye:Pr (mers 9941):=Ft (n:=9939) (r:=39) (k:=100) (j:=99) rfl (by decide +kernel)
def Yg:Pr (mers 21701):=Ft (n:=21699) (r:=99) (k:=150) (j:=144) rfl (by decide +kernel)
def Yi:Pr (mers 44497):=Ft (n:=44495) (r:=95) (k:=200) (j:=222) rfl (by decide +kernel)
noncomputable def co (ns:cP) (k:Nat):Int:=ns.getD k 0
section
variable {α:Type} [Lean.Grind.CommRing α]
noncomputable def A9:List α->List α->List α
 | [],b=>b
 | a,[]=>a
 | x::a,y::b=>(x+y)::A9 a b
def Li (a:List α):A9 a []=a:=by cases a <;> rfl
theorem Bq (g:Nat->α):∀ (a b:List α) (k:Nat),cvL (A9 a b) g k=cvL a g k+cvL b g k
 | [],b,k=>by show cvL b g k=0+cvL b g k;ext
 | x::a,[],k=>by rw [Li,Az];ext
 | x::a,y::b,0=>by show cvL ((x+y)::A9 a b) g 0=_;rw [Ap,Ap,Ap];ext
 | x::a,y::b,k+1=>by show cvL ((x+y)::A9 a b) g (k+1)=_;rw [Ak,Ak,Ak,Bq g a b k];ext
theorem BC (c:α) (g:Nat->α):∀ (a:List α) (k:Nat),cvL (a.map (c*·)) g k=c*cvL a g k
 | [],k=>by show (0:α)=c*0;ext
 | x::a,0=>by rw [List.map_cons,Ap,Ap];ext
 | x::a,k+1=>by rw [List.map_cons,Ak,Ak,BC c g a k];ext
noncomputable def Av (s:Nat) (f:Nat->α) (k:Nat):α:=if s<=k then f (k - s) else 0
theorem HR (g:Nat->α):∀ (s:Nat) (a:List α) (k:Nat),cvL (List.replicate s 0++a) g k=Av s (cvL a g) k
 | 0,a,k=>by unfold Av;rw [sC (Ai k)];rfl
 | s+1,a,0=>by unfold Av;rw [sB ⋯];show cvL (0::(List.replicate s 0++a)) g 0=0;rw [Ap];ext
 | s+1,a,k+1=>by
   show cvL (0::(List.replicate s 0++a)) g (k+1)=_;rw [Ak,HR g s a k];unfold Av;by_cases h:s<=k
   ·rw [sC h,sC ⋯,show k+1 - (s+1)=k - s by omega];ext
   ·rw [sB h,sB ⋯];ext
noncomputable def Bk:List α->List α->List α
 | [],_=>[]
 | x::a,b=>A9 (b.map (x*·)) (0::Bk a b)
theorem B7 (g:Nat->α):∀ (a b:List α) (k:Nat),cvL (Bk a b) g k=cvL a (cvL b g) k
 | [],b,k=>rfl
 | x::a,b,k=>by
   show cvL (A9 (b.map (x*·)) (0::Bk a b)) g k=_;rw [Bq,BC,FB,FB]
   have e:DI (cvL (Bk a b) g) k=DI (cvL a (cvL b g)) k:=by
    cases k with
    | zero=>rfl
    | succ k=>exact B7 g a b k
   rw [e];ext
theorem DZ (g:Nat->α) (s:α):∀ (a:List α) (k:Nat),cvL (a++[s]) g k=cvL a g k+s*Av a.length g k
 | [],0=>by show cvL [s] g 0=0+s*g 0;rw [Ap];ext
 | [],k+1=>by show cvL [s] g (k+1)=0+s*g (k+1);rw [Ak,Az];ext
 | x::a,0=>by show cvL (x::(a++[s])) g 0=_;rw [Ap,Ap];unfold Av;rw [sB (by simp)];ext
 | x::a,k+1=>by
   show cvL (x::(a++[s])) g (k+1)=_;rw [Ak,Ak,DZ g s a k]
   have e:Av (x::a).length g (k+1)=Av a.length g k:=by
    unfold Av;rw [Cf];by_cases h:a.length<=k
    ·rw [sC h,sC ⋯,show k+1 - (a.length+1)=k - a.length by omega]
    ·rw [sB h,sB ⋯]
   rw [e];ext
def Fu (a:List α) {g:Nat->α} (h:∀ k,g k=0) (k:Nat):cvL a g k=0:=by
 rw [A8 (c:=λk=>0*g k) (λj=>by rw [h j];ext) a k,Cj];ext
end
def Cr (a:cP) (k:Nat):co a k=cvL a Af k:=(Dk a k).symm
def B5 (a b:cP) (k:Nat):cvL a (co b) k=cvL b (co a) k:=by
 rw [A8 (Cr b) a k,HP,A8 (λj=>(Cr a j).symm) b k]
def Ae {a:cP} {k:Nat} (h:a.length<=k):co a k=0:=by
 unfold co;rw [AT,CC h];rfl
theorem EM {g:dh} {n:Nat} (h:∀ i,n<=i->g i=0):∀ (a:cP) (k:Nat),a.length+n<=k+1->cvL a g k=0
 | [],_,_=>rfl
 | x::a,0,hk=>by
   rw [Cf] at hk;rw [Ap,h 0 ⋯];omega
 | x::a,k+1,hk=>by
   rw [Cf] at hk;rw [Ak,h (k+1) ⋯,EM h a k ⋯];omega
theorem Lj {p:Int} {g:dh} {n:Nat} (h:∀ i,n<i->p∣g i):∀ (a:cP) (k:Nat),a.length+n<=k->p∣cvL a g k
 | [],_,_=>Co p
 | x::a,0,hk=>absurd hk (by rw [Cf];omega)
 | x::a,k+1,hk=>by
   rw [Cf] at hk;rw [Ak];exact Cn (FS (h (k+1) ⋯)) (Lj h a k ⋯)
theorem Jm {p:Nat} (hp:Pr p) {g:dh} {n:Nat} (q:¬ (p:Int)∣g n) (h:∀ i,n<i->(p:Int)∣g i) (S:cP) :
  (∀ k,n<=k->(p:Int)∣cvL S g k)->∀ s∈S,(p:Int)∣s:=by
 induction hl:S.length generalizing S with
 | zero=>intro _ s d;rw [CL.mp hl] at d;exact nomatch d
 | succ m r=>
   intro hk;have j:S≠[]:=λz=>by rw [z] at hl;simp at hl
   obtain ⟨T,t,rfl⟩:∃ T t,S=T++[t]:=⟨S.dropLast,S.getLast j,(HF j).symm⟩;have u:T.length=m:=by simpa using hl
   have o:(p:Int)∣t:=by
    have a:=hk (T.length+n) ⋯;rw [DZ] at a;have b:=Lj h T (T.length+n) (AU _)
    have c:(p:Int)∣t*Av T.length g (T.length+n):=by
     have:=Int.dvd_sub a b;rwa [show ∀ x y:Int,x+y - x=y by intro x y;omega] at this
    unfold Av at c;rw [sC ⋯,show T.length+n - T.length=n by omega] at c;rcases hp.mulI c with z | z
    ·exact z
    ·exact absurd z q
   have e:=r T u (λk f=>by
    have a:=hk k f;rw [DZ] at a;have:=Int.dvd_sub a (GH (c:=Av T.length g k) o);rwa [show ∀ x y:Int,x+y - y=x by intro x y;omega] at this)
   intro s d;rcases EC.mp d with h | h
   ·exact e s h
   ·rw [BA.mp h];exact o
def Lz (g:cP):Prop:=0<g.length/\co g (g.length - 1)≠0
def QI (r o f:dh):Prop:=∃ d:Int,d≠0/\∃ U V:cP,∀ k,d*f k=cvL U r k+cvL V o k
def MQ (g f:dh):Prop:=∃ c:Int,c≠0/\∃ A:cP,∀ k,c*f k=cvL A g k
def QI.congr {r o f h:dh} (q:QI r o f) (e:∀ k,h k=f k):QI r o h:=by
 obtain ⟨d,a,U,V,b⟩:=q;exact ⟨d,a,U,V,λk=>by rw [e k];exact b k⟩
theorem QI.left (r o:dh):QI r o r:=⟨1,∅,[1],[],λk=>by
 rw [Az];cases k with
 | zero=>rw [Ap];omega
 | succ k=>rw [Ak,Az];omega⟩
theorem QI.right (r o:dh):QI r o o:=⟨1,∅,[],[1],λk=>by
 rw [Az];cases k with
 | zero=>rw [Ap];omega
 | succ k=>rw [Ak,Az];omega⟩
def QI.less {r o f h:dh} (q:QI r o f) (i:QI r o h) (a w:Int) (s:Nat):QI r o (λk=>a*f k - w*Av s h k):=by
 obtain ⟨d,j,U,V,m⟩:=q;obtain ⟨c,e,n,p,g⟩:=i;refine ⟨d*c,Bg j e,A9 (U.map (c*a*·)) (List.replicate s 0++n.map (-(d*w)*·)),A9 (V.map (c*a*·)) (List.replicate s 0++p.map (-(d*w)*·)),λk=>?_⟩;show d*c*(a*f k - w*Av s h k)=_;rw [Bq,Bq,BC,BC,HR,HR];unfold Av;have u:=m k;by_cases b:s<=k
 ·rw [sC b,sC b,sC b,BC,BC];have v:=g (k - s);ext
 ·rw [sB b,sB b,sB b];ext
def QI.scal {r o f:dh} {c:Int} (a:c≠0) (q:QI r o (λk=>c*f k)):QI r o f:=by
 obtain ⟨d,b,U,V,e⟩:=q;exact ⟨d*c,Bg b a,U,V,λk=>by rw [<-e k];ext⟩
theorem MQ.refl (g:dh):MQ g g:=⟨1,∅,[1],λk=>by
 cases k with
 | zero=>rw [Ap];omega
 | succ k=>rw [Ak,Az];omega⟩
def MQ.zero (g:dh) {f:dh} (h:∀ k,f k=0):MQ g f:=⟨1,∅,[],λk=>by rw [Az,h k];rfl⟩
def MQ.congr {g f h:dh} (m:MQ g f) (e:∀ k,h k=f k):MQ g h:=by
 obtain ⟨c,a,A,b⟩:=m;exact ⟨c,a,A,λk=>by rw [e k];exact b k⟩
def MQ.less {g f h:dh} (m:MQ g f) (j:MQ g h) (a w:Int) (s:Nat):MQ g (λk=>a*f k - w*Av s h k):=by
 obtain ⟨d,n,U,o⟩:=m;obtain ⟨c,e,p,i⟩:=j;refine ⟨d*c,Bg n e,A9 (U.map (c*a*·)) (List.replicate s 0++p.map (-(d*w)*·)),λk=>?_⟩;show d*c*(a*f k - w*Av s h k)=_;rw [Bq,BC,HR];unfold Av;have q:=o k;by_cases b:s<=k
 ·rw [sC b,sC b,BC];have r:=i (k - s);ext
 ·rw [sB b,sB b];ext
def MQ.scal {g f:dh} {c:Int} (a:c≠0) (m:MQ g (λk=>c*f k)):MQ g f:=by
 obtain ⟨d,b,A,e⟩:=m;exact ⟨d*c,Bg b a,A,λk=>by rw [<-e k];ext⟩
def MQ.trans {g f h:dh} (m:MQ g f) (a:MQ f h):MQ g h:=by
 obtain ⟨c,b,A,i⟩:=m;obtain ⟨d,j,B,n⟩:=a;refine ⟨c*d,Bg b j,Bk B A,λk=>?_⟩;rw [B7];have e:c*cvL B f k=cvL B (cvL A g) k:=by rw [<-Cj];exact A8 i B k
 rw [<-e,<-n k];ext
def MQ.of_QI {r o f g:dh} (a:MQ g r) (b:MQ g o) (q:QI r o f):MQ g f:=by
 obtain ⟨d,h,U,V,i⟩:=q;obtain ⟨c,j,A,m⟩:=a;obtain ⟨e,n,B,p⟩:=b;refine ⟨c*e*d,Bg (Bg j n) h,A9 ((Bk U A).map (e*·)) ((Bk V B).map (c*·)),λk=>?_⟩;rw [Bq,BC,BC,B7,B7];have u:c*cvL U r k=cvL U (cvL A g) k:=by rw [<-Cj];exact A8 m U k
 have v:e*cvL V o k=cvL V (cvL B g) k:=by rw [<-Cj];exact A8 p V k
 have w:=i k;ext
def QI.of_MQ {r o f h:dh} (q:QI r o f) (m:MQ f h):QI r o h:=by
 obtain ⟨c,a,A,b⟩:=m;obtain ⟨d,g,U,V,i⟩:=q;refine ⟨d*c,Bg g a,Bk A U,Bk A V,λk=>?_⟩;rw [B7,B7];have e:d*cvL A f k=cvL A (cvL U r) k+cvL A (cvL V o) k:=by rw [<-Cj,<-Ge];exact A8 i A k
 rw [<-e,<-b k];ext
def Lk {f:cP} (h:co f (f.length - 1)=0) (k:Nat):co f.dropLast k=co f k:=by
 unfold co at *;rw [AT,AT];rw [List.getElem?_dropLast];by_cases hk:k<f.length - 1
 ·rw [sC hk]
 ·rw [sB hk];by_cases e:k=f.length - 1
  ·subst e;rw [AT] at h;rw [h];rfl
  ·rw [CC ⋯]
theorem D3 (f:cP):(∀ k,co f k=0)\/∃ g,Lz g/\g.length<=f.length/\∀ k,co g k=co f k:=by
 induction hn:f.length generalizing f with
 | zero=>exact .inl λk=>Ae ⋯
 | succ n a=>
   by_cases h:co f (f.length - 1)=0
   ·rcases a f.dropLast (by rw [List.length_dropLast];omega) with z | ⟨g,b,d,c⟩
    ·exact .inl λk=>by rw [<-Lk h];exact z k
    ·exact .inr ⟨g,b,⋯,λk=>by rw [c,Lk h]⟩
   ·exact .inr ⟨f,⟨⋯,h⟩,⋯,λ_=>rfl⟩
def Jn (n:Nat) (F:dh) (k:Nat):co ((List.range n).map F) k=if k<n then F k else 0:=by
 unfold co;rw [AT,Aj];by_cases h:k<n
 ·rw [sC h,DE h];rfl
 ·rw [sB h,CC (by rw [BK];omega)];rfl
structure Gen (r o:dh) (g:cP):Prop where
 lz:Lz g
 qi:QI r o (co g)
 len:∀ h,Lz h->QI r o (co h)->g.length<=h.length
 last:∀ h,Lz h->QI r o (co h)->h.length=g.length->(co g (g.length - 1)).natAbs<=(co h (h.length - 1)).natAbs
def Yj {r o:dh} {f:cP} (d:Lz f) (q:QI r o (co f)):∃ g,Gen r o g:=by
 have L:∀ n,(∃ f,f.length=n/\Lz f/\QI r o (co f))->∃ m,(∃ f,f.length=m/\Lz f/\QI r o (co f))/\∀ h,Lz h->QI r o (co h)->m<=h.length:=by
  intro n
  induction n using Nat.strongRecOn with
  | _ n e=>
    intro k;by_cases a:∃ m,m<n/\∃ f,f.length=m/\Lz f/\QI r o (co f)
    ·obtain ⟨m,i,a⟩:=a;exact e m i a
    ·refine ⟨n,k,λh b c=>?_⟩;rcases BF h.length n with z | z
     ·exact absurd ⟨h.length,z,h,rfl,b,c⟩ a
     ·exact z
 obtain ⟨m,⟨p,u,v,w⟩,i⟩:=L f.length ⟨f,rfl,d,q⟩
 have M:∀ n,(∃ f,f.length=m/\Lz f/\QI r o (co f)/\(co f (f.length - 1)).natAbs=n)->∃ g,Gen r o g:=by
  intro n
  induction n using Nat.strongRecOn with
  | _ n e=>
    rintro ⟨f,x,d,y,B⟩;by_cases a:∃ j,j<n/\∃ f,f.length=m/\Lz f/\QI r o (co f)/\(co f (f.length - 1)).natAbs=j
    ·obtain ⟨j,A,a⟩:=a;exact e j A a
    ·refine ⟨f,d,y,λh b c=>by rw [x];exact i h b c,λh b c C=>?_⟩;rcases BF (co h (h.length - 1)).natAbs (co f (f.length - 1)).natAbs with z | z
     ·exact absurd ⟨_,⋯,h,⋯,b,c,rfl⟩ a
     ·exact z
 exact M _ ⟨p,u,v,w,rfl⟩
theorem Gen.mq {r o:dh} {g:cP} (G:Gen r o g):∀ (n:Nat) (f:cP),f.length<=n->QI r o (co f)->MQ (co g) (co f)
 | 0,f,h,_=>MQ.zero _ λk=>Ae ⋯
 | n+1,f,h,q=>by
   rcases D3 f with z | ⟨b,u,A,i⟩
   ·exact MQ.zero _ z
   have j:QI r o (co b):=q.congr i;have B:=G.len b u j;refine MQ.congr (f:=co b) ?_ λk=>(i k).symm;generalize C:b.length - g.length=s;have D:=G.lz.1;let F:cP:=(List.range (b.length - 1)).map λk=>co g (g.length - 1)*co b k - co b (b.length - 1)*Av s (co g) k
   have p:∀ k,co F k=co g (g.length - 1)*co b k - co b (b.length - 1)*Av s (co g) k:=λk=>by
    rw [Jn];by_cases hk:k<b.length - 1
    ·rw [sC hk]
    ·rw [sB hk];unfold Av;by_cases e:k=b.length - 1
     ·rw [sC ⋯,e,show b.length - 1 - s=g.length - 1 by omega];ext
     ·rw [Ae (a:=b) ⋯];by_cases d:s<=k
      ·rw [sC d,Ae (a:=g) (k:=k - s) ⋯];omega
      ·rw [sB d];omega
   have v:QI r o (co F):=QI.congr (j.less G.qi (co g (g.length - 1)) (co b (b.length - 1)) s) p
   have w:F.length<=n:=by
    have:F.length=b.length - 1:=by show ((List.range (b.length - 1)).map _).length=_;rw [AL,BK]
    omega
   have m:=Gen.mq G n F w v;have x:=MQ.less (MQ.congr m λk=>(p k).symm) (MQ.refl (co g)) 1 (-(co b (b.length - 1))) s;refine MQ.scal (c:=co g (g.length - 1)) G.lz.2 (MQ.congr x λk=>?_);show _=1*_ - _*Av s (co g) k;generalize Av s (co g) k=y;ext
def Gen.prim {r o:dh} {g:cP} (G:Gen r o g) {p:Nat} (hp:2<=p):∃ n,¬ (p:Int)∣co g n/\∀ i,n<i->(p:Int)∣co g i:=by
 have b:∀ n,(∀ i,n<=i->(p:Int)∣co g i)->(∀ i,(p:Int)∣co g i)\/∃ n,¬ (p:Int)∣co g n/\∀ i,n<i->(p:Int)∣co g i:=by
  intro n
  induction n with
  | zero=>intro h;exact .inl λi=>h i (Ai i)
  | succ n v=>
    intro h;by_cases m:(p:Int)∣co g n
    ·exact v λi d=>by
      by_cases e:i=n
      ·rw [e];exact m
      ·exact h i ⋯
    ·exact .inr ⟨n,m,λi d=>h i ⋯⟩
 rcases b g.length (λi d=>by rw [Ae d];exact Co _) with h | h
 ·exfalso;let a:cP:=g.map (·/ (p:Int))
  have f:∀ k,(p:Int)*co a k=co g k:=λk=>by
   have:co a k=co g k / (p:Int):=by
    show (g.map (·/ (p:Int))).getD k 0=g.getD k 0 / (p:Int);rw [AT,AT,Aj];cases g[k]? with
    | none=>exact (Int.zero_ediv _).symm
    | some z=>rfl
   rw [this,GJ (h k)]
  have w:(p:Int)≠0:=by omega
  have Ck:a.length=g.length:=AL ..;have q:co a (a.length - 1)≠0:=λz=>G.lz.2 (by rw [<-f,<-Ck,z];omega);have x:Lz a:=⟨by rw [Ck];exact G.lz.1,q⟩;have y:QI r o (co a):=QI.scal (c:=(p:Int)) w (QI.congr G.qi f);have u:=G.last a x y Ck;have j:=f (g.length - 1);rw [<-Ck] at j;rw [Ck] at j u;rw [<-j,By,CN] at u;rw [Ck] at q;have A:0<(co a (g.length - 1)).natAbs:=by omega
  have:=B8 (co a (g.length - 1)).natAbs hp;omega
 ·exact h
def Gen.loc {r o:dh} {g:cP} (G:Gen r o g) {p:Nat} (hp:Pr p) {f:dh} (m:MQ (co g) f) :
  ∃ (c:Int) (A:cP),¬ (p:Int)∣c/\∀ k,c*f k=cvL A (co g) k:=by
 obtain ⟨n,v,w⟩:=G.prim hp.two;obtain ⟨c,x,A,b⟩:=m
 have i:∀ (m:Nat) (c:Int) (A:cP),c.natAbs<=m->c≠0->(∀ k,c*f k=cvL A (co g) k)->∃ (c:Int) (A:cP),¬ (p:Int)∣c/\∀ k,c*f k=cvL A (co g) k:=by
  intro m
  induction m with
  | zero=>intro c A h u;omega
  | succ m y=>
    intro c A h u b;by_cases j:(p:Int)∣c
    ·have B:∀ a∈A,(p:Int)∣a:=Jm hp v w A λk _=>by rw [<-b k];exact GH j
     obtain ⟨d,rfl⟩:=j;have C:=hp.two;have q:d≠0:=λz=>u (by rw [z];omega)
     have D:A=(A.map (·/ (p:Int))).map ((p:Int)*·):=by
      rw [List.map_map]
      conv=>lhs;rw [<-List.map_id A]
      refine FT λa E=>?_;show a=(p:Int)*(a / (p:Int));rw [GJ (B a E)]
     refine y d (A.map (·/ (p:Int))) ?_ q λk=>?_
     ·rw [By,CN] at h;have F:0<d.natAbs:=by omega
      have:=B8 d.natAbs C;omega
     ·have e:=b k;rw [D,BC,Int.mul_assoc] at e;exact Int.eq_of_mul_eq_mul_left ⋯ e
    ·exact ⟨c,A,j,b⟩
 exact i _ c A (AU _) x b
theorem Yk (a b:Nat):∃ x y:Int,x*a+y*b=(Nat.gcd a b:Int):=by
 induction a,b using Nat.gcd.induction with
 | H0 n=>exact ⟨0,1,by simp⟩
 | H1 m n d c=>
   obtain ⟨x,y,h⟩:=c;refine ⟨y - x*((n / m:Nat):Int),x,?_⟩;rw [Nat.gcd_rec,<-h]
   have e:(n:Int)=(m:Int)*((n / m:Nat):Int)+((n % m:Nat):Int):=by
    have:=Nat.div_add_mod n m;exact_mod_cast this.symm
   generalize ((n / m:Nat):Int)=q at *;generalize ((n % m:Nat):Int)=w at *;rw [e];ext
def Yl (a b:Int):∃ x y:Int,x*a+y*b=(Int.gcd a b:Int):=by
 obtain ⟨x,y,h⟩:=Yk a.natAbs b.natAbs
 have s:∀ z:Int,∃ e:Int,(z.natAbs:Int)=e*z:=λz=>by
  rcases Int.natAbs_eq z with h | h
  ·exact ⟨1,⋯⟩
  ·exact ⟨-1,⋯⟩
 obtain ⟨e,c⟩:=s a;obtain ⟨f,d⟩:=s b;refine ⟨x*e,y*f,?_⟩;show _=((Nat.gcd a.natAbs b.natAbs:Nat):Int);rw [<-h,c,d];ext
def Dm (p:Int) (g f:dh):Prop:=∃ S:cP,∀ k,p∣f k - cvL S g k
def Gen.dm {r o:dh} {g:cP} (G:Gen r o g) {p:Nat} (hp:Pr p) {f:dh} (m:MQ (co g) f):Dm (p:Int) (co g) f:=by
 obtain ⟨c,A,d,e⟩:=G.loc hp m
 have b:Int.gcd c (p:Int)=1:=by
  have:=hp.cop (a:=c.natAbs) λz=>d (C4.mp (by rw [CN];exact z));exact this
 obtain ⟨x,y,i⟩:∃ x y:Int,x*c+y*(p:Int)=1:=by
  obtain ⟨x,y,h⟩:=Yl c (p:Int);exact ⟨x,y,by rw [h,b];rfl⟩
 refine ⟨A.map (x*·),λk=>⟨f k*y,?_⟩⟩;rw [BC,<-e k];ext
def Dm.less {p:Int} {g f h:dh} (m:Dm p g f) (d:Dm p g h) (a w:Int) (s:Nat):Dm p g (λk=>a*f k - w*Av s h k):=by
 obtain ⟨S,e⟩:=m;obtain ⟨i,c⟩:=d;refine ⟨A9 (S.map (a*·)) (List.replicate s 0++i.map (-w*·)),λk=>?_⟩;show p∣a*f k - w*Av s h k - _;rw [Bq,BC,HR];unfold Av;obtain ⟨x,j⟩:=e k;by_cases b:s<=k
 ·rw [sC b,sC b,BC];obtain ⟨y,n⟩:=c (k - s);exact ⟨a*x - w*y,()⟩
 ·rw [sB b,sB b];exact ⟨a*x,()⟩
def Dm.congr {p:Int} {g f h:dh} (m:Dm p g f) (e:∀ k,p∣h k - f k):Dm p g h:=by
 obtain ⟨S,a⟩:=m;exact ⟨S,λk=>by have:=Cn (e k) (a k);rwa [show ∀ x y z:Int,x - y+(y - z)=x - z by intro x y z;omega] at this⟩
def Dm.zero (p:Int) (g:dh) {f:dh} (h:∀ k,p∣f k):Dm p g f:=⟨[],λk=>by rw [Az];simpa using h k⟩
def Gen.lead {r o:dh} {g R:cP} (G:Gen r o g) {p:Nat} (hp:Pr p) (D:Lz R) (m:MQ (co g) (co R)) (h:¬ (p:Int)∣co R (R.length - 1)):¬ (p:Int)∣co g (g.length - 1):=by
 intro E;obtain ⟨n,b,F⟩:=G.prim hp.two;obtain ⟨c,A,d,f⟩:=G.loc hp m
 have M:n+1<g.length:=by
  rcases BF n g.length with z | z
  ·rcases BF (n+1) g.length with y | y
   ·exact y
   ·exact absurd E (by rw [show g.length - 1=n by omega];exact b)
  ·exact absurd (by rw [Ae z];exact Co _) b
 rcases D3 A with z | ⟨B,q,_,H⟩
 ·have:c*co R (R.length - 1)=0:=by
   rw [f,B5,Fu g z]
  rcases Int.mul_eq_zero.mp this with e | e
  ·exact d (by rw [e];exact Co _)
  ·exact D.2 e
 ·have u:∀ k,c*co R k=cvL B (co g) k:=λk=>by rw [f,B5,A8 (λj=>(H j).symm) g k,<-B5]
  have N:B.length+g.length<=R.length+1:=by
   rcases BF (R.length+1) (B.length+g.length) with z | z
   ·exfalso;have v:=q.1;have O:=G.lz.1;have e:=u (B.length - 1+(g.length - 1));rw [Ae ⋯] at e;have w:B≠[]:=λz=>by rw [z] at v;simp at v
    obtain ⟨T,t,a⟩:∃ T t,B=T++[t]:=⟨B.dropLast,B.getLast w,(HF w).symm⟩;have I:T.length=B.length - 1:=by rw [a];simp
    have J:co B (B.length - 1)=t:=by rw [<-I,a];unfold co;simp [AT]
    rw [a,DZ,<-a,EM (n:=g.length) (λi K=>Ae K) T _ ⋯] at e;unfold Av at e;rw [sC ⋯,show B.length - 1+(g.length - 1) - T.length=g.length - 1 by omega] at e;have L:t*co g (g.length - 1)=0:=by omega
    rcases Int.mul_eq_zero.mp L with x | x
    ·exact q.2 (J.trans x)
    ·exact G.lz.2 x
   ·exact z
  have C:=Lj F B (R.length - 1) ⋯;rw [<-u] at C;rcases hp.mulI C with x | x
  ·exact d x
  ·exact h x
def Dm.len {p:Nat} (hp:Pr p) {g f:cP} (o:0<g.length) (b:¬ (p:Int)∣co g (g.length - 1)) (d:Dm (p:Int) (co g) (co f)) (j:∃ k,¬ (p:Int)∣co f k):g.length<=f.length:=by
 rcases BF f.length g.length with z | z
 ·exfalso;obtain ⟨S,a⟩:=d
  have sS:=Jm hp b (λi q=>by rw [Ae ⋯];exact Co _) S λk hk=>by
   have:=a k;rw [Ae ⋯] at this;have e:=Int.dvd_neg.mpr this;rwa [show ∀ x:Int,-(0 - x)=x by intro x;omega] at e
  obtain ⟨k,hk⟩:=j;apply hk
  have c:∀ (S:cP),(∀ s∈S,(p:Int)∣s)->∀ k,(p:Int)∣cvL S (co g) k:=by
   intro S
   induction S with
   | nil=>intro _ k;exact Co _
   | cons x S m=>
     intro h k;rw [FB];refine Cn (GH (h x (CH ..))) ?_;cases k with
     | zero=>exact Co _
     | succ k=>exact m (λs n=>h s (Ca _ n)) k
  have:=Cn (a k) (c S sS k);rwa [Int.sub_add_cancel] at this
 ·exact z
structure RC (r o:dh) (g:cP):Prop where
 lz:Lz g
 left:MQ (co g) r
 right:MQ (co g) o
 qi:QI r o (co g)
def Gen.rc {R O g:cP} (G:Gen (co R) (co O) g):RC (co R) (co O) g:=
 ⟨G.lz,G.mq _ R (AU _) (QI.left _ _),G.mq _ O (AU _) (QI.right _ _),G.qi⟩
def Ym {r o:dh} {g h:cP} (G:RC r o g) (b:Lz h) (f:MQ (co h) r) (m:MQ (co h) o) (J:g.length<=h.length):RC r o h:=by
 refine ⟨b,f,m,G.qi.of_MQ ?_⟩;obtain ⟨d,A,T,p⟩:=MQ.of_QI f m G.qi;rcases D3 T with z | ⟨B,c,_,C⟩
 ·exfalso;have:d*co g (g.length - 1)=0:=by rw [p,B5,Fu h z]
  rcases Int.mul_eq_zero.mp this with e | e
  ·exact A e
  ·exact G.lz.2 e
 ·have q:∀ k,d*co g k=cvL B (co h) k:=λk=>by rw [p,B5,A8 (λj=>(C j).symm) h k,<-B5]
  have u:=c.1;have K:=b.1;have v:B≠[]:=λz=>by rw [z] at u;simp at u
  obtain ⟨X,t,a⟩:∃ X t,B=X++[t]:=⟨B.dropLast,B.getLast v,(HF v).symm⟩;have D:X.length=B.length - 1:=by rw [a];simp
  have w:co B (B.length - 1)=t:=by rw [<-D,a];unfold co;simp [AT]
  have one:B.length=1:=by
   rcases BF 1 B.length with y | y
   ·exfalso;have e:=q (B.length - 1+(h.length - 1));rw [Ae ⋯,a,DZ,<-a,EM (n:=h.length) (λi E=>Ae E) X _ ⋯] at e;unfold Av at e;rw [sC ⋯,show B.length - 1+(h.length - 1) - X.length=h.length - 1 by omega] at e;have F:t*co h (h.length - 1)=0:=by omega
    rcases Int.mul_eq_zero.mp F with x | x
    ·exact c.2 (w.trans x)
    ·exact b.2 x
   ·omega
  have H:X=[]:=CL.mp ⋯;have I:t≠0:=λz=>c.2 (w.trans z);refine ⟨t,I,[d],λk=>?_⟩;have e:=q k;rw [a,H] at e;cases k with
  | zero=>rw [Ap];rw [show ([]++[t]:cP)=[t] from rfl,Ap] at e;omega
  | succ k=>rw [Ak,Az];rw [show ([]++[t]:cP)=[t] from rfl,Ak,Az] at e;omega
def Prim (g:cP):Prop:=∀ c:Int,(∀ k,c∣co g k)->c.natAbs=1
def Prim.top {g:cP} (P:Prim g) {p:Nat} (hp:2<=p):∃ n,¬ (p:Int)∣co g n/\∀ i,n<i->(p:Int)∣co g i:=by
 have a:∀ n,(∀ i,n<=i->(p:Int)∣co g i)->(∀ i,(p:Int)∣co g i)\/∃ n,¬ (p:Int)∣co g n/\∀ i,n<i->(p:Int)∣co g i:=by
  intro n
  induction n with
  | zero=>intro h;exact .inl λi=>h i (Ai i)
  | succ n d=>
    intro h;by_cases c:(p:Int)∣co g n
    ·exact d λi b=>by
      by_cases e:i=n
      ·rw [e];exact c
      ·exact h i ⋯
    ·exact .inr ⟨n,c,λi b=>h i ⋯⟩
 rcases a g.length (λi b=>by rw [Ae b];exact Co _) with h | h
 ·have:=P (p:Int) h;omega
 ·exact h
def O' {g:cP} (P:Prim g) {f:dh} (m:MQ (co g) f):∃ A:cP,∀ k,f k=cvL A (co g) k:=by
 obtain ⟨c,u,A,b⟩:=m
 have i:∀ (m:Nat) (c:Int) (A:cP),c.natAbs<=m->c≠0->(∀ k,c*f k=cvL A (co g) k)->∃ A:cP,∀ k,f k=cvL A (co g) k:=by
  intro m
  induction m with
  | zero=>intro c A h o;omega
  | succ m v=>
    intro c A h o b;by_cases q:c.natAbs=1
    ·rcases Int.natAbs_eq c with e | e
     ·exact ⟨A,λk=>by rw [<-b k,e,q];omega⟩
     ·exact ⟨A.map (-1*·),λk=>by rw [BC,<-b k,e,q];omega⟩
    ·obtain ⟨p,hp,w,_⟩:=Oj (m:=c.natAbs) ⋯;have r:(p:Int)∣c:=C4.mp (by rw [CN];exact w);obtain ⟨n,x,y⟩:=P.top hp.two;have B:∀ a∈A,(p:Int)∣a:=Jm hp x y A λk _=>by rw [<-b k];exact GH r
     obtain ⟨d,rfl⟩:=r;have C:=hp.two;have j:d≠0:=λz=>o (by rw [z];omega)
     have D:A=(A.map (·/ (p:Int))).map ((p:Int)*·):=by
      rw [List.map_map]
      conv=>lhs;rw [<-List.map_id A]
      refine FT λa E=>?_;show a=(p:Int)*(a / (p:Int));rw [GJ (B a E)]
     refine v d (A.map (·/ (p:Int))) ?_ j λk=>?_
     ·rw [By,CN] at h;have F:0<d.natAbs:=by omega
      have:=B8 d.natAbs C;omega
     ·have e:=b k;rw [D,BC,Int.mul_assoc] at e;exact Int.eq_of_mul_eq_mul_left ⋯ e
 exact i _ c A (AU _) u b
noncomputable def evI:cP->Int->Int
 | [],_=>0
 | a::l,x=>a+x*evI l x
theorem Jo:∀ (l:cP) (x:Int),(∀ k,co l k=0)->evI l x=0
 | [],_,_=>rfl
 | a::l,x,h=>by
   have b:a=0:=h 0;show a+x*evI l x=0;rw [b,Jo l x λk=>h (k+1)];omega
theorem Ll:∀ (a b:cP) (x:Int),(∀ k,co a k=co b k)->evI a x=evI b x
 | [],b,x,h=>(Jo b x λk=>(h k).symm).symm
 | a::l,[],x,h=>Jo (a::l) x h
 | a::l,b::m,x,h=>by
   have c:a=b:=h 0;show a+x*evI l x=b+x*evI m x;rw [c,Ll l m x λk=>h (k+1)]
theorem Op:∀ (a b:cP) (x:Int),evI (A9 a b) x=evI a x+evI b x
 | [],b,x=>by show evI b x=0+evI b x;omega
 | a::l,[],x=>by rw [Li];show _=_+0;omega
 | a::l,b::m,x=>by
   show (a+b)+x*evI (A9 l m) x=a+x*evI l x+(b+x*evI m x);rw [Op l m x];ext
theorem Oq (c:Int):∀ (a:cP) (x:Int),evI (a.map (c*·)) x=c*evI a x
 | [],x=>by show (0:Int)=c*0;omega
 | a::l,x=>by
   show c*a+x*evI (l.map (c*·)) x=c*(a+x*evI l x);rw [Oq c l x];ext
theorem Os:∀ (a b:cP) (x:Int),evI (Bk a b) x=evI a x*evI b x
 | [],b,x=>by show (0:Int)=0*_;omega
 | a::l,b,x=>by
   show evI (A9 (b.map (a*·)) (0::Bk l b)) x=(a+x*evI l x)*evI b x;rw [Op,Oq];show a*evI b x+(0+x*evI (Bk l b) x)=_;rw [Os l b x];ext
def IW (a b:cP) (k:Nat):co (Bk a b) k=cvL a (co b) k:=by
 rw [Cr,B7];exact A8 (λj=>(Cr b j).symm) a k
def Yn {r a g:cP} (h:∀ k,co r k=cvL a (co g) k) (x:Int):evI r x=evI a x*evI g x:=by
 rw [<-Os];exact Ll r (Bk a g) x λk=>by rw [IW];exact h k
theorem Ot {b c:Nat} {x:Int} (d:Bd c x):∀ (l:cP),(∀ z∈l,Bd b z)->Bd (b+l.length*(c+1)) (evI l x)
 | [],_=>Ci _
 | a::l,f=>by
   show Bd _ (a+x*evI l x);have g:=f a (CH ..);have h:=d.mul (Ot d l λz i=>f z (Ca _ i));have e:(l.length+1)*(c+1)=l.length*(c+1)+(c+1):=by rw [Du,Nat.one_mul]
   refine ((g.mono (n:=c+(b+l.length*(c+1))) ⋯).add h).mono ?_;rw [Cf,e];omega
noncomputable def V_:cP->Int->cP
 | [],_=>[]
 | _::l,t=>evI l t::V_ l t
theorem Jp:∀ (l:cP) (t:Int),(V_ l t).length=l.length
 | [],_=>rfl
 | _::l,t=>congrArg (·+1) (Jp l t)
theorem Ln:∀ (l:cP) (t x:Int),evI l x - evI l t=(x - t)*evI (V_ l t) x
 | [],t,x=>by show (0:Int) - 0=_*0;omega
 | a::l,t,x=>by
   show a+x*evI l x - (a+t*evI l t)=(x - t)*(evI l t+x*evI (V_ l t) x);have:=Ln l t x;ext
theorem Jq:∀ (l:cP) (t:Int) (k:Nat),co l k=(if k=0 then evI l t else co (V_ l t) (k - 1)) - t*co (V_ l t) k
 | [],t,k=>by
   rw [show co (V_ [] t) k=0 from Ae (Ai _),show co (V_ [] t) (k - 1)=0 from Ae (Ai _),Ae (Ai _)];show 0=(if k=0 then 0 else 0) - _;split <;> omega
 | a::l,t,0=>by
   show a=a+t*evI l t - t*evI l t;omega
 | a::l,t,k+1=>by
   have:=Jq l t k;show co l k=(if k+1=0 then _ else co (evI l t::V_ l t) (k+1 - 1)) - t*co (V_ l t) k;rw [sB ⋯,this];cases k with
   | zero=>rfl
   | succ k=>rw [sB ⋯];rfl
theorem Yo (l:cP) (t:Int):co (V_ l t) (l.length - 1)=0:=by
 induction l with
 | nil=>exact Ae (Ai _)
 | cons a l b=>
   show co (evI l t::V_ l t) l.length=0;cases h:l.length with
   | zero=>rw [CL.mp h];rfl
   | succ m=>rw [h] at b;exact b
theorem aI {c:Nat}:∀ (d:Nat) (l:cP) (y:Nat) (x:dh),(∀ k,d<k->co l k=0)->(∀ i,i<=d->Bd c (x i))->(∀ i j,i<=d->j<=d->i≠j->x i≠x j)->(∀ i,i<=d->Bd y (evI l (x i)))->∀ k,Bd (y+d*(c+3)) (co l k)
 | 0,l,y,x,m,_,_,f,k=>by
   cases k with
   | zero=>
     have e:evI l (x 0)=co l 0:=by
      cases l with
      | nil=>rfl
      | cons a l=>
        show a+x 0*evI l (x 0)=a;rw [Jo l (x 0) λk=>m (k+1) ⋯];omega
     have:=f 0 (AU 0);rw [e] at this;exact this.mono ⋯
   | succ k=>rw [m (k+1) ⋯];exact Ci _
 | d+1,l,y,x,m,q,r,f,k=>by
   have v:∀ j,d<j->co (V_ l (x (d+1))) j=0:=by
    have g:∀ n,∀ j,d<j->l.length<=j+n->co (V_ l (x (d+1))) j=0:=by
     intro n
     induction n with
     | zero=>intro j _ h;exact Ae (by rw [Jp];omega)
     | succ n o=>
       intro j p h;have e:=Jq l (x (d+1)) (j+1);rw [m (j+1) ⋯,sB ⋯,o (j+1) ⋯ ⋯] at e;rw [show j+1 - 1=j by omega] at e;omega
    intro j p;exact g l.length j p ⋯
   have o:=aI d (V_ l (x (d+1))) (y+1) x v (λi u=>q i ⋯) (λi j u p=>r i j ⋯ ⋯) (λi u=>by
    have e:=Ln l (x (d+1)) (x i);have C:x i - x (d+1)≠0:=λz=>r i (d+1) ⋯ ⋯ ⋯ ⋯;have b:=(f i ⋯).sub (f (d+1) ⋯);rw [e] at b;refine b.le ?_;rw [By];exact Nat.le_mul_of_pos_left _ ⋯)
   have e:=Jq l (x (d+1)) k;rw [e];have w:=q (d+1) (AU _);have A:=w.mul (o k);have em:(d+1)*(c+3)=d*(c+3)+(c+3):=by rw [Du,Nat.one_mul]
   have B:Bd (c+(y+1+d*(c+3))) (if k=0 then evI l (x (d+1)) else co (V_ l (x (d+1))) (k - 1)):=by
    split
    ·exact (f (d+1) (AU _)).mono ⋯
    ·exact (o (k - 1)).mono ⋯
   exact (B.sub A).mono ⋯
end Bs
namespace Bs
open PySem L2
def isN (H:Hp) (v:V) (q:Nu):Prop:=∃ p,v=.ref p/\H p=some (.tup [.int q.1,.int q.2])
noncomputable def Nums (H:Hp):cN->cJ->Prop
 | [],[]=>True
 | x::a,q::l=>isN H x q/\Nums H a l
 | _,_=>False
def Tp (H c:Hp):Prop:=∀ b a,H b=some (.tup a)->c b=some (.tup a)
def D_ {H a:Hp} (s:Same H a):Tp H a:=λb c h=>s b _ h
def Kp.tp {p:Addr} {H a:Hp} {xs:cN} (k:Kp p H a) (h:H p=some (.lst xs)):Tp H a:=λb c q=>k b _ (NP q h (by intro z;cases z)) q
def Tp.updL {p:Addr} {H:Hp} {xs a:cN} (h:H p=some (.lst xs)):Tp H (upd H p (.lst a)):=Kp.tp Kp.upd h
def isN.tp {H a:Hp} {v:V} {q:Nu} (h:isN H v q) (t:Tp H a):isN a v q:=let ⟨p,e,z⟩:=h;⟨p,e,t _ _ z⟩
theorem Nums.tp {H a:Hp} (t:Tp H a):∀ {xs:cN} {l:cJ},Nums H xs l->Nums a xs l
 | [],[],_=>trivial
 | _::_,_::_,h=>⟨h.1.tp t,Nums.tp t h.2⟩
 | [],_::_,h=>h.elim
 | _::_,[],h=>h.elim
theorem Nums.length {H:Hp}:∀ {xs:cN} {l:cJ},Nums H xs l->xs.length=l.length
 | [],[],_=>rfl
 | _::_,_::_,h=>congrArg (·+1) (Nums.length h.2)
 | [],_::_,h=>h.elim
 | _::_,[],h=>h.elim
theorem Nums.get {H:Hp}:∀ {xs:cN} {l:cJ} {i:Nat} {v:V},Nums H xs l->xs[i]?=some v->∃ q,l[i]?=some q/\isN H v q
 | [],[],_,_,_,e=>by simp at e
 | _::_,q::_,0,_,h,e=>by simp at e;subst e;exact ⟨q,rfl,h.1⟩
 | _::_,_::_,i+1,_,h,e=>by
   obtain ⟨q,a,b⟩:=Nums.get (i:=i) h.2 (by simpa using e);exact ⟨q,by simpa using a,b⟩
 | [],_::_,_,_,h,_=>h.elim
 | _::_,[],_,_,h,_=>h.elim
def Nums.at {H:Hp} {xs:cN} {l:cJ} {i:Nat} (h:Nums H xs l) (b:i<l.length) (d:Nu):∃ v,xs[i]?=some v/\isN H v (l.getD i d):=by
 have a:i<xs.length:=by rw [h.length];exact b
 obtain ⟨q,c,e⟩:=h.get (Aw a);refine ⟨_,Aw a,?_⟩;rw [AT,c];exact e
theorem Nums.append {H:Hp}:∀ {xs a:cN} {l m:cJ},Nums H xs l->Nums H a m->Nums H (xs++a) (l++m)
 | [],_,[],_,_,h=>h
 | _::_,_,_::_,_,h,b=>⟨h.1,Nums.append h.2 b⟩
 | [],_,_::_,_,h,_=>h.elim
 | _::_,_,[],_,h,_=>h.elim
def Nums.one {H:Hp} {v:V} {q:Nu} (h:isN H v q):Nums H [v] [q]:=⟨h,trivial⟩
theorem Nums.take {H:Hp}:∀ {xs:cN} {l:cJ} (n:Nat),Nums H xs l->Nums H (xs.take n) (l.take n)
 | [],[],n,_=>by simp [Nums]
 | _::_,_::_,0,_=>trivial
 | _::_,_::_,n+1,h=>⟨h.1,Nums.take n h.2⟩
 | [],_::_,_,h=>h.elim
 | _::_,[],_,h=>h.elim
theorem Nums.set {H:Hp} {v:V} {q:Nu} (a:isN H v q):∀ {xs:cN} {l:cJ} (i:Nat),Nums H xs l->Nums H (xs.set i v) (l.set i q)
 | [],[],_,_=>trivial
 | _::_,_::_,0,h=>⟨a,h.2⟩
 | _::_,_::_,i+1,h=>⟨h.1,Nums.set a i h.2⟩
 | [],_::_,_,h=>h.elim
 | _::_,[],_,h=>h.elim
theorem Nums.rep {H:Hp} {v:V} {q:Nu} (a:isN H v q):∀ n:Nat,Nums H (List.replicate n v) (List.replicate n q)
 | 0=>trivial
 | n+1=>⟨a,Nums.rep a n⟩
theorem IZ {a:Type} (v:a):∀ n:Nat,(List.replicate n [v]).flatten=List.replicate n v
 | 0=>rfl
 | n+1=>by rw [ED,List.flatten_cons,IZ v n];rfl
def DJ {a:Type} {xs:List a} {i:Int} {j:Nat} {v:a} (e:i=(j:Int)) (h:xs[j]?=some v):L_ xs i=some v:=by subst e;exact JU h
def Fw {H:Hp} {p:Addr} {q:Nu}:isN (upd H p (.tup [.int q.1,.int q.2])) (.ref p) q:=⟨p,rfl,upd_same⟩
def Lo {xs:cN} {m:Nat} (h:m<=xs.length):BU xs none (some (m:Int))=xs.take m:=by
 unfold BU HT.sIx;simp only [List.drop_zero,Nat.sub_zero,DF];rw [sB ⋯,Nat.min_eq_left h]
def FC (H:Hp) (Q:VK) (l:cJ):Prop:=∀ (r:Addr) (b:cN) (a:Hp),Same H a->a r=some (.tup b)->Nums a b l->Q (.ref r) a
noncomputable def Cl (q:Nu):W.Dat:=.tuple [.int q.1,.int q.2]
noncomputable def EN (l:cJ):W.Dat:=.tuple (l.map Cl)
def Ia {H:Hp} {v:V} {q:Nu} (h:isN H v q):RepD H v (Cl q):=by
 obtain ⟨p,rfl,hp⟩:=h;exact .tup hp (.cons (.int _) (.cons (.int _) .nil))
theorem Ou {H:Hp}:∀ {xs:cN} {l:cJ},Nums H xs l->RepA H xs (l.map Cl)
 | [],[],_=>.nil
 | _::_,_::_,h=>.cons (Ia h.1) (Ou h.2)
 | [],_::_,h=>h.elim
 | _::_,[],h=>h.elim
def Fx {H:Hp} {p:Addr} {xs:cN} {l:cJ} (hp:H p=some (.tup xs)) (h:Nums H xs l):RepD H (.ref p) (EN l):=.tup hp (Ou h)
def bU (q:Nu) (n:Nat):W.kqdOk (n+1) (Cl q)=true:=by simp [Cl,W.kqdOk]
def a_ (l:cJ) (n:Nat):W.kqdOk (n+2) (EN l)=true:=by
 simp only [EN,W.kqdOk,List.all_map,List.all_eq_true,Function.comp];intro q _;exact bU q n
section
variable {σ:L2.St} {H:Hp} {Q:VK} {D:Ends} {rest:TS} {sp:Sp} {E:XK}
def AZ {i:Nat} {v:V} (a:σ[i]?=some (some v)) (h:Q v H):AA i σ H Q:=⟨v,a,h⟩
def Bm {i:Nat} {k:Int} {a:Addr} {xs:cN} {v:V} (b:σ[i]?=some (some (.ref a))) (c:H a=some (.tup xs)) (d:L_ xs k=some v) (h:Q v H):A_ gT (AA i) (tC (.int k)) σ H Q:=⟨_,b,a,k,xs,v,rfl,rfl,c,d,h⟩
def FD {i:Nat} {k:Int} {a:Addr} {xs:cN} {v:V} (b:σ[i]?=some (some (.ref a))) (c:H a=some (.lst xs)) (d:L_ xs k=some v) (h:Q v H):A_ gL (AA i) (tC (.int k)) σ H Q:=⟨_,b,a,k,xs,v,rfl,rfl,c,d,h⟩
def Lp {a:TE} {k:Nat} (h:a σ H λx b=>sp [x] b (λv c=>rest D (σ.set k (some v)) c) E):AI (AQ (AF sp [] E (AB a AC)) (AH k)) rest D σ H:=h
def Ef {a b:TE} {k:Nat} (h:a σ H λx c=>b σ c λy d=>sp [x,y] d (λv e=>rest D (σ.set k (some v)) e) E):AI (AQ (AF sp [] E (AB a (AB b AC))) (AH k)) rest D σ H:=h
def BL {a:TE} (h:a σ H λx b=>sp [x] b Q E):AF sp [] E (AB a AC) σ H Q:=h
def Ag {a b:TE} (h:a σ H λx c=>b σ c λy d=>sp [x,y] d Q E):AF sp [] E (AB a (AB b AC)) σ H Q:=h
def Yp {a b tc:TE} (h:a σ H λx c=>b σ c λy d=>tc σ d λz e=>sp [x,y,z] e Q E):AF sp [] E (AB a (AB b (AB tc AC))) σ H Q:=h
def Bb {a:TE} {k:Nat} (h:a σ H λx b=>rest D (σ.set k (some x)) b):AI (AQ a (AH k)) rest D σ H:=h
def DK {a:TE} (h:a σ H D.rt):Ab a D σ H:=h
def Ow {a:TE} (h:a σ H λx b=>[x].length<=sizeLine/\∀ p,b p=none->Q (.ref p) (upd b p (.tup [x]))):A6 (AB a AC) σ H Q:=h
def Ct {a b:TE} (h:a σ H λx d=>b σ d λy c=>[x,y].length<=sizeLine/\∀ p,c p=none->Q (.ref p) (upd c p (.tup [x,y]))):A6 (AB a (AB b AC)) σ H Q:=h
def Ox {a b tc:TE} (h:a σ H λx d=>b σ d λy e=>tc σ e λz c=>[x,y,z].length<=sizeLine/\∀ p,c p=none->Q (.ref p) (upd c p (.tup [x,y,z]))):A6 (AB a (AB b (AB tc AC))) σ H Q:=h
def Lq {a:TE} (h:a σ H λx b=>[x].length<=sizeLine/\∀ p,b p=none->Q (.ref p) (upd b p (.lst [x]))):BQ (AB a AC) σ H Q:=h
def S_ {v:V} (h:Q v H):tC v σ H Q:=h
def CU {r:R2} {a b:TE} (h:a σ H λx c=>b σ c λy d=>r x y d Q):A_ r a b σ H Q:=h
def Yq {k:Int} {a:Addr} {xs:cN} {v:V} (b:H a=some (.tup xs)) (c:L_ xs k=some v) (h:Q v H):gT (.ref a) (.int k) H Q:=⟨a,k,xs,v,rfl,rfl,b,c,h⟩
def Oy {b:cN->Hp->VK->Prop} {a:TE} (h:a σ H λx c=>b [x] c Q):K_ b (AB a AC) σ H Q:=h
def Oz {a:TA} {g:TG} {b:TS} (h:a σ H (λc d=>∃ i j:Int,c=[.int i,.int j,.int (-1)]/\(-(2 ^ 62)<=i/\i<2 ^ 62/\-(2 ^ 62)<=j/\j<2 ^ 62)/\ForJ (bR i (i - j).toNat) g b { D with nx:=rest D } σ d)):AI (Bz (IS a) g b) rest D σ H:=h
def Lr {a:TE} {g:TG} (h:a σ H λx b=>g x σ b (rest D)):AI (AQ a g) rest D σ H:=h
def Yr {c d tc e f:TE} (h:c σ H λx g=>d σ g λy i=>tc σ i λz j=>e σ j λa k=>f σ k λb m=>sp [x,y,z,a,b] m Q E):AF sp [] E (AB c (AB d (AB tc (AB e (AB f AC))))) σ H Q:=h
def Jr {i:Nat} {v:V} {σ:L2.St} {H:Hp} {Q:L2.St->Hp->Prop} (h:Q (σ.set i (some v)) H):AH i v σ H Q:=h
def O0 {K:W.Frag} {b:TE} {capt:List (Option Nat)} {g:TG} {c:TE} {σ:L2.St} {H:Hp} {Q:VK} (h:b σ H (λx d=>∃ a,x=.ref a/\(∃ e,SqL K d a e)/\CompJ (ap K a) capt g c σ Q d)):B3 (CW K b) capt g c σ H Q:=h
def Gi {a:TE} {k:Nat} {D:Ends} {σ:L2.St} {H:Hp} (h:a σ H λx b=>D.nx (σ.set k (some x)) b):AQ a (AH k) D σ H:=h
def FE {c:TT} {t u:TS} (h:c σ H λb a=>if b=true then t { D with nx:=rest D } σ a else u { D with nx:=rest D } σ a):AI (BO c t u) rest D σ H:=h
def Eg {a:TE} {Q:Bool->Hp->Prop} (h:a σ H λx b=>∃ k,x=.bl k/\Q k b):Ax a σ H Q:=h
def Ck {x:V}:[x].length<=sizeLine:=by show 1<=_;exact sz ∅
def Bu {x y:V}:[x,y].length<=sizeLine:=by show 2<=_;exact sz ∅
def Js {x y z:V}:[x,y,z].length<=sizeLine:=by show 3<=_;exact sz ∅
theorem Ls {H:Hp} {a x y:Addr} {A X Y:HO} {P:Hp->Prop} (i:H a=none) (j:upd H a A x=none) (d:upd (upd H a A) x X y=none) (k:∀ b,b a=some A->b y=some Y->Same H b->a≠y->H y=none->P b):P (upd (upd (upd H a A) x X) y Y):=by
 have f:=AO i A;have c:=AO j X;have g:=AO d Y;refine k _ (g _ _ (c _ _ upd_same)) upd_same (λz o h=>g z o (c z o (f z o h))) (B6 (c _ _ upd_same) d) ?_;cases e:H y with
 | none=>rfl
 | some o=>have:=c _ _ (f _ _ e);rw [d] at this;cases this
def Ys {e H:Hp} {t w:Addr} {X:HO} {j f:cN} {P:Hp->Prop} (g:H t=none) (i:H w=some (.lst j)) (m:e w=none) (s:Same e H) (k:∀ a,Same e a->a w=some (.lst f)->a t=some X->Tp H a->(∀ c o,c≠w->H c=some o->a c=some o)->P a):P (upd (upd H t X) w (.lst f)):=by
 have d:=AO g X;exact k _ (λb o h=>Kp.upd b o (B6 h m) (d b o (s b o h))) upd_same (Kp.upd _ _ (B6 i g).symm upd_same) (λb o h=>Tp.updL (d _ _ i) b o (d _ _ h)) λc o n h=>Kp.upd c o n (d _ _ h)
end
end Bs
set_option maxHeartbeats 4000000
namespace Bs
open PySem L2
theorem Jt {g:di} {n:Nat} (h:∀ i,n<i->g i=0):∀ (a:List Rat) (k:Nat),a.length+n<=k->cvL a g k=0
 | [],_,_=>rfl
 | x::a,0,hk=>absurd hk (by rw [Cf];omega)
 | x::a,k+1,hk=>by
   rw [Cf] at hk;rw [Ak,h (k+1) ⋯,Jt h a k ⋯];ext
theorem Lu {g:di} {n:Nat} (j:g n≠0) (h:∀ i,n<i->g i=0) (S:List Rat):(∀ k,n<=k->cvL S g k=0)->∀ s∈S,s=0:=by
 induction hl:S.length generalizing S with
 | zero=>intro _ s b;rw [CL.mp hl] at b;exact nomatch b
 | succ m o=>
   intro hk;have e:S≠[]:=λz=>by rw [z] at hl;simp at hl
   obtain ⟨T,t,rfl⟩:∃ T t,S=T++[t]:=⟨S.dropLast,S.getLast e,(HF e).symm⟩
   have f:t=0:=by
    have a:=hk (T.length+n) ⋯;rw [DZ,Jt h T _ (AU _)] at a;unfold Av at a;rw [sC ⋯,show T.length+n - T.length=n by omega] at a;have p:t*g n=0:=by ext
    rcases Rat.mul_eq_zero.mp p with z | z
    ·exact z
    ·exact absurd z j
   have c:=o T (by simpa using hl) (λk d=>by
    have a:=hk k d;rw [DZ,f] at a;ext)
   intro s b;rcases EC.mp b with h | h
   ·exact c s h
   ·rw [BA.mp h];exact f
theorem Ju {g:di}:∀ (S:List Rat),(∀ s∈S,s=0)->∀ k,cvL S g k=0
 | [],_,_=>rfl
 | x::S,h,0=>by rw [Ap,h x (CH ..)];ext
 | x::S,h,k+1=>by rw [Ak,h x (CH ..),Ju S (λs a=>h s (Ca _ a)) k];ext
def Lv {G:di} {n:Nat} (a:G n≠0) (b:∀ i,n<i->G i=0) {A B:List Rat} (h:∀ k,cvL A G k=cvL B G k) (g:di) (k:Nat):cvL A g k=cvL B g k:=by
 have z:=Ju (g:=g) (A9 A (B.map ((-1:Rat)*·))) (Lu a b _ λk _=>by rw [Bq,BC,h k];ext) k;rw [Bq,BC] at z;ext
structure Sr where
 c:di
def Sr.ext' {f g:Sr} (h:∀ k,f.c k=g.c k):f=g:=by
 cases f;cases g;congr;exact funext h
noncomputable def tr (n:Nat) (f:di):List Rat:=(List.range n).map f
def Gj (n:Nat) (f:di) (k:Nat):(tr n f).getD k 0=if k<n then f k else 0:=by
 unfold tr;rw [AT,Aj];by_cases h:k<n
 ·rw [DE h,sC h];rfl
 ·rw [sB h,CC (by rw [BK];omega)];rfl
theorem Ib:∀ (a b:List Rat) (g h:di) (k:Nat),(∀ i,i<=k->a.getD i 0=b.getD i 0)->(∀ i,i<=k->g i=h i)->cvL a g k=cvL b h k:=by
 intro a
 induction a with
 | nil=>
   intro b
   induction b with
   | nil=>intro g h k _ _;rfl
   | cons y b j=>
     intro g h k c e;have m:=c 0 (Ai _);simp at m;cases k with
     | zero=>rw [Az,Ap,<-m];ext
     | succ k=>
       rw [Az,Ak,<-m];have:=j g h k (λi f=>by have:=c (i+1) ⋯;simpa using this) (λi f=>e i ⋯);rw [Az] at this;ext
 | cons x a j=>
   intro b g h k c e;cases b with
   | nil=>
     have d:=c 0 (Ai _);simp at d;cases k with
     | zero=>rw [Az,Ap,d];ext
     | succ k=>
       rw [Az,Ak,d];have:=j [] g h k (λi f=>by have:=c (i+1) ⋯;simpa using this) (λi f=>e i ⋯);rw [Az] at this;ext
   | cons y b=>
     have d:=c 0 (Ai _);simp at d;cases k with
     | zero=>rw [Ap,Ap,d,e 0 (AU _)]
     | succ k=>
       rw [Ak,Ak,d,e _ (AU _),j b g h k (λi f=>by have:=c (i+1) ⋯;simpa using this) (λi f=>e i ⋯)]
namespace Sr
noncomputable def zero:Sr:=⟨λ_=>0⟩
noncomputable def one:Sr:=⟨Af⟩
noncomputable def add (f g:Sr):Sr:=⟨λk=>f.c k+g.c k⟩
noncomputable def neg (f:Sr):Sr:=⟨λk=>- f.c k⟩
noncomputable def mul (f g:Sr):Sr:=⟨λk=>cvL (tr (k+1) f.c) g.c k⟩
noncomputable def num (x:Rat):Sr:=⟨λk=>x*Af k⟩
def Jv (f g:Sr) {n k:Nat} (h:k<n):(mul f g).c k=cvL (tr n f.c) g.c k:=by
 refine Ib _ _ _ _ _ (λi a=>?_) (λ_ _=>rfl);rw [Gj,Gj,sC ⋯,sC ⋯]
def Lx (f g:Sr) {n m k:Nat} (h:k<n) (h':k<m):(mul f g).c k=cvL (tr n f.c) (cvL (tr m g.c) Af) k:=by
 rw [Jv f g h];refine Ib _ _ _ _ _ (λ_ _=>rfl) (λi a=>?_);rw [Dk,Gj,sC ⋯]
def mul_comm (f g:Sr):mul f g=mul g f:=ext' λk=>by
 rw [Lx f g (EF k) (EF k),Lx g f (EF k) (EF k),HP]
def mul_assoc (f g h:Sr):mul (mul f g) h=mul f (mul g h):=ext' λk=>by
 rw [Jv (mul f g) h (EF k),Jv f (mul g h) (EF k)]
 have a:cvL (tr (k+1) (mul f g).c) h.c k=cvL (Bk (tr (k+1) f.c) (tr (k+1) g.c)) h.c k:=by
  refine Ib _ _ _ _ _ (λi b=>?_) (λ_ _=>rfl);rw [Gj,sC ⋯,<-Dk,B7,Lx f g (n:=k+1) (m:=k+1) ⋯ ⋯]
 rw [a,B7];exact Ib _ _ _ _ _ (λ_ _=>rfl) (λi b=>(Jv g h ⋯).symm)
def mul_add (f g h:Sr):mul f (add g h)=add (mul f g) (mul f h):=ext' λk=>by
 show cvL (tr (k+1) f.c) (λk=>g.c k+h.c k) k=_;rw [Ge];rfl
def mul_one (f:Sr):mul f one=f:=ext' λk=>by
 show cvL (tr (k+1) f.c) Af k=_;rw [Dk,Gj,sC (EF k)]
def mul_zero (f:Sr):mul f zero=zero:=ext' λk=>by
 show cvL (tr (k+1) f.c) (λ_=>0) k=0;have:=Cj (0:Rat) (λ_=>0) (tr (k+1) f.c) k;rw [show (λk:Nat=>(0:Rat)*(λ_=>(0:Rat)) k)=λ_=>0 from funext λ_=>by grind] at this;rw [this];ext
noncomputable def bV (f:Sr):Nat->Sr
 | 0=>one
 | n+1=>mul (bV f n) f
noncomputable instance:Add Sr:=⟨add⟩
noncomputable instance:Mul Sr:=⟨mul⟩
noncomputable instance:Neg Sr:=⟨neg⟩
noncomputable instance:Sub Sr:=⟨λf g=>add f (neg g)⟩
noncomputable instance:NatCast Sr:=⟨λn=>num (n:Rat)⟩
noncomputable instance:IntCast Sr:=⟨λn=>num (n:Rat)⟩
noncomputable instance (n:Nat):OfNat Sr n:=⟨num (n:Rat)⟩
noncomputable instance:Pow Sr Nat:=⟨bV⟩
noncomputable instance:SMul Nat Sr:=⟨λn f=>mul (num (n:Rat)) f⟩
noncomputable instance:SMul Int Sr:=⟨λn f=>mul (num (n:Rat)) f⟩
def num0:num 0=zero:=ext' λk=>by show 0*Af k=(0:Rat);ext
def num1:num 1=one:=ext' λk=>by show 1*Af k=(Af k:Rat);ext
def num_add (x y:Rat):num (x+y)=add (num x) (num y):=ext' λk=>by show (x+y)*Af k=x*Af k+y*Af k;ext
def L5 (x:Rat):num (-x)=neg (num x):=ext' λk=>by show (-x)*Af k = -(x*Af k);ext
def add_comm (f g:Sr):add f g=add g f:=ext' λk=>by show f.c k+g.c k=g.c k+f.c k;ext
def add_assoc (f g h:Sr):add (add f g) h=add f (add g h):=ext' λk=>by show f.c k+g.c k+h.c k=f.c k+(g.c k+h.c k);ext
def add_zero (f:Sr):add f zero=f:=ext' λk=>by show f.c k+0=f.c k;ext
def L6 (f:Sr):add (neg f) f=zero:=ext' λk=>by show -f.c k+f.c k=0;ext
def add_mul (f g h:Sr):mul (add f g) h=add (mul f h) (mul g h):=by rw [mul_comm,mul_add,mul_comm h f,mul_comm h g]
def neg_mul (f g:Sr):mul (neg f) g=neg (mul f g):=by
 have h:add (mul (neg f) g) (mul f g)=zero:=by rw [<-add_mul,L6,mul_comm,mul_zero]
 have c:add (neg (mul f g)) (mul f g)=zero:=L6 _;refine ext' λk=>?_;have a:=sM (congrArg Sr.c h) k;have b:=sM (congrArg Sr.c c) k;have a:(mul (neg f) g).c k+(mul f g).c k=0:=a;have b:(neg (mul f g)).c k+(mul f g).c k=0:=b;ext
noncomputable instance:Lean.Grind.CommRing Sr where
 add_zero f:=(congrArg (add f) num0).trans (add_zero f)
 add_comm:=add_comm
 add_assoc:=add_assoc
 mul_assoc:=mul_assoc
 mul_comm:=mul_comm
 mul_one f:=(congrArg (mul f) num1).trans (mul_one f)
 one_mul f:=(congrArg (λz=>mul z f) num1).trans ((mul_comm _ _).trans (mul_one f))
 left_distrib:=mul_add
 right_distrib:=add_mul
 zero_mul f:=by show mul (num 0) f=num 0;rw [num0,mul_comm,mul_zero]
 mul_zero f:=by show mul f (num 0)=num 0;rw [num0,mul_zero]
 pow_zero f:=num1.symm
 pow_succ f n:=rfl
 ofNat_succ n:=by
  show num ((n+1:Nat):Rat)=add (num (n:Rat)) (num 1)
  rw [<-num_add];push_cast;rfl
 ofNat_eq_natCast n:=rfl
 nsmul_eq_natCast_mul n f:=rfl
 sub_eq_add_neg f g:=rfl
 neg_add_cancel f:=(L6 f).trans num0.symm
 intCast_neg n:=by show num ((-n:Int):Rat)=neg (num (n:Rat));rw [<-L5];push_cast;rfl
 intCast_ofNat n:=rfl
 neg_zsmul n f:=by show mul (num ((-n:Int):Rat)) f=neg (mul (num (n:Rat)) f);rw [show ((-n:Int):Rat) = -(n:Rat) by push_cast;rfl,L5,neg_mul]
 zsmul_natCast_eq_nsmul n f:=rfl
noncomputable def L (a:List Rat):Sr:=⟨cvL a Af⟩
def L_mul (a:List Rat) (g:Sr):L a*g=⟨cvL a g.c⟩:=ext' λk=>by
 refine Ib _ _ _ _ _ (λi b=>?_) (λ_ _=>rfl);rw [Gj,sC ⋯];exact Dk a i
def Bn (f:Sr) (n:Nat):Prop:=∀ k,n<=k->f.c k=0
def Bn.row {f:Sr} {n:Nat} (h:Bn f n):L (tr n f.c)=f:=ext' λk=>by
 show cvL (tr n f.c) Af k=f.c k;rw [Dk,Gj];by_cases hk:k<n
 ·rw [sC hk]
 ·rw [sB hk,h k ⋯]
def Pol (f:Sr):Prop:=∃ a,f=L a
def Pol.L (a:List Rat):Pol (L a):=⟨a,rfl⟩
def Bn.pol {f:Sr} {n:Nat} (h:Bn f n):Pol f:=⟨_,h.row.symm⟩
def O3 (a:List Rat):Bn (Sr.L a) a.length:=λk hk=>by
 show cvL a Af k=0;rw [Dk,AT,CC hk];rfl
def Pol.bn {f:Sr} (h:Pol f):∃ n,Bn f n:=let ⟨a,e⟩:=h;⟨a.length,e ▸ O3 a⟩
def Pol.add {f g:Sr} (h:Pol f) (h':Pol g):Pol (f+g):=by
 obtain ⟨a,rfl⟩:=h;obtain ⟨b,rfl⟩:=h';exact ⟨A9 a b,ext' λk=>(Bq Af a b k).symm⟩
def Pol.mul {f g:Sr} (h:Pol f) (h':Pol g):Pol (f*g):=by
 obtain ⟨a,rfl⟩:=h;obtain ⟨b,rfl⟩:=h';exact ⟨Bk a b,by rw [L_mul];exact ext' λk=>(B7 Af a b k).symm⟩
theorem Pol.num (x:Rat):Pol (num x):=⟨[x],ext' λk=>by
 show x*Af k=cvL [x] Af k;cases k with
 | zero=>rw [Ap];ext
 | succ k=>rw [Ak,Az];ext⟩
def Pol.nat (n:Nat):Pol (OfNat.ofNat n:Sr):=Pol.num (n:Rat)
def Pol.neg {f:Sr} (h:Pol f):Pol (-f):=by
 have e:-f=Sr.num (-1)*f:=by
  have:Sr.num (-1)=(-1:Sr):=L5 1;rw [this];ext
 rw [e];exact (Pol.num _).mul h
def Pol.sub {f g:Sr} (h:Pol f) (h':Pol g):Pol (f - g):=by
 have e:f - g=f + -g:=by ext
 rw [e];exact h.add h'.neg
theorem Pol.pow {f:Sr} (h:Pol f):∀ n:Nat,Pol (f ^ n)
 | 0=>(num1 ▸ Pol.num 1:Pol one)
 | n+1=>(h.pow n).mul h
theorem top_ex {f:Sr}:∀ n,Bn f n->f=0\/∃ m,m<n/\f.c m≠0/\Bn f (m+1)
 | 0,h=>.inl (ext' λk=>by rw [h k (Ai _)];show 0=((0:Nat):Rat)*Af k;push_cast;ext)
 | n+1,h=>by
   by_cases z:f.c n=0
   ·rcases top_ex n (λk hk=>by rcases Nat.eq_or_lt_of_le hk with e | e;exact e ▸ z;exact h k e) with q | ⟨m,c,a,b⟩
    ·exact .inl q
    ·exact .inr ⟨m,⋯,a,b⟩
   ·exact .inr ⟨n,⋯,z,h⟩
def zero_c (k:Nat):(0:Sr).c k=0:=by show ((0:Nat):Rat)*Af k=0;push_cast;ext
def cancel {f g h:Sr} (c:Pol f) (d:Pol g) (j:Pol h) (o:h≠0) (e:f*h=g*h):f=g:=by
 obtain ⟨a,rfl⟩:=c;obtain ⟨b,rfl⟩:=d;obtain ⟨n,p⟩:=j.bn;rcases top_ex n p with z | ⟨m,_,q,r⟩
 ·exact absurd z o
 rw [L_mul,L_mul] at e;exact ext' λk=>Lv q (λi u=>r i u) (λk=>sM (congrArg Sr.c e) k) Af k
def ne_mul {f g:Sr} (a:Pol f) (b:Pol g) (c:f≠0) (d:g≠0):f*g≠0:=λe=>c (cancel a (Pol.nat 0) b d (by rw [e];ext))
noncomputable def X (n:Nat):Sr:=L (List.replicate n 0++[1])
def X_mul (n:Nat) (g:Sr) (k:Nat):(X n*g).c k=if n<=k then g.c (k - n) else 0:=by
 unfold X;rw [L_mul];show cvL (List.replicate n 0++[1]) g.c k=_;rw [HR];unfold Av;by_cases h:n<=k
 ·rw [sC h,sC h];cases k - n with
  | zero=>rw [Ap];ext
  | succ k=>rw [Ak,Az];ext
 ·rw [sB h,sB h]
theorem num_mul (x:Rat) (g:Sr) (k:Nat):(num x*g).c k=x*g.c k:=by
 have:num x=L [x]:=ext' λk=>by
  show x*Af k=cvL [x] Af k;cases k with
  | zero=>rw [Ap];ext
  | succ k=>rw [Ak,Az];ext
 rw [this,L_mul];show cvL [x] g.c k=_;cases k with
 | zero=>rw [Ap];ext
 | succ k=>rw [Ak,Az];ext
def sub_c (f g:Sr) (k:Nat):(f - g).c k=f.c k - g.c k:=by show f.c k + - g.c k=_;ext
theorem aJ {g:Sr} {m:Nat} (a:g.c m≠0) (b:Bn g (m+1)):∀ (n:Nat) (f:Sr),Bn f n->∃ q r,Pol q/\Bn r m/\f=q*g+r
 | 0,f,h=>⟨0,f,Pol.nat 0,λk _=>h k (Ai _),()⟩
 | n+1,f,h=>by
   by_cases c:n+1<=m
   ·exact ⟨0,f,Pol.nat 0,λk hk=>h k ⋯,()⟩
   ·obtain ⟨q,r,d,i,e⟩:=aJ a b n (f - num (f.c n*(g.c m)⁻¹)*(X (n - m)*g)) λk hk=>by
     rw [sub_c,num_mul,X_mul,sC ⋯];rcases Nat.eq_or_lt_of_le hk with z | z
     ·rw [<-z,show n - (n - m)=m by omega];have:(g.c m)⁻¹*g.c m=1:=Et _ a;ext
     ·rw [h k z,b (k - (n - m)) ⋯];ext
    exact ⟨q+num (f.c n*(g.c m)⁻¹)*X (n - m),r,d.add ((Pol.num _).mul (Pol.L _)),i,()⟩
theorem Yt:∀ (n:Nat) (S T:Sr),Pol S->Bn T n->(S≠0\/T≠0)->∃ g r e U W,Pol g/\Pol r/\Pol e/\Pol U/\Pol W/\g≠0/\S=g*r/\T=g*e/\U*r+W*e=1:=by
 intro n
 induction n using Nat.strongRecOn with
 | _ n o=>
   intro S T b c h;by_cases z:T=0
   ·exact ⟨S,1,0,1,0,b,Pol.nat 1,Pol.nat 0,Pol.nat 1,Pol.nat 0,by rcases h with h | h;exact h;exact absurd z h,(),by rw [z];ext,()⟩
   ·rcases top_ex n c with q | ⟨m,p,u,v⟩
    ·exact absurd q z
    obtain ⟨a,rfl⟩:=b;obtain ⟨q,r,d,w,e⟩:=aJ u v _ _ (O3 a);obtain ⟨g,f,x,U,W,y,i,A,B,j,C,k,D,E⟩:=o m p T r c.pol w (.inl z);exact ⟨g,q*f+x,f,W,U - W*q,y,(d.mul i).add A,i,j,B.sub (j.mul d),C,by rw [e,k,D];ext,k,()⟩
noncomputable def D (f:Sr):Sr:=⟨λk=>((k:Rat)+1)*f.c (k+1)⟩
def D_add (f g:Sr):D (f+g)=D f+D g:=ext' λk=>by show ((k:Rat)+1)*(f.c (k+1)+g.c (k+1))=((k:Rat)+1)*f.c (k+1)+((k:Rat)+1)*g.c (k+1);ext
def D_num (x:Rat) (g:Sr):D (num x*g)=num x*D g:=ext' λk=>by
 rw [num_mul];show ((k:Rat)+1)*(num x*g).c (k+1)=x*(((k:Rat)+1)*g.c (k+1));rw [num_mul];ext
theorem D_X (g:Sr):D (X 1*g)=g+X 1*D g:=ext' λk=>by
 show ((k:Rat)+1)*(X 1*g).c (k+1)=g.c k+(X 1*D g).c k;rw [X_mul,X_mul,sC ⋯];cases k with
 | zero=>rw [sB ⋯];push_cast;show ((0:Nat)+1)*g.c 0=_;push_cast;ext
 | succ k=>rw [sC ⋯];show (((k+1:Nat):Rat)+1)*g.c (k+1)=g.c (k+1)+((k:Rat)+1)*g.c (k+1);push_cast;ext
theorem L_cons (x:Rat) (a:List Rat):L (x::a)=num x+X 1*L a:=ext' λk=>by
 show cvL (x::a) Af k=x*Af k+(X 1*L a).c k;rw [X_mul,FB];cases k with
 | zero=>rw [sB ⋯];rfl
 | succ k=>rw [sC ⋯];rfl
def D_nil:D (L [])=0:=ext' λk=>by show ((k:Rat)+1)*cvL [] Af (k+1)=_;rw [Az,zero_c];ext
def L_nil:L []=0:=ext' λk=>by rw [zero_c];rfl
def D_const (x:Rat):D (num x)=0:=ext' λk=>by show ((k:Rat)+1)*(x*Af (k+1))=_;rw [zero_c];show ((k:Rat)+1)*(x*0)=0;ext
theorem O4 (g:Sr):∀ a:List Rat,D (L a*g)=D (L a)*g+L a*D g
 | []=>by
   have z:(0:Sr)=num 0:=rfl;rw [D_nil,L_nil,z,D_num,<-z];ext
 | x::a=>by
   have b:=O4 g a;have e:L (x::a)*g=num x*g+X 1*(L a*g):=by rw [L_cons];ext
   rw [e,D_add,D_num,D_X,b,L_cons,D_add,D_X,D_const];ext
def D_mul {f:Sr} (b:Pol f) (g:Sr):D (f*g)=D f*g+f*D g:=by
 obtain ⟨a,rfl⟩:=b;exact O4 g a
def L7 {f:Sr} {n:Nat} (h:Bn f (n+1)):Bn (D f) n:=λk hk=>by show ((k:Rat)+1)*f.c (k+1)=0;rw [h (k+1) ⋯];ext
def Yu {f:Sr} {n:Nat} (h:f.c (n+1)≠0):D f≠0:=λe=>by
 have:=sM (congrArg Sr.c e) n;rw [zero_c] at this;have this:((n:Rat)+1)*f.c (n+1)=0:=this;rcases Rat.mul_eq_zero.mp this with z | z
 ·have:((n:Rat)+1)=((n+1:Nat):Rat):=by push_cast;rfl
  rw [this] at z;have:n+1=0:=by exact_mod_cast z
  omega
 ·exact h z
def Pol.D {f:Sr} (h:Pol f):Pol (D f):=by
 obtain ⟨n,a⟩:=h.bn;exact Bn.pol (n:=n) (L7 (n:=n) λk hk=>a k ⋯)
theorem Yv:∀ (n:Nat) (S R c:Sr),Bn S n->S≠0->Pol R->Pol c->D S*R=c*S->∃ (m:Nat) (a:Sr),Pol a/\R ^ m=a*S:=by
 intro n
 induction n using Nat.strongRecOn with
 | _ n G=>
   intro S R c H x h y e;rcases top_ex n H with z | ⟨m,mn,A,f⟩
   ·exact absurd z x
   cases m with
   | zero=>
     refine ⟨0,num (S.c 0)⁻¹,Pol.num _,ext' λk=>?_⟩;rw [num_mul];have d:(R ^ 0).c k=Af k:=rfl;rw [d];cases k with
     | zero=>show 1=_;have:(S.c 0)⁻¹*S.c 0=1:=Et _ A;ext
     | succ k=>show 0=_;rw [f (k+1) ⋯];ext
   | succ m=>
     obtain ⟨g,r,d,U,W,j,B,o,I,J,p,u,v,K⟩:=Yt _ S (D S) f.pol (L7 f) (.inl x);have sR:d*R=c*r:=cancel (o.mul h) (y.mul B) j p (by rw [v,u] at e;ext)
     have w:R=(U*R+W*c)*r:=by
      have:R=(U*r+W*d)*R:=by rw [K];ext
      ext
     have C:Pol (U*R+W*c):=(I.mul h).add (J.mul y)
     have O:D g*r=g*(d - D r):=by
      have:=D_mul j r;rw [<-u,v] at this;ext
     have P:D g*R=(d - D r)*(U*R+W*c)*g:=by
      have:D g*R=D g*r*(U*R+W*c):=by generalize U*R+W*c=t at w;rw [w];ext
      rw [this,O];ext
     obtain ⟨N,Q⟩:=j.bn;obtain ⟨t,_,T,F⟩:=(top_ex N Q).resolve_left p
     have tm:t<=m:=by
      rcases BF m t with q | q
      ·exfalso;obtain ⟨E,rfl⟩:=o;have b:D S=L E*g:=by rw [v];ext
       rw [L_mul] at b;refine Yu A (ext' λk=>?_);rw [b,zero_c]
       exact Ju E (Lu T (λi X=>F i X) E λk hk=>by
        exact (sM (congrArg Sr.c b) k).symm.trans (L7 f k ⋯)) k
      ·exact q
     obtain ⟨M,a,Y,Z⟩:=G (t+1) ⋯ g R _ F p h ((o.sub B.D).mul C) P;refine ⟨M+1,a*(U*R+W*c),Y.mul C,?_⟩;have:R ^ (M+1)=R ^ M*R:=rfl;rw [this,Z,u];have:a*(U*R+W*c)*(g*r)=a*g*((U*R+W*c)*r):=by ext
     rw [this,<-w]
def Cs (f g:Sr):Prop:=∃ U W,Pol U/\Pol W/\U*f+W*g=1
def Cs.comm {f g:Sr} (h:Cs f g):Cs g f:=let ⟨U,W,a,b,e⟩:=h;⟨W,U,b,a,()⟩
def Cs.mul {f g h:Sr} (p:Pol f) (j:Pol g) (k:Cs f g) (m:Cs f h):Cs f (g*h):=by
 obtain ⟨U,W,n,i,e⟩:=k;obtain ⟨a,b,c,d,o⟩:=m;refine ⟨U+W*a*g,W*b,n.add ((i.mul c).mul j),i.mul d,?_⟩;have:(U+W*a*g)*f+W*b*(g*h)=U*f+W*g*(a*f+b*h):=by ext
 rw [this,o,<-e];ext
def Cs.dvd {f w g a:Sr} (h:Cs f w) (b:Pol a) (e:w=a*g):Cs f g:=by
 obtain ⟨U,W,c,d,q⟩:=h;exact ⟨U,W*a,c,d.mul b,by rw [e] at q;ext⟩
def Cs.one {f:Sr}:Cs f 1:=⟨0,1,Pol.nat 0,Pol.nat 1,()⟩
theorem Cs.pow {f g:Sr} (a:Pol f) (b:Pol g) (h:Cs f g):∀ n:Nat,Cs f (g ^ n)
 | 0=>⟨0,1,Pol.nat 0,Pol.nat 1,()⟩
 | n+1=>Cs.mul a (b.pow n) (Cs.pow a b h n) h
def Cs.add {f g z c:Sr} (h:Cs f g) (b:Pol c) (e:z=f+c*g):Cs z g:=by
 obtain ⟨U,W,a,d,q⟩:=h;exact ⟨U,W - U*c,a,d.sub (a.mul b),by rw [e];ext⟩
def Cs.neg {f g:Sr} (h:Cs f g):Cs (-f) g:=by
 obtain ⟨U,W,a,b,q⟩:=h;exact ⟨-U,W,a.neg,b,()⟩
def slope_cop {T B G R E:Sr} (b:Pol T) (f:Pol B) (k:Pol G) (c:Pol R) (g:Pol E) (o:B≠0) (h:B=G*R) (p:D B=G*E) (d:Cs R E) (e:Cs T B):Cs (D T*R - T*E) (B*R):=by
 obtain ⟨n,q⟩:=f.bn;obtain ⟨m,a,r,u⟩:=Yv n B R E q o c g (by rw [p,h];ext);have v:Cs R T:=(e.dvd k h).comm;have w:Cs R (T*E):=Cs.mul c b v d;have i:Cs (D T*R - T*E) R:=w.comm.neg.add b.D ();have j:Pol (D T*R - T*E):=(b.D.mul c).sub (b.mul g);exact Cs.mul j f ((Cs.pow j c i m).dvd r u) i
def pow_s (f:Sr) (n:Nat):f ^ (n+1)=f ^ n*f:=rfl
def pow_z (f:Sr):f ^ 0=1:=num1.symm
def one_ne:(1:Sr)≠0:=λh=>by
 have:=sM (congrArg Sr.c h) 0;rw [zero_c] at this;have this:((1:Nat):Rat)*Af 0=0:=this;have e:(Af 0:Rat)=1:=rfl;rw [e] at this;push_cast at this;ext
theorem pow_ne {f:Sr} (a:Pol f) (b:f≠0):∀ n:Nat,f ^ n≠0
 | 0=>by rw [pow_z];exact one_ne
 | n+1=>by rw [pow_s];exact ne_mul (a.pow n) a (pow_ne a b n) b
theorem O5 {b:di} {d:Nat} (h:∀ k,d<k->b k=0):∀ (a:List Rat) (k:Nat),d+a.length<=k->cvL a b k=0
 | [],_,_=>rfl
 | x::a,0,hk=>by simp at hk
 | x::a,k+1,hk=>by
   rw [Ak,O5 h a k (by simp at hk;omega),h (k+1) (by simp at hk;omega)];ext
def top_mul {f g:Sr} {m n:Nat} (b:Bn f (m+1)) (h:Bn g (n+1)):(f*g).c (m+n)=f.c m*g.c n/\Bn (f*g) (m+n+1):=by
 have c:∀ (a:List Rat) (k:Nat),n+a.length<=k->cvL a g.c k=0:=O5 λk hk=>h k hk;rw [<-b.row,L_mul];refine ⟨?_,λk hk=>c _ k (by unfold tr;rw [AL,BK];omega)⟩;show cvL (tr (m+1) f.c) g.c (m+n)=_;have e:tr (m+1) f.c=tr m f.c++[f.c m]:=by unfold tr;rw [List.range_succ,DC];rfl
 have d:(tr m f.c).length=m:=by unfold tr;rw [AL,BK]
 rw [e,DZ,c (tr m f.c) _ (by rw [d];omega),d];unfold Av;rw [sC ⋯,show m+n - m=n by omega]
 have z:(L (tr m f.c++[f.c m])).c m=f.c m:=by
  rw [<-e];exact sM (congrArg Sr.c b.row) m
 rw [z];ext
def Cs.of_unit {f g d U W:Sr} {x:Rat} (a:x≠0) (e:d=num x) (b:Pol U) (c:Pol W) (h:U*f+W*g=d):Cs f g:=by
 refine ⟨num (x⁻¹)*U,num (x⁻¹)*W,(Pol.num _).mul b,(Pol.num _).mul c,?_⟩
 have i:num (x⁻¹)*num x=1:=ext' λk=>by
  rw [num_mul];show x⁻¹*(x*Af k)=_;have:x⁻¹*x=1:=Et _ a;show _=((1:Nat):Rat)*Af k;push_cast;ext
 rw [e] at h;ext
end Sr
end Bs
namespace Bs
open PySem
noncomputable def Gk (K:W.Frag):Addr:=match W.nsIn K PySem.mainGlobals "EXPONENTS" with | some (some (.ref a))=>a | _=>0
end Bs
namespace Bs
open PySem L2
abbrev Nm (H:Hp) (p:Addr) (t d:Int):Prop:=H p=some (.tup [.int t,.int d])
def Eh (_:W.Frag):Sp:=λc H Q _=>∃ a b:Int,c=[.int a,.int b]/\Q (.int ((Int.gcd a b:Nat):Int)) H
def Jw (K:W.Frag):Sp:=λc H Q _=>∃ (a:Addr) (b:cP),c=[.ref a]/\SqL K H a (b.map V.int)/\b.length<=63/\∀ d,Q (.bl true) d
def HS (_:W.Frag):Sp:=λa H Q _=>∃ (x n:Int) (b:Nat),a=[.int x,.int n]/\0<=n/\Bd b x/\b*n.toNat+1<=200000/\Q (.int (x ^ n.toNat)) H
noncomputable def At (n:Nat) (f:dh):cN:=((List.range n).map f).map V.int
noncomputable def C9 (ns:cP):Nat->Nat
 | 0=>0
 | m+1=>if ns.getD m 1=0 then C9 ns m else m+1
noncomputable def Cu (ns:cP):cP:=ns.take (C9 ns ns.length)
def Pl (H:Hp) (r:Addr) (L:cJ):Prop:=∃ a,H r=some (.tup a)/\Nums H a L
def HU (_:W.Frag):Sp:=λb H Q _=>∃ (p:Addr) (a:cP),b=[.ref p]/\H p=some (.lst (a.map V.int))/\∀ r,H r=none->Q (.ref r) (upd H r (.lst ((Cu a).map V.int)))
def Tz (ns:cP):Prop:=ns=[]\/co ns (ns.length - 1)≠0
noncomputable def SDs (H:Hp):cN->List (cP)->Prop
 | [],[]=>True
 | x::a,r::b=>(∃ p,x=.ref p/\H p=some (.lst (r.map V.int)))/\SDs H a b
 | _,_=>False
def SD (H:Hp) (p:Addr) (b:List (cP)):Prop:=∃ a,H p=some (.lst a)/\SDs H a b
def Ic (_:W.Frag):Sp:=λe H Q _=>∃ (p:Addr) (a:cP) (b:Int),e=[.ref p,.int b]/\H p=some (.lst (a.map V.int))/\a.length<=1000/\∀ (g:Int) (c:Hp),Same H c->0<=g->g∣b->(∀ z∈a,g∣z)->(∀ d:Int,d∣b->(∀ z∈a,d∣z)->d∣g)->Q (.int g) c
def Id (_:W.Frag):Sp:=λb H Q _=>∃ (p:Addr) (a:cP) (g:Int),b=[.ref p,.int g]/\H p=some (.lst (a.map V.int))/\(0<g\/a=[])/\a.length<=1000/\∀ r,H r=none->Q (.ref r) (upd H r (.lst ((a.map (·/ g)).map V.int)))
def Ie (_:W.Frag):Sp:=λe H Q _=>∃ (p q:Addr) (a b:cP) (f w:Int) (s:Nat),e=[.ref p,.int f,.ref q,.int w,.int (s:Int)]/\H p=some (.lst (a.map V.int))/\H q=some (.lst (b.map V.int))/\a.length<=1000/\s+b.length<=1000/\Bd 60000000 f/\Bd 60000000 w/\(∀ z∈a,Bd 60000000 z)/\(∀ z∈b,Bd 60000000 z)/\
 ∀ (r:Addr) (c:cP) (d:Hp),Same H d->d r=some (.lst (c.map V.int))->Tz c->(∀ k,co c k=f*co a k - w*Av s (co b) k)->Q (.ref r) d
def Ig (_:W.Frag):Sp:=λg H Q _=>∃ (p q:Addr) (a c:cP) (b d:Nat),g=[.ref p,.ref q]/\H p=some (.lst (a.map V.int))/\H q=some (.lst (c.map V.int))/\Lz c/\(∀ z∈a,Bd b z)/\(∀ z∈c,Bd d z)/\b+a.length*(d+1)<=60000000/\d<=60000000/\a.length<=1000/\c.length<=1000/\((¬ ∃ A:cP,∀ k,co a k=cvL A (co c) k)->∀ e,Same H e->Q .non e)/\
 ∀ (r:Addr) (f:cP) (e:Hp),Same H e->e r=some (.lst (f.map V.int))->(∀ k,co a k=cvL f (co c) k)->Q (.ref r) e
def Sh (b a:List (cP)):Prop:=∃ g:Int,0<g/\b=a.map (·.map (g*·))
def Yw (a:List (cP)):Prop:=(∀ r∈a,r=[])\/∀ d:Int,(∀ r∈a,∀ z∈r,d∣z)->d.natAbs=1
def Ih (_:W.Frag):Sp:=λd H Q _=>∃ (p:Addr) (b:List (cP)),d=[.ref p]/\SD H p b/\b.length<=1000/\(∀ r∈b,r.length<=1000/\Tz r)/\
 ∀ (t:Addr) (a:List (cP)) (c:Hp),Same H c->SD c t a->Sh b a->Yw a->Q (.ref t) c
def HV (_:W.Frag):Sp:=λd H Q _=>∃ (p:Addr) (a:cP),d=[.ref p]/\H p=some (.lst (a.map V.int))/\a.length<=1000/\Tz a/\
 ∀ (t:Addr) (b:cP) (g:Int) (c:Hp),Same H c->c t=some (.lst (b.map V.int))->0<g->a=b.map (g*·)->(a=[]\/Prim b)->Q (.ref t) c
def Jx (_:W.Frag):Sp:=λb H Q _=>∃ (p q:Addr) (o:cP),b=[.ref p,.ref q]/\SD H p [[]]/\SD H q [o]/\0<o.length/\∀ (t:Addr) (a:Hp),Same H a->SD a t [[]]->Q (.ref t) a
def Ii (_:W.Frag):Sp:=λb H Q _=>∃ (p q:Addr) (s o:cP),b=[.ref p,.ref q]/\SD H p [s]/\SD H q [o]/\(s=[]\/o=[])/\∀ (t:Addr) (a:Hp),Same H a->SD a t [if o=[] then s else o]->Q (.ref t) a
def Jy (_:W.Frag):Sp:=λb H Q _=>∃ a p:Int,b=[.int a,.int p]/\2<=p/\Bd 45000 p/\∀ r:Int,0<=r->r<p->(Int.gcd a p=1->p∣r*a - 1)->Q (.int r) H
def Jz (_:W.Frag):Sp:=λb H Q _=>∃ (p:Addr) (a:cP) (m:Int),b=[.ref p,.int m]/\H p=some (.lst (a.map V.int))/\0<m/\a.length<=1000/\∀ r,H r=none->Q (.ref r) (upd H r (.lst ((a.map (·% m)).map V.int)))
def Md (m:Int) (a:cP) (f:dh):Prop:=(∀ z∈a,0<=z/\z<m)/\∀ k,m∣co a k - f k
def HW (_:W.Frag):Sp:=λd H Q _=>∃ (p:Addr) (a:cP) (m:Int),d=[.ref p,.int m]/\H p=some (.lst (a.map V.int))/\0<m/\a.length<=1000/\∀ (r:Addr) (b:cP) (c:Hp),Same H c->c r=some (.lst (b.map V.int))->Tz b->b.length<=a.length->Md m b (co a)->Q (.ref r) c
def HX (_:W.Frag):Sp:=λd H Q _=>∃ (q:Addr) (a:cP) (p:Nat),d=[.ref q,.int (p:Int)]/\H q=some (.lst (a.map V.int))/\Pr p/\Bd 45000 (p:Int)/\a.length<=1000/\Tz a/\(∀ z∈a,0<=z/\z<(p:Int))/\
 ∀ (r:Addr) (b:cP) (f:Int) (c:Hp),Same H c->c r=some (.lst (b.map V.int))->b.length=a.length->(a≠[]->co b (b.length - 1)=1)->Md (p:Int) b (λk=>f*co a k)->Q (.ref r) c
def J0 (_:W.Frag):Sp:=λg H Q _=>∃ (p q:Addr) (f a:cP) (m:Int) (b:Nat),g=[.ref p,.ref q,.int m]/\H p=some (.lst (f.map V.int))/\H q=some (.lst (a.map V.int))/\0<a.length/\co a (a.length - 1)=1/\0<m/\Bd b m/\(∀ z∈a,Bd b z)/\b<=60000000/\f.length<=1000/\a.length<=1000/\
 ∀ (t r s:Addr) (d e:cP) (c:Hp),Same H c->c t=some (.tup [.ref r,.ref s])->c r=some (.lst (d.map V.int))->c s=some (.lst (e.map V.int))->Tz d->Tz e->e.length<a.length->Md m e (λk=>co f k - cvL d (co a) k)->(∀ z∈d,0<=z/\z<m)->Q (.ref t) c
def J1 (_:W.Frag):Sp:=λf H Q _=>∃ (p q:Addr) (d a:cP) (m:Int) (b:Nat),f=[.ref p,.ref q,.int m]/\H p=some (.lst (d.map V.int))/\H q=some (.lst (a.map V.int))/\0<a.length/\co a (a.length - 1)=1/\0<m/\Bd b m/\(∀ z∈a,Bd b z)/\b<=60000000/\d.length<=1000/\a.length<=1000/\
 ∀ (s:Addr) (g c:cP) (e:Hp),Same H e->e s=some (.lst (c.map V.int))->Tz c->c.length<a.length->Md m c (λk=>co d k - cvL g (co a) k)->Q (.ref s) e
def J2 (_:W.Frag):Sp:=λh H Q _=>∃ (a b:Addr) (d e:cP) (p:Nat),h=[.ref a,.ref b,.int (p:Int)]/\H a=some (.lst (d.map V.int))/\H b=some (.lst (e.map V.int))/\Pr p/\Bd 45000 (p:Int)/\d.length<=1000/\e.length<=1000/\((∃ k,¬ (p:Int)∣co d k)\/∃ k,¬ (p:Int)∣co e k)/\
 ∀ (s:Addr) (c:cP) (f:Hp),Same H f->f s=some (.lst (c.map V.int))->0<c.length->c.length<=1000->co c (c.length - 1)=1->(∀ z∈c,0<=z/\z<(p:Int))->(∀ g:dh,Dm (p:Int) g (co d)->Dm (p:Int) g (co e)->Dm (p:Int) g (co c))->Dm (p:Int) (co c) (co d)->Dm (p:Int) (co c) (co e)->Q (.ref s) f
def J3 (_:W.Frag):Sp:=λa H Q _=>∃ w p:Int,a=[.int w,.int p]/\0<p/\∀ r:Int,p∣r - w->2*r.natAbs<=p.natAbs->Q (.int r) H
def Fi (e:Nat) (ns:cP):Prop:=∀ A g:cP,(∀ k,co ns k=cvL A (co g) k)->∀ k,Bd e (co g k)
def Fp (e:Nat) (ns:cP):Prop:=∀ g:cP,Lz g->Prim g->MQ (co g) (co ns)->∀ k,Bd e (co g k)
def O6 (e c N p:Nat):Prop:=2 ^ ((e+c+2)*N)<p
def J4 (_:W.Frag):Sp:=λj H Q _=>∃ (a b:Addr) (f g:cP) (p d e c N:Nat),j=[.ref a,.ref b,.int (p:Int)]/\H a=some (.lst (f.map V.int))/\H b=some (.lst (g.map V.int))/\Pr p/\Bd 45000 (p:Int)/\Lz f/\Lz g/\(∀ z∈f,Bd d z)/\(∀ z∈g,Bd d z)/\d+f.length*45001<=3000000/\d+g.length*45001<=3000000/\Fi e f/\Fi e g/\f.length+g.length<2 ^ (c+1)/\f.length+g.length<=N+2/\2<=N/\(¬ O6 e c N p->∀ h,Same H h->Q .non h)/\
 ∀ (s:Addr) (i:cP) (h:Hp),Same H h->h s=some (.lst (i.map V.int))->RC (co f) (co g) i->Prim i->Q (.ref s) h
def J5 (_:W.Frag):Sp:=λj H Q _=>∃ (a b:Addr) (f g:cP) (d e c N:Nat),j=[.ref a,.ref b]/\H a=some (.lst (f.map V.int))/\H b=some (.lst (g.map V.int))/\Tz f/\Tz g/\(∀ z∈f,Bd d z)/\(∀ z∈g,Bd d z)/\d<=200000/\f.length<=60/\g.length<=60/\(f≠[]->g≠[]->Fp e f/\Fp e g)/\f.length+g.length<2 ^ (c+1)/\f.length+g.length<=N+2/\2<=N/\(e+c+2)*N<=44490/\
 ∀ (s:Addr) (h:cP) (i:Hp),Same H i->i s=some (.lst (h.map V.int))->((f≠[]\/g≠[])->RC (co f) (co g) h/\Prim h)->(f=[]->g=[]->h=[])->Q (.ref s) i
structure Gq (b c:Nat) (l:cJ):Prop where
 low:AV l
 nz:Nz l
 ov:∃ M,Ov l M/\Bd c M/\∀ z∈N_ l M,Bd b z
noncomputable def E_ (g:cP):cJ:=g.map λn=>AX n (co g (g.length - 1))
def MR (g f:di):Prop:=∃ A:List Rat,∀ k,f k=cvL A g k
def CY (_:W.Frag):Sp:=λc H Q _=>∃ a b:Int,c=[.int a,.int b]/\b≠0/\∀ (p:Addr),H p=none->Q (.ref p) (upd H p (.tup [.int (AX a b).1,.int (AX a b).2]))
def Cm (_:W.Frag):Sp:=λb H Q _=>∃ (p:Addr) (a:cN) (l:cJ),b=[.ref p]/\H p=some (.lst a)/\Nums H a l/\l.length<=1000/\FC H Q (trim l)
def Ei (_:W.Frag):Sp:=λd H Q _=>∃ (p:Addr) (c:cN) (l:cJ) (M:Int),d=[.ref p]/\H p=some (.tup c)/\Nums H c l/\AV l/\Ov l M/\Bd 400000 M/\(∀ q∈l,Bd 60000000 q.1)/\l.length<=1000/\
 ∀ (r a:Addr) (b:Hp),Same H b->b r=some (.tup [.ref a,.int (AY l)])->b a=some (.lst ((AJ l).map V.int))->Q (.ref r) b
def Gn (_:W.Frag):Sp:=λb H Q _=>∃ (p:Addr) (a:cP) (B:Int),b=[.ref p,.int B]/\H p=some (.lst (a.map V.int))/\B≠0/\a.length<=1000/\FC H Q (trim (a.map λn=>AX n B))
def Dn (_:W.Frag):Sp:=λh H Q _=>∃ (p q:Addr) (a f:cN) (l m:cJ) (b c e d N:Nat),h=[.ref p,.ref q]/\H p=some (.tup a)/\H q=some (.tup f)/\Nums H a l/\Nums H f m/\Gq b c l/\Gq b c m/\b<=200000/\c<=200000/\l.length<=60/\m.length<=60/\(l≠[]->m≠[]->Fp e (AJ l)/\Fp e (AJ m))/\l.length+m.length<2 ^ (d+1)/\l.length+m.length<=N+2/\2<=N/\(e+d+2)*N<=44490/\
 (l=[]->m=[]->FC H Q [])/\((l≠[]\/m≠[])->∀ g,RC (co (AJ l)) (co (AJ m)) g->Prim g->FC H Q (E_ g))
def J6 (f:Nu->Nu->Nu) (_:W.Frag):Sp:=λe H Q _=>∃ (p q:Addr) (a b c d:Int),e=[.ref p,.ref q]/\Nm H p a b/\Nm H q c d/\0<b/\0<d/\Bd 60000000 a/\Bd 60000000 b/\Bd 60000000 c/\Bd 60000000 d/\
 ∀ (r:Addr),H r=none->Q (.ref r) (upd H r (.tup [.int (f (a,b) (c,d)).1,.int (f (a,b) (c,d)).2]))
def J7 (_:W.Frag):Sp:=λj H Q _=>∃ (p q:Addr) (h i:cN) (l m:cJ) (b c d e:Nat),j=[.ref p,.ref q]/\H p=some (.tup h)/\H q=some (.tup i)/\Nums H h l/\Nums H i m/\Gq b c l/\Gq d e m/\m≠[]/\l.length<=100/\m.length<=100/\
 c+(l.length+1 - m.length)*d<=400000/\b+(l.length+1 - m.length)*(d+1)+e<=900000/\e<=400000/\d<=400000/\
 ∀ (t u v:Addr) (f:Hp) (a g:cJ),Same H f->f t=some (.tup [.ref u,.ref v])->Pl f u a->Pl f v g->AV a->Nz a->a.length<=l.length+1 - m.length->Gq (b+(l.length+1 - m.length)*(d+1)) (c+(l.length+1 - m.length)*d) g->g.length<m.length->
   (∀ k,B_ l k=cv (B_ a) (B_ m) a.length k+B_ g k)->Q (.ref t) f
def Cop (T B:di):Prop:=∃ U W:List Rat,∀ k,(Af k:Rat)=cvL U T k+cvL W B k
noncomputable abbrev J8:=J6 G_
def Ij (_:W.Frag):Sp:=λe H Q _=>∃ (p q:Addr) (a b c d:Int),e=[.ref p,.ref q]/\Nm H p a b/\Nm H q c d/\0<b/\c≠0/\Bd 60000000 a/\Bd 60000000 b/\Bd 60000000 c/\Bd 60000000 d/\
 ∀ (r:Addr),H r=none->Q (.ref r) (upd H r (.tup [.int (AX (a*d) (b*c)).1,.int (AX (a*d) (b*c)).2]))
def J9 (_:W.Frag):Sp:=λf H Q _=>∃ (p q:Addr) (a c:cP) (b d:Nat),f=[.ref p,.ref q]/\H p=some (.lst (a.map V.int))/\H q=some (.lst (c.map V.int))/\(∀ z∈a,Bd b z)/\(∀ z∈c,Bd d z)/\b<=900000/\d<=900000/\a.length<=100/\c.length<=100/\
 ∀ (r:Addr) (e:Hp),Same H e->e r=some (.lst ((if a.length=0\/c.length=0 then [] else (List.range (a.length+c.length - 1)).map λk=>ps a c a.length k).map V.int))->Q (.ref r) e
def Cc (_:W.Frag):Sp:=λh H Q _=>∃ (p q:Addr) (f g:cN) (l m:cJ) (b c d e:Nat),h=[.ref p,.ref q]/\H p=some (.tup f)/\H q=some (.tup g)/\Nums H f l/\Nums H g m/\Gq b c l/\Gq d e m/\l.length<=100/\m.length<=100/\b<=300000/\c<=300000/\d<=300000/\e<=300000/\
 ∀ (r:Addr) (R:cJ) (a:Hp),Same H a->Pl a r R->Gq (b+d+l.length) (c+e) R->R.length<=l.length+m.length - 1->(∀ k,B_ R k=cv (B_ l) (B_ m) l.length k)->Q (.ref r) a
def Fz (_:W.Frag):Sp:=λe H Q _=>∃ (p c:Addr) (d:cN) (l:cJ) (a b:Int),e=[.ref p,.ref c]/\H p=some (.tup d)/\Nm H c a b/\Nums H d l/\AV l/\0<b/\Bd 60000000 a/\Bd 60000000 b/\(∀ q∈l,Bd 60000000 q.1/\Bd 60000000 q.2)/\l.length<=1000/\FC H Q (trim (l.map λq=>G_ q (a,b)))
def Db (_:W.Frag):Sp:=λh H Q _=>∃ (p q:Addr) (f g:cN) (l m:cJ) (b c d e:Nat),h=[.ref p,.ref q]/\H p=some (.tup f)/\H q=some (.tup g)/\Nums H f l/\Nums H g m/\Gq b c l/\Gq d e m/\m≠[]/\l.length<=100/\m.length<=100/\
 c+(l.length+1 - m.length)*d<=400000/\b+(l.length+1 - m.length)*(d+1)+e<=900000/\e<=400000/\d<=400000/\MR (B_ m) (B_ l)/\
 ∀ (r:Addr) (R:cJ) (a:Hp),Same H a->Pl a r R->AV R->Nz R->R.length<=l.length+1 - m.length->(∀ k,B_ l k=cv (B_ R) (B_ m) R.length k)->Q (.ref r) a
noncomputable abbrev L9:=J6 U_
noncomputable abbrev MA:=J6 Z_
def Go (_:W.Frag):Sp:=λc H Q _=>∃ (p:Addr) (b:cN) (l:cJ) (i:Nat),c=[.ref p,.int (i:Int)]/\H p=some (.tup b)/\Nums H b l/\∀ (v:V) (a:Hp),Same H a->isN a v (AR l i)->Q v a
def KA (f:Nu->Nu->Nu) (s:Rat) (_:W.Frag):Sp:=λg H Q _=>∃ (p q:Addr) (d e:cN) (l m:cJ) (M:Int) (b c:Nat),g=[.ref p,.ref q]/\H p=some (.tup d)/\H q=some (.tup e)/\Nums H d l/\Nums H e m/\AV l/\AV m/\Ov l M/\Ov m M/\Bd c M/\(∀ z∈N_ l M,Bd b z)/\(∀ z∈N_ m M,Bd b z)/\b<=300000/\c<=300000/\l.length<=100/\m.length<=100/\
 ∀ (r:Addr) (R:cJ) (a:Hp),Same H a->Pl a r R->Gq (b+1) c R->R.length<=max l.length m.length->(∀ k,B_ R k=B_ l k+s*B_ m k)->Q (.ref r) a
noncomputable abbrev KC:=KA U_ 1
noncomputable abbrev Ik:=KA Z_ (-1)
def KD (_:W.Frag):Sp:=λc H Q _=>∃ (p q:Addr) (l m:cJ),c=[.ref p,.ref q]/\Pl H p l/\Pl H q m/\AV l/\AV m/\Nz m/\m≠[]/\(∀ q∈l,Bd 1000000 q.1/\Bd 1000000 q.2)/\(∀ q∈m,Bd 1000000 q.1/\Bd 1000000 q.2)/\l.length<=1000/\m.length<=1000/\
 ∀ a:Nu,Low a.1 a.2->val a*val (AR m (m.length - 1))=1->∀ (t u v:Addr) (b:Hp),Same H b->b t=some (.tup [.ref u,.ref v])->Pl b u (trim (l.map λq=>G_ q (a.1,a.2)))->Pl b v (trim (m.map λq=>G_ q (a.1,a.2)))->Q (.ref t) b
noncomputable def rw' (l:cJ):List Rat:=(List.range l.length).map (B_ l)
def FF (H:Hp) (p:Addr) (T B:cJ):Prop:=∃ u v,H p=some (.tup [.ref u,.ref v])/\Pl H u T/\Pl H v B
noncomputable def dv (f:di) (k:Nat):Rat:=((k:Rat)+1)*f (k+1)
def EO (_:W.Frag):Sp:=λe H Q _=>∃ (p:Addr) (d:cN) (l:cJ) (b c:Nat),e=[.ref p]/\H p=some (.tup d)/\Nums H d l/\Gq b c l/\l.length<=31/\b<=200000/\c<=200000/\
 ∀ (r:Addr) (R:cJ) (a:Hp),Same H a->Pl a r R->Gq (b+5) c R->R.length=l.length - 1->(∀ k,B_ R k=dv (B_ l) k)->Q (.ref r) a
noncomputable def sr (l:cJ):Sr:=⟨B_ l⟩
noncomputable def si (ns:cP):Sr:=⟨λk=>(co ns k:Rat)⟩
noncomputable def dI (ns:cP):cP:=(List.range (ns.length - 1)).map λk=>((k+1:Nat):Int)*co ns (k+1)
structure Lw (T B:cJ):Prop where
 lt:AV T
 lb:AV B
 nt:Nz T
 nb:Nz B
 ne:B≠[]
 one:AR B (B.length - 1)=(1,1)
 cs:Sr.Cs (sr T) (sr B)
structure Rp (b n m:Nat) (T B:cJ):Prop where
 lw:Lw T B
 rp:∃ N D:cP,Lz D/\Tz N/\(∀ z∈N,Bd b z)/\(∀ z∈D,Bd b z)/\N.length<=n/\D.length<=m/\sr T*si D=si N*sr B
structure C0 (x n m e:Nat):Prop where
 n1:1<=n
 m1:1<=m
 n60:n<=60
 m60:m<=60
 ne:n<2 ^ e
 me:m<2 ^ e
 e6:e<=6
 lu:(x+e+2)*(n+m)<=44490
abbrev C1 (b n m e:Nat):Prop:=C0 (b+max n m*(2*e+4)) n m e
structure C2 (b n m e:Nat):Prop where
 a:C1 b m m e
 t:C1 (2*b+e+1) (n+m - 1) m e
 b9:b<=5000
 m50:m<=50
def Do (_:W.Frag):Sp:=λc H Q _=>∃ (p q:Addr) (l m:cJ) (b x n k e:Nat),c=[.ref p,.ref q]/\Pl H p l/\Pl H q m/\Gq b b l/\Gq b b m/\m≠[]/\l.length<=n/\m.length<=k/\(l≠[]->Fp x (AJ l))/\Fp x (AJ m)/\C0 x n k e/\b<=100000/\
 ∀ (t:Addr) (a:Hp) (T B:cJ),Same H a->FF a t T B->Lw T B->sr T*sr m=sr l*sr B->Q (.ref t) a
def O7 (s:Rat) (_:W.Frag):Sp:=λf H Q _=>∃ (p q:Addr) (T B c a:cJ) (b n m e:Nat),f=[.ref p,.ref q]/\FF H p T B/\FF H q c a/\Rp b n m T B/\Rp b n m c a/\C2 b n m e/\
 ∀ (t:Addr) (d:Hp) (X Y:cJ),Same H d->FF d t X Y->Lw X Y->sr X*(sr B*sr a)=(sr T*sr a+Sr.num s*sr c*sr B)*sr Y->Q (.ref t) d
noncomputable abbrev F0:=O7 1
noncomputable abbrev KE:=O7 (-1)
def HY (_:W.Frag):Sp:=λh H Q _=>∃ (p q:Addr) (T B a b:cJ) (x n m c f g e:Nat),h=[.ref p,.ref q]/\FF H p T B/\FF H q a b/\Lw T B/\Lw a b/\Gq 60100 60100 T/\Gq 60100 60100 B/\Gq 60100 60100 a/\Gq 60100 60100 b/\T.length<=n/\b.length<=g/\a.length<=f/\B.length<=m/\(T≠[]->Fp x (AJ T))/\Fp x (AJ b)/\(a≠[]->Fp c (AJ a))/\Fp c (AJ B)/\C0 x n g e/\C0 c f m e/\
 ∀ (t:Addr) (d:Hp) (X Y:cJ),Same H d->FF d t X Y->Lw X Y->sr X*(sr B*sr b)=sr T*sr a*sr Y->Q (.ref t) d
def MC (_:W.Frag):Sp:=λc H Q _=>∃ (p:Addr) (T B:cJ) (b n m e:Nat),c=[.ref p]/\FF H p T B/\Rp b n m T B/\C1 b n m e/\C1 (b+m*(2*e+4)+6) m m e/\b<=5000/\n<=31/\m<=31/\
 ∀ (t:Addr) (a:Hp) (X Y:cJ),Same H a->FF a t X Y->Lw X Y->sr X*(sr B*sr B)=(sr B*Sr.D (sr T) - sr T*Sr.D (sr B))*sr Y->Q (.ref t) a
noncomputable def L1 (b:cP):Nat:=(b.map Int.natAbs).sum
def Iz (A n:Nat) (f:Sr):Prop:=∃ X:cP,si X=f/\L1 X<=A/\X.length<=n
structure Wh (A n B m:Nat) (N D:Sr) (T U:cJ):Prop where
 lw:Lw T U
 iN:Iz A n N
 iD:Iz B m D
 D0:D≠0
 eq:sr T*D=N*sr U
inductive Fv:cJ->Prop
 | lin (t k:Int) (h:Low t k) (h1:t.natAbs<=5) (h2:k<=3):Fv [(t,k),(1,1)]
 | quad (b c:Int) (h1:b.natAbs<=2) (h2:c∈[1,2,3,5,-2,-3,-5]):Fv [(b*b+c,1),(2*b,1),(1,1)]
structure Pc (l T U:cJ):Prop where
 lw:Lw T U
 co:∀ z,Sr.Pol z->Sr.Cs z (sr l)->Sr.Cs z (sr U)
 sz:∃ N D,Wh (2*(U.length - 1)*24 ^ (U.length - 1)) U.length (24 ^ (U.length - 1)) U.length N D T U
 d7:U.length<=7
structure Iy (k:Nat) (ws:List cI) (T U:cJ):Prop where
 lw:Lw T U
 cs:∀ l,Fv l->l∉ws->Sr.Cs (sr U) (sr l)
 sz:∃ N D,Wh ((54+12*(U.length - 1))*24 ^ (U.length - 1)) (U.length+k) (6*24 ^ (U.length - 1)) U.length N D T U
 d5:U.length<=5
noncomputable def Ps (H:Hp):cN->List cI->Prop
 | [],[]=>True
 | v::b,l::L=>(∃ t r w f,v=.ref t/\H t=some (.tup [r,.ref w,f])/\((∃ a x y,r=.ref a/\Nm H a x y)\/∃ s,r=.str s/\W.kqdOk 8 (.str s)=true)/\Pl H w l)/\Fv l/\Ps H b L
 | _,_=>False
def Dr (a:cP):Prop:=∀ d∈a,0<=d/\d<1000
def cx (a:cP):Prop:=a.length=24/\Dr a
def FG (_:W.Frag):Sp:=λb H Q _=>∃ (p:Addr) (a:cN),b=[.ref p]/\H p=some (.tup a)/\Q (.int ((a.length:Int) - 1)) H
def F5 (_:W.Frag):Sp:=λb H Q _=>∃ v:V,b=[v]/\∀ (r w:Addr) (a:Hp),Same H a->a r=some (.tup [v,.ref w])->Pl a w [(1,1)]->Q (.ref r) a
def KF (_:W.Frag):Sp:=λc H Q _=>∃ (p:Addr) (f:cP) (n b:Nat),c=[.ref p,.int (n:Int)]/\H p=some (.lst (f.map V.int))/\0<f.length/\f.getD 0 0≠0/\(∀ z∈f,Bd b z)/\(b+f.length)*n+1<=8000/\b<=300/\f.length<=9/\n<=60/\
 ∀ (r:Addr) (a:Hp),Same H a->a r=some (.lst (((List.range (n*(f.length - 1)+1)).map (Ar f n)).map V.int))->Q (.ref r) a
def KG (_:W.Frag):Sp:=λc H Q _=>∃ (p:Addr) (b:cN) (l:cJ) (n:Nat),c=[.ref p,.int (n:Int)]/\H p=some (.tup b)/\Nums H b l/\Gq 5 3 l/\l.length<=3/\n<=12/\
 ∀ (r:Addr) (a:Hp) (L:cJ),Same H a->Pl a r L->AV L->Nz L->Gq 97 37 L->sr L=sr l ^ n->Q (.ref r) a
noncomputable def W_ (l:cJ):cJ:=l.map λq=>AX (q.1*(AR l (l.length - 1)).2) (q.2*(AR l (l.length - 1)).1)
def MD (_:W.Frag):Sp:=λb H Q _=>∃ (p:Addr) (a:cN) (l:cJ),b=[.ref p]/\H p=some (.tup a)/\Nums H a l/\AV l/\Nz l/\(∀ q∈l,Bd 70000 q.1/\Bd 70000 q.2)/\l.length<=1000/\FC H Q (W_ l)
def Sm (q:Nu):Prop:=Low q.1 q.2/\q.1.natAbs<=4/\q.2<=3
def KH (_:W.Frag):Sp:=λa H Q _=>∃ c k:Int,a=[.int c,.int k]/\0<=k/\k<=1000/\∀ z:Int,0<=z->Q (.int z) H
def ME (K:W.Frag):Sp:=λd H Q _=>∃ (s:Addr) (c:cP) (m:Nat),d=[.ref s,.int (m:Int)]/\SqL K H s (c.map V.int)/\c.length<=63/\m<=100/\∀ (r:Addr) (a:cP) (b:Hp),Same H b->b r=some (.lst (a.map V.int))->a.length=m->Dr a->Q (.ref r) b
def F6 (_:W.Frag):Sp:=λb H Q _=>∃ d:Int,b=[.int d]/\0<=d/\∀ (r:Addr) (q:Nu) (a:Hp),Same H a->isN a (.ref r) q->Sm q->Q (.ref r) a
def Il (_:W.Frag):Sp:=λb H Q _=>∃ d:Int,b=[.int d]/\0<=d/\d<1000/\∀ (r:Addr) (l:cJ) (a:Hp),Same H a->Pl a r l->Fv l->Q (.ref r) a
def MF (_:W.Frag):Sp:=λc H Q _=>∃ (v:Addr) (e:Int) (l:cJ),c=[.ref v,.int e]/\0<=e/\e<1000/\Pl H v l/\Fv l/\∀ (t f:Addr) (r:V) (T U:cJ) (b:Hp),Same H b->b t=some (.tup [r,.ref v,.ref f])->((∃ a x y,r=.ref a/\Nm b a x y)\/∃ s,r=.str s/\W.kqdOk 8 (.str s)=true)->FF b f T U->Pc l T U->2<=U.length->Q (.ref t) b
def MG (_:W.Frag):Sp:=λd H Q _=>∃ (p:Addr) (b:cP),d=[.ref p,.int 5]/\H p=some (.lst (b.map V.int))/\cx b/\∀ (t f q:Addr) (c:cN) (L:List cI) (T U:cJ) (a:Hp),Same H a->a t=some (.tup [.ref f,.ref q])->a q=some (.lst c)->Ps a c L->L.Nodup->L.length<=4->FF a f T U->Iy 1 L T U->Q (.ref t) a
def MH (_:W.Frag):Sp:=λd H Q _=>∃ (p q:Addr) (b:cP) (c:cN) (L:List cI),d=[.ref p,.ref q]/\H p=some (.lst (b.map V.int))/\cx b/\H q=some (.lst c)/\Ps H c L/\L.Nodup/\L.length<=4/\∀ (y:Addr) (T U:cJ) (N D:Sr) (a:Hp),Same H a->FF a y T U->Wh (102*24 ^ 4) 10 (6*24 ^ 4) 5 N D T U->Q (.ref y) a
def KI (_:W.Frag):Sp:=λg H Q _=>∃ (f y:Addr) (T U d e:cJ) (N D b a:Sr) (A B n m:Nat),g=[.ref f,.ref y]/\FF H f T U/\FF H y d e/\Wh (102*24 ^ 4) 6 (6*24 ^ 4) 5 N D T U/\Wh A n B m b a d e/\A<2 ^ 26/\B<2 ^ 26/\1<=n/\1<=m/\n<=10/\m<=7/\
 ∀ (r:Addr) (X Y:cJ) (c:Hp),Same H c->FF c r X Y->Wh (6*24 ^ 4*(B*(n*A)+A*(m*B))+102*24 ^ 4*A*B) (n+m+4) (6*24 ^ 4*(B*B)) (m+m+3) (D*(a*Sr.D b - b*Sr.D a)+N*b*a) (D*(a*a)) X Y->Q (.ref r) c
structure Rd (T U T' U' l P Q S:cJ) (W G R Th Uh Td Ud:Sr):Prop where
 pW:Sr.Pol W
 pG:Sr.Pol G
 pR:Sr.Pol R
 pTh:Sr.Pol Th
 pTd:Sr.Pol Td
 c1:Sr.Cs Th Uh
 c2:Sr.Cs Td Ud
 c3:Sr.Cs R W
 eh:Uh=W*G
 ed:Ud=R*G
 h:Th*(sr U*sr l)=(sr T*sr l - Sr.D (sr l)*sr U)*Uh
 d:Td*sr U'=sr T'*sr l*Ud
 p:sr P=Uh*R
 q:sr Q=Th*R
 s:sr S=Td*W
 h0:Uh≠0
def Gz (n x:Nat) (l:cJ):Prop:=Gq 60000 60000 l/\l.length<=n/\(l≠[]->Fp x (AJ l))
def MI (_:W.Frag):Sp:=λj H Q _=>∃ (f g t:Addr) (T U e h l:cJ) (N D k m:Sr),j=[.ref f,.ref g,.ref t]/\FF H f T U/\FF H g e h/\Pl H t l/\Wh (102*24 ^ 4) 6 (6*24 ^ 4) 5 N D T U/\Wh (2 ^ 73) 19 (2 ^ 64) 13 k m e h/\(∃ i:Nat,0<i/\i<=27/\Iz 2744 7 (Sr.num (i:Rat)*sr l))/\Gq 40 12 l/\l≠[]/\l.length<=7/\AR l (l.length - 1)=(1,1)/\
 ∀ (r a b c:Addr) (P R S:cJ) (W G Z n o p q:Sr) (d:Hp),Same H d->d r=some (.tup [.ref a,.ref b,.ref c])->Pl d a P->Pl d b R->Pl d c S->P≠[]->AR P (P.length - 1)=(1,1)->Gz 23 480 P->Gz 24 500 R->Gz 35 690 S->Rd T U e h l P R S W G Z n o p q->(∀ X:cJ,AV X->sr X=sr P*sr l->Fp 525 (AJ X))->Q (.ref r) d
section
variable (K:W.Frag)
set_option linter.unusedVariables false
def O8 (_:W.Frag):TS:=
 (AI (Dw (Ax (A_ aC (AA 1) (tC (.int 0)))) (AI (AQ (A_ N5 (AA 0) (AA 1)) (AH 2))
  (AI (AQ (AA 1) (AH 0))
  (AQ (AA 2) (AH 1)))))
  (Ab (K_ IL (AB (AA 0) AC))))
def O9 (_:W.Frag):TS:=
 (AI (AQ (tC (.int 1)) (AH 2))
  (AI (AQ (AA 0) (AH 3))
  (AI (Dw (Ax (A_ aF (AA 1) (tC (.int 0)))) (AI (BO (Ax (A_ X_ (A_ BE (AA 1) (tC (.int 2))) (tC (.int 1)))) (Dv 2 (AA 3) A5) BX)
  (AI (Dv 1 (tC (.int 2)) K5)
  (BO (Ax (A_ aF (AA 1) (tC (.int 0)))) (Dv 3 (AA 3) A5) BX))))
  (Ab (AA 2)))))
def PB:TS:=
 (AI (AQ (AF (Eh K) [] E0 (AB (LH (HN (CW K (AA 0)) [none] (AH 0) (Ax (A_ aC (AA 0) (tC (.int 0)))) (K_ IL (AB (AA 0) AC)))) (AB (AA 1) AC))) (AH 2))
  (AI (Bz (CW K (AA 0)) (AH 3) (AI (BO (Ax (A_ X_ (AA 2) (tC (.int 1)))) (Ab (tC (.int 1))) BX)
  (AQ (AF (Eh K) [] E0 (AB (AA 3) (AB (AA 2) AC))) (AH 2))))
  (Ab (AA 2))))
def PD (_:W.Frag):TS:=
 (AI (AQ (K_ CD (AB (AA 0) AC)) (AH 1))
  (AI (Dw (EG (Ax (A_ aF (AA 1) (tC (.int 0)))) (Ax (A_ X_ (A_ gL (AA 0) (A_ BM (AA 1) (tC (.int 1)))) (tC (.int 0))))) (Dv 1 (tC (.int 1)) BM))
  (Ab (au sL (AA 0) EX (Cg (AA 1))))))
def PF:TS:=
 (Ab (B3 (CW K (AA 0)) [none,some 1] (AH 0) (A_ Bt (AA 0) (AA 1))))
def PH:TS:=
 (AI (BO (aA (HG (Eb (AA 0))) (HG (Eb (AA 1)))) (Ab (BQ AC)) BX)
  (AI (AQ (A_ E2 (BQ (AB (tC (.int 0)) AC)) (A_ BM (A_ Ba (K_ CD (AB (AA 0) AC)) (K_ CD (AB (AA 1) AC))) (tC (.int 1)))) (AH 2))
  (AI (Bz (Fj K (AB (AA 0) AC)) (EI 2 (CO (AH 3) (CO (AH 4) EH))) (BO (Ax (A_ aC (AA 4) (tC (.int 0)))) (Bz (Fj K (AB (AA 1) AC)) (EI 2 (CO (AH 5) (CO (AH 6) EH))) (HH (AA 2) (A_ Ba (AA 3) (AA 5)) (A_ A5 (AA 4) (AA 6)) gL Ba Ez)) BX))
  (Ab (AA 2)))))
def PJ (_:W.Frag):TS:=
 (BO (Ax (A_ aC (AA 6) (tC (.int 0)))) (Bz (Fa (AB (AA 3) AC)) (AH 7) (HH (AA 2) (A_ Ba (AA 5) (AA 7)) (A_ A5 (AA 6) (A_ gL (AA 1) (AA 7))) gL BM Ez)) BX)
def Yx:TS:=
 (AI (AQ (AA 6) (IE (AA 4) (AA 5) Ez))
  (PJ K))
def PL:TS:=
 (AI (BO (Ax (A_ aC (A_ A5 (AA 6) (A_ gL (AA 1) (Q_ CJ (tC (.int 1))))) (A_ gL (AA 2) (A_ Ba (AA 5) (AA 3))))) (Ab (tC .non)) BX)
  (Yx K))
def Yy:TS:=
 (AI (AQ (A_ EJ (A_ gL (AA 2) (A_ Ba (AA 5) (AA 3))) (A_ gL (AA 1) (Q_ CJ (tC (.int 1))))) (AH 6))
  (PL K))
def Yz (_:W.Frag):TS:=
 (Ab (aV (tB (K_ LI (AB (au sL (AA 2) EX (Cg (AA 3))) AC))) (tC .non) (AA 4)))
def Y3:TS:=
 (AI (Bz (IS (AB (A_ BM (A_ BM (K_ CD (AB (AA 0) AC)) (AA 3)) (tC (.int 1))) (AB (Q_ CJ (tC (.int 1))) (AB (Q_ CJ (tC (.int 1))) AC)))) (AH 5) (Yy K))
  (Yz K))
def PM:TS:=
 (AI (AQ (A_ E2 (BQ (AB (tC (.int 0)) AC)) (K_ Gb (AB (A_ BM (K_ CD (AB (AA 0) AC)) (AA 3)) (AB (tC (.int 0)) AC)))) (AH 4))
  (Y3 K))
def Y4:TS:=
 (AI (AQ (A_ BM (K_ CD (AB (AA 1) AC)) (tC (.int 1))) (AH 3))
  (PM K))
def Y5:TS:=
 (AI (AQ (K_ Jd (AB (AA 0) AC)) (AH 2))
  (Y4 K))
def PP:TS:=
 (AI (AQ (B3 (CW K (AA 0)) [none,some 1] (AH 0) (A_ A5 (AA 1) (AA 0))) (AH 5))
  (AI (GO (aS K "list" K2 (AA 5) (AB (A_ E2 (BQ (AB (tC (.int 0)) AC)) (A_ BM (A_ Ba (K_ CD (AB (AA 2) AC)) (AA 4)) (K_ CD (AB (AA 0) AC)))) AC)))
  (AI (Bz (Fj K (AB (AA 2) AC)) (EI 2 (CO (AH 6) (CO (AH 7) EH))) (HH (AA 5) (A_ Ba (AA 6) (AA 4)) (A_ A5 (AA 3) (AA 7)) gL BM Ez))
  (Ab (AF (HU K) [] E0 (AB (AA 5) AC))))))
def PR:TS:=
 (GO (aS K "list" HK (AA 2) (AB (A_ K6 (AA 4) (A_ A5 (AA 3) (A_ gL (AA 0) (tC (.int 0))))) AC)))
def PU:TS:=
 (AI (Bz (Fb (AB (tC (.int 1)) (AB (A_ Ba (K_ K8 (AB (AA 3) (AB (A_ BM (K_ CD (AB (AA 0) AC)) (tC (.int 1))) AC))) (tC (.int 1))) AC))) (AH 5) (Dv 4 (A_ A5 (A_ A5 (A_ BM (A_ A5 (A_ Ba (AA 1) (tC (.int 1))) (AA 5)) (AA 3)) (A_ gL (AA 0) (AA 5))) (A_ gL (AA 2) (A_ BM (AA 3) (AA 5)))) Ba))
  (PR K))
def PV:TS:=
 (AI (AQ (tC (.int 0)) (AH 4))
  (PU K))
def PZ (_:W.Frag):TS:=
 (Ab (AA 2))
def Pf:TS:=
 (AI (Bz (Fb (AB (tC (.int 1)) (AB (A_ Ba (A_ A5 (AA 1) (A_ BM (K_ CD (AB (AA 0) AC)) (tC (.int 1)))) (tC (.int 1))) AC))) (AH 3) (PV K))
  (PZ K))
def Ph:TS:=
 (AI (AQ (BQ (AB (AF (HS K) [] E0 (AB (A_ gL (AA 0) (tC (.int 0))) (AB (AA 1) AC))) AC)) (AH 2))
  (Pf K))
def Y6:TS:=
 (AQ (B3 (LG K (AB (AA 0) (AB (AA 1) AC))) [none,none,some 6,some 7,some 2] (EI 2 (CO (AH 0) (CO (AH 1) EH))) (AF (Ie K) [] E0 (AB (AA 0) (AB (AA 2) (AB (AA 1) (AB (AA 3) (AB (AA 4) AC))))))) (AH 0))
def Y7:TS:=
 (AI (AQ (A_ EJ (AA 3) (AA 5)) (AH 7))
  (Y6 K))
def Y8:TS:=
 (AI (AQ (A_ EJ (AA 4) (AA 5)) (AH 6))
  (Y7 K))
def Y9:TS:=
 (AI (AQ (AF (Eh K) [] E0 (AB (AA 3) (AB (AA 4) AC))) (AH 5))
  (Y8 K))
def ZA:TS:=
 (AI (AQ (A_ gL (A_ gL (AA 1) (tC (.int 0))) (Q_ CJ (tC (.int 1)))) (AH 4))
  (Y9 K))
def ZB:TS:=
 (AI (AQ (A_ gL (A_ gL (AA 0) (tC (.int 0))) (Q_ CJ (tC (.int 1)))) (AH 3))
  (ZA K))
def ZC:TS:=
 (AI (AQ (A_ BM (K_ CD (AB (A_ gL (AA 0) (tC (.int 0))) AC)) (K_ CD (AB (A_ gL (AA 1) (tC (.int 0))) AC))) (AH 2))
  (ZB K))
def Pi:TS:=
 (Ab (AF (Ih K) [] E0 (AB (AA 0) AC)))
def Pj:TS:=
 (AI (Dw (Ax (A_ cg (K_ CD (AB (A_ gL (AA 0) (tC (.int 0))) AC)) (K_ CD (AB (A_ gL (AA 1) (tC (.int 0))) AC)))) (ZC K))
  (Pi K))
def Pk:TS:=
 (AI (AQ (tC (.int 0)) (AH 1))
  (AI (Bz (CW K (AA 0)) (AH 2) (AQ (AF (Ic K) [] E0 (AB (AA 2) (AB (AA 1) AC))) (AH 1)))
  (Ab (B3 (CW K (AA 0)) [none,some 1] (AH 0) (AF (Id K) [] E0 (AB (AA 0) (AB (AA 1) AC)))))))
def Pm:TS:=
 (Ab (A_ gL (AF (Ih K) [] E0 (AB (BQ (AB (AA 0) AC)) AC)) (tC (.int 0))))
def Pn:TS:=
 (AI (Dw (Eb (A_ gL (AA 1) (tC (.int 0)))) (AI (BO (Ax (A_ X_ (K_ CD (AB (A_ gL (AA 1) (tC (.int 0))) AC)) (tC (.int 1)))) (Ab (AA 1)) BX)
  (AI (AQ (AF (Jx K) [] E0 (AB (AA 0) (AB (AA 1) AC))) (AH 2))
  (AI (AQ (AA 1) (AH 0))
  (AQ (AA 2) (AH 1))))))
  (Ab (AA 0)))
def Po (_:W.Frag):TS:=
 (AQ (AA 7) (AH 5))
def Px:TS:=
 (AI (AQ (AA 5) (AH 4))
  (Po K))
def Py:TS:=
 (AI (AQ (A_ BM (AA 4) (A_ A5 (AA 6) (AA 5))) (AH 7))
  (Px K))
def P3:TS:=
 (AI (AQ (AA 7) (AH 3))
  (Py K))
def QA:TS:=
 (AI (AQ (AA 3) (AH 2))
  (P3 K))
def QB:TS:=
 (AI (AQ (A_ BM (AA 2) (A_ A5 (AA 6) (AA 3))) (AH 7))
  (QA K))
def QC:TS:=
 (AI (AQ (A_ Bt (AA 2) (AA 3)) (AH 6))
  (QB K))
def QD (_:W.Frag):TS:=
 (Ab (A_ BE (AA 4) (AA 1)))
def QE:TS:=
 (AI (Dw (Ax (A_ aC (AA 3) (tC (.int 0)))) (QC K))
  (QD K))
def QF:TS:=
 (AI (AQ (tC (.int 1)) (AH 5))
  (QE K))
def QG:TS:=
 (AI (AQ (tC (.int 0)) (AH 4))
  (QF K))
def QH:TS:=
 (AI (AQ (A_ BE (AA 0) (AA 1)) (AH 3))
  (QG K))
def QJ:TS:=
 (AI (AQ (AA 1) (AH 2))
  (QH K))
def QK:TS:=
 (Ab (B3 (CW K (AA 0)) [none,some 1] (AH 0) (A_ BE (AA 0) (AA 1))))
def QL:TS:=
 (Ab (AF (HU K) [] E0 (AB (AF (Jz K) [] E0 (AB (AA 0) (AB (AA 1) AC))) AC)))
def QM:TS:=
 (AI (BO (HG (Eb (AA 0))) (Ab (BQ AC)) BX)
  (AI (AQ (AF (Jy K) [] E0 (AB (A_ gL (AA 0) (Q_ CJ (tC (.int 1)))) (AB (AA 1) AC))) (AH 2))
  (Ab (B3 (CW K (AA 0)) [none,some 1,some 2] (AH 0) (A_ BE (A_ A5 (AA 0) (AA 2)) (AA 1))))))
def QN (_:W.Frag):TS:=
 (BO (Ax (A_ aC (AA 7) (tC (.int 0)))) (Bz (Fa (AB (AA 4) AC)) (AH 8) (HH (AA 3) (A_ Ba (AA 6) (AA 8)) (A_ A5 (AA 7) (A_ gL (AA 1) (AA 8))) gL BM Ez)) BX)
def QO:TS:=
 (AI (AQ (AA 7) (IE (AA 5) (AA 6) Ez))
  (QN K))
def ZD:TS:=
 (AI (AQ (A_ BE (A_ gL (AA 3) (A_ Ba (AA 6) (AA 4))) (AA 2)) (AH 7))
  (QO K))
def QP:TS:=
 (Ab (A6 (AB (AF (HU K) [] E0 (AB (AA 5) AC)) (AB (AF (HW K) [] E0 (AB (au sL (AA 3) EX (Cg (AA 4))) (AB (AA 2) AC))) AC))))
def ZE:TS:=
 (AI (Bz (IS (AB (A_ BM (A_ BM (K_ CD (AB (AA 0) AC)) (AA 4)) (tC (.int 1))) (AB (Q_ CJ (tC (.int 1))) (AB (Q_ CJ (tC (.int 1))) AC)))) (AH 6) (ZD K))
  (QP K))
def QQ:TS:=
 (AI (AQ (A_ E2 (BQ (AB (tC (.int 0)) AC)) (K_ Gb (AB (A_ BM (K_ CD (AB (AA 0) AC)) (AA 4)) (AB (tC (.int 0)) AC)))) (AH 5))
  (ZE K))
def ZF:TS:=
 (AI (AQ (A_ BM (K_ CD (AB (AA 1) AC)) (tC (.int 1))) (AH 4))
  (QQ K))
def ZG:TS:=
 (AI (AQ (K_ Jd (AB (AA 0) AC)) (AH 3))
  (ZF K))
def QR:TS:=
 (Ab (A_ gT (AF (J0 K) [] E0 (AB (AA 0) (AB (AA 1) (AB (AA 2) AC)))) (tC (.int 1))))
def QS:TS:=
 (AI (AQ (AF (HX K) [] E0 (AB (AF (HW K) [] E0 (AB (AA 0) (AB (AA 2) AC))) (AB (AA 2) AC))) (AH 0))
  (AI (AQ (AF (HX K) [] E0 (AB (AF (HW K) [] E0 (AB (AA 1) (AB (AA 2) AC))) (AB (AA 2) AC))) (AH 1))
  (AI (Dw (Eb (AA 1)) (AI (AQ (AF (J1 K) [] E0 (AB (AA 0) (AB (AA 1) (AB (AA 2) AC)))) (AH 3))
  (AI (AQ (AA 1) (AH 0))
  (AQ (AF (HX K) [] E0 (AB (AA 3) (AB (AA 2) AC))) (AH 1)))))
  (Ab (AA 0)))))
def QT (_:W.Frag):TS:=
 (AI (AQ (A_ BE (AA 0) (AA 1)) (AH 2))
  (Ab (aV (Ax (A_ aF (A_ A5 (tC (.int 2)) (AA 2)) (AA 1))) (A_ BM (AA 2) (AA 1)) (AA 2))))
def QU:TS:=
 (AI (AQ (AF (Eh K) [] E0 (AB (A_ gL (AA 0) (Q_ CJ (tC (.int 1)))) (AB (A_ gL (AA 1) (Q_ CJ (tC (.int 1)))) AC))) (AH 3))
  (AI (BO (Ax (A_ X_ (A_ BE (AA 3) (AA 2)) (tC (.int 0)))) (Ab (tC .non)) BX)
  (AI (AQ (AF (J2 K) [] E0 (AB (AA 0) (AB (AA 1) (AB (AA 2) AC)))) (AH 4))
  (AI (AQ (AF (HV K) [] E0 (AB (B3 (CW K (AA 4)) [none,some 2,some 3] (AH 0) (AF (J3 K) [] E0 (AB (A_ A5 (AA 2) (AA 0)) (AB (AA 1) AC)))) AC)) (AH 5))
  (AI (BO (aA (Ax (A_ LE (AF (Ig K) [] E0 (AB (AA 0) (AB (AA 5) AC))) (tC .non))) (Ax (A_ LE (AF (Ig K) [] E0 (AB (AA 1) (AB (AA 5) AC))) (tC .non)))) (Ab (tC .non)) BX)
  (Ab (AA 5)))))))
def QV:TS:=
 (AI (AQ (AF (HV K) [] E0 (AB (AA 0) AC)) (AH 2))
  (AI (AQ (AF (HV K) [] E0 (AB (AA 1) AC)) (AH 3))
  (AI (BO (EG (Eb (AA 0)) (Eb (AA 1))) (Bz (FZ K (tC (.ref (Gk K)))) (AH 4) (AI (AQ (AF (J4 K) [] E0 (AB (AA 2) (AB (AA 3) (AB (A_ BM (AF (HS K) [] E0 (AB (tC (.int 2)) (AB (AA 4) AC))) (tC (.int 1))) AC)))) (AH 5))
  (BO (Ax (A_ OI (AA 5) (tC .non))) (Ab (AA 5)) BX))) BX)
  (Ab (A_ gL (AF (Ii K) [] E0 (AB (BQ (AB (AA 2) AC)) (AB (BQ (AB (AA 3) AC)) AC))) (tC (.int 0)))))))
def QW:TS:=
 (AI (AQ (AF (Eh K) [] E0 (AB (AA 0) (AB (AA 1) AC))) (AH 2))
  (AI (BO (Ax (A_ aQ (AA 1) (tC (.int 0)))) (AQ (Q_ CJ (AA 2)) (AH 2)) BX)
  (Ab (A6 (AB (A_ EJ (AA 0) (AA 2)) (AB (A_ EJ (AA 1) (AA 2)) AC))))))
def QX:TS:=
 (Ab (AF (CY K) [] E0 (AB (A_ Ba (A_ A5 (A_ gT (AA 0) (tC (.int 0))) (A_ gT (AA 1) (tC (.int 1)))) (A_ A5 (A_ gT (AA 1) (tC (.int 0))) (A_ gT (AA 0) (tC (.int 1))))) (AB (A_ A5 (A_ gT (AA 0) (tC (.int 1))) (A_ gT (AA 1) (tC (.int 1)))) AC))))
def QY:TS:=
 (Ab (AF (CY K) [] E0 (AB (A_ BM (A_ A5 (A_ gT (AA 0) (tC (.int 0))) (A_ gT (AA 1) (tC (.int 1)))) (A_ A5 (A_ gT (AA 1) (tC (.int 0))) (A_ gT (AA 0) (tC (.int 1))))) (AB (A_ A5 (A_ gT (AA 0) (tC (.int 1))) (A_ gT (AA 1) (tC (.int 1)))) AC))))
def QZ:TS:=
 (Ab (AF (CY K) [] E0 (AB (A_ A5 (A_ gT (AA 0) (tC (.int 0))) (A_ gT (AA 1) (tC (.int 0)))) (AB (A_ A5 (A_ gT (AA 0) (tC (.int 1))) (A_ gT (AA 1) (tC (.int 1)))) AC))))
def Qa:TS:=
 (Ab (AF (CY K) [] E0 (AB (A_ A5 (A_ gT (AA 0) (tC (.int 0))) (A_ gT (AA 1) (tC (.int 1)))) (AB (A_ A5 (A_ gT (AA 0) (tC (.int 1))) (A_ gT (AA 1) (tC (.int 0)))) AC))))
def Qb (_:W.Frag):TS:=
 (AI (AQ (K_ CD (AB (AA 0) AC)) (AH 1))
  (AI (Dw (EG (Ax (A_ aF (AA 1) (tC (.int 0)))) (Ax (A_ X_ (A_ gT (A_ gL (AA 0) (A_ BM (AA 1) (tC (.int 1)))) (tC (.int 0))) (tC (.int 0))))) (Dv 1 (tC (.int 1)) BM))
  (Ab (K_ IP (AB (au sL (AA 0) EX (Cg (AA 1))) AC)))))
def ZH (_:W.Frag):TS:=
 (Ab (A_ BM (K_ C7 (AB (AA 0) AC)) (tC (.int 1))))
def Qc:TS:=
 (AI (AQ (tC (.int 1)) (AH 1))
  (AI (Bz (FZ K (AA 0)) (AH 2) (Dv 1 (A_ Bt (A_ gT (AA 2) (tC (.int 1))) (AF (Eh K) [] E0 (AB (AA 1) (AB (A_ gT (AA 2) (tC (.int 1))) AC)))) A5))
  (Ab (A6 (AB (B3 (FZ K (AA 0)) [none,some 1] (AH 0) (A_ A5 (A_ gT (AA 0) (tC (.int 0))) (A_ Bt (AA 1) (A_ gT (AA 0) (tC (.int 1)))))) (AB (AA 1) AC))))))
def Qe:TS:=
 (Ab (AF (Cm K) [] E0 (AB (B3 (CW K (AA 0)) [none,some 1] (AH 0) (AF (CY K) [] E0 (AB (AA 0) (AB (AA 1) AC)))) AC)))
def Qf (_:W.Frag):TS:=
 (Ab (aV (Ax (A_ aQ (AA 1) (K_ C7 (AB (AA 0) AC)))) (A_ gT (AA 0) (AA 1)) (A6 (AB (tC (.int 0)) (AB (tC (.int 1)) AC)))))
def Qg:TS:=
 (Ab (AF (Cm K) [] E0 (AB (B3 (Fa (AB (K_ Gb (AB (K_ C7 (AB (AA 0) AC)) (AB (K_ C7 (AB (AA 1) AC)) AC))) AC)) [none,some 0,some 1] (AH 0) (AF (L9 K) [] E0 (AB (AF (Go K) [] E0 (AB (AA 1) (AB (AA 0) AC))) (AB (AF (Go K) [] E0 (AB (AA 2) (AB (AA 0) AC))) AC)))) AC)))
def Qh:TS:=
 (Ab (AF (Cm K) [] E0 (AB (B3 (Fa (AB (K_ Gb (AB (K_ C7 (AB (AA 0) AC)) (AB (K_ C7 (AB (AA 1) AC)) AC))) AC)) [none,some 0,some 1] (AH 0) (AF (MA K) [] E0 (AB (AF (Go K) [] E0 (AB (AA 1) (AB (AA 0) AC))) (AB (AF (Go K) [] E0 (AB (AA 2) (AB (AA 0) AC))) AC)))) AC)))
def Qi:TS:=
 (AI (AQ (AF (Ei K) [] E0 (AB (AA 0) AC)) (AH 2))
  (AI (AQ (AF (Ei K) [] E0 (AB (AA 1) AC)) (AH 3))
  (Ab (AF (Gn K) [] E0 (AB (AF (J9 K) [] E0 (AB (A_ gT (AA 2) (tC (.int 0))) (AB (A_ gT (AA 3) (tC (.int 0))) AC))) (AB (A_ A5 (A_ gT (AA 2) (tC (.int 1))) (A_ gT (AA 3) (tC (.int 1)))) AC))))))
def Qj:TS:=
 (Ab (AF (Cm K) [] E0 (AB (B3 (FZ K (AA 0)) [none,some 1] (AH 0) (AF (J8 K) [] E0 (AB (AA 0) (AB (AA 1) AC)))) AC)))
def ZI (_:W.Frag):TS:=
 (Dv 5 (AA 10) Bt)
def ZJ:TS:=
 (AI (AQ (AF (Id K) [] E0 (AB (AA 4) (AB (AA 10) AC))) (AH 4))
  (ZI K))
def Qk:TS:=
 (AI (AQ (AF (Ic K) [] E0 (AB (AA 4) (AB (AA 5) AC))) (AH 10))
  (ZJ K))
def ZK:TS:=
 (AI (Dv 5 (A_ EJ (AA 6) (AA 9)) A5)
  (Qk K))
def Ql:TS:=
 (AI (AQ (AF (Ie K) [] E0 (AB (AA 4) (AB (A_ EJ (AA 6) (AA 9)) (AB (A_ gT (AA 3) (tC (.int 0))) (AB (A_ EJ (A_ gL (AA 4) (Q_ CJ (tC (.int 1)))) (AA 9)) (AB (AA 8) AC)))))) (AH 4))
  (ZK K))
def ZL:TS:=
 (AI (AQ (AF (Eh K) [] E0 (AB (A_ gL (AA 4) (Q_ CJ (tC (.int 1)))) (AB (AA 6) AC))) (AH 9))
  (Ql K))
def Qm:TS:=
 (AI (AQ (AF (CY K) [] E0 (AB (A_ A5 (A_ gL (AA 4) (Q_ CJ (tC (.int 1)))) (A_ gT (AA 3) (tC (.int 1)))) (AB (A_ A5 (AA 5) (AA 6)) AC))) (IE (AA 7) (AA 8) Ez))
  (ZL K))
def ZM:TS:=
 (AI (AQ (A_ BM (K_ CD (AB (AA 4) AC)) (K_ C7 (AB (AA 1) AC))) (AH 8))
  (Qm K))
def Qn:TS:=
 (Ab (A6 (AB (AF (Cm K) [] E0 (AB (AA 7) AC)) (AB (AF (Gn K) [] E0 (AB (AA 4) (AB (AA 5) AC))) AC))))
def ZN:TS:=
 (AI (Dw (Ax (A_ cg (K_ CD (AB (AA 4) AC)) (K_ C7 (AB (AA 1) AC)))) (ZM K))
  (Qn K))
def ZO:TS:=
 (AI (AQ (A_ E2 (BQ (AB (A6 (AB (tC (.int 0)) (AB (tC (.int 1)) AC))) AC)) (K_ Gb (AB (A_ Ba (A_ BM (K_ C7 (AB (AA 0) AC)) (K_ C7 (AB (AA 1) AC))) (tC (.int 1))) (AB (tC (.int 0)) AC)))) (AH 7))
  (ZN K))
def ZP:TS:=
 (AI (AQ (A_ gL (A_ gT (AA 3) (tC (.int 0))) (Q_ CJ (tC (.int 1)))) (AH 6))
  (ZO K))
def ZQ:TS:=
 (AI (AQ (A_ gT (AA 2) (tC (.int 1))) (AH 5))
  (ZP K))
def ZR:TS:=
 (AI (AQ (A_ gT (AA 2) (tC (.int 0))) (AH 4))
  (ZQ K))
def ZS:TS:=
 (AI (AQ (AF (Ei K) [] E0 (AB (AA 1) AC)) (AH 3))
  (ZR K))
def ZT:TS:=
 (AI (AQ (AF (Ei K) [] E0 (AB (AA 0) AC)) (AH 2))
  (ZS K))
def Qo:TS:=
 (Ab (K_ IP (AB (B3 (FZ K (AA 0)) [none,some 0] (AH 0) (AF (Ij K) [] E0 (AB (AA 0) (AB (A_ gT (AA 1) (Q_ CJ (tC (.int 1)))) AC)))) AC)))
def Qp:TS:=
 (AI (AQ (AF (J5 K) [] E0 (AB (A_ gT (AF (Ei K) [] E0 (AB (AA 0) AC)) (tC (.int 0))) (AB (A_ gT (AF (Ei K) [] E0 (AB (AA 1) AC)) (tC (.int 0))) AC))) (AH 2))
  (Ab (aV (Eb (AA 2)) (AF (Gn K) [] E0 (AB (AA 2) (AB (A_ gL (AA 2) (Q_ CJ (tC (.int 1)))) AC))) (A6 AC))))
def Qq:TS:=
 (Ab (K_ IP (AB (B3 (Fb (AB (tC (.int 1)) (AB (K_ C7 (AB (AA 0) AC)) AC))) [none,some 0] (AH 0) (AF (J8 K) [] E0 (AB (A_ gT (AA 1) (AA 0)) (AB (A6 (AB (AA 0) (AB (tC (.int 1)) AC))) AC)))) AC)))
def Qs:TS:=
 (Ab (AF (Gn K) [] E0 (AB (A_ HL (A_ E2 (BQ (AB (tC (.int 0)) AC)) (A_ A5 (AA 3) (AA 1))) (AF (KF K) [] E0 (AB (au sL (A_ gT (AA 2) (tC (.int 0))) (Cg (AA 3)) EX) (AB (AA 1) AC)))) (AB (AF (HS K) [] E0 (AB (A_ gT (AA 2) (tC (.int 1))) (AB (AA 1) AC))) AC))))
def MJ:TS:=
 (AI (BO (Ax (A_ X_ (AA 3) (K_ C7 (AB (AA 0) AC)))) (Ab (A6 AC)) BX)
  (Qs K))
def Qt:TS:=
 (AI (Dw (EG (Ax (A_ aQ (AA 3) (K_ C7 (AB (AA 0) AC)))) (Ax (A_ X_ (A_ gL (A_ gT (AA 2) (tC (.int 0))) (AA 3)) (tC (.int 0))))) (Dv 3 (tC (.int 1)) Ba))
  (MJ K))
def Qu:TS:=
 (AI (AQ (tC (.int 0)) (AH 3))
  (Qt K))
def Qv:TS:=
 (AI (AQ (AF (Ei K) [] E0 (AB (AA 0) AC)) (AH 2))
  (Qu K))
def Qw:TS:=
 (AI (BO (Ax (A_ X_ (AA 1) (tC (.int 0)))) (Ab (A6 (AB (A6 (AB (tC (.int 1)) (AB (tC (.int 1)) AC))) AC))) BX)
  (Qv K))
def Qx:TS:=
 (AI (AQ (AF (Dn K) [] E0 (AB (AA 0) (AB (AA 1) AC))) (AH 2))
  (Ab (AF (KD K) [] E0 (AB (AF (Db K) [] E0 (AB (AA 0) (AB (AA 2) AC))) (AB (AF (Db K) [] E0 (AB (AA 1) (AB (AA 2) AC))) AC)))))
def Qy:TS:=
 (AI (AQ (AF (Ij K) [] E0 (AB (A6 (AB (tC (.int 1)) (AB (tC (.int 1)) AC))) (AB (A_ gT (AA 1) (Q_ CJ (tC (.int 1)))) AC))) (AH 2))
  (Ab (A6 (AB (AF (Fz K) [] E0 (AB (AA 0) (AB (AA 2) AC))) (AB (AF (Fz K) [] E0 (AB (AA 1) (AB (AA 2) AC))) AC)))))
def Qz:TS:=
 (Ab (A_ gT (AF (J7 K) [] E0 (AB (AA 0) (AB (AA 1) AC))) (tC (.int 0))))
def ZU (_:W.Frag):TS:=
 (Ab (A6 (AB (AA 0) (AB (A6 (AB (A6 (AB (tC (.int 1)) (AB (tC (.int 1)) AC))) AC)) AC))))
def ZV:TS:=
 (Ab (A6 (AB (AF (Db K) [] E0 (AB (AA 4) (AB (AA 5) AC))) (AB (AF (Db K) [] E0 (AB (AF (Cc K) [] E0 (AB (A_ gT (AA 0) (tC (.int 1))) (AB (AA 3) AC))) (AB (AA 5) AC))) AC))))
def ZW:TS:=
 (AI (AQ (AF (Dn K) [] E0 (AB (AA 4) (AB (AA 2) AC))) (AH 5))
  (ZV K))
def ZX:TS:=
 (AI (AQ (AF (KC K) [] E0 (AB (AF (Cc K) [] E0 (AB (A_ gT (AA 0) (tC (.int 0))) (AB (AA 3) AC))) (AB (AF (Cc K) [] E0 (AB (A_ gT (AA 1) (tC (.int 0))) (AB (AF (Db K) [] E0 (AB (A_ gT (AA 0) (tC (.int 1))) (AB (AA 2) AC))) AC))) AC))) (AH 4))
  (ZW K))
def ZY:TS:=
 (AI (AQ (AF (Db K) [] E0 (AB (A_ gT (AA 1) (tC (.int 1))) (AB (AA 2) AC))) (AH 3))
  (ZX K))
def ZZ:TS:=
 (AI (AQ (AF (Dn K) [] E0 (AB (A_ gT (AA 0) (tC (.int 1))) (AB (A_ gT (AA 1) (tC (.int 1))) AC))) (AH 2))
  (ZY K))
def Q0:TS:=
 (Ab (AF (F0 K) [] E0 (AB (AA 0) (AB (A6 (AB (AF (Ik K) [] E0 (AB (A6 AC) (AB (A_ gT (AA 1) (tC (.int 0))) AC))) (AB (A_ gT (AA 1) (tC (.int 1))) AC))) AC))))
def Q3:TS:=
 (Ab (A6 (AB (AF (Cc K) [] E0 (AB (A_ gT (AA 2) (tC (.int 0))) (AB (A_ gT (AA 3) (tC (.int 0))) AC))) (AB (AF (Cc K) [] E0 (AB (A_ gT (AA 2) (tC (.int 1))) (AB (A_ gT (AA 3) (tC (.int 1))) AC))) AC))))
def Q4:TS:=
 (AI (AQ (AF (Do K) [] E0 (AB (A_ gT (AA 1) (tC (.int 0))) (AB (A_ gT (AA 0) (tC (.int 1))) AC))) (AH 3))
  (Q3 K))
def Q5:TS:=
 (AI (AQ (AF (Do K) [] E0 (AB (A_ gT (AA 0) (tC (.int 0))) (AB (A_ gT (AA 1) (tC (.int 1))) AC))) (AH 2))
  (Q4 K))
def Zb:TS:=
 (Ab (A6 (AB (AA 4) (AB (AF (Cc K) [] E0 (AB (A_ gT (AA 0) (tC (.int 1))) (AB (AA 3) AC))) AC))))
def Zc:TS:=
 (AI (AQ (AF (Ik K) [] E0 (AB (AF (Cc K) [] E0 (AB (AF (EO K) [] E0 (AB (A_ gT (AA 0) (tC (.int 0))) AC)) (AB (AA 3) AC))) (AB (AF (Cc K) [] E0 (AB (A_ gT (AA 0) (tC (.int 0))) (AB (AF (Db K) [] E0 (AB (AA 1) (AB (AA 2) AC))) AC))) AC))) (AH 4))
  (Zb K))
def Zd:TS:=
 (AI (AQ (AF (Db K) [] E0 (AB (A_ gT (AA 0) (tC (.int 1))) (AB (AA 2) AC))) (AH 3))
  (Zc K))
def Ze:TS:=
 (AI (AQ (AF (Dn K) [] E0 (AB (A_ gT (AA 0) (tC (.int 1))) (AB (AA 1) AC))) (AH 2))
  (Zd K))
def Zf:TS:=
 (AI (AQ (AF (EO K) [] E0 (AB (A_ gT (AA 0) (tC (.int 1))) AC)) (AH 1))
  (Ze K))
def Q6:TS:=
 (Ab (A6 (AB (AF (Cc K) [] E0 (AB (A_ gT (AA 3) (tC (.int 1))) (AB (AA 6) AC))) (AB (AF (Cc K) [] E0 (AB (A_ gT (AA 3) (tC (.int 0))) (AB (AA 6) AC))) (AB (AF (Cc K) [] E0 (AB (A_ gT (AA 4) (tC (.int 0))) (AB (AF (Db K) [] E0 (AB (A_ gT (AA 3) (tC (.int 1))) (AB (AA 5) AC))) AC))) AC)))))
def Q7:TS:=
 (AI (AQ (AF (Db K) [] E0 (AB (A_ gT (AA 4) (tC (.int 1))) (AB (AA 5) AC))) (AH 6))
  (Q6 K))
def Q8:TS:=
 (AI (AQ (AF (Dn K) [] E0 (AB (A_ gT (AA 3) (tC (.int 1))) (AB (A_ gT (AA 4) (tC (.int 1))) AC))) (AH 5))
  (Q7 K))
def Q9:TS:=
 (AI (AQ (AF (HY K) [] E0 (AB (AA 1) (AB (AF (F5 K) [] E0 (AB (AA 2) AC)) AC))) (AH 4))
  (Q8 K))
def Zg:TS:=
 (AI (AQ (AF (KE K) [] E0 (AB (AA 0) (AB (AF (Do K) [] E0 (AB (AF (EO K) [] E0 (AB (AA 2) AC)) (AB (AA 2) AC))) AC))) (AH 3))
  (Q9 K))
def RA (_:W.Frag):TS:=
 (AI (AQ (A_ BE (A_ A5 (A_ Ba (A_ Ba (A_ BE (AA 0) (tC (.int 2147483647))) (A_ A5 (tC (.int 7919)) (AA 1))) (tC (.int 1))) (tC (.int 48271))) (tC (.int 2147483647))) (AH 2))
  (Ab (A_ Bt (A_ BE (A_ A5 (AA 2) (A_ Ba (A_ BE (AA 2) (tC (.int 1009))) (tC (.int 1)))) (tC (.int 2147483629))) (tC (.int 3)))))
def RE (_:W.Frag):TS:=
 (AQ (A_ Bt (AA 4) (tC (.int 1000))) (AH 4))
def RF:TS:=
 (AI (GO (aS K "list" HK (AA 3) (AB (A_ BE (AA 4) (tC (.int 1000))) AC)))
  (RE K))
def RH (_:W.Frag):TS:=
 (Ab (AA 3))
def RI:TS:=
 (AI (Bz (Fa (AB (AA 1) AC)) (AH 5) (BO (Ax (A_ aF (AA 4) (tC (.int 0)))) (RF K) (GO (aS K "list" HK (AA 3) (AB (A_ BE (AF (KH K) [] E0 (AB (A_ gL (AA 2) (A_ BE (AA 5) (K_ CD (AB (AA 2) AC)))) (AB (AA 5) AC))) (tC (.int 1000))) AC)))))
  (RH K))
def RJ:TS:=
 (AI (AQ (A_ A5 (A_ Bt (K_ IL (AB (A_ gL (AA 2) (tC (.int 0))) AC)) (tC (.int 2))) (A_ BM (tC (.int 1)) (A_ BE (A_ gL (AA 2) (tC (.int 0))) (tC (.int 2))))) (AH 4))
  (RI K))
def RK:TS:=
 (AI (AQ (BQ AC) (AH 3))
  (RJ K))
def RL:TS:=
 (AI (AQ (A_ HL (au (sS K) (AA 0) EX (Cg (tC (.int 63)))) (BQ (AB (tC (.int 7)) AC))) (AH 2))
  (RK K))
def RM:TS:=
 (Ab (AF (CY K) [] E0 (AB (A_ BM (A_ BE (AA 0) (tC (.int 9))) (tC (.int 4))) (AB (A_ gL (BQ (AB (tC (.int 1)) (AB (tC (.int 1)) (AB (tC (.int 1)) (AB (tC (.int 2)) (AB (tC (.int 3)) AC)))))) (A_ BE (A_ Bt (AA 0) (tC (.int 9))) (tC (.int 5)))) AC))))
def RN:TS:=
 (Ab (AF (Cm K) [] E0 (AB (BQ (AB (AF (CY K) [] E0 (AB (A_ Ba (A_ A5 (AA 1) (AA 1)) (A_ gL (BQ (AB (tC (.int 1)) (AB (tC (.int 2)) (AB (tC (.int 3)) (AB (tC (.int 5)) (AB (Q_ CJ (tC (.int 2))) (AB (Q_ CJ (tC (.int 3))) (AB (Q_ CJ (tC (.int 5))) AC)))))))) (A_ BE (A_ Bt (AA 0) (tC (.int 15))) (tC (.int 7))))) (AB (tC (.int 1)) AC))) (AB (AF (CY K) [] E0 (AB (A_ A5 (tC (.int 2)) (AA 1)) (AB (tC (.int 1)) AC))) (AB (A6 (AB (tC (.int 1)) (AB (tC (.int 1)) AC))) AC)))) AC)))
def RP:TS:=
 (AI (AQ (A_ BM (A_ BE (A_ Bt (AA 0) (tC (.int 3))) (tC (.int 5))) (tC (.int 2))) (AH 1))
  (RN K))
def Zh:TS:=
 (AI (BO (Ax (A_ aQ (A_ BE (AA 0) (tC (.int 3))) (tC (.int 2)))) (Ab (AF (Cm K) [] E0 (AB (BQ (AB (AF (CY K) [] E0 (AB (A_ BM (A_ BE (A_ Bt (AA 0) (tC (.int 3))) (tC (.int 11))) (tC (.int 5))) (AB (A_ Ba (tC (.int 1)) (A_ BE (A_ Bt (AA 0) (tC (.int 33))) (tC (.int 3)))) AC))) (AB (A6 (AB (tC (.int 1)) (AB (tC (.int 1)) AC))) AC))) AC))) BX)
  (RP K))
def RQ:TS:=
 (Ab (A6 (AB (AA 3) (AB (AA 0) (AB (AF (Do K) [] E0 (AB (AF (Fz K) [] E0 (AB (AF (EO K) [] E0 (AB (AA 0) AC)) (AB (AA 3) AC))) (AB (AA 0) AC))) AC)))))
def RT:TS:=
 (AI (AQ (A_ gL (BQ (AB (AF (CY K) [] E0 (AB (AA 2) (AB (tC (.int 1)) AC))) (AB (AF (CY K) [] E0 (AB (AA 2) (AB (tC (.int 1)) AC))) (AB (AF (CY K) [] E0 (AB (A_ BM (tC (.int 0)) (AA 2)) (AB (tC (.int 1)) AC))) (AB (AF (CY K) [] E0 (AB (A_ BM (A_ A5 (tC (.int 2)) (AA 2)) (tC (.int 1))) (AB (tC (.int 2)) AC))) AC))))) (A_ BE (AA 1) (tC (.int 6)))) (AH 3))
  (RQ K))
def RV:TS:=
 (Ab (A6 (AB (tC (.str "double")) (AB (AA 0) (AB (AF (F0 K) [] E0 (AB (AF (Do K) [] E0 (AB (AF (Cm K) [] E0 (AB (BQ (AB (AF (CY K) [] E0 (AB (AA 2) (AB (tC (.int 1)) AC))) AC)) AC)) (AB (AF (KG K) [] E0 (AB (AA 0) (AB (A_ Ba (tC (.int 2)) (K_ K9 (AB (A_ X_ (A_ BE (A_ Bt (AA 1) (tC (.int 18))) (tC (.int 3))) (tC (.int 0))) AC))) AC))) AC))) (AB (AA 4) AC))) AC)))))
def RW:TS:=
 (AI (AQ (AF (Do K) [] E0 (AB (AF (Fz K) [] E0 (AB (AF (EO K) [] E0 (AB (AA 0) AC)) (AB (AF (CY K) [] E0 (AB (A_ BM (A_ BE (A_ Bt (AA 1) (tC (.int 54))) (tC (.int 7))) (tC (.int 3))) (AB (tC (.int 1)) AC))) AC))) (AB (AA 0) AC))) (AH 4))
  (RV K))
def RX:TS:=
 (AI (BO (EG (Ax (A_ X_ (A_ BE (AA 1) (tC (.int 6))) (tC (.int 4)))) (Ax (A_ X_ (AF (FG K) [] E0 (AB (AA 0) AC)) (tC (.int 2))))) (Ab (A6 (AB (tC (.str "rest")) (AB (AA 0) (AB (AF (Do K) [] E0 (AB (AF (Cm K) [] E0 (AB (BQ (AB (AF (CY K) [] E0 (AB (AA 2) (AB (tC (.int 1)) AC))) AC)) AC)) (AB (AA 0) AC))) AC))))) BX)
  (RW K))
def RY:TS:=
 (AI (BO (Ax (A_ aQ (A_ BE (AA 1) (tC (.int 6))) (tC (.int 4)))) (RT K) BX)
  (RX K))
def Zi:TS:=
 (AI (AQ (A_ Ba (tC (.int 1)) (A_ BE (A_ Bt (AA 1) (tC (.int 6))) (tC (.int 3)))) (AH 2))
  (RY K))
def RZ:TS:=
 (AQ (AF (F0 K) [] E0 (AB (AA 3) (AB (A_ gT (AA 7) (tC (.int 2))) AC))) (AH 3))
def Ra:TS:=
 (AI (GO (aS K "list" HK (AA 2) (AB (AA 7) AC)))
  (RZ K))
def Rb:TS:=
 (BO (EG (Ax (A_ aQ (A_ Ba (AF (FG K) [] E0 (AB (A_ gT (AA 3) (tC (.int 1))) AC)) (AF (FG K) [] E0 (AB (A_ gT (A_ gT (AA 7) (tC (.int 2))) (tC (.int 1))) AC))) (AA 1))) (Ax (A_ (inD true) (A_ gT (AA 7) (tC (.int 1))) (B3 (CW K (AA 2)) [none] (AH 0) (A_ gT (AA 0) (tC (.int 1))))))) (Ra K) BX)
def Rc:TS:=
 (AI (AQ (AF (MF K) [] E0 (AB (AF (Il K) [] E0 (AB (AA 5) AC)) (AB (AA 6) AC))) (AH 7))
  (Rb K))
def Zj (_:W.Frag):TS:=
 (Ab (A6 (AB (AA 3) (AB (AA 2) AC))))
def Re:TS:=
 (AI (Bz (CW K (AA 4)) (EI 2 (CO (AH 5) (CO (AH 6) EH))) (Rc K))
  (Zj K))
def Rf:TS:=
 (AI (BO (Ax (A_ X_ (A_ BE (A_ Bt (A_ gL (AA 0) (tC (.int 2))) (tC (.int 12))) (tC (.int 8))) (tC (.int 0)))) (AQ (B3 (Fb (AB (tC (.int 3)) (AB (tC (.int 9)) AC))) [none,some 0] (AH 0) (A6 (AB (A_ A5 (A_ Bt (A_ gL (AA 1) (AA 0)) (tC (.int 3))) (tC (.int 3))) (AB (A_ BE (A_ gL (AA 1) (A_ Ba (AA 0) (tC (.int 1)))) (tC (.int 4))) AC)))) (AH 4)) BX)
  (Re K))
def Rg:TS:=
 (AI (AQ (au sL (BQ (AB (A6 (AB (A_ gL (AA 0) (tC (.int 3))) (AB (A_ gL (AA 0) (tC (.int 4))) AC))) (AB (A6 (AB (A_ gL (AA 0) (tC (.int 5))) (AB (A_ gL (AA 0) (tC (.int 6))) AC))) AC))) EX (Cg (A_ BE (A_ Bt (A_ gL (AA 0) (tC (.int 2))) (tC (.int 3))) (tC (.int 4))))) (AH 4))
  (Rf K))
def Rh:TS:=
 (AI (AQ (AF (F5 K) [] E0 (AB (AF (Cm K) [] E0 (AB (au sL (BQ (AB (AF (F6 K) [] E0 (AB (A_ gL (AA 0) (tC (.int 0))) AC)) (AB (AF (F6 K) [] E0 (AB (A_ gL (AA 0) (tC (.int 1))) AC)) AC))) EX (Cg (A_ BE (A_ gL (AA 0) (tC (.int 2))) (tC (.int 3))))) AC)) AC)) (AH 3))
  (Rg K))
def Zk:TS:=
 (AI (AQ (BQ AC) (AH 2))
  (Rh K))
def MK:TS:=
 (BO (Ax (A_ aQ (A_ Ba (AF (FG K) [] E0 (AB (A_ gT (AA 2) (tC (.int 1))) AC)) (A_ A5 (AA 8) (AF (FG K) [] E0 (AB (AA 5) AC)))) (tC (.int 5)))) (AQ (AF (F0 K) [] E0 (AB (AA 2) (AB (AF (Do K) [] E0 (AB (AF (Cm K) [] E0 (AB (BQ (AB (AF (F6 K) [] E0 (AB (A_ Bt (AA 7) (tC (.int 18))) AC)) AC)) AC)) (AB (AF (KG K) [] E0 (AB (AA 5) (AB (AA 8) AC))) AC))) AC))) (AH 2)) BX)
def Ri:TS:=
 (AI (BO (EG (Ax (A_ LN (AA 4) (BQ (AB (A6 (AB (tC (.int 1)) (AB (tC (.int 1)) AC))) (AB (A6 (AB (tC (.int 2)) (AB (tC (.int 1)) AC))) (AB (A6 (AB (tC (.int 3)) (AB (tC (.int 1)) AC))) AC)))))) (Ax (A_ X_ (A_ BE (A_ Bt (AA 7) (tC (.int 9))) (tC (.int 2))) (tC (.int 0))))) (AQ (A_ gT (AA 4) (tC (.int 0))) (AH 8)) BX)
  (MK K))
def Rj:TS:=
 (AI (AQ (A_ Ba (tC (.int 1)) (A_ BE (A_ Bt (AA 7) (tC (.int 3))) (tC (.int 3)))) (AH 8))
  (Ri K))
def Rk:TS:=
 (BO (Ax (A_ aF (A_ BE (AA 7) (tC (.int 3))) (tC (.int 0)))) (Rj K) BX)
def Rl:TS:=
 (AI (AQ (A_ gL (AA 0) (A_ Ba (tC (.int 10)) (AA 3))) (AH 7))
  (Rk K))
def Rm (_:W.Frag):TS:=
 (Ab (AA 2))
def Rn:TS:=
 (AI (Bz (Fj K (AB (A_ HL (AA 1) (BQ (AB (A6 (AB (tC (.str "new")) (AB (AF (Il K) [] E0 (AB (A_ gL (AA 0) (tC (.int 9))) AC)) (AB (tC .non) AC)))) AC))) AC)) (EI 2 (CO (AH 3) (CO (EI 3 (CO (AH 4) (CO (AH 5) (CO (AH 6) EH)))) EH))) (Rl K))
  (Rm K))
def Ro:TS:=
 (AI (BO (Ax (A_ X_ (A_ BE (A_ Bt (A_ gL (AA 0) (tC (.int 8))) (tC (.int 45))) (tC (.int 4))) (tC (.int 0)))) (AQ (AF (F0 K) [] E0 (AB (AA 2) (AB (AF (F5 K) [] E0 (AB (AF (Cm K) [] E0 (AB (A_ HL (A_ E2 (BQ (AB (A6 (AB (tC (.int 0)) (AB (tC (.int 1)) AC))) AC)) (A_ Ba (tC (.int 2)) (A_ BE (A_ Bt (A_ gL (AA 0) (tC (.int 8))) (tC (.int 180))) (tC (.int 4))))) (BQ (AB (A6 (AB (tC (.int 1)) (AB (tC (.int 1)) AC))) AC))) AC)) AC)) AC))) (AH 2)) BX)
  (Rn K))
def Zl:TS:=
 (AI (AQ (AF (F5 K) [] E0 (AB (AF (Cm K) [] E0 (AB (BQ (AB (AF (F6 K) [] E0 (AB (A_ gL (AA 0) (tC (.int 7))) AC)) (AB (AF (F6 K) [] E0 (AB (A_ gL (AA 0) (tC (.int 8))) AC)) AC))) AC)) AC)) (AH 2))
  (Ro K))
def Zn:TS:=
 (Ab (AF (F0 K) [] E0 (AB (AF (MC K) [] E0 (AB (AA 1) AC)) (AB (AF (HY K) [] E0 (AB (AA 0) (AB (AA 1) AC))) AC))))
def Rq:TS:=
 (Ab (A_ bO (AF (HY K) [] E0 (AB (AA 13) (AB (AF (F5 K) [] E0 (AB (AF (Cc K) [] E0 (AB (AA 9) (AB (AA 5) AC))) AC)) AC))) (AF (F5 K) [] E0 (AB (AA 14) AC))))
def Rs:TS:=
 (AI (AQ (AF (Ik K) [] E0 (AB (AF (KC K) [] E0 (AB (AF (Cc K) [] E0 (AB (AA 9) (AB (AF (EO K) [] E0 (AB (AA 7) AC)) AC))) (AB (AF (Cc K) [] E0 (AB (AA 10) (AB (AA 7) AC))) AC))) (AB (AA 11) AC))) (AH 14))
  (Rq K))
def Ru:TS:=
 (AI (AQ (AF (KE K) [] E0 (AB (AF (KI K) [] E0 (AB (AA 2) (AB (AA 12) AC))) (AB (AA 4) AC))) (AH 13))
  (Rs K))
def KJ:TS:=
 (AI (AQ (AF (Do K) [] E0 (AB (AA 7) (AB (AA 5) AC))) (AH 12))
  (Ru K))
def Rv:TS:=
 (AI (BO (aA (Ax (A_ bO (AA 9) (A6 AC))) (aA (Ax (A_ neD (AF (MD K) [] E0 (AB (AA 9) AC)) (AA 9))) (Ax (A_ aF (AF (FG K) [] E0 (AB (AF (Dn K) [] E0 (AB (AA 9) (AB (AF (Dn K) [] E0 (AB (AA 10) (AB (AA 11) AC))) AC))) AC)) (tC (.int 0)))))) (Ab (tC (.bl false))) BX)
  (KJ K))
def Rw:TS:=
 (AI (AQ (AA 8) (EI 3 (CO (AH 9) (CO (AH 10) (CO (AH 11) EH)))))
  (Rv K))
def Rx:TS:=
 (AI (BO (aA (HG (tB (K_ LA (AB (AA 8) (AB (tC (.ty "tuple")) AC))))) (Ax (A_ aC (K_ C7 (AB (AA 8) AC)) (tC (.int 3))))) (Ab (tC (.bl false))) BX)
  (Rw K))
def Ry:TS:=
 (AI (AQ (AF (MI K) [] E0 (AB (AA 2) (AB (AA 4) (AB (AA 5) AC)))) (AH 8))
  (Rx K))
def Rz:TS:=
 (AI (AQ (AF (Cm K) [] E0 (AB (B3 (CW K (au sL (AA 1) (Cg (tC (.int 18))) (Cg (tC (.int 21))))) [none] (AH 0) (AF (F6 K) [] E0 (AB (AA 0) AC))) AC)) (AH 7))
  (Ry K))
def R3:TS:=
 (AI (Bz (CW K (au sL (AA 1) (Cg (tC (.int 14))) (Cg (A_ Ba (tC (.int 14)) (A_ BE (A_ Bt (A_ gL (AA 1) (tC (.int 13))) (tC (.int 2))) (tC (.int 4))))))) (AH 6) (AQ (AF (Cc K) [] E0 (AB (AA 5) (AB (AF (Il K) [] E0 (AB (AA 6) AC)) AC))) (AH 5)))
  (Rz K))
def R6:TS:=
 (AI (AQ (A6 (AB (A6 (AB (tC (.int 1)) (AB (tC (.int 1)) AC))) AC)) (AH 5))
  (R3 K))
def R7:TS:=
 (AI (BO (Ax (A_ X_ (A_ BE (A_ gL (AA 1) (tC (.int 13))) (tC (.int 2))) (tC (.int 0)))) (AQ (AF (KI K) [] E0 (AB (AA 2) (AB (AA 4) AC))) (AH 4)) BX)
  (R6 K))
def R8:TS:=
 (AI (AQ (AF (MH K) [] E0 (AB (AA 1) (AB (AA 3) AC))) (AH 4))
  (R7 K))
def R9:TS:=
 (AI (AQ (AF (MG K) [] E0 (AB (AA 1) (AB (tC (.int 5)) AC))) (EI 2 (CO (AH 2) (CO (AH 3) EH))))
  (R8 K))
def Zo:TS:=
 (AI (AQ (AF (ME K) [] E0 (AB (AA 0) (AB (tC (.int 24)) AC))) (AH 1))
  (R9 K))
end
def ML {K:W.Frag} {H:Hp} {Q:VK} {E:XK} {p:Addr} {q:Addr} {xs:cN} {a:cN} {l:cJ} {m:cJ} {b:Nat} {c:Nat} {e:Nat} {d:Nat} {N:Nat} (u:H p=some (.tup xs)) (v:H q=some (.tup a)) (w:Nums H xs l) (x:Nums H a m) (y:Gq b c l) (z:Gq b c m) (A:b<=200000) (B:c<=200000) (C:l.length<=60) (f:m.length<=60) (h:(l≠[]->m≠[]->Fp e (AJ l)/\Fp e (AJ m))) (i:l.length+m.length<2 ^ (d+1)) (j:l.length+m.length<=N+2) (k:2<=N) (n:(e+d+2)*N<=44490) (o:(l=[]->m=[]->FC H Q [])) (r:((l≠[]\/m≠[])->∀ g,RC (co (AJ l)) (co (AJ m)) g->Prim g->FC H Q (E_ g))):Dn K [.ref p,.ref q] H Q E:=⟨p,q,xs,a,l,m,b,c,e,d,N,rfl,u,v,w,x,y,z,A,B,C,f,h,i,j,k,n,o,r⟩
def HZ {K:W.Frag} {H:Hp} {Q:VK} {E:XK} {p:Addr} {q:Addr} {xs:cN} {a:cN} {l:cJ} {m:cJ} {b:Nat} {c:Nat} {d:Nat} {e:Nat} (n:H p=some (.tup xs)) (o:H q=some (.tup a)) (u:Nums H xs l) (v:Nums H a m) (w:Gq b c l) (x:Gq d e m) (y:l.length<=100) (z:m.length<=100) (A:b<=300000) (f:c<=300000) (g:d<=300000) (h:e<=300000) (i:∀ (r:Addr) (R:cJ) (j:Hp),Same H j->Pl j r R->Gq (b+d+l.length) (c+e) R->R.length<=l.length+m.length - 1->(∀ k,B_ R k=cv (B_ l) (B_ m) l.length k)->Q (.ref r) j):Cc K [.ref p,.ref q] H Q E:=⟨p,q,xs,a,l,m,b,c,d,e,rfl,n,o,u,v,w,x,y,z,A,f,g,h,i⟩
def He {K:W.Frag} {H:Hp} {Q:VK} {E:XK} {p:Addr} {q:Addr} {xs:cN} {a:cN} {l:cJ} {m:cJ} {b:Nat} {c:Nat} {d:Nat} {e:Nat} (u:H p=some (.tup xs)) (v:H q=some (.tup a)) (w:Nums H xs l) (x:Nums H a m) (y:Gq b c l) (z:Gq d e m) (A:m≠[]) (B:l.length<=100) (C:m.length<=100) (f:c+(l.length+1 - m.length)*d<=400000) (g:b+(l.length+1 - m.length)*(d+1)+e<=900000) (h:e<=400000) (i:d<=400000) (j:MR (B_ m) (B_ l)) (n:∀ (r:Addr) (R:cJ) (o:Hp),Same H o->Pl o r R->AV R->Nz R->R.length<=l.length+1 - m.length->(∀ k,B_ l k=cv (B_ R) (B_ m) R.length k)->Q (.ref r) o):Db K [.ref p,.ref q] H Q E:=⟨p,q,xs,a,l,m,b,c,d,e,rfl,u,v,w,x,y,z,A,B,C,f,g,h,i,j,n⟩
def SC {f:Nu->Nu->Nu} {s:Rat} {K:W.Frag} {H:Hp} {Q:VK} {E:XK} {p:Addr} {q:Addr} {xs:cN} {a:cN} {l:cJ} {m:cJ} {M:Int} {b:Nat} {c:Nat} (u:H p=some (.tup xs)) (v:H q=some (.tup a)) (w:Nums H xs l) (x:Nums H a m) (y:AV l) (A:AV m) (B:Ov l M) (C:Ov m M) (D:Bd c M) (d:(∀ z∈N_ l M,Bd b z)) (e:(∀ z∈N_ m M,Bd b z)) (g:b<=300000) (h:c<=300000) (i:l.length<=100) (j:m.length<=100) (n:∀ (r:Addr) (R:cJ) (o:Hp),Same H o->Pl o r R->Gq (b+1) c R->R.length<=max l.length m.length->(∀ k,B_ R k=B_ l k+s*B_ m k)->Q (.ref r) o):KA f s K [.ref p,.ref q] H Q E:=⟨p,q,xs,a,l,m,M,b,c,rfl,u,v,w,x,y,A,B,C,D,d,e,g,h,i,j,n⟩
def SE {K:W.Frag} {H:Hp} {Q:VK} {E:XK} {p:Addr} {xs:cN} {l:cJ} {b:Nat} {c:Nat} (d:H p=some (.tup xs)) (e:Nums H xs l) (f:Gq b c l) (g:l.length<=31) (h:b<=200000) (i:c<=200000) (j:∀ (r:Addr) (R:cJ) (a:Hp),Same H a->Pl a r R->Gq (b+5) c R->R.length=l.length - 1->(∀ k,B_ R k=dv (B_ l) k)->Q (.ref r) a):EO K [.ref p] H Q E:=⟨p,xs,l,b,c,rfl,d,e,f,g,h,i,j⟩
variable {K:W.Frag} {vs:cN} {H:Hp} {Q:VK} {E:XK}
local macro_rules | `(tactic| rwa [$[$t:term],*]) => do
 let l : Array Lean.Term := (("AI AQ AF AB AA AC AH IE L2.start BO aV Ax L2.tB A_ ae rI L2.tC Q_ rU BX Ab A6 BQ Ua Dv GO K_ Up EG aA HG UU UV UW X_ aC Ez Ba BM A5 K5 K6 BE N5 Wb aQ iLe aF cg CJ gT gL gS IL Gb K8 K9 C7 CD Wc LA We Wf Wg eqT Wj Wk Wm Wn List.map_cons List.map_nil List.length_cons List.length_nil List.replicate List.cons_append List.nil_append List.append_nil List.getElem?_cons_zero List.getElem?_cons_succ Option.some.injEq exists_eq_left' exists_eq_left V.int.injEq V.bl.injEq V.ref.injEq V.ty.injEq HO.tup.injEq HO.lst.injEq List.cons.injEq and_true true_and and_assoc exists_and_left List.set_cons_zero List.set_cons_succ decide_eq_true_eq decide_eq_false_iff_not Bool.not_eq_true' Bool.true_eq_false Bool.false_eq_true Bool.not_true Bool.not_false if_true if_false ite_true ite_false Wx Wz Wp Wq Wu Wv Ww W0 W3 Nat.zero_add Nat.reduceAdd Nat.reduceSub upd_same Int.cast_ofNat_Int decide_true decide_false eq_self not_true_eq_false not_false_eq_true Int.natCast_add Int.natCast_zero reduceCtorEq Nm EI CO EH HH au EX Cg sL sT IP Xe Jd Eb Xd E2 HL HK K2 VQ aS VO XU XV XW XX XZ Xl Xk XY Xh LH OJ LI LE OI Bt EJ LF Jg C8 Option.bind_some Option.bind_none Option.bind Option.join id_eq sS X4 X6 Eh HS HU Ic Id Ie Ig Ih HV Jx Ii Jy Jz HW HX J0 J1 J2 J3 J4 J5 CY Cm Ei Gn Dn J6 J7 Ij J9 Cc Fz Db Go KA KD EO Do KH KF".splitOn " ").map λs => (⟨(Lean.mkIdent s.toName).raw⟩ : Lean.Term)).toArray
 `(tactic| simp only [$[$(l ++ t):term],*])
def DA {a b:Int} (c:Bd 60000000 a) (d:Bd 60000000 b):IntMulOk a b:=X5 c d ∅
def Zp (h:Eh K vs H Q E):O8 K { nx:=λ_ d=>Q .non d,rt:=Q } (L2.start ["one","other","rest"] vs) H:=by
 obtain ⟨a,b,rfl,q⟩:=h;unfold O8;rwa [];refine Ea (λm f d=>∃ (x y:Int) (r:cO),f=[some (.int x),some (.int y),r]/\d=H/\Int.gcd x y=Int.gcd a b/\m=y.natAbs) b.natAbs ⟨a,b,none,rfl,rfl,rfl,rfl⟩ ?_;rintro m f d ⟨x,y,r,rfl,rfl,g,rfl⟩;rwa [];refine Au (λc=>?_) (λc=>?_)
 ·refine ⟨λi j=>∃ k,k<y.natAbs/\_,λ_ _ h=>h,?_⟩;refine ⟨c,_,WY x c,y,x.fmod y,_,rfl,rfl,?_,rfl⟩;rw [N2];exact g
 ·have n:y=0:=Decidable.not_not.mp c;subst n
  have e:(if x<0 then -x else x)=((Int.gcd a b:Nat):Int):=by
   rw [<-g,Int.gcd_zero_right];split <;> omega
  rw [e];exact q
def Zq (h:HS K vs H Q E):O9 K { nx:=λ_ f=>Q .non f,rt:=Q } (L2.start ["whole","n","result","square"] vs) H:=by
 obtain ⟨x,n,b,rfl,J,B,L,q⟩:=h;unfold O9;rwa []
 have p:∀ k:Nat,k<=n.toNat->Bd 60000000 (x ^ k):=λk hk=>(B.pow k).mono (by
  have:=C5 b hk;omega)
 refine Ea (λm A f=>∃ r s:Nat,A=[some (.int x),some (.int (m:Int)),some (.int (x ^ r)),some (.int (x ^ s))]/\f=H/\r+s*m=n.toNat) n.toNat ⟨0,1,?_,rfl,⋯⟩ ?_
 ·have e:((n.toNat:Nat):Int)=n:=by omega
  rw [e,Int.pow_zero,show x ^ 1=x by rw [Int.pow_succ,Int.pow_zero,Int.one_mul]]
 rintro m A f ⟨r,s,rfl,rfl,M⟩;rwa [];refine Au (λc=>?_) (λc=>?_)
 ·have C:1<=m:=by omega
  have N:s<=s*m:=Nat.le_mul_of_pos_right s C;have D:K4 (m:Int) 2:=⟨∅,(E3 ∅ ∅).mono ∅⟩
  have i:s*m=(s+s)*(m / 2)+s*(m % 2):=by
   have e:m=2*(m / 2)+m % 2:=(Nat.div_add_mod m 2).symm;generalize m / 2=u at e ⊢;generalize m % 2=v at e ⊢;subst e;rw [Nat.mul_add];congr 1;rw [<-Nat.mul_assoc,C3 s 2];congr 1;omega
  have F:((m:Int) / 2)=((m / 2:Nat):Int):=by omega
  rw [F];refine ⟨λG I=>∃ d,d<m/\_,λ_ _ h=>h,?_⟩
  have j:∀ g:Nat,g+(s+s)*(m / 2)=n.toNat->K4 (m:Int) 2/\if 0<((m / 2:Nat):Int) then IntMulOk (x ^ s) (x ^ s)/\∃ d,d<m/\∃ r a,[some (V.int x),some (V.int ((m / 2:Nat):Int)),some (V.int (x ^ g)),some (V.int (x ^ s*x ^ s))]=[some (V.int x),some (V.int (d:Int)),some (V.int (x ^ r)),some (V.int (x ^ a))]/\f=f/\r+a*d=n.toNat
    else ∃ d,d<m/\∃ r a,[some (V.int x),some (V.int ((m / 2:Nat):Int)),some (V.int (x ^ g)),some (V.int (x ^ s))]=[some (V.int x),some (V.int (d:Int)),some (V.int (x ^ r)),some (V.int (x ^ a))]/\f=f/\r+a*d=n.toNat:=λg o=>by
   refine ⟨D,Au (λw=>?_) (λw=>?_)⟩
   ·exact ⟨DA (p s ⋯) (p s ⋯),m / 2,⋯,g,s+s,by rw [Int.pow_add],rfl,o⟩
   ·have z:m / 2=0:=by omega
    rw [z] at o ⊢;exact ⟨0,⋯,g,s,rfl,rfl,⋯⟩
  refine ⟨∅,Au (λw=>⟨DA (p r ⋯) (p s ⋯),?_⟩) (λw=>?_)⟩
  ·rw [<-Int.pow_add];have y:m % 2=1:=by omega
   rw [y] at i;exact j (r+s) ⋯
  ·have y:m % 2=0:=by omega
   rw [y] at i;exact j r ⋯
 ·have z:m=0:=by omega
  subst z;have e:r=n.toNat:=by omega
  subst e;exact q
def SF {H:Hp} {Q:VK} {xs:cN} {l:cJ} {m:Nat} (a:Nums H xs l) (b:m<=l.length) (e:B4 l l.length=m) (q:FC H Q (trim l)) :
  ∀ (p:Addr),H p=none->∀ (r:Addr),upd H p (.lst (BU xs none (some (m:Int)))) r=none->Q (V.ref r) (upd (upd H p (.lst (BU xs none (some (m:Int))))) r (.tup (BU xs none (some (m:Int))))):=λp hp r c=>by
 have s:=(AO hp (.lst (BU xs none (some (m:Int))))).trans (AO c (.tup (BU xs none (some (m:Int)))));refine q r _ _ s upd_same ?_;rw [Lo (by rw [a.length];exact b)];rw [Lo (by rw [a.length];exact b)] at s;unfold trim;rw [e];exact (a.take m).tp (D_ s)
def Zs (l:cJ) (m:Nat):B4 l (m+1)=if (l.getD m (1,1)).1=0 then B4 l m else m+1:=rfl
def Zu (h:Cm K vs H Q E):Qb K { nx:=λ_ b=>Q .non b,rt:=Q } (L2.start ["row","many"] vs) H:=by
 obtain ⟨p,n,l,rfl,hp,d,A,q⟩:=h;unfold Qb;rwa [hp];have o:=d.length;refine Ea (λm g b=>g=[some (.ref p),some (.int (m:Int))]/\b=H/\B4 l m=B4 l l.length/\m<=l.length) n.length ⟨rfl,rfl,by rw [o],⋯⟩ ?_;rintro m g b ⟨rfl,rfl,a,j⟩;rwa [hp];refine Au (λc=>?_) (λc=>?_)
 ·obtain ⟨k,rfl⟩:∃ k,m=k+1:=⟨m - 1,⋯⟩;obtain ⟨v,r,u,rfl,e⟩:=d.at (i:=k) ⋯ (1,1);rw [Zs] at a;refine ⟨_,DJ ⋯ r,u,rfl,_,e,_,rfl,rfl,Au (λf=>?_) (λf=>?_)⟩
  ·have z:(l.getD k (1,1)).1=0:=by injection f
   rw [sC z] at a;exact ⟨λw x=>∃ y,y<k+1/\_,λ_ _ h=>h,k,⋯,by rw [show ((k+1:Nat):Int) - 1=(k:Int) by omega],rfl,a,⋯⟩
  ·have z:(l.getD k (1,1)).1≠0:=λz=>f (by rw [z]);rw [sB z] at a;exact SF d j a.symm q
 ·have z:m=0:=by omega
  subst z;exact SF d j a.symm q
def Zv {l:cJ} {i:Nat} {q:Nu} (h:l[i]?=some q):(l.take (i+1)).foldl (λB q=>B*(q.2 / ((Int.gcd B q.2:Nat):Int))) 1=(l.take i).foldl (λB q=>B*(q.2 / ((Int.gcd B q.2:Nat):Int))) 1*(q.2 / ((Int.gcd ((l.take i).foldl (λB q=>B*(q.2 / ((Int.gcd B q.2:Nat):Int))) 1) q.2:Nat):Int)):=by
 rw [FV,h,List.foldl_append];rfl
def Hf {a b:Type} {l:List a} {i:Nat} {q:a} (f:a->b) (h:l[i]?=some q):(l.take (i+1)).map f=(l.take i).map f++[f q]:=by
 rw [FV,h,DC];rfl
def SG (a b:Nat):(if (b:Int) > (a:Int) then (b:Int) else (a:Int)).toNat=max a b:=by split <;> omega
def MM {a:Type} (f:Nat->a) (i:Nat):(List.range (i+1)).map f=(List.range i).map f++[f i]:=by rw [List.range_succ,DC];rfl
def Dc (n:Nat) (f:dh):(At n f).length=n:=by unfold At;rw [AL,AL,BK]
def DL {n k:Nat} (f:dh) (h:k<n):(At n f)[k]?=some (.int (f k)):=by
 unfold At;rw [Aj,Aj,DE h];rfl
def Hg {n k:Nat} {f g:dh} {z:Int} (h:k<n) (b:g k=z) (c:∀ i,i<n->i≠k->g i=f i):(At n f).set k (.int z)=At n g:=by
 apply List.ext_getElem?;intro i;by_cases a:i<n
 ·by_cases e:i=k
  ·subst e;rw [List.getElem?_set_self (by rw [Dc];exact a),DL g a,b]
  ·rw [List.getElem?_set_ne (λz=>e z.symm),DL f a,DL g a,c i a e]
 ·rw [CC (by rw [List.length_set,Dc];omega),CC (by rw [Dc];omega)]
def Im {n:Nat} {f g:dh} (h:∀ i,i<n->g i=f i):At n f=At n g:=by
 apply List.ext_getElem?;intro i;by_cases a:i<n
 ·rw [DL f a,DL g a,h i a]
 ·rw [CC (by rw [Dc];omega),CC (by rw [Dc];omega)]
def MN (n:Nat):(List.replicate n [V.int 0]).flatten=At n λ_=>0:=by
 rw [IZ];apply List.ext_getElem?;intro i;by_cases a:i<n
 ·rw [DL _ a,ER,sC a]
 ·rw [ER,sB a,CC (by rw [Dc];omega)]
def Gp {n k:Nat} {i:Int} (e:i=(k:Int)) (h:k<n):av n i=some k:=by
 subst e;unfold av;rw [sC ⋯,sC ⋯];simp
def Zw {a:Type} {n k:Nat} (f:Nat->a) (h:k<n):((List.range n).map f)[k]?=some (f k):=by
 rw [Aj,DE h];rfl
def Pl.same {H c:Hp} {r:Addr} {L:cJ} (h:Pl H r L) (s:Same H c):Pl c r L:=let ⟨d,a,b⟩:=h;⟨d,s _ _ a,b.tp (D_ s)⟩
def Pl.tp {H c:Hp} {r:Addr} {L:cJ} (h:Pl H r L) (s:Tp H c):Pl c r L:=let ⟨d,a,b⟩:=h;⟨d,s _ _ a,b.tp s⟩
def F7 {m n:Nat} {x y:Int} (a:Bd m x) (b:Bd n y) (c:m<=60000000:=by decide) (d:n<=60000000:=by decide):IntMulOk x y:=DA (a.mono c) (b.mono d)
def Io (ns:cP) (m:Nat):C9 ns (m+1)=if ns.getD m 1=0 then C9 ns m else m+1:=rfl
def Zx (h:HU K vs H Q E):PD K { nx:=λ_ d=>Q .non d,rt:=Q } (L2.start ["row","many"] vs) H:=by
 obtain ⟨p,a,rfl,hp,q⟩:=h;unfold PD;rwa [hp]
 have b:∀ m:Nat,m<=a.length->C9 a m=C9 a a.length->C9 a m=m->∀ r,H r=none->Q (V.ref r) (upd H r (.lst (BU (a.map V.int) none (some (m:Int))))):=λm j n o r u=>by
  rw [Lo (by rw [AL];exact j),<-List.map_take,<-o,n];exact q r u
 refine Ea (λm g d=>g=[some (.ref p),some (.int (m:Int))]/\d=H/\C9 a m=C9 a a.length/\m<=a.length) a.length ⟨by rw [AL],rfl,rfl,AU _⟩ ?_;rintro m g d ⟨rfl,rfl,e,i⟩;rwa [hp];refine Au (λc=>?_) (λc=>?_)
 ·obtain ⟨k,rfl⟩:∃ k,m=k+1:=⟨m - 1,⋯⟩
  have v:(a.map V.int)[k]?=some (V.int (a.getD k 1)):=by
   rw [Aj,Aw ⋯,AT,Aw ⋯];rfl
  refine ⟨_,DJ ⋯ v,rfl,Au (λf=>?_) (λf=>?_)⟩
  ·have z:a.getD k 1=0:=by injection f
   rw [Io,sC z] at e;exact ⟨λw x=>∃ y,y<k+1/\_,λ_ _ h=>h,k,⋯,by rw [show ((k+1:Nat):Int) - 1=(k:Int) by omega],rfl,e,⋯⟩
  ·have z:a.getD k 1≠0:=λz=>f (by rw [z]);exact b (k+1) i e (by rw [Io,sB z])
 ·have z:m=0:=by omega
  subst z;exact b 0 i e rfl
theorem MO (ns:cP):∀ m,C9 ns m<=m
 | 0=>AU 0
 | m+1=>by
   rw [Io];split
   ·exact Nat.le_succ_of_le (MO ns m)
   ·exact AU _
def MP {ns:cP}:(Cu ns).length=C9 ns ns.length:=by
 unfold Cu;rw [CT,Nat.min_eq_left (MO ns ns.length)]
def SH {ns:cP} (k:Nat):(Cu ns).getD k 0=ns.getD k 0:=by
 have g:∀ (m:Nat),m<=ns.length->(∀ j,m<=j->j<ns.length->ns.getD j 0=0)->∀ j,C9 ns m<=j->j<ns.length->ns.getD j 0=0:=by
  intro m
  induction m with
  | zero=>intro _ h j i c;exact h j ⋯ c
  | succ m n=>
    intro o h j d f;rw [Io] at d;split at d
    ·rename_i z;refine n ⋯ (λj i c=>?_) j d f;by_cases e:j=m
     ·subst e;rw [AT,Aw c] at z ⊢;exact z
     ·exact h j ⋯ c
    ·exact h j d f
 by_cases d:k<C9 ns ns.length
 ·unfold Cu;rw [AT,AT,List.getElem?_take_of_lt d]
 ·have e:(Cu ns).getD k 0=0:=by
   rw [AT,CC (by rw [MP];omega)];rfl
  rw [e];by_cases f:k<ns.length
  ·exact (g ns.length (AU _) (λj a b=>absurd b ⋯) k ⋯ f).symm
  ·rw [AT,CC ⋯];rfl
def MS {n:Nat} {z g:Int} (h:g∣z) (b:Bd n z):Bd n (z / g):=by
 by_cases a:z=0
 ·rw [a,Int.zero_ediv];exact Ci n
 ·exact DH a (Int.ediv_dvd_of_dvd h) b
def SI {z g:Int} (a:g≠0) (h:g∣z):((z / g:Int):Rat)=(z:Rat) / (g:Rat):=by
 obtain ⟨y,rfl⟩:=h;rw [HE _ a];have:=Aq a;push_cast;ext
theorem SJ {ns:cP} {g:Int} (h:∀ z∈ns,g∣z) (k:Nat):g∣ns.getD k 0:=by
 rw [AT];cases e:ns[k]? with
 | none=>exact Co g
 | some z=>exact h z (BV e)
def KK {m:cJ} (b:AV m) (f:Nz m) (h:1<=m.length):(AJ m).getD (m.length - 1) 0≠0:=by
 rw [Jk,Oh];have a:m.length - 1<m.length:=by omega
 have q:=f m[m.length - 1] (by rw [Es];exact Aw a);have e:AR m (m.length - 1)=m[m.length - 1]:=by unfold AR;rw [AT,Aw a];rfl
 rw [e];refine Bg q ?_;have o:=Bj b;have d:=o.2 m[m.length - 1] (Er a);obtain ⟨y,c⟩:=d;have g:=(b m[m.length - 1] (Er a)).pos;rw [c,HE _ (AW g)];intro z;rw [z,Int.mul_zero] at c;have:=o.1;omega
def MT {xs:cN} {v:V} (h:1<=xs.length) (e:xs[xs.length - 1]?=some v):L_ xs (-1)=some v:=by
 unfold L_ av;rw [sB ∅,sC ⋯,show (-1+(xs.length:Int)).toNat=xs.length - 1 by omega];exact e
def Hh {n m:Int} (h:0<m):AX n m=T_ n m:=by unfold AX;rw [sB ⋯]
def Zy (h:CY K vs H Q E):QW K { nx:=λ_ j=>Q .non j,rt:=Q } (L2.start ["top","bottom","shared"] vs) H:=by
 obtain ⟨a,b,rfl,d,q⟩:=h;unfold QW;rwa []
 have f:∀ s:Int,(s=if b<0 then -((Int.gcd a b:Nat):Int) else ((Int.gcd a b:Nat):Int))->Jg a s/\Jg b s/\2<=sizeLine/\∀ (p:Addr),H p=none->Q (V.ref p) (upd H p (.tup [.int (a.fdiv s),.int (b.fdiv s)])):=λs k=>by
  obtain ⟨g,n,i,m,o,r⟩:=K3 d k
  have e:AX a b=(a.fdiv s,b.fdiv s):=by
   refine FA (D2 d) i ?_;rw [Ee d,LW (q:=(a.fdiv s,b.fdiv s)) (AW i.pos) d m]
  rw [e] at q;exact ⟨g,g,sz ∅,q⟩
 refine Au (λc=>?_) (λc=>?_)
 ·exact f _ (by rw [sC c])
 ·exact f _ (by rw [sB c])
def Zz (h:Ei K vs H Q E):Qc K { nx:=λ_ d=>Q .non d,rt:=Q } (L2.start ["P","bottom","number"] vs) H:=by
 obtain ⟨p,f,l,M,rfl,hp,w,k,j,A,J,hl,q⟩:=h;unfold Qc;rwa [hp];have D:=w.length;have L:=(Bj k).1;have N:=DH (AW j.1) (Oi k j) A;have F:∀ q∈l,Bd 400000 q.2:=λq m=>DH (AW j.1) (j.2 q m) A;refine ⟨⟨_,SqT.of hp⟩,ForT.by (xs:=f) (λi n d=>∃ x,n=[some (.ref p),some (.int ((l.take i).foldl (λB q=>B*(q.2 / ((Int.gcd B q.2:Nat):Int))) 1)),x]/\d=H) ⟨none,rfl,rfl⟩ ?_ ?_ ?_⟩
 ·rintro i n d _ ⟨x,rfl,rfl⟩;exact hp
 ·rintro i x n d o ⟨y,rfl,rfl⟩;obtain ⟨z,c,O,rfl,g⟩:=w.get o;have u:=k z (BV c);have G:=F z (BV c);obtain ⟨P,R⟩:=Lc (M:=M) (l.take i) 1 (λq m=>⟨(k q (GI m)).pos,j.2 q (GI m)⟩) ∅ (Int.one_dvd M);have S:=DH (AW j.1) R A;obtain ⟨s1,_,_,T,U,s6⟩:=LR P u.pos;rwa [g];refine ⟨U,F7 S (G.le T),?_,_,rfl⟩;rw [Zv c]
 ·rintro n d ⟨x,rfl,rfl⟩;rw [D,Di];rwa [hp];refine ⟨⟨_,SqT.of hp⟩,CompJ.tup (xs:=f) (λi v b=>i<=f.length/\v=((AJ l).take i).map V.int/\b=d) ⟨Ai _,rfl,rfl⟩ ?_ ?_ ?_⟩
  ·rintro i v b ⟨I,rfl,rfl⟩;refine ⟨I,sz ?_,hp⟩;rw [AL,CT];omega
  ·rintro i x v b o ⟨I,rfl,rfl⟩;obtain ⟨z,c,O,rfl,g⟩:=w.get o;have u:=k z (BV c);have G:=F z (BV c);have W:=J z (BV c);have X:i<f.length:=(CK.mp o).1;rwa [g];have Y:l.foldl (λB q=>B*(q.2 / ((Int.gcd B q.2:Nat):Int))) 1=AY l:=rfl;rw [Y];have Z:(AJ l)[i]?=some (z.1*(AY l / z.2)):=by unfold AJ;rw [Aj,c];rfl
   refine ⟨u.pos,F7 W (N.le (YI L u.pos)),⋯,?_⟩;rw [Hf V.int Z]
  ·rintro v b ⟨_,rfl,rfl⟩ a ha;refine ⟨sz ∅,λr C=>?_⟩
   have e:(AJ l).take f.length=AJ l:=by
    rw [D,show l.length=(AJ l).length by unfold AJ;rw [AL],Di]
   rw [e] at C ⊢;have s:=(AO ha (.lst ((AJ l).map V.int))).trans (AO C (.tup [.ref a,.int (AY l)]));exact q r a _ s upd_same (AO C _ _ _ upd_same)
def Z1 (h:Gn K vs H Q E):Qe K { nx:=λ_ b=>Q .non b,rt:=Q } (L2.start ["row","bottom"] vs) H:=by
 obtain ⟨p,d,B,rfl,hp,v,w,q⟩:=h;unfold Qe;rwa [hp];refine ⟨⟨_,SqL.of hp⟩,CompJ.lst (xs:=d.map V.int) (λi f b=>i<=d.length/\Same H b/\Nums b f ((d.take i).map λn=>AX n B)) ⟨Ai _,Same.refl H,trivial⟩ ?_ ?_ ?_⟩
 ·rintro i f b ⟨o,g,c⟩;refine ⟨by rw [AL];exact o,sz ?_,SqL.of (g _ _ hp)⟩;rw [c.length,AL,CT];omega
 ·rintro i x f b j ⟨o,g,c⟩;rw [Aj] at j;cases e:d[i]? with
  | none=>rw [e] at j;cases j
  | some n=>
    rw [e] at j;obtain rfl:V.int n=x:=sJ j;have y:i<d.length:=(CK.mp e).1;rwa [];refine ⟨v,λr k=>⟨⋯,g.trans (AO k _),?_⟩⟩;rw [Hf _ e];exact (c.tp (D_ (AO k _))).append (Nums.one Fw)
 ·rintro f b ⟨_,g,c⟩ a z;rw [AL,Di] at c;have u:=AO z (.lst f);rwa [];refine ⟨_,c.tp (D_ u),by rw [AL];exact w,λr A m C k D=>q r A m ((g.trans u).trans C) k D⟩
def SK {b:Nat} {l:cJ} {M:Int} (d:AV l) (h:Ov l M) (e:∀ z∈N_ l M,Bd b z):∀ q∈l,Bd b q.1:=λq a=>by
 refine (e (q.1*(M / q.2)) (BG.mpr ⟨q,a,rfl⟩)).le ?_;rw [By];obtain ⟨y,c⟩:=h.2 q a;have f:=(d q a).pos;have i:=h.1;have:M / q.2=y:=by rw [c,HE _ (AW f)]
 rw [this];refine Nat.le_mul_of_pos_right _ ?_;rcases Ds y.natAbs with z | z
 ·have g:y=0:=by omega
  rw [g] at c;omega
 ·exact z
def Gs {g f:cP} (b:Lz g) (o:Lz f) (p:MQ (co g) (co f)):g.length<=f.length:=by
 obtain ⟨c,q,A,d⟩:=p;rcases BF f.length g.length with y | y
 ·exfalso;rcases D3 A with z | ⟨B,h,_,r⟩
  ·have:c*co f (f.length - 1)=0:=by rw [d,B5,Fu g z]
   rcases Int.mul_eq_zero.mp this with e | e
   ·exact q e
   ·exact o.2 e
  ·have u:∀ k,c*co f k=cvL B (co g) k:=λk=>by rw [d,B5,A8 (λj=>(r j).symm) g k,<-B5]
   have v:=h.1;have G:=b.1;have m:B≠[]:=BD.mp v;obtain ⟨X,t,a⟩:∃ X t,B=X++[t]:=⟨B.dropLast,B.getLast m,(HF m).symm⟩;have w:X.length=B.length - 1:=by rw [a];simp
   have C:co B (B.length - 1)=t:=by rw [<-w,a];unfold co;simp [AT]
   have e:=u (B.length - 1+(g.length - 1));rw [Ae ⋯,a,DZ,<-a,EM (n:=g.length) (λi D=>Ae D) X _ ⋯] at e;unfold Av at e;rw [sC ⋯,show B.length - 1+(g.length - 1) - X.length=g.length - 1 by omega] at e;have F:t*co g (g.length - 1)=0:=by omega
   rcases Int.mul_eq_zero.mp F with x | x
   ·exact h.2 (C.trans x)
   ·exact b.2 x
 ·exact y
theorem php:∀ (m n:Nat) (f:Nat->Nat),(∀ i,i<n->f i<m)->m<n->∃ i j,i<j/\j<n/\f i=f j
 | 0,n,f,h,d=>absurd (h 0 d) (Nat.not_lt_zero _)
 | m+1,n,f,h,d=>by
   obtain ⟨n,rfl⟩:∃ k,n=k+1:=⟨n - 1,⋯⟩;by_cases c:∃ i,i<n/\f i=f n
   ·obtain ⟨i,a,e⟩:=c;exact ⟨i,n,a,⋯,e⟩
   ·have c:∀ i,i<n->f i≠f n:=λi a e=>c ⟨i,a,e⟩;have o:=h n ⋯
    obtain ⟨i,j,b,g,e⟩:=php m n (λi=>if f n<f i then f i - 1 else f i) (λi a=>by
     have p:=h i ⋯;have q:=c i a;show (if f n<f i then f i - 1 else f i)<m;split <;> omega) ⋯
    refine ⟨i,j,b,⋯,?_⟩;have r:=c i ⋯;have u:=c j g;have e:(if f n<f i then f i - 1 else f i)=(if f n<f j then f j - 1 else f j):=e;split at e <;> split at e <;> omega
noncomputable def aU (M:Nat):Nat->(Nat->Nat)->Nat
 | 0,_=>0
 | N+1,e=>e 0+M*aU M N (λk=>e (k+1))
theorem SL {M:Nat}:∀ (N:Nat) (e:Nat->Nat),(∀ k,k<N->e k<M)->aU M N e<M ^ N
 | 0,_,_=>Nat.one_pos
 | N+1,e,h=>by
   have a:=SL N (λk=>e (k+1)) (λk hk=>h (k+1) ⋯);have c:=h 0 ⋯;show e 0+M*aU M N (λk=>e (k+1))<M ^ (N+1);have b:M*(aU M N (λk=>e (k+1))+1)<=M*M ^ N:=C5 M a;rw [CI,C3 (M ^ N)];rw [Nat.mul_add,Nat.mul_one] at b;omega
def SM {M a b x y:Nat} (c:a<M) (d:b<M) (h:a+M*x=b+M*y):a=b/\x=y:=by
 have f:(a+M*x) % M=a:=by rw [Nat.add_mul_mod_self_left,Nat.mod_eq_of_lt c]
 have g:(b+M*y) % M=b:=by rw [Nat.add_mul_mod_self_left,Nat.mod_eq_of_lt d]
 have e:a=b:=by rw [<-f,h,g]
 subst e;exact ⟨rfl,Nat.eq_of_mul_eq_mul_left ⋯ (Nat.add_left_cancel h)⟩
theorem SN {M:Nat}:∀ (N:Nat) (e a:Nat->Nat),(∀ k,k<N->e k<M)->(∀ k,k<N->a k<M)->aU M N e=aU M N a->∀ k,k<N->e k=a k
 | 0,_,_,_,_,_,k,hk=>absurd hk (Nat.not_lt_zero _)
 | N+1,e,a,h,b,q,k,hk=>by
   obtain ⟨c,d⟩:=SM (h 0 ⋯) (b 0 ⋯) q;cases k with
   | zero=>exact c
   | succ k=>exact SN N _ _ (λk hk=>h (k+1) ⋯) (λk hk=>b (k+1) ⋯) d k ⋯
noncomputable def R_ (p:Nat):Nat->Nat->cP
 | 0,_=>[]
 | N+1,t=>((t % p:Nat):Int)::R_ p N (t / p)
theorem MU (p:Nat):∀ (N t:Nat),(R_ p N t).length=N
 | 0,_=>rfl
 | N+1,t=>by show (R_ p N (t / p)).length+1=N+1;rw [MU p N]
theorem MV {p:Nat} (a:0<p):∀ (N t:Nat),∀ z∈R_ p N t,0<=z/\z<(p:Int)
 | 0,_,z,h=>by cases h
 | N+1,t,z,h=>by
   rcases Bx.mp h with rfl | h
   ·have:=Nat.mod_lt t a;omega
   ·exact MV a N _ z h
theorem SO {p:Nat} (e:0<p):∀ (N t s:Nat),t<p ^ N->s<p ^ N->R_ p N t=R_ p N s->t=s
 | 0,t,s,c,d,_=>by rw [Nat.pow_zero] at c d;omega
 | N+1,t,s,c,d,h=>by
   injection h with a b;rw [CI,C3] at c d;have:=SO e N (t / p) (s / p) (Nat.div_lt_of_lt_mul c) (Nat.div_lt_of_lt_mul d) b;have f:=Nat.div_add_mod t p;have g:=Nat.div_add_mod s p;have a:t % p=s % p:=by exact_mod_cast a
   rw [<-f,<-g,this,a]
theorem KL {g:dh} {h q:Nat} (c:∀ k,(g k).natAbs<=h):∀ (a:cP),(∀ z∈a,z.natAbs<=q)->∀ k,(cvL a g k).natAbs<=a.length*(q*h)
 | [],_,k=>by show (0:Int).natAbs<=_;simp
 | x::a,b,0=>by
   rw [Ap];have d:(x*g 0).natAbs<=q*h:=by rw [By];exact BN (b x (CH ..)) (c 0)
   have:(x::a).length*(q*h)=a.length*(q*h)+q*h:=by rw [Cf,Du,Nat.one_mul]
   omega
 | x::a,b,k+1=>by
   rw [Ak];have d:(x*g (k+1)).natAbs<=q*h:=by rw [By];exact BN (b x (CH ..)) (c (k+1))
   have f:=KL c a (λz e=>b z (Ca _ e)) k;have:(x::a).length*(q*h)=a.length*(q*h)+q*h:=by rw [Cf,Du,Nat.one_mul]
   omega
def Z2 {A B u v:cP} (i:Lz A) (c:Lz B) (q:QI (co A) (co B) Af) (g:u.length<B.length) (j:v.length<A.length) (h:∀ k,cvL u (co A) k+cvL v (co B) k=0):(∀ k,co u k=0)/\∀ k,co v k=0:=by
 obtain ⟨d,m,U,V,b⟩:=q
 have a:∀ {A B u v U V:cP},Lz B->(∀ k,d*Af k=cvL U (co A) k+cvL V (co B) k)->u.length<B.length->(∀ k,cvL u (co A) k+cvL v (co B) k=0)->∀ k,co u k=0:=λ{A B u v U V} c b g h=>by
  rcases D3 u with z | ⟨f,n,r,o⟩
  ·exact z
  ·exfalso
   have p:MQ (co B) (co f):=by
    refine ⟨d,m,A9 (Bk V u) ((Bk U v).map ((-1)*·)),λk=>?_⟩;rw [Bq,BC,B7,B7,o k,Cr u k,<-Cj,A8 b,Ge,HP (co A) u U,HP (co B) u V]
    have e:cvL U (cvL u (co A)) k = - cvL U (cvL v (co B)) k:=by
     have:cvL U (cvL u (co A)) k+cvL U (cvL v (co B)) k=0:=by rw [<-Ge];exact Fu U h k
     omega
    rw [e];omega
   have:=Gs c n p;omega
 exact ⟨a c b g h,a (A:=B) (B:=A) (u:=v) (v:=u) (U:=V) (V:=U) i (λk=>by rw [b k];omega) j (λk=>by have:=h k;omega)⟩
def FH {a b:Int} (h:a=b):a∣b:=by rw [h];exact Dj b
theorem bu {p:Int} {f g:dh} {S:cP} (h:∀ k,p∣f k - cvL S g k):∀ (a:cP) (k:Nat),p∣cvL a f k - cvL a (cvL S g) k
 | [],k=>by show p∣(0:Int) - 0;simp
 | x::a,0=>by
   rw [Ap,Ap];have:=CM (h 0) (Int.dvd_mul_left x _);rw [Int.mul_sub] at this;refine CM this (FH ?_);omega
 | x::a,k+1=>by
   rw [Ak,Ak];have b:=CM (h (k+1)) (Int.dvd_mul_left x _);have c:=bu h a k;rw [Int.mul_sub] at b;have:=Cn b c;refine CM this (FH ?_);omega
theorem SQ:∀ (a b:cP),(A9 a b).length=max a.length b.length
 | [],b=>by show b.length=max 0 b.length;omega
 | a,[]=>by rw [Li];show a.length=max a.length 0;omega
 | x::a,y::b=>by
   show (A9 a b).length+1=max (a.length+1) (b.length+1);rw [SQ a b];omega
def SR {a b:cP} (c:a.length=b.length) (h:∀ k,co a k=co b k):a=b:=by
 refine List.ext_getElem c λi d e=>?_;have:=h i;unfold co at this;rwa [AT,AT,Aw d,Aw e] at this
def bW {A B G:cP} {p b:Nat} (hp:Pr p) (lA:Lz A) (lB:Lz B) (q:QI (co A) (co B) Af) (hA:∀ k,Bd b (co A k)) (hB:∀ k,Bd b (co B k)) (n1:2<=A.length) (m1:2<=B.length) (g2:2<=G.length) (g1:¬ (p:Int)∣co G (G.length - 1)) (dA:Dm (p:Int) (co G) (co A)) (dB:Dm (p:Int) (co G) (co B))
  (j:(2*((A.length+B.length)*2 ^ b)) ^ (A.length+B.length - 2)<p):False:=by
 have p2:=hp.two;have S:0<p:=by omega
 generalize hn:A.length - 1=n at *;generalize hm:B.length - 1=m at *;generalize hE:(A.length+B.length)*2 ^ b=E at *;have N1:A.length+B.length - 2=n+m:=by omega
 rw [N1] at j;have Y:∀ k,(co A k).natAbs<=2 ^ b:=λk=>EB (hA k);have Z:∀ k,(co B k).natAbs<=2 ^ b:=λk=>EB (hB k);have E0:0<E:=by rw [<-hE];exact Nat.mul_pos ⋯ (Nat.pow_pos ∅)
 obtain ⟨u,T⟩:∃ u:Nat->cP,∀ t,u t=(R_ p (m+n) t).take m:=⟨_,λ_=>rfl⟩;obtain ⟨v,U⟩:∃ v:Nat->cP,∀ t,v t=(R_ p (m+n) t).drop m:=⟨_,λ_=>rfl⟩;obtain ⟨f,W⟩:∃ f:Nat->dh,∀ t k,f t k=cvL (u t) (co A) k+cvL (v t) (co B) k:=⟨_,λ_ _=>rfl⟩;have J:∀ t,(u t).length=m:=λt=>by rw [T,CT,MU];omega
 have L:∀ t,(v t).length=n:=λt=>by rw [U,List.length_drop,MU];omega
 have uz:∀ t,∀ z∈u t,0<=z/\z<(p:Int):=λt z o=>MV S _ t z (GI (T t ▸ o));have vz:∀ t,∀ z∈v t,0<=z/\z<(p:Int):=λt z o=>MV S _ t z (List.mem_of_mem_drop (U t ▸ o))
 have fb:∀ t k,(f t k).natAbs<E*p:=λt k=>by
  have d:=KL (q:=p - 1) Y (u t) (λz o=>by have:=uz t z o;omega) k;have g:=KL (q:=p - 1) Z (v t) (λz o=>by have:=vz t z o;omega) k;rw [J] at d;rw [L] at g
  have h3:(f t k).natAbs<=(m+n)*((p - 1)*2 ^ b):=by
   rw [Du,W];omega
  refine DT h3 ?_;rw [<-hE];have e:(m+n)*((p - 1)*2 ^ b)=((m+n)*2 ^ b)*(p - 1):=by rw [C3 (p - 1),Nat.mul_assoc]
  rw [e];exact CZ (Nat.mul_lt_mul_of_pos_left ⋯ (Nat.mul_pos ⋯ (Nat.pow_pos ∅))) (B8 p (B8 _ ⋯))
 obtain ⟨X,r⟩:∃ X:Nat->Nat,∀ t,X t=(f t 0 / (p:Int)+(E:Int)).toNat:=⟨_,λ_=>rfl⟩;obtain ⟨O,w⟩:∃ O:Nat->Nat->Nat,∀ t k,O t k=(f t (k+1)+((E*p:Nat):Int)).toNat:=⟨_,λ_ _=>rfl⟩
 have C:∀ t,0<=f t 0 / (p:Int)+(E:Int)/\f t 0 / (p:Int)+(E:Int)<2*(E:Int):=λt=>by
  have h:=fb t 0
  have d:-((E:Int)*(p:Int))<=f t 0:=by have:((E*p:Nat):Int)=(E:Int)*(p:Int):=by push_cast;rfl
                                       omega
  have g:f t 0<(E:Int)*(p:Int):=by have:((E*p:Nat):Int)=(E:Int)*(p:Int):=by push_cast;rfl
                                   omega
  have q1:-(E:Int)<=f t 0 / (p:Int):=by
   refine (Int.le_ediv_iff_mul_le ⋯).mpr ?_;rw [Int.neg_mul];exact d
  have q2:f t 0 / (p:Int)<(E:Int):=Int.ediv_lt_of_lt_mul ⋯ g;omega
 have D:∀ t k,0<=f t (k+1)+((E*p:Nat):Int)/\f t (k+1)+((E*p:Nat):Int)<2*((E*p:Nat):Int):=λt k=>by
  have h:=fb t (k+1);omega
 have F:∀ t,X t<2*E:=λt=>by have:=C t;rw [r];omega
 have I:∀ t k,O t k<2*(E*p):=λt k=>by have:=D t k;rw [w];omega
 have cl:∀ t,X t+2*E*aU (2*(E*p)) (m+n - 1) (O t)<2*E*(2*(E*p)) ^ (m+n - 1):=λt=>by
  have d:=SL (M:=2*(E*p)) (m+n - 1) (O t) (λk _=>I t k);have g:2*E*(aU (2*(E*p)) (m+n - 1) (O t)+1)<=2*E*(2*(E*p)) ^ (m+n - 1):=C5 _ d;have h3:=F t;rw [Nat.mul_add,Nat.mul_one] at g;omega
 have R:2*E*(2*(E*p)) ^ (m+n - 1)<p ^ (m+n):=by
  obtain ⟨N,hN⟩:∃ N,m+n=N+1:=⟨m+n - 1,⋯⟩;rw [hN,Nat.add_sub_cancel];rw [Nat.add_comm n m,hN] at j
  have e:2*E*(2*(E*p)) ^ N=(2*E) ^ (N+1)*p ^ N:=by
   rw [<-Nat.mul_assoc 2 E p,Nat.mul_pow (2*E) p N,CI,C3 ((2*E) ^ N) (2*E),Nat.mul_assoc (2*E)]
  rw [e,CI p,C3 (p ^ N) p];exact Nat.mul_lt_mul_of_pos_right j (Nat.pow_pos S)
 obtain ⟨s,t,st,ht,e⟩:=php _ _ _ (λi _=>cl i) R;obtain ⟨q0,q1⟩:=SM (F s) (F t) e;have qk:=SN (m+n - 1) _ _ (λk _=>I s k) (λk _=>I t k) q1;have w0:∀ k,(co (u s) k - co (u t) k)=co (A9 (u s) ((u t).map ((-1)*·))) k:=λk=>by rw [Cr,Cr,Cr,Bq,BC];omega
 have df:∀ k,f s k - f t k=cvL (A9 (u s) ((u t).map ((-1)*·))) (co A) k+cvL (A9 (v s) ((v t).map ((-1)*·))) (co B) k:=λk=>by
  rw [Bq,Bq,BC,BC,W,W];omega
 have P:∀ k,0<k->f s k - f t k=0:=λk hk=>by
  rcases BF k (m+n) with c | c
  ·have:=qk (k - 1) ⋯;have r1:=D s (k - 1);have r2:=D t (k - 1);rw [w,w,show k - 1+1=k by omega] at this;rw [show k - 1+1=k by omega] at r1 r2;omega
  ·have z:∀ t,f t k=0:=λt=>by
    rw [W,EM (n:=A.length) (λi P=>Ae P) (u t) k (by rw [J];omega),EM (n:=B.length) (λi P=>Ae P) (v t) k (by rw [L];omega)];rfl
   rw [z,z];rfl
 have d0:(f s 0 - f t 0).natAbs<p:=by
  have r1:=C s;have r2:=C t;rw [r,r] at q0;have q0:f s 0 / (p:Int)=f t 0 / (p:Int):=by omega
  have m1:=Int.emod_add_mul_ediv (f s 0) p;have m2:=Int.emod_add_mul_ediv (f t 0) p;have b1:=BS (f s 0) (show (p:Int)≠0 by omega);have b2:=BW (f s 0) (show (0:Int)<p by omega);have b3:=BS (f t 0) (show (p:Int)≠0 by omega);have b4:=BW (f t 0) (show (0:Int)<p by omega);rw [q0] at m1;omega
 have dm:Dm (p:Int) (co G) (co [f s 0 - f t 0]):=by
  obtain ⟨SA,a0⟩:=dA;obtain ⟨SB,a1⟩:=dB;refine ⟨A9 (Bk (A9 (u s) ((u t).map ((-1)*·))) SA) (Bk (A9 (v s) ((v t).map ((-1)*·))) SB),λk=>?_⟩
  have e:co [f s 0 - f t 0] k=f s k - f t k:=by
   cases k with
   | zero=>rfl
   | succ k=>rw [P (k+1) ⋯];exact Ae (by simp)
  rw [e,df,Bq (co G),B7,B7];have d:=bu (p:=(p:Int)) a0 (A9 (u s) ((u t).map ((-1)*·))) k;have g:=bu (p:=(p:Int)) a1 (A9 (v s) ((v t).map ((-1)*·))) k;have:=Cn d g;refine CM this (FH ?_);omega
 have z0:f s 0 - f t 0=0:=by
  by_cases c:(p:Int)∣f s 0 - f t 0
  ·obtain ⟨y,hy⟩:=c;rcases Int.lt_trichotomy y 0 with z | z | z
   ·have:(p:Int)*y<=(p:Int)*(-1):=IB ⋯ ⋯;omega
   ·rw [hy,z];omega
   ·have:(p:Int)*1<=(p:Int)*y:=IB ⋯ ⋯;omega
  ·exfalso;have:=Dm.len hp ⋯ g1 dm ⟨0,c⟩;simp at this;omega
 have all:∀ k,cvL (A9 (u s) ((u t).map ((-1)*·))) (co A) k+cvL (A9 (v s) ((v t).map ((-1)*·))) (co B) k=0:=λk=>by
  rw [<-df];cases k with
  | zero=>exact z0
  | succ k=>exact P (k+1) ⋯
 have ll:∀ {a c:cP} {x:Nat},a.length=x->c.length=x->(A9 a (c.map ((-1)*·))).length=x:=λ{a c x} d g=>by
  rw [SQ,AL,d,g];omega
 obtain ⟨c1,c2⟩:=Z2 lA lB q (by rw [ll (J s) (J t)];omega) (by rw [ll (L s) (L t)];omega) all;have eu:u s=u t:=SR (by rw [J,J]) λk=>by have:=c1 k;rw [<-w0] at this;omega
 have ev:v s=v t:=SR (by rw [L,L]) λk=>by
  have:=c2 k;rw [Cr,Bq,BC,<-Cr,<-Cr] at this;omega
 have:R_ p (m+n) s=R_ p (m+n) t:=by
  rw [<-List.take_append_drop m (R_ p (m+n) s),<-List.take_append_drop m (R_ p (m+n) t)];rw [<-T,<-U,<-T,<-U,eu,ev]
 have:=SO S _ _ _ ⋯ ⋯ this;omega
theorem SS:∀ (a l:cP),a.Nodup->(∀ t∈a,evI l t=0)->l.length<=a.length->∀ k,co l k=0
 | [],l,_,_,h,k=>Ae (by have:l.length=0:=by simpa using h
                        omega)
 | t::a,l,i,d,j,k=>by
   have b:=List.nodup_cons.mp i;have e:=d t (CH ..);have sd:co (V_ l t) ((V_ l t).length - 1)=0:=by rw [Jp];exact Yo l t
   have f:=Lk sd
   have z:∀ k,co (V_ l t) k=0:=λk=>by
    rw [<-f k];refine SS a (V_ l t).dropLast b.2 (λx g=>?_) (by rw [List.length_dropLast,Jp];simp at j;omega) k;rw [Ll _ _ x f];have c:=Ln l t x;rw [d x (Ca _ g),e] at c
    have m:x - t≠0:=λq=>b.1 (by have:x=t:=by omega
                                rw [<-this];exact g)
    have c:(x - t)*evI (V_ l t) x=0:=by omega
    rcases Int.mul_eq_zero.mp c with q | q
    ·exact absurd q m
    ·exact q
   rw [Jq l t k,z k];split
   ·rw [e];omega
   ·rw [z (k - 1)];omega
def Z3 (n:Nat):((List.range (2*n+1)).map λi:Nat=>(i:Int) - (n:Int)).Nodup:=by
 unfold List.Nodup;rw [List.pairwise_map];exact (List.nodup_range (n:=2*n+1)).imp λh q=>h ⋯
theorem ST (f:Int->Bool):∀ P:cP,(P.filter f).length+(P.filter λx=>!f x).length=P.length
 | []=>rfl
 | x::P=>by
   have:=ST f P;rw [List.filter_cons,List.filter_cons,Cf];cases f x
   ·simp;omega
   ·simp;omega
def Z4 {r:cP} {n:Nat} (v:∃ k,co r k≠0) (C:r.length<=n):∃ x:dh,(∀ i,i<=n->evI r (x i)≠0/\(x i).natAbs<=n)/\∀ i j,i<=n->j<=n->i≠j->x i≠x j:=by
 let P:cP:=(List.range (2*n+1)).map λi:Nat=>(i:Int) - (n:Int);have D:P.length=2*n+1:=by show ((List.range (2*n+1)).map λi:Nat=>(i:Int) - (n:Int)).length=_;rw [AL,BK]
 have p:P.Nodup:=Z3 n
 have w:∀ x∈P,x.natAbs<=n:=λx y=>by
  obtain ⟨i,d,rfl⟩:=BG.mp y;have:=List.mem_range.mp d;omega
 have f:(P.filter λx=>decide (evI r x=0)).length+(P.filter λx=>!decide (evI r x=0)).length=P.length:=by
  exact ST _ P
 have z:(P.filter λx=>decide (evI r x=0)).length<r.length:=by
  rcases BF (P.filter λx=>decide (evI r x=0)).length r.length with c | c
  ·exact c
  ·exfalso;obtain ⟨k,hk⟩:=v;exact hk (SS _ r (p.filter _) (λt A=>by simpa using (List.mem_filter.mp A).2) c k)
 let a:=P.filter λx=>!decide (evI r x=0)
 have F:n+1<=a.length:=by
  show n+1<=(P.filter λx=>!decide (evI r x=0)).length;omega
 have B:a.Nodup:=p.filter _;refine ⟨λi=>a.getD i 0,λi d=>?_,λi j d G g e=>?_⟩
 ·have b:i<a.length:=by omega
  have e:a.getD i 0=a[i]:=by rw [AT,Aw b];rfl
  show evI r (a.getD i 0)≠0/\(a.getD i 0).natAbs<=n;rw [e];have m:=List.mem_filter.mp (Er b);exact ⟨by simpa using m.2,w _ m.1⟩
 ·have h:i<a.length:=by omega
  have o:j<a.length:=by omega
  have e:a.getD i 0=a.getD j 0:=e;rw [AT,AT,Aw h,Aw o] at e;have e:a[i]=a[j]:=e;have u:=List.pairwise_iff_getElem.mp B;rcases Nat.lt_or_gt_of_ne g with q | q
  ·exact u i j h o q e
  ·exact u j i o h q e.symm
def Ip {b n c:Nat} {r g A:cP} (o:∀ z∈r,Bd b z) (p:∃ k,co r k≠0) (f:r.length<=n) (B:g.length<=n) (C:n<2 ^ c) (q:∀ k,co r k=cvL A (co g) k):∀ k,Bd (b+n*(2*c+4)) (co g k):=by
 by_cases D:g.length=0
 ·intro k;rw [Ae ⋯];exact Ci _
 obtain ⟨x,h,u⟩:=Z4 p f
 have m:∀ i,i<=n->Bd c (x i):=λi a=>by
  show (x i).natAbs<2 ^ c;have:=(h i a).2;omega
 intro k
 have:=aI (c:=c) (g.length - 1) g (b+n*(c+1)) x (λk hk=>Ae ⋯) (λi a=>m i ⋯) (λi j a F d=>u i j ⋯ ⋯ d) (λi a=>by
  have v:=(h i ⋯).1;have e:=Yn q (x i);have w:=Ot (m i ⋯) r o
  have y:(evI g (x i)).natAbs<=(evI r (x i)).natAbs:=by
   rw [e,By];refine Nat.le_mul_of_pos_left _ ?_;rcases Ds (evI A (x i)).natAbs with z | z
   ·exact absurd (by rw [e,Int.natAbs_eq_zero.mp z];omega) v
   ·exact z
  refine (w.le y).mono ?_;have:=B8 (c+1) f;omega) k
 refine this.mono ?_;have G:(g.length - 1)*(c+3)<=n*(c+3):=B8 (c+3) ⋯;have I:n*(2*c+4)=n*(c+1)+n*(c+3):=by rw [<-Nat.mul_add];congr 1;omega
 omega
def Iq {a g:cP} (b:Lz a) (c:Lz g):cvL a (co g) (a.length - 1+(g.length - 1))=co a (a.length - 1)*co g (g.length - 1):=by
 obtain ⟨i,s,rfl⟩:∃ i s,a=i++[s]:=⟨a.dropLast,a.getLast (BD.mp b.1),(HF _).symm⟩;have e:(i++[s]).length - 1=i.length:=by rw [DB];simp
 have d:co (i++[s]) i.length=s:=by
  unfold co;rw [AT,List.getElem?_append_right (AU _),Nat.sub_self];rfl
 rw [e,d,DZ,EM (n:=g.length) (λi f=>Ae f) i _ (by have:=c.1;omega)];unfold Av;rw [sC ⋯,show i.length+(g.length - 1) - i.length=g.length - 1 by omega];omega
def MW {X a:cP} (b:Lz a) {T:Nat} (h:∀ k,T+(a.length - 1)<=k->cvL X (co a) k=0):(∀ j,T<=j->co X j=0)/\∀ s,T=s+1->cvL X (co a) (s+(a.length - 1))=co X s*co a (a.length - 1):=by
 rcases D3 X with z | ⟨Y,d,_,e⟩
 ·refine ⟨λj _=>z j,λs _=>?_⟩;rw [B5,Fu a z,z s];omega
 ·have f:∀ k,cvL X (co a) k=cvL Y (co a) k:=λk=>by rw [B5,A8 (λj=>(e j).symm) a k,<-B5]
  have g:=Iq d b
  have o:Y.length<=T:=by
   rcases BF T Y.length with c | c
   ·exfalso;have:=h (Y.length - 1+(a.length - 1)) ⋯;rw [f,g] at this;exact Bg d.2 b.2 this
   ·exact c
  refine ⟨λj p=>by rw [<-e];exact Ae ⋯,λs q=>?_⟩;rw [f,<-e];have r:=d.1;rcases BF Y.length T with c | c
  ·rw [Ae ⋯,EM (n:=a.length) (λi m=>Ae m) Y _ (by have:=b.1;omega)];omega
  ·rw [show s=Y.length - 1 by omega];exact g
def D4 {m n:Nat} {x y:Int} (a:Bd m x) (b:Bd n y) (c:m<=60000000:=by omega) (d:n<=60000000:=by omega):IntMulOk x y:=DA (a.mono c) (b.mono d)
def Z5 {ns:cP} {m:Int} (a:cP) (b:a=(ns.filter (λz=>!decide (z=0))).map λz=>if z<0 then -z else z) (h:a=[]/\m=0\/m∈a) (d:Int):(∀ z∈ns,d∣z)->d∣m:=by
 intro c;rcases h with ⟨_,e⟩ | h
 ·rw [e];exact Co d
 ·rw [b] at h;obtain ⟨z,f,rfl⟩:=BG.mp h;have:=c z (List.mem_filter.mp f).1;show d∣if z<0 then -z else z
  split
  ·exact Int.dvd_neg.mpr this
  ·exact this
def Z6 (h:Ic K vs H Q E):PB K { nx:=λ_ j=>Q .non j,rt:=Q } (L2.start ["row","start","found","whole"] vs) H:=by
 obtain ⟨p,b,r,rfl,hp,X,k⟩:=h;unfold PB;rwa [];refine ⟨⟨_,SqL.of hp⟩,CompF.lst (xs:=b.map V.int) (λi u j=>i<=b.length/\j=H/\u=(((b.take i).filter (λz=>!decide (z=0))).map λz=>if z<0 then -z else z).map V.int) ⟨Ai _,rfl,rfl⟩ ?_ ?_ ?_⟩
 ·rintro i u j ⟨q,rfl,rfl⟩;refine ⟨by rw [AL];exact q,sz ?_,SqL.of hp⟩;rw [AL,AL];exact A7 (List.length_filter_le _ _) (by rw [CT];omega)
 ·rintro i x u j f ⟨q,rfl,rfl⟩;rw [Aj] at f;cases e:b[i]? with
  | none=>rw [e] at f;cases f
  | some n=>
    rw [e] at f;obtain rfl:V.int n=x:=sJ f;have N:i<b.length:=(CK.mp e).1;have L:b.take (i+1)=b.take i++[n]:=by rw [FV,e];rfl
    rwa [];refine Au (λc=>?_) (λc=>?_)
    ·refine ⟨⋯,?_⟩;have G:¬ n=0:=by simpa using c
     simp [L,List.filter_append,G]
    ·refine ⟨⋯,?_⟩;have G:n=0:=by simpa using c
     simp [L,List.filter_append,G]
 ·rintro u j ⟨_,rfl,rfl⟩ a O;rw [AL,Di];have v:=AO O (.lst (((b.filter (λz=>!decide (z=0))).map λz=>if z<0 then -z else z).map V.int));have o:=v _ _ hp;refine ⟨_,rfl,_,upd_same,λm P=>?_⟩;have R:=Z5 _ rfl P;generalize S:upd j a (.lst (((b.filter (λz=>!decide (z=0))).map λz=>if z<0 then -z else z).map V.int))=T at v o ⊢;refine ⟨⟨_,SqL.of o⟩,ForL.by (xs:=b.map V.int) (λi w A=>∃ (g:Int) (x:cO),w=[some (.ref p),some (.int r),some (.int g),x]/\A=T/\0<=g/\g∣r/\(∀ z∈b.take i,g∣z)/\(∀ d:Int,d∣r->(∀ z∈b,d∣z)->d∣g)) ⟨_,none,rfl,rfl,⋯,EE m r,λz B=>(by simp at B),λd q C=>Int.dvd_coe_gcd (R d C) q⟩ ?_ ?_ ?_⟩
  ·rintro i w A _ ⟨g,x,rfl,rfl,_⟩;exact SqL.of o
  ·rintro i x w A f ⟨g,y,rfl,rfl,M,I,D,F⟩;rw [Aj] at f;cases e:b[i]? with
   | none=>rw [e] at f;cases f
   | some n=>
     rw [e] at f;obtain rfl:V.int n=x:=sJ f;rwa [];refine Au (λc=>?_) (λc=>?_)
     ·have U:g=1:=by simpa using c
      subst U;exact k 1 _ v ∅ (Int.one_dvd _) (λz _=>Int.one_dvd z) F
     ·refine ⟨⋯,CM (EE n g) I,λz B=>?_,λd q C=>Int.dvd_coe_gcd (C n (BV e)) (F d q C)⟩;rw [FV,e] at B;rcases EC.mp B with J | J
      ·exact CM (EE n g) (D z J)
      ·have W:z=n:=by simpa using J
       rw [W];exact Ep n g
  ·rintro w A ⟨g,x,rfl,rfl,M,I,D,F⟩;rw [AL,Di] at D;rwa [];exact k g _ v M I D F
def Z7 (h:Id K vs H Q E):PF K { nx:=λ_ c=>Q .non c,rt:=Q } (L2.start ["row","divisor"] vs) H:=by
 obtain ⟨p,b,g,rfl,hp,m,u,q⟩:=h;unfold PF;rwa [];refine ⟨⟨_,SqL.of hp⟩,CompJ.lst (xs:=b.map V.int) (λi j c=>i<=b.length/\c=H/\j=((b.map (·/ g)).take i).map V.int) ⟨Ai _,rfl,rfl⟩ ?_ ?_ ?_⟩
 ·rintro i j c ⟨k,rfl,rfl⟩;refine ⟨by rw [AL];exact k,sz ?_,SqL.of hp⟩;rw [AL,CT];omega
 ·rintro i x j c d ⟨k,rfl,rfl⟩;rw [Aj] at d;cases e:b[i]? with
  | none=>rw [e] at d;cases d
  | some n=>
    rw [e] at d;obtain rfl:V.int n=x:=sJ d;have f:i<b.length:=(CK.mp e).1
    have o:0<g:=by
     rcases m with h | h
     ·exact h
     ·rw [h] at f;exact absurd f (by simp)
    rwa [];refine ⟨o,⋯,?_⟩;rw [Hf V.int (q:=n / g) (by rw [Aj,e];rfl)]
 ·rintro j c ⟨_,rfl,rfl⟩ a r;have e:(b.map (·/ g)).take (b.map V.int).length=b.map (·/ g):=by rw [AL,show b.length=(b.map (·/ g)).length by rw [AL],Di]
  rw [e];exact q a r
def SU {ns:cP} {k:Nat}:co ns k=ns.getD k 0:=rfl
def MX (ns:cP):Tz (Cu ns):=by
 have a:∀ m,m<=ns.length->C9 ns m=0\/co ns (C9 ns m - 1)≠0:=by
  intro m
  induction m with
  | zero=>intro _;exact .inl rfl
  | succ m c=>
    intro d;rw [Io];split
    ·exact c ⋯
    ·rename_i z;right;rw [show m+1 - 1=m by omega,SU];rw [AT,Aw ⋯] at z ⊢;exact z
 have b:(Cu ns).length=C9 ns ns.length:=MP;rcases a ns.length (AU _) with h | h
 ·left;exact CL.mp (b.trans h)
 ·right;rw [b];show (Cu ns).getD _ 0≠0;rw [SH];exact h
def MY (ns:cP) (k:Nat):co (Cu ns) k=co ns k:=SH k
def Ir (n:Nat) (F:dh):At n F=((List.range n).map F).map V.int:=rfl
def Z8 (ns:cP) (f:Int) (n:Nat) (h:ns.length<=n):List.map V.int (ns.map (f*·))++List.replicate (n - ns.length) (V.int 0)=At n λk=>f*co ns k:=by
 rw [Ir];apply List.ext_getElem?;intro i;by_cases a:i<ns.length
 ·rw [GF (by rw [AL,AL];exact a),Aj,Aj,Aj,Aj,DE ⋯,Aw a];show _=some (V.int (f*ns.getD i 0));rw [AT,Aw a];rfl
 ·rw [List.getElem?_append_right (by rw [AL,AL];omega),AL,AL,Aj,Aj];by_cases b:i<n
  ·rw [ER,sC ⋯,DE b];show _=some (V.int (f*co ns i));rw [Ae ⋯,Int.mul_zero]
  ·rw [ER,sB ⋯,CC (by rw [BK];omega)];rfl
def Z9 (h:Ie K vs H Q E):PP K { nx:=λ_ m=>Q .non m,rt:=Q } (L2.start ["row","factor","other","weight","shift","result","place","whole"] vs) H:=by
 obtain ⟨p,q,d,g,f,w,s,rfl,hp,P,hl,a0,bf,bw,bn,bm,k⟩:=h;unfold PP;rwa [];refine ⟨⟨_,SqL.of hp⟩,CompJ.lst (xs:=d.map V.int) (λi J m=>i<=d.length/\m=H/\J=((d.map (f*·)).take i).map V.int) ⟨Ai _,rfl,rfl⟩ ?_ ?_ ?_⟩
 ·rintro i J m ⟨Y,rfl,rfl⟩;refine ⟨by rw [AL];exact Y,sz ?_,SqL.of hp⟩;rw [AL,CT];omega
 ·rintro i x J m z ⟨Y,rfl,rfl⟩;rw [Aj] at z;cases e:d[i]? with
  | none=>rw [e] at z;cases z
  | some n=>
    rw [e] at z;obtain rfl:V.int n=x:=sJ z;have a1:i<d.length:=(CK.mp e).1;rwa [];refine ⟨D4 bf (bn n (BV e)),⋯,?_⟩;rw [Hf V.int (q:=f*n) (by rw [Aj,e];rfl)]
 ·rintro J m ⟨_,rfl,rfl⟩ a R;have e:(d.map (f*·)).take (d.map V.int).length=d.map (f*·):=by rw [AL,show d.length=(d.map (f*·)).length by rw [AL],Di]
  rw [e];generalize hL:max d.length (s+g.length)=L;have S:=AO R (.lst (List.map V.int (d.map (f*·))));have A:=S _ _ hp;have B:=S _ _ P;rwa [A,B];refine ⟨IR upd_same,sz ∅,λb hb=>?_⟩;have M:=AO hb (.lst [.int 0]);refine ⟨_,M _ _ B,_,M _ _ A,?_⟩;have e0:(((g.map V.int).length:Int)+(s:Int) - ((d.map V.int).length:Int))=(g.length:Int)+(s:Int) - (d.length:Int):=by rw [AL,AL]
  rw [e0];have Z:((g.length:Int)+(s:Int) - (d.length:Int)).toNat=L - d.length:=by omega
  refine ⟨⋯,⋯,sz (by rw [Z];simp;omega),λc hc=>?_⟩;rw [Z,IZ];have sc:=AO hc (.lst (List.replicate (L - d.length) (V.int 0)));have T:upd m a (.lst (List.map V.int (d.map (f*·)))) a=some (HO.lst (List.map V.int (d.map (f*·)))):=upd_same;have C:=sc _ _ (M _ _ T);refine ⟨_,C,sz (by simp;omega),?_⟩;rw [Z8 d f L ⋯];generalize hX:upd (upd (upd m a (.lst (List.map V.int (d.map (f*·))))) b (.lst [.int 0])) c (.lst (List.replicate (L - d.length) (V.int 0)))=N at C ⊢;have sx:Same m N:=λx o h=>by rw [<-hX];exact sc x o (M x o (S x o h))
  have sd:Same m (upd N a (.lst (At L λk=>f*co d k))):=λx o h=>Kp.upd x o (B6 h R) (sx x o h);have D:(upd N a (.lst (At L λk=>f*co d k))) a=_:=upd_same;generalize upd N a (.lst (At L λk=>f*co d k))=Hd at sd D ⊢;refine ⟨⟨_,SqL.of (sd _ _ P)⟩,ForJ.enumL (xs:=g.map V.int) (λj O F=>∃ x y:cO,O=[some (.ref p),some (.int f),some (.ref q),some (.int w),some (.int (s:Int)),some (.ref a),x,y]/\Same m F/\F a=some (.lst (At L λk=>f*co d k - (if s<=k/\k - s<j then w*co g (k - s) else 0)))) ⟨none,none,rfl,sd,?_⟩ ?_ ?_ ?_⟩
  ·rw [D];exact congrArg (λl=>some (HO.lst l)) (Im λk _=>by rw [sB ⋯];omega)
  ·rintro j O F _ ⟨_,_,_,G,_⟩;exact SqL.of (G _ _ P)
  ·rintro j y pq O F I ⟨y3,y4,rfl,G,v⟩ U;rw [Aj] at I;cases em:g[j]? with
   | none=>rw [em] at I;cases I
   | some u=>
     rw [em] at I;obtain rfl:V.int u=y:=sJ I;have jl:j<g.length:=(CK.mp em).1;have ud:co g j=u:=by rw [SU,AT,em];rfl
     have sq:=AO U (.tup [.int (j:Int),.int u]);have W:=sq _ _ v;rwa [W];have X:s+j<L:=by omega
     refine ⟨_,DJ ⋯ (DL _ X),D4 bw (bm u (BV em)),_,rfl,s+j,?_,λb o h=>Kp.upd b o (B6 h R) (sq b o (G b o h)),?_⟩
     ·rw [Dc];exact Gp ⋯ X
     ·refine Hg X ?_ λk _ hk=>?_
      ·rw [sC ⋯,sB ⋯,show s+j - s=j by omega,ud];omega
      ·by_cases h:s<=k/\k - s<j
       ·rw [sC h,sC ⋯]
       ·rw [sB h,sB ⋯]
  ·rintro O F ⟨y3,y4,rfl,G,v⟩;rw [AL,Ir] at v;rwa [v];refine ⟨_,rfl,λr hr=>k r _ _ (G.trans (AO hr _)) upd_same (MX _) λi=>?_⟩;rw [MY,Jn];unfold Av;by_cases z:i<L
   ·rw [sC z];by_cases h:s<=i
    ·rw [sC h];by_cases h2:i - s<g.length
     ·rw [sC ⟨h,h2⟩]
     ·rw [sB ⋯,Ae (a:=g) ⋯];omega
    ·rw [sB h,sB ⋯];omega
   ·rw [sB z,Ae (a:=d) ⋯];by_cases h:s<=i
    ·rw [sC h,Ae (a:=g) ⋯];omega
    ·rw [sB h];omega
def zA (a b:Int):(a.fdiv b).natAbs<=a.natAbs:=by
 rw [Int.fdiv_eq_ediv];split
 ·rw [Int.sub_zero];exact Int.natAbs_ediv_le_natAbs a b
 ·rename_i h;have d:b<0:=by omega
  have f:¬ b∣a:=λz=>h (.inr z);have e:=Int.mul_ediv_add_emod a b;have i:=BS a (show b≠0 by omega);have j:=Int.emod_lt_of_neg a d;have rn:a % b≠0:=λz=>f (Int.dvd_of_emod_eq_zero z);generalize a / b=q at *;generalize a % b=r at *;rcases Int.lt_or_le q 1 with g | g
  ·have c:(-b)*(-q) ≥ 2*(-q):=Int.mul_le_mul_of_nonneg_right ⋯ ⋯;rw [Int.neg_mul_neg] at c;omega
  ·have c:(-b)*(q - 1) ≥ 1*(q - 1):=Int.mul_le_mul_of_nonneg_right ⋯ ⋯;rw [Int.neg_mul,Int.mul_sub] at c;omega
def MZ {n m:Nat} {F:dh}:BU (At n F) none (some (m:Int))=((List.range (min m n)).map F).map V.int:=by
 unfold BU HT.sIx;simp only [List.drop_zero,Nat.sub_zero,DF];rw [sB ⋯,Dc];unfold At;rw [<-List.map_take,<-List.map_take,List.take_range];congr 3;omega
def zB {n:Nat} {F:dh} (h:((List.range n).map F).any (λz=>!decide (z=0))=false):∀ k,k<n->F k=0:=by
 intro k hk;have:=List.any_eq_false.mp h (F k) (BG.mpr ⟨k,List.mem_range.mpr hk,rfl⟩);simpa using this
def SV {n s:Nat} {F:dh} {w:Int} (a:s<n) (b:F s=0) (g:dh) (k:Nat) :
  cvL ((List.range n).map λj=>if j=s then w else F j) g k=cvL ((List.range n).map F) g k+w*Av s g k:=by
 have e:∀ m,m<=n->cvL ((List.range m).map λj=>if j=s then w else F j) g k=cvL ((List.range m).map F) g k+(if s<m then w*Av s g k else 0):=by
  intro m
  induction m with
  | zero=>intro _;rw [sB ⋯];rfl
  | succ m c=>
    intro d;rw [List.range_succ,DC,DC,List.map_singleton,List.map_singleton,DZ,DZ,c ⋯,AL,AL,BK];by_cases e:m=s
    ·subst e;rw [sC rfl,sB ⋯,sC ⋯,b];omega
    ·rw [sB e];by_cases h:s<m
     ·rw [sC h,sC ⋯];omega
     ·rw [sB h,sB ⋯];omega
 rw [e n (AU n),sC a]
def Dd {b:Nat} {ns:cP} (h:∀ z∈ns,Bd b z) (k:Nat):Bd b (co ns k):=Ed h k
def KM {n:Nat} {g:dh} (k:Nat):cvL ((List.range n).map λ_=>(0:Int)) g k=0:=by
 have e:((List.range n).map λ_=>(0:Int))=(List.replicate n (1:Int)).map (0*·):=by
  apply List.ext_getElem?;intro i;rw [Aj,Aj];by_cases h:i<n
  ·rw [DE h,ER,sC h];rfl
  ·rw [CC (by rw [BK];omega),ER,sB h];rfl
 rw [e,BC];omega
def KN (ns:cP):List.map V.int ns=At ns.length (co ns):=by
 rw [Ir];congr 1;apply List.ext_getElem?;intro i;rw [Aj];by_cases h:i<ns.length
 ·rw [DE h,Aw h];show _=some (ns.getD i 0);rw [AT,Aw h];rfl
 ·rw [CC ⋯,CC (by rw [BK];omega)];rfl
def Iu {a:cP} (h:0<a.length):L_ (a.map V.int) (-1)=some (V.int (co a (a.length - 1))):=by
 refine MT (by rw [AL];omega) ?_;rw [AL,Aj,Aw ⋯];show _=some (V.int (a.getD (a.length - 1) 0));rw [AT,Aw ⋯];rfl
def zC (h:Ig K vs H Q E):Y5 K { nx:=λ_ H'=>Q .non H',rt:=Q } (L2.start ["row","divisor","rest","last","quotient","shift","weight","place"] vs) H:=by
 obtain ⟨p,q,f,g,b,d,rfl,hp,hq,lm,bn,bm,bb,b5,hn,hm,kN,kR⟩:=h;have m0:=lm.1;have P:=lm.2;obtain ⟨L,hL⟩:∃ L,g.length=L+1:=⟨g.length - 1,⋯⟩;have R:g.length - 1=L:=by omega
 rw [R] at P;generalize n:co g L=r at P;have aL:=Iu m0;rw [R,n] at aL;generalize hc:f.length - L=c;refine Bb (Oy (AZ rfl ⟨_,_,rfl,hp,λa ha=>?_⟩));have sa:=AO ha (.lst (f.map V.int));have a9:=sa _ _ hp;have ab:=sa _ _ hq;have ac:((List.map V.int g).length:Int) - 1=(L:Int):=by rw [AL];omega
 refine ⟨_,rfl,_,_,rfl,ab,_,_,rfl,rfl,?_⟩;show PM K _ [some (.ref p),some (.ref q),some (.ref a),some (.int (((List.map V.int g).length:Int) - 1)),none,none,none,none] _;rw [ac];refine Bb (CU (Lq (S_ ⟨Ck,λx hx=>?_⟩)));have sx:=AO hx (.lst [.int 0]);have ah:=sx _ _ a9
 have a1:(if (0:Int) > ((List.map V.int f).length:Int) - (L:Int) then (0:Int) else ((List.map V.int f).length:Int) - (L:Int))=(c:Int):=by
  rw [AL];split <;> omega
 refine ⟨_,rfl,_,_,rfl,ah,_,rfl,_,_,rfl,rfl,_,_,rfl,?_⟩;refine ⟨_,(c:Int),_,rfl,congrArg V.int a1,upd_same,⋯,⋯,sz (by simp;omega),λy hy=>?_⟩;refine Ls ha hx hy λH1 a2 a3 sH a4 al=>?_;rw [KN f] at a2;rw [DF,MN] at a3;have am:=sH _ _ hp;have an:((List.map V.int f).length:Int) - (L:Int) - 1=(f.length:Int) - (L:Int) - 1:=by rw [AL]
 have ao:((f.length:Int) - (L:Int) - 1 - -1).toNat=c:=by omega
 refine Oz ?_;refine ⟨_,rfl,_,_,rfl,am,_,rfl,_,_,rfl,rfl,_,_,rfl,rfl,_,rfl,_,rfl,(f.length:Int) - (L:Int) - 1,_,by rw [<-an],⟨⋯,⋯,∅,∅⟩,?_⟩;rw [ao]
 let Iv:Nat->L2.St->Hp->Prop:=λi S D=>i<=c/\∃ (F G:dh) (u v w:cO),S=[some (.ref p),some (.ref q),some (.ref a),some (.int (L:Int)),some (.ref y),u,v,w]/\Same H D/\D a=some (.lst (At f.length F))/\D y=some (.lst (At c G))/\
  (∀ j,j<c - i->G j=0)/\(∀ k,k<f.length - i->F k=co f k - cvL ((List.range c).map G) (co g) k)/\(∀ k,f.length - i<=k->co f k=cvL ((List.range c).map G) (co g) k)/\(∀ k,k<f.length->Bd (b+i*(d+1)) (F k))
 refine ForJ.down Iv ⟨Ai _,co f,λ_=>0,none,none,none,rfl,sH,a2,a3,λ_ _=>rfl,λk _=>by rw [KM];omega,λk hk=>by rw [KM,Ae ⋯],λk _=>(Dd bn k).mono ⋯⟩ ?_ ?_
 ·rintro i S D hi ⟨_,F,G,u,v,w,rfl,s2,I,U,hG,hF,J,bF⟩;have a5:=s2 _ _ hq;have ic:i<c:=hi;have ar:((f.length:Int) - (L:Int) - 1 - (i:Int))=((c - 1 - i:Nat):Int):=by omega
  rw [ar];generalize hs:c - 1 - i=s;have b6:s+L=f.length - 1 - i:=by omega
  have aT:L_ (At f.length F) ((s:Int)+(L:Int))=some (V.int (F (s+L))):=DJ (j:=s+L) ⋯ (DL F ⋯);refine ⟨_,rfl,_,rfl,_,rfl,_,_,rfl,rfl,_,_,_,_,rfl,rfl,I,aT,_,rfl,_,rfl,_,_,_,_,rfl,rfl,a5,aL,_,_,rfl,rfl,P,?_⟩;show PL K _ [some (.ref p),some (.ref q),some (.ref a),some (.int (L:Int)),some (.ref y),some (.int (s:Int)),some (.int ((F (s+L)).fdiv r)),w] D;generalize hw:(F (s+L)).fdiv r=m;have b0:=bF (s+L) ⋯;have W:Bd (b+i*(d+1)) m:=b0.le (by rw [<-hw];exact zA _ _)
  have bi:b+i*(d+1)<=60000000:=by
   have:=B8 (d+1) (show i<=f.length by omega);omega
  have b7:b+(i+1)*(d+1)<=60000000:=by
   have:=B8 (d+1) (show i+1<=f.length by omega);omega
  have b1:Bd d r:=by rw [<-n];exact Dd bm L
  refine ⟨_,rfl,_,rfl,_,rfl,_,_,_,_,rfl,rfl,a5,aL,_,_,rfl,rfl,D4 W b1,_,rfl,_,rfl,_,rfl,_,_,rfl,rfl,_,_,_,_,rfl,rfl,I,aT,rfl,_,rfl,Au (λY=>?_) (λY=>?_)⟩
  ·refine kN (λ⟨A,hA⟩=>?_) _ s2;have M:m*r≠F (s+L):=by simpa using Y
   have hX:∀ k,cvL (A9 A (((List.range c).map G).map ((-1)*·))) (co g) k=co f k - cvL ((List.range c).map G) (co g) k:=λk=>by rw [Bq,BC,<-hA];omega
   have q:=(MW lm (X:=A9 A (((List.range c).map G).map ((-1)*·))) (T:=s+1) (λk hk=>by rw [hX,J k ⋯];omega)).2 s rfl;rw [hX,R,n,<-hF (s+L) ⋯] at q;exact M (by rw [<-hw,q,Int.mul_fdiv_cancel _ P])
  have ex:m*r=F (s+L):=by simpa using Y
  refine ⟨_,rfl,_,rfl,_,rfl,_,_,_,s,rfl,rfl,U,by rw [Dc];exact Gp rfl ⋯,?_⟩;show PJ K _ [some (.ref p),some (.ref q),some (.ref a),some (.int (L:Int)),some (.ref y),some (.int (s:Int)),some (.int m),w] (upd D y (.lst ((At c G).set s (V.int m))));have b2:(At c G).set s (V.int m)=At c (λj=>if j=s then m else G j):=Hg ⋯ (sC rfl) λj _ hj=>sB hj;rw [b2];have s3:Same H (upd D y (.lst (At c λj=>if j=s then m else G j))):=λz o h=>Kp.upd z o (B6 h al) (s2 z o h);have Z:(upd D y (.lst (At c λj=>if j=s then m else G j))) a=_:=(A3 a4).trans I;have B:(upd D y (.lst (At c λj=>if j=s then m else G j))) y=_:=upd_same;generalize (upd D y (.lst (At c λj=>if j=s then m else G j)))=H3 at s3 Z B ⊢;have a6:∀ k,cvL ((List.range c).map λj=>if j=s then m else G j) (co g) k=cvL ((List.range c).map G) (co g) k+m*Av s (co g) k:=λk=>SV ⋯ (hG s ⋯) _ k
  have a7:∀ (F':dh) (u v w:cO) (N:Hp),Same H N->N a=some (.lst (At f.length F'))->N y=some (.lst (At c λj=>if j=s then m else G j))->(∀ k,k<f.length->F' k=F k - (if s<=k/\k - s<L then m*co g (k - s) else 0))->
    Iv (i+1) [some (.ref p),some (.ref q),some (.ref a),some (.int (L:Int)),some (.ref y),u,v,w] N:=λF' u v w N s4 C O eF=>by
   refine ⟨⋯,F',_,u,v,w,rfl,s4,C,O,λj hj=>?_,λk hk=>?_,λk hk=>?_,λk hk=>?_⟩
   ·show (if j=s then m else G j)=0;rw [sB ⋯];exact hG j ⋯
   ·rw [eF k ⋯,a6,hF k ⋯];unfold Av;by_cases h:s<=k
    ·rw [sC h,sC ⟨h,⋯⟩];omega
    ·rw [sB h,sB ⋯];omega
   ·rw [a6];by_cases ek:k=s+L
    ·have hf:=hF k ⋯;rw [ek] at hf ⊢;unfold Av;rw [sC ⋯,show s+L - s=L by omega,n,ex];omega
    ·have h2:=J k ⋯;rw [h2];unfold Av;by_cases h:s<=k
     ·rw [sC h,Ae (a:=g) ⋯];omega
     ·rw [sB h];omega
   ·rw [eF k hk];have e2:b+(i+1)*(d+1)=b+i*(d+1)+d+1:=by rw [Du];omega
    rw [e2];refine Bd.sub ((bF k hk).mono ⋯) ?_;split
    ·exact W.mul (Dd bm _)
    ·exact Ci _
  refine ⟨_,rfl,rfl,_,rfl,Au (λcw=>?_) (λcw=>?_)⟩
  ·refine ⟨_,rfl,_,rfl,⋯,⋯,?_⟩;rw [DF];refine ForR.by (λj S N=>∃ (u:cO),S=[some (.ref p),some (.ref q),some (.ref a),some (.int (L:Int)),some (.ref y),some (.int (s:Int)),some (.int m),u]/\Same H N/\N a=some (.lst (At f.length λk=>F k - (if s<=k/\k - s<j then m*co g (k - s) else 0)))/\N y=some (.lst (At c λj=>if j=s then m else G j))) ⟨w,rfl,s3,?_,B⟩ ?_ ?_
   ·rw [Z];exact congrArg (λl=>some (HO.lst l)) (Im λk _=>by rw [sB ⋯];omega)
   ·rintro j S N hj ⟨u',rfl,s4,C,O⟩;have b3:=s4 _ _ hq;have aj:L_ (g.map V.int) (0+(j:Int))=some (V.int (co g j)):=DJ (j:=j) ⋯ (by rw [KN];exact DL _ ⋯);refine ⟨_,rfl,_,rfl,_,rfl,_,_,rfl,rfl,_,_,_,_,rfl,rfl,C,DJ (j:=s+j) ⋯ (DL _ ⋯),_,rfl,_,rfl,_,rfl,_,_,_,_,rfl,rfl,b3,aj,_,_,rfl,rfl,D4 W (Dd bm j),_,_,rfl,rfl,_,_,_,s+j,rfl,rfl,C,by rw [Dc];exact Gp ⋯ ⋯,?_⟩;refine ⟨_,rfl,?_,?_,?_⟩
    ·intro z o h;exact Kp.upd z o (B6 h ha) (s4 z o h)
    ·refine upd_same.trans (congrArg (λl=>some (HO.lst l)) (Hg ⋯ ?_ λk _ hk=>?_))
     ·rw [sC ⋯,sB ⋯,show s+j - s=j by omega];omega
     ·by_cases h:s<=k/\k - s<j
      ·rw [sC h,sC ⋯]
      ·rw [sB h,sB ⋯]
    ·rw [A3 (Ne.symm a4)];exact O
   ·rintro S N ⟨u',rfl,s4,C,O⟩;exact a7 _ _ _ _ _ s4 C O λk _=>rfl
  ·have w0:m=0:=by simpa using cw
   exact a7 F _ _ _ _ s3 Z B λk _=>by rw [w0];split <;> omega
 ·rintro S D ⟨_,F,G,u,v,w,rfl,s2,I,U,hG,hF,J,bF⟩;refine ⟨_,rfl,_,rfl,_,rfl,_,_,rfl,I,λz hz=>?_⟩;have a0:=AO hz (.lst (((List.range (min L f.length)).map F).map V.int));refine ⟨z,(List.range (min L f.length)).map F,rfl,by rw [MZ];exact upd_same,?_⟩;rw [MZ];refine ⟨_,rfl,Au (λY=>?_) (λY=>?_)⟩
  ·refine kN (λ⟨A,hA⟩=>?_) _ (s2.trans a0);have hX:∀ k,cvL (A9 A (((List.range c).map G).map ((-1)*·))) (co g) k=co f k - cvL ((List.range c).map G) (co g) k:=λk=>by rw [Bq,BC,<-hA];omega
   have q:=(MW lm (X:=A9 A (((List.range c).map G).map ((-1)*·))) (T:=0) (λk hk=>by rw [hX,J k ⋯];omega)).1;have M:((List.range (min L f.length)).map F).any (λz=>!decide (z=0))=true:=by simpa using Y
   obtain ⟨z,b4,a8⟩:=List.any_eq_true.mp M;obtain ⟨k,hk,rfl⟩:=BG.mp b4;have hk:=List.mem_range.mp hk;have e:=hX k;rw [B5,Fu g (λj=>q j (Ai j)),<-hF k ⋯] at e;rw [<-e] at a8;simp at a8
  ·have M:((List.range (min L f.length)).map F).any (λz=>!decide (z=0))=false:=by simpa using Y
   have B:=a0 _ _ U;rw [Ir] at B;refine AZ rfl (kR y _ _ (s2.trans a0) B λk=>?_);by_cases hk:f.length - c<=k
   ·exact J k hk
   ·have:=hF k ⋯;rw [zB M k ⋯] at this;omega
def SW {K:W.Frag} {a:Addr} {capt:List (Option Nat)} {f:TE} {g:L2.St} {Q:VK} {H:Hp} {ns:cP} (F:Int->Int) (hp:H a=some (.lst (ns.map V.int))) (r:ns.length<=1000)
  (k:∀ n,n∈ns->∀ P:VK,P (.int (F n)) H->f ((C8 capt g).set 0 (some (.int n))) H P) (m:∀ p,H p=none->Q (.ref p) (upd H p (.lst ((ns.map F).map V.int)))):CompJ (ap K a) capt (AH 0) f g Q H:=by
 refine CompJ.lst (xs:=ns.map V.int) (λi d b=>i<=ns.length/\b=H/\d=((ns.map F).take i).map V.int) ⟨Ai _,rfl,rfl⟩ ?_ ?_ ?_
 ·rintro i d b ⟨j,rfl,rfl⟩;refine ⟨by rw [AL];exact j,sz ?_,SqL.of hp⟩;rw [AL,CT];omega
 ·rintro i x d b c ⟨j,rfl,rfl⟩;rw [Aj] at c;cases e:ns[i]? with
  | none=>rw [e] at c;cases c
  | some n=>
    rw [e] at c;obtain rfl:V.int n=x:=sJ c;have o:i<ns.length:=(CK.mp e).1;show f ((C8 capt g).set 0 (some (.int n))) b _;refine k n (BV e) _ ⟨⋯,rfl,?_⟩;rw [Hf V.int (q:=F n) (by rw [Aj,e];rfl)]
 ·rintro d b ⟨_,rfl,rfl⟩ p h;have e:(ns.map F).take (ns.map V.int).length=ns.map F:=by rw [AL,show ns.length=(ns.map F).length by rw [AL],Di]
  rw [e];exact m p h
def zD (h:Jz K vs H Q E):QK K { nx:=λ_ a=>Q .non a,rt:=Q } (L2.start ["row","prime"] vs) H:=by
 obtain ⟨p,e,m,rfl,hp,b,c,q⟩:=h;unfold QK;rwa [];refine ⟨⟨_,SqL.of hp⟩,SW (·% m) hp c (λn _ P d=>?_) q⟩;rwa [];exact ⟨b,d⟩
theorem Iw {F:Int->Int} (a:F 0=0) (ns:cP) (k:Nat):co (ns.map F) k=F (co ns k):=by
 unfold co;rw [AT,AT,Aj];cases ns[k]? with
 | none=>exact a.symm
 | some z=>rfl
def SX {ns:cP} {z:Int} (h:z∈Cu ns):z∈ns:=GI h
def zE (ns:cP):(Cu ns).length<=ns.length:=by rw [MP];exact MO _ _
def Hi (a m:Int):m∣a % m - a:=⟨-(a / m),by have:=Int.emod_add_mul_ediv a m;rw [Int.mul_neg];omega⟩
def zG (h:HW K vs H Q E):QL K { nx:=λ_ b=>Q .non b,rt:=Q } (L2.start ["row","prime"] vs) H:=by
 obtain ⟨p,g,m,rfl,hp,a,c,q⟩:=h;unfold QL;rwa [hp];refine ⟨_,rfl,a,c,λr d=>?_⟩;refine ⟨_,rfl,λt e=>?_⟩;refine q t _ _ ((AO d _).trans (AO e _)) upd_same (MX _) (A7 (zE _) (by rw [AL];exact AU _)) ⟨λz f=>?_,λk=>?_⟩
 ·obtain ⟨y,_,rfl⟩:=BG.mp (SX f);exact ⟨BS _ ⋯,BW _ a⟩
 ·rw [MY,Iw (Int.zero_emod m)];exact Hi _ _
def zH (h:Jy K vs H Q E):QJ K { nx:=λ_ d=>Q .non d,rt:=Q } (L2.start ["whole","prime","one","other","one_weight","other_weight","quotient","rest"] vs) H:=by
 obtain ⟨a,p,rfl,p2,I,q⟩:=h;unfold QJ QH QG QF QE;rwa [];refine ⟨⋯,?_⟩;have J:=BS a (show p≠0 by omega);have L:=BW a (show 0<p by omega)
 refine Ea (λn m d=>∃ (x y s t:Int) (u v:cO),m=[some (.int a),some (.int p),some (.int x),some (.int y),some (.int s),some (.int t),u,v]/\d=H/\n=y.toNat/\0<=y/\y<x/\x<=p/\
  Int.gcd x y=Int.gcd a p/\p∣x - s*a/\p∣y - t*a/\(t.natAbs:Int)*x+(s.natAbs:Int)*y<=p/\(s.natAbs:Int)<=p) (a % p).toNat ⟨p,a % p,0,1,none,none,rfl,rfl,rfl,J,L,Int.le_refl _,?_,⟨1,⋯⟩,?_,by simp,by simp;omega⟩ ?_
 ·rw [N3 a ⋯]
 ·rw [show a % p - 1*a=a % p - a by omega];exact Hi a p
 ·rintro n m d ⟨x,y,s,t,u,v,rfl,rfl,rfl,e,yx,xp,f,o,r,hb,M⟩;have tx:(t.natAbs:Int)*1<=(t.natAbs:Int)*x:=IB ⋯ ⋯;have sy:0<=(s.natAbs:Int)*y:=Int.mul_nonneg ⋯ e;have N:(t.natAbs:Int)<=p:=by omega
  rwa [];refine Au (λc=>?_) (λc=>?_)
  ·have w:0<y:=by
    have:y≠0:=by simpa using c
    omega
   unfold QC QB QA P3 Py Px Po;have q0:=Int.ediv_nonneg (show 0<=x by omega) e;have q1:x / y<=x:=Int.ediv_le_self y ⋯;have r0:=BS x (show y≠0 by omega);have r1:=BW x w;have g:x - x / y*y=x % y:=by have:=Int.emod_add_mul_ediv x y;rw [Int.mul_comm] at this;omega
   have B:∀ {z:Int},z.natAbs<=p.natAbs->Bd 60000000 z:=λh=>(I.le h).mono ∅;refine ⟨λO P=>∃ R,R<y.toNat/\_,λ_ _ h=>h,?_⟩;rwa [];refine ⟨w,D4 (B ⋯) (B ⋯),D4 (B ⋯) (B ⋯),?_⟩;refine ⟨(x - x / y*y).toNat,⋯,rfl,⋯,⋯,⋯,?_,r,?_,?_,N⟩
   ·rw [g,N3 x e];exact f
   ·obtain ⟨b,i⟩:=o;obtain ⟨A,S⟩:=r
    exact ⟨b - x / y*A,by
     generalize x / y=j at *;have k:x=s*a+p*b:=by omega
     have C:y=t*a+p*A:=by omega
     rw [k,C];ext⟩
   ·have T:((s - x / y*t).natAbs:Int)<=(s.natAbs:Int)+x / y*(t.natAbs:Int):=by
     have U:=Int.natAbs_sub_le s (x / y*t);rw [By] at U;have W:((x / y).natAbs:Int)=x / y:=by omega
     have h3:(((x / y).natAbs*t.natAbs:Nat):Int)=x / y*(t.natAbs:Int):=by rw [Int.natCast_mul,W]
     omega
    have n2:=Int.mul_le_mul_of_nonneg_right T e;rw [g];have X:(t.natAbs:Int)*(x % y)=(t.natAbs:Int)*x - (t.natAbs:Int)*(x / y*y):=by rw [<-g,Int.mul_sub]
    rw [X];generalize (t.natAbs:Int)=D at *;generalize (s.natAbs:Int)=F at *;generalize x / y=j at *;have n4:(F+j*D)*y=F*y+D*(j*y):=by ext
    omega
  ·have Y:y=0:=by simpa using c
   unfold QD;rwa [];refine ⟨⋯,q _ (BS _ ⋯) (BW _ ⋯) λZ=>?_⟩
   have x1:x=1:=by
    rw [Y] at f;rw [Int.gcd_zero_right,Z] at f;omega
   obtain ⟨b,i⟩:=o;obtain ⟨G,a2⟩:=Hi s p;refine ⟨G*a - b,?_⟩;have k:s % p=s+p*G:=by omega
   rw [k];have C:s*a=1 - p*b:=by omega
   ext
def zI (h:HX K vs H Q E):QM K { nx:=λ_ w=>Q .non w,rt:=Q } (L2.start ["row","prime","factor"] vs) H:=by
 obtain ⟨q,a,p,rfl,g,o,u,x,A,b,k⟩:=h;have C:(2:Int)<=(p:Int):=by have:=o.two;omega
 unfold QM;rwa [g];by_cases d:a=[]
 ·subst d;refine Au (λ_=>?_) (λc=>absurd rfl c);refine ⟨sz ∅,λr j=>k r [] 0 _ (AO j _) upd_same rfl (λz=>absurd rfl z) ⟨λz b=>(by cases b),λi=>?_⟩⟩;show (p:Int)∣co [] i - 0*co [] i;rw [Ae (Ai _)];exact ⟨0,⋯⟩
 have D:0<a.length:=BD.mpr d;refine Au (λc=>absurd c (by simpa using d)) (λ_=>?_);have G:=Iu D;rwa [G];refine ⟨C,u,λf I J m=>?_⟩
 have L:co a (a.length - 1)≠0:=by
  rcases A with h | h
  ·exact absurd h d
  ·exact h
 have O:0<=co a (a.length - 1)/\co a (a.length - 1)<(p:Int):=b _ (by
  unfold co;rw [AT,Aw ⋯];exact Er _)
 have M:Int.gcd (co a (a.length - 1)) (p:Int)=1:=o.cop λz=>by
  have:=ET ⋯ z;omega
 have m:=m M;have B:∀ {z:Int},0<=z->z<(p:Int)->Bd 60000000 z:=λR S=>(u.le ⋯).mono ∅;refine ⟨⟨_,SqL.of g⟩,SW (λn=>n*f % (p:Int)) g x (λn d P N=>?_) λr j=>?_⟩
 ·rwa [];exact ⟨D4 (B (b n d).1 (b n d).2) (B I J),⋯,N⟩
 ·have v:∀ i,co (a.map λn=>n*f % (p:Int)) i=co a i*f % (p:Int):=λi=>Iw (F:=λn=>n*f % (p:Int)) (by simp) a i;refine k r _ f _ (AO j _) upd_same (AL ..) (λ_=>?_) ⟨λz b=>?_,λi=>?_⟩
  ·rw [AL,v];obtain ⟨c,T⟩:=m;have e:co a (a.length - 1)*f=1+(p:Int)*c:=by rw [Int.mul_comm];omega
   rw [e,Int.add_mul_emod_self_left];exact Int.emod_eq_of_lt ∅ ⋯
  ·obtain ⟨y,_,rfl⟩:=BG.mp b;exact ⟨BS _ ⋯,BW _ ⋯⟩
  ·rw [v];show (p:Int)∣co a i*f % (p:Int) - f*co a i;rw [Int.mul_comm f];exact Hi _ _
def zJ (h:J3 K vs H Q E):QT K { nx:=λ_ d=>Q .non d,rt:=Q } (L2.start ["whole","prime","rest"] vs) H:=by
 obtain ⟨w,p,rfl,a,k⟩:=h;unfold QT;rwa [];have g:=BS w (show p≠0 by omega);have i:=BW w a;have b:=Hi w p;refine ⟨a,IntMulOk.of_left (intBits_le_64 ⋯ ⋯),Au (λc=>?_) (λc=>?_)⟩
 ·refine k _ ?_ ⋯;obtain ⟨e,f⟩:=b;exact ⟨e - 1,by rw [Int.mul_sub];omega⟩
 ·exact k _ b ⋯
def zK (h:J1 K vs H Q E):QR K { nx:=λ_ a=>Q .non a,rt:=Q } (L2.start ["row","divisor","modulus"] vs) H:=by
 obtain ⟨p,q,d,e,m,b,rfl,hp,f,g,i,j,n,c,o,u,v,k⟩:=h;unfold QR;rwa [hp,f];refine ⟨d,rfl,e,rfl,g,i,j,b,n,c,o,u,v,λt r s w x a y z D A F tr B C _=>?_⟩;refine ⟨_,z,?_⟩;rwa [];exact k s w x a y A tr B C
def zL (h:J2 K vs H Q E):QS K { nx:=λ_ P=>Q .non P,rt:=Q } (L2.start ["row","other","prime","rest"] vs) H:=by
 obtain ⟨a,b,ns,ms,p,rfl,ha,hb,pp,Y,hn,hm,h0,k⟩:=h;have p2:(2:Int)<=(p:Int):=by have:=pp.two;omega
 unfold QS;rwa [ha];refine ⟨ns,rfl,⋯,hn,λc r1 H1 s1 hc a2 l1 w=>?_⟩;refine ⟨r1,p,rfl,hc,pp,Y,⋯,a2,w.1,λd n f H2 s2 hd l2 o2 R=>?_⟩;have a3:=s2 _ _ (s1 _ _ hb);rwa [a3];refine ⟨ms,rfl,⋯,hm,λc' r3 H3 s3 a4 a5 l3 L=>?_⟩;refine ⟨r3,p,rfl,a4,pp,Y,⋯,a5,L.1,λd' r4 f' H4 s4 a6 l4 o4 S=>?_⟩;have a7:Same H H4:=((s1.trans s2).trans s3).trans s4;have a8:=(s3.trans s4) _ _ hd
 have I:∀ {g h:dh} {q:cP} {f:Int},Dm (p:Int) g h->Md (p:Int) q (λk=>f*h k)->Dm (p:Int) g (co q):=λ{g h q f} d v=>by
  refine Dm.congr (Dm.less d d f 0 0) λk=>?_;have:=v.2 k;show (p:Int)∣co q k - (f*h k - 0*_);rw [Int.zero_mul,Int.sub_zero];exact this
 have nz:∀ {i q M:cP} {f:Int},(∃ k,¬ (p:Int)∣co i k)->Md (p:Int) q (co i)->M.length=q.length->0<M.length:=λ{i q M f} ⟨k,hk⟩ v e=>by
  rcases Ds M.length with z | z
  ·exfalso;have:=v.2 k;rw [Ae ⋯] at this;have t2:=Int.dvd_neg.mpr this;rw [show ∀ x:Int,-(0 - x)=x by intro x;omega] at t2;exact hk t2
  ·exact z
 have M1:∀ {i q:cP},Md (p:Int) q (co i)->∀ {g:dh},Dm (p:Int) g (co i)->Dm (p:Int) g (co q):=λv g d=>Dm.congr d v.2
 have J:∀ {g:dh} {r n:cP} {f:Int},Md (p:Int) n (λk=>f*co r k)->n.length=r.length->(r≠[]->co n (n.length - 1)=1)->Dm (p:Int) g (co n)->Dm (p:Int) g (co r):=λ{g r n f} v l o d=>by
  by_cases r0:r=[]
  ·exact Dm.zero _ _ λk=>by rw [r0,Ae (Ai _)];exact Co _
  ·refine Dm.congr (Dm.less d d (co r (r.length - 1)) 0 0) λk=>?_;show (p:Int)∣co r k - (co r (r.length - 1)*co n k - 0*_);rw [Int.zero_mul,Int.sub_zero];have X:=v.2 k;have T:=v.2 (n.length - 1);rw [o r0,l] at T;have q1:(p:Int)∣co r (r.length - 1)*(co n k - f*co r k):=FS X;have q2:(p:Int)∣co r k*(1 - f*co r (r.length - 1)):=FS T;refine CM (Int.dvd_sub q2 q1) (FH ?_);ext
 have O:∀ {g:dh} {i r n:cP} {f:Int},Md (p:Int) r (co i)->Md (p:Int) n (λk=>f*co r k)->n.length=r.length->(r≠[]->co n (n.length - 1)=1)->Dm (p:Int) g (co n)->Dm (p:Int) g (co i):=λ{g i r n f} w v l o d=>Dm.congr (J v l o d) λk=>by
  have:=Int.dvd_neg.mpr (w.2 k);refine CM this (FH ?_);omega
 refine Ea (λm σ P=>∃ (x y:Addr) (i j:cP) (u:cO),σ=[some (.ref x),some (.ref y),some (.int (p:Int)),u]/\Same H P/\P x=some (.lst (i.map V.int))/\P y=some (.lst (j.map V.int))/\m=j.length/\i.length<=1000/\j.length<=1000/\(0<i.length\/0<j.length)/\(i≠[]->co i (i.length - 1)=1)/\(j≠[]->co j (j.length - 1)=1)/\(∀ z∈i,0<=z/\z<(p:Int))/\(∀ z∈j,0<=z/\z<(p:Int))/\
  (∀ g:dh,Dm (p:Int) g (co ns)->Dm (p:Int) g (co ms)->Dm (p:Int) g (co i)/\Dm (p:Int) g (co j))/\(∀ g:dh,Dm (p:Int) g (co i)->Dm (p:Int) g (co j)->Dm (p:Int) g (co ns)/\Dm (p:Int) g (co ms))) r4.length ⟨d,d',n,r4,none,rfl,a7,a8,a6,rfl,⋯,⋯,?_,?_,?_,R.1,S.1,λg C F=>⟨I (M1 w C) R,I (M1 L F) S⟩,λg C F=>⟨O w R l2 o2 C,O L S l4 o4 F⟩⟩ ?_
 ·rcases h0 with h | h
  ·exact .inl (nz (f:=f) h w l2)
  ·exact .inr (nz (f:=f) h L l4)
 ·intro z;exact o2 λe=>z (CL.mp (by rw [l2,e];rfl))
 ·intro z;exact o4 λe=>z (CL.mp (by rw [l4,e];rfl))
 ·rintro m σ P ⟨x,y,i,j,u,rfl,sH,hx,hy,rfl,xl,yl,ne,ox,oy,bx,bY,hD,hE⟩;rwa [hy];by_cases N:j=[]
  ·subst N;refine Au (λc=>absurd c (by simp)) (λ_=>?_);have x0:0<i.length:=by simpa using ne
   have Z:Dm (p:Int) (co i) (co i):=⟨[1],λk=>by
    have e:cvL [1] (co i) k=co i k:=by
     cases k with
     | zero=>rw [Ap];omega
     | succ k=>rw [Ak,Az];omega
    rw [e,Int.sub_self];exact Co _⟩
   have zz:Dm (p:Int) (co i) (co []):=Dm.zero _ _ λk=>by rw [Ae (Ai _)];exact Co _
   exact k x i P sH hx x0 xl (ox (BD.mp x0)) bx (λg C F=>(hD g C F).1) (hE _ Z zz).1 (hE _ Z zz).2
  ·have y0:0<j.length:=BD.mpr N;refine Au (λ_=>?_) (λc=>absurd N (by simpa using c));refine ⟨λac ah=>∃ m',m'<j.length/\_,λ_ _ h=>h,?_⟩;rwa [hx,hy];have B:∀ z:Int,0<=z->z<(p:Int)->Bd 45000 z:=λz X T=>Y.le ⋯;refine ⟨i,rfl,j,rfl,y0,oy N,⋯,45000,Y,λz hz=>B z (bY z hz).1 (bY z hz).2,∅,xl,yl,λs G q H2 a0 hs a9 aj v=>?_⟩
   have U:∀ g:dh,Dm (p:Int) g (co j)->Dm (p:Int) g (co q)->Dm (p:Int) g (co i):=λg C F=>by
    obtain ⟨S1,X⟩:=C;obtain ⟨D,T⟩:=F;refine ⟨A9 D (Bk G S1),λk=>?_⟩;rw [Bq,B7];have e1:=bu X G k;have m2:(p:Int)∣co q k - (co i k - cvL G (co j) k):=v.2 k;have:=Cn (Int.dvd_sub (T k) m2) e1;refine CM this (FH ?_);omega
   refine ⟨q,p,rfl,hs,pp,Y,⋯,a9,v.1,λt ts f H3 a1 ht lt ot W=>?_⟩;refine ⟨ts.length,⋯,(sH.trans a0).trans a1,j,(a0.trans a1) _ _ hy,ts,ht,rfl,yl,⋯,.inl y0,oy,λz=>ot λe=>z (CL.mp (by rw [lt,e];rfl)),bY,W.1,λg C F=>⟨(hD g C F).2,?_⟩,λg C F=>hE g (U g C (J W lt ot F)) C⟩;obtain ⟨dx,dy⟩:=hD g C F
   have dr:Dm (p:Int) g (co q):=by
    obtain ⟨S1,X⟩:=dx;obtain ⟨D,T⟩:=dy;refine Dm.congr (f:=λk=>co i k - cvL G (co j) k) ⟨A9 S1 ((Bk G D).map (-1*·)),λk=>?_⟩ v.2;rw [Bq,BC,B7]
    have e:(p:Int)∣cvL G (co j) k - cvL G (cvL D g) k:=by
     have ab:∀ (A:cP) (k:Nat),(p:Int)∣cvL A (co j) k - cvL A (cvL D g) k:=by
      intro A
      induction A with
      | nil=>intro k;rw [Az,Az];exact ⟨0,⋯⟩
      | cons a A ih=>
        intro k;rw [FB,FB]
        have i2:(p:Int)∣DI (cvL A (co j)) k - DI (cvL A (cvL D g)) k:=by
         cases k with
         | zero=>exact ⟨0,by show (0:Int) - 0=_;omega⟩
         | succ k=>exact ih k
        have i1:(p:Int)∣a*(co j k - cvL D g k):=FS (T k);have:=Cn i1 i2;rw [show a*(co j k - cvL D g k)+(DI (cvL A (co j)) k - DI (cvL A (cvL D g)) k)=a*co j k+DI (cvL A (co j)) k - (a*cvL D g k+DI (cvL A (cvL D g)) k) by rw [Int.mul_sub];omega] at this;exact this
     exact ab G k
    have:=Int.dvd_sub (X k) e;rw [show co i k - cvL S1 g k - (cvL G (co j) k - cvL G (cvL D g) k)=co i k - cvL G (co j) k - (cvL S1 g k + -1*cvL G (cvL D g) k) by omega] at this;exact this
   exact I dr W
def zM (h:J0 K vs H Q E):ZG K { nx:=λ_ H'=>Q .non H',rt:=Q } (L2.start ["row","divisor","modulus","rest","last","quotient","shift","weight","place"] vs) H:=by
 obtain ⟨p,q,d,g,m,b,rfl,hp,hq,m0,ml,mp,bm,a2,bb,hn,hm,kR⟩:=h;obtain ⟨L,hL⟩:∃ L,g.length=L+1:=⟨g.length - 1,⋯⟩;have a3:g.length - 1=L:=by omega
 rw [a3] at ml;generalize hc:d.length - L=c;refine Bb (Oy (AZ rfl ⟨_,_,rfl,hp,λa ha=>?_⟩));have sa:=AO ha (.lst (d.map V.int));have a4:=sa _ _ hp;have a5:=sa _ _ hq;have a6:((List.map V.int g).length:Int) - 1=(L:Int):=by rw [AL];omega
 refine ⟨_,rfl,_,_,rfl,a5,_,_,rfl,rfl,?_⟩;show QQ K _ [some (.ref p),some (.ref q),some (.int m),some (.ref a),some (.int (((List.map V.int g).length:Int) - 1)),none,none,none,none] _;rw [a6];refine Bb (CU (Lq (S_ ⟨Ck,λx hx=>?_⟩)));have a7:=AO hx (.lst [.int 0]) _ _ a4
 have T:(if (0:Int) > ((List.map V.int d).length:Int) - (L:Int) then (0:Int) else ((List.map V.int d).length:Int) - (L:Int))=(c:Int):=by
  rw [AL];split <;> omega
 refine ⟨_,rfl,_,_,rfl,a7,_,rfl,_,_,rfl,rfl,_,_,rfl,?_⟩;refine ⟨_,(c:Int),_,rfl,congrArg V.int T,upd_same,⋯,⋯,sz (by simp;omega),λy hy=>?_⟩;refine Ls ha hx hy λH1 U W sH X a8=>?_;rw [KN d] at U;rw [DF,MN] at W;have a9:=sH _ _ hp;have ab:((List.map V.int d).length:Int) - (L:Int) - 1=(d.length:Int) - (L:Int) - 1:=by rw [AL]
 have ac:((d.length:Int) - (L:Int) - 1 - -1).toNat=c:=by omega
 refine Oz ?_;refine ⟨_,rfl,_,_,rfl,a9,_,rfl,_,_,rfl,rfl,_,_,rfl,rfl,_,rfl,_,rfl,(d.length:Int) - (L:Int) - 1,_,by rw [<-ab],⟨⋯,⋯,∅,∅⟩,?_⟩;rw [ac]
 let Iv:Nat->L2.St->Hp->Prop:=λi O n=>i<=c/\∃ (F G:dh) (u v w:cO),O=[some (.ref p),some (.ref q),some (.int m),some (.ref a),some (.int (L:Int)),some (.ref y),u,v,w]/\Same H n/\n a=some (.lst (At d.length F))/\n y=some (.lst (At c G))/\
  (∀ j,j<c - i->G j=0)/\(∀ k,k<d.length - i->m∣F k - (co d k - cvL ((List.range c).map G) (co g) k))/\(∀ k,d.length - i<=k->m∣co d k - cvL ((List.range c).map G) (co g) k)/\(∀ j,j<c->0<=G j/\G j<m)
 refine ForJ.down Iv ⟨Ai _,co d,λ_=>0,none,none,none,rfl,sH,U,W,λ_ _=>rfl,λk _=>by rw [KM];exact ⟨0,⋯⟩,λk hk=>by rw [KM,Ae ⋯];exact ⟨0,⋯⟩,λk _=>⟨Int.le_refl 0,mp⟩⟩ ?_ ?_
 ·rintro i O n hi ⟨_,F,G,u,v,w,rfl,s2,I,J,hG,hF,P,bG⟩;have ar:=s2 _ _ hq;have ic:i<c:=hi;have ah:((d.length:Int) - (L:Int) - 1 - (i:Int))=((c - 1 - i:Nat):Int):=by omega
  rw [ah];generalize hs:c - 1 - i=s;have b0:s+L=d.length - 1 - i:=by omega
  have aT:L_ (At d.length F) ((s:Int)+(L:Int))=some (V.int (F (s+L))):=DJ (j:=s+L) ⋯ (DL F ⋯);refine ⟨_,rfl,_,rfl,_,rfl,_,_,rfl,rfl,_,_,_,_,rfl,rfl,I,aT,_,rfl,_,_,rfl,rfl,mp,?_⟩;show QO K _ [some (.ref p),some (.ref q),some (.int m),some (.ref a),some (.int (L:Int)),some (.ref y),some (.int (s:Int)),some (.int (F (s+L) % m)),w] n;have w0:=BS (F (s+L)) (show m≠0 by omega);have w1:=BW (F (s+L)) mp;have wd:=Hi (F (s+L)) m;generalize hw:F (s+L) % m=f at w0 w1 wd ⊢;have al:Bd b f:=bm.le ⋯;refine ⟨_,rfl,_,rfl,_,rfl,_,_,_,s,rfl,rfl,J,by rw [Dc];exact Gp rfl ⋯,?_⟩;show QN K _ [some (.ref p),some (.ref q),some (.int m),some (.ref a),some (.int (L:Int)),some (.ref y),some (.int (s:Int)),some (.int f),w] (upd n y (.lst ((At c G).set s (V.int f))));rw [show (At c G).set s (V.int f)=At c (λj=>if j=s then f else G j) from Hg ⋯ (sC rfl) λj _ R=>sB R];have s3:Same H (upd n y (.lst (At c λj=>if j=s then f else G j))):=λz o h=>Kp.upd z o (B6 h a8) (s2 z o h);have A:(upd n y (.lst (At c λj=>if j=s then f else G j))) a=_:=(A3 X).trans I;have S:(upd n y (.lst (At c λj=>if j=s then f else G j))) y=_:=upd_same;generalize (upd n y (.lst (At c λj=>if j=s then f else G j)))=H3 at s3 A S ⊢;have Y:∀ k,cvL ((List.range c).map λj=>if j=s then f else G j) (co g) k=cvL ((List.range c).map G) (co g) k+f*Av s (co g) k:=λk=>SV ⋯ (hG s ⋯) _ k
  have Z:∀ (F':dh) (u v w:cO) (C:Hp),Same H C->C a=some (.lst (At d.length F'))->C y=some (.lst (At c λj=>if j=s then f else G j))->(∀ k,k<d.length->F' k=F k - (if s<=k/\k - s<L then f*co g (k - s) else 0))->
    Iv (i+1) [some (.ref p),some (.ref q),some (.int m),some (.ref a),some (.int (L:Int)),some (.ref y),u,v,w] C:=λF' u v w C M B D eF=>by
   refine ⟨⋯,F',_,u,v,w,rfl,M,B,D,λj R=>?_,λk hk=>?_,λk hk=>?_,λj R=>?_⟩
   ·show (if j=s then f else G j)=0;rw [sB ⋯];exact hG j ⋯
   ·have hf:=hF k ⋯;rw [eF k ⋯,Y];unfold Av;by_cases h:s<=k
    ·rw [sC h,sC ⟨h,⋯⟩];rw [show ∀ x y z w:Int,x - y - (z - (w+y))=x - (z - w) by intro x y z w;omega];exact hf
    ·rw [sB h,sB ⋯];rw [show ∀ x z w:Int,x - 0 - (z - (w+f*0))=x - (z - w) by intro x z w;omega];exact hf
   ·rw [Y];by_cases ek:k=s+L
    ·have hf:=hF k ⋯;rw [ek] at hf ⊢;unfold Av;rw [sC ⋯,show s+L - s=L by omega,ml];obtain ⟨α,b1⟩:=hf;obtain ⟨β,b2⟩:=wd;exact ⟨-α - β,by rw [Int.mul_sub,Int.mul_neg];omega⟩
    ·have N:=P k ⋯;unfold Av;by_cases h:s<=k
     ·rw [sC h,Ae (a:=g) ⋯,Int.mul_zero,Int.add_zero];exact N
     ·rw [sB h,Int.mul_zero,Int.add_zero];exact N
   ·show 0<=(if j=s then f else G j)/\(if j=s then f else G j)<m;split
    ·exact ⟨w0,w1⟩
    ·exact bG j R
  refine ⟨_,rfl,rfl,_,rfl,Au (λcw=>?_) (λcw=>?_)⟩
  ·refine ⟨_,rfl,_,rfl,⋯,⋯,?_⟩;rw [DF];refine ForR.by (λj O C=>∃ (u:cO),O=[some (.ref p),some (.ref q),some (.int m),some (.ref a),some (.int (L:Int)),some (.ref y),some (.int (s:Int)),some (.int f),u]/\Same H C/\C a=some (.lst (At d.length λk=>F k - (if s<=k/\k - s<j then f*co g (k - s) else 0)))/\C y=some (.lst (At c λj=>if j=s then f else G j))) ⟨w,rfl,s3,?_,S⟩ ?_ ?_
   ·rw [A];exact congrArg (λl=>some (HO.lst l)) (Im λk _=>by rw [sB ⋯];omega)
   ·rintro j O C R ⟨u',rfl,M,B,D⟩;have am:=M _ _ hq;have aj:L_ (g.map V.int) (0+(j:Int))=some (V.int (co g j)):=DJ (j:=j) ⋯ (by rw [KN];exact DL _ ⋯);refine ⟨_,rfl,_,rfl,_,rfl,_,_,rfl,rfl,_,_,_,_,rfl,rfl,B,DJ (j:=s+j) ⋯ (DL _ ⋯),_,rfl,_,rfl,_,rfl,_,_,_,_,rfl,rfl,am,aj,_,_,rfl,rfl,D4 al (Dd a2 j),_,_,rfl,rfl,_,_,_,s+j,rfl,rfl,B,by rw [Dc];exact Gp ⋯ ⋯,?_⟩;refine ⟨_,rfl,?_,?_,?_⟩
    ·intro z o h;exact Kp.upd z o (B6 h ha) (M z o h)
    ·refine upd_same.trans (congrArg (λl=>some (HO.lst l)) (Hg ⋯ ?_ λk _ hk=>?_))
     ·rw [sC ⋯,sB ⋯,show s+j - s=j by omega];omega
     ·by_cases h:s<=k/\k - s<j
      ·rw [sC h,sC ⋯]
      ·rw [sB h,sB ⋯]
    ·rw [A3 (Ne.symm X)];exact D
   ·rintro O C ⟨u',rfl,M,B,D⟩;exact Z _ _ _ _ _ M B D λk _=>rfl
  ·have an:f=0:=by simpa using cw
   exact Z F _ _ _ _ s3 A S λk _=>by rw [an];split <;> omega
 ·rintro O n ⟨_,F,G,u,v,w,rfl,s2,I,J,hG,hF,P,bG⟩;rw [Ir] at J;show QP K _ _ _;refine DK (Ct (BL ⟨_,rfl,_,_,rfl,J,λt ht=>?_⟩));have st:=AO ht (.lst (List.map V.int (Cu (List.map G (List.range c)))));have A:=st _ _ I;have a0:upd n t (.lst (List.map V.int (Cu (List.map G (List.range c))))) t=_:=upd_same;generalize upd n t (.lst (List.map V.int (Cu (List.map G (List.range c)))))=H3 at st A a0 ⊢;refine Ag ⟨_,rfl,_,rfl,_,rfl,_,_,rfl,A,λz hz=>⟨_,rfl,z,(List.range (min L d.length)).map F,m,rfl,by rw [MZ];exact upd_same,mp,by rw [AL,BK];omega,λr rs C M ao tr lr md=>?_⟩⟩;have a1:=(AO hz _).trans M;rw [AL,BK] at lr;refine ⟨Bu,λe he=>?_⟩;have se:=AO he (.tup [.ref t,.ref r])
  have cq:∀ k,cvL (Cu ((List.range c).map G)) (co g) k=cvL ((List.range c).map G) (co g) k:=λk=>by
   rw [B5,A8 (λj=>MY _ j) g k,<-B5]
  refine kR e t r _ rs _ ((s2.trans st).trans (a1.trans se)) upd_same (se _ _ (a1 _ _ a0)) (se _ _ ao) (MX _) tr ⋯ ⟨md.1,λk=>?_⟩ λz hz=>?_
  ·have:=md.2 k;rw [Jn] at this;show m∣co rs k - (co d k - cvL (Cu ((List.range c).map G)) (co g) k);rw [cq];by_cases hk:k<min L d.length
   ·rw [sC hk] at this;have N:=Cn this (hF k ⋯);rw [show ∀ x y z:Int,x - y+(y - z)=x - z by intro x y z;omega] at N;exact N
   ·rw [sB hk] at this;have N:=Int.dvd_sub this (P k ⋯);rw [show ∀ x y:Int,x - 0 - y=x - y by intro x y;omega] at N;exact N
  ·obtain ⟨j,R,rfl⟩:=BG.mp (SX hz);exact bG j (List.mem_range.mp R)
theorem SDs.tp {H a:Hp} (s:Same H a):∀ {xs:cN} {b:List (cP)},SDs H xs b->SDs a xs b
 | [],[],_=>trivial
 | _::_,_::_,h=>⟨let ⟨p,e,q⟩:=h.1;⟨p,e,s _ _ q⟩,SDs.tp s h.2⟩
 | [],_::_,h=>h.elim
 | _::_,[],h=>h.elim
def SD.tp {H a:Hp} (s:Same H a) {p:Addr} {b:List (cP)} (h:SD H p b):SD a p b:=let ⟨c,e,q⟩:=h;⟨c,s _ _ e,q.tp s⟩
theorem SDs.length {H:Hp}:∀ {xs:cN} {a:List (cP)},SDs H xs a->xs.length=a.length
 | [],[],_=>rfl
 | _::_,_::_,h=>congrArg (·+1) (SDs.length h.2)
 | [],_::_,h=>h.elim
 | _::_,[],h=>h.elim
theorem SDs.get {H:Hp}:∀ {xs:cN} {a:List (cP)} {i:Nat} {v:V},SDs H xs a->xs[i]?=some v->∃ p r,v=.ref p/\a[i]?=some r/\H p=some (.lst (r.map V.int))
 | [],[],_,_,_,e=>by simp at e
 | _::_,r::_,0,_,h,e=>by
   simp at e;subst e;obtain ⟨p,e,q⟩:=h.1;exact ⟨p,r,e,rfl,q⟩
 | _::_,_::_,i+1,_,h,e=>by
   obtain ⟨p,r,b,c,d⟩:=SDs.get (i:=i) h.2 (by simpa using e);exact ⟨p,r,b,by simpa using c,d⟩
 | [],_::_,_,_,h,_=>h.elim
 | _::_,[],_,_,h,_=>h.elim
theorem SDs.snoc {H:Hp} {p:Addr} {r:cP} (hp:H p=some (.lst (r.map V.int))):∀ {xs:cN} {a:List (cP)},SDs H xs a->SDs H (xs++[.ref p]) (a++[r])
 | [],[],_=>⟨⟨p,rfl,hp⟩,trivial⟩
 | _::_,_::_,h=>⟨h.1,SDs.snoc hp h.2⟩
 | [],_::_,h=>h.elim
 | _::_,[],h=>h.elim
theorem SD.head {H:Hp} {p:Addr} {r:cP} {c:List (cP)} (h:SD H p (r::c)):∃ a b,H p=some (.lst (.ref a::b))/\H a=some (.lst (r.map V.int))/\SDs H (.ref a::b) (r::c):=by
 obtain ⟨b,e,q⟩:=h
 match b,q with
 | [],q=>exact q.elim
 | x::b,q=>
   obtain ⟨a,d,f⟩:=q.1;subst d;exact ⟨a,b,e,f,q⟩
def Hj {a:Type} (x:a) (xs:List a):L_ (x::xs) 0=some x:=by
 unfold L_ av;rw [sC ∅,sC (by rw [Cf];omega)];rfl
def zO (h:Ih K vs H Q E):Pk K { nx:=λ_ A=>Q .non A,rt:=Q } (L2.start ["strand","shared","row"] vs) H:=by
 obtain ⟨p,b,rfl,⟨I,hp,P⟩,hl,D,k⟩:=h;have lx:=P.length;unfold Pk;rwa [];refine ⟨⟨_,SqL.of hp⟩,ForL.by (xs:=I) (λi J A=>∃ (g:Int) (u:cO),J=[some (.ref p),some (.int g),u]/\Same H A/\0<=g/\(∀ r∈b.take i,∀ z∈r,g∣z)/\(∀ d:Int,(∀ r∈b.take i,∀ z∈r,d∣z)->d∣g)) ⟨0,none,rfl,Same.refl H,Int.le_refl 0,λr D=>(by simp at D),λd _=>Co d⟩ ?_ ?_ ?_⟩
 ·rintro i J A _ ⟨g,u,rfl,s,_⟩;exact SqL.of (s _ _ hp)
 ·rintro i x J A R ⟨g,u,rfl,s,g0,B,L⟩;obtain ⟨a,r,rfl,j,S⟩:=P.get R;have v:=s _ _ S;have w:=D r (BV j);rwa [v];refine ⟨r,rfl,w.1,λg' C n T d1 d2 d3=>?_⟩;have F:b.take (i+1)=b.take i++[r]:=by rw [FV,j];rfl
  refine ⟨s.trans n,T,λU o z m=>?_,λd M=>d3 d ?_ λz m=>?_⟩
  ·rw [F] at o;rcases EC.mp o with h | h
   ·exact CM d1 (B U h z m)
   ·rw [BA.mp h] at m;exact d2 z m
  ·exact L d λU o z m=>M U (by rw [F];exact GD _ o) z m
  ·exact M r (by rw [F];exact Cz _ (BA.mpr rfl)) z m
 ·rintro J A ⟨g,u,rfl,s,g0,B,L⟩;rw [lx,Di] at B L;have W:=s _ _ hp
  have gz:∀ r∈b,0<g\/r=[]:=λr f=>by
   rcases Int.lt_or_le 0 g with h | h
   ·exact .inl h
   ·right;have G:g=0:=by omega
    rcases (D r f).2 with h | h
    ·exact h
    ·exfalso;by_cases a0:r.length=0
     ·rw [Ae ⋯] at h;exact h rfl
     ·have:=B r f (co r (r.length - 1)) (by
       unfold co;rw [AT,Aw ⋯];exact Er _)
      rw [G] at this;exact h (Int.zero_dvd.mp this)
  rwa [];refine ⟨⟨_,SqL.of W⟩,CompJ.lst (xs:=I) (λi y C=>i<=b.length/\Same H C/\SDs C y ((b.take i).map λr=>r.map (·/ g))) ⟨Ai _,s,trivial⟩ ?_ ?_ ?_⟩
  ·rintro i y C ⟨X,n,q⟩;refine ⟨⋯,sz ?_,SqL.of (n _ _ hp)⟩;rw [q.length,AL,CT];omega
  ·rintro i x y C R ⟨X,n,q⟩;obtain ⟨a,r,rfl,j,S⟩:=P.get R;have v:=n _ _ S;have w:=D r (BV j);have a1:i<b.length:=(CK.mp j).1;rwa [v];refine ⟨r,rfl,gz r (BV j),w.1,λt N=>?_⟩;refine ⟨⋯,n.trans (AO N _),?_⟩;have F:(b.take (i+1)).map (λr=>r.map (·/ g))=(b.take i).map (λr=>r.map (·/ g))++[r.map (·/ g)]:=by rw [FV,j];simp
   rw [F];exact SDs.snoc upd_same (q.tp (AO N _))
  ·rintro y C ⟨_,n,q⟩ t N;rw [lx,Di] at q;have O:=AO N (.lst y);by_cases gp:0<g
   ·refine k t _ _ (n.trans O) ⟨y,upd_same,q.tp O⟩ ⟨g,gp,?_⟩ (.inr λd M=>?_)
    ·rw [List.map_map]
     conv=>lhs;rw [<-List.map_id b]
     refine FT λr f=>?_;show r=(r.map (·/ g)).map (g*·);rw [List.map_map]
     conv=>lhs;rw [<-List.map_id r]
     refine FT λz m=>?_;show z=g*(z / g);rw [GJ (B r f z m)]
    ·have Y:d*g∣g:=L (d*g) λr f z m=>by
      have X:=M (r.map (·/ g)) (BG.mpr ⟨r,f,rfl⟩) (z / g) (BG.mpr ⟨z,m,rfl⟩);obtain ⟨c,Z⟩:=X;refine ⟨c,?_⟩;have:=GJ (B r f z m);rw [<-this,Z];ext
     obtain ⟨c,Z⟩:=Y
     have e:g*(d*c)=g*1:=by rw [Int.mul_one];conv=>rhs;rw [Z]
                            ext
     have e1:=Int.eq_of_mul_eq_mul_left ⋯ e;have:d.natAbs*c.natAbs=1:=by rw [<-By,e1];rfl
     exact Nat.eq_one_of_mul_eq_one_right this
   ·have G:∀ r∈b,r=[]:=λr f=>by
     rcases gz r f with h | h
     ·exact absurd h gp
     ·exact h
    have em:b.map (λr=>r.map (·/ g))=b:=by
     conv=>rhs;rw [<-List.map_id b]
     refine FT λr f=>?_;rw [G r f];rfl
    rw [em] at q;refine k t b _ (n.trans O) ⟨y,upd_same,q.tp O⟩ ⟨1,∅,?_⟩ (.inl G)
    conv=>lhs;rw [<-List.map_id b]
    refine FT λr f=>?_;rw [G r f];rfl
def zR {r:cP} (h:∀ d:Int,(∀ z∈r,d∣z)->d.natAbs=1):Prim r:=λc a=>h c λz b=>by
 obtain ⟨i,e,rfl⟩:=List.getElem_of_mem b;have:=a i;unfold co at this;rw [AT,Aw e] at this;exact this
theorem zT (h:HV K vs H Q E):Pm K { nx:=λ_ j=>Q .non j,rt:=Q } (L2.start ["row"] vs) H:=by
 obtain ⟨p,u,rfl,hp,x,y,k⟩:=h;unfold Pm;rwa [];refine ⟨sz ∅,λa A=>?_⟩;have v:=AO A (.lst [.ref p]);refine ⟨[u],⟨[V.ref p],upd_same,⟨⟨p,rfl,v _ _ hp⟩,trivial⟩⟩,by simp,?_,λt c j B e m n=>?_⟩
 ·intro r o;rw [BA.mp o];exact ⟨x,y⟩
 obtain ⟨g,C,f⟩:=m
 match c,f,e,n with
 | [q],f,e,n=>
   obtain ⟨b,I,D,F,_⟩:=e.head;have i:u=q.map (g*·):=by simpa using f
   refine ⟨_,D,_,Hj _ _,k b q g j (v.trans B) F C i ?_⟩;rcases n with h | h
   ·left;rw [i,h q (BA.mpr rfl)];rfl
   ·right;exact zR λd G=>h d λr o z w=>by rw [BA.mp o] at w;exact G z w
 | [],f,_,_=>simp at f
 | _::_::_,f,_,_=>simp at f
def SY {a b:cP} (c:Tz a) (n:Nat) (h:∀ k,n<=k->co a k=0):a.length<=n:=by
 rcases BF n a.length with z | z
 ·rcases c with e | e
  ·rw [e] at z;simp at z
  ·exact absurd (h _ ⋯) e
 ·exact z
def Ix {n:Nat} {a:cP} (h:∀ k,Bd n (co a k)):∀ z∈a,Bd n z:=λz b=>by
 obtain ⟨i,c,rfl⟩:=List.getElem_of_mem b;have:=h i;unfold co at this;rw [AT,Aw c] at this;exact this
def Ej (g:Int) (a:cP) (k:Nat):co (a.map (g*·)) k=g*co a k:=Iw (F:=(g*·)) ⋯ a k
def Ma {g:Int} (b:g≠0) {a:cP} (h:Tz (a.map (g*·))):Tz a:=by
 rcases h with h | h
 ·left;exact List.map_eq_nil_iff.mp h
 ·right;rw [Ej,AL] at h;exact λz=>h (by rw [z];omega)
def Mb {n:Nat} {g:Int} (c:0<g) {a:cP} (h:∀ z∈a.map (g*·),Bd n z):∀ z∈a,Bd n z:=λz b=>(h (g*z) (BG.mpr ⟨z,b,rfl⟩)).le (by
 rw [By];exact Nat.le_mul_of_pos_left _ ⋯)
def SZ {a b:Int} (c:b≠0) (h:a∣b):a.natAbs<=b.natAbs:=ET ⋯ (C4.mpr h)
def zU (h:Jx K vs H Q E):Pj K { nx:=λ_ d=>Q .non d,rt:=Q } (L2.start ["strand","other","shift","top","lead","shared","factor","weight"] vs) H:=by
 obtain ⟨p,q,o,rfl,j,w,J,k⟩:=h;obtain ⟨m,x,hp,f,_⟩:=j.head;obtain ⟨u,y,z,i,_⟩:=w.head;have A:L_ (V.ref m::x) 0=some (V.ref m):=Hj _ _;have B:L_ (V.ref u::y) 0=some (V.ref u):=Hj _ _;unfold Pj;rwa [];refine Ea (λn v d=>v=[some (.ref p),some (.ref q),none,none,none,none,none,none]/\d=H/\n=0) 0 ⟨rfl,rfl,rfl⟩ ?_;rintro n v d ⟨rfl,rfl,rfl⟩;rwa [hp,z,f,i,A,B];refine Au (λc=>by rw [AL] at c;exfalso;omega) (λ_=>?_);unfold Pi;rwa [];refine ⟨[[]],j,∅,(λr C=>by rw [BA.mp C];exact ⟨∅,.inl rfl⟩),λt a D F b G _=>k t D F ?_⟩;obtain ⟨g,_,e⟩:=G;have I:a.length=1:=by have:=congrArg List.length e;simpa using this.symm
 obtain ⟨r,rfl⟩:∃ r,a=[r]:=List.length_eq_one_iff.mp I;have e:[]=r.map (g*·):=List.head_eq_of_cons_eq e;rw [List.map_eq_nil_iff.mp e.symm] at b;exact b
def DM {a:cP} (h:Tz a) (b:a≠[]):Lz a:=by
 refine ⟨BD.mpr b,?_⟩;rcases h with e | e
 ·exact absurd e b
 ·exact e
def zV (h:Ii K vs H Q E):Pn K { nx:=λ_ b=>Q .non b,rt:=Q } (L2.start ["strand","other","rest"] vs) H:=by
 obtain ⟨p,q,s,o,rfl,r,f,em,k⟩:=h;unfold Pn;rwa [];refine Ea (λn i b=>(i=[some (.ref p),some (.ref q),none]/\b=H/\n=1)\/∃ (t:Addr) (u:cO),i=[some (.ref q),some (.ref t),u]/\Same H b/\SD b t [[]]/\o≠[]/\n=0) 1 (.inl ⟨rfl,rfl,rfl⟩) ?_;rintro n i b (⟨rfl,rfl,rfl⟩ | ⟨t,u,rfl,v,j,y,rfl⟩)
 ·obtain ⟨w,A,x,d,_⟩:=f.head;have g:L_ (V.ref w::A) 0=some (V.ref w):=Hj _ _;rwa [x,d,g];by_cases a:o=[]
  ·refine Au (λc=>absurd a (by simpa using c)) (λ_=>?_);rw [sC a] at k;exact k p _ (Same.refl _) r
  ·refine Au (λ_=>?_) (λc=>absurd (by simpa using c) a)
   have B:s=[]:=by
    rcases em with z | z
    ·exact z
    ·exact absurd z a
   rw [sB a] at k;refine ⟨λC D=>∃ F,F<1/\_,λ_ _ h=>h,?_⟩;rwa [x,d,g];refine Au (λ_=>k q _ (Same.refl _) f) (λ_=>?_);refine ⟨by rw [<-B];exact r,o,f,BD.mpr a,λt L G j=>?_⟩;exact ⟨0,∅,.inr ⟨G,j,a,rfl⟩⟩
 ·obtain ⟨e,I,J,m,_⟩:=j.head;have g:L_ (V.ref e::I) 0=some (V.ref e):=Hj _ _;rwa [J,m,g];refine Au (λc=>absurd c (by simp)) (λ_=>?_);rw [sB y] at k;exact k q _ v (f.tp v)
def zW {b n c:Nat} {r a g:cP} (o:∀ z∈r,Bd b z) (f:r.length<=n) (p:n<2 ^ c) (i:Lz g) (h:∀ k,co r k=cvL a (co g) k):∀ k,Bd (b+n*(2*c+4)) (co a k):=by
 rcases D3 a with z | ⟨d,e,_,j⟩
 ·intro k;rw [z k];exact Ci _
 have m:∀ k,co r k=cvL g (co d) k:=λk=>by rw [h k,B5,A8 (λk=>(j k).symm) g k]
 have t:co r (d.length - 1+(g.length - 1))≠0:=by rw [m,B5,Iq e i];exact Bg e.2 i.2
 have q:d.length<=r.length:=by
  rcases BF (d.length - 1+(g.length - 1)) r.length with c | c
  ·have:=e.1;omega
  ·exact absurd (Ae c) t
 intro k;rw [<-j k];exact Ip o ⟨_,t⟩ f (A7 q f) p m k
def zX {G S:cP} (a:Lz G) (h:∀ k,cvL S (co G) k=0) (k:Nat):co S k=0:=(MW a (T:=0) λk _=>h k).1 k (Ai k)
def Gen.Prim {r o:dh} {g:cP} (G:Gen r o g):Prim g:=λc a=>by
 rcases BF c.natAbs 2 with h | h
 ·rcases Ds c.natAbs with z | z
  ·exfalso;have b:c=0:=by omega
   have:=a (g.length - 1);rw [b] at this;exact G.lz.2 (Int.zero_dvd.mp this)
  ·omega
 ·exfalso;obtain ⟨n,d,_⟩:=G.prim h;exact d (Int.natAbs_dvd.mpr (a n))
def zY {R O A B G:cP} (a:Lz G) (b:∀ k,co R k=cvL A (co G) k) (c:∀ k,co O k=cvL B (co G) k) (q:QI (co R) (co O) (co G)):QI (co A) (co B) Af:=by
 obtain ⟨d,f,U,V,h⟩:=q;refine ⟨d,f,U,V,λk=>?_⟩
 have z:=zX (S:=A9 (A9 (Bk U A) (Bk V B)) [-d]) a (λk=>by
  rw [Bq,Bq,B7,B7,<-A8 b,<-A8 c];have:=h k
  have e:cvL [-d] (co G) k = -d*co G k:=by
   cases k with
   | zero=>rw [Ap];omega
   | succ k=>rw [Ak,Az];omega
  rw [e,Int.neg_mul,this];omega) k
 rw [Cr,Bq,Bq,B7,B7,<-A8 (Cr A),<-A8 (Cr B)] at z
 have e:cvL [-d] Af k = -d*Af k:=by
  cases k with
  | zero=>rw [Ap];omega
  | succ k=>rw [Ak,Az];omega
 rw [e,Int.neg_mul] at z;omega
def zZ (p:Nat) (e:0<p) (S:cP):(∀ k,(p:Int)∣co S k)\/∃ T,Lz T/\(∀ k,(p:Int)∣co S k - co T k)/\¬ (p:Int)∣co T (T.length - 1):=by
 have a:∀ k,co (S.map (·% (p:Int))) k=co S k % (p:Int):=λk=>Iw (F:=(·% (p:Int))) (Int.zero_emod _) S k;rcases D3 (S.map (·% (p:Int))) with z | ⟨T,b,_,c⟩
 ·exact .inl λk=>Int.dvd_of_emod_eq_zero (by rw [<-a k];exact z k)
 ·refine .inr ⟨T,b,λk=>?_,λh=>?_⟩
  ·rw [c,a];exact ⟨co S k / p,by have:=Int.emod_add_mul_ediv (co S k) p;omega⟩
  ·have d:=c (T.length - 1);rw [a] at d;have f:=BS (co S (T.length - 1)) (show (p:Int)≠0 by omega);have g:=BW (co S (T.length - 1)) (show (0:Int)<p by omega);have:=b.2;have l:=Int.le_of_dvd ⋯ h;omega
def cvT {p:Int} {S T:cP} {g:dh} {n:Nat} (a:∀ i,n<=i->g i=0) (h:∀ k,p∣co S k - co T k) (k:Nat):p∣cvL S g k - cvL T g k:=by
 have e:∀ k,g k=co ((List.range n).map g) k:=λk=>by
  rw [Jn];split
  ·rfl
  ·exact a k ⋯
 rw [A8 e,A8 e,B5,B5 T]
 have:=bu (S:=[1]) (f:=co S) (g:=co T) (λk=>by
  have d:cvL [1] (co T) k=co T k:=by
   cases k with
   | zero=>rw [Ap];omega
   | succ k=>rw [Ak,Az];omega
  rw [d];exact h k) ((List.range n).map g) k
 rwa [A8 (b:=cvL [1] (co T)) (c:=co T) (λk=>by
  cases k with
  | zero=>rw [Ap];omega
  | succ k=>rw [Ak,Az];omega)] at this
def Sa {p:Nat} (hp:Pr p) {R A G a T:cP} (b:∀ k,co R k=cvL A (co G) k) (m:Lz G) (c:¬ (p:Int)∣co G (G.length - 1)) (f:∀ k,(p:Int)∣co a k - cvL T (co G) k) (d:Dm (p:Int) (co a) (co R)):Dm (p:Int) (co T) (co A):=by
 obtain ⟨X,g⟩:=d;refine ⟨X,λk=>?_⟩
 have z:=Jm hp c (λi n=>by rw [Ae ⋯];exact Co _) (A9 A ((Bk X T).map ((-1)*·))) (λk _=>by
  rw [Bq,BC,B7,<-b];have h:=g k;have j:=bu f X k;have:=Cn h j;refine CM this (FH ?_);omega)
 have e:co A k - cvL X (co T) k=co (A9 A ((Bk X T).map ((-1)*·))) k:=by
  rw [Cr (A9 A _),Bq,BC,B7,<-Cr,<-A8 (Cr T)];omega
 rw [e];exact SJ z k
def yA {x e c M p N:Nat} (b:x<2 ^ (c+1)) (d:N<=M) (a:2 ^ ((e+c+2)*M)<p):(2*(x*2 ^ e)) ^ N<p:=by
 have f:2*(x*2 ^ e)<=2 ^ (e+c+2):=by
  have:x*2 ^ e<=2 ^ (c+1)*2 ^ e:=B8 _ (EB b);have g:2 ^ (e+c+2)=2*(2 ^ (c+1)*2 ^ e):=by rw [<-Nat.pow_add,show e+c+2=(c+1+e)+1 by omega,CI];omega
  omega
 refine DT ?_ a;rw [Nat.pow_mul];exact A7 (Nat.pow_le_pow_left f N) (Dq (Nat.pow_pos ∅) d)
theorem Sb (g:dh):∀ k,cvL [1] g k=g k
 | 0=>by rw [Ap];omega
 | k+1=>by rw [Ak,Az];omega
def yB {ns u b m G:cP} {p c e N:Nat} {d:Int} (hp:Pr p) (ln:Lz ns) (lm:Lz u) (fn:Fi e ns) (fm:Fi e u) (hc:ns.length+u.length<2 ^ (c+1)) (hN:ns.length+u.length<=N+2) (n2:2<=N) (W:2 ^ ((e+c+2)*N)<p)
  (I:((Int.gcd (co ns (ns.length - 1)) (co u (u.length - 1)):Nat):Int)=d) (X:Gen (co ns) (co u) G) (r0:0<b.length) (one:co b (b.length - 1)=1) (ac:G.length<=b.length) (pG:¬ (p:Int)∣co G (G.length - 1)) (dG:Dm (p:Int) (co G) (co b)) (dn:Dm (p:Int) (co b) (co ns)) (dm:Dm (p:Int) (co b) (co u))
  (gl:m.length=b.length) (hg:∀ k,k<b.length->(p:Int)∣co m k - d*co b k) (hb:∀ z∈m,2*z.natAbs<=p):MQ (co m) (co ns)/\MQ (co m) (co u):=by
 have p2:=hp.two;have P:=X.Prim;have C:=X.lz;obtain ⟨A,J⟩:=O' P X.rc.left;obtain ⟨B,U⟩:=O' P X.rc.right;have Y:=fn G A (λk=>by rw [J k,B5]);have bB:=fm G B (λk=>by rw [U k,B5]);have bG:=fn A G J;have a6:=fn [1] ns (λk=>(Sb _ k).symm);have a7:=zY C J U X.qi;obtain ⟨S,hS⟩:=dG;have p0:0<p:=by omega
 have D:¬ (p:Int)∣(1:Int):=λz=>by have:=Int.le_of_dvd ∅ z;omega
 rcases zZ p p0 S with z | ⟨T,lT,hT,pT⟩
 ·exfalso;have o:=hS (b.length - 1);have r:=cvT (p:=(p:Int)) (S:=S) (T:=[]) (g:=co G) (n:=G.length) (λi L=>Ae L) (λk=>by rw [Ae (a:=[]) (Ai _),Int.sub_zero];exact z k) (b.length - 1);rw [one] at o;rw [Az,Int.sub_zero] at r;have:=Cn o r;rw [Int.sub_add_cancel] at this;exact D this
 have v:∀ k,(p:Int)∣co b k - cvL T (co G) k:=λk=>by
  have:=Cn (hS k) (cvT (λi L=>Ae L) hT k (g:=co G) (n:=G.length));refine CM this (FH ?_);omega
 have t0:=lT.1;have g0:=C.1
 have tl:T.length+G.length=b.length+1:=by
  have tp:=Iq lT C
  have np:¬ (p:Int)∣co T (T.length - 1)*co G (G.length - 1):=λz=>by
   rcases hp.mulI z with q | q
   ·exact pT q
   ·exact pG q
  have o:=v (T.length - 1+(G.length - 1));rw [tp] at o
  have c1:T.length - 1+(G.length - 1)<b.length:=by
   rcases BF (T.length - 1+(G.length - 1)) b.length with c | c
   ·exact c
   ·exfalso;rw [Ae c,Int.zero_sub] at o;exact np (Int.dvd_neg.mp o)
  have r:=v (b.length - 1);rw [one] at r;rcases BF (T.length - 1+(G.length - 1)) (b.length - 1) with c | c
  ·exfalso;rw [EM (n:=G.length) (λi L=>Ae L) T _ ⋯,Int.sub_zero] at r;exact D r
  ·omega
 have Z:=Sa hp J C pG v dn;have a1:=Sa hp U C pG v dm
 have f:∀ {R A:cP},Lz R->(∀ k,co R k=cvL A (co G) k)->(∀ k,Bd e (co A k))->∃ j,Lz j/\j.length<=R.length/\co j=co A:=λ{R A} lR h _=>by
  rcases D3 A with z | ⟨j,F,_,ea⟩
  ·exact absurd (by rw [h,B5,Fu G z]) lR.2
  ·refine ⟨j,F,?_,funext ea⟩
   have t:co R (j.length - 1+(G.length - 1))≠0:=by
    rw [h,B5,A8 (λk=>(ea k).symm) G,<-B5,Iq F C];exact Bg F.2 C.2
   rcases BF (j.length - 1+(G.length - 1)) R.length with c | c
   ·have:=F.1;omega
   ·exact absurd (Ae c) t
 obtain ⟨j,lA,An,eA⟩:=f ln J Y;obtain ⟨B',lB,Bn,eB⟩:=f lm U bB
 have ah:2 ^ e<p:=DT (Dq ∅ (by
  have:(e+c+2)*1<=(e+c+2)*N:=C5 _ ⋯;omega)) W
 have T1:T.length=1:=by
  rcases BF T.length 2 with cT | cT
  ·omega
  ·exfalso
   have w:∀ {A:cP},Lz A->(∀ k,Bd e (co A k))->Dm (p:Int) (co T) (co A)->2<=A.length:=λ{A} lA Y dA=>by
    have:=Dm.len hp t0 pT dA ⟨A.length - 1,λz=>by
     have o:=Y (A.length - 1);have r:=C4.mpr z;have h3:=ET (by have:=lA.2;omega) r;rw [CN] at h3;have:(co A (A.length - 1)).natAbs<2 ^ e:=o;omega⟩
    omega
   have a2:=w lA (λk=>by rw [eA];exact Y k) (by rw [eA];exact Z);have b2:=w lB (λk=>by rw [eB];exact bB k) (by rw [eB];exact a1);refine bW hp lA lB (by rw [eA,eB];exact a7) (λk=>by rw [eA];exact Y k) (λk=>by rw [eB];exact bB k) a2 b2 cT pT (by rw [eA];exact Z) (by rw [eB];exact a1) (yA (x:=j.length+B'.length) (c:=c) (M:=N) ⋯ ⋯ W)
 obtain ⟨s,rfl⟩:∃ s,T=[s]:=by
  match T,T1 with
  | [s],_=>exact ⟨s,rfl⟩
 have a3:∀ k,(p:Int)∣co b k - s*co G k:=λk=>by
  have:=v k
  have e1:cvL [s] (co G) k=s*co G k:=by
   cases k with
   | zero=>rw [Ap];omega
   | succ k=>rw [Ak,Az];omega
  rwa [e1] at this
 have lr:G.length=b.length:=by simp at tl;omega
 have a4:∀ {R A:cP},(∀ k,co R k=cvL A (co G) k)->Lz R->co G (G.length - 1)∣co R (R.length - 1):=λ{R A} h lR=>by
  rcases D3 A with z | ⟨j,F,_,ea⟩
  ·exact absurd (by rw [h,B5,Fu G z]) lR.2
  ·have hh:∀ k,co R k=cvL j (co G) k:=λk=>by rw [h,B5,A8 (λk=>(ea k).symm) G,<-B5]
   have tp:=Iq F C;have a0:=F.1
   have rl:R.length - 1=j.length - 1+(G.length - 1):=by
    rcases Nat.lt_trichotomy (R.length - 1) (j.length - 1+(G.length - 1)) with c | c | c
    ·exfalso;have:=hh (j.length - 1+(G.length - 1));rw [Ae (by have:=lR.1;omega),tp] at this;exact Bg F.2 C.2 this.symm
    ·exact c
    ·exfalso;have:=hh (R.length - 1);rw [EM (n:=G.length) (λi L=>Ae L) j _ ⋯] at this;exact lR.2 this
   rw [rl,hh,tp];exact Int.dvd_mul_left _ _
 obtain ⟨t,ht⟩:co G (G.length - 1)∣d:=by rw [<-I];exact Int.dvd_coe_gcd (a4 J ln) (a4 U lm)
 have O:d≠0:=λz=>by
  rw [<-I] at z;have:Int.gcd (co ns (ns.length - 1)) (co u (u.length - 1))=0:=by omega
  exact ln.2 (Int.gcd_eq_zero_iff.mp this).1
 have a8:t≠0:=λz=>O (by rw [ht,z,Int.mul_zero])
 have bt:t.natAbs<2 ^ e:=by
  have o:d∣co ns (ns.length - 1):=by rw [<-I];exact Ep ..
  have r:=CM (show t∣d from ⟨co G (G.length - 1),by rw [ht,Int.mul_comm]⟩) o;have h3:=ET (by have:=ln.2;omega) (C4.mpr r);have h4:(co ns (ns.length - 1)).natAbs<2 ^ e:=a6 _;omega
 have a9:∀ k,co m k=t*co G k:=λk=>by
  rcases BF k b.length with ck | ck
  ·have o:=hg k ck;have r:=a3 k;have h3:=a3 (b.length - 1);rw [one,<-lr] at h3
   have dv:(p:Int)∣co m k - t*co G k:=by
    have q1:(p:Int)∣d*(co b k - s*co G k):=FS r;have q2:(p:Int)∣(t*co G k)*(1 - s*co G (G.length - 1)):=FS h3;have:=Int.dvd_sub (Cn o q1) q2;refine CM this (FH ?_);rw [ht];ext
   have b1:2*(co m k).natAbs<=p:=by
    have:co m k∈m:=by
     unfold co;rw [AT,Aw ⋯];exact Er _
    exact hb _ this
   have b2:2*(t*co G k).natAbs<p:=by
    rw [By];have h5:t.natAbs*(co G k).natAbs<=2 ^ e*2 ^ e:=BN (EB bt) (EB (bG k))
    have h6:2*(2 ^ e*2 ^ e)<=2 ^ ((e+c+2)*N):=by
     rw [<-Nat.pow_add,show 2*2 ^ (e+e)=2 ^ (e+e+1) by rw [CI];omega];refine Dq ∅ ?_;have:(e+c+2)*2<=(e+c+2)*N:=C5 _ ⋯;omega
    omega
   obtain ⟨y,hy⟩:=dv;have ab:(co m k - t*co G k).natAbs<p:=by omega
   rcases Int.lt_trichotomy y 0 with z | z | z
   ·have:(p:Int)*y<=(p:Int)*(-1):=IB ⋯ ⋯;omega
   ·rw [z] at hy;omega
   ·have:(p:Int)*1<=(p:Int)*y:=IB ⋯ ⋯;omega
  ·rw [Ae ⋯,Ae (a:=G) ⋯];omega
 have a5:∀ {R A:cP},(∀ k,co R k=cvL A (co G) k)->MQ (co m) (co R):=λ{R A} h=>⟨t,a8,A,λk=>by rw [A8 a9,Cj,h k]⟩;exact ⟨a5 J,a5 U⟩
def Sc {g f:cP} {A:cP} (h:∀ k,co f k=cvL A (co g) k):MQ (co g) (co f):=⟨1,∅,A,λk=>by rw [<-h k];omega⟩
def yC (h:J4 K vs H Q E):QU K { nx:=λ_ M=>Q .non M,rt:=Q } (L2.start ["row","other","prime","lead","found","guess"] vs) H:=by
 obtain ⟨a,b,o,v,p,d,O,W,NN,rfl,ha,hb,N,bp,P,lm,bn,bm,dn,dm,fn,fm,nc,hN,a6,kN,kR⟩:=h;have p2:(2:Int)<=(p:Int):=by have:=N.two;omega
 unfold QU;have an:=Iu P.1;have am:=Iu lm.1;rwa [ha,hb,an,am];generalize I:((Int.gcd (co o (o.length - 1)) (co v (v.length - 1)):Nat):Int)=j;have X:j∣co o (o.length - 1):=by rw [<-I];exact Ep ..
 have bl:Bd d j:=(Dd bn (o.length - 1)).le (SZ P.2 X);refine ⟨⋯,Au (λc=>?_) (λc=>?_)⟩
 ·refine kN (λw=>?_) _ (Same.refl H);have ao:j.natAbs<2 ^ O:=(fn [1] o (λk=>(Sb _ k).symm) (o.length - 1)).le (SZ P.2 X);have z:=Int.dvd_of_emod_eq_zero (show j % (p:Int)=0 by simpa using c)
  have l0:j≠0:=λz=>by
   rw [<-I] at z;have:Int.gcd (co o (o.length - 1)) (co v (v.length - 1))=0:=by omega
   exact P.2 (Int.gcd_eq_zero_iff.mp this).1
  have h3:=ET ⋯ (C4.mpr z);rw [CN] at h3
  have:2 ^ O<=2 ^ ((O+W+2)*NN):=by
   refine Dq ∅ ?_;have:(O+W+2)*1<=(O+W+2)*NN:=C5 _ ⋯;omega
  have w:2 ^ ((O+W+2)*NN)<p:=w;omega
 have pl:¬ (p:Int)∣j:=λz=>c (by rw [Int.emod_eq_zero_of_dvd z])
 have Y:¬ (p:Int)∣co o (o.length - 1)\/¬ (p:Int)∣co v (v.length - 1):=by
  by_cases Z:(p:Int)∣co o (o.length - 1)
  ·right;intro h2;exact pl (by rw [<-I];exact Int.dvd_coe_gcd Z h2)
  ·exact .inl Z
 refine ⟨o,v,p,rfl,rfl,rfl,N,bp,⋯,⋯,?_,λs J H1 s1 hs r0 rl one br hD a7 a8=>?_⟩
 ·rcases Y with h | h
  ·exact .inl ⟨_,h⟩
  ·exact .inr ⟨_,h⟩
 refine ⟨⟨_,SqL.of hs⟩,CompJ.lst (xs:=J.map V.int) (λi ys M=>i<=J.length/\M=H1/\∃ m:cP,ys=m.map V.int/\m.length=i/\(∀ k,k<i->(p:Int)∣co m k - j*co J k)/\∀ z∈m,Bd 45000 z/\2*z.natAbs<=p) ⟨Ai _,rfl,[],rfl,rfl,λk hk=>absurd hk ⋯,λz R=>nomatch R⟩ ?_ ?_ ?_⟩
 ·rintro i ys M ⟨Z,rfl,m,rfl,gl,_⟩;exact ⟨by rw [AL];exact Z,sz (by rw [AL];omega),SqL.of hs⟩
 ·rintro i x ys M hi ⟨Z,rfl,m,rfl,gl,hg,w⟩;rw [Aj] at hi;cases e:J[i]? with
  | none=>rw [e] at hi;cases hi
  | some n=>
    rw [e] at hi;obtain rfl:V.int n=x:=sJ hi;have ar:i<J.length:=(CK.mp e).1;have b0:=br n (BV e);have cn:co J i=n:=by unfold co;rw [AT,e];rfl
    rwa [];refine ⟨D4 bl (bp.le (x:=(p:Int)) (y:=n) ⋯),⋯,λr a9 S=>⟨⋯,m++[r],by simp,by simp;omega,λk hk=>?_,λz R=>?_⟩⟩
    ·by_cases ek:k=i
     ·subst ek;have:co (m++[r]) k=r:=by unfold co;rw [AT,<-gl];simp
      rw [this,cn];exact a9
     ·have:co (m++[r]) k=co m k:=by unfold co;rw [AT,AT,GF ⋯]
      rw [this];exact hg k ⋯
    ·rcases EC.mp R with z1 | z1
     ·exact w z z1
     ·rw [BA.mp z1];exact ⟨bp.le ⋯,by rw [CN] at S;exact S⟩
 ·rintro ys M ⟨_,rfl,m,rfl,gl,hg,w⟩ t ht;rw [AL] at gl hg;have st:=AO ht (.lst (m.map V.int));have a0:upd M t (.lst (m.map V.int)) t=_:=upd_same;generalize upd M t (.lst (m.map V.int))=H2 at st a0 ⊢;have a1:0<m.length:=by omega
  have B:co m (m.length - 1)≠0:=λz=>by
   have:=hg (m.length - 1) ⋯;rw [z,show m.length - 1=J.length - 1 by omega,one] at this;exact pl (by have t2:=Int.dvd_neg.mpr this;rw [show -(0 - j*1)=j by omega] at t2;exact t2)
  rwa [a0];refine ⟨m,rfl,⋯,.inr B,λu q g H3 s3 hu g0 eg hp=>?_⟩
  have Pg:Prim q:=by
   rcases hp with h | h
   ·rw [h] at a1;simp at a1
   ·exact h
  have a2:q.length=m.length:=by rw [eg,AL]
  have T:Lz q:=DM (Ma (AW g0) (by rw [<-eg];exact .inr B)) (λz=>by rw [z] at a2;simp at a2;omega);have a3:∀ z∈q,Bd 45000 z:=Mb g0 (by rw [<-eg];exact λz R=>(w z R).1);have C:Same H H3:=(s1.trans st).trans s3;have ab:=C _ _ ha;have ac:=C _ _ hb;obtain ⟨G,L⟩:=Yj P (QI.left (co o) (co v));have mn:=L.mq _ o (AU _) (QI.left _ _);have mm:=L.mq _ v (AU _) (QI.right _ _)
  have D:¬ (p:Int)∣co G (G.length - 1):=by
   rcases Y with h | h
   ·exact L.lead N P mn h
   ·exact L.lead N lm mm h
  have dG:=hD (co G) (L.dm N mn) (L.dm N mm)
  have a4:G.length<=J.length:=Dm.len N L.lz.1 D dG ⟨J.length - 1,by
   rw [one];intro z;have:=Int.le_of_dvd ∅ z;omega⟩
  have F:O6 O W NN p->(∃ A:cP,∀ k,co o k=cvL A (co q) k)/\∃ A:cP,∀ k,co v k=cvL A (co q) k:=λah=>by
   obtain ⟨q1,q2⟩:=yB N P lm fn fm nc hN a6 ah I L r0 one a4 D dG a7 a8 gl hg (λz R=>(w z R).2);have sc:∀ k,co m k=g*co q k:=λk=>by rw [eg,Ej]
   have mg:MQ (co q) (co m):=⟨1,∅,[g],λk=>by
    have e:cvL [g] (co q) k=g*co q k:=by
     cases k with
     | zero=>rw [Ap];omega
     | succ k=>rw [Ak,Az];omega
    rw [e,sc];omega⟩
   exact ⟨O' Pg (mg.trans q1),O' Pg (mg.trans q2)⟩
  rwa [ab,hu];refine ⟨o,rfl,q,rfl,T,d,bn,45000,a3,⋯,∅,⋯,⋯,λno=>kN (λw=>no (F w).1) |> λf H4 U=>f H4 (C.trans U),λr qs H4 U hr hq=>?_⟩;have aj:=U _ _ ac;have a5:=U _ _ hu;rwa [aj,a5];refine ⟨v,rfl,q,rfl,T,d,bm,45000,a3,⋯,∅,⋯,⋯,λno=>kN (λw=>no (F w).2) |> λf H5 s5=>f H5 ((C.trans U).trans s5),λr2 b1 H5 s5 S al=>?_⟩;exact kR u q H5 ((C.trans U).trans s5) (s5 _ _ a5) (Ym L.rc T (Sc hq) (Sc al) ⋯) Pg
noncomputable def exps:List Nat:=[61,127,521,1279,4423,9941,21701,44497]
def yD (K:W.Frag):Prop:=∀ H:Hp,SqT K H (Gk K) (exps.map λe:Nat=>V.int (e:Int))
def yE:∀ e∈exps,Pr (mers e)/\e<=44497:=by
 intro e a;have h:e=61\/e=127\/e=521\/e=1279\/e=4423\/e=9941\/e=21701\/e=44497:=by simpa [exps] using a
 rcases h with h | h | h | h | h | h | h | h <;> rw [h]
 ·exact ⟨YX,∅⟩
 ·exact ⟨YY,∅⟩
 ·exact ⟨YZ,∅⟩
 ·exact ⟨Yb,∅⟩
 ·exact ⟨Yc,∅⟩
 ·exact ⟨Ye,∅⟩
 ·exact ⟨Yg,∅⟩
 ·exact ⟨Yi,∅⟩
def yF (e:Nat):(2:Int) ^ (e:Int).toNat - 1=((mers e:Nat):Int):=by
 unfold mers;have:=Nat.one_le_two_pow (n:=e);rw [Int.natCast_sub this,DF,Int.natCast_pow];rfl
def yG {e:Nat} (h:e<=44497):Bd 45000 ((mers e:Nat):Int):=by
 unfold Bd mers;rw [CN];have a:=Nat.one_le_two_pow (n:=e);have b:=Dq (n:=2) ∅ (show e<=45000 by omega);omega
def Mc {ns b one a i:cP} {g h:Int} (n:g≠0) (o:h≠0) (p:ns=one.map (g*·)) (q:b=a.map (h*·)) (R:RC (co one) (co a) i):RC (co ns) (co b) i:=by
 have j:∀ k,co ns k=g*co one k:=λk=>by rw [p,Ej]
 have m:∀ k,co b k=h*co a k:=λk=>by rw [q,Ej]
 refine ⟨R.lz,?_,?_,?_⟩
 ·obtain ⟨c,e,A,f⟩:=R.left;exact ⟨c,e,A.map (g*·),λk=>by rw [BC,<-f k,j k];ext⟩
 ·obtain ⟨c,e,A,f⟩:=R.right;exact ⟨c,e,A.map (h*·),λk=>by rw [BC,<-f k,m k];ext⟩
 ·obtain ⟨d,r,U,W,u⟩:=R.qi;refine ⟨g*h*d,Bg (Bg n o) r,U.map (h*·),W.map (g*·),λk=>?_⟩;rw [BC,BC,A8 j U k,A8 m W k,Cj,Cj];have:=u k;ext
def Sd {e:Nat} {a:Int} {one ns:cP} (m:a≠0) (b:ns=one.map (a*·)) (h:Fp e ns):Fp e one:=λg d f ⟨c,i,A,j⟩=>h g d f ⟨c,i,A.map (a*·),λk=>by
 rw [BC,<-j k,b,Ej];ext⟩
theorem Se {c:Int} {g:dh} (h:∀ k,c∣g k):∀ (A:cP) (k:Nat),c∣cvL A g k
 | [],_=>by rw [Az];exact Co c
 | x::A,0=>by rw [Ap];exact Cn (FS (h 0)) (Co c)
 | x::A,k+1=>by rw [Ak];exact Cn (FS (h _)) (Se h A k)
def Sf {e:Nat} {one:cP} (p:Prim one) (h:Fp e one):Fi e one:=λA g b k=>by
 rcases D3 g with z | ⟨d,f,_,a⟩
 ·rw [z k];exact Ci _
 ·rw [<-a k];refine h d f (λc i=>p c λk=>?_) ⟨1,∅,A,λk=>by rw [Int.one_mul,b k];exact A8 (λk=>(a k).symm) A k⟩ k;rw [b k];exact Se (λk=>by rw [<-a k];exact i k) A k
def yH {K:W.Frag} (hK:yD K) {vs:cN} {H:Hp} {Q:VK} {E:XK} (h:J5 K vs H Q E):QV K { nx:=λ_ j=>Q .non j,rt:=Q } (L2.start ["row","other","one","two","exponent","found"] vs) H:=by
 obtain ⟨a,b,p,D,d,J,cc,NN,rfl,ha,hb,tn,tm,bn,bm,d9,nN,mN,L,nc,hN,a0,sm,k⟩:=h;unfold QV;rwa [ha];refine ⟨p,rfl,⋯,tn,λF one g1 H1 s1 n f q p1=>?_⟩;have a3:=s1 _ _ hb;rwa [a3];refine ⟨D,rfl,⋯,tm,λM c g2 G s2 r g w p2=>?_⟩;have m:=s1.trans s2;have a4:=m _ _ ha;have a5:=m _ _ hb;have N:=s2 _ _ n;have l1:p.length=one.length:=by rw [q,AL]
 have l2:D.length=c.length:=by rw [w,AL]
 have t1:Tz one:=Ma (AW f) (by rw [<-q];exact tn);have t2:Tz c:=Ma (AW g) (by rw [<-w];exact tm);have b1:∀ z∈one,Bd d z:=Mb f (by rw [<-q];exact bn);have b2:∀ z∈c,Bd d z:=Mb g (by rw [<-w];exact bm);have O:one=[]↔p=[]:=by rw [<-CL,<-CL,l1]
 have I:c=[]↔D=[]:=by rw [<-CL,<-CL,l2]
 have P:(p=[]\/D=[])->∀ (U:Hp) (u v:cO),Same G U->(Ab (A_ gL (AF (Ii K) [] E0 (AB (BQ (AB (AA 2) AC)) (AB (BQ (AB (AA 3) AC)) AC))) (tC (.int 0)))) { nx:=λ_ j=>Q .non j,rt:=Q } [some (.ref a),some (.ref b),some (.ref F),some (.ref M),u,v] U:=λem U u v o=>by
  have A:=o _ _ N;have B:=o _ _ r;rwa [];refine ⟨sz ∅,λx hx=>?_⟩;have sx:=AO hx (.lst [.ref F]);refine ⟨sz ∅,λy hy=>?_⟩;have X:=AO hy (.lst [.ref M]);have a6:=X _ _ (show upd U x (.lst [.ref F]) x=_ from upd_same);refine ⟨one,⟨[V.ref F],a6,⟨⟨F,rfl,X _ _ (sx _ _ A)⟩,trivial⟩⟩,c,⟨[V.ref M],upd_same,⟨⟨M,rfl,X _ _ (sx _ _ B)⟩,trivial⟩⟩,em.imp (λz=>O.mpr z) (λz=>I.mpr z),λt Y R a7=>?_⟩;obtain ⟨ar,xr,ht,a8,_⟩:=a7.head;refine ⟨_,ht,_,Hj _ _,?_⟩;refine k ar _ Y (m.trans (o.trans ((sx.trans X).trans R))) a8 (λa9=>?_) λn r=>by rw [sC (I.mpr r)];exact O.mpr n
  have z0:∀ {x:cP},x=[]->∀ k,co x k=0:=λe k=>by rw [e];exact Ae (Ai _)
  by_cases C:c=[]
  ·rw [sC C]
   have Z:p≠[]:=by
    rcases a9 with h | h
    ·exact h
    ·exact absurd (I.mp C) h
   have ab:Lz one:=DM t1 λz=>Z (O.mp z);exact ⟨Mc (AW f) (AW g) q w ⟨ab,MQ.refl _,MQ.zero _ (z0 C),QI.left _ _⟩,p1.resolve_left Z⟩
  ·rw [sB C];have Z:one=[]:=O.mpr (em.resolve_right λz=>C (I.mpr z));exact ⟨Mc (AW f) (AW g) q w ⟨DM t2 C,MQ.zero _ (z0 Z),MQ.refl _,QI.right _ _⟩,p2.resolve_left λz=>C (I.mpr z)⟩
 have l0:=λem=>P em G none none (Same.refl G);simp only [AI,AQ,AF,AB,AA,AC,AH,IE,L2.start,BO,aV,Ax,tB,A_,ae,rI,tC,Q_,rU,BX,Ab,A6,BQ,Ua,Dv,GO,K_,Up,EG,aA,HG,UU,UV,UW,X_,aC,Ez,Ba,BM,A5,K5,K6,BE,N5,Wb,aQ,iLe,aF,cg,CJ,gT,gL,gS,IL,Gb,K8,K9,C7,CD,Wc,LA,We,Wf,Wg,eqT,Wj,Wk,Wm,Wn,List.map_cons,List.map_nil,Cf,List.length_nil,List.replicate,List.cons_append,List.nil_append,List.append_nil,List.getElem?_cons_zero,List.getElem?_cons_succ,Option.some.injEq,exists_eq_left',exists_eq_left,V.int.injEq,V.bl.injEq,V.ref.injEq,V.ty.injEq,HO.tup.injEq,HO.lst.injEq,List.cons.injEq,and_true,true_and,and_assoc,exists_and_left,List.set_cons_zero,List.set_cons_succ,decide_eq_true_eq,decide_eq_false_iff_not,Bool.not_eq_true',Bool.true_eq_false,Bool.false_eq_true,Bool.not_true,Bool.not_false,if_true,if_false,ite_true,ite_false,Wx,Wz,Wp,Wq,Wu,Wv,Ww,W0,W3,Nat.zero_add,Nat.reduceAdd,Nat.reduceSub,upd_same,Int.cast_ofNat_Int,decide_true,decide_false,eq_self,not_true_eq_false,not_false_eq_true,Int.natCast_add,Int.natCast_zero,reduceCtorEq,Nm,EI,CO,EH,HH,au,EX,Cg,sL,sT,IP,Xe,Jd,Eb,Xd,E2,HL,HK,K2,VQ,aS,VO,XU,XV,XW,XX,XZ,Xl,Xk,XY,Xh,LH,OJ,LI,LE,OI,Bt,EJ,LF,Jg,C8,Option.bind_some,Option.bind_none,Option.bind,Option.join,id_eq,sS,X4,X6,Eh,HS,HU,Ic,Id,Ie,Ig,Ih,HV,Jx,Ii,Jy,Jz,HW,HX,J0,J1,J2,J3,J4,J5,CY,Cm,Ei,Gn,Dn,J6,J7,Ij,J9,Cc,Fz,Db,Go,KA,KD,EO,Do,KH,KF] at l0;have ac:p≠[]->D≠[]->Lz one/\Lz c:=λn r=>⟨DM t1 λz=>n (O.mp z),DM t2 λz=>r (I.mp z)⟩;refine ⟨_,a4,Au (λc1=>⟨_,a5,Au (λc2=>⟨⟨_,hK G⟩,?_⟩) (λc2=>l0 (.inr (by simpa using c2)))⟩) (λc1=>l0 (.inl (by simpa using c1)))⟩;have y1:p≠[]:=by simpa using c1
 have y2:D≠[]:=by simpa using c2
 obtain ⟨z1,z2⟩:=ac y1 y2;have ah:Fi J one:=Sf (p1.resolve_left y1) (Sd (AW f) q (L y1 y2).1);have aj:Fi J c:=Sf (p2.resolve_left y2) (Sd (AW g) w (L y1 y2).2);refine NW (xs:=exps.map λe:Nat=>V.int (e:Int)) (λi σ j=>i<8/\∃ u v,σ=[some (.ref a),some (.ref b),some (.ref F),some (.ref M),u,v]/\Same G j) ⟨∅,none,none,rfl,Same.refl G⟩ (λi σ j _ _=>hK j) ?_ ?_
 ·rintro i x σ j S ⟨i8,u,v,rfl,o⟩;rw [Aj] at S;cases e:exps[i]? with
  | none=>rw [e] at S;cases S
  | some T=>
    rw [e] at S;obtain rfl:V.int (T:Int)=x:=sJ S;obtain ⟨pe,pl⟩:=yE T (BV e);have A:=o _ _ N;have B:=o _ _ r;rwa [A,B];refine ⟨⋯,2,by unfold Bd;decide,⋯,one,c,mers T,yF T,rfl,rfl,pe,yG pl,z1,z2,d,b1,b2,⋯,⋯,J,ah,aj,cc,⋯,NN,⋯,a0,λnb Y R=>⟨?_,o.trans R⟩,λt rs Y R ht rc pr=>?_⟩
    ·rcases BF (i+1) 8 with c8 | c8
     ·exact c8
     ·exfalso;have i7:i=7:=by omega
      rw [i7] at e;obtain rfl:44497=T:=sJ e;refine nb ?_;show 2 ^ ((J+cc+2)*NN)<mers 44497;have n:2 ^ ((J+cc+2)*NN)<=2 ^ 44490:=Dq ∅ sm
      have r:2 ^ 44490<mers 44497:=by
       unfold mers;have e7:2 ^ 44497=2 ^ 44490*2 ^ 7:=by rw [<-Nat.pow_add]
       rw [e7];have:1<=2 ^ 44490:=Nat.one_le_two_pow;omega
      omega
    exact k t rs Y (m.trans (o.trans R)) ht (λ_=>⟨Mc (AW f) (AW g) q w rc,pr⟩) λn _=>absurd n (by simpa using c1)
 ·rintro σ j ⟨i8,_⟩;exact absurd i8 (by simp [exps])
def Bv (l:cJ):(AJ l).length=l.length:=by unfold AJ;rw [AL]
def Ek {l:cJ} (a:AV l) (b:Nz l):Tz (AJ l):=by
 by_cases h:l=[]
 ·left;rw [h];rfl
 ·right;rw [Bv];exact KK a b (BD.mpr h)
def yI {l:cJ} {M N:Int} (f:AV l) (g:Ov l M) (i:Ov l N) (h:M∣N) {b:Nat} (j:∀ z∈N_ l N,Bd b z):∀ z∈N_ l M,Bd b z:=λz k=>by
 obtain ⟨q,a,rfl⟩:=BG.mp k;refine (j (q.1*(N / q.2)) (BG.mpr ⟨q,a,rfl⟩)).le ?_;rw [By,By];refine C5 _ ?_;have c:=(f q a).pos;obtain ⟨x,d⟩:=g.2 q a;obtain ⟨y,e⟩:=h;have m:M / q.2=x:=by rw [d,HE _ (AW c)]
 have n:N / q.2=x*y:=by rw [e,d,Int.mul_assoc,HE _ (AW c)]
 rw [m,n,By];refine Nat.le_mul_of_pos_right _ ?_;rcases Ds y.natAbs with z | z
 ·have o:y=0:=by omega
  have:=i.1;rw [e,o] at this;omega
 ·exact z
def Gq.clr {b c:Nat} {l:cJ} (G:Gq b c l):(∀ z∈AJ l,Bd b z)/\Bd c (AY l)/\(∀ q∈l,Bd b q.1):=by
 obtain ⟨M,a,f,d⟩:=G.ov;have e:=Oi G.low a;exact ⟨yI G.low (Bj G.low) a e d,DH (AW a.1) e f,SK G.low a d⟩
def D5 (g:cP):(E_ g).length=g.length:=by unfold E_;rw [AL]
def FI {g:cP} (a:Lz g):AV (E_ g):=λq b=>by
 obtain ⟨z,_,rfl⟩:=BG.mp b;exact D2 a.2
theorem KO {g:cP} (a:Lz g) (k:Nat):B_ (E_ g) k=(co g k:Rat) / (co g (g.length - 1):Rat):=by
 unfold B_ AR E_;rw [AT,Aj];unfold co;rw [AT (l:=g) (i:=k)];cases e:g[k]? with
 | none=>
   show val (0,1)=((0:Int):Rat) / _;unfold val;show ((0:Int):Rat) / _=_;rw [show ((0:Int):Rat)=0 from rfl,O_,O_]
 | some z=>exact Ee a.2
def Sg {g:cP} (a:Lz g):AR (E_ g) (g.length - 1)=(1,1):=FA (B9 (FI a) _) ⟨∅,∅⟩ (by
 have h:=KO a (g.length - 1);unfold B_ at h;rw [h];have:=Aq a.2;have b:val (1,1)=1:=by unfold val;show ((1:Int):Rat) / ((1:Int):Rat)=1;ext
 rw [b];ext)
def Hk {g:cP} (b:Lz g):Nz (E_ g):=λq a=>by
 have h:=Sg b;rw [Es,D5] at a;unfold AR at h;rw [AT,a] at h;have c:q=(1,1):=h;rw [c];decide
def yJ (h:Dn K vs H Q E):Qp K { nx:=λ_ H'=>Q .non H',rt:=Q } (L2.start ["P","Q","row"] vs) H:=by
 obtain ⟨p,q,xs,ys,l,m,b,c,ee,dd,NN,rfl,hp,j,hN,hM,f,g,b9,c9,lN,mN,y,A,B,C,sm,k0,k1⟩:=h;obtain ⟨D,a0,F⟩:=f.clr;obtain ⟨G,a1,I⟩:=g.clr;obtain ⟨M1,O1,J,_⟩:=f.ov;obtain ⟨M2,O2,L,_⟩:=g.ov;unfold Qp;rwa [hp];refine ⟨l,hN,f.low,M1,O1,J.mono ⋯,λq j=>(F q j).mono ⋯,⋯,λr a H1 M hr ha=>?_⟩;have N:=M _ _ j;rwa [hr,N];refine ⟨m,hM.tp (D_ M),g.low,M2,O2,L.mono ⋯,λq j=>(I q j).mono ⋯,⋯,λr2 a2 H2 Y O S=>?_⟩;have T:=Y _ _ ha;rwa [O,T,S];have v:AJ l=[]↔l=[]:=by rw [<-CL,<-CL,Bv]
 have w:AJ m=[]↔m=[]:=by rw [<-CL,<-CL,Bv]
 refine ⟨AJ l,rfl,AJ m,rfl,Ek f.low f.nz,Ek g.low g.nz,b,D,G,b9,by rw [Bv];exact lN,by rw [Bv];exact mN,ee,λx U=>y (λz=>x (v.mpr z)) (λz=>U (w.mpr z)),dd,by rw [Bv,Bv];exact A,NN,by rw [Bv,Bv];exact B,C,sm,λs d H3 s3 Z rc r0=>?_⟩;have k:=(M.trans Y).trans s3;rwa [Z];by_cases o:l=[]/\m=[]
 ·have e:=r0 (v.mpr o.1) (w.mpr o.2);subst e;refine Au (λz=>absurd z (by simp)) (λ_=>?_);exact ⟨sz ∅,λt W=>k0 o.1 o.2 t [] _ (k.trans (AO W _)) upd_same trivial⟩
 ·have i:l≠[]\/m≠[]:=by
   by_cases x:l=[]
   ·exact .inr λU=>o ⟨x,U⟩
   ·exact .inl x
  obtain ⟨R,P⟩:=rc (i.imp (λh z=>h (v.mp z)) (λh z=>h (w.mp z)));have X:d≠[]:=BD.mp R.lz.1;refine Au (λ_=>?_) (λz=>absurd X (by simpa using z));have al:=Iu R.lz.1
  have rl:d.length<=1000:=by
   rcases i with h | h
   ·have:=Gs R.lz (DM (Ek f.low f.nz) λz=>h (v.mp z)) R.left;rw [Bv] at this;omega
   ·have:=Gs R.lz (DM (Ek g.low g.nz) λz=>h (w.mp z)) R.right;rw [Bv] at this;omega
  rwa [Z,al];refine ⟨d,rfl,R.lz.2,rl,λt zs H4 s4 W u=>?_⟩;have e:trim (d.map λn=>AX n (co d (d.length - 1)))=E_ d:=Jj (Hk R.lz);rw [e] at u;exact k1 i d R P t zs H4 (k.trans s4) W u
def MR.short {g f:di} {n:Nat} (b:g n≠0) (h:∀ i,n<i->g i=0) (m:MR g f) (c:∀ k,n<=k->f k=0) (k:Nat):f k=0:=by
 obtain ⟨A,a⟩:=m;rw [a k];exact Ju A (Lu b h A λk hk=>by rw [<-a k];exact c k hk) k
def Si {q:Nu} {n M:Int} (c:q.2≠0) (d:M≠0) (h:val q=(n:Rat) / (M:Rat)):Wo q n M:=by
 unfold Wo;unfold val at h;have a:=Aq c;have b:=Aq d;have e:(q.1:Rat)*(M:Rat)=(n:Rat)*(q.2:Rat):=by ext
 exact_mod_cast e
def Sj {q:Nu} {n M:Int} (a:Low q.1 q.2) (h:Wo q n M):q.2∣M/\q.1*(M / q.2)=n:=by
 unfold Wo at h;have d:q.2∣M:=LO a ⟨n,by rw [h,Int.mul_comm]⟩;refine ⟨d,?_⟩;have b:=a.pos
 have e:q.2*(q.1*(M / q.2))=q.2*n:=by
  have:=GJ d
  calc q.2*(q.1*(M / q.2))=q.1*(q.2*(M / q.2)):=by ext
   _=q.1*M:=by rw [this]
   _=q.2*n:=by rw [h,Int.mul_comm]
 exact Int.eq_of_mul_eq_mul_left (AW b) e
structure RS (m:cJ) (z:di) (b c d i:Nat) (L:cJ):Prop where
 low:AV L
 ov:∃ D,Ov L D/\Bd (c+i*d) D/\∀ z∈N_ L D,Bd (b+i*(d+1)) z
 mr:MR (B_ m) (λk=>B_ L k - z k)
def yK (q:Nu):val (-q.1,q.2) = - val q:=by
 unfold val;show ((-q.1:Int):Rat) / _=_;push_cast;ext
def Sk {m:cJ} (b:Nz m) (c:m≠[]):(AR m (m.length - 1)).1≠0:=by
 have a:m.length - 1<m.length:=by have:=BD.mpr c;omega
 have q:=b m[m.length - 1] (by rw [Es];exact Aw a);have e:AR m (m.length - 1)=m[m.length - 1]:=by unfold AR;rw [AT,Aw a];rfl
 rw [e];exact q
def Cv {m:cJ} (c:AV m) (d:Nz m) (e:m≠[]):B_ m (m.length - 1)≠0:=by
 have a:=Aq (Sk d e);have b:=Aq (AW (B9 c (m.length - 1)).pos);unfold B_ val;ext
theorem Sl (f:dh):∀ (A:cP) (k:Nat),cvL (A.map λz:Int=>(z:Rat)) (λk=>(f k:Rat)) k=((cvL A f k:Int):Rat)
 | [],_=>rfl
 | x::A,0=>by rw [List.map_cons,Ap,Ap];push_cast;ext
 | x::A,k+1=>by rw [List.map_cons,Ak,Ak,Sl f A k];push_cast;ext
def KP {f:dh} {G:di} {a:Rat} (b:a≠0) (c:∀ k,G k=a*(f k:Rat)) (A:cP) (k:Nat):((cvL A f k:Int):Rat)=a⁻¹*cvL (A.map λz:Int=>(z:Rat)) G k:=by
 rw [A8 c,Cj,Sl];ext
def MR.of {f g:dh} {F G:di} {d a:Rat} (b:a≠0) (h:∀ k,F k=d*(f k:Rat)) (i:∀ k,G k=a*(g k:Rat)) (m:MQ g f):MR G F:=by
 obtain ⟨c,j,A,n⟩:=m;have o:=Aq j;refine ⟨(A.map λz:Int=>(z:Rat)).map (d*(c:Rat)⁻¹*a⁻¹*·),λk=>?_⟩;have e:(c:Rat)*(f k:Rat)=((cvL A g k:Int):Rat):=by exact_mod_cast n k
 rw [BC,h k];rw [KP b i] at e;ext
def D6 {l:cJ} (a:AV l) (k:Nat):B_ l k=((AY l:Rat))⁻¹*(co (AJ l) k:Rat):=by
 rw [Fq a (Bj a),<-Jk];show (co (AJ l) k:Rat) / _=_;ext
def Sn {l:cJ} (a:AV l):((AY l:Rat))⁻¹≠0:=by
 have:=Aq (AW (Bj a).1);ext
def D7 {g:cP} (a:Lz g) (k:Nat):B_ (E_ g) k=((co g (g.length - 1):Rat))⁻¹*(co g k:Rat):=by
 rw [KO a];ext
def FJ {g:cP} (a:Lz g):((co g (g.length - 1):Rat))⁻¹≠0:=by
 have:=Aq a.2;ext
def I0 {a:Int} (d:a≠0) {B:Nat} {ns:cP} (g:∀ z∈ns,Bd B z):Ov (ns.map λn=>AX n a) (a.natAbs:Int)/\∀ z∈N_ (ns.map λn=>AX n a) (a.natAbs:Int),Bd B z:=by
 have h:(0:Int)<(a.natAbs:Int):=by omega
 have c:∀ n∈ns,(AX n a).2∣(a.natAbs:Int)/\Bd B ((AX n a).1*((a.natAbs:Int) / (AX n a).2)):=λn b=>by
  have i:=D2 (n:=n) d;have u:=Aq d
  have:∃ s:Int,val (AX n a)=(s:Rat) / (((a.natAbs:Int):Int):Rat)/\Bd B s:=by
   rw [Ee d];rcases Int.natAbs_eq a with e | e
   ·exact ⟨n,by rw [<-e],g n b⟩
   ·refine ⟨-n,?_,(g n b).neg⟩;have j:(a.natAbs:Int) = -a:=by omega
    rw [j];push_cast;ext
  obtain ⟨s,k,m⟩:=this;obtain ⟨o,p⟩:=Sj i (Si (AW i.pos) (AW h) k);exact ⟨o,by rw [p];exact m⟩
 refine ⟨⟨h,λq f=>?_⟩,λz r=>?_⟩
 ·obtain ⟨n,b,rfl⟩:=BG.mp f;exact (c n b).1
 ·obtain ⟨q,f,rfl⟩:=BG.mp r;obtain ⟨n,b,rfl⟩:=BG.mp f;exact (c n b).2
def yL {l:cJ} {M:Int} {B:Nat} (h:Ov l M) (b:∀ z∈N_ l M,Bd B z):Ov (trim l) M/\∀ z∈N_ (trim l) M,Bd B z:=by
 refine ⟨⟨h.1,λq a=>h.2 q (Cq a)⟩,λz c=>?_⟩;obtain ⟨q,a,rfl⟩:=BG.mp c;exact b _ (BG.mpr ⟨q,Cq a,rfl⟩)
theorem yM {F G:di} {P:di} (n:Nat) (h:∀ k,P k=cv F G n k):MR G P:=by
 refine ⟨(List.range n).map F,λk=>?_⟩;rw [h k];clear h
 induction n with
 | zero=>rfl
 | succ n a=>
   show cv F G n k+(if n<=k then F n*G (k - n) else 0)=_;rw [a,List.range_succ,DC,List.map_singleton,DZ,AL,BK];unfold Av;by_cases hk:n<=k
   ·rw [sC hk,sC hk]
   ·rw [sB hk,sB hk];ext
structure PS (l m:cJ) (b c d e nq:Nat) (r:cP) (B:Int) (qs:cJ):Prop where
 len:r.length<=l.length
 tz:Tz r
 B0:B≠0
 N:∃ N,0<N/\B∣N/\Bd (c+(nq - (r.length+1 - m.length))*d) N/\∀ q∈qs,q.2∣N
 low:AV qs
 qb:∀ q∈qs,Bd (b+nq*(d+1)+e) q.1
 rb:∀ z∈r,Bd (b+(nq - (r.length+1 - m.length))*(d+1)) z
 ql:qs.length=nq
 zer:∀ j,j+m.length<=r.length->AR qs j=(0,1)
 idn:∀ k,B_ l k=cv (B_ qs) (B_ m) nq k+(co r k:Rat) / (B:Rat)
def So {ns:cP} {g:Int} (k:Nat):co (ns.map (·/ g)) k=co ns k / g:=Iw (F:=(·/ g)) (Int.zero_ediv g) ns k
def Sq {ns:cP} {g:Int} (h:∀ z∈ns,g∣z) (k:Nat):g∣co ns k:=SJ h k
def PS.step {l m:cJ} {b c d e u:Nat} {r:cP} {B:Int} {D:cJ} (S:PS l m b c d e u r B D) (U:AV m) (nm:Nz m) (m1:1<=m.length) (bC:∀ z∈AJ m,Bd d z) (bE:Bd e (AY m)) (M:u=l.length+1 - m.length) (hr:m.length<=r.length)
  {o top I f w g:Int} (v:o=co (AJ m) (m.length - 1)) (J:top=co r (r.length - 1)) (X:0<I) (O:f*I=o) (W:w*I=top) {A:cP} (t1:Tz A) (F:∀ k,co A k=f*co r k - w*Av (r.length - m.length) (co (AJ m)) k) (Y:0<g) (Z:g∣B*f) (gr:∀ z∈A,g∣z) :
  PS l m b c d e u (A.map (·/ g)) (B*f / g) (D.set (r.length - m.length) (AX (top*AY m) (B*o)))/\A.length<r.length:=by
 have G:o≠0:=by rw [v];exact KK U nm m1
 have cl:(AJ m).length=m.length:=Bv m;have P:f≠0:=λz=>G (by rw [<-O,z,Int.zero_mul])
 have a0:A.length<r.length:=by
  have:A.length<=r.length - 1:=SY (b:=[]) t1 _ λk hk=>by
   rw [F k];unfold Av;rw [sC ⋯];by_cases ek:k=r.length - 1
   ·rw [ek,<-J,show r.length - 1 - (r.length - m.length)=m.length - 1 by omega,<-v,<-W,<-O];ext
   ·rw [Ae (a:=r) ⋯,Ae (a:=AJ m) (k:=k - (r.length - m.length)) ⋯];omega
  omega
 have Bu:(A.map (·/ g)).length=A.length:=AL ..;obtain ⟨N,N0,NB,Nb,Nq⟩:=S.N;have a2:=S.len;have bl:Bd d o:=by rw [v];exact Dd bC _
 have bt:Bd (b+(u - (r.length+1 - m.length))*(d+1)) top:=by rw [J];exact Dd S.rb _
 have bf:Bd d f:=DH G ⟨I,by rw [O]⟩ bl
 have bw:Bd (b+(u - (r.length+1 - m.length))*(d+1)) w:=by
  by_cases z:top=0
  ·have w0:w=0:=by
    rcases Int.mul_eq_zero.mp (W.trans z) with h | h
    ·exact h
    ·omega
   rw [w0];exact Ci _
  ·exact DH z ⟨I,by rw [W]⟩ bt
 have R:r.length - m.length<u:=by omega
 have bne:B*o≠0:=Bg S.B0 G;have T:=D2 (n:=top*AY m) bne;have p:∀ {q:Nu},q∈D.set (r.length - m.length) (AX (top*AY m) (B*o))->q∈D\/q=AX (top*AY m) (B*o):=λ{q} h=>List.mem_or_eq_of_mem_set h
 have C:∀ j,AR (D.set (r.length - m.length) (AX (top*AY m) (B*o))) j=if j=r.length - m.length then AX (top*AY m) (B*o) else AR D j:=λj=>by
  unfold AR;rw [AT,AT];by_cases e:j=r.length - m.length
  ·rw [sC e,e,List.getElem?_set_self (by rw [S.ql];exact R)];rfl
  ·rw [sB e,List.getElem?_set_ne (λz=>e z.symm)]
 have L:∀ x:Nat,(u - (r.length+1 - m.length))*x+x<=(u - (A.length+1 - m.length))*x:=λx=>by
  have:=B8 x (show u - (r.length+1 - m.length)+1<=u - (A.length+1 - m.length) by omega);rw [Du,Nat.one_mul] at this;exact this
 refine ⟨⟨⋯,?_,?_,⟨N*(o.natAbs:Int),?_,?_,?_,?_⟩,?_,?_,?_,?_,?_,?_⟩,a0⟩
 ·rcases t1 with h | h
  ·left;rw [h];rfl
  ·right;rw [Bu,So];intro z;have:=Int.ediv_mul_cancel (Sq gr (A.length - 1));rw [z,Int.zero_mul] at this;exact h this.symm
 ·intro z;have d:=Int.ediv_mul_cancel Z;rw [z,Int.zero_mul] at d;exact Bg S.B0 P d.symm
 ·exact Ce N0 ⋯
 ·refine CM (Int.ediv_dvd_of_dvd Z) (Int.mul_dvd_mul NB ?_);exact Int.dvd_natAbs.mpr ⟨I,by rw [O]⟩
 ·have a1:Bd d (o.natAbs:Int):=bl.le (by rw [CN];exact AU _);refine (Nb.mul a1).mono ?_;rw [Bu];have:=L d;omega
 ·intro q M;rcases p M with h | h
  ·exact CM (Nq q h) (Int.dvd_mul_right ..)
  ·rw [h];exact LZ bne (Int.mul_dvd_mul NB (Int.dvd_natAbs.mpr (Dj _)))
 ·intro q M;rcases p M with h | h
  ·exact S.low q h
  ·rw [h];exact T
 ·intro q M;rcases p M with h | h
  ·exact S.qb q h
  ·rw [h];refine (Oa bne (bt.mul bE) (Nat.lt_two_pow_self:Bd _ (B*o))).1.mono ?_;have:=B8 (d+1) (show u - (r.length+1 - m.length)<=u by omega);omega
 ·intro z hz;obtain ⟨y,hy,rfl⟩:=BG.mp hz;refine MS (gr y hy) ?_;refine Ix (n:=b+(u - ((A.map (·/ g)).length+1 - m.length))*(d+1)) (λk=>?_) y hy;rw [F k,Bu];have gw:=L (d+1);refine Bd.mono (m:=(b+(u - (r.length+1 - m.length))*(d+1)+d)+1) (Bd.sub ((bf.mul (Dd S.rb k)).mono ⋯) ?_) ⋯;unfold Av;split
  ·exact bw.mul (Dd bC _)
  ·rw [Int.mul_zero];exact Ci _
 ·rw [List.length_set];exact S.ql
 ·intro j hj;rw [Bu] at hj;rw [C,sB ⋯];exact S.zer j ⋯
 ·intro k;have hB:=Aq S.B0;have hL:=Aq G;have hg:=Aq (AW Y);have hF:=Aq P;have hE:=Aq (AW (Bj U).1)
  have c1:=Od (f:=B_ D) (f':=B_ (D.set (r.length - m.length) (AX (top*AY m) (B*o)))) (g:=B_ m) (s:=r.length - m.length) (x:=val (AX (top*AY m) (B*o)))
   (by unfold B_;rw [S.zer _ ⋯];exact O_ _) (by unfold B_;rw [C,sC rfl]) (λi hi=>by unfold B_;rw [C,sB hi]) u k
  have gd:g∣f*co r k - w*Av (r.length - m.length) (co (AJ m)) k:=by rw [<-F k];exact Sq gr k
  rw [c1,S.idn k,So,F k,SI (AW Y) gd,SI (AW Y) Z,Ee bne];have a3:(f:Rat)*I=o:=by exact_mod_cast O
  have a4:(w:Rat)*I=top:=by exact_mod_cast W
  have hS:=Aq (AW X);unfold Av;by_cases hk:r.length - m.length<=k
  ·rw [sC hk,sC ⟨R,hk⟩,Fq U (Bj U),<-Jk];show _+(co r k:Rat) / _=_+_*((co (AJ m) (k - (r.length - m.length)):Rat) / _)+_;push_cast;generalize (co (AJ m) (k - (r.length - m.length)):Rat)=dk;generalize cv (B_ D) (B_ m) u k=c;generalize (co r k:Rat)=x;ext
  ·rw [sB hk,sB ⋯];push_cast;generalize cv (B_ D) (B_ m) u k=c;generalize (co r k:Rat)=x;ext
def yN {a b:Nu} (h:Cl a=Cl b):a=b:=by
 unfold Cl at h;injection h with h;injection h with d c;injection c with c _;injection d with d;injection c with c;exact Prod.ext d c
theorem Me {l m:cJ} (h:EN l=EN m):l=m:=by
 unfold EN at h;injection h with h
 induction l generalizing m with
 | nil=>
   cases m with
   | nil=>rfl
   | cons b m=>simp at h
 | cons a l c=>
   cases m with
   | nil=>simp at h
   | cons b m=>
     rw [List.map_cons,List.map_cons] at h;injection h with d e;rw [yN d,c e]
def eqP {H:Hp} {p q:Addr} {xs a:cN} {l m:cJ} {Q:VK} (hp:H p=some (.tup xs)) (d:Nums H xs l) (e:H q=some (.tup a)) (f:Nums H a m) (b:Bool) (c:b=true↔l=m) (h:Q (.bl b) H):bO (.ref p) (.ref q) H Q:=
 ⟨_,_,b,Fx hp d,Fx e f,a_ _ 6,a_ _ 6,⟨λz=>by rw [c.mp z],λz=>c.mpr (Me z)⟩,h⟩
def neP {H:Hp} {p q:Addr} {xs a:cN} {l m:cJ} {Q:VK} (hp:H p=some (.tup xs)) (d:Nums H xs l) (e:H q=some (.tup a)) (f:Nums H a m) (b:Bool) (c:b=true↔l=m) (h:Q (.bl (!b)) H):neD (.ref p) (.ref q) H Q:=
 ⟨_,_,b,Fx hp d,Fx e f,a_ _ 6,a_ _ 6,⟨λz=>by rw [c.mp z],λz=>c.mpr (Me z)⟩,h⟩
def yO (h:J7 K vs H Q E):ZT K { nx:=λ_ H'=>Q .non H',rt:=Q } (L2.start ["P","Q","row","divisor","rest","bottom","lead","quotient","shift","shared","spare"] vs) H:=by
 obtain ⟨p,q,xs,ys,l,m,b0,c0,d0,e0,rfl,hp,v,hN,hM,GL,GM,m0,c4,m6,hc,hb,he,hd,k⟩:=h;obtain ⟨b6,b7,b8⟩:=GL.clr;obtain ⟨T,ba,bb⟩:=GM.clr;obtain ⟨M,hO,bM,c5⟩:=GL.ov;obtain ⟨M',c6,c7,_⟩:=GM.ov;have hl:=GL.low;have hm:=GM.low;have nm:=GM.nz;have m1:1<=m.length:=BD.mpr m0;have b9:b0<=900000:=by omega
 have c9:c0<=400000:=by omega
 have lx:=hN.length;have ly:=hM.length;have bc:∀ q∈m,Bd 60000000 q.1:=λq v=>(bb q v).mono ⋯;have bE:Bd e0 (AY m):=ba;have OE:=Bj hm;have OL:=Bj hl;have bL:Bd c0 (AY l):=b7;have cl:(AJ m).length=m.length:=by unfold AJ;rw [AL]
 have bd:(AJ l).length=l.length:=by unfold AJ;rw [AL]
 refine Lp (AZ rfl ⟨_,_,l,M,rfl,hp,hN,hl,hO,bM.mono ⋯,λq v=>(b8 q v).mono ⋯,⋯,λra a H1 s1 F G=>?_⟩);have bf:=s1 _ _ v;refine Lp (AZ rfl ⟨_,_,m,AY m,rfl,bf,hM.tp (D_ s1),hm,OE,bE.mono ⋯,bc,⋯,λrb b H2 s2 U W=>?_⟩);have F:=s2 _ _ F;have G:=s2 _ _ G;have X:=s1.trans s2;have bg:=X _ _ hp;have a7:=X _ _ v
 have A:∀ {r:cP},1<=r.length->L_ (r.map V.int) (-1)=some (V.int (r.getD (r.length - 1) 0)):=λ{r} h=>by
  unfold L_ av;rw [sB ∅,sC (by rw [AL];omega),AL,show (-1+(r.length:Int)).toNat=r.length - 1 by omega];show (r.map V.int)[r.length - 1]?=_;rw [Aj,AT,Aw ⋯];rfl
 have el:=A (r:=AJ m) ⋯;rw [cl] at el;generalize x:(AJ m).getD (m.length - 1) 0=e at el;have Y:e≠0:=by rw [<-x];exact KK hm nm m1
 have a8:Bd d0 e:=by rw [<-x];exact Ed T _
 refine Bb (Bm rfl F rfl (Bb (Bm rfl F rfl (Bb (CU (Bm rfl U rfl ⟨_,rfl,_,_,_,_,rfl,rfl,W,el,?_⟩))))));refine Bb (CU (Lq (Ct (S_ (S_ ⟨Bu,λe1 a9=>⟨Ck,λe2 ab=>?_⟩⟩)))));have u:=(AO a9 (.tup [.int 0,.int 1])).trans (AO ab (.lst [.ref e1]));have en:(if (0:Int) > (xs.length:Int) - (ys.length:Int)+1 then 0 else (xs.length:Int) - (ys.length:Int)+1)=((l.length+1 - m.length:Nat):Int):=by split <;> omega
 refine ⟨_,rfl,_,_,rfl,u _ _ bg,_,rfl,_,_,rfl,u _ _ a7,_,_,rfl,rfl,_,_,rfl,rfl,_,_,rfl,?_⟩;refine ⟨_,((l.length+1 - m.length:Nat):Int),_,rfl,congrArg V.int en,upd_same,⋯,⋯,sz (by simp;omega),λw hw=>?_⟩;refine Ls a9 ab hw λH3 h1 ac u _ w2=>?_;rw [DF,IZ] at ac;have N0:Nums H3 (List.replicate (l.length+1 - m.length) (V.ref e1)) (List.replicate (l.length+1 - m.length) (0,1)):=Nums.rep ⟨e1,rfl,h1⟩ _
 have gz:∀ n j:Nat,AR (List.replicate n ((0,1):Nu)) j=(0,1):=λn j=>by
  unfold AR;rw [AT,ER];split <;> rfl
 refine Ea (λn σ H'=>∃ (c:Addr) (r:cP) (B:Int) (zs:cN) (I:cJ) (x8 x9 J:cO),σ=[some (.ref p),some (.ref q),some (.ref ra),some (.ref rb),some (.ref c),some (.int B),some (.int e),some (.ref w),x8,x9,J]/\Same H2 H'/\H' c=some (.lst (r.map V.int))/\c≠w/\H' w=some (.lst zs)/\Nums H' zs I/\PS l m b0 c0 d0 e0 (l.length+1 - m.length) r B I/\n=r.length) l.length
  ⟨a,AJ l,AY l,_,_,none,none,none,rfl,u,u _ _ G,B6 G w2,ac,N0,⟨⋯,Ek hl GL.nz,AW OL.1,⟨AY l,OL.1,Dj _,bL.mono ⋯,λq v=>?_⟩,λq v=>?_,λq v=>?_,λz hz=>?_,Dh ..,λj _=>gz _ j,λk=>?_⟩,bd.symm⟩ ?_
 ·rw [(List.mem_replicate.mp v).2];exact Int.one_dvd _
 ·rw [(List.mem_replicate.mp v).2];exact LQ
 ·rw [(List.mem_replicate.mp v).2];exact Ci _
 ·exact (b6 z hz).mono ⋯
 ·rw [Oe _ _ (λi _=>by unfold B_;rw [gz];exact O_ _),Fq hl OL,Jk];exact (Rat.zero_add _).symm
 rintro n σ H4 ⟨c,r,B,zs,I,x8,x9,J,rfl,s4,C,cw,Z,N4,o,rfl⟩;have ah:=s4 _ _ a7;refine ⟨_,rfl,_,_,rfl,C,_,rfl,_,_,rfl,ah,_,_,rfl,rfl,_,rfl,Au (λcc=>?_) (λcc=>?_)⟩
 ·have aj:m.length<=r.length:=by have cc:=sD cc;rw [AL] at cc;omega
  refine ⟨_,λ_ _ h=>h,?_⟩;have es:((r.map V.int).length:Int) - (ys.length:Int)=((r.length - m.length:Nat):Int):=by rw [AL];omega
  have lt:=A (r:=r) ⋯;generalize P:r.getD (r.length - 1) 0=top at lt;have al:=s4 _ _ U;have bw:=s4 _ _ W;obtain ⟨N,L,NB,Nb,Nq⟩:=o.N;have a0:Bd 400000 B:=(DH (AW L) NB Nb).mono (A7 (Nat.add_le_add_left (B8 _ (Nat.sub_le _ _)) _) hc)
  have bi:b0+(l.length+1 - m.length - (r.length+1 - m.length))*(d0+1)<=900000:=by
   have:=B8 (d0+1) (Nat.sub_le (l.length+1 - m.length) (r.length+1 - m.length));omega
  have R:Bd 900000 top:=by rw [<-P];exact (Ed o.rb _).mono bi
  have bj:∀ z∈r,Bd 60000000 z:=λz hz=>(o.rb z hz).mono ⋯;refine ⟨_,rfl,_,_,rfl,C,_,rfl,_,_,rfl,ah,_,_,rfl,rfl,?_⟩;show Qm K _ [some (.ref p),some (.ref q),some (.ref ra),some (.ref rb),some (.ref c),some (.int B),some (.int e),some (.ref w),some (.int (((r.map V.int).length:Int) - (ys.length:Int))),x9,J] _;rw [es];have bne:B*e≠0:=Bg o.B0 Y;refine Lr (Ag ⟨_,rfl,_,rfl,_,_,_,_,rfl,rfl,C,lt,_,rfl,_,_,_,_,rfl,rfl,al,rfl,_,_,rfl,rfl,D4 R bE,_,rfl,_,rfl,_,_,rfl,rfl,D4 a0 a8,_,_,rfl,bne,λt1 am=>?_⟩);have c8:zs.length=l.length+1 - m.length:=by rw [N4.length,o.ql]
  have bx:=o.len;refine ⟨_,rfl,_,rfl,_,zs,_,r.length - m.length,rfl,rfl,AO am _ _ _ Z,Gp rfl ⋯,?_⟩;refine Ys am Z w2 s4 λH5 s5 an h5 bk k5=>?_;have hn:=Nums.set (q:=AX (top*AY m) (B*e)) ⟨t1,rfl,h5⟩ (r.length - m.length) (N4.tp bk);have D:=k5 _ _ cw C;have ao:=s5 _ _ U;have ar:=s5 _ _ W;refine Ef ⟨_,rfl,_,rfl,_,_,_,_,rfl,rfl,D,lt,_,rfl,_,_,rfl,?_⟩;show Ql K _ [some (.ref p),some (.ref q),some (.ref ra),some (.ref rb),some (.ref c),some (.int B),some (.int e),some (.ref w),some (.int ((r.length - m.length:Nat):Int)),some (.int ((Int.gcd top e:Nat):Int)),J] _;have y:(0:Int)<((Int.gcd top e:Nat):Int):=by have:=Int.gcd_pos_of_ne_zero_right top Y;omega
  have a1:((Int.gcd top e:Nat):Int)∣e:=EE top e;have a2:((Int.gcd top e:Nat):Int)∣top:=Ep top e;have hf:=Int.ediv_mul_cancel a1;have a3:=Int.ediv_mul_cancel a2;generalize bz:((Int.gcd top e:Nat):Int)=sh at y a1 a2 hf a3 ⊢;have a4:=MS a1 a8;have b1:=MS a2 R;have a5:e.fdiv sh=e / sh:=ES e (Dt y);have b2:top.fdiv sh=top / sh:=ES top (Dt y);generalize cd:e / sh=f at hf a4 a5 ⊢;generalize top / sh=wt at a3 b1 b2 ⊢;refine Bb (Yr ⟨_,rfl,_,rfl,_,rfl,_,_,rfl,rfl,AW y,_,rfl,_,_,_,_,rfl,rfl,ao,rfl,_,rfl,_,rfl,_,_,_,_,rfl,rfl,D,lt,_,rfl,_,_,rfl,rfl,AW y,_,rfl,?_⟩);refine ⟨_,_,r,AJ m,f,wt,r.length - m.length,by rw [<-a5,<-b2],D,ar,⋯,⋯,a4.mono ⋯,b1.mono ∅,bj,λz hz=>(T z hz).mono ⋯,λc1 O H6 s6 b3 t6 e6=>?_⟩;have bl:f≠0:=λz=>Y (by rw [<-hf,z,Int.zero_mul])
  have l6:O.length<=1000:=by
   have:O.length<=1000:=SY (b:=[]) t6 1000 λk hk=>by
    rw [e6 k,Ae (a:=r) ⋯];unfold Av;split
    ·rw [Ae (a:=AJ m) ⋯];omega
    ·omega
   exact this
  refine ⟨_,rfl,_,rfl,_,rfl,_,_,rfl,rfl,AW y,_,_,rfl,rfl,?_⟩;rw [a5];refine ⟨D4 a0 a4,?_⟩;show Qk K _ _ _;refine Ef ⟨_,rfl,_,rfl,_,O,_,rfl,b3,l6,λg H7 s7 gn gB gr _=>?_⟩
  have g0:0<g:=by
   rcases Int.lt_or_eq_of_le gn with z | z
   ·exact z
   ·exact absurd (Int.zero_dvd.mp (z ▸ gB)) (Bg o.B0 bl)
  have bm:=s7 _ _ b3;obtain ⟨S5,bn⟩:=o.step hm nm m1 T bE rfl aj x.symm P.symm y hf a3 t6 e6 g0 gB gr;have bp:(O.map (·/ g)).length=O.length:=AL ..;refine Ef ⟨_,rfl,_,rfl,_,O,_,rfl,bm,.inl g0,⋯,λc2 b4=>⟨_,rfl,_,rfl,_,_,rfl,rfl,g0,?_⟩⟩;have br:=AO b4 (.lst ((O.map (·/ g)).map V.int));have b5:=s6.trans s7;have a6:=b5.trans br;exact ⟨O.length,bn,_,O.map (·/ g),_,_,_,_,_,_,rfl,s5.trans a6,upd_same,(B6 (b5 _ _ an) b4).symm,a6 _ _ an,hn.tp (D_ a6),S5,bp.symm⟩
 ·have aj:r.length<m.length:=by have cc:=of_decide_eq_false (Bool.eq_false_iff.mpr cc);rw [AL] at cc;omega
  obtain ⟨N,L,NB,Nb,Nq⟩:=o.N;have a0:Bd 400000 B:=(DH (AW L) NB Nb).mono (A7 (Nat.add_le_add_left (B8 _ (Nat.sub_le _ _)) _) hc);have c3:=o.ql;show Qn K _ _ _;refine DK (Ct (BL ⟨_,rfl,_,_,I,rfl,Z,N4,⋯,λt1 z1 H5 s5 h5 n5=>?_⟩));have D:=s5 _ _ C;have bs:=o.len;refine Ag ⟨_,rfl,_,rfl,_,r,_,rfl,D,o.B0,⋯,λt2 z2 H6 s6 h6 n6=>⟨Bu,λt ht=>?_⟩⟩;have st:=AO ht (.tup [.ref t1,.ref t2]);have S:AV (r.map λn=>AX n B):=λq v=>by obtain ⟨n,_,rfl⟩:=BG.mp v;exact D2 o.B0
  have bt:∀ k,B_ (r.map λn=>AX n B) k=(r.getD k 0:Rat) / (B:Rat):=λk=>by
   unfold B_ AR;rw [AT,AT,Aj];cases r[k]? with
   | none=>exact (O_ _).trans (O_ _).symm
   | some z=>exact Ee o.B0
  have Bo:=o.rb;have r0:r.length+1 - m.length=0:=by omega
  rw [r0,Nat.sub_zero] at Bo Nb;have bB:Bd (c0+(l.length+1 - m.length)*d0) B:=DH (AW L) NB Nb;obtain ⟨RO,RB⟩:=I0 o.B0 Bo;obtain ⟨TO,TB⟩:=yL RO RB;refine k t t1 t2 _ (trim I) (trim (r.map λn=>AX n B)) ((((X.trans s4).trans s5).trans s6).trans st) upd_same (Pl.same ⟨z1,h5,n5⟩ (s6.trans st)) (Pl.same ⟨z2,h6,n6⟩ st) (λq v=>o.low q (Cq v)) (EK _) ?_ ⟨λq v=>S q (Cq v),EK _,_,TO,bB.le ⋯,TB⟩ ?_ λk=>?_
  ·have:=EL I;omega
  ·have:=EL (r.map λn=>AX n B);rw [AL] at this;omega
  ·obtain ⟨d,hd⟩:∃ d,l.length+1 - m.length=(trim I).length+d:=⟨l.length+1 - m.length - (trim I).length,by have:=EL I;omega⟩;rw [Fo S,bt,o.idn k,Og (λi=>(Fo o.low i).symm),hd,Of (λi hi=>Bc hi)];rfl
def MR.add {n F G L:di} (a:MR n F) (b:MR n G) (h:∀ k,L k=F k+G k):MR n L:=by
 obtain ⟨A,c⟩:=a;obtain ⟨B,d⟩:=b;exact ⟨A9 A B,λk=>by rw [Bq,<-c k,<-d k,h k]⟩
def MR.smul {n F L:di} (a:MR n F) (c:Rat) (h:∀ k,L k=c*F k):MR n L:=by
 obtain ⟨A,b⟩:=a;exact ⟨A.map (c*·),λk=>by rw [BC,<-b k,h k]⟩
def MR.sub {n F G L:di} (a:MR n F) (b:MR n G) (h:∀ k,L k=F k - G k):MR n L:=
 a.add (b.smul (-1) (L:=λk=>-1*G k) λ_=>rfl) λk=>by rw [h k];ext
theorem KQ (F G:di) (k:Nat):∀ n,cv F G n k=cvL ((List.range n).map F) G k
 | 0=>rfl
 | n+1=>by
   show cv F G n k+(if n<=k then F n*G (k - n) else 0)=_;rw [KQ F G k n,List.range_succ,DC,List.map_singleton,DZ,AL,BK];unfold Av;by_cases hk:n<=k
   ·rw [sC hk,sC hk]
   ·rw [sB hk,sB hk];ext
def yP {F:di} {n:Nat} (h:∀ i,n<=i->F i=0) (k:Nat):F k=cvL ((List.range n).map F) Af k:=by
 rw [Dk,AT,Aj];by_cases hk:k<n
 ·rw [DE hk];rfl
 ·rw [CC (by rw [BK];omega),h k ⋯];rfl
def Gq.mono {b c b' c':Nat} {l:cJ} (G:Gq b c l) (a:b<=b') (d:c<=c'):Gq b' c' l:=by
 obtain ⟨x,y,M,O,e,f⟩:=G;exact ⟨x,y,M,O,e.mono d,λz g=>(f z g).mono a⟩
def El {T:cJ} {b c:Nat} (g:AV T) (n:Nz T) {M:Int} (j:0<M) (o:Bd c M) {N:dh} (h:∀ k,B_ T k=(N k:Rat) / (M:Rat)) (p:∀ k,Bd b (N k)):Gq b c T:=by
 have f:∀ q∈T,∃ k,q.2∣M/\q.1*(M / q.2)=N k:=λq d=>by
  obtain ⟨i,r,rfl⟩:=List.getElem_of_mem d;have e:AR T i=T[i]:=by unfold AR;rw [AT,Aw r];rfl
  have m:=g _ d;have v:=h i;unfold B_ at v;rw [e] at v;exact ⟨i,Sj m (Si (AW m.pos) (AW j) v)⟩
 refine ⟨g,n,M,⟨j,λq d=>?_⟩,o,λz u=>?_⟩
 ·obtain ⟨k,a,_⟩:=f q d;exact a
 ·obtain ⟨q,d,rfl⟩:=BG.mp u;obtain ⟨k,_,a⟩:=f q d;rw [a];exact p k
def yQ (h:J8 K vs H Q E):QZ K { nx:=λ_ g=>Q .non g,rt:=Q } (L2.start ["one","other"] vs) H:=by
 obtain ⟨p,q,a,b,c,d,rfl,hp,i,e,f,j,m,n,o,k⟩:=h;unfold QZ;rwa [hp,i];exact ⟨DA j n,DA m o,AW (Ce e f),λr u=>by rw [Hh (Ce e f)];exact k r u⟩
def yR (h:Ij K vs H Q E):Qa K { nx:=λ_ e=>Q .non e,rt:=Q } (L2.start ["one","other"] vs) H:=by
 obtain ⟨p,q,a,b,c,d,rfl,hp,f,g,i,j,m,n,o,k⟩:=h;unfold Qa;rwa [hp,f];exact ⟨DA j o,DA m n,Bg (AW g) i,k⟩
def yS (h:J9 K vs H Q E):PH K { nx:=λ_ n=>Q .non n,rt:=Q } (L2.start ["row","other","result","place","whole","step","factor"] vs) H:=by
 obtain ⟨p,q,f,g,b,d,rfl,hp,O,bn,bm,b9,d9,ln,lm,k⟩:=h;unfold PH;rwa [hp,O];have R:∀ C:cP,((!(List.map V.int C).isEmpty)=false)↔C.length=0:=λC=>by cases C <;> simp
 simp only [R];refine Au (λc=>?_) (λc=>Au (λc2=>?_) (λc2=>?_))
 ·exact ⟨sz ∅,λr S=>k r _ (AO S _) (by rw [sC (.inl c)];exact upd_same)⟩
 ·exact ⟨sz ∅,λr S=>k r _ (AO S _) (by rw [sC (.inr c2)];exact upd_same)⟩
 rw [sB ⋯] at k;refine ⟨sz ∅,λa ha=>?_⟩;have P:=AO ha (.lst [.int 0]);have G:=P _ _ hp;have T:=P _ _ O;rwa [G,T];rw [AL,AL];have eL:((f.length:Int)+(g.length:Int) - 1).toNat=f.length+g.length - 1:=by omega
 rw [eL,MN];refine ⟨⋯,⋯,sz ⋯,λw U=>?_⟩;generalize W:f.length+g.length - 1=L at U ⊢;have sw:=AO U (.lst (At L λ_=>0))
 have w0:H w=none:=by
  cases e:H w with
  | none=>rfl
  | some o=>have z:=P _ _ e;rw [U] at z;cases z
 refine ⟨⟨_,SqL.of (sw _ _ G)⟩,ForJ.enumL (xs:=f.map V.int) (λi v n=>∃ X Y D F:cO,v=[some (.ref p),some (.ref q),some (.ref w),X,Y,D,F]/\Same H n/\n w=some (.lst (At L λk=>ps f g i k)))
  ⟨none,none,none,none,rfl,P.trans sw,upd_same⟩ ?_ ?_ ?_⟩
 ·rintro i v n _ ⟨_,_,_,_,_,B,_⟩;exact SqL.of (B _ _ hp)
 ·rintro i x pp v H1 I ⟨X,Y,D,F,rfl,B,m⟩ Z;rw [Aj] at I;cases en:f[i]? with
  | none=>rw [en] at I;cases I
  | some z=>
    rw [en] at I;obtain rfl:V.int z=x:=sJ I;have il:i<f.length:=(CK.mp en).1;have zd:f.getD i 0=z:=by rw [AT,en];rfl
    have J:=AO Z (.tup [.int (i:Int),.int z]);rwa [];refine Au (λc3=>?_) (λc3=>?_)
    ·refine ⟨⟨_,SqL.of (J _ _ (B _ _ O))⟩,ForJ.enumL (xs:=g.map V.int) (λj v n=>∃ D F:cO,v=[some (.ref p),some (.ref q),some (.ref w),some (.int (i:Int)),some (.int z),D,F]/\Same H n/\n w=some (.lst (At L λk=>aZ f g i j k)))
      ⟨D,F,rfl,B.trans J,by rw [J _ _ m];exact congrArg (λl=>some (HO.lst l)) (Im λk _=>(YK f g i k))⟩ ?_ ?_ ?_⟩
     ·rintro j v n _ ⟨_,_,_,M,_⟩;exact SqL.of (M _ _ O)
     ·rintro j y pq v H2 N ⟨y3,y4,rfl,M,A⟩ a0;rw [Aj] at N;cases em:g[j]? with
      | none=>rw [em] at N;cases N
      | some u=>
        rw [em] at N;obtain rfl:V.int u=y:=sJ N;have jl:j<g.length:=(CK.mp em).1;have ud:g.getD j 0=u:=by rw [AT,em];rfl
        have sq:=AO a0 (.tup [.int (j:Int),.int u]);have a1:=sq _ _ A;rwa [a1];have kl:i+j<L:=by omega
        refine ⟨_,DJ ⋯ (DL _ kl),DA ((bn z (BV en)).mono ⋯) ((bm u (BV em)).mono ⋯),_,rfl,i+j,?_,λb o h=>Kp.upd b o (B6 h w0) (sq b o (M b o h)),?_⟩
        ·rw [Dc];exact Gp ⋯ kl
        ·refine Hg kl ?_ λk _ hk=>?_
         ·rw [OT,sC rfl,zd,ud]
         ·rw [OT,sB hk]
     ·rintro v H2 ⟨y3,y4,rfl,M,A⟩;rw [AL] at A;exact ⟨_,_,_,_,rfl,M,A⟩
    ·refine ⟨B.trans J,?_⟩;rw [J _ _ m];refine congrArg (λl=>some (HO.lst l)) (Im λk _=>?_);have z0:z=0:=Decidable.not_not.mp c3;show ps f g i k+_=ps f g i k;rw [zd,z0];simp
 ·rintro v H1 ⟨X,Y,D,F,rfl,B,m⟩;rwa [];rw [AL] at m;subst W;exact k w H1 B m
def yT (h:Cc K vs H Q E):Qi K { nx:=λ_ R=>Q .non R,rt:=Q } (L2.start ["P","Q","one","other"] vs) H:=by
 obtain ⟨p,q,xs,ys,l,m,b,c,d,e,rfl,hp,f,S,T,Gl,j,ll,lm,b9,c9,d9,e9,k⟩:=h;unfold Qi;obtain ⟨J,g,U⟩:=Gl.clr;obtain ⟨L,i,W⟩:=j.clr;have o:=Bj Gl.low;have u:=Bj j.low;rwa [hp,f];refine ⟨l,S,Gl.low,AY l,o,g.mono ⋯,λq f=>(U q f).mono ⋯,⋯,λr a H1 A X Y=>?_⟩;have B:=A _ _ f;rwa [B];refine ⟨m,T.tp (D_ A),j.low,AY m,u,i.mono ⋯,λq f=>(W q f).mono ⋯,⋯,λr2 a2 H2 C v D=>?_⟩;have x:=C _ _ X;have F:=C _ _ Y;rwa [x,v];have Z:(AJ l).length=l.length:=by unfold AJ;rw [AL]
 have M:(AJ m).length=m.length:=by unfold AJ;rw [AL]
 refine ⟨AJ l,F,AJ m,D,b,J,d,L,⋯,⋯,⋯,⋯,λw H3 G hw=>?_⟩;have I:=G _ _ x;have y:=G _ _ v;rwa [I,y];have z:0<AY l*AY m:=Ce o.1 u.1;refine ⟨DA (g.mono ⋯) (i.mono ⋯),_,hw,AW z,?_,λr4 zs H4 s4 h4 O=>?_⟩
 ·split
  ·exact Ai _
  ·rw [AL,BK];omega
 have P:trim (Fn l m (l.length+m.length))=trim (List.map (λn=>AX n (AY l*AY m)) (if (AJ l).length=0\/(AJ m).length=0 then [] else List.map (λk=>ps (AJ l) (AJ m) (AJ l).length k) (List.range ((AJ l).length+(AJ m).length - 1)))):=by
  rw [Z,M,show (λn=>AX n (AY l*AY m))=λn=>T_ n (AY l*AY m) from funext λn=>Hh z];exact YL z M
 have lo:AV (Fn l m (l.length+m.length)):=YQ o u
 have pv:∀ k,B_ (trim (Fn l m (l.length+m.length))) k=cv (B_ l) (B_ m) l.length k:=λk=>by
  rw [Fo lo];exact YR Gl.low j.low o u k
 rw [<-P] at O;refine k r4 _ H4 (((A.trans C).trans G).trans s4) ⟨zs,h4,O⟩ ?_ ?_ pv
 ·refine El (λq f=>lo q (Cq f)) (EK _) z (g.mul i) (N:=λk=>ps (AJ l) (AJ m) l.length k) (λk=>?_) λk=>OU J L _ _;rw [pv];exact (Lb Gl.low j.low o u _ _).symm
 ·rw [P];refine A7 (EL _) ?_;rw [AL];split
  ·exact Ai _
  ·rw [AL,BK];omega
def yU (h:Fz K vs H Q E):Qj K { nx:=λ_ d=>Q .non d,rt:=Q } (L2.start ["P","c"] vs) H:=by
 obtain ⟨p,c,m,l,a,b,rfl,hp,F,y,G,I,J,L,M,ll,k⟩:=h;unfold Qj;rwa [hp];have N:=y.length;refine ⟨⟨_,SqT.of hp⟩,CompJ.tup (xs:=m) (λi g d=>i<=m.length/\Same H d/\Nums d g ((l.take i).map λq=>G_ q (a,b))) ⟨Ai _,Same.refl H,trivial⟩ ?_ ?_ ?_⟩
 ·rintro i g d ⟨A,e,f⟩;exact ⟨A,sz (by rw [f.length,AL,CT];omega),e _ _ hp⟩
 ·rintro i x g d B ⟨A,e,f⟩;obtain ⟨z,o,X,rfl,u⟩:=y.get B;have O:i<m.length:=(CK.mp B).1;have j:=e _ _ u;have v:=e _ _ F;have P:=G z (BV o);have C:=M z (BV o);rwa [j,v];refine ⟨P.pos,I,C.1,C.2,J,L,λr n=>⟨⋯,e.trans (AO n _),?_⟩⟩;rw [Hf _ o];exact (f.tp (D_ (AO n _))).append (Nums.one Fw)
 ·rintro g d ⟨_,e,f⟩ w R;have D:=AO R (.lst g);rw [N,Di] at f;rwa [];exact ⟨_,f.tp (D_ D),by rw [AL];omega,λr S T U n W=>k r S T ((e.trans D).trans U) n W⟩
def yV (h:Db K vs H Q E):Qz K { nx:=λ_ r=>Q .non r,rt:=Q } (L2.start ["P","Q"] vs) H:=by
 obtain ⟨p,q,S,T,l,m,b,c,d,e,rfl,hp,w,x,y,Gl,f,n,ll,z,A,B,C,D,F,k⟩:=h;unfold Qz;rwa [hp,w];refine ⟨l,x,m,y,b,c,Gl,d,e,f,n,ll,z,A,B,C,D,λt u v G a g I J L U M N O W X o=>?_⟩
 have R:∀ k,B_ g k=0:=by
  have j:MR (B_ m) (B_ g):=F.sub (yM (P:=λk=>cv (B_ a) (B_ m) a.length k) a.length (λk=>rfl)) λk=>by have:=o k;show B_ g k=B_ l k - cv (B_ a) (B_ m) a.length k;ext
  refine λk=>MR.short (Cv f.low f.nz n) (λi Y=>Bc ⋯) j (λk hk=>Bc ⋯) k
 rwa [J];exact k u a G I L M N O λk=>by rw [o k,R k];ext
def KR (l:cJ) (k:Nat):cvL (rw' l) Af k=B_ l k:=(yP (λi a=>Bc a) k).symm
def KS (l:cJ) (g:di) (k:Nat):cv (B_ l) g l.length k=cvL (rw' l) g k:=KQ _ _ k _
theorem yW {L M G T B:di} {t b U W:List Rat} {n:Nat} (a:∀ k,cvL t Af k=T k) (c:∀ k,cvL b Af k=B k) (d:G n≠0) (f:∀ i,n<i->G i=0)
  (g:∀ k,L k=cvL t G k) (h:∀ k,M k=cvL b G k) (e:∀ k,G k=cvL U L k+cvL W M k):Cop T B:=by
 refine ⟨U,W,λk=>?_⟩
 have z:=Lv d f (A:=[1]) (B:=A9 (Bk U t) (Bk W b)) (λk=>by
  rw [Bq,B7,B7,<-A8 g,<-A8 h,<-e k];cases k with
  | zero=>rw [Ap];ext
  | succ k=>rw [Ak,Az];ext) Af k
 rw [Bq,B7,B7,A8 a,A8 c] at z;rw [<-z,Dk];cases k with
 | zero=>rfl
 | succ k=>rfl
def Cop.scal {T B a b:di} {s:Rat} (c:s≠0) (h:Cop T B) (d:∀ k,a k=s*T k) (f:∀ k,b k=s*B k):Cop a b:=by
 obtain ⟨U,W,e⟩:=h;refine ⟨U.map (s⁻¹*·),W.map (s⁻¹*·),λk=>?_⟩;rw [BC,BC,A8 d,A8 f,Cj,Cj,e k];have:s⁻¹*s=1:=Et s c;ext
def yX {B a:cJ} (m:AV B) (b:AV a) (n:Nz B) (g:Nz a) (p:B≠[]) (j:a≠[]) (o:AR B (B.length - 1)=(1,1)) (q:AR a (a.length - 1)=(1,1)) (h:MR (B_ B) (B_ a)) (h':MR (B_ a) (B_ B)):B=a:=by
 have len:∀ {B a:cJ},AV B->AV a->Nz B->Nz a->B≠[]->a≠[]->MR (B_ B) (B_ a)->B.length<=a.length:=λ{B a} m b n g p j h=>by
  rcases BF a.length B.length with c | c
  ·exact absurd (MR.short (Cv m n p) (λi r=>Bc ⋯) h (λk hk=>Bc ⋯) (a.length - 1)) (Cv b g j)
  ·exact c
 have e:B.length=a.length:=Nat.le_antisymm (len m b n g p j h) (len b m g n j p h');have v:0<B.length:=BD.mpr p;refine Oc m b n g λk=>?_
 have d:=MR.short (f:=λk=>B_ a k - B_ B k) (Cv m n p) (λi r=>Bc ⋯) (h.sub ⟨[1],λk=>by
  cases k with
  | zero=>rw [Ap];ext
  | succ k=>rw [Ak,Az];ext⟩ λk=>rfl) (λk hk=>by
    rcases BF (B.length - 1) k with c | c
    ·show B_ a k - B_ B k=0;rw [Bc ⋯,Bc ⋯];ext
    ·have u:k=B.length - 1:=by omega
     show B_ a k - B_ B k=0;unfold B_;rw [u,o,e,q];ext) k
 have d:B_ a k - B_ B k=0:=d;ext
def yY {l m:cJ} {g:cP} (a:AV l) (b:AV m) (R:RC (co (AJ l)) (co (AJ m)) g):∃ U W:List Rat,∀ k,B_ (E_ g) k=cvL U (B_ l) k+cvL W (B_ m) k:=by
 obtain ⟨d,c,U,W,f⟩:=R.qi;have h:=Aq c;have j:=Sn a;have n:=Sn b;refine ⟨(U.map λz:Int=>(z:Rat)).map (((co g (g.length - 1):Rat))⁻¹*(d:Rat)⁻¹*(((AY l:Rat))⁻¹)⁻¹*·),(W.map λz:Int=>(z:Rat)).map (((co g (g.length - 1):Rat))⁻¹*(d:Rat)⁻¹*(((AY m:Rat))⁻¹)⁻¹*·),λk=>?_⟩;have e:(d:Rat)*(co g k:Rat)=((cvL U (co (AJ l)) k:Int):Rat)+((cvL W (co (AJ m)) k:Int):Rat):=by exact_mod_cast f k
 rw [KP j (D6 a),KP n (D6 b)] at e;rw [BC,BC,D7 R.lz];generalize cvL (U.map λz:Int=>(z:Rat)) (B_ l) k=x at e ⊢;generalize cvL (W.map λz:Int=>(z:Rat)) (B_ m) k=y at e ⊢;generalize ((AY l:Rat)⁻¹)⁻¹=u at e ⊢;generalize ((AY m:Rat)⁻¹)⁻¹=v at e ⊢;have i:(d:Rat)⁻¹*(d:Rat)=1:=Et _ h;have:(co g k:Rat)=(d:Rat)⁻¹*(u*x+v*y):=by rw [<-e];ext
 rw [this];ext
theorem Mf {l a:cJ} {g:cP} {b n c:Nat} (j:AV l) (r:AV a) (o:∀ z∈AJ l,Bd b z) (p:l.length<=n) (q:n<2 ^ c) (d:Lz g) (P:Prim g) (m:MQ (co g) (co (AJ l))) (e:∀ k,B_ l k=cv (B_ a) (B_ (E_ g)) a.length k) :
  ∃ A:cP,(∀ k,Bd (b+n*(2*c+4)) (co A k))/\∀ k,B_ a k=((co g (g.length - 1):Rat))*(co A k:Rat)*((AY l:Rat))⁻¹:=by
 obtain ⟨A,f⟩:=O' P m;refine ⟨A,zW o (by rw [Bv];exact p) q d f,λk=>?_⟩;have u:=Aq d.2;have top:B_ (E_ g) (g.length - 1)≠0:=by rw [D7 d];ext
 have h:∀ i,g.length - 1<i->B_ (E_ g) i=0:=λi h=>Bc (by rw [D5];omega)
 have z:=Lv top h (A:=rw' a) (B:=(A.map λz:Int=>(z:Rat)).map ((co g (g.length - 1):Rat)*((AY l:Rat))⁻¹*·)) (λk=>by
  rw [<-KS,<-e k,BC,D6 j,f k,KP (FJ d) (D7 d)];ext) Af k
 rw [KR,BC,Dk,AT,Aj] at z;rw [z];unfold co;rw [AT (l:=A)];cases A[k]? with
 | none=>show _*(0:Rat)=_*((0:Int):Rat)*_;ext
 | some v=>show _*(v:Rat)=_*(v:Rat)*_;ext
theorem Mg {l:cJ} {a b:Int} (c:AV l) (d:0<b) (k:Nat):B_ (l.map λq=>G_ q (a,b)) k=val (a,b)*B_ l k:=by
 unfold B_ AR;rw [AT,AT,Aj];cases e:l[k]? with
 | none=>
   show val (0,1)=_*val (0,1);have:val (0,1)=0:=by unfold val;exact O_ _
   rw [this];ext
 | some q=>
   show val (G_ q (a,b))=_*val q;rw [LY (c q (BV e)).pos d];ext
def Mh {l:cJ} {a b:Int} (c:AV l) (d:0<b):AV (l.map λq=>G_ q (a,b)):=λq e=>by
 obtain ⟨z,f,rfl⟩:=BG.mp e;exact OP (c z f).pos d
def Gu:Low 1 1:=⟨∅,∅⟩
def cy {n:Nat} {x:Int} (h:x.natAbs<2 ^ n):Bd n x:=h
def Gv (n:Int):AX n 1=(n,1):=by
 refine FA (D2 ∅) ⟨show (0:Int)<1 by decide,by simp⟩ ?_;rw [Ee ∅];rfl
def yZ (h:KD K vs H Q E):Qy K { nx:=λ_ Y=>Q .non Y,rt:=Q } (L2.start ["P","Q","factor"] vs) H:=by
 obtain ⟨p,q,l,m,rfl,⟨xs,hp,Z⟩,⟨ys,c,C⟩,ll,N,nm,O,P,G,l9,m9,k⟩:=h;have p1:0<m.length:=BD.mpr O;obtain ⟨v,I,pv,rfl,b⟩:=C.at (i:=m.length - 1) ⋯ (0,1);have J:L_ ys (-1)=some (V.ref pv):=MT (by rw [C.length];exact p1) (by rw [C.length];exact I);have R:Low (AR m (m.length - 1)).1 (AR m (m.length - 1)).2:=B9 N _;have o:=Sk nm O
 have mL:AR m (m.length - 1)∈m:=by
  unfold AR;rw [AT,Aw ⋯];exact Er _
 have x:=G _ mL;have b:H pv=some (HO.tup [V.int (AR m (m.length - 1)).1,V.int (AR m (m.length - 1)).2]):=b;generalize a0:AR m (m.length - 1)=r at b R o x k;unfold Qy;rwa [];refine ⟨sz ∅,λw hw=>?_⟩;have D:=AO hw (.tup [.int 1,.int 1]);have y:=D _ _ c;have d:=D _ _ b;have z:upd H w (.tup [.int 1,.int 1]) w=some (HO.tup [V.int 1,V.int 1]):=upd_same;generalize upd H w (.tup [.int 1,.int 1])=S at D y d z ⊢;refine ⟨_,y,_,J,_,rfl,?_⟩;rwa [d,z];have T:Bd 60000000 1:=(cy (n:=1) ∅).mono ∅;refine ⟨∅,o,T,T,x.1.mono ∅,x.2.mono ∅,λf hf=>?_⟩;rw [Int.one_mul,Int.one_mul];have F:=D2 (n:=r.2) o;have A:=Oa o x.2 x.1
 have U:val (AX r.2 r.1)*val r=1:=by
  have z1:=Aq o;have z2:=Aq (AW R.pos);rw [Ee o];unfold val;ext
 generalize AX r.2 r.1=a at F A U ⊢;have W:=AO hf (.tup [.int a.1,.int a.2]);have e:upd S f (.tup [.int a.1,.int a.2]) f=some (HO.tup [V.int a.1,V.int a.2]):=upd_same;generalize upd S f (.tup [.int a.1,.int a.2])=H4 at W e ⊢;have g:=D.trans W;have L:=g _ _ hp;rwa [L,e];refine ⟨l,Z.tp (D_ g),ll,F.pos,A.1.mono ∅,A.2.mono ∅,λq c=>⟨(P q c).1.mono ∅,(P q c).2.mono ∅⟩,⋯,λu us H6 X hu nu=>?_⟩;have j:=g.trans X;refine ⟨_,j _ _ c,m,a.1,a.2,X _ _ e,C.tp (D_ j),N,F.pos,A.1.mono ∅,A.2.mono ∅,λq c=>⟨(G q c).1.mono ∅,(G q c).2.mono ∅⟩,⋯,λv vs H7 M I nv=>⟨sz ∅,λt ht=>?_⟩⟩;have B:=AO ht (.tup [.ref u,.ref v]);exact k a F U t u v _ ((j.trans M).trans B) upd_same ⟨us,B _ _ (M _ _ hu),(nu.tp (D_ M)).tp (D_ B)⟩ ⟨vs,B _ _ I,nv.tp (D_ B)⟩
def az (q r:Nu):U_ q (-r.1,r.2)=Z_ q r:=by
 unfold U_ Z_;congr 1;show q.1*r.2 + -r.1*q.2=_;ext
def xA {q r:Nu} (a:0<q.2) (b:0<r.2):val (Z_ q r)=val q - val r:=by
 rw [<-az,OZ (r:=(-r.1,r.2)) a b,yK];ext
def Ss {f:Nu->Nu->Nu} {s:Int} (j:∀ q r:Nu,0<q.2->0<r.2->Low (f q r).1 (f q r).2/\val (f q r)=val q+(s:Rat)*val r) (u:s=1\/s = -1) {l m:cJ} {M:Int} {b c:Nat} (d:AV l) (g:AV m) (n:Ov l M) (v:Ov m M) (w:Bd c M) (x:∀ z∈N_ l M,Bd b z) (y:∀ z∈N_ m M,Bd b z) :
  Gq (b+1) c (trim (E9 f l m))/\(trim (E9 f l m)).length<=max l.length m.length/\∀ k,B_ (trim (E9 f l m)) k=B_ l k+(s:Rat)*B_ m k:=by
 have a:AV (E9 f l m):=λq h=>by
  obtain ⟨i,_,rfl⟩:=BG.mp h;exact (j _ _ (B9 d i).pos (B9 g i).pos).1
 have pv:∀ k,B_ (trim (E9 f l m)) k=B_ l k+(s:Rat)*B_ m k:=λk=>by
  rw [Fo a];rcases BF k (max l.length m.length) with c | c
  ·have e:AR (E9 f l m) k=f (AR l k) (AR m k):=by
    unfold E9 AR;rw [AT,Aj,DE c];rfl
   unfold B_;rw [e,(j _ _ (B9 d k).pos (B9 g k).pos).2]
  ·rw [Bc (by unfold E9;rw [AL,BK];exact c),Bc (l:=l) ⋯,Bc (l:=m) ⋯];ext
 refine ⟨El (λq h=>a q (Cq h)) (EK _) n.1 w (N:=λk=>(N_ l M).getD k 0+s*(N_ m M).getD k 0) (λk=>?_) λk=>?_,?_,pv⟩
 ·rw [pv,Fq d n,Fq g v];push_cast;ext
 ·have o:=Ed x k;have p:=Ed y k;rcases u with z | z
  ·rw [z,Int.one_mul];exact o.add p
  ·rw [z,show (N_ l M).getD k 0 + -1*(N_ m M).getD k 0=(N_ l M).getD k 0 - (N_ m M).getD k 0 by omega];exact o.sub p
 ·refine A7 (EL _) ?_;unfold E9;rw [AL,BK];exact AU _
def xB (h:L9 K vs H Q E):QX K { nx:=λ_ j=>Q .non j,rt:=Q } (L2.start ["one","other"] vs) H:=by
 obtain ⟨p,q,a,b,c,d,rfl,hp,m,e,f,n,g,o,i,k⟩:=h;unfold QX;rwa [hp,m];exact ⟨DA n i,DA o g,DA g i,AW (Ce e f),λr u=>by rw [Hh (Ce e f)];exact k r u⟩
def xC (h:MA K vs H Q E):QY K { nx:=λ_ j=>Q .non j,rt:=Q } (L2.start ["one","other"] vs) H:=by
 obtain ⟨p,q,a,b,c,d,rfl,hp,m,e,f,n,g,o,i,k⟩:=h;unfold QY;rwa [hp,m];exact ⟨DA n i,DA o g,DA g i,AW (Ce e f),λr u=>by rw [Hh (Ce e f)];exact k r u⟩
def xD (h:Go K vs H Q E):Qf K { nx:=λ_ b=>Q .non b,rt:=Q } (L2.start ["P","place"] vs) H:=by
 obtain ⟨p,g,l,i,rfl,hp,a,q⟩:=h;unfold Qf;rwa [hp];have j:=a.length;refine Au (λc=>?_) (λc=>⟨sz ∅,λr d=>q _ _ (AO d _) ?_⟩)
 ·obtain ⟨v,e,f⟩:=a.at (i:=i) ⋯ (0,1);exact ⟨v,JU e,q v H (Same.refl H) f⟩
 ·rw [La ⋯];exact Fw (q:=(0,1))
theorem JA {l:cJ} {M:Int} {b c:Nat} (a:AV l) (O:Ov l M) (d:Bd c M) (f:∀ z∈N_ l M,Bd b z) (i:Nat):Bd (b+1) (AR l i).1/\Bd (c+1) (AR l i).2:=by
 unfold AR;rw [AT];cases e:l[i]? with
 | none=>exact ⟨Ci _,(cy (n:=1) ∅).mono ⋯⟩
 | some q=>
   have m:=BV e;exact ⟨(SK a O f q m).mono ⋯,(DH (AW O.1) (O.2 q m) d).mono ⋯⟩
def xE (h:Ik K vs H Q E):Qh K { nx:=λ_ e=>Q .non e,rt:=Q } (L2.start ["P","Q"] vs) H:=by
 obtain ⟨p,q,U,W,l,m,M,b,c,rfl,hp,J,L,N,B,C,O,P,D,n,o,b9,c9,ll,lm,k⟩:=h;unfold Qh;rwa [hp,J];have X:=L.length;have Y:=N.length;rw [SG,X,Y];refine ⟨⋯,⋯,CompJ.range (λi w e=>i<=max l.length m.length/\Same H e/\Nums e w ((List.range i).map λi=>Z_ (AR l i) (AR m i))) ⟨Ai _,Same.refl H,trivial⟩ ?_ ?_ ?_⟩
 ·rintro i w e ⟨x,d,y⟩;exact ⟨x,sz (by rw [y.length,AL,BK];omega)⟩
 ·rintro i w e hi ⟨x,d,y⟩;rwa [];rw [show (0:Int)+(i:Int)=(i:Int) by omega];refine ⟨U,l,i,rfl,d _ _ hp,L.tp (D_ d),λv H1 g Z=>⟨W,m,i,rfl,g _ _ (d _ _ J),N.tp (D_ (d.trans g)),λu H2 z hu=>?_⟩⟩;obtain ⟨pv,rfl,F⟩:=Z.tp (D_ z);obtain ⟨pu,rfl,G⟩:=hu;have R:=JA B O D n i;have S:=JA C P D o i;refine ⟨pv,rfl,pu,rfl,_,_,F,_,_,G,(B9 B i).pos,(B9 C i).pos,R.1.mono ⋯,R.2.mono ⋯,S.1.mono ⋯,S.2.mono ⋯,λr A=>⟨⋯,((d.trans g).trans z).trans (AO A _),?_⟩⟩;rw [MM];exact (y.tp (D_ ((g.trans z).trans (AO A _)))).append (Nums.one Fw)
 ·rintro w e ⟨_,d,y⟩ a ha;rwa [];have g:=AO ha (.lst w);have j:=Ss (f:=Z_) (s:=-1) (λq r x T=>⟨YF x T,by rw [xA x T];push_cast;ext⟩) (.inr rfl) B C O P D n o;refine ⟨_,y.tp (D_ g),by rw [AL,BK];omega,λr os I z A hz=>?_⟩;exact k r _ I ((d.trans g).trans z) ⟨os,A,hz⟩ j.1 j.2.1 λk=>by have:=j.2.2 k;exact this
def Gw {P A C:cJ} (f:AV P) (g:Nz P) (j:AV A) (m:Nz A) (b:A≠[]) (o:AV C) (p:Nz C) (C0:C≠[]) (h:∀ k,B_ P k=cv (B_ A) (B_ C) A.length k) :
  P.length+1=A.length+C.length/\B_ P (P.length - 1)=B_ A (A.length - 1)*B_ C (C.length - 1)/\P≠[]:=by
 have v:0<A.length:=BD.mpr b;have w:0<C.length:=BD.mpr C0
 have a:∀ k,A.length+C.length - 1<=k->B_ P k=0:=λk hk=>by
  rw [h,KQ];exact Jt (n:=C.length - 1) (λi a=>Bc ⋯) _ _ (by rw [AL,BK];omega)
 have top:B_ P (A.length - 1+(C.length - 1))=B_ A (A.length - 1)*B_ C (C.length - 1):=by
  rw [h];obtain ⟨n,e⟩:∃ n,A.length=n+1:=⟨A.length - 1,⋯⟩;rw [e];show cv (B_ A) (B_ C) n (n+1 - 1+(C.length - 1))+_=_
  have z:cv (B_ A) (B_ C) n (n+(C.length - 1))=0:=by
   rw [KQ];exact Jt (n:=C.length - 1) (λi a=>Bc ⋯) _ _ (by rw [AL,BK];omega)
  rw [Nat.add_sub_cancel,z,sC ⋯,show n+(C.length - 1) - n=C.length - 1 by omega,Rat.zero_add]
 have r:B_ P (A.length - 1+(C.length - 1))≠0:=by
  rw [top];intro z;rcases Rat.mul_eq_zero.mp z with q | q
  ·exact Cv j m b q
  ·exact Cv o p C0 q
 have x:A.length - 1+(C.length - 1)<P.length:=by
  rcases BF (A.length - 1+(C.length - 1)) P.length with c | c
  ·exact c
  ·exact absurd (Bc c) r
 have d:P≠[]:=BD.mp ⋯
 have u:P.length=A.length - 1+(C.length - 1)+1:=by
  rcases BF (A.length - 1+(C.length - 1)+1) P.length with c | c
  ·exact absurd (a (P.length - 1) ⋯) (Cv f g d)
  ·omega
 exact ⟨⋯,by rw [u,Nat.add_sub_cancel];exact top,d⟩
def KU {B:cJ} (a:AV B) (h:B_ B (B.length - 1)=1):AR B (B.length - 1)=(1,1):=by
 refine FA (B9 a _) Gu ?_;have:val ((1:Int),(1:Int))=1:=by unfold val;show ((1:Int):Rat) / ((1:Int):Rat)=1;rw [show ((1:Int):Rat)=1 from rfl];ext
 rw [this];exact h
def EQ {B:cJ} (h:AR B (B.length - 1)=(1,1)):B_ B (B.length - 1)=1:=by
 unfold B_;rw [h];unfold val;show ((1:Int):Rat) / ((1:Int):Rat)=1;rw [show ((1:Int):Rat)=1 from rfl];ext
def FF.same {H d:Hp} {p:Addr} {T B:cJ} (h:FF H p T B) (s:Same H d):FF d p T B:=let ⟨u,v,a,b,c⟩:=h;⟨u,v,s _ _ a,b.same s,c.same s⟩
def Hl {l a:cJ} {g:cP} {b c n e d:Nat} (Gl:Gq b c l) (f:AV a) (h:Nz a) (i:l.length<=n) (j:n<2 ^ e) (o:Lz g) (P:Prim g) (p:Bd d (co g (g.length - 1))) (m:MQ (co g) (co (AJ l))) (q:∀ k,B_ l k=cv (B_ a) (B_ (E_ g)) a.length k):Gq (d+(b+n*(2*e+4))) c a:=by
 obtain ⟨A,r,u⟩:=Mf Gl.low f Gl.clr.1 i j o P m q;exact El f h (Bj Gl.low).1 Gl.clr.2.1 (N:=λk=>co g (g.length - 1)*co A k) (λk=>by rw [u,Rat.div_def];push_cast;rfl) λk=>Bd.mul p (r k)
def KW {b c:Nat} {l m:cJ} (g:Gq b c l) (h:Gq b c m):∃ M,Ov l M/\Ov m M/\Bd (c+c) M/\(∀ z∈N_ l M,Bd (b+c) z)/\∀ z∈N_ m M,Bd (b+c) z:=by
 have a:∀ {l:cJ} {M N:Int},AV l->Ov l M->(∀ z∈N_ l M,Bd b z)->0<N->Bd c N->Ov l (M*N)/\∀ z∈N_ l (M*N),Bd (b+c) z:=λ{l M N} A O p r d=>by
  refine ⟨⟨Ce O.1 r,λq f=>GH (O.2 q f)⟩,λz u=>?_⟩;obtain ⟨q,f,rfl⟩:=BG.mp u;have e:M*N / q.2=M / q.2*N:=Int.mul_ediv_assoc' N (O.2 q f);rw [e,<-Int.mul_assoc];exact (p _ (BG.mpr ⟨q,f,rfl⟩)).mul d
 obtain ⟨M,i,j,v⟩:=g.ov;obtain ⟨N,k,d,w⟩:=h.ov;obtain ⟨x,y⟩:=a g.low i v k.1 d;obtain ⟨n,o⟩:=a h.low k w i.1 j;rw [Int.mul_comm N M] at n o;exact ⟨M*N,x,n,j.mul d,y,o⟩
def xF {l:cJ} {b c:Nat} (G:Gq b c l) (j:l.length<=31) :
  Gq (b+5) c ((List.range (l.length - 1)).map λi=>G_ (AR l (i+1)) ((i:Int)+1,1))/\∀ k,B_ ((List.range (l.length - 1)).map λi=>G_ (AR l (i+1)) ((i:Int)+1,1)) k=dv (B_ l) k:=by
 have d:AV ((List.range (l.length - 1)).map λi=>G_ (AR l (i+1)) ((i:Int)+1,1)):=λq a=>by
  obtain ⟨i,_,rfl⟩:=BG.mp a;exact OP (B9 G.low _).pos (show (0:Int)<1 by decide)
 have g:∀ i:Nat,val ((i:Int)+1,(1:Int))=(i:Rat)+1:=λi=>by
  unfold val;show (((i:Int)+1:Int):Rat) / ((1:Int):Rat)=_;rw [show ((1:Int):Rat)=1 from rfl];push_cast;ext
 have pv:∀ k,B_ ((List.range (l.length - 1)).map λi=>G_ (AR l (i+1)) ((i:Int)+1,1)) k=dv (B_ l) k:=λk=>by
  unfold dv;rcases BF k (l.length - 1) with h | h
  ·have e:AR ((List.range (l.length - 1)).map λi=>G_ (AR l (i+1)) ((i:Int)+1,1)) k=G_ (AR l (k+1)) ((k:Int)+1,1):=by
    unfold AR;rw [AT,Aj,DE h];rfl
   unfold B_;rw [e,LY (B9 G.low _).pos (show (0:Int)<1 by decide),g];ext
  ·rw [Bc (by rw [AL,BK];exact h),Bc (l:=l) ⋯];ext
 obtain ⟨M,O,m,n⟩:=G.ov;refine ⟨El d ?_ O.1 m (N:=λk=>if k<31 then ((k+1:Nat):Int)*(N_ l M).getD (k+1) 0 else 0) (λk=>?_) λk=>?_,pv⟩
 ·intro q a;rw [Es,AL,BK] at a;rcases Ds (l.length - 1) with h | h
  ·rw [CC (by rw [AL,BK];omega)] at a;cases a
  ·rw [Zw _ ⋯] at a;obtain rfl:=sJ a;intro z;have f:=LY (q:=AR l (l.length - 1 - 1+1)) (r:=(((l.length - 1 - 1:Nat):Int)+1,1)) (B9 G.low _).pos (show (0:Int)<1 by decide);rw [g] at f
   have o:val (G_ (AR l (l.length - 1 - 1+1)) (((l.length - 1 - 1:Nat):Int)+1,1))=0:=by
    unfold val;rw [z];show ((0:Int):Rat) / _=0;rw [show ((0:Int):Rat)=0 from rfl];ext
   rw [o,show l.length - 1 - 1+1=l.length - 1 by omega] at f;have p:=Cv G.low G.nz (λe=>by rw [e] at h;simp at h)
   have u:((l.length - 1 - 1:Nat):Rat)+1≠0:=λq=>by
    have e:((l.length - 1 - 1:Nat):Rat)+1=((l.length - 1 - 1+1:Nat):Rat):=by push_cast;rfl
    rw [e] at q;have:l.length - 1 - 1+1=0:=by exact_mod_cast q
    omega
   rcases Rat.mul_eq_zero.mp f.symm with q | q
   ·exact p q
   ·exact u q
 ·rw [pv,dv];by_cases h:k<31
  ·rw [sC h,Fq G.low O];push_cast;ext
  ·rw [sB h,Bc (l:=l) ⋯];show _=((0:Int):Rat) / _;rw [show ((0:Int):Rat)=0 from rfl];ext
 ·by_cases h:k<31
  ·rw [sC h];have:Bd 5 ((k+1:Nat):Int):=by unfold Bd;rw [CN];omega
   exact (this.mul (Ed n (k+1))).mono ⋯
  ·rw [sB h];exact Ci _
def xG (h:EO K vs H Q E):Qq K { nx:=λ_ d=>Q .non d,rt:=Q } (L2.start ["P"] vs) H:=by
 obtain ⟨p,z,l,b,c,rfl,hp,A,G,o,b9,c9,k⟩:=h;unfold Qq;rwa [hp];have lx:=A.length;obtain ⟨M,O,F,I⟩:=G.ov;refine ⟨∅,∅,⋯,⋯,CompJ.range (λi e d=>i<=l.length - 1/\Same H d/\Nums d e ((List.range i).map λi=>G_ (AR l (i+1)) ((i:Int)+1,1))) ⟨Ai _,Same.refl H,trivial⟩ ?_ ?_ ?_⟩
 ·rintro i e d ⟨J,f,g⟩;exact ⟨⋯,sz (by rw [g.length,AL,BK];omega)⟩
 ·rintro i e d hi ⟨J,f,g⟩;have u:=f _ _ hp;have L:i+1<l.length:=by omega
  obtain ⟨v,N,P⟩:=A.at (i:=i+1) ⋯ (0,1);obtain ⟨pv,rfl,x⟩:=P.tp (D_ f);have R:L_ z (1+(i:Int))=some (V.ref pv):=DJ (j:=i+1) ⋯ N;rwa [u,R];refine ⟨sz ∅,λw S=>?_⟩;have y:=AO S (.tup [.int (1+(i:Int)),.int 1]);have B:=JA G.low O F I (i+1);have T:(1+(i:Int))=(i:Int)+1:=by omega
  have U:Bd 5 (1+(i:Int)):=by unfold Bd;omega
  refine ⟨_,_,y _ _ x,(B9 G.low _).pos,∅,B.1.mono ⋯,B.2.mono ⋯,U.mono ∅,(cy (n:=1) ∅).mono ∅,λr m=>⟨⋯,(f.trans y).trans (AO m _),?_⟩⟩;rw [MM];refine (g.tp (D_ (y.trans (AO m _)))).append (Nums.one ?_);rw [<-T];exact Fw (q:=G_ (AR l (i+1)) (1+(i:Int),1))
 ·rintro e d ⟨_,f,g⟩ a W;rwa [];have C:=AO W (.lst e);obtain ⟨X,Y⟩:=xF G o;have Z:((z.length:Int) - 1).toNat=l.length - 1:=by omega
  rw [Z] at g;intro r m;have D:=AO m (.tup e);exact k r _ _ ((f.trans C).trans D) ⟨e,upd_same,g.tp (D_ (C.trans D))⟩ X (by rw [AL,BK]) Y
def Su (l:cJ):sr l=Sr.L (rw' l):=Sr.ext' λk=>(KR l k).symm
def AM (l:cJ):Sr.Pol (sr l):=⟨_,Su l⟩
def xH (l:cJ) (g:di):(⟨cvL (rw' l) g⟩:Sr)=sr l*⟨g⟩:=by rw [Su,Sr.L_mul]
def CA {P A C:cJ} (h:∀ k,B_ P k=cv (B_ A) (B_ C) A.length k):sr P=sr A*sr C:=by
 refine Eq.trans ?_ (xH A (B_ C));exact Sr.ext' λk=>(h k).trans (KS _ _ _)
def Bw {l:cJ} (a:AV l) (b:Nz l) (c:l≠[]):sr l≠0:=λz=>Cv a b c (by
 have:=sM (congrArg Sr.c z) (l.length - 1);rw [Sr.zero_c] at this;exact this)
def Mi {l m:cJ} (a:AV l) (b:AV m) (c:Nz l) (d:Nz m) (h:sr l=sr m):l=m:=Oc a b c d λk=>sM (congrArg Sr.c h) k
def FK (k:Nat):(1:Sr).c k=Af k:=by show ((1:Nat):Rat)*Af k=_;push_cast;ext
def sr_cop {T B:cJ}:Cop (B_ T) (B_ B)↔Sr.Cs (sr T) (sr B):=by
 constructor
 ·rintro ⟨U,W,e⟩;refine ⟨Sr.L U,Sr.L W,Sr.Pol.L _,Sr.Pol.L _,?_⟩;rw [Sr.L_mul,Sr.L_mul];exact Sr.ext' λk=>by rw [FK,e k];rfl
 ·rintro ⟨_,_,⟨U,rfl⟩,⟨W,rfl⟩,e⟩;refine ⟨U,W,λk=>?_⟩;rw [Sr.L_mul,Sr.L_mul] at e;have:=sM (congrArg Sr.c e) k;rw [FK] at this;exact this.symm
def JB {l m:cJ} (h:∀ k,B_ m k=dv (B_ l) k):sr m=Sr.D (sr l):=Sr.ext' λk=>h k
def xJ (h:KC K vs H Q E):Qg K { nx:=λ_ e=>Q .non e,rt:=Q } (L2.start ["P","Q"] vs) H:=by
 obtain ⟨p,q,U,W,l,m,M,b,c,rfl,hp,J,L,N,B,C,O,P,D,n,o,b9,c9,ll,lm,k⟩:=h;unfold Qg;rwa [hp,J];have X:=L.length;have Y:=N.length;rw [SG,X,Y];refine ⟨⋯,⋯,CompJ.range (λi w e=>i<=max l.length m.length/\Same H e/\Nums e w ((List.range i).map λi=>U_ (AR l i) (AR m i))) ⟨Ai _,Same.refl H,trivial⟩ ?_ ?_ ?_⟩
 ·rintro i w e ⟨x,d,y⟩;exact ⟨x,sz (by rw [y.length,AL,BK];omega)⟩
 ·rintro i w e hi ⟨x,d,y⟩;rwa [];rw [show (0:Int)+(i:Int)=(i:Int) by omega];refine ⟨U,l,i,rfl,d _ _ hp,L.tp (D_ d),λv H1 g Z=>⟨W,m,i,rfl,g _ _ (d _ _ J),N.tp (D_ (d.trans g)),λu H2 z hu=>?_⟩⟩;obtain ⟨pv,rfl,F⟩:=Z.tp (D_ z);obtain ⟨pu,rfl,G⟩:=hu;have R:=JA B O D n i;have S:=JA C P D o i;refine ⟨pv,rfl,pu,rfl,_,_,F,_,_,G,(B9 B i).pos,(B9 C i).pos,R.1.mono ⋯,R.2.mono ⋯,S.1.mono ⋯,S.2.mono ⋯,λr A=>⟨⋯,((d.trans g).trans z).trans (AO A _),?_⟩⟩;rw [MM];exact (y.tp (D_ ((g.trans z).trans (AO A _)))).append (Nums.one Fw)
 ·rintro w e ⟨_,d,y⟩ a ha;rwa [];have g:=AO ha (.lst w);have j:=Ss (f:=U_) (s:=1) (λq r x T=>⟨YE x T,by rw [OZ x T];ext⟩) (.inl rfl) B C O P D n o;refine ⟨_,y.tp (D_ g),by rw [AL,BK];omega,λr os I z A hz=>?_⟩;exact k r _ I ((d.trans g).trans z) ⟨os,A,hz⟩ j.1 j.2.1 λk=>by have:=j.2.2 k;exact this
theorem Hm (p:dh):∀ (w:cP) (k:Nat),((cvL w p k:Int):Rat)=cvL (w.map λz:Int=>(z:Rat)) (λk=>(p k:Rat)) k
 | [],_=>rfl
 | x::w,0=>by rw [Ap];show _=(x:Rat)*(p 0:Rat)+0;push_cast;rfl
 | x::w,k+1=>by rw [Ak];show _=(x:Rat)*(p (k+1):Rat)+cvL (w.map λz:Int=>(z:Rat)) (λk=>(p k:Rat)) k;rw [<-Hm p w k];push_cast;rfl
def DN (ns:cP):si ns=Sr.L (ns.map λz:Int=>(z:Rat)):=Sr.ext' λk=>by
 show ((co ns k:Int):Rat)=cvL _ Af k;rw [Dk];unfold co;rw [AT,AT,Aj];cases ns[k]? <;> rfl
def Cw (ns:cP):Sr.Pol (si ns):=⟨_,DN ns⟩
def Mj {ns a b:cP} (h:∀ k,co ns k=cvL a (co b) k):si ns=si a*si b:=by
 rw [DN a,Sr.L_mul];refine Sr.ext' λk=>?_;show ((co ns k:Int):Rat)=cvL _ (λk=>((co b k:Int):Rat)) k;rw [h k,Hm]
def Hn {ns:cP} (h:Lz ns):si ns≠0:=λz=>h.2 (by
 have:=sM (congrArg Sr.c z) (ns.length - 1);rw [Sr.zero_c] at this;have this:((co ns (ns.length - 1):Int):Rat)=0:=this;exact_mod_cast this)
def xK (ns:cP):Sr.Bn (si ns) ns.length:=λk hk=>by
 show ((co ns k:Int):Rat)=0;rw [Ae hk];rfl
def Sv (ns:cP) (k:Nat):co (dI ns) k=((k+1:Nat):Int)*co ns (k+1):=by
 by_cases h:k<ns.length - 1
 ·unfold dI;show ((List.range (ns.length - 1)).map _).getD k 0=_;rw [AT,Aj,DE h];rfl
 ·rw [Ae (by unfold dI;rw [AL,BK];omega),Ae (k:=k+1) ⋯,Int.mul_zero]
def xL (ns:cP):(dI ns).length=ns.length - 1:=by unfold dI;rw [AL,BK]
def xM (ns:cP):si (dI ns)=Sr.D (si ns):=Sr.ext' λk=>by
 show ((co (dI ns) k:Int):Rat)=((k:Rat)+1)*((co ns (k+1):Int):Rat);rw [Sv];push_cast;rfl
def Em {g:Int} (a:cP):si (a.map (g*·))=Sr.num (g:Rat)*si a:=Sr.ext' λk=>by
 rw [Sr.num_mul];show ((co (a.map (g*·)) k:Int):Rat)=(g:Rat)*((co a k:Int):Rat)
 have e:co (a.map (g*·)) k=g*co a k:=by
  unfold co;rw [AT,AT,Aj];cases a[k]? with
  | none=>simp
  | some z=>rfl
 rw [e];push_cast;rfl
namespace Sr
def num_num (x y:Rat):num x*num y=num (x*y):=ext' λk=>by
 rw [num_mul];show x*(y*Af k)=x*y*Af k;ext
def num_one:num 1=1:=congrArg num (show (1:Rat)=((1:Nat):Rat) by push_cast;rfl)
def num_inv {x:Rat} (h:x≠0):num x⁻¹*num x=1:=by
 rw [num_num,Et _ h];exact num_one
theorem mul_pow {f g:Sr}:∀ n:Nat,(f*g) ^ n=f ^ n*g ^ n
 | 0=>by rw [pow_z,pow_z,pow_z];ext
 | n+1=>by rw [pow_s,pow_s,pow_s,mul_pow n];ext
theorem num_pow (x:Rat):∀ n:Nat,num x ^ n=num (x ^ n)
 | 0=>by rw [pow_z,Rat.pow_zero];exact num_one.symm
 | n+1=>by rw [pow_s,num_pow x n,num_num,Rat.pow_succ]
end Sr
def Sw {x:Rat} (h:x≠0):x⁻¹≠0:=λz=>by
 have:=Et _ h;rw [z] at this;ext
def Sx {g f:cP} (m:MQ (co g) (co f)):∃ B,Sr.Pol B/\si f=B*si g:=by
 obtain ⟨c,a,A,h⟩:=m;have b:=Aq a;refine ⟨Sr.num ((c:Rat)⁻¹)*si A,(Sr.Pol.num _).mul (Cw A),?_⟩
 have e:Sr.num (c:Rat)*si f=si A*si g:=by
  rw [<-Em];refine Mj λk=>?_;rw [<-h k];unfold co;rw [AT,AT,Aj];cases f[k]? with
  | none=>simp
  | some z=>rfl
 have i:=Sr.num_inv b;have:si f=Sr.num ((c:Rat)⁻¹)*Sr.num (c:Rat)*si f:=by rw [i];ext
 rw [this,show Sr.num ((c:Rat)⁻¹)*Sr.num (c:Rat)*si f=Sr.num ((c:Rat)⁻¹)*(Sr.num (c:Rat)*si f) by ext,e];ext
def xN {r o g:cP} (R:RC (co r) (co o) g) {A B:Sr} (a:Sr.Pol A) (b:Sr.Pol B) (c:si r=A*si g) (f:si o=B*si g):Sr.Cs A B:=by
 obtain ⟨d,i,U,W,h⟩:=R.qi
 have e:Sr.num (d:Rat)*si g=si U*si r+si W*si o:=by
  rw [DN U,DN W,Sr.L_mul,Sr.L_mul];refine Sr.ext' λk=>?_;rw [Sr.num_mul];show (d:Rat)*((co g k:Int):Rat)=cvL _ (λk=>((co r k:Int):Rat)) k+cvL _ (λk=>((co o k:Int):Rat)) k;rw [<-Hm,<-Hm];exact_mod_cast h k
 have j:Sr.num (d:Rat)=si U*A+si W*B:=Sr.cancel (Sr.Pol.num _) (((Cw U).mul a).add ((Cw W).mul b)) (Cw g) (Hn R.lz) (by rw [e,c,f];ext);exact Sr.Cs.of_unit (Aq i) rfl (Cw U) (Cw W) j.symm
def DvI (a g:cP):Prop:=∃ A:cP,∀ k,co a k=cvL A (co g) k
def DvI.len {a g:cP} (h:DvI a g) (b:Lz a) (c:Lz g):g.length<=a.length:=Gs c b (by
 obtain ⟨A,d⟩:=h;exact ⟨1,∅,A,λk=>by rw [Int.one_mul];exact d k⟩)
def Ml {ns:cP} (h:Lz ns):sr (E_ ns)=Sr.num ((co ns (ns.length - 1):Rat))⁻¹*si ns:=Sr.ext' λk=>by
 rw [Sr.num_mul];exact D7 h k
def Dp {l:cJ} (h:AV l):sr l=Sr.num ((AY l:Rat))⁻¹*si (AJ l):=Sr.ext' λk=>by
 rw [Sr.num_mul];exact D6 h k
def K' {x y:Rat} (a:x≠0) (b:y≠0):x*y≠0:=λz=>by
 rcases Rat.mul_eq_zero.mp z with z | z
 ·exact a z
 ·exact b z
def Ho (l:cJ):Sr.Bn (sr l) l.length:=λk hk=>Bc hk
structure Mon (b:Nat) (R:cJ):Prop where
 gq:Gq b b R
 ne:R≠[]
 one:AR R (R.length - 1)=(1,1)
def Mon.top {b:Nat} {R:cJ} (h:Mon b R):(sr R).c (R.length - 1)=1/\Sr.Bn (sr R) (R.length - 1+1):=by
 have:=BD.mpr h.ne;exact ⟨EQ h.one,by rw [Nat.sub_add_cancel this];exact Ho R⟩
def KY {R:cJ} {Y:Sr} {n:Nat} (f:AV R) (g:Nz R) (e:sr R=Y) (i:Y.c n≠0) (j:Sr.Bn Y (n+1)):R≠[]/\R.length=n+1/\B_ R (R.length - 1)=Y.c n:=by
 have a:B_ R n=Y.c n:=sM (congrArg Sr.c e) n
 have b:n<R.length:=by
  rcases BF n R.length with h | h
  ·exact h
  ·exact absurd (a.symm.trans (Bc h)) i
 have c:R≠[]:=λz=>by rw [z] at b;simp at b
 have d:R.length=n+1:=by
  rcases BF (n+1) R.length with h | h
  ·have z:=Cv f g c;exact absurd ((sM (congrArg Sr.c e) (R.length - 1)).trans (j _ ⋯)) z
  ·omega
 exact ⟨c,d,by rw [d];exact a⟩
theorem xO:∀ (n:Nat) (D:cP),Lz D->(co D (D.length - 1)).natAbs<=n->∃ (g:Int) (P:cP),g≠0/\D=P.map (g*·)/\Prim P/\Lz P/\P.length=D.length:=by
 intro n
 induction n with
 | zero=>intro D l h;exact absurd (Int.natAbs_eq_zero.mp ⋯) l.2
 | succ n p=>
   intro D l h;by_cases d:Prim D
   ·exact ⟨1,D,∅,by simp,d,l,rfl⟩
   ·obtain ⟨c,f⟩:=Classical.not_forall.mp d;have a:∀ k,c∣co D k:=Classical.byContradiction λz=>f λy=>absurd y z;have q:c.natAbs≠1:=λz=>f λ_=>z;have j:c≠0:=λz=>l.2 (by have:=a (D.length - 1);rw [z] at this;exact Int.zero_dvd.mp this)
    have e:D=(D.map (·/ c)).map (c*·):=by
     rw [List.map_map];refine (List.map_id D).symm.trans (FT λz r=>?_);obtain ⟨i,u,rfl⟩:=List.getElem_of_mem r;have:=a i;unfold co at this;rw [AT,Aw u] at this;exact (GJ this).symm
    have b:(D.map (·/ c)).length=D.length:=AL ..
    have m:∀ k,co D k=c*co (D.map (·/ c)) k:=λk=>by
     have:=sM (congrArg Sr.c (Em (g:=c) (D.map (·/ c)))) k;rw [<-e,Sr.num_mul] at this;have this:((co D k:Int):Rat)=(c:Rat)*((co (D.map (·/ c)) k:Int):Rat):=this;exact_mod_cast this
    have o:Lz (D.map (·/ c)):=⟨by rw [b];exact l.1,λz=>l.2 (by rw [b] at z;rw [m,z,Int.mul_zero])⟩
    have v:(co (D.map (·/ c)) ((D.map (·/ c)).length - 1)).natAbs<=n:=by
     have w:=m (D.length - 1);rw [b];rw [w,By] at h;have G:(co (D.map (·/ c)) (D.length - 1)).natAbs≠0:=λz=>o.2 (by rw [b];exact Int.natAbs_eq_zero.mp z);have x:2<=c.natAbs:=by have:=Int.natAbs_pos.mpr j;omega
     have:=B8 (co (D.map (·/ c)) (D.length - 1)).natAbs x;omega
    obtain ⟨g,P,A,B,C,F,ll⟩:=p _ o v;refine ⟨c*g,P,Bg j A,?_,C,F,⋯⟩;rw [e,B,List.map_map];refine FT λz _=>?_;show c*(g*z)=c*g*z;ext
theorem Sy:∀ a:List Rat,∃ c:Int,c≠0/\∃ A:cP,∀ k,(c:Rat)*a.getD k 0=((A.getD k 0:Int):Rat)
 | []=>⟨1,∅,[],λk=>by simp⟩
 | x::a=>by
   obtain ⟨c,d,A,h⟩:=Sy a;have b:((x.den:Int))≠0:=by have:=x.den_pos;omega
   have f:(x.den:Rat)*x=(x.num:Rat):=by
    have g:(x.num:Rat) / ((x.den:Int):Rat)=x:=(Rat.divInt_eq_div x.num (x.den:Int)).symm.trans (Rat.num_divInt_den x);have i:=Aq b;have j:((x.den:Int):Rat)=(x.den:Rat):=rfl;rw [j] at g i;ext
   refine ⟨c*x.den,Bg d b,(c*x.num)::A.map (λz=>(x.den:Int)*z),λk=>?_⟩;cases k with
   | zero=>
     show ((c*x.den:Int):Rat)*x=((c*x.num:Int):Rat);push_cast;rw [Rat.mul_assoc,f]
   | succ k=>
     show ((c*x.den:Int):Rat)*a.getD k 0=(((A.map λz=>(x.den:Int)*z).getD k 0:Int):Rat)
     have e:(A.map λz=>(x.den:Int)*z).getD k 0=(x.den:Int)*A.getD k 0:=by
      rw [AT,AT,Aj];cases A[k]? <;> simp
     rw [e];have:=h k;push_cast at this ⊢;ext
def JC {f g:cP} {Y:Sr} (d:Sr.Pol Y) (e:si f=Y*si g):MQ (co g) (co f):=by
 obtain ⟨a,rfl⟩:=d;obtain ⟨c,i,A,h⟩:=Sy a;refine ⟨c,i,A,λk=>?_⟩
 have m:si A=Sr.num (c:Rat)*Sr.L a:=Sr.ext' λj=>by
  rw [Sr.num_mul];show ((A.getD j 0:Int):Rat)=(c:Rat)*cvL a Af j;rw [Dk];exact (h j).symm
 have b:Sr.num (c:Rat)*si f=si A*si g:=by rw [e,m];ext
 rw [DN A,Sr.L_mul] at b;have:=sM (congrArg Sr.c b) k;rw [Sr.num_mul] at this;have this:(c:Rat)*((co f k:Int):Rat)=cvL (A.map λz:Int=>(z:Rat)) (λk=>((co g k:Int):Rat)) k:=this;rw [<-Hm] at this;exact_mod_cast this
def Mm {l:cJ} (a:AV l) (b:Nz l) (c:l≠[]):∃ (x:Rat) (P:cP),x≠0/\sr l=Sr.num x*si P/\Prim P/\Lz P/\P.length=l.length:=by
 have d:Lz (AJ l):=DM (Ek a b) (λz=>c (CL.mp (by rw [<-Bv,z];rfl)));obtain ⟨g,P,f,e,h,i,j⟩:=xO _ _ d (AU _);refine ⟨((AY l:Rat))⁻¹*(g:Rat),P,K' (Sw (Aq (AW (Bj a).1))) (Aq f),?_,h,i,by rw [j,Bv]⟩;rw [Dp a,e,Em,<-Sr.num_num];ext
def Sz {P:cP} {d:Nat} (b:Lz P) (e:∀ k,Bd d (co P k)):Mon d (E_ P):=by
 have a:=b.2;refine ⟨El (FI b) (Hk b) (M:=((co P (P.length - 1)).natAbs:Int)) ⋯ ?_ (N:=λk=>if 0<co P (P.length - 1) then co P k else - co P k) (λk=>?_) (λk=>?_),?_,?_⟩
 ·show ((co P (P.length - 1)).natAbs:Int).natAbs<2 ^ d;rw [CN];exact e _
 ·rw [KO b];by_cases c:0<co P (P.length - 1)
  ·rw [sC c,Int.natAbs_of_nonneg ⋯]
  ·rw [sB c,show ((co P (P.length - 1)).natAbs:Int) = - co P (P.length - 1) by omega];have f:=Aq a;push_cast;ext
 ·split
  ·exact e k
  ·exact (e k).neg
 ·intro z;have g:(E_ P).length=0:=by rw [z];rfl
  rw [D5] at g;have:=b.1;omega
 ·refine FA (B9 (FI b) _) ⟨∅,∅⟩ ?_;show B_ (E_ P) _=_;rw [D5,KO b];have f:=Aq a;unfold val;show _=((1:Int):Rat) / ((1:Int):Rat);push_cast;ext
def xP {c:Nat} {p q:cJ} {x:Rat} (d:AV p) (f:Nz p) (m:p≠[]) (g:AR p (p.length - 1)=(1,1)) (b:Mon c q) (h:x≠0) (e:sr p=Sr.num x*sr q):p=q:=by
 have t:(Sr.num x*sr q).c (q.length - 1)=x:=by rw [Sr.num_mul,b.top.1];ext
 have i:Sr.Bn (Sr.num x*sr q) (q.length - 1+1):=λk hk=>by rw [Sr.num_mul,b.top.2 k hk];ext
 obtain ⟨_,len,a⟩:=KY d f e (by rw [t];exact h) i;have j:x=1:=by rw [<-t,<-a,EQ g]
 rw [j,Sr.num_one] at e;exact Mi d b.gq.low f b.gq.nz (by rw [e];ext)
def S3 {R:cP} {Y:Sr} {n:Nat} (l:Lz R) (e:si R=Y) (c:Y.c n≠0) (d:Sr.Bn Y (n+1)):R.length=n+1/\((co R (R.length - 1):Int):Rat)=Y.c n:=by
 have a:((co R n:Int):Rat)=Y.c n:=sM (congrArg Sr.c e) n
 have f:n<R.length:=by
  rcases BF n R.length with h | h
  ·exact h
  ·rw [Ae h] at a;exact absurd a.symm c
 have b:R.length=n+1:=by
  rcases BF (n+1) R.length with h | h
  ·have z:((co R (R.length - 1):Int):Rat)=0:=(sM (congrArg Sr.c e) (R.length - 1)).trans (d _ ⋯);exact absurd (by exact_mod_cast z) l.2
  ·omega
 exact ⟨b,by rw [b];exact a⟩
def S6 {T B:cJ} {N D:cP} {b n e:Nat} (h:Lw T B) (g:Lz D) (tN:Tz N) (R:∀ z∈N,Bd b z) (S:∀ z∈D,Bd b z) (n1:N.length<=n) (n2:D.length<=n) (X:n<2 ^ e) (Z:sr T*si D=si N*sr B) :
  Gq (b+(b+n*(2*e+4))) (b+(b+n*(2*e+4))) T/\Gq (b+n*(2*e+4)) (b+n*(2*e+4)) B/\T.length<=N.length/\B.length<=D.length:=by
 obtain ⟨U,W,pU,pW,h1⟩:=h.cs
 have o:si D=(U*si N+W*si D)*sr B:=by
  have:si D=(U*sr T+W*sr B)*si D:=by rw [h1];ext
  calc si D=(U*sr T+W*sr B)*si D:=this
   _=U*(sr T*si D)+W*sr B*si D:=by ext
   _=_:=by rw [Z];ext
 generalize hY:U*si N+W*si D=Y at o;have p:Sr.Pol Y:=by rw [<-hY];exact (pU.mul (Cw N)).add (pW.mul (Cw D))
 obtain ⟨x,P,x0,eB,pP,i,pl⟩:=Mm h.lb h.nb h.ne;obtain ⟨A,hA⟩:=O' pP (JC (p.mul (Sr.Pol.num x)) (show si D=Y*Sr.num x*si P by rw [o,eB];ext));have gl:P.length<=D.length:=DvI.len ⟨A,hA⟩ g i;have bP:∀ k,Bd (b+n*(2*e+4)) (co P k):=Ip S ⟨_,g.2⟩ n2 ⋯ X hA
 have hB:B=E_ P:=by
  have mB:Mon (b+n*(2*e+4)) (E_ P):=Sz i bP;have x1:x*(co P (P.length - 1):Rat)≠0:=K' x0 (Aq i.2);refine xP h.lb h.nb h.ne h.one mB x1 ?_;rw [eB,Ml i,<-Sr.num_num]
  have iP:Sr.num (co P (P.length - 1):Rat)*Sr.num ((co P (P.length - 1):Rat))⁻¹=1:=by
   have:=Sr.num_inv (Aq i.2);ext
  ext
 have C:Gq (b+n*(2*e+4)) (b+n*(2*e+4)) B:=by rw [hB];exact (Sz i bP).gq
 have lB:B.length<=D.length:=by rw [hB,D5];exact gl
 have B0:=Bw h.lb h.nb h.ne
 have F:si N=Y*sr T:=by
  refine Sr.cancel (Cw N) (p.mul (AM T)) (AM B) B0 ?_;rw [<-Z,show sr T*si D=sr T*(Y*sr B) from congrArg _ o];ext
 by_cases G:T=[]
 ·subst G;refine ⟨⟨h.lt,h.nt,1,⟨∅,(λ_ h=>nomatch h)⟩,cy (by show 1<2 ^ _;exact Nat.one_lt_two_pow (by have:=g.1;have:0<n*(2*e+4):=Nat.mul_pos ⋯ ⋯;omega)),(λ_ h=>nomatch h)⟩,C,Ai _,lB⟩
 have D0:=Hn g;have Y0:Y≠0:=λz=>D0 (by rw [o,z];ext);have TT:=Bw h.lt h.nt G;have N0:si N≠0:=by rw [F];exact Sr.ne_mul p (AM T) Y0 TT
 have Nn:N≠[]:=λz=>N0 (by rw [z,DN []];exact Sr.L_nil);have I:Lz N:=DM tN Nn;obtain ⟨y,a,y0,J,pQ,v,ql⟩:=Mm h.lt h.nt G;obtain ⟨A2,u⟩:=O' pQ (JC (p.mul (Sr.Pol.num y)) (show si N=Y*Sr.num y*si a by rw [F,J];ext));have a0:a.length<=N.length:=DvI.len ⟨A2,u⟩ I v;have bQ:∀ k,Bd (b+n*(2*e+4)) (co a k):=Ip R ⟨_,I.2⟩ n1 ⋯ X u;obtain ⟨m,hm⟩:=p.bn;rcases Sr.top_ex m hm with z | ⟨j,_,j0,jb⟩
 ·exact absurd z Y0
 have MB:Mon (b+n*(2*e+4)) B:=⟨C,h.ne,h.one⟩;have w:=Sr.top_mul jb MB.top.2;rw [MB.top.1] at w;obtain ⟨_,dD⟩:=S3 g o (n:=j+(B.length - 1)) (by rw [w.1];intro z;exact j0 ()) w.2;rw [w.1] at dD;have L:Sr.Bn (si a) (a.length - 1+1):=by rw [Nat.sub_add_cancel v.1];exact xK a
 have d:=Sr.top_mul (f:=Y*Sr.num y) (m:=j) (λk hk=>by rw [show Y*Sr.num y=Sr.num y*Y by ext,Sr.num_mul,jb k hk];ext) L;have cY:(Y*Sr.num y).c j=y*Y.c j:=by rw [show Y*Sr.num y=Sr.num y*Y by ext,Sr.num_mul]
 rw [cY] at d;have O:(si a).c (a.length - 1)=(co a (a.length - 1):Rat):=rfl;rw [O] at d;have q1:=Aq v.2;obtain ⟨_,dN⟩:=S3 I (show si N=Y*Sr.num y*si a by rw [F,J];ext) (n:=j+(a.length - 1)) (by rw [d.1];exact K' (K' y0 j0) q1) d.2;rw [d.1] at dN;have d1:=Aq g.2;have mz:co D (D.length - 1)*co a (a.length - 1)≠0:=Bg g.2 v.2;have bm:Bd (b+(b+n*(2*e+4))) (co D (D.length - 1)*co a (a.length - 1)):=Bd.mul (Dd S _) (bQ _);have bt:∀ k,Bd (b+(b+n*(2*e+4))) (co N (N.length - 1)*co a k):=λk=>Bd.mul (Dd R _) (bQ k)
 have pT:∀ k,B_ T k=((co N (N.length - 1)*co a k:Int):Rat) / ((co D (D.length - 1)*co a (a.length - 1):Int):Rat):=λk=>by
  have e1:B_ T k=y*((co a k:Int):Rat):=by
   have:=sM (congrArg Sr.c J) k;rw [Sr.num_mul] at this;exact this
  rw [e1];push_cast;rw [dN,dD];generalize ((co a (a.length - 1):Int):Rat)=q at *;generalize ((co a k:Int):Rat)=r at *;ext
 refine ⟨El h.lt h.nt (M:=((co D (D.length - 1)*co a (a.length - 1)).natAbs:Int)) ⋯ ?_ (N:=λk=>if 0<co D (D.length - 1)*co a (a.length - 1) then co N (N.length - 1)*co a k else - (co N (N.length - 1)*co a k)) (λk=>?_) (λk=>?_),C,⋯,lB⟩
 ·show ((co D (D.length - 1)*co a (a.length - 1)).natAbs:Int).natAbs<2 ^ _;rw [CN];exact bm
 ·rw [pT k];generalize co D (D.length - 1)*co a (a.length - 1)=M at *;generalize co N (N.length - 1)*co a k=r at *;by_cases c:0<M
  ·rw [sC c,Int.natAbs_of_nonneg ⋯]
  ·rw [sB c,show (M.natAbs:Int) = - M by omega];have c1:=Aq mz;push_cast;ext
 ·split
  ·exact bt k
  ·exact (bt k).neg
def En {T B:cJ} {N D:Sr} (h:Lw T B) (a:Sr.Pol N) (b:Sr.Pol D) (c:sr T*D=N*sr B):∃ Y,Sr.Pol Y/\D=Y*sr B/\N=Y*sr T:=by
 obtain ⟨U,W,d,e,g⟩:=h.cs
 have f:D=(U*N+W*D)*sr B:=by
  have:D=(U*sr T+W*sr B)*D:=by rw [g];ext
  calc D=(U*sr T+W*sr B)*D:=this
   _=U*(sr T*D)+W*sr B*D:=by ext
   _=_:=by rw [c];ext
 refine ⟨U*N+W*D,(d.mul a).add (e.mul b),f,?_⟩;refine Sr.cancel a (((d.mul a).add (e.mul b)).mul (AM T)) (AM B) (Bw h.lb h.nb h.ne) ?_;rw [<-c,show sr T*D=sr T*((U*N+W*D)*sr B) from congrArg _ f];ext
def JD {l:cJ} {N:cP} {Y:Sr} {b n e:Nat} (f:AV l) (c:Lz N) (h:∀ z∈N,Bd b z) (i:N.length<=n) (j:n<2 ^ e) (k:Sr.Pol Y) (m:si N=Y*sr l):Fp (b+n*(2*e+4)) (AJ l):=λg o p q=>by
 obtain ⟨r,a,u⟩:=Sx q;obtain ⟨A,d⟩:=O' p (JC ((k.mul (Sr.Pol.num _)).mul a) (show si N=Y*Sr.num ((AY l:Rat))⁻¹*r*si g by rw [m,Dp f,u];ext));have v:g.length<=N.length:=DvI.len ⟨A,d⟩ c o;exact Ip h ⟨_,c.2⟩ i ⋯ j d
def Fp.mono {x y:Nat} {ns:cP} (h:Fp x ns) (e:x<=y):Fp y ns:=λg a b c k=>(h g a b c k).mono e
def KZ {l:cJ} (a:AV l) (b:Nz l) (c:l≠[]):Lz (AJ l):=DM (Ek a b) λz=>c (CL.mp (by rw [<-Bv,z];rfl))
def Mn {b c n e:Nat} {l:cJ} (G:Gq b c l) (f:l≠[]) (h:l.length<=n) (i:n<2 ^ e):Fp (b+n*(2*e+4)) (AJ l):=λg j k a=>by
 have d:=KZ G.low G.nz f;obtain ⟨A,m⟩:=O' k a;have o:g.length<=l.length:=by have:=Gs j d a;rw [Bv] at this;exact this
 exact Ip G.clr.1 ⟨_,d.2⟩ (by rw [Bv];exact h) ⋯ i m
def Mo {x:Nat} {l m:cJ} {Y:Sr} (c:AV l) (b:AV m) (d:Sr.Pol Y) (e:sr m=Y*sr l) (h:Fp x (AJ m)):Fp x (AJ l):=λg f j k=>by
 obtain ⟨q,a,n⟩:=Sx k;refine h g f j (JC (((Sr.Pol.num (AY m:Rat)).mul d).mul ((Sr.Pol.num ((AY l:Rat))⁻¹).mul a)) ?_);have i:=Sr.num_inv (Aq (AW (Bj b).1));have o:=Dp b;have p:si (AJ m)=Sr.num (AY m:Rat)*sr m:=by rw [o];ext
 rw [p,e,Dp c,n];ext
def Rp.facts {b n m e:Nat} {T B:cJ} (h:Rp b n m T B) (o:n<2 ^ e) (p:m<2 ^ e) :
  Gq (b+(b+max n m*(2*e+4))) (b+(b+max n m*(2*e+4))) T/\Gq (b+max n m*(2*e+4)) (b+max n m*(2*e+4)) B/\T.length<=n/\B.length<=m/\(T≠[]->Fp (b+n*(2*e+4)) (AJ T))/\Fp (b+m*(2*e+4)) (AJ B):=by
 obtain ⟨N,D,a,d,f,g,nN,q,i⟩:=h.rp;obtain ⟨r,u,x,y⟩:=S6 h.lw a d f g (show N.length<=max n m by omega) (show D.length<=max n m by omega) (show max n m<2 ^ e by omega) i;obtain ⟨Y,c,j,k⟩:=En h.lw (Cw N) (Cw D) i;refine ⟨r,u,⋯,⋯,λv=>?_,JD h.lw.lb a g q p c j⟩;refine JD h.lw.lt (DM d λz=>?_) f nN o c k;have w:Y≠0:=λz=>Hn a (by rw [j,z];ext);have:=Sr.ne_mul c (AM T) w (Bw h.lw.lt h.lw.nt v);exact this (by rw [<-k,z,DN []];exact Sr.L_nil)
def C0.dd {x n m e:Nat} (h:C0 x n m e):x*2<=44490/\∀ y,y<=n+m->y*(x+1)<=44490/\y*x<=44490:=by
 have c:=h.lu;have d:=h.n1;have f:=h.m1
 have k:∀ y,y<=n+m->y*(x+1)<=44490/\y*x<=44490:=λy a=>by
  have b:y*(x+1)<=(n+m)*(x+e+2):=BN a ⋯;have g:y*x<=y*(x+1):=C5 _ ⋯;rw [C3 (n+m)] at b;omega
 exact ⟨by have:=(k 2 ⋯).2;omega,k⟩
def C0.ml {x n m e:Nat} (h:C0 x n m e):max n m<2 ^ e/\max n m*(2*e+4)<=960:=by
 have:=h.ne;have:=h.me;have:=h.n60;have:=h.m60;have:=h.e6;have:max n m*(2*e+4)<=60*16:=BN ⋯ ⋯;exact ⟨⋯,this⟩
def Hr {m:cJ} {g:cP} {x:Nat} (e:AV m) (f:Nz m) (h:m≠[]) (F:Fp x (AJ m)) (a:Lz g) (c:MQ (co g) (co (AJ m))) (P:Prim g) :
  Gq x x (E_ g)/\E_ g≠[]/\(E_ g).length<=m.length/\MR (B_ (E_ g)) (B_ m)/\(∀ k,Bd x (co g k))/\B_ (E_ g) ((E_ g).length - 1)=1:=by
 have d:=KZ e f h;have i:g.length<=m.length:=by have:=Gs a d c;rw [Bv] at this;exact this
 have b:=F g a P c;refine ⟨⟨FI a,Hk a,_,(I0 a.2 (Ix b)).1,(b (g.length - 1)).le ⋯,(I0 a.2 (Ix b)).2⟩,BD.mp (by rw [D5];exact a.1),by rw [D5];exact i,MR.of (FJ a) (D6 e) (D7 a) c,b,EQ ?_⟩;rw [D5];exact Sg a
def xQ (h:Do K vs H Q E):Qx K { nx:=λ_ H'=>Q .non H',rt:=Q } (L2.start ["P","Q","shared"] vs) H:=by
 obtain ⟨p,q,l,m,b,D,n,I,e,rfl,⟨xs,hp,hN⟩,⟨ys,f,hM⟩,Gl,w,m0,ln,mn,a7,X,Z,b9,k⟩:=h;obtain ⟨D9,zz⟩:=Z.dd;obtain ⟨Y,b4⟩:=Z.ml;have b5:=Z.n60;have b6:=Z.m60;have b7:=Z.n1;have b8:=Z.m1;have ba:=Z.ne;have bb:=Z.me;unfold Qx;rwa [hp,f];refine ⟨l,hN,m,hM,b,b,Gl,w,⋯,⋯,⋯,⋯,D,λl0 _=>⟨a7 l0,X⟩,e,by rw [CI];omega,n+I,⋯,⋯,Z.lu,λ_ z=>absurd z m0,λ_ g R P r zs H1 s1 hr hz=>?_⟩;have j:=R.lz;have a8:Lz (AJ m):=DM (Ek w.low w.nz) λz=>m0 (CL.mp (by rw [<-Bv,z];rfl));have gl:g.length<=m.length:=by have:=Gs j a8 R.right;rwa [Bv] at this
 have bg:=X g j P R.right;have Gg:Gq D D (E_ g):=⟨FI j,Hk j,_,(I0 j.2 (Ix bg)).1,(bg (g.length - 1)).le ⋯,(I0 j.2 (Ix bg)).2⟩;have g0:E_ g≠[]:=BD.mp (by rw [D5];exact j.1);have M1:MR (B_ (E_ g)) (B_ l):=MR.of (FJ j) (D6 Gl.low) (D7 j) R.left;have M2:MR (B_ (E_ g)) (B_ m):=MR.of (FJ j) (D6 w.low) (D7 j) R.right;have a9:=s1 _ _ hp;rwa [hr,a9];have bc:0<(E_ g).length:=BD.mpr g0;have e1:=(zz (l.length+1 - (E_ g).length) ⋯).1;have e2:=(zz (l.length+1 - (E_ g).length) ⋯).2;refine ⟨l,hN.tp (D_ s1),E_ g,hz,b,b,Gl,D,D,Gg,g0,⋯,by rw [D5];omega,⋯,⋯,⋯,⋯,M1,λr0 o H2 s2 ⟨ab,h0,n0⟩ x ac J L=>?_⟩;obtain ⟨A0,ah,aj⟩:=Mf Gl.low x Gl.clr.1 (show l.length<=max n I by omega) Y j P R.left L;have G0:Gq (D+(b+max n I*(2*e+4))) b o:=El x ac (Bj Gl.low).1 Gl.clr.2.1 (N:=λk=>co g (g.length - 1)*co A0 k) (λk=>by rw [aj,Rat.div_def];push_cast;rfl) λk=>Bd.mul (bg _) (ah k)
 have C:∀ q∈o,Bd (D+(b+max n I*(2*e+4))) q.1/\Bd b q.2:=λq f=>⟨G0.clr.2.2 q f,by
  obtain ⟨M,O,bM,_⟩:=G0.ov;exact DH (AW O.1) (O.2 q f) bM⟩
 have S:=s1.trans s2;have al:=S _ _ f;have am:=s2 _ _ hr;rwa [al,am];have e1:=(zz (m.length+1 - (E_ g).length) ⋯).1;have e2:=(zz (m.length+1 - (E_ g).length) ⋯).2;refine ⟨m,hM.tp (D_ S),E_ g,hz.tp (D_ s2),b,b,w,D,D,Gg,g0,⋯,by rw [D5];omega,⋯,⋯,⋯,⋯,M2,λr1 d H3 s3 ⟨an,h1,n1⟩ y a0 ao A=>?_⟩;obtain ⟨A1,ar,b0⟩:=Mf w.low y w.clr.1 (show m.length<=max n I by omega) Y j P R.right A
 have a1:d≠[]:=λz=>by
  have:=A (m.length - 1);rw [z] at this;exact Cv w.low w.nz m0 this
 have G1:Gq (D+(b+max n I*(2*e+4))) b d:=El y a0 (Bj w.low).1 w.clr.2.1 (N:=λk=>co g (g.length - 1)*co A1 k) (λk=>by rw [b0,Rat.div_def];push_cast;rfl) λk=>Bd.mul (bg _) (ar k);have p1:0<d.length:=BD.mpr a1
 have a2:∀ q∈d,Bd (D+(b+max n I*(2*e+4))) q.1/\Bd b q.2:=λq f=>⟨G1.clr.2.2 q f,by
  obtain ⟨M,O,bM,_⟩:=G1.ov;exact DH (AW O.1) (O.2 q f) bM⟩
 have l0:=J;refine ⟨o,⟨ab,s3 _ _ h0,n0.tp (D_ s3)⟩,d,⟨an,h1,n1⟩,x,y,a0,a1,λq f=>⟨(C q f).1.mono ⋯,(C q f).2.mono ⋯⟩,λq f=>⟨(a2 q f).1.mono ⋯,(a2 q f).2.mono ⋯⟩,⋯,⋯,λc fl fv t u v H4 s4 ht ⟨us,hu,nu⟩ ⟨vs,hv,nv⟩=>?_⟩;generalize b1:AR d (d.length - 1)=la at fv;have F:=Mh (a:=c.1) x fl.pos;have G:=Mh (a:=c.1) y fl.pos;have eT:∀ k,B_ (trim (o.map λq=>G_ q (c.1,c.2))) k=val c*B_ o k:=λk=>(Fo F k).trans (Mg x fl.pos k);have eB:∀ k,B_ (trim (d.map λq=>G_ q (c.1,c.2))) k=val c*B_ d k:=λk=>(Fo G k).trans (Mg y fl.pos k);have a3:(trim (o.map λq=>G_ q (c.1,c.2))).length<=o.length:=A7 (EL _) (by rw [AL];exact AU _);have a4:(trim (d.map λq=>G_ q (c.1,c.2))).length<=d.length:=A7 (EL _) (by rw [AL];exact AU _);have lT:AV (trim (o.map λq=>G_ q (c.1,c.2))):=λq f=>F q (Cq f);have lB:AV (trim (d.map λq=>G_ q (c.1,c.2))):=λq f=>G q (Cq f);have nT:=EK (o.map λq=>G_ q (c.1,c.2));have nB:=EK (d.map λq=>G_ q (c.1,c.2));generalize trim (o.map λq=>G_ q (c.1,c.2))=T at nu eT a3 lT nT;generalize trim (d.map λq=>G_ q (c.1,c.2))=B at nv eB a4 lB nB;have s0:val c≠0:=λz=>by rw [z] at fv;ext
 have b2:B_ d (d.length - 1)=val la:=by unfold B_;rw [b1]
 have tB:B_ B (d.length - 1)=1:=by rw [eB,b2];exact fv
 have a5:B.length=d.length:=by
  rcases BF (d.length - 1) B.length with z | z
  ·omega
  ·rw [Bc z] at tB;exact absurd tB ∅
 obtain ⟨U,W,eU⟩:=yY Gl.low w.low R;have a6:B_ (E_ g) ((E_ g).length - 1)≠0:=Cv (FI j) (Hk j) g0;have c0:∀ k,B_ l k=cvL (rw' o) (B_ (E_ g)) k:=λk=>(L k).trans (KS _ _ _);have c1:∀ k,B_ m k=cvL (rw' d) (B_ (E_ g)) k:=λk=>(A k).trans (KS _ _ _);have b3:=(S.trans s3).trans s4;refine k t H4 T B b3 ⟨u,v,ht,⟨us,hu,nu⟩,⟨vs,hv,nv⟩⟩ ⟨lT,lB,nT,nB,BD.mp ⋯,?_,sr_cop.mp ?_⟩ ?_
 ·refine FA (B9 lB _) Gu ?_;have:val ((1:Int),(1:Int))=1:=by unfold val;show ((1:Int):Rat) / ((1:Int):Rat)=1;rw [show ((1:Int):Rat)=1 from rfl];ext
  rw [this,a5];exact tB
 ·exact (yW (t:=rw' o) (b:=rw' d) (KR o) (KR d) a6 (λi hi=>Bc ⋯) c0 c1 eU).scal s0 eT eB
 ·have e1:sr T=Sr.num (val c)*sr o:=Sr.ext' λk=>by rw [Sr.num_mul];exact eT k
  have e2:sr B=Sr.num (val c)*sr d:=Sr.ext' λk=>by rw [Sr.num_mul];exact eB k
  rw [e1,e2,CA L,CA A];ext
structure Al (b n m e:Nat) (T B:cJ):Prop where
 lw:Lw T B
 gt:Gq (2*b+960) (2*b+960) T
 gb:Gq (2*b+960) (2*b+960) B
 tn:T.length<=n
 bm:B.length<=m
 ft:T≠[]->Fp (b+n*(2*e+4)) (AJ T)
 fb:Fp (b+m*(2*e+4)) (AJ B)
def Rp.all {b n m e:Nat} {T B:cJ} (h:Rp b n m T B) (a:n<2 ^ e) (c:m<2 ^ e) (d:n<=60) (f:m<=60) (q:e<=6):Al b n m e T B:=by
 obtain ⟨g,i,j,k,o,p⟩:=h.facts a c;have:max n m*(2*e+4)<=60*16:=BN ⋯ ⋯;exact ⟨h.lw,g.mono ⋯ ⋯,i.mono ⋯ ⋯,j,k,o,p⟩
def xR (b n m e:Nat):b+n*(2*e+4)<=b+max n m*(2*e+4):=Nat.add_le_add_left (B8 _ ⋯) _
def xS (b n m e:Nat):b+m*(2*e+4)<=b+max n m*(2*e+4):=Nat.add_le_add_left (B8 _ ⋯) _
def S7 {T B:cJ} {b n e:Nat} {l m:cJ} (h:Lw T B) (Gl:Gq b b l) (a:Gq b b m) (j:m≠[]) (k:l.length<=n) (o:m.length<=n) (p:n<2 ^ e) (G:sr T*sr m=sr l*sr B) :
  Gq (2*b+(2*b+n*(2*e+4))) (2*b+(2*b+n*(2*e+4))) T/\Gq (2*b+(2*b+n*(2*e+4))) (2*b+(2*b+n*(2*e+4))) B/\T.length<=l.length/\B.length<=m.length:=by
 have f:=Gl.clr;have g:=a.clr;have q:=Aq (AW (Bj Gl.low).1);have r:=Aq (AW (Bj a.low).1)
 have u:∀ z∈(AJ l).map (AY m*·),Bd (2*b) z:=λz c=>by
  obtain ⟨y,d,rfl⟩:=BG.mp c;exact ((g.2.1).mul (f.1 y d)).mono ⋯
 have v:∀ z∈(AJ m).map (AY l*·),Bd (2*b) z:=λz c=>by
  obtain ⟨y,d,rfl⟩:=BG.mp c;exact ((f.2.1).mul (g.1 y d)).mono ⋯
 have i:=KZ a.low a.nz j;have w:=(Bj Gl.low).1;have x:=(Bj a.low).1;have A:Lz ((AJ m).map (AY l*·)):=⟨by rw [AL];exact i.1,by rw [AL,Ej];exact Bg (AW w) i.2⟩
 have C:Tz ((AJ l).map (AY m*·)):=by
  rcases Ek Gl.low Gl.nz with h | h
  ·left;rw [h];rfl
  ·right;rw [AL,Ej];exact Bg (AW x) h
 have I:=Sr.num_inv q;have J:=Sr.num_inv r;have D:si (AJ l)=Sr.num (AY l:Rat)*sr l:=by rw [Dp Gl.low];ext
 have F:si (AJ m)=Sr.num (AY m:Rat)*sr m:=by rw [Dp a.low];ext
 have:=S6 h A C u v (by rw [AL,Bv];exact k) (by rw [AL,Bv];exact o) p (by rw [Em,Em,D,F];ext);rw [AL,AL,Bv,Bv] at this;exact ⟨this.1,this.2.1.mono ⋯ ⋯,this.2.2.1,this.2.2.2⟩
def Mp {P A C:cJ} (a:AV P) (c:Nz P) (d:AV A) (e:Nz A) (f:A≠[]) (g:AR A (A.length - 1)=(1,1)) (i:AV C) (j:Nz C) (C0:C≠[]) (m:AR C (C.length - 1)=(1,1)) (h:∀ k,B_ P k=cv (B_ A) (B_ C) A.length k):P≠[]/\AR P (P.length - 1)=(1,1):=by
 obtain ⟨_,b,n⟩:=Gw a c d e f i j C0 h;rw [EQ g,EQ m] at b;exact ⟨n,KU a (by rw [b];ext)⟩
def xT {a b c d:Sr} (f:Sr.Pol a) (g:Sr.Pol b) (e:Sr.Pol c) (h:Sr.Pol d) (i:Sr.Cs a c) (j:Sr.Cs a d) (k:Sr.Cs b c) (m:Sr.Cs b d):Sr.Cs (a*b) (c*d):=by
 have n:=(i.mul f e j).comm;have o:=(k.mul g e m).comm;exact (n.mul (e.mul h) f o).comm
def Lw.bot {T B:cJ} (h:Lw T B) (a:cJ) (b:AV a) (d:Nz a) (c:Sr.Cs (sr a) (sr B)):Lw a B:=⟨b,h.lb,d,h.nb,h.ne,h.one,c⟩
def xU (h:HY K vs H Q E):Q5 K { nx:=λ_ H'=>Q .non H',rt:=Q } (L2.start ["F","G","one","other"] vs) H:=by
 obtain ⟨p,q,T,B,T',F,x,n,m,x',N,O,e,rfl,⟨u,v,hp,Pu,Pv⟩,⟨u',v',hq,P,R⟩,S,R2,f,g,i,j,tn,U,W,bm,fT,a0,a3,fB,Z,G,k⟩:=h;have bb:=Z.n60;have bc:=Z.m60;have b8:=G.n60;have b9:=G.m60;obtain ⟨a4,bd⟩:=Z.ml;obtain ⟨o,ba⟩:=G.ml;unfold Q5;rwa [hp,hq];refine ⟨T,Pu,F,R,_,f,j,R2.ne,x,n,tn,O,U,fT,a0,e,Z,⋯,λt1 H1 I Q1 r ⟨a1,d1,h1,a5,a6⟩ L1 b=>?_⟩;have a7:=r _ _ hp;have a8:=r _ _ hq;unfold Q4;rwa [a7,a8];refine ⟨T',P.same r,B,Pv.same r,_,i,g,S.ne,x',N,W,m,bm,a3,fB,e,G,⋯,λt2 H2 J Q2 L ⟨a2,d2,h2,a9,ab⟩ a c=>?_⟩;obtain ⟨g1,ac,l1,bf⟩:=S7 L1 f j R2.ne (show _<=max n O by omega) (show _<=max n O by omega) a4 b;obtain ⟨g2,ah,l2,bg⟩:=S7 a i g S.ne (show _<=max N m by omega) (show _<=max N m by omega) o c;have y:=L _ _ h1;obtain ⟨bi,aj,al⟩:=a5.same L;obtain ⟨bj,am,an⟩:=a6.same L;obtain ⟨bk,ao,ar⟩:=a9;obtain ⟨bl,b0,b1⟩:=ab;unfold Q3;rwa [y,h2,aj,ao];refine ⟨I,al,J,ar,_,_,g1,_,_,g2,⋯,⋯,⋯,⋯,⋯,⋯,λr3 X H3 d PX GX lX eX=>?_⟩;have b2:=d _ _ y;have b3:=d _ _ h2;have z:=d _ _ am;have A:=d _ _ b0;rwa [b2,b3,z,A];refine ⟨Q1,an.tp (D_ d),Q2,b1.tp (D_ d),_,_,ac,_,_,ah,⋯,⋯,⋯,⋯,⋯,⋯,λr4 Y H4 s4 PY M lY eY=>⟨sz ∅,λw hw=>?_⟩⟩;have s5:=AO hw (.tup [.ref r3,.ref r4]);obtain ⟨Y0,oY⟩:=Mp M.low M.nz L1.lb L1.nb L1.ne L1.one a.lb a.nb a.ne a.one eY;have o1:=CA eX;have o2:=CA eY;obtain ⟨f1,C,b4,b5⟩:=En L1 (AM T) (AM F) b;obtain ⟨f2,D,b6,b7⟩:=En a (AM T') (AM B) c;have c1:Sr.Cs (sr I) (sr Q2):=((S.cs.comm.dvd C b5).comm).dvd D b6;have c2:Sr.Cs (sr J) (sr Q1):=((R2.cs.comm.dvd D b7).comm).dvd C b4;refine k w _ X Y (((r.trans L).trans d).trans (s4.trans s5)) ⟨r3,r4,upd_same,(PX.same s4).same s5,PY.same s5⟩ ⟨GX.low,M.low,GX.nz,M.nz,Y0,oY,?_⟩ ?_
 ·rw [o1,o2];exact xT (AM _) (AM _) (AM _) (AM _) L1.cs c1 c2 a.cs
 ·rw [o1,o2];have:sr I*sr J*(sr B*sr F)=(sr I*sr F)*(sr J*sr B):=by ext
  rw [this,b,c];ext
def Mq {F:dh} {w x:Nat} (a:∀ k,w<=k->F k=0) (f:∀ k,Bd x (F k)):∃ Z:cP,Tz Z/\(∀ k,co Z k=F k)/\(∀ z∈Z,Bd x z)/\Z.length<=w:=by
 have b:∀ k,co ((List.range w).map F) k=F k:=λk=>by
  unfold co;rw [AT,Aj];rcases BF k w with c | c
  ·rw [DE c];rfl
  ·rw [CC (by rw [BK];exact c)];exact (a k c).symm
 rcases D3 ((List.range w).map F) with z | ⟨g,j,d,e⟩
 ·exact ⟨[],.inl rfl,λk=>by rw [<-b,z];exact Ae (Ai _),(λ_ h=>nomatch h),Ai _⟩
 ·refine ⟨g,.inr j.2,λk=>(e k).trans (b k),λz a=>?_,by rw [AL,BK] at d;exact d⟩;obtain ⟨i,m,rfl⟩:=List.getElem_of_mem a;have:co g i=g[i]:=by unfold co;rw [AT,Aw m];rfl
  rw [<-this,e,b];exact f i
def S8 {N D:cP} {b d n e:Nat} (a:∀ z∈N,Bd b z) (c:∀ z∈D,Bd d z) (i:N.length<=n) (j:n<2 ^ e) (k:Nat):Bd (b+d+e) (cvL N (co D) k):=by
 have h:=KL (h:=2 ^ d) (q:=2 ^ b) (λk=>EB (Dd c k)) N (λz f=>EB (a z f)) k;have g:0<2 ^ b*2 ^ d:=Nat.mul_pos (Nat.pow_pos ∅) (Nat.pow_pos ∅);have m:N.length*(2 ^ b*2 ^ d)<2 ^ e*(2 ^ b*2 ^ d):=Nat.mul_lt_mul_of_pos_right ⋯ g;unfold Bd;rw [Nat.pow_add,Nat.pow_add,C3 (2 ^ b*2 ^ d)];omega
def S9 {N D:cP} {n m k:Nat} (b:N.length<=n) (dl:D.length<=m) (h:n+m<=k+1):cvL N (co D) k=0:=EM (n:=D.length) (λi a=>Ae a) N k ⋯
def xV {N D a c:cP} {b b' n m d j e w:Nat} {s:Int} (u:s=1\/s = -1) (v:∀ z∈N,Bd b z) (y:∀ z∈D,Bd b z) (f:∀ z∈a,Bd b' z) (g:∀ z∈c,Bd b' z) (o:N.length<=n) (A:D.length<=m) (p:a.length<=d) (B:c.length<=j) (C:n<2 ^ e) (i:d<2 ^ e) (L:n+j<=w+1) (M:d+m<=w+1) :
  ∃ Z:cP,Tz Z/\si Z=si N*si c+Sr.num (s:Rat)*si a*si D/\(∀ z∈Z,Bd (b+b'+e+1) z)/\Z.length<=w:=by
 obtain ⟨Z,t,h,G,l⟩:=Mq (F:=λk=>cvL N (co c) k+s*cvL a (co D) k) (w:=w) (x:=b+b'+e+1) (λk hk=>by rw [S9 o B ⋯,S9 p A ⋯];omega) (λk=>by
  have q:=S8 v g o C k;have r:=(S8 f y p i k).mono (show b'+b+e<=b+b'+e by omega);rcases u with z | z
  ·rw [z,Int.one_mul];exact q.add r
  ·rw [z,show cvL N (co c) k + -1*cvL a (co D) k=cvL N (co c) k - cvL a (co D) k by omega];exact q.sub r)
 refine ⟨Z,t,Sr.ext' λk=>?_,G,l⟩;have I:(si N*si c).c k=((cvL N (co c) k:Int):Rat):=by rw [<-Mj (IW N c)];show ((co (Bk N c) k:Int):Rat)=_;rw [IW]
 have J:(Sr.num (s:Rat)*si a*si D).c k=(s:Rat)*((cvL a (co D) k:Int):Rat):=by
  rw [show Sr.num (s:Rat)*si a*si D=Sr.num (s:Rat)*(si a*si D) by ext,Sr.num_mul,<-Mj (IW a D)];show (s:Rat)*((co (Bk a D) k:Int):Rat)=_;rw [IW]
 show ((co Z k:Int):Rat)=(si N*si c).c k+(Sr.num (s:Rat)*si a*si D).c k;rw [I,J,h k];push_cast;rfl
def Ka {l m:cJ} {g:cP} {A B:Sr} (a:AV l) (b:AV m) (R:RC (co (AJ l)) (co (AJ m)) g) (c:Sr.Pol A) (d:Sr.Pol B) (e:sr l=A*sr (E_ g)) (f:sr m=B*sr (E_ g)):Sr.Cs A B:=by
 have n:=Sr.num_inv (Aq (AW (Bj a).1));have o:=Sr.num_inv (Aq (AW (Bj b).1));have h:si (AJ l)=Sr.num (AY l:Rat)*sr l:=by rw [Dp a];ext
 have i:si (AJ m)=Sr.num (AY m:Rat)*sr m:=by rw [Dp b];ext
 have j:si (AJ l)=(Sr.num (AY l:Rat)*Sr.num ((co g (g.length - 1):Rat))⁻¹*A)*si g:=by rw [h,e,Ml R.lz];ext
 have k:si (AJ m)=(Sr.num (AY m:Rat)*Sr.num ((co g (g.length - 1):Rat))⁻¹*B)*si g:=by rw [i,f,Ml R.lz];ext
 have:=xN R (((Sr.Pol.num _).mul (Sr.Pol.num _)).mul c) (((Sr.Pol.num _).mul (Sr.Pol.num _)).mul d) j k;exact ((this.dvd ((Sr.Pol.num _).mul (Sr.Pol.num _)) rfl).comm.dvd ((Sr.Pol.num _).mul (Sr.Pol.num _)) rfl).comm
def xW {T B b k G a R c S X g:Sr} {s:Rat} (u:s≠0) (m:Sr.Pol T) (d:Sr.Pol b) (h:Sr.Pol a) (n:Sr.Pol R) (o:Sr.Pol G) (p:Sr.Pol S) (pX:Sr.Pol X) (v:Sr.Pol g) (w:B=a*G) (j:k=R*G) (f:Sr.Cs a R) (x:Sr.Cs T B) (y:Sr.Cs b k) (q:c=T*R+Sr.num s*(b*a)) (r:c=X*S) (Y:G=g*S) (z:Sr.Cs X g):Sr.Cs X (a*R*g):=by
 have A:Sr.Cs T a:=x.dvd o (by rw [w];ext);have C:Sr.Cs b R:=y.dvd o (by rw [j];ext);have D:Sr.Cs (T*R) a:=(A.comm.mul h m f).comm;have F:Sr.Cs c a:=D.add ((Sr.Pol.num s).mul d) (by rw [q];ext);have I:Sr.Cs (b*a) R:=(C.comm.mul n d f.comm).comm
 have J:Sr.Cs (Sr.num s*(b*a)) R:=by
  obtain ⟨U,W,L,M,e⟩:=I;have i:=Sr.num_inv u;exact ⟨U*Sr.num s⁻¹,W,L.mul (Sr.Pol.num _),M,()⟩
 have N:Sr.Cs c R:=J.add m (by rw [q];ext);have O:Sr.Cs X a:=(F.comm.dvd p (show c=S*X by rw [r];ext)).comm;have P:Sr.Cs X R:=(N.comm.dvd p (show c=S*X by rw [r];ext)).comm;exact (O.mul pX h P).mul pX (h.mul n) z
def Mr {l m:cJ} {Y:Sr} (a:Sr.Pol Y) (h:sr m=Y*sr l):MR (B_ l) (B_ m):=by
 obtain ⟨A,rfl⟩:=a;refine ⟨A,λk=>?_⟩;have:=sM (congrArg Sr.c h) k;rw [Sr.L_mul] at this;exact this
def TC {l m:cJ} (h:MR (B_ l) (B_ m)):∃ Y,Sr.Pol Y/\sr m=Y*sr l:=by
 obtain ⟨A,a⟩:=h;refine ⟨Sr.L A,Sr.Pol.L A,?_⟩;rw [Sr.L_mul];exact Sr.ext' a
def xX (h:F0 K vs H Q E):ZZ K { nx:=λ_ H'=>Q .non H',rt:=Q } (L2.start ["F","G","shared","rest","top","spare"] vs) H:=by
 obtain ⟨p,q,T,B,T',B',b,n,m,e,rfl,⟨u,v,hp,Pu,Pv⟩,⟨u',v',hq,b0,b1⟩,g,R2,Z,k⟩:=h;have j:=Z.a;have O:=Z.t;have n1:=O.n1;have cw:=O.n60;have U:=j.m60;have cz:=Z.m50;have m1:=j.m1;have nt:n<2 ^ e:=by have:=O.ne;omega
 have o:=g.all nt j.me ⋯ U j.e6;have P:=R2.all nt j.me ⋯ U j.e6;have b9:=Z.b9;obtain ⟨zv,hv,nv⟩:=Pv;obtain ⟨d0,a3,a4⟩:=b1;have:=o.tn;have:=o.bm;have:=P.tn;have:=P.bm;have mm:max m m=m:=Nat.max_self m;have W:=j.lu;rw [mm] at W;refine Ef (Bm rfl hp rfl (Bm rfl hq rfl (ML hv a3 nv a4 o.gb P.gb ⋯ ⋯ ⋯ ⋯ (λ_ _=>⟨o.fb,P.fb⟩) (d:=e) (by rw [CI];have:=j.me;omega) (N:=m+m) ⋯ ⋯ W (λz _=>absurd z g.lw.ne) λ_ A C P1 r1 z1 H1 s1 h1 a0=>?_)));obtain ⟨a,f,d1,M1,a1,o1⟩:=Hr g.lw.lb g.lw.nb g.lw.ne o.fb C.lz C.left P1;have b2:MR (B_ (E_ A)) (B_ B'):=MR.of (FJ C.lz) (D6 R2.lw.lb) (D7 C.lz) C.right;have ck:0<(E_ A).length:=BD.mpr f;obtain ⟨D,eD⟩:∃ D,D=b+m*(2*e+4):=⟨_,rfl⟩;rw [<-eD] at a a1 W;have cl:m*(2*e+4)<=960:=A7 (BN U (show 2*e+4<=16 by have:=j.e6;omega)) ∅;have D9:D<=5960:=by omega
 have b3:=s1 _ _ hq;have a5:=s1 _ _ a3;have DX:D<=2*b+e+1+max (n+m - 1) m*(2*e+4):=by have:=xS (2*b+e+1) (n+m - 1) m e;omega
 have mD:∀ x,x<=n+m - 1+m->x*D<=44490/\x*(D+1)<=44490:=λx hx=>by
  have h1:x*(D+1)<=(n+m - 1+m)*(2*b+e+1+max (n+m - 1) m*(2*e+4)+e+2):=BN hx ⋯;have h2:x*D<=x*(D+1):=C5 _ ⋯;have h3:=O.lu;rw [C3] at h3;omega
 have mB:=mD (B.length+1 - (E_ A).length) ⋯;have d2:=mD (B'.length+1 - (E_ A).length) ⋯;refine Ef (Bm rfl b3 rfl (AZ rfl (He a5 h1 (a4.tp (D_ s1)) a0 P.gb a f ⋯ ⋯ ⋯ ⋯ ⋯ ⋯ b2 λr2 R H2 s2 ⟨z2,h2,a6⟩ lR nR cm eR=>?_)));have GR:=(Hl P.gb lR nR P.bm j.me C.lz P1 (a1 _) C.right eR).mono (b':=20000) (c':=11000) ⋯ ⋯;have a2:=s1.trans s2;have b4:=a2 _ _ hp;obtain ⟨d3,b5,b6⟩:=Pu.same a2;refine Ef (Ag (Bm rfl b4 rfl (AZ rfl (HZ b5 h2 b6 a6 o.gt GR ⋯ ⋯ ⋯ ⋯ ⋯ ⋯ λr3 X1 H3 s3 ⟨z3,h3,n3⟩ G3 l3 e3=>?_))));have r:=a2.trans s3;have b7:=r _ _ hp;have b8:=r _ _ hq;have ba:=r _ _ hv;have bb:=(s2.trans s3) _ _ h1;refine Ag (Bm rfl b8 rfl (Ag (Bm rfl b7 rfl (AZ rfl (He ba bb (nv.tp (D_ r)) (a0.tp (D_ (s2.trans s3))) o.gb a f ⋯ ⋯ ⋯ ⋯ ⋯ ⋯ M1 λr4 Qd H4 s4 ⟨z4,h4,n4⟩ lQ nQ cn eQ=>?_)))));have GQ:=(Hl o.gb lQ nQ o.bm j.me C.lz P1 (a1 _) C.left eQ).mono (b':=20000) (c':=11000) ⋯ ⋯;have a7:=r.trans s4;obtain ⟨d4,bc,bd⟩:=b0.same a7;refine HZ bc h4 bd n4 P.gt GQ ⋯ ⋯ ⋯ ⋯ ⋯ ⋯ λr5 X2 H5 s5 ⟨z5,h5,n5⟩ G5 l5 e5=>?_;have bf:=(s4.trans s5) _ _ h3;have bg:=G3.mono (b':=32000) (c':=22000) ⋯ ⋯;have bi:=G5.mono (b':=32000) (c':=22000) ⋯ ⋯;obtain ⟨M,bj,bk,bM,q1,q2⟩:=KW bg bi;refine SC bf h5 (n3.tp (D_ (s4.trans s5))) n5 G3.low G5.low bj bk bM q1 q2 ⋯ ⋯ ⋯ ⋯ λr6 F H6 s6 ⟨z6,h6,n6⟩ G6 l6 e6=>?_;have d5:F.length<=n+m - 1:=by omega
 have a8:=((((s2.trans s3).trans s4).trans s5).trans s6);have bl:=a8 _ _ h1;have S:=CA eQ;have oR:=CA eR
 have ot:sr F=sr T*sr R+Sr.num 1*(sr T'*sr Qd):=by
  rw [<-CA e3,<-CA e5];exact Sr.ext' λk=>by show B_ F k=(sr X1).c k+(Sr.num 1*sr X2).c k;rw [Sr.num_mul];exact e6 k
 obtain ⟨N,DD,lD,tN,bN,bD,nN,nD,bm⟩:=g.rp;obtain ⟨N',bn,bp,d6,br,bs,bt,bw,a9⟩:=R2.rp;obtain ⟨Y1,G,ab,bx⟩:=En g.lw (Cw N) (Cw DD) bm;obtain ⟨Y2,I,ac,c0⟩:=En R2.lw (Cw N') (Cw bn) a9;have c1:Y1≠0:=λz=>Hn lD (by rw [ab,z];ext);have c2:Y2≠0:=λz=>Hn bp (by rw [ac,z];ext);have G0:=Bw a.low a.nz f
 have c3:F≠[]->Fp (2*b+e+1+max (n+m - 1) m*(2*e+4)) (AJ F):=λt0=>by
  obtain ⟨Zr,tz,ez,bz,lz⟩:=xV (s:=1) (.inl rfl) bN bD br bs nN nD bt bw nt nt (w:=n+m - 1) ⋯ ⋯;have eZ:si Zr=(Y1*Y2*sr (E_ A))*sr F:=by rw [ez,bx,ac,c0,ab,ot,S,oR,show ((1:Int):Rat)=1 from rfl];ext
  have Z0:si Zr≠0:=by rw [eZ];exact Sr.ne_mul ((G.mul I).mul (AM _)) (AM F) (Sr.ne_mul (G.mul I) (AM _) (Sr.ne_mul G I c1 c2) G0) (Bw G6.low G6.nz t0)
  have c4:Lz Zr:=DM tz λz=>Z0 (by rw [z,DN []];exact Sr.L_nil);have:=JD G6.low c4 bz lz O.ne ((G.mul I).mul (AM _)) eZ;exact this.mono (by have:=xR (2*b+e+1) (n+m - 1) m e;omega)
 have ah:Fp D (AJ (E_ A)):=Mo a.low g.lw.lb (AM Qd) S (by rw [eD];exact o.fb);refine Ef (AZ rfl (AZ rfl (ML (b:=60000) (c:=60000) h6 bl n6 (a0.tp (D_ a8)) (G6.mono ⋯ ⋯) (a.mono ⋯ ⋯) ⋯ ⋯ ⋯ ⋯ (λt0 _=>⟨c3 t0,ah.mono DX⟩) (d:=e) (by rw [CI];have:=O.ne;have:=O.me;omega) (N:=n+m - 1+m) ⋯ ⋯ O.lu (λ_ z=>absurd z f) λ_ g2 Rr P2 r7 z7 H7 s7 h7 n7=>?_)));obtain ⟨i,y,d7,M2,d8,o2⟩:=Hr a.low a.nz f ah Rr.lz Rr.right P2;have cp:0<(E_ g2).length:=BD.mpr y;have c5:MR (B_ (E_ g2)) (B_ F):=MR.of (FJ Rr.lz) (D6 G6.low) (D7 Rr.lz) Rr.left;have c6:=s7 _ _ h6;have m3:=mD (F.length+1 - (E_ g2).length) ⋯;refine DK (Ct (Ag (AZ rfl (AZ rfl (He c6 h7 (n6.tp (D_ s7)) n7 G6 i y ⋯ ⋯ ⋯ ⋯ ⋯ ⋯ c5 λr8 X H8 s8 PX lX nX cq eX=>?_)))));have J:=(((a7.trans s5).trans s6).trans s7).trans s8;have aj:=((((s3.trans s4).trans s5).trans s6).trans s7).trans s8;have c7:=J _ _ hp;have c8:=J _ _ hv;have c9:=aj _ _ h2;have cc:=s8 _ _ h7;refine Ag (Ag (Bm rfl c7 rfl (AZ rfl (HZ c8 c9 (nv.tp (D_ J)) (a6.tp (D_ aj)) o.gb GR ⋯ ⋯ ⋯ ⋯ ⋯ ⋯ λr9 Pb H9 s9 ⟨z9,h9,n9⟩ G9 l9 e9=>AZ rfl ?_))));have cd:=s9 _ _ cc;have m4:=mD (Pb.length+1 - (E_ g2).length) ⋯;have oX:=CA eX;have o9:=CA e9;obtain ⟨G',L,oG⟩:=TC M2;have M3:MR (B_ (E_ g2)) (B_ Pb):=Mr (Y:=sr Qd*G'*sr R) (((AM _).mul L).mul (AM _)) (by rw [o9,S,oG];ext);refine He h9 cd n9 (n7.tp (D_ (s8.trans s9))) G9 i y ⋯ ⋯ ⋯ ⋯ ⋯ ⋯ M3 λal Y d9 am PY lY nY ct eY=>⟨Bu,λwt ce=>?_⟩;have st:=AO ce (.tup [.ref r8,.ref al]);have oY:=CA eY;have S0:=Bw i.low i.nz y;have ch:=Ka g.lw.lb R2.lw.lb C (AM Qd) (AM R) S oR;have cj:=Ka G6.low a.low Rr (AM X) L oX oG
 have an:sr Y=sr Qd*sr R*G':=by
  refine Sr.cancel (AM Y) (((AM _).mul (AM _)).mul L) (AM (E_ g2)) S0 ?_;rw [<-oY,o9,S,oG];ext
 have cs:=xW (s:=1) ∅ (AM T) (AM T') (AM Qd) (AM R) (AM (E_ A)) (AM (E_ g2)) (AM X) L S oR ch g.lw.cs R2.lw.cs ot oX oG cj;rw [<-an] at cs
 have R0:R≠[]:=λz=>by
  have:=eR (B'.length - 1);rw [z] at this;exact Cv R2.lw.lb R2.lw.nb R2.lw.ne this
 have lr:=Gw R2.lw.lb R2.lw.nb lR nR R0 a.low a.nz f eR;have lp:=Gw G9.low G9.nz g.lw.lb g.lw.nb g.lw.ne lR nR R0 e9
 have Y0:Y≠[]:=λz=>by
  have:=eY (Pb.length - 1);rw [z] at this;exact Cv G9.low G9.nz lp.2.2 this
 have ly:=Gw G9.low G9.nz lY nY Y0 i.low i.nz y eY
 have ao:B_ R (R.length - 1)=1:=by
  have:=lr.2.1;rw [EQ R2.lw.one,o1] at this;ext
 have ar:B_ Y (Y.length - 1)=1:=by
  have h1:=ly.2.1;have h2:=lp.2.1;rw [EQ g.lw.one,ao] at h2;rw [o2,h2] at h1;ext
 refine k wt _ X Y (((J.trans s9).trans am).trans st) ⟨r8,al,upd_same,((PX.same s9).same am).same st,PY.same st⟩ ⟨lX,lY,nX,nY,Y0,KU lY ar,cs⟩ ?_;have w1:sr X*(sr B*sr B')=sr Qd*sr R*sr (E_ A)*(sr X*sr (E_ A)):=by rw [S,oR];ext
 have w2:sr X*sr (E_ A)=sr F*G':=by rw [oX,oG];ext
 rw [w1,w2,an,ot,S,oR];ext
def Rp.neg {b n m:Nat} {T B X:cJ} (h:Rp b n m T B) (a:AV X) (c:Nz X) (e:sr X=Sr.num (-1)*sr T):Rp b n m X B:=by
 obtain ⟨N,D,d,f,g,j,nN,k,o⟩:=h.rp
 have p:Sr.Cs (sr X) (sr B):=by
  obtain ⟨U,W,r,u,q⟩:=h.lw.cs;refine ⟨U*Sr.num (-1),W,r.mul (Sr.Pol.num _),u,?_⟩;have i:Sr.num (-1)*Sr.num (-1)=1:=by rw [Sr.num_num,show (-1:Rat) * -1=1 by ext,Sr.num_one]
  rw [e];ext
 refine ⟨h.lw.bot X a c p,N.map (-1*·),D,d,?_,λz v=>?_,j,by rw [AL];exact nN,k,?_⟩
 ·rcases f with z | z
  ·left;rw [z];rfl
  ·right;rw [AL,Ej];omega
 ·obtain ⟨y,w,rfl⟩:=BG.mp v;have:=(g y w).neg;rw [show -1*y = -y by omega];exact this
 ·rw [Em,e,show (((-1:Int)):Rat) = -1 from rfl];have:Sr.num (-1)*sr T*si D=Sr.num (-1)*(sr T*si D):=by ext
  rw [this,o];ext
def xY (h:KE K vs H Q E):Q0 K { nx:=λ_ i=>Q .non i,rt:=Q } (L2.start ["F","G"] vs) H:=by
 obtain ⟨p,q,T,B,j,N,b,n,m,e,rfl,F,⟨u',D,o,r,u⟩,P,R2,Z,k⟩:=h;obtain ⟨R,c,v⟩:=r;have g:=Z.a;have x:=Z.t;have m1:=g.m1;have S:n<2 ^ e:=by have:=x.ne;omega
 have y:=R2.all S g.me (by have:=x.n60;omega) g.m60 g.e6;have:=y.tn;have:=x.n60;have b9:=Z.b9;unfold Q0;obtain ⟨M,O,U,W⟩:=y.gt.ov;rwa [o,c];refine ⟨sz ∅,λw hw=>?_⟩;have d:=AO hw (.tup []);refine ⟨_,d _ _ o,_,rfl,_,rfl,_,d _ _ c,[],trivial,j,v.tp (D_ d),(λ_ h=>nomatch h),y.gt.low,M,⟨O.1,λ_ h=>nomatch h⟩,O,_,_,U,(λ_ h=>nomatch h),W,⋯,⋯,by simp,⋯,λG z H2 I P2 J l2 e2=>?_⟩;have A:=I _ _ (d _ _ o);rwa [A];refine ⟨sz ∅,λw3 C=>?_⟩;have L:=AO C (.tup [.ref G,.ref D]);have a:=(d.trans I).trans L;have f:sr z=Sr.num (-1)*sr j:=Sr.ext' λk=>by rw [Sr.num_mul];show B_ z k=_;rw [e2,Bc (l:=[]) (Ai _)];show 0+_ = -1*B_ j k;ext
 refine ⟨_,_,T,B,z,N,b,n,m,e,rfl,F.same a,⟨G,D,upd_same,P2.same L,u.same a⟩,P,R2.neg J.low J.nz f,Z,λt i X Y s ff lw eq=>k t i X Y (a.trans s) ff lw ?_⟩;rw [eq,f,Sr.num_one];ext
def xZ {B a:cJ} {x m e:Nat} (b:AV B) (j:Nz B) (n:B≠[]) (F:Fp x (AJ B)) (R:B.length<=m) (o:m<2 ^ e) (p:m<=31) (f:AV a) (q:Nz a) (r:a≠[]) (u:sr a=Sr.D (sr B)):Fp (x+6+m*(2*e+4)) (AJ a):=by
 obtain ⟨y,P,v,g,A,C,S⟩:=Mm b j n;have D:=Aq (AW (Bj b).1);have T:=Sr.num_inv D;have G:si (AJ B)=Sr.num (AY B:Rat)*sr B:=by rw [Dp b];ext
 have I:=F P C A (JC ((Sr.Pol.num (AY B:Rat)).mul (Sr.Pol.num y)) (by rw [G,g];ext))
 have h:sr a=Sr.num y*si (dI P):=by
  rw [u,g,Sr.D_num,xM]
 obtain ⟨Z,J,L,M,N⟩:=Mq (F:=co (dI P)) (w:=m) (x:=x+6) (λk hk=>Ae (by rw [xL];omega)) (λk=>by
  rw [Sv];rcases BF (k+1) 64 with c | c
  ·have:Bd 6 (((k+1:Nat):Int)):=by unfold Bd;omega
   have:=this.mul (I (k+1));rw [show 6+x=x+6 by omega] at this;exact this
  ·rw [Ae ⋯,Int.mul_zero];exact Ci _)
 have i:si Z=si (dI P):=by unfold si;congr 1;funext k;rw [L]
 have U:=Sr.num_inv v;have d:si Z=Sr.num y⁻¹*sr a:=by rw [i,h];ext
 have O:si Z≠0:=λz=>by
  have:=Bw f q r;exact this (by rw [h,<-i,z];ext)
 exact JD f (DM J λz=>O (by rw [z,DN []];exact Sr.L_nil)) M N o (Sr.Pol.num _) d
def wA (h:MC K vs H Q E):Zf K { nx:=λ_ H'=>Q .non H',rt:=Q } (L2.start ["F","slope","shared","rest","top"] vs) H:=by
 obtain ⟨p,T,B,b,n,m,e,rfl,⟨u,v,hp,⟨zu,hu,nu⟩,⟨zv,hv,nv⟩⟩,a,Z,Zm,b9,b8,L,k⟩:=h;have g:=a.all Z.ne Z.me Z.n60 Z.m60 Z.e6;have tn:=g.tn;have bm:=g.bm;have n1:=Z.n1;have m1:=Z.m1;refine Lp (Bm rfl hp rfl ?_);refine SE hv nv g.gb ⋯ ⋯ ⋯ (λr1 O H1 s1 ⟨z1,I,P⟩ r l1 e1=>?_);have oS:=JB e1;have a4:=s1 _ _ hp;have a5:=s1 _ _ hv;have mm:max m m=m:=Nat.max_self m;have y:=Zm.lu;rw [mm] at y;obtain ⟨X,eX⟩:∃ X,X=b+m*(2*e+4)+6+m*(2*e+4):=⟨_,rfl⟩;rw [<-eX] at y;have fS:O≠[]->Fp X (AJ O):=λh=>by rw [eX];exact xZ a.lw.lb a.lw.nb a.lw.ne g.fb bm Z.me L r.low r.nz h oS
 have fB:Fp X (AJ B):=g.fb.mono ⋯;refine Ef (Bm rfl a4 rfl (AZ rfl ?_));refine ML (b:=20000) (c:=20000) a5 I (nv.tp (D_ s1)) P (g.gb.mono ⋯ ⋯) (r.mono ⋯ ⋯) ⋯ ⋯ ⋯ ⋯ (λ_ h=>⟨fB,fS h⟩) (d:=e) (by rw [CI];have:=Z.me;omega) (N:=m+m) ⋯ ⋯ y (λz _=>absurd z a.lw.ne) (λ_ A i P1 r2 z2 H2 s2 J S=>?_);obtain ⟨U,g0,lg,M1,bg,o1⟩:=Hr a.lw.lb a.lw.nb a.lw.ne g.fb i.lz i.left P1;have ba:0<(E_ A).length:=BD.mpr g0;have M2:MR (B_ (E_ A)) (B_ O):=MR.of (FJ i.lz) (D6 r.low) (D7 i.lz) i.right;obtain ⟨D,eD⟩:∃ D,D=b+m*(2*e+4):=⟨_,rfl⟩;rw [<-eD] at U bg;have b5:m*(2*e+4)<=31*16:=BN L (show 2*e+4<=16 by have:=Z.e6;omega);have D9:D<=5500:=by omega
 have mD:∀ x,x<=40->x*D<=300000/\x*(D+1)<=300000:=λx hx=>by
  have I:x*(D+1)<=40*5501:=BN hx ⋯;have J:x*D<=x*(D+1):=C5 _ ⋯;omega
 have mB:=mD (B.length+1 - (E_ A).length) ⋯;have mS:=mD (O.length+1 - (E_ A).length) ⋯;have j:=s1.trans s2;have a6:=j _ _ hp;have a7:=j _ _ hv;refine Ef (Bm rfl a6 rfl (AZ rfl ?_));refine He a7 J (nv.tp (D_ j)) S g.gb U g0 ⋯ ⋯ ⋯ ⋯ ⋯ ⋯ M1 (λr3 R H3 W ⟨z3,h3,n3⟩ lR nR b6 eR=>?_);have GR:=(Hl g.gb lR nR bm Z.me i.lz P1 (bg _) i.left eR).mono (b':=20000) (c':=11000) ⋯ ⋯;have o:=j.trans W;have a8:=o _ _ hp;have a9:=o _ _ hu;refine Ef (Ag (BL (Bm rfl a8 rfl ?_)));refine SE a9 (nu.tp (D_ o)) g.gt ⋯ ⋯ ⋯ (λr4 T' H4 s4 ⟨z4,h4,n4⟩ G4 l4 e4=>?_);have oT:=JB e4;have ab:=s4 _ _ h3;refine AZ rfl ?_;refine HZ h4 ab n4 (n3.tp (D_ s4)) G4 GR ⋯ ⋯ ⋯ ⋯ ⋯ ⋯ (λr5 X1 H5 s5 ⟨z5,h5,n5⟩ G5 l5 e5=>?_);have f:=s4.trans s5;have C:=o.trans f;have ac:=C _ _ hp;have bb:=C _ _ hu;have ah:=((s2.trans W).trans f) _ _ I;have aj:=(W.trans f) _ _ J;refine Ag (Bm rfl ac rfl (Ag (AZ rfl (AZ rfl ?_))));refine He ah aj (P.tp (D_ ((s2.trans W).trans f))) (S.tp (D_ (W.trans f))) r U g0 ⋯ ⋯ ⋯ ⋯ ⋯ ⋯ M2 (λr6 F H6 s6 ⟨z6,h6,n6⟩ lE nE b7 eE=>?_);have GE:=(Hl r lE nE (show O.length<=m by omega) Z.me i.lz P1 (bg _) i.right eE).mono (b':=20000) (c':=11000) ⋯ ⋯;have G:=C.trans s6;have al:=G _ _ hu;refine HZ al h6 (nu.tp (D_ G)) n6 g.gt GE ⋯ ⋯ ⋯ ⋯ ⋯ ⋯ (λr7 X2 H7 s7 ⟨z7,h7,n7⟩ G7 l7 e7=>?_);have am:=(s6.trans s7) _ _ h5;have an:=G5.mono (b':=40000) (c':=30000) ⋯ ⋯;have ao:=G7.mono (b':=40000) (c':=30000) ⋯ ⋯;obtain ⟨M,ar,b0,bM,q1,q2⟩:=KW an ao;refine SC am h7 (n5.tp (D_ (s6.trans s7))) n7 G5.low G7.low ar b0 bM q1 q2 ⋯ ⋯ ⋯ ⋯ (λr8 tp H8 s8 P8 G8 l8 e8=>?_);have q:=(G.trans s7).trans s8;have b1:=q _ _ hp;have b2:=q _ _ hv;have b3:=(((f.trans s6).trans s7).trans s8) _ _ h3;refine DK (Ct (AZ rfl (Ag (Bm rfl b1 rfl (AZ rfl ?_)))));refine HZ b2 b3 (nv.tp (D_ q)) (n3.tp (D_ (((f.trans s6).trans s7).trans s8))) g.gb GR ⋯ ⋯ ⋯ ⋯ ⋯ ⋯ (λr9 Y H9 s9 P9 G9 l9 e9=>⟨Bu,λw hw=>?_⟩);have sw:=AO hw (.tup [.ref r8,.ref r9]);have oR:=CA eR;have oE:=CA eE;have o5:=CA e5;have o7:=CA e7;have o9:=CA e9
 have o8:sr tp=Sr.D (sr T)*sr R - sr T*sr F:=by
  rw [<-oT,<-o5,<-o7];exact Sr.ext' λk=>by rw [Sr.sub_c];have:=e8 k;show B_ tp k=B_ X1 k - B_ X2 k;ext
 have b4:=Ka a.lw.lb r.low i (AM R) (AM F) oR oE;have a0:=Sr.slope_cop (AM T) (AM B) (AM (E_ A)) (AM R) (AM F) (Bw a.lw.lb a.lw.nb a.lw.ne) (by rw [oR];ext) (by rw [<-oS,oE];ext) b4 a.lw.cs;rw [<-o8,<-o9] at a0
 have R0:R≠[]:=λz=>by
  have:=eR (B.length - 1);rw [z] at this;exact Cv a.lw.lb a.lw.nb a.lw.ne this
 have lr:=Gw a.lw.lb a.lw.nb lR nR R0 U.low U.nz g0 eR;have ly:=Gw G9.low G9.nz a.lw.lb a.lw.nb a.lw.ne lR nR R0 e9
 have a3:B_ Y (Y.length - 1)=1:=by
  have I:=lr.2.1;have J:=ly.2.1;rw [EQ a.lw.one] at I J;rw [o1] at I;rw [J];ext
 refine k w _ tp Y ((q.trans s9).trans sw) ⟨r8,r9,upd_same,(P8.same s9).same sw,P9.same sw⟩ ⟨G8.low,G9.low,G8.nz,G9.nz,ly.2.2,KU G9.low a3,a0⟩ ?_;rw [o8,o9,<-oS,oE];have a1:(Sr.D (sr T)*sr R - sr T*sr F)*(sr B*sr B)=sr B*(Sr.D (sr T)*sr R*sr B - sr T*sr F*sr B):=by ext
 have a2:(sr B*Sr.D (sr T) - sr T*(sr F*sr (E_ A)))*(sr B*sr R)=sr B*(Sr.D (sr T)*sr R*sr B - sr T*sr F*(sr R*sr (E_ A))):=by ext
 rw [a1,a2,<-oR]
def Rp.mono {b n m b' c d:Nat} {T B:cJ} (h:Rp b n m T B) (e:b<=b') (o:n<=c) (p:m<=d):Rp b' c d T B:=by
 obtain ⟨N,D,f,g,i,j,nN,q,k⟩:=h.rp;exact ⟨h.lw,N,D,f,g,λz a=>(i z a).mono e,λz a=>(j z a).mono e,⋯,⋯,k⟩
def TD {Z:cP} (t:Tz Z) (h:si Z≠0):Lz Z:=DM t λz=>h (by rw [z,DN []];exact Sr.L_nil)
def JE:Sr.num ((-1:Int):Rat) = -1:=by
 have a:Sr.num ((-1:Int):Rat)+Sr.num 1=0:=Sr.ext' λk=>by
  show ((-1:Int):Rat)*Af k+1*Af k=(0:Sr).c k;rw [Sr.zero_c,show (((-1:Int)):Rat) = -1 from rfl];ext
 rw [Sr.num_one] at a;ext
def Rp.of {b c b' c' n k x:Nat} {l m T B:cJ} (L:Lw T B) (Gl:Gq b c l) (a:Gq b' c' m) (p:m≠[]) (q:l.length<=n) (r:m.length<=k) (w:sr T*sr m=sr l*sr B) (A:b+c'<=x) (C:b'+c<=x):Rp x n k T B:=by
 have f:=Gl.clr;have g:=a.clr;have i:=KZ a.low a.nz p;have j:=(Bj Gl.low).1;have o:=(Bj a.low).1;have D:=Sr.num_inv (Aq (AW j));have F:=Sr.num_inv (Aq (AW o));have u:si (AJ l)=Sr.num (AY l:Rat)*sr l:=by rw [Dp Gl.low];ext
 have v:si (AJ m)=Sr.num (AY m:Rat)*sr m:=by rw [Dp a.low];ext
 refine ⟨L,(AJ l).map (AY m*·),(AJ m).map (AY l*·),⟨by rw [AL];exact i.1,by rw [AL,Ej];exact Bg (AW j) i.2⟩,?_,λz d=>?_,λz d=>?_,by rw [AL,Bv];exact q,by rw [AL,Bv];exact r,by rw [Em,Em,u,v];ext⟩
 ·rcases Ek Gl.low Gl.nz with h | h
  ·left;rw [h];rfl
  ·right;rw [AL,Ej];exact Bg (AW o) h
 ·obtain ⟨y,e,rfl⟩:=BG.mp d;exact ((g.2.1).mul (f.1 y e)).mono ⋯
 ·obtain ⟨y,e,rfl⟩:=BG.mp d;exact ((f.2.1).mul (g.1 y e)).mono ⋯
def Lw.uniq {X Y a b:cJ} (h:Lw X Y) (h':Lw a b) (c:sr X*sr b=sr a*sr Y):X=a/\Y=b:=by
 obtain ⟨f,d,e,_⟩:=En h (AM a) (AM b) c;obtain ⟨g,i,j,_⟩:=En h' (AM X) (AM Y) c.symm;have k:Y=b:=yX h.lb h'.lb h.nb h'.nb h.ne h'.ne h.one h'.one (Mr d e) (Mr i j);subst k;exact ⟨Mi h.lt h'.lt h.nt h'.nt (Sr.cancel (AM X) (AM a) (AM Y) (Bw h.lb h.nb h.ne) c),rfl⟩
noncomputable def Ms (T B:cJ):W.Dat:=.tuple [EN T,EN B]
def TF {H:Hp} {p:Addr} {T B:cJ} (h:FF H p T B):RepD H (.ref p) (Ms T B):=by
 obtain ⟨u,v,hp,⟨e,a,b⟩,⟨f,c,d⟩⟩:=h;exact .tup hp (.cons (Fx a b) (.cons (Fx c d) .nil))
def okF (T B:cJ) (n:Nat):W.kqdOk (n+3) (Ms T B)=true:=by
 simp only [Ms,W.kqdOk,List.all_cons,List.all_nil,a_,Bool.and_self]
def wB {H:Hp} {p q:Addr} {T B a b:cJ} {Q:VK} (hp:FF H p T B) (c:FF H q a b) (e:T=a/\B=b) (h:Q (.bl true) H):bO (.ref p) (.ref q) H Q:=by
 obtain ⟨rfl,rfl⟩:=e;exact ⟨_,_,true,TF hp,TF c,okF _ _ 5,okF _ _ 5,by simp,h⟩
structure Wt (X Y:cJ) (N D:Sr):Prop where
 pN:Sr.Pol N
 pD:Sr.Pol D
 D0:D≠0
 eq:sr X*D=N*sr Y
noncomputable instance (x n m e:Nat):Decidable (C0 x n m e):=decidable_of_iff (1<=n/\1<=m/\n<=60/\m<=60/\n<2 ^ e/\m<2 ^ e/\e<=6/\(x+e+2)*(n+m)<=44490) ⟨λ⟨a,b,c,d,e,f,g,h⟩=>⟨a,b,c,d,e,f,g,h⟩,λ⟨a,b,c,d,e,f,g,h⟩=>⟨a,b,c,d,e,f,g,h⟩⟩
noncomputable instance (b n m e:Nat):Decidable (C2 b n m e):=decidable_of_iff (C1 b m m e/\C1 (2*b+e+1) (n+m - 1) m e/\b<=5000/\m<=50) ⟨λ⟨a,b,c,d⟩=>⟨a,b,c,d⟩,λ⟨a,b,c,d⟩=>⟨a,b,c,d⟩⟩
def TH {K:W.Frag} {H:Hp} {Q:VK} {E:XK} {p q:Addr} {b n m b' j o:Nat} {T B r u:cJ} (F:FF H p T B) (y:FF H q r u) (R:Rp b n m T B) (x:Rp b' j o r u) (e:Nat) (Z:C0 (max b b'+max n o*(2*e+4)) n o e/\C0 (max b b'+max j m*(2*e+4)) j m e/\max b b'<=5000)
  (k:∀ t v X Y,Same H v->FF v t X Y->Lw X Y->sr X*(sr B*sr u)=sr T*sr r*sr Y->Q (.ref t) v):HY K [.ref p,.ref q] H Q E:=by
 obtain ⟨Z,i,C⟩:=Z;have f:=R.all Z.ne i.me Z.n60 i.m60 Z.e6;have g:=x.all i.ne Z.me i.n60 Z.m60 Z.e6;have w:∀ a b c d:Nat,a<=b->c<=d->a+c*(2*e+4)<=b+d*(2*e+4):=λa b c d z A=>Nat.add_le_add z (B8 _ A);exact ⟨p,q,T,B,r,u,_,n,m,_,j,o,e,rfl,F,y,R.lw,x.lw,f.gt.mono ⋯ ⋯,f.gb.mono ⋯ ⋯,g.gt.mono ⋯ ⋯,g.gb.mono ⋯ ⋯,f.tn,g.bm,g.tn,f.bm,λh=>(f.ft h).mono (w _ _ _ _ ⋯ ⋯),g.fb.mono (w _ _ _ _ ⋯ ⋯),λh=>(g.ft h).mono (w _ _ _ _ ⋯ ⋯),f.fb.mono (w _ _ _ _ ⋯ ⋯),Z,i,k⟩
theorem EA:sr [(1,1)]=1:=Sr.ext' λk=>by
 rw [FK];cases k with
 | zero=>show val (1,1)=_;unfold val;show ((1:Int):Rat) / ((1:Int):Rat)=1;rw [show ((1:Int):Rat)=1 from rfl];ext
 | succ k=>show B_ [(1,1)] (k+1)=0;exact Bc (by simp)
def GA:sr []=0:=Sr.ext' λk=>by rw [Sr.zero_c];exact Bc (Ai _)
theorem aK:si [1]=1:=Sr.ext' λk=>by
 rw [FK];cases k with
 | zero=>rfl
 | succ k=>show ((co [1] (k+1):Int):Rat)=0;rw [Ae (by simp)];rfl
def be {T:cJ} (b:AV T) (c:Nz T):Lw T [(1,1)]:=⟨b,λq a=>by rw [BA.mp a];exact Gu,c,λq a=>by obtain rfl:(1,1)=q:=sJ a;decide,by simp,rfl,by rw [EA];exact Sr.Cs.one⟩
def one_ne:(1:Sr)≠0:=by rw [<-aK];exact Hn ⟨∅,∅⟩
noncomputable def dJ:cP->Int->cP
 | [],_=>[]
 | x::a,s=>s*x::dJ a (s+1)
noncomputable def dF (b:dh) (k:Nat):Int:=(k:Int)*b k
theorem Mt (b:dh):∀ (a:cP) (s:Int) (k:Nat),(k:Int)*cvL a b k+s*cvL a b k=cvL (dJ a s) b k+cvL a (dF b) k
 | [],s,k=>by show _=cvL [] b k+_;rw [Az,Az];ext
 | x::a,s,0=>by show _=cvL (s*x::dJ a (s+1)) b 0+_;rw [Ap,Ap,Ap];show _=s*x*b 0+0+(x*(((0:Nat):Int)*b 0)+0);ext
 | x::a,s,k+1=>by
   show _=cvL (s*x::dJ a (s+1)) b (k+1)+_;rw [Ak,Ak,Ak];have h:=Mt b a (s+1) k;show _=s*x*b (k+1)+cvL (dJ a (s+1)) b k+(x*(((k+1:Nat):Int)*b (k+1))+cvL a (dF b) k);push_cast;ext
theorem TJ (f:cP):∀ (n k:Nat),cvL f (dF (Ar f n)) k=(n:Int)*cvL (dJ f 0) (Ar f n) k
 | 0,k=>by
   have e:∀ k,dF (Ar f 0) k=0*Af k:=λk=>by
    cases k with
    | zero=>rfl
    | succ k=>show ((k+1:Nat):Int)*0=0*0;ext
   rw [A8 e,Cj];show 0*_=0*_;ext
 | n+1,k=>by
   have e:∀ k,dF (Ar f (n+1)) k=cvL (dJ f 0) (Ar f n) k+cvL f (dF (Ar f n)) k:=λk=>by
    have h:=Mt (Ar f n) f 0 k;show (k:Int)*cvL f (Ar f n) k=_;ext
   have a:cvL f (cvL f (dF (Ar f n))) k=(n:Int)*cvL f (cvL (dJ f 0) (Ar f n)) k:=by
    rw [A8 (TJ f n),Cj]
   rw [A8 e,Ge,a,HP (Ar f n) f (dJ f 0) k];show cvL (dJ f 0) (Ar f (n+1)) k+(n:Int)*cvL (dJ f 0) (Ar f (n+1)) k=_;push_cast;ext
def wC (f:cP) (n k:Nat):(k:Int)*cvL f (Ar f n) k=((n:Int)+1)*cvL (dJ f 0) (Ar f n) k:=by
 have h:=Mt (Ar f n) f 0 k;have a:=TJ f n k;ext
theorem TK {c:Type} [Lean.Grind.CommRing c] (x:c) (b:Nat->c):∀ (a:List c) (k:Nat),cvL (a++[x]) b k=cvL a b k+(if a.length<=k then x*b (k - a.length) else 0)
 | [],0=>by show x*b 0+0=0+(if 0<=0 then x*b 0 else 0);rw [sC (AU 0)];ext
 | [],k+1=>by show x*b (k+1)+0=0+(if 0<=k+1 then x*b (k+1) else 0);rw [sC (Ai _)];ext
 | y::a,0=>by
   show y*b 0+0=y*b 0+0+(if a.length+1<=0 then _ else 0);rw [sB ⋯];ext
 | y::a,k+1=>by
   show y*b (k+1)+cvL (a++[x]) b k=y*b (k+1)+cvL a b k+(if a.length+1<=k+1 then x*b (k+1 - (a.length+1)) else 0);rw [TK x b a k,show k+1 - (a.length+1)=k - a.length by omega];have e:(a.length+1<=k+1)↔(a.length<=k):=by omega
   simp only [e];ext
def Kb {c:Type} [Lean.Grind.CommRing c] {a:List c} {b:Nat->c} {i k:Nat} (h:i<a.length) (hk:i<=k):cvL (a.take (i+1)) b k=cvL (a.take i) b k+a.getD i 0*b (k - i):=by
 rw [FV,Aw h,Option.toList_some,TK,sC (by rw [CT];omega),CT,Nat.min_eq_left (EB h),AT,Aw h];rfl
theorem TL {c:Type} [Lean.Grind.CommRing c] (b:Nat->c):∀ (a:List c) (m k:Nat),k<m->cvL (a.take m) b k=cvL a b k
 | [],m,k,_=>by rw [List.take_nil]
 | x::a,0,k,h=>absurd h ⋯
 | x::a,m+1,0,_=>rfl
 | x::a,m+1,k+1,h=>by
   rw [List.take_succ_cons,Ak,Ak,TL b a m k ⋯]
theorem Kc:∀ (a:cP) (s:Int),(dJ a s).length=a.length
 | [],_=>rfl
 | _::a,s=>by show (dJ a (s+1)).length+1=a.length+1;rw [Kc a (s+1)]
theorem Mu:∀ (a:cP) (s:Int) (i:Nat),(dJ a s).getD i 0=(s+i)*a.getD i 0
 | [],s,i=>by show ([]:cP).getD i 0=_*([]:cP).getD i 0;simp
 | x::a,s,0=>by show s*x=(s+((0:Nat):Int))*x;ext
 | x::a,s,i+1=>by
   show (dJ a (s+1)).getD i 0=(s+((i+1:Nat):Int))*a.getD i 0;rw [Mu a (s+1) i];push_cast;ext
noncomputable def bv (f:cP) (c:dh) (n k:Nat):dh
 | 0=>0
 | m+1=>bv f c n k m+(((n:Int)+1)*((m+1:Nat):Int) - (k:Int))*f.getD (m+1) 0*c (k - (m+1))
theorem TM {f:cP} {c:dh} {n k:Nat} (a:0<f.length):∀ m,m<f.length->m<=k->bv f c n k m=((n:Int)+1)*cvL ((dJ f 0).take (m+1)) c k - (k:Int)*cvL (f.take (m+1)) c k+(k:Int)*f.getD 0 0*c k
 | 0,_,_=>by
   rw [Kb (by rw [Kc];exact a) (Ai k),Kb a (Ai k),Mu,List.take_zero,List.take_zero,Az];show (0:Int)=_;push_cast;rw [Nat.sub_zero];ext
 | m+1,b,d=>by
   rw [Kb (by rw [Kc];exact b) d,Kb b d,Mu];show bv f c n k m+_=_;rw [TM a m ⋯ ⋯];push_cast;ext
def wD {f:cP} {n k:Nat} (c:0<f.length):bv f (Ar f n) n k (min k (f.length - 1))=(k:Int)*f.getD 0 0*Ar f n k:=by
 have h:=wC f n k;rw [TM c _ ⋯ ⋯]
 have b:∀ a:cP,a.length=f.length->cvL (a.take (min k (f.length - 1)+1)) (Ar f n) k=cvL a (Ar f n) k:=λa d=>by
  by_cases hk:k<=f.length - 1
  ·exact TL _ a _ k ⋯
  ·rw [List.take_of_length_le ⋯]
 rw [b f rfl,b (dJ f 0) (Kc f 0)];ext
theorem pow_zero (f:cP):∀ n,Ar f n 0=f.getD 0 0 ^ n
 | 0=>by show (1:Int)=_;simp
 | n+1=>by
   show cvL f (Ar f n) 0=_;cases f with
   | nil=>rw [Az];simp [Int.pow_succ]
   | cons x a=>
     rw [Ap,pow_zero (x::a) n];show x*x ^ n+0=x ^ (n+1);rw [Int.pow_succ];ext
theorem TN {c:Type} [Lean.Grind.CommRing c] {b:Nat->c} {d:Nat} (h:∀ k,d<k->b k=0):∀ (a:List c) (k:Nat),d+a.length<=k->cvL a b k=0
 | [],_,_=>rfl
 | x::a,0,hk=>absurd hk (by simp)
 | x::a,k+1,hk=>by
   have e:d+a.length<=k:=by rw [Cf] at hk;omega
   rw [Ak,TN h a k e,h (k+1) ⋯];ext
theorem TQ {f:cP} (a:0<f.length):∀ n k,n*(f.length - 1)<k->Ar f n k=0
 | 0,0,h=>absurd h ⋯
 | 0,_+1,_=>rfl
 | n+1,k,h=>TN (TQ a n) f k (by rw [Du] at h;omega)
def wE:∀ n k,Ar ([]:cP) (n+1) k=0:=λ_ _=>rfl
noncomputable def DO {a:Type} [Lean.Grind.CommRing a] (m:Nat) (b:Nat->a) (k:Nat):a:=if k<m then 0 else b (k - m)
theorem Mv {a:Type} [Lean.Grind.CommRing a] (m:Nat) (b:Nat->a) (k:Nat):DO (m+1) b k=DI (DO m b) k:=by
 cases k with
 | zero=>exact sC ⋯
 | succ k=>
   show (if k+1<m+1 then 0 else b (k+1 - (m+1)))=(if k<m then 0 else b (k - m));rw [show k+1 - (m+1)=k - m by omega];have e:(k+1<m+1)↔(k<m):=by omega
   simp only [e]
theorem TR {c:Type} [Lean.Grind.CommRing c] (b:Nat->c) (a:List c):∀ (m k:Nat),cvL a (DO m b) k=DO m (cvL a b) k
 | 0,k=>A8 (λk=>rfl) a k
 | m+1,k=>by
   rw [A8 (Mv m b) a k,Jl,Mv];cases k with
   | zero=>rfl
   | succ k=>exact TR b a m k
theorem TU {c:Type} [Lean.Grind.CommRing c] (b:Nat->c) (a:List c):∀ (m k:Nat),cvL (List.replicate m 0++a) b k=DO m (cvL a b) k
 | 0,k=>rfl
 | m+1,k=>by
   rw [ED,List.cons_append,FB,Mv];cases k with
   | zero=>show 0*b 0+0=0;ext
   | succ k=>
     show 0*b (k+1)+cvL (List.replicate m 0++a) b k=DO m (cvL a b) k;rw [TU b a m k];ext
def wF {a:Type} [Lean.Grind.CommRing a] (m n:Nat) (b:Nat->a) (k:Nat):DO m (DO n b) k=DO (m+n) b k:=by
 unfold DO;by_cases c:k<m
 ·rw [sC c,sC ⋯]
 ·rw [sB c];by_cases d:k - m<n
  ·rw [sC d,sC ⋯]
  ·rw [sB d,sB ⋯,show k - m - n=k - (m+n) by omega]
def TV {a:Type} [Lean.Grind.CommRing a] {m:Nat} {b c:Nat->a} (h:∀ k,b k=c k) (k:Nat):DO m b k=DO m c k:=by
 unfold DO;rw [h]
theorem TW (a:cP) (m:Nat):∀ n k,Ar (List.replicate m 0++a) n k=DO (m*n) (Ar a n) k
 | 0,k=>by show Af k=if k<m*0 then 0 else Af (k - m*0);rw [sB ⋯];simp
 | n+1,k=>by
   show cvL (List.replicate m 0++a) (Ar (List.replicate m 0++a) n) k=_;rw [TU,TV (λk=>A8 (TW a m n) a k),TV (λk=>TR (Ar a n) a (m*n) k),wF,show m+m*n=m*(n+1) by rw [Nat.mul_succ];omega];rfl
theorem TX {c d:Nat} {b:dh} (e:∀ k,Bd d (b k)):∀ (a:cP) (k:Nat),(∀ z∈a,Bd c z)->Bd (c+d+a.length) (cvL a b k)
 | [],_,_=>Ci _
 | x::a,0,h=>by
   rw [Ap,Int.add_zero];exact ((h x (CH ..)).mul (e 0)).mono ⋯
 | x::a,k+1,h=>by
   rw [Ak];exact (((h x (CH ..)).mul (e (k+1))).mono (by omega:c+d<=c+d+a.length)).add (TX e a k λz f=>h z (Ca _ f))
theorem Mw {b:Nat} {f:cP} (h:∀ z∈f,Bd b z):∀ (n k:Nat),Bd ((b+f.length)*n+1) (Ar f n k)
 | 0,0=>Bd.one.mono ⋯
 | 0,_+1=>Ci _
 | n+1,k=>(TX (Mw h n) f k h).mono (by rw [Nat.mul_add];omega)
def wG (m:Nat) (f:dh):At (m+1) f=At m f++[V.int (f m)]:=by
 unfold At;rw [List.range_succ,DC,DC];rfl
def wH (h:KF K vs H Q E):Ph K { nx:=λ_ e=>Q .non e,rt:=Q } (L2.start ["row","n","result","place","found","step"] vs) H:=by
 obtain ⟨p,f,n,b,rfl,hp,F,O,u,P,q,Z,v,k⟩:=h;unfold Ph;have G:L_ (f.map V.int) 0=some (V.int (f.getD 0 0)):=DJ (j:=0) rfl (by rw [Aj,AT,Aw F];rfl);have z:Bd b (f.getD 0 0):=Ed u 0;rwa [hp,G];refine ⟨⋯,b,z,?_,sz ∅,λw I=>?_⟩
 ·rw [DF];have:=B8 n (Nat.le_add_right b f.length);omega
 have J:=AO I (.lst [.int (f.getD 0 0 ^ n)]);have A:=J _ _ hp;rw [DF];unfold Pf;rwa [A];have D8:n*(f.length - 1)<=480:=A7 (BN v (show f.length - 1<=8 by omega)) ∅
 have R:(n:Int)*(((f.map V.int).length:Int) - 1)=((n*(f.length - 1):Nat):Int):=by
  rw [AL];push_cast;rw [show ((f.length - 1:Nat):Int)=(f.length:Int) - 1 by omega]
 have S:∀ k,Bd 8000 (Ar f n k):=λk=>(Mw u n k).mono P;rw [R];refine ⟨F7 (E3 (x:=(n:Int)) ⋯ ⋯) (E3 (x:=((f.map V.int).length:Int) - 1) (by rw [AL];omega) (by rw [AL];omega)),∅,∅,⋯,⋯,?_⟩;rw [show (((n*(f.length - 1):Nat):Int)+1 - 1).toNat=n*(f.length - 1) by omega];refine ForR.by (λi c e=>∃ B C g:cO,c=[some (.ref p),some (.int (n:Int)),some (.ref w),B,C,g]/\Same H e/\e w=some (.lst (At (i+1) (Ar f n)))) ⟨none,none,none,rfl,J,?_⟩ ?_ ?_
 ·rw [upd_same,<-pow_zero];rfl
 ·rintro i c D hi ⟨B,C,g,rfl,r,a⟩;have d:=r _ _ hp;unfold PV PU;rwa [d];have T:(1:Int)+(i:Int)=((i+1:Nat):Int):=by omega
  rw [T]
  have em:(if (((f.map V.int).length:Int) - 1)<((i+1:Nat):Int) then ((f.map V.int).length:Int) - 1 else ((i+1:Nat):Int))=((min (i+1) (f.length - 1):Nat):Int):=by
   rw [AL];split <;> omega
  rw [em];refine ⟨∅,∅,⋯,⋯,?_⟩;rw [show (((min (i+1) (f.length - 1):Nat):Int)+1 - 1).toNat=min (i+1) (f.length - 1) by omega];refine ForR.by (λj c e=>∃ g:cO,c=[some (.ref p),some (.int (n:Int)),some (.ref w),some (.int ((i+1:Nat):Int)),some (.int (bv f (Ar f n) n (i+1) j)),g]/\e=D) ⟨_,rfl,rfl⟩ ?_ ?_
  ·rintro j c U hj ⟨y,rfl,rfl⟩;have W:L_ (f.map V.int) (1+(j:Int))=some (V.int (f.getD (j+1) 0)):=DJ (j:=j+1) ⋯ (by rw [Aj,AT,Aw ⋯];rfl);have X:L_ (At (i+1) (Ar f n)) (((i+1:Nat):Int) - (1+(j:Int)))=some (V.int (Ar f n (i - j))):=DJ (j:=i - j) ⋯ (DL _ ⋯);rwa [d,a,W];have Y:L_ (At (i+1) (Ar f n)) ((i:Int)+1 - (1+(j:Int)))=some (V.int (Ar f n (i - j))):=by rw [<-X];congr 1
   have L:Bd 64 (((n:Int)+1)*(1+(j:Int)) - ((i:Int)+1)):=by
    have h1:((n:Int)+1)*(1+(j:Int))<=61*9:=by
     have:=Int.mul_le_mul (show (n:Int)+1<=61 by omega) (show 1+(j:Int)<=9 by omega) ⋯ ∅;exact this
    have h2:0<=((n:Int)+1)*(1+(j:Int)):=Int.mul_nonneg ⋯ ⋯;exact E3 ⋯ ⋯
   have M:=Ed u (j+1);refine ⟨F7 (E3 (x:=(n:Int)+1) ⋯ ⋯) (E3 (x:=1+(j:Int)) ⋯ ⋯),F7 L (M.mono q),_,Y,_,rfl,F7 (L.mul (M.mono q)) (S _),?_,_,rfl⟩;show _=bv f (Ar f n) n (i+1) j+(((n:Int)+1)*((j+1:Nat):Int) - ((i+1:Nat):Int))*f.getD (j+1) 0*Ar f n (i+1 - (j+1));rw [show i+1 - (j+1)=i - j by omega,show ((j+1:Nat):Int)=1+(j:Int) by omega,show ((i+1:Nat):Int)=(i:Int)+1 by omega]
  ·rintro c U ⟨y,rfl,rfl⟩;rw [wD F];unfold PR;rwa [d,G,a];have m:((i:Int)+1)*f.getD 0 0≠0:=Bg ⋯ O;have N:Bd 64 ((i:Int)+1):=E3 ⋯ ⋯;refine ⟨IR a,F7 N (z.mono q),⟨m,(N.mul (z.mono q)).mono ∅⟩,DT (show _<=1000 by rw [Dc];omega) (by rw [sizeLine_eq];omega),λb o h=>Kp.upd b o (B6 h I) (r b o h),?_⟩;rw [Int.mul_fdiv_cancel_left _ m,wG (i+1)]
 ·rintro c D ⟨B,C,g,rfl,r,a⟩;unfold PZ;rwa [];exact k w D r a
def wI (xs:cN) (j:Nat):BU xs (some (j:Int)) none=xs.drop j:=by
 unfold BU HT.sIx;simp only [DF];rw [sB ⋯];by_cases h:j<=xs.length
 ·rw [Nat.min_eq_left h,List.take_of_length_le (by rw [List.length_drop];omega)]
 ·rw [Nat.min_eq_right ⋯,List.drop_length,List.take_nil,List.drop_eq_nil_of_le ⋯]
theorem wJ (k:Nat):B_ [(1,1)] k=((Af k:Int):Rat):=by
 cases k with
 | zero=>unfold B_ AR;show ((1:Int):Rat) / ((1:Int):Rat)=((1:Int):Rat);ext
 | succ k=>rw [Bc (by simp)];rfl
def wK {l:cJ} (a:AV l) (b:Nz l) (h:1<=l.length):(AJ l).getD (l.length - 1) 0≠0:=KK a b h
def wL {w:cP} {m:Nat} (b:m<=w.length) (h:∀ j,j<m->w.getD j 0=0):List.replicate m 0++w.drop m=w:=by
 apply List.ext_getElem?;intro i;by_cases a:i<m
 ·rw [GF (by rw [Dh];exact a),ER,sC a];have z:=h i a;rw [AT,Aw ⋯] at z;rw [Aw ⋯];exact congrArg some z.symm
 ·rw [List.getElem?_append_right (by rw [Dh];omega),Dh,List.getElem?_drop,show m+(i - m)=i by omega]
theorem TY (ns:cP):∀ n:Nat,(⟨λk=>((Ar ns n k:Int):Rat)⟩:Sr)=si ns ^ n
 | 0=>by
   rw [Sr.pow_z]
   exact Sr.ext' λk=>by
    show ((Af k:Int):Rat)=(((1:Nat)):Rat)*Af k;cases k with
    | zero=>show ((1:Int):Rat)=((1:Nat):Rat)*1;push_cast;ext
    | succ k=>show ((0:Int):Rat)=((1:Nat):Rat)*0;push_cast;ext
 | n+1=>by
   have e:(⟨λk=>((Ar ns (n+1) k:Int):Rat)⟩:Sr)=si ns*⟨λk=>((Ar ns n k:Int):Rat)⟩:=by
    rw [DN,Sr.L_mul];exact Sr.ext' λk=>Hm (Ar ns n) ns k
   rw [e,TY ns n,Sr.pow_s];ext
theorem Mx {x:Rat} (h:x≠0):∀ n:Nat,x⁻¹ ^ n*x ^ n=1
 | 0=>by ext
 | n+1=>by
   have:=Mx h n;have i:x⁻¹*x=1:=Et _ h;ext
def wM {x:Rat} (h:x≠0) (n:Nat):x ^ n≠0:=λz=>by
 have:=Mx h n;rw [z] at this;ext
def wN {l L:cJ} {n:Nat} (a:AV l) (h:∀ k,B_ L k=((Ar (AJ l) n k:Int):Rat) / ((AY l ^ n:Int):Rat)):sr L=sr l ^ n:=by
 rw [Dp a,Sr.mul_pow,Sr.num_pow,<-TY];refine Sr.ext' λk=>?_;rw [Sr.num_mul];show B_ L k=_*((Ar (AJ l) n k:Int):Rat);rw [h k,Rat.div_def,Rat.mul_comm];congr 1;rw [Rat.intCast_pow];have b:=Aq (AW (Bj a).1);have:=Mx b n;have:=Et _ (wM b n);ext
def wO (h:KG K vs H Q E):Qw K { nx:=λ_ b=>Q .non b,rt:=Q } (L2.start ["P","n","row","low"] vs) H:=by
 obtain ⟨p,xs,l,n,rfl,hp,hN,G,l4,o,k⟩:=h;obtain ⟨bw,P,bt⟩:=G.clr;have D:=G.low;have nl:=G.nz;have hb:(5+l.length)*n+1<=97:=by have:=BN (show 5+l.length<=8 by omega) o;omega
 have k:∀ (r:Addr) (b:Hp) (L:cJ),Same H b->Pl b r L->AV L->Nz L->(∀ k,B_ L k=((Ar (AJ l) n k:Int):Rat) / ((AY l ^ n:Int):Rat))->Q (.ref r) b:=λr b L u p1 aL nL e=>k r b L u p1 aL nL (El aL nL (Int.pow_pos (Bj D).1) ((P.pow n).mono ⋯) e λk=>(Mw bw n k).mono (by rw [Bv];exact hb)) (wN D e);have OL:=Bj D;have lx:=hN.length;have R:(AJ l).length=l.length:=by unfold AJ;rw [AL]
 unfold Qw;rwa [];refine Au (λn0=>?_) (λn0=>?_)
 ·have S:n=0:=by omega
  subst S;refine ⟨sz ∅,λB v=>⟨sz (by simp),λC y=>?_⟩⟩;have u:=AO v (.tup [.int 1,.int 1]);have s2:=AO y (.tup [.ref B]);refine k C _ [(1,1)] (u.trans s2) ⟨_,upd_same,⟨B,rfl,s2 _ _ upd_same⟩,trivial⟩ ?_ ?_ λk=>?_
  ·intro q f;rw [BA.mp f];exact ⟨∅,∅⟩
  ·intro q f;obtain rfl:=sJ f;decide
  ·rw [wJ,Int.pow_zero];show ((Af k:Int):Rat)=((Af k:Int):Rat) / ((1:Int):Rat);push_cast;ext
 unfold Qv;rwa [hp];refine ⟨l,hN,D,AY l,OL,P.mono ∅,λq f=>(bt q f).mono ∅,⋯,λr a T u hr ha=>?_⟩;have F:=u _ _ hp;unfold Qu Qt;rwa []
 have I:∀ m:Nat,m<=l.length->(∀ j,j<m->(AJ l).getD j 0=0)->(m<l.length->(AJ l).getD m 0≠0)->MJ K { nx:=λ_ b=>Q .non b,rt:=Q } [some (.ref p),some (.int (n:Int)),some (.ref r),some (.int (m:Int))] T:=by
  intro m U g A;unfold MJ;rwa [F];refine Au (λcc=>?_) (λcc=>?_)
  ·have l0:l=[]:=by
    rcases Ds l.length with h | h
    ·exact CL.mp h
    ·exact absurd (g (l.length - 1) ⋯) (wK D nl h)
   subst l0;refine ⟨sz ∅,λe he=>k e _ [] (u.trans (AO he _)) ⟨[],upd_same,trivial⟩ (λ_ h=>nomatch h) (λ_ h=>nomatch h) λc=>?_⟩;obtain ⟨W,rfl⟩:∃ W,n=W+1:=⟨n - 1,⋯⟩;show (B_ [] c:Rat)=((Ar [] (W+1) c:Int):Rat) / _;rw [wE,Bc (by simp)];exact (O_ _).symm
  ·have X:m<l.length:=by omega
   have A:=A X;unfold Qs;have mn:m*n<=160:=A7 (BN (show m<=4 by omega) o) ∅;have Y:(m:Int)*(n:Int)=((m*n:Nat):Int):=by push_cast;rfl
   rwa [];refine ⟨sz ∅,λB v=>⟨F7 (E3 (x:=(m:Int)) ⋯ ⋯) (E3 (x:=(n:Int)) ⋯ ⋯),?_⟩⟩;have Z:=AO v (.lst [.int 0]);rw [Y];refine ⟨⋯,⋯,sz ⋯,λC y=>?_⟩;rw [DF,IZ];have a0:=AO y (.lst (List.replicate (m*n) (V.int 0)));have u2:=Z.trans a0;have J:=u2 _ _ hr;have a1:=u2 _ _ ha;rwa [J,a1];rw [wI,<-List.map_drop];intro e3 a2;have a3:=AO a2 (.lst (((AJ l).drop m).map V.int));have dl:((AJ l).drop m).length=l.length - m:=by rw [List.length_drop,R]
   have d0:((AJ l).drop m).getD 0 0=(AJ l).getD m 0:=by rw [AT,AT,List.getElem?_drop,Nat.add_zero]
   refine ⟨(AJ l).drop m,n,rfl,rfl,⋯,by rw [d0];exact A,5,λz g=>bw z (List.mem_of_mem_drop g),?_,∅,⋯,⋯,λe4 H4 s4 h4=>?_⟩
   ·have:=B8 n (show 5+((AJ l).drop m).length<=5+l.length by omega);omega
   have u4:=a3.trans s4;have a4:upd (upd T B (.lst [.int 0])) C (.lst (List.replicate (m*n) (V.int 0))) C=some (HO.lst (List.replicate (m*n) (V.int 0))):=upd_same;have a5:=u4 _ _ a4;rwa [a5,h4];have a6:=u4 _ _ J;have nl:n*(((AJ l).drop m).length - 1)<=160:=A7 (BN o (show _<=4 by omega)) ∅;refine ⟨sz (by rw [Dh,AL,AL,BK];omega),λe5 a7=>?_⟩;have M:=AO a7 (.lst (List.replicate (m*n) (V.int 0)++((List.range (n*(((AJ l).drop m).length - 1)+1)).map (Ar ((AJ l).drop m) n)).map V.int));have Bn:0<AY l ^ n:=Int.pow_pos OL.1;refine ⟨_,M _ _ a6,_,rfl,AY l,rfl,⋯,3,P,by rw [DF];omega,List.replicate (m*n) 0++(List.range (n*(((AJ l).drop m).length - 1)+1)).map (Ar ((AJ l).drop m) n),?_,?_,?_,?_⟩
   ·rw [DC,List.map_replicate]
   ·rw [DF];exact AW Bn
   ·rw [DB,Dh,AL,BK];omega
   rw [DF];intro t zs H6 s6 h6 n6;have i:AV ((List.replicate (m*n) 0++(List.range (n*(((AJ l).drop m).length - 1)+1)).map (Ar ((AJ l).drop m) n)).map λz=>AX z (AY l ^ n)):=λq f=>by obtain ⟨z,_,rfl⟩:=BG.mp f;exact D2 (AW Bn)
   refine k t H6 _ ((((u.trans u2).trans u4).trans M).trans s6) ⟨zs,h6,n6⟩ (λq f=>i q (Cq f)) (EK _) λc=>?_;rw [Fo i]
   have B:∀ N:cP,B_ (N.map λz=>AX z (AY l ^ n)) c=(N.getD c 0:Rat) / ((AY l ^ n:Int):Rat):=λN=>by
    unfold B_ AR;rw [AT,AT,Aj];cases N[c]? with
    | none=>exact (O_ _).trans (O_ _).symm
    | some z=>exact Ee (AW Bn)
   rw [B]
   have C:(List.replicate (m*n) 0++(List.range (n*(((AJ l).drop m).length - 1)+1)).map (Ar ((AJ l).drop m) n)).getD c 0=Ar (AJ l) n c:=by
    have w:Ar (AJ l) n c=Ar (List.replicate m 0++(AJ l).drop m) n c:=by rw [wL ⋯ g]
    rw [w,TW];unfold DO;rw [AT];by_cases O:c<m*n
    ·rw [sC O,GF (by rw [Dh];exact O),ER,sC O];rfl
    ·rw [sB O,List.getElem?_append_right (by rw [Dh];omega),Dh,Aj];by_cases h2:c - m*n<n*(((AJ l).drop m).length - 1)+1
     ·rw [DE h2];rfl
     ·rw [CC (by rw [BK];omega),TQ ⋯ n _ ⋯];rfl
   rw [C]
 refine Ea (λd σ b=>∃ m:Nat,σ=[some (.ref p),some (.int (n:Int)),some (.ref r),some (.int (m:Int))]/\b=T/\m<=l.length/\(∀ j,j<m->(AJ l).getD j 0=0)/\d=l.length - m) l.length ⟨0,rfl,rfl,Ai _,λj hj=>absurd hj ⋯,rfl⟩ ?_;rintro d σ b ⟨m,rfl,rfl,U,g,rfl⟩;rwa [F,hr,ha];refine Au (λc1=>?_) (λc1=>?_)
 ·have hv:L_ ((AJ l).map V.int) (m:Int)=some (V.int ((AJ l).getD m 0)):=JU (by rw [Aj,AT,Aw ⋯];rfl);rwa [hv];refine Au (λc2=>?_) (λc2=>?_)
  ·refine ⟨_,λ_ _ h=>h,l.length - (m+1),⋯,m+1,?_,rfl,⋯,λj hj=>?_,rfl⟩
   ·push_cast;rfl
   ·by_cases e:j=m
    ·rw [e];exact c2
    ·exact g j ⋯
  ·exact I m U g λ_=>c2
 ·exact I m U g λh=>absurd h ⋯
theorem wP {n m:Nat} {l:cJ} (b:1<=n) (a:1<=m) (h:∀ q∈l,Bd n q.1/\Bd m q.2) (i:Nat):Bd n (AR l i).1/\Bd m (AR l i).2:=by
 unfold AR;rw [AT];cases e:l[i]? with
 | none=>exact ⟨Ci n,Bd.one.mono a⟩
 | some q=>exact h q (BV e)
def TZ {l:cJ} (b:Nz l) (h:1<=l.length):(AR l (l.length - 1)).1≠0:=by
 have a:l.length - 1<l.length:=by omega
 have q:=b l[l.length - 1] (by rw [Es];exact Aw a);have e:AR l (l.length - 1)=l[l.length - 1]:=by unfold AR;rw [AT,Aw a];rfl
 rw [e];exact q
def wQ (h:MD K vs H Q E):Qo K { nx:=λ_ c=>Q .non c,rt:=Q } (L2.start ["P"] vs) H:=by
 obtain ⟨p,f,l,rfl,hp,o,A,L,B,M,k⟩:=h;unfold Qo;rwa [hp];have C:=o.length;refine ⟨⟨_,SqT.of hp⟩,CompJ.tup (xs:=f) (λi d c=>i<=f.length/\Same H c/\Nums c d ((W_ l).take i)) ⟨Ai _,Same.refl H,trivial⟩ ?_ ?_ ?_⟩
 ·rintro i d c ⟨D,b,g⟩;refine ⟨D,sz ?_,b _ _ hp⟩;rw [g.length,CT];omega
 ·rintro i x d c F ⟨D,b,g⟩;have N:i<f.length:=(CK.mp F).1;obtain ⟨z,q,W,rfl,u⟩:=o.get F;obtain ⟨v,O,P,rfl,w⟩:=o.at (i:=l.length - 1) ⋯ (0,1);have y:=b _ _ hp;have R:L_ f (-1)=some (V.ref P):=MT ⋯ (by rw [C];exact O);have j:=b _ _ u;have m:=b _ _ w;have S:=A z (BV q);have G:=B z (BV q);have X:=B9 A (l.length - 1);have I:=wP ∅ ∅ B (l.length - 1);have T:=TZ L ⋯;rwa [y,R,j,m];refine ⟨S.pos,T,G.1.mono ∅,G.2.mono ∅,I.1.mono ∅,I.2.mono ∅,λr n=>⟨⋯,b.trans (AO n _),?_⟩⟩;have e:(W_ l)[i]?=some (AX (z.1*(AR l (l.length - 1)).2) (z.2*(AR l (l.length - 1)).1)):=by unfold W_;rw [Aj,q];rfl
  rw [FV,e];exact (g.tp (D_ (AO n _))).append (Nums.one Fw)
 ·rintro d c ⟨_,b,g⟩ a U;have e:(W_ l).take f.length=W_ l:=by rw [C,show l.length=(W_ l).length by unfold W_;rw [AL],Di]
  rw [e] at g;rwa [];intro r n;have J:=(AO U (.lst d)).trans (AO n (.tup d));exact k r d _ (b.trans J) upd_same (g.tp (D_ J))
def wR {l:cJ} (d:AV l) (k:Nz l) (m:l≠[]):AV (W_ l)/\(W_ l).length=l.length/\(∀ i,B_ (W_ l) i=B_ l i / B_ l (l.length - 1)):=by
 have n:1<=l.length:=BD.mpr m;have o:=B9 d (l.length - 1);have len:(W_ l).length=l.length:=by unfold W_;rw [AL]
 have f:=TZ k n;have p:∀ q∈l,q.2*(AR l (l.length - 1)).1≠0:=λq g=>Bg (AW (d q g).pos) f;refine ⟨λq g=>?_,len,λi=>?_⟩
 ·obtain ⟨z,r,rfl⟩:=BG.mp g;exact D2 (p z r)
 ·by_cases h:i<l.length
  ·have e:AR (W_ l) i=AX ((AR l i).1*(AR l (l.length - 1)).2) ((AR l i).2*(AR l (l.length - 1)).1):=by
    unfold W_;show (l.map _).getD i (0,1)=_;rw [AT,Aj,show AR l i=l[i] by unfold AR;rw [AT,Aw h];rfl,Aw h];rfl
   have j:=B9 d i;unfold B_;rw [e,Ee (Bg (AW j.pos) f)];unfold val;have a:=Aq (AW j.pos);have b:=Aq f;have c:=Aq (AW o.pos);rw [Rat.intCast_mul,Rat.intCast_mul];ext
  ·rw [Bc ⋯,Bc ⋯];exact (O_ _).symm
noncomputable def DP:cP->cP->cP
 | [],b=>b
 | x::a,[]=>x::a
 | x::a,y::b=>(x+y)::DP a b
theorem Kd:∀ a b:cP,(DP a b).length=max a.length b.length
 | [],b=>by show b.length=max 0 b.length;omega
 | x::a,[]=>by show (x::a).length=max (x::a).length 0;omega
 | x::a,y::b=>by
   show (DP a b).length+1=max (a.length+1) (b.length+1);rw [Kd a b];omega
theorem Ke:∀ a b:cP,L1 (DP a b)<=L1 a+L1 b
 | [],b=>by show L1 b<=0+L1 b;omega
 | x::a,[]=>by show L1 (x::a)<=L1 (x::a)+0;omega
 | x::a,y::b=>by
   have:=Ke a b;have h:=Int.natAbs_add_le x y;show (x+y).natAbs+L1 (DP a b)<=(x.natAbs+L1 a)+(y.natAbs+L1 b);omega
def De (x:Int) (a:cP):si (x::a)=Sr.num (x:Rat)+Sr.X 1*si a:=by
 rw [DN,DN,List.map_cons,Sr.L_cons]
def My:Sr.num ((0:Int):Rat)=0:=Sr.ext' λk=>by rw [Sr.zero_c];show ((0:Int):Rat)*Af k=0;rw [show ((0:Int):Rat)=0 from rfl];ext
def Gx:si []=0:=by rw [DN];exact Sr.L_nil
theorem Kf:∀ a b:cP,si (DP a b)=si a+si b
 | [],b=>by show si b=si []+si b;rw [Gx];ext
 | x::a,[]=>by show si (x::a)=si (x::a)+si [];rw [Gx];ext
 | x::a,y::b=>by
   show si ((x+y)::DP a b)=_;rw [De,De,De,Kf a b,show ((x+y:Int):Rat)=(x:Rat)+(y:Rat) from Rat.intCast_add x y,show Sr.num ((x:Rat)+(y:Rat))=Sr.num (x:Rat)+Sr.num (y:Rat) from Sr.num_add _ _];ext
noncomputable def FM:cP->cP->cP
 | [],_=>[]
 | x::a,b=>DP (b.map (x*·)) (0::FM a b)
theorem Mz (x:Int):∀ b:cP,L1 (b.map (x*·))=x.natAbs*L1 b
 | []=>rfl
 | y::b=>by
   show (x*y).natAbs+L1 (b.map (x*·))=x.natAbs*(y.natAbs+L1 b);rw [Mz x b,By,Nat.mul_add]
theorem Ta:∀ a b:cP,L1 (FM a b)<=L1 a*L1 b
 | [],b=>Ai _
 | x::a,b=>by
   refine A7 (Ke _ _) ?_;have:=Ta a b;have e:=Mz x b;show L1 (b.map (x*·))+(0+L1 (FM a b))<=(x.natAbs+L1 a)*L1 b;rw [e,Du];omega
theorem Tb:∀ a b:cP,si (FM a b)=si a*si b
 | [],b=>by show si []=si []*si b;rw [Gx];ext
 | x::a,b=>by
   show si (DP (b.map (x*·)) (0::FM a b))=_;rw [Kf,De,De,Tb a b,Em,My];ext
def wS {n m:Nat} (f:1<=m):∀ (a b:cP),a.length<=n->b.length<=m->(FM a b).length<=n+m - 1:=by
 have c:∀ a b:cP,b.length<=m->(FM a b).length<=a.length+m - 1:=λa=>by
  induction a with
  | nil=>intro b _;exact Ai _
  | cons x a e=>
    intro b d;show (DP (b.map (x*·)) (0::FM a b)).length<=a.length+1+m - 1;have:=e b d;rw [Kd,AL,Cf];omega
 intro a b g d;have:=c a b d;omega
noncomputable def dR:cP->cP
 | []=>[]
 | _::a=>DP a (0::dR a)
theorem M4:∀ a:cP,si (dR a)=Sr.D (si a)
 | []=>by show si []=Sr.D (si []);rw [DN];exact (Sr.L_nil.trans Sr.D_nil.symm)
 | x::a=>by
   show si (DP a (0::dR a))=_;rw [Kf,De,De,Sr.D_add,Sr.D_const,Sr.D_X,M4 a,My];ext
theorem M5:∀ a:cP,(dR a).length<=a.length
 | []=>Ai _
 | x::a=>by
   show (DP a (0::dR a)).length<=_;have:=M5 a;rw [Kd,Cf,Cf];omega
theorem M6:∀ a:cP,L1 (dR a)<=(a.length - 1)*L1 a
 | []=>Ai _
 | x::a=>by
   have:=M6 a;have h:=Ke a (0::dR a);have e:L1 (0::dR a)=L1 (dR a):=by show 0+L1 (dR a)=L1 (dR a);omega
   show L1 (DP a (0::dR a))<=(a.length+1 - 1)*(x.natAbs+L1 a)
   have b:L1 a+(a.length - 1)*L1 a<=a.length*L1 a:=by
    cases a with
    | nil=>exact Ai _
    | cons y a=>show L1 (y::a)+(a.length+1 - 1)*L1 (y::a)<=(a.length+1)*L1 (y::a);rw [Du,Nat.add_sub_cancel];omega
   have c:a.length*L1 a<=(a.length+1 - 1)*(x.natAbs+L1 a):=BN ⋯ ⋯;omega
def Iz.mono {A B n m:Nat} {f:Sr} (h:Iz A n f) (b:A<=B) (c:n<=m):Iz B m f:=let ⟨X,e,a,l⟩:=h;⟨X,e,⋯,⋯⟩
def Iz.pol {A n:Nat} {f:Sr} (h:Iz A n f):Sr.Pol f:=let ⟨X,e,_,_⟩:=h;e ▸ Cw X
def Iz.add {A B n m:Nat} {f g:Sr} (h:Iz A n f) (h':Iz B m g):Iz (A+B) (max n m) (f+g):=by
 obtain ⟨X,rfl,a,l⟩:=h;obtain ⟨Y,rfl,b,c⟩:=h';exact ⟨DP X Y,Kf X Y,A7 (Ke X Y) ⋯,by rw [Kd];omega⟩
def Iz.smul {A n:Nat} {f:Sr} (c:Int) (h:Iz A n f):Iz (c.natAbs*A) n (Sr.num (c:Rat)*f):=by
 obtain ⟨X,rfl,a,l⟩:=h;exact ⟨X.map (c*·),Em X,by rw [Mz];exact C5 _ a,by rw [AL];exact l⟩
def Iz.neg {A n:Nat} {f:Sr} (h:Iz A n f):Iz A n (-f):=by
 have:=h.smul (-1);rw [JE,show (-1:Sr)*f = -f by ext,show (-1:Int).natAbs=1 from rfl,Nat.one_mul] at this;exact this
def Iz.sub {A B n m:Nat} {f g:Sr} (h:Iz A n f) (h':Iz B m g):Iz (A+B) (max n m) (f - g):=by
 have:=h.add h'.neg;rw [show f + -g=f - g by grind] at this;exact this
def Iz.mul {A B n m:Nat} {f g:Sr} (b:1<=m) (h:Iz A n f) (h':Iz B m g):Iz (A*B) (n+m - 1) (f*g):=by
 obtain ⟨X,rfl,a,l⟩:=h;obtain ⟨Y,rfl,c,d⟩:=h';exact ⟨FM X Y,Tb X Y,A7 (Ta X Y) (BN a c),wS b X Y l d⟩
def Iz.D1 {A n:Nat} {f:Sr} (h:Iz A n f):Iz ((n - 1)*A) n (Sr.D f):=by
 obtain ⟨X,rfl,a,l⟩:=h;have:=M5 X;exact ⟨dR X,M4 X,A7 (M6 X) (BN ⋯ a),⋯⟩
def Iz.D {A n:Nat} {f:Sr} (h:Iz A n f) (b:1<=n):Iz (n*A) n (Sr.D f):=by
 obtain ⟨X,rfl,a,l⟩:=h;have:=M5 X;refine ⟨dR X,M4 X,A7 (M6 X) (BN ⋯ a),⋯⟩
theorem Iz.pow {A n:Nat} {f:Sr} (h:Iz A (n+1) f):∀ j:Nat,Iz (A ^ j) (n*j+1) (f ^ j)
 | 0=>⟨[1],by rw [Sr.pow_z];exact aK,by rw [Nat.pow_zero];decide,by show 1<=_;omega⟩
 | j+1=>by
   have:=(h.pow j).mul ⋯ h;rw [Sr.pow_s,CI];exact this.mono (AU _) (by rw [Nat.mul_succ];omega)
theorem Tc:∀ (X:cP) (k:Nat),(co X k).natAbs<=L1 X
 | [],k=>by rw [Ae (Ai _)];exact AU 0
 | x::X,0=>by show x.natAbs<=x.natAbs+L1 X;omega
 | x::X,k+1=>by
   have:=Tc X k;show (co X k).natAbs<=x.natAbs+L1 X;omega
def Iz.row {A n b:Nat} {f:Sr} (h:Iz A n f) (c:A<2 ^ b):∃ Z:cP,Tz Z/\si Z=f/\(∀ z∈Z,Bd b z)/\Z.length<=n:=by
 obtain ⟨X,rfl,a,l⟩:=h;obtain ⟨Z,t,d,e,g⟩:=Mq (F:=co X) (w:=X.length) (x:=b) (λk hk=>Ae hk) (λk=>DT (A7 (Tc X k) a) c);exact ⟨Z,t,Sr.ext' λk=>by show ((co Z k:Int):Rat)=_;rw [d];rfl,e,⋯⟩
def Wh.rp {A n B m b:Nat} {N D:Sr} {T U:cJ} (h:Wh A n B m N D T U) (c:A<2 ^ b) (d:B<2 ^ b):Rp b n m T U:=by
 obtain ⟨X,e,f,g,i⟩:=h.iN.row c;obtain ⟨Y,j,a,k,o⟩:=h.iD.row d;refine ⟨h.lw,X,Y,TD j (by rw [a];exact h.D0),e,g,k,i,o,?_⟩;rw [f,a];exact h.eq
def Wh.mono {A n B m a b c d:Nat} {N D:Sr} {T U:cJ} (h:Wh A n B m N D T U) (e:A<=a) (f:n<=b) (g:B<=c) (i:m<=d):Wh a b c d N D T U:=⟨h.lw,h.iN.mono e f,h.iD.mono g i,h.D0,h.eq⟩
def Iz.fp {A n b e:Nat} {f Y:Sr} {l:cJ} (h:Iz A n f) (c:A<2 ^ b) (d:n<2 ^ e) (g:AV l) (i:Sr.Pol Y) (j:f≠0) (k:f=Y*sr l):Fp (b+n*(2*e+4)) (AJ l):=by
 obtain ⟨X,m,a,o,p⟩:=h.row c;exact JD g (TD m (by rw [a];exact j)) o p d i (by rw [a];exact k)
def Te {T U c a X Y:cJ} {N D d b:Sr} (l:Lw X Y) (L1:Lw T U) (L2:Lw c a) (h:Sr.Pol N) (i:Sr.Pol D) (f:Sr.Pol d) (g:Sr.Pol b) (j:sr T*D=N*sr U) (k:sr c*b=d*sr a) (e:sr X*(sr U*sr a)=sr T*sr c*sr Y):sr X*(D*b)=N*d*sr Y:=by
 refine Sr.cancel ((AM X).mul (i.mul g)) ((h.mul f).mul (AM Y)) ((AM U).mul (AM a)) (Sr.ne_mul (AM U) (AM a) (Bw L1.lb L1.nb L1.ne) (Bw L2.lb L2.nb L2.ne)) ?_;have m:sr X*(D*b)*(sr U*sr a)=sr X*(sr U*sr a)*(D*b):=by ext
 have n:sr T*sr c*sr Y*(D*b)=sr T*D*(sr c*b)*sr Y:=by ext
 rw [m,e,n,j,k];ext
def Hs {s:Rat} {T U c a X Y:cJ} {N D f b:Sr} (l:Lw X Y) (L1:Lw T U) (L2:Lw c a) (i:Sr.Pol N) (h:Sr.Pol D) (g:Sr.Pol f) (d:Sr.Pol b) (j:sr T*D=N*sr U) (k:sr c*b=f*sr a) (e:sr X*(sr U*sr a)=(sr T*sr a+Sr.num s*sr c*sr U)*sr Y):sr X*(D*b)=(N*b+Sr.num s*f*D)*sr Y:=by
 refine Sr.cancel ((AM X).mul (h.mul d)) (((i.mul d).add (((Sr.Pol.num s).mul g).mul h)).mul (AM Y)) ((AM U).mul (AM a)) (Sr.ne_mul (AM U) (AM a) (Bw L1.lb L1.nb L1.ne) (Bw L2.lb L2.nb L2.ne)) ?_;have m:sr X*(D*b)*(sr U*sr a)=sr X*(sr U*sr a)*(D*b):=by ext
 have n:(sr T*sr a+Sr.num s*sr c*sr U)*sr Y*(D*b)=(sr T*D*(sr a*b)+Sr.num s*(sr c*b)*(sr U*D))*sr Y:=by ext
 rw [m,e,n,j,k];ext
def wT {T U X Y:cJ} {N D:Sr} (L1:Lw T U) (b:Sr.Pol N) (a:Sr.Pol D) (d:sr T*D=N*sr U) (e:sr X*(sr U*sr U)=(sr U*Sr.D (sr T) - sr T*Sr.D (sr U))*sr Y):sr X*(D*D)=(D*Sr.D N - N*Sr.D D)*sr Y:=by
 have f:=Bw L1.lb L1.nb L1.ne;have g:Sr.D (sr T)*D+sr T*Sr.D D=Sr.D N*sr U+N*Sr.D (sr U):=by rw [<-Sr.D_mul (AM T),<-Sr.D_mul b,d]
 refine Sr.cancel ((AM X).mul (a.mul a)) (((a.mul b.D).sub (b.mul a.D)).mul (AM Y)) ((AM U).mul (AM U)) (Sr.ne_mul (AM U) (AM U) f f) ?_;have h:sr X*(D*D)*(sr U*sr U)=sr X*(sr U*sr U)*(D*D):=by ext
 rw [h,e]
 have c:(sr U*Sr.D (sr T) - sr T*Sr.D (sr U))*(D*D)=(D*Sr.D N - N*Sr.D D)*(sr U*sr U):=by
  have i:Sr.D (sr T)*D=Sr.D N*sr U+N*Sr.D (sr U) - sr T*Sr.D D:=by rw [<-g];ext
  have j:(sr U*Sr.D (sr T) - sr T*Sr.D (sr U))*(D*D)=sr U*D*(Sr.D (sr T)*D) - (sr T*D)*Sr.D (sr U)*D:=by ext
  have k:sr U*D*(Sr.D N*sr U+N*Sr.D (sr U) - sr T*Sr.D D)=sr U*D*(Sr.D N*sr U+N*Sr.D (sr U)) - sr U*Sr.D D*(sr T*D):=by ext
  rw [j,i,k,d];ext
 have m:(sr U*Sr.D (sr T) - sr T*Sr.D (sr U))*sr Y*(D*D)=(sr U*Sr.D (sr T) - sr T*Sr.D (sr U))*(D*D)*sr Y:=by ext
 rw [m,c];ext
theorem JF (q:Nu) (l:cJ):sr (q::l)=Sr.num (val q)+Sr.X 1*sr l:=Sr.ext' λk=>by
 show B_ (q::l) k=val q*Af k+(Sr.X 1*sr l).c k;rw [Sr.X_mul];cases k with
 | zero=>rw [sB ⋯];show val q=val q*1+0;ext
 | succ k=>rw [sC ⋯];show B_ l k=val q*0+B_ l k;ext
def Ht (q:Nu):sr [q,(1,1)]=Sr.num (val q)+Sr.X 1:=by rw [JF,EA];ext
def JG (p q:Nu):sr [p,q,(1,1)]=Sr.num (val p)+Sr.X 1*(Sr.num (val q)+Sr.X 1):=by rw [JF,Ht]
def pX:Sr.Pol (Sr.X 1):=⟨_,rfl⟩
def DQ (n:Int):val (n,1)=(n:Rat):=by
 unfold val;show (n:Rat) / ((1:Int):Rat)=n;rw [show ((1:Int):Rat)=1 from rfl];ext
def FN (x y:Rat):Sr.num (x - y)=Sr.num x - Sr.num y:=by
 have h:=Sr.num_add (x - y) y;rw [show x - y+y=x by grind] at h;have:Sr.num x=Sr.num (x - y)+Sr.num y:=h;rw [this];ext
def JH (x y:Rat):Sr.num (x+y)=Sr.num x+Sr.num y:=Sr.num_add x y
def CB (x y:Rat):Sr.num (x*y)=Sr.num x*Sr.num y:=(Sr.num_num x y).symm
def Tf:Sr.num 2=2:=by
 have:Sr.num (1+1)=Sr.num 1+Sr.num 1:=JH 1 1;rw [Sr.num_one,show (1:Rat)+1=2 by grind] at this;rw [this];ext
def wU {c d:Rat} (h:c≠d):Sr.Cs (Sr.num c+Sr.X 1) (Sr.num d+Sr.X 1):=
 Sr.Cs.of_unit (x:=c - d) (λz=>h ()) rfl (Sr.Pol.nat 1) (Sr.Pol.nat 1).neg (by rw [FN];ext)
def wV {c b k:Rat} (h:(b - c)*(b - c)+k≠0):Sr.Cs (Sr.num c+Sr.X 1) (Sr.num (b*b+k)+Sr.X 1*(Sr.num (2*b)+Sr.X 1)):=
 Sr.Cs.of_unit h rfl (pX.add (Sr.Pol.num (2*b - c))).neg (Sr.Pol.nat 1) (by
  have e:Sr.num ((b - c)*(b - c)+k)=Sr.num (b*b+k) - Sr.num c*(Sr.num (2*b) - Sr.num c):=by
   rw [<-FN,<-CB,<-FN];congr 1;ext
  rw [e,FN];ext)
def wW {b k d j:Rat} (n:b≠d) (h:(b*(2*(b - d)) - (b*b - d*d+k - j))*(b*(2*(b - d)) - (b*b - d*d+k - j))+k*(2*(b - d))*(2*(b - d))≠0):Sr.Cs (Sr.num (b*b+k)+Sr.X 1*(Sr.num (2*b)+Sr.X 1)) (Sr.num (d*d+j)+Sr.X 1*(Sr.num (2*d)+Sr.X 1)):=by
 obtain ⟨a,e⟩:∃ a,a=2*(b - d):=⟨_,rfl⟩;obtain ⟨c,f⟩:∃ c,c=b*b - d*d+k - j:=⟨_,rfl⟩;rw [<-e,<-f] at h;refine Sr.Cs.of_unit h rfl (U:=Sr.num (a*a) - (Sr.num a*Sr.X 1+Sr.num (2*b*a - c))) (W:=Sr.num a*Sr.X 1+Sr.num (2*b*a - c)) ((Sr.Pol.num _).sub (((Sr.Pol.num _).mul pX).add (Sr.Pol.num _))) (((Sr.Pol.num _).mul pX).add (Sr.Pol.num _)) ?_;have g:Sr.num (d*d+j)=Sr.num (b*b+k) - Sr.num c:=by rw [<-FN];congr 1;ext
 have i:Sr.num (2*d)=Sr.num (2*b) - Sr.num a:=by rw [<-FN];congr 1;ext
 have m:Sr.num (2*b*a - c)=Sr.num (2*b)*Sr.num a - Sr.num c:=by rw [FN,CB]
 have o:Sr.num ((b*a - c)*(b*a - c)+k*a*a)=Sr.num (b*b+k)*Sr.num a*Sr.num a - Sr.num (2*b)*Sr.num a*Sr.num c+Sr.num c*Sr.num c:=by
  rw [<-CB,<-CB,<-CB,<-CB,<-CB,<-FN,<-JH];congr 1;ext
 rw [g,i,m,o,CB];ext
def wX:Sr.D (Sr.X 1)=1:=by
 have h:=Sr.D_X (1:Sr);have a:Sr.D (1:Sr)=0:=by have:=Sr.D_const 1;rw [Sr.num_one] at this;exact this
 rw [show Sr.X 1*(1:Sr)=Sr.X 1 by ext,a] at h;rw [h];ext
def Tg (c:Rat):Sr.D (Sr.num c+Sr.X 1)=1:=by rw [Sr.D_add,Sr.D_const,wX];ext
def wY (p q:Rat):Sr.D (Sr.num p+Sr.X 1*(Sr.num q+Sr.X 1))=Sr.num q+2*Sr.X 1:=by rw [Sr.D_add,Sr.D_const,Sr.D_X,Tg];ext
noncomputable def kQ:cP:=[1,2,3,5,-2,-3,-5]
def wZ:∀ t∈([-5,-4,-3,-2,-1,0,1,2,3,4,5]:cP),∀ s∈([1,2,3]:cP),∀ b∈([-2,-1,0,1,2]:cP),∀ k∈kQ,(b*s - t)*(b*s - t)+k*s*s≠0:=by decide +kernel
def vA:∀ b∈([-2,-1,0,1,2]:cP),∀ k∈kQ,∀ d∈([-2,-1,0,1,2]:cP),∀ j∈kQ,b≠d->(b*(2*(b - d)) - (b*b - d*d+k - j))*(b*(2*(b - d)) - (b*b - d*d+k - j))+k*(2*(b - d))*(2*(b - d))≠0:=by decide +kernel
def vB {t:Int} (h:t.natAbs<=5):t∈([-5,-4,-3,-2,-1,0,1,2,3,4,5]:cP):=by
 have:t = -5\/t = -4\/t = -3\/t = -2\/t = -1\/t=0\/t=1\/t=2\/t=3\/t=4\/t=5:=by omega
 rcases this with h | h | h | h | h | h | h | h | h | h | h <;> subst h <;> decide
def Hu {t:Int} (h:t.natAbs<=2):t∈([-2,-1,0,1,2]:cP):=by
 have:t = -2\/t = -1\/t=0\/t=1\/t=2:=by omega
 rcases this with h | h | h | h | h <;> subst h <;> decide
def vC {t:Int} (h:0<t) (a:t<=3):t∈([1,2,3]:cP):=by
 have:t=1\/t=2\/t=3:=by omega
 rcases this with h | h | h <;> subst h <;> decide
def Gy {z:Int} (h:z≠0):(z:Rat)≠0:=Aq h
def vD {t s b k:Int} (h:Low t s) (a:t.natAbs<=5) (c:s<=3) (d:b.natAbs<=2) (f:k∈kQ):((b:Rat) - val (t,s))*(b - val (t,s))+k≠0:=λz=>by
 refine wZ t (vB a) s (vC h.pos c) b (Hu d) k f ?_;have g:(s:Rat)≠0:=Gy (AW h.pos);have e:val (t,s)*(s:Rat)=t:=by unfold val;ext
 have:(((b*s - t)*(b*s - t)+k*s*s:Int):Rat)=0:=by
  push_cast;have:((b:Rat)*s - t)*(b*s - t)+k*s*s=(((b:Rat) - val (t,s))*(b - val (t,s))+k)*(s*s):=by rw [<-e];ext
  rw [this,z];ext
 exact Rat.intCast_eq_zero_iff.mp this
theorem vE {l m:cJ} (h:Fv l) (h':Fv m) (n:l≠m):Sr.Cs (sr l) (sr m):=by
 have v:∀ {t s b k:Int},Low t s->t.natAbs<=5->s<=3->b.natAbs<=2->k∈kQ->Sr.Cs (sr [(t,s),(1,1)]) (sr [(b*b+k,1),(2*b,1),(1,1)]):=λ{t s b k} h g p q w=>by
  have:=wV (vD h g p q w);rw [Ht,JG,DQ,DQ];push_cast;exact this
 cases h with
 | lin t s g p q=>
   cases h' with
   | lin x y a c f=>
     rw [Ht,Ht];exact wU λz=>n (by rw [FA g a z])
   | quad b k i o=>exact v g p q i o
 | quad b k i o=>
   cases h' with
   | lin x y a c f=>exact (v a c f i o).comm
   | quad d j r u=>
     rw [JG,JG,DQ,DQ,DQ,DQ];push_cast;by_cases e:b=d
     ·subst e
      have A:(k:Rat) - j≠0:=λz=>n (by
       have:k=j:=Rat.intCast_inj.mp ();rw [this])
      exact Sr.Cs.of_unit A rfl (Sr.Pol.nat 1) (Sr.Pol.nat 1).neg (by rw [FN,JH,JH];ext)
     ·refine wW (λz=>e (Rat.intCast_inj.mp z)) λz=>vA b (Hu i) k o d (Hu r) j u e (Rat.intCast_eq_zero_iff.mp ?_);push_cast;exact z
theorem vF {l:cJ} (h:Fv l):Sr.Cs (Sr.D (sr l)) (sr l):=by
 cases h with
 | lin t s e f g=>rw [Ht,Tg];exact Sr.Cs.one.comm
 | quad b k i a=>
   rw [JG,wY,DQ,DQ];push_cast
   have c:(4:Rat)*k≠0:=λz=>by
    have:k=0:=Rat.intCast_eq_zero_iff.mp ();subst this;revert a;decide
   refine Sr.Cs.of_unit c rfl (U:=-(Sr.num (2*(b:Rat))+2*Sr.X 1)) (W:=4) ((Sr.Pol.num _).add ((Sr.Pol.nat 2).mul pX)).neg (Sr.Pol.nat 4) ?_;have d:Sr.num 4=4:=by rw [show (4:Rat)=2*2 by ext,CB,Tf];ext
   rw [CB 4,JH,CB (b:Rat),CB 2,d,Tf];ext
structure Fr (l:cJ) (X:cP) (κ:Nat):Prop where
 k0:0<κ
 k3:κ<=3
 kq:l.length=3->κ=1
 e:si X=Sr.num (κ:Rat)*sr l
 l14:L1 X<=14
 l8:L1 X<=8 ^ (l.length - 1)
 len:X.length<=l.length
theorem Kg {l:cJ} (h:Fv l):∃ X a,Fr l X a:=by
 cases h with
 | lin t s d f g=>
   have i:=d.pos;obtain ⟨a,rfl⟩:∃ a:Nat,s=a:=⟨s.toNat,⋯⟩;refine ⟨[t,a],a,⋯,⋯,λz=>by simp at z,?_,?_,?_,AU _⟩
   ·rw [De,De,Gx,Ht]
    have e:Sr.num (t:Rat)=Sr.num (a:Rat)*Sr.num (val (t,(a:Int))):=by
     rw [<-CB];congr 1;unfold val;have:((a:Int):Rat)≠0:=Gy ⋯;show (t:Rat)=(a:Rat)*((t:Rat) / ((a:Int):Rat));rw [show (a:Rat)=((a:Int):Rat) from (Rat.intCast_natCast a).symm];ext
    rw [e,Rat.intCast_natCast];ext
   ·show t.natAbs+(a+0)<=14;omega
   ·show t.natAbs+(a+0)<=8;omega
 | quad b c d f=>
   refine ⟨[b*b+c,2*b,1],1,∅,∅,λ_=>rfl,?_,?_,?_,AU _⟩
   ·rw [De,De,De,Gx,JG,DQ,DQ,show ((1:Int):Rat)=1 from rfl,show ((1:Nat):Rat)=1 from rfl,Sr.num_one];ext
   ·have:∀ b∈([-2,-1,0,1,2]:cP),∀ c∈kQ,L1 [b*b+c,2*b,1]<=14:=by decide
    exact this b (Hu d) c f
   ·have:∀ b∈([-2,-1,0,1,2]:cP),∀ c∈kQ,L1 [b*b+c,2*b,1]<=64:=by decide
    exact this b (Hu d) c f
theorem FO {l:cJ} (h:Fv l):Gq 5 3 l/\l≠[]/\2<=l.length/\l.length<=3/\AR l (l.length - 1)=(1,1):=by
 cases h with
 | lin t s f i m=>
   have k:=f.pos;refine ⟨⟨λq a=>?_,λq a=>?_,s,⟨k,λq a=>?_⟩,(show Bd 3 s by unfold Bd;omega),λz d=>?_⟩,by simp,AU _,by simp,rfl⟩
   ·rcases Bx.mp a with rfl | a
    ·exact f
    ·rw [BA.mp a];exact Gu
   ·obtain rfl:(1,1)=q:=sJ a;decide
   ·rcases Bx.mp a with rfl | a
    ·exact Dj _
    ·rw [BA.mp a];exact Int.one_dvd _
   ·have e:N_ [(t,s),(1,1)] s=[t*(s / s),1*(s / 1)]:=rfl;rw [e,Int.ediv_self ⋯,Int.ediv_one,Int.mul_one,Int.one_mul] at d;show Bd 5 z;unfold Bd;rcases Bx.mp d with rfl | d
    ·omega
    ·rw [BA.mp d];omega
 | quad b c f i=>
   have g:∀ b∈([-2,-1,0,1,2]:cP),∀ c∈kQ,(b*b+c).natAbs<2 ^ 5/\(2*b).natAbs<2 ^ 5:=by decide
   have g:=g b (Hu f) c i;have j:∀ n:Int,Low n 1:=λn=>⟨∅,by simp⟩;refine ⟨⟨λq a=>?_,λq a=>?_,1,⟨∅,λq a=>?_⟩,(show Bd 3 1 by unfold Bd;decide),λz d=>?_⟩,by simp,by simp,AU _,rfl⟩
   ·rcases Bx.mp a with rfl | a
    ·exact j _
    ·rcases Bx.mp a with rfl | a
     ·exact j _
     ·rw [BA.mp a];exact Gu
   ·obtain rfl:(1,1)=q:=sJ a;decide
   ·rcases Bx.mp a with rfl | a
    ·exact Dj _
    ·rcases Bx.mp a with rfl | a
     ·exact Dj _
     ·rw [BA.mp a];exact Dj _
   ·have e:N_ [(b*b+c,1),(2*b,1),(1,1)] 1=[(b*b+c)*(1 / 1),2*b*(1 / 1),1*(1 / 1)]:=rfl;rw [e,Int.ediv_one,Int.mul_one,Int.mul_one,Int.mul_one] at d;rcases Bx.mp d with rfl | d
    ·exact g.1
    ·rcases Bx.mp d with rfl | d
     ·exact g.2
     ·rw [BA.mp d];unfold Bd;decide
theorem Ti {d q:Sr} (e:Sr.Pol d) (f:Sr.Pol q) (h:d*q=1):∃ x:Rat,x≠0/\d=Sr.num x:=by
 have g:d≠0:=λz=>Sr.one_ne (by rw [<-h,z];ext);have i:q≠0:=λz=>Sr.one_ne (by rw [<-h,z];ext);obtain ⟨n,p⟩:=e.bn;obtain ⟨r,a⟩:=f.bn;rcases Sr.top_ex n p with z | ⟨m,_,b,c⟩
 ·exact absurd z g
 rcases Sr.top_ex r a with z | ⟨j,_,u,v⟩
 ·exact absurd z i
 have t:=(Sr.top_mul c v).1;rw [h] at t;cases m with
 | zero=>
   refine ⟨d.c 0,b,Sr.ext' λk=>?_⟩;cases k with
   | zero=>show d.c 0=d.c 0*1;ext
   | succ k=>rw [c (k+1) ⋯];show (0:Rat)=d.c 0*0;ext
 | succ m=>
   exfalso;have o:(1:Sr).c (m+1+j)=0:=by rw [FK,show m+1+j=(m+j)+1 by omega];rfl
   rw [o] at t;exact K' b u t.symm
theorem exact {X Y:cJ} {P L:Sr} {n:Nat} (b:Lw X Y) (d:Sr.Pol P) (f:Sr.Pol L) (cs:Sr.Cs P L) (g:L.c n≠0) (j:Sr.Bn L (n+1)) (e:sr X*L=P*sr Y):∃ x:Rat,x≠0/\L=Sr.num x*sr Y/\Y.length=n+1:=by
 obtain ⟨Z,m,a,o⟩:=En b d f e;obtain ⟨A,B,p,q,h⟩:=cs;obtain ⟨x,c,r⟩:=Ti m ((p.mul (AM X)).add (q.mul (AM Y))) (show Z*(A*sr X+B*sr Y)=1 by rw [<-h];rw [show A*P+B*L=A*(Z*sr X)+B*(Z*sr Y) by rw [<-o,<-a]];ext);rw [r] at a;have i:=Sr.num_inv c;have u:sr Y=Sr.num x⁻¹*L:=by rw [a];ext
 obtain ⟨_,v,_⟩:=KY b.lb b.nb u (n:=n) (by rw [Sr.num_mul];exact K' (Sw c) g) (λk hk=>by rw [Sr.num_mul,j k hk];ext);exact ⟨x,c,a,v⟩
def JI {l:cJ} (h:AR l (l.length - 1)=(1,1)):(sr l).c (l.length - 1)=1:=EQ h
def Lw.top {T U:cJ} (h:Lw T U):(sr U).c (U.length - 1)=1/\Sr.Bn (sr U) (U.length - 1+1):=⟨JI h.one,by
 have:=BD.mpr h.ne;rw [Nat.sub_add_cancel this];exact Ho U⟩
theorem Kh {f:Sr} {n:Nat} (a:f.c n=1) (c:Sr.Bn f (n+1)):∀ j:Nat,(f ^ j).c (n*j)=1/\Sr.Bn (f ^ j) (n*j+1)
 | 0=>by
   rw [Sr.pow_z,Nat.mul_zero]
   exact ⟨FK 0,λk hk=>by rw [FK];cases k with
    | zero=>omega
    | succ k=>rfl⟩
 | j+1=>by
   obtain ⟨h,b⟩:=Kh a c j;have:=Sr.top_mul b c;rw [h,a] at this;rw [Sr.pow_s,Nat.mul_succ];exact ⟨by rw [this.1];ext,this.2⟩
def Sr.Cs.num {f g:Sr} {x:Rat} (c:x≠0) (h:Sr.Cs (Sr.num x*f) g):Sr.Cs f g:=by
 obtain ⟨U,W,a,b,e⟩:=h;exact ⟨U*Sr.num x,W,a.mul (Sr.Pol.num x),b,by rw [<-e];ext⟩
def M7 {f:Sr} {x:Rat} (a:x≠0):Sr.Cs (Sr.num x) f:=⟨Sr.num x⁻¹,0,Sr.Pol.num _,Sr.Pol.nat 0,by rw [Sr.num_inv a];ext⟩
def Pc.mk' {l X Y:cJ} (p:Fv l) {j A B n m:Nat} {P N D:Sr} {q:Rat} (a:Lw X Y) (d:Sr.Pol P) (cs:Sr.Cs P (sr l)) (e:sr X*sr l ^ j=P*sr Y) (r:q≠0) (u:N=Sr.num q*P) (f:D=Sr.num q*sr l ^ j) (v:Iz A n N) (w:Iz B m D) (y:A<=2*((l.length - 1)*j)*24 ^ ((l.length - 1)*j)) (C:n<=(l.length - 1)*j+1) (F:B<=24 ^ ((l.length - 1)*j)) (G:m<=(l.length - 1)*j+1) (U:(l.length - 1)*j<=6):Pc l X Y/\Y.length=(l.length - 1)*j+1:=by
 obtain ⟨g,i,_,_,o⟩:=FO p;have I:=JI o;have J:=BD.mpr i;obtain ⟨t,b⟩:=Kh I (by rw [Nat.sub_add_cancel J];exact Ho l) j;have k:=(AM l).pow j;have L:=cs.pow d (AM l) j;have M:sr l ^ j≠0:=Sr.pow_ne (AM l) (Bw g.low g.nz i) j;obtain ⟨x,W,O,c⟩:=exact a d k L (by rw [t];decide) b e;refine ⟨⟨a,λz R S=>(S.pow R (AM l) j).dvd (Sr.Pol.num x) O,⟨N,D,?_⟩,by rw [c];omega⟩,c⟩;have T:Y.length - 1=(l.length - 1)*j:=by omega
 rw [T,c];refine ⟨a,v.mono y C,w.mono F G,?_,?_⟩
 ·rw [f];exact Sr.ne_mul (Sr.Pol.num q) k (λz=>r (by have:=sM (congrArg Sr.c z) 0;rw [Sr.zero_c] at this;have h:q*1=0:=this;ext)) M
 ·rw [u,f];have:sr X*(Sr.num q*sr l ^ j)=Sr.num q*(sr X*sr l ^ j):=by ext
  rw [this,e];ext
def vG {l:cJ}:Pc l [] [(1,1)]:=by
 have a:Lw [] [((1:Int),(1:Int))]:=be (λ_ h=>nomatch h) (λ_ h=>nomatch h);refine ⟨a,λz _ _=>by rw [EA];exact Sr.Cs.one,⟨0,1,⟨a,⟨[],Gx,AU 0,Ai _⟩,⟨[1],aK,∅,∅⟩,one_ne,by rw [GA];ext⟩⟩,∅⟩
def vH {X Y:cJ} {L:Sr} (a:Lw X Y) (b:Sr.Pol L) (c:L≠0) (e:sr X*L=0*sr Y):X=[]/\Y=[(1,1)]:=by
 refine a.uniq (be (T:=[]) (λ_ h=>nomatch h) (λ_ h=>nomatch h)) (Sr.cancel ((AM X).mul (AM _)) ((AM []).mul (AM Y)) b c ?_);rw [EA,GA,show sr X*1*L=sr X*L by ext,e];ext
def Tj {k d f:Nat} {T U m i X Y:cJ} {N D h j:Sr} (l:Lw X Y) (w:Wh ((54+12*d)*24 ^ d) (d+1+k) (6*24 ^ d) (d+1) N D T U) (g:Wh (2*f*24 ^ f) (f+1) (24 ^ f) (f+1) h j m i) (e:sr X*(sr U*sr i)=(sr T*sr i+Sr.num 1*sr m*sr U)*sr Y) :
  Wh ((54+12*(d+f))*24 ^ (d+f)) (d+f+1+k) (6*24 ^ (d+f)) (d+f+1) (N*j+h*D) (D*j) X Y:=by
 have q:=Hs l w.lw g.lw w.iN.pol w.iD.pol g.iN.pol g.iD.pol w.eq g.eq e;refine ⟨l,((w.iN.mul ⋯ g.iD).add (g.iN.mul ⋯ w.iD)).mono ?_ ⋯,(w.iD.mul ⋯ g.iD).mono ?_ ⋯,Sr.ne_mul w.iD.pol g.iD.pol w.D0 g.D0,?_⟩
 ·have p:=Nat.pow_add 24 d f;generalize 24 ^ (d+f)=a at p ⊢;generalize 24 ^ d=b at p ⊢;generalize 24 ^ f=c at p ⊢;subst p;have n:(54+12*d)*b*c=(54+12*d)*(b*c):=Nat.mul_assoc ..;have o:2*f*c*(6*b)=12*f*(b*c):=by ext
  rw [n,o,<-Du];exact B8 _ ⋯
 ·rw [Nat.pow_add,Nat.mul_assoc];exact AU _
 ·rw [q,Sr.num_one,show (1:Sr)*h*D=h*D by grind]
def Iy.add {k:Nat} {i:List cI} {l T U c b X Y:cJ} (h:Iy k i T U) (p:Pc l c b) (o:Fv l) (G:l∉i) (u:U.length+b.length<=6) (j:Lw X Y) (e:sr X*(sr U*sr b)=(sr T*sr b+Sr.num 1*sr c*sr U)*sr Y):Iy k (l::i) X Y/\Y.length+1=U.length+b.length:=by
 have q:=p.co _ (AM U) (h.cs l o G)
 have I:Sr.Cs (sr T*sr b+Sr.num 1*sr c*sr U) (sr U):=by
  have a:Sr.Cs (sr T*sr b) (sr U):=(h.lw.cs.comm.mul (AM U) (AM T) q).comm;exact a.add (AM c) (by rw [Sr.num_one];ext)
 have J:Sr.Cs (sr T*sr b+Sr.num 1*sr c*sr U) (sr b):=by
  have a:Sr.Cs (sr c*sr U) (sr b):=(p.lw.cs.comm.mul (AM b) (AM c) q.comm).comm;exact a.add (AM T) (by rw [Sr.num_one];ext)
 have r:Sr.Pol (sr T*sr b+Sr.num 1*sr c*sr U):=((AM _).mul (AM _)).add (((Sr.Pol.num 1).mul (AM _)).mul (AM _));have t:=Sr.top_mul h.lw.top.2 p.lw.top.2;rw [h.lw.top.1,p.lw.top.1] at t;obtain ⟨x,L,M,O⟩:=exact j r ((AM U).mul (AM b)) (I.mul r (AM U) J) (by rw [t.1];ext) t.2 e;have u1:=BD.mpr h.lw.ne;have u2:=BD.mpr p.lw.ne;obtain ⟨N,D,w⟩:=h.sz;obtain ⟨P,v,y⟩:=p.sz;obtain ⟨d,A⟩:∃ d,U.length=d+1:=⟨U.length - 1,⋯⟩;obtain ⟨f,g⟩:∃ f,b.length=f+1:=⟨b.length - 1,⋯⟩;rw [A,show d+1 - 1=d by omega] at w;rw [g,show f+1 - 1=f by omega] at y;have n:Y.length=d+f+1:=by rw [A,g] at O;omega
 refine ⟨⟨j,λm B C=>?_,⟨N*v+P*D,D*v,?_⟩,⋯⟩,⋯⟩
 ·have R:m∉i:=λz=>C (Ca _ z);have S:m≠l:=λz=>C (z ▸ CH);have W:=(h.cs m B R).comm;have Z:=p.co _ (AM m) (vE B o S);have F:=(W.mul (AM m) (AM U) Z).comm;rw [M] at F;exact F.num L
 ·rw [n,show d+f+1 - 1=d+f by omega];exact Tj j w y e
def Iy.fin {k:Nat} {a:List cI} {T U:cJ} (h:Iy k a T U):∃ N D,Wh (102*24 ^ 4) (5+k) (6*24 ^ 4) 5 N D T U:=by
 obtain ⟨N,D,w⟩:=h.sz;have:=h.d5;have p:24 ^ (U.length - 1)<=24 ^ 4:=Dq ∅ ⋯;exact ⟨N,D,w.mono (BN ⋯ p) ⋯ (C5 _ p) ⋯⟩
def Iy.last {k:Nat} {i:List cI} {l T U f a X Y:cJ} (h:Iy k i T U) (p:Pc l f a) (u:U.length+a.length<=6) (j:Lw X Y) (e:sr X*(sr U*sr a)=(sr T*sr a+Sr.num 1*sr f*sr U)*sr Y):∃ N D,Wh (102*24 ^ 4) (5+k) (6*24 ^ 4) 5 N D X Y:=by
 have n:=BD.mpr h.lw.ne;have o:=BD.mpr p.lw.ne;obtain ⟨N,D,w⟩:=h.sz;obtain ⟨q,r,g⟩:=p.sz;obtain ⟨d,m⟩:∃ d,U.length=d+1:=⟨U.length - 1,⋯⟩;obtain ⟨b,c⟩:∃ b,a.length=b+1:=⟨a.length - 1,⋯⟩;rw [m,show d+1 - 1=d by omega] at w;rw [c,show b+1 - 1=b by omega] at g;have p:24 ^ (d+b)<=24 ^ 4:=Dq ∅ ⋯;exact ⟨_,_,(Tj j w g e).mono (BN ⋯ p) ⋯ (C5 _ p) ⋯⟩
def Iy.sub {k:Nat} {a vs:List cI} {T U:cJ} (h:Iy k a T U) (s:∀ l∈a,l∈vs):Iy k vs T U:=⟨h.lw,λl b n=>h.cs l b λz=>n (s l z),h.sz,h.d5⟩
def Pc.rp {l T U:cJ} (h:Pc l T U) (u:U.length<=5):Rp 22 5 5 T U:=by
 obtain ⟨N,D,w⟩:=h.sz;have p:24 ^ (U.length - 1)<=24 ^ 4:=Dq ∅ ⋯;have q:2*(U.length - 1)*24 ^ (U.length - 1)<=2*4*24 ^ 4:=BN ⋯ p;exact (w.mono q u p u).rp ∅ ∅
def Iy.rp {k:Nat} {a:List cI} {T U:cJ} (h:Iy k a T U):Rp 26 (5+k) 5 T U:=let ⟨_,_,w⟩:=h.fin;w.rp ∅ ∅
def GC {a b:Int} (c:-18446744073709551616<b) (d:b<18446744073709551616):IntMulOk a b:=IntMulOk.of_right (intBits_le_64 ⋯ ⋯)
def vI {a b:Int} (c:-18446744073709551616<a) (d:a<18446744073709551616):IntMulOk a b:=IntMulOk.of_left (intBits_le_64 ⋯ ⋯)
def Tk {ns:cP} {k:Int} (b:0<=k) (h:k<(ns.length:Int)):∃ v:Int,L_ (ns.map V.int) k=some (.int v):=by
 have hk:k.toNat<ns.length:=by omega
 have a:k=((k.toNat:Nat):Int):=by omega
 have q:L_ (ns.map V.int) ((k.toNat:Nat):Int)=some (.int ns[k.toNat]):=JU (by rw [Aj,Aw hk] <;> rfl);rw [<-a] at q;exact ⟨_,q⟩
def M8 (ns:cP) (lo b:Option Int):∃ a:cP,BU (ns.map V.int) lo b=a.map V.int/\a.length<=ns.length/\∀ m∈a,m∈ns:=by
 unfold BU;rw [<-List.map_drop,<-List.map_take];exact ⟨_,rfl,by rw [CT,List.length_drop];omega,λm h=>List.mem_of_mem_drop (GI h)⟩
def Tm {xs:cN} {a b:Int} (h:0<=a) (c:a<=b):((BU xs (some a) (some b)).length:Int)<=b - a:=by
 unfold BU HT.sIx;rw [CT,List.length_drop];simp only [sB (show ¬ a<0 by omega),sB (show ¬ b<0 by omega)];omega
def Dr.sub {a b:cP} (h:Dr a) (s:∀ m∈b,m∈a):Dr b:=λd c=>h d (s d c)
def Dr.at {a:cP} (h:Dr a) {i:Nat} {j:Int} (e:j=(i:Int)) (b:i<a.length):∃ d:Int,L_ (a.map V.int) j=some (.int d)/\0<=d/\d<1000:=by
 refine ⟨a[i],DJ e (by rw [Aj,Aw b];rfl),h _ (Er b)⟩
def vJ {x y:Int} (a:0<=y) (b:y<4611686018427387904):IntMulOk x y:=GC ⋯ ⋯
def vK (h:KH K vs H Q E):RA K { nx:=λ_ d=>Q .non d,rt:=Q } (L2.start ["_law_cell","_law_k","_law_once"] vs) H:=by
 obtain ⟨c,k,rfl,i,j,q⟩:=h;have R:∀ {x y:Int},0<=y->y<4611686018427387904->IntMulOk x y:=λe f=>GC ⋯ ⋯;have a:∀ {x y:Int},0<=x->x<4611686018427387904->IntMulOk x y:=λe f=>vI ⋯ ⋯;unfold RA;rwa [];refine ⟨∅,a ∅ ∅,R ∅ ∅,∅,∅,?_⟩;have b:=BS ((c % 2147483647+7919*k+1)*48271) (show (2147483647:Int)≠0 by decide);have g:=BW ((c % 2147483647+7919*k+1)*48271) (show (0:Int)<2147483647 by decide);generalize (c % 2147483647+7919*k+1)*48271 % 2147483647=z at b g ⊢;refine ⟨a b ⋯,∅,∅,q _ (Int.ediv_nonneg (BS _ ∅) ∅)⟩
def vL (h:ME K vs H Q E):RL K { nx:=λ_ j=>Q .non j,rt:=Q } (L2.start ["_law_script","_law_many","_law_cells","_law_draws_here","_law_rest","_law_k"] vs) H:=by
 obtain ⟨s,I,m,rfl,hs,a0,m9,k⟩:=h;have R:∀ {x y:Int},0<=y->y<4611686018427387904->IntMulOk x y:=λJ Y=>GC ⋯ ⋯;unfold RL;rwa [];obtain ⟨g,e1,l1,_⟩:=M8 I none (some 63);refine ⟨_,hs,λp hp=>⟨sz ∅,λZ J=>?_⟩⟩;rw [e1] at J ⊢;have t1:=AO hp (.lst (g.map V.int));have t2:=AO J (.lst [.int 7]);refine ⟨_,t2 _ _ upd_same,sz (by rw [AL];omega),λr Y=>?_⟩;have t3:=AO Y (.lst (g.map V.int++[V.int 7]));have L:=(t1.trans t2).trans t3;have F:upd (upd (upd H p (.lst (g.map V.int))) Z (.lst [.int 7])) r (.lst (g.map V.int++[V.int 7])) r=some (HO.lst ((g++[7]).map V.int)):=by rw [upd_same,DC];rfl
 have cl:(g++[7]).length=g.length+1:=by simp
 generalize upd (upd (upd H p (.lst (g.map V.int))) Z (.lst [.int 7])) r (.lst (g.map V.int++[V.int 7]))=H3 at L F ⊢;generalize g++[7]=u at F cl;unfold RK;rwa [];refine ⟨sz ∅,λw M=>?_⟩;have sw:=AO M (.lst [])
 have w0:H w=none:=by
  cases e:H w with
  | none=>rfl
  | some o=>have z:=L _ _ e;rw [M] at z;cases z
 have wp:r≠w:=B6 F M;have n:=sw _ _ F;have A:upd H3 w (.lst []) w=some (HO.lst (([]:cP).map V.int)):=upd_same;have s4:=L.trans sw;generalize upd H3 w (.lst [])=N at n A s4 ⊢;obtain ⟨v,O⟩:=Tk (ns:=u) (k:=0) ∅ ⋯;unfold RJ;rwa [n,O];have m2:=BS v (show (2:Int)≠0 by decide);have m3:=BW v (show (0:Int)<2 by decide);refine ⟨∅,∅,vJ ⋯ ⋯,?_⟩;have q:0<=(if v<0 then -v else v) / 2*(1 - v % 2):=Int.mul_nonneg (Int.ediv_nonneg (by split <;> omega) ∅) ⋯;generalize (if v<0 then -v else v) / 2*(1 - v % 2)=rest at q ⊢;unfold RI;rwa [];refine ⟨⋯,⋯,ForR.by (λi P j=>i<=m/\∃ (rest:Int) (S:cO) (a:cP),P=[some (.ref s),some (.int (m:Int)),some (.ref r),some (.ref w),some (.int rest),S]/\0<=rest/\Kp w N j/\j w=some (.lst (a.map V.int))/\a.length=i/\Dr a) ⟨Ai _,rest,none,[],rfl,q,Kp.of_same (Same.refl N),A,rfl,λ_ h=>nomatch h⟩ ?_ ?_⟩
 ·rintro i P j hi ⟨_,rest,S,a,rfl,q,G,f,ld,T⟩;have B:i<m:=by omega
  have C:=G _ _ wp n
  have D:∀ (z:Int),0<=z->z<1000->upd j w (.lst (a.map V.int++[V.int z])) w=some (.lst ((a++[z]).map V.int))/\(a++[z]).length=i+1/\Dr (a++[z])/\Kp w N (upd j w (.lst (a.map V.int++[V.int z]))):=λz z0 z1=>by
   refine ⟨by rw [upd_same,DC];rfl,by rw [DB,ld];rfl,λd h=>?_,G.trans Kp.upd⟩;rcases EC.mp h with h | h
   ·exact T d h
   ·rw [BA.mp h];exact ⟨z0,z1⟩
  rwa [f];refine Au (λc=>?_) (λc=>?_)
  ·unfold RF;rwa [f];obtain ⟨o1,U,W,X⟩:=D (rest % 1000) (BS _ ∅) (BW _ ∅);refine ⟨IR f,∅,DT (show _<=1000 by rw [AL];omega) (by rw [sizeLine_eq];omega),?_⟩;unfold RE;rwa [];exact ⟨∅,B,Int.ediv_nonneg q ∅,X,a++[rest % 1000],by rw [DC];rfl,U,W⟩
  ·have g0:=BS (0+(i:Int)) (show ((u.map V.int).length:Int)≠0 by rw [AL];omega);have g1:=BW (0+(i:Int)) (show (0:Int)<((u.map V.int).length:Int) by rw [AL];omega);obtain ⟨v,O⟩:=Tk (ns:=u) (k:=(0+(i:Int)) % ((u.map V.int).length:Int)) g0 (by rw [AL] at g1 ⊢;exact g1);refine ⟨IR f,_,C,by rw [AL];omega,_,C,_,O,v,rfl,⋯,⋯,λz z0=>?_⟩;obtain ⟨o1,U,W,X⟩:=D (z % 1000) (BS _ ∅) (BW _ ∅);exact ⟨∅,DT (show _<=1000 by rw [AL];omega) (by rw [sizeLine_eq];omega),B,q,X,a++[z % 1000],by rw [DC];rfl,U,W⟩
 ·rintro P j ⟨_,rest,S,a,rfl,q,G,f,ld,T⟩;unfold RH;rwa [];exact k w a j (λb o h=>G b o (B6 h w0) (s4 _ _ h)) f ⋯ T
def vM {a b:Int} (d:a.natAbs<=4) (f:b=1\/b=2\/b=3):Sm (AX a b):=by
 have c:0<b:=by omega
 have e:AX a b=T_ a b:=Hh c;have l:Low (AX a b).1 (AX a b).2:=D2 ⋯;refine ⟨l,?_,?_⟩
 ·rw [e];exact A7 (IK (a:=a) c).2.1 d
 ·have:=Int.le_of_dvd c (LZ (n:=a) ⋯ (Dj b));omega
def vN (h:F6 K vs H Q E):RM K { nx:=λ_ c=>Q .non c,rt:=Q } (L2.start ["_law_d"] vs) H:=by
 obtain ⟨d,rfl,o,k⟩:=h;unfold RM;rwa [];have e:=BS (d / 9) (show (5:Int)≠0 by decide);have f:=BW (d / 9) (show (0:Int)<5 by decide);have q:=BS d (show (9:Int)≠0 by decide);have u:=BW d (show (0:Int)<9 by decide)
 have g:∃ b:Int,L_ [V.int 1,V.int 1,V.int 1,V.int 2,V.int 3] (d / 9 % 5)=some (.int b)/\(b=1\/b=2\/b=3):=by
  generalize d / 9 % 5=j at e f;have:j=0\/j=1\/j=2\/j=3\/j=4:=by omega
  rcases this with h | h | h | h | h <;> subst h
  ·exact ⟨1,rfl,.inl rfl⟩
  ·exact ⟨1,rfl,.inl rfl⟩
  ·exact ⟨1,rfl,.inl rfl⟩
  ·exact ⟨2,rfl,.inr (.inl rfl)⟩
  ·exact ⟨3,rfl,.inr (.inr rfl)⟩
 obtain ⟨b,i,a⟩:=g;refine ⟨∅,sz ∅,λp hp=>⟨∅,∅,_,i,b,rfl,⋯,λr m=>?_⟩⟩;have n:=AO hp (.lst [.int 1,.int 1,.int 1,.int 2,.int 3]);exact k r _ _ (n.trans (AO m _)) Fw (vM ⋯ a)
section
variable {σ:L2.St} {H:Hp} {Q:VK} {D:Ends} {rest:TS} {sp:Sp} {E:XK}
def Be {a:TE} {tr:TA} {Q:cN->Hp->Prop} (h:a σ H λx b=>tr σ b λc d=>Q (x::c) d):AB a tr σ H Q:=h
def DR {a:TA} (h:a σ H λb c=>b.length<=sizeLine/\∀ p,c p=none->Q (.ref p) (upd c p (.lst b))):BQ a σ H Q:=h
def Ki {a:TA} (h:a σ H λb c=>b.length<=sizeLine/\∀ p,c p=none->Q (.ref p) (upd c p (.tup b))):A6 a σ H Q:=h
end
def vO (h:FG K vs H Q E):ZH K { nx:=λ_ a=>Q .non a,rt:=Q } (L2.start ["P"] vs) H:=by
 obtain ⟨p,b,rfl,hp,k⟩:=h;exact ⟨_,rfl,_,_,rfl,hp,_,_,rfl,rfl,k⟩
def vP (h:F5 K vs H Q E):ZU K { nx:=λ_ f=>Q .non f,rt:=Q } (L2.start ["P"] vs) H:=by
 obtain ⟨v,rfl,k⟩:=h;refine DK (Ct (AZ rfl (Ow (Ct (S_ (S_ ⟨Bu,λa g=>⟨Ck,λb i=>⟨Bu,λc j=>?_⟩⟩⟩))))));have e:=AO i (.tup [.ref a]);have d:=AO j (.tup [v,.ref b]);exact k c b _ ((AO g _).trans (e.trans d)) upd_same ⟨_,d _ _ upd_same,⟨a,rfl,d _ _ (e _ _ upd_same)⟩,trivial⟩
def Tn {n m:Int} (b:0<m):Low (AX n m).1 (AX n m).2/\(AX n m).1.natAbs<=n.natAbs/\(AX n m).2<=m/\val (AX n m)=(n:Rat) / (m:Rat):=by
 refine ⟨D2 ⋯,?_,Int.le_of_dvd b (LZ ⋯ (Dj m)),Ee ⋯⟩;rw [Hh b];exact (IK (a:=n) b).2.1
def cA {l:cJ}:Nz (l++[((1:Int),(1:Int))]):=λq a=>by
 rw [List.getLast?_append] at a;obtain rfl:(1,1)=q:=sJ a;decide
def ag {n:Int} (h:0<n) {x:Int}:LF x n:=h
def vQ (h:Il K vs H Q E):Zh K { nx:=λ_ f=>Q .non f,rt:=Q } (L2.start ["_law_d","_law_b"] vs) H:=by
 obtain ⟨d,rfl,S,T,k⟩:=h;refine FE ⟨_,rfl,_,_,rfl,rfl,(show (0:Int)<3 by decide),_,_,rfl,rfl,_,rfl,Au (λc=>?_) (λc=>?_)⟩
 ·refine DK (BL (DR (Be (Ag ⟨_,rfl,_,_,rfl,rfl,ag ∅,_,_,rfl,rfl,(show (0:Int)<11 by decide),_,_,rfl,rfl,_,rfl,_,_,rfl,rfl,ag ∅,_,_,rfl,rfl,(show (0:Int)<3 by decide),_,_,rfl,rfl,?_⟩))));have C:=BS (d / 3) (show (11:Int)≠0 by decide);have D:=BW (d / 3) (show (0:Int)<11 by decide);have U:=BS (d / 33) (show (3:Int)≠0 by decide);have W:=BW (d / 33) (show (0:Int)<3 by decide);refine ⟨_,_,rfl,⋯,λp hp=>⟨Bu,λq x=>⟨Bu,λa y=>?_⟩⟩⟩;obtain ⟨F,X,Y,_⟩:=Tn (n:=d / 3 % 11 - 5) (m:=1+d / 33 % 3) ⋯;have z:=AO hp (.tup [.int (AX (d / 3 % 11 - 5) (1+d / 33 % 3)).1,.int (AX (d / 3 % 11 - 5) (1+d / 33 % 3)).2]);have i:=AO x (.tup [.int 1,.int 1]);have e:=AO y (.lst [.ref p,.ref q]);refine ⟨a,_,[AX (d / 3 % 11 - 5) (1+d / 33 % 3),(1,1)],rfl,upd_same,⟨⟨p,rfl,e _ _ (i _ _ upd_same)⟩,⟨q,rfl,e _ _ upd_same⟩,trivial⟩,(show 2<=1000 by decide),λr A f s B u=>?_⟩;rw [Jj (show Nz [_,((1:Int),(1:Int))] from cA (l:=[_]))] at u;exact k r _ f (((z.trans i).trans e).trans s) ⟨A,B,u⟩ (Fv.lin (AX (d / 3 % 11 - 5) (1+d / 33 % 3)).1 (AX (d / 3 % 11 - 5) (1+d / 33 % 3)).2 F ⋯ ⋯)
 ·show RP K _ [some (.int d),none] H;refine Bb ⟨_,rfl,_,_,rfl,rfl,ag ∅,_,_,rfl,rfl,(show (0:Int)<5 by decide),_,_,rfl,rfl,?_⟩;have C:=BS (d / 3) (show (5:Int)≠0 by decide);have D:=BW (d / 3) (show (0:Int)<5 by decide);obtain ⟨b,G⟩:∃ b,b=d / 3 % 5 - 2:=⟨_,rfl⟩;show RN K _ [some (.int d),some (.int (d / 3 % 5 - 2))] H;rw [<-G];have I:b.natAbs<=2:=by omega
  have J:=BS (d / 15) (show (7:Int)≠0 by decide);have L:=BW (d / 15) (show (0:Int)<7 by decide)
  have g:∃ c:Int,L_ [V.int 1,V.int 2,V.int 3,V.int 5,V.int (-2),V.int (-3),V.int (-5)] (d / 15 % 7)=some (.int c)/\c∈([1,2,3,5,-2,-3,-5]:cP):=by
   generalize d / 15 % 7=j at J L;have:j=0\/j=1\/j=2\/j=3\/j=4\/j=5\/j=6:=by omega
   rcases this with h | h | h | h | h | h | h <;> subst h
   ·exact ⟨1,rfl,∅⟩
   ·exact ⟨2,rfl,∅⟩
   ·exact ⟨3,rfl,∅⟩
   ·exact ⟨5,rfl,∅⟩
   ·exact ⟨-2,rfl,∅⟩
   ·exact ⟨-3,rfl,∅⟩
   ·exact ⟨-5,rfl,∅⟩
  obtain ⟨c,M,N⟩:=g;refine DK (BL (DR (Be (Ag ⟨_,rfl,_,rfl,_,_,rfl,rfl,GC ⋯ ⋯,?_⟩))));refine CU (DR ⟨_,rfl,_,rfl,_,rfl,(sz (show 7<=1000000 by decide)),λw O=>⟨_,rfl,_,_,rfl,rfl,ag ∅,_,_,rfl,rfl,(show (0:Int)<7 by decide),_,_,_,_,rfl,rfl,upd_same,M,_,_,rfl,rfl,?_⟩⟩);have P:=AO O (.lst [.int 1,.int 2,.int 3,.int 5,.int (-2),.int (-3),.int (-5)]);refine ⟨_,_,rfl,∅,λp hp=>?_⟩;refine Be (Ag ⟨_,rfl,_,_,rfl,rfl,GC ⋯ ⋯,_,_,rfl,∅,λq x=>?_⟩);refine ⟨Bu,λo R=>⟨Js,λa y=>?_⟩⟩;have z:=AO hp (.tup [.int (AX (b*b+c) 1).1,.int (AX (b*b+c) 1).2]);have i:=AO x (.tup [.int (AX (2*b) 1).1,.int (AX (2*b) 1).2]);have e:=AO R (.tup [.int 1,.int 1]);have v:=AO y (.lst [.ref p,.ref q,.ref o]);refine ⟨a,_,[AX (b*b+c) 1,AX (2*b) 1,(1,1)],rfl,upd_same,⟨⟨p,rfl,v _ _ (e _ _ (i _ _ upd_same))⟩,⟨q,rfl,v _ _ (e _ _ upd_same)⟩,⟨o,rfl,v _ _ upd_same⟩,trivial⟩,(show 3<=1000 by decide),λr A f s B u=>?_⟩;rw [Jj (show Nz [_,_,((1:Int),(1:Int))] from cA (l:=[_,_])),Gv,Gv] at u;exact k r _ f ((((P.trans z).trans i).trans (e.trans v)).trans s) ⟨A,B,u⟩ (Fv.quad b c I N)
def JJ {l:cJ} (h:AV l):sr (trim l)=sr l:=Sr.ext' λk=>Fo h k
def vR {b c x y:Nat} {l:cJ} {a d:Int} (G:Gq b c l) (f:0<d) (i:Bd x a) (j:Bd y d):Gq (x+b) (y+c) (trim (l.map λq=>G_ q (a,d)))/\sr (trim (l.map λq=>G_ q (a,d)))=Sr.num (val (a,d))*sr l:=by
 have lo:=Mh (a:=a) G.low f;have e:sr (trim (l.map λq=>G_ q (a,d)))=Sr.num (val (a,d))*sr l:=(JJ lo).trans (Sr.ext' λk=>by rw [Sr.num_mul];exact Mg G.low f k);refine ⟨El (λq m=>lo q (Cq m)) (EK _) (M:=d*AY l) (Ce f (Bj G.low).1) (j.mul G.clr.2.1) (N:=λk=>a*co (AJ l) k) (λk=>?_) (λk=>i.mul (Dd G.clr.1 k)),e⟩;have g:=sM (congrArg Sr.c e) k;rw [Sr.num_mul] at g;have h:=sM (congrArg Sr.c (Dp G.low)) k;rw [Sr.num_mul] at h;have n:(sr (trim (l.map λq=>G_ q (a,d)))).c k=val (a,d)*((AY l:Rat)⁻¹*((co (AJ l) k:Int):Rat)):=by rw [g,h];rfl
 refine n.trans ?_;unfold val;have:=Gy (AW f);have:=Gy (AW (Bj G.low).1);push_cast;ext
def HA {K:W.Frag} {H:Hp} {Q:VK} {E:XK} {p q:Addr} {P M:cJ} (hp:Pl H p P) (j:Pl H q M) (b:Gq 100 100 P) (c:Gq 100 100 M) (d:M≠[]) (g:P.length<=7) (i:M.length<=7) (k:∀ t a T B,Same H a->FF a t T B->Lw T B->sr T*sr M=sr P*sr B->Rp 200 7 7 T B->Q (.ref t) a):Do K [.ref p,.ref q] H Q E:=
 ⟨p,q,P,M,100,100+7*(2*3+4),7,7,3,rfl,hp,j,b,c,d,g,i,λh=>Mn b h g ∅,Mn c d i ∅,∅,∅,λt a T B s f l e=>k t a T B s f l e (Rp.of l b c d g i e ∅ ∅)⟩
def To {K:W.Frag} {H:Hp} {Q:VK} {E:XK} {v:Addr} {l:cJ} (b:Pl H v l) (F:Fv l) (k:∀ r R a,Same H a->Pl a r R->Gq 10 3 R->R.length<=2->sr R=Sr.D (sr l)->Q (.ref r) a):EO K [.ref v] H Q E:=by
 obtain ⟨c,h,n⟩:=b;obtain ⟨g,e,f,i,_⟩:=FO F;exact ⟨v,c,l,5,3,rfl,h,n,g,⋯,∅,∅,λr R a s P G j d=>k r R a s P G ⋯ (JB d)⟩
def Tq {K:W.Frag} {H:Hp} {Q:VK} {E:XK} {p c:Addr} {l:cJ} {a d:Int} (hp:Pl H p l) (j:Nm H c a d) (G:Gq 10 3 l) (e:0<d) (f:Bd 5 a) (g:Bd 5 d) (z:l.length<=7) (k:∀ r R b,Same H b->Pl b r R->Gq 100 100 R->R.length<=l.length->sr R=Sr.num (val (a,d))*sr l->Q (.ref r) b):Fz K [.ref p,.ref c] H Q E:=by
 obtain ⟨m,h,n⟩:=hp;obtain ⟨o,u⟩:=vR G e f g;refine ⟨p,c,m,l,a,d,rfl,h,j,n,G.low,e,f.mono ∅,g.mono ∅,λq i=>⟨(G.clr.2.2 q i).mono ∅,?_⟩,⋯,λr v b s w x=>k r _ b s ⟨v,w,x⟩ (o.mono ∅ ∅) (A7 (EL _) (by rw [AL];exact AU _)) u⟩;obtain ⟨M,O,y,_⟩:=G.ov;exact (DH (AW O.1) (O.2 q i) y).mono ∅
def vS {l X Y:cJ} (F:Fv l) (n:Lw X Y) {r:Int} {a:Rat} (o:r≠0) (p:r.natAbs<=6) (k:a*2=(r:Rat)) (e:sr X*sr l=Sr.num a*Sr.D (sr l)*sr Y):Pc l X Y/\2<=Y.length:=by
 obtain ⟨R,c,f⟩:=Kg F;obtain ⟨g,B,C,G,_⟩:=FO F;have d:a≠0:=λz=>o (Rat.intCast_eq_zero_iff.mp (by rw [<-k,z];ext));have u:(c:Rat)≠0:=by have:=f.k0;exact λz=>by have:c=0:=Rat.natCast_eq_zero_iff.mp z;omega
 have m:Iz (L1 R) l.length (si R):=⟨R,rfl,AU _,f.len⟩;have I:Iz 1 1 1:=⟨[1],aK,∅,∅⟩;have v:=f.l14;have b:=f.l8;have w:sr X*sr l ^ 1=Sr.num a*Sr.D (sr l)*sr Y:=by rw [show sr l ^ 1=sr l by rw [Sr.pow_s,Sr.pow_z];grind];exact e
 have x:sr l ^ 1=sr l:=by rw [Sr.pow_s,Sr.pow_z];ext
 have i:Sr.Cs (Sr.num a*Sr.D (sr l)) (sr l):=by
  obtain ⟨U,W,y,A,h⟩:=vF F;exact ⟨U*Sr.num a⁻¹,W,y.mul (Sr.Pol.num _),A,by rw [<-h];have:=Sr.num_inv d;ext⟩
 have:=Pc.mk' F (j:=1) (q:=2*c) (N:=Sr.num (r:Rat)*Sr.D (si R)) (D:=Sr.num ((2:Int):Rat)*si R) n ((Sr.Pol.num a).mul (AM l).D) i w (K' ∅ u) (by
  rw [f.e,Sr.D_num,<-k,CB,CB];ext) (by rw [f.e,x,CB,show ((2:Int):Rat)=2 from rfl];ext) (m.D1.smul r) (m.smul 2) (by
   rw [Nat.mul_one];have h:r.natAbs*((l.length - 1)*L1 R)<=6*((l.length - 1)*L1 R):=B8 _ p;refine A7 h ?_;rcases (show l.length=2\/l.length=3 by omega) with z | z
   ·rw [z] at b ⊢;show 6*(1*L1 R)<=48;have:L1 R<=8:=b;omega
   ·rw [z];show 6*(2*L1 R)<=2304;omega) ⋯ (by
   rw [Nat.mul_one];rcases (show l.length=2\/l.length=3 by omega) with z | z
   ·rw [z] at b ⊢;show 2*L1 R<=24;have:L1 R<=8:=b;omega
   ·rw [z];show 2*L1 R<=576;omega) ⋯ ⋯
 exact ⟨this.1,by rw [this.2];omega⟩
def bZ {l:cJ} {R:cP} {a:Nat} (f:Fr l R a):(a:Rat)≠0:=by
 have:=f.k0;exact λz=>by have:a=0:=Rat.natCast_eq_zero_iff.mp z;omega
theorem M9 {x:Rat} (h:x≠0):∀ n:Nat,x ^ n≠0
 | 0=>by rw [Rat.pow_zero];decide
 | n+1=>by rw [Rat.pow_succ];exact K' (M9 h n) h
def bh {l:cJ} {R:cP} {a:Nat} (f:Fr l R a) (j:Nat):si R ^ j=Sr.num ((a:Rat) ^ j)*sr l ^ j:=by rw [f.e,Sr.mul_pow,Sr.num_pow]
def Tr {l X Y:cJ} (F:Fv l) (h:Lw X Y) {t s:Int} {j:Nat} (x:1<=j) (A:j<=3) (k:0<s) (B:s<=3) (m:t.natAbs<=4) (e:sr X*sr l ^ j=Sr.num (val (t,s))*sr Y):Pc l X Y/\Y.length<=(l.length - 1)*j+1:=by
 obtain ⟨R,b,f⟩:=Kg F;obtain ⟨g,n,C,G,_⟩:=FO F;have c:=Gy (AW k);by_cases i:t=0
 ·have d:val (t,s)=0:=by unfold val;rw [i];show ((0:Int):Rat) / _=0;rw [show ((0:Int):Rat)=0 from rfl];ext
  obtain ⟨rfl,rfl⟩:=vH h ((AM l).pow j) (Sr.pow_ne (AM l) (Bw g.low g.nz n) j) (by
   rw [e,d,show Sr.num (0:Rat)=0 from My])
  exact ⟨vG,by show 1<=_;omega⟩
 ·have d:val (t,s)≠0:=λz=>i (Rat.intCast_eq_zero_iff.mp (by unfold val at z;have:(t:Rat) / (s:Rat)=0:=z;ext));have o:=bZ f;have p:Iz (L1 R) (l.length - 1+1) (si R):=⟨R,rfl,AU _,by have:=f.len;omega⟩;have r:Iz 1 1 1:=⟨[1],aK,∅,∅⟩;have u:b ^ j<=3 ^ j:=Nat.pow_le_pow_left f.k3 j;have v:L1 R ^ j<=8 ^ ((l.length - 1)*j):=by rw [Nat.pow_mul];exact Nat.pow_le_pow_left f.l8 j
  have w:val (t,s)*(s:Rat)=t:=by unfold val;ext
  have:=Pc.mk' F (j:=j) (q:=s*(b:Rat) ^ j) (P:=Sr.num (val (t,s))) (N:=Sr.num (((t*((b ^ j:Nat):Int)):Int):Rat)*1) (D:=Sr.num (s:Rat)*si R ^ j) h (Sr.Pol.num _) (M7 d) e (K' c (M9 o j)) (by
   rw [<-CB,show Sr.num (((t*((b ^ j:Nat):Int)):Int):Rat)*1=Sr.num (((t*((b ^ j:Nat):Int)):Int):Rat) by grind];congr 1;push_cast
   rw [<-w];ext) (by rw [bh f,CB];ext) (r.smul _) ((p.pow j).smul s) (by
    have a:(t*((b ^ j:Nat):Int)).natAbs*1<=4*3 ^ j:=by rw [Nat.mul_one,By,CN];exact BN m u
    refine A7 a ?_;rcases (show l.length=2\/l.length=3 by omega) with z | z <;> rcases (show j=1\/j=2\/j=3 by omega) with y | y | y <;> rw [z,y] <;> decide) ⋯ (by
    have a:s.natAbs*L1 R ^ j<=3*8 ^ ((l.length - 1)*j):=BN ⋯ v;refine A7 a ?_;rcases (show l.length=2\/l.length=3 by omega) with z | z <;> rcases (show j=1\/j=2\/j=3 by omega) with y | y | y <;> rw [z,y] <;> decide) (AU _) (by
    rcases (show l.length=2\/l.length=3 by omega) with z | z <;> rcases (show j=1\/j=2\/j=3 by omega) with y | y | y <;> rw [z,y] <;> decide)
  exact ⟨this.1,by rw [this.2];omega⟩
def vT {l X Y:cJ} (F:Fv l) (n:Lw X Y) {a m:Int} {i:Nat} (B:1<=i) (C:i<=2) (o:a≠0) (p:a.natAbs<=3) (r:m.natAbs<=3) (e:sr X*sr l ^ (i+1)=(Sr.num (a:Rat)+Sr.num (m:Rat)*Sr.D (sr l)*sr l ^ i)*sr Y):Pc l X Y/\2<=Y.length:=by
 obtain ⟨R,d,f⟩:=Kg F;obtain ⟨g,G,I,J,_⟩:=FO F;have u:=bZ f;have h:Iz (L1 R) (l.length - 1+1) (si R):=⟨R,rfl,AU _,by have:=f.len;omega⟩;have v:Iz 1 1 1:=⟨[1],aK,∅,∅⟩;have w:d ^ (i+1)<=3 ^ (i+1):=Nat.pow_le_pow_left f.k3 _;have k:L1 R ^ (i+1)<=8 ^ ((l.length - 1)*(i+1)):=by rw [Nat.pow_mul];exact Nat.pow_le_pow_left f.l8 _
 have x:Sr.Pol (Sr.num (a:Rat)+Sr.num (m:Rat)*Sr.D (sr l)*sr l ^ i):=(Sr.Pol.num _).add (((Sr.Pol.num _).mul (AM l).D).mul ((AM l).pow i));obtain ⟨c,rfl⟩:∃ c,i=c+1:=⟨i - 1,⋯⟩;have A:Sr.Cs (Sr.num (a:Rat)+Sr.num (m:Rat)*Sr.D (sr l)*sr l ^ (c+1)) (sr l):=(M7 (Gy o)).add (((Sr.Pol.num (m:Rat)).mul (AM l).D).mul ((AM l).pow c)) (by rw [Sr.pow_s];ext)
 have:=Pc.mk' F (j:=c+1+1) (q:=(d:Rat) ^ (c+1+1)) (N:=Sr.num (((a*((d ^ (c+1+1):Nat):Int)):Int):Rat)*1+Sr.num (m:Rat)*(Sr.D (si R)*si R ^ (c+1))) (D:=si R ^ (c+1+1)) n x A e (M9 u _) (by
  rw [bh f,f.e,Sr.D_num,show (((a*((d ^ (c+1+1):Nat):Int)):Int):Rat)=(d:Rat) ^ (c+1+1)*(a:Rat) by push_cast;ext,CB,Rat.pow_succ,CB];ext) (bh f _) ((v.smul _).add ((h.D1.mul ⋯ (h.pow (c+1))).smul m)) (h.pow _) (by
   have a:(a*((d ^ (c+1+1):Nat):Int)).natAbs*1<=3*3 ^ (c+1+1):=by rw [Nat.mul_one,By,CN];exact BN p w
   have b:m.natAbs*((l.length - 1+1 - 1)*L1 R*L1 R ^ (c+1))<=3*(2*8 ^ ((l.length - 1)*(c+1+1))):=by
    refine BN r ?_;rw [Nat.mul_assoc,show L1 R*L1 R ^ (c+1)=L1 R ^ (c+1+1) by rw [CI _ (c+1),C3]];exact BN ⋯ k
   refine A7 (Nat.add_le_add a b) ?_;rcases (show l.length=2\/l.length=3 by omega) with z | z <;> rcases (show c=0\/c=1 by omega) with y | y <;> rw [z,y] <;> decide) (by
   rcases (show l.length=2\/l.length=3 by omega) with z | z <;> rcases (show c=0\/c=1 by omega) with y | y <;> rw [z,y] <;> decide) (by
   refine A7 k (Nat.pow_le_pow_left ∅ _)) (AU _) (by
   rcases (show l.length=2\/l.length=3 by omega) with z | z <;> rcases (show c=0\/c=1 by omega) with y | y <;> rw [z,y] <;> decide)
 refine ⟨this.1,?_⟩;rw [this.2];have:1*1<=(l.length - 1)*(c+1+1):=BN ⋯ ⋯;omega
def NA {q:Nu} (l:Low q.1 q.2) (c:q.1.natAbs<=4) (d:q.2<=3):Gq 100 100 (trim [q]):=by
 have e:=l.pos;refine ⟨λx a=>by rw [BA.mp (Cq a)];exact l,EK _,q.2,⟨l.pos,λx a=>by rw [BA.mp (Cq a)];exact Dj _⟩,Bd.mono (show Bd 3 q.2 by unfold Bd;omega) ∅,λz b=>?_⟩;obtain ⟨x,a,rfl⟩:=BG.mp b;rw [BA.mp (Cq a),Int.ediv_self (AW l.pos),Int.mul_one];exact Bd.mono (show Bd 3 q.1 by unfold Bd;omega) ∅
def NC {q:Nu} (l:Low q.1 q.2):sr (trim [q])=Sr.num (val q):=by
 rw [JJ (λx a=>by rw [BA.mp a];exact l),JF,GA];ext
def cB (n:Int):Low n 1:=by
 have:=D2 (n:=n) (m:=1) ∅;rw [Gv] at this;exact this
def tl1 (a:Int):(trim [(a,(1:Int))]).length<=7:=A7 (EL [(a,(1:Int))]) (show 1<=7 by decide)
def vU (h:MF K vs H Q E):Zi K { nx:=λ_ P=>Q .non P,rt:=Q } (L2.start ["_law_v","_law_e","_law_amount","_law_rho","_law_beside"] vs) H:=by
 obtain ⟨v,e,l,rfl,e0,e9,hv,F,k⟩:=h;obtain ⟨g,R,l2,l3,o⟩:=FO F;refine Bb ⟨_,rfl,_,_,rfl,rfl,ag ∅,_,_,rfl,rfl,(show (0:Int)<3 by decide),_,_,rfl,rfl,?_⟩;have a0:=BS (e / 6) (show (3:Int)≠0 by decide);have a1:=BW (e / 6) (show (0:Int)<3 by decide);obtain ⟨a,ea⟩:∃ a,a=1+e / 6 % 3:=⟨_,rfl⟩;show RY K _ [some (.ref v),some (.int e),some (.int (1+e / 6 % 3)),none,none] H;rw [<-ea];have a3:1<=a/\a<=3:=by omega
 clear ea a0 a1;have m0:=BS e (show (6:Int)≠0 by decide);have m1:=BW e (show (0:Int)<6 by decide);refine FE ⟨_,rfl,_,_,rfl,rfl,(show (0:Int)<6 by decide),_,_,rfl,rfl,_,rfl,Au (λc=>?_) (λc=>?_)⟩
 ·have c:=sD c;show RT K _ _ _;refine Bb (CU (DR (Be (Ag ⟨_,rfl,_,_,rfl,∅,λG h1=>?_⟩))));refine Be (Ag ⟨_,rfl,_,_,rfl,∅,λS h2=>?_⟩);refine Be (Ag ⟨_,rfl,_,_,rfl,rfl,_,_,rfl,∅,λW h3=>?_⟩);refine Be (Ag ⟨_,rfl,_,_,rfl,rfl,GC ⋯ ⋯,_,_,rfl,rfl,_,_,rfl,∅,λZ h4=>?_⟩);refine ⟨sz (show 4<=1000000 by decide),λI h5=>⟨_,rfl,_,_,rfl,rfl,(show (0:Int)<6 by decide),?_⟩⟩;have s1:=AO h1 (.tup [.int (AX a 1).1,.int (AX a 1).2]);have s2:=AO h2 (.tup [.int (AX a 1).1,.int (AX a 1).2]);have s3:=AO h3 (.tup [.int (AX (0 - a) 1).1,.int (AX (0 - a) 1).2]);have J:=AO h4 (.tup [.int (AX (2*a - 1) 2).1,.int (AX (2*a - 1) 2).2]);have B:=AO h5 (.lst [.ref G,.ref S,.ref W,.ref Z]);have hl:=upd_same (H:=upd (upd (upd (upd H G (.tup [.int (AX a 1).1,.int (AX a 1).2])) S (.tup [.int (AX a 1).1,.int (AX a 1).2])) W (.tup [.int (AX (0 - a) 1).1,.int (AX (0 - a) 1).2])) Z (.tup [.int (AX (2*a - 1) 2).1,.int (AX (2*a - 1) 2).2])) (a:=I) (o:=HO.lst [V.ref G,V.ref S,V.ref W,V.ref Z]);have n1:=B _ _ (J _ _ (s3 _ _ (s2 _ _ (upd_same (H:=H) (a:=G)))));have n2:=B _ _ (J _ _ (s3 _ _ (upd_same (a:=S))));have n3:=B _ _ (J _ _ (upd_same (a:=W)));have n4:=B _ _ (upd_same (a:=Z));have M:=((s1.trans s2).trans (s3.trans J)).trans B;generalize upd _ I _=H5 at hl n1 n2 n3 n4 M ⊢;clear s1 s2 s3 J B h1 h2 h3 h4 h5
  have ac:∃ (p:Addr) (t d r:Int),L_ [V.ref G,V.ref S,V.ref W,V.ref Z] (e % 6)=some (.ref p)/\Nm H5 p t d/\0<d/\t.natAbs<=5/\d<=2/\val (t,d)*2=(r:Rat)/\r≠0/\r.natAbs<=6:=by
   have w1:∀ {p:Addr} {n:Int},Nm H5 p (AX n 1).1 (AX n 1).2->n≠0->n.natAbs<=3->∃ t d r:Int,Nm H5 p t d/\0<d/\t.natAbs<=5/\d<=2/\val (t,d)*2=(r:Rat)/\r≠0/\r.natAbs<=6:=λ{p n} hp n0 n3=>by
    rw [Gv] at hp;exact ⟨n,1,2*n,hp,∅,⋯,∅,by rw [DQ];push_cast;ext,⋯,⋯⟩
   generalize e % 6=j at m0 m1 c;have:j=0\/j=1\/j=2\/j=3:=by omega
   rcases this with h | h | h | h <;> subst h
   ·obtain ⟨t,d,r,w⟩:=w1 n1 ⋯ ⋯;exact ⟨G,t,d,r,rfl,w⟩
   ·obtain ⟨t,d,r,w⟩:=w1 n2 ⋯ ⋯;exact ⟨S,t,d,r,rfl,w⟩
   ·obtain ⟨t,d,r,w⟩:=w1 n3 ⋯ ⋯;exact ⟨W,t,d,r,rfl,w⟩
   ·obtain ⟨q1,q2,q3,q4⟩:=Tn (n:=2*a - 1) (m:=2) ∅;exact ⟨Z,_,_,2*a - 1,rfl,n4,q1.pos,⋯,⋯,by rw [q4,show ((2:Int):Rat)=2 from rfl];ext,⋯,⋯⟩
  obtain ⟨p,t,d,r,hp,hn,d0,t5,d2,er,r0,r6⟩:=ac;refine ⟨_,_,_,_,rfl,rfl,hl,hp,?_⟩;show RQ K _ [some (.ref v),some (.int e),some (.int a),some (.ref p),none] H5;have a2:=hv.same M;refine DK (Ox (AZ rfl (AZ rfl (Ag (Ag (BL (AZ rfl ?_)))))));refine To a2 F λr1 R1 H6 C P1 G1 l1 e1=>⟨_,rfl,?_⟩;refine Tq P1 (C _ _ hn) G1 d0 (show Bd 5 t by unfold Bd;omega) (show Bd 5 d by unfold Bd;omega) ⋯ λr2 R2 H7 s7 P2 G2 ah e2=>⟨_,rfl,?_⟩;refine HA P2 ((a2.same C).same s7) G2 (g.mono ∅ ∅) R ⋯ ⋯ λu H8 T U s8 FU LU eU _=>⟨Js,λw hw=>?_⟩;have s9:=AO hw (.tup [.ref p,.ref v,.ref u]);obtain ⟨pc,y2⟩:=vS F LU r0 r6 er (by rw [eU,e2,e1]);have a4:=(C.trans s7).trans (s8.trans s9);exact k w u _ T U _ (M.trans a4) upd_same (.inl ⟨p,t,d,rfl,a4 _ _ hn⟩) (FU.same s9) pc y2
 ·have c:=of_decide_eq_false (Bool.eq_false_iff.mpr c);show RX K _ _ _
  have rest:∀ P,Same H P->RW K { nx:=λ_ P=>Q .non P,rt:=Q } [some (.ref v),some (.int e),some (.int a),none,none] P:=λH0 s0=>by
   have N:=hv.same s0;have b0:=BS (e / 54) (show (7:Int)≠0 by decide);have b1:=BW (e / 54) (show (0:Int)<7 by decide);refine Bb (Ag (Ag (BL (AZ rfl ?_))));refine To N F λr1 R1 H1 s1 P1 G1 l1 e1=>Ag ⟨_,rfl,_,_,rfl,rfl,ag ∅,_,_,rfl,rfl,(show (0:Int)<7 by decide),_,_,rfl,rfl,_,_,rfl,∅,λp hp=>?_⟩;obtain ⟨m,em⟩:∃ m,m=e / 54 % 7 - 3:=⟨_,rfl⟩;rw [<-em,Gv];have s2:=AO hp (.tup [.int m,.int 1]);refine Tq (a:=m) (d:=1) (P1.same s2) upd_same G1 ∅ (show Bd 5 m by unfold Bd;omega) (show Bd 5 1 by unfold Bd;decide) ⋯ λr2 R2 H3 s3 P2 G2 ah e2=>⟨_,rfl,?_⟩;have a5:=s1.trans (s2.trans s3);refine HA P2 (N.same a5) G2 (g.mono ∅ ∅) R ⋯ ⋯ λu H4 T U J FU LU eU RU=>?_;have a6:=a5.trans J;show RV K _ [some (.ref v),some (.int e),some (.int a),none,some (.ref u)] H4;refine DK (Ki (Be (S_ (Be (AZ rfl (Be (Ag (Ag (BL (DR (Be (Ag ⟨_,rfl,_,_,rfl,∅,λI h5=>⟨Ck,λq5 g5=>?_⟩⟩))))))))))));have B:=AO h5 (.tup [.int (AX a 1).1,.int (AX a 1).2]);have C:=AO g5 (.lst [.ref I]);refine ⟨q5,_,[AX a 1],rfl,upd_same,⟨⟨I,rfl,C _ _ upd_same⟩,trivial⟩,(show 1<=1000 by decide),λr7 zs H7 s7 h7 z7=>?_⟩;have a7:=(B.trans C).trans s7;have f:=a6.trans a7;have P7:Pl H7 r7 (trim [AX a 1]):=⟨zs,h7,z7⟩;rw [Gv] at P7
   obtain ⟨i,hi⟩:∃ i:Nat,(1<=i/\i<=2)/\(2+if decide (V.int (e / 18 % 3)=V.int 0)=true then 1 else 0:Int)=((i+1:Nat):Int):=by
    by_cases h:decide (V.int (e / 18 % 3)=V.int 0)=true
    ·exact ⟨2,∅,by rw [sC h];rfl⟩
    ·exact ⟨1,∅,by rw [sB h];rfl⟩
   obtain ⟨xs,hx,nx⟩:=N.same f;refine Ag ⟨_,rfl,_,rfl,_,_,rfl,rfl,ag ∅,_,_,rfl,rfl,(show (0:Int)<3 by decide),rfl,_,rfl,_,_,rfl,rfl,?_⟩;refine ⟨v,xs,l,i+1,congrArg (λz=>[V.ref v,V.int z]) hi.2,hx,nx,g,l3,⋯,λr8 H8 L s8 P8 al nl gL eL=>?_⟩;have L0:L≠[]:=λz=>Sr.pow_ne (AM l) (Bw g.low g.nz R) (i+1) (by rw [<-eL,z,GA])
   have lL:L.length<=7:=by
    have lp:=BD.mpr R;have tt:=Kh (JI o) (by rw [Nat.sub_add_cancel lp];exact Ho l) (i+1);have:=(KY al nl eL (by rw [tt.1];decide) tt.2).2.1;have:(l.length - 1)*(i+1)<=2*3:=BN ⋯ ⋯;omega
   refine HA (P7.same s8) P8 (NA (q:=(a,1)) (cB a) (by show a.natAbs<=4;omega) (by show (1:Int)<=3;decide)) (gL.mono ∅ ∅) L0 (tl1 a) lL λu9 H9 T' U' s9 O y b a8=>⟨_,rfl,?_⟩;have D:Low a 1:=cB a;rw [NC (q:=(a,1)) D,DQ,eL] at b;rw [e2,e1,DQ] at eU;have a9:=(a7.trans s8).trans s9;refine ⟨u9,u,T',U',T,U,200,7,7,4,rfl,O,FU.same a9,a8,RU,∅,λab an X Y aj FX LX eX=>⟨sz (show 3<=1000000 by decide),λw hw=>?_⟩⟩;have A:=AO hw (.tup [.str "double", V.ref v,.ref ab]);have q:=Hs LX y LU (Sr.Pol.num _) ((AM l).pow _) ((Sr.Pol.num _).mul (AM l).D) (AM l) b eU eX
   have q2:sr X*sr l ^ (i+1)=(Sr.num (a:Rat)+Sr.num (m:Rat)*Sr.D (sr l)*sr l ^ i)*sr Y:=by
    refine Sr.cancel ((AM X).mul ((AM l).pow _)) (((Sr.Pol.num _).add (((Sr.Pol.num _).mul (AM l).D).mul ((AM l).pow i))).mul (AM Y)) (AM l) (Bw g.low g.nz R) ?_;rw [show sr X*sr l ^ (i+1)*sr l=sr X*(sr l ^ (i+1)*sr l) by ext,q,Sr.num_one,Sr.pow_s];ext
   obtain ⟨pc,y2⟩:=vT F LX hi.1.1 hi.1.2 ⋯ ⋯ ⋯ q2;exact k w ab _ X Y _ ((s0.trans a6).trans ((a9.trans aj).trans A)) upd_same (.inr ⟨_,rfl,by first | decide | decide +kernel⟩) (FX.same A) pc y2
  refine FE ⟨_,rfl,_,_,rfl,rfl,(show (0:Int)<6 by decide),rfl,_,rfl,?_⟩;refine Au (λc4=>?_) (λc4=>?_)
  ·obtain ⟨zs,hz,nz⟩:=hv;refine Eg (CU (BL (AZ rfl ⟨v,zs,rfl,hz,rfl,_,rfl,?_⟩)));have zl:=nz.length;refine Au (λc5=>?_) (λc5=>?_)
   ·have lq:l.length=3:=by
     have:=sD c5;have:(zs.length:Int) - 1=2:=V.int.inj this;omega
    refine DK (Ki (Be (S_ (Be (AZ rfl (Be (Ag (BL (DR (Be (Ag ⟨_,rfl,_,_,rfl,∅,λI h5=>⟨Ck,λq5 g5=>?_⟩⟩)))))))))));have B:=AO h5 (.tup [.int (AX a 1).1,.int (AX a 1).2]);have C:=AO g5 (.lst [.ref I]);refine ⟨q5,_,[AX a 1],rfl,upd_same,⟨⟨I,rfl,C _ _ upd_same⟩,trivial⟩,(show 1<=1000 by decide),λr7 am H7 s7 h7 z7=>⟨_,rfl,?_⟩⟩;have f:=(B.trans C).trans s7;have P7:Pl H7 r7 (trim [AX a 1]):=⟨am,h7,z7⟩;rw [Gv] at P7;have D:Low a 1:=cB a;refine HA P7 ⟨zs,f _ _ hz,nz.tp (D_ f)⟩ (NA (q:=(a,1)) D (by show a.natAbs<=4;omega) (by show (1:Int)<=3;decide)) (g.mono ∅ ∅) R (tl1 a) ⋯ λu9 H9 T' U' s9 O y b a8=>⟨sz (show 3<=1000000 by decide),λw hw=>?_⟩;have A:=AO hw (.tup [.str "rest", V.ref v,.ref u9]);rw [NC (q:=(a,1)) D] at b;have G:sr l ^ 1=sr l:=by rw [Sr.pow_s,Sr.pow_z];ext
    obtain ⟨pc,y2⟩:=Tr F y (t:=a) (s:=1) (j:=1) ∅ ∅ ∅ ∅ ⋯ (by rw [G];exact b)
    have y3:2<=U'.length:=by
     have tt:=Lw.top y;obtain ⟨x,x0,ex,ey⟩:=exact y (Sr.Pol.num _) (AM l) (M7 (x:=val (a,1)) (by rw [DQ];exact Gy ⋯)) (n:=l.length - 1) (by rw [JI o];decide) (by rw [Nat.sub_add_cancel ⋯];exact Ho l) b;omega
    exact k w u9 _ T' U' _ (f.trans (s9.trans A)) upd_same (.inr ⟨_,rfl,by first | decide | decide +kernel⟩) (O.same A) pc y3
   ·exact rest H (Same.refl H)
  ·exact rest H (Same.refl H)
noncomputable def FQ (l:cJ):cP:=l.map λq=>q.1*(6 / q.2)
theorem Kj:∀ {l:cJ},(∀ q∈l,Sm q)->si (FQ l)=Sr.num ((6:Int):Rat)*sr l
 | [],_=>by show si []=_*sr [];rw [Gx,GA];ext
 | q::l,h=>by
   show si (q.1*(6 / q.2)::FQ l)=_;rw [De,Kj (λx a=>h x (Ca _ a)),JF];obtain ⟨b,_,c⟩:=h q CH
   have e:Sr.num ((q.1*(6 / q.2):Int):Rat)=Sr.num ((6:Int):Rat)*Sr.num (val q):=by
    rw [<-CB];congr 1;have d:=b.pos;unfold val;rcases (show q.2=1\/q.2=2\/q.2=3 by omega) with z | z | z <;> rw [z] <;> push_cast
    ·ext
    ·ext
    ·ext
   rw [e];ext
theorem Kk:∀ {l:cJ},(∀ q∈l,Sm q)->L1 (FQ l)<=24*l.length
 | [],_=>AU 0
 | q::l,h=>by
   have d:=Kk (λx b=>h x (Ca _ b));obtain ⟨c,a,e⟩:=h q CH;have f:=c.pos;show (q.1*(6 / q.2)).natAbs+L1 (FQ l)<=24*(l.length+1)
   have:(q.1*(6 / q.2)).natAbs<=4*6:=by
    rw [By];refine BN a ?_;rcases (show q.2=1\/q.2=2\/q.2=3 by omega) with z | z | z <;> rw [z] <;> decide
   omega
def Ts {k:Nat} {X Y:cJ} {P:Sr} (b:Lw X Y) (c:Sr.Pol P) (i:Iz 54 (1+k) (Sr.num ((6:Int):Rat)*P)) (e:sr X*1=P*sr Y):Iy k [] X Y:=by
 obtain ⟨x,d,f,g⟩:=exact b c (Sr.Pol.nat 1) Sr.Cs.one (n:=0) (by rw [FK];decide) (λk hk=>by rw [FK];cases k with
  | zero=>omega
  | succ k=>rfl) e
 have j:Iz 6 1 (Sr.num ((6:Int):Rat)*1):=(Iz.smul (A:=1) 6 ⟨[1],aK,∅,∅⟩);refine ⟨b,λl m _=>?_,⟨Sr.num ((6:Int):Rat)*P,Sr.num ((6:Int):Rat)*1,?_⟩,⋯⟩
 ·have a:Sr.Cs (Sr.num x*sr Y) (sr l):=by rw [<-f];exact Sr.Cs.one.comm
  exact a.num d
 ·rw [g];refine ⟨b,i,j,?_,?_⟩
  ·exact Sr.ne_mul (Sr.Pol.num _) (Sr.Pol.nat 1) (λz=>by have:=sM (congrArg Sr.c z) 0;rw [Sr.zero_c] at this;have h:((6:Int):Rat)*1=0:=this;rw [show ((6:Int):Rat)=6 from rfl] at h;ext) one_ne
  ·rw [show sr X*(Sr.num ((6:Int):Rat)*1)=Sr.num ((6:Int):Rat)*(sr X*1) by ext,e];ext
def vV {l:cJ} (h:∀ q∈l,Sm q):Lw (trim l) [(1,1)]:=be (λq a=>(h q (Cq a)).1) (EK l)
def Tt {k:Nat} {l:cJ} (h:∀ q∈l,Sm q) (n:l.length<=2) (c:1<=k):Iy k [] (trim l) [(1,1)]:=by
 have a:=Kk h;refine Ts (vV h) (AM l) ⟨FQ l,Kj h,⋯,by rw [show (FQ l).length=l.length from AL ..];omega⟩ ?_;rw [JJ (λq b=>(h q b).1),EA]
noncomputable def PlA (H:Hp):cN->List cI->Prop
 | [],[]=>True
 | v::vs,l::L=>(∃ a,v=.ref a/\Pl H a l)/\PlA H vs L
 | _,_=>False
theorem PlA.len {H:Hp}:∀ {vs:cN} {L:List cI},PlA H vs L->vs.length=L.length
 | [],[],_=>rfl
 | _::_,_::_,h=>congrArg (·+1) (PlA.len h.2)
theorem PlA.snoc {H:Hp} {a:Addr} {l:cJ} (p:Pl H a l):∀ {vs:cN} {L:List cI},PlA H vs L->PlA H (vs++[.ref a]) (L++[l])
 | [],[],_=>⟨⟨a,rfl,p⟩,trivial⟩
 | _::_,_::_,h=>⟨h.1,PlA.snoc p h.2⟩
theorem PlA.rep {H b:Hp} (s:Same H b):∀ {vs:cN} {L:List cI},PlA H vs L->RepA b vs (L.map EN)
 | [],[],_=>.nil
 | _::_,_::_,⟨⟨a,e,f,c,d⟩,r⟩=>by subst e;exact .cons (Fx (s _ _ c) (d.tp (D_ s))) (PlA.rep s r)
def FF.tp {H d:Hp} {p:Addr} {T B:cJ} (h:FF H p T B) (t:Tp H d):FF d p T B:=let ⟨u,v,a,b,c⟩:=h;⟨u,v,t _ _ a,b.tp t,c.tp t⟩
theorem Ps.tp {H b:Hp} (t:Tp H b):∀ {vs:cN} {L:List cI},Ps H vs L->Ps b vs L
 | [],[],_=>trivial
 | _::_,_::_,⟨⟨x,r,w,f,e,c,d,g⟩,h,i⟩=>⟨⟨x,r,w,f,e,t _ _ c,d.imp (λ⟨a,y,z,j,k⟩=>⟨a,y,z,j,t _ _ k⟩) id,g.tp t⟩,h,Ps.tp t i⟩
theorem Ps.len {H:Hp}:∀ {vs:cN} {L:List cI},Ps H vs L->vs.length=L.length
 | [],[],_=>rfl
 | _::_,_::_,h=>congrArg (·+1) (Ps.len h.2.2)
theorem Ps.snoc {H:Hp} {t w:Addr} {r f:V} {l:cJ} (h:H t=some (.tup [r,.ref w,f])) (b:(∃ a x y,r=.ref a/\Nm H a x y)\/∃ s,r=.str s/\W.kqdOk 8 (.str s)=true) (c:Pl H w l) (d:Fv l):∀ {vs:cN} {L:List cI},Ps H vs L->Ps H (vs++[.ref t]) (L++[l])
 | [],[],_=>⟨⟨t,r,w,f,rfl,h,b,c⟩,d,trivial⟩
 | _::_,_::_,q=>⟨q.1,q.2.1,Ps.snoc h b c d q.2.2⟩
theorem Ps.get {H:Hp}:∀ {vs:cN} {L:List cI} {i:Nat} {x:V},Ps H vs L->vs[i]?=some x->∃ l,L[i]?=some l/\(∃ t r w f,x=.ref t/\H t=some (.tup [r,.ref w,f])/\((∃ a x y,r=.ref a/\Nm H a x y)\/∃ s,r=.str s/\W.kqdOk 8 (.str s)=true)/\Pl H w l)/\Fv l
 | [],[],_,_,_,h=>nomatch h
 | _::_,l::_,0,_,q,h=>by
   cases sJ h;exact ⟨l,rfl,q.1,q.2.1⟩
 | _::_,_::_,i+1,_,q,h=>by
   obtain ⟨l,a,b⟩:=Ps.get q.2.2 h;exact ⟨l,a,b⟩
def Pr2 (H:Hp) (a:cN):Prop:=∀ v∈a,∃ (t:Addr) (d e:Int),v=.ref t/\H t=some (.tup [.int d,.int e])/\0<=d/\d<1000/\0<=e/\e<1000
def Pr2.same {H f:Hp} {g:cN} (h:Pr2 H g) (s:Same H f):Pr2 f g:=λv i=>let ⟨t,d,e,a,b,c⟩:=h v i;⟨t,d,e,a,s _ _ b,c⟩
def Tu {K:W.Frag} {c:TE} {g:TG} {d rest:TS} {D:Ends} {b:L2.St} {H:Hp} (h:c b H (λx e=>∃ a,x=.ref a/\(∃ f,SqL K e a f)/\ForL K a g d { D with nx:=rest D } b e)):AI (Bz (CW K c) g d) rest D b H:=h
def Kl {r:V->Option Int->Option Int->Hp->VK->Prop} {b:TE} {c d:TO} {a:L2.St} {H:Hp} {Q:VK} (h:b a H λx e=>c a e λl f=>d a f λu g=>r x l u g Q):au r b c d a H Q:=h
def Tv {a:Type} {l:List a} {i:Nat} {x:a} (h:l[i]?=some x):l.take (i+1)=l.take i++[x]:=by rw [List.take_succ,h];rfl
def vW {H:Hp} {f:Addr} {c vs:cN} (h:H f=some (.lst c)):Tp H (upd H f (.lst vs)):=λb d a=>(A3 (NP a h (λz=>nomatch z))).trans a
def Dr.get {a:cP} (h:cx a) (i:Nat) (b:i<24):∃ d:Int,L_ (a.map V.int) (i:Int)=some (.int d)/\0<=d/\d<1000:=h.2.at rfl (by rw [h.1];exact b)
def vX {l:cJ} {L:List cI} (h:L.Nodup) (n:l∉L):(L++[l]).Nodup:=by
 rw [List.nodup_append];exact ⟨h,List.nodup_cons.mpr ⟨List.not_mem_nil,List.nodup_nil⟩,λa c b d z=>n (by rw [<-BA.mp d,<-z];exact c)⟩
def Pr2.tp {H f:Hp} {g:cN} (h:Pr2 H g) (s:Tp H f):Pr2 f g:=λv i=>let ⟨t,d,e,a,b,c⟩:=h v i;⟨t,d,e,a,s _ _ b,c⟩
def vY {xs:cN} {lo a:Option Int} {v:V} (h:v∈BU xs lo a):v∈xs:=by
 unfold BU at h;exact List.mem_of_mem_drop (GI h)
def vZ {b:TA} {capt:List (Option Nat)} {g:TG} {c:TE} {a:L2.St} {H:Hp} {Q:VK} (h:b a H (λvs d=>∃ i j:Int,vs=[.int i,.int j]/\(-(2 ^ 62)<=i/\i<2 ^ 62/\-(2 ^ 62)<=j/\j<2 ^ 62)/\CompJ (aq i (j - i).toNat) capt g c a Q d)):B3 (Fb b) capt g c a H Q:=h
structure Eqn (H0 H:Hp) (q f:Addr) (L:List cI):Prop where
 s:Same H0 H
 q0:H0 q=none
 ps:∃ ws,H q=some (.lst ws)/\Ps H ws L
 nd:L.Nodup
 fr:∃ T U,FF H f T U/\Iy 1 L T U/\L.length+1<=U.length
def uA (h:MG K vs H Q E):Zk K { nx:=λ_ C=>Q .non C,rt:=Q } (L2.start ["_law_draws_here","_law_room","_law_pieces","_law_f","_law_drawn","_law_d","_law_e","_law_piece_here"] vs) H:=by
 obtain ⟨p,ds,rfl,hp,D,k⟩:=h;obtain ⟨d0,a0,b0,c0⟩:=Dr.get D 0 ∅;obtain ⟨d1,a1,b1,c1⟩:=Dr.get D 1 ∅;obtain ⟨d2,a2,b2,c2⟩:=Dr.get D 2 ∅;obtain ⟨d3,a3,b3,c3⟩:=Dr.get D 3 ∅;obtain ⟨d4,a4,b4,c4⟩:=Dr.get D 4 ∅;obtain ⟨d5,a5,b5,c5⟩:=Dr.get D 5 ∅;obtain ⟨d6,a6,b6,c6⟩:=Dr.get D 6 ∅;refine Bb (DR ⟨sz ∅,λq hq=>?_⟩);have s1:=AO hq (.lst []);have F:upd H q (.lst []) q=some (HO.lst []):=upd_same;generalize upd H q (.lst [])=H1 at s1 F ⊢;have a8:=s1 _ _ hp;show Rh K _ [some (.ref p),some (.int 5),some (.ref q),none,none,none,none,none] H1;refine Bb (BL (BL (Kl (DR (Be (BL (FD rfl a8 a0 ⟨d0,rfl,b0,λr1 n1 H2 s2 i1 m1=>?_⟩)))))));refine Be (BL (FD rfl (s2 _ _ a8) a1 ⟨d1,rfl,b1,λr2 n2 H3 s3 i2 m2=>⟨Bu,λw hw=>?_⟩⟩));have s4:=AO hw (.lst [.ref r1,.ref r2]);have B:=(s2.trans s3).trans s4;refine ⟨_,rfl,_,_,_,_,rfl,rfl,B _ _ a8,a2,_,_,rfl,rfl,(show (0:Int)<3 by decide),_,rfl,_,_,rfl,upd_same,λx hx=>?_⟩;have a9:isN (upd H3 w (.lst [.ref r1,.ref r2])) (.ref r1) n1:=isN.tp i1 (D_ (s3.trans s4));have am:isN (upd H3 w (.lst [.ref r1,.ref r2])) (.ref r2) n2:=isN.tp i2 (D_ s4);generalize upd H3 w (.lst [.ref r1,.ref r2])=H4 at B a9 am hx s4 ⊢;have m0:=BS d2 (show (3:Int)≠0 by decide);have m3:=BW d2 (show (0:Int)<3 by decide)
 have c8:∃ (zs:cN) (l:cJ),BU [V.ref r1,V.ref r2] none (some (d2 % 3))=zs/\Nums H4 zs l/\(∀ y∈l,Sm y)/\l.length<=2:=by
  generalize d2 % 3=j at m0 m3;rcases (show j=0\/j=1\/j=2 by omega) with z | z | z <;> subst z
  ·exact ⟨[],[],rfl,trivial,(λ_ h=>nomatch h),∅⟩
  ·exact ⟨[_],[n1],rfl,⟨a9,trivial⟩,λy hy=>by rw [BA.mp hy];exact m1,(show 1<=2 by decide)⟩
  ·exact ⟨[_,_],[n1,n2],rfl,⟨a9,am,trivial⟩,λy hy=>by
    rcases Bx.mp hy with z | z
    ·rw [z];exact m1
    ·rw [BA.mp z];exact m2,(show 2<=2 by decide)⟩
 obtain ⟨zs,l,ez,nl,sl,ll⟩:=c8;have s5:=AO hx (.lst (BU [V.ref r1,V.ref r2] none (some (d2 % 3))));refine ⟨x,zs,l,rfl,by rw [<-ez];exact upd_same,nl.tp (D_ s5),⋯,λr6 A H6 s6 h6 y6=>?_⟩;refine ⟨_,rfl,λf u H7 s7 h7 P7=>?_⟩;have an:=((B.trans s5).trans s6).trans s7;have E7:Eqn H H7 q f []:=⟨s1.trans an,hq,⟨[],an _ _ F,trivial⟩,.nil,trim l,[(1,1)],⟨r6,u,h7,⟨A,s7 _ _ h6,y6.tp (D_ s7)⟩,P7⟩,Tt sl ll ∅,∅⟩;show Rg K _ [some (.ref p),some (.int 5),some (.ref q),some (.ref f),none,none,none,none] H7;clear a9 am nl y6 h6 P7 h7 an s7 s6 s5 s4 B s2 s3 hx F i1 i2 hw a8;have N:=E7.s _ _ hp
 have go:∀ (w:Addr) (O:cN) (H8:Hp),Eqn H H8 q f []->H8 w=some (.lst O)->w≠q->Pr2 H8 O->Re K { nx:=λ_ C=>Q .non C,rt:=Q } [some (.ref p),some (.int 5),some (.ref q),some (.ref f),some (.ref w),none,none,none] H8:=λw O H8 E8 hw wq P8=>by
  refine Tu (AZ rfl ⟨_,rfl,⟨_,SqL.of hw⟩,ForL.by (xs:=O) (λi σ C=>∃ (x5 x6 x7:cO) (f:Addr) (L:List cI),σ=[some (.ref p),some (.int 5),some (.ref q),some (.ref f),some (.ref w),x5,x6,x7]/\Eqn H C q f L/\C w=some (.lst O)/\Pr2 C O) ⟨none,none,none,f,[],rfl,E8,hw,P8⟩ ?_ ?_ ?_⟩)
  ·rintro i σ C _ ⟨x5,x6,x7,f,L,rfl,J,ab,P1⟩;exact SqL.of ab
  ·rintro i x σ H9 hx ⟨x5,x6,x7,f,L,rfl,J,ab,P1⟩;obtain ⟨t,d,e,rfl,ht,e1,e2,e3,e4⟩:=P1 x (BV hx);refine ⟨_,_,rfl,ht,rfl,_,_,rfl,_,_,rfl,rfl,?_⟩;show Rc K _ [some (.ref p),some (.int 5),some (.ref q),some (.ref f),some (.ref w),some (.int d),some (.int e),x7] H9;refine Bb (Ag (BL (AZ rfl ⟨d,rfl,e1,e2,λv l ck c9 Pv Fl=>⟨_,rfl,v,e,l,rfl,e3,e4,Pv,Fl,λR fp r T' U' g bc ac hr FP PC u2=>?_⟩⟩)));show Rb K _ [some (.ref p),some (.int 5),some (.ref q),some (.ref f),some (.ref w),some (.int d),some (.int e),some (.ref R)] g;have S:=c9.trans bc;obtain ⟨T,U,FU,IU,lU⟩:=J.fr;obtain ⟨G,ao,PQ⟩:=J.ps;have cc:=FU.same S;have W:=PQ.tp (D_ S);have F:=S _ _ ao;have bd:=Pv.same bc;have bf:=P1.same S;have ah:=S _ _ ab;have bg:=J.s.trans S;obtain ⟨u,v',hf,Pu,zs,ar,b7⟩:=cc;obtain ⟨u1,v1,bi,cd,bj,bk,bl⟩:=FP;have zl:=b7.length;have cl:=bl.length
   have aj:∀ a7,Same g a7->∃ (x5 x6 x7:cO) (f':Addr) (L:List cI),[some (V.ref p),some (.int 5),some (.ref q),some (.ref f),some (.ref w),some (.int d),some (.int e),some (.ref R)]=[some (.ref p),some (.int 5),some (.ref q),some (.ref f'),some (.ref w),x5,x6,x7]/\Eqn H a7 q f' L/\a7 w=some (.lst O)/\Pr2 a7 O:=λa7 Z=>
    ⟨_,_,_,f,L,rfl,⟨bg.trans Z,J.q0,⟨G,Z _ _ F,W.tp (D_ Z)⟩,J.nd,T,U,(FF.same ⟨u,v',hf,Pu,zs,ar,b7⟩ Z),IU,lU⟩,Z _ _ ah,bf.same Z⟩
   show BO _ _ _ _ _ _;refine (show EG _ _ _ _ _ from Eg (CU (CU (BL (Bm rfl hf rfl ⟨v',zs,rfl,ar,BL (CU (Bm rfl ac rfl (S_ (Yq bi rfl ⟨v1,bj,rfl,bk,⟨_,_,rfl,rfl,_,rfl,_,_,rfl,rfl,_,rfl,Au (λc=>?_) (λc=>?_)⟩⟩))))⟩)))))
   ·have c:=sD c;have u5:U.length+U'.length<=6:=by omega
    refine Eg (CU (Bm rfl ac rfl (O0 (AZ rfl ⟨_,rfl,⟨_,SqL.of F⟩,CompJ.lst (xs:=G) (λi A C=>i<=G.length/\g=C/\PlA g A (L.take i)) ⟨Ai _,rfl,trivial⟩ ?_ ?_ ?_⟩))))
    ·rintro i A C ⟨hi,rfl,h⟩;have lq:=W.len;have:=IU.d5;exact ⟨hi,sz (by rw [h.len,CT];omega),SqL.of F⟩
    ·rintro i x A C hx ⟨hi,rfl,h⟩;obtain ⟨m,hm,⟨M,r1,w1,f1,rfl,h1,_,Pw⟩,Fm⟩:=W.get hx;refine Jr (Bm rfl h1 rfl ⟨(CK.mp hx).1,rfl,?_⟩);rw [Tv hm];exact h.snoc Pw
    ·rintro A C ⟨_,rfl,h⟩ y hy;have sy:=AO hy (.lst A);rw [List.take_of_length_le (by rw [W.len];exact AU _)] at h;obtain ⟨zv,ce,ch⟩:=bd.same sy;refine ⟨y,A,EN l,L.map EN,decide (l∈L),rfl,upd_same,Fx ce ch,h.rep sy,a_ l 6,λz hz=>?_,?_,_,rfl,?_⟩
     ·obtain ⟨m,_,rfl⟩:=BG.mp hz;exact a_ m 6
     ·rw [decide_eq_true_iff]
      exact ⟨λz=>BG.mpr ⟨l,z,rfl⟩,λz=>by
       obtain ⟨m,hm,e⟩:=BG.mp z;rw [<-Me e];exact hm⟩
     ·by_cases nl:l∈L
      ·rw [decide_eq_true nl];exact aj _ sy
      ·rw [sE nl];show Ra K _ _ _;have b8:=sy _ _ F;refine ⟨_,rfl,IR b8,_,rfl,_,_,_,rfl,rfl,b8,sz (by have:=W.len;have:=IU.d5;omega),?_⟩;have tq:=vW (vs:=G++[V.ref R]) b8;have bm:Same H (upd (upd g y (.lst A)) q (.lst (G++[V.ref R]))):=λb o hb=>(A3 (B6 hb J.q0)).trans (sy _ _ (bg _ _ hb));have bn:upd (upd g y (.lst A)) q (.lst (G++[V.ref R])) q=some (.lst (G++[V.ref R])):=upd_same;have bp:upd (upd g y (.lst A)) q (.lst (G++[V.ref R])) w=some (.lst O):=(A3 wq).trans (sy _ _ ah);have I:Tp g (upd (upd g y (.lst A)) q (.lst (G++[V.ref R]))):=λb xs h=>tq b xs (D_ sy b xs h);have br:=bf.tp I;have bs:FF (upd (upd g y (.lst A)) q (.lst (G++[V.ref R]))) f T U:=FF.tp ⟨u,v',hf,Pu,zs,ar,b7⟩ I;have bt:FF (upd (upd g y (.lst A)) q (.lst (G++[V.ref R]))) fp T' U':=FF.tp ⟨u1,v1,bi,cd,bj,bk,bl⟩ I;have bw:Ps (upd (upd g y (.lst A)) q (.lst (G++[V.ref R]))) (G++[V.ref R]) (L++[l]):=Ps.snoc (I _ _ ac) (hr.imp (λ⟨a,x,y,e1,e2⟩=>⟨a,x,y,e1,I _ _ e2⟩) id) (bd.tp I) Fl (W.tp I);have al:=I _ _ ac;generalize upd (upd g y (.lst A)) q (.lst (G++[V.ref R]))=cm at bm bn bp br bs bt bw al ⊢;show RZ K _ _ _;refine Gi (Ag (AZ rfl (Bm rfl al rfl ⟨f,fp,T,U,T',U',26,6,5,4,rfl,bs,bt,IU.rp,(PC.rp ⋯).mono ∅ ∅ ∅,∅,λr' cn X Y B FX LX eX=>?_⟩)));obtain ⟨IX,lX⟩:=IU.add PC Fl nl u5 LX eX
       exact ⟨_,_,_,r',L++[l],rfl,⟨bm.trans B,J.q0,⟨_,B _ _ bn,bw.tp (D_ B)⟩,vX J.nd nl,X,Y,FX,IX.sub (λm hm=>by
        rcases Bx.mp hm with z | z
        ·rw [z];exact Cz _ CH
        ·exact GD _ z),by rw [DB];show L.length+1+1<=_;omega⟩,B _ _ bp,br.same B⟩
   ·exact aj g (Same.refl g)
  ·rintro σ H9 ⟨x5,x6,x7,f,L,rfl,J,ab,P1⟩;obtain ⟨T,U,FU,IU,lU⟩:=J.fr;obtain ⟨G,ao,PQ⟩:=J.ps;have:=IU.d5;refine DK (Ct (AZ rfl (AZ rfl ⟨Bu,λt ht=>?_⟩)));have s9:=AO ht (.tup [.ref f,.ref q]);exact k t f q G L T U _ (J.s.trans s9) upd_same (s9 _ _ ao) (PQ.tp (D_ s9)) J.nd ⋯ (FU.same s9) IU
 refine Bb (Kl (DR (Be (Ct (FD rfl N a3 (FD rfl N a4 ⟨Bu,λM g1=>?_⟩))))));have z1:=AO g1 (.tup [.int d3,.int d4]);refine Be (Ct (FD rfl (z1 _ _ N) a5 (FD rfl (z1 _ _ N) a6 ⟨Bu,λt2 g2=>⟨Bu,λw hw=>?_⟩⟩)));have z2:=AO g2 (.tup [.int d5,.int d6]);have z3:=AO hw (.lst [.ref M,.ref t2]);have b9:=(z1.trans z2).trans z3;refine ⟨_,rfl,_,_,_,_,rfl,rfl,b9 _ _ N,a2,_,_,rfl,rfl,ag ∅,_,_,rfl,rfl,(show (0:Int)<4 by decide),_,rfl,_,_,rfl,upd_same,λx hx=>?_⟩;have z4:=AO hx (.lst (BU [V.ref M,V.ref t2] none (some (d2 / 3 % 4))))
 have Pd:Pr2 (upd (upd (upd H7 M (.tup [.int d3,.int d4])) t2 (.tup [.int d5,.int d6])) w (.lst [.ref M,.ref t2])) (BU [V.ref M,V.ref t2] none (some (d2 / 3 % 4))):=λv hv=>by
  rcases Bx.mp (vY hv) with z | z
  ·exact ⟨M,d3,d4,z,z3 _ _ (z2 _ _ upd_same),b3,c3,b4,c4⟩
  ·exact ⟨t2,d5,d6,BA.mp z,z3 _ _ upd_same,b5,c5,b6,c6⟩
 have ba:=b9.trans z4;have Pd:=Pd.same z4;have bb:=upd_same (H:=upd (upd (upd H7 M (.tup [.int d3,.int d4])) t2 (.tup [.int d5,.int d6])) w (.lst [.ref M,.ref t2])) (a:=x) (o:=HO.lst (BU [V.ref M,V.ref t2] none (some (d2 / 3 % 4))));obtain ⟨cp,cj,_⟩:=E7.ps;have xq:x≠q:=λz=>by rw [z,b9 _ _ cj] at hx;cases hx
 show Rf K _ [some (.ref p),some (.int 5),some (.ref q),some (.ref f),some (.ref x),none,none,none] _;generalize upd (upd (upd (upd H7 M (.tup [.int d3,.int d4])) t2 (.tup [.int d5,.int d6])) w (.lst [.ref M,.ref t2])) x (.lst (BU [V.ref M,V.ref t2] none (some (d2 / 3 % 4))))=H8 at ba Pd bb ⊢;generalize BU [V.ref M,V.ref t2] none (some (d2 / 3 % 4))=O at Pd bb;have bx:∀ {Ha Hb:Hp},Eqn H Ha q f []->Same Ha Hb->Eqn H Hb q f []:=λe s=>⟨e.s.trans s,e.q0,let ⟨O,a,b⟩:=e.ps;⟨O,s _ _ a,b.tp (D_ s)⟩,e.nd,let ⟨T,U,a,b⟩:=e.fr;⟨T,U,a.same s,b⟩⟩;have E8:=bx E7 ba;have bz:=ba _ _ N;refine FE ⟨_,rfl,_,_,_,_,rfl,rfl,bz,a2,_,_,rfl,rfl,ag ∅,_,_,rfl,rfl,(show (0:Int)<8 by decide),rfl,_,rfl,Au (λc=>?_) (λc=>?_)⟩
 ·refine Gi (vZ ⟨3,9,rfl,∅,CompJ.range (n:=6) (λi A C=>i<=6/\Same H8 C/\Pr2 C A/\A.length=i) ⟨Ai _,Same.refl H8,(λ_ h=>nomatch h),rfl⟩ ?_ ?_ ?_⟩)
  ·rintro i A C ⟨hi,s,P,l⟩;exact ⟨hi,sz ⋯⟩
  ·rintro i A C hi ⟨_,s,P,l⟩;obtain ⟨x1,y1,u1,v1⟩:=Dr.get D (3+i) ⋯;obtain ⟨x2,y2,u2,v2⟩:=Dr.get D (3+i+1) ⋯;rw [show ((3+i:Nat):Int)=3+(i:Int) by omega] at y1;rw [show ((3+i+1:Nat):Int)=3+(i:Int)+1 by omega] at y2;have c7:=s _ _ bz;refine Jr (Ct ?_);refine ⟨_,rfl,_,rfl,_,_,_,_,rfl,rfl,c7,y1,_,_,rfl,rfl,ag ∅,_,_,rfl,rfl,GC ∅ ∅,_,rfl,_,rfl,_,_,rfl,rfl,_,_,_,_,rfl,rfl,c7,y2,_,_,rfl,rfl,(show (0:Int)<4 by decide),Bu,λt ht=>?_⟩;have st:=AO ht (.tup [.int (x1 / 3*3),.int (x2 % 4)]);have e0:=BS x2 (show (4:Int)≠0 by decide);have e1:=BW x2 (show (0:Int)<4 by decide);refine ⟨hi,s.trans st,λv hv=>?_,by rw [DB,l];rfl⟩;rcases EC.mp hv with z | z
   ·exact P.same st v z
   ·exact ⟨t,_,_,BA.mp z,upd_same,⋯,⋯,e0,⋯⟩
  ·rintro A C ⟨_,s,P,_⟩ y hy;have st:=AO hy (.lst A)
   have yq:y≠q:=λz=>by
    obtain ⟨G,a,_⟩:=E8.ps;rw [z,s _ _ a] at hy;cases hy
   exact go y A _ (bx E8 (s.trans st)) upd_same yq (P.same st)
 ·exact go x O H8 E8 bb xq Pd
def uB {j:Nat} (b:j<=5):∃ N:cP,si N=sr (List.replicate j (0,1)++[((1:Int),(1:Int))])/\L1 N<=1/\N.length<=6:=by
 refine ⟨List.replicate j 0++[1],?_,?_,?_⟩
 ·clear b
  induction j with
  | zero=>show si [1]=sr [(1,1)];rw [aK,EA]
  | succ j a=>
    rw [ED,ED,List.cons_append,List.cons_append,De,JF,a,DQ]
 ·clear b
  induction j with
  | zero=>decide
  | succ j a=>rw [ED,List.cons_append];show (0:Int).natAbs+L1 _<=1;simpa using a
 ·rw [DB,Dh];show j+1<=6;omega
theorem Tw {a:Type} (x:a):∀ n:Nat,(List.replicate n [x]).flatten=List.replicate n x
 | 0=>rfl
 | n+1=>by rw [ED,List.flatten_cons,Tw x n];rfl
theorem Tx {H:Hp} {a b:Addr} (c:Nm H a 0 1) (d:Nm H b 1 1):∀ n:Nat,Nums H (List.replicate n (V.ref a)++[V.ref b]) (List.replicate n (0,1)++[(1,1)])
 | 0=>⟨⟨b,rfl,d⟩,trivial⟩
 | n+1=>⟨⟨a,rfl,c⟩,Tx c d n⟩
def uC {j:Nat}:AV (List.replicate j (0,1)++[((1:Int),(1:Int))]):=λq a=>by
 rcases EC.mp a with z | z
 ·rw [List.eq_of_mem_replicate z];exact cB 0
 ·rw [BA.mp z];exact Gu
def uD {K:W.Frag} {D:Ends} {H:Hp} {p q y w:Addr} {k m x:cO} {d:Int} {n:Nat} {A:List cI} {T U l:cJ} (d0:0<=d) (n1:1<=n) (n3:n<=3) (FU:FF H y T U) (I:Iy 5 A T U) (F:Fv l) (Pw:Pl H w l)
  (k0:D.nx [some (.ref p),some (.ref q),some (.ref y),k,m,some (.ref w),x,some (.int d),some (.int n)] H)
  (k1:∀ (r:Addr) (X Y:cJ) (B:Hp),Same H B->FF B r X Y->(l∉A->Iy 5 (l::A) X Y)->(∃ N D,Wh (102*24 ^ 4) 10 (6*24 ^ 4) 5 N D X Y)->D.nx [some (.ref p),some (.ref q),some (.ref r),k,m,some (.ref w),x,some (.int d),some (.int n)] B) :
  MK K D [some (.ref p),some (.ref q),some (.ref y),k,m,some (.ref w),x,some (.int d),some (.int n)] H:=by
 obtain ⟨g,Z,l2,l3,o⟩:=FO F;obtain ⟨u,v,hf,Pu,zs,hv,nv⟩:=FU;obtain ⟨j,hw,nw⟩:=Pw;have zl:=nv.length;have yl:=nw.length;show BO _ _ _ _ _ _;refine Eg (CU (CU (BL (Bm rfl hf rfl ⟨v,zs,rfl,hv,⟨_,rfl,?_⟩⟩))));refine BL (AZ rfl ⟨w,j,rfl,hw,_,_,rfl,rfl,GC ⋯ ⋯,_,_,rfl,rfl,_,_,rfl,rfl,_,rfl,Au (λc=>?_) (λc=>k0)⟩);have c:=sD c
 have cn:U.length - 1+n*(l.length - 1)<5:=by
  have e:(n:Int)*((j.length:Int) - 1)=((n*(l.length - 1):Nat):Int):=by
   rw [show ((j.length:Int) - 1)=((l.length - 1:Nat):Int) by omega];exact (Int.natCast_mul ..).symm
  have u1:=BD.mpr I.lw.ne;rw [e] at c;omega
 refine Gi (Ag (AZ rfl (Ag (BL (DR (Be (BL ⟨_,rfl,_,_,rfl,rfl,ag ∅,?_⟩)))))));refine ⟨_,rfl,Int.ediv_nonneg d0 ∅,λr1 C H1 s1 i1 a=>⟨Ck,λa1 h1=>?_⟩⟩;have s2:=AO h1 (.lst [.ref r1]);refine ⟨a1,_,[C],rfl,upd_same,⟨i1.tp (D_ s2),trivial⟩,(show 1<=1000 by decide),λr3 z3 H3 s3 h3 G=>?_⟩;have b:=(s1.trans s2).trans s3;refine Ag (AZ rfl (AZ rfl ⟨w,j,l,n,rfl,b _ _ hw,nw.tp (D_ b),g,l3,⋯,λr4 H4 L J P4 al nl gL M=>?_⟩));have L0:L≠[]:=λz=>Sr.pow_ne (AM l) (Bw g.low g.nz Z) n (by rw [<-M,z,GA])
 have lL:L.length<=7:=by
  have lp:=BD.mpr Z;have tt:=Kh (JI o) (by rw [Nat.sub_add_cancel lp];exact Ho l) n;have:=(KY al nl M (by rw [tt.1];decide) tt.2).2.1;have:(l.length - 1)*n<=2*3:=BN ⋯ ⋯;omega
 refine HA (P:=trim [C]) ⟨z3,J _ _ h3,G.tp (D_ J)⟩ P4 (NA a.1 a.2.1 a.2.2) (gL.mono ∅ ∅) L0 (A7 (EL [C]) (show 1<=7 by decide)) lL λu5 H5 T' U' s5 O R f a0=>?_;rw [NC a.1,M] at f;obtain ⟨S,y2⟩:=Tr F R n1 n3 a.1.pos a.2.2 a.2.1 f
 have h:U.length+U'.length<=6:=by
  have e:(l.length - 1)*n=n*(l.length - 1):=C3 _ _;have u1:=BD.mpr I.lw.ne;omega
 have i:=(b.trans J).trans s5;refine ⟨y,u5,T,U,T',U',26,10,5,4,rfl,FF.same ⟨u,v,hf,Pu,zs,hv,nv⟩ i,O,I.rp,(S.rp (by have:=BD.mpr I.lw.ne;omega)).mono ∅ ∅ ∅,∅,λr6 H6 X Y s6 FX LX eX=>?_⟩;exact k1 r6 X Y H6 (i.trans s6) FX (λz=>(I.add S F z h LX eX).1) (I.last S h LX eX)
structure Sol (H0 H:Hp) (L:List cI) (i:Nat) (y:Addr):Prop where
 s:Same H0 H
 fr:∃ T U,FF H y T U/\(i<=L.length->Iy 5 (L.take i) T U)/\∃ N D,Wh (102*24 ^ 4) 10 (6*24 ^ 4) 5 N D T U
def Sol.next {a H b:Hp} {L:List cI} {i:Nat} {y:Addr} (h:Sol a H L i y) (s:Same H b):Sol a b L (i+1) y:=by
 obtain ⟨T,U,F,I,W⟩:=h.fr;exact ⟨h.s.trans s,T,U,F.same s,λc=>(I ⋯).sub λm d=>(List.take_subset_take_left L (Nat.le_succ i)) d,W⟩
def Sol.add {b H a:Hp} {L:List cI} {i:Nat} {r:Addr} {l X Y:cJ} (s:Same b H) (s':Same H a) (d:L.Nodup) (f:i<L.length->L[i]?=some l) (F:FF a r X Y) (I:l∉L.take i->Iy 5 (l::L.take i) X Y) (W:∃ N D,Wh (102*24 ^ 4) 10 (6*24 ^ 4) 5 N D X Y):Sol b a L (i+1) r:=by
 refine ⟨s.trans s',X,Y,F,λc=>?_,W⟩;have e:=f ⋯;rw [Tv e];refine (I λz=>?_).sub λm g=>?_
 ·rw [<-List.take_append_drop i L,List.nodup_append] at d;refine d.2.2 l z l ?_ rfl;rw [List.mem_iff_getElem?];exact ⟨0,by rw [List.getElem?_drop,Nat.add_zero];exact e⟩
 ·rcases Bx.mp g with z | z
  ·rw [z];exact Cz _ CH
  ·exact GD _ z
def uE {K:W.Frag} {c:TA} {g:TG} {d rest:TS} {D:Ends} {b:L2.St} {H:Hp} (h:c b H (λvs e=>∃ a,vs=[.ref a]/\(∃ f,SqL K e a f)/\ForJ (HM K a) g d { D with nx:=rest D } b e)):AI (Bz (Fj K c) g d) rest D b H:=h
def in3 {H:Hp} {r:V} {Q:VK} (j:(∃ a x y,r=.ref a/\Nm H a x y)\/∃ s,r=.str s/\W.kqdOk 8 (.str s)=true) {p a b c:Addr} (hp:H p=some (.lst [.ref a,.ref b,.ref c])) (m:Nm H a 1 1) (o:Nm H b 2 1) (q:Nm H c 3 1) (k:∀ t:Bool,(t=true->∃ w x,r=.ref w/\Nm H w x 1/\1<=x/\x<=3)->Q (.bl t) H):LN r (.ref p) H Q:=by
 have R:RepA H [.ref a,.ref b,.ref c] [Cl (1,1),Cl (2,1),Cl (3,1)]:=.cons (Ia ⟨a,rfl,m⟩) (.cons (Ia ⟨b,rfl,o⟩) (.cons (Ia ⟨c,rfl,q⟩) .nil))
 have ok:∀ e∈[Cl (1,1),Cl (2,1),Cl (3,1)],W.kqdOk 8 e=true:=λe g=>by
  rcases Bx.mp g with z | g
  ·rw [z];exact bU _ 7
  ·rcases Bx.mp g with z | g
   ·rw [z];exact bU _ 7
   ·rw [BA.mp g];exact bU _ 7
 rcases j with ⟨w,x,y,rfl,i⟩ | ⟨s,rfl,os⟩
 ·refine ⟨p,_,Cl (x,y),_,decide (y=1/\1<=x/\x<=3),rfl,hp,.inl (Ia ⟨w,rfl,i⟩),R,bU _ 7,ok,?_,k _ λt=>?_⟩
  ·rw [decide_eq_true_iff];constructor
   ·rintro ⟨rfl,f,d⟩;rcases (show x=1\/x=2\/x=3 by omega) with z | z | z <;> subst z
    ·exact CH
    ·exact Ca _ CH
    ·exact Ca _ (Ca _ CH)
   ·intro h
    have e:∀ {n:Int},Cl (x,y)=Cl (n,1)->x=n/\y=1:=λ{n} h=>by
     unfold Cl at h;injection h with h;injection h with f d;injection d with d _;injection f with f;injection d with d;exact ⟨f,d⟩
    rcases Bx.mp h with z | h
    ·obtain ⟨rfl,rfl⟩:=e z;decide
    ·rcases Bx.mp h with z | h
     ·obtain ⟨rfl,rfl⟩:=e z;decide
     ·obtain ⟨rfl,rfl⟩:=e (BA.mp h);decide
  ·obtain ⟨rfl,f,d⟩:=sD t;exact ⟨w,x,rfl,i,f,d⟩
 ·refine ⟨p,_,.str s,_,false,rfl,hp,.inr ⟨s,rfl,rfl⟩,R,os,ok,⟨(λz=>nomatch z),λz=>?_⟩,k _ (λz=>nomatch z)⟩;rcases Bx.mp z with z | h
  ·cases z
  ·rcases Bx.mp h with z | h
   ·cases z
   ·cases BA.mp h
def uF (h:MH K vs H Q E):Zl K { nx:=λ_ F=>Q .non F,rt:=Q } (L2.start ["_law_draws_here","_law_pieces","_law_y","_law_k","_law_rho","_law_v","_law_part","_law_d","_law_n"] vs) H:=by
 obtain ⟨p,q,ds,ws,L,rfl,hp,D,hq,PS,nd,L4,k⟩:=h;obtain ⟨d7,a7,b7,c7⟩:=Dr.get D 7 ∅;obtain ⟨d8,a8,b8,c8⟩:=Dr.get D 8 ∅;obtain ⟨d9,a9,b9,c9⟩:=Dr.get D 9 ∅;refine Bb (BL (BL (DR (Be (BL (FD rfl hp a7 ⟨d7,rfl,b7,λr1 J H2 s2 i1 m1=>?_⟩))))));refine Be (BL (FD rfl (s2 _ _ hp) a8 ⟨d8,rfl,b8,λr2 O H3 s3 i2 m2=>⟨Bu,λw hw=>?_⟩⟩));have s4:=AO hw (.lst [.ref r1,.ref r2])
 have sl:∀ y∈[J,O],Sm y:=λy hy=>by
  rcases Bx.mp hy with z | z
  ·rw [z];exact m1
  ·rw [BA.mp z];exact m2
 refine ⟨w,_,[J,O],rfl,upd_same,⟨i1.tp (D_ (s3.trans s4)),i2.tp (D_ s4),trivial⟩,(show 2<=1000 by decide),λr5 z5 H5 s5 h5 n5=>⟨_,rfl,λy u H6 s6 h6 P6=>?_⟩⟩;have a6:=(((s2.trans s3).trans s4).trans s5).trans s6;show Ro K _ [some (.ref p),some (.ref q),some (.ref y),none,none,none,none,none,none] H6;have FY:FF H6 y (trim [J,O]) [(1,1)]:=⟨r5,u,h6,⟨z5,s6 _ _ h5,n5.tp (D_ s6)⟩,P6⟩;have IY:Iy 5 [] (trim [J,O]) [(1,1)]:=Tt sl (show 2<=2 by decide) ∅;clear n5 h5 h6 P6 i1 i2 s6 s5 s4 s3 s2 hw
 have go:∀ (y:Addr) (T U:cJ) (H7:Hp),Same H H7->FF H7 y T U->Iy 5 [] T U->Rn K { nx:=λ_ F=>Q .non F,rt:=Q } [some (.ref p),some (.ref q),some (.ref y),none,none,none,none,none,none] H7:=λy T U H7 s7 FU IU=>by
  have b0:=s7 _ _ hp;have b1:=s7 _ _ hq;refine uE (Be (CU (AZ rfl (DR (Be (Ki (Be (S_ (Be (BL (FD rfl b0 a9 ⟨d9,rfl,b9,c9,λv9 l9 H8 s8 P9 F9=>?_⟩)))))))))));refine ⟨sz (show 3<=1000000 by decide),λv h9=>⟨Ck,λw9 g9=>?_⟩⟩;have s9:=AO h9 (.tup [.str "new", V.ref v9,V.non]);have ab:=AO g9 (.lst [.ref v]);have a2:=(s8.trans s9).trans ab;have wl:=PS.len;refine ⟨_,_,_,_,rfl,rfl,a2 _ _ b1,upd_same,sz (show ws.length+1<=1000000 by omega),λx hx=>?_⟩;have ac:=AO hx (.lst (ws++[V.ref v]));have ah:=upd_same (H:=upd (upd H8 v (.tup [.str "new", V.ref v9,V.non])) w9 (.lst [.ref v])) (a:=x) (o:=HO.lst (ws++[V.ref v]));have B:=a2.trans ac;have PN:Ps (upd (upd (upd H8 v (.tup [.str "new", V.ref v9,V.non])) w9 (.lst [.ref v])) x (.lst (ws++[V.ref v]))) (ws++[.ref v]) (L++[l9]):=Ps.snoc (ac _ _ (ab _ _ upd_same)) (.inr ⟨_,rfl,by first | decide | decide +kernel⟩) (P9.same ((s9.trans ab).trans ac)) F9 (PS.tp (D_ (s7.trans B)));generalize upd (upd (upd H8 v (.tup [.str "new", V.ref v9,V.non])) w9 (.lst [.ref v])) x (.lst (ws++[V.ref v]))=R at ah B PN ⊢;have am:=s7.trans B;have b2:=am _ _ hp;have S0:Sol R R L 0 y:=⟨Same.refl R,T,U,FU.same B,λ_=>IU.sub (λ_ h=>nomatch h),IU.fin⟩;have nl:(ws++[V.ref v]).length=L.length+1:=by rw [DB,wl];rfl
  refine ⟨x,rfl,⟨_,SqL.of ah⟩,ForJ.enumL (xs:=ws++[V.ref v]) (λi σ F=>∃ (x3 x4 x5 x6 Z M:cO) (y:Addr),σ=[some (.ref p),some (.ref q),some (.ref y),x3,x4,x5,x6,Z,M]/\Sol R F L i y) ⟨none,none,none,none,none,none,y,rfl,S0⟩ ?_ ?_ ?_⟩
  ·rintro i σ F _ ⟨x3,x4,x5,x6,Z,M,y,rfl,S⟩;exact SqL.of (S.s _ _ ah)
  ·rintro i z pt σ G hz ⟨x3,x4,x5,x6,Z,M,y,rfl,S⟩ b3;have st:=AO b3 (.tup [.int i,z]);have e:=S.s.trans st;have lt:i<L.length+1:=by rw [<-nl];exact (CK.mp hz).1
   obtain ⟨l,hl,⟨t,r,w,f,rfl,ht,hr,Pw⟩,Fl⟩:=PN.get hz;have b4:i<L.length->L[i]?=some l:=λc=>by rw [GF c] at hl;exact hl
   refine ⟨_,_,rfl,upd_same,rfl,_,_,rfl,_,_,rfl,⟨t,_,rfl,e _ _ ht,rfl,_,_,rfl,_,_,rfl,_,_,rfl,rfl,rfl,?_⟩⟩;have a0:Sol R (upd G pt (.tup [.int i,.ref t])) L (i+1) y:=S.next st;obtain ⟨T1,U1,F1,I1,W1⟩:=S.fr;have an:=F1.same st;have a3:=e _ _ b2;have a4:=Pw.same e;have a5:(∃ a x y,r=.ref a/\Nm (upd G pt (.tup [.int i,.ref t])) a x y)\/∃ s,r=.str s/\W.kqdOk 8 (.str s)=true:=hr.imp (λ⟨a,x,y,C,e2⟩=>⟨a,x,y,C,e _ _ e2⟩) id;have I1:=I1 ⋯;generalize upd G pt (.tup [.int i,.ref t])=g at a0 an a3 a4 a5 e ⊢;show Rl K _ [some (.ref p),some (.ref q),some (.ref y),some (.int i),some r,some (.ref w),some f,Z,M] g;obtain ⟨d,ad,bd,cd⟩:=Dr.get D (10+i) ⋯;rw [show ((10+i:Nat):Int)=10+(i:Int) by omega] at ad;refine Bb ⟨_,rfl,_,rfl,_,_,rfl,rfl,_,_,_,_,rfl,rfl,a3,ad,?_⟩;show Rk K _ [some (.ref p),some (.ref q),some (.ref y),some (.int i),some r,some (.ref w),some f,some (.int d),M] g;show BO _ _ _ _ _ _;refine Eg ⟨_,rfl,_,_,rfl,rfl,(show (0:Int)<3 by decide),_,_,rfl,rfl,_,rfl,Au (λc=>?_) (λc=>⟨_,_,_,_,_,_,y,rfl,a0⟩)⟩;show Rj K _ _ _;refine Bb ⟨_,rfl,_,_,rfl,rfl,ag ∅,_,_,rfl,rfl,(show (0:Int)<3 by decide),_,_,rfl,rfl,?_⟩;have m0:=BS (d / 3) (show (3:Int)≠0 by decide);have m3:=BW (d / 3) (show (0:Int)<3 by decide)
   have aj:∀ (n:Int) (al:Hp),Same g al->1<=n->n<=3->MK K { nx:=λσ F=>∃ (x3 x4 x5 x6 Z M:cO) (y:Addr),σ=[some (.ref p),some (.ref q),some (.ref y),x3,x4,x5,x6,Z,M]/\Sol R F L (i+1) y,rt:=Q,ct:=λσ F=>∃ (x3 x4 x5 x6 Z M:cO) (y:Addr),σ=[some (.ref p),some (.ref q),some (.ref y),x3,x4,x5,x6,Z,M]/\Sol R F L (i+1) y,bk:=Rm K { nx:=λ_ F=>Q .non F,rt:=Q } } [some (.ref p),some (.ref q),some (.ref y),some (.int i),some r,some (.ref w),some f,some (.int d),some (.int n)] al:=λn al I J n3=>by
    obtain ⟨n,rfl⟩:∃ m:Nat,n=m:=⟨n.toNat,⋯⟩;refine uD bd ⋯ ⋯ (an.same I) I1 Fl (a4.same I) ⟨_,_,_,_,_,_,y,rfl,?_⟩ λr' X Y b6 b5 FX IX WX=>⟨_,_,_,_,_,_,r',rfl,Sol.add (e.trans I) b5 nd b4 FX IX WX⟩;obtain ⟨T2,U2,F2,I2,W2⟩:=a0.fr;exact ⟨a0.s.trans I,T2,U2,F2.same I,I2,W2⟩
   obtain ⟨n0,en⟩:∃ n0,n0=1+d / 3 % 3:=⟨_,rfl⟩;show Ri K _ [some (.ref p),some (.ref q),some (.ref y),some (.int i),some r,some (.ref w),some f,some (.int d),some (.int (1+d / 3 % 3))] g;rw [<-en];refine FE (show EG _ _ _ _ _ from Eg (CU (AZ rfl (DR (Be (Ct (S_ (S_ ⟨Bu,λC g1=>?_⟩))))))));have z1:=AO g1 (.tup [.int 1,.int 1]);refine Be (Ct (S_ (S_ ⟨Bu,λe2 g2=>?_⟩)));have z2:=AO g2 (.tup [.int 2,.int 1]);refine Be (Ct (S_ (S_ ⟨Bu,λe3 g3=>⟨Js,λe4 g4=>?_⟩⟩)));have z3:=AO g3 (.tup [.int 3,.int 1]);have z4:=AO g4 (.lst [.ref C,.ref e2,.ref e3]);have a1:=(z1.trans z2).trans (z3.trans z4);have w1:=z4 _ _ (z3 _ _ (z2 _ _ (upd_same (H:=g) (a:=C) (o:=HO.tup [V.int 1,V.int 1]))));have w2:=z4 _ _ (z3 _ _ (upd_same (H:=upd g C (.tup [.int 1,.int 1])) (a:=e2) (o:=HO.tup [V.int 2,V.int 1])));have w3:=z4 _ _ (upd_same (H:=upd (upd g C (.tup [.int 1,.int 1])) e2 (.tup [.int 2,.int 1])) (a:=e3) (o:=HO.tup [V.int 3,V.int 1]));refine in3 (a5.imp (λ⟨a,x,y,C,e2⟩=>⟨a,x,y,C,a1 _ _ e2⟩) id) upd_same w1 w2 w3 λt ht=>⟨_,rfl,Au (λc1=>?_) (λc1=>aj n0 _ a1 ⋯ ⋯)⟩;refine Eg ⟨_,rfl,_,_,rfl,rfl,ag ∅,_,_,rfl,rfl,(show (0:Int)<2 by decide),rfl,_,rfl,Au (λc2=>?_) (λc2=>aj n0 _ a1 ⋯ ⋯)⟩;obtain ⟨wa,xa,rfl,ha,h1,h2⟩:=ht c1;refine Gi (Bm rfl ha rfl ?_);exact aj xa _ a1 h1 h2
  ·rintro σ G ⟨x3,x4,x5,x6,Z,M,y,rfl,S⟩;obtain ⟨T1,U1,F1,I1,N,DD,W1⟩:=S.fr;exact DK (AZ rfl (k y T1 U1 N DD G (am.trans S.s) F1 W1))
 have ao:=a6 _ _ hp;refine FE ⟨_,rfl,_,_,_,_,rfl,rfl,ao,a8,_,_,rfl,rfl,ag ∅,_,_,rfl,rfl,(show (0:Int)<4 by decide),rfl,_,rfl,Au (λc=>?_) (λc=>go y _ _ H6 a6 FY IY)⟩;have m0:=BS (d8 / 180) (show (4:Int)≠0 by decide);have m4:=BW (d8 / 180) (show (0:Int)<4 by decide);refine Gi (Ag (AZ rfl (BL (BL (CU (CU (DR (Be (Ct (S_ (S_ ⟨Bu,λC g1=>⟨Ck,λe2 g2=>?_⟩⟩)))))))))));have z1:=AO g1 (.tup [.int 0,.int 1]);have z2:=AO g2 (.lst [.ref C]);refine ⟨_,rfl,_,_,_,_,rfl,rfl,(z1.trans z2) _ _ ao,a8,_,_,rfl,rfl,ag ∅,_,_,rfl,rfl,(show (0:Int)<4 by decide),_,_,rfl,rfl,?_⟩;obtain ⟨j,ej⟩:∃ j:Nat,2+d8 / 180 % 4=(j:Int)/\j<=5:=⟨(2+d8 / 180 % 4).toNat,⋯,⋯⟩;refine ⟨_,_,_,rfl,rfl,upd_same,⋯,⋯,sz (by show 1*_<=1000000;omega),λe3 g3=>?_⟩;rw [Tw,show (2+d8 / 180 % 4).toNat=j by omega];have z3:=AO g3 (.lst (List.replicate j (V.ref C)));refine DR (Be (Ct (S_ (S_ ⟨Bu,λe4 g4=>⟨Ck,λe5 g5=>?_⟩⟩))));have z4:=AO g4 (.tup [.int 1,.int 1]);have z5:=AO g5 (.lst [.ref e4]);refine ⟨_,_,_,_,rfl,rfl,z5 _ _ (z4 _ _ upd_same),upd_same,sz (by rw [Dh];show j+1<=1000000;omega),λe6 g6=>?_⟩;have z6:=AO g6 (.lst (List.replicate j (V.ref C)++[V.ref e4]));have nn:=Tx (z6 _ _ (z5 _ _ (z4 _ _ (z3 _ _ (z2 _ _ (upd_same (H:=H6) (a:=C) (o:=HO.tup [V.int 0,V.int 1]))))))) (z6 _ _ (z5 _ _ (upd_same (a:=e4) (o:=HO.tup [V.int 1,V.int 1])))) j;refine ⟨e6,_,_,rfl,upd_same,nn,(show _<=1000 by rw [DB,Dh];show j+1<=1000;omega),λr7 y7 H7 s7 h7 n7=>⟨_,rfl,λf8 u8 H8 s8 h8 P8=>?_⟩⟩;rw [Jj cA] at n7;have ar:=((((z1.trans z2).trans (z3.trans z4)).trans (z5.trans z6)).trans s7).trans s8;have F8:FF H8 f8 (List.replicate j (0,1)++[(1,1)]) [(1,1)]:=⟨r7,u8,h8,⟨y7,s8 _ _ h7,n7.tp (D_ s8)⟩,P8⟩;have L8:Lw (List.replicate j (0,1)++[((1:Int),(1:Int))]) [(1,1)]:=be uC cA;obtain ⟨N,eN,l1,lN⟩:=uB ej.2;have W8:Wh 1 6 1 1 (si N) 1 (List.replicate j (0,1)++[((1:Int),(1:Int))]) [(1,1)]:=⟨L8,⟨N,rfl,l1,lN⟩,⟨[1],aK,∅,∅⟩,one_ne,by rw [eN,EA]⟩;refine ⟨y,f8,_,_,_,_,26,10,5,4,rfl,FY.same ar,F8,IY.rp,(W8.rp (b:=26) ∅ ∅).mono (AU _) ∅ ∅,∅,λr9 R X Y s9 FX LX eX=>?_⟩;refine go r9 X Y R ((a6.trans ar).trans s9) FX (Ts (P:=sr [J,O]+si N) LX ((AM _).add (Cw N)) ?_ ?_)
 ·have a:=Kk sl;have i1:Iz 48 2 (Sr.num ((6:Int):Rat)*sr [J,O]):=⟨FQ [J,O],Kj sl,a,AU _⟩;have i2:Iz 6 6 (Sr.num ((6:Int):Rat)*si N):=(Iz.smul (A:=1) 6 ⟨N,rfl,l1,lN⟩);have:=i1.add i2;rw [show Sr.num ((6:Int):Rat)*sr [J,O]+Sr.num ((6:Int):Rat)*si N=Sr.num ((6:Int):Rat)*(sr [J,O]+si N) by grind] at this;exact this.mono ∅ ∅
 ·rw [EA,JJ (λq hq=>(sl q hq).1),Sr.num_one,<-eN] at eX;rw [show sr X*1=sr X*(1*1) by ext,eX];ext
def abk {A B n m:Nat} (h:A<2 ^ 26) (i:B<2 ^ 26) (a:n<=10) (b:m<=7):B*(n*A)+A*(m*B)<2 ^ 58/\B*B<2 ^ 58/\102*24 ^ 4*A<2 ^ 58/\6*24 ^ 4*B<2 ^ 58:=by
 have c:B*(n*A)<=2 ^ 26*(10*2 ^ 26):=BN ⋯ (BN a ⋯);have d:A*(m*B)<=2 ^ 26*(7*2 ^ 26):=BN ⋯ (BN b ⋯);have e:B*B<=2 ^ 26*2 ^ 26:=BN ⋯ ⋯;have f:102*24 ^ 4*A<=102*24 ^ 4*2 ^ 26:=C5 _ ⋯;have g:6*24 ^ 4*B<=6*24 ^ 4*2 ^ 26:=C5 _ ⋯;exact ⟨DT (Nat.add_le_add c d) ∅,DT e ∅,DT f ∅,DT g ∅⟩
def uG (h:KI K vs H Q E):Zn K { nx:=λ_ Z=>Q .non Z,rt:=Q } (L2.start ["_law_f","_law_y"] vs) H:=by
 obtain ⟨f,y,T,U,q,r,N,D,o,c,A,B,n,m,rfl,F,u,W,a,v,w,j,d,x,z,k⟩:=h;have R:Rp 26 6 5 T U:=W.rp ∅ ∅;have C:Rp 26 10 7 q r:=(a.rp (b:=26) v w).mono ∅ x z;obtain ⟨w1,w2,w3,w4⟩:=abk v w x z;refine DK (Ag (BL (AZ rfl ⟨y,q,r,26,10,7,4,rfl,u,C,∅,∅,∅,∅,∅,λt1 H1 G I p F1 L1 e1=>?_⟩)));refine Ag (AZ rfl (AZ rfl (TH (F.same p) (u.same p) R C 4 ∅ λt2 H2 J L M F2 e e2=>?_)));have q1:=wT a.lw a.iN.pol a.iD.pol a.eq e1;have q2:=Te e W.lw a.lw W.iN.pol W.iD.pol a.iN.pol a.iD.pol W.eq a.eq e2;have O:=(a.iD.mul j (a.iN.D j)).sub (a.iN.mul d (a.iD.D d));have g:Wh (B*(n*A)+A*(m*B)) 16 (B*B) 13 (c*Sr.D o - o*Sr.D c) (c*c) G I:=⟨L1,O.mono (AU _) ⋯,(a.iD.mul d a.iD).mono (AU _) ⋯,Sr.ne_mul a.iD.pol a.iD.pol a.D0 a.D0,q1⟩;have i:Wh (102*24 ^ 4*A) 16 (6*24 ^ 4*B) 13 (N*o) (D*c) J L:=⟨e,(W.iN.mul j a.iN).mono (AU _) ⋯,(W.iD.mul d a.iD).mono (AU _) ⋯,Sr.ne_mul W.iD.pol a.iD.pol W.D0 a.D0,q2⟩;refine ⟨t1,t2,G,I,J,L,58,16,13,5,rfl,F1.same M,F2,g.rp w1 w2,i.rp w3 w4,∅,λt3 H3 X Y s3 F3 P e3=>k t3 X Y H3 ((p.trans M).trans s3) F3 ?_⟩;have q3:=Hs P g.lw i.lw g.iN.pol g.iD.pol i.iN.pol i.iD.pol g.eq i.eq e3;have S:=(W.iD.mul ⋯ O).add ((W.iN.mul j a.iN).mul d a.iD);refine ⟨P,S.mono (AU _) ⋯,(W.iD.mul ⋯ (a.iD.mul d a.iD)).mono (AU _) ⋯,Sr.ne_mul W.iD.pol (a.iD.pol.mul a.iD.pol) W.D0 (Sr.ne_mul a.iD.pol a.iD.pol a.D0 a.D0),?_⟩;refine Sr.cancel ((AM X).mul (W.iD.pol.mul (a.iD.pol.mul a.iD.pol))) (S.pol.mul (AM Y)) a.iD.pol a.D0 ?_;rw [show sr X*(D*(c*c))*c=sr X*(c*c*(D*c)) by ext,q3,Sr.num_one];ext
def ND {K:W.Frag} {H:Hp} {Q:VK} {E:XK} {p q:Addr} {l m:cJ} {x n k e:Nat} (hp:Pl H p l) (f:Pl H q m) (Gl:Gq 60000 60000 l) (h:Gq 60000 60000 m) (i:l≠[]\/m≠[]) (G:l.length<=n) (I:m.length<=k) (j:l≠[]->Fp x (AJ l)) (o:m≠[]->Fp x (AJ m)) (Z:C0 x n k e)
  (c:∀ r g d,Same H d->RC (co (AJ l)) (co (AJ m)) g->Prim g->Pl d r (E_ g)->Q (.ref r) d):Dn K [.ref p,.ref q] H Q E:=by
 obtain ⟨u,v,w⟩:=hp;obtain ⟨y,A,B⟩:=f;have:=Z.n60;have:=Z.m60;have:=Z.ne;have:=Z.me;have:=Z.n1;have:=Z.m1;refine ⟨p,q,u,y,l,m,60000,60000,x,e,n+k,rfl,v,A,w,B,Gl,h,∅,∅,⋯,⋯,λa b=>⟨j a,o b⟩,by rw [CI];omega,⋯,⋯,Z.lu,λa b=>?_,λ_ g R P r C d s D F=>c r g d s R P ⟨C,D,F⟩⟩;rcases i with z | z
 ·exact absurd a z
 ·exact absurd b z
def Al.g6 {b n m e:Nat} {T B:cJ} (h:Al b n m e T B) (a:b<=1000):Gq 60000 60000 T/\Gq 60000 60000 B:=⟨h.gt.mono ⋯ ⋯,h.gb.mono ⋯ ⋯⟩
def uH {l R m:cJ} (a:AV l) (b:Nz l) (c:l≠[]) (e:∀ k,B_ l k=cv (B_ R) (B_ m) R.length k):R≠[]:=λz=>by
 have:=e (l.length - 1);rw [z] at this;exact Cv a b c this
def uI (h:MI K vs H Q E):Zg K { nx:=λ_ H'=>Q .non H',rt:=Q } (L2.start ["f","g","T","h","due","shared","rest"] vs) H:=by
 obtain ⟨f,g,t,T,U,T',U',l,N,D,N',D',rfl,F,F',Pt,W,I,⟨c,k0,c3,J⟩,Gl,l0,l7,one,k⟩:=h;have b4:(c:Rat)≠0:=λz=>by have:c=0:=Rat.natCast_eq_zero_iff.mp z;omega
 have b5:=Bw Gl.low Gl.nz l0;have a3:Sr.num (c:Rat)≠0:=λz=>b4 (by have:=sM (congrArg Sr.c z) 0;rw [Sr.zero_c] at this;have h:(c:Rat)*1=0:=this;ext);have X0:Sr.num (c:Rat)*sr l≠0:=Sr.ne_mul (Sr.Pol.num _) (AM l) a3 b5;have g1:Gq 100 100 l:=Gl.mono ∅ ∅;obtain ⟨xs,hx,nx⟩:=Pt;refine Bb (Ag (AZ rfl (Ag (BL (AZ rfl ⟨t,xs,l,40,12,rfl,hx,nx,Gl,⋯,∅,∅,λr1 R1 H1 s1 P1 G1 l1 e1=>⟨_,rfl,?_⟩⟩)))));refine HA P1 ⟨xs,s1 _ _ hx,nx.tp (D_ s1)⟩ (G1.mono ∅ ∅) g1 l0 ⋯ l7 λr2 H2 T1 U1 s2 F1 b6 Y _=>?_;rw [JB e1] at Y
 have W1:Wh (6*2744) 7 2744 7 (Sr.D (Sr.num (c:Rat)*sr l)) (Sr.num (c:Rat)*sr l) T1 U1:=⟨b6,J.D1,J,X0,by
  rw [Sr.D_num,show sr T1*(Sr.num (c:Rat)*sr l)=Sr.num (c:Rat)*(sr T1*sr l) by ext,Y];ext⟩
 have a4:=s1.trans s2;refine ⟨f,r2,T,U,T1,U1,26,7,7,4,rfl,F.same a4,F1,(W.rp (b:=26) ∅ ∅).mono (AU _) ∅ ∅,W1.rp ∅ ∅,∅,λh0 H3 Th Uh s3 Fh d eh=>?_⟩;have a5:=a4.trans s3;have qh:=Hs d W.lw W1.lw W.iN.pol W.iD.pol W1.iN.pol W1.iD.pol W.eq W1.eq eh
 have a:Wh (102*24 ^ 4*2744+6*2744*(6*24 ^ 4)) 12 (6*24 ^ 4*2744) 11 (N*(Sr.num (c:Rat)*sr l) + -Sr.D (Sr.num (c:Rat)*sr l)*D) (D*(Sr.num (c:Rat)*sr l)) Th Uh:=⟨d,(W.iN.mul ∅ J).add (W1.iN.neg.mul ∅ W.iD),W.iD.mul ∅ J,Sr.ne_mul W.iD.pol J.pol W.D0 X0,by
  rw [qh,show Sr.num (-1:Rat) = -1 from JE];ext⟩
 have b7:sr Th*(sr U*sr l)=(sr T*sr l - Sr.D (sr l)*sr U)*sr Uh:=by
  have:=Hs d W.lw W1.lw (AM T) (AM U) (AM l).D (AM l) rfl Y eh;rw [this,show Sr.num (-1:Rat) = -1 from JE];ext
 show Q9 K _ [some (.ref f),some (.ref g),some (.ref t),some (.ref h0),none,none,none] H3;refine Bb (Ag (AZ rfl (BL (AZ rfl ⟨_,rfl,λr4 w4 H4 s4 h4 P4=>?_⟩))));have a0:=a5.trans s4;have a6:Lw l [(1,1)]:=be Gl.low Gl.nz;have F4:FF H4 r4 l [(1,1)]:=⟨t,w4,h4,⟨xs,a0 _ _ hx,nx.tp (D_ a0)⟩,P4⟩;have a1:Iz 27 1 (Sr.num ((c:Int):Rat)*1):=(Iz.smul (A:=1) (c:Int) ⟨[1],aK,∅,∅⟩).mono (by rw [CN];omega) (AU _);rw [Rat.intCast_natCast] at a1;have W4:Wh 2744 7 27 1 (Sr.num (c:Rat)*sr l) (Sr.num (c:Rat)*1) l [(1,1)]:=⟨a6,J,a1,Sr.ne_mul (Sr.Pol.num _) (Sr.Pol.nat 1) a3 one_ne,by rw [EA];ext⟩;refine TH (F'.same a0) F4 (I.rp (b:=74) ∅ ∅) (W4.rp (b:=12) ∅ ∅) 5 ∅ λd0 H5 Td Ud s5 Fd n ed=>?_;have qd:=Te n I.lw W4.lw I.iN.pol I.iD.pol W4.iN.pol W4.iD.pol I.eq W4.eq ed;have j:Wh (2 ^ 73*2744) 25 (2 ^ 64*27) 13 (N'*(Sr.num (c:Rat)*sr l)) (D'*(Sr.num (c:Rat)*1)) Td Ud:=⟨n,I.iN.mul ∅ J,I.iD.mul ∅ a1,Sr.ne_mul I.iD.pol W4.iD.pol I.D0 W4.D0,qd⟩;rw [EA] at ed;have b8:sr Td*sr U'=sr T'*sr l*sr Ud:=by rw [<-ed];ext
 show Q8 K _ [some (.ref f),some (.ref g),some (.ref t),some (.ref h0),some (.ref d0),none,none] H5;have o:=(a.rp (b:=37) ∅ ∅).all (e:=5) ∅ ∅ ∅ ∅ ∅;have L:=(j.rp (b:=85) ∅ ∅).all (e:=5) ∅ ∅ ∅ ∅ ∅;have fh:=Fh.same (s4.trans s5);obtain ⟨u,v,hh,Pu,Pv⟩:=fh;obtain ⟨u',v',hd,b9,a7⟩:=Fd;refine Bb (Ag (Bm rfl hh rfl (Bm rfl hd rfl (ND Pv a7 (o.g6 ∅).2 (L.g6 ∅).2 (.inl d.ne) o.bm L.bm (x:=267) (λ_=>o.fb.mono ∅) (λ_=>L.fb) (e:=5) ∅ λr6 G H6 s6 C PG P6=>?_))));show Q7 K _ [some (.ref f),some (.ref g),some (.ref t),some (.ref h0),some (.ref d0),some (.ref r6),none] H6;obtain ⟨GG,G0,c4,M1,bG,oG⟩:=Hr d.lb d.nb d.ne o.fb C.lz C.left PG;have M2:MR (B_ (E_ G)) (B_ Ud):=MR.of (FJ C.lz) (D6 n.lb) (D7 C.lz) C.right;have c5:=BD.mpr G0;obtain ⟨a8,h6,n6⟩:=P6;obtain ⟨ba,bb,bc⟩:=a7.same s6;have bd:=s6 _ _ hd;have am:=L.bm;have ah:=o.bm;have c6:=o.tn;have c7:=L.tn;have m1:∀ y,y<=13->y*(37+11*(2*5+4))<=2600/\y*(37+11*(2*5+4)+1)<=2600:=λy hy=>by omega
 refine Bb (Ag (Bm rfl bd rfl (AZ rfl ⟨v',r6,ba,a8,Ud,E_ G,_,_,_,_,rfl,bb,h6,bc,n6,L.gb,GG,G0,⋯,⋯,by have:=m1 (Ud.length+1 - (E_ G).length) ⋯;omega,by have:=m1 (Ud.length+1 - (E_ G).length) ⋯;omega,∅,∅,M2,λr7 Z H7 s7 P7 lZ nZ lenZ eZ=>?_⟩)));show Q6 K _ [some (.ref f),some (.ref g),some (.ref t),some (.ref h0),some (.ref d0),some (.ref r6),some (.ref r7)] H7;have GZ:=(Hl L.gb lZ nZ L.bm (show 13<2 ^ 5 by decide) C.lz PG (bG _) C.right eZ).mono (b':=20000) (c':=11000) ∅ ∅;have oZ:=CA eZ;have m:=s6.trans s7;have a2:=m _ _ hh;have bf:=m _ _ hd;obtain ⟨zv,a9,ab⟩:=Pv.same m;obtain ⟨zu,bg,bi⟩:=Pu.same m;obtain ⟨z7,h7,n7⟩:=P7;refine DK (Ox (Ag (Bm rfl a2 rfl (AZ rfl ⟨v,r7,zv,z7,Uh,Z,_,_,20000,11000,rfl,a9,h7,ab,n7,o.gb,GZ,⋯,⋯,∅,∅,∅,∅,λr8 P H8 s8 P8 GP lP eP=>?_⟩))));refine Ag (Bm rfl (s8 _ _ a2) rfl (AZ rfl ⟨u,r7,zu,z7,Th,Z,_,_,20000,11000,rfl,s8 _ _ bg,s8 _ _ h7,bi.tp (D_ s8),n7.tp (D_ s8),o.gt,GZ,⋯,⋯,∅,∅,∅,∅,λr9 q H9 s9 P9 M lq bj=>?_⟩));have i:=s8.trans s9;have bk:=i _ _ bf;have bl:=i _ _ a2;have bm:=(s7.trans i) _ _ h6;refine Ag (Bm rfl bk rfl (Ag (Bm rfl bl rfl (AZ rfl ⟨v,r6,zv,a8,Uh,E_ G,_,_,_,_,rfl,i _ _ a9,bm,ab.tp (D_ i),n6.tp (D_ (s7.trans i)),o.gb,GG,G0,⋯,⋯,by have:=m1 (Uh.length+1 - (E_ G).length) ⋯;omega,by have:=m1 (Uh.length+1 - (E_ G).length) ⋯;omega,∅,∅,M1,λbn Wl c8 ac bp lW nW c2 eW=>?_⟩))));have GW:=(Hl o.gb lW nW o.bm (show 11<2 ^ 5 by decide) C.lz PG (bG _) C.left eW).mono (b':=20000) (c':=11000) ∅ ∅;have oW:=CA eW;obtain ⟨br,bs,bt⟩:=bp;obtain ⟨bw,aj,al⟩:=b9.same ((m.trans i).trans ac);refine ⟨u',bn,bw,br,Td,Wl,_,_,20000,11000,rfl,aj,bs,al,bt,L.gt,GW,⋯,⋯,∅,∅,∅,∅,λan S c9 bx bz GS lS eS=>⟨Js,λw hw=>?_⟩⟩;have ao:=AO hw (.tup [.ref r8,.ref r9,.ref an]);have p:=(ac.trans bx).trans ao;have Z0:Z≠[]:=uH n.lb n.nb n.ne eZ
 have ar:AR Z (Z.length - 1)=(1,1):=by
  have lz:=Gw n.lb n.nb lZ nZ Z0 GG.low GG.nz G0 eZ;have:=lz.2.1;rw [EQ n.one,oG] at this;exact KU lZ ()
 obtain ⟨P0,oP⟩:=Mp GP.low GP.nz d.lb d.nb d.ne d.one lZ nZ Z0 ar eP;obtain ⟨Yh,r,O,b0⟩:=En d a.iN.pol a.iD.pol a.eq;obtain ⟨Yd,B,R,b1⟩:=En n j.iN.pol j.iD.pol j.eq;have mP:=CA eP;have mq:=CA bj;have mS:=CA eS;have iP:=a.iD.mul ∅ j.iD;have D0:=Sr.ne_mul a.iD.pol j.iD.pol a.D0 j.D0;have fP:Fp 480 (AJ P):=(iP.fp (b:=102) (e:=5) ∅ ∅ GP.low ((r.mul B).mul (AM (E_ G))) D0 (by rw [O,R,oZ,mP];ext)).mono ∅;refine k w r8 r9 an P q S (sr Wl) (sr (E_ G)) (sr Z) (sr Th) (sr Uh) (sr Td) (sr Ud) _ ((a5.trans (s4.trans s5)).trans (m.trans (i.trans p))) upd_same (P8.same (s9.trans p)) (P9.same p) (bz.same ao) P0 oP ⟨GP.mono ⋯ ⋯,⋯,λ_=>fP⟩ ⟨M.mono ⋯ ⋯,⋯,λq0=>?_⟩ ⟨GS.mono ⋯ ⋯,⋯,λS0=>?_⟩ ⟨AM _,AM _,AM _,AM _,AM _,d.cs,n.cs,Ka d.lb n.lb C (AM Wl) (AM Z) oW oZ |>.comm,oW,oZ,b7,b8,mP,mq,mS,Bw d.lb d.nb d.ne⟩ λX aX eX=>?_
 ·have n0:=Bw M.low M.nz q0;have T0:sr Th≠0:=λz=>n0 (by rw [mq,z];ext);have c0:Yh≠0:=λz=>a.D0 (by rw [O,z];ext);have b2:=Sr.ne_mul r (AM Th) c0 T0;rw [<-b0] at b2;exact ((a.iN.mul ∅ j.iD).fp (b:=106) (e:=5) ∅ ∅ M.low ((r.mul B).mul (AM (E_ G))) (Sr.ne_mul a.iN.pol j.iD.pol b2 j.D0) (by rw [b0,R,oZ,mq];ext)).mono ∅
 ·have n0:=Bw GS.low GS.nz S0;have T0:sr Td≠0:=λz=>n0 (by rw [mS,z];ext);have c1:Yd≠0:=λz=>j.D0 (by rw [R,z];ext);have b3:=Sr.ne_mul B (AM Td) c1 T0;rw [<-b1] at b3;exact ((j.iN.mul ∅ a.iD).fp (b:=118) (e:=6) ∅ ∅ GS.low ((r.mul B).mul (AM (E_ G))) (Sr.ne_mul j.iN.pol a.iD.pol b3 a.D0) (by rw [b1,O,oW,mS];ext)).mono ∅
 ·exact ((iP.mul ∅ J).fp (b:=114) (e:=5) ∅ ∅ aX (((r.mul B).mul (AM (E_ G))).mul (Sr.Pol.num (c:Rat))) (Sr.ne_mul (a.iD.pol.mul j.iD.pol) J.pol D0 X0) (by rw [eX,mP,O,R,oZ];ext)).mono ∅
def uJ {l:cJ} (d:AV l) (f:Nz l) (j:l≠[]) (o:AR l (l.length - 1)=(1,1)):W_ l=l:=by
 obtain ⟨a,b,c⟩:=wR d f j;have m:=BD.mpr j;have e:∀ i,B_ (W_ l) i=B_ l i:=λi=>by rw [c,show B_ l (l.length - 1)=1 from EQ o];ext
 refine Mi a d (λq k z=>?_) f (Sr.ext' e)
 have g:AR (W_ l) ((W_ l).length - 1)=q:=by
  rw [Es] at k;unfold AR;rw [AT,k];rfl
 have h:=e ((W_ l).length - 1);unfold B_ at h;rw [g,b,o] at h;unfold val at h;rw [z] at h;have:((0:Int):Rat) / (q.2:Rat)=((1:Int):Rat) / ((1:Int):Rat):=h;rw [show ((0:Int):Rat)=0 from rfl,show ((1:Int):Rat)=1 from rfl] at this;ext
def uK {l:cJ} (h:∀ q∈l,Sm q):Gq 7 3 (trim l):=by
 refine ⟨λq b=>(h q (Cq b)).1,EK l,6,⟨∅,λq b=>?_⟩,(show Bd 3 6 by unfold Bd;decide),λz d=>?_⟩
 ·obtain ⟨c,_,f⟩:=h q (Cq b);have g:=c.pos;rcases (show q.2=1\/q.2=2\/q.2=3 by omega) with z | z | z <;> rw [z] <;> decide
 ·obtain ⟨q,b,rfl⟩:=BG.mp d;obtain ⟨c,a,f⟩:=h q (Cq b);have g:=c.pos;unfold Bd
  have:(q.1*(6 / q.2)).natAbs<=4*6:=by
   rw [By];refine BN a ?_;rcases (show q.2=1\/q.2=2\/q.2=3 by omega) with z | z | z <;> rw [z] <;> decide
  have e:(2:Nat) ^ 7=128:=by decide
  omega
def Rd.unit {T U m n l P Q S:cJ} {W G R g i e j X A B C:Sr} (h:Rd T U m n l P Q S W G R g i e j) (pX:Sr.Pol X) (o:Sr.Pol A) (p:Sr.Pol B) (q:Sr.Pol C) (r:sr P=A*X) (w:sr Q=B*X) (y:sr S=C*X):∃ x:Rat,x≠0/\X=Sr.num x:=by
 obtain ⟨u,v,z,pv,D⟩:=h.c1
 have k:R=(u*B+v*A)*X:=by
  have:R=u*(g*R)+v*(i*R):=by rw [show u*(g*R)+v*(i*R)=(u*g+v*i)*R by ext,D];ext
  rw [this,<-h.q,<-h.p,r,w];ext
 have f:Sr.Pol (u*B+v*A):=(z.mul p).add (pv.mul o);have F:Sr.Cs e X:=h.c2.dvd (f.mul h.pG) (show j=(u*B+v*A)*G*X by rw [h.ed,k];ext);obtain ⟨a,b,I,J,L⟩:=F
 have M:W=(a*C+b*W)*X:=by
  have:W=a*(e*W)+b*X*W:=by rw [show a*(e*W)+b*X*W=(a*e+b*X)*W by ext,L];ext
  rw [show (a*C+b*W)*X=a*(C*X)+b*X*W by ext,<-y,h.s];exact this
 obtain ⟨c,d,N,O,Y⟩:=h.c3;refine Ti pX ((N.mul f).add (O.mul ((I.mul q).add (J.mul h.pW)))) ?_;rw [<-Y,show c*R+d*W=c*((u*B+v*A)*X)+d*((a*C+b*W)*X) by rw [<-k,<-M]];ext
def uL (x d l e c:Sr):x*(d*(l*l)*e)*(c*c)=x*(c*c*(d*(l*l))*e):=by ext
def uM (c a b n d y:Sr):(c*c*a*b - n*(c*c*d))*y=(a*b - n*d)*y*(c*c):=by ext
def uN (x p l d e:Sr):x*(p*l)*(d*l*e)=x*(d*(l*l)*e)*p:=by ext
def uO (p a q z s y d l e:Sr):(p*a+q*z - s)*y*(d*l*e)=(p*a*(d*l*e)+q*(d*l)*z*e - s*e*(d*l))*y:=by ext
def uP (d l a z b n e c y p:Sr):((d*(l*a - z*b)+n*z*l)*e - c*(d*(l*l)))*y*p=(p*a*(d*l*e)+(n*l - b*d)*p*z*e - c*l*p*(d*l))*y:=by ext
def Rd.eqn {T U o g l P Q S X Y:cJ} {W G R i p j q N D k a y u z c:Sr} (h:Rd T U o g l P Q S W G R i p j q) (F:sr l≠0) (I:sr U≠0) (v:sr g≠0) (A:Sr.Pol N) (f:Sr.Pol D) (J:D≠0) (L:sr T*D=N*sr U) (m:Sr.Pol k) (d:Sr.Pol a) (w:a≠0) (M:sr o*a=k*sr g) (n:Sr.Pol z) (r:Sr.Pol c) (B:c≠0)
  (O:y=c*c*(D*(sr l*Sr.D z - z*Sr.D (sr l))+N*z*sr l)) (Z:u=c*c*(D*(sr l*sr l))) (e:sr X*(u*a)=(y*a - k*u)*sr Y):sr X*(sr P*sr l)=(sr P*Sr.D z+sr Q*z - sr S)*sr Y:=by
 have b:=AM l;have C:=AM P
 have h1:i*(D*sr l)=(N*sr l - Sr.D (sr l)*D)*p:=by
  refine Sr.cancel (h.pTh.mul (f.mul b)) (((A.mul b).sub (b.D.mul f)).mul (by rw [h.eh];exact h.pW.mul h.pG)) (AM U) I ?_;rw [show i*(D*sr l)*sr U=i*(sr U*sr l)*D by ext,h.h];rw [show (sr T*sr l - Sr.D (sr l)*sr U)*p*D=(sr T*D*sr l - Sr.D (sr l)*sr U*D)*p by ext,L];ext
 have h2:j*a=k*sr l*q:=by
  refine Sr.cancel (h.pTd.mul d) ((m.mul b).mul (by rw [h.ed];exact h.pR.mul h.pG)) (AM g) v ?_;rw [show j*a*sr g=j*sr g*a by ext,h.d,show sr o*sr l*q*a=sr o*a*(sr l*q) by ext,M];ext
 have q1:sr Q*(D*sr l)=(N*sr l - Sr.D (sr l)*D)*sr P:=by
  rw [h.q,show i*R*(D*sr l)=i*(D*sr l)*R by ext,h1,h.p];ext
 have q2:sr S*a=k*sr l*sr P:=by
  rw [h.s,show j*W*a=j*a*W by ext,h2,h.p,h.ed,h.eh];ext
 have e':sr X*(D*(sr l*sr l)*a)=((D*(sr l*Sr.D z - z*Sr.D (sr l))+N*z*sr l)*a - k*(D*(sr l*sr l)))*sr Y:=by
  have pa:Sr.Pol (D*(sr l*Sr.D z - z*Sr.D (sr l))+N*z*sr l):=(f.mul ((b.mul n.D).sub (n.mul b.D))).add ((A.mul n).mul b);refine Sr.cancel ((AM X).mul ((f.mul (b.mul b)).mul d)) (((pa.mul d).sub (m.mul (f.mul (b.mul b)))).mul (AM Y)) (r.mul r) (Sr.ne_mul r r B B) ?_;rw [O,Z] at e;rw [uL,e];exact uM ..
 have x:Sr.Pol (sr P*Sr.D z+sr Q*z - sr S):=((C.mul n.D).add ((AM Q).mul n)).sub (AM S);refine Sr.cancel ((AM X).mul (C.mul b)) (x.mul (AM Y)) ((f.mul b).mul d) (Sr.ne_mul (f.mul b) d (Sr.ne_mul f b J F) w) ?_;rw [uN,e',uO,q1,q2];exact uP ..
def uQ {l:cJ} {x:Rat} (b:AV l) (d:Nz l) (a:l≠[]) (e:sr l=Sr.num x):l.length=1:=by
 have i:=BD.mpr a;rcases BF 1 l.length with c | c
 ·have:=Cv b d a;have h:=sM (congrArg Sr.c e) (l.length - 1)
  have f:(Sr.num x).c (l.length - 1)=0:=by
   show x*Af (l.length - 1)=0;obtain ⟨m,g⟩:∃ m,l.length - 1=m+1:=⟨l.length - 2,⋯⟩;rw [g];show x*0=0;ext
  exact absurd (h.trans f) this
 ·omega
structure Kt (i:Nat) (l:cJ):Prop where
 g:Gq (1+12*i) (1+3*i) l
 l0:l≠[]
 len:l.length<=2*i+1
 one:AR l (l.length - 1)=(1,1)
 iz:∃ κ:Nat,0<κ/\κ<=3 ^ i/\Iz (14 ^ i) (2*i+1) (Sr.num (κ:Rat)*sr l)
def kt_zero:Kt 0 [(1,1)]:=by
 refine ⟨⟨λq a=>by rw [BA.mp a];exact Gu,λq a=>by obtain rfl:(1,1)=q:=sJ a;decide,1,⟨∅,λq a=>by rw [BA.mp a];exact Dj _⟩,(show Bd 1 1 by unfold Bd;decide),λz b=>by rw [show z=1 from BA.mp b];unfold Bd;decide⟩,by simp,AU _,rfl,1,∅,∅,[1],?_,∅,∅⟩;rw [EA,aK,show ((1:Nat):Rat)=1 from rfl,Sr.num_one];ext
def Kt.step {i:Nat} {l m R:cJ} (h:Kt i l) (w:i<3) (F:Fv m) (G:Gq (1+12*i+5+l.length) (1+3*i+3) R) (x:R.length<=l.length+m.length - 1) (e:∀ k,B_ R k=cv (B_ l) (B_ m) l.length k):Kt (i+1) R:=by
 obtain ⟨c,g,y,z,j⟩:=FO F;obtain ⟨d,a,f⟩:=Kg F;obtain ⟨b,n,o,p⟩:=h.iz;have ll:=h.len;obtain ⟨q,r⟩:=Mp G.low G.nz h.g.low h.g.nz h.l0 h.one c.low c.nz g j e;have u:=CA e;refine ⟨G.mono ⋯ ⋯,q,⋯,r,b*a,Nat.mul_pos n f.k0,by rw [CI];exact BN o f.k3,?_⟩;have v:Iz 14 3 (si d):=⟨d,rfl,f.l14,by have:=f.len;omega⟩;have:=p.mul ∅ v;rw [f.e] at this;rw [u,CI,show ((b*a:Nat):Rat)=(b:Rat)*(a:Rat) from Rat.natCast_mul b a,CB,show Sr.num (b:Rat)*Sr.num (a:Rat)*(sr l*sr m)=Sr.num (b:Rat)*sr l*(Sr.num (a:Rat)*sr m) by grind];exact this.mono (AU _) ⋯
def Kt.fin {i:Nat} {l:cJ} (h:Kt i l) (b:i<=3):Gq 40 12 l/\l.length<=7/\∃ a:Nat,0<a/\a<=27/\Iz 2744 7 (Sr.num (a:Rat)*sr l):=by
 obtain ⟨a,c,d,e⟩:=h.iz;have:=h.len;refine ⟨h.g.mono ⋯ ⋯,⋯,a,c,A7 d ?_,e.mono ?_ ⋯⟩
 ·exact A7 (Dq ∅ b) ∅
 ·exact A7 (Dq ∅ b) ∅
def Km {g:cP} {l:cJ} (a:Lz g) (b:AV l) (m:MQ (co g) (co (AJ l))):∃ Y,Sr.Pol Y/\sr l=Y*sr (E_ g):=TC (MR.of (FJ a) (D6 b) (D7 a) m)
def uR {K:W.Frag} {Q:VK} {H:Hp} {x0 x1 x3 x6:cO} {f g v z:Addr} {T U T' U' l m:cJ} {N D N' D':Sr} (kQ:∀ u,Q (.bl true) u)
  (F:FF H f T U) (W:Wh (102*24 ^ 4) 6 (6*24 ^ 4) 5 N D T U) (F':FF H g T' U') (n:Wh (2 ^ 73) 19 (2 ^ 64) 13 N' D' T' U') (P:Pl H v l) (KT:∃ i,i<=3/\Kt i l) (Pz:Pl H z (trim m)) (sz:∀ q∈m,Sm q) (ao:m.length<=3) :
  Ry K { nx:=λ_ u=>Q .non u,rt:=Q } [x0,x1,some (.ref f),x3,some (.ref g),some (.ref v),x6,some (.ref z),none,none,none,none,none,none,none] H:=by
 obtain ⟨i,i3,KT⟩:=KT;obtain ⟨Gl,l7,κ,k0,ar,iX⟩:=KT.fin i3;have l0:=KT.l0;have b0:=Bw Gl.low Gl.nz l0;refine Bb (Yp (AZ rfl (AZ rfl (AZ rfl ⟨f,g,v,T,U,T',U',l,N,D,N',D',rfl,F,F',P,W,n,⟨κ,k0,ar,iX⟩,Gl,l0,l7,KT.one,λr a b c Pp Pq Ps Wr Gr Z Th Uh Td Ud H1 s1 hr Pa Pb Pc P0 oP I J L RD fX=>?_⟩))));show Rx K _ [x0,x1,some (.ref f),x3,some (.ref g),some (.ref v),x6,some (.ref z),some (.ref r),none,none,none,none,none,none] H1;refine FE (show aA _ _ _ _ _ from ⟨_,rfl,_,_,_,rfl,Wi hr,_,rfl,?_⟩);refine ⟨_,rfl,_,_,rfl,hr,rfl,_,rfl,?_⟩;show Rw K _ [x0,x1,some (.ref f),x3,some (.ref g),some (.ref v),x6,some (.ref z),some (.ref r),none,none,none,none,none,none] H1;refine Lr (AZ rfl ⟨r,_,rfl,hr,rfl,_,_,rfl,_,_,rfl,_,_,rfl,rfl,?_⟩);show Rv K _ [x0,x1,some (.ref f),x3,some (.ref g),some (.ref v),x6,some (.ref z),some (.ref r),some (.ref a),some (.ref b),some (.ref c),none,none,none] H1;obtain ⟨za,ha,na⟩:=Pa;refine FE (show aA _ _ _ _ _ from Eg (CU (AZ rfl (Ki ⟨Ai _,λw hw=>?_⟩))));have s2:=AO hw (.tup []);refine eqP (s2 _ _ ha) (na.tp (D_ s2)) (upd_same (H:=H1) (a:=w) (o:=HO.tup [])) (show Nums _ [] [] from trivial) false ⟨(λz=>nomatch z),λz=>absurd z P0⟩ ⟨_,rfl,?_⟩;generalize upd H1 w (.tup [])=H2 at s2 ⊢;have b1:=s2 _ _ ha;have b2:=na.tp (D_ s2)
 have bP:∀ q∈Pp,Bd 70000 q.1/\Bd 70000 q.2:=λq hq=>⟨(I.1.clr.2.2 q hq).mono ∅,by
  obtain ⟨M,O,bM,_⟩:=I.1.ov;exact (DH (AW O.1) (O.2 q hq) bM).mono ∅⟩
 have lP:=I.2.1;rw [sB Cd];refine (show aA _ _ _ _ _ from Eg (CU (BL (AZ rfl ⟨a,za,Pp,rfl,b1,b2,I.1.low,I.1.nz,bP,⋯,λr3 y3 H3 s3 h3 n3=>⟨_,rfl,?_⟩⟩))));rw [uJ I.1.low I.1.nz P0 oP] at n3;refine neP h3 n3 (s3 _ _ b1) (b2.tp (D_ s3)) true ⟨λ_=>rfl,λ_=>rfl⟩ ⟨_,rfl,?_⟩;have p:=s2.trans s3;have bt:Pl H3 a Pp:=⟨za,p _ _ ha,na.tp (D_ p)⟩;have lQ:=J.2.1;have lS:=L.2.1
 have b3:∀ (e:Addr) (C:cJ) (Y1 Y2:Sr) (H4:Hp),Same H3 H4->Pl H4 e C->Gq 60000 60000 C->C.length<=35->(C≠[]->Fp 690 (AJ C))->Sr.Pol Y1->Sr.Pol Y2->sr Pq=Y1*sr C->sr Ps=Y2*sr C->Dn K [.ref a,.ref e] H4 (λx u=>FG K [x] u (λx u=>aF x (.int 0) u λx u=>∃ k,x=.bl k/\if k=true then Ab (tC (.bl false)) { nx:=KJ K { nx:=λ_ u=>Q .non u,rt:=Q },rt:=Q } [x0,x1,some (.ref f),x3,some (.ref g),some (.ref v),x6,some (.ref z),some (.ref r),some (.ref a),some (.ref b),some (.ref c),none,none,none] u else BX { nx:=KJ K { nx:=λ_ u=>Q .non u,rt:=Q },rt:=Q } [x0,x1,some (.ref f),x3,some (.ref g),some (.ref v),x6,some (.ref z),some (.ref r),some (.ref a),some (.ref b),some (.ref c),none,none,none] u) E0) E0:=λe C Y1 Y2 H4 s4 Pe gC lC fC a6 a7 a8 a9=>by
  refine ND (bt.same s4) Pe I.1 gC (.inl P0) lP lC (x:=690) (λh=>(I.2.2 h).mono ∅) fC (e:=6) ∅ λr5 G5 H5 s5 R5 P5 bw=>?_;obtain ⟨y5,h5,n5⟩:=bw;obtain ⟨A1,bx,bz⟩:=Km R5.lz I.1.low R5.left;obtain ⟨A2,b4,b5⟩:=Km R5.lz gC.low R5.right;obtain ⟨xx,_,ex⟩:=RD.unit (AM (E_ G5)) bx (a6.mul b4) (a7.mul b4) bz (by rw [a8,b5];ext) (by rw [a9,b5];ext);have m0:E_ G5≠[]:=BD.mp (by rw [D5];exact R5.lz.1);have l1:=uQ (FI R5.lz) (Hk R5.lz) m0 ex;have y1:=n5.length;refine ⟨r5,y5,rfl,h5,_,_,rfl,rfl,_,rfl,?_⟩;rw [sB (by rw [decide_eq_true_iff];omega)];have b6:=(p.trans s4).trans s5;have aj:=s1.trans b6;show KJ K _ [x0,x1,some (.ref f),x3,some (.ref g),some (.ref v),x6,some (.ref z),some (.ref r),some (.ref a),some (.ref b),some (.ref c),none,none,none] H5;have gz:=uK sz;have dy:(trim m).length<=3:=A7 (EL m) ao;have c1:sr (trim m)=sr m:=JJ λq hq=>(sz q hq).1;refine Bb (Ag (AZ rfl (AZ rfl (HA (Pz.same aj) (P.same aj) (gz.mono ∅ ∅) (Gl.mono ∅ ∅) l0 ⋯ l7 λy H6 Ty Uy s6 Fy Ly ey _=>?_))));show Ru K _ [x0,x1,some (.ref f),x3,some (.ref g),some (.ref v),x6,some (.ref z),some (.ref r),some (.ref a),some (.ref b),some (.ref c),some (.ref y),none,none] H6;have b7:=aj.trans s6;have c2:(κ:Rat)≠0:=λz=>by have:κ=0:=Rat.natCast_eq_zero_iff.mp z;omega
  have i6:Iz 72 3 (Sr.num ((6:Int):Rat)*sr m):=⟨FQ m,Kj sz,A7 (Kk sz) ⋯,by rw [show (FQ m).length=m.length from AL ..];exact ao⟩;have iN:=i6.smul (κ:Int);have iD:=iX.smul (6:Int);obtain ⟨j,G⟩:∃ j,j=Sr.num ((6:Int):Rat)*Sr.num (κ:Rat):=⟨_,rfl⟩;have eN:Sr.num ((κ:Int):Rat)*(Sr.num ((6:Int):Rat)*sr m)=j*sr (trim m):=by rw [G,c1,Rat.intCast_natCast];ext
  have eD:Sr.num ((6:Int):Rat)*(Sr.num (κ:Rat)*sr l)=j*sr l:=by rw [G];ext
  rw [eN] at iN;rw [eD] at iD
  have c0:j≠0:=by
   rw [G,<-CB];exact λz=>K' (show ((6:Int):Rat)≠0 by decide) c2 (by have:=sM (congrArg Sr.c z) 0;rw [Sr.zero_c] at this;have h:((6:Int):Rat)*(κ:Rat)*1=0:=this;ext)
  have pc:Sr.Pol j:=by rw [G];exact (Sr.Pol.num _).mul (Sr.Pol.num _)
  have Wy:Wh (27*72) 3 (6*2744) 7 (j*sr (trim m)) (j*sr l) Ty Uy:=⟨Ly,iN.mono (B8 _ (by rw [CN];exact ar)) (AU _),iD.mono (AU _) (AU _),Sr.ne_mul pc (AM l) c0 b0,by rw [show sr Ty*(j*sr l)=j*(sr Ty*sr l) by ext,ey];ext⟩;refine Bb (Ag (Ag (AZ rfl (AZ rfl ⟨f,y,T,U,Ty,Uy,N,D,_,_,27*72,6*2744,3,7,rfl,F.same b7,Fy,W,Wy,∅,∅,∅,∅,∅,∅,λr7 Tl Ul H7 s7 Fl Wl=>⟨_,rfl,?_⟩⟩))));have b8:=b7.trans s7;refine ⟨r7,g,Tl,Ul,T',U',74,19,17,6,rfl,Fl,F'.same b8,(Wl.rp (b:=74) ∅ ∅).mono (AU _) ∅ ∅,(n.rp (b:=74) ∅ ∅).mono (AU _) ∅ ∅,∅,λr8 H8 X Y s8 FX LX eX=>?_⟩;show Rs K _ [x0,x1,some (.ref f),x3,some (.ref g),some (.ref v),x6,some (.ref z),some (.ref r),some (.ref a),some (.ref b),some (.ref c),some (.ref y),some (.ref r8),none] H8;have c3:=b8.trans s8;have al:=((b6.trans s6).trans s7).trans s8;have qs:=Hs LX Wl.lw n.lw Wl.iN.pol Wl.iD.pol n.iN.pol n.iD.pol Wl.eq n.eq eX;rw [show Sr.num (-1:Rat) = -1 from JE] at qs;have b9:sr X*(D*(j*sr l*(j*sr l))*D')=((D*(j*sr l*Sr.D (j*sr (trim m)) - j*sr (trim m)*Sr.D (j*sr l))+N*(j*sr (trim m))*(j*sr l))*D' - N'*(D*(j*sr l*(j*sr l))))*sr Y:=by rw [qs];ext
  have Ws:Wh (2 ^ 122+2 ^ 122) 35 (2 ^ 113) 29 _ _ X Y:=⟨LX,((Wl.iN.mul ∅ n.iD).sub (n.iN.mul ∅ Wl.iD)).mono ∅ ∅,(Wl.iD.mul ∅ n.iD).mono ∅ ∅,Sr.ne_mul Wl.iD.pol n.iD.pol Wl.D0 n.D0,b9⟩;have As:=(Ws.rp (b:=124) ∅ ∅).all (e:=6) ∅ ∅ ∅ ∅ ∅;have c4:=Pz.same c3;obtain ⟨zz,ba,bb⟩:=c4;have c5:=al _ _ ha;have c6:=na.tp (D_ al);obtain ⟨zb,hb,nb⟩:=Pb;obtain ⟨zc,hc,nc⟩:=Pc;refine Bb (Ag (Ag (Ag (AZ rfl (BL (AZ rfl ⟨z,zz,_,7,3,rfl,ba,bb,gz,⋯,∅,∅,λr9 dz H9 s9 P9 G9 l9 e9=>?_⟩))))));obtain ⟨z9,h9,n9⟩:=P9;refine ⟨a,r9,za,z9,Pp,dz,_,_,_,_,rfl,s9 _ _ c5,h9,c6.tp (D_ s9),n9,I.1,G9,⋯,⋯,∅,∅,∅,∅,λc7 p1 e0 ab c8 bc e1 c9=>?_⟩;have R:=(al.trans s9).trans ab;refine Ag (AZ rfl (AZ rfl ⟨b,z,zb,zz,Pq,_,_,_,_,_,rfl,R _ _ hb,(s9.trans ab) _ _ ba,nb.tp (D_ R),bb.tp (D_ (s9.trans ab)),J.1,gz,⋯,⋯,∅,∅,∅,∅,λcd p2 e2 am ce bd e3 ch=>?_⟩));obtain ⟨cj,ck,cl⟩:=c8.same am;obtain ⟨cm,cn,cp⟩:=ce;obtain ⟨M,O1,O2,bM,q1,q2⟩:=KW (bc.mono (b':=61000) (c':=61000) ⋯ ⋯) (bd.mono (b':=61000) (c':=61000) ⋯ ⋯);refine ⟨c7,cd,cj,cm,p1,p2,M,_,_,rfl,ck,cn,cl,cp,bc.low,bd.low,O1,O2,bM,q1,q2,∅,∅,⋯,⋯,λcq p3 e4 bf cs bg e5 ct=>⟨_,rfl,?_⟩⟩;have S:=(R.trans am).trans bf;obtain ⟨cw,d0,d1⟩:=cs;obtain ⟨M',d2,d3,d4,d5,d6⟩:=KW (bg.mono (b':=130000) (c':=130000) ⋯ ⋯) (L.1.mono (b':=130000) (c':=130000) ⋯ ⋯);refine ⟨cq,c,cw,zc,p3,Ps,M',_,_,rfl,d0,S _ _ hc,d1,nc.tp (D_ S),bg.low,L.1.low,d2,d3,d4,d5,d6,∅,∅,⋯,⋯,λbi lh d7 ah d8 bj e6 d9=>?_⟩;show Rq K _ [x0,x1,some (.ref f),x3,some (.ref g),some (.ref v),x6,some (.ref z),some (.ref r),some (.ref a),some (.ref b),some (.ref c),some (.ref y),some (.ref r8),some (.ref bi)] d7;have a0:=S.trans ah;have bk:=(((s9.trans ab).trans am).trans bf).trans ah
  have da:sr lh=sr Pp*Sr.D (sr (trim m))+sr Pq*sr (trim m) - sr Ps:=by
   have a1:=CA c9;have a2:=CA ch;have a3:sr p3=sr p1+Sr.num 1*sr p2:=Sr.ext' λk=>by show B_ p3 k=(sr p1).c k+(Sr.num 1*sr p2).c k;rw [Sr.num_mul];exact ct k
   have a4:sr lh=sr p3+Sr.num (-1)*sr Ps:=Sr.ext' λk=>by show B_ lh k=(sr p3).c k+(Sr.num (-1)*sr Ps).c k;rw [Sr.num_mul];exact d9 k
   rw [a4,a3,a1,a2,JB e9,Sr.num_one,show Sr.num (-1:Rat) = -1 from JE];ext
  refine DK (CU (Ag (AZ rfl (BL (Ag (AZ rfl (AZ rfl ?_)))))));obtain ⟨zk,hk,nk⟩:=P.same (s1.trans a0);refine ⟨a,v,za,zk,Pp,l,_,_,_,_,rfl,a0 _ _ ha,hk,na.tp (D_ a0),nk,I.1,Gl,⋯,⋯,∅,∅,∅,∅,λdb PT e7 bl dc ac e8 dd=>?_⟩;have bm:=CA dd;refine ⟨_,rfl,λdf dg ea a5 dj dk=>?_⟩;have bn:=(bk.trans bl).trans a5;have dm:Lw PT [(1,1)]:=be ac.low ac.nz;have f1:Fp 10 (AJ [((1:Int),(1:Int))]):=(Mn (b:=1) (c:=1) kt_zero.g (by simp) (AU 1) (show 1<2 ^ 1 by decide)).mono ∅;refine ⟨r8,df,X,Y,PT,[(1,1)],690,35,29,590,29,1,6,rfl,FX.same bn,⟨db,dg,dj,dc.same a5,dk⟩,LX,dm,As.gt.mono ∅ ∅,As.gb.mono ∅ ∅,ac.mono ⋯ ⋯,kt_zero.g.mono ∅ ∅,As.tn,AU _,⋯,As.bm,λh=>(As.ft h).mono ∅,f1.mono ∅,λ_=>(fX PT ac.low bm).mono ∅,As.fb.mono ∅,∅,∅,λeb ec A B dn dp dq bp=>?_⟩;refine BL (AZ rfl ⟨_,rfl,λed dr ds br dt du=>?_⟩);have an:=((bl.trans a5).trans dn).trans br;have dw:Lw lh [(1,1)]:=be bj.low bj.nz;refine wB (dp.same br) ⟨bi,dr,dt,d8.same an,du⟩ (dq.uniq dw ?_) (kQ ds)
  have bs:=RD.eqn b0 (Bw W.lw.lb W.lw.nb W.lw.ne) (Bw n.lw.lb n.lw.nb n.lw.ne) W.iN.pol W.iD.pol W.D0 W.eq n.iN.pol n.iD.pol n.D0 n.eq (AM (trim m)) pc c0 (X:=X) (Y:=Y) (by
   rw [show Sr.D (j*sr (trim m))=j*Sr.D (sr (trim m)) by rw [G,<-CB];exact Sr.D_num ..,show Sr.D (j*sr l)=j*Sr.D (sr l) by rw [G,<-CB];exact Sr.D_num ..];ext) () b9
  rw [<-da,<-bm] at bs;rw [EA] at bp ⊢;refine Sr.cancel ((AM A).mul (Sr.Pol.nat 1)) ((AM lh).mul (AM B)) (AM Y) (Bw LX.lb LX.nb LX.ne) ?_;rw [show sr A*1*sr Y=sr A*(sr Y*1) by ext,bp,bs];ext
 refine Eg (CU (BL (Ag (AZ rfl (Ag (AZ rfl (AZ rfl ?_)))))));by_cases d:Pq=[]/\Ps=[]
 ·obtain ⟨zb,hb,nb⟩:=Pb.same p;obtain ⟨zc,hc,nc⟩:=Pc.same p;refine ⟨b,c,zb,zc,Pq,Ps,60000,60000,0,6,4,rfl,hb,hc,nb,nc,J.1,L.1,∅,∅,⋯,⋯,λz=>absurd d.1 z,⋯,by rw [d.1,d.2];decide,∅,∅,λ_ _ r4 y4 H4 s4 h4 n4=>?_,λz=>by rcases z with z | z;exact absurd d.1 z;exact absurd d.2 z⟩;refine b3 r4 [] 0 0 H4 s4 ⟨y4,h4,n4⟩ (d.1 ▸ J.1) ∅ (λz=>absurd rfl z) (Sr.Pol.nat 0) (Sr.Pol.nat 0) (by rw [d.1,GA];ext) (by rw [d.2,GA];ext)
 ·have ne:Pq≠[]\/Ps≠[]:=by
   by_cases z:Pq=[]
   ·exact .inr λy=>d ⟨z,y⟩
   ·exact .inl z
  refine ND (Pb.same p) (Pc.same p) J.1 L.1 ne lQ lS (x:=690) (λh=>(J.2.2 h).mono ∅) (λh=>L.2.2 h) (e:=6) ∅ λr4 G4 H4 s4 R4 P4 dx=>?_;obtain ⟨Y1,a6,a8⟩:=Km R4.lz J.1.low R4.left;obtain ⟨Y2,a7,a9⟩:=Km R4.lz L.1.low R4.right
  have cz:Gq 690 690 (E_ G4)/\(E_ G4).length<=35/\Fp 690 (AJ (E_ G4)):=by
   rcases ne with z | z
   ·obtain ⟨a1,_,a3,_⟩:=Hr J.1.low J.1.nz z (J.2.2 z) R4.lz R4.left P4;exact ⟨a1.mono ∅ ∅,⋯,(Mo (FI R4.lz) J.1.low a6 a8 (J.2.2 z)).mono ∅⟩
   ·obtain ⟨a1,_,a3,_⟩:=Hr L.1.low L.1.nz z (L.2.2 z) R4.lz R4.right P4;exact ⟨a1,⋯,Mo (FI R4.lz) L.1.low a7 a9 (L.2.2 z)⟩
  exact b3 r4 (E_ G4) Y1 Y2 H4 s4 dx (cz.1.mono ∅ ∅) cz.2.1 (λ_=>cz.2.2) a6 a7 a8 a9
theorem T3 {H:Hp} {v:V} {q:Nu} (h:isN H v q):∀ {a:cN} {l:cJ},Nums H a l->Nums H (a++[v]) (l++[q])
 | [],[],_=>⟨h,trivial⟩
 | _::_,_::_,r=>⟨r.1,T3 h r.2⟩
def uS (h:Jw K vs H Q E):Zo K { nx:=λ_ e=>Q .non e,rt:=Q } (L2.start ["_law_script","_law_draws_here","_law_f","_law_pieces","_law_g","_law_kt","_law_d","_law_z","_law_found","_law_p","_law_q","_law_s","_law_y","_law_sides","_law_left_here"] vs) H:=by
 obtain ⟨a,ns,rfl,hs,a2,kQ⟩:=h;refine Bb (Ag (AZ rfl (S_ ⟨a,ns,24,rfl,hs,a2,∅,λp B H1 s1 h1 l1 D1=>?_⟩)));have DD:cx B:=⟨l1,D1⟩;show R9 K _ [some (.ref a),some (.ref p),none,none,none,none,none,none,none,none,none,none,none,none,none] H1;refine Lr (Ag (AZ rfl (S_ ⟨p,B,rfl,h1,DD,λt f q ws L T U H2 s2 ht hq PS nd L4 F I=>⟨t,_,rfl,ht,rfl,_,_,rfl,_,_,rfl,rfl,?_⟩⟩)));show R8 K _ [some (.ref a),some (.ref p),some (.ref f),some (.ref q),none,none,none,none,none,none,none,none,none,none,none] H2;have h2:=s2 _ _ h1;refine Bb (Ag (AZ rfl (AZ rfl ⟨p,q,B,ws,L,rfl,h2,DD,hq,PS,nd,L4,λy Ty Uy Ny Dy H3 s3 Fy Wy=>?_⟩)));show R7 K _ [some (.ref a),some (.ref p),some (.ref f),some (.ref q),some (.ref y),none,none,none,none,none,none,none,none,none,none] H3;obtain ⟨N,D,W⟩:=I.fin;have F3:=F.same s3;have h3:=s3 _ _ h2;obtain ⟨C,a0,a8,a9⟩:=Dr.get DD 13 ∅
 have go:∀ (g:Addr) (T' U':cJ) (N' D':Sr) (n:Hp),Same H3 n->FF n g T' U'->Wh (2 ^ 73) 19 (2 ^ 64) 13 N' D' T' U'->R6 K { nx:=λ_ e=>Q .non e,rt:=Q } [some (.ref a),some (.ref p),some (.ref f),some (.ref q),some (.ref g),none,none,none,none,none,none,none,none,none,none] n:=λg T' U' N' D' n s4 F4 W4=>by
  refine Bb (Ow (Ct (S_ (S_ ⟨Bu,λP g1=>⟨Ck,λe2 g2=>?_⟩⟩))));have z1:=AO g1 (.tup [.int 1,.int 1]);have z2:=AO g2 (.tup [.ref P]);have P0:Pl (upd (upd n P (.tup [.int 1,.int 1])) e2 (.tup [.ref P])) e2 [(1,1)]:=⟨_,upd_same,⟨P,rfl,z2 _ _ upd_same⟩,trivial⟩;have s5:=z1.trans z2;generalize upd (upd n P (.tup [.int 1,.int 1])) e2 (.tup [.ref P])=H5 at P0 s5 ⊢;show R3 K _ [some (.ref a),some (.ref p),some (.ref f),some (.ref q),some (.ref g),some (.ref e2),none,none,none,none,none,none,none,none,none] H5;have h5:=s5 _ _ (s4 _ _ h3);have m0:=BS (C / 2) (show (4:Int)≠0 by decide);have m4:=BW (C / 2) (show (0:Int)<4 by decide);obtain ⟨j,ej,j3⟩:∃ j:Int,j=14+C / 2 % 4/\14<=j/\j<=17:=⟨_,rfl,⋯,⋯⟩;obtain ⟨cs,e3,l3,m3⟩:=M8 B (some 14) (some j);have lc:=Tm (xs:=B.map V.int) (a:=14) (b:=j) ∅ ⋯;rw [e3,AL] at lc;have dc:=D1.sub m3;refine Tu (Kl (AZ rfl (show Cg _ _ _ _ from ⟨_,rfl,(show Cg _ _ _ _ from ⟨_,rfl,_,_,_,_,rfl,rfl,h5,a0,_,_,rfl,rfl,ag ∅,_,_,rfl,rfl,(show (0:Int)<4 by decide),_,_,rfl,rfl,_,rfl,_,_,rfl,h5,λw hw=>?_⟩)⟩)));rw [<-ej,e3];have z6:=AO hw (.lst (cs.map V.int));have G:=upd_same (H:=H5) (a:=w) (o:=HO.lst (cs.map V.int));generalize upd H5 w (.lst (cs.map V.int))=H6 at z6 G ⊢;refine ⟨_,rfl,⟨_,SqL.of G⟩,ForL.by (xs:=cs.map V.int) (λi σ e=>∃ (x6:cO) (J:Addr) (l:cJ),σ=[some (.ref a),some (.ref p),some (.ref f),some (.ref q),some (.ref g),some (.ref J),x6,none,none,none,none,none,none,none,none]/\Same H6 e/\Pl e J l/\Kt i l) ⟨none,e2,_,rfl,Same.refl H6,P0.same z6,kt_zero⟩ ?_ ?_ ?_⟩
  ·rintro i σ e _ ⟨x6,J,l,rfl,s,_⟩;exact SqL.of (s _ _ G)
  ·rintro i x σ H7 hx ⟨x6,J,l,rfl,s7,P7,S⟩;rw [Aj] at hx;obtain ⟨d,hd,rfl⟩:=Option.map_eq_some_iff.mp hx;have i3:i<3:=by have:=(CK.mp hd).1;omega
   obtain ⟨u1,u2⟩:=dc d (BV hd);refine Jr (Gi (Ag (AZ rfl (BL (AZ rfl ⟨d,rfl,u1,u2,λv m H8 s8 P8 F8=>?_⟩)))));obtain ⟨k,hl,nl⟩:=P7.same s8;obtain ⟨zm,hm,nm⟩:=P8;obtain ⟨gm,m0,m2,ab,om⟩:=FO F8;have ll:=S.len;exact ⟨J,v,k,zm,l,m,_,_,_,_,rfl,hl,hm,nl,nm,S.g,gm,⋯,⋯,⋯,⋯,∅,∅,λr R H9 s9 P9 G9 l9 e9=>⟨_,r,R,rfl,(s7.trans s8).trans s9,P9,S.step i3 F8 G9 l9 e9⟩⟩
  ·rintro σ H7 ⟨x6,J,l,rfl,s7,P7,S⟩;rw [AL] at S;show Rz K _ [some (.ref a),some (.ref p),some (.ref f),some (.ref q),some (.ref g),some (.ref J),x6,none,none,none,none,none,none,none,none] H7;have a1:=z6.trans s7;have h7:=a1 _ _ h5;obtain ⟨bs,e8,l8,m8⟩:=M8 B (some 18) (some 21);have lb:=Tm (xs:=B.map V.int) (a:=18) (b:=21) ∅ ∅;rw [e8,AL] at lb;have db:=D1.sub m8;refine Bb (BL (O0 (Kl (AZ rfl (show Cg _ _ _ _ from ⟨_,rfl,(show Cg _ _ _ _ from ⟨_,rfl,_,_,rfl,h7,λw' a3=>?_⟩)⟩)))));rw [e8];have z8:=AO a3 (.lst (bs.map V.int));have M:=upd_same (H:=H7) (a:=w') (o:=HO.lst (bs.map V.int));generalize upd H7 w' (.lst (bs.map V.int))=H8 at z8 M ⊢;refine ⟨_,rfl,⟨_,SqL.of M⟩,CompJ.lst (xs:=bs.map V.int) (λi Z e=>i<=bs.length/\Same H8 e/\∃ k,Nums e Z k/\(∀ q∈k,Sm q)/\k.length=i) ⟨Ai _,Same.refl H8,[],trivial,(λ_ h=>nomatch h),rfl⟩ ?_ ?_ ?_⟩
   ·rintro i Z e ⟨hi,s,k,nz,_,ez⟩;exact ⟨by rw [AL];exact hi,sz (by have:=nz.length;omega),SqL.of (s _ _ M)⟩
   ·rintro i x Z e hx ⟨hi,s,k,nz,O,ez⟩;rw [Aj] at hx;obtain ⟨d,hd,rfl⟩:=Option.map_eq_some_iff.mp hx;obtain ⟨u1,u2⟩:=db d (BV hd);refine Jr (BL (AZ rfl ⟨d,rfl,u1,λr q1 H9 s9 i9 m9=>⟨(CK.mp hd).1,s.trans s9,k++[q1],T3 i9 (nz.tp (D_ s9)),λy hy=>?_,by rw [DB,ez];rfl⟩⟩));rcases EC.mp hy with z | z
    ·exact O y z
    ·rw [BA.mp z];exact m9
   ·rintro Z e ⟨_,s,k,nz,O,ez⟩ w9 a4;rw [AL] at ez;have z9:=AO a4 (.lst Z);show Cm K [V.ref w9] _ _ _;refine ⟨w9,Z,k,rfl,upd_same,nz.tp (D_ z9),⋯,λr zs ac a5 a6 a7=>?_⟩;have u:=((z8.trans s).trans z9).trans a5;have A:=(s5.trans a1).trans u;exact uR kQ (F3.same (s4.trans A)) W (F4.same A) W4 (P7.same u) ⟨cs.length,⋯,S⟩ ⟨zs,a6,a7⟩ O ⋯
 refine FE ⟨_,rfl,_,_,_,_,rfl,rfl,h3,a0,_,_,rfl,rfl,(show (0:Int)<2 by decide),rfl,_,rfl,Au (λc=>?_) (λc=>go y Ty Uy Ny Dy H3 (Same.refl H3) Fy (Wy.mono ∅ ∅ ∅ ∅))⟩;refine Gi (Ag (AZ rfl (AZ rfl ⟨f,y,T,U,Ty,Uy,N,D,Ny,Dy,_,_,10,5,rfl,F3,Fy,W,Wy,∅,∅,∅,∅,∅,∅,λr X Y n s4 F4 W4=>?_⟩)));exact go r X Y _ _ n s4 F4 (W4.mono ∅ ∅ ∅ ∅)
end Bs
namespace Bs
open PySem PySem.Spec PyProof.Rows L2
set_option maxHeartbeats 4000000
open Hd
structure Bl (K:W.Frag) (mg:cW):Prop where
 abs:mg "abs" = none
 min:mg "min" = none
 len:mg "len" = none
 enumerate:mg "enumerate" = none
 list:mg "list" = none
 max:mg "max" = none
 range:mg "range" = none
 any:mg "any" = none
 zip:mg "zip" = none
 EXPONENTS:mg "EXPONENTS" = some (.ref (Gk K))
 tuple:mg "tuple" = none
 int:mg "int" = none
 isinstance:mg "isinstance" = none
 xEXPONENTS:∀ H:Hp,SqT K H (Gk K) (exps.map λe:Nat=>V.int (e:Int))
section
variable {P:Program} {w:World} {K:W.Frag} {mg:cW} {base:Heap} {f:Addr} {fd:FuncData}
def J_ {n:Str} {st:Stmt} {N ps:c_} {k:Nat} {sp:Sp} {t:TS} (F:Fun K n n st f fd) (v:∀ {vs:cN} {H:Hp} {Q:VK} {E:XK},sp vs H Q E->t { nx:=λ_ g=>Q .non g,rt:=Q } (start N vs) H) (d:∀ {a:Value} {A:Around} {b:List Env} {s:Shared} {H:Hp} {E:XK} (c:Room k (A.deeper (envOfC n (Ch st) s.heap.objs.size f a))) (i:N.Nodup) (j:(A.deeper (envOfC n (Ch st) s.heap.objs.size f a)).units<cLine) (e:(A.deeper (envOfC n (Ch st) s.heap.objs.size f a)).units+64<cLine),PSs (GU aE P w K mg base N n (Ch st) f a A b s H E).nox (Dz st) t) (S:FnScope N ps (Ch st):=by exact ⟨rfl,rfl,rfl,by decide +kernel,rfl,by decide +kernel,by decide +kernel⟩) (len:∀ vs H Q E,sp vs H Q E->vs.length=ps.length:=by intro vs H Q E h;repeat (first | (obtain ⟨rfl,_⟩:=h;rfl) | obtain ⟨_,h⟩:=h)):FnOk P w K mg base aE (k+1) f fd ps sp:=F.ok S len λa A b s H vs Q E c h=>⟨t,d c S.nd c.units0 c.units,v h⟩
def li {a:Prop} {b:Type} {x:b}:x=x\/a:=Or.inl rfl
end
set_option maxHeartbeats 4000000
open Hd
def NE {K:W.Frag} {st:Stmt} {f c:Addr} {n:Str} {pm:Value} (l:K.lookup f=some (H_ n st pm c)) (e:W.codeIn K (.ref c) n=true) (k:W.keepIn K (.ref f)=true):Fun K n n st f (W.fnOf n n (EZ st) (Dz st) (Ch st) .none .none .none pm none (.ref c) .none):=VX (st:=st) l e k
def uT {P:Program} {K:W.Frag} {w:World} {h c:Heap} {d:cW} {k:Nat} {f:Addr} {g:FuncData} {n:Str} {ps:c_} {sp:Sp} (X:K.In h) (G:h.Ns mainGlobals d) (ok:FnOk P w K d c aE k f g ps sp) (b:Binds K g ps []) (e:W.keepIn K (.ref f)=true) (a:W.nsIn K mainGlobals n=some (some (.ref f))):Cal P w K d c k n ps sp:=⟨f,g,ok,b,e,W.mg_of X G a⟩
def JK {a:cQ} {n:Nat} (h:a.length=n+1):∃ x t,a=x::t/\t.length=n:=by cases a with | nil=>cases h | cons x t=>exact ⟨x,t,rfl,Nat.succ.inj h⟩
def T4 (a:cQ) (h:a.length=1):∃ b,a=[b]:=by obtain ⟨x,t,rfl,q⟩:=JK h;exact ⟨x,by rw [CL.mp q]⟩
def T5 (b:cQ) (h:b.length=2):∃ c a,b=[c,a]:=by obtain ⟨x,t,rfl,q⟩:=JK h;obtain ⟨a,rfl⟩:=T4 t q;exact ⟨x,a,rfl⟩
def T6 (c:cQ) (h:c.length=3):∃ d a b,c=[d,a,b]:=by obtain ⟨x,t,rfl,q⟩:=JK h;obtain ⟨a,b,rfl⟩:=T5 t q;exact ⟨x,a,b,rfl⟩
def uU (d:cQ) (h:d.length=4):∃ e a b c,d=[e,a,b,c]:=by obtain ⟨x,t,rfl,q⟩:=JK h;obtain ⟨a,b,c,rfl⟩:=T6 t q;exact ⟨x,a,b,c,rfl⟩
def uV (e:cQ) (h:e.length=5):∃ f a b c d,e=[f,a,b,c,d]:=by obtain ⟨x,t,rfl,q⟩:=JK h;obtain ⟨a,b,c,d,rfl⟩:=uU t q;exact ⟨x,a,b,c,d,rfl⟩
def Ao {P:Program} {K:W.Frag} {w:World} {h g:Heap} {j:cW} {k:Nat} {f c:Addr} {n:Str} {ps:c_} {sp:Sp} {st:Stmt} {pm:Value} (X:K.In h) (G:h.Ns mainGlobals j) (ok:Fun K n n st f (W.fnOf n n (EZ st) (Dz st) (Ch st) .none .none .none pm none (.ref c) .none)->FnOk P w K j g aE k f (W.fnOf n n (EZ st) (Dz st) (Ch st) .none .none .none pm none (.ref c) .none) ps sp) (l:K.lookup f=some (H_ n st pm c):=by kernel_rfl) (e:W.codeIn K (.ref c) n=true:=by kernel_rfl) (q:W.keepIn K (.ref f)=true:=by kernel_rfl) (a:W.nsIn K mainGlobals n=some (some (.ref f)):=by kernel_rfl) (b:∀ (kV m pm:Value) (p:Option Addr) (o r:Value) (d:cQ),d.length=ps.length->bindArgs (W.fnOf n n (EZ st) (Dz st) (Ch st) .none kV m pm p o r) ⟨d,[]⟩=pure (ps.zip d):=by first | exact λ_ _ _ _ _ _ d i=>by obtain ⟨_,rfl⟩:=T4 d i;rfl | exact λ_ _ _ _ _ _ d i=>by obtain ⟨_,_,rfl⟩:=T5 d i;rfl | exact λ_ _ _ _ _ _ d i=>by obtain ⟨_,_,_,rfl⟩:=T6 d i;rfl | exact λ_ _ _ _ _ _ d i=>by obtain ⟨_,_,_,_,_,rfl⟩:=uV d i;rfl):Cal P w K j g k n ps sp:=uT X G (ok (NE l e q)) ((NE l e q).binds b) q a
abbrev J' (P:Program) (w:World) (b:cW) (a:Heap) (k:Nat) (n:Str) (ps:c_) (sp:W.Frag->Sp):Prop:=Cal P w (hp w.params) b a k n ps (sp (hp w.params))
section
variable {P:Program} {w:World} {mg:cW} {base h:Heap} (X:(hp w.params).In h) (G:h.Ns mainGlobals mg) (B:Bl (hp w.params) mg)
include X G B
theorem HB:J' P w mg base 1 "common_divisor" ["one", "other"] Eh:=Ao (f:=22) (c:=21) (pm:=L') (st:=VY) X G λF=>J_ F (Zp ) λb a d e=>(AK (EW PassesOwn.never (cR Fc (pv 1) AE) (AK (C' a (AG Uk (pv 0) (pv 1))) (AK (C' a (pv 1)) (AS (C' a (pv 2)))))) (AS (Ac (A4 LC rfl B.abs LB (AD (pv 0) AN)))))
theorem NF:J' P w mg base 1 "raised" ["whole", "n"] HS:=Ao (f:=29) (c:=28) (pm:=L') (st:=VZ) X G λF=>J_ F (Zq ) λb a d e=>(AK (C' a AE) (AK (C' a (pv 0)) (AK (EW PassesOwn.never (cR Fe (pv 1) AE) (AK (Bh (cR C6 (AG BH (pv 1) AE) AE) (AS (EV (i:=2) a rfl li (pv 3) JZ)) Bp) (AK (EV (i:=1) a rfl li AE Xg) (AS (Bh (cR Fe (pv 1) AE) (AS (EV (i:=3) a rfl li (pv 3) JZ)) Bp))))) (AS (Ac (pv 2))))))
theorem NG:J' P w mg base 1 "row_trimmed" ["row"] HU:=Ao (f:=41) (c:=40) (pm:=L') (st:=Vb) X G λF=>J_ F (Zx ) λb a d e=>(AK (C' a (A4 CS rfl B.len BR (AD (pv 0) AN))) (AK (EW PassesOwn.never (PW.pt (GN (cR Fe (pv 1) AE) (GK (cR C6 (BT Am (pv 0) (AG BY (pv 1) AE) (λ_ _=>rfl)) AE)))) (AS (EV (i:=1) a rfl li AE II))) (AS (Ac (EY E4 (pv 0) Ff (Dx (pv 1)))))))
theorem T7:J' P w mg base 1 "row_parted" ["row", "divisor"] Id:=Ao (f:=46) (c:=45) (pm:=L') (st:=Vc) X G λF=>J_ F (Z7 ) λa b d e=>(AS (Ac (DY (N:=["whole", "divisor"]) (capt:=[none,some 1]) rfl (BlkOk.of rfl rfl rfl rfl (DG.mpr rfl) rfl rfl rfl) (DV (pv 0)) (λ_ _ _ _=>(Ay (i:=0) (show (["whole", "divisor"]:List PySem.Str).Nodup by decide +kernel) rfl li)) (λ_ _ _ _=>(AG CF (pv 0) (pv 1))))))
theorem uW:J' P w mg base 1 "row_times" ["row", "other"] J9:=Ao (f:=53) (c:=52) (pm:=L') (st:=Vd) X G λF=>J_ F (yS ) λb a d e=>(AK (Bh (PW.pt (IC (JM (Fk (pv 0) (λ_=>rfl))) (JL (JM (Fk (pv 1) (λ_=>rfl)))))) (AS (Ac (Bi AN))) Bp) (AK (C' a (AG Ga (Bi (AD AE AN)) (AG BY (AG Br (A4 CS rfl B.len BR (AD (pv 0) AN)) (A4 CS rfl B.len BR (AD (pv 1) AN))) AE))) (AK (Cp PassesOwn.never rfl (Jc rfl B.enumerate (AD (pv 0) AN)) (E5 rfl (CV (Ay (i:=3) a rfl li) (CV (Ay (i:=4) a rfl li) Ew))) (AS (Bh (cR Fc (pv 4) AE) (AS (Cp PassesOwn.never rfl (Jc rfl B.enumerate (AD (pv 1) AN)) (E5 rfl (CV (Ay (i:=5) a rfl li) (CV (Ay (i:=6) a rfl li) Ew))) (AS (JO (pv 2) (AG Br (pv 3) (pv 5)) Jf (AG BJ (pv 4) (pv 6)) Kz GV)))) Bp))) (AS (Ac (pv 2))))))
theorem T8:J' P w mg base 1 "row_over" ["row", "divisor"] Ig:=Ao (f:=60) (c:=59) (pm:=L') (st:=Ve) X G λF=>J_ F (zC ) λb a d e=>(AK (C' a (HJ OF rfl B.list N8 (AD (pv 0) AN))) (AK (C' a (AG BY (A4 CS rfl B.len BR (AD (pv 1) AN)) AE)) (AK (C' a (AG Ga (Bi (AD AE AN)) (A4 (IO rfl) rfl B.max IN (AD (AG BY (A4 CS rfl B.len BR (AD (pv 0) AN)) (pv 3)) (AD AE AN))))) (AK (Cp PassesOwn.never rfl (OH rfl B.range (AD (AG BY (AG BY (A4 CS rfl B.len BR (AD (pv 0) AN)) (pv 3)) AE) (AD (CP CQ AE) (AD (CP CQ AE) AN)))) (Ay (i:=5) a rfl li) (AK (C' a (AG E6 (BT Am (pv 2) (AG Br (pv 5) (pv 3)) (λ_ _=>rfl)) (BT Am (pv 1) (CP CQ AE) (λ_ _=>rfl)))) (AK (Bh (cR Fc (AG BJ (pv 6) (BT Am (pv 1) (CP CQ AE) (λ_ _=>rfl))) (BT Am (pv 2) (AG Br (pv 5) (pv 3)) (λ_ _=>rfl))) (AS (Ac FW)) Bp) (AK (IF (pv 6) (Kw (pv 4) (pv 5) GV)) (AS (Bh (cR Fc (pv 6) AE) (AS (Cp PassesOwn.never rfl (IH rfl B.range (AD (pv 3) AN)) (Ay (i:=7) a rfl li) (AS (JO (pv 2) (AG Br (pv 5) (pv 7)) Jf (AG BJ (pv 6) (BT Am (pv 1) (pv 7) (λ_ _=>rfl))) II GV)))) Bp)))))) (AS (Ac (JN (NU (A4 (Xu rfl) rfl B.any Xs (AD (EY E4 (pv 2) Ff (Dx (pv 3))) AN))) FW (pv 4))))))))
theorem uX:J' P w mg base 1 "inverse_modulo" ["whole", "prime"] Jy:=Ao (f:=103) (c:=102) (pm:=L') (st:=Vl) X G λF=>J_ F (zH ) λb a d e=>(AK (C' a (pv 1)) (AK (C' a (AG BH (pv 0) (pv 1))) (AK (C' a AE) (AK (C' a AE) (AK (EW PassesOwn.never (cR Fc (pv 3) AE) (AK (C' a (AG CF (pv 2) (pv 3))) (AK (C' a (AG BY (pv 2) (AG BJ (pv 6) (pv 3)))) (AK (C' a (pv 3)) (AK (C' a (pv 7)) (AK (C' a (AG BY (pv 4) (AG BJ (pv 6) (pv 5)))) (AK (C' a (pv 5)) (AS (C' a (pv 7)))))))))) (AS (Ac (AG BH (pv 4) (pv 1)))))))))
theorem uY:J' P w mg base 1 "rests_modulo" ["row", "prime"] Jz:=Ao (f:=108) (c:=107) (pm:=L') (st:=Vm) X G λF=>J_ F (zD ) λa b d e=>(AS (Ac (DY (N:=["whole", "prime"]) (capt:=[none,some 1]) rfl (BlkOk.of rfl rfl rfl rfl (DG.mpr rfl) rfl rfl rfl) (DV (pv 0)) (λ_ _ _ _=>(Ay (i:=0) (show (["whole", "prime"]:List PySem.Str).Nodup by decide +kernel) rfl li)) (λ_ _ _ _=>(AG BH (pv 0) (pv 1))))))
theorem uZ:J' P w mg base 1 "nearest" ["whole", "prime"] J3:=Ao (f:=148) (c:=147) (pm:=L') (st:=Vs) X G λF=>J_ F (zJ ) λb a d e=>(AK (C' a (AG BH (pv 0) (pv 1))) (AS (Ac (JN (cR Fe (AG BJ AE (pv 2)) (pv 1)) (AG BY (pv 2) (pv 1)) (pv 2)))))
theorem Df:J' P w mg base 1 "poly" ["row"] Cm:=Ao (f:=202) (c:=201) (pm:=P_) (st:=V0) X G λF=>J_ F (Zu ) λb a d e=>(AK (C' a (A4 CS rfl B.len BR (AD (pv 0) AN))) (AK (EW PassesOwn.never (PW.pt (GN (cR Fe (pv 1) AE) (GK (cR C6 (xI Aa (BT Am (pv 0) (AG BY (pv 1) AE) (λ_ _=>rfl))) AE)))) (AS (EV (i:=1) a rfl li AE II))) (AS (Ac (HJ LD rfl B.tuple JY (AD (EY E4 (pv 0) Ff (Dx (pv 1))) AN))))))
theorem Hv:J' P w mg base 1 "degree" ["P"] FG:=Ao (f:=209) (c:=208) (pm:=P_) (st:=V3) X G λF=>J_ F (vO ) λa b d e=>(AS (Ac (AG BY (A4 DW rfl B.len BR (AD (pv 0) AN)) AE)))
theorem Kn:J' P w mg base 1 "number_of" ["P", "place"] Go:=Ao (f:=226) (c:=225) (pm:=P_) (st:=V6) X G λF=>J_ F (xD ) λa b d e=>(AS (Ac (JN (cR GT (pv 1) (A4 DW rfl B.len BR (AD (pv 0) AN))) (BT Aa (pv 0) (pv 1) (λ_ _=>rfl)) (BI (AD AE (AD AE AN))))))
theorem Hw:J' P w mg base 1 "f_poly" ["P"] F5:=Ao (f:=307) (c:=306) (pm:=af) (st:=WJ) X G λF=>J_ F (vP ) λa b d e=>(AS (Ac (BI (AD (pv 0) (AD (BI (AD (BI (AD AE (AD AE AN))) AN)) AN)))))
theorem tE:J' P w mg base 1 "_law_mixed" ["_law_cell", "_law_k"] KH:=Ao (f:=349) (c:=348) (pm:=Y_) (st:=WP) X G λF=>J_ F (vK ) λb a d e=>(AK (C' a (AG BH (AG BJ (AG Br (AG Br (AG BH (pv 0) AE) (AG BJ AE (pv 1))) AE) AE) AE)) (AS (Ac (AG CF (AG BH (AG BJ (pv 2) (AG Br (AG BH (pv 2) AE) AE)) AE) AE))))
theorem T9:J' P w mg base 2 "content" ["row", "start"] Ic:=Ao (f:=34) (c:=33) (pm:=L') (st:=Va) X G λF=>J_ F (Z6 ) λb a d e=>(AK (C' a ((HB X G B).q2 b (Xx rfl B.min N7 (YB (N:=["whole"]) (capt:=[none]) rfl (BlkOk.of rfl rfl rfl rfl (λ_ h=>nomatch h) rfl rfl rfl) (DV (pv 0)) (λ_ _ _ _=>(Ay (i:=0) (show (["whole"]:List PySem.Str).Nodup by decide +kernel) rfl li)) (λ_ _ _ _=>(cR Fc (pv 0) AE)) (λ_ _ _ _=>(A4 LC rfl B.abs LB (AD (pv 0) AN))))) (pv 1))) (AK (Cp PassesOwn.never rfl (DV (pv 0)) (Ay (i:=3) a rfl li) (AK (Bh (cR C6 (pv 2) AE) (AS (Ac AE)) Bp) (AS (C' a ((HB X G B).q2 b (pv 3) (pv 2)))))) (AS (Ac (pv 2)))))
theorem UA:J' P w mg base 2 "row_less" ["row", "factor", "other", "weight", "shift"] Ie:=Ao (f:=65) (c:=64) (pm:=L') (st:=Vf) X G λF=>J_ F (Z9 ) λb a d e=>(AK (LM (i:=5) (N:=["whole", "factor"]) (capt:=[none,some 1]) a rfl li rfl (BlkOk.of rfl rfl rfl rfl (DG.mpr rfl) rfl rfl rfl) (DV (pv 0)) (λ_ _ _ _=>(Ay (i:=0) (show (["whole", "factor"]:List PySem.Str).Nodup by decide +kernel) rfl li)) (λ_ _ _ _=>(AG BJ (pv 1) (pv 0)))) (AK (ID (IJ PySem.F.plainAttrs_list PySem.F.slot_list_extend PySem.F.type_list_extend VP (pv 5) (AD (AG Ga (Bi (AD AE AN)) (AG BY (AG Br (A4 CS rfl B.len BR (AD (pv 2) AN)) (pv 4)) (A4 CS rfl B.len BR (AD (pv 0) AN)))) AN))) (AK (Cp PassesOwn.never rfl (Jc rfl B.enumerate (AD (pv 2) AN)) (E5 rfl (CV (Ay (i:=6) a rfl li) (CV (Ay (i:=7) a rfl li) Ew))) (AS (JO (pv 5) (AG Br (pv 6) (pv 4)) Jf (AG BJ (pv 3) (pv 7)) II GV))) (AS (Ac ((NG X G B).q1 b (pv 5)))))))
theorem tF:J' P w mg base 2 "row_power" ["row", "n"] KF:=Ao (f:=72) (c:=71) (pm:=L') (st:=Vg) X G λF=>J_ F (wH ) λb a d e=>(AK (C' a (Bi (AD ((NF X G B).q2 b (xI Am (pv 0)) (pv 1)) AN))) (AK (Cp PassesOwn.never rfl (JQ rfl B.range (AD AE (AD (AG Br (AG BJ (pv 1) (AG BY (A4 CS rfl B.len BR (AD (pv 0) AN)) AE)) AE) AN))) (Ay (i:=3) a rfl li) (AK (C' a AE) (AK (Cp PassesOwn.never rfl (JQ rfl B.range (AD AE (AD (AG Br (A4 (XB rfl) rfl B.min N7 (AD (pv 3) (AD (AG BY (A4 CS rfl B.len BR (AD (pv 0) AN)) AE) AN))) AE) AN))) (Ay (i:=5) a rfl li) (AS (EV (i:=4) a rfl li (AG BJ (AG BJ (AG BY (AG BJ (AG Br (pv 1) AE) (pv 5)) (pv 3)) (BT Am (pv 0) (pv 5) (λ_ _=>rfl))) (BT Am (pv 2) (AG BY (pv 3) (pv 5)) (λ_ _=>rfl))) Kz))) (AS (ID (IJ PySem.F.plainAttrs_list PySem.F.slot_list_append PySem.F.type_list_append JV (pv 2) (AD (AG XA (pv 4) (AG BJ (pv 3) (xI Am (pv 0)))) AN))))))) (AS (Ac (pv 2)))))
theorem NH:J' P w mg base 2 "row_modulo" ["row", "prime"] HW:=Ao (f:=115) (c:=114) (pm:=L') (st:=Vn) X G λF=>J_ F (zG ) λa b d e=>(AS (Ac ((NG X G B).q1 a ((uY X G B).q2 a (pv 0) (pv 1)))))
theorem NI:J' P w mg base 2 "monic_modulo" ["row", "prime"] HX:=Ao (f:=120) (c:=119) (pm:=L') (st:=Vo) X G λF=>J_ F (zI ) λa b d e=>(AK (Bh (JM (Fk (pv 0) (λ_=>rfl))) (AS (Ac (Bi AN))) Bp) (AK (Ex (i:=2) b rfl (Or.inr rfl) ((uX X G B).q2 a (BT Am (pv 0) (CP CQ AE) (λ_ _=>rfl)) (pv 1))) (AS (Ac (DY (N:=["whole", "prime", "factor"]) (capt:=[none,some 1,some 2]) rfl (BlkOk.of rfl rfl rfl rfl (List.forall_mem_cons.mpr ⟨rfl,(DG.mpr rfl)⟩) rfl rfl rfl) (DV (pv 0)) (λ_ _ _ _=>(Ay (i:=0) (show (["whole", "prime", "factor"]:List PySem.Str).Nodup by decide +kernel) rfl li)) (λ_ _ _ _=>(AG BH (AG BJ (pv 0) (pv 2)) (pv 1))))))))
theorem Cy:J' P w mg base 2 "ratio" ["top", "bottom"] CY:=Ao (f:=167) (c:=166) (pm:=aP) (st:=Vv) X G λF=>J_ F (Zy ) λb a d e=>(AK (C' a ((HB X G B).q2 b (pv 0) (pv 1))) (AK (Bh (cR GT (pv 1) AE) (AS (C' a (CP CQ (pv 2)))) Bp) (AS (Ac (BI (AD (AG E6 (pv 0) (pv 2)) (AD (AG E6 (pv 1) (pv 2)) AN)))))))
theorem HC:J' P w mg base 2 "cleared" ["P"] Ei:=Ao (f:=214) (c:=213) (pm:=P_) (st:=V4) X G λF=>J_ F (Zz ) λb a d e=>(AK (Ex (i:=1) a rfl (Or.inr rfl) AE) (AK (Cp PassesOwn.never rfl (IG (pv 0)) (Ay (i:=2) a rfl li) (AS (EV (i:=1) a rfl (Or.inr rfl) (AG CF (xI Aa (pv 2)) ((HB X G B).q2 b (pv 1) (xI Aa (pv 2)))) JZ))) (AS (Ac (BI (AD (DY (N:=["number", "bottom"]) (capt:=[none,some 1]) rfl (BlkOk.of rfl rfl rfl rfl (DG.mpr rfl) rfl rfl rfl) (IG (pv 0)) (λ_ _ _ _=>(Ay (i:=0) (show (["number", "bottom"]:List PySem.Str).Nodup by decide +kernel) rfl li)) (λ_ _ _ _=>(AG BJ (xI Aa (pv 0)) (AG CF (pv 1) (xI Aa (pv 0)))))) (AD (pv 1) AN)))))))
theorem tG:J' P w mg base 2 "_law_draws" ["_law_script", "_law_many"] ME:=Ao (f:=356) (c:=355) (pm:=Y_) (st:=WQ) X G λF=>J_ F (vL ) λb a d e=>(AK (C' a (AG JW (EY X3 (pv 0) Ff (Dx AE)) (Bi (AD AE AN)))) (AK (C' a (Bi AN)) (AK (C' a (AG BJ (AG CF (A4 LC rfl B.abs LB (AD (xI Am (pv 2)) AN)) AE) (AG BY AE (AG BH (xI Am (pv 2)) AE)))) (AK (Cp PassesOwn.never rfl (IH rfl B.range (AD (pv 1) AN)) (Ay (i:=5) a rfl li) (AS (Bh (cR Fe (pv 4) AE) (AK (ID (IJ PySem.F.plainAttrs_list PySem.F.slot_list_append PySem.F.type_list_append JV (pv 3) (AD (AG BH (pv 4) AE) AN))) (AS (C' a (AG CF (pv 4) AE)))) (AS (ID (IJ PySem.F.plainAttrs_list PySem.F.slot_list_append PySem.F.type_list_append JV (pv 3) (AD (AG BH ((tE X G B).q2 b (BT Am (pv 2) (AG BH (pv 5) (A4 CS rfl B.len BR (AD (pv 2) AN))) (λ_ _=>rfl)) (pv 5)) AE) AN))))))) (AS (Ac (pv 3)))))))
theorem UB:J' P w mg base 3 "strand_shortened" ["strand"] Ih:=Ao (f:=82) (c:=81) (pm:=L') (st:=Vi) X G λF=>J_ F (zO ) λb a d e=>(AK (Ex (i:=1) a rfl (Or.inr rfl) AE) (AK (Cp PassesOwn.never rfl (DV (pv 0)) (Ay (i:=2) a rfl li) (AS (Ex (i:=1) a rfl (Or.inr rfl) ((T9 X G B).q2 b (pv 2) (pv 1))))) (AS (Ac (DY (N:=["row", "shared"]) (capt:=[none,some 1]) rfl (BlkOk.of rfl rfl rfl rfl (DG.mpr rfl) rfl rfl rfl) (DV (pv 0)) (λ_ _ _ _=>(Ay (i:=0) (show (["row", "shared"]:List PySem.Str).Nodup by decide +kernel) rfl li)) (λ_ _ _ _=>((T7 X G B).q2 b (pv 0) (pv 1))))))))
theorem tH:J' P w mg base 3 "split_modulo" ["row", "divisor", "modulus"] J0:=Ao (f:=127) (c:=126) (pm:=L') (st:=Vp) X G λF=>J_ F (zM ) λb a d e=>(AK (C' a (HJ OF rfl B.list N8 (AD (pv 0) AN))) (AK (C' a (AG BY (A4 CS rfl B.len BR (AD (pv 1) AN)) AE)) (AK (C' a (AG Ga (Bi (AD AE AN)) (A4 (IO rfl) rfl B.max IN (AD (AG BY (A4 CS rfl B.len BR (AD (pv 0) AN)) (pv 4)) (AD AE AN))))) (AK (Cp PassesOwn.never rfl (OH rfl B.range (AD (AG BY (AG BY (A4 CS rfl B.len BR (AD (pv 0) AN)) (pv 4)) AE) (AD (CP CQ AE) (AD (CP CQ AE) AN)))) (Ay (i:=6) a rfl li) (AK (C' a (AG BH (BT Am (pv 3) (AG Br (pv 6) (pv 4)) (λ_ _=>rfl)) (pv 2))) (AK (IF (pv 7) (Kw (pv 5) (pv 6) GV)) (AS (Bh (cR Fc (pv 7) AE) (AS (Cp PassesOwn.never rfl (IH rfl B.range (AD (pv 4) AN)) (Ay (i:=8) a rfl li) (AS (JO (pv 3) (AG Br (pv 6) (pv 8)) Jf (AG BJ (pv 7) (BT Am (pv 1) (pv 8) (λ_ _=>rfl))) II GV)))) Bp))))) (AS (Ac (BI (AD ((NG X G B).q1 b (pv 5)) (AD ((NH X G B).q2 b (EY E4 (pv 3) Ff (Dx (pv 4))) (pv 2)) AN)))))))))
theorem tI:J' P w mg base 3 "plus" ["one", "other"] L9:=Ao (f:=174) (c:=173) (pm:=aP) (st:=Vw) X G λF=>J_ F (xB ) λa b d e=>(AS (Ac ((Cy X G B).q2 a (AG Br (AG BJ (xI Aa (pv 0)) (xI Aa (pv 1))) (AG BJ (xI Aa (pv 1)) (xI Aa (pv 0)))) (AG BJ (xI Aa (pv 0)) (xI Aa (pv 1))))))
theorem tJ:J' P w mg base 3 "minus" ["one", "other"] MA:=Ao (f:=181) (c:=180) (pm:=aP) (st:=Vx) X G λF=>J_ F (xC ) λa b d e=>(AS (Ac ((Cy X G B).q2 a (AG BY (AG BJ (xI Aa (pv 0)) (xI Aa (pv 1))) (AG BJ (xI Aa (pv 1)) (xI Aa (pv 0)))) (AG BJ (xI Aa (pv 0)) (xI Aa (pv 1))))))
theorem UC:J' P w mg base 3 "times" ["one", "other"] J8:=Ao (f:=188) (c:=187) (pm:=aP) (st:=Vy) X G λF=>J_ F (yQ ) λa b d e=>(AS (Ac ((Cy X G B).q2 a (AG BJ (xI Aa (pv 0)) (xI Aa (pv 1))) (AG BJ (xI Aa (pv 0)) (xI Aa (pv 1))))))
theorem UD:J' P w mg base 3 "over" ["one", "other"] Ij:=Ao (f:=195) (c:=194) (pm:=aP) (st:=Vz) X G λF=>J_ F (yR ) λa b d e=>(AS (Ac ((Cy X G B).q2 a (AG BJ (xI Aa (pv 0)) (xI Aa (pv 1))) (AG BJ (xI Aa (pv 0)) (xI Aa (pv 1))))))
theorem Ko:J' P w mg base 3 "uncleared" ["row", "bottom"] Gn:=Ao (f:=219) (c:=218) (pm:=P_) (st:=V5) X G λF=>J_ F (Z1 ) λa b d e=>(AS (Ac ((Df X G B).q1 a (DY (N:=["whole", "bottom"]) (capt:=[none,some 1]) rfl (BlkOk.of rfl rfl rfl rfl (DG.mpr rfl) rfl rfl rfl) (DV (pv 0)) (λ_ _ _ _=>(Ay (i:=0) (show (["whole", "bottom"]:List PySem.Str).Nodup by decide +kernel) rfl li)) (λ_ _ _ _=>((Cy X G B).q2 a (pv 0) (pv 1)))))))
theorem Hy:J' P w mg base 3 "_law_number" ["_law_d"] F6:=Ao (f:=363) (c:=362) (pm:=Y_) (st:=WR) X G λF=>J_ F (vN ) λa b d e=>(AS (Ac ((Cy X G B).q2 a (AG BY (AG BH (pv 0) AE) AE) (BT Am (Bi (AD AE (AD AE (AD AE (AD AE (AD AE AN)))))) (AG BH (AG CF (pv 0) AE) AE) (λ_ _=>rfl)))))
theorem NJ:J' P w mg base 3 "_law_factor" ["_law_d"] Il:=Ao (f:=370) (c:=369) (pm:=Y_) (st:=WS) X G λF=>J_ F (vQ ) λa b d e=>(AK (Bh (cR GT (AG BH (pv 0) AE) AE) (AS (Ac ((Df X G B).q1 a (Bi (AD ((Cy X G B).q2 a (AG BY (AG BH (AG CF (pv 0) AE) AE) AE) (AG Br AE (AG BH (AG CF (pv 0) AE) AE))) (AD (BI (AD AE (AD AE AN))) AN)))))) Bp) (AK (C' b (AG BY (AG BH (AG CF (pv 0) AE) AE) AE)) (AS (Ac ((Df X G B).q1 a (Bi (AD ((Cy X G B).q2 a (AG Br (AG BJ (pv 1) (pv 1)) (BT Am (Bi (AD AE (AD AE (AD AE (AD AE (AD (CP CQ AE) (AD (CP CQ AE) (AD (CP CQ AE) AN)))))))) (AG BH (AG CF (pv 0) AE) AE) (λ_ _=>rfl))) AE) (AD ((Cy X G B).q2 a (AG BJ AE (pv 1)) AE) (AD (BI (AD AE (AD AE AN))) AN)))))))))
theorem tK:J' P w mg base 4 "strand_rest" ["strand", "other"] Jx:=Ao (f:=77) (c:=76) (pm:=L') (st:=Vh) X G λF=>J_ F (zU ) λb a d e=>(AK (EW PassesOwn.never (cR Nc (A4 CS rfl B.len BR (AD (xI Am (pv 0)) AN)) (A4 CS rfl B.len BR (AD (xI Am (pv 1)) AN))) (AK (Ex (i:=2) a rfl (Or.inr rfl) (AG BY (A4 CS rfl B.len BR (AD (xI Am (pv 0)) AN)) (A4 CS rfl B.len BR (AD (xI Am (pv 1)) AN)))) (AK (C' a (BT Am (xI Am (pv 0)) (CP CQ AE) (λ_ _=>rfl))) (AK (C' a (BT Am (xI Am (pv 1)) (CP CQ AE) (λ_ _=>rfl))) (AK (C' a ((HB X G B).q2 b (pv 3) (pv 4))) (AK (Ex (i:=6) a rfl (Or.inr rfl) (AG E6 (pv 4) (pv 5))) (AK (Ex (i:=7) a rfl (Or.inr rfl) (AG E6 (pv 3) (pv 5))) (AS (LM (i:=0) (N:=["row", "follower", "factor", "weight", "shift"]) (capt:=[none,none,some 6,some 7,some 2]) a rfl li rfl (BlkOk.of rfl rfl rfl rfl (List.forall_mem_cons.mpr ⟨rfl,(List.forall_mem_cons.mpr ⟨rfl,(DG.mpr rfl)⟩)⟩) rfl rfl rfl) (Xr rfl B.zip (AD (pv 0) (AD (pv 1) AN))) (λ_ _ _ _=>(E5 rfl (CV (Ay (i:=0) (show (["row", "follower", "factor", "weight", "shift"]:List PySem.Str).Nodup by decide +kernel) rfl li) (CV (Ay (i:=1) (show (["row", "follower", "factor", "weight", "shift"]:List PySem.Str).Nodup by decide +kernel) rfl li) Ew)))) (λ_ _ _ _=>((UA X G B).pe b ∅ rfl (AD (pv 0) (AD (pv 2) (AD (pv 1) (AD (pv 3) (AD (pv 4) AN)))))))))))))))) (AS (Ac ((UB X G B).q1 b (pv 0)))))
theorem NK:J' P w mg base 4 "row_shortened" ["row"] HV:=Ao (f:=89) (c:=88) (pm:=L') (st:=Vj) X G λF=>J_ F (zT ) λa b d e=>(AS (Ac (xI Am ((UB X G B).q1 a (Bi (AD (pv 0) AN))))))
theorem tL:J' P w mg base 4 "rest_modulo" ["row", "divisor", "modulus"] J1:=Ao (f:=134) (c:=133) (pm:=L') (st:=Vq) X G λF=>J_ F (zK ) λa b d e=>(AS (Ac (xI Aa ((tH X G B).q3 a (pv 0) (pv 1) (pv 2)))))
theorem UE:J' P w mg base 4 "p_plus" ["P", "Q"] KC:=Ao (f:=231) (c:=230) (pm:=P_) (st:=V7) X G λF=>J_ F (xJ ) λa b d e=>(AS (Ac ((Df X G B).q1 a (DY (N:=["place", "P", "Q"]) (capt:=[none,some 0,some 1]) rfl (BlkOk.of rfl rfl rfl rfl (List.forall_mem_cons.mpr ⟨rfl,(DG.mpr rfl)⟩) rfl rfl rfl) (IH rfl B.range (AD (A4 (IO rfl) rfl B.max IN (AD (A4 DW rfl B.len BR (AD (pv 0) AN)) (AD (A4 DW rfl B.len BR (AD (pv 1) AN)) AN))) AN)) (λ_ _ _ _=>(Ay (i:=0) (show (["place", "P", "Q"]:List PySem.Str).Nodup by decide +kernel) rfl li)) (λ_ _ _ _=>((tI X G B).q2 a ((Kn X G B).q2 a (pv 1) (pv 0)) ((Kn X G B).q2 a (pv 2) (pv 0))))))))
theorem NL:J' P w mg base 4 "p_minus" ["P", "Q"] Ik:=Ao (f:=236) (c:=235) (pm:=P_) (st:=V8) X G λF=>J_ F (xE ) λa b d e=>(AS (Ac ((Df X G B).q1 a (DY (N:=["place", "P", "Q"]) (capt:=[none,some 0,some 1]) rfl (BlkOk.of rfl rfl rfl rfl (List.forall_mem_cons.mpr ⟨rfl,(DG.mpr rfl)⟩) rfl rfl rfl) (IH rfl B.range (AD (A4 (IO rfl) rfl B.max IN (AD (A4 DW rfl B.len BR (AD (pv 0) AN)) (AD (A4 DW rfl B.len BR (AD (pv 1) AN)) AN))) AN)) (λ_ _ _ _=>(Ay (i:=0) (show (["place", "P", "Q"]:List PySem.Str).Nodup by decide +kernel) rfl li)) (λ_ _ _ _=>((tJ X G B).q2 a ((Kn X G B).q2 a (pv 1) (pv 0)) ((Kn X G B).q2 a (pv 2) (pv 0))))))))
theorem DS:J' P w mg base 4 "p_times" ["P", "Q"] Cc:=Ao (f:=243) (c:=242) (pm:=P_) (st:=V9) X G λF=>J_ F (yT ) λa b d e=>(AK (C' b ((HC X G B).q1 a (pv 0))) (AK (C' b ((HC X G B).q1 a (pv 1))) (AS (Ac ((Ko X G B).q2 a ((uW X G B).q2 a (xI Aa (pv 2)) (xI Aa (pv 3))) (AG BJ (xI Aa (pv 2)) (xI Aa (pv 3))))))))
theorem Kq:J' P w mg base 4 "p_scaled" ["P", "c"] Fz:=Ao (f:=248) (c:=247) (pm:=P_) (st:=WA) X G λF=>J_ F (yU ) λa b d e=>(AS (Ac ((Df X G B).q1 a (DY (N:=["number", "c"]) (capt:=[none,some 1]) rfl (BlkOk.of rfl rfl rfl rfl (DG.mpr rfl) rfl rfl rfl) (IG (pv 0)) (λ_ _ _ _=>(Ay (i:=0) (show (["number", "c"]:List PySem.Str).Nodup by decide +kernel) rfl li)) (λ_ _ _ _=>((UC X G B).q2 a (pv 0) (pv 1)))))))
theorem tM:J' P w mg base 4 "p_split" ["P", "Q"] J7:=Ao (f:=255) (c:=254) (pm:=P_) (st:=WB) X G λF=>J_ F (yO ) λb a d e=>(AK (C' a ((HC X G B).q1 b (pv 0))) (AK (C' a ((HC X G B).q1 b (pv 1))) (AK (C' a (xI Aa (pv 2))) (AK (C' a (xI Aa (pv 2))) (AK (C' a (BT Am (xI Aa (pv 3)) (CP CQ AE) (λ_ _=>rfl))) (AK (C' a (AG Ga (Bi (AD (BI (AD AE (AD AE AN))) AN)) (A4 (IO rfl) rfl B.max IN (AD (AG Br (AG BY (A4 DW rfl B.len BR (AD (pv 0) AN)) (A4 DW rfl B.len BR (AD (pv 1) AN))) AE) (AD AE AN))))) (AK (EW PassesOwn.never (cR Nc (A4 CS rfl B.len BR (AD (pv 4) AN)) (A4 DW rfl B.len BR (AD (pv 1) AN))) (AK (C' a (AG BY (A4 CS rfl B.len BR (AD (pv 4) AN)) (A4 DW rfl B.len BR (AD (pv 1) AN)))) (AK (IF ((Cy X G B).q2 b (AG BJ (BT Am (pv 4) (CP CQ AE) (λ_ _=>rfl)) (xI Aa (pv 3))) (AG BJ (pv 5) (pv 6))) (Kw (pv 7) (pv 8) GV)) (AK (C' a ((HB X G B).q2 b (BT Am (pv 4) (CP CQ AE) (λ_ _=>rfl)) (pv 6))) (AK (C' a ((UA X G B).pe b ∅ rfl (AD (pv 4) (AD (AG E6 (pv 6) (pv 9)) (AD (xI Aa (pv 3)) (AD (AG E6 (BT Am (pv 4) (CP CQ AE) (λ_ _=>rfl)) (pv 9)) (AD (pv 8) AN))))))) (AK (EV (i:=5) a rfl li (AG E6 (pv 6) (pv 9)) JZ) (AK (C' a ((T9 X G B).q2 b (pv 4) (pv 5))) (AK (C' a ((T7 X G B).q2 b (pv 4) (pv 10))) (AS (EV (i:=5) a rfl li (pv 10) Xz)))))))))) (AS (Ac (BI (AD ((Df X G B).q1 b (pv 7)) (AD ((Ko X G B).q2 b (pv 4) (pv 5)) AN))))))))))))
theorem tO:J' P w mg base 4 "monic" ["P"] MD:=Ao (f:=260) (c:=259) (pm:=P_) (st:=WC) X G λF=>J_ F (wQ ) λa b d e=>(AS (Ac (HJ LD rfl B.tuple JY (AD (DY (N:=["number", "P"]) (capt:=[none,some 0]) rfl (BlkOk.of rfl rfl rfl rfl (DG.mpr rfl) rfl rfl rfl) (IG (pv 0)) (λ_ _ _ _=>(Ay (i:=0) (show (["number", "P"]:List PySem.Str).Nodup by decide +kernel) rfl li)) (λ_ _ _ _=>((UD X G B).q2 a (pv 0) (BT Aa (pv 1) (CP CQ AE) (λ_ _=>rfl))))) AN))))
theorem Hz:J' P w mg base 4 "p_slope" ["P"] EO:=Ao (f:=272) (c:=271) (pm:=P_) (st:=WE) X G λF=>J_ F (xG ) λa b d e=>(AS (Ac (HJ LD rfl B.tuple JY (AD (DY (N:=["place", "P"]) (capt:=[none,some 0]) rfl (BlkOk.of rfl rfl rfl rfl (DG.mpr rfl) rfl rfl rfl) (JQ rfl B.range (AD AE (AD (A4 DW rfl B.len BR (AD (pv 0) AN)) AN))) (λ_ _ _ _=>(Ay (i:=0) (show (["place", "P"]:List PySem.Str).Nodup by decide +kernel) rfl li)) (λ_ _ _ _=>((UC X G B).q2 a (BT Aa (pv 1) (pv 0) (λ_ _=>rfl)) (BI (AD (pv 0) (AD AE AN)))))) AN))))
theorem UF:J' P w mg base 4 "p_power" ["P", "n"] KG:=Ao (f:=279) (c:=278) (pm:=P_) (st:=WF) X G λF=>J_ F (wO ) λa b d e=>(AK (Bh (cR C6 (pv 1) AE) (AS (Ac (BI (AD (BI (AD AE (AD AE AN))) AN)))) Bp) (AK (C' b ((HC X G B).q1 a (pv 0))) (AK (C' b AE) (AK (EW PassesOwn.never (PW.pt (GN (cR GT (pv 3) (A4 DW rfl B.len BR (AD (pv 0) AN))) (GK (cR C6 (BT Am (xI Aa (pv 2)) (pv 3) (λ_ _=>rfl)) AE)))) (AS (EV (i:=3) b rfl li AE Kz))) (AK (Bh (cR C6 (pv 3) (A4 DW rfl B.len BR (AD (pv 0) AN))) (AS (Ac (BI AN))) Bp) (AS (Ac ((Ko X G B).q2 a (AG JW (AG Ga (Bi (AD AE AN)) (AG BJ (pv 3) (pv 1))) ((tF X G B).q2 a (EY E4 (xI Aa (pv 2)) (Dx (pv 3)) Ff) (pv 1))) ((NF X G B).q2 a (xI Aa (pv 2)) (pv 1))))))))))
theorem tP:J' P w mg base 5 "strand_euclid" ["strand", "other"] Ii:=Ao (f:=96) (c:=95) (pm:=L') (st:=Vk) X G λF=>J_ F (zV ) λb a d e=>(AK (EW PassesOwn.never (Fk (xI Am (pv 1)) (λ_=>rfl)) (AK (Bh (cR C6 (A4 CS rfl B.len BR (AD (xI Am (pv 1)) AN)) AE) (AS (Ac (pv 1))) Bp) (AK (C' a ((tK X G B).q2 b (pv 0) (pv 1))) (AK (C' a (pv 1)) (AS (C' a (pv 2))))))) (AS (Ac (pv 0))))
theorem tQ:J' P w mg base 5 "euclid_modulo" ["row", "other", "prime"] J2:=Ao (f:=141) (c:=140) (pm:=L') (st:=Vr) X G λF=>J_ F (zL ) λa b d e=>(AK (C' b ((NI X G B).q2 a ((NH X G B).q2 a (pv 0) (pv 2)) (pv 2))) (AK (C' b ((NI X G B).q2 a ((NH X G B).q2 a (pv 1) (pv 2)) (pv 2))) (AK (EW PassesOwn.never (Fk (pv 1) (λ_=>rfl)) (AK (C' b ((tL X G B).q3 a (pv 0) (pv 1) (pv 2))) (AK (C' b (pv 1)) (AS (C' b ((NI X G B).q2 a (pv 3) (pv 2))))))) (AS (Ac (pv 0))))))
theorem tR:J' P w mg base 5 "evened" ["P", "Q"] KD:=Ao (f:=293) (c:=292) (pm:=af) (st:=WH) X G λF=>J_ F (yZ ) λa b d e=>(AK (C' b ((UD X G B).q2 a (BI (AD AE (AD AE AN))) (BT Aa (pv 1) (CP CQ AE) (λ_ _=>rfl)))) (AS (Ac (BI (AD ((Kq X G B).q2 a (pv 0) (pv 2)) (AD ((Kq X G B).q2 a (pv 1) (pv 2)) AN))))))
theorem Eo:J' P w mg base 5 "quotient" ["P", "Q"] Db:=Ao (f:=300) (c:=299) (pm:=af) (st:=WI) X G λF=>J_ F (yV ) λa b d e=>(AS (Ac (xI Aa ((tM X G B).q2 a (pv 0) (pv 1)))))
theorem tS:J' P w mg base 6 "common_by_prime" ["row", "other", "prime"] J4:=Ao (f:=153) (c:=152) (pm:=L') (st:=Vt) X G λF=>J_ F (yC ) λa b d e=>(AK (Ex (i:=3) b rfl (Or.inr rfl) ((HB X G B).q2 a (BT Am (pv 0) (CP CQ AE) (λ_ _=>rfl)) (BT Am (pv 1) (CP CQ AE) (λ_ _=>rfl)))) (AK (Bh (cR C6 (AG BH (pv 3) (pv 2)) AE) (AS (Ac FW)) Bp) (AK (C' b ((tQ X G B).q3 a (pv 0) (pv 1) (pv 2))) (AK (C' b ((NK X G B).q1 a (DY (N:=["whole", "prime", "lead"]) (capt:=[none,some 2,some 3]) rfl (BlkOk.of rfl rfl rfl rfl (List.forall_mem_cons.mpr ⟨rfl,(DG.mpr rfl)⟩) rfl rfl rfl) (DV (pv 4)) (λ_ _ _ _=>(Ay (i:=0) (show (["whole", "prime", "lead"]:List PySem.Str).Nodup by decide +kernel) rfl li)) (λ_ _ _ _=>((uZ X G B).q2 a (AG BJ (pv 2) (pv 0)) (pv 1)))))) (AK (Bh (PW.pt (IC (cR Nd ((T8 X G B).q2 a (pv 0) (pv 5)) FW) (JL (cR Nd ((T8 X G B).q2 a (pv 1) (pv 5)) FW)))) (AS (Ac FW)) Bp) (AS (Ac (pv 5))))))))
theorem tT:J' P w mg base 7 "row_common" ["row", "other"] J5:=Ao (f:=160) (c:=159) (pm:=L') (st:=Vu) X G λF=>J_ F (yH B.xEXPONENTS ) λa b d e=>(AK (C' b ((NK X G B).q1 a (pv 0))) (AK (C' b ((NK X G B).q1 a (pv 1))) (AK (Bh (PW.pt (GN (Fk (pv 0) (λ_=>rfl)) (GK (Fk (pv 1) (λ_=>rfl))))) (AS (Cp PassesOwn.never rfl (IG (US rfl B.EXPONENTS rfl)) (Ay (i:=4) b rfl li) (AK (C' b ((tS X G B).q3 a (pv 2) (pv 3) (AG BY ((NF X G B).q2 a AE (pv 4)) AE))) (AS (Bh (cR Uo (pv 5) FW) (AS (Ac (pv 5))) Bp))))) Bp) (AS (Ac (xI Am ((tP X G B).q2 a (Bi (AD (pv 2) AN)) (Bi (AD (pv 3) AN)))))))))
theorem HD:J' P w mg base 8 "common" ["P", "Q"] Dn:=Ao (f:=267) (c:=266) (pm:=P_) (st:=WD) X G λF=>J_ F (yJ ) λa b d e=>(AK (C' b ((tT X G B).q2 a (xI Aa ((HC X G B).q1 a (pv 0))) (xI Aa ((HC X G B).q1 a (pv 1))))) (AS (Ac (JN (Fk (pv 2) (λ_=>rfl)) ((Ko X G B).q2 a (pv 2) (BT Am (pv 2) (CP CQ AE) (λ_ _=>rfl))) (BI AN)))))
theorem FR:J' P w mg base 9 "fraction" ["P", "Q"] Do:=Ao (f:=286) (c:=285) (pm:=af) (st:=WG) X G λF=>J_ F (xQ ) λa b d e=>(AK (C' b ((HD X G B).q2 a (pv 0) (pv 1))) (AS (Ac ((tR X G B).q2 a ((Eo X G B).q2 a (pv 0) (pv 2)) ((Eo X G B).q2 a (pv 1) (pv 2))))))
theorem IA:J' P w mg base 9 "f_plus" ["F", "G"] F0:=Ao (f:=314) (c:=313) (pm:=af) (st:=WK) X G λF=>J_ F (xX ) λa b d e=>(AK (C' b ((HD X G B).q2 a (xI Aa (pv 0)) (xI Aa (pv 1)))) (AK (C' b ((Eo X G B).q2 a (xI Aa (pv 1)) (pv 2))) (AK (C' b ((UE X G B).q2 a ((DS X G B).q2 a (xI Aa (pv 0)) (pv 3)) ((DS X G B).q2 a (xI Aa (pv 1)) ((Eo X G B).q2 a (xI Aa (pv 0)) (pv 2))))) (AK (C' b ((HD X G B).q2 a (pv 4) (pv 2))) (AS (Ac (BI (AD ((Eo X G B).q2 a (pv 4) (pv 5)) (AD ((Eo X G B).q2 a ((DS X G B).q2 a (xI Aa (pv 0)) (pv 3)) (pv 5)) AN)))))))))
theorem tU:J' P w mg base 9 "f_slope" ["F"] MC:=Ao (f:=335) (c:=334) (pm:=af) (st:=WN) X G λF=>J_ F (wA ) λa b d e=>(AK (C' b ((Hz X G B).q1 a (xI Aa (pv 0)))) (AK (C' b ((HD X G B).q2 a (xI Aa (pv 0)) (pv 1))) (AK (C' b ((Eo X G B).q2 a (xI Aa (pv 0)) (pv 2))) (AK (C' b ((NL X G B).q2 a ((DS X G B).q2 a ((Hz X G B).q1 a (xI Aa (pv 0))) (pv 3)) ((DS X G B).q2 a (xI Aa (pv 0)) ((Eo X G B).q2 a (pv 1) (pv 2))))) (AS (Ac (BI (AD (pv 4) (AD ((DS X G B).q2 a (xI Aa (pv 0)) (pv 3)) AN)))))))))
theorem UG:J' P w mg base 10 "f_minus" ["F", "G"] KE:=Ao (f:=321) (c:=320) (pm:=af) (st:=WL) X G λF=>J_ F (xY ) λa b d e=>(AS (Ac ((IA X G B).q2 a (pv 0) (BI (AD ((NL X G B).q2 a (BI AN) (xI Aa (pv 1))) (AD (xI Aa (pv 1)) AN))))))
theorem NM:J' P w mg base 10 "f_times" ["F", "G"] HY:=Ao (f:=328) (c:=327) (pm:=af) (st:=WM) X G λF=>J_ F (xU ) λa b d e=>(AK (C' b ((FR X G B).q2 a (xI Aa (pv 0)) (xI Aa (pv 1)))) (AK (C' b ((FR X G B).q2 a (xI Aa (pv 1)) (xI Aa (pv 0)))) (AS (Ac (BI (AD ((DS X G B).q2 a (xI Aa (pv 2)) (xI Aa (pv 3))) (AD ((DS X G B).q2 a (xI Aa (pv 2)) (xI Aa (pv 3))) AN)))))))
theorem tV:J' P w mg base 10 "_law_piece" ["_law_v", "_law_e"] MF:=Ao (f:=377) (c:=376) (pm:=Y_) (st:=WT) X G λF=>J_ F (vU ) λa b d e=>(AK (C' b (AG Br AE (AG BH (AG CF (pv 1) AE) AE))) (AK (Bh (cR GT (AG BH (pv 1) AE) AE) (AK (C' b (BT Am (Bi (AD ((Cy X G B).q2 a (pv 2) AE) (AD ((Cy X G B).q2 a (pv 2) AE) (AD ((Cy X G B).q2 a (AG BY AE (pv 2)) AE) (AD ((Cy X G B).q2 a (AG BY (AG BJ AE (pv 2)) AE) AE) AN))))) (AG BH (pv 1) AE) (λ_ _=>rfl))) (AS (Ac (BI (AD (pv 3) (AD (pv 0) (AD ((FR X G B).q2 a ((Kq X G B).q2 a ((Hz X G B).q1 a (pv 0)) (pv 3)) (pv 0)) AN))))))) Bp) (AK (Bh (PW.pt (GN (cR C6 (AG BH (pv 1) AE) AE) (GK (cR C6 ((Hv X G B).q1 a (pv 0)) AE)))) (AS (Ac (BI (AD Kv (AD (pv 0) (AD ((FR X G B).q2 a ((Df X G B).q1 a (Bi (AD ((Cy X G B).q2 a (pv 2) AE) AN))) (pv 0)) AN)))))) Bp) (AK (C' b ((FR X G B).q2 a ((Kq X G B).q2 a ((Hz X G B).q1 a (pv 0)) ((Cy X G B).q2 a (AG BY (AG BH (AG CF (pv 1) AE) AE) AE) AE)) (pv 0))) (AS (Ac (BI (AD Kv (AD (pv 0) (AD ((IA X G B).q2 a ((FR X G B).q2 a ((Df X G B).q1 a (Bi (AD ((Cy X G B).q2 a (pv 2) AE) AN))) ((UF X G B).q2 a (pv 0) (AG Br AE (HJ XC rfl B.int W6 (AD (Nf C6 (AG BH (AG CF (pv 1) AE) AE) AE (ai _)) AN))))) (pv 4)) AN))))))))))
theorem tW:J' P w mg base 10 "_law_solution" ["_law_draws_here", "_law_pieces"] MH:=Ao (f:=389) (c:=388) (pm:=Y_) (st:=WV) X G λF=>J_ F (uF ) λa b e d=>(AK (C' b ((Hw X G B).q1 a ((Df X G B).q1 a (Bi (AD ((Hy X G B).q1 a (xI Am (pv 0))) (AD ((Hy X G B).q1 a (xI Am (pv 0))) AN)))))) (AK (Bh (cR C6 (AG BH (AG CF (xI Am (pv 0)) AE) AE) AE) (AS (C' b ((IA X G B).q2 a (pv 2) ((Hw X G B).q1 a ((Df X G B).q1 a (AG JW (AG Ga (Bi (AD (BI (AD AE (AD AE AN))) AN)) (AG Br AE (AG BH (AG CF (xI Am (pv 0)) AE) AE))) (Bi (AD (BI (AD AE (AD AE AN))) AN)))))))) Bp) (AK (Cp PassesOwn.never rfl (Jc rfl B.enumerate (AD (AG JW (pv 1) (Bi (AD (BI (AD Kv (AD ((NJ X G B).q1 a (xI Am (pv 0))) (AD FW AN)))) AN))) AN)) (E5 rfl (CV (Ay (i:=3) b rfl li) (CV (E5 rfl (CV (Ay (i:=4) b rfl li) (CV (Ay (i:=5) b rfl li) (CV (Ay (i:=6) b rfl li) Ew)))) Ew))) (AK (C' b (BT Am (pv 0) (AG Br AE (pv 3)) (λ_ _=>rfl))) (AS (Bh (cR Fe (AG BH (pv 7) AE) AE) (AK (C' b (AG Br AE (AG BH (AG CF (pv 7) AE) AE))) (AK (Bh (PW.pt (GN (K0 (YC d) (pv 4) (Bi (AD (BI (AD AE (AD AE AN))) (AD (BI (AD AE (AD AE AN))) (AD (BI (AD AE (AD AE AN))) AN)))) rfl) (GK (cR C6 (AG BH (AG CF (pv 7) AE) AE) AE)))) (AS (C' b (xI Aa (pv 4)))) Bp) (AS (Bh (cR GT (AG Br ((Hv X G B).q1 a (xI Aa (pv 2))) (AG BJ (pv 8) ((Hv X G B).q1 a (pv 5)))) AE) (AS (C' b ((IA X G B).q2 a (pv 2) ((FR X G B).q2 a ((Df X G B).q1 a (Bi (AD ((Hy X G B).q1 a (AG CF (pv 7) AE)) AN))) ((UF X G B).q2 a (pv 5) (pv 8)))))) Bp)))) Bp)))) (AS (Ac (pv 2))))))
theorem tZ:J' P w mg base 11 "reduced" ["f", "g", "T"] MI:=Ao (f:=342) (c:=341) (pm:=mo4) (st:=WO) X G λF=>J_ F (uI ) λa b d e=>(AK (C' b ((UG X G B).q2 a (pv 0) ((FR X G B).q2 a ((Hz X G B).q1 a (pv 2)) (pv 2)))) (AK (C' b ((NM X G B).q2 a (pv 1) ((Hw X G B).q1 a (pv 2)))) (AK (C' b ((HD X G B).q2 a (xI Aa (pv 3)) (xI Aa (pv 4)))) (AK (C' b ((Eo X G B).q2 a (xI Aa (pv 4)) (pv 5))) (AS (Ac (BI (AD ((DS X G B).q2 a (xI Aa (pv 3)) (pv 6)) (AD ((DS X G B).q2 a (xI Aa (pv 3)) (pv 6)) (AD ((DS X G B).q2 a (xI Aa (pv 4)) ((Eo X G B).q2 a (xI Aa (pv 3)) (pv 5))) AN))))))))))
theorem sA:J' P w mg base 11 "_law_equation" ["_law_draws_here", "_law_room"] MG:=Ao (f:=382) (c:=381) (pm:=Y_) (st:=WU) X G λF=>J_ F (uA ) λa b e d=>(AK (C' b (Bi AN)) (AK (C' b ((Hw X G B).q1 a ((Df X G B).q1 a (EY E4 (Bi (AD ((Hy X G B).q1 a (xI Am (pv 0))) (AD ((Hy X G B).q1 a (xI Am (pv 0))) AN))) Ff (Dx (AG BH (xI Am (pv 0)) AE)))))) (AK (C' b (EY E4 (Bi (AD (BI (AD (xI Am (pv 0)) (AD (xI Am (pv 0)) AN))) (AD (BI (AD (xI Am (pv 0)) (AD (xI Am (pv 0)) AN))) AN))) Ff (Dx (AG BH (AG CF (xI Am (pv 0)) AE) AE)))) (AK (Bh (cR C6 (AG BH (AG CF (xI Am (pv 0)) AE) AE) AE) (AS (LM (i:=4) (N:=["_law_k", "_law_draws_here"]) (capt:=[none,some 0]) b rfl li rfl (BlkOk.of rfl rfl rfl rfl (DG.mpr rfl) rfl rfl rfl) (JQ rfl B.range (AD AE (AD AE AN))) (λ_ _ _ _=>(Ay (i:=0) (show (["_law_k", "_law_draws_here"]:List PySem.Str).Nodup by decide +kernel) rfl li)) (λ_ _ _ _=>(BI (AD (AG BJ (AG CF (BT Am (pv 1) (pv 0) (λ_ _=>rfl)) AE) AE) (AD (AG BH (BT Am (pv 1) (AG Br (pv 0) AE) (λ_ _=>rfl)) AE) AN)))))) Bp) (AK (Cp PassesOwn.never rfl (DV (pv 4)) (E5 rfl (CV (Ay (i:=5) b rfl li) (CV (Ay (i:=6) b rfl li) Ew))) (AK (C' b ((tV X G B).q2 a ((NJ X G B).q1 a (pv 5)) (pv 6))) (AS (Bh (PW.pt (GN (cR GT (AG Br ((Hv X G B).q1 a (xI Aa (pv 3))) ((Hv X G B).q1 a (xI Aa (xI Aa (pv 7))))) (pv 1)) (GK (K0 (X7 d) (xI Aa (pv 7)) (DY (N:=["_law_one"]) (capt:=[none]) rfl (BlkOk.of rfl rfl rfl rfl (λ_ h=>nomatch h) rfl rfl rfl) (DV (pv 2)) (λ_ _ _ _=>(Ay (i:=0) (show (["_law_one"]:List PySem.Str).Nodup by decide +kernel) rfl li)) (λ_ _ _ _=>(xI Aa (pv 0)))) rfl)))) (AK (ID (IJ PySem.F.plainAttrs_list PySem.F.slot_list_append PySem.F.type_list_append JV (pv 2) (AD (pv 7) AN))) (AS (C' b ((IA X G B).q2 a (pv 3) (xI Aa (pv 7)))))) Bp)))) (AS (Ac (BI (AD (pv 3) (AD (pv 2) AN))))))))))
theorem UH:J' P w mg base 11 "_law_left" ["_law_f", "_law_y"] KI:=Ao (f:=396) (c:=395) (pm:=Y_) (st:=WW) X G λF=>J_ F (uG ) λa b d e=>(AS (Ac ((IA X G B).q2 a ((tU X G B).q1 a (pv 1)) ((NM X G B).q2 a (pv 0) (pv 1)))))
end
def all_mk {l:W.OpenLaw} {w:World} {h:Heap} {k:cW} {p:Addr} (X:(hp w.params).In h) (G:h.Ns mainGlobals k) (m:k "law" = some (.ref p))
  : ∃ q:FuncData,(∀ (s:Shared) (v:Value),BindsTo s q ⟨[v],[]⟩ [("_law_script", v)])/\∀ j:Heap,(hp w.params).In j->j.Ns mainGlobals k->FnOk l.prog w (hp w.params) k j aE 12 p q ["_law_script"] (Jw (hp w.params)):=by
 have e:=m.symm.trans (W.mg_of X G (n := "law") (v:=.ref 401) (by kernel_rfl));cases e;have a:Gk (hp w.params)=15:=by kernel_rfl
 have d:∀ H:Hp,SqT (hp w.params) H (Gk (hp w.params)) (exps.map λe:Nat=>V.int (e:Int)):=λH=>.inr ⟨_,_,_,(show (hp w.params).lookup (Gk (hp w.params))=some ⟨.type "tuple", none,.seq #[(.int 61 189),(.int 127 190),(.int 521 191),(.int 1279 192),(.int 4423 193),(.int 9941 194),(.int 21701 195),(.int 44497 196)] 0,#[]⟩ by rw [a];kernel_rfl),rfl,rfl,by show 8<=sizeLine;rw [sizeLine_eq];decide,.cons ⟨_,rfl⟩ (.cons ⟨_,rfl⟩ (.cons ⟨_,rfl⟩ (.cons ⟨_,rfl⟩ (.cons ⟨_,rfl⟩ (.cons ⟨_,rfl⟩ (.cons ⟨_,rfl⟩ (.cons ⟨_,rfl⟩ (.nil))))))))⟩;have B:Bl (hp w.params) k:=⟨W.mg_none_of X G (by kernel_rfl),W.mg_none_of X G (by kernel_rfl),W.mg_none_of X G (by kernel_rfl),W.mg_none_of X G (by kernel_rfl),W.mg_none_of X G (by kernel_rfl),W.mg_none_of X G (by kernel_rfl),W.mg_none_of X G (by kernel_rfl),W.mg_none_of X G (by kernel_rfl),W.mg_none_of X G (by kernel_rfl),by rw [a];exact W.mg_of X G (by kernel_rfl),W.mg_none_of X G (by kernel_rfl),W.mg_none_of X G (by kernel_rfl),W.mg_none_of X G (by kernel_rfl),d⟩;have r:=NE (K:=hp w.params) (st:=JX) (f:=401) (c:=400) (n := "law") (pm:=Y_) (by kernel_rfl) (by kernel_rfl) (by kernel_rfl);refine ⟨W.fnOf "law" "law" (EZ JX) (Dz JX) (Ch JX) .none .none .none Y_ none (.ref 400) .none,λs v=>.of_eq rfl,λj KB _=>?_⟩;exact J_ r (uS ) λb g u o=>(AK (C' g ((tG X G B).q2 b (pv 0) AE)) (AK (IF ((sA X G B).q2 b (pv 1) AE) (E5 rfl (CV (Ay (i:=2) g rfl li) (CV (Ay (i:=3) g rfl li) Ew)))) (AK (C' g ((tW X G B).q2 b (pv 1) (pv 3))) (AK (Bh (cR C6 (AG BH (xI Am (pv 1)) AE) AE) (AS (C' g ((UH X G B).q2 b (pv 2) (pv 4)))) Bp) (AK (C' g (BI (AD (BI (AD AE (AD AE AN))) AN))) (AK (Cp PassesOwn.never rfl (DV (EY E4 (pv 1) (Dx AE) (Dx (AG Br AE (AG BH (AG CF (xI Am (pv 1)) AE) AE))))) (Ay (i:=6) g rfl li) (AS (C' g ((DS X G B).q2 b (pv 5) ((NJ X G B).q1 b (pv 6)))))) (AK (C' g ((Df X G B).q1 b (DY (N:=["_law_d"]) (capt:=[none]) rfl (BlkOk.of rfl rfl rfl rfl (λ_ h=>nomatch h) rfl rfl rfl) (DV (EY E4 (pv 1) (Dx AE) (Dx AE))) (λ_ _ _ _=>(Ay (i:=0) (show (["_law_d"]:List PySem.Str).Nodup by decide +kernel) rfl li)) (λ_ _ _ _=>((Hy X G B).q1 b (pv 0)))))) (AK (C' g ((tZ X G B).q3 b (pv 2) (pv 4) (pv 5))) (AK (Bh (PW.pt (IC (JM (NU (A4 XT rfl B.isinstance W5 (AD (pv 8) (AD (UT rfl B.tuple JY rfl) AN))))) (JL (cR Fc (A4 DW rfl B.len BR (AD (pv 8) AN)) AE)))) (AS (Ac NS)) Bp) (AK (IF (pv 8) (E5 rfl (CV (Ay (i:=9) g rfl li) (CV (Ay (i:=10) g rfl li) (CV (Ay (i:=11) g rfl li) Ew))))) (AK (Bh (PW.pt (IC (cR (OD o) (pv 9) (BI AN)) (IC (cR (Xf o) ((tO X G B).q1 b (pv 9)) (pv 9)) (JL (cR Fe ((Hv X G B).q1 b ((HD X G B).q2 b (pv 9) ((HD X G B).q2 b (pv 10) (pv 11)))) AE))))) (AS (Ac NS)) Bp) (AK (C' g ((FR X G B).q2 b (pv 7) (pv 5))) (AK (C' g ((UG X G B).q2 b ((UH X G B).q2 b (pv 2) (pv 12)) (pv 4))) (AK (C' g ((NL X G B).q2 b ((UE X G B).q2 b ((DS X G B).q2 b (pv 9) ((Hz X G B).q1 b (pv 7))) ((DS X G B).q2 b (pv 10) (pv 7))) (pv 11))) (AS (Ac (Nf (OD o) ((NM X G B).q2 b (pv 13) ((Hw X G B).q1 b ((DS X G B).q2 b (pv 9) (pv 5)))) ((Hw X G B).q1 b (pv 14)) (ai _))))))))))))))))))
def row_said {l:W.OpenLaw} (h:l.wellSaid=true):l.row.wellSaid=true:=by
 unfold W.OpenLaw.wellSaid at h;simp only [Bool.and_eq_true] at h;exact h.1.1.1.1.1.1.1.1.1.1.1.1.1.1.1.1.1.1
def walk {l:W.OpenLaw} {q:Program} {loose:c_} {XP:(cW)->Heap->Prop} {YP:World->Heap->Prop} {d:DefRec} {K:Params->W.Frag} (j:l.most=some 63) (e:d.params.defaults=[]) (m:importsNone q=true) (o:∀ w,(model l.prog w).prog.given.tree=none)
  (p:∀ (w:World) (h:Heap),YP w h->(K w.params).In h)
  (F:∀ (w:World) (c:cW) (g:Addr) (h:Heap),(K w.params).In h->h.Ns mainGlobals c->c d.name=some (.ref g)->
   ∃ i:FuncData,(∀ (s:Shared) (u:Value),BindsTo s i ⟨[u],[]⟩ [("_law_script", u)])/\∀ b:Heap,(K w.params).In b->b.Ns mainGlobals c->FnOk l.prog w (K w.params) c b aE 12 g i ["_law_script"] (Jw (K w.params))) :
  W.WalkO q loose XP YP l.row.toRowW d [] (λf r=>PySem.call f r):=
 L2.walk_of (n:=63) (k:=12) (x := "_law_script") (CX:=λ_=>aE) (sp:=λw=>Jw (K w.params)) j ∅ e m o ⟨rfl,∅,∅⟩ p F (λ_ _ a v y _ A=>⟨a,v,rfl,A,y,λ_=>rfl⟩) λ_ _ _ _ _ z=>z
end Bs
open PySem PySem.W PyProof.Rows
set_option maxRecDepth 100000 in
set_option maxHeartbeats 0 in
theorem PySem.Challenge.cw_backslope_k63_reduced_holds : PySem.Challenge.rw_backslope_k63_reduced.Holds := by
  have a : PySem.Challenge.rw_backslope_k63_reduced.wellSaid = true := Bs.Hd.sd;refine ⟨a, ?_⟩;refine W.holds_open (q := Bs.Hd.vw) (loose := Bs.Hd.lo) (Xt := fun s => W.xlAt Bs.Hd.vw [] s && W.recOk (W.RowW.records (W.OpenRow.toRowW (W.OpenLaw.row PySem.Challenge.rw_backslope_k63_reduced))) s) (XP := W.XL Bs.Hd.vw []) (Yf := Bs.Hd.hk.obs) (Ya := Bs.Hd.hk.val) (YP := Bs.Hd.hk.says) (N := 3898) Bs.Hd.left Bs.Hd.hk.of Bs.Hd.hk.keeps (fun s e => W.xl_of s (Bool.and_eq_true_iff.mp e).1) W.XL.keeps (by rfl) (by rfl) (by rfl) (fun s e => W.recFacts_of (Bool.and_eq_true_iff.mp e).2) (by rfl) (Bs.row_said a) (by decide +kernel) ⟨rfl, rfl, rfl, rfl, rfl, by decide +kernel⟩ ?hw ?hc
  case hw => w_witness2
  case hc => exact Bs.walk (l := PySem.Challenge.rw_backslope_k63_reduced) (K := Bs.Hd.hp) rfl rfl (by decide +kernel) (fun _ => rfl) (fun w h Y => Y) (fun w d f h c G b => Bs.all_mk c G b)
#print axioms PySem.Challenge.cw_backslope_k63_reduced_holds

