import PyProof.Rows.All
import Wide.All
import OpenK.AllK
import Wide.FinOn
import Lean
import PyProof.EqAt
import PyProof.EqKinds
import PyProof.TupleCall
import PySem.Challenge.RW_backslope_k31_forms_settled
local macro_rules | `(()) => `(by grind)
local macro_rules | `(tactic| ext) => `(tactic| grind)
local macro_rules | `(⋯) => `(by omega)
local macro_rules | `(∅) => `(by decide)
set_option Elab.async false
set_option linter.all false
set_option maxRecDepth 100000
def nU:type_of% @if_neg:=@if_neg
def nV:type_of% @if_pos:=@if_pos
def nW:type_of% @decide_eq_true:=@decide_eq_true
def nX:type_of% @of_decide_eq_true:=@of_decide_eq_true
def nY:type_of% @decide_eq_false:=@decide_eq_false
def nZ:type_of% @of_decide_eq_false:=@of_decide_eq_false
def mC:type_of% @PySem.wpAny_bind:=@PySem.wpAny_bind
def mD:type_of% @PySem.wpAny_pure:=@PySem.wpAny_pure
def mE:type_of% @PySem.wpAny_mono:=@PySem.wpAny_mono
def mF:type_of% @Option.some.inj:=@Option.some.inj
def mG:type_of% @PySem.Heap.lt_size:=@PySem.Heap.lt_size
def mH:type_of% @congrFun:=@congrFun
def AJ:type_of% @List.length_map:=@List.length_map
def AQ:type_of% @List.getD_eq_getElem?_getD:=@List.getD_eq_getElem?_getD
def AR:type_of% @Nat.le_refl:=@Nat.le_refl
def AV:type_of% @Int.ne_of_gt:=@Int.ne_of_gt
def AX:type_of% @List.mem_map:=@List.mem_map
def AZ:type_of% @List.getElem?_eq_getElem:=@List.getElem?_eq_getElem
def Ac:type_of% @List.getElem?_map:=@List.getElem?_map
def Ae:type_of% @Nat.zero_le:=@Nat.zero_le
def Au:type_of% @List.mem_cons_self:=@List.mem_cons_self
def Aw:type_of% @List.mem_singleton:=@List.mem_singleton
def A3:type_of% @List.mem_cons_of_mem:=@List.mem_cons_of_mem
def A4:type_of% @List.mem_of_getElem?:=@List.mem_of_getElem?
def A5:type_of% @Nat.lt_or_ge:=@Nat.lt_or_ge
def BI:type_of% @Nat.ne_of_lt:=@Nat.ne_of_lt
def BJ:type_of% @List.size_toArray:=@List.size_toArray
def BK:type_of% @List.getElem?_eq_some_iff:=@List.getElem?_eq_some_iff
def BL:type_of% @List.getElem?_eq_none:=@List.getElem?_eq_none
def Bc:type_of% @List.mem_cons:=@List.mem_cons
def Bg:type_of% @Nat.le_trans:=@Nat.le_trans
def Bm:type_of% @List.length_range:=@List.length_range
def Bp:type_of% @List.length_append:=@List.length_append
def Bx:type_of% @Int.natAbs_mul:=@Int.natAbs_mul
def By:type_of% @List.map_append:=@List.map_append
def B3:type_of% @List.map_map:=@List.map_map
def B4:type_of% @List.length_pos_iff:=@List.length_pos_iff
def B9:type_of% @List.mem_range:=@List.mem_range
def CA:type_of% @List.map_cons:=@List.map_cons
def CB:type_of% @List.length_eq_zero_iff:=@List.length_eq_zero_iff
def CC:type_of% @Int.mul_ne_zero:=@Int.mul_ne_zero
def CF:type_of% @Nat.lt_of_lt_of_le:=@Nat.lt_of_lt_of_le
def CG:type_of% @List.length_take:=@List.length_take
def CM:type_of% @Int.mul_pos:=@Int.mul_pos
def CO:type_of% @List.mem_append:=@List.mem_append
def CP:type_of% @List.length_cons:=@List.length_cons
def CQ:type_of% @List.take_length:=@List.take_length
def CS:type_of% @Int.dvd_trans:=@Int.dvd_trans
def CV:type_of% @Int.emod_nonneg:=@Int.emod_nonneg
def Cc:type_of% @Bool.false_ne_true:=@Bool.false_ne_true
def Cd:type_of% @Int.emod_lt_of_pos:=@Int.emod_lt_of_pos
def Ce:type_of% @List.map_congr_left:=@List.map_congr_left
def Cf:type_of% @Nat.mul_le_mul_right:=@Nat.mul_le_mul_right
def Cj:type_of% @Int.natAbs_natCast:=@Int.natAbs_natCast
def Cr:type_of% @Nat.pow_succ:=@Nat.pow_succ
def Cu:type_of% @Int.dvd_add:=@Int.dvd_add
def Cv:type_of% @Int.dvd_zero:=@Int.dvd_zero
def C4:type_of% @List.mem_append_right:=@List.mem_append_right
def C5:type_of% @Int.natAbs_dvd_natAbs:=@Int.natAbs_dvd_natAbs
def C6:type_of% @List.forall_mem_singleton:=@List.forall_mem_singleton
def DF:type_of% @Nat.lt_irrefl:=@Nat.lt_irrefl
def DG:type_of% @Nat.ne_of_gt:=@Nat.ne_of_gt
def DH:type_of% @List.getElem_mem:=@List.getElem_mem
def DR:type_of% @Nat.eq_zero_or_pos:=@Nat.eq_zero_or_pos
def DS:type_of% @Int.le_of_lt:=@Int.le_of_lt
def DT:type_of% @List.all_eq_true:=@List.all_eq_true
def DU:type_of% @List.getElem?_range:=@List.getElem?_range
def Dh:type_of% @List.nodup_cons:=@List.nodup_cons
def Di:type_of% @Nat.lt_succ_self:=@Nat.lt_succ_self
def Dj:type_of% @Nat.mul_le_mul_left:=@Nat.mul_le_mul_left
def Dt:type_of% @Nat.mul_comm:=@Nat.mul_comm
def Du:type_of% @Nat.lt_of_le_of_lt:=@Nat.lt_of_le_of_lt
def Dv:type_of% @Int.fdiv_eq_ediv_of_nonneg:=@Int.fdiv_eq_ediv_of_nonneg
def Dw:type_of% @Bool.false_eq_true:=@Bool.false_eq_true
def EE:type_of% @List.mem_filter:=@List.mem_filter
def EG:type_of% @Option.map_eq_some_iff:=@Option.map_eq_some_iff
def EH:type_of% @Int.gcd_dvd_right:=@Int.gcd_dvd_right
def EI:type_of% @Int.toNat_natCast:=@Int.toNat_natCast
def EJ:type_of% @List.ext_getElem?:=@List.ext_getElem?
def EK:type_of% @List.pairwise_map:=@List.pairwise_map
def Ea:type_of% @Nat.le_of_dvd:=@Nat.le_of_dvd
def Eb:type_of% @List.pairwise_cons:=@List.pairwise_cons
def E3:type_of% @Bool.eq_iff_iff:=@Bool.eq_iff_iff
def E4:type_of% @Nat.pow_le_pow_right:=@Nat.pow_le_pow_right
def E5:type_of% @Int.gcd_dvd_left:=@Int.gcd_dvd_left
def E6:type_of% @List.getElem_of_mem:=@List.getElem_of_mem
def E7:type_of% @List.range_succ:=@List.range_succ
def E8:type_of% @Rat.inv_mul_cancel:=@Rat.inv_mul_cancel
def FW:type_of% @List.getElem?_replicate:=@List.getElem?_replicate
def FX:type_of% @List.mem_of_mem_take:=@List.mem_of_mem_take
def FY:type_of% @Int.mul_ediv_cancel_left:=@Int.mul_ediv_cancel_left
def FZ:type_of% @Int.dvd_mul_of_dvd_right:=@Int.dvd_mul_of_dvd_right
def F7:type_of% @List.mem_append_left:=@List.mem_append_left
def F8:type_of% @List.getElem?_set_self:=@List.getElem?_set_self
def F9:type_of% @List.getLast?_eq_getElem?:=@List.getLast?_eq_getElem?
def GA:type_of% @Int.mul_ediv_cancel':=@Int.mul_ediv_cancel'
def GC:type_of% @List.take_append_drop:=@List.take_append_drop
def GD:type_of% @List.forall_mem_cons:=@List.forall_mem_cons
def Gp:type_of% @Int.dvd_mul_of_dvd_left:=@Int.dvd_mul_of_dvd_left
def Gs:type_of% @Nat.le_mul_of_pos_left:=@Nat.le_mul_of_pos_left
def Gu:type_of% @List.dropLast_concat_getLast:=@List.dropLast_concat_getLast
def Hu:type_of% @Int.mul_le_mul_of_nonneg_left:=@Int.mul_le_mul_of_nonneg_left
abbrev d8:=List Int
abbrev dc:=List PySem.Value
abbrev de:=PySem.Value->PySem.Shared->Prop
abbrev dh:=List (PySem.Addr×PySem.Obj)
abbrev di:=PySem.Str->Option PySem.Value
abbrev dj:=List PySem.Expr
abbrev dt:=List PySem.Str
abbrev du:=Option PySem.Value
abbrev dw:=List PySem.Addr
abbrev dC:=Nat->Int
abbrev dF:=Nat->Rat
namespace L2
open PySem PySem.Spec PyProof.Rows
noncomputable abbrev D_:=Sum Int Str
noncomputable def Gv:D_->Value->Bool
 | .inl k,v=>Value.isInt k v
 | .inr x,v=>Value.isStrOf x v
noncomputable def Uh (w:World):D_->Int
 | .inl k=>hashInt k
 | .inr x=>hashStr w x
theorem E9:∀ {k:D_} {v:Value},Gv k v=true->(∃ i t,k=Sum.inl i/\v=Value.int i t)\/(∃ x t,k=Sum.inr x/\v=Value.str x t)
 | .inl i,v,h=>by
   obtain ⟨t,e⟩:=Value.isInt_shape (k:=i) (v:=v) h;exact .inl ⟨i,t,rfl,e⟩
 | .inr x,v,h=>by
   obtain ⟨t,e⟩:=Value.isStrOf_shape (x:=x) (v:=v) h;exact .inr ⟨x,t,rfl,e⟩
def Ui (i:Int) (t:Tok):Gv (.inl i) (.int i t)=true:=by simp [Gv,Value.isInt]
def Uj (x:Str) (t:Tok):Gv (.inr x) (.str x t)=true:=by simp [Gv,Value.isStrOf]
def Uk (a b:Int):decide ((Sum.inl a:D_)=Sum.inl b)=(a == b):=by
 by_cases e:a=b
 ·subst e;simp
 ·have h:¬ (Sum.inl a:D_)=Sum.inl b:=λq=>e (Sum.inl.inj q);rw [nY h];exact (beq_eq_false_iff_ne.mpr e).symm
def Ul (a b:Str):decide ((Sum.inr a:D_)=Sum.inr b)=decide (a=b):=by
 by_cases e:a=b
 ·subst e;simp
 ·have h:¬ (Sum.inr a:D_)=Sum.inr b:=λq=>e (Sum.inr.inj q);rw [nY h,nY e]
def Um (a:Int) (b:Str):decide ((Sum.inl a:D_)=Sum.inr b)=false:=nY (λq=>nomatch q)
def Uo (a:Str) (b:Int):decide ((Sum.inr a:D_)=Sum.inl b)=false:=nY (λq=>nomatch q)
noncomputable def Dk (prog:Program) (w:World):PySem.KeyKind prog w D_ where
 is:=Gv
 hash:=Uh w
 inj:=λv a b g f=>by
  rcases E9 g with ⟨i,t,rfl,rfl⟩ | ⟨x,t,rfl,rfl⟩
  ·rcases E9 f with ⟨j,u,rfl,e⟩ | ⟨y,u,rfl,e⟩
   ·injection e with c _;rw [c]
   ·exact nomatch e
  ·rcases E9 f with ⟨j,u,rfl,e⟩ | ⟨y,u,rfl,e⟩
   ·exact nomatch e
   ·injection e with c _;rw [c]
 byValue:=λk v h=>by
  rcases E9 h with ⟨i,t,rfl,rfl⟩ | ⟨x,t,rfl,rfl⟩ <;> rfl
 pyHash:=λd h=>by
  rcases E9 d with ⟨i,t,rfl,rfl⟩ | ⟨x,t,rfl,rfl⟩
  ·exact wpAny_pyHash_int h
  ·exact wpAny_pyHash_str h
 eqBool:=λm d h=>by
  rcases E9 m with ⟨i,t,rfl,rfl⟩ | ⟨x,t,rfl,rfl⟩
  ·rcases E9 d with ⟨j,u,rfl,rfl⟩ | ⟨y,u,rfl,rfl⟩
   ·rw [Uk] at h;exact wpAny_eqBool_int h
   ·rw [Um] at h;exact SeqAt.EqAt.int_str i t y u _ _ _ _ h
  ·rcases E9 d with ⟨j,u,rfl,rfl⟩ | ⟨y,u,rfl,rfl⟩
   ·rw [Uo] at h;exact SeqAt.EqAt.str_int x t j u _ _ _ _ h
   ·rw [Ul] at h;exact wpAny_eqBool_str h
 «strs»:=λk x t v h=>by
  rcases E9 h with ⟨i,u,rfl,e⟩ | ⟨y,u,rfl,e⟩
  ·exact nomatch e
  ·injection e with c _
   subst c
   cases v <;> rfl
def Up (prog:Program) (w:World) (i:Int) (t:Tok):(Dk prog w).is (.inl i) (.int i t)=true:=Ui i t
def Iz (prog:Program) (w:World) (x:Str) (t:Tok):(Dk prog w).is (.inr x) (.str x t)=true:=Uj x t
inductive V where
 | non | bl (b:Bool) | int (i:Int) | str (x:Str) | byt (b:Array UInt8) | flt (b:UInt64) | ref (a:Addr) | ty (n:String)
 deriving DecidableEq
noncomputable def RelV:V->Value->Prop
 | .non,u=>u=Value.none
 | .bl b,u=>u=Value.bool b
 | .int i,u=>∃ t,u=Value.int i t
 | .str x,u=>∃ t,u=Value.str x t
 | .byt b,u=>∃ t,u=Value.bytes b t
 | .flt b,u=>∃ t,u=Value.float b t
 | .ref a,u=>u=Value.ref a
 | .ty n,u=>u=Value.type n
abbrev Vals:List V->dc->Prop:=Paired RelV
def Vals.length {xs:List V} {a:dc} (r:Vals xs a):xs.length=a.length:=Paired.length r
theorem Vals.get:∀ {xs:List V} {a:dc} {i:Nat} {x:V},Vals xs a->xs[i]?=some x->∃ u,a[i]?=some u/\RelV x u
 | _,_,_,_,.nil,e=>by simp at e
 | _,_,0,_,.cons r _,e=>by simp at e;subst e;exact ⟨_,rfl,r⟩
 | _,_,i+1,x,.cons _ t,e=>by
   obtain ⟨u,b,c⟩:=Vals.get (i:=i) (x:=x) t (by simpa using e);exact ⟨u,by simpa using b,c⟩
theorem Vals.set {x:V} {u:Value} (r:RelV x u):∀ {xs:List V} {a:dc} (i:Nat),Vals xs a->Vals (xs.set i x) (a.set i u)
 | _,_,_,.nil=>.nil
 | _,_,0,.cons _ t=>.cons r t
 | _,_,i+1,.cons q t=>.cons q (Vals.set r i t)
theorem Vals.append:∀ {xs a:List V} {b c:dc},Vals xs b->Vals a c->Vals (xs++a) (b++c)
 | _,_,_,_,.nil,s=>s
 | _,_,_,_,.cons r t,s=>.cons r (Vals.append t s)
theorem Vals.take:∀ {xs:List V} {a:dc} (n:Nat),Vals xs a->Vals (xs.take n) (a.take n)
 | _,_,0,_=>.nil
 | _,_,_+1,.nil=>.nil
 | _,_,n+1,.cons r t=>.cons r (Vals.take n t)
theorem Vals.drop:∀ {xs:List V} {a:dc} (n:Nat),Vals xs a->Vals (xs.drop n) (a.drop n)
 | _,_,0,r=>r
 | _,_,_+1,.nil=>.nil
 | _,_,n+1,.cons _ t=>Vals.drop n t
noncomputable def KZ:Option V->du->Prop
 | some v,some u=>RelV v u
 | none,none=>True
 | _,_=>False
def KV {a:Type}:List (a×V)->List (a×Value)->Prop:=Paired λ(p:a×V) (q:a×Value)=>p.1=q.1/\RelV p.2 q.2
noncomputable def kV:D_->V
 | .inl i=>.int i
 | .inr x=>.str x
inductive HO where

 | lst (xs:List V)

 | tup (xs:List V)

 | dK (kvs:List (D_×V)) | dT (kvs:List (List D_×V))

 | set (S:Int->Bool) (n:Nat)

 | ins (C dx:Addr) (fs:List (Str×V))

 | own (x:Addr)

 | xd (fs:List (Str×V))

 | met (f x:Addr)

 | rng (lo hi:Int)

 | frz (o:Obj) (u:HO)

 | tbl (ps:Array Value)

 | ext (φ:Heap->Prop)
noncomputable abbrev Hp:=Addr->Option HO
abbrev d7:=Option V
abbrev c_:=List V
noncomputable def upd (H:Hp) (a:Addr) (o:HO):Hp:=λb=>if b=a then some o else H b
def upd_same {H:Hp} {a:Addr} {o:HO}:upd H a o a=some o:=by unfold upd;rw [nV rfl]
def Ad {H:Hp} {a b:Addr} {o:HO} (h:b≠a):upd H a o b=H b:=by unfold upd;rw [nU h]
def Fb {H:Hp} {a b:Addr} {o u:HO} (h:H a=some o) (h':H b=some u) (d:o≠u):a≠b:=by
 intro e;subst e;rw [h] at h';exact d (mF h')
def BO {H:Hp} {a b:Addr} {o:HO} (h:H a=some o) (h':H b=none):a≠b:=by
 intro e;subst e;rw [h] at h';cases h'
section
variable (P:Program) (w:World)
noncomputable def ObjOk (H:Hp) (h:Heap) (a:Addr):HO->Prop
 | .lst c=>c.length<=sizeLine/\∃ (its:dc) (n:Nat),Vals c its/\h.get? a=some { cls:=.type "list", data:=.seq its.toArray n }
 | .tup c=>c.length<=sizeLine/\∃ its:dc,Vals c its/\IsTup h a its.toArray
 | .dK b=>b.length<=sizeLine/\(a == sysModules)=false/\∃ j,KV b j/\h.DictOf (Dk P w) a j
 | .dT b=>b.length<=sizeLine/\(a == sysModules)=false/\∃ c:List (List D_×Addr×Value),
   Paired (λ(p:List D_×V) (q:List D_×Addr×Value)=>p.1=q.1/\H q.2.1=some (.tup (p.1.map kV))/\RelV p.2 q.2.2) b c/\
   ∃ o k y,h.get? a=some o/\o.ExactDict/\o.data=.dict k y/\k.toList=c.map (entryOfKey (tupleKind (Dk P w)))/\(c.map (·.1)).Nodup
 | .set S n=>h.SetOf (intKind P w) a S n
 | .ins C g e=>H g=some (.own a)/\e.length<=1000/\g≠a/\h.get? a=some (W.instObj C g)/\
   ∃ d,h.Ns1 g d/\(∀ f,KZ (e.lookup f) (d f))/\PySem.Within d (e.map (·.1))
 | .own _=>∃ o,h.get? a=some o
 | .xd e=>∃ d,h.Ns1 a d/\∀ f,KZ (e.lookup f) (d f)
 | .rng z A=>∃ t u v,h.get? a=some { cls:=.type "range", data:=.fields #[.int z t,.int A u,.int 1 v] }
 | .frz o u=>h.get? a=some o/\ObjOk H h a u
 | .tbl ps=>h.get? a=some { cls:=.none,data:=.fields ps }
 | .met f x=>h.get? a=some (W.methodObj (.ref f) (.ref x))
 | .ext i=>i h/\(∃ o,h.get? a=some o)/\∀ m r:Heap,i m->(∀ o,m.get? a=some o->r.get? a=some o)->i r
def HOk (H:Hp) (h:Heap):Prop:=∀ a o,H a=some o->ObjOk P w H h a o
end
section
variable {P:Program} {w:World} {H H':Hp} {h h':Heap} {a:Addr} {o:HO}
theorem ObjOk.lt (x:ObjOk P w H h a o):a<h.objs.size:=by
 cases o with
 | lst c=>obtain ⟨_,_,_,_,e⟩:=x;exact mG e
 | tup c=>obtain ⟨_,_,_,p⟩:=x;exact p.lt
 | dK b=>obtain ⟨_,_,_,_,o,_,_,e,_⟩:=x;exact mG e
 | dT b=>obtain ⟨_,_,_,_,o,_,_,e,_⟩:=x;exact mG e
 | set S n=>obtain ⟨o,_,_,_,e,_⟩:=x;exact mG e
 | ins C g d=>obtain ⟨_,_,_,e,_⟩:=x;exact mG e
 | own y=>obtain ⟨_,e⟩:=x;exact mG e
 | xd d=>obtain ⟨_,⟨_,_,_,e,_⟩,_⟩:=x;exact mG e
 | rng i j=>obtain ⟨_,_,_,e⟩:=x;exact mG e
 | frz k u=>obtain ⟨e,_⟩:=x;exact mG e
 | tbl ps=>exact mG (show h.get? a=some _ from x)
 | met f y=>exact mG (show h.get? a=some _ from x)
 | ext m=>obtain ⟨_,⟨_,e⟩,_⟩:=x;exact mG e
theorem Paired.mapP {e g:Type} {F G:e->g->Prop}:∀ {c:List e} {d:List g},Paired F c d->(∀ a b,F a b->G a b)->Paired G c d
 | _,_,.nil,_=>.nil
 | _,_,.cons r t,f=>.cons (f _ _ r) (Paired.mapP t f)
theorem ObjOk.stay (x:ObjOk P w H h a o) (k:∀ b u,(b=a\/H b=some (.own a))->h.get? b=some u->h'.get? b=some u)
  (G:∀ b,H b=some (.own a)->H' b=some (.own a)) (I:∀ b A,H b=some (.tup A)->H' b=some (.tup A)):ObjOk P w H' h' a o:=by
 induction o with
 | lst A=>obtain ⟨z,m,n,r,e⟩:=x;exact ⟨z,m,n,r,k _ _ (.inl rfl) e⟩
 | tup A=>obtain ⟨z,m,r,g,e,c⟩:=x;exact ⟨z,m,r,g,k _ _ (.inl rfl) e,c⟩
 | dK B=>obtain ⟨z,y,J,r,g,i,j,e,c⟩:=x;exact ⟨z,y,J,r,g,i,j,k _ _ (.inl rfl) e,c⟩
 | dT B=>
   obtain ⟨z,y,A,r,g,i,j,e,c⟩:=x;exact ⟨z,y,A,Paired.mapP r λp q z=>⟨z.1,I _ _ z.2.1,z.2.2⟩,g,i,j,k _ _ (.inl rfl) e,c⟩
 | set S n=>obtain ⟨g,i,j,t,e,c⟩:=x;exact ⟨g,i,j,t,k _ _ (.inl rfl) e,c⟩
 | ins C O K=>
   obtain ⟨d,z,L,e,D,⟨E,i,j,M,c⟩,r⟩:=x;exact ⟨G _ d,z,L,k _ _ (.inl rfl) e,D,⟨E,i,j,k _ _ (.inr d) M,c⟩,r⟩
 | own y=>obtain ⟨g,e⟩:=x;exact ⟨g,k _ _ (.inl rfl) e⟩
 | xd K=>obtain ⟨D,⟨E,i,j,e,c⟩,r⟩:=x;exact ⟨D,⟨E,i,j,k _ _ (.inl rfl) e,c⟩,r⟩
 | rng Q R=>obtain ⟨t,u,v,e⟩:=x;exact ⟨t,u,v,k _ _ (.inl rfl) e⟩
 | frz g u N=>obtain ⟨e,q⟩:=x;exact ⟨k _ _ (.inl rfl) e,N q⟩
 | tbl ps=>
   have e:h.get? a=some { cls:=.none,data:=.fields ps }:=x;show h'.get? a=some { cls:=.none,data:=.fields ps };exact k a _ (.inl rfl) e
 | met f y=>
   have e:h.get? a=some (W.methodObj (.ref f) (.ref y)):=x;show h'.get? a=some (W.methodObj (.ref f) (.ref y));exact k a _ (.inl rfl) e
 | ext T=>obtain ⟨p,⟨o,e⟩,F⟩:=x;exact ⟨F _ _ p λo q=>k _ _ (.inl rfl) q,⟨o,k _ _ (.inl rfl) e⟩,F⟩
def HOk.lt (x:HOk P w H h) (e:H a=some o):a<h.objs.size:=(x a o e).lt
theorem HOk.fresh (x:HOk P w H h) (e:h.objs.size<=a):H a=none:=by
 cases q:H a with
 | none=>rfl
 | some u=>exact absurd (CF (x.lt q) e) (DF _)
def HOk.kept (x:HOk P w H h) (k:∀ b u,h.get? b=some u->h'.get? b=some u):HOk P w H h':=λa o e=>
 (x a o e).stay (λb u _ q=>k b u q) (λ_ q=>q) λ_ _ q=>q
def HOk.laid (x:HOk P w H h) (k:∀ b u,h.get? b=some u->h'.get? b=some u) (hp:h.objs.size<=a) (d:ObjOk P w (upd H a o) h' a o):HOk P w (upd H a o) h':=λb u e=>by
 have f:=x.fresh hp;by_cases g:b=a
 ·subst g;rw [upd_same] at e;cases e;exact d
 ·rw [Ad g] at e;exact (x b u e).stay (λc v _ q=>k c v q) (λc q=>by rw [Ad (BO q f)];exact q) λc i q=>by rw [Ad (BO q f)];exact q
end
def Rd (H:Hp) (a:Addr) (u:HO):Prop:=H a=some u\/∃ o,H a=some (.frz o u)
def Rd.ok {P:Program} {w:World} {H:Hp} {h:Heap} {a:Addr} {u:HO} (r:Rd H a u) (x:HOk P w H h):ObjOk P w H h a u:=by
 rcases r with r | ⟨o,r⟩
 ·exact x a u r
 ·obtain ⟨_,q⟩:=x a _ r;exact q
noncomputable def cx:Option HO->Prop
 | some (.lst _)=>True
 | some (.dK _)=>True
 | some (.dT _)=>True
 | some (.set _ _)=>True
 | some (.ins _ _ _)=>True
 | some (.ext _)=>True
 | _=>False
section
variable {P:Program} {w:World} {H:Hp} {h h':Heap} {x e:Addr} {o':HO}
def HOk.write (ok:HOk P w H h) (g:cx (H x)) (p:e=x\/H e=some (.own x)) (k:∀ b u,b≠e->h.get? b=some u->h'.get? b=some u) (n:∃ u,h'.get? e=some u)
  (o:ObjOk P w (upd H x o') h' x o'):HOk P w (upd H x o') h':=λb u q=>by
 have d:∀ c y,H c=some (.own y)->c≠x:=λc y r z=>by subst z;rw [r] at g;exact g
 have f:∀ c i,H c=some (.tup i)->c≠x:=λc i r z=>by subst z;rw [r] at g;exact g
 by_cases j:b=x
 ·subst j;rw [upd_same] at q;cases q;exact o
 ·rw [Ad j] at q;by_cases a:b=e
  ·have A:H b=some (.own x):=by
    rcases p with z | z
    ·exact absurd (a.trans z) j
    ·rw [a];exact z
   rw [q] at A;cases A;obtain ⟨v,B⟩:=n;exact ⟨v,by rw [a];exact B⟩
  ·refine (ok b u q).stay (λc v m r=>k c v ?_ r) (λc r=>by rw [Ad (d c b r)];exact r) λc i r=>by rw [Ad (f c i r)];exact r
   rcases m with rfl | m
   ·exact a
   ·rintro rfl;rcases p with z | z
    ·exact d c b m z
    ·rw [m] at z;cases z;exact j rfl
end
structure Un (fs ex:dw) (H H':Hp) (h h':Heap):Prop where
 keep:∀ b o,h.get? b=some o->H b=none->b∉fs->b∉ex->h'.get? b=some o
 slot:∀ b o,h.get? b=some o->H b=none->b∈fs->b∉ex->∃ sl,h'.get? b=some { o with slots:=sl }
 free:∀ b o,h.get? b=some o->H b=none->b∉ex->H' b=none
 there:∀ b o,h.get? b=some o->b∉ex->∃ o',h'.get? b=some o'
 tups:∀ b xs,H b=some (.tup xs)->H' b=some (.tup xs)
 frzs:∀ b o u,H b=some (.frz o u)->H' b=some (.frz o u)
 tbls:∀ b ps,H b=some (.tbl ps)->∃ more,H' b=some (.tbl (ps++more))
section
variable {fs fs' ex ex':dw} {H H1 H2:Hp} {h h1 h2 h':Heap} {a x e:Addr} {o:HO}
def Un.any (u:Un fs ex H H1 h h1) {b:Addr} {c:Obj} (q:h.get? b=some c) (n:H b=none) (f:b∉ex):∃ i,h1.get? b=some { c with slots:=i }:=by
 by_cases g:b∈fs
 ·exact u.slot b c q n g f
 ·exact ⟨c.slots,u.keep b c q n g f⟩
def Un.kept (k:∀ b u,h.get? b=some u->h'.get? b=some u):Un fs ex H H h h':=
 ⟨λb c q _ _ _=>k b c q,λb c q _ _ _=>⟨c.slots,k b c q⟩,λ_ _ _ n _=>n,λb c q _=>⟨c,k b c q⟩,λ_ _ q=>q,λ_ _ _ q=>q,λ_ ps q=>⟨#[],by rw [q];simp⟩⟩
def Un.refl:Un fs ex H H h h:=Un.kept λ_ _ q=>q
def Un.laid (k:∀ b u,h.get? b=some u->h'.get? b=some u) (hp:h.objs.size<=a) (c:H a=none):Un fs ex H (upd H a o) h h' where
 keep:=λb u q _ _ _=>k b u q
 slot:=λb u q _ _ _=>⟨u.slots,k b u q⟩
 free:=λb u q n _=>by rw [Ad (BI (CF (mG q) hp))];exact n
 there:=λb u q _=>⟨u,k b u q⟩
 tups:=λb d q=>by rw [Ad (BO q c)];exact q
 frzs:=λb u d q=>by rw [Ad (BO q c)];exact q
 tbls:=λb ps q=>⟨#[],by rw [Ad (BO q c),q];simp⟩
def Un.write (d:cx (H x)) (m:e=x\/H e=some (.own x)) (k:∀ b u,b≠e->h.get? b=some u->h'.get? b=some u) (f:∃ u,h'.get? e=some u):Un fs ex H (upd H x o) h h':=by
 have i:∀ b,H b=none->b≠x:=λb n z=>by subst z;rw [n] at d;exact d
 have j:∀ b,H b=none->b≠e:=λb n z=>by
  subst z;rcases m with r | r
  ·exact i b n r
  ·rw [n] at r;cases r
 have g:∀ b u,H b=some u->¬ cx (some u)->b≠x:=λb u q p z=>by subst z;rw [q] at d;exact p d
 refine ⟨λb u q n _ _=>k b u (j b n) q,λb u q n _ _=>⟨u.slots,k b u (j b n) q⟩,λb u q n _=>by rw [Ad (i b n)];exact n,λb u q _=>?_,
  λb v q=>by rw [Ad (g b _ q λz=>z)];exact q,λb u v q=>by rw [Ad (g b _ q λz=>z)];exact q,λb ps q=>⟨#[],by rw [Ad (g b _ q λz=>z),q];simp⟩⟩
 by_cases c:b=e
 ·subst c;exact f
 ·exact ⟨u,k b u c q⟩
end
noncomputable def cA (h:Heap) (H:Hp):dw:=(List.range h.objs.size).filter λa=>(H a).isSome
noncomputable def Ec (h:Heap) (H:Hp):Heap:=W.hideAll h (cA h H)
def Uq (h:Heap) (H:Hp):(Ec h H).objs.size=h.objs.size:=W.hideAll_size _ _
def Ur {h:Heap} {H:Hp} {b:Addr} {o:Obj} (e:h.get? b=some o) (n:H b=none):(Ec h H).get? b=some o:=
 W.hideAll_get _ e λa=>by
  have q:(H b).isSome=true:=(EE.mp a).2;rw [n] at q;simp at q
theorem Us {h:Heap} {H:Hp} {b:Addr} {o:Obj} (e:(Ec h H).get? b=some o):h.get? b=some o/\H b=none:=by
 have a:h.get? b=some o:=W.of_hideAll (cA h H) e;refine ⟨a,?_⟩;cases q:H b with
 | none=>rfl
 | some x=>
   have c:b∈cA h H:=EE.mpr ⟨B9.mpr (mG a),by simp [q]⟩;have z:(Ec h H).get? b=none:=W.hideAll_none (cA h H) c;rw [z] at e;cases e
noncomputable def Ut (g h:Heap) (L:Addr):dh:=(List.range h.objs.size).filterMap λa=>if a=L\/(g.get? a).isSome=true then none else (h.get? a).map λo=>(a,o)
noncomputable def rest (g h:Heap) (L d:Addr):dh:=(Ut g h L).filter λp=>decide (p.1≠d)
structure Mod (K:W.Frag) (mg:di) (base:Heap):Prop where
 kin:K.In base
 glob:base.Ns mainGlobals mg
 blt:∃ mb,base.Ns builtinsNs mb/\∀ x:Str,x ≠ "__name__" -> mb x=bootBuiltins x
 nolimit:base.NoLimit
structure Cx where
 prog:Program
 w:World
 K:W.Frag
 mg:di
 base:Heap
 A:Around
 N:dt
 s₀:Shared
 H₀:Hp
 env:Env
 outer:List Env
 stack:List Env
 ex:dw
 fn:Str->Bool
 calm:Bool
 pn:dh
 xe:de
noncomputable def ak (l:List Env):dw:=l.filterMap (·.frame)
noncomputable abbrev Cx.fs (X:Cx):dw:=ak X.outer
def bU (a:Scope) (x:Str):Prop:=a.names.lookup x=some .local\/a.names.lookup x=some .cell\/a.names.lookup x=some .free
def aR (a:Scope) (x:Str):Prop:=a.names.lookup x=some .local\/a.names.lookup x=some .cell
def Look (a:Env) (h:Heap) (m:di) (x:Str) (u:Value):Prop:=
 (a.kindOf x=some .local/\m x=some u)\/((a.kindOf x=some .cell\/a.kindOf x=some .free)/\∃ c,a.cells.lookup x=some c/\h.IsCell c (some u))
structure Cx.Ok (X:Cx):Prop where
 mod:Mod X.K X.mg X.base
 kind:X.env.scope.kind=.function
 glob:X.env.globals=mainGlobals
 blt:X.env.builtins=builtinsNs
 above:X.s₀.heap.objs.size<=X.env.locals
 inj:∀ x y c,X.env.cells.lookup x=some c->X.env.cells.lookup y=some c->x=y
 has:∀ x,(X.env.kindOf x=some .cell\/X.env.kindOf x=some .free)->∃ c,X.env.cells.lookup x=some c
 cab:∀ x c,X.fn x=true->X.env.cells.lookup x=some c->X.s₀.heap.objs.size<=c
 hd:X.calm=true->X.A.handled=none
 frames:X.A.frames=some X.stack
 stk:X.stack=X.outer\/(X.stack=X.env::X.outer/\X.env.frame=some X.env.locals)
 exf:∀ b∈X.ex,b≠X.env.locals/\∀ x c,X.env.cells.lookup x=some c->c≠b
 bs:∀ b o,X.base.get? b=some o->X.s₀.heap.get? b=some o/\X.H₀ b=none
 bsz:X.base.objs.size<=X.s₀.heap.objs.size
 noex:∀ b o,X.base.get? b=some o->b∉X.ex
 exfs:∀ b∈X.ex,b∉X.fs
 funs:X.s₀.heap.FunFrames X.base X.outer
 frf:∀ b∈X.fs,X.H₀ b=none
 seer:X.base.NoSeer
 tree:(model X.prog X.w).prog.given.tree=none
 plr:∀ s:Shared,(∀ b o,X.base.get? b=some o->s.heap.get? b=some o)->PySem.PylongRoom (model X.prog X.w) X.A s
structure Inv (X:Cx) (pins:dh) (σ:List (d7)) (H:Hp) (s:Shared):Prop where
 ok:X.Ok
 os:s.os=X.s₀.os
 bare:AllBare s.gens
 base:Un X.fs X.ex X.H₀ H X.s₀.heap s.heap
 loc:∃ m,s.heap.Ns X.env.locals m/\∀ (i:Nat) (x:Str) (v:V),X.N[i]?=some x->σ[i]?=some (some v)->bU X.env.scope x->∃ u,RelV v u/\Look X.env s.heap m x u
 cell:∀ x c,X.env.cells.lookup x=some c->∃ v,s.heap.IsCell c v
 free:H X.env.locals=none
 freeC:∀ x c,X.env.cells.lookup x=some c->H c=none
 pin:∀ p∈X.pn++pins,s.heap.get? p.1=some p.2/\H p.1=none/\p.1≠X.env.locals/\p.1∉X.fs/\∀ v,p.2.data≠.cell v
 hok:HOk X.prog X.w H s.heap
 len:σ.length=X.N.length
section
variable {X:Cx} {pins:dh} {σ:List (d7)} {H H':Hp} {s:Shared} {h':Heap}
def Cx.Ok.nofr (ok:X.Ok) {b:Addr} {o:Obj} (e:X.base.get? b=some o):b∉X.fs:=λa=>by
 have:=(ok.funs.mem a).1;rw [e] at this;cases this
def Inv.bs (I:Inv X pins σ H s):∀ b o,X.base.get? b=some o->s.heap.get? b=some o/\H b=none:=λb o e=>
 ⟨I.base.keep b o (I.ok.bs b o e).1 (I.ok.bs b o e).2 (I.ok.nofr e) (I.ok.noex b o e),I.base.free b o (I.ok.bs b o e).1 (I.ok.bs b o e).2 (I.ok.noex b o e)⟩
def Inv.bk (I:Inv X pins σ H s):∀ b o,X.base.get? b=some o->s.heap.get? b=some o:=λb o e=>(I.bs b o e).1
def Inv.mod (I:Inv X pins σ H s):Mod X.K X.mg X.base:=I.ok.mod
def Inv.kIn (I:Inv X pins σ H s):X.K.In s.heap:=I.ok.mod.kin.keeps I.bk
def Inv.fr (I:Inv X pins σ H s):∃ m,Fr X.base X.env.locals s.heap m:=
 let ⟨m,a,_⟩:=I.loc
 ⟨m,a,I.bk,Bg I.ok.bsz I.ok.above⟩
def Inv.lt (I:Inv X pins σ H s):X.env.locals<s.heap.objs.size:=let ⟨_,a,_⟩:=I.loc;a.lt
def Inv.sz (I:Inv X pins σ H s):X.s₀.heap.objs.size<=s.heap.objs.size:=Bg I.ok.above (Nat.le_of_lt I.lt)
def Inv.nofs (I:Inv X pins σ H s) {a:Addr} (h:s.heap.objs.size<=a):a∉X.fs:=λb=>by
 obtain ⟨_,o,c,_⟩:=I.ok.funs.mem b;exact absurd (CF (mG c) (Bg I.sz h)) (DF _)
def Inv.cne (I:Inv X pins σ H s):∀ x c,X.env.cells.lookup x=some c->c≠X.env.locals:=λx c e z=>by
 obtain ⟨v,o,d,f⟩:=I.cell x c e;obtain ⟨m,⟨g,h,i,a,b,_⟩,_⟩:=I.loc;rw [z,a] at d;cases d;rw [b] at f;cases f
def Inv.funs (I:Inv X pins σ H s):s.heap.FunFrames X.base X.outer:=by
 have all:∀ (l:List Env),(∀ b∈ak l,b∈X.fs)->X.s₀.heap.FunFrames X.base l->s.heap.FunFrames X.base l:=by
  intro l
  induction l with
  | nil=>intro _ _;trivial
  | cons g r h=>
    intro f i;obtain ⟨hk,⟨L,o,a,j,k,m⟩,n⟩:=i;have c:L∈X.fs:=f L (by unfold ak;rw [List.filterMap_cons,a];exact Au);obtain ⟨p,e⟩:=I.base.slot L o k (I.ok.frf L c) c λz=>I.ok.exfs L z c;exact ⟨hk,⟨L,_,a,j,e,m⟩,h (λb d=>f b (by unfold ak;rw [List.filterMap_cons,a];exact A3 _ d)) n⟩
 exact all X.outer (λ_ d=>d) I.ok.funs
def Inv.stack (I:Inv X pins σ H s):s.heap.FunFrames X.base X.stack:=by
 rcases I.ok.stk with e | ⟨e,a⟩
 ·rw [e];exact I.funs
 ·rw [e];obtain ⟨m,b,_⟩:=I.loc;refine .cons (by rw [I.ok.kind];decide) a b ?_ I.funs;exact Heap.get?_none_of_le (Bg I.ok.bsz I.ok.above)
def Inv.stkSub (I:Inv X pins σ H s):∀ b∈ak X.stack,b∈X.env.locals::X.fs:=λb a=>by
 rcases I.ok.stk with e | ⟨e,c⟩
 ·rw [e] at a;exact A3 _ a
 ·rw [e] at a;unfold ak at a;rw [List.filterMap_cons,c] at a;exact a
def Inv.stkFree (I:Inv X pins σ H s):∀ b∈ak X.stack,H b=none:=λb a=>by
 rcases Bc.mp (I.stkSub b a) with e | a
 ·rw [e];exact I.free
 ·obtain ⟨_,o,c,_⟩:=I.ok.funs.mem a;exact I.base.free b o c (I.ok.frf b a) λz=>I.ok.exfs b z a
def Inv.step {g':Array GenState} {t':Nat} {d':Drawn} {ch:dw} (I:Inv X pins σ H s)
  (g:∀ b∈ch,(b∈X.ex\/X.s₀.heap.objs.size<=b)/\b≠X.env.locals/\(∀ x c,X.env.cells.lookup x=some c->c≠b)/\∀ p∈X.pn++pins,p.1≠b)
  (h:∀ b o,b≠X.env.locals->b∉X.fs->b∉ch->s.heap.get? b=some o->H b=none->h'.get? b=some o)
  (B:∀ b o,b≠X.env.locals->b∈X.fs->b∉ch->s.heap.get? b=some o->H b=none->∃ P,h'.get? b=some { o with slots:=P }) (f:∀ b o,b∉ch->s.heap.get? b=some o->H b=none->H' b=none)
  (D:∀ b o,b∉ch->s.heap.get? b=some o->∃ G,h'.get? b=some G)
  (J:∀ b C,H b=some (.tup C)->H' b=some (.tup C)) (K:∀ b o u,H b=some (.frz o u)->H' b=some (.frz o u)) (L:∀ b ps,H b=some (.tbl ps)->∃ M,H' b=some (.tbl (ps++M)))
  (ns:∀ m,s.heap.Ns X.env.locals m->h'.Ns X.env.locals m) (R:HOk X.prog X.w H' h') (hg:AllBare g') :
  Inv X pins σ H' { s with heap:=h',gens:=g',drawn:=d',toks:=t' }:=by
 have N:∀ b o,X.s₀.heap.get? b=some o->b≠X.env.locals:=λb o e=>BI (CF (mG e) I.ok.above)
 have y:∀ b o,X.s₀.heap.get? b=some o->b∉X.ex->b∉ch:=λb o e a E=>by
  rcases (g b E).1 with z | z
  ·exact a z
  ·exact absurd (CF (mG e) z) (DF _)
 have j:∀ x c,X.env.cells.lookup x=some c->∀ v,s.heap.IsCell c v->h'.IsCell c v:=λx c e v ⟨o,F,S⟩=>by
  have w:c∉ch:=λz=>(g c z).2.2.1 x c e rfl;by_cases Z:c∈X.fs
  ·obtain ⟨P,q⟩:=B c o (I.cne x c e) Z w F (I.freeC x c e);exact ⟨_,q,S⟩
  ·exact ⟨o,h c o (I.cne x c e) Z w F (I.freeC x c e),S⟩
 refine ⟨I.ok,I.os,hg,⟨λb o e n E a=>?_,λb o e n E a=>?_,λb o e n a=>?_,λb o e a=>?_,λb C e=>J b C (I.base.tups b C e),λb o C e=>K b o C (I.base.frzs b o C e),λb ps e=>?_⟩,?_,λx c e=>?_,?_,λx c e=>?_,λp hp=>?_,R,I.len⟩
 ·exact h b o (N b o e) E (y b o e a) (I.base.keep b o e n E a) (I.base.free b o e n a)
 ·obtain ⟨P,A⟩:=I.base.slot b o e n E a;obtain ⟨T,O⟩:=B b _ (N b o e) E (y b o e a) A (I.base.free b o e n a);exact ⟨T,O⟩
 ·obtain ⟨G,A⟩:=I.base.there b o e a;exact f b G (y b o e a) A (I.base.free b o e n a)
 ·obtain ⟨G,A⟩:=I.base.there b o e a;exact D b G (y b o e a) A
 ·obtain ⟨m1,A⟩:=I.base.tbls b ps e;obtain ⟨m2,O⟩:=L b _ A;exact ⟨m1++m2,by rw [O,Array.append_assoc]⟩
 ·obtain ⟨m,hn,hl⟩:=I.loc;refine ⟨m,ns m hn,λi x v A O e3=>?_⟩;obtain ⟨u,r,l⟩:=hl i x v A O e3;refine ⟨u,r,?_⟩;rcases l with l | ⟨k,c,e,z⟩
  ·exact .inl l
  ·exact .inr ⟨k,c,e,j x c e _ z⟩
 ·obtain ⟨v,z⟩:=I.cell x c e;exact ⟨v,j x c e v z⟩
 ·obtain ⟨m,⟨o,_,_,F,_⟩,_⟩:=I.loc;exact f _ o (λz=>(g _ z).2.1 rfl) F I.free
 ·obtain ⟨v,o,F,S⟩:=I.cell x c e;exact f c o (λz=>(g c z).2.2.1 x c e rfl) F (I.freeC x c e)
 ·obtain ⟨e,n,ne,nf,d⟩:=I.pin p hp;have w:p.1∉ch:=λz=>(g p.1 z).2.2.2 p hp rfl;exact ⟨h p.1 p.2 ne nf w e n,f p.1 p.2 w e n,ne,nf,d⟩
def Inv.un {t':Nat} (I:Inv X pins σ H s) (u:Un X.fs [] H H' s.heap h') (c:HOk X.prog X.w H' h'):Inv X pins σ H' { s with heap:=h',toks:=t' }:=by
 obtain ⟨m,⟨o,v,w,j,r⟩,_⟩:=id I.loc;obtain ⟨x,k⟩:=u.any j I.free (by simp)
 exact I.step (g':=s.gens) (d':=s.drawn) (ch:=[]) (λ_ z=>nomatch z) (λb o _ d _ e n=>u.keep b o e n d (by simp)) (λb o _ d _ e n=>u.slot b o e n d (by simp)) (λb o _ e n=>u.free b o e n (by simp)) (λb o _ e=>u.there b o e (by simp)) u.tups u.frzs u.tbls (λy p=>by
  obtain ⟨A,f,g,a,q⟩:=p;rw [j] at a;cases a;exact ⟨_,f,g,k,q⟩) c I.bare
def Inv.call {g':Array GenState} {t':Nat} {d':Drawn} {ch:dw} (I:Inv X pins σ H s) (u:Un (ak X.stack) ch H H' s.heap h') (g:HOk X.prog X.w H' h') (y:AllBare g')
  (d:∀ b∈ch,(b∈X.ex\/X.s₀.heap.objs.size<=b)/\b≠X.env.locals/\(∀ x c,X.env.cells.lookup x=some c->c≠b)/\∀ p∈X.pn++pins,p.1≠b) :
  Inv X pins σ H' { s with heap:=h',gens:=g',drawn:=d',toks:=t' }:=by
 obtain ⟨m,⟨o,D,E,w,r⟩,_⟩:=id I.loc;obtain ⟨F,h⟩:=u.any w I.free λz=>(d _ z).2.1 rfl
 exact I.step (ch:=ch) d (λb o h A a e n=>u.keep b o e n (λz=>(Bc.mp (I.stkSub b z)).elim h A) a) (λb o _ _ a e n=>u.any e n a) (λb o a e n=>u.free b o e n a) (λb o a e=>u.there b o e a) u.tups u.frzs u.tbls (λG B=>by
  obtain ⟨J,i,j,f,C⟩:=B;rw [w] at f;cases f;exact ⟨_,i,j,h,C⟩) g y
def Inv.turned {t':Nat} {a:Addr} (I:Inv X pins σ H s) (k:∀ b o,b≠a->s.heap.get? b=some o->h'.get? b=some o) (j:H a=none) (g:a≠X.env.locals)
  (w:a∈X.ex\/X.s₀.heap.objs.size<=a) (y:∀ x c,X.env.cells.lookup x=some c->c≠a) (A:∀ p∈X.pn++pins,p.1≠a):Inv X pins σ H { s with heap:=h',toks:=t' }:=by
 have f:∀ b u,H b=some u->b≠a:=λb u e z=>by rw [z,j] at e;cases e
 refine I.step (g':=s.gens) (d':=s.drawn) (ch:=[a]) (λb B=>?_) (λb o _ _ d e _=>k b o (λz=>d (by simp [z])) e) (λb o _ _ d e _=>⟨o.slots,k b o (λz=>d (by simp [z])) e⟩) (λ_ _ _ _ n=>n)
  (λb o d e=>⟨o,k b o (λz=>d (by simp [z])) e⟩) (λ_ _ e=>e) (λ_ _ _ e=>e) (λb ps e=>⟨#[],by rw [e];simp⟩) (λm C=>?_) (λb u e=>?_) I.bare
 ·have e:b=a:=by simpa using B
  subst e;exact ⟨w,g,y,A⟩
 ·obtain ⟨o,D,E,F,r⟩:=C;exact ⟨o,D,E,k _ o (Ne.symm g) F,r⟩
 ·refine (I.hok b u e).stay (λc v d q=>k c v ?_ q) (λ_ q=>q) λ_ _ q=>q;rcases d with z | z
  ·rw [z];exact f b u e
  ·exact f c _ z
def Inv.tok (I:Inv X pins σ H s) (t:Nat):Inv X pins σ H { s with toks:=t }:=I.un (h':=s.heap) (t':=t) Un.refl I.hok
def Inv.kept {t':Nat} (I:Inv X pins σ H s) (k:∀ b u,s.heap.get? b=some u->h'.get? b=some u):Inv X pins σ H { s with heap:=h',toks:=t' }:=I.un (Un.kept k) (I.hok.kept k)
def Inv.laid {a:Addr} {o:HO} {t':Nat} (I:Inv X pins σ H s) (k:∀ b u,s.heap.get? b=some u->h'.get? b=some u) (hp:s.heap.objs.size<=a) (c:ObjOk X.prog X.w (upd H a o) h' a o) :
  Inv X pins σ (upd H a o) { s with heap:=h',toks:=t' }:=I.un (Un.laid k hp (I.hok.fresh hp)) (I.hok.laid k hp c)
def Inv.write {x e:Addr} {o:HO} {t':Nat} (I:Inv X pins σ H s) (d:cx (H x)) (f:e=x\/H e=some (.own x)) (k:∀ b u,b≠e->s.heap.get? b=some u->h'.get? b=some u) (a:∃ u,h'.get? e=some u)
  (c:ObjOk X.prog X.w (upd H x o) h' x o):Inv X pins σ (upd H x o) { s with heap:=h',toks:=t' }:=I.un (Un.write d f k a) (I.hok.write d f k a c)
def Inv.pins_of {a:dh} (I:Inv X pins σ H s) (h:∀ p∈a,s.heap.get? p.1=some p.2/\H p.1=none/\p.1≠X.env.locals/\p.1∉X.fs/\∀ v,p.2.data≠.cell v):Inv X a σ H s:=
 ⟨I.ok,I.os,I.bare,I.base,I.loc,I.cell,I.free,I.freeC,λp hp=>(CO.mp hp).elim (λz=>I.pin p (F7 _ z)) (h p),I.hok,I.len⟩
def M7 {N:dt} (c:N.Nodup) {i j:Nat} {x:Str} (a:N[i]?=some x) (b:N[j]?=some x):i=j:=by
 obtain ⟨f,d⟩:=BK.mp a;obtain ⟨g,e⟩:=BK.mp b;exact (List.getElem_inj c).mp (d.trans e.symm)
def M9 {M:Model} {A:Around} {E:de} {i:Nat} {x:Str} {v:V} {u:Value} {Q:Unit->Shared->Prop} (I:Inv X pins σ H s) (hN:X.N.Nodup) (O:X.N[i]?=some x) (C:aR X.env.scope x) (r:RelV v u)
  (h:∀ s',Inv X pins (σ.set i (some v)) H s'->(∃ a,Heap.SameBut a s.heap s'.heap/\(a=X.env.locals\/X.env.cells.lookup x=some a))->Q Unit.unit s') (hf:X.fn x=true\/X.env.scope.names.lookup x=some .local:=by first | exact .inl rfl | exact .inr rfl | assumption):wpAny M A (storeName X.env x u) Q E s:=by
 obtain ⟨m,hn,hl⟩:=id I.loc;have P:(X.env.scope.kind == .class || (X.env.scope.kind == .module && X.env.locals != X.env.globals))=false:=by rw [I.ok.kind];rfl
 have G:i<σ.length:=by rw [I.len];exact (BK.mp O).1
 have J:=I.cne
 have g:∀ {a:Addr} {h':Heap},(∃ o,s.heap.get? a=some o/\H a=none)->Heap.SameBut a s.heap h'->HOk X.prog X.w H h':=λ{a h'} ha f b ob e=>by
  obtain ⟨_,_,D⟩:=ha;refine (I.hok b ob e).stay (λc W B q=>(f.2 c ?_).trans q) (λ_ q=>q) λ_ _ q=>q;rintro rfl;rcases B with rfl | B
  ·rw [D] at e;cases e
  ·rw [D] at B;cases B
 rcases C with hk | hk
 ·refine wpAny_storeName_local hk hn (λh' a0 f=>?_) P;obtain ⟨oL,_,_,a1,_⟩:=id hn;refine h _ ⟨I.ok,I.os,I.bare,⟨λb o e n K C=>?_,λb o e n K C=>?_,I.base.free,λb o e C=>?_,I.base.tups,I.base.frzs,I.base.tbls⟩,⟨_,a0,λj y v' w F e3=>?_⟩,λy c e=>?_,I.free,I.freeC,λp hp=>?_,g ⟨oL,a1,I.free⟩ f,by simpa using I.len⟩ ⟨_,f,.inl rfl⟩
  ·exact (f.2 b (BI (CF (mG e) I.ok.above))).trans (I.base.keep b o e n K C)
  ·obtain ⟨sl,w⟩:=I.base.slot b o e n K C;exact ⟨sl,(f.2 b (BI (CF (mG e) I.ok.above))).trans w⟩
  ·obtain ⟨o',w⟩:=I.base.there b o e C;exact ⟨o',(f.2 b (BI (CF (mG e) I.ok.above))).trans w⟩
  ·by_cases L:j=i
   ·subst L;rw [O] at w;cases w;rw [F8 G] at F;cases F;exact ⟨u,r,.inl ⟨hk,by simp⟩⟩
   ·rw [List.getElem?_set_ne (Ne.symm L)] at F;obtain ⟨u',r',q⟩:=hl j y v' w F e3;refine ⟨u',r',?_⟩;rcases q with ⟨k,e⟩ | ⟨k,c,e,z⟩
    ·refine .inl ⟨k,?_⟩;have:y≠x:=λe=>L (M7 hN w (e ▸ O));simp [this,e]
    ·exact .inr ⟨k,c,e,z.sameBut f (J y c e)⟩
  ·obtain ⟨W,z⟩:=I.cell y c e;exact ⟨W,z.sameBut f (J y c e)⟩
  ·obtain ⟨e,n,Y,nf,d⟩:=I.pin p hp;exact ⟨(f.2 p.1 Y).trans e,n,Y,nf,d⟩
 ·have N:X.fn x=true:=by
   rcases hf with z | z
   ·exact z
   ·rw [z] at hk;cases hk
  obtain ⟨c,B⟩:=I.ok.has x (.inl hk);obtain ⟨W,z⟩:=I.cell x c B;refine wpAny_storeName_cell I.ok.kind hk B z (λh' R f=>?_);obtain ⟨oc,S,T⟩:=id z;refine h { s with heap:=h' } ⟨I.ok,I.os,I.bare,⟨λb o e n K C=>?_,λb o e n K C=>?_,I.base.free,λb o e C=>?_,I.base.tups,I.base.frzs,I.base.tbls⟩,⟨m,hn.sameBut f (Ne.symm (J x c B)),λj y v' w F e3=>?_⟩,λy Z e=>?_,I.free,I.freeC,λp hp=>?_,g ⟨oc,S,I.freeC x c B⟩ f,by simpa using I.len⟩ ⟨c,f,.inr B⟩
  ·exact (f.2 b (BI (CF (mG e) (I.ok.cab x c N B)))).trans (I.base.keep b o e n K C)
  ·obtain ⟨sl,w⟩:=I.base.slot b o e n K C;exact ⟨sl,(f.2 b (BI (CF (mG e) (I.ok.cab x c N B)))).trans w⟩
  ·obtain ⟨o',w⟩:=I.base.there b o e C;exact ⟨o',(f.2 b (BI (CF (mG e) (I.ok.cab x c N B)))).trans w⟩
  ·by_cases L:j=i
   ·subst L;rw [O] at w;cases w;rw [F8 G] at F;cases F;exact ⟨u,r,.inr ⟨.inl hk,c,B,R⟩⟩
   ·rw [List.getElem?_set_ne (Ne.symm L)] at F;obtain ⟨u',r',q⟩:=hl j y v' w F e3;refine ⟨u',r',?_⟩;rcases q with q | ⟨k,Z,e,z'⟩
    ·exact .inl q
    ·refine .inr ⟨k,Z,e,z'.sameBut f ?_⟩;rintro rfl;exact L (M7 hN w (I.ok.inj _ _ _ e B ▸ O))
  ·by_cases U:Z=c
   ·subst U;exact ⟨_,R⟩
   ·obtain ⟨w2,z2⟩:=I.cell y Z e;exact ⟨w2,z2.sameBut f U⟩
  ·obtain ⟨e,n,Y,nf,d⟩:=I.pin p hp;refine ⟨(f.2 p.1 ?_).trans e,n,Y,nf,d⟩;intro q;rw [q,S] at e;have q':oc=p.2:=mF e;exact d W (by rw [<-q'];exact T)
def Ka {M:Model} {A:Around} {E:de} {i:Nat} {x:Str} {v:V} {u:Value} {Q:Unit->Shared->Prop} (I:Inv X pins σ H s) (b:X.N.Nodup) (c:X.N[i]?=some x) (d:aR X.env.scope x) (r:RelV v u)
  (h:∀ a,Inv X pins (σ.set i (some v)) H a->Q Unit.unit a) (e:X.fn x=true\/X.env.scope.names.lookup x=some .local:=by first | exact .inl rfl | exact .inr rfl | assumption):wpAny M A (storeName X.env x u) Q E s:=
 M9 I b c d r (λa f _=>h a f) e
def Inv.call' {s':Shared} {ch:dw} (I:Inv X pins σ H s) (i:s'.os=s.os) (u:Un (ak X.stack) ch H H' s.heap s'.heap) (a:HOk X.prog X.w H' s'.heap) (j:AllBare s'.gens)
  (d:∀ b∈ch,(b∈X.ex\/X.s₀.heap.objs.size<=b)/\b≠X.env.locals/\(∀ x c,X.env.cells.lookup x=some c->c≠b)/\∀ p∈X.pn++pins,p.1≠b):Inv X pins σ H' s':=by
 obtain ⟨h',f,g,h,k⟩:=s';have e:k=s.os:=i;subst e;exact I.call (g':=f) (t':=h) (d':=g) u a j d
end
noncomputable abbrev XK:=Value->Option Addr->Hp->Prop
noncomputable abbrev St:=List (d7)
noncomputable abbrev VK:=V->Hp->Prop
noncomputable abbrev TE:=St->Hp->VK->Prop
noncomputable abbrev TT:=St->Hp->(Bool->Hp->Prop)->Prop
noncomputable abbrev TA:=St->Hp->(c_->Hp->Prop)->Prop
structure Ends where
 nx:St->Hp->Prop
 rt:VK
 bk:St->Hp->Prop:=λ_ _=>False
 ct:St->Hp->Prop:=λ_ _=>False
noncomputable abbrev TS:=Ends->St->Hp->Prop
def EP (X:Cx) (a:dh) (c:St) (Q:VK) (u:Value) (s':Shared):Prop:=∃ v b,Inv X a c b s'/\RelV v u/\Q v b
def TP (X:Cx) (a:dh) (d:St) (Q:Bool->Hp->Prop) (b:Bool) (s':Shared):Prop:=∃ c,Inv X a d c s'/\Q b c
def AP (X:Cx) (a:dh) (d:St) (Q:c_->Hp->Prop) (e:dc) (s':Shared):Prop:=∃ b c,Inv X a d c s'/\Vals b e/\Q b c
def SP (X:Cx) (b:dh) (D:Ends) (f:Flow) (s':Shared):Prop:=
 match f with
 | .next=>∃ a c,Inv X b a c s'/\D.nx a c
 | .brk=>∃ a c,Inv X b a c s'/\D.bk a c
 | .cont=>∃ a c,Inv X b a c s'/\D.ct a c
 | .ret u=>∃ v a c,Inv X b a c s'/\RelV v u/\D.rt v c
def PE (X:Cx) (e:Expr) (t:TE):Prop:=
 ∀ (a:dh) (s:Shared) (b:St) (H:Hp) (Q:VK),Inv X a b H s->t b H Q->wpAny (model X.prog X.w) X.A (eval e X.env) (EP X a b Q) X.xe s
def PT (X:Cx) (e:Expr) (t:TT):Prop:=
 ∀ (a:dh) (s:Shared) (b:St) (H:Hp) (Q:Bool->Hp->Prop),Inv X a b H s->t b H Q->wpAny (model X.prog X.w) X.A (isTrue e X.env (eval e X.env)) (TP X a b Q) X.xe s
def PW (X:Cx) (e:Expr) (t:TT):Prop:=
 ∀ (b:Sem Value) (a:dh) (s:Shared) (c:St) (H:Hp) (Q:Bool->Hp->Prop),Inv X a c H s->t c H Q->wpAny (model X.prog X.w) X.A (isTrue e X.env b) (TP X a c Q) X.xe s
def PW.pt {X:Cx} {e:Expr} {t:TT} (h:PW X e t):PT X e t:=h _
def PA (X:Cx) (es:dj) (t:TA):Prop:=
 ∀ (b:Pos) (a:dh) (s:Shared) (c:St) (H:Hp) (Q:c_->Hp->Prop),Inv X a c H s->t c H Q->wpAny (model X.prog X.w) X.A (spliced (backTo b (starEach es X.env))) (AP X a c Q) X.xe s
def PS (X:Cx) (st:Stmt) (t:TS):Prop:=
 ∀ (a:dh) (s:Shared) (b:St) (H:Hp) (D:Ends),Inv X a b H s->t D b H->wpAny (model X.prog X.w) X.A (exec st X.env) (SP X a D) X.xe s
def PSs (X:Cx) (st:List Stmt) (t:TS):Prop:=
 ∀ (a:dh) (s:Shared) (b:St) (H:Hp) (D:Ends),Inv X a b H s->t D b H->wpAny (model X.prog X.w) X.A (execs st X.env) (SP X a D) X.xe s
def F_ {b:Type} {t:Sem b} {Q c:b->Shared->Prop} {M:Model} {A:Around} {E:de} {s:Shared} (h:wpAny M A t Q E s) (d:∀ a s,Q a s->c a s):wpAny M A t c E s:=mE h d λ_ _ x=>x
section
variable {X:Cx}
def AA (i:Nat):TE:=λa H Q=>∃ v,a[i]?=some (some v)/\Q v H
def tC (v:V):TE:=λ_ H Q=>Q v H
def Uu {i:Nat} {x:Str} {pos:Pos} (k:X.N[i]?=some x) (n:bU X.env.scope x) (f:(x == ("__debug__" : Str))=false:=by decide) (g:(x == ("__classdict__" : Str))=false:=by decide):PE X (.Name x pos) (AA i):=by
 intro d s o H Q I h;obtain ⟨v,e,h⟩:=h;obtain ⟨m,p,q⟩:=I.loc;obtain ⟨u,r,l⟩:=q i x v k e n;have b:EP X d o Q u s:=⟨v,H,I,r,h⟩;rcases l with ⟨hk,w⟩ | ⟨hk,c,j,a⟩
 ·exact wpAny_Name (wpAny_loadName_local I.ok.kind hk p w b) f
 ·rcases hk with hk | hk
  ·exact wpAny_Name (wpAny_loadName_cell I.ok.kind hk j a b) f
  ·exact wpAny_Name (wpAny_loadName_free I.ok.kind hk j a b g) f
def AF {i j pos}:PE X (.Constant (.int i) j pos) (tC (.int i)):=λ_ _ _ H _ I h=>wpAny_Constant_int ⟨.int i,H,I.tok _,⟨_,rfl⟩,h⟩
def Ed {b j pos}:PE X (.Constant (.bool b) j pos) (tC (.bl b)):=λ_ _ _ H _ I h=>Constant_bool ⟨.bl b,H,I,rfl,h⟩
def GE {j pos}:PE X (.Constant .none j pos) (tC .non):=λ_ _ _ H _ I h=>Constant_none ⟨.non,H,I,rfl,h⟩
def DI {x j pos}:PE X (.Constant (.str x) j pos) (tC (.str x)):=λ_ _ _ H _ I h=>Calls.Constant_str ⟨.str x,H,I.tok _,⟨_,rfl⟩,h⟩
def Gl (X:Cx) (x:Str):Prop:=X.env.kindOf x=some .globalImplicit
def NA {E:de} {a:dh} {s:Shared} {b:St} {H:Hp} {x:Str} {u:Value} {pos:Pos} {Q:de} (I:Inv X a b H s) (c:Gl X x) (d:X.mg x=some u) (h:Q u s)
  (e:(x == ("__debug__" : Str))=false:=by decide):wpAny (model X.prog X.w) X.A (eval (.Name x pos) X.env) Q E s:=
 Calls.Name_function_global I.ok.kind c (Calls.loadGlobal_global (by rw [I.ok.glob];exact I.mod.glob.keeps I.bk) d h) e
def Dx {E:de} {a:dh} {s:Shared} {b:St} {H:Hp} {x:Str} {u:Value} {pos:Pos} {Q:de} (I:Inv X a b H s) (c:Gl X x) (d:X.mg x=none) (e:bootBuiltins x=some u) (h:Q u s)
  (f:x ≠ "__name__" := by decide) (g:(x == ("__debug__" : Str))=false:=by decide):wpAny (model X.prog X.w) X.A (eval (.Name x pos) X.env) Q E s:=by
 obtain ⟨k,i,j⟩:=I.mod.blt;exact Calls.Name_function_global I.ok.kind c (Calls.loadGlobal_builtin (by rw [I.ok.glob];exact I.mod.glob.keeps I.bk) d (by rw [I.ok.blt];exact i.keeps I.bk) ((j x f).trans e) h) g
def Uv {x:Str} {v:V} {u:Value} {pos:Pos} (a:Gl X x) (b:X.mg x=some u) (r:RelV v u) (c:(x == ("__debug__" : Str))=false:=by decide):PE X (.Name x pos) (tC v):=
 λ_ _ _ H _ I h=>NA I a b ⟨v,H,I,r,h⟩ c
def Ee {x:Str} {v:V} {u:Value} {pos:Pos} (a:Gl X x) (b:X.mg x=none) (c:bootBuiltins x=some u) (r:RelV v u) (d:x ≠ "__name__" := by decide) (e:(x == ("__debug__" : Str))=false:=by decide):PE X (.Name x pos) (tC v):=
 λ_ _ _ H _ I h=>Dx I a b c ⟨v,H,I,r,h⟩ d e
variable {a b:Expr} {ta tb:TE} {pos:Pos}
def tB (t:TE):TT:=λd H Q=>t d H λx e=>∃ c,x=.bl c/\Q c e
def DV {e:Expr} {t:TE} (h:PE X e t) (g:∀ c,isTrue e X.env c=(do let v <-c;standAt e.pos;holding [v] (truthy v)):=by intro _;rfl):PT X e (tB t):=by
 intro f s i H Q I j;refine isTrue_plain (F_ (h f s i H _ I j) λv s1 ⟨x,k,m,n,o⟩=>?_) (g _);obtain ⟨d,rfl,q⟩:=o;cases n;exact wpAny_truthy_bool ⟨k,m,q⟩
variable {tA tB':TT} {rest:dj}
def Dl (t u:TT):TT:=λd H Q=>t d H λc e=>if c=true then u d e Q else Q false e
def aq (t u:TT):TT:=λd H Q=>t d H λc e=>if c=true then Q true e else u d e Q
def DJ (t:TT):TT:=λd H Q=>t d H λc e=>Q (!c) e
theorem Ef (f:PT X a tA):PW X (.BoolOp .And [a] pos) tA:=by
 intro i d s g H Q I h;refine isTrue_and (F_ (f d s g H Q I h) λc s1 e=>?_);cases c with
 | true=>exact isTrue_and_nil e
 | false=>exact e
theorem Gw (f:PT X a tA):PW X (.BoolOp .Or [a] pos) tA:=by
 intro i d s g H Q I h;refine isTrue_or (F_ (f d s g H Q I h) λc s1 e=>?_);cases c with
 | false=>exact isTrue_or_nil e
 | true=>exact e
theorem Eg (j:PT X a tA) (k:PW X (.BoolOp .And (b::rest) pos) tB'):PW X (.BoolOp .And (a::b::rest) pos) (Dl tA tB'):=by
 intro m d s e H Q I h;refine isTrue_and (F_ (j d s e H _ I h) λc s1 ⟨f,g,i⟩=>?_);cases c with
 | true=>exact k m d s1 e f Q g i
 | false=>exact ⟨f,g,i⟩
theorem Eh (j:PT X a tA) (k:PW X (.BoolOp .Or (b::rest) pos) tB'):PW X (.BoolOp .Or (a::b::rest) pos) (aq tA tB'):=by
 intro m d s e H Q I h;refine isTrue_or (F_ (j d s e H _ I h) λc s1 ⟨f,g,i⟩=>?_);cases c with
 | true=>exact ⟨f,g,i⟩
 | false=>exact k m d s1 e f Q g i
def Dn (e:PT X a tA):PT X (.UnaryOp .Not a pos) (DJ tA):=by
 intro d s f H Q I h;exact isTrue_not (e d s f H (λc g=>Q (!c) g) I h)
def FA (ta tb:TE):TE:=λd H Q=>ta d H λx e=>∃ c,x=.bl c/\if c=true then tb d e Q else Q (.bl false) e
def Uw (ta tb:TE):TE:=λd H Q=>ta d H λx e=>∃ c,x=.bl c/\if c=true then Q (.bl true) e else tb d e Q
def Ux (ta:TE):TE:=λd H Q=>ta d H λx e=>∃ c,x=.bl c/\Q (.bl (!c)) e
def Kb {op} {t:TE} (h:PE X a t):PE X (.BoolOp op [a] pos) t:=λc s d H Q I e=>BoolOp_one (h c s d H Q I e)
theorem GF (j:PE X a ta) (k:PE X (.BoolOp .And (b::rest) pos) tb):PE X (.BoolOp .And (a::b::rest) pos) (FA ta tb):=by
 intro d s f H Q I h;refine BoolOp_and (F_ (j d s f H _ I h) λv s1 ⟨x,g,i,m,e⟩=>?_);obtain ⟨c,rfl,e⟩:=e;cases m;refine wpAny_truthy_bool ?_;cases c with
 | true=>exact k d s1 f g Q i e
 | false=>exact ⟨.bl false,g,i,rfl,e⟩
def bh (t:TT) (ta tb:TE):TE:=λd H Q=>t d H λc e=>if c=true then ta d e Q else tb d e Q
theorem Kc {c:Expr} (k:PT X c tA) (m:PE X a ta) (n:PE X b tb):PE X (.IfExp c a b pos) (bh tA ta tb):=by
 intro e s f H Q I h;refine wpAny_IfExp (F_ (k e s f H _ I h) λd s1 ⟨g,i,j⟩=>?_);cases d with
 | true=>exact m e s1 f g Q i j
 | false=>exact n e s1 f g Q i j
end
def SqL (K:W.Frag) (H:Hp) (a:Addr) (xs:c_):Prop:=
 Rd H a (.lst xs)\/
  ∃ (o:Obj) (b:Array Value) (n:Nat),K.lookup a=some o/\o.cls=.type "list" /\ o.dict=none/\o.data=.seq b n/\b.size<=sizeLine/\Vals xs b.toList
def SqT (K:W.Frag) (H:Hp) (a:Addr) (xs:c_):Prop:=
 Rd H a (.tup xs)\/
  ∃ (o:Obj) (b:Array Value) (n:Nat),K.lookup a=some o/\o.cls=.type "tuple" /\ o.data=.seq b n/\b.size<=sizeLine/\Vals xs b.toList
noncomputable def Uy:Value->d7
 | .none=>some .non
 | .bool b=>some (.bl b)
 | .int i _=>some (.int i)
 | .str x _=>some (.str x)
 | .bytes b _=>some (.byt b)
 | .float b _=>some (.flt b)
 | .ref a=>some (.ref a)
 | .type n=>some (.ty n)
 | _=>none
theorem RelV.abs {x:V} {u:Value} (r:RelV x u):Uy u=some x:=by
 cases x with
 | non=>cases r;rfl
 | bl _=>cases r;rfl
 | int _=>obtain ⟨t,rfl⟩:=r;rfl
 | str _=>obtain ⟨t,rfl⟩:=r;rfl
 | byt _=>obtain ⟨t,rfl⟩:=r;rfl
 | flt _=>obtain ⟨t,rfl⟩:=r;rfl
 | ref _=>cases r;rfl
 | ty _=>cases r;rfl
def RelV.inj {x y:V} {u:Value} (r:RelV x u) (q:RelV y u):x=y:=mF (r.abs.symm.trans q.abs)
theorem Vals.inj:∀ {xs a:c_} {b:dc},Vals xs b->Vals a b->xs=a
 | _,_,_,.nil,.nil=>rfl
 | _,_,_,.cons r t,.cons c d=>by rw [r.inj c,Vals.inj t d]
section
variable {X:Cx} {pins:dh} {σ:St} {H:Hp} {s:Shared} {a:Addr} {xs ys:c_}
def SqL.of {K:W.Frag} (h:H a=some (.lst xs)):SqL K H a xs:=.inl (.inl h)
def SqT.of {K:W.Frag} (h:H a=some (.tup xs)):SqT K H a xs:=.inl (.inl h)
def Inv.list (I:Inv X pins σ H s) (h:SqL X.K H a xs):∃ b:dc,Vals xs b/\PlainL s.heap a b.toArray/\xs.length<=sizeLine:=by
 rcases h with h | ⟨o,b,n,hk,c,d,f,g,r⟩
 ·obtain ⟨z,b,n,r,e⟩:=h.ok I.hok;exact ⟨b,r,⟨_,n,e,rfl,rfl,rfl⟩,z⟩
 ·refine ⟨b.toList,r,⟨o,n,I.kIn a o hk,c,d,by simpa using f⟩,?_⟩;have e:=r.length;simp only [Array.length_toList] at e;omega
def Inv.tuple (I:Inv X pins σ H s) (h:SqT X.K H a xs):∃ b:dc,Vals xs b/\IsTup s.heap a b.toArray/\xs.length<=sizeLine:=by
 rcases h with h | ⟨o,b,n,hk,c,d,f,r⟩
 ·obtain ⟨z,b,r,p⟩:=h.ok I.hok;exact ⟨b,r,p,z⟩
 ·refine ⟨b.toList,r,⟨o,I.kIn a o hk,c,n,by simpa using d⟩,?_⟩;have e:=r.length;simp only [Array.length_toList] at e;omega
def Inv.list_inj (I:Inv X pins σ H s) (h:SqL X.K H a xs) (h':SqL X.K H a ys):xs=ys:=by
 obtain ⟨c,r,⟨o,n,e,_,_,d⟩,_⟩:=I.list h;obtain ⟨b,i,⟨k,m,f,_,_,g⟩,_⟩:=I.list h';rw [e] at f;cases f;rw [d] at g;injection g with j _;have:c=b:=by simpa using congrArg Array.toList j
 subst this;exact r.inj i
def Inv.tuple_inj (I:Inv X pins σ H s) (h:SqT X.K H a xs) (h':SqT X.K H a ys):xs=ys:=by
 obtain ⟨c,r,⟨o,e,_,n,d⟩,_⟩:=I.tuple h;obtain ⟨b,i,⟨k,f,_,m,g⟩,_⟩:=I.tuple h';rw [e] at f;cases f;rw [d] at g;injection g with j _;have:c=b:=by simpa using congrArg Array.toList j
 subst this;exact r.inj i
end
noncomputable abbrev Cx.wish (X:Cx) (E:de):Cx:={ X with xe:=E }
noncomputable abbrev Cx.nox (X:Cx):Cx:=X.wish λ_ _=>False
def Cx.Ok.wish {X:Cx} (ok:X.Ok) (E:de):(X.wish E).Ok:=
 ⟨ok.mod,ok.kind,ok.glob,ok.blt,ok.above,ok.inj,ok.has,ok.cab,ok.hd,ok.frames,ok.stk,ok.exf,ok.bs,ok.bsz,ok.noex,ok.exfs,ok.funs,ok.frf,ok.seer,ok.tree,ok.plr⟩
def Cx.Ok.unwish {X:Cx} {E:de} (ok:(X.wish E).Ok):X.Ok:=
 ⟨ok.mod,ok.kind,ok.glob,ok.blt,ok.above,ok.inj,ok.has,ok.cab,ok.hd,ok.frames,ok.stk,ok.exf,ok.bs,ok.bsz,ok.noex,ok.exfs,ok.funs,ok.frf,ok.seer,ok.tree,ok.plr⟩
section
variable {X:Cx} {pins:dh} {σ:St} {H:Hp} {s:Shared} {E:de}
def Inv.wish (I:Inv X pins σ H s) (E:de):Inv (X.wish E) pins σ H s:=⟨I.ok.wish E,I.os,I.bare,I.base,I.loc,I.cell,I.free,I.freeC,I.pin,I.hok,I.len⟩
def Inv.unwish (I:Inv (X.wish E) pins σ H s):Inv X pins σ H s:=⟨I.ok.unwish,I.os,I.bare,I.base,I.loc,I.cell,I.free,I.freeC,I.pin,I.hok,I.len⟩
theorem SP.unwish {D:Ends} {f:Flow} {s':Shared} (h:SP (X.wish E) pins D f s'):SP X pins D f s':=by
 cases f with
 | next=>obtain ⟨a,b,I,q⟩:=h;exact ⟨a,b,I.unwish,q⟩
 | brk=>obtain ⟨a,b,I,q⟩:=h;exact ⟨a,b,I.unwish,q⟩
 | cont=>obtain ⟨a,b,I,q⟩:=h;exact ⟨a,b,I.unwish,q⟩
 | ret u=>obtain ⟨v,a,b,I,r,q⟩:=h;exact ⟨v,a,b,I.unwish,r,q⟩
def PSs.nox {st:List Stmt} {t:TS} (h:PSs X.nox st t):PSs X st t:=λpins s σ H D I a=>
 mE (h pins s σ H D (I.wish _) a) (λ_ _ q=>q.unwish) λ_ _ z=>False.elim z
end
section
variable {X:Cx} {st:Stmt} {rest:List Stmt} {t u:TS} {e:Expr} {te:TE} {pos:Pos}
def BQ:TS:=λD a H=>D.nx a H
def AG (t u:TS):TS:=λD a H=>t { D with nx:=u D } a H
def Ba:PSs X [] BQ:=λ_ _ a H _ I h=>wpAny_execs_nil ⟨a,H,I,h⟩
theorem AI (c:PS X st t) (d:PSs X rest u):PSs X (st::rest) (AG t u):=by
 intro a s g H D I h;refine wpAny_execs_cons (F_ (c a s g H { D with nx:=u D } I h) λf s1 q=>?_);cases f with
 | next=>
   obtain ⟨b,i,j,q⟩:=q;exact d a s1 b i D j q
 | ret v=>exact q
 | brk=>exact q
 | cont=>exact q
theorem AO (b:PS X st t):PSs X [st] t:=by
 intro a s c H D I h;refine wpAny_execs_cons (F_ (b a s c H D I h) λf s1 q=>?_);cases f with
 | next=>exact wpAny_execs_nil q
 | ret v=>exact q
 | brk=>exact q
 | cont=>exact q
def Inv.quiet {a:dh} {b:St} {H:Hp} {s:Shared} (I:Inv X a b H s):interactive X.env=false:=by simp [interactive,I.ok.kind]
def Dy (te:TE):TS:=λD a H=>te a H λ_ b=>D.nx a b
def FB (c:PE X e te) (d:swapsWith e none pos.line X.env=pure false:=by rfl):PS X (.Expr e pos) (Dy te):=by
 intro a s b H D I h;exact wpAny_Expr_any (F_ (c a s b H _ I h) λv s1 ⟨x,f,g,j,i⟩=>⟨b,f,g,i⟩) I.quiet d
def AU (te:TE):TS:=λD a H=>te a H D.rt
def AW (c:PE X e te):PS X (.Return (some e) pos) (AU te):=by
 intro a s b H D I h;exact wpAny_Return_some (F_ (c a s b H _ I h) λv s1 ⟨x,d,f,g,i⟩=>⟨x,b,d,f,g,i⟩)
def BM (c:TT) (t u:TS):TS:=λD a H=>c a H λb d=>if b=true then t D a d else u D a d
theorem BX {c:Expr} {a b:List Stmt} {tc:TT} (m:PT X c tc) (n:PSs X a t) (o:PSs X b u):PS X (.If c a b pos) (BM tc t u):=by
 intro f s g H D I h;refine wpAny_If (F_ (m f s g H _ I h) λd s1 ⟨i,j,k⟩=>?_);cases d with
 | true=>exact n f s1 g i D j k
 | false=>exact o f s1 g i D j k
end
noncomputable abbrev TG:=V->St->Hp->(St->Hp->Prop)->Prop
noncomputable abbrev aK:=c_->St->Hp->(St->Hp->Prop)->Prop
def PG (X:Cx) (a:Expr) (t:TG):Prop:=
 ∀ (b:dh) (s:Shared) (d:St) (H:Hp) (v:V) (u:Value) (Q:St->Hp->Prop),Inv X b d H s->RelV v u->t v d H Q->
   wpAny (model X.prog X.w) X.A (assign a X.env u) (λ_ f=>∃ c e,Inv X b c e f/\Q c e) X.xe s
def bV (X:Cx) (g:dj) (t:aK):Prop:=
 ∀ (a:dh) (s:Shared) (c:St) (H:Hp) (d:c_) (e:dc) (Q:St->Hp->Prop),Inv X a c H s->Vals d e->t d c H Q->
   wpAny (model X.prog X.w) X.A (assignInOrder ((assignEach g X.env).map (·.2)) e) (λ_ h=>∃ b f,Inv X a b f h/\Q b f) X.xe s
noncomputable abbrev aA:=V->V->V->Hp->(Hp->Prop)->Prop
def aB (X:Cx) (t:aA):Prop:=
 ∀ (a:dh) (s:Shared) (b:St) (H:Hp) (o i v:V) (c d u:Value) (Q:Hp->Prop),Inv X a b H s->RelV o c->RelV i d->RelV v u->t o i v H Q->
   wpAny (model X.prog X.w) X.A (setItem c d u) (λ_ f=>∃ e,Inv X a b e f/\Q e) X.xe s
noncomputable abbrev bW:=V->V->Hp->VK->Prop
def PIp (X:Cx) (c:Operator) (t:bW):Prop:=
 ∀ (a:dh) (s:Shared) (b:St) (H:Hp) (x y:V) (v u:Value) (Q:VK),Inv X a b H s->RelV x v->RelV y u->t x y H Q->
   wpAny (model X.prog X.w) X.A (inplaceOp c v u) (EP X a b Q) X.xe s
section
variable {X:Cx} {pos:Pos}
def AE (i:Nat):TG:=λv a H Q=>Q (a.set i (some v)) H
def Aa {i:Nat} {x:Str} (b:X.N.Nodup) (c:X.N[i]?=some x) (d:aR X.env.scope x) (e:X.fn x=true\/X.env.scope.names.lookup x=some .local:=by first | exact .inl rfl | exact .inr rfl | assumption):PG X (.Name x pos) (AE i):=by
 intro a s g H v u Q I r h;exact wpAny_assign_Name (Ka I b c d r (λj f=>⟨_,H,f,h⟩) e)
noncomputable def Cg:aK:=λa b H Q=>a=[]/\Q b H
noncomputable def A8 (t:TG) (u:aK):aK:=λb c H Q=>∃ v r,b=v::r/\t v c H λa d=>u r a d Q
def C7:bV X [] Cg:=by
 intro a s b H c d Q I r h;obtain ⟨e,h⟩:=h;subst e;cases r;exact assignInOrder_nil ⟨b,H,I,h⟩
theorem BN {e:Expr} {es:dj} {t:TG} {u:aK} (c:PG X e t) (d:bV X es u)
  (f:(assignEach (e::es) X.env).map (·.2)=assign e X.env::(assignEach es X.env).map (·.2):=by rfl):bV X (e::es) (A8 t u):=by
 intro a s g H o p Q I r h;obtain ⟨v,q,i,h⟩:=h;subst i;cases r with
 | cons r j=>
   rw [f];refine assignInOrder_cons (F_ (c a s g H _ _ _ I r h) λ_ s1 ⟨b,k,m,n⟩=>?_);exact d a s1 b k _ _ Q m j n
def Uz (K:W.Frag) (n:Nat) (t:aK):TG:=λv c H Q=>∃ a b,v=.ref a/\SqT K H a b/\b.length=n/\t b c H Q
def U0 {es:dj} {k:Nat} {t:aK} {n:Nat} (m:X.calm=true) (h:bV X es t)
  (p:(assignEach es X.env).length=n:=by rfl) (d:(assignEach es X.env).findIdx? (·.1)=none:=by rfl):PG X (.Tuple es k pos) (Uz X.K n t):=by
 intro c s g H v u Q I r f;obtain ⟨a,q,w,x,y,f⟩:=f;subst w;cases r;obtain ⟨z,i,A,E⟩:=I.tuple x;refine assign_Tuple_tuple (I.ok.hd m) A (by simp [p,<-y,i.length]) d λB C=>?_;have D:Inv X c g H { s with heap:=B }:=I.kept (t':=s.toks) λb o e=>C b o (BI (mG e)) e;exact h c _ g H q _ Q D (by simpa using i) f
def Do (b c:TE) (t:aA):TG:=λv a H Q=>b a H λo d=>c a d λi e=>t o i v e λf=>Q a f
def FC {o i:Expr} {e f:TE} {t:aA} (g:PE X o e) (j:PE X i f) (k:aB X t)
  (m:∀ v,assign (.Subscript o i pos) X.env v=(do
   let b <-holding [v] (eval o X.env);let c <-holding [v,b] (eval i X.env)
   standAt pos
   holding [v,b,c] (setItem b c v)
   release [v,b,c] []):=by intro _;rfl):PG X (.Subscript o i pos) (Do e f t):=by
 intro a s d H v u Q I r h;rw [m];refine mC (wpAny_holding (F_ (g a s d H _ I h) λb s1 ⟨x,n,p,q,w⟩=>?_));refine mC (wpAny_holding (F_ (j a s1 d n _ p w) λc z ⟨y,A,B,C,D⟩=>?_));refine mC (wpAny_standAt (mC (wpAny_holding (F_ (k a z d A x y v b c u _ B q C r D) λ_ J ⟨E,F,G⟩=>?_))));exact wpAny_release ⟨d,E,F,G⟩
def AM (b:TE) (g:TG):TS:=λD a H=>b a H λx c=>g x a c D.nx
def FE {b e:Expr} {c:TE} {g:TG} (f:PE X e c) (i:PG X b g) (j:swapsWithSole [b] e pos.line X.env=pure false:=by rfl) (k:swappedStores [b] e X.env=pure none:=by rfl)
  (m:(assignEach [b] X.env).map (·.2)=[assign b X.env]:=by rfl):PS X (.Assign [b] e pos) (AM c g):=by
 intro a s d H D I h;refine wpAny_Assign_stores (F_ (f a s d H _ I h) λv s1 ⟨x,n,o,p,r⟩=>?_) j k;rw [m];exact F_ (i a s1 d n x v _ o p r) λ_ u q=>q
def DK {i:Nat} {x:Str} {e:Expr} {c:TE} {a:Pos} (d:X.N.Nodup) (f:X.N[i]?=some x) (g:aR X.env.scope x) (j:PE X e c) (k:swapsWith e (some (.Name x a)) pos.line X.env=pure false:=by rfl) (m:X.fn x=true\/X.env.scope.names.lookup x=some .local:=by first | exact .inl rfl | exact .inr rfl | assumption) :
  PS X (.Assign [.Name x a] e pos) (AM c (AE i)):=by
 intro b s n H D I h;refine wpAny_Assign_Name (F_ (j b s n H _ I h) λv s1 ⟨y,o,p,q,r⟩=>?_) k;exact Ka p d f g q (λw u=>⟨_,o,u,r⟩) m
def U2 (i j:Nat) (b:TA):TS:=λD a H=>b a H λc d=>∃ v w,c=[v,w]/\D.nx ((a.set i (some v)).set j (some w)) d
def Ei (i:Nat) (b:TE) (c:bW):TS:=λD a H=>∃ x,a[i]?=some (some x)/\b a H λy d=>c x y d λz e=>D.nx (a.set i (some z)) e
def Fc {i:Nat} {x:Str} {e:Expr} {p:TE} {j:Operator} {q:bW} {d:Pos} (E:X.N.Nodup) (A:X.N[i]?=some x) (n:aR X.env.scope x) (F:PE X e p) (G:PIp X j q) (J:X.fn x=true\/X.env.scope.names.lookup x=some .local:=by first | exact .inl rfl | exact .inr rfl | assumption) :
  PS X (.AugAssign (.Name x d) j e pos) (Ei i p q):=by
 intro a s B H D I h;obtain ⟨v,K,h⟩:=h;obtain ⟨m,L,M⟩:=I.loc;have o:bU X.env.scope x:=by rcases n with k | k;exact .inl k;exact .inr (.inl k)
 obtain ⟨u,r,l⟩:=M i x v A K o;refine wpAny_AugAssign_Name ?_
 have C:wpAny (model X.prog X.w) X.A (eval e X.env) (λw f=>wpAny (model X.prog X.w) X.A (inplaceOp j u w) (λr g=>wpAny (model X.prog X.w) X.A (storeName X.env x r) (λ_=>SP X a D .next) X.xe g) X.xe f) X.xe s:=by
  refine F_ (F a s B H _ I h) λw s1 ⟨y,N,O,P,Q⟩=>?_;refine F_ (G a s1 B N v y u w _ O r P Q) λz s2 ⟨zv,R,S,T,U⟩=>?_;exact Ka S E A n T (λs3 W=>⟨_,R,W,U⟩) J
 rcases l with ⟨hk,Y⟩ | ⟨hk,c,Z,b⟩
 ·exact wpAny_loadName_local I.ok.kind hk L Y C
 ·rcases hk with hk | hk
  ·exact wpAny_loadName_cell I.ok.kind hk Z b C
  ·rcases n with k | k
   ·have:X.env.scope.names.lookup x=some .free:=hk;rw [k] at this;cases this
   ·have:X.env.scope.names.lookup x=some .free:=hk;rw [k] at this;cases this
def Gx (e f g:TE) (a:V->V->Hp->VK->Prop) (d:bW) (b:aA):TS:=λD c H=>e c H λo h=>f c h λi j=>a o i j λx k=>g c k λy m=>d x y m λz n=>b o i z n λp=>D.nx c p
def bX (X:Cx) (t:V->V->Hp->VK->Prop):Prop:=
 ∀ (a:dh) (s:Shared) (b:St) (H:Hp) (o i:V) (c d:Value) (Q:VK),Inv X a b H s->RelV o c->RelV i d->t o i H Q->
   wpAny (model X.prog X.w) X.A (getItem c d) (EP X a b Q) X.xe s
def JA {o i e:Expr} {p q r:TE} {c:V->V->Hp->VK->Prop} {k:bW} {d:aA} {u:Operator} {m:Pos} (A:PE X o p) (B:PE X i q) (C:bX X c) (E:PE X e r) (hp:PIp X u k) (F:aB X d)
  (G:∀ f g b,augStore i f g b=(do holding [b,f,g] (setItem f g b);release [b,f,g] [];pure .next):=by intros;rfl):PS X (.AugAssign (.Subscript o i m) u e pos) (Gx p q r c k d):=by
 intro a s j H D I h;refine wpAny_AugAssign_SubscriptAny (F_ (A a s j H _ I h) λf s1 ⟨w,J,K,x,L⟩=>?_) G;refine F_ (B a s1 j J _ K L) λg M ⟨y,N,O,z,P⟩=>?_;refine F_ (C a M j N w y f g _ O x z P) λn Q ⟨R,S,T,U,W⟩=>?_;refine F_ (E a Q j S _ T W) λv Y ⟨Z,H4,I4,r4,q4⟩=>?_;refine F_ (hp a Y j H4 R Z n v _ I4 U r4 q4) λb s5 ⟨x5,H5,I5,r5,q5⟩=>?_;exact F_ (F a s5 j H5 w y x5 f g b _ I5 x z r5 q5) λ_ s6 ⟨H6,I6,q6⟩=>⟨j,H6,I6,q6⟩
end
section
variable {X:Cx} {pos:Pos}
def DW (c:TT) (h:TS):TS:=λD a H=>∃ W:Nat->St->Hp->Prop,(∃ m,W m a H)/\∀ m a H,W m a H->
 c a H λb e=>if b=true then ∃ N:St->Hp->Prop,(∀ d f,N d f->∃ g,g<m/\W g d f)/\h { D with nx:=N,ct:=N,bk:=D.nx } a e else D.nx a e
theorem Dz {c:Expr} {g:List Stmt} {tc:TT} {x:TS} (hp:PassesOwn (model X.prog X.w) X.A X.env X.xe) (E:PT X c tc) (F:PSs X g x):PS X (.While c g [] pos) (DW tc x):=by
 intro a s G H D I h;obtain ⟨W,⟨J,K⟩,i⟩:=h;refine wpAny_While (codeAny_whileLoop (λn L=>∃ j y,Inv X a j y L/\W n j y) ?_ J ⟨G,H,I,K⟩);rintro n s1 ⟨e,z,M,O⟩;refine wpAny_passesOwn hp (F_ (E a s1 e z _ M (i n e z O)) λb P ⟨A,B,m⟩=>?_);cases b with
 | true=>
   obtain ⟨N,C,m⟩:=m;rw [nV rfl];refine wpAny_passesOwn hp (F_ (F a P e A _ B m) λf Q o=>?_);cases f with
   | next=>
     obtain ⟨d,k,p,q⟩:=o;obtain ⟨r,u,w⟩:=C d k q;exact ⟨r,u,d,k,p,w⟩
   | cont=>
     obtain ⟨d,k,p,q⟩:=o;obtain ⟨r,u,w⟩:=C d k q;exact ⟨r,u,d,k,p,w⟩
   | brk=>exact o
   | ret v=>exact o
 | false=>
   rw [nU Cc];exact wpAny_execs_nil ⟨e,A,B,m⟩
end
structure It where
 go:Nat->Hp->Prop
 yld:Nat->Hp->V->Hp->Prop
 stop:Nat->Hp->Prop
def DL (X:Cx) (a:dh) (H:Hp) (b:Addr):Prop:=
 H b=none/\b≠X.env.locals/\b∉X.fs/\(b∈X.ex\/X.s₀.heap.objs.size<=b)/\(∀ x c,X.env.cells.lookup x=some c->c≠b)/\∀ p∈X.pn++a,p.1≠b
def Inv.fpOk {X:Cx} {a:dh} {g:St} {H f:Hp} {s:Shared} {b:Addr} (I:Inv X a g H s) (d:s.heap.objs.size<=b) (h:f b=none):DL X a f b:=by
 refine ⟨h,DG (CF I.lt d),I.nofs d,.inr (Bg I.sz d),λx c e z=>?_,λp hp z=>?_⟩
 ·obtain ⟨v,q⟩:=I.cell x c e;exact absurd (CF q.lt (by rw [z];exact d)) (DF _)
 ·exact absurd (CF (mG (I.pin p hp).1) (by rw [z];exact d)) (DF _)
structure Turn (P:Program) (w:World) (K:W.Frag) (tg:Expr) (J:It) (fp:dw) (it:Addr) (tn:Nat->Heap->Prop):Prop where
 mem:it∈fp
 obj:∀ i h,tn i h->∀ b∈fp,∃ o,h.get? b=some o/\∀ v,o.data≠.cell v
 keep:∀ i h h',tn i h->(∀ b∈fp,∀ o,h.get? b=some o->h'.get? b=some o)->tn i h'
 item:∀ (X:Cx),X.prog=P->X.w=w->X.K=K->X.calm=true->∀ (i:Nat) (pins:dh) (s:Shared) (σ:St) (H:Hp) (E:de),Inv X pins σ H s->(∀ b∈fp,DL X pins H b)->tn i s.heap->J.go i H->
  wpAny (model P w) X.A (pyNext (.ref it)) (λr s1=>∃ u,r=some u/\
   wpAny (model P w) X.A (letOwnedTupleGo tg (.ref it) u) (λ_ s2=>∃ x H',Inv X pins σ H' s2/\RelV x u/\J.yld i H x H'/\tn (i+1) s2.heap/\∀ b∈fp,H' b=none) E s1) E s
 done:∀ (X:Cx),X.prog=P->X.w=w->X.K=K->X.calm=true->∀ (i:Nat) (pins:dh) (s:Shared) (σ:St) (H:Hp) (E:de),Inv X pins σ H s->(∀ b∈fp,DL X pins H b)->tn i s.heap->J.stop i H->
  wpAny (model P w) X.A (pyNext (.ref it)) (λr s1=>r=none/\Inv X pins σ H s1) E s
 self:∀ (A:Around) (i:Nat) (s:Shared) (Q:de) (E:de),tn i s.heap->Q (.ref it) s->wpAny (model P w) A (pyIter (.ref it)) Q E s
noncomputable abbrev TI:=St->Hp->(It->Hp->Prop)->Prop
def PIE (X:Cx) (a:dh) (i:St) (j:Expr) (R:It->Hp->Prop) (c:Value) (e:Shared):Prop:=
 ∃ (f:Addr) (g:dw) (h:Nat->Heap->Prop) (J:It) (d:Hp),c=.ref f/\Inv X a i d e/\Turn X.prog X.w X.K j J g f h/\h 0 e.heap/\(∀ b∈g,DL X a d b)/\R J d
def PI (X:Cx) (d b:Expr) (e:TI):Prop:=
 ∀ (a:dh) (s:Shared) (c:St) (H:Hp) (R:It->Hp->Prop),Inv X a c H s->e c H R->
   wpAny (model X.prog X.w) X.A (eval b X.env) (λv s1=>wpAny (model X.prog X.w) X.A (pyIter v) (PIE X a c d R) X.xe s1) X.xe s
def JB {M:Model} {A:Around} {E:de} {s:Shared} {b:Expr} {c:Addr} {u:Value} {o:Obj} {n:String} {vs:Array Value} {Q:Unit->Shared->Prop} (d:s.heap.get? c=some o) (e:o.cls=.type n) (f:o.data=.fields vs)
  (g:["enumerate", "zip", "dict_itemiterator", "dict_reverseitemiterator", "odict_iterator", "itertools.zip_longest", "itertools.pairwise"].contains n=false) (a:Q Unit.unit s):wpAny M A (letOwnedTupleGo b (.ref c) u) Q E s:=by
 unfold letOwnedTupleGo
 cases b <;> first
  | exact mD a
  | (cases u <;> first
    | exact mD a
    | (refine mC (wpAny_load d ?_)
       rw [e,f];show wpAny M A (if (["enumerate", "zip", "dict_itemiterator", "dict_reverseitemiterator", "odict_iterator", "itertools.zip_longest", "itertools.pairwise"].contains n && vs[0]? == some (rawInt _))=true then _ else _) Q E s;rw [nU (by intro h;rw [g,Bool.false_and] at h;cases h)];exact mD a))
noncomputable def aa (K:W.Frag) (a:Addr):It:=
 ⟨λi H=>∃ b x,SqL K H a b/\b[i]?=some x,λi H x c=>c=H/\∀ b,SqL K H a b->b[i]?=some x,λi H=>∃ b,SqL K H a b/\b.length<=i⟩
noncomputable def aw (K:W.Frag) (a:Addr):It:=
 ⟨λi H=>∃ b x,SqT K H a b/\b[i]?=some x,λi H x c=>c=H/\∀ b,SqT K H a b->b[i]?=some x,λi H=>∃ b,SqT K H a b/\b.length<=i⟩
noncomputable def ah (a:Int) (n:Nat):It:=⟨λi _=>i<n,λi H x b=>b=H/\x=.int (a+i),λi _=>n<=i⟩
def NC {P:Program} {w:World} {K:W.Frag} {U:Expr} (a j:Addr):Turn P w K U (aa K a) [j] j (λi h=>h.IsListIter j a i) where
 mem:=by simp
 obj:=λi h f b m=>by
  have e:b=j:=by simpa using m
  subst e
  obtain ⟨o,e,c,d⟩:=f
  exact ⟨o,e,λv z=>by rw [d] at z;cases z⟩
 keep:=λi h r f k=>f.at λo e=>k j (by simp) o e
 item:=by
  intro X B C D S i g s T H E I y f F
  subst B C D
  obtain ⟨Y,x,A,G⟩:=F
  obtain ⟨J,L,p,Z⟩:=I.list A
  obtain ⟨u,hu,ru⟩:=L.get G
  obtain ⟨M,N,f2,O,Q,R⟩:=y j (by simp)
  refine wpAny_pyNext_list_item f p.isList (x:=u) (by simpa using hu) λr n sb=>?_
  have I1:Inv X g T H { s with heap:=r }:=I.turned (t':=s.toks) (λb o m e=>(sb.2 b m).trans e) M N O Q R
  obtain ⟨o,e,c,d⟩:=id n
  exact ⟨u,rfl,JB (s:={ s with heap:=r }) e c d ∅ ⟨x,H,I1,ru,⟨rfl,λys hy=>by rw [I.list_inj hy A];exact G⟩,n,λb m=>(y b m).1⟩⟩
 done:=by
  intro X B C D S i g s T H E I y f F
  subst B C D
  obtain ⟨Y,A,G⟩:=F
  obtain ⟨J,L,p,Z⟩:=I.list A
  obtain ⟨M,N,f2,O,Q,R⟩:=y j (by simp)
  have hl:=L.length
  exact wpAny_pyNext_list_end (I.ok.hd S) f p.isList (by simp;omega) λr eb=>⟨rfl,I.turned (t':=s.toks) (λb o m e=>eb b o m e) M N O Q R⟩
 self:=λ_ _ _ _ _ f h=>wpAny_pyIter_listiter f h
def ND {P:Program} {w:World} {K:W.Frag} {U:Expr} (a j:Addr):Turn P w K U (aw K a) [j] j (λi h=>h.IsTupleIter j a i) where
 mem:=by simp
 obj:=λi h f b m=>by
  have e:b=j:=by simpa using m
  subst e
  obtain ⟨o,e,c,d⟩:=f
  exact ⟨o,e,λv z=>by rw [d] at z;cases z⟩
 keep:=λi h y f k=>f.at λo e=>k j (by simp) o e
 item:=by
  intro X C D F S i g s T H E I A f G
  subst C D F
  obtain ⟨Y,x,B,J⟩:=G
  obtain ⟨n,L,p,Z⟩:=I.tuple B
  obtain ⟨u,hu,ru⟩:=L.get J
  obtain ⟨M,N,f2,O,Q,R⟩:=A j (by simp)
  refine wpAny_pyNext_tuple_item f (show s.heap.IsTuple a n.toArray from p) (x:=u) (by simpa using hu) λy q sb=>?_
  have I1:Inv X g T H { s with heap:=y }:=I.turned (t':=s.toks) (λb o m e=>(sb.2 b m).trans e) M N O Q R
  obtain ⟨o,e,c,d⟩:=id q
  exact ⟨u,rfl,JB (s:={ s with heap:=y }) e c d ∅ ⟨x,H,I1,ru,⟨rfl,λys hy=>by rw [I.tuple_inj hy B];exact J⟩,q,λb m=>(A b m).1⟩⟩
 done:=by
  intro X C D F S i g s T H E I A f G
  subst C D F
  obtain ⟨Y,B,J⟩:=G
  obtain ⟨n,L,p,Z⟩:=I.tuple B
  obtain ⟨M,N,f2,O,Q,R⟩:=A j (by simp)
  have hl:=L.length
  exact wpAny_pyNext_tuple_end (I.ok.hd S) f (show s.heap.IsTuple a n.toArray from p) (by simp;omega) λy eb=>⟨rfl,I.turned (t':=s.toks) (λb o m e=>eb b o m e) M N O Q R⟩
 self:=λ_ _ _ _ _ f h=>wpAny_pyIter_tupleiter f h
def U3 {P:Program} {w:World} {K:W.Frag} {N:Expr} (c:Addr) (p:Int) (n:Nat):Turn P w K N (ah p n) [c] c (λi h=>IsRangeIter h c (p+(i:Nat)*1) ((n:Int) - (i:Nat)) 1) where
 mem:=by simp
 obj:=λi h a b f=>by
  have e:b=c:=by simpa using f
  subst e
  exact ⟨_,a,λv z=>by
   have O:Data.fields _=Data.cell v:=z
   cases O⟩
 keep:=λi h q a k=>k c (by simp) _ a
 item:=by
  intro X u x y A i d s L H E I r a B
  subst u x y
  obtain ⟨C,D,Q,F,G,J⟩:=r c (by simp)
  have W:=Walks.range (prog:=X.prog) (w:=X.w) (I.ok.hd A) c p 1 n
  refine W.item i s _ _ B a λv q M R g S=>?_
  obtain ⟨t,rfl⟩:=R
  have T:Inv X d L H { s with heap:=q,toks:=M }:=I.turned (λb o f e=>S b o (by simpa using f) e) C D F G J
  refine ⟨_,rfl,JB (s:={ s with heap:=q,toks:=M }) (n := "range_iterator") g rfl rfl ∅ ⟨.int (p+i),H,T,⟨t,?_⟩,⟨rfl,rfl⟩,g,λb f=>(r b f).1⟩⟩
  rw [Int.mul_one]
 done:=by
  intro X u x y A i d s L H E I r a B
  subst u x y
  obtain ⟨C,D,Q,F,G,J⟩:=r c (by simp)
  exact wpAny_pyNext_range_end (I.ok.hd A) a (by have:n<=i:=B;omega) λq U=>⟨rfl,I.turned (t':=s.toks) (λb o f e=>U b o f e) C D F G J⟩
 self:=λ_ _ _ _ _ a h=>wpAny_pyIter_rangeiter a h
section
variable {X:Cx} {tg:Expr}
def Bh (K:W.Frag) (c:TE):TI:=λd H R=>c d H λx b=>∃ a,x=.ref a/\(∃ e,SqL K b a e)/\R (aa K a) b
def Dp (K:W.Frag) (c:TE):TI:=λd H R=>c d H λx b=>∃ a,x=.ref a/\(∃ e,SqT K b a e)/\R (aw K a) b
def CH {l:Expr} {f:TE} (g:PE X l f):PI X tg l (Bh X.K f):=by
 intro c s i H R I h;refine F_ (g c s i H _ I h) λv s1 ⟨x,j,d,k,m⟩=>?_;obtain ⟨a,e,⟨w,n⟩,q⟩:=m;subst e;cases k;obtain ⟨r,y,p,z⟩:=d.list n;refine wpAny_pyIter_list p.isList ?_;refine ⟨s1.heap.objs.size,[s1.heap.objs.size],_,_,j,rfl,d.kept (t':=s1.toks) λb o e=>Heap.get?_push_of_some _ e,NC a _,⟨_,Heap.get?_push_size _ rfl,rfl,rfl⟩,λb u=>?_,q⟩;have e:b=s1.heap.objs.size:=by simpa using u
 subst e;exact d.fpOk (AR _) (d.hok.fresh (AR _))
def Fd {l:Expr} {g:TE} (i:PE X l g):PI X tg l (Dp X.K g):=by
 intro c s j H R I h;refine F_ (i c s j H _ I h) λv s1 ⟨x,k,d,m,n⟩=>?_;obtain ⟨a,e,⟨w,r⟩,q⟩:=n;subst e;cases m;obtain ⟨f,y,p,z⟩:=d.tuple r;refine wpAny_pyIter_tuple (show s1.heap.IsTuple a f.toArray from p) ?_;refine ⟨s1.heap.objs.size,[s1.heap.objs.size],_,_,k,rfl,d.kept (t':=s1.toks) λb o e=>Heap.get?_push_of_some _ e,ND a _,⟨_,Heap.get?_push_size _ rfl,rfl,rfl⟩,λb u=>?_,q⟩;have e:b=s1.heap.objs.size:=by simpa using u
 subst e;exact d.fpOk (AR _) (d.hok.fresh (AR _))
def NE {f:dh} {j:St} {H:Hp} {s:Shared} {R:It->Hp->Prop} {E:de} {a d:Int} {t u v:Tok} {tk:Nat} (I:Inv X f j H s) (m:-(2 ^ 62)<=a) (n:a<2 ^ 62) (p:-(2 ^ 62)<=d) (r:d<2 ^ 62)
  (q:R (ah a (d - a).toNat) H):wpAny (model X.prog X.w) X.A (pyIter (.ref s.heap.objs.size)) (PIE X f j tg R) E { s with heap:=s.heap.push { cls:=.type "range", data:=.fields #[.int a t,.int d u,.int 1 v] },toks:=tk }:=by
 refine wpAny_pyIter_range (IsRange.new ..) (small_one m n p r) ?_;have k:Inv X f j H { s with heap:=s.heap.push { cls:=.type "range", data:=.fields #[.int a t,.int d u,.int 1 v] },toks:=tk }:=I.kept λb o e=>Heap.get?_push_of_some _ e
 refine ⟨(s.heap.push { cls:=.type "range", data:=.fields #[.int a t,.int d u,.int 1 v] }).objs.size,[(s.heap.push { cls:=.type "range", data:=.fields #[.int a t,.int d u,.int 1 v] }).objs.size],_,_,H,rfl,
  k.kept (t':=tk) λb o e=>Heap.get?_push_of_some _ e,U3 _ a (d - a).toNat,?_,λb w=>?_,q⟩
 ·have x:a+((0:Nat):Int)*1=a:=by simp
  have y:(((d - a).toNat:Nat):Int) - ((0:Nat):Int)=Builtin.Range.rangeSize a d 1:=by rw [rangeSize_one];split <;> omega
  show IsRangeIter _ _ (a+((0:Nat):Int)*1) ((((d - a).toNat:Nat):Int) - ((0:Nat):Int)) 1;rw [x,y];exact Heap.get?_push_size _ rfl
 ·have e:b=(s.heap.push { cls:=.type "range", data:=.fields #[.int a t,.int d u,.int 1 v] }).objs.size:=by simpa using w
  subst e;exact k.fpOk (AR _) (k.hok.fresh (AR _))
def DX (a:TA):TI:=λb H R=>a b H λc d=>∃ j:Int,c=[.int j]/\-(2 ^ 62)<=j/\j<2 ^ 62/\R (ah 0 j.toNat) d
def JC (a:TA):TI:=λb H R=>a b H λc d=>∃ i j:Int,c=[.int i,.int j]/\(-(2 ^ 62)<=i/\i<2 ^ 62/\-(2 ^ 62)<=j/\j<2 ^ 62)/\R (ah i (j - i).toNat) d
theorem FG {a:Expr} {d:TA} {p pos:Pos} (f:Gl X "range") (g:X.mg "range" = none) (i:PA X [a] d) (k:starEach [a] X.env=[(false,eval a X.env)]:=by rfl):PI X tg (.Call (.Name "range" p) [a] [] pos) (DX d):=by
 intro b s m H R I h;refine Call_ (Dx I f g boot_range (PyProof.Rows.callWith_type1 (F_ (i pos b s m H _ I h) λw s1 ⟨x,y,n,o,c⟩=>?_) k rfl));obtain ⟨j,e,c,u,q⟩:=c;subst e;cases o with
 | cons r v=>
   cases v;obtain ⟨t,rfl⟩:=r;exact call_range_1 (NE n ⋯ ⋯ c u (by simpa using q))
theorem U4 {a b:Expr} {k:TA} {p pos:Pos} (m:Gl X "range") (n:X.mg "range" = none) (o:PA X [a,b] k) (u:starEach [a,b] X.env=[(false,eval a X.env),(false,eval b X.env)]:=by rfl) (c:starEach [b] X.env=[(false,eval b X.env)]:=by rfl) :
  PI X tg (.Call (.Name "range" p) [a,b] [] pos) (JC k):=by
 intro d s v H R I h;refine Call_ (Dx I m n boot_range (PyProof.Rows.callWith_type1 (F_ (o pos d s v H _ I h) λC s1 ⟨D,E,w,x,f⟩=>?_) (by rw [u,c]) (by rw [c];rfl)));obtain ⟨i,j,e,⟨f,y,z,A⟩,q⟩:=f;subst e;cases x with
 | cons r g=>
   cases g with
   | cons B g=>
     cases g;obtain ⟨t,rfl⟩:=r;obtain ⟨F,rfl⟩:=B;exact call_range_2 (NE w f y z A q)
def BR (f:TI) (g:TG) (h:TS):TS:=λD a H=>f a H λJ j=>∃ W:Nat->Nat->St->Hp->Prop,(∃ m,W 0 m a j)/\∀ i m a H,W i m a H->
 (J.stop i H/\D.nx a H)\/(J.go i H/\∃ N:St->Hp->Prop,(∀ b c,N b c->∃ e,e<m/\W (i+1) e b c)/\∀ x c,J.yld i H x c->g x a c λd k=>h { D with nx:=N,ct:=N,bk:=D.nx } d k)
noncomputable def JD (a:dw) (h:Heap):dh:=a.filterMap λb=>(h.get? b).map λo=>(b,o)
def JE {a:dw} {h:Heap} {b:Addr} {o:Obj} (c:b∈a) (e:h.get? b=some o):(b,o)∈JD a h:=List.mem_filterMap.mpr ⟨b,c,by rw [e];rfl⟩
theorem U5 {a:dw} {h:Heap} {p:Addr×Obj} (hp:p∈JD a h):p.1∈a/\h.get? p.1=some p.2:=by
 obtain ⟨b,c,e⟩:=List.mem_filterMap.mp hp;cases q:h.get? b with
 | none=>rw [q] at e;cases e
 | some o=>
   rw [q] at e;have d:(b,o)=p:=mF e;subst d;exact ⟨c,q⟩
def Inv.pinned {a:dh} {f:St} {H:Hp} {s:Shared} {c:dw} (I:Inv X a f H s) (i:∀ b∈c,DL X a H b) (j:∀ b∈c,∃ o,s.heap.get? b=some o/\∀ v,o.data≠.cell v):Inv X (a++JD c s.heap) f H s:=
 I.pins_of λp hp=>(CO.mp hp).elim (λz=>I.pin p (C4 _ z)) λz=>by
  obtain ⟨g,e⟩:=U5 z;obtain ⟨k,m,n,_⟩:=i p.1 g;obtain ⟨o,h,d⟩:=j p.1 g;rw [e] at h;cases h;exact ⟨e,k,m,n,d⟩
def Inv.unpinned {a c:dh} {b:St} {H:Hp} {s:Shared} (I:Inv X (a++c) b H s):Inv X a b H s:=I.pins_of λp hp=>I.pin p (C4 _ (F7 _ hp))
def CI {j:Expr} {C:List Stmt} {wi:TI} {g:TG} {tb:TS} {pos:Pos} (hp:PassesOwn (model X.prog X.w) X.A X.env X.xe) (hc:X.calm=true) (hi:PI X tg j wi) (hg:PG X tg g) (k:PSs X C tb)
  (hs:∀ x,foldedSetIterable j X.env x=pure x:=by intro _;rfl):PS X (.For tg j C [] pos) (BR wi g tb):=by
 intro a s σ H D I h;refine wpAny_For (F_ (hi a s σ H _ I h) λv s1 h1=>F_ h1 λa0 s2 h2=>?_) hs;obtain ⟨it,G,tn,J,H2,e,I2,T,S,f2,W,⟨m0,w0⟩,K⟩:=h2;subst e;have p:∀ {B:Hp},(∀ b∈G,B b=none)->∀ b∈G,DL X a B b:=λhn b k=>⟨hn b k,(f2 b k).2⟩;refine codeAny_forLoop_any (λn s'=>∃ i q B,Inv X a q B s'/\tn i s'.heap/\(∀ b∈G,B b=none)/\W i n q B) ?_ m0 ⟨0,σ,H2,I2,S,λb k=>(f2 b k).1,w0⟩;rintro n s3 ⟨i,w,R,I3,L,M,w3⟩;rcases K i n w R w3 with ⟨O,qn⟩ | ⟨go,N,hN,P⟩
 ·refine wpAny_passesOwn hp (F_ (T.done X rfl rfl rfl hc i a s3 w R X.xe I3 (p M) L O) λr s4 ⟨U,I4⟩=>?_);subst U;exact wpAny_execs_nil ⟨w,R,I4,qn⟩
 ·refine wpAny_passesOwn hp (F_ (T.item X rfl rfl rfl hc i a s3 w R X.xe I3 (p M) L go) λr s4 ⟨u,U,h4⟩=>?_);subst U;refine wpAny_passesOwn hp (F_ h4 λ_ s5 ⟨x,H5,I5,r5,y5,F,bR⟩=>?_);have Y:=I5.pinned (p bR) (T.obj _ _ F);refine wpAny_passesOwn hp (F_ (hg _ s5 w H5 x u _ Y r5 (P x H5 y5)) λ_ s6 ⟨Z,H6,I6,q6⟩=>?_);refine wpAny_passesOwn hp (F_ (k _ s6 Z H6 _ I6 q6) λf s7 E=>?_)
  have y:∀ {c:St} {z:Hp},Inv X (a++JD G s5.heap) c z s7->N c z->∃ m,m<n/\∃ i q B,Inv X a q B s7/\tn i s7.heap/\(∀ b∈G,B b=none)/\W i m q B:=λ{c z} A Q=>by
   obtain ⟨m',hm,w7⟩:=hN c z Q;refine ⟨m',hm,i+1,c,z,A.unpinned,T.keep _ _ _ F λb k o e=>(A.pin (b,o) (C4 _ (C4 _ (JE k e)))).1,λb k=>?_,w7⟩;obtain ⟨o,e,d⟩:=T.obj _ _ F b k;exact (A.pin (b,o) (C4 _ (C4 _ (JE k e)))).2.1
  cases f with
  | next=>obtain ⟨c,z,A,Q⟩:=E;exact y A Q
  | cont=>obtain ⟨c,z,A,Q⟩:=E;exact y A Q
  | brk=>obtain ⟨c,z,A,E⟩:=E;exact ⟨c,z,A.unpinned,E⟩
  | ret v=>obtain ⟨x7,c,z,A,r7,E⟩:=E;exact ⟨x7,c,z,A.unpinned,r7,E⟩
end
def U6 {K:W.Frag} {a:Addr} {xs:c_} {g:TG} {k:TS} {D:Ends} {b:St} {H:Hp} (Pv:Nat->St->Hp->Prop) (o:Pv 0 b H) (r:∀ i b H,i<=xs.length->Pv i b H->SqL K H a xs)
  (u:∀ i x b H,xs[i]?=some x->Pv i b H->g x b H λc j=>k { D with nx:=Pv (i+1),ct:=Pv (i+1),bk:=D.nx } c j) (A:∀ b H,Pv xs.length b H->D.nx b H) :
  ∃ W:Nat->Nat->St->Hp->Prop,(∃ m,W 0 m b H)/\∀ i m b H,W i m b H->
    ((aa K a).stop i H/\D.nx b H)\/((aa K a).go i H/\∃ N:St->Hp->Prop,(∀ d f,N d f->∃ n,n<m/\W (i+1) n d f)/\∀ x f,(aa K a).yld i H x f->g x b f λc j=>k { D with nx:=N,ct:=N,bk:=D.nx } c j):=by
 refine ⟨λi m b H=>m=xs.length - i/\i<=xs.length/\Pv i b H,⟨xs.length,by simp,Ae _,o⟩,?_⟩;rintro i m b H ⟨rfl,B,p⟩;have q:=r i b H B p;by_cases h:i<xs.length
 ·refine .inr ⟨⟨xs,xs[i],q,by simp [h]⟩,Pv (i+1),λd f C=>⟨xs.length - (i+1),⋯,rfl,h,C⟩,λx f y=>?_⟩;obtain ⟨e,y⟩:=y;subst e;exact u i x b _ (y xs q) p
 ·have e:i=xs.length:=by omega
  subst e;exact .inl ⟨⟨xs,q,AR _⟩,A b H p⟩
def NF {K:W.Frag} {a:Addr} {xs:c_} {g:TG} {k:TS} {D:Ends} {b:St} {H:Hp} (Pv:Nat->St->Hp->Prop) (o:Pv 0 b H) (r:∀ i b H,i<=xs.length->Pv i b H->SqT K H a xs)
  (u:∀ i x b H,xs[i]?=some x->Pv i b H->g x b H λc j=>k { D with nx:=Pv (i+1),ct:=Pv (i+1),bk:=D.nx } c j) (A:∀ b H,Pv xs.length b H->D.nx b H) :
  ∃ W:Nat->Nat->St->Hp->Prop,(∃ m,W 0 m b H)/\∀ i m b H,W i m b H->
    ((aw K a).stop i H/\D.nx b H)\/((aw K a).go i H/\∃ N:St->Hp->Prop,(∀ d f,N d f->∃ n,n<m/\W (i+1) n d f)/\∀ x f,(aw K a).yld i H x f->g x b f λc j=>k { D with nx:=N,ct:=N,bk:=D.nx } c j):=by
 refine ⟨λi m b H=>m=xs.length - i/\i<=xs.length/\Pv i b H,⟨xs.length,by simp,Ae _,o⟩,?_⟩;rintro i m b H ⟨rfl,B,p⟩;have q:=r i b H B p;by_cases h:i<xs.length
 ·refine .inr ⟨⟨xs,xs[i],q,by simp [h]⟩,Pv (i+1),λd f C=>⟨xs.length - (i+1),⋯,rfl,h,C⟩,λx f y=>?_⟩;obtain ⟨e,y⟩:=y;subst e;exact u i x b _ (y xs q) p
 ·have e:i=xs.length:=by omega
  subst e;exact .inl ⟨⟨xs,q,AR _⟩,A b H p⟩
def U7 {h:Int} {n:Nat} {g:TG} {k:TS} {D:Ends} {a:St} {H:Hp} (Pv:Nat->St->Hp->Prop) (q:Pv 0 a H)
  (r:∀ i a H,i<n->Pv i a H->g (.int (h+i)) a H λb j=>k { D with nx:=Pv (i+1),ct:=Pv (i+1),bk:=D.nx } b j) (z:∀ a H,Pv n a H->D.nx a H) :
  ∃ W:Nat->Nat->St->Hp->Prop,(∃ m,W 0 m a H)/\∀ i m a H,W i m a H->
    ((ah h n).stop i H/\D.nx a H)\/((ah h n).go i H/\∃ N:St->Hp->Prop,(∀ c d,N c d->∃ o,o<m/\W (i+1) o c d)/\∀ x d,(ah h n).yld i H x d->g x a d λb j=>k { D with nx:=N,ct:=N,bk:=D.nx } b j):=by
 refine ⟨λi m a H=>m=n - i/\i<=n/\Pv i a H,⟨n,by simp,Ae _,q⟩,?_⟩;rintro i m a H ⟨rfl,B,p⟩;by_cases f:i<n
 ·refine .inr ⟨f,Pv (i+1),λc d A=>⟨n - (i+1),⋯,rfl,f,A⟩,λx d y=>?_⟩;obtain ⟨e,y⟩:=y;subst e y;exact r i a _ f p
 ·have e:i=n:=by omega
  subst e;exact .inl ⟨AR _,z a H p⟩
noncomputable abbrev R2:=V->V->Hp->VK->Prop
def OpR (X:Cx) (f:Value->Value->Sem Value) (r:R2):Prop:=
 ∀ (a:dh) (s:Shared) (b:St) (H:Hp) (x y:V) (v u:Value) (Q:VK),Inv X a b H s->RelV x v->RelV y u->r x y H Q->
   wpAny (model X.prog X.w) X.A (f v u) (EP X a b Q) X.xe s
def UnR (X:Cx) (f:Value->Sem Value) (r:V->Hp->VK->Prop):Prop:=
 ∀ (a:dh) (s:Shared) (b:St) (H:Hp) (x:V) (v:Value) (Q:VK),Inv X a b H s->RelV x v->r x H Q->
   wpAny (model X.prog X.w) X.A (f v) (EP X a b Q) X.xe s
def Ck (X:Cx) (f:Value) (r:c_->Hp->VK->Prop):Prop:=
 ∀ (a:dh) (s:Shared) (b:St) (H:Hp) (c:c_) (d:dc) (Q:VK),Inv X a b H s->Vals c d->r c H Q->
   wpAny (model X.prog X.w) X.A (call f d) (EP X a b Q) X.xe s
def U8 (X:Cx) (r:V->Hp->(Bool->Hp->Prop)->Prop):Prop:=
 ∀ (a:dh) (s:Shared) (b:St) (H:Hp) (x:V) (v:Value) (Q:Bool->Hp->Prop),Inv X a b H s->RelV x v->r x H Q->
   wpAny (model X.prog X.w) X.A (truthy v) (TP X a b Q) X.xe s
def A_ (r:R2) (b c:TE):TE:=λa H Q=>b a H λx d=>c a d λy e=>r x y e Q
def Q_ (r:V->Hp->VK->Prop) (a:TE):TE:=λb H Q=>a b H λx c=>r x c Q
def rI (C:Int->Int->Prop) (g:Int->Int->V):R2:=λx y H Q=>∃ i j,x=.int i/\y=.int j/\C i j/\Q (g i j) H
def Z_ (g:Int->Int->V):R2:=λx y H Q=>∃ i j,x=.int i/\y=.int j/\Q (g i j) H
def rU (g:Int->V):V->Hp->VK->Prop:=λx H Q=>∃ i,x=.int i/\Q (g i) H
section
variable {X:Cx} {a b c:Expr} {ta tb tc:TE} {pos:Pos}
def Kd (n:PE X a ta) (o:PE X b tb) {d:dh} {s:Shared} {e:St} {H:Hp} {R:V->V->Hp->Prop} (I:Inv X d e H s)
  (h:ta e H λx m=>tb e m λy g=>R x y g) {Q:de} {f:Value->Value->Sem Value}
  (p:∀ v u k x y g,Inv X d e g k->RelV x v->RelV y u->R x y g->wpAny (model X.prog X.w) X.A (f v u) Q X.xe k) :
  wpAny (model X.prog X.w) X.A (eval a X.env) (λv i=>wpAny (model X.prog X.w) X.A (eval b X.env) (λu j=>wpAny (model X.prog X.w) X.A (f v u) Q X.xe j) X.xe i) X.xe s:=by
 refine F_ (n d s e H _ I h) λv s1 ⟨x,m,q,r,w⟩=>?_;refine F_ (o d s1 e m _ q w) λu k ⟨y,g,z,A,B⟩=>?_;exact p v u k x y g z r A B
def AT {e:Operator} {r:R2} (f:OpR X (binaryOp e) r) (g:PE X a ta) (i:PE X b tb):PE X (.BinOp a e b pos) (A_ r ta tb):=by
 intro d s j H Q I h;exact wpAny_BinOp (Kd g i I h λv u k x y m n o p q=>f d k j m x y v u Q n o p q)
def BY {e:UnaryOp} {r:V->Hp->VK->Prop} (g:UnR X (unaryOp e) r) (i:PE X a ta):PE X (.UnaryOp e a pos) (Q_ r ta):=by
 intro d s f H Q I h;exact UnaryOp_ (F_ (i d s f H _ I h) λv s1 ⟨x,j,k,m,n⟩=>g d s1 f j x v Q k m n)
def bo {f:Value->Value->Sem Value} {C:Int->Int->Prop} {g:Int->Int->Int}
  (rule:∀ (i j:Int) (t u:Tok) (s:Shared) (Q:de) (E:de),C i j->Q (.int (g i j) s.toks) { s with toks:=s.toks+1 }->wpAny (model X.prog X.w) X.A (f (.int i t) (.int j u)) Q E s) :
  OpR X f (rI C λi j=>.int (g i j)):=by
 intro e s p H x y v u Q I k m h;obtain ⟨i,j,rfl,rfl,n,q⟩:=h;obtain ⟨t,rfl⟩:=k;obtain ⟨o,rfl⟩:=m;exact rule i j t o s _ _ n ⟨.int (g i j),H,I.tok _,⟨_,rfl⟩,q⟩
def JF {f:Value->Value->Sem Value} {g:Int->Int->Int}
  (rule:∀ (i j:Int) (t u:Tok) (s:Shared) (Q:de) (E:de),Q (.int (g i j) s.toks) { s with toks:=s.toks+1 }->wpAny (model X.prog X.w) X.A (f (.int i t) (.int j u)) Q E s) :
  OpR X f (Z_ λi j=>.int (g i j)):=by
 intro e s o H x y v u Q I k m h;obtain ⟨i,j,rfl,rfl,q⟩:=h;obtain ⟨t,rfl⟩:=k;obtain ⟨n,rfl⟩:=m;exact rule i j t n s _ _ ⟨.int (g i j),H,I.tok _,⟨_,rfl⟩,q⟩
def JG {f:Value->Value->Sem Value} {g:Int->Int->Bool}
  (rule:∀ (i j:Int) (t u:Tok) (s:Shared) (Q:de) (E:de),Q (.bool (g i j)) s->wpAny (model X.prog X.w) X.A (f (.int i t) (.int j u)) Q E s) :
  OpR X f (Z_ λi j=>.bl (g i j)):=by
 intro d s n H x y v u Q I e k h;obtain ⟨i,j,rfl,rfl,q⟩:=h;obtain ⟨t,rfl⟩:=e;obtain ⟨m,rfl⟩:=k;exact rule i j t m s _ _ ⟨.bl (g i j),H,I,rfl,q⟩
def CN:OpR X (binaryOp .Add) (Z_ λi j=>.int (i+j)):=JF λ_ _ _ _ _ _ _ q=>add_int q
def CT:OpR X (binaryOp .Sub) (Z_ λi j=>.int (i - j)):=JF λ_ _ _ _ _ _ _ q=>sub_int q
def DM:OpR X (binaryOp .Mod) (rI (λ_ j=>0<j) λi j=>.int (i % j)):=bo λi j _ _ _ _ _ d q=>by
 have e:(0:Int)<j:=d;exact mod_int' ⋯ (by rw [Int.fmod_eq_emod_of_nonneg i ⋯];exact q)
def U9:OpR X (binaryOp .Mod) (rI (λ_ j=>j≠0) λi j=>.int (i.fmod j)):=bo λ_ _ _ _ _ _ _ d q=>mod_int' d q
def VA:OpR X (inplaceOp .Add) (Z_ λi j=>.int (i+j)):=JF λ_ _ _ _ _ _ _ q=>iadd_int q
def Hv:OpR X (inplaceOp .Sub) (Z_ λi j=>.int (i - j)):=JF λ_ _ _ _ _ _ _ q=>isub_int q
def VB {f:Value->Sem Value} {g:Int->Int}
  (rule:∀ (i:Int) (t:Tok) (s:Shared) (Q:de) (E:de),Q (.int (g i) s.toks) { s with toks:=s.toks+1 }->wpAny (model X.prog X.w) X.A (f (.int i t)) Q E s) :
  UnR X f (rU λi=>.int (g i)):=by
 intro e s k H x v Q I j h;obtain ⟨i,rfl,q⟩:=h;obtain ⟨t,rfl⟩:=j;exact rule i t s _ _ ⟨.int (g i),H,I.tok _,⟨_,rfl⟩,q⟩
def BZ:UnR X (unaryOp .USub) (rU λi=>.int (-i)):=VB λ_ _ _ _ _ q=>neg_int q
end
noncomputable def scal:V->V->Bool
 | .non,.non=>true | .non,.int _=>true | .int _,.non=>true | .non,.bl _=>true | .bl _,.non=>true | .non,.str _=>true | .str _,.non=>true
 | .int _,.int _=>true | .bl _,.bl _=>true | .str _,.str _=>true | .byt _,.byt _=>true
 | .int _,.str _=>true | .str _,.int _=>true | .bl _,.str _=>true | .str _,.bl _=>true
 | _,_=>false
def Y_:R2:=λx y H Q=>scal x y=true/\Q (.bl (decide (x=y))) H
def ae:R2:=λx y H Q=>scal x y=true/\Q (.bl (!decide (x=y))) H
def NG {i j:Int}:decide (V.int i=V.int j)=(i == j):=by
 rw [E3];simp
def NH {i j:Bool}:decide (V.bl i=V.bl j)=(i == j):=by
 rw [E3];simp
def NI {i j:Str}:decide (V.str i=V.str j)=(i == j):=by
 rw [E3];simp
def NJ {i j:Array UInt8}:decide (V.byt i=V.byt j)=(i.toList == j.toList):=by
 rw [E3];cases i;cases j;simp
section
variable {X:Cx} {a b c:Expr} {ta tb tc:TE} {pos:Pos}
def Bi {d:dh} {f:St} {H:Hp} {s:Shared} {Q:VK} {k g:Bool} (I:Inv X d f H s) (q:Q (.bl k) H) (e:k=g):EP X d f Q (.bool g) s:=by
 subst e;exact ⟨.bl k,H,I,rfl,q⟩
theorem Cw:OpR X (compareOp .Eq) Y_:=by
 intro k s m H x y v u Q I g d h;obtain ⟨f,q⟩:=h;cases x with
 | non=>
   cases g;cases y with
   | non=>cases d;exact PySem.EqNone.eq_none_none (Bi I q (by simp))
   | bl j=>cases d;exact PySem.EqNone.eq_none_bool (Bi I q (by simp))
   | int j=>obtain ⟨e,rfl⟩:=d;exact PySem.EqNone.eq_none_int (Bi I q (by simp))
   | str j=>obtain ⟨e,rfl⟩:=d;exact PySem.EqNone.eq_none_str (Bi I q (by simp))
   | _=>exact absurd (show false=true from f) Cc
 | bl i=>
   cases g;cases y with
   | non=>cases d;exact PySem.EqNone.eq_bool_none (Bi I q (by simp))
   | bl j=>cases d;exact eq_bool (Bi I q NH)
   | str j=>obtain ⟨e,rfl⟩:=d;exact PySem.EqMixed.eq_bool_str (Bi I q (by simp))
   | _=>exact absurd (show false=true from f) Cc
 | int i=>
   obtain ⟨t,rfl⟩:=g;cases y with
   | non=>cases d;exact PySem.EqNone.eq_int_none (Bi I q (by simp))
   | int j=>obtain ⟨e,rfl⟩:=d;exact eq_int (Bi I q NG)
   | str j=>obtain ⟨e,rfl⟩:=d;exact PySem.EqMixed.eq_int_str (Bi I q (by simp))
   | _=>exact absurd (show false=true from f) Cc
 | str i=>
   obtain ⟨t,rfl⟩:=g;cases y with
   | non=>cases d;exact PySem.EqNone.eq_str_none (Bi I q (by simp))
   | bl j=>cases d;exact PySem.EqMixed.eq_str_bool (Bi I q (by simp))
   | int j=>obtain ⟨e,rfl⟩:=d;exact PySem.EqMixed.eq_str_int (Bi I q (by simp))
   | str j=>obtain ⟨e,rfl⟩:=d;exact eq_str (Bi I q NI)
   | _=>exact absurd (show false=true from f) Cc
 | byt i=>
   obtain ⟨t,rfl⟩:=g;cases y with
   | byt j=>obtain ⟨e,rfl⟩:=d;exact W.eq_bytes (Bi I q NJ)
   | _=>exact absurd (show false=true from f) Cc
 | _=>cases y <;> exact absurd (show false=true from f) Cc
theorem EL:OpR X (compareOp .NotEq) ae:=by
 intro k s m H x y v u Q I g d h;obtain ⟨f,q⟩:=h;cases x with
 | non=>
   cases g;cases y with
   | non=>cases d;exact PySem.EqNone.ne_none_none (Bi I q (by simp))
   | bl j=>cases d;exact PySem.EqNone.ne_none_bool (Bi I q (by simp))
   | int j=>obtain ⟨e,rfl⟩:=d;exact PySem.EqNone.ne_none_int (Bi I q (by simp))
   | str j=>obtain ⟨e,rfl⟩:=d;exact PySem.EqNone.ne_none_str (Bi I q (by simp))
   | _=>exact absurd (show false=true from f) Cc
 | bl i=>
   cases g;cases y with
   | non=>cases d;exact PySem.EqNone.ne_bool_none (Bi I q (by simp))
   | bl j=>cases d;exact ne_bool (Bi I q (congrArg not NH))
   | str j=>obtain ⟨e,rfl⟩:=d;exact PySem.EqMixed.ne_bool_str (Bi I q (by simp))
   | _=>exact absurd (show false=true from f) Cc
 | int i=>
   obtain ⟨t,rfl⟩:=g;cases y with
   | non=>cases d;exact PySem.EqNone.ne_int_none (Bi I q (by simp))
   | int j=>obtain ⟨e,rfl⟩:=d;exact ne_int (Bi I q (congrArg not NG))
   | str j=>obtain ⟨e,rfl⟩:=d;exact PySem.EqMixed.ne_int_str (Bi I q (by simp))
   | _=>exact absurd (show false=true from f) Cc
 | str i=>
   obtain ⟨t,rfl⟩:=g;cases y with
   | non=>cases d;exact PySem.EqNone.ne_str_none (Bi I q (by simp))
   | bl j=>cases d;exact PySem.EqMixed.ne_str_bool (Bi I q (by simp))
   | int j=>obtain ⟨e,rfl⟩:=d;exact PySem.EqMixed.ne_str_int (Bi I q (by simp))
   | str j=>obtain ⟨e,rfl⟩:=d;exact ne_str (Bi I q (congrArg not NI))
   | _=>exact absurd (show false=true from f) Cc
 | byt i=>
   obtain ⟨t,rfl⟩:=g;cases y with
   | byt j=>obtain ⟨e,rfl⟩:=d;exact W.ne_bytes (Bi I q (congrArg not NJ))
   | _=>exact absurd (show false=true from f) Cc
 | _=>cases y <;> exact absurd (show false=true from f) Cc
def Hw:OpR X (compareOp .Lt) (Z_ λi j=>.bl (decide (i<j))):=JG λ_ _ _ _ _ _ _ q=>lt_int q
def VC:OpR X (compareOp .LtE) (Z_ λi j=>.bl (decide (i<=j))):=JG λ_ _ _ _ _ _ _ q=>le_int q
def Fe:OpR X (compareOp .Gt) (Z_ λi j=>.bl (decide (j<i))):=JG λ_ _ _ _ _ _ _ q=>gt_int q
def NK:OpR X (compareOp .GtE) (Z_ λi j=>.bl (decide (j<=i))):=JG λ_ _ _ _ _ _ _ q=>ge_int q
def NL:OpR X (compareOp .Is) (λx y H Q=>y=.non/\Q (.bl (decide (x=.non))) H):=by
 intro d s g H x y v u Q I e f h;obtain ⟨rfl,q⟩:=h;cases f;refine is_none_gen (Bi I q ?_)
 cases x <;> first
  | (cases e;rfl)
  | (obtain ⟨t,rfl⟩:=e;rfl)
def VD:OpR X (compareOp .IsNot) (λx y H Q=>y=.non/\Q (.bl (!decide (x=.non))) H):=by
 intro d s g H x y v u Q I e f h;obtain ⟨rfl,q⟩:=h;cases f;refine isnot_none_gen (Bi I q ?_)
 cases x <;> first
  | (cases e;rfl)
  | (obtain ⟨t,rfl⟩:=e;rfl)
def T_ (b:Expr) {d:CmpOp} (h:d≠.In:=by decide) (e:d≠.NotIn:=by decide):behindInMarks d b=false:=by
 have f:(d == CmpOp.In)=false:=by cases d <;> first | rfl | exact absurd rfl h
 have g:(d == CmpOp.NotIn)=false:=by cases d <;> first | rfl | exact absurd rfl e
 cases b <;> simp [behindInMarks,f,g]
def Hy {e:CmpOp} {r:R2} (f:OpR X (compareOp e) r) (g:PE X a ta) (i:PE X b tb) (j:behindInMarks e b=false):PE X (.Compare a [e] [b] pos) (A_ r ta tb):=by
 intro d s k H Q I h;exact wpAny_Compare1 (Kd g i I h λv u m x y n o p w q=>f d m k n x y v u Q o p w q) j
def Aq (t:TE):TT:=λd H Q=>t d H λx e=>∃ k,x=.bl k/\Q k e
def NM {f:CmpOp} {r:R2} (i:OpR X (compareOp f) r) (j:PE X a ta) (m:PE X b tb) (n:behindInMarks f b=false):PT X (.Compare a [f] [b] pos) (Aq (A_ r ta tb)):=by
 intro d s g H Q I h
 refine wpAny_isTrue_Compare1 (F_ (j d s g H _ I h) λv s1 ⟨x,o,p,q,w⟩=>F_ (m d s1 g o _ p w) λu A ⟨y,B,C,D,E⟩=>
  F_ (i d A g B x y v u _ C q D E) λc L ⟨z,F,G,J,k,e,K⟩=>?_) n
 subst e;cases J;exact wpAny_truthy_bool ⟨F,G,K⟩
def VE (r f:R2) (ta tb tc:TE):TE:=λd H Q=>ta d H λx g=>tb d g λy h=>r x y h λz e=>∃ k,z=.bl k/\
 (if k=true then tc d e λi j=>f y i j Q else Q (.bl false) e)
def VF (K:W.Frag) (x:V) (H:Hp) (k:Bool):Prop:=
 match x with
 | .non=>k=false
 | .bl b=>k=b
 | .int i=>k=(i != 0)
 | .str y=>y.length<=sizeLine/\k=((y.length:Int) != 0)
 | .byt y=>y.size<=sizeLine/\k=((y.size:Int) != 0)
 | .ref p=>(∃ d,SqL K H p d/\k=!d.isEmpty)\/(∃ d,SqT K H p d/\k=!d.isEmpty)\/∃ e,H p=some (.dK e)/\k=!e.isEmpty
 | _=>False
def VG {d:Type} {kvs:List (d×V)} {vs:List (d×Value)} (r:KV kvs vs):(!vs.isEmpty)=!kvs.isEmpty:=by
 cases r <;> rfl
def NO {xs:c_} {its:dc} (r:Vals xs its):(!its.toArray.isEmpty)=!xs.isEmpty:=by
 cases r <;> simp
def Gz:(sizeLine:Nat)<2 ^ 63:=by rw [sizeLine_eq];decide
theorem VH:U8 X (λx H Q=>∃ k,VF X.K x H k/\Q k H):=by
 intro A s E H x v Q I n h;obtain ⟨k,e,q⟩:=h;have F:=Gz;have G:sizeLine=16777216:=sizeLine_eq;cases x with
 | non=>
   cases n;have d:k=false:=e;subst d;exact truthy_none ⟨H,I,q⟩
 | bl b=>
   cases n;have d:k=b:=e;subst d;exact wpAny_truthy_bool ⟨H,I,q⟩
 | int i=>
   obtain ⟨t,rfl⟩:=n;have d:k=(i != 0):=e;subst d;exact PySem.P.truthy_int ⟨H,I,q⟩
 | str y=>
   obtain ⟨t,rfl⟩:=n;obtain ⟨C,d⟩:y.length<=sizeLine/\k=((y.length:Int) != 0):=e;subst d;exact PySem.P.truthy_str ⋯ ⟨H,I.tok _,q⟩
 | byt y=>
   obtain ⟨t,rfl⟩:=n;obtain ⟨C,d⟩:y.size<=sizeLine/\k=((y.size:Int) != 0):=e;subst d;exact W.truthy_bytes ⋯ ⟨H,I.tok _,q⟩
 | ref p=>
   cases n;have d:(∃ j,SqL X.K H p j/\k=!j.isEmpty)\/(∃ j,SqT X.K H p j/\k=!j.isEmpty)\/∃ f,H p=some (.dK f)/\k=!f.isEmpty:=e;rcases d with ⟨j,o,d⟩ | ⟨j,o,d⟩ | ⟨f,o,d⟩
   ·subst d;obtain ⟨w,r,z,B⟩:=I.list o;have g:=r.length;exact wpAny_truthy_list z.isList (by simp only [BJ];omega) ⟨H,I.tok _,by rw [NO r];exact q⟩
   ·subst d;obtain ⟨w,r,z,B⟩:=I.tuple o;have g:=r.length;exact truthy_tuple z (by simp only [BJ];omega) ⟨H,I.tok _,by rw [NO r];exact q⟩
   ·subst d;obtain ⟨B,D,u,r,m⟩:f.length<=sizeLine/\(p == sysModules)=false/\∃ u,KV f u/\s.heap.DictOf (Dk X.prog X.w) p u:=I.hok p _ o;have g:f.length=u.length:=Paired.length r;exact wpAny_truthy_dict D m ⋯ ⟨H,I.tok _,by rw [VG r];exact q⟩
 | _=>exact (show False from e).elim
theorem EM {x:V} {d:dc} (r:Vals [x] d):∃ u,d=[u]/\RelV x u:=by
 cases r with
 | cons e f=>cases f;exact ⟨_,rfl,e⟩
theorem vals2 {x y:V} {d:dc} (r:Vals [x,y] d):∃ u e,d=[u,e]/\RelV x u/\RelV y e:=by
 cases r with
 | cons f g=>
   cases g with
   | cons h i=>cases i;exact ⟨_,_,rfl,f,h⟩
def VI:Ck X (.builtin "abs") (λd H Q=>∃ i,d=[.int i]/\Q (.int (if i<0 then -i else i)) H):=by
 intro e s f H d g Q I r h;obtain ⟨i,rfl,q⟩:=h;obtain ⟨u,rfl,t,rfl⟩:=EM r;exact call_abs_int λu j=>⟨.int (if i<0 then -i else i),H,I.tok _,⟨_,rfl⟩,q⟩
def VJ (g:X.calm=true):Ck X (.builtin "max") (λe H Q=>∃ i j,e=[.int i,.int j]/\Q (.int (if j > i then j else i)) H):=by
 intro f s m H e n Q I r h;obtain ⟨i,j,rfl,q⟩:=h;obtain ⟨u,o,rfl,⟨t,rfl⟩,⟨p,rfl⟩⟩:=vals2 r;refine max_two_ints (I.ok.hd g) λv w k=>⟨_,H,I.kept k,?_,q⟩;by_cases d:j > i
 ·rw [nV d,nV d];exact ⟨_,rfl⟩
 ·rw [nU d,nU d];exact ⟨_,rfl⟩
end
structure ObjM (h:Heap) (x dx C:Addr) (mA:di):Prop where
 obj:h.get? x=some (W.instObj C dx)
 ns:h.Ns1 dx mA
 ne:dx≠x
def VL {h:Heap} {d:Addr} {f:di} (n:h.Ns1 d f):∃ g,h.get? d=some g/\∀ b,W.lookIn b g=some (f b):=by
 obtain ⟨o,i,u,j,k,hk,_,m⟩:=n;refine ⟨o,j,λb=>?_⟩;have e:=m b;unfold nsFind findBy at e;rw [<-Array.find?_toList] at e;unfold W.lookIn;rw [k];dsimp only;split
 ·rename_i y q;rw [q] at e;exact congrArg some e
 ·rename_i q;rw [q] at e
  have a:i.toList.any (·.refKey)=false:=by
   rw [List.any_eq_false];intro y p;obtain ⟨z,t,c⟩:=hk y (Array.mem_toList_iff.mp p);simp [DictEntry.refKey,c]
  have r:¬ i.toList.any (·.refKey)=true:=by rw [a];exact Cc
  rw [nU r];exact congrArg some e
def ObjM.look {h:Heap} {x c C:Addr} {d:di} (I:ObjM h x c C d):∃ b,W.InstAt h x (W.instObj C c) C (some b)/\∀ a,W.lookIn a b=some (d a):=
 let ⟨b,e,f⟩:=VL I.ns
 ⟨b,⟨I.obj,rfl,rfl,e⟩,f⟩
section
variable {P:Program} {w:World} {H H':Hp} {h h':Heap} {a C dx:Addr} {fs fs':List (Str×V)}
def VM (c:HOk P w H h) (e:H a=some (.ins C dx fs)):∃ b,ObjM h a dx C b/\(∀ f,KZ (fs.lookup f) (b f))/\PySem.Within b (fs.map (·.1))/\fs.length<=1000/\H dx=some (.own a):=by
 obtain ⟨d,z,g,i,b,n,r,q⟩:=(show ObjOk P w H h a (.ins C dx fs) from c a _ e);exact ⟨b,⟨i,n,g⟩,r,q,z,d⟩
end
structure Cls (K:W.Frag) (C:Addr):Prop where
 pg:W.plainGet K C Str.empty=true
 hd:W.hasDictIn K C=true
 po:W.plainOver K C=true
 sa:W.findIn K (.ref C) "__setattr__" = some (some (.builtin "object.__setattr__"))
def Cls.get {K:W.Frag} {C:Addr} (c:Cls K C) (f:Str):W.plainGet K C f=true:=c.pg
structure Con (K:W.Frag) (C:Addr) (f:Str) (v:V) (u:Value):Prop where
 at_:W.findIn K (.ref C) f=some (some u)
 rel:RelV v u
 get:W.specialIn K u "__get__" = some none
 cp:W.copiedNames.contains f=false
structure Meth (K:W.Frag) (C:Addr) (m:Str) (f:Addr):Prop where
 at_:W.findIn K (.ref C) m=some (some (.ref f))
 fn:W.isFn K (.ref f)=true
 kp:W.keepIn K (.ref f)=true
section
variable {X:Cx} {pins:dh} {σ:St} {H:Hp} {s:Shared} {A:Around} {E:de} {Q:de} {c:Value} {b:Bool}
inductive TyOf (K:W.Frag) (H:Hp):V->Value->Prop where
 | non:TyOf K H .non (.type "NoneType")
 | bl (x:Bool):TyOf K H (.bl x) (.type "bool")
 | int (i:Int):TyOf K H (.int i) (.type "int")
 | str (x:Str):TyOf K H (.str x) (.type "str")
 | flt (x:UInt64):TyOf K H (.flt x) (.type "float")
 | lst {a:Addr} {xs:c_} (e:H a=some (.lst xs)):TyOf K H (.ref a) (.type "list")
 | frz {a:Addr} {o:Obj} {xs:c_} (e:H a=some (.frz o (.lst xs))):TyOf K H (.ref a) (.type "list")
 | tup {a:Addr} {xs:c_} (e:H a=some (.tup xs)):TyOf K H (.ref a) (.type "tuple")
 | dK {a:Addr} {kvs:List (D_×V)} (e:H a=some (.dK kvs)):TyOf K H (.ref a) (.type "dict")
 | dT {a:Addr} {kvs:List (List D_×V)} (e:H a=some (.dT kvs)):TyOf K H (.ref a) (.type "dict")
 | ins {a C dx:Addr} {fs:List (Str×V)} (e:H a=some (.ins C dx fs)) (cl:Cls K C) (ha:W.findIn K (.ref C) "__class__" = some (some (.builtin "object.__class__")))
   (hn:W.specialIn K (.builtin "object.__class__") "__get__" = some (some (.builtin "getset_descriptor.__get__"))) (htk:W.takesIn K (.builtin "object.__class__")=some true)
   (hm:W.mroIn K C (.type "object")=some true):TyOf K H (.ref a) (.ref C)
theorem VN {x:V} {u t:Value} (I:Inv X pins σ H s) (d:RelV x u) (B:TyOf X.K H x t) (e:W.kitOne X.K t c=some b) (h:∀ D,Q (.bool b) { s with toks:=D }) :
  wpAny (model X.prog X.w) A (call (.builtin "isinstance") [u,c]) Q E s:=by
 cases B with
 | non=>cases (show u=Value.none from d);exact W.kia_one W.kitx_none I.kIn True.intro e (λz=>nomatch z) h
 | bl y=>cases (show u=Value.bool y from d);exact W.kia_one W.kitx_bool I.kIn True.intro e (λz=>nomatch z) h
 | int i=>obtain ⟨t,q⟩:=(show ∃ t,u=Value.int i t from d);cases q;exact W.kia_one W.kitx_int I.kIn True.intro e (λz=>nomatch z) h
 | str y=>obtain ⟨t,q⟩:=(show ∃ t,u=Value.str y t from d);cases q;exact W.kia_one W.kitx_str I.kIn True.intro e (λz=>nomatch z) h
 | flt y=>obtain ⟨t,q⟩:=(show ∃ t,u=Value.float y t from d);cases q;exact W.kia_one W.kitx_float I.kIn True.intro e (λz=>nomatch z) h
 | @lst a k f=>
   cases (show u=Value.ref a from d);obtain ⟨_,_,n,_,g⟩:=(show ObjOk X.prog X.w H s.heap a (.lst k) from I.hok a _ f);exact W.kia_one W.kitx_list I.kIn ⟨_,g,rfl⟩ e (λz=>nomatch z) h
 | @frz a F k f=>
   cases (show u=Value.ref a from d);obtain ⟨_,_,_,n,_,g⟩:=(show ObjOk X.prog X.w H s.heap a (.frz F (.lst k)) from I.hok a _ f);exact W.kia_one W.kitx_list I.kIn ⟨_,g,rfl⟩ e (λz=>nomatch z) h
 | @tup a k f=>
   cases (show u=Value.ref a from d);obtain ⟨_,_,_,p⟩:=(show ObjOk X.prog X.w H s.heap a (.tup k) from I.hok a _ f);obtain ⟨o,g,m,_⟩:=p;exact W.kia_one W.kitx_tuple I.kIn ⟨o,g,m⟩ e (λz=>nomatch z) h
 | @dK a j f=>
   cases (show u=Value.ref a from d);obtain ⟨_,_,P,_,p⟩:=(show ObjOk X.prog X.w H s.heap a (.dK j) from I.hok a _ f);obtain ⟨o,G,K,g,m,_⟩:=p;exact W.kia_one W.kitx_dict I.kIn ⟨o,g,m.1⟩ e (λz=>nomatch z) h
 | @dT a j f=>
   cases (show u=Value.ref a from d);obtain ⟨_,_,k,_,o,G,K,g,m,_⟩:=(show ObjOk X.prog X.w H s.heap a (.dT j) from I.hok a _ f);exact W.kia_one W.kitx_dict I.kIn ⟨o,g,m.1⟩ e (λz=>nomatch z) h
 | @ins a C R S f w L M r N=>
   cases (show u=Value.ref a from d);obtain ⟨T,O,_⟩:=VM I.hok f;obtain ⟨U,J,_⟩:=O.look;exact W.kia_one (W.kitx_own (w.get _) w.hd L M r N) I.kIn J e (λz=>nomatch z) h
end
structure Room (k:Nat) (A:Around):Prop where
 hd:A.handled=none
 dp:A.depth+3*k+105<recursionLimit
 un:A.units+16*k+200<cLine
def Room.mono {j k:Nat} {A:Around} (r:Room k A) (h:j<=k):Room j A:=⟨r.hd,by have:=r.dp;omega,by have:=r.un;omega⟩
def Room.deeper {k:Nat} {A:Around} (r:Room (k+1) A) (a:Env):Room k (A.deeper a):=
 ⟨r.hd,by have:=r.dp;show A.depth+1+3*k+105<_;omega,by have:=r.un;show A.units+3+16*k+200<_;omega⟩
def Room.depth {k:Nat} {A:Around} (r:Room k A):A.depth<recursionLimit:=by have:=r.dp;omega
def Room.units {k:Nat} {A:Around} (r:Room k A):A.units+64<cLine:=by have:=r.un;omega
def Room.units0 {k:Nat} {A:Around} (r:Room k A):A.units<cLine:=by have:=r.un;omega
def AC:TA:=λ_ H Q=>Q [] H
def AB (b:TE) (tr:TA):TA:=λa H Q=>b a H λx c=>tr a c λd e=>Q (x::d) e
section
variable {X:Cx} {e:Expr} {es:dj} {te:TE} {t:TA} {pos:Pos}
def AH:PA X [] AC:=λ_ _ _ _ H Q I h=>Calls.spliced_nil ⟨[],H,I,.nil,h⟩
def AD (c:PE X e te) (d:PA X es t) (f:starEach (e::es) X.env=(false,eval e X.env)::starEach es X.env:=by rfl):PA X (e::es) (AB te t):=by
 intro pos a s b H Q I h;rw [f];show wpAny _ _ (spliced ((false,eval e X.env)::backTo pos (starEach es X.env))) _ _ s;refine Calls.spliced_cons (F_ (c a s b H _ I h) λu s1 ⟨x,g,i,j,k⟩=>?_);exact F_ (d pos a s1 b g _ i k) λr v ⟨m,n,o,p,q⟩=>⟨x::m,n,o,.cons j p,q⟩
def Ar (t:TA):TE:=λc H Q=>t c H λa b=>a.length<=sizeLine/\∀ p,b p=none->Q (.ref p) (upd b p (.tup a))
def BF (t:TA):TE:=λc H Q=>t c H λa b=>a.length<=sizeLine/\∀ p,b p=none->Q (.ref p) (upd b p (.lst a))
def A6 {x1} (h:PA X es t):PE X (.Tuple es x1 pos) (Ar t):=by
 intro a s f H Q I g;refine wpAny_Tuple_spliced (F_ (h pos a s f H _ I g) λi s1 ⟨j,c,d,r,z,q⟩=>⟨by rw [<-r.length];exact z,?_⟩);have k:c s1.heap.objs.size=none:=d.hok.fresh (AR _);refine ⟨.ref s1.heap.objs.size,upd c s1.heap.objs.size (.tup j),d.laid (t':=s1.toks) (λb u e=>Heap.get?_push_of_some _ e) (AR _) ?_,rfl,q _ k⟩;exact ⟨z,i,r,⟨_,Heap.get?_push_size _ rfl,rfl,_,rfl⟩⟩
def BV (h:PA X es t):PE X (.List es pos) (BF t):=by
 intro a s f H Q I g;refine wpAny_List_spliced (F_ (h pos a s f H _ I g) λi s1 ⟨j,c,d,r,z,q⟩=>⟨by rw [<-r.length];exact z,?_⟩);have k:c s1.heap.objs.size=none:=d.hok.fresh (AR _);refine ⟨.ref s1.heap.objs.size,upd c s1.heap.objs.size (.lst j),d.laid (t':=s1.toks) (λb u e=>Heap.get?_push_of_some _ e) (AR _) ?_,rfl,q _ k⟩;exact ⟨z,i,0,r,Heap.get?_push_size _ rfl⟩
end
noncomputable abbrev Sp:=c_->Hp->VK->XK->Prop
noncomputable abbrev aC:=List Env->Hp->Shared->XK->de
structure Env0 (P:Program) (w:World) (K:W.Frag) (mg:di) (base:Heap) (A:Around) (outer:List Env) (s:Shared) (H:Hp):Prop where
 frames:A.frames=some outer
 mod:Mod K mg base
 bs:∀ b o,base.get? b=some o->s.heap.get? b=some o/\H b=none
 bsz:base.objs.size<=s.heap.objs.size
 funs:s.heap.FunFrames base outer
 frf:∀ b∈ak outer,H b=none
 hok:HOk P w H s.heap
 bare:AllBare s.gens
 seer:base.NoSeer
 tree:(model P w).prog.given.tree=none
def CE (a:List Env) (P:Program) (w:World) (H:Hp) (s:Shared) (Q:VK) (u:Value) (s':Shared):Prop:=
 ∃ v b,s'.os=s.os/\AllBare s'.gens/\Un (ak a) [] H b s.heap s'.heap/\HOk P w b s'.heap/\RelV v u/\Q v b
def CR (CX:aC) (a:List Env) (P:Program) (w:World) (H:Hp) (s:Shared) (Q:VK) (E:XK) (r:Result) (s':Shared):Prop:=
 match r with
 | .ok (.ret u)=>CE a P w H s Q u s'
 | .ok _=>False
 | .error e=>CX a H s E e s'
structure FnOk (P:Program) (w:World) (K:W.Frag) (mg:di) (base:Heap) (CX:aC) (k:Nat) (f:Addr) (fd:FuncData) (ps:dt) (sp:Sp):Prop where
 len:∀ vs H Q E,sp vs H Q E->vs.length=ps.length
 run:∀ (A:Around) (outer:List Env) (s:Shared) (H:Hp) (args:Args) (us:dc) (vs:c_) (Q:VK) (E:XK),Room k A->Env0 P w K mg base A outer s H->BindsTo s fd args (ps.zip us)->Vals vs us->sp vs H Q E->
  codeAny (model P w) A (.call (.ref f) args) (CR CX outer P w H s Q E) s
section
variable {X:Cx} {pins:dh} {σ:St} {H:Hp} {s s':Shared}
def Inv.env0 (I:Inv X pins σ H s):Env0 X.prog X.w X.K X.mg X.base X.A X.stack s H:=
 ⟨I.ok.frames,I.ok.mod,I.bs,Bg I.ok.bsz I.sz,I.stack,I.stkFree,I.hok,I.bare,I.ok.seer,I.ok.tree⟩
def Inv.after {Q:VK} {u:Value} (I:Inv X pins σ H s) (h:CE X.stack X.prog X.w H s Q u s'):EP X pins σ Q u s':=by
 obtain ⟨v,f,os,a,i,c,r,q⟩:=h;obtain ⟨j,g,d,t,e⟩:=s';obtain rfl:e=s.os:=os;exact ⟨v,f,I.call (h':=j) (g':=g) (d':=d) (t':=t) (ch:=[]) i c a (λb z=>absurd z (by simp)),r,q⟩
end
def AK (sp:Sp) (a:c_) (E:XK) (t:TA):TE:=λb H Q=>t b H λc d=>sp (c++a) d Q E
def Binds (K:W.Frag) (c:FuncData) (ps:dt) (b:dc):Prop:=
 ∀ (s:Shared) (a:dc),K.In s.heap->(a++b).length=ps.length->BindsTo s c ⟨a,[]⟩ (ps.zip (a++b))
def Binds.all {K:W.Frag} {b:FuncData} {ps:dt} (h:∀ a:dc,a.length=ps.length->bindArgs b ⟨a,[]⟩=pure (ps.zip a)):Binds K b ps []:=λs a _ c=>by
 rw [List.append_nil] at c ⊢;exact .of_eq (h a c)
def af (CX:aC) (X:Cx) (E:XK):Prop:=∀ (a:dh) (c:St) (H:Hp) (s:Shared) (e:Value) (b:Shared),Inv X a c H s->CX X.stack H s E e b->X.xe e b
section
variable {X:Cx} {CX:aC} {k:Nat} {f C:Addr} {fd:FuncData} {ps:dt} {sp:Sp} {dvs:c_} {ds:dc} {E:XK} {x m:Str} {p pos apos:Pos} {e o:Expr} {es:dj} {ta:TE} {t:TA}
theorem VO {a:dh} {d:St} {H:Hp} {s:Shared} {Q:VK} {b:dc} {vs:c_} (F:FnOk X.prog X.w X.K X.mg X.base CX k f fd ps sp) (i:Room k X.A) (j:Binds X.K fd ps ds) (n:Vals dvs ds) (q:af CX X E)
  (I:Inv X a d H s) (r:Vals vs b) (h:sp (vs++dvs) H Q E):wpAny (model X.prog X.w) X.A (call (.ref f) b) (EP X a d Q) X.xe s:=by
 have g:Vals (vs++dvs) (b++ds):=r.append n;have v:(b++ds).length=ps.length:=by rw [<-g.length];exact F.len _ _ _ _ h
 refine wpAny_call (codeAny_mono (F.run X.A X.stack s H ⟨b,[]⟩ (b++ds) (vs++dvs) Q E i I.env0 (j s b I.kIn v) g h) λr w c=>?_);cases r with
 | error e=>exact q a d H s e w I c
 | ok y=>
   cases y with
   | ret u=>exact I.after c
   | next=>exact False.elim c
   | brk=>exact False.elim c
   | cont=>exact False.elim c
def VP (F:FnOk X.prog X.w X.K X.mg X.base CX k f fd ps sp) (g:Room k X.A) (i:Gl X x) (j:X.mg x=some (.ref f)) (hk:W.keepIn X.K (.ref f)=true) (n:Binds X.K fd ps ds) (u:Vals dvs ds) (v:af CX X E)
  (w:PA X (e::es) t) (b:(x == ("__debug__" : Str))=false:=by decide) (y:starEach (e::es) X.env=(false,eval e X.env)::starEach es X.env:=by rfl) (c:(backTo pos (starEach es X.env)).any (·.1)=false:=by rfl) :
  PE X (.Call (.Name x p) (e::es) [] pos) (AK sp dvs E t):=by
 intro a s z H Q I h;refine wpAny_Call_Name_kw (NA I i j ?_ b);refine W.callWith_K (h₀:=X.base) I.ok.mod.kin hk (F_ (w pos a s z H _ I h) λA s1 ⟨B,D,d,r,q⟩=>⟨d.kIn,?_⟩) y c;exact VO F g n u v d r q
structure Mk (K:W.Frag) (C f:Addr):Prop where
 makes:W.makesIn K C=true
 init:W.findIn K (.ref C) "__init__" = some (some (.ref f))
 fn:W.isFn K (.ref f)=true
 kp:W.keepIn K (.ref C)=true
end
def PK (X:Cx) (b:List Keyword) (t:TA):Prop:=
 ∀ (c:Pos) (a:dh) (s:Shared) (d:St) (H:Hp) (Q:c_->Hp->Prop),Inv X a d H s->t d H Q->wpAny (model X.prog X.w) X.A (evalAll ((backToKw c (keywordEach b X.env)).map (·.2))) (AP X a d Q) X.xe s
section
variable {X:Cx} {CX:aC} {k:Nat} {f C:Addr} {fd:FuncData} {ps ks:dt} {sp:Sp} {E:XK} {x m:Str} {p pos apos kpos:Pos} {e o:Expr} {es:dj} {kws:List Keyword} {te ta:TE} {t tk:TA} {nm:Option Str}
def NP:PK X [] AC:=λ_ _ _ _ H Q I h=>wpAny_evalAll_nil ⟨[],H,I,.nil,h⟩
def NQ (c:PE X e te) (d:PK X kws t):PK X (⟨nm,e,kpos⟩::kws) (AB te t):=by
 intro pos a s b H Q I h;show wpAny _ _ (evalAll ((do let v <-eval e X.env;standAt pos;pure v)::(backToKw pos (keywordEach kws X.env)).map (·.2))) _ _ s;refine wpAny_evalAll_cons (mC (F_ (c a s b H _ I h) λu s1 ⟨x,g,i,j,n⟩=>mC (wpAny_standAt (mD ?_))));exact F_ (d pos a s1 b g _ i n) λA B ⟨q,r,w,y,z⟩=>⟨x::q,r,w,.cons j y,z⟩
structure KBinds (K:W.Frag) (fd:FuncData) (ps ks:dt) (g:dc->dc->dc) (gV:c_->c_->c_):Prop where
 to:∀ (s:Shared) (us ws:dc),K.In s.heap->(g us ws).length=ps.length->BindsTo s fd ⟨us,ks.zip ws⟩ (ps.zip (g us ws))
 rel:∀ {vs:c_} {us:dc} {zs:c_} {ws:dc},Vals vs us->Vals zs ws->Vals (gV vs zs) (g us ws)
variable {g:dc->dc->dc} {gV:c_->c_->c_}
end
structure FnScope (N P:dt) (sc:Scope):Prop where
 kind:sc.kind=.function
 co:sc.isCoroutine=false
 gen:sc.isGenerator=false
 nd:N.Nodup
 pre:N.take P.length=P
 par:∀ x∈P,sc.names.lookup x=some .local\/sc.names.lookup x=some .cell
 nofree:∀ y∈sc.names,y.2≠.free
theorem NR {kindOf:Str->Option NameKind} {x:Str}:∀ {a:List (Str×Value)} {m:di},(∀ v,(x,v)∉a)->bindL kindOf a m x=m x
 | [],_,_=>rfl
 | (n,v)::r,m,h=>by
   unfold bindL;rw [NR λw b=>h w (A3 _ b)];split
   ·have:x≠n:=by rintro rfl;exact h v Au
    simp [this]
   ·rfl
theorem NS {kindOf:Str->Option NameKind} {x:Str}:∀ {a:List (Str×Value)} {m:di},(∀ v,(x,v)∉a)->bindC kindOf a m x=m x
 | [],_,_=>rfl
 | (n,v)::r,m,h=>by
   unfold bindC;rw [NS λw b=>h w (A3 _ b)];split
   ·rfl
   ·have:x≠n:=by rintro rfl;exact h v Au
    simp [this]
theorem NT {kindOf:Str->Option NameKind} {x:Str} {v:Value}:∀ {P:dt} {vs:dc} {i:Nat} {m:di},P.Nodup->P[i]?=some x->vs[i]?=some v->kindOf x=some .local->
  bindL kindOf (P.zip vs) m x=some v
 | [],_,_,_,_,h,_,_=>by simp at h
 | _::_,[],_,_,_,_,h,_=>by simp at h
 | p::P,w::vs,0,m,c,a,b,hk=>by
   simp at a b;subst a;subst b;show bindL kindOf ((p,w)::P.zip vs) m p=_;unfold bindL;rw [NR λv d=>(Dh.mp c).1 (List.of_mem_zip d).1,nV hk];simp
 | p::P,w::vs,i+1,m,c,a,b,hk=>by
   show bindL kindOf ((p,w)::P.zip vs) m x=_;unfold bindL;exact NT (i:=i) (Dh.mp c).2 (by simpa using a) (by simpa using b) hk
theorem NU {kindOf:Str->Option NameKind} {x:Str} {v:Value}:∀ {P:dt} {vs:dc} {i:Nat} {m:di},P.Nodup->P[i]?=some x->vs[i]?=some v->kindOf x≠some .local->
  bindC kindOf (P.zip vs) m x=some v
 | [],_,_,_,_,h,_,_=>by simp at h
 | _::_,[],_,_,_,_,h,_=>by simp at h
 | p::P,w::vs,0,m,c,a,b,hk=>by
   simp at a b;subst a;subst b;show bindC kindOf ((p,w)::P.zip vs) m p=_;unfold bindC;rw [NS λv d=>(Dh.mp c).1 (List.of_mem_zip d).1,nU hk];simp
 | p::P,w::vs,i+1,m,c,a,b,hk=>by
   show bindC kindOf ((p,w)::P.zip vs) m x=_;unfold bindC;exact NU (i:=i) (Dh.mp c).2 (by simpa using a) (by simpa using b) hk
noncomputable def start (N:dt) (vs:c_):St:=vs.map some++List.replicate (N.length - vs.length) none
noncomputable def GH (CX:aC) (P:Program) (w:World) (K:W.Frag) (i:di) (d:Heap) (N:dt) (c:Str) (a:Scope) (f:Addr) (h:Value) (A:Around) (b:List Env) (s:Shared) (H:Hp) (E:XK):Cx where
 prog:=P
 w:=w
 K:=K
 mg:=i
 base:=d
 A:=A.deeper (envOfC c a s.heap.objs.size f h)
 N:=N
 s₀:=s
 H₀:=H
 env:=envOfC c a s.heap.objs.size f h
 outer:=b
 stack:=envOfC c a s.heap.objs.size f h::b
 ex:=[]
 calm:=true
 fn:=λ_=>true
 pn:=[]
 xe:=λe j=>wpAny (model P w) (A.deeper (envOfC c a s.heap.objs.size f h)) (leaving (envOfC c a s.heap.objs.size f h) e) (λ_ g=>CX b H s E e g) (λk g=>CX b H s E k g) j
def NV {a:Scope} {n:Nat} {x:Str} (h:a.names.lookup x=some .cell):∃ c,(cellsFrom n a.names []).lookup x=some c:=by
 have q:=W.cellsFrom_some a.names n [] (.inl h);exact Option.isSome_iff_exists.mp q
def VQ {CX:aC} {P:Program} {w:World} {K:W.Frag} {M:di} {B:Heap} {N ps:dt} {g:Str} {d:Scope} {f:Addr} {F:Value} {A:Around} {m:List Env} {s s1:Shared} {H:Hp} {E:XK} {O:dc} {vs:c_}
  (S:FnScope N ps d) (T:A.handled=none) (Q:(A.deeper (envOfC g d s.heap.objs.size f F)).depth+Builtin.pylongFrames<recursionLimit) (j:Env0 P w K M B A m s H) (Z:vs.length=ps.length) (r:Vals vs O)
  (x:InCallC s s.heap.objs.size (bindL (envOfC g d s.heap.objs.size f F).kindOf (ps.zip O) λ_=>none) (cellsFrom (s.heap.objs.size+1) d.names []) (bindC (envOfC g d s.heap.objs.size f F).kindOf (ps.zip O) λ_=>none) s1) :
  Inv (GH CX P w K M B N g d f F A m s H E) [] (start N vs) H s1:=by
 have U:ps.length<=N.length:=by have:=congrArg List.length S.pre;rw [CG] at this;omega
 obtain ⟨J,tk,rfl,hk⟩:=x.done;have C:∀ b:Addr,b∉(GH CX P w K M B N g d f F A m s H E).ex:=λb z=>absurd (show b∈([]:dw) from z) (by simp)
 refine ⟨⟨j.mod,S.kind,rfl,rfl,AR _,λy z c J o=>?_,λy D=>?_,λy c _ h=>?_,λ_=>T,Around.frames_deeper j.frames,.inr ⟨rfl,rfl⟩,λb z=>absurd z (C b),j.bs,j.bsz,λb _ _=>C b,λb z=>absurd z (C b),j.funs,j.frf,j.seer,j.tree,λs' G=>PySem.PylongRoom.of (j.mod.nolimit.keeps G) Q (PySem.SeerAt.of (j.seer.keeps G) j.tree (Around.frames_deeper j.frames) S.gen S.co rfl rfl)⟩,
  rfl,j.bare,Un.kept hk,⟨_,x.toInCall.ns,λi y v J o h3=>?_⟩,λy c h=>⟨_,x.cell y c h⟩,j.hok.fresh (AR _),λy c h=>?_,λp hp=>absurd (show p∈([]:dh) from hp) (by simp),j.hok.kept hk,?_⟩
 ·exact name_of_addr x.apart (PySem.mem_of_lookup J) (PySem.mem_of_lookup o)
 ·have D:d.names.lookup y=some .cell\/d.names.lookup y=some .free:=D;rcases D with D | D
  ·exact NV D
  ·exact absurd rfl (S.nofree _ (PySem.mem_of_lookup D))
 ·exact Nat.le_of_lt (x.above y c (PySem.mem_of_lookup h))
 ·have L:i<vs.length:=by
   unfold start at o;by_cases L:i<vs.length
   ·exact L
   ·rw [List.getElem?_append_right (by simpa using L)] at o;rw [FW] at o;split at o <;> cases o
  have X:vs[i]?=some v:=by
   unfold start at o;rw [List.getElem?_append_left (by simpa using L),Ac] at o;cases e:vs[i]? with
   | none=>rw [e] at o;cases o
   | some a=>rw [e] at o;cases o;rfl
  obtain ⟨u,R,Y⟩:=r.get X
  have hp:ps[i]?=some y:=by
   rw [<-S.pre,List.getElem?_take_of_lt ⋯];exact J
  have I:ps.Nodup:=by rw [<-S.pre];exact S.nd.sublist (List.take_sublist _ _)
  refine ⟨u,Y,?_⟩;rcases S.par y (A4 hp) with k | k
  ·exact .inl ⟨k,NT I hp R k⟩
  ·obtain ⟨c,e⟩:=NV (n:=s.heap.objs.size+1) k;refine .inr ⟨.inl k,c,e,?_⟩;have q:=x.cell y c e;rw [NU I hp R (by show d.names.lookup y≠_;rw [k];decide)] at q;exact q
 ·exact j.hok.fresh (Nat.le_of_lt (x.above y c (PySem.mem_of_lookup h)))
 ·unfold start;show _=N.length;rw [Bp,AJ,List.length_replicate];omega
theorem VR {CX:aC} {P:Program} {w:World} {K:W.Frag} {M:di} {h:Heap} {k:Nat} {f:Addr} {name d:Str} {i:Arguments} {j:List Stmt} {a:Scope} {Z kV D pm g ct oc:Value} {an od:Option Addr}
  {R:Array (du)} {N ps:dt} {sp:Sp} (lk:K.lookup f=some ⟨oc,od,.func (W.fnOf name d i j a Z kV D pm an g ct),R⟩) (T:W.codeIn K g d=true) (S:FnScope N ps a)
  (len:∀ vs H Q E,sp vs H Q E->vs.length=ps.length)
  (z:∀ (A:Around) (c:List Env) (s:Shared) (H:Hp) (vs:c_) (Q:VK) (E:XK),Room k (A.deeper (envOfC d a s.heap.objs.size f g))->sp vs H Q E->
   ∃ t,PSs (GH CX P w K M h N d a f g A c s H E) j t/\t { nx:=λ_ p=>Q .non p,rt:=Q } (start N vs) H) :
  FnOk P w K M h CX (k+1) f (W.fnOf name d i j a Z kV D pm an g ct) ps sp:=by
 refine ⟨len,λA c s H a0 us vs Q E O F hb r G=>?_⟩;have hl:=len _ _ _ _ G;have KX:K.In s.heap:=F.mod.kin.keeps λb o e=>(F.bs b o e).1;have U:s.heap.NoLimit:=F.mod.nolimit.keeps λb o e=>(F.bs b o e).1
 have B:∀ y∈ps.zip us,a.names.lookup y.1=some .local\/(a.names.lookup y.1=some .cell/\((cellsFrom (s.heap.objs.size+1) a.names []).lookup y.1).isSome=true):=λ⟨n,v⟩ hy=>by
  rcases S.par n (List.of_mem_zip hy).1 with q | q
  ·exact .inl q
  ·exact .inr ⟨q,W.cellsFrom_some _ _ _ (.inl q)⟩
 refine codeAny_call_function O.depth (KX _ _ lk) rfl S.co S.gen rfl (W.codeRec_of KX T) (hb _ _ _ _ ?_);refine wpAny_newFunctionEnv_cells S.kind B λa1 he s1 x=>?_;subst he;refine ⟨U.keeps x.toInCall.keep,codeAny_func ?_⟩;obtain ⟨t,ht,hq⟩:=z A c s H vs Q E (O.deeper _) G;have I:Inv (GH CX P w K M h N d a f g A c s H E) [] (start N vs) H s1:=VQ S O.hd (by have:=(O.deeper (envOfC d a s.heap.objs.size f g)).dp;show _+100<_;omega) F hl r x;refine mE (ht [] s1 (start N vs) H _ I hq) (λfl X C=>?_) λe X C=>C
 have L:∀ {m:St} {p:Hp} {v:V} {u:Value},Inv (GH CX P w K M h N d a f g A c s H E) [] m p X->RelV v u->Q v p->CE c P w H s Q u X:=
  λ{m p v u} J Y q=>⟨v,p,J.os,J.bare,J.base,J.hok,Y,q⟩
 cases fl with
 | ret u=>
   obtain ⟨v,m,p,J,Y,q⟩:=C;exact L J Y q
 | next=>
   obtain ⟨m,p,J,q⟩:=C;exact L (v:=V.non) (u:=Value.none) J rfl q
 | brk=>
   obtain ⟨_,_,_,q⟩:=C;exact False.elim q
 | cont=>
   obtain ⟨_,_,_,q⟩:=C;exact False.elim q
section
variable {X:Cx} {x:Str} {p pos:Pos} {e:Expr} {es:dj} {t:TA} {id T:String} {r:c_->Hp->VK->Prop}
def G' (r:c_->Hp->VK->Prop) (t:TA):TE:=λa H Q=>t a H λb c=>r b c Q
def Ao (f:Ck X (.builtin id) r) (g:Gl X x) (i:X.mg x=none) (j:bootBuiltins x=some (.builtin id)) (k:PA X (e::es) t) (m:x ≠ "__name__" := by decide) (b:(x == ("__debug__" : Str))=false:=by decide)
  (n:starEach (e::es) X.env=(false,eval e X.env)::starEach es X.env:=by rfl) (c:(backTo pos (starEach es X.env)).any (·.1)=false:=by rfl):PE X (.Call (.Name x p) (e::es) [] pos) (G' r t):=by
 intro a s d H Q I h;refine wpAny_Call_Name_kw (Dx I g i j ?_ m b);exact PyProof.Rows.callWith_builtin1 (F_ (k pos a s d H _ I h) λo s1 ⟨q,u,v,w,y⟩=>f a s1 d u q o Q v w y) n c
def Ej (f:Ck X (.type T) r) (g:Gl X x) (i:X.mg x=none) (j:bootBuiltins x=some (.type T)) (k:PA X (e::es) t) (m:x ≠ "__name__" := by decide) (b:(x == ("__debug__" : Str))=false:=by decide)
  (n:starEach (e::es) X.env=(false,eval e X.env)::starEach es X.env:=by rfl) (c:(backTo pos (starEach es X.env)).any (·.1)=false:=by rfl):PE X (.Call (.Name x p) (e::es) [] pos) (G' r t):=by
 intro a s d H Q I h;refine wpAny_Call_Name_kw (Dx I g i j ?_ m b);exact PyProof.Rows.callWith_type1 (F_ (k pos a s d H _ I h) λo s1 ⟨q,u,v,w,y⟩=>f a s1 d u q o Q v w y) n c
end
end L2
namespace HT
open PySem PyProof.Rows
section
variable {prog:Program} {w:World} {A:Around} {E:de} {s:Shared}
noncomputable def sIx (n d:Nat):Option Int->Nat
 | none=>d
 | some v=>if v<0 then (v+(n:Int)).toNat else min v.toNat n
end
end HT
namespace L2
open PySem PySem.Spec PyProof.Rows
noncomputable abbrev TO:=St->Hp->(Option Int->Hp->Prop)->Prop
def PO (X:Cx) (e:Option Expr) (t:TO):Prop:=
 ∀ (a:dh) (s:Shared) (b:St) (H:Hp) (Q:Option Int->Hp->Prop),Inv X a b H s->t b H Q->
   wpAny (model X.prog X.w) X.A (evalPart e X.env) (λu d=>∃ o c,Inv X a b c d/\IsPart u o/\Q o c) X.xe s
noncomputable def FH:TO:=λ_ H Q=>Q none H
noncomputable def FI (t:TE):TO:=λa H Q=>t a H λx b=>∃ i,x=.int i/\Q (some i) b
section
variable {X:Cx} {e:Expr} {te:TE} {lo hi:Option Expr} {tl th:TO} {pos p2:Pos}
def GI:PO X none FH:=by
 intro a s b H Q I h;rw [evalPart_none];exact mD ⟨none,H,I,.none,h⟩
def GJ (h:PE X e te):PO X (some e) (FI te):=by
 intro a s b H Q I c;rw [evalPart_some];refine F_ (h a s b H _ I c) λu s1 ⟨x,d,f,g,j⟩=>?_;obtain ⟨i,rfl,q⟩:=j;obtain ⟨t,rfl⟩:=g;exact ⟨some i,d,f,.int i t,q⟩
def cD (X:Cx) (r:V->Option Int->Option Int->Hp->VK->Prop):Prop:=
 ∀ (a:dh) (s:Shared) (b:St) (H:Hp) (x:V) (v c d:Value) (lo hi:Option Int) (f:Addr) (Q:VK),Inv X a b H s->RelV x v->s.heap.IsSliceOf f c d .none->IsPart c lo->IsPart d hi->r x lo hi H Q->
   ∃ T id,typeLookup (.type T) "__getitem__" = pure (some (.builtin id))/\s.TypeIs v T/\wpAny (model X.prog X.w) X.A (getItem v (.ref f)) (EP X a b Q) X.xe s
def aM (r:V->Option Int->Option Int->Hp->VK->Prop) (te:TE) (tl th:TO):TE:=λa H Q=>te a H λx b=>tl a b λl c=>th a c λu d=>r x l u d Q
def GK {r:V->Option Int->Option Int->Hp->VK->Prop} (n:cD X r) (o:PE X e te) (p:PO X lo tl) (w:PO X hi th):PE X (.Subscript e (.Slice lo hi none p2) pos) (aM r te tl th):=by
 intro a s g H Q I h;refine Subscript_ (F_ (o a s g H _ I h) λv s1 ⟨x,y,z,A,B⟩=>?_);refine wpAny_Slice (F_ (p a s1 g y _ z B) λj C ⟨l,D,E,F,G⟩=>F_ (w a C g D _ E G) λk c ⟨u,m,J,K,L⟩=>?_);rw [evalPart_none];refine mD ?_;have M:Inv X a g m { c with heap:=c.heap.push { cls:=.type "slice", data:=.fields #[j,k,.none] } }:=J.kept (t':=c.toks) λb S q=>Heap.get?_push_of_some _ q;obtain ⟨T,id,N,O,P⟩:=n a { c with heap:=c.heap.push { cls:=.type "slice", data:=.fields #[j,k,.none] } } g m x v j k l u c.heap.objs.size Q M A (Heap.IsSliceOf.new ..) F K L;show wpAny (model X.prog X.w) X.A (subscriptTail e (.Slice lo hi none p2) v (.ref c.heap.objs.size)) (EP X a g Q) X.xe { c with heap:=c.heap.push { cls:=.type "slice", data:=.fields #[j,k,.none] } };exact tail_any (ops:=[.ref c.heap.objs.size,v]) O N P (by with_unfolding_all rfl)
noncomputable def CW (xs:c_) (lo hi:Option Int):c_:=(xs.drop (HT.sIx xs.length 0 lo)).take (HT.sIx xs.length xs.length hi - HT.sIx xs.length 0 lo)
def VS (xs:c_) (lo hi:Option Int):(CW xs lo hi).length<=xs.length:=by
 unfold CW;rw [CG,List.length_drop];omega
end
noncomputable def Y' (n:Nat) (i:Int):Option Nat:=if 0<=i then (if i<n then some i.toNat else none) else if -(n:Int)<=i then some (i+n).toNat else none
noncomputable def P_ {a:Type} (xs:List a) (i:Int):Option a:=(Y' xs.length i).bind λj=>xs[j]?
def NW {n:Nat} {i:Int} {j:Nat} (h:Y' n i=some j):seqIndex? i n=some j/\j<n/\-(n:Int)<=i/\i<n:=by
 unfold Y' at h;by_cases b:0<=i
 ·rw [nV b] at h;by_cases a:i<n
  ·rw [nV a] at h;have e:i.toNat=j:=mF h;exact ⟨by rw [seqIndex_of b a,e],⋯,⋯,a⟩
  ·rw [nU a] at h;cases h
 ·rw [nU b] at h;by_cases a:-(n:Int)<=i
  ·rw [nV a] at h;have e:(i+n).toNat=j:=mF h;exact ⟨by rw [seqIndex_neg ⋯ a,e],⋯,a,⋯⟩
  ·rw [nU a] at h;cases h
theorem Ke {a:Type} {xs:List a} {i:Int} {v:a} (h:P_ xs i=some v):∃ j,seqIndex? i xs.length=some j/\xs[j]?=some v/\j<xs.length/\-(xs.length:Int)<=i/\i<xs.length:=by
 unfold P_ at h;cases e:Y' xs.length i with
 | none=>rw [e] at h;cases h
 | some j=>
   rw [e] at h;obtain ⟨b,c,d,f⟩:=NW e;exact ⟨j,b,h,c,d,f⟩
def VT {a:Type} {xs:List a} {j:Nat} {v:a} (h:xs[j]?=some v):P_ xs (j:Int)=some v:=by
 have b:j<xs.length:=(BK.mp h).1
 have e:Y' xs.length (j:Int)=some j:=by
  unfold Y';rw [nV ⋯,nV ⋯];simp
 unfold P_;rw [e];exact h
def atI_last {a:Type} (xs:List a) (v:a):P_ (xs++[v]) (-1)=some v:=by
 have b:(xs++[v]).length=xs.length+1:=by simp
 have e:Y' (xs++[v]).length (-1)=some xs.length:=by
  unfold Y';rw [b,nU ∅,nV ⋯];congr 1;omega
 unfold P_;rw [e];show (xs++[v])[xs.length]?=some v;simp
def VU (b:Expr):Prop:=∀ o i,subscripted b false o i=operate [o,i] (getItem o i)
def aU (X:Cx) (r:R2):Prop:=
 ∀ (c a:Expr) (b:dh) (s:Shared) (d:St) (H:Hp) (x y:V) (v u:Value) (Q:VK),Inv X b d H s->RelV x v->RelV y u->r x y H Q->
   subscripted a false v u=operate [v,u] (getItem v u)->wpAny (model X.prog X.w) X.A (subscriptTail c a v u) (EP X b d Q) X.xe s
def MtR (X:Cx) (id:String) (r:V->c_->Hp->VK->Prop):Prop:=
 ∀ (a:dh) (s:Shared) (b:St) (H:Hp) (x:V) (c:c_) (v:Value) (d:dc) (Q:VK),Inv X a b H s->RelV x v->Vals c d->r x c H Q->
   wpAny (model X.prog X.w) X.A (call (.builtin id) (v::d)) (EP X a b Q) X.xe s
section
variable {X:Cx} {a b:Expr} {ta tb:TE} {pos:Pos}
def A9 {r:R2} (d:aU X r) (e:PE X a ta) (f:PE X b tb) (g:VU b):PE X (.Subscript a b pos) (A_ r ta tb):=by
 intro c s i H Q I h;exact Subscript_ (Kd e f I h λv u j x y k m n o q=>d a b c j i k x y v u Q m n o q (g _ _))
def VV (K:W.Frag):R2:=λx y H Q=>∃ p c i v,x=.ref p/\y=.int i/\SqL K H p c/\P_ c i=some v/\Q v H
def VW (K:W.Frag):R2:=λx y H Q=>∃ p c i v,x=.ref p/\y=.int i/\SqT K H p c/\P_ c i=some v/\Q v H
def VX:aU X (VV X.K):=by
 intro f g c s o H x y v u Q I D E h A;obtain ⟨p,O,i,z,rfl,rfl,F,G,q⟩:=h;cases D;obtain ⟨t,rfl⟩:=E;obtain ⟨k,r,m,P⟩:=I.list F;obtain ⟨j,e,J,R,K,L⟩:=Ke G;obtain ⟨w,B,rw'⟩:=r.get J;have M:=r.length;have S:=Gz;have d:EP X c o Q w s:=⟨z,H,I,rw',q⟩;by_cases C:0<=i
 ·have n:i.toNat=j:=by
   rw [seqIndex_of C L] at e;exact mF e
  exact item_listR m.isList C ⋯ (by rw [n];simpa using B) d A
 ·have n:(i+(k.toArray.size:Int)).toNat=j:=by
   rw [seqIndex_neg ⋯ K] at e;rw [BJ,<-M];exact mF e
  exact subscriptTail_builtinR (x:=w) m.isList.typeIs slot_list_getitem.lookup
   (wpAny_getItem_list_neg (Q:=λr N=>r=w/\EP X c o Q r N) m.isList ⋯ (by rw [BJ] <;> omega) ⋯ (by rw [n];simpa using B) ⟨rfl,d⟩) A
def VY:aU X (VW X.K):=by
 intro d e c s g H x y v u Q I m n h o;obtain ⟨p,K,i,z,rfl,rfl,A,B,q⟩:=h;cases m;obtain ⟨t,rfl⟩:=n;obtain ⟨C,r,k,L⟩:=I.tuple A;obtain ⟨j,D,E,M,N,O⟩:=Ke B;obtain ⟨w,F,rw'⟩:=r.get E;have G:=r.length;have P:=Gz;have f:EP X c g Q w s:=⟨z,H,I,rw',q⟩
 exact subscriptTail_builtinR (x:=w) k.typeIs slot_tuple_getitem.lookup
  (getItem_tuple (j:=j) (Q:=λr J=>r=w/\EP X c g Q r J) k ⋯ ⋯ (by rw [BJ,<-G];exact D) (by simpa using F) ⟨rfl,f⟩) o
def VZ (its:dc) (n j:Nat) (u:Value):Obj.mapSeq (·.setIfInBounds j u) { cls:=.type "list", data:=.seq its.toArray n }={ cls:=.type "list", data:=.seq (its.set j u).toArray n }:=by
 simp [Obj.mapSeq]
def Inv.lst {c:dh} {d:St} {H:Hp} {s:Shared} {p:Addr} {xs:c_} (I:Inv X c d H s) (h:H p=some (.lst xs)) :
  ∃ (its:dc) (n:Nat),Vals xs its/\s.heap.get? p=some { cls:=.type "list", data:=.seq its.toArray n }/\xs.length<=sizeLine:=by
 obtain ⟨z,its,n,r,e⟩:=I.hok p _ h;exact ⟨its,n,r,e,z⟩
def Inv.lstUpd {c:dh} {i:St} {H:Hp} {s:Shared} {p:Addr} {xs d:c_} {its its':dc} {n g:Nat} {f:Obj->Obj} (I:Inv X c i H s) (h:H p=some (.lst xs))
  (o:s.heap.get? p=some { cls:=.type "list", data:=.seq its.toArray n }) (j:f { cls:=.type "list", data:=.seq its.toArray n }={ cls:=.type "list", data:=.seq its'.toArray g }) (r:Vals d its') (v:d.length<=sizeLine) (t:Nat) :
  Inv X c i (upd H p (.lst d)) { s with heap:=s.heap.update p f,toks:=t }:=by
 have e:(s.heap.update p f).get? p=some { cls:=.type "list", data:=.seq its'.toArray g }:=by
  rw [Heap.get?_update_self f o (by rw [j] <;> rfl),j]
 refine I.write (x:=p) (e:=p) (by rw [h];trivial) (.inl rfl) (λb u w q=>(Heap.get?_update_other _ _ (Ne.symm w)).trans q) ⟨_,e⟩ ?_;exact ⟨v,its',g,r,e⟩
def D1:V->V->V->Hp->(Hp->Prop)->Prop:=λo i v H Q=>∃ p c k j,o=.ref p/\i=.int k/\H p=some (.lst c)/\Y' c.length k=some j/\Q (upd H p (.lst (c.set j v)))
def Ek:aB X D1:=by
 intro c s A H o i v J K u Q I B C D h;obtain ⟨p,E,k,j,rfl,rfl,hp,F,q⟩:=h;cases B;obtain ⟨t,rfl⟩:=C;obtain ⟨d,n,r,f,G⟩:=I.lst hp;obtain ⟨e,L,m,w⟩:=NW F;have g:=r.length;have M:=Gz
 have x:Inv X c A (upd H p (.lst (E.set j v))) { s with heap:=s.heap.update p (Obj.mapSeq (·.setIfInBounds j u)) }:=
  I.lstUpd hp f (VZ d n j u) (r.set D j) (by rw [List.length_set];exact G) s.toks
 by_cases z:0<=k
 ·have hk:k.toNat=j:=by
   rw [seqIndex_of z w] at e;exact mF e
  exact W.ki_setAt f z ⋯ (by rw [BJ,<-g];exact w) (by rw [hk];exact ⟨_,x,q⟩)
 ·have hk:(k+(d.toArray.size:Int)).toNat=j:=by
   rw [seqIndex_neg ⋯ m] at e;rw [BJ,<-g];exact mF e
  exact W.ki_setBack f ⋯ (by rw [BJ,<-g];exact m) ⋯ (by rw [hk];exact ⟨_,x,q⟩)
def Va (c d:Option Int) (n:Nat):(sliceBounds c d none n).1=((HT.sIx n 0 c:Nat):Int)/\(sliceBounds c d none n).2.1=((HT.sIx n n d:Nat):Int)/\(sliceBounds c d none n).2.2=1:=by
 refine ⟨?_,?_,rfl⟩
 ·cases c with
  | none=>simp [sliceBounds,HT.sIx]
  | some i=>
    simp only [sliceBounds,HT.sIx,Option.getD_none,show (1:Int) > 0 by decide,if_true];by_cases h:i<0
    ·simp only [h,if_true] <;> omega
    ·simp only [h,if_false] <;> omega
 ·cases d with
  | none=>simp [sliceBounds,HT.sIx]
  | some i=>
    simp only [sliceBounds,HT.sIx,Option.getD_none,show (1:Int) > 0 by decide,if_true];by_cases h:i<0
    ·simp only [h,if_true] <;> omega
    ·simp only [h,if_false] <;> omega
def Vb (its:dc) (c d:Option Int):slicePick its.toArray c d none=((its.drop (HT.sIx its.length 0 c)).take (HT.sIx its.length its.length d - HT.sIx its.length 0 c)).toArray:=by
 obtain ⟨e,f,g⟩:=Va c d its.toArray.size;unfold slicePick;rw [e,f,g];simp only [sliceRange_one,pick_run,BJ] <;> rfl
def Vc (K:W.Frag):V->Option Int->Option Int->Hp->VK->Prop:=λx d e H Q=>∃ a c,x=.ref a/\SqL K H a c/\∀ p,H p=none->Q (.ref p) (upd H p (.lst (CW c d e)))
def NX:cD X (Vc X.K):=by
 intro g s y H x v z A e f B Q I j k m n h;obtain ⟨a,c,rfl,p,q⟩:=h;cases j;obtain ⟨u,r,i,w⟩:=I.list p;have d:=r.length;refine ⟨"list", _,slot_list_getitem.lookup,i.isList.typeIs,?_⟩;refine wpAny_getItem_list_slice i.isList k m n .none (by simp) ?_ (by rw [BJ] <;> omega);rw [Vb,<-d];refine ⟨.ref s.heap.objs.size,_,I.laid (t':=s.toks) (o:=.lst (CW c e f)) (λb C q=>Heap.get?_push_of_some _ q) (AR _) ?_,rfl,q _ (I.hok.fresh (AR _))⟩;exact ⟨Bg (VS c e f) w,_,0,(r.drop (HT.sIx c.length 0 e)).take (HT.sIx c.length c.length f - HT.sIx c.length 0 e),Heap.get?_push_size _ rfl⟩
def NY:Ck X (.builtin "len") (λj H Q=>∃ p d,j=[.ref p]/\(SqL X.K H p d\/SqT X.K H p d)/\Q (.int d.length) H):=by
 intro k s o H j v Q I r h;obtain ⟨p,d,rfl,e,q⟩:=h;obtain ⟨u,rfl,m⟩:=EM r;cases m;have w:=Gz;rcases e with e | e
 ·obtain ⟨f,g,i,n⟩:=I.list e;have c:=g.length;exact Calls.call_len_list i.isList (by simp only [BJ] <;> omega) ⟨.int d.length,H,I.tok _,⟨s.toks+1,by rw [BJ,c]⟩,q⟩
 ·obtain ⟨f,g,i,n⟩:=I.tuple e;have c:=g.length;exact len_tuple i (by simp only [BJ] <;> omega) ⟨.int d.length,H,I.tok _,⟨s.toks+1,by rw [BJ,c]⟩,q⟩
def Vd:Ck X (.type "list") (λB H Q=>∃ p f,B=[.ref p]/\(SqL X.K H p f\/SqT X.K H p f)/\∀ l,H l=none->Q (.ref l) (upd H l (.lst f))):=by
 intro j s E H B G Q I r h;obtain ⟨p,f,rfl,k,q⟩:=h;obtain ⟨u,rfl,F⟩:=EM r;cases F
 have m:∀ (c:dc),Vals f c->f.length<=sizeLine->∀ (d:Heap) (g:Nat),(∀ b C,s.heap.get? b=some C->d.get? b=some C)->
   d.get? s.heap.objs.size=some { cls:=.type "list", dict:=none,data:=.seq c.toArray g,slots:=#[] }->EP X j E Q (.ref s.heap.objs.size) { s with heap:=d }:=λc i v d g kp e=>
  ⟨.ref s.heap.objs.size,_,I.laid (t':=s.toks) kp (AR _) (show ObjOk X.prog X.w _ d _ (.lst f) from ⟨v,c,g,i,e⟩),rfl,q _ (I.hok.fresh (AR _))⟩
 rcases k with k | k
 ·obtain ⟨c,i,x,v⟩:=I.list k;have w:=i.length;obtain ⟨o,y,z,n,A⟩:=x.isList;exact call_list_seq p (.inl rfl) y z A (λd g kp e=>m c i v d g kp e) (by simp only [BJ] <;> omega)
 ·obtain ⟨c,i,x,v⟩:=I.tuple k;have w:=i.length;obtain ⟨o,y,z,n,A⟩:=x;exact call_list_seq p (.inr rfl) y z A (λd g kp e=>m c i v d g kp e) (by simp only [BJ] <;> omega)
def Ve:Ck X (.type "tuple") (λn H Q=>∃ p f,n=[.ref p]/\((SqL X.K H p f/\∀ l,H l=none->Q (.ref l) (upd H l (.tup f)))\/(SqT X.K H p f/\Q (.ref p) H))):=by
 intro c s v H n E Q I r h;obtain ⟨p,f,rfl,h⟩:=h;obtain ⟨u,rfl,A⟩:=EM r;cases A;rcases h with ⟨j,q⟩ | ⟨j,q⟩
 ·obtain ⟨d,k,m,w⟩:=I.list j;have x:=k.length;refine call_tuple_list m.isList (λi kp=>?_) (by simp only [BJ] <;> omega);have y:Inv X c v H { s with heap:=i }:=I.kept (t':=s.toks) kp
  have C:Inv X c v (upd H i.objs.size (.tup f)) { s with heap:=i.push { cls:=.type "tuple", data:=.seq d.toArray } }:=
   y.laid (t':=s.toks) (λb o e=>Heap.get?_push_of_some _ e) (AR _) (show ObjOk X.prog X.w _ _ _ (.tup f) from ⟨w,d,k,IsTup.new _ _⟩)
  exact ⟨.ref i.objs.size,_,C,rfl,q _ (y.hok.fresh (AR _))⟩
 ·obtain ⟨d,k,m,w⟩:=I.tuple j;exact call_tuple_same m ⟨.ref p,H,I,rfl,q⟩
def cE (K:W.Frag) (T:String) (x:V) (H:Hp):Prop:=match x with
 | .str _=>T = "str"
 | .int _=>T = "int"
 | .ref p=>(T = "list" /\ ∃ d,SqL K H p d)\/(T = "tuple" /\ ∃ o,K.lookup p=some o/\o.cls=.type "tuple" /\ o.dict=none)\/
   (T = "dict" /\ ((∃ c,H p=some (.dK c))\/∃ c,H p=some (.dT c)))\/(T = "set" /\ ∃ S n,H p=some (.set S n))
 | _=>False
theorem Vf {f:dh} {u:St} {H:Hp} {s:Shared} {T:String} {x:V} {v:Value} (I:Inv X f u H s) (r:RelV x v) (g:cE X.K T x H) :
  s.TypeIs v T/\∀ a,v=.ref a->∃ m,s.heap.get? a=some m/\m.dict=none:=by
 cases x with
 | str z=>
   obtain ⟨t,rfl⟩:=r;cases (show T = "str" from g);exact ⟨typeIs_str s z t,λ_ e=>nomatch e⟩
 | int i=>
   obtain ⟨t,rfl⟩:=r;cases (show T = "int" from g);exact ⟨typeIs_int s i t,λ_ e=>nomatch e⟩
 | ref p=>
   cases r;rcases g with ⟨rfl,B,w⟩ | ⟨rfl,o,hk,y,h⟩ | ⟨rfl,hk⟩ | ⟨rfl,S,n,hk⟩
   ·obtain ⟨A,_,q,_⟩:=I.list w;refine ⟨q.isList.typeIs,λa e=>?_⟩;cases e;obtain ⟨o,n,e,c,h,_⟩:=q;exact ⟨o,e,h⟩
   ·refine ⟨⟨o,I.kIn p o hk,y⟩,λa e=>?_⟩;cases e;exact ⟨o,I.kIn _ o hk,h⟩
   ·have z:∃ o,s.heap.get? p=some o/\o.ExactDict:=by
     rcases hk with ⟨j,hk⟩ | ⟨j,hk⟩
     ·obtain ⟨_,_,_,_,o,_,_,e,d,_⟩:=I.hok p _ hk;exact ⟨o,e,d⟩
     ·obtain ⟨_,_,_,_,o,_,_,e,d,_⟩:=I.hok p _ hk;exact ⟨o,e,d⟩
    obtain ⟨o,e,d⟩:=z;refine ⟨⟨o,e,d.1⟩,λa k=>?_⟩;cases k;exact ⟨o,e,d.2.1⟩
   ·obtain ⟨o,_,_,_,e,d,_⟩:=I.hok p _ hk;refine ⟨⟨o,e,d.1⟩,λa k=>?_⟩;cases k;exact ⟨o,e,d.2.1⟩
 | _=>exact False.elim g
def Vg (K:W.Frag) (T:String) (r:V->c_->Hp->VK->Prop) (d:TE):TE:=λe H Q=>d e H λx c=>cE K T x c/\r x [] c Q
def ag (K:W.Frag) (T:String) (r:V->c_->Hp->VK->Prop) (e:TE) (t:TA):TE:=λc H Q=>e c H λx d=>cE K T x d/\t c d λf g=>r x f g Q
variable {o e:Expr} {es:dj} {to:TE} {t:TA} {name:Str} {apos cpos:Pos} {T id:String} {r:V->c_->Hp->VK->Prop}
def El (u:PlainAttrs T) (i:Slot T name id) (k:typeOf (.builtin id)=pure (.type "method_descriptor")) (w:MtR X id r) (y:PE X o to) (z:PA X (e::es) t)
  (f:attributeBase o name X.env (eval o X.env)=eval o X.env:=by rfl)
  (j:((backTo cpos (starEach (e::es) X.env)).all (λx=>!x.1) && (backToKw cpos (keywordEach [] X.env)).all (λx=>x.1.isSome)
   && decide ((e::es).length+([]:List Keyword).length+(if ([]:List Keyword).isEmpty then 0 else 1)<30))=true:=by rfl)
  (g:(apos.endLine == cpos.line)=true:=by rfl) (A:starEach (e::es) X.env=(false,eval e X.env)::starEach es X.env:=by rfl) (d:(backTo cpos (starEach es X.env)).any (·.1)=false:=by rfl) :
  PE X (.Call (.Attribute o name apos) (e::es) [] cpos) (ag X.K T r to t):=by
 intro c s m H Q I h;refine wpAny_Call_method_late f j g rfl (F_ (y c s m H _ I h) λv s1 ⟨x,B,n,p,C,D⟩=>?_);obtain ⟨E,F⟩:=Vf n p C;refine ⟨T,id,u,i,k,E,F,?_⟩;have q:=z cpos c s1 m B _ n D;rw [A] at q ⊢;refine Calls.callWith_builtin (by show (false || (backTo cpos (starEach es X.env)).any (·.1))=false;rw [d] <;> rfl) (Calls.evalArgs_plain ?_);exact F_ q λG J ⟨K,L,M,N,O⟩=>w c J m L x K v G Q M p N O
end
def bH (X:Cx) (id:String) (r:V->c_->Hp->VK->Prop):Prop:=
 ∀ (a:dh) (s:Shared) (b:St) (H:Hp) (x:V) (c:c_) (v:Value) (d:dc) (Q:VK),Inv X a b H s->RelV x v->Vals c d->r x c H Q->
   wpAny (model X.prog X.w) X.A (call (.builtin id) (v::d)) (EP X a b Q) X.xe s
def Vals.zero {a:dc} (h:Vals [] a):a=[]:=by cases h;rfl
def Vals.inv {x:V} {xs:c_} {a:dc} (h:Vals (x::xs) a):∃ u t,a=u::t/\RelV x u/\Vals xs t:=by cases h with | cons r t=>exact ⟨_,_,rfl,r,t⟩
def Vals.one {x:V} {a:dc} (h:Vals [x] a):∃ u,a=[u]/\RelV x u:=by obtain ⟨u,t,rfl,r,h⟩:=h.inv;exact ⟨u,by rw [h.zero],r⟩
def Vals.two {x y:V} {a:dc} (h:Vals [x,y] a):∃ u v,a=[u,v]/\RelV x u/\RelV y v:=by obtain ⟨u,t,rfl,r,h⟩:=h.inv;obtain ⟨v,rfl,q⟩:=h.one;exact ⟨u,v,rfl,r,q⟩
theorem Vals.eraseIdx:∀ {xs:c_} {a:dc} (i:Nat),Vals xs a->Vals (xs.eraseIdx i) (a.eraseIdx i)
 | _,_,_,.nil=>.nil
 | _,_,0,.cons _ t=>t
 | _,_,i+1,.cons r t=>.cons r (Vals.eraseIdx i t)
theorem Vals.rep {xs:c_} {a:dc} (h:Vals xs a):∀ k:Nat,Vals (List.replicate k xs).flatten (List.replicate k a).flatten
 | 0=>.nil
 | k+1=>by
   rw [List.replicate_succ,List.replicate_succ,List.flatten_cons,List.flatten_cons];exact Vals.append h (Vals.rep h k)
theorem NZ {a:Type}:∀ (l:List a) (i:Nat),(l.eraseIdx i).length<=l.length
 | [],_=>AR _
 | _::_,0=>Nat.le_succ _
 | _::r,i+1=>Nat.succ_le_succ (NZ r i)
theorem Na (its:dc):∀ (k:Nat) (a:dc),
  List.foldl (λb c=>b++c) a.toArray (List.replicate k its.toArray)=(a++(List.replicate k its).flatten).toArray
 | 0,a=>by simp
 | k+1,a=>by
   have e:a.toArray++its.toArray=(a++its).toArray:=by simp
   have d:(a++its)++(List.replicate k its).flatten=a++(List.replicate (k+1) its).flatten:=by
    rw [List.replicate_succ,List.flatten_cons,List.append_assoc]
   rw [<-d,<-Na its k (a++its),<-e,List.replicate_succ,List.foldl_cons]
section
variable {X:Cx} {pins:dh} {σ:St} {H:Hp} {s:Shared} {l b:Addr} {xs ys zs:c_}
def Inv.lset {its its':dc} {n:Nat} {f:Array Value->Array Value} {t':Nat} (I:Inv X pins σ H s) (d:H l=some (.lst xs))
  (e:s.heap.get? l=some { cls:=.type "list", data:=.seq its.toArray n }) (g:f its.toArray=its'.toArray) (h:Vals ys its') (i:ys.length<=sizeLine) :
  Inv X pins σ (upd H l (.lst ys)) { s with heap:=s.heap.update l (Obj.mapSeq f),toks:=t' }:=by
 have q:=PySem.IsL.update e f;rw [g] at q;refine I.write (x:=l) (e:=l) (by rw [d];exact trivial) (.inl rfl) (λm u j k=>(Heap.get?_update_other s.heap (Obj.mapSeq f) (Ne.symm j)).trans k) ⟨_,q⟩ ?_;exact ⟨i,its',_,h,q⟩
def Inv.lnew {its:dc} {t':Nat} (I:Inv X pins σ H s) (e:Vals ys its) (f:ys.length<=sizeLine) :
  Inv X pins σ (upd H s.heap.objs.size (.lst ys)) { s with heap:=s.heap.push { cls:=.type "list", data:=.seq its.toArray },toks:=t' }:=
 I.laid (λ_ _ q=>Heap.get?_push_of_some _ q) (AR _) ⟨f,its,0,e,Heap.get?_push_size _ rfl⟩
def Inv.fresh (I:Inv X pins σ H s):H s.heap.objs.size=none:=I.hok.fresh (AR _)
def Inv.lstM (I:Inv X pins σ H s) (a:H l=some (.lst xs)):xs.length<=sizeLine/\∃ (its:dc) (n:Nat),Vals xs its/\xs.length=its.length/\s.heap.get? l=some { cls:=.type "list", data:=.seq its.toArray n }:=by
 obtain ⟨z,its,n,r,e⟩:=I.hok l _ a;exact ⟨z,its,n,r,r.length,e⟩
def Nc {n:Nat} (h:n<=sizeLine):Builtin.List.listTooLong n=false:=by
 unfold Builtin.List.listTooLong;exact nY ⋯
end
section
variable {X:Cx}
def FJ:V->c_->Hp->VK->Prop:=λx b H Q=>∃ l a y,x=.ref l/\b=[y]/\H l=some (.lst a)/\a.length<sizeLine/\Q .non (upd H l (.lst (a++[y])))
def G4:bH X "list.append" FJ:=by
 intro b s i H x j v k Q I d f h;obtain ⟨l,m,y,rfl,rfl,c,o,q⟩:=h;cases d;obtain ⟨u,rfl,g⟩:=f.one;obtain ⟨z,a,n,r,p,e⟩:=I.lstM c;refine call_meets F.slot_list_append ⟨_,e,rfl⟩ F.entry_list_append (F.args_list_append_2 _ _) (PySem.list_append l a.toArray n u (by rw [BJ];omega)) ⟨e,?_⟩;refine ⟨.non,_,I.lset (its':=a++[u]) c e (by simp) (r.append (.cons g .nil)) ?_,rfl,q⟩;rw [Bp,List.length_singleton];omega
def Kf:V->c_->Hp->VK->Prop:=λx d H Q=>∃ l b a c,x=.ref l/\d=[.ref b]/\H l=some (.lst a)/\H b=some (.lst c)/\a.length+c.length<=sizeLine/\Q .non (upd H l (.lst (a++c)))
def Vh:bH X "list.extend" Kf:=by
 intro g s B H x C v D Q I j k h;obtain ⟨l,b,E,G,rfl,rfl,i,m,J,q⟩:=h;cases j;obtain ⟨u,rfl,o⟩:=k.one;cases o;obtain ⟨z,c,n,r,K,e⟩:=I.lstM i;obtain ⟨L,a,p,w,y,A⟩:=I.lstM m;have f:c.toArray.size+a.toArray.size<=sizeLine:=by rw [BJ,BJ];omega
 have d:¬ (!c.toArray.isEmpty && Builtin.List.listTooLong (c.toArray.size+a.toArray.size))=true:=by
  rw [Nc f,Bool.and_false];exact Cc
 refine call_meets F.slot_list_extend ⟨_,e,rfl⟩ F.entry_list_extend (F.args_list_extend_2 _ _)
  (AutoSeq1.list_extend_list_list_0 l c.toArray n b a.toArray p d (by rw [BJ];omega) ⋯) ⟨e,A,?_⟩
 refine ⟨.non,_,I.lset (its':=c++a) i e (by simp) (r.append w) ?_,rfl,q⟩;rw [Bp];omega
def Vi:V->c_->Hp->VK->Prop:=λx b H Q=>∃ l a y,x=.ref l/\b=[]/\H l=some (.lst a)/\a[a.length - 1]?=some y/\Q y (upd H l (.lst a.dropLast))
def Vj:V->c_->Hp->VK->Prop:=λx b H Q=>∃ l a i k y,x=.ref l/\b=[.int i]/\H l=some (.lst a)/\-(2 ^ 63)<=i/\i<2 ^ 63/\seqIndex? i a.length=some k/\a[k]?=some y/\Q y (upd H l (.lst (a.eraseIdx k)))
def Vk:bH X "list.pop" Vj:=by
 intro b s C H x D v E Q I d f h;obtain ⟨l,g,i,k,y,rfl,rfl,c,j,m,hk,o,q⟩:=h;cases d;obtain ⟨u,rfl,p⟩:=f.one;obtain ⟨t,rfl⟩:=p;obtain ⟨z,a,n,r,A,e⟩:=I.lstM c;obtain ⟨w,B,rw'⟩:=r.get o
 refine call_meets F.slot_list_pop ⟨_,e,rfl⟩ F.entry_list_pop (F.args_list_pop_2 _ _)
  (MeetsSeq.list_pop_at l a.toArray n i t k w (fitsIndex_both j m) (by rw [BJ,<-A];exact hk) (by rw [<-Array.getElem?_toList];exact B) (by rw [BJ];omega)) ⟨e,?_⟩
 refine ⟨y,_,I.lset (its':=a.eraseIdx k) c e ?_ (r.eraseIdx k) ?_,rw',q⟩
 ·show a.toArray.eraseIdxIfInBounds k=(a.eraseIdx k).toArray;rw [List.eraseIdxIfInBounds_toArray]
 ·have:=NZ g k;omega
def G6:R2:=λx y H Q=>∃ l b a c,x=.ref l/\y=.ref b/\H l=some (.lst a)/\H b=some (.lst c)/\a.length+c.length<=sizeLine/\∀ p,H p=none->Q (.ref p) (upd H p (.lst (a++c)))
def JH:OpR X (binaryOp .Add) G6:=by
 intro d s w H x y v u Q I f g h;obtain ⟨l,b,A,B,rfl,rfl,i,j,C,q⟩:=h;cases f;cases g;obtain ⟨z,c,n,r,D,e⟩:=I.lstM i;obtain ⟨E,a,F,k,m,o⟩:=I.lstM j;refine PySem.P.add_list e o ?_ (by rw [BJ,BJ];omega);have p:c.toArray++a.toArray=(c++a).toArray:=by simp
 rw [p];exact ⟨.ref _,_,I.lnew (t':=s.toks) (r.append k) (by rw [Bp];omega),rfl,q _ I.fresh⟩
def GN:R2:=λx y H Q=>∃ l k a,x=.ref l/\y=.int k/\H l=some (.lst a)/\-(2 ^ 63)<=k/\k<2 ^ 63/\a.length*k.toNat<=sizeLine/\
 ∀ p,H p=none->Q (.ref p) (upd H p (.lst (List.replicate k.toNat a).flatten))
theorem Vl {a:Type} (xs:List a) (k:Nat):(List.replicate k xs).flatten.length=k*xs.length:=by
 induction k with
 | zero=>simp
 | succ k b=>rw [List.replicate_succ,List.flatten_cons,Bp,b,Nat.succ_mul,Nat.add_comm]
def Hz:OpR X (binaryOp .Mult) GN:=by
 intro p s L H x y v u Q I A B h;obtain ⟨l,k,M,rfl,rfl,C,D,E,w,q⟩:=h;cases A;obtain ⟨t,rfl⟩:=B;obtain ⟨z,b,n,r,G,e⟩:=I.lstM C;have d:b.toArray.size*k.toNat<=sizeLine:=by rw [BJ,<-G];exact w
 have f:¬ b.toArray.size*k.toNat > (2 ^ 63 - 1) / 8:=by
  have:(sizeLine:Nat)<=(2 ^ 63 - 1) / 8:=by decide
  omega
 have g:¬ (!Builtin.List.listFitsIndex k)=true:=by
  rw [fitsIndex_both D E];exact Cc
 have c:¬ Builtin.List.listTooLong (b.toArray.size*k.toNat)=true:=by
  rw [Nc d];exact Cc
 have i:List.foldl (λj o=>j++o) #[] (List.replicate (if b.toArray.isEmpty=true then 0 else k.toNat) b.toArray)=(List.replicate k.toNat b).flatten.toArray:=by
  have J:∀ m:Nat,List.foldl (λj o=>j++o) #[] (List.replicate m b.toArray)=(List.replicate m b).flatten.toArray:=λm=>by
   have:=Na b m [];rw [List.nil_append] at this;exact this
  rw [J];cases b with
  | nil=>simp
  | cons a N=>rw [nU (by simp)]
 refine wpAny_binaryOp_repeat_ref (T := "list") (U := "int") ∅ ⟨_,e,rfl⟩ (λK=>typeIs_int K k t) noFill_list_mul F.fills_int_mul F.slot_int_rmul repeat_list F.slot_int_index.lookup
  (call_meets F.slot_int_rmul (typeIs_int s k t) F.entry_int_rmul (F.args_int_rmul_2 _ _) (int___rmul___int_list k t l b.toArray n)
   ⟨e,rfl,⟨_,e,rfl⟩,call_meets F.slot_list_mul ⟨_,e,rfl⟩ F.entry_list_mul (F.args_list_mul_2 _ _) (AutoListH.list___mul___list_int_3 l b.toArray n k t g f c) ⟨e,?_⟩⟩)
 rw [i];exact ⟨.ref _,_,I.lnew (t':=s.toks) (r.rep k.toNat) (by rw [Vl,Dt];exact w),rfl,q _ I.fresh⟩
end
end L2
namespace Att
open PySem PySem.W PySem.Calls PyProof.Rows
theorem Vm {P:Params} {h:Heap}:∀ (c:d8) (vs:dc),WellAll P h vs (c.map WData.int)->IntsAre vs c:=by
 intro c
 induction c with
 | nil=>
   intro vs w;rw [List.map_nil] at w;cases w;exact .nil
 | cons n c d=>
   intro vs w;rw [CA] at w;cases w with
   | cons a b=>
     cases a;exact .cons _ _ (d _ b)
theorem Vn {l:OpenLaw} {n:Nat} (v:l.most=some n) {P:Params} {h:Heap} {b:List WData} {e:dc}
  (f:l.row.toRowW.claim.pre b=true) (m:WellAll P h e b) :
  ∃ a p c,e=[Value.ref a]/\b=[WData.list (c.map WData.int)]/\h.get? a=some { cls:=.type "list", data:=.seq p.toArray }/\IntsAre p c/\c.length<=n:=by
 have o:WShape.hasAll [] b [.list .int]=true:=(pre_splitW f).1;have u:l.pre.holds [] { args:=b }=true:=(pre_splitW f).2;obtain ⟨d,r,rfl,w,x⟩:=hasAllW_cons o;obtain rfl:=hasAllW_nil x;obtain ⟨D,rfl,y⟩:=hasW_list w;obtain ⟨c,rfl⟩:=items_int y
 have g:c.length<=n:=by
  unfold OpenLaw.pre at u
  have j:(WTm.not (.lt (.lit (.int (n:Int))) (.len (.arg 0)))).holds [] { args:=[.list (c.map .int)] }=true:=by
   have j:=(holds_andW u).1;rw [v] at j;exact j
  have k:=condW_of j (w_not (w_lt w_lit (w_len_list (w_arg rfl))));rw [AJ] at k;refine Nat.le_of_not_lt λq=>?_;have z:(n:Int)<((c.length:Nat):Int):=by omega
  first
   | (rw [nW z] at k;exact absurd k ∅)
   | (simp at k;omega)
 cases m with
 | cons A B=>
   cases B;cases A with
   | list C i=>exact ⟨_,_,c,rfl,rfl,C,Vm c _ i,g⟩
def Vo (l:OpenLaw) (a:List WData):l.row.toRowW.claim.post a (.bool true) a=true:=
 postW_of (r:=l.row.toRowW) (X:=(true == true))
  (show WShape.has [] (.bool true) .bool=true by first | rfl | decide | simp [WShape.has,WShape.arms,WShape.armsAll])
  (show (WTm.eq .res (.lit (.bool true))).value [] { args:=a,res:=some (.bool true),after:=a }=some (.bool (true == true)) from w_eq_bool (w_res rfl) w_lit) rfl
def attach_call {l:OpenLaw} {n:Nat} {q:Program} {loose:dt} {XP:(di)->Heap->Prop} {YP:World->Heap->Prop} {d:DefRec}
  (H:l.most=some n) (x:d.params.defaults=[])
  (call:∀ (w:World) (c b:Shared) (m y:di) (h:Addr) (o:Obj) (pm p e:Value) (a:Addr) (vs:dc) (u:d8),
   Ground q loose [] XP w c m y b.heap->YP w b.heap->
   b.heap.get? h=some o->o.data=.func (docDef d.name d.params d.body d.scope pm p e)->b.heap.CodeRec p d.name->m d.name=some (.ref h)->
   b.heap.get? a=some { cls:=.type "list", data:=.seq vs.toArray }->IntsAre vs u->u.length<=n->b.gens=#[]->
   codeAny (model l.prog w) callerA (.call (.ref h) ⟨[.ref a],[]⟩) (λr v=>r=.ok (.ret (.bool true))/\OldK b.heap v.heap/\v.os=b.os/\AllBare v.gens) b) :
  WalkO q loose XP YP l.row.toRowW d [] (λf vs=>PySem.call f vs):=by
 intro w c b m y G Y h o pm p e I kV J K z C A L D E as i F M B N;obtain rfl:I=.none:=Dflts.none C x;obtain rfl:kV=.none:=Dflts.noKw C;obtain ⟨a,vs,u,rfl,rfl,j,g,k⟩:=Vn H i B;refine enter_call (codeAny_mono (call w c b m y h o pm p e a vs u G Y J (fd_plain K) z A j g k L) λr v O=>?_);obtain ⟨rfl,P,Q,R⟩:=O;exact ⟨.inl ⟨.bool true,.bool true,[],rfl,λ_=>rfl,.bool true,Vo l _,λ_=>⟨List.Pairwise.nil,λ_ S=>(nomatch S)⟩⟩,P,Q,R⟩
section
variable {prog:Program} {w:World} {A:Around} {E:de} {s:Shared} {K:Frag}
noncomputable def noObjs (h:Heap):Heap:={ h with objs:=#[] }
theorem noObjs_get (h:Heap) (b:Addr):(noObjs h).get? b=none:=by
 cases e:(noObjs h).get? b with
 | none=>rfl
 | some o=>exact absurd (mG e) (Nat.not_lt_zero _)
noncomputable def ledger (h:Heap) (L d:Addr):dh:=(List.range h.objs.size).filterMap λa=>if a=L\/a=d then none else (h.get? a).map λo=>(a,o)
def mem_ledger {h:Heap} {L d a:Addr} {o:Obj}:(a,o)∈ledger h L d↔a≠L/\a≠d/\h.get? a=some o:=by
 unfold ledger;rw [List.mem_filterMap];constructor
 ·rintro ⟨b,_,e⟩;split at e
  ·cases e
  ·rename_i f;obtain ⟨k,c,g⟩:=EG.mp e;cases g;exact ⟨λq=>f (.inl q),λq=>f (.inr q),c⟩
 ·rintro ⟨i,j,c⟩;refine ⟨a,B9.mpr (mG c),?_⟩;rw [nU (show ¬ (a=L\/a=d) from λq=>q.elim i j),c] <;> rfl
def fr_all {h:Heap} {L:Addr} {m:di} (n:h.Ns L m):Fr (noObjs h) L h m:=
 ⟨n,λb o e=>(by rw [noObjs_get] at e;cases e),Ae _⟩
end
end Att
namespace L2
open PySem PySem.Spec PyProof.Rows
theorem Nd:∀ {vs:dc} {a:d8},IntsAre vs a->Vals (a.map V.int) vs
 | _,_,.nil=>.nil
 | _,_,.cons n t h=>.cons ⟨t,rfl⟩ (Nd h)
def aX (H:Hp):Prop:=∀ b,H b=none\/∃ o a,H b=some (.frz o (.lst a))
theorem Vp {P:Program} {w:World} {K:W.Frag} {E mb:di} {CX:aC} {k:Nat} {fa a:Addr} {fd:FuncData} {x:Str} {sp:Sp} {c:Shared} {vs:dc} {G:d8}
  (KX:K.In c.heap) (I:c.heap.Ns mainGlobals E) (j:c.heap.Ns builtinsNs mb) (a0:∀ x:Str,x ≠ "__name__" -> mb x=bootBuiltins x) (J:c.heap.NoLimit) (g:c.heap.NoSeer) (B:(model P w).prog.given.tree=none) (hg:c.gens=#[])
  (L:c.heap.get? a=some { cls:=.type "list", data:=.seq vs.toArray }) (hi:IntsAre vs G) (hl:G.length<=sizeLine) (hr:Room k callerA)
  (F:∀ p:Heap,K.In p->p.Ns mainGlobals E->FnOk P w K E p CX k fa fd [x] sp) (C:∀ (s:Shared) (u:Value),BindsTo s fd ⟨[u],[]⟩ [(x,u)])
  (a1:∀ H:Hp,aX H->SqL K H a (G.map V.int)->sp [.ref a] H (λv _=>v=.bl true) λ_ _ _=>False)
  (a2:∀ H e y,CX [] H c (λ_ _ _=>False) e y->False) :
  codeAny (model P w) callerA (.call (.ref fa) ⟨[.ref a],[]⟩) (λr y=>r=.ok (.ret (.bool true))/\OldK c.heap y.heap/\y.os=c.os/\AllBare y.gens) c:=by
 have rv:=Nd hi;have M:=hi.length
 have A:∀ H:Hp,aX H->SqL K H a (G.map V.int)->HOk P w H c.heap->(∀ b,H b≠none->b=a)->(H a≠none->K.lookup a=none)->
   codeAny (model P w) callerA (.call (.ref fa) ⟨[.ref a],[]⟩) (λr y=>r=.ok (.ret (.bool true))/\OldK c.heap y.heap/\y.os=c.os/\AllBare y.gens) c:=by
  intro H hO hS N hA hK;have f:∀ {b:Addr} {o:Obj},c.heap.get? b=some o->H b=none->(Ec c.heap H).get? b=some o:=λe n=>Ur e n
  have a3:∀ {b:Addr} {o:Obj} {O:Array DictEntry} {Q:Nat},c.heap.get? b=some o->o.data=.dict O Q->H b=none:=λ{b o O Q} e d=>by
   cases q:H b with
   | none=>rfl
   | some u=>
     have R:b=a:=hA b (by rw [q];simp);subst R;rw [L] at e;cases e;have Y:Data.seq vs.toArray _=Data.dict O Q:=d;cases Y
  have i:∀ {b:Addr} {m:di},c.heap.Ns b m->(Ec c.heap H).Ns b m:=λ{b m} ⟨o,O,Q,e,d,r⟩=>⟨o,O,Q,f e (a3 e d),d,r⟩
  have S:K.In (Ec c.heap H):=λb o e=>f (KX b o e) (by
   cases q:H b with
   | none=>rfl
   | some u=>
     have R:b=a:=hA b (by rw [q];simp);subst R;rw [hK (by rw [q];simp)] at e;cases e)
  have hM:Mod K E (Ec c.heap H):=⟨S,i I,⟨mb,i j,a0⟩,let ⟨D,h1,h2⟩:=J;⟨D,i h1,h2⟩⟩
  have a4:(Ec c.heap H).NoSeer:=⟨let ⟨D,a,b⟩:=g.statics;⟨D,i a,b⟩,let ⟨D,a,b⟩:=g.mods;⟨D,i a,b⟩,let ⟨D,a,b⟩:=g.imp;⟨D,i a,b⟩,
   let ⟨a5,Z,ob,a',b',c',Y,R⟩:=g.main;⟨a5,Z,ob,i a',b',f c' (by
    cases q:H Z with
    | none=>rfl
    | some u=>
      have z:Z=a:=hA Z (by rw [q];simp);subst z;rw [L] at c';cases c';simp at Y),Y,R⟩⟩
  have e0:Env0 P w K E (Ec c.heap H) callerA [] c H:=⟨rfl,hM,λb o e=>Us e,Nat.le_of_eq (Uq _ _),trivial,λb j=>absurd (show b∈([]:dw) from j) (by simp),N,.of_eq hg,a4,B⟩;refine codeAny_mono ((F _ S (i I)).run callerA [] c H ⟨[.ref a],[]⟩ [.ref a] [.ref a] _ _ hr e0 (C c (.ref a)) (.cons rfl .nil) (a1 H hO hS)) λr y h=>?_;cases r with
  | error e=>exact (a2 H e y h).elim
  | ok fl=>
    cases fl with
    | next=>exact False.elim h
    | brk=>exact False.elim h
    | cont=>exact False.elim h
    | ret u=>
      obtain ⟨v,H',os,T,un,U,r',q⟩:=h;have q':v=.bl true:=q;subst q';obtain rfl:u=Value.bool true:=r';refine ⟨rfl,OldK.of_keep λb o e=>?_,os,T⟩;cases q:H b with
      | none=>exact un.keep b o e q (by intro z;exact absurd (show b∈([]:dw) from z) (by simp)) (by simp)
      | some u=>
        rcases hO b with z | ⟨ob,xs,z⟩
        ·rw [q] at z;cases z
        ·have z2:=un.frzs b ob _ z;obtain ⟨e1,_⟩:=N b _ z;obtain ⟨e2,_⟩:=U b _ z2;rw [e] at e1;cases e1;exact e2
 cases hk:K.lookup a with
 | some o=>
   have e:=KX a o hk;rw [L] at e;cases e;refine A (λ_=>none) (λ_=>.inl rfl) (.inr ⟨_,vs.toArray,_,hk,rfl,rfl,rfl,by rw [BJ,M];exact hl,by simpa using rv⟩) (λb u z=>by have X:(none:Option HO)=some u:=z;cases X) (λb z=>absurd rfl z) λz=>absurd rfl z
 | none=>
   refine A (λb=>if b=a then some (.frz { cls:=.type "list", data:=.seq vs.toArray } (.lst (G.map V.int))) else none) (λb=>?_) (.inl (.inr ⟨{ cls:=.type "list", data:=.seq vs.toArray },nV rfl⟩)) (λb u z=>?_) (λb z=>?_) λ_=>hk
   ·by_cases j:b=a
    ·exact .inr ⟨_,_,nV j⟩
    ·exact .inl (nU j)
   ·by_cases j:b=a
    ·have X:=(nV j).symm.trans z;cases X;subst j;exact ⟨L,by rw [AJ];exact hl,vs,_,rv,L⟩
    ·have X:=(nU j).symm.trans z;cases X
   ·by_cases j:b=a
    ·exact j
    ·exact absurd (nU j) z
def walk_of {l:W.OpenLaw} {n k:Nat} {q:Program} {loose:dt} {XP:(di)->Heap->Prop} {YP:World->Heap->Prop} {d:DefRec} {K:Params->W.Frag} {CX:World->aC} {sp:World->Sp} {x:Str}
  (M:l.most=some n) (z:n<=sizeLine) (A:d.params.defaults=[]) (N:importsNone q=true) (g:∀ w,(model l.prog w).prog.given.tree=none) (O:Room k callerA)
  (P:∀ (w:World) (h:Heap),YP w h->(K w.params).In h)
  (F:∀ (w:World) (j:di) (r:Addr) (h:Heap),(K w.params).In h->h.Ns mainGlobals j->j d.name=some (.ref r)->
   ∃ B:FuncData,(∀ (s:Shared) (u:Value),BindsTo s B ⟨[u],[]⟩ [(x,u)])/\
     ∀ b:Heap,(K w.params).In b->b.Ns mainGlobals j->FnOk l.prog w (K w.params) j b (CX w) k r B [x] (sp w))
  (C:∀ (w:World) (H:Hp) (a:Addr) (y:d8),y.length<=n->aX H->SqL (K w.params) H a (y.map V.int)->sp w [.ref a] H (λv _=>v=.bl true) λ_ _ _=>False)
  (D:∀ (w:World) (H:Hp) (s:Shared) (e:Value) (s':Shared),CX w [] H s (λ_ _ _=>False) e s'->False) :
  W.WalkO q loose XP YP l.row.toRowW d [] (λf I=>PySem.call f I):=by
 refine Att.attach_call M A λw J m j mb r o pm cd Q a I y G Y ho hd R E p i c S=>?_;have L:=P w _ Y;obtain ⟨B,T,U⟩:=F w j r _ L G.T.g E;exact Vp L G.T.g G.T.b G.T.builtins G.T.nolimit (G.T.seer N) (g w) S p i (Bg c z) O U T (λH X Z=>C w H a y c X Z) λH e s'=>D w H m e s'
noncomputable def Em (s:Stmt):Arguments:=match s with
 | .FunctionDef _ a _ _ _ _ _ _ _ _=>a
 | _=>{ posonlyargs:=[],args:=[],vararg:=none,kwonlyargs:=[],kw_defaults:=[],kwarg:=none,defaults:=[] }
noncomputable def D2 (s:Stmt):List Stmt:=match s with
 | .FunctionDef _ _ b _ _ _ _ _ _ _=>b
 | _=>[]
noncomputable def Cl (s:Stmt):Scope:=match s with
 | .FunctionDef _ _ _ _ _ _ a _ _ _=>a
 | _=>{ kind:=.function,names:=[],isGenerator:=false,isCoroutine:=false }
noncomputable abbrev aD:aC:=λ_ _ _ _ _ _=>False
abbrev E0:XK:=λ_ _ _=>False
def Vq {X:Cx}:af aD X E0:=λ_ _ _ _ _ _ _ h=>h.elim
structure Fun (K:W.Frag) (x qual:Str) (st:Stmt) (f:Addr) (fd:FuncData):Prop where
 ex:∃ (oc:Value) (od:Option Addr) (kV doc pm:Value) (an:Option Addr) (cdv ct:Value) (osl:Array (du)),
  fd=W.fnOf x qual (Em st) (D2 st) (Cl st) .none kV doc pm an cdv ct/\K.lookup f=some ⟨oc,od,.func fd,osl⟩/\W.codeIn K cdv qual=true
 kp:W.keepIn K (.ref f)=true
section
variable {P:Program} {w:World} {K:W.Frag} {mg:di} {base:Heap}
def Fun.ok {x b:Str} {st:Stmt} {f:Addr} {i:FuncData} {N ps:dt} {k:Nat} {sp:Sp} (F:Fun K x b st f i) (S:FnScope N ps (Cl st)) (len:∀ vs H Q E,sp vs H Q E->vs.length=ps.length)
  (d:∀ (c:Value) (A:Around) (a:List Env) (s:Shared) (H:Hp) (vs:c_) (Q:VK) (E:XK),Room k (A.deeper (envOfC b (Cl st) s.heap.objs.size f c))->sp vs H Q E->
   ∃ t,PSs (GH aD P w K mg base N b (Cl st) f c A a s H E).nox (D2 st) t/\t { nx:=λ_ j=>Q .non j,rt:=Q } (start N vs) H):FnOk P w K mg base aD (k+1) f i ps sp:=by
 obtain ⟨r,u,kV,m,v,y,c,z,n,rfl,o,e⟩:=F.ex;refine VR o e S len λA a s H vs Q E p g=>?_;obtain ⟨t,h,q⟩:=d c A a s H vs Q E p g;exact ⟨t,h.nox,q⟩
def Fun.binds {x a:Str} {st:Stmt} {f:Addr} {i:FuncData} {ps:dt} (F:Fun K x a st f i)
  (h:∀ (kV b pm:Value) (d:Option Addr) (c e:Value) (g:dc),g.length=ps.length->bindArgs (W.fnOf x a (Em st) (D2 st) (Cl st) .none kV b pm d c e) ⟨g,[]⟩=pure (ps.zip g)):Binds K i ps []:=by
 obtain ⟨m,n,kV,b,pm,d,c,e,j,rfl,o,k⟩:=F.ex;exact .all (h kV b pm d c e)
def Vr {x a:Str} {st:Stmt} {f:Addr} {i:Value} {j g:Option Addr} {e:Array (du)} {kV d pm b h:Value} (l:K.lookup f=some ⟨i,j,.func (W.fnOf x a (Em st) (D2 st) (Cl st) .none kV d pm g b h),e⟩)
  (c:W.codeIn K b a=true) (k:W.keepIn K (.ref f)=true):Fun K x a st f (W.fnOf x a (Em st) (D2 st) (Cl st) .none kV d pm g b h):=⟨⟨i,j,kV,d,pm,g,b,h,e,rfl,l,c⟩,k⟩
end
section
variable {X:Cx}
def pv (i:Nat) {x:Str} {pos:Pos} (b:X.N[i]?=some x:=by rfl) (c:bU X.env.scope x:=by first | exact Or.inl rfl | exact Or.inr (Or.inl rfl) | exact Or.inr (Or.inr rfl)) (d:(x == ("__debug__" : Str))=false:=by decide)
  (a:(x == ("__classdict__" : Str))=false:=by decide):PE X (.Name x pos) (AA i):=Uu b c d a
end
def Ag {c A B:Prop} [Decidable c] (a:c->A) (b:¬ c->B):if c then A else B:=by
 by_cases h:c
 ·rw [nV h];exact a h
 ·rw [nU h];exact b h
def Same (H a:Hp):Prop:=∀ b o,H b=some o->a b=some o
def Same.refl (H:Hp):Same H H:=λ_ _ h=>h
def Same.trans {H d e:Hp} (a:Same H d) (b:Same d e):Same H e:=λc o h=>b c o (a c o h)
theorem Same.free {H a:Hp} (e:Same H a) {l:Addr} (h:a l=Option.none):H l=Option.none:=by
 cases q:H l with
 | none=>rfl
 | some o=>
   rw [e l o q] at h;cases h
def Same.seq {K:W.Frag} {H b:Hp} {a:Addr} {xs:c_} (e:Same H b) (h:SqL K H a xs):SqL K b a xs:=by
 rcases h with (h | ⟨o,h⟩) | h
 ·exact .inl (.inl (e _ _ h))
 ·exact .inl (.inr ⟨o,e _ _ h⟩)
 ·exact .inr h
end L2
local macro_rules | `(tactic| omega)=>`(tactic| lia)
namespace Bs.Hd
open PySem PySem.Spec PyProof.Rows L2
set_option maxRecDepth 100000
set_option maxHeartbeats 4000000
noncomputable def top (i:Nat):Stmt:=PySem.Challenge.pw_backslope_k31_forms_settled.main.body.getD i (.Pass ⟨0,0,0,0⟩)
noncomputable abbrev Vs:Stmt:=top 2
noncomputable abbrev Vt:Stmt:=top 3
noncomputable abbrev Vu:Stmt:=top 4
noncomputable abbrev Vv:Stmt:=top 5
noncomputable abbrev Vw:Stmt:=top 6
noncomputable abbrev Vx:Stmt:=top 7
noncomputable abbrev Vy:Stmt:=top 8
noncomputable abbrev Vz:Stmt:=top 9
noncomputable abbrev V0:Stmt:=top 10
noncomputable abbrev V1:Stmt:=top 11
noncomputable abbrev V2:Stmt:=top 12
noncomputable abbrev V3:Stmt:=top 13
noncomputable abbrev V4:Stmt:=top 14
noncomputable abbrev V5:Stmt:=top 15
noncomputable abbrev V6:Stmt:=top 16
noncomputable abbrev V7:Stmt:=top 17
noncomputable abbrev V8:Stmt:=top 18
noncomputable abbrev V9:Stmt:=top 19
noncomputable abbrev WA:Stmt:=top 20
noncomputable abbrev WB:Stmt:=top 21
noncomputable abbrev WC:Stmt:=top 22
noncomputable abbrev WD:Stmt:=top 23
noncomputable abbrev WE:Stmt:=top 24
noncomputable abbrev WF:Stmt:=top 26
noncomputable abbrev WG:Stmt:=top 27
noncomputable abbrev WH:Stmt:=top 28
noncomputable abbrev WI:Stmt:=top 29
noncomputable abbrev WJ:Stmt:=top 30
noncomputable abbrev WK:Stmt:=top 31
noncomputable abbrev WL:Stmt:=top 33
noncomputable abbrev WM:Stmt:=top 34
noncomputable abbrev WN:Stmt:=top 35
noncomputable abbrev WO:Stmt:=top 36
noncomputable abbrev WP:Stmt:=top 37
noncomputable abbrev WQ:Stmt:=top 38
noncomputable abbrev WR:Stmt:=top 39
noncomputable abbrev WS:Stmt:=top 40
noncomputable abbrev WT:Stmt:=top 42
noncomputable abbrev WU:Stmt:=top 43
noncomputable abbrev WV:Stmt:=top 44
noncomputable abbrev WW:Stmt:=top 46
noncomputable abbrev WX:Stmt:=top 47
noncomputable abbrev WY:Stmt:=top 49
noncomputable abbrev WZ:Stmt:=top 50
noncomputable abbrev Wa:Stmt:=top 51
noncomputable abbrev Wb:Stmt:=top 53
noncomputable abbrev Wc:Stmt:=top 54
noncomputable abbrev Wd:Stmt:=top 55
noncomputable abbrev We:Stmt:=top 56
noncomputable abbrev Wf:Stmt:=top 57
noncomputable abbrev Wg:Stmt:=top 58
noncomputable abbrev Wh:Stmt:=top 59
noncomputable abbrev Wi:Stmt:=top 60
noncomputable abbrev Wj:Stmt:=top 61
noncomputable abbrev Wk:Stmt:=top 62
noncomputable abbrev Wl:Stmt:=top 63
noncomputable abbrev Wm:Stmt:=top 64
noncomputable abbrev Wn:Stmt:=top 65
noncomputable abbrev Wp:Stmt:=top 66
noncomputable abbrev Wq:Stmt:=top 67
noncomputable abbrev Wr:Stmt:=top 68
noncomputable abbrev Ws:Stmt:=top 69
noncomputable abbrev JI:Stmt:=top 70
noncomputable abbrev N:Value:=.none
noncomputable abbrev S (x:Str) (t:Tok):Value:=.str x t
noncomputable abbrev I (i:Int):Value:=.int i 0
noncomputable abbrev R (a:Addr):Value:=.ref a
noncomputable def en (P:Params) (k:Str) (t:Tok) (v:Value):DictEntry:=⟨PyData.keyHash P k,.str k t,v⟩
noncomputable def J' (n:Str) (t:Tok) (l c u:Int) (a:Addr) (b g d e f:Value) (x:Int) (y:Tok):Obj:=⟨.type "code", none,.fields #[S n t,S n (t+1),S "/claim/cut.py" (t+2),I l,I c,I 0,I 0,I u,R a,.bool true,I 181,b,g,d,e,f,I x,I l,S "/claim/cut.py" y],#[]⟩
noncomputable def J_ (n:Str) (s:Stmt) (pm:Value) (c:Addr):Obj:=⟨.type "function", none,.func (W.fnOf n n (Em s) (D2 s) (Cl s) .none .none .none pm none (.ref c) .none),#[]⟩
noncomputable abbrev N_:Value:=S "backslope.wholes" 187
noncomputable abbrev ax:Value:=S "backslope.numbers" 399
noncomputable abbrev ad:Value:=S "backslope.polys" 449
noncomputable abbrev bI:Value:=S "backslope.fractions" 520
noncomputable abbrev cF:Value:=S "backslope.parts" 548
noncomputable abbrev bJ:Value:=S "backslope.forms" 569
noncomputable abbrev R_:Value:=S "law_backslope_k31_forms_settled" 597
noncomputable def hp (P:Params):W.Frag:=[
 (3,⟨.type "dict", none,.dict #[en P "__name__" 165 (S "law_backslope_k31_forms_settled" 597),en P "__doc__" 166 N,en P "__package__" 167 N,en P "__loader__" 168 (.builtin "__main__.__loader__#opaque"),en P "__spec__" 169 N,en P "__annotations__" 170 (R 6),en P "__builtins__" 171 (R 4),en P "__file__" 173 (S "/claim/cut.py" 172),en P "__cached__" 174 N,en P "EXPONENTS" 197 (R 15),en P "common_divisor" 206 (R 22),en P "raised" 216 (R 29),en P "content" 222 (R 34),en P "row_trimmed" 230 (R 41),en P "row_parted" 236 (R 46),en P "row_times" 249 (R 53),en P "row_slope" 255 (R 58),en P "row_over" 269 (R 65),en P "row_less" 275 (R 70),en P "strand_rest" 281 (R 75),en P "strand_shortened" 287 (R 80),en P "row_shortened" 294 (R 87),en P "strand_euclid" 303 (R 94),en P "inverse_modulo" 317 (R 101),en P "rests_modulo" 323 (R 106),en P "row_modulo" 331 (R 113),en P "monic_modulo" 337 (R 118),en P "split_modulo" 352 (R 125),en P "rest_modulo" 361 (R 132),en P "euclid_modulo" 371 (R 139),en P "nearest" 380 (R 146),en P "common_by_prime" 386 (R 151),en P "row_common" 398 (R 158),en P "ratio" 409 (R 165),en P "plus" 417 (R 172),en P "times" 425 (R 179),en P "over" 433 (R 186),en P "before" 441 (R 193),en P "size_of" 448 (R 200),en P "poly" 458 (R 207),en P "degree" 465 (R 214),en P "cleared" 471 (R 219),en P "uncleared" 477 (R 224),en P "p_times" 487 (R 231),en P "p_scaled" 493 (R 236),en P "p_split" 510 (R 243),en P "common" 519 (R 250),en P "fraction" 530 (R 257),en P "evened" 539 (R 264),en P "quotient" 547 (R 271),en P "simple_parts" 561 (R 278),en P "made_monic" 568 (R 285),en P "settled" 576 (R 290),en P "logs_plus" 590 (R 297),en P "gathered" 596 (R 302),en P "_law_begin" 604 (R 307),en P "_law_take" 614 (R 314),en P "_law_number" 622 (R 321),en P "_law_other" 630 (R 328),en P "_law_whole" 636 (R 333),en P "_law_pool" 642 (R 338),en P "_law_some" 648 (R 343),en P "_law_lines" 654 (R 348),en P "_law_laid" 665 (R 355),en P "_law_fraction" 671 (R 360),en P "_law_is_number" 679 (R 367),en P "_law_is_poly" 685 (R 372),en P "_law_is_fraction" 692 (R 379),en P "_law_is_logs" 700 (R 386),en P "_law_is_form" 707 (R 393),en P "_law_row" 720 (R 400),en P "_law_one" 726 (R 405),en P "law" 736 (R 412)] 73,#[]⟩),
 (15,⟨.type "tuple", none,.seq #[(.int 61 189),(.int 127 190),(.int 521 191),(.int 1279 192),(.int 4423 193),(.int 9941 194),(.int 21701 195),(.int 44497 196)] 0,#[]⟩),
 (21,J' "common_divisor" 198 3 2 3 16 (R 17) N (R 18) (R 19) (R 20) 204 205),
 (22,J_ "common_divisor" (top 2) N_ 21),
 (28,J' "raised" 207 9 2 3 23 (R 24) N (R 25) (R 26) (R 27) 214 215),
 (29,J_ "raised" (top 3) N_ 28),
 (33,J' "content" 217 19 2 3 30 (R 31) N N N (R 32) 220 221),
 (34,J_ "content" (top 4) N_ 33),
 (40,J' "row_trimmed" 223 26 1 3 35 (R 36) N (R 37) (R 38) (R 39) 228 229),
 (41,J_ "row_trimmed" (top 5) N_ 40),
 (45,J' "row_parted" 231 31 2 3 42 (R 43) N N N (R 44) 234 235),
 (46,J_ "row_parted" (top 6) N_ 45),
 (52,J' "row_times" 237 33 2 3 47 (R 48) N (R 49) (R 50) (R 51) 247 248),
 (53,J_ "row_times" (top 7) N_ 52),
 (57,J' "row_slope" 250 42 1 3 54 (R 55) N N N (R 56) 253 254),
 (58,J_ "row_slope" (top 8) N_ 57),
 (64,J' "row_over" 256 44 2 3 59 (R 60) N (R 61) (R 62) (R 63) 267 268),
 (65,J_ "row_over" (top 9) N_ 64),
 (69,J' "row_less" 270 57 5 3 66 (R 67) N N N (R 68) 273 274),
 (70,J_ "row_less" (top 10) N_ 69),
 (74,J' "strand_rest" 276 63 2 3 71 (R 72) N N N (R 73) 279 280),
 (75,J_ "strand_rest" (top 11) N_ 74),
 (79,J' "strand_shortened" 282 73 1 3 76 (R 77) N N N (R 78) 285 286),
 (80,J_ "strand_shortened" (top 12) N_ 79),
 (86,J' "row_shortened" 288 78 1 3 81 (R 82) N (R 83) (R 84) (R 85) 292 293),
 (87,J_ "row_shortened" (top 13) N_ 86),
 (93,J' "strand_euclid" 295 80 2 3 88 (R 89) N (R 90) (R 91) (R 92) 301 302),
 (94,J_ "strand_euclid" (top 14) N_ 93),
 (100,J' "inverse_modulo" 304 88 2 3 95 (R 96) N (R 97) (R 98) (R 99) 315 316),
 (101,J_ "inverse_modulo" (top 15) N_ 100),
 (105,J' "rests_modulo" 318 102 2 3 102 (R 103) N N N (R 104) 321 322),
 (106,J_ "rests_modulo" (top 16) N_ 105),
 (112,J' "row_modulo" 324 104 2 3 107 (R 108) N (R 109) (R 110) (R 111) 329 330),
 (113,J_ "row_modulo" (top 17) N_ 112),
 (117,J' "monic_modulo" 332 106 2 3 114 (R 115) N N N (R 116) 335 336),
 (118,J_ "monic_modulo" (top 18) N_ 117),
 (124,J' "split_modulo" 338 111 3 3 119 (R 120) N (R 121) (R 122) (R 123) 350 351),
 (125,J_ "split_modulo" (top 19) N_ 124),
 (131,J' "rest_modulo" 353 122 3 3 126 (R 127) N (R 128) (R 129) (R 130) 359 360),
 (132,J_ "rest_modulo" (top 20) N_ 131),
 (138,J' "euclid_modulo" 362 124 3 3 133 (R 134) N (R 135) (R 136) (R 137) 369 370),
 (139,J_ "euclid_modulo" (top 21) N_ 138),
 (145,J' "nearest" 372 132 2 3 140 (R 141) N (R 142) (R 143) (R 144) 378 379),
 (146,J_ "nearest" (top 22) N_ 145),
 (150,J' "common_by_prime" 381 135 3 3 147 (R 148) N N N (R 149) 384 385),
 (151,J_ "common_by_prime" (top 23) N_ 150),
 (157,J' "row_common" 387 144 2 3 152 (R 153) N (R 154) (R 155) (R 156) 396 397),
 (158,J_ "row_common" (top 24) N_ 157),
 (164,J' "ratio" 401 154 2 3 159 (R 160) N (R 161) (R 162) (R 163) 407 408),
 (165,J_ "ratio" (top 26) ax 164),
 (171,J' "plus" 410 159 2 3 166 (R 167) N (R 168) (R 169) (R 170) 415 416),
 (172,J_ "plus" (top 27) ax 171),
 (178,J' "times" 418 161 2 3 173 (R 174) N (R 175) (R 176) (R 177) 423 424),
 (179,J_ "times" (top 28) ax 178),
 (185,J' "over" 426 163 2 3 180 (R 181) N (R 182) (R 183) (R 184) 431 432),
 (186,J_ "over" (top 29) ax 185),
 (192,J' "before" 434 165 2 3 187 (R 188) N (R 189) (R 190) (R 191) 439 440),
 (193,J_ "before" (top 30) ax 192),
 (199,J' "size_of" 442 167 1 3 194 (R 195) N (R 196) (R 197) (R 198) 446 447),
 (200,J_ "size_of" (top 31) ax 199),
 (206,J' "poly" 451 170 1 3 201 (R 202) N (R 203) (R 204) (R 205) 456 457),
 (207,J_ "poly" (top 33) ad 206),
 (213,J' "degree" 459 175 1 3 208 (R 209) N (R 210) (R 211) (R 212) 463 464),
 (214,J_ "degree" (top 34) ad 213),
 (218,J' "cleared" 466 177 1 3 215 (R 216) N N N (R 217) 469 470),
 (219,J_ "cleared" (top 35) ad 218),
 (223,J' "uncleared" 472 182 2 3 220 (R 221) N N N (R 222) 475 476),
 (224,J_ "uncleared" (top 36) ad 223),
 (230,J' "p_times" 478 184 2 3 225 (R 226) N (R 227) (R 228) (R 229) 485 486),
 (231,J_ "p_times" (top 37) ad 230),
 (235,J' "p_scaled" 488 188 2 3 232 (R 233) N N N (R 234) 491 492),
 (236,J_ "p_scaled" (top 38) ad 235),
 (242,J' "p_split" 494 190 2 3 237 (R 238) N (R 239) (R 240) (R 241) 508 509),
 (243,J_ "p_split" (top 39) ad 242),
 (249,J' "common" 511 207 2 3 244 (R 245) N (R 246) (R 247) (R 248) 517 518),
 (250,J_ "common" (top 40) ad 249),
 (256,J' "fraction" 522 211 2 3 251 (R 252) N (R 253) (R 254) (R 255) 528 529),
 (257,J_ "fraction" (top 42) bI 256),
 (263,J' "evened" 531 214 2 3 258 (R 259) N (R 260) (R 261) (R 262) 537 538),
 (264,J_ "evened" (top 43) bI 263),
 (270,J' "quotient" 540 217 2 3 265 (R 266) N (R 267) (R 268) (R 269) 545 546),
 (271,J_ "quotient" (top 44) bI 270),
 (277,J' "simple_parts" 550 220 1 3 272 (R 273) N (R 274) (R 275) (R 276) 559 560),
 (278,J_ "simple_parts" (top 46) cF 277),
 (284,J' "made_monic" 562 231 1 3 279 (R 280) N (R 281) (R 282) (R 283) 566 567),
 (285,J_ "made_monic" (top 47) cF 284),
 (289,J' "settled" 571 234 2 3 286 (R 287) N N N (R 288) 574 575),
 (290,J_ "settled" (top 49) bJ 289),
 (296,J' "logs_plus" 577 241 3 3 291 (R 292) N (R 293) (R 294) (R 295) 588 589),
 (297,J_ "logs_plus" (top 50) bJ 296),
 (301,J' "gathered" 591 250 1 3 298 (R 299) N N N (R 300) 594 595),
 (302,J_ "gathered" (top 51) bJ 301),
 (306,J' "_law_begin" 599 258 1 3 303 (R 304) N N N (R 305) 602 603),
 (307,J_ "_law_begin" (top 53) R_ 306),
 (313,J' "_law_take" 605 264 2 3 308 (R 309) N (R 310) (R 311) (R 312) 612 613),
 (314,J_ "_law_take" (top 54) R_ 313),
 (320,J' "_law_number" 615 276 1 3 315 (R 316) N (R 317) (R 318) (R 319) 620 621),
 (321,J_ "_law_number" (top 55) R_ 320),
 (327,J' "_law_other" 623 281 1 3 322 (R 323) N (R 324) (R 325) (R 326) 628 629),
 (328,J_ "_law_other" (top 56) R_ 327),
 (332,J' "_law_whole" 631 286 1 3 329 (R 330) N N N (R 331) 634 635),
 (333,J_ "_law_whole" (top 57) R_ 332),
 (337,J' "_law_pool" 637 288 1 3 334 (R 335) N N N (R 336) 640 641),
 (338,J_ "_law_pool" (top 58) R_ 337),
 (342,J' "_law_some" 643 294 3 3 339 (R 340) N N N (R 341) 646 647),
 (343,J_ "_law_some" (top 59) R_ 342),
 (347,J' "_law_lines" 649 304 1 3 344 (R 345) N N N (R 346) 652 653),
 (348,J_ "_law_lines" (top 60) R_ 347),
 (354,J' "_law_laid" 655 308 1 3 349 (R 350) N (R 351) (R 352) (R 353) 663 664),
 (355,J_ "_law_laid" (top 61) R_ 354),
 (359,J' "_law_fraction" 666 319 2 3 356 (R 357) N N N (R 358) 669 670),
 (360,J_ "_law_fraction" (top 62) R_ 359),
 (366,J' "_law_is_number" 672 330 1 3 361 (R 362) N (R 363) (R 364) (R 365) 677 678),
 (367,J_ "_law_is_number" (top 63) R_ 366),
 (371,J' "_law_is_poly" 680 337 1 3 368 (R 369) N N N (R 370) 683 684),
 (372,J_ "_law_is_poly" (top 64) R_ 371),
 (378,J' "_law_is_fraction" 686 339 1 3 373 (R 374) N (R 375) (R 376) (R 377) 690 691),
 (379,J_ "_law_is_fraction" (top 65) R_ 378),
 (385,J' "_law_is_logs" 693 341 1 3 380 (R 381) N (R 382) (R 383) (R 384) 698 699),
 (386,J_ "_law_is_logs" (top 66) R_ 385),
 (392,J' "_law_is_form" 701 348 1 3 387 (R 388) N (R 389) (R 390) (R 391) 705 706),
 (393,J_ "_law_is_form" (top 67) R_ 392),
 (399,J' "_law_row" 708 350 2 3 394 (R 395) N (R 396) (R 397) (R 398) 718 719),
 (400,J_ "_law_row" (top 68) R_ 399),
 (404,J' "_law_one" 721 361 3 3 401 (R 402) N N N (R 403) 724 725),
 (405,J_ "_law_one" (top 69) R_ 404),
 (411,J' "law" 727 376 1 3 406 (R 407) N (R 408) (R 409) (R 410) 734 735),
 (412,J_ "law" (top 70) R_ 411)]
noncomputable def as:dw:=[3,15,21,22,28,29,33,34,40,41,45,46,52,53,57,58,64,65,69,70,74,75,79,80,86,87,93,94,100,101,105,106,112,113,117,118,124,125,131,132,138,139,145,146,150,151,157,158,164,165,171,172,178,179,185,186,192,193,199,200,206,207,213,214,218,219,223,224,230,231,235,236,242,243,249,250,256,257,263,264,270,271,277,278,284,285,289,290,296,297,301,302,306,307,313,314,320,321,327,328,332,333,337,338,342,343,347,348,354,355,359,360,366,367,371,372,378,379,385,386,392,393,399,400,404,405,411,412]
noncomputable def vw:Program:=W.view PySem.Challenge.pw_backslope_k31_forms_settled [1,2,3,4,5,6,7,8,9,10,11,12,13,14,15,16,17,18,19,20,21,22,23,24,26,27,28,29,30,31,33,34,35,36,37,38,39,40,42,43,44,46,47,49,50,51,53,54,55,56,57,58,59,60,61,62,63,64,65,66,67,68,69,70]
noncomputable def hk:W.Hook:=W.kHook hp as (λ_=>by kernel_rfl)
def left:W.LeftO PySem.Challenge.pw_backslope_k31_forms_settled vw [] (λs=>W.xlAt vw [] s && W.recOk (W.RowW.records (W.OpenRow.toRowW (W.OpenLaw.row PySem.Challenge.rw_backslope_k31_forms_settled))) s) hk.obs hk.val 4026:=λw=>by kernel_rfl
end Bs.Hd
namespace Bs
def Bd (n:Nat) (x:Int):Prop:=x.natAbs<2 ^ n
def Bd.mono {m n:Nat} {x:Int} (h:Bd m x) (a:m<=n):Bd n x:=CF h (E4 ∅ a)
def Bd.le {n:Nat} {x y:Int} (h:Bd n x) (a:y.natAbs<=x.natAbs):Bd n y:=Du a h
def Bd.neg {n:Nat} {x:Int} (h:Bd n x):Bd n (-x):=by unfold Bd at *;rw [Int.natAbs_neg];exact h
def Bd.add {n:Nat} {x y:Int} (h:Bd n x) (h':Bd n y):Bd (n+1) (x+y):=by
 unfold Bd at *;have:=Int.natAbs_add_le x y;rw [Cr];omega
def Bd.sub {n:Nat} {x y:Int} (h:Bd n x) (h':Bd n y):Bd (n+1) (x - y):=by
 rw [Int.sub_eq_add_neg];exact h.add h'.neg
def Bd.mul {m n:Nat} {x y:Int} (h:Bd m x) (h':Bd n y):Bd (m+n) (x*y):=by
 unfold Bd at *;rw [Bx,Nat.pow_add];exact Nat.mul_lt_mul'' h h'
def Nf {x:Int} (a:-18446744073709551616<x) (b:x<18446744073709551616):Bd 64 x:=by
 unfold Bd;have:(2:Nat) ^ 64=18446744073709551616:=by decide
 rw [this];omega
def Bd.log2 {n:Nat} {x:Int} (h:Bd n x) (a:0<n):x.natAbs.log2<n:=by
 unfold Bd at h;rcases DR x.natAbs with b | hp
 ·rw [b];simpa using a
 ·exact (Nat.log2_lt (DG hp)).mpr h
structure Low (t d:Int):Prop where
 pos:0<d
 one:Int.gcd t d=1
def Ng (a b:Int):Int.gcd b (a.fmod b)=Int.gcd a b:=by
 have e:a.fmod b=a - b*a.fdiv b:=Int.fmod_def a b;rw [e];apply Nat.dvd_antisymm
 ·apply Int.dvd_gcd
  ·have f:=E5 b (a - b*a.fdiv b);have g:=EH b (a - b*a.fdiv b);have d:=Cu g (Gp (c:=a.fdiv b) f);rw [Int.sub_add_cancel] at d;exact d
  ·exact E5 b _
 ·apply Int.dvd_gcd
  ·exact EH a b
  ·exact Int.dvd_sub (E5 a b) (Gp (EH a b))
def Nh (a:Int) {b:Int} (h:0<=b):Int.gcd b (a % b)=Int.gcd a b:=by
 rw [<-Int.fmod_eq_emod_of_nonneg a h,Ng]
def Wu (a:Int) {b:Int} (h:b≠0):(a.fmod b).natAbs<b.natAbs:=by
 rcases Int.lt_or_gt_of_ne h with d | d
 ·rw [Int.fmod_eq_emod];have e:=CV a h;have f:=Int.emod_lt a h;split
  ·rename_i c;rcases c with c | c
   ·omega
   ·have:a % b=0:=Int.emod_eq_zero_of_dvd c;omega
  ·rename_i c;have:a % b≠0:=λz=>c (.inr (Int.dvd_of_emod_eq_zero z));omega
 ·rw [Int.fmod_eq_emod_of_nonneg a (DS d)];have e:=CV a h;have f:=Cd a d;omega
def Kg {a b s:Int} (m:b≠0) (j:s=if b<0 then -((Int.gcd a b:Nat):Int) else ((Int.gcd a b:Nat):Int)) :
  s≠0/\s.natAbs<=b.natAbs/\Low (a.fdiv s) (b.fdiv s)/\a.fdiv s*b=a*b.fdiv s/\(a.fdiv s).natAbs<=a.natAbs/\(b.fdiv s).natAbs<=b.natAbs:=by
 have w:0<Int.gcd a b:=Int.gcd_pos_of_ne_zero_right a m;have e:s.natAbs=Int.gcd a b:=by rw [j];split <;> simp
 have k:s≠0:=by intro z;rw [z] at e;simp at e;omega
 have p:s∣a:=by
  rw [<-Int.natAbs_dvd,e];exact E5 a b
 have q:s∣b:=by
  rw [<-Int.natAbs_dvd,e];exact EH a b
 obtain ⟨t,rfl⟩:=p;obtain ⟨d,rfl⟩:=q;rw [Int.mul_fdiv_cancel_left _ k,Int.mul_fdiv_cancel_left _ k];have n:d≠0:=by rintro rfl;simp at m
 have o:1<=s.natAbs:=by omega
 have r:Int.gcd t d=1:=by
  rw [Int.gcd_mul_left] at e;have u:s.natAbs*Int.gcd t d=s.natAbs*1:=by omega
  exact Nat.eq_of_mul_eq_mul_left o u
 have v:0<d:=by
  by_cases h:s*d<0
  ·rw [nV h] at j;have f:s<0:=by omega
   rcases Int.lt_or_gt_of_ne n with c | c
   ·have:=Int.mul_pos_of_neg_of_neg f c;omega
   ·exact c
  ·rw [nU h] at j;have g:0<s:=by omega
   rcases Int.lt_or_gt_of_ne n with c | c
   ·have:=Int.mul_neg_of_pos_of_neg g c;omega
   ·exact c
 have i:∀ y:Int,y.natAbs<=(s*y).natAbs:=λy=>by
  rw [Bx];exact Gs _ o
 refine ⟨k,?_,⟨v,r⟩,?_,i t,i d⟩
 ·rw [Bx];exact Nat.le_mul_of_pos_right _ ⋯
 ·ext
def Kh {a b:Int} (f:0<b):Low (a / ((Int.gcd a b:Nat):Int)) (b / ((Int.gcd a b:Nat):Int))/\(a / ((Int.gcd a b:Nat):Int)).natAbs<=a.natAbs/\(b / ((Int.gcd a b:Nat):Int)).natAbs<=b.natAbs/\0<((Int.gcd a b:Nat):Int)/\((Int.gcd a b:Nat):Int)<=b:=by
 have g:0<Int.gcd a b:=Int.gcd_pos_of_ne_zero_right a ⋯;obtain ⟨_,h,c,i,d,e⟩:=Kg (a:=a) (b:=b) (s:=((Int.gcd a b:Nat):Int)) ⋯ (by rw [nU ⋯]);rw [Dv _ ⋯,Dv _ ⋯] at c;rw [Dv _ ⋯] at d e;exact ⟨c,d,e,⋯,⋯⟩
end Bs
namespace Bs
open PySem L2
def Ki (_ j:Int):Prop:=0<j/\Bd 9000 j
def Wv (_ j:Int):Prop:=j≠0/\Bd 9000 j
def Ww (i j:Int):Prop:=0<=j/\j<=1000000/\i.natAbs<2 ^ 64
abbrev CJ:R2:=Z_ λi j=>.int (i+j)
abbrev Bz:R2:=Z_ λi j=>.int (i - j)
abbrev BS:R2:=rI IntMulOk λi j=>.int (i*j)
abbrev IA:R2:=rI Ki λi j=>.int (i / j)
abbrev Wx:R2:=rI Wv λi j=>.int (i.fdiv j)
abbrev C8:R2:=rI (λ_ j=>0<j) λi j=>.int (i % j)
abbrev Ni:R2:=rI (λ_ j=>j≠0) λi j=>.int (i.fmod j)
abbrev Wy:R2:=rI Ww λi j=>.int (i ^ j.toNat)
abbrev aY:R2:=Z_ λi j=>.bl (decide (i<j))
abbrev iLe:R2:=Z_ λi j=>.bl (decide (i<=j))
abbrev aE:R2:=Z_ λi j=>.bl (decide (j<i))
abbrev cG:R2:=Z_ λi j=>.bl (decide (j<=i))
abbrev BW:V->Hp->VK->Prop:=rU λi=>.int (-i)
def gT:R2:=λx y H Q=>∃ p i a v,x=.ref p/\y=.int i/\H p=some (.tup a)/\P_ a i=some v/\Q v H
def gL:R2:=λx y H Q=>∃ p i a v,x=.ref p/\y=.int i/\H p=some (.lst a)/\P_ a i=some v/\Q v H
def gS (K:W.Frag):R2:=λx y H Q=>∃ p i a v,x=.ref p/\y=.int i/\SqL K H p a/\P_ a i=some v/\Q v H
def GO:c_->Hp->VK->Prop:=λa H Q=>∃ i,a=[.int i]/\Q (.int (if i<0 then -i else i)) H
def IB:c_->Hp->VK->Prop:=λa H Q=>∃ i j,a=[.int i,.int j]/\Q (.int (if j > i then j else i)) H
def Wz:c_->Hp->VK->Prop:=λa H Q=>∃ i j,a=[.int i,.int j]/\Q (.int (if j<i then j else i)) H
def W0:c_->Hp->VK->Prop:=λa H Q=>∃ k,a=[.bl k]/\Q (.int (if k=true then 1 else 0)) H
def D3:c_->Hp->VK->Prop:=λb H Q=>∃ p a,b=[.ref p]/\H p=some (.tup a)/\Q (.int a.length) H
def Bj:c_->Hp->VK->Prop:=λb H Q=>∃ p a,b=[.ref p]/\H p=some (.lst a)/\Q (.int a.length) H
def W2 (K:W.Frag):c_->Hp->VK->Prop:=λb H Q=>∃ p a,b=[.ref p]/\SqL K H p a/\Q (.int a.length) H
noncomputable def IC:Option HO->String->Option Bool
 | some (.tup _),n=>if n = "tuple" then some true else if n = "bool" \/ n = "int" \/ n = "list" then some false else none
 | some (.lst _),n=>if n = "list" then some true else if n = "bool" \/ n = "int" \/ n = "tuple" then some false else none
 | _,_=>none
noncomputable def Ff (H:Hp):V->String->Option Bool
 | .int _,n=>if n = "int" then some true else if n = "bool" \/ n = "tuple" \/ n = "list" then some false else none
 | .bl _,n=>if n = "int" \/ n = "bool" then some true else if n = "tuple" \/ n = "list" then some false else none
 | .ref p,n=>IC (H p) n
 | _,_=>none
def D4:c_->Hp->VK->Prop:=λa H Q=>∃ x n b,a=[x,.ty n]/\Ff H x n=some b/\Q (.bl b) H
def W3 (H:Hp) (i:Int):Ff H (.int i) "int" = some true:=rfl
def W4 (H:Hp) (i:Int):Ff H (.int i) "bool" = some false:=rfl
def W5 (H:Hp) (b:Bool):Ff H (.bl b) "bool" = some true:=rfl
def Fg {H:Hp} {p:Addr} {xs:c_} (h:H p=some (.tup xs)):Ff H (.ref p) "tuple" = some true:=by
 show IC (H p) "tuple" = _;rw [h];rfl
noncomputable def Nj:V->Bool
 | .int _=>true
 | _=>false
def eqT:R2:=λx y H Q=>∃ a b c d,x=.ref a/\y=.ref b/\H a=some (.tup c)/\H b=some (.tup d)/\c.all Nj=true/\d.all Nj=true/\Q (.bl (decide (c=d))) H
def ForR (d:Int) (n:Nat) (g:TG) (h:TS) (D:Ends) (a:St) (H:Hp):Prop:=∃ W:Nat->Nat->St->Hp->Prop,(∃ m,W 0 m a H)/\∀ i m a H,W i m a H->
 ((ah d n).stop i H/\D.nx a H)\/((ah d n).go i H/\∃ N:St->Hp->Prop,(∀ b c,N b c->∃ f,f<m/\W (i+1) f b c)/\∀ x c,(ah d n).yld i H x c->g x a c λe j=>h { D with nx:=N,ct:=N,bk:=D.nx } e j)
def W6 {b:TA} {g:TG} {c:TS} {D:Ends} {a:St} {H:Hp}:BR (DX b) g c D a H=b a H (λd e=>∃ j:Int,d=[.int j]/\-(2 ^ 62)<=j/\j<2 ^ 62/\ForR 0 j.toNat g c D a e):=rfl
def W7 {b:TA} {g:TG} {c:TS} {D:Ends} {a:St} {H:Hp}:BR (JC b) g c D a H=b a H (λd e=>∃ i j:Int,d=[.int i,.int j]/\(-(2 ^ 62)<=i/\i<2 ^ 62/\-(2 ^ 62)<=j/\j<2 ^ 62)/\ForR i (j - i).toNat g c D a e):=rfl
def ForR.by {c:Int} {n:Nat} {g:TG} {d:TS} {D:Ends} {a:St} {H:Hp} (Pv:Nat->St->Hp->Prop) (e:Pv 0 a H)
  (f:∀ i a H,i<n->Pv i a H->g (.int (c+i)) a H λb h=>d { D with nx:=Pv (i+1),ct:=Pv (i+1),bk:=D.nx } b h) (j:∀ a H,Pv n a H->D.nx a H):ForR c n g d D a H:=U7 Pv e f j
def ForT (K:W.Frag) (a:Addr) (g:TG) (h:TS) (D:Ends) (b:St) (H:Hp):Prop:=∃ W:Nat->Nat->St->Hp->Prop,(∃ m,W 0 m b H)/\∀ i m b H,W i m b H->
 ((aw K a).stop i H/\D.nx b H)\/((aw K a).go i H/\∃ N:St->Hp->Prop,(∀ c d,N c d->∃ f,f<m/\W (i+1) f c d)/\∀ x d,(aw K a).yld i H x d->g x b d λe j=>h { D with nx:=N,ct:=N,bk:=D.nx } e j)
def ForL (K:W.Frag) (a:Addr) (g:TG) (h:TS) (D:Ends) (b:St) (H:Hp):Prop:=∃ W:Nat->Nat->St->Hp->Prop,(∃ m,W 0 m b H)/\∀ i m b H,W i m b H->
 ((aa K a).stop i H/\D.nx b H)\/((aa K a).go i H/\∃ N:St->Hp->Prop,(∀ c d,N c d->∃ f,f<m/\W (i+1) f c d)/\∀ x d,(aa K a).yld i H x d->g x b d λe j=>h { D with nx:=N,ct:=N,bk:=D.nx } e j)
def W8 {K:W.Frag} {c:TE} {g:TG} {d:TS} {D:Ends} {b:St} {H:Hp}:BR (Dp K c) g d D b H=c b H (λx e=>∃ a,x=.ref a/\(∃ f,SqT K e a f)/\ForT K a g d D b e):=rfl
def W9 {K:W.Frag} {c:TE} {g:TG} {d:TS} {D:Ends} {b:St} {H:Hp}:BR (Bh K c) g d D b H=c b H (λx e=>∃ a,x=.ref a/\(∃ f,SqL K e a f)/\ForL K a g d D b e):=rfl
def ForT.by {K:W.Frag} {a:Addr} {xs:c_} {g:TG} {d:TS} {D:Ends} {b:St} {H:Hp} (Pv:Nat->St->Hp->Prop) (e:Pv 0 b H) (f:∀ i b H,i<=xs.length->Pv i b H->H a=some (.tup xs))
  (j:∀ i x b H,xs[i]?=some x->Pv i b H->g x b H λc k=>d { D with nx:=Pv (i+1),ct:=Pv (i+1),bk:=D.nx } c k) (m:∀ b H,Pv xs.length b H->D.nx b H):ForT K a g d D b H:=
 NF Pv e (λi b H h p=>SqT.of (f i b H h p)) j m
def ForL.by {K:W.Frag} {a:Addr} {xs:c_} {g:TG} {d:TS} {D:Ends} {b:St} {H:Hp} (Pv:Nat->St->Hp->Prop) (e:Pv 0 b H) (f:∀ i b H,i<=xs.length->Pv i b H->SqL K H a xs)
  (h:∀ i x b H,xs[i]?=some x->Pv i b H->g x b H λc j=>d { D with nx:=Pv (i+1),ct:=Pv (i+1),bk:=D.nx } c j) (k:∀ b H,Pv xs.length b H->D.nx b H):ForL K a g d D b H:=
 U6 Pv e f h k
def D5 {c:TT} {e:TS} {D:Ends} {a:St} {H:Hp} (W:Nat->St->Hp->Prop) (m:Nat) (i:W m a H)
  (j:∀ m a H,W m a H->c a H λb f=>if b=true then ∃ N:St->Hp->Prop,(∀ d g,N d g->∃ h,h<m/\W h d g)/\e { D with nx:=N,ct:=N,bk:=D.nx } a f else D.nx a f):DW c e D a H:=⟨W,⟨m,i⟩,j⟩
def Kp (p:Addr) (H a:Hp):Prop:=∀ b o,b≠p->H b=some o->a b=some o
def Kp.upd {p:Addr} {H:Hp} {o:HO}:Kp p H (upd H p o):=λb u n h=>by rw [Ad n];exact h
def AL {H:Hp} {p:Addr} (h:H p=none) (o:HO):Same H (upd H p o):=λb u q=>by rw [Ad (BO q h)];exact q
def sz {n:Nat} (h:n<=1000000):n<=sizeLine:=by rw [sizeLine_eq];omega
def XA {c:Type} (a b:c):P_ [a,b] 0=some a:=rfl
def XB {c:Type} (a b:c):P_ [a,b] 1=some b:=rfl
def XC {d:Type} (a b c:d):P_ [a,b,c] 0=some a:=rfl
def XD {d:Type} (a b c:d):P_ [a,b,c] 1=some b:=rfl
def XE {d:Type} (a b c:d):P_ [a,b,c] 2=some c:=rfl
def XF (a b:Int):scal (.int a) (.int b)=true:=rfl
def XG (a b:Bool):scal (.bl a) (.bl b)=true:=rfl
def XH:Y' 3 0=some 0:=rfl
def XI:Y' 3 2=some 2:=rfl
end Bs
namespace Bs
open PySem PySem.Spec PyProof.Rows L2
def ID:bootBuiltins "abs" = some (.builtin "abs"):=by decide +kernel
def BT:bootBuiltins "len" = some (.builtin "len"):=by decide +kernel
def Kj:bootBuiltins "max" = some (.builtin "max"):=by decide +kernel
def XJ:bootBuiltins "min" = some (.builtin "min"):=by decide +kernel
def En:bootBuiltins "isinstance" = some (.builtin "isinstance"):=by decide +kernel
def XM:bootBuiltins "all" = some (.builtin "all"):=by decide +kernel
def XN:bootBuiltins "int" = some (.type "int"):=by decide +kernel
def XO:bootBuiltins "bool" = some (.type "bool"):=by decide +kernel
def DY:bootBuiltins "tuple" = some (.type "tuple"):=by decide +kernel
def JJ:bootBuiltins "list" = some (.type "list"):=by decide +kernel
def Nl:bootBuiltins "enumerate" = some (.type "enumerate"):=by decide +kernel
def No:bootBuiltins "zip" = some (.type "zip"):=by decide +kernel
section
variable {X:Cx}
def Np {n:Nat} {x:Int} (h:Bd n x):Builtin.Int.intBits x<=n:=by
 unfold Builtin.Int.intBits;split
 ·exact Ae _
 ·rename_i a
  have b:x.natAbs≠0:=λz=>a (by have e:x=0:=by omega
                               subst e;rfl)
  have:=(Nat.log2_lt b).mpr h;omega
def Bq:OpR X (binaryOp .Mult) BS:=bo λ_ _ _ _ _ _ _ a q=>mul_int q a
def JK:OpR X (inplaceOp .Mult) BS:=bo λ_ _ _ _ _ _ _ a q=>imul_int q a
def XQ:OpR X (binaryOp .FloorDiv) IA:=bo λi j _ _ _ _ _ a q=>by
 refine floordiv_int (AV a.1) ?_ (.inl (PyProof.noPylong_of_log2 (a.2.log2 ∅)));rw [Dv i (DS a.1)];exact q
def As:aU X gT:=by
 intro a b c s d H x y v u Q I e f h g;obtain ⟨p,i,j,w,k,m,hp,n,q⟩:=h;exact VY a b c s d H x y v u Q I e f ⟨p,j,i,w,k,m,SqT.of hp,n,q⟩ g
def BD:aU X gL:=by
 intro a b c s d H x y v u Q I e f h g;obtain ⟨p,i,j,w,k,m,hp,n,q⟩:=h;exact VX a b c s d H x y v u Q I e f ⟨p,j,i,w,k,m,SqL.of hp,n,q⟩ g
def IE:Ck X (.builtin "abs") GO:=VI
def Kk (a:X.calm=true):Ck X (.builtin "max") IB:=VJ a
def Eo:Ck X (.builtin "len") D3:=λa s b H c d Q I r h=>by
 obtain ⟨p,f,e,hp,q⟩:=h;exact NY a s b H c d Q I r ⟨p,f,e,.inr (SqT.of hp),q⟩
def B5:Ck X (.builtin "len") Bj:=λa s b H c d Q I r h=>by
 obtain ⟨p,f,e,hp,q⟩:=h;exact NY a s b H c d Q I r ⟨p,f,e,.inl (SqL.of hp),q⟩
def XR (K:W.Frag):W.kitOne K (.type "int") (.type "bool")=some false:=by kernel_rfl
def XS (K:W.Frag):W.kitOne K (.type "int") (.type "tuple")=some false:=by kernel_rfl
def XT (K:W.Frag):W.kitOne K (.type "int") (.type "list")=some false:=by kernel_rfl
def XU (K:W.Frag):W.kitOne K (.type "bool") (.type "int")=some true:=by kernel_rfl
def XV (K:W.Frag):W.kitOne K (.type "bool") (.type "tuple")=some false:=by kernel_rfl
def XW (K:W.Frag):W.kitOne K (.type "bool") (.type "list")=some false:=by kernel_rfl
def XX (K:W.Frag):W.kitOne K (.type "tuple") (.type "bool")=some false:=by kernel_rfl
def XY (K:W.Frag):W.kitOne K (.type "tuple") (.type "int")=some false:=by kernel_rfl
def XZ (K:W.Frag):W.kitOne K (.type "tuple") (.type "list")=some false:=by kernel_rfl
def Xa (K:W.Frag):W.kitOne K (.type "list") (.type "bool")=some false:=by kernel_rfl
def Xb (K:W.Frag):W.kitOne K (.type "list") (.type "int")=some false:=by kernel_rfl
def Xc (K:W.Frag):W.kitOne K (.type "list") (.type "tuple")=some false:=by kernel_rfl
def JL (K:W.Frag) (n:String):W.kitOne K (.type n) (.type n)=some true:=by
 unfold W.kitOne;rw [nV (beq_self_eq_true _)]
theorem Xd {H:Hp} {x:V} {n:String} {b:Bool} (K:W.Frag) (h:Ff H x n=some b):∃ t,TyOf K H x t/\W.kitOne K t (.type n)=some b:=by
 cases x with
 | int i=>
   refine ⟨_,.int i,?_⟩;unfold Ff at h;dsimp only at h;split at h
   ·rename_i e;cases h;subst e;exact JL K _
   ·split at h
    ·rename_i e;cases h;rcases e with rfl | rfl | rfl
     ·exact XR K
     ·exact XS K
     ·exact XT K
    ·cases h
 | bl i=>
   refine ⟨_,.bl i,?_⟩;unfold Ff at h;dsimp only at h;split at h
   ·rename_i e;cases h;rcases e with rfl | rfl
    ·exact XU K
    ·exact JL K _
   ·split at h
    ·rename_i e;cases h;rcases e with rfl | rfl
     ·exact XV K
     ·exact XW K
    ·cases h
 | ref p=>
   have a:IC (H p) n=some b:=h;cases e:H p with
   | none=>rw [e] at a;cases a
   | some o=>
     rw [e] at a;cases o with
     | tup c=>
       refine ⟨_,.tup e,?_⟩;unfold IC at a;dsimp only at a;split at a
       ·rename_i e;cases a;subst e;exact JL K _
       ·split at a
        ·rename_i e;cases a;rcases e with rfl | rfl | rfl
         ·exact XX K
         ·exact XY K
         ·exact XZ K
        ·cases a
     | lst c=>
       refine ⟨_,.lst e,?_⟩;unfold IC at a;dsimp only at a;split at a
       ·rename_i e;cases a;subst e;exact JL K _
       ·split at a
        ·rename_i e;cases a;rcases e with rfl | rfl | rfl
         ·exact Xa K
         ·exact Xb K
         ·exact Xc K
        ·cases a
     | _=>cases a
 | _=>cases h
def Ep:Ck X (.builtin "isinstance") D4:=λc s j H m o Q I r h=>by
 obtain ⟨x,n,b,rfl,e,q⟩:=h;obtain ⟨u,d,rfl,f,rn⟩:=vals2 r;have a:d=Value.type n:=rn;subst a;obtain ⟨t,g,k⟩:=Xd X.K e;exact VN I f g k λi=>⟨.bl b,H,I.tok i,rfl,q⟩
end
structure Cal (P:Program) (w:World) (K:W.Frag) (mg:di) (base:Heap) (n:Nat) (x:Str) (ps:dt) (sp:Sp):Prop where
 ex:∃ (f:Addr) (fd:FuncData),FnOk P w K mg base aD n f fd ps sp/\Binds K fd ps []/\W.keepIn K (.ref f)=true/\mg x=some (.ref f)
def Cal.pe {X:Cx} {n m:Nat} {x:Str} {ps:dt} {sp:Sp} {e:Expr} {es:dj} {t:TA} {p pos:Pos} (C:Cal X.prog X.w X.K X.mg X.base n x ps sp) (d:Room m X.A) (g:n<=m) (h:Gl X x) (i:PA X (e::es) t)
  (a:(x == ("__debug__" : Str))=false:=by decide) (j:starEach (e::es) X.env=(false,eval e X.env)::starEach es X.env:=by rfl) (c:(backTo pos (starEach es X.env)).any (·.1)=false:=by rfl) :
  PE X (.Call (.Name x p) (e::es) [] pos) (AK sp [] E0 t):=by
 obtain ⟨f,o,F,b,k,m⟩:=C.ex;exact VP F (d.mono g) h m k b .nil Vq i a j c
end Bs
namespace Bs
open PySem L2
noncomputable def Cm (capt:List (Option Nat)) (a:L2.St):L2.St:=capt.map λo=>o.bind λj=>(a[j]?).join
def BU (e:TI) (capt:List (Option Nat)) (g:TG) (f:TE):TE:=λc H Q=>e c H λJ h=>∃ (n:Nat) (W:Nat->c_->Hp->Prop),W 0 [] h/\∀ i a H,W i a H->i<=n/\a.length<=sizeLine/\
 ((J.stop i H/\∀ p,H p=none->Q (.ref p) (upd H p (.lst a)))\/(i<n/\J.go i H/\∀ x d,J.yld i H x d->g x (Cm capt c) d λb j=>f b j λy k=>W (i+1) (a++[y]) k))
def CompJ (J:It) (capt:List (Option Nat)) (g:TG) (d:TE) (e:L2.St) (Q:VK) (f:Hp):Prop:=∃ (n:Nat) (W:Nat->c_->Hp->Prop),W 0 [] f/\∀ i a H,W i a H->i<=n/\a.length<=sizeLine/\
 ((J.stop i H/\∀ p,H p=none->Q (.ref p) (upd H p (.lst a)))\/(i<n/\J.go i H/\∀ x c,J.yld i H x c->g x (Cm capt e) c λb h=>d b h λy j=>W (i+1) (a++[y]) j))
section
variable {K:W.Frag} {ta:TA} {tl:TE} {capt:List (Option Nat)} {g:TG} {te:TE} {σ:L2.St} {H:Hp} {Q:VK}
def Xe:BU (DX ta) capt g te σ H Q=ta σ H (λa b=>∃ j:Int,a=[.int j]/\-(2 ^ 62)<=j/\j<2 ^ 62/\CompJ (ah 0 j.toNat) capt g te σ Q b):=rfl
def Xf:BU (JC ta) capt g te σ H Q=ta σ H (λa b=>∃ i j:Int,a=[.int i,.int j]/\(-(2 ^ 62)<=i/\i<2 ^ 62/\-(2 ^ 62)<=j/\j<2 ^ 62)/\CompJ (ah i (j - i).toNat) capt g te σ Q b):=rfl
def Xg:BU (Dp K tl) capt g te σ H Q=tl σ H (λx b=>∃ a,x=.ref a/\(∃ c,SqT K b a c)/\CompJ (aw K a) capt g te σ Q b):=rfl
def Xh:BU (Bh K tl) capt g te σ H Q=tl σ H (λx b=>∃ a,x=.ref a/\(∃ c,SqL K b a c)/\CompJ (aa K a) capt g te σ Q b):=rfl
def CompJ.range {d:Int} {n:Nat} (W:Nat->c_->Hp->Prop) (f:W 0 [] H) (b:∀ i a H,W i a H->i<=n/\a.length<=sizeLine)
  (j:∀ i a H,i<n->W i a H->g (.int (d+i)) (Cm capt σ) H λc k=>te c k λy m=>W (i+1) (a++[y]) m) (o:∀ a H,W n a H->∀ p,H p=none->Q (.ref p) (upd H p (.lst a))):CompJ (ah d n) capt g te σ Q H:=by
 refine ⟨n,W,f,λi a H w=>⟨(b i a H w).1,(b i a H w).2,?_⟩⟩;by_cases h:i<n
 ·refine .inr ⟨h,h,λx q y=>?_⟩;obtain ⟨e,y⟩:=y;subst e y;exact j i a _ h w
 ·have e:i=n:=Nat.le_antisymm (b i a H w).1 (Nat.not_lt.mp h);subst e;exact .inl ⟨AR _,o a H w⟩
def CompJ.tup {a:Addr} {xs:c_} (W:Nat->c_->Hp->Prop) (f:W 0 [] H) (c:∀ i b H,W i b H->i<=xs.length/\b.length<=sizeLine/\H a=some (.tup xs))
  (j:∀ i x b H,xs[i]?=some x->W i b H->g x (Cm capt σ) H λd k=>te d k λy m=>W (i+1) (b++[y]) m) (n:∀ b H,W xs.length b H->∀ p,H p=none->Q (.ref p) (upd H p (.lst b))):CompJ (aw K a) capt g te σ Q H:=by
 refine ⟨xs.length,W,f,λi b H w=>⟨(c i b H w).1,(c i b H w).2.1,?_⟩⟩;have q:SqT K H a xs:=SqT.of (c i b H w).2.2;by_cases h:i<xs.length
 ·refine .inr ⟨h,⟨xs,xs[i],q,by simp [h]⟩,λx o y=>?_⟩;obtain ⟨e,y⟩:=y;subst e;exact j i x b _ (y xs q) w
 ·have e:i=xs.length:=Nat.le_antisymm (c i b H w).1 (Nat.not_lt.mp h);subst e;exact .inl ⟨⟨xs,q,AR _⟩,n b H w⟩
def CompJ.lst {a:Addr} {xs:c_} (W:Nat->c_->Hp->Prop) (f:W 0 [] H) (c:∀ i b H,W i b H->i<=xs.length/\b.length<=sizeLine/\SqL K H a xs)
  (j:∀ i x b H,xs[i]?=some x->W i b H->g x (Cm capt σ) H λd k=>te d k λy m=>W (i+1) (b++[y]) m) (n:∀ b H,W xs.length b H->∀ p,H p=none->Q (.ref p) (upd H p (.lst b))):CompJ (aa K a) capt g te σ Q H:=by
 refine ⟨xs.length,W,f,λi b H w=>⟨(c i b H w).1,(c i b H w).2.1,?_⟩⟩;have q:SqL K H a xs:=(c i b H w).2.2;by_cases h:i<xs.length
 ·refine .inr ⟨h,⟨xs,xs[i],q,by simp [h]⟩,λx o y=>?_⟩;obtain ⟨e,y⟩:=y;subst e;exact j i x b _ (y xs q) w
 ·have e:i=xs.length:=Nat.le_antisymm (c i b H w).1 (Nat.not_lt.mp h);subst e;exact .inl ⟨⟨xs,q,AR _⟩,n b H w⟩
end
noncomputable def IF (K:W.Frag) (a:Addr):It:=
 ⟨λi H=>∃ b x,SqL K H a b/\b[i]?=some x,λi H v c=>∃ p x,H p=none/\v=.ref p/\c=upd H p (.tup [.int i,x])/\∀ b,SqL K H a b->b[i]?=some x,λi H=>∃ b,SqL K H a b/\b.length<=i⟩
def G7 (K:W.Frag) (c:TA):TI:=λd H R=>c d H λe b=>∃ a,e=[.ref a]/\(∃ f,SqL K b a f)/\R (IF K a) b
def ForJ (J:It) (g:TG) (f:TS) (D:Ends) (a:L2.St) (H:Hp):Prop:=∃ W:Nat->Nat->L2.St->Hp->Prop,(∃ m,W 0 m a H)/\∀ i m a H,W i m a H->
 (J.stop i H/\D.nx a H)\/(J.go i H/\∃ N:L2.St->Hp->Prop,(∀ b c,N b c->∃ e,e<m/\W (i+1) e b c)/\∀ x c,J.yld i H x c->g x a c λd h=>f { D with nx:=N,ct:=N,bk:=D.nx } d h)
section
variable {K:W.Frag} {ta:TA} {g:TG} {tb:TS} {D:Ends} {σ:L2.St} {H:Hp} {a:Addr} {xs:c_}
def Xi:BR (G7 K ta) g tb D σ H=ta σ H (λc b=>∃ a,c=[.ref a]/\(∃ xs,SqL K b a xs)/\ForJ (IF K a) g tb D σ b):=rfl
def Xj {capt:List (Option Nat)} {b:TE} {Q:VK}:BU (G7 K ta) capt g b σ H Q=ta σ H (λd c=>∃ a,d=[.ref a]/\(∃ xs,SqL K c a xs)/\CompJ (IF K a) capt g b σ Q c):=rfl
def ForJ.enumL (Pv:Nat->L2.St->Hp->Prop) (d:Pv 0 σ H) (f:∀ i σ H,i<=xs.length->Pv i σ H->SqL K H a xs)
  (h:∀ i x p σ H,xs[i]?=some x->Pv i σ H->H p=none->g (.ref p) σ (upd H p (.tup [.int i,x])) λb j=>tb { D with nx:=Pv (i+1),ct:=Pv (i+1),bk:=D.nx } b j) (k:∀ σ H,Pv xs.length σ H->D.nx σ H):ForJ (IF K a) g tb D σ H:=by
 refine ⟨λi m σ H=>m=xs.length - i/\i<=xs.length/\Pv i σ H,⟨xs.length,by simp,Ae _,d⟩,?_⟩;rintro i m σ H ⟨rfl,n,pv⟩;have q:=f i σ H n pv;by_cases c:i<xs.length
 ·refine .inr ⟨⟨xs,xs[i],q,by simp [c]⟩,Pv (i+1),λo r u=>⟨xs.length - (i+1),⋯,rfl,c,u⟩,λx r y=>?_⟩;obtain ⟨p,v,hp,rfl,rfl,y⟩:=y;exact h i v p σ _ (y xs q) pv hp
 ·have e:i=xs.length:=by omega
  subst e;exact .inl ⟨⟨xs,q,AR _⟩,k σ H pv⟩
end
end Bs
namespace Bs
open PySem PySem.Spec PyProof.Rows L2
noncomputable def S_ (X:Cx) (N:dt) (a:Scope) (e:List (Str×Addr)) (C:Addr) (s:Shared) (H:Hp) (f:dw):Cx:=
 { X with N:=N,s₀:=s,H₀:=H,env:=compEnvC a e C X.env,outer:=X.stack,stack:=X.stack,ex:=f,fn:=λ_=>false,pn:=[],xe:=λ_ _=>False }
structure BlkOk (X:Cx) (N:dt) (capt:List (Option Nat)) (scope:Scope) (cl:List (Str×Addr)):Prop where
 kind:scope.kind=.function
 clos:closureFor scope X.env=pure cl
 nocell:∀ y∈scope.names,y.2≠.cell
 names:∀ y∈scope.names,y.2=.local->scope.names.lookup y.1=some .local
 cells:∀ y c,cl.lookup y=some c->X.env.cells.lookup y=some c
 has:∀ y,((relabel scope X.env).names.lookup y=some .cell\/(relabel scope X.env).names.lookup y=some .free)->∃ c,cl.lookup y=some c
 cap:∀ (i:Nat) (x:Str) (j:Nat),N[i]?=some x->capt[i]?=some (some j)->X.N[j]?=some x/\bU X.env.scope x/\X.env.kindOf x≠some .local/\((relabel scope X.env).names.lookup x=some .cell\/(relabel scope X.env).names.lookup x=some .free)
 len:capt.length=N.length
section
variable {X:Cx} {pins:dh} {σ:L2.St} {H:Hp} {s:Shared} {N:dt} {capt:List (Option Nat)} {scope:Scope} {cl:List (Str×Addr)} {C:Addr} {fp:dw}
def Nr (B:BlkOk X N capt scope cl) (I:Inv X pins σ H s) (d:∀ b∈fp,DL X pins H b) (g:∀ b∈fp,b<s.heap.objs.size) (f:s.heap.objs.size<=C):(S_ X N scope cl C s H fp).Ok where
 mod:=I.ok.mod
 kind:=B.kind
 glob:=I.ok.glob
 blt:=I.ok.blt
 above:=f
 inj:=λx y c i j=>I.ok.inj x y c (B.cells x c i) (B.cells y c j)
 has:=λx h=>B.has x h
 cab:=λ_ _ h=>nomatch h
 hd:=I.ok.hd
 frames:=I.ok.frames
 stk:=.inl rfl
 exf:=λb a=>⟨λe=>absurd (CF (g b a) f) (by rw [show b=C from e];exact DF _),λx c e=>(d b a).2.2.2.2.1 x c (B.cells x c e)⟩
 bs:=I.bs
 bsz:=Bg I.ok.bsz I.sz
 noex:=λb o e a=>by
  rcases (d b a).2.2.2.1 with z | z
  ·exact I.ok.noex b o e z
  ·exact absurd (CF (mG e) (Bg I.ok.bsz z)) (DF _)
 exfs:=λb a k=>by
  rcases Bc.mp (I.stkSub b k) with z | z
  ·exact (d b a).2.1 z
  ·exact (d b a).2.2.1 z
 funs:=I.stack
 frf:=I.stkFree
 seer:=I.ok.seer
 tree:=I.ok.tree
 plr:=I.ok.plr
def Xk (B:BlkOk X N capt scope cl) (I:Inv X pins σ H s) (E:∀ b∈fp,DL X pins H b) (F:∀ b∈fp,b<s.heap.objs.size) (y:s.heap.objs.size<=C) {g:Heap} {m:di} {tk:Nat}
  (G:g.Ns C m) (hk:∀ b o,s.heap.get? b=some o->g.get? b=some o):Inv (S_ X N scope cl C s H fp) [] (Cm capt σ) H { s with heap:=g,toks:=tk } where
 ok:=Nr B I E F y
 os:=rfl
 bare:=I.bare
 base:=Un.kept hk
 loc:=by
  refine ⟨m,G,λi x v J K U=>?_⟩;have a:(capt.map λo=>o.bind λj=>(σ[j]?).join)[i]?=some (some v):=K;rw [Ac] at a;cases h:capt[i]? with
  | none=>rw [h] at a;cases a
  | some o=>
    rw [h] at a;cases o with
    | none=>cases a
    | some j=>
      have f:(σ[j]?).join=some v:=mF a;obtain ⟨L,M,O,D⟩:=B.cap i x j J h
      have P:σ[j]?=some (some v):=by
       cases q:σ[j]? with
       | none=>rw [q] at f;cases f
       | some w=>rw [q] at f;exact congrArg some f
      obtain ⟨W,_,Q⟩:=I.loc;obtain ⟨u,r,l⟩:=Q j x v L P M;refine ⟨u,r,.inr ⟨D,?_⟩⟩;rcases l with ⟨l,_⟩ | ⟨_,c,R,S⟩
      ·exact absurd l O
      ·obtain ⟨T,d⟩:=B.has x D;have:=B.cells x T d;rw [R] at this;cases this;obtain ⟨o,k,n⟩:=S;exact ⟨c,d,o,hk c o k,n⟩
 cell:=λx c e=>by
  obtain ⟨v,o,k,n⟩:=I.cell x c (B.cells x c e);exact ⟨v,o,hk c o k,n⟩
 free:=I.hok.fresh y
 freeC:=λx c e=>I.freeC x c (B.cells x c e)
 pin:=λp hp=>nomatch hp
 hok:=I.hok.kept hk
 len:=by show (capt.map _).length=N.length;rw [AJ];exact B.len
def Nt {h:L2.St} {p:Hp} {y:Shared} {d:dh} (B:BlkOk X N capt scope cl) (I:Inv X pins σ H s) (A:∀ b∈fp,DL X pins H b) (e:Inv (S_ X N scope cl C s H fp) d h p y):Inv (S_ X N scope cl C s H fp) d (Cm capt σ) p y:=
 ⟨e.ok,e.os,e.bare,e.base,by
  obtain ⟨m,D,_⟩:=e.loc;refine ⟨m,D,λi x v E F T=>?_⟩;have a:(capt.map λo=>o.bind λj=>(σ[j]?).join)[i]?=some (some v):=F;rw [Ac] at a;cases k:capt[i]? with
  | none=>rw [k] at a;cases a
  | some o=>
    rw [k] at a;cases o with
    | none=>cases a
    | some j=>
      have g:(σ[j]?).join=some v:=mF a;obtain ⟨G,J,K,z⟩:=B.cap i x j E k
      have L:σ[j]?=some (some v):=by
       cases q:σ[j]? with
       | none=>rw [q] at g;cases g
       | some w=>rw [q] at g;exact congrArg some g
      obtain ⟨U,_,M⟩:=I.loc;obtain ⟨u,r,l⟩:=M j x v G L J;refine ⟨u,r,.inr ⟨z,?_⟩⟩;rcases l with ⟨l,_⟩ | ⟨_,c,n,O⟩
      ·exact absurd l K
      ·obtain ⟨P,f⟩:=B.has x z;have:=B.cells x P f;rw [n] at this;cases this;obtain ⟨o,Q,R⟩:=O;obtain ⟨W,hk⟩:=e.base.any Q (I.freeC x c n) λS=>(A c S).2.2.2.2.1 x c n rfl;exact ⟨c,f,_,hk,R⟩,e.cell,e.free,e.freeC,e.pin,e.hok,by show (capt.map _).length=N.length;rw [AJ];exact B.len⟩
theorem JM {a b:Type} [BEq a] [LawfulBEq a]:∀ {l:List (a×b)} {y:a} {c:b},l.lookup y=some c->(y,c)∈l
 | (k,v)::l,y,c,h=>by
   rw [List.lookup_cons] at h;cases e:y == k with
   | true=>
     rw [e] at h;cases h;rw [eq_of_beq e];exact Au ..
   | false=>
     rw [e] at h;exact A3 _ (JM h)
def BlkOk.of (k:scope.kind=.function) (c:closureFor scope X.env=pure cl) (o:(scope.names.all λy=>y.2 != .cell)=true) (p:(scope.names.all λy=>y.2 != .local || scope.names.lookup y.1 == some .local)=true)
  (cs:∀ b∈cl,X.env.cells.lookup b.1=some b.2) (r:((relabel scope X.env).names.all λb=>(b.2 != .cell && b.2 != .free) || (cl.lookup b.1).isSome)=true)
  (u:((List.range N.length).all λi=>match N[i]?,capt[i]? with
   | some x,some (some j)=>X.N[j]? == some x && (X.env.scope.names.lookup x == some .cell || X.env.scope.names.lookup x == some .free) && ((relabel scope X.env).names.lookup x == some .cell || (relabel scope X.env).names.lookup x == some .free)
   | _,_=>true)=true) (v:capt.length=N.length):BlkOk X N capt scope cl where
 kind:=k
 clos:=c
 nocell:=λy f e=>by
  have z:=DT.mp o y f;rw [e] at z;exact absurd z ∅
 names:=λy f e=>by
  have z:=DT.mp p y f;rw [e] at z;simpa using z
 cells:=λy c h=>cs (y,c) (JM h)
 has:=λy h=>by
  have m:∃ d,(y,d)∈(relabel scope X.env).names/\(d=.cell\/d=.free):=by
   rcases h with h | h
   ·exact ⟨_,JM h,.inl rfl⟩
   ·exact ⟨_,JM h,.inr rfl⟩
  obtain ⟨d,m,e⟩:=m;have z:=DT.mp r _ m
  have a:(cl.lookup y).isSome=true:=by
   rcases e with rfl | rfl
   ·simpa using z
   ·simpa using z
  exact Option.isSome_iff_exists.mp a
 cap:=λi x j g w=>by
  have li:i<N.length:=(BK.mp g).1;have z:=DT.mp u i (B9.mpr li);rw [g,w] at z;simp only [Bool.and_eq_true,Bool.or_eq_true,beq_iff_eq] at z;obtain ⟨⟨A,a⟩,B⟩:=z;refine ⟨A,.inr a,λq=>?_,B⟩;have n:X.env.scope.names.lookup x=some .local:=q;rcases a with a | a <;> (rw [a] at n;cases n)
 len:=v
end
open PySem.AutoSeq1 (wpAny_loadPart')
section
variable {X:Cx} {pins:dh} {σ:L2.St} {H:Hp} {s:Shared}
def Nv {e f:Addr} {g:Heap} {tk:Nat} {xs:c_} {its:dc} (I:Inv X pins σ H s) (i:DL X pins H e) (j:DL X pins H f) (k:∀ b o,b≠e->b≠f->s.heap.get? b=some o->g.get? b=some o)
  (x:xs.length<=sizeLine) (A:Vals xs its) (B:g.get? s.heap.objs.size=some { cls:=.type "tuple", data:=.seq its.toArray }):Inv X pins σ (upd H s.heap.objs.size (.tup xs)) { s with heap:=g,toks:=tk }:=by
 have C:H s.heap.objs.size=none:=I.hok.fresh (AR _);have p:∀ b o,s.heap.get? b=some o->b≠s.heap.objs.size:=λb o q=>BI (mG q);have tr:∀ b u,H b=some u->b≠s.heap.objs.size/\b≠e/\b≠f:=λb u q=>⟨BO q C,BO q i.1,BO q j.1⟩;have a:∀ b,b∉[e,f]->b≠e/\b≠f:=λb h=>⟨λz=>h (by simp [z]),λz=>h (by simp [z])⟩
 refine I.step (g':=s.gens) (d':=s.drawn) (ch:=[e,f]) (λb h=>?_) (λb o _ _ d q _=>k b o (a b d).1 (a b d).2 q) (λb o _ _ d q _=>⟨o.slots,k b o (a b d).1 (a b d).2 q⟩) (λb o _ q n=>?_) (λb o d q=>⟨o,k b o (a b d).1 (a b d).2 q⟩)
  (λb D q=>?_) (λb o u q=>?_) (λb ps q=>⟨#[],?_⟩) (λm E=>?_) (λb u q=>?_) I.bare
 ·have z:b=e\/b=f:=by simpa using h
  rcases z with rfl | rfl
  ·exact ⟨i.2.2.2.1,i.2.1,i.2.2.2.2.1,i.2.2.2.2.2⟩
  ·exact ⟨j.2.2.2.1,j.2.1,j.2.2.2.2.1,j.2.2.2.2.2⟩
 ·rw [Ad (p b o q)];exact n
 ·rw [Ad (tr b _ q).1];exact q
 ·rw [Ad (tr b _ q).1];exact q
 ·rw [Ad (tr b _ q).1,q];simp
 ·obtain ⟨o,F,G,J,K⟩:=E;exact ⟨o,F,G,k _ o i.2.1.symm j.2.1.symm J,K⟩
 ·by_cases h:b=s.heap.objs.size
  ·subst h;rw [upd_same] at q;cases q;exact ⟨x,its,A,⟨_,B,rfl,_,rfl⟩⟩
  ·rw [Ad h] at q;refine (I.hok b u q).stay (λc v d z=>?_) (λc z=>by rw [Ad (tr c _ z).1];exact z) λc D z=>by rw [Ad (tr c _ z).1];exact z
   rcases d with y | y
   ·subst y;exact k _ v (tr _ u q).2.1 (tr _ u q).2.2 z
   ·exact k c v (tr c _ y).2.1 (tr c _ y).2.2 z
end
def Xl {P:Program} {w:World} {K:W.Frag} {y:dj} {k:Nat} {pos:Pos} (a e m:Addr) (S:e≠m):Turn P w K (.Tuple y k pos) (IF K a) [e,m] e (λi h=>(∃ f,IsEnum h e m i f)/\h.IsListIter m a i) where
 mem:=by simp
 obj:=λi h n b r=>by
  obtain ⟨⟨f,j⟩,o,F,c,d⟩:=n
  have z:b=e\/b=m:=by simpa using r
  rcases z with rfl | rfl
  ·exact ⟨_,j,λv z=>nomatch z⟩
  ·exact ⟨o,F,λv z=>by rw [d] at z;cases z⟩
 keep:=λi h h' n T=>⟨let ⟨f,j⟩:=n.1;⟨f,T e (by simp) _ j⟩,n.2.at λo q=>T m (by simp) o q⟩
 item:=by
  intro X G J L U i A s σ H E I B n M
  subst G J L
  obtain ⟨Y,x,D,N⟩:=M
  obtain ⟨⟨f,j⟩,si⟩:=n
  obtain ⟨C,O,p,hz⟩:=I.list D
  obtain ⟨u,hu,ru⟩:=O.get N
  refine wpAny_pyNext_enum_item j si p.isList (x:=u) (by simpa using hu) S λg eo gi gt _ gk=>?_
  refine ⟨_,rfl,wpAny_letOwnedTupleGo_enum eo λg' Q R=>?_⟩
  have I1:=Nv (g:=g') (tk:=s.toks+1) (xs:=[.int i,x]) (its:=[.int i s.toks,u]) I (B e (by simp)) (B m (by simp)) (λb o Z h2 q=>R.extBut b o Z (gk b o Z h2 q)) (sz (by simp)) (.cons ⟨_,rfl⟩ (.cons ru .nil)) (R.extBut _ _ (DG (mG j)) gt)
  refine ⟨.ref s.heap.objs.size,_,I1,rfl,⟨_,x,I.hok.fresh (AR _),rfl,rfl,λys hy=>by rw [I.list_inj hy D];exact N⟩,⟨⟨_,by simpa using Q⟩,gi.at λo q=>R.extBut m o S.symm q⟩,λb r=>?_⟩
  rw [Ad]
  ·exact (B b r).1
  ·have z:b=e\/b=m:=by simpa using r
   rcases z with rfl | rfl
   ·exact BI (mG j)
   ·obtain ⟨o,F,_⟩:=si;exact BI (mG F)
 done:=by
  intro X G J L U i A s σ H E I B n M
  subst G J L
  obtain ⟨Y,D,N⟩:=M
  obtain ⟨⟨f,j⟩,si⟩:=n
  obtain ⟨C,O,p,hz⟩:=I.list D
  obtain ⟨f0,f1,f2,f3,f4,f5⟩:=B m (by simp)
  have hl:=O.length
  exact wpAny_pyNext_enum_end (I.ok.hd U) j si p.isList (by simp;omega) λg eb=>⟨rfl,I.turned (t':=s.toks) (λb o r q=>eb b o r q) f0 f1 f3 f4 f5⟩
 self:=λ_ _ _ _ _ n h=>let ⟨_,j⟩:=n.1;wpAny_pyIter_enum j h
section
variable {X:Cx} {elts:dj} {k:Nat} {tpos:Pos} {a:Expr} {ta:TA} {p pos:Pos}
def Kl (n:Gl X "enumerate") (o:X.mg "enumerate" = none) (r:PA X [a] ta) (v:starEach [a] X.env=[(false,eval a X.env)]:=by rfl):PI X (.Tuple elts k tpos) (.Call (.Name "enumerate" p) [a] [] pos) (G7 X.K ta):=by
 intro d s f H R I h;refine Call_ (Dx I n o Nl (PyProof.Rows.callWith_type1 (F_ (r pos d s f H _ I h) λG s1 ⟨J,i,e,w,x⟩=>?_) v rfl));obtain ⟨b,rfl,⟨K,y⟩,q⟩:=x;obtain ⟨u,rfl,A⟩:=EM w;cases A;obtain ⟨B,L,C,M⟩:=e.list y;refine call_enumerate_list C.isList λg j si _ D=>?_;have E:Inv X d f i { s1 with heap:=g }:=e.kept (t':=s1.toks) D;refine wpAny_pyIter_enum j ⟨_,[s1.heap.objs.size+1,s1.heap.objs.size],_,_,i,rfl,E,Xl b _ _ (Nat.succ_ne_self _),⟨⟨_,j⟩,si⟩,λc F=>?_,q⟩;have z:c=s1.heap.objs.size+1\/c=s1.heap.objs.size:=by simpa using F
 rcases z with rfl | rfl
 ·exact e.fpOk (Nat.le_succ _) (e.hok.fresh (Nat.le_succ _))
 ·exact e.fpOk (AR _) (e.hok.fresh (AR _))
end
end Bs
namespace Bs
open PySem L2
mutual
inductive RepD (H:Hp):V->W.Dat->Prop
 | non:RepD H .non .none
 | int (i:Int):RepD H (.int i) (.int i)
 | tup {p:Addr} {xs:c_} {ds:List W.Dat} (h:H p=some (.tup xs)) (r:RepA H xs ds):RepD H (.ref p) (.tuple ds)
 | lst {p:Addr} {xs:c_} {ds:List W.Dat} (h:H p=some (.lst xs)) (r:RepA H xs ds):RepD H (.ref p) (.list ds)
inductive RepA (H:Hp):c_->List W.Dat->Prop
 | nil:RepA H [] []
 | cons {x:V} {xs:c_} {d:W.Dat} {ds:List W.Dat} (h:RepD H x d) (r:RepA H xs ds):RepA H (x::xs) (d::ds)
end
def bZ:R2:=λx y H Q=>∃ (d e:W.Dat) (b:Bool),RepD H x d/\RepD H y e/\W.kqdOk 8 d=true/\W.kqdOk 8 e=true/\(b=true↔d=e)/\Q (.bl b) H
def aV:R2:=λx y H Q=>∃ (d e:W.Dat) (b:Bool),RepD H x d/\RepD H y e/\W.kqdOk 8 d=true/\W.kqdOk 8 e=true/\(b=true↔d=e)/\Q (.bl (!b)) H
def Er (c:TE):TT:=λd H Q=>c d H λx a=>∃ p b,x=.ref p/\a p=some (.lst b)/\Q (!b.isEmpty) a
def Xm (c:TE):TT:=λd H Q=>c d H λx a=>∃ p b,x=.ref p/\a p=some (.tup b)/\Q (!b.isEmpty) a
def sL:V->Option Int->Option Int->Hp->VK->Prop:=λx c d H Q=>∃ a b,x=.ref a/\H a=some (.lst b)/\∀ p,H p=none->Q (.ref p) (upd H p (.lst (CW b c d)))
def Fh:c_->Hp->VK->Prop:=λb H Q=>∃ p a,b=[.ref p]/\H p=some (.lst a)/\∀ l,H l=none->Q (.ref l) (upd H l (.tup a))
def Xn:c_->Hp->VK->Prop:=λb H Q=>∃ p a,b=[.ref p]/\H p=some (.tup a)/\∀ l,H l=none->Q (.ref l) (upd H l (.lst a))
def JN:c_->Hp->VK->Prop:=λb H Q=>∃ p a,b=[.ref p]/\H p=some (.lst a)/\∀ l,H l=none->Q (.ref l) (upd H l (.lst a))
def Nw:c_->Hp->VK->Prop:=λb H Q=>∃ (p:Addr) (a:List Bool),b=[.ref p]/\H p=some (.lst (a.map V.bl))/\Q (.bl (a.all id)) H
end Bs
namespace Bs
open PySem PySem.Spec PyProof.Rows L2
section
variable {X:Cx} {pins:dh} {σ:L2.St} {H:Hp} {s:Shared}
mutual
theorem G9 (I:Inv X pins σ H s):∀ {x:V} {d:W.Dat} {u:Value},RepD H x d->RelV x u->∃ as,Reads s.heap u (W.kqdP d) as
 | _,_,_,.non,e=>by cases e;rw [W.kqdP];exact ⟨_,Reads.none⟩
 | _,_,_,.int i,⟨t,e⟩=>by subst e;rw [W.kqdP];exact ⟨_,Reads.int i t⟩
 | _,_,_,.tup h r,e=>by
   cases e;obtain ⟨a,b,p,_⟩:=I.tuple (SqT.of h);obtain ⟨as,q⟩:=JO I r b;obtain ⟨o,c,f,n,g⟩:=p;rw [W.kqdP];exact ⟨as,reads_tuple_at c f g (by simpa using q)⟩
 | _,_,_,.lst h r,e=>by
   cases e;obtain ⟨a,b,p,_⟩:=I.list (SqL.of h);obtain ⟨as,q⟩:=JO I r b;obtain ⟨o,n,c,f,_,g⟩:=p;rw [W.kqdP];exact ⟨_,reads_list_at c f g (by simpa using q)⟩
theorem JO (I:Inv X pins σ H s):∀ {xs:c_} {a:List W.Dat} {b:dc},RepA H xs a->Vals xs b->∃ as,ReadsAll s.heap b (W.kqdPs a) as
 | _,_,_,.nil,.nil=>by rw [W.kqdPs];exact ⟨_,ReadsAll.nil⟩
 | _,_,_,.cons h r,.cons e c=>by
   obtain ⟨as,q⟩:=G9 I h e;obtain ⟨f,d⟩:=JO I r c;rw [W.kqdPs];exact ⟨_,ReadsAll.cons q d⟩
end
def JP {d:W.Dat} (h:W.kqdOk 8 d=true):SeqAt.shaped (W.kqdP d)=true:=by
 have z:=W.kqd_lay 8 d h;unfold SeqAt.shaped;rw [z.1,Bool.true_and];exact nW (Bg z.2 ∅)
def Nx {d e:W.Dat} {b:Bool} (a:W.kqdOk 8 d=true) (c:W.kqdOk 8 e=true) (f:b=true↔d=e):PyData.eqv (W.kqdP d) (W.kqdP e)=b:=by
 rw [E3,f];exact W.kqd_eqv 8 d e 8 a c
def Km (f:X.A.units+64<cLine):OpR X (compareOp .Eq) bZ:=by
 intro pins s σ H x y v u Q I g i h;obtain ⟨d,e,b,j,k,a,c,m,q⟩:=h;obtain ⟨as,n⟩:=G9 I j g;obtain ⟨p,o⟩:=G9 I k i;exact eq_dataH n o (JP a) (JP c) f (by rw [Nx a c m];exact ⟨.bl b,H,I,rfl,q⟩)
def JQ (f:X.A.units+64<cLine):OpR X (compareOp .NotEq) aV:=by
 intro pins s σ H x y v u Q I g i h;obtain ⟨d,e,b,j,k,a,c,m,q⟩:=h;obtain ⟨as,n⟩:=G9 I j g;obtain ⟨p,o⟩:=G9 I k i;exact ne_dataH n o (JP a) (JP c) f (by rw [Nx a c m];exact ⟨.bl (!b),H,I,rfl,q⟩)
def Fj {a:Expr} {c:TE} (d:PE X a c) (f:∀ b,isTrue a X.env b=(do let v <-b;standAt a.pos;holding [v] (truthy v))):PT X a (Er c):=λpins s σ H Q I h=>
 isTrue_plain (F_ (d pins s σ H _ I h) λv s1 ⟨x,g,i,j,k⟩=>by
  obtain ⟨p,m,e,hp,q⟩:=k;subst e;exact VH pins s1 σ g _ v Q i j ⟨_,.inl ⟨m,SqL.of hp,rfl⟩,q⟩) (f _)
def IG:cD X sL:=by
 intro pins s σ H x v b c d f g Q I i j k m h;obtain ⟨a,n,e,o,q⟩:=h;exact NX pins s σ H x v b c d f g Q I i j k m ⟨a,n,e,SqL.of o,q⟩
def HA:Ck X (.type "tuple") Fh:=λpins s σ H a b Q I r h=>by
 obtain ⟨p,c,e,hp,q⟩:=h;exact Ve pins s σ H a b Q I r ⟨p,c,e,.inl ⟨SqL.of hp,q⟩⟩
def Ny:Ck X (.type "list") JN:=λpins s σ H a b Q I r h=>by
 obtain ⟨p,c,e,hp,q⟩:=h;exact Vd pins s σ H a b Q I r ⟨p,c,e,.inl (SqL.of hp),q⟩
theorem N2:∀ {bs:List Bool} {a:dc},Vals (bs.map V.bl) a->a=bs.map Value.bool
 | [],_,.nil=>rfl
 | b::bs,_,.cons e r=>by rw [show _=Value.bool b from e,N2 r];rfl
def Xo (j:X.calm=true):Ck X (.builtin "all") Nw:=λpins s σ H G J Q I r h=>by
 obtain ⟨p,a,rfl,hp,q⟩:=h;obtain ⟨u,rfl,k⟩:=EM r;cases k;obtain ⟨m,n,f,K⟩:=I.list (SqL.of hp);have y:=N2 n;subst y;refine call_all_walk (wpAny_pyIter_list f.isList ⟨s.heap.objs.size,[s.heap.objs.size,p],[s.heap.objs.size],(a.map Value.bool).toArray.size,_,_,λi=>a.getD i false,rfl,Walks.list (A:=X.A.in1) (show X.A.in1.handled=none from I.ok.hd j) s.heap.objs.size p (BI f.lt) _,⟨⟨_,Heap.get?_push_size _ rfl,rfl,rfl⟩,f.isList.push _⟩,?_,λg L B=>?_⟩)
 ·intro i v M N O C D
  have e:v=Value.bool (a.getD i false):=by
   have z:(a.map Value.bool)[i]?=some v:=by simpa using C
   rw [Ac] at z;cases w:a[i]? with
   | none=>rw [w] at z;cases z
   | some c=>
     rw [w] at z;rw [AQ,w];exact (mF z).symm
  subst e;exact wpAny_truthy_bool D
 ·have E:∀ b o,s.heap.get? b=some o->g.get? b=some o:=λb o e=>B b o (λz=>absurd (mG e) (by rw [Aw.mp z];exact DF _)) (Heap.get?_push_of_some _ e);refine ⟨.bl (a.all id),H,I.kept E,?_,q⟩;show Value.bool _=Value.bool _;congr 1;rw [E3];simp only [DT,B9,BJ,AJ,id];constructor
  ·intro h x F;obtain ⟨i,d,e⟩:=E6 F;have z:=h i d;rw [AQ,AZ d] at z;rw [<-e];exact z
  ·intro h i d;rw [AQ,AZ d];exact h _ (DH d)
def JR:bX X gL:=by
 intro pins s σ H o i B C Q I m n h;obtain ⟨p,k,D,v,rfl,rfl,hp,u,q⟩:=h;cases m;obtain ⟨t,rfl⟩:=n;obtain ⟨c,r,e,E⟩:=I.list (SqL.of hp);obtain ⟨j,b,x,F,y,z⟩:=Ke u;obtain ⟨w,f,rw'⟩:=r.get x;have A:=r.length;have G:=Gz;have a:EP X pins σ Q w s:=⟨v,H,I,rw',q⟩;by_cases g:0<=k
 ·have d:k.toNat=j:=by
   rw [seqIndex_of g z] at b;exact mF b
  exact wpAny_getItem_list e.isList g ⋯ (by rw [d];simpa using f) a
 ·have d:(k+(c.toArray.size:Int)).toNat=j:=by
   rw [seqIndex_neg ⋯ y] at b;rw [BJ,<-A];exact mF b
  exact wpAny_getItem_list_neg e.isList ⋯ (by rw [BJ] <;> omega) ⋯ (by rw [d];simpa using f) a
def Kn {K:W.Frag} {p:Addr} {xs:c_} (h:H p=some (.lst xs)):cE K "list" (.ref p) H:=.inl ⟨rfl,xs,SqL.of h⟩
end
end Bs
namespace Bs
open PySem L2
def Ch (n:Nat) (t:aK):TG:=λv c H Q=>∃ a b,v=.ref a/\H a=some (.tup b)/\b.length=n/\t b c H Q
end Bs
namespace Bs
open PySem PySem.Spec PyProof.Rows L2
def C9 {X:Cx} {es:dj} {k:Nat} {pos:Pos} {t:aK} {n:Nat} (d:X.calm=true) (h:bV X es t)
  (f:(assignEach es X.env).length=n:=by rfl) (c:(assignEach es X.env).findIdx? (·.1)=none:=by rfl):PG X (.Tuple es k pos) (Ch n t):=λb s g H v u Q I r q=>by
 obtain ⟨a,i,e,j,m,q⟩:=q;exact U0 d h f c b s g H v u Q I r ⟨a,i,e,SqT.of j,m,q⟩
def Xp {X:Cx}:OpR X (inplaceOp .FloorDiv) IA:=bo λi j _ _ _ _ _ a q=>by
 refine ifloordiv_int (AV a.1) ?_ (.inl (PyProof.noPylong_of_log2 (a.2.log2 ∅)));rw [Dv i (DS a.1)];exact q
end Bs
namespace Bs
open PySem L2
def sT:V->Option Int->Option Int->Hp->VK->Prop:=λx d e H Q=>∃ a b,x=.ref a/\H a=some (.tup b)/\∀ p c,(c=H/\p=a/\CW b d e=b)\/(H p=none/\c=upd H p (.tup (CW b d e)))->Q (.ref p) c
noncomputable def b_ (a:Int) (n:Nat):It:=⟨λi _=>i<n,λi H x b=>b=H/\x=.int (a - i),λi _=>n<=i⟩
def IH (a:TA):TI:=λb H R=>a b H λc d=>∃ i j:Int,c=[.int i,.int j,.int (-1)]/\(-(2 ^ 62)<=i/\i<2 ^ 62/\-(2 ^ 62)<=j/\j<2 ^ 62)/\R (b_ i (i - j).toNat) d
section
variable {K:W.Frag} {ta:TA} {g:TG} {tb:TS} {D:Ends} {σ:L2.St} {H:Hp} {a:Addr} {xs:c_}
def Xq:BR (IH ta) g tb D σ H=ta σ H (λb c=>∃ i j:Int,b=[.int i,.int j,.int (-1)]/\(-(2 ^ 62)<=i/\i<2 ^ 62/\-(2 ^ 62)<=j/\j<2 ^ 62)/\ForJ (b_ i (i - j).toNat) g tb D σ c):=rfl
def ForJ.down {d:Int} {n:Nat} (Pv:Nat->L2.St->Hp->Prop) (f:Pv 0 σ H)
  (h:∀ i σ H,i<n->Pv i σ H->g (.int (d - i)) σ H λb j=>tb { D with nx:=Pv (i+1),ct:=Pv (i+1),bk:=D.nx } b j) (k:∀ σ H,Pv n σ H->D.nx σ H):ForJ (b_ d n) g tb D σ H:=by
 refine ⟨λi m σ H=>m=n - i/\i<=n/\Pv i σ H,⟨n,by simp,Ae _,f⟩,?_⟩;rintro i m σ H ⟨rfl,w,pv⟩;by_cases c:i<n
 ·refine .inr ⟨c,Pv (i+1),λo p q=>⟨n - (i+1),⋯,rfl,c,q⟩,λx p y=>?_⟩;obtain ⟨e,y⟩:=y;subst e y;exact h i σ _ c pv
 ·have e:i=n:=by omega
  subst e;exact .inl ⟨AR _,k σ H pv⟩
end
end Bs
namespace Bs
open PySem PySem.Spec PyProof.Rows L2
def Xr {P:Program} {w:World} {K:W.Frag} {N:Expr} (c:Addr) (g:Int) (n:Nat):Turn P w K N (b_ g n) [c] c (λi h=>IsRangeIter h c (g+(i:Nat)*(-1)) ((n:Int) - (i:Nat)) (-1)) where
 mem:=by simp
 obj:=λi h a b f=>by
  have e:b=c:=by simpa using f
  subst e
  exact ⟨_,a,λv z=>by
   have O:Data.fields _=Data.cell v:=z
   cases O⟩
 keep:=λi h q a k=>k c (by simp) _ a
 item:=by
  intro X u x y A i d s L H E I r a B
  subst u x y
  obtain ⟨C,D,Q,F,G,J⟩:=r c (by simp)
  have W:=Walks.range (prog:=X.prog) (w:=X.w) (I.ok.hd A) c g (-1) n
  refine W.item i s _ _ B a λv q M R j S=>?_
  obtain ⟨t,rfl⟩:=R
  have T:Inv X d L H { s with heap:=q,toks:=M }:=I.turned (λb o f e=>S b o (by simpa using f) e) C D F G J
  refine ⟨_,rfl,JB (s:={ s with heap:=q,toks:=M }) (n := "range_iterator") j rfl rfl ∅ ⟨.int (g - i),H,T,⟨t,?_⟩,⟨rfl,rfl⟩,j,λb f=>(r b f).1⟩⟩
  rw [show g+(i:Int)*(-1)=g - i by omega]
 done:=by
  intro X u x y A i d s L H E I r a B
  subst u x y
  obtain ⟨C,D,Q,F,G,J⟩:=r c (by simp)
  exact wpAny_pyNext_range_end (I.ok.hd A) a (by have:n<=i:=B;omega) λq U=>⟨rfl,I.turned (t':=s.toks) (λb o f e=>U b o f e) C D F G J⟩
 self:=λ_ _ _ _ _ a h=>wpAny_pyIter_rangeiter a h
def N6 (a b:Int):Builtin.Range.rangeSize a b (-1)=if b<a then a - b else 0:=by
 unfold Builtin.Range.rangeSize;simp only [show ¬ ((-1:Int) > 0) by decide,if_false,Int.neg_neg,Int.ediv_one];split <;> omega
def Xs {a b:Int} (e:-(2 ^ 62)<=a) (c:a<2 ^ 62) (f:-(2 ^ 62)<=b) (d:b<2 ^ 62):Builtin.Range.small a b (-1)=true:=by
 unfold Builtin.Range.small;rw [N6];simp only [Builtin.Range.rangeFitsLong,Bool.and_eq_true,Bool.or_eq_true,decide_eq_true_eq,beq_iff_eq,show ¬ ((-1:Int) > 0) by decide,if_false];split <;> omega
theorem N7 {X:Cx} {D:Expr} {a b c:Expr} {y:TA} {p pos:Pos} (E:Gl X "range") (F:X.mg "range" = none) (G:PA X [a,b,c] y) (J:starEach [a,b,c] X.env=[(false,eval a X.env),(false,eval b X.env),(false,eval c X.env)]:=by rfl) (m:starEach [b,c] X.env=[(false,eval b X.env),(false,eval c X.env)]:=by rfl) :
  PI X D (.Call (.Name "range" p) [a,b,c] [] pos) (IH y):=by
 intro g s z H R I h;refine Call_ (Dx I E F boot_range (PyProof.Rows.callWith_type1 (F_ (G pos g s z H _ I h) λU s1 ⟨W,A,K,L,v⟩=>?_) (by rw [J,m]) (by rw [m];rfl)));obtain ⟨i,j,e,⟨v,M,N,O⟩,q⟩:=v;subst e;cases L with
 | cons r n=>
   cases n with
   | cons P n=>
     cases n with
     | cons w n=>
       cases n;obtain ⟨t,rfl⟩:=r;obtain ⟨u,rfl⟩:=P;obtain ⟨f,rfl⟩:=w;refine call_range_3 ∅ ?_ (.inl (PyProof.noPylong_small ∅));refine wpAny_pyIter_range (IsRange.new ..) (Xs v M N O) ?_;have x:Inv X g z A { s1 with heap:=s1.heap.push { cls:=.type "range", data:=.fields #[.int i t,.int j u,.int (-1) f] },toks:=s1.toks }:=K.kept λb o e=>Heap.get?_push_of_some _ e
       refine ⟨(s1.heap.push { cls:=.type "range", data:=.fields #[.int i t,.int j u,.int (-1) f] }).objs.size,[(s1.heap.push { cls:=.type "range", data:=.fields #[.int i t,.int j u,.int (-1) f] }).objs.size],_,_,A,rfl,
        x.kept (t':=s1.toks) λb o e=>Heap.get?_push_of_some _ e,Xr _ i (i - j).toNat,?_,λb Q=>?_,q⟩
       ·have S:i+((0:Nat):Int)*(-1)=i:=by simp
        have T:(((i - j).toNat:Nat):Int) - ((0:Nat):Int)=Builtin.Range.rangeSize i j (-1):=by rw [N6];split <;> omega
        show IsRangeIter _ _ (i+((0:Nat):Int)*(-1)) ((((i - j).toNat:Nat):Int) - ((0:Nat):Int)) (-1);rw [S,T];exact Heap.get?_push_size _ rfl
       ·have e:b=(s1.heap.push { cls:=.type "range", data:=.fields #[.int i t,.int j u,.int (-1) f] }).objs.size:=by simpa using Q
        subst e;exact x.fpOk (AR _) (x.hok.fresh (AR _))
end Bs
namespace Bs
open PySem L2
def Ko:R2:=λx y H Q=>y=.non/\Q (.bl (decide (x=.non))) H
def N8:R2:=λx y H Q=>y=.non/\Q (.bl (!decide (x=.non))) H
def N9 (_ j:Int):Prop:=0<j
def JS (_ j:Int):Prop:=j≠0
abbrev Fk:R2:=rI N9 λi j=>.int (i / j)
abbrev EN:R2:=rI JS λi j=>.int (i.fdiv j)
noncomputable def Itz (K:W.Frag) (a b:Addr):It:=
 ⟨λi H=>∃ c d x y,SqL K H a c/\SqL K H b d/\c[i]?=some x/\d[i]?=some y,λi H v e=>∃ p x y,H p=none/\v=.ref p/\e=upd H p (.tup [x,y])/\(∀ c,SqL K H a c->c[i]?=some x)/\∀ d,SqL K H b d->d[i]?=some y,λi H=>∃ c d,SqL K H a c/\SqL K H b d/\c.length<=i⟩
def Kq (K:W.Frag) (d:TA):TI:=λe H R=>d e H λf c=>∃ a b,f=[.ref a,.ref b]/\(∃ g,SqL K c a g)/\(∃ h,SqL K c b h)/\R (Itz K a b) c
def FK (h:TI) (capt:List (Option Nat)) (g:TG) (tc:TT) (j:TE):TE:=λd H Q=>h d H λJ k=>∃ (n:Nat) (W:Nat->c_->Hp->Prop),W 0 [] k/\∀ i a H,W i a H->i<=n/\a.length<=sizeLine/\
 ((J.stop i H/\∀ p,H p=none->Q (.ref p) (upd H p (.lst a)))\/(i<n/\J.go i H/\∀ x e,J.yld i H x e->g x (Cm capt d) e λc m=>tc c m λb f=>if b=true then j c f λy o=>W (i+1) (a++[y]) o else W (i+1) a f))
def CompF (J:It) (capt:List (Option Nat)) (g:TG) (tc:TT) (f:TE) (h:L2.St) (Q:VK) (j:Hp):Prop:=∃ (n:Nat) (W:Nat->c_->Hp->Prop),W 0 [] j/\∀ i a H,W i a H->i<=n/\a.length<=sizeLine/\
 ((J.stop i H/\∀ p,H p=none->Q (.ref p) (upd H p (.lst a)))\/(i<n/\J.go i H/\∀ x d,J.yld i H x d->g x (Cm capt h) d λc k=>tc c k λb e=>if b=true then f c e λy m=>W (i+1) (a++[y]) m else W (i+1) a e))
section
variable {K:W.Frag} {ta:TA} {tl:TE} {capt:List (Option Nat)} {g:TG} {tc:TT} {te:TE} {tb:TS} {D:Ends} {σ:L2.St} {H:Hp} {Q:VK} {a b:Addr} {xs ys:c_}
def Xu:FK (Bh K tl) capt g tc te σ H Q=tl σ H (λx c=>∃ a,x=.ref a/\(∃ xs,SqL K c a xs)/\CompF (aa K a) capt g tc te σ Q c):=rfl
def Xv:BU (Kq K ta) capt g te σ H Q=ta σ H (λd c=>∃ a b,d=[.ref a,.ref b]/\(∃ xs,SqL K c a xs)/\(∃ ys,SqL K c b ys)/\CompJ (Itz K a b) capt g te σ Q c):=rfl
def CompF.lst (W:Nat->c_->Hp->Prop) (j:W 0 [] H) (d:∀ i ys H,W i ys H->i<=xs.length/\ys.length<=sizeLine/\SqL K H a xs)
  (k:∀ i x ys H,xs[i]?=some x->W i ys H->g x (Cm capt σ) H λc m=>tc c m λb f=>if b=true then te c f λy n=>W (i+1) (ys++[y]) n else W (i+1) ys f) (o:∀ ys H,W xs.length ys H->∀ p,H p=none->Q (.ref p) (upd H p (.lst ys))):CompF (aa K a) capt g tc te σ Q H:=by
 refine ⟨xs.length,W,j,λi ys H w=>⟨(d i ys H w).1,(d i ys H w).2.1,?_⟩⟩;have q:SqL K H a xs:=(d i ys H w).2.2;by_cases h:i<xs.length
 ·refine .inr ⟨h,⟨xs,xs[i],q,by simp [h]⟩,λx r y=>?_⟩;obtain ⟨e,y⟩:=y;subst e;exact k i x ys _ (y xs q) w
 ·have e:i=xs.length:=Nat.le_antisymm (d i ys H w).1 (Nat.not_lt.mp h);subst e;exact .inl ⟨⟨xs,q,AR _⟩,o ys H w⟩
end
def OA:V->Hp->VK->Prop:=λx H Q=>∃ (p:Addr) (a:d8),x=.ref p/\H p=some (.lst (a.map V.int))/\∀ m:Int,(a=[]/\m=0\/m∈a)->Q (.int m) H
def Kr (a:TE):TE:=λb H Q=>a b H λx c=>OA x c Q
def Ks:c_->Hp->VK->Prop:=λb H Q=>∃ (p:Addr) (a:d8),b=[.ref p]/\H p=some (.lst (a.map V.int))/\Q (.bl (a.any λz=>!decide (z=0))) H
end Bs
namespace Bs
open PySem PySem.Spec PyProof.Rows L2
section
variable {X:Cx} {pins:dh} {σ:L2.St} {H:Hp} {s:Shared}
def FM:OpR X (binaryOp .FloorDiv) EN:=by
 intro pins s σ H x y v u Q I a b ⟨i,j,c,d,e,q⟩;subst c d;obtain ⟨t,rfl⟩:=a;obtain ⟨f,rfl⟩:=b;exact floordiv_int e ⟨.int (i.fdiv j),H,I.tok _,⟨_,rfl⟩,q⟩ (Or.inr (I.ok.plr s I.bk))
def JT:OpR X (binaryOp .FloorDiv) Fk:=by
 intro pins s σ H x y v u Q I b c ⟨i,j,d,e,f,q⟩;have a:0<j:=f;replace q:Q (.int (i / j)) H:=q;rw [<-Dv i (DS a)] at q;exact FM pins s σ H x y v u Q I b c ⟨i,j,d,e,AV a,q⟩
def Xw {f:dw} {g:Heap} {tk:Nat} (I:Inv X pins σ H s) (e:∀ b∈f,DL X pins H b) (k:∀ b o,b∉f->s.heap.get? b=some o->g.get? b=some o):Inv X pins σ H { s with heap:=g,toks:=tk }:=by
 have tr:∀ b u,H b=some u->b∉f:=λb u q a=>by rw [(e b a).1] at q;cases q
 refine I.step (g':=s.gens) (d':=s.drawn) (ch:=f) (λb a=>⟨(e b a).2.2.2.1,(e b a).2.1,(e b a).2.2.2.2.1,(e b a).2.2.2.2.2⟩) (λb o _ _ d q _=>k b o d q) (λb o _ _ d q _=>⟨o.slots,k b o d q⟩) (λ_ _ _ _ n=>n)
  (λb o d q=>⟨o,k b o d q⟩) (λ_ _ q=>q) (λ_ _ _ q=>q) (λb ps q=>⟨#[],by rw [q];simp⟩) (λm j=>?_) (λb u q=>?_) I.bare
 ·obtain ⟨o,p,r,w,x⟩:=j;exact ⟨o,p,r,k _ o (λa=>(e _ a).2.1 rfl) w,x⟩
 ·refine (I.hok b u q).stay (λc v d z=>?_) (λ_ z=>z) λ_ _ z=>z;rcases d with y | y
  ·subst y;exact k _ v (tr _ u q) z
  ·exact k c v (tr c _ y) z
def Xx {h:dw} {g:Heap} {tk:Nat} {xs:c_} {its:dc} (I:Inv X pins σ H s) (e:∀ b∈h,DL X pins H b) (k:∀ b o,b∉h->s.heap.get? b=some o->g.get? b=some o)
  (p:xs.length<=sizeLine) (r:Vals xs its) (w:g.get? s.heap.objs.size=some { cls:=.type "tuple", data:=.seq its.toArray }):Inv X pins σ (upd H s.heap.objs.size (.tup xs)) { s with heap:=g,toks:=tk }:=by
 have x:H s.heap.objs.size=none:=I.hok.fresh (AR _);have f:∀ b u,H b=some u->b≠s.heap.objs.size:=λb u q=>BO q x;have tr:∀ b u,H b=some u->b∉h:=λb u q a=>by rw [(e b a).1] at q;cases q
 refine I.step (g':=s.gens) (d':=s.drawn) (ch:=h) (λb a=>⟨(e b a).2.2.2.1,(e b a).2.1,(e b a).2.2.2.2.1,(e b a).2.2.2.2.2⟩) (λb o _ _ d q _=>k b o d q) (λb o _ _ d q _=>⟨o.slots,k b o d q⟩) (λb o _ q n=>?_)
  (λb o d q=>⟨o,k b o d q⟩) (λb A q=>?_) (λb o u q=>?_) (λb ps q=>⟨#[],?_⟩) (λm B=>?_) (λb u q=>?_) I.bare
 ·rw [Ad (BI (mG q))];exact n
 ·rw [Ad (f b _ q)];exact q
 ·rw [Ad (f b _ q)];exact q
 ·rw [Ad (f b _ q),q];simp
 ·obtain ⟨o,C,D,E,F⟩:=B;exact ⟨o,C,D,k _ o (λa=>(e _ a).2.1 rfl) E,F⟩
 ·by_cases a:b=s.heap.objs.size
  ·subst a;rw [upd_same] at q;cases q;exact ⟨p,its,r,⟨_,w,rfl,_,rfl⟩⟩
  ·rw [Ad a] at q;refine (I.hok b u q).stay (λc v d z=>?_) (λc z=>by rw [Ad (f c _ z)];exact z) λc A z=>by rw [Ad (f c _ z)];exact z
   rcases d with y | y
   ·subst y;exact k _ v (tr _ u q) z
   ·exact k c v (tr c _ y) z
end
def Xy (a b z c d e f:Addr) (i:Nat) (h:Heap):Prop:=IsZip h z c d .none/\IsPair h c (.ref e) (.ref f)/\(∃ u v,IsPair h d u v)/\h.IsListIter e a i/\h.IsListIter f b i
def Xz {P:Program} {w:World} {K:W.Frag} {L:dj} {k:Nat} {pos:Pos} {a b z p r m n:Addr} (D:ZipApart z p r m n a b):Turn P w K (.Tuple L k pos) (Itz K a b) [z,p,r,m,n] z (Xy a b z p r m n) where
 mem:=by simp
 obj:=λi h f c j=>by
  obtain ⟨s1,F,⟨u,v,G⟩,⟨o4,B,_,d4⟩,⟨o5,C,_,d5⟩⟩:=f
  have d:c=z\/c=p\/c=r\/c=m\/c=n:=by simpa using j
  rcases d with rfl | rfl | rfl | rfl | rfl
  ·exact ⟨_,s1,λv q=>nomatch q⟩
  ·exact ⟨_,F,λv q=>nomatch q⟩
  ·exact ⟨_,G,λv q=>nomatch q⟩
  ·exact ⟨_,B,λv q=>by rw [d4] at q;cases q⟩
  ·exact ⟨_,C,λv q=>by rw [d5] at q;cases q⟩
 keep:=λi h h' f M=>⟨M z (by simp) _ f.1,M p (by simp) _ f.2.1,let ⟨u,v,q⟩:=f.2.2.1;⟨u,v,M r (by simp) _ q⟩,f.2.2.2.1.at λo q=>M m (by simp) o q,f.2.2.2.2.at λo q=>M n (by simp) o q⟩
 item:=by
  intro X U Y Z j i N s σ H E I R f hg
  subst U Y Z
  obtain ⟨xs,ys,x,y,S,A,hx,hy⟩:=hg
  obtain ⟨s1,F,⟨u0,v0,G⟩,B,C⟩:=f
  obtain ⟨O,rv,p1,_⟩:=I.list S
  obtain ⟨a0,rw',p2,_⟩:=I.list A
  obtain ⟨u,hu,ru⟩:=rv.get hx
  obtain ⟨v,hv,a1⟩:=rw'.get hy
  refine wpAny_pyNext_zip_item D s1 F G B C p1.isList p2.isList (x:=u) (y:=v) (by simpa using hu) (by simpa using hv) λg g1 g2 g3 g4 g5 _ T=>?_
  refine ⟨_,rfl,wpAny_letOwnedTupleGo_zip g1 λg' z1 J=>?_⟩
  have lz:z<s.heap.objs.size:=mG s1
  have Q:∀ c o,c∉[z,p,r,m,n]->s.heap.get? c=some o->g'.get? c=some o:=λc o j q=>by
   have d:¬ (c=z\/c=p\/c=r\/c=m\/c=n):=by simpa using j
   exact J.extBut c o (λe=>d (.inl e)) (T c o (λe=>d (.inl e)) (λe=>d (.inr (.inr (.inl e)))) (λe=>d (.inr (.inr (.inr (.inl e))))) (λe=>d (.inr (.inr (.inr (.inr e))))) q)
  have I1:=Xx (g:=g') (tk:=s.toks) (xs:=[x,y]) (its:=[u,v]) I R Q (sz (by simp)) (.cons ru (.cons a1 .nil)) (J.extBut _ _ (DG lz) g5)
  refine ⟨.ref s.heap.objs.size,_,I1,rfl,⟨_,x,y,I.hok.fresh (AR _),rfl,rfl,λzs hz=>by rw [I.list_inj hz S];exact hx,λzs hz=>by rw [I.list_inj hz A];exact hy⟩,⟨z1,?_,⟨u,v,J.extBut _ _ D.TOz g2⟩,g3.at λo q=>J.extBut m o D.i1z q,g4.at λo q=>J.extBut n o D.i2z q⟩,λc j=>?_⟩
  ·exact J.extBut _ _ D.TIz (T _ _ D.TIz D.TITO D.TIi1 D.TIi2 F)
  ·rw [Ad]
   ·exact (R c j).1
   ·have d:c=z\/c=p\/c=r\/c=m\/c=n:=by simpa using j
    obtain ⟨o4,B,_⟩:=B
    obtain ⟨o5,C,_⟩:=C
    rcases d with rfl | rfl | rfl | rfl | rfl
    ·exact BI lz
    ·exact BI (mG F)
    ·exact BI (mG G)
    ·exact BI (mG B)
    ·exact BI (mG C)
 done:=by
  intro X U Y Z j i N s σ H E I R f hg
  subst U Y Z
  obtain ⟨xs,ys,S,A,hx⟩:=hg
  obtain ⟨s1,F,⟨u0,v0,G⟩,B,C⟩:=f
  obtain ⟨O,rv,p1,_⟩:=I.list S
  obtain ⟨a0,_,p2,_⟩:=I.list A
  have hl:=rv.length
  refine wpAny_pyNext_zip_end (I.ok.hd j) D s1 F G B C p1.isList p2.isList (.inl (by simp;omega)) λg T=>⟨rfl,Xw (tk:=s.toks) I R λc o j q=>?_⟩
  have d:¬ (c=z\/c=p\/c=r\/c=m\/c=n):=by simpa using j
  exact T c o (λe=>d (.inl e)) (λe=>d (.inr (.inr (.inl e)))) (λe=>d (.inr (.inr (.inr (.inl e))))) (λe=>d (.inr (.inr (.inr (.inr e))))) q
 self:=λ_ _ _ _ _ f h=>wpAny_pyIter_zip f.1 h
section
variable {X:Cx} {elts:dj} {k:Nat} {tpos:Pos} {a b:Expr} {ta:TA} {p pos:Pos}
def vals2 {x y:V} {c:dc} (r:Vals [x,y] c):∃ u v,c=[u,v]/\RelV x u/\RelV y v:=r.two
def X1 (A:Gl X "zip") (B:X.mg "zip" = none) (C:PA X [a,b] ta) (E:starEach [a,b] X.env=(false,eval a X.env)::starEach [b] X.env:=by rfl) (i:(backTo pos (starEach [b] X.env)).any (·.1)=false:=by rfl):PI X (.Tuple elts k tpos) (.Call (.Name "zip" p) [a,b] [] pos) (Kq X.K ta):=by
 intro d s m H R I h;refine Call_ (Dx I A B No (PyProof.Rows.callWith_type1 (F_ (C pos d s m H _ I h) λY s1 ⟨Z,n,e,F,G⟩=>?_) E i));obtain ⟨o,l2,rfl,⟨xs,J⟩,⟨ys,j⟩,q⟩:=G;obtain ⟨u,v,rfl,K,L⟩:=vals2 F;cases K;cases L;obtain ⟨M,_,r,_⟩:=e.list J;obtain ⟨N,_,w,_⟩:=e.list j;refine call_zip_2 r.isList w.isList λg x O P Q S _ T=>?_;have U:Inv X d m n { s1 with heap:=g }:=e.kept (t':=s1.toks) T;have n1:@LT.lt Nat _ o s1.heap.objs.size:=r.lt;have n2:@LT.lt Nat _ l2 s1.heap.objs.size:=w.lt
 have D:ZipApart (s1.heap.objs.size+4) (s1.heap.objs.size+2) (s1.heap.objs.size+3) s1.heap.objs.size (s1.heap.objs.size+1) o l2:=by
  constructor <;> (show (_:Nat)≠_;omega)
 refine wpAny_pyIter_zip x ⟨_,[s1.heap.objs.size+4,s1.heap.objs.size+2,s1.heap.objs.size+3,s1.heap.objs.size,s1.heap.objs.size+1],_,_,n,rfl,U,Xz D,⟨x,O,⟨_,_,P⟩,Q,S⟩,λc W=>?_,q⟩
 have f:s1.heap.objs.size<=c:=by
  have z:c=s1.heap.objs.size+4\/c=s1.heap.objs.size+2\/c=s1.heap.objs.size+3\/c=s1.heap.objs.size\/c=s1.heap.objs.size+1:=by simpa using W
  rcases z with z | z | z | z | z <;> rw [z] <;> first | exact Nat.le_add_right _ _ | exact AR _
 exact e.fpOk f (e.hok.fresh f)
end
def X2:bootBuiltins "any" = some (.builtin "any"):=by decide +kernel
theorem JU:∀ {a:d8} {b:dc} {i:Nat} {u:Value},Vals (a.map V.int) b->b[i]?=some u->∃ n t,a[i]?=some n/\u=Value.int n t
 | [],_,_,_,.nil,e=>by simp at e
 | n::a,_,0,_,.cons r _,e=>by
   simp at e;subst e;obtain ⟨t,rfl⟩:=r;exact ⟨n,t,rfl,rfl⟩
 | _::a,_,i+1,u,.cons _ r,e=>by
   obtain ⟨n,t,c,d⟩:=JU (i:=i) (u:=u) r (by simpa using e);exact ⟨n,t,by simpa using c,d⟩
section
variable {X:Cx}
def X3 (y:X.calm=true):Ck X (.builtin "any") Ks:=λk s M H N O Q I r ⟨p,c,e,hp,q⟩=>by
 subst e;obtain ⟨u,rfl,B⟩:=EM r;cases B;obtain ⟨a,m,j,P⟩:=I.list (SqL.of hp);have R:c.length=a.length:=by have:=m.length;simpa using this
 refine call_any_walk (wpAny_pyIter_list j.isList ⟨s.heap.objs.size,[s.heap.objs.size,p],[s.heap.objs.size],a.toArray.size,_,_,λi=>!decide (c.getD i 0=0),rfl,Walks.list (A:=X.A.in1) (show X.A.in1.handled=none from I.ok.hd y) s.heap.objs.size p (BI j.lt) _,⟨⟨_,Heap.get?_push_size _ rfl,rfl,rfl⟩,j.isList.push _⟩,?_,λg S C=>?_⟩)
 ·intro i v D E T F f;obtain ⟨n,t,G,rfl⟩:=JU m (show a[i]?=some v by simpa using F);have e:c.getD i 0=n:=by rw [AQ,G];rfl
  replace f:E (!decide (c.getD i 0=0)) D:=f;rw [e] at f;refine PySem.P.truthy_int ?_;have J:(n != 0)=!decide (n=0):=by rw [E3];simp
  rw [J];exact f
 ·have K:∀ b o,s.heap.get? b=some o->g.get? b=some o:=λb o e=>C b o (λz=>absurd (mG e) (by rw [Aw.mp z];exact DF _)) (Heap.get?_push_of_some _ e);refine ⟨_,H,I.kept K,?_,q⟩;show Value.bool _=Value.bool _;congr 1;rw [E3];simp only [List.any_eq_true,B9,BJ];constructor
  ·rintro ⟨i,w,h⟩;have d:i<c.length:=by omega
   rw [AQ,AZ d] at h;exact ⟨c[i],DH d,h⟩
  ·rintro ⟨x,L,h⟩;obtain ⟨i,w,rfl⟩:=E6 L;refine ⟨i,⋯,?_⟩;rw [AQ,AZ w];exact h
end
section
variable {prog:Program} {w:World} {A:Around} {R:Result->Shared->Prop} {I:Addr} {fp wr:dw} {n:Nat} {P:Nat->Value->Prop} {St:Nat->Heap->Prop} {d:Value}
theorem Kt (W:Walks prog w A.in1 I fp wr n P St) (G:Nat->Nat->Bool) (a:CmpOf prog w A.in1 .Lt P G) (S:Addr) (f:S∉fp):∀ (k j q:Nat) (s:Shared) (h:Value) (c:Nat),n - j=k->j<=n->St j s.heap->q<n->P q h->
  s.heap.get? S=some { cls:=.type "list", dict:=none,data:=.seq #[h,h] c,slots:=#[] }->
  (∀ q v H J,q<n->P q v->(∀ b o,b∉wr->b≠S->s.heap.get? b=some o->H.get? b=some o)->R (.ok (.ret v)) { s with heap:=H,toks:=J })->
  codeAny (model prog w) A (.builtin "min.loop" ⟨[.ref I,.none,.ref S],[("default", d)]⟩) R s
 | 0,j,q,s,h,c,hk,Z,r,N,i,D,K=>by
   have L:j=n:=by omega
   refine codeAny_builtin F.entry_min_loop ?_;rw [Around.under_plainId F.plain_min_loop _];refine mC (m:=seqItems? (.ref S)) (wpAny_seqItems D rfl ?_);refine mC (m:=tryCatch (pyNext (.ref I)) _) (wpAny_tryCatch (W.done s _ _ (L ▸ r) λH J kp=>?_));have g:=kp S _ (λz=>f (W.sub _ z)) D;refine mC (m:=updateSeq S (λ_=>#[])) (wpAny_updateSeq g rfl (mC (wpAny_letGo (mD ?_))));exact K q h _ J N i λb o u E e=>(Heap.get?_update_other _ _ E.symm).trans (kp b o u e)
 | k+1,j,q,s,h,c,hk,Z,r,N,i,D,K=>by
   have L:j<n:=by omega
   refine codeAny_builtin F.entry_min_loop ?_;rw [Around.under_plainId F.plain_min_loop _];refine mC (m:=seqItems? (.ref S)) (wpAny_seqItems D rfl ?_);refine mC (m:=tryCatch (pyNext (.ref I)) _) (wpAny_tryCatch (W.item j s _ _ L r λv H J X p kp=>?_));have g:=kp S _ (λz=>f (W.sub _ z)) D;refine mC (m:=tryCatch (holding [v,v] (richCompare .Lt v h >>= _)) _) (wpAny_tryCatch (wpAny_holding (mC (a j q v h _ _ _ X i ?_))));refine mC (wpAny_holding (wpAny_truthy_bool (mC (wpAny_letGo (mD ?_)))));have Y:(toString "min" ++ toString ".loop" : String) = "min.loop" := by decide
   cases G j q with
   | true=>
     simp only [if_true];refine mC (wpAny_updateSeq g rfl (mC (wpAny_letGo ?_)));rw [Y];refine mD ⟨plainId_quiet F.plain_min_loop _,Kt W G a S f k (j+1) j _ v _ ⋯ ⋯ (W.frame _ _ _ p λb hb o e=>(Heap.get?_update_other _ _ (λz:S=b=>f (by rw [z];exact hb))).trans e) L X (Heap.get?_update_self _ g rfl) λO Q E x y B C=>?_⟩;exact K O Q E x y B λb o u M e=>C b o u M ((Heap.get?_update_other _ _ M.symm).trans (kp b o u e))
   | false=>
     simp only [Dw,if_false];refine mC (wpAny_letGo ?_);rw [Y];exact mD ⟨plainId_quiet F.plain_min_loop _,Kt W G a S f k (j+1) q _ h c ⋯ ⋯ p N i g λO Q E x y B C=>K O Q E x y B λb o u M e=>C b o u M (kp b o u e)⟩
def X4 (W:Walks prog w A.in1 I fp wr n P St) (B:Nat->Nat->Bool) (f:CmpOf prog w A.in1 .Lt P B) (S:Addr) (a:S∉fp) {s:Shared} {c:Nat} (g:St 0 s.heap)
  (C:s.heap.get? S=some { cls:=.type "list", dict:=none,data:=.seq #[] c,slots:=#[] })
  (D:∀ v h k,(n=0/\v=d\/∃ q,q<n/\P q v)->(∀ b o,b∉wr->b≠S->s.heap.get? b=some o->h.get? b=some o)->R (.ok (.ret v)) { s with heap:=h,toks:=k }) :
  codeAny (model prog w) A (.builtin "min.loop" ⟨[.ref I,.none,.ref S],[("default", d)]⟩) R s:=by
 refine codeAny_builtin F.entry_min_loop ?_;rw [Around.under_plainId F.plain_min_loop _];refine mC (m:=seqItems? (.ref S)) (wpAny_seqItems C rfl ?_);rcases DR n with z | z
 ·refine mC (m:=tryCatch (pyNext (.ref I)) _) (wpAny_tryCatch (W.done s _ _ (z ▸ g) λh k kp=>?_));refine mC (wpAny_rule (mD ?_));exact D d h k (.inl ⟨z,rfl⟩) λb o p _ e=>kp b o p e
 ·refine mC (m:=tryCatch (pyNext (.ref I)) _) (wpAny_tryCatch (W.item 0 s _ _ z g λv h k J i kp=>?_));have j:=kp S _ (λz=>a (W.sub _ z)) C;have K:(toString "min" ++ toString ".loop" : String) = "min.loop" := by decide
  refine mC (m:=updateSeq S (λ_=>#[v,v])) (wpAny_updateSeq j rfl ?_);rw [K];refine mD ⟨plainId_quiet F.plain_min_loop _,Kt W B f S a _ 1 0 _ v _ rfl z (W.frame _ _ _ i λb L o e=>(Heap.get?_update_other _ _ (λz:S=b=>a (by rw [z];exact L))).trans e) z J (Heap.get?_update_self _ j rfl) λM N O r u x y=>?_⟩;exact D N O r (.inr ⟨M,u,x⟩) λb o p H e=>y b o p H ((Heap.get?_update_other _ _ H.symm).trans (kp b o p e))
end
def X5 (a v:Value):argsOk "min" ⟨[a],[("default", v)]⟩:=by unfold argsOk;kernel_rfl
section
variable {X:Cx} {e:Expr} {te:TE} {p pos kp1 kp2:Pos} {kk:Nat}
def X6 (S:X.calm=true) (T:X.mg "min" = none) (U:bootBuiltins "min" = some (.builtin "min")) (Y:PE X e te) (Z:Gl X "min" := by rfl)
  (hs:starEach [e] X.env=(false,eval e X.env)::starEach [] X.env:=by rfl) (k:backTo pos (starEach [e] X.env)=(false,eval e X.env)::backTo pos (starEach [] X.env):=by rfl):PE X (.Call (.Name "min" p) [e] [⟨some "default", .Constant (.int 0) kk kp1,kp2⟩] pos) (Kr te):=by
 intro f s L H Q I h;refine wpAny_Call_Name_kw (Dx I Z T U ?_ ∅ ∅);refine PyProof.Rows.callWith_kw ?_ k (by rw [k];rfl);rw [k];refine Calls.spliced_cons (F_ (Y f s L H _ I h) λu s1 ⟨x,M,I1,r1,q1⟩=>Calls.spliced_nil ?_);have kw:PK X [⟨some "default", .Constant (.int 0) kk kp1,kp2⟩] (AB (tC (.int 0)) AC):=NQ AF NP;refine F_ (kw pos f s1 L M (λvs N=>vs=[.int 0]/\N=M) I1 ⟨rfl,rfl⟩) λws c ⟨zs,N,r,rz,ez,eh⟩=>?_;subst ez eh;obtain ⟨z,rfl,t,rfl⟩:=EM rz;obtain ⟨l,O,rfl,hl,q⟩:=q1;cases r1;obtain ⟨d,y,B,hz⟩:=r.list (SqL.of hl);have a0:O.length=d.length:=by have:=y.length;simpa using this
 have nm:(toString "min" ++ toString ".loop" : String) = "min.loop" := by decide
 refine kmb_tree F.kind_min F.plain_min F.entry_min (X5 _ _) ?_;refine mC (m:=Builtin.Builtins.bindParams "min" ["key", "default"] 0 ⟨[],[("default", Value.int 0 t)]⟩) (wpAny_of_eq (a:=[none,some (Value.int 0 t)]) rfl ?_);refine mC (mD (mC (wpAny_pyIter_list B.isList ?_)));refine mC (wpAny_newObj_type ?_);rw [nm];have C:l<c.heap.objs.size:=B.lt;have P:(c.heap.push { cls:=.type "list_iterator", data:=.fields #[.ref l,.int 0 0] }).objs.size=c.heap.objs.size+1:=Heap.size_push ..;have W:=Walks.list (prog:=X.prog) (w:=X.w) (A:=X.A.in1) (show X.A.in1.handled=none from r.ok.hd S) c.heap.objs.size l (BI C) d.toArray;refine mD ⟨plainId_quiet F.plain_min_loop _,X4 W _ (CmpOf.ints_lt (λi=>O.getD i 0) λi v D=>?_) _ ?_ ⟨⟨_,Heap.get?_push_of_some _ (Heap.get?_push_size _ rfl),rfl,rfl⟩,(B.isList.push _).push _⟩ (Heap.get?_push_size _ rfl) λv g tk E gk=>?_⟩
 ·obtain ⟨n,G,J,rfl⟩:=JU y (show d[i]?=some v by simpa using D);exact ⟨G,by rw [AQ,J];rfl⟩
 ·rw [P]
  have:¬ (c.heap.objs.size+1=c.heap.objs.size\/c.heap.objs.size+1=l):=λz=>by
   rcases z with z | z
   ·exact absurd z (Nat.succ_ne_self _)
   ·rw [<-z] at C;exact absurd C (Nat.not_lt.mpr (Nat.le_succ _))
  simpa using this
 ·have K:∀ b o,c.heap.get? b=some o->g.get? b=some o:=λb o e=>by
   have j:b<c.heap.objs.size:=mG e;refine gk b o (λz=>?_) (λz=>?_) (Heap.get?_push_of_some _ (Heap.get?_push_of_some _ e))
   ·rw [Aw.mp z] at j;exact absurd j (DF _)
   ·rw [z,P] at j;exact absurd j (Nat.not_lt.mpr (Nat.le_succ _))
  have R:=r.kept (t':=tk) K;rcases E with ⟨z,rfl⟩ | ⟨i,hi,D⟩
  ·exact ⟨.int 0,_,R,⟨t,rfl⟩,q 0 (.inl ⟨CB.mp (by rw [BJ] at z;omega),rfl⟩)⟩
  ·obtain ⟨n,G,J,rfl⟩:=JU y (show d[i]?=some v by simpa using D);exact ⟨.int n,_,R,⟨G,rfl⟩,q n (.inr (A4 J))⟩
end
end Bs
namespace Bs
open PySem L2
def sS (K:W.Frag):V->Option Int->Option Int->Hp->VK->Prop:=λx c d H Q=>∃ a b,x=.ref a/\SqL K H a b/\∀ p,H p=none->Q (.ref p) (upd H p (.lst (CW b c d)))
end Bs
namespace Bs
open PySem PySem.Spec PyProof.Rows L2
section
variable {X:Cx}
def X7:OpR X (inplaceOp .FloorDiv) EN:=by
 intro a s g H x y v u Q I b c ⟨i,j,d,e,f,q⟩;subst d e;obtain ⟨t,rfl⟩:=b;obtain ⟨h,rfl⟩:=c;exact ifloordiv_int f ⟨.int (i.fdiv j),H,I.tok _,⟨_,rfl⟩,q⟩ (Or.inr (I.ok.plr s I.bk))
def X8:OpR X (inplaceOp .FloorDiv) Fk:=by
 intro a s c H x y v u Q I d e ⟨i,j,f,g,h,q⟩;have b:0<j:=h;replace q:Q (.int (i / j)) H:=q;rw [<-Dv i (DS b)] at q;exact X7 a s c H x y v u Q I d e ⟨i,j,f,g,AV b,q⟩
def OB:cD X (sS X.K):=NX
end
end Bs
namespace Bs
open PySem L2
def X9 (n:Nat) (t:aK):TG:=λv c H Q=>∃ a b,v=.ref a/\H a=some (.lst b)/\b.length=n/\t b c H Q
end Bs
namespace Bs
open PySem PySem.Spec PyProof.Rows L2
def YA {m n:Nat} {a b:Int} (c:Bd m a) (d:Bd n b) (h:m+n<=134217728):IntMulOk a b:=IntMulOk.of_le (Np c) (Np d) h
end Bs
namespace Bs
open PySem L2
def YB (i j k:Nat) (b:TA):TS:=λD a H=>b a H λc d=>∃ u v w,c=[u,v,w]/\D.nx (((a.set i (some u)).set j (some v)).set k (some w)) d
def inD (neg:Bool):R2:=λx y H Q=>∃ (p:Addr) (c:c_) (d:W.Dat) (a:List W.Dat) (b:Bool),y=.ref p/\H p=some (.lst c)/\RepD H x d/\RepA H c a/\W.kqdOk 8 d=true/\(∀ e∈a,W.kqdOk 8 e=true)/\(b=true↔d∈a)/\Q (.bl (if neg=true then !b else b)) H
end Bs
namespace Bs
open PySem PySem.Spec PyProof.Rows L2
def YC {d:W.Dat} {a:List W.Dat} {b:Bool} (c:W.kqdOk 8 d=true) (f:∀ e∈a,W.kqdOk 8 e=true) (g:b=true↔d∈a):((W.kqdPs a).any λy=>PyData.eqv y (W.kqdP d))=b:=by
 rw [E3,g];exact W.kqd_any a d f c
def YD {X:Cx} (G:X.A.units+64<cLine):OpR X (compareOp .NotIn) (inD true):=by
 intro a s J H x y v u Q I g i h;obtain ⟨p,K,d,j,b,e,hp,k,m,c,f,r,q⟩:=h;subst e;obtain ⟨as,w⟩:=G9 I k g;cases i;obtain ⟨z,A,B,_⟩:=I.list (SqL.of hp);obtain ⟨L,C⟩:=JO I m A;obtain ⟨o,n,D,E,_,F⟩:=B;have l:=W.kqd_layL f;have ld:=W.kqd_lay 8 d c;have l2:=ld.2;refine SeqAt.notIn_list_reads (reads_list_at D E F (by simpa using C)) w l.1 ld.1 ?_ (by rw [YC c f r];exact ⟨.bl (!b),H,I,rfl,q⟩);have:=Nat.min_le_right (PyData.depthAll (W.kqdPs j)) (W.kqdP d).depth;omega
end Bs
namespace Bs
open PySem L2
noncomputable def D6 (kvs:List (D_×V)) (k:D_):d7:=(kvs.find? λa=>a.1=k).map (·.2)
noncomputable def Dq (kvs:List (D_×V)) (k:D_) (v:V):List (D_×V):=
 if kvs.any (λa=>a.1=k) then kvs.map (λa=>if a.1=k then (a.1,v) else a) else kvs++[(k,v)]
def gD:R2:=λx y H Q=>∃ p k a v,x=.ref p/\y=.str k/\H p=some (.dK a)/\D6 a (.inr k)=some v/\Q v H
def Ku:V->V->V->Hp->(Hp->Prop)->Prop:=λo i v H Q=>∃ p k a,o=.ref p/\i=.str k/\H p=some (.dK a)/\a.length<sizeLine/\Q (upd H p (.dK (Dq a (.inr k) v)))
noncomputable def II (ks:dt) (xs:c_):List (D_×V):=(ks.zip xs).map λp=>(.inr p.1,p.2)
def OC (ks:dt) (t:TA):TE:=λc H Q=>∀ p,H p=none->t c (upd H p (.dK [])) λa b=>b p=some (.dK [])/\a.length=ks.length/\Q (.ref p) (upd b p (.dK (II ks a)))
end Bs
namespace Bs
open PySem PySem.Spec PySem.Calls PyProof.Rows L2
theorem OD {k:D_} {v:V}:∀ {kvs:List (D_×V)} {vs:List (D_×Value)},KV kvs vs->D6 kvs k=some v->∃ u,valueAt vs k=some u/\RelV v u
 | _,_,.nil,h=>by cases h
 | _,_,.cons (a:=⟨d,f⟩) (b:=⟨i,g⟩) ⟨e,r⟩ t,h=>by
   have j:d=i:=e;subst j;unfold D6 at h;unfold valueAt;rw [List.find?_cons] at h ⊢;by_cases c:d=k
   ·rw [nW (show (d,f).1=k from c)] at h;rw [nW (show (d,g).1=k from c)];have m:some f=some v:=h;rw [<-mF m];exact ⟨g,rfl,r⟩
   ·rw [nY (show ¬ (d,f).1=k from c)] at h;rw [nY (show ¬ (d,g).1=k from c)];exact OD t h
theorem OF {k:D_}:∀ {kvs:List (D_×V)} {vs:List (D_×Value)},KV kvs vs->kvs.any (λc=>c.1=k)=vs.any (λc=>c.1=k)
 | _,_,.nil=>rfl
 | _,_,.cons (a:=⟨d,h⟩) (b:=⟨f,i⟩) ⟨e,r⟩ t=>by
   have g:d=f:=e;subst g;rw [List.any_cons,List.any_cons,OF t]
theorem OG {k:D_} {v:V} {u:Value} (g:RelV v u):∀ {kvs:List (D_×V)} {vs:List (D_×Value)},KV kvs vs->KV (kvs.map (λd=>if d.1=k then (d.1,v) else d)) (vs.map (λd=>if d.1=k then (d.1,u) else d))
 | _,_,.nil=>.nil
 | _,_,.cons (a:=⟨f,h⟩) (b:=⟨j,i⟩) ⟨e,r⟩ t=>by
   have m:f=j:=e;subst m;rw [CA,CA];refine .cons ?_ (OG g t);by_cases c:f=k
   ·rw [nV (show (f,h).1=k from c),nV (show (f,i).1=k from c)];exact ⟨rfl,g⟩
   ·rw [nU (show ¬ (f,h).1=k from c),nU (show ¬ (f,i).1=k from c)];exact ⟨rfl,r⟩
theorem OH {k:D_} {v:V} {u:Value} (a:RelV v u):∀ {kvs:List (D_×V)} {vs:List (D_×Value)},KV kvs vs->KV (kvs++[(k,v)]) (vs++[(k,u)])
 | _,_,.nil=>.cons ⟨rfl,a⟩ .nil
 | _,_,.cons p t=>.cons p (OH a t)
def YE {k:D_} {v:V} {u:Value} {kvs:List (D_×V)} {vs:List (D_×Value)} (h:KV kvs vs) (a:RelV v u):KV (Dq kvs k v) (stored vs k u):=by
 unfold Dq stored;rw [OF h];by_cases c:vs.any (λb=>b.1=k)=true
 ·rw [nV c,nV c];exact OG a h
 ·rw [nU c,nU c];exact OH a h
def YF {k:D_} {v:V} {kvs:List (D_×V)}:(Dq kvs k v).length<=kvs.length+1:=by
 unfold Dq;split
 ·rw [AJ];omega
 ·rw [Bp];exact AR _
section
variable {X:Cx}
def Inv.dK {a:dh} {c:L2.St} {H:Hp} {s:Shared} {p:Addr} {kvs:List (D_×V)} (I:Inv X a c H s) (h:H p=some (.dK kvs)) :
  kvs.length<=sizeLine/\(p == sysModules)=false/\∃ b,KV kvs b/\s.heap.DictOf (Dk X.prog X.w) p b:=I.hok p _ h
def D7:aU X gD:=by
 intro b c a s e H x y v u Q I g i h j;obtain ⟨p,k,n,z,rfl,rfl,hp,o,q⟩:=h;cases g;obtain ⟨t,rfl⟩:=i;obtain ⟨C,D,E,r,m⟩:=Inv.dK I hp;obtain ⟨w,A,rw'⟩:=OD r o;have d:EP X a e Q w { s with toks:=s.toks+1 }:=⟨z,H,I.tok _,rw',q⟩
 exact subscriptTail_builtinR (x:=w) m.typeIs slot_dict_getitem.lookup
  (wpAny_getItem_of (Q:=λr B=>r=w/\EP X a e Q r B) (Iz X.prog X.w k t) m.mapOf A ⟨rfl,d⟩) j
def OI:aB X Ku:=by
 intro c s B H o i v C D u Q I f g j h;obtain ⟨p,k,a,rfl,rfl,hp,n,q⟩:=h;cases f;obtain ⟨t,rfl⟩:=g;obtain ⟨E,w,y,r,m⟩:=Inv.dK I hp;have F:a.length=y.length:=Paired.length r;refine wpAny_setItem_pairs (hsz:=by omega) (Iz X.prog X.w k t) m λG d z=>⟨_,I.write (x:=p) (e:=p) (o:=.dK (Dq a (.inr k) v)) (by rw [hp];trivial) (.inl rfl) (λb u A e=>(z.2 b A).trans e) ?_ ?_,q⟩
 ·obtain ⟨o,_,_,e,_⟩:=d;exact ⟨o,e⟩
 ·exact ⟨by have:=YF (k:=.inr k) (v:=v) (kvs:=a);omega,w,_,YE r j,d⟩
end
noncomputable def a_:dt->c_->List (Value×Value)->Prop
 | [],[],[]=>True
 | k::a,x::b,(c,v)::d=>(∃ t,c=.str k t)/\RelV x v/\a_ a b d
 | _,_,_=>False
def PD (X:Cx) (pos:Pos) (d:List (Option Expr)) (b:dj) (ks:dt) (t:TA):Prop:=
 ∃ a:List (Sem Value×Sem Value),((evalEachOpt d X.env).zip ((evalEach b X.env).map λv=>do let x <-v;standAt pos;pure x)=a.map λp=>(some p.1,p.2))/\a.length=ks.length/\
   ∀ (c:dh) (s:Shared) (e:L2.St) (H:Hp) (Q:c_->Hp->Prop),Inv X c e H s->t e H Q->wpAny (model X.prog X.w) X.A (evalPairs a) (λh i=>∃ f g,Inv X c e g i/\a_ ks f h/\Q f g) X.xe s
theorem YG (X:Cx) {ks:dt} {xs:c_} {vs:List (Value×Value)} (h:a_ ks xs vs):∃ a:List (D_×Value),Carries (Dk X.prog X.w) vs a/\KV (II ks xs) a/\a.map (·.1)=ks.map .inr:=by
 induction ks generalizing xs vs with
 | nil=>cases xs with
   | nil=>cases vs with
     | nil=>exact ⟨[],trivial,.nil,rfl⟩
     | cons=>exact h.elim
   | cons=>exact h.elim
 | cons k ks b=>cases xs with
   | nil=>exact h.elim
   | cons x xs=>cases vs with
     | nil=>exact h.elim
     | cons p vs=>
       obtain ⟨⟨t,e⟩,r,d⟩:=h;obtain ⟨a,c,f,g⟩:=b d;exact ⟨(.inr k,p.2)::a,⟨e ▸ Iz X.prog X.w k t,rfl,c⟩,.cons ⟨rfl,r⟩ f,by rw [CA,CA,g]⟩
theorem OJ:∀ {ks:dt},ks.Nodup->(ks.map (Sum.inr:Str->D_)).Nodup
 | [],_=>.nil
 | k::ks,h=>by
   rw [CA,Dh];rw [Dh] at h;refine ⟨λm=>?_,OJ h.2⟩;obtain ⟨a,hk,e⟩:=AX.mp m;exact h.1 (Sum.inr.inj e ▸ hk)
section
variable {X:Cx} {pos:Pos}
def YH:PD X pos [] [] [] AC:=⟨[],rfl,rfl,λ_ _ _ H _ I h=>evalPairs_nil ⟨[],H,I,trivial,h⟩⟩
def JV {c:List (Option Expr)} {a:dj} {ks:dt} {t:TA} {e:Expr} {i:TE} {k:Str} {j p} (n:PE X e i) (h:PD X pos c a ks t):PD X pos (some (.Constant (.str k) j p)::c) (e::a) (k::ks) (AB i t):=by
 obtain ⟨f,o,q,hp⟩:=h;refine ⟨(eval (.Constant (.str k) j p) X.env,do let x <-eval e X.env;standAt pos;pure x)::f,?_,by rw [CP,CP,q],λb s g H Q I r=>?_⟩
 ·rw [CA,<-o];rfl
 ·refine evalPairs_cons ?_;refine F_ (DI (X:=X) (x:=k) (j:=j) (pos:=p) b s g H (λx m=>x=.str k/\AB i t g m Q) I ⟨rfl,r⟩) λu s1 ⟨x,m,w,z,A,B⟩=>?_;subst A;refine mC (F_ (n b s1 g m _ w B) λv C ⟨y,D,E,F,G⟩=>mC (wpAny_standAt (mD ?_)));exact F_ (hp b C g D _ E G) λN O ⟨J,K,L,d,M⟩=>⟨y::J,K,L,⟨z,F,d⟩,M⟩
def YI {d:List (Option Expr)} {a:dj} {ks:dt} {t:TA} (h:PD X pos d a ks t) (A:ks≠[]) (B:ks.length<=15) (C:ks.Nodup):PE X (.Dict d a pos) (OC ks t):=by
 obtain ⟨j,D,E,hp⟩:=h;intro f s n H Q I G;have J:H s.heap.objs.size=none:=I.hok.fresh (AR _);obtain ⟨m,F⟩:=I.fr;have p:(s.heap.objs.size == sysModules)=false:=F.notModules (modules_low I.ok.mod.nolimit)
 have K:Inv X f n (upd H s.heap.objs.size (.dK [])) { s with heap:=s.heap.push { cls:=.type "dict", data:=.dict #[] } }:=
  I.laid (t':=s.toks) (λb u e=>Heap.get?_push_of_some _ e) (AR _) ⟨Ae _,p,[],.nil,Heap.DictOf.new _⟩
 refine wpAny_Dict_pairs (knd:=Dk X.prog X.w) D (λz=>A (CB.mp (by rw [<-E,z];rfl))) ⋯ (F_ (hp f _ n _ _ K (G _ J)) λW s1 ⟨w,M,y,N,i,Y,q⟩=>?_);obtain ⟨g,c,O,e⟩:=YG X N;obtain ⟨_,_,P,R,S⟩:=Inv.dK y i;cases R;refine ⟨g,c,S,λZ k T=>?_⟩;rw [merged_nil_of_nodup g (by rw [e];exact OJ C)] at k;refine ⟨.ref s.heap.objs.size,upd M s.heap.objs.size (.dK (II ks w)),y.write (x:=s.heap.objs.size) (e:=s.heap.objs.size) (by rw [i];trivial) (.inl rfl) (λb u U e=>(T.2 b U).trans e) ?_ ?_,rfl,q⟩
 ·obtain ⟨o,_,_,e,_⟩:=k;exact ⟨o,e⟩
 ·have hk:(II ks w).length<=ks.length:=by unfold II;rw [AJ,List.length_zip];omega
  exact ⟨by rw [sizeLine_eq];omega,p,g,O,k⟩
end
end Bs
namespace Bs
open PySem L2
def OK:c_->Hp->VK->Prop:=λa H Q=>∃ i j,a=[.int i,.int j]/\j≠0/\∀ p,H p=none->Q (.ref p) (upd H p (.tup [.int (i.fdiv j),.int (i.fmod j)]))
def Kv:V->c_->Hp->VK->Prop:=λx b H Q=>∃ l a y k,x=.ref l/\b=[.int (k:Nat),y]/\H l=some (.lst a)/\k<=a.length/\a.length<sizeLine/\Q .non (upd H l (.lst (a.take k++y::a.drop k)))
def OM:V->c_->Hp->VK->Prop:=λx b H Q=>∃ l y a,x=.ref l/\b=[.int 0]/\H l=some (.lst (y::a))/\Q y (upd H l (.lst a))
end Bs
namespace Bs
open PySem PySem.Spec PySem.Calls PyProof.Rows L2
section
variable {X:Cx}
def YJ:Ck X (.builtin "divmod") OK:=by
 intro a s g H k m Q I r h;obtain ⟨i,j,rfl,c,q⟩:=h;obtain ⟨u,n,rfl,⟨t,rfl⟩,⟨d,rfl⟩⟩:=vals2 r;have f:H s.heap.objs.size=none:=I.hok.fresh (AR _);refine divmod_int c ?_ (.inr (I.ok.plr s I.bk));refine ⟨.ref s.heap.objs.size,upd H s.heap.objs.size (.tup [.int (i.fdiv j),.int (i.fmod j)]),I.laid (t':=s.toks+1+1) (λb u e=>Heap.get?_push_of_some _ e) (AR _) ?_,rfl,q _ f⟩;exact ⟨by show 2<=sizeLine;rw [sizeLine_eq];decide,[.int (i.fdiv j) s.toks,.int (i.fmod j) (s.toks+1)],.cons ⟨_,rfl⟩ (.cons ⟨_,rfl⟩ .nil),⟨_,Heap.get?_push_size _ rfl,rfl,_,rfl⟩⟩
def YK:bH X "list.insert" Kv:=by
 intro f s B H x C v D Q I j m h;obtain ⟨l,E,y,k,rfl,rfl,g,hk,G,q⟩:=h;cases j;obtain ⟨u,c,rfl,⟨t,rfl⟩,o⟩:=m.two;obtain ⟨z,a,n,r,p,e⟩:=I.lstM g;have d:(k:Int)<2 ^ 63:=by have:=sizeLine_eq;omega
 have b:¬ (!Builtin.List.listFitsIndex (k:Int))=true:=by rw [fitsIndex_both ⋯ d];decide
 have w:a.toArray.size<=sizeLine:=by rw [BJ,<-p];exact z
 generalize A:(k:Int)=i at b;have M:=PySem.AutoSeq1.list_insert_list_int_val_1 l a.toArray n i t c b w;refine call_meets F.slot_list_insert ⟨_,e,rfl⟩ F.entry_list_insert (F.args_list_insert_3 _ _ _) M ⟨e,?_⟩;subst A;refine ⟨.non,_,I.lset (its':=a.take k++c::a.drop k) g e ?_ ((r.take k).append (.cons o (r.drop k))) ?_,rfl,q⟩
 ·show ((a.toArray.extract 0 (if (k:Int)<0 then ((k:Int)+(a.toArray.size:Int)).toNat else min (k:Int).toNat a.toArray.size)).push c++a.toArray.extract (if (k:Int)<0 then ((k:Int)+(a.toArray.size:Int)).toNat else min (k:Int).toNat a.toArray.size))=_;rw [nU ⋯,show min (k:Int).toNat a.toArray.size=k by rw [BJ];omega];apply Array.ext';simp;rw [List.take_of_length_le (by rw [List.length_drop];exact AR _)]
 ·simp;omega
end
end Bs
namespace Bs
open PySem PySem.Spec PyProof.Rows L2
def YL:bootBuiltins "divmod" = some (.builtin "divmod"):=by decide +kernel
def YM {X:Cx}:bH X "list.pop" OM:=by
 intro a s b H x i v c Q I d e h;obtain ⟨l,y,f,rfl,rfl,g,q⟩:=h;exact Vk a s b H _ _ v c Q I d e ⟨l,y::f,0,0,y,rfl,rfl,g,∅,∅,by simp [seqIndex?],rfl,q⟩
section
variable {X:Cx}
def YN:bootBuiltins "sorted" = some (.builtin "sorted"):=by decide +kernel
end
end Bs
namespace Bs
open PySem L2
noncomputable def EO (kvs:List (List D_×V)) (k:List D_) (v:V):List (List D_×V):=
 if kvs.any (λa=>a.1=k) then kvs.map (λa=>if a.1=k then (a.1,v) else a) else kvs++[(k,v)]
def ON:TE:=λ_ H Q=>∀ p,H p=none->Q (.ref p) (upd H p (.dT []))
def JW:V->V->V->Hp->(Hp->Prop)->Prop:=λo i v H Q=>∃ p b c a,o=.ref p/\i=.ref b/\H b=some (.tup (List.map kV c))/\H p=some (.dT a)/\a.length<sizeLine/\Q (upd H p (.dT (EO a c v)))
def Kw:c_->Hp->VK->Prop:=λd H Q=>∃ p b,d=[.ref p]/\H p=some (.dT b)/\∀ as:dw,as.length=b.length->(∀ (i:Nat) (a:Addr) (c:List D_×V),as[i]?=some a->b[i]?=some c->H a=some (.tup (c.1.map kV)))->∀ r,H r=none->Q (.ref r) (upd H r (.lst (as.map V.ref)))
end Bs
namespace Bs
open PySem PySem.Spec PySem.Calls PyProof.Rows L2
def YO {P:Program} {w:World} {k:D_} {u:Value} (r:RelV (kV k) u):(Dk P w).is k u=true:=by
 rcases k with i | x
 ·obtain ⟨t,rfl⟩:=r;exact Up P w i t
 ·obtain ⟨t,rfl⟩:=r;exact Iz P w x t
theorem OO {P:Program} {w:World}:∀ (ks:List D_) {a:dc},Vals (ks.map kV) a->ItemsAre (Dk P w) ks a
 | [],_,.nil=>.nil
 | _::ks,_,.cons h t=>.cons (YO h) (OO ks t)
abbrev TKv (H:Hp):List (List D_×V)->List (List D_×Addr×Value)->Prop:=Paired λp q=>p.1=q.1/\H q.2.1=some (.tup (p.1.map kV))/\RelV p.2 q.2.2
theorem TKv.any {H:Hp} {k:List D_}:∀ {kvs:List (List D_×V)} {xs:List (List D_×Addr×Value)},TKv H kvs xs->kvs.any (λd=>d.1=k)=(atKey xs k).isSome
 | _,_,.nil=>rfl
 | _,_,.cons (a:=p) (b:=q) h t=>by
   rw [List.any_cons,TKv.any t];unfold atKey;rw [List.find?_cons,<-h.1];by_cases c:p.1=k
   ·rw [nW c];rfl
   ·rw [nY c];rfl
theorem TKv.map {H:Hp} {k:List D_} {v:V} {u:Value} (e:RelV v u):∀ {kvs:List (List D_×V)} {xs:List (List D_×Addr×Value)},TKv H kvs xs->TKv H (kvs.map λd=>if d.1=k then (d.1,v) else d) (xs.map (putAt k u))
 | _,_,.nil=>.nil
 | _,_,.cons (a:=p) (b:=q) h t=>by
   rw [CA,CA];refine .cons ?_ (TKv.map e t);unfold putAt;by_cases c:p.1=k
   ·rw [nV c,nV (h.1 ▸ c)];exact ⟨h.1,h.2.1,e⟩
   ·rw [nU c,nU (h.1 ▸ c)];exact h
theorem TKv.snoc {H:Hp} {p:List D_×V} {q:List D_×Addr×Value} (h:p.1=q.1/\H q.2.1=some (.tup (p.1.map kV))/\RelV p.2 q.2.2):∀ {kvs:List (List D_×V)} {xs:List (List D_×Addr×Value)},TKv H kvs xs->TKv H (kvs++[p]) (xs++[q])
 | _,_,.nil=>.cons h .nil
 | _,_,.cons a t=>.cons a (TKv.snoc h t)
def TKv.put {H:Hp} {k:List D_} {b:Addr} {v:V} {u:Value} {kvs:List (List D_×V)} {xs:List (List D_×Addr×Value)} (h:TKv H kvs xs) (c:H b=some (.tup (k.map kV))) (a:RelV v u):TKv H (EO kvs k v) (storedH xs k b u):=by
 unfold EO storedH;rw [TKv.any h];split
 ·exact TKv.map a h
 ·exact TKv.snoc ⟨rfl,c,a⟩ h
def YQ {k:List D_} {v:V} {kvs:List (List D_×V)}:(EO kvs k v).length<=kvs.length+1:=by
 unfold EO;split
 ·rw [AJ];omega
 ·rw [Bp];exact AR _
theorem TKv.mem {H:Hp}:∀ {kvs:List (List D_×V)} {xs:List (List D_×Addr×Value)},TKv H kvs xs->∀ x∈xs,H x.2.1=some (.tup (x.1.map kV))
 | _,_,.nil,x,c=>nomatch c
 | _,_,.cons (a:=p) (b:=q) h t,x,c=>by
   rcases Bc.mp c with e | e
   ·rw [e,<-h.1];exact h.2.1
   ·exact TKv.mem t x e
theorem TKv.get {H:Hp}:∀ {kvs:List (List D_×V)} {xs:List (List D_×Addr×Value)} {i:Nat} {x:List D_×Addr×Value} {a:List D_×V},TKv H kvs xs->xs[i]?=some x->kvs[i]?=some a->H x.2.1=some (.tup (a.1.map kV))
 | _,_,i,x,a,.nil,b,_=>by cases b
 | _,_,0,x,a,.cons h t,b,hk=>by cases b;cases hk;exact h.2.1
 | _,_,i+1,x,a,.cons h t,b,hk=>TKv.get t b hk
section
variable {X:Cx}
def JX {a:dh} {d:L2.St} {H:Hp} {s:Shared} {b:Addr} {ks:List D_} (I:Inv X a d H s) (h:H b=some (.tup (ks.map kV))):(tupleKind (Dk X.prog X.w)).is s.heap ks b:=by
 obtain ⟨_,c,r,o,e,f,n,g⟩:=(show ObjOk X.prog X.w H s.heap b (.tup (ks.map kV)) from I.hok b _ h);exact ⟨o,c.toArray,n,e,f,g,by rw [List.toList_toArray];exact OO ks r⟩
def JY {a:dh} {c:L2.St} {H:Hp} {s:Shared} {p:Addr} {kvs:List (List D_×V)} (I:Inv X a c H s) (h:H p=some (.dT kvs)) :
  kvs.length<=sizeLine/\(p == sysModules)=false/\∃ b,TKv H kvs b/\s.heap.DictOfH (tupleKind (Dk X.prog X.w)) p b:=by
 obtain ⟨z,y,b,r,o,d,e,f,g,i,j,k⟩:=(show ObjOk X.prog X.w H s.heap p (.dT kvs) from I.hok p _ h);exact ⟨z,y,b,r,o,d,e,f,g,i,j,λx m=>JX I (TKv.mem r x m),k⟩
def YR (O:X.A.units+64<cLine):aB X JW:=by
 intro d s P H o i v R S u Q I j n A h;obtain ⟨p,b,f,a,rfl,rfl,c,hp,B,q⟩:=h;cases j;cases n;obtain ⟨T,C,D,r,m⟩:=JY I hp;have U:a.length=D.length:=Paired.length r;refine wpAny_setItem_heap (hsz:=by omega) (tupleKind_room_in1 ⋯) (JX I c) m λW g E=>⟨_,I.write (x:=p) (e:=p) (o:=.dT (EO a f v)) (by rw [hp];trivial) (.inl rfl) (λb u c e=>(E.2 b c).trans e) ?_ ?_,q⟩
 ·obtain ⟨o,_,_,e,_⟩:=g;exact ⟨o,e⟩
 ·obtain ⟨o,F,G,J,K,L,M,_,N⟩:=g;refine ⟨by have:=YQ (k:=f) (v:=v) (kvs:=a);omega,C,_,Paired.mapP (TKv.put r c A) λx y z=>⟨z.1,?_,z.2.2⟩,o,F,G,J,K,L,M,N⟩;rw [Ad (Fb z.2.1 hp λw=>nomatch w)];exact z.2.1
def YS {pos:Pos}:PE X (.Dict [] [] pos) ON:=by
 intro a s f H Q I h;have c:H s.heap.objs.size=none:=I.hok.fresh (AR _);obtain ⟨m,F⟩:=I.fr;have d:(s.heap.objs.size == sysModules)=false:=F.notModules (modules_low I.ok.mod.nolimit);exact wpAny_Dict_empty ⟨.ref s.heap.objs.size,_,I.laid (o:=.dT []) (t':=s.toks) (λb u e=>Heap.get?_push_of_some _ e) (AR _) ⟨Ae _,d,[],.nil,_,#[],0,Heap.get?_push_size _ rfl,⟨rfl,rfl,rfl⟩,rfl,rfl,List.nodup_nil⟩,rfl,h _ c⟩
def RawD (h:Heap) (d:Addr) (es:Array DictEntry) (ep:Nat):Prop:=∃ o,h.get? d=some o/\o.ExactDict/\o.data=.dict es ep
def RawD.ty {s:Shared} {d:Addr} {es:Array DictEntry} {ep:Nat} (m:RawD s.heap d es ep):s.TypeIs (.ref d) "dict" := let ⟨o,e,c,_⟩:=m;⟨o,e,c.1⟩
def RawD.by {h h':Heap} {d:Addr} {es:Array DictEntry} {ep:Nat} (m:RawD h d es ep) (k:∀ o,h.get? d=some o->h'.get? d=some o):RawD h' d es ep:=let ⟨o,e,r⟩:=m;⟨o,k o e,r⟩
section
variable {prog:Program} {w:World} {A:Around} {E:de} {s:Shared} {d it:Addr} {es:Array DictEntry} {ep i:Nat}
def YT {Q:de} (e:(d == sysModules)=false) (m:RawD s.heap d es ep) (q:Q (.ref s.heap.objs.size) { s with heap:=s.heap.push ⟨.type "dict_keyiterator", none,.fields #[.ref d,.int 0 0,.int es.size 0,.int ep 0],#[]⟩ }) :
  wpAny (model prog w) A (pyIter (.ref d)) Q E s:=by
 obtain ⟨o,b,f,c⟩:=id m;refine wpAny_pyIter_slot m.ty PySem.F.slot_dict_iter (wpAny_call_entry PySem.F.slot_dict_iter m.ty PySem.F.entry_dict_iter ?_ (PySem.F.args_dict_iter_1 _));unfold Builtin.«dict.__iter__» Builtin.Dict.dictSlotNone;refine mC (mC (wpAny_notOrdered_dict m.ty (mD ?_)));show wpAny _ _ (Builtin.Dict.showsAll d >>= _) _ _ _;unfold Builtin.Dict.showsAll;rw [nU (show ¬ (d == sysModules)=true by rw [e];decide)];exact mC (mD (mC (wpAny_dictEntries b c (mC (wpAny_dictEpoch b c (mC (wpAny_newObj_type (mD ⟨_,rfl, "dict_keyiterator", _,⟨_,Heap.get?_push_size _ rfl,rfl⟩,PySem.F.slot_dict_keyiterator_next.lookup,q⟩))))))))
def YU {Q:du->Shared->Prop} {x:DictEntry} (t:s.heap.IsKeyIter it d i es.size ep) (m:RawD s.heap d es ep) (k:es[i]?=some x)
  (q:∀ c,c.IsKeyIter it d (i+1) es.size ep->Heap.SameBut it s.heap c->Q (some x.key) { s with heap:=c }):wpAny (model prog w) A (pyNext (.ref it)) Q E s:=by
 obtain ⟨o,e,n,b⟩:=id t;obtain ⟨p,g,r,h⟩:=id m;unfold pyNext;refine mC (wpAny_attempt (wpAny_callSpecial?_slot t.typeIs PySem.F.slot_dict_keyiterator_next (wpAny_call_entry PySem.F.slot_dict_keyiterator_next t.typeIs PySem.F.entry_dict_keyiterator_next ?_ (PySem.F.args_dict_keyiterator_next_1 _))));refine mC (mD (mC (mC (mC (wpAny_typeNameOfWhole_keyiter t.typeIs (mD (mC (wpAny_fieldsOf e b ?_))))))));have f:Builtin.Dict_items.ownsTuple "dict_keyiterator" = false:=by decide
 simp only [f,Dw,if_false];show wpAny _ _ (if (Value.ref d == Value.none)=true then _ else _) _ _ s;rw [nU (show ¬ (Value.ref d == Value.none)=true from Cc)];refine mC (mD (mC (wpAny_dictEntries g h ?_)));rw [nU (by simp)];refine mC (mD (mC (wpAny_dictEpoch g h ?_)));rw [nU (by simp)];refine mD ?_;simp only [show ¬ (i:Int)<0 by omega,if_false,EI,k];refine mC (mC (wpAny_typeNameOfWhole_keyiter t.typeIs (mD (mC (wpAny_isOneOf_keyiter t.typeIs ?_)))));show wpAny _ _ (setField (.ref it) 1 (rawInt ((i:Int)+1)) >>= _) _ _ _;refine mC (wpAny_setField e b (by simp) ?_)
 have j:(s.heap.update it (Obj.mapFields (·.setIfInBounds 1 (rawInt ((i:Int)+1))))).IsKeyIter it d (i+1) es.size ep:=by
  refine ⟨_,Heap.get?_update_self _ e (Obj.isFreed_of_fields (Obj.data_mapFields b _)),(Obj.cls_mapFields ..).trans n,?_⟩;rw [Obj.data_mapFields b];simp [rawInt]
 refine mC (wpAny_holding (mC (wpAny_isOneOf_keyiter (s:={ s with heap:=s.heap.update it (Obj.mapFields (·.setIfInBounds 1 (rawInt ((i:Int)+1)))) }) j.typeIs ?_)));show wpAny _ _ (pure x.key) _ _ _;exact mD (mD ⟨_,rfl,mD (q _ j (Heap.SameBut.update ..))⟩)
def YV {Q:du->Shared->Prop} (n:A.handled=none) (t:s.heap.IsKeyIter it d i es.size ep) (m:RawD s.heap d es ep) (p:es[i]?=none)
  (q:∀ e,Heap.ExtBut it s.heap e->Q none { s with heap:=e }):wpAny (model prog w) A (pyNext (.ref it)) Q E s:=by
 obtain ⟨o,g,r,h⟩:=id t;obtain ⟨u,j,v,k⟩:=id m;unfold pyNext;refine mC (wpAny_attempt (wpAny_callSpecial?_slot t.typeIs PySem.F.slot_dict_keyiterator_next (wpAny_call_entry PySem.F.slot_dict_keyiterator_next t.typeIs PySem.F.entry_dict_keyiterator_next ?_ (PySem.F.args_dict_keyiterator_next_1 _))));refine mC (mD (mC (mC (mC (wpAny_typeNameOfWhole_keyiter t.typeIs (mD (mC (wpAny_fieldsOf g h ?_))))))));have c:Builtin.Dict_items.ownsTuple "dict_keyiterator" = false:=by decide
 simp only [c,Dw,if_false];show wpAny _ _ (if (Value.ref d == Value.none)=true then _ else _) _ _ s;rw [nU (show ¬ (Value.ref d == Value.none)=true from Cc)];refine mC (mD (mC (wpAny_dictEntries j k ?_)));rw [nU (by simp)];refine mC (mD (mC (wpAny_dictEpoch j k ?_)));rw [nU (by simp)];refine mD ?_;simp only [show ¬ (i:Int)<0 by omega,if_false,EI,p];refine mC (mC (wpAny_typeNameOfWhole_keyiter t.typeIs (mD ?_)));show wpAny _ _ (setField (.ref it) 0 .none >>= _) _ _ _;refine mC (wpAny_setField g h (by simp) ?_);show wpAny _ _ (newExc (.type "StopIteration") [] >>= _) _ _ _;simp only [newExc,newTuple];refine mC (mC (wpAny_newObj_type ?_ (by size_fits)));refine mC (m:=firstArgMember _ _) (wpAny_of_eq (a:=Value.none) (by first | rfl | (simp only [firstArgMember];rfl)) (wpAny_newObj_type ?_ (by size_fits)));simp only [raiseNew];refine mC (wpAny_handled ?_);rw [show A.in1.handled=none from n];refine mC (mD (wpAny_throw ?_));refine mC (wpAny_isInstance (T := "StopIteration") (b:=true) ⟨_,Heap.get?_push_size _ rfl,rfl⟩ isSubtype_stop (mD ?_));exact q _ (((Heap.SameBut.update ..).extBut.push _).push _)
def YW (m:A.handled=none) (n:d≠it):Walks prog w A it [it,d] [it] es.size (λi v=>∃ x,es[i]?=some x/\v=x.key) (λi h=>h.IsKeyIter it d i es.size ep/\RawD h d es ep) where
 sub:=λb c=>by rw [Aw.mp c];exact Au ..
 frame:=λ_ _ _ a k=>⟨a.1.at (k it (Au ..)),a.2.by (k d (A3 _ (Aw.mpr rfl)))⟩
 item:=λi s Q E g a q=>YU a.1 a.2 (Array.getElem?_eq_getElem g) λf p j=>q _ f s.toks ⟨_,Array.getElem?_eq_getElem g,rfl⟩ ⟨p,a.2.by λo e=>(j.2 d n).trans e⟩ λb o c e=>(j.2 b λz=>c (Aw.mpr z)).trans e
 done:=λs Q E a q=>YV m a.1 a.2 (Array.getElem?_eq_none (AR _)) λf x=>q f s.toks λb o c e=>x b o (λz=>c (Aw.mpr z)) e
 self:=λ_ _ _ _ a q=>wpAny_pyIter_keyiter a.1 q
def YX (a:(d == sysModules)=false):W.KdlSrc prog w "dict" d d es.size (λi v=>∃ x,es[i]?=some x/\v=x.key) (λh=>RawD h d es ep) where
 type:=λ_ m=>m.ty
 there:=λ_ ⟨_,e,_⟩=>⟨mG e,mG e⟩
 keep:=λ_ _ m k=>m.by (k d (.inl rfl))
 notList:=by decide
 notTuple:=by decide
 hint:=λ_ _ _ _ m q=>W.kdl_hint_dict m.ty q
 iter:=λA s b m=>⟨_,_,λ_ _ q=>YT a m q,YW b (let ⟨_,e,_⟩:=m;BI (mG e)),⟨⟨_,Heap.get?_push_size _ rfl,rfl,rfl⟩,m.by λ_ e=>Heap.get?_push_of_some _ e⟩⟩
end
def OP (D:X.calm=true):Ck X (.type "list") Kw:=λz s S H T U Q I r ⟨p,j,e,hp,q⟩=>by
 subst e;obtain ⟨u,rfl,E⟩:=EM r;cases E;obtain ⟨Y,F,b,pt,o,m,A,G,J,K,B,_⟩:=JY I hp;have L:j.length=b.length:=Paired.length pt;have Z:m.size=b.length:=by rw [<-Array.length_toList,B,AJ]
 refine W.kdl_call (YX (ep:=A) (es:=m) F) (I.ok.hd D) ⟨o,G,J,K⟩ ⋯ λh' M f c k N n=>?_
 have O:∀ i,f[i]?=(b.map λy=>Value.ref y.2.1)[i]?:=λi=>by
  rcases A5 i b.length with h | h
  ·have C:i<f.size:=by rw [n.1];omega
   obtain ⟨x,d,v⟩:=n.2 i _ (Array.getElem?_eq_getElem C);rw [Array.getElem?_eq_getElem C,v,Ac,AZ h];rw [<-Array.getElem?_toList,B,Ac,AZ h] at d;cases d;rfl
  ·rw [Array.getElem?_eq_none (by rw [n.1];omega),BL (by rw [AJ];exact h)]
 have g:f=(b.map λy=>Value.ref y.2.1).toArray:=by
  refine Array.ext_getElem? λi=>?_;rw [O i,List.getElem?_toArray]
 subst g;have P:H s.heap.objs.size=none:=I.hok.fresh (AR _);refine ⟨.ref s.heap.objs.size,_,I.laid (o:=.lst ((b.map λy=>y.2.1).map V.ref)) (t':=M) k (AR _) ⟨?_,b.map (λy=>Value.ref y.2.1),c,?_,N⟩,rfl,q _ (by rw [AJ,L]) (λi a kv d v=>?_) _ P⟩
 ·rw [AJ,AJ];omega
 ·have:∀ l:List (List D_×Addr×Value),Vals ((l.map λy=>y.2.1).map V.ref) (l.map λy=>Value.ref y.2.1):=λl=>by
   induction l with
   | nil=>exact .nil
   | cons y l R=>exact .cons rfl R
  exact this b
 ·rw [Ac] at d;cases w:b[i]? with
  | none=>rw [w] at d;cases d
  | some y=>rw [w] at d;cases d;exact TKv.get pt w v
end
end Bs
namespace Bs
open PySem PySem.Spec PyProof.Rows L2
section
variable {X:Cx} {pins:dh} {σ:L2.St} {H:Hp} {s:Shared} {N:dt} {capt:List (Option Nat)} {scope:Scope} {cl:List (Str×Addr)} {C:Addr} {fp:dw}
def Kx:TT:=λ_ H Q=>Q true H
def cH (X:Cx) (cs:dj) (tc:TT):Prop:=∀ (pins:dh) (s:Shared) (σ:L2.St) (H:Hp) (Q:Bool->Hp->Prop),Inv X pins σ H s->tc σ H Q->
 wpAny (model X.prog X.w) X.A (forIn cs true λc r=>if r=true then do let ok <-isTrue c X.env (eval c X.env);pure (ForInStep.yield ok) else pure (ForInStep.yield r)) (λb d=>∃ a,Inv X pins σ a d/\Q b a) X.xe s
def OQ {X:Cx}:cH X [] Kx:=λ_ s _ H _ I h=>wpAny_tests_nil ⟨H,I,h⟩
def OR {X:Cx} {c:Expr} {tc:TT} (h:L2.PT X c tc):cH X [c] tc:=λpins s σ H Q I q=>wpAny_tests_one (h pins s σ H Q I q)
theorem YY {prog:Program} {w:World} {A:Around} {R:Result->Shared->Prop} {s:Shared} {y a i:Expr} {cs:dj} {scope:Scope} {pos:Pos} {L z:Value} {b:Env} (I:Nat->Shared->Prop)
  (E:∀ n s,I n s->wpAny (model prog w) A (pyNext L) (λr d=>match r with
   | none=>R (.ok .next) d
   | some v=>wpAny (model prog w) A (letOwnedTupleGo a L v) (λ_ j=>wpAny (model prog w) A (assign a b v) (λ_ k=>wpAny (model prog w) A (forIn cs true λc r=>if r=true then do let ok <-isTrue c b (eval c b);pure (ForInStep.yield ok) else pure (ForInStep.yield r)) (λB g=>if B=true then wpAny (model prog w) A (eval y b) (λx o=>
     wpAny (model prog w) A (call (.builtin "list.append") [z,x]) (λ_ p=>∃ m,m<n/\I m p) (λ_ _=>False) o) (λ_ _=>False) g else ∃ m,m<n/\I m g) (λ_ _=>False) k) (λ_ _=>False) j) (λ_ _=>False) d) (λ_ _=>False) s)
  (n:Nat) (h:I n s):codeAny (model prog w) A (.compLoop (.ListComp y [⟨a,i,cs,0⟩] scope pos) 0 L z b) R s:=by
 refine codeAny_loop rfl I (λn s O=>?_) n h;show wpAny _ A ((compTurn (.ListComp y [⟨a,i,cs,0⟩] scope pos) 0 L z b).onRaise (λx=>do noteFrame x b;theTreesLotGoes x)) _ _ s;refine wpAny_noted ?_;rw [compTurn_list];have D:∀ {P:de} (e:Value) (M:Shared),(λ(_:Value) (_:Shared)=>False) e M->P e M:=λ_ _ f=>f.elim;refine mC (wpAny_standAt (mC (mE (E n s O) (λr d q=>?_) D)));cases r with
 | none=>exact mD q
 | some v=>
   refine mC (mE q (λ_ j F=>?_) D);refine mC (mE F (λ_ g G=>mC (mE G (λB k u=>?_) D)) D);cases B with
   | false=>exact mD ⟨rfl,u⟩
   | true=>exact mC (mC (mE u (λx o J=>mC (mE J (λ_ p K=>mD (mD ⟨rfl,K⟩)) D)) D))
def Ky {a4 A tg:Expr} {cs:dj} {tc:TT} {pos:Pos} {wi:TI} {g:TG} {te:TE} {pins:dh} {s:Shared} {σ:L2.St} {H:Hp} {Q:VK} (RR:Value->Addr->Result->Shared->Prop) (hc:X.calm=true) (B:BlkOk X N capt scope cl) (hi:PI X tg A wi)
  (hg:∀ C s H fp,PG (S_ X N scope cl C s H fp) tg g) (ht:∀ C s H fp,cH (S_ X N scope cl C s H fp) cs tc) (he:∀ C s H fp,PE (S_ X N scope cl C s H fp) a4 te) (I:Inv X pins σ H s) (h:FK wi capt g tc te σ H Q)
  (bd:∀ (D C:Addr) (Z:Shared) (Hq:Hp) (m:di),Inv X pins σ Hq Z->Q (.ref D) Hq->Z.heap.Ns C m->Hq C=none->C≠X.env.locals->X.s₀.heap.objs.size<=C->(∀ x c,X.env.cells.lookup x=some c->c≠C)->(∀ p∈X.pn++pins,p.1≠C)->RR (.ref D) C (.ok .next) Z) :
  wpAny (model X.prog X.w) X.A (eval A X.env) (λx ab=>wpAny (model X.prog X.w) X.A (pyIter x) (λit aj=>wpAny (model X.prog X.w) X.A (newList []) (λal am=>
   wpAny (model X.prog X.w) X.A (newFunctionEnv scope X.env.globals cl [] X.env.qual none .none (some X.env)) (λa0 an=>
    codeAny (model X.prog X.w) X.A (.compStart (.ListComp a4 [⟨tg,A,cs,0⟩] scope pos) 0 it al { a0 with scope:=relabel scope X.env }) (RR al a0.locals) an) X.xe am) X.xe aj) X.xe ab) X.xe s:=by
 refine F_ (hi pins s σ H _ I h) λv s1 h1=>F_ h1 λbq d h2=>?_;obtain ⟨it,fp,tn,J,M,e,E,T,a5,S,n0,W,w0,ao⟩:=h2;subst e;have fl:∀ b∈fp,b<d.heap.objs.size:=λb a=>by obtain ⟨o,e,_⟩:=T.obj _ _ a5 b a;exact mG e
 refine wpAny_newObj_type (wpAny_newFunctionEnv B.nocell (by intro y hy;simp at hy) (λF w j=>?_) B.kind);dsimp only at w j ⊢;generalize hG:d.heap.push { cls:=.type "list", dict:=none,data:=.seq ([]:dc).toArray }=G at w j ⊢;have hC:G.objs.size=d.heap.objs.size+1:=by rw [<-hG,Heap.size_push]
 have K:d.heap.objs.size<=G.objs.size:=by rw [hC];exact Nat.le_succ _
 have U:d.heap.objs.size≠G.objs.size:=by rw [hC];exact BI (Di _)
 have a6:∀ b o,d.heap.get? b=some o->F.get? b=some o:=λb o e=>j.extBut b o (by rw [hC];exact BI (Nat.lt_succ_of_lt (mG e))) (Heap.get?_push_of_some _ (hG ▸ Heap.get?_push_of_some _ e));have ap:F.get? d.heap.objs.size=some { cls:=.type "list", data:=.seq ([]:dc).toArray }:=j.extBut _ _ U (Heap.get?_push_of_some _ (hG ▸ Heap.get?_push_size _ rfl));have a7:=Nr B E S fl K
 have bf:d.heap.objs.size∉ak X.stack:=λa=>by
  rcases Bc.mp (E.stkSub _ a) with z | z
  ·exact absurd E.lt (by rw [<-z];exact DF _)
  ·exact E.nofs (AR _) z
 have bg:∀ x c,cl.lookup x=some c->c≠d.heap.objs.size:=λx c e z=>by
  obtain ⟨v,q⟩:=E.cell x c (B.cells x c e);exact absurd q.lt (by rw [z];exact DF _)
 have ar:∀ b∈fp,d.heap.objs.size≠b:=λb a z=>absurd (fl b a) (by rw [<-z];exact DF _);have b0:Inv (S_ X N scope cl G.objs.size d M fp) [] (Cm capt σ) M { d with heap:=F,toks:=d.toks+([]:List (Str×Value)).length }:=Xk B E S fl K w a6
 have a3:codeAny (model X.prog X.w) X.A (.compLoop (.ListComp a4 [⟨tg,A,cs,0⟩] scope pos) 0 (.ref it) (.ref d.heap.objs.size) (compEnvC scope cl G.objs.size X.env))
   (RR (.ref d.heap.objs.size) G.objs.size) { d with heap:=F,toks:=d.toks+([]:List (Str×Value)).length }:=by
  refine YY (λn s'=>∃ (i:Nat) (Y:c_) (f:dc) (k:Nat) (O:Hp),Inv (S_ X N scope cl G.objs.size d M fp) [] (Cm capt σ) O s'/\s'.heap.get? d.heap.objs.size=some { cls:=.type "list", data:=.seq f.toArray k }/\Vals Y f/\
   O d.heap.objs.size=none/\tn i s'.heap/\(∀ b∈fp,O b=none)/\W i Y O/\n=n0 - i) ?_ n0 ⟨0,[],[],0,M,b0,ap,.nil,E.hok.fresh (AR _),T.keep _ _ _ a5 (λb _ o e=>a6 b o e),λb a=>(S b a).1,w0,rfl⟩
  rintro n s3 ⟨i,Y,f,k,O,I3,hD,hv,nD,b1,b2,w3,en⟩;obtain ⟨_,hl,b3⟩:=ao i Y O w3;have hz:f.toArray.size<=sizeLine:=by rw [BJ,<-hv.length];exact hl
  have b4:Inv (S_ X N scope cl G.objs.size d M fp) [(d.heap.objs.size,{ cls:=.type "list", data:=.seq f.toArray k })] (Cm capt σ) O s3:=I3.pins_of λp hp=>by
   rw [Aw] at hp;subst hp;exact ⟨hD,nD,U,bf,λv z=>nomatch z⟩
  have a8:∀ {Hx:Hp} (_:∀ b∈fp,Hx b=none),∀ b∈fp,DL (S_ X N scope cl G.objs.size d M fp) [(d.heap.objs.size,{ cls:=.type "list", data:=.seq f.toArray k })] Hx b:=λhx b a=>
   ⟨hx b a,(a7.exf b a).1,a7.exfs b a,.inl a,(a7.exf b a).2,λp hp=>by
    have b5:p∈[((d.heap.objs.size,{ cls:=.type "list", data:=.seq f.toArray k }):Addr×Obj)]:=hp;rw [Aw] at b5;subst b5;exact ar b a⟩
  rcases b3 with ⟨b6,q⟩ | ⟨br,go,bi⟩
  ·refine F_ (T.done (S_ X N scope cl G.objs.size d M fp) rfl rfl rfl hc i _ s3 _ O _ b4 (a8 b2) b1 b6) λr Z ⟨hr,I4⟩=>?_;subst hr;have bj:=(I4.pin (d.heap.objs.size,{ cls:=.type "list", data:=.seq f.toArray k }) (C4 _ (Aw.mpr rfl))).1;obtain ⟨m,hn,_⟩:=I4.loc;have P:∀ b u,O b=some u->b≠d.heap.objs.size:=λb u e z=>by rw [z,nD] at e;cases e
   have b7:∀ b o,d.heap.get? b=some o->b≠d.heap.objs.size:=λb o e=>BI (mG e);have ub:Un (ak X.stack) fp M O d.heap Z.heap:=I4.base;have cC:∀ b,b<d.heap.objs.size->b≠G.objs.size:=λb a z=>absurd (CF a K) (by rw [z];exact DF _)
   refine bd _ G.objs.size Z (upd O d.heap.objs.size (.lst Y)) m ?_ (q _ nD) hn (by rw [Ad (λz=>U z.symm)];exact I4.free) (λz=>cC _ E.lt z.symm) (Bg E.sz K)
    (λx c e=>by obtain ⟨v,q⟩:=E.cell x c e;exact cC _ q.lt) λp hp=>cC _ (mG (E.pin p hp).1)
   refine E.call' (ch:=fp) (s':=Z) I4.os ?_ ?_ I4.bare λb a=>⟨(S b a).2.2.2.1,(S b a).2.1,(S b a).2.2.2.2.1,(S b a).2.2.2.2.2⟩
   ·refine ⟨ub.keep,ub.slot,λb o e n hx=>?_,ub.there,λb xs e=>?_,λb o u e=>?_,λb ps e=>?_⟩
    ·rw [Ad (b7 b o e)];exact ub.free b o e n hx
    ·have z:=ub.tups b xs e;rw [Ad (P b _ z)];exact z
    ·have z:=ub.frzs b o u e;rw [Ad (P b _ z)];exact z
    ·obtain ⟨b9,z⟩:=ub.tbls b ps e;exact ⟨b9,by rw [Ad (P b _ z)];exact z⟩
   ·intro b u e;by_cases a:b=d.heap.objs.size
    ·subst a;rw [upd_same] at e;cases e;exact ⟨hl,f,k,hv,bj⟩
    ·rw [Ad a] at e;exact (I4.hok b u e).stay (λc v _ q=>q) (λc q=>by rw [Ad (P c _ q)];exact q) λc xs q=>by rw [Ad (P c _ q)];exact q
  ·refine F_ (T.item (S_ X N scope cl G.objs.size d M fp) rfl rfl rfl hc i _ s3 _ O _ b4 (a8 b2) b1 go) λr Z ⟨u,hr,h4⟩=>?_;subst hr;refine F_ h4 λ_ s5 ⟨x,H5,I5,r5,y5,R,bR⟩=>?_;have bk:=I5.pinned (a8 bR) (T.obj _ _ R);refine F_ (hg _ _ _ _ _ s5 _ H5 x u _ bk r5 (bi x H5 y5)) λ_ s6 ⟨L,H6,I6,q6⟩=>?_;refine F_ (ht _ _ _ _ _ s6 L H6 _ I6 q6) λbl s9 ⟨H9,I9,q9⟩=>?_
   have ba:∀ b∈fp,∀ o,s5.heap.get? b=some o->s9.heap.get? b=some o/\H9 b=none:=λb a o e=>by
    have z:=I9.pin (b,o) (C4 _ (C4 _ (JE a e)));exact ⟨z.1,z.2.1⟩
   cases bl with
   | false=>
     have w9:W (i+1) Y H9:=q9;have bb:=I9.pin (d.heap.objs.size,{ cls:=.type "list", data:=.seq f.toArray k }) (C4 _ (F7 _ (Aw.mpr rfl)));have bm:Inv (S_ X N scope cl G.objs.size d M fp) [] L H9 s9:=I9.pins_of λp hp=>nomatch hp
     exact ⟨n0 - (i+1),⋯,i+1,Y,f,k,H9,Nt B E S bm,bb.1,hv,bb.2.1,T.keep _ _ _ R (λb a o e=>(ba b a o e).1),(λb a=>by
      obtain ⟨o,e,_⟩:=T.obj _ _ R b a;exact (ba b a o e).2),w9,rfl⟩
   | true=>
   replace q9:te L H9 λy H4=>W (i+1) (Y++[y]) H4:=q9;refine F_ (he _ _ _ _ _ s9 L H9 _ I9 q9) λuy s7 ⟨y,H7,I7,r7,w7⟩=>?_;have pD:=I7.pin (d.heap.objs.size,{ cls:=.type "list", data:=.seq f.toArray k }) (C4 _ (F7 _ (Aw.mpr rfl)))
   have pF:∀ b∈fp,∀ o,s5.heap.get? b=some o->s7.heap.get? b=some o/\H7 b=none:=λb a o e=>by
    have z:=I7.pin (b,o) (C4 _ (C4 _ (JE a e)));exact ⟨z.1,z.2.1⟩
   refine append_at (hsz:=hz) pD.1 λh8 bc bn=>?_;have bp:Inv (S_ X N scope cl G.objs.size d M fp) [] L H7 s7:=I7.pins_of λp hp=>nomatch hp;have I8:Inv (S_ X N scope cl G.objs.size d M fp) [] L H7 { s7 with heap:=h8,toks:=s7.toks }:=bp.turned (λb o a e=>bc.extBut b o a e) pD.2.1 U (.inr (AR _)) bg (λp hp=>nomatch hp);refine ⟨n0 - (i+1),⋯,i+1,Y++[y],f++[uy],k+1,H7,Nt B E S I8,?_,Paired.snoc hv r7,pD.2.1,T.keep _ _ _ R (λb a o e=>bc.extBut b o (ar b a).symm (pF b a o e).1),λb a=>?_,w7,rfl⟩
   ·show h8.get? _=_;rw [bn,List.push_toArray]
   ·obtain ⟨o,e,_⟩:=T.obj _ _ R b a;exact (pF b a o e).2
 exact codeAny_compStart_list a3 (T.self X.A 0 _ _ _ (T.keep _ _ _ a5 (λb _ o e=>a6 b o e)) a3)
def Cn {c a d:Expr} {pos:Pos} {f:TI} {g:TG} {i:TE} (k:X.calm=true) (B:BlkOk X N capt scope cl) (n:PI X d a f)
  (p:∀ C s H fp,PG (S_ X N scope cl C s H fp) d g) (r:∀ C s H fp,PE (S_ X N scope cl C s H fp) c i)
  (u:∀ x,foldedSetIterable a X.env x=pure x:=by intro _;rfl):PE X (.ListComp c [⟨d,a,[],0⟩] scope pos) (BU f capt g i):=by
 intro pins s σ H Q I h;rw [eval_ListComp];refine wpAny_comprehension_free (use:=none) rfl u B.clos B.kind B.names (Ky (cs:=[]) (tc:=Kx) (λj C=>compPost (model X.prog X.w) X.A X.xe none (EP X pins σ Q) j C) k B n p (λ_ _ _ _=>OQ) r I (show FK f capt g Kx i σ H _ from h) λD C L v m w q y z A E F G=>?_);exact ⟨m,y,λM J=>⟨.ref D,v,w.turned (λb o K e=>J.extBut b o K e) z A (.inr E) F G,rfl,q⟩⟩
def OS {i:Nat} {x:Str} {c j:Pos} {f d k:Expr} {cs:dj} {tc:TT} {pos:Pos} {A:TI} {g:TG} {E:TE} (J:X.N.Nodup) (p:X.N[i]?=some x) (K:aR X.env.scope x) (L:X.calm=true) (B:BlkOk X N capt scope cl) (M:PI X k d A)
  (O:∀ C s H fp,PG (S_ X N scope cl C s H fp) k g) (P:∀ C s H fp,cH (S_ X N scope cl C s H fp) cs tc) (R:∀ C s H fp,PE (S_ X N scope cl C s H fp) f E)
  (r:swapsWith (.ListComp f [⟨k,d,cs,0⟩] scope pos) (some (.Name x c)) j.line X.env=pure true)
  (S:∀ x,foldedSetIterable d X.env x=pure x) (T:X.fn x=true\/X.env.scope.names.lookup x=some .local) :
  PS X (.Assign [.Name x c] (.ListComp f [⟨k,d,cs,0⟩] scope pos) j) (AM (FK A capt g tc E) (AE i)):=by
 intro pins s σ H D I h;rw [exec_Assign_Name_used _ _ _ _ r];refine mC (wpAny_standAt (mC ?_));show wpAny _ X.A (do let _ <-comprehension (.ListComp f [⟨k,d,cs,0⟩] scope pos) scope X.env _ (newList []) false (eval d X.env) (some (assign (.Name x c) X.env))) _ _ s
 refine mC (mE (wpAny_comprehension_free (use:=some (assign (.Name x c) X.env)) (Q:=λ_ n=>SP X pins D .next n) rfl S B.clos B.kind B.names
  (Ky (λu C=>compPost (model X.prog X.w) X.A X.xe (some (assign (.Name x c) X.env)) (λ_ n=>SP X pins D .next n) u C) L B M O P R I h λDa C s4 Hq m U q W w F Y G Z=>?_)) (λ_ n hq=>mD (mD hq)) λ_ _ e=>e)
 show wpAny _ X.A (assign (.Name x c) X.env (.ref Da)) _ _ _;refine wpAny_assign_Name (M9 U J p K (v:=.ref Da) rfl (λs5 I5 ⟨a,y,ha⟩=>⟨m,W.sameBut y ?_,λh' sb=>⟨_,_,I5.turned (λb o hb e=>sb.extBut b o hb e) w F (.inr Y) G Z,q⟩⟩) T);rcases ha with z | z
 ·rw [z];exact F
 ·exact λe=>G x a z e.symm
def GP {i:Nat} {x:Str} {b c:Pos} {d a e:Expr} {pos:Pos} {j:TI} {g:TG} {k:TE} (m:X.N.Nodup) (f:X.N[i]?=some x) (n:aR X.env.scope x) (o:X.calm=true) (B:BlkOk X N capt scope cl) (p:PI X e a j)
  (q:∀ C s H fp,PG (S_ X N scope cl C s H fp) e g) (r:∀ C s H fp,PE (S_ X N scope cl C s H fp) d k)
  (h:swapsWith (.ListComp d [⟨e,a,[],0⟩] scope pos) (some (.Name x b)) c.line X.env=pure true:=by rfl)
  (u:∀ x,foldedSetIterable a X.env x=pure x:=by intro _;rfl) (v:X.fn x=true\/X.env.scope.names.lookup x=some .local:=by first | exact .inl rfl | exact .inr rfl | assumption) :
  PS X (.Assign [.Name x b] (.ListComp d [⟨e,a,[],0⟩] scope pos) c) (AM (BU j capt g k) (AE i)):=
 OS m f n o B p q (λC s H fp=>OQ) r h u v
def YZ {i:Nat} {x:Str} {b d:Pos} {e a f c:Expr} {tc:TT} {pos:Pos} {k:TI} {g:TG} {m:TE} (n:X.N.Nodup) (h:X.N[i]?=some x) (o:aR X.env.scope x) (p:X.calm=true) (B:BlkOk X N capt scope cl) (q:PI X f a k)
  (r:∀ C s H fp,PG (S_ X N scope cl C s H fp) f g) (u:∀ C s H fp,L2.PT (S_ X N scope cl C s H fp) c tc) (v:∀ C s H fp,PE (S_ X N scope cl C s H fp) e m)
  (j:swapsWith (.ListComp e [⟨f,a,[c],0⟩] scope pos) (some (.Name x b)) d.line X.env=pure true:=by rfl)
  (w:∀ x,foldedSetIterable a X.env x=pure x:=by intro _;rfl) (y:X.fn x=true\/X.env.scope.names.lookup x=some .local:=by first | exact .inl rfl | exact .inr rfl | assumption) :
  PS X (.Assign [.Name x b] (.ListComp e [⟨f,a,[c],0⟩] scope pos) d) (AM (FK k capt g tc m) (AE i)):=
 OS n h o p B q r (λC s H fp=>OR (u C s H fp)) v j w y
def Yb {d a f c:Expr} {tc:TT} {pos:Pos} {j:TI} {g:TG} {k:TE} (n:X.calm=true) (B:BlkOk X N capt scope cl) (p:PI X f a j)
  (r:∀ C s H fp,PG (S_ X N scope cl C s H fp) f g) (u:∀ C s H fp,L2.PT (S_ X N scope cl C s H fp) c tc) (v:∀ C s H fp,PE (S_ X N scope cl C s H fp) d k)
  (w:∀ x,foldedSetIterable a X.env x=pure x:=by intro _;rfl):PE X (.ListComp d [⟨f,a,[c],0⟩] scope pos) (FK j capt g tc k):=by
 intro pins s σ H Q I h;rw [eval_ListComp];refine wpAny_comprehension_free (use:=none) rfl w B.clos B.kind B.names (Ky (λi C=>compPost (model X.prog X.w) X.A X.xe none (EP X pins σ Q) i C) n B p r (λC s H fp=>OR (u C s H fp)) v I h λD C O y m z q A E F G J K=>?_);exact ⟨m,A,λP L=>⟨.ref D,y,z.turned (λb o M e=>L.extBut b o M e) E F (.inr G) J K,rfl,q⟩⟩
end
section
variable {X:Cx}
def xI {r:R2} {a:Expr} {b:TE} {n:Int} {j} {q pos:Pos} (c:aU X r) (d:PE X a b):PE X (.Subscript a (.Constant (.int n) j q) pos) (A_ r b (tC (.int n))):=A9 c d AF (λ_ _=>rfl)
def C' {i:Nat} {x:Str} {e:Expr} {b:TE} {a pos:Pos} (c:X.N.Nodup) (d:PE X e b) (f:X.N[i]?=some x:=by rfl) (g:aR X.env.scope x:=by exact .inl rfl) (h:swapsWith e (some (.Name x a)) pos.line X.env=pure false:=by rfl) (j:X.fn x=true\/X.env.scope.names.lookup x=some .local:=by first | exact .inl rfl | exact .inr rfl):PS X (.Assign [.Name x a] e pos) (AM b (AE i)):=DK c f g d h j
def cR {c:CmpOp} {r:R2} {a b:Expr} {d e:TE} {pos:Pos} (f:OpR X (compareOp c) r) (g:PE X a d) (h:PE X b e) (i:behindInMarks c b=false:=by exact T_ _):L2.PT X (.Compare a [c] [b] pos) (Aq (A_ r d e)):=NM f g h i
variable {n m:Nat} {x:Str} {ps:dt} {sp:Sp} {a b c:Expr} {ta tb tc:TE} {p pos:Pos} (C:Cal X.prog X.w X.K X.mg X.base n x ps sp) (hr:Room m X.A)
include C hr
theorem Cal.q1 (e:PE X a ta) (f:n<=m:=by decide) (g:Gl X x:=by rfl) (h:(x == ("__debug__" : Str))=false:=by decide) (d:starEach [a] X.env=(false,eval a X.env)::starEach [] X.env:=by rfl):PE X (.Call (.Name x p) [a] [] pos) (AK sp [] E0 (AB ta AC)):=C.pe hr f g (AD e AH d) h d rfl
theorem Cal.q2 (e:PE X a ta) (f:PE X b tb) (g:n<=m:=by decide) (h:Gl X x:=by rfl) (i:(x == ("__debug__" : Str))=false:=by decide) (d:starEach [a,b] X.env=(false,eval a X.env)::starEach [b] X.env:=by rfl) (j:starEach [b] X.env=(false,eval b X.env)::starEach [] X.env:=by rfl) (hp:(backTo pos (starEach [b] X.env)).any (·.1)=false:=by rfl):PE X (.Call (.Name x p) [a,b] [] pos) (AK sp [] E0 (AB ta (AB tb AC))):=C.pe hr g h (AD e (AD f AH j) d) i d hp
theorem Cal.q3 (e:PE X a ta) (f:PE X b tb) (g:PE X c tc) (h:n<=m:=by decide) (i:Gl X x:=by rfl) (j:(x == ("__debug__" : Str))=false:=by decide) (d:starEach [a,b,c] X.env=(false,eval a X.env)::starEach [b,c] X.env:=by rfl) (k:starEach [b,c] X.env=(false,eval b X.env)::starEach [c] X.env:=by rfl) (o:starEach [c] X.env=(false,eval c X.env)::starEach [] X.env:=by rfl) (hp:(backTo pos (starEach [b,c] X.env)).any (·.1)=false:=by rfl):PE X (.Call (.Name x p) [a,b,c] [] pos) (AK sp [] E0 (AB ta (AB tb (AB tc AC)))):=C.pe hr h i (AD e (AD f (AD g AH o) k) d) j d hp
end
end Bs
namespace Bs
open PySem L2
noncomputable def FN (kvs:List (List D_×V)) (k:List D_):d7:=(kvs.find? λa=>a.1=k).map (·.2)
def gDT:R2:=λx y H Q=>∃ p b c a v,x=.ref p/\y=.ref b/\H b=some (.tup (List.map kV c))/\H p=some (.dT a)/\FN a c=some v/\Q v H
def Kz:V->c_->Hp->VK->Prop:=λx d H Q=>∃ p b c a v,x=.ref p/\d=[.ref b,v]/\H b=some (.tup (List.map kV c))/\H p=some (.dT a)/\Q ((FN a c).getD v) H
end Bs
namespace Bs
open PySem PySem.Spec PySem.Calls PyProof.Rows L2
theorem TKv.look {H:Hp} {k:List D_}:∀ {kvs:List (List D_×V)} {xs:List (List D_×Addr×Value)},TKv H kvs xs->(FN kvs k=none/\atKey xs k=none)\/∃ v p,FN kvs k=some v/\atKey xs k=some p/\RelV v p.2
 | _,_,.nil=>.inl ⟨rfl,rfl⟩
 | _,_,.cons (a:=p) (b:=q) h t=>by
   unfold FN atKey;rw [List.find?_cons,List.find?_cons,<-h.1];by_cases c:p.1=k
   ·rw [nW c];exact .inr ⟨_,_,rfl,rfl,h.2.2⟩
   ·rw [nY c];exact TKv.look t
section
variable {X:Cx}
def Yc (G:X.A.units+64<cLine):aU X gDT:=by
 intro d f a s i H x y v u Q I j n h o;obtain ⟨p,b,w,A,z,rfl,rfl,B,hp,c,q⟩:=h;cases j;cases n;obtain ⟨_,J,K,r,m⟩:=JY I hp;rcases TKv.look (k:=w) r with ⟨e,_⟩ | ⟨v,g,C,D,E⟩
 ·rw [e] at c;cases c
 ·rw [C] at c;cases c
  exact subscriptTail_builtinR (x:=g.2) m.typeIs slot_dict_getitem.lookup
   (wpAny_getItem_heap (Q:=λr F=>r=g.2/\EP X a i Q r F) (tupleKind_room_in1 ⋯) (JX I B) m D ⟨rfl,z,H,I.tok _,E,q⟩) o
def Yd (B:X.A.units+64<cLine):bH X "dict.get" Kz:=by
 intro e s C H x D v E Q I g a h;obtain ⟨p,b,f,i,z,rfl,rfl,j,hp,q⟩:=h;cases g;obtain ⟨u,n,rfl,o,w⟩:=a.two;cases o;obtain ⟨_,y,A,r,m⟩:=JY I hp;refine call_meetsIn PySem.F.slot_dict_get m.typeIs PySem.F.entry_dict_get (PySem.F.args_dict_get_3 _ _ _) (meetsH_dict_get_default (tupleKind (Dk X.prog X.w)) p b y n) ⟨tupleKind_room_in1 ⋯,f,A,JX I j,m,?_⟩;rcases TKv.look (k:=f) r with ⟨c,d⟩ | ⟨v,F,c,d,a⟩
 ·rw [c] at q;rw [d];exact ⟨z,H,I.tok _,w,q⟩
 ·rw [c] at q;rw [d];exact ⟨v,H,I.tok _,a,q⟩
end
end Bs
namespace Bs
open PySem PySem.W PyProof.Rows
noncomputable def Tw {b:Type} (c:Nat->Nat->Bool) (N:Nat) (Q:b->Prop):KasT b->Prop
 | .ret a=>Q a
 | .ask i j f=>i<N/\j<N/\i≠j/\Tw c N Q (f (c i j))
theorem Tw.bind {b d:Type} {c:Nat->Nat->Bool} {N:Nat} {Q:d->Prop} {R:b->Prop} {f:b->KasT d} (e:∀ a,R a->Tw c N Q (f a)):∀ (t:KasT b),Tw c N R t->Tw c N Q (t.bind f)
 | .ret a,h=>e a h
 | .ask i j g,h=>⟨h.1,h.2.1,h.2.2.1,Tw.bind e (g (c i j)) h.2.2.2⟩
theorem Tw.wp {e:Type} {c:Nat->Nat->Bool} {N:Nat} {Q:e->Prop} {G:e->Shared->Prop} {I:Shared->Prop} {b:Nat->Nat->(Bool->Shared->Prop)->Shared->Prop} (f:∀ i j C s,i<N->j<N->i≠j->I s->(∀ d,I d->C (c i j) d)->b i j C s) (k:∀ a s,Q a->I s->G a s):∀ (t:KasT e) (s:Shared),Tw c N Q t->I s->t.kasWp b G s
 | .ret a,s,h,i=>k a s h i
 | .ask i j g,s,h,m=>f i j _ s h.1 h.2.1 h.2.2.1 m λd n=>Tw.wp f k (g (c i j)) d h.2.2.2 n
theorem K0 {b:Type} {c:Nat->Nat->Bool} {N:Nat} {Q R:b->Prop} (h:∀ a,R a->Q a):∀ (t:KasT b),Tw c N R t->Tw c N Q t
 | .ret a,x=>h a x
 | .ask i j g,x=>⟨x.1,x.2.1,x.2.2.1,K0 h (g (c i j)) x.2.2.2⟩
section
variable {k:dC} {N:Nat} {p:Array Nat}
noncomputable def kc (k:dC) (i j:Nat):Bool:=decide (k i<k j)
noncomputable def kp (k:dC) (p:Array Nat) (i:Nat):Int:=k (p.getD i 0)
def So (k:dC) (p:Array Nat) (m:Nat):Prop:=∀ i j,i<j->j<m->kp k p i<kp k p j
def De (k:dC) (p:Array Nat) (m:Nat):Prop:=∀ i j,i<j->j<m->kp k p j<kp k p i
def Pm (N:Nat) (p:Array Nat):Prop:=p.Perm (List.range N).toArray
def Pm.size (h:Pm N p):p.size=N:=by rw [Array.Perm.size_eq h,BJ,Bm]
def Pm.lst (h:Pm N p):p.toList.Perm (List.range N):=by have:=Array.Perm.toList h;simpa using this
def IJ {p:Array Nat} {i:Nat} (h:i<p.size):p.getD i 0=p.toList[i]'(by simpa using h):=by simp [Array.getD,h]
def Pm.lt (h:Pm N p) {i:Nat} (a:i<N):p.getD i 0<N:=by
 rw [IJ (by rw [h.size];exact a)];exact B9.mp (h.lst.mem_iff.mp (DH _))
def Pm.ne (h:Pm N p) {i j:Nat} (a:i<N) (b:j<N) (n:i≠j):p.getD i 0≠p.getD j 0:=by
 rw [IJ (by rw [h.size];exact a),IJ (by rw [h.size];exact b)];intro e;exact n ((List.getElem_inj (h.lst.nodup_iff.mpr List.nodup_range)).mp e)
def K1 (h:Pm N p) (a:∀ i j,i<N->j<N->i≠j->k i≠k j) {i j:Nat} (b:i<N) (d:j<N) (n:i≠j) (c:¬ kp k p i<kp k p j):kp k p j<kp k p i:=by
 have:=a _ _ (h.lt b) (h.lt d) (h.ne b d n);unfold kp at *;omega
def So.succ {m:Nat} (h:So k p m) (l:0<m->kp k p (m - 1)<kp k p m):So k p (m+1):=λi j a b=>by
 by_cases c:j<m
 ·exact h i j a c
 ·have e:j=m:=by omega
  subst e;by_cases d:i=j - 1
  ·rw [d];exact l ⋯
  ·exact Int.lt_trans (h i (j - 1) ⋯ ⋯) (l ⋯)
def De.succ {m:Nat} (h:De k p m) (l:0<m->kp k p m<kp k p (m - 1)):De k p (m+1):=λi j a b=>by
 by_cases c:j<m
 ·exact h i j a c
 ·have e:j=m:=by omega
  subst e;by_cases d:i=j - 1
  ·rw [d];exact l ⋯
  ·exact Int.lt_trans (l ⋯) (h i (j - 1) ⋯ ⋯)
theorem K2 (P:Pm N p) (e:∀ i j,i<N->j<N->i≠j->k i≠k j):∀ (f n:Nat),1<=n->n+f<=N->So k p n->Tw (kc k) N (λm=>n<=m/\m<=n+f/\So k p m/\(m=n+f\/kp k p m<kp k p (m - 1))) (kas_asc p f n)
 | 0,n,_,_,h=>⟨AR _,AR _,h,.inl rfl⟩
 | f+1,n,g,o,h=>by
   refine ⟨P.lt ⋯,P.lt ⋯,P.ne ⋯ ⋯ ⋯,?_⟩;show Tw _ _ _ (if kc k _ _=true then _ else _);by_cases c:kp k p n<kp k p (n - 1)
   ·rw [nV (show kc k _ _=true from nW c)];exact ⟨AR _,⋯,h,.inr c⟩
   ·rw [nU (by unfold kc;rw [decide_eq_true_eq];exact c)];have:=K2 P e f (n+1) ⋯ ⋯ (h.succ λ_=>K1 P e ⋯ ⋯ ⋯ c);exact K0 (λm ⟨a,b,c,d⟩=>⟨⋯,⋯,c,by rcases d with d | d;exact .inl ⋯;exact .inr d⟩) _ this
def JZ {p q:Array Nat} {i j:Nat} (h:p[i]?=q[j]?):kp k p i=kp k q j:=by
 unfold kp;rw [Array.getD_eq_getD_getElem?,Array.getD_eq_getD_getElem?,h]
theorem OT (P:Pm N p) (g:∀ i j,i<N->j<N->i≠j->k i≠k j):∀ (f n:Nat),1<=n->n+f<=N->De k p n->Tw (kc k) N (λr=>r.1=p/\r.2.2=0/\n<=r.2.1/\r.2.1<=n+f/\De k p r.2.1) (kas_desc f p n 0)
 | 0,n,_,_,h=>⟨rfl,rfl,AR _,AR _,h⟩
 | f+1,n,o,q,h=>by
   refine ⟨P.lt ⋯,P.lt ⋯,P.ne ⋯ ⋯ ⋯,?_⟩;show Tw _ _ _ (if kc k _ _=true then _ else _);by_cases c:kp k p n<kp k p (n - 1)
   ·rw [nV (show kc k _ _=true from nW c),nU ∅];exact K0 (λm ⟨a,b,c,d,e⟩=>⟨a,b,⋯,⋯,e⟩) _ (OT P g f (n+1) ⋯ ⋯ (h.succ λ_=>c))
   ·rw [nU (by unfold kc;rw [decide_eq_true_eq];exact c)];refine ⟨P.lt ⋯,P.lt ⋯,P.ne ⋯ ⋯ ⋯,?_⟩;show Tw _ _ _ (if kc k _ _=true then _ else _);rw [nV (show kc k _ _=true from nW (K1 P g ⋯ ⋯ ⋯ c))];exact ⟨rfl,rfl,AR _,by show n<=n+(f+1);omega,h⟩
def OU (P:Pm N p) (n:Nat):Pm N (kas_rev p 0 n):=(mirror_perm _ _ _ _).trans P
def Ye (P:Pm N p) {n:Nat} (a:n<=N) (h:De k p n):So k (kas_rev p 0 n) n:=λi j b c=>by
 have e:∀ i,i<n->kp k (kas_rev p 0 n) i=kp k p (n - 1 - i):=λi d=>JZ (by
  unfold kas_rev;rw [getElem?_mirror_all (by rw [P.size];exact a),nV ⟨Ae _,d⟩,Nat.zero_add])
 rw [e i ⋯,e j c];exact h _ _ ⋯ ⋯
def Ct (k:dC) (N:Nat) (r:Nat×Array Nat):Prop:=Pm N r.2/\So k r.2 r.1/\1<=r.1/\r.1<=N
def Yg (P:Pm N p) (d:∀ i j,i<N->j<N->i≠j->k i≠k j) {n:Nat} (e:1<=n) (f:n<=N) (h:De k p n):Tw (kc k) N (Ct k N) (kas_tail3 n N p):=
 Tw.bind (λm ⟨a,b,c,_⟩=>⟨OU P n,c,⋯,⋯⟩) _ (K2 (OU P n) d (N - n) n e ⋯ (Ye P f h))
def Yh (P:Pm N p) (f:∀ i j,i<N->j<N->i≠j->k i≠k j) (h:2<=N):Tw (kc k) N (Ct k N) (kas_count N p):=by
 refine Tw.bind (λm ⟨a,b,c,d⟩=>?_) _ (K2 P f (N - 1) 1 (AR _) ⋯ λi j n h=>by omega);by_cases e:m=N
 ·rw [nV (by simpa using e)];exact ⟨P,c,a,⋯⟩
 ·rw [nU (by simpa using e)];have o:kp k p m<kp k p (m - 1):=by rcases d with d | d;exact absurd ⋯ e;exact d
  by_cases g:m > 1
  ·rw [nV g];refine ⟨P.lt ⋯,P.lt ⋯,P.ne ⋯ ⋯ ⋯,?_⟩;show Tw _ _ _ (if kc k _ _=true then _ else _);rw [nV (show kc k _ _=true from nW (c 0 (m - 1) ⋯ ⋯))];exact ⟨P,c,a,⋯⟩
  ·rw [nU g];have q:m=1:=by omega
   subst q;refine Tw.bind (λr ⟨u,w,x,y,v⟩=>?_) _ (OT P f (N - (1+1)) (1+1) ⋯ ⋯ (De.succ (λi j n h=>by omega) λ_=>o));rw [nU ⋯,u];exact Yg P f ⋯ ⋯ v
theorem K3 (P:Pm N p) (g:∀ i j,i<N->j<N->i≠j->k i≠k j) {q:Nat} (u:q<N) (S:So k p q):∀ (f l r:Nat),l<=r->r<=q->r - l<=f->(∀ i,i<l->kp k p i<kp k p q)->(∀ i,r<=i->i<q->kp k p q<kp k p i)->Tw (kc k) N (λz=>z<=q/\(∀ i,i<z->kp k p i<kp k p q)/\(∀ i,z<=i->i<q->kp k p q<kp k p i)) (kas_place p q f l r)
 | 0,l,r,w,h,x,n,o=>by
   have:l=r:=by omega
   subst this;exact ⟨h,n,o⟩
 | f+1,l,r,w,h,x,n,o=>by
   show Tw _ _ _ (if l ≥ r then _ else _);by_cases c:l ≥ r
   ·have:l=r:=by omega
    subst this;rw [nV c];exact ⟨h,n,o⟩
   ·rw [nU c];generalize y:(l+r) / 2=m;refine ⟨P.lt ⋯,P.lt ⋯,P.ne ⋯ ⋯ ⋯,?_⟩;show Tw _ _ _ (if kc k _ _=true then _ else _);by_cases d:kp k p q<kp k p m
    ·rw [nV (show kc k _ _=true from nW d)];refine K3 P g u S f l m ⋯ ⋯ ⋯ n λi a b=>?_;by_cases e:i=m
     ·rw [e];exact d
     ·exact Int.lt_trans d (S m i ⋯ b)
    ·rw [nU (by unfold kc;rw [decide_eq_true_eq];exact d)];have v:=K1 P g u ⋯ ⋯ d;refine K3 P g u S f (m+1) r ⋯ h ⋯ (λi a=>?_) o;by_cases e:i=m
     ·rw [e];exact v
     ·exact Int.lt_trans (S i m ⋯ ⋯) v
theorem OV (d:∀ i j,i<N->j<N->i≠j->k i≠k j):∀ (f:Nat) (p:Array Nat) (q:Nat),Pm N p->So k p q->q+f=N->Tw (kc k) N (λr=>Pm N r/\So k r N) (kas_bin f p q)
 | 0,p,q,P,S,e=>⟨P,by rw [<-e];exact S⟩
 | f+1,p,q,P,S,e=>by
   refine Tw.bind (λz ⟨u,m,n⟩=>?_) _ (K3 P d ⋯ S q 0 q (Ae _) (AR _) ⋯ (λi h=>by omega) λi a b=>by omega);refine OV d f _ (q+1) ((bubble_perm _ _ _).trans P) (λi j o v=>?_) ⋯
   have g:∀ i,kp k (bubble p q (q - z)) i=if i=z then kp k p q else if z<i/\i<=q then kp k p (i - 1) else kp k p i:=λi=>by
    have b:=getElem?_bubble (xs:=p) (src:=q) (by rw [P.size];omega) (q - z) ⋯ i;rw [show q - (q - z)=z by omega] at b;split at b
    ·rw [nV (by assumption)];exact JZ b
    ·rw [nU (by assumption)];split at b
     ·rw [nV (by assumption)];exact JZ b
     ·rw [nU (by assumption)];exact JZ b
   rw [g i,g j];by_cases a:i=z
   ·rw [nV a,nU ⋯,nV ⋯];exact n _ ⋯ ⋯
   ·rw [nU a];by_cases b:j=z
    ·rw [nV b,nU ⋯];exact m _ ⋯
    ·rw [nU b];split
     ·rw [nV ⋯];exact S _ _ ⋯ ⋯
     ·split
      ·by_cases c:i=j - 1
       ·omega
       ·exact S _ _ ⋯ ⋯
      ·exact S _ _ ⋯ ⋯
def Yi (a:∀ i j,i<N->j<N->i≠j->k i≠k j) (b:2<=N):Tw (kc k) N (λr=>Pm N r/\So k r N) (kas_sort N):=by
 refine Tw.bind (λr ⟨P,S,d,f⟩=>?_) _ (Yh (Array.Perm.refl _) a b);rw [show max r.1 1=r.1 by omega];by_cases c:r.1<N
 ·rw [nV c];exact OV a _ _ _ P S ⋯
 ·rw [nU c];have e:r.1=N:=by omega
  rw [e] at S;exact ⟨P,S⟩
end
end Bs
namespace Bs
open PySem PySem.Spec PySem.Calls PyProof.Rows L2
abbrev FO (h:Heap) (z TI TO T:Addr) (b:Bool):Prop:=
 h.get? z=some { cls:=.type "zip", dict:=none,data:=.fields #[rawInt T,.bool b,.bool false,.ref TI,.ref TO],slots:=#[] }
section
variable {prog:Program} {w:World} {A:Around} {E:de} {s:Shared}
def Yj {a:Addr} {Q:Option Obj->Shared->Prop} (h:Q (s.heap.get? a) s):wpAny (model prog w) A (loadIfAlive a) Q E s:=λ_ _ _=>h
theorem OW {z TI TO T:Addr} {b:Bool} {o:Obj} {Q:Bool->Shared->Prop} (d:FO s.heap z TI TO T b) (i:s.heap.get? T=some o)
  (f:∀ e,FO e z TI TO T true->Heap.SameBut z s.heap e->Q false { s with heap:=e }):wpAny (model prog w) A (Builtin.SmallTypes.ownedTupleIsFree (.ref z)) Q E s:=by
 unfold Builtin.SmallTypes.ownedTupleIsFree;refine mC (wpAny_field d rfl (x:=rawInt T) rfl ?_);show wpAny _ _ (loadIfAlive ((T:Int).toNat) >>= _) _ _ _;rw [EI];refine mC (Yj ?_);rw [i];refine mC (wpAny_field d rfl (x:=.bool b) rfl ?_);cases b with
 | true=>exact mD (f _ d (Heap.SameBut.refl ..))
 | false=>
   refine mC (wpAny_setField_rec d (by simp) λh a c=>mD (f _ a c))
def Yk {z TI TO T h i u l2:Addr} {b:Bool} {o:Obj} {B C:Nat} {xs L:Array Value} {x y:Value} {Q:de} (D:ZipApart z TI TO h i u l2)
  (F:FO s.heap z TI TO T b) (G:IsPair s.heap TI (.ref h) (.ref i)) (O:s.heap.get? T=some o)
  (P:s.heap.IsListIter h u B) (R:s.heap.IsListIter i l2 C) (H:s.heap.IsList u xs) (I:s.heap.IsList l2 L) (S:xs[B]?=some x) (U:L[C]?=some y)
  (W:∀ n,FO n z TI TO T true->n.IsListIter h u (B+1)->n.IsListIter i l2 (C+1)->IsPair n s.heap.objs.size x y->
   (∀ c o,c≠z->c≠h->c≠i->s.heap.get? c=some o->n.get? c=some o)->Q (.ref s.heap.objs.size) { s with heap:=n }) :
  wpAny (model prog w) A (Builtin.«zip.__next__» ⟨[.ref z],[]⟩) (λJ X=>∃ v,J=.done (.ret v)/\Q v X) E s:=by
 show wpAny _ _ (field (.ref z) 2 >>= _) _ _ _;refine mC (wpAny_field F rfl (x:=.bool false) rfl ?_);show wpAny _ _ (field (.ref z) 3 >>= _) _ _ _;refine mC (wpAny_field F rfl (x:=.ref TI) rfl ?_);refine mC (wpAny_seqItems G rfl ?_);show wpAny _ _ (Builtin.SmallTypes.ownedTupleIsFree (.ref z) >>= _) _ _ _;refine mC (OW F O λM j a=>?_);simp only [Dw,if_false];refine mC ?_;rw [<-Array.forIn_toList];simp only [List.forIn_cons,List.forIn_nil];refine mC (mC (wpAny_holding ?_));show wpAny _ _ (Builtin.SmallTypes.nextOf (.ref h) >>= _) _ _ _;refine mC (wpAny_nextOf_list_item (P.extBut a.extBut D.i1z) (H.extBut a.extBut D.l1z) S λN k d=>mD ?_);refine mD ?_;refine mC (mC (wpAny_holding ?_));show wpAny _ _ (Builtin.SmallTypes.nextOf (.ref i) >>= _) _ _ _;refine mC (wpAny_nextOf_list_item ((R.extBut a.extBut D.i2z).extBut d.extBut D.i12.symm) ((I.extBut a.extBut D.l2z).extBut d.extBut D.l2i1) U λg m f=>mD ?_);refine mD (mD ?_);refine mC (wpAny_newTuple (mD ⟨_,rfl,?_⟩) (by show 2<=sizeLine;rw [sizeLine_eq];decide));have e:g.objs.size=s.heap.objs.size:=by rw [f.1,d.1,a.1]
 show Q (.ref g.objs.size) { s with heap:=g.push { cls:=.type "tuple", data:=.seq #[x,y] } };have Y:∀ c o,c≠z->c≠h->c≠i->s.heap.get? c=some o->(g.push { cls:=.type "tuple", data:=.seq #[x,y] }).get? c=some o:=λc o Z c3 c4 q=>Heap.get?_push_of_some _ (f.extBut _ _ c4 (d.extBut _ _ c3 (a.extBut _ _ Z q)));rw [e];refine W _ (Heap.get?_push_of_some _ (f.extBut _ _ D.i2z.symm (d.extBut _ _ D.i1z.symm j))) ((k.extBut f.extBut D.i12).at λo q=>Heap.get?_push_of_some _ q) (m.at λo q=>Heap.get?_push_of_some _ q) ?_ Y;rw [<-e];exact Heap.get?_push_size _ rfl
def Yl {z TI TO T f p h l2:Addr} {b:Bool} {o:Obj} {r:Nat} {xs:Array Value} {Q:Fin->Shared->Prop} (y:A.handled=none) (D:ZipApart z TI TO f p h l2)
  (i:FO s.heap z TI TO T b) (j:IsPair s.heap TI (.ref f) (.ref p)) (B:s.heap.get? T=some o)
  (C:s.heap.IsListIter f h r) (k:s.heap.IsList h xs) (F:xs[r]?=none)
  (G:∀ m e,(∀ c o,c≠z->c≠f->s.heap.get? c=some o->m.get? c=some o)->(∃ o,m.get? e=some o/\o.cls=.type "StopIteration")->E (.ref e) { s with heap:=m }) :
  wpAny (model prog w) A (Builtin.«zip.__next__» ⟨[.ref z],[]⟩) Q E s:=by
 show wpAny _ _ (field (.ref z) 2 >>= _) _ _ _;refine mC (wpAny_field i rfl (x:=.bool false) rfl ?_);show wpAny _ _ (field (.ref z) 3 >>= _) _ _ _;refine mC (wpAny_field i rfl (x:=.ref TI) rfl ?_);refine mC (wpAny_seqItems j rfl ?_);show wpAny _ _ (Builtin.SmallTypes.ownedTupleIsFree (.ref z) >>= _) _ _ _;refine mC (OW i B λv n a=>?_);simp only [Dw,if_false];refine mC ?_;rw [<-Array.forIn_toList];simp only [List.forIn_cons,List.forIn_nil];refine mC (mC (wpAny_holding ?_));show wpAny _ _ (Builtin.SmallTypes.nextOf (.ref f) >>= _) _ _ _;exact mC (wpAny_nextOf_list_end y (C.extBut a.extBut D.i1z) (k.extBut a.extBut D.l1z) F λg e d H=>G g e (λc o I J q=>d _ _ J (a.extBut _ _ I q)) H)
def Ym {z TI TO T d e g l2:Addr} {b:Bool} {o:Obj} {h i:Nat} {xs n:Array Value} {x y:Value} {Q:du->Shared->Prop} (D:ZipApart z TI TO d e g l2)
  (p:FO s.heap z TI TO T b) (j:IsPair s.heap TI (.ref d) (.ref e)) (r:s.heap.get? T=some o)
  (u:s.heap.IsListIter d g h) (v:s.heap.IsListIter e l2 i) (k:s.heap.IsList g xs) (m:s.heap.IsList l2 n) (B:xs[h]?=some x) (C:n[i]?=some y)
  (F:∀ a,FO a z TI TO T true->a.IsListIter d g (h+1)->a.IsListIter e l2 (i+1)->IsPair a s.heap.objs.size x y->
   (∀ c o,c≠z->c≠d->c≠e->s.heap.get? c=some o->a.get? c=some o)->Q (some (.ref s.heap.objs.size)) { s with heap:=a }) :
  wpAny (model prog w) A (pyNext (.ref z)) Q E s:=by
 have f:s.TypeIs (.ref z) "zip" := ⟨_,p,rfl⟩;unfold pyNext
 exact mC (wpAny_attempt (wpAny_callSpecial?_slot (name:=Str.ofString "__next__") f PySem.F.slot_zip_next
  (wpAny_call_entry PySem.F.slot_zip_next f PySem.F.entry_zip_next
   (Yk D p j r u v k m B C λa G H I J K=>mD (F a G H I J K)) (PySem.F.args_zip_next_1 _))))
def Yn {z TI TO T d j f l2:Addr} {b:Bool} {o:Obj} {k:Nat} {xs:Array Value} {Q:du->Shared->Prop} (p:A.handled=none) (D:ZipApart z TI TO d j f l2)
  (m:FO s.heap z TI TO T b) (g:IsPair s.heap TI (.ref d) (.ref j)) (q:s.heap.get? T=some o)
  (r:s.heap.IsListIter d f k) (h:s.heap.IsList f xs) (u:xs[k]?=none)
  (v:∀ i,(∀ c o,c≠z->c≠d->s.heap.get? c=some o->i.get? c=some o)->Q none { s with heap:=i }):wpAny (model prog w) A (pyNext (.ref z)) Q E s:=by
 have a:s.TypeIs (.ref z) "zip" := ⟨_,m,rfl⟩;unfold pyNext
 refine mC (wpAny_attempt (wpAny_callSpecial?_slot (name:=Str.ofString "__next__") a PySem.F.slot_zip_next
  (wpAny_call_entry PySem.F.slot_zip_next a PySem.F.entry_zip_next (Yl p D m g q r h u λi e hk x=>?_) (PySem.F.args_zip_next_1 _))))
 obtain ⟨o,y,B⟩:=x;refine mC (wpAny_isInstance (T := "StopIteration") (b:=true) ⟨o,y,B⟩ isSubtype_stop ?_);exact mD (v _ hk)
end
structure ZFp (z TI TO i1 i2 l1 l2 N0:Addr):Prop where
 D:ZipApart z TI TO i1 i2 l1 l2
 zN:z<N0
 oN:TO<N0
 aN:i1<N0
 bN:i2<N0
def ZS (z TI TO a c d l2:Addr) (xs f:Array Value) (e i:Nat) (h:Heap):Prop:=
 IsPair h TI (.ref a) (.ref c)/\h.IsListIter a d i/\h.IsListIter c l2 i/\h.IsList d xs/\h.IsList l2 f/\e<=h.objs.size/\
  ((IsZip h z TI TO .none/\∃ u v,IsPair h TO u v)\/∃ T b u v,e<=T/\FO h z TI TO T b/\IsPair h T u v)
def nN {a N c:Addr} (h:a<N) (l:N<=c):c≠a:=DG (CF h l)
def Zps (xs b:Array Value) (c:Nat) (h:Heap) (as:dw):Prop:=∀ (j:Nat) (a:Addr),as[j]?=some a->c<=a/\∃ x y,xs[j]?=some x/\b[j]?=some y/\IsPair h a x y
def Zps.keep {xs d:Array Value} {b:Nat} {h h':Heap} {as:dw} (p:Zps xs d b h as) (k:∀ c o,b<=c->h.get? c=some o->h'.get? c=some o):Zps xs d b h' as:=λj a e=>
 let ⟨l,x,y,f,g,i⟩:=p j a e;⟨l,x,y,f,g,k _ _ l i⟩
def Zps.push {xs f:Array Value} {g:Nat} {h:Heap} {as:dw} {a:Addr} {x y:Value} (p:Zps xs f g h as) (l:g<=a) (i:xs[as.length]?=some x) (k:f[as.length]?=some y) (m:IsPair h a x y):Zps xs f g h (as++[a]):=λj b e=>by
 rw [List.getElem?_append] at e;split at e
 ·exact p j b e
 ·rename_i c
  have n:j=as.length:=by
   rcases A5 (j - as.length) 1 with d | d
   ·omega
   ·rw [BL (by simpa using d)] at e;cases e
  subst n;rw [Nat.sub_self] at e;cases e;exact ⟨l,x,y,i,k,m⟩
section
variable {prog:Program} {w:World} {A:Around} {E:de} {s:Shared} {z TI TO i1 i2 l1 l2 N0:Addr} {xs ys:Array Value} {i:Nat}
def ZS.keep {h h':Heap} (Z:ZS z TI TO i1 i2 l1 l2 xs ys N0 i h) {S:Addr} (g:S≠z/\S≠TI/\S≠TO/\S≠i1/\S≠i2/\S≠l1/\S≠l2/\S<N0) (k:∀ c o,c≠S->h.get? c=some o->h'.get? c=some o) (n:h.objs.size<=h'.objs.size):ZS z TI TO i1 i2 l1 l2 xs ys N0 i h':=by
 obtain ⟨j,m,p,r,x,y,B⟩:=Z;obtain ⟨e,C,D,F,G,H,I,J⟩:=g;refine ⟨k _ _ C.symm j,m.at λo q=>k _ _ F.symm q,p.at λo q=>k _ _ G.symm q,r.at λo q=>k _ _ H.symm q,x.at λo q=>k _ _ I.symm q,Bg y n,?_⟩;rcases B with ⟨a,u,v,d⟩ | ⟨T,b,u,v,f,a,d⟩
 ·exact .inl ⟨k _ _ e.symm a,u,v,k _ _ D.symm d⟩
 ·exact .inr ⟨T,b,u,v,f,k _ _ e.symm a,k _ _ (nN J f) d⟩
def ZS.item {x y:Value} {Q:du->Shared->Prop} (F:ZFp z TI TO i1 i2 l1 l2 N0) (Z:ZS z TI TO i1 i2 l1 l2 xs ys N0 i s.heap) (B:xs[i]?=some x) (C:ys[i]?=some y)
  (G:∀ d,ZS z TI TO i1 i2 l1 l2 xs ys N0 (i+1) d->IsPair d s.heap.objs.size x y->(∀ c o,c≠z->c≠TO->c≠i1->c≠i2->s.heap.get? c=some o->d.get? c=some o)->Q (some (.ref s.heap.objs.size)) { s with heap:=d }) :
  wpAny (model prog w) A (pyNext (.ref z)) Q E s:=by
 obtain ⟨f,I,J,g,h,K,L⟩:=Z;have D:=F.D;rcases L with ⟨m,u,v,j⟩ | ⟨T,b,u,v,k,m,j⟩
 ·refine wpAny_pyNext_zip_item D m f j I J g h B C λd n P p r e R a=>G d ⟨a _ _ D.TIz D.TITO D.TIi1 D.TIi2 f,p,r,g.at λo q=>a _ o D.l1z D.l1TO D.l1i1 D.l1i2 q,h.at λo q=>a _ o D.l2z D.l2TO D.l2i1 D.l2i2 q,⋯,.inr ⟨_,false,x,y,K,n,e⟩⟩ e a
 ·refine Ym D m f j I J g h B C λd n p r e a=>G d ⟨a _ _ D.TIz D.TIi1 D.TIi2 f,p,r,g.at λo q=>a _ o D.l1z D.l1i1 D.l1i2 q,h.at λo q=>a _ o D.l2z D.l2i1 D.l2i2 q,Bg K (Nat.le_of_lt (mG e)),.inr ⟨T,true,u,v,k,n,a _ _ (nN F.zN k) (nN F.aN k) (nN F.bN k) j⟩⟩ e λc o M _ N O q=>a c o M N O q
def ZS.done {Q:du->Shared->Prop} (f:A.handled=none) (F:ZFp z TI TO i1 i2 l1 l2 N0) (Z:ZS z TI TO i1 i2 l1 l2 xs ys N0 i s.heap) (g:xs[i]?=none)
  (h:∀ a,(∀ c o,c≠z->c≠TO->c≠i1->c≠i2->s.heap.get? c=some o->a.get? c=some o)->Q none { s with heap:=a }):wpAny (model prog w) A (pyNext (.ref z)) Q E s:=by
 obtain ⟨k,m,p,n,r,D,x⟩:=Z;rcases x with ⟨d,u,v,e⟩ | ⟨T,b,u,v,G,d,e⟩
 ·exact wpAny_pyNext_zip_end f F.D d k e m p n r (.inl g) h
 ·exact Yn f F.D d k e m n g λa y=>h a λc o B _ C _ q=>y c o B C q
theorem Yo {R:Result->Shared->Prop} (K:A.handled=none) (F:ZFp z TI TO i1 i2 l1 l2 N0) (T:xs.size=ys.size) (U:xs.size<=sizeLine) {S:Addr} (b:S≠z/\S≠TI/\S≠TO/\S≠i1/\S≠i2/\S≠l1/\S≠l2/\S<N0) (m:Value) :
  ∀ (k i:Nat) (s:Shared) (as:dw) (c:Nat),xs.size - i=k->i<=xs.size->ZS z TI TO i1 i2 l1 l2 xs ys N0 i s.heap->s.heap.get? S=some { cls:=.type "list", dict:=none,data:=.seq (as.map Value.ref).toArray c,slots:=#[] }->as.length=i->Zps xs ys N0 s.heap as->
  (∀ e d y,(∀ c o,c≠S->c≠z->c≠TO->c≠i1->c≠i2->s.heap.get? c=some o->e.get? c=some o)->e.get? S=some { cls:=.type "list", dict:=none,data:=.seq (d.map Value.ref).toArray y,slots:=#[] }->d.length=xs.size->Zps xs ys N0 e d->R (.ok (.ret m)) { s with heap:=e })->
  codeAny (model prog w) A (.builtin "list.extend.loop" ⟨[.ref S,.ref z,m],[]⟩) R s:=by
 intro k
 induction k with
 | zero=>
   intro i s as c hk L Z h p P B;refine codeAny_builtin PySem.F.entry_extend_loop ?_;rw [Around.under_plainId PySem.F.plain_extend_loop _];show wpAny _ A.in1 (pyNext (.ref z) >>= _) _ _ s;refine mC (ZS.done (A:=A.in1) K F Z (Array.getElem?_eq_none ⋯) λe j=>?_);exact mD (B e as c (λc o _ r u v x q=>j c o r u v x q) (j _ _ b.1 b.2.2.1 b.2.2.2.1 b.2.2.2.2.1 h) ⋯ (P.keep λc o a q=>j c o (nN F.zN a) (nN F.oN a) (nN F.aN a) (nN F.bN a) q))
 | succ k M=>
   intro i s as c hk L Z h p P B;refine codeAny_builtin PySem.F.entry_extend_loop ?_;rw [Around.under_plainId PySem.F.plain_extend_loop _];show wpAny _ A.in1 (pyNext (.ref z) >>= _) _ _ s;have l1:i<xs.size:=by omega
   have l2:i<ys.size:=by omega
   refine mC (ZS.item F Z (Array.getElem?_eq_getElem l1) (Array.getElem?_eq_getElem l2) λe N hp j=>?_);have g:=j _ _ b.1 b.2.2.1 b.2.2.2.1 b.2.2.2.2.1 h;have I:N0<=s.heap.objs.size:=Z.2.2.2.2.2.1;have O:∀ c o,N0<=c->s.heap.get? c=some o->e.get? c=some o:=λc o a q=>j c o (nN F.zN a) (nN F.oN a) (nN F.aN a) (nN F.bN a) q;have f:∀ c o,c≠S->e.get? c=some o->(e.update S (Obj.mapSeq (·.push (.ref s.heap.objs.size)))).get? c=some o:=λc o a q=>(Heap.get?_update_other _ _ (Ne.symm a)).trans q;show wpAny _ A.in1 (updateSeq S (·.push (.ref s.heap.objs.size)) >>= _) _ _ _;refine mC (wpAny_updateSeq g rfl (mD ⟨plainId_quiet PySem.F.plain_extend_loop _,M (i+1) _ (as++[s.heap.objs.size]) (c+1) ⋯ l1 (N.keep b f (by rw [Heap.size_update];exact AR _)) ?_ (by rw [Bp,p];rfl) ?_ λC d y D n G Q=>?_⟩) ?_ ?_)
   ·rw [Heap.get?_update_self _ g rfl];simp [Obj.mapSeq]
   ·refine Zps.push ((P.keep O).keep λc o a q=>f c o (nN b.2.2.2.2.2.2.2 a) q) I ?_ ?_ (f _ _ (nN b.2.2.2.2.2.2.2 I) hp)
    ·rw [p];exact Array.getElem?_eq_getElem l1
    ·rw [p];exact Array.getElem?_eq_getElem l2
   ·exact B C d y (λc o J r u v x q=>D c o J r u v x (f c o J (j c o r u v x q))) n G Q
   ·rw [BJ,AJ];omega
   ·show Array.size (Array.push _ _)<=_;rw [Array.size_push,BJ,AJ];omega
end
def Yp:typeLookup (.type "zip") "__len__" = pure none:=by rw [typeLookup_type,builtinLookup_eq_fast];kernel_rfl
def Yq:typeLookup (.type "zip") "__length_hint__" = pure none:=by rw [typeLookup_type,builtinLookup_eq_fast];kernel_rfl
section
variable {prog:Program} {w:World} {A:Around} {E:de} {s:Shared} {z TI TO i1 i2 l1 l2:Addr} {xs ys:Array Value}
def Yr {Q:dc->Shared->Prop} (O:A.handled=none) (D:ZipApart z TI TO i1 i2 l1 l2) (R:xs.size=ys.size) (S:xs.size<=sizeLine)
  (B:IsZip s.heap z TI TO .none) (n:IsPair s.heap TI (.ref i1) (.ref i2)) (p:IsPair s.heap TO .none .none) (H:s.heap.IsListIter i1 l1 0) (I:s.heap.IsListIter i2 l2 0) (r:s.heap.IsList l1 xs) (u:s.heap.IsList l2 ys)
  (T:∀ m as,(∀ c o,c≠z->c≠TO->c≠i1->c≠i2->s.heap.get? c=some o->m.get? c=some o)->as.length=xs.size->Zps xs ys s.heap.objs.size m as->s.heap.objs.size<m.objs.size->Q (as.map Value.ref) { s with heap:=m }):wpAny (model prog w) A (collect (.ref z)) Q E s:=by
 have J:z<s.heap.objs.size:=mG B;have U:TI<s.heap.objs.size:=mG n;have K:TO<s.heap.objs.size:=mG p;have L:i1<s.heap.objs.size:=by obtain ⟨_,e,_⟩:=H;exact mG e
 have M:i2<s.heap.objs.size:=by obtain ⟨_,e,_⟩:=I;exact mG e
 have ll:l1<s.heap.objs.size:=by obtain ⟨_,e,_⟩:=r;exact mG e
 have W:l2<s.heap.objs.size:=by obtain ⟨_,e,_⟩:=u;exact mG e
 have C:s.heap.objs.size≠z/\s.heap.objs.size≠TI/\s.heap.objs.size≠TO/\s.heap.objs.size≠i1/\s.heap.objs.size≠i2/\s.heap.objs.size≠l1/\s.heap.objs.size≠l2/\s.heap.objs.size<s.heap.objs.size+1:=⟨DG J,DG U,DG K,DG L,DG M,DG ll,DG W,Di _⟩;have F:ZFp z TI TO i1 i2 l1 l2 (s.heap.objs.size+1):=⟨D,Nat.lt_succ_of_lt J,Nat.lt_succ_of_lt K,Nat.lt_succ_of_lt L,Nat.lt_succ_of_lt M⟩;unfold collect;refine mC (wpAny_runValue (codeAny_builtin PySem.F.entry_proto_collect ?_));rw [Around.under_plainId PySem.F.plain_proto_collect _];show wpAny _ A.in1 (newList [] >>= λl=>again (.builtin "list.__iadd__" ⟨[l,.ref z],[]⟩)) _ _ s;refine mC (wpAny_newObj_type ?_);refine mD ⟨plainId_quiet PySem.F.plain_list_iadd _,codeAny_builtin PySem.F.entry_list_iadd ?_⟩;rw [Around.under_plainId PySem.F.plain_list_iadd _];have g:(s.heap.push { cls:=.type "list", data:=.seq ([]:dc).toArray }).get? s.heap.objs.size=some { cls:=.type "list", data:=.seq ([]:dc).toArray }:=Heap.get?_push_size _ rfl;have i:∀ c o,s.heap.get? c=some o->(s.heap.push { cls:=.type "list", data:=.seq ([]:dc).toArray }).get? c=some o:=λc o q=>Heap.get?_push_of_some _ q;have G:Shared.TypeIs ({ s with heap:=s.heap.push { cls:=.type "list", data:=.seq ([]:dc).toArray } }:Shared) (.ref z) "zip" := ⟨_,i _ _ B,rfl⟩;show wpAny _ A.in1 (Builtin.List.listExtendWith (.ref s.heap.objs.size) (.ref z) (.ref s.heap.objs.size)) _ _ _;unfold Builtin.List.listExtendWith;refine mC (wpAny_typeOf G ?_);have X:Builtin.List.listSameRef (.ref s.heap.objs.size) (.ref z)=false:=by simp [Builtin.List.listSameRef,C.1]
 have Y:(Value.type "zip" == Value.type "list")=false:=by decide
 have q3:(Value.type "zip" == Value.type "tuple")=false:=by decide
 simp only [X,Y,q3,Bool.or_false,Dw,if_false];refine mC (wpAny_pyIter_zip (i _ _ B) ?_);refine mC (wpAny_holding ?_);unfold Builtin.List.listLengthHint;refine mC (wpAny_specialOf G Yp ?_);show wpAny _ A.in1 (specialOf (Value.ref z) (Str.ofString "__length_hint__") >>= _) _ _ _;refine mC (wpAny_specialOf G Yq ?_);refine mD ?_
 show wpAny _ A.in1 (rule "list.extend.makes-room" >>= λ_=>Builtin.List.listTouch (.ref s.heap.objs.size) >>= λ_=>
  again (.builtin "list.extend.loop" ⟨[.ref s.heap.objs.size,.ref z,.ref s.heap.objs.size],[]⟩)) _ _ _
 refine mC (wpAny_rule ?_);refine mC ?_;show wpAny _ A.in1 (updateSeq s.heap.objs.size (·.push .none) >>= λ_=>updateSeq s.heap.objs.size (·.pop)) _ _ _;refine mC (wpAny_updateSeq g rfl ?_);have h:=Heap.get?_update_self (Obj.mapSeq (·.push Value.none)) g rfl;refine wpAny_updateSeq h rfl ?_;have k:=Heap.get?_update_self (Obj.mapSeq (·.pop)) h rfl
 have x:∀ b o,b≠s.heap.objs.size->(s.heap.push { cls:=.type "list", data:=.seq ([]:dc).toArray }).get? b=some o->
   (((s.heap.push { cls:=.type "list", data:=.seq ([]:dc).toArray }).update s.heap.objs.size (Obj.mapSeq (·.push Value.none))).update s.heap.objs.size (Obj.mapSeq (·.pop))).get? b=some o:=
  λb o N e=>(Heap.get?_update_other _ _ (Ne.symm N)).trans ((Heap.get?_update_other _ _ (Ne.symm N)).trans e)
 have Z:ZS z TI TO i1 i2 l1 l2 xs ys (s.heap.objs.size+1) 0 (s.heap.push { cls:=.type "list", data:=.seq ([]:dc).toArray }):=⟨i _ _ n,H.at λo q=>i _ _ q,I.at λo q=>i _ _ q,r.at λo q=>i _ _ q,u.at λo q=>i _ _ q,by rw [size_push'];exact AR _,.inl ⟨i _ _ B,_,_,i _ _ p⟩⟩;refine mD ⟨plainId_quiet PySem.F.plain_extend_loop _,Yo O F R S C _ xs.size 0 _ [] 2 rfl (Ae _) (Z.keep C x (by rw [Heap.size_update,Heap.size_update];exact AR _)) (by rw [k];simp [Obj.mapSeq]) rfl (λj a e=>nomatch e) λm as c' kk y la P=>?_⟩;show wpAny _ A (load s.heap.objs.size >>= _) _ _ _;refine mC (wpAny_load y ?_);refine mD (T m as (λc o c1 c2 c3 c4 q=>kk c o (BI (mG q)) c1 c2 c3 c4 (x c o (BI (mG q)) (i c o q))) la (λj a e=>⟨Nat.le_of_succ_le (P j a e).1,(P j a e).2⟩) (mG y))
end
end Bs
namespace Bs
open PySem PySem.Spec PySem.Calls PySem.W PyProof.Rows L2
section
variable {prog:Program} {w:World} {A:Around} {E:de} {s:Shared}
theorem OX {h:Heap}:∀ (as:dw),(∀ b∈as,∃ n t y,IsPair h b (.int n t) y)->∃ c,KatTups h (as.map Value.ref) c/\(∀ v∈c,∃ n t,v=.int n t)/\c.length=as.length
 | [],_=>⟨[],trivial,(λ_ h=>nomatch h),rfl⟩
 | a::as,hp=>by
   obtain ⟨n,t,y,e⟩:=hp a (Au ..);obtain ⟨c,k,q,l⟩:=OX as λb d=>hp b (A3 _ d);refine ⟨.int n t::c,KatTups.cons e rfl rfl rfl k,λv f=>?_,by rw [CP,CP,l]⟩;rcases Bc.mp f with z | z
   ·exact ⟨n,t,z⟩
   ·exact q v z
def Ys {L a:Addr} {m:di} {e:Nat} {as:dw} {ks:dC} {P:PySem.Fin->Shared->Prop} (Y:s.heap.Ns L m) (Z:s.heap.get? a=some (seqObj "list" (as.map Value.ref).toArray e)) (J:a≠L) (h2:2<=as.length) (a0:as.length<64)
  (hp:∀ (j:Nat) (b:Addr),as[j]?=some b->b≠a/\b≠L/\∃ t y,IsPair s.heap b (.int (ks j) t) y) (D:∀ i j,i<as.length->j<as.length->i≠j->ks i≠ks j)
  (h:∀ p d c,Pm as.length p->So ks p as.length->d.Ns L m->(∀ b o,b≠a->b≠L->s.heap.get? b=some o->d.get? b=some o)->d.get? a=some (seqObj "list" (p.toList.map λi=>(as.map Value.ref).getD i Value.none).toArray c)->P (.done (.ret .none)) { s with heap:=d }) :
  wpAny (model prog w) A (Builtin.«list.sort» ⟨[.ref a],[]⟩) P E s:=by
 have ll:(as.map Value.ref).length=as.length:=AJ ..;refine kat_list_sort (h₀:=Att.noObjs s.heap) (L:=L) (m:=m) (news:=(Att.ledger s.heap L L).filter λp=>decide (p.1≠a)) (vs:=as.map Value.ref) (Att.fr_all Y) (λp hp=>?_) Z J (Att.noObjs_get _ _) (λp hp=>nX (EE.mp hp).2) ⋯ ⋯ λe1 d F' W=>?_
 ·obtain ⟨K,_,e⟩:=Att.mem_ledger.mp (EE.mp hp).1;exact ⟨e,K,Att.noObjs_get _ _⟩
 have kk:∀ b o,b≠a->b≠L->s.heap.get? b=some o->d.get? b=some o:=λb o M F q=>(W (b,o) (A3 _ (EE.mpr ⟨Att.mem_ledger.mpr ⟨F,F,q⟩,nW M⟩))).1
 have k:∀ (j:Nat) (b:Addr),as[j]?=some b->∃ t y,IsPair d b (.int (ks j) t) y:=λj b q=>by
  obtain ⟨K,n2,t,y,i⟩:=hp j b q;exact ⟨t,y,kk _ _ K n2 i⟩
 obtain ⟨fs,kt,fi,fl⟩:=OX as λb hb=>by
  obtain ⟨j,G⟩:=List.getElem?_of_mem hb;obtain ⟨t,y,i⟩:=k j b G;exact ⟨_,t,y,i⟩
 refine kat_kind (s:={ s with heap:=d }) (T:=Value.type "int") kt ⋯ (λv hv=>by obtain ⟨n,t,rfl⟩:=fi v hv;exact .now) ∅ ?_;rw [ll];refine Tw.wp (c:=kc ks) (N:=as.length) (Q:=λr=>Pm as.length r/\So ks r as.length) (I:=λx=>x={ s with heap:=d }) (λi j C x B G O R hC=>?_) (λp x X R=>?_) _ _ (Yi D h2) rfl
 ·subst R;obtain ⟨t,y,p1⟩:=k i _ (AZ B);obtain ⟨u,z,p2⟩:=k j _ (AZ G);have g:∀ i (B:i<as.length),(as.map Value.ref).getD i Value.none=.ref as[i]:=λi B=>by simp [List.getD,B]
  show wpAny _ _ (keyLt' _ ((as.map Value.ref).getD i Value.none) ((as.map Value.ref).getD j Value.none)) _ _ _;rw [g i B,g j G];refine kat_lt p1 rfl p2 rfl (kat_cons (wpAny_eqBool_int ?_));rw [show (ks i == ks j)=false from beq_eq_false_iff_ne.mpr (D i j B G O)];exact kat_no (oneLt_int (hC _ rfl))
 ·subst R;refine KasFin.intro F' W (.head λp hp=>nX (EE.mp hp).2) λS c U H=>?_;exact h p S c X.1 X.2 U.ns (λb o M F q=>(H (b,o) (A3 _ (EE.mpr ⟨Att.mem_ledger.mpr ⟨F,F,q⟩,nW M⟩))).1) (H _ (Au ..)).1
end
section
variable {prog:Program} {w:World} {A:Around} {E:de} {s:Shared}
def Yt {a:Addr} {e:Nat} {vs:dc} {P:PySem.Fin->Shared->Prop} (j:s.heap.get? a=some (seqObj "list" vs.toArray e)) (p:vs.length<2)
  (h:∀ k c,(∀ b o,b≠a->s.heap.get? b=some o->k.get? b=some o)->k.get? a=some (seqObj "list" vs.toArray c)->P (.done (.ret .none)) { s with heap:=k }) :
  wpAny (model prog w) A (Builtin.«list.sort» ⟨[.ref a],[]⟩) P E s:=by
 rw [list_sort_plain];have v:a<s.heap.objs.size:=mG j;refine mC (listItems_at j rfl ?_);refine mC (listUpdate_at j rfl ?_ (by rw [BJ,sizeLine_eq];omega) (Ae _));obtain ⟨m,g⟩:∃ m,(s.heap.update a (Obj.mapSeq λ_=>#[])).get? a=some (seqObj "list" #[] m):=⟨_,get?_update_seq j (λ_=>#[])⟩;refine mC (seqEpoch_at g rfl ?_);refine mC (wpAny_newTuple ?_ (by show vs.length<=_;rw [sizeLine_eq];omega));refine mC (wpAny_newList ?_ (Ae _));refine wpAny_holding ?_;have d:(((s.heap.update a (Obj.mapSeq λ_=>#[])).push (seqObj "tuple" vs.toArray 0)).push (seqObj "list" #[] 0)).get? a=some (seqObj "list" #[] m):=Heap.get?_push_of_some _ (Heap.get?_push_of_some _ g);show wpAny (model prog w) A _ P E { s with heap:=((s.heap.update a (Obj.mapSeq λ_=>#[])).push (seqObj "tuple" vs.toArray 0)).push (seqObj "list" #[] 0) };dsimp only;have i:vs.toArray.size<2:=by rw [BJ];exact p
 rw [nV i,nV i];refine mC (mD ?_);rw [StateT.run_pure];refine mC (mD ?_);dsimp only
 have r:(arrOf (SortSt.mk' general' (vs.toArray.zip vs.toArray) #[] 7 none)).map (·.2)=vs.toArray:=by
  show (vs.toArray.zip vs.toArray).map (·.2)=vs.toArray;apply Array.toList_inj.mp;simp [List.map_snd_zip]
 refine mC (seqEpoch_at d rfl ?_);rw [r];refine mC (listUpdate_at d rfl ?_ (Ae _) (by show vs.toArray.size<=_;rw [BJ,sizeLine_eq];omega));simp only [bne_self_eq_false,Dw,if_false];obtain ⟨c,u⟩:∃ c,((((s.heap.update a (Obj.mapSeq λ_=>#[])).push (seqObj "tuple" vs.toArray 0)).push (seqObj "list" #[] 0)).update a (Obj.mapSeq λ_=>vs.toArray)).get? a=some (seqObj "list" vs.toArray c):=⟨_,get?_update_seq d (λ_=>vs.toArray)⟩;exact mD (h _ c (λb o n q=>(Heap.get?_update_other _ _ (Ne.symm n)).trans (Heap.get?_push_of_some _ (Heap.get?_push_of_some _ ((Heap.get?_update_other _ _ (Ne.symm n)).trans q)))) u)
def Yu (as:dw):((List.range as.length).toArray.toList.map λi=>(as.map Value.ref).getD i Value.none)=as.map Value.ref:=by
 apply EJ;intro i;simp only [Ac,List.getD];rcases A5 i as.length with h | h
 ·simp [h]
 ·simp [h]
def Yv {z TI TO n u G l2 L:Addr} {m:di} {xs B:Array Value} {ks:dC} {Q:de} (hh:A.handled=none) (D:ZipApart z TI TO n u G l2) (hl:xs.size=B.size) (a0:xs.size<64)
  (hz:IsZip s.heap z TI TO .none) (H:IsPair s.heap TI (.ref n) (.ref u)) (I:IsPair s.heap TO .none .none) (h1:s.heap.IsListIter n G 0) (h2:s.heap.IsListIter u l2 0) (J:s.heap.IsList G xs) (K:s.heap.IsList l2 B)
  (hn:s.heap.Ns L m) (Lz:L≠z/\L≠TO/\L≠n/\L≠u) (hk:∀ (j:Nat) x,xs[j]?=some x->∃ t,x=.int (ks j) t) (M:∀ i j,i<xs.size->j<xs.size->i≠j->ks i≠ks j)
  (hQ:∀ as p d C c,as.length=xs.size->Pm xs.size p->So ks p xs.size->d.Ns L m->(∀ b o,b≠z->b≠TO->b≠n->b≠u->b≠L->s.heap.get? b=some o->d.get? b=some o)->Zps xs B s.heap.objs.size d as->s.heap.objs.size<=C->C∉as->d.get? C=some (seqObj "list" (p.toList.map λi=>(as.map Value.ref).getD i Value.none).toArray c)->Q (.ref C) { s with heap:=d }) :
  wpAny (model prog w) A (call (.builtin "sorted") [.ref z]) Q E s:=by
 refine Calls.call_function_entry kind_sorted plain_sorted entry_sorted (args_sorted1 _) ?_;unfold Builtin.«sorted»;refine mC (m:=checkCount "sorted" 1 1 _) (mD ?_);refine mC (Yr (A:=A.in1) hh D hl (by rw [sizeLine_eq];omega) hz H I h1 h2 J K λg as gk F P N=>?_);refine mC (wpAny_newList ?_ (by rw [AJ,sizeLine_eq];omega));have h:(g.push (seqObj "list" (as.map Value.ref).toArray 0)).get? g.objs.size=some (seqObj "list" (as.map Value.ref).toArray 0):=Heap.get?_push_size _ rfl;have O:L<s.heap.objs.size:=by obtain ⟨_,_,_,e,_⟩:=id hn;exact mG e
 have nL:g.objs.size≠L:=DG (Nat.lt_trans O N)
 have ns:(g.push (seqObj "list" (as.map Value.ref).toArray 0)).Ns L m:=by
  obtain ⟨o,R,S,T,r⟩:=id hn;exact ⟨o,R,S,Heap.get?_push_of_some _ (gk _ _ Lz.1 Lz.2.1 Lz.2.2.1 Lz.2.2.2 T),r⟩
 have U:g.objs.size∉as:=λhm=>by
  obtain ⟨j,hj⟩:=List.getElem?_of_mem hm;obtain ⟨_,_,_,_,_,e⟩:=P j _ hj;exact DF _ (mG e)
 have P':Zps xs B s.heap.objs.size (g.push (seqObj "list" (as.map Value.ref).toArray 0)) as:=P.keep λc o _ q=>Heap.get?_push_of_some _ q;show wpAny _ _ _ _ _ { s with heap:=g.push (seqObj "list" (as.map Value.ref).toArray 0) };refine mC (wpAny_holding (wpAny_call_entry slot_list_sort ⟨_,h,rfl⟩ entry_list_sort ?body (args_list_sort _)))
 have v:∀ p d c,Pm xs.size p->So ks p xs.size->d.Ns L m->(∀ b o,b≠g.objs.size->b≠L->(g.push (seqObj "list" (as.map Value.ref).toArray 0)).get? b=some o->d.get? b=some o)->d.get? g.objs.size=some (seqObj "list" (p.toList.map λi=>(as.map Value.ref).getD i Value.none).toArray c)->Q (.ref g.objs.size) { s with heap:=d }:=λp d c W X Y k e=>
  hQ as p d _ c F W X Y (λb o Z b2 b3 b4 b5 q=>k b o (BI (Nat.lt_trans (mG q) N)) b5 (Heap.get?_push_of_some _ (gk b o Z b2 b3 b4 q)))
   (λj a ha=>by
    obtain ⟨l,x,y,e1,e2,e3⟩:=P' j a ha;exact ⟨l,x,y,e1,e2,k _ _ (λq=>U (q ▸ A4 ha)) (Ne.symm (BI (CF O l))) e3⟩) (Nat.le_of_lt N) U e
 by_cases c2:2<=as.length
 ·refine Ys (s:={ s with heap:=g.push (seqObj "list" (as.map Value.ref).toArray 0) }) (ks:=ks) ns h nL c2 ⋯ (λj b hb=>?_) (λi j hi hj=>M i j ⋯ ⋯) λp d c W X Y k e=>⟨_,rfl,mD ⟨_,rfl,v p d c (F ▸ W) (F ▸ X) Y k e⟩⟩;obtain ⟨l,x,y,e1,e2,e3⟩:=P' j b hb;obtain ⟨t,rfl⟩:=hk j x e1;exact ⟨λq=>U (q ▸ A4 hb),Ne.symm (BI (CF O l)),t,y,e3⟩
 ·refine Yt (s:={ s with heap:=g.push (seqObj "list" (as.map Value.ref).toArray 0) }) h (by rw [AJ];omega) λd c k e=>⟨_,rfl,mD ⟨_,rfl,v (List.range as.length).toArray d c (by rw [F];exact Array.Perm.refl _) (λi j a b=>by omega) ?_ (λb o Z _ q=>k b o Z q) (by rw [Yu];exact e)⟩⟩;obtain ⟨o,R,S,T,r⟩:=id ns;exact ⟨o,R,S,k _ _ (Ne.symm nL) T,r⟩
end
end Bs
namespace Bs
open PySem L2
def OY (h:TA):TE:=λi H Q=>h i H λk d=>∃ (a b:Addr) (c:d8) (g:c_),k=[.ref a,.ref b]/\d a=some (.lst (c.map V.int))/\d b=some (.lst g)/\c.length=g.length/\c.length<64/\c.Nodup/\
 ∀ (as:dw) (e:List (Int×V)) (r:Addr) (f:Hp),(∀ b o,d b=some o->f b=some o)->d r=none->f r=some (.lst (as.map V.ref))->as.length=e.length->(∀ (j:Nat) a m,as[j]?=some a->e[j]?=some m->f a=some (.tup [.int m.1,m.2]))->e.Perm (c.zip g)->e.Pairwise (λx y=>x.1<y.1)->Q (.ref r) f
end Bs
namespace Bs
open PySem PySem.Spec PySem.Calls PySem.W PyProof.Rows L2
open Classical in
noncomputable def zF (as:dw) (c:d8) (d:c_) (D:Addr) (b:c_):Hp:=λa=>if a=D then some (.lst b) else if h:∃ j:Nat,as[j]?=some a then some (.tup [.int (c.getD h.choose 0),d.getD h.choose .non]) else none
noncomputable def aO (H F:Hp):Hp:=λb=>match F b with | some o=>some o | none=>H b
def K4 {H F:Hp} {b:Addr} {o:HO} (h:F b=some o):aO H F b=some o:=by unfold aO;rw [h]
def K5 {H F:Hp} {b:Addr} (h:F b=none):aO H F b=H b:=by unfold aO;rw [h]
theorem OZ:∀ l:dw,Vals (l.map V.ref) (l.map Value.ref)
 | []=>.nil
 | _::l=>.cons rfl (OZ l)
def Yw (a:d8) (b:c_) (h:a.length=b.length):((List.range a.length).map λi=>(a.getD i 0,b.getD i V.non))=a.zip b:=by
 apply EJ;intro i;rw [Ac];rcases A5 i a.length with c | c
 ·have d:i<b.length:=by omega
  have e:(a.zip b)[i]?=some (a[i],b[i]):=List.getElem?_zip_eq_some.mpr ⟨AZ c,AZ d⟩;rw [e];simp [c,d]
 ·have d:b.length<=i:=by omega
  rw [BL (by simpa using c),BL (by rw [List.length_zip];omega)];rfl
section
variable {as:dw} {ns:d8} {ys out:c_} {D b:Addr}
def Yx:zF as ns ys D out D=some (.lst out):=by unfold zF;rw [nV rfl]
def Yy (a:b≠D) (c:∀ j:Nat,as[j]?≠some b):zF as ns ys D out b=none:=by
 unfold zF;rw [nU a,dif_neg λ⟨j,e⟩=>c j e]
def Yz {j:Nat} (c:b≠D) (d:as[j]?=some b) (u:∀ i:Nat,as[i]?=some b->i=j):zF as ns ys D out b=some (.tup [.int (ns.getD j 0),ys.getD j .non]):=by
 unfold zF;have a:∃ j:Nat,as[j]?=some b:=⟨j,d⟩;rw [nU c,dif_pos a,u _ a.choose_spec]
def Y1 {o:HO} (h:zF as ns ys D out b=some o):(b=D/\o=.lst out)\/∃ j:Nat,as[j]?=some b/\o=.tup [.int (ns.getD j 0),ys.getD j .non]:=by
 unfold zF at h;split at h
 ·cases h;exact .inl ⟨by assumption,rfl⟩
 ·split at h
  ·rename_i a;cases h;exact .inr ⟨_,a.choose_spec,rfl⟩
  ·cases h
end
section
variable {X:Cx} {a b:Expr} {ta:TA} {p p' pos pos':Pos}
def Y2 (hg:Gl X "sorted") (N:X.mg "sorted" = none) (a2:Gl X "zip") (a3:X.mg "zip" = none) (hc:X.calm=true) (O:PA X [a,b] ta)
  (hs:starEach [a,b] X.env=(false,eval a X.env)::starEach [b] X.env:=by rfl) (a4:(backTo pos' (starEach [b] X.env)).any (·.1)=false:=by rfl)
  (a5:starEach [.Call (.Name "zip" p') [a,b] [] pos'] X.env=[(false,eval (.Call (.Name "zip" p') [a,b] [] pos') X.env)]:=by rfl) :
  PE X (.Call (.Name "sorted" p) [.Call (.Name "zip" p') [a,b] [] pos'] [] pos) (OY ta):=by
 intro K s σ H Q I h;refine wpAny_Call_Name_kw (Dx I hg N YN ?_ ∅ ∅);rw [a5];refine Calls.callWith_builtin rfl (Calls.evalArgs_plain (Calls.spliced_cons (Call_ (Dx I a2 a3 No (PyProof.Rows.callWith_type1 (F_ (O pos' K s σ H _ I h) λus s1 ⟨vs,L,C,r1,q1⟩=>?_) hs a4)))));obtain ⟨l1,l2,d,M,rfl,a6,a7,hl,a8,nd,q⟩:=q1;obtain ⟨u,v,rfl,Y,rv⟩:=vals2 r1;cases Y;cases rv;obtain ⟨R,v1,p1,_⟩:=C.list (SqL.of a6);obtain ⟨Z,v2,p2,_⟩:=C.list (SqL.of a7);refine call_zip_2 p1.isList p2.isList λg z1 z2 z3 z4 z5 gs gk=>Calls.spliced_nil ?_;have n1:@LT.lt Nat _ l1 s1.heap.objs.size:=p1.lt;have n2:@LT.lt Nat _ l2 s1.heap.objs.size:=p2.lt
 have D:ZipApart (s1.heap.objs.size+4) (s1.heap.objs.size+2) (s1.heap.objs.size+3) s1.heap.objs.size (s1.heap.objs.size+1) l1 l2:=by
  constructor <;> (show (_:Nat)≠_;omega)
 obtain ⟨m,hn,_⟩:=id C.loc;have lL:@LT.lt Nat _ X.env.locals s1.heap.objs.size:=by obtain ⟨_,_,_,e,_⟩:=id hn;exact mG e
 have ab:g.Ns X.env.locals m:=by
  obtain ⟨o,es,ep,ho,r⟩:=id hn;exact ⟨o,es,ep,gk _ _ ho,r⟩
 have e1:R.toArray.size=d.length:=by have:=v1.length;simp at this;simp [this]
 have e2:Z.toArray.size=M.length:=by have:=v2.length;simp [this]
 have hk:∀ (j:Nat) x,R.toArray[j]?=some x->∃ t,x=.int (d.getD j 0) t:=λj x hx=>by
  have E:R[j]?=some x:=by simpa using hx
  have f:j<d.length:=by have:=(BK.mp E).1;have:=v1.length;simp at this;omega
  obtain ⟨u,hu,Y⟩:=v1.get (show (d.map V.int)[j]?=some (.int (d.getD j 0)) by simp [f]);rw [E] at hu;cases hu;exact Y
 refine Yv (s:={ s1 with heap:=g }) (ks:=λj=>d.getD j 0) (I.ok.hd hc) D (by rw [e1,e2,hl]) (by rw [e1];exact a8) z1 z2 z3 z4 z5 (p1.isList.at λo e=>gk _ _ e) (p2.isList.at λo e=>gk _ _ e) ab ⟨BI (Nat.lt_add_right _ lL),BI (Nat.lt_add_right _ lL),BI lL,BI (Nat.lt_add_right _ lL)⟩ hk (λi j k f n e=>?_) λas p h' W c la pm so a1 kk P lD dD hD=>?_
 ·rw [e1] at k f;have S:i<d.length:=k;have B:j<d.length:=f;have G:d[i]=d[j]:=by simpa [S,B] using e
  exact n ((List.getElem_inj nd).mp G)
 rw [e1] at la pm so;have gl:s1.heap.objs.size<=g.objs.size:=by rw [gs];exact Nat.le_add_right _ _
 have J:∀ b o,b≠X.env.locals->s1.heap.get? b=some o->h'.get? b=some o:=λb o nb e=>by
  have T:@LT.lt Nat _ b s1.heap.objs.size:=mG e;exact kk b o (BI (Nat.lt_add_right _ T)) (BI (Nat.lt_add_right _ T)) (BI T) (BI (Nat.lt_add_right _ T)) nb (gk b o e)
 have uq:∀ (i j:Nat) (a:Addr),as[i]?=some a->as[j]?=some a->i=j:=λi j a k f=>by
  obtain ⟨_,x,y,hx,_,k1⟩:=P i a k;obtain ⟨_,x',y',E,_,k2⟩:=P j a f;obtain ⟨t,rfl⟩:=hk i x hx;obtain ⟨t',rfl⟩:=hk j x' E;have k3:=congrArg (λo:Option Obj=>match o with | some { data:=.seq a _,.. }=>a[0]? | _=>none) (Eq.trans (Eq.symm k1) k2)
  have k4:d.getD i 0=d.getD j 0:=by
   simp at k3;simpa using k3.1
  have S:i<d.length:=by have:=(BK.mp k).1;omega
  have B:j<d.length:=by have:=(BK.mp f).1;omega
  exact (List.getElem_inj nd).mp (show d[i]=d[j] by simpa [S,B] using k4)
 have gD:∀ i,i<d.length->as[i]?=some (as.getD i 0):=λi k=>by
  have:i<as.length:=by omega
  simp [this]
 have nD:∀ (j:Nat) a,as[j]?=some a->a≠W:=λj a f e=>dD (e ▸ A4 f);have lA:∀ (j:Nat) a,as[j]?=some a->s1.heap.objs.size<=a:=λj a f=>Bg gl (P j a f).1;have pl:p.toList.length=d.length:=by rw [Array.length_toList,pm.size]
 have pi:∀ i∈p.toList,i<d.length:=λi k=>B9.mp (pm.lst.mem_iff.mp k);generalize w:(p.toList.map λi=>as.getD i 0)=A;generalize hF:zF as d M W (A.map V.ref)=F
 have Fn:∀ b,@LT.lt Nat _ b s1.heap.objs.size->F b=none:=λb T=>by
  rw [<-hF];exact Yy (BI (CF T (Bg gl lD))) λj e=>absurd (lA j b e) (Nat.not_le_of_lt T)
 have sm:∀ b o,L b=some o->aO L F b=some o:=λb o e=>(K5 (Fn b (C.hok b o e).lt)).trans e;have FD:aO L F W=some (.lst (A.map V.ref)):=K4 (by rw [<-hF];exact Yx)
 have Fa:∀ i,i<d.length->aO L F (as.getD i 0)=some (.tup [.int (d.getD i 0),M.getD i .non]):=λi k=>K4 (by
  rw [<-hF];exact Yz (nD i _ (gD i k)) (gD i k) λj f=>uq j i _ f (gD i k))
 have fr:L W=none:=C.hok.fresh (Bg gl lD);refine ⟨.ref W,aO L F,?_,rfl,q A (p.toList.map λi=>(d.getD i 0,M.getD i V.non)) W (aO L F) sm fr FD (by rw [<-w,AJ,AJ]) (λj a m O N=>?_) ?_ ?_⟩
 ·show L2.Inv X K σ (aO L F) { s1 with heap:=h' };refine C.step (g':=s1.gens) (d':=s1.drawn) (t':=s1.toks) (ch:=[]) (λ_ z=>nomatch z) (λb o n _ _ e _=>J b o n e) (λb o n _ _ e _=>⟨o.slots,J b o n e⟩) (λb o _ e n=>?_) (λb o _ e=>?_) (λb xs e=>sm b _ e) (λb o u e=>sm b _ e) (λb ps e=>⟨#[],?_⟩) (λm' N=>?_) (λb o e=>?_) C.bare
  ·rw [K5 (Fn b (mG e))];exact n
  ·by_cases U:b=X.env.locals
   ·obtain ⟨o',_,_,G,_⟩:=a1;exact ⟨o',by rw [U];exact G⟩
   ·exact ⟨o,J b o U e⟩
  ·rw [sm b _ e];simp
  ·rw [show m'=m from funext λx=>N.agree hn x];exact a1
  ·cases U:F b with
   | some o'=>
     rw [K4 U] at e;cases e;rw [<-hF] at U;rcases Y1 U with ⟨rfl,rfl⟩ | ⟨j,f,rfl⟩
     ·have ev:(p.toList.map λi=>(as.map Value.ref).getD i Value.none)=A.map Value.ref:=by
       rw [<-w,B3];refine Ce λi k=>?_;have:i<as.length:=by have:=pi i k;omega
       simp [this]
      rw [ev] at hD;exact ⟨by rw [AJ,<-w,AJ,pl,sizeLine_eq];omega,A.map Value.ref,c,OZ A,hD⟩
     ·obtain ⟨_,x,y,hx,hy,k1⟩:=P j b f;obtain ⟨t,rfl⟩:=hk j x hx;have B:j<M.length:=by have:=(BK.mp f).1;omega
      obtain ⟨u,hu,Y⟩:=v2.get (show M[j]?=some (M.getD j .non) by simp [B]);have aj:Z[j]?=some y:=by simpa using hy
      rw [aj] at hu;cases hu;exact ⟨by show 2<=sizeLine;rw [sizeLine_eq];decide,[.int (d.getD j 0) t,y],.cons ⟨_,rfl⟩ (.cons Y .nil),⟨_,k1,rfl,_,rfl⟩⟩
   | none=>
     rw [K5 U] at e;refine (C.hok b o e).stay (λc u hc G=>J c u ?_ G) (λc G=>sm c _ G) λc xs G=>sm c _ G;rintro rfl;rcases hc with z | z
     ·rw [<-z,C.free] at e;cases e
     ·rw [C.free] at z;cases z
 ·rw [<-w,Ac] at O;rw [Ac] at N;cases f:p.toList[j]? with
  | none=>rw [f] at O;cases O
  | some i=>
    rw [f] at O N;cases O;cases N;exact Fa i (pi i (A4 f))
 ·rw [<-Yw d M hl];exact pm.lst.map _
 ·rw [EK,List.pairwise_iff_getElem];intro i j k f al;have:=so i j al ⋯;unfold kp at this;rw [IJ (by simpa using k),IJ (by simpa using f)] at this;exact this
end
end Bs
namespace Bs
open PySem PySem.Spec PyProof.Rows L2
structure Z3A (z TI TO i1 i2 i3:Addr):Prop where
 nd:[z,TI,TO,i1,i2,i3].Nodup
end Bs
namespace Bs
open PySem L2
def IK (K:W.Frag) (d:TE):TI:=λe H R=>d e H λx b=>∃ a,x=.ref a/\((∃ c,SqL K b a c)/\R (aa K a) b\/(∃ c,SqT K b a c)/\R (aw K a) b)
def Y3 {K:W.Frag} {a:Addr} {i:Nat} {xs:c_} {g:TG} {f rest:TS} {D:Ends} {b:L2.St} {H:Hp} (c:H a=some (.tup xs)\/H a=some (.lst xs)) (o:b[i]?=some (some (.ref a))) (Pv:Nat->L2.St->Hp->Prop) (h:Pv 0 b H) (j:∀ i b d,Pv i b d->d a=H a)
  (k:∀ i x b H,xs[i]?=some x->Pv i b H->g x b H λe q=>f { D with nx:=Pv (i+1),ct:=Pv (i+1),bk:=rest D } e q) (n:∀ b H,Pv xs.length b H->rest D b H):AG (BR (IK K (AA i)) g f) rest D b H:=by
 refine ⟨_,o,a,rfl,?_⟩;rcases c with c | c
 ·exact .inr ⟨⟨_,SqT.of c⟩,ForT.by (D:={ D with nx:=rest D }) Pv h (λi b d _ p=>(j i b d p).trans c) k n⟩
 ·exact .inl ⟨⟨_,SqL.of c⟩,ForL.by (D:={ D with nx:=rest D }) Pv h (λi b d _ p=>SqL.of ((j i b d p).trans c)) k n⟩
def Y4 {K:W.Frag} {a:Addr} {i:Nat} {xs:c_} {capt:List (Option Nat)} {g:TG} {j:TE} {f:L2.St} {H:Hp} {Q:VK} (d:H a=some (.tup xs)\/H a=some (.lst xs)) (o:f[i]?=some (some (.ref a))) (W:Nat->c_->Hp->Prop) (k:W 0 [] H) (e:∀ i b c,W i b c->i<=xs.length/\b.length<=sizeLine/\c a=H a)
  (m:∀ i x b H,xs[i]?=some x->W i b H->g x (Cm capt f) H λh q=>j h q λy r=>W (i+1) (b++[y]) r) (n:∀ b H,W xs.length b H->∀ p,H p=none->Q (.ref p) (upd H p (.lst b))):BU (IK K (AA i)) capt g j f H Q:=by
 refine ⟨_,o,a,rfl,?_⟩;rcases d with d | d
 ·exact .inr ⟨⟨_,SqT.of d⟩,CompJ.tup W k (λi b c p=>⟨(e i b c p).1,(e i b c p).2.1,(e i b c p).2.2.trans d⟩) m n⟩
 ·exact .inl ⟨⟨_,SqL.of d⟩,CompJ.lst W k (λi b c p=>⟨(e i b c p).1,(e i b c p).2.1,SqL.of ((e i b c p).2.2.trans d)⟩) m n⟩
end Bs
namespace Bs
open PySem PySem.Spec PyProof.Rows L2
def Oa {X:Cx} {n:Expr} {l:Expr} {k:TE} (r:PE X l k):PI X n l (IK X.K k):=by
 intro c s u H R I h;refine F_ (r c s u H _ I h) λv s1 ⟨x,g,d,w,i⟩=>?_;obtain ⟨a,e,i⟩:=i;subst e;cases w
 have m:∀ b,b∈[s1.heap.objs.size]->DL X c g b:=λb y=>by
  rw [Aw.mp y];exact d.fpOk (AR _) (d.hok.fresh (AR _))
 rcases i with ⟨⟨z,j⟩,q⟩ | ⟨⟨z,j⟩,q⟩
 ·obtain ⟨f,A,p,B⟩:=d.list j;refine wpAny_pyIter_list p.isList ?_;exact ⟨s1.heap.objs.size,[s1.heap.objs.size],_,_,g,rfl,d.kept (t':=s1.toks) λb o e=>Heap.get?_push_of_some _ e,NC a _,⟨_,Heap.get?_push_size _ rfl,rfl,rfl⟩,m,q⟩
 ·obtain ⟨f,A,p,B⟩:=d.tuple j;refine wpAny_pyIter_tuple (show s1.heap.IsTuple a f.toArray from p) ?_;exact ⟨s1.heap.objs.size,[s1.heap.objs.size],_,_,g,rfl,d.kept (t':=s1.toks) λb o e=>Heap.get?_push_of_some _ e,ND a _,⟨_,Heap.get?_push_size _ rfl,rfl,rfl⟩,m,q⟩
end Bs
namespace Bs
open PySem L2
noncomputable def Ja (K:W.Frag) (a:Addr):It:=
 ⟨λi H=>∃ b x,SqL K H a b/\b[i]?=some x,λi H v c=>∃ p x,H p=none/\v=.ref p/\c=upd H p (.tup [.int ((i:Int)+1),x])/\∀ b,SqL K H a b->b[i]?=some x,λi H=>∃ b,SqL K H a b/\b.length<=i⟩
def K6 (K:W.Frag) (c:TA):TI:=λd H R=>c d H λe b=>∃ a,e=[.ref a]/\(∃ f,SqL K b a f)/\R (Ja K a) b
def ForJ.enumC {K:W.Frag} {g:TG} {d:TS} {D:Ends} {b:L2.St} {H:Hp} {a:Addr} {xs:c_} (Pv:Nat->L2.St->Hp->Prop) (j:Pv 0 b H) (k:∀ i b H,i<=xs.length->Pv i b H->SqL K H a xs)
  (n:∀ (i:Nat) x p b H,xs[i]?=some x->Pv i b H->H p=none->g (.ref p) b (upd H p (.tup [.int ((i:Int)+1),x])) λc o=>d { D with nx:=Pv (i+1),ct:=Pv (i+1),bk:=D.nx } c o) (r:∀ b H,Pv xs.length b H->D.nx b H):ForJ (Ja K a) g d D b H:=by
 refine ⟨λi m b H=>m=xs.length - i/\i<=xs.length/\Pv i b H,⟨xs.length,by simp,Ae _,j⟩,?_⟩;rintro i m b H ⟨rfl,u,pv⟩;have q:=k i b H u pv;by_cases f:i<xs.length
 ·refine .inr ⟨⟨xs,xs[i],q,by simp [f]⟩,Pv (i+1),λv w h=>⟨xs.length - (i+1),⋯,rfl,f,h⟩,λx w y=>?_⟩;obtain ⟨p,x,hp,rfl,rfl,z⟩:=y;exact n i x p b H (z xs q) pv hp
 ·have e:i=xs.length:=by omega
  subst e;exact .inl ⟨⟨xs,q,AR _⟩,r b H pv⟩
end Bs
namespace Bs
open PySem PySem.Spec PySem.Calls PyProof.Rows L2
theorem Y5 {prog:Program} {w:World} {A:Around} {E:de} {s:Shared} {T b:String} {Bn:Builtin} {a:dc} {h:List (Str×Value)} {S:PySem.Spec} {Q:de} (tc:TypeCalled T b "object.__init__") (k:(some b != some "object.__new__")=true) (n:typeLookup (.type T) "__init__" = pure (some (.builtin "object.__init__")))
  (o:checkTypeCall T ⟨a,h⟩=pure Unit.unit) (p:checkBuiltinCall b ⟨.type T::a,h⟩=pure Unit.unit) (u:∀ d,argsOk "object.__init__" ⟨d::a,h⟩) (en:entryFor table b=some Bn) (m:Meets (Bn ⟨.type T::a,h⟩) S) (x:S A.in1 (wants (λd g=>g.TypeIs d T/\Q d g) E) s):wpAny (model prog w) A (call (.type T) a h) Q E s:=by
 refine wpAny_call (codeAny_of_tree ?_);show wpAny _ _ (pure (Fin.again (Code.builtin "type.__call__" ⟨.type T::a,h⟩))) _ _ _;refine mD ⟨Code.quiet_builtin _ (by decide +kernel),codeAny_builtin entry_typeCall ?_⟩
 have y:A.under (Code.builtin "type.__call__" ⟨.type T::a,h⟩)=A.in1:=by
  unfold Around.under;rw [units_type_call_type];rfl
 rw [y];simp only [Builtin.«type.__call__»,tc.notType,if_false,Dw,tc.canCreate];refine mC (wpAny_of_eq o ?_);obtain ⟨c,B,z⟩:=tc.mro;refine mC (wpAny_of_eq z ?_);simp only [List.isEmpty_cons,if_false,Dw];refine mC (wpAny_of_eq tc.made ?_);refine mC (mD ?_);refine mC (wpAny_holding (wpAny_call (codeAny_mono (codeAny_call_builtin tc.plain en (wpAny_of_eq p (m prog w A.in1 _ s x))) λr C j=>?_)));cases r with
 | error e=>exact j
 | ok f=>
   cases f with
   | ret v=>
     obtain ⟨i,q⟩:=j;refine mC (wpAny_isInstance i tc.sub ?_);simp only [Bool.not_true,if_false,Dw];refine mC (wpAny_holding (wpAny_callSpecial?_slot i tc.init ?_));refine wpAny_call_entry_kw tc.init i F.entry_object_init ?_ (u v);simp only [Builtin.«object.__init__»];split
     ·refine mC (wpAny_typeOf i (mC (wpAny_of_eq n ?_)));refine mC (wpAny_of_eq tc.made ?_);simp only [k,Bool.or_true,Bool.not_true,if_false,Dw,bne_self_eq_false];exact mD ⟨Value.none,rfl,mD q⟩
     ·exact mD ⟨Value.none,rfl,mD q⟩
   | _=>exact j.elim
open PySem.AutoSeq1 (wpAny_loadPart')
set_option maxHeartbeats 4000000 in
def Y6 {l:Addr} {a:Array Value} {t:Tok} (n:Nat) (k:Array (du)) :
  Meets (Builtin.«enumerate.__new__» ⟨[.type "enumerate", .ref l],[("start", .int 1 t)]⟩) (λ_ R s=>s.heap.get? l=some { cls:=.type "list", dict:=none,data:=.seq a n,slots:=k }/\
   R (.ok (.ret (.ref (s.heap.push { cls:=.type "list_iterator", data:=.fields #[.ref l,.int 0 0] }).objs.size)))
     { s with heap:=(s.heap.push { cls:=.type "list_iterator", data:=.fields #[.ref l,.int 0 0] }).push { cls:=.type "enumerate", data:=.fields #[.none,.bool false,.ref s.heap.objs.size,rawInt 1,.none,.none] } }):=
 .of_wp λg w A R s h=>by
  obtain ⟨m,o,p,q,os⟩:=s;obtain ⟨e,h⟩:=h;have i:=sub_enumerate;have j:Heap.IsList (Shared.heap ⟨m,o,p,q,os⟩) l a:=⟨_,e,rfl,n,rfl⟩
  wp_walk using wpAny_loadPart' e
  refine wpAny_stack_any λr=>mD ?_;split
  ·rename_i c _ _ _ _ _;cases (c == Value.type "enumerate") <;> (wp_walk using wpAny_loadPart' e,wpAny_pyIter_list j;exact ⟨_,rfl,h⟩)
  ·wp_walk using wpAny_loadPart' e,wpAny_pyIter_list j
   exact ⟨_,rfl,h⟩
def Y7 (a b:Value):checkTypeCall "enumerate" ⟨[a],[("start", b)]⟩=pure Unit.unit:=by kernel_rfl
def Y8 (a b:Value):checkBuiltinCall "enumerate.__new__" ⟨[.type "enumerate", a],[("start", b)]⟩=pure Unit.unit:=by kernel_rfl
def Y9 (a b c:Value):argsOk "object.__init__" ⟨[a,b],[("start", c)]⟩:=by
 unfold argsOk;rw [signature?_of (id := "object.__init__") (n:=['_','_','t','i','n','i','_','_']) (o:=['t','c','e','j','b','o']) (by kernel_rfl) PySem.F.owner_object];kernel_rfl
def ZA:typeLookup (.type "enumerate") "__init__" = pure (some (.builtin "object.__init__")):=by rw [typeLookup_type,builtinLookup_eq_fast];kernel_rfl
open PySem.AutoSeq1 (wpAny_loadPart')
section
variable {prog:Program} {w:World} {A:Around} {E:de} {s:Shared} {e it t:Addr} {i:Nat} {c:Int} {zs:Array Value}
def ZB {x a:Value} {Q:de} (K:IsEnum s.heap e it c a) (si:s.heap.IsListIter it t i) (st:s.heap.IsList t zs) (hx:zs[i]?=some x) (B:e≠it)
  (hQ:∀ g,IsEnumOut g e it (c+1) x s.heap.objs.size->g.IsListIter it t (i+1)->g.get? s.heap.objs.size=some { cls:=.type "tuple", data:=.seq #[.int c s.toks,x] }->
   (∀ b o,b≠e->b≠it->s.heap.get? b=some o->g.get? b=some o)->Q (.ref s.heap.objs.size) { s with heap:=g,toks:=s.toks+1 }) :
  wpAny (model prog w) A (Builtin.«enumerate.__next__» ⟨[.ref e],[]⟩) (λL s'=>∃ v,L=.done (.ret v)/\Q v s') E s:=by
 obtain ⟨h,j,k,d,os⟩:=s;show wpAny _ _ (field (.ref e) 2 >>= _) _ _ _;refine mC (wpAny_field K rfl (x:=.ref it) rfl ?_);refine mC (wpAny_nextOf_list_item si st hx λm i1 p=>?_);replace p:Heap.SameBut it h m:=p;have C:IsEnum m e it c a:=(p.2 e B).trans K;show wpAny _ _ (field (.ref e) 3 >>= _) _ _ ⟨m,j,k,d,os⟩;refine mC (wpAny_field C rfl (x:=rawInt c) rfl ?_);show wpAny _ _ (field (.ref e) 4 >>= _) _ _ ⟨m,j,k,d,os⟩;refine mC (wpAny_field C rfl (x:=.none) rfl ?_);show wpAny _ _ (mkInt c >>= _) _ _ ⟨m,j,k,d,os⟩;refine mC (wpAny_mkInt ?_);show wpAny _ _ (setField (.ref e) 3 (rawInt (c+1)) >>= _) _ _ ⟨m,j,k,d+1,os⟩;refine mC (wpAny_setField_rec C (by simp) λy D q=>?_);replace q:Heap.SameBut e m y:=q;replace D:IsEnum y e it (c+1) a:=D;show wpAny _ _ (setField (.ref e) 4 .none >>= _) _ _ ⟨y,j,k,d+1,os⟩;refine mC (wpAny_setField_rec D (by simp) λn F r=>?_);replace r:Heap.SameBut e y n:=r;replace F:IsEnum n e it (c+1) a:=F;show wpAny _ _ (newTuple [.int c d,x] >>= _) _ _ ⟨n,j,k,d+1,os⟩;refine mC (wpAny_newTuple ?_);have G:IsEnum (n.push { cls:=.type "tuple", data:=.seq #[.int c d,x] }) e it (c+1) a:=Heap.get?_push_of_some _ F;generalize H:n.push { cls:=.type "tuple", data:=.seq #[.int c d,x] }=u at G;have M:n.objs.size=h.objs.size:=by rw [r.1,q.1,p.1]
 have le:e<h.objs.size:=mG K;have t4:u.get? h.objs.size=some { cls:=.type "tuple", data:=.seq #[.int c d,x] }:=by rw [<-H,<-M];exact Heap.get?_push_size _ rfl
 have k4:∀ b o,b≠e->b≠it->h.get? b=some o->u.get? b=some o:=λb o f z N=>by
  rw [<-H];exact Heap.get?_push_of_some _ (r.extBut b o f (q.extBut b o f (p.extBut b o z N)))
 have i4:u.IsListIter it t (i+1):=by
  obtain ⟨o,O,P⟩:=i1;exact ⟨o,by rw [<-H];exact Heap.get?_push_of_some _ (r.extBut it o B.symm (q.extBut it o B.symm O)),P⟩
 show wpAny _ _ (Builtin.SmallTypes.ownedTupleIsFree (.ref e) >>= _) _ _ ⟨u,j,k,d+1,os⟩;rw [M];clear H F r D q C p i1 M n y m;refine mC ?_;unfold Builtin.SmallTypes.ownedTupleIsFree;refine mC (wpAny_field G rfl (x:=.none) rfl (mD ?_));simp only [if_true];refine mC (wpAny_rule (mC (wpAny_field G rfl (x:=a) rfl (mC (wpAny_setField_rec G (by simp) λI R S=>?_)))));replace S:Heap.SameBut e u I:=S;replace R:IsEnum I e it (c+1) x:=R;show wpAny _ _ (Builtin.SmallTypes.ownedTupleHandOut (.ref e) (.ref h.objs.size) >>= _) _ _ ⟨I,j,k,d+1,os⟩;refine mC ?_;unfold Builtin.SmallTypes.ownedTupleHandOut;refine mC (wpAny_setField_rec R (by simp) λT U W=>?_);replace W:Heap.SameBut e I T:=W;replace U:IsEnumOut T e it (c+1) x h.objs.size:=U;refine wpAny_setField_rec U (by simp) λJ X Y=>?_;replace Y:Heap.SameBut e T J:=Y;replace X:IsEnumOut J e it (c+1) x h.objs.size:=X;have Z:∀ b o,b≠e->u.get? b=some o->J.get? b=some o:=λb o f z=>Y.extBut b o f (W.extBut b o f (S.extBut b o f z));refine mC (wpAny_letGo (mD ⟨_,rfl,hQ J X ?_ (Z _ _ (DG le) t4) λb o f z N=>Z b o f (k4 b o f z N)⟩));obtain ⟨o,O,P⟩:=i4;exact ⟨o,Z it o B.symm O,P⟩
def ZC {x d:Value} {Q:du->Shared->Prop} (f:IsEnum s.heap e it c d) (si:s.heap.IsListIter it t i) (st:s.heap.IsList t zs) (n:zs[i]?=some x) (p:e≠it)
  (q:∀ g,IsEnumOut g e it (c+1) x s.heap.objs.size->g.IsListIter it t (i+1)->g.get? s.heap.objs.size=some { cls:=.type "tuple", data:=.seq #[.int c s.toks,x] }->
   (∀ b o,b≠e->b≠it->s.heap.get? b=some o->g.get? b=some o)->Q (some (.ref s.heap.objs.size)) { s with heap:=g,toks:=s.toks+1 }):wpAny (model prog w) A (pyNext (.ref e)) Q E s:=by
 have m:s.TypeIs (.ref e) "enumerate" := ⟨_,f,rfl⟩;unfold pyNext;exact mC (wpAny_attempt (wpAny_callSpecial?_slot (name:=Str.ofString "__next__") m F.slot_enumerate_next (wpAny_call_entry F.slot_enumerate_next m F.entry_enumerate_next (ZB f si st n p λg a b c k=>mD (q g a b c k)) (F.args_enumerate_next_1 _))))
def ZD {a:Value} {Q:du->Shared->Prop} (j:A.handled=none) (d:IsEnum s.heap e it c a) (si:s.heap.IsListIter it t i) (st:s.heap.IsList t zs) (k:zs[i]?=none)
  (m:∀ g,Heap.ExtBut it s.heap g->Q none { s with heap:=g }):wpAny (model prog w) A (pyNext (.ref e)) Q E s:=by
 have h:s.TypeIs (.ref e) "enumerate" := ⟨_,d,rfl⟩;unfold pyNext;refine mC (wpAny_attempt (wpAny_callSpecial?_slot (name:=Str.ofString "__next__") h F.slot_enumerate_next (wpAny_call_entry F.slot_enumerate_next h F.entry_enumerate_next ?_ (F.args_enumerate_next_1 _))));show wpAny _ _ (field (.ref e) 2 >>= _) _ _ _;refine mC (wpAny_field d rfl (x:=.ref it) rfl (mC (wpAny_nextOf_list_end j si st k λg x n ⟨o,p,q⟩=>?_)));exact mC (wpAny_isInstance (T := "StopIteration") (b:=true) ⟨o,p,q⟩ isSubtype_stop (mD (m _ n)))
def ZE {tk:Tok} {Q:de} (v:s.heap.IsList t zs) (a:∀ o,s.heap.get? t=some o->o.dict=none)
  (h:∀ g,IsEnum g (s.heap.objs.size+1) s.heap.objs.size 1 .none->g.IsListIter s.heap.objs.size t 0->(∀ b o,s.heap.get? b=some o->g.get? b=some o)->Q (.ref (s.heap.objs.size+1)) { s with heap:=g }) :
  wpAny (model prog w) A (call (.type "enumerate") [.ref t] [("start", .int 1 tk)]) Q E s:=by
 obtain ⟨⟨c,d,y,B⟩,q,f,n,j⟩:=v;have k:d=none:=a _ q;replace f:c=.type "list" := f;replace j:y=.seq zs n:=j;subst f j k;refine Y5 F.called_enumerate ∅ ZA (Y7 _ _) (Y8 _ _) (λm=>Y9 m _ _) F.entry_enumerate_new (Y6 n B) ⟨q,?_⟩;have r:(s.heap.push { cls:=.type "list_iterator", data:=.fields #[.ref t,.int 0 0] }).objs.size=s.heap.objs.size+1:=Heap.size_push ..;show _/\_;rw [r]
 have u:IsEnum ((s.heap.push { cls:=.type "list_iterator", data:=.fields #[.ref t,.int 0 0] }).push { cls:=.type "enumerate", data:=.fields #[.none,.bool false,.ref s.heap.objs.size,rawInt 1,.none,.none] }) (s.heap.objs.size+1) s.heap.objs.size 1 .none:=by
  have z:=Heap.get?_push_size (s.heap.push { cls:=.type "list_iterator", data:=.fields #[.ref t,.int 0 0] }) (o:={ cls:=.type "enumerate", data:=.fields #[.none,.bool false,.ref s.heap.objs.size,rawInt 1,.none,.none] }) rfl;rw [r] at z;exact z
 exact ⟨⟨_,u,rfl⟩,h _ u ⟨_,Heap.get?_push_of_some _ (Heap.get?_push_size _ rfl),rfl,rfl⟩ λb o x=>Heap.get?_push_of_some _ (Heap.get?_push_of_some _ x)⟩
end
def ZF {P:Program} {w:World} {K:W.Frag} {y:dj} {k:Nat} {pos:Pos} (a e m:Addr) (S:e≠m):Turn P w K (.Tuple y k pos) (Ja K a) [e,m] e (λi h=>(∃ f,IsEnum h e m ((i:Int)+1) f)/\h.IsListIter m a i) where
 mem:=by simp
 obj:=λi h n b r=>by
  obtain ⟨⟨f,j⟩,o,F,c,d⟩:=n
  have z:b=e\/b=m:=by simpa using r
  rcases z with rfl | rfl
  ·exact ⟨_,j,λv z=>nomatch z⟩
  ·exact ⟨o,F,λv z=>by rw [d] at z;cases z⟩
 keep:=λi h h' n T=>⟨let ⟨f,j⟩:=n.1;⟨f,T e (by simp) _ j⟩,n.2.at λo q=>T m (by simp) o q⟩
 item:=by
  intro X G J L U i A s σ H E I B n M
  subst G J L
  obtain ⟨Y,x,D,N⟩:=M
  obtain ⟨⟨f,j⟩,si⟩:=n
  obtain ⟨C,O,p,hz⟩:=I.list D
  obtain ⟨u,hu,ru⟩:=O.get N
  refine ZC j si p.isList (x:=u) (by simpa using hu) S λg eo gi gt gk=>?_
  refine ⟨_,rfl,wpAny_letOwnedTupleGo_enum eo λg' Q R=>?_⟩
  have I1:=Nv (g:=g') (tk:=s.toks+1) (xs:=[.int ((i:Int)+1),x]) (its:=[.int ((i:Int)+1) s.toks,u]) I (B e (by simp)) (B m (by simp)) (λb o Z h2 q=>R.extBut b o Z (gk b o Z h2 q)) (sz (by simp)) (.cons ⟨_,rfl⟩ (.cons ru .nil)) (R.extBut _ _ (DG (mG j)) gt)
  refine ⟨.ref s.heap.objs.size,_,I1,rfl,⟨_,x,I.hok.fresh (AR _),rfl,rfl,λys hy=>by rw [I.list_inj hy D];exact N⟩,⟨⟨_,by simpa using Q⟩,gi.at λo q=>R.extBut m o S.symm q⟩,λb r=>?_⟩
  rw [Ad]
  ·exact (B b r).1
  ·have z:b=e\/b=m:=by simpa using r
   rcases z with rfl | rfl
   ·exact BI (mG j)
   ·obtain ⟨o,F,_⟩:=si;exact BI (mG F)
 done:=by
  intro X G J L U i A s σ H E I B n M
  subst G J L
  obtain ⟨Y,D,N⟩:=M
  obtain ⟨⟨f,j⟩,si⟩:=n
  obtain ⟨C,O,p,hz⟩:=I.list D
  obtain ⟨f0,f1,f2,f3,f4,f5⟩:=B m (by simp)
  have hl:=O.length
  exact ZD (I.ok.hd U) j si p.isList (by simp;omega) λg eb=>⟨rfl,I.turned (t':=s.toks) (λb o r q=>eb b o r q) f0 f1 f3 f4 f5⟩
 self:=λ_ _ _ _ _ n h=>let ⟨_,j⟩:=n.1;wpAny_pyIter_enum j h
def ZG {M:Model} {A:Around} {E:de} {s:Shared} {pos:Pos} {T:String} {c:List (Bool×Sem Value)} {b:List (Option Str×Sem Value)} {Q:de} (f:(c.any λx=>x.1)=false) (g:(b.any λx=>x.1.isNone)=false)
  (h:wpAny M A (evalArgs (.type T) true c b) (λa d=>wpAny M A (call (.type T) a.pos a.kw) Q E d) E s):wpAny M A (callWith pos (.type T) [] c b) Q E s:=by
 unfold callWith;refine mC (wpAny_holding (mE h (λa s1 i=>?_) λ_ _ e=>e));refine mC (wpAny_standAt ?_);simp only [f,g,Bool.or_false];show wpAny _ _ (pure Keeper.machine >>= _) _ _ _;refine mC (mD ?_);exact mC (mE i (λr k j=>mC (wpAny_holding (wpAny_point (mD j)))) λ_ _ e=>e)
section
variable {X:Cx} {elts:dj} {k:Nat} {tpos:Pos} {a:Expr} {ta:TA} {p pos kp1 kp2:Pos} {kk:Nat}
def ZH (D:Gl X "enumerate") (E:X.mg "enumerate" = none) (F:PA X [a] ta) (w:backTo pos (starEach [a] X.env)=(false,eval a X.env)::backTo pos (starEach [] X.env):=by rfl):PI X (.Tuple elts k tpos) (.Call (.Name "enumerate" p) [a] [⟨some "start", .Constant (.int 1) kk kp1,kp2⟩] pos) (K6 X.K ta):=by
 intro f s r H R I h;refine wpAny_Call_Name_kw (Dx I D E Nl ?_ ∅ ∅);refine ZG (by rw [w];rfl) (by rfl) ?_;have hp:=F pos f s r H _ I h;rw [w] at hp ⊢;refine evalArgs_kwB (by rfl) (F_ hp λZ s1 ⟨x,y,G,J,K⟩=>?_);have L:PK X [⟨some "start", .Constant (.int 1) kk kp1,kp2⟩] (AB (tC (.int 1)) AC):=NQ AF NP;refine F_ (L pos f s1 r y (λx m=>x=[.int 1]/\m=y) G ⟨rfl,rfl⟩) λws i ⟨zs,m,j,M,N,O⟩=>?_;subst N O;obtain ⟨z,rfl,t,rfl⟩:=EM M;obtain ⟨b,rfl,⟨xs,P⟩,q⟩:=K;obtain ⟨u,rfl,Q⟩:=EM J;cases Q;obtain ⟨S,rv,A,hz⟩:=j.list P
 have v:∀ o,i.heap.get? b=some o->o.dict=none:=λo T=>by
  obtain ⟨o',n,e,_,d,_⟩:=A;rw [T] at e;cases e;exact d
 show wpAny _ _ (call (.type "enumerate") [.ref b] [("start", .int 1 t)]) _ _ _;refine ZE A.isList v λg B si U=>?_;have W:Inv X f r m { i with heap:=g }:=j.kept (t':=i.toks) U;refine wpAny_pyIter_enum B ⟨_,[i.heap.objs.size+1,i.heap.objs.size],_,_,m,rfl,W,ZF b _ _ (Nat.succ_ne_self _),⟨⟨_,by simpa using B⟩,si⟩,λc Y=>?_,q⟩;have z:c=i.heap.objs.size+1\/c=i.heap.objs.size:=by simpa using Y
 rcases z with rfl | rfl
 ·exact j.fpOk (Nat.le_succ _) (j.hok.fresh (Nat.le_succ _))
 ·exact j.fpOk (AR _) (j.hok.fresh (AR _))
end
end Bs
namespace Bs
def Bd.one:Bd 1 1:=by unfold Bd;decide
theorem Bd.pow {b:Nat} {x:Int} (h:Bd b x) (k:Nat):Bd (b*k+1) (x ^ k):=by
 induction k with
 | zero=>rw [Int.pow_zero,Nat.mul_zero];exact Bd.one
 | succ k a=>
   have e:b*(k+1)+1=(b*k+1)+b:=by rw [Nat.mul_add,Nat.mul_one];omega
   rw [Int.pow_succ,e];exact a.mul h
noncomputable abbrev Nu:=Int×Int
abbrev cW:=List (Nat×d8)
abbrev cV:=List Nu
abbrev cU:=(cV)
abbrev cQ:=List (Nu×PySem.Addr×cV)
abbrev cP:=List (Nat×cV)
abbrev cO:=List (Nu×cV)
noncomputable def W_ (n m:Int):Nu:=(n / ((Int.gcd n m:Nat):Int),m / ((Int.gcd n m:Nat):Int))
noncomputable def L_ (q r:Nu):Nu:=W_ (q.1*r.2+r.1*q.2) (q.2*r.2)
noncomputable def G_ (q r:Nu):Nu:=W_ (q.1*r.1) (q.2*r.2)
def Wo (q:Nu) (n m:Int):Prop:=q.1*m=n*q.2
def Co {n m:Int} (b:0<m):Low (W_ n m).1 (W_ n m).2:=(Kh (a:=n) b).1
def Fl {n m:Int} (c:0<m):Wo (W_ n m) n m:=by
 have h:=(Kg (a:=n) (b:=m) (s:=((Int.gcd n m:Nat):Int)) ⋯ (by rw [nU ⋯])).2.2.2.1;rw [Dv _ ⋯,Dv _ ⋯] at h;exact h
def K7 {a b d:Int} (h:Low a b) (e:b∣a*d):b∣d:=by
 have c:Nat.Coprime b.natAbs a.natAbs:=by
  have:Nat.Coprime a.natAbs b.natAbs:=h.one;exact this.symm
 have z:=C5.mpr e;rw [Bx] at z;exact C5.mp (c.dvd_of_dvd_mul_left z)
def Ob {a b c d:Int} (f:Low a b) (g:Low c d) (h:a*d=c*b):a=c/\b=d:=by
 have i:b∣d:=K7 f ⟨c,by rw [h,Int.mul_comm]⟩;have j:d∣b:=K7 g ⟨a,by rw [<-h,Int.mul_comm]⟩;have e:b=d:=Int.dvd_antisymm (DS f.pos) (DS g.pos) i j;subst e;exact ⟨Int.eq_of_mul_eq_mul_right (AV f.pos) h,rfl⟩
def Oc {q r:Nu} {n m:Int} (c:Low q.1 q.2) (d:Low r.1 r.2) (f:m≠0) (g:Wo q n m) (h:Wo r n m):q=r:=by
 unfold Wo at g h
 have e:q.1*r.2=r.1*q.2:=by
  have z:m*(q.1*r.2)=m*(r.1*q.2):=by ext
  exact Int.eq_of_mul_eq_mul_left f z
 obtain ⟨a,b⟩:=Ob c d e;exact Prod.ext a b
def IL {q:Nu} {n m:Int} (c:Low q.1 q.2) (b:0<m) (w:Wo q n m):q.1.natAbs<=n.natAbs/\q.2.natAbs<=m.natAbs:=by
 have e:q=W_ n m:=Oc c (Co b) (AV b) w (Fl b);subst e;exact ⟨(Kh (a:=n) b).2.1,(Kh (a:=n) b).2.2.1⟩
def ZI {q r:Nu} (a:0<q.2) (b:0<r.2):Low (G_ q r).1 (G_ q r).2:=Co (CM a b)
def Od {m:Int} (a:0<m):W_ 0 m=(0,1):=Oc (Co a) ⟨∅,∅⟩ (AV a) (Fl a) (by unfold Wo;omega)
noncomputable def B6 (l:cV):Nat->Nat
 | 0=>0
 | m+1=>if (l.getD m (1,1)).1=0 then B6 l m else m+1
noncomputable def trim (l:cV):cV:=l.take (B6 l l.length)
theorem K8 (l:cV):∀ m,B6 l m<=m
 | 0=>AR 0
 | m+1=>by
   unfold B6;split
   ·exact Nat.le_succ_of_le (K8 l m)
   ·exact AR _
theorem Oe (l:cV):∀ m,B6 l m=0\/(l.getD (B6 l m - 1) (1,1)).1≠0
 | 0=>.inl rfl
 | m+1=>by
   unfold B6;split
   ·exact Oe l m
   ·rename_i h;exact .inr h
def Nz (l:cV):Prop:=∀ q,l.getLast?=some q->q.1≠0
def Of {l:cV} (h:Nz l):trim l=l:=by
 unfold trim
 have e:B6 l l.length=l.length:=by
  cases b:l.length with
  | zero=>rfl
  | succ m=>
    unfold B6;have a:m<l.length:=by omega
    have z:(l.getD m (1,1)).1≠0:=by
     have q:=h l[m] (by rw [F9,b];simp [a]);rw [AQ,AZ a];exact q
    rw [nU z]
 rw [e,CQ]
def GQ (l:cV):Nz (trim l):=by
 intro q a;unfold trim at a;have b:=K8 l l.length;rw [F9,CG,Nat.min_eq_left b] at a;rcases Oe l l.length with z | z
 ·rw [z] at a;simp at a
 ·by_cases c:B6 l l.length=0
  ·rw [c] at a;simp at a
  ·rw [List.getElem?_take_of_lt ⋯] at a;rw [AQ,a] at z;exact z
def EQ {l:cV} {q:Nu} (h:q∈trim l):q∈l:=FX h
def GS (l:cV):(trim l).length<=l.length:=by
 unfold trim;rw [CG];omega
def Af (l:cV):Prop:=∀ q∈l,Low q.1 q.2
def Og (n:Nat) (l:cV):Prop:=∀ q∈l,Bd n q.1/\Bd n q.2
noncomputable def Aj (l:cV) (i:Nat):Nu:=l.getD i (0,1)
def IM:Low 0 1:=⟨∅,∅⟩
theorem Es {l:cV} (h:Af l) (i:Nat):Low (Aj l i).1 (Aj l i).2:=by
 unfold Aj;rw [AQ];cases e:l[i]? with
 | none=>exact IM
 | some q=>exact h q (A4 e)
noncomputable def Ab (l:cV):Int:=l.foldl (λB q=>B*(q.2 / ((Int.gcd B q.2:Nat):Int))) 1
noncomputable def AS (l:cV):d8:=l.map λq=>q.1*(Ab l / q.2)
def K9 {B d:Int} (b:0<B) (c:0<d):0<B*(d / ((Int.gcd B d:Nat):Int))/\B∣B*(d / ((Int.gcd B d:Nat):Int))/\d∣B*(d / ((Int.gcd B d:Nat):Int))/\(d / ((Int.gcd B d:Nat):Int)).natAbs<=d.natAbs/\0<((Int.gcd B d:Nat):Int)/\((Int.gcd B d:Nat):Int)<=d:=by
 have f:0<Int.gcd B d:=Int.gcd_pos_of_ne_zero_right B ⋯;obtain ⟨k,hk⟩:((Int.gcd B d:Nat):Int)∣d:=EH B d;obtain ⟨m,g⟩:((Int.gcd B d:Nat):Int)∣B:=E5 B d;have a:(0:Int)<((Int.gcd B d:Nat):Int):=by omega
 have e:d / ((Int.gcd B d:Nat):Int)=k:=by
  have z:d / ((Int.gcd B d:Nat):Int)=(((Int.gcd B d:Nat):Int)*k) / ((Int.gcd B d:Nat):Int):=by rw [<-hk]
  rw [z,FY _ (AV a)]
 have kp:0<k:=by
  rcases Int.lt_or_le 0 k with h | h
  ·exact h
  ·exfalso;have:=Int.mul_nonneg (DS a) (show 0<=-k by omega);rw [Int.mul_neg] at this;omega
 have i:((Int.gcd B d:Nat):Int)<=d:=Int.le_of_dvd c (EH B d);refine ⟨by rw [e];exact CM b kp,Int.dvd_mul_right ..,?_,?_,a,i⟩
 ·rw [e];refine ⟨m,?_⟩;have z:d*m=((Int.gcd B d:Nat):Int)*k*m:=by rw [<-hk]
  have j:B*k=((Int.gcd B d:Nat):Int)*m*k:=by rw [<-g]
  rw [z,j];ext
 ·rw [e]
  have z:d.natAbs=(Int.gcd B d)*k.natAbs:=by
   have:d.natAbs=(((Int.gcd B d:Nat):Int)*k).natAbs:=by rw [<-hk]
   rw [this,Bx];simp
  rw [z];exact Gs _ f
theorem Oh {b:Nat}:∀ (l:cV) (B:Int) (c:Nat),(∀ q∈l,0<q.2/\Bd b q.2)->0<B->Bd c B->
  0<l.foldl (λB q=>B*(q.2 / ((Int.gcd B q.2:Nat):Int))) B/\B∣l.foldl (λB q=>B*(q.2 / ((Int.gcd B q.2:Nat):Int))) B/\(∀ q∈l,q.2∣l.foldl (λB q=>B*(q.2 / ((Int.gcd B q.2:Nat):Int))) B)/\Bd (c+b*l.length) (l.foldl (λB q=>B*(q.2 / ((Int.gcd B q.2:Nat):Int))) B)
 | [],B,c,_,d,e=>⟨d,Int.dvd_refl B,(λ_ h=>nomatch h),by simpa using e⟩
 | q::l,B,c,h,d,e=>by
   obtain ⟨g,i⟩:=h q (Au ..);obtain ⟨s1,j,k,m,_,_⟩:=K9 d g;obtain ⟨n,f,o,p⟩:=Oh l (B*(q.2 / ((Int.gcd B q.2:Nat):Int))) (c+b) (λr a=>h r (A3 _ a)) s1 (e.mul (i.le m));rw [List.foldl_cons];refine ⟨n,CS j f,λr a=>?_,p.mono (by rw [CP,Nat.mul_add,Nat.mul_one];omega)⟩;rcases Bc.mp a with rfl | a
   ·exact CS k f
   ·exact o r a
def Oi {b:Nat} {l:cV} (c:Af l) (d:Og b l):0<Ab l/\(∀ q∈l,q.2∣Ab l)/\Bd (1+b*l.length) (Ab l):=by
 obtain ⟨e,_,f,g⟩:=Oh (b:=b) l 1 1 (λq a=>⟨(c q a).pos,(d q a).2⟩) ∅ Bd.one;exact ⟨e,f,g⟩
def ZJ {B d:Int} (a:0<B) (b:0<d):(B / d).natAbs<=B.natAbs:=by
 have c:0<=B / d:=Int.ediv_nonneg (DS a) (DS b);have e:B / d<=B:=Int.ediv_le_self d (DS a);omega
def ZK {q:Nu} {B:Int} (a:q.2∣B):Wo q (q.1*(B / q.2)) B:=by
 unfold Wo;rw [Int.mul_assoc,Int.ediv_mul_cancel a]
noncomputable def ps (b a:d8):Nat->dC
 | 0,_=>0
 | i+1,k=>ps b a i k+(if i<=k/\k - i<a.length then b.getD i 0*a.getD (k - i) 0 else 0)
noncomputable def b8 (a b:d8) (i j k:Nat):Int:=ps a b i k+(if i<=k/\k - i<j then a.getD i 0*b.getD (k - i) 0 else 0)
def ZL (a b:d8) (i k:Nat):b8 a b i 0 k=ps a b i k:=by
 unfold b8;rw [nU ⋯];omega
def Oj (a b:d8) (i j k:Nat):b8 a b i (j+1) k=if k=i+j then b8 a b i j k+a.getD i 0*b.getD j 0 else b8 a b i j k:=by
 unfold b8;by_cases h:k=i+j
 ·subst h;rw [nV rfl,nV ⟨⋯,⋯⟩,nU ⋯,show i+j - i=j by omega];omega
 ·rw [nU h];congr 1;by_cases c:i<=k/\k - i<j
  ·rw [nV c,nV ⟨c.1,⋯⟩]
  ·rw [nU c,nU ⋯]
theorem IN {c:Nat} {a:d8} (h:∀ z∈a,Bd c z) (i:Nat):Bd c (a.getD i 0):=by
 rw [AQ];cases e:a[i]? with
 | none=>exact Nat.pow_pos ∅
 | some z=>exact h z (A4 e)
def D8 (c:Nat):Bd c 0:=Nat.pow_pos ∅
theorem LA {c d:Nat} {a b:d8} (e:∀ z∈a,Bd c z) (f:∀ z∈b,Bd d z):∀ i k,Bd (c+d+i) (ps a b i k)
 | 0,_=>D8 _
 | i+1,k=>by
   unfold ps;refine (LA e f i k).add ?_;split
   ·exact ((IN e i).mul (IN f (k - i))).mono ⋯
   ·exact D8 _
theorem LB {b a:d8}:∀ i k,i+a.length<=k+1->ps b a i k=0
 | 0,_,_=>rfl
 | i+1,k,h=>by
   unfold ps;rw [LB i k ⋯,nU ⋯];rfl
noncomputable def ER (l m:cV) (n:Nat):cV:=(List.range n).map λk=>W_ (ps (AS l) (AS m) l.length k) (Ab l*Ab m)
theorem Ol {l m:cV}:∀ {n:Nat},(∀ i,i<n->l.getD i (1,1)=m.getD i (1,1))->B6 l n=B6 m n
 | 0,_=>rfl
 | n+1,h=>by
   unfold B6;rw [h n (Di n),Ol λi a=>h i (Nat.lt_succ_of_lt a)]
def Om (l:cV):trim (l++[(0,1)])=trim l:=by
 unfold trim;rw [Bp,List.length_singleton]
 have e:B6 (l++[(0,1)]) (l.length+1)=B6 l l.length:=by
  rw [show B6 (l++[(0,1)]) (l.length+1)=if ((l++[((0,1):Nu)]).getD l.length (1,1)).1=0 then B6 (l++[(0,1)]) l.length else l.length+1 from rfl];rw [nV (by simp [AQ])];exact Ol λi a=>by rw [AQ,AQ,List.getElem?_append_left a]
 rw [e,List.take_append_of_le_length (K8 l l.length)]
def On (l m:cV) (n:Nat):ER l m (n+1)=ER l m n++[W_ (ps (AS l) (AS m) l.length n) (Ab l*Ab m)]:=by
 unfold ER;rw [E7,By];rfl
theorem LC (l m:cV) (a:0<Ab l*Ab m):∀ n,(∀ k,k<n->ps (AS l) (AS m) l.length k=0)->trim (ER l m n)=[]
 | 0,_=>rfl
 | n+1,h=>by
   rw [On,h n (Di n),Od a,Om];exact LC l m a n λk hk=>h k (Nat.lt_succ_of_lt hk)
theorem Oo {b a:d8} (h:a.length=0):∀ i k,ps b a i k=0
 | 0,_=>rfl
 | i+1,k=>by unfold ps;rw [Oo h i k,nU ⋯];rfl
def ZM {l m:cV} (a:0<Ab l*Ab m) (b:(AS m).length=m.length) :
  trim (ER l m (l.length+m.length))=trim (List.map (λn=>W_ n (Ab l*Ab m)) (if l.length=0\/m.length=0 then [] else List.map (λk=>ps (AS l) (AS m) l.length k) (List.range (l.length+m.length - 1)))):=by
 by_cases c:l.length=0
 ·rw [nV (.inl c)];refine LC l m a _ λk _=>?_;rw [c];rfl
 ·by_cases d:m.length=0
  ·rw [nV (.inr d)];exact LC l m a _ λk _=>Oo (by rw [b];exact d) _ _
  ·rw [nU ⋯];obtain ⟨n,e⟩:∃ n,l.length+m.length=n+1:=⟨l.length+m.length - 1,⋯⟩;rw [e,On,LB l.length n (by rw [b];omega),Od a,Om,Nat.add_sub_cancel,B3];rfl
noncomputable def val (q:Nu):Rat:=(q.1:Rat) / (q.2:Rat)
def R' (x:Rat):0 / x=0:=by rw [Rat.div_def,Rat.zero_mul]
def Ap {z:Int} (h:z≠0):(z:Rat)≠0:=by exact_mod_cast h
def LD {q:Nu} {n m:Int} (a:q.2≠0) (b:m≠0) (w:Wo q n m):val q=(n:Rat) / (m:Rat):=by
 have c:=Ap a;have d:=Ap b;have e:(q.1:Rat)*m=n*q.2:=by unfold Wo at w;exact_mod_cast w
 unfold val;ext
def DA {q r:Nu} (c:Low q.1 q.2) (d:Low r.1 r.2) (h:val q=val r):q=r:=by
 have a:=Ap (AV c.pos);have b:=Ap (AV d.pos);unfold val at h;have z:(q.1:Rat)*r.2=r.1*q.2:=by ext
 have e:q.1*r.2=r.1*q.2:=by exact_mod_cast z
 obtain ⟨x,y⟩:=Ob c d e;exact Prod.ext x y
def HB {n m:Int} (a:0<m):val (W_ n m)=(n:Rat) / (m:Rat):=LD (AV (Co a).pos) (AV a) (Fl a)
def Op {q r:Nu} (c:0<q.2) (d:0<r.2):val (L_ q r)=val q+val r:=by
 unfold L_;rw [HB (CM c d)];have a:=Ap (AV c);have b:=Ap (AV d);unfold val;push_cast;ext
def Oq {q r:Nu} (c:0<q.2) (d:0<r.2):val (G_ q r)=val q*val r:=by
 unfold G_;rw [HB (CM c d)];have a:=Ap (AV c);have b:=Ap (AV d);unfold val;push_cast;ext
noncomputable def Ay (n m:Int):Nu:=if m<0 then W_ (-n) (-m) else W_ n m
def GT {n m:Int} (a:m≠0):Low (Ay n m).1 (Ay n m).2:=by
 unfold Ay;split
 ·exact Co ⋯
 ·exact Co ⋯
def HC {n m:Int} (a:m≠0):val (Ay n m)=(n:Rat) / (m:Rat):=by
 unfold Ay;split
 ·rw [HB ⋯];have:=Ap a;push_cast;ext
 ·exact HB ⋯
def ZN {n m N:Int} (b:m≠0) (h:m∣N):(Ay n m).2∣N:=by
 have a:∀ {n m:Int},0<m->(W_ n m).2∣m:=λ{n m} c=>by
  unfold W_;exact Int.ediv_dvd_of_dvd (EH n m)
 unfold Ay;split
 ·exact CS (a ⋯) (CS (Int.neg_dvd.mpr (Int.dvd_refl m)) h)
 ·exact CS (a ⋯) h
def Os {c d:Nat} {n m:Int} (g:m≠0) (b:Bd c n) (e:Bd d m):Bd c (Ay n m).1/\Bd d (Ay n m).2:=by
 have a:∀ {n m:Int},0<m->Bd c n->Bd d m->Bd c (W_ n m).1/\Bd d (W_ n m).2:=λ{n m} f b e=>by
  have w:=IL (Co f) f (Fl (n:=n) f);exact ⟨b.le w.1,e.le w.2⟩
 unfold Ay;split
 ·exact a ⋯ b.neg e.neg
 ·exact a ⋯ b e
noncomputable def C_ (l:cV) (k:Nat):Rat:=val (Aj l k)
def ZO {q:Nu} (h:Low q.1 q.2) (z:q.1=0):q=(0,1):=DA h IM (by unfold val;rw [z];show ((0:Int):Rat) / _=((0:Int):Rat) / _;rw [show ((0:Int):Rat)=0 from rfl,R',R'])
def ZP {l:cV} (n:Af l) (k:Nat):Aj (trim l) k=Aj l k:=by
 have g:∀ (m:Nat),m<=l.length->(∀ j,m<=j->j<l.length->(Aj l j).1=0)->∀ j,B6 l m<=j->j<l.length->(Aj l j).1=0:=by
  intro m
  induction m with
  | zero=>intro _ h j i c;exact h j ⋯ c
  | succ m o=>
    intro p h j d f;rw [show B6 l (m+1)=if (l.getD m (1,1)).1=0 then B6 l m else m+1 from rfl] at d;split at d
    ·rename_i z;refine o ⋯ (λj i c=>?_) j d f;by_cases e:j=m
     ·subst e;unfold Aj;rw [AQ,AZ c] at z ⊢;exact z
     ·exact h j ⋯ c
    ·exact h j d f
 unfold trim;by_cases d:k<B6 l l.length
 ·unfold Aj;rw [AQ,AQ,List.getElem?_take_of_lt d]
 ·have e:Aj (l.take (B6 l l.length)) k=(0,1):=by
   unfold Aj;rw [AQ,BL (by rw [CG];omega)];rfl
  rw [e];by_cases f:k<l.length
  ·exact (ZO (Es n k) (g l.length (AR _) (λj a b=>absurd b ⋯) k ⋯ f)).symm
  ·unfold Aj;rw [AQ,BL ⋯];rfl
def HD {l:cV} (a:Af l) (k:Nat):C_ (trim l) k=C_ l k:=by unfold C_;rw [ZP a]
def Ot {l:cV} {k:Nat} (h:l.length<=k):Aj l k=(0,1):=by
 unfold Aj;rw [AQ,BL h];rfl
def CY {l:cV} {k:Nat} (h:l.length<=k):C_ l k=0:=by
 unfold C_;rw [Ot h];exact R' _
def Ou {a b:cV} (f:Nz b) (h:∀ k,Aj a k=Aj b k):b.length<=a.length:=by
 rcases A5 a.length b.length with g | c
 ·exfalso;have d:b.length - 1<b.length:=by omega
  have q:=f b[b.length - 1] (by rw [F9];exact AZ d);have e:=h (b.length - 1);rw [Ot ⋯] at e;unfold Aj at e;rw [AQ,AZ d] at e;have i:((0,1):Nu)=b[b.length - 1]:=e;rw [<-i] at q;exact q rfl
 ·exact c
def ZQ {a b:cV} (c:Af a) (d:Af b) (f:Nz a) (j:Nz b) (h:∀ k,C_ a k=C_ b k):a=b:=by
 have g:∀ k,Aj a k=Aj b k:=λk=>DA (Es c k) (Es d k) (h k);have e:a.length=b.length:=Nat.le_antisymm (Ou f λk=>(g k).symm) (Ou j g);refine List.ext_getElem e λi m n=>?_;have z:=g i;unfold Aj at z;rw [AQ,AQ,AZ m,AZ n] at z;exact z
noncomputable def cv (f g:dF):Nat->dF
 | 0,_=>0
 | n+1,k=>cv f g n k+(if n<=k then f n*g (k - n) else 0)
theorem Ow {f f' g:dF} {s:Nat} {x:Rat} (a:f s=0) (b:f' s=x) (c:∀ i,i≠s->f' i=f i):∀ n k,cv f' g n k=cv f g n k+(if s<n/\s<=k then x*g (k - s) else 0)
 | 0,k=>by unfold cv;rw [nU ⋯];exact (Rat.add_zero 0).symm
 | n+1,k=>by
   unfold cv;rw [Ow a b c n k];by_cases e:n=s
   ·subst e;rw [a,b];by_cases hk:n<=k
    ·rw [nV hk,nV hk,nU ⋯,nV ⟨⋯,hk⟩];ext
    ·rw [nU hk,nU hk,nU ⋯,nU ⋯]
   ·rw [c n e];have d:(s<n+1/\s<=k)↔(s<n/\s<=k):=by omega
    simp only [d];ext
theorem Ox {f g:dF}:∀ n k,(∀ i,i<n->f i=0)->cv f g n k=0
 | 0,_,_=>rfl
 | n+1,k,h=>by
   unfold cv;rw [Ox n k λi a=>h i ⋯,h n ⋯];split <;> ext
theorem Oy {f g:dF} {n:Nat} (h:∀ i,n<=i->f i=0):∀ d k,cv f g (n+d) k=cv f g n k
 | 0,_=>rfl
 | d+1,k=>by
   show cv f g (n+d) k+(if n+d<=k then f (n+d)*g (k - (n+d)) else 0)=_;rw [Oy h d k,h (n+d) ⋯];split <;> ext
theorem Oz {f f' g:dF} (h:∀ i,f i=f' i):∀ n k,cv f g n k=cv f' g n k
 | 0,_=>rfl
 | n+1,k=>by unfold cv;rw [Oz h n k,h n]
noncomputable def X_ (l:cV) (M:Int):d8:=l.map λq=>q.1*(M / q.2)
def Ov (l:cV) (M:Int):Prop:=0<M/\∀ q∈l,q.2∣M
theorem O0 {l:cV} {M:Int} (i:Nat):(X_ l M).getD i 0=(Aj l i).1*(M / (Aj l i).2):=by
 unfold X_ Aj;rw [AQ,AQ,Ac];cases l[i]? with
 | none=>simp
 | some q=>rfl
theorem Ov.get {l:cV} {M:Int} (h:Ov l M) (i:Nat):(Aj l i).2∣M:=by
 unfold Aj;rw [AQ];cases e:l[i]? with
 | none=>exact Int.one_dvd M
 | some q=>exact h.2 q (A4 e)
def ZR {l:cV} {M:Int} (h:Ov l M) (i:Nat):Wo (Aj l i) ((X_ l M).getD i 0) M:=by
 rw [O0];exact ZK (h.get i)
def IO {l:cV} {M:Int} (a:Af l) (h:Ov l M) (i:Nat):C_ l i=((X_ l M).getD i 0:Rat) / (M:Rat):=LD (AV (Es a i).pos) (AV h.1) (ZR h i)
noncomputable def IP (l m:cV) (a b:Int) (n:Nat):cV:=(List.range n).map λk=>W_ (ps (X_ l a) (X_ m b) l.length k) (a*b)
theorem Jb {l m:cV} {d c:Int} (g:Af l) (h:Af m) (e:Ov l d) (f:Ov m c):∀ n k,(ps (X_ l d) (X_ m c) n k:Rat) / ((d*c:Int):Rat)=cv (C_ l) (C_ m) n k
 | 0,k=>R' _
 | n+1,k=>by
   have a:=Ap (AV e.1);have b:=Ap (AV f.1);have i:=Jb g h e f n k;unfold ps cv;rw [<-i];by_cases hk:n<=k
   ·rw [nV hk,IO g e,IO h f];by_cases j:k - n<(X_ m c).length
    ·rw [nV ⟨hk,j⟩];push_cast;ext
    ·rw [nU ⋯,show (X_ m c).getD (k - n) 0=0 by rw [AQ,BL ⋯];rfl];push_cast;ext
   ·rw [nU hk,nU ⋯];push_cast;ext
def O3 {l m:cV} {a b:Int} {n:Nat} (c:Ov l a) (d:Ov m b):Af (IP l m a b n):=by
 intro q e;obtain ⟨k,_,rfl⟩:=AX.mp e;exact Co (CM c.1 d.1)
def O4 {l m:cV} {a b:Int} (f:Af l) (g:Af m) (c:Ov l a) (d:Ov m b) (k:Nat):C_ (IP l m a b (l.length+m.length)) k=cv (C_ l) (C_ m) l.length k:=by
 rw [<-Jb f g c d];have i:=CM c.1 d.1;by_cases h:k<l.length+m.length
 ·have e:Aj (IP l m a b (l.length+m.length)) k=W_ (ps (X_ l a) (X_ m b) l.length k) (a*b):=by
   unfold IP Aj;rw [AQ,Ac,DU h];rfl
  unfold C_;rw [e,HB i]
 ·rw [CY (by unfold IP;rw [AJ,Bm];omega),LB l.length k (by unfold X_;rw [AJ];omega)];exact (R' _).symm
def lcm_dvd {B d M:Int} (c:0<B) (f:0<d) (a:B∣M) (b:d∣M):B*(d / ((Int.gcd B d:Nat):Int))∣M:=by
 have z:((Nat.lcm B.natAbs d.natAbs:Nat):Int)∣M:=C5.mp (by rw [Cj];exact Nat.lcm_dvd (C5.mpr a) (C5.mpr b))
 have e:((Nat.lcm B.natAbs d.natAbs:Nat):Int)=B*(d / ((Int.gcd B d:Nat):Int)):=by
  unfold Nat.lcm;rw [Nat.mul_div_assoc _ (Nat.gcd_dvd_right _ _)];push_cast;rw [show ((B.natAbs:Nat):Int)=B by omega,show ((d.natAbs:Nat):Int)=d by omega];rfl
 rw [<-e];exact z
theorem LE {M:Int}:∀ (l:cV) (B:Int),(∀ q∈l,0<q.2/\q.2∣M)->0<B->B∣M->0<l.foldl (λB q=>B*(q.2 / ((Int.gcd B q.2:Nat):Int))) B/\l.foldl (λB q=>B*(q.2 / ((Int.gcd B q.2:Nat):Int))) B∣M
 | [],B,_,a,h=>⟨a,h⟩
 | q::l,B,b,a,h=>by
   obtain ⟨c,d⟩:=b q (Au ..);obtain ⟨s1,_⟩:=K9 a c;exact LE l _ (λr e=>b r (A3 _ e)) s1 (lcm_dvd a c h d)
def EA {n:Nat} {a b:Int} (d:b≠0) (h:a∣b) (c:Bd n b):Bd n a:=c.le (Ea ⋯ (C5.mpr h))
def CZ {l:cV} (e:Af l):Ov l (Ab l):=by
 obtain ⟨a,b,_⟩:=Oi (b:=(l.foldl (λn q=>n+q.1.natAbs+q.2.natAbs) 1)) e (λq c=>by
  have d:∀ (l:cV) (n:Nat),n<=l.foldl (λn q=>n+q.1.natAbs+q.2.natAbs) n/\∀ q∈l,q.1.natAbs+q.2.natAbs<=l.foldl (λn q=>n+q.1.natAbs+q.2.natAbs) n:=by
   intro l
   induction l with
   | nil=>intro n;exact ⟨AR _,λ_ h=>nomatch h⟩
   | cons r l f=>
     intro n;obtain ⟨i,g⟩:=f (n+r.1.natAbs+r.2.natAbs);rw [List.foldl_cons];refine ⟨⋯,λq c=>?_⟩;rcases Bc.mp c with rfl | c
     ·omega
     ·exact g q c
  have z:=(d l 1).2 q c;exact ⟨Du ⋯ (Nat.lt_two_pow_self),Du ⋯ (Nat.lt_two_pow_self)⟩)
 exact ⟨a,b⟩
def O5 {l:cV} {M:Int} (b:Af l) (h:Ov l M):Ab l∣M:=(LE l 1 (λq a=>⟨(b q a).pos,h.2 q a⟩) ∅ (Int.one_dvd M)).2
def Jc (l:cV):AS l=X_ l (Ab l):=rfl
section
variable {α:Type} [Lean.Grind.CommRing α]
noncomputable def cvL:List α->(Nat->α)->Nat->α
 | [],_,_=>0
 | x::a,b,k=>x*b k+(match k with | 0=>0 | k+1=>cvL a b k)
def BA (b:Nat->α) (k:Nat):cvL [] b k=0:=rfl
def At (x:α) (a:List α) (b:Nat->α):cvL (x::a) b 0=x*b 0+0:=rfl
def Am (x:α) (a:List α) (b:Nat->α) (k:Nat):cvL (x::a) b (k+1)=x*b (k+1)+cvL a b k:=rfl
theorem BE {b c:Nat->α} (h:∀ k,b k=c k):∀ (a:List α) (k:Nat),cvL a b k=cvL a c k
 | [],_=>rfl
 | x::a,0=>by rw [At,At,h 0]
 | x::a,k+1=>by rw [Am,Am,h (k+1),BE h a k]
theorem HE (b c:Nat->α):∀ (a:List α) (k:Nat),cvL a (λk=>b k+c k) k=cvL a b k+cvL a c k
 | [],_=>by rw [BA,BA,BA];ext
 | x::a,0=>by rw [At,At,At];ext
 | x::a,k+1=>by rw [Am,Am,Am,HE b c a k];ext
theorem DB (s:α) (b:Nat->α):∀ (a:List α) (k:Nat),cvL a (λk=>s*b k) k=s*cvL a b k
 | [],_=>by rw [BA,BA];ext
 | x::a,0=>by rw [At,At];ext
 | x::a,k+1=>by rw [Am,Am,DB s b a k];ext
noncomputable def DZ (b:Nat->α):Nat->α
 | 0=>0
 | k+1=>b k
theorem LF (b:Nat->α):∀ (a:List α) (k:Nat),cvL a (DZ b) k=DZ (cvL a b) k
 | [],0=>rfl
 | [],k+1=>rfl
 | x::a,0=>by rw [At];show x*0+0=0;ext
 | x::a,1=>by
   rw [Am];have h:=LF b a 0;rw [h];show x*b 0+0=cvL (x::a) b 0;rw [At]
 | x::a,k+2=>by
   rw [Am,LF b a (k+1)];show x*b (k+1)+cvL a b k=cvL (x::a) b (k+1);rw [Am]
theorem Fm (x:α) (a:List α) (b:Nat->α) (k:Nat):cvL (x::a) b k=x*b k+DZ (cvL a b) k:=by
 cases k with
 | zero=>exact At x a b
 | succ k=>exact Am x a b k
theorem HF (c:Nat->α):∀ (a b:List α) (k:Nat),cvL a (cvL b c) k=cvL b (cvL a c) k
 | [],b,k=>by
   rw [BA];have e:cvL b (cvL [] c) k=cvL b (λk=>0*c k) k:=BE (λk=>by rw [BA];ext) b k;rw [e,DB];ext
 | x::a,b,k=>by
   rw [Fm];have e:cvL b (cvL (x::a) c) k=cvL b (λk=>x*c k+DZ (cvL a c) k) k:=BE (λk=>Fm x a c k) b k;rw [e,HE,DB,LF]
   have d:DZ (cvL a (cvL b c)) k=DZ (cvL b (cvL a c)) k:=by
    cases k with
    | zero=>rfl
    | succ k=>exact HF c a b k
   rw [d]
noncomputable def AY:Nat->α
 | 0=>1
 | _+1=>0
theorem DN:∀ (a:List α) (k:Nat),cvL a AY k=a.getD k 0
 | [],k=>by rw [BA];simp
 | x::a,0=>by rw [At];show x*1+0=x;ext
 | x::a,k+1=>by
   rw [Am,DN a k];show x*0+a.getD k 0=(x::a).getD (k+1) 0;rw [List.getD_cons_succ];ext
end
def ZT {n k:Nat}:k∣2 ^ n↔∃ a,a<=n/\k=2 ^ a:=by
 constructor
 ·induction n generalizing k with
  | zero=>intro h;exact ⟨0,AR 0,by simpa using h⟩
  | succ n d=>
    intro h;by_cases f:2∣k
    ·obtain ⟨j,rfl⟩:=f;rw [Cr,Dt (2 ^ n) 2] at h;obtain ⟨a,b,e⟩:=d (Nat.dvd_of_mul_dvd_mul_left ∅ h);exact ⟨a+1,⋯,by rw [e,Cr,Dt]⟩
    ·have c:Nat.Coprime k 2:=by
      have:Nat.gcd k 2∣2:=Nat.gcd_dvd_right k 2;have g:=Ea ∅ this;have i:Nat.gcd k 2≠2:=λz=>f (by rw [<-z];exact Nat.gcd_dvd_left k 2);have m:Nat.gcd k 2≠0:=λz=>by have:=Nat.eq_zero_of_gcd_eq_zero_right z;omega
      show Nat.gcd k 2=1;omega
     rw [Cr] at h;obtain ⟨a,b,e⟩:=d (c.dvd_of_dvd_mul_right h);exact ⟨a,⋯,e⟩
 ·rintro ⟨a,b,rfl⟩;exact Nat.pow_dvd_pow 2 b
structure Pr (p:Nat):Prop where
 two:2<=p
 div:∀ d,d∣p->d=1\/d=p
def Pr.cop {p:Nat} (h:Pr p) {a:Nat} (b:¬ p∣a):Nat.gcd a p=1:=by
 rcases h.div _ (Nat.gcd_dvd_right a p) with e | e
 ·exact e
 ·exact absurd (e ▸ Nat.gcd_dvd_left a p) b
def Pr.mul {p:Nat} (h:Pr p) {a b:Nat} (d:p∣a*b):p∣a\/p∣b:=by
 by_cases c:p∣a
 ·exact .inl c
 ·refine .inr (Nat.Coprime.dvd_of_dvd_mul_left (k:=p) (m:=a) ?_ d);have:=h.cop c;rw [Nat.gcd_comm] at this;exact this
def Pr.mulI {p:Nat} (h:Pr p) {a b:Int} (c:(p:Int)∣a*b):(p:Int)∣a\/(p:Int)∣b:=by
 have z:=C5.mpr c;rw [Bx,Cj] at z;rcases h.mul z with e | e
 ·exact .inl (C5.mp (by rw [Cj];exact e))
 ·exact .inr (C5.mp (by rw [Cj];exact e))
def O6 {m:Nat} (v:2<=m):∃ q,Pr q/\q∣m/\(q=m\/q*q<=m):=by
 have c:∀ n d,2<=d->(∀ e,2<=e->e<d->¬ e∣m)->m=d+n->∃ q,2<=q/\q∣m/\∀ e,2<=e->e<q->¬ e∣m:=by
  intro n
  induction n with
  | zero=>intro d a h e;exact ⟨d,a,by rw [e];exact Nat.dvd_refl _,h⟩
  | succ n o=>
    intro d a h e;by_cases b:d∣m
    ·exact ⟨d,a,b,h⟩
    ·refine o (d+1) ⋯ (λx p r=>?_) ⋯;by_cases f:x=d
     ·rw [f];exact b
     ·exact h x p ⋯
 obtain ⟨q,u,g,j⟩:=c (m - 2) 2 (AR 2) (λe w i=>absurd i ⋯) ⋯;refine ⟨q,⟨u,λd a=>?_⟩,g,?_⟩
 ·by_cases i:2<=d
  ·right;rcases A5 d q with h | h
   ·exact absurd (Nat.dvd_trans a g) (j d i h)
   ·exact Nat.le_antisymm (Ea ⋯ a) h
  ·left;have:d≠0:=λz=>by rw [z] at a;have:=Nat.eq_zero_of_zero_dvd a;omega
   omega
 ·obtain ⟨k,hk⟩:=g;by_cases y:k<=1
  ·left
   have:k=1:=by
    rcases DR k with z | z
    ·rw [z] at hk;omega
    ·omega
   rw [hk,this,Nat.mul_one]
  ·right;rcases A5 k q with h | h
   ·exact absurd ⟨q,by rw [hk,Dt]⟩ (j k ⋯ h)
   ·rw [hk];exact Dj q h
theorem aF:∀ (n m:Nat) (f:Nat->Nat),(∀ i,i<m->f i<n)->(∀ i j,i<m->j<m->f i=f j->i=j)->m<=n
 | 0,m,f,h,_=>by
   rcases DR m with z | z
   ·omega
   ·exact absurd (h 0 z) ⋯
 | n+1,0,_,_,_=>by omega
 | n+1,m+1,f,h,a=>by
   have:=aF n m (λi=>if f i=n then f m else f i) (λi d=>by
    show (if f i=n then f m else f i)<n;by_cases e:f i=n
    ·rw [nV e];have g:=h m (Di m);have:f m≠n:=λz=>absurd (a i m ⋯ ⋯ (by rw [e,z])) ⋯;omega
    ·rw [nU e];have g:=h i ⋯;omega) (λi j d k e=>by
    have e:(if f i=n then f m else f i)=(if f j=n then f m else f j):=e;by_cases c:f i=n
    ·rw [nV c] at e;by_cases b:f j=n
     ·exact a i j ⋯ ⋯ (by rw [c,b])
     ·rw [nU b] at e;exact absurd (a m j ⋯ ⋯ e) ⋯
    ·rw [nU c] at e;by_cases b:f j=n
     ·rw [nV b] at e;exact absurd (a i m ⋯ ⋯ e) ⋯
     ·rw [nU b] at e;exact a i j ⋯ ⋯ e)
   omega
noncomputable abbrev Rt:=Int×Int
noncomputable def O' (q:Int) (x y:Rt):Rt:=((x.1*y.1+3*(x.2*y.2)) % q,(x.1*y.2+x.2*y.1) % q)
noncomputable def B_ (q:Int):Nat->Rt
 | 0=>(1 % q,0 % q)
 | n+1=>O' q (2,1) (B_ q n)
def Fq {q a b c:Int} (h:a - b=q*c):a % q=b % q:=by
 have:a=b+q*c:=by omega
 rw [this,Int.add_mul_emod_self_left]
def em {a q:Int}:∃ c,a % q=a - q*c:=⟨a / q,by have:=Int.emod_add_mul_ediv a q;omega⟩
def HG (q:Int) (x y z:Rt):O' q (O' q x y) z=O' q x (O' q y z):=by
 obtain ⟨a,b⟩:=x;obtain ⟨c,d⟩:=y;obtain ⟨e,f⟩:=z;obtain ⟨g,h⟩:=em (a:=a*c+3*(b*d)) (q:=q);obtain ⟨i,j⟩:=em (a:=a*d+b*c) (q:=q);obtain ⟨k,m⟩:=em (a:=c*e+3*(d*f)) (q:=q);obtain ⟨n,o⟩:=em (a:=c*f+d*e) (q:=q);refine Prod.ext ?_ ?_
 ·show ((a*c+3*(b*d)) % q*e+3*((a*d+b*c) % q*f)) % q=(a*((c*e+3*(d*f)) % q)+3*(b*((c*f+d*e) % q))) % q;rw [h,j,m,o];exact Fq (c:=a*k+3*b*n - g*e - 3*i*f) ()
 ·show ((a*c+3*(b*d)) % q*f+((a*d+b*c) % q*e)) % q=(a*((c*f+d*e) % q)+(b*((c*e+3*(d*f)) % q))) % q;rw [h,j,m,o];exact Fq (c:=a*n+b*k - g*f - i*e) ()
def ZU (q:Int) (x y:Rt):O' q x y=O' q y x:=by
 refine Prod.ext ?_ ?_
 ·show (x.1*y.1+3*(x.2*y.2)) % q=(y.1*x.1+3*(y.2*x.2)) % q;congr 1;ext
 ·show (x.1*y.2+x.2*y.1) % q=(y.1*x.2+y.2*x.1) % q;congr 1;ext
def rn (q:Int) (x:Rt):Prop:=x.1 % q=x.1/\x.2 % q=x.2
def ZV (q:Int) (x y:Rt):rn q (O' q x y):=⟨Int.emod_emod ..,Int.emod_emod ..⟩
theorem GU (q:Int):∀ n,rn q (B_ q n)
 | 0=>⟨Int.emod_emod ..,Int.emod_emod ..⟩
 | _+1=>ZV q _ _
def au (q:Int) {x:Rt} (h:rn q x):O' q (B_ q 0) x=x:=by
 obtain ⟨d,e⟩:=em (a:=1) (q:=q);obtain ⟨f,g⟩:=em (a:=0) (q:=q);refine Prod.ext ?_ ?_
 ·show (1 % q*x.1+3*(0 % q*x.2)) % q=x.1;rw [e,g,<-h.1];rw [Fq (b:=x.1 % q) (c:=- d*(x.1 % q) - 3*f*x.2) (),Int.emod_emod]
 ·show (1 % q*x.2+0 % q*x.1) % q=x.2;rw [e,g,<-h.2];rw [Fq (b:=x.2 % q) (c:=- d*(x.2 % q) - f*x.1) (),Int.emod_emod]
theorem GV (q:Int):∀ m n,B_ q (m+n)=O' q (B_ q m) (B_ q n)
 | 0,n=>by rw [Nat.zero_add,au q (GU q n)]
 | m+1,n=>by
   rw [Nat.succ_add];show O' q (2,1) (B_ q (m+n))=O' q (O' q (2,1) (B_ q m)) (B_ q n);rw [GV q m n,HG]
noncomputable def av (q:Int):Nat->Rt
 | 0=>(1 % q,0 % q)
 | n+1=>O' q (2,-1) (av q n)
def r21 (q:Int):O' q (2,-1) (2,1)=B_ q 0:=by
 refine Prod.ext ?_ ?_
 ·show (2*2+3*(-1*1)) % q=1 % q;rfl
 ·show (2*1 + -1*2) % q=0 % q;rfl
theorem O7 (q:Int):∀ n,O' q (av q n) (B_ q n)=B_ q 0
 | 0=>au q (GU q 0)
 | n+1=>by
   show O' q (O' q (2,-1) (av q n)) (O' q (2,1) (B_ q n))=_;rw [HG,<-HG q (av q n),ZU q (av q n) (2,1),HG q (2,1),O7 q n,<-HG,r21,au q (GU q 0)]
theorem LG (q:Int) {m:Nat} (h:B_ q m=B_ q 0):∀ k,B_ q (m*k)=B_ q 0
 | 0=>rfl
 | k+1=>by rw [Nat.mul_succ,GV,LG q h k,h,au q (GU q 0)]
theorem rord (q:Int) {n:Nat} (c:B_ q (2 ^ (n+1))=B_ q 0) (f:B_ q (2 ^ n)≠B_ q 0):∀ d,0<d->d<2 ^ (n+1)->B_ q d≠B_ q 0:=by
 intro d
 induction d using Nat.strongRecOn with
 | _ d g=>
 intro i u e;have j:=Nat.mod_lt (2 ^ (n+1)) i
 have m:B_ q (2 ^ (n+1) % d)=B_ q 0:=by
  have o:=Nat.div_add_mod (2 ^ (n+1)) d;rw [<-o,GV,LG q e,au q (GU q _)] at c;exact c
 rcases DR (2 ^ (n+1) % d) with z | z
 ·obtain ⟨k,hk⟩:=Nat.dvd_of_mod_eq_zero z;obtain ⟨a,v,b⟩:=(ZT (n:=n+1) (k:=d)).mp ⟨k,hk⟩
  have p:a<=n:=by
   rcases A5 n a with h | h
   ·exfalso;have:a=n+1:=by omega
    rw [this] at b;omega
   ·exact h
  apply f;have r:2 ^ n=d*2 ^ (n - a):=by rw [b,<-Nat.pow_add];congr 1;omega
  rw [r];exact LG q e _
 ·exact g _ j z ⋯ m
theorem aG (q:Int):∀ n,∃ c,(B_ q n).1*(B_ q n).1 - 3*((B_ q n).2*(B_ q n).2) - 1=q*c
 | 0=>by
   obtain ⟨d,f⟩:=em (a:=1) (q:=q);obtain ⟨e,g⟩:=em (a:=0) (q:=q);refine ⟨-2*d+q*d*d - 3*q*e*e,?_⟩;show (1 % q)*(1 % q) - 3*((0 % q)*(0 % q)) - 1=_;rw [f,g];ext
 | n+1=>by
   obtain ⟨c,j⟩:=aG q n;obtain ⟨d,f⟩:=em (a:=2*(B_ q n).1+3*(1*(B_ q n).2)) (q:=q);obtain ⟨e,g⟩:=em (a:=2*(B_ q n).2+1*(B_ q n).1) (q:=q);have h:(B_ q (n+1)).1=2*(B_ q n).1+3*(1*(B_ q n).2) - q*d:=f;have i:(B_ q (n+1)).2=2*(B_ q n).2+1*(B_ q n).1 - q*e:=g;rw [h,i];generalize (B_ q n).1=a at *;generalize (B_ q n).2=b at *;exact ⟨c - 2*d*(2*a+3*b)+q*d*d+6*e*(2*b+a) - 3*q*e*e,()⟩
def ZW (q:Int) (n:Nat):∃ c,2*(B_ q (n+n)).1=(2*(B_ q n).1)*(2*(B_ q n).1) - 2+q*c:=by
 obtain ⟨c,e⟩:=aG q n;rw [GV];obtain ⟨b,d⟩:=em (a:=(B_ q n).1*(B_ q n).1+3*((B_ q n).2*(B_ q n).2)) (q:=q);refine ⟨-2*b - 2*c,?_⟩;show 2*(((B_ q n).1*(B_ q n).1+3*((B_ q n).2*(B_ q n).2)) % q)=_;rw [d];ext
noncomputable def ll (M:Nat):Nat->Nat->Nat
 | 0,s=>s
 | k+1,s=>ll M k ((s*s+(M - 2)) % M)
theorem O8 {q:Int} {M:Nat} (f:2<=M) (g:q∣(M:Int)):∀ (k t s:Nat),q∣2*(B_ q (2 ^ t)).1 - (s:Int)->q∣2*(B_ q (2 ^ (t+k))).1 - (ll M k s:Int)
 | 0,t,s,h=>h
 | k+1,t,s,h=>by
   have:=O8 f g k (t+1) ((s*s+(M - 2)) % M) (by
    obtain ⟨c,i⟩:=ZW q (2 ^ t);obtain ⟨d,j⟩:=h;obtain ⟨m,n⟩:=g;have e:(2:Nat) ^ (t+1)=2 ^ t+2 ^ t:=by rw [Cr];omega
    rw [e,i]
    have z:(((s*s+(M - 2)) % M:Nat):Int)=(s:Int)*s+(M - 2) - M*(((s*s+(M - 2)) / M:Nat):Int):=by
     have:=Nat.mod_add_div (s*s+(M - 2)) M
     have o:(((s*s+(M - 2)) % M:Nat):Int)+(M:Int)*(((s*s+(M - 2)) / M:Nat):Int)=(s:Int)*s+(M - 2):=by
      have:=congrArg (λx:Nat=>(x:Int)) this;simp only [Int.natCast_add,Int.natCast_mul] at this;rw [this,Int.natCast_sub f];rfl
     omega
    rw [z];generalize (((s*s+(M - 2)) / M:Nat):Int)=w;generalize (B_ q (2 ^ t)).1=a at j;have b:2*a=s+q*d:=by omega
    rw [b,n];exact ⟨2*s*d+q*d*d+c - m+m*w,()⟩)
   rw [show t+(k+1)=t+1+k by omega];exact this
def ZX {n:Nat} (h:ll (2 ^ (n+2) - 1) n 4 % (2 ^ (n+2) - 1)=0):Pr (2 ^ (n+2) - 1):=by
 have N:4<=2 ^ (n+2):=by rw [Nat.pow_add];have:=Nat.one_le_two_pow (n:=n);omega
 generalize hM:2 ^ (n+2) - 1=M at h ⊢;obtain ⟨q,p,r,A⟩:=O6 (m:=M) ⋯;rcases A with e | A
 ·rw [<-e];exact p
 exfalso;have O:(q:Int)∣(M:Int):=Int.natCast_dvd_natCast.mpr r;have q2:=p.two
 have P:q≠2:=λz=>by
  rw [z] at r;have:2 ^ (n+2)=2*2 ^ (n+1):=by rw [Cr 2 (n+1)];omega
  omega
 have Q:(q:Int)∣2*(B_ q (2 ^ (0+n))).1 - (ll M n 4:Int):=O8 ⋯ O n 0 4 (by
  show (q:Int)∣2*(O' q (2,1) (B_ q 0)).1 - 4;obtain ⟨f,u⟩:=em (a:=1) (q:=(q:Int));obtain ⟨g,v⟩:=em (a:=0) (q:=(q:Int));show (q:Int)∣2*((2*(1 % (q:Int))+3*(1*(0 % (q:Int)))) % (q:Int)) - 4;obtain ⟨R,S⟩:=em (a:=2*(1 % (q:Int))+3*(1*(0 % (q:Int)))) (q:=(q:Int));rw [S,u,v];exact ⟨-4*f - 6*g - 2*R,()⟩)
 have s1:(q:Int)∣(ll M n 4:Int):=Int.natCast_dvd_natCast.mpr (Nat.dvd_trans r (Nat.dvd_of_mod_eq_zero h))
 have T:(q:Int)∣2*(B_ q (2 ^ n)).1:=by
  have:=Cu Q s1;rw [Nat.zero_add] at this;rw [Int.sub_add_cancel] at this;exact this
 have U:(q:Int)∣(B_ q (2 ^ n)).1:=by
  rcases p.mulI T with z | z
  ·exfalso;have w:=Int.natCast_dvd_natCast.mp (show (q:Int)∣((2:Nat):Int) from z);have:=Ea ∅ w;omega
  ·exact z
 have k:(q:Int)≠0:=by omega
 have o:B_ q (2 ^ (n+1))=((-1) % (q:Int),0 % (q:Int)):=by
  have e:(2:Nat) ^ (n+1)=2 ^ n+2 ^ n:=by rw [Cr];omega
  rw [e,GV];obtain ⟨c,W⟩:=aG q (2 ^ n);obtain ⟨d,x⟩:=U;refine Prod.ext ?_ ?_
  ·show ((B_ q (2 ^ n)).1*(B_ q (2 ^ n)).1+3*((B_ q (2 ^ n)).2*(B_ q (2 ^ n)).2)) % (q:Int)=(-1) % (q:Int);refine Fq (c:=2*q*d*d - c) ?_;generalize (B_ q (2 ^ n)).2=b at *;rw [x] at W ⊢;ext
  ·show ((B_ q (2 ^ n)).1*(B_ q (2 ^ n)).2+(B_ q (2 ^ n)).2*(B_ q (2 ^ n)).1) % (q:Int)=0 % (q:Int);refine Fq (c:=2*d*(B_ q (2 ^ n)).2) ?_;rw [x];ext
 have v:B_ q (2 ^ (n+1))≠B_ q 0:=λz=>by
  rw [o] at z;have X:(-1) % (q:Int)=1 % (q:Int):=congrArg Prod.fst z;have w:(q:Int)∣-1 - 1:=Int.dvd_of_emod_eq_zero ((Int.emod_eq_emod_iff_emod_sub_eq_zero).mp X);have Y:=C5.mpr w;have:=Ea ∅ Y;rw [Cj] at this;have:(-1 - 1:Int).natAbs=2:=by decide
  omega
 have u:B_ q (2 ^ (n+1+1))=B_ q 0:=by
  have e:(2:Nat) ^ (n+1+1)=2 ^ (n+1)+2 ^ (n+1):=by rw [Cr 2 (n+1)];omega
  rw [e,GV,o];obtain ⟨f,B⟩:=em (a:=-1) (q:=(q:Int));obtain ⟨g,C⟩:=em (a:=0) (q:=(q:Int));refine Prod.ext ?_ ?_
  ·show ((-1) % (q:Int)*((-1) % (q:Int))+3*(0 % (q:Int)*(0 % (q:Int)))) % (q:Int)=1 % (q:Int);refine Fq (c:=2*f+q*f*f+3*q*g*g) ?_;rw [B,C];ext
  ·show ((-1) % (q:Int)*(0 % (q:Int))+0 % (q:Int)*((-1) % (q:Int))) % (q:Int)=0 % (q:Int);refine Fq (c:=2*g+2*q*f*g) ?_;rw [B,C];ext
 have ord:=rord (q:Int) u v
 have D:∀ i d,0<d->i+d<2 ^ (n+2)->B_ q i≠B_ q (i+d):=λi d Z x z=>by
  have e:B_ q d=B_ q 0:=by
   have a:=O7 (q:Int) i
   have b:O' q (av q i) (B_ q (i+d))=B_ q d:=by
    rw [GV,<-HG,a,au _ (GU _ _)]
   rw [<-b,<-z,a]
  exact ord d Z (by have:(2:Nat) ^ (n+1+1)=2 ^ (n+2):=rfl;omega) e
 have y:∀ i,0<=(B_ q i).1/\(B_ q i).1<q/\0<=(B_ q i).2/\(B_ q i).2<q:=λi=>by
  obtain ⟨a,b⟩:=GU (q:Int) i;have E:(0:Int)<q:=by omega
  have F:=CV (B_ q i).1 k;have G:=Cd (B_ q i).1 E;have H:=CV (B_ q i).2 k;have I:=Cd (B_ q i).2 E;rw [a] at F G;rw [b] at H I;exact ⟨F,G,H,I⟩
 have pg:=aF (q*q) (2 ^ (n+2)) (λi=>(B_ q i).1.toNat*q+(B_ q i).2.toNat) (λi _=>by
  obtain ⟨a,b,c,d⟩:=y i;have J:(B_ q i).1.toNat+1<=q:=by omega
  have d':(B_ q i).2.toNat<q:=by omega
  have:=Cf q J;rw [Nat.add_mul,Nat.one_mul] at this;show (B_ q i).1.toNat*q+(B_ q i).2.toNat<q*q;omega) (λi j hi hj e=>by
  have e:(B_ q i).1.toNat*q+(B_ q i).2.toNat=(B_ q j).1.toNat*q+(B_ q j).2.toNat:=e;obtain ⟨a,b,c,d⟩:=y i;obtain ⟨J,b',c',d'⟩:=y j;have o:=congrArg (·% q) e;have K:=congrArg (·/ q) e;simp only [Dt _ q,Nat.mul_add_mod,Nat.mul_add_div (show 0<q by omega)] at o K;rw [Nat.mod_eq_of_lt ⋯,Nat.mod_eq_of_lt ⋯] at o;rw [Nat.div_eq_of_lt ⋯,Nat.div_eq_of_lt ⋯] at K;have L:B_ q i=B_ q j:=Prod.ext ⋯ ⋯;rcases Nat.lt_trichotomy i j with h | h | h
  ·exact absurd L (by have:=D i (j - i) ⋯ ⋯;rw [show i+(j - i)=j by omega] at this;exact this)
  ·exact h
  ·exact absurd L.symm (by have:=D j (i - j) ⋯ ⋯;rw [show j+(i - j)=i by omega] at this;exact this))
 omega
noncomputable def cI (M k s:Nat):Nat:=Nat.rec (motive:=λ_=>Nat->Nat) (λs=>s) (λ_ a s=>a ((s*s+(M - 2)) % M)) k s
noncomputable def cJ (x:Nat) (f:Nat->Nat):Nat:=Nat.rec (motive:=λ_=>Nat) (f 0) (λn _=>f (n+1)) x
noncomputable def llo (M k j s:Nat):Nat:=Nat.rec (motive:=λ_=>Nat->Nat) (λs=>s) (λ_ a s=>cJ (cI M k s) a) j s
theorem LH (M:Nat):∀ k s,cI M k s=ll M k s
 | 0,_=>rfl
 | k+1,s=>LH M k _
def O9 (x:Nat) (f:Nat->Nat):cJ x f=f x:=by cases x <;> rfl
theorem LI (M:Nat):∀ a b s,ll M (a+b) s=ll M b (ll M a s)
 | 0,b,s=>by rw [Nat.zero_add];rfl
 | a+1,b,s=>by rw [Nat.succ_add];exact LI M a b _
theorem PB (M k:Nat):∀ j s,llo M k j s=ll M (k*j) s
 | 0,_=>rfl
 | j+1,s=>by
   show cJ (cI M k s) (llo M k j)=_;rw [O9,LH,PB M k j,<-LI];congr 1;rw [Nat.mul_succ,Nat.add_comm]
noncomputable def mers (e:Nat):Nat:=2 ^ e - 1
def Fs {n r k j:Nat} (e:n=k*j+r) (h:Nat.beq (cJ (llo (mers (n+2)) k j 4) (λs=>cI (mers (n+2)) r s % mers (n+2))) 0=true):Pr (mers (n+2)):=by
 refine ZX ?_;replace h:=Nat.eq_of_beq_eq_true h;rw [O9,PB,LH,<-LI,<-e] at h;exact h
def ZY:Pr (mers 61):=Fs (n:=59) (r:=9) (k:=10) (j:=5) rfl (by decide +kernel)
def ZZ:Pr (mers 127):=Fs (n:=125) (r:=5) (k:=20) (j:=6) rfl (by decide +kernel)
def Za:Pr (mers 521):=Fs (n:=519) (r:=19) (k:=50) (j:=10) rfl (by decide +kernel)
def Zb:Pr (mers 1279):=Fs (n:=1277) (r:=77) (k:=100) (j:=12) rfl (by decide +kernel)
def Zc:Pr (mers 4423):=Fs (n:=4421) (r:=21) (k:=100) (j:=44) rfl (by decide +kernel)
def Zd:Pr (mers 9941):=Fs (n:=9939) (r:=39) (k:=100) (j:=99) rfl (by decide +kernel)
def Ze:Pr (mers 21701):=Fs (n:=21699) (r:=99) (k:=150) (j:=144) rfl (by decide +kernel)
def Zf:Pr (mers 44497):=Fs (n:=44495) (r:=95) (k:=200) (j:=222) rfl (by decide +kernel)
noncomputable def co (a:d8) (k:Nat):Int:=a.getD k 0
section
variable {α:Type} [Lean.Grind.CommRing α]
noncomputable def A7:List α->List α->List α
 | [],b=>b
 | a,[]=>a
 | x::a,y::b=>(x+y)::A7 a b
def LJ (a:List α):A7 a []=a:=by cases a <;> rfl
theorem Br (g:Nat->α):∀ (a b:List α) (k:Nat),cvL (A7 a b) g k=cvL a g k+cvL b g k
 | [],b,k=>by show cvL b g k=0+cvL b g k;ext
 | x::a,[],k=>by rw [LJ,BA];ext
 | x::a,y::b,0=>by show cvL ((x+y)::A7 a b) g 0=_;rw [At,At,At];ext
 | x::a,y::b,k+1=>by show cvL ((x+y)::A7 a b) g (k+1)=_;rw [Am,Am,Am,Br g a b k];ext
theorem BG (c:α) (g:Nat->α):∀ (a:List α) (k:Nat),cvL (a.map (c*·)) g k=c*cvL a g k
 | [],k=>by show (0:α)=c*0;ext
 | x::a,0=>by rw [CA,At,At];ext
 | x::a,k+1=>by rw [CA,Am,Am,BG c g a k];ext
noncomputable def Ax (s:Nat) (f:Nat->α) (k:Nat):α:=if s<=k then f (k - s) else 0
theorem HH (g:Nat->α):∀ (s:Nat) (a:List α) (k:Nat),cvL (List.replicate s 0++a) g k=Ax s (cvL a g) k
 | 0,a,k=>by unfold Ax;rw [nV (Ae k)];rfl
 | s+1,a,0=>by unfold Ax;rw [nU ⋯];show cvL (0::(List.replicate s 0++a)) g 0=0;rw [At];ext
 | s+1,a,k+1=>by
   show cvL (0::(List.replicate s 0++a)) g (k+1)=_;rw [Am,HH g s a k];unfold Ax;by_cases h:s<=k
   ·rw [nV h,nV ⋯,show k+1 - (s+1)=k - s by omega];ext
   ·rw [nU h,nU ⋯];ext
noncomputable def Bb:List α->List α->List α
 | [],_=>[]
 | x::a,b=>A7 (b.map (x*·)) (0::Bb a b)
theorem Bt (g:Nat->α):∀ (a b:List α) (k:Nat),cvL (Bb a b) g k=cvL a (cvL b g) k
 | [],b,k=>rfl
 | x::a,b,k=>by
   show cvL (A7 (b.map (x*·)) (0::Bb a b)) g k=_;rw [Br,BG,Fm,Fm]
   have e:DZ (cvL (Bb a b) g) k=DZ (cvL a (cvL b g)) k:=by
    cases k with
    | zero=>rfl
    | succ k=>exact Bt g a b k
   rw [e];ext
theorem Db (g:Nat->α) (s:α):∀ (a:List α) (k:Nat),cvL (a++[s]) g k=cvL a g k+s*Ax a.length g k
 | [],0=>by show cvL [s] g 0=0+s*g 0;rw [At];ext
 | [],k+1=>by show cvL [s] g (k+1)=0+s*g (k+1);rw [Am,BA];ext
 | x::a,0=>by show cvL (x::(a++[s])) g 0=_;rw [At,At];unfold Ax;rw [nU (by simp)];ext
 | x::a,k+1=>by
   show cvL (x::(a++[s])) g (k+1)=_;rw [Am,Am,Db g s a k]
   have e:Ax (x::a).length g (k+1)=Ax a.length g k:=by
    unfold Ax;rw [CP];by_cases h:a.length<=k
    ·rw [nV h,nV ⋯,show k+1 - (a.length+1)=k - a.length by omega]
    ·rw [nU h,nU ⋯]
   rw [e];ext
def Ft (a:List α) {g:Nat->α} (h:∀ k,g k=0) (k:Nat):cvL a g k=0:=by
 rw [BE (c:=λk=>0*g k) (λj=>by rw [h j];ext) a k,DB];ext
end
def Cy (a:d8) (k:Nat):co a k=cvL a AY k:=(DN a k).symm
def B7 (a b:d8) (k:Nat):cvL a (co b) k=cvL b (co a) k:=by
 rw [BE (Cy b) a k,HF,BE (λj=>(Cy a j).symm) b k]
def Ah {a:d8} {k:Nat} (h:a.length<=k):co a k=0:=by
 unfold co;rw [AQ,BL h];rfl
theorem Et {g:dC} {n:Nat} (h:∀ i,n<=i->g i=0):∀ (a:d8) (k:Nat),a.length+n<=k+1->cvL a g k=0
 | [],_,_=>rfl
 | x::a,0,hk=>by
   rw [CP] at hk;rw [At,h 0 ⋯];omega
 | x::a,k+1,hk=>by
   rw [CP] at hk;rw [Am,h (k+1) ⋯,Et h a k ⋯];omega
theorem LK {p:Int} {g:dC} {n:Nat} (h:∀ i,n<i->p∣g i):∀ (a:d8) (k:Nat),a.length+n<=k->p∣cvL a g k
 | [],_,_=>Cv p
 | x::a,0,hk=>absurd hk (by rw [CP];omega)
 | x::a,k+1,hk=>by
   rw [CP] at hk;rw [Am];exact Cu (FZ (h (k+1) ⋯)) (LK h a k ⋯)
theorem Jd {p:Nat} (hp:Pr p) {g:dC} {n:Nat} (q:¬ (p:Int)∣g n) (h:∀ i,n<i->(p:Int)∣g i) (S:d8) :
  (∀ k,n<=k->(p:Int)∣cvL S g k)->∀ s∈S,(p:Int)∣s:=by
 induction hl:S.length generalizing S with
 | zero=>intro _ s d;rw [CB.mp hl] at d;exact nomatch d
 | succ m r=>
   intro hk;have j:S≠[]:=λz=>by rw [z] at hl;simp at hl
   obtain ⟨T,t,rfl⟩:∃ T t,S=T++[t]:=⟨S.dropLast,S.getLast j,(Gu j).symm⟩;have u:T.length=m:=by simpa using hl
   have o:(p:Int)∣t:=by
    have a:=hk (T.length+n) ⋯;rw [Db] at a;have b:=LK h T (T.length+n) (AR _)
    have c:(p:Int)∣t*Ax T.length g (T.length+n):=by
     have:=Int.dvd_sub a b;rwa [show ∀ x y:Int,x+y - x=y by intro x y;omega] at this
    unfold Ax at c;rw [nV ⋯,show T.length+n - T.length=n by omega] at c;rcases hp.mulI c with z | z
    ·exact z
    ·exact absurd z q
   have e:=r T u (λk f=>by
    have a:=hk k f;rw [Db] at a;have:=Int.dvd_sub a (Gp (c:=Ax T.length g k) o);rwa [show ∀ x y:Int,x+y - y=x by intro x y;omega] at this)
   intro s d;rcases CO.mp d with h | h
   ·exact e s h
   ·rw [Aw.mp h];exact o
def Lz (g:d8):Prop:=0<g.length/\co g (g.length - 1)≠0
def QI (r o f:dC):Prop:=∃ d:Int,d≠0/\∃ U V:d8,∀ k,d*f k=cvL U r k+cvL V o k
def MQ (g f:dC):Prop:=∃ c:Int,c≠0/\∃ A:d8,∀ k,c*f k=cvL A g k
def QI.congr {r o f h:dC} (q:QI r o f) (e:∀ k,h k=f k):QI r o h:=by
 obtain ⟨d,a,U,V,b⟩:=q;exact ⟨d,a,U,V,λk=>by rw [e k];exact b k⟩
theorem QI.left (r o:dC):QI r o r:=⟨1,∅,[1],[],λk=>by
 rw [BA];cases k with
 | zero=>rw [At];omega
 | succ k=>rw [Am,BA];omega⟩
theorem QI.right (r o:dC):QI r o o:=⟨1,∅,[],[1],λk=>by
 rw [BA];cases k with
 | zero=>rw [At];omega
 | succ k=>rw [Am,BA];omega⟩
def QI.less {r o f h:dC} (q:QI r o f) (i:QI r o h) (a w:Int) (s:Nat):QI r o (λk=>a*f k - w*Ax s h k):=by
 obtain ⟨d,j,U,V,m⟩:=q;obtain ⟨c,e,n,p,g⟩:=i;refine ⟨d*c,CC j e,A7 (U.map (c*a*·)) (List.replicate s 0++n.map (-(d*w)*·)),A7 (V.map (c*a*·)) (List.replicate s 0++p.map (-(d*w)*·)),λk=>?_⟩;show d*c*(a*f k - w*Ax s h k)=_;rw [Br,Br,BG,BG,HH,HH];unfold Ax;have u:=m k;by_cases b:s<=k
 ·rw [nV b,nV b,nV b,BG,BG];have v:=g (k - s);ext
 ·rw [nU b,nU b,nU b];ext
def QI.scal {r o f:dC} {c:Int} (a:c≠0) (q:QI r o (λk=>c*f k)):QI r o f:=by
 obtain ⟨d,b,U,V,e⟩:=q;exact ⟨d*c,CC b a,U,V,λk=>by rw [<-e k];ext⟩
theorem MQ.refl (g:dC):MQ g g:=⟨1,∅,[1],λk=>by
 cases k with
 | zero=>rw [At];omega
 | succ k=>rw [Am,BA];omega⟩
def MQ.zero (g:dC) {f:dC} (h:∀ k,f k=0):MQ g f:=⟨1,∅,[],λk=>by rw [BA,h k];rfl⟩
def MQ.congr {g f h:dC} (m:MQ g f) (e:∀ k,h k=f k):MQ g h:=by
 obtain ⟨c,a,A,b⟩:=m;exact ⟨c,a,A,λk=>by rw [e k];exact b k⟩
def MQ.less {g f h:dC} (m:MQ g f) (j:MQ g h) (a w:Int) (s:Nat):MQ g (λk=>a*f k - w*Ax s h k):=by
 obtain ⟨d,n,U,o⟩:=m;obtain ⟨c,e,p,i⟩:=j;refine ⟨d*c,CC n e,A7 (U.map (c*a*·)) (List.replicate s 0++p.map (-(d*w)*·)),λk=>?_⟩;show d*c*(a*f k - w*Ax s h k)=_;rw [Br,BG,HH];unfold Ax;have q:=o k;by_cases b:s<=k
 ·rw [nV b,nV b,BG];have r:=i (k - s);ext
 ·rw [nU b,nU b];ext
def MQ.scal {g f:dC} {c:Int} (a:c≠0) (m:MQ g (λk=>c*f k)):MQ g f:=by
 obtain ⟨d,b,A,e⟩:=m;exact ⟨d*c,CC b a,A,λk=>by rw [<-e k];ext⟩
def MQ.trans {g f h:dC} (m:MQ g f) (a:MQ f h):MQ g h:=by
 obtain ⟨c,b,A,i⟩:=m;obtain ⟨d,j,B,n⟩:=a;refine ⟨c*d,CC b j,Bb B A,λk=>?_⟩;rw [Bt];have e:c*cvL B f k=cvL B (cvL A g) k:=by rw [<-DB];exact BE i B k
 rw [<-e,<-n k];ext
def MQ.of_QI {r o f g:dC} (a:MQ g r) (b:MQ g o) (q:QI r o f):MQ g f:=by
 obtain ⟨d,h,U,V,i⟩:=q;obtain ⟨c,j,A,m⟩:=a;obtain ⟨e,n,B,p⟩:=b;refine ⟨c*e*d,CC (CC j n) h,A7 ((Bb U A).map (e*·)) ((Bb V B).map (c*·)),λk=>?_⟩;rw [Br,BG,BG,Bt,Bt];have u:c*cvL U r k=cvL U (cvL A g) k:=by rw [<-DB];exact BE m U k
 have v:e*cvL V o k=cvL V (cvL B g) k:=by rw [<-DB];exact BE p V k
 have w:=i k;ext
def QI.of_MQ {r o f h:dC} (q:QI r o f) (m:MQ f h):QI r o h:=by
 obtain ⟨c,a,A,b⟩:=m;obtain ⟨d,g,U,V,i⟩:=q;refine ⟨d*c,CC g a,Bb A U,Bb A V,λk=>?_⟩;rw [Bt,Bt];have e:d*cvL A f k=cvL A (cvL U r) k+cvL A (cvL V o) k:=by rw [<-DB,<-HE];exact BE i A k
 rw [<-e,<-b k];ext
def LL {f:d8} (h:co f (f.length - 1)=0) (k:Nat):co f.dropLast k=co f k:=by
 unfold co at *;rw [AQ,AQ];rw [List.getElem?_dropLast];by_cases hk:k<f.length - 1
 ·rw [nV hk]
 ·rw [nU hk];by_cases e:k=f.length - 1
  ·subst e;rw [AQ] at h;rw [h];rfl
  ·rw [BL ⋯]
theorem ES (f:d8):(∀ k,co f k=0)\/∃ g,Lz g/\g.length<=f.length/\∀ k,co g k=co f k:=by
 induction hn:f.length generalizing f with
 | zero=>exact .inl λk=>Ah ⋯
 | succ n a=>
   by_cases h:co f (f.length - 1)=0
   ·rcases a f.dropLast (by rw [List.length_dropLast];omega) with z | ⟨g,b,d,c⟩
    ·exact .inl λk=>by rw [<-LL h];exact z k
    ·exact .inr ⟨g,b,⋯,λk=>by rw [c,LL h]⟩
   ·exact .inr ⟨f,⟨⋯,h⟩,⋯,λ_=>rfl⟩
def Je (n:Nat) (F:dC) (k:Nat):co ((List.range n).map F) k=if k<n then F k else 0:=by
 unfold co;rw [AQ,Ac];by_cases h:k<n
 ·rw [nV h,DU h];rfl
 ·rw [nU h,BL (by rw [Bm];omega)];rfl
structure Gen (r o:dC) (g:d8):Prop where
 lz:Lz g
 qi:QI r o (co g)
 len:∀ h,Lz h->QI r o (co h)->g.length<=h.length
 last:∀ h,Lz h->QI r o (co h)->h.length=g.length->(co g (g.length - 1)).natAbs<=(co h (h.length - 1)).natAbs
def Zg {r o:dC} {f:d8} (d:Lz f) (q:QI r o (co f)):∃ g,Gen r o g:=by
 have L:∀ n,(∃ f,f.length=n/\Lz f/\QI r o (co f))->∃ m,(∃ f,f.length=m/\Lz f/\QI r o (co f))/\∀ h,Lz h->QI r o (co h)->m<=h.length:=by
  intro n
  induction n using Nat.strongRecOn with
  | _ n e=>
    intro k;by_cases a:∃ m,m<n/\∃ f,f.length=m/\Lz f/\QI r o (co f)
    ·obtain ⟨m,i,a⟩:=a;exact e m i a
    ·refine ⟨n,k,λh b c=>?_⟩;rcases A5 h.length n with z | z
     ·exact absurd ⟨h.length,z,h,rfl,b,c⟩ a
     ·exact z
 obtain ⟨m,⟨p,u,v,w⟩,i⟩:=L f.length ⟨f,rfl,d,q⟩
 have M:∀ n,(∃ f,f.length=m/\Lz f/\QI r o (co f)/\(co f (f.length - 1)).natAbs=n)->∃ g,Gen r o g:=by
  intro n
  induction n using Nat.strongRecOn with
  | _ n e=>
    rintro ⟨f,x,d,y,B⟩;by_cases a:∃ j,j<n/\∃ f,f.length=m/\Lz f/\QI r o (co f)/\(co f (f.length - 1)).natAbs=j
    ·obtain ⟨j,A,a⟩:=a;exact e j A a
    ·refine ⟨f,d,y,λh b c=>by rw [x];exact i h b c,λh b c C=>?_⟩;rcases A5 (co h (h.length - 1)).natAbs (co f (f.length - 1)).natAbs with z | z
     ·exact absurd ⟨_,⋯,h,⋯,b,c,rfl⟩ a
     ·exact z
 exact M _ ⟨p,u,v,w,rfl⟩
theorem Gen.mq {r o:dC} {g:d8} (G:Gen r o g):∀ (n:Nat) (f:d8),f.length<=n->QI r o (co f)->MQ (co g) (co f)
 | 0,f,h,_=>MQ.zero _ λk=>Ah ⋯
 | n+1,f,h,q=>by
   rcases ES f with z | ⟨b,u,A,i⟩
   ·exact MQ.zero _ z
   have j:QI r o (co b):=q.congr i;have B:=G.len b u j;refine MQ.congr (f:=co b) ?_ λk=>(i k).symm;generalize C:b.length - g.length=s;have D:=G.lz.1;let F:d8:=(List.range (b.length - 1)).map λk=>co g (g.length - 1)*co b k - co b (b.length - 1)*Ax s (co g) k
   have p:∀ k,co F k=co g (g.length - 1)*co b k - co b (b.length - 1)*Ax s (co g) k:=λk=>by
    rw [Je];by_cases hk:k<b.length - 1
    ·rw [nV hk]
    ·rw [nU hk];unfold Ax;by_cases e:k=b.length - 1
     ·rw [nV ⋯,e,show b.length - 1 - s=g.length - 1 by omega];ext
     ·rw [Ah (a:=b) ⋯];by_cases d:s<=k
      ·rw [nV d,Ah (a:=g) (k:=k - s) ⋯];omega
      ·rw [nU d];omega
   have v:QI r o (co F):=QI.congr (j.less G.qi (co g (g.length - 1)) (co b (b.length - 1)) s) p
   have w:F.length<=n:=by
    have:F.length=b.length - 1:=by show ((List.range (b.length - 1)).map _).length=_;rw [AJ,Bm]
    omega
   have m:=Gen.mq G n F w v;have x:=MQ.less (MQ.congr m λk=>(p k).symm) (MQ.refl (co g)) 1 (-(co b (b.length - 1))) s;refine MQ.scal (c:=co g (g.length - 1)) G.lz.2 (MQ.congr x λk=>?_);show _=1*_ - _*Ax s (co g) k;generalize Ax s (co g) k=y;ext
def Gen.prim {r o:dC} {g:d8} (G:Gen r o g) {p:Nat} (hp:2<=p):∃ n,¬ (p:Int)∣co g n/\∀ i,n<i->(p:Int)∣co g i:=by
 have b:∀ n,(∀ i,n<=i->(p:Int)∣co g i)->(∀ i,(p:Int)∣co g i)\/∃ n,¬ (p:Int)∣co g n/\∀ i,n<i->(p:Int)∣co g i:=by
  intro n
  induction n with
  | zero=>intro h;exact .inl λi=>h i (Ae i)
  | succ n v=>
    intro h;by_cases m:(p:Int)∣co g n
    ·exact v λi d=>by
      by_cases e:i=n
      ·rw [e];exact m
      ·exact h i ⋯
    ·exact .inr ⟨n,m,λi d=>h i ⋯⟩
 rcases b g.length (λi d=>by rw [Ah d];exact Cv _) with h | h
 ·exfalso;let a:d8:=g.map (·/ (p:Int))
  have f:∀ k,(p:Int)*co a k=co g k:=λk=>by
   have:co a k=co g k / (p:Int):=by
    show (g.map (·/ (p:Int))).getD k 0=g.getD k 0 / (p:Int);rw [AQ,AQ,Ac];cases g[k]? with
    | none=>exact (Int.zero_ediv _).symm
    | some z=>rfl
   rw [this,GA (h k)]
  have w:(p:Int)≠0:=by omega
  have Dc:a.length=g.length:=AJ ..;have q:co a (a.length - 1)≠0:=λz=>G.lz.2 (by rw [<-f,<-Dc,z];omega);have x:Lz a:=⟨by rw [Dc];exact G.lz.1,q⟩;have y:QI r o (co a):=QI.scal (c:=(p:Int)) w (QI.congr G.qi f);have u:=G.last a x y Dc;have j:=f (g.length - 1);rw [<-Dc] at j;rw [Dc] at j u;rw [<-j,Bx,Cj] at u;rw [Dc] at q;have A:0<(co a (g.length - 1)).natAbs:=by omega
  have:=Cf (co a (g.length - 1)).natAbs hp;omega
 ·exact h
def Gen.loc {r o:dC} {g:d8} (G:Gen r o g) {p:Nat} (hp:Pr p) {f:dC} (m:MQ (co g) f) :
  ∃ (c:Int) (A:d8),¬ (p:Int)∣c/\∀ k,c*f k=cvL A (co g) k:=by
 obtain ⟨n,v,w⟩:=G.prim hp.two;obtain ⟨c,x,A,b⟩:=m
 have i:∀ (m:Nat) (c:Int) (A:d8),c.natAbs<=m->c≠0->(∀ k,c*f k=cvL A (co g) k)->∃ (c:Int) (A:d8),¬ (p:Int)∣c/\∀ k,c*f k=cvL A (co g) k:=by
  intro m
  induction m with
  | zero=>intro c A h u;omega
  | succ m y=>
    intro c A h u b;by_cases j:(p:Int)∣c
    ·have B:∀ a∈A,(p:Int)∣a:=Jd hp v w A λk _=>by rw [<-b k];exact Gp j
     obtain ⟨d,rfl⟩:=j;have C:=hp.two;have q:d≠0:=λz=>u (by rw [z];omega)
     have D:A=(A.map (·/ (p:Int))).map ((p:Int)*·):=by
      rw [B3]
      conv=>lhs;rw [<-List.map_id A]
      refine Ce λa E=>?_;show a=(p:Int)*(a / (p:Int));rw [GA (B a E)]
     refine y d (A.map (·/ (p:Int))) ?_ q λk=>?_
     ·rw [Bx,Cj] at h;have F:0<d.natAbs:=by omega
      have:=Cf d.natAbs C;omega
     ·have e:=b k;rw [D,BG,Int.mul_assoc] at e;exact Int.eq_of_mul_eq_mul_left ⋯ e
    ·exact ⟨c,A,j,b⟩
 exact i _ c A (AR _) x b
theorem Zh (a b:Nat):∃ x y:Int,x*a+y*b=(Nat.gcd a b:Int):=by
 induction a,b using Nat.gcd.induction with
 | H0 n=>exact ⟨0,1,by simp⟩
 | H1 m n d c=>
   obtain ⟨x,y,h⟩:=c;refine ⟨y - x*((n / m:Nat):Int),x,?_⟩;rw [Nat.gcd_rec,<-h]
   have e:(n:Int)=(m:Int)*((n / m:Nat):Int)+((n % m:Nat):Int):=by
    have:=Nat.div_add_mod n m;exact_mod_cast this.symm
   generalize ((n / m:Nat):Int)=q at *;generalize ((n % m:Nat):Int)=w at *;rw [e];ext
def Zi (a b:Int):∃ x y:Int,x*a+y*b=(Int.gcd a b:Int):=by
 obtain ⟨x,y,h⟩:=Zh a.natAbs b.natAbs
 have s:∀ z:Int,∃ e:Int,(z.natAbs:Int)=e*z:=λz=>by
  rcases Int.natAbs_eq z with h | h
  ·exact ⟨1,⋯⟩
  ·exact ⟨-1,⋯⟩
 obtain ⟨e,c⟩:=s a;obtain ⟨f,d⟩:=s b;refine ⟨x*e,y*f,?_⟩;show _=((Nat.gcd a.natAbs b.natAbs:Nat):Int);rw [<-h,c,d];ext
def Dm (p:Int) (g f:dC):Prop:=∃ S:d8,∀ k,p∣f k - cvL S g k
def Gen.dm {r o:dC} {g:d8} (G:Gen r o g) {p:Nat} (hp:Pr p) {f:dC} (m:MQ (co g) f):Dm (p:Int) (co g) f:=by
 obtain ⟨c,A,d,e⟩:=G.loc hp m
 have b:Int.gcd c (p:Int)=1:=by
  have:=hp.cop (a:=c.natAbs) λz=>d (C5.mp (by rw [Cj];exact z));exact this
 obtain ⟨x,y,i⟩:∃ x y:Int,x*c+y*(p:Int)=1:=by
  obtain ⟨x,y,h⟩:=Zi c (p:Int);exact ⟨x,y,by rw [h,b];rfl⟩
 refine ⟨A.map (x*·),λk=>⟨f k*y,?_⟩⟩;rw [BG,<-e k];ext
def Dm.less {p:Int} {g f h:dC} (m:Dm p g f) (d:Dm p g h) (a w:Int) (s:Nat):Dm p g (λk=>a*f k - w*Ax s h k):=by
 obtain ⟨S,e⟩:=m;obtain ⟨i,c⟩:=d;refine ⟨A7 (S.map (a*·)) (List.replicate s 0++i.map (-w*·)),λk=>?_⟩;show p∣a*f k - w*Ax s h k - _;rw [Br,BG,HH];unfold Ax;obtain ⟨x,j⟩:=e k;by_cases b:s<=k
 ·rw [nV b,nV b,BG];obtain ⟨y,n⟩:=c (k - s);exact ⟨a*x - w*y,()⟩
 ·rw [nU b,nU b];exact ⟨a*x,()⟩
def Dm.congr {p:Int} {g f h:dC} (m:Dm p g f) (e:∀ k,p∣h k - f k):Dm p g h:=by
 obtain ⟨S,a⟩:=m;exact ⟨S,λk=>by have:=Cu (e k) (a k);rwa [show ∀ x y z:Int,x - y+(y - z)=x - z by intro x y z;omega] at this⟩
def Dm.zero (p:Int) (g:dC) {f:dC} (h:∀ k,p∣f k):Dm p g f:=⟨[],λk=>by rw [BA];simpa using h k⟩
def Gen.lead {r o:dC} {g R:d8} (G:Gen r o g) {p:Nat} (hp:Pr p) (D:Lz R) (m:MQ (co g) (co R)) (h:¬ (p:Int)∣co R (R.length - 1)):¬ (p:Int)∣co g (g.length - 1):=by
 intro E;obtain ⟨n,b,F⟩:=G.prim hp.two;obtain ⟨c,A,d,f⟩:=G.loc hp m
 have M:n+1<g.length:=by
  rcases A5 n g.length with z | z
  ·rcases A5 (n+1) g.length with y | y
   ·exact y
   ·exact absurd E (by rw [show g.length - 1=n by omega];exact b)
  ·exact absurd (by rw [Ah z];exact Cv _) b
 rcases ES A with z | ⟨B,q,_,H⟩
 ·have:c*co R (R.length - 1)=0:=by
   rw [f,B7,Ft g z]
  rcases Int.mul_eq_zero.mp this with e | e
  ·exact d (by rw [e];exact Cv _)
  ·exact D.2 e
 ·have u:∀ k,c*co R k=cvL B (co g) k:=λk=>by rw [f,B7,BE (λj=>(H j).symm) g k,<-B7]
  have N:B.length+g.length<=R.length+1:=by
   rcases A5 (R.length+1) (B.length+g.length) with z | z
   ·exfalso;have v:=q.1;have O:=G.lz.1;have e:=u (B.length - 1+(g.length - 1));rw [Ah ⋯] at e;have w:B≠[]:=λz=>by rw [z] at v;simp at v
    obtain ⟨T,t,a⟩:∃ T t,B=T++[t]:=⟨B.dropLast,B.getLast w,(Gu w).symm⟩;have I:T.length=B.length - 1:=by rw [a];simp
    have J:co B (B.length - 1)=t:=by rw [<-I,a];unfold co;simp [AQ]
    rw [a,Db,<-a,Et (n:=g.length) (λi K=>Ah K) T _ ⋯] at e;unfold Ax at e;rw [nV ⋯,show B.length - 1+(g.length - 1) - T.length=g.length - 1 by omega] at e;have L:t*co g (g.length - 1)=0:=by omega
    rcases Int.mul_eq_zero.mp L with x | x
    ·exact q.2 (J.trans x)
    ·exact G.lz.2 x
   ·exact z
  have C:=LK F B (R.length - 1) ⋯;rw [<-u] at C;rcases hp.mulI C with x | x
  ·exact d x
  ·exact h x
def Dm.len {p:Nat} (hp:Pr p) {g f:d8} (o:0<g.length) (b:¬ (p:Int)∣co g (g.length - 1)) (d:Dm (p:Int) (co g) (co f)) (j:∃ k,¬ (p:Int)∣co f k):g.length<=f.length:=by
 rcases A5 f.length g.length with z | z
 ·exfalso;obtain ⟨S,a⟩:=d
  have sS:=Jd hp b (λi q=>by rw [Ah ⋯];exact Cv _) S λk hk=>by
   have:=a k;rw [Ah ⋯] at this;have e:=Int.dvd_neg.mpr this;rwa [show ∀ x:Int,-(0 - x)=x by intro x;omega] at e
  obtain ⟨k,hk⟩:=j;apply hk
  have c:∀ (S:d8),(∀ s∈S,(p:Int)∣s)->∀ k,(p:Int)∣cvL S (co g) k:=by
   intro S
   induction S with
   | nil=>intro _ k;exact Cv _
   | cons x S m=>
     intro h k;rw [Fm];refine Cu (Gp (h x (Au ..))) ?_;cases k with
     | zero=>exact Cv _
     | succ k=>exact m (λs n=>h s (A3 _ n)) k
  have:=Cu (a k) (c S sS k);rwa [Int.sub_add_cancel] at this
 ·exact z
structure RC (r o:dC) (g:d8):Prop where
 lz:Lz g
 left:MQ (co g) r
 right:MQ (co g) o
 qi:QI r o (co g)
def Gen.rc {R O g:d8} (G:Gen (co R) (co O) g):RC (co R) (co O) g:=
 ⟨G.lz,G.mq _ R (AR _) (QI.left _ _),G.mq _ O (AR _) (QI.right _ _),G.qi⟩
def Zj {r o:dC} {g h:d8} (G:RC r o g) (b:Lz h) (f:MQ (co h) r) (m:MQ (co h) o) (J:g.length<=h.length):RC r o h:=by
 refine ⟨b,f,m,G.qi.of_MQ ?_⟩;obtain ⟨d,A,T,p⟩:=MQ.of_QI f m G.qi;rcases ES T with z | ⟨B,c,_,C⟩
 ·exfalso;have:d*co g (g.length - 1)=0:=by rw [p,B7,Ft h z]
  rcases Int.mul_eq_zero.mp this with e | e
  ·exact A e
  ·exact G.lz.2 e
 ·have q:∀ k,d*co g k=cvL B (co h) k:=λk=>by rw [p,B7,BE (λj=>(C j).symm) h k,<-B7]
  have u:=c.1;have K:=b.1;have v:B≠[]:=λz=>by rw [z] at u;simp at u
  obtain ⟨X,t,a⟩:∃ X t,B=X++[t]:=⟨B.dropLast,B.getLast v,(Gu v).symm⟩;have D:X.length=B.length - 1:=by rw [a];simp
  have w:co B (B.length - 1)=t:=by rw [<-D,a];unfold co;simp [AQ]
  have one:B.length=1:=by
   rcases A5 1 B.length with y | y
   ·exfalso;have e:=q (B.length - 1+(h.length - 1));rw [Ah ⋯,a,Db,<-a,Et (n:=h.length) (λi E=>Ah E) X _ ⋯] at e;unfold Ax at e;rw [nV ⋯,show B.length - 1+(h.length - 1) - X.length=h.length - 1 by omega] at e;have F:t*co h (h.length - 1)=0:=by omega
    rcases Int.mul_eq_zero.mp F with x | x
    ·exact c.2 (w.trans x)
    ·exact b.2 x
   ·omega
  have H:X=[]:=CB.mp ⋯;have I:t≠0:=λz=>c.2 (w.trans z);refine ⟨t,I,[d],λk=>?_⟩;have e:=q k;rw [a,H] at e;cases k with
  | zero=>rw [At];rw [show ([]++[t]:d8)=[t] from rfl,At] at e;omega
  | succ k=>rw [Am,BA];rw [show ([]++[t]:d8)=[t] from rfl,Am,BA] at e;omega
def Prim (g:d8):Prop:=∀ c:Int,(∀ k,c∣co g k)->c.natAbs=1
def Prim.top {g:d8} (P:Prim g) {p:Nat} (hp:2<=p):∃ n,¬ (p:Int)∣co g n/\∀ i,n<i->(p:Int)∣co g i:=by
 have a:∀ n,(∀ i,n<=i->(p:Int)∣co g i)->(∀ i,(p:Int)∣co g i)\/∃ n,¬ (p:Int)∣co g n/\∀ i,n<i->(p:Int)∣co g i:=by
  intro n
  induction n with
  | zero=>intro h;exact .inl λi=>h i (Ae i)
  | succ n d=>
    intro h;by_cases c:(p:Int)∣co g n
    ·exact d λi b=>by
      by_cases e:i=n
      ·rw [e];exact c
      ·exact h i ⋯
    ·exact .inr ⟨n,c,λi b=>h i ⋯⟩
 rcases a g.length (λi b=>by rw [Ah b];exact Cv _) with h | h
 ·have:=P (p:Int) h;omega
 ·exact h
def O_ {g:d8} (P:Prim g) {f:dC} (m:MQ (co g) f):∃ A:d8,∀ k,f k=cvL A (co g) k:=by
 obtain ⟨c,u,A,b⟩:=m
 have i:∀ (m:Nat) (c:Int) (A:d8),c.natAbs<=m->c≠0->(∀ k,c*f k=cvL A (co g) k)->∃ A:d8,∀ k,f k=cvL A (co g) k:=by
  intro m
  induction m with
  | zero=>intro c A h o;omega
  | succ m v=>
    intro c A h o b;by_cases q:c.natAbs=1
    ·rcases Int.natAbs_eq c with e | e
     ·exact ⟨A,λk=>by rw [<-b k,e,q];omega⟩
     ·exact ⟨A.map (-1*·),λk=>by rw [BG,<-b k,e,q];omega⟩
    ·obtain ⟨p,hp,w,_⟩:=O6 (m:=c.natAbs) ⋯;have r:(p:Int)∣c:=C5.mp (by rw [Cj];exact w);obtain ⟨n,x,y⟩:=P.top hp.two;have B:∀ a∈A,(p:Int)∣a:=Jd hp x y A λk _=>by rw [<-b k];exact Gp r
     obtain ⟨d,rfl⟩:=r;have C:=hp.two;have j:d≠0:=λz=>o (by rw [z];omega)
     have D:A=(A.map (·/ (p:Int))).map ((p:Int)*·):=by
      rw [B3]
      conv=>lhs;rw [<-List.map_id A]
      refine Ce λa E=>?_;show a=(p:Int)*(a / (p:Int));rw [GA (B a E)]
     refine v d (A.map (·/ (p:Int))) ?_ j λk=>?_
     ·rw [Bx,Cj] at h;have F:0<d.natAbs:=by omega
      have:=Cf d.natAbs C;omega
     ·have e:=b k;rw [D,BG,Int.mul_assoc] at e;exact Int.eq_of_mul_eq_mul_left ⋯ e
 exact i _ c A (AR _) u b
noncomputable def evI:d8->Int->Int
 | [],_=>0
 | a::l,x=>a+x*evI l x
theorem Jf:∀ (l:d8) (x:Int),(∀ k,co l k=0)->evI l x=0
 | [],_,_=>rfl
 | a::l,x,h=>by
   have b:a=0:=h 0;show a+x*evI l x=0;rw [b,Jf l x λk=>h (k+1)];omega
theorem LM:∀ (a b:d8) (x:Int),(∀ k,co a k=co b k)->evI a x=evI b x
 | [],b,x,h=>(Jf b x λk=>(h k).symm).symm
 | a::l,[],x,h=>Jf (a::l) x h
 | a::l,b::m,x,h=>by
   have c:a=b:=h 0;show a+x*evI l x=b+x*evI m x;rw [c,LM l m x λk=>h (k+1)]
theorem PC:∀ (a b:d8) (x:Int),evI (A7 a b) x=evI a x+evI b x
 | [],b,x=>by show evI b x=0+evI b x;omega
 | a::l,[],x=>by rw [LJ];show _=_+0;omega
 | a::l,b::m,x=>by
   show (a+b)+x*evI (A7 l m) x=a+x*evI l x+(b+x*evI m x);rw [PC l m x];ext
theorem PH (c:Int):∀ (a:d8) (x:Int),evI (a.map (c*·)) x=c*evI a x
 | [],x=>by show (0:Int)=c*0;omega
 | a::l,x=>by
   show c*a+x*evI (l.map (c*·)) x=c*(a+x*evI l x);rw [PH c l x];ext
theorem PJ:∀ (a b:d8) (x:Int),evI (Bb a b) x=evI a x*evI b x
 | [],b,x=>by show (0:Int)=0*_;omega
 | a::l,b,x=>by
   show evI (A7 (b.map (a*·)) (0::Bb l b)) x=(a+x*evI l x)*evI b x;rw [PC,PH];show a*evI b x+(0+x*evI (Bb l b) x)=_;rw [PJ l b x];ext
def Zk (a b:d8) (k:Nat):co (Bb a b) k=cvL a (co b) k:=by
 rw [Cy,Bt];exact BE (λj=>(Cy b j).symm) a k
def Zl {r a g:d8} (h:∀ k,co r k=cvL a (co g) k) (x:Int):evI r x=evI a x*evI g x:=by
 rw [<-PJ];exact LM r (Bb a g) x λk=>by rw [Zk];exact h k
theorem PM {b c:Nat} {x:Int} (d:Bd c x):∀ (l:d8),(∀ z∈l,Bd b z)->Bd (b+l.length*(c+1)) (evI l x)
 | [],_=>D8 _
 | a::l,f=>by
   show Bd _ (a+x*evI l x);have g:=f a (Au ..);have h:=d.mul (PM d l λz i=>f z (A3 _ i));have e:(l.length+1)*(c+1)=l.length*(c+1)+(c+1):=by rw [Nat.add_mul,Nat.one_mul]
   refine ((g.mono (n:=c+(b+l.length*(c+1))) ⋯).add h).mono ?_;rw [CP,e];omega
noncomputable def X':d8->Int->d8
 | [],_=>[]
 | _::l,t=>evI l t::X' l t
theorem Jg:∀ (l:d8) (t:Int),(X' l t).length=l.length
 | [],_=>rfl
 | _::l,t=>congrArg (·+1) (Jg l t)
theorem LN:∀ (l:d8) (t x:Int),evI l x - evI l t=(x - t)*evI (X' l t) x
 | [],t,x=>by show (0:Int) - 0=_*0;omega
 | a::l,t,x=>by
   show a+x*evI l x - (a+t*evI l t)=(x - t)*(evI l t+x*evI (X' l t) x);have:=LN l t x;ext
theorem Jh:∀ (l:d8) (t:Int) (k:Nat),co l k=(if k=0 then evI l t else co (X' l t) (k - 1)) - t*co (X' l t) k
 | [],t,k=>by
   rw [show co (X' [] t) k=0 from Ah (Ae _),show co (X' [] t) (k - 1)=0 from Ah (Ae _),Ah (Ae _)];show 0=(if k=0 then 0 else 0) - _;split <;> omega
 | a::l,t,0=>by
   show a=a+t*evI l t - t*evI l t;omega
 | a::l,t,k+1=>by
   have:=Jh l t k;show co l k=(if k+1=0 then _ else co (evI l t::X' l t) (k+1 - 1)) - t*co (X' l t) k;rw [nU ⋯,this];cases k with
   | zero=>rfl
   | succ k=>rw [nU ⋯];rfl
theorem Zm (l:d8) (t:Int):co (X' l t) (l.length - 1)=0:=by
 induction l with
 | nil=>exact Ah (Ae _)
 | cons a l b=>
   show co (evI l t::X' l t) l.length=0;cases h:l.length with
   | zero=>rw [CB.mp h];rfl
   | succ m=>rw [h] at b;exact b
theorem aH {c:Nat}:∀ (d:Nat) (l:d8) (y:Nat) (x:dC),(∀ k,d<k->co l k=0)->(∀ i,i<=d->Bd c (x i))->(∀ i j,i<=d->j<=d->i≠j->x i≠x j)->(∀ i,i<=d->Bd y (evI l (x i)))->∀ k,Bd (y+d*(c+3)) (co l k)
 | 0,l,y,x,m,_,_,f,k=>by
   cases k with
   | zero=>
     have e:evI l (x 0)=co l 0:=by
      cases l with
      | nil=>rfl
      | cons a l=>
        show a+x 0*evI l (x 0)=a;rw [Jf l (x 0) λk=>m (k+1) ⋯];omega
     have:=f 0 (AR 0);rw [e] at this;exact this.mono ⋯
   | succ k=>rw [m (k+1) ⋯];exact D8 _
 | d+1,l,y,x,m,q,r,f,k=>by
   have v:∀ j,d<j->co (X' l (x (d+1))) j=0:=by
    have g:∀ n,∀ j,d<j->l.length<=j+n->co (X' l (x (d+1))) j=0:=by
     intro n
     induction n with
     | zero=>intro j _ h;exact Ah (by rw [Jg];omega)
     | succ n o=>
       intro j p h;have e:=Jh l (x (d+1)) (j+1);rw [m (j+1) ⋯,nU ⋯,o (j+1) ⋯ ⋯] at e;rw [show j+1 - 1=j by omega] at e;omega
    intro j p;exact g l.length j p ⋯
   have o:=aH d (X' l (x (d+1))) (y+1) x v (λi u=>q i ⋯) (λi j u p=>r i j ⋯ ⋯) (λi u=>by
    have e:=LN l (x (d+1)) (x i);have C:x i - x (d+1)≠0:=λz=>r i (d+1) ⋯ ⋯ ⋯ ⋯;have b:=(f i ⋯).sub (f (d+1) ⋯);rw [e] at b;refine b.le ?_;rw [Bx];exact Gs _ ⋯)
   have e:=Jh l (x (d+1)) k;rw [e];have w:=q (d+1) (AR _);have A:=w.mul (o k);have em:(d+1)*(c+3)=d*(c+3)+(c+3):=by rw [Nat.add_mul,Nat.one_mul]
   have B:Bd (c+(y+1+d*(c+3))) (if k=0 then evI l (x (d+1)) else co (X' l (x (d+1))) (k - 1)):=by
    split
    ·exact (f (d+1) (AR _)).mono ⋯
    ·exact (o (k - 1)).mono ⋯
   exact (B.sub A).mono ⋯
end Bs
namespace Bs
open PySem L2
def isN (H:Hp) (v:V) (q:Nu):Prop:=∃ p,v=.ref p/\H p=some (.tup [.int q.1,.int q.2])
noncomputable def Nums (H:Hp):c_->cV->Prop
 | [],[]=>True
 | x::a,q::l=>isN H x q/\Nums H a l
 | _,_=>False
def Tp (H c:Hp):Prop:=∀ b a,H b=some (.tup a)->c b=some (.tup a)
def E_ {H a:Hp} (s:Same H a):Tp H a:=λb c h=>s b _ h
def Kp.tp {p:Addr} {H a:Hp} {xs:c_} (k:Kp p H a) (h:H p=some (.lst xs)):Tp H a:=λb c q=>k b _ (Fb q h (by intro z;cases z)) q
def Tp.updL {p:Addr} {H:Hp} {xs a:c_} (h:H p=some (.lst xs)):Tp H (upd H p (.lst a)):=Kp.tp Kp.upd h
def isN.tp {H a:Hp} {v:V} {q:Nu} (h:isN H v q) (t:Tp H a):isN a v q:=let ⟨p,e,z⟩:=h;⟨p,e,t _ _ z⟩
theorem Nums.tp {H a:Hp} (t:Tp H a):∀ {xs:c_} {l:cV},Nums H xs l->Nums a xs l
 | [],[],_=>trivial
 | _::_,_::_,h=>⟨h.1.tp t,Nums.tp t h.2⟩
 | [],_::_,h=>h.elim
 | _::_,[],h=>h.elim
theorem Nums.length {H:Hp}:∀ {xs:c_} {l:cV},Nums H xs l->xs.length=l.length
 | [],[],_=>rfl
 | _::_,_::_,h=>congrArg (·+1) (Nums.length h.2)
 | [],_::_,h=>h.elim
 | _::_,[],h=>h.elim
theorem Nums.get {H:Hp}:∀ {xs:c_} {l:cV} {i:Nat} {v:V},Nums H xs l->xs[i]?=some v->∃ q,l[i]?=some q/\isN H v q
 | [],[],_,_,_,e=>by simp at e
 | _::_,q::_,0,_,h,e=>by simp at e;subst e;exact ⟨q,rfl,h.1⟩
 | _::_,_::_,i+1,_,h,e=>by
   obtain ⟨q,a,b⟩:=Nums.get (i:=i) h.2 (by simpa using e);exact ⟨q,by simpa using a,b⟩
 | [],_::_,_,_,h,_=>h.elim
 | _::_,[],_,_,h,_=>h.elim
def Nums.at {H:Hp} {xs:c_} {l:cV} {i:Nat} (h:Nums H xs l) (b:i<l.length) (d:Nu):∃ v,xs[i]?=some v/\isN H v (l.getD i d):=by
 have a:i<xs.length:=by rw [h.length];exact b
 obtain ⟨q,c,e⟩:=h.get (AZ a);refine ⟨_,AZ a,?_⟩;rw [AQ,c];exact e
theorem Nums.append {H:Hp}:∀ {xs a:c_} {l m:cV},Nums H xs l->Nums H a m->Nums H (xs++a) (l++m)
 | [],_,[],_,_,h=>h
 | _::_,_,_::_,_,h,b=>⟨h.1,Nums.append h.2 b⟩
 | [],_,_::_,_,h,_=>h.elim
 | _::_,_,[],_,h,_=>h.elim
def Nums.one {H:Hp} {v:V} {q:Nu} (h:isN H v q):Nums H [v] [q]:=⟨h,trivial⟩
theorem Nums.take {H:Hp}:∀ {xs:c_} {l:cV} (n:Nat),Nums H xs l->Nums H (xs.take n) (l.take n)
 | [],[],n,_=>by simp [Nums]
 | _::_,_::_,0,_=>trivial
 | _::_,_::_,n+1,h=>⟨h.1,Nums.take n h.2⟩
 | [],_::_,_,h=>h.elim
 | _::_,[],_,h=>h.elim
theorem Nums.set {H:Hp} {v:V} {q:Nu} (a:isN H v q):∀ {xs:c_} {l:cV} (i:Nat),Nums H xs l->Nums H (xs.set i v) (l.set i q)
 | [],[],_,_=>trivial
 | _::_,_::_,0,h=>⟨a,h.2⟩
 | _::_,_::_,i+1,h=>⟨h.1,Nums.set a i h.2⟩
 | [],_::_,_,h=>h.elim
 | _::_,[],_,h=>h.elim
theorem Nums.rep {H:Hp} {v:V} {q:Nu} (a:isN H v q):∀ n:Nat,Nums H (List.replicate n v) (List.replicate n q)
 | 0=>trivial
 | n+1=>⟨a,Nums.rep a n⟩
theorem Ji {a:Type} (v:a):∀ n:Nat,(List.replicate n [v]).flatten=List.replicate n v
 | 0=>rfl
 | n+1=>by rw [List.replicate_succ,List.flatten_cons,Ji v n];rfl
def Ca {a:Type} {xs:List a} {i:Int} {j:Nat} {v:a} (e:i=(j:Int)) (h:xs[j]?=some v):P_ xs i=some v:=by subst e;exact VT h
def PN {H:Hp} {p:Addr} {q:Nu}:isN (upd H p (.tup [.int q.1,.int q.2])) (.ref p) q:=⟨p,rfl,upd_same⟩
def Jj {xs:c_} {m:Nat} (h:m<=xs.length):CW xs none (some (m:Int))=xs.take m:=by
 unfold CW HT.sIx;simp only [List.drop_zero,Nat.sub_zero,EI];rw [nU ⋯,Nat.min_eq_left h]
def GW (H:Hp) (Q:VK) (l:cV):Prop:=∀ (r:Addr) (b:c_) (a:Hp),Same H a->a r=some (.tup b)->Nums a b l->Q (.ref r) a
noncomputable def Ci (q:Nu):W.Dat:=.tuple [.int q.1,.int q.2]
noncomputable def Cp (l:cV):W.Dat:=.tuple (l.map Ci)
def Eu {H:Hp} {v:V} {q:Nu} (h:isN H v q):RepD H v (Ci q):=by
 obtain ⟨p,rfl,hp⟩:=h;exact .tup hp (.cons (.int _) (.cons (.int _) .nil))
theorem PP {H:Hp}:∀ {xs:c_} {l:cV},Nums H xs l->RepA H xs (l.map Ci)
 | [],[],_=>.nil
 | _::_,_::_,h=>.cons (Eu h.1) (PP h.2)
 | [],_::_,h=>h.elim
 | _::_,[],h=>h.elim
def IQ {H:Hp} {p:Addr} {xs:c_} {l:cV} (hp:H p=some (.tup xs)) (h:Nums H xs l):RepD H (.ref p) (Cp l):=.tup hp (PP h)
def aP (q:Nu) (n:Nat):W.kqdOk (n+1) (Ci q)=true:=by simp [Ci,W.kqdOk]
def bK (l:cV) (n:Nat):W.kqdOk (n+2) (Cp l)=true:=by
 simp only [Cp,W.kqdOk,List.all_map,DT,Function.comp];intro q _;exact aP q n
section
variable {σ:L2.St} {H:Hp} {Q:VK} {D:Ends} {rest:TS} {sp:Sp} {E:XK}
def AN {i:Nat} {v:V} (a:σ[i]?=some (some v)) (h:Q v H):AA i σ H Q:=⟨v,a,h⟩
def Cb {i:Nat} {k:Int} {a:Addr} {xs:c_} {v:V} (b:σ[i]?=some (some (.ref a))) (c:H a=some (.tup xs)) (d:P_ xs k=some v) (h:Q v H):A_ gT (AA i) (tC (.int k)) σ H Q:=⟨_,b,a,k,xs,v,rfl,rfl,c,d,h⟩
def HI {a:TE} {k:Nat} (h:a σ H λx b=>sp [x] b (λv c=>rest D (σ.set k (some v)) c) E):AG (AM (AK sp [] E (AB a AC)) (AE k)) rest D σ H:=h
def FP {a b:TE} {k:Nat} (h:a σ H λx c=>b σ c λy d=>sp [x,y] d (λv e=>rest D (σ.set k (some v)) e) E):AG (AM (AK sp [] E (AB a (AB b AC))) (AE k)) rest D σ H:=h
def Zn {a b tc:TE} {k:Nat} (h:a σ H λx c=>b σ c λy d=>tc σ d λz e=>sp [x,y,z] e (λv f=>rest D (σ.set k (some v)) f) E):AG (AM (AK sp [] E (AB a (AB b (AB tc AC)))) (AE k)) rest D σ H:=h
def Bw {a:TE} (h:a σ H λx b=>sp [x] b Q E):AK sp [] E (AB a AC) σ H Q:=h
def CL {a b:TE} (h:a σ H λx c=>b σ c λy d=>sp [x,y] d Q E):AK sp [] E (AB a (AB b AC)) σ H Q:=h
def PQ {a b tc:TE} (h:a σ H λx c=>b σ c λy d=>tc σ d λz e=>sp [x,y,z] e Q E):AK sp [] E (AB a (AB b (AB tc AC))) σ H Q:=h
def Bu {a:TE} {k:Nat} (h:a σ H λx b=>rest D (σ.set k (some x)) b):AG (AM a (AE k)) rest D σ H:=h
def CU {a:TE} (h:a σ H D.rt):AU a D σ H:=h
def PU {a:TE} (h:a σ H λx b=>[x].length<=sizeLine/\∀ p,b p=none->Q (.ref p) (upd b p (.tup [x]))):Ar (AB a AC) σ H Q:=h
def CD {a b:TE} (h:a σ H λx d=>b σ d λy c=>[x,y].length<=sizeLine/\∀ p,c p=none->Q (.ref p) (upd c p (.tup [x,y]))):Ar (AB a (AB b AC)) σ H Q:=h
def Jk {a:TE} (h:a σ H λx b=>[x].length<=sizeLine/\∀ p,b p=none->Q (.ref p) (upd b p (.lst [x]))):BF (AB a AC) σ H Q:=h
def M_ {v:V} (h:Q v H):tC v σ H Q:=h
def Az {r:R2} {a b:TE} (h:a σ H λx c=>b σ c λy d=>r x y d Q):A_ r a b σ H Q:=h
def IR {g:Int->Int->V} {i j:Int} (h:Q (g i j) H):Z_ g (.int i) (.int j) H Q:=⟨i,j,rfl,rfl,h⟩
def Zo {a:TE} (h:a σ H λx b=>Bj [x] b Q):G' Bj (AB a AC) σ H Q:=h
def Zp {a:Addr} {xs:c_} (b:H a=some (.lst xs)) (h:Q (.int xs.length) H):Bj [.ref a] H Q:=⟨a,xs,rfl,b,h⟩
def Dd {b:c_->Hp->VK->Prop} {a:TE} (h:a σ H λx c=>b [x] c Q):G' b (AB a AC) σ H Q:=h
def PV {a:TA} {g:TG} {b:TS} (h:a σ H (λc d=>∃ i j:Int,c=[.int i,.int j,.int (-1)]/\(-(2 ^ 62)<=i/\i<2 ^ 62/\-(2 ^ 62)<=j/\j<2 ^ 62)/\ForJ (b_ i (i - j).toNat) g b { D with nx:=rest D } σ d)):AG (BR (IH a) g b) rest D σ H:=h
def Zq {a:TE} {g:TG} (h:a σ H λx b=>g x σ b (rest D)):AG (AM a g) rest D σ H:=h
def Zr {c d tc e f:TE} (h:c σ H λx g=>d σ g λy i=>tc σ i λz j=>e σ j λa k=>f σ k λb m=>sp [x,y,z,a,b] m Q E):AK sp [] E (AB c (AB d (AB tc (AB e (AB f AC))))) σ H Q:=h
def EB {i:Nat} {v:V} {σ:L2.St} {H:Hp} {Q:L2.St->Hp->Prop} (h:Q (σ.set i (some v)) H):AE i v σ H Q:=h
def LP {K:W.Frag} {b:TE} {capt:List (Option Nat)} {g:TG} {c:TE} {σ:L2.St} {H:Hp} {Q:VK} (h:b σ H (λx d=>∃ a,x=.ref a/\(∃ e,SqT K d a e)/\CompJ (aw K a) capt g c σ Q d)):BU (Dp K b) capt g c σ H Q:=h
def Fu {K:W.Frag} {b:TE} {capt:List (Option Nat)} {g:TG} {c:TE} {σ:L2.St} {H:Hp} {Q:VK} (h:b σ H (λx d=>∃ a,x=.ref a/\(∃ e,SqL K d a e)/\CompJ (aa K a) capt g c σ Q d)):BU (Bh K b) capt g c σ H Q:=h
def HJ {a:TE} {k:Nat} {D:Ends} {σ:L2.St} {H:Hp} (h:a σ H λx b=>D.nx (σ.set k (some x)) b):AM a (AE k) D σ H:=h
def Ev {c:TT} {t u:TS} (h:c σ H λb a=>if b=true then t { D with nx:=rest D } σ a else u { D with nx:=rest D } σ a):AG (BM c t u) rest D σ H:=h
def Cq {a:TE} {Q:Bool->Hp->Prop} (h:a σ H λx b=>∃ k,x=.bl k/\Q k b):Aq a σ H Q:=h
def Dc {x:V}:[x].length<=sizeLine:=by show 1<=_;exact sz ∅
def BC {x y:V}:[x,y].length<=sizeLine:=by show 2<=_;exact sz ∅
theorem LQ {H:Hp} {a x y:Addr} {A X Y:HO} {P:Hp->Prop} (i:H a=none) (j:upd H a A x=none) (d:upd (upd H a A) x X y=none) (k:∀ b,b a=some A->b y=some Y->Same H b->a≠y->H y=none->P b):P (upd (upd (upd H a A) x X) y Y):=by
 have f:=AL i A;have c:=AL j X;have g:=AL d Y;refine k _ (g _ _ (c _ _ upd_same)) upd_same (λz o h=>g z o (c z o (f z o h))) (BO (c _ _ upd_same) d) ?_;cases e:H y with
 | none=>rfl
 | some o=>have:=c _ _ (f _ _ e);rw [d] at this;cases this
def PX {e H:Hp} {t w:Addr} {X:HO} {j f:c_} {P:Hp->Prop} (g:H t=none) (i:H w=some (.lst j)) (m:e w=none) (s:Same e H) (k:∀ a,Same e a->a w=some (.lst f)->a t=some X->Tp H a->(∀ c o,c≠w->H c=some o->a c=some o)->P a):P (upd (upd H t X) w (.lst f)):=by
 have d:=AL g X;exact k _ (λb o h=>Kp.upd b o (BO h m) (d b o (s b o h))) upd_same (Kp.upd _ _ (BO i g).symm upd_same) (λb o h=>Tp.updL (d _ _ i) b o (d _ _ h)) λc o n h=>Kp.upd c o n (d _ _ h)
end
end Bs
set_option maxHeartbeats 4000000
namespace Bs
open PySem L2
theorem PY {g:dF} {n:Nat} (h:∀ i,n<i->g i=0):∀ (a:List Rat) (k:Nat),a.length+n<=k->cvL a g k=0
 | [],_,_=>rfl
 | x::a,0,hk=>absurd hk (by rw [CP];omega)
 | x::a,k+1,hk=>by
   rw [CP] at hk;rw [Am,h (k+1) ⋯,PY h a k ⋯];ext
theorem LR {g:dF} {n:Nat} (j:g n≠0) (h:∀ i,n<i->g i=0) (S:List Rat):(∀ k,n<=k->cvL S g k=0)->∀ s∈S,s=0:=by
 induction hl:S.length generalizing S with
 | zero=>intro _ s b;rw [CB.mp hl] at b;exact nomatch b
 | succ m o=>
   intro hk;have e:S≠[]:=λz=>by rw [z] at hl;simp at hl
   obtain ⟨T,t,rfl⟩:∃ T t,S=T++[t]:=⟨S.dropLast,S.getLast e,(Gu e).symm⟩
   have f:t=0:=by
    have a:=hk (T.length+n) ⋯;rw [Db,PY h T _ (AR _)] at a;unfold Ax at a;rw [nV ⋯,show T.length+n - T.length=n by omega] at a;have p:t*g n=0:=by ext
    rcases Rat.mul_eq_zero.mp p with z | z
    ·exact z
    ·exact absurd z j
   have c:=o T (by simpa using hl) (λk d=>by
    have a:=hk k d;rw [Db,f] at a;ext)
   intro s b;rcases CO.mp b with h | h
   ·exact c s h
   ·rw [Aw.mp h];exact f
theorem Jl {g:dF}:∀ (S:List Rat),(∀ s∈S,s=0)->∀ k,cvL S g k=0
 | [],_,_=>rfl
 | x::S,h,0=>by rw [At,h x (Au ..)];ext
 | x::S,h,k+1=>by rw [Am,h x (Au ..),Jl S (λs a=>h s (A3 _ a)) k];ext
def LS {G:dF} {n:Nat} (a:G n≠0) (b:∀ i,n<i->G i=0) {A B:List Rat} (h:∀ k,cvL A G k=cvL B G k) (g:dF) (k:Nat):cvL A g k=cvL B g k:=by
 have z:=Jl (g:=g) (A7 A (B.map ((-1:Rat)*·))) (LR a b _ λk _=>by rw [Br,BG,h k];ext) k;rw [Br,BG] at z;ext
structure Sr where
 c:dF
abbrev cZ:=List (Rat×Sr)
abbrev cX:=List (Rat×Rat×Sr)
def Sr.ext' {f g:Sr} (h:∀ k,f.c k=g.c k):f=g:=by
 cases f;cases g;congr;exact funext h
noncomputable def tr (n:Nat) (f:dF):List Rat:=(List.range n).map f
def GX (n:Nat) (f:dF) (k:Nat):(tr n f).getD k 0=if k<n then f k else 0:=by
 unfold tr;rw [AQ,Ac];by_cases h:k<n
 ·rw [DU h,nV h];rfl
 ·rw [nU h,BL (by rw [Bm];omega)];rfl
theorem IS:∀ (a b:List Rat) (g h:dF) (k:Nat),(∀ i,i<=k->a.getD i 0=b.getD i 0)->(∀ i,i<=k->g i=h i)->cvL a g k=cvL b h k:=by
 intro a
 induction a with
 | nil=>
   intro b
   induction b with
   | nil=>intro g h k _ _;rfl
   | cons y b j=>
     intro g h k c e;have m:=c 0 (Ae _);simp at m;cases k with
     | zero=>rw [BA,At,<-m];ext
     | succ k=>
       rw [BA,Am,<-m];have:=j g h k (λi f=>by have:=c (i+1) ⋯;simpa using this) (λi f=>e i ⋯);rw [BA] at this;ext
 | cons x a j=>
   intro b g h k c e;cases b with
   | nil=>
     have d:=c 0 (Ae _);simp at d;cases k with
     | zero=>rw [BA,At,d];ext
     | succ k=>
       rw [BA,Am,d];have:=j [] g h k (λi f=>by have:=c (i+1) ⋯;simpa using this) (λi f=>e i ⋯);rw [BA] at this;ext
   | cons y b=>
     have d:=c 0 (Ae _);simp at d;cases k with
     | zero=>rw [At,At,d,e 0 (AR _)]
     | succ k=>
       rw [Am,Am,d,e _ (AR _),j b g h k (λi f=>by have:=c (i+1) ⋯;simpa using this) (λi f=>e i ⋯)]
namespace Sr
noncomputable def zero:Sr:=⟨λ_=>0⟩
noncomputable def one:Sr:=⟨AY⟩
noncomputable def add (f g:Sr):Sr:=⟨λk=>f.c k+g.c k⟩
noncomputable def neg (f:Sr):Sr:=⟨λk=>- f.c k⟩
noncomputable def mul (f g:Sr):Sr:=⟨λk=>cvL (tr (k+1) f.c) g.c k⟩
noncomputable def num (x:Rat):Sr:=⟨λk=>x*AY k⟩
def Jm (f g:Sr) {n k:Nat} (h:k<n):(mul f g).c k=cvL (tr n f.c) g.c k:=by
 refine IS _ _ _ _ _ (λi a=>?_) (λ_ _=>rfl);rw [GX,GX,nV ⋯,nV ⋯]
def LU (f g:Sr) {n m k:Nat} (h:k<n) (h':k<m):(mul f g).c k=cvL (tr n f.c) (cvL (tr m g.c) AY) k:=by
 rw [Jm f g h];refine IS _ _ _ _ _ (λ_ _=>rfl) (λi a=>?_);rw [DN,GX,nV ⋯]
def mul_comm (f g:Sr):mul f g=mul g f:=ext' λk=>by
 rw [LU f g (Di k) (Di k),LU g f (Di k) (Di k),HF]
def mul_assoc (f g h:Sr):mul (mul f g) h=mul f (mul g h):=ext' λk=>by
 rw [Jm (mul f g) h (Di k),Jm f (mul g h) (Di k)]
 have a:cvL (tr (k+1) (mul f g).c) h.c k=cvL (Bb (tr (k+1) f.c) (tr (k+1) g.c)) h.c k:=by
  refine IS _ _ _ _ _ (λi b=>?_) (λ_ _=>rfl);rw [GX,nV ⋯,<-DN,Bt,LU f g (n:=k+1) (m:=k+1) ⋯ ⋯]
 rw [a,Bt];exact IS _ _ _ _ _ (λ_ _=>rfl) (λi b=>(Jm g h ⋯).symm)
def mul_add (f g h:Sr):mul f (add g h)=add (mul f g) (mul f h):=ext' λk=>by
 show cvL (tr (k+1) f.c) (λk=>g.c k+h.c k) k=_;rw [HE];rfl
def mul_one (f:Sr):mul f one=f:=ext' λk=>by
 show cvL (tr (k+1) f.c) AY k=_;rw [DN,GX,nV (Di k)]
def mul_zero (f:Sr):mul f zero=zero:=ext' λk=>by
 show cvL (tr (k+1) f.c) (λ_=>0) k=0;have:=DB (0:Rat) (λ_=>0) (tr (k+1) f.c) k;rw [show (λk:Nat=>(0:Rat)*(λ_=>(0:Rat)) k)=λ_=>0 from funext λ_=>by grind] at this;rw [this];ext
noncomputable def cg (f:Sr):Nat->Sr
 | 0=>one
 | n+1=>mul (cg f n) f
noncomputable instance:Add Sr:=⟨add⟩
noncomputable instance:Mul Sr:=⟨mul⟩
noncomputable instance:Neg Sr:=⟨neg⟩
noncomputable instance:Sub Sr:=⟨λf g=>add f (neg g)⟩
noncomputable instance:NatCast Sr:=⟨λn=>num (n:Rat)⟩
noncomputable instance:IntCast Sr:=⟨λn=>num (n:Rat)⟩
noncomputable instance (n:Nat):OfNat Sr n:=⟨num (n:Rat)⟩
noncomputable instance:Pow Sr Nat:=⟨cg⟩
noncomputable instance:SMul Nat Sr:=⟨λn f=>mul (num (n:Rat)) f⟩
noncomputable instance:SMul Int Sr:=⟨λn f=>mul (num (n:Rat)) f⟩
def num0:num 0=zero:=ext' λk=>by show 0*AY k=(0:Rat);ext
def num1:num 1=one:=ext' λk=>by show 1*AY k=(AY k:Rat);ext
def PZ (x y:Rat):num (x+y)=add (num x) (num y):=ext' λk=>by show (x+y)*AY k=x*AY k+y*AY k;ext
def LV (x:Rat):num (-x)=neg (num x):=ext' λk=>by show (-x)*AY k = -(x*AY k);ext
def add_comm (f g:Sr):add f g=add g f:=ext' λk=>by show f.c k+g.c k=g.c k+f.c k;ext
def add_assoc (f g h:Sr):add (add f g) h=add f (add g h):=ext' λk=>by show f.c k+g.c k+h.c k=f.c k+(g.c k+h.c k);ext
def add_zero (f:Sr):add f zero=f:=ext' λk=>by show f.c k+0=f.c k;ext
def LW (f:Sr):add (neg f) f=zero:=ext' λk=>by show -f.c k+f.c k=0;ext
def add_mul (f g h:Sr):mul (add f g) h=add (mul f h) (mul g h):=by rw [mul_comm,mul_add,mul_comm h f,mul_comm h g]
def neg_mul (f g:Sr):mul (neg f) g=neg (mul f g):=by
 have h:add (mul (neg f) g) (mul f g)=zero:=by rw [<-add_mul,LW,mul_comm,mul_zero]
 have c:add (neg (mul f g)) (mul f g)=zero:=LW _;refine ext' λk=>?_;have a:=mH (congrArg Sr.c h) k;have b:=mH (congrArg Sr.c c) k;have a:(mul (neg f) g).c k+(mul f g).c k=0:=a;have b:(neg (mul f g)).c k+(mul f g).c k=0:=b;ext
noncomputable instance:Lean.Grind.CommRing Sr where
 add_zero f:=(congrArg (add f) num0).trans (add_zero f)
 add_comm:=add_comm
 add_assoc:=add_assoc
 mul_assoc:=mul_assoc
 mul_comm:=mul_comm
 mul_one f:=(congrArg (mul f) num1).trans (mul_one f)
 one_mul f:=(congrArg (λz=>mul z f) num1).trans ((mul_comm _ _).trans (mul_one f))
 left_distrib:=mul_add
 right_distrib:=add_mul
 zero_mul f:=by show mul (num 0) f=num 0;rw [num0,mul_comm,mul_zero]
 mul_zero f:=by show mul f (num 0)=num 0;rw [num0,mul_zero]
 pow_zero f:=num1.symm
 pow_succ f n:=rfl
 ofNat_succ n:=by
  show num ((n+1:Nat):Rat)=add (num (n:Rat)) (num 1)
  rw [<-PZ];push_cast;rfl
 ofNat_eq_natCast n:=rfl
 nsmul_eq_natCast_mul n f:=rfl
 sub_eq_add_neg f g:=rfl
 neg_add_cancel f:=(LW f).trans num0.symm
 intCast_neg n:=by show num ((-n:Int):Rat)=neg (num (n:Rat));rw [<-LV];push_cast;rfl
 intCast_ofNat n:=rfl
 neg_zsmul n f:=by show mul (num ((-n:Int):Rat)) f=neg (mul (num (n:Rat)) f);rw [show ((-n:Int):Rat) = -(n:Rat) by push_cast;rfl,LV,neg_mul]
 zsmul_natCast_eq_nsmul n f:=rfl
noncomputable def L (a:List Rat):Sr:=⟨cvL a AY⟩
def L_mul (a:List Rat) (g:Sr):L a*g=⟨cvL a g.c⟩:=ext' λk=>by
 refine IS _ _ _ _ _ (λi b=>?_) (λ_ _=>rfl);rw [GX,nV ⋯];exact DN a i
def Bn (f:Sr) (n:Nat):Prop:=∀ k,n<=k->f.c k=0
def Bn.row {f:Sr} {n:Nat} (h:Bn f n):L (tr n f.c)=f:=ext' λk=>by
 show cvL (tr n f.c) AY k=f.c k;rw [DN,GX];by_cases hk:k<n
 ·rw [nV hk]
 ·rw [nU hk,h k ⋯]
def Pol (f:Sr):Prop:=∃ a,f=L a
def Pol.L (a:List Rat):Pol (L a):=⟨a,rfl⟩
def Bn.pol {f:Sr} {n:Nat} (h:Bn f n):Pol f:=⟨_,h.row.symm⟩
def Pc (a:List Rat):Bn (Sr.L a) a.length:=λk hk=>by
 show cvL a AY k=0;rw [DN,AQ,BL hk];rfl
def Pol.bn {f:Sr} (h:Pol f):∃ n,Bn f n:=let ⟨a,e⟩:=h;⟨a.length,e ▸ Pc a⟩
def Pol.add {f g:Sr} (h:Pol f) (h':Pol g):Pol (f+g):=by
 obtain ⟨a,rfl⟩:=h;obtain ⟨b,rfl⟩:=h';exact ⟨A7 a b,ext' λk=>(Br AY a b k).symm⟩
def Pol.mul {f g:Sr} (h:Pol f) (h':Pol g):Pol (f*g):=by
 obtain ⟨a,rfl⟩:=h;obtain ⟨b,rfl⟩:=h';exact ⟨Bb a b,by rw [L_mul];exact ext' λk=>(Bt AY a b k).symm⟩
theorem Pol.num (x:Rat):Pol (num x):=⟨[x],ext' λk=>by
 show x*AY k=cvL [x] AY k;cases k with
 | zero=>rw [At];ext
 | succ k=>rw [Am,BA];ext⟩
def Pol.nat (n:Nat):Pol (OfNat.ofNat n:Sr):=Pol.num (n:Rat)
def Pol.neg {f:Sr} (h:Pol f):Pol (-f):=by
 have e:-f=Sr.num (-1)*f:=by
  have:Sr.num (-1)=(-1:Sr):=LV 1;rw [this];ext
 rw [e];exact (Pol.num _).mul h
def Pol.sub {f g:Sr} (h:Pol f) (h':Pol g):Pol (f - g):=by
 have e:f - g=f + -g:=by ext
 rw [e];exact h.add h'.neg
theorem Pol.pow {f:Sr} (h:Pol f):∀ n:Nat,Pol (f ^ n)
 | 0=>(num1 ▸ Pol.num 1:Pol one)
 | n+1=>(h.pow n).mul h
theorem top_ex {f:Sr}:∀ n,Bn f n->f=0\/∃ m,m<n/\f.c m≠0/\Bn f (m+1)
 | 0,h=>.inl (ext' λk=>by rw [h k (Ae _)];show 0=((0:Nat):Rat)*AY k;push_cast;ext)
 | n+1,h=>by
   by_cases z:f.c n=0
   ·rcases top_ex n (λk hk=>by rcases Nat.eq_or_lt_of_le hk with e | e;exact e ▸ z;exact h k e) with q | ⟨m,c,a,b⟩
    ·exact .inl q
    ·exact .inr ⟨m,⋯,a,b⟩
   ·exact .inr ⟨n,⋯,z,h⟩
def zero_c (k:Nat):(0:Sr).c k=0:=by show ((0:Nat):Rat)*AY k=0;push_cast;ext
def cancel {f g h:Sr} (c:Pol f) (d:Pol g) (j:Pol h) (o:h≠0) (e:f*h=g*h):f=g:=by
 obtain ⟨a,rfl⟩:=c;obtain ⟨b,rfl⟩:=d;obtain ⟨n,p⟩:=j.bn;rcases top_ex n p with z | ⟨m,_,q,r⟩
 ·exact absurd z o
 rw [L_mul,L_mul] at e;exact ext' λk=>LS q (λi u=>r i u) (λk=>mH (congrArg Sr.c e) k) AY k
def ne_mul {f g:Sr} (a:Pol f) (b:Pol g) (c:f≠0) (d:g≠0):f*g≠0:=λe=>c (cancel a (Pol.nat 0) b d (by rw [e];ext))
noncomputable def X (n:Nat):Sr:=L (List.replicate n 0++[1])
def Jn (n:Nat) (g:Sr) (k:Nat):(X n*g).c k=if n<=k then g.c (k - n) else 0:=by
 unfold X;rw [L_mul];show cvL (List.replicate n 0++[1]) g.c k=_;rw [HH];unfold Ax;by_cases h:n<=k
 ·rw [nV h,nV h];cases k - n with
  | zero=>rw [At];ext
  | succ k=>rw [Am,BA];ext
 ·rw [nU h,nU h]
theorem num_mul (x:Rat) (g:Sr) (k:Nat):(num x*g).c k=x*g.c k:=by
 have:num x=L [x]:=ext' λk=>by
  show x*AY k=cvL [x] AY k;cases k with
  | zero=>rw [At];ext
  | succ k=>rw [Am,BA];ext
 rw [this,L_mul];show cvL [x] g.c k=_;cases k with
 | zero=>rw [At];ext
 | succ k=>rw [Am,BA];ext
def Zs (f g:Sr) (k:Nat):(f - g).c k=f.c k - g.c k:=by show f.c k + - g.c k=_;ext
theorem aI {g:Sr} {m:Nat} (a:g.c m≠0) (b:Bn g (m+1)):∀ (n:Nat) (f:Sr),Bn f n->∃ q r,Pol q/\Bn r m/\f=q*g+r
 | 0,f,h=>⟨0,f,Pol.nat 0,λk _=>h k (Ae _),()⟩
 | n+1,f,h=>by
   by_cases c:n+1<=m
   ·exact ⟨0,f,Pol.nat 0,λk hk=>h k ⋯,()⟩
   ·obtain ⟨q,r,d,i,e⟩:=aI a b n (f - num (f.c n*(g.c m)⁻¹)*(X (n - m)*g)) λk hk=>by
     rw [Zs,num_mul,Jn,nV ⋯];rcases Nat.eq_or_lt_of_le hk with z | z
     ·rw [<-z,show n - (n - m)=m by omega];have:(g.c m)⁻¹*g.c m=1:=E8 _ a;ext
     ·rw [h k z,b (k - (n - m)) ⋯];ext
    exact ⟨q+num (f.c n*(g.c m)⁻¹)*X (n - m),r,d.add ((Pol.num _).mul (Pol.L _)),i,()⟩
theorem gcd_ex:∀ (n:Nat) (S T:Sr),Pol S->Bn T n->(S≠0\/T≠0)->∃ g r e U W,Pol g/\Pol r/\Pol e/\Pol U/\Pol W/\g≠0/\S=g*r/\T=g*e/\U*r+W*e=1:=by
 intro n
 induction n using Nat.strongRecOn with
 | _ n o=>
   intro S T b c h;by_cases z:T=0
   ·exact ⟨S,1,0,1,0,b,Pol.nat 1,Pol.nat 0,Pol.nat 1,Pol.nat 0,by rcases h with h | h;exact h;exact absurd z h,(),by rw [z];ext,()⟩
   ·rcases top_ex n c with q | ⟨m,p,u,v⟩
    ·exact absurd q z
    obtain ⟨a,rfl⟩:=b;obtain ⟨q,r,d,w,e⟩:=aI u v _ _ (Pc a);obtain ⟨g,f,x,U,W,y,i,A,B,j,C,k,D,E⟩:=o m p T r c.pol w (.inl z);exact ⟨g,q*f+x,f,W,U - W*q,y,(d.mul i).add A,i,j,B.sub (j.mul d),C,by rw [e,k,D];ext,k,()⟩
noncomputable def D (f:Sr):Sr:=⟨λk=>((k:Rat)+1)*f.c (k+1)⟩
def Pd (f g:Sr):D (f+g)=D f+D g:=ext' λk=>by show ((k:Rat)+1)*(f.c (k+1)+g.c (k+1))=((k:Rat)+1)*f.c (k+1)+((k:Rat)+1)*g.c (k+1);ext
def D_num (x:Rat) (g:Sr):D (num x*g)=num x*D g:=ext' λk=>by
 rw [num_mul];show ((k:Rat)+1)*(num x*g).c (k+1)=x*(((k:Rat)+1)*g.c (k+1));rw [num_mul];ext
theorem D_X (g:Sr):D (X 1*g)=g+X 1*D g:=ext' λk=>by
 show ((k:Rat)+1)*(X 1*g).c (k+1)=g.c k+(X 1*D g).c k;rw [Jn,Jn,nV ⋯];cases k with
 | zero=>rw [nU ⋯];push_cast;show ((0:Nat)+1)*g.c 0=_;push_cast;ext
 | succ k=>rw [nV ⋯];show (((k+1:Nat):Rat)+1)*g.c (k+1)=g.c (k+1)+((k:Rat)+1)*g.c (k+1);push_cast;ext
theorem Pf (x:Rat) (a:List Rat):L (x::a)=num x+X 1*L a:=ext' λk=>by
 show cvL (x::a) AY k=x*AY k+(X 1*L a).c k;rw [Jn,Fm];cases k with
 | zero=>rw [nU ⋯];rfl
 | succ k=>rw [nV ⋯];rfl
def Zt:D (L [])=0:=ext' λk=>by show ((k:Rat)+1)*cvL [] AY (k+1)=_;rw [BA,zero_c];ext
def L_nil:L []=0:=ext' λk=>by rw [zero_c];rfl
def D_const (x:Rat):D (num x)=0:=ext' λk=>by show ((k:Rat)+1)*(x*AY (k+1))=_;rw [zero_c];show ((k:Rat)+1)*(x*0)=0;ext
theorem Ph (g:Sr):∀ a:List Rat,D (L a*g)=D (L a)*g+L a*D g
 | []=>by
   have z:(0:Sr)=num 0:=rfl;rw [Zt,L_nil,z,D_num,<-z];ext
 | x::a=>by
   have b:=Ph g a;have e:L (x::a)*g=num x*g+X 1*(L a*g):=by rw [Pf];ext
   rw [e,Pd,D_num,D_X,b,Pf,Pd,D_X,D_const];ext
def D_mul {f:Sr} (b:Pol f) (g:Sr):D (f*g)=D f*g+f*D g:=by
 obtain ⟨a,rfl⟩:=b;exact Ph g a
def LX {f:Sr} {n:Nat} (h:Bn f (n+1)):Bn (D f) n:=λk hk=>by show ((k:Rat)+1)*f.c (k+1)=0;rw [h (k+1) ⋯];ext
def Zu {f:Sr} {n:Nat} (h:f.c (n+1)≠0):D f≠0:=λe=>by
 have:=mH (congrArg Sr.c e) n;rw [zero_c] at this;have this:((n:Rat)+1)*f.c (n+1)=0:=this;rcases Rat.mul_eq_zero.mp this with z | z
 ·have:((n:Rat)+1)=((n+1:Nat):Rat):=by push_cast;rfl
  rw [this] at z;have:n+1=0:=by exact_mod_cast z
  omega
 ·exact h z
def Pol.D {f:Sr} (h:Pol f):Pol (D f):=by
 obtain ⟨n,a⟩:=h.bn;exact Bn.pol (n:=n) (LX (n:=n) λk hk=>a k ⋯)
theorem rad_pow:∀ (n:Nat) (S R c:Sr),Bn S n->S≠0->Pol R->Pol c->D S*R=c*S->∃ (m:Nat) (a:Sr),Pol a/\R ^ m=a*S:=by
 intro n
 induction n using Nat.strongRecOn with
 | _ n F=>
   intro S R c G x h y e;rcases top_ex n G with z | ⟨m,Z,A,f⟩
   ·exact absurd z x
   cases m with
   | zero=>
     refine ⟨0,num (S.c 0)⁻¹,Pol.num _,ext' λk=>?_⟩;rw [num_mul];have d:(R ^ 0).c k=AY k:=rfl;rw [d];cases k with
     | zero=>show 1=_;have:(S.c 0)⁻¹*S.c 0=1:=E8 _ A;ext
     | succ k=>show 0=_;rw [f (k+1) ⋯];ext
   | succ m=>
     obtain ⟨g,r,d,U,W,j,B,o,H,I,p,u,v,J⟩:=gcd_ex _ S (D S) f.pol (LX f) (.inl x);have sR:d*R=c*r:=cancel (o.mul h) (y.mul B) j p (by rw [v,u] at e;ext)
     have w:R=(U*R+W*c)*r:=by
      have:R=(U*r+W*d)*R:=by rw [J];ext
      ext
     have pt:Pol (U*R+W*c):=(H.mul h).add (I.mul y)
     have K:D g*r=g*(d - D r):=by
      have:=D_mul j r;rw [<-u,v] at this;ext
     have O:D g*R=(d - D r)*(U*R+W*c)*g:=by
      have:D g*R=D g*r*(U*R+W*c):=by generalize U*R+W*c=t at w;rw [w];ext
      rw [this,K];ext
     obtain ⟨N,P⟩:=j.bn;obtain ⟨t,_,Q,C⟩:=(top_ex N P).resolve_left p
     have tm:t<=m:=by
      rcases A5 m t with q | q
      ·exfalso;obtain ⟨E,rfl⟩:=o;have b:D S=L E*g:=by rw [v];ext
       rw [L_mul] at b;refine Zu A (ext' λk=>?_);rw [b,zero_c]
       exact Jl E (LR Q (λi T=>C i T) E λk hk=>by
        exact (mH (congrArg Sr.c b) k).symm.trans (LX f k ⋯)) k
      ·exact q
     obtain ⟨M,a,X,Y⟩:=F (t+1) ⋯ g R _ C p h ((o.sub B.D).mul pt) O;refine ⟨M+1,a*(U*R+W*c),X.mul pt,?_⟩;have:R ^ (M+1)=R ^ M*R:=rfl;rw [this,Y,u];have:a*(U*R+W*c)*(g*r)=a*g*((U*R+W*c)*r):=by ext
     rw [this,<-w]
def Cs (f g:Sr):Prop:=∃ U W,Pol U/\Pol W/\U*f+W*g=1
def Cs.comm {f g:Sr} (h:Cs f g):Cs g f:=let ⟨U,W,a,b,e⟩:=h;⟨W,U,b,a,()⟩
def Cs.mul {f g h:Sr} (p:Pol f) (j:Pol g) (k:Cs f g) (m:Cs f h):Cs f (g*h):=by
 obtain ⟨U,W,n,i,e⟩:=k;obtain ⟨a,b,c,d,o⟩:=m;refine ⟨U+W*a*g,W*b,n.add ((i.mul c).mul j),i.mul d,?_⟩;have:(U+W*a*g)*f+W*b*(g*h)=U*f+W*g*(a*f+b*h):=by ext
 rw [this,o,<-e];ext
def Cs.dvd {f w g a:Sr} (h:Cs f w) (b:Pol a) (e:w=a*g):Cs f g:=by
 obtain ⟨U,W,c,d,q⟩:=h;exact ⟨U,W*a,c,d.mul b,by rw [e] at q;ext⟩
def Cs.one {f:Sr}:Cs f 1:=⟨0,1,Pol.nat 0,Pol.nat 1,()⟩
theorem Cs.pow {f g:Sr} (a:Pol f) (b:Pol g) (h:Cs f g):∀ n:Nat,Cs f (g ^ n)
 | 0=>⟨0,1,Pol.nat 0,Pol.nat 1,()⟩
 | n+1=>Cs.mul a (b.pow n) (Cs.pow a b h n) h
def Cs.add {f g z c:Sr} (h:Cs f g) (b:Pol c) (e:z=f+c*g):Cs z g:=by
 obtain ⟨U,W,a,d,q⟩:=h;exact ⟨U,W - U*c,a,d.sub (a.mul b),by rw [e];ext⟩
def pow_s (f:Sr) (n:Nat):f ^ (n+1)=f ^ n*f:=rfl
def pow_z (f:Sr):f ^ 0=1:=num1.symm
def one_ne:(1:Sr)≠0:=λh=>by
 have:=mH (congrArg Sr.c h) 0;rw [zero_c] at this;have this:((1:Nat):Rat)*AY 0=0:=this;have e:(AY 0:Rat)=1:=rfl;rw [e] at this;push_cast at this;ext
theorem pow_ne {f:Sr} (a:Pol f) (b:f≠0):∀ n:Nat,f ^ n≠0
 | 0=>by rw [pow_z];exact one_ne
 | n+1=>by rw [pow_s];exact ne_mul (a.pow n) a (pow_ne a b n) b
theorem Pj {d:Sr} (a:Pol d):∀ n:Nat,d*D (d ^ n)=num (n:Rat)*d ^ n*D d
 | 0=>by
   rw [pow_z,show D 1=0 from D_const _];show d*0=num ((0:Nat):Rat)*1*D d;rw [show num ((0:Nat):Rat)=0 from rfl];ext
 | n+1=>by
   rw [pow_s,D_mul (a.pow n),show num ((n+1:Nat):Rat)=num (n:Rat)+1 by rw [show ((n+1:Nat):Rat)=(n:Rat)+((1:Nat):Rat) by push_cast;rfl,PZ];rfl];have h:=Pj a n;ext
theorem Pk {b:dF} {d:Nat} (h:∀ k,d<k->b k=0):∀ (a:List Rat) (k:Nat),d+a.length<=k->cvL a b k=0
 | [],_,_=>rfl
 | x::a,0,hk=>by simp at hk
 | x::a,k+1,hk=>by
   rw [Am,Pk h a k (by simp at hk;omega),h (k+1) (by simp at hk;omega)];ext
def top_mul {f g:Sr} {m n:Nat} (b:Bn f (m+1)) (h:Bn g (n+1)):(f*g).c (m+n)=f.c m*g.c n/\Bn (f*g) (m+n+1):=by
 have c:∀ (a:List Rat) (k:Nat),n+a.length<=k->cvL a g.c k=0:=Pk λk hk=>h k hk;rw [<-b.row,L_mul];refine ⟨?_,λk hk=>c _ k (by unfold tr;rw [AJ,Bm];omega)⟩;show cvL (tr (m+1) f.c) g.c (m+n)=_;have e:tr (m+1) f.c=tr m f.c++[f.c m]:=by unfold tr;rw [E7,By];rfl
 have d:(tr m f.c).length=m:=by unfold tr;rw [AJ,Bm]
 rw [e,Db,c (tr m f.c) _ (by rw [d];omega),d];unfold Ax;rw [nV ⋯,show m+n - m=n by omega]
 have z:(L (tr m f.c++[f.c m])).c m=f.c m:=by
  rw [<-e];exact mH (congrArg Sr.c b.row) m
 rw [z];ext
def Zv {d g:Sr} (u:Pol d) (v:Pol g) (i:g≠0) (h:∀ k:Nat,∃ q,Pol q/\g=d ^ k*q):∃ x:Rat,x≠0/\d=num x:=by
 obtain ⟨n,w⟩:=u.bn;obtain ⟨N,y⟩:=v.bn;rcases top_ex n w with z | ⟨m,_,o,p⟩
 ·obtain ⟨q,_,e⟩:=h 1;exact absurd (by rw [e,pow_s,pow_z,z];ext) i
 rcases DR m with z | mp
 ·subst z;refine ⟨d.c 0,o,ext' λk=>?_⟩;show d.c k=d.c 0*AY k;cases k with
  | zero=>show _=d.c 0*1;ext
  | succ k=>rw [p (k+1) ⋯];show (0:Rat)=d.c 0*0;ext
 exfalso
 have f:∀ (k:Nat) (q:Sr),Pol q->q≠0->∃ j,k*m<=j/\(d ^ k*q).c j≠0/\Bn (d ^ k*q) (j+1):=λk=>by
  induction k with
  | zero=>
    intro q a b;obtain ⟨r,A⟩:=a.bn;rcases top_ex r A with z | ⟨j,_,B,C⟩
    ·exact absurd z b
    ·refine ⟨j,⋯,?_⟩;rw [pow_z,show (1:Sr)*q=q by grind];exact ⟨B,C⟩
  | succ k D=>
    intro q a b;obtain ⟨j,E,c,F⟩:=D q a b;obtain ⟨G,H⟩:=top_mul p F;rw [show d ^ (k+1)*q=d*(d ^ k*q) by rw [pow_s];grind];refine ⟨m+j,by rw [Nat.succ_mul];omega,?_,H⟩;rw [G];intro z;rcases Rat.mul_eq_zero.mp z with z | z
    ·exact o z
    ·exact c z
 obtain ⟨q,a,e⟩:=h (N+1);have b:q≠0:=λz=>i (by rw [e,z];ext);obtain ⟨j,E,c,_⟩:=f (N+1) q a b;rw [<-e] at c;refine c (y j ?_);have:(N+1)*1<=(N+1)*m:=Dj _ mp;omega
def Cs.of_unit {f g d U W:Sr} {x:Rat} (a:x≠0) (e:d=num x) (b:Pol U) (c:Pol W) (h:U*f+W*g=d):Cs f g:=by
 refine ⟨num (x⁻¹)*U,num (x⁻¹)*W,(Pol.num _).mul b,(Pol.num _).mul c,?_⟩
 have i:num (x⁻¹)*num x=1:=ext' λk=>by
  rw [num_mul];show x⁻¹*(x*AY k)=_;have:x⁻¹*x=1:=E8 _ a;show _=((1:Nat):Rat)*AY k;push_cast;ext
 rw [e] at h;ext
def simple_cop {f g l m:Sr} (o:Pol g) (p:Pol l) (pm:Pol m) (E:f≠0) (u:f=g*l) (H:D f=g*m) (c:Cs l m):Cs l (D l):=by
 have I:g≠0:=λz=>E (by rw [u,z];ext);have J:l≠0:=λz=>E (by rw [u,z];ext);obtain ⟨n,K⟩:=p.D.bn;obtain ⟨d,r,e,U,W,a,i,F,L,M,N,j,v,Y⟩:=gcd_ex n l (D l) p K (.inl J);obtain ⟨w,y,A,B,G⟩:=c
 have O:D g*l=g*(m - D l):=by
  have:=D_mul o l;rw [<-u,H] at this;ext
 have P:D d*r=d*(e - D r):=by
  have:=D_mul a r;rw [<-j,v] at this;ext
 have dv:∀ k:Nat,∃ q,Pol q/\g=d ^ k*q:=λk=>by
  induction k with
  | zero=>exact ⟨g,o,by rw [pow_z];ext⟩
  | succ k Q=>
    obtain ⟨h,b,C⟩:=Q
    have R:d*D g=d ^ k*(num (k:Rat)*D d*h+d*D h):=by
     rw [C,D_mul (a.pow k)];have:=Pj a k;ext
    have Z:d ^ k*((num (k:Rat)*D d*h+d*D h)*r)=d ^ k*(h*(m - D l)):=by
     have:d*D g*r=g*(m - D l):=by
      rw [<-O,show D g*l=D g*(d*r) from congrArg _ j];ext
     rw [R] at this;rw [C] at this;ext
    have S:(num (k:Rat)*D d*h+d*D h)*r=h*(m - D l):=
     cancel ((((Pol.num _).mul a.D).mul b |>.add (a.mul b.D)).mul i) (b.mul (pm.sub p.D)) (a.pow k) (pow_ne a N k) ()
    have a4:h*m=d*(num (k:Rat)*h*(e - D r)+D h*r+h*e):=by
     rw [v] at S;have:num (k:Rat)*D d*h*r=num (k:Rat)*h*(d*(e - D r)):=by rw [<-P];ext
     ext
    refine ⟨h*w*r+y*(num (k:Rat)*h*(e - D r)+D h*r+h*e),((b.mul A).mul i).add (B.mul ((((Pol.num _).mul b).mul (F.sub i.D) |>.add (b.D.mul i)).add (b.mul F))),?_⟩
    have a5:h=d*(h*w*r+y*(num (k:Rat)*h*(e - D r)+D h*r+h*e)):=by
     rw [j] at G;have:h=h*(w*(d*r)+y*m):=by rw [G];ext
     ext
    rw [pow_s,C];ext
 obtain ⟨x,T,X⟩:=Zv a o I dv;exact Cs.of_unit T X L M (by rw [v,show U*l=U*(d*r) from congrArg _ j];ext)
def Cs.parts {l p q r:Sr} (j:Pol l) (d:Pol p) (a:Pol q) (b:Pol r) (c:Cs l (D l)) (e:l=p*q*r):Cs p q:=by
 obtain ⟨U,W,g,f,h⟩:=c
 have i:D l=D p*(q*r)+p*(D q*r+q*D r):=by
  rw [e,show p*q*r=p*(q*r) by ext,D_mul d,D_mul a]
 refine ⟨U*(q*r)+W*(D q*r+q*D r),W*(D p*r),(g.mul (a.mul b)).add (f.mul ((a.D.mul b).add (a.mul b.D))),f.mul (d.D.mul b),?_⟩;rw [i,e] at h;ext
def Cs.part {l p q:Sr} (d:Pol p) (a:Pol q) (c:Cs l (D l)) (e:l=p*q):Cs p (D p):=by
 obtain ⟨U,W,f,b,h⟩:=c;have g:D l=D p*q+p*D q:=by rw [e,D_mul d]
 refine ⟨U*q+W*D q,W*q,(f.mul a).add (b.mul a.D),b.mul a,?_⟩;rw [g,e] at h;ext
end Sr
end Bs
namespace Bs.Sr
def Ms (n:Nat) (f:Sr):Prop:=f.c n=1/\Bn f (n+1)
def Ms.mul {m n:Nat} {f g:Sr} (a:Ms m f) (b:Ms n g):Ms (m+n) (f*g):=by
 have t:=top_mul a.2 b.2;exact ⟨by rw [t.1,a.1,b.1];ext,t.2⟩
def Ms.uniq {m n:Nat} {f g:Sr} {x:Rat} (a:Ms m f) (b:Ms n g) (o:x≠0) (e:f=num x*g):f=g:=by
 have c:∀ k,f.c k=x*g.c k:=λk=>by rw [e,num_mul]
 have d:m=n:=by
  rcases Nat.lt_trichotomy m n with h | h | h
  ·have:=c n;rw [a.2 n h,b.1] at this;ext
  ·exact h
  ·have:=c m;rw [b.2 m h,a.1] at this;ext
 subst d
 have i:x=1:=by
  have:=c m;rw [a.1,b.1] at this;ext
 have j:num 1=(1:Sr):=rfl;rw [e,i,j];ext
noncomputable def Pi (φ:Rat->Rat->Bool):cX->Sr
 | []=>1
 | q::R=>(if φ q.1 q.2.1=true then q.2.2 else 1)*Pi φ R
structure Pr (R:cX):Prop where
 ms:∀ q∈R,∃ n,Ms (n+1) q.2.2
 cs:R.Pairwise λp q=>Cs p.2.2 q.2.2
def Ms.pol {n:Nat} {f:Sr} (h:Ms n f):Pol f:=h.2.pol
def Pr.tail {q:Rat×Rat×Sr} {R:cX} (h:Pr (q::R)):Pr R:=⟨λp hp=>h.ms p (A3 _ hp),(Eb.mp h.cs).2⟩
def one_at (k:Nat):(1:Sr).c k=AY k:=by
 show ((1:Nat):Rat)*AY k=AY k;ext
theorem Ms.one:Ms 0 1:=⟨one_at 0,λk hk=>by
 rw [one_at];cases k with
 | zero=>omega
 | succ k=>rfl⟩
theorem Pi.ms (φ:Rat->Rat->Bool):∀ {R:cX},Pr R->∃ n,Ms n (Pi φ R)/\(n=0->∀ q∈R,φ q.1 q.2.1=false)
 | [],_=>⟨0,Ms.one,λ_ _ h=>nomatch h⟩
 | q::R,h=>by
   obtain ⟨n,m,z⟩:=Pi.ms φ h.tail;obtain ⟨k,mk⟩:=h.ms q (Au ..);by_cases c:φ q.1 q.2.1=true
   ·refine ⟨k+1+n,?_,λe=>by omega⟩;unfold Pi;rw [nV c];exact mk.mul m
   ·refine ⟨n,?_,λe p hp=>?_⟩
    ·unfold Pi;rw [nU c];have:=Ms.one.mul m;rwa [Nat.zero_add] at this
    ·rcases Bc.mp hp with y | y
     ·rw [y];simpa using c
     ·exact z e p y
def Pi.pol (φ:Rat->Rat->Bool) {R:cX} (h:Pr R):Pol (Pi φ R):=let ⟨_,m,_⟩:=Pi.ms φ h;m.pol
theorem Pi.congr {φ ψ:Rat->Rat->Bool}:∀ {R:cX},(∀ q∈R,φ q.1 q.2.1=ψ q.1 q.2.1)->Pi φ R=Pi ψ R
 | [],_=>rfl
 | q::R,h=>by
   unfold Pi;rw [h q (Au ..),Pi.congr λp hp=>h p (A3 _ hp)]
theorem Pi.split (φ ψ:Rat->Rat->Bool):∀ (R:cX),Pi φ R=Pi (λa b=>φ a b && ψ a b) R*Pi (λa b=>φ a b && !ψ a b) R
 | []=>by unfold Pi;ext
 | q::R=>by
   unfold Pi;rw [Pi.split φ ψ R];cases φ q.1 q.2.1 <;> cases ψ q.1 q.2.1 <;> simp <;> ext
theorem Pi.cs1 {φ:Rat->Rat->Bool} {f:Sr} (a:Pol f):∀ {R:cX},Pr R->(∀ q∈R,Cs f q.2.2)->Cs f (Pi φ R)
 | [],_,_=>Cs.one
 | q::R,h,c=>by
   unfold Pi;have b:=Pi.cs1 (φ:=φ) a h.tail λp hp=>c p (A3 _ hp);obtain ⟨k,mk⟩:=h.ms q (Au ..);split
   ·exact Cs.mul a mk.pol (c q (Au ..)) b
   ·exact Cs.mul a Ms.one.pol Cs.one b
theorem Pi.cs {φ ψ:Rat->Rat->Bool}:∀ {R:cX},Pr R->(∀ q∈R,φ q.1 q.2.1=true->ψ q.1 q.2.1=false)->Cs (Pi φ R) (Pi ψ R)
 | [],_,_=>Cs.one
 | q::R,h,d=>by
   have a:=Pi.cs h.tail λp hp=>d p (A3 _ hp);obtain ⟨k,mk⟩:=h.ms q (Au ..);have e:=(Eb.mp h.cs).1;have g:=d q (Au ..);unfold Pi;have b:∀ f:Sr,(1:Sr)*f=f:=λf=>by ext
   by_cases c:φ q.1 q.2.1=true
   ·rw [nV c,nU (by rw [g c];decide),b];exact (Cs.mul (Pi.pol ψ h.tail) mk.pol (Pi.cs1 mk.pol h.tail e).comm a.comm).comm
   ·rw [nU c,b];split
    ·exact Cs.mul (Pi.pol φ h.tail) mk.pol (Pi.cs1 mk.pol h.tail e).comm a
    ·rw [b];exact a
def Zw {S T g r e c a b:Sr} (C:Pol g) (n:Pol r) (o:Pol e) (D:Pol c) (p:Pol a) (q:Pol b) (w:Cs r e) (z:Cs a b) (s1:S=g*r) (h:T=g*e) (i:S=c*a) (j:T=c*b):∃ u v,Pol u/\Pol v/\c=u*g/\g=v*c:=by
 obtain ⟨U,W,A,B,x⟩:=w;obtain ⟨k,m,d,f,y⟩:=z;refine ⟨k*r+m*e,U*a+W*b,(d.mul n).add (f.mul o),(A.mul p).add (B.mul q),?_,?_⟩
 ·have:c=k*(c*a)+m*(c*b):=by ext
  rw [this,<-i,<-j,s1,h];ext
 ·have:g=U*(g*r)+W*(g*e):=by ext
  rw [this,<-s1,<-h,i,j];ext
def Ms.ne {n:Nat} {f:Sr} (h:Ms n f):f≠0:=λz=>by
 have:=h.1;rw [z] at this;have a:(0:Sr).c n=0:=by show ((0:Nat):Rat)*AY n=0;ext
 rw [a] at this;exact absurd this ∅
def Ms.deg {n m:Nat} {c g u:Sr} (a:Ms n c) (b:Ms m g) (f:Pol u) (e:c=u*g):∃ j,n=j+m/\Bn u (j+1):=by
 obtain ⟨k,i⟩:=f.bn;rcases top_ex k i with z | ⟨j,_,o,d⟩
 ·exact absurd (by rw [e,z];ext) a.ne
 ·refine ⟨j,?_,d⟩;have t:=top_mul d b.2;rw [<-e,b.1] at t;rcases Nat.lt_trichotomy n (j+m) with h | h | h
  ·exact absurd (show u.c j=0 by have:=a.2 (j+m) h;rw [t.1] at this;ext) o
  ·exact h
  ·exact absurd (a.1.symm.trans (t.2 n h)) ∅
def Ms.unit {n m:Nat} {c g u v:Sr} (e:Ms n c) (d:Ms m g) (o:Pol u) (pv:Pol v) (p:c=u*g) (f:g=v*c):g=c:=by
 obtain ⟨j,a,w⟩:=e.deg d o p;obtain ⟨i,b,q⟩:=d.deg e pv f;have y:j=0:=by omega
 have r:i=0:=by omega
 subst r
 have h:v=num (v.c 0):=ext' λk=>by
  show v.c k=v.c 0*AY k;cases k with
  | zero=>rw [show (AY 0:Rat)=1 from rfl];ext
  | succ k=>rw [q (k+1) ⋯,show (AY (k+1):Rat)=0 from rfl];ext
 refine d.uniq e (x:=v.c 0) (λz=>d.ne ?_) (by rw [<-h];exact f);rw [f,h,z];have:num 0=(0:Sr):=rfl;rw [this];ext
def Pi.common {φ ψ:Rat->Rat->Bool} {R:cX} (h:Pr R) {g r e:Sr} {m:Nat} (c:Ms m g) (f:Pol r) (i:Pol e) (cs:Cs r e) (s1:Pi φ R=g*r) (j:Pi ψ R=g*e):g=Pi (λa b=>φ a b && ψ a b) R:=by
 obtain ⟨n,d,_⟩:=Pi.ms (λa b=>φ a b && ψ a b) h
 have k:Pi ψ R=Pi (λa b=>φ a b && ψ a b) R*Pi (λa b=>ψ a b && !φ a b) R:=by
  rw [Pi.split ψ φ R];congr 1;exact Pi.congr λq _=>Bool.and_comm ..
 obtain ⟨u,v,o,pv,p,w⟩:=Zw c.pol f i d.pol (Pi.pol _ h) (Pi.pol _ h) cs (Pi.cs h λq _ x=>by
  cases y:φ q.1 q.2.1 <;> cases z:ψ q.1 q.2.1 <;> simp [y,z] at x ⊢) s1 j (Pi.split φ ψ R) k
 exact d.unit c o pv p w
def Pi.over {φ ψ:Rat->Rat->Bool} {R:cX} (h:Pr R) {q:Sr} (d:Pol q) (e:Pi φ R=q*Pi (λa b=>φ a b && ψ a b) R):q=Pi (λa b=>φ a b && !ψ a b) R:=by
 obtain ⟨n,c,_⟩:=Pi.ms (λa b=>φ a b && ψ a b) h;refine cancel d (Pi.pol _ h) c.pol c.ne ?_;rw [<-e,Pi.split φ ψ R];ext
noncomputable def W:cZ->Rat->Sr
 | [],_=>1
 | q::L,c=>(if q.1=c then q.2 else 1)*W L c
theorem W.app (L M:cZ) (c:Rat):W (L++M) c=W L c*W M c:=by
 induction L with
 | nil=>show W M c=1*W M c;ext
 | cons q L a=>
   show _*W (L++M) c=_*W L c*W M c;rw [a];ext
structure Can (w:Rat->Sr) (M:cZ):Prop where
 asc:M.Pairwise λp q=>p.1<q.1
 nz:∀ q∈M,q.1≠0/\q.2=w q.1/\q.2≠1
 all:∀ c,c≠0->w c≠1->∃ q∈M,q.1=c
def Can.congr {w v:Rat->Sr} {M:cZ} (h:Can w M) (e:∀ c,c≠0->w c=v c):Can v M:=
 ⟨h.asc,λq g=>let ⟨a,b,d⟩:=h.nz q g;⟨a,b.trans (e _ a),d⟩,λc f d=>h.all c f (by rw [e c f];exact d)⟩
theorem Pn:∀ {L M:cZ},L.Pairwise (λp q=>p.1<q.1)->M.Pairwise (λp q=>p.1<q.1)->(∀ x,x∈L↔x∈M)->L=M
 | [],[],_,_,_=>rfl
 | [],y::M,_,_,h=>absurd ((h y).mpr (Au ..)) (λz=>nomatch z)
 | x::L,[],_,_,h=>absurd ((h x).mp (Au ..)) (λz=>nomatch z)
 | x::L,y::M,g,i,h=>by
   obtain ⟨d,l2⟩:=Eb.mp g;obtain ⟨f,j⟩:=Eb.mp i
   have e:x=y:=by
    rcases Bc.mp ((h x).mp (Au ..)) with z | z
    ·exact z
    ·rcases Bc.mp ((h y).mpr (Au ..)) with v | v
     ·exact v.symm
     ·have a:=f x z;have b:=d y v;ext
   subst e;rw [Pn l2 j λz=>?_];constructor
   ·intro c;rcases Bc.mp ((h z).mp (A3 _ c)) with v | v
    ·have:=d z c;rw [v] at this;ext
    ·exact v
   ·intro c;rcases Bc.mp ((h z).mpr (A3 _ c)) with v | v
    ·have:=f z c;rw [v] at this;ext
    ·exact v
def Can.uniq {w:Rat->Sr} {L M:cZ} (f:Can w L) (d:Can w M):L=M:=by
 have sub:∀ {L M:cZ},Can w L->Can w M->∀ x,x∈L->x∈M:=λ{L M} f d x h=>by
  obtain ⟨a,b,c⟩:=f.nz x h;obtain ⟨y,g,e⟩:=d.all x.1 a (by rw [<-b];exact c);obtain ⟨_,i,_⟩:=d.nz y g;have:y=x:=Prod.ext e (by rw [i,b,e]);rw [<-this];exact g
 exact Pn f.asc d.asc λx=>⟨sub f d x,sub d f x⟩
noncomputable def wa (R:cX) (c:Rat):Sr:=Pi (λa _=>decide (a=c)) R
theorem Pi.none {φ:Rat->Rat->Bool}:∀ {R:cX},(∀ q∈R,φ q.1 q.2.1=false)->Pi φ R=1
 | [],_=>rfl
 | q::R,h=>by
   unfold Pi;rw [nU (by rw [h q (Au ..)];decide),Pi.none λp hp=>h p (A3 _ hp)];ext
theorem Pi.add {φ ψ c:Rat->Rat->Bool}:∀ {R:cX},(∀ q∈R,φ q.1 q.2.1=(ψ q.1 q.2.1 || c q.1 q.2.1)/\(ψ q.1 q.2.1 && c q.1 q.2.1)=false)->Pi φ R=Pi ψ R*Pi c R
 | [],_=>by show (1:Sr)=1*1;ext
 | q::R,h=>by
   obtain ⟨a,b⟩:=h q (Au ..);unfold Pi;rw [Pi.add λp hp=>h p (A3 _ hp),a];cases d:ψ q.1 q.2.1 <;> cases e:c q.1 q.2.1 <;> simp [d,e] at b ⊢ <;> ext
noncomputable def Zx:List Rat->List Rat:=λl=>(l.reverse.dropWhile λx=>decide (x=0)).reverse
noncomputable def LY (a b:List Rat) (c:Rat) (k:Nat):List Rat:=Zx (A7 a ((List.replicate k 0++b).map λx=>-c*x))
noncomputable def eu:Nat->List Rat×List Rat×List Rat->List Rat×List Rat×List Rat->List Rat×List Rat
 | 0,_,y=>y.2
 | f+1,x,y=>
   if y.1.length<=1 then y.2
   else if x.1.length<y.1.length then eu f y x
   else
    let c:=x.1.getD (x.1.length - 1) 0 / y.1.getD (y.1.length - 1) 0;let k:=x.1.length - y.1.length
    eu f (LY x.1 y.1 c k,LY x.2.1 y.2.1 c k,LY x.2.2 y.2.2 c k) y
noncomputable def cst:List Rat->Bool
 | []=>false
 | d::l=>!decide (d=0) && l.all λx=>decide (x=0)
def L_at (a:List Rat) (k:Nat):(L a).c k=a.getD k 0:=DN a k
theorem Zy:∀ {l:List Rat},cst l=true->∃ d:Rat,d≠0/\L l=num d
 | [],h=>nomatch h
 | d::l,h=>by
   unfold cst at h;rw [Bool.and_eq_true] at h;refine ⟨d,by simpa using h.1,ext' λk=>?_⟩;rw [L_at];show _=d*AY k;cases k with
   | zero=>rw [show (AY 0:Rat)=1 from rfl];show d=d*1;ext
   | succ k=>
     rw [show (AY (k+1):Rat)=0 from rfl];show l.getD k 0=d*0;rcases A5 k l.length with c | c
     ·have z:=DT.mp h.2 l[k] (DH c);rw [AQ,AZ c];show l[k]=d*0;rw [nX z];ext
     ·rw [AQ,BL c];show (0:Rat)=d*0;ext
noncomputable def okC (f g:List Rat):Bool:=let w:=eu 12 (f,[1],[]) (g,[],[1]);cst (A7 (Bb w.1 f) (Bb w.2 g))
def okC_cs {f g:List Rat} (h:okC f g=true):Cs (L f) (L g):=by
 unfold okC at h;generalize eu 12 (f,[1],[]) (g,[],[1])=w at h;obtain ⟨d,a,e⟩:=Zy h;refine Cs.of_unit a rfl (Pol.L w.1) (Pol.L w.2) ?_;rw [<-e];refine ext' λk=>?_;show (L w.1*L f).c k+(L w.2*L g).c k=cvL (A7 (Bb w.1 f) (Bb w.2 g)) AY k;rw [L_mul,L_mul,Br,Bt,Bt];rfl
noncomputable def poolQ:List (List Rat):=[[0,1],[-1,1],[1,1],[-2,1],[2,1],[-3,1],[1/2,1],[-2/3,1],[-2,0,1],[1,0,1],[1,1,1],[-3,0,1],[-1,1,1],[2,0,1],[-1,2,1],[3,1,1],[-2,0,0,1],[1,1,0,1],[-1,-1,0,1]]
set_option maxRecDepth 100000 in
def Zz:(poolQ.all λf=>poolQ.all λg=>decide (f=g) || okC f g)=true:=by decide +kernel
def pool_cs {f g:List Rat} (a:f∈poolQ) (b:g∈poolQ) (n:f≠g):Cs (L f) (L g):=by
 have h:=DT.mp (DT.mp Zz f a) g b;rw [Bool.or_eq_true] at h;rcases h with h | h
 ·exact absurd (nX h) n
 ·exact okC_cs h
def Can.nil {w:Rat->Sr} (h:∀ c,c≠0->w c=1):Can w []:=⟨.nil,(λ_ h=>nomatch h),λc a d=>absurd (h c a) d⟩
def Can.keys {R:cX} {M:cZ} (p:Pr R) (h:Can (wa R) M):∀ q∈R,q.1≠0->q.1∈M.map (·.1):=λq b n=>by
 obtain ⟨x,d,e⟩:=h.all q.1 n (λz=>by
  obtain ⟨k,mk,f⟩:=Pi.ms (λa _=>decide (a=q.1)) p
  have g:k=0:=by
   have i:Ms k 1:=by rw [<-z];exact mk
   rcases DR k with c | c
   ·exact c
   ·have:=Ms.one.2 k ⋯;rw [i.1] at this;exact absurd this ∅
  have:=f g q b;simp at this)
 exact AX.mpr ⟨x,d,e⟩
def Can.nodup {w:Rat->Sr} {M:cZ} (h:Can w M):(M.map (·.1)).Nodup:=EK.mpr (h.asc.imp λl=>by ext)
structure Gth (L kvs:cZ):Prop where
 nd:(kvs.map (·.1)).Nodup
 at':∀ q∈kvs,q.1≠0/\q.2=W L q.1/\∃ n,Ms (n+1) q.2
 all:∀ c,c≠0->W L c≠1->∃ q∈kvs,q.1=c
def Gth.nil:Gth [] []:=⟨.nil,(λ_ h=>nomatch h),λ_ _ h=>absurd rfl h⟩
def W.snoc (L:cZ) (c d:Rat) (v:Sr):W (L++[(c,v)]) d=W L d*if c=d then v else 1:=by
 rw [W.app];show W L d*((if c=d then v else 1)*1)=_;ext
def Gth.skip {L kvs:cZ} (h:Gth L kvs) {c:Rat} {v:Sr} (z:c=0\/v=1):Gth (L++[(c,v)]) kvs:=by
 have e:∀ d,d≠0->W (L++[(c,v)]) d=W L d:=λd f=>by
  rw [W.snoc];rcases z with z | z
  ·rw [nU (by rw [z];exact λy=>f y.symm)];ext
  ·rw [z];split <;> ext
 exact ⟨h.nd,λq g=>let ⟨a,b,c⟩:=h.at' q g;⟨a,by rw [e _ a];exact b,c⟩,λd f n=>h.all d f (by rw [<-e d f];exact n)⟩
def Ms.ne_one {n:Nat} {f:Sr} (h:Ms (n+1) f):f≠1:=λz=>by
 have:=Ms.one.2 (n+1) ⋯;rw [<-z,h.1] at this;exact absurd this ∅
def Gth.new {L kvs:cZ} (h:Gth L kvs) {c:Rat} {v:Sr} {n:Nat} (i:c≠0) (j:Ms (n+1) v) (g:c∉kvs.map (·.1)):Gth (L++[(c,v)]) (kvs++[(c,v)]):=by
 have o:W L c=1:=Classical.byContradiction λz=>by
  obtain ⟨q,f,e⟩:=h.all c i z;exact g (AX.mpr ⟨q,f,e⟩)
 refine ⟨?_,λq f=>?_,λd p z=>?_⟩
 ·rw [By];refine List.nodup_append.mpr ⟨h.nd,Dh.mpr ⟨List.not_mem_nil,List.nodup_nil⟩,λx r y u e=>g ?_⟩;rw [Aw.mp u] at e;rw [<-show x=c from e];exact r
 ·rw [W.snoc];rcases CO.mp f with k | k
  ·obtain ⟨a,b,m⟩:=h.at' q k;refine ⟨a,?_,m⟩;rw [nU λe=>g (AX.mpr ⟨q,k,e.symm⟩),b];ext
  ·rw [Aw.mp k];refine ⟨i,?_,n,j⟩;show v=W L c*if c=c then v else 1
   rw [o,nV rfl];ext
 ·rw [W.snoc] at z;by_cases e:c=d
  ·exact ⟨(c,v),C4 _ (Aw.mpr rfl),e⟩
  ·rw [nU e] at z;obtain ⟨q,f,k⟩:=h.all d p (by intro y;rw [y] at z;exact z ());exact ⟨q,F7 _ f,k⟩
def Gth.put {L kvs:cZ} (h:Gth L kvs) {c:Rat} {v:Sr} {n:Nat} (o:Ms (n+1) v) (g:c∈kvs.map (·.1)):Gth (L++[(c,v)]) (kvs.map λq=>if q.1=c then (q.1,q.2*v) else q):=by
 have i:(kvs.map λq=>if q.1=c then (q.1,q.2*v) else q).map (·.1)=kvs.map (·.1):=by
  rw [B3];refine Ce λq _=>?_;show (if q.1=c then (q.1,q.2*v) else q).1=q.1;split <;> rfl
 refine ⟨by rw [i];exact h.nd,λq f=>?_,λd r z=>?_⟩
 ·obtain ⟨p,hp,rfl⟩:=AX.mp f;obtain ⟨a,b,m,j⟩:=h.at' p hp;by_cases e:p.1=c
  ·rw [nV e];refine ⟨a,?_,m+(n+1),?_⟩
   ·show p.2*v=W (L++[(c,v)]) p.1;rw [W.snoc,nV e.symm,<-b]
   ·have:=j.mul o;rwa [show m+1+(n+1)=m+(n+1)+1 by omega] at this
  ·rw [nU e];refine ⟨a,?_,m,j⟩;rw [W.snoc,nU λy=>e y.symm,<-b];ext
 ·rw [W.snoc] at z
  have:d∈kvs.map (·.1):=by
   by_cases e:c=d
   ·rw [<-e];exact g
   ·rw [nU e] at z;obtain ⟨q,f,k⟩:=h.all d r (by intro y;rw [y] at z;exact z ());exact AX.mpr ⟨q,f,k⟩
  rw [<-i] at this;obtain ⟨q,f,k⟩:=AX.mp this;exact ⟨q,f,k⟩
def Gth.can {L kvs M:cZ} (h:Gth L kvs) (pm:M.Perm kvs) (d:M.Pairwise λp q=>p.1<q.1):Can (W L) M:=
 ⟨d,λq f=>let ⟨a,b,_,m⟩:=h.at' q (pm.mem_iff.mp f);⟨a,b,m.ne_one⟩,λc g z=>let ⟨q,f,e⟩:=h.all c g z;⟨q,pm.mem_iff.mpr f,e⟩⟩
noncomputable def PcsL (R:cX) (d c:Rat):List Rat->cZ
 | []=>[]
 | n::e=>PcsL R d c e++[(n,Pi (λa b=>decide (a=n) && !decide (b=d)) R),(n+c,Pi (λa b=>decide (a=n) && decide (b=d)) R)]
theorem W.pcsL (R:cX) (e c d:Rat):∀ {f:List Rat},f.Nodup->W (PcsL R e c f) d=Pi (λa b=>decide (a∈f/\(b≠e/\a=d\/b=e/\a+c=d))) R
 | [],_=>(Pi.none λq _=>by simp).symm
 | n::f,h=>by
   obtain ⟨g,i⟩:=Dh.mp h;unfold PcsL;rw [W.app,W.pcsL R e c d i]
   have j:Pi (λa b=>decide (a∈n::f/\(b≠e/\a=d\/b=e/\a+c=d))) R=Pi (λa b=>decide (a∈f/\(b≠e/\a=d\/b=e/\a+c=d))) R*Pi (λa b=>decide (a=n/\(b≠e/\a=d\/b=e/\a+c=d))) R:=Pi.add λq _=>by
    by_cases y:q.1=n
    ·simp [y,g]
    ·simp [y]
   have k:Pi (λa b=>decide (a=n/\(b≠e/\a=d\/b=e/\a+c=d))) R=Pi (λa b=>decide (a=n/\b≠e/\n=d)) R*Pi (λa b=>decide (a=n/\b=e/\n+c=d)) R:=Pi.add λq _=>by
    by_cases y:q.1=n <;> by_cases z:q.2.1=e <;> simp [y,z]
   have m:Pi (λa b=>decide (a=n/\b≠e/\n=d)) R=if n=d then Pi (λa b=>decide (a=n) && !decide (b=e)) R else 1:=by
    split
    ·exact Pi.congr λq _=>by simp [*]
    ·exact Pi.none λq _=>by simp [*]
   have o:Pi (λa b=>decide (a=n/\b=e/\n+c=d)) R=if n+c=d then Pi (λa b=>decide (a=n) && decide (b=e)) R else 1:=by
    split
    ·exact Pi.congr λq _=>by simp [*]
    ·exact Pi.none λq _=>by simp [*]
   rw [j,k,m,o];show _*((if n=d then _ else 1)*((if n+c=d then _ else 1)*1))=_;generalize (if n=d then _ else (1:Sr))=u;generalize (if n+c=d then _ else (1:Sr))=v;ext
noncomputable def stpL (a c:Rat) (R:cX):cX:=R.map λq=>(if q.2.1=a then q.1+c else q.1,q.2)
def wa_plusL {R:cX} {f c d:Rat} {g:List Rat} (u:d≠0) (j:g.Nodup) (v:∀ n∈g,n≠0) (m:∀ q∈R,q.1≠0->q.1∈g) :
  W (PcsL R f c g++[(c,Pi (λa b=>decide (b=f) && !decide (a∈g)) R)]) d=wa (stpL f c R) d:=by
 have e:∀ R:cX,wa (stpL f c R) d=Pi (λa b=>decide ((if b=f then a+c else a)=d)) R:=λR=>by
  induction R with
  | nil=>rfl
  | cons q R i=>
    unfold wa stpL at i ⊢;rw [CA];unfold Pi;rw [i]
 rw [e,W.app,W.pcsL R f c d j];show _*((if c=d then _ else 1)*1)=_
 have k:Pi (λa b=>decide ((if b=f then a+c else a)=d)) R=Pi (λa b=>decide (a∈g/\(b≠f/\a=d\/b=f/\a+c=d))) R*Pi (λa b=>decide (b=f/\a∉g/\c=d)) R:=Pi.add λq o=>by
  by_cases y:q.1∈g
  ·by_cases z:q.2.1=f <;> simp [y,z]
  ·have p:q.1=0:=Classical.byContradiction λh=>y (m q o h);rw [p] at y ⊢;by_cases z:q.2.1=f
   ·simp [y,z];ext
   ·simp [y,z];ext
 have r:Pi (λa b=>decide (b=f/\a∉g/\c=d)) R=if c=d then Pi (λa b=>decide (b=f) && !decide (a∈g)) R else 1:=by
  split
  ·exact Pi.congr λq _=>by simp [*]
  ·exact Pi.none λq _=>by simp [*]
 rw [k,r];ext
end Bs.Sr
namespace Bs
open PySem
noncomputable def GY (K:W.Frag):Addr:=match W.nsIn K PySem.mainGlobals "EXPONENTS" with | some (some (.ref a))=>a | _=>0
end Bs
namespace Bs
open PySem L2
abbrev Nm (H:Hp) (p:Addr) (t d:Int):Prop:=H p=some (.tup [.int t,.int d])
def Ew (_:W.Frag):Sp:=λc H Q _=>∃ a b:Int,c=[.int a,.int b]/\Q (.int ((Int.gcd a b:Nat):Int)) H
def Jo (K:W.Frag):Sp:=λc H Q _=>∃ (a:Addr) (b:d8),c=[.ref a]/\SqL K H a (b.map V.int)/\b.length<=63/\∀ d,Q (.bl true) d
def Jp (_:W.Frag):Sp:=λa H Q _=>∃ (x n:Int) (b:Nat),a=[.int x,.int n]/\0<=n/\Bd b x/\b*n.toNat+1<=200000/\Q (.int (x ^ n.toNat)) H
noncomputable def Av (n:Nat) (f:dC):c_:=((List.range n).map f).map V.int
noncomputable def DC (a:d8):Nat->Nat
 | 0=>0
 | m+1=>if a.getD m 1=0 then DC a m else m+1
noncomputable def Cz (a:d8):d8:=a.take (DC a a.length)
def Pl (H:Hp) (r:Addr) (L:cV):Prop:=∃ a,H r=some (.tup a)/\Nums H a L
def HK (_:W.Frag):Sp:=λb H Q _=>∃ (p:Addr) (a:d8),b=[.ref p]/\H p=some (.lst (a.map V.int))/\∀ r,H r=none->Q (.ref r) (upd H r (.lst ((Cz a).map V.int)))
def Tz (a:d8):Prop:=a=[]\/co a (a.length - 1)≠0
noncomputable def SDs (H:Hp):c_->List (d8)->Prop
 | [],[]=>True
 | x::a,r::b=>(∃ p,x=.ref p/\H p=some (.lst (r.map V.int)))/\SDs H a b
 | _,_=>False
def SD (H:Hp) (p:Addr) (b:List (d8)):Prop:=∃ a,H p=some (.lst a)/\SDs H a b
def IT (_:W.Frag):Sp:=λe H Q _=>∃ (p:Addr) (a:d8) (b:Int),e=[.ref p,.int b]/\H p=some (.lst (a.map V.int))/\a.length<=1000/\∀ (g:Int) (c:Hp),Same H c->0<=g->g∣b->(∀ z∈a,g∣z)->(∀ d:Int,d∣b->(∀ z∈a,d∣z)->d∣g)->Q (.int g) c
def IU (_:W.Frag):Sp:=λb H Q _=>∃ (p:Addr) (a:d8) (g:Int),b=[.ref p,.int g]/\H p=some (.lst (a.map V.int))/\(0<g\/a=[])/\a.length<=1000/\∀ r,H r=none->Q (.ref r) (upd H r (.lst ((a.map (·/ g)).map V.int)))
def IV (_:W.Frag):Sp:=λe H Q _=>∃ (p q:Addr) (a b:d8) (f w:Int) (s:Nat),e=[.ref p,.int f,.ref q,.int w,.int (s:Int)]/\H p=some (.lst (a.map V.int))/\H q=some (.lst (b.map V.int))/\a.length<=1000/\s+b.length<=1000/\Bd 60000000 f/\Bd 60000000 w/\(∀ z∈a,Bd 60000000 z)/\(∀ z∈b,Bd 60000000 z)/\
 ∀ (r:Addr) (c:d8) (d:Hp),Same H d->d r=some (.lst (c.map V.int))->Tz c->(∀ k,co c k=f*co a k - w*Ax s (co b) k)->Q (.ref r) d
def Fv (_:W.Frag):Sp:=λg H Q _=>∃ (p q:Addr) (a c:d8) (b d:Nat),g=[.ref p,.ref q]/\H p=some (.lst (a.map V.int))/\H q=some (.lst (c.map V.int))/\Lz c/\(∀ z∈a,Bd b z)/\(∀ z∈c,Bd d z)/\b+a.length*(d+1)<=60000000/\d<=60000000/\a.length<=1000/\c.length<=1000/\((¬ ∃ A:d8,∀ k,co a k=cvL A (co c) k)->∀ e,Same H e->Q .non e)/\
 ∀ (r:Addr) (f:d8) (e:Hp),Same H e->e r=some (.lst (f.map V.int))->f.length=a.length+1 - c.length->(∀ k,co a k=cvL f (co c) k)->Q (.ref r) e
def Sh (b a:List (d8)):Prop:=∃ g:Int,0<g/\b=a.map (·.map (g*·))
def Z0 (a:List (d8)):Prop:=(∀ r∈a,r=[])\/∀ d:Int,(∀ r∈a,∀ z∈r,d∣z)->d.natAbs=1
def IW (_:W.Frag):Sp:=λd H Q _=>∃ (p:Addr) (b:List (d8)),d=[.ref p]/\SD H p b/\b.length<=1000/\(∀ r∈b,r.length<=1000/\Tz r)/\
 ∀ (t:Addr) (a:List (d8)) (c:Hp),Same H c->SD c t a->Sh b a->Z0 a->Q (.ref t) c
def GZ (_:W.Frag):Sp:=λd H Q _=>∃ (p:Addr) (a:d8),d=[.ref p]/\H p=some (.lst (a.map V.int))/\a.length<=1000/\Tz a/\
 ∀ (t:Addr) (b:d8) (g:Int) (c:Hp),Same H c->c t=some (.lst (b.map V.int))->0<g->a=b.map (g*·)->(a=[]\/Prim b)->Q (.ref t) c
def Jq (_:W.Frag):Sp:=λb H Q _=>∃ (p q:Addr) (o:d8),b=[.ref p,.ref q]/\SD H p [[]]/\SD H q [o]/\0<o.length/\∀ (t:Addr) (a:Hp),Same H a->SD a t [[]]->Q (.ref t) a
def IX (_:W.Frag):Sp:=λb H Q _=>∃ (p q:Addr) (s o:d8),b=[.ref p,.ref q]/\SD H p [s]/\SD H q [o]/\(s=[]\/o=[])/\∀ (t:Addr) (a:Hp),Same H a->SD a t [if o=[] then s else o]->Q (.ref t) a
def Jr (_:W.Frag):Sp:=λb H Q _=>∃ a p:Int,b=[.int a,.int p]/\2<=p/\Bd 45000 p/\∀ r:Int,0<=r->r<p->(Int.gcd a p=1->p∣r*a - 1)->Q (.int r) H
def Js (_:W.Frag):Sp:=λb H Q _=>∃ (p:Addr) (a:d8) (m:Int),b=[.ref p,.int m]/\H p=some (.lst (a.map V.int))/\0<m/\a.length<=1000/\∀ r,H r=none->Q (.ref r) (upd H r (.lst ((a.map (·% m)).map V.int)))
def Md (m:Int) (a:d8) (f:dC):Prop:=(∀ z∈a,0<=z/\z<m)/\∀ k,m∣co a k - f k
def HL (_:W.Frag):Sp:=λd H Q _=>∃ (p:Addr) (a:d8) (m:Int),d=[.ref p,.int m]/\H p=some (.lst (a.map V.int))/\0<m/\a.length<=1000/\∀ (r:Addr) (b:d8) (c:Hp),Same H c->c r=some (.lst (b.map V.int))->Tz b->b.length<=a.length->Md m b (co a)->Q (.ref r) c
def HM (_:W.Frag):Sp:=λd H Q _=>∃ (q:Addr) (a:d8) (p:Nat),d=[.ref q,.int (p:Int)]/\H q=some (.lst (a.map V.int))/\Pr p/\Bd 45000 (p:Int)/\a.length<=1000/\Tz a/\(∀ z∈a,0<=z/\z<(p:Int))/\
 ∀ (r:Addr) (b:d8) (f:Int) (c:Hp),Same H c->c r=some (.lst (b.map V.int))->b.length=a.length->(a≠[]->co b (b.length - 1)=1)->Md (p:Int) b (λk=>f*co a k)->Q (.ref r) c
def Jt (_:W.Frag):Sp:=λg H Q _=>∃ (p q:Addr) (f a:d8) (m:Int) (b:Nat),g=[.ref p,.ref q,.int m]/\H p=some (.lst (f.map V.int))/\H q=some (.lst (a.map V.int))/\0<a.length/\co a (a.length - 1)=1/\0<m/\Bd b m/\(∀ z∈a,Bd b z)/\b<=60000000/\f.length<=1000/\a.length<=1000/\
 ∀ (t r s:Addr) (d e:d8) (c:Hp),Same H c->c t=some (.tup [.ref r,.ref s])->c r=some (.lst (d.map V.int))->c s=some (.lst (e.map V.int))->Tz d->Tz e->e.length<a.length->Md m e (λk=>co f k - cvL d (co a) k)->(∀ z∈d,0<=z/\z<m)->Q (.ref t) c
def Ju (_:W.Frag):Sp:=λf H Q _=>∃ (p q:Addr) (d a:d8) (m:Int) (b:Nat),f=[.ref p,.ref q,.int m]/\H p=some (.lst (d.map V.int))/\H q=some (.lst (a.map V.int))/\0<a.length/\co a (a.length - 1)=1/\0<m/\Bd b m/\(∀ z∈a,Bd b z)/\b<=60000000/\d.length<=1000/\a.length<=1000/\
 ∀ (s:Addr) (g c:d8) (e:Hp),Same H e->e s=some (.lst (c.map V.int))->Tz c->c.length<a.length->Md m c (λk=>co d k - cvL g (co a) k)->Q (.ref s) e
def Jv (_:W.Frag):Sp:=λh H Q _=>∃ (a b:Addr) (d e:d8) (p:Nat),h=[.ref a,.ref b,.int (p:Int)]/\H a=some (.lst (d.map V.int))/\H b=some (.lst (e.map V.int))/\Pr p/\Bd 45000 (p:Int)/\d.length<=1000/\e.length<=1000/\((∃ k,¬ (p:Int)∣co d k)\/∃ k,¬ (p:Int)∣co e k)/\
 ∀ (s:Addr) (c:d8) (f:Hp),Same H f->f s=some (.lst (c.map V.int))->0<c.length->c.length<=1000->co c (c.length - 1)=1->(∀ z∈c,0<=z/\z<(p:Int))->(∀ g:dC,Dm (p:Int) g (co d)->Dm (p:Int) g (co e)->Dm (p:Int) g (co c))->Dm (p:Int) (co c) (co d)->Dm (p:Int) (co c) (co e)->Q (.ref s) f
def Jw (_:W.Frag):Sp:=λa H Q _=>∃ w p:Int,a=[.int w,.int p]/\0<p/\∀ r:Int,p∣r - w->2*r.natAbs<=p.natAbs->Q (.int r) H
def Fi (e:Nat) (a:d8):Prop:=∀ A g:d8,(∀ k,co a k=cvL A (co g) k)->∀ k,Bd e (co g k)
def Fp (e:Nat) (a:d8):Prop:=∀ g:d8,Lz g->Prim g->MQ (co g) (co a)->∀ k,Bd e (co g k)
def Po (e c N p:Nat):Prop:=2 ^ ((e+c+2)*N)<p
def Jx (_:W.Frag):Sp:=λj H Q _=>∃ (a b:Addr) (f g:d8) (p d e c N:Nat),j=[.ref a,.ref b,.int (p:Int)]/\H a=some (.lst (f.map V.int))/\H b=some (.lst (g.map V.int))/\Pr p/\Bd 45000 (p:Int)/\Lz f/\Lz g/\(∀ z∈f,Bd d z)/\(∀ z∈g,Bd d z)/\d+f.length*45001<=3000000/\d+g.length*45001<=3000000/\Fi e f/\Fi e g/\f.length+g.length<2 ^ (c+1)/\f.length+g.length<=N+2/\2<=N/\(¬ Po e c N p->∀ h,Same H h->Q .non h)/\
 ∀ (s:Addr) (i:d8) (h:Hp),Same H h->h s=some (.lst (i.map V.int))->RC (co f) (co g) i->Prim i->Q (.ref s) h
def HN (_:W.Frag):Sp:=λj H Q _=>∃ (a b:Addr) (f g:d8) (d e c N:Nat),j=[.ref a,.ref b]/\H a=some (.lst (f.map V.int))/\H b=some (.lst (g.map V.int))/\Tz f/\Tz g/\(∀ z∈f,Bd d z)/\(∀ z∈g,Bd d z)/\d<=200000/\f.length<=60/\g.length<=60/\(f≠[]->g≠[]->Fp e f/\Fp e g)/\f.length+g.length<2 ^ (c+1)/\f.length+g.length<=N+2/\2<=N/\(e+c+2)*N<=44490/\
 ∀ (s:Addr) (h:d8) (i:Hp),Same H i->i s=some (.lst (h.map V.int))->((f≠[]\/g≠[])->RC (co f) (co g) h/\Prim h)->(f=[]->g=[]->h=[])->Q (.ref s) i
structure Gq (b c:Nat) (l:cV):Prop where
 low:Af l
 nz:Nz l
 ov:∃ M,Ov l M/\Bd c M/\∀ z∈X_ l M,Bd b z
noncomputable def I_ (g:d8):cV:=g.map λn=>Ay n (co g (g.length - 1))
def MR (g f:dF):Prop:=∃ A:List Rat,∀ k,f k=cvL A g k
def Ex (_:W.Frag):Sp:=λc H Q _=>∃ a b:Int,c=[.int a,.int b]/\b≠0/\∀ (p:Addr),H p=none->Q (.ref p) (upd H p (.tup [.int (Ay a b).1,.int (Ay a b).2]))
def Ga (_:W.Frag):Sp:=λb H Q _=>∃ (p:Addr) (a:c_) (l:cV),b=[.ref p]/\H p=some (.lst a)/\Nums H a l/\l.length<=1000/\GW H Q (trim l)
def ET (_:W.Frag):Sp:=λd H Q _=>∃ (p:Addr) (c:c_) (l:cV) (M:Int),d=[.ref p]/\(H p=some (.tup c)\/H p=some (.lst c))/\Nums H c l/\Af l/\Ov l M/\Bd 400000 M/\(∀ q∈l,Bd 60000000 q.1)/\l.length<=1000/\
 ∀ (r a:Addr) (b:Hp),Same H b->b r=some (.tup [.ref a,.int (Ab l)])->b a=some (.lst ((AS l).map V.int))->Q (.ref r) b
def Gb (_:W.Frag):Sp:=λb H Q _=>∃ (p:Addr) (a:d8) (B:Int),b=[.ref p,.int B]/\H p=some (.lst (a.map V.int))/\B≠0/\a.length<=1000/\GW H Q (trim (a.map λn=>Ay n B))
def IY (_:W.Frag):Sp:=λh H Q _=>∃ (p q:Addr) (a f:c_) (l m:cV) (b c e d N:Nat),h=[.ref p,.ref q]/\H p=some (.tup a)/\H q=some (.tup f)/\Nums H a l/\Nums H f m/\Gq b c l/\Gq b c m/\b<=200000/\c<=200000/\l.length<=60/\m.length<=60/\(l≠[]->m≠[]->Fp e (AS l)/\Fp e (AS m))/\l.length+m.length<2 ^ (d+1)/\l.length+m.length<=N+2/\2<=N/\(e+d+2)*N<=44490/\
 (l=[]->m=[]->GW H Q [])/\((l≠[]\/m≠[])->∀ g,RC (co (AS l)) (co (AS m)) g->Prim g->GW H Q (I_ g))
def LZ (f:Nu->Nu->Nu) (_:W.Frag):Sp:=λe H Q _=>∃ (p q:Addr) (a b c d:Int),e=[.ref p,.ref q]/\Nm H p a b/\Nm H q c d/\0<b/\0<d/\Bd 60000000 a/\Bd 60000000 b/\Bd 60000000 c/\Bd 60000000 d/\
 ∀ (r:Addr),H r=none->Q (.ref r) (upd H r (.tup [.int (f (a,b) (c,d)).1,.int (f (a,b) (c,d)).2]))
def Jy (_:W.Frag):Sp:=λj H Q _=>∃ (p q:Addr) (h i:c_) (l m:cV) (b c d e:Nat),j=[.ref p,.ref q]/\H p=some (.tup h)/\H q=some (.tup i)/\Nums H h l/\Nums H i m/\Gq b c l/\Gq d e m/\m≠[]/\l.length<=100/\m.length<=100/\
 c+(l.length+1 - m.length)*d<=400000/\b+(l.length+1 - m.length)*(d+1)+e<=900000/\e<=400000/\d<=400000/\
 ∀ (t u v:Addr) (f:Hp) (a g:cV),Same H f->f t=some (.tup [.ref u,.ref v])->Pl f u a->Pl f v g->Af a->Nz a->a.length<=l.length+1 - m.length->Gq (b+(l.length+1 - m.length)*(d+1)) (c+(l.length+1 - m.length)*d) g->g.length<m.length->
   (∀ k,C_ l k=cv (C_ a) (C_ m) a.length k+C_ g k)->Q (.ref t) f
def Cop (T B:dF):Prop:=∃ U W:List Rat,∀ k,(AY k:Rat)=cvL U T k+cvL W B k
noncomputable abbrev IZ:=LZ G_
def Jz (_:W.Frag):Sp:=λe H Q _=>∃ (p q:Addr) (a b c d:Int),e=[.ref p,.ref q]/\Nm H p a b/\Nm H q c d/\0<b/\c≠0/\Bd 60000000 a/\Bd 60000000 b/\Bd 60000000 c/\Bd 60000000 d/\
 ∀ (r:Addr),H r=none->Q (.ref r) (upd H r (.tup [.int (Ay (a*d) (b*c)).1,.int (Ay (a*d) (b*c)).2]))
def J0 (_:W.Frag):Sp:=λf H Q _=>∃ (p q:Addr) (a c:d8) (b d:Nat),f=[.ref p,.ref q]/\H p=some (.lst (a.map V.int))/\H q=some (.lst (c.map V.int))/\(∀ z∈a,Bd b z)/\(∀ z∈c,Bd d z)/\b<=900000/\d<=900000/\a.length<=100/\c.length<=100/\
 ∀ (r:Addr) (e:Hp),Same H e->e r=some (.lst ((if a.length=0\/c.length=0 then [] else (List.range (a.length+c.length - 1)).map λk=>ps a c a.length k).map V.int))->Q (.ref r) e
def Fw (_:W.Frag):Sp:=λh H Q _=>∃ (p q:Addr) (f g:c_) (l m:cV) (b c d e:Nat),h=[.ref p,.ref q]/\H p=some (.tup f)/\H q=some (.tup g)/\Nums H f l/\Nums H g m/\Gq b c l/\Gq d e m/\l.length<=100/\m.length<=100/\b<=300000/\c<=300000/\d<=300000/\e<=300000/\
 ∀ (r:Addr) (R:cV) (a:Hp),Same H a->Pl a r R->Gq (b+d+l.length) (c+e) R->R.length<=l.length+m.length - 1->(∀ k,C_ R k=cv (C_ l) (C_ m) l.length k)->Q (.ref r) a
def Ia (_:W.Frag):Sp:=λe H Q _=>∃ (p c:Addr) (d:c_) (l:cV) (a b:Int),e=[.ref p,.ref c]/\H p=some (.tup d)/\Nm H c a b/\Nums H d l/\Af l/\0<b/\Bd 60000000 a/\Bd 60000000 b/\(∀ q∈l,Bd 60000000 q.1/\Bd 60000000 q.2)/\l.length<=1000/\GW H Q (trim (l.map λq=>G_ q (a,b)))
def Gc (_:W.Frag):Sp:=λh H Q _=>∃ (p q:Addr) (f g:c_) (l m:cV) (b c d e:Nat),h=[.ref p,.ref q]/\H p=some (.tup f)/\H q=some (.tup g)/\Nums H f l/\Nums H g m/\Gq b c l/\Gq d e m/\m≠[]/\l.length<=100/\m.length<=100/\
 c+(l.length+1 - m.length)*d<=400000/\b+(l.length+1 - m.length)*(d+1)+e<=900000/\e<=400000/\d<=400000/\MR (C_ m) (C_ l)/\
 ∀ (r:Addr) (R:cV) (a:Hp),Same H a->Pl a r R->Af R->Nz R->R.length<=l.length+1 - m.length->(∀ k,C_ l k=cv (C_ R) (C_ m) R.length k)->Q (.ref r) a
noncomputable abbrev J1:=LZ L_
def J2 (_:W.Frag):Sp:=λc H Q _=>∃ (p q:Addr) (l m:cV),c=[.ref p,.ref q]/\Pl H p l/\Pl H q m/\Af l/\Af m/\Nz m/\m≠[]/\(∀ q∈l,Bd 1000000 q.1/\Bd 1000000 q.2)/\(∀ q∈m,Bd 1000000 q.1/\Bd 1000000 q.2)/\l.length<=1000/\m.length<=1000/\
 ∀ a:Nu,Low a.1 a.2->val a*val (Aj m (m.length - 1))=1->∀ (t u v:Addr) (b:Hp),Same H b->b t=some (.tup [.ref u,.ref v])->Pl b u (trim (l.map λq=>G_ q (a.1,a.2)))->Pl b v (trim (m.map λq=>G_ q (a.1,a.2)))->Q (.ref t) b
noncomputable def rw' (l:cV):List Rat:=(List.range l.length).map (C_ l)
def FF (H:Hp) (p:Addr) (T B:cV):Prop:=∃ u v,H p=some (.tup [.ref u,.ref v])/\Pl H u T/\Pl H v B
noncomputable def dv (f:dF) (k:Nat):Rat:=((k:Rat)+1)*f (k+1)
noncomputable def sr (l:cV):Sr:=⟨C_ l⟩
noncomputable def si (a:d8):Sr:=⟨λk=>(co a k:Rat)⟩
noncomputable def dI (a:d8):d8:=(List.range (a.length - 1)).map λk=>((k+1:Nat):Int)*co a (k+1)
structure Lw (T B:cV):Prop where
 lt:Af T
 lb:Af B
 nt:Nz T
 nb:Nz B
 ne:B≠[]
 one:Aj B (B.length - 1)=(1,1)
 cs:Sr.Cs (sr T) (sr B)
structure Rp (b n m:Nat) (T B:cV):Prop where
 lw:Lw T B
 rp:∃ N D:d8,Lz D/\Tz N/\(∀ z∈N,Bd b z)/\(∀ z∈D,Bd b z)/\N.length<=n/\D.length<=m/\sr T*si D=si N*sr B
structure C0 (x n m e:Nat):Prop where
 n1:1<=n
 m1:1<=m
 n60:n<=60
 m60:m<=60
 ne:n<2 ^ e
 me:m<2 ^ e
 e6:e<=6
 lu:(x+e+2)*(n+m)<=44490
abbrev C1 (b n m e:Nat):Prop:=C0 (b+max n m*(2*e+4)) n m e
structure C2 (b n m e:Nat):Prop where
 a:C1 b m m e
 t:C1 (2*b+e+1) (n+m - 1) m e
 b9:b<=5000
 m50:m<=50
def J3 (_:W.Frag):Sp:=λc H Q _=>∃ (p q:Addr) (l m:cV) (b x n k e:Nat),c=[.ref p,.ref q]/\Pl H p l/\Pl H q m/\Gq b b l/\Gq b b m/\m≠[]/\l.length<=n/\m.length<=k/\(l≠[]->Fp x (AS l))/\Fp x (AS m)/\C0 x n k e/\b<=100000/\
 ∀ (t:Addr) (a:Hp) (T B:cV),Same H a->FF a t T B->Lw T B->sr T*sr m=sr l*sr B->Q (.ref t) a
def Stt (H:Hp) (p a:Addr) (n:Int):Prop:=∃ (b:d8) (k:Int) (d:Bool),H p=some (.dK [(.inr "cells", .ref a),(.inr "number", .int k),(.inr "digits", .bl d),(.inr "at", .int n)])/\H a=some (.lst (b.map V.int))/\(∀ z∈b,0<=z)/\b.length<=63/\0<=k/\k<=2147483629+n/\0<=n
def Kpa (p a:Addr) (H c:Hp):Prop:=∀ b o,b≠p->b≠a->H b=some o->c b=some o
def Lb (K:W.Frag):Sp:=λd H Q _=>∃ (s:Addr) (c:d8),d=[.ref s]/\SqL K H s (c.map V.int)/\c.length<=63/\∀ (p a:Addr) (b:Hp),H p=none->H a=none->Same H b->Stt b p a 0->Q (.ref p) b
def Df (_:W.Frag):Sp:=λc H Q _=>∃ (p a:Addr) (m n:Int),c=[.ref p,.int m]/\Stt H p a n/\n<=100000/\1<=m/\m<=100/\∀ (d:Int) (b:Hp),0<=d->d<m->Stt b p a (n+1)->Kpa p a H b->Q (.int d) b
def HP (_:W.Frag):Sp:=λc H Q _=>∃ (p a:Addr) (n:Int),c=[.ref p]/\Stt H p a n/\n<=90000/\∀ (r:Addr) (t d:Int) (b:Hp),Nm b r t d->Low t d->t.natAbs<=4036->d<=3->Stt b p a (n+3)->Kpa p a H b->Q (.ref r) b
def J4 (_:W.Frag):Sp:=λc H Q _=>∃ (p a:Addr) (n:Int),c=[.ref p]/\Stt H p a n/\n<=90000/\∀ (r:Addr) (t d:Int) (b:Hp),Nm b r t d->Low t d->t≠0->t.natAbs<=4036->d<=3->Stt b p a (n+3)->Kpa p a H b->Q (.ref r) b
def Sn (c:Nu):Prop:=Low c.1 c.2/\c.1.natAbs<=4036/\c.2<=3
structure Pt (d:Nat) (l:cV):Prop where
 g:Gq (8*d - 6) (2*d) l
 ne:l≠[]
 len:l.length<=d+1
 d1:1<=d
noncomputable def Pts (H:Hp):c_->cP->Prop
 | [],[]=>True
 | v::b,q::L=>(∃ a,v=.ref a/\Pl H a q.2)/\Pt q.1 q.2/\Pts H b L
 | _,_=>False
noncomputable def sm (L:cP):Nat:=(L.map λq=>q.1).sum
noncomputable def poolN:cP:=[(1,[(0,1),(1,1)]),(1,[(-1,1),(1,1)]),(1,[(1,1),(1,1)]),(1,[(-2,1),(1,1)]),(1,[(2,1),(1,1)]),(1,[(-3,1),(1,1)]),(1,[(1,2),(1,1)]),(1,[(-2,3),(1,1)]),(2,[(-2,1),(0,1),(1,1)]),(2,[(1,1),(0,1),(1,1)]),(2,[(1,1),(1,1),(1,1)]),(2,[(-3,1),(0,1),(1,1)]),(2,[(-1,1),(1,1),(1,1)]),(2,[(2,1),(0,1),(1,1)]),(2,[(-1,1),(2,1),(1,1)]),(2,[(3,1),(1,1),(1,1)]),(3,[(-2,1),(0,1),(0,1),(1,1)]),(3,[(1,1),(1,1),(0,1),(1,1)]),(3,[(-1,1),(-1,1),(0,1),(1,1)])]
noncomputable def Lgs (H:Hp):c_->cO->Prop
 | [],[]=>True
 | v::a,q::L=>(∃ t c w,v=.ref t/\H t=some (.tup [.ref c,.ref w])/\Nm H c q.1.1 q.1.2/\Pl H w q.2)/\Lgs H a L
 | _,_=>False
def LgO (M:cO):Prop:=∀ q∈M,Low q.1.1 q.1.2/\Af q.2/\Nz q.2
noncomputable def lv (M:cO):cZ:=M.map λq=>(val q.1,sr q.2)
def Lg (H:Hp) (l:Addr) (M:cO):Prop:=∃ a,H l=some (.tup a)/\Lgs H a M/\LgO M
def Pz (d:Nat) (L:cO):Prop:=∀ q∈L,Gq 100 100 q.2/\q.2.length<=8/\(∃ n,Sr.Ms (n+d) (sr q.2))/\Bd 100 q.1.1/\Bd 100 q.1.2
def SzP (R:cX):Prop:=∀ a:Rat->Rat->Bool,∃ l,sr l=Sr.Pi a R/\Gq 100 100 l/\l.length<=8
def Nb (x:Rat):Prop:=∃ t d:Int,0<d/\val (t,d)=x/\Bd 40 t/\Bd 40 d
noncomputable def mp (f g:Rat->Rat->Rat) (R:cX):cX:=R.map λq=>(f q.1 q.2.1,g q.1 q.2.1,q.2.2)
def Lc (_:W.Frag):Sp:=λe H Q _=>∃ (p q:Addr) (a b c d:Int),e=[.ref p,.ref q]/\Nm H p a b/\Nm H q c d/\Bd 1000 a/\Bd 1000 b/\Bd 1000 c/\Bd 1000 d/\Q (.bl (decide (a*d<c*b))) H
def Fx (_:W.Frag):Sp:=λb H Q _=>∃ (p:Addr) (a:c_),b=[.ref p]/\H p=some (.tup a)/\Q (.int ((a.length:Int) - 1)) H
def EU (_:W.Frag):Sp:=λc H Q _=>∃ (p:Addr) (a:d8),c=[.ref p]/\H p=some (.lst (a.map V.int))/\a.length<=100/\∀ (r:Addr) (b:Hp),Same H b->Pl b r (a.map λn=>(n,1))->Q (.ref r) b
def J5 (_:W.Frag):Sp:=λc H Q _=>∃ v:V,c=[v]/\∀ (r:Addr) (b:c_) (a:Hp),Same H a->a r=some (.lst b)->Pts a b poolN->Q (.ref r) a
def Ld (_:W.Frag):Sp:=λe H Q _=>∃ (p a:Addr) (m r n:Int),e=[.ref p,.int m,.int r]/\Stt H p a n/\n<=80000/\0<=m/\m<=4/\0<=r/\r<=6/\∀ (f:Addr) (c:c_) (L:cP) (d:Int) (b:Hp),H f=none->b f=some (.lst c)->Pts b c L->(sm L:Int)<=r->(∀ q∈L,q∈poolN)->(L.map λq=>q.2).Nodup->(L.length:Int)<=m->d<=n+4->Stt b p a d->Kpa p a H b->Q (.ref f) b
def Le (_:W.Frag):Sp:=λd H Q _=>∃ (p a:Addr) (n:Int),d=[.ref p]/\Stt H p a n/\n<=80000/\∀ (f:Addr) (c:c_) (L:cP) (b:Hp),H f=none->b f=some (.lst c)->Pts b c L->(∀ q∈L,q∈poolN)->(L.map λq=>q.2).Nodup->sm L<=7->L.length<=7->Stt b p a (n+2)->Kpa p a H b->Q (.ref f) b
def Lf (_:W.Frag):Sp:=λe H Q _=>∃ (p a l:Addr) (c:c_) (L:cP) (n:Int),e=[.ref p,.ref l]/\Stt H p a n/\n<=80000/\H l=some (.lst c)/\Pts H c L/\(∀ q∈L,q.1<=3)/\L.length<=7/\l≠p/\l≠a/\∀ (t:Addr) (T B:cV) (d:Int) (b:Hp),FF b t T B->Rp 24 3 4 T B->d<=n+20->Stt b p a d->Kpa p a H b->Q (.ref t) b
def J6 (_:W.Frag):Sp:=λa H Q _=>∃ (p:Addr) (x y:Int),a=[.ref p]/\Nm H p x y/\Q (.bl true) H
def Ib (_:W.Frag):Sp:=λb H Q _=>∃ (p:Addr) (l:cV),b=[.ref p]/\Pl H p l/\l.length<=100/\∀ a,Same H a->Q (.bl true) a
def Lh (_:W.Frag):Sp:=λb H Q _=>∃ (p:Addr) (T B:cV),b=[.ref p]/\FF H p T B/\T.length<=100/\B.length<=100/\∀ a,Same H a->Q (.bl true) a
def Li (_:W.Frag):Sp:=λc H Q _=>∃ (p:Addr) (b:c_) (L:cO),c=[.ref p]/\H p=some (.lst b)/\Lgs H b L/\LgO L/\Pz 1 L/\L.length<=7/\∀ (r:Addr) (M:cO) (a:Hp),Same H a->Lg a r M->Sr.Can (Sr.W (lv L)) (lv M)->Q (.ref r) a
def Lj (_:W.Frag):Sp:=λc H Q _=>∃ (p:Addr) (b:c_) (L:cO),c=[.ref p]/\H p=some (.lst b)/\Lgs H b L/\LgO L/\Pz 0 L/\L.length<=15/\∀ (r:Addr) (M:cO) (a:Hp),Same H a->Lg a r M->Sr.Can (Sr.W (lv L)) (lv M)->Q (.ref r) a
structure Pts2 (R:cX):Prop where
 pr:Sr.Pr R
 sz:SzP R
 na:∀ q∈R,Nb q.1
 len:R.length<=7
def Lk (_:W.Frag):Sp:=λb H Q _=>∃ (p:Addr) (M:cO),b=[.ref p]/\Lg H p M/\(∀ q∈M,q.2.length<=100)/\∀ a,Same H a->Q (.bl true) a
def RadOf (F L:Sr):Prop:=∃ S M:Sr,Sr.Pol S/\Sr.Pol L/\Sr.Pol M/\F=S*L/\Sr.D F=S*M/\Sr.Cs L M
noncomputable def Ey:Nat->List cU->Sr
 | _,[]=>1
 | i,p::ps=>sr p ^ i*Ey (i+1) ps
noncomputable def Be:List cU->Sr
 | []=>1
 | p::ps=>sr p*Be ps
structure Mo (p:cV):Prop where
 gq:Gq 148 148 p
 ne:p≠[]
 one:Aj p (p.length - 1)=(1,1)
 le:p.length<=9
structure Spt (l:cV) (ps:List cU):Prop where
 full:∃ c:Rat,c≠0/\sr l=Sr.num c*Ey 1 ps
 rad:∃ (c:Rat) (L:Sr),c≠0/\RadOf (sr l) L/\L=Sr.num c*Be ps
 each:∀ p∈ps,Mo p
 last:∀ p,ps.getLast?=some p->2<=p.length
 none:ps=[]->l.length<=1
 many:ps.length<=12
noncomputable def PLs (H:Hp):c_->List cU->Prop
 | [],[]=>True
 | v::b,p::ps=>(∃ a,v=.ref a/\Pl H a p)/\PLs H b ps
 | _,_=>False
def J7 (_:W.Frag):Sp:=λd H Q _=>∃ (p:Addr) (a:d8) (b:Nat),d=[.ref p]/\H p=some (.lst (a.map V.int))/\a.length<=100/\(∀ z∈a,Bd b z)/\b<=100000/\∀ (r:Addr) (c:Hp),Same H c->c r=some (.lst ((dI a).map V.int))->Q (.ref r) c
def J8 (_:W.Frag):Sp:=λb H Q _=>∃ (p:Addr) (a:d8),b=[.ref p]/\H p=some (.lst (a.map V.int))/\Lz a/\a.length<=1000/\GW H Q (I_ a)
def Lm (_:W.Frag):Sp:=λd H Q _=>∃ (p:Addr) (b:c_) (l:cV),d=[.ref p]/\H p=some (.tup b)/\Nums H b l/\Gq 40 40 l/\l≠[]/\l.length<=9/\
 ∀ (r:Addr) (c:c_) (ps:List cU) (a:Hp),Same H a->a r=some (.lst c)->PLs a c ps->Spt l ps->Q (.ref r) a
def Ln (_:W.Frag):Sp:=λf H Q _=>∃ (l c w:Addr) (M:cO) (q:Nu) (v:cV) (R:cX) (d:Rat),f=[.ref l,.ref c,.ref w]/\Lg H l M/\Sr.Can (Sr.wa R) (lv M)/\Pts2 R/\Nm H c q.1 q.2/\Low q.1 q.2/\Nb (val q)/\Pl H w v/\Af v/\Nz v/\sr v=Sr.Pi (λ_ b=>decide (b=d)) R/\
 ∀ (r:Addr) (e:cO) (a:Hp),Same H a->Lg a r e->Sr.Can (Sr.wa (Sr.stpL d (val q) R)) (lv e)->Q (.ref r) a
def Fo (H:Hp) (o:Addr) (T B:cV) (M:cO):Prop:=∃ f l,H o=some (.tup [.ref f,.ref l])/\FF H f T B/\Lg H l M
def Lo (_:W.Frag):Sp:=λb H Q _=>∃ (p:Addr) (T B:cV) (M:cO),b=[.ref p]/\Fo H p T B M/\T.length<=100/\B.length<=100/\(∀ q∈M,q.2.length<=100)/\∀ a,Same H a->Q (.bl true) a
def Lq (_:W.Frag):Sp:=λa H Q _=>∃ (p:Addr) (x y:Int),a=[.ref p]/\Nm H p x y/\∀ r:Addr,H r=none->Q (.ref r) (upd H r (.tup [.int (if x<0 then -x else x),.int y]))
noncomputable def Bv:List (Sr×Nat)->Sr
 | []=>1
 | (f,e)::a=>f ^ e*Bv a
structure LO (L:cP):Prop where
 pool:∀ q∈L,q∈poolN/\Pt q.1 q.2
 nd:(L.map λq=>q.2).Nodup
 sm7:sm L<=7
 len:L.length<=7
noncomputable def pt (L:cP) (i:Nat):Nat×cV:=L.getD i (0,[])
noncomputable def RI (L:cP) (A a:dF):cX:=(List.range L.length).map λi=>(A i,a i,sr (pt L i).2)
noncomputable def UL (L:cP) (a:Nat->Nat):List (Sr×Nat):=(List.range L.length).map λi=>(sr (pt L i).2,a i)
noncomputable abbrev BH:=Nu×(Nat->Nat)×cV×Nu
structure GR (L:cP) (r:BH):Prop where
 c:Sn r.1
 m4:∀ i,r.2.1 i<=4
 h:Sn r.2.2.2
 h0:r.2.2.2.1≠0
 g:Gq 40 40 r.2.2.1
 ln:r.2.2.1.length<=9
 eq:sr r.2.2.1=Sr.num (val r.2.2.2)*Bv (UL L r.2.1)
 last:r.2.2.1.getLast?=some r.2.2.2
noncomputable def ac (a:List BH) (i:Nat):Rat:=a.foldl (λs r=>s+val r.1*((r.2.1 i:Nat):Rat)) 0
noncomputable def az (x:Int):Int:=if x<0 then -x else x
noncomputable def Hds (H:Hp):c_->List BH->Prop
 | [],[]=>True
 | v::a,r::R=>(∃ t c w,v=.ref t/\H t=some (.tup [.ref c,.ref w])/\Nm H c r.1.1 r.1.2/\Nm H w (az r.2.2.2.1) r.2.2.2.2)/\Hds H a R
 | _,_=>False
def Lr (_:W.Frag):Sp:=λf H Q _=>∃ (v:V) (g:Addr) (c:c_) (a:List BH) (L:cP),f=[v,.ref g]/\H g=some (.lst c)/\Lgs H c (a.map λr=>(r.1,r.2.2.1))/\(∀ r∈a,GR L r)/\a.length<=4/\LO L/\
 ∀ (r o l d:Addr) (e:c_) (M:cO) (b:Hp),Same H b->b r=some (.tup [.ref o,.ref d])->b o=some (.tup [v,.ref l])->Lg b l M->Sr.Can (Sr.wa (RI L (ac a) λ_=>0)) (lv M)->b d=some (.tup e)->Hds b e a->Q (.ref r) b
noncomputable def U_ (n:Nat) (a:Nat->Nat):c_:=(List.range n).map λi=>V.int ((a i:Nat):Int)
def Rwt (H:Hp) (n:Nat) (t m:Addr) (r:BH):Prop:=∃ c P h,H t=some (.tup [.ref c,.ref P,.ref m,.ref h])/\Nm H c r.1.1 r.1.2/\Pl H P r.2.2.1/\H m=some (.lst (U_ n r.2.1))/\Nm H h (az r.2.2.2.1) r.2.2.2.2
def Ls (_:W.Frag):Sp:=λe H Q _=>∃ (p a g:Addr) (c:c_) (L:cP) (n:Int),e=[.ref p,.ref g]/\Stt H p a n/\n<=80000/\H g=some (.lst c)/\Pts H c L/\LO L/\g≠p/\g≠a/\
 ∀ (t m:Addr) (r:BH) (d:Int) (b:Hp),H m=none->Rwt b L.length t m r->GR L r->d<=n+20->Stt b p a d->Kpa p a H b->Q (.ref t) b
def Lu (_:W.Frag):Sp:=λe H Q _=>∃ (p a f g:Addr) (b:c_) (L:cP) (T B:cV) (n:Int),e=[.ref p,.ref f,.ref g]/\Stt H p a n/\n<=70000/\FF H f T B/\T.length<=100/\B.length<=100/\H g=some (.lst b)/\Pts H b L/\LO L/\g≠p/\g≠a/\
 ∀ (c:Int) (d:Hp),c<=n+200->Stt d p a c->Q (.bl true) d
section
variable (K:W.Frag)
set_option linter.unusedVariables false
def Pp (_:W.Frag):TS:=
 (AG (DW (Aq (A_ ae (AA 1) (tC (.int 0)))) (AG (AM (A_ Ni (AA 0) (AA 1)) (AE 2))
  (AG (AM (AA 1) (AE 0))
  (AM (AA 2) (AE 1)))))
  (AU (G' GO (AB (AA 0) AC))))
def Pq (_:W.Frag):TS:=
 (AG (AM (tC (.int 1)) (AE 2))
  (AG (AM (AA 0) (AE 3))
  (AG (DW (Aq (A_ aE (AA 1) (tC (.int 0)))) (AG (BM (Aq (A_ Y_ (A_ C8 (AA 1) (tC (.int 2))) (tC (.int 1)))) (Ei 2 (AA 3) BS) BQ)
  (AG (Ei 1 (tC (.int 2)) IA)
  (BM (Aq (A_ aE (AA 1) (tC (.int 0)))) (Ei 3 (AA 3) BS) BQ))))
  (AU (AA 2)))))
def Ps:TS:=
 (AG (AM (AK (Ew K) [] E0 (AB (Kr (FK (Bh K (AA 0)) [none] (AE 0) (Aq (A_ ae (AA 0) (tC (.int 0)))) (G' GO (AB (AA 0) AC)))) (AB (AA 1) AC))) (AE 2))
  (AG (BR (Bh K (AA 0)) (AE 3) (AG (BM (Aq (A_ Y_ (AA 2) (tC (.int 1)))) (AU (tC (.int 1))) BQ)
  (AM (AK (Ew K) [] E0 (AB (AA 3) (AB (AA 2) AC))) (AE 2))))
  (AU (AA 2))))
def Px (_:W.Frag):TS:=
 (AG (AM (G' Bj (AB (AA 0) AC)) (AE 1))
  (AG (DW (Dl (Aq (A_ aE (AA 1) (tC (.int 0)))) (Aq (A_ Y_ (A_ gL (AA 0) (A_ Bz (AA 1) (tC (.int 1)))) (tC (.int 0))))) (Ei 1 (tC (.int 1)) Bz))
  (AU (aM sL (AA 0) FH (FI (AA 1))))))
def QA:TS:=
 (AU (BU (Bh K (AA 0)) [none,some 1] (AE 0) (A_ Fk (AA 0) (AA 1))))
def QB:TS:=
 (AG (BM (aq (DJ (Er (AA 0))) (DJ (Er (AA 1)))) (AU (BF AC)) BQ)
  (AG (AM (A_ GN (BF (AB (tC (.int 0)) AC)) (A_ Bz (A_ CJ (G' Bj (AB (AA 0) AC)) (G' Bj (AB (AA 1) AC))) (tC (.int 1)))) (AE 2))
  (AG (BR (G7 K (AB (AA 0) AC)) (Ch 2 (A8 (AE 3) (A8 (AE 4) Cg))) (BM (Aq (A_ ae (AA 4) (tC (.int 0)))) (BR (G7 K (AB (AA 1) AC)) (Ch 2 (A8 (AE 5) (A8 (AE 6) Cg))) (Gx (AA 2) (A_ CJ (AA 3) (AA 5)) (A_ BS (AA 4) (AA 6)) gL CJ D1)) BQ))
  (AU (AA 2)))))
def QC (_:W.Frag):TS:=
 (AU (BU (JC (AB (tC (.int 1)) (AB (G' Bj (AB (AA 0) AC)) AC))) [none,some 0] (AE 0) (A_ BS (AA 0) (A_ gL (AA 1) (AA 0)))))
def QD (_:W.Frag):TS:=
 (BM (Aq (A_ ae (AA 6) (tC (.int 0)))) (BR (DX (AB (AA 3) AC)) (AE 7) (Gx (AA 2) (A_ CJ (AA 5) (AA 7)) (A_ BS (AA 6) (A_ gL (AA 1) (AA 7))) gL Bz D1)) BQ)
def Z3:TS:=
 (AG (AM (AA 6) (Do (AA 4) (AA 5) D1))
  (QD K))
def QE:TS:=
 (AG (BM (Aq (A_ ae (A_ BS (AA 6) (A_ gL (AA 1) (Q_ BW (tC (.int 1))))) (A_ gL (AA 2) (A_ CJ (AA 5) (AA 3))))) (AU (tC .non)) BQ)
  (Z3 K))
def Z4:TS:=
 (AG (AM (A_ EN (A_ gL (AA 2) (A_ CJ (AA 5) (AA 3))) (A_ gL (AA 1) (Q_ BW (tC (.int 1))))) (AE 6))
  (QE K))
def Z5 (_:W.Frag):TS:=
 (AU (bh (tB (G' Ks (AB (aM sL (AA 2) FH (FI (AA 3))) AC))) (tC .non) (AA 4)))
def Z6:TS:=
 (AG (BR (IH (AB (A_ Bz (A_ Bz (G' Bj (AB (AA 0) AC)) (AA 3)) (tC (.int 1))) (AB (Q_ BW (tC (.int 1))) (AB (Q_ BW (tC (.int 1))) AC)))) (AE 5) (Z4 K))
  (Z5 K))
def QF:TS:=
 (AG (AM (A_ GN (BF (AB (tC (.int 0)) AC)) (G' IB (AB (A_ Bz (G' Bj (AB (AA 0) AC)) (AA 3)) (AB (tC (.int 0)) AC)))) (AE 4))
  (Z6 K))
def Z7:TS:=
 (AG (AM (A_ Bz (G' Bj (AB (AA 1) AC)) (tC (.int 1))) (AE 3))
  (QF K))
def Z8:TS:=
 (AG (AM (G' JN (AB (AA 0) AC)) (AE 2))
  (Z7 K))
def QG:TS:=
 (AG (AM (BU (Bh K (AA 0)) [none,some 1] (AE 0) (A_ BS (AA 1) (AA 0))) (AE 5))
  (AG (Dy (ag K "list" Kf (AA 5) (AB (A_ GN (BF (AB (tC (.int 0)) AC)) (A_ Bz (A_ CJ (G' Bj (AB (AA 2) AC)) (AA 4)) (G' Bj (AB (AA 0) AC)))) AC)))
  (AG (BR (G7 K (AB (AA 2) AC)) (Ch 2 (A8 (AE 6) (A8 (AE 7) Cg))) (Gx (AA 5) (A_ CJ (AA 6) (AA 4)) (A_ BS (AA 3) (AA 7)) gL Bz D1))
  (AU (AK (HK K) [] E0 (AB (AA 5) AC))))))
def Z9:TS:=
 (AM (BU (Kq K (AB (AA 0) (AB (AA 1) AC))) [none,none,some 6,some 7,some 2] (Ch 2 (A8 (AE 0) (A8 (AE 1) Cg))) (AK (IV K) [] E0 (AB (AA 0) (AB (AA 2) (AB (AA 1) (AB (AA 3) (AB (AA 4) AC))))))) (AE 0))
def zA:TS:=
 (AG (AM (A_ EN (AA 3) (AA 5)) (AE 7))
  (Z9 K))
def zB:TS:=
 (AG (AM (A_ EN (AA 4) (AA 5)) (AE 6))
  (zA K))
def zC:TS:=
 (AG (AM (AK (Ew K) [] E0 (AB (AA 3) (AB (AA 4) AC))) (AE 5))
  (zB K))
def zD:TS:=
 (AG (AM (A_ gL (A_ gL (AA 1) (tC (.int 0))) (Q_ BW (tC (.int 1)))) (AE 4))
  (zC K))
def zE:TS:=
 (AG (AM (A_ gL (A_ gL (AA 0) (tC (.int 0))) (Q_ BW (tC (.int 1)))) (AE 3))
  (zD K))
def zG:TS:=
 (AG (AM (A_ Bz (G' Bj (AB (A_ gL (AA 0) (tC (.int 0))) AC)) (G' Bj (AB (A_ gL (AA 1) (tC (.int 0))) AC))) (AE 2))
  (zE K))
def QH:TS:=
 (AU (AK (IW K) [] E0 (AB (AA 0) AC)))
def QJ:TS:=
 (AG (DW (Aq (A_ cG (G' Bj (AB (A_ gL (AA 0) (tC (.int 0))) AC)) (G' Bj (AB (A_ gL (AA 1) (tC (.int 0))) AC)))) (zG K))
  (QH K))
def QK:TS:=
 (AG (AM (tC (.int 0)) (AE 1))
  (AG (BR (Bh K (AA 0)) (AE 2) (AM (AK (IT K) [] E0 (AB (AA 2) (AB (AA 1) AC))) (AE 1)))
  (AU (BU (Bh K (AA 0)) [none,some 1] (AE 0) (AK (IU K) [] E0 (AB (AA 0) (AB (AA 1) AC)))))))
def QL:TS:=
 (AU (A_ gL (AK (IW K) [] E0 (AB (BF (AB (AA 0) AC)) AC)) (tC (.int 0))))
def QM:TS:=
 (AG (DW (Er (A_ gL (AA 1) (tC (.int 0)))) (AG (BM (Aq (A_ Y_ (G' Bj (AB (A_ gL (AA 1) (tC (.int 0))) AC)) (tC (.int 1)))) (AU (AA 1)) BQ)
  (AG (AM (AK (Jq K) [] E0 (AB (AA 0) (AB (AA 1) AC))) (AE 2))
  (AG (AM (AA 1) (AE 0))
  (AM (AA 2) (AE 1))))))
  (AU (AA 0)))
def QN (_:W.Frag):TS:=
 (AM (AA 7) (AE 5))
def QO:TS:=
 (AG (AM (AA 5) (AE 4))
  (QN K))
def QP:TS:=
 (AG (AM (A_ Bz (AA 4) (A_ BS (AA 6) (AA 5))) (AE 7))
  (QO K))
def QQ:TS:=
 (AG (AM (AA 7) (AE 3))
  (QP K))
def QR:TS:=
 (AG (AM (AA 3) (AE 2))
  (QQ K))
def QS:TS:=
 (AG (AM (A_ Bz (AA 2) (A_ BS (AA 6) (AA 3))) (AE 7))
  (QR K))
def QT:TS:=
 (AG (AM (A_ Fk (AA 2) (AA 3)) (AE 6))
  (QS K))
def QU (_:W.Frag):TS:=
 (AU (A_ C8 (AA 4) (AA 1)))
def QV:TS:=
 (AG (DW (Aq (A_ ae (AA 3) (tC (.int 0)))) (QT K))
  (QU K))
def QW:TS:=
 (AG (AM (tC (.int 1)) (AE 5))
  (QV K))
def QX:TS:=
 (AG (AM (tC (.int 0)) (AE 4))
  (QW K))
def QY:TS:=
 (AG (AM (A_ C8 (AA 0) (AA 1)) (AE 3))
  (QX K))
def QZ:TS:=
 (AG (AM (AA 1) (AE 2))
  (QY K))
def Qa:TS:=
 (AU (BU (Bh K (AA 0)) [none,some 1] (AE 0) (A_ C8 (AA 0) (AA 1))))
def Qb:TS:=
 (AU (AK (HK K) [] E0 (AB (AK (Js K) [] E0 (AB (AA 0) (AB (AA 1) AC))) AC)))
def Qc:TS:=
 (AG (BM (DJ (Er (AA 0))) (AU (BF AC)) BQ)
  (AG (AM (AK (Jr K) [] E0 (AB (A_ gL (AA 0) (Q_ BW (tC (.int 1)))) (AB (AA 1) AC))) (AE 2))
  (AU (BU (Bh K (AA 0)) [none,some 1,some 2] (AE 0) (A_ C8 (A_ BS (AA 0) (AA 2)) (AA 1))))))
def Qd (_:W.Frag):TS:=
 (BM (Aq (A_ ae (AA 7) (tC (.int 0)))) (BR (DX (AB (AA 4) AC)) (AE 8) (Gx (AA 3) (A_ CJ (AA 6) (AA 8)) (A_ BS (AA 7) (A_ gL (AA 1) (AA 8))) gL Bz D1)) BQ)
def Qe:TS:=
 (AG (AM (AA 7) (Do (AA 5) (AA 6) D1))
  (Qd K))
def zH:TS:=
 (AG (AM (A_ C8 (A_ gL (AA 3) (A_ CJ (AA 6) (AA 4))) (AA 2)) (AE 7))
  (Qe K))
def Qf:TS:=
 (AU (Ar (AB (AK (HK K) [] E0 (AB (AA 5) AC)) (AB (AK (HL K) [] E0 (AB (aM sL (AA 3) FH (FI (AA 4))) (AB (AA 2) AC))) AC))))
def zI:TS:=
 (AG (BR (IH (AB (A_ Bz (A_ Bz (G' Bj (AB (AA 0) AC)) (AA 4)) (tC (.int 1))) (AB (Q_ BW (tC (.int 1))) (AB (Q_ BW (tC (.int 1))) AC)))) (AE 6) (zH K))
  (Qf K))
def Qg:TS:=
 (AG (AM (A_ GN (BF (AB (tC (.int 0)) AC)) (G' IB (AB (A_ Bz (G' Bj (AB (AA 0) AC)) (AA 4)) (AB (tC (.int 0)) AC)))) (AE 5))
  (zI K))
def zJ:TS:=
 (AG (AM (A_ Bz (G' Bj (AB (AA 1) AC)) (tC (.int 1))) (AE 4))
  (Qg K))
def zK:TS:=
 (AG (AM (G' JN (AB (AA 0) AC)) (AE 3))
  (zJ K))
def Qh:TS:=
 (AU (A_ gT (AK (Jt K) [] E0 (AB (AA 0) (AB (AA 1) (AB (AA 2) AC)))) (tC (.int 1))))
def Qi:TS:=
 (AG (AM (AK (HM K) [] E0 (AB (AK (HL K) [] E0 (AB (AA 0) (AB (AA 2) AC))) (AB (AA 2) AC))) (AE 0))
  (AG (AM (AK (HM K) [] E0 (AB (AK (HL K) [] E0 (AB (AA 1) (AB (AA 2) AC))) (AB (AA 2) AC))) (AE 1))
  (AG (DW (Er (AA 1)) (AG (AM (AK (Ju K) [] E0 (AB (AA 0) (AB (AA 1) (AB (AA 2) AC)))) (AE 3))
  (AG (AM (AA 1) (AE 0))
  (AM (AK (HM K) [] E0 (AB (AA 3) (AB (AA 2) AC))) (AE 1)))))
  (AU (AA 0)))))
def Qj (_:W.Frag):TS:=
 (AG (AM (A_ C8 (AA 0) (AA 1)) (AE 2))
  (AU (bh (Aq (A_ aE (A_ BS (tC (.int 2)) (AA 2)) (AA 1))) (A_ Bz (AA 2) (AA 1)) (AA 2))))
def Qk:TS:=
 (AG (AM (AK (Ew K) [] E0 (AB (A_ gL (AA 0) (Q_ BW (tC (.int 1)))) (AB (A_ gL (AA 1) (Q_ BW (tC (.int 1)))) AC))) (AE 3))
  (AG (BM (Aq (A_ Y_ (A_ C8 (AA 3) (AA 2)) (tC (.int 0)))) (AU (tC .non)) BQ)
  (AG (AM (AK (Jv K) [] E0 (AB (AA 0) (AB (AA 1) (AB (AA 2) AC)))) (AE 4))
  (AG (AM (AK (GZ K) [] E0 (AB (BU (Bh K (AA 4)) [none,some 2,some 3] (AE 0) (AK (Jw K) [] E0 (AB (A_ BS (AA 2) (AA 0)) (AB (AA 1) AC)))) AC)) (AE 5))
  (AG (BM (aq (Aq (A_ Ko (AK (Fv K) [] E0 (AB (AA 0) (AB (AA 5) AC))) (tC .non))) (Aq (A_ Ko (AK (Fv K) [] E0 (AB (AA 1) (AB (AA 5) AC))) (tC .non)))) (AU (tC .non)) BQ)
  (AU (AA 5)))))))
def Ql:TS:=
 (AG (AM (AK (GZ K) [] E0 (AB (AA 0) AC)) (AE 2))
  (AG (AM (AK (GZ K) [] E0 (AB (AA 1) AC)) (AE 3))
  (AG (BM (Dl (Er (AA 0)) (Er (AA 1))) (BR (Dp K (tC (.ref (GY K)))) (AE 4) (AG (AM (AK (Jx K) [] E0 (AB (AA 2) (AB (AA 3) (AB (A_ Bz (AK (Jp K) [] E0 (AB (tC (.int 2)) (AB (AA 4) AC))) (tC (.int 1))) AC)))) (AE 5))
  (BM (Aq (A_ N8 (AA 5) (tC .non))) (AU (AA 5)) BQ))) BQ)
  (AU (A_ gL (AK (IX K) [] E0 (AB (BF (AB (AA 2) AC)) (AB (BF (AB (AA 3) AC)) AC))) (tC (.int 0)))))))
def Qm:TS:=
 (AG (AM (AK (Ew K) [] E0 (AB (AA 0) (AB (AA 1) AC))) (AE 2))
  (AG (BM (Aq (A_ aY (AA 1) (tC (.int 0)))) (AM (Q_ BW (AA 2)) (AE 2)) BQ)
  (AU (Ar (AB (A_ EN (AA 0) (AA 2)) (AB (A_ EN (AA 1) (AA 2)) AC))))))
def Qn:TS:=
 (AU (AK (Ex K) [] E0 (AB (A_ CJ (A_ BS (A_ gT (AA 0) (tC (.int 0))) (A_ gT (AA 1) (tC (.int 1)))) (A_ BS (A_ gT (AA 1) (tC (.int 0))) (A_ gT (AA 0) (tC (.int 1))))) (AB (A_ BS (A_ gT (AA 0) (tC (.int 1))) (A_ gT (AA 1) (tC (.int 1)))) AC))))
def Qo:TS:=
 (AU (AK (Ex K) [] E0 (AB (A_ BS (A_ gT (AA 0) (tC (.int 0))) (A_ gT (AA 1) (tC (.int 0)))) (AB (A_ BS (A_ gT (AA 0) (tC (.int 1))) (A_ gT (AA 1) (tC (.int 1)))) AC))))
def Qp:TS:=
 (AU (AK (Ex K) [] E0 (AB (A_ BS (A_ gT (AA 0) (tC (.int 0))) (A_ gT (AA 1) (tC (.int 1)))) (AB (A_ BS (A_ gT (AA 0) (tC (.int 1))) (A_ gT (AA 1) (tC (.int 0)))) AC))))
def zM (_:W.Frag):TS:=
 (AU (A_ aY (A_ BS (A_ gT (AA 0) (tC (.int 0))) (A_ gT (AA 1) (tC (.int 1)))) (A_ BS (A_ gT (AA 1) (tC (.int 0))) (A_ gT (AA 0) (tC (.int 1))))))
def zO (_:W.Frag):TS:=
 (AU (Ar (AB (G' GO (AB (A_ gT (AA 0) (tC (.int 0))) AC)) (AB (A_ gT (AA 0) (tC (.int 1))) AC))))
def Qq (_:W.Frag):TS:=
 (AG (AM (G' Bj (AB (AA 0) AC)) (AE 1))
  (AG (DW (Dl (Aq (A_ aE (AA 1) (tC (.int 0)))) (Aq (A_ Y_ (A_ gT (A_ gL (AA 0) (A_ Bz (AA 1) (tC (.int 1)))) (tC (.int 0))) (tC (.int 0))))) (Ei 1 (tC (.int 1)) Bz))
  (AU (G' Fh (AB (aM sL (AA 0) FH (FI (AA 1))) AC)))))
def zP (_:W.Frag):TS:=
 (AU (A_ Bz (G' D3 (AB (AA 0) AC)) (tC (.int 1))))
def zQ:TS:=
 (AG (AM (tC (.int 1)) (AE 1))
  (AG (BR (IK K (AA 0)) (AE 2) (Ei 1 (A_ Fk (A_ gT (AA 2) (tC (.int 1))) (AK (Ew K) [] E0 (AB (AA 1) (AB (A_ gT (AA 2) (tC (.int 1))) AC)))) BS))
  (AU (Ar (AB (BU (IK K (AA 0)) [none,some 1] (AE 0) (A_ BS (A_ gT (AA 0) (tC (.int 0))) (A_ Fk (AA 1) (A_ gT (AA 0) (tC (.int 1)))))) (AB (AA 1) AC))))))
def Qs:TS:=
 (AU (AK (Ga K) [] E0 (AB (BU (Bh K (AA 0)) [none,some 1] (AE 0) (AK (Ex K) [] E0 (AB (AA 0) (AB (AA 1) AC)))) AC)))
def Qt:TS:=
 (AG (AM (AK (ET K) [] E0 (AB (AA 0) AC)) (AE 2))
  (AG (AM (AK (ET K) [] E0 (AB (AA 1) AC)) (AE 3))
  (AU (AK (Gb K) [] E0 (AB (AK (J0 K) [] E0 (AB (A_ gT (AA 2) (tC (.int 0))) (AB (A_ gT (AA 3) (tC (.int 0))) AC))) (AB (A_ BS (A_ gT (AA 2) (tC (.int 1))) (A_ gT (AA 3) (tC (.int 1)))) AC))))))
def Qu:TS:=
 (AU (AK (Ga K) [] E0 (AB (BU (Dp K (AA 0)) [none,some 1] (AE 0) (AK (IZ K) [] E0 (AB (AA 0) (AB (AA 1) AC)))) AC)))
def zR (_:W.Frag):TS:=
 (Ei 5 (AA 10) Fk)
def zS:TS:=
 (AG (AM (AK (IU K) [] E0 (AB (AA 4) (AB (AA 10) AC))) (AE 4))
  (zR K))
def Qv:TS:=
 (AG (AM (AK (IT K) [] E0 (AB (AA 4) (AB (AA 5) AC))) (AE 10))
  (zS K))
def zT:TS:=
 (AG (Ei 5 (A_ EN (AA 6) (AA 9)) BS)
  (Qv K))
def Qw:TS:=
 (AG (AM (AK (IV K) [] E0 (AB (AA 4) (AB (A_ EN (AA 6) (AA 9)) (AB (A_ gT (AA 3) (tC (.int 0))) (AB (A_ EN (A_ gL (AA 4) (Q_ BW (tC (.int 1)))) (AA 9)) (AB (AA 8) AC)))))) (AE 4))
  (zT K))
def zU:TS:=
 (AG (AM (AK (Ew K) [] E0 (AB (A_ gL (AA 4) (Q_ BW (tC (.int 1)))) (AB (AA 6) AC))) (AE 9))
  (Qw K))
def Qx:TS:=
 (AG (AM (AK (Ex K) [] E0 (AB (A_ BS (A_ gL (AA 4) (Q_ BW (tC (.int 1)))) (A_ gT (AA 3) (tC (.int 1)))) (AB (A_ BS (AA 5) (AA 6)) AC))) (Do (AA 7) (AA 8) D1))
  (zU K))
def zV:TS:=
 (AG (AM (A_ Bz (G' Bj (AB (AA 4) AC)) (G' D3 (AB (AA 1) AC))) (AE 8))
  (Qx K))
def Qy:TS:=
 (AU (Ar (AB (AK (Ga K) [] E0 (AB (AA 7) AC)) (AB (AK (Gb K) [] E0 (AB (AA 4) (AB (AA 5) AC))) AC))))
def zW:TS:=
 (AG (DW (Aq (A_ cG (G' Bj (AB (AA 4) AC)) (G' D3 (AB (AA 1) AC)))) (zV K))
  (Qy K))
def zX:TS:=
 (AG (AM (A_ GN (BF (AB (Ar (AB (tC (.int 0)) (AB (tC (.int 1)) AC))) AC)) (G' IB (AB (A_ CJ (A_ Bz (G' D3 (AB (AA 0) AC)) (G' D3 (AB (AA 1) AC))) (tC (.int 1))) (AB (tC (.int 0)) AC)))) (AE 7))
  (zW K))
def zY:TS:=
 (AG (AM (A_ gL (A_ gT (AA 3) (tC (.int 0))) (Q_ BW (tC (.int 1)))) (AE 6))
  (zX K))
def zZ:TS:=
 (AG (AM (A_ gT (AA 2) (tC (.int 1))) (AE 5))
  (zY K))
def yA:TS:=
 (AG (AM (A_ gT (AA 2) (tC (.int 0))) (AE 4))
  (zZ K))
def yB:TS:=
 (AG (AM (AK (ET K) [] E0 (AB (AA 1) AC)) (AE 3))
  (yA K))
def yC:TS:=
 (AG (AM (AK (ET K) [] E0 (AB (AA 0) AC)) (AE 2))
  (yB K))
def Qz:TS:=
 (AG (AM (AK (HN K) [] E0 (AB (A_ gT (AK (ET K) [] E0 (AB (AA 0) AC)) (tC (.int 0))) (AB (A_ gT (AK (ET K) [] E0 (AB (AA 1) AC)) (tC (.int 0))) AC))) (AE 2))
  (AU (bh (Er (AA 2)) (AK (Gb K) [] E0 (AB (AA 2) (AB (A_ gL (AA 2) (Q_ BW (tC (.int 1)))) AC))) (Ar AC))))
def Q0:TS:=
 (AG (AM (AK (IY K) [] E0 (AB (AA 0) (AB (AA 1) AC))) (AE 2))
  (AU (AK (J2 K) [] E0 (AB (AK (Gc K) [] E0 (AB (AA 0) (AB (AA 2) AC))) (AB (AK (Gc K) [] E0 (AB (AA 1) (AB (AA 2) AC))) AC)))))
def Q1:TS:=
 (AG (AM (AK (Jz K) [] E0 (AB (Ar (AB (tC (.int 1)) (AB (tC (.int 1)) AC))) (AB (A_ gT (AA 1) (Q_ BW (tC (.int 1)))) AC))) (AE 2))
  (AU (Ar (AB (AK (Ia K) [] E0 (AB (AA 0) (AB (AA 2) AC))) (AB (AK (Ia K) [] E0 (AB (AA 1) (AB (AA 2) AC))) AC)))))
def Q2:TS:=
 (AU (A_ gT (AK (Jy K) [] E0 (AB (AA 0) (AB (AA 1) AC))) (tC (.int 0))))
def Q3:TS:=
 (AM (AK (Fv K) [] E0 (AB (AA 2) (AB (AA 5) AC))) (AE 2))
def Q4:TS:=
 (AG (AM (AA 5) (AE 3))
  (Q3 K))
def Q5:TS:=
 (AG (Dy (ag K "list" FJ (AA 4) (AB (AK (J8 K) [] E0 (AB (AK (Fv K) [] E0 (AB (AA 3) (AB (AA 5) AC))) AC)) AC)))
  (Q4 K))
def Q6:TS:=
 (AG (AM (AK (HN K) [] E0 (AB (AA 3) (AB (AA 2) AC))) (AE 5))
  (Q5 K))
def Q7 (_:W.Frag):TS:=
 (AU (AA 4))
def Q8:TS:=
 (AG (DW (Aq (A_ aE (G' Bj (AB (AA 3) AC)) (tC (.int 1)))) (Q6 K))
  (Q7 K))
def Q9:TS:=
 (AG (AM (BF AC) (AE 4))
  (Q8 K))
def RA:TS:=
 (AG (AM (AK (Fv K) [] E0 (AB (AA 1) (AB (AA 2) AC))) (AE 3))
  (Q9 K))
def RD:TS:=
 (AG (AM (AK (HN K) [] E0 (AB (AA 1) (AB (AK (J7 K) [] E0 (AB (AA 1) AC)) AC))) (AE 2))
  (RA K))
def RE:TS:=
 (AG (AM (AK (GZ K) [] E0 (AB (A_ gT (AK (ET K) [] E0 (AB (AA 0) AC)) (tC (.int 0))) AC)) (AE 1))
  (RD K))
def RF:TS:=
 (AU (AK (Gb K) [] E0 (AB (AA 0) (AB (A_ gL (AA 0) (Q_ BW (tC (.int 1)))) AC))))
def RG (_:W.Frag):TS:=
 (AU (Ar (AB (Ar (AB (AA 0) (AB (AA 2) AC))) (AB (G' Fh (AB (AA 7) AC)) AC))))
def RH:TS:=
 (AG (AM (BU (Bh K (AA 1)) [none,none] (Ch 2 (A8 (AE 0) (A8 (AE 1) Cg))) (Ar (AB (AA 0) (AB (AK (Lq K) [] E0 (AB (A_ gT (AA 1) (Q_ BW (tC (.int 1)))) AC)) AC)))) (AE 7))
  (RG K))
def RJ:TS:=
 (AG (BR (Bh K (AA 1)) (Ch 2 (A8 (AE 3) (A8 (AE 4) Cg))) (BR (K6 K (AB (AK (Lm K) [] E0 (AB (AA 4) AC)) AC)) (Ch 2 (A8 (AE 5) (A8 (AE 6) Cg))) (AM (AK (Ln K) [] E0 (AB (AA 2) (AB (AK (IZ K) [] E0 (AB (AA 3) (AB (Ar (AB (AA 5) (AB (tC (.int 1)) AC))) AC))) (AB (AA 6) AC)))) (AE 2))))
  (RH K))
def yD:TS:=
 (AG (AM (Ar AC) (AE 2))
  (RJ K))
def RK:TS:=
 (Dy (ag K "list" FJ (AA 3) (AB (Ar (AB (AK (J1 K) [] E0 (AB (AA 5) (AB (AA 1) AC))) (AB (AA 7) AC))) AC)))
def RM:TS:=
 (AG (Dy (ag K "list" FJ (AA 3) (AB (Ar (AB (AA 5) (AB (AK (Gc K) [] E0 (AB (AA 6) (AB (AA 7) AC))) AC))) AC)))
  (RK K))
def yE:TS:=
 (AG (AM (AK (Gc K) [] E0 (AB (AA 4) (AB (AA 7) AC))) (AE 4))
  (RM K))
def RN:TS:=
 (AG (AM (AK (IY K) [] E0 (AB (AA 4) (AB (AA 6) AC))) (AE 7))
  (yE K))
def RP:TS:=
 (AU (AK (Lj K) [] E0 (AB (A_ G6 (AA 3) (BF (AB (Ar (AB (AA 1) (AB (AA 4) AC))) AC))) AC)))
def yF:TS:=
 (AG (BR (Dp K (AA 0)) (Ch 2 (A8 (AE 5) (A8 (AE 6) Cg))) (RN K))
  (RP K))
def RQ:TS:=
 (AG (AM (AA 2) (AE 4))
  (yF K))
def yG:TS:=
 (AG (AM (BF AC) (AE 3))
  (RQ K))
def RT:TS:=
 (AU (G' Fh (AB (BU (Bh K (OY (AB (AA 4) (AB (G' Kw (AB (AA 1) AC)) AC)))) [none,none,some 1] (Ch 2 (A8 (AE 0) (A8 (AE 1) Cg))) (Ar (AB (AA 1) (AB (A_ gDT (AA 2) (AA 1)) AC)))) AC)))
def RU:TS:=
 (AG (AM (A_ gT (AK (ET K) [] E0 (AB (G' Kw (AB (AA 1) AC)) AC)) (tC (.int 0))) (AE 4))
  (RT K))
def yH:TS:=
 (AG (BR (Bh K (AA 0)) (Ch 2 (A8 (AE 2) (A8 (AE 3) Cg))) (BM (Dl (Aq (A_ ae (A_ gT (AA 2) (tC (.int 0))) (tC (.int 0)))) (Aq (A_ aE (AK (Fx K) [] E0 (AB (AA 3) AC)) (tC (.int 0))))) (AM (AK (Fw K) [] E0 (AB (ag K "dict" Kz (AA 1) (AB (AA 2) (AB (Ar (AB (Ar (AB (tC (.int 1)) (AB (tC (.int 1)) AC))) AC)) AC))) (AB (AA 3) AC))) (Do (AA 1) (AA 2) JW)) BQ))
  (RU K))
def yI:TS:=
 (AG (AM ON (AE 1))
  (yH K))
def yJ (_:W.Frag):TS:=
 (AU (OC ["cells", "number", "digits", "at"] (AB (AA 3) (AB (AA 1) (AB (A_ Y_ (A_ C8 (AA 1) (tC (.int 2))) (tC (.int 0))) (AB (tC (.int 0)) AC))))))
def RV:TS:=
 (AG (AM (BU (Bh K (aM (sS K) (AA 0) FH (FI (tC (.int 63))))) [none] (AE 0) (G' GO (AB (AA 0) AC))) (AE 3))
  (yJ K))
def yK:TS:=
 (AG (BR (Bh K (aM (sS K) (AA 0) FH (FI (tC (.int 63))))) (AE 2) (AM (A_ C8 (A_ CJ (A_ CJ (A_ BS (AA 1) (tC (.int 48271))) (A_ C8 (AA 2) (tC (.int 2147483647)))) (tC (.int 7))) (tC (.int 2147483629))) (AE 1)))
  (RV K))
def yL:TS:=
 (AG (AM (tC (.int 11)) (AE 1))
  (yK K))
def yM (_:W.Frag):TS:=
 (AU (AA 2))
def yN:TS:=
 (AG (AM (G' OK (AB (A_ gL (A_ gD (AA 0) (tC (.str "cells"))) (tC (.int 0))) (AB (AA 1) AC))) (Ch 2 (A8 (Do (A_ gD (AA 0) (tC (.str "cells"))) (tC (.int 0)) D1) (A8 (AE 2) Cg))))
  (yM K))
def RW:TS:=
 (AG (BM (Aq (A_ Y_ (G' Bj (AB (A_ gD (AA 0) (tC (.str "cells"))) AC)) (tC (.int 0)))) (AU (tC (.int 0))) BQ)
  (yN K))
def yO:TS:=
 (AG (DW (Dl (Aq (A_ aE (G' Bj (AB (A_ gD (AA 0) (tC (.str "cells"))) AC)) (tC (.int 1)))) (Aq (A_ Y_ (A_ gL (A_ gD (AA 0) (tC (.str "cells"))) (tC (.int 0))) (tC (.int 0))))) (Dy (ag K "list" OM (A_ gD (AA 0) (tC (.str "cells"))) (AB (tC (.int 0)) AC))))
  (RW K))
def yP (_:W.Frag):TS:=
 (AU (A_ C8 (A_ IA (A_ gD (AA 0) (tC (.str "number"))) (tC (.int 97))) (AA 1)))
def yQ:TS:=
 (AG (AM (A_ CJ (A_ C8 (A_ BS (AA 3) (AA 3)) (tC (.int 2147483587))) (A_ gD (AA 0) (tC (.str "at")))) (Do (AA 0) (tC (.str "number")) Ku))
  (yP K))
def RX:TS:=
 (AG (AM (A_ C8 (A_ BS (A_ CJ (A_ gD (AA 0) (tC (.str "number"))) (A_ BS (tC (.int 7919)) (A_ gD (AA 0) (tC (.str "at"))))) (tC (.int 48271))) (tC (.int 2147483629))) (AE 3))
  (yQ K))
def yR:TS:=
 (AG (BM (tB (A_ gD (AA 0) (tC (.str "digits")))) (yO K) BQ)
  (RX K))
def yS:TS:=
 (AG (AM (A_ CJ (A_ gD (AA 0) (tC (.str "at"))) (tC (.int 1))) (Do (AA 0) (tC (.str "at")) Ku))
  (yR K))
def RY:TS:=
 (AU (AK (Ex K) [] E0 (AB (AA 1) (AB (A_ CJ (tC (.int 1)) (AK (Df K) [] E0 (AB (AA 0) (AB (tC (.int 3)) AC)))) AC))))
def yT:TS:=
 (AG (BM (Aq (A_ Y_ (AK (Df K) [] E0 (AB (AA 0) (AB (tC (.int 12)) AC))) (tC (.int 11)))) (AM (A_ BS (AA 1) (tC (.int 1009))) (AE 1)) BQ)
  (RY K))
def yU:TS:=
 (AG (AM (A_ Bz (AK (Df K) [] E0 (AB (AA 0) (AB (tC (.int 9)) AC))) (tC (.int 4))) (AE 1))
  (yT K))
def yV:TS:=
 (AG (AM (AK (HP K) [] E0 (AB (AA 0) AC)) (AE 1))
  (AG (BM (Aq (A_ bZ (AA 1) (Ar (AB (tC (.int 0)) (AB (tC (.int 1)) AC))))) (AU (Ar (AB (tC (.int 2)) (AB (tC (.int 1)) AC)))) BQ)
  (AU (AA 1))))
def yW:TS:=
 (AU (G' Fh (AB (BU (Bh K (AA 0)) [none] (AE 0) (Ar (AB (AA 0) (AB (tC (.int 1)) AC)))) AC)))
def yX (_:W.Frag):TS:=
 (AU (AA 3))
def RZ:TS:=
 (AG (AM (A_ G6 (AA 3) (BU (Dp K (Ar (AB (BF (AB (Q_ BW (tC (.int 2))) (AB (tC (.int 0)) (AB (tC (.int 0)) (AB (tC (.int 1)) AC))))) (AB (BF (AB (tC (.int 1)) (AB (tC (.int 1)) (AB (tC (.int 0)) (AB (tC (.int 1)) AC))))) (AB (BF (AB (Q_ BW (tC (.int 1))) (AB (Q_ BW (tC (.int 1))) (AB (tC (.int 0)) (AB (tC (.int 1)) AC))))) AC))))) [none] (AE 0) (AK (EU K) [] E0 (AB (AA 0) AC)))) (AE 3))
  (yX K))
def yY:TS:=
 (AG (AM (A_ G6 (AA 1) (BU (Bh K (AA 2)) [none] (AE 0) (AK (EU K) [] E0 (AB (AA 0) AC)))) (AE 3))
  (RZ K))
def yZ:TS:=
 (AG (AM (BF (AB (BF (AB (Q_ BW (tC (.int 2))) (AB (tC (.int 0)) (AB (tC (.int 1)) AC)))) (AB (BF (AB (tC (.int 1)) (AB (tC (.int 0)) (AB (tC (.int 1)) AC)))) (AB (BF (AB (tC (.int 1)) (AB (tC (.int 1)) (AB (tC (.int 1)) AC)))) (AB (BF (AB (Q_ BW (tC (.int 3))) (AB (tC (.int 0)) (AB (tC (.int 1)) AC)))) (AB (BF (AB (Q_ BW (tC (.int 1))) (AB (tC (.int 1)) (AB (tC (.int 1)) AC)))) (AB (BF (AB (tC (.int 2)) (AB (tC (.int 0)) (AB (tC (.int 1)) AC)))) (AB (BF (AB (Q_ BW (tC (.int 1))) (AB (tC (.int 2)) (AB (tC (.int 1)) AC)))) (AB (BF (AB (tC (.int 3)) (AB (tC (.int 1)) (AB (tC (.int 1)) AC)))) AC))))))))) (AE 2))
  (yY K))
def xA:TS:=
 (AG (AM (A_ G6 (BU (Dp K (Ar (AB (tC (.int 0)) (AB (tC (.int 1)) (AB (Q_ BW (tC (.int 1))) (AB (tC (.int 2)) (AB (Q_ BW (tC (.int 2))) (AB (tC (.int 3)) AC)))))))) [none] (AE 0) (AK (EU K) [] E0 (AB (BF (AB (Q_ BW (AA 0)) (AB (tC (.int 1)) AC))) AC))) (BF (AB (Ar (AB (Ar (AB (tC (.int 1)) (AB (tC (.int 2)) AC))) (AB (Ar (AB (tC (.int 1)) (AB (tC (.int 1)) AC))) AC))) (AB (Ar (AB (Ar (AB (Q_ BW (tC (.int 2))) (AB (tC (.int 3)) AC))) (AB (Ar (AB (tC (.int 1)) (AB (tC (.int 1)) AC))) AC))) AC)))) (AE 1))
  (yZ K))
def xB:TS:=
 (AM (A_ Bz (AA 5) (AK (Fx K) [] E0 (AB (A_ gL (AA 4) (Q_ BW (tC (.int 1)))) AC))) (AE 5))
def xC:TS:=
 (AG (Dy (ag K "list" FJ (AA 4) (AB (A_ gL (AA 7) (AK (Df K) [] E0 (AB (AA 0) (AB (G' Bj (AB (AA 7) AC)) AC)))) AC)))
  (xB K))
def xD:TS:=
 (BM (Aq (A_ aV (AA 7) (BF AC))) (xC K) BQ)
def xE:TS:=
 (AG (AM (FK (Bh K (AA 3)) [none,some 5,some 4] (AE 0) (Dl (Aq (A_ iLe (AK (Fx K) [] E0 (AB (AA 0) AC)) (AA 1))) (Aq (A_ (inD true) (AA 0) (AA 2)))) (AA 0)) (AE 7))
  (xD K))
def xF (_:W.Frag):TS:=
 (AU (AA 4))
def xG:TS:=
 (AG (BR (DX (AB (AA 1) AC)) (AE 6) (xE K))
  (xF K))
def xH:TS:=
 (AG (AM (AA 2) (AE 5))
  (xG K))
def xJ:TS:=
 (AG (AM (BF AC) (AE 4))
  (xH K))
def xK:TS:=
 (AG (AM (AK (J5 K) [] E0 (AB (AA 0) AC)) (AE 3))
  (xJ K))
def xL:TS:=
 (AU (BU (DX (AB (A_ CJ (tC (.int 6)) (AK (Df K) [] E0 (AB (AA 0) (AB (tC (.int 2)) AC)))) AC)) [none,some 1,some 2] (AE 0) (A_ gL (AA 1) (A_ C8 (A_ CJ (AA 2) (AA 0)) (tC (.int 8))))))
def xM:TS:=
 (AG (AM (AK (Df K) [] E0 (AB (AA 0) (AB (tC (.int 8)) AC))) (AE 2))
  (xL K))
def xN:TS:=
 (AG (AM (aM sL (AK (J5 K) [] E0 (AB (AA 0) AC)) FH (FI (tC (.int 8)))) (AE 1))
  (xM K))
def Lv:TS:=
 (BM (Dl (Aq (A_ aY (AA 4) (G' Bj (AB (AA 1) AC)))) (Aq (A_ bZ (A_ gT (A_ gL (AA 1) (AA 4)) (tC (.int 0))) (AA 2)))) (AM (Ar (AB (AA 2) (AB (AK (Fw K) [] E0 (AB (A_ gT (A_ gL (AA 1) (AA 4)) (tC (.int 1))) (AB (AA 3) AC))) AC))) (Do (AA 1) (AA 4) D1)) (BM (Aq (A_ aV (AA 2) (Ar (AB (tC (.int 0)) (AB (tC (.int 1)) AC))))) (Dy (ag K "list" Kv (AA 1) (AB (AA 4) (AB (Ar (AB (AA 2) (AB (AA 3) AC))) AC)))) BQ))
def xO:TS:=
 (AG (DW (Dl (Aq (A_ aY (AA 4) (G' Bj (AB (AA 1) AC)))) (tB (AK (Lc K) [] E0 (AB (A_ gT (A_ gL (AA 1) (AA 4)) (tC (.int 0))) (AB (AA 2) AC))))) (AM (A_ CJ (AA 4) (tC (.int 1))) (AE 4)))
  (Lv K))
def Ra:TS:=
 (AG (AM (tC (.int 0)) (AE 4))
  (xO K))
def Rb (_:W.Frag):TS:=
 (AU (G' Fh (AB (AA 1) AC)))
def Rc:TS:=
 (AG (BR (Bh K (AA 0)) (Ch 2 (A8 (AE 2) (A8 (AE 3) Cg))) (Ra K))
  (Rb K))
def xP:TS:=
 (AG (AM (BF AC) (AE 1))
  (Rc K))
def Re:TS:=
 (AU (AK (J3 K) [] E0 (AB (AK (Ga K) [] E0 (AB (AA 2) AC)) (AB (AA 3) AC))))
def Rf:TS:=
 (AG (BM (Aq (A_ Y_ (AA 4) (tC (.int 3)))) (AM (AK (EU K) [] E0 (AB (BF (AB (Q_ BW (tC (.int 3))) (AB (tC (.int 1)) AC))) AC)) (AE 3)) BQ)
  (Re K))
def Rg:TS:=
 (AG (BM (Aq (A_ Y_ (AA 4) (tC (.int 2)))) (AM (AK (Fw K) [] E0 (AB (AK (EU K) [] E0 (AB (BF (AB (tC (.int 1)) (AB (tC (.int 1)) AC))) AC)) (AB (AK (EU K) [] E0 (AB (BF (AB (tC (.int 1)) (AB (tC (.int 1)) AC))) AC)) AC))) (AE 3)) BQ)
  (Rf K))
def xQ:TS:=
 (AG (BM (Dl (Aq (A_ Y_ (AA 4) (tC (.int 1)))) (Aq (A_ aV (AA 1) (BF AC)))) (AM (A_ gL (AA 1) (tC (.int 0))) (AE 3)) BQ)
  (Rg K))
def xR:TS:=
 (AG (AM (AK (Df K) [] E0 (AB (AA 0) (AB (tC (.int 4)) AC))) (AE 4))
  (xQ K))
def xS:TS:=
 (AG (AM (Ar (AB (Ar (AB (tC (.int 1)) (AB (tC (.int 1)) AC))) AC)) (AE 3))
  (xR K))
def xT:TS:=
 (AG (AM (BU (DX (AB (A_ CJ (tC (.int 1)) (AK (Df K) [] E0 (AB (AA 0) (AB (tC (.int 3)) AC)))) AC)) [none,some 0] (AE 0) (AK (HP K) [] E0 (AB (AA 1) AC))) (AE 2))
  (xS K))
def xU:TS:=
 (AG (BM (aq (DJ (tB (G' D4 (AB (AA 0) (AB (tC (.ty "tuple")) AC))))) (Aq (A_ ae (G' D3 (AB (AA 0) AC)) (tC (.int 2))))) (AU (tC (.bl false))) BQ)
  (AG (BR (Dp K (AA 0)) (AE 1) (BM (aq (DJ (tB (G' D4 (AB (AA 1) (AB (tC (.ty "int")) AC))))) (tB (G' D4 (AB (AA 1) (AB (tC (.ty "bool")) AC))))) (AU (tC (.bl false))) BQ))
  (AU (tC (.bl true)))))
def xV:TS:=
 (AU (FA (G' D4 (AB (AA 0) (AB (tC (.ty "tuple")) AC))) (G' Nw (AB (BU (Dp K (AA 0)) [none] (AE 0) (AK (J6 K) [] E0 (AB (AA 0) AC))) AC))))
def xW:TS:=
 (AU (FA (G' D4 (AB (AA 0) (AB (tC (.ty "tuple")) AC))) (FA (A_ Y_ (G' D3 (AB (AA 0) AC)) (tC (.int 2))) (FA (AK (Ib K) [] E0 (AB (A_ gT (AA 0) (tC (.int 0))) AC)) (AK (Ib K) [] E0 (AB (A_ gT (AA 0) (tC (.int 1))) AC))))))
def xX:TS:=
 (AG (BM (DJ (tB (G' D4 (AB (AA 0) (AB (tC (.ty "tuple")) AC))))) (AU (tC (.bl false))) BQ)
  (AG (BR (Dp K (AA 0)) (AE 1) (BM (aq (DJ (tB (G' D4 (AB (AA 1) (AB (tC (.ty "tuple")) AC))))) (aq (Aq (A_ ae (G' D3 (AB (AA 1) AC)) (tC (.int 2)))) (aq (DJ (tB (AK (J6 K) [] E0 (AB (A_ gT (AA 1) (tC (.int 0))) AC)))) (DJ (tB (AK (Ib K) [] E0 (AB (A_ gT (AA 1) (tC (.int 1))) AC))))))) (AU (tC (.bl false))) BQ))
  (AU (tC (.bl true)))))
def xY:TS:=
 (AU (FA (G' D4 (AB (AA 0) (AB (tC (.ty "tuple")) AC))) (FA (A_ Y_ (G' D3 (AB (AA 0) AC)) (tC (.int 2))) (FA (AK (Lh K) [] E0 (AB (A_ gT (AA 0) (tC (.int 0))) AC)) (AK (Lk K) [] E0 (AB (A_ gT (AA 0) (tC (.int 1))) AC))))))
def Rh (_:W.Frag):TS:=
 (AM (A_ CJ (A_ gL (AA 4) (Q_ BW (tC (.int 1)))) (tC (.int 1))) (Do (AA 4) (Q_ BW (tC (.int 1))) D1))
def Ri:TS:=
 (AG (AM (AK (Fw K) [] E0 (AB (AA 3) (AB (AA 5) AC))) (AE 3))
  (Rh K))
def Rj:TS:=
 (BR (DX (AB (AK (Df K) [] E0 (AB (AA 0) (AB (tC (.int 5)) AC))) AC)) (AE 6) (BM (Aq (A_ aY (A_ CJ (AK (Fx K) [] E0 (AB (AA 3) AC)) (AK (Fx K) [] E0 (AB (AA 5) AC))) (tC (.int 9)))) (Ri K) BQ))
def Rk:TS:=
 (AG (Dy (ag K "list" FJ (AA 4) (AB (tC (.int 0)) AC)))
  (Rj K))
def Rl:TS:=
 (AU (Ar (AB (AK (HP K) [] E0 (AB (AA 0) AC)) (AB (AA 3) (AB (AA 4) (AB (Ar (AB (G' GO (AB (A_ gT (AA 2) (tC (.int 0))) AC)) (AB (A_ gT (AA 2) (tC (.int 1))) AC))) AC))))))
def Rm:TS:=
 (AG (BR (Bh K (AA 1)) (AE 5) (Rk K))
  (Rl K))
def Rn:TS:=
 (AG (AM (BF AC) (AE 4))
  (Rm K))
def Rq:TS:=
 (AG (AM (Ar (AB (AA 2) AC)) (AE 3))
  (Rn K))
def xZ:TS:=
 (AG (AM (AK (J4 K) [] E0 (AB (AA 0) AC)) (AE 2))
  (Rq K))
def Rr:TS:=
 (Dy (ag K "list" FJ (AA 4) (AB (Ar (AB (AA 6) (AB (A_ gL (AA 2) (AA 5)) AC))) AC)))
def Rs:TS:=
 (AG (BR (Bh K (AA 3)) (Ch 4 (A8 (AE 7) (A8 (AE 8) (A8 (AE 9) (A8 (AE 10) Cg))))) (AM (AK (J1 K) [] E0 (AB (AA 6) (AB (AK (IZ K) [] E0 (AB (AA 7) (AB (Ar (AB (A_ gL (AA 9) (AA 5)) (AB (tC (.int 1)) AC))) AC))) AC))) (AE 6)))
  (Rr K))
def Ru:TS:=
 (AG (AM (Ar (AB (tC (.int 0)) (AB (tC (.int 1)) AC))) (AE 6))
  (Rs K))
def Rv:TS:=
 (AU (A_ bZ (AA 12) (Ar (AB (Ar (AB (AA 1) (AB (AK (Li K) [] E0 (AB (AA 4) AC)) AC))) (AB (G' Fh (AB (BU (Bh K (AA 3)) [none,none,none,none] (Ch 4 (A8 (AE 0) (A8 (AE 1) (A8 (AE 2) (A8 (AE 3) Cg))))) (Ar (AB (AA 0) (AB (AA 3) AC)))) AC)) AC)))))
def Rw:TS:=
 (AG (BM (aq (DJ (tB (G' D4 (AB (AA 12) (AB (tC (.ty "tuple")) AC))))) (aq (Aq (A_ ae (G' D3 (AB (AA 12) AC)) (tC (.int 2)))) (aq (DJ (tB (AK (Lo K) [] E0 (AB (A_ gT (AA 12) (tC (.int 0))) AC)))) (DJ (tB (G' D4 (AB (A_ gT (AA 12) (tC (.int 1))) (AB (tC (.ty "tuple")) AC)))))))) (AU (tC (.bl false))) BQ)
  (Rv K))
def Rx:TS:=
 (AG (BM (Aq (A_ aV (AA 11) (BU (Bh K (AA 3)) [none,none,none,none] (Ch 4 (A8 (AE 0) (A8 (AE 1) (A8 (AE 2) (A8 (AE 3) Cg))))) (Ar (AB (AA 0) (AB (AA 1) AC)))))) (AU (tC (.bl false))) BQ)
  (Rw K))
def Ry:TS:=
 (AG (AM (AK (Lr K) [] E0 (AB (AA 1) (AB (AA 11) AC))) (AE 12))
  (Rx K))
def R3:TS:=
 (AG (AM (BU (Bh K (AA 3)) [none,none,none,none] (Ch 4 (A8 (AE 0) (A8 (AE 1) (A8 (AE 2) (A8 (AE 3) Cg))))) (Ar (AB (AA 0) (AB (AA 1) AC)))) (AE 11))
  (Ry K))
def R9:TS:=
 (AG (BR (DX (AB (G' Bj (AB (AA 2) AC)) AC)) (AE 5) (Ru K))
  (R3 K))
def SC:TS:=
 (AG (AM (BF AC) (AE 4))
  (R9 K))
def wA:TS:=
 (AG (AM (BU (DX (AB (AK (Df K) [] E0 (AB (AA 0) (AB (tC (.int 5)) AC))) AC)) [none,some 0,some 2] (AE 0) (AK (Ls K) [] E0 (AB (AA 1) (AB (AA 2) AC)))) (AE 3))
  (SC K))
def SE:TS:=
 (BM (DJ (tB (AK (Lu K) [] E0 (AB (AA 1) (AB (AK (Lf K) [] E0 (AB (AA 1) (AB (AA 3) AC))) (AB (AA 3) AC)))))) (AU (tC (.bl false))) BQ)
def SF:TS:=
 (AG (BM (Dl (Aq (A_ Y_ (AA 2) (tC (.int 0)))) (Aq (A_ Y_ (AK (Df K) [] E0 (AB (AA 1) (AB (tC (.int 8)) AC))) (tC (.int 7))))) (AM (AK (Le K) [] E0 (AB (AA 1) AC)) (AE 3)) BQ)
  (SE K))
def SG:TS:=
 (AG (AM (AK (Ld K) [] E0 (AB (AA 1) (AB (tC (.int 3)) (AB (tC (.int 4)) AC)))) (AE 3))
  (SF K))
def wB (_:W.Frag):TS:=
 (AU (tC (.bl true)))
def SH:TS:=
 (AG (BR (DX (AB (tC (.int 2)) AC)) (AE 2) (SG K))
  (wB K))
def wC:TS:=
 (AG (AM (AK (Lb K) [] E0 (AB (AA 0) AC)) (AE 1))
  (SH K))
end
def wD {K:W.Frag} {H:Hp} {Q:VK} {E:XK} {a:Int} {b:Int} (c:b≠0) (d:∀ (p:Addr),H p=none->Q (.ref p) (upd H p (.tup [.int (Ay a b).1,.int (Ay a b).2]))):Ex K [.int a,.int b] H Q E:=⟨a,b,rfl,c,d⟩
def EV {K:W.Frag} {H:Hp} {Q:VK} {E:XK} {p:Addr} {a:Addr} {m:Int} {n:Int} (c:Stt H p a n) (e:n<=100000) (f:1<=m) (g:m<=100) (h:∀ (d:Int) (b:Hp),0<=d->d<m->Stt b p a (n+1)->Kpa p a H b->Q (.int d) b):Df K [.ref p,.int m] H Q E:=⟨p,a,m,n,rfl,c,e,f,g,h⟩
def Lx {K:W.Frag} {H:Hp} {Q:VK} {E:XK} {p:Addr} {a:Addr} {n:Int} (c:Stt H p a n) (e:n<=90000) (f:∀ (r:Addr) (t d:Int) (b:Hp),Nm b r t d->Low t d->t.natAbs<=4036->d<=3->Stt b p a (n+3)->Kpa p a H b->Q (.ref r) b):HP K [.ref p] H Q E:=⟨p,a,n,rfl,c,e,f⟩
def wE {K:W.Frag} {H:Hp} {Q:VK} {E:XK} {p:Addr} {a:Addr} {n:Int} (c:Stt H p a n) (e:n<=90000) (f:∀ (r:Addr) (t d:Int) (b:Hp),Nm b r t d->Low t d->t≠0->t.natAbs<=4036->d<=3->Stt b p a (n+3)->Kpa p a H b->Q (.ref r) b):J4 K [.ref p] H Q E:=⟨p,a,n,rfl,c,e,f⟩
variable {K:W.Frag} {vs:c_} {H:Hp} {Q:VK} {E:XK}
local macro_rules | `(tactic| rwa [$[$t:term],*]) => do
 let l : Array Lean.Term := (("AG AM AK AB AA AC AE Do L2.start BM bh Aq L2.tB A_ Z_ rI L2.tC Q_ rU BQ AU Ar BF U2 Ei Dy G' VE Dl aq DJ FA Uw Ux Y_ ae D1 CJ Bz BS IA Wx C8 Ni Wy aY iLe aE cG BW gT gL gS GO IB Wz W0 D3 Bj W2 D4 W3 W4 W5 eqT W6 W7 W8 W9 List.map_cons List.map_nil List.length_cons List.length_nil List.replicate List.cons_append List.nil_append List.append_nil List.getElem?_cons_zero List.getElem?_cons_succ Option.some.injEq exists_eq_left' exists_eq_left V.int.injEq V.bl.injEq V.ref.injEq V.ty.injEq HO.tup.injEq HO.lst.injEq List.cons.injEq and_true true_and and_assoc exists_and_left List.set_cons_zero List.set_cons_succ decide_eq_true_eq decide_eq_false_iff_not Bool.not_eq_true' Bool.true_eq_false Bool.false_eq_true Bool.not_true Bool.not_false if_true if_false ite_true ite_false XF XG XA XB XC XD XE XH XI Nat.zero_add Nat.reduceAdd Nat.reduceSub upd_same Int.cast_ofNat_Int decide_true decide_false eq_self not_true_eq_false not_false_eq_true Int.natCast_add Int.natCast_zero reduceCtorEq Nm Ch A8 Cg Gx aM FH FI sL sT Fh Xn JN Er Xm GN G6 FJ Kf Vi ag Vg Xe Xf Xg Xh Xj Xv Xu Xi Xq Kr OA Ks Ko N8 Fk EN N9 JS Cm Option.bind_some Option.bind_none Option.bind Option.join id_eq sS X9 YB Ew Jp HK IT IU IV Fv IW GZ Jq IX Jr Js HL HM Jt Ju Jv Jw Jx HN Ex Ga Gb IY LZ Jy Jz J0 Fw Ia Gc J2 J3 J7 J8".splitOn " ").map λs => (⟨(Lean.mkIdent s.toName).raw⟩ : Lean.Term)).toArray
 `(tactic| simp only [$[$(l ++ t):term],*])
def Dg {a b:Int} (c:Bd 60000000 a) (d:Bd 60000000 b):IntMulOk a b:=YA c d ∅
def wF (h:Ew K vs H Q E):Pp K { nx:=λ_ d=>Q .non d,rt:=Q } (L2.start ["one","other","rest"] vs) H:=by
 obtain ⟨a,b,rfl,q⟩:=h;unfold Pp;rwa [];refine D5 (λm f d=>∃ (x y:Int) (r:d7),f=[some (.int x),some (.int y),r]/\d=H/\Int.gcd x y=Int.gcd a b/\m=y.natAbs) b.natAbs ⟨a,b,none,rfl,rfl,rfl,rfl⟩ ?_;rintro m f d ⟨x,y,r,rfl,rfl,g,rfl⟩;rwa [];refine Ag (λc=>?_) (λc=>?_)
 ·refine ⟨λi j=>∃ k,k<y.natAbs/\_,λ_ _ h=>h,?_⟩;refine ⟨c,_,Wu x c,y,x.fmod y,_,rfl,rfl,?_,rfl⟩;rw [Ng];exact g
 ·have n:y=0:=Decidable.not_not.mp c;subst n
  have e:(if x<0 then -x else x)=((Int.gcd a b:Nat):Int):=by
   rw [<-g,Int.gcd_zero_right];split <;> omega
  rw [e];exact q
def wG (h:Jp K vs H Q E):Pq K { nx:=λ_ f=>Q .non f,rt:=Q } (L2.start ["whole","n","result","square"] vs) H:=by
 obtain ⟨x,n,b,rfl,J,B,L,q⟩:=h;unfold Pq;rwa []
 have p:∀ k:Nat,k<=n.toNat->Bd 60000000 (x ^ k):=λk hk=>(B.pow k).mono (by
  have:=Dj b hk;omega)
 refine D5 (λm A f=>∃ r s:Nat,A=[some (.int x),some (.int (m:Int)),some (.int (x ^ r)),some (.int (x ^ s))]/\f=H/\r+s*m=n.toNat) n.toNat ⟨0,1,?_,rfl,⋯⟩ ?_
 ·have e:((n.toNat:Nat):Int)=n:=by omega
  rw [e,Int.pow_zero,show x ^ 1=x by rw [Int.pow_succ,Int.pow_zero,Int.one_mul]]
 rintro m A f ⟨r,s,rfl,rfl,M⟩;rwa [];refine Ag (λc=>?_) (λc=>?_)
 ·have C:1<=m:=by omega
  have N:s<=s*m:=Nat.le_mul_of_pos_right s C;have D:Ki (m:Int) 2:=⟨∅,(Nf ∅ ∅).mono ∅⟩
  have i:s*m=(s+s)*(m / 2)+s*(m % 2):=by
   have e:m=2*(m / 2)+m % 2:=(Nat.div_add_mod m 2).symm;generalize m / 2=u at e ⊢;generalize m % 2=v at e ⊢;subst e;rw [Nat.mul_add];congr 1;rw [<-Nat.mul_assoc,Dt s 2];congr 1;omega
  have F:((m:Int) / 2)=((m / 2:Nat):Int):=by omega
  rw [F];refine ⟨λG I=>∃ d,d<m/\_,λ_ _ h=>h,?_⟩
  have j:∀ g:Nat,g+(s+s)*(m / 2)=n.toNat->Ki (m:Int) 2/\if 0<((m / 2:Nat):Int) then IntMulOk (x ^ s) (x ^ s)/\∃ d,d<m/\∃ r a,[some (V.int x),some (V.int ((m / 2:Nat):Int)),some (V.int (x ^ g)),some (V.int (x ^ s*x ^ s))]=[some (V.int x),some (V.int (d:Int)),some (V.int (x ^ r)),some (V.int (x ^ a))]/\f=f/\r+a*d=n.toNat
    else ∃ d,d<m/\∃ r a,[some (V.int x),some (V.int ((m / 2:Nat):Int)),some (V.int (x ^ g)),some (V.int (x ^ s))]=[some (V.int x),some (V.int (d:Int)),some (V.int (x ^ r)),some (V.int (x ^ a))]/\f=f/\r+a*d=n.toNat:=λg o=>by
   refine ⟨D,Ag (λw=>?_) (λw=>?_)⟩
   ·exact ⟨Dg (p s ⋯) (p s ⋯),m / 2,⋯,g,s+s,by rw [Int.pow_add],rfl,o⟩
   ·have z:m / 2=0:=by omega
    rw [z] at o ⊢;exact ⟨0,⋯,g,s,rfl,rfl,⋯⟩
  refine ⟨∅,Ag (λw=>⟨Dg (p r ⋯) (p s ⋯),?_⟩) (λw=>?_)⟩
  ·rw [<-Int.pow_add];have y:m % 2=1:=by omega
   rw [y] at i;exact j (r+s) ⋯
  ·have y:m % 2=0:=by omega
   rw [y] at i;exact j r ⋯
 ·have z:m=0:=by omega
  subst z;have e:r=n.toNat:=by omega
  subst e;exact q
def SI {H:Hp} {Q:VK} {xs:c_} {l:cV} {m:Nat} (a:Nums H xs l) (b:m<=l.length) (e:B6 l l.length=m) (q:GW H Q (trim l)) :
  ∀ (p:Addr),H p=none->∀ (r:Addr),upd H p (.lst (CW xs none (some (m:Int)))) r=none->Q (V.ref r) (upd (upd H p (.lst (CW xs none (some (m:Int))))) r (.tup (CW xs none (some (m:Int))))):=λp hp r c=>by
 have s:=(AL hp (.lst (CW xs none (some (m:Int))))).trans (AL c (.tup (CW xs none (some (m:Int)))));refine q r _ _ s upd_same ?_;rw [Jj (by rw [a.length];exact b)];rw [Jj (by rw [a.length];exact b)] at s;unfold trim;rw [e];exact (a.take m).tp (E_ s)
def wH (l:cV) (m:Nat):B6 l (m+1)=if (l.getD m (1,1)).1=0 then B6 l m else m+1:=rfl
def wI (h:Ga K vs H Q E):Qq K { nx:=λ_ b=>Q .non b,rt:=Q } (L2.start ["row","many"] vs) H:=by
 obtain ⟨p,n,l,rfl,hp,d,A,q⟩:=h;unfold Qq;rwa [hp];have o:=d.length;refine D5 (λm g b=>g=[some (.ref p),some (.int (m:Int))]/\b=H/\B6 l m=B6 l l.length/\m<=l.length) n.length ⟨rfl,rfl,by rw [o],⋯⟩ ?_;rintro m g b ⟨rfl,rfl,a,j⟩;rwa [hp];refine Ag (λc=>?_) (λc=>?_)
 ·obtain ⟨k,rfl⟩:∃ k,m=k+1:=⟨m - 1,⋯⟩;obtain ⟨v,r,u,rfl,e⟩:=d.at (i:=k) ⋯ (1,1);rw [wH] at a;refine ⟨_,Ca ⋯ r,u,rfl,_,e,_,rfl,rfl,Ag (λf=>?_) (λf=>?_)⟩
  ·have z:(l.getD k (1,1)).1=0:=by injection f
   rw [nV z] at a;exact ⟨λw x=>∃ y,y<k+1/\_,λ_ _ h=>h,k,⋯,by rw [show ((k+1:Nat):Int) - 1=(k:Int) by omega],rfl,a,⋯⟩
  ·have z:(l.getD k (1,1)).1≠0:=λz=>f (by rw [z]);rw [nU z] at a;exact SI d j a.symm q
 ·have z:m=0:=by omega
  subst z;exact SI d j a.symm q
def wJ {l:cV} {i:Nat} {q:Nu} (h:l[i]?=some q):(l.take (i+1)).foldl (λB q=>B*(q.2 / ((Int.gcd B q.2:Nat):Int))) 1=(l.take i).foldl (λB q=>B*(q.2 / ((Int.gcd B q.2:Nat):Int))) 1*(q.2 / ((Int.gcd ((l.take i).foldl (λB q=>B*(q.2 / ((Int.gcd B q.2:Nat):Int))) 1) q.2:Nat):Int)):=by
 rw [List.take_add_one,h,List.foldl_append];rfl
def HQ {a b:Type} {l:List a} {i:Nat} {q:a} (f:a->b) (h:l[i]?=some q):(l.take (i+1)).map f=(l.take i).map f++[f q]:=by
 rw [List.take_add_one,h,By];rfl
def DO (n:Nat) (f:dC):(Av n f).length=n:=by unfold Av;rw [AJ,AJ,Bm]
def DD {n k:Nat} (f:dC) (h:k<n):(Av n f)[k]?=some (.int (f k)):=by
 unfold Av;rw [Ac,Ac,DU h];rfl
def HR {n k:Nat} {f g:dC} {z:Int} (h:k<n) (b:g k=z) (c:∀ i,i<n->i≠k->g i=f i):(Av n f).set k (.int z)=Av n g:=by
 apply EJ;intro i;by_cases a:i<n
 ·by_cases e:i=k
  ·subst e;rw [F8 (by rw [DO];exact a),DD g a,b]
  ·rw [List.getElem?_set_ne (λz=>e z.symm),DD f a,DD g a,c i a e]
 ·rw [BL (by rw [List.length_set,DO];omega),BL (by rw [DO];omega)]
def Ic {n:Nat} {f g:dC} (h:∀ i,i<n->g i=f i):Av n f=Av n g:=by
 apply EJ;intro i;by_cases a:i<n
 ·rw [DD f a,DD g a,h i a]
 ·rw [BL (by rw [DO];omega),BL (by rw [DO];omega)]
def Ly (n:Nat):(List.replicate n [V.int 0]).flatten=Av n λ_=>0:=by
 rw [Ji];apply EJ;intro i;by_cases a:i<n
 ·rw [DD _ a,FW,nV a]
 ·rw [FW,nU a,BL (by rw [DO];omega)]
def FQ {n k:Nat} {i:Int} (e:i=(k:Int)) (h:k<n):Y' n i=some k:=by
 subst e;unfold Y';rw [nV ⋯,nV ⋯];simp
def Pl.same {H c:Hp} {r:Addr} {L:cV} (h:Pl H r L) (s:Same H c):Pl c r L:=let ⟨d,a,b⟩:=h;⟨d,s _ _ a,b.tp (E_ s)⟩
def Pl.tp {H c:Hp} {r:Addr} {L:cV} (h:Pl H r L) (s:Tp H c):Pl c r L:=let ⟨d,a,b⟩:=h;⟨d,s _ _ a,b.tp s⟩
def SJ {m n:Nat} {x y:Int} (a:Bd m x) (b:Bd n y) (c:m<=60000000:=by decide) (d:n<=60000000:=by decide):IntMulOk x y:=Dg (a.mono c) (b.mono d)
def Id (a:d8) (m:Nat):DC a (m+1)=if a.getD m 1=0 then DC a m else m+1:=rfl
def wK (h:HK K vs H Q E):Px K { nx:=λ_ d=>Q .non d,rt:=Q } (L2.start ["row","many"] vs) H:=by
 obtain ⟨p,a,rfl,hp,q⟩:=h;unfold Px;rwa [hp]
 have b:∀ m:Nat,m<=a.length->DC a m=DC a a.length->DC a m=m->∀ r,H r=none->Q (V.ref r) (upd H r (.lst (CW (a.map V.int) none (some (m:Int))))):=λm j n o r u=>by
  rw [Jj (by rw [AJ];exact j),<-List.map_take,<-o,n];exact q r u
 refine D5 (λm g d=>g=[some (.ref p),some (.int (m:Int))]/\d=H/\DC a m=DC a a.length/\m<=a.length) a.length ⟨by rw [AJ],rfl,rfl,AR _⟩ ?_;rintro m g d ⟨rfl,rfl,e,i⟩;rwa [hp];refine Ag (λc=>?_) (λc=>?_)
 ·obtain ⟨k,rfl⟩:∃ k,m=k+1:=⟨m - 1,⋯⟩
  have v:(a.map V.int)[k]?=some (V.int (a.getD k 1)):=by
   rw [Ac,AZ ⋯,AQ,AZ ⋯];rfl
  refine ⟨_,Ca ⋯ v,rfl,Ag (λf=>?_) (λf=>?_)⟩
  ·have z:a.getD k 1=0:=by injection f
   rw [Id,nV z] at e;exact ⟨λw x=>∃ y,y<k+1/\_,λ_ _ h=>h,k,⋯,by rw [show ((k+1:Nat):Int) - 1=(k:Int) by omega],rfl,e,⋯⟩
  ·have z:a.getD k 1≠0:=λz=>f (by rw [z]);exact b (k+1) i e (by rw [Id,nU z])
 ·have z:m=0:=by omega
  subst z;exact b 0 i e rfl
theorem L4 (a:d8):∀ m,DC a m<=m
 | 0=>AR 0
 | m+1=>by
   rw [Id];split
   ·exact Nat.le_succ_of_le (L4 a m)
   ·exact AR _
def L5 {a:d8}:(Cz a).length=DC a a.length:=by
 unfold Cz;rw [CG,Nat.min_eq_left (L4 a a.length)]
def SK {c:d8} (k:Nat):(Cz c).getD k 0=c.getD k 0:=by
 have i:∀ (m:Nat),m<=c.length->(∀ j,m<=j->j<c.length->c.getD j 0=0)->∀ j,DC c m<=j->j<c.length->c.getD j 0=0:=by
  intro m
  induction m with
  | zero=>intro _ h j n d;exact h j ⋯ d
  | succ m o=>
    intro p h j f g;rw [Id] at f;split at f
    ·rename_i z;refine o ⋯ (λj n d=>?_) j f g;by_cases e:j=m
     ·subst e;rw [AQ,AZ d] at z ⊢;exact z
     ·exact h j ⋯ d
    ·exact h j f g
 by_cases f:k<DC c c.length
 ·unfold Cz;rw [AQ,AQ,List.getElem?_take_of_lt f]
 ·have e:(Cz c).getD k 0=0:=by
   rw [AQ,BL (by rw [L5];omega)];rfl
  rw [e];by_cases g:k<c.length
  ·exact (i c.length (AR _) (λj a b=>absurd b ⋯) k ⋯ g).symm
  ·rw [AQ,BL ⋯];rfl
def L8 {n:Nat} {z g:Int} (h:g∣z) (b:Bd n z):Bd n (z / g):=by
 by_cases a:z=0
 ·rw [a,Int.zero_ediv];exact D8 n
 ·exact EA a (Int.ediv_dvd_of_dvd h) b
def SL {z g:Int} (a:g≠0) (h:g∣z):((z / g:Int):Rat)=(z:Rat) / (g:Rat):=by
 obtain ⟨y,rfl⟩:=h;rw [FY _ a];have:=Ap a;push_cast;ext
theorem SM {a:d8} {g:Int} (h:∀ z∈a,g∣z) (k:Nat):g∣a.getD k 0:=by
 rw [AQ];cases e:a[k]? with
 | none=>exact Cv g
 | some z=>exact h z (A4 e)
def L9 {m:cV} (b:Af m) (f:Nz m) (h:1<=m.length):(AS m).getD (m.length - 1) 0≠0:=by
 rw [Jc,O0];have a:m.length - 1<m.length:=by omega
 have q:=f m[m.length - 1] (by rw [F9];exact AZ a);have e:Aj m (m.length - 1)=m[m.length - 1]:=by unfold Aj;rw [AQ,AZ a];rfl
 rw [e];refine CC q ?_;have o:=CZ b;have d:=o.2 m[m.length - 1] (DH a);obtain ⟨y,c⟩:=d;have g:=(b m[m.length - 1] (DH a)).pos;rw [c,FY _ (AV g)];intro z;rw [z,Int.mul_zero] at c;have:=o.1;omega
def atI_last {xs:c_} {v:V} (h:1<=xs.length) (e:xs[xs.length - 1]?=some v):P_ xs (-1)=some v:=by
 unfold P_ Y';rw [nU ∅,nV ⋯,show (-1+(xs.length:Int)).toNat=xs.length - 1 by omega];exact e
def MA {n m:Int} (h:0<m):Ay n m=W_ n m:=by unfold Ay;rw [nU ⋯]
def wL (h:Ex K vs H Q E):Qm K { nx:=λ_ j=>Q .non j,rt:=Q } (L2.start ["top","bottom","shared"] vs) H:=by
 obtain ⟨a,b,rfl,d,q⟩:=h;unfold Qm;rwa []
 have f:∀ s:Int,(s=if b<0 then -((Int.gcd a b:Nat):Int) else ((Int.gcd a b:Nat):Int))->JS a s/\JS b s/\2<=sizeLine/\∀ (p:Addr),H p=none->Q (V.ref p) (upd H p (.tup [.int (a.fdiv s),.int (b.fdiv s)])):=λs k=>by
  obtain ⟨g,n,i,m,o,r⟩:=Kg d k
  have e:Ay a b=(a.fdiv s,b.fdiv s):=by
   refine DA (GT d) i ?_;rw [HC d,LD (q:=(a.fdiv s,b.fdiv s)) (AV i.pos) d m]
  rw [e] at q;exact ⟨g,g,sz ∅,q⟩
 refine Ag (λc=>?_) (λc=>?_)
 ·exact f _ (by rw [nV c])
 ·exact f _ (by rw [nU c])
def be {K:W.Frag} {p:Addr} {xs:c_} {H:Hp} {Q:VK} {E:XK} (hp:H p=some (.tup xs)) (h:∃ l,Nums H xs l/\Af l/\∃ M,Ov l M/\Bd 400000 M/\(∀ q∈l,Bd 60000000 q.1)/\l.length<=1000/\∀ (r a:Addr) (d:Hp),Same H d->d r=some (.tup [.ref a,.int (Ab l)])->d a=some (.lst ((AS l).map V.int))->Q (.ref r) d):ET K [.ref p] H Q E:=let ⟨l,a,b,M,c⟩:=h;⟨p,xs,l,M,rfl,.inl hp,a,b,c⟩
def wM (h:ET K vs H Q E):zQ K { nx:=λ_ d=>Q .non d,rt:=Q } (L2.start ["P","bottom","number"] vs) H:=by
 obtain ⟨p,f,l,M,rfl,hp,w,k,j,A,J,hl,q⟩:=h;have D:=w.length;have L:=(CZ k).1;have N:=EA (AV j.1) (O5 k j) A;have F:∀ q∈l,Bd 400000 q.2:=λq m=>EA (AV j.1) (j.2 q m) A;refine Bu (M_ (Y3 (xs:=f) hp rfl (λi n d=>∃ x,n=[some (.ref p),some (.int ((l.take i).foldl (λB q=>B*(q.2 / ((Int.gcd B q.2:Nat):Int))) 1)),x]/\d=H) ⟨none,rfl,rfl⟩ ?_ ?_ ?_))
 ·rintro i n d ⟨x,rfl,rfl⟩;rfl
 ·rintro i x n d o ⟨y,rfl,rfl⟩;obtain ⟨z,c,O,rfl,g⟩:=w.get o;have u:=k z (A4 c);have G:=F z (A4 c);obtain ⟨P,R⟩:=LE (M:=M) (l.take i) 1 (λq m=>⟨(k q (FX m)).pos,j.2 q (FX m)⟩) ∅ (Int.one_dvd M);have S:=EA (AV j.1) R A;obtain ⟨s1,_,_,T,U,s6⟩:=K9 P u.pos;rwa [g];refine ⟨U,SJ S (G.le T),?_,_,rfl⟩;rw [wJ c]
 ·rintro n d ⟨x,rfl,rfl⟩;rw [D,CQ];refine CU (CD (Y4 (xs:=f) hp rfl (λi v b=>i<=f.length/\v=((AS l).take i).map V.int/\b=d) ⟨Ae _,rfl,rfl⟩ ?_ ?_ ?_))
  ·rintro i v b ⟨I,rfl,rfl⟩;refine ⟨I,sz ?_,rfl⟩;rw [AJ,CG];omega
  ·rintro i x v b o ⟨I,rfl,rfl⟩;obtain ⟨z,c,O,rfl,g⟩:=w.get o;have u:=k z (A4 c);have G:=F z (A4 c);have W:=J z (A4 c);have X:i<f.length:=(BK.mp o).1;rwa [g];have Y:l.foldl (λB q=>B*(q.2 / ((Int.gcd B q.2:Nat):Int))) 1=Ab l:=rfl;rw [Y];have Z:(AS l)[i]?=some (z.1*(Ab l / z.2)):=by unfold AS;rw [Ac,c];rfl
   refine ⟨u.pos,SJ W (N.le (ZJ L u.pos)),⋯,?_⟩;rw [HQ V.int Z]
  ·rintro v b ⟨_,rfl,rfl⟩ a ha;refine AN rfl ⟨BC,λr C=>?_⟩
   have e:(AS l).take f.length=AS l:=by
    rw [D,show l.length=(AS l).length by unfold AS;rw [AJ],CQ]
   rw [e] at C ⊢;have s:=(AL ha (.lst ((AS l).map V.int))).trans (AL C (.tup [.ref a,.int (Ab l)]));exact q r a _ s upd_same (AL C _ _ _ upd_same)
def wN (h:Gb K vs H Q E):Qs K { nx:=λ_ b=>Q .non b,rt:=Q } (L2.start ["row","bottom"] vs) H:=by
 obtain ⟨p,d,B,rfl,hp,u,v,q⟩:=h;unfold Qs;rwa [hp];refine ⟨⟨_,SqL.of hp⟩,CompJ.lst (xs:=d.map V.int) (λi f b=>i<=d.length/\Same H b/\Nums b f ((d.take i).map λn=>Ay n B)) ⟨Ae _,Same.refl H,trivial⟩ ?_ ?_ ?_⟩
 ·rintro i f b ⟨m,s1,c⟩;refine ⟨by rw [AJ];exact m,sz ?_,SqL.of (s1 _ _ hp)⟩;rw [c.length,AJ,CG];omega
 ·rintro i x f b g ⟨m,s1,c⟩;rw [Ac] at g;cases e:d[i]? with
  | none=>rw [e] at g;cases g
  | some n=>
    rw [e] at g;obtain rfl:V.int n=x:=mF g;have w:i<d.length:=(BK.mp e).1;rwa [];refine ⟨u,λr j=>⟨⋯,s1.trans (AL j _),?_⟩⟩;rw [HQ _ e];exact (c.tp (E_ (AL j _))).append (Nums.one PN)
 ·rintro f b ⟨_,s1,c⟩ a y;rw [AJ,CQ] at c;have o:=AL y (.lst f);rwa [];refine ⟨_,c.tp (E_ o),by rw [AJ];exact v,λr z k A j C=>q r z k ((s1.trans o).trans A) j C⟩
def wO {b:Nat} {l:cV} {M:Int} (d:Af l) (h:Ov l M) (e:∀ z∈X_ l M,Bd b z):∀ q∈l,Bd b q.1:=λq a=>by
 refine (e (q.1*(M / q.2)) (AX.mpr ⟨q,a,rfl⟩)).le ?_;rw [Bx];obtain ⟨y,c⟩:=h.2 q a;have f:=(d q a).pos;have i:=h.1;have:M / q.2=y:=by rw [c,FY _ (AV f)]
 rw [this];refine Nat.le_mul_of_pos_right _ ?_;rcases DR y.natAbs with z | z
 ·have g:y=0:=by omega
  rw [g] at c;omega
 ·exact z
def FR {g f:d8} (b:Lz g) (o:Lz f) (p:MQ (co g) (co f)):g.length<=f.length:=by
 obtain ⟨c,q,A,d⟩:=p;rcases A5 f.length g.length with y | y
 ·exfalso;rcases ES A with z | ⟨B,h,_,r⟩
  ·have:c*co f (f.length - 1)=0:=by rw [d,B7,Ft g z]
   rcases Int.mul_eq_zero.mp this with e | e
   ·exact q e
   ·exact o.2 e
  ·have u:∀ k,c*co f k=cvL B (co g) k:=λk=>by rw [d,B7,BE (λj=>(r j).symm) g k,<-B7]
   have v:=h.1;have G:=b.1;have m:B≠[]:=B4.mp v;obtain ⟨X,t,a⟩:∃ X t,B=X++[t]:=⟨B.dropLast,B.getLast m,(Gu m).symm⟩;have w:X.length=B.length - 1:=by rw [a];simp
   have C:co B (B.length - 1)=t:=by rw [<-w,a];unfold co;simp [AQ]
   have e:=u (B.length - 1+(g.length - 1));rw [Ah ⋯,a,Db,<-a,Et (n:=g.length) (λi D=>Ah D) X _ ⋯] at e;unfold Ax at e;rw [nV ⋯,show B.length - 1+(g.length - 1) - X.length=g.length - 1 by omega] at e;have F:t*co g (g.length - 1)=0:=by omega
   rcases Int.mul_eq_zero.mp F with x | x
   ·exact h.2 (C.trans x)
   ·exact b.2 x
 ·exact y
theorem php:∀ (m n:Nat) (f:Nat->Nat),(∀ i,i<n->f i<m)->m<n->∃ i j,i<j/\j<n/\f i=f j
 | 0,n,f,h,d=>absurd (h 0 d) (Nat.not_lt_zero _)
 | m+1,n,f,h,d=>by
   obtain ⟨n,rfl⟩:∃ k,n=k+1:=⟨n - 1,⋯⟩;by_cases c:∃ i,i<n/\f i=f n
   ·obtain ⟨i,a,e⟩:=c;exact ⟨i,n,a,⋯,e⟩
   ·have c:∀ i,i<n->f i≠f n:=λi a e=>c ⟨i,a,e⟩;have o:=h n ⋯
    obtain ⟨i,j,b,g,e⟩:=php m n (λi=>if f n<f i then f i - 1 else f i) (λi a=>by
     have p:=h i ⋯;have q:=c i a;show (if f n<f i then f i - 1 else f i)<m;split <;> omega) ⋯
    refine ⟨i,j,b,⋯,?_⟩;have r:=c i ⋯;have u:=c j g;have e:(if f n<f i then f i - 1 else f i)=(if f n<f j then f j - 1 else f j):=e;split at e <;> split at e <;> omega
noncomputable def aW (M:Nat):Nat->(Nat->Nat)->Nat
 | 0,_=>0
 | N+1,e=>e 0+M*aW M N (λk=>e (k+1))
theorem SN {M:Nat}:∀ (N:Nat) (e:Nat->Nat),(∀ k,k<N->e k<M)->aW M N e<M ^ N
 | 0,_,_=>Nat.one_pos
 | N+1,e,h=>by
   have a:=SN N (λk=>e (k+1)) (λk hk=>h (k+1) ⋯);have c:=h 0 ⋯;show e 0+M*aW M N (λk=>e (k+1))<M ^ (N+1);have b:M*(aW M N (λk=>e (k+1))+1)<=M*M ^ N:=Dj M a;rw [Cr,Dt (M ^ N)];rw [Nat.mul_add,Nat.mul_one] at b;omega
def SO {M a b x y:Nat} (c:a<M) (d:b<M) (h:a+M*x=b+M*y):a=b/\x=y:=by
 have f:(a+M*x) % M=a:=by rw [Nat.add_mul_mod_self_left,Nat.mod_eq_of_lt c]
 have g:(b+M*y) % M=b:=by rw [Nat.add_mul_mod_self_left,Nat.mod_eq_of_lt d]
 have e:a=b:=by rw [<-f,h,g]
 subst e;exact ⟨rfl,Nat.eq_of_mul_eq_mul_left ⋯ (Nat.add_left_cancel h)⟩
theorem SQ {M:Nat}:∀ (N:Nat) (e a:Nat->Nat),(∀ k,k<N->e k<M)->(∀ k,k<N->a k<M)->aW M N e=aW M N a->∀ k,k<N->e k=a k
 | 0,_,_,_,_,_,k,hk=>absurd hk (Nat.not_lt_zero _)
 | N+1,e,a,h,b,q,k,hk=>by
   obtain ⟨c,d⟩:=SO (h 0 ⋯) (b 0 ⋯) q;cases k with
   | zero=>exact c
   | succ k=>exact SQ N _ _ (λk hk=>h (k+1) ⋯) (λk hk=>b (k+1) ⋯) d k ⋯
noncomputable def V_ (p:Nat):Nat->Nat->d8
 | 0,_=>[]
 | N+1,t=>((t % p:Nat):Int)::V_ p N (t / p)
theorem MC (p:Nat):∀ (N t:Nat),(V_ p N t).length=N
 | 0,_=>rfl
 | N+1,t=>by show (V_ p N (t / p)).length+1=N+1;rw [MC p N]
theorem MD {p:Nat} (a:0<p):∀ (N t:Nat),∀ z∈V_ p N t,0<=z/\z<(p:Int)
 | 0,_,z,h=>by cases h
 | N+1,t,z,h=>by
   rcases Bc.mp h with rfl | h
   ·have:=Nat.mod_lt t a;omega
   ·exact MD a N _ z h
theorem SR {p:Nat} (e:0<p):∀ (N t s:Nat),t<p ^ N->s<p ^ N->V_ p N t=V_ p N s->t=s
 | 0,t,s,c,d,_=>by rw [Nat.pow_zero] at c d;omega
 | N+1,t,s,c,d,h=>by
   injection h with a b;rw [Cr,Dt] at c d;have:=SR e N (t / p) (s / p) (Nat.div_lt_of_lt_mul c) (Nat.div_lt_of_lt_mul d) b;have f:=Nat.div_add_mod t p;have g:=Nat.div_add_mod s p;have a:t % p=s % p:=by exact_mod_cast a
   rw [<-f,<-g,this,a]
theorem ME {g:dC} {h q:Nat} (c:∀ k,(g k).natAbs<=h):∀ (a:d8),(∀ z∈a,z.natAbs<=q)->∀ k,(cvL a g k).natAbs<=a.length*(q*h)
 | [],_,k=>by show (0:Int).natAbs<=_;simp
 | x::a,b,0=>by
   rw [At];have d:(x*g 0).natAbs<=q*h:=by rw [Bx];exact Nat.mul_le_mul (b x (Au ..)) (c 0)
   have:(x::a).length*(q*h)=a.length*(q*h)+q*h:=by rw [CP,Nat.add_mul,Nat.one_mul]
   omega
 | x::a,b,k+1=>by
   rw [Am];have d:(x*g (k+1)).natAbs<=q*h:=by rw [Bx];exact Nat.mul_le_mul (b x (Au ..)) (c (k+1))
   have f:=ME c a (λz e=>b z (A3 _ e)) k;have:(x::a).length*(q*h)=a.length*(q*h)+q*h:=by rw [CP,Nat.add_mul,Nat.one_mul]
   omega
def wP {A B u v:d8} (i:Lz A) (c:Lz B) (q:QI (co A) (co B) AY) (g:u.length<B.length) (j:v.length<A.length) (h:∀ k,cvL u (co A) k+cvL v (co B) k=0):(∀ k,co u k=0)/\∀ k,co v k=0:=by
 obtain ⟨d,m,U,V,b⟩:=q
 have a:∀ {A B u v U V:d8},Lz B->(∀ k,d*AY k=cvL U (co A) k+cvL V (co B) k)->u.length<B.length->(∀ k,cvL u (co A) k+cvL v (co B) k=0)->∀ k,co u k=0:=λ{A B u v U V} c b g h=>by
  rcases ES u with z | ⟨f,n,r,o⟩
  ·exact z
  ·exfalso
   have p:MQ (co B) (co f):=by
    refine ⟨d,m,A7 (Bb V u) ((Bb U v).map ((-1)*·)),λk=>?_⟩;rw [Br,BG,Bt,Bt,o k,Cy u k,<-DB,BE b,HE,HF (co A) u U,HF (co B) u V]
    have e:cvL U (cvL u (co A)) k = - cvL U (cvL v (co B)) k:=by
     have:cvL U (cvL u (co A)) k+cvL U (cvL v (co B)) k=0:=by rw [<-HE];exact Ft U h k
     omega
    rw [e];omega
   have:=FR c n p;omega
 exact ⟨a c b g h,a (A:=B) (B:=A) (u:=v) (v:=u) (U:=V) (V:=U) i (λk=>by rw [b k];omega) j (λk=>by have:=h k;omega)⟩
def FS {a b:Int} (h:a=b):a∣b:=by rw [h];exact Int.dvd_refl b
theorem bO {p:Int} {f g:dC} {S:d8} (h:∀ k,p∣f k - cvL S g k):∀ (a:d8) (k:Nat),p∣cvL a f k - cvL a (cvL S g) k
 | [],k=>by show p∣(0:Int) - 0;simp
 | x::a,0=>by
   rw [At,At];have:=CS (h 0) (Int.dvd_mul_left x _);rw [Int.mul_sub] at this;refine CS this (FS ?_);omega
 | x::a,k+1=>by
   rw [Am,Am];have b:=CS (h (k+1)) (Int.dvd_mul_left x _);have c:=bO h a k;rw [Int.mul_sub] at b;have:=Cu b c;refine CS this (FS ?_);omega
theorem SS:∀ (a b:d8),(A7 a b).length=max a.length b.length
 | [],b=>by show b.length=max 0 b.length;omega
 | a,[]=>by rw [LJ];show a.length=max a.length 0;omega
 | x::a,y::b=>by
   show (A7 a b).length+1=max (a.length+1) (b.length+1);rw [SS a b];omega
def ST {a b:d8} (c:a.length=b.length) (h:∀ k,co a k=co b k):a=b:=by
 refine List.ext_getElem c λi d e=>?_;have:=h i;unfold co at this;rwa [AQ,AQ,AZ d,AZ e] at this
def ci {A B G:d8} {p b:Nat} (hp:Pr p) (lA:Lz A) (lB:Lz B) (q:QI (co A) (co B) AY) (hA:∀ k,Bd b (co A k)) (hB:∀ k,Bd b (co B k)) (n1:2<=A.length) (m1:2<=B.length) (g2:2<=G.length) (g1:¬ (p:Int)∣co G (G.length - 1)) (dA:Dm (p:Int) (co G) (co A)) (dB:Dm (p:Int) (co G) (co B))
  (j:(2*((A.length+B.length)*2 ^ b)) ^ (A.length+B.length - 2)<p):False:=by
 have p2:=hp.two;have S:0<p:=by omega
 generalize hn:A.length - 1=n at *;generalize hm:B.length - 1=m at *;generalize hE:(A.length+B.length)*2 ^ b=E at *;have N1:A.length+B.length - 2=n+m:=by omega
 rw [N1] at j;have Y:∀ k,(co A k).natAbs<=2 ^ b:=λk=>Nat.le_of_lt (hA k);have Z:∀ k,(co B k).natAbs<=2 ^ b:=λk=>Nat.le_of_lt (hB k);have E0:0<E:=by rw [<-hE];exact Nat.mul_pos ⋯ (Nat.pow_pos ∅)
 obtain ⟨u,T⟩:∃ u:Nat->d8,∀ t,u t=(V_ p (m+n) t).take m:=⟨_,λ_=>rfl⟩;obtain ⟨v,U⟩:∃ v:Nat->d8,∀ t,v t=(V_ p (m+n) t).drop m:=⟨_,λ_=>rfl⟩;obtain ⟨f,W⟩:∃ f:Nat->dC,∀ t k,f t k=cvL (u t) (co A) k+cvL (v t) (co B) k:=⟨_,λ_ _=>rfl⟩;have J:∀ t,(u t).length=m:=λt=>by rw [T,CG,MC];omega
 have L:∀ t,(v t).length=n:=λt=>by rw [U,List.length_drop,MC];omega
 have uz:∀ t,∀ z∈u t,0<=z/\z<(p:Int):=λt z o=>MD S _ t z (FX (T t ▸ o));have vz:∀ t,∀ z∈v t,0<=z/\z<(p:Int):=λt z o=>MD S _ t z (List.mem_of_mem_drop (U t ▸ o))
 have fb:∀ t k,(f t k).natAbs<E*p:=λt k=>by
  have d:=ME (q:=p - 1) Y (u t) (λz o=>by have:=uz t z o;omega) k;have g:=ME (q:=p - 1) Z (v t) (λz o=>by have:=vz t z o;omega) k;rw [J] at d;rw [L] at g
  have h3:(f t k).natAbs<=(m+n)*((p - 1)*2 ^ b):=by
   rw [Nat.add_mul,W];omega
  refine Du h3 ?_;rw [<-hE];have e:(m+n)*((p - 1)*2 ^ b)=((m+n)*2 ^ b)*(p - 1):=by rw [Dt (p - 1),Nat.mul_assoc]
  rw [e];exact CF (Nat.mul_lt_mul_of_pos_left ⋯ (Nat.mul_pos ⋯ (Nat.pow_pos ∅))) (Cf p (Cf _ ⋯))
 obtain ⟨X,r⟩:∃ X:Nat->Nat,∀ t,X t=(f t 0 / (p:Int)+(E:Int)).toNat:=⟨_,λ_=>rfl⟩;obtain ⟨O,w⟩:∃ O:Nat->Nat->Nat,∀ t k,O t k=(f t (k+1)+((E*p:Nat):Int)).toNat:=⟨_,λ_ _=>rfl⟩
 have C:∀ t,0<=f t 0 / (p:Int)+(E:Int)/\f t 0 / (p:Int)+(E:Int)<2*(E:Int):=λt=>by
  have h:=fb t 0
  have d:-((E:Int)*(p:Int))<=f t 0:=by have:((E*p:Nat):Int)=(E:Int)*(p:Int):=by push_cast;rfl
                                       omega
  have g:f t 0<(E:Int)*(p:Int):=by have:((E*p:Nat):Int)=(E:Int)*(p:Int):=by push_cast;rfl
                                   omega
  have q1:-(E:Int)<=f t 0 / (p:Int):=by
   refine (Int.le_ediv_iff_mul_le ⋯).mpr ?_;rw [Int.neg_mul];exact d
  have q2:f t 0 / (p:Int)<(E:Int):=Int.ediv_lt_of_lt_mul ⋯ g;omega
 have D:∀ t k,0<=f t (k+1)+((E*p:Nat):Int)/\f t (k+1)+((E*p:Nat):Int)<2*((E*p:Nat):Int):=λt k=>by
  have h:=fb t (k+1);omega
 have F:∀ t,X t<2*E:=λt=>by have:=C t;rw [r];omega
 have I:∀ t k,O t k<2*(E*p):=λt k=>by have:=D t k;rw [w];omega
 have cl:∀ t,X t+2*E*aW (2*(E*p)) (m+n - 1) (O t)<2*E*(2*(E*p)) ^ (m+n - 1):=λt=>by
  have d:=SN (M:=2*(E*p)) (m+n - 1) (O t) (λk _=>I t k);have g:2*E*(aW (2*(E*p)) (m+n - 1) (O t)+1)<=2*E*(2*(E*p)) ^ (m+n - 1):=Dj _ d;have h3:=F t;rw [Nat.mul_add,Nat.mul_one] at g;omega
 have R:2*E*(2*(E*p)) ^ (m+n - 1)<p ^ (m+n):=by
  obtain ⟨N,hN⟩:∃ N,m+n=N+1:=⟨m+n - 1,⋯⟩;rw [hN,Nat.add_sub_cancel];rw [Nat.add_comm n m,hN] at j
  have e:2*E*(2*(E*p)) ^ N=(2*E) ^ (N+1)*p ^ N:=by
   rw [<-Nat.mul_assoc 2 E p,Nat.mul_pow (2*E) p N,Cr,Dt ((2*E) ^ N) (2*E),Nat.mul_assoc (2*E)]
  rw [e,Cr p,Dt (p ^ N) p];exact Nat.mul_lt_mul_of_pos_right j (Nat.pow_pos S)
 obtain ⟨s,t,st,ht,e⟩:=php _ _ _ (λi _=>cl i) R;obtain ⟨q0,q1⟩:=SO (F s) (F t) e;have qk:=SQ (m+n - 1) _ _ (λk _=>I s k) (λk _=>I t k) q1;have w0:∀ k,(co (u s) k - co (u t) k)=co (A7 (u s) ((u t).map ((-1)*·))) k:=λk=>by rw [Cy,Cy,Cy,Br,BG];omega
 have df:∀ k,f s k - f t k=cvL (A7 (u s) ((u t).map ((-1)*·))) (co A) k+cvL (A7 (v s) ((v t).map ((-1)*·))) (co B) k:=λk=>by
  rw [Br,Br,BG,BG,W,W];omega
 have P:∀ k,0<k->f s k - f t k=0:=λk hk=>by
  rcases A5 k (m+n) with c | c
  ·have:=qk (k - 1) ⋯;have r1:=D s (k - 1);have r2:=D t (k - 1);rw [w,w,show k - 1+1=k by omega] at this;rw [show k - 1+1=k by omega] at r1 r2;omega
  ·have z:∀ t,f t k=0:=λt=>by
    rw [W,Et (n:=A.length) (λi P=>Ah P) (u t) k (by rw [J];omega),Et (n:=B.length) (λi P=>Ah P) (v t) k (by rw [L];omega)];rfl
   rw [z,z];rfl
 have d0:(f s 0 - f t 0).natAbs<p:=by
  have r1:=C s;have r2:=C t;rw [r,r] at q0;have q0:f s 0 / (p:Int)=f t 0 / (p:Int):=by omega
  have m1:=Int.emod_add_mul_ediv (f s 0) p;have m2:=Int.emod_add_mul_ediv (f t 0) p;have b1:=CV (f s 0) (show (p:Int)≠0 by omega);have b2:=Cd (f s 0) (show (0:Int)<p by omega);have b3:=CV (f t 0) (show (p:Int)≠0 by omega);have b4:=Cd (f t 0) (show (0:Int)<p by omega);rw [q0] at m1;omega
 have dm:Dm (p:Int) (co G) (co [f s 0 - f t 0]):=by
  obtain ⟨SA,a0⟩:=dA;obtain ⟨SB,a1⟩:=dB;refine ⟨A7 (Bb (A7 (u s) ((u t).map ((-1)*·))) SA) (Bb (A7 (v s) ((v t).map ((-1)*·))) SB),λk=>?_⟩
  have e:co [f s 0 - f t 0] k=f s k - f t k:=by
   cases k with
   | zero=>rfl
   | succ k=>rw [P (k+1) ⋯];exact Ah (by simp)
  rw [e,df,Br (co G),Bt,Bt];have d:=bO (p:=(p:Int)) a0 (A7 (u s) ((u t).map ((-1)*·))) k;have g:=bO (p:=(p:Int)) a1 (A7 (v s) ((v t).map ((-1)*·))) k;have:=Cu d g;refine CS this (FS ?_);omega
 have z0:f s 0 - f t 0=0:=by
  by_cases c:(p:Int)∣f s 0 - f t 0
  ·obtain ⟨y,hy⟩:=c;rcases Int.lt_trichotomy y 0 with z | z | z
   ·have:(p:Int)*y<=(p:Int)*(-1):=Hu ⋯ ⋯;omega
   ·rw [hy,z];omega
   ·have:(p:Int)*1<=(p:Int)*y:=Hu ⋯ ⋯;omega
  ·exfalso;have:=Dm.len hp ⋯ g1 dm ⟨0,c⟩;simp at this;omega
 have all:∀ k,cvL (A7 (u s) ((u t).map ((-1)*·))) (co A) k+cvL (A7 (v s) ((v t).map ((-1)*·))) (co B) k=0:=λk=>by
  rw [<-df];cases k with
  | zero=>exact z0
  | succ k=>exact P (k+1) ⋯
 have ll:∀ {a c:d8} {x:Nat},a.length=x->c.length=x->(A7 a (c.map ((-1)*·))).length=x:=λ{a c x} d g=>by
  rw [SS,AJ,d,g];omega
 obtain ⟨c1,c2⟩:=wP lA lB q (by rw [ll (J s) (J t)];omega) (by rw [ll (L s) (L t)];omega) all;have eu:u s=u t:=ST (by rw [J,J]) λk=>by have:=c1 k;rw [<-w0] at this;omega
 have ev:v s=v t:=ST (by rw [L,L]) λk=>by
  have:=c2 k;rw [Cy,Br,BG,<-Cy,<-Cy] at this;omega
 have:V_ p (m+n) s=V_ p (m+n) t:=by
  rw [<-GC m (V_ p (m+n) s),<-GC m (V_ p (m+n) t)];rw [<-T,<-U,<-T,<-U,eu,ev]
 have:=SR S _ _ _ ⋯ ⋯ this;omega
theorem SU:∀ (a l:d8),a.Nodup->(∀ t∈a,evI l t=0)->l.length<=a.length->∀ k,co l k=0
 | [],l,_,_,h,k=>Ah (by have:l.length=0:=by simpa using h
                        omega)
 | t::a,l,i,d,j,k=>by
   have b:=Dh.mp i;have e:=d t (Au ..);have m:co (X' l t) ((X' l t).length - 1)=0:=by rw [Jg];exact Zm l t
   have f:=LL m
   have z:∀ k,co (X' l t) k=0:=λk=>by
    rw [<-f k];refine SU a (X' l t).dropLast b.2 (λx g=>?_) (by rw [List.length_dropLast,Jg];simp at j;omega) k;rw [LM _ _ x f];have c:=LN l t x;rw [d x (A3 _ g),e] at c
    have n:x - t≠0:=λq=>b.1 (by have:x=t:=by omega
                                rw [<-this];exact g)
    have c:(x - t)*evI (X' l t) x=0:=by omega
    rcases Int.mul_eq_zero.mp c with q | q
    ·exact absurd q n
    ·exact q
   rw [Jh l t k,z k];split
   ·rw [e];omega
   ·rw [z (k - 1)];omega
def wQ (n:Nat):((List.range (2*n+1)).map λi:Nat=>(i:Int) - (n:Int)).Nodup:=by
 unfold List.Nodup;rw [EK];exact (List.nodup_range (n:=2*n+1)).imp λh q=>h ⋯
theorem SV (f:Int->Bool):∀ P:d8,(P.filter f).length+(P.filter λx=>!f x).length=P.length
 | []=>rfl
 | x::P=>by
   have:=SV f P;rw [List.filter_cons,List.filter_cons,CP];cases f x
   ·simp;omega
   ·simp;omega
def wR {r:d8} {n:Nat} (v:∃ k,co r k≠0) (C:r.length<=n):∃ x:dC,(∀ i,i<=n->evI r (x i)≠0/\(x i).natAbs<=n)/\∀ i j,i<=n->j<=n->i≠j->x i≠x j:=by
 let P:d8:=(List.range (2*n+1)).map λi:Nat=>(i:Int) - (n:Int);have D:P.length=2*n+1:=by show ((List.range (2*n+1)).map λi:Nat=>(i:Int) - (n:Int)).length=_;rw [AJ,Bm]
 have p:P.Nodup:=wQ n
 have w:∀ x∈P,x.natAbs<=n:=λx y=>by
  obtain ⟨i,d,rfl⟩:=AX.mp y;have:=B9.mp d;omega
 have f:(P.filter λx=>decide (evI r x=0)).length+(P.filter λx=>!decide (evI r x=0)).length=P.length:=by
  exact SV _ P
 have z:(P.filter λx=>decide (evI r x=0)).length<r.length:=by
  rcases A5 (P.filter λx=>decide (evI r x=0)).length r.length with c | c
  ·exact c
  ·exfalso;obtain ⟨k,hk⟩:=v;exact hk (SU _ r (p.filter _) (λt A=>by simpa using (EE.mp A).2) c k)
 let a:=P.filter λx=>!decide (evI r x=0)
 have F:n+1<=a.length:=by
  show n+1<=(P.filter λx=>!decide (evI r x=0)).length;omega
 have B:a.Nodup:=p.filter _;refine ⟨λi=>a.getD i 0,λi d=>?_,λi j d G g e=>?_⟩
 ·have b:i<a.length:=by omega
  have e:a.getD i 0=a[i]:=by rw [AQ,AZ b];rfl
  show evI r (a.getD i 0)≠0/\(a.getD i 0).natAbs<=n;rw [e];have m:=EE.mp (DH b);exact ⟨by simpa using m.2,w _ m.1⟩
 ·have h:i<a.length:=by omega
  have o:j<a.length:=by omega
  have e:a.getD i 0=a.getD j 0:=e;rw [AQ,AQ,AZ h,AZ o] at e;have e:a[i]=a[j]:=e;have u:=List.pairwise_iff_getElem.mp B;rcases Nat.lt_or_gt_of_ne g with q | q
  ·exact u i j h o q e
  ·exact u j i o h q e.symm
def Ge {b n c:Nat} {r g A:d8} (o:∀ z∈r,Bd b z) (p:∃ k,co r k≠0) (f:r.length<=n) (B:g.length<=n) (C:n<2 ^ c) (q:∀ k,co r k=cvL A (co g) k):∀ k,Bd (b+n*(2*c+4)) (co g k):=by
 by_cases D:g.length=0
 ·intro k;rw [Ah ⋯];exact D8 _
 obtain ⟨x,h,u⟩:=wR p f
 have m:∀ i,i<=n->Bd c (x i):=λi a=>by
  show (x i).natAbs<2 ^ c;have:=(h i a).2;omega
 intro k
 have:=aH (c:=c) (g.length - 1) g (b+n*(c+1)) x (λk hk=>Ah ⋯) (λi a=>m i ⋯) (λi j a F d=>u i j ⋯ ⋯ d) (λi a=>by
  have v:=(h i ⋯).1;have e:=Zl q (x i);have w:=PM (m i ⋯) r o
  have y:(evI g (x i)).natAbs<=(evI r (x i)).natAbs:=by
   rw [e,Bx];refine Gs _ ?_;rcases DR (evI A (x i)).natAbs with z | z
   ·exact absurd (by rw [e,Int.natAbs_eq_zero.mp z];omega) v
   ·exact z
  refine (w.le y).mono ?_;have:=Cf (c+1) f;omega) k
 refine this.mono ?_;have G:(g.length - 1)*(c+3)<=n*(c+3):=Cf (c+3) ⋯;have I:n*(2*c+4)=n*(c+1)+n*(c+3):=by rw [<-Nat.mul_add];congr 1;omega
 omega
def Ie {a g:d8} (b:Lz a) (c:Lz g):cvL a (co g) (a.length - 1+(g.length - 1))=co a (a.length - 1)*co g (g.length - 1):=by
 obtain ⟨i,s,rfl⟩:∃ i s,a=i++[s]:=⟨a.dropLast,a.getLast (B4.mp b.1),(Gu _).symm⟩;have e:(i++[s]).length - 1=i.length:=by rw [Bp];simp
 have d:co (i++[s]) i.length=s:=by
  unfold co;rw [AQ,List.getElem?_append_right (AR _),Nat.sub_self];rfl
 rw [e,d,Db,Et (n:=g.length) (λi f=>Ah f) i _ (by have:=c.1;omega)];unfold Ax;rw [nV ⋯,show i.length+(g.length - 1) - i.length=g.length - 1 by omega];omega
def MF {X a:d8} (b:Lz a) {T:Nat} (h:∀ k,T+(a.length - 1)<=k->cvL X (co a) k=0):(∀ j,T<=j->co X j=0)/\∀ s,T=s+1->cvL X (co a) (s+(a.length - 1))=co X s*co a (a.length - 1):=by
 rcases ES X with z | ⟨Y,d,_,e⟩
 ·refine ⟨λj _=>z j,λs _=>?_⟩;rw [B7,Ft a z,z s];omega
 ·have f:∀ k,cvL X (co a) k=cvL Y (co a) k:=λk=>by rw [B7,BE (λj=>(e j).symm) a k,<-B7]
  have g:=Ie d b
  have o:Y.length<=T:=by
   rcases A5 T Y.length with c | c
   ·exfalso;have:=h (Y.length - 1+(a.length - 1)) ⋯;rw [f,g] at this;exact CC d.2 b.2 this
   ·exact c
  refine ⟨λj p=>by rw [<-e];exact Ah ⋯,λs q=>?_⟩;rw [f,<-e];have r:=d.1;rcases A5 Y.length T with c | c
  ·rw [Ah ⋯,Et (n:=a.length) (λi m=>Ah m) Y _ (by have:=b.1;omega)];omega
  ·rw [show s=Y.length - 1 by omega];exact g
def EC {m n:Nat} {x y:Int} (a:Bd m x) (b:Bd n y) (c:m<=60000000:=by omega) (d:n<=60000000:=by omega):IntMulOk x y:=Dg (a.mono c) (b.mono d)
def wS {c:d8} {m:Int} (a:d8) (b:a=(c.filter (λz=>!decide (z=0))).map λz=>if z<0 then -z else z) (h:a=[]/\m=0\/m∈a) (d:Int):(∀ z∈c,d∣z)->d∣m:=by
 intro f;rcases h with ⟨_,e⟩ | h
 ·rw [e];exact Cv d
 ·rw [b] at h;obtain ⟨z,g,rfl⟩:=AX.mp h;have:=f z (EE.mp g).1;show d∣if z<0 then -z else z
  split
  ·exact Int.dvd_neg.mpr this
  ·exact this
def wT (h:IT K vs H Q E):Ps K { nx:=λ_ j=>Q .non j,rt:=Q } (L2.start ["row","start","found","whole"] vs) H:=by
 obtain ⟨p,b,r,rfl,hp,X,k⟩:=h;unfold Ps;rwa [];refine ⟨⟨_,SqL.of hp⟩,CompF.lst (xs:=b.map V.int) (λi u j=>i<=b.length/\j=H/\u=(((b.take i).filter (λz=>!decide (z=0))).map λz=>if z<0 then -z else z).map V.int) ⟨Ae _,rfl,rfl⟩ ?_ ?_ ?_⟩
 ·rintro i u j ⟨q,rfl,rfl⟩;refine ⟨by rw [AJ];exact q,sz ?_,SqL.of hp⟩;rw [AJ,AJ];exact Bg (List.length_filter_le _ _) (by rw [CG];omega)
 ·rintro i x u j f ⟨q,rfl,rfl⟩;rw [Ac] at f;cases e:b[i]? with
  | none=>rw [e] at f;cases f
  | some n=>
    rw [e] at f;obtain rfl:V.int n=x:=mF f;have N:i<b.length:=(BK.mp e).1;have L:b.take (i+1)=b.take i++[n]:=by rw [List.take_add_one,e];rfl
    rwa [];refine Ag (λc=>?_) (λc=>?_)
    ·refine ⟨⋯,?_⟩;have G:¬ n=0:=by simpa using c
     simp [L,List.filter_append,G]
    ·refine ⟨⋯,?_⟩;have G:n=0:=by simpa using c
     simp [L,List.filter_append,G]
 ·rintro u j ⟨_,rfl,rfl⟩ a O;rw [AJ,CQ];have v:=AL O (.lst (((b.filter (λz=>!decide (z=0))).map λz=>if z<0 then -z else z).map V.int));have o:=v _ _ hp;refine ⟨_,rfl,_,upd_same,λm P=>?_⟩;have R:=wS _ rfl P;generalize S:upd j a (.lst (((b.filter (λz=>!decide (z=0))).map λz=>if z<0 then -z else z).map V.int))=T at v o ⊢;refine ⟨⟨_,SqL.of o⟩,ForL.by (xs:=b.map V.int) (λi w A=>∃ (g:Int) (x:d7),w=[some (.ref p),some (.int r),some (.int g),x]/\A=T/\0<=g/\g∣r/\(∀ z∈b.take i,g∣z)/\(∀ d:Int,d∣r->(∀ z∈b,d∣z)->d∣g)) ⟨_,none,rfl,rfl,⋯,EH m r,λz B=>(by simp at B),λd q C=>Int.dvd_coe_gcd (R d C) q⟩ ?_ ?_ ?_⟩
  ·rintro i w A _ ⟨g,x,rfl,rfl,_⟩;exact SqL.of o
  ·rintro i x w A f ⟨g,y,rfl,rfl,M,I,D,F⟩;rw [Ac] at f;cases e:b[i]? with
   | none=>rw [e] at f;cases f
   | some n=>
     rw [e] at f;obtain rfl:V.int n=x:=mF f;rwa [];refine Ag (λc=>?_) (λc=>?_)
     ·have U:g=1:=by simpa using c
      subst U;exact k 1 _ v ∅ (Int.one_dvd _) (λz _=>Int.one_dvd z) F
     ·refine ⟨⋯,CS (EH n g) I,λz B=>?_,λd q C=>Int.dvd_coe_gcd (C n (A4 e)) (F d q C)⟩;rw [List.take_add_one,e] at B;rcases CO.mp B with J | J
      ·exact CS (EH n g) (D z J)
      ·have W:z=n:=by simpa using J
       rw [W];exact E5 n g
  ·rintro w A ⟨g,x,rfl,rfl,M,I,D,F⟩;rw [AJ,CQ] at D;rwa [];exact k g _ v M I D F
def wU (h:IU K vs H Q E):QA K { nx:=λ_ c=>Q .non c,rt:=Q } (L2.start ["row","divisor"] vs) H:=by
 obtain ⟨p,b,g,rfl,hp,m,u,q⟩:=h;unfold QA;rwa [];refine ⟨⟨_,SqL.of hp⟩,CompJ.lst (xs:=b.map V.int) (λi j c=>i<=b.length/\c=H/\j=((b.map (·/ g)).take i).map V.int) ⟨Ae _,rfl,rfl⟩ ?_ ?_ ?_⟩
 ·rintro i j c ⟨k,rfl,rfl⟩;refine ⟨by rw [AJ];exact k,sz ?_,SqL.of hp⟩;rw [AJ,CG];omega
 ·rintro i x j c d ⟨k,rfl,rfl⟩;rw [Ac] at d;cases e:b[i]? with
  | none=>rw [e] at d;cases d
  | some n=>
    rw [e] at d;obtain rfl:V.int n=x:=mF d;have f:i<b.length:=(BK.mp e).1
    have o:0<g:=by
     rcases m with h | h
     ·exact h
     ·rw [h] at f;exact absurd f (by simp)
    rwa [];refine ⟨o,⋯,?_⟩;rw [HQ V.int (q:=n / g) (by rw [Ac,e];rfl)]
 ·rintro j c ⟨_,rfl,rfl⟩ a r;have e:(b.map (·/ g)).take (b.map V.int).length=b.map (·/ g):=by rw [AJ,show b.length=(b.map (·/ g)).length by rw [AJ],CQ]
  rw [e];exact q a r
def SW {a:d8} {k:Nat}:co a k=a.getD k 0:=rfl
def MG (a:d8):Tz (Cz a):=by
 have b:∀ m,m<=a.length->DC a m=0\/co a (DC a m - 1)≠0:=by
  intro m
  induction m with
  | zero=>intro _;exact .inl rfl
  | succ m d=>
    intro e;rw [Id];split
    ·exact d ⋯
    ·rename_i z;right;rw [show m+1 - 1=m by omega,SW];rw [AQ,AZ ⋯] at z ⊢;exact z
 have c:(Cz a).length=DC a a.length:=L5;rcases b a.length (AR _) with h | h
 ·left;exact CB.mp (c.trans h)
 ·right;rw [c];show (Cz a).getD _ 0≠0;rw [SK];exact h
def MH (a:d8) (k:Nat):co (Cz a) k=co a k:=SK k
def Ig (n:Nat) (F:dC):Av n F=((List.range n).map F).map V.int:=rfl
def wV (a:d8) (f:Int) (n:Nat) (h:a.length<=n):List.map V.int (a.map (f*·))++List.replicate (n - a.length) (V.int 0)=Av n λk=>f*co a k:=by
 rw [Ig];apply EJ;intro i;by_cases b:i<a.length
 ·rw [List.getElem?_append_left (by rw [AJ,AJ];exact b),Ac,Ac,Ac,Ac,DU ⋯,AZ b];show _=some (V.int (f*a.getD i 0));rw [AQ,AZ b];rfl
 ·rw [List.getElem?_append_right (by rw [AJ,AJ];omega),AJ,AJ,Ac,Ac];by_cases c:i<n
  ·rw [FW,nV ⋯,DU c];show _=some (V.int (f*co a i));rw [Ah ⋯,Int.mul_zero]
  ·rw [FW,nU ⋯,BL (by rw [Bm];omega)];rfl
def wW (h:IV K vs H Q E):QG K { nx:=λ_ m=>Q .non m,rt:=Q } (L2.start ["row","factor","other","weight","shift","result","place","whole"] vs) H:=by
 obtain ⟨p,q,d,g,f,w,s,rfl,hp,P,hl,a0,bf,bw,bn,bm,k⟩:=h;unfold QG;rwa [];refine ⟨⟨_,SqL.of hp⟩,CompJ.lst (xs:=d.map V.int) (λi J m=>i<=d.length/\m=H/\J=((d.map (f*·)).take i).map V.int) ⟨Ae _,rfl,rfl⟩ ?_ ?_ ?_⟩
 ·rintro i J m ⟨Z,rfl,rfl⟩;refine ⟨by rw [AJ];exact Z,sz ?_,SqL.of hp⟩;rw [AJ,CG];omega
 ·rintro i x J m z ⟨Z,rfl,rfl⟩;rw [Ac] at z;cases e:d[i]? with
  | none=>rw [e] at z;cases z
  | some n=>
    rw [e] at z;obtain rfl:V.int n=x:=mF z;have a1:i<d.length:=(BK.mp e).1;rwa [];refine ⟨EC bf (bn n (A4 e)),⋯,?_⟩;rw [HQ V.int (q:=f*n) (by rw [Ac,e];rfl)]
 ·rintro J m ⟨_,rfl,rfl⟩ a R;have e:(d.map (f*·)).take (d.map V.int).length=d.map (f*·):=by rw [AJ,show d.length=(d.map (f*·)).length by rw [AJ],CQ]
  rw [e];generalize hL:max d.length (s+g.length)=L;have S:=AL R (.lst (List.map V.int (d.map (f*·))));have A:=S _ _ hp;have B:=S _ _ P;rwa [A,B];refine ⟨Kn upd_same,sz ∅,λb hb=>?_⟩;have M:=AL hb (.lst [.int 0]);refine ⟨_,M _ _ B,_,M _ _ A,?_⟩;have e0:(((g.map V.int).length:Int)+(s:Int) - ((d.map V.int).length:Int))=(g.length:Int)+(s:Int) - (d.length:Int):=by rw [AJ,AJ]
  rw [e0];have ek:((g.length:Int)+(s:Int) - (d.length:Int)).toNat=L - d.length:=by omega
  refine ⟨⋯,⋯,sz (by rw [ek];simp;omega),λc hc=>?_⟩;rw [ek,Ji];have sc:=AL hc (.lst (List.replicate (L - d.length) (V.int 0)));have T:upd m a (.lst (List.map V.int (d.map (f*·)))) a=some (HO.lst (List.map V.int (d.map (f*·)))):=upd_same;have C:=sc _ _ (M _ _ T);refine ⟨_,C,sz (by simp;omega),?_⟩;rw [wV d f L ⋯];generalize hX:upd (upd (upd m a (.lst (List.map V.int (d.map (f*·))))) b (.lst [.int 0])) c (.lst (List.replicate (L - d.length) (V.int 0)))=N at C ⊢;have sx:Same m N:=λx o h=>by rw [<-hX];exact sc x o (M x o (S x o h))
  have U:Same m (upd N a (.lst (Av L λk=>f*co d k))):=λx o h=>Kp.upd x o (BO h R) (sx x o h);have D:(upd N a (.lst (Av L λk=>f*co d k))) a=_:=upd_same;generalize upd N a (.lst (Av L λk=>f*co d k))=Hd at U D ⊢;refine ⟨⟨_,SqL.of (U _ _ P)⟩,ForJ.enumL (xs:=g.map V.int) (λj O F=>∃ x y:d7,O=[some (.ref p),some (.int f),some (.ref q),some (.int w),some (.int (s:Int)),some (.ref a),x,y]/\Same m F/\F a=some (.lst (Av L λk=>f*co d k - (if s<=k/\k - s<j then w*co g (k - s) else 0)))) ⟨none,none,rfl,U,?_⟩ ?_ ?_ ?_⟩
  ·rw [D];exact congrArg (λl=>some (HO.lst l)) (Ic λk _=>by rw [nU ⋯];omega)
  ·rintro j O F _ ⟨_,_,_,G,_⟩;exact SqL.of (G _ _ P)
  ·rintro j y pq O F I ⟨y3,y4,rfl,G,v⟩ W;rw [Ac] at I;cases em:g[j]? with
   | none=>rw [em] at I;cases I
   | some u=>
     rw [em] at I;obtain rfl:V.int u=y:=mF I;have jl:j<g.length:=(BK.mp em).1;have ud:co g j=u:=by rw [SW,AQ,em];rfl
     have sq:=AL W (.tup [.int (j:Int),.int u]);have X:=sq _ _ v;rwa [X];have Y:s+j<L:=by omega
     refine ⟨_,Ca ⋯ (DD _ Y),EC bw (bm u (A4 em)),_,rfl,s+j,?_,λb o h=>Kp.upd b o (BO h R) (sq b o (G b o h)),?_⟩
     ·rw [DO];exact FQ ⋯ Y
     ·refine HR Y ?_ λk _ hk=>?_
      ·rw [nV ⋯,nU ⋯,show s+j - s=j by omega,ud];omega
      ·by_cases h:s<=k/\k - s<j
       ·rw [nV h,nV ⋯]
       ·rw [nU h,nU ⋯]
  ·rintro O F ⟨y3,y4,rfl,G,v⟩;rw [AJ,Ig] at v;rwa [v];refine ⟨_,rfl,λr hr=>k r _ _ (G.trans (AL hr _)) upd_same (MG _) λi=>?_⟩;rw [MH,Je];unfold Ax;by_cases z:i<L
   ·rw [nV z];by_cases h:s<=i
    ·rw [nV h];by_cases h2:i - s<g.length
     ·rw [nV ⟨h,h2⟩]
     ·rw [nU ⋯,Ah (a:=g) ⋯];omega
    ·rw [nU h,nU ⋯];omega
   ·rw [nU z,Ah (a:=d) ⋯];by_cases h:s<=i
    ·rw [nV h,Ah (a:=g) ⋯];omega
    ·rw [nU h];omega
def wX (a b:Int):(a.fdiv b).natAbs<=a.natAbs:=by
 rw [Int.fdiv_eq_ediv];split
 ·rw [Int.sub_zero];exact Int.natAbs_ediv_le_natAbs a b
 ·rename_i h;have d:b<0:=by omega
  have f:¬ b∣a:=λz=>h (.inr z);have e:=Int.mul_ediv_add_emod a b;have i:=CV a (show b≠0 by omega);have j:=Int.emod_lt_of_neg a d;have rn:a % b≠0:=λz=>f (Int.dvd_of_emod_eq_zero z);generalize a / b=q at *;generalize a % b=r at *;rcases Int.lt_or_le q 1 with g | g
  ·have c:(-b)*(-q) ≥ 2*(-q):=Int.mul_le_mul_of_nonneg_right ⋯ ⋯;rw [Int.neg_mul_neg] at c;omega
  ·have c:(-b)*(q - 1) ≥ 1*(q - 1):=Int.mul_le_mul_of_nonneg_right ⋯ ⋯;rw [Int.neg_mul,Int.mul_sub] at c;omega
def MI {n m:Nat} {F:dC}:CW (Av n F) none (some (m:Int))=((List.range (min m n)).map F).map V.int:=by
 unfold CW HT.sIx;simp only [List.drop_zero,Nat.sub_zero,EI];rw [nU ⋯,DO];unfold Av;rw [<-List.map_take,<-List.map_take,List.take_range];congr 3;omega
def wY {n:Nat} {F:dC} (h:((List.range n).map F).any (λz=>!decide (z=0))=false):∀ k,k<n->F k=0:=by
 intro k hk;have:=List.any_eq_false.mp h (F k) (AX.mpr ⟨k,B9.mpr hk,rfl⟩);simpa using this
def SX {n s:Nat} {F:dC} {w:Int} (a:s<n) (b:F s=0) (g:dC) (k:Nat) :
  cvL ((List.range n).map λj=>if j=s then w else F j) g k=cvL ((List.range n).map F) g k+w*Ax s g k:=by
 have e:∀ m,m<=n->cvL ((List.range m).map λj=>if j=s then w else F j) g k=cvL ((List.range m).map F) g k+(if s<m then w*Ax s g k else 0):=by
  intro m
  induction m with
  | zero=>intro _;rw [nU ⋯];rfl
  | succ m c=>
    intro d;rw [E7,By,By,List.map_singleton,List.map_singleton,Db,Db,c ⋯,AJ,AJ,Bm];by_cases e:m=s
    ·subst e;rw [nV rfl,nU ⋯,nV ⋯,b];omega
    ·rw [nU e];by_cases h:s<m
     ·rw [nV h,nV ⋯];omega
     ·rw [nU h,nU ⋯];omega
 rw [e n (AR n),nV a]
def DE {b:Nat} {a:d8} (h:∀ z∈a,Bd b z) (k:Nat):Bd b (co a k):=IN h k
def J9 {n:Nat} {g:dC} (k:Nat):cvL ((List.range n).map λ_=>(0:Int)) g k=0:=by
 have e:((List.range n).map λ_=>(0:Int))=(List.replicate n (1:Int)).map (0*·):=by
  apply EJ;intro i;rw [Ac,Ac];by_cases h:i<n
  ·rw [DU h,FW,nV h];rfl
  ·rw [BL (by rw [Bm];omega),FW,nU h];rfl
 rw [e,BG];omega
def KA (a:d8):List.map V.int a=Av a.length (co a):=by
 rw [Ig];congr 1;apply EJ;intro i;rw [Ac];by_cases h:i<a.length
 ·rw [DU h,AZ h];show _=some (a.getD i 0);rw [AQ,AZ h];rfl
 ·rw [BL ⋯,BL (by rw [Bm];omega)];rfl
def HS {a:d8} (h:0<a.length):P_ (a.map V.int) (-1)=some (V.int (co a (a.length - 1))):=by
 refine atI_last (by rw [AJ];omega) ?_;rw [AJ,Ac,AZ ⋯];show _=some (V.int (a.getD (a.length - 1) 0));rw [AQ,AZ ⋯];rfl
def wZ (h:Fv K vs H Q E):Z8 K { nx:=λ_ H'=>Q .non H',rt:=Q } (L2.start ["row","divisor","rest","last","quotient","shift","weight","place"] vs) H:=by
 obtain ⟨p,q,f,g,b,d,rfl,hp,hq,lm,bn,bm,bb,b7,hn,hm,kN,kR⟩:=h;have m0:=lm.1;have P:=lm.2;obtain ⟨L,hL⟩:∃ L,g.length=L+1:=⟨g.length - 1,⋯⟩;have R:g.length - 1=L:=by omega
 rw [R] at P;generalize n:co g L=r at P;have aL:=HS m0;rw [R,n] at aL;generalize hc:f.length - L=c;refine Bu (Dd (AN rfl ⟨_,_,rfl,hp,λa ha=>?_⟩));have sa:=AL ha (.lst (f.map V.int));have ab:=sa _ _ hp;have al:=sa _ _ hq;have am:((List.map V.int g).length:Int) - 1=(L:Int):=by rw [AJ];omega
 refine ⟨_,rfl,_,_,rfl,al,_,_,rfl,rfl,?_⟩;show QF K _ [some (.ref p),some (.ref q),some (.ref a),some (.int (((List.map V.int g).length:Int) - 1)),none,none,none,none] _;rw [am];refine Bu (Az (Jk (M_ ⟨Dc,λx hx=>?_⟩)));have sx:=AL hx (.lst [.int 0]);have an:=sx _ _ ab
 have a1:(if (0:Int) > ((List.map V.int f).length:Int) - (L:Int) then (0:Int) else ((List.map V.int f).length:Int) - (L:Int))=(c:Int):=by
  rw [AJ];split <;> omega
 refine ⟨_,rfl,_,_,rfl,an,_,rfl,_,_,rfl,rfl,_,_,rfl,?_⟩;refine ⟨_,(c:Int),_,rfl,congrArg V.int a1,upd_same,⋯,⋯,sz (by simp;omega),λy hy=>?_⟩;refine LQ ha hx hy λH1 a2 a3 sH a4 ao=>?_;rw [KA f] at a2;rw [EI,Ly] at a3;have ap:=sH _ _ hp;have ar:((List.map V.int f).length:Int) - (L:Int) - 1=(f.length:Int) - (L:Int) - 1:=by rw [AJ]
 have b0:((f.length:Int) - (L:Int) - 1 - -1).toNat=c:=by omega
 refine PV ?_;refine ⟨_,rfl,_,_,rfl,ap,_,rfl,_,_,rfl,rfl,_,_,rfl,rfl,_,rfl,_,rfl,(f.length:Int) - (L:Int) - 1,_,by rw [<-ar],⟨⋯,⋯,∅,∅⟩,?_⟩;rw [b0]
 let Iv:Nat->L2.St->Hp->Prop:=λi S D=>i<=c/\∃ (F G:dC) (u v w:d7),S=[some (.ref p),some (.ref q),some (.ref a),some (.int (L:Int)),some (.ref y),u,v,w]/\Same H D/\D a=some (.lst (Av f.length F))/\D y=some (.lst (Av c G))/\
  (∀ j,j<c - i->G j=0)/\(∀ k,k<f.length - i->F k=co f k - cvL ((List.range c).map G) (co g) k)/\(∀ k,f.length - i<=k->co f k=cvL ((List.range c).map G) (co g) k)/\(∀ k,k<f.length->Bd (b+i*(d+1)) (F k))
 refine ForJ.down Iv ⟨Ae _,co f,λ_=>0,none,none,none,rfl,sH,a2,a3,λ_ _=>rfl,λk _=>by rw [J9];omega,λk hk=>by rw [J9,Ah ⋯],λk _=>(DE bn k).mono ⋯⟩ ?_ ?_
 ·rintro i S D hi ⟨_,F,G,u,v,w,rfl,s2,I,U,hG,hF,J,bF⟩;have a5:=s2 _ _ hq;have ic:i<c:=hi;have b1:((f.length:Int) - (L:Int) - 1 - (i:Int))=((c - 1 - i:Nat):Int):=by omega
  rw [b1];generalize hs:c - 1 - i=s;have b9:s+L=f.length - 1 - i:=by omega
  have aT:P_ (Av f.length F) ((s:Int)+(L:Int))=some (V.int (F (s+L))):=Ca (j:=s+L) ⋯ (DD F ⋯);refine ⟨_,rfl,_,rfl,_,rfl,_,_,rfl,rfl,_,_,_,_,rfl,rfl,I,aT,_,rfl,_,rfl,_,_,_,_,rfl,rfl,a5,aL,_,_,rfl,rfl,P,?_⟩;show QE K _ [some (.ref p),some (.ref q),some (.ref a),some (.int (L:Int)),some (.ref y),some (.int (s:Int)),some (.int ((F (s+L)).fdiv r)),w] D;generalize hw:(F (s+L)).fdiv r=m;have b2:=bF (s+L) ⋯;have W:Bd (b+i*(d+1)) m:=b2.le (by rw [<-hw];exact wX _ _)
  have bi:b+i*(d+1)<=60000000:=by
   have:=Cf (d+1) (show i<=f.length by omega);omega
  have ba:b+(i+1)*(d+1)<=60000000:=by
   have:=Cf (d+1) (show i+1<=f.length by omega);omega
  have b3:Bd d r:=by rw [<-n];exact DE bm L
  refine ⟨_,rfl,_,rfl,_,rfl,_,_,_,_,rfl,rfl,a5,aL,_,_,rfl,rfl,EC W b3,_,rfl,_,rfl,_,rfl,_,_,rfl,rfl,_,_,_,_,rfl,rfl,I,aT,rfl,_,rfl,Ag (λY=>?_) (λY=>?_)⟩
  ·refine kN (λ⟨A,hA⟩=>?_) _ s2;have M:m*r≠F (s+L):=by simpa using Y
   have hX:∀ k,cvL (A7 A (((List.range c).map G).map ((-1)*·))) (co g) k=co f k - cvL ((List.range c).map G) (co g) k:=λk=>by rw [Br,BG,<-hA];omega
   have q:=(MF lm (X:=A7 A (((List.range c).map G).map ((-1)*·))) (T:=s+1) (λk hk=>by rw [hX,J k ⋯];omega)).2 s rfl;rw [hX,R,n,<-hF (s+L) ⋯] at q;exact M (by rw [<-hw,q,Int.mul_fdiv_cancel _ P])
  have ex:m*r=F (s+L):=by simpa using Y
  refine ⟨_,rfl,_,rfl,_,rfl,_,_,_,s,rfl,rfl,U,by rw [DO];exact FQ rfl ⋯,?_⟩;show QD K _ [some (.ref p),some (.ref q),some (.ref a),some (.int (L:Int)),some (.ref y),some (.int (s:Int)),some (.int m),w] (upd D y (.lst ((Av c G).set s (V.int m))));have b4:(Av c G).set s (V.int m)=Av c (λj=>if j=s then m else G j):=HR ⋯ (nV rfl) λj _ hj=>nU hj;rw [b4];have s3:Same H (upd D y (.lst (Av c λj=>if j=s then m else G j))):=λz o h=>Kp.upd z o (BO h ao) (s2 z o h);have Z:(upd D y (.lst (Av c λj=>if j=s then m else G j))) a=_:=(Ad a4).trans I;have B:(upd D y (.lst (Av c λj=>if j=s then m else G j))) y=_:=upd_same;generalize (upd D y (.lst (Av c λj=>if j=s then m else G j)))=H3 at s3 Z B ⊢;have a6:∀ k,cvL ((List.range c).map λj=>if j=s then m else G j) (co g) k=cvL ((List.range c).map G) (co g) k+m*Ax s (co g) k:=λk=>SX ⋯ (hG s ⋯) _ k
  have a7:∀ (F':dC) (u v w:d7) (N:Hp),Same H N->N a=some (.lst (Av f.length F'))->N y=some (.lst (Av c λj=>if j=s then m else G j))->(∀ k,k<f.length->F' k=F k - (if s<=k/\k - s<L then m*co g (k - s) else 0))->
    Iv (i+1) [some (.ref p),some (.ref q),some (.ref a),some (.int (L:Int)),some (.ref y),u,v,w] N:=λF' u v w N s4 C O eF=>by
   refine ⟨⋯,F',_,u,v,w,rfl,s4,C,O,λj hj=>?_,λk hk=>?_,λk hk=>?_,λk hk=>?_⟩
   ·show (if j=s then m else G j)=0;rw [nU ⋯];exact hG j ⋯
   ·rw [eF k ⋯,a6,hF k ⋯];unfold Ax;by_cases h:s<=k
    ·rw [nV h,nV ⟨h,⋯⟩];omega
    ·rw [nU h,nU ⋯];omega
   ·rw [a6];by_cases ek:k=s+L
    ·have hf:=hF k ⋯;rw [ek] at hf ⊢;unfold Ax;rw [nV ⋯,show s+L - s=L by omega,n,ex];omega
    ·have h2:=J k ⋯;rw [h2];unfold Ax;by_cases h:s<=k
     ·rw [nV h,Ah (a:=g) ⋯];omega
     ·rw [nU h];omega
   ·rw [eF k hk];have e2:b+(i+1)*(d+1)=b+i*(d+1)+d+1:=by rw [Nat.add_mul];omega
    rw [e2];refine Bd.sub ((bF k hk).mono ⋯) ?_;split
    ·exact W.mul (DE bm _)
    ·exact D8 _
  refine ⟨_,rfl,rfl,_,rfl,Ag (λcw=>?_) (λcw=>?_)⟩
  ·refine ⟨_,rfl,_,rfl,⋯,⋯,?_⟩;rw [EI];refine ForR.by (λj S N=>∃ (u:d7),S=[some (.ref p),some (.ref q),some (.ref a),some (.int (L:Int)),some (.ref y),some (.int (s:Int)),some (.int m),u]/\Same H N/\N a=some (.lst (Av f.length λk=>F k - (if s<=k/\k - s<j then m*co g (k - s) else 0)))/\N y=some (.lst (Av c λj=>if j=s then m else G j))) ⟨w,rfl,s3,?_,B⟩ ?_ ?_
   ·rw [Z];exact congrArg (λl=>some (HO.lst l)) (Ic λk _=>by rw [nU ⋯];omega)
   ·rintro j S N hj ⟨u',rfl,s4,C,O⟩;have b5:=s4 _ _ hq;have aj:P_ (g.map V.int) (0+(j:Int))=some (V.int (co g j)):=Ca (j:=j) ⋯ (by rw [KA];exact DD _ ⋯);refine ⟨_,rfl,_,rfl,_,rfl,_,_,rfl,rfl,_,_,_,_,rfl,rfl,C,Ca (j:=s+j) ⋯ (DD _ ⋯),_,rfl,_,rfl,_,rfl,_,_,_,_,rfl,rfl,b5,aj,_,_,rfl,rfl,EC W (DE bm j),_,_,rfl,rfl,_,_,_,s+j,rfl,rfl,C,by rw [DO];exact FQ ⋯ ⋯,?_⟩;refine ⟨_,rfl,?_,?_,?_⟩
    ·intro z o h;exact Kp.upd z o (BO h ha) (s4 z o h)
    ·refine upd_same.trans (congrArg (λl=>some (HO.lst l)) (HR ⋯ ?_ λk _ hk=>?_))
     ·rw [nV ⋯,nU ⋯,show s+j - s=j by omega];omega
     ·by_cases h:s<=k/\k - s<j
      ·rw [nV h,nV ⋯]
      ·rw [nU h,nU ⋯]
    ·rw [Ad (Ne.symm a4)];exact O
   ·rintro S N ⟨u',rfl,s4,C,O⟩;exact a7 _ _ _ _ _ s4 C O λk _=>rfl
  ·have w0:m=0:=by simpa using cw
   exact a7 F _ _ _ _ s3 Z B λk _=>by rw [w0];split <;> omega
 ·rintro S D ⟨_,F,G,u,v,w,rfl,s2,I,U,hG,hF,J,bF⟩;refine ⟨_,rfl,_,rfl,_,rfl,_,_,rfl,I,λz hz=>?_⟩;have a0:=AL hz (.lst (((List.range (min L f.length)).map F).map V.int));refine ⟨z,(List.range (min L f.length)).map F,rfl,by rw [MI];exact upd_same,?_⟩;rw [MI];refine ⟨_,rfl,Ag (λY=>?_) (λY=>?_)⟩
  ·refine kN (λ⟨A,hA⟩=>?_) _ (s2.trans a0);have hX:∀ k,cvL (A7 A (((List.range c).map G).map ((-1)*·))) (co g) k=co f k - cvL ((List.range c).map G) (co g) k:=λk=>by rw [Br,BG,<-hA];omega
   have q:=(MF lm (X:=A7 A (((List.range c).map G).map ((-1)*·))) (T:=0) (λk hk=>by rw [hX,J k ⋯];omega)).1;have M:((List.range (min L f.length)).map F).any (λz=>!decide (z=0))=true:=by simpa using Y
   obtain ⟨z,b6,a8⟩:=List.any_eq_true.mp M;obtain ⟨k,hk,rfl⟩:=AX.mp b6;have hk:=B9.mp hk;have e:=hX k;rw [B7,Ft g (λj=>q j (Ae j)),<-hF k ⋯] at e;rw [<-e] at a8;simp at a8
  ·have M:((List.range (min L f.length)).map F).any (λz=>!decide (z=0))=false:=by simpa using Y
   have B:=a0 _ _ U;rw [Ig] at B;refine AN rfl (kR y _ _ (s2.trans a0) B (by rw [AJ,Bm];omega) λk=>?_);by_cases hk:f.length - c<=k
   ·exact J k hk
   ·have:=hF k ⋯;rw [wY M k ⋯] at this;omega
def SY {K:W.Frag} {a:Addr} {capt:List (Option Nat)} {g:TE} {h:L2.St} {Q:VK} {H:Hp} {b:d8} (F:Int->Int) (hp:H a=some (.lst (b.map V.int))) (u:b.length<=1000)
  (m:∀ n,n∈b->∀ P:VK,P (.int (F n)) H->g ((Cm capt h).set 0 (some (.int n))) H P) (o:∀ p,H p=none->Q (.ref p) (upd H p (.lst ((b.map F).map V.int)))):CompJ (aa K a) capt (AE 0) g h Q H:=by
 refine CompJ.lst (xs:=b.map V.int) (λi f c=>i<=b.length/\c=H/\f=((b.map F).take i).map V.int) ⟨Ae _,rfl,rfl⟩ ?_ ?_ ?_
 ·rintro i f c ⟨k,rfl,rfl⟩;refine ⟨by rw [AJ];exact k,sz ?_,SqL.of hp⟩;rw [AJ,CG];omega
 ·rintro i x f c d ⟨k,rfl,rfl⟩;rw [Ac] at d;cases e:b[i]? with
  | none=>rw [e] at d;cases d
  | some n=>
    rw [e] at d;obtain rfl:V.int n=x:=mF d;have r:i<b.length:=(BK.mp e).1;show g ((Cm capt h).set 0 (some (.int n))) c _;refine m n (A4 e) _ ⟨⋯,rfl,?_⟩;rw [HQ V.int (q:=F n) (by rw [Ac,e];rfl)]
 ·rintro f c ⟨_,rfl,rfl⟩ p j;have e:(b.map F).take (b.map V.int).length=b.map F:=by rw [AJ,show b.length=(b.map F).length by rw [AJ],CQ]
  rw [e];exact o p j
def vA (h:Js K vs H Q E):Qa K { nx:=λ_ a=>Q .non a,rt:=Q } (L2.start ["row","prime"] vs) H:=by
 obtain ⟨p,e,m,rfl,hp,b,c,q⟩:=h;unfold Qa;rwa [];refine ⟨⟨_,SqL.of hp⟩,SY (·% m) hp c (λn _ P d=>?_) q⟩;rwa [];exact ⟨b,d⟩
theorem Ih {F:Int->Int} (b:F 0=0) (a:d8) (k:Nat):co (a.map F) k=F (co a k):=by
 unfold co;rw [AQ,AQ,Ac];cases a[k]? with
 | none=>exact b.symm
 | some z=>rfl
def SZ {a:d8} {z:Int} (h:z∈Cz a):z∈a:=FX h
def vB (a:d8):(Cz a).length<=a.length:=by rw [L5];exact L4 _ _
def HU (a m:Int):m∣a % m - a:=⟨-(a / m),by have:=Int.emod_add_mul_ediv a m;rw [Int.mul_neg];omega⟩
def vC (h:HL K vs H Q E):Qb K { nx:=λ_ b=>Q .non b,rt:=Q } (L2.start ["row","prime"] vs) H:=by
 obtain ⟨p,g,m,rfl,hp,a,c,q⟩:=h;unfold Qb;rwa [hp];refine ⟨_,rfl,a,c,λr d=>?_⟩;refine ⟨_,rfl,λt e=>?_⟩;refine q t _ _ ((AL d _).trans (AL e _)) upd_same (MG _) (Bg (vB _) (by rw [AJ];exact AR _)) ⟨λz f=>?_,λk=>?_⟩
 ·obtain ⟨y,_,rfl⟩:=AX.mp (SZ f);exact ⟨CV _ ⋯,Cd _ a⟩
 ·rw [MH,Ih (Int.zero_emod m)];exact HU _ _
def vD (h:Jr K vs H Q E):QZ K { nx:=λ_ d=>Q .non d,rt:=Q } (L2.start ["whole","prime","one","other","one_weight","other_weight","quotient","rest"] vs) H:=by
 obtain ⟨a,p,rfl,p2,I,q⟩:=h;unfold QZ QY QX QW QV;rwa [];refine ⟨⋯,?_⟩;have J:=CV a (show p≠0 by omega);have L:=Cd a (show 0<p by omega)
 refine D5 (λn m d=>∃ (x y s t:Int) (u v:d7),m=[some (.int a),some (.int p),some (.int x),some (.int y),some (.int s),some (.int t),u,v]/\d=H/\n=y.toNat/\0<=y/\y<x/\x<=p/\
  Int.gcd x y=Int.gcd a p/\p∣x - s*a/\p∣y - t*a/\(t.natAbs:Int)*x+(s.natAbs:Int)*y<=p/\(s.natAbs:Int)<=p) (a % p).toNat ⟨p,a % p,0,1,none,none,rfl,rfl,rfl,J,L,Int.le_refl _,?_,⟨1,⋯⟩,?_,by simp,by simp;omega⟩ ?_
 ·rw [Nh a ⋯]
 ·rw [show a % p - 1*a=a % p - a by omega];exact HU a p
 ·rintro n m d ⟨x,y,s,t,u,v,rfl,rfl,rfl,e,yx,xp,f,o,r,hb,M⟩;have tx:(t.natAbs:Int)*1<=(t.natAbs:Int)*x:=Hu ⋯ ⋯;have sy:0<=(s.natAbs:Int)*y:=Int.mul_nonneg ⋯ e;have N:(t.natAbs:Int)<=p:=by omega
  rwa [];refine Ag (λc=>?_) (λc=>?_)
  ·have w:0<y:=by
    have:y≠0:=by simpa using c
    omega
   unfold QT QS QR QQ QP QO QN;have q0:=Int.ediv_nonneg (show 0<=x by omega) e;have q1:x / y<=x:=Int.ediv_le_self y ⋯;have r0:=CV x (show y≠0 by omega);have r1:=Cd x w;have g:x - x / y*y=x % y:=by have:=Int.emod_add_mul_ediv x y;rw [Int.mul_comm] at this;omega
   have B:∀ {z:Int},z.natAbs<=p.natAbs->Bd 60000000 z:=λh=>(I.le h).mono ∅;refine ⟨λO P=>∃ R,R<y.toNat/\_,λ_ _ h=>h,?_⟩;rwa [];refine ⟨w,EC (B ⋯) (B ⋯),EC (B ⋯) (B ⋯),?_⟩;refine ⟨(x - x / y*y).toNat,⋯,rfl,⋯,⋯,⋯,?_,r,?_,?_,N⟩
   ·rw [g,Nh x e];exact f
   ·obtain ⟨b,i⟩:=o;obtain ⟨A,S⟩:=r
    exact ⟨b - x / y*A,by
     generalize x / y=j at *;have k:x=s*a+p*b:=by omega
     have C:y=t*a+p*A:=by omega
     rw [k,C];ext⟩
   ·have T:((s - x / y*t).natAbs:Int)<=(s.natAbs:Int)+x / y*(t.natAbs:Int):=by
     have U:=Int.natAbs_sub_le s (x / y*t);rw [Bx] at U;have W:((x / y).natAbs:Int)=x / y:=by omega
     have h3:(((x / y).natAbs*t.natAbs:Nat):Int)=x / y*(t.natAbs:Int):=by rw [Int.natCast_mul,W]
     omega
    have n2:=Int.mul_le_mul_of_nonneg_right T e;rw [g];have X:(t.natAbs:Int)*(x % y)=(t.natAbs:Int)*x - (t.natAbs:Int)*(x / y*y):=by rw [<-g,Int.mul_sub]
    rw [X];generalize (t.natAbs:Int)=D at *;generalize (s.natAbs:Int)=F at *;generalize x / y=j at *;have n4:(F+j*D)*y=F*y+D*(j*y):=by ext
    omega
  ·have Y:y=0:=by simpa using c
   unfold QU;rwa [];refine ⟨⋯,q _ (CV _ ⋯) (Cd _ ⋯) λZ=>?_⟩
   have x1:x=1:=by
    rw [Y] at f;rw [Int.gcd_zero_right,Z] at f;omega
   obtain ⟨b,i⟩:=o;obtain ⟨G,a2⟩:=HU s p;refine ⟨G*a - b,?_⟩;have k:s % p=s+p*G:=by omega
   rw [k];have C:s*a=1 - p*b:=by omega
   ext
def vE (h:HM K vs H Q E):Qc K { nx:=λ_ w=>Q .non w,rt:=Q } (L2.start ["row","prime","factor"] vs) H:=by
 obtain ⟨q,a,p,rfl,g,o,u,x,A,b,k⟩:=h;have C:(2:Int)<=(p:Int):=by have:=o.two;omega
 unfold Qc;rwa [g];by_cases d:a=[]
 ·subst d;refine Ag (λ_=>?_) (λc=>absurd rfl c);refine ⟨sz ∅,λr j=>k r [] 0 _ (AL j _) upd_same rfl (λz=>absurd rfl z) ⟨λz b=>(by cases b),λi=>?_⟩⟩;show (p:Int)∣co [] i - 0*co [] i;rw [Ah (Ae _)];exact ⟨0,⋯⟩
 have D:0<a.length:=B4.mpr d;refine Ag (λc=>absurd c (by simpa using d)) (λ_=>?_);have G:=HS D;rwa [G];refine ⟨C,u,λf I J m=>?_⟩
 have L:co a (a.length - 1)≠0:=by
  rcases A with h | h
  ·exact absurd h d
  ·exact h
 have O:0<=co a (a.length - 1)/\co a (a.length - 1)<(p:Int):=b _ (by
  unfold co;rw [AQ,AZ ⋯];exact DH _)
 have M:Int.gcd (co a (a.length - 1)) (p:Int)=1:=o.cop λz=>by
  have:=Ea ⋯ z;omega
 have m:=m M;have B:∀ {z:Int},0<=z->z<(p:Int)->Bd 60000000 z:=λR S=>(u.le ⋯).mono ∅;refine ⟨⟨_,SqL.of g⟩,SY (λn=>n*f % (p:Int)) g x (λn d P N=>?_) λr j=>?_⟩
 ·rwa [];exact ⟨EC (B (b n d).1 (b n d).2) (B I J),⋯,N⟩
 ·have v:∀ i,co (a.map λn=>n*f % (p:Int)) i=co a i*f % (p:Int):=λi=>Ih (F:=λn=>n*f % (p:Int)) (by simp) a i;refine k r _ f _ (AL j _) upd_same (AJ ..) (λ_=>?_) ⟨λz b=>?_,λi=>?_⟩
  ·rw [AJ,v];obtain ⟨c,T⟩:=m;have e:co a (a.length - 1)*f=1+(p:Int)*c:=by rw [Int.mul_comm];omega
   rw [e,Int.add_mul_emod_self_left];exact Int.emod_eq_of_lt ∅ ⋯
  ·obtain ⟨y,_,rfl⟩:=AX.mp b;exact ⟨CV _ ⋯,Cd _ ⋯⟩
  ·rw [v];show (p:Int)∣co a i*f % (p:Int) - f*co a i;rw [Int.mul_comm f];exact HU _ _
def vF (h:Jw K vs H Q E):Qj K { nx:=λ_ d=>Q .non d,rt:=Q } (L2.start ["whole","prime","rest"] vs) H:=by
 obtain ⟨w,p,rfl,a,k⟩:=h;unfold Qj;rwa [];have g:=CV w (show p≠0 by omega);have i:=Cd w a;have b:=HU w p;refine ⟨a,IntMulOk.of_left (intBits_le_64 ⋯ ⋯),Ag (λc=>?_) (λc=>?_)⟩
 ·refine k _ ?_ ⋯;obtain ⟨e,f⟩:=b;exact ⟨e - 1,by rw [Int.mul_sub];omega⟩
 ·exact k _ b ⋯
def vG (h:Ju K vs H Q E):Qh K { nx:=λ_ a=>Q .non a,rt:=Q } (L2.start ["row","divisor","modulus"] vs) H:=by
 obtain ⟨p,q,d,e,m,b,rfl,hp,f,g,i,mp,j,c,n,o,u,k⟩:=h;unfold Qh;rwa [hp,f];refine ⟨d,rfl,e,rfl,g,i,mp,b,j,c,n,o,u,λt r s v w a x y C z D tr A B _=>?_⟩;refine ⟨_,y,?_⟩;rwa [];exact k s v w a x z tr A B
def vH (h:Jv K vs H Q E):Qi K { nx:=λ_ P=>Q .non P,rt:=Q } (L2.start ["row","other","prime","rest"] vs) H:=by
 obtain ⟨a,b,ns,ms,p,rfl,ha,hb,pp,Y,hn,hm,h0,k⟩:=h;have p2:(2:Int)<=(p:Int):=by have:=pp.two;omega
 unfold Qi;rwa [ha];refine ⟨ns,rfl,⋯,hn,λc r1 H1 s1 hc a2 l1 w=>?_⟩;refine ⟨r1,p,rfl,hc,pp,Y,⋯,a2,w.1,λd n f H2 s2 hd l2 o2 R=>?_⟩;have a3:=s2 _ _ (s1 _ _ hb);rwa [a3];refine ⟨ms,rfl,⋯,hm,λc' r3 H3 s3 a4 a5 l3 L=>?_⟩;refine ⟨r3,p,rfl,a4,pp,Y,⋯,a5,L.1,λd' r4 f' H4 s4 a6 l4 o4 S=>?_⟩;have a7:Same H H4:=((s1.trans s2).trans s3).trans s4;have a8:=(s3.trans s4) _ _ hd
 have I:∀ {g h:dC} {q:d8} {f:Int},Dm (p:Int) g h->Md (p:Int) q (λk=>f*h k)->Dm (p:Int) g (co q):=λ{g h q f} d v=>by
  refine Dm.congr (Dm.less d d f 0 0) λk=>?_;have:=v.2 k;show (p:Int)∣co q k - (f*h k - 0*_);rw [Int.zero_mul,Int.sub_zero];exact this
 have nz:∀ {i q M:d8} {f:Int},(∃ k,¬ (p:Int)∣co i k)->Md (p:Int) q (co i)->M.length=q.length->0<M.length:=λ{i q M f} ⟨k,hk⟩ v e=>by
  rcases DR M.length with z | z
  ·exfalso;have:=v.2 k;rw [Ah ⋯] at this;have t2:=Int.dvd_neg.mpr this;rw [show ∀ x:Int,-(0 - x)=x by intro x;omega] at t2;exact hk t2
  ·exact z
 have M1:∀ {i q:d8},Md (p:Int) q (co i)->∀ {g:dC},Dm (p:Int) g (co i)->Dm (p:Int) g (co q):=λv g d=>Dm.congr d v.2
 have J:∀ {g:dC} {r n:d8} {f:Int},Md (p:Int) n (λk=>f*co r k)->n.length=r.length->(r≠[]->co n (n.length - 1)=1)->Dm (p:Int) g (co n)->Dm (p:Int) g (co r):=λ{g r n f} v l o d=>by
  by_cases r0:r=[]
  ·exact Dm.zero _ _ λk=>by rw [r0,Ah (Ae _)];exact Cv _
  ·refine Dm.congr (Dm.less d d (co r (r.length - 1)) 0 0) λk=>?_;show (p:Int)∣co r k - (co r (r.length - 1)*co n k - 0*_);rw [Int.zero_mul,Int.sub_zero];have X:=v.2 k;have T:=v.2 (n.length - 1);rw [o r0,l] at T;have q1:(p:Int)∣co r (r.length - 1)*(co n k - f*co r k):=FZ X;have q2:(p:Int)∣co r k*(1 - f*co r (r.length - 1)):=FZ T;refine CS (Int.dvd_sub q2 q1) (FS ?_);ext
 have O:∀ {g:dC} {i r n:d8} {f:Int},Md (p:Int) r (co i)->Md (p:Int) n (λk=>f*co r k)->n.length=r.length->(r≠[]->co n (n.length - 1)=1)->Dm (p:Int) g (co n)->Dm (p:Int) g (co i):=λ{g i r n f} w v l o d=>Dm.congr (J v l o d) λk=>by
  have:=Int.dvd_neg.mpr (w.2 k);refine CS this (FS ?_);omega
 refine D5 (λm σ P=>∃ (x y:Addr) (i j:d8) (u:d7),σ=[some (.ref x),some (.ref y),some (.int (p:Int)),u]/\Same H P/\P x=some (.lst (i.map V.int))/\P y=some (.lst (j.map V.int))/\m=j.length/\i.length<=1000/\j.length<=1000/\(0<i.length\/0<j.length)/\(i≠[]->co i (i.length - 1)=1)/\(j≠[]->co j (j.length - 1)=1)/\(∀ z∈i,0<=z/\z<(p:Int))/\(∀ z∈j,0<=z/\z<(p:Int))/\
  (∀ g:dC,Dm (p:Int) g (co ns)->Dm (p:Int) g (co ms)->Dm (p:Int) g (co i)/\Dm (p:Int) g (co j))/\(∀ g:dC,Dm (p:Int) g (co i)->Dm (p:Int) g (co j)->Dm (p:Int) g (co ns)/\Dm (p:Int) g (co ms))) r4.length ⟨d,d',n,r4,none,rfl,a7,a8,a6,rfl,⋯,⋯,?_,?_,?_,R.1,S.1,λg C F=>⟨I (M1 w C) R,I (M1 L F) S⟩,λg C F=>⟨O w R l2 o2 C,O L S l4 o4 F⟩⟩ ?_
 ·rcases h0 with h | h
  ·exact .inl (nz (f:=f) h w l2)
  ·exact .inr (nz (f:=f) h L l4)
 ·intro z;exact o2 λe=>z (CB.mp (by rw [l2,e];rfl))
 ·intro z;exact o4 λe=>z (CB.mp (by rw [l4,e];rfl))
 ·rintro m σ P ⟨x,y,i,j,u,rfl,sH,hx,hy,rfl,xl,yl,ne,ox,oy,bx,bY,hD,hE⟩;rwa [hy];by_cases N:j=[]
  ·subst N;refine Ag (λc=>absurd c (by simp)) (λ_=>?_);have x0:0<i.length:=by simpa using ne
   have Z:Dm (p:Int) (co i) (co i):=⟨[1],λk=>by
    have e:cvL [1] (co i) k=co i k:=by
     cases k with
     | zero=>rw [At];omega
     | succ k=>rw [Am,BA];omega
    rw [e,Int.sub_self];exact Cv _⟩
   have zz:Dm (p:Int) (co i) (co []):=Dm.zero _ _ λk=>by rw [Ah (Ae _)];exact Cv _
   exact k x i P sH hx x0 xl (ox (B4.mp x0)) bx (λg C F=>(hD g C F).1) (hE _ Z zz).1 (hE _ Z zz).2
  ·have y0:0<j.length:=B4.mpr N;refine Ag (λ_=>?_) (λc=>absurd N (by simpa using c));refine ⟨λal am=>∃ m',m'<j.length/\_,λ_ _ h=>h,?_⟩;rwa [hx,hy];have B:∀ z:Int,0<=z->z<(p:Int)->Bd 45000 z:=λz X T=>Y.le ⋯;refine ⟨i,rfl,j,rfl,y0,oy N,⋯,45000,Y,λz hz=>B z (bY z hz).1 (bY z hz).2,∅,xl,yl,λs G q H2 a0 hs ab an v=>?_⟩
   have U:∀ g:dC,Dm (p:Int) g (co j)->Dm (p:Int) g (co q)->Dm (p:Int) g (co i):=λg C F=>by
    obtain ⟨S1,X⟩:=C;obtain ⟨D,T⟩:=F;refine ⟨A7 D (Bb G S1),λk=>?_⟩;rw [Br,Bt];have e1:=bO X G k;have m2:(p:Int)∣co q k - (co i k - cvL G (co j) k):=v.2 k;have:=Cu (Int.dvd_sub (T k) m2) e1;refine CS this (FS ?_);omega
   refine ⟨q,p,rfl,hs,pp,Y,⋯,ab,v.1,λt ts f H3 a1 ht lt ot W=>?_⟩;refine ⟨ts.length,⋯,(sH.trans a0).trans a1,j,(a0.trans a1) _ _ hy,ts,ht,rfl,yl,⋯,.inl y0,oy,λz=>ot λe=>z (CB.mp (by rw [lt,e];rfl)),bY,W.1,λg C F=>⟨(hD g C F).2,?_⟩,λg C F=>hE g (U g C (J W lt ot F)) C⟩;obtain ⟨dx,dy⟩:=hD g C F
   have dr:Dm (p:Int) g (co q):=by
    obtain ⟨S1,X⟩:=dx;obtain ⟨D,T⟩:=dy;refine Dm.congr (f:=λk=>co i k - cvL G (co j) k) ⟨A7 S1 ((Bb G D).map (-1*·)),λk=>?_⟩ v.2;rw [Br,BG,Bt]
    have e:(p:Int)∣cvL G (co j) k - cvL G (cvL D g) k:=by
     have aj:∀ (A:d8) (k:Nat),(p:Int)∣cvL A (co j) k - cvL A (cvL D g) k:=by
      intro A
      induction A with
      | nil=>intro k;rw [BA,BA];exact ⟨0,⋯⟩
      | cons a A ih=>
        intro k;rw [Fm,Fm]
        have i2:(p:Int)∣DZ (cvL A (co j)) k - DZ (cvL A (cvL D g)) k:=by
         cases k with
         | zero=>exact ⟨0,by show (0:Int) - 0=_;omega⟩
         | succ k=>exact ih k
        have i1:(p:Int)∣a*(co j k - cvL D g k):=FZ (T k);have:=Cu i1 i2;rw [show a*(co j k - cvL D g k)+(DZ (cvL A (co j)) k - DZ (cvL A (cvL D g)) k)=a*co j k+DZ (cvL A (co j)) k - (a*cvL D g k+DZ (cvL A (cvL D g)) k) by rw [Int.mul_sub];omega] at this;exact this
     exact aj G k
    have:=Int.dvd_sub (X k) e;rw [show co i k - cvL S1 g k - (cvL G (co j) k - cvL G (cvL D g) k)=co i k - cvL G (co j) k - (cvL S1 g k + -1*cvL G (cvL D g) k) by omega] at this;exact this
   exact I dr W
def vI (h:Jt K vs H Q E):zK K { nx:=λ_ H'=>Q .non H',rt:=Q } (L2.start ["row","divisor","modulus","rest","last","quotient","shift","weight","place"] vs) H:=by
 obtain ⟨p,q,d,g,m,b,rfl,hp,hq,m0,ml,mp,bm,a2,bb,hn,hm,kR⟩:=h;obtain ⟨L,hL⟩:∃ L,g.length=L+1:=⟨g.length - 1,⋯⟩;have a3:g.length - 1=L:=by omega
 rw [a3] at ml;generalize hc:d.length - L=c;refine Bu (Dd (AN rfl ⟨_,_,rfl,hp,λa ha=>?_⟩));have sa:=AL ha (.lst (d.map V.int));have a4:=sa _ _ hp;have a5:=sa _ _ hq;have a6:((List.map V.int g).length:Int) - 1=(L:Int):=by rw [AJ];omega
 refine ⟨_,rfl,_,_,rfl,a5,_,_,rfl,rfl,?_⟩;show Qg K _ [some (.ref p),some (.ref q),some (.int m),some (.ref a),some (.int (((List.map V.int g).length:Int) - 1)),none,none,none,none] _;rw [a6];refine Bu (Az (Jk (M_ ⟨Dc,λx hx=>?_⟩)));have a7:=AL hx (.lst [.int 0]) _ _ a4
 have T:(if (0:Int) > ((List.map V.int d).length:Int) - (L:Int) then (0:Int) else ((List.map V.int d).length:Int) - (L:Int))=(c:Int):=by
  rw [AJ];split <;> omega
 refine ⟨_,rfl,_,_,rfl,a7,_,rfl,_,_,rfl,rfl,_,_,rfl,?_⟩;refine ⟨_,(c:Int),_,rfl,congrArg V.int T,upd_same,⋯,⋯,sz (by simp;omega),λy hy=>?_⟩;refine LQ ha hx hy λH1 U W sH X a8=>?_;rw [KA d] at U;rw [EI,Ly] at W;have ab:=sH _ _ hp;have al:((List.map V.int d).length:Int) - (L:Int) - 1=(d.length:Int) - (L:Int) - 1:=by rw [AJ]
 have am:((d.length:Int) - (L:Int) - 1 - -1).toNat=c:=by omega
 refine PV ?_;refine ⟨_,rfl,_,_,rfl,ab,_,rfl,_,_,rfl,rfl,_,_,rfl,rfl,_,rfl,_,rfl,(d.length:Int) - (L:Int) - 1,_,by rw [<-al],⟨⋯,⋯,∅,∅⟩,?_⟩;rw [am]
 let Iv:Nat->L2.St->Hp->Prop:=λi O n=>i<=c/\∃ (F G:dC) (u v w:d7),O=[some (.ref p),some (.ref q),some (.int m),some (.ref a),some (.int (L:Int)),some (.ref y),u,v,w]/\Same H n/\n a=some (.lst (Av d.length F))/\n y=some (.lst (Av c G))/\
  (∀ j,j<c - i->G j=0)/\(∀ k,k<d.length - i->m∣F k - (co d k - cvL ((List.range c).map G) (co g) k))/\(∀ k,d.length - i<=k->m∣co d k - cvL ((List.range c).map G) (co g) k)/\(∀ j,j<c->0<=G j/\G j<m)
 refine ForJ.down Iv ⟨Ae _,co d,λ_=>0,none,none,none,rfl,sH,U,W,λ_ _=>rfl,λk _=>by rw [J9];exact ⟨0,⋯⟩,λk hk=>by rw [J9,Ah ⋯];exact ⟨0,⋯⟩,λk _=>⟨Int.le_refl 0,mp⟩⟩ ?_ ?_
 ·rintro i O n hi ⟨_,F,G,u,v,w,rfl,s2,I,J,hG,hF,P,bG⟩;have b1:=s2 _ _ hq;have ic:i<c:=hi;have an:((d.length:Int) - (L:Int) - 1 - (i:Int))=((c - 1 - i:Nat):Int):=by omega
  rw [an];generalize hs:c - 1 - i=s;have b2:s+L=d.length - 1 - i:=by omega
  have aT:P_ (Av d.length F) ((s:Int)+(L:Int))=some (V.int (F (s+L))):=Ca (j:=s+L) ⋯ (DD F ⋯);refine ⟨_,rfl,_,rfl,_,rfl,_,_,rfl,rfl,_,_,_,_,rfl,rfl,I,aT,_,rfl,_,_,rfl,rfl,mp,?_⟩;show Qe K _ [some (.ref p),some (.ref q),some (.int m),some (.ref a),some (.int (L:Int)),some (.ref y),some (.int (s:Int)),some (.int (F (s+L) % m)),w] n;have w0:=CV (F (s+L)) (show m≠0 by omega);have w1:=Cd (F (s+L)) mp;have wd:=HU (F (s+L)) m;generalize hw:F (s+L) % m=f at w0 w1 wd ⊢;have ao:Bd b f:=bm.le ⋯;refine ⟨_,rfl,_,rfl,_,rfl,_,_,_,s,rfl,rfl,J,by rw [DO];exact FQ rfl ⋯,?_⟩;show Qd K _ [some (.ref p),some (.ref q),some (.int m),some (.ref a),some (.int (L:Int)),some (.ref y),some (.int (s:Int)),some (.int f),w] (upd n y (.lst ((Av c G).set s (V.int f))));rw [show (Av c G).set s (V.int f)=Av c (λj=>if j=s then f else G j) from HR ⋯ (nV rfl) λj _ R=>nU R];have s3:Same H (upd n y (.lst (Av c λj=>if j=s then f else G j))):=λz o h=>Kp.upd z o (BO h a8) (s2 z o h);have A:(upd n y (.lst (Av c λj=>if j=s then f else G j))) a=_:=(Ad X).trans I;have S:(upd n y (.lst (Av c λj=>if j=s then f else G j))) y=_:=upd_same;generalize (upd n y (.lst (Av c λj=>if j=s then f else G j)))=H3 at s3 A S ⊢;have Y:∀ k,cvL ((List.range c).map λj=>if j=s then f else G j) (co g) k=cvL ((List.range c).map G) (co g) k+f*Ax s (co g) k:=λk=>SX ⋯ (hG s ⋯) _ k
  have Z:∀ (F':dC) (u v w:d7) (C:Hp),Same H C->C a=some (.lst (Av d.length F'))->C y=some (.lst (Av c λj=>if j=s then f else G j))->(∀ k,k<d.length->F' k=F k - (if s<=k/\k - s<L then f*co g (k - s) else 0))->
    Iv (i+1) [some (.ref p),some (.ref q),some (.int m),some (.ref a),some (.int (L:Int)),some (.ref y),u,v,w] C:=λF' u v w C M B D eF=>by
   refine ⟨⋯,F',_,u,v,w,rfl,M,B,D,λj R=>?_,λk hk=>?_,λk hk=>?_,λj R=>?_⟩
   ·show (if j=s then f else G j)=0;rw [nU ⋯];exact hG j ⋯
   ·have hf:=hF k ⋯;rw [eF k ⋯,Y];unfold Ax;by_cases h:s<=k
    ·rw [nV h,nV ⟨h,⋯⟩];rw [show ∀ x y z w:Int,x - y - (z - (w+y))=x - (z - w) by intro x y z w;omega];exact hf
    ·rw [nU h,nU ⋯];rw [show ∀ x z w:Int,x - 0 - (z - (w+f*0))=x - (z - w) by intro x z w;omega];exact hf
   ·rw [Y];by_cases ek:k=s+L
    ·have hf:=hF k ⋯;rw [ek] at hf ⊢;unfold Ax;rw [nV ⋯,show s+L - s=L by omega,ml];obtain ⟨α,b3⟩:=hf;obtain ⟨β,b4⟩:=wd;exact ⟨-α - β,by rw [Int.mul_sub,Int.mul_neg];omega⟩
    ·have N:=P k ⋯;unfold Ax;by_cases h:s<=k
     ·rw [nV h,Ah (a:=g) ⋯,Int.mul_zero,Int.add_zero];exact N
     ·rw [nU h,Int.mul_zero,Int.add_zero];exact N
   ·show 0<=(if j=s then f else G j)/\(if j=s then f else G j)<m;split
    ·exact ⟨w0,w1⟩
    ·exact bG j R
  refine ⟨_,rfl,rfl,_,rfl,Ag (λcw=>?_) (λcw=>?_)⟩
  ·refine ⟨_,rfl,_,rfl,⋯,⋯,?_⟩;rw [EI];refine ForR.by (λj O C=>∃ (u:d7),O=[some (.ref p),some (.ref q),some (.int m),some (.ref a),some (.int (L:Int)),some (.ref y),some (.int (s:Int)),some (.int f),u]/\Same H C/\C a=some (.lst (Av d.length λk=>F k - (if s<=k/\k - s<j then f*co g (k - s) else 0)))/\C y=some (.lst (Av c λj=>if j=s then f else G j))) ⟨w,rfl,s3,?_,S⟩ ?_ ?_
   ·rw [A];exact congrArg (λl=>some (HO.lst l)) (Ic λk _=>by rw [nU ⋯];omega)
   ·rintro j O C R ⟨u',rfl,M,B,D⟩;have ap:=M _ _ hq;have aj:P_ (g.map V.int) (0+(j:Int))=some (V.int (co g j)):=Ca (j:=j) ⋯ (by rw [KA];exact DD _ ⋯);refine ⟨_,rfl,_,rfl,_,rfl,_,_,rfl,rfl,_,_,_,_,rfl,rfl,B,Ca (j:=s+j) ⋯ (DD _ ⋯),_,rfl,_,rfl,_,rfl,_,_,_,_,rfl,rfl,ap,aj,_,_,rfl,rfl,EC ao (DE a2 j),_,_,rfl,rfl,_,_,_,s+j,rfl,rfl,B,by rw [DO];exact FQ ⋯ ⋯,?_⟩;refine ⟨_,rfl,?_,?_,?_⟩
    ·intro z o h;exact Kp.upd z o (BO h ha) (M z o h)
    ·refine upd_same.trans (congrArg (λl=>some (HO.lst l)) (HR ⋯ ?_ λk _ hk=>?_))
     ·rw [nV ⋯,nU ⋯,show s+j - s=j by omega];omega
     ·by_cases h:s<=k/\k - s<j
      ·rw [nV h,nV ⋯]
      ·rw [nU h,nU ⋯]
    ·rw [Ad (Ne.symm X)];exact D
   ·rintro O C ⟨u',rfl,M,B,D⟩;exact Z _ _ _ _ _ M B D λk _=>rfl
  ·have ar:f=0:=by simpa using cw
   exact Z F _ _ _ _ s3 A S λk _=>by rw [ar];split <;> omega
 ·rintro O n ⟨_,F,G,u,v,w,rfl,s2,I,J,hG,hF,P,bG⟩;rw [Ig] at J;show Qf K _ _ _;refine CU (CD (Bw ⟨_,rfl,_,_,rfl,J,λt ht=>?_⟩));have st:=AL ht (.lst (List.map V.int (Cz (List.map G (List.range c)))));have A:=st _ _ I;have a0:upd n t (.lst (List.map V.int (Cz (List.map G (List.range c))))) t=_:=upd_same;generalize upd n t (.lst (List.map V.int (Cz (List.map G (List.range c)))))=H3 at st A a0 ⊢;refine CL ⟨_,rfl,_,rfl,_,rfl,_,_,rfl,A,λz hz=>⟨_,rfl,z,(List.range (min L d.length)).map F,m,rfl,by rw [MI];exact upd_same,mp,by rw [AJ,Bm];omega,λr rs C M b0 tr lr md=>?_⟩⟩;have a1:=(AL hz _).trans M;rw [AJ,Bm] at lr;refine ⟨BC,λe he=>?_⟩;have se:=AL he (.tup [.ref t,.ref r])
  have cq:∀ k,cvL (Cz ((List.range c).map G)) (co g) k=cvL ((List.range c).map G) (co g) k:=λk=>by
   rw [B7,BE (λj=>MH _ j) g k,<-B7]
  refine kR e t r _ rs _ ((s2.trans st).trans (a1.trans se)) upd_same (se _ _ (a1 _ _ a0)) (se _ _ b0) (MG _) tr ⋯ ⟨md.1,λk=>?_⟩ λz hz=>?_
  ·have:=md.2 k;rw [Je] at this;show m∣co rs k - (co d k - cvL (Cz ((List.range c).map G)) (co g) k);rw [cq];by_cases hk:k<min L d.length
   ·rw [nV hk] at this;have N:=Cu this (hF k ⋯);rw [show ∀ x y z:Int,x - y+(y - z)=x - z by intro x y z;omega] at N;exact N
   ·rw [nU hk] at this;have N:=Int.dvd_sub this (P k ⋯);rw [show ∀ x y:Int,x - 0 - y=x - y by intro x y;omega] at N;exact N
  ·obtain ⟨j,R,rfl⟩:=AX.mp (SZ hz);exact bG j (B9.mp R)
theorem SDs.tp {H a:Hp} (s:Same H a):∀ {xs:c_} {b:List (d8)},SDs H xs b->SDs a xs b
 | [],[],_=>trivial
 | _::_,_::_,h=>⟨let ⟨p,e,q⟩:=h.1;⟨p,e,s _ _ q⟩,SDs.tp s h.2⟩
 | [],_::_,h=>h.elim
 | _::_,[],h=>h.elim
def SD.tp {H a:Hp} (s:Same H a) {p:Addr} {b:List (d8)} (h:SD H p b):SD a p b:=let ⟨c,e,q⟩:=h;⟨c,s _ _ e,q.tp s⟩
theorem SDs.length {H:Hp}:∀ {xs:c_} {a:List (d8)},SDs H xs a->xs.length=a.length
 | [],[],_=>rfl
 | _::_,_::_,h=>congrArg (·+1) (SDs.length h.2)
 | [],_::_,h=>h.elim
 | _::_,[],h=>h.elim
theorem SDs.get {H:Hp}:∀ {xs:c_} {a:List (d8)} {i:Nat} {v:V},SDs H xs a->xs[i]?=some v->∃ p r,v=.ref p/\a[i]?=some r/\H p=some (.lst (r.map V.int))
 | [],[],_,_,_,e=>by simp at e
 | _::_,r::_,0,_,h,e=>by
   simp at e;subst e;obtain ⟨p,e,q⟩:=h.1;exact ⟨p,r,e,rfl,q⟩
 | _::_,_::_,i+1,_,h,e=>by
   obtain ⟨p,r,b,c,d⟩:=SDs.get (i:=i) h.2 (by simpa using e);exact ⟨p,r,b,by simpa using c,d⟩
 | [],_::_,_,_,h,_=>h.elim
 | _::_,[],_,_,h,_=>h.elim
theorem SDs.snoc {H:Hp} {p:Addr} {r:d8} (hp:H p=some (.lst (r.map V.int))):∀ {xs:c_} {a:List (d8)},SDs H xs a->SDs H (xs++[.ref p]) (a++[r])
 | [],[],_=>⟨⟨p,rfl,hp⟩,trivial⟩
 | _::_,_::_,h=>⟨h.1,SDs.snoc hp h.2⟩
 | [],_::_,h=>h.elim
 | _::_,[],h=>h.elim
theorem SD.head {H:Hp} {p:Addr} {r:d8} {c:List (d8)} (h:SD H p (r::c)):∃ a b,H p=some (.lst (.ref a::b))/\H a=some (.lst (r.map V.int))/\SDs H (.ref a::b) (r::c):=by
 obtain ⟨b,e,q⟩:=h
 match b,q with
 | [],q=>exact q.elim
 | x::b,q=>
   obtain ⟨a,d,f⟩:=q.1;subst d;exact ⟨a,b,e,f,q⟩
def HV {a:Type} (x:a) (xs:List a):P_ (x::xs) 0=some x:=by
 unfold P_ Y';rw [nV ∅,nV (by rw [CP];omega)];rfl
def vJ (h:IW K vs H Q E):QK K { nx:=λ_ A=>Q .non A,rt:=Q } (L2.start ["strand","shared","row"] vs) H:=by
 obtain ⟨p,b,rfl,⟨I,hp,P⟩,hl,D,k⟩:=h;have lx:=P.length;unfold QK;rwa [];refine ⟨⟨_,SqL.of hp⟩,ForL.by (xs:=I) (λi J A=>∃ (g:Int) (u:d7),J=[some (.ref p),some (.int g),u]/\Same H A/\0<=g/\(∀ r∈b.take i,∀ z∈r,g∣z)/\(∀ d:Int,(∀ r∈b.take i,∀ z∈r,d∣z)->d∣g)) ⟨0,none,rfl,Same.refl H,Int.le_refl 0,λr D=>(by simp at D),λd _=>Cv d⟩ ?_ ?_ ?_⟩
 ·rintro i J A _ ⟨g,u,rfl,s,_⟩;exact SqL.of (s _ _ hp)
 ·rintro i x J A R ⟨g,u,rfl,s,g0,B,L⟩;obtain ⟨a,r,rfl,j,S⟩:=P.get R;have v:=s _ _ S;have w:=D r (A4 j);rwa [v];refine ⟨r,rfl,w.1,λg' C n T d1 d2 d3=>?_⟩;have F:b.take (i+1)=b.take i++[r]:=by rw [List.take_add_one,j];rfl
  refine ⟨s.trans n,T,λU o z m=>?_,λd M=>d3 d ?_ λz m=>?_⟩
  ·rw [F] at o;rcases CO.mp o with h | h
   ·exact CS d1 (B U h z m)
   ·rw [Aw.mp h] at m;exact d2 z m
  ·exact L d λU o z m=>M U (by rw [F];exact F7 _ o) z m
  ·exact M r (by rw [F];exact C4 _ (Aw.mpr rfl)) z m
 ·rintro J A ⟨g,u,rfl,s,g0,B,L⟩;rw [lx,CQ] at B L;have W:=s _ _ hp
  have gz:∀ r∈b,0<g\/r=[]:=λr f=>by
   rcases Int.lt_or_le 0 g with h | h
   ·exact .inl h
   ·right;have G:g=0:=by omega
    rcases (D r f).2 with h | h
    ·exact h
    ·exfalso;by_cases a0:r.length=0
     ·rw [Ah ⋯] at h;exact h rfl
     ·have:=B r f (co r (r.length - 1)) (by
       unfold co;rw [AQ,AZ ⋯];exact DH _)
      rw [G] at this;exact h (Int.zero_dvd.mp this)
  rwa [];refine ⟨⟨_,SqL.of W⟩,CompJ.lst (xs:=I) (λi y C=>i<=b.length/\Same H C/\SDs C y ((b.take i).map λr=>r.map (·/ g))) ⟨Ae _,s,trivial⟩ ?_ ?_ ?_⟩
  ·rintro i y C ⟨X,n,q⟩;refine ⟨⋯,sz ?_,SqL.of (n _ _ hp)⟩;rw [q.length,AJ,CG];omega
  ·rintro i x y C R ⟨X,n,q⟩;obtain ⟨a,r,rfl,j,S⟩:=P.get R;have v:=n _ _ S;have w:=D r (A4 j);have a1:i<b.length:=(BK.mp j).1;rwa [v];refine ⟨r,rfl,gz r (A4 j),w.1,λt N=>?_⟩;refine ⟨⋯,n.trans (AL N _),?_⟩;have F:(b.take (i+1)).map (λr=>r.map (·/ g))=(b.take i).map (λr=>r.map (·/ g))++[r.map (·/ g)]:=by rw [List.take_add_one,j];simp
   rw [F];exact SDs.snoc upd_same (q.tp (AL N _))
  ·rintro y C ⟨_,n,q⟩ t N;rw [lx,CQ] at q;have O:=AL N (.lst y);by_cases gp:0<g
   ·refine k t _ _ (n.trans O) ⟨y,upd_same,q.tp O⟩ ⟨g,gp,?_⟩ (.inr λd M=>?_)
    ·rw [B3]
     conv=>lhs;rw [<-List.map_id b]
     refine Ce λr f=>?_;show r=(r.map (·/ g)).map (g*·);rw [B3]
     conv=>lhs;rw [<-List.map_id r]
     refine Ce λz m=>?_;show z=g*(z / g);rw [GA (B r f z m)]
    ·have Y:d*g∣g:=L (d*g) λr f z m=>by
      have X:=M (r.map (·/ g)) (AX.mpr ⟨r,f,rfl⟩) (z / g) (AX.mpr ⟨z,m,rfl⟩);obtain ⟨c,Z⟩:=X;refine ⟨c,?_⟩;have:=GA (B r f z m);rw [<-this,Z];ext
     obtain ⟨c,Z⟩:=Y
     have e:g*(d*c)=g*1:=by rw [Int.mul_one];conv=>rhs;rw [Z]
                            ext
     have e1:=Int.eq_of_mul_eq_mul_left ⋯ e;have:d.natAbs*c.natAbs=1:=by rw [<-Bx,e1];rfl
     exact Nat.eq_one_of_mul_eq_one_right this
   ·have G:∀ r∈b,r=[]:=λr f=>by
     rcases gz r f with h | h
     ·exact absurd h gp
     ·exact h
    have em:b.map (λr=>r.map (·/ g))=b:=by
     conv=>rhs;rw [<-List.map_id b]
     refine Ce λr f=>?_;rw [G r f];rfl
    rw [em] at q;refine k t b _ (n.trans O) ⟨y,upd_same,q.tp O⟩ ⟨1,∅,?_⟩ (.inl G)
    conv=>lhs;rw [<-List.map_id b]
    refine Ce λr f=>?_;rw [G r f];rfl
def vK {r:d8} (h:∀ d:Int,(∀ z∈r,d∣z)->d.natAbs=1):Prim r:=λc a=>h c λz b=>by
 obtain ⟨i,e,rfl⟩:=E6 b;have:=a i;unfold co at this;rw [AQ,AZ e] at this;exact this
theorem vL (h:GZ K vs H Q E):QL K { nx:=λ_ j=>Q .non j,rt:=Q } (L2.start ["row"] vs) H:=by
 obtain ⟨p,u,rfl,hp,x,y,k⟩:=h;unfold QL;rwa [];refine ⟨sz ∅,λa A=>?_⟩;have v:=AL A (.lst [.ref p]);refine ⟨[u],⟨[V.ref p],upd_same,⟨⟨p,rfl,v _ _ hp⟩,trivial⟩⟩,by simp,?_,λt c j B e m n=>?_⟩
 ·intro r o;rw [Aw.mp o];exact ⟨x,y⟩
 obtain ⟨g,C,f⟩:=m
 match c,f,e,n with
 | [q],f,e,n=>
   obtain ⟨b,I,D,F,_⟩:=e.head;have i:u=q.map (g*·):=by simpa using f
   refine ⟨_,D,_,HV _ _,k b q g j (v.trans B) F C i ?_⟩;rcases n with h | h
   ·left;rw [i,h q (Aw.mpr rfl)];rfl
   ·right;exact vK λd G=>h d λr o z w=>by rw [Aw.mp o] at w;exact G z w
 | [],f,_,_=>simp at f
 | _::_::_,f,_,_=>simp at f
def Sa {a b:d8} (c:Tz a) (n:Nat) (h:∀ k,n<=k->co a k=0):a.length<=n:=by
 rcases A5 n a.length with z | z
 ·rcases c with e | e
  ·rw [e] at z;simp at z
  ·exact absurd (h _ ⋯) e
 ·exact z
def HW {n:Nat} {a:d8} (h:∀ k,Bd n (co a k)):∀ z∈a,Bd n z:=λz b=>by
 obtain ⟨i,c,rfl⟩:=E6 b;have:=h i;unfold co at this;rw [AQ,AZ c] at this;exact this
def Gf (g:Int) (a:d8) (k:Nat):co (a.map (g*·)) k=g*co a k:=Ih (F:=(g*·)) ⋯ a k
def MJ {g:Int} (b:g≠0) {a:d8} (h:Tz (a.map (g*·))):Tz a:=by
 rcases h with h | h
 ·left;exact List.map_eq_nil_iff.mp h
 ·right;rw [Gf,AJ] at h;exact λz=>h (by rw [z];omega)
def MK {n:Nat} {g:Int} (c:0<g) {a:d8} (h:∀ z∈a.map (g*·),Bd n z):∀ z∈a,Bd n z:=λz b=>(h (g*z) (AX.mpr ⟨z,b,rfl⟩)).le (by
 rw [Bx];exact Gs _ ⋯)
def Sb {a b:Int} (c:b≠0) (h:a∣b):a.natAbs<=b.natAbs:=Ea ⋯ (C5.mpr h)
def vM (h:Jq K vs H Q E):QJ K { nx:=λ_ d=>Q .non d,rt:=Q } (L2.start ["strand","other","shift","top","lead","shared","factor","weight"] vs) H:=by
 obtain ⟨p,q,o,rfl,j,v,G,k⟩:=h;obtain ⟨ac,w,hp,f,_⟩:=j.head;obtain ⟨m,x,y,i,_⟩:=v.head;have z:P_ (V.ref ac::w) 0=some (V.ref ac):=HV _ _;have A:P_ (V.ref m::x) 0=some (V.ref m):=HV _ _;unfold QJ;rwa [];refine D5 (λn u d=>u=[some (.ref p),some (.ref q),none,none,none,none,none,none]/\d=H/\n=0) 0 ⟨rfl,rfl,rfl⟩ ?_;rintro n u d ⟨rfl,rfl,rfl⟩;rwa [hp,y,f,i,z,A];refine Ag (λc=>by rw [AJ] at c;exfalso;omega) (λ_=>?_);unfold QH;rwa [];refine ⟨[[]],j,∅,(λr B=>by rw [Aw.mp B];exact ⟨∅,.inl rfl⟩),λt a C s1 b D _=>k t C s1 ?_⟩;obtain ⟨g,_,e⟩:=D;have F:a.length=1:=by have:=congrArg List.length e;simpa using this.symm
 obtain ⟨r,rfl⟩:∃ r,a=[r]:=List.length_eq_one_iff.mp F;have e:[]=r.map (g*·):=List.head_eq_of_cons_eq e;rw [List.map_eq_nil_iff.mp e.symm] at b;exact b
def DP {a:d8} (h:Tz a) (b:a≠[]):Lz a:=by
 refine ⟨B4.mpr b,?_⟩;rcases h with e | e
 ·exact absurd e b
 ·exact e
def vN (h:IX K vs H Q E):QM K { nx:=λ_ b=>Q .non b,rt:=Q } (L2.start ["strand","other","rest"] vs) H:=by
 obtain ⟨p,q,s,o,rfl,r,f,em,k⟩:=h;unfold QM;rwa [];refine D5 (λn i b=>(i=[some (.ref p),some (.ref q),none]/\b=H/\n=1)\/∃ (t:Addr) (u:d7),i=[some (.ref q),some (.ref t),u]/\Same H b/\SD b t [[]]/\o≠[]/\n=0) 1 (.inl ⟨rfl,rfl,rfl⟩) ?_;rintro n i b (⟨rfl,rfl,rfl⟩ | ⟨t,u,rfl,v,j,y,rfl⟩)
 ·obtain ⟨w,A,x,d,_⟩:=f.head;have g:P_ (V.ref w::A) 0=some (V.ref w):=HV _ _;rwa [x,d,g];by_cases a:o=[]
  ·refine Ag (λc=>absurd a (by simpa using c)) (λ_=>?_);rw [nV a] at k;exact k p _ (Same.refl _) r
  ·refine Ag (λ_=>?_) (λc=>absurd (by simpa using c) a)
   have B:s=[]:=by
    rcases em with z | z
    ·exact z
    ·exact absurd z a
   rw [nU a] at k;refine ⟨λC D=>∃ F,F<1/\_,λ_ _ h=>h,?_⟩;rwa [x,d,g];refine Ag (λ_=>k q _ (Same.refl _) f) (λ_=>?_);refine ⟨by rw [<-B];exact r,o,f,B4.mpr a,λt J s1 j=>?_⟩;exact ⟨0,∅,.inr ⟨s1,j,a,rfl⟩⟩
 ·obtain ⟨e,G,I,m,_⟩:=j.head;have g:P_ (V.ref e::G) 0=some (V.ref e):=HV _ _;rwa [I,m,g];refine Ag (λc=>absurd c (by simp)) (λ_=>?_);rw [nU y] at k;exact k q _ v (f.tp v)
def vO {b n c:Nat} {r a g:d8} (o:∀ z∈r,Bd b z) (f:r.length<=n) (p:n<2 ^ c) (i:Lz g) (h:∀ k,co r k=cvL a (co g) k):∀ k,Bd (b+n*(2*c+4)) (co a k):=by
 rcases ES a with z | ⟨d,e,_,j⟩
 ·intro k;rw [z k];exact D8 _
 have m:∀ k,co r k=cvL g (co d) k:=λk=>by rw [h k,B7,BE (λk=>(j k).symm) g k]
 have t:co r (d.length - 1+(g.length - 1))≠0:=by rw [m,B7,Ie e i];exact CC e.2 i.2
 have q:d.length<=r.length:=by
  rcases A5 (d.length - 1+(g.length - 1)) r.length with c | c
  ·have:=e.1;omega
  ·exact absurd (Ah c) t
 intro k;rw [<-j k];exact Ge o ⟨_,t⟩ f (Bg q f) p m k
def vP {G S:d8} (a:Lz G) (h:∀ k,cvL S (co G) k=0) (k:Nat):co S k=0:=(MF a (T:=0) λk _=>h k).1 k (Ae k)
def Gen.Prim {r o:dC} {g:d8} (G:Gen r o g):Prim g:=λc a=>by
 rcases A5 c.natAbs 2 with h | h
 ·rcases DR c.natAbs with z | z
  ·exfalso;have b:c=0:=by omega
   have:=a (g.length - 1);rw [b] at this;exact G.lz.2 (Int.zero_dvd.mp this)
  ·omega
 ·exfalso;obtain ⟨n,d,_⟩:=G.prim h;exact d (Int.natAbs_dvd.mpr (a n))
def vQ {R O A B G:d8} (a:Lz G) (b:∀ k,co R k=cvL A (co G) k) (c:∀ k,co O k=cvL B (co G) k) (q:QI (co R) (co O) (co G)):QI (co A) (co B) AY:=by
 obtain ⟨d,f,U,V,h⟩:=q;refine ⟨d,f,U,V,λk=>?_⟩
 have z:=vP (S:=A7 (A7 (Bb U A) (Bb V B)) [-d]) a (λk=>by
  rw [Br,Br,Bt,Bt,<-BE b,<-BE c];have:=h k
  have e:cvL [-d] (co G) k = -d*co G k:=by
   cases k with
   | zero=>rw [At];omega
   | succ k=>rw [Am,BA];omega
  rw [e,Int.neg_mul,this];omega) k
 rw [Cy,Br,Br,Bt,Bt,<-BE (Cy A),<-BE (Cy B)] at z
 have e:cvL [-d] AY k = -d*AY k:=by
  cases k with
  | zero=>rw [At];omega
  | succ k=>rw [Am,BA];omega
 rw [e,Int.neg_mul] at z;omega
def vR (p:Nat) (e:0<p) (S:d8):(∀ k,(p:Int)∣co S k)\/∃ T,Lz T/\(∀ k,(p:Int)∣co S k - co T k)/\¬ (p:Int)∣co T (T.length - 1):=by
 have a:∀ k,co (S.map (·% (p:Int))) k=co S k % (p:Int):=λk=>Ih (F:=(·% (p:Int))) (Int.zero_emod _) S k;rcases ES (S.map (·% (p:Int))) with z | ⟨T,b,_,c⟩
 ·exact .inl λk=>Int.dvd_of_emod_eq_zero (by rw [<-a k];exact z k)
 ·refine .inr ⟨T,b,λk=>?_,λh=>?_⟩
  ·rw [c,a];exact ⟨co S k / p,by have:=Int.emod_add_mul_ediv (co S k) p;omega⟩
  ·have d:=c (T.length - 1);rw [a] at d;have f:=CV (co S (T.length - 1)) (show (p:Int)≠0 by omega);have g:=Cd (co S (T.length - 1)) (show (0:Int)<p by omega);have:=b.2;have l:=Int.le_of_dvd ⋯ h;omega
def cvT {p:Int} {S T:d8} {g:dC} {n:Nat} (a:∀ i,n<=i->g i=0) (h:∀ k,p∣co S k - co T k) (k:Nat):p∣cvL S g k - cvL T g k:=by
 have e:∀ k,g k=co ((List.range n).map g) k:=λk=>by
  rw [Je];split
  ·rfl
  ·exact a k ⋯
 rw [BE e,BE e,B7,B7 T]
 have:=bO (S:=[1]) (f:=co S) (g:=co T) (λk=>by
  have d:cvL [1] (co T) k=co T k:=by
   cases k with
   | zero=>rw [At];omega
   | succ k=>rw [Am,BA];omega
  rw [d];exact h k) ((List.range n).map g) k
 rwa [BE (b:=cvL [1] (co T)) (c:=co T) (λk=>by
  cases k with
  | zero=>rw [At];omega
  | succ k=>rw [Am,BA];omega)] at this
def Sc {p:Nat} (hp:Pr p) {R A G a T:d8} (b:∀ k,co R k=cvL A (co G) k) (m:Lz G) (c:¬ (p:Int)∣co G (G.length - 1)) (f:∀ k,(p:Int)∣co a k - cvL T (co G) k) (d:Dm (p:Int) (co a) (co R)):Dm (p:Int) (co T) (co A):=by
 obtain ⟨X,g⟩:=d;refine ⟨X,λk=>?_⟩
 have z:=Jd hp c (λi n=>by rw [Ah ⋯];exact Cv _) (A7 A ((Bb X T).map ((-1)*·))) (λk _=>by
  rw [Br,BG,Bt,<-b];have h:=g k;have j:=bO f X k;have:=Cu h j;refine CS this (FS ?_);omega)
 have e:co A k - cvL X (co T) k=co (A7 A ((Bb X T).map ((-1)*·))) k:=by
  rw [Cy (A7 A _),Br,BG,Bt,<-Cy,<-BE (Cy T)];omega
 rw [e];exact SM z k
def vS {x e c M p N:Nat} (b:x<2 ^ (c+1)) (d:N<=M) (a:2 ^ ((e+c+2)*M)<p):(2*(x*2 ^ e)) ^ N<p:=by
 have f:2*(x*2 ^ e)<=2 ^ (e+c+2):=by
  have:x*2 ^ e<=2 ^ (c+1)*2 ^ e:=Cf _ (Nat.le_of_lt b);have g:2 ^ (e+c+2)=2*(2 ^ (c+1)*2 ^ e):=by rw [<-Nat.pow_add,show e+c+2=(c+1+e)+1 by omega,Cr];omega
  omega
 refine Du ?_ a;rw [Nat.pow_mul];exact Bg (Nat.pow_le_pow_left f N) (E4 (Nat.pow_pos ∅) d)
theorem Sd (g:dC):∀ k,cvL [1] g k=g k
 | 0=>by rw [At];omega
 | k+1=>by rw [Am,BA];omega
def vT {j v b o G:d8} {p c e N:Nat} {d:Int} (hp:Pr p) (ln:Lz j) (lm:Lz v) (fn:Fi e j) (fm:Fi e v) (hc:j.length+v.length<2 ^ (c+1)) (hN:j.length+v.length<=N+2) (n2:2<=N) (X:2 ^ ((e+c+2)*N)<p)
  (J:((Int.gcd (co j (j.length - 1)) (co v (v.length - 1)):Nat):Int)=d) (Y:Gen (co j) (co v) G) (r0:0<b.length) (one:co b (b.length - 1)=1) (am:G.length<=b.length) (pG:¬ (p:Int)∣co G (G.length - 1)) (dG:Dm (p:Int) (co G) (co b)) (dn:Dm (p:Int) (co b) (co j)) (dm:Dm (p:Int) (co b) (co v))
  (gl:o.length=b.length) (hg:∀ k,k<b.length->(p:Int)∣co o k - d*co b k) (hb:∀ z∈o,2*z.natAbs<=p):MQ (co o) (co j)/\MQ (co o) (co v):=by
 have p2:=hp.two;have P:=Y.Prim;have D:=Y.lz;obtain ⟨A,L⟩:=O_ P Y.rc.left;obtain ⟨B,W⟩:=O_ P Y.rc.right;have Z:=fn G A (λk=>by rw [L k,B7]);have bB:=fm G B (λk=>by rw [W k,B7]);have bG:=fn A G L;have a7:=fn [1] j (λk=>(Sd _ k).symm);have a8:=vQ D L W Y.qi;obtain ⟨S,hS⟩:=dG;have p0:0<p:=by omega
 have F:¬ (p:Int)∣(1:Int):=λz=>by have:=Int.le_of_dvd ∅ z;omega
 rcases vR p p0 S with z | ⟨T,lT,hT,pT⟩
 ·exfalso;have r:=hS (b.length - 1);have u:=cvT (p:=(p:Int)) (S:=S) (T:=[]) (g:=co G) (n:=G.length) (λi O=>Ah O) (λk=>by rw [Ah (a:=[]) (Ae _),Int.sub_zero];exact z k) (b.length - 1);rw [one] at r;rw [BA,Int.sub_zero] at u;have:=Cu r u;rw [Int.sub_add_cancel] at this;exact F this
 have w:∀ k,(p:Int)∣co b k - cvL T (co G) k:=λk=>by
  have:=Cu (hS k) (cvT (λi O=>Ah O) hT k (g:=co G) (n:=G.length));refine CS this (FS ?_);omega
 have t0:=lT.1;have g0:=D.1
 have tl:T.length+G.length=b.length+1:=by
  have tp:=Ie lT D
  have np:¬ (p:Int)∣co T (T.length - 1)*co G (G.length - 1):=λz=>by
   rcases hp.mulI z with q | q
   ·exact pT q
   ·exact pG q
  have r:=w (T.length - 1+(G.length - 1));rw [tp] at r
  have c1:T.length - 1+(G.length - 1)<b.length:=by
   rcases A5 (T.length - 1+(G.length - 1)) b.length with c | c
   ·exact c
   ·exfalso;rw [Ah c,Int.zero_sub] at r;exact np (Int.dvd_neg.mp r)
  have u:=w (b.length - 1);rw [one] at u;rcases A5 (T.length - 1+(G.length - 1)) (b.length - 1) with c | c
  ·exfalso;rw [Et (n:=G.length) (λi O=>Ah O) T _ ⋯,Int.sub_zero] at u;exact F u
  ·omega
 have a1:=Sc hp L D pG w dn;have a3:=Sc hp W D pG w dm
 have f:∀ {R A:d8},Lz R->(∀ k,co R k=cvL A (co G) k)->(∀ k,Bd e (co A k))->∃ m,Lz m/\m.length<=R.length/\co m=co A:=λ{R A} lR h _=>by
  rcases ES A with z | ⟨m,I,_,ea⟩
  ·exact absurd (by rw [h,B7,Ft G z]) lR.2
  ·refine ⟨m,I,?_,funext ea⟩
   have t:co R (m.length - 1+(G.length - 1))≠0:=by
    rw [h,B7,BE (λk=>(ea k).symm) G,<-B7,Ie I D];exact CC I.2 D.2
   rcases A5 (m.length - 1+(G.length - 1)) R.length with c | c
   ·have:=I.1;omega
   ·exact absurd (Ah c) t
 obtain ⟨m,lA,An,eA⟩:=f ln L Z;obtain ⟨B',lB,Bn,eB⟩:=f lm W bB
 have an:2 ^ e<p:=Du (E4 ∅ (by
  have:(e+c+2)*1<=(e+c+2)*N:=Dj _ ⋯;omega)) X
 have T1:T.length=1:=by
  rcases A5 T.length 2 with cT | cT
  ·omega
  ·exfalso
   have C:∀ {A:d8},Lz A->(∀ k,Bd e (co A k))->Dm (p:Int) (co T) (co A)->2<=A.length:=λ{A} lA Z dA=>by
    have:=Dm.len hp t0 pT dA ⟨A.length - 1,λz=>by
     have r:=Z (A.length - 1);have u:=C5.mpr z;have h3:=Ea (by have:=lA.2;omega) u;rw [Cj] at h3;have:(co A (A.length - 1)).natAbs<2 ^ e:=r;omega⟩
    omega
   have a2:=C lA (λk=>by rw [eA];exact Z k) (by rw [eA];exact a1);have b2:=C lB (λk=>by rw [eB];exact bB k) (by rw [eB];exact a3);refine ci hp lA lB (by rw [eA,eB];exact a8) (λk=>by rw [eA];exact Z k) (λk=>by rw [eB];exact bB k) a2 b2 cT pT (by rw [eA];exact a1) (by rw [eB];exact a3) (vS (x:=m.length+B'.length) (c:=c) (M:=N) ⋯ ⋯ X)
 obtain ⟨s,rfl⟩:∃ s,T=[s]:=by
  match T,T1 with
  | [s],_=>exact ⟨s,rfl⟩
 have a4:∀ k,(p:Int)∣co b k - s*co G k:=λk=>by
  have:=w k
  have e1:cvL [s] (co G) k=s*co G k:=by
   cases k with
   | zero=>rw [At];omega
   | succ k=>rw [Am,BA];omega
  rwa [e1] at this
 have lr:G.length=b.length:=by simp at tl;omega
 have a5:∀ {R A:d8},(∀ k,co R k=cvL A (co G) k)->Lz R->co G (G.length - 1)∣co R (R.length - 1):=λ{R A} h lR=>by
  rcases ES A with z | ⟨m,I,_,ea⟩
  ·exact absurd (by rw [h,B7,Ft G z]) lR.2
  ·have hh:∀ k,co R k=cvL m (co G) k:=λk=>by rw [h,B7,BE (λk=>(ea k).symm) G,<-B7]
   have tp:=Ie I D;have a0:=I.1
   have rl:R.length - 1=m.length - 1+(G.length - 1):=by
    rcases Nat.lt_trichotomy (R.length - 1) (m.length - 1+(G.length - 1)) with c | c | c
    ·exfalso;have:=hh (m.length - 1+(G.length - 1));rw [Ah (by have:=lR.1;omega),tp] at this;exact CC I.2 D.2 this.symm
    ·exact c
    ·exfalso;have:=hh (R.length - 1);rw [Et (n:=G.length) (λi O=>Ah O) m _ ⋯] at this;exact lR.2 this
   rw [rl,hh,tp];exact Int.dvd_mul_left _ _
 obtain ⟨t,ht⟩:co G (G.length - 1)∣d:=by rw [<-J];exact Int.dvd_coe_gcd (a5 L ln) (a5 W lm)
 have U:d≠0:=λz=>by
  rw [<-J] at z;have:Int.gcd (co j (j.length - 1)) (co v (v.length - 1))=0:=by omega
  exact ln.2 (Int.gcd_eq_zero_iff.mp this).1
 have aj:t≠0:=λz=>U (by rw [ht,z,Int.mul_zero])
 have bt:t.natAbs<2 ^ e:=by
  have r:d∣co j (j.length - 1):=by rw [<-J];exact E5 ..
  have u:=CS (show t∣d from ⟨co G (G.length - 1),by rw [ht,Int.mul_comm]⟩) r;have h3:=Ea (by have:=ln.2;omega) (C5.mpr u);have h4:(co j (j.length - 1)).natAbs<2 ^ e:=a7 _;omega
 have al:∀ k,co o k=t*co G k:=λk=>by
  rcases A5 k b.length with ck | ck
  ·have r:=hg k ck;have u:=a4 k;have h3:=a4 (b.length - 1);rw [one,<-lr] at h3
   have dv:(p:Int)∣co o k - t*co G k:=by
    have q1:(p:Int)∣d*(co b k - s*co G k):=FZ u;have q2:(p:Int)∣(t*co G k)*(1 - s*co G (G.length - 1)):=FZ h3;have:=Int.dvd_sub (Cu r q1) q2;refine CS this (FS ?_);rw [ht];ext
   have b1:2*(co o k).natAbs<=p:=by
    have:co o k∈o:=by
     unfold co;rw [AQ,AZ ⋯];exact DH _
    exact hb _ this
   have b2:2*(t*co G k).natAbs<p:=by
    rw [Bx];have h5:t.natAbs*(co G k).natAbs<=2 ^ e*2 ^ e:=Nat.mul_le_mul (Nat.le_of_lt bt) (Nat.le_of_lt (bG k))
    have h6:2*(2 ^ e*2 ^ e)<=2 ^ ((e+c+2)*N):=by
     rw [<-Nat.pow_add,show 2*2 ^ (e+e)=2 ^ (e+e+1) by rw [Cr];omega];refine E4 ∅ ?_;have:(e+c+2)*2<=(e+c+2)*N:=Dj _ ⋯;omega
    omega
   obtain ⟨y,hy⟩:=dv;have ab:(co o k - t*co G k).natAbs<p:=by omega
   rcases Int.lt_trichotomy y 0 with z | z | z
   ·have:(p:Int)*y<=(p:Int)*(-1):=Hu ⋯ ⋯;omega
   ·rw [z] at hy;omega
   ·have:(p:Int)*1<=(p:Int)*y:=Hu ⋯ ⋯;omega
  ·rw [Ah ⋯,Ah (a:=G) ⋯];omega
 have a6:∀ {R A:d8},(∀ k,co R k=cvL A (co G) k)->MQ (co o) (co R):=λ{R A} h=>⟨t,aj,A,λk=>by rw [BE al,DB,h k]⟩;exact ⟨a6 L,a6 W⟩
def Se {g f:d8} {A:d8} (h:∀ k,co f k=cvL A (co g) k):MQ (co g) (co f):=⟨1,∅,A,λk=>by rw [<-h k];omega⟩
def vU (h:Jx K vs H Q E):Qk K { nx:=λ_ M=>Q .non M,rt:=Q } (L2.start ["row","other","prime","lead","found","guess"] vs) H:=by
 obtain ⟨a,b,o,v,p,d,O,W,NN,rfl,ha,hb,N,bp,P,lm,bn,bm,dn,dm,fn,fm,nc,hN,a6,kN,kR⟩:=h;have p2:(2:Int)<=(p:Int):=by have:=N.two;omega
 unfold Qk;have an:=HS P.1;have am:=HS lm.1;rwa [ha,hb,an,am];generalize I:((Int.gcd (co o (o.length - 1)) (co v (v.length - 1)):Nat):Int)=j;have X:j∣co o (o.length - 1):=by rw [<-I];exact E5 ..
 have bl:Bd d j:=(DE bn (o.length - 1)).le (Sb P.2 X);refine ⟨⋯,Ag (λc=>?_) (λc=>?_)⟩
 ·refine kN (λw=>?_) _ (Same.refl H);have b0:j.natAbs<2 ^ O:=(fn [1] o (λk=>(Sd _ k).symm) (o.length - 1)).le (Sb P.2 X);have z:=Int.dvd_of_emod_eq_zero (show j % (p:Int)=0 by simpa using c)
  have l0:j≠0:=λz=>by
   rw [<-I] at z;have:Int.gcd (co o (o.length - 1)) (co v (v.length - 1))=0:=by omega
   exact P.2 (Int.gcd_eq_zero_iff.mp this).1
  have h3:=Ea ⋯ (C5.mpr z);rw [Cj] at h3
  have:2 ^ O<=2 ^ ((O+W+2)*NN):=by
   refine E4 ∅ ?_;have:(O+W+2)*1<=(O+W+2)*NN:=Dj _ ⋯;omega
  have w:2 ^ ((O+W+2)*NN)<p:=w;omega
 have pl:¬ (p:Int)∣j:=λz=>c (by rw [Int.emod_eq_zero_of_dvd z])
 have Y:¬ (p:Int)∣co o (o.length - 1)\/¬ (p:Int)∣co v (v.length - 1):=by
  by_cases Z:(p:Int)∣co o (o.length - 1)
  ·right;intro h2;exact pl (by rw [<-I];exact Int.dvd_coe_gcd Z h2)
  ·exact .inl Z
 refine ⟨o,v,p,rfl,rfl,rfl,N,bp,⋯,⋯,?_,λs J H1 s1 hs r0 rl one br hD a7 a8=>?_⟩
 ·rcases Y with h | h
  ·exact .inl ⟨_,h⟩
  ·exact .inr ⟨_,h⟩
 refine ⟨⟨_,SqL.of hs⟩,CompJ.lst (xs:=J.map V.int) (λi ys M=>i<=J.length/\M=H1/\∃ m:d8,ys=m.map V.int/\m.length=i/\(∀ k,k<i->(p:Int)∣co m k - j*co J k)/\∀ z∈m,Bd 45000 z/\2*z.natAbs<=p) ⟨Ae _,rfl,[],rfl,rfl,λk hk=>absurd hk ⋯,λz R=>nomatch R⟩ ?_ ?_ ?_⟩
 ·rintro i ys M ⟨Z,rfl,m,rfl,gl,_⟩;exact ⟨by rw [AJ];exact Z,sz (by rw [AJ];omega),SqL.of hs⟩
 ·rintro i x ys M hi ⟨Z,rfl,m,rfl,gl,hg,w⟩;rw [Ac] at hi;cases e:J[i]? with
  | none=>rw [e] at hi;cases hi
  | some n=>
    rw [e] at hi;obtain rfl:V.int n=x:=mF hi;have b1:i<J.length:=(BK.mp e).1;have b2:=br n (A4 e);have cn:co J i=n:=by unfold co;rw [AQ,e];rfl
    rwa [];refine ⟨EC bl (bp.le (x:=(p:Int)) (y:=n) ⋯),⋯,λr ab S=>⟨⋯,m++[r],by simp,by simp;omega,λk hk=>?_,λz R=>?_⟩⟩
    ·by_cases ek:k=i
     ·subst ek;have:co (m++[r]) k=r:=by unfold co;rw [AQ,<-gl];simp
      rw [this,cn];exact ab
     ·have:co (m++[r]) k=co m k:=by unfold co;rw [AQ,AQ,List.getElem?_append_left ⋯]
      rw [this];exact hg k ⋯
    ·rcases CO.mp R with z1 | z1
     ·exact w z z1
     ·rw [Aw.mp z1];exact ⟨bp.le ⋯,by rw [Cj] at S;exact S⟩
 ·rintro ys M ⟨_,rfl,m,rfl,gl,hg,w⟩ t ht;rw [AJ] at gl hg;have st:=AL ht (.lst (m.map V.int));have a0:upd M t (.lst (m.map V.int)) t=_:=upd_same;generalize upd M t (.lst (m.map V.int))=H2 at st a0 ⊢;have a1:0<m.length:=by omega
  have B:co m (m.length - 1)≠0:=λz=>by
   have:=hg (m.length - 1) ⋯;rw [z,show m.length - 1=J.length - 1 by omega,one] at this;exact pl (by have t2:=Int.dvd_neg.mpr this;rw [show -(0 - j*1)=j by omega] at t2;exact t2)
  rwa [a0];refine ⟨m,rfl,⋯,.inr B,λu q g H3 s3 hu g0 eg hp=>?_⟩
  have Pg:Prim q:=by
   rcases hp with h | h
   ·rw [h] at a1;simp at a1
   ·exact h
  have a2:q.length=m.length:=by rw [eg,AJ]
  have T:Lz q:=DP (MJ (AV g0) (by rw [<-eg];exact .inr B)) (λz=>by rw [z] at a2;simp at a2;omega);have a3:∀ z∈q,Bd 45000 z:=MK g0 (by rw [<-eg];exact λz R=>(w z R).1);have C:Same H H3:=(s1.trans st).trans s3;have aj:=C _ _ ha;have al:=C _ _ hb;obtain ⟨G,L⟩:=Zg P (QI.left (co o) (co v));have mn:=L.mq _ o (AR _) (QI.left _ _);have mm:=L.mq _ v (AR _) (QI.right _ _)
  have D:¬ (p:Int)∣co G (G.length - 1):=by
   rcases Y with h | h
   ·exact L.lead N P mn h
   ·exact L.lead N lm mm h
  have dG:=hD (co G) (L.dm N mn) (L.dm N mm)
  have a4:G.length<=J.length:=Dm.len N L.lz.1 D dG ⟨J.length - 1,by
   rw [one];intro z;have:=Int.le_of_dvd ∅ z;omega⟩
  have F:Po O W NN p->(∃ A:d8,∀ k,co o k=cvL A (co q) k)/\∃ A:d8,∀ k,co v k=cvL A (co q) k:=λao=>by
   obtain ⟨q1,q2⟩:=vT N P lm fn fm nc hN a6 ao I L r0 one a4 D dG a7 a8 gl hg (λz R=>(w z R).2);have sc:∀ k,co m k=g*co q k:=λk=>by rw [eg,Gf]
   have mg:MQ (co q) (co m):=⟨1,∅,[g],λk=>by
    have e:cvL [g] (co q) k=g*co q k:=by
     cases k with
     | zero=>rw [At];omega
     | succ k=>rw [Am,BA];omega
    rw [e,sc];omega⟩
   exact ⟨O_ Pg (mg.trans q1),O_ Pg (mg.trans q2)⟩
  rwa [aj,hu];refine ⟨o,rfl,q,rfl,T,d,bn,45000,a3,⋯,∅,⋯,⋯,λno=>kN (λw=>no (F w).1) |> λf H4 U=>f H4 (C.trans U),λr qs H4 U hr _ hq=>?_⟩;have ap:=U _ _ al;have a5:=U _ _ hu;rwa [ap,a5];refine ⟨v,rfl,q,rfl,T,d,bm,45000,a3,⋯,∅,⋯,⋯,λno=>kN (λw=>no (F w).2) |> λf H5 s5=>f H5 ((C.trans U).trans s5),λr2 b3 H5 s5 S _ ar=>?_⟩;exact kR u q H5 ((C.trans U).trans s5) (s5 _ _ a5) (Zj L.rc T (Se hq) (Se ar) ⋯) Pg
noncomputable def exps:List Nat:=[61,127,521,1279,4423,9941,21701,44497]
def vV (K:W.Frag):Prop:=∀ H:Hp,SqT K H (GY K) (exps.map λe:Nat=>V.int (e:Int))
def vW:∀ e∈exps,Pr (mers e)/\e<=44497:=by
 intro e a;have h:e=61\/e=127\/e=521\/e=1279\/e=4423\/e=9941\/e=21701\/e=44497:=by simpa [exps] using a
 rcases h with h | h | h | h | h | h | h | h <;> rw [h]
 ·exact ⟨ZY,∅⟩
 ·exact ⟨ZZ,∅⟩
 ·exact ⟨Za,∅⟩
 ·exact ⟨Zb,∅⟩
 ·exact ⟨Zc,∅⟩
 ·exact ⟨Zd,∅⟩
 ·exact ⟨Ze,∅⟩
 ·exact ⟨Zf,∅⟩
def vX (e:Nat):(2:Int) ^ (e:Int).toNat - 1=((mers e:Nat):Int):=by
 unfold mers;have:=Nat.one_le_two_pow (n:=e);rw [Int.natCast_sub this,EI,Int.natCast_pow];rfl
def vY {e:Nat} (h:e<=44497):Bd 45000 ((mers e:Nat):Int):=by
 unfold Bd mers;rw [Cj];have a:=Nat.one_le_two_pow (n:=e);have b:=E4 (n:=2) ∅ (show e<=45000 by omega);omega
def ML {b e one a j:d8} {g h:Int} (o:g≠0) (p:h≠0) (q:b=one.map (g*·)) (r:e=a.map (h*·)) (R:RC (co one) (co a) j):RC (co b) (co e) j:=by
 have m:∀ k,co b k=g*co one k:=λk=>by rw [q,Gf]
 have n:∀ k,co e k=h*co a k:=λk=>by rw [r,Gf]
 refine ⟨R.lz,?_,?_,?_⟩
 ·obtain ⟨c,f,A,i⟩:=R.left;exact ⟨c,f,A.map (g*·),λk=>by rw [BG,<-i k,m k];ext⟩
 ·obtain ⟨c,f,A,i⟩:=R.right;exact ⟨c,f,A.map (h*·),λk=>by rw [BG,<-i k,n k];ext⟩
 ·obtain ⟨d,u,U,W,v⟩:=R.qi;refine ⟨g*h*d,CC (CC o p) u,U.map (h*·),W.map (g*·),λk=>?_⟩;rw [BG,BG,BE m U k,BE n W k,DB,DB];have:=v k;ext
def Sf {e:Nat} {a:Int} {one b:d8} (n:a≠0) (d:b=one.map (a*·)) (h:Fp e b):Fp e one:=λg f i ⟨c,j,A,m⟩=>h g f i ⟨c,j,A.map (a*·),λk=>by
 rw [BG,<-m k,d,Gf];ext⟩
theorem Sg {c:Int} {g:dC} (h:∀ k,c∣g k):∀ (A:d8) (k:Nat),c∣cvL A g k
 | [],_=>by rw [BA];exact Cv c
 | x::A,0=>by rw [At];exact Cu (FZ (h 0)) (Cv c)
 | x::A,k+1=>by rw [Am];exact Cu (FZ (h _)) (Sg h A k)
def Si {e:Nat} {one:d8} (p:Prim one) (h:Fp e one):Fi e one:=λA g b k=>by
 rcases ES g with z | ⟨d,f,_,a⟩
 ·rw [z k];exact D8 _
 ·rw [<-a k];refine h d f (λc i=>p c λk=>?_) ⟨1,∅,A,λk=>by rw [Int.one_mul,b k];exact BE (λk=>(a k).symm) A k⟩ k;rw [b k];exact Sg (λk=>by rw [<-a k];exact i k) A k
def vZ {K:W.Frag} (hK:vV K) {vs:c_} {H:Hp} {Q:VK} {E:XK} (h:HN K vs H Q E):Ql K { nx:=λ_ j=>Q .non j,rt:=Q } (L2.start ["row","other","one","two","exponent","found"] vs) H:=by
 obtain ⟨a,b,p,D,d,J,cc,NN,rfl,ha,hb,tn,tm,bn,bm,d9,nN,mN,L,nc,hN,a0,sm,k⟩:=h;unfold Ql;rwa [ha];refine ⟨p,rfl,⋯,tn,λF one g1 H1 s1 n f q p1=>?_⟩;have a3:=s1 _ _ hb;rwa [a3];refine ⟨D,rfl,⋯,tm,λM c g2 G s2 r g w p2=>?_⟩;have m:=s1.trans s2;have a4:=m _ _ ha;have a5:=m _ _ hb;have N:=s2 _ _ n;have l1:p.length=one.length:=by rw [q,AJ]
 have l2:D.length=c.length:=by rw [w,AJ]
 have t1:Tz one:=MJ (AV f) (by rw [<-q];exact tn);have t2:Tz c:=MJ (AV g) (by rw [<-w];exact tm);have b1:∀ z∈one,Bd d z:=MK f (by rw [<-q];exact bn);have b2:∀ z∈c,Bd d z:=MK g (by rw [<-w];exact bm);have O:one=[]↔p=[]:=by rw [<-CB,<-CB,l1]
 have I:c=[]↔D=[]:=by rw [<-CB,<-CB,l2]
 have P:(p=[]\/D=[])->∀ (U:Hp) (u v:d7),Same G U->(AU (A_ gL (AK (IX K) [] E0 (AB (BF (AB (AA 2) AC)) (AB (BF (AB (AA 3) AC)) AC))) (tC (.int 0)))) { nx:=λ_ j=>Q .non j,rt:=Q } [some (.ref a),some (.ref b),some (.ref F),some (.ref M),u,v] U:=λem U u v o=>by
  have A:=o _ _ N;have B:=o _ _ r;rwa [];refine ⟨sz ∅,λx hx=>?_⟩;have sx:=AL hx (.lst [.ref F]);refine ⟨sz ∅,λy hy=>?_⟩;have X:=AL hy (.lst [.ref M]);have a6:=X _ _ (show upd U x (.lst [.ref F]) x=_ from upd_same);refine ⟨one,⟨[V.ref F],a6,⟨⟨F,rfl,X _ _ (sx _ _ A)⟩,trivial⟩⟩,c,⟨[V.ref M],upd_same,⟨⟨M,rfl,X _ _ (sx _ _ B)⟩,trivial⟩⟩,em.imp (λz=>O.mpr z) (λz=>I.mpr z),λt Y R a7=>?_⟩;obtain ⟨ar,xr,ht,a8,_⟩:=a7.head;refine ⟨_,ht,_,HV _ _,?_⟩;refine k ar _ Y (m.trans (o.trans ((sx.trans X).trans R))) a8 (λab=>?_) λn r=>by rw [nV (I.mpr r)];exact O.mpr n
  have z0:∀ {x:d8},x=[]->∀ k,co x k=0:=λe k=>by rw [e];exact Ah (Ae _)
  by_cases C:c=[]
  ·rw [nV C]
   have Z:p≠[]:=by
    rcases ab with h | h
    ·exact h
    ·exact absurd (I.mp C) h
   have aj:Lz one:=DP t1 λz=>Z (O.mp z);exact ⟨ML (AV f) (AV g) q w ⟨aj,MQ.refl _,MQ.zero _ (z0 C),QI.left _ _⟩,p1.resolve_left Z⟩
  ·rw [nU C];have Z:one=[]:=O.mpr (em.resolve_right λz=>C (I.mpr z));exact ⟨ML (AV f) (AV g) q w ⟨DP t2 C,MQ.zero _ (z0 Z),MQ.refl _,QI.right _ _⟩,p2.resolve_left λz=>C (I.mpr z)⟩
 have l0:=λem=>P em G none none (Same.refl G);simp only [AG,AM,AK,AB,AA,AC,AE,Do,L2.start,BM,bh,Aq,tB,A_,Z_,rI,tC,Q_,rU,BQ,AU,Ar,BF,U2,Ei,Dy,G',VE,Dl,aq,DJ,FA,Uw,Ux,Y_,ae,D1,CJ,Bz,BS,IA,Wx,C8,Ni,Wy,aY,iLe,aE,cG,BW,gT,gL,gS,GO,IB,Wz,W0,D3,Bj,W2,D4,W3,W4,W5,eqT,W6,W7,W8,W9,CA,List.map_nil,CP,List.length_nil,List.replicate,List.cons_append,List.nil_append,List.append_nil,List.getElem?_cons_zero,List.getElem?_cons_succ,Option.some.injEq,exists_eq_left',exists_eq_left,V.int.injEq,V.bl.injEq,V.ref.injEq,V.ty.injEq,HO.tup.injEq,HO.lst.injEq,List.cons.injEq,and_true,true_and,and_assoc,exists_and_left,List.set_cons_zero,List.set_cons_succ,decide_eq_true_eq,decide_eq_false_iff_not,Bool.not_eq_true',Bool.true_eq_false,Dw,Bool.not_true,Bool.not_false,if_true,if_false,ite_true,ite_false,XF,XG,XA,XB,XC,XD,XE,XH,XI,Nat.zero_add,Nat.reduceAdd,Nat.reduceSub,upd_same,Int.cast_ofNat_Int,decide_true,decide_false,eq_self,not_true_eq_false,not_false_eq_true,Int.natCast_add,Int.natCast_zero,reduceCtorEq,Nm,Ch,A8,Cg,Gx,aM,FH,FI,sL,sT,Fh,Xn,JN,Er,Xm,GN,G6,FJ,Kf,Vi,ag,Vg,Xe,Xf,Xg,Xh,Xj,Xv,Xu,Xi,Xq,Kr,OA,Ks,Ko,N8,Fk,EN,N9,JS,Cm,Option.bind_some,Option.bind_none,Option.bind,Option.join,id_eq,sS,X9,YB,Ew,Jp,HK,IT,IU,IV,Fv,IW,GZ,Jq,IX,Jr,Js,HL,HM,Jt,Ju,Jv,Jw,Jx,HN,Ex,Ga,Gb,IY,LZ,Jy,Jz,J0,Fw,Ia,Gc,J2,J3,J7,J8] at l0;have al:p≠[]->D≠[]->Lz one/\Lz c:=λn r=>⟨DP t1 λz=>n (O.mp z),DP t2 λz=>r (I.mp z)⟩;refine ⟨_,a4,Ag (λc1=>⟨_,a5,Ag (λc2=>⟨⟨_,hK G⟩,?_⟩) (λc2=>l0 (.inr (by simpa using c2)))⟩) (λc1=>l0 (.inl (by simpa using c1)))⟩;have y1:p≠[]:=by simpa using c1
 have y2:D≠[]:=by simpa using c2
 obtain ⟨z1,z2⟩:=al y1 y2;have am:Fi J one:=Si (p1.resolve_left y1) (Sf (AV f) q (L y1 y2).1);have an:Fi J c:=Si (p2.resolve_left y2) (Sf (AV g) w (L y1 y2).2);refine NF (xs:=exps.map λe:Nat=>V.int (e:Int)) (λi σ j=>i<8/\∃ u v,σ=[some (.ref a),some (.ref b),some (.ref F),some (.ref M),u,v]/\Same G j) ⟨∅,none,none,rfl,Same.refl G⟩ (λi σ j _ _=>hK j) ?_ ?_
 ·rintro i x σ j S ⟨i8,u,v,rfl,o⟩;rw [Ac] at S;cases e:exps[i]? with
  | none=>rw [e] at S;cases S
  | some T=>
    rw [e] at S;obtain rfl:V.int (T:Int)=x:=mF S;obtain ⟨pe,pl⟩:=vW T (A4 e);have A:=o _ _ N;have B:=o _ _ r;rwa [A,B];refine ⟨⋯,2,by unfold Bd;decide,⋯,one,c,mers T,vX T,rfl,rfl,pe,vY pl,z1,z2,d,b1,b2,⋯,⋯,J,am,an,cc,⋯,NN,⋯,a0,λnb Y R=>⟨?_,o.trans R⟩,λt rs Y R ht rc pr=>?_⟩
    ·rcases A5 (i+1) 8 with c8 | c8
     ·exact c8
     ·exfalso;have i7:i=7:=by omega
      rw [i7] at e;obtain rfl:44497=T:=mF e;refine nb ?_;show 2 ^ ((J+cc+2)*NN)<mers 44497;have n:2 ^ ((J+cc+2)*NN)<=2 ^ 44490:=E4 ∅ sm
      have r:2 ^ 44490<mers 44497:=by
       unfold mers;have e7:2 ^ 44497=2 ^ 44490*2 ^ 7:=by rw [<-Nat.pow_add]
       rw [e7];have:1<=2 ^ 44490:=Nat.one_le_two_pow;omega
      omega
    exact k t rs Y (m.trans (o.trans R)) ht (λ_=>⟨ML (AV f) (AV g) q w rc,pr⟩) λn _=>absurd n (by simpa using c1)
 ·rintro σ j ⟨i8,_⟩;exact absurd i8 (by simp [exps])
def B8 (l:cV):(AS l).length=l.length:=by unfold AS;rw [AJ]
def EW {l:cV} (a:Af l) (b:Nz l):Tz (AS l):=by
 by_cases h:l=[]
 ·left;rw [h];rfl
 ·right;rw [B8];exact L9 a b (B4.mpr h)
def uA {l:cV} {M N:Int} (f:Af l) (g:Ov l M) (i:Ov l N) (h:M∣N) {b:Nat} (j:∀ z∈X_ l N,Bd b z):∀ z∈X_ l M,Bd b z:=λz k=>by
 obtain ⟨q,a,rfl⟩:=AX.mp k;refine (j (q.1*(N / q.2)) (AX.mpr ⟨q,a,rfl⟩)).le ?_;rw [Bx,Bx];refine Dj _ ?_;have c:=(f q a).pos;obtain ⟨x,d⟩:=g.2 q a;obtain ⟨y,e⟩:=h;have m:M / q.2=x:=by rw [d,FY _ (AV c)]
 have n:N / q.2=x*y:=by rw [e,d,Int.mul_assoc,FY _ (AV c)]
 rw [m,n,Bx];refine Nat.le_mul_of_pos_right _ ?_;rcases DR y.natAbs with z | z
 ·have o:y=0:=by omega
  have:=i.1;rw [e,o] at this;omega
 ·exact z
def Gq.clr {b c:Nat} {l:cV} (G:Gq b c l):(∀ z∈AS l,Bd b z)/\Bd c (Ab l)/\(∀ q∈l,Bd b q.1):=by
 obtain ⟨M,a,f,d⟩:=G.ov;have e:=O5 G.low a;exact ⟨uA G.low (CZ G.low) a e d,EA (AV a.1) e f,wO G.low a d⟩
def DQ (g:d8):(I_ g).length=g.length:=by unfold I_;rw [AJ]
def FT {g:d8} (a:Lz g):Af (I_ g):=λq b=>by
 obtain ⟨z,_,rfl⟩:=AX.mp b;exact GT a.2
theorem HX {g:d8} (a:Lz g) (k:Nat):C_ (I_ g) k=(co g k:Rat) / (co g (g.length - 1):Rat):=by
 unfold C_ Aj I_;rw [AQ,Ac];unfold co;rw [AQ (l:=g) (i:=k)];cases e:g[k]? with
 | none=>
   show val (0,1)=((0:Int):Rat) / _;unfold val;show ((0:Int):Rat) / _=_;rw [show ((0:Int):Rat)=0 from rfl,R',R']
 | some z=>exact HC a.2
def uB {g:d8} (a:Lz g):Aj (I_ g) (g.length - 1)=(1,1):=DA (Es (FT a) _) ⟨∅,∅⟩ (by
 have h:=HX a (g.length - 1);unfold C_ at h;rw [h];have:=Ap a.2;have b:val (1,1)=1:=by unfold val;show ((1:Int):Rat) / ((1:Int):Rat)=1;ext
 rw [b];ext)
def Fy {g:d8} (b:Lz g):Nz (I_ g):=λq a=>by
 have h:=uB b;rw [F9,DQ] at a;unfold Aj at h;rw [AQ,a] at h;have c:q=(1,1):=h;rw [c];decide
def uC (h:IY K vs H Q E):Qz K { nx:=λ_ Z=>Q .non Z,rt:=Q } (L2.start ["P","Q","row"] vs) H:=by
 obtain ⟨p,q,xs,ys,l,m,b,c,ee,dd,NN,rfl,hp,j,hN,hM,f,g,b9,c9,lN,mN,A,B,C,D,sm,k0,k1⟩:=h;obtain ⟨F,a0,G⟩:=f.clr;obtain ⟨I,a1,J⟩:=g.clr;obtain ⟨M1,O1,L,_⟩:=f.ov;obtain ⟨M2,O2,M,_⟩:=g.ov;unfold Qz;rwa [hp];refine be hp ⟨l,hN,f.low,M1,O1,L.mono ⋯,λq j=>(G q j).mono ⋯,⋯,λr a H1 s1 hr ha=>?_⟩;have k:=s1 _ _ j;rwa [hr,k];refine be k ⟨m,hM.tp (E_ s1),g.low,M2,O2,M.mono ⋯,λq j=>(J q j).mono ⋯,⋯,λr2 a2 H2 X N O=>?_⟩;have S:=X _ _ ha;rwa [N,S,O];have w:AS l=[]↔l=[]:=by rw [<-CB,<-CB,B8]
 have x:AS m=[]↔m=[]:=by rw [<-CB,<-CB,B8]
 refine ⟨AS l,rfl,AS m,rfl,EW f.low f.nz,EW g.low g.nz,b,F,I,b9,by rw [B8];exact lN,by rw [B8];exact mN,ee,λy T=>A (λz=>y (w.mpr z)) (λz=>T (x.mpr z)),dd,by rw [B8,B8];exact B,NN,by rw [B8,B8];exact C,D,sm,λs d H3 s3 Y rc r0=>?_⟩;have o:=(s1.trans X).trans s3;rwa [Y];by_cases u:l=[]/\m=[]
 ·have e:=r0 (w.mpr u.1) (x.mpr u.2);subst e;refine Ag (λz=>absurd z (by simp)) (λ_=>?_);exact ⟨sz ∅,λt U=>k0 u.1 u.2 t [] _ (o.trans (AL U _)) upd_same trivial⟩
 ·have i:l≠[]\/m≠[]:=by
   by_cases y:l=[]
   ·exact .inr λT=>u ⟨y,T⟩
   ·exact .inl y
  obtain ⟨R,P⟩:=rc (i.imp (λh z=>h (w.mp z)) (λh z=>h (x.mp z)));have W:d≠[]:=B4.mp R.lz.1;refine Ag (λ_=>?_) (λz=>absurd W (by simpa using z));have al:=HS R.lz.1
  have rl:d.length<=1000:=by
   rcases i with h | h
   ·have:=FR R.lz (DP (EW f.low f.nz) λz=>h (w.mp z)) R.left;rw [B8] at this;omega
   ·have:=FR R.lz (DP (EW g.low g.nz) λz=>h (x.mp z)) R.right;rw [B8] at this;omega
  rwa [Y,al];refine ⟨d,rfl,R.lz.2,rl,λt zs H4 s4 U v=>?_⟩;have e:trim (d.map λn=>Ay n (co d (d.length - 1)))=I_ d:=Of (Fy R.lz);rw [e] at v;exact k1 i d R P t zs H4 (o.trans s4) U v
def MR.short {g f:dF} {n:Nat} (b:g n≠0) (h:∀ i,n<i->g i=0) (m:MR g f) (c:∀ k,n<=k->f k=0) (k:Nat):f k=0:=by
 obtain ⟨A,a⟩:=m;rw [a k];exact Jl A (LR b h A λk hk=>by rw [<-a k];exact c k hk) k
def Sj {q:Nu} {n M:Int} (c:q.2≠0) (d:M≠0) (h:val q=(n:Rat) / (M:Rat)):Wo q n M:=by
 unfold Wo;unfold val at h;have a:=Ap c;have b:=Ap d;have e:(q.1:Rat)*(M:Rat)=(n:Rat)*(q.2:Rat):=by ext
 exact_mod_cast e
def Sk {q:Nu} {n M:Int} (a:Low q.1 q.2) (h:Wo q n M):q.2∣M/\q.1*(M / q.2)=n:=by
 unfold Wo at h;have d:q.2∣M:=K7 a ⟨n,by rw [h,Int.mul_comm]⟩;refine ⟨d,?_⟩;have b:=a.pos
 have e:q.2*(q.1*(M / q.2))=q.2*n:=by
  have:=GA d
  calc q.2*(q.1*(M / q.2))=q.1*(q.2*(M / q.2)):=by ext
   _=q.1*M:=by rw [this]
   _=q.2*n:=by rw [h,Int.mul_comm]
 exact Int.eq_of_mul_eq_mul_left (AV b) e
structure RS (m:cV) (z:dF) (b c d i:Nat) (L:cV):Prop where
 low:Af L
 ov:∃ D,Ov L D/\Bd (c+i*d) D/\∀ z∈X_ L D,Bd (b+i*(d+1)) z
 mr:MR (C_ m) (λk=>C_ L k - z k)
def Sl {m:cV} (b:Nz m) (c:m≠[]):(Aj m (m.length - 1)).1≠0:=by
 have a:m.length - 1<m.length:=by have:=B4.mpr c;omega
 have q:=b m[m.length - 1] (by rw [F9];exact AZ a);have e:Aj m (m.length - 1)=m[m.length - 1]:=by unfold Aj;rw [AQ,AZ a];rfl
 rw [e];exact q
def Fz {m:cV} (c:Af m) (d:Nz m) (e:m≠[]):C_ m (m.length - 1)≠0:=by
 have a:=Ap (Sl d e);have b:=Ap (AV (Es c (m.length - 1)).pos);unfold C_ val;ext
theorem Sm (f:dC):∀ (A:d8) (k:Nat),cvL (A.map λz:Int=>(z:Rat)) (λk=>(f k:Rat)) k=((cvL A f k:Int):Rat)
 | [],_=>rfl
 | x::A,0=>by rw [CA,At,At];push_cast;ext
 | x::A,k+1=>by rw [CA,Am,Am,Sm f A k];push_cast;ext
def KC {f:dC} {G:dF} {a:Rat} (b:a≠0) (c:∀ k,G k=a*(f k:Rat)) (A:d8) (k:Nat):((cvL A f k:Int):Rat)=a⁻¹*cvL (A.map λz:Int=>(z:Rat)) G k:=by
 rw [BE c,DB,Sm];ext
def MR.of {f g:dC} {F G:dF} {d a:Rat} (b:a≠0) (h:∀ k,F k=d*(f k:Rat)) (i:∀ k,G k=a*(g k:Rat)) (m:MQ g f):MR G F:=by
 obtain ⟨c,j,A,n⟩:=m;have o:=Ap j;refine ⟨(A.map λz:Int=>(z:Rat)).map (d*(c:Rat)⁻¹*a⁻¹*·),λk=>?_⟩;have e:(c:Rat)*(f k:Rat)=((cvL A g k:Int):Rat):=by exact_mod_cast n k
 rw [BG,h k];rw [KC b i] at e;ext
def F1 {l:cV} (a:Af l) (k:Nat):C_ l k=((Ab l:Rat))⁻¹*(co (AS l) k:Rat):=by
 rw [IO a (CZ a),<-Jc];show (co (AS l) k:Rat) / _=_;ext
def Ss {l:cV} (a:Af l):((Ab l:Rat))⁻¹≠0:=by
 have:=Ap (AV (CZ a).1);ext
def FU {g:d8} (a:Lz g) (k:Nat):C_ (I_ g) k=((co g (g.length - 1):Rat))⁻¹*(co g k:Rat):=by
 rw [HX a];ext
def HY {g:d8} (a:Lz g):((co g (g.length - 1):Rat))⁻¹≠0:=by
 have:=Ap a.2;ext
def Ii {a:Int} (f:a≠0) {B:Nat} {d:d8} (h:∀ z∈d,Bd B z):Ov (d.map λn=>Ay n a) (a.natAbs:Int)/\∀ z∈X_ (d.map λn=>Ay n a) (a.natAbs:Int),Bd B z:=by
 have i:(0:Int)<(a.natAbs:Int):=by omega
 have c:∀ n∈d,(Ay n a).2∣(a.natAbs:Int)/\Bd B ((Ay n a).1*((a.natAbs:Int) / (Ay n a).2)):=λn b=>by
  have j:=GT (n:=n) f;have v:=Ap f
  have:∃ s:Int,val (Ay n a)=(s:Rat) / (((a.natAbs:Int):Int):Rat)/\Bd B s:=by
   rw [HC f];rcases Int.natAbs_eq a with e | e
   ·exact ⟨n,by rw [<-e],h n b⟩
   ·refine ⟨-n,?_,(h n b).neg⟩;have k:(a.natAbs:Int) = -a:=by omega
    rw [k];push_cast;ext
  obtain ⟨s,m,o⟩:=this;obtain ⟨p,r⟩:=Sk j (Sj (AV j.pos) (AV i) m);exact ⟨p,by rw [r];exact o⟩
 refine ⟨⟨i,λq g=>?_⟩,λz u=>?_⟩
 ·obtain ⟨n,b,rfl⟩:=AX.mp g;exact (c n b).1
 ·obtain ⟨q,g,rfl⟩:=AX.mp u;obtain ⟨n,b,rfl⟩:=AX.mp g;exact (c n b).2
def uD {l:cV} {M:Int} {B:Nat} (h:Ov l M) (b:∀ z∈X_ l M,Bd B z):Ov (trim l) M/\∀ z∈X_ (trim l) M,Bd B z:=by
 refine ⟨⟨h.1,λq a=>h.2 q (EQ a)⟩,λz c=>?_⟩;obtain ⟨q,a,rfl⟩:=AX.mp c;exact b _ (AX.mpr ⟨q,EQ a,rfl⟩)
theorem uE {F G:dF} {P:dF} (n:Nat) (h:∀ k,P k=cv F G n k):MR G P:=by
 refine ⟨(List.range n).map F,λk=>?_⟩;rw [h k];clear h
 induction n with
 | zero=>rfl
 | succ n a=>
   show cv F G n k+(if n<=k then F n*G (k - n) else 0)=_;rw [a,E7,By,List.map_singleton,Db,AJ,Bm];unfold Ax;by_cases hk:n<=k
   ·rw [nV hk,nV hk]
   ·rw [nU hk,nU hk];ext
structure PS (l m:cV) (b c d e nq:Nat) (r:d8) (B:Int) (qs:cV):Prop where
 len:r.length<=l.length
 tz:Tz r
 B0:B≠0
 N:∃ N,0<N/\B∣N/\Bd (c+(nq - (r.length+1 - m.length))*d) N/\∀ q∈qs,q.2∣N
 low:Af qs
 qb:∀ q∈qs,Bd (b+nq*(d+1)+e) q.1
 rb:∀ z∈r,Bd (b+(nq - (r.length+1 - m.length))*(d+1)) z
 ql:qs.length=nq
 zer:∀ j,j+m.length<=r.length->Aj qs j=(0,1)
 idn:∀ k,C_ l k=cv (C_ qs) (C_ m) nq k+(co r k:Rat) / (B:Rat)
def Su {a:d8} {g:Int} (k:Nat):co (a.map (·/ g)) k=co a k / g:=Ih (F:=(·/ g)) (Int.zero_ediv g) a k
def Sv {a:d8} {g:Int} (h:∀ z∈a,g∣z) (k:Nat):g∣co a k:=SM h k
def PS.step {l m:cV} {b c d e u:Nat} {r:d8} {B:Int} {D:cV} (S:PS l m b c d e u r B D) (U:Af m) (nm:Nz m) (m1:1<=m.length) (bC:∀ z∈AS m,Bd d z) (bE:Bd e (Ab m)) (M:u=l.length+1 - m.length) (hr:m.length<=r.length)
  {o top I f w g:Int} (v:o=co (AS m) (m.length - 1)) (J:top=co r (r.length - 1)) (X:0<I) (O:f*I=o) (W:w*I=top) {A:d8} (t1:Tz A) (F:∀ k,co A k=f*co r k - w*Ax (r.length - m.length) (co (AS m)) k) (Y:0<g) (Z:g∣B*f) (gr:∀ z∈A,g∣z) :
  PS l m b c d e u (A.map (·/ g)) (B*f / g) (D.set (r.length - m.length) (Ay (top*Ab m) (B*o)))/\A.length<r.length:=by
 have G:o≠0:=by rw [v];exact L9 U nm m1
 have cl:(AS m).length=m.length:=B8 m;have P:f≠0:=λz=>G (by rw [<-O,z,Int.zero_mul])
 have a0:A.length<r.length:=by
  have:A.length<=r.length - 1:=Sa (b:=[]) t1 _ λk hk=>by
   rw [F k];unfold Ax;rw [nV ⋯];by_cases ek:k=r.length - 1
   ·rw [ek,<-J,show r.length - 1 - (r.length - m.length)=m.length - 1 by omega,<-v,<-W,<-O];ext
   ·rw [Ah (a:=r) ⋯,Ah (a:=AS m) (k:=k - (r.length - m.length)) ⋯];omega
  omega
 have BC:(A.map (·/ g)).length=A.length:=AJ ..;obtain ⟨N,N0,NB,Nb,Nq⟩:=S.N;have a2:=S.len;have bl:Bd d o:=by rw [v];exact DE bC _
 have bt:Bd (b+(u - (r.length+1 - m.length))*(d+1)) top:=by rw [J];exact DE S.rb _
 have bf:Bd d f:=EA G ⟨I,by rw [O]⟩ bl
 have bw:Bd (b+(u - (r.length+1 - m.length))*(d+1)) w:=by
  by_cases z:top=0
  ·have w0:w=0:=by
    rcases Int.mul_eq_zero.mp (W.trans z) with h | h
    ·exact h
    ·omega
   rw [w0];exact D8 _
  ·exact EA z ⟨I,by rw [W]⟩ bt
 have R:r.length - m.length<u:=by omega
 have bne:B*o≠0:=CC S.B0 G;have T:=GT (n:=top*Ab m) bne;have p:∀ {q:Nu},q∈D.set (r.length - m.length) (Ay (top*Ab m) (B*o))->q∈D\/q=Ay (top*Ab m) (B*o):=λ{q} h=>List.mem_or_eq_of_mem_set h
 have C:∀ j,Aj (D.set (r.length - m.length) (Ay (top*Ab m) (B*o))) j=if j=r.length - m.length then Ay (top*Ab m) (B*o) else Aj D j:=λj=>by
  unfold Aj;rw [AQ,AQ];by_cases e:j=r.length - m.length
  ·rw [nV e,e,F8 (by rw [S.ql];exact R)];rfl
  ·rw [nU e,List.getElem?_set_ne (λz=>e z.symm)]
 have L:∀ x:Nat,(u - (r.length+1 - m.length))*x+x<=(u - (A.length+1 - m.length))*x:=λx=>by
  have:=Cf x (show u - (r.length+1 - m.length)+1<=u - (A.length+1 - m.length) by omega);rw [Nat.add_mul,Nat.one_mul] at this;exact this
 refine ⟨⟨⋯,?_,?_,⟨N*(o.natAbs:Int),?_,?_,?_,?_⟩,?_,?_,?_,?_,?_,?_⟩,a0⟩
 ·rcases t1 with h | h
  ·left;rw [h];rfl
  ·right;rw [BC,Su];intro z;have:=Int.ediv_mul_cancel (Sv gr (A.length - 1));rw [z,Int.zero_mul] at this;exact h this.symm
 ·intro z;have d:=Int.ediv_mul_cancel Z;rw [z,Int.zero_mul] at d;exact CC S.B0 P d.symm
 ·exact CM N0 ⋯
 ·refine CS (Int.ediv_dvd_of_dvd Z) (Int.mul_dvd_mul NB ?_);exact Int.dvd_natAbs.mpr ⟨I,by rw [O]⟩
 ·have a1:Bd d (o.natAbs:Int):=bl.le (by rw [Cj];exact AR _);refine (Nb.mul a1).mono ?_;rw [BC];have:=L d;omega
 ·intro q M;rcases p M with h | h
  ·exact CS (Nq q h) (Int.dvd_mul_right ..)
  ·rw [h];exact ZN bne (Int.mul_dvd_mul NB (Int.dvd_natAbs.mpr (Int.dvd_refl _)))
 ·intro q M;rcases p M with h | h
  ·exact S.low q h
  ·rw [h];exact T
 ·intro q M;rcases p M with h | h
  ·exact S.qb q h
  ·rw [h];refine (Os bne (bt.mul bE) (Nat.lt_two_pow_self:Bd _ (B*o))).1.mono ?_;have:=Cf (d+1) (show u - (r.length+1 - m.length)<=u by omega);omega
 ·intro z hz;obtain ⟨y,hy,rfl⟩:=AX.mp hz;refine L8 (gr y hy) ?_;refine HW (n:=b+(u - ((A.map (·/ g)).length+1 - m.length))*(d+1)) (λk=>?_) y hy;rw [F k,BC];have gw:=L (d+1);refine Bd.mono (m:=(b+(u - (r.length+1 - m.length))*(d+1)+d)+1) (Bd.sub ((bf.mul (DE S.rb k)).mono ⋯) ?_) ⋯;unfold Ax;split
  ·exact bw.mul (DE bC _)
  ·rw [Int.mul_zero];exact D8 _
 ·rw [List.length_set];exact S.ql
 ·intro j hj;rw [BC] at hj;rw [C,nU ⋯];exact S.zer j ⋯
 ·intro k;have hB:=Ap S.B0;have hL:=Ap G;have hg:=Ap (AV Y);have hF:=Ap P;have hE:=Ap (AV (CZ U).1)
  have c1:=Ow (f:=C_ D) (f':=C_ (D.set (r.length - m.length) (Ay (top*Ab m) (B*o)))) (g:=C_ m) (s:=r.length - m.length) (x:=val (Ay (top*Ab m) (B*o)))
   (by unfold C_;rw [S.zer _ ⋯];exact R' _) (by unfold C_;rw [C,nV rfl]) (λi hi=>by unfold C_;rw [C,nU hi]) u k
  have gd:g∣f*co r k - w*Ax (r.length - m.length) (co (AS m)) k:=by rw [<-F k];exact Sv gr k
  rw [c1,S.idn k,Su,F k,SL (AV Y) gd,SL (AV Y) Z,HC bne];have a3:(f:Rat)*I=o:=by exact_mod_cast O
  have a4:(w:Rat)*I=top:=by exact_mod_cast W
  have hS:=Ap (AV X);unfold Ax;by_cases hk:r.length - m.length<=k
  ·rw [nV hk,nV ⟨R,hk⟩,IO U (CZ U),<-Jc];show _+(co r k:Rat) / _=_+_*((co (AS m) (k - (r.length - m.length)):Rat) / _)+_;push_cast;generalize (co (AS m) (k - (r.length - m.length)):Rat)=dk;generalize cv (C_ D) (C_ m) u k=c;generalize (co r k:Rat)=x;ext
  ·rw [nU hk,nU ⋯];push_cast;generalize cv (C_ D) (C_ m) u k=c;generalize (co r k:Rat)=x;ext
def MM {a b:Nu} (h:Ci a=Ci b):a=b:=by
 unfold Ci at h;injection h with h;injection h with d c;injection c with c _;injection d with d;injection c with c;exact Prod.ext d c
def uF (h:Jy K vs H Q E):yC K { nx:=λ_ H'=>Q .non H',rt:=Q } (L2.start ["P","Q","row","divisor","rest","bottom","lead","quotient","shift","shared","spare"] vs) H:=by
 obtain ⟨p,q,xs,ys,l,m,b0,c0,d0,e0,rfl,hp,v,hN,hM,GL,GM,m0,c4,m6,hc,hb,he,hd,k⟩:=h;obtain ⟨ba,bb,bc⟩:=GL.clr;obtain ⟨T,bd,bf⟩:=GM.clr;obtain ⟨M,hO,bM,c5⟩:=GL.ov;obtain ⟨M',c6,c7,_⟩:=GM.ov;have hl:=GL.low;have hm:=GM.low;have nm:=GM.nz;have m1:1<=m.length:=B4.mpr m0;have b9:b0<=900000:=by omega
 have c9:c0<=400000:=by omega
 have lx:=hN.length;have ly:=hM.length;have bg:∀ q∈m,Bd 60000000 q.1:=λq v=>(bf q v).mono ⋯;have bE:Bd e0 (Ab m):=bd;have OE:=CZ hm;have OL:=CZ hl;have bL:Bd c0 (Ab l):=bb;have cl:(AS m).length=m.length:=by unfold AS;rw [AJ]
 have bi:(AS l).length=l.length:=by unfold AS;rw [AJ]
 refine HI (AN rfl (be hp ⟨l,hN,hl,M,hO,bM.mono ⋯,λq v=>(bc q v).mono ⋯,⋯,λra a H1 s1 F G=>?_⟩));have bj:=s1 _ _ v;refine HI (AN rfl (be bj ⟨m,hM.tp (E_ s1),hm,Ab m,OE,bE.mono ⋯,bg,⋯,λrb b H2 s2 U W=>?_⟩));have F:=s2 _ _ F;have G:=s2 _ _ G;have X:=s1.trans s2;have bk:=X _ _ hp;have a7:=X _ _ v
 have A:∀ {r:d8},1<=r.length->P_ (r.map V.int) (-1)=some (V.int (r.getD (r.length - 1) 0)):=λ{r} h=>by
  unfold P_ Y';rw [nU ∅,nV (by rw [AJ];omega),AJ,show (-1+(r.length:Int)).toNat=r.length - 1 by omega];show (r.map V.int)[r.length - 1]?=_;rw [Ac,AQ,AZ ⋯];rfl
 have el:=A (r:=AS m) ⋯;rw [cl] at el;generalize x:(AS m).getD (m.length - 1) 0=e at el;have Y:e≠0:=by rw [<-x];exact L9 hm nm m1
 have a8:Bd d0 e:=by rw [<-x];exact IN T _
 refine Bu (Cb rfl F rfl (Bu (Cb rfl F rfl (Bu (Az (Cb rfl U rfl ⟨_,rfl,_,_,_,_,rfl,rfl,W,el,?_⟩))))));refine Bu (Az (Jk (CD (M_ (M_ ⟨BC,λe1 ab=>⟨Dc,λe2 aj=>?_⟩⟩)))));have u:=(AL ab (.tup [.int 0,.int 1])).trans (AL aj (.lst [.ref e1]));have en:(if (0:Int) > (xs.length:Int) - (ys.length:Int)+1 then 0 else (xs.length:Int) - (ys.length:Int)+1)=((l.length+1 - m.length:Nat):Int):=by split <;> omega
 refine ⟨_,rfl,_,_,rfl,u _ _ bk,_,rfl,_,_,rfl,u _ _ a7,_,_,rfl,rfl,_,_,rfl,rfl,_,_,rfl,?_⟩;refine ⟨_,((l.length+1 - m.length:Nat):Int),_,rfl,congrArg V.int en,upd_same,⋯,⋯,sz (by simp;omega),λw hw=>?_⟩;refine LQ ab aj hw λH3 h1 al u _ w2=>?_;rw [EI,Ji] at al;have N0:Nums H3 (List.replicate (l.length+1 - m.length) (V.ref e1)) (List.replicate (l.length+1 - m.length) (0,1)):=Nums.rep ⟨e1,rfl,h1⟩ _
 have gz:∀ n j:Nat,Aj (List.replicate n ((0,1):Nu)) j=(0,1):=λn j=>by
  unfold Aj;rw [AQ,FW];split <;> rfl
 refine D5 (λn σ H'=>∃ (c:Addr) (r:d8) (B:Int) (zs:c_) (I:cV) (x8 x9 J:d7),σ=[some (.ref p),some (.ref q),some (.ref ra),some (.ref rb),some (.ref c),some (.int B),some (.int e),some (.ref w),x8,x9,J]/\Same H2 H'/\H' c=some (.lst (r.map V.int))/\c≠w/\H' w=some (.lst zs)/\Nums H' zs I/\PS l m b0 c0 d0 e0 (l.length+1 - m.length) r B I/\n=r.length) l.length
  ⟨a,AS l,Ab l,_,_,none,none,none,rfl,u,u _ _ G,BO G w2,al,N0,⟨⋯,EW hl GL.nz,AV OL.1,⟨Ab l,OL.1,Int.dvd_refl _,bL.mono ⋯,λq v=>?_⟩,λq v=>?_,λq v=>?_,λz hz=>?_,List.length_replicate ..,λj _=>gz _ j,λk=>?_⟩,bi.symm⟩ ?_
 ·rw [(List.mem_replicate.mp v).2];exact Int.one_dvd _
 ·rw [(List.mem_replicate.mp v).2];exact IM
 ·rw [(List.mem_replicate.mp v).2];exact D8 _
 ·exact (ba z hz).mono ⋯
 ·rw [Ox _ _ (λi _=>by unfold C_;rw [gz];exact R' _),IO hl OL,Jc];exact (Rat.zero_add _).symm
 rintro n σ H4 ⟨c,r,B,zs,I,x8,x9,J,rfl,s4,C,cw,Z,N4,o,rfl⟩;have am:=s4 _ _ a7;refine ⟨_,rfl,_,_,rfl,C,_,rfl,_,_,rfl,am,_,_,rfl,rfl,_,rfl,Ag (λcc=>?_) (λcc=>?_)⟩
 ·have an:m.length<=r.length:=by have cc:=nX cc;rw [AJ] at cc;omega
  refine ⟨_,λ_ _ h=>h,?_⟩;have es:((r.map V.int).length:Int) - (ys.length:Int)=((r.length - m.length:Nat):Int):=by rw [AJ];omega
  have lt:=A (r:=r) ⋯;generalize P:r.getD (r.length - 1) 0=top at lt;have ao:=s4 _ _ U;have bw:=s4 _ _ W;obtain ⟨N,L,NB,Nb,Nq⟩:=o.N;have a0:Bd 400000 B:=(EA (AV L) NB Nb).mono (Bg (Nat.add_le_add_left (Cf _ (Nat.sub_le _ _)) _) hc)
  have bl:b0+(l.length+1 - m.length - (r.length+1 - m.length))*(d0+1)<=900000:=by
   have:=Cf (d0+1) (Nat.sub_le (l.length+1 - m.length) (r.length+1 - m.length));omega
  have R:Bd 900000 top:=by rw [<-P];exact (IN o.rb _).mono bl
  have bm:∀ z∈r,Bd 60000000 z:=λz hz=>(o.rb z hz).mono ⋯;refine ⟨_,rfl,_,_,rfl,C,_,rfl,_,_,rfl,am,_,_,rfl,rfl,?_⟩;show Qx K _ [some (.ref p),some (.ref q),some (.ref ra),some (.ref rb),some (.ref c),some (.int B),some (.int e),some (.ref w),some (.int (((r.map V.int).length:Int) - (ys.length:Int))),x9,J] _;rw [es];have bne:B*e≠0:=CC o.B0 Y;refine Zq (CL ⟨_,rfl,_,rfl,_,_,_,_,rfl,rfl,C,lt,_,rfl,_,_,_,_,rfl,rfl,ao,rfl,_,_,rfl,rfl,EC R bE,_,rfl,_,rfl,_,_,rfl,rfl,EC a0 a8,_,_,rfl,bne,λt1 ap=>?_⟩);have c8:zs.length=l.length+1 - m.length:=by rw [N4.length,o.ql]
  have bx:=o.len;refine ⟨_,rfl,_,rfl,_,zs,_,r.length - m.length,rfl,rfl,AL ap _ _ _ Z,FQ rfl ⋯,?_⟩;refine PX ap Z w2 s4 λH5 s5 ar h5 bn k5=>?_;have hn:=Nums.set (q:=Ay (top*Ab m) (B*e)) ⟨t1,rfl,h5⟩ (r.length - m.length) (N4.tp bn);have D:=k5 _ _ cw C;have b1:=s5 _ _ U;have b2:=s5 _ _ W;refine FP ⟨_,rfl,_,rfl,_,_,_,_,rfl,rfl,D,lt,_,rfl,_,_,rfl,?_⟩;show Qw K _ [some (.ref p),some (.ref q),some (.ref ra),some (.ref rb),some (.ref c),some (.int B),some (.int e),some (.ref w),some (.int ((r.length - m.length:Nat):Int)),some (.int ((Int.gcd top e:Nat):Int)),J] _;have y:(0:Int)<((Int.gcd top e:Nat):Int):=by have:=Int.gcd_pos_of_ne_zero_right top Y;omega
  have a1:((Int.gcd top e:Nat):Int)∣e:=EH top e;have a2:((Int.gcd top e:Nat):Int)∣top:=E5 top e;have hf:=Int.ediv_mul_cancel a1;have a3:=Int.ediv_mul_cancel a2;generalize bz:((Int.gcd top e:Nat):Int)=sh at y a1 a2 hf a3 ⊢;have a4:=L8 a1 a8;have b3:=L8 a2 R;have a5:e.fdiv sh=e / sh:=Dv e (DS y);have b4:top.fdiv sh=top / sh:=Dv top (DS y);generalize ca:e / sh=f at hf a4 a5 ⊢;generalize top / sh=wt at a3 b3 b4 ⊢;refine Bu (Zr ⟨_,rfl,_,rfl,_,rfl,_,_,rfl,rfl,AV y,_,rfl,_,_,_,_,rfl,rfl,b1,rfl,_,rfl,_,rfl,_,_,_,_,rfl,rfl,D,lt,_,rfl,_,_,rfl,rfl,AV y,_,rfl,?_⟩);refine ⟨_,_,r,AS m,f,wt,r.length - m.length,by rw [<-a5,<-b4],D,b2,⋯,⋯,a4.mono ⋯,b3.mono ∅,bm,λz hz=>(T z hz).mono ⋯,λc1 O H6 s6 b5 t6 e6=>?_⟩;have bp:f≠0:=λz=>Y (by rw [<-hf,z,Int.zero_mul])
  have l6:O.length<=1000:=by
   have:O.length<=1000:=Sa (b:=[]) t6 1000 λk hk=>by
    rw [e6 k,Ah (a:=r) ⋯];unfold Ax;split
    ·rw [Ah (a:=AS m) ⋯];omega
    ·omega
   exact this
  refine ⟨_,rfl,_,rfl,_,rfl,_,_,rfl,rfl,AV y,_,_,rfl,rfl,?_⟩;rw [a5];refine ⟨EC a0 a4,?_⟩;show Qv K _ _ _;refine FP ⟨_,rfl,_,rfl,_,O,_,rfl,b5,l6,λg H7 s7 gn gB gr _=>?_⟩
  have g0:0<g:=by
   rcases Int.lt_or_eq_of_le gn with z | z
   ·exact z
   ·exact absurd (Int.zero_dvd.mp (z ▸ gB)) (CC o.B0 bp)
  have bq:=s7 _ _ b5;obtain ⟨S5,br⟩:=o.step hm nm m1 T bE rfl an x.symm P.symm y hf a3 t6 e6 g0 gB gr;have bs:(O.map (·/ g)).length=O.length:=AJ ..;refine FP ⟨_,rfl,_,rfl,_,O,_,rfl,bq,.inl g0,⋯,λc2 b6=>⟨_,rfl,_,rfl,_,_,rfl,rfl,g0,?_⟩⟩;have bt:=AL b6 (.lst ((O.map (·/ g)).map V.int));have b7:=s6.trans s7;have a6:=b7.trans bt;exact ⟨O.length,br,_,O.map (·/ g),_,_,_,_,_,_,rfl,s5.trans a6,upd_same,(BO (b7 _ _ ar) b6).symm,a6 _ _ ar,hn.tp (E_ a6),S5,bs.symm⟩
 ·have an:r.length<m.length:=by have cc:=nZ (Bool.eq_false_iff.mpr cc);rw [AJ] at cc;omega
  obtain ⟨N,L,NB,Nb,Nq⟩:=o.N;have a0:Bd 400000 B:=(EA (AV L) NB Nb).mono (Bg (Nat.add_le_add_left (Cf _ (Nat.sub_le _ _)) _) hc);have c3:=o.ql;show Qy K _ _ _;refine CU (CD (Bw ⟨_,rfl,_,_,I,rfl,Z,N4,⋯,λt1 z1 H5 s5 h5 n5=>?_⟩));have D:=s5 _ _ C;have bu:=o.len;refine CL ⟨_,rfl,_,rfl,_,r,_,rfl,D,o.B0,⋯,λt2 z2 H6 s6 h6 n6=>⟨BC,λt ht=>?_⟩⟩;have st:=AL ht (.tup [.ref t1,.ref t2]);have S:Af (r.map λn=>Ay n B):=λq v=>by obtain ⟨n,_,rfl⟩:=AX.mp v;exact GT o.B0
  have bv:∀ k,C_ (r.map λn=>Ay n B) k=(r.getD k 0:Rat) / (B:Rat):=λk=>by
   unfold C_ Aj;rw [AQ,AQ,Ac];cases r[k]? with
   | none=>exact (R' _).trans (R' _).symm
   | some z=>exact HC o.B0
  have Bo:=o.rb;have r0:r.length+1 - m.length=0:=by omega
  rw [r0,Nat.sub_zero] at Bo Nb;have bB:Bd (c0+(l.length+1 - m.length)*d0) B:=EA (AV L) NB Nb;obtain ⟨RO,RB⟩:=Ii o.B0 Bo;obtain ⟨TO,TB⟩:=uD RO RB;refine k t t1 t2 _ (trim I) (trim (r.map λn=>Ay n B)) ((((X.trans s4).trans s5).trans s6).trans st) upd_same (Pl.same ⟨z1,h5,n5⟩ (s6.trans st)) (Pl.same ⟨z2,h6,n6⟩ st) (λq v=>o.low q (EQ v)) (GQ _) ?_ ⟨λq v=>S q (EQ v),GQ _,_,TO,bB.le ⋯,TB⟩ ?_ λk=>?_
  ·have:=GS I;omega
  ·have:=GS (r.map λn=>Ay n B);rw [AJ] at this;omega
  ·obtain ⟨d,hd⟩:∃ d,l.length+1 - m.length=(trim I).length+d:=⟨l.length+1 - m.length - (trim I).length,by have:=GS I;omega⟩;rw [HD S,bv,o.idn k,Oz (λi=>(HD o.low i).symm),hd,Oy (λi hi=>CY hi)];rfl
def MR.add {n F G L:dF} (a:MR n F) (b:MR n G) (h:∀ k,L k=F k+G k):MR n L:=by
 obtain ⟨A,c⟩:=a;obtain ⟨B,d⟩:=b;exact ⟨A7 A B,λk=>by rw [Br,<-c k,<-d k,h k]⟩
def MR.smul {n F L:dF} (a:MR n F) (c:Rat) (h:∀ k,L k=c*F k):MR n L:=by
 obtain ⟨A,b⟩:=a;exact ⟨A.map (c*·),λk=>by rw [BG,<-b k,h k]⟩
def MR.sub {n F G L:dF} (a:MR n F) (b:MR n G) (h:∀ k,L k=F k - G k):MR n L:=
 a.add (b.smul (-1) (L:=λk=>-1*G k) λ_=>rfl) λk=>by rw [h k];ext
theorem Sw (F G:dF) (k:Nat):∀ n,cv F G n k=cvL ((List.range n).map F) G k
 | 0=>rfl
 | n+1=>by
   show cv F G n k+(if n<=k then F n*G (k - n) else 0)=_;rw [Sw F G k n,E7,By,List.map_singleton,Db,AJ,Bm];unfold Ax;by_cases hk:n<=k
   ·rw [nV hk,nV hk]
   ·rw [nU hk,nU hk];ext
def uG {F:dF} {n:Nat} (h:∀ i,n<=i->F i=0) (k:Nat):F k=cvL ((List.range n).map F) AY k:=by
 rw [DN,AQ,Ac];by_cases hk:k<n
 ·rw [DU hk];rfl
 ·rw [BL (by rw [Bm];omega),h k ⋯];rfl
def Gq.mono {b c a d:Nat} {l:cV} (G:Gq b c l) (e:b<=a) (f:c<=d):Gq a d l:=by
 obtain ⟨x,y,M,O,g,h⟩:=G;exact ⟨x,y,M,O,g.mono f,λz i=>(h z i).mono e⟩
def F2 {T:cV} {b c:Nat} (g:Af T) (n:Nz T) {M:Int} (j:0<M) (o:Bd c M) {N:dC} (h:∀ k,C_ T k=(N k:Rat) / (M:Rat)) (p:∀ k,Bd b (N k)):Gq b c T:=by
 have f:∀ q∈T,∃ k,q.2∣M/\q.1*(M / q.2)=N k:=λq d=>by
  obtain ⟨i,r,rfl⟩:=E6 d;have e:Aj T i=T[i]:=by unfold Aj;rw [AQ,AZ r];rfl
  have m:=g _ d;have v:=h i;unfold C_ at v;rw [e] at v;exact ⟨i,Sk m (Sj (AV m.pos) (AV j) v)⟩
 refine ⟨g,n,M,⟨j,λq d=>?_⟩,o,λz u=>?_⟩
 ·obtain ⟨k,a,_⟩:=f q d;exact a
 ·obtain ⟨q,d,rfl⟩:=AX.mp u;obtain ⟨k,_,a⟩:=f q d;rw [a];exact p k
def uH (h:IZ K vs H Q E):Qo K { nx:=λ_ g=>Q .non g,rt:=Q } (L2.start ["one","other"] vs) H:=by
 obtain ⟨p,q,a,b,c,d,rfl,hp,i,e,f,j,m,n,o,k⟩:=h;unfold Qo;rwa [hp,i];exact ⟨Dg j n,Dg m o,AV (CM e f),λr u=>by rw [MA (CM e f)];exact k r u⟩
def uI (h:Jz K vs H Q E):Qp K { nx:=λ_ e=>Q .non e,rt:=Q } (L2.start ["one","other"] vs) H:=by
 obtain ⟨p,q,a,b,c,d,rfl,hp,f,g,i,j,m,n,o,k⟩:=h;unfold Qp;rwa [hp,f];exact ⟨Dg j o,Dg m n,CC (AV g) i,k⟩
def uJ (h:J0 K vs H Q E):QB K { nx:=λ_ n=>Q .non n,rt:=Q } (L2.start ["row","other","result","place","whole","step","factor"] vs) H:=by
 obtain ⟨p,q,f,g,b,d,rfl,hp,N,bn,bm,b9,d9,ln,lm,k⟩:=h;unfold QB;rwa [hp,N];have P:∀ B:d8,((!(List.map V.int B).isEmpty)=false)↔B.length=0:=λB=>by cases B <;> simp
 simp only [P];refine Ag (λc=>?_) (λc=>Ag (λc2=>?_) (λc2=>?_))
 ·exact ⟨sz ∅,λr R=>k r _ (AL R _) (by rw [nV (.inl c)];exact upd_same)⟩
 ·exact ⟨sz ∅,λr R=>k r _ (AL R _) (by rw [nV (.inr c2)];exact upd_same)⟩
 rw [nU ⋯] at k;refine ⟨sz ∅,λa ha=>?_⟩;have O:=AL ha (.lst [.int 0]);have F:=O _ _ hp;have S:=O _ _ N;rwa [F,S];rw [AJ,AJ];have eL:((f.length:Int)+(g.length:Int) - 1).toNat=f.length+g.length - 1:=by omega
 rw [eL,Ly];refine ⟨⋯,⋯,sz ⋯,λw T=>?_⟩;generalize U:f.length+g.length - 1=L at T ⊢;have sw:=AL T (.lst (Av L λ_=>0))
 have w0:H w=none:=by
  cases e:H w with
  | none=>rfl
  | some o=>have z:=O _ _ e;rw [T] at z;cases z
 refine ⟨⟨_,SqL.of (sw _ _ F)⟩,ForJ.enumL (xs:=f.map V.int) (λi v n=>∃ W X C D:d7,v=[some (.ref p),some (.ref q),some (.ref w),W,X,C,D]/\Same H n/\n w=some (.lst (Av L λk=>ps f g i k)))
  ⟨none,none,none,none,rfl,O.trans sw,upd_same⟩ ?_ ?_ ?_⟩
 ·rintro i v n _ ⟨_,_,_,_,_,s1,_⟩;exact SqL.of (s1 _ _ hp)
 ·rintro i x pp v H1 G ⟨W,X,C,D,rfl,s1,m⟩ Y;rw [Ac] at G;cases en:f[i]? with
  | none=>rw [en] at G;cases G
  | some z=>
    rw [en] at G;obtain rfl:V.int z=x:=mF G;have il:i<f.length:=(BK.mp en).1;have zd:f.getD i 0=z:=by rw [AQ,en];rfl
    have I:=AL Y (.tup [.int (i:Int),.int z]);rwa [];refine Ag (λc3=>?_) (λc3=>?_)
    ·refine ⟨⟨_,SqL.of (I _ _ (s1 _ _ N))⟩,ForJ.enumL (xs:=g.map V.int) (λj v n=>∃ C D:d7,v=[some (.ref p),some (.ref q),some (.ref w),some (.int (i:Int)),some (.int z),C,D]/\Same H n/\n w=some (.lst (Av L λk=>b8 f g i j k)))
      ⟨C,D,rfl,s1.trans I,by rw [I _ _ m];exact congrArg (λl=>some (HO.lst l)) (Ic λk _=>(ZL f g i k))⟩ ?_ ?_ ?_⟩
     ·rintro j v n _ ⟨_,_,_,J,_⟩;exact SqL.of (J _ _ N)
     ·rintro j y pq v H2 M ⟨y3,y4,rfl,J,A⟩ Z;rw [Ac] at M;cases em:g[j]? with
      | none=>rw [em] at M;cases M
      | some u=>
        rw [em] at M;obtain rfl:V.int u=y:=mF M;have jl:j<g.length:=(BK.mp em).1;have ud:g.getD j 0=u:=by rw [AQ,em];rfl
        have sq:=AL Z (.tup [.int (j:Int),.int u]);have a0:=sq _ _ A;rwa [a0];have kl:i+j<L:=by omega
        refine ⟨_,Ca ⋯ (DD _ kl),Dg ((bn z (A4 en)).mono ⋯) ((bm u (A4 em)).mono ⋯),_,rfl,i+j,?_,λb o h=>Kp.upd b o (BO h w0) (sq b o (J b o h)),?_⟩
        ·rw [DO];exact FQ ⋯ kl
        ·refine HR kl ?_ λk _ hk=>?_
         ·rw [Oj,nV rfl,zd,ud]
         ·rw [Oj,nU hk]
     ·rintro v H2 ⟨y3,y4,rfl,J,A⟩;rw [AJ] at A;exact ⟨_,_,_,_,rfl,J,A⟩
    ·refine ⟨s1.trans I,?_⟩;rw [I _ _ m];refine congrArg (λl=>some (HO.lst l)) (Ic λk _=>?_);have z0:z=0:=Decidable.not_not.mp c3;show ps f g i k+_=ps f g i k;rw [zd,z0];simp
 ·rintro v H1 ⟨W,X,C,D,rfl,s1,m⟩;rwa [];rw [AJ] at m;subst U;exact k w H1 s1 m
def uK (h:Fw K vs H Q E):Qt K { nx:=λ_ R=>Q .non R,rt:=Q } (L2.start ["P","Q","one","other"] vs) H:=by
 obtain ⟨p,q,xs,ys,l,m,b,c,d,e,rfl,hp,f,S,T,Gl,j,ll,lm,b9,c9,d9,e9,k⟩:=h;unfold Qt;obtain ⟨I,g,U⟩:=Gl.clr;obtain ⟨J,i,W⟩:=j.clr;have o:=CZ Gl.low;have u:=CZ j.low;rwa [hp,f];refine be hp ⟨l,S,Gl.low,Ab l,o,g.mono ⋯,λq f=>(U q f).mono ⋯,⋯,λr a H1 s1 X Y=>?_⟩;have v:=s1 _ _ f;rwa [v];refine be v ⟨m,T.tp (E_ s1),j.low,Ab m,u,i.mono ⋯,λq f=>(W q f).mono ⋯,⋯,λr2 a2 H2 B x C=>?_⟩;have y:=B _ _ X;have D:=B _ _ Y;rwa [y,x];have Z:(AS l).length=l.length:=by unfold AS;rw [AJ]
 have L:(AS m).length=m.length:=by unfold AS;rw [AJ]
 refine ⟨AS l,D,AS m,C,b,I,d,J,⋯,⋯,⋯,⋯,λw H3 F hw=>?_⟩;have G:=F _ _ y;have z:=F _ _ x;rwa [G,z];have A:0<Ab l*Ab m:=CM o.1 u.1;refine ⟨Dg (g.mono ⋯) (i.mono ⋯),_,hw,AV A,?_,λr4 zs H4 s4 h4 M=>?_⟩
 ·split
  ·exact Ae _
  ·rw [AJ,Bm];omega
 have O:trim (ER l m (l.length+m.length))=trim (List.map (λn=>Ay n (Ab l*Ab m)) (if (AS l).length=0\/(AS m).length=0 then [] else List.map (λk=>ps (AS l) (AS m) (AS l).length k) (List.range ((AS l).length+(AS m).length - 1)))):=by
  rw [Z,L,show (λn=>Ay n (Ab l*Ab m))=λn=>W_ n (Ab l*Ab m) from funext λn=>MA A];exact ZM A L
 have P:Af (ER l m (l.length+m.length)):=O3 o u
 have pv:∀ k,C_ (trim (ER l m (l.length+m.length))) k=cv (C_ l) (C_ m) l.length k:=λk=>by
  rw [HD P];exact O4 Gl.low j.low o u k
 rw [<-O] at M;refine k r4 _ H4 (((s1.trans B).trans F).trans s4) ⟨zs,h4,M⟩ ?_ ?_ pv
 ·refine F2 (λq f=>P q (EQ f)) (GQ _) A (g.mul i) (N:=λk=>ps (AS l) (AS m) l.length k) (λk=>?_) λk=>LA I J _ _;rw [pv];exact (Jb Gl.low j.low o u _ _).symm
 ·rw [O];refine Bg (GS _) ?_;rw [AJ];split
  ·exact Ae _
  ·rw [AJ,Bm];omega
def uL (h:Ia K vs H Q E):Qu K { nx:=λ_ d=>Q .non d,rt:=Q } (L2.start ["P","c"] vs) H:=by
 obtain ⟨p,c,j,l,a,b,rfl,hp,D,v,F,G,I,J,L,ll,k⟩:=h;unfold Qu;rwa [hp];have M:=v.length;refine ⟨⟨_,SqT.of hp⟩,CompJ.tup (xs:=j) (λi f d=>i<=j.length/\Same H d/\Nums d f ((l.take i).map λq=>G_ q (a,b))) ⟨Ae _,Same.refl H,trivial⟩ ?_ ?_ ?_⟩
 ·rintro i f d ⟨y,s1,e⟩;exact ⟨y,sz (by rw [e.length,AJ,CG];omega),s1 _ _ hp⟩
 ·rintro i x f d A ⟨y,s1,e⟩;obtain ⟨z,n,W,rfl,o⟩:=v.get A;have N:i<j.length:=(BK.mp A).1;have g:=s1 _ _ o;have u:=s1 _ _ D;have O:=F z (A4 n);have B:=L z (A4 n);rwa [g,u];refine ⟨O.pos,G,B.1,B.2,I,J,λr m=>⟨⋯,s1.trans (AL m _),?_⟩⟩;rw [HQ _ n];exact (e.tp (E_ (AL m _))).append (Nums.one PN)
 ·rintro f d ⟨_,s1,e⟩ w P;have C:=AL P (.lst f);rw [M,CQ] at e;rwa [];exact ⟨_,e.tp (E_ C),by rw [AJ];omega,λr R S T m U=>k r R S ((s1.trans C).trans T) m U⟩
def uM (h:Gc K vs H Q E):Q2 K { nx:=λ_ r=>Q .non r,rt:=Q } (L2.start ["P","Q"] vs) H:=by
 obtain ⟨p,q,R,S,l,m,b,c,d,e,rfl,hp,w,x,y,Gl,f,n,ll,z,A,B,C,D,F,k⟩:=h;unfold Q2;rwa [hp,w];refine ⟨l,x,m,y,b,c,Gl,d,e,f,n,ll,z,A,B,C,D,λt u v G a g s1 I J T L M N U W o=>?_⟩
 have O:∀ k,C_ g k=0:=by
  have j:MR (C_ m) (C_ g):=F.sub (uE (P:=λk=>cv (C_ a) (C_ m) a.length k) a.length (λk=>rfl)) λk=>by have:=o k;show C_ g k=C_ l k - cv (C_ a) (C_ m) a.length k;ext
  refine λk=>MR.short (Fz f.low f.nz n) (λi X=>CY ⋯) j (λk hk=>CY ⋯) k
 rwa [I];exact k u a G s1 J L M N λk=>by rw [o k,O k];ext
def HZ (l:cV) (k:Nat):cvL (rw' l) AY k=C_ l k:=(uG (λi a=>CY a) k).symm
def Hb (l:cV) (g:dF) (k:Nat):cv (C_ l) g l.length k=cvL (rw' l) g k:=Sw _ _ k _
theorem Sz {L M G T B:dF} {t b U W:List Rat} {n:Nat} (a:∀ k,cvL t AY k=T k) (c:∀ k,cvL b AY k=B k) (d:G n≠0) (f:∀ i,n<i->G i=0)
  (g:∀ k,L k=cvL t G k) (h:∀ k,M k=cvL b G k) (e:∀ k,G k=cvL U L k+cvL W M k):Cop T B:=by
 refine ⟨U,W,λk=>?_⟩
 have z:=LS d f (A:=[1]) (B:=A7 (Bb U t) (Bb W b)) (λk=>by
  rw [Br,Bt,Bt,<-BE g,<-BE h,<-e k];cases k with
  | zero=>rw [At];ext
  | succ k=>rw [Am,BA];ext) AY k
 rw [Br,Bt,Bt,BE a,BE c] at z;rw [<-z,DN];cases k with
 | zero=>rfl
 | succ k=>rfl
def Cop.scal {T B a b:dF} {s:Rat} (c:s≠0) (h:Cop T B) (d:∀ k,a k=s*T k) (f:∀ k,b k=s*B k):Cop a b:=by
 obtain ⟨U,W,e⟩:=h;refine ⟨U.map (s⁻¹*·),W.map (s⁻¹*·),λk=>?_⟩;rw [BG,BG,BE d,BE f,DB,DB,e k];have:s⁻¹*s=1:=E8 s c;ext
def S3 {l m:cV} {g:d8} (a:Af l) (b:Af m) (R:RC (co (AS l)) (co (AS m)) g):∃ U W:List Rat,∀ k,C_ (I_ g) k=cvL U (C_ l) k+cvL W (C_ m) k:=by
 obtain ⟨d,c,U,W,f⟩:=R.qi;have h:=Ap c;have j:=Ss a;have n:=Ss b;refine ⟨(U.map λz:Int=>(z:Rat)).map (((co g (g.length - 1):Rat))⁻¹*(d:Rat)⁻¹*(((Ab l:Rat))⁻¹)⁻¹*·),(W.map λz:Int=>(z:Rat)).map (((co g (g.length - 1):Rat))⁻¹*(d:Rat)⁻¹*(((Ab m:Rat))⁻¹)⁻¹*·),λk=>?_⟩;have e:(d:Rat)*(co g k:Rat)=((cvL U (co (AS l)) k:Int):Rat)+((cvL W (co (AS m)) k:Int):Rat):=by exact_mod_cast f k
 rw [KC j (F1 a),KC n (F1 b)] at e;rw [BG,BG,FU R.lz];generalize cvL (U.map λz:Int=>(z:Rat)) (C_ l) k=x at e ⊢;generalize cvL (W.map λz:Int=>(z:Rat)) (C_ m) k=y at e ⊢;generalize ((Ab l:Rat)⁻¹)⁻¹=u at e ⊢;generalize ((Ab m:Rat)⁻¹)⁻¹=v at e ⊢;have i:(d:Rat)⁻¹*(d:Rat)=1:=E8 _ h;have:(co g k:Rat)=(d:Rat)⁻¹*(u*x+v*y):=by rw [<-e];ext
 rw [this];ext
theorem S7 {l a:cV} {g:d8} {b n c:Nat} (j:Af l) (r:Af a) (o:∀ z∈AS l,Bd b z) (p:l.length<=n) (q:n<2 ^ c) (d:Lz g) (P:Prim g) (m:MQ (co g) (co (AS l))) (e:∀ k,C_ l k=cv (C_ a) (C_ (I_ g)) a.length k) :
  ∃ A:d8,(∀ k,Bd (b+n*(2*c+4)) (co A k))/\∀ k,C_ a k=((co g (g.length - 1):Rat))*(co A k:Rat)*((Ab l:Rat))⁻¹:=by
 obtain ⟨A,f⟩:=O_ P m;refine ⟨A,vO o (by rw [B8];exact p) q d f,λk=>?_⟩;have u:=Ap d.2;have top:C_ (I_ g) (g.length - 1)≠0:=by rw [FU d];ext
 have h:∀ i,g.length - 1<i->C_ (I_ g) i=0:=λi h=>CY (by rw [DQ];omega)
 have z:=LS top h (A:=rw' a) (B:=(A.map λz:Int=>(z:Rat)).map ((co g (g.length - 1):Rat)*((Ab l:Rat))⁻¹*·)) (λk=>by
  rw [<-Hb,<-e k,BG,F1 j,f k,KC (HY d) (FU d)];ext) AY k
 rw [HZ,BG,DN,AQ,Ac] at z;rw [z];unfold co;rw [AQ (l:=A)];cases A[k]? with
 | none=>show _*(0:Rat)=_*((0:Int):Rat)*_;ext
 | some v=>show _*(v:Rat)=_*(v:Rat)*_;ext
theorem S8 {l:cV} {a b:Int} (c:Af l) (d:0<b) (k:Nat):C_ (l.map λq=>G_ q (a,b)) k=val (a,b)*C_ l k:=by
 unfold C_ Aj;rw [AQ,AQ,Ac];cases e:l[k]? with
 | none=>
   show val (0,1)=_*val (0,1);have:val (0,1)=0:=by unfold val;exact R' _
   rw [this];ext
 | some q=>
   show val (G_ q (a,b))=_*val q;rw [Oq (c q (A4 e)).pos d];ext
def S9 {l:cV} {a b:Int} (c:Af l) (d:0<b):Af (l.map λq=>G_ q (a,b)):=λq e=>by
 obtain ⟨z,f,rfl⟩:=AX.mp e;exact ZI (c z f).pos d
def KD:Low 1 1:=⟨∅,∅⟩
def bdc {n:Nat} {x:Int} (h:x.natAbs<2 ^ n):Bd n x:=h
def uN (h:J2 K vs H Q E):Q1 K { nx:=λ_ Y=>Q .non Y,rt:=Q } (L2.start ["P","Q","factor"] vs) H:=by
 obtain ⟨p,q,l,m,rfl,⟨xs,hp,Z⟩,⟨ys,c,C⟩,ll,N,nm,O,P,G,l9,m9,k⟩:=h;have p1:0<m.length:=B4.mpr O;obtain ⟨v,I,pv,rfl,b⟩:=C.at (i:=m.length - 1) ⋯ (0,1);have J:P_ ys (-1)=some (V.ref pv):=atI_last (by rw [C.length];exact p1) (by rw [C.length];exact I);have R:Low (Aj m (m.length - 1)).1 (Aj m (m.length - 1)).2:=Es N _;have o:=Sl nm O
 have mL:Aj m (m.length - 1)∈m:=by
  unfold Aj;rw [AQ,AZ ⋯];exact DH _
 have x:=G _ mL;have b:H pv=some (HO.tup [V.int (Aj m (m.length - 1)).1,V.int (Aj m (m.length - 1)).2]):=b;generalize a0:Aj m (m.length - 1)=r at b R o x k;unfold Q1;rwa [];refine ⟨sz ∅,λw hw=>?_⟩;have D:=AL hw (.tup [.int 1,.int 1]);have y:=D _ _ c;have d:=D _ _ b;have z:upd H w (.tup [.int 1,.int 1]) w=some (HO.tup [V.int 1,V.int 1]):=upd_same;generalize upd H w (.tup [.int 1,.int 1])=S at D y d z ⊢;refine ⟨_,y,_,J,_,rfl,?_⟩;rwa [d,z];have T:Bd 60000000 1:=(bdc (n:=1) ∅).mono ∅;refine ⟨∅,o,T,T,x.1.mono ∅,x.2.mono ∅,λf hf=>?_⟩;rw [Int.one_mul,Int.one_mul];have F:=GT (n:=r.2) o;have A:=Os o x.2 x.1
 have U:val (Ay r.2 r.1)*val r=1:=by
  have z1:=Ap o;have z2:=Ap (AV R.pos);rw [HC o];unfold val;ext
 generalize Ay r.2 r.1=a at F A U ⊢;have W:=AL hf (.tup [.int a.1,.int a.2]);have e:upd S f (.tup [.int a.1,.int a.2]) f=some (HO.tup [V.int a.1,V.int a.2]):=upd_same;generalize upd S f (.tup [.int a.1,.int a.2])=H4 at W e ⊢;have g:=D.trans W;have L:=g _ _ hp;rwa [L,e];refine ⟨l,Z.tp (E_ g),ll,F.pos,A.1.mono ∅,A.2.mono ∅,λq c=>⟨(P q c).1.mono ∅,(P q c).2.mono ∅⟩,⋯,λu us H6 X hu nu=>?_⟩;have j:=g.trans X;refine ⟨_,j _ _ c,m,a.1,a.2,X _ _ e,C.tp (E_ j),N,F.pos,A.1.mono ∅,A.2.mono ∅,λq c=>⟨(G q c).1.mono ∅,(G q c).2.mono ∅⟩,⋯,λv vs H7 M I nv=>⟨sz ∅,λt ht=>?_⟩⟩;have B:=AL ht (.tup [.ref u,.ref v]);exact k a F U t u v _ ((j.trans M).trans B) upd_same ⟨us,B _ _ (M _ _ hu),(nu.tp (E_ M)).tp (E_ B)⟩ ⟨vs,B _ _ I,nv.tp (E_ B)⟩
def uO (h:J1 K vs H Q E):Qn K { nx:=λ_ j=>Q .non j,rt:=Q } (L2.start ["one","other"] vs) H:=by
 obtain ⟨p,q,a,b,c,d,rfl,hp,m,e,f,n,g,o,i,k⟩:=h;unfold Qn;rwa [hp,m];exact ⟨Dg n i,Dg o g,Dg g i,AV (CM e f),λr u=>by rw [MA (CM e f)];exact k r u⟩
def MN {B:cV} (h:Aj B (B.length - 1)=(1,1)):C_ B (B.length - 1)=1:=by
 unfold C_;rw [h];unfold val;show ((1:Int):Rat) / ((1:Int):Rat)=1;rw [show ((1:Int):Rat)=1 from rfl];ext
def FF.same {H d:Hp} {p:Addr} {T B:cV} (h:FF H p T B) (s:Same H d):FF d p T B:=let ⟨u,v,a,b,c⟩:=h;⟨u,v,s _ _ a,b.same s,c.same s⟩
def Gh (l:cV):sr l=Sr.L (rw' l):=Sr.ext' λk=>(HZ l k).symm
def C3 (l:cV):Sr.Pol (sr l):=⟨_,Gh l⟩
def uP (l:cV) (g:dF):(⟨cvL (rw' l) g⟩:Sr)=sr l*⟨g⟩:=by rw [Gh,Sr.L_mul]
def Ez {P A C:cV} (h:∀ k,C_ P k=cv (C_ A) (C_ C) A.length k):sr P=sr A*sr C:=by
 refine Eq.trans ?_ (uP A (C_ C));exact Sr.ext' λk=>(h k).trans (Hb _ _ _)
def F3 {l:cV} (a:Af l) (b:Nz l) (c:l≠[]):sr l≠0:=λz=>Fz a b c (by
 have:=mH (congrArg Sr.c z) (l.length - 1);rw [Sr.zero_c] at this;exact this)
def He {l m:cV} (a:Af l) (b:Af m) (c:Nz l) (d:Nz m) (h:sr l=sr m):l=m:=ZQ a b c d λk=>mH (congrArg Sr.c h) k
def Ij (k:Nat):(1:Sr).c k=AY k:=by show ((1:Nat):Rat)*AY k=_;push_cast;ext
def sr_cop {T B:cV}:Cop (C_ T) (C_ B)↔Sr.Cs (sr T) (sr B):=by
 constructor
 ·rintro ⟨U,W,e⟩;refine ⟨Sr.L U,Sr.L W,Sr.Pol.L _,Sr.Pol.L _,?_⟩;rw [Sr.L_mul,Sr.L_mul];exact Sr.ext' λk=>by rw [Ij,e k];rfl
 ·rintro ⟨_,_,⟨U,rfl⟩,⟨W,rfl⟩,e⟩;refine ⟨U,W,λk=>?_⟩;rw [Sr.L_mul,Sr.L_mul] at e;have:=mH (congrArg Sr.c e) k;rw [Ij] at this;exact this.symm
theorem Ik (p:dC):∀ (w:d8) (k:Nat),((cvL w p k:Int):Rat)=cvL (w.map λz:Int=>(z:Rat)) (λk=>(p k:Rat)) k
 | [],_=>rfl
 | x::w,0=>by rw [At];show _=(x:Rat)*(p 0:Rat)+0;push_cast;rfl
 | x::w,k+1=>by rw [Am];show _=(x:Rat)*(p (k+1):Rat)+cvL (w.map λz:Int=>(z:Rat)) (λk=>(p k:Rat)) k;rw [<-Ik p w k];push_cast;rfl
def FV (a:d8):si a=Sr.L (a.map λz:Int=>(z:Rat)):=Sr.ext' λk=>by
 show ((co a k:Int):Rat)=cvL _ AY k;rw [DN];unfold co;rw [AQ,AQ,Ac];cases a[k]? <;> rfl
def CK (a:d8):Sr.Pol (si a):=⟨_,FV a⟩
def Gi {a b c:d8} (h:∀ k,co a k=cvL b (co c) k):si a=si b*si c:=by
 rw [FV b,Sr.L_mul];refine Sr.ext' λk=>?_;show ((co a k:Int):Rat)=cvL _ (λk=>((co c k:Int):Rat)) k;rw [h k,Ik]
def Hf {a:d8} (h:Lz a):si a≠0:=λz=>h.2 (by
 have:=mH (congrArg Sr.c z) (a.length - 1);rw [Sr.zero_c] at this;have this:((co a (a.length - 1):Int):Rat)=0:=this;exact_mod_cast this)
def Il (a:d8):Sr.Bn (si a) a.length:=λk hk=>by
 show ((co a k:Int):Rat)=0;rw [Ah hk];rfl
def TC (a:d8) (k:Nat):co (dI a) k=((k+1:Nat):Int)*co a (k+1):=by
 by_cases h:k<a.length - 1
 ·unfold dI;show ((List.range (a.length - 1)).map _).getD k 0=_;rw [AQ,Ac,DU h];rfl
 ·rw [Ah (by unfold dI;rw [AJ,Bm];omega),Ah (k:=k+1) ⋯,Int.mul_zero]
def Gj (a:d8):(dI a).length=a.length - 1:=by unfold dI;rw [AJ,Bm]
def uQ (a:d8):si (dI a)=Sr.D (si a):=Sr.ext' λk=>by
 show ((co (dI a) k:Int):Rat)=((k:Rat)+1)*((co a (k+1):Int):Rat);rw [TC];push_cast;rfl
def Gk {g:Int} (a:d8):si (a.map (g*·))=Sr.num (g:Rat)*si a:=Sr.ext' λk=>by
 rw [Sr.num_mul];show ((co (a.map (g*·)) k:Int):Rat)=(g:Rat)*((co a k:Int):Rat)
 have e:co (a.map (g*·)) k=g*co a k:=by
  unfold co;rw [AQ,AQ,Ac];cases a[k]? with
  | none=>simp
  | some z=>rfl
 rw [e];push_cast;rfl
namespace Sr
def num_num (x y:Rat):num x*num y=num (x*y):=ext' λk=>by
 rw [num_mul];show x*(y*AY k)=x*y*AY k;ext
def num_one:num 1=1:=congrArg num (show (1:Rat)=((1:Nat):Rat) by push_cast;rfl)
def num_inv {x:Rat} (h:x≠0):num x⁻¹*num x=1:=by
 rw [num_num,E8 _ h];exact num_one
theorem mul_pow {f g:Sr}:∀ n:Nat,(f*g) ^ n=f ^ n*g ^ n
 | 0=>by rw [pow_z,pow_z,pow_z];ext
 | n+1=>by rw [pow_s,pow_s,pow_s,mul_pow n];ext
theorem num_pow (x:Rat):∀ n:Nat,num x ^ n=num (x ^ n)
 | 0=>by rw [pow_z,Rat.pow_zero];exact num_one.symm
 | n+1=>by rw [pow_s,num_pow x n,num_num,Rat.pow_succ]
end Sr
def KE {x:Rat} (h:x≠0):x⁻¹≠0:=λz=>by
 have:=E8 _ h;rw [z] at this;ext
def TD {g f:d8} (m:MQ (co g) (co f)):∃ B,Sr.Pol B/\si f=B*si g:=by
 obtain ⟨c,a,A,h⟩:=m;have b:=Ap a;refine ⟨Sr.num ((c:Rat)⁻¹)*si A,(Sr.Pol.num _).mul (CK A),?_⟩
 have e:Sr.num (c:Rat)*si f=si A*si g:=by
  rw [<-Gk];refine Gi λk=>?_;rw [<-h k];unfold co;rw [AQ,AQ,Ac];cases f[k]? with
  | none=>simp
  | some z=>rfl
 have i:=Sr.num_inv b;have:si f=Sr.num ((c:Rat)⁻¹)*Sr.num (c:Rat)*si f:=by rw [i];ext
 rw [this,show Sr.num ((c:Rat)⁻¹)*Sr.num (c:Rat)*si f=Sr.num ((c:Rat)⁻¹)*(Sr.num (c:Rat)*si f) by ext,e];ext
def TF {r o g:d8} (R:RC (co r) (co o) g) {A B:Sr} (a:Sr.Pol A) (b:Sr.Pol B) (c:si r=A*si g) (f:si o=B*si g):Sr.Cs A B:=by
 obtain ⟨d,i,U,W,h⟩:=R.qi
 have e:Sr.num (d:Rat)*si g=si U*si r+si W*si o:=by
  rw [FV U,FV W,Sr.L_mul,Sr.L_mul];refine Sr.ext' λk=>?_;rw [Sr.num_mul];show (d:Rat)*((co g k:Int):Rat)=cvL _ (λk=>((co r k:Int):Rat)) k+cvL _ (λk=>((co o k:Int):Rat)) k;rw [<-Ik,<-Ik];exact_mod_cast h k
 have j:Sr.num (d:Rat)=si U*A+si W*B:=Sr.cancel (Sr.Pol.num _) (((CK U).mul a).add ((CK W).mul b)) (CK g) (Hf R.lz) (by rw [e,c,f];ext);exact Sr.Cs.of_unit (Ap i) rfl (CK U) (CK W) j.symm
def DvI (a g:d8):Prop:=∃ A:d8,∀ k,co a k=cvL A (co g) k
def DvI.fac {c g q a:d8} (h:DvI c g) (e:∀ k,co g k=cvL q (co a) k):DvI c a/\DvI c q:=by
 obtain ⟨A,d⟩:=h;refine ⟨⟨Bb A q,λk=>?_⟩,⟨Bb A a,λk=>?_⟩⟩
 ·rw [d k,Bt,BE e]
 ·have i:∀ k,co g k=cvL a (co q) k:=λk=>by
   have f:∀ (b:d8) (k:Nat),co b k=cvL b AY k:=λb k=>by rw [DN];rfl
   rw [e k,BE (f a),BE (f q),HF]
  rw [d k,Bt,BE i]
theorem DvI.self (a:d8):DvI a a:=⟨[1],λk=>by
 cases k with
 | zero=>rw [At];ext
 | succ k=>rw [Am,BA];ext⟩
def DvI.len {a g:d8} (h:DvI a g) (b:Lz a) (l2:Lz g):g.length<=a.length:=FR l2 b (by
 obtain ⟨A,c⟩:=h;exact ⟨1,∅,A,λk=>by rw [Int.one_mul];exact c k⟩)
def TH {a:d8} (h:Lz a):sr (I_ a)=Sr.num ((co a (a.length - 1):Rat))⁻¹*si a:=Sr.ext' λk=>by
 rw [Sr.num_mul];exact FU h k
def Hg {l:cV} (h:Af l):sr l=Sr.num ((Ab l:Rat))⁻¹*si (AS l):=Sr.ext' λk=>by
 rw [Sr.num_mul];exact F1 h k
def H_ {x y:Rat} (a:x≠0) (b:y≠0):x*y≠0:=λz=>by
 rcases Rat.mul_eq_zero.mp z with z | z
 ·exact a z
 ·exact b z
def uR (l:cV):Sr.Bn (sr l) l.length:=λk hk=>CY hk
structure Mon (b:Nat) (R:cV):Prop where
 gq:Gq b b R
 ne:R≠[]
 one:Aj R (R.length - 1)=(1,1)
def Mon.top {b:Nat} {R:cV} (h:Mon b R):(sr R).c (R.length - 1)=1/\Sr.Bn (sr R) (R.length - 1+1):=by
 have:=B4.mpr h.ne;exact ⟨MN h.one,by rw [Nat.sub_add_cancel this];exact uR R⟩
def uS {R:cV} {Y:Sr} {n:Nat} (f:Af R) (g:Nz R) (e:sr R=Y) (i:Y.c n≠0) (j:Sr.Bn Y (n+1)):R≠[]/\R.length=n+1/\C_ R (R.length - 1)=Y.c n:=by
 have a:C_ R n=Y.c n:=mH (congrArg Sr.c e) n
 have b:n<R.length:=by
  rcases A5 n R.length with h | h
  ·exact h
  ·exact absurd (a.symm.trans (CY h)) i
 have c:R≠[]:=λz=>by rw [z] at b;simp at b
 have d:R.length=n+1:=by
  rcases A5 (n+1) R.length with h | h
  ·have z:=Fz f g c;exact absurd ((mH (congrArg Sr.c e) (R.length - 1)).trans (j _ ⋯)) z
  ·omega
 exact ⟨c,d,by rw [d];exact a⟩
theorem uT:∀ (n:Nat) (D:d8),Lz D->(co D (D.length - 1)).natAbs<=n->∃ (g:Int) (P:d8),g≠0/\D=P.map (g*·)/\Prim P/\Lz P/\P.length=D.length:=by
 intro n
 induction n with
 | zero=>intro D l h;exact absurd (Int.natAbs_eq_zero.mp ⋯) l.2
 | succ n o=>
   intro D l h;by_cases d:Prim D
   ·exact ⟨1,D,∅,by simp,d,l,rfl⟩
   ·obtain ⟨c,f⟩:=Classical.not_forall.mp d;have a:∀ k,c∣co D k:=Classical.byContradiction λz=>f λy=>absurd y z;have p:c.natAbs≠1:=λz=>f λ_=>z;have j:c≠0:=λz=>l.2 (by have:=a (D.length - 1);rw [z] at this;exact Int.zero_dvd.mp this)
    have e:D=(D.map (·/ c)).map (c*·):=by
     rw [B3];refine (List.map_id D).symm.trans (Ce λz q=>?_);obtain ⟨i,r,rfl⟩:=E6 q;have:=a i;unfold co at this;rw [AQ,AZ r] at this;exact (GA this).symm
    have b:(D.map (·/ c)).length=D.length:=AJ ..
    have m:∀ k,co D k=c*co (D.map (·/ c)) k:=λk=>by
     have:=mH (congrArg Sr.c (Gk (g:=c) (D.map (·/ c)))) k;rw [<-e,Sr.num_mul] at this;have this:((co D k:Int):Rat)=(c:Rat)*((co (D.map (·/ c)) k:Int):Rat):=this;exact_mod_cast this
    have l2:Lz (D.map (·/ c)):=⟨by rw [b];exact l.1,λz=>l.2 (by rw [b] at z;rw [m,z,Int.mul_zero])⟩
    have sm:(co (D.map (·/ c)) ((D.map (·/ c)).length - 1)).natAbs<=n:=by
     have u:=m (D.length - 1);rw [b];rw [u,Bx] at h;have C:(co (D.map (·/ c)) (D.length - 1)).natAbs≠0:=λz=>l2.2 (by rw [b];exact Int.natAbs_eq_zero.mp z);have v:2<=c.natAbs:=by have:=Int.natAbs_pos.mpr j;omega
     have:=Cf (co (D.map (·/ c)) (D.length - 1)).natAbs v;omega
    obtain ⟨g,P,w,x,A,B,ll⟩:=o _ l2 sm;refine ⟨c*g,P,CC j w,?_,A,B,⋯⟩;rw [e,x,B3];refine Ce λz _=>?_;show c*(g*z)=c*g*z;ext
theorem TJ:∀ a:List Rat,∃ c:Int,c≠0/\∃ A:d8,∀ k,(c:Rat)*a.getD k 0=((A.getD k 0:Int):Rat)
 | []=>⟨1,∅,[],λk=>by simp⟩
 | x::a=>by
   obtain ⟨c,d,A,h⟩:=TJ a;have b:((x.den:Int))≠0:=by have:=x.den_pos;omega
   have f:(x.den:Rat)*x=(x.num:Rat):=by
    have g:(x.num:Rat) / ((x.den:Int):Rat)=x:=(Rat.divInt_eq_div x.num (x.den:Int)).symm.trans (Rat.num_divInt_den x);have i:=Ap b;have j:((x.den:Int):Rat)=(x.den:Rat):=rfl;rw [j] at g i;ext
   refine ⟨c*x.den,CC d b,(c*x.num)::A.map (λz=>(x.den:Int)*z),λk=>?_⟩;cases k with
   | zero=>
     show ((c*x.den:Int):Rat)*x=((c*x.num:Int):Rat);push_cast;rw [Rat.mul_assoc,f]
   | succ k=>
     show ((c*x.den:Int):Rat)*a.getD k 0=(((A.map λz=>(x.den:Int)*z).getD k 0:Int):Rat)
     have e:(A.map λz=>(x.den:Int)*z).getD k 0=(x.den:Int)*A.getD k 0:=by
      rw [AQ,AQ,Ac];cases A[k]? <;> simp
     rw [e];have:=h k;push_cast at this ⊢;ext
def MO {f g:d8} {Y:Sr} (d:Sr.Pol Y) (e:si f=Y*si g):MQ (co g) (co f):=by
 obtain ⟨a,rfl⟩:=d;obtain ⟨c,i,A,h⟩:=TJ a;refine ⟨c,i,A,λk=>?_⟩
 have m:si A=Sr.num (c:Rat)*Sr.L a:=Sr.ext' λj=>by
  rw [Sr.num_mul];show ((A.getD j 0:Int):Rat)=(c:Rat)*cvL a AY j;rw [DN];exact (h j).symm
 have b:Sr.num (c:Rat)*si f=si A*si g:=by rw [e,m];ext
 rw [FV A,Sr.L_mul] at b;have:=mH (congrArg Sr.c b) k;rw [Sr.num_mul] at this;have this:(c:Rat)*((co f k:Int):Rat)=cvL (A.map λz:Int=>(z:Rat)) (λk=>((co g k:Int):Rat)) k:=this;rw [<-Ik] at this;exact_mod_cast this
def TK {l:cV} (a:Af l) (b:Nz l) (c:l≠[]):∃ (x:Rat) (P:d8),x≠0/\sr l=Sr.num x*si P/\Prim P/\Lz P/\P.length=l.length:=by
 have d:Lz (AS l):=DP (EW a b) (λz=>c (CB.mp (by rw [<-B8,z];rfl)));obtain ⟨g,P,f,e,h,i,j⟩:=uT _ _ d (AR _);refine ⟨((Ab l:Rat))⁻¹*(g:Rat),P,H_ (KE (Ap (AV (CZ a).1))) (Ap f),?_,h,i,by rw [j,B8]⟩;rw [Hg a,e,Gk,<-Sr.num_num];ext
def TM {P:d8} {d:Nat} (b:Lz P) (e:∀ k,Bd d (co P k)):Mon d (I_ P):=by
 have a:=b.2;refine ⟨F2 (FT b) (Fy b) (M:=((co P (P.length - 1)).natAbs:Int)) ⋯ ?_ (N:=λk=>if 0<co P (P.length - 1) then co P k else - co P k) (λk=>?_) (λk=>?_),?_,?_⟩
 ·show ((co P (P.length - 1)).natAbs:Int).natAbs<2 ^ d;rw [Cj];exact e _
 ·rw [HX b];by_cases c:0<co P (P.length - 1)
  ·rw [nV c,Int.natAbs_of_nonneg ⋯]
  ·rw [nU c,show ((co P (P.length - 1)).natAbs:Int) = - co P (P.length - 1) by omega];have f:=Ap a;push_cast;ext
 ·split
  ·exact e k
  ·exact (e k).neg
 ·intro z;have g:(I_ P).length=0:=by rw [z];rfl
  rw [DQ] at g;have:=b.1;omega
 ·refine DA (Es (FT b) _) ⟨∅,∅⟩ ?_;show C_ (I_ P) _=_;rw [DQ,HX b];have f:=Ap a;unfold val;show _=((1:Int):Rat) / ((1:Int):Rat);push_cast;ext
def uU {c:Nat} {p q:cV} {x:Rat} (d:Af p) (f:Nz p) (m:p≠[]) (g:Aj p (p.length - 1)=(1,1)) (b:Mon c q) (h:x≠0) (e:sr p=Sr.num x*sr q):p=q:=by
 have t:(Sr.num x*sr q).c (q.length - 1)=x:=by rw [Sr.num_mul,b.top.1];ext
 have i:Sr.Bn (Sr.num x*sr q) (q.length - 1+1):=λk hk=>by rw [Sr.num_mul,b.top.2 k hk];ext
 obtain ⟨_,len,a⟩:=uS d f e (by rw [t];exact h) i;have j:x=1:=by rw [<-t,<-a,MN g]
 rw [j,Sr.num_one] at e;exact He d b.gq.low f b.gq.nz (by rw [e];ext)
def TN {R:d8} {Y:Sr} {n:Nat} (l:Lz R) (e:si R=Y) (c:Y.c n≠0) (d:Sr.Bn Y (n+1)):R.length=n+1/\((co R (R.length - 1):Int):Rat)=Y.c n:=by
 have a:((co R n:Int):Rat)=Y.c n:=mH (congrArg Sr.c e) n
 have f:n<R.length:=by
  rcases A5 n R.length with h | h
  ·exact h
  ·rw [Ah h] at a;exact absurd a.symm c
 have b:R.length=n+1:=by
  rcases A5 (n+1) R.length with h | h
  ·have z:((co R (R.length - 1):Int):Rat)=0:=(mH (congrArg Sr.c e) (R.length - 1)).trans (d _ ⋯);exact absurd (by exact_mod_cast z) l.2
  ·omega
 exact ⟨b,by rw [b];exact a⟩
def uV {T B:cV} {N D:d8} {b n e:Nat} (h:Lw T B) (g:Lz D) (tN:Tz N) (R:∀ z∈N,Bd b z) (S:∀ z∈D,Bd b z) (n1:N.length<=n) (n2:D.length<=n) (X:n<2 ^ e) (Z:sr T*si D=si N*sr B) :
  Gq (b+(b+n*(2*e+4))) (b+(b+n*(2*e+4))) T/\Gq (b+n*(2*e+4)) (b+n*(2*e+4)) B/\T.length<=N.length/\B.length<=D.length:=by
 obtain ⟨U,W,pU,pW,h1⟩:=h.cs
 have o:si D=(U*si N+W*si D)*sr B:=by
  have:si D=(U*sr T+W*sr B)*si D:=by rw [h1];ext
  calc si D=(U*sr T+W*sr B)*si D:=this
   _=U*(sr T*si D)+W*sr B*si D:=by ext
   _=_:=by rw [Z];ext
 generalize hY:U*si N+W*si D=Y at o;have p:Sr.Pol Y:=by rw [<-hY];exact (pU.mul (CK N)).add (pW.mul (CK D))
 obtain ⟨x,P,x0,eB,pP,i,pl⟩:=TK h.lb h.nb h.ne;obtain ⟨A,hA⟩:=O_ pP (MO (p.mul (Sr.Pol.num x)) (show si D=Y*Sr.num x*si P by rw [o,eB];ext));have gl:P.length<=D.length:=DvI.len ⟨A,hA⟩ g i;have bP:∀ k,Bd (b+n*(2*e+4)) (co P k):=Ge S ⟨_,g.2⟩ n2 ⋯ X hA
 have hB:B=I_ P:=by
  have mB:Mon (b+n*(2*e+4)) (I_ P):=TM i bP;have x1:x*(co P (P.length - 1):Rat)≠0:=H_ x0 (Ap i.2);refine uU h.lb h.nb h.ne h.one mB x1 ?_;rw [eB,TH i,<-Sr.num_num]
  have iP:Sr.num (co P (P.length - 1):Rat)*Sr.num ((co P (P.length - 1):Rat))⁻¹=1:=by
   have:=Sr.num_inv (Ap i.2);ext
  ext
 have C:Gq (b+n*(2*e+4)) (b+n*(2*e+4)) B:=by rw [hB];exact (TM i bP).gq
 have lB:B.length<=D.length:=by rw [hB,DQ];exact gl
 have B0:=F3 h.lb h.nb h.ne
 have F:si N=Y*sr T:=by
  refine Sr.cancel (CK N) (p.mul (C3 T)) (C3 B) B0 ?_;rw [<-Z,show sr T*si D=sr T*(Y*sr B) from congrArg _ o];ext
 by_cases G:T=[]
 ·subst G;refine ⟨⟨h.lt,h.nt,1,⟨∅,(λ_ h=>nomatch h)⟩,bdc (by show 1<2 ^ _;exact Nat.one_lt_two_pow (by have:=g.1;have:0<n*(2*e+4):=Nat.mul_pos ⋯ ⋯;omega)),(λ_ h=>nomatch h)⟩,C,Ae _,lB⟩
 have D0:=Hf g;have Y0:Y≠0:=λz=>D0 (by rw [o,z];ext);have TT:=F3 h.lt h.nt G;have N0:si N≠0:=by rw [F];exact Sr.ne_mul p (C3 T) Y0 TT
 have Nn:N≠[]:=λz=>N0 (by rw [z,FV []];exact Sr.L_nil);have I:Lz N:=DP tN Nn;obtain ⟨y,a,y0,J,pQ,v,ql⟩:=TK h.lt h.nt G;obtain ⟨A2,u⟩:=O_ pQ (MO (p.mul (Sr.Pol.num y)) (show si N=Y*Sr.num y*si a by rw [F,J];ext));have a0:a.length<=N.length:=DvI.len ⟨A2,u⟩ I v;have bQ:∀ k,Bd (b+n*(2*e+4)) (co a k):=Ge R ⟨_,I.2⟩ n1 ⋯ X u;obtain ⟨m,hm⟩:=p.bn;rcases Sr.top_ex m hm with z | ⟨j,_,j0,jb⟩
 ·exact absurd z Y0
 have MB:Mon (b+n*(2*e+4)) B:=⟨C,h.ne,h.one⟩;have w:=Sr.top_mul jb MB.top.2;rw [MB.top.1] at w;obtain ⟨_,dD⟩:=TN g o (n:=j+(B.length - 1)) (by rw [w.1];intro z;exact j0 ()) w.2;rw [w.1] at dD;have L:Sr.Bn (si a) (a.length - 1+1):=by rw [Nat.sub_add_cancel v.1];exact Il a
 have d:=Sr.top_mul (f:=Y*Sr.num y) (m:=j) (λk hk=>by rw [show Y*Sr.num y=Sr.num y*Y by ext,Sr.num_mul,jb k hk];ext) L;have cY:(Y*Sr.num y).c j=y*Y.c j:=by rw [show Y*Sr.num y=Sr.num y*Y by ext,Sr.num_mul]
 rw [cY] at d;have O:(si a).c (a.length - 1)=(co a (a.length - 1):Rat):=rfl;rw [O] at d;have q1:=Ap v.2;obtain ⟨_,dN⟩:=TN I (show si N=Y*Sr.num y*si a by rw [F,J];ext) (n:=j+(a.length - 1)) (by rw [d.1];exact H_ (H_ y0 j0) q1) d.2;rw [d.1] at dN;have d1:=Ap g.2;have mz:co D (D.length - 1)*co a (a.length - 1)≠0:=CC g.2 v.2;have bm:Bd (b+(b+n*(2*e+4))) (co D (D.length - 1)*co a (a.length - 1)):=Bd.mul (DE S _) (bQ _);have bt:∀ k,Bd (b+(b+n*(2*e+4))) (co N (N.length - 1)*co a k):=λk=>Bd.mul (DE R _) (bQ k)
 have pT:∀ k,C_ T k=((co N (N.length - 1)*co a k:Int):Rat) / ((co D (D.length - 1)*co a (a.length - 1):Int):Rat):=λk=>by
  have e1:C_ T k=y*((co a k:Int):Rat):=by
   have:=mH (congrArg Sr.c J) k;rw [Sr.num_mul] at this;exact this
  rw [e1];push_cast;rw [dN,dD];generalize ((co a (a.length - 1):Int):Rat)=q at *;generalize ((co a k:Int):Rat)=r at *;ext
 refine ⟨F2 h.lt h.nt (M:=((co D (D.length - 1)*co a (a.length - 1)).natAbs:Int)) ⋯ ?_ (N:=λk=>if 0<co D (D.length - 1)*co a (a.length - 1) then co N (N.length - 1)*co a k else - (co N (N.length - 1)*co a k)) (λk=>?_) (λk=>?_),C,⋯,lB⟩
 ·show ((co D (D.length - 1)*co a (a.length - 1)).natAbs:Int).natAbs<2 ^ _;rw [Cj];exact bm
 ·rw [pT k];generalize co D (D.length - 1)*co a (a.length - 1)=M at *;generalize co N (N.length - 1)*co a k=r at *;by_cases c:0<M
  ·rw [nV c,Int.natAbs_of_nonneg ⋯]
  ·rw [nU c,show (M.natAbs:Int) = - M by omega];have c1:=Ap mz;push_cast;ext
 ·split
  ·exact bt k
  ·exact (bt k).neg
def uW {T B:cV} {N D:Sr} (h:Lw T B) (a:Sr.Pol N) (b:Sr.Pol D) (c:sr T*D=N*sr B):∃ Y,Sr.Pol Y/\D=Y*sr B/\N=Y*sr T:=by
 obtain ⟨U,W,d,e,g⟩:=h.cs
 have f:D=(U*N+W*D)*sr B:=by
  have:D=(U*sr T+W*sr B)*D:=by rw [g];ext
  calc D=(U*sr T+W*sr B)*D:=this
   _=U*(sr T*D)+W*sr B*D:=by ext
   _=_:=by rw [c];ext
 refine ⟨U*N+W*D,(d.mul a).add (e.mul b),f,?_⟩;refine Sr.cancel a (((d.mul a).add (e.mul b)).mul (C3 T)) (C3 B) (F3 h.lb h.nb h.ne) ?_;rw [<-c,show sr T*D=sr T*((U*N+W*D)*sr B) from congrArg _ f];ext
def TQ {l:cV} {N:d8} {Y:Sr} {b n e:Nat} (f:Af l) (c:Lz N) (h:∀ z∈N,Bd b z) (i:N.length<=n) (j:n<2 ^ e) (k:Sr.Pol Y) (m:si N=Y*sr l):Fp (b+n*(2*e+4)) (AS l):=λg o p q=>by
 obtain ⟨r,a,u⟩:=TD q;obtain ⟨A,d⟩:=O_ p (MO ((k.mul (Sr.Pol.num _)).mul a) (show si N=Y*Sr.num ((Ab l:Rat))⁻¹*r*si g by rw [m,Hg f,u];ext));have v:g.length<=N.length:=DvI.len ⟨A,d⟩ c o;exact Ge h ⟨_,c.2⟩ i ⋯ j d
def Fp.mono {x y:Nat} {a:d8} (h:Fp x a) (e:x<=y):Fp y a:=λg b c d k=>(h g b c d k).mono e
def TR {l:cV} (a:Af l) (b:Nz l) (c:l≠[]):Lz (AS l):=DP (EW a b) λz=>c (CB.mp (by rw [<-B8,z];rfl))
def Im {b c n e:Nat} {l:cV} (G:Gq b c l) (f:l≠[]) (h:l.length<=n) (i:n<2 ^ e):Fp (b+n*(2*e+4)) (AS l):=λg j k a=>by
 have d:=TR G.low G.nz f;obtain ⟨A,m⟩:=O_ k a;have o:g.length<=l.length:=by have:=FR j d a;rw [B8] at this;exact this
 exact Ge G.clr.1 ⟨_,d.2⟩ (by rw [B8];exact h) ⋯ i m
def Rp.facts {b n m e:Nat} {T B:cV} (h:Rp b n m T B) (o:n<2 ^ e) (p:m<2 ^ e) :
  Gq (b+(b+max n m*(2*e+4))) (b+(b+max n m*(2*e+4))) T/\Gq (b+max n m*(2*e+4)) (b+max n m*(2*e+4)) B/\T.length<=n/\B.length<=m/\(T≠[]->Fp (b+n*(2*e+4)) (AS T))/\Fp (b+m*(2*e+4)) (AS B):=by
 obtain ⟨N,D,a,d,f,g,nN,q,i⟩:=h.rp;obtain ⟨r,u,x,l2⟩:=uV h.lw a d f g (show N.length<=max n m by omega) (show D.length<=max n m by omega) (show max n m<2 ^ e by omega) i;obtain ⟨Y,c,j,k⟩:=uW h.lw (CK N) (CK D) i;refine ⟨r,u,⋯,⋯,λv=>?_,TQ h.lw.lb a g q p c j⟩;refine TQ h.lw.lt (DP d λz=>?_) f nN o c k;have w:Y≠0:=λz=>Hf a (by rw [j,z];ext);have:=Sr.ne_mul c (C3 T) w (F3 h.lw.lt h.lw.nt v);exact this (by rw [<-k,z,FV []];exact Sr.L_nil)
def C0.dd {x n m e:Nat} (h:C0 x n m e):x*2<=44490/\∀ y,y<=n+m->y*(x+1)<=44490/\y*x<=44490:=by
 have c:=h.lu;have d:=h.n1;have f:=h.m1
 have k:∀ y,y<=n+m->y*(x+1)<=44490/\y*x<=44490:=λy a=>by
  have b:y*(x+1)<=(n+m)*(x+e+2):=Nat.mul_le_mul a ⋯;have g:y*x<=y*(x+1):=Dj _ ⋯;rw [Dt (n+m)] at b;omega
 exact ⟨by have:=(k 2 ⋯).2;omega,k⟩
def C0.ml {x n m e:Nat} (h:C0 x n m e):max n m<2 ^ e/\max n m*(2*e+4)<=960:=by
 have:=h.ne;have:=h.me;have:=h.n60;have:=h.m60;have:=h.e6;have:max n m*(2*e+4)<=60*16:=Nat.mul_le_mul ⋯ ⋯;exact ⟨⋯,this⟩
def uX (h:J3 K vs H Q E):Q0 K { nx:=λ_ H'=>Q .non H',rt:=Q } (L2.start ["P","Q","shared"] vs) H:=by
 obtain ⟨p,q,l,m,b,D,n,I,e,rfl,⟨xs,hp,hN⟩,⟨ys,f,hM⟩,Gl,w,m0,ln,mn,a7,X,Z,b9,k⟩:=h;obtain ⟨D9,zz⟩:=Z.dd;obtain ⟨Y,b6⟩:=Z.ml;have b7:=Z.n60;have ba:=Z.m60;have bb:=Z.n1;have bc:=Z.m1;have bd:=Z.ne;have bf:=Z.me;unfold Q0;rwa [hp,f];refine ⟨l,hN,m,hM,b,b,Gl,w,⋯,⋯,⋯,⋯,D,λl0 _=>⟨a7 l0,X⟩,e,by rw [Cr];omega,n+I,⋯,⋯,Z.lu,λ_ z=>absurd z m0,λ_ g R P r zs H1 s1 hr hz=>?_⟩;have j:=R.lz;have a8:Lz (AS m):=DP (EW w.low w.nz) λz=>m0 (CB.mp (by rw [<-B8,z];rfl));have gl:g.length<=m.length:=by have:=FR j a8 R.right;rwa [B8] at this
 have bg:=X g j P R.right;have Gg:Gq D D (I_ g):=⟨FT j,Fy j,_,(Ii j.2 (HW bg)).1,(bg (g.length - 1)).le ⋯,(Ii j.2 (HW bg)).2⟩;have g0:I_ g≠[]:=B4.mp (by rw [DQ];exact j.1);have M1:MR (C_ (I_ g)) (C_ l):=MR.of (HY j) (F1 Gl.low) (FU j) R.left;have M2:MR (C_ (I_ g)) (C_ m):=MR.of (HY j) (F1 w.low) (FU j) R.right;have ab:=s1 _ _ hp;rwa [hr,ab];have bi:0<(I_ g).length:=B4.mpr g0;have e1:=(zz (l.length+1 - (I_ g).length) ⋯).1;have e2:=(zz (l.length+1 - (I_ g).length) ⋯).2;refine ⟨l,hN.tp (E_ s1),I_ g,hz,b,b,Gl,D,D,Gg,g0,⋯,by rw [DQ];omega,⋯,⋯,⋯,⋯,M1,λr0 o H2 s2 ⟨aj,h0,n0⟩ x al J L=>?_⟩;obtain ⟨A0,am,an⟩:=S7 Gl.low x Gl.clr.1 (show l.length<=max n I by omega) Y j P R.left L;have G0:Gq (D+(b+max n I*(2*e+4))) b o:=F2 x al (CZ Gl.low).1 Gl.clr.2.1 (N:=λk=>co g (g.length - 1)*co A0 k) (λk=>by rw [an,Rat.div_def];push_cast;rfl) λk=>Bd.mul (bg _) (am k)
 have C:∀ q∈o,Bd (D+(b+max n I*(2*e+4))) q.1/\Bd b q.2:=λq f=>⟨G0.clr.2.2 q f,by
  obtain ⟨M,O,bM,_⟩:=G0.ov;exact EA (AV O.1) (O.2 q f) bM⟩
 have S:=s1.trans s2;have ao:=S _ _ f;have ap:=s2 _ _ hr;rwa [ao,ap];have e1:=(zz (m.length+1 - (I_ g).length) ⋯).1;have e2:=(zz (m.length+1 - (I_ g).length) ⋯).2;refine ⟨m,hM.tp (E_ S),I_ g,hz.tp (E_ s2),b,b,w,D,D,Gg,g0,⋯,by rw [DQ];omega,⋯,⋯,⋯,⋯,M2,λr1 d H3 s3 ⟨ar,h1,n1⟩ y a0 b0 A=>?_⟩;obtain ⟨A1,b1,b2⟩:=S7 w.low y w.clr.1 (show m.length<=max n I by omega) Y j P R.right A
 have a1:d≠[]:=λz=>by
  have:=A (m.length - 1);rw [z] at this;exact Fz w.low w.nz m0 this
 have G1:Gq (D+(b+max n I*(2*e+4))) b d:=F2 y a0 (CZ w.low).1 w.clr.2.1 (N:=λk=>co g (g.length - 1)*co A1 k) (λk=>by rw [b2,Rat.div_def];push_cast;rfl) λk=>Bd.mul (bg _) (b1 k);have p1:0<d.length:=B4.mpr a1
 have a2:∀ q∈d,Bd (D+(b+max n I*(2*e+4))) q.1/\Bd b q.2:=λq f=>⟨G1.clr.2.2 q f,by
  obtain ⟨M,O,bM,_⟩:=G1.ov;exact EA (AV O.1) (O.2 q f) bM⟩
 have l0:=J;refine ⟨o,⟨aj,s3 _ _ h0,n0.tp (E_ s3)⟩,d,⟨ar,h1,n1⟩,x,y,a0,a1,λq f=>⟨(C q f).1.mono ⋯,(C q f).2.mono ⋯⟩,λq f=>⟨(a2 q f).1.mono ⋯,(a2 q f).2.mono ⋯⟩,⋯,⋯,λc fl fv t u v H4 s4 ht ⟨us,hu,nu⟩ ⟨vs,hv,nv⟩=>?_⟩;generalize b3:Aj d (d.length - 1)=la at fv;have F:=S9 (a:=c.1) x fl.pos;have G:=S9 (a:=c.1) y fl.pos;have eT:∀ k,C_ (trim (o.map λq=>G_ q (c.1,c.2))) k=val c*C_ o k:=λk=>(HD F k).trans (S8 x fl.pos k);have eB:∀ k,C_ (trim (d.map λq=>G_ q (c.1,c.2))) k=val c*C_ d k:=λk=>(HD G k).trans (S8 y fl.pos k);have a3:(trim (o.map λq=>G_ q (c.1,c.2))).length<=o.length:=Bg (GS _) (by rw [AJ];exact AR _);have a4:(trim (d.map λq=>G_ q (c.1,c.2))).length<=d.length:=Bg (GS _) (by rw [AJ];exact AR _);have lT:Af (trim (o.map λq=>G_ q (c.1,c.2))):=λq f=>F q (EQ f);have lB:Af (trim (d.map λq=>G_ q (c.1,c.2))):=λq f=>G q (EQ f);have nT:=GQ (o.map λq=>G_ q (c.1,c.2));have nB:=GQ (d.map λq=>G_ q (c.1,c.2));generalize trim (o.map λq=>G_ q (c.1,c.2))=T at nu eT a3 lT nT;generalize trim (d.map λq=>G_ q (c.1,c.2))=B at nv eB a4 lB nB;have s0:val c≠0:=λz=>by rw [z] at fv;ext
 have b4:C_ d (d.length - 1)=val la:=by unfold C_;rw [b3]
 have tB:C_ B (d.length - 1)=1:=by rw [eB,b4];exact fv
 have a5:B.length=d.length:=by
  rcases A5 (d.length - 1) B.length with z | z
  ·omega
  ·rw [CY z] at tB;exact absurd tB ∅
 obtain ⟨U,W,eU⟩:=S3 Gl.low w.low R;have a6:C_ (I_ g) ((I_ g).length - 1)≠0:=Fz (FT j) (Fy j) g0;have c0:∀ k,C_ l k=cvL (rw' o) (C_ (I_ g)) k:=λk=>(L k).trans (Hb _ _ _);have c1:∀ k,C_ m k=cvL (rw' d) (C_ (I_ g)) k:=λk=>(A k).trans (Hb _ _ _);have b5:=(S.trans s3).trans s4;refine k t H4 T B b5 ⟨u,v,ht,⟨us,hu,nu⟩,⟨vs,hv,nv⟩⟩ ⟨lT,lB,nT,nB,B4.mp ⋯,?_,sr_cop.mp ?_⟩ ?_
 ·refine DA (Es lB _) KD ?_;have:val ((1:Int),(1:Int))=1:=by unfold val;show ((1:Int):Rat) / ((1:Int):Rat)=1;rw [show ((1:Int):Rat)=1 from rfl];ext
  rw [this,a5];exact tB
 ·exact (Sz (t:=rw' o) (b:=rw' d) (HZ o) (HZ d) a6 (λi hi=>CY ⋯) c0 c1 eU).scal s0 eT eB
 ·have e1:sr T=Sr.num (val c)*sr o:=Sr.ext' λk=>by rw [Sr.num_mul];exact eT k
  have e2:sr B=Sr.num (val c)*sr d:=Sr.ext' λk=>by rw [Sr.num_mul];exact eB k
  rw [e1,e2,Ez L,Ez A];ext
structure Al (b n m e:Nat) (T B:cV):Prop where
 lw:Lw T B
 gt:Gq (2*b+960) (2*b+960) T
 gb:Gq (2*b+960) (2*b+960) B
 tn:T.length<=n
 bm:B.length<=m
 ft:T≠[]->Fp (b+n*(2*e+4)) (AS T)
 fb:Fp (b+m*(2*e+4)) (AS B)
def Rp.of {b c f g n k x:Nat} {l m T B:cV} (L:Lw T B) (Gl:Gq b c l) (a:Gq f g m) (r:m≠[]) (u:l.length<=n) (v:m.length<=k) (C:sr T*sr m=sr l*sr B) (D:b+g<=x) (F:f+c<=x):Rp x n k T B:=by
 have i:=Gl.clr;have j:=a.clr;have o:=TR a.low a.nz r;have p:=(CZ Gl.low).1;have q:=(CZ a.low).1;have G:=Sr.num_inv (Ap (AV p));have I:=Sr.num_inv (Ap (AV q));have w:si (AS l)=Sr.num (Ab l:Rat)*sr l:=by rw [Hg Gl.low];ext
 have A:si (AS m)=Sr.num (Ab m:Rat)*sr m:=by rw [Hg a.low];ext
 refine ⟨L,(AS l).map (Ab m*·),(AS m).map (Ab l*·),⟨by rw [AJ];exact o.1,by rw [AJ,Gf];exact CC (AV p) o.2⟩,?_,λz d=>?_,λz d=>?_,by rw [AJ,B8];exact u,by rw [AJ,B8];exact v,by rw [Gk,Gk,w,A];ext⟩
 ·rcases EW Gl.low Gl.nz with h | h
  ·left;rw [h];rfl
  ·right;rw [AJ,Gf];exact CC (AV q) h
 ·obtain ⟨y,e,rfl⟩:=AX.mp d;exact ((j.2.1).mul (i.1 y e)).mono ⋯
 ·obtain ⟨y,e,rfl⟩:=AX.mp d;exact ((i.2.1).mul (j.1 y e)).mono ⋯
noncomputable def E1 (T B:cV):W.Dat:=.tuple [Cp T,Cp B]
def TU {H:Hp} {p:Addr} {T B:cV} (h:FF H p T B):RepD H (.ref p) (E1 T B):=by
 obtain ⟨u,v,hp,⟨e,a,b⟩,⟨f,c,d⟩⟩:=h;exact .tup hp (.cons (IQ a b) (.cons (IQ c d) .nil))
def okF (T B:cV) (n:Nat):W.kqdOk (n+3) (E1 T B)=true:=by
 simp only [E1,W.kqdOk,List.all_cons,List.all_nil,bK,Bool.and_self]
structure Wt (X Y:cV) (N D:Sr):Prop where
 pN:Sr.Pol N
 pD:Sr.Pol D
 D0:D≠0
 eq:sr X*D=N*sr Y
noncomputable instance (x n m e:Nat):Decidable (C0 x n m e):=decidable_of_iff (1<=n/\1<=m/\n<=60/\m<=60/\n<2 ^ e/\m<2 ^ e/\e<=6/\(x+e+2)*(n+m)<=44490) ⟨λ⟨a,b,c,d,e,f,g,h⟩=>⟨a,b,c,d,e,f,g,h⟩,λ⟨a,b,c,d,e,f,g,h⟩=>⟨a,b,c,d,e,f,g,h⟩⟩
noncomputable instance (b n m e:Nat):Decidable (C2 b n m e):=decidable_of_iff (C1 b m m e/\C1 (2*b+e+1) (n+m - 1) m e/\b<=5000/\m<=50) ⟨λ⟨a,b,c,d⟩=>⟨a,b,c,d⟩,λ⟨a,b,c,d⟩=>⟨a,b,c,d⟩⟩
theorem MP:sr [(1,1)]=1:=Sr.ext' λk=>by
 rw [Ij];cases k with
 | zero=>show val (1,1)=_;unfold val;show ((1:Int):Rat) / ((1:Int):Rat)=1;rw [show ((1:Int):Rat)=1 from rfl];ext
 | succ k=>show C_ [(1,1)] (k+1)=0;exact CY (by simp)
def TV:sr []=0:=Sr.ext' λk=>by rw [Sr.zero_c];exact CY (Ae _)
def uY (m:Nat) (f:dC):Av (m+1) f=Av m f++[V.int (f m)]:=by
 unfold Av;rw [E7,By,By];rfl
def uZ (a:d8):a.map V.int=Av a.length λk=>a.getD k 0:=by
 refine EJ λk=>?_;rcases A5 k a.length with h | h
 ·rw [DD _ h,Ac,AQ,AZ h];rfl
 ·rw [BL (by rw [AJ];exact h),BL (by rw [DO];exact h)]
def tE {a b:Int} (c:-18446744073709551616<a) (d:a<18446744073709551616):IntMulOk a b:=IntMulOk.of_left (intBits_le_64 ⋯ ⋯)
def RadOf.smul {F L:Sr} {x:Rat} (h:RadOf F L):RadOf (Sr.num x*F) L:=by
 obtain ⟨S,M,a,b,d,e,f,c⟩:=h;refine ⟨Sr.num x*S,M,(Sr.Pol.num x).mul a,b,d,by rw [e];ext,by rw [Sr.D_num,f];ext,c⟩
def tF {a b c:d8} (R:RC (co a) (co (dI a)) b) (h:∀ k,co a k=cvL c (co b) k):RadOf (si a) (si c):=by
 obtain ⟨B,d,f⟩:=TD R.right;have e:=Gi h;refine ⟨si b,B,CK b,CK c,d,by rw [e];ext,by rw [<-uQ,f];ext,TF R (CK c) d e f⟩
def KF {c a b:d8} (d:Lz c) (g:Lz b) (o:a.length=c.length+1 - b.length) (h:∀ k,co c k=cvL a (co b) k):Lz a/\a.length+b.length=c.length+1:=by
 have e:=Gi h;have p:=d.1;have i:=g.1
 have f:0<a.length:=by
  rcases DR a.length with z | z
  ·rw [CB.mp z] at e;exact absurd (by rw [e,FV []];show Sr.L []*_=0;rw [Sr.L_nil];ext) (Hf d)
  ·exact z
 refine ⟨⟨f,λz=>?_⟩,⋯⟩;have j:Sr.Bn (si a) (a.length - 1+1):=by rw [Nat.sub_add_cancel f];exact Il a
 have m:Sr.Bn (si b) (b.length - 1+1):=by rw [Nat.sub_add_cancel i];exact Il b
 have t:=(Sr.top_mul j m).1;rw [<-e,show a.length - 1+(b.length - 1)=c.length - 1 by omega] at t;have t:((co c (c.length - 1):Int):Rat)=((co a (a.length - 1):Int):Rat)*((co b (b.length - 1):Int):Rat):=t;rw [z] at t;have n:((co c (c.length - 1):Int):Rat)=0:=by rw [t];push_cast;ext
 exact d.2 (by exact_mod_cast n)
def DvI.bd {a g:d8} (h:DvI a g) (b:Lz a) (d:∀ z∈a,Bd 40 z) (e:a.length<=9) (l2:Lz g):∀ z∈g,Bd 148 z:=by
 have i:=h.len b l2;obtain ⟨A,f⟩:=h;exact HW (Ge (n:=9) (c:=4) d ⟨_,b.2⟩ e ⋯ ∅ f)
def Io {a:d8} (h:Lz a):Tz a:=.inr h.2
def TW {a:d8} (h:Lz a):Tz (dI a):=by
 by_cases c:2<=a.length
 ·refine Io ⟨by rw [Gj];omega,?_⟩;rw [Gj,TC,show a.length - 1 - 1+1=a.length - 1 by omega];exact CC ⋯ h.2
 ·have e:dI a=[]:=CB.mp (by rw [Gj];omega);exact .inl e
def TX {a:d8} (h:∀ z∈a,Bd 40 z) (e:a.length<=9):∀ z∈dI a,Bd 148 z:=λz b=>by
 unfold dI at b;obtain ⟨k,hk,rfl⟩:=AX.mp b;have c:=B9.mp hk
 have d:Bd 4 ((k+1:Nat):Int):=by
  show ((k+1:Nat):Int).natAbs<2 ^ 4;omega
 exact (d.mul (DE h (k+1))).mono ∅
def tG (h:J7 K vs H Q E):QC K { nx:=λ_ c=>Q .non c,rt:=Q } (L2.start ["row"] vs) H:=by
 obtain ⟨p,d,b,rfl,hp,o,q,r,k⟩:=h;unfold QC;rwa [hp];rw [AJ];refine ⟨∅,∅,⋯,⋯,CompJ.range (λi e c=>i<=d.length - 1/\Same H c/\e=Av i λk=>((k+1:Nat):Int)*co d (k+1)) ⟨Ae _,Same.refl H,rfl⟩ ?_ ?_ ?_⟩
 ·rintro i e c ⟨g,s1,rfl⟩;exact ⟨⋯,sz (by rw [DO];omega)⟩
 ·rintro i e c u ⟨g,s1,rfl⟩;have f:=s1 _ _ hp
  have m:P_ (d.map V.int) (1+(i:Int))=some (V.int (co d (i+1))):=by
   refine Ca (j:=i+1) ⋯ ?_;rw [uZ];exact DD _ ⋯
  rwa [f,m];refine ⟨tE ⋯ ⋯,⋯,s1,?_⟩;rw [uY i,show (1+(i:Int))=((i+1:Nat):Int) by omega];rfl
 ·rintro e c ⟨_,s1,rfl⟩ a n;refine k a _ (s1.trans (AL n _)) ?_;rw [upd_same,show ((d.length:Int) - 1).toNat=d.length - 1 by omega];rfl
def tH (h:J8 K vs H Q E):RF K { nx:=λ_ c=>Q .non c,rt:=Q } (L2.start ["row"] vs) H:=by
 obtain ⟨p,a,rfl,hp,b,d,k⟩:=h;unfold RF;have f:=HS b.1;rwa [hp,f];refine ⟨a,rfl,b.2,d,λr g i s1 j m=>k r g i s1 j ?_⟩;have e:trim (I_ a)=I_ a:=Of (Fy b);rw [<-e];exact m
def tI {a c:d8} {g:Int} (j:0<g) (e:a=c.map (g*·)) (d:Lz a) (f:∀ z∈a,Bd 40 z):Lz c/\(∀ z∈c,Bd 40 z)/\c.length=a.length:=by
 have l:c.length=a.length:=by rw [e,AJ]
 refine ⟨⟨by have:=d.1;omega,λz=>d.2 ?_⟩,λz h=>?_,l⟩
 ·have:=mH (congrArg Sr.c (Gk (g:=g) c)) (a.length - 1);rw [<-e,Sr.num_mul] at this;have this:((co a (a.length - 1):Int):Rat)=(g:Rat)*((co c (a.length - 1):Int):Rat):=this;rw [<-l,z] at this;have i:((co a (c.length - 1):Int):Rat)=0:=by rw [this];push_cast;ext
  rw [<-l];exact_mod_cast i
 ·have b:=f (g*z) (by rw [e];exact AX.mpr ⟨z,h,rfl⟩);refine Bd.le b ?_;rw [Bx];exact Gs _ ⋯
def tJ {a c b:d8} (e:Lz a) (f:∀ z∈a,Bd 40 z) (g:a.length<=9) (R:RC (co a) (co (dI a)) c) (j:b.length=a.length+1 - c.length) (h:∀ k,co a k=cvL b (co c) k):Lz b/\b.length+c.length=a.length+1/\b.length<=9/\(∀ z∈b,Bd 148 z)/\(∀ z∈c,Bd 148 z)/\DvI a b/\DvI a c/\RadOf (si a) (si b):=by
 obtain ⟨i,m⟩:=KF e R.lz j h;have d:=(DvI.self a).fac h;have n:=R.lz.1;exact ⟨i,m,⋯,d.2.bd e f g i,d.1.bd e f g R.lz,d.2,d.1,tF R h⟩
def aS {a:d8} (d:Lz a) (e:∀ z∈a,Bd 148 z) (f:a.length<=9):Mo (I_ a):=by
 have b:=d.2;refine ⟨F2 (FT d) (Fy d) (M:=((co a (a.length - 1)).natAbs:Int)) ⋯ ?_ (N:=λk=>if 0<co a (a.length - 1) then co a k else - co a k) (λk=>?_) (λk=>?_),?_,?_,by rw [DQ];exact f⟩
 ·have:=DE e (a.length - 1);show ((co a (a.length - 1)).natAbs:Int).natAbs<2 ^ 148;rw [Cj];exact this
 ·rw [HX d];by_cases c:0<co a (a.length - 1)
  ·rw [nV c,Int.natAbs_of_nonneg ⋯]
  ·rw [nU c,show ((co a (a.length - 1)).natAbs:Int) = - co a (a.length - 1) by omega];have g:=Ap b;push_cast;ext
 ·split
  ·exact DE e k
  ·exact (DE e k).neg
 ·intro z;have h:(I_ a).length=0:=by rw [z];rfl
  rw [DQ] at h;have:=d.1;omega
 ·refine DA (Es (FT d) _) ⟨∅,∅⟩ ?_;show C_ (I_ a) _=_;rw [DQ,HX d];have g:=Ap b;unfold val;show _=((1:Int):Rat) / ((1:Int):Rat);push_cast;ext
def cK {b n e:Nat} {a:d8} (c:Lz a) (f:∀ z∈a,Bd b z) (h:a.length<=n) (i:n<2 ^ e):Fp (b+n*(2*e+4)) a:=λg j k d=>by
 obtain ⟨A,m⟩:=O_ k d;have o:=FR j c d;exact Ge f ⟨_,c.2⟩ h ⋯ i m
theorem TY (p:cV):∀ (ps:List cU) (i:Nat),Ey i (ps++[p])=Ey i ps*sr p ^ (i+ps.length)
 | [],i=>by show sr p ^ i*1=1*sr p ^ (i+0);rw [Nat.add_zero];ext
 | q::ps,i=>by
   show sr q ^ i*Ey (i+1) (ps++[p])=sr q ^ i*Ey (i+1) ps*sr p ^ (i+(ps.length+1));rw [TY p ps (i+1),show i+1+ps.length=i+(ps.length+1) by omega];ext
theorem TZ (p:cV):∀ ps:List cU,Be (ps++[p])=Be ps*sr p
 | []=>by show sr p*1=1*sr p;ext
 | q::ps=>by
   show sr q*Be (ps++[p])=sr q*Be ps*sr p;rw [TZ p ps];ext
theorem Hh:∀ ps:List cU,Sr.Pol (Be ps)
 | []=>Sr.Pol.nat 1
 | p::ps=>(C3 p).mul (Hh ps)
structure LInv (ms:d8) (L0:Sr) (ps:List cU) (lf sp:d8):Prop where
 ll:Lz lf
 ls:Lz sp
 dl:DvI ms lf
 ds:DvI ms sp
 full:∃ c:Rat,c≠0/\si ms=Sr.num c*Ey 1 ps*si lf ^ (ps.length+1)*si sp
 simp:∃ c:Rat,c≠0/\L0=Sr.num c*Be ps*si lf
 rad:∃ (m:Nat) (a:Sr),Sr.Pol a/\si lf ^ m=a*si sp
 each:∀ p∈ps,Mo p
 last:lf.length=1->∀ p,ps.getLast?=some p->2<=p.length
 many:ps.length+lf.length+sp.length<=12
theorem Ip {x:Rat} (h:x≠0):∀ n:Nat,x ^ n≠0
 | 0=>by rw [Rat.pow_zero];decide
 | n+1=>by rw [Rat.pow_succ];exact H_ (Ip h n) h
def LInv.step {i:d8} {w:Sr} {ps:List cU} {f sp kp pt d:d8} (I:LInv i w ps f sp) (y:Lz i) (C:∀ z∈i,Bd 40 z) (D:i.length<=9) (l2:2<=f.length) (R:RC (co f) (co sp) kp)
  (hp:∀ k,co f k=cvL pt (co kp) k) (F:pt.length=f.length+1 - kp.length) (o:∀ k,co sp k=cvL d (co kp) k) (G:d.length=sp.length+1 - kp.length):Lz pt/\pt.length<=9/\(∀ z∈pt,Bd 148 z)/\kp.length+d.length<f.length+sp.length/\LInv i w (ps++[I_ pt]) kp d:=by
 obtain ⟨g,S⟩:=KF I.ll R.lz F hp;obtain ⟨J,T⟩:=KF I.ls R.lz G o;have q:=I.dl.fac hp;have L:=I.ds.fac o;have A:pt.length<=9:=by have:=q.2.len y g;omega
 have B:=q.2.bd y C D g;have X:=R.lz.1;have n:=Gi hp;have r:=Gi o;have j:=HY g;have u:=TH g;generalize ((co pt (pt.length - 1):Rat))⁻¹=x at j u;have ip:=Sr.num_inv j;refine ⟨g,A,B,⋯,⟨R.lz,J,q.1,L.2,?_,?_,?_,λp b=>?_,λk1 p b=>?_,by rw [Bp];simp;have:=I.many;omega⟩⟩
 ·obtain ⟨c,v,e⟩:=I.full;refine ⟨c*(x ^ (1+ps.length))⁻¹,H_ v (KE (Ip j _)),?_⟩;rw [TY,u,Sr.mul_pow,Sr.num_pow,Bp,List.length_singleton,e,n,r,Sr.mul_pow,Nat.add_comm 1 ps.length,Sr.pow_s (si kp) (ps.length+1),<-Sr.num_num];have iq:=Sr.num_inv (Ip j (ps.length+1));generalize Sr.num (x ^ (ps.length+1))=Y at *;generalize Sr.num (x ^ (ps.length+1))⁻¹=Z at *;ext
 ·obtain ⟨c,v,e⟩:=I.simp;refine ⟨c*x⁻¹,H_ v (KE j),?_⟩;rw [TZ,u,e,n,<-Sr.num_num];ext
 ·obtain ⟨m,a,M,e⟩:=I.rad;have N:Sr.Cs (si pt) (si d):=TF R (CK pt) (CK d) n r;obtain ⟨U,W,O,P,h⟩:=((Sr.Cs.pow (CK d) (CK pt) N.comm m)).comm;refine ⟨m,U*a*si kp+W*si kp ^ m,((O.mul M).mul (CK kp)).add (P.mul ((CK kp).pow m)),?_⟩;rw [n,Sr.mul_pow,r] at e;have:si kp ^ m=si kp ^ m*(U*si pt ^ m+W*si d):=by rw [h];ext
  ext
 ·rcases CO.mp b with z | z
  ·exact I.each p z
  ·rw [Aw.mp z];exact aS g B A
 ·rw [List.getLast?_append] at b;obtain rfl:I_ pt=p:=mF b;rw [DQ];omega
def Ta {a:Sr} {sp:d8} {y:Rat} (d:Sr.Pol a) (c:Lz sp) (f:y≠0) (e:Sr.num y=a*si sp):sp.length=1:=by
 have g:=c.1
 have h:a≠0:=λz=>by
  have:=mH (congrArg Sr.c e) 0;rw [z,show (0:Sr)*si sp=0 by ext,Sr.zero_c] at this;have this:y*AY 0=0:=this;have b:(AY 0:Rat)=1:=rfl;rw [b] at this;exact f ()
 obtain ⟨n,k⟩:=d.bn;rcases Sr.top_ex n k with z | ⟨j,_,m,o⟩
 ·exact absurd z h
 have p:Sr.Bn (si sp) (sp.length - 1+1):=by rw [Nat.sub_add_cancel g];exact Il sp
 have t:=(Sr.top_mul o p).1;rw [<-e] at t;rcases DR (j+(sp.length - 1)) with z | z
 ·omega
 ·exfalso;obtain ⟨i,q⟩:∃ i,j+(sp.length - 1)=i+1:=⟨j+(sp.length - 1) - 1,⋯⟩;rw [q] at t;have t:y*AY (i+1)=a.c j*((co sp (sp.length - 1):Int):Rat):=t;have b:(AY (i+1):Rat)=0:=rfl;rw [b] at t;exact H_ m (Ap c.2) (by rw [<-t];ext)
theorem Tb {sp:d8} (h:sp.length=1) (l:Lz sp):∃ y:Rat,y≠0/\si sp=Sr.num y:=by
 refine ⟨((co sp 0:Int):Rat),Ap (by have:=l.2;rw [h] at this;exact this),Sr.ext' λk=>?_⟩;show ((co sp k:Int):Rat)=((co sp 0:Int):Rat)*AY k;cases k with
 | zero=>show _=_*(1:Rat);ext
 | succ k=>rw [Ah ⋯];show ((0:Int):Rat)=_*(0:Rat);push_cast;ext
def LInv.fin {i:d8} {j:Sr} {ps:List cU} {d sp:d8} (I:LInv i j ps d sp) (q:d.length<=1):(∃ c:Rat,c≠0/\si i=Sr.num c*Ey 1 ps)/\(∃ c:Rat,c≠0/\j=Sr.num c*Be ps)/\(∀ p,ps.getLast?=some p->2<=p.length):=by
 have r:=I.ll.1;have b:d.length=1:=by omega
 obtain ⟨y,f,g⟩:=Tb b I.ll;obtain ⟨m,a,k,e⟩:=I.rad;rw [g,Sr.num_pow] at e;obtain ⟨z,n,o⟩:=Tb (Ta k I.ls (Ip f m) e) I.ls;refine ⟨?_,?_,I.last b⟩
 ·obtain ⟨c,h,e⟩:=I.full;refine ⟨c*y ^ (ps.length+1)*z,H_ (H_ h (Ip f _)) n,?_⟩;rw [e,g,o,Sr.num_pow,<-Sr.num_num,<-Sr.num_num];ext
 ·obtain ⟨c,h,e⟩:=I.simp;refine ⟨c*y,H_ h f,?_⟩;rw [e,g,<-Sr.num_num];ext
theorem PLs.tp {H b:Hp} (t:Tp H b):∀ {c:c_} {ps:List cU},PLs H c ps->PLs b c ps
 | [],[],_=>trivial
 | _::_,_::_,⟨⟨a,e,h⟩,r⟩=>⟨⟨a,e,h.tp t⟩,r.tp t⟩
theorem PLs.length {H:Hp}:∀ {a:c_} {ps:List cU},PLs H a ps->a.length=ps.length
 | [],[],_=>rfl
 | _::_,_::_,⟨_,r⟩=>congrArg (·+1) r.length
theorem PLs.snoc {H:Hp} {a:Addr} {p:cV} (h:Pl H a p):∀ {b:c_} {ps:List cU},PLs H b ps->PLs H (b++[.ref a]) (ps++[p])
 | [],[],_=>⟨⟨a,rfl,h⟩,trivial⟩
 | _::_,_::_,⟨x,r⟩=>⟨x,r.snoc h⟩
theorem PLs.get {H:Hp}:∀ {b:c_} {ps:List cU} {i:Nat},PLs H b ps->i<ps.length->∃ a,b[i]?=some (.ref a)/\Pl H a (ps.getD i [])
 | [],[],_,_,c=>by simp at c
 | _::_,p::_,0,⟨⟨a,e,h⟩,_⟩,_=>⟨a,by rw [e];rfl,h⟩
 | _::b,_::ps,i+1,⟨_,r⟩,c=>r.get (i:=i) (by simp at c;omega)
theorem PLs.ne {H:Hp} {d:c_} {ps:List cU} {w a:Addr} {c:d8} (h:PLs H d ps) (f:H w=some (.lst d)) (b:H a=some (.lst (c.map V.int))) (l:Lz c):a≠w:=λz=>by
 subst z;rw [f] at b;injection b with b;injection b with b;subst b;cases c with
 | nil=>exact absurd l.1 (by simp)
 | cons x c=>
   cases ps with
   | nil=>exact h
   | cons p ps=>obtain ⟨⟨a,e,_⟩,_⟩:=h;cases e
def tK (h:Lm K vs H Q E):RE K { nx:=λ_ L=>Q .non L,rt:=Q } (L2.start ["P","row","spare","left","parts","kept"] vs) H:=by
 obtain ⟨p,xs,l,rfl,hp,hN,G,ne,l9,k⟩:=h;obtain ⟨cb,cB,ct⟩:=G.clr;obtain ⟨M,O,bM,_⟩:=G.ov;unfold RE;rwa [hp];refine be hp ⟨l,hN,G.low,M,O,bM.mono ∅,λq hq=>(ct q hq).mono ∅,⋯,λr a H1 s1 hr ha=>?_⟩;have ln:Lz (AS l):=DP (EW G.low G.nz) (λz=>ne (CB.mp (by rw [<-B8,z];rfl)));have am:AS l≠[]:=B4.mp ln.1;rwa [hr,ha];refine ⟨AS l,rfl,by rw [B8];omega,Io ln,λt v g H2 s2 ht g0 eg pr=>?_⟩;obtain ⟨f,i,ml⟩:=tI g0 eg ln cb;rw [B8] at ml;have x:v.length<=9:=by omega
 have an:v≠[]:=B4.mp f.1;have pm:Prim v:=pr.resolve_left am;have S2:=s1.trans s2;unfold RD;rwa [ht];refine ⟨v,rfl,⋯,40,i,∅,λb H3 s3 hb=>?_⟩;have a0:=s3 _ _ ht;rwa [a0,hb];refine ⟨v,rfl,dI v,rfl,Io f,TW f,148,λz hz=>(i z hz).mono ∅,TX i x,∅,⋯,by rw [Gj];omega,256,λ_ h2=>⟨(cK (n:=9) (e:=4) f i x ∅).mono ∅,cK (n:=9) (e:=4) (DP (TW f) h2) (TX i x) (by rw [Gj];omega) ∅⟩,4,by rw [Gj];omega,16,by rw [Gj];omega,∅,∅,λc y H4 s4 hc rc _=>?_⟩;obtain ⟨R,Pr⟩:=rc (.inl an);have ao:=s4 _ _ a0;have dv:∃ A:d8,∀ k,co v k=cvL A (co y) k:=O_ Pr R.left;have b7:y.length<=9:=by have:=FR R.lz f R.left;omega
 have ar:∀ z∈y,Bd 148 z:=DvI.bd dv f i x R.lz;unfold RA;rwa [ao,hc];refine ⟨v,rfl,y,rfl,R.lz,40,i,148,ar,⋯,∅,⋯,⋯,λno=>absurd dv no,λd B H5 s5 hd hl hq=>?_⟩;obtain ⟨lq,le,q9,bq,_,dq,dr,a1⟩:=tJ f i x R hl hq;have b0:=s5 _ _ hc;have S5:=((S2.trans s3).trans s4).trans s5;unfold Q9;rwa [];refine ⟨sz ∅,λw hw=>?_⟩;have sw:=AL hw (.lst [])
 have w0:H w=none:=by
  cases e:H w with
  | none=>rfl
  | some o=>have z:=S5 _ _ e;rw [hw] at z;cases z
 have I0:LInv v (si B) [] B y:=by
  refine ⟨lq,R.lz,dq,dr,⟨1,∅,?_⟩,⟨1,∅,?_⟩,?_,(λ_ h=>nomatch h),(λ_ _ h=>nomatch h),by simp;omega⟩
  ·rw [Gi hq,Sr.num_one];show _=1*1*si B ^ (0+1)*si y;rw [Nat.zero_add,Sr.pow_s,Sr.pow_z];ext
  ·rw [Sr.num_one];show _=1*1*si B;ext
  ·obtain ⟨Sx,Mx,pS,pL,pM,e1,e2,cs⟩:=a1;have e3:=Gi hq;have eS:Sx=si y:=Sr.cancel pS (CK y) (CK B) (Hf lq) (by rw [<-e1,e3];ext);subst eS;have e4:=Sr.D_mul (CK y) (si B);rw [<-e1,e2] at e4;exact Sr.rad_pow y.length (si y) (si B) (Mx - Sr.D (si B)) (Il y) (Hf R.lz) (CK B) (pM.sub (CK B).D) ()
 unfold Q8;rwa [];refine D5 (λm σ L=>∃ (X Y:d8) (al as:Addr) (x5:d7) (j:c_) (ps:List cU),σ=[some (.ref p),some (.ref t),some (.ref as),some (.ref al),some (.ref w),x5]/\Same H L/\L w=some (.lst j)/\PLs L j ps/\L al=some (.lst (X.map V.int))/\L as=some (.lst (Y.map V.int))/\LInv v (si B) ps X Y/\m=X.length+Y.length) _ ⟨B,y,d,c,none,[],[],rfl,S5.trans sw,upd_same,trivial,sw _ _ hd,sw _ _ b0,I0,rfl⟩ ?_;rintro m σ L ⟨X,Y,al,as,x5,j,ps,rfl,S6,a3,P6,Z,a4,I,em⟩;have b9:=I.dl.len f I.ll;have ba:=I.ds.len f I.ls;rwa [Z];rw [AJ];refine Ag (λcc=>?_) (λcc=>?_)
 ·refine ⟨λbb bc=>∃ m',m'<m/\_,λ_ _ h=>h,?_⟩;unfold Q6;rwa [Z,a4];have b1:X≠[]:=B4.mp I.ll.1;refine ⟨X,rfl,Y,rfl,Io I.ll,Io I.ls,148,I.dl.bd f i x I.ll,I.ds.bd f i x I.ls,∅,⋯,⋯,256,λ_ _=>⟨cK (n:=9) (e:=4) I.ll (I.dl.bd f i x I.ll) ⋯ ∅,cK (n:=9) (e:=4) I.ls (I.ds.bd f i x I.ls) ⋯ ∅⟩,4,⋯,16,⋯,∅,∅,λkp kr H7 s7 hk rc _=>?_⟩;obtain ⟨C,P7⟩:=rc (.inl b1);have b2:=s7 _ _ Z;have a5:=s7 _ _ a4;have N:=s7 _ _ a3;have dk:DvI v kr:=(I.dl.fac (O_ P7 C.left).choose_spec).1;have bk:=dk.bd f i x C.lz;have lk:=dk.len f C.lz;have bl:=I.dl.bd f i x I.ll;unfold Q5;rwa [b2,hk];refine ⟨Kn N,X,rfl,kr,rfl,C.lz,148,bl,148,bk,⋯,∅,⋯,⋯,λno=>absurd (O_ P7 C.left) no,λap pt H8 s8 b3 a6 T=>?_⟩;obtain ⟨b4,bd⟩:=KF I.ll C.lz a6 T;have bf:=C.lz.1;refine ⟨pt,b3,b4,⋯,λJ zs P s9 h9 n9=>?_⟩;have D:=s8.trans s9;have a7:=D _ _ N;have P9:PLs P j ps:=P6.tp (E_ (s7.trans D));have wk:=(P6.tp (E_ s7)).ne N hk C.lz;have wa:=(P6.tp (E_ s7)).ne N a5 I.ls;refine ⟨j,a7,Du (show _<=1000 by rw [P6.length];have:=I.many;omega) (by rw [sizeLine_eq];omega),?_⟩;have u:Tp P (upd P w (.lst (j++[V.ref J]))):=Kp.tp Kp.upd a7;have F:upd P w (.lst (j++[V.ref J])) kp=some (HO.lst (kr.map V.int)):=(Ad wk).trans (D _ _ hk);have U:upd P w (.lst (j++[V.ref J])) as=some (HO.lst (Y.map V.int)):=(Ad wa).trans (D _ _ a5);have W:upd P w (.lst (j++[V.ref J])) w=some (HO.lst (j++[V.ref J])):=upd_same;have a8:PLs (upd P w (.lst (j++[V.ref J]))) (j++[V.ref J]) (ps++[I_ pt]):=(P9.tp u).snoc ⟨zs,u _ _ h9,n9.tp u⟩;have ab:Same H (upd P w (.lst (j++[V.ref J]))):=λb o h=>by rw [Ad (BO h w0)];exact ((S6.trans s7).trans D) b o h
  generalize upd P w (.lst (j++[V.ref J]))=bg at u F U W a8 ab ⊢;unfold Q4 Q3;rwa [U,F];refine ⟨Y,rfl,kr,rfl,C.lz,148,I.ds.bd f i x I.ls,148,bk,⋯,∅,⋯,⋯,λno=>absurd (O_ P7 C.right) no,λa2 s2 bi S h2 sl b5=>?_⟩;obtain ⟨_,_,_,bj,I2⟩:=I.step f i x ⋯ C T a6 b5 sl;exact ⟨kr.length+s2.length,⋯,ab.trans S,kr,s2,j++[V.ref J],S _ _ W,ps++[I_ pt],a8.tp (E_ S),S _ _ F,h2,I2,rfl⟩
 ·unfold Q7;rwa [];obtain ⟨⟨c1,aj,f1⟩,⟨c2,b6,f2⟩,f3⟩:=I.fin ⋯;have gq:=Ap (AV g0);have bq:=KE (Ap (AV (CZ G.low).1))
  have el:sr l=Sr.num ((Ab l:Rat)⁻¹*(g:Rat))*si v:=by
   rw [Hg G.low,eg,Gk,<-Sr.num_num];ext
  refine k w j ps L S6 a3 P6 ⟨⟨(Ab l:Rat)⁻¹*(g:Rat)*c1,H_ (H_ bq gq) aj,?_⟩,⟨c2,si B,b6,?_,f2⟩,I.each,f3,λz=>?_,by have:=I.many;omega⟩
  ·rw [el,f1,<-Sr.num_num ((Ab l:Rat)⁻¹*(g:Rat)) c1];ext
  ·rw [el];exact a1.smul
  ·subst z;have f1:si v=Sr.num c1*1:=f1;have:=Ta (a:=1) (Sr.Pol.nat 1) f aj (by rw [f1];ext);omega
def Tc {F L d:Sr} (o:F≠0) (h:RadOf F L) (h':RadOf F d):∃ q,Sr.Pol q/\d=q*L:=by
 obtain ⟨S,M,p,u,v,r,w,c⟩:=h;obtain ⟨e,f,g,i,j,k,m,C⟩:=h';have y:S≠0:=λz=>o (by rw [r,z];ext);have n:e≠0:=λz=>o (by rw [k,z];ext)
 have x:L*f=d*M:=by
  refine Sr.cancel (u.mul j) (i.mul v) (p.mul g) (Sr.ne_mul p g y n) ?_;have a:S*L=e*d:=r.symm.trans k;have b:S*M=e*f:=w.symm.trans m
  calc L*f*(S*e)=(S*L)*(e*f):=by ext
   _=(e*d)*(S*M):=by rw [a,b]
   _=d*M*(S*e):=by ext
 obtain ⟨U,W,A,B,h⟩:=c;refine ⟨U*d+W*f,(A.mul i).add (B.mul j),?_⟩;have:d=d*(U*L+W*M):=by rw [h];ext
 ext
theorem KG:∀ (a b:List cU),Be (a++b)=Be a*Be b
 | [],b=>by show Be b=1*Be b;ext
 | q::a,b=>by show sr q*Be (a++b)=sr q*Be a*Be b;rw [KG a b];ext
def MS {ps:List cU} {i:Nat} (h:i<ps.length):ps=ps.take i++ps.getD i []::ps.drop (i+1):=by
 rw [AQ,AZ h];show ps=ps.take i++ps[i]::ps.drop (i+1);rw [<-List.drop_eq_getElem_cons h,GC]
def tL {l:cV} {ps:List cU} (P:Spt l ps) (m:sr l≠0):(∀ p∈ps,Sr.Cs (sr p) (Sr.D (sr p)))/\∀ i j:Nat,j<i->i<ps.length->Sr.Cs (sr (ps.getD i [])) (sr (ps.getD j [])):=by
 obtain ⟨c,L,B,⟨S,M,n,d,o,u,v,w⟩,f⟩:=P.rad;have g:=Sr.simple_cop n d o m u v w;have h:=Sr.Pol.num c
 have one:∀ i,i<ps.length->Sr.Cs (sr (ps.getD i [])) (Sr.D (sr (ps.getD i []))):=λi a=>by
  have e:=MS a;refine Sr.Cs.part (q:=Sr.num c*Be (ps.take i)*Be (ps.drop (i+1))) (C3 _) ((h.mul (Hh _)).mul (Hh _)) g ?_
  have:Be ps=Be (ps.take i)*(sr (ps.getD i [])*Be (ps.drop (i+1))):=by
   conv=>lhs;rw [e,KG]
   rfl
  rw [f,this];ext
 refine ⟨λp hp=>?_,λi j x a=>?_⟩
 ·obtain ⟨i,a,rfl⟩:=E6 hp;have:=one i a;rw [AQ,AZ a] at this;exact this
 ·have e:=MS a;have b:j<(ps.take i).length:=by rw [CG];omega
  have k:=MS b
  have y:(ps.take i).getD j []=ps.getD j []:=by
   rw [AQ,AQ,List.getElem?_take_of_lt x]
  rw [y] at k
  have z:Be ps=Be (ps.take i)*(sr (ps.getD i [])*Be (ps.drop (i+1))):=by
   conv=>lhs;rw [e,KG]
   rfl
  have A:Be (ps.take i)=Be ((ps.take i).take j)*(sr (ps.getD j [])*Be ((ps.take i).drop (j+1))):=by
   conv=>lhs;rw [k,KG]
   rfl
  refine Sr.Cs.parts (r:=Sr.num c*Be ((ps.take i).take j)*Be ((ps.take i).drop (j+1))*Be (ps.drop (i+1))) d (C3 _) (C3 _) (((h.mul (Hh _)).mul (Hh _)).mul (Hh _)) g ?_;rw [f,z,A];ext
theorem Td {d q:Sr} (e:Sr.Pol d) (f:Sr.Pol q) (h:d*q=1):∃ x:Rat,x≠0/\d=Sr.num x:=by
 have g:d≠0:=λz=>Sr.one_ne (by rw [<-h,z];ext);have i:q≠0:=λz=>Sr.one_ne (by rw [<-h,z];ext);obtain ⟨n,p⟩:=e.bn;obtain ⟨r,a⟩:=f.bn;rcases Sr.top_ex n p with z | ⟨m,_,b,c⟩
 ·exact absurd z g
 rcases Sr.top_ex r a with z | ⟨j,_,u,v⟩
 ·exact absurd z i
 have t:=(Sr.top_mul c v).1;rw [h] at t;cases m with
 | zero=>
   refine ⟨d.c 0,b,Sr.ext' λk=>?_⟩;cases k with
   | zero=>show d.c 0=d.c 0*1;ext
   | succ k=>rw [c (k+1) ⋯];show (0:Rat)=d.c 0*0;ext
 | succ m=>
   exfalso;have o:(1:Sr).c (m+1+j)=0:=by rw [Ij,show m+1+j=(m+j)+1 by omega];rfl
   rw [o] at t;exact H_ b u t.symm
def tM {d w:Sr} (a:Sr.Pol d) (b:Sr.Pol w) (h:Sr.Cs d (d*w)):∃ x:Rat,x≠0/\d=Sr.num x:=by
 obtain ⟨U,W,c,f,e⟩:=h;exact Td a (c.add (f.mul b)) (by rw [<-e];ext)
noncomputable def Dr:List (Sr×Nat)->Sr
 | []=>1
 | (f,_)::a=>f*Dr a
structure Apt (fs:List (Sr×Nat)):Prop where
 pol:∀ x∈fs,Sr.Pol x.1/\x.1≠0/\1<=x.2/\Sr.Cs x.1 (Sr.D x.1)
 two:List.Pairwise (λx y=>Sr.Cs x.1 y.1) fs
theorem Te {f:Sr} (d:Sr.Pol f):∀ {a:List (Sr×Nat)},(∀ x∈a,Sr.Pol x.1)->(∀ x∈a,Sr.Cs f x.1)->Sr.Cs f (Dr a)
 | [],_,_=>Sr.Cs.one
 | (g,e)::a,h,c=>(c _ (Au ..)).mul d (h _ (Au ..)) (Te d (λx b=>h x (A3 _ b)) λx b=>c x (A3 _ b))
theorem Tf {f:Sr} (a:Sr.Pol f):∀ k:Nat,Sr.D (f ^ (k+1))=Sr.num ((k+1:Nat):Rat)*(f ^ k*Sr.D f)
 | 0=>by
   rw [Sr.pow_s,Sr.pow_z,show (1:Sr)*f=f by ext,show (((0+1:Nat)):Rat)=1 from rfl,Sr.num_one];ext
 | k+1=>by
   rw [Sr.pow_s,Sr.D_mul (a.pow _),Tf a k,Sr.pow_s]
   have:Sr.num ((k+1+1:Nat):Rat)=Sr.num ((k+1:Nat):Rat)+1:=Sr.ext' λj=>by
    show ((k+1+1:Nat):Rat)*AY j=((k+1:Nat):Rat)*AY j+(1:Sr).c j;rw [Ij];push_cast;ext
   rw [this];ext
theorem Tg:∀ {a:List (Sr×Nat)},Apt a->RadOf (Bv a) (Dr a)
 | [],_=>⟨1,0,Sr.Pol.nat 1,Sr.Pol.nat 1,Sr.Pol.nat 0,by show (1:Sr)=1*1;ext,by
   show Sr.D 1=1*0;rw [show (1:Sr)=Sr.num 1 from Sr.num_one.symm,Sr.D_const];ext,Sr.Cs.one.comm⟩
 | (f,e)::a,h=>by
   obtain ⟨b,D,F,p⟩:Sr.Pol f/\f≠0/\1<=e/\Sr.Cs f (Sr.D f):=h.pol _ (Au ..);have n:Apt a:=⟨λx d=>h.pol x (A3 _ d),(Eb.mp h.two).2⟩;obtain ⟨S,M,r,j,m,o,u,c⟩:=Tg n;have g:Sr.Cs f (Dr a):=Te b (λx d=>(n.pol x d).1) λx d=>(Eb.mp h.two).1 x d;obtain ⟨k,rfl⟩:∃ k,e=k+1:=⟨e - 1,⋯⟩
   have en:((k+1:Nat):Rat)≠0:=λz=>by
    have:((k+1:Nat):Rat)=((0:Nat):Rat):=z;have:=Rat.natCast_inj.mp this;omega
   refine ⟨f ^ k*S,Sr.num ((k+1:Nat):Rat)*(Sr.D f*Dr a)+f*M,(b.pow k).mul r,b.mul j,((Sr.Pol.num _).mul (b.D.mul j)).add (b.mul m),?_,?_,?_⟩
   ·show f ^ (k+1)*Bv a=f ^ k*S*(f*Dr a);rw [o,Sr.pow_s];ext
   ·show Sr.D (f ^ (k+1)*Bv a)=_;rw [Sr.D_mul (b.pow _),Tf b,u,o,Sr.pow_s];ext
   ·have v:Sr.Cs f (Sr.num ((k+1:Nat):Rat)*(Sr.D f*Dr a)):=by
     obtain ⟨U,W,w,y,q⟩:=p.mul b b.D g;have i:=Sr.num_inv en;exact ⟨U,W*Sr.num ((k+1:Nat):Rat)⁻¹,w,y.mul (Sr.Pol.num _),()⟩
    have A:Sr.Cs f (Sr.num ((k+1:Nat):Rat)*(Sr.D f*Dr a)+f*M):=(v.comm.add m ()).comm;have B:Sr.Cs (Dr a) (f*M):=g.comm.mul j b c;have C:Sr.Cs (Dr a) (Sr.num ((k+1:Nat):Rat)*(Sr.D f*Dr a)+f*M):=(B.comm.add ((Sr.Pol.num ((k+1:Nat):Rat)).mul b.D) ()).comm;exact (A.comm.mul (((Sr.Pol.num _).mul (b.D.mul j)).add (b.mul m)) b C.comm).comm
noncomputable def B2:Nat->List Sr->Sr
 | _,[]=>1
 | i,f::a=>f ^ i*B2 (i+1) a
noncomputable def Bf:List Sr->Sr
 | []=>1
 | f::a=>f*Bf a
theorem Th (n:Nat):(1:Sr) ^ n=1:=by
 induction n with
 | zero=>exact Sr.pow_z 1
 | succ n a=>rw [Sr.pow_s,a];ext
theorem KH:∀ (A:List Sr) (s i:Nat),i<A.length->B2 s A=(A.getD i 1) ^ (s+i)*B2 s (A.set i 1)
 | [],_,_,h=>absurd h (Nat.not_lt_zero _)
 | f::a,s,0,_=>by
   show f ^ s*B2 (s+1) a=f ^ (s+0)*((1:Sr) ^ s*B2 (s+1) a);rw [Th,Nat.add_zero];ext
 | f::a,s,i+1,h=>by
   show f ^ s*B2 (s+1) a=(a.getD i 1) ^ (s+(i+1))*(f ^ s*B2 (s+1) (a.set i 1));rw [KH a (s+1) i (by simpa using h),show s+1+i=s+(i+1) by omega];ext
theorem F4:∀ (A:List Sr) (i:Nat),Bf A=(A.getD i 1)*Bf (A.set i 1)
 | [],i=>by show (1:Sr)=1*1;ext
 | f::a,0=>by show f*Bf a=f*(1*Bf a);ext
 | f::a,i+1=>by
   show f*Bf a=(a.getD i 1)*(f*Bf (a.set i 1));rw [F4 a i];ext
theorem Ti:∀ {A:List Sr} {s:Nat},(∀ a∈A,Sr.Pol a)->Sr.Pol (B2 s A)
 | [],_,_=>Sr.Pol.nat 1
 | f::c,s,h=>((h f (Au ..)).pow s).mul (Ti λa b=>h a (A3 _ b))
theorem Iq:∀ {A:List Sr},(∀ a∈A,Sr.Pol a)->Sr.Pol (Bf A)
 | [],_=>Sr.Pol.nat 1
 | f::c,h=>(h f (Au ..)).mul (Iq λa b=>h a (A3 _ b))
theorem Tj {f:Sr} (b:Sr.Pol f):∀ {A:List Sr} {s:Nat},(∀ a∈A,Sr.Pol a)->(∀ a∈A,Sr.Cs f a)->Sr.Cs f (B2 s A)
 | [],_,_,_=>Sr.Cs.one
 | g::e,s,h,c=>((c g (Au ..)).pow b (h g (Au ..)) s).mul b ((h g (Au ..)).pow s) (Tj b (λa d=>h a (A3 _ d)) λa d=>c a (A3 _ d))
theorem Tk {f:Sr} (d:Sr.Pol f):∀ {A:List Sr},(∀ a∈A,Sr.Pol a)->(∀ a∈A,Sr.Cs f a)->Sr.Cs f (Bf A)
 | [],_,_=>Sr.Cs.one
 | g::e,h,c=>(c g (Au ..)).mul d (h g (Au ..)) (Tk d (λa b=>h a (A3 _ b)) λa b=>c a (A3 _ b))
structure Aps (A:List Sr):Prop where
 pol:∀ a∈A,Sr.Pol a/\a≠0/\Sr.Cs a (Sr.D a)
 two:∀ i j,i≠j->i<A.length->j<A.length->Sr.Cs (A.getD i 1) (A.getD j 1)
def ED {A:List Sr} {i:Nat} (h:i<A.length):A.getD i 1∈A:=by
 rw [AQ,AZ h];exact DH h
def Ir {A:List Sr} {i:Nat} {a:Sr} (h:a∈A.set i 1):a=1\/∃ j,j≠i/\j<A.length/\a=A.getD j 1:=by
 obtain ⟨j,b,rfl⟩:=E6 h;rw [List.length_set] at b;by_cases e:j=i
 ·left;subst e;simp
 ·right;refine ⟨j,e,b,?_⟩;rw [AQ,AZ b,List.getElem_set_ne (Ne.symm e)];rfl
def Aps.set_pol {A:List Sr} (h:Aps A) (i:Nat):∀ a∈A.set i 1,Sr.Pol a:=λa b=>by
 rcases Ir b with rfl | ⟨j,_,c,rfl⟩
 ·exact Sr.Pol.nat 1
 ·exact (h.pol _ (ED c)).1
def Aps.often {A:List Sr} (h:Aps A) {i:Nat} (c:i<A.length) {d r:Sr} (f:Sr.Pol d) (b:Sr.Pol r) (e:A.getD i 1=d*r):∃ u,Sr.Pol u/\B2 1 A=d ^ (1+i)*u/\Sr.Cs d u:=by
 obtain ⟨n,w,o⟩:=h.pol _ (ED c);have g:Sr.Cs d r:=Sr.Cs.parts n f b (Sr.Pol.nat 1) o (by rw [e];ext)
 have k:Sr.Cs (A.getD i 1) (B2 1 (A.set i 1)):=Tj n (h.set_pol i) λa p=>by
  rcases Ir p with rfl | ⟨j,q,v,rfl⟩
  ·exact Sr.Cs.one
  ·exact h.two i j (Ne.symm q) c v
 have m:Sr.Cs d (B2 1 (A.set i 1)):=(k.comm.dvd b (by rw [e];ext)).comm;refine ⟨r ^ (1+i)*B2 1 (A.set i 1),(b.pow _).mul (Ti (h.set_pol i)),?_,(g.pow f b _).mul f (b.pow _) m⟩;rw [KH A 1 i c,e,Sr.mul_pow];ext
theorem Tl (f:Sr) (m:Nat):∀ n:Nat,f ^ (m+n)=f ^ m*f ^ n
 | 0=>by rw [Nat.add_zero,Sr.pow_z];ext
 | n+1=>by rw [show m+(n+1)=(m+n)+1 by omega,Sr.pow_s,Tl f m n,Sr.pow_s];ext
def Tm {d u v:Sr} {c b:Rat} {i j:Nat} (a:Sr.Pol d) (g:Sr.Pol u) (pv:Sr.Pol v) (h:d≠0) (m:c≠0) (n:i<j) (f:Sr.Cs d u) (e:Sr.num c*(d ^ (1+i)*u)=Sr.num b*(d ^ (1+j)*v)):∃ x:Rat,x≠0/\d=Sr.num x:=by
 obtain ⟨k,rfl⟩:∃ k,j=i+(k+1):=⟨j - i - 1,⋯⟩;have o:=Sr.num_inv m
 have p:u=d*(Sr.num c⁻¹*Sr.num b*d ^ k*v):=by
  refine Sr.cancel g (a.mul ((((Sr.Pol.num _).mul (Sr.Pol.num _)).mul (a.pow k)).mul pv)) (a.pow (1+i)) (Sr.pow_ne a h _) ?_
  have q:u*d ^ (1+i)=Sr.num c⁻¹*(Sr.num c*(d ^ (1+i)*u)):=by
   have:Sr.num c⁻¹*(Sr.num c*(d ^ (1+i)*u))=Sr.num c⁻¹*Sr.num c*(d ^ (1+i)*u):=by ext
   rw [this,o];ext
  rw [q,e,show 1+(i+(k+1))=(1+i)+(k+1) by omega,Tl,Sr.pow_s];ext
 rw [p] at f;exact tM a ((((Sr.Pol.num _).mul (Sr.Pol.num _)).mul (a.pow k)).mul pv) f
def tO {A B:List Sr} (g:Aps A) (k:Aps B) {c m:Rat} (F:c≠0) (b:m≠0) (e:Sr.num c*B2 1 A=Sr.num m*B2 1 B) {i j:Nat} (f:i≠j) (o:i<A.length) (p:j<B.length):Sr.Cs (A.getD i 1) (B.getD j 1):=by
 obtain ⟨G,I,Y⟩:=g.pol _ (ED o);obtain ⟨J,Z,cb⟩:=k.pol _ (ED p);obtain ⟨n,L⟩:=J.bn;obtain ⟨d,r,w,U,W,a,M,N,O,P,q,y,z,h⟩:=Sr.gcd_ex n _ _ G L (.inl I);obtain ⟨u,C,eu,R⟩:=g.often o a M y;obtain ⟨v,pv,S,cv⟩:=k.often p a N z
 have D:(∃ x:Rat,x≠0/\d=Sr.num x)->Sr.Cs (A.getD i 1) (B.getD j 1):=λ⟨x,T,X⟩=>Sr.Cs.of_unit T X O P (by
  rw [y,z];have:U*(d*r)+W*(d*w)=d*(U*r+W*w):=by ext
  rw [this,h];ext)
 rw [eu,S] at e;rcases Nat.lt_or_gt_of_ne f with l | l
 ·exact D (Tm a C pv q F l R e)
 ·exact D (Tm a pv C q b l cv e.symm)
def tP {f g h:Sr} (j:Sr.Pol f) (a:Sr.Pol g) (c:Sr.Cs f h) {q:Sr} (b:Sr.Pol q) (e:g*h=q*f):∃ p,Sr.Pol p/\g=p*f:=by
 obtain ⟨U,W,d,i,k⟩:=c;refine ⟨g*U+W*q,(a.mul d).add (i.mul b),?_⟩;have:g=g*(U*f+W*h):=by rw [k];ext
 rw [this];have:g*(U*f+W*h)=g*U*f+W*(g*h):=by ext
 rw [this,e];ext
def Tn {A B:List Sr} (b:Aps A) (d:Aps B) {c g:Rat} (o:c≠0) (f:g≠0) (e:Sr.num c*B2 1 A=Sr.num g*B2 1 B) {q:Sr} (r:Sr.Pol q) (u:Bf B=q*Bf A) (i:Nat):∃ p,Sr.Pol p/\B.getD i 1=p*A.getD i 1:=by
 have k:Sr.Pol (B.getD i 1):=by
  by_cases h:i<B.length
  ·exact (d.pol _ (ED h)).1
  ·rw [AQ,BL ⋯];exact Sr.Pol.nat 1
 by_cases m:i<A.length
 ·obtain ⟨n,z,C⟩:=b.pol _ (ED m)
  have v:Sr.Cs (A.getD i 1) (Bf (B.set i 1)):=Tk n (d.set_pol i) λa w=>by
   rcases Ir w with rfl | ⟨j,x,y,rfl⟩
   ·exact Sr.Cs.one
   ·exact tO b d o f e (Ne.symm x) m y
  refine tP n k v (q:=q*Bf (A.set i 1)) (r.mul (Iq (b.set_pol i))) ?_;rw [<-F4,u,F4 A i];ext
 ·rw [AQ (l:=A),BL ⋯];exact ⟨_,k,by show _=_*(1:Sr);ext⟩
def tQ {A B:List Sr} (k:Aps A) (d:Aps B) {c m:Rat} (n:c≠0) (a:m≠0) (e:Sr.num c*B2 1 A=Sr.num m*B2 1 B) {q o:Sr} (y:Sr.Pol q) (f:Sr.Pol o) (z:Bf B=q*Bf A) (g:Bf A=o*Bf B) (i:Nat):∃ x:Rat,x≠0/\A.getD i 1=Sr.num x*B.getD i 1:=by
 obtain ⟨p,r,C⟩:=Tn k d n a e y z i;obtain ⟨j,b,v⟩:=Tn d k a n e.symm f g i
 have w:B.getD i 1≠0/\Sr.Pol (B.getD i 1):=by
  by_cases h:i<B.length
  ·exact ⟨(d.pol _ (ED h)).2.1,(d.pol _ (ED h)).1⟩
  ·rw [AQ,BL ⋯];exact ⟨Sr.one_ne,Sr.Pol.nat 1⟩
 have u:j*p=1:=Sr.cancel (b.mul r) (Sr.Pol.nat 1) w.2 w.1 (by
  rw [show j*p*B.getD i 1=p*(j*B.getD i 1) by ext,<-v,<-C];show _=(1:Sr)*_;ext)
 obtain ⟨x,D,F⟩:=Td b r u;exact ⟨x,D,by rw [v,F]⟩
def tR {A:List Sr} {s j:Nat} {f:Sr} (h:j<A.length):B2 s (A.set j (A.getD j 1*f))=f ^ (s+j)*B2 s A:=by
 have e:=KH (A.set j (A.getD j 1*f)) s j (by rw [List.length_set];exact h)
 have g:(A.set j (A.getD j 1*f)).getD j 1=A.getD j 1*f:=by
  rw [AQ (l:=A.set j _),F8 h];rfl
 rw [e,g,List.set_set,Sr.mul_pow,KH A s j h];ext
def tS {A:List Sr} {j:Nat} {f:Sr} (h:j<A.length):Bf (A.set j (A.getD j 1*f))=f*Bf A:=by
 have e:=F4 (A.set j (A.getD j 1*f)) j
 have g:(A.set j (A.getD j 1*f)).getD j 1=A.getD j 1*f:=by
  rw [AQ (l:=A.set j _),F8 h];rfl
 rw [e,g,List.set_set,F4 A j];ext
theorem To:∀ (s:Nat) (ps:List cU),Ey s ps=B2 s (ps.map sr)
 | _,[]=>rfl
 | s,p::ps=>by show sr p ^ s*Ey (s+1) ps=sr p ^ s*B2 (s+1) (ps.map sr);rw [To (s+1) ps]
theorem MT:∀ (ps:List cU),Be ps=Bf (ps.map sr)
 | []=>rfl
 | p::ps=>by show sr p*Be ps=sr p*Bf (ps.map sr);rw [MT ps]
def KI {ps:List cU} {i:Nat} (h:i<ps.length):(ps.map sr).getD i 1=sr (ps.getD i []):=by
 rw [AQ,AQ,Ac,AZ h];rfl
def tT {l:cV} {ps:List cU} (P:Spt l ps) (f:sr l≠0):Aps (ps.map sr):=by
 obtain ⟨g,e⟩:=tL P f;refine ⟨λa h=>?_,λi j k b d=>?_⟩
 ·obtain ⟨p,hp,rfl⟩:=AX.mp h;have m:=P.each p hp;exact ⟨C3 p,F3 m.gq.low m.gq.nz m.ne,g p hp⟩
 ·rw [AJ] at b d;rw [KI b,KI d];rcases Nat.lt_or_gt_of_ne k with c | c
  ·exact (e j i c d).comm
  ·exact e i j c b
def tU {B:List Sr} (f:∀ b∈B,Sr.Pol b/\b≠0) (c:Sr.Cs (Bf B) (Sr.D (Bf B))):Aps B:=by
 have h:∀ i,∀ a∈B.set i 1,Sr.Pol a:=λi a m=>by
  rcases Ir m with rfl | ⟨j,_,n,rfl⟩
  ·exact Sr.Pol.nat 1
  ·exact (f _ (ED n)).1
 have o:∀ b∈B,Sr.Pol b:=λb d=>(f b d).1;refine ⟨λb d=>?_,λi j r p n=>?_⟩
 ·obtain ⟨i,p,rfl⟩:=E6 d;have e:B.getD i 1=B[i]:=by rw [AQ,AZ p];rfl
  have s:=F4 B i;rw [e] at s;exact ⟨(f _ d).1,(f _ d).2,Sr.Cs.part (f _ d).1 (Iq (h i)) c s⟩
 ·have s:=F4 B i;have q:=F4 (B.set i 1) j
  have g:(B.set i 1).getD j 1=B.getD j 1:=by
   rw [AQ,AQ,List.getElem?_set_ne r]
  rw [g] at q
  have u:∀ a∈(B.set i 1).set j 1,Sr.Pol a:=λa m=>by
   rcases Ir m with rfl | ⟨k,_,hk,rfl⟩
   ·exact Sr.Pol.nat 1
   ·exact h i _ (ED hk)
  exact Sr.Cs.parts (Iq o) (o _ (ED p)) (o _ (ED n)) (Iq u) c (by rw [s,q];ext)
noncomputable def a9 (a:Addr) (k:Int) (d:Bool) (n:Int):List (D_×V):=[(.inr "cells", .ref a),(.inr "number", .int k),(.inr "digits", .bl d),(.inr "at", .int n)]
def KJ {k:Str} {v:V} {kvs:List (D_×V)}:D6 ((.inr k,v)::kvs) (.inr k)=some v:=by
 unfold D6;rw [List.find?_cons,nW rfl];rfl
def Hi {j k:Str} {v:V} {kvs:List (D_×V)} (h:j≠k):D6 ((.inr j,v)::kvs) (.inr k)=D6 kvs (.inr k):=by
 unfold D6;rw [List.find?_cons,nY (λz=>h (Sum.inr.inj z))]
def Tq {k:Str} {v w:V} {kvs:List (D_×V)} (h:∀ x∈kvs,x.1≠.inr k):Dq ((.inr k,v)::kvs) (.inr k) w=(.inr k,w)::kvs:=by
 unfold Dq;rw [nV (by rw [List.any_cons,nW rfl];rfl),CA,nV rfl];congr 1;refine (Ce λx a=>?_).trans (List.map_id _);rw [nU (h x a)];rfl
def KK {j k:Str} {v w:V} {kvs:List (D_×V)} (h:j≠k) (hk:(kvs.any λa=>a.1=Sum.inr k)=true):Dq ((.inr j,v)::kvs) (.inr k) w=(.inr j,v)::Dq kvs (.inr k) w:=by
 have e:decide ((Sum.inr j:D_)=Sum.inr k)=false:=nY (λz=>h (Sum.inr.inj z));unfold Dq;rw [nV hk,List.any_cons,e,Bool.false_or,nV hk,CA,nU (λz=>h (Sum.inr.inj z))]
def s1:(("cells" : Str) ≠ "number")/\(("cells" : Str) ≠ "digits")/\(("cells" : Str) ≠ "at")/\(("number" : Str) ≠ "digits")/\(("number" : Str) ≠ "at")/\(("digits" : Str) ≠ "at"):=by decide +kernel
section
variable {a:Addr} {k n:Int} {d:Bool}
def Hj:D6 (a9 a k d n) (.inr "cells")=some (.ref a):=KJ
def Tr:D6 (a9 a k d n) (.inr "number")=some (.int k):=(Hi s1.1).trans KJ
def tV:D6 (a9 a k d n) (.inr "digits")=some (.bl d):=(Hi s1.2.1).trans ((Hi s1.2.2.2.1).trans KJ)
def MU:D6 (a9 a k d n) (.inr "at")=some (.int n):=(Hi s1.2.2.1).trans ((Hi s1.2.2.2.2.1).trans ((Hi s1.2.2.2.2.2).trans KJ))
def MV {k:Str} {v:V}:([((.inr k:D_),v)].any λb=>b.1=Sum.inr k)=true:=by rw [List.any_cons,nW rfl];rfl
def MW {j k:Str} {v:V} {kvs:List (D_×V)} (h:(kvs.any λb=>b.1=Sum.inr k)=true):((((.inr j:D_),v)::kvs).any λb=>b.1=Sum.inr k)=true:=by rw [List.any_cons,h,Bool.or_true]
def tW {m:Int}:Dq (a9 a k d n) (.inr "at") (.int m)=a9 a k d m:=by
 unfold a9;rw [KK s1.2.2.1 (MW (MW MV)),KK s1.2.2.2.2.1 (MW MV),KK s1.2.2.2.2.2 MV,Tq (λ_ h=>(List.not_mem_nil h).elim)]
def tX {m:Int}:Dq (a9 a k d n) (.inr "number") (.int m)=a9 a m d n:=by
 unfold a9
 have h:∀ x∈[((.inr "digits" : D_),V.bl d),(.inr "at", .int n)],x.1≠.inr "number" := λx b=>by
  rcases Bc.mp b with rfl | b
  ·exact λz=>s1.2.2.2.1 (Sum.inr.inj z).symm
  ·rw [Aw.mp b];exact λz=>s1.2.2.2.2.1 (Sum.inr.inj z).symm
 rw [KK s1.1 (by rw [List.any_cons,nW rfl];rfl),Tq h]
end
def Ts {a:Addr} {k n:Int} {d:Bool}:(a9 a k d n).length<sizeLine:=by show 4<_;rw [sizeLine_eq];decide
def tY (h:Df K vs H Q E):yS K { nx:=λ_ D=>Q .non D,rt:=Q } (L2.start ["_law_state","_law_many","_law_digit","_law_number_here"] vs) H:=by
 obtain ⟨p,a,m,n,rfl,⟨O,k,d,hp,X,Y,L,Z,k1,n0⟩,n5,m1,m2,R⟩:=h;have u:a≠p:=Fb X hp (λz=>nomatch z);refine ⟨_,rfl,p,_,a9 a k d n,_,rfl,rfl,hp,MU,n,1,rfl,rfl,_,rfl,p,_,a9 a k d n,rfl,rfl,hp,Ts,?_⟩;rw [tW];have q:upd H p (.dK (a9 a k d (n+1))) p=some (.dK (a9 a k d (n+1))):=upd_same;have F:upd H p (.dK (a9 a k d (n+1))) a=some (.lst (O.map V.int)):=(Ad u).trans X;have G:Kpa p a H (upd H p (.dK (a9 a k d (n+1)))):=λb o B _ I=>(Ad B).trans I;generalize upd H p (.dK (a9 a k d (n+1)))=H1 at q F G ⊢;refine ⟨_,rfl,p,_,_,_,rfl,rfl,q,tV,d,rfl,Ag (λcd=>?_) (λcd=>?_)⟩
 ·refine D5 (λj σ D=>∃ v:d8,σ=[some (.ref p),some (.int m),none,none]/\D p=some (.dK (a9 a k d (n+1)))/\D a=some (.lst (v.map V.int))/\(∀ z∈v,0<=z)/\v.length<=63/\Kpa p a H D/\j=v.length) O.length ⟨O,rfl,q,F,Y,L,G,rfl⟩ ?_;rintro j σ H2 ⟨A,rfl,f,i,P,l2,S,rfl⟩
  have C:RW K { nx:=RX K { nx:=λx D=>Q V.non D,rt:=Q },rt:=Q } [some (.ref p),some (.int m),none,none] H2:=by
   refine ⟨_,rfl,p,_,_,_,rfl,rfl,f,Hj,a,_,rfl,i,rfl,_,rfl,Ag (λc=>?_) (λc=>?_)⟩
   ·exact R 0 H2 (Int.le_refl _) ⋯ ⟨A,k,d,f,i,P,l2,Z,⋯,⋯⟩ S
   ·have ne:A≠[]:=λz=>by rw [z] at c;exact c rfl
    cases A with
    | nil=>exact absurd rfl ne
    | cons z rest=>
      refine ⟨_,rfl,p,_,_,_,rfl,rfl,f,Hj,a,0,_,.int z,rfl,rfl,i,Ca (j:=0) rfl rfl,_,rfl,z,m,rfl,⋯,λw hw=>?_⟩;have z0:=P z (Au ..);have T:=AL hw (.tup [.int (z.fdiv m),.int (z.fmod m)]);have M:=T _ _ f;have U:=T _ _ i;refine ⟨w,_,rfl,upd_same,rfl,_,_,rfl,_,rfl,p,_,_,_,rfl,rfl,M,Hj,a,_,0,0,rfl,rfl,U,?_,_,_,rfl,rfl,?_⟩
      ·exact FQ rfl (by simp)
      refine ⟨_,rfl,?_⟩;have dm:z.fmod m=z % m:=Int.fmod_eq_emod_of_nonneg _ ⋯;have dd:z.fdiv m=z / m:=Dv _ ⋯;refine R (z.fmod m) _ (by rw [dm];exact CV _ ⋯) (by rw [dm];exact Cd _ ⋯) ⟨z.fdiv m::rest,k,d,(Ad u.symm).trans M,?_,λy N=>?_,l2,Z,⋯,⋯⟩ (λb o B J I=>(Ad J).trans (T _ _ (S b o B J I)))
      ·rw [upd_same];rfl
      ·rcases Bc.mp N with rfl | N
       ·rw [dd];exact Int.ediv_nonneg z0 ⋯
       ·exact P y (A3 _ N)
  refine ⟨_,rfl,p,_,_,_,rfl,rfl,f,Hj,a,_,rfl,i,_,_,rfl,rfl,_,rfl,Ag (λg=>?_) (λg=>?_)⟩
  ·cases A with
   | nil=>exact absurd (nX g) (by simp)
   | cons z rest=>
     refine ⟨_,rfl,p,_,_,_,rfl,rfl,f,Hj,a,0,_,.int z,rfl,rfl,i,Ca (j:=0) rfl rfl,rfl,_,rfl,Ag (λe=>?_) (λe=>?_)⟩
     ·refine ⟨_,λ_ _ h=>h,_,rfl,p,_,_,_,rfl,rfl,f,Hj,Kn i,a,.int z,rest.map V.int,rfl,rfl,i,?_⟩;exact ⟨rest.length,by simp,rest,rfl,(Ad u.symm).trans f,upd_same,λy N=>P y (A3 _ N),by have:(z::rest).length=rest.length+1:=rfl;omega,λb o B J I=>(Ad J).trans (S b o B J I),rfl⟩
     ·exact C
  ·exact C
 ·refine ⟨_,rfl,p,_,_,_,rfl,rfl,q,Tr,_,rfl,p,_,_,_,rfl,rfl,q,MU,7919,n+1,rfl,rfl,IntMulOk.of_right (intBits_le_64 ⋯ ⋯),k,_,rfl,rfl,_,_,rfl,rfl,IntMulOk.of_right (intBits_le_64 ⋯ ⋯),_,_,rfl,rfl,(show (0:Int)<2147483629 by decide),?_⟩;have q0:=CV ((k+7919*(n+1))*48271) (show (2147483629:Int)≠0 by decide);have q1:=Cd ((k+7919*(n+1))*48271) (show (0:Int)<2147483629 by decide);refine ⟨_,rfl,_,rfl,_,_,rfl,rfl,IntMulOk.of_right (intBits_le_64 ⋯ ⋯),_,_,rfl,rfl,(show (0:Int)<2147483587 by decide),_,rfl,p,_,_,_,rfl,rfl,q,MU,_,_,rfl,rfl,_,rfl,p,_,_,rfl,rfl,q,Ts,?_⟩;rw [tX];generalize e2:(k+7919*(n+1))*48271 % 2147483629*((k+7919*(n+1))*48271 % 2147483629)=W;have r0:=CV W (show (2147483587:Int)≠0 by decide);have r1:=Cd W (show (0:Int)<2147483587 by decide);generalize W % 2147483587=r at r0 r1 ⊢;refine ⟨_,rfl,p,_,_,_,rfl,rfl,upd_same,Tr,r+(n+1),97,rfl,rfl,⟨∅,(Nf ⋯ ⋯).mono ∅⟩,_,rfl,(r+(n+1)) / 97,m,rfl,rfl,⋯,?_⟩;exact R _ _ (CV _ ⋯) (Cd _ ⋯) ⟨O,r+(n+1),d,upd_same,(Ad u).trans F,Y,L,⋯,⋯,⋯⟩ (λb o B J I=>(Ad B).trans (G b o B J I))
def Kpa.trans {p a:Addr} {H c d:Hp} (h:Kpa p a H c) (g:Kpa p a c d):Kpa p a H d:=λb o e f i=>g b o e f (h b o e f i)
def Kpa.same {p a:Addr} {H c d:Hp} (h:Kpa p a H c) (g:Same c d):Kpa p a H d:=λb o e f i=>g b o (h b o e f i)
def Stt.same {H b:Hp} {p a:Addr} {n:Int} (h:Stt H p a n) (s:Same H b):Stt b p a n:=by
 obtain ⟨c,k,d,hp,e,r⟩:=h;exact ⟨c,k,d,s _ _ hp,s _ _ e,r⟩
def Stt.mono {H:Hp} {p a:Addr} {n b:Int} (h:Stt H p a n) (e:n=b):Stt H p a b:=e ▸ h
def tZ {n m:Int} (h:0<m):(Ay n m).1.natAbs<=n.natAbs/\(Ay n m).2<=m:=by
 have e:Ay n m=W_ n m:=by unfold Ay;rw [nU ⋯]
 have w:=IL (Co h) h (Fl (n:=n) h);have l:=(Co (n:=n) h).pos;rw [e];exact ⟨w.1,by have:=w.2;omega⟩
def sA (h:HP K vs H Q E):yU K { nx:=λ_ b=>Q .non b,rt:=Q } (L2.start ["_law_state","_law_top"] vs) H:=by
 obtain ⟨p,a,n,rfl,o,D,q⟩:=h;refine Bu (Az (CL (AN rfl (M_ (EV o ⋯ ∅ ∅ λd F G I g u=>M_ (IR (Ev (Cq (Az (CL (AN rfl (M_ (EV g ⋯ ∅ ∅ λe v J L i y=>⟨rfl,_,rfl,?_⟩)))))))))))))
 have k:∀ t:Int,t.natAbs<=4036->RY K { nx:=λx b=>Q V.non b,rt:=Q } [some (.ref p),some (.int t)] v:=λt z=>by
  refine CU (CL (AN rfl (Az (M_ (CL (AN rfl (M_ (EV i ⋯ ∅ ∅ λf M N O j A=>IR (wD ⋯ λr B=>?_)))))))));have sr:=AL B (.tup [.int (Ay t (1+f)).1,.int (Ay t (1+f)).2]);have C:1+f≠0:=by omega
  have w:=tZ (n:=t) (m:=1+f) ⋯;exact q r _ _ _ upd_same (GT C) (Bg w.1 z) (by have:=w.2;omega) ((j.same sr).mono ⋯) (((u.trans y).trans A).same sr)
 refine Ag (λc=>?_) (λc=>?_)
 ·refine ⟨_,rfl,_,1009,rfl,rfl,IntMulOk.of_right (intBits_le_64 ⋯ ⋯),k _ ?_⟩;have:(d - 4).natAbs<=4:=by omega
  rw [Bx];exact Bg (Cf _ this) ∅
 ·exact k _ ⋯
def sB (h:J4 K vs H Q E):yV K { nx:=λ_ o=>Q .non o,rt:=Q } (L2.start ["_law_state","_law_found"] vs) H:=by
 obtain ⟨p,a,n,rfl,q,v,f⟩:=h;refine HI (AN rfl (Lx q v λr t d g i j x y e k=>?_));refine Ev (Cq (Az (AN rfl (CD (M_ (M_ ⟨BC,λw A=>?_⟩))))));have b:=AL A (.tup [.int 0,.int 1]);have B:isN (upd g w (.tup [.int 0,.int 1])) (.ref r) (t,d):=⟨r,rfl,b _ _ i⟩;have C:isN (upd g w (.tup [.int 0,.int 1])) (.ref w) (0,1):=⟨w,rfl,upd_same⟩;refine ⟨_,_,decide ((t,d)=((0,1):Nu)),Eu B,Eu C,aP _ 7,aP _ 7,?_,_,rfl,Ag (λc=>?_) (λc=>?_)⟩
 ·rw [decide_eq_true_eq];exact ⟨λz=>by rw [z],MM⟩
 ·refine CU (CD (M_ (M_ ⟨BC,λu D=>?_⟩)));have m:=AL D (.tup [.int 2,.int 1]);exact f u 2 1 _ upd_same ⟨∅,∅⟩ ∅ ∅ ∅ ((e.same b).same m) ((k.same b).same m)
 ·have F:¬ (t,d)=((0,1):Nu):=nZ (by simpa using c);refine CU (AN rfl (f r t d _ (b _ _ i) j (λz=>F ?_) x y (e.same b) (k.same b)));subst z;obtain ⟨G,l2⟩:=j;rw [Int.gcd_zero_left] at l2;rw [show d=1 by omega]
@[elab_as_elim] theorem l2 {e f:Type} {P:List e->List f->Prop} (xs:List e) (c:List f) (b:(∀ x xs,P (x::xs) [])/\∀ y c,P [] (y::c)) (a:P [] []) (d:∀ x xs y c,P xs c->P (x::xs) (y::c)):P xs c:=by
  induction xs generalizing c with
  | nil=>cases c with
    | nil=>exact a
    | cons=>exact b.2 _ _
  | cons x xs g=>cases c with
    | nil=>exact b.1 _ _
    | cons=>exact d _ _ _ _ (g _)
def Pts.tp {H c:Hp} (t:Tp H c) {b:c_} {L:cP}:Pts H b L->Pts c b L:=l2 b L ⟨λ_ _ h=>h.elim,λ_ _ h=>h.elim⟩ (λ_=>trivial) λ_ _ _ _ r h=>⟨let ⟨a,e,P⟩:=h.1;⟨a,e,P.tp t⟩,h.2.1,r h.2.2⟩
def Pts.len {H:Hp} {a:c_} {L:cP}:Pts H a L->a.length=L.length:=l2 a L ⟨λ_ _ h=>h.elim,λ_ _ h=>h.elim⟩ (λ_=>rfl) λ_ _ _ _ r h=>congrArg (·+1) (r h.2.2)
def Pts.get {H:Hp} {b:c_} {L:cP} {i:Nat} {v:V} (h:Pts H b L) (e:b[i]?=some v):∃ q,L[i]?=some q/\(∃ a,v=.ref a/\Pl H a q.2)/\Pt q.1 q.2:=by
 revert h e;generalize i=j;revert j
 exact l2 b L ⟨λ_ _ _ h=>h.elim,λ_ _ _ h=>h.elim⟩ (λ_ _ e=>nomatch e) λ_ _ q _ r i h e=>by
  cases i with
  | zero=>exact ⟨q,rfl,by cases e;exact h.1,h.2.1⟩
  | succ i=>exact r i h.2.2 e
def Pts.app {H:Hp} {a:c_} {L:cP} {vs:c_} {M:cP} (h:Pts H a L) (k:Pts H vs M):Pts H (a++vs) (L++M):=by
 revert h;exact l2 a L ⟨λ_ _ h=>h.elim,λ_ _ h=>h.elim⟩ (λ_=>k) λ_ _ _ _ r h=>⟨h.1,h.2.1,r h.2.2⟩
def Pts.rep {H:Hp} {b:c_} {L:cP}:Pts H b L->RepA H b (L.map λq=>Cp q.2):=l2 b L ⟨λ_ _ h=>h.elim,λ_ _ h=>h.elim⟩ (λ_=>.nil) λ_ _ _ _ r h=>by obtain ⟨⟨a,e,c,h,n⟩,_,k⟩:=h;subst e;exact .cons (IQ h n) (r k)
def Lgs.tp {H d:Hp} (t:Tp H d) {b:c_} {L:cO}:Lgs H b L->Lgs d b L:=l2 b L ⟨λ_ _ h=>h.elim,λ_ _ h=>h.elim⟩ (λ_=>trivial) λ_ _ _ _ r h=>by obtain ⟨⟨a,c,w,e,h,n,P⟩,k⟩:=h;exact ⟨⟨a,c,w,e,t _ _ h,t _ _ n,P.tp t⟩,r k⟩
def Lgs.len {H:Hp} {a:c_} {L:cO}:Lgs H a L->a.length=L.length:=l2 a L ⟨λ_ _ h=>h.elim,λ_ _ h=>h.elim⟩ (λ_=>rfl) λ_ _ _ _ r h=>congrArg (·+1) (r h.2)
def Lgs.get {H:Hp} {a:c_} {L:cO} {i:Nat} {v:V} (h:Lgs H a L) (e:a[i]?=some v):∃ q,L[i]?=some q/\∃ t c w,v=.ref t/\H t=some (.tup [.ref c,.ref w])/\Nm H c q.1.1 q.1.2/\Pl H w q.2:=by
 revert h e;generalize i=j;revert j
 exact l2 a L ⟨λ_ _ _ h=>h.elim,λ_ _ _ h=>h.elim⟩ (λ_ _ e=>nomatch e) λ_ _ q _ r i h e=>by
  cases i with
  | zero=>exact ⟨q,rfl,by cases e;exact h.1⟩
  | succ i=>exact r i h.2 e
def Lgs.app {H:Hp} {a:c_} {L:cO} {vs:c_} {M:cO} (h:Lgs H a L) (k:Lgs H vs M):Lgs H (a++vs) (L++M):=by
 revert h;exact l2 a L ⟨λ_ _ h=>h.elim,λ_ _ h=>h.elim⟩ (λ_=>k) λ_ _ _ _ r h=>⟨h.1,r h.2⟩
theorem Lgs.cut {H:Hp}:∀ (k:Nat) {b:c_} {L:cO},Lgs H b L->Lgs H (b.take k) (L.take k)/\Lgs H (b.drop k) (L.drop k)
 | 0,_,_,h=>⟨trivial,h⟩
 | _+1,[],[],_=>⟨trivial,trivial⟩
 | k+1,_::_,_::_,⟨a,r⟩=>let ⟨x,y⟩:=r.cut k;⟨⟨a,x⟩,y⟩
 | _+1,[],_::_,h=>h.elim
 | _+1,_::_,[],h=>h.elim
def Kpa.tp {H c:Hp} {p a:Addr} {n:Int} (k:Kpa p a H c) (s:Stt H p a n):Tp H c:=λb f h=>by
 obtain ⟨g,q,d,hp,e,_⟩:=s;exact k b _ (Fb h hp (λz=>nomatch z)) (Fb h e (λz=>nomatch z)) h
def Kpa.of {p a:Addr} {H c:Hp} (s:Same H c):Kpa p a H c:=λb o _ _ d=>s b o d
def sC (h:Lc K vs H Q E):zM K { nx:=λ_ f=>Q .non f,rt:=Q } (L2.start ["one","other"] vs) H:=by
 obtain ⟨p,q,a,b,c,d,rfl,hp,e,g,i,j,m,k⟩:=h;have M:∀ {x y:Int},Bd 1000 x->Bd 1000 y->IntMulOk x y:=λn o=>Dg (n.mono ∅) (o.mono ∅);exact CU (Az (Az (Cb rfl hp rfl (Cb rfl e rfl ⟨_,_,rfl,rfl,M g m,Az (Cb rfl e rfl (Cb rfl hp rfl ⟨_,_,rfl,rfl,M j i,⟨_,_,rfl,rfl,k⟩⟩))⟩))))
def sD (h:Fx K vs H Q E):zP K { nx:=λ_ a=>Q .non a,rt:=Q } (L2.start ["P"] vs) H:=by
 obtain ⟨p,b,rfl,hp,q⟩:=h;exact ⟨_,rfl,_,_,rfl,hp,_,_,rfl,rfl,q⟩
def sE (h:EU K vs H Q E):yW K { nx:=λ_ f=>Q .non f,rt:=Q } (L2.start ["_law_row_here"] vs) H:=by
 obtain ⟨p,a,rfl,hp,y,k⟩:=h;have e:(a.map V.int).length=a.length:=AJ ..;refine CU (Dd (Fu (AN rfl ⟨_,rfl,⟨_,SqL.of hp⟩,CompJ.lst (xs:=a.map V.int) (λi c f=>i<=a.length/\Same H f/\Nums f c ((a.take i).map λn=>(n,1))) ⟨Ae _,Same.refl H,trivial⟩ ?_ ?_ ?_⟩)))
 ·rintro i c j ⟨g,s1,b⟩;have l:=b.length;rw [AJ,CG] at l;exact ⟨by rw [e];exact g,sz ⋯,SqL.of (s1 _ _ hp)⟩
 ·rintro i x c j m ⟨g,s1,b⟩;rw [Ac] at m;obtain ⟨z,o,rfl⟩:=EG.mp m;have v:i<a.length:=(BK.mp o).1;refine EB (CD (AN rfl (M_ ⟨BC,λw d=>⟨v,s1.trans (AL d _),?_⟩⟩)));have q:(a.take (i+1)).map (λn=>((n,1):Nu))=(a.take i).map (λn=>(n,1))++[(z,1)]:=by rw [List.take_succ,o];simp
  rw [q];exact (b.tp (E_ (AL d _))).append (Nums.one ⟨w,rfl,upd_same⟩)
 ·rintro c j ⟨g,s1,b⟩ w d;rw [e,CQ] at b;refine ⟨_,_,rfl,upd_same,λr u=>k r _ ((s1.trans (AL d _)).trans (AL u _)) ⟨c,upd_same,b.tp (E_ ((AL d _).trans (AL u _)))⟩⟩
def sF (h:J6 K vs H Q E):xU K { nx:=λ_ a=>Q .non a,rt:=Q } (L2.start ["_law_found","_law_one_here"] vs) H:=by
 obtain ⟨p,x,y,rfl,hp,k⟩:=h;refine Ev ⟨_,rfl,_,_,true,rfl,Fg hp,true,rfl,?_⟩;refine ⟨_,rfl,_,_,rfl,hp,rfl,_,rfl,?_⟩;refine ⟨_,rfl,_,rfl,⟨_,SqT.of hp⟩,ForT.by (xs:=[.int x,.int y]) (λi d a=>∃ c,d=[some (.ref p),c]/\a=H) ⟨_,rfl,rfl⟩ ?_ ?_ ?_⟩
 ·rintro i d a _ ⟨c,rfl,rfl⟩;exact hp
 ·rintro i v d a b ⟨c,rfl,rfl⟩
  have e:∃ z:Int,v=.int z:=by
   match i,b with
   | 0,b=>exact ⟨x,(mF b).symm⟩
   | 1,b=>exact ⟨y,(mF b).symm⟩
  obtain ⟨z,rfl⟩:=e;exact ⟨_,rfl,_,_,true,rfl,rfl,true,rfl,_,rfl,_,_,false,rfl,rfl,false,rfl,_,rfl,rfl⟩
 ·rintro d a ⟨c,rfl,rfl⟩;exact k
def sG (h:Ib K vs H Q E):xV K { nx:=λ_ f=>Q .non f,rt:=Q } (L2.start ["_law_found"] vs) H:=by
 obtain ⟨p,l,rfl,⟨b,hp,j⟩,u,k⟩:=h;have v:=j.length;refine CU ⟨_,rfl,_,_,true,rfl,Fg hp,true,rfl,?_⟩;rw [nV rfl];refine Dd (LP (AN rfl ⟨_,rfl,⟨_,SqT.of hp⟩,CompJ.tup (xs:=b) (λi c f=>i<=b.length/\f=H/\c=(List.replicate i true).map V.bl) ⟨Ae _,rfl,rfl⟩ ?_ ?_ ?_⟩))
 ·rintro i c m ⟨g,rfl,rfl⟩;exact ⟨g,sz (by rw [AJ,List.length_replicate];omega),hp⟩
 ·rintro i x c m d ⟨g,rfl,rfl⟩;have n:i<b.length:=(BK.mp d).1;obtain ⟨q,_,a,rfl,o⟩:=j.get d;exact EB (Bw (AN rfl ⟨_,_,_,rfl,o,n,rfl,by rw [List.replicate_succ',By];rfl⟩))
 ·rintro c m ⟨g,rfl,rfl⟩ w r;refine ⟨w,List.replicate b.length true,rfl,upd_same,?_⟩;have e:(List.replicate b.length true).all id=true:=DT.mpr λx d=>by rw [List.eq_of_mem_replicate d];rfl
  rw [e];exact k _ (AL r _)
def sI (h:Lh K vs H Q E):xW K { nx:=λ_ a=>Q .non a,rt:=Q } (L2.start ["_law_found"] vs) H:=by
 obtain ⟨p,T,B,rfl,⟨u,v,hp,b,Pv⟩,c,d,k⟩:=h;refine CU ⟨_,rfl,_,_,true,rfl,Fg hp,true,rfl,?_⟩;rw [nV rfl];refine ⟨_,rfl,_,_,rfl,hp,rfl,true,rfl,?_⟩;rw [nV rfl];refine Bw (Cb rfl hp rfl ⟨_,_,rfl,b,c,λf s1=>⟨true,rfl,?_⟩⟩);rw [nV rfl];exact Bw (Cb rfl (s1 _ _ hp) rfl ⟨_,_,rfl,Pv.same s1,d,λg e=>k _ (s1.trans e)⟩)
def Hk {K:W.Frag} {c:TE} {g:TG} {d rest:TS} {D:Ends} {b:L2.St} {H:Hp} (h:c b H λx e=>∃ a,x=.ref a/\(∃ f,SqL K e a f)/\ForL K a g d { D with nx:=rest D } b e):AG (BR (Bh K c) g d) rest D b H:=h
def sJ (a:d8) (b c:Option Int):∃ d:d8,CW (a.map V.int) b c=d.map V.int/\d.length<=a.length:=by
 refine ⟨(a.drop (HT.sIx (a.map V.int).length 0 b)).take (HT.sIx (a.map V.int).length (a.map V.int).length c - HT.sIx (a.map V.int).length 0 b),?_,?_⟩
 ·unfold CW;rw [List.map_take,List.map_drop]
 ·rw [CG,List.length_drop];omega
def sK (h:Lb K vs H Q E):yL K { nx:=λ_ e=>Q .non e,rt:=Q } (L2.start ["_law_script","_law_number_here","_law_cell","_law_cells"] vs) H:=by
 obtain ⟨s,T,rfl,J,U,k⟩:=h;obtain ⟨d,em,lm⟩:=sJ T none (some 63);refine Bu (M_ (Hk ?_));refine ⟨_,rfl,_,rfl,_,_,rfl,J,λc W=>?_⟩;rw [em];have s1:=AL W (.lst (d.map V.int));have j:(upd H c (.lst (d.map V.int))) c=some (HO.lst (d.map V.int)):=upd_same;generalize upd H c (.lst (d.map V.int))=A at s1 j ⊢;refine ⟨_,rfl,⟨_,SqL.of j⟩,ForL.by (xs:=d.map V.int) (λi v e=>∃ (q:Int) (z:d7),v=[some (.ref s),some (.int q),z,none]/\A=e/\0<=q/\q<=2147483629) ⟨11,none,rfl,rfl,∅,∅⟩ ?_ ?_ ?_⟩
 ·rintro i v e _ ⟨q,z,rfl,rfl,_⟩;exact SqL.of j
 ·rintro i x v e u ⟨q,z,rfl,rfl,L,X⟩;rw [Ac] at u;obtain ⟨y,_,rfl⟩:=EG.mp u;refine ⟨_,rfl,_,_,rfl,rfl,IntMulOk.of_right (intBits_le_64 ⋯ ⋯),_,rfl,_,_,rfl,rfl,(show (0:Int)<2147483647 by decide),_,_,rfl,rfl,_,_,rfl,rfl,_,_,rfl,rfl,(show (0:Int)<2147483629 by decide),_,_,rfl,rfl,?_,?_⟩
  ·exact CV _ ∅
  ·exact DS (Cd _ ∅)
 ·rintro v e ⟨q,z,rfl,rfl,L,X⟩;show RV K { nx:=λ_ e=>Q .non e,rt:=Q } _ _;refine Bu (Fu ?_);refine ⟨_,rfl,_,rfl,_,_,rfl,Same.seq s1 J,λB C=>?_⟩;rw [em];have D:=AL C (.lst (d.map V.int));have m:(upd A B (.lst (d.map V.int))) B=some (HO.lst (d.map V.int)):=upd_same;generalize upd A B (.lst (d.map V.int))=F at D m ⊢;have M:(d.map V.int).length=d.length:=AJ ..;refine ⟨_,rfl,⟨_,SqL.of m⟩,CompJ.lst (xs:=d.map V.int) (λi w e=>i<=d.length/\F=e/\∃ f:d8,w=f.map V.int/\f.length=i/\∀ z∈f,0<=z) ⟨Ae _,rfl,[],rfl,rfl,(λ_ h=>nomatch h)⟩ ?_ ?_ ?_⟩
  ·rintro i w e ⟨G,rfl,f,rfl,g,_⟩;exact ⟨by rw [M];exact G,sz (by rw [AJ];omega),SqL.of m⟩
  ·rintro i x w e u ⟨G,rfl,f,rfl,g,I⟩;rw [Ac] at u;obtain ⟨y,Y,rfl⟩:=EG.mp u;have Z:i<d.length:=(BK.mp Y).1;refine ⟨_,rfl,_,rfl,Z,rfl,f++[if y<0 then -y else y],by rw [By];rfl,by rw [Bp,g];rfl,λz hz=>?_⟩;rcases CO.mp hz with h | h
   ·exact I z h
   ·rw [Aw.mp h];split <;> omega
  ·rintro w e ⟨G,rfl,f,rfl,g,I⟩ a N;have O:=AL N (.lst (f.map V.int));have n:(upd F a (.lst (f.map V.int))) a=some (HO.lst (f.map V.int)):=upd_same;have a0:H a=none:=s1.free (D.free N);generalize upd F a (.lst (f.map V.int))=H3 at O n ⊢;refine λp hp=>⟨_,rfl,_,rfl,_,rfl,_,_,rfl,rfl,(show (0:Int)<2 by decide),rfl,upd_same,rfl,?_⟩;have P:a≠p:=BO n hp;have r:=(s1.trans D).trans O;rw [M] at g;refine k p a _ (r.free hp) a0 (λb o R=>?_) ⟨f,q,_,upd_same,?_,I,⋯,L,⋯,∅⟩
   ·have S:b≠p:=BO (r _ _ R) hp;exact (Ad S).trans ((Ad S).trans (r _ _ R))
   ·exact (Ad P).trans ((Ad P).trans n)
def aQ (d:Nat) (a:d8):Prop:=a.length=d+1/\1<=d/\d<=3/\a.getLast?≠some 0/\∀ z∈a,z.natAbs<=3
def MX {d:Nat} {c:d8} (h:aQ d c):Pt d (c.map λn=>((n,1):Nu)):=by
 obtain ⟨f,g,k,i,j⟩:=h;refine ⟨⟨λq a=>?_,λq a z=>?_,1,⟨∅,λq a=>?_⟩,?_,λz h=>?_⟩,?_,by rw [AJ,f];exact AR _,g⟩
 ·obtain ⟨n,_,rfl⟩:=AX.mp a;exact ⟨Int.one_pos,Int.gcd_one_right _⟩
 ·rw [List.getLast?_map] at a;obtain ⟨n,b,rfl⟩:=EG.mp a;exact i (by rw [b];exact congrArg some z)
 ·obtain ⟨n,_,rfl⟩:=AX.mp a;exact Int.dvd_refl _
 ·exact Bd.mono (show Bd 1 (1:Int) by unfold Bd;decide) ⋯
 ·obtain ⟨q,a,rfl⟩:=AX.mp h;obtain ⟨n,b,rfl⟩:=AX.mp a;have e:n*(1 / 1)=n:=by rw [Int.ediv_one,Int.mul_one]
  show Bd _ (n*(1 / 1));rw [e];exact Bd.mono (show Bd 2 n by unfold Bd;have:=j n b;omega) ⋯
 ·intro z;have:=congrArg List.length z;rw [AJ,f] at this;exact nomatch this
noncomputable def rN (r:Nat×d8):Nat×cV:=(r.1,r.2.map λn=>(n,1))
noncomputable def Rws (H:Hp):c_->cW->Prop
 | [],[]=>True
 | v::vs,r::R=>(∃ a,v=.ref a/\H a=some (.lst (r.2.map V.int)))/\aQ r.1 r.2/\Rws H vs R
 | _,_=>False
def Rws.same {H b:Hp} {vs:c_} {R:cW} (s:Same H b):Rws H vs R->Rws b vs R:=l2 vs R ⟨λ_ _ h=>h.elim,λ_ _ h=>h.elim⟩ (λ_=>trivial) λ_ _ _ _ r h=>⟨let ⟨a,e,P⟩:=h.1;⟨a,e,s _ _ P⟩,h.2.1,r h.2.2⟩
def Rws.len {H:Hp} {vs:c_} {R:cW}:Rws H vs R->vs.length=R.length:=l2 vs R ⟨λ_ _ h=>h.elim,λ_ _ h=>h.elim⟩ (λ_=>rfl) λ_ _ _ _ r h=>congrArg (·+1) (r h.2.2)
def Rws.get {H:Hp} {vs:c_} {R:cW} {i:Nat} {v:V} (h:Rws H vs R) (e:vs[i]?=some v):∃ q,R[i]?=some q/\(∃ a,v=.ref a/\H a=some (.lst (q.2.map V.int)))/\aQ q.1 q.2:=by
 revert h e;generalize i=j;revert j
 exact l2 vs R ⟨λ_ _ _ h=>h.elim,λ_ _ _ h=>h.elim⟩ (λ_ _ e=>nomatch e) λ_ _ q _ r i h e=>by
  cases i with
  | zero=>exact ⟨q,rfl,by cases e;exact h.1,h.2.1⟩
  | succ i=>exact r i h.2.2 e
def RowsT (t:TA) (R:cW):Prop:=∀ (b:L2.St) (H:Hp) (Q:c_->Hp->Prop),(∀ vs a,Same H a->Rws a vs R->Q vs a)->t b H Q
def RowsT.nil:RowsT AC []:=λ_ H _ h=>h [] H (Same.refl H) trivial
def RowsT.cons {tr e:TA} {R:cW} {d:Nat} (c:d8) (f:∀ (b:L2.St) (H:Hp) (Q:c_->Hp->Prop),Q (c.map V.int) H->e b H Q) (ok:aQ d c) (h:RowsT tr R):RowsT (AB (BF e) tr) ((d,c)::R):=λb H Q k=>by
 exact f b H _ ⟨sz (by rw [AJ,ok.1];have:=ok.2.2.1;omega),λa g=>h b _ _ λvs i s r=>k (.ref a::vs) i ((AL g _).trans s) ⟨⟨a,rfl,s _ _ upd_same⟩,ok,r⟩⟩
def Pts.snocR {H:Hp} {b:c_} {L:cP} {r:Addr} {d:Nat} {a:d8} (h:Pts H b L) (P:Pl H r (a.map λn=>((n,1):Nu))) (ok:aQ d a):Pts H (b++[.ref r]) (L++[rN (d,a)]):=h.app ⟨⟨r,rfl,P⟩,MX ok,trivial⟩
def EX {a:Type} {l:List a} {i:Nat} {x:a} (h:l[i]?=some x):l.take (i+1)=l.take i++[x]:=by rw [List.take_succ,h];rfl
def Tt {K:W.Frag} {H:Hp} {Q:VK} {b:Addr} {xs:c_} {R:cW} {e:L2.St} {J:It} (u:∀ W:Nat->c_->Hp->Prop,W 0 [] H->(∀ i d c,W i d c->i<=xs.length/\d.length<=sizeLine/\Same H c)->(∀ i x d c,xs[i]?=some x->W i d c->AE 0 x (Cm [none] e) c λf g=>AK (EU K) [] E0 (AB (AA 0) AC) f g λy v=>W (i+1) (d++[y]) v)->(∀ d c,W xs.length d c->∀ p,c p=none->Q (.ref p) (upd c p (.lst d)))->CompJ J [none] (AE 0) (AK (EU K) [] E0 (AB (AA 0) AC)) e Q H) (j:Rws H xs R) (D:R.length<=100)
  (k:∀ d c w,Same H c->Pts c d (R.map rN)->c w=none->Q (.ref w) (upd c w (.lst d))):CompJ J [none] (AE 0) (AK (EU K) [] E0 (AB (AA 0) AC)) e Q H:=by
 have z:=j.len;refine u (λi d c=>i<=xs.length/\Same H c/\Pts c d ((R.take i).map rN)) ⟨Ae _,Same.refl H,trivial⟩ ?_ ?_ ?_
 ·rintro i d c ⟨m,s,h⟩;exact ⟨m,sz (by rw [h.len,AJ,CG];omega),s⟩
 ·rintro i x d c n ⟨m,s,h⟩;have A:i<xs.length:=(BK.mp n).1;obtain ⟨q,B,⟨a,rfl,C⟩,ok⟩:=j.get n;refine EB (Bw (AN rfl ⟨_,q.2,rfl,s _ _ C,by have:=ok.1;have:=ok.2.2.1;omega,λr g o P=>⟨A,s.trans o,?_⟩⟩));rw [EX B,By];exact (h.tp (E_ o)).snocR P ok
 ·rintro d c ⟨_,s,h⟩ p hp;rw [z,CQ] at h;exact k d c p s h hp
def Tu:Pt 1 [((1:Int),(2:Int)),(1,1)]/\Pt 1 [((-2:Int),(3:Int)),(1,1)]:=by
 have g:∀ a b:Int,0<b->b<=3->a.natAbs<=2->Int.gcd a b=1->Pt 1 [(a,b),(1,1)]:=λa b f i j h=>by
  refine ⟨⟨λq c=>?_,λq c=>?_,b,⟨f,λq c=>?_⟩,(show Bd 2 b by unfold Bd;omega),λz d=>?_⟩,by simp,by simp,AR _⟩
  ·rcases Bc.mp c with rfl | c
   ·exact ⟨f,h⟩
   ·rw [Aw.mp c];exact KD
  ·obtain rfl:(1,1)=q:=mF c;decide
  ·rcases Bc.mp c with rfl | c
   ·exact Int.dvd_refl _
   ·rw [Aw.mp c];exact Int.one_dvd _
  ·have e:X_ [(a,b),(1,1)] b=[a*(b / b),1*(b / 1)]:=rfl;rw [e,Int.ediv_self ⋯,Int.ediv_one,Int.mul_one,Int.one_mul] at d;show Bd 2 z;unfold Bd;rcases Bc.mp d with rfl | d
   ·omega
   ·rw [Aw.mp d];omega
 exact ⟨g 1 2 ∅ ∅ ∅ ∅,g (-2) 3 ∅ ∅ ∅ ∅⟩
noncomputable instance (d:Nat) (a:d8):Decidable (aQ d a):=by unfold aQ;infer_instance
def Tv {H:Hp} {a b c:Addr} {p q r s:Int} (d:H a=none) (e:upd H a (.tup [.int p,.int q]) b=none) (f:upd (upd H a (.tup [.int p,.int q])) b (.tup [.int r,.int s]) c=none):Pl (upd (upd (upd H a (.tup [.int p,.int q])) b (.tup [.int r,.int s])) c (.tup [.ref a,.ref b])) c [(p,q),(r,s)]/\Same H (upd (upd (upd H a (.tup [.int p,.int q])) b (.tup [.int r,.int s])) c (.tup [.ref a,.ref b])):=
 have u:=AL e _;have v:=AL f _
 ⟨⟨_,upd_same,⟨a,rfl,v _ _ (u _ _ upd_same)⟩,⟨b,rfl,v _ _ upd_same⟩,trivial⟩,(AL d _).trans (u.trans v)⟩
def sM (h:J5 K vs H Q E):xA K { nx:=λ_ m=>Q .non m,rt:=Q } (L2.start ["_law_state","_law_lines_here","_law_rows","_law_pool_here"] vs) H:=by
 obtain ⟨v,rfl,k⟩:=h;refine Bu (Az (LP ?_));refine ⟨_,rfl,_,rfl,sz ∅,λw hw=>⟨_,rfl,⟨_,SqT.of upd_same⟩,?_⟩⟩;have Y:(upd H w (.tup ([0,1,-1,2,-2,3].map V.int))) w=some (HO.tup ([0,1,-1,2,-2,3].map V.int)):=upd_same;have s1:=AL hw (.tup ([0,1,-1,2,-2,3].map V.int));show CompJ _ _ _ _ _ _ (upd H w (.tup ([0,1,-1,2,-2,3].map V.int)));generalize upd H w (.tup ([0,1,-1,2,-2,3].map V.int))=H1 at Y s1 ⊢;refine CompJ.tup (xs:=[0,1,-1,2,-2,3].map V.int) (λi j m=>i<=6/\Same H1 m/\Pts m j ((([0,1,-1,2,-2,3]:d8).take i).map λz=>rN (1,[-z,1]))) ⟨Ae _,Same.refl H1,trivial⟩ ?_ ?_ ?_
 ·rintro i j m ⟨hi,s,h⟩;exact ⟨hi,sz (by rw [h.len,AJ,CG];omega),s _ _ Y⟩
 ·rintro i x j m hx ⟨hi,s,h⟩;rw [Ac] at hx;obtain ⟨z,hz,rfl⟩:=EG.mp hx;have lt:i<6:=(BK.mp hz).1;have z3:∀ z∈[(0:Int),1,-1,2,-2,3],z.natAbs<=3:=by decide
  have z9:=z3 z (A4 hz)
  have ok:aQ 1 [-z,1]:=⟨rfl,∅,∅,by simp,λy hy=>by
   rcases Bc.mp hy with rfl | hy
   ·omega
   ·rw [Aw.mp hy];decide⟩
  refine EB (Bw ?_);refine ⟨_,rfl,_,rfl,BC,λa ha=>⟨a,[-z,1],rfl,upd_same,(show 2<=100 by decide),λr H2 Z P=>?_⟩⟩;have s3:=(AL ha (.lst [.int (-z),.int 1])).trans Z;refine ⟨lt,s.trans s3,?_⟩;rw [EX hz,By];exact (h.tp (E_ s3)).snocR P ok
 ·rintro j m ⟨_,s,h⟩ u hu;obtain ⟨L,eL⟩:∃ L,L=(([0,1,-1,2,-2,3]:d8).map λz=>rN (1,[-z,1])):=⟨_,rfl⟩;have h:Pts m j L:=by rw [eL];exact h
  have e:L.length=6:=by rw [eL];rfl
  have Z:=AL hu (.lst j);have a0:(upd m u (.lst j)) u=some (HO.lst j):=upd_same;have h2:=h.tp (E_ Z);have a4:=s1.trans (s.trans Z);have e6:L.length=6:=e;generalize upd m u (.lst j)=H2 at Z a0 h2 a4 ⊢;refine ⟨BC,λa1 g1=>⟨BC,λa2 M=>⟨BC,λA g3=>?_⟩⟩⟩;have N:=Tv (p:=1) (q:=2) (r:=1) (s:=1) g1 M g3;generalize upd (upd (upd H2 a1 (.tup [.int 1,.int 2])) a2 (.tup [.int 1,.int 1])) A (.tup [.ref a1,.ref a2])=H5 at N ⊢;refine ⟨_,rfl,BC,λb1 i1=>⟨BC,λb2 i2=>⟨BC,λn i3=>⟨BC,λb4 i4=>?_⟩⟩⟩⟩;have O:=Tv (p:=-2) (q:=3) (r:=1) (s:=1) i1 i2 i3;have t7:=AL i4 (.lst [.ref A,.ref n]);have B:=N.2.trans (O.2.trans t7);have N:=N.1.same (O.2.trans t7);have O:=O.1.same t7;have h4:=upd_same (H:=upd (upd (upd H5 b1 (.tup [.int (-2),.int 3])) b2 (.tup [.int 1,.int 1])) n (.tup [.ref b1,.ref b2])) (a:=b4) (o:=.lst [.ref A,.ref n]);generalize upd (upd (upd (upd H5 b1 (.tup [.int (-2),.int 3])) b2 (.tup [.int 1,.int 1])) n (.tup [.ref b1,.ref b2])) b4 (.lst [.ref A,.ref n])=H3 at N O B h4 ⊢;have P3:Pts H3 (j++[V.ref A,V.ref n]) (L++[(1,[(1,2),(1,1)]),(1,[(-2,3),(1,1)])]):=(h2.tp (E_ B)).app ⟨⟨A,rfl,N⟩,Tu.1,⟨n,rfl,O⟩,Tu.2,trivial⟩;have e3:L++[(1,[((1:Int),(2:Int)),(1,1)]),(1,[(-2,3),(1,1)])]=poolN.take 8:=by rw [eL];rfl
  have l8:(L++[(1,[((1:Int),(2:Int)),(1,1)]),(1,[(-2,3),(1,1)])]).length=8:=by rw [Bp,e6];rfl
  generalize L++[(1,[((1:Int),(2:Int)),(1,1)]),(1,[(-2,3),(1,1)])]=L3 at P3 l8 e3;have a5:j.length=6:=h.len.trans e6;refine ⟨_,_,_,_,rfl,rfl,B _ _ a0,h4,sz (by rw [a5];exact (show 6+2<=1000000 by decide)),λf hf=>?_⟩;have s4:=AL hf (.lst (j++[V.ref A,V.ref n]));have R:(upd H3 f (.lst (j++[V.ref A,V.ref n]))) f=some (HO.lst (j++[V.ref A,V.ref n])):=upd_same;have P4:=P3.tp (E_ s4);have a6:=(a4.trans B).trans s4;generalize upd H3 f (.lst (j++[V.ref A,V.ref n]))=H4 at R P4 a6 ⊢;clear P3 s4 N O t7 B h4 hf g1 M g3 i1 i2 i3 i4;generalize j++[V.ref A,V.ref n]=I at R P4;refine Bu ?_;refine (RowsT.cons (d:=2) [-2,0,1] (λ_ _ _ h=>⟨_,rfl,h⟩) ∅ (RowsT.cons (d:=2) [1,0,1] (λ_ _ _ h=>h) ∅ (RowsT.cons (d:=2) [1,1,1] (λ_ _ _ h=>h) ∅ (RowsT.cons (d:=2) [-3,0,1] (λ_ _ _ h=>⟨_,rfl,h⟩) ∅ (RowsT.cons (d:=2) [-1,1,1] (λ_ _ _ h=>⟨_,rfl,h⟩) ∅ (RowsT.cons (d:=2) [2,0,1] (λ_ _ _ h=>h) ∅ (RowsT.cons (d:=2) [-1,2,1] (λ_ _ _ h=>⟨_,rfl,h⟩) ∅ (RowsT.cons (d:=2) [3,1,1] (λ_ _ _ h=>h) ∅ RowsT.nil)))))))) _ _ _ λrs H5 s5 R5=>⟨sz (by rw [R5.len];decide),λg hg=>?_⟩;have s6:=AL hg (.lst rs);have S:(upd H5 g (.lst rs)) g=some (HO.lst rs):=upd_same;have R6:=Rws.same s6 R5;have a7:=s5.trans s6;generalize upd H5 g (.lst rs)=H6 at S R6 a7 ⊢;refine Bu (Az (AN rfl (Fu (AN rfl ⟨_,rfl,⟨_,SqL.of S⟩,Tt (xs:=rs) (b:=g) (λW h0 T hs hd=>CompJ.lst W h0 (λi j m w=>⟨(T i j m w).1,(T i j m w).2.1,SqL.of ((T i j m w).2.2 _ _ S)⟩) hs hd) R6 ∅ λc H7 w7 s7 P7 b6=>?_⟩))));have s8:=AL b6 (.lst c);have U:=a7.trans (s7.trans s8);have b7:=P7.len;have wl:=P4.len;refine ⟨_,_,_,_,rfl,rfl,U _ _ R,upd_same,sz (by rw [b7,wl,l8];exact (show 8+8<=1000000 by decide)),λf8 b9=>?_⟩;have s9:=AL b9 (.lst (I++c));have a8:(upd (upd H7 w7 (.lst c)) f8 (.lst (I++c))) f8=some (HO.lst (I++c)):=upd_same;have P9:Pts (upd (upd H7 w7 (.lst c)) f8 (.lst (I++c))) (I++c) (L3++List.map rN _):=(P4.tp (E_ (U.trans s9))).app (P7.tp (E_ (s8.trans s9)));have ab:=a6.trans (U.trans s9);generalize upd (upd H7 w7 (.lst c)) f8 (.lst (I++c))=H9 at a8 P9 ab ⊢;show RZ K _ _ _;refine Bu (Az (AN rfl (LP ?_)));refine (RowsT.cons (d:=3) [-2,0,0,1] (λ_ _ _ h=>⟨_,rfl,h⟩) ∅ (RowsT.cons (d:=3) [1,1,0,1] (λ_ _ _ h=>h) ∅ (RowsT.cons (d:=3) [-1,-1,0,1] (λ_ _ _ h=>⟨_,rfl,_,rfl,h⟩) ∅ RowsT.nil))) _ _ _ λC aj ba al=>⟨sz (by rw [al.len];decide),λM bb=>?_⟩;have am:=AL bb (.tup C);have D:(upd aj M (.tup C)) M=some (HO.tup C):=upd_same;have an:=Rws.same am al;have J:=ba.trans am;generalize upd aj M (.tup C)=bg at D an J ⊢;refine ⟨_,rfl,⟨_,SqT.of D⟩,Tt (xs:=C) (b:=M) (λW h0 T hs hd=>CompJ.tup W h0 (λi j m w=>⟨(T i j m w).1,(T i j m w).2.1,(T i j m w).2.2 _ _ D⟩) hs hd) an ∅ λF bi bj bc ao ap=>?_⟩;have ar:=AL ap (.lst F);have G:=J.trans (bc.trans ar);have b0:=ao.len;have bd:=P9.len;refine ⟨_,_,_,_,rfl,rfl,G _ _ a8,upd_same,sz (by rw [bd,b0,Bp,l8];exact (show 8+8+3<=1000000 by decide)),λbf b5=>?_⟩;have X:=AL b5 (.lst (I++c++F));refine CU (AN rfl (k bf (I++c++F) _ (ab.trans (G.trans X)) upd_same ?_));have P:=(P9.tp (E_ (G.trans X))).app (ao.tp (E_ (ar.trans X)));rw [e3] at P;exact P
def EY {a:TE} {b:L2.St} {H:Hp} {Q:c_->Hp->Prop} (h:a b H λx c=>Q [x] c):AB a AC b H Q:=h
def sO {K:W.Frag} {c:TE} {capt:List (Option Nat)} {g:TG} {tc:TT} {d:TE} {b:L2.St} {H:Hp} {Q:VK} (h:c b H (λx e=>∃ a,x=.ref a/\(∃ f,SqL K e a f)/\CompF (aa K a) capt g tc d b Q e)):FK (Bh K c) capt g tc d b H Q:=h
def Gn {H:Hp} {f:Addr} {c vs:c_} (h:H f=some (.lst c)):Tp H (upd H f (.lst vs)):=λb d a=>(Ad (Fb a h (λz=>nomatch z))).trans a
def sP (L M:cP):sm (L++M)=sm L+sm M:=by unfold sm;rw [By,List.sum_append]
def sQ (L:cP):W.kqdOk 8 (.list (L.map λq=>Cp q.2))=true:=by
 simp only [W.kqdOk,List.all_map];exact DT.mpr λq _=>bK _ 5
def sU (L:cP):∀ e∈L.map (λq=>Cp q.2),W.kqdOk 8 e=true:=λe a=>by
 obtain ⟨q,_,rfl⟩:=AX.mp a;exact bK _ 6
def sV {a:Type} (P:Prop) (_:a):∃ b:Bool,b=true↔P:=by
 by_cases h:P
 ·exact ⟨true,λ_=>h,λ_=>rfl⟩
 ·exact ⟨false,(λz=>nomatch z),λz=>absurd z h⟩
def Tx {H:Hp} {Q:VK} {w e:Addr} {a:c_} {L:cP} (b:H w=some (.lst a)) (P:Pts H a L) (c:H e=some (.lst [])) (h:Q (.bl (!decide (L=[]))) H):aV (.ref w) (.ref e) H Q:=by
 refine ⟨_,_,decide (L=[]),.lst b P.rep,.lst c .nil,sQ L,∅,?_,h⟩;rw [decide_eq_true_eq];constructor
 ·rintro rfl;rfl
 ·intro z;have d:L.map (λq=>Cp q.2)=[]:=by injection z
  exact List.map_eq_nil_iff.mp d
def Stt.pn {H:Hp} {p a b:Addr} {n:Int} (h:Stt H p a n) (c:H b=none):b≠p/\b≠a:=by
 obtain ⟨_,_,_,hp,d,_⟩:=h;exact ⟨Ne.symm (BO hp c),Ne.symm (BO d c)⟩
def Stt.upd {H:Hp} {p a f:Addr} {n:Int} {o:HO} (h:Stt H p a n) (b:f≠p) (c:f≠a):Stt (upd H f o) p a n:=by
 obtain ⟨e,k,d,hp,g,r⟩:=h;exact ⟨e,k,d,(Ad (Ne.symm b)).trans hp,(Ad (Ne.symm c)).trans g,r⟩
def Hl:∀ q∈poolN,q.2.length=q.1+1/\q.1<=3:=by decide
def sW (h:Ld K vs H Q E):xK K { nx:=λ_ A=>Q .non A,rt:=Q } (L2.start ["_law_state","_law_many","_law_most","_law_pool_here","_law_found","_law_room","_law_k","_law_fits"] vs) H:=by
 obtain ⟨p,a,m,r,n,rfl,st,n9,m0,m4,r0,r6,k⟩:=h;refine HI (AN rfl ⟨_,rfl,λpl ps H1 s1 I P1=>?_⟩);have ao:poolN.length=19:=rfl;refine ⟨sz ∅,λf hf=>?_⟩;have s2:=AL hf (.lst []);have a0:(upd H1 f (.lst [])) f=some (HO.lst []):=upd_same;have B:=s2 _ _ I;have S:=(st.same s1).same s2;have P2:=P1.tp (E_ s2);have a1:=s1.trans s2;have f0:H f=none:=s1.free hf;have nf:f≠p/\f≠a:=(st.same s1).pn hf;have ab:pl≠f:=BO I hf;generalize upd H1 f (.lst [])=H2 at a0 B S P2 a1 ⊢;have aj:pl≠p:=by obtain ⟨_,_,_,hp,_⟩:=S;exact Fb B hp (λz=>nomatch z)
 refine ⟨_,rfl,?_⟩;refine ⟨_,rfl,_,rfl,⋯,⋯,?_⟩;have an:=P2.len;by_cases a2:pl=a
 ·exact absurd a2 (by
   obtain ⟨_,_,_,_,ha,_⟩:=st.same s1;intro z;rw [z,ha] at I;obtain ⟨v0,T⟩:∃ v,ps[0]?=some v:=⟨ps[0]'⋯,AZ ⋯⟩;obtain ⟨q0,_,⟨b0,e0,_⟩,_⟩:=P1.get T;have e1:=mF I;injection e1 with e1;rw [<-e1,e0,Ac] at T;obtain ⟨y,_,J⟩:=EG.mp T;exact nomatch J)
 refine ForR.by (λi σ A=>∃ (O:Int) (c6 c7:d7) (U:Int) (P:c_) (L:cP),σ=[some (.ref p),some (.int m),some (.int r),some (.ref pl),some (.ref f),some (.int O),c6,c7]/\A pl=some (.lst ps)/\Pts A ps poolN/\A f=some (.lst P)/\Pts A P L/\(sm L:Int)+O<=r/\0<=O/\(∀ q∈L,q∈poolN)/\(L.map λq=>q.2).Nodup/\L.length<=i/\U<=n+i/\Stt A p a U/\Kpa p a H A) ⟨r,none,none,n,[],[],rfl,B,P2,a0,trivial,by show ((0:Nat):Int)+r<=r;omega,r0,(λ_ h=>nomatch h),List.nodup_nil,AR _,⋯,S,Kpa.of a1⟩ ?_ ?_
 ·rintro i σ H3 hi ⟨O,c6,c7,U,P,L,rfl,u,P3,C,PW,sl,a3,q3,nd,li,ni,M,k3⟩;refine Bu (sO (AN rfl ⟨_,rfl,⟨_,SqL.of u⟩,CompF.lst (xs:=ps) (λj G A=>j<=ps.length/\H3=A/\∃ D,Pts H3 G D/\(∀ q∈D,q∈poolN/\q.2.length=q.1+1/\(q.1:Int)<=O/\q.2∉L.map λq=>q.2)/\D.length<=j) ⟨Ae _,rfl,[],trivial,(λ_ h=>nomatch h),AR _⟩ ?_ ?_ ?_⟩))
  ·rintro j G A ⟨hj,rfl,D,h,_,e⟩;exact ⟨hj,sz (by rw [h.len];omega),SqL.of u⟩
  ·rintro j x G A hx ⟨hj,rfl,D,h,eF,e⟩;have lt:j<ps.length:=(BK.mp hx).1;obtain ⟨q,hq,⟨b,rfl,zs,hz,hN⟩,pt⟩:=P3.get hx;obtain ⟨ql,qm⟩:=Hl q (A4 hq);have zl:=hN.length;refine EB (Cq (Az (Bw (AN rfl ⟨_,_,rfl,hz,AN rfl ⟨_,_,rfl,rfl,_,rfl,Ag (λc=>?_) (λc=>?_)⟩⟩))))
   ·obtain ⟨bb,a4⟩:=sV (Cp q.2∈L.map λq=>Cp q.2) Unit.unit;refine Cq (Az (AN rfl (AN rfl ⟨_,_,_,_,bb,rfl,C,IQ hz hN,PW.rep,bK _ 6,sU L,a4,_,rfl,Ag (λc2=>?_) (λc2=>?_)⟩)))
    ·refine AN rfl ⟨lt,rfl,D++[q],h.app ⟨⟨b,rfl,zs,hz,hN⟩,pt,trivial⟩,λy J=>?_,by rw [Bp];exact Nat.succ_le_succ e⟩;rcases CO.mp J with d | d
     ·exact eF y d
     ·rw [Aw.mp d];have:=nX c
      exact ⟨A4 hq,ql,⋯,λz=>by
       have z1:Cp q.2∈L.map λq=>Cp q.2:=by
        obtain ⟨y,J,e⟩:=AX.mp z;exact AX.mpr ⟨y,J,by rw [e]⟩
       rw [a4.mpr z1] at c2;exact absurd c2 ∅⟩
    ·exact ⟨lt,rfl,D,h,eF,Nat.le_succ_of_le e⟩
   ·exact ⟨lt,rfl,D,h,eF,Nat.le_succ_of_le e⟩
  ·rintro G A ⟨_,rfl,D,PF,EF,lF⟩ w hw;have s4:=AL hw (.lst G);have a5:(upd H3 w (.lst G)) w=some (HO.lst G):=upd_same;have nw:w≠p/\w≠a:=M.pn hw;have ap:f≠w:=BO C hw;have ar:pl≠w:=BO u hw;generalize upd H3 w (.lst G)=H4 at s4 a5 ⊢;refine ⟨_,rfl,sz ∅,λe he=>?_⟩;have s5:=AL he (.lst []);have a6:(upd H4 e (.lst [])) e=some (HO.lst []):=upd_same;have g:=s4.trans s5;have N:=s5 _ _ a5;generalize upd H4 e (.lst [])=H5 at s5 a6 g N ⊢;have W:=PF.tp (E_ g);have X:=g _ _ C;have R:=g _ _ u;have Y:=M.same g;have k5:=k3.same g;refine Tx N W a6 ⟨_,rfl,Ag (λc=>?_) (λc=>?_)⟩
   ·have F0:D≠[]:=by simpa using c
    have yl:=W.len
    have y1:1<=G.length:=by
     have:0<D.length:=B4.mpr F0;omega
    refine ⟨_,rfl,.inl ⟨rfl,_,SqL.of X⟩,EY (Az (AN rfl (CL (AN rfl (Dd (AN rfl ⟨_,_,rfl,N,EV Y ⋯ ⋯ ⋯ λd H6 d0 d1 al k6=>?_⟩))))))⟩;have Z:=k6.tp Y;have am:=k6 _ _ nw.1 nw.2 N;have a7:=k6 _ _ nf.1 nf.2 X;have a8:=k6 _ _ aj a2 R;have dk:d.toNat<G.length:=by omega
    obtain ⟨q,hq,⟨b,e1,Pb⟩,pt⟩:=(W.tp Z).get (AZ dk);obtain ⟨zs,hz,hN⟩:=Pb;have zl:=hN.length;obtain ⟨qm,ql,qr,qn⟩:=EF q (A4 hq);refine ⟨_,_,_,V.ref b,rfl,rfl,am,Ca (j:=d.toNat) (Int.toNat_of_nonneg d0).symm (by rw [AZ dk,e1]),?_⟩;have wl:=PW.len;refine ⟨_,_,_,rfl,rfl,a7,CF (by omega:P.length<1000000) (sz (AR _)),?_⟩;have F:Tp H6 (upd H6 f (.lst (P++[V.ref b]))):=Gn a7;refine ⟨_,rfl,_,rfl,_,rfl,_,_,_,_,rfl,rfl,upd_same,L2.atI_last ..,_,_,rfl,F _ _ hz,_,_,rfl,rfl,?_⟩;refine ⟨_,_,_,U+1,_,L++[q],rfl,(Ad ab).trans a8,((P3.tp (E_ g)).tp Z).tp F,upd_same,(((PW.tp (E_ g)).tp Z).tp F).app ⟨⟨b,rfl,zs,F _ _ hz,hN.tp F⟩,pt,trivial⟩,?_,⋯,λy J=>?_,?_,by rw [Bp];exact Nat.succ_le_succ li,⋯,al.upd nf.1 nf.2,λc o h1 h2 hc=>(Ad (BO hc f0)).trans ((k5.trans k6) c o h1 h2 hc)⟩
    ·rw [sP];show (((sm L+(q.1+0):Nat)):Int)+(O - ((zs.length:Int) - 1))<=r;omega
    ·rcases CO.mp J with c | c
     ·exact q3 y c
     ·rw [Aw.mp c];exact qm
    ·rw [By];refine List.nodup_append.mpr ⟨nd,Dh.mpr ⟨List.not_mem_nil,List.nodup_nil⟩,λx hx y J e=>?_⟩;rw [Aw.mp J] at e;exact qn (show q.2∈_ by rw [show q.2=x from e.symm];exact hx)
   ·exact ⟨O,_,_,U,P,L,rfl,R,P3.tp (E_ g),X,PW.tp (E_ g),sl,a3,q3,nd,Nat.le_succ_of_le li,⋯,Y,k5⟩
 ·rintro σ H3 ⟨O,c6,c7,U,P,L,rfl,u,P3,C,PW,sl,a3,q3,nd,li,ni,M,k3⟩;exact CU (AN rfl (k f P L U H3 f0 C PW ⋯ q3 nd ⋯ ⋯ M k3))
def MY {b:TA} {capt:List (Option Nat)} {g:TG} {c:TE} {a:L2.St} {H:Hp} {Q:VK} (h:b a H (λvs d=>∃ j:Int,vs=[.int j]/\-(2 ^ 62)<=j/\j<2 ^ 62/\CompJ (ah 0 j.toNat) capt g c a Q d)):BU (DX b) capt g c a H Q:=h
theorem Kpa.fr {H b:Hp} {p a f:Addr} {n:Int} (k:Kpa p a H b) (s:Stt b p a n) (h:b f=none):H f=none:=by
 obtain ⟨c,d⟩:=s.pn h;cases e:H f with
 | none=>rfl
 | some o=>exact nomatch (k f o c d e).symm.trans h
noncomputable def ay (d n:Nat):cP:=(List.range n).map λk=>poolN.getD ((d+k) % 8) (0,[])
def Ty (d n:Nat):(ay d n).length=n:=by unfold ay;rw [AJ,Bm]
def sX (d n:Nat):ay d (n+1)=ay d n++[poolN.getD ((d+n) % 8) (0,[])]:=by unfold ay;rw [E7,By];rfl
def sY (d:Nat) (a:d<8) (n:Nat) (b:n<8):(∀ q∈ay d n,q∈poolN)/\((ay d n).map λq=>q.2).Nodup/\sm (ay d n)<=7:=
 have h:∀ (d n:Fin 8),(∀ q∈ay d.1 n.1,q∈poolN)/\((ay d.1 n.1).map λq=>q.2).Nodup/\sm (ay d.1 n.1)<=7:=by decide +kernel
 h ⟨d,a⟩ ⟨n,b⟩
def sZ (h:Le K vs H Q E):xN K { nx:=λ_ o=>Q .non o,rt:=Q } (L2.start ["_law_state","_law_lines_here","_law_first"] vs) H:=by
 obtain ⟨p,a,n,rfl,G,n9,k⟩:=h;refine Bu ?_;refine Bw (AN rfl ⟨_,rfl,λpl ps I s1 A J=>⟨_,rfl,_,_,rfl,A,λw L=>?_⟩⟩);have U:ps.length=19:=J.len;have W:CW ps none (some 8)=ps.take 8:=Jj (m:=8) ⋯;rw [W];have M:=AL L (.lst (ps.take 8));have u:(upd I w (.lst (ps.take 8))) w=some (HO.lst (ps.take 8)):=upd_same;have N:w≠p/\w≠a:=(G.same s1).pn L;have c:=s1.trans M;have O:=J.tp (E_ M);generalize upd I w (.lst (ps.take 8))=H2 at u c O ⊢;have v:=G.same c;refine FP (AN rfl (M_ (EV v ⋯ ∅ ∅ λd H3 d0 d1 B X=>?_)));refine CU (MY (EY (Az (M_ (CL (AN rfl (M_ (EV B ⋯ ∅ ∅ λe P e0 e1 x Y=>IR ⟨_,rfl,⋯,⋯,?_⟩))))))));have g:=X.trans Y;have C:=g _ _ N.1 N.2 u;have Z:=O.tp (g.tp v);refine CompJ.range (λi r o=>i<=(6+e).toNat/\P=o/\Pts P r (ay d.toNat i)) ⟨Ae _,rfl,trivial⟩ ?_ ?_ ?_
 ·rintro i r o ⟨D,rfl,h⟩;exact ⟨D,sz (by rw [h.len,Ty];omega)⟩
 ·rintro i r o D ⟨_,rfl,h⟩;have R:=CV (d+(0+(i:Int))) (show (8:Int)≠0 by decide);have j1:=Cd (d+(0+(i:Int))) (show (0:Int)<8 by decide);refine EB (Az (AN rfl (Az (Az (AN rfl (AN rfl (IR (M_ ⟨_,_,rfl,rfl,(show (0:Int)<8 by decide),?_⟩))))))));obtain ⟨y,z⟩:∃ y,y=(d+(0+(i:Int))) % 8:=⟨_,rfl⟩;rw [<-z] at R j1;have S:y.toNat<ps.length:=by omega
  obtain ⟨q,hq,⟨b,e2,Pb⟩,pt⟩:=Z.get (AZ S);refine ⟨_,_,_,V.ref b,rfl,rfl,C,Ca (j:=y.toNat) (z.symm.trans (Int.toNat_of_nonneg R).symm) ?_,D,rfl,?_⟩
  ·rw [List.getElem?_take,nV ⋯,AZ S,e2]
  ·rw [sX,show (d.toNat+i) % 8=y.toNat by omega,AQ,hq];exact h.app ⟨⟨b,rfl,Pb⟩,pt,trivial⟩
 ·rintro r o ⟨_,rfl,h⟩ f T;have F:=AL T (.lst r);obtain ⟨o1,o2,o3⟩:=sY d.toNat ⋯ (6+e).toNat ⋯;exact k f r _ _ (((Kpa.of c).trans g).fr x T) upd_same (h.tp (E_ F)) o1 o2 o3 (by rw [Ty];omega) ((x.same F).mono ⋯) (((Kpa.of c).trans g).same F)
def rA {b:cV} (h:∀ q∈b,Sn q):Gq 15 3 (trim b):=by
 refine ⟨λq a=>(h q (EQ a)).1,GQ b,6,⟨∅,λq a=>?_⟩,(show Bd 3 6 by unfold Bd;decide),λz e=>?_⟩
 ·obtain ⟨d,_,f⟩:=h q (EQ a);have g:=d.pos;have c:q.2=1\/q.2=2\/q.2=3:=by omega
  rcases c with c | c | c <;> rw [c] <;> decide
 ·obtain ⟨q,a,rfl⟩:=AX.mp e;obtain ⟨d,i,f⟩:=h q (EQ a);have g:=d.pos;have c:q.2=1\/q.2=2\/q.2=3:=by omega
  unfold Bd;rw [Bx];have j:(6 / q.2).natAbs<=6:=by rcases c with c | c | c <;> rw [c] <;> decide
  exact Du (Nat.mul_le_mul i j) ∅
def fr6 {K:W.Frag} {i H:Hp} {Q:VK} {p a j b:Addr} {v w:d7} {o:c_} {c m:cV} {n:Int} (x:Kpa p a i H) (st:Stt H p a n) (y:H j=some (.lst o)) (A:Nums H o c) (C:∀ q∈c,Sn q) (O:c.length<=3) (P:Pl H b m) (G:Gq 18 6 m) (f:m≠[]) (h:m.length<=4)
  (k:∀ t T B d,FF d t T B->Rp 24 3 4 T B->Stt d p a n->Kpa p a i d->Q (.ref t) d):Re K { nx:=λ_ d=>Q .non d,rt:=Q } [some (.ref p),v,some (.ref j),some (.ref b),w] H:=by
 refine CU (CL (Bw (AN rfl ⟨_,_,c,rfl,y,A,⋯,λr D R s1 F I=>AN rfl ?_⟩)));have g:=rA C;have S:=GS c;refine ⟨_,_,trim c,m,18,58,3,4,3,rfl,⟨D,F,I⟩,P.same s1,g.mono ∅ ∅,G.mono ∅ ∅,f,⋯,h,λz=>(Im g z (n:=3) (e:=3) ⋯ ∅).mono ∅,(Im G f (n:=4) (e:=3) h ∅).mono ∅,∅,∅,λt J T B u L M N=>?_⟩;exact k t T B J L (Rp.of M g G f ⋯ h N ∅ ∅) ((st.same s1).same u) ((x.same s1).same u)
def bR {K:W.Frag} {e H:Hp} {Q:VK} {p a f b:Addr} {x:d7} {g:c_} {d m:cV} {n y:Int} (h:Kpa p a e H) (st:Stt H p a n) (i:H f=some (.lst g)) (j:Nums H g d) (u:∀ q∈d,Sn q) (v:d.length<=3) (P:Pl H b m) (G:Gq 18 6 m) (z:m≠[]) (A:m.length<=4)
  (k:∀ t T B c,FF c t T B->Rp 24 3 4 T B->Stt c p a n->Kpa p a e c->Q (.ref t) c):Rf K { nx:=λ_ c=>Q .non c,rt:=Q } [some (.ref p),x,some (.ref f),some (.ref b),some (.int y)] H:=by
 refine Ev (Cq (Az (AN rfl (M_ ⟨rfl,_,rfl,Ag (λ_=>?_) (λ_=>?_)⟩))))
 ·refine HJ (Bw ?_);refine ⟨_,rfl,BC,λw C=>⟨w,[-3,1],rfl,upd_same,(show 2<=100 by decide),λr F s1 D=>?_⟩⟩;have s:=(AL C (.lst [.int (-3),.int 1])).trans s1;have o:=MX (show aQ 1 [-3,1] by decide);exact fr6 (h.same s) (st.same s) (s _ _ i) (j.tp (E_ s)) u v D (o.g.mono ∅ ∅) o.ne (show 2<=4 by decide) k
 ·exact fr6 h st i j u v P G z A k
def fr4 {K:W.Frag} {i H:Hp} {Q:VK} {p a j b:Addr} {F:d7} {u:c_} {f m:cV} {n I:Int} (v:Kpa p a i H) (st:Stt H p a n) (x:H j=some (.lst u)) (y:Nums H u f) (A:∀ q∈f,Sn q) (C:f.length<=3) (P:Pl H b m) (G:Gq 18 6 m) (J:m≠[]) (L:m.length<=4)
  (k:∀ t T B d,FF d t T B->Rp 24 3 4 T B->Stt d p a n->Kpa p a i d->Q (.ref t) d):Rg K { nx:=λ_ d=>Q .non d,rt:=Q } [some (.ref p),F,some (.ref j),some (.ref b),some (.int I)] H:=by
 refine Ev (Cq (Az (AN rfl (M_ ⟨rfl,_,rfl,Ag (λ_=>?_) (λ_=>?_)⟩))))
 ·refine HJ (CL (Bw ?_));refine ⟨BC,λw M=>⟨w,[1,1],rfl,upd_same,(show 2<=100 by decide),λr H1 s1 N=>?_⟩⟩;refine Bw ?_;refine ⟨BC,λO e=>⟨O,[1,1],rfl,upd_same,(show 2<=100 by decide),λr2 H2 D S=>?_⟩⟩;have s:=((AL M (.lst [.int 1,.int 1])).trans s1).trans ((AL e (.lst [.int 1,.int 1])).trans D);have g:=(AL e (.lst [.int 1,.int 1])).trans D;have o:=MX (show aQ 1 [1,1] by decide);obtain ⟨U,X,Y⟩:=N.same g;obtain ⟨Z,h2,n2⟩:=S;refine ⟨_,_,U,Z,_,_,2,2,2,2,rfl,X,h2,Y,n2,o.g,o.g,(show 2<=100 by decide),(show 2<=100 by decide),∅,∅,∅,∅,λr3 R H3 s3 P3 G3 h e3=>?_⟩;have c:=s.trans s3;have R0:R≠[]:=λz=>Sr.ne_mul (C3 _) (C3 _) (F3 o.g.low o.g.nz o.ne) (F3 o.g.low o.g.nz o.ne) (by rw [<-Ez e3,z];exact TV);exact bR (v.same c) (st.same c) (c _ _ x) (y.tp (E_ c)) A C P3 (G3.mono (show 2+2+2<=18 by decide) ∅) R0 (Bg h (show 2+2 - 1<=4 by decide)) k
 ·exact bR v st x y A C P G J L k
def rB (h:Lf K vs H Q E):xT K { nx:=λ_ f=>Q .non f,rt:=Q } (L2.start ["_law_state","_law_parts","_law_top","_law_bottom","_law_kind"] vs) H:=by
 obtain ⟨p,a,l,ws,L,n,rfl,st,n9,hl,PL,q3,l7,Y,Z,k⟩:=h;refine Bu (MY (EY (Az (M_ (CL (AN rfl (M_ (EV st ⋯ ∅ ∅ λe H1 e0 e1 a0 k1=>IR ⟨_,rfl,⋯,⋯,?_⟩))))))));refine CompJ.range (λi x f=>i<=(1+e).toNat/\∃ A,Nums f x A/\(∀ q∈A,Sn q)/\A.length=i/\Stt f p a (n+1+3*i)/\Kpa p a H f) ⟨Ae _,[],trivial,(λ_ h=>nomatch h),rfl,a0.mono ⋯,k1⟩ ?_ ?_ ?_
 ·rintro i x f ⟨hi,A,h,_,e,_⟩;exact ⟨hi,sz (by rw [h.length];omega)⟩
 ·rintro i x H2 hi ⟨_,A,h,M,el,m,k2⟩;refine EB (Bw (AN rfl (Lx m ⋯ λr t d H3 hr lo t1 d1 o I=>⟨hi,A++[(t,d)],(h.tp (I.tp m)).append (Nums.one ⟨r,rfl,hr⟩),λq v=>?_,by rw [Bp,el];rfl,o.mono ⋯,k2.trans I⟩)));rcases CO.mp v with c | c
  ·exact M q c
  ·rw [Aw.mp c];exact ⟨lo,t1,d1⟩
 ·rintro x H2 ⟨_,A,hN,M,el,m,k2⟩ N O;have s3:=AL O (.lst x);have y:(upd H2 N (.lst x)) N=some (HO.lst x):=upd_same;have nt:N≠p/\N≠a:=m.pn O;have o:=m.same s3;have I:=k2.same s3;have P:=hN.tp (E_ s3);generalize upd H2 N (.lst x)=H3 at y o I P ⊢;refine Bu (PU (CD (M_ (M_ ⟨BC,λu hu=>⟨Dc,λb hb=>?_⟩⟩))));have J:=(AL hu (.tup [.int 1,.int 1])).trans (AL hb (.tup [.ref u]));have Pb:Pl (upd (upd H3 u (.tup [.int 1,.int 1])) b (.tup [.ref u])) b [(1,1)]:=⟨_,upd_same,⟨u,rfl,AL hb _ _ _ upd_same⟩,trivial⟩;generalize upd (upd H3 u (.tup [.int 1,.int 1])) b (.tup [.ref u])=H4 at J Pb ⊢;have R:=o.same J;refine FP (AN rfl (M_ (EV R ⋯ ∅ ∅ λkd H5 _ _ C X=>?_)));have D:=X.tp R;have F:=X _ _ nt.1 nt.2 (J _ _ y);have G:=(P.tp (E_ J)).tp D;have w:=(I.same J).trans X;have l5:=w _ _ Y Z hl;have one:Gq 18 6 [((1:Int),(1:Int))]:=⟨λq v=>by rw [Aw.mp v];exact KD,λq v=>by obtain rfl:(1,1)=q:=mF v;decide,1,⟨∅,λq v=>by rw [Aw.mp v];exact Int.dvd_refl _⟩,(show Bd 6 1 by unfold Bd;decide),λz hz=>by rw [show z=1 from Aw.mp hz];unfold Bd;decide⟩;have P5:=PL.tp ((I.same J).trans X |>.tp st);refine Ev ?_;refine Cq (Az (AN rfl (M_ ⟨rfl,_,rfl,Ag (λ_=>?_) (λ_=>?_)⟩)))
  ·refine Cq (Az (AN rfl ⟨sz ∅,λe6 a1=>?_⟩));have g:=AL a1 (.lst []);have P6:=P5.tp (E_ g);refine Tx (g _ _ l5) P6 upd_same ⟨_,rfl,Ag (λc=>?_) (λc=>?_)⟩
   ·have L0:L≠[]:=by simpa using c
    have wl:=P6.len;have w1:0<ws.length:=by rw [wl];exact B4.mpr L0
    obtain ⟨q,v,⟨b',e',a2⟩,pt⟩:=P6.get (AZ w1);have d3:=q3 q (A4 v);have ql:=pt.len;refine HJ (Az (AN rfl (M_ ⟨_,_,_,V.ref b',rfl,rfl,g _ _ l5,Ca (j:=0) rfl (by rw [AZ w1,e']),?_⟩)));exact fr4 (w.same g) (C.same g) (g _ _ F) (G.tp (E_ g)) M ⋯ a2 (pt.g.mono ⋯ ⋯) pt.ne ⋯ λt T B f S U y W=>k t T B _ f S U ⋯ y W
   ·exact fr4 (w.same g) (C.same g) (g _ _ F) (G.tp (E_ g)) M ⋯ ((Pb.tp D).same g) one (by simp) (show 1<=4 by decide) λt T B f S U y W=>k t T B _ f S U ⋯ y W
  ·exact fr4 w C F G M ⋯ (Pb.tp D) one (by simp) (show 1<=4 by decide) λt T B f S U y W=>k t T B _ f S U ⋯ y W
theorem rC (R:cX) (c:Rat):Sr.W (R.map λq=>(q.1,q.2.2)) c=Sr.wa R c:=by
 induction R with
 | nil=>rfl
 | cons q R a=>
   show (if q.1=c then q.2.2 else 1)*Sr.W (R.map λq=>(q.1,q.2.2)) c=(if decide (q.1=c)=true then q.2.2 else 1)*Sr.wa R c;rw [a];congr 1;by_cases h:q.1=c
   ·rw [nV h,nV (nW h)]
   ·rw [nU h,nU (by simpa using h)]
def rD {L A B:cZ} (h:Sr.Gth L A) (p:A.Perm B):Sr.Gth L B:=⟨(p.map (·.1)).nodup_iff.mp h.nd,λq a=>h.at' q (p.mem_iff.mpr a),λc b d=>let ⟨q,a,e⟩:=h.all c b d;⟨q,p.mem_iff.mp a,e⟩⟩
def Nb.low {q:Nu} (h:Nb (val q)) (l:Low q.1 q.2):Bd 40 q.1/\Bd 40 q.2:=by
 obtain ⟨t,d,a,e,b,c⟩:=h;have w:=IL (Co a) a (Fl (n:=t) a);have:W_ t d=q:=DA (Co a) l ((HB a).trans e);rw [<-this];exact ⟨b.le w.1,c.le w.2⟩
theorem T2 {d:Type}:∀ {l m:List d},l.Nodup->(∀ x∈l,x∈m)->l.length<=m.length
 | [],_,_,_=>Ae _
 | a::l,m,e,h=>by
   obtain ⟨s,t,rfl⟩:=List.append_of_mem (h a (Au ..));obtain ⟨f,g⟩:=Dh.mp e
   have:=T2 (m:=s++t) g λx b=>by
    rcases CO.mp (h x (A3 _ b)) with c | c
    ·exact F7 _ c
    ·rcases Bc.mp c with c | c
     ·exact absurd (c ▸ b) f
     ·exact C4 _ c
   rw [Bp] at this;rw [CP,Bp,CP];omega
def T3 {R:cX} {M:cO} (P:Pts2 R) (o:LgO M) (h:Sr.Can (Sr.wa R) (lv M)):(∀ q∈M,Gq 100 100 q.2/\q.2.length<=8/\(∃ n,Sr.Ms (n+1) (sr q.2))/\Bd 40 q.1.1/\Bd 40 q.1.2/\val q.1≠0/\sr q.2=Sr.wa R (val q.1))/\M.length<=7:=by
 have j:∀ q∈M,val q.1≠0/\sr q.2=Sr.wa R (val q.1)/\sr q.2≠1/\∃ p∈R,p.1=val q.1:=λq d=>by
  obtain ⟨a,b,c⟩:=h.nz (val q.1,sr q.2) (AX.mpr ⟨q,d,rfl⟩);refine ⟨a,b,c,Classical.byContradiction λz=>c ?_⟩;rw [b];exact Sr.Pi.none λp hp=>by simpa using λe=>z ⟨p,hp,e⟩
 refine ⟨λq d=>?_,?_⟩
 ·obtain ⟨v,e,k,p,hp,g⟩:=j q d;obtain ⟨f,l2,w⟩:=o q d;obtain ⟨l,y,G,A⟩:=P.sz (λa _=>decide (a=val q.1));have r:l=q.2:=He G.low l2 G.nz w (y.trans e.symm);obtain ⟨n,m,z⟩:=Sr.Pi.ms (λa _=>decide (a=val q.1)) P.pr;have u:=Nb.low (g ▸ P.na p hp) f;refine ⟨r ▸ G,r ▸ A,?_,u.1,u.2,v,e⟩;cases n with
  | zero=>exact absurd (z rfl p hp) (by simpa using g)
  | succ n=>exact ⟨n,by rw [e];exact m⟩
 ·have k:=h.nodup
  have f:=T2 (m:=R.map (·.1)) k λx i=>by
   unfold lv at i;rw [B3] at i;obtain ⟨q,d,rfl⟩:=AX.mp i;obtain ⟨_,_,_,p,hp,g⟩:=j q d;exact AX.mpr ⟨p,hp,g⟩
  unfold lv at f;rw [AJ,AJ,AJ] at f;exact Bg f P.len
theorem T4:∀ {M N:cO},LgO M->LgO N->lv M=lv N->M=N
 | [],[],_,_,_=>rfl
 | [],_::_,_,_,h=>nomatch h
 | _::_,[],_,_,h=>nomatch h
 | p::M,q::N,b,c,h=>by
   injection h with d e;injection d with f g;obtain ⟨i,j,k⟩:=b p (Au ..);obtain ⟨m,n,o⟩:=c q (Au ..);rw [show p=q from Prod.ext (DA i m f) (He j n k o g),T4 (λx a=>b x (A3 _ a)) (λx a=>c x (A3 _ a)) e]
def LgO.app {M N:cO} (h:LgO M) (k:LgO N):LgO (M++N):=λq a=>(CO.mp a).elim (h q) (k q)
def Lg.same {H d:Hp} {l:Addr} {M:cO} (h:Lg H l M) (s:Same H d):Lg d l M:=let ⟨e,a,b,c⟩:=h;⟨e,s _ _ a,b.tp (E_ s),c⟩
structure Sq (k:Nat) (l:cV):Prop where
 g:Gq (220*k) (100*k) l
 len:l.length<=7*k+1
def Sq.one {l:cV} (g:Gq 100 100 l) (len:l.length<=8):Sq 1 l:=⟨g.mono ∅ ∅,len⟩
def Sq.mono {j k:Nat} {l:cV} (h:Sq j l) (i:j<=k):Sq k l:=⟨h.g.mono ⋯ ⋯,by have:=h.len;omega⟩
def Sq.mul {k:Nat} {l v R:cV} (h:Sq k l) (a:k<=15) (lv:v.length<=8) (G:Gq (220*k+100+l.length) (100*k+100) R) (len:R.length<=l.length+v.length - 1):Sq (k+1) R:=by
 have:=h.len;exact ⟨G.mono ⋯ ⋯,⋯⟩
noncomputable def ky (c:Nu):List D_:=[.inl c.1,.inl c.2]
noncomputable def kE (E:cQ):List (List D_×V):=E.map λq=>(ky q.1,V.ref q.2.1)
noncomputable def dE (E:cQ):cZ:=E.map λq=>(val q.1,sr q.2.2)
def MZ {c d:Nu} (h:ky c=ky d):c=d:=by
 injection h with b a;injection a with a _;injection b with b;injection a with a;exact Prod.ext b a
theorem T5 (c:Nu) (E:cQ):(FN (kE E) (ky c)=none/\∀ q∈E,q.1≠c)\/∃ q∈E,q.1=c/\FN (kE E) (ky c)=some (.ref q.2.1):=by
 induction E with
 | nil=>exact .inl ⟨rfl,λ_ h=>nomatch h⟩
 | cons q E d=>
   unfold FN kE;rw [CA,List.find?_cons];by_cases e:q.1=c
   ·refine .inr ⟨q,Au ..,e,?_⟩;rw [nW (congrArg ky e)];rfl
   ·rw [nY λz=>e (MZ z)];rcases d with ⟨a,b⟩ | ⟨p,hp,a,b⟩
    ·refine .inl ⟨a,λp hp=>?_⟩;rcases Bc.mp hp with c | c
     ·rw [c];exact e
     ·exact b p c
    ·exact .inr ⟨p,A3 _ hp,a,b⟩
def any_kE {c:Nu} {E:cQ}:((kE E).any (λb=>b.1=ky c)=true)↔∃ q∈E,q.1=c:=by
 rw [List.any_eq_true];constructor
 ·rintro ⟨x,d,e⟩;obtain ⟨q,a,rfl⟩:=AX.mp d;exact ⟨q,a,MZ (nX e)⟩
 ·rintro ⟨q,a,e⟩;exact ⟨_,AX.mpr ⟨q,a,rfl⟩,nW (congrArg ky e)⟩
def rE {E:cQ} {c:Nu} {r:Addr} (R:cV) (h:∀ q∈E,q.1≠c):EO (kE E) (ky c) (.ref r)=kE (E++[(c,r,R)]):=by
 unfold EO;rw [nU λz=>let ⟨q,a,e⟩:=any_kE.mp z;h q a e];unfold kE;rw [By];rfl
def rF {E:cQ} {c:Nu} {r:Addr} (R:cV) (h:∃ q∈E,q.1=c):EO (kE E) (ky c) (.ref r)=kE (E.map λq=>if q.1=c then (q.1,r,R) else q):=by
 unfold EO;rw [nV (any_kE.mpr h)];unfold kE;rw [B3,B3];refine Ce λq _=>?_;show (if ky q.1=ky c then (ky q.1,V.ref r) else (ky q.1,V.ref q.2.1))=(ky (if q.1=c then (q.1,r,R) else q).1,V.ref (if q.1=c then (q.1,r,R) else q).2.1);by_cases e:q.1=c
 ·rw [nV (congrArg ky e),nV e]
 ·rw [nU λz=>e (MZ z),nU e]
def EnO (H:Hp) (k:Nat) (E:cQ):Prop:=∀ q∈E,Low q.1.1 q.1.2/\Pl H q.2.1 q.2.2/\Sq k q.2.2/\Bd 100 q.1.1/\Bd 100 q.1.2
def EnO.tp {H e:Hp} {j k:Nat} {E:cQ} (h:EnO H j E) (t:Tp H e) (i:j<=k):EnO e k E:=λq f=>let ⟨a,b,c,d⟩:=h q f;⟨a,b.tp t,c.mono i,d⟩
def EnO.app {H:Hp} {k:Nat} {E F:cQ} (h:EnO H k E) (g:EnO H k F):EnO H k (E++F):=λq a=>(CO.mp a).elim (h q) (g q)
def E2 (L:cO) (q:Nu×cV):lv (L++[q])=lv L++[(val q.1,sr q.2)]:=by unfold lv;rw [By];rfl
def rG {H:Hp} {f:Addr} {k l:List (List D_×V)} (h:H f=some (.dT k)):Tp H (upd H f (.dT l)):=λb c a=>(Ad (Fb a h (λz=>nomatch z))).trans a
def Hm (d:Int):val (0,d)=0:=R' _
def Ma {q:Nu} (l:Low q.1 q.2) (h:q.1≠0):val q≠0:=λz=>h (by
 have:q=(0,1):=DA l IM (z.trans (Hm 1).symm);rw [this])
def Mb {n:Nat} {l:cV} (h:Sr.Ms n (sr l)) (a:Af l) (b:Nz l):l.length=n+1:=by
 have d:n<l.length:=by
  rcases A5 n l.length with c | c
  ·exact c
  ·exact absurd (h.1.symm.trans (CY c)) ∅
 rcases A5 (n+1) l.length with c | c
 ·exact absurd (h.2 (l.length - 1) ⋯) (Fz a b (B4.mp ⋯))
 ·omega
theorem T6 {f:Sr} (h:Sr.Ms 0 f):f=1:=Sr.ext' λk=>by
 rw [Sr.one_at];cases k with
 | zero=>exact h.1
 | succ k=>exact h.2 (k+1) ⋯
def T7:Gq 1 1 [((1:Int),(1:Int))]:=⟨λq a=>by rw [Aw.mp a];exact KD,λq a=>by obtain rfl:(1,1)=q:=mF a;decide,1,⟨∅,λq a=>by rw [Aw.mp a];exact Int.dvd_refl _⟩,(show Bd 1 1 by unfold Bd;decide),λz b=>by rw [show z=1 from Aw.mp b];unfold Bd;decide⟩
def Hn {n:Nat} (h:n<1000000):n<sizeLine:=CF h (sz (AR _))
def rH {K:W.Frag} {H0 H:Hp} {D:Ends} {p f c w:Addr} {x4:d7} {E:cQ} {L:cO} {q:Nu×cV} {k:Nat} (s0:Same H0 H) (f0:H0 f=none) (hf:H f=some (.dT (kE E))) (J:EnO H k E) (G:Sr.Gth (lv L) (dE E)) (hc:Nm H c q.1.1 q.1.2) (hw:Pl H w q.2) (lq:Low q.1.1 q.1.2) (I:Gq 100 100 q.2) (l8:q.2.length<=8) (M:∃ n,Sr.Ms n (sr q.2)) (b1:Bd 100 q.1.1) (b2:Bd 100 q.1.2) (a3:k<15) (el:E.length<=k)
  (nx:∀ H' i,Same H0 H'->H' f=some (.dT (kE i))->EnO H' (k+1) i->Sr.Gth (lv (L++[q])) (dE i)->i.length<=k+1->D.nx [some (.ref p),some (.ref f),some (.ref c),some (.ref w),x4] H') :
  BM (Dl (Aq (A_ ae (A_ gT (AA 2) (tC (.int 0))) (tC (.int 0)))) (Aq (A_ aE (AK (Fx K) [] E0 (AB (AA 3) AC)) (tC (.int 0))))) (AM (AK (Fw K) [] E0 (AB (ag K "dict" Kz (AA 1) (AB (AA 2) (AB (Ar (AB (Ar (AB (tC (.int 1)) (AB (tC (.int 1)) AC))) AC)) AC))) (AB (AA 3) AC))) (Do (AA 1) (AA 2) JW)) BQ D [some (.ref p),some (.ref f),some (.ref c),some (.ref w),x4] H:=by
 obtain ⟨zs,hz,hN⟩:=hw;have zl:=hN.length;obtain ⟨n,M⟩:=M;have ln:=Mb M I.low I.nz;have B:(val q.1=0\/sr q.2=1)->D.nx [some (.ref p),some (.ref f),some (.ref c),some (.ref w),x4] H:=λz=>nx H E s0 hf (J.tp (λ_ _ h=>h) ⋯) (by rw [E2];exact G.skip z) ⋯;refine Cq (Az (Cb rfl hc rfl (M_ ⟨rfl,_,rfl,Ag (λc0=>?_) (λc0=>?_)⟩)))
 ·have n0:q.1.1≠0:=λz=>by rw [z] at c0;exact absurd c0 ∅
  have v0:=Ma lq n0;refine Cq (Az (Bw (AN rfl ⟨_,zs,rfl,hz,M_ ⟨_,_,rfl,rfl,_,rfl,Ag (λc1=>?_) (λc1=>?_)⟩⟩)))
  ·have l2:2<=q.2.length:=by have:=nX c1;omega
   obtain ⟨n',rfl⟩:∃ n',n=n'+1:=⟨n - 1,⋯⟩;refine ⟨_,rfl,.inr (.inr (.inl ⟨rfl,.inr ⟨_,hf⟩⟩)),_,rfl,BC,λj a0=>⟨Dc,λO P=>?_⟩⟩;have m:=(AL a0 (.tup [.int 1,.int 1])).trans (AL P (.tup [.ref j]));have P3:Nums (upd (upd H j (.tup [.int 1,.int 1])) O (.tup [.ref j])) [V.ref j] [(1,1)]:=⟨⟨j,rfl,AL P _ _ _ upd_same⟩,trivial⟩;have h3:(upd (upd H j (.tup [.int 1,.int 1])) O (.tup [.ref j])) O=some (HO.tup [V.ref j]):=upd_same;generalize upd (upd H j (.tup [.int 1,.int 1])) O (.tup [.ref j])=H3 at m P3 h3 ⊢;have S:=m _ _ hc;have T:=m _ _ hf;have U:=m _ _ hz;have N3:=hN.tp (E_ m);refine ⟨_,_,ky q.1,_,_,rfl,rfl,S,T,?_⟩
   have X:∀ (r:Addr) (C:Hp) (i:cQ),Same H3 C->EO (kE E) (ky q.1) (.ref r)=kE i->EnO C (k+1) i->Sr.Gth (lv (L++[q])) (dE i)->i.length<=k+1->Do (AA 1) (AA 2) JW (.ref r) [some (.ref p),some (.ref f),some (.ref c),some (.ref w),x4] C D.nx:=λr C i u eE o5 N l5=>by
    have Y:=u _ _ T;refine ⟨_,rfl,_,rfl,f,c,ky q.1,kE E,rfl,rfl,u _ _ S,Y,Hn (by unfold kE;rw [AJ];omega),?_⟩;rw [eE];exact nx _ i (λb o hb=>(Ad (BO hb f0)).trans (u _ _ (m _ _ (s0 _ _ hb)))) upd_same (o5.tp (rG Y) (AR _)) N l5
   rcases T5 q.1 E with ⟨Z,e2⟩ | ⟨y,A,Z,e2⟩
   ·rw [Z];refine ⟨_,rfl,O,w,_,zs,[(1,1)],q.2,1,1,100,100,rfl,h3,U,P3,N3,T7,I,∅,⋯,∅,∅,∅,∅,λr R C u P5 N l5 e5=>?_⟩;have eR:R=q.2:=He N.low I.low N.nz I.nz (by rw [Ez e5,MP];ext);subst eR;refine X r C (E++[(q.1,r,q.2)]) u (rE _ e2) (((J.tp (E_ (m.trans u)) ⋯)).app λy A=>?_) ?_ (by rw [Bp];exact Nat.succ_le_succ el)
    ·rw [Aw.mp A];exact ⟨lq,P5,(Sq.one I l8).mono ⋯,b1,b2⟩
    ·rw [E2]
     have g:=G.new v0 M λz=>by
      obtain ⟨x,F,ex⟩:=AX.mp z;obtain ⟨y,A,rfl⟩:=AX.mp F;exact e2 y A (DA (J y A).1 lq ex)
     unfold dE at g ⊢;rw [By];exact g
   ·obtain ⟨ly,Py,Sy,_⟩:=J y A;obtain ⟨us,hu,hU⟩:=Py.same m;have yl:=Sy.len;rw [e2];refine ⟨_,rfl,y.2.1,w,us,zs,y.2.2,q.2,_,_,100,100,rfl,hu,U,hU,N3,Sy.g,I,⋯,⋯,⋯,⋯,∅,∅,λr R C u P5 N l5 e5=>?_⟩
    have all:∀ x∈E,x.1=q.1->sr R=sr x.2.2*sr q.2:=λx F ex=>by
     have w1:=(G.at' _ (AX.mpr ⟨x,F,rfl⟩)).2.1;have w2:=(G.at' _ (AX.mpr ⟨y,A,rfl⟩)).2.1;rw [Ez e5,show sr x.2.2=_ from w1,show sr y.2.2=_ from w2];show Sr.W (lv L) (val y.1)*_=Sr.W (lv L) (val x.1)*_;rw [Z,ex]
    refine X r C (E.map λx=>if x.1=q.1 then (x.1,r,R) else x) u (rF _ ⟨y,A,Z⟩) (λx F=>?_) ?_ (by rw [AJ];omega)
    ·obtain ⟨v,hv,rfl⟩:=AX.mp F;obtain ⟨a,b,c',d⟩:=J v hv;by_cases e:v.1=q.1
     ·rw [nV e];exact ⟨a,P5,Sy.mul ⋯ l8 N l5,d⟩
     ·rw [nU e];exact ⟨a,b.same (m.trans u),c'.mono ⋯,d⟩
    ·rw [E2];have g:=G.put (c:=val q.1) M (AX.mpr ⟨_,AX.mpr ⟨y,A,rfl⟩,by rw [Z]⟩)
     have ee:dE (E.map λx=>if x.1=q.1 then (x.1,r,R) else x)=(dE E).map λx=>if x.1=val q.1 then (x.1,x.2*sr q.2) else x:=by
      unfold dE;rw [B3,B3];refine Ce λx F=>?_;show (val (if x.1=q.1 then (x.1,r,R) else x).1,sr (if x.1=q.1 then (x.1,r,R) else x).2.2)=if val x.1=val q.1 then (val x.1,sr x.2.2*sr q.2) else (val x.1,sr x.2.2)
      by_cases e:x.1=q.1
      ·rw [nV e,nV (by rw [e])];show (val x.1,sr R)=_;rw [all x F e]
      ·rw [nU e,nU λz=>e (DA (J x F).1 lq z)]
     rw [ee];exact g
  ·have l1:q.2.length<=1:=by have:=nZ (Bool.eq_false_iff.mpr c1);omega
   have n0:n=0:=by omega
   subst n0;exact B (.inr (T6 M))
 ·have z:q.1.1=0:=by
   have:=Bool.eq_false_iff.mpr c0;rw [Bool.not_eq_false'] at this;have:=nX this;injection this
  refine B (.inl ?_);have:=Hm q.1.2;rw [<-z] at this;exact this
theorem rJ {k n:Type} {f:k->n} {l m:List n} (h:l.Perm m):∀ Z:List k,l=Z.map f->∃ g,Z.Perm g/\m=g.map f:=by
 induction h with
 | nil=>
   intro Z e;cases Z with
   | nil=>exact ⟨[],.nil,rfl⟩
   | cons a Z=>exact nomatch e
 | cons x _ o=>
   intro Z e;cases Z with
   | nil=>exact nomatch e
   | cons a Z=>
     injection e with d c;obtain ⟨g,p,q⟩:=o Z c;exact ⟨a::g,p.cons a,by rw [CA,q,d]⟩
 | swap x y l=>
   intro Z e;cases Z with
   | nil=>exact nomatch e
   | cons a Z=>
     injection e with d c;cases Z with
     | nil=>exact nomatch c
     | cons b Z=>
       injection c with c r;exact ⟨b::a::Z,.swap b a Z,by rw [CA,CA,d,c,r]⟩
 | trans _ _ i j=>
   intro Z e;obtain ⟨u,v,d⟩:=i Z e;obtain ⟨w,z,c⟩:=j u d;exact ⟨w,v.trans z,c⟩
theorem Mc {b j:Type} {f:b->j}:∀ {l:List b},(l.map f).Nodup->∀ {x y},x∈l->y∈l->f x=f y->x=y
 | a::l,h,x,y,k,g,e=>by
   obtain ⟨i,m⟩:=Dh.mp h;rcases Bc.mp k with c | c
   ·rcases Bc.mp g with d | d
    ·rw [c,d]
    ·exact absurd (AX.mpr ⟨y,d,by rw [<-e,c]⟩) i
   ·rcases Bc.mp g with d | d
    ·exact absurd (AX.mpr ⟨x,c,by rw [e,d]⟩) i
    ·exact Mc m c d e
theorem T8 {H:Hp}:∀ {as:dw} {l:cV},as.length=l.length->(∀ (i:Nat) a q,as[i]?=some a->l[i]?=some q->Nm H a q.1 q.2)->Nums H (as.map V.ref) l
 | [],[],_,_=>trivial
 | a::as,q::l,e,h=>⟨⟨a,rfl,h 0 a q rfl rfl⟩,T8 (Nat.succ.inj e) λi x y b c=>h (i+1) x y b c⟩
 | [],_::_,e,_=>nomatch e
 | _::_,[],e,_=>nomatch e
def KL {q:Nu} {B:Int} (l:Low q.1 q.2) (h:q.2∣B):((q.1*(B / q.2):Int):Rat)=val q*(B:Rat):=by
 have e:=Int.ediv_mul_cancel h;have a:(B:Rat)=((B / q.2:Int):Rat)*(q.2:Rat):=by rw [<-Rat.intCast_mul,e]
 have b:(q.2:Rat)≠0:=Ap (AV l.pos);unfold val;rw [Rat.intCast_mul,a,Rat.div_def];have:=E8 _ b;ext
def T9 {q r:Nu} {B:Int} (l:Low q.1 q.2) (m:Low r.1 r.2) (h:q.2∣B) (g:r.2∣B) (b:0<B) (c:q.1*(B / q.2)<r.1*(B / r.2)):val q<val r:=by
 have a:((q.1*(B / q.2):Int):Rat)<((r.1*(B / r.2):Int):Rat):=Rat.intCast_lt_intCast.mpr c;rw [KL l h,KL m g] at a;have d:(0:Rat)<(B:Rat):=Rat.intCast_pos.mpr b;exact Rat.lt_of_mul_lt_mul_right a (Rat.le_of_lt d)
def UA {q r:Nu} {B:Int} (l:Low q.1 q.2) (m:Low r.1 r.2) (h:q.2∣B) (g:r.2∣B) (d:0<B) (c:q.1*(B / q.2)=r.1*(B / r.2)):q=r:=by
 have a:=KL l h;rw [c,KL m g] at a;have b:(B:Rat)≠0:=Ap (AV d);refine DA l m ?_;have e:val q=val q*(B:Rat)*(B:Rat)⁻¹:=by have:=Rat.mul_inv_cancel _ b;ext
 have f:val r=val r*(B:Rat)*(B:Rat)⁻¹:=by have:=Rat.mul_inv_cancel _ b;ext
 rw [e,f,a]
theorem UB {c d g:Type} (f:c->g):∀ (E:List c) (bs:List d),(E.map f).zip bs=(E.zip bs).map λe=>(f e.1,e.2)
 | [],_=>rfl
 | _::_,[]=>rfl
 | a::E,b::bs=>by rw [CA,List.zip_cons_cons,List.zip_cons_cons,CA,UB f E bs]
theorem Me {c d:Type}:∀ {E:List c} {bs:List d},bs.length=E.length->(E.zip bs).map (·.1)=E
 | [],_,_=>by rw [List.zip_nil_left];rfl
 | a::E,[],h=>nomatch h
 | a::E,b::bs,h=>by rw [List.zip_cons_cons,CA,Me (Nat.succ.inj h)]
def rK (h:Lj K vs H Q E):yI K { nx:=λ_ j=>Q .non j,rt:=Q } (L2.start ["pieces","found","c","v","tops"] vs) H:=by
 obtain ⟨p,ws,L,rfl,hp,PL,oL,zL,b1,k⟩:=h;have wl:=PL.len;refine Bu λf hf=>?_;have s1:=AL hf (HO.dT []);have h1:(upd H f (HO.dT [])) f=some (HO.dT []):=upd_same;generalize upd H f (HO.dT [])=H1 at s1 h1 ⊢;refine Hk (AN rfl ⟨_,rfl,⟨_,SqL.of (s1 _ _ hp)⟩,ForL.by (xs:=ws) (λi σ j=>∃ (x2 x3:d7) (E:cQ),σ=[some (.ref p),some (.ref f),x2,x3,none]/\Same H j/\j f=some (.dT (kE E))/\EnO j i E/\Sr.Gth (lv (L.take i)) (dE E)/\E.length<=i) ⟨none,none,[],rfl,s1,h1,(λ_ h=>nomatch h),Sr.Gth.nil,AR _⟩ ?_ ?_ ?_⟩)
 ·rintro i σ j _ ⟨x2,x3,E,rfl,s,_⟩;exact SqL.of (s _ _ hp)
 ·rintro i x σ H2 S ⟨x2,x3,E,rfl,s2,B,A,G,el⟩;have lt:i<ws.length:=(BK.mp S).1;obtain ⟨q,d,t,c,w,rfl,ht,hc,Pw⟩:=(PL.tp (E_ s2)).get S;obtain ⟨z1,z2,⟨n,z3⟩,z4,z5⟩:=zL q (A4 d);refine ⟨_,_,rfl,ht,rfl,_,_,rfl,_,_,rfl,rfl,?_⟩;refine rH s2 hf B A G hc Pw (oL q (A4 d)).1 z1 z2 ⟨_,z3⟩ z4 z5 ⋯ el λj E' a1 a2 a3 a4 a5=>⟨_,_,E',rfl,a1,a2,a3,?_,a5⟩;rw [EX d];exact a4
 ·rintro σ H2 ⟨x2,x3,E,rfl,s2,B,A,G,el⟩;rw [wl,CQ] at G;have T:Af (E.map (·.1)):=λq d=>by obtain ⟨e,o,rfl⟩:=AX.mp d;exact (A e o).1
  have bd:Og 100 (E.map (·.1)):=λq d=>by obtain ⟨e,o,rfl⟩:=AX.mp d;exact (A e o).2.2.2
  obtain ⟨c0,c1,c2⟩:=Oi T bd;rw [AJ] at c2
  have kx:∀ {as:dw} {j:Hp},as.length=(kE E).length->(∀ (i:Nat) (a:Addr) (kv:List D_×V),as[i]?=some a->(kE E)[i]?=some kv->j a=some (.tup (kv.1.map kV)))->Nums j (as.map V.ref) (E.map (·.1)):=λ{as j} e h=>by
   refine T8 (by rw [e];unfold kE;rw [AJ,AJ]) λi a q J d=>?_;rw [Ac] at d;obtain ⟨y,hy,rfl⟩:=EG.mp d;exact h i a (ky y.1,V.ref y.2.1) J (by unfold kE;rw [Ac,hy];rfl)
  show RU K _ _ _;refine Bu (Az (Bw (Dd (AN rfl ⟨f,kE E,rfl,B,λas al a6 r hr=>?_⟩))));have s3:=AL hr (.lst (as.map V.ref));refine ⟨r,as.map V.ref,E.map (·.1),Ab (E.map (·.1)),rfl,.inr upd_same,(kx al a6).tp (E_ s3),T,⟨c0,c1⟩,c2.mono ⋯,λq d=>(bd q d).1.mono ∅,by rw [AJ];omega,λr4 a4 H4 s4 a7 a8=>M_ ⟨_,_,_,_,rfl,rfl,a7,rfl,?_⟩⟩;have M:=s3.trans s4;generalize upd H2 r (.lst (as.map V.ref))=H3 at s3 s4;have U:=M _ _ B;have ab:=A.tp (E_ M) (AR _);show RT K _ _ _;refine CU (Dd (Fu ?_));refine ⟨_,rfl,_,rfl,f,kE E,rfl,U,λu bl aj r5 am=>?_⟩;have s5:=AL am (.lst (u.map V.ref));have N5:=(kx bl aj).tp (E_ s5);have h5:(upd H4 r5 (.lst (u.map V.ref))) r5=some (HO.lst (u.map V.ref)):=upd_same;generalize upd H4 r5 (.lst (u.map V.ref))=H5 at s5 N5 h5 ⊢;have N:u.length=E.length:=by rw [bl];unfold kE;rw [AJ]
  have cn:AS (E.map (·.1))=E.map λe=>e.1.1*(Ab (E.map (·.1)) / e.1.2):=by unfold AS;rw [B3];rfl
  have nv:(E.map λe=>val e.1).Nodup:=by have:=G.nd;unfold dE at this;rw [B3] at this;exact this
  have C:∀ e∈E,e.1.2∣Ab (E.map (·.1)):=λe o=>c1 e.1 (AX.mpr ⟨e,o,rfl⟩)
  have nd:(AS (E.map (·.1))).Nodup:=by
   rw [cn];refine EK.mpr ((EK.mp nv).imp_of_mem λ{a b} J F n z=>n ?_);rw [UA (A a J).1 (A b F).1 (C a J) (C b F) c0 z]
  refine ⟨a4,r5,AS (E.map (·.1)),u.map V.ref,rfl,s5 _ _ a8,h5,by rw [cn,AJ,AJ,N],by rw [cn,AJ];omega,nd,λv ms r6 H6 s6 _ W l6 an pm X=>⟨_,rfl,⟨_,SqL.of W⟩,?_⟩⟩;have ez:(AS (E.map (·.1))).zip (u.map V.ref)=(E.zip (u.map V.ref)).map λe=>(e.1.1.1*(Ab (E.map (·.1)) / e.1.1.2),e.2):=by rw [cn,UB]
  obtain ⟨Z,pZ,eZ⟩:=rJ pm.symm _ ez
  have D:∀ e∈Z,e.1∈E:=λe o=>by
   have m:=pZ.mem_iff.mpr o;have:e.1∈(E.zip (u.map V.ref)).map (·.1):=AX.mpr ⟨e,m,rfl⟩;rw [Me (by rw [AJ,N])] at this;exact this
  have aZ:∀ e∈Z,∃ b,e.2=V.ref b/\Nm H6 b e.1.1.1 e.1.1.2:=λe o=>by
   obtain ⟨i,hi⟩:=List.mem_iff_getElem?.mp (pZ.mem_iff.mpr o);obtain ⟨h1,h2⟩:=List.getElem?_zip_eq_some.mp hi;obtain ⟨q,d,b,e3,e4⟩:=N5.get h2;rw [Ac,h1] at d;obtain rfl:e.1.1=q:=mF d;exact ⟨b,e3,s6 _ _ e4⟩
  have lZ:Z.length=v.length:=by rw [l6,eZ,AJ]
  have O:Same H4 H6:=s5.trans s6;have ao:=O _ _ U;have ap:=ab.tp (E_ O) (AR _)
  have b0:v.length<=15:=by
   rw [<-lZ,<-pZ.length_eq,List.length_zip,AJ];omega
  refine CompJ.lst (xs:=v.map V.ref) (λi P j=>i<=v.length/\Same H6 j/\Lgs j P ((Z.take i).map λe=>(e.1.1,e.1.2.2))) ⟨Ae _,Same.refl H6,trivial⟩ ?_ ?_ ?_
  ·rintro i P j ⟨hi,s,h⟩;exact ⟨by rw [AJ];exact hi,sz (by rw [h.len,AJ,CG];omega),SqL.of (s _ _ W)⟩
  ·rintro i x P H7 S ⟨hi,I,h⟩;rw [Ac] at S;obtain ⟨t,ht,rfl⟩:=EG.mp S;have lt:i<v.length:=(BK.mp ht).1;obtain ⟨e,o⟩:∃ e,Z[i]?=some e:=⟨Z[i]'⋯,AZ ⋯⟩;have Y:=A4 o;have tt:=an i t _ ht (by rw [eZ,Ac,o];rfl);obtain ⟨b,eb,F⟩:=aZ e Y;obtain ⟨_,Pe,_⟩:=ap e.1 (D e Y)
   have lk:FN (kE E) (ky e.1.1)=some (.ref e.1.2.1):=by
    rcases T5 e.1.1 E with ⟨_,n⟩ | ⟨q,d,e1,e2⟩
    ·exact absurd rfl (n e.1 (D e Y))
    ·rw [Mc nv (D e Y) d (by rw [e1])];rw [Mc nv (D e Y) d (by rw [e1])] at e2;exact e2
   rw [show e.2=V.ref b from eb] at tt;refine ⟨_,_,rfl,I _ _ tt,rfl,_,_,rfl,_,_,rfl,rfl,?_⟩;refine CD (AN rfl (Az (AN rfl (AN rfl ⟨f,b,ky e.1.1,kE E,_,rfl,rfl,I _ _ F,I _ _ ao,lk,BC,λt8 a0=>⟨lt,I.trans (AL a0 _),?_⟩⟩))));have R:=AL a0 (.tup [.ref b,.ref e.1.2.1]);rw [EX o,By];exact (h.tp (E_ R)).app ⟨⟨t8,b,e.1.2.1,rfl,upd_same,(I.trans R) _ _ F,Pe.same (I.trans R)⟩,trivial⟩
  ·rintro P H7 ⟨_,I,h⟩ w hw;have R:=AL hw (.lst P);rw [AJ,<-lZ,CQ] at h;refine ⟨_,_,rfl,upd_same,λg hg=>?_⟩;have s9:=AL hg (.tup P);refine k g (Z.map λe=>(e.1.1,e.1.2.2)) _ ((s2.trans M).trans (O.trans (I.trans (R.trans s9)))) ⟨P,upd_same,h.tp (E_ (R.trans s9)),λq d=>?_⟩ (G.can ?_ ?_)
   ·obtain ⟨e,o,rfl⟩:=AX.mp d;obtain ⟨a,_,b,_⟩:=A e.1 (D e o);exact ⟨a,b.g.low,b.g.nz⟩
   ·have ar:=(pZ.symm.map (λe:(Nu×Addr×cV)×V=>(val e.1.1,sr e.1.2.2)))
    have e1:dE E=(E.zip (u.map V.ref)).map λe=>(val e.1.1,sr e.1.2.2):=by
     conv=>lhs;rw [<-Me (E:=E) (bs:=u.map V.ref) (by rw [AJ,N])]
     unfold dE;rw [B3];rfl
    rw [e1];unfold lv;rw [B3];exact ar
   ·unfold lv;rw [B3];rw [eZ] at X;refine EK.mpr ((EK.mp X).imp_of_mem λ{a b} J F n=>?_);exact T9 (A a.1 (D a J)).1 (A b.1 (D b F)).1 (C a.1 (D a J)) (C b.1 (D b F)) c0 n
def UC {q r:Nu} (l:Low q.1 q.2) (m:Low r.1 r.2):q.1*r.2<r.1*q.2↔val q<val r:=by
 have g:=CM l.pos m.pos;have d:q.2*r.2 / q.2=r.2:=FY _ (AV l.pos);have e:q.2*r.2 / r.2=q.2:=Int.mul_ediv_cancel _ (AV m.pos)
 have f:∀ {a b:Nu},Low a.1 a.2->Low b.1 b.2->a.1*b.2<b.1*a.2->val a<val b:=λ{a b} l m h=>by
  have d:a.2*b.2 / a.2=b.2:=FY _ (AV l.pos);have e:a.2*b.2 / b.2=a.2:=Int.mul_ediv_cancel _ (AV m.pos);exact T9 (B:=a.2*b.2) l m (Int.dvd_mul_right ..) (Int.dvd_mul_left ..) (CM l.pos m.pos) (by rw [d,e];exact h)
 refine ⟨f l m,λh=>?_⟩;rcases Int.lt_trichotomy (q.1*r.2) (r.1*q.2) with c | c | c
 ·exact c
 ·have:=UA (B:=q.2*r.2) l m (Int.dvd_mul_right ..) (Int.dvd_mul_left ..) g (by rw [d,e];exact c);rw [this] at h;exact absurd h ()
 ·have:=f m l c;exact absurd h ()
def UD (A B:cO):lv (A++B)=lv A++lv B:=by unfold lv;rw [By]
def Asc (N:cO):Prop:=N.Pairwise λa b=>val a.1<val b.1
def rL {N:cO} (h:Asc N):(lv N).Pairwise λp q=>p.1<q.1:=EK.mpr h
def Asc.ins {A B:cO} {q:Nu×cV} (h:Asc (A++B)) (d:∀ a∈A,val a.1<val q.1) (e:∀ b∈B,val q.1<val b.1):Asc (A++q::B):=by
 obtain ⟨f,g,i⟩:=List.pairwise_append.mp h;refine List.pairwise_append.mpr ⟨f,Eb.mpr ⟨e,g⟩,λa x b y=>?_⟩;rcases Bc.mp y with c | c
 ·rw [c];exact d a x
 ·exact i a x b c
def Mf {N:cO} {a:Nat} {y:Nu×cV} (h:N[a]?=some y):N=N.take a++y::N.drop (a+1):=by
 have e:=BK.mp h
 conv=>lhs;rw [<-GC a N,List.drop_eq_getElem_cons e.1,e.2]
def Rz (i:Nat) (N:cO):Prop:=∀ y∈N,Sq i y.2/\Bd 100 y.1.1/\Bd 100 y.1.2
def Rz.mono {i j:Nat} {N:cO} (h:Rz i N) (k:i<=j):Rz j N:=λy c=>let ⟨a,b⟩:=h y c;⟨a.mono k,b⟩
structure La (H:Hp) (i:Nat) (L:cO) (xs:c_) (N:cO):Prop where
 lg:Lgs H xs N
 lo:LgO N
 rz:Rz i N
 g:Sr.Gth (lv L) (lv N)
 asc:Asc N
 len:N.length<=i
def rM {K:W.Frag} {H0 H:Hp} {D:Ends} {p r c w:Addr} {xs:c_} {N L:cO} {q:Nu×cV} {i f:Nat} (s0:Same H0 H) (r0:H0 r=none) (S:H r=some (.lst xs)) (h:La H i L xs N) (am:f<=N.length) (G:∀ a∈N.take f,val a.1<val q.1) (pos:∀ y,N[f]?=some y->¬ val y.1<val q.1) (hc:Nm H c q.1.1 q.1.2) (Pw:Pl H w q.2) (lq:Low q.1.1 q.1.2) (gq:Gq 100 100 q.2) (l8:q.2.length<=8) (ms:∃ n,Sr.Ms (n+1) (sr q.2)) (b1:Bd 100 q.1.1) (b2:Bd 100 q.1.2) (i7:i<7)
  (k:∀ H' X N',Same H0 H'->H' r=some (.lst X)->La H' (i+1) (L++[q]) X N'->D.nx [some (.ref p),some (.ref r),some (.ref c),some (.ref w),some (.int f)] H'):Lv K D [some (.ref p),some (.ref r),some (.ref c),some (.ref w),some (.int f)] H:=by
 have xl:=h.lg.len;have nl:=h.len;obtain ⟨n,ms⟩:=ms
 have Y:∀ T:Hp,Same H T->(∀ y,N[f]?=some y->y.1≠q.1)->BM (Aq (A_ aV (AA 2) (Ar (AB (tC (.int 0)) (AB (tC (.int 1)) AC))))) (Dy (ag K "list" Kv (AA 1) (AB (AA 4) (AB (Ar (AB (AA 2) (AB (AA 3) AC))) AC)))) BQ D [some (.ref p),some (.ref r),some (.ref c),some (.ref w),some (.int f)] T:=λT s2 ne=>by
  have up:∀ b∈N.drop f,val q.1<val b.1:=by
   rcases A5 f N.length with I | ge
   ·have u:=AZ I
    have an:val q.1<val N[f].1:=by
     have a:=pos _ u;have b:=ne _ u;have c:val N[f].1≠val q.1:=λz=>b (DA (h.lo _ (DH I)).1 lq z);ext
    intro b B;rw [List.drop_eq_getElem_cons I] at B;rcases Bc.mp B with e | e
    ·rw [e];exact an
    ·have d:=h.asc;rw [Mf u] at d;have:=(Eb.mp (List.pairwise_append.mp d).2.1).1 b e;ext
   ·intro b B;rw [List.drop_of_length_le ge] at B;exact nomatch B
  refine Cq (Az (AN rfl (CD (M_ (M_ ⟨BC,λz hz=>?_⟩)))));have Z:=AL hz (.tup [.int 0,.int 1]);have iC:isN (upd T z (.tup [.int 0,.int 1])) (.ref c) q.1:=⟨c,rfl,Z _ _ (s2 _ _ hc)⟩;have iZ:isN (upd T z (.tup [.int 0,.int 1])) (.ref z) (0,1):=⟨z,rfl,upd_same⟩;refine ⟨_,_,decide (q.1=((0,1):Nu)),Eu iC,Eu iZ,aP _ 7,aP _ 7,?_,_,rfl,?_⟩
  ·rw [decide_eq_true_eq];exact ⟨λz=>by rw [z],MM⟩
  have J:=s2.trans Z;generalize upd T z (.tup [.int 0,.int 1])=U at J ⊢;refine Ag (λcc=>?_) (λcc=>k U xs N (s0.trans J) (J _ _ S) ⟨h.lg.tp (E_ J),h.lo,h.rz.mono ⋯,?_,h.asc,⋯⟩)
  ·have q0:q.1≠(0,1):=λz=>by rw [z] at cc;exact absurd cc ∅
   have v0:val q.1≠0:=λz=>q0 (DA lq IM (z.trans (Hm 1).symm));refine ⟨_,rfl,.inl ⟨rfl,_,SqL.of (J _ _ S)⟩,?_⟩;refine ⟨_,rfl,_,rfl,_,rfl,BC,λt ht=>?_⟩;have s4:=AL ht (.tup [.ref c,.ref w]);have C:(upd U t (.tup [.ref c,.ref w])) t=some (HO.tup [V.ref c,V.ref w]):=upd_same;have m:=J.trans s4;generalize upd U t (.tup [.ref c,.ref w])=H4 at C m ⊢;have F:=m _ _ S;refine ⟨_,_,_,f,rfl,rfl,F,by rw [xl];exact am,Hn ⋯,?_⟩;have t5:Tp H4 (upd H4 r (.lst (xs.take f++V.ref t::xs.drop f))):=Gn F;obtain ⟨c1,c2⟩:=(h.lg.tp (E_ m)).cut f
   have pm:(N++[q]).Perm (N.take f++q::N.drop f):=by
    have a:(N++[q]).Perm (q::N):=List.perm_append_comm
    have b:(q::N).Perm (N.take f++q::N.drop f):=by
     conv=>lhs;rw [<-GC f N]
     exact List.perm_middle.symm
    exact a.trans b
   have me:∀ y∈N.take f++q::N.drop f,y∈N\/y=q:=λy u=>by
    rcases CO.mp (pm.mem_iff.mpr u) with c | c
    ·exact .inl c
    ·exact .inr (Aw.mp c)
   refine k _ _ (N.take f++q::N.drop f) (λb o B=>(Ad (BO B r0)).trans (m _ _ (s0 _ _ B))) upd_same ⟨(Lgs.app c1 (vs:=V.ref t::xs.drop f) (M:=q::N.drop f) ⟨⟨t,c,w,rfl,C,m _ _ hc,Pw.same m⟩,c2⟩).tp t5,λy u=>?_,λy u=>?_,?_,?_,?_⟩
   ·rcases me y u with c | c
    ·exact h.lo y c
    ·rw [c];exact ⟨lq,gq.low,gq.nz⟩
   ·rcases me y u with c | c
    ·exact h.rz.mono ⋯ y c
    ·rw [c];exact ⟨(Sq.one gq l8).mono ⋯,b1,b2⟩
   ·have g:=h.g.new v0 ms λz=>by
     obtain ⟨x,hx,ex⟩:=AX.mp z;obtain ⟨y,u,rfl⟩:=AX.mp hx;have ex:val y.1=val q.1:=ex;rw [<-GC f N] at u;rcases CO.mp u with c | c
     ·have:=G y c;ext
     ·have:=up y c;ext
    rw [E2];refine rD g ?_;rw [<-E2];exact pm.map _
   ·exact Asc.ins (by rw [GC];exact h.asc) G up
   ·rw [<-pm.length_eq,Bp];exact Nat.succ_le_succ nl
  ·have q0:q.1=(0,1):=by
    have:=Bool.eq_false_iff.mpr cc;rw [Bool.not_eq_false'] at this;exact nX this
   rw [E2];exact h.g.skip (.inl (by rw [q0];exact Hm 1))
 refine Cq (Az (AN rfl (Dd (AN rfl ⟨_,_,rfl,S,⟨_,_,rfl,rfl,_,rfl,Ag (λc1=>?_) (λc1=>?_)⟩⟩))))
 ·have I:f<xs.length:=by have:=nX c1;omega
  obtain ⟨y,u,t,cy,wy,ey,a0,ao,Py⟩:=h.lg.get (AZ I);have a6:P_ xs (f:Int)=some (V.ref t):=Ca (j:=f) rfl (by rw [AZ I,ey]);refine Cq (Az (Az (Az (AN rfl (AN rfl ⟨_,_,_,_,rfl,rfl,S,a6,M_ ⟨_,_,_,_,rfl,rfl,a0,rfl,AN rfl ?_⟩⟩)))));refine ⟨_,_,decide (y.1=q.1),Eu ⟨cy,rfl,ao⟩,Eu ⟨c,rfl,hc⟩,aP _ 7,aP _ 7,?_,_,rfl,Ag (λc2=>?_) (λc2=>Y H (Same.refl H) λy' a7=>?_)⟩
  ·rw [decide_eq_true_eq];exact ⟨λz=>by rw [z],MM⟩
  ·have ye:y.1=q.1:=nX c2;have a8:=Mf u;obtain ⟨z1,h1,n1⟩:=Py;obtain ⟨z2,h2,n2⟩:=Pw;have my:=A4 u;obtain ⟨sy,yb⟩:=h.rz y my;have yl:=sy.len;refine ⟨_,rfl,?_⟩;refine CL (Az (Az (AN rfl (AN rfl ⟨_,_,_,_,rfl,rfl,S,a6,M_ ⟨_,_,_,_,rfl,rfl,a0,rfl,AN rfl ⟨_,_,z1,z2,_,_,_,_,_,_,rfl,h1,h2,n1,n2,sy.g,gq,⋯,⋯,⋯,⋯,⋯,⋯,λr3 R U J P3 G3 l3 e3=>⟨BC,λO ap=>?_⟩⟩⟩⟩))));have s4:=AL ap (.tup [.ref c,.ref r3]);have C:(upd U O (.tup [.ref c,.ref r3])) O=some (HO.tup [V.ref c,V.ref r3]):=upd_same;have m:=J.trans s4;have P4:=P3.same s4;generalize upd U O (.tup [.ref c,.ref r3])=H4 at C m P4 ⊢;have F:=m _ _ S;refine ⟨_,rfl,_,rfl,_,_,_,f,rfl,rfl,F,FQ rfl I,?_⟩;have t5:Tp H4 (upd H4 r (.lst (xs.set f (V.ref O)))):=Gn F;have ab:=h.lg.tp (E_ m);have ar:=(ab.cut f).1;have b0:=(ab.cut (f+1)).2;have es:xs.set f (V.ref O)=xs.take f++V.ref O::xs.drop (f+1):=by rw [List.set_eq_take_append_cons_drop,nV I]
   have me:∀ v∈N.take f++(q.1,R)::N.drop (f+1),v∈N\/v=(q.1,R):=λv hv=>by
    rcases CO.mp hv with c | c
    ·exact .inl (FX c)
    ·rcases Bc.mp c with c | c
     ·exact .inr c
     ·exact .inl (List.mem_of_mem_drop c)
   have aj:=h.asc;rw [a8] at aj;obtain ⟨a1,a2,a3⟩:=List.pairwise_append.mp aj;obtain ⟨a4,a5⟩:=Eb.mp a2;refine k _ _ (N.take f++(q.1,R)::N.drop (f+1)) (λb o B=>(Ad (BO B r0)).trans (m _ _ (s0 _ _ B))) upd_same ⟨?_,λv hv=>?_,λv hv=>?_,?_,?_,?_⟩
   ·rw [es] at t5 ⊢;exact (Lgs.app ar (vs:=V.ref O::xs.drop (f+1)) (M:=(q.1,R)::N.drop (f+1)) ⟨⟨O,c,r3,rfl,C,m _ _ hc,P4⟩,b0⟩).tp t5
   ·rcases me v hv with c | c
    ·exact h.lo v c
    ·rw [c];exact ⟨lq,G3.low,G3.nz⟩
   ·rcases me v hv with c | c
    ·exact h.rz.mono ⋯ v c
    ·rw [c];exact ⟨sy.mul ⋯ l8 G3 l3,b1,b2⟩
   ·rw [E2];have g:=h.g.put (c:=val q.1) ms (AX.mpr ⟨(val y.1,sr y.2),AX.mpr ⟨y,my,rfl⟩,by rw [ye]⟩)
    have al:∀ {A:cO},(∀ a∈A,val a.1≠val q.1)->(lv A).map (λx=>if x.1=val q.1 then (x.1,x.2*sr q.2) else x)=lv A:=λ{A} hA=>by
     conv=>rhs;rw [<-List.map_id (lv A)]
     refine Ce λx hx=>?_;obtain ⟨a,P,rfl⟩:=AX.mp hx;exact nU (hA a P)
    have ee:(lv N).map (λx=>if x.1=val q.1 then (x.1,x.2*sr q.2) else x)=lv (N.take f++(q.1,R)::N.drop (f+1)):=by
     conv=>lhs;rw [a8,UD,By,al λa P=>by have:=G a P;grind]
     rw [UD];congr 1;show (if val y.1=val q.1 then (val y.1,sr y.2*sr q.2) else (val y.1,sr y.2))::(lv (N.drop (f+1))).map _=(val q.1,sr R)::lv (N.drop (f+1));rw [al λa P=>by have:=a4 a P;rw [ye] at this;ext,nV (by rw [ye]),Ez e3,ye]
    rw [<-ee];exact g
   ·refine List.pairwise_append.mpr ⟨a1,Eb.mpr ⟨λb B=>?_,a5⟩,λa P b B=>?_⟩
    ·show val q.1<val b.1;rw [<-ye];exact a4 b B
    ·rcases Bc.mp B with c | c
     ·rw [c];exact G a P
     ·exact a3 a P b (A3 _ c)
   ·rw [Bp,CP,CG,List.length_drop];omega
  ·rw [u] at a7;cases a7;exact λz=>c2 (nW z)
 ·have ge:xs.length<=f:=by have:=nZ (Bool.eq_false_iff.mpr c1);omega
  refine Y H (Same.refl H) λy u=>?_;have:=(BK.mp u).1;omega
def rO (h:Li K vs H Q E):xP K { nx:=λ_ b=>Q .non b,rt:=Q } (L2.start ["_law_pairs","_law_rows","_law_c","_law_part","_law_place"] vs) H:=by
 obtain ⟨p,X,L,rfl,hp,Y,oL,zL,l7,k⟩:=h;refine ⟨sz ∅,λr Z=>?_⟩;have s1:=AL Z (.lst []);have h1:(upd H r (.lst [])) r=some (HO.lst []):=upd_same;generalize upd H r (.lst [])=H1 at s1 h1 ⊢;have wl:=Y.len;show Rc K _ _ _;refine Hk (AN rfl ⟨_,rfl,⟨_,SqL.of (s1 _ _ hp)⟩,ForL.by (xs:=X) (λi m b=>∃ (g v A:d7) (d:c_) (N:cO),m=[some (.ref p),some (.ref r),g,v,A]/\Same H b/\b r=some (.lst d)/\La b i (L.take i) d N) ⟨none,none,none,[],[],rfl,s1,h1,⟨trivial,(λ_ h=>nomatch h),(λ_ h=>nomatch h),Sr.Gth.nil,.nil,AR _⟩⟩ ?_ ?_ ?_⟩)
 ·rintro i m b _ ⟨g,v,A,d,N,rfl,s,_⟩;exact SqL.of (s _ _ hp)
 ·rintro i x m J hx ⟨g,v,A,d,N,rfl,I,n,o⟩;have lt:i<X.length:=(BK.mp hx).1;obtain ⟨q,hq,t,c,w,rfl,ht,hc,Pw⟩:=(Y.tp (E_ I)).get hx;have mq:=A4 hq;obtain ⟨z1,z2,z3,z4,z5⟩:=zL q mq;have M:=(oL q mq).1;have xl:=o.lg.len;refine ⟨_,_,rfl,ht,rfl,_,_,rfl,_,_,rfl,rfl,?_⟩;show Ra K _ _ _
  have C:∀ e:Nat,e<=N.length->(∀ a∈N.take e,val a.1<val q.1)->(∀ y,N[e]?=some y->¬ val y.1<val q.1)->Lv K { nx:=λm b=>∃ (g v A:d7) (d:c_) (N:cO),m=[some (.ref p),some (.ref r),g,v,A]/\Same H b/\b r=some (.lst d)/\La b (i+1) (L.take (i+1)) d N,rt:=Q,ct:=λm b=>∃ (g v A:d7) (d:c_) (N:cO),m=[some (.ref p),some (.ref r),g,v,A]/\Same H b/\b r=some (.lst d)/\La b (i+1) (L.take (i+1)) d N,bk:=Rb K { nx:=λ_ b=>Q .non b,rt:=Q } } [some (.ref p),some (.ref r),some (.ref c),some (.ref w),some (.int e)] J:=λe u b1 b2=>
   rM I Z n o u b1 b2 hc Pw M z1 z2 z3 z4 z5 ⋯ λb O N' a1 a2 a3=>⟨_,_,_,O,N',rfl,a1,a2,by rw [EX hq];exact a3⟩
  refine Bu (M_ ?_);refine D5 (λj m b=>∃ e:Nat,e<=N.length/\(∀ a∈N.take e,val a.1<val q.1)/\m=[some (.ref p),some (.ref r),some (.ref c),some (.ref w),some (.int e)]/\J=b/\j=d.length - e) d.length ⟨0,Ae _,(λ_ h=>nomatch h),rfl,rfl,rfl⟩ ?_;rintro j m b ⟨e,u,B,rfl,rfl,rfl⟩;refine Cq (Az (AN rfl (Dd (AN rfl ⟨_,_,rfl,n,⟨_,_,rfl,rfl,_,rfl,Ag (λP=>?_) (λP=>C e u B λy D=>?_)⟩⟩))))
  ·have F:e<d.length:=by have:=nX P;omega
   obtain ⟨y,D,ty,cy,wy,ey,R,S,Py⟩:=o.lg.get (AZ F);have my:=A4 D;have T:P_ d (e:Int)=some (V.ref ty):=Ca (j:=e) rfl (by rw [AZ F,ey]);obtain ⟨_,U,W⟩:=o.rz y my;have ly:=(o.lo y my).1;refine CL (Az (Az (AN rfl (AN rfl ⟨_,_,_,_,rfl,rfl,n,T,M_ ⟨_,_,_,_,rfl,rfl,R,rfl,AN rfl ⟨_,_,_,_,_,_,rfl,S,hc,U.mono ∅,W.mono ∅,z4.mono ∅,z5.mono ∅,_,rfl,Ag (λg=>?_) (λg=>C e u B λy' G=>?_)⟩⟩⟩))))
   ·refine ⟨_,λ_ _ h=>h,⟨_,rfl,_,_,rfl,rfl,?_⟩⟩;refine ⟨d.length - (e+1),⋯,e+1,⋯,λa ha=>?_,rfl,rfl,rfl⟩;rw [EX D] at ha;rcases CO.mp ha with c | c
    ·exact B a c
    ·rw [Aw.mp c];exact (UC ly M).mp (nX g)
   ·rw [D] at G;cases G;exact λz=>g (nW ((UC ly M).mpr z))
  ·have ge:d.length<=e:=by have:=nZ (Bool.eq_false_iff.mpr P);omega
   have:=(BK.mp D).1;omega
 ·rintro m J ⟨g,v,A,d,N,rfl,I,n,o⟩;rw [wl,CQ] at o;refine CU (Dd (AN rfl ⟨_,_,rfl,n,λf hf=>?_⟩));have s3:=AL hf (.tup d);exact k f N _ (I.trans s3) ⟨d,upd_same,o.lg.tp (E_ s3),o.lo⟩ (o.g.can (.refl _) (rL o.asc))
def UE {K:W.Frag} {c:TE} {g:TG} {d rest:TS} {D:Ends} {b:L2.St} {H:Hp} (h:c b H (λx e=>∃ a,x=.ref a/\(∃ f,SqT K e a f)/\ForT K a g d { D with nx:=rest D } b e)):AG (BR (Dp K c) g d) rest D b H:=h
def rP {l m:cV} {g:d8} (Gl:Gq 100 100 l) (f:Gq 100 100 m) (y:l≠[]) (q:m≠[]) (A:l.length<=8) (u:m.length<=8) (R:RC (co (AS l)) (co (AS m)) g) (P:Prim g) :
  Gq 196 196 (I_ g)/\I_ g≠[]/\(I_ g).length<=8/\MR (C_ (I_ g)) (C_ l)/\MR (C_ (I_ g)) (C_ m)/\(∃ n,Sr.Ms n (sr (I_ g)))/\∀ c d,(∀ k,C_ l k=cv (C_ c) (C_ (I_ g)) c.length k)->(∀ k,C_ m k=cv (C_ d) (C_ (I_ g)) d.length k)->Sr.Cs (sr c) (sr d):=by
 have a:=R.lz;have j:Fp 196 (AS m):=Im f q (n:=8) (e:=4) u ∅;have o:Lz (AS m):=DP (EW f.low f.nz) λz=>q (CB.mp (by rw [<-B8,z];rfl));have B:g.length<=m.length:=by have:=FR a o R.right;rwa [B8] at this
 have p:=j g a P R.right;have r:I_ g≠[]:=B4.mp (by rw [DQ];exact a.1);have h:C_ (I_ g) ((I_ g).length - 1)≠0:=Fz (FT a) (Fy a) r;refine ⟨⟨FT a,Fy a,_,(Ii a.2 (HW p)).1,(p (g.length - 1)).le ⋯,(Ii a.2 (HW p)).2⟩,r,by rw [DQ];omega,MR.of (HY a) (F1 Gl.low) (FU a) R.left,MR.of (HY a) (F1 f.low) (FU a) R.right,⟨g.length - 1,?_,λk hk=>?_⟩,λc d v w=>sr_cop.mp ?_⟩
 ·show C_ (I_ g) (g.length - 1)=1;rw [FU a];exact E8 _ (Ap a.2)
 ·exact CY (by rw [DQ];have:=a.1;omega)
 ·obtain ⟨U,W,x⟩:=S3 Gl.low f.low R;exact Sz (t:=rw' c) (b:=rw' d) (HZ c) (HZ d) h (λi C=>CY ⋯) (λk=>(v k).trans (Hb _ _ _)) (λk=>(w k).trans (Hb _ _ _)) x
def Lgs.snoc {H:Hp} {a:c_} {L:cO} {t c w:Addr} {q:Nu×cV} (h:Lgs H a L) (b:H t=some (.tup [.ref c,.ref w])) (d:Nm H c q.1.1 q.1.2) (e:Pl H w q.2):Lgs H (a++[.ref t]) (L++[q]):=h.app (vs:=[.ref t]) (M:=[q]) ⟨⟨t,c,w,rfl,b,d,e⟩,trivial⟩
def rQ {x y:Nat} {q r:Nu} (f:0<q.2) (g:0<r.2) (a:Bd x q.1) (b:Bd y q.2) (c:Bd x r.1) (d:Bd y r.2):Bd (x+y+1) (L_ q r).1/\Bd (y+y) (L_ q r).2:=by
 have e:=CM f g;have w:=IL (Co e) e (Fl (n:=q.1*r.2+r.1*q.2) e);exact ⟨(Bd.add (a.mul d) (c.mul b)).le w.1,(b.mul d).le w.2⟩
def rR {x y:Nat} {q r:Nu} (f:0<q.2) (g:0<r.2) (a:Bd x q.1) (b:Bd y q.2) (c:Bd x r.1) (d:Bd y r.2):Bd (x+x) (G_ q r).1/\Bd (y+y) (G_ q r).2:=by
 have e:=CM f g;have w:=IL (Co e) e (Fl (n:=q.1*r.1) e);exact ⟨(a.mul c).le w.1,(b.mul d).le w.2⟩
def Pts2.row {R:cX} (P:Pts2 R) {φ:Rat->Rat->Bool} {l:cV} (a:Af l) (b:Nz l) (e:sr l=Sr.Pi φ R):Gq 100 100 l/\l.length<=8/\l≠[]/\∃ n,Sr.Ms n (sr l):=by
 obtain ⟨c,d,G,f⟩:=P.sz φ;have g:c=l:=He G.low a G.nz b (d.trans e.symm);subst g;obtain ⟨n,m,_⟩:=Sr.Pi.ms φ P.pr;rw [<-e] at m;exact ⟨G,f,λz=>m.ne (by rw [z];exact TV),n,m⟩
noncomputable def cj (M:cO):List Rat:=(M.map λq=>val q.1).reverse
def rS (M:cO) (y:Nu×cV):cj (M++[y])=val y.1::cj M:=by unfold cj;rw [By,List.reverse_append];rfl
def Pz.app {d:Nat} {L M:cO} (h:Pz d L) (k:Pz d M):Pz d (L++M):=λq a=>(CO.mp a).elim (h q) (k q)
structure Lp (H:Hp) (R:cX) (β c:Rat) (i:Nat) (ns:List Rat) (u:Addr) (lf:cV) (xs:c_) (L:cO):Prop where
 lg:Lgs H xs L
 lo:LgO L
 pz:Pz 0 L
 len:L.length=2*i
 eq:lv L=Sr.PcsL R β c ns
 pl:Pl H u lf
 low:Af lf
 nz:Nz lf
 el:sr lf=Sr.Pi (λa b=>decide (b=β) && !decide (a∈ns)) R
def rT {K:W.Frag} {H0 H:Hp} {D:Ends} {l c w s u n v:Addr} {x7:d7} {R:cX} {j:Rat} {q:Nu} {i:Nat} {F:List Rat} {lf:cV} {xs:c_} {L:cO} {y:Nu×cV} (P:Pts2 R) (s0:Same H0 H) (a0:H0 s=none) (hs:H s=some (.lst xs)) (h:Lp H R j (val q) i F u lf xs L) (i7:i<7) (hc:Nm H c q.1 q.2) (lq:Low q.1 q.2) (bq:Bd 40 q.1/\Bd 40 q.2) (hn:Nm H n y.1.1 y.1.2) (hv:Pl H v y.2) (G:Low y.1.1 y.1.2/\Af y.2/\Nz y.2) (I:Bd 40 y.1.1) (J:Bd 40 y.1.2) (ey:sr y.2=Sr.wa R (val y.1)) (nn:val y.1∉F)
  (nx:∀ H' u' b0 b1 a3 L',Same H0 H'->H' s=some (.lst a3)->Lp H' R j (val q) (i+1) (val y.1::F) u' b1 a3 L'->D.nx [some (.ref l),some (.ref c),some (.ref w),some (.ref s),some (.ref u'),some (.ref n),some (.ref v),b0] H'):RN K D [some (.ref l),some (.ref c),some (.ref w),some (.ref s),some (.ref u),some (.ref n),some (.ref v),x7] H:=by
 obtain ⟨Gl,l8,l0,n1,m1⟩:=P.row h.low h.nz h.el;obtain ⟨Gy,y8,y0,n2,m2⟩:=P.row G.2.1 G.2.2 ey;obtain ⟨us,hu,hU⟩:=h.pl;obtain ⟨ys,hy,hY⟩:=hv;have b2:Fp 196 (AS lf):=Im Gl l0 (n:=8) (e:=4) l8 ∅;have b3:Fp 196 (AS y.2):=Im Gy y0 (n:=8) (e:=4) y8 ∅;refine FP (AN rfl (AN rfl ⟨_,_,us,ys,lf,y.2,100,100,196,4,14,rfl,hu,hy,hU,hY,Gl,Gy,∅,∅,⋯,⋯,λ_ _=>⟨b2,b3⟩,⋯,⋯,∅,∅,λz=>absurd z l0,λ_ g b4 Pg r zs H3 s3 hr hz=>?_⟩));obtain ⟨U,g0,g8,M1,M2,⟨m,mg⟩,cs⟩:=rP Gl Gy l0 y0 l8 y8 b4 Pg;have bc:0<(I_ g).length:=B4.mpr g0;refine FP (AN rfl (AN rfl ⟨_,_,us,zs,lf,I_ g,100,100,196,196,rfl,s3 _ _ hu,hr,hU.tp (E_ s3),hz,Gl,U,g0,⋯,⋯,⋯,⋯,∅,∅,M1,λu4 X H4 s4 P0 b5 b6 bb e0=>?_⟩));have p:=s3.trans s4;show RM K _ _ _;refine ⟨_,rfl,.inl ⟨rfl,_,SqL.of (p _ _ hs)⟩,EY (CD (AN rfl (CL (AN rfl (AN rfl ⟨_,_,ys,zs,y.2,I_ g,100,100,196,196,rfl,p _ _ hy,s4 _ _ hr,hY.tp (E_ p),hz.tp (E_ s4),Gy,U,g0,⋯,⋯,⋯,⋯,∅,∅,M2,λv5 C H5 s5 P1 lo1 a4 b7 e1=>⟨BC,λk b9=>?_⟩⟩)))))⟩;have Y:=AL b9 (.tup [.ref n,.ref v5]);have a5:(upd H5 k (.tup [.ref n,.ref v5])) k=some (HO.tup [V.ref n,V.ref v5]):=upd_same;have d:=p.trans (s5.trans Y);have a6:=P0.same (s5.trans Y);have a7:=P1.same Y;have ab:=(s4.trans (s5.trans Y)) _ _ hr;have aj:=hz.tp (E_ (s4.trans (s5.trans Y)));generalize upd H5 k (.tup [.ref n,.ref v5])=Z at Y a5 d a6 a7 ab aj ⊢;have xl:=h.lg.len;have Ll:=h.len;have al:=d _ _ hs;refine ⟨_,_,_,rfl,rfl,al,Hn ⋯,?_⟩;have A:Tp Z (upd Z s (.lst (xs++[V.ref k]))):=Gn al;have M:(upd Z s (.lst (xs++[V.ref k]))) s=some (HO.lst (xs++[V.ref k])):=upd_same;have am:Same H0 (upd Z s (.lst (xs++[V.ref k]))):=λb o N=>(Ad (BO N a0)).trans (d _ _ (s0 _ _ N));generalize upd Z s (.lst (xs++[V.ref k]))=H7 at A M am ⊢;show RK K _ _ _;refine ⟨_,rfl,.inl ⟨rfl,_,SqL.of M⟩,EY (CD (CL (AN rfl (AN rfl ⟨_,_,_,_,_,_,rfl,A _ _ (d _ _ hn),A _ _ (d _ _ hc),G.1.pos,lq.pos,I.mono ∅,J.mono ∅,bq.1.mono ∅,bq.2.mono ∅,λB ba=>AN rfl ⟨BC,λt8 an=>?_⟩⟩))))⟩;have s8:=(AL ba (.tup [.int (L_ (y.1.1,y.1.2) (q.1,q.2)).1,.int (L_ (y.1.1,y.1.2) (q.1,q.2)).2])).trans (AL an (.tup [.ref B,.ref r]));have ao:=AL an (.tup [.ref B,.ref r]) _ _ (upd_same (H:=H7) (a:=B) (o:=HO.tup [V.int (L_ (y.1.1,y.1.2) (q.1,q.2)).1,V.int (L_ (y.1.1,y.1.2) (q.1,q.2)).2]));have ap:=upd_same (H:=upd H7 B (.tup [.int (L_ (y.1.1,y.1.2) (q.1,q.2)).1,.int (L_ (y.1.1,y.1.2) (q.1,q.2)).2])) (a:=t8) (o:=HO.tup [V.ref B,V.ref r]);show FJ _ _ (upd (upd H7 B (.tup [.int (L_ (y.1.1,y.1.2) (q.1,q.2)).1,.int (L_ (y.1.1,y.1.2) (q.1,q.2)).2])) t8 (.tup [.ref B,.ref r])) _;generalize upd (upd H7 B (.tup [.int (L_ (y.1.1,y.1.2) (q.1,q.2)).1,.int (L_ (y.1.1,y.1.2) (q.1,q.2)).2])) t8 (.tup [.ref B,.ref r])=H8 at s8 ao ap ⊢;have ar:=s8 _ _ M;refine ⟨_,_,_,rfl,rfl,ar,Hn (by rw [Bp];show xs.length+1<_;omega),?_⟩;have O:Tp H8 (upd H8 s (.lst ((xs++[V.ref k])++[V.ref t8]))):=Gn ar;have f:Tp Z (upd H8 s (.lst ((xs++[V.ref k])++[V.ref t8]))):=λb o N=>O b o (s8 _ _ (A b o N));have z0:=Ez e0;have z1:=Ez e1;have pr:=P.pr;have s1:Sr.Pi (λa b=>decide (b=j) && !decide (a∈F)) R=sr (I_ g)*sr X:=by rw [<-h.el,z0];ext
 have t1:Sr.Pi (λa _=>decide (a=val y.1)) R=sr (I_ g)*sr C:=by
  have:sr y.2=Sr.Pi (λa _=>decide (a=val y.1)) R:=ey;rw [<-this,z1];ext
 have eg:=Sr.Pi.common pr mg (C3 X) (C3 C) (cs X C e0 e1) s1 t1;have k0:sr X=Sr.Pi (λa b=>(decide (b=j) && !decide (a∈F)) && !decide (a=val y.1)) R:=Sr.Pi.over (φ:=λa b=>decide (b=j) && !decide (a∈F)) (ψ:=λa _=>decide (a=val y.1)) pr (C3 X) (by rw [<-eg,s1];ext)
 have S:sr (I_ g)=Sr.Pi (λa b=>decide (a=val y.1) && decide (b=j)) R:=by
  rw [eg];refine Sr.Pi.congr λx _=>?_;by_cases a1:x.1=val y.1 <;> by_cases a2:x.2.1=j <;> simp [a1,a2,nn]
 have k1:sr C=Sr.Pi (λa b=>decide (a=val y.1) && !decide (b=j)) R:=Sr.Pi.over (φ:=λa _=>decide (a=val y.1)) (ψ:=λ_ b=>decide (b=j)) pr (C3 C) (by rw [<-S,t1];ext);obtain ⟨GR,R8,_,n3,m3⟩:=P.row lo1 a4 k1;obtain ⟨GG,G8,_,_⟩:=P.row U.low U.nz S;have nb:=rQ (q:=y.1) (r:=q) G.1.pos lq.pos I J bq.1 bq.2;have nl:Low (L_ y.1 q).1 (L_ y.1 q).2:=Co (CM G.1.pos lq.pos);refine nx _ u4 _ X _ (L++[(y.1,C)]++[(L_ y.1 q,I_ g)]) (λb o N=>(Ad (BO N a0)).trans (s8 _ _ (am _ _ N))) upd_same ⟨?_,?_,?_,?_,?_,a6.tp f,b5,b6,?_⟩
 ·exact (((h.lg.tp (E_ d)).tp f).snoc (q:=(y.1,C)) (f _ _ a5) (f _ _ (d _ _ hn)) (a7.tp f)).snoc (q:=(L_ y.1 q,I_ g)) (O _ _ ap) (O _ _ ao) ⟨zs,f _ _ ab,aj.tp f⟩
 ·refine (h.lo.app λx T=>?_).app λx T=>?_
  ·rw [Aw.mp T];exact ⟨G.1,lo1,a4⟩
  ·rw [Aw.mp T];exact ⟨nl,U.low,U.nz⟩
 ·refine (h.pz.app λx T=>?_).app λx T=>?_
  ·rw [Aw.mp T];exact ⟨GR,R8,⟨n3,m3⟩,I.mono ∅,J.mono ∅⟩
  ·rw [Aw.mp T];exact ⟨GG,G8,⟨m,mg⟩,nb.1.mono ∅,nb.2.mono ∅⟩
 ·rw [Bp,Bp,Ll];show 2*i+1+1=_;omega
 ·rw [E2,E2,h.eq,List.append_assoc];show Sr.PcsL R j (val q) F++[(val y.1,sr C),(val (L_ y.1 q),sr (I_ g))]=_;rw [k1,S,Op G.1.pos lq.pos];rfl
 ·rw [k0];refine Sr.Pi.congr λx _=>?_;by_cases a1:x.1=val y.1 <;> by_cases a2:x.2.1=j <;> simp [a1,a2]
def rV (h:Ln K vs H Q E):yG K { nx:=λ_ e=>Q .non e,rt:=Q } (L2.start ["logs","c","part","pieces","left","number","v","shared"] vs) H:=by
 obtain ⟨l,c,w,M,q,v,R,β,rfl,⟨ws,hl,PL,oL⟩,p,P,hc,X,nq,Pw,Y,Z,ev,k⟩:=h;obtain ⟨F,m7⟩:=T3 P oL p;have bq:=nq.low X;have wl:=PL.len;refine ⟨sz ∅,λs hs=>?_⟩;have s1:=AL hs (.lst []);have h1:(upd H s (.lst [])) s=some (HO.lst []):=upd_same;generalize upd H s (.lst [])=H1 at s1 h1 ⊢;show RQ K _ _ _;refine Bu (AN rfl ?_);have nd:(M.map λq=>val q.1).Nodup:=by have:=p.nodup;unfold lv at this;rw [B3] at this;exact this
 refine UE (AN rfl ⟨_,rfl,⟨_,SqT.of (s1 _ _ hl)⟩,ForT.by (xs:=ws) (λi O e=>∃ (S T U:d7) (u:Addr) (A:cV) (j:c_) (L:cO),O=[some (.ref l),some (.ref c),some (.ref w),some (.ref s),some (.ref u),S,T,U]/\Same H e/\e s=some (.lst j)/\Lp e R β (val q) i (cj (M.take i)) u A j L) ⟨none,none,none,w,v,[],[],rfl,s1,h1,⟨trivial,(λ_ h=>nomatch h),(λ_ h=>nomatch h),rfl,rfl,Pw.same s1,Y,Z,?_⟩⟩ ?_ ?_ ?_⟩)
 ·rw [ev];refine Sr.Pi.congr λx _=>?_;show _=(_ && !decide (x.1∈[]));simp
 ·rintro i O e _ ⟨S,T,U,u,A,j,L,rfl,s,_⟩;exact s _ _ hl
 ·rintro i x O W m ⟨S,T,U,u,A,j,L,rfl,C,B,b⟩;have lt:i<ws.length:=(BK.mp m).1;obtain ⟨y,G,t,n,v2,rfl,ht,hn,Pv⟩:=(PL.tp (E_ C)).get m;have my:=A4 G;obtain ⟨_,_,_,y1,y2,_,y4⟩:=F y my;refine ⟨_,_,rfl,ht,rfl,_,_,rfl,_,_,rfl,rfl,?_⟩;refine rT P C hs B b ⋯ (C _ _ hc) X bq hn Pv (oL y my) y1 y2 y4 (λz=>?_) λe u' a0 a4 a5 L' a1 a2 a3=>⟨_,_,a0,u',a4,a5,L',rfl,a1,a2,by rw [EX G,rS];exact a3⟩;unfold cj at z;rw [List.mem_reverse] at z;rw [Mf G,By] at nd;exact (List.nodup_append.mp nd).2.2 _ z _ (Au ..) rfl
 ·rintro O W ⟨S,T,U,u,A,j,L,rfl,C,B,b⟩;rw [wl,CQ] at b;show RP K _ _ _;have xl:=b.lg.len;have Ll:=b.len;obtain ⟨Gl,l8,l0,n1,m1⟩:=P.row b.low b.nz b.el;refine CU (Bw (Az (AN rfl (Jk (CD (AN rfl (AN rfl ⟨BC,λt ht=>⟨Dc,λf hf=>?_⟩⟩)))))));have D:=(AL ht (.tup [.ref c,.ref u])).trans (AL hf (.lst [.ref t]));have I:=AL hf (.lst [.ref t]) _ _ (upd_same (H:=W) (a:=t) (o:=HO.tup [V.ref c,V.ref u]));have J:=upd_same (H:=upd W t (.tup [.ref c,.ref u])) (a:=f) (o:=HO.lst [V.ref t]);generalize upd (upd W t (.tup [.ref c,.ref u])) f (.lst [.ref t])=H3 at D I J ⊢;refine ⟨_,_,_,_,rfl,rfl,D _ _ B,J,sz (by show j.length+1<=_;omega),λg hg=>?_⟩;have s4:=AL hg (.lst (j++[V.ref t]));refine ⟨g,j++[V.ref t],L++[(q,A)],rfl,upd_same,((b.lg.tp (E_ D)).snoc (q:=(q,A)) I (D _ _ (C _ _ hc)) (b.pl.same D)).tp (E_ s4),b.lo.app λx m=>?_,b.pz.app λx m=>?_,by rw [Bp,Ll];show 2*M.length+1<=15;omega,λr M' e s5 lg N=>k r M' e ((C.trans D).trans (s4.trans s5)) lg (N.congr λd d0=>?_)⟩
  ·rw [Aw.mp m];exact ⟨X,b.low,b.nz⟩
  ·rw [Aw.mp m];exact ⟨Gl,l8,⟨n1,m1⟩,bq.1.mono ∅,bq.2.mono ∅⟩
  ·rw [E2,b.eq,show sr A=_ from b.el];refine Sr.wa_plusL d0 (List.pairwise_reverse.mpr (nd.imp Ne.symm)) (λn hn=>?_) λx m x0=>?_
   ·obtain ⟨y,G,rfl⟩:=AX.mp (List.mem_reverse.mp hn);exact (F y G).2.2.2.2.2.1
   ·have:=p.keys P.pr x m x0;unfold lv at this;rw [B3] at this;exact List.mem_reverse.mpr this
noncomputable def pk (k:Nat):List (Sr×Nat)->Sr
 | []=>1
 | u::U=>(if u.2=k then u.1 else 1)*pk k U
noncomputable def Uf (U:List (Sr×Nat)):List (Sr×Nat):=U.filter λu=>decide (u.2≠0)
noncomputable def Bk (K:Nat) (U:List (Sr×Nat)):List Sr:=(List.range K).map λk=>pk (k+1) U
def Ho (K:Nat) (U:List (Sr×Nat)):(Bk K U).length=K:=by unfold Bk;rw [AJ,Bm]
def KM {K i:Nat} (h:i<K) (U:List (Sr×Nat)):(Bk K U)[i]?=some (pk (i+1) U):=by
 unfold Bk;rw [Ac,DU h];rfl
def rW {K m:Nat} {f:Sr} {U:List (Sr×Nat)} (a:m+1<=K):Bk K ((f,m+1)::U)=(Bk K U).set m ((Bk K U).getD m 1*f):=by
 refine EJ λi=>?_;rcases A5 i K with c | c
 ·rw [KM c];show some ((if m+1=i+1 then f else 1)*pk (i+1) U)=_;by_cases e:i=m
  ·subst e;rw [F8 (by rw [Ho];exact c),AQ,KM c,nV rfl];exact congrArg some (show f*pk (i+1) U=pk (i+1) U*f by ext)
  ·rw [List.getElem?_set_ne (Ne.symm e),KM c,nU ⋯];exact congrArg some (show 1*pk (i+1) U=pk (i+1) U by ext)
 ·rw [BL (by rw [Ho];exact c),BL (by rw [List.length_set,Ho];exact c)]
def rX {K:Nat} {f:Sr} {U:List (Sr×Nat)}:Bk K ((f,0)::U)=Bk K U:=by
 unfold Bk;refine Ce λk _=>?_;show (if 0=k+1 then f else 1)*pk (k+1) U=pk (k+1) U;rw [nU ⋯];ext
theorem rY {A:List Sr} (h:∀ a∈A,a=1):∀ s,B2 s A=1/\Bf A=1:=by
 induction A with
 | nil=>exact λ_=>⟨rfl,rfl⟩
 | cons a A b=>
   intro s;obtain ⟨c,d⟩:=b (λx f=>h x (A3 _ f)) (s+1);have e:=h a (Au ..);constructor
   ·show a ^ s*B2 (s+1) A=1;rw [c,e,Th];ext
   ·show a*Bf A=1;rw [d,e];ext
theorem Mg {K:Nat}:∀ {U:List (Sr×Nat)},(∀ u∈U,u.2<=K)->B2 1 (Bk K U)=Bv (Uf U)/\Bf (Bk K U)=Dr (Uf U)
 | [],_=>rY (λa c=>by
   obtain ⟨k,_,rfl⟩:=AX.mp c;rfl) 1
 | (f,0)::U,h=>by
   rw [rX];exact Mg λu b=>h u (A3 _ b)
 | (f,m+1)::U,h=>by
   have d:m+1<=K:=h _ (Au ..);obtain ⟨e,g⟩:=Mg (K:=K) (U:=U) λu b=>h u (A3 _ b);rw [rW d,tR (by rw [Ho];omega),tS (by rw [Ho];omega),e,g];constructor
   ·show f ^ (1+m)*Bv (Uf U)=f ^ (m+1)*Bv (Uf U);rw [Nat.add_comm]
   ·rfl
theorem Mh (k:Nat):∀ {U:List (Sr×Nat)},(∀ u∈U,∃ n,Sr.Ms (n+1) u.1)->∃ n,Sr.Ms n (pk k U)/\(n=0->∀ u∈U,u.2≠k)
 | [],_=>⟨0,Sr.Ms.one,λ_ _ h=>nomatch h⟩
 | u::U,h=>by
   obtain ⟨n,m,z⟩:=Mh k λx a=>h x (A3 _ a);obtain ⟨j,b⟩:=h u (Au ..);by_cases c:u.2=k
   ·refine ⟨j+1+n,?_,λe=>by omega⟩;unfold pk;rw [nV c];exact b.mul m
   ·refine ⟨n,?_,λe x a=>?_⟩
    ·unfold pk;rw [nU c];have:=Sr.Ms.one.mul m;rwa [Nat.zero_add] at this
    ·rcases Bc.mp a with y | y
     ·rw [y];exact c
     ·exact z e x y
theorem UF {k:Nat}:∀ {U:List (Sr×Nat)},(∀ u∈U,u.2≠k)->pk k U=1
 | [],_=>rfl
 | u::U,h=>by
   unfold pk;rw [nU (h u (Au ..)),UF λx a=>h x (A3 _ a)];ext
def rZ {p:cV} (m:Mo p):Sr.Ms (p.length - 1) (sr p):=by
 have:=B4.mpr m.ne;exact ⟨MN m.one,λk hk=>CY ⋯⟩
theorem qA {l:cV} {ps:List cU} {U:List (Sr×Nat)} {h:Rat} (P:Spt l ps) (R:h≠0) (e:sr l=Sr.num h*Bv (Uf U)) (r:sr l≠0) (F:Apt (Uf U)) (w:∀ u∈U,∃ n,Sr.Ms (n+1) u.1):(∀ i,(ps.map sr).getD i 1=pk (i+1) U)/\∀ u∈U,u.2<=ps.length:=by
 obtain ⟨K,G⟩:∃ K,∀ u∈U,u.2<=K:=by
  clear e F w
  induction U with
  | nil=>exact ⟨0,λ_ h=>nomatch h⟩
  | cons u U T=>
    obtain ⟨K,h⟩:=T;refine ⟨max K u.2,λx W=>?_⟩;rcases Bc.mp W with c | c
    ·rw [c];omega
    ·have:=h x c;omega
 obtain ⟨X,y⟩:=Mg G;have Y:=tT P r;have d:=Tg F;have Z:Bv (Uf U)≠0:=λz=>r (by rw [e,z];ext);have f:RadOf (sr l) (Dr (Uf U)):=by rw [e];exact d.smul
 obtain ⟨S,M,pS,pL,pM,e1,e2,cc⟩:=d;have cL:=Sr.simple_cop pS pL pM Z e1 e2 cc;have I:∀ k,∃ n,Sr.Ms n (pk k U):=λk=>let ⟨n,m,_⟩:=Mh k w;⟨n,m⟩
 have hB:Aps (Bk K U):=tU (λb hb=>by
  obtain ⟨k,_,rfl⟩:=AX.mp hb;obtain ⟨n,m⟩:=I (k+1);exact ⟨m.pol,m.ne⟩) (by rw [y];exact cL)
 obtain ⟨c,c0,o⟩:=P.full;obtain ⟨a,L,A,g,J⟩:=P.rad;have p:Sr.num c*B2 1 (ps.map sr)=Sr.num h*B2 1 (Bk K U):=by rw [<-To,<-o,e,X]
 obtain ⟨u,pu,eu⟩:=Tc r g f;obtain ⟨v,pv,ev⟩:=Tc r f g;have i:=Sr.num_inv A;have er:Bf (Bk K U)=u*Sr.num a*Bf (ps.map sr):=by rw [y,eu,J,MT];ext
 have B:Bf (ps.map sr)=Sr.num a⁻¹*v*Bf (Bk K U):=by
  have:Bf (ps.map sr)=Sr.num a⁻¹*L:=by
   rw [J,MT,show Sr.num a⁻¹*(Sr.num a*Bf (ps.map sr))=Sr.num a⁻¹*Sr.num a*Bf (ps.map sr) by ext,i];ext
  rw [this,ev,y];ext
 have C:=tQ Y hB c0 R p (pu.mul (Sr.Pol.num a)) ((Sr.Pol.num a⁻¹).mul pv) er B
 have bk:∀ i,(Bk K U).getD i 1=pk (i+1) U:=λi=>by
  rw [AQ];rcases A5 i K with c | c
  ·rw [KM c];rfl
  ·rw [BL (by rw [Ho];exact c)];exact (UF λu D z=>by have:=G u D;omega).symm
 have N:∀ i,(ps.map sr).getD i 1=pk (i+1) U:=λi=>by
  obtain ⟨x,x0,O⟩:=C i;rw [bk i] at O;obtain ⟨n,m⟩:=I (i+1)
  have:∃ n,Sr.Ms n ((ps.map sr).getD i 1):=by
   rcases A5 i ps.length with c | c
   ·rw [KI c];have mo:=P.each (ps.getD i []) (by rw [AQ,AZ c];exact DH c);exact ⟨_,rZ mo⟩
   ·rw [AQ,BL (by rw [AJ];exact c)];exact ⟨0,Sr.Ms.one⟩
  obtain ⟨n',m'⟩:=this;exact m'.uniq m x0 O
 refine ⟨N,λu D=>Classical.byContradiction λz=>?_⟩;obtain ⟨j,ej⟩:∃ j,u.2=j+1:=⟨u.2 - 1,⋯⟩;have q:=N j;rw [AQ,BL (by rw [AJ];omega)] at q;have q:(1:Sr)=pk (j+1) U:=q;obtain ⟨n,m,zz⟩:=Mh (j+1) w;cases n with
 | zero=>exact zz rfl u D ej
 | succ n=>exact m.ne_one q.symm
theorem UG {k:Nat}:∀ {R:cX} {U:List (Sr×Nat)},R.map (λq=>(q.2.2,q.2.1))=U.map (λu=>(u.1,(u.2:Rat)))->Sr.Pi (λ_ b=>decide (b=(k:Rat))) R=pk k U
 | [],[],_=>rfl
 | [],_::_,h=>nomatch h
 | _::_,[],h=>nomatch h
 | q::R,u::U,h=>by
   injection h with e f;injection e with a d;show (if decide (q.2.1=(k:Rat))=true then q.2.2 else 1)*Sr.Pi (λ_ b=>decide (b=(k:Rat))) R=(if u.2=k then u.1 else 1)*pk k U;rw [UG f];have a:q.2.2=u.1:=a;have d:q.2.1=(u.2:Rat):=d;rw [a,d];by_cases c:u.2=k
   ·rw [nV c,nV (nW (by rw [c]))]
   ·rw [nU c,nU (by simpa using λz=>c (Rat.natCast_inj.mp z))]
def qB:∀ q∈poolN,C_ q.2 q.1=1:=by decide +kernel
def Mi:∀ q∈poolN,rw' q.2∈Sr.poolQ:=by decide +kernel
def Mj:∀ q∈poolN,(∀ x∈q.2,0<x.2/\Int.gcd x.1 x.2=1)/\∀ x,q.2.getLast?=some x->x.1≠0:=by
 intro q b;refine ⟨λx a=>?_,λx a=>?_⟩
 ·have h:∀ q∈poolN,∀ x∈q.2,0<x.2/\Int.gcd x.1 x.2=1:=by decide +kernel
  exact h q b x a
 ·have h:∀ q∈poolN,q.2.getLast?=some (1,1):=by decide +kernel
  rw [h q b] at a;cases a;decide
def Ml {q:Nat×cV} (a:q∈poolN):Sr.Ms q.1 (sr q.2):=⟨qB q a,λk hk=>CY (by have:=(Hl q a).1;omega)⟩
def qC {p q:Nat×cV} (hp:p∈poolN) (f:q∈poolN) (n:p.2≠q.2):Sr.Cs (sr p.2) (sr q.2):=by
 rw [Gh,Gh];refine Sr.pool_cs (Mi p hp) (Mi q f) λz=>n ?_;obtain ⟨a,b⟩:=Mj p hp;obtain ⟨c,d⟩:=Mj q f;exact He (λx e=>⟨(a x e).1,(a x e).2⟩) (λx e=>⟨(c x e).1,(c x e).2⟩) b d (by rw [Gh,Gh,z])
structure Mq (d:Nat) (l:cV):Prop where
 g:Gq (10*d - 8+1) (2*d - 1+1) l
 ms:Sr.Ms d (sr l)
def qD {b c d e:Nat} {l m:cV} (Gl:Gq b c l) (a:Gq d e m):∃ R,Gq (b+d+l.length) (c+e) R/\sr R=sr l*sr m:=by
 obtain ⟨n,h,_⟩:=Gl.clr;obtain ⟨o,i,_⟩:=a.clr;have f:=CZ Gl.low;have g:=CZ a.low;have j:Af (ER l m (l.length+m.length)):=O3 f g
 have pv:∀ k,C_ (trim (ER l m (l.length+m.length))) k=cv (C_ l) (C_ m) l.length k:=λk=>by
  rw [HD j];exact O4 Gl.low a.low f g k
 refine ⟨trim (ER l m (l.length+m.length)),F2 (λq p=>j q (EQ p)) (GQ _) (CM f.1 g.1) (h.mul i) (N:=λk=>ps (AS l) (AS m) l.length k) (λk=>?_) (λk=>LA n o _ _),Ez pv⟩;rw [pv];exact (Jb Gl.low a.low f g _ _).symm
theorem Mq.mul {d e:Nat} {l m:cV} (h:Mq (d+1) l) (k:Mq e m) (b:d<=2):∃ R,Mq (d+1+e) R/\sr R=sr l*sr m:=by
 have ll:=Mb h.ms h.g.low h.g.nz;cases e with
 | zero=>exact ⟨l,h,by rw [T6 k.ms];ext⟩
 | succ e=>
   obtain ⟨R,G,a⟩:=qD h.g k.g;exact ⟨R,⟨G.mono ⋯ ⋯,by rw [a];exact h.ms.mul k.ms⟩,a⟩
def Sn.bd {c:Nu} (h:Sn c):Bd 12 c.1/\Bd 2 c.2:=by
 obtain ⟨a,b,d⟩:=h;have:=a.pos;unfold Bd;exact ⟨⋯,⋯⟩
noncomputable def F5 (M:cO):W.Dat:=.tuple (M.map λq=>.tuple [Ci q.1,Cp q.2])
def Lgs.rep {H:Hp} {a:c_} {M:cO}:Lgs H a M->RepA H a (M.map λq=>.tuple [Ci q.1,Cp q.2]):=l2 a M ⟨λ_ _ h=>h.elim,λ_ _ h=>h.elim⟩ (λ_=>.nil) λ_ _ _ _ r h=>by
 obtain ⟨⟨t,c,w,e,b,d,i,f,g⟩,k⟩:=h;subst e;exact .cons (.tup b (.cons (Eu ⟨c,rfl,d⟩) (.cons (IQ f g) .nil))) (r k)
noncomputable def cM (f:List Rat):List Rat:=(List.range (f.length - 1)).map λ(k:Nat)=>((k:Rat)+1)*f.getD (k+1) 0
def D_L (f:List Rat):Sr.D (Sr.L f)=Sr.L (cM f):=Sr.ext' λk=>by
 show ((k:Rat)+1)*(Sr.L f).c (k+1)=(Sr.L (cM f)).c k;rw [Sr.L_at,Sr.L_at];unfold cM;rw [AQ (l:=List.map _ _),Ac];rcases A5 k (f.length - 1) with c | c
 ·rw [DU c];rfl
 ·rw [BL (by rw [Bm];exact c),AQ,BL ⋯];show _*(0:Rat)=0;ext
def qE:∀ f∈Sr.poolQ,Sr.okC f (cM f)=true:=by decide +kernel
def qG {q:Nat×cV} (h:q∈poolN):Sr.Cs (sr q.2) (Sr.D (sr q.2)):=by
 rw [Gh,D_L];exact Sr.okC_cs (qE _ (Mi q h))
theorem UH (φ:Rat->Rat->Bool):∀ (R:cX) (L:cP),R.map (λq=>q.2.2)=L.map (λq=>sr q.2)->(∀ q∈L,q∈poolN/\Pt q.1 q.2)->∃ d l,d<=sm L/\sr l=Sr.Pi φ R/\Mq d l
 | [],[],_,_=>⟨0,[(1,1)],AR _,MP,⟨T7,by rw [MP];exact Sr.Ms.one⟩⟩
 | [],_::_,h,_=>nomatch h
 | _::_,[],h,_=>nomatch h
 | z::Z,q::L,h,ok=>by
   injection h with a i;obtain ⟨d,l,dl,b,e⟩:=UH φ Z L i λx j=>ok x (A3 _ j);obtain ⟨f,pt⟩:=ok q (Au ..);have p:=(Hl q f).2;have r:=pt.d1;have u:sm (q::L)=q.1+sm L:=rfl;have a:z.2.2=sr q.2:=a;by_cases c:φ z.1 z.2.1=true
   ·obtain ⟨k,g⟩:∃ k,q.1=k+1:=⟨q.1 - 1,⋯⟩;have m:Mq (k+1) q.2:=⟨by have:=pt.g;rw [g] at this;exact this.mono ⋯ ⋯,by rw [<-g];exact Ml f⟩;obtain ⟨R,n,o⟩:=m.mul e ⋯;refine ⟨_,R,⋯,?_,n⟩;show sr R=(if φ z.1 z.2.1=true then z.2.2 else 1)*Sr.Pi φ Z;rw [nV c,o,b,a]
   ·refine ⟨d,l,⋯,?_,e⟩;show sr l=(if φ z.1 z.2.1=true then z.2.2 else 1)*Sr.Pi φ Z;rw [nU c,b];ext
def KN {L:cP} {i:Nat} (h:i<L.length):L[i]?=some (pt L i):=by
 unfold pt;rw [AQ,AZ h];rfl
def Iu {L:cP} {i:Nat} (h:i<L.length):pt L i∈L:=A4 (KN h)
theorem UI {L:cP} {A a lb':dF} (c:Rat):Sr.wa (RI L A a) c=Sr.wa (RI L A lb') c:=by
 unfold RI;generalize List.range L.length=l
 induction l with
 | nil=>rfl
 | cons i l b=>
   show (if decide (A i=c)=true then sr (pt L i).2 else 1)*Sr.wa (l.map _) c=(if decide (A i=c)=true then sr (pt L i).2 else 1)*Sr.wa (l.map _) c;rw [b]
def UJ {L:cP} {A B a:dF} (h:∀ i,i<L.length->A i=B i):RI L A a=RI L B a:=by
 unfold RI;refine Ce λi b=>?_;rw [h i (B9.mp b)]
def UK {L:cP} {a:Type} (f:Nat×cV->a):(List.range L.length).map (λi=>f (pt L i))=L.map f:=by
 refine EJ λi=>?_;rw [Ac,Ac];rcases A5 i L.length with c | c
 ·rw [DU c,KN c];rfl
 ·rw [BL (by rw [Bm];exact c),BL c];rfl
def LO.ms {L:cP} (h:LO L) {i:Nat} (a:i<L.length):∃ n,Sr.Ms (n+1) (sr (pt L i).2):=by
 obtain ⟨b,p⟩:=h.pool _ (Iu a);have c:=p.d1;exact ⟨(pt L i).1 - 1,by rw [show (pt L i).1 - 1+1=(pt L i).1 by omega];exact Ml b⟩
def LO.cs {L:cP} (h:LO L):(List.range L.length).Pairwise λi j=>Sr.Cs (sr (pt L i).2) (sr (pt L j).2):=by
 have a:=h.nd;rw [<-UK (λq=>q.2)] at a;refine (EK.mp a).imp_of_mem λ{i j} b c n=>?_;exact qC (h.pool _ (Iu (B9.mp b))).1 (h.pool _ (Iu (B9.mp c))).1 n
def LO.pts {L:cP} (h:LO L) {A c:dF} (e:∀ i,i<L.length->Nb (A i)):Pts2 (RI L A c):=by
 refine ⟨⟨λp hp=>?_,EK.mpr h.cs⟩,λf=>?_,λp hp=>?_,by unfold RI;rw [AJ,Bm];exact h.len⟩
 ·obtain ⟨i,b,rfl⟩:=AX.mp hp;exact h.ms (B9.mp b)
 ·obtain ⟨d,l,dl,g,a⟩:=UH f (RI L A c) L (by unfold RI;rw [B3];exact UK (λq=>sr q.2)) h.pool;have j:=h.sm7;exact ⟨l,g,a.g.mono ⋯ ⋯,by rw [Mb a.ms a.g.low a.g.nz];omega⟩
 ·obtain ⟨i,b,rfl⟩:=AX.mp hp;exact e i (B9.mp b)
def qH {L:cP} {A:dF} {a:Nat->Nat} (k:Nat):Sr.Pi (λ_ b=>decide (b=(k:Rat))) (RI L A λi=>(a i:Rat))=pk k (UL L a):=UG (by
 unfold RI UL;rw [B3,B3];rfl)
def LO.apt {L:cP} (h:LO L) (a:Nat->Nat):Apt (Uf (UL L a)):=by
 refine ⟨λx c=>?_,List.Pairwise.filter _ (show (UL L a).Pairwise (λx y=>Sr.Cs x.1 y.1) from EK.mpr h.cs)⟩;obtain ⟨c,d⟩:=EE.mp c;obtain ⟨i,b,rfl⟩:=AX.mp c;have b:=B9.mp b;obtain ⟨n,m⟩:=h.ms b;have d:a i≠0:=by simpa using d
 exact ⟨m.pol,m.ne,by show 1<=a i;omega,qG (h.pool _ (Iu b)).1⟩
def LO.ums {L:cP} (h:LO L) (a:Nat->Nat):∀ u∈UL L a,∃ n,Sr.Ms (n+1) u.1:=λu b=>by
 obtain ⟨i,c,rfl⟩:=AX.mp b;exact h.ms (B9.mp c)
def Nk (k:Nat) (x:Rat):Prop:=∃ t d:Int,0<d/\val (t,d)=x/\Bd (4*k+16) t/\Bd (2*k+1) d
def Nk.nb {k:Nat} {x:Rat} (h:Nk k x) (f:k<=5):Nb x:=let ⟨t,d,a,b,c,e⟩:=h;⟨t,d,a,b,c.mono ⋯,e.mono ⋯⟩
def Nk.zero:Nk 0 0:=⟨0,1,∅,Hm 1,by unfold Bd;decide,by unfold Bd;decide⟩
def Nk.add {k:Nat} {x:Rat} {c:Nu} {m:Nat} (h:Nk k x) (s:Sn c) (o:m<=4):Nk (k+1) (x+val c*(m:Rat)):=by
 obtain ⟨t,d,a,e,i,b⟩:=h;have f:=s.1.pos;obtain ⟨j,g⟩:=s.bd;have n:Bd 3 (m:Int):=by unfold Bd;omega
 refine ⟨t*c.2+c.1*m*d,d*c.2,CM a f,?_,?_,(b.mul g).mono ⋯⟩
 ·rw [<-e];unfold val;have p:(d:Rat)≠0:=Ap (AV a);have q:(c.2:Rat)≠0:=Ap (AV f);show ((t*c.2+c.1*m*d:Int):Rat) / ((d*c.2:Int):Rat)=(t:Rat) / (d:Rat)+(c.1:Rat) / (c.2:Rat)*(m:Rat);push_cast;ext
 ·exact (Bd.add ((i.mul g).mono (show 4*k+16+2<=4*k+19 by omega)) (((j.mul n).mul b).mono (show 12+3+(2*k+1)<=4*k+19 by omega))).mono ⋯
def qJ (h:Lq K vs H Q E):zO K { nx:=λ_ a=>Q .non a,rt:=Q } (L2.start ["one"] vs) H:=by
 obtain ⟨p,x,y,rfl,hp,k⟩:=h;exact CU (CD (Dd (Cb rfl hp rfl ⟨_,rfl,Cb rfl hp rfl ⟨BC,λr b=>k r b⟩⟩)))
def qK (h:Lo K vs H Q E):xY K { nx:=λ_ a=>Q .non a,rt:=Q } (L2.start ["_law_found"] vs) H:=by
 obtain ⟨p,T,B,M,rfl,⟨f,l,hp,b,c⟩,d,e,g,k⟩:=h;refine CU ⟨_,rfl,_,_,true,rfl,Fg hp,true,rfl,?_⟩;rw [nV rfl];refine ⟨_,rfl,_,_,rfl,hp,rfl,true,rfl,?_⟩;rw [nV rfl];refine Bw (Cb rfl hp rfl ⟨_,T,B,rfl,b,d,e,λj s1=>⟨true,rfl,?_⟩⟩);rw [nV rfl];exact Bw (Cb rfl (s1 _ _ hp) rfl ⟨_,M,rfl,c.same s1,g,λm i=>k _ (s1.trans i)⟩)
theorem Mm:∀ (U:List (Sr×Nat)),Bv (Uf U)=Bv U
 | []=>rfl
 | (f,0)::U=>by
   show Bv (Uf U)=f ^ 0*Bv U;rw [Mm U,Sr.pow_z];ext
 | (f,m+1)::U=>by
   show f ^ (m+1)*Bv (Uf U)=f ^ (m+1)*Bv U;rw [Mm U]
def GR.ne {L:cP} {r:BH} (h:GR L r):r.2.2.1≠[]:=λz=>by
 have:=h.last;rw [z] at this;exact nomatch this
def GR.parts {L:cP} {r:BH} {ps:List cU} (h:GR L r) (o:LO L) (P:Spt r.2.2.1 ps):(∀ i,i<ps.length->sr (ps.getD i [])=pk (i+1) (UL L r.2.1))/\∀ i,i<L.length->r.2.1 i<=ps.length:=by
 have d:=F3 h.g.low h.g.nz h.ne;obtain ⟨a,b⟩:=qA P (Ma h.h.1 h.h0) (by rw [Mm];exact h.eq) d (o.apt r.2.1) (o.ums r.2.1);refine ⟨λi c=>by rw [<-KI c];exact a i,λi c=>b (sr (pt L i).2,r.2.1 i) (AX.mpr ⟨i,B9.mpr c,rfl⟩)⟩
def qL (a:List BH) (r:BH) (i:Nat):ac (a++[r]) i=ac a i+val r.1*((r.2.1 i:Nat):Rat):=by
 unfold ac;rw [List.foldl_append];rfl
theorem UM {L:cP} (i:Nat):∀ {a:List BH},(∀ r∈a,GR L r)->∀ {k:Nat} {s:Rat},Nk k s->Nk (k+a.length) (a.foldl (λs r=>s+val r.1*((r.2.1 i:Nat):Rat)) s)
 | [],_,_,_,n=>n
 | r::a,h,k,s,n=>by
   have g:=h r (Au ..);have:=UM i (λx b=>h x (A3 _ b)) (n.add g.c (g.m4 i));rw [show k+1+a.length=k+(r::a).length by rw [CP];omega] at this;exact this
def Mn {L:cP} {a:List BH} (h:∀ r∈a,GR L r) (i:Nat):Nk a.length (ac a i):=by
 have:=UM i h Nk.zero;rw [Nat.zero_add] at this;exact this
def qN {K:W.Frag} {c:TA} {g:TG} {d:TS} {D:Ends} {b:L2.St} {H:Hp} (h:c b H (λvs e=>∃ a,vs=[.ref a]/\(∃ f,SqL K e a f)/\ForJ (Ja K a) g d D b e)):BR (K6 K c) g d D b H:=h
noncomputable def Ai (A:dF) (c:Rat) (m:Nat->Nat) (j:Nat) (i:Nat):Rat:=if 1<=m i/\m i<=j then A i+c*((m i:Nat):Rat) else A i
def qO {L:cP} {A:dF} {c q:Rat} {m:Nat->Nat} {j:Nat} (e:q=c*((j+1:Nat):Rat)):Sr.stpL ((j+1:Nat):Rat) q (RI L (Ai A c m j) λi=>(m i:Rat))=RI L (Ai A c m (j+1)) λi=>(m i:Rat):=by
 unfold Sr.stpL RI;rw [B3];refine Ce λi _=>?_;show ((if (m i:Rat)=((j+1:Nat):Rat) then Ai A c m j i+q else Ai A c m j i),_)=_;congr 1;unfold Ai;by_cases h:m i=j+1
 ·rw [nV (by rw [h]),nU ⋯,nV ⋯,e,h]
 ·rw [nU (λz=>h (Rat.natCast_inj.mp z))];by_cases a:1<=m i/\m i<=j
  ·rw [nV a,nV ⋯]
  ·rw [nU a,nU ⋯]
def qP {H:Hp} {xs:c_} {P:cV} {h:Nu} (d:Nums H xs P) (e:P.getLast?=some h):∃ b,P_ xs (-1)=some (.ref b)/\Nm H b h.1 h.2:=by
 obtain ⟨a,rfl⟩:∃ a,P=a++[h]:=by
  have:=List.getLast?_eq_some_iff.mp e;obtain ⟨i,rfl⟩:=this;exact ⟨i,rfl⟩
 have c:=d.length;rw [Bp] at c;have f:a.length<xs.length:=by rw [c];exact Di _
 obtain ⟨q,g,b,j,k⟩:=d.get (AZ f);rw [List.getElem?_append_right (AR _),Nat.sub_self] at g;cases g;refine ⟨b,?_,k⟩;unfold P_ Y';have c:xs.length=a.length+1:=c;rw [nU ∅,nV ⋯,show (-1+(xs.length:Int)).toNat=a.length by omega];show xs[a.length]?=_;rw [AZ f,j]
theorem Hds.snoc {H:Hp} {t c w:Addr} {r:BH}:∀ {f:c_} {e:List BH},Hds H f e->H t=some (.tup [.ref c,.ref w])->Nm H c r.1.1 r.1.2->Nm H w (az r.2.2.2.1) r.2.2.2.2->Hds H (f++[.ref t]) (e++[r])
 | [],[],_,a,b,d=>⟨⟨t,c,w,rfl,a,b,d⟩,trivial⟩
 | _::_,_::_,⟨x,y⟩,a,b,d=>⟨x,Hds.snoc y a b d⟩
 | [],_::_,h,_,_,_=>h.elim
 | _::_,[],h,_,_,_=>h.elim
theorem Hds.tp {H d:Hp} (t:Tp H d):∀ {f:c_} {b:List BH},Hds H f b->Hds d f b
 | [],[],_=>trivial
 | _::_,_::_,⟨⟨a,c,w,e,g,i,j⟩,y⟩=>⟨⟨a,c,w,e,t _ _ g,t _ _ i,t _ _ j⟩,y.tp t⟩
 | [],_::_,h=>h.elim
 | _::_,[],h=>h.elim
theorem Hds.len {H:Hp}:∀ {b:c_} {a:List BH},Hds H b a->b.length=a.length
 | [],[],_=>rfl
 | _::_,_::_,⟨_,y⟩=>congrArg (·+1) y.len
 | [],_::_,h=>h.elim
 | _::_,[],h=>h.elim
def Mp {c:Nu} (s:Sn c) {m:Nat} (h:m<=12):Low (G_ c (m,1)).1 (G_ c (m,1)).2/\val (G_ c (m,1))=val c*(m:Rat)/\Nb (val c*(m:Rat)):=by
 have e:val (((m:Nat):Int),1)=(m:Rat):=by
  unfold val;show (((m:Nat):Int):Rat) / ((1:Int):Rat)=_;rw [show ((1:Int):Rat)=1 from rfl];push_cast;ext
 have v:=Oq (q:=c) (r:=(m,1)) s.1.pos Int.one_pos;rw [e] at v;refine ⟨Co (CM s.1.pos Int.one_pos),v,?_⟩;have a:Bd 12 ((m:Nat):Int):=by unfold Bd;omega
 have b:=rR (q:=c) (r:=(m,1)) s.1.pos Int.one_pos s.bd.1 s.bd.2 a (show Bd 2 1 by unfold Bd;decide);exact ⟨(G_ c (m,1)).1,(G_ c (m,1)).2,(Co (CM s.1.pos Int.one_pos)).pos,v,b.1.mono ∅,b.2.mono ∅⟩
def qQ (h:Lr K vs H Q E):yD K { nx:=λ_ p=>Q .non p,rt:=Q } (L2.start ["R","rows","logs","c","P","many","part","heads"] vs) H:=by
 obtain ⟨v,g,ws,e,L,rfl,hg,PR,gr,r4,lo,k⟩:=h;have wl:=PR.len;rw [AJ] at wl;refine ⟨sz ∅,λl0 a8=>?_⟩;have s1:=AL a8 (.tup []);have a0:(upd H l0 (.tup [])) l0=some (HO.tup []):=upd_same;generalize upd H l0 (.tup [])=H1 at s1 a0 ⊢;show RJ K _ _ _;refine Hk (AN rfl ⟨_,rfl,⟨_,SqL.of (s1 _ _ hg)⟩,ForL.by (xs:=ws) (λj I p=>j<=ws.length/\∃ (x3 x4 A B:d7) (l:Addr) (M:cO),I=[some v,some (.ref g),some (.ref l),x3,x4,A,B,none]/\Same H p/\Lg p l M/\Sr.Can (Sr.wa (RI L (ac (e.take j)) λ_=>0)) (lv M)) ⟨Ae _,none,none,none,none,l0,[],rfl,s1,⟨[],a0,trivial,λ_ h=>nomatch h⟩,Sr.Can.nil λc c0=>Sr.Pi.none λq hq=>?_⟩ ?_ ?_ ?_⟩)
 ·obtain ⟨i,_,rfl⟩:=AX.mp hq;show decide ((0:Rat)=c)=false;exact nY λz=>c0 z.symm
 ·rintro j I p _ ⟨_,x3,x4,A,B,l,M,rfl,s,_⟩;exact SqL.of (s _ _ hg)
 ·rintro j x I H2 C ⟨_,x3,x4,A,B,l,M,rfl,R,S,f⟩;have lt:j<ws.length:=(BK.mp C).1;obtain ⟨y,hy,t,c,w,rfl,ht,hc,Pw⟩:=(PR.tp (E_ R)).get C;rw [Ac] at hy;obtain ⟨r,T,rfl⟩:=EG.mp hy;have G:=gr r (A4 T);obtain ⟨xs,hw,hN⟩:=Pw;refine ⟨_,_,rfl,ht,rfl,_,_,rfl,_,_,rfl,rfl,?_⟩;refine qN (EY (Bw (AN rfl ⟨_,xs,r.2.2.1,rfl,hw,hN,G.g,G.ne,G.ln,λa us ps H3 O ha PL U=>⟨a,rfl,⟨_,SqL.of ha⟩,?_⟩⟩)));obtain ⟨pe,pm⟩:=G.parts lo U;have ul:=PL.length;have ar:=U.many;have a1:∀ i,Nk (e.take j).length (ac (e.take j) i):=Mn λx C=>gr x (FX C);have jl:(e.take j).length<=4:=by rw [CG];omega
  have nA:∀ n i,Nb (Ai (ac (e.take j)) (val r.1) r.2.1 n i):=λn i=>by
   unfold Ai;split
   ·exact ((a1 i).add G.c (G.m4 i)).nb ⋯
   ·exact (a1 i).nb ⋯
  refine ForJ.enumC (xs:=us) (λi I p=>i<=us.length/\∃ (A B:d7) (l:Addr) (M:cO),I=[some v,some (.ref g),some (.ref l),some (.ref c),some (.ref w),A,B,none]/\Same H3 p/\Lg p l M/\Sr.Can (Sr.wa (RI L (Ai (ac (e.take j)) (val r.1) r.2.1 i) λi=>((r.2.1 i:Nat):Rat))) (lv M)) ⟨Ae _,A,B,l,M,rfl,Same.refl H3,S.same O,f.congr λd _=>?_⟩ ?_ ?_ ?_
  ·rw [UI (lb':=λi=>((r.2.1 i:Nat):Rat))];congr 1;exact UJ λi _=>by unfold Ai;rw [nU ⋯]
  ·rintro i I p _ ⟨_,A,B,l,M,rfl,s,_⟩;exact SqL.of (s _ _ ha)
  ·rintro i x pr I H4 C ⟨_,A,B,l,M,rfl,J,W,u⟩ hp;have ab:i<us.length:=(BK.mp C).1;have D:=AL hp (.tup [.int ((i:Int)+1),x]);have N:=J.trans D;obtain ⟨pp,a2⟩:∃ pp,ps[i]?=some pp:=⟨ps[i]'⋯,AZ ⋯⟩;have mo:=U.each pp (A4 a2);have pi:ps.getD i []=pp:=by rw [AQ,a2];rfl
   obtain ⟨b,eb,Pb⟩:=(PL.tp (E_ N)).get (i:=i) ⋯;rw [pi] at Pb;rw [C] at eb;cases eb;refine ⟨_,_,rfl,upd_same,rfl,_,_,rfl,_,_,rfl,rfl,?_⟩;have a3:=(O.trans N) _ _ hc;have a4:=W.same D;generalize upd H4 pr (.tup [.int ((i:Int)+1),.ref b])=H5 at D N Pb a3 a4 ⊢;refine HJ (PQ (AN rfl (CL (AN rfl (CD (AN rfl (M_ ⟨BC,λt6 aj=>?_⟩)))))));have s6:=AL aj (.tup [.int ((i:Int)+1),.int 1]);have b1:Bd 60000000 ((i:Int)+1):=(show Bd 12 ((i:Int)+1) by unfold Bd;omega).mono ∅;refine ⟨_,_,_,_,_,_,rfl,s6 _ _ a3,upd_same,G.c.1.pos,∅,G.c.bd.1.mono ∅,G.c.bd.2.mono ∅,b1,(show Bd 2 1 by unfold Bd;decide).mono ∅,λt7 al=>AN rfl ?_⟩;have X:=s6.trans (AL al (.tup [.int (G_ (r.1.1,r.1.2) ((i:Int)+1,1)).1,.int (G_ (r.1.1,r.1.2) ((i:Int)+1,1)).2]));obtain ⟨q1,q2,q3⟩:=Mp G.c (m:=i+1) ⋯;have am:∀ k,k<L.length->Nb (Ai (ac (e.take j)) (val r.1) r.2.1 i k):=λk _=>nA i k;refine ⟨l,t7,b,M,G_ r.1 (((i+1:Nat):Int),1),pp,_,((i+1:Nat):Rat),rfl,a4.same X,u,lo.pts am,upd_same,q1,by rw [q2];exact q3,Pb.same X,mo.gq.low,mo.gq.nz,?_,λr8 M8 H8 s8 an P=>⟨ab,_,_,r8,M8,rfl,N.trans (X.trans s8),an,?_⟩⟩
   ·rw [qH,<-pi];exact pe i ⋯
   ·rw [qO (by rw [q2])] at P;exact P
  ·rintro I H4 ⟨_,A,B,l,M,rfl,J,W,u⟩;refine ⟨lt,_,_,_,_,l,M,rfl,R.trans (O.trans J),W,u.congr λd _=>?_⟩;rw [UI (lb':=λ_=>0)];congr 1;refine UJ λi hi=>?_;rw [EX T,qL];unfold Ai;have:=pm i hi;by_cases c0:1<=r.2.1 i
   ·rw [nV ⟨c0,⋯⟩]
   ·rw [nU ⋯,show r.2.1 i=0 by omega];show _=_+_*(0:Rat);ext
 ·rintro I H2 ⟨_,x3,x4,A,B,l,M,rfl,R,S,f⟩;rw [wl,CQ] at f;show RH K _ _ _;refine Bu (Fu (AN rfl ⟨_,rfl,⟨_,SqL.of (R _ _ hg)⟩,CompJ.lst (xs:=ws) (λi F p=>i<=ws.length/\Same H2 p/\Hds p F (e.take i)) ⟨Ae _,Same.refl H2,trivial⟩ ?_ ?_ ?_⟩))
  ·rintro i F p ⟨hi,s,h⟩;exact ⟨hi,sz (by rw [h.len,CG];omega),SqL.of (s _ _ (R _ _ hg))⟩
  ·rintro i x F H3 C ⟨hi,O,h⟩;have lt:i<ws.length:=(BK.mp C).1;have ao:=R.trans O;obtain ⟨y,hy,t,c,w,rfl,ht,hc,Pw⟩:=(PR.tp (E_ ao)).get C;rw [Ac] at hy;obtain ⟨r,T,rfl⟩:=EG.mp hy;have G:=gr r (A4 T);obtain ⟨xs,hw,hN⟩:=Pw;obtain ⟨b,eb,hb⟩:=qP hN G.last;refine ⟨_,_,rfl,ht,rfl,_,_,rfl,_,_,rfl,rfl,?_⟩;refine CD (AN rfl (Bw (Az (AN rfl ⟨_,rfl,_,_,xs,V.ref b,rfl,rfl,hw,eb,?_⟩))));refine ⟨_,_,_,rfl,hb,λr4 a5=>⟨BC,λt5 a6=>⟨lt,O.trans ((AL a5 _).trans (AL a6 _)),?_⟩⟩⟩;have J:=AL a5 (.tup [.int (if r.2.2.2.1<0 then -r.2.2.2.1 else r.2.2.2.1),.int r.2.2.2.2]);have D:=AL a6 (.tup [.ref c,.ref r4]);rw [EX T];exact (h.tp (E_ (J.trans D))).snoc upd_same ((J.trans D) _ _ hc) (D _ _ upd_same)
  ·rintro F H3 ⟨_,O,h⟩ w hw;rw [wl,CQ] at h;have J:=AL hw (.lst F);have a7:(upd H3 w (.lst F)) w=some (HO.lst F):=upd_same;have h4:=h.tp (E_ J);have Y:=O.trans J;generalize upd H3 w (.lst F)=H4 at a7 h4 Y ⊢;show RG K _ _ _;refine CU (CD (CD (AN rfl (AN rfl ⟨BC,λo ho=>?_⟩))));have D:=AL ho (.tup [v,.ref l]);refine Dd (AN rfl ⟨_,_,rfl,D _ _ a7,λhs ap=>⟨BC,λr T=>?_⟩⟩);have s6:=AL ap (.tup F);have X:=AL T (.tup [.ref o,.ref hs]);have Z:=D.trans (s6.trans X);exact k r o l hs F M _ (R.trans (Y.trans Z)) upd_same ((s6.trans X) _ _ upd_same) (S.same (Y.trans Z)) f (X _ _ upd_same) (h4.tp (E_ Z))
noncomputable def L1 (b:d8):Nat:=(b.map Int.natAbs).sum
theorem UN {f:dC} {A:Nat} (h:∀ k,(f k).natAbs<=A):∀ (b:d8) (k:Nat),(cvL b f k).natAbs<=L1 b*A
 | [],_=>Ae _
 | x::b,0=>by
   rw [At,Int.add_zero,Bx];show _<=(x.natAbs+L1 b)*A;rw [Nat.add_mul];have:=Dj x.natAbs (h 0);omega
 | x::b,k+1=>by
   have a:=UN h b k;rw [Am];show _<=(x.natAbs+L1 b)*A;rw [Nat.add_mul];have c:=Dj x.natAbs (h (k+1));have d:(x*f (k+1)).natAbs=x.natAbs*(f (k+1)).natAbs:=Bx ..;have e:=Int.natAbs_add_le (x*f (k+1)) (cvL b f k);omega
theorem UO {D:Rat} {z:dC}:∀ (a:d8) (k:Nat),cvL (a.map λn:Int=>(n:Rat)) (λj=>(z j:Rat) / D) k=((cvL a z k:Int):Rat) / D
 | [],k=>by rw [List.map_nil,BA,BA];exact (R' _).symm
 | n::a,0=>by rw [CA,At,At];push_cast;ext
 | n::a,k+1=>by rw [CA,Am,Am,UO a k];push_cast;ext
def Sz5 (k:Nat) (P:cV):Prop:=∃ (D:Int) (z:dC),0<D/\D.natAbs<=3 ^ (k+1)/\(∀ j,C_ P j=(z j:Rat) / (D:Rat))/\∀ j,(z j).natAbs<=4036*5 ^ k
def qR:∀ q∈poolN,L1 (AS q.2)<=5/\(Ab q.2).natAbs<=3:=by decide +kernel
def qS {q:Nat×cV} (h:q∈poolN):Af q.2/\Nz q.2:=let ⟨a,b⟩:=Mj q h;⟨λx c=>⟨(a x c).1,(a x c).2⟩,b⟩
def Sz5.step {k:Nat} {P R:cV} {q:Nat×cV} (h:Sz5 k P) (c:q∈poolN) (e:sr R=sr P*sr q.2):Sz5 (k+1) R:=by
 obtain ⟨D,z,d,i,m,n⟩:=h;obtain ⟨o,p⟩:=qR q c;obtain ⟨f,_⟩:=qS c;have g:=(CZ f).1;refine ⟨D*Ab q.2,λj=>cvL (AS q.2) z j,CM d g,?_,λj=>?_,λj=>?_⟩
 ·rw [Bx]
  calc D.natAbs*(Ab q.2).natAbs<=3 ^ (k+1)*3:=Nat.mul_le_mul i p
   _=3 ^ (k+1+1):=(Cr ..).symm
 ·have r:sr R=Sr.num ((Ab q.2:Rat))⁻¹*(si (AS q.2)*sr P):=by rw [e,Hg f];ext
  have a:=mH (congrArg Sr.c r) j;rw [Sr.num_mul] at a
  have u:(si (AS q.2)*sr P).c j=((cvL (AS q.2) z j:Int):Rat) / (D:Rat):=by
   rw [FV,Sr.L_mul];show cvL _ (C_ P) j=_;rw [show C_ P=λj=>(z j:Rat) / (D:Rat) from funext m,UO]
  rw [u] at a;show C_ R j=_;have a:C_ R j=((Ab q.2:Rat))⁻¹*(((cvL (AS q.2) z j:Int):Rat) / (D:Rat)):=a;rw [a];have v:(D:Rat)≠0:=Ap (AV d);have w:(Ab q.2:Rat)≠0:=Ap (AV g);push_cast;ext
 ·have b:=UN n (AS q.2) j
  calc (cvL (AS q.2) z j).natAbs<=L1 (AS q.2)*(4036*5 ^ k):=b
   _<=5*(4036*5 ^ k):=Cf _ o
   _=4036*5 ^ (k+1):=by rw [Cr];omega
def Sz5.one {h:Nu} (s:Sn h):Sz5 0 [h]:=by
 have a:=s.1.pos;refine ⟨h.2,λj=>if j=0 then h.1 else 0,a,by have:=s.2.2;show _<=3;omega,λj=>?_,λj=>?_⟩
 ·cases j with
  | zero=>rfl
  | succ j=>
    rw [CY (by simp)];exact (R' _).symm
 ·show (if j=0 then h.1 else 0).natAbs<=4036*1;split
  ·have:=s.2.1;omega
  ·show 0<=_;omega
def Sz5.gq {k:Nat} {P:cV} (h:Sz5 k P) (a:k<=8) (b:Af P) (c:Nz P):Gq 40 40 P:=by
 obtain ⟨D,z,d,e,f,g⟩:=h;refine F2 b c d ?_ f λj=>?_
 ·exact Du e (Du (E4 ∅ (show k+1<=9 by omega)) ∅)
 ·exact Du (g j) (Du (Dj _ (E4 ∅ a)) ∅)
def KO {P:cV} {h:Nu} {n:Nat} {f:Sr} (m:Sr.Ms n f) (e:sr P=Sr.num (val h)*f) (l:Low h.1 h.2) (i:h.1≠0) (d:Af P) (j:Nz P):P.length=n+1/\P.getLast?=some h:=by
 have p:=Ma l i
 have c:∀ k,C_ P k=val h*f.c k:=λk=>by
  have:=mH (congrArg Sr.c e) k;rw [Sr.num_mul] at this;exact this
 have b:n<P.length:=by
  rcases A5 n P.length with a | a
  ·exact a
  ·have:=c n;rw [CY a,m.1] at this;ext
 have g:P.length=n+1:=by
  rcases A5 (n+1) P.length with a | a
  ·have:=c (P.length - 1);rw [m.2 (P.length - 1) ⋯] at this;exact absurd (show C_ P (P.length - 1)=0 by ext) (Fz d j (B4.mp ⋯))
  ·omega
 refine ⟨g,?_⟩;rw [F9,g,Nat.add_sub_cancel,AZ b]
 have o:Aj P n=P[n]:=by
  unfold Aj;rw [AQ,AZ b];rfl
 refine congrArg some (DA (d _ (DH b)) l ?_);have:=c n;rw [m.1] at this;unfold C_ at this;rw [o] at this;ext
noncomputable def Ds (a:Nat->Nat) (i:Nat):Nat->Nat:=λj=>if j=i then a i+1 else a j
theorem UP {f:Nat->Sr} {b:Nat->Nat} {i:Nat}:∀ {l:List Nat},l.Nodup->Bv (l.map λj=>(f j,Ds b i j))=if i∈l then Bv (l.map λj=>(f j,b j))*f i else Bv (l.map λj=>(f j,b j))
 | [],_=>by rw [nU List.not_mem_nil];rfl
 | a::l,h=>by
   obtain ⟨c,d⟩:=Dh.mp h;show f a ^ Ds b i a*Bv (l.map λj=>(f j,Ds b i j))=_;rw [UP d];by_cases e:a=i
   ·subst e;rw [nU c,nV (Au ..)];show f a ^ (if a=a then b a+1 else b a)*_=f a ^ b a*_*f a;rw [nV rfl,Sr.pow_s];ext
   ·have g:Ds b i a=b a:=nU e;rw [g];by_cases m:i∈l
    ·rw [nV m,nV (A3 _ m)];show _=f a ^ b a*_*f i;ext
    ·rw [nU m,nU (λz=>(Bc.mp z).elim (λy=>e y.symm) m)];rfl
def UQ {L:cP} {a:Nat->Nat} {i:Nat} (b:i<L.length):Bv (UL L (Ds a i))=Bv (UL L a)*sr (pt L i).2:=by
 unfold UL;rw [UP (f:=λi=>sr (pt L i).2) List.nodup_range,nV (B9.mpr b)]
theorem qT {L:cP}:Bv (UL L λ_=>0)=1:=by
 unfold UL;generalize List.range L.length=l
 induction l with
 | nil=>rfl
 | cons a l b=>
   show sr (pt L a).2 ^ 0*Bv (l.map _)=1;rw [b,Sr.pow_z];ext
def Mr {L:cP} (h:LO L) (b:Nat->Nat):∃ n,Sr.Ms n (Bv (UL L b)):=by
 have c:∀ l:List Nat,(∀ i∈l,i<L.length)->∃ n,Sr.Ms n (Bv (l.map λi=>(sr (pt L i).2,b i))):=λl=>by
  induction l with
  | nil=>exact λ_=>⟨0,Sr.Ms.one⟩
  | cons a l f=>
    intro j;obtain ⟨n,m⟩:=f λi g=>j i (A3 _ g);obtain ⟨d,k⟩:=h.ms (j a (Au ..))
    have o:∀ e:Nat,∃ n,Sr.Ms n (sr (pt L a).2 ^ e):=λe=>by
     induction e with
     | zero=>exact ⟨0,by rw [Sr.pow_z];exact Sr.Ms.one⟩
     | succ e f=>
       obtain ⟨n,m⟩:=f;exact ⟨_,by rw [Sr.pow_s];exact m.mul k⟩
    obtain ⟨q,p⟩:=o (b a);exact ⟨_,p.mul m⟩
 exact c _ λi g=>B9.mp g
def qU {a:L2.St} {H:Hp} {Q:VK} {b c tc d:TE} (h:b a H λx f=>c a f λy g=>tc a g λz i=>d a i λw e=>[x,y,z,w].length<=sizeLine/\∀ p,e p=none->Q (.ref p) (upd e p (.tup [x,y,z,w]))):Ar (AB b (AB c (AB tc (AB d AC)))) a H Q:=h
def UR {b:TA} {g:TG} {c:TS} {D:Ends} {a:L2.St} {H:Hp} (h:b a H (λvs d=>∃ j:Int,vs=[.int j]/\-(2 ^ 62)<=j/\j<2 ^ 62/\ForR 0 j.toNat g c D a d)):BR (DX b) g c D a H:=h
def KP (n:Nat) (a:Nat->Nat):(U_ n a).length=n:=by unfold U_;rw [AJ,Bm]
def KQ (n:Nat) (a:Nat->Nat):U_ (n+1) a=U_ n a++[V.int ((a n:Nat):Int)]:=by unfold U_;rw [E7,By];rfl
def qV {n:Nat} {b a:Nat->Nat} (h:∀ j,j<n->b j=a j):U_ n b=U_ n a:=by
 unfold U_;exact Ce λj c=>by rw [h j (B9.mp c)]
def qW (n:Nat) (a:Nat->Nat):(U_ (n+1) a).set n (V.int (((a n:Nat):Int)+1))=U_ (n+1) (Ds a n):=by
 rw [KQ,KQ,List.set_append_right _ _ (by rw [KP];exact AR _),KP,Nat.sub_self];congr 1
 ·exact qV λj b=>(nU ⋯).symm
 ·show [V.int (((a n:Nat):Int)+1)]=[V.int ((Ds a n n:Nat):Int)];unfold Ds;rw [nV rfl];rfl
def qX (n:Nat) (a:Nat->Nat):P_ (U_ (n+1) a) (-1)=some (V.int ((a n:Nat):Int))/\Y' (U_ (n+1) a).length (-1)=some n:=by
 have e:=KP (n+1) a
 have i:Y' (U_ (n+1) a).length (-1)=some n:=by
  unfold Y';rw [nU ∅,e,nV ⋯,show (-1+((n+1:Nat):Int)).toNat=n by omega]
 refine ⟨?_,i⟩;rw [KQ];exact L2.atI_last ..
structure Ro (H:Hp) (L:cP) (h:Nu) (i:Nat) (m Pa:Addr) (ms:Nat->Nat) (P:cV) (kf:Nat):Prop where
 hm:H m=some (.lst (U_ i ms))
 z:∀ j,i<=j->ms j=0
 m4:∀ j,ms j<=4
 pl:Pl H Pa P
 low:Af P
 nz:Nz P
 sz:Sz5 kf P
 kl:kf+1<=P.length
 ln:P.length<=9
 eq:sr P=Sr.num (val h)*Bv (UL L ms)
def Ro.keep {H a:Hp} {L:cP} {h:Nu} {i:Nat} {m c:Addr} {b:Nat->Nat} {P:cV} {d:Nat} (r:Ro H L h i m c b P d) (t:Tp H a) (e:a m=some (.lst (U_ i b))):Ro a L h i m c b P d:=⟨e,r.z,r.m4,r.pl.tp t,r.low,r.nz,r.sz,r.kl,r.ln,r.eq⟩
def qY (h:Ls K vs H Q E):xZ K { nx:=λ_ A=>Q .non A,rt:=Q } (L2.start ["_law_state","_law_parts","_law_head","_law_product","_law_many","_law_part","_law_k"] vs) H:=by
 obtain ⟨p,a,g,ws,L,n,rfl,st,n9,hg,PL,lo,a0,a1,k⟩:=h;have wl:=PL.len;have L7:=lo.len;refine HI (AN rfl (wE st ⋯ λM t d H1 hr Z t0 t1 d1 aj k1=>?_));have sh:Sn (t,d):=⟨Z,t1,d1⟩;show Rq K _ _ _;refine Bu (PU (AN rfl ⟨Dc,λP0 al=>?_⟩));have s2:=AL al (.tup [.ref M]);have U:=s2 _ _ hr;have P2:Pl (upd H1 P0 (.tup [.ref M])) P0 [(t,d)]:=⟨[.ref M],upd_same,⟨M,rfl,U⟩,trivial⟩;have B:=aj.same s2;have k2:=k1.same s2;generalize upd H1 P0 (.tup [.ref M])=H2 at s2 U P2 B k2 ⊢;show Rn K _ _ _;refine ⟨sz ∅,λm hm=>?_⟩;have s3:=AL hm (.lst []);have a2:(upd H2 m (.lst [])) m=some (HO.lst []):=upd_same;have N:m≠p/\m≠a:=B.pn hm;have a3:=B.same s3;generalize upd H2 m (.lst [])=H3 at s3 a2 a3 ⊢;show Rm K _ _ _;have am:H3 g=some (.lst ws):=s3 _ _ (k2 _ _ a0 a1 hg);have one:∀ x∈[((t,d):Nu)],Low x.1 x.2:=λx hx=>by rw [Aw.mp hx];exact Z
 have R0:Ro H3 L (t,d) 0 m P0 (λ_=>0) [(t,d)] 0:=by
  refine ⟨a2,λ_ _=>rfl,λ_=>by omega,P2.same s3,one,λx hx=>?_,Sz5.one sh,AR _,(show 1<=9 by decide),?_⟩
  ·obtain rfl:(t,d)=x:=mF hx;exact t0
  ·rw [qT];refine Sr.ext' λk=>?_;have e:Sr.num (val (t,d))*(1:Sr)=Sr.num (val (t,d)):=by ext
   rw [e];show C_ [(t,d)] k=val (t,d)*AY k;cases k with
   | zero=>
     rw [show (AY 0:Rat)=1 from rfl];show val (t,d)=val (t,d)*1;ext
   | succ k=>
     rw [show (AY (k+1):Rat)=0 from rfl,CY (by simp)];ext
 refine Hk (AN rfl ⟨_,rfl,⟨_,SqL.of am⟩,ForL.by (xs:=ws) (λi O A=>i<=ws.length/\∃ (x5 S:d7) (v:Addr) (f:Nat->Nat) (P:cV) (y:Nat) (D:Int),O=[some (.ref p),some (.ref g),some (.ref M),some (.ref v),some (.ref m),x5,S]/\Ro A L (t,d) i m v f P y/\D<=n+3+i/\Stt A p a D/\Kpa p a H2 A) ⟨Ae _,none,none,P0,_,_,0,n+3,rfl,R0,⋯,a3,Kpa.of s3⟩ ?_ ?_ ?_⟩)
 ·rintro i O A _ ⟨_,x5,S,v,f,P,y,D,rfl,_,_,_,W⟩;exact SqL.of ((k2.trans W) _ _ a0 a1 hg)
 ·rintro i x O F hx ⟨_,x5,S,v,f,P,y,D,rfl,r,nn,I,W⟩;have lt:i<ws.length:=(BK.mp hx).1;obtain ⟨q,hq,⟨b,rfl,Pb⟩,a4⟩:=(PL.tp ((k2.trans W).tp st)).get hx;have hi:i<L.length:=by omega
  have eq:pt L i=q:=mF ((KN hi).symm.trans hq);obtain ⟨pq,_⟩:=lo.pool q (A4 hq);obtain ⟨ql,q3⟩:=Hl q pq;refine EB ?_;show Rk K _ _ _;have il:=KP i f;refine ⟨_,rfl,.inl ⟨rfl,_,SqL.of r.hm⟩,EY (M_ ⟨_,_,_,rfl,rfl,r.hm,Hn ⋯,?_⟩)⟩;have t5:Tp F (upd F m (.lst (U_ i f++[V.int 0]))):=Gn r.hm
  have a5:(upd F m (.lst (U_ i f++[V.int 0]))) m=some (HO.lst (U_ (i+1) f)):=by
   rw [upd_same,KQ,r.z i (AR _)];rfl
  have z:Stt (upd F m (.lst (U_ i f++[V.int 0]))) p a D:=I.upd N.1 N.2;have k5:Kpa p a H2 (upd F m (.lst (U_ i f++[V.int 0]))):=λc o h1 h2 T=>(Ad (BO T hm)).trans (W c o h1 h2 T);have R5:Ro (upd F m (.lst (U_ i f++[V.int 0]))) L (t,d) (i+1) m v f P y:=⟨a5,λj hj=>r.z j ⋯,r.m4,r.pl.tp t5,r.low,r.nz,r.sz,r.kl,r.ln,r.eq⟩;have a6:=Pb.tp t5;generalize upd F m (.lst (U_ i f++[V.int 0]))=H5 at t5 a5 z k5 R5 a6 ⊢;show Rj K _ _ _;refine UR (EY (CL (AN rfl (M_ (EV z ⋯ ∅ ∅ λe H6 e0 e1 an k6=>⟨_,rfl,⋯,⋯,?_⟩)))));have R6:=R5.keep (k6.tp z) (k6 _ _ N.1 N.2 R5.hm);have ao:=a6.tp (k6.tp z);refine ForR.by (λc O A=>∃ (S:d7) (v:Addr) (f:Nat->Nat) (P:cV) (y:Nat),O=[some (.ref p),some (.ref g),some (.ref M),some (.ref v),some (.ref m),some (.ref b),S]/\Ro A L (t,d) (i+1) m v f P y/\f i<=c/\Pl A b q.2/\Stt A p a (D+1)/\Kpa p a H2 A) ⟨_,v,f,P,y,rfl,R6,by rw [r.z i (AR _)];omega,ao,an,k5.trans k6⟩ ?_ ?_
  ·rintro c O H7 T ⟨S,v,f,P,y,rfl,u,mc,ap,J,k7⟩;obtain ⟨zs,hz,hN⟩:=u.pl;obtain ⟨ys,hy,hY⟩:=ap;have zl:=hN.length;have yl:=hY.length;refine EB (Cq (Az (Az (Bw (AN rfl ⟨_,zs,rfl,hz,Bw (AN rfl ⟨_,ys,rfl,hy,⟨_,_,rfl,rfl,M_ ⟨_,_,rfl,rfl,_,rfl,Ag (λcc=>?_) (λcc=>?_)⟩⟩⟩)⟩)))))
   ·have c9:=nX cc;have G:=u.sz.gq (by have:=u.kl;have:=u.ln;omega) u.low u.nz;show Ri K _ _ _;refine FP (AN rfl (AN rfl ⟨_,_,zs,ys,P,q.2,_,_,_,_,rfl,hz,hy,hN,hY,G,a4.g,⋯,⋯,∅,∅,⋯,⋯,λr8 R H8 s8 P8 G8 l8 e8=>?_⟩));have X:=s8 _ _ u.hm;obtain ⟨ar,b0⟩:=qX i f;show Rh K _ _ _;refine ⟨_,rfl,_,rfl,_,_,_,_,rfl,rfl,X,ar,_,_,rfl,rfl,_,rfl,_,rfl,_,_,_,i,rfl,rfl,X,b0,?_⟩;rw [qW];have t9:Tp H8 (upd H8 m (.lst (U_ (i+1) (Ds f i)))):=Gn X;have er:sr R=sr P*sr q.2:=Ez e8;have Y:sr R=Sr.num (val (t,d))*Bv (UL L (Ds f i)):=by rw [er,u.eq,UQ hi,eq];ext
    obtain ⟨nd,md⟩:=Mr lo (Ds f i);obtain ⟨ln,_⟩:=KO md Y Z t0 G8.low G8.nz;obtain ⟨b6,a7⟩:=Mr lo f;obtain ⟨b7,_⟩:=KO a7 u.eq Z t0 u.low u.nz
    have dg:R.length=P.length+q.1:=by
     have m1:=a7.mul (Ml pq);have e1:Bv (UL L (Ds f i))=Bv (UL L f)*sr q.2:=by rw [UQ hi,eq]
     rw [<-e1] at m1;obtain ⟨b9,_⟩:=KO m1 Y Z t0 G8.low G8.nz;omega
    have d1:=a4.d1;refine ⟨_,r8,Ds f i,R,y+1,rfl,⟨upd_same,λj hj=>?_,λj=>?_,P8.tp t9,G8.low,G8.nz,u.sz.step pq er,by have:=u.kl;omega,⋯,Y⟩,?_,⟨ys,t9 _ _ (s8 _ _ hy),(hY.tp (E_ s8)).tp t9⟩,(J.same s8).upd N.1 N.2,λc o h1 h2 T=>(Ad (BO T hm)).trans (s8 _ _ (k7 c o h1 h2 T))⟩
    ·show (if j=i then _ else _)=0;rw [nU ⋯];exact u.z j hj
    ·show (if j=i then f i+1 else f j)<=4;split
     ·have:c<4:=by have:e.toNat<=4:=by omega
                   omega
      omega
     ·exact u.m4 j
    ·show (if i=i then f i+1 else f i)<=c+1;rw [nV rfl];omega
   ·exact ⟨_,v,f,P,y,rfl,u,⋯,⟨ys,hy,hY⟩,J,k7⟩
  ·rintro O H7 ⟨S,v,f,P,y,rfl,u,_,_,J,k7⟩;exact ⟨lt,_,_,v,f,P,y,D+1,rfl,u,⋯,J,k7⟩
 ·rintro O F ⟨_,x5,S,v,f,P,y,D,rfl,r,nn,I,W⟩;rw [wl] at r;have b1:F M=some (.tup [.int t,.int d]):=(W.tp B) _ _ U;show Rl K _ _ _;refine CU (qU (Bw (AN rfl (Lx I ⋯ λc t' d' H5 T b2 b3 b4 z k5=>?_))));have a8:=k5.tp I;have ab:=a8 _ _ b1;refine AN rfl (AN rfl (CD (Dd (Cb rfl ab rfl ⟨_,rfl,Cb rfl ab rfl ⟨BC,λw hw=>⟨by show 4<=_;exact sz ∅,λtt b5=>?_⟩⟩⟩))));have s6:=AL hw (.tup [.int (if t<0 then -t else t),.int d]);have s7:=AL b5 (.tup [.ref c,.ref v,.ref m,.ref w]);have C:=s6.trans s7;obtain ⟨nd,md⟩:=Mr lo f;refine k tt m ((t',d'),f,P,(t,d)) (D+3) _ (k2.fr B hm) ⟨c,v,w,upd_same,C _ _ T,(r.pl.tp a8).same C,C _ _ (k5 _ _ N.1 N.2 r.hm),s7 _ _ upd_same⟩ ⟨⟨b2,b3,b4⟩,r.m4,sh,t0,r.sz.gq (by have:=r.kl;have:=r.ln;omega) r.low r.nz,r.ln,r.eq,(KO md r.eq Z t0 r.low r.nz).2⟩ ⋯ (z.same C) (((k2.trans W).trans k5).same C)
noncomputable def Rwl (p a:Addr) (H:Hp) (n:Nat):c_->List BH->Prop
 | [],[]=>True
 | v::vs,r::R=>(∃ t m,v=.ref t/\Rwt H n t m r/\m≠p/\m≠a)/\Rwl p a H n vs R
 | _,_=>False
def Rwt.kp {p a:Addr} {H d:Hp} {n:Nat} {t m:Addr} {r:BH} (h:Rwt H n t m r) (k:Kpa p a H d) (b:Tp H d) (e:m≠p) (f:m≠a):Rwt d n t m r:=let ⟨c,P,w,g,i,j,o,q⟩:=h;⟨c,P,w,b _ _ g,b _ _ i,j.tp b,k _ _ e f o,b _ _ q⟩
def Rwl.kp {p a:Addr} {H b:Hp} {n:Nat} (k:Kpa p a H b) (f:Tp H b) {vs:c_} {R:List BH}:Rwl p a H n vs R->Rwl p a b n vs R:=l2 vs R ⟨λ_ _ h=>h.elim,λ_ _ h=>h.elim⟩ (λ_=>trivial) λ_ _ _ _ r h=>by
 obtain ⟨⟨t,m,e,w,c,d⟩,y⟩:=h;exact ⟨⟨t,m,e,w.kp k f c d,c,d⟩,r y⟩
def Rwl.same {p a:Addr} {H b:Hp} {n:Nat} {vs:c_} {R:List BH} (h:Rwl p a H n vs R) (s:Same H b):Rwl p a b n vs R:=h.kp (Kpa.of s) (E_ s)
def Rwl.len {p a:Addr} {H:Hp} {n:Nat} {vs:c_} {R:List BH}:Rwl p a H n vs R->vs.length=R.length:=l2 vs R ⟨λ_ _ h=>h.elim,λ_ _ h=>h.elim⟩ (λ_=>rfl) λ_ _ _ _ r h=>congrArg (·+1) (r h.2)
def Rwl.snoc {p a:Addr} {H:Hp} {n:Nat} {t m:Addr} {r:BH} (w:Rwt H n t m r) (b:m≠p) (c:m≠a) {vs:c_} {R:List BH}:Rwl p a H n vs R->Rwl p a H n (vs++[.ref t]) (R++[r]):=l2 vs R ⟨λ_ _ h=>h.elim,λ_ _ h=>h.elim⟩ (λ_=>⟨⟨t,m,rfl,w,b,c⟩,trivial⟩) λ_ _ _ _ i h=>⟨h.1,i h.2⟩
theorem Rwl.get {p a:Addr} {H:Hp} {n:Nat}:∀ {vs:c_} {R:List BH} {i:Nat} {v:V},Rwl p a H n vs R->vs[i]?=some v->∃ r,R[i]?=some r/\∃ t m,v=.ref t/\Rwt H n t m r
 | _::_,r::_,0,_,h,e=>by
   obtain ⟨⟨t,m,b,w,_⟩,_⟩:=h;cases e;exact ⟨r,rfl,t,m,b,w⟩
 | _::vs,_::R,i+1,_,h,e=>Rwl.get (vs:=vs) (R:=R) (i:=i) h.2 e
 | [],_,_,_,_,e=>nomatch e
 | _::_,[],_,_,h,_=>h.elim
noncomputable def ai (a:List BH) (i:Nat):Nu:=a.foldl (λs r=>L_ s (G_ r.1 (((r.2.1 i:Nat):Int),1))) (0,1)
def qZ (a:List BH) (r:BH) (i:Nat):ai (a++[r]) i=L_ (ai a i) (G_ r.1 (((r.2.1 i:Nat):Int),1)):=by
 unfold ai;rw [List.foldl_append];rfl
theorem US {L:cP} (i:Nat):∀ {a:List BH},(∀ r∈a,GR L r)->∀ {s:Nu},Low s.1 s.2->Low (a.foldl (λs r=>L_ s (G_ r.1 (((r.2.1 i:Nat):Int),1))) s).1 (a.foldl (λs r=>L_ s (G_ r.1 (((r.2.1 i:Nat):Int),1))) s).2/\val (a.foldl (λs r=>L_ s (G_ r.1 (((r.2.1 i:Nat):Int),1))) s)=a.foldl (λs r=>s+val r.1*((r.2.1 i:Nat):Rat)) (val s)
 | [],_,_,l=>⟨l,rfl⟩
 | r::a,h,s,l=>by
   have g:=h r (Au ..);obtain ⟨b,c,_⟩:=Mp g.c (m:=r.2.1 i) (Bg (g.m4 i) ∅);have:=US i (λx d=>h x (A3 _ d)) (s:=L_ s (G_ r.1 (((r.2.1 i:Nat):Int),1))) (Co (CM l.pos b.pos));rw [Op l.pos b.pos,c] at this;exact this
def KR {L:cP} {c:List BH} (h:∀ r∈c,GR L r) (f:c.length<=4) (i:Nat):Low (ai c i).1 (ai c i).2/\val (ai c i)=ac c i/\Bd 40 (ai c i).1/\Bd 40 (ai c i).2:=by
 obtain ⟨a,b⟩:=US i h (s:=(0,1)) ⟨∅,∅⟩;rw [Hm] at b;have e:val (ai c i)=ac c i:=b;have d:=(Mn h i).nb ⋯;rw [<-e] at d;exact ⟨a,e,d.low a⟩
def pC {n:Nat} {a:Nat->Nat} {i:Nat} (h:i<n):(U_ n a)[i]?=some (V.int ((a i:Nat):Int)):=by
 unfold U_;rw [Ac,DU h];rfl
def Mt {K:W.Frag} {H:Hp} {Q:VK} {C:L2.St} {p a u:Addr} {n:Nat} {g:c_} {d:List BH} {v:TE} (F:Hp->c_->List BH->Prop) (q:H u=some (.lst g)) (z:Rwl p a H n g d) (Y:d.length<=4) (D:F H [] [])
  (j:∀ (c P m h:Addr) (r:BH) (e:c_) (R:List BH) (b:Hp) (N:VK),Same H b->F b e R->Nm b c r.1.1 r.1.2->Pl b P r.2.2.1->Nm b h (az r.2.2.2.1) r.2.2.2.2->(∀ y o,Same b o->F o (e++[y]) (R++[r])->N y o)->v [some (.ref c),some (.ref P),some (.ref m),some (.ref h)] b N)
  (k:∀ e b w,Same H b->F b e d->b w=none->Q (.ref w) (upd b w (.lst e))):CompJ (aa K u) [none,none,none,none] (Ch 4 (A8 (AE 0) (A8 (AE 1) (A8 (AE 2) (A8 (AE 3) Cg))))) v C Q H:=by
 have G:=z.len;refine CompJ.lst (xs:=g) (λi e b=>i<=g.length/\e.length=i/\Same H b/\F b e (d.take i)) ⟨Ae _,rfl,Same.refl H,D⟩ ?_ ?_ ?_
 ·rintro i e b ⟨I,A,s,_⟩;exact ⟨I,sz ⋯,SqL.of (s _ _ q)⟩
 ·rintro i x e b B ⟨_,A,s,f⟩;have J:i<g.length:=(BK.mp B).1;obtain ⟨r,q,t,m,rfl,c,P,h,L,M,O,Z,S⟩:=(z.same s).get B;refine ⟨_,_,rfl,L,rfl,_,_,rfl,_,_,rfl,_,_,rfl,_,_,rfl,rfl,?_⟩;exact j c P m h r e _ b _ s f M O S λy o T U=>⟨J,by rw [Bp,A];rfl,s.trans T,by rw [EX q];exact U⟩
 ·rintro e b ⟨_,_,s,f⟩ w X;rw [G,CQ] at f;exact k e b w s f X
def UT (M:cO):W.kqdOk 8 (.list (M.map λq=>.tuple [Ci q.1,Cp q.2]))=true:=by
 simp only [W.kqdOk,List.all_map];refine DT.mpr λq _=>?_;show W.kqdOk 7 (.tuple [Ci q.1,Cp q.2])=true;simp only [W.kqdOk,List.all_cons,List.all_nil,bK,aP,Bool.and_self]
def pE {H:Hp} {w b:Addr} {c a:c_} {M:cO} {Q:VK} (d:H w=some (.lst c)) (e:Lgs H c M) (f:H b=some (.lst a)) (g:Lgs H a M) (h:Q (.bl false) H):aV (.ref w) (.ref b) H Q:=⟨_,_,true,.lst d e.rep,.lst f g.rep,UT M,UT M,⟨λ_=>rfl,λ_=>rfl⟩,h⟩
noncomputable def Hr (a:List BH):W.Dat:=.tuple (a.map λr=>.tuple [Ci r.1,Ci (az r.2.2.2.1,r.2.2.2.2)])
def Hds.rep {H:Hp} {b:c_} {a:List BH}:Hds H b a->RepA H b (a.map λr=>.tuple [Ci r.1,Ci (az r.2.2.2.1,r.2.2.2.2)]):=l2 b a ⟨λ_ _ h=>h.elim,λ_ _ h=>h.elim⟩ (λ_=>.nil) λ_ _ _ _ r h=>by
 obtain ⟨⟨t,c,w,e,d,f,g⟩,k⟩:=h;subst e;exact .cons (.tup d (.cons (Eu ⟨c,rfl,f⟩) (.cons (Eu ⟨w,rfl,g⟩) .nil))) (r k)
def okA (T B:cV) (M:cO) (a:List BH):W.kqdOk 8 (.tuple [.tuple [E1 T B,F5 M],Hr a])=true:=by
 have b:W.kqdOk 6 (E1 T B)=true:=okF T B 3
 have c:W.kqdOk 6 (F5 M)=true:=by
  simp only [F5,W.kqdOk,List.all_map];refine DT.mpr λq _=>?_;show W.kqdOk 5 (.tuple [Ci q.1,Cp q.2])=true;simp only [W.kqdOk,List.all_cons,List.all_nil,bK,aP,Bool.and_self]
 have d:W.kqdOk 7 (Hr a)=true:=by
  simp only [Hr,W.kqdOk,List.all_map];refine DT.mpr λq _=>?_;show W.kqdOk 6 (.tuple [Ci q.1,Ci (az q.2.2.2.1,q.2.2.2.2)])=true;simp only [W.kqdOk,List.all_cons,List.all_nil,aP,Bool.and_self]
 have e:W.kqdOk 7 (.tuple [E1 T B,F5 M])=true:=by
  show [E1 T B,F5 M].all (W.kqdOk 6)=true;rw [List.all_cons,List.all_cons,b,c];rfl
 show [.tuple [E1 T B,F5 M],Hr a].all (W.kqdOk 7)=true;rw [List.all_cons,List.all_cons,d,e];rfl
def eqA {H:Hp} {x y o m f l n p b:Addr} {q c:c_} {T B:cV} {M:cO} {a:List BH} {Q:VK} (u:H x=some (.tup [.ref o,.ref p])) (v:H o=some (.tup [.ref f,.ref l])) (w:Lg H l M) (z:H p=some (.tup q)) (A:Hds H q a) (C:H y=some (.tup [.ref m,.ref b])) (d:H m=some (.tup [.ref f,.ref n])) (e:Lg H n M) (g:H b=some (.tup c)) (h:Hds H c a) (r:FF H f T B) (k:Q (.bl true) H):bZ (.ref x) (.ref y) H Q:=by
 obtain ⟨I,D,F,_⟩:=w;obtain ⟨G,i,j,_⟩:=e;exact ⟨.tuple [.tuple [E1 T B,F5 M],Hr a],.tuple [.tuple [E1 T B,F5 M],Hr a],true,.tup u (.cons (.tup v (.cons (TU r) (.cons (.tup D F.rep) .nil))) (.cons (.tup z A.rep) .nil)),.tup C (.cons (.tup d (.cons (TU r) (.cons (.tup i j.rep) .nil))) (.cons (.tup g h.rep) .nil)),okA T B M a,okA T B M a,⟨λ_=>rfl,λ_=>rfl⟩,k⟩
noncomputable def aJ (L:cP) (a:List BH) (i:Nat):cO:=(List.range i).map λj=>(ai a j,(pt L j).2)
def pH {L:cP} {a:List BH} (g:LO L) (h:∀ r∈a,GR L r) (e:a.length<=4):LgO (aJ L a L.length)/\Pz 1 (aJ L a L.length)/\∀ c,Sr.W (lv (aJ L a L.length)) c=Sr.wa (RI L (ac a) λ_=>0) c:=by
 have d:∀ j,j<L.length->Gq 100 100 (pt L j).2/\(pt L j).2.length<=8:=λj b=>by
  obtain ⟨i,p⟩:=g.pool _ (Iu b);have:=Hl _ i;exact ⟨p.g.mono ⋯ ⋯,⋯⟩
 refine ⟨λx f=>?_,λx f=>?_,λc=>?_⟩
 ·obtain ⟨j,b,rfl⟩:=AX.mp f;have k:=d j (B9.mp b);exact ⟨(KR h e j).1,k.1.low,k.1.nz⟩
 ·obtain ⟨j,b,rfl⟩:=AX.mp f;have k:=d j (B9.mp b);obtain ⟨_,_,m,n⟩:=KR h e j;exact ⟨k.1,k.2,g.ms (B9.mp b),m.mono ∅,n.mono ∅⟩
 ·rw [<-rC];congr 1;unfold lv aJ RI;rw [B3,B3];refine Ce λj _=>?_;show (val (ai a j),sr (pt L j).2)=(ac a j,sr (pt L j).2);rw [(KR h e j).2.1]
def pI {w:Rat->Sr} {M N:cO} {H:Hp} {l m:Addr} (c:Sr.Can w (lv M)) (d:Sr.Can w (lv N)) (e:Lg H l M) (f:Lg H m N):M=N:=by
 obtain ⟨_,_,_,a⟩:=e;obtain ⟨_,_,_,b⟩:=f;exact T4 a b (c.uniq d)
def pJ (h:Lu K vs H Q E):wA K { nx:=λ_ C=>Q .non C,rt:=Q } (L2.start ["_law_state","_law_kr","_law_parts","_law_rows","_law_pairs","_law_k","_law_total","_law_c","_law_product","_law_many","_law_head","_law_handed","_law_found"] vs) H:=by
 obtain ⟨p,a,f,g,ws,L,T,B,n,rfl,st,n9,ff,lT,lB,hg,PL,lo,ap,ar,k⟩:=h;have wl:=PL.len;have L7:=lo.len;refine Bu (MY (EY (CL (AN rfl (M_ (EV st ⋯ ∅ ∅ λe H1 e0 e1 c1 k1=>⟨_,rfl,⋯,⋯,?_⟩))))));refine CompJ.range (λi D C=>i<=e.toNat/\∃ (d:List BH) (n':Int),Rwl p a C L.length D d/\(∀ r∈d,GR L r)/\d.length=i/\n'<=n+1+20*i/\Stt C p a n'/\Kpa p a H C) ⟨Ae _,[],n+1,trivial,(λ_ h=>nomatch h),rfl,⋯,c1,k1⟩ ?_ ?_ ?_
 ·rintro i D C ⟨hi,d,n',RL,_,rl,_⟩;exact ⟨hi,sz (by rw [RL.len];omega)⟩
 ·rintro i D C hi ⟨_,d,n',RL,gr,rl,nn,b0,k'⟩;refine EB (CL (AN rfl (AN rfl ⟨p,a,g,ws,L,n',rfl,b0,⋯,k' _ _ ap ar hg,PL.tp (k'.tp st),lo,ap,ar,λt m r n2 H2 hm rw G cq b1 k2=>?_⟩)));obtain ⟨m1,m2⟩:=b0.pn hm;refine ⟨hi,d++[r],n2,(RL.kp k2 (k2.tp b0)).snoc rw m1 m2,λx hx=>?_,by rw [Bp,rl];rfl,⋯,b1,k'.trans k2⟩;rcases CO.mp hx with h | h
  ·exact gr x h
  ·rw [Aw.mp h];exact G
 rintro us H2 ⟨_,d,n',RL,gr,rl,nn,b1,k2⟩ rs c2;have r4:d.length<=4:=by omega
 have ul:=RL.len;have a2:=k2.tp st;have s3:=AL c2 (.lst us);have I:(upd H2 rs (.lst us)) rs=some (HO.lst us):=upd_same;have b2:=s3 _ _ (k2 _ _ ap ar hg);have bg:=(PL.tp a2).tp (E_ s3);have Y:=RL.same s3;have bi:=b1.same s3
 have b3:FF (upd H2 rs (.lst us)) f T B:=by
  obtain ⟨u,v,e7,Pu,Pv⟩:=ff;exact ⟨u,v,s3 _ _ (a2 _ _ e7),(Pu.tp a2).same s3,(Pv.tp a2).same s3⟩
 generalize upd H2 rs (.lst us)=H3 at I b2 bg Y bi b3 ⊢;show SC K _ _ _;refine ⟨sz ∅,λw hw=>?_⟩;have s4:=AL hw (.lst []);have bj:(upd H3 w (.lst [])) w=some (HO.lst []):=upd_same;generalize upd H3 w (.lst [])=H4 at s4 bj ⊢;show R9 K _ _ _;refine UR (EY (Zo (AN rfl (Zp (s4 _ _ b2) ⟨_,rfl,⋯,⋯,?_⟩))));refine ForR.by (λi σ C=>i<=ws.length/\∃ (x5 x6 x7 x8 x9 J:d7) (zs:c_),σ=[some (.ref p),some (.ref f),some (.ref g),some (.ref rs),some (.ref w),x5,x6,x7,x8,x9,J,none,none]/\Same H3 C/\C w=some (.lst zs)/\Lgs C zs (aJ L d i)) ⟨Ae _,none,none,none,none,none,none,[],rfl,s4,bj,trivial⟩ ?_ ?_
 ·rintro i σ H5 (hi:i<ws.length) ⟨_,x5,x6,x7,x8,x9,J,zs,rfl,s5,b5,Z⟩;refine EB ?_;show Ru K _ _ _;refine Bu (CD (M_ (M_ ⟨BC,λt0 c3=>?_⟩)));have s6:=AL c3 (.tup [.int 0,.int 1]);have bk:(upd H5 t0 (.tup [.int 0,.int 1])) t0=some (HO.tup [V.int 0,V.int 1]):=upd_same;generalize upd H5 t0 (.tup [.int 0,.int 1])=H6 at s6 bk ⊢;show Rs K _ _ _;have a3:=s5.trans s6;refine Hk (AN rfl ⟨_,rfl,⟨_,SqL.of (a3 _ _ I)⟩,ForL.by (xs:=us) (λj σ C=>j<=us.length/\∃ (x7 x8 x9 J:d7) (t6:Addr),σ=[some (.ref p),some (.ref f),some (.ref g),some (.ref rs),some (.ref w),some (.int (0+(i:Int))),some (.ref t6),x7,x8,x9,J,none,none]/\Same H6 C/\Nm C t6 (ai (d.take j) i).1 (ai (d.take j) i).2) ⟨Ae _,x7,x8,x9,J,t0,rfl,Same.refl H6,bk⟩ ?_ ?_ ?_⟩)
  ·rintro j σ C _ ⟨_,x7,x8,x9,J,t6,rfl,s,_⟩;exact SqL.of (s _ _ (a3 _ _ I))
  ·rintro j x σ H7 hx ⟨_,x7,x8,x9,J,t6,rfl,s7,h7⟩;have lt:j<us.length:=(BK.mp hx).1;obtain ⟨r,hr,t,m,rfl,c,P,hd,ht,hc,hP,hm,hh⟩:=(Y.same (a3.trans s7)).get hx;have G:=gr r (A4 hr);have gj:∀ x∈d.take j,GR L x:=λx hx=>gr x (FX hx);obtain ⟨q1,q2,q3,q4⟩:=KR gj (by rw [CG];omega) i;refine ⟨_,_,rfl,ht,rfl,_,_,rfl,_,_,rfl,_,_,rfl,_,_,rfl,rfl,?_⟩;refine HJ (CL (AN rfl (CL (AN rfl (CD (Az (AN rfl (AN rfl ⟨_,_,_,_,rfl,rfl,hm,Ca (j:=i) (Int.zero_add _) (pC ⋯),M_ ⟨BC,λb hb=>?_⟩⟩))))))));have s8:=AL hb (.tup [.int ((r.2.1 i:Nat):Int),.int 1]);have m4:=G.m4 i;have b4:Bd 12 ((r.2.1 i:Nat):Int):=by unfold Bd;omega
   refine ⟨_,_,_,_,_,_,rfl,s8 _ _ hc,upd_same,G.c.1.pos,∅,G.c.bd.1.mono ∅,G.c.bd.2.mono ∅,b4.mono ∅,(show Bd 2 1 by unfold Bd;decide).mono ∅,λt9 c4=>?_⟩;have s9:=AL c4 (.tup [.int (G_ (r.1.1,r.1.2) (((r.2.1 i:Nat):Int),1)).1,.int (G_ (r.1.1,r.1.2) (((r.2.1 i:Nat):Int),1)).2]);obtain ⟨l1,l2,l3⟩:=Mp G.c (m:=r.2.1 i) ⋯;have l4:=Nb.low (l2 ▸ l3) l1;refine ⟨_,_,_,_,_,_,rfl,s9 _ _ (s8 _ _ h7),upd_same,q1.pos,l1.pos,q3.mono ∅,q4.mono ∅,l4.1.mono ∅,l4.2.mono ∅,λc5 bl=>⟨lt,_,_,_,_,c5,rfl,s7.trans (s8.trans (s9.trans (AL bl _))),?_⟩⟩;rw [EX hr,qZ];exact upd_same
  ·rintro σ H7 ⟨_,x7,x8,x9,J,t6,rfl,s7,h7⟩;rw [ul,CQ] at h7;have b6:=a3.trans s7;have b7:=s7 _ _ (s6 _ _ b5);have c6:i<L.length:=by omega
   obtain ⟨q,hq,⟨b,eb,Pb⟩,_⟩:=(bg.tp (E_ b6)).get (AZ hi);have eq:pt L i=q:=mF ((KN c6).symm.trans hq);have zl:=Z.len;have pl:(aJ L d i).length=i:=by unfold aJ;rw [AJ,Bm]
   show Rr K _ _ _;refine ⟨_,rfl,.inl ⟨rfl,_,SqL.of b7⟩,EY (CD (AN rfl (Az (AN rfl (AN rfl ⟨_,_,_,.ref b,rfl,rfl,b6 _ _ b2,Ca (j:=i) (Int.zero_add _) (by rw [AZ hi,eb]),BC,λt ht=>⟨_,_,_,rfl,rfl,AL ht _ _ _ b7,Hn ⋯,?_⟩⟩)))))⟩;refine PX ht b7 hw b6 λH8 s8 c7 c8 t8 _=>⟨hi,_,_,_,_,_,_,_,rfl,s8,c7,?_⟩
   have e9:aJ L d (i+1)=aJ L d i++[(ai d i,q.2)]:=by
    unfold aJ;rw [E7,By,<-eq];rfl
   rw [e9];exact ((Z.tp (E_ (s6.trans s7))).tp t8).snoc c8 (t8 _ _ h7) (Pb.tp t8)
 rintro σ H5 ⟨_,x5,x6,x7,x8,x9,J,zs,rfl,s5,b5,Z⟩;rw [show (ws.length:Int).toNat=L.length from wl] at Z;obtain ⟨c9,ca,cb⟩:=pH lo gr r4;show R3 K _ _ _
 have a8:∀ (c P m h:Addr) (r:BH) (D:c_) (R:List BH) (C:Hp) (N:VK),Lgs C D (R.map λr=>(r.1,r.2.2.1))->Nm C c r.1.1 r.1.2->Pl C P r.2.2.1->(∀ y H3,Same C H3->Lgs H3 (D++[y]) ((R++[r]).map λr=>(r.1,r.2.2.1))->N y H3)->Ar (AB (AA 0) (AB (AA 1) AC)) [some (.ref c),some (.ref P),some (.ref m),some (.ref h)] C N:=λc P m h r D R C N lg hc hP kk=>by
  refine CD (AN rfl (AN rfl ⟨BC,λt ht=>?_⟩));have s:=AL ht (.tup [.ref c,.ref P]);refine kk _ _ s ?_;rw [By];exact (lg.tp (E_ s)).snoc upd_same (s _ _ hc) (hP.same s)
 refine Bu (Fu (AN rfl ⟨_,rfl,⟨_,SqL.of (s5 _ _ I)⟩,Mt (λC D R=>Lgs C D (R.map λr=>(r.1,r.2.2.1))) (s5 _ _ I) (Y.same s5) r4 trivial (λc P m h r D R C N _ lg hc hP _ kk=>a8 c P m h r D R C N lg hc hP kk) λD H6 hd s6 cc cd=>?_⟩));have s7:=AL cd (.lst D);have b9:(upd H6 hd (.lst D)) hd=some (HO.lst D):=upd_same;have ba:=cc.tp (E_ s7);have bb:=s6.trans s7;generalize upd H6 hd (.lst D)=H7 at b9 ba bb ⊢;show Ry K _ _ _;refine FP (AN rfl (AN rfl ⟨.ref f,hd,D,d,L,rfl,b9,ba,gr,r4,lo,λr o l hs cr M H8 s8 bm bn a4 ab bp bq=>?_⟩));have a5:=s5.trans (bb.trans s8);show Rx K _ _ _;refine Ev (Cq (Az (AN rfl (Fu (AN rfl ⟨_,rfl,⟨_,SqL.of (a5 _ _ I)⟩,Mt (λC D R=>Lgs C D (R.map λr=>(r.1,r.2.2.1))) (a5 _ _ I) (Y.same a5) r4 trivial (λc P m h r D R C N _ lg hc hP _ kk=>a8 c P m h r D R C N lg hc hP kk) λbr H9 w9 s9 ce cf=>?_⟩)))));have bc:=AL cf (.lst br);have A:=s9.trans bc;refine pE (A _ _ (s8 _ _ b9)) (ba.tp (E_ (s8.trans A))) upd_same (ce.tp (E_ bc)) ⟨_,rfl,Ag (λz=>nomatch z) λ_=>?_⟩;generalize upd H9 w9 (.lst br)=cs at bc A ⊢;have W:=A _ _ bm;have aj:=a5.trans A;have ch:=(T3 (lo.pts λi _=>(Mn gr i).nb ⋯) (let ⟨_,_,_,x⟩:=a4;x) ab).1;show Rw K _ _ _;refine Ev ⟨_,rfl,_,_,true,rfl,Fg W,true,rfl,Ag (λz=>nomatch z) λ_=>?_⟩;refine ⟨_,rfl,_,_,rfl,W,rfl,_,rfl,Ag (λz=>nomatch z) λ_=>?_⟩;refine Bw (Cb rfl W rfl ⟨_,T,B,M,rfl,⟨f,l,A _ _ bn,b3.same aj,a4.same A⟩,lT,lB,λq hq=>Bg (ch q hq).2.1 ∅,λct X=>⟨true,rfl,Ag (λz=>nomatch z) λ_=>?_⟩⟩);refine Cb rfl (X _ _ W) rfl ⟨_,_,true,rfl,Fg (X _ _ (A _ _ bp)),true,rfl,Ag (λz=>nomatch z) λ_=>?_⟩;have al:=bb.trans (s8.trans (A.trans X));show Rv K _ _ _;refine CU (Az (AN rfl (CD (CD (AN rfl (Bw (AN rfl ⟨w,zs,_,rfl,al _ _ b5,Z.tp (E_ al),c9,ca,by unfold aJ;rw [AJ,Bm];exact L7,λa6 ck bs bt am bd=>⟨BC,λa7 bu=>?_⟩⟩)))))));have bf:=bd.congr λc _=>cb c;have em:M=ck:=pI ab bf (a4.same (A.trans (X.trans bt))) am;subst em;have bv:=AL bu (.tup [.ref f,.ref a6]);have a0:(upd bs a7 (.tup [.ref f,.ref a6])) a7=some (HO.tup [V.ref f,V.ref a6]):=upd_same;have an:=am.same bv;have U:=bt.trans bv;generalize upd bs a7 (.tup [.ref f,.ref a6])=cu at a0 an U ⊢;have O:=(aj.trans X).trans U;refine Dd (Fu (AN rfl ⟨_,rfl,⟨_,SqL.of (O _ _ I)⟩,Mt (λC D R=>Hds C D R) (O _ _ I) (Y.same O) r4 trivial (λc P m h r D R C N _ lg hc _ hh kk=>?_) λao cw cy cl bw bx=>?_⟩))
 ·refine CD (AN rfl (AN rfl ⟨BC,λt ht=>?_⟩));have s:=AL ht (.tup [.ref c,.ref h]);exact kk _ _ s ((lg.tp (E_ s)).snoc upd_same (s _ _ hc) (s _ _ hh))
 ·have cm:=AL bx (.lst ao);refine ⟨_,_,rfl,upd_same,λcn bz=>⟨BC,λy hy=>?_⟩⟩;have cp:=AL bz (.tup ao);have c0:=AL hy (.tup [.ref a7,.ref cn]);have a1:=cm.trans (cp.trans c0);have F:=cl.trans a1;have S:=A.trans (X.trans (U.trans F));exact eqA (S _ _ bm) (S _ _ bn) (a4.same S) (S _ _ bp) (bq.tp (E_ S)) upd_same (F _ _ a0) (an.same F) (c0 _ _ upd_same) (bw.tp (E_ a1)) (b3.same (O.trans F)) (k n' _ ⋯ (bi.same (O.trans F)))
def pK (h:Lk K vs H Q E):xX K { nx:=λ_ a=>Q .non a,rt:=Q } (L2.start ["_law_found","_law_pair"] vs) H:=by
 obtain ⟨p,M,rfl,⟨g,hp,j,w⟩,m,k⟩:=h;refine Ev ⟨_,rfl,_,_,true,rfl,Fg hp,true,rfl,Ag (λz=>nomatch z) (λ_=>?_)⟩;refine UE (AN rfl ⟨_,rfl,⟨_,SqT.of hp⟩,ForT.by (xs:=g) (λi b a=>∃ c,b=[some (.ref p),c]/\Same H a) ⟨_,rfl,Same.refl H⟩ ?_ ?_ ?_⟩)
 ·rintro i b a _ ⟨c,rfl,s⟩;exact s _ _ hp
 ·rintro i x b f o ⟨c,rfl,d⟩;obtain ⟨y,q,t,n,v,rfl,e,r,Pv⟩:=(j.tp (E_ d)).get o;refine ⟨_,rfl,_,_,true,rfl,Fg e,true,rfl,?_⟩;refine ⟨_,rfl,_,_,rfl,e,rfl,_,rfl,?_⟩;refine Bw (Cb rfl e rfl ⟨_,_,_,rfl,r,true,rfl,?_⟩);refine Bw (Cb rfl e rfl ⟨_,_,rfl,Pv,m y (A4 q),λA u=>⟨true,rfl,?_⟩⟩);exact ⟨_,rfl,d.trans u⟩
 ·rintro b f ⟨c,rfl,d⟩;exact k f d
def pO {H:Hp} {a:c_} {L:cP}:Pts H a L->∀ q∈L,Pt q.1 q.2:=l2 a L ⟨λ_ _ h=>h.elim,λ_ _ h=>h.elim⟩ (λ_ _ h=>nomatch h) λ_ _ _ _ r h q b=>by
 rcases Bc.mp b with c | c
 ·rw [c];exact h.2.1
 ·exact r h.2.2 q c
def Mu {K:W.Frag} {H:Hp} {D:Ends} {s p a g:Addr} {k:d7} {n:Int} {d:c_} {L:cP} (st:Stt H p a n) (N:n<=60000) (m:H g=some (.lst d)) (h:Pts H d L) (b:∀ q∈L,q∈poolN) (w:(L.map λq=>q.2).Nodup) (x:sm L<=7) (o:L.length<=7) (c:g≠p/\g≠a)
  (y:∀ r u,Stt r p a u->u<=n+220->D.nx [some (.ref s),some (.ref p),k,some (.ref g)] r):SE K D [some (.ref s),some (.ref p),k,some (.ref g)] H:=by
 have A:∀ q∈L,q.1<=3:=λq f=>(Hl q (b q f)).2;have C:LO L:=⟨λq f=>⟨b q f,pO h q f⟩,w,x,o⟩;refine PQ (AN rfl (CL (AN rfl (AN rfl ⟨p,a,g,d,L,n,rfl,st,⋯,m,h,A,o,c.1,c.2,λt T B F O G R P i v=>AN rfl ?_⟩))));obtain ⟨_,_,S,U,_⟩:=R.facts (e:=6) ∅ ∅;exact ⟨p,a,t,g,d,L,T,B,F,rfl,i,⋯,G,⋯,⋯,v _ _ c.1 c.2 m,h.tp (v.tp st),C,c.1,c.2,λI J M j=>⟨true,rfl,Ag (λz=>nomatch z) λ_=>y J I j ⋯⟩⟩
def pV (h:Jo K vs H Q E):wC K { nx:=λ_ q=>Q .non q,rt:=Q } (L2.start ["_law_script","_law_state","_law_k","_law_parts"] vs) H:=by
 obtain ⟨s,G,rfl,I,v,k⟩:=h;refine HI (AN rfl ⟨_,G,rfl,I,v,λp a Y Z a0 s1 J=>?_⟩);show SH K _ _ _;refine ⟨_,rfl,∅,∅,?_⟩;refine ForR.by (λi w q=>∃ (x y:d7) (n:Int),w=[some (.ref s),some (.ref p),x,y]/\Stt q p a n/\n<=300*i) ⟨none,none,0,rfl,J,∅⟩ ?_ ?_
 ·rintro i w M N ⟨x,y,n,rfl,d,O⟩;have i2:i<2:=N;refine EB ?_;show SG K _ _ _;refine Zn (AN rfl (M_ (M_ ⟨p,a,3,4,n,rfl,d,⋯,∅,∅,∅,∅,λf ws L P H4 R B PW sL c C lL ni j k4=>?_⟩)));have u:f≠p/\f≠a:=d.pn R;show SF K _ _ _;refine Ev ?_;refine Cq (Az (AN rfl (M_ ⟨rfl,_,rfl,Ag (λ_=>?_) (λ_=>Mu j ⋯ B PW c C ⋯ ⋯ u λq r b D=>⟨_,_,r,rfl,b,⋯⟩)⟩)));refine Cq (Az (CL (AN rfl (M_ (EV j ⋯ ∅ ∅ λe H5 e0 e1 m F=>M_ ⟨rfl,_,rfl,Ag (λ_=>?_) (λ_=>Mu m ⋯ (F _ _ u.1 u.2 B) (PW.tp (F.tp j)) c C ⋯ ⋯ u λq r b D=>⟨_,_,r,rfl,b,⋯⟩)⟩)))));refine HJ (Bw (AN rfl ⟨p,a,P+1,rfl,m,⋯,λg us L6 H6 S T U o z W X A k6=>?_⟩));exact Mu A ⋯ T U o z W X (m.pn S) λq r b D=>⟨_,_,r,rfl,b,⋯⟩
 ·rintro w M ⟨x,y,n,rfl,d,O⟩;exact k _
end Bs
namespace Bs
open PySem PySem.Spec PyProof.Rows L2
set_option maxHeartbeats 4000000
open Hd
structure Bl (K:W.Frag) (mg:di):Prop where
 abs:mg "abs" = none
 min:mg "min" = none
 len:mg "len" = none
 enumerate:mg "enumerate" = none
 range:mg "range" = none
 list:mg "list" = none
 max:mg "max" = none
 any:mg "any" = none
 zip:mg "zip" = none
 EXPONENTS:mg "EXPONENTS" = some (.ref (GY K))
 tuple:mg "tuple" = none
 sorted:mg "sorted" = none
 divmod:mg "divmod" = none
 isinstance:mg "isinstance" = none
 int:mg "int" = none
 bool:mg "bool" = none
 all:mg "all" = none
 xEXPONENTS:∀ H:Hp,SqT K H (GY K) (exps.map λe:Nat=>V.int (e:Int))
section
variable {P:Program} {w:World} {K:W.Frag} {mg:di} {base:Heap} {f:Addr} {fd:FuncData}
def K_ {n:Str} {st:Stmt} {N ps:dt} {k:Nat} {sp:Sp} {t:TS} (F:Fun K n n st f fd) (v:∀ {vs:c_} {H:Hp} {Q:VK} {E:XK},sp vs H Q E->t { nx:=λ_ g=>Q .non g,rt:=Q } (start N vs) H) (d:∀ {a:Value} {A:Around} {b:List Env} {s:Shared} {H:Hp} {E:XK} (c:Room k (A.deeper (envOfC n (Cl st) s.heap.objs.size f a))) (i:N.Nodup) (j:(A.deeper (envOfC n (Cl st) s.heap.objs.size f a)).units<cLine) (e:(A.deeper (envOfC n (Cl st) s.heap.objs.size f a)).units+64<cLine),PSs (GH aD P w K mg base N n (Cl st) f a A b s H E).nox (D2 st) t) (S:FnScope N ps (Cl st):=by exact ⟨rfl,rfl,rfl,by decide +kernel,rfl,by decide +kernel,by decide +kernel⟩) (len:∀ vs H Q E,sp vs H Q E->vs.length=ps.length:=by intro vs H Q E h;repeat (first | (obtain ⟨rfl,_⟩:=h;rfl) | obtain ⟨_,h⟩:=h)):FnOk P w K mg base aD (k+1) f fd ps sp:=F.ok S len λa A b s H vs Q E c h=>⟨t,d c S.nd c.units0 c.units,v h⟩
def li {a:Prop} {b:Type} {x:b}:x=x\/a:=Or.inl rfl
end
set_option maxHeartbeats 4000000
open Hd
def Mv {K:W.Frag} {st:Stmt} {f c:Addr} {n:Str} {pm:Value} (l:K.lookup f=some (J_ n st pm c)) (e:W.codeIn K (.ref c) n=true) (k:W.keepIn K (.ref f)=true):Fun K n n st f (W.fnOf n n (Em st) (D2 st) (Cl st) .none .none .none pm none (.ref c) .none):=Vr (st:=st) l e k
def pX {P:Program} {K:W.Frag} {w:World} {h c:Heap} {d:di} {k:Nat} {f:Addr} {g:FuncData} {n:Str} {ps:dt} {sp:Sp} (X:K.In h) (G:h.Ns mainGlobals d) (ok:FnOk P w K d c aD k f g ps sp) (b:Binds K g ps []) (e:W.keepIn K (.ref f)=true) (a:W.nsIn K mainGlobals n=some (some (.ref f))):Cal P w K d c k n ps sp:=⟨f,g,ok,b,e,W.mg_of X G a⟩
def Iw {a:dc} {n:Nat} (h:a.length=n+1):∃ x t,a=x::t/\t.length=n:=by cases a with | nil=>cases h | cons x t=>exact ⟨x,t,rfl,Nat.succ.inj h⟩
def UU (a:dc) (h:a.length=1):∃ b,a=[b]:=by obtain ⟨x,t,rfl,q⟩:=Iw h;exact ⟨x,by rw [CB.mp q]⟩
def UV (b:dc) (h:b.length=2):∃ c a,b=[c,a]:=by obtain ⟨x,t,rfl,q⟩:=Iw h;obtain ⟨a,rfl⟩:=UU t q;exact ⟨x,a,rfl⟩
def UW (c:dc) (h:c.length=3):∃ d a b,c=[d,a,b]:=by obtain ⟨x,t,rfl,q⟩:=Iw h;obtain ⟨a,b,rfl⟩:=UV t q;exact ⟨x,a,b,rfl⟩
def oA (d:dc) (h:d.length=4):∃ e a b c,d=[e,a,b,c]:=by obtain ⟨x,t,rfl,q⟩:=Iw h;obtain ⟨a,b,c,rfl⟩:=UW t q;exact ⟨x,a,b,c,rfl⟩
def oB (e:dc) (h:e.length=5):∃ f a b c d,e=[f,a,b,c,d]:=by obtain ⟨x,t,rfl,q⟩:=Iw h;obtain ⟨a,b,c,d,rfl⟩:=oA t q;exact ⟨x,a,b,c,d,rfl⟩
def Ak {P:Program} {K:W.Frag} {w:World} {h g:Heap} {j:di} {k:Nat} {f c:Addr} {n:Str} {ps:dt} {sp:Sp} {st:Stmt} {pm:Value} (X:K.In h) (G:h.Ns mainGlobals j) (ok:Fun K n n st f (W.fnOf n n (Em st) (D2 st) (Cl st) .none .none .none pm none (.ref c) .none)->FnOk P w K j g aD k f (W.fnOf n n (Em st) (D2 st) (Cl st) .none .none .none pm none (.ref c) .none) ps sp) (l:K.lookup f=some (J_ n st pm c):=by kernel_rfl) (e:W.codeIn K (.ref c) n=true:=by kernel_rfl) (q:W.keepIn K (.ref f)=true:=by kernel_rfl) (a:W.nsIn K mainGlobals n=some (some (.ref f)):=by kernel_rfl) (b:∀ (kV m pm:Value) (p:Option Addr) (o r:Value) (d:dc),d.length=ps.length->bindArgs (W.fnOf n n (Em st) (D2 st) (Cl st) .none kV m pm p o r) ⟨d,[]⟩=pure (ps.zip d):=by first | exact λ_ _ _ _ _ _ d i=>by obtain ⟨_,rfl⟩:=UU d i;rfl | exact λ_ _ _ _ _ _ d i=>by obtain ⟨_,_,rfl⟩:=UV d i;rfl | exact λ_ _ _ _ _ _ d i=>by obtain ⟨_,_,_,rfl⟩:=UW d i;rfl | exact λ_ _ _ _ _ _ d i=>by obtain ⟨_,_,_,_,_,rfl⟩:=oB d i;rfl):Cal P w K j g k n ps sp:=pX X G (ok (Mv l e q)) ((Mv l e q).binds b) q a
abbrev K' (P:Program) (w:World) (b:di) (a:Heap) (k:Nat) (n:Str) (ps:dt) (sp:W.Frag->Sp):Prop:=Cal P w (hp w.params) b a k n ps (sp (hp w.params))
section
variable {P:Program} {w:World} {mg:di} {base h:Heap} (X:(hp w.params).In h) (G:h.Ns mainGlobals mg) (B:Bl (hp w.params) mg)
include X G B
theorem Go:K' P w mg base 1 "common_divisor" ["one", "other"] Ew:=Ak (f:=22) (c:=21) (pm:=N_) (st:=Vs) X G λF=>K_ F (wF ) λb a d e=>(AI (Dz PassesOwn.never (cR EL (pv 1) AF) (AI (C' a (AT U9 (pv 0) (pv 1))) (AI (C' a (pv 1)) (AO (C' a (pv 2)))))) (AO (AW (Ao IE rfl B.abs ID (AD (pv 0) AH)))))
theorem oC:K' P w mg base 1 "raised" ["whole", "n"] Jp:=Ak (f:=29) (c:=28) (pm:=N_) (st:=Vt) X G λF=>K_ F (wG ) λb a d e=>(AI (C' a AF) (AI (C' a (pv 0)) (AI (Dz PassesOwn.never (cR Fe (pv 1) AF) (AI (BX (cR Cw (AT DM (pv 1) AF) AF) (AO (Fc (i:=2) a rfl li (pv 3) JK)) Ba) (AI (Fc (i:=1) a rfl li AF Xp) (AO (BX (cR Fe (pv 1) AF) (AO (Fc (i:=3) a rfl li (pv 3) JK)) Ba))))) (AO (AW (pv 2))))))
theorem Mw:K' P w mg base 1 "row_trimmed" ["row"] HK:=Ak (f:=41) (c:=40) (pm:=N_) (st:=Vv) X G λF=>K_ F (wK ) λb a d e=>(AI (C' a (Ao B5 rfl B.len BT (AD (pv 0) AH))) (AI (Dz PassesOwn.never (PW.pt (Eg (cR Fe (pv 1) AF) (Ef (cR Cw (A9 BD (pv 0) (AT CT (pv 1) AF) (λ_ _=>rfl)) AF)))) (AO (Fc (i:=1) a rfl li AF Hv))) (AO (AW (GK IG (pv 0) GI (GJ (pv 1)))))))
theorem UX:K' P w mg base 1 "row_parted" ["row", "divisor"] IU:=Ak (f:=46) (c:=45) (pm:=N_) (st:=Vw) X G λF=>K_ F (wU ) λa b d e=>(AO (AW (Cn (N:=["whole", "divisor"]) (capt:=[none,some 1]) rfl (BlkOk.of rfl rfl rfl rfl (C6.mpr rfl) rfl rfl rfl) (CH (pv 0)) (λ_ _ _ _=>(Aa (i:=0) (show (["whole", "divisor"]:List PySem.Str).Nodup by decide +kernel) rfl li)) (λ_ _ _ _=>(AT JT (pv 0) (pv 1))))))
theorem oD:K' P w mg base 1 "row_times" ["row", "other"] J0:=Ak (f:=53) (c:=52) (pm:=N_) (st:=Vx) X G λF=>K_ F (uJ ) λb a d e=>(AI (BX (PW.pt (Eh (Dn (Fj (pv 0) (λ_=>rfl))) (Gw (Dn (Fj (pv 1) (λ_=>rfl)))))) (AO (AW (BV AH))) Ba) (AI (C' a (AT Hz (BV (AD AF AH)) (AT CT (AT CN (Ao B5 rfl B.len BT (AD (pv 0) AH)) (Ao B5 rfl B.len BT (AD (pv 1) AH))) AF))) (AI (CI PassesOwn.never rfl (Kl rfl B.enumerate (AD (pv 0) AH)) (C9 rfl (BN (Aa (i:=3) a rfl li) (BN (Aa (i:=4) a rfl li) C7))) (AO (BX (cR EL (pv 4) AF) (AO (CI PassesOwn.never rfl (Kl rfl B.enumerate (AD (pv 1) AH)) (C9 rfl (BN (Aa (i:=5) a rfl li) (BN (Aa (i:=6) a rfl li) C7))) (AO (JA (pv 2) (AT CN (pv 3) (pv 5)) JR (AT Bq (pv 4) (pv 6)) VA Ek)))) Ba))) (AO (AW (pv 2))))))
theorem oE:K' P w mg base 1 "row_slope" ["row"] J7:=Ak (f:=58) (c:=57) (pm:=N_) (st:=Vy) X G λF=>K_ F (tG ) λa b d e=>(AO (AW (Cn (N:=["place", "row"]) (capt:=[none,some 0]) rfl (BlkOk.of rfl rfl rfl rfl (C6.mpr rfl) rfl rfl rfl) (U4 rfl B.range (AD AF (AD (Ao B5 rfl B.len BT (AD (pv 0) AH)) AH))) (λ_ _ _ _=>(Aa (i:=0) (show (["place", "row"]:List PySem.Str).Nodup by decide +kernel) rfl li)) (λ_ _ _ _=>(AT Bq (pv 0) (A9 BD (pv 1) (pv 0) (λ_ _=>rfl)))))))
theorem Ix:K' P w mg base 1 "row_over" ["row", "divisor"] Fv:=Ak (f:=65) (c:=64) (pm:=N_) (st:=Vz) X G λF=>K_ F (wZ ) λb a d e=>(AI (C' a (Ej Ny rfl B.list JJ (AD (pv 0) AH))) (AI (C' a (AT CT (Ao B5 rfl B.len BT (AD (pv 1) AH)) AF)) (AI (C' a (AT Hz (BV (AD AF AH)) (Ao (Kk rfl) rfl B.max Kj (AD (AT CT (Ao B5 rfl B.len BT (AD (pv 0) AH)) (pv 3)) (AD AF AH))))) (AI (CI PassesOwn.never rfl (N7 rfl B.range (AD (AT CT (AT CT (Ao B5 rfl B.len BT (AD (pv 0) AH)) (pv 3)) AF) (AD (BY BZ AF) (AD (BY BZ AF) AH)))) (Aa (i:=5) a rfl li) (AI (C' a (AT FM (A9 BD (pv 2) (AT CN (pv 5) (pv 3)) (λ_ _=>rfl)) (A9 BD (pv 1) (BY BZ AF) (λ_ _=>rfl)))) (AI (BX (cR EL (AT Bq (pv 6) (A9 BD (pv 1) (BY BZ AF) (λ_ _=>rfl))) (A9 BD (pv 2) (AT CN (pv 5) (pv 3)) (λ_ _=>rfl))) (AO (AW GE)) Ba) (AI (FE (pv 6) (FC (pv 4) (pv 5) Ek)) (AO (BX (cR EL (pv 6) AF) (AO (CI PassesOwn.never rfl (FG rfl B.range (AD (pv 3) AH)) (Aa (i:=7) a rfl li) (AO (JA (pv 2) (AT CN (pv 5) (pv 7)) JR (AT Bq (pv 6) (A9 BD (pv 1) (pv 7) (λ_ _=>rfl))) Hv Ek)))) Ba)))))) (AO (AW (Kc (DV (Ao (X3 rfl) rfl B.any X2 (AD (GK IG (pv 2) GI (GJ (pv 3))) AH))) GE (pv 4))))))))
theorem oF:K' P w mg base 1 "inverse_modulo" ["whole", "prime"] Jr:=Ak (f:=101) (c:=100) (pm:=N_) (st:=V5) X G λF=>K_ F (vD ) λb a d e=>(AI (C' a (pv 1)) (AI (C' a (AT DM (pv 0) (pv 1))) (AI (C' a AF) (AI (C' a AF) (AI (Dz PassesOwn.never (cR EL (pv 3) AF) (AI (C' a (AT JT (pv 2) (pv 3))) (AI (C' a (AT CT (pv 2) (AT Bq (pv 6) (pv 3)))) (AI (C' a (pv 3)) (AI (C' a (pv 7)) (AI (C' a (AT CT (pv 4) (AT Bq (pv 6) (pv 5)))) (AI (C' a (pv 5)) (AO (C' a (pv 7)))))))))) (AO (AW (AT DM (pv 4) (pv 1)))))))))
theorem oG:K' P w mg base 1 "rests_modulo" ["row", "prime"] Js:=Ak (f:=106) (c:=105) (pm:=N_) (st:=V6) X G λF=>K_ F (vA ) λa b d e=>(AO (AW (Cn (N:=["whole", "prime"]) (capt:=[none,some 1]) rfl (BlkOk.of rfl rfl rfl rfl (C6.mpr rfl) rfl rfl rfl) (CH (pv 0)) (λ_ _ _ _=>(Aa (i:=0) (show (["whole", "prime"]:List PySem.Str).Nodup by decide +kernel) rfl li)) (λ_ _ _ _=>(AT DM (pv 0) (pv 1))))))
theorem oH:K' P w mg base 1 "nearest" ["whole", "prime"] Jw:=Ak (f:=146) (c:=145) (pm:=N_) (st:=WC) X G λF=>K_ F (vF ) λb a d e=>(AI (C' a (AT DM (pv 0) (pv 1))) (AO (AW (Kc (cR Fe (AT Bq AF (pv 2)) (pv 1)) (AT CT (pv 2) (pv 1)) (pv 2)))))
theorem oI:K' P w mg base 1 "before" ["one", "other"] Lc:=Ak (f:=193) (c:=192) (pm:=ax) (st:=WJ) X G λF=>K_ F (sC ) λa b d e=>(AO (AW (Hy Hw (AT Bq (xI As (pv 0)) (xI As (pv 1))) (AT Bq (xI As (pv 1)) (xI As (pv 0))) (T_ _))))
theorem oJ:K' P w mg base 1 "size_of" ["one"] Lq:=Ak (f:=200) (c:=199) (pm:=ax) (st:=WK) X G λF=>K_ F (qJ ) λa b d e=>(AO (AW (A6 (AD (Ao IE rfl B.abs ID (AD (xI As (pv 0)) AH)) (AD (xI As (pv 0)) AH)))))
theorem KS:K' P w mg base 1 "poly" ["row"] Ga:=Ak (f:=207) (c:=206) (pm:=ad) (st:=WL) X G λF=>K_ F (wI ) λb a d e=>(AI (C' a (Ao B5 rfl B.len BT (AD (pv 0) AH))) (AI (Dz PassesOwn.never (PW.pt (Eg (cR Fe (pv 1) AF) (Ef (cR Cw (xI As (A9 BD (pv 0) (AT CT (pv 1) AF) (λ_ _=>rfl))) AF)))) (AO (Fc (i:=1) a rfl li AF Hv))) (AO (AW (Ej HA rfl B.tuple DY (AD (GK IG (pv 0) GI (GJ (pv 1))) AH))))))
theorem Iy:K' P w mg base 1 "degree" ["P"] Fx:=Ak (f:=214) (c:=213) (pm:=ad) (st:=WM) X G λF=>K_ F (sD ) λa b d e=>(AO (AW (AT CT (Ao Eo rfl B.len BT (AD (pv 0) AH)) AF)))
theorem oK:K' P w mg base 1 "_law_begin" ["_law_script"] Lb:=Ak (f:=307) (c:=306) (pm:=R_) (st:=Wb) X G λF=>K_ F (sK ) λb a d e=>(AI (C' a AF) (AI (CI PassesOwn.never rfl (CH (GK OB (pv 0) GI (GJ AF))) (Aa (i:=2) a rfl li) (AO (C' a (AT DM (AT CN (AT CN (AT Bq (pv 1) AF) (AT DM (pv 2) AF)) AF) AF)))) (AI (GP (i:=3) (N:=["_law_cell"]) (capt:=[none]) a rfl li rfl (BlkOk.of rfl rfl rfl rfl (λ_ h=>nomatch h) rfl rfl rfl) (CH (GK OB (pv 0) GI (GJ AF))) (λ_ _ _ _=>(Aa (i:=0) (show (["_law_cell"]:List PySem.Str).Nodup by decide +kernel) rfl li)) (λ_ _ _ _=>(Ao IE rfl B.abs ID (AD (pv 0) AH)))) (AO (AW (YI (JV (pv 3) (JV (pv 1) (JV (Hy Cw (AT DM (pv 1) AF) AF (T_ _)) (JV AF YH)))) ∅ ∅ (by decide +kernel)))))))
theorem EZ:K' P w mg base 1 "_law_take" ["_law_state", "_law_many"] Df:=Ak (f:=314) (c:=313) (pm:=R_) (st:=Wc) X G λF=>K_ F (tY ) λb a d e=>(AI (FE (AT CN (A9 D7 (pv 0) DI (λ_ _=>rfl)) AF) (FC (pv 0) DI OI)) (AI (BX (DV (A9 D7 (pv 0) DI (λ_ _=>rfl))) (AI (Dz PassesOwn.never (PW.pt (Eg (cR Fe (Ao B5 rfl B.len BT (AD (A9 D7 (pv 0) DI (λ_ _=>rfl)) AH)) AF) (Ef (cR Cw (xI BD (A9 D7 (pv 0) DI (λ_ _=>rfl))) AF)))) (AO (FB (El PySem.F.plainAttrs_list PySem.F.slot_list_pop PySem.F.type_list_pop YM (A9 D7 (pv 0) DI (λ_ _=>rfl)) (AD AF AH))))) (AI (BX (cR Cw (Ao B5 rfl B.len BT (AD (A9 D7 (pv 0) DI (λ_ _=>rfl)) AH)) AF) (AO (AW AF)) Ba) (AI (FE (Ao YJ rfl B.divmod YL (AD (xI BD (A9 D7 (pv 0) DI (λ_ _=>rfl))) (AD (pv 1) AH))) (C9 rfl (BN (FC (A9 D7 (pv 0) DI (λ_ _=>rfl)) AF Ek) (BN (Aa (i:=2) a rfl li) C7)))) (AO (AW (pv 2)))))) Ba) (AI (C' a (AT DM (AT Bq (AT CN (A9 D7 (pv 0) DI (λ_ _=>rfl)) (AT Bq AF (A9 D7 (pv 0) DI (λ_ _=>rfl)))) AF) AF)) (AI (FE (AT CN (AT DM (AT Bq (pv 3) (pv 3)) AF) (A9 D7 (pv 0) DI (λ_ _=>rfl))) (FC (pv 0) DI OI)) (AO (AW (AT DM (AT XQ (A9 D7 (pv 0) DI (λ_ _=>rfl)) AF) (pv 1))))))))
theorem Hs:K' P w mg base 1 "_law_whole" ["_law_row_here"] EU:=Ak (f:=333) (c:=332) (pm:=R_) (st:=Wf) X G λF=>K_ F (sE ) λa b d e=>(AO (AW (Ej HA rfl B.tuple DY (AD (Cn (N:=["_law_number_here"]) (capt:=[none]) rfl (BlkOk.of rfl rfl rfl rfl (λ_ h=>nomatch h) rfl rfl rfl) (CH (pv 0)) (λ_ _ _ _=>(Aa (i:=0) (show (["_law_number_here"]:List PySem.Str).Nodup by decide +kernel) rfl li)) (λ_ _ _ _=>(A6 (AD (pv 0) (AD AF AH))))) AH))))
theorem UY:K' P w mg base 1 "_law_is_number" ["_law_found"] J6:=Ak (f:=367) (c:=366) (pm:=R_) (st:=Wl) X G λF=>K_ F (sF ) λb a d e=>(AI (BX (PW.pt (Eh (Dn (DV (Ao Ep rfl B.isinstance En (AD (pv 0) (AD (Ee rfl B.tuple DY rfl) AH))))) (Gw (cR EL (Ao Eo rfl B.len BT (AD (pv 0) AH)) AF)))) (AO (AW Ed)) Ba) (AI (CI PassesOwn.never rfl (Fd (pv 0)) (Aa (i:=1) a rfl li) (AO (BX (PW.pt (Eh (Dn (DV (Ao Ep rfl B.isinstance En (AD (pv 1) (AD (Ee rfl B.int XN rfl) AH))))) (Gw (DV (Ao Ep rfl B.isinstance En (AD (pv 1) (AD (Ee rfl B.bool XO rfl) AH))))))) (AO (AW Ed)) Ba))) (AO (AW Ed))))
theorem UZ:K' P w mg base 2 "content" ["row", "start"] IT:=Ak (f:=34) (c:=33) (pm:=N_) (st:=Vu) X G λF=>K_ F (wT ) λb a d e=>(AI (C' a ((Go X G B).q2 b (X6 rfl B.min XJ (Yb (N:=["whole"]) (capt:=[none]) rfl (BlkOk.of rfl rfl rfl rfl (λ_ h=>nomatch h) rfl rfl rfl) (CH (pv 0)) (λ_ _ _ _=>(Aa (i:=0) (show (["whole"]:List PySem.Str).Nodup by decide +kernel) rfl li)) (λ_ _ _ _=>(cR EL (pv 0) AF)) (λ_ _ _ _=>(Ao IE rfl B.abs ID (AD (pv 0) AH))))) (pv 1))) (AI (CI PassesOwn.never rfl (CH (pv 0)) (Aa (i:=3) a rfl li) (AI (BX (cR Cw (pv 2) AF) (AO (AW AF)) Ba) (AO (C' a ((Go X G B).q2 b (pv 3) (pv 2)))))) (AO (AW (pv 2)))))
theorem Ua:K' P w mg base 2 "row_less" ["row", "factor", "other", "weight", "shift"] IV:=Ak (f:=70) (c:=69) (pm:=N_) (st:=V0) X G λF=>K_ F (wW ) λb a d e=>(AI (GP (i:=5) (N:=["whole", "factor"]) (capt:=[none,some 1]) a rfl li rfl (BlkOk.of rfl rfl rfl rfl (C6.mpr rfl) rfl rfl rfl) (CH (pv 0)) (λ_ _ _ _=>(Aa (i:=0) (show (["whole", "factor"]:List PySem.Str).Nodup by decide +kernel) rfl li)) (λ_ _ _ _=>(AT Bq (pv 1) (pv 0)))) (AI (FB (El PySem.F.plainAttrs_list PySem.F.slot_list_extend PySem.F.type_list_extend Vh (pv 5) (AD (AT Hz (BV (AD AF AH)) (AT CT (AT CN (Ao B5 rfl B.len BT (AD (pv 2) AH)) (pv 4)) (Ao B5 rfl B.len BT (AD (pv 0) AH)))) AH))) (AI (CI PassesOwn.never rfl (Kl rfl B.enumerate (AD (pv 2) AH)) (C9 rfl (BN (Aa (i:=6) a rfl li) (BN (Aa (i:=7) a rfl li) C7))) (AO (JA (pv 5) (AT CN (pv 6) (pv 4)) JR (AT Bq (pv 3) (pv 7)) Hv Ek))) (AO (AW ((Mw X G B).q1 b (pv 5)))))))
theorem My:K' P w mg base 2 "row_modulo" ["row", "prime"] HL:=Ak (f:=113) (c:=112) (pm:=N_) (st:=V7) X G λF=>K_ F (vC ) λa b d e=>(AO (AW ((Mw X G B).q1 a ((oG X G B).q2 a (pv 0) (pv 1)))))
theorem Mz:K' P w mg base 2 "monic_modulo" ["row", "prime"] HM:=Ak (f:=118) (c:=117) (pm:=N_) (st:=V8) X G λF=>K_ F (vE ) λa b d e=>(AI (BX (Dn (Fj (pv 0) (λ_=>rfl))) (AO (AW (BV AH))) Ba) (AI (DK (i:=2) b rfl (Or.inr rfl) ((oF X G B).q2 a (A9 BD (pv 0) (BY BZ AF) (λ_ _=>rfl)) (pv 1))) (AO (AW (Cn (N:=["whole", "prime", "factor"]) (capt:=[none,some 1,some 2]) rfl (BlkOk.of rfl rfl rfl rfl (GD.mpr ⟨rfl,(C6.mpr rfl)⟩) rfl rfl rfl) (CH (pv 0)) (λ_ _ _ _=>(Aa (i:=0) (show (["whole", "prime", "factor"]:List PySem.Str).Nodup by decide +kernel) rfl li)) (λ_ _ _ _=>(AT DM (AT Bq (pv 0) (pv 2)) (pv 1))))))))
theorem Ht:K' P w mg base 2 "ratio" ["top", "bottom"] Ex:=Ak (f:=165) (c:=164) (pm:=ax) (st:=WF) X G λF=>K_ F (wL ) λb a d e=>(AI (C' a ((Go X G B).q2 b (pv 0) (pv 1))) (AI (BX (cR Hw (pv 1) AF) (AO (C' a (BY BZ (pv 2)))) Ba) (AO (AW (A6 (AD (AT FM (pv 0) (pv 2)) (AD (AT FM (pv 1) (pv 2)) AH)))))))
theorem F6:K' P w mg base 2 "cleared" ["P"] ET:=Ak (f:=219) (c:=218) (pm:=ad) (st:=WN) X G λF=>K_ F (wM ) λb a d e=>(AI (DK (i:=1) a rfl (Or.inr rfl) AF) (AI (CI PassesOwn.never rfl (Oa (pv 0)) (Aa (i:=2) a rfl li) (AO (Fc (i:=1) a rfl (Or.inr rfl) (AT JT (xI As (pv 2)) ((Go X G B).q2 b (pv 1) (xI As (pv 2)))) JK))) (AO (AW (A6 (AD (Cn (N:=["number", "bottom"]) (capt:=[none,some 1]) rfl (BlkOk.of rfl rfl rfl rfl (C6.mpr rfl) rfl rfl rfl) (Oa (pv 0)) (λ_ _ _ _=>(Aa (i:=0) (show (["number", "bottom"]:List PySem.Str).Nodup by decide +kernel) rfl li)) (λ_ _ _ _=>(AT Bq (xI As (pv 0)) (AT JT (pv 1) (xI As (pv 0)))))) (AD (pv 1) AH)))))))
theorem Ub:K' P w mg base 2 "_law_pool" ["_law_state"] J5:=Ak (f:=338) (c:=337) (pm:=R_) (st:=Wg) X G λF=>K_ F (sM ) λb a d e=>(AI (C' a (AT JH (Cn (N:=["_law_k"]) (capt:=[none]) rfl (BlkOk.of rfl rfl rfl rfl (λ_ h=>nomatch h) rfl rfl rfl) (Fd (A6 (AD AF (AD AF (AD (BY BZ AF) (AD AF (AD (BY BZ AF) (AD AF AH)))))))) (λ_ _ _ _=>(Aa (i:=0) (show (["_law_k"]:List PySem.Str).Nodup by decide +kernel) rfl li)) (λ_ _ _ _=>((Hs X G B).q1 b (BV (AD (BY BZ (pv 0)) (AD AF AH)))))) (BV (AD (A6 (AD (A6 (AD AF (AD AF AH))) (AD (A6 (AD AF (AD AF AH))) AH))) (AD (A6 (AD (A6 (AD (BY BZ AF) (AD AF AH))) (AD (A6 (AD AF (AD AF AH))) AH))) AH))))) (AI (C' a (BV (AD (BV (AD (BY BZ AF) (AD AF (AD AF AH)))) (AD (BV (AD AF (AD AF (AD AF AH)))) (AD (BV (AD AF (AD AF (AD AF AH)))) (AD (BV (AD (BY BZ AF) (AD AF (AD AF AH)))) (AD (BV (AD (BY BZ AF) (AD AF (AD AF AH)))) (AD (BV (AD AF (AD AF (AD AF AH)))) (AD (BV (AD (BY BZ AF) (AD AF (AD AF AH)))) (AD (BV (AD AF (AD AF (AD AF AH)))) AH)))))))))) (AI (C' a (AT JH (pv 1) (Cn (N:=["_law_row_here"]) (capt:=[none]) rfl (BlkOk.of rfl rfl rfl rfl (λ_ h=>nomatch h) rfl rfl rfl) (CH (pv 2)) (λ_ _ _ _=>(Aa (i:=0) (show (["_law_row_here"]:List PySem.Str).Nodup by decide +kernel) rfl li)) (λ_ _ _ _=>((Hs X G B).q1 b (pv 0)))))) (AI (C' a (AT JH (pv 3) (Cn (N:=["_law_row_here"]) (capt:=[none]) rfl (BlkOk.of rfl rfl rfl rfl (λ_ h=>nomatch h) rfl rfl rfl) (Fd (A6 (AD (BV (AD (BY BZ AF) (AD AF (AD AF (AD AF AH))))) (AD (BV (AD AF (AD AF (AD AF (AD AF AH))))) (AD (BV (AD (BY BZ AF) (AD (BY BZ AF) (AD AF (AD AF AH))))) AH))))) (λ_ _ _ _=>(Aa (i:=0) (show (["_law_row_here"]:List PySem.Str).Nodup by decide +kernel) rfl li)) (λ_ _ _ _=>((Hs X G B).q1 b (pv 0)))))) (AO (AW (pv 3)))))))
theorem M3:K' P w mg base 2 "_law_is_poly" ["_law_found"] Ib:=Ak (f:=372) (c:=371) (pm:=R_) (st:=Wm) X G λF=>K_ F (sG ) λa b d e=>(AO (AW (GF (Ao Ep rfl B.isinstance En (AD (pv 0) (AD (Ee rfl B.tuple DY rfl) AH))) (Kb (Ao (Xo rfl) rfl B.all XM (AD (Cn (N:=["_law_one_here"]) (capt:=[none]) rfl (BlkOk.of rfl rfl rfl rfl (λ_ h=>nomatch h) rfl rfl rfl) (Fd (pv 0)) (λ_ _ _ _=>(Aa (i:=0) (show (["_law_one_here"]:List PySem.Str).Nodup by decide +kernel) rfl li)) (λ_ _ _ _=>((UY X G B).q1 a (pv 0)))) AH))))))
theorem Uc:K' P w mg base 3 "strand_shortened" ["strand"] IW:=Ak (f:=80) (c:=79) (pm:=N_) (st:=V2) X G λF=>K_ F (vJ ) λb a d e=>(AI (DK (i:=1) a rfl (Or.inr rfl) AF) (AI (CI PassesOwn.never rfl (CH (pv 0)) (Aa (i:=2) a rfl li) (AO (DK (i:=1) a rfl (Or.inr rfl) ((UZ X G B).q2 b (pv 2) (pv 1))))) (AO (AW (Cn (N:=["row", "shared"]) (capt:=[none,some 1]) rfl (BlkOk.of rfl rfl rfl rfl (C6.mpr rfl) rfl rfl rfl) (CH (pv 0)) (λ_ _ _ _=>(Aa (i:=0) (show (["row", "shared"]:List PySem.Str).Nodup by decide +kernel) rfl li)) (λ_ _ _ _=>((UX X G B).q2 b (pv 0) (pv 1))))))))
theorem oM:K' P w mg base 3 "split_modulo" ["row", "divisor", "modulus"] Jt:=Ak (f:=125) (c:=124) (pm:=N_) (st:=V9) X G λF=>K_ F (vI ) λb a d e=>(AI (C' a (Ej Ny rfl B.list JJ (AD (pv 0) AH))) (AI (C' a (AT CT (Ao B5 rfl B.len BT (AD (pv 1) AH)) AF)) (AI (C' a (AT Hz (BV (AD AF AH)) (Ao (Kk rfl) rfl B.max Kj (AD (AT CT (Ao B5 rfl B.len BT (AD (pv 0) AH)) (pv 4)) (AD AF AH))))) (AI (CI PassesOwn.never rfl (N7 rfl B.range (AD (AT CT (AT CT (Ao B5 rfl B.len BT (AD (pv 0) AH)) (pv 4)) AF) (AD (BY BZ AF) (AD (BY BZ AF) AH)))) (Aa (i:=6) a rfl li) (AI (C' a (AT DM (A9 BD (pv 3) (AT CN (pv 6) (pv 4)) (λ_ _=>rfl)) (pv 2))) (AI (FE (pv 7) (FC (pv 5) (pv 6) Ek)) (AO (BX (cR EL (pv 7) AF) (AO (CI PassesOwn.never rfl (FG rfl B.range (AD (pv 4) AH)) (Aa (i:=8) a rfl li) (AO (JA (pv 3) (AT CN (pv 6) (pv 8)) JR (AT Bq (pv 7) (A9 BD (pv 1) (pv 8) (λ_ _=>rfl))) Hv Ek)))) Ba))))) (AO (AW (A6 (AD ((Mw X G B).q1 b (pv 5)) (AD ((My X G B).q2 b (GK IG (pv 3) GI (GJ (pv 4))) (pv 2)) AH)))))))))
theorem Ud:K' P w mg base 3 "plus" ["one", "other"] J1:=Ak (f:=172) (c:=171) (pm:=ax) (st:=WG) X G λF=>K_ F (uO ) λa b d e=>(AO (AW ((Ht X G B).q2 a (AT CN (AT Bq (xI As (pv 0)) (xI As (pv 1))) (AT Bq (xI As (pv 1)) (xI As (pv 0)))) (AT Bq (xI As (pv 0)) (xI As (pv 1))))))
theorem M4:K' P w mg base 3 "times" ["one", "other"] IZ:=Ak (f:=179) (c:=178) (pm:=ax) (st:=WH) X G λF=>K_ F (uH ) λa b d e=>(AO (AW ((Ht X G B).q2 a (AT Bq (xI As (pv 0)) (xI As (pv 1))) (AT Bq (xI As (pv 0)) (xI As (pv 1))))))
theorem oO:K' P w mg base 3 "over" ["one", "other"] Jz:=Ak (f:=186) (c:=185) (pm:=ax) (st:=WI) X G λF=>K_ F (uI ) λa b d e=>(AO (AW ((Ht X G B).q2 a (AT Bq (xI As (pv 0)) (xI As (pv 1))) (AT Bq (xI As (pv 0)) (xI As (pv 1))))))
theorem KT:K' P w mg base 3 "uncleared" ["row", "bottom"] Gb:=Ak (f:=224) (c:=223) (pm:=ad) (st:=WO) X G λF=>K_ F (wN ) λa b d e=>(AO (AW ((KS X G B).q1 a (Cn (N:=["whole", "bottom"]) (capt:=[none,some 1]) rfl (BlkOk.of rfl rfl rfl rfl (C6.mpr rfl) rfl rfl rfl) (CH (pv 0)) (λ_ _ _ _=>(Aa (i:=0) (show (["whole", "bottom"]:List PySem.Str).Nodup by decide +kernel) rfl li)) (λ_ _ _ _=>((Ht X G B).q2 a (pv 0) (pv 1)))))))
theorem M5:K' P w mg base 3 "_law_number" ["_law_state"] HP:=Ak (f:=321) (c:=320) (pm:=R_) (st:=Wd) X G λF=>K_ F (sA ) λa b d e=>(AI (C' b (AT CT ((EZ X G B).q2 a (pv 0) AF) AF)) (AI (BX (cR Cw ((EZ X G B).q2 a (pv 0) AF) AF) (AO (C' b (AT Bq (pv 1) AF))) Ba) (AO (AW ((Ht X G B).q2 a (pv 1) (AT CN AF ((EZ X G B).q2 a (pv 0) AF)))))))
theorem oP:K' P w mg base 3 "_law_some" ["_law_state", "_law_many", "_law_most"] Ld:=Ak (f:=343) (c:=342) (pm:=R_) (st:=Wh) X G λF=>K_ F (sW ) λb a e d=>(AI (C' a ((Ub X G B).q1 b (pv 0))) (AI (DK (i:=4) a rfl (Or.inr rfl) (BV AH)) (AI (DK (i:=5) a rfl (Or.inr rfl) (pv 2)) (AI (CI PassesOwn.never rfl (FG rfl B.range (AD (pv 1) AH)) (Aa (i:=6) a rfl li) (AI (YZ (i:=7) (N:=["_law_part", "_law_room", "_law_found"]) (capt:=[none,some 5,some 4]) a rfl li rfl (BlkOk.of rfl rfl rfl rfl (GD.mpr ⟨rfl,(C6.mpr rfl)⟩) rfl rfl rfl) (CH (pv 3)) (λ_ _ _ _=>(Aa (i:=0) (show (["_law_part", "_law_room", "_law_found"]:List PySem.Str).Nodup by decide +kernel) rfl li)) (λ_ _ _ _=>(PW.pt (Eg (cR VC ((Iy X G B).q1 b (pv 0)) (pv 1)) (Ef (NM (YD d) (pv 0) (pv 2) rfl))))) (λ_ _ _ _=>(pv 0))) (AO (BX (cR (JQ d) (pv 7) (BV AH)) (AI (FB (El PySem.F.plainAttrs_list PySem.F.slot_list_append PySem.F.type_list_append G4 (pv 4) (AD (A9 BD (pv 7) ((EZ X G B).q2 b (pv 0) (Ao B5 rfl B.len BT (AD (pv 7) AH))) (λ_ _=>rfl)) AH))) (AO (DK (i:=5) a rfl (Or.inr rfl) (AT CT (pv 5) ((Iy X G B).q1 b (A9 BD (pv 4) (BY BZ AF) (λ_ _=>rfl))))))) Ba)))) (AO (AW (pv 4)))))))
theorem oQ:K' P w mg base 3 "_law_lines" ["_law_state"] Le:=Ak (f:=348) (c:=347) (pm:=R_) (st:=Wi) X G λF=>K_ F (sZ ) λa b d e=>(AI (DK (i:=1) b rfl (Or.inr rfl) (GK IG ((Ub X G B).q1 a (pv 0)) GI (GJ AF))) (AI (DK (i:=2) b rfl (Or.inr rfl) ((EZ X G B).q2 a (pv 0) AF)) (AO (AW (Cn (N:=["_law_k", "_law_lines_here", "_law_first"]) (capt:=[none,some 1,some 2]) rfl (BlkOk.of rfl rfl rfl rfl (GD.mpr ⟨rfl,(C6.mpr rfl)⟩) rfl rfl rfl) (FG rfl B.range (AD (AT CN AF ((EZ X G B).q2 a (pv 0) AF)) AH)) (λ_ _ _ _=>(Aa (i:=0) (show (["_law_k", "_law_lines_here", "_law_first"]:List PySem.Str).Nodup by decide +kernel) rfl li)) (λ_ _ _ _=>(A9 BD (pv 1) (AT DM (AT CN (pv 2) (pv 0)) AF) (λ_ _=>rfl))))))))
theorem oR:K' P w mg base 3 "_law_is_fraction" ["_law_found"] Lh:=Ak (f:=379) (c:=378) (pm:=R_) (st:=Wn) X G λF=>K_ F (sI ) λa b d e=>(AO (AW (GF (Ao Ep rfl B.isinstance En (AD (pv 0) (AD (Ee rfl B.tuple DY rfl) AH))) (GF (Hy Cw (Ao Eo rfl B.len BT (AD (pv 0) AH)) AF (T_ _)) (GF ((M3 X G B).q1 a (xI As (pv 0))) (Kb ((M3 X G B).q1 a (xI As (pv 0)))))))))
theorem oS:K' P w mg base 3 "_law_is_logs" ["_law_found"] Lk:=Ak (f:=386) (c:=385) (pm:=R_) (st:=Wp) X G λF=>K_ F (pK ) λa b d e=>(AI (BX (Dn (DV (Ao Ep rfl B.isinstance En (AD (pv 0) (AD (Ee rfl B.tuple DY rfl) AH))))) (AO (AW Ed)) Ba) (AI (CI PassesOwn.never rfl (Fd (pv 0)) (Aa (i:=1) b rfl li) (AO (BX (PW.pt (Eh (Dn (DV (Ao Ep rfl B.isinstance En (AD (pv 1) (AD (Ee rfl B.tuple DY rfl) AH))))) (Eh (cR EL (Ao Eo rfl B.len BT (AD (pv 1) AH)) AF) (Eh (Dn (DV ((UY X G B).q1 a (xI As (pv 1))))) (Gw (Dn (DV ((M3 X G B).q1 a (xI As (pv 1)))))))))) (AO (AW Ed)) Ba))) (AO (AW Ed))))
theorem oT:K' P w mg base 4 "strand_rest" ["strand", "other"] Jq:=Ak (f:=75) (c:=74) (pm:=N_) (st:=V1) X G λF=>K_ F (vM ) λb a d e=>(AI (Dz PassesOwn.never (cR NK (Ao B5 rfl B.len BT (AD (xI BD (pv 0)) AH)) (Ao B5 rfl B.len BT (AD (xI BD (pv 1)) AH))) (AI (DK (i:=2) a rfl (Or.inr rfl) (AT CT (Ao B5 rfl B.len BT (AD (xI BD (pv 0)) AH)) (Ao B5 rfl B.len BT (AD (xI BD (pv 1)) AH)))) (AI (C' a (A9 BD (xI BD (pv 0)) (BY BZ AF) (λ_ _=>rfl))) (AI (C' a (A9 BD (xI BD (pv 1)) (BY BZ AF) (λ_ _=>rfl))) (AI (C' a ((Go X G B).q2 b (pv 3) (pv 4))) (AI (DK (i:=6) a rfl (Or.inr rfl) (AT FM (pv 4) (pv 5))) (AI (DK (i:=7) a rfl (Or.inr rfl) (AT FM (pv 3) (pv 5))) (AO (GP (i:=0) (N:=["row", "follower", "factor", "weight", "shift"]) (capt:=[none,none,some 6,some 7,some 2]) a rfl li rfl (BlkOk.of rfl rfl rfl rfl (GD.mpr ⟨rfl,(GD.mpr ⟨rfl,(C6.mpr rfl)⟩)⟩) rfl rfl rfl) (X1 rfl B.zip (AD (pv 0) (AD (pv 1) AH))) (λ_ _ _ _=>(C9 rfl (BN (Aa (i:=0) (show (["row", "follower", "factor", "weight", "shift"]:List PySem.Str).Nodup by decide +kernel) rfl li) (BN (Aa (i:=1) (show (["row", "follower", "factor", "weight", "shift"]:List PySem.Str).Nodup by decide +kernel) rfl li) C7)))) (λ_ _ _ _=>((Ua X G B).pe b ∅ rfl (AD (pv 0) (AD (pv 2) (AD (pv 1) (AD (pv 3) (AD (pv 4) AH)))))))))))))))) (AO (AW ((Uc X G B).q1 b (pv 0)))))
theorem KU:K' P w mg base 4 "row_shortened" ["row"] GZ:=Ak (f:=87) (c:=86) (pm:=N_) (st:=V3) X G λF=>K_ F (vL ) λa b d e=>(AO (AW (xI BD ((Uc X G B).q1 a (BV (AD (pv 0) AH))))))
theorem oU:K' P w mg base 4 "rest_modulo" ["row", "divisor", "modulus"] Ju:=Ak (f:=132) (c:=131) (pm:=N_) (st:=WA) X G λF=>K_ F (vG ) λa b d e=>(AO (AW (xI As ((oM X G B).q3 a (pv 0) (pv 1) (pv 2)))))
theorem KW:K' P w mg base 4 "p_times" ["P", "Q"] Fw:=Ak (f:=231) (c:=230) (pm:=ad) (st:=WP) X G λF=>K_ F (uK ) λa b d e=>(AI (C' b ((F6 X G B).q1 a (pv 0))) (AI (C' b ((F6 X G B).q1 a (pv 1))) (AO (AW ((KT X G B).q2 a ((oD X G B).q2 a (xI As (pv 2)) (xI As (pv 3))) (AT Bq (xI As (pv 2)) (xI As (pv 3))))))))
theorem Ue:K' P w mg base 4 "p_scaled" ["P", "c"] Ia:=Ak (f:=236) (c:=235) (pm:=ad) (st:=WQ) X G λF=>K_ F (uL ) λa b d e=>(AO (AW ((KS X G B).q1 a (Cn (N:=["number", "c"]) (capt:=[none,some 1]) rfl (BlkOk.of rfl rfl rfl rfl (C6.mpr rfl) rfl rfl rfl) (Fd (pv 0)) (λ_ _ _ _=>(Aa (i:=0) (show (["number", "c"]:List PySem.Str).Nodup by decide +kernel) rfl li)) (λ_ _ _ _=>((M4 X G B).q2 a (pv 0) (pv 1)))))))
theorem oV:K' P w mg base 4 "p_split" ["P", "Q"] Jy:=Ak (f:=243) (c:=242) (pm:=ad) (st:=WR) X G λF=>K_ F (uF ) λb a d e=>(AI (C' a ((F6 X G B).q1 b (pv 0))) (AI (C' a ((F6 X G B).q1 b (pv 1))) (AI (C' a (xI As (pv 2))) (AI (C' a (xI As (pv 2))) (AI (C' a (A9 BD (xI As (pv 3)) (BY BZ AF) (λ_ _=>rfl))) (AI (C' a (AT Hz (BV (AD (A6 (AD AF (AD AF AH))) AH)) (Ao (Kk rfl) rfl B.max Kj (AD (AT CN (AT CT (Ao Eo rfl B.len BT (AD (pv 0) AH)) (Ao Eo rfl B.len BT (AD (pv 1) AH))) AF) (AD AF AH))))) (AI (Dz PassesOwn.never (cR NK (Ao B5 rfl B.len BT (AD (pv 4) AH)) (Ao Eo rfl B.len BT (AD (pv 1) AH))) (AI (C' a (AT CT (Ao B5 rfl B.len BT (AD (pv 4) AH)) (Ao Eo rfl B.len BT (AD (pv 1) AH)))) (AI (FE ((Ht X G B).q2 b (AT Bq (A9 BD (pv 4) (BY BZ AF) (λ_ _=>rfl)) (xI As (pv 3))) (AT Bq (pv 5) (pv 6))) (FC (pv 7) (pv 8) Ek)) (AI (C' a ((Go X G B).q2 b (A9 BD (pv 4) (BY BZ AF) (λ_ _=>rfl)) (pv 6))) (AI (C' a ((Ua X G B).pe b ∅ rfl (AD (pv 4) (AD (AT FM (pv 6) (pv 9)) (AD (xI As (pv 3)) (AD (AT FM (A9 BD (pv 4) (BY BZ AF) (λ_ _=>rfl)) (pv 9)) (AD (pv 8) AH))))))) (AI (Fc (i:=5) a rfl li (AT FM (pv 6) (pv 9)) JK) (AI (C' a ((UZ X G B).q2 b (pv 4) (pv 5))) (AI (C' a ((UX X G B).q2 b (pv 4) (pv 10))) (AO (Fc (i:=5) a rfl li (pv 10) X8)))))))))) (AO (AW (A6 (AD ((KS X G B).q1 b (pv 7)) (AD ((KT X G B).q2 b (pv 4) (pv 5)) AH))))))))))))
theorem oW:K' P w mg base 4 "made_monic" ["row"] J8:=Ak (f:=285) (c:=284) (pm:=cF) (st:=WX) X G λF=>K_ F (tH ) λa b d e=>(AO (AW ((KT X G B).q2 a (pv 0) (A9 BD (pv 0) (BY BZ AF) (λ_ _=>rfl)))))
theorem oX:K' P w mg base 4 "_law_other" ["_law_state"] J4:=Ak (f:=328) (c:=327) (pm:=R_) (st:=We) X G λF=>K_ F (sB ) λa b e d=>(AI (C' b ((M5 X G B).q1 a (pv 0))) (AI (BX (cR (Km d) (pv 1) (A6 (AD AF (AD AF AH)))) (AO (AW (A6 (AD AF (AD AF AH))))) Ba) (AO (AW (pv 1)))))
theorem oY:K' P w mg base 4 "_law_is_form" ["_law_found"] Lo:=Ak (f:=393) (c:=392) (pm:=R_) (st:=Wq) X G λF=>K_ F (qK ) λa b d e=>(AO (AW (GF (Ao Ep rfl B.isinstance En (AD (pv 0) (AD (Ee rfl B.tuple DY rfl) AH))) (GF (Hy Cw (Ao Eo rfl B.len BT (AD (pv 0) AH)) AF (T_ _)) (GF ((oR X G B).q1 a (xI As (pv 0))) (Kb ((oS X G B).q1 a (xI As (pv 0)))))))))
theorem oZ:K' P w mg base 5 "strand_euclid" ["strand", "other"] IX:=Ak (f:=94) (c:=93) (pm:=N_) (st:=V4) X G λF=>K_ F (vN ) λb a d e=>(AI (Dz PassesOwn.never (Fj (xI BD (pv 1)) (λ_=>rfl)) (AI (BX (cR Cw (Ao B5 rfl B.len BT (AD (xI BD (pv 1)) AH)) AF) (AO (AW (pv 1))) Ba) (AI (C' a ((oT X G B).q2 b (pv 0) (pv 1))) (AI (C' a (pv 1)) (AO (C' a (pv 2))))))) (AO (AW (pv 0))))
theorem nC:K' P w mg base 5 "euclid_modulo" ["row", "other", "prime"] Jv:=Ak (f:=139) (c:=138) (pm:=N_) (st:=WB) X G λF=>K_ F (vH ) λa b d e=>(AI (C' b ((Mz X G B).q2 a ((My X G B).q2 a (pv 0) (pv 2)) (pv 2))) (AI (C' b ((Mz X G B).q2 a ((My X G B).q2 a (pv 1) (pv 2)) (pv 2))) (AI (Dz PassesOwn.never (Fj (pv 1) (λ_=>rfl)) (AI (C' b ((oU X G B).q3 a (pv 0) (pv 1) (pv 2))) (AI (C' b (pv 1)) (AO (C' b ((Mz X G B).q2 a (pv 3) (pv 2))))))) (AO (AW (pv 0))))))
theorem nE:K' P w mg base 5 "evened" ["P", "Q"] J2:=Ak (f:=264) (c:=263) (pm:=bI) (st:=WU) X G λF=>K_ F (uN ) λa b d e=>(AI (C' b ((oO X G B).q2 a (A6 (AD AF (AD AF AH))) (A9 As (pv 1) (BY BZ AF) (λ_ _=>rfl)))) (AO (AW (A6 (AD ((Ue X G B).q2 a (pv 0) (pv 2)) (AD ((Ue X G B).q2 a (pv 1) (pv 2)) AH))))))
theorem KY:K' P w mg base 5 "quotient" ["P", "Q"] Gc:=Ak (f:=271) (c:=270) (pm:=bI) (st:=WV) X G λF=>K_ F (uM ) λa b d e=>(AO (AW (xI As ((oV X G B).q2 a (pv 0) (pv 1)))))
theorem nF:K' P w mg base 5 "gathered" ["pieces"] Lj:=Ak (f:=302) (c:=301) (pm:=bJ) (st:=Wa) X G λF=>K_ F (rK ) λb a e d=>(AI (DK (i:=1) a rfl (Or.inr rfl) YS) (AI (CI PassesOwn.never rfl (CH (pv 0)) (C9 rfl (BN (Aa (i:=2) a rfl li) (BN (Aa (i:=3) a rfl li) C7))) (AO (BX (PW.pt (Eg (cR EL (xI As (pv 2)) AF) (Ef (cR Fe ((Iy X G B).q1 b (pv 3)) AF)))) (AO (FE ((KW X G B).q2 b (El PySem.F.plainAttrs_dict PySem.F.slot_dict_get PySem.F.type_dict_get (Yd d) (pv 1) (AD (pv 2) (AD (A6 (AD (A6 (AD AF (AD AF AH))) AH)) AH))) (pv 3)) (FC (pv 1) (pv 2) (YR d)))) Ba))) (AI (C' a (xI As ((F6 X G B).q1 b (Ej (OP rfl) rfl B.list JJ (AD (pv 1) AH))))) (AO (AW (Ej HA rfl B.tuple DY (AD (Cn (N:=["top", "c", "found"]) (capt:=[none,none,some 1]) rfl (BlkOk.of rfl rfl rfl rfl (C6.mpr rfl) rfl rfl rfl) (CH (Y2 rfl B.sorted rfl B.zip rfl (AD (pv 4) (AD (Ej (OP rfl) rfl B.list JJ (AD (pv 1) AH)) AH)))) (λ_ _ _ _=>(C9 rfl (BN (Aa (i:=0) (show (["top", "c", "found"]:List PySem.Str).Nodup by decide +kernel) rfl li) (BN (Aa (i:=1) (show (["top", "c", "found"]:List PySem.Str).Nodup by decide +kernel) rfl li) C7)))) (λ_ _ _ _=>(A6 (AD (pv 1) (AD (A9 (Yc d) (pv 2) (pv 1) (λ_ _=>rfl)) AH))))) AH)))))))
theorem nG:K' P w mg base 5 "_law_laid" ["_law_pairs"] Li:=Ak (f:=355) (c:=354) (pm:=R_) (st:=Wj) X G λF=>K_ F (rO ) λb a e d=>(AI (C' a (BV AH)) (AI (CI PassesOwn.never rfl (CH (pv 0)) (C9 rfl (BN (Aa (i:=2) a rfl li) (BN (Aa (i:=3) a rfl li) C7))) (AI (C' a AF) (AI (Dz PassesOwn.never (PW.pt (Eg (cR Hw (pv 4) (Ao B5 rfl B.len BT (AD (pv 1) AH))) (Ef (DV ((oI X G B).q2 b (xI As (A9 BD (pv 1) (pv 4) (λ_ _=>rfl))) (pv 2)))))) (AO (C' a (AT CN (pv 4) AF)))) (AO (BX (PW.pt (Eg (cR Hw (pv 4) (Ao B5 rfl B.len BT (AD (pv 1) AH))) (Ef (cR (Km d) (xI As (A9 BD (pv 1) (pv 4) (λ_ _=>rfl))) (pv 2))))) (AO (FE (A6 (AD (pv 2) (AD ((KW X G B).q2 b (xI As (A9 BD (pv 1) (pv 4) (λ_ _=>rfl))) (pv 3)) AH))) (FC (pv 1) (pv 4) Ek))) (AO (BX (cR (JQ d) (pv 2) (A6 (AD AF (AD AF AH)))) (AO (FB (El PySem.F.plainAttrs_list PySem.F.slot_list_insert PySem.F.type_list_insert YK (pv 1) (AD (pv 4) (AD (A6 (AD (pv 2) (AD (pv 3) AH))) AH))))) Ba))))))) (AO (AW (Ej HA rfl B.tuple DY (AD (pv 1) AH))))))
theorem nH:K' P w mg base 5 "_law_row" ["_law_state", "_law_parts"] Ls:=Ak (f:=400) (c:=399) (pm:=R_) (st:=Wr) X G λF=>K_ F (qY ) λa b d e=>(AI (C' b ((oX X G B).q1 a (pv 0))) (AI (C' b (A6 (AD (pv 2) AH))) (AI (C' b (BV AH)) (AI (CI PassesOwn.never rfl (CH (pv 1)) (Aa (i:=5) b rfl li) (AI (FB (El PySem.F.plainAttrs_list PySem.F.slot_list_append PySem.F.type_list_append G4 (pv 4) (AD AF AH))) (AO (CI PassesOwn.never rfl (FG rfl B.range (AD ((EZ X G B).q2 a (pv 0) AF) AH)) (Aa (i:=6) b rfl li) (AO (BX (cR Hw (AT CN ((Iy X G B).q1 a (pv 3)) ((Iy X G B).q1 a (pv 5))) AF) (AI (C' b ((KW X G B).q2 a (pv 3) (pv 5))) (AO (FE (AT CN (A9 BD (pv 4) (BY BZ AF) (λ_ _=>rfl)) AF) (FC (pv 4) (BY BZ AF) Ek)))) Ba)))))) (AO (AW (A6 (AD ((M5 X G B).q1 a (pv 0)) (AD (pv 3) (AD (pv 4) (AD (A6 (AD (Ao IE rfl B.abs ID (AD (xI As (pv 2)) AH)) (AD (xI As (pv 2)) AH))) AH)))))))))))
theorem nI:K' P w mg base 6 "common_by_prime" ["row", "other", "prime"] Jx:=Ak (f:=151) (c:=150) (pm:=N_) (st:=WD) X G λF=>K_ F (vU ) λa b d e=>(AI (DK (i:=3) b rfl (Or.inr rfl) ((Go X G B).q2 a (A9 BD (pv 0) (BY BZ AF) (λ_ _=>rfl)) (A9 BD (pv 1) (BY BZ AF) (λ_ _=>rfl)))) (AI (BX (cR Cw (AT DM (pv 3) (pv 2)) AF) (AO (AW GE)) Ba) (AI (C' b ((nC X G B).q3 a (pv 0) (pv 1) (pv 2))) (AI (C' b ((KU X G B).q1 a (Cn (N:=["whole", "prime", "lead"]) (capt:=[none,some 2,some 3]) rfl (BlkOk.of rfl rfl rfl rfl (GD.mpr ⟨rfl,(C6.mpr rfl)⟩) rfl rfl rfl) (CH (pv 4)) (λ_ _ _ _=>(Aa (i:=0) (show (["whole", "prime", "lead"]:List PySem.Str).Nodup by decide +kernel) rfl li)) (λ_ _ _ _=>((oH X G B).q2 a (AT Bq (pv 2) (pv 0)) (pv 1)))))) (AI (BX (PW.pt (Eh (cR NL ((Ix X G B).q2 a (pv 0) (pv 5)) GE) (Gw (cR NL ((Ix X G B).q2 a (pv 1) (pv 5)) GE)))) (AO (AW GE)) Ba) (AO (AW (pv 5))))))))
theorem M6:K' P w mg base 7 "row_common" ["row", "other"] HN:=Ak (f:=158) (c:=157) (pm:=N_) (st:=WE) X G λF=>K_ F (vZ B.xEXPONENTS ) λa b d e=>(AI (C' b ((KU X G B).q1 a (pv 0))) (AI (C' b ((KU X G B).q1 a (pv 1))) (AI (BX (PW.pt (Eg (Fj (pv 0) (λ_=>rfl)) (Ef (Fj (pv 1) (λ_=>rfl))))) (AO (CI PassesOwn.never rfl (Fd (Uv rfl B.EXPONENTS rfl)) (Aa (i:=4) b rfl li) (AI (C' b ((nI X G B).q3 a (pv 2) (pv 3) (AT CT ((oC X G B).q2 a AF (pv 4)) AF))) (AO (BX (cR VD (pv 5) GE) (AO (AW (pv 5))) Ba))))) Ba) (AO (AW (xI BD ((oZ X G B).q2 a (BV (AD (pv 2) AH)) (BV (AD (pv 3) AH)))))))))
theorem Ug:K' P w mg base 8 "common" ["P", "Q"] IY:=Ak (f:=250) (c:=249) (pm:=ad) (st:=WS) X G λF=>K_ F (uC ) λa b d e=>(AI (C' b ((M6 X G B).q2 a (xI As ((F6 X G B).q1 a (pv 0))) (xI As ((F6 X G B).q1 a (pv 1))))) (AO (AW (Kc (Fj (pv 2) (λ_=>rfl)) ((KT X G B).q2 a (pv 2) (A9 BD (pv 2) (BY BZ AF) (λ_ _=>rfl))) (A6 AH)))))
theorem nJ:K' P w mg base 8 "simple_parts" ["P"] Lm:=Ak (f:=278) (c:=277) (pm:=cF) (st:=WW) X G λF=>K_ F (tK ) λa b d e=>(AI (C' b ((KU X G B).q1 a (xI As ((F6 X G B).q1 a (pv 0))))) (AI (C' b ((M6 X G B).q2 a (pv 1) ((oE X G B).q1 a (pv 1)))) (AI (C' b ((Ix X G B).q2 a (pv 1) (pv 2))) (AI (C' b (BV AH)) (AI (Dz PassesOwn.never (cR Fe (Ao B5 rfl B.len BT (AD (pv 3) AH)) AF) (AI (C' b ((M6 X G B).q2 a (pv 3) (pv 2))) (AI (FB (El PySem.F.plainAttrs_list PySem.F.slot_list_append PySem.F.type_list_append G4 (pv 4) (AD ((oW X G B).q1 a ((Ix X G B).q2 a (pv 3) (pv 5))) AH))) (AI (C' b (pv 5)) (AO (C' b ((Ix X G B).q2 a (pv 2) (pv 5)))))))) (AO (AW (pv 4))))))))
theorem nK:K' P w mg base 9 "fraction" ["P", "Q"] J3:=Ak (f:=257) (c:=256) (pm:=bI) (st:=WT) X G λF=>K_ F (uX ) λa b d e=>(AI (C' b ((Ug X G B).q2 a (pv 0) (pv 1))) (AO (AW ((nE X G B).q2 a ((KY X G B).q2 a (pv 0) (pv 2)) ((KY X G B).q2 a (pv 1) (pv 2))))))
theorem nM:K' P w mg base 9 "logs_plus" ["logs", "c", "part"] Ln:=Ak (f:=297) (c:=296) (pm:=bJ) (st:=WZ) X G λF=>K_ F (rV ) λb a d e=>(AI (C' a (BV AH)) (AI (C' a (pv 2)) (AI (CI PassesOwn.never rfl (Fd (pv 0)) (C9 rfl (BN (Aa (i:=5) a rfl li) (BN (Aa (i:=6) a rfl li) C7))) (AI (C' a ((Ug X G B).q2 b (pv 4) (pv 6))) (AI (C' a ((KY X G B).q2 b (pv 4) (pv 7))) (AI (FB (El PySem.F.plainAttrs_list PySem.F.slot_list_append PySem.F.type_list_append G4 (pv 3) (AD (A6 (AD (pv 5) (AD ((KY X G B).q2 b (pv 6) (pv 7)) AH))) AH))) (AO (FB (El PySem.F.plainAttrs_list PySem.F.slot_list_append PySem.F.type_list_append G4 (pv 3) (AD (A6 (AD ((Ud X G B).q2 b (pv 5) (pv 1)) (AD (pv 7) AH))) AH)))))))) (AO (AW ((nF X G B).q1 b (AT JH (pv 3) (BV (AD (A6 (AD (pv 1) (AD (pv 4) AH))) AH)))))))))
theorem nO:K' P w mg base 10 "settled" ["R", "rows"] Lr:=Ak (f:=290) (c:=289) (pm:=bJ) (st:=WY) X G λF=>K_ F (qQ ) λb a d e=>(AI (C' a (A6 AH)) (AI (CI PassesOwn.never rfl (CH (pv 1)) (C9 rfl (BN (Aa (i:=3) a rfl li) (BN (Aa (i:=4) a rfl li) C7))) (AO (CI PassesOwn.never rfl (ZH rfl B.enumerate (AD ((nJ X G B).q1 b (pv 4)) AH)) (C9 rfl (BN (Aa (i:=5) a rfl li) (BN (Aa (i:=6) a rfl li) C7))) (AO (C' a ((nM X G B).q3 b (pv 2) ((M4 X G B).q2 b (pv 3) (A6 (AD (pv 5) (AD AF AH)))) (pv 6))))))) (AI (GP (i:=7) (N:=["c", "P"]) (capt:=[none,none]) a rfl li rfl (BlkOk.of rfl rfl rfl rfl (λ_ h=>nomatch h) rfl rfl rfl) (CH (pv 1)) (λ_ _ _ _=>(C9 rfl (BN (Aa (i:=0) (show (["c", "P"]:List PySem.Str).Nodup by decide +kernel) rfl li) (BN (Aa (i:=1) (show (["c", "P"]:List PySem.Str).Nodup by decide +kernel) rfl li) C7)))) (λ_ _ _ _=>(A6 (AD (pv 0) (AD ((oJ X G B).q1 b (A9 As (pv 1) (BY BZ AF) (λ_ _=>rfl))) AH))))) (AO (AW (A6 (AD (A6 (AD (pv 0) (AD (pv 2) AH))) (AD (Ej HA rfl B.tuple DY (AD (pv 7) AH)) AH))))))))
theorem nP:K' P w mg base 10 "_law_fraction" ["_law_state", "_law_parts"] Lf:=Ak (f:=360) (c:=359) (pm:=R_) (st:=Wk) X G λF=>K_ F (rB ) λa b e d=>(AI (GP (i:=2) (N:=["_law_k", "_law_state"]) (capt:=[none,some 0]) b rfl li rfl (BlkOk.of rfl rfl rfl rfl (C6.mpr rfl) rfl rfl rfl) (FG rfl B.range (AD (AT CN AF ((EZ X G B).q2 a (pv 0) AF)) AH)) (λ_ _ _ _=>(Aa (i:=0) (show (["_law_k", "_law_state"]:List PySem.Str).Nodup by decide +kernel) rfl li)) (λ_ _ _ _=>((M5 X G B).q1 a (pv 1)))) (AI (C' b (A6 (AD (A6 (AD AF (AD AF AH))) AH))) (AI (C' b ((EZ X G B).q2 a (pv 0) AF)) (AI (BX (PW.pt (Eg (cR Cw (pv 4) AF) (Ef (cR (JQ d) (pv 1) (BV AH))))) (AO (C' b (xI BD (pv 1)))) Ba) (AI (BX (cR Cw (pv 4) AF) (AO (C' b ((KW X G B).q2 a ((Hs X G B).q1 a (BV (AD AF (AD AF AH)))) ((Hs X G B).q1 a (BV (AD AF (AD AF AH))))))) Ba) (AI (BX (cR Cw (pv 4) AF) (AO (C' b ((Hs X G B).q1 a (BV (AD (BY BZ AF) (AD AF AH)))))) Ba) (AO (AW ((nK X G B).q2 a ((KS X G B).q1 a (pv 2)) (pv 3))))))))))
theorem nQ:K' P w mg base 11 "_law_one" ["_law_state", "_law_kr", "_law_parts"] Lu:=Ak (f:=405) (c:=404) (pm:=R_) (st:=Ws) X G λF=>K_ F (pJ ) λb a e d=>(AI (GP (i:=3) (N:=["_law_k", "_law_state", "_law_parts"]) (capt:=[none,some 0,some 2]) a rfl li rfl (BlkOk.of rfl rfl rfl rfl (GD.mpr ⟨rfl,(C6.mpr rfl)⟩) rfl rfl rfl) (FG rfl B.range (AD ((EZ X G B).q2 b (pv 0) AF) AH)) (λ_ _ _ _=>(Aa (i:=0) (show (["_law_k", "_law_state", "_law_parts"]:List PySem.Str).Nodup by decide +kernel) rfl li)) (λ_ _ _ _=>((nH X G B).q2 b (pv 1) (pv 2)))) (AI (C' a (BV AH)) (AI (CI PassesOwn.never rfl (FG rfl B.range (AD (Ao B5 rfl B.len BT (AD (pv 2) AH)) AH)) (Aa (i:=5) a rfl li) (AI (C' a (A6 (AD AF (AD AF AH)))) (AI (CI PassesOwn.never rfl (CH (pv 3)) (C9 rfl (BN (Aa (i:=7) a rfl li) (BN (Aa (i:=8) a rfl li) (BN (Aa (i:=9) a rfl li) (BN (Aa (i:=10) a rfl li) C7))))) (AO (C' a ((Ud X G B).q2 b (pv 6) ((M4 X G B).q2 b (pv 7) (A6 (AD (A9 BD (pv 9) (pv 5) (λ_ _=>rfl)) (AD AF AH)))))))) (AO (FB (El PySem.F.plainAttrs_list PySem.F.slot_list_append PySem.F.type_list_append G4 (pv 4) (AD (A6 (AD (pv 6) (AD (A9 BD (pv 2) (pv 5) (λ_ _=>rfl)) AH))) AH))))))) (AI (GP (i:=11) (N:=["_law_c", "_law_product", "_law_many", "_law_head"]) (capt:=[none,none,none,none]) a rfl li rfl (BlkOk.of rfl rfl rfl rfl (λ_ h=>nomatch h) rfl rfl rfl) (CH (pv 3)) (λ_ _ _ _=>(C9 rfl (BN (Aa (i:=0) (show (["_law_c", "_law_product", "_law_many", "_law_head"]:List PySem.Str).Nodup by decide +kernel) rfl li) (BN (Aa (i:=1) (show (["_law_c", "_law_product", "_law_many", "_law_head"]:List PySem.Str).Nodup by decide +kernel) rfl li) (BN (Aa (i:=2) (show (["_law_c", "_law_product", "_law_many", "_law_head"]:List PySem.Str).Nodup by decide +kernel) rfl li) (BN (Aa (i:=3) (show (["_law_c", "_law_product", "_law_many", "_law_head"]:List PySem.Str).Nodup by decide +kernel) rfl li) C7)))))) (λ_ _ _ _=>(A6 (AD (pv 0) (AD (pv 1) AH))))) (AI (C' a ((nO X G B).q2 b (pv 1) (pv 11))) (AI (BX (cR (JQ d) (pv 11) (Cn (N:=["_law_c", "_law_product", "_law_many", "_law_head"]) (capt:=[none,none,none,none]) rfl (BlkOk.of rfl rfl rfl rfl (λ_ h=>nomatch h) rfl rfl rfl) (CH (pv 3)) (λ_ _ _ _=>(C9 rfl (BN (Aa (i:=0) (show (["_law_c", "_law_product", "_law_many", "_law_head"]:List PySem.Str).Nodup by decide +kernel) rfl li) (BN (Aa (i:=1) (show (["_law_c", "_law_product", "_law_many", "_law_head"]:List PySem.Str).Nodup by decide +kernel) rfl li) (BN (Aa (i:=2) (show (["_law_c", "_law_product", "_law_many", "_law_head"]:List PySem.Str).Nodup by decide +kernel) rfl li) (BN (Aa (i:=3) (show (["_law_c", "_law_product", "_law_many", "_law_head"]:List PySem.Str).Nodup by decide +kernel) rfl li) C7)))))) (λ_ _ _ _=>(A6 (AD (pv 0) (AD (pv 1) AH)))))) (AO (AW Ed)) Ba) (AI (BX (PW.pt (Eh (Dn (DV (Ao Ep rfl B.isinstance En (AD (pv 12) (AD (Ee rfl B.tuple DY rfl) AH))))) (Eh (cR EL (Ao Eo rfl B.len BT (AD (pv 12) AH)) AF) (Eh (Dn (DV ((oY X G B).q1 b (xI As (pv 12))))) (Gw (Dn (DV (Ao Ep rfl B.isinstance En (AD (xI As (pv 12)) (AD (Ee rfl B.tuple DY rfl) AH)))))))))) (AO (AW Ed)) Ba) (AO (AW (Hy (Km d) (pv 12) (A6 (AD (A6 (AD (pv 1) (AD ((nG X G B).q1 b (pv 4)) AH))) (AD (Ej HA rfl B.tuple DY (AD (Cn (N:=["_law_c", "_law_product", "_law_many", "_law_head"]) (capt:=[none,none,none,none]) rfl (BlkOk.of rfl rfl rfl rfl (λ_ h=>nomatch h) rfl rfl rfl) (CH (pv 3)) (λ_ _ _ _=>(C9 rfl (BN (Aa (i:=0) (show (["_law_c", "_law_product", "_law_many", "_law_head"]:List PySem.Str).Nodup by decide +kernel) rfl li) (BN (Aa (i:=1) (show (["_law_c", "_law_product", "_law_many", "_law_head"]:List PySem.Str).Nodup by decide +kernel) rfl li) (BN (Aa (i:=2) (show (["_law_c", "_law_product", "_law_many", "_law_head"]:List PySem.Str).Nodup by decide +kernel) rfl li) (BN (Aa (i:=3) (show (["_law_c", "_law_product", "_law_many", "_law_head"]:List PySem.Str).Nodup by decide +kernel) rfl li) C7)))))) (λ_ _ _ _=>(A6 (AD (pv 0) (AD (pv 3) AH))))) AH)) AH))) (T_ _)))))))))))
end
def all_mk {l:W.OpenLaw} {w:World} {h:Heap} {j:di} {o:Addr} (X:(hp w.params).In h) (G:h.Ns mainGlobals j) (m:j "law" = some (.ref o))
  : ∃ p:FuncData,(∀ (s:Shared) (v:Value),BindsTo s p ⟨[v],[]⟩ [("_law_script", v)])/\∀ d:Heap,(hp w.params).In d->d.Ns mainGlobals j->FnOk l.prog w (hp w.params) j d aD 12 o p ["_law_script"] (Jo (hp w.params)):=by
 have e:=m.symm.trans (W.mg_of X G (n := "law") (v:=.ref 412) (by kernel_rfl));cases e;have a:GY (hp w.params)=15:=by kernel_rfl
 have b:∀ H:Hp,SqT (hp w.params) H (GY (hp w.params)) (exps.map λe:Nat=>V.int (e:Int)):=λH=>.inr ⟨_,_,_,(show (hp w.params).lookup (GY (hp w.params))=some ⟨.type "tuple", none,.seq #[(.int 61 189),(.int 127 190),(.int 521 191),(.int 1279 192),(.int 4423 193),(.int 9941 194),(.int 21701 195),(.int 44497 196)] 0,#[]⟩ by rw [a];kernel_rfl),rfl,rfl,by show 8<=sizeLine;rw [sizeLine_eq];decide,.cons ⟨_,rfl⟩ (.cons ⟨_,rfl⟩ (.cons ⟨_,rfl⟩ (.cons ⟨_,rfl⟩ (.cons ⟨_,rfl⟩ (.cons ⟨_,rfl⟩ (.cons ⟨_,rfl⟩ (.cons ⟨_,rfl⟩ (.nil))))))))⟩;have B:Bl (hp w.params) j:=⟨W.mg_none_of X G (by kernel_rfl),W.mg_none_of X G (by kernel_rfl),W.mg_none_of X G (by kernel_rfl),W.mg_none_of X G (by kernel_rfl),W.mg_none_of X G (by kernel_rfl),W.mg_none_of X G (by kernel_rfl),W.mg_none_of X G (by kernel_rfl),W.mg_none_of X G (by kernel_rfl),W.mg_none_of X G (by kernel_rfl),by rw [a];exact W.mg_of X G (by kernel_rfl),W.mg_none_of X G (by kernel_rfl),W.mg_none_of X G (by kernel_rfl),W.mg_none_of X G (by kernel_rfl),W.mg_none_of X G (by kernel_rfl),W.mg_none_of X G (by kernel_rfl),W.mg_none_of X G (by kernel_rfl),W.mg_none_of X G (by kernel_rfl),b⟩;have q:=Mv (K:=hp w.params) (st:=JI) (f:=412) (c:=411) (n := "law") (pm:=R_) (by kernel_rfl) (by kernel_rfl) (by kernel_rfl);refine ⟨W.fnOf "law" "law" (Em JI) (D2 JI) (Cl JI) .none .none .none R_ none (.ref 411) .none,λs v=>.of_eq rfl,λd KB _=>?_⟩;exact K_ q (pV ) λg k r u=>(AI (C' k ((oK X G B).q1 g (pv 0))) (AI (CI PassesOwn.never rfl (FG rfl B.range (AD AF AH)) (Aa (i:=2) k rfl li) (AI (C' k ((oP X G B).q3 g (pv 1) AF AF)) (AI (BX (PW.pt (Eg (cR Cw (pv 2) AF) (Ef (cR Cw ((EZ X G B).q2 g (pv 1) AF) AF)))) (AO (C' k ((oQ X G B).q1 g (pv 1)))) Ba) (AO (BX (Dn (DV ((nQ X G B).q3 g (pv 1) ((nP X G B).q2 g (pv 1) (pv 3)) (pv 3)))) (AO (AW Ed)) Ba))))) (AO (AW Ed))))
def row_said {l:W.OpenLaw} (h:l.wellSaid=true):l.row.wellSaid=true:=by
 unfold W.OpenLaw.wellSaid at h;simp only [Bool.and_eq_true] at h;exact h.1.1.1.1.1.1.1.1.1.1.1.1.1.1.1.1.1.1
def walk {l:W.OpenLaw} {q:Program} {loose:dt} {XP:(di)->Heap->Prop} {YP:World->Heap->Prop} {d:DefRec} {K:Params->W.Frag} (j:l.most=some 63) (e:d.params.defaults=[]) (m:importsNone q=true) (o:∀ w,(model l.prog w).prog.given.tree=none)
  (p:∀ (w:World) (h:Heap),YP w h->(K w.params).In h)
  (F:∀ (w:World) (c:di) (g:Addr) (h:Heap),(K w.params).In h->h.Ns mainGlobals c->c d.name=some (.ref g)->
   ∃ i:FuncData,(∀ (s:Shared) (u:Value),BindsTo s i ⟨[u],[]⟩ [("_law_script", u)])/\∀ b:Heap,(K w.params).In b->b.Ns mainGlobals c->FnOk l.prog w (K w.params) c b aD 12 g i ["_law_script"] (Jo (K w.params))) :
  W.WalkO q loose XP YP l.row.toRowW d [] (λf r=>PySem.call f r):=
 L2.walk_of (n:=63) (k:=12) (x := "_law_script") (CX:=λ_=>aD) (sp:=λw=>Jo (K w.params)) j ∅ e m o ⟨rfl,∅,∅⟩ p F (λ_ _ a v y _ A=>⟨a,v,rfl,A,y,λ_=>rfl⟩) λ_ _ _ _ _ z=>z
end Bs
open PySem PySem.W PyProof.Rows
set_option maxRecDepth 100000 in
set_option maxHeartbeats 0 in
theorem PySem.Challenge.cw_backslope_k31_forms_settled_holds : PySem.Challenge.rw_backslope_k31_forms_settled.Holds := by
  have a : PySem.Challenge.rw_backslope_k31_forms_settled.wellSaid = true := by decide +kernel
  refine ⟨a, ?_⟩;refine W.holds_open (q := Bs.Hd.vw) (loose := []) (Xt := fun s => W.xlAt Bs.Hd.vw [] s && W.recOk (W.RowW.records (W.OpenRow.toRowW (W.OpenLaw.row PySem.Challenge.rw_backslope_k31_forms_settled))) s) (XP := W.XL Bs.Hd.vw []) (Yf := Bs.Hd.hk.obs) (Ya := Bs.Hd.hk.val) (YP := Bs.Hd.hk.says) (N := 4026) Bs.Hd.left Bs.Hd.hk.of Bs.Hd.hk.keeps (fun s e => W.xl_of s (Bool.and_eq_true_iff.mp e).1) W.XL.keeps (by rfl) (by rfl) (by rfl) (fun s e => W.recFacts_of (Bool.and_eq_true_iff.mp e).2) (by rfl) (Bs.row_said a) (by decide +kernel) ⟨rfl, rfl, rfl, rfl, rfl, by decide +kernel⟩ ?hw ?hc
  case hw => w_witness2
  case hc => exact Bs.walk (l := PySem.Challenge.rw_backslope_k31_forms_settled) (K := Bs.Hd.hp) rfl rfl (by decide +kernel) (fun _ => rfl) (fun w h Y => Y) (fun w d f h c G b => Bs.all_mk c G b)
#print axioms PySem.Challenge.cw_backslope_k31_forms_settled_holds

