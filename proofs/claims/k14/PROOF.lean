import PyProof.Rows.All
import Wide.All
import OpenK.AllK
import Wide.FinOn
import Lean
import PyProof.EqAt
import PyProof.EqKinds
import PyProof.TupleCall
import PySem.Challenge.RW_backslope_k14_counts_agree
local macro_rules | `(⋯) => `(by omega)
local macro_rules | `(∅) => `(by decide)
set_option Elab.async false
set_option linter.all false
set_option maxRecDepth 100000
theorem waa:type_of% @List.length_map:=@List.length_map
theorem wab:type_of% @List.getD_eq_getElem?_getD:=@List.getD_eq_getElem?_getD
theorem wac:type_of% @Rat.mul_le_mul_of_nonneg_left:=@Rat.mul_le_mul_of_nonneg_left
theorem wad:type_of% @Nat.le_refl:=@Nat.le_refl
theorem wae:type_of% @Nat.zero_le:=@Nat.zero_le
theorem waf:type_of% @List.getElem?_map:=@List.getElem?_map
theorem wag:type_of% @List.getElem?_eq_getElem:=@List.getElem?_eq_getElem
theorem wah:type_of% @Rat.mul_nonneg:=@Rat.mul_nonneg
theorem wai:type_of% @Int.ne_of_gt:=@Int.ne_of_gt
theorem waj:type_of% @Rat.pow_succ:=@Rat.pow_succ
theorem wak:type_of% @Rat.mul_le_mul_of_nonneg_right:=@Rat.mul_le_mul_of_nonneg_right
theorem wal:type_of% @List.size_toArray:=@List.size_toArray
theorem wam:type_of% @Rat.le_total:=@Rat.le_total
theorem wan:type_of% @Rat.mul_pos:=@Rat.mul_pos
theorem wao:type_of% @Rat.pow_zero:=@Rat.pow_zero
theorem wap:type_of% @Nat.lt_or_ge:=@Nat.lt_or_ge
theorem waq:type_of% @List.getElem?_eq_some_iff:=@List.getElem?_eq_some_iff
theorem war:type_of% @List.mem_singleton:=@List.mem_singleton
theorem was:type_of% @Nat.ne_of_lt:=@Nat.ne_of_lt
theorem wat:type_of% @List.getElem?_eq_none:=@List.getElem?_eq_none
theorem wau:type_of% @List.mem_of_getElem?:=@List.mem_of_getElem?
theorem wav:type_of% @Nat.pow_pos:=@Nat.pow_pos
theorem waw:type_of% @List.length_range:=@List.length_range
theorem wax:type_of% @List.mem_map:=@List.mem_map
theorem way:type_of% @Int.natAbs_mul:=@Int.natAbs_mul
theorem waz:type_of% @List.mem_cons_self:=@List.mem_cons_self
theorem wa0:type_of% @List.mem_cons:=@List.mem_cons
theorem wa1:type_of% @Nat.pow_succ:=@Nat.pow_succ
theorem wa2:type_of% @Rat.mul_eq_zero:=@Rat.mul_eq_zero
theorem wa3:type_of% @Nat.le_trans:=@Nat.le_trans
theorem wa4:type_of% @List.mem_cons_of_mem:=@List.mem_cons_of_mem
theorem wa5:type_of% @List.length_take:=@List.length_take
theorem wa6:type_of% @Nat.mul_le_mul_left:=@Nat.mul_le_mul_left
theorem wa7:type_of% @Int.mul_ne_zero:=@Int.mul_ne_zero
theorem wa8:type_of% @Nat.lt_of_lt_of_le:=@Nat.lt_of_lt_of_le
theorem wa9:type_of% @List.length_append:=@List.length_append
theorem wba:type_of% @Int.emod_nonneg:=@Int.emod_nonneg
theorem wbb:type_of% @Rat.mul_inv_cancel:=@Rat.mul_inv_cancel
theorem wbc:type_of% @Nat.lt_irrefl:=@Nat.lt_irrefl
theorem wbd:type_of% @List.length_eq_zero_iff:=@List.length_eq_zero_iff
theorem wbe:type_of% @Nat.mul_le_mul_right:=@Nat.mul_le_mul_right
theorem wbf:type_of% @List.mem_append_right:=@List.mem_append_right
theorem wbg:type_of% @Int.emod_lt_of_pos:=@Int.emod_lt_of_pos
theorem wbh:type_of% @Int.natAbs_dvd_natAbs:=@Int.natAbs_dvd_natAbs
theorem wbi:type_of% @List.length_cons:=@List.length_cons
theorem wbj:type_of% @Int.natAbs_natCast:=@Int.natAbs_natCast
theorem wbk:type_of% @List.mem_append:=@List.mem_append
theorem wbl:type_of% @Nat.mul_comm:=@Nat.mul_comm
theorem wbm:type_of% @Nat.pow_le_pow_right:=@Nat.pow_le_pow_right
theorem wbn:type_of% @Nat.pow_add:=@Nat.pow_add
theorem wbo:type_of% @List.getElem_mem:=@List.getElem_mem
theorem wbp:type_of% @Int.dvd_trans:=@Int.dvd_trans
theorem wbq:type_of% @Rat.not_le:=@Rat.not_le
theorem wbr:type_of% @Nat.le_of_lt:=@Nat.le_of_lt
theorem wbs:type_of% @Bool.false_ne_true:=@Bool.false_ne_true
theorem wbt:type_of% @Nat.eq_zero_or_pos:=@Nat.eq_zero_or_pos
theorem wbu:type_of% @Nat.not_lt:=@Nat.not_lt
theorem wbv:type_of% @List.take_length:=@List.take_length
theorem wbw:type_of% @Rat.intCast_mul:=@Rat.intCast_mul
theorem wbx:type_of% @Int.dvd_add:=@Int.dvd_add
theorem wby:type_of% @Int.dvd_zero:=@Int.dvd_zero
theorem wbz:type_of% @List.take_add_one:=@List.take_add_one
theorem wb0:type_of% @Rat.not_lt:=@Rat.not_lt
theorem wb1:type_of% @List.length_pos_iff:=@List.length_pos_iff
theorem wb2:type_of% @List.getElem?_range:=@List.getElem?_range
theorem wb3:type_of% @List.map_map:=@List.map_map
theorem wb4:type_of% @List.forall_mem_singleton:=@List.forall_mem_singleton
theorem wb5:type_of% @Nat.add_mul:=@Nat.add_mul
theorem wb6:type_of% @List.map_append:=@List.map_append
theorem wb7:type_of% @Int.neg_mul:=@Int.neg_mul
theorem wb8:type_of% @Rat.div_mul_cancel:=@Rat.div_mul_cancel
theorem wb9:type_of% @Nat.lt_of_le_of_lt:=@Nat.lt_of_le_of_lt
theorem wca:type_of% @Int.mul_comm:=@Int.mul_comm
theorem wcb:type_of% @Nat.lt_succ_self:=@Nat.lt_succ_self
theorem wcc:type_of% @Nat.le_of_dvd:=@Nat.le_of_dvd
theorem wcd:type_of% @List.map_congr_left:=@List.map_congr_left
theorem wce:type_of% @Int.toNat_natCast:=@Int.toNat_natCast
theorem wcf:type_of% @Rat.intCast_neg:=@Rat.intCast_neg
theorem wcg:type_of% @List.ext_getElem?:=@List.ext_getElem?
theorem wch:type_of% @List.mem_range:=@List.mem_range
theorem wci:type_of% @Int.gcd_dvd_right:=@Int.gcd_dvd_right
theorem wcj:type_of% @Int.mul_le_mul_of_nonneg_left:=@Int.mul_le_mul_of_nonneg_left
theorem wck:type_of% @List.getElem?_append_right:=@List.getElem?_append_right
theorem wcl:type_of% @List.getElem?_append_left:=@List.getElem?_append_left
theorem wcm:type_of% @Int.gcd_dvd_left:=@Int.gcd_dvd_left
theorem wcn:type_of% @Int.fdiv_eq_ediv_of_nonneg:=@Int.fdiv_eq_ediv_of_nonneg
theorem wco:type_of% @Int.emod_add_mul_ediv:=@Int.emod_add_mul_ediv
theorem wcp:type_of% @List.mem_of_mem_take:=@List.mem_of_mem_take
theorem wcq:type_of% @List.mem_append_left:=@List.mem_append_left
theorem wcr:type_of% @List.getElem?_replicate:=@List.getElem?_replicate
theorem wcs:type_of% @List.getElem_of_mem:=@List.getElem_of_mem
theorem wct:type_of% @List.dropLast_concat_getLast:=@List.dropLast_concat_getLast
theorem wcu:type_of% @Int.mul_le_mul_of_nonneg_right:=@Int.mul_le_mul_of_nonneg_right
theorem wcv:type_of% @Int.dvd_mul_of_dvd_left:=@Int.dvd_mul_of_dvd_left
theorem wcw:type_of% @Nat.le_mul_of_pos_left:=@Nat.le_mul_of_pos_left
theorem wcx:type_of% @Int.mul_ediv_cancel_left:=@Int.mul_ediv_cancel_left
theorem wcy:type_of% @Int.dvd_mul_of_dvd_right:=@Int.dvd_mul_of_dvd_right
namespace L2
open PySem PySem.Spec PyProof.Rows
noncomputable abbrev Key:=Sum Int Str
noncomputable def qsl:Key->Value->Bool
 | .inl k,v=>Value.isInt k v
 | .inr x,v=>Value.isStrOf x v
noncomputable def quF (w:World):Key->Int
 | .inl k=>hashInt k
 | .inr x=>hashStr w x
theorem qbi:∀ {k:Key} {v:Value},qsl k v=true->(∃ i t,k=Sum.inl i/\v=Value.int i t)\/(∃ x t,k=Sum.inr x/\v=Value.str x t)
 | .inl i,v,h=>by
   obtain ⟨t,e⟩:=Value.isInt_shape (k:=i) (v:=v) h
   exact .inl ⟨i,t,rfl,e⟩
 | .inr x,v,h=>by
   obtain ⟨t,e⟩:=Value.isStrOf_shape (x:=x) (v:=v) h
   exact .inr ⟨x,t,rfl,e⟩
theorem qsm (a b:Int):decide ((Sum.inl a:Key)=Sum.inl b)=(a == b):=by
 by_cases e:a=b
 ·subst e;simp
 ·have h:¬ (Sum.inl a:Key)=Sum.inl b:=λq=>e (Sum.inl.inj q)
  rw [decide_eq_false h]
  exact (beq_eq_false_iff_ne.mpr e).symm
theorem qsn (a b:Str):decide ((Sum.inr a:Key)=Sum.inr b)=decide (a=b):=by
 by_cases e:a=b
 ·subst e;simp
 ·have h:¬ (Sum.inr a:Key)=Sum.inr b:=λq=>e (Sum.inr.inj q)
  rw [decide_eq_false h,decide_eq_false e]
theorem qso (a:Int) (b:Str):decide ((Sum.inl a:Key)=Sum.inr b)=false:=decide_eq_false (λq=>nomatch q)
theorem qsp (a:Str) (b:Int):decide ((Sum.inr a:Key)=Sum.inl b)=false:=decide_eq_false (λq=>nomatch q)
noncomputable def qkt (prog:Program) (w:World):PySem.KeyKind prog w Key where
 is:=qsl
 hash:=quF w
 inj:=λv a b ha hb=>by
  rcases qbi ha with ⟨i,t,rfl,rfl⟩ | ⟨x,t,rfl,rfl⟩
  ·rcases qbi hb with ⟨j,u,rfl,e⟩ | ⟨y,u,rfl,e⟩
   ·injection e with e1 _;rw [e1]
   ·exact nomatch e
  ·rcases qbi hb with ⟨j,u,rfl,e⟩ | ⟨y,u,rfl,e⟩
   ·exact nomatch e
   ·injection e with e1 _;rw [e1]
 byValue:=λk v h=>by
  rcases qbi h with ⟨i,t,rfl,rfl⟩ | ⟨x,t,rfl,rfl⟩ <;> rfl
 pyHash:=λhv h=>by
  rcases qbi hv with ⟨i,t,rfl,rfl⟩ | ⟨x,t,rfl,rfl⟩
  ·exact wpAny_pyHash_int h
  ·exact wpAny_pyHash_str h
 eqBool:=λhu hv h=>by
  rcases qbi hu with ⟨i,t,rfl,rfl⟩ | ⟨x,t,rfl,rfl⟩
  ·rcases qbi hv with ⟨j,u,rfl,rfl⟩ | ⟨y,u,rfl,rfl⟩
   ·rw [qsm] at h;exact wpAny_eqBool_int h
   ·rw [qso] at h;exact SeqAt.EqAt.int_str i t y u _ _ _ _ h
  ·rcases qbi hv with ⟨j,u,rfl,rfl⟩ | ⟨y,u,rfl,rfl⟩
   ·rw [qsp] at h;exact SeqAt.EqAt.str_int x t j u _ _ _ _ h
   ·rw [qsn] at h;exact wpAny_eqBool_str h
 «strs»:=λk x t v h=>by
  rcases qbi h with ⟨i,u,rfl,e⟩ | ⟨y,u,rfl,e⟩
  ·exact nomatch e
  ·injection e with e1 _
   subst e1
   cases v <;> rfl
end L2
namespace L2
open PySem PySem.Spec PyProof.Rows
inductive V where
 | non | bl (b:Bool) | int (i:Int) | str (x:Str) | byt (b:Array UInt8) | flt (b:UInt64) | ref (a:Addr) | ty (n:String)
 deriving DecidableEq
noncomputable def RelV:V->Value->Prop
 | .non,u=>u=Value.none
 | .bl b,u=>u=Value.bool b
 | .int i,u=>∃ t,u=Value.int i t
 | .str x,u=>∃ t,u=Value.str x t
 | .byt b,u=>∃ t,u=Value.bytes b t
 | .flt b,u=>∃ t,u=Value.float b t
 | .ref a,u=>u=Value.ref a
 | .ty n,u=>u=Value.type n
noncomputable abbrev Vals:List V->List Value->Prop:=Paired RelV
theorem Vals.length {xs:List V} {us:List Value} (r:Vals xs us):xs.length=us.length:=Paired.length r
theorem Vals.get:∀ {xs:List V} {us:List Value} {i:Nat} {x:V},Vals xs us->xs[i]?=some x->∃ u,us[i]?=some u/\RelV x u
 | _,_,_,_,.nil,e=>by simp at e
 | _,_,0,_,.cons r _,e=>by simp at e;subst e;exact ⟨_,rfl,r⟩
 | _,_,i+1,x,.cons _ t,e=>by
   obtain ⟨u,h1,h2⟩:=Vals.get (i:=i) (x:=x) t (by simpa using e)
   exact ⟨u,by simpa using h1,h2⟩
theorem Vals.set {x:V} {u:Value} (r:RelV x u):∀ {xs:List V} {us:List Value} (i:Nat),Vals xs us->Vals (xs.set i x) (us.set i u)
 | _,_,_,.nil=>.nil
 | _,_,0,.cons _ t=>.cons r t
 | _,_,i+1,.cons q t=>.cons q (Vals.set r i t)
theorem Vals.append:∀ {xs ys:List V} {us ws:List Value},Vals xs us->Vals ys ws->Vals (xs++ys) (us++ws)
 | _,_,_,_,.nil,s=>s
 | _,_,_,_,.cons r t,s=>.cons r (Vals.append t s)
theorem Vals.take:∀ {xs:List V} {us:List Value} (n:Nat),Vals xs us->Vals (xs.take n) (us.take n)
 | _,_,0,_=>.nil
 | _,_,_+1,.nil=>.nil
 | _,_,n+1,.cons r t=>.cons r (Vals.take n t)
theorem Vals.drop:∀ {xs:List V} {us:List Value} (n:Nat),Vals xs us->Vals (xs.drop n) (us.drop n)
 | _,_,0,r=>r
 | _,_,_+1,.nil=>.nil
 | _,_,n+1,.cons _ t=>Vals.drop n t
noncomputable def qup:Option V->Option Value->Prop
 | some v,some u=>RelV v u
 | none,none=>True
 | _,_=>False
noncomputable def KV {κ:Type}:List (κ×V)->List (κ×Value)->Prop:=Paired λ(p:κ×V) (q:κ×Value)=>p.1=q.1/\RelV p.2 q.2
noncomputable def kV:Key->V
 | .inl i=>.int i
 | .inr x=>.str x
inductive HO where

 | lst (xs:List V)

 | tup (xs:List V)

 | dK (kvs:List (Key×V)) | dT (kvs:List (List Key×V))

 | set (S:Int->Bool) (n:Nat)

 | ins (C dx:Addr) (fs:List (Str×V))

 | own (x:Addr)

 | xd (fs:List (Str×V))

 | met (f x:Addr)

 | rng (lo hi:Int)

 | frz (o:Obj) (u:HO)

 | tbl (ps:Array Value)

 | ext (φ:Heap->Prop)
noncomputable abbrev Hp:=Addr->Option HO
noncomputable def upd (H:Hp) (a:Addr) (o:HO):Hp:=λb=>if b=a then some o else H b
theorem qag {H:Hp} {a:Addr} {o:HO}:upd H a o a=some o:=by unfold upd;rw [if_pos rfl]
theorem qaA {H:Hp} {a b:Addr} {o:HO} (h:b≠a):upd H a o b=H b:=by unfold upd;rw [if_neg h]
theorem qtL {H:Hp} {a b:Addr} {o u:HO} (h:H a=some o) (h':H b=some u) (d:o≠u):a≠b:=by
 intro e;subst e;rw [h] at h';exact d (Option.some.inj h')
theorem qan {H:Hp} {a b:Addr} {o:HO} (h:H a=some o) (h':H b=none):a≠b:=by
 intro e;subst e;rw [h] at h';cases h'
section
variable (P:Program) (w:World)
noncomputable def ObjOk (H:Hp) (h:Heap) (a:Addr):HO->Prop
 | .lst xs=>xs.length<=sizeLine/\∃ (its:List Value) (n:Nat),Vals xs its/\h.get? a=some { cls:=.type "list", data:=.seq its.toArray n }
 | .tup xs=>xs.length<=sizeLine/\∃ its:List Value,Vals xs its/\IsTup h a its.toArray
 | .dK kvs=>kvs.length<=sizeLine/\(a == sysModules)=false/\∃ vs,KV kvs vs/\h.DictOf (qkt P w) a vs
 | .dT kvs=>kvs.length<=sizeLine/\(a == sysModules)=false/\∃ xs:List (List Key×Addr×Value),
   Paired (λ(p:List Key×V) (q:List Key×Addr×Value)=>p.1=q.1/\H q.2.1=some (.tup (p.1.map kV))/\RelV p.2 q.2.2) kvs xs/\
   ∃ o es ep,h.get? a=some o/\o.ExactDict/\o.data=.dict es ep/\es.toList=xs.map (entryOfKey (tupleKind (qkt P w)))/\(xs.map (·.1)).Nodup
 | .set S n=>h.SetOf (intKind P w) a S n
 | .ins C dx fs=>H dx=some (.own a)/\fs.length<=1000/\dx≠a/\h.get? a=some (PySem.W.instObj C dx)/\
   ∃ mA,h.Ns1 dx mA/\(∀ f,qup (fs.lookup f) (mA f))/\PySem.Within mA (fs.map (·.1))
 | .own _=>∃ o,h.get? a=some o
 | .xd fs=>∃ mA,h.Ns1 a mA/\∀ f,qup (fs.lookup f) (mA f)
 | .rng lo hi=>∃ t u v,h.get? a=some { cls:=.type "range", data:=.fields #[.int lo t,.int hi u,.int 1 v] }
 | .frz o u=>h.get? a=some o/\ObjOk H h a u
 | .tbl ps=>h.get? a=some { cls:=.none,data:=.fields ps }
 | .met f x=>h.get? a=some (PySem.W.methodObj (.ref f) (.ref x))
 | .ext φ=>φ h/\(∃ o,h.get? a=some o)/\∀ h1 h2:Heap,φ h1->(∀ o,h1.get? a=some o->h2.get? a=some o)->φ h2
noncomputable def HOk (H:Hp) (h:Heap):Prop:=∀ a o,H a=some o->ObjOk P w H h a o
end
section
variable {P:Program} {w:World} {H H':Hp} {h h':Heap} {a:Addr} {o:HO}
theorem ObjOk.lt (x:ObjOk P w H h a o):a<h.objs.size:=by
 cases o with
 | lst xs=>obtain ⟨_,_,_,_,e⟩:=x;exact Heap.lt_size e
 | tup xs=>obtain ⟨_,_,_,p⟩:=x;exact p.lt
 | dK kvs=>obtain ⟨_,_,_,_,o,_,_,e,_⟩:=x;exact Heap.lt_size e
 | dT kvs=>obtain ⟨_,_,_,_,o,_,_,e,_⟩:=x;exact Heap.lt_size e
 | set S n=>obtain ⟨o,_,_,_,e,_⟩:=x;exact Heap.lt_size e
 | ins C dx fs=>obtain ⟨_,_,_,e,_⟩:=x;exact Heap.lt_size e
 | own y=>obtain ⟨_,e⟩:=x;exact Heap.lt_size e
 | xd fs=>obtain ⟨_,⟨_,_,_,e,_⟩,_⟩:=x;exact Heap.lt_size e
 | rng lo hi=>obtain ⟨_,_,_,e⟩:=x;exact Heap.lt_size e
 | frz ob u=>obtain ⟨e,_⟩:=x;exact Heap.lt_size e
 | tbl ps=>exact Heap.lt_size (show h.get? a=some _ from x)
 | met f y=>exact Heap.lt_size (show h.get? a=some _ from x)
 | ext φ=>obtain ⟨_,⟨_,e⟩,_⟩:=x;exact Heap.lt_size e
theorem Paired.mapP {α β:Type} {F G:α->β->Prop}:∀ {l₁:List α} {l₂:List β},Paired F l₁ l₂->(∀ a b,F a b->G a b)->Paired G l₁ l₂
 | _,_,.nil,_=>.nil
 | _,_,.cons r t,f=>.cons (f _ _ r) (Paired.mapP t f)
theorem ObjOk.stay (x:ObjOk P w H h a o) (k:∀ b u,(b=a\/H b=some (.own a))->h.get? b=some u->h'.get? b=some u)
  (ho:∀ b,H b=some (.own a)->H' b=some (.own a)) (ht:∀ b xs,H b=some (.tup xs)->H' b=some (.tup xs)):ObjOk P w H' h' a o:=by
 induction o with
 | lst xs=>obtain ⟨z,its,n,r,e⟩:=x;exact ⟨z,its,n,r,k _ _ (.inl rfl) e⟩
 | tup xs=>obtain ⟨z,its,r,ob,e,c⟩:=x;exact ⟨z,its,r,ob,k _ _ (.inl rfl) e,c⟩
 | dK kvs=>obtain ⟨z,y,vs,r,ob,es,ep,e,c⟩:=x;exact ⟨z,y,vs,r,ob,es,ep,k _ _ (.inl rfl) e,c⟩
 | dT kvs=>
   obtain ⟨z,y,xs,r,ob,es,ep,e,c⟩:=x
   exact ⟨z,y,xs,Paired.mapP r λp q z=>⟨z.1,ht _ _ z.2.1,z.2.2⟩,ob,es,ep,k _ _ (.inl rfl) e,c⟩
 | set S n=>obtain ⟨ob,es,ep,t,e,c⟩:=x;exact ⟨ob,es,ep,t,k _ _ (.inl rfl) e,c⟩
 | ins C dx fs=>
   obtain ⟨d,z,ne,e,mA,⟨od,es,ep,e2,c⟩,r⟩:=x
   exact ⟨ho _ d,z,ne,k _ _ (.inl rfl) e,mA,⟨od,es,ep,k _ _ (.inr d) e2,c⟩,r⟩
 | own y=>obtain ⟨ob,e⟩:=x;exact ⟨ob,k _ _ (.inl rfl) e⟩
 | xd fs=>obtain ⟨mA,⟨od,es,ep,e,c⟩,r⟩:=x;exact ⟨mA,⟨od,es,ep,k _ _ (.inl rfl) e,c⟩,r⟩
 | rng lo hi=>obtain ⟨t,u,v,e⟩:=x;exact ⟨t,u,v,k _ _ (.inl rfl) e⟩
 | frz ob u ih=>obtain ⟨e,q⟩:=x;exact ⟨k _ _ (.inl rfl) e,ih q⟩
 | tbl ps=>
   have e:h.get? a=some { cls:=.none,data:=.fields ps }:=x
   show h'.get? a=some { cls:=.none,data:=.fields ps }
   exact k a _ (.inl rfl) e
 | met f y=>
   have e:h.get? a=some (PySem.W.methodObj (.ref f) (.ref y)):=x
   show h'.get? a=some (PySem.W.methodObj (.ref f) (.ref y))
   exact k a _ (.inl rfl) e
 | ext φ=>obtain ⟨p,⟨o,e⟩,st⟩:=x;exact ⟨st _ _ p λo q=>k _ _ (.inl rfl) q,⟨o,k _ _ (.inl rfl) e⟩,st⟩
theorem HOk.lt (x:HOk P w H h) (e:H a=some o):a<h.objs.size:=(x a o e).lt
theorem HOk.fresh (x:HOk P w H h) (e:h.objs.size<=a):H a=none:=by
 cases q:H a with
 | none=>rfl
 | some u=>exact absurd (wa8 (x.lt q) e) (wbc _)
theorem HOk.kept (x:HOk P w H h) (k:∀ b u,h.get? b=some u->h'.get? b=some u):HOk P w H h':=λa o e=>
 (x a o e).stay (λb u _ q=>k b u q) (λ_ q=>q) λ_ _ q=>q
theorem HOk.laid (x:HOk P w H h) (k:∀ b u,h.get? b=some u->h'.get? b=some u) (hp:h.objs.size<=a) (new:ObjOk P w (upd H a o) h' a o):HOk P w (upd H a o) h':=λb u e=>by
 have hn:=x.fresh hp
 by_cases hb:b=a
 ·subst hb;rw [qag] at e;cases e;exact new
 ·rw [qaA hb] at e
  exact (x b u e).stay (λc v _ q=>k c v q) (λc q=>by rw [qaA (qan q hn)];exact q) λc xs q=>by rw [qaA (qan q hn)];exact q
end
noncomputable def Rd (H:Hp) (a:Addr) (u:HO):Prop:=H a=some u\/∃ o,H a=some (.frz o u)
theorem Rd.ok {P:Program} {w:World} {H:Hp} {h:Heap} {a:Addr} {u:HO} (r:Rd H a u) (x:HOk P w H h):ObjOk P w H h a u:=by
 rcases r with r | ⟨o,r⟩
 ·exact x a u r
 ·obtain ⟨_,q⟩:=x a _ r
  exact q
noncomputable def Mut:Option HO->Prop
 | some (.lst _)=>True
 | some (.dK _)=>True
 | some (.dT _)=>True
 | some (.set _ _)=>True
 | some (.ins _ _ _)=>True
 | some (.ext _)=>True
 | _=>False
section
variable {P:Program} {w:World} {H:Hp} {h h':Heap} {x e:Addr} {o':HO}
theorem HOk.write (ok:HOk P w H h) (mu:Mut (H x)) (he:e=x\/H e=some (.own x)) (k:∀ b u,b≠e->h.get? b=some u->h'.get? b=some u) (heo:∃ u,h'.get? e=some u)
  (new:ObjOk P w (upd H x o') h' x o'):HOk P w (upd H x o') h':=λb u q=>by
 have nown:∀ c y,H c=some (.own y)->c≠x:=λc y r z=>by subst z;rw [r] at mu;exact mu
 have ntup:∀ c xs,H c=some (.tup xs)->c≠x:=λc xs r z=>by subst z;rw [r] at mu;exact mu
 by_cases hb:b=x
 ·subst hb;rw [qag] at q;cases q;exact new
 ·rw [qaA hb] at q
  by_cases hbe:b=e
  ·have q':H b=some (.own x):=by
    rcases he with z | z
    ·exact absurd (hbe.trans z) hb
    ·rw [hbe];exact z
   rw [q] at q';cases q'
   obtain ⟨v,hv⟩:=heo
   exact ⟨v,by rw [hbe];exact hv⟩
  ·refine (ok b u q).stay (λc v hc r=>k c v ?_ r) (λc r=>by rw [qaA (nown c b r)];exact r) λc xs r=>by rw [qaA (ntup c xs r)];exact r
   rcases hc with rfl | hc
   ·exact hbe
   ·rintro rfl
    rcases he with z | z
    ·exact nown c b hc z
    ·rw [hc] at z;cases z;exact hb rfl
end
structure Un (fs ex:List Addr) (H H':Hp) (h h':Heap):Prop where
 keep:∀ b o,h.get? b=some o->H b=none->b∉fs->b∉ex->h'.get? b=some o
 slot:∀ b o,h.get? b=some o->H b=none->b∈fs->b∉ex->∃ sl,h'.get? b=some { o with slots:=sl }
 free:∀ b o,h.get? b=some o->H b=none->b∉ex->H' b=none
 there:∀ b o,h.get? b=some o->b∉ex->∃ o',h'.get? b=some o'
 tups:∀ b xs,H b=some (.tup xs)->H' b=some (.tup xs)
 frzs:∀ b o u,H b=some (.frz o u)->H' b=some (.frz o u)
 tbls:∀ b ps,H b=some (.tbl ps)->∃ more,H' b=some (.tbl (ps++more))
section
variable {fs fs' ex ex':List Addr} {H H1 H2:Hp} {h h1 h2 h':Heap} {a x e:Addr} {o:HO}
theorem Un.any (u:Un fs ex H H1 h h1) {b:Addr} {ob:Obj} (q:h.get? b=some ob) (n:H b=none) (hx:b∉ex):∃ sl,h1.get? b=some { ob with slots:=sl }:=by
 by_cases hb:b∈fs
 ·exact u.slot b ob q n hb hx
 ·exact ⟨ob.slots,u.keep b ob q n hb hx⟩
theorem Un.kept (k:∀ b u,h.get? b=some u->h'.get? b=some u):Un fs ex H H h h':=
 ⟨λb ob q _ _ _=>k b ob q,λb ob q _ _ _=>⟨ob.slots,k b ob q⟩,λ_ _ _ n _=>n,λb ob q _=>⟨ob,k b ob q⟩,λ_ _ q=>q,λ_ _ _ q=>q,λ_ ps q=>⟨#[],by rw [q];simp⟩⟩
theorem Un.refl:Un fs ex H H h h:=Un.kept λ_ _ q=>q
theorem Un.laid (k:∀ b u,h.get? b=some u->h'.get? b=some u) (hp:h.objs.size<=a) (hn:H a=none):Un fs ex H (upd H a o) h h' where
 keep:=λb u q _ _ _=>k b u q
 slot:=λb u q _ _ _=>⟨u.slots,k b u q⟩
 free:=λb u q n _=>by rw [qaA (was (wa8 (Heap.lt_size q) hp))];exact n
 there:=λb u q _=>⟨u,k b u q⟩
 tups:=λb xs q=>by rw [qaA (qan q hn)];exact q
 frzs:=λb u xs q=>by rw [qaA (qan q hn)];exact q
 tbls:=λb ps q=>⟨#[],by rw [qaA (qan q hn),q];simp⟩
theorem Un.write (mu:Mut (H x)) (he:e=x\/H e=some (.own x)) (k:∀ b u,b≠e->h.get? b=some u->h'.get? b=some u) (heo:∃ u,h'.get? e=some u):Un fs ex H (upd H x o) h h':=by
 have hx:∀ b,H b=none->b≠x:=λb n z=>by subst z;rw [n] at mu;exact mu
 have hb:∀ b,H b=none->b≠e:=λb n z=>by
  subst z
  rcases he with r | r
  ·exact hx b n r
  ·rw [n] at r;cases r
 have hm:∀ b u,H b=some u->¬ Mut (some u)->b≠x:=λb u q nm z=>by subst z;rw [q] at mu;exact nm mu
 refine ⟨λb u q n _ _=>k b u (hb b n) q,λb u q n _ _=>⟨u.slots,k b u (hb b n) q⟩,λb u q n _=>by rw [qaA (hx b n)];exact n,λb u q _=>?_,
  λb xs q=>by rw [qaA (hm b _ q λz=>z)];exact q,λb u xs q=>by rw [qaA (hm b _ q λz=>z)];exact q,λb ps q=>⟨#[],by rw [qaA (hm b _ q λz=>z),q];simp⟩⟩
 by_cases hbe:b=e
 ·subst hbe;exact heo
 ·exact ⟨u,k b u hbe q⟩
end
noncomputable def trk (h:Heap) (H:Hp):List Addr:=(List.range h.objs.size).filter λa=>(H a).isSome
noncomputable def qpk (h:Heap) (H:Hp):Heap:=PySem.W.hideAll h (trk h H)
theorem qmQ (h:Heap) (H:Hp):(qpk h H).objs.size=h.objs.size:=PySem.W.hideAll_size _ _
theorem qpm {h:Heap} {H:Hp} {b:Addr} {o:Obj} (e:h.get? b=some o) (n:H b=none):(qpk h H).get? b=some o:=
 PySem.W.hideAll_get _ e λhm=>by
  have q:(H b).isSome=true:=(List.mem_filter.mp hm).2
  rw [n] at q;simp at q
theorem qq4 {h:Heap} {H:Hp} {b:Addr} {o:Obj} (e:(qpk h H).get? b=some o):h.get? b=some o/\H b=none:=by
 have e':h.get? b=some o:=PySem.W.of_hideAll (trk h H) e
 refine ⟨e',?_⟩
 cases q:H b with
 | none=>rfl
 | some x=>
   have hm:b∈trk h H:=List.mem_filter.mpr ⟨wch.mpr (Heap.lt_size e'),by simp [q]⟩
   have z:(qpk h H).get? b=none:=PySem.W.hideAll_none (trk h H) hm
   rw [z] at e;cases e
noncomputable def qq5 (g h:Heap) (L:Addr):List (Addr×Obj):=(List.range h.objs.size).filterMap λa=>if a=L\/(g.get? a).isSome=true then none else (h.get? a).map λo=>(a,o)
noncomputable def rest (g h:Heap) (L d:Addr):List (Addr×Obj):=(qq5 g h L).filter λp=>decide (p.1≠d)
end L2
namespace L2
open PySem PySem.Spec PyProof.Rows
structure Mod (K:PySem.W.Frag) (mg:Str->Option Value) (base:Heap):Prop where
 kin:K.In base
 glob:base.Ns mainGlobals mg
 blt:∃ mb,base.Ns builtinsNs mb/\∀ x:Str,x ≠ "__name__" -> mb x=bootBuiltins x
 nolimit:base.NoLimit
structure Cx where
 prog:Program
 w:World
 K:PySem.W.Frag
 mg:Str->Option Value
 base:Heap
 A:Around
 N:List Str
 s₀:Shared
 H₀:Hp
 env:Env
 outer:List Env
 stack:List Env
 ex:List Addr
 fn:Str->Bool
 calm:Bool
 pn:List (Addr×Obj)
 xe:Value->Shared->Prop
noncomputable def frs (l:List Env):List Addr:=l.filterMap (·.frame)
noncomputable abbrev Cx.fs (X:Cx):List Addr:=frs X.outer
noncomputable def Vis (sc:Scope) (x:Str):Prop:=sc.names.lookup x=some .local\/sc.names.lookup x=some .cell\/sc.names.lookup x=some .free
noncomputable def Loc (sc:Scope) (x:Str):Prop:=sc.names.lookup x=some .local\/sc.names.lookup x=some .cell
noncomputable def Look (env:Env) (h:Heap) (m:Str->Option Value) (x:Str) (u:Value):Prop:=
 (env.kindOf x=some .local/\m x=some u)\/((env.kindOf x=some .cell\/env.kindOf x=some .free)/\∃ c,env.cells.lookup x=some c/\h.IsCell c (some u))
structure Cx.Ok (X:Cx):Prop where
 mod:Mod X.K X.mg X.base
 kind:X.env.scope.kind=.function
 glob:X.env.globals=mainGlobals
 blt:X.env.builtins=builtinsNs
 above:X.s₀.heap.objs.size<=X.env.locals
 inj:∀ x y c,X.env.cells.lookup x=some c->X.env.cells.lookup y=some c->x=y
 has:∀ x,(X.env.kindOf x=some .cell\/X.env.kindOf x=some .free)->∃ c,X.env.cells.lookup x=some c
 cab:∀ x c,X.fn x=true->X.env.cells.lookup x=some c->X.s₀.heap.objs.size<=c
 hd:X.calm=true->X.A.handled=none
 frames:X.A.frames=some X.stack
 stk:X.stack=X.outer\/(X.stack=X.env::X.outer/\X.env.frame=some X.env.locals)
 exf:∀ b∈X.ex,b≠X.env.locals/\∀ x c,X.env.cells.lookup x=some c->c≠b
 bs:∀ b o,X.base.get? b=some o->X.s₀.heap.get? b=some o/\X.H₀ b=none
 bsz:X.base.objs.size<=X.s₀.heap.objs.size
 noex:∀ b o,X.base.get? b=some o->b∉X.ex
 exfs:∀ b∈X.ex,b∉X.fs
 funs:X.s₀.heap.FunFrames X.base X.outer
 frf:∀ b∈X.fs,X.H₀ b=none
 seer:X.base.NoSeer
 tree:(model X.prog X.w).prog.given.tree=none
 plr:∀ s:Shared,(∀ b o,X.base.get? b=some o->s.heap.get? b=some o)->PySem.PylongRoom (model X.prog X.w) X.A s
structure Inv (X:Cx) (pins:List (Addr×Obj)) (σ:List (Option V)) (H:Hp) (s:Shared):Prop where
 ok:X.Ok
 os:s.os=X.s₀.os
 bare:AllBare s.gens
 base:Un X.fs X.ex X.H₀ H X.s₀.heap s.heap
 loc:∃ m,s.heap.Ns X.env.locals m/\∀ (i:Nat) (x:Str) (v:V),X.N[i]?=some x->σ[i]?=some (some v)->Vis X.env.scope x->∃ u,RelV v u/\Look X.env s.heap m x u
 cell:∀ x c,X.env.cells.lookup x=some c->∃ v,s.heap.IsCell c v
 free:H X.env.locals=none
 freeC:∀ x c,X.env.cells.lookup x=some c->H c=none
 pin:∀ p∈X.pn++pins,s.heap.get? p.1=some p.2/\H p.1=none/\p.1≠X.env.locals/\p.1∉X.fs/\∀ v,p.2.data≠.cell v
 hok:HOk X.prog X.w H s.heap
 len:σ.length=X.N.length
section
variable {X:Cx} {pins:List (Addr×Obj)} {σ:List (Option V)} {H H':Hp} {s:Shared} {h':Heap}
theorem Cx.Ok.nofr (ok:X.Ok) {b:Addr} {o:Obj} (e:X.base.get? b=some o):b∉X.fs:=λhb=>by
 have:=(ok.funs.mem hb).1
 rw [e] at this;cases this
theorem Inv.bs (I:Inv X pins σ H s):∀ b o,X.base.get? b=some o->s.heap.get? b=some o/\H b=none:=λb o e=>
 ⟨I.base.keep b o (I.ok.bs b o e).1 (I.ok.bs b o e).2 (I.ok.nofr e) (I.ok.noex b o e),I.base.free b o (I.ok.bs b o e).1 (I.ok.bs b o e).2 (I.ok.noex b o e)⟩
theorem Inv.bk (I:Inv X pins σ H s):∀ b o,X.base.get? b=some o->s.heap.get? b=some o:=λb o e=>(I.bs b o e).1
theorem Inv.mod (I:Inv X pins σ H s):Mod X.K X.mg X.base:=I.ok.mod
theorem Inv.kIn (I:Inv X pins σ H s):X.K.In s.heap:=I.ok.mod.kin.keeps I.bk
theorem Inv.lt (I:Inv X pins σ H s):X.env.locals<s.heap.objs.size:=let ⟨_,hn,_⟩:=I.loc;hn.lt
theorem Inv.sz (I:Inv X pins σ H s):X.s₀.heap.objs.size<=s.heap.objs.size:=wa3 I.ok.above (wbr I.lt)
theorem Inv.nofs (I:Inv X pins σ H s) {a:Addr} (h:s.heap.objs.size<=a):a∉X.fs:=λhb=>by
 obtain ⟨_,o,ho,_⟩:=I.ok.funs.mem hb
 exact absurd (wa8 (Heap.lt_size ho) (wa3 I.sz h)) (wbc _)
theorem Inv.cne (I:Inv X pins σ H s):∀ x c,X.env.cells.lookup x=some c->c≠X.env.locals:=λx c e z=>by
 obtain ⟨v,o,ho,hd⟩:=I.cell x c e
 obtain ⟨m,⟨o',es,ep,ho',hd',_⟩,_⟩:=I.loc
 rw [z,ho'] at ho;cases ho;rw [hd'] at hd;cases hd
theorem Inv.funs (I:Inv X pins σ H s):s.heap.FunFrames X.base X.outer:=by
 have all:∀ (l:List Env),(∀ b∈frs l,b∈X.fs)->X.s₀.heap.FunFrames X.base l->s.heap.FunFrames X.base l:=by
  intro l
  induction l with
  | nil=>intro _ _;trivial
  | cons env r ih=>
    intro hs hl
    obtain ⟨hk,⟨L,o,hf,hn,ho,hd⟩,hr⟩:=hl
    have hL:L∈X.fs:=hs L (by unfold frs;rw [List.filterMap_cons,hf];exact waz)
    obtain ⟨sl,e⟩:=I.base.slot L o ho (I.ok.frf L hL) hL λz=>I.ok.exfs L z hL
    exact ⟨hk,⟨L,_,hf,hn,e,hd⟩,ih (λb hb=>hs b (by unfold frs;rw [List.filterMap_cons,hf];exact wa4 _ hb)) hr⟩
 exact all X.outer (λ_ hb=>hb) I.ok.funs
theorem Inv.stack (I:Inv X pins σ H s):s.heap.FunFrames X.base X.stack:=by
 rcases I.ok.stk with e | ⟨e,hf⟩
 ·rw [e];exact I.funs
 ·rw [e]
  obtain ⟨m,hn,_⟩:=I.loc
  refine .cons (by rw [I.ok.kind];decide) hf hn ?_ I.funs
  exact Heap.get?_none_of_le (wa3 I.ok.bsz I.ok.above)
theorem Inv.stkSub (I:Inv X pins σ H s):∀ b∈frs X.stack,b∈X.env.locals::X.fs:=λb hb=>by
 rcases I.ok.stk with e | ⟨e,hf⟩
 ·rw [e] at hb;exact wa4 _ hb
 ·rw [e] at hb
  unfold frs at hb
  rw [List.filterMap_cons,hf] at hb
  exact hb
theorem Inv.stkFree (I:Inv X pins σ H s):∀ b∈frs X.stack,H b=none:=λb hb=>by
 rcases wa0.mp (I.stkSub b hb) with e | hb
 ·rw [e];exact I.free
 ·obtain ⟨_,o,ho,_⟩:=I.ok.funs.mem hb
  exact I.base.free b o ho (I.ok.frf b hb) λz=>I.ok.exfs b z hb
theorem Inv.step {g':Array GenState} {t':Nat} {d':Drawn} {ch:List Addr} (I:Inv X pins σ H s)
  (hch:∀ b∈ch,(b∈X.ex\/X.s₀.heap.objs.size<=b)/\b≠X.env.locals/\(∀ x c,X.env.cells.lookup x=some c->c≠b)/\∀ p∈X.pn++pins,p.1≠b)
  (keep:∀ b o,b≠X.env.locals->b∉X.fs->b∉ch->s.heap.get? b=some o->H b=none->h'.get? b=some o)
  (slot:∀ b o,b≠X.env.locals->b∈X.fs->b∉ch->s.heap.get? b=some o->H b=none->∃ sl,h'.get? b=some { o with slots:=sl }) (free:∀ b o,b∉ch->s.heap.get? b=some o->H b=none->H' b=none)
  (there:∀ b o,b∉ch->s.heap.get? b=some o->∃ o',h'.get? b=some o')
  (tups:∀ b xs,H b=some (.tup xs)->H' b=some (.tup xs)) (frzs:∀ b o u,H b=some (.frz o u)->H' b=some (.frz o u)) (tbls:∀ b ps,H b=some (.tbl ps)->∃ more,H' b=some (.tbl (ps++more)))
  (ns:∀ m,s.heap.Ns X.env.locals m->h'.Ns X.env.locals m) (hok:HOk X.prog X.w H' h') (hg:AllBare g') :
  Inv X pins σ H' { s with heap:=h',gens:=g',drawn:=d',toks:=t' }:=by
 have neL:∀ b o,X.s₀.heap.get? b=some o->b≠X.env.locals:=λb o e=>was (wa8 (Heap.lt_size e) I.ok.above)
 have neC:∀ b o,X.s₀.heap.get? b=some o->b∉X.ex->b∉ch:=λb o e hx hb=>by
  rcases (hch b hb).1 with z | z
  ·exact hx z
  ·exact absurd (wa8 (Heap.lt_size e) z) (wbc _)
 have cellK:∀ x c,X.env.cells.lookup x=some c->∀ v,s.heap.IsCell c v->h'.IsCell c v:=λx c e v ⟨o,ho,hd⟩=>by
  have nch:c∉ch:=λz=>(hch c z).2.2.1 x c e rfl
  by_cases hc:c∈X.fs
  ·obtain ⟨sl,q⟩:=slot c o (I.cne x c e) hc nch ho (I.freeC x c e)
   exact ⟨_,q,hd⟩
  ·exact ⟨o,keep c o (I.cne x c e) hc nch ho (I.freeC x c e),hd⟩
 refine ⟨I.ok,I.os,hg,⟨λb o e n hb hx=>?_,λb o e n hb hx=>?_,λb o e n hx=>?_,λb o e hx=>?_,λb xs e=>tups b xs (I.base.tups b xs e),λb o xs e=>frzs b o xs (I.base.frzs b o xs e),λb ps e=>?_⟩,?_,λx c e=>?_,?_,λx c e=>?_,λp hp=>?_,hok,I.len⟩
 ·exact keep b o (neL b o e) hb (neC b o e hx) (I.base.keep b o e n hb hx) (I.base.free b o e n hx)
 ·obtain ⟨sl,e1⟩:=I.base.slot b o e n hb hx
  obtain ⟨sl',e2⟩:=slot b _ (neL b o e) hb (neC b o e hx) e1 (I.base.free b o e n hx)
  exact ⟨sl',e2⟩
 ·obtain ⟨o',e1⟩:=I.base.there b o e hx
  exact free b o' (neC b o e hx) e1 (I.base.free b o e n hx)
 ·obtain ⟨o',e1⟩:=I.base.there b o e hx
  exact there b o' (neC b o e hx) e1
 ·obtain ⟨m1,e1⟩:=I.base.tbls b ps e
  obtain ⟨m2,e2⟩:=tbls b _ e1
  exact ⟨m1++m2,by rw [e2,Array.append_assoc]⟩
 ·obtain ⟨m,hn,hl⟩:=I.loc
  refine ⟨m,ns m hn,λi x v e1 e2 e3=>?_⟩
  obtain ⟨u,r,l⟩:=hl i x v e1 e2 e3
  refine ⟨u,r,?_⟩
  rcases l with l | ⟨k,c,e,z⟩
  ·exact .inl l
  ·exact .inr ⟨k,c,e,cellK x c e _ z⟩
 ·obtain ⟨v,z⟩:=I.cell x c e
  exact ⟨v,cellK x c e v z⟩
 ·obtain ⟨m,⟨o,_,_,ho,_⟩,_⟩:=I.loc
  exact free _ o (λz=>(hch _ z).2.1 rfl) ho I.free
 ·obtain ⟨v,o,ho,hd⟩:=I.cell x c e
  exact free c o (λz=>(hch c z).2.2.1 x c e rfl) ho (I.freeC x c e)
 ·obtain ⟨e,n,ne,nf,d⟩:=I.pin p hp
  have nch:p.1∉ch:=λz=>(hch p.1 z).2.2.2 p hp rfl
  exact ⟨keep p.1 p.2 ne nf nch e n,free p.1 p.2 nch e n,ne,nf,d⟩
theorem Inv.un {t':Nat} (I:Inv X pins σ H s) (u:Un X.fs [] H H' s.heap h') (hok:HOk X.prog X.w H' h'):Inv X pins σ H' { s with heap:=h',toks:=t' }:=by
 obtain ⟨m,⟨o,es,ep,ho,r⟩,_⟩:=id I.loc
 obtain ⟨sl,hL⟩:=u.any ho I.free (by simp)
 exact I.step (g':=s.gens) (d':=s.drawn) (ch:=[]) (λ_ z=>nomatch z) (λb o _ hb _ e n=>u.keep b o e n hb (by simp)) (λb o _ hb _ e n=>u.slot b o e n hb (by simp)) (λb o _ e n=>u.free b o e n (by simp)) (λb o _ e=>u.there b o e (by simp)) u.tups u.frzs u.tbls (λm' hm=>by
  obtain ⟨o',es',ep',ho',r'⟩:=hm
  rw [ho] at ho';cases ho'
  exact ⟨_,es',ep',hL,r'⟩) hok I.bare
theorem Inv.call {g':Array GenState} {t':Nat} {d':Drawn} {ch:List Addr} (I:Inv X pins σ H s) (u:Un (frs X.stack) ch H H' s.heap h') (hok:HOk X.prog X.w H' h') (hg:AllBare g')
  (hch:∀ b∈ch,(b∈X.ex\/X.s₀.heap.objs.size<=b)/\b≠X.env.locals/\(∀ x c,X.env.cells.lookup x=some c->c≠b)/\∀ p∈X.pn++pins,p.1≠b) :
  Inv X pins σ H' { s with heap:=h',gens:=g',drawn:=d',toks:=t' }:=by
 obtain ⟨m,⟨o,es,ep,ho,r⟩,_⟩:=id I.loc
 obtain ⟨sl,hL⟩:=u.any ho I.free λz=>(hch _ z).2.1 rfl
 exact I.step (ch:=ch) hch (λb o hL hb hc e n=>u.keep b o e n (λz=>(wa0.mp (I.stkSub b z)).elim hL hb) hc) (λb o _ _ hc e n=>u.any e n hc) (λb o hc e n=>u.free b o e n hc) (λb o hc e=>u.there b o e hc) u.tups u.frzs u.tbls (λm' hm=>by
  obtain ⟨o',es',ep',ho',r'⟩:=hm
  rw [ho] at ho';cases ho'
  exact ⟨_,es',ep',hL,r'⟩) hok hg
theorem Inv.turned {t':Nat} {it:Addr} (I:Inv X pins σ H s) (k:∀ b o,b≠it->s.heap.get? b=some o->h'.get? b=some o) (hn:H it=none) (hL:it≠X.env.locals)
  (h1:it∈X.ex\/X.s₀.heap.objs.size<=it) (h2:∀ x c,X.env.cells.lookup x=some c->c≠it) (h3:∀ p∈X.pn++pins,p.1≠it):Inv X pins σ H { s with heap:=h',toks:=t' }:=by
 have nit:∀ b u,H b=some u->b≠it:=λb u e z=>by rw [z,hn] at e;cases e
 refine I.step (g':=s.gens) (d':=s.drawn) (ch:=[it]) (λb hb=>?_) (λb o _ _ hc e _=>k b o (λz=>hc (by simp [z])) e) (λb o _ _ hc e _=>⟨o.slots,k b o (λz=>hc (by simp [z])) e⟩) (λ_ _ _ _ n=>n)
  (λb o hc e=>⟨o,k b o (λz=>hc (by simp [z])) e⟩) (λ_ _ e=>e) (λ_ _ _ e=>e) (λb ps e=>⟨#[],by rw [e];simp⟩) (λm hm=>?_) (λb u e=>?_) I.bare
 ·have e:b=it:=by simpa using hb
  subst e
  exact ⟨h1,hL,h2,h3⟩
 ·obtain ⟨o,es,ep,ho,r⟩:=hm
  exact ⟨o,es,ep,k _ o (Ne.symm hL) ho,r⟩
 ·refine (I.hok b u e).stay (λc v hc q=>k c v ?_ q) (λ_ q=>q) λ_ _ q=>q
  rcases hc with z | z
  ·rw [z];exact nit b u e
  ·exact nit c _ z
theorem Inv.tok (I:Inv X pins σ H s) (t:Nat):Inv X pins σ H { s with toks:=t }:=I.un (h':=s.heap) (t':=t) Un.refl I.hok
theorem Inv.kept {t':Nat} (I:Inv X pins σ H s) (k:∀ b u,s.heap.get? b=some u->h'.get? b=some u):Inv X pins σ H { s with heap:=h',toks:=t' }:=I.un (Un.kept k) (I.hok.kept k)
theorem Inv.laid {a:Addr} {o:HO} {t':Nat} (I:Inv X pins σ H s) (k:∀ b u,s.heap.get? b=some u->h'.get? b=some u) (hp:s.heap.objs.size<=a) (new:ObjOk X.prog X.w (upd H a o) h' a o) :
  Inv X pins σ (upd H a o) { s with heap:=h',toks:=t' }:=I.un (Un.laid k hp (I.hok.fresh hp)) (I.hok.laid k hp new)
theorem Inv.write {x e:Addr} {o:HO} {t':Nat} (I:Inv X pins σ H s) (mu:Mut (H x)) (he:e=x\/H e=some (.own x)) (k:∀ b u,b≠e->s.heap.get? b=some u->h'.get? b=some u) (heo:∃ u,h'.get? e=some u)
  (new:ObjOk X.prog X.w (upd H x o) h' x o):Inv X pins σ (upd H x o) { s with heap:=h',toks:=t' }:=I.un (Un.write mu he k heo) (I.hok.write mu he k heo new)
theorem Inv.pins_of {pins':List (Addr×Obj)} (I:Inv X pins σ H s) (h:∀ p∈pins',s.heap.get? p.1=some p.2/\H p.1=none/\p.1≠X.env.locals/\p.1∉X.fs/\∀ v,p.2.data≠.cell v):Inv X pins' σ H s:=
 ⟨I.ok,I.os,I.bare,I.base,I.loc,I.cell,I.free,I.freeC,λp hp=>(wbk.mp hp).elim (λz=>I.pin p (wcq _ z)) (h p),I.hok,I.len⟩
theorem qlk {N:List Str} (hN:N.Nodup) {i j:Nat} {x:Str} (a:N[i]?=some x) (b:N[j]?=some x):i=j:=by
 obtain ⟨h1,e1⟩:=waq.mp a
 obtain ⟨h2,e2⟩:=waq.mp b
 exact (List.getElem_inj hN).mp (e1.trans e2.symm)
theorem qjn {M:Model} {A:Around} {E:Value->Shared->Prop} {i:Nat} {x:Str} {v:V} {u:Value} {Q:Unit->Shared->Prop} (I:Inv X pins σ H s) (hN:X.N.Nodup) (hi:X.N[i]?=some x) (hx:Loc X.env.scope x) (r:RelV v u)
  (h:∀ s',Inv X pins (σ.set i (some v)) H s'->(∃ a,Heap.SameBut a s.heap s'.heap/\(a=X.env.locals\/X.env.cells.lookup x=some a))->Q () s') (hf:X.fn x=true\/X.env.scope.names.lookup x=some .local:=by first | exact .inl rfl | exact .inr rfl | assumption):wpAny M A (storeName X.env x u) Q E s:=by
 obtain ⟨m,hn,hl⟩:=id I.loc
 have hcls:(X.env.scope.kind == .class || (X.env.scope.kind == .module && X.env.locals != X.env.globals))=false:=by rw [I.ok.kind];rfl
 have hiσ:i<σ.length:=by rw [I.len];exact (waq.mp hi).1
 have cne:=I.cne
 have tracked:∀ {a:Addr} {h':Heap},(∃ o,s.heap.get? a=some o/\H a=none)->Heap.SameBut a s.heap h'->HOk X.prog X.w H h':=λ{a h'} ha hs b ob e=>by
  obtain ⟨_,_,hfree⟩:=ha
  refine (I.hok b ob e).stay (λc w' hc q=>(hs.2 c ?_).trans q) (λ_ q=>q) λ_ _ q=>q
  rintro rfl
  rcases hc with rfl | hc
  ·rw [hfree] at e;cases e
  ·rw [hfree] at hc;cases hc
 rcases hx with hk | hk
 ·refine wpAny_storeName_local hk hn (λh' hn' hs=>?_) hcls
  obtain ⟨oL,_,_,hoL,_⟩:=id hn
  refine h _ ⟨I.ok,I.os,I.bare,⟨λb o e n hb hx=>?_,λb o e n hb hx=>?_,I.base.free,λb o e hx=>?_,I.base.tups,I.base.frzs,I.base.tbls⟩,⟨_,hn',λj y v' e1 e2 e3=>?_⟩,λy c e=>?_,I.free,I.freeC,λp hp=>?_,tracked ⟨oL,hoL,I.free⟩ hs,by simpa using I.len⟩ ⟨_,hs,.inl rfl⟩
  ·exact (hs.2 b (was (wa8 (Heap.lt_size e) I.ok.above))).trans (I.base.keep b o e n hb hx)
  ·obtain ⟨sl,e1⟩:=I.base.slot b o e n hb hx
   exact ⟨sl,(hs.2 b (was (wa8 (Heap.lt_size e) I.ok.above))).trans e1⟩
  ·obtain ⟨o',e1⟩:=I.base.there b o e hx
   exact ⟨o',(hs.2 b (was (wa8 (Heap.lt_size e) I.ok.above))).trans e1⟩
  ·by_cases hj:j=i
   ·subst hj
    rw [hi] at e1;cases e1
    rw [List.getElem?_set_self hiσ] at e2
    cases e2
    exact ⟨u,r,.inl ⟨hk,by simp⟩⟩
   ·rw [List.getElem?_set_ne (Ne.symm hj)] at e2
    obtain ⟨u',r',q⟩:=hl j y v' e1 e2 e3
    refine ⟨u',r',?_⟩
    rcases q with ⟨k,e⟩ | ⟨k,c,e,z⟩
    ·refine .inl ⟨k,?_⟩
     have:y≠x:=λe=>hj (qlk hN e1 (e ▸ hi))
     simp [this,e]
    ·exact .inr ⟨k,c,e,z.sameBut hs (cne y c e)⟩
  ·obtain ⟨w',z⟩:=I.cell y c e
   exact ⟨w',z.sameBut hs (cne y c e)⟩
  ·obtain ⟨e,n,ne,nf,d⟩:=I.pin p hp
   exact ⟨(hs.2 p.1 ne).trans e,n,ne,nf,d⟩
 ·have hfn:X.fn x=true:=by
   rcases hf with z | z
   ·exact z
   ·rw [z] at hk;cases hk
  obtain ⟨c,hc⟩:=I.ok.has x (.inl hk)
  obtain ⟨w',z⟩:=I.cell x c hc
  refine wpAny_storeName_cell I.ok.kind hk hc z (λh' hc' hs=>?_)
  obtain ⟨oc,hoc,hocd⟩:=id z
  refine h { s with heap:=h' } ⟨I.ok,I.os,I.bare,⟨λb o e n hb hx=>?_,λb o e n hb hx=>?_,I.base.free,λb o e hx=>?_,I.base.tups,I.base.frzs,I.base.tbls⟩,⟨m,hn.sameBut hs (Ne.symm (cne x c hc)),λj y v' e1 e2 e3=>?_⟩,λy c' e=>?_,I.free,I.freeC,λp hp=>?_,tracked ⟨oc,hoc,I.freeC x c hc⟩ hs,by simpa using I.len⟩ ⟨c,hs,.inr hc⟩
  ·exact (hs.2 b (was (wa8 (Heap.lt_size e) (I.ok.cab x c hfn hc)))).trans (I.base.keep b o e n hb hx)
  ·obtain ⟨sl,e1⟩:=I.base.slot b o e n hb hx
   exact ⟨sl,(hs.2 b (was (wa8 (Heap.lt_size e) (I.ok.cab x c hfn hc)))).trans e1⟩
  ·obtain ⟨o',e1⟩:=I.base.there b o e hx
   exact ⟨o',(hs.2 b (was (wa8 (Heap.lt_size e) (I.ok.cab x c hfn hc)))).trans e1⟩
  ·by_cases hj:j=i
   ·subst hj
    rw [hi] at e1;cases e1
    rw [List.getElem?_set_self hiσ] at e2
    cases e2
    exact ⟨u,r,.inr ⟨.inl hk,c,hc,hc'⟩⟩
   ·rw [List.getElem?_set_ne (Ne.symm hj)] at e2
    obtain ⟨u',r',q⟩:=hl j y v' e1 e2 e3
    refine ⟨u',r',?_⟩
    rcases q with q | ⟨k,c',e,z'⟩
    ·exact .inl q
    ·refine .inr ⟨k,c',e,z'.sameBut hs ?_⟩
     rintro rfl
     exact hj (qlk hN e1 (I.ok.inj _ _ _ e hc ▸ hi))
  ·by_cases hcc:c'=c
   ·subst hcc;exact ⟨_,hc'⟩
   ·obtain ⟨w2,z2⟩:=I.cell y c' e
    exact ⟨w2,z2.sameBut hs hcc⟩
  ·obtain ⟨e,n,ne,nf,d⟩:=I.pin p hp
   refine ⟨(hs.2 p.1 ?_).trans e,n,ne,nf,d⟩
   intro q
   rw [q,hoc] at e
   have q':oc=p.2:=Option.some.inj e
   exact d w' (by rw [<-q'];exact hocd)
theorem qeR {M:Model} {A:Around} {E:Value->Shared->Prop} {i:Nat} {x:Str} {v:V} {u:Value} {Q:Unit->Shared->Prop} (I:Inv X pins σ H s) (hN:X.N.Nodup) (hi:X.N[i]?=some x) (hx:Loc X.env.scope x) (r:RelV v u)
  (h:∀ s',Inv X pins (σ.set i (some v)) H s'->Q () s') (hf:X.fn x=true\/X.env.scope.names.lookup x=some .local:=by first | exact .inl rfl | exact .inr rfl | assumption):wpAny M A (storeName X.env x u) Q E s:=
 qjn I hN hi hx r (λs' I' _=>h s' I') hf
theorem Inv.call' {s':Shared} {ch:List Addr} (I:Inv X pins σ H s) (ho:s'.os=s.os) (u:Un (frs X.stack) ch H H' s.heap s'.heap) (hok:HOk X.prog X.w H' s'.heap) (hg:AllBare s'.gens)
  (hch:∀ b∈ch,(b∈X.ex\/X.s₀.heap.objs.size<=b)/\b≠X.env.locals/\(∀ x c,X.env.cells.lookup x=some c->c≠b)/\∀ p∈X.pn++pins,p.1≠b):Inv X pins σ H' s':=by
 obtain ⟨h',g',d',t',o'⟩:=s'
 have e:o'=s.os:=ho
 subst e
 exact I.call (g':=g') (t':=t') (d':=d') u hok hg hch
end
noncomputable abbrev XK:=Value->Option Addr->Hp->Prop
noncomputable abbrev St:=List (Option V)
noncomputable abbrev VK:=V->Hp->Prop
noncomputable abbrev TE:=St->Hp->VK->Prop
noncomputable abbrev TT:=St->Hp->(Bool->Hp->Prop)->Prop
noncomputable abbrev TA:=St->Hp->(List V->Hp->Prop)->Prop
structure Ends where
 nx:St->Hp->Prop
 rt:VK
 bk:St->Hp->Prop:=λ_ _=>False
 ct:St->Hp->Prop:=λ_ _=>False
noncomputable abbrev TS:=Ends->St->Hp->Prop
noncomputable def EP (X:Cx) (pins:List (Addr×Obj)) (σ:St) (Q:VK) (u:Value) (s':Shared):Prop:=∃ v H',Inv X pins σ H' s'/\RelV v u/\Q v H'
noncomputable def TP (X:Cx) (pins:List (Addr×Obj)) (σ:St) (Q:Bool->Hp->Prop) (b:Bool) (s':Shared):Prop:=∃ H',Inv X pins σ H' s'/\Q b H'
noncomputable def AP (X:Cx) (pins:List (Addr×Obj)) (σ:St) (Q:List V->Hp->Prop) (us:List Value) (s':Shared):Prop:=∃ vs H',Inv X pins σ H' s'/\Vals vs us/\Q vs H'
noncomputable def SP (X:Cx) (pins:List (Addr×Obj)) (D:Ends) (f:Flow) (s':Shared):Prop:=
 match f with
 | .next=>∃ σ' H',Inv X pins σ' H' s'/\D.nx σ' H'
 | .brk=>∃ σ' H',Inv X pins σ' H' s'/\D.bk σ' H'
 | .cont=>∃ σ' H',Inv X pins σ' H' s'/\D.ct σ' H'
 | .ret u=>∃ v σ' H',Inv X pins σ' H' s'/\RelV v u/\D.rt v H'
noncomputable def PE (X:Cx) (e:Expr) (t:TE):Prop:=
 ∀ (pins:List (Addr×Obj)) (s:Shared) (σ:St) (H:Hp) (Q:VK),Inv X pins σ H s->t σ H Q->wpAny (model X.prog X.w) X.A (eval e X.env) (EP X pins σ Q) X.xe s
noncomputable def PT (X:Cx) (e:Expr) (t:TT):Prop:=
 ∀ (pins:List (Addr×Obj)) (s:Shared) (σ:St) (H:Hp) (Q:Bool->Hp->Prop),Inv X pins σ H s->t σ H Q->wpAny (model X.prog X.w) X.A (isTrue e X.env (eval e X.env)) (TP X pins σ Q) X.xe s
noncomputable def PW (X:Cx) (e:Expr) (t:TT):Prop:=
 ∀ (whole:Sem Value) (pins:List (Addr×Obj)) (s:Shared) (σ:St) (H:Hp) (Q:Bool->Hp->Prop),Inv X pins σ H s->t σ H Q->wpAny (model X.prog X.w) X.A (isTrue e X.env whole) (TP X pins σ Q) X.xe s
theorem PW.pt {X:Cx} {e:Expr} {t:TT} (h:PW X e t):PT X e t:=h _
noncomputable def PA (X:Cx) (es:List Expr) (t:TA):Prop:=
 ∀ (pos:Pos) (pins:List (Addr×Obj)) (s:Shared) (σ:St) (H:Hp) (Q:List V->Hp->Prop),Inv X pins σ H s->t σ H Q->wpAny (model X.prog X.w) X.A (spliced (backTo pos (starEach es X.env))) (AP X pins σ Q) X.xe s
noncomputable def PS (X:Cx) (st:Stmt) (t:TS):Prop:=
 ∀ (pins:List (Addr×Obj)) (s:Shared) (σ:St) (H:Hp) (D:Ends),Inv X pins σ H s->t D σ H->wpAny (model X.prog X.w) X.A (exec st X.env) (SP X pins D) X.xe s
noncomputable def PSs (X:Cx) (st:List Stmt) (t:TS):Prop:=
 ∀ (pins:List (Addr×Obj)) (s:Shared) (σ:St) (H:Hp) (D:Ends),Inv X pins σ H s->t D σ H->wpAny (model X.prog X.w) X.A (execs st X.env) (SP X pins D) X.xe s
theorem thn {α:Type} {t:Sem α} {Q Q':α->Shared->Prop} {M:Model} {A:Around} {E:Value->Shared->Prop} {s:Shared} (h:wpAny M A t Q E s) (hQ:∀ a s,Q a s->Q' a s):wpAny M A t Q' E s:=wpAny_mono h hQ λ_ _ x=>x
end L2
namespace L2
open PySem PySem.Spec PyProof.Rows
section
variable {X:Cx}
noncomputable def qaf (i:Nat):TE:=λσ H Q=>∃ v,σ[i]?=some (some v)/\Q v H
noncomputable def tC (v:V):TE:=λ_ H Q=>Q v H
theorem qsq {i:Nat} {x:Str} {pos:Pos} (hN:X.N[i]?=some x) (hv:Vis X.env.scope x) (hd:(x == ("__debug__" : Str))=false:=by decide) (hcd:(x == ("__classdict__" : Str))=false:=by decide):PE X (.Name x pos) (qaf i):=by
 intro pins s σ H Q I h
 obtain ⟨v,e,h⟩:=h
 obtain ⟨m,hn,hl⟩:=I.loc
 obtain ⟨u,r,l⟩:=hl i x v hN e hv
 have fin:EP X pins σ Q u s:=⟨v,H,I,r,h⟩
 rcases l with ⟨hk,hm⟩ | ⟨hk,c,hc,hcell⟩
 ·exact wpAny_Name (wpAny_loadName_local I.ok.kind hk hn hm fin) hd
 ·rcases hk with hk | hk
  ·exact wpAny_Name (wpAny_loadName_cell I.ok.kind hk hc hcell fin) hd
  ·exact wpAny_Name (wpAny_loadName_free I.ok.kind hk hc hcell fin hcd) hd
theorem qac {i j pos}:PE X (.Constant (.int i) j pos) (tC (.int i)):=λ_ _ _ H _ I h=>wpAny_Constant_int ⟨.int i,H,I.tok _,⟨_,rfl⟩,h⟩
theorem qq6 {b j pos}:PE X (.Constant (.bool b) j pos) (tC (.bl b)):=λ_ _ _ H _ I h=>Constant_bool ⟨.bl b,H,I,rfl,h⟩
theorem qcP {j pos}:PE X (.Constant .none j pos) (tC .non):=λ_ _ _ H _ I h=>Constant_none ⟨.non,H,I,rfl,h⟩
noncomputable def Gl (X:Cx) (x:Str):Prop:=X.env.kindOf x=some .globalImplicit
theorem qmR {E:Value->Shared->Prop} {pins:List (Addr×Obj)} {s:Shared} {σ:St} {H:Hp} {x:Str} {u:Value} {pos:Pos} {Q:Value->Shared->Prop} (I:Inv X pins σ H s) (hg:Gl X x) (hm:X.mg x=some u) (h:Q u s)
  (hd:(x == ("__debug__" : Str))=false:=by decide):wpAny (model X.prog X.w) X.A (eval (.Name x pos) X.env) Q E s:=
 Calls.Name_function_global I.ok.kind hg (Calls.loadGlobal_global (by rw [I.ok.glob];exact I.mod.glob.keeps I.bk) hm h) hd
theorem qen {E:Value->Shared->Prop} {pins:List (Addr×Obj)} {s:Shared} {σ:St} {H:Hp} {x:Str} {u:Value} {pos:Pos} {Q:Value->Shared->Prop} (I:Inv X pins σ H s) (hg:Gl X x) (hm:X.mg x=none) (hv:bootBuiltins x=some u) (h:Q u s)
  (hn:x ≠ "__name__" := by decide) (hd:(x == ("__debug__" : Str))=false:=by decide):wpAny (model X.prog X.w) X.A (eval (.Name x pos) X.env) Q E s:=by
 obtain ⟨mb,h1,h2⟩:=I.mod.blt
 exact Calls.Name_function_global I.ok.kind hg (Calls.loadGlobal_builtin (by rw [I.ok.glob];exact I.mod.glob.keeps I.bk) hm (by rw [I.ok.blt];exact h1.keeps I.bk) ((h2 x hn).trans hv) h) hd
theorem qq7 {x:Str} {v:V} {u:Value} {pos:Pos} (hg:Gl X x) (hm:X.mg x=some u) (r:RelV v u) (hd:(x == ("__debug__" : Str))=false:=by decide):PE X (.Name x pos) (tC v):=
 λ_ _ _ H _ I h=>qmR I hg hm ⟨v,H,I,r,h⟩ hd
variable {a b:Expr} {ta tb:TE} {pos:Pos}
noncomputable def tB (t:TE):TT:=λσ H Q=>t σ H λx H1=>∃ c,x=.bl c/\Q c H1
theorem qll {e:Expr} {t:TE} (h:PE X e t) (he:∀ whole,isTrue e X.env whole=(do let v <-whole;standAt e.pos;holding [v] (truthy v)):=by intro _;rfl):PT X e (tB t):=by
 intro pins s σ H Q I hw
 refine isTrue_plain (thn (h pins s σ H _ I hw) λv s1 ⟨x,H1,I1,r1,q1⟩=>?_) (he _)
 obtain ⟨d,rfl,q⟩:=q1
 cases r1
 exact wpAny_truthy_bool ⟨H1,I1,q⟩
variable {tA tB':TT} {rest:List Expr}
noncomputable def qmP (t u:TT):TT:=λσ H Q=>t σ H λc H1=>if c=true then u σ H1 Q else Q false H1
noncomputable def tOr (t u:TT):TT:=λσ H Q=>t σ H λc H1=>if c=true then Q true H1 else u σ H1 Q
noncomputable def qsg (t:TT):TT:=λσ H Q=>t σ H λc H1=>Q (!c) H1
theorem qdM (ha:PT X a tA):PW X (.BoolOp .And [a] pos) tA:=by
 intro wh pins s σ H Q I h
 refine isTrue_and (thn (ha pins s σ H Q I h) λc s1 e=>?_)
 cases c with
 | true=>exact isTrue_and_nil e
 | false=>exact e
theorem qjo (ha:PT X a tA):PW X (.BoolOp .Or [a] pos) tA:=by
 intro wh pins s σ H Q I h
 refine isTrue_or (thn (ha pins s σ H Q I h) λc s1 e=>?_)
 cases c with
 | false=>exact isTrue_or_nil e
 | true=>exact e
theorem qeS (ha:PT X a tA) (hb:PW X (.BoolOp .And (b::rest) pos) tB'):PW X (.BoolOp .And (a::b::rest) pos) (qmP tA tB'):=by
 intro wh pins s σ H Q I h
 refine isTrue_and (thn (ha pins s σ H _ I h) λc s1 ⟨H1,I1,q1⟩=>?_)
 cases c with
 | true=>exact hb wh pins s1 σ H1 Q I1 q1
 | false=>exact ⟨H1,I1,q1⟩
theorem qmc (ha:PT X a tA) (hb:PW X (.BoolOp .Or (b::rest) pos) tB'):PW X (.BoolOp .Or (a::b::rest) pos) (tOr tA tB'):=by
 intro wh pins s σ H Q I h
 refine isTrue_or (thn (ha pins s σ H _ I h) λc s1 ⟨H1,I1,q1⟩=>?_)
 cases c with
 | true=>exact ⟨H1,I1,q1⟩
 | false=>exact hb wh pins s1 σ H1 Q I1 q1
theorem qmS (ha:PT X a tA):PT X (.UnaryOp .Not a pos) (qsg tA):=by
 intro pins s σ H Q I h
 exact isTrue_not (ha pins s σ H (λc H1=>Q (!c) H1) I h)
noncomputable def qsr (ta tb:TE):TE:=λσ H Q=>ta σ H λx H1=>∃ c,x=.bl c/\if c=true then tb σ H1 Q else Q (.bl false) H1
noncomputable def quq (ta tb:TE):TE:=λσ H Q=>ta σ H λx H1=>∃ c,x=.bl c/\if c=true then Q (.bl true) H1 else tb σ H1 Q
noncomputable def qss (ta:TE):TE:=λσ H Q=>ta σ H λx H1=>∃ c,x=.bl c/\Q (.bl (!c)) H1
noncomputable def tIf (t:TT) (ta tb:TE):TE:=λσ H Q=>t σ H λc H1=>if c=true then ta σ H1 Q else tb σ H1 Q
theorem qed {c:Expr} (hc:PT X c tA) (ha:PE X a ta) (hb:PE X b tb):PE X (.IfExp c a b pos) (tIf tA ta tb):=by
 intro pins s σ H Q I h
 refine wpAny_IfExp (thn (hc pins s σ H _ I h) λd s1 ⟨H1,I1,q1⟩=>?_)
 cases d with
 | true=>exact ha pins s1 σ H1 Q I1 q1
 | false=>exact hb pins s1 σ H1 Q I1 q1
end
end L2
namespace L2
open PySem PySem.Spec PyProof.Rows
noncomputable def SqL (K:PySem.W.Frag) (H:Hp) (a:Addr) (xs:List V):Prop:=
 Rd H a (.lst xs)\/
  ∃ (o:Obj) (its:Array Value) (n:Nat),K.lookup a=some o/\o.cls=.type "list" /\ o.dict=none/\o.data=.seq its n/\its.size<=sizeLine/\Vals xs its.toList
noncomputable def SqT (K:PySem.W.Frag) (H:Hp) (a:Addr) (xs:List V):Prop:=
 Rd H a (.tup xs)\/
  ∃ (o:Obj) (its:Array Value) (n:Nat),K.lookup a=some o/\o.cls=.type "tuple" /\ o.data=.seq its n/\its.size<=sizeLine/\Vals xs its.toList
noncomputable def quG:Value->Option V
 | .none=>some .non
 | .bool b=>some (.bl b)
 | .int i _=>some (.int i)
 | .str x _=>some (.str x)
 | .bytes b _=>some (.byt b)
 | .float b _=>some (.flt b)
 | .ref a=>some (.ref a)
 | .type n=>some (.ty n)
 | _=>none
theorem RelV.abs {x:V} {u:Value} (r:RelV x u):quG u=some x:=by
 cases x with
 | non=>cases r;rfl
 | bl _=>cases r;rfl
 | int _=>obtain ⟨t,rfl⟩:=r;rfl
 | str _=>obtain ⟨t,rfl⟩:=r;rfl
 | byt _=>obtain ⟨t,rfl⟩:=r;rfl
 | flt _=>obtain ⟨t,rfl⟩:=r;rfl
 | ref _=>cases r;rfl
 | ty _=>cases r;rfl
theorem RelV.inj {x y:V} {u:Value} (r:RelV x u) (q:RelV y u):x=y:=Option.some.inj (r.abs.symm.trans q.abs)
theorem Vals.inj:∀ {xs ys:List V} {us:List Value},Vals xs us->Vals ys us->xs=ys
 | _,_,_,.nil,.nil=>rfl
 | _,_,_,.cons r t,.cons r' t'=>by rw [r.inj r',Vals.inj t t']
section
variable {X:Cx} {pins:List (Addr×Obj)} {σ:St} {H:Hp} {s:Shared} {a:Addr} {xs ys:List V}
theorem SqL.of {K:PySem.W.Frag} (h:H a=some (.lst xs)):SqL K H a xs:=.inl (.inl h)
theorem SqT.of {K:PySem.W.Frag} (h:H a=some (.tup xs)):SqT K H a xs:=.inl (.inl h)
theorem Inv.list (I:Inv X pins σ H s) (h:SqL X.K H a xs):∃ its:List Value,Vals xs its/\PlainL s.heap a its.toArray/\xs.length<=sizeLine:=by
 rcases h with h | ⟨o,its,n,hk,hc,hd,hs,hz,r⟩
 ·obtain ⟨z,its,n,r,e⟩:=h.ok I.hok
  exact ⟨its,r,⟨_,n,e,rfl,rfl,rfl⟩,z⟩
 ·refine ⟨its.toList,r,⟨o,n,I.kIn a o hk,hc,hd,by simpa using hs⟩,?_⟩
  have e:=r.length
  simp only [Array.length_toList] at e
  omega
theorem Inv.tuple (I:Inv X pins σ H s) (h:SqT X.K H a xs):∃ its:List Value,Vals xs its/\IsTup s.heap a its.toArray/\xs.length<=sizeLine:=by
 rcases h with h | ⟨o,its,n,hk,hc,hs,hz,r⟩
 ·obtain ⟨z,its,r,p⟩:=h.ok I.hok
  exact ⟨its,r,p,z⟩
 ·refine ⟨its.toList,r,⟨o,I.kIn a o hk,hc,n,by simpa using hs⟩,?_⟩
  have e:=r.length
  simp only [Array.length_toList] at e
  omega
theorem Inv.list_inj (I:Inv X pins σ H s) (h:SqL X.K H a xs) (h':SqL X.K H a ys):xs=ys:=by
 obtain ⟨its,r,⟨o,n,e,_,_,d⟩,_⟩:=I.list h
 obtain ⟨its',r',⟨o',n',e',_,_,d'⟩,_⟩:=I.list h'
 rw [e] at e';cases e'
 rw [d] at d'
 injection d' with d1 _
 have:its=its':=by simpa using congrArg Array.toList d1
 subst this
 exact r.inj r'
theorem Inv.tuple_inj (I:Inv X pins σ H s) (h:SqT X.K H a xs) (h':SqT X.K H a ys):xs=ys:=by
 obtain ⟨its,r,⟨o,e,_,n,d⟩,_⟩:=I.tuple h
 obtain ⟨its',r',⟨o',e',_,n',d'⟩,_⟩:=I.tuple h'
 rw [e] at e';cases e'
 rw [d] at d'
 injection d' with d1 _
 have:its=its':=by simpa using congrArg Array.toList d1
 subst this
 exact r.inj r'
end
noncomputable abbrev Cx.wish (X:Cx) (E:Value->Shared->Prop):Cx:={ X with xe:=E }
noncomputable abbrev Cx.nox (X:Cx):Cx:=X.wish λ_ _=>False
theorem Cx.Ok.wish {X:Cx} (ok:X.Ok) (E:Value->Shared->Prop):(X.wish E).Ok:=
 ⟨ok.mod,ok.kind,ok.glob,ok.blt,ok.above,ok.inj,ok.has,ok.cab,ok.hd,ok.frames,ok.stk,ok.exf,ok.bs,ok.bsz,ok.noex,ok.exfs,ok.funs,ok.frf,ok.seer,ok.tree,ok.plr⟩
theorem Cx.Ok.unwish {X:Cx} {E:Value->Shared->Prop} (ok:(X.wish E).Ok):X.Ok:=
 ⟨ok.mod,ok.kind,ok.glob,ok.blt,ok.above,ok.inj,ok.has,ok.cab,ok.hd,ok.frames,ok.stk,ok.exf,ok.bs,ok.bsz,ok.noex,ok.exfs,ok.funs,ok.frf,ok.seer,ok.tree,ok.plr⟩
section
variable {X:Cx} {pins:List (Addr×Obj)} {σ:St} {H:Hp} {s:Shared} {E:Value->Shared->Prop}
theorem Inv.wish (I:Inv X pins σ H s) (E:Value->Shared->Prop):Inv (X.wish E) pins σ H s:=⟨I.ok.wish E,I.os,I.bare,I.base,I.loc,I.cell,I.free,I.freeC,I.pin,I.hok,I.len⟩
theorem Inv.unwish (I:Inv (X.wish E) pins σ H s):Inv X pins σ H s:=⟨I.ok.unwish,I.os,I.bare,I.base,I.loc,I.cell,I.free,I.freeC,I.pin,I.hok,I.len⟩
theorem SP.unwish {D:Ends} {f:Flow} {s':Shared} (h:SP (X.wish E) pins D f s'):SP X pins D f s':=by
 cases f with
 | next=>obtain ⟨σ',H',I,q⟩:=h;exact ⟨σ',H',I.unwish,q⟩
 | brk=>obtain ⟨σ',H',I,q⟩:=h;exact ⟨σ',H',I.unwish,q⟩
 | cont=>obtain ⟨σ',H',I,q⟩:=h;exact ⟨σ',H',I.unwish,q⟩
 | ret u=>obtain ⟨v,σ',H',I,r,q⟩:=h;exact ⟨v,σ',H',I.unwish,r,q⟩
theorem PSs.nox {st:List Stmt} {t:TS} (h:PSs X.nox st t):PSs X st t:=λpins s σ H D I hw=>
 wpAny_mono (h pins s σ H D (I.wish _) hw) (λ_ _ q=>q.unwish) λ_ _ z=>False.elim z
end
section
variable {X:Cx} {st:Stmt} {rest:List Stmt} {t u:TS} {e:Expr} {te:TE} {pos:Pos}
noncomputable def qbF:TS:=λD σ H=>D.nx σ H
noncomputable def qaF (t u:TS):TS:=λD σ H=>t { D with nx:=u D } σ H
theorem qaO:PSs X [] qbF:=λ_ _ σ H _ I h=>wpAny_execs_nil ⟨σ,H,I,h⟩
theorem qab (h1:PS X st t) (h2:PSs X rest u):PSs X (st::rest) (qaF t u):=by
 intro pins s σ H D I h
 refine wpAny_execs_cons (thn (h1 pins s σ H { D with nx:=u D } I h) λf s1 q=>?_)
 cases f with
 | next=>
   obtain ⟨σ',H',I',q⟩:=q
   exact h2 pins s1 σ' H' D I' q
 | ret v=>exact q
 | brk=>exact q
 | cont=>exact q
theorem qai (h1:PS X st t):PSs X [st] t:=by
 intro pins s σ H D I h
 refine wpAny_execs_cons (thn (h1 pins s σ H D I h) λf s1 q=>?_)
 cases f with
 | next=>exact wpAny_execs_nil q
 | ret v=>exact q
 | brk=>exact q
 | cont=>exact q
theorem Inv.quiet {pins:List (Addr×Obj)} {σ:St} {H:Hp} {s:Shared} (I:Inv X pins σ H s):interactive X.env=false:=by simp [interactive,I.ok.kind]
noncomputable def qir (te:TE):TS:=λD σ H=>te σ H λ_ H1=>D.nx σ H1
theorem qfA (he:PE X e te) (hs:swapsWith e none pos.line X.env=pure false:=by rfl):PS X (.Expr e pos) (qir te):=by
 intro pins s σ H D I h
 exact wpAny_Expr_any (thn (he pins s σ H _ I h) λv s1 ⟨x,H1,I1,r1,q1⟩=>⟨σ,H1,I1,q1⟩) I.quiet hs
noncomputable def qbG (te:TE):TS:=λD σ H=>te σ H D.rt
theorem qaD (he:PE X e te):PS X (.Return (some e) pos) (qbG te):=by
 intro pins s σ H D I h
 exact wpAny_Return_some (thn (he pins s σ H _ I h) λv s1 ⟨x,H1,I1,r1,q1⟩=>⟨x,σ,H1,I1,r1,q1⟩)
noncomputable def qeo (c:TT) (t u:TS):TS:=λD σ H=>c σ H λb H1=>if b=true then t D σ H1 else u D σ H1
theorem qbS {c:Expr} {a b:List Stmt} {tc:TT} (hc:PT X c tc) (ha:PSs X a t) (hb:PSs X b u):PS X (.If c a b pos) (qeo tc t u):=by
 intro pins s σ H D I h
 refine wpAny_If (thn (hc pins s σ H _ I h) λd s1 ⟨H1,I1,q1⟩=>?_)
 cases d with
 | true=>exact ha pins s1 σ H1 D I1 q1
 | false=>exact hb pins s1 σ H1 D I1 q1
end
noncomputable abbrev TG:=V->St->Hp->(St->Hp->Prop)->Prop
noncomputable abbrev TGs:=List V->St->Hp->(St->Hp->Prop)->Prop
noncomputable def PG (X:Cx) (target:Expr) (t:TG):Prop:=
 ∀ (pins:List (Addr×Obj)) (s:Shared) (σ:St) (H:Hp) (v:V) (u:Value) (Q:St->Hp->Prop),Inv X pins σ H s->RelV v u->t v σ H Q->
   wpAny (model X.prog X.w) X.A (assign target X.env u) (λ_ s'=>∃ σ' H',Inv X pins σ' H' s'/\Q σ' H') X.xe s
noncomputable def PGs (X:Cx) (ts:List Expr) (t:TGs):Prop:=
 ∀ (pins:List (Addr×Obj)) (s:Shared) (σ:St) (H:Hp) (vs:List V) (us:List Value) (Q:St->Hp->Prop),Inv X pins σ H s->Vals vs us->t vs σ H Q->
   wpAny (model X.prog X.w) X.A (assignInOrder ((assignEach ts X.env).map (·.2)) us) (λ_ s'=>∃ σ' H',Inv X pins σ' H' s'/\Q σ' H') X.xe s
noncomputable abbrev TSet:=V->V->V->Hp->(Hp->Prop)->Prop
noncomputable def PSet (X:Cx) (t:TSet):Prop:=
 ∀ (pins:List (Addr×Obj)) (s:Shared) (σ:St) (H:Hp) (o i v:V) (ov iv u:Value) (Q:Hp->Prop),Inv X pins σ H s->RelV o ov->RelV i iv->RelV v u->t o i v H Q->
   wpAny (model X.prog X.w) X.A (setItem ov iv u) (λ_ s'=>∃ H',Inv X pins σ H' s'/\Q H') X.xe s
noncomputable abbrev TIp:=V->V->Hp->VK->Prop
noncomputable def PIp (X:Cx) (op:Operator) (t:TIp):Prop:=
 ∀ (pins:List (Addr×Obj)) (s:Shared) (σ:St) (H:Hp) (x y:V) (v u:Value) (Q:VK),Inv X pins σ H s->RelV x v->RelV y u->t x y H Q->
   wpAny (model X.prog X.w) X.A (inplaceOp op v u) (EP X pins σ Q) X.xe s
section
variable {X:Cx} {pos:Pos}
noncomputable def qaj (i:Nat):TG:=λv σ H Q=>Q (σ.set i (some v)) H
theorem qaB {i:Nat} {x:Str} (hN:X.N.Nodup) (hi:X.N[i]?=some x) (hx:Loc X.env.scope x) (hf:X.fn x=true\/X.env.scope.names.lookup x=some .local:=by first | exact .inl rfl | exact .inr rfl | assumption):PG X (.Name x pos) (qaj i):=by
 intro pins s σ H v u Q I r h
 exact wpAny_assign_Name (qeR I hN hi hx r (λs' I'=>⟨_,H,I',h⟩) hf)
noncomputable def qpn:TGs:=λvs σ H Q=>vs=[]/\Q σ H
noncomputable def qeF (t:TG) (u:TGs):TGs:=λvs σ H Q=>∃ v r,vs=v::r/\t v σ H λσ' H'=>u r σ' H' Q
theorem qfB:PGs X [] qpn:=by
 intro pins s σ H vs us Q I r h
 obtain ⟨e,h⟩:=h
 subst e
 cases r
 exact assignInOrder_nil ⟨σ,H,I,h⟩
theorem qbC {e:Expr} {es:List Expr} {t:TG} {u:TGs} (h1:PG X e t) (h2:PGs X es u)
  (hs:(assignEach (e::es) X.env).map (·.2)=assign e X.env::(assignEach es X.env).map (·.2):=by rfl):PGs X (e::es) (qeF t u):=by
 intro pins s σ H vs us Q I r h
 obtain ⟨v,vr,e1,h⟩:=h
 subst e1
 cases r with
 | cons r rr=>
   rw [hs]
   refine assignInOrder_cons (thn (h1 pins s σ H _ _ _ I r h) λ_ s1 ⟨σ1,H1,I1,q1⟩=>?_)
   exact h2 pins s1 σ1 H1 _ _ Q I1 rr q1
noncomputable def quH (K:PySem.W.Frag) (n:Nat) (t:TGs):TG:=λv σ H Q=>∃ a xs,v=.ref a/\SqT K H a xs/\xs.length=n/\t xs σ H Q
theorem qst {es:List Expr} {k:Nat} {t:TGs} {n:Nat} (hc:X.calm=true) (h:PGs X es t)
  (hn:(assignEach es X.env).length=n:=by rfl) (hst:(assignEach es X.env).findIdx? (·.1)=none:=by rfl):PG X (.Tuple es k pos) (quH X.K n t):=by
 intro pins s σ H v u Q I r hw
 obtain ⟨a,xs,e1,hq,hl,hw⟩:=hw
 subst e1
 cases r
 obtain ⟨its,rv,ht,hz⟩:=I.tuple hq
 refine assign_Tuple_tuple (I.ok.hd hc) ht (by simp [hn,<-hl,rv.length]) hst λh' hx=>?_
 have I1:Inv X pins σ H { s with heap:=h' }:=I.kept (t':=s.toks) λb o e=>hx b o (was (Heap.lt_size e)) e
 exact h pins _ σ H xs _ Q I1 (by simpa using rv) hw
noncomputable def qmT (to ti:TE) (t:TSet):TG:=λv σ H Q=>to σ H λo H1=>ti σ H1 λi H2=>t o i v H2 λH3=>Q σ H3
theorem qf0 {o i:Expr} {to ti:TE} {t:TSet} (ho:PE X o to) (hi:PE X i ti) (hs:PSet X t)
  (ha:∀ v,assign (.Subscript o i pos) X.env v=(do
   let ov <-holding [v] (eval o X.env)
   let iv <-holding [v,ov] (eval i X.env)
   standAt pos
   holding [v,ov,iv] (setItem ov iv v)
   release [v,ov,iv] []):=by intro _;rfl):PG X (.Subscript o i pos) (qmT to ti t):=by
 intro pins s σ H v u Q I r h
 rw [ha]
 refine wpAny_bind (wpAny_holding (thn (ho pins s σ H _ I h) λov s1 ⟨x,H1,I1,r1,q1⟩=>?_))
 refine wpAny_bind (wpAny_holding (thn (hi pins s1 σ H1 _ I1 q1) λiv s2 ⟨y,H2,I2,r2,q2⟩=>?_))
 refine wpAny_bind (wpAny_standAt (wpAny_bind (wpAny_holding (thn (hs pins s2 σ H2 x y v ov iv u _ I2 r1 r2 r q2) λ_ s3 ⟨H3,I3,q3⟩=>?_))))
 exact wpAny_release ⟨σ,H3,I3,q3⟩
noncomputable def qaK (te:TE) (g:TG):TS:=λD σ H=>te σ H λx H1=>g x σ H1 D.nx
theorem qf1 {tg e:Expr} {te:TE} {g:TG} (he:PE X e te) (hg:PG X tg g) (hs:swapsWithSole [tg] e pos.line X.env=pure false:=by rfl) (hw:swappedStores [tg] e X.env=pure none:=by rfl)
  (h1:(assignEach [tg] X.env).map (·.2)=[assign tg X.env]:=by rfl):PS X (.Assign [tg] e pos) (qaK te g):=by
 intro pins s σ H D I h
 refine wpAny_Assign_stores (thn (he pins s σ H _ I h) λv s1 ⟨x,H1,I1,r1,q1⟩=>?_) hs hw
 rw [h1]
 exact thn (hg pins s1 σ H1 x v _ I1 r1 q1) λ_ s2 q=>q
theorem qak {i:Nat} {x:Str} {e:Expr} {te:TE} {pos':Pos} (hN:X.N.Nodup) (hi:X.N[i]?=some x) (hx:Loc X.env.scope x) (he:PE X e te) (hs:swapsWith e (some (.Name x pos')) pos.line X.env=pure false:=by rfl) (hf:X.fn x=true\/X.env.scope.names.lookup x=some .local:=by first | exact .inl rfl | exact .inr rfl | assumption) :
  PS X (.Assign [.Name x pos'] e pos) (qaK te (qaj i)):=by
 intro pins s σ H D I h
 refine wpAny_Assign_Name (thn (he pins s σ H _ I h) λv s1 ⟨y,H1,I1,r1,q1⟩=>?_) hs
 exact qeR I1 hN hi hx r1 (λs2 I2=>⟨_,H1,I2,q1⟩) hf
noncomputable def qsu (i j:Nat) (ta:TA):TS:=λD σ H=>ta σ H λvs H1=>∃ v w,vs=[v,w]/\D.nx ((σ.set i (some v)).set j (some w)) H1
theorem qqp {i j:Nat} {x y:Str} {a b:Expr} {ta:TA} {px py pt:Pos} {kt k2 pt2} (hc:X.calm=true) (hN:X.N.Nodup) (hi:X.N[i]?=some x) (hj:X.N[j]?=some y) (hij:i≠j)
  (hx:X.env.scope.names.lookup x=some .local) (hy:X.env.scope.names.lookup y=some .local) (ha:PA X [a,b] ta)
  (hw:swappedStores [.Tuple [.Name x px,.Name y py] kt pt] (.Tuple [a,b] k2 pt2) X.env=pure (some [x,y]))
  (hs:swapsWithSole [.Tuple [.Name x px,.Name y py] kt pt] (.Tuple [a,b] k2 pt2) pos.line X.env=pure false:=by rfl) :
  PS X (.Assign [.Tuple [.Name x px,.Name y py] kt pt] (.Tuple [a,b] k2 pt2) pos) (qsu i j ta):=by
 intro pins s σ H D I h
 rw [exec_Assign_arm]
 refine wpAny_bind (wpAny_standAt ?_)
 rw [hs]
 refine wpAny_bind (wpAny_pure ?_)
 rw [if_neg ∅]
 refine wpAny_bind (Tuple_ (thn (ha _ pins s σ H _ I h) λus s1 ⟨vs,H1,I1,r1,q1⟩=>?_))
 obtain ⟨v,w,e1,q1⟩:=q1
 subst e1
 obtain ⟨u1,u2,rfl,rv,rw'⟩:∃ u1 u2,us=[u1,u2]/\RelV v u1/\RelV w u2:=by
  cases r1 with
  | cons p q=>
    cases q with
    | cons p' q'=>
      cases q'
      exact ⟨_,_,rfl,p,p'⟩
 refine wpAny_newObj_type ?_ (by show 2<=sizeLine;decide)
 have I2:Inv X pins σ H1 { s1 with heap:=s1.heap.push { cls:=.type "tuple", data:=.seq [u1,u2].toArray } }:=I1.kept (t':=s1.toks) λb o e=>Heap.get?_push_of_some _ e
 rw [hw]
 refine wpAny_bind (wpAny_pure ?_)
 show wpAny (model X.prog X.w) X.A (do rule "assign.swapped-stores"; let items <-unpackItems (.ref s1.heap.objs.size) 2 none;assignInOrder [λv=>bindName X.env y v,λv=>bindName X.env x v] items.reverse;pure Flow.next) _ _ _
 refine wpAny_bind (wpAny_rule (wpAny_bind (unpackItems_tuple (items:=#[u1,u2]) (I.ok.hd hc) (IsTup.new s1.heap _) λh' hx'=>?_)))
 have I3:=I2.kept (h':=h') (t':=s1.toks) λb o e=>hx' b o (was (Heap.lt_size e)) e
 show wpAny _ _ (assignInOrder [λv=>bindName X.env y v,λv=>bindName X.env x v] [u2,u1] >>= λ_=>pure Flow.next) _ _ _
 refine wpAny_bind (assignInOrder_cons (wpAny_bindName (qeR I3 hN hj (.inl hy) rw' (λs2 I4=>?_) (.inr hy))))
 refine assignInOrder_cons (wpAny_bindName (qeR I4 hN hi (.inl hx) rv (λs3 I5=>assignInOrder_nil (wpAny_pure ?_)) (.inr hx)))
 rw [List.set_comm _ _ (Ne.symm hij)] at I5
 exact ⟨_,H1,I5,q1⟩
noncomputable def qku (i:Nat) (te:TE) (ti:TIp):TS:=λD σ H=>∃ x,σ[i]?=some (some x)/\te σ H λy H1=>ti x y H1 λz H2=>D.nx (σ.set i (some z)) H2
theorem qdw {i:Nat} {x:Str} {e:Expr} {te:TE} {op:Operator} {ti:TIp} {pos':Pos} (hN:X.N.Nodup) (hi:X.N[i]?=some x) (hx:Loc X.env.scope x) (he:PE X e te) (ho:PIp X op ti) (hf:X.fn x=true\/X.env.scope.names.lookup x=some .local:=by first | exact .inl rfl | exact .inr rfl | assumption) :
  PS X (.AugAssign (.Name x pos') op e pos) (qku i te ti):=by
 intro pins s σ H D I h
 obtain ⟨v,e1,h⟩:=h
 obtain ⟨m,hn,hl⟩:=I.loc
 have vis:Vis X.env.scope x:=by rcases hx with k | k;exact .inl k;exact .inr (.inl k)
 obtain ⟨u,r,l⟩:=hl i x v hi e1 vis
 refine wpAny_AugAssign_Name ?_
 have go:wpAny (model X.prog X.w) X.A (eval e X.env) (λw s₂=>wpAny (model X.prog X.w) X.A (inplaceOp op u w) (λr s₃=>wpAny (model X.prog X.w) X.A (storeName X.env x r) (λ_=>SP X pins D .next) X.xe s₃) X.xe s₂) X.xe s:=by
  refine thn (he pins s σ H _ I h) λw s1 ⟨y,H1,I1,r1,q1⟩=>?_
  refine thn (ho pins s1 σ H1 v y u w _ I1 r r1 q1) λz s2 ⟨zv,H2,I2,r2,q2⟩=>?_
  exact qeR I2 hN hi hx r2 (λs3 I3=>⟨_,H2,I3,q2⟩) hf
 rcases l with ⟨hk,hm⟩ | ⟨hk,c,hc,hcell⟩
 ·exact wpAny_loadName_local I.ok.kind hk hn hm go
 ·rcases hk with hk | hk
  ·exact wpAny_loadName_cell I.ok.kind hk hc hcell go
  ·rcases hx with k | k
   ·have:X.env.scope.names.lookup x=some .free:=hk
    rw [k] at this;cases this
   ·have:X.env.scope.names.lookup x=some .free:=hk
    rw [k] at this;cases this
noncomputable def qis (to ti te:TE) (tget:V->V->Hp->VK->Prop) (tip:TIp) (tset:TSet):TS:=λD σ H=>to σ H λo H1=>ti σ H1 λi H2=>tget o i H2 λx H3=>te σ H3 λy H4=>tip x y H4 λz H5=>tset o i z H5 λH6=>D.nx σ H6
noncomputable def PGet (X:Cx) (t:V->V->Hp->VK->Prop):Prop:=
 ∀ (pins:List (Addr×Obj)) (s:Shared) (σ:St) (H:Hp) (o i:V) (ov iv:Value) (Q:VK),Inv X pins σ H s->RelV o ov->RelV i iv->t o i H Q->
   wpAny (model X.prog X.w) X.A (getItem ov iv) (EP X pins σ Q) X.xe s
theorem qfC {o i e:Expr} {to ti te:TE} {tget:V->V->Hp->VK->Prop} {tip:TIp} {tset:TSet} {op:Operator} {tpos:Pos} (ho:PE X o to) (hi:PE X i ti) (hg:PGet X tget) (he:PE X e te) (hp:PIp X op tip) (hs:PSet X tset)
  (ha:∀ ov iv new,augStore i ov iv new=(do holding [new,ov,iv] (setItem ov iv new);release [new,ov,iv] [];pure .next):=by intros;rfl):PS X (.AugAssign (.Subscript o i tpos) op e pos) (qis to ti te tget tip tset):=by
 intro pins s σ H D I h
 refine wpAny_AugAssign_SubscriptAny (thn (ho pins s σ H _ I h) λov s1 ⟨x1,H1,I1,r1,q1⟩=>?_) ha
 refine thn (hi pins s1 σ H1 _ I1 q1) λiv s2 ⟨x2,H2,I2,r2,q2⟩=>?_
 refine thn (hg pins s2 σ H2 x1 x2 ov iv _ I2 r1 r2 q2) λold s3 ⟨x3,H3,I3,r3,q3⟩=>?_
 refine thn (he pins s3 σ H3 _ I3 q3) λv s4 ⟨x4,H4,I4,r4,q4⟩=>?_
 refine thn (hp pins s4 σ H4 x3 x4 old v _ I4 r3 r4 q4) λnew s5 ⟨x5,H5,I5,r5,q5⟩=>?_
 exact thn (hs pins s5 σ H5 x1 x2 x5 ov iv new _ I5 r1 r2 r5 q5) λ_ s6 ⟨H6,I6,q6⟩=>⟨σ,H6,I6,q6⟩
end
section
variable {X:Cx} {pos:Pos}
noncomputable def qdx (c:TT) (tb:TS):TS:=λD σ H=>∃ W:Nat->St->Hp->Prop,(∃ m,W m σ H)/\∀ m σ H,W m σ H->
 c σ H λb H1=>if b=true then ∃ N:St->Hp->Prop,(∀ σ' H',N σ' H'->∃ m',m'<m/\W m' σ' H')/\tb { D with nx:=N,ct:=N,bk:=D.nx } σ H1 else D.nx σ H1
theorem qb2 {c:Expr} {body:List Stmt} {tc:TT} {tb:TS} (hp:PassesOwn (model X.prog X.w) X.A X.env X.xe) (hc:PT X c tc) (hb:PSs X body tb):PS X (.While c body [] pos) (qdx tc tb):=by
 intro pins s σ H D I h
 obtain ⟨W,⟨m0,w0⟩,turn⟩:=h
 refine wpAny_While (codeAny_whileLoop (λn s'=>∃ σ' H',Inv X pins σ' H' s'/\W n σ' H') ?_ m0 ⟨σ,H,I,w0⟩)
 rintro n s1 ⟨σ1,H1,I1,w1⟩
 refine wpAny_passesOwn hp (thn (hc pins s1 σ1 H1 _ I1 (turn n σ1 H1 w1)) λb s2 ⟨H2,I2,q2⟩=>?_)
 cases b with
 | true=>
   obtain ⟨N,hN,q2⟩:=q2
   rw [if_pos rfl]
   refine wpAny_passesOwn hp (thn (hb pins s2 σ1 H2 _ I2 q2) λf s3 q3=>?_)
   cases f with
   | next=>
     obtain ⟨σ3,H3,I3,n3⟩:=q3
     obtain ⟨m',hm,w3⟩:=hN σ3 H3 n3
     exact ⟨m',hm,σ3,H3,I3,w3⟩
   | cont=>
     obtain ⟨σ3,H3,I3,n3⟩:=q3
     obtain ⟨m',hm,w3⟩:=hN σ3 H3 n3
     exact ⟨m',hm,σ3,H3,I3,w3⟩
   | brk=>exact q3
   | ret v=>exact q3
 | false=>
   rw [if_neg wbs]
   exact wpAny_execs_nil ⟨σ1,H2,I2,q2⟩
end
structure It where
 go:Nat->Hp->Prop
 yld:Nat->Hp->V->Hp->Prop
 stop:Nat->Hp->Prop
noncomputable def qkv (X:Cx) (pins:List (Addr×Obj)) (H:Hp) (b:Addr):Prop:=
 H b=none/\b≠X.env.locals/\b∉X.fs/\(b∈X.ex\/X.s₀.heap.objs.size<=b)/\(∀ x c,X.env.cells.lookup x=some c->c≠b)/\∀ p∈X.pn++pins,p.1≠b
theorem Inv.fpOk {X:Cx} {pins:List (Addr×Obj)} {σ:St} {H H':Hp} {s:Shared} {b:Addr} (I:Inv X pins σ H s) (hb:s.heap.objs.size<=b) (hn:H' b=none):qkv X pins H' b:=by
 refine ⟨hn,Nat.ne_of_gt (wa8 I.lt hb),I.nofs hb,.inr (wa3 I.sz hb),λx c e z=>?_,λp hp z=>?_⟩
 ·obtain ⟨v,q⟩:=I.cell x c e
  exact absurd (wa8 q.lt (by rw [z];exact hb)) (wbc _)
 ·exact absurd (wa8 (Heap.lt_size (I.pin p hp).1) (by rw [z];exact hb)) (wbc _)
structure Turn (P:Program) (w:World) (K:PySem.W.Frag) (tg:Expr) (J:It) (fp:List Addr) (it:Addr) (tn:Nat->Heap->Prop):Prop where
 mem:it∈fp
 obj:∀ i h,tn i h->∀ b∈fp,∃ o,h.get? b=some o/\∀ v,o.data≠.cell v
 keep:∀ i h h',tn i h->(∀ b∈fp,∀ o,h.get? b=some o->h'.get? b=some o)->tn i h'
 item:∀ (X:Cx),X.prog=P->X.w=w->X.K=K->X.calm=true->∀ (i:Nat) (pins:List (Addr×Obj)) (s:Shared) (σ:St) (H:Hp) (E:Value->Shared->Prop),Inv X pins σ H s->(∀ b∈fp,qkv X pins H b)->tn i s.heap->J.go i H->
  wpAny (model P w) X.A (pyNext (.ref it)) (λr s1=>∃ u,r=some u/\
   wpAny (model P w) X.A (letOwnedTupleGo tg (.ref it) u) (λ_ s2=>∃ x H',Inv X pins σ H' s2/\RelV x u/\J.yld i H x H'/\tn (i+1) s2.heap/\∀ b∈fp,H' b=none) E s1) E s
 done:∀ (X:Cx),X.prog=P->X.w=w->X.K=K->X.calm=true->∀ (i:Nat) (pins:List (Addr×Obj)) (s:Shared) (σ:St) (H:Hp) (E:Value->Shared->Prop),Inv X pins σ H s->(∀ b∈fp,qkv X pins H b)->tn i s.heap->J.stop i H->
  wpAny (model P w) X.A (pyNext (.ref it)) (λr s1=>r=none/\Inv X pins σ H s1) E s
 self:∀ (A:Around) (i:Nat) (s:Shared) (Q:Value->Shared->Prop) (E:Value->Shared->Prop),tn i s.heap->Q (.ref it) s->wpAny (model P w) A (pyIter (.ref it)) Q E s
noncomputable abbrev TI:=St->Hp->(It->Hp->Prop)->Prop
noncomputable def PIE (X:Cx) (pins:List (Addr×Obj)) (σ:St) (tg:Expr) (R:It->Hp->Prop) (itv:Value) (s2:Shared):Prop:=
 ∃ (it:Addr) (fp:List Addr) (tn:Nat->Heap->Prop) (J:It) (H':Hp),itv=.ref it/\Inv X pins σ H' s2/\Turn X.prog X.w X.K tg J fp it tn/\tn 0 s2.heap/\(∀ b∈fp,qkv X pins H' b)/\R J H'
noncomputable def PI (X:Cx) (tg iter:Expr) (wi:TI):Prop:=
 ∀ (pins:List (Addr×Obj)) (s:Shared) (σ:St) (H:Hp) (R:It->Hp->Prop),Inv X pins σ H s->wi σ H R->
   wpAny (model X.prog X.w) X.A (eval iter X.env) (λv s1=>wpAny (model X.prog X.w) X.A (pyIter v) (PIE X pins σ tg R) X.xe s1) X.xe s
theorem qmU {M:Model} {A:Around} {E:Value->Shared->Prop} {s:Shared} {tg:Expr} {it:Addr} {u:Value} {o:Obj} {n:String} {vs:Array Value} {Q:Unit->Shared->Prop} (ho:s.heap.get? it=some o) (hc:o.cls=.type n) (hd:o.data=.fields vs)
  (hn:["enumerate", "zip", "dict_itemiterator", "dict_reverseitemiterator", "odict_iterator", "itertools.zip_longest", "itertools.pairwise"].contains n=false) (hQ:Q () s):wpAny M A (letOwnedTupleGo tg (.ref it) u) Q E s:=by
 unfold letOwnedTupleGo
 cases tg <;> first
  | exact wpAny_pure hQ
  | (cases u <;> first
    | exact wpAny_pure hQ
    | (refine wpAny_bind (wpAny_load ho ?_)
       rw [hc,hd]
       show wpAny M A (if (["enumerate", "zip", "dict_itemiterator", "dict_reverseitemiterator", "odict_iterator", "itertools.zip_longest", "itertools.pairwise"].contains n && vs[0]? == some (rawInt _))=true then _ else _) Q E s
       rw [if_neg (by intro h;rw [hn,Bool.false_and] at h;cases h)]
       exact wpAny_pure hQ))
noncomputable def Itl (K:PySem.W.Frag) (a:Addr):It:=
 ⟨λi H=>∃ xs x,SqL K H a xs/\xs[i]?=some x,λi H x H'=>H'=H/\∀ xs,SqL K H a xs->xs[i]?=some x,λi H=>∃ xs,SqL K H a xs/\xs.length<=i⟩
noncomputable def Itt (K:PySem.W.Frag) (a:Addr):It:=
 ⟨λi H=>∃ xs x,SqT K H a xs/\xs[i]?=some x,λi H x H'=>H'=H/\∀ xs,SqT K H a xs->xs[i]?=some x,λi H=>∃ xs,SqT K H a xs/\xs.length<=i⟩
noncomputable def Itr (lo:Int) (n:Nat):It:=⟨λi _=>i<n,λi H x H'=>H'=H/\x=.int (lo+i),λi _=>n<=i⟩
theorem qmV {P:Program} {w:World} {K:PySem.W.Frag} {tg:Expr} (a it:Addr):Turn P w K tg (Itl K a) [it] it (λi h=>h.IsListIter it a i) where
 mem:=by simp
 obj:=λi h st b hb=>by
  have e:b=it:=by simpa using hb
  subst e
  obtain ⟨o,e,c,d⟩:=st
  exact ⟨o,e,λv z=>by rw [d] at z;cases z⟩
 keep:=λi h h' st k=>st.at λo e=>k it (by simp) o e
 item:=by
  intro X hP hw hK hc i pins s σ H E I hf st hg
  subst hP hw hK
  obtain ⟨xs,x,hq,hx⟩:=hg
  obtain ⟨its,rv,p,hz⟩:=I.list hq
  obtain ⟨u,hu,ru⟩:=rv.get hx
  obtain ⟨f0,f1,f2,f3,f4,f5⟩:=hf it (by simp)
  refine wpAny_pyNext_list_item st p.isList (x:=u) (by simpa using hu) λh' st' sb=>?_
  have I1:Inv X pins σ H { s with heap:=h' }:=I.turned (t':=s.toks) (λb o hb e=>(sb.2 b hb).trans e) f0 f1 f3 f4 f5
  obtain ⟨o,e,c,d⟩:=id st'
  exact ⟨u,rfl,qmU (s:={ s with heap:=h' }) e c d ∅ ⟨x,H,I1,ru,⟨rfl,λys hy=>by rw [I.list_inj hy hq];exact hx⟩,st',λb hb=>(hf b hb).1⟩⟩
 done:=by
  intro X hP hw hK hc i pins s σ H E I hf st hg
  subst hP hw hK
  obtain ⟨xs,hq,hx⟩:=hg
  obtain ⟨its,rv,p,hz⟩:=I.list hq
  obtain ⟨f0,f1,f2,f3,f4,f5⟩:=hf it (by simp)
  have hl:=rv.length
  exact wpAny_pyNext_list_end (I.ok.hd hc) st p.isList (by simp;omega) λh' eb=>⟨rfl,I.turned (t':=s.toks) (λb o hb e=>eb b o hb e) f0 f1 f3 f4 f5⟩
 self:=λ_ _ _ _ _ st h=>wpAny_pyIter_listiter st h
theorem qmd {P:Program} {w:World} {K:PySem.W.Frag} {tg:Expr} (a it:Addr):Turn P w K tg (Itt K a) [it] it (λi h=>h.IsTupleIter it a i) where
 mem:=by simp
 obj:=λi h st b hb=>by
  have e:b=it:=by simpa using hb
  subst e
  obtain ⟨o,e,c,d⟩:=st
  exact ⟨o,e,λv z=>by rw [d] at z;cases z⟩
 keep:=λi h h' st k=>st.at λo e=>k it (by simp) o e
 item:=by
  intro X hP hw hK hc i pins s σ H E I hf st hg
  subst hP hw hK
  obtain ⟨xs,x,hq,hx⟩:=hg
  obtain ⟨its,rv,p,hz⟩:=I.tuple hq
  obtain ⟨u,hu,ru⟩:=rv.get hx
  obtain ⟨f0,f1,f2,f3,f4,f5⟩:=hf it (by simp)
  refine wpAny_pyNext_tuple_item st (show s.heap.IsTuple a its.toArray from p) (x:=u) (by simpa using hu) λh' st' sb=>?_
  have I1:Inv X pins σ H { s with heap:=h' }:=I.turned (t':=s.toks) (λb o hb e=>(sb.2 b hb).trans e) f0 f1 f3 f4 f5
  obtain ⟨o,e,c,d⟩:=id st'
  exact ⟨u,rfl,qmU (s:={ s with heap:=h' }) e c d ∅ ⟨x,H,I1,ru,⟨rfl,λys hy=>by rw [I.tuple_inj hy hq];exact hx⟩,st',λb hb=>(hf b hb).1⟩⟩
 done:=by
  intro X hP hw hK hc i pins s σ H E I hf st hg
  subst hP hw hK
  obtain ⟨xs,hq,hx⟩:=hg
  obtain ⟨its,rv,p,hz⟩:=I.tuple hq
  obtain ⟨f0,f1,f2,f3,f4,f5⟩:=hf it (by simp)
  have hl:=rv.length
  exact wpAny_pyNext_tuple_end (I.ok.hd hc) st (show s.heap.IsTuple a its.toArray from p) (by simp;omega) λh' eb=>⟨rfl,I.turned (t':=s.toks) (λb o hb e=>eb b o hb e) f0 f1 f3 f4 f5⟩
 self:=λ_ _ _ _ _ st h=>wpAny_pyIter_tupleiter st h
theorem qme {P:Program} {w:World} {K:PySem.W.Frag} {tg:Expr} (it:Addr) (lo:Int) (n:Nat):Turn P w K tg (Itr lo n) [it] it (λi h=>IsRangeIter h it (lo+(i:Nat)*1) ((n:Int) - (i:Nat)) 1) where
 mem:=by simp
 obj:=λi h st b hb=>by
  have e:b=it:=by simpa using hb
  subst e
  exact ⟨_,st,λv z=>by
   have z':Data.fields _=Data.cell v:=z
   cases z'⟩
 keep:=λi h h' st k=>k it (by simp) _ st
 item:=by
  intro X hP hw hK hc i pins s σ H E I hf st hg
  subst hP hw hK
  obtain ⟨f0,f1,f2,f3,f4,f5⟩:=hf it (by simp)
  have W:=Walks.range (prog:=X.prog) (w:=X.w) (I.ok.hd hc) it lo 1 n
  refine W.item i s _ _ hg st λv h' tk hv st' kk=>?_
  obtain ⟨t,rfl⟩:=hv
  have I1:Inv X pins σ H { s with heap:=h',toks:=tk }:=I.turned (λb o hb e=>kk b o (by simpa using hb) e) f0 f1 f3 f4 f5
  refine ⟨_,rfl,qmU (s:={ s with heap:=h',toks:=tk }) (n := "range_iterator") st' rfl rfl ∅ ⟨.int (lo+i),H,I1,⟨t,?_⟩,⟨rfl,rfl⟩,st',λb hb=>(hf b hb).1⟩⟩
  rw [Int.mul_one]
 done:=by
  intro X hP hw hK hc i pins s σ H E I hf st hg
  subst hP hw hK
  obtain ⟨f0,f1,f2,f3,f4,f5⟩:=hf it (by simp)
  exact wpAny_pyNext_range_end (I.ok.hd hc) st (by have:n<=i:=hg;omega) λh' eb=>⟨rfl,I.turned (t':=s.toks) (λb o hb e=>eb b o hb e) f0 f1 f3 f4 f5⟩
 self:=λ_ _ _ _ _ st h=>wpAny_pyIter_rangeiter st h
end L2
namespace L2
open PySem PySem.Spec PyProof.Rows
section
variable {X:Cx} {tg:Expr}
noncomputable def qc4 (K:PySem.W.Frag) (tl:TE):TI:=λσ H R=>tl σ H λx H1=>∃ a,x=.ref a/\(∃ xs,SqL K H1 a xs)/\R (Itl K a) H1
noncomputable def qsh (K:PySem.W.Frag) (tl:TE):TI:=λσ H R=>tl σ H λx H1=>∃ a,x=.ref a/\(∃ xs,SqT K H1 a xs)/\R (Itt K a) H1
theorem qbN {l:Expr} {tl:TE} (hl:PE X l tl):PI X tg l (qc4 X.K tl):=by
 intro pins s σ H R I h
 refine thn (hl pins s σ H _ I h) λv s1 ⟨x,H1,I1,r1,q1⟩=>?_
 obtain ⟨a,e,⟨xs,hq⟩,q⟩:=q1
 subst e
 cases r1
 obtain ⟨its,rv,p,hz⟩:=I1.list hq
 refine wpAny_pyIter_list p.isList ?_
 refine ⟨s1.heap.objs.size,[s1.heap.objs.size],_,_,H1,rfl,I1.kept (t':=s1.toks) λb o e=>Heap.get?_push_of_some _ e,qmV a _,⟨_,Heap.get?_push_size _ rfl,rfl,rfl⟩,λb hb=>?_,q⟩
 have e:b=s1.heap.objs.size:=by simpa using hb
 subst e
 exact I1.fpOk (wad _) (I1.hok.fresh (wad _))
theorem qmW {l:Expr} {tl:TE} (hl:PE X l tl):PI X tg l (qsh X.K tl):=by
 intro pins s σ H R I h
 refine thn (hl pins s σ H _ I h) λv s1 ⟨x,H1,I1,r1,q1⟩=>?_
 obtain ⟨a,e,⟨xs,hq⟩,q⟩:=q1
 subst e
 cases r1
 obtain ⟨its,rv,p,hz⟩:=I1.tuple hq
 refine wpAny_pyIter_tuple (show s1.heap.IsTuple a its.toArray from p) ?_
 refine ⟨s1.heap.objs.size,[s1.heap.objs.size],_,_,H1,rfl,I1.kept (t':=s1.toks) λb o e=>Heap.get?_push_of_some _ e,qmd a _,⟨_,Heap.get?_push_size _ rfl,rfl,rfl⟩,λb hb=>?_,q⟩
 have e:b=s1.heap.objs.size:=by simpa using hb
 subst e
 exact I1.fpOk (wad _) (I1.hok.fresh (wad _))
theorem qlm {pins:List (Addr×Obj)} {σ:St} {H:Hp} {s:Shared} {R:It->Hp->Prop} {E:Value->Shared->Prop} {lo hi:Int} {t u v:Tok} {tk:Nat} (I:Inv X pins σ H s) (h1:-(2 ^ 62)<=lo) (h2:lo<2 ^ 62) (h3:-(2 ^ 62)<=hi) (h4:hi<2 ^ 62)
  (q:R (Itr lo (hi - lo).toNat) H):wpAny (model X.prog X.w) X.A (pyIter (.ref s.heap.objs.size)) (PIE X pins σ tg R) E { s with heap:=s.heap.push { cls:=.type "range", data:=.fields #[.int lo t,.int hi u,.int 1 v] },toks:=tk }:=by
 refine wpAny_pyIter_range (IsRange.new ..) (small_one h1 h2 h3 h4) ?_
 have I1:Inv X pins σ H { s with heap:=s.heap.push { cls:=.type "range", data:=.fields #[.int lo t,.int hi u,.int 1 v] },toks:=tk }:=I.kept λb o e=>Heap.get?_push_of_some _ e
 refine ⟨(s.heap.push { cls:=.type "range", data:=.fields #[.int lo t,.int hi u,.int 1 v] }).objs.size,[(s.heap.push { cls:=.type "range", data:=.fields #[.int lo t,.int hi u,.int 1 v] }).objs.size],_,_,H,rfl,
  I1.kept (t':=tk) λb o e=>Heap.get?_push_of_some _ e,qme _ lo (hi - lo).toNat,?_,λb hb=>?_,q⟩
 ·have e1:lo+((0:Nat):Int)*1=lo:=by simp
  have e2:(((hi - lo).toNat:Nat):Int) - ((0:Nat):Int)=Builtin.Range.rangeSize lo hi 1:=by rw [rangeSize_one];split <;> omega
  show IsRangeIter _ _ (lo+((0:Nat):Int)*1) ((((hi - lo).toNat:Nat):Int) - ((0:Nat):Int)) 1
  rw [e1,e2]
  exact Heap.get?_push_size _ rfl
 ·have e:b=(s.heap.push { cls:=.type "range", data:=.fields #[.int lo t,.int hi u,.int 1 v] }).objs.size:=by simpa using hb
  subst e
  exact I1.fpOk (wad _) (I1.hok.fresh (wad _))
noncomputable def qgK (ta:TA):TI:=λσ H R=>ta σ H λvs H1=>∃ j:Int,vs=[.int j]/\-(2 ^ 62)<=j/\j<2 ^ 62/\R (Itr 0 j.toNat) H1
noncomputable def qmX (ta:TA):TI:=λσ H R=>ta σ H λvs H1=>∃ i j:Int,vs=[.int i,.int j]/\(-(2 ^ 62)<=i/\i<2 ^ 62/\-(2 ^ 62)<=j/\j<2 ^ 62)/\R (Itr i (j - i).toNat) H1
theorem qct {a:Expr} {ta:TA} {p pos:Pos} (hg:Gl X "range") (hm:X.mg "range" = none) (ha:PA X [a] ta) (hs:starEach [a] X.env=[(false,eval a X.env)]:=by rfl):PI X tg (.Call (.Name "range" p) [a] [] pos) (qgK ta):=by
 intro pins s σ H R I h
 refine Call_ (qen I hg hm boot_range (PyProof.Rows.callWith_type1 (thn (ha pos pins s σ H _ I h) λus s1 ⟨vs,H1,I1,r1,q1⟩=>?_) hs rfl))
 obtain ⟨j,e,q1,q2,q⟩:=q1
 subst e
 cases r1 with
 | cons r rr=>
   cases rr
   obtain ⟨t,rfl⟩:=r
   exact call_range_1 (qlm I1 ⋯ ⋯ q1 q2 (by simpa using q))
theorem qjp {a b:Expr} {ta:TA} {p pos:Pos} (hg:Gl X "range") (hm:X.mg "range" = none) (ha:PA X [a,b] ta) (hs:starEach [a,b] X.env=[(false,eval a X.env),(false,eval b X.env)]:=by rfl) (hs2:starEach [b] X.env=[(false,eval b X.env)]:=by rfl) :
  PI X tg (.Call (.Name "range" p) [a,b] [] pos) (qmX ta):=by
 intro pins s σ H R I h
 refine Call_ (qen I hg hm boot_range (PyProof.Rows.callWith_type1 (thn (ha pos pins s σ H _ I h) λus s1 ⟨vs,H1,I1,r1,q1⟩=>?_) (by rw [hs,hs2]) (by rw [hs2];rfl)))
 obtain ⟨i,j,e,⟨q1,q2,q3,q4⟩,q⟩:=q1
 subst e
 cases r1 with
 | cons r rr=>
   cases rr with
   | cons r' rr=>
     cases rr
     obtain ⟨t,rfl⟩:=r
     obtain ⟨t',rfl⟩:=r'
     exact call_range_2 (qlm I1 q1 q2 q3 q4 q)
noncomputable def qep (wi:TI) (g:TG) (tb:TS):TS:=λD σ H=>wi σ H λJ H1=>∃ W:Nat->Nat->St->Hp->Prop,(∃ m,W 0 m σ H1)/\∀ i m σ H,W i m σ H->
 (J.stop i H/\D.nx σ H)\/(J.go i H/\∃ N:St->Hp->Prop,(∀ σ' H',N σ' H'->∃ m',m'<m/\W (i+1) m' σ' H')/\∀ x H',J.yld i H x H'->g x σ H' λσ2 H2=>tb { D with nx:=N,ct:=N,bk:=D.nx } σ2 H2)
noncomputable def qln (fp:List Addr) (h:Heap):List (Addr×Obj):=fp.filterMap λb=>(h.get? b).map λo=>(b,o)
theorem qc5 {fp:List Addr} {h:Heap} {b:Addr} {o:Obj} (hb:b∈fp) (e:h.get? b=some o):(b,o)∈qln fp h:=List.mem_filterMap.mpr ⟨b,hb,by rw [e];rfl⟩
theorem qmY {fp:List Addr} {h:Heap} {p:Addr×Obj} (hp:p∈qln fp h):p.1∈fp/\h.get? p.1=some p.2:=by
 obtain ⟨b,hb,e⟩:=List.mem_filterMap.mp hp
 cases q:h.get? b with
 | none=>rw [q] at e;cases e
 | some o=>
   rw [q] at e
   have e':(b,o)=p:=Option.some.inj e
   subst e'
   exact ⟨hb,q⟩
theorem Inv.pinned {pins:List (Addr×Obj)} {σ:St} {H:Hp} {s:Shared} {fp:List Addr} (I:Inv X pins σ H s) (hf:∀ b∈fp,qkv X pins H b) (ho:∀ b∈fp,∃ o,s.heap.get? b=some o/\∀ v,o.data≠.cell v):Inv X (pins++qln fp s.heap) σ H s:=
 I.pins_of λp hp=>(wbk.mp hp).elim (λz=>I.pin p (wbf _ z)) λz=>by
  obtain ⟨hb,e⟩:=qmY z
  obtain ⟨f0,f1,f2,_⟩:=hf p.1 hb
  obtain ⟨o,e',d⟩:=ho p.1 hb
  rw [e] at e';cases e'
  exact ⟨e,f0,f1,f2,d⟩
theorem Inv.unpinned {pins pl:List (Addr×Obj)} {σ:St} {H:Hp} {s:Shared} (I:Inv X (pins++pl) σ H s):Inv X pins σ H s:=I.pins_of λp hp=>I.pin p (wbf _ (wcq _ hp))
theorem qbq {iter:Expr} {body:List Stmt} {wi:TI} {g:TG} {tb:TS} {pos:Pos} (hp:PassesOwn (model X.prog X.w) X.A X.env X.xe) (hc:X.calm=true) (hi:PI X tg iter wi) (hg:PG X tg g) (hb:PSs X body tb)
  (hs:∀ x,foldedSetIterable iter X.env x=pure x:=by intro _;rfl):PS X (.For tg iter body [] pos) (qep wi g tb):=by
 intro pins s σ H D I h
 refine wpAny_For (thn (hi pins s σ H _ I h) λv s1 h1=>thn h1 λitv s2 h2=>?_) hs
 obtain ⟨it,fp,tn,J,H2,e,I2,T,st2,f2,W,⟨m0,w0⟩,turn⟩:=h2
 subst e
 have stat:∀ {H':Hp},(∀ b∈fp,H' b=none)->∀ b∈fp,qkv X pins H' b:=λhn b hb=>⟨hn b hb,(f2 b hb).2⟩
 refine codeAny_forLoop_any (λn s'=>∃ i σ' H',Inv X pins σ' H' s'/\tn i s'.heap/\(∀ b∈fp,H' b=none)/\W i n σ' H') ?_ m0 ⟨0,σ,H2,I2,st2,λb hb=>(f2 b hb).1,w0⟩
 rintro n s3 ⟨i,σ3,H3,I3,st3,fr3,w3⟩
 rcases turn i n σ3 H3 w3 with ⟨stop,qn⟩ | ⟨go,N,hN,step⟩
 ·refine wpAny_passesOwn hp (thn (T.done X rfl rfl rfl hc i pins s3 σ3 H3 X.xe I3 (stat fr3) st3 stop) λr s4 ⟨hr,I4⟩=>?_)
  subst hr
  exact wpAny_execs_nil ⟨σ3,H3,I4,qn⟩
 ·refine wpAny_passesOwn hp (thn (T.item X rfl rfl rfl hc i pins s3 σ3 H3 X.xe I3 (stat fr3) st3 go) λr s4 ⟨u,hr,h4⟩=>?_)
  subst hr
  refine wpAny_passesOwn hp (thn h4 λ_ s5 ⟨x,H5,I5,r5,y5,st5,fr5⟩=>?_)
  have I5':=I5.pinned (stat fr5) (T.obj _ _ st5)
  refine wpAny_passesOwn hp (thn (hg _ s5 σ3 H5 x u _ I5' r5 (step x H5 y5)) λ_ s6 ⟨σ6,H6,I6,q6⟩=>?_)
  refine wpAny_passesOwn hp (thn (hb _ s6 σ6 H6 _ I6 q6) λf s7 q7=>?_)
  have again:∀ {σ7:St} {H7:Hp},Inv X (pins++qln fp s5.heap) σ7 H7 s7->N σ7 H7->∃ m,m<n/\∃ i σ' H',Inv X pins σ' H' s7/\tn i s7.heap/\(∀ b∈fp,H' b=none)/\W i m σ' H':=λ{σ7 H7} I7 n7=>by
   obtain ⟨m',hm,w7⟩:=hN σ7 H7 n7
   refine ⟨m',hm,i+1,σ7,H7,I7.unpinned,T.keep _ _ _ st5 λb hb o e=>(I7.pin (b,o) (wbf _ (wbf _ (qc5 hb e)))).1,λb hb=>?_,w7⟩
   obtain ⟨o,e,d⟩:=T.obj _ _ st5 b hb
   exact (I7.pin (b,o) (wbf _ (wbf _ (qc5 hb e)))).2.1
  cases f with
  | next=>obtain ⟨σ7,H7,I7,n7⟩:=q7;exact again I7 n7
  | cont=>obtain ⟨σ7,H7,I7,n7⟩:=q7;exact again I7 n7
  | brk=>obtain ⟨σ7,H7,I7,q7⟩:=q7;exact ⟨σ7,H7,I7.unpinned,q7⟩
  | ret v=>obtain ⟨x7,σ7,H7,I7,r7,q7⟩:=q7;exact ⟨x7,σ7,H7,I7.unpinned,r7,q7⟩
end
theorem qpo {K:PySem.W.Frag} {a:Addr} {xs:List V} {g:TG} {tb:TS} {D:Ends} {σ:St} {H:Hp} (Pv:Nat->St->Hp->Prop) (h0:Pv 0 σ H) (hl:∀ i σ H,i<=xs.length->Pv i σ H->SqL K H a xs)
  (hs:∀ i x σ H,xs[i]?=some x->Pv i σ H->g x σ H λσ2 H2=>tb { D with nx:=Pv (i+1),ct:=Pv (i+1),bk:=D.nx } σ2 H2) (hd:∀ σ H,Pv xs.length σ H->D.nx σ H) :
  ∃ W:Nat->Nat->St->Hp->Prop,(∃ m,W 0 m σ H)/\∀ i m σ H,W i m σ H->
    ((Itl K a).stop i H/\D.nx σ H)\/((Itl K a).go i H/\∃ N:St->Hp->Prop,(∀ σ' H',N σ' H'->∃ m',m'<m/\W (i+1) m' σ' H')/\∀ x H',(Itl K a).yld i H x H'->g x σ H' λσ2 H2=>tb { D with nx:=N,ct:=N,bk:=D.nx } σ2 H2):=by
 refine ⟨λi m σ H=>m=xs.length - i/\i<=xs.length/\Pv i σ H,⟨xs.length,by simp,wae _,h0⟩,?_⟩
 rintro i m σ H ⟨rfl,hi,p⟩
 have q:=hl i σ H hi p
 by_cases hlt:i<xs.length
 ·refine .inr ⟨⟨xs,xs[i],q,by simp [hlt]⟩,Pv (i+1),λσ' H' p'=>⟨xs.length - (i+1),⋯,rfl,hlt,p'⟩,λx H' y=>?_⟩
  obtain ⟨e,y⟩:=y
  subst e
  exact hs i x σ _ (y xs q) p
 ·have e:i=xs.length:=by omega
  subst e
  exact .inl ⟨⟨xs,q,wad _⟩,hd σ H p⟩
theorem qmZ {K:PySem.W.Frag} {a:Addr} {xs:List V} {g:TG} {tb:TS} {D:Ends} {σ:St} {H:Hp} (Pv:Nat->St->Hp->Prop) (h0:Pv 0 σ H) (hl:∀ i σ H,i<=xs.length->Pv i σ H->SqT K H a xs)
  (hs:∀ i x σ H,xs[i]?=some x->Pv i σ H->g x σ H λσ2 H2=>tb { D with nx:=Pv (i+1),ct:=Pv (i+1),bk:=D.nx } σ2 H2) (hd:∀ σ H,Pv xs.length σ H->D.nx σ H) :
  ∃ W:Nat->Nat->St->Hp->Prop,(∃ m,W 0 m σ H)/\∀ i m σ H,W i m σ H->
    ((Itt K a).stop i H/\D.nx σ H)\/((Itt K a).go i H/\∃ N:St->Hp->Prop,(∀ σ' H',N σ' H'->∃ m',m'<m/\W (i+1) m' σ' H')/\∀ x H',(Itt K a).yld i H x H'->g x σ H' λσ2 H2=>tb { D with nx:=N,ct:=N,bk:=D.nx } σ2 H2):=by
 refine ⟨λi m σ H=>m=xs.length - i/\i<=xs.length/\Pv i σ H,⟨xs.length,by simp,wae _,h0⟩,?_⟩
 rintro i m σ H ⟨rfl,hi,p⟩
 have q:=hl i σ H hi p
 by_cases hlt:i<xs.length
 ·refine .inr ⟨⟨xs,xs[i],q,by simp [hlt]⟩,Pv (i+1),λσ' H' p'=>⟨xs.length - (i+1),⋯,rfl,hlt,p'⟩,λx H' y=>?_⟩
  obtain ⟨e,y⟩:=y
  subst e
  exact hs i x σ _ (y xs q) p
 ·have e:i=xs.length:=by omega
  subst e
  exact .inl ⟨⟨xs,q,wad _⟩,hd σ H p⟩
theorem qm0 {lo:Int} {n:Nat} {g:TG} {tb:TS} {D:Ends} {σ:St} {H:Hp} (Pv:Nat->St->Hp->Prop) (h0:Pv 0 σ H)
  (hs:∀ i σ H,i<n->Pv i σ H->g (.int (lo+i)) σ H λσ2 H2=>tb { D with nx:=Pv (i+1),ct:=Pv (i+1),bk:=D.nx } σ2 H2) (hd:∀ σ H,Pv n σ H->D.nx σ H) :
  ∃ W:Nat->Nat->St->Hp->Prop,(∃ m,W 0 m σ H)/\∀ i m σ H,W i m σ H->
    ((Itr lo n).stop i H/\D.nx σ H)\/((Itr lo n).go i H/\∃ N:St->Hp->Prop,(∀ σ' H',N σ' H'->∃ m',m'<m/\W (i+1) m' σ' H')/\∀ x H',(Itr lo n).yld i H x H'->g x σ H' λσ2 H2=>tb { D with nx:=N,ct:=N,bk:=D.nx } σ2 H2):=by
 refine ⟨λi m σ H=>m=n - i/\i<=n/\Pv i σ H,⟨n,by simp,wae _,h0⟩,?_⟩
 rintro i m σ H ⟨rfl,hi,p⟩
 by_cases hlt:i<n
 ·refine .inr ⟨hlt,Pv (i+1),λσ' H' p'=>⟨n - (i+1),⋯,rfl,hlt,p'⟩,λx H' y=>?_⟩
  obtain ⟨e,y⟩:=y
  subst e y
  exact hs i σ _ hlt p
 ·have e:i=n:=by omega
  subst e
  exact .inl ⟨wad _,hd σ H p⟩
end L2
namespace L2
open PySem PySem.Spec PyProof.Rows
noncomputable abbrev R2:=V->V->Hp->VK->Prop
noncomputable def OpR (X:Cx) (f:Value->Value->Sem Value) (r:R2):Prop:=
 ∀ (pins:List (Addr×Obj)) (s:Shared) (σ:St) (H:Hp) (x y:V) (v u:Value) (Q:VK),Inv X pins σ H s->RelV x v->RelV y u->r x y H Q->
   wpAny (model X.prog X.w) X.A (f v u) (EP X pins σ Q) X.xe s
noncomputable def UnR (X:Cx) (f:Value->Sem Value) (r:V->Hp->VK->Prop):Prop:=
 ∀ (pins:List (Addr×Obj)) (s:Shared) (σ:St) (H:Hp) (x:V) (v:Value) (Q:VK),Inv X pins σ H s->RelV x v->r x H Q->
   wpAny (model X.prog X.w) X.A (f v) (EP X pins σ Q) X.xe s
noncomputable def qdN (X:Cx) (f:Value) (r:List V->Hp->VK->Prop):Prop:=
 ∀ (pins:List (Addr×Obj)) (s:Shared) (σ:St) (H:Hp) (xs:List V) (us:List Value) (Q:VK),Inv X pins σ H s->Vals xs us->r xs H Q->
   wpAny (model X.prog X.w) X.A (call f us) (EP X pins σ Q) X.xe s
noncomputable def quI (X:Cx) (r:V->Hp->(Bool->Hp->Prop)->Prop):Prop:=
 ∀ (pins:List (Addr×Obj)) (s:Shared) (σ:St) (H:Hp) (x:V) (v:Value) (Q:Bool->Hp->Prop),Inv X pins σ H s->RelV x v->r x H Q->
   wpAny (model X.prog X.w) X.A (truthy v) (TP X pins σ Q) X.xe s
noncomputable def tOp (r:R2) (ta tb:TE):TE:=λσ H Q=>ta σ H λx H1=>tb σ H1 λy H2=>r x y H2 Q
noncomputable def tUn (r:V->Hp->VK->Prop) (ta:TE):TE:=λσ H Q=>ta σ H λx H1=>r x H1 Q
noncomputable def rI (C:Int->Int->Prop) (g:Int->Int->V):R2:=λx y H Q=>∃ i j,x=.int i/\y=.int j/\C i j/\Q (g i j) H
noncomputable def rI0 (g:Int->Int->V):R2:=λx y H Q=>∃ i j,x=.int i/\y=.int j/\Q (g i j) H
noncomputable def rU (g:Int->V):V->Hp->VK->Prop:=λx H Q=>∃ i,x=.int i/\Q (g i) H
section
variable {X:Cx} {a b c:Expr} {ta tb tc:TE} {pos:Pos}
theorem qtM (ha:PE X a ta) (hb:PE X b tb) {pins:List (Addr×Obj)} {s:Shared} {σ:St} {H:Hp} {R:V->V->Hp->Prop} (I:Inv X pins σ H s)
  (h:ta σ H λx H1=>tb σ H1 λy H2=>R x y H2) {Q:Value->Shared->Prop} {f:Value->Value->Sem Value}
  (hf:∀ v u s2 x y H2,Inv X pins σ H2 s2->RelV x v->RelV y u->R x y H2->wpAny (model X.prog X.w) X.A (f v u) Q X.xe s2) :
  wpAny (model X.prog X.w) X.A (eval a X.env) (λv s₁=>wpAny (model X.prog X.w) X.A (eval b X.env) (λu s₂=>wpAny (model X.prog X.w) X.A (f v u) Q X.xe s₂) X.xe s₁) X.xe s:=by
 refine thn (ha pins s σ H _ I h) λv s1 ⟨x,H1,I1,r1,q1⟩=>?_
 refine thn (hb pins s1 σ H1 _ I1 q1) λu s2 ⟨y,H2,I2,r2,q2⟩=>?_
 exact hf v u s2 x y H2 I2 r1 r2 q2
theorem qal {op:Operator} {r:R2} (ho:OpR X (binaryOp op) r) (ha:PE X a ta) (hb:PE X b tb):PE X (.BinOp a op b pos) (tOp r ta tb):=by
 intro pins s σ H Q I h
 exact wpAny_BinOp (qtM ha hb I h λv u s2 x y H2 I2 rx ry q=>ho pins s2 σ H2 x y v u Q I2 rx ry q)
theorem qbT {op:UnaryOp} {r:V->Hp->VK->Prop} (ho:UnR X (unaryOp op) r) (ha:PE X a ta):PE X (.UnaryOp op a pos) (tUn r ta):=by
 intro pins s σ H Q I h
 exact UnaryOp_ (thn (ha pins s σ H _ I h) λv s1 ⟨x,H1,I1,r1,q1⟩=>ho pins s1 σ H1 x v Q I1 r1 q1)
theorem opI {f:Value->Value->Sem Value} {C:Int->Int->Prop} {g:Int->Int->Int}
  (rule:∀ (i j:Int) (t u:Tok) (s:Shared) (Q:Value->Shared->Prop) (E:Value->Shared->Prop),C i j->Q (.int (g i j) s.toks) { s with toks:=s.toks+1 }->wpAny (model X.prog X.w) X.A (f (.int i t) (.int j u)) Q E s) :
  OpR X f (rI C λi j=>.int (g i j)):=by
 intro pins s σ H x y v u Q I rx ry h
 obtain ⟨i,j,rfl,rfl,hc,q⟩:=h
 obtain ⟨t,rfl⟩:=rx
 obtain ⟨t',rfl⟩:=ry
 exact rule i j t t' s _ _ hc ⟨.int (g i j),H,I.tok _,⟨_,rfl⟩,q⟩
theorem qtB {f:Value->Value->Sem Value} {g:Int->Int->Int}
  (rule:∀ (i j:Int) (t u:Tok) (s:Shared) (Q:Value->Shared->Prop) (E:Value->Shared->Prop),Q (.int (g i j) s.toks) { s with toks:=s.toks+1 }->wpAny (model X.prog X.w) X.A (f (.int i t) (.int j u)) Q E s) :
  OpR X f (rI0 λi j=>.int (g i j)):=by
 intro pins s σ H x y v u Q I rx ry h
 obtain ⟨i,j,rfl,rfl,q⟩:=h
 obtain ⟨t,rfl⟩:=rx
 obtain ⟨t',rfl⟩:=ry
 exact rule i j t t' s _ _ ⟨.int (g i j),H,I.tok _,⟨_,rfl⟩,q⟩
theorem qtC {f:Value->Value->Sem Value} {g:Int->Int->Bool}
  (rule:∀ (i j:Int) (t u:Tok) (s:Shared) (Q:Value->Shared->Prop) (E:Value->Shared->Prop),Q (.bool (g i j)) s->wpAny (model X.prog X.w) X.A (f (.int i t) (.int j u)) Q E s) :
  OpR X f (rI0 λi j=>.bl (g i j)):=by
 intro pins s σ H x y v u Q I rx ry h
 obtain ⟨i,j,rfl,rfl,q⟩:=h
 obtain ⟨t,rfl⟩:=rx
 obtain ⟨t',rfl⟩:=ry
 exact rule i j t t' s _ _ ⟨.bl (g i j),H,I,rfl,q⟩
theorem qaR:OpR X (binaryOp .Add) (rI0 λi j=>.int (i+j)):=qtB λ_ _ _ _ _ _ _ q=>add_int q
theorem qa2:OpR X (binaryOp .Sub) (rI0 λi j=>.int (i - j)):=qtB λ_ _ _ _ _ _ _ q=>sub_int q
theorem qb5:OpR X (binaryOp .Mod) (rI (λ_ j=>0<j) λi j=>.int (i % j)):=opI λi j _ _ _ _ _ hc q=>by
 have h1:(0:Int)<j:=hc
 exact mod_int' ⋯ (by rw [Int.fmod_eq_emod_of_nonneg i ⋯];exact q)
theorem qq8:OpR X (binaryOp .Mod) (rI (λ_ j=>j≠0) λi j=>.int (i.fmod j)):=opI λ_ _ _ _ _ _ _ hc q=>mod_int' hc q
theorem qgL:OpR X (inplaceOp .Add) (rI0 λi j=>.int (i+j)):=qtB λ_ _ _ _ _ _ _ q=>iadd_int q
theorem qit:OpR X (inplaceOp .Sub) (rI0 λi j=>.int (i - j)):=qtB λ_ _ _ _ _ _ _ q=>isub_int q
theorem unI {f:Value->Sem Value} {g:Int->Int}
  (rule:∀ (i:Int) (t:Tok) (s:Shared) (Q:Value->Shared->Prop) (E:Value->Shared->Prop),Q (.int (g i) s.toks) { s with toks:=s.toks+1 }->wpAny (model X.prog X.w) X.A (f (.int i t)) Q E s) :
  UnR X f (rU λi=>.int (g i)):=by
 intro pins s σ H x v Q I rx h
 obtain ⟨i,rfl,q⟩:=h
 obtain ⟨t,rfl⟩:=rx
 exact rule i t s _ _ ⟨.int (g i),H,I.tok _,⟨_,rfl⟩,q⟩
theorem qba:UnR X (unaryOp .USub) (rU λi=>.int (-i)):=unI λ_ _ _ _ _ q=>neg_int q
end
noncomputable def scal:V->V->Bool
 | .non,.non=>true | .non,.int _=>true | .int _,.non=>true | .non,.bl _=>true | .bl _,.non=>true | .non,.str _=>true | .str _,.non=>true
 | .int _,.int _=>true | .bl _,.bl _=>true | .str _,.str _=>true | .byt _,.byt _=>true
 | .int _,.str _=>true | .str _,.int _=>true | .bl _,.str _=>true | .str _,.bl _=>true
 | _,_=>false
noncomputable def rEq:R2:=λx y H Q=>scal x y=true/\Q (.bl (decide (x=y))) H
noncomputable def rNe:R2:=λx y H Q=>scal x y=true/\Q (.bl (!decide (x=y))) H
theorem qm1 {i j:Int}:decide (V.int i=V.int j)=(i == j):=by
 rw [Bool.eq_iff_iff]
 simp
theorem qqq {i j:Bool}:decide (V.bl i=V.bl j)=(i == j):=by
 rw [Bool.eq_iff_iff]
 simp
theorem qm2 {i j:Str}:decide (V.str i=V.str j)=(i == j):=by
 rw [Bool.eq_iff_iff]
 simp
theorem qm3 {i j:Array UInt8}:decide (V.byt i=V.byt j)=(i.toList == j.toList):=by
 rw [Bool.eq_iff_iff]
 cases i
 cases j
 simp
section
variable {X:Cx} {a b c:Expr} {ta tb tc:TE} {pos:Pos}
theorem qaX {pins:List (Addr×Obj)} {σ:St} {H:Hp} {s:Shared} {Q:VK} {k k':Bool} (I:Inv X pins σ H s) (q:Q (.bl k) H) (e:k=k'):EP X pins σ Q (.bool k') s:=by
 subst e
 exact ⟨.bl k,H,I,rfl,q⟩
theorem qgM:OpR X (compareOp .Eq) rEq:=by
 intro pins s σ H x y v u Q I rx ry h
 obtain ⟨hs,q⟩:=h
 cases x with
 | non=>
   cases rx
   cases y with
   | non=>cases ry;exact PySem.EqNone.eq_none_none (qaX I q (by simp))
   | bl j=>cases ry;exact PySem.EqNone.eq_none_bool (qaX I q (by simp))
   | int j=>obtain ⟨t',rfl⟩:=ry;exact PySem.EqNone.eq_none_int (qaX I q (by simp))
   | str j=>obtain ⟨t',rfl⟩:=ry;exact PySem.EqNone.eq_none_str (qaX I q (by simp))
   | _=>exact absurd (show false=true from hs) wbs
 | bl i=>
   cases rx
   cases y with
   | non=>cases ry;exact PySem.EqNone.eq_bool_none (qaX I q (by simp))
   | bl j=>cases ry;exact eq_bool (qaX I q qqq)
   | str j=>obtain ⟨t',rfl⟩:=ry;exact PySem.EqMixed.eq_bool_str (qaX I q (by simp))
   | _=>exact absurd (show false=true from hs) wbs
 | int i=>
   obtain ⟨t,rfl⟩:=rx
   cases y with
   | non=>cases ry;exact PySem.EqNone.eq_int_none (qaX I q (by simp))
   | int j=>obtain ⟨t',rfl⟩:=ry;exact eq_int (qaX I q qm1)
   | str j=>obtain ⟨t',rfl⟩:=ry;exact PySem.EqMixed.eq_int_str (qaX I q (by simp))
   | _=>exact absurd (show false=true from hs) wbs
 | str i=>
   obtain ⟨t,rfl⟩:=rx
   cases y with
   | non=>cases ry;exact PySem.EqNone.eq_str_none (qaX I q (by simp))
   | bl j=>cases ry;exact PySem.EqMixed.eq_str_bool (qaX I q (by simp))
   | int j=>obtain ⟨t',rfl⟩:=ry;exact PySem.EqMixed.eq_str_int (qaX I q (by simp))
   | str j=>obtain ⟨t',rfl⟩:=ry;exact eq_str (qaX I q qm2)
   | _=>exact absurd (show false=true from hs) wbs
 | byt i=>
   obtain ⟨t,rfl⟩:=rx
   cases y with
   | byt j=>obtain ⟨t',rfl⟩:=ry;exact PySem.W.eq_bytes (qaX I q qm3)
   | _=>exact absurd (show false=true from hs) wbs
 | _=>cases y <;> exact absurd (show false=true from hs) wbs
theorem qiu:OpR X (compareOp .NotEq) rNe:=by
 intro pins s σ H x y v u Q I rx ry h
 obtain ⟨hs,q⟩:=h
 cases x with
 | non=>
   cases rx
   cases y with
   | non=>cases ry;exact PySem.EqNone.ne_none_none (qaX I q (by simp))
   | bl j=>cases ry;exact PySem.EqNone.ne_none_bool (qaX I q (by simp))
   | int j=>obtain ⟨t',rfl⟩:=ry;exact PySem.EqNone.ne_none_int (qaX I q (by simp))
   | str j=>obtain ⟨t',rfl⟩:=ry;exact PySem.EqNone.ne_none_str (qaX I q (by simp))
   | _=>exact absurd (show false=true from hs) wbs
 | bl i=>
   cases rx
   cases y with
   | non=>cases ry;exact PySem.EqNone.ne_bool_none (qaX I q (by simp))
   | bl j=>cases ry;exact ne_bool (qaX I q (congrArg not qqq))
   | str j=>obtain ⟨t',rfl⟩:=ry;exact PySem.EqMixed.ne_bool_str (qaX I q (by simp))
   | _=>exact absurd (show false=true from hs) wbs
 | int i=>
   obtain ⟨t,rfl⟩:=rx
   cases y with
   | non=>cases ry;exact PySem.EqNone.ne_int_none (qaX I q (by simp))
   | int j=>obtain ⟨t',rfl⟩:=ry;exact ne_int (qaX I q (congrArg not qm1))
   | str j=>obtain ⟨t',rfl⟩:=ry;exact PySem.EqMixed.ne_int_str (qaX I q (by simp))
   | _=>exact absurd (show false=true from hs) wbs
 | str i=>
   obtain ⟨t,rfl⟩:=rx
   cases y with
   | non=>cases ry;exact PySem.EqNone.ne_str_none (qaX I q (by simp))
   | bl j=>cases ry;exact PySem.EqMixed.ne_str_bool (qaX I q (by simp))
   | int j=>obtain ⟨t',rfl⟩:=ry;exact PySem.EqMixed.ne_str_int (qaX I q (by simp))
   | str j=>obtain ⟨t',rfl⟩:=ry;exact ne_str (qaX I q (congrArg not qm2))
   | _=>exact absurd (show false=true from hs) wbs
 | byt i=>
   obtain ⟨t,rfl⟩:=rx
   cases y with
   | byt j=>obtain ⟨t',rfl⟩:=ry;exact PySem.W.ne_bytes (qaX I q (congrArg not qm3))
   | _=>exact absurd (show false=true from hs) wbs
 | _=>cases y <;> exact absurd (show false=true from hs) wbs
theorem qgN:OpR X (compareOp .Lt) (rI0 λi j=>.bl (decide (i<j))):=qtC λ_ _ _ _ _ _ _ q=>lt_int q
theorem qtN:OpR X (compareOp .LtE) (rI0 λi j=>.bl (decide (i<=j))):=qtC λ_ _ _ _ _ _ _ q=>le_int q
theorem qiv:OpR X (compareOp .Gt) (rI0 λi j=>.bl (decide (j<i))):=qtC λ_ _ _ _ _ _ _ q=>gt_int q
theorem qtO:OpR X (compareOp .GtE) (rI0 λi j=>.bl (decide (j<=i))):=qtC λ_ _ _ _ _ _ _ q=>ge_int q
theorem qlo:OpR X (compareOp .Is) (λx y H Q=>y=.non/\Q (.bl (decide (x=.non))) H):=by
 intro pins s σ H x y v u Q I rx ry h
 obtain ⟨rfl,q⟩:=h
 cases ry
 refine is_none_gen (qaX I q ?_)
 cases x <;> first
  | (cases rx;rfl)
  | (obtain ⟨t,rfl⟩:=rx;rfl)
theorem qm4:OpR X (compareOp .IsNot) (λx y H Q=>y=.non/\Q (.bl (!decide (x=.non))) H):=by
 intro pins s σ H x y v u Q I rx ry h
 obtain ⟨rfl,q⟩:=h
 cases ry
 refine isnot_none_gen (qaX I q ?_)
 cases x <;> first
  | (cases rx;rfl)
  | (obtain ⟨t,rfl⟩:=rx;rfl)
theorem nomark (b:Expr) {op:CmpOp} (h:op≠.In:=by decide) (h2:op≠.NotIn:=by decide):behindInMarks op b=false:=by
 have e1:(op == CmpOp.In)=false:=by cases op <;> first | rfl | exact absurd rfl h
 have e2:(op == CmpOp.NotIn)=false:=by cases op <;> first | rfl | exact absurd rfl h2
 cases b <;> simp [behindInMarks,e1,e2]
theorem qkw {op:CmpOp} {r:R2} (ho:OpR X (compareOp op) r) (ha:PE X a ta) (hb:PE X b tb) (hm:behindInMarks op b=false):PE X (.Compare a [op] [b] pos) (tOp r ta tb):=by
 intro pins s σ H Q I h
 exact wpAny_Compare1 (qtM ha hb I h λv u s2 x y H2 I2 rx ry q=>ho pins s2 σ H2 x y v u Q I2 rx ry q) hm
noncomputable def qaP (t:TE):TT:=λσ H Q=>t σ H λx H'=>∃ k,x=.bl k/\Q k H'
theorem qav {op:CmpOp} {r:R2} (ho:OpR X (compareOp op) r) (ha:PE X a ta) (hb:PE X b tb) (hm:behindInMarks op b=false):PT X (.Compare a [op] [b] pos) (qaP (tOp r ta tb)):=by
 intro pins s σ H Q I h
 refine wpAny_isTrue_Compare1 (thn (ha pins s σ H _ I h) λv s1 ⟨x,H1,I1,r1,q1⟩=>thn (hb pins s1 σ H1 _ I1 q1) λu s2 ⟨y,H2,I2,r2,q2⟩=>
  thn (ho pins s2 σ H2 x y v u _ I2 r1 r2 q2) λc s3 ⟨z,H3,I3,r3,k,e,q3⟩=>?_) hm
 subst e
 cases r3
 exact wpAny_truthy_bool ⟨H3,I3,q3⟩
noncomputable def qlp (r r':R2) (ta tb tc:TE):TE:=λσ H Q=>ta σ H λx H1=>tb σ H1 λy H2=>r x y H2 λz H3=>∃ k,z=.bl k/\
 (if k=true then tc σ H3 λw' H4=>r' y w' H4 Q else Q (.bl false) H3)
theorem qpp {op op':CmpOp} {r r':R2} (ho:OpR X (compareOp op) r) (ho':OpR X (compareOp op') r') (ha:PE X a ta) (hb:PE X b tb) (hc:PE X c tc)
  (hm:lastMarks [op,op'] [b,c]=false:=by with_unfolding_all rfl):PT X (.Compare a [op,op'] [b,c] pos) (qaP (qlp r r' ta tb tc)):=by
 intro pins s σ H Q I h
 refine isTrue_chain (thn (ha pins s σ H _ I h) λv s1 ⟨x,H1,I1,r1,q1⟩=>test_link (thn (hb pins s1 σ H1 _ I1 q1) λu s2 ⟨y,H2,I2,r2,q2⟩=>
  thn (ho pins s2 σ H2 x y v u _ I2 r1 r2 q2) λd s3 ⟨z,H3,I3,r3,k,e,q3⟩=>?_)) hm
 subst e
 cases r3
 refine wpAny_truthy_bool ?_
 cases k with
 | false=>
   obtain ⟨k',e',q'⟩:=q3
   cases e'
   exact ite_ff ⟨H3,I3,q'⟩
 | true=>
   refine ite_tt (test_last (thn (hc pins s3 σ H3 _ I3 q3) λw' s4 ⟨z',H4,I4,r4,q4⟩=>thn (ho' pins s4 σ H4 y z' u w' _ I4 r2 r4 q4) λd' s5 ⟨z2,H5,I5,r5,k2,e2,q5⟩=>?_))
   subst e2
   cases r5
   exact wpAny_truthy_bool ⟨H5,I5,q5⟩
noncomputable def quJ (K:PySem.W.Frag) (x:V) (H:Hp) (k:Bool):Prop:=
 match x with
 | .non=>k=false
 | .bl b=>k=b
 | .int i=>k=(i != 0)
 | .str y=>y.length<=sizeLine/\k=((y.length:Int) != 0)
 | .byt y=>y.size<=sizeLine/\k=((y.size:Int) != 0)
 | .ref p=>(∃ xs,SqL K H p xs/\k=!xs.isEmpty)\/(∃ xs,SqT K H p xs/\k=!xs.isEmpty)\/∃ kvs,H p=some (.dK kvs)/\k=!kvs.isEmpty
 | _=>False
theorem qmf {κ:Type} {kvs:List (κ×V)} {vs:List (κ×Value)} (r:KV kvs vs):(!vs.isEmpty)=!kvs.isEmpty:=by
 cases r <;> rfl
theorem qh3 {xs:List V} {its:List Value} (r:Vals xs its):(!its.toArray.isEmpty)=!xs.isEmpty:=by
 cases r <;> simp
theorem qh4:(sizeLine:Nat)<2 ^ 63:=by rw [sizeLine_eq];decide
theorem qsv:quI X (λx H Q=>∃ k,quJ X.K x H k/\Q k H):=by
 intro pins s σ H x v Q I rx h
 obtain ⟨k,e,q⟩:=h
 have hl:=qh4
 have hs:sizeLine=16777216:=sizeLine_eq
 cases x with
 | non=>
   cases rx
   have e':k=false:=e
   subst e'
   exact truthy_none ⟨H,I,q⟩
 | bl b=>
   cases rx
   have e':k=b:=e
   subst e'
   exact wpAny_truthy_bool ⟨H,I,q⟩
 | int i=>
   obtain ⟨t,rfl⟩:=rx
   have e':k=(i != 0):=e
   subst e'
   exact PySem.P.truthy_int ⟨H,I,q⟩
 | str y=>
   obtain ⟨t,rfl⟩:=rx
   obtain ⟨hy,e'⟩:y.length<=sizeLine/\k=((y.length:Int) != 0):=e
   subst e'
   exact PySem.P.truthy_str ⋯ ⟨H,I.tok _,q⟩
 | byt y=>
   obtain ⟨t,rfl⟩:=rx
   obtain ⟨hy,e'⟩:y.size<=sizeLine/\k=((y.size:Int) != 0):=e
   subst e'
   exact PySem.W.truthy_bytes ⋯ ⟨H,I.tok _,q⟩
 | ref p=>
   cases rx
   have e':(∃ xs,SqL X.K H p xs/\k=!xs.isEmpty)\/(∃ xs,SqT X.K H p xs/\k=!xs.isEmpty)\/∃ kvs,H p=some (.dK kvs)/\k=!kvs.isEmpty:=e
   rcases e' with ⟨xs,hx,e'⟩ | ⟨xs,hx,e'⟩ | ⟨kvs,hx,e'⟩
   ·subst e'
    obtain ⟨its,r,pl,hz⟩:=I.list hx
    have hlen:=r.length
    exact wpAny_truthy_list pl.isList (by simp only [wal];omega) ⟨H,I.tok _,by rw [qh3 r];exact q⟩
   ·subst e'
    obtain ⟨its,r,pl,hz⟩:=I.tuple hx
    have hlen:=r.length
    exact truthy_tuple pl (by simp only [wal];omega) ⟨H,I.tok _,by rw [qh3 r];exact q⟩
   ·subst e'
    obtain ⟨hz,hS,vs,r,m⟩:kvs.length<=sizeLine/\(p == sysModules)=false/\∃ vs,KV kvs vs/\s.heap.DictOf (qkt X.prog X.w) p vs:=I.hok p _ hx
    have hlen:kvs.length=vs.length:=Paired.length r
    exact wpAny_truthy_dict hS m ⋯ ⟨H,I.tok _,by rw [qmf r];exact q⟩
 | _=>exact (show False from e).elim
theorem qfD {x:V} {us:List Value} (r:Vals [x] us):∃ u,us=[u]/\RelV x u:=by
 cases r with
 | cons r1 r2=>cases r2;exact ⟨_,rfl,r1⟩
theorem vals2 {x y:V} {us:List Value} (r:Vals [x,y] us):∃ u w',us=[u,w']/\RelV x u/\RelV y w':=by
 cases r with
 | cons r1 r2=>
   cases r2 with
   | cons r3 r4=>cases r4;exact ⟨_,_,rfl,r1,r3⟩
theorem qpq:qdN X (.builtin "abs") (λxs H Q=>∃ i,xs=[.int i]/\Q (.int (if i<0 then -i else i)) H):=by
 intro pins s σ H xs us Q I r h
 obtain ⟨i,rfl,q⟩:=h
 obtain ⟨u,rfl,t,rfl⟩:=qfD r
 exact call_abs_int λu tk=>⟨.int (if i<0 then -i else i),H,I.tok _,⟨_,rfl⟩,q⟩
theorem qm5 (hc:X.calm=true):qdN X (.builtin "max") (λxs H Q=>∃ i j,xs=[.int i,.int j]/\Q (.int (if j > i then j else i)) H):=by
 intro pins s σ H xs us Q I r h
 obtain ⟨i,j,rfl,q⟩:=h
 obtain ⟨u,w',rfl,⟨t,rfl⟩,⟨t',rfl⟩⟩:=vals2 r
 refine max_two_ints (I.ok.hd hc) λh' tk k=>⟨_,H,I.kept k,?_,q⟩
 by_cases hj:j > i
 ·rw [if_pos hj,if_pos hj];exact ⟨_,rfl⟩
 ·rw [if_neg hj,if_neg hj];exact ⟨_,rfl⟩
theorem qm6:qdN X (.type "int") (λxs H Q=>(∃ i,xs=[.int i]/\Q (.int i) H)\/∃ k,xs=[.bl k]/\Q (.int (if k then 1 else 0)) H):=by
 intro pins s σ H xs us Q I r h
 rcases h with ⟨i,rfl,q⟩ | ⟨k,rfl,q⟩
 ·obtain ⟨u,rfl,t,rfl⟩:=qfD r
  exact call_int_int ⟨.int i,H,I,⟨_,rfl⟩,q⟩
 ·obtain ⟨u,rfl,r1⟩:=qfD r
  cases r1
  exact call_int_bool ⟨.int (if k then 1 else 0),H,I.tok _,⟨_,rfl⟩,q⟩
end
end L2
namespace L2
open PySem PySem.Spec PyProof.Rows
structure ObjM (h:Heap) (x dx C:Addr) (mA:Str->Option Value):Prop where
 obj:h.get? x=some (PySem.W.instObj C dx)
 ns:h.Ns1 dx mA
 ne:dx≠x
section
variable {prog:Program} {w:World} {A:Around} {E:Value->Shared->Prop} {s:Shared} {K:PySem.W.Frag} {x dx C f:Addr} {mA:Str->Option Value} {name:Str} {v:Value}
end
section
variable {P:Program} {w:World} {H H':Hp} {h h':Heap} {a C dx:Addr} {fs fs':List (Str×V)}
end
structure Cls (K:PySem.W.Frag) (C:Addr):Prop where
 pg:PySem.W.plainGet K C Str.empty=true
 hd:PySem.W.hasDictIn K C=true
 po:PySem.W.plainOver K C=true
 sa:PySem.W.findIn K (.ref C) "__setattr__" = some (some (.builtin "object.__setattr__"))
structure Con (K:PySem.W.Frag) (C:Addr) (f:Str) (v:V) (u:Value):Prop where
 at_:PySem.W.findIn K (.ref C) f=some (some u)
 rel:RelV v u
 get:PySem.W.specialIn K u "__get__" = some none
 cp:PySem.W.copiedNames.contains f=false
structure Meth (K:PySem.W.Frag) (C:Addr) (m:Str) (f:Addr):Prop where
 at_:PySem.W.findIn K (.ref C) m=some (some (.ref f))
 fn:PySem.W.isFn K (.ref f)=true
 kp:PySem.W.keepIn K (.ref f)=true
section
variable {X:Cx} {pins:List (Addr×Obj)} {σ:St} {H:Hp} {s:Shared} {a C dx:Addr} {fs:List (Str×V)} {f:Str} {v:V} {A:Around} {E:Value->Shared->Prop}
end
section
variable {X:Cx} {o e value:Expr} {f:Str} {pos pos' tpos:Pos} {ta tv:TE}
end
section
variable {X:Cx} {pins:List (Addr×Obj)} {σ:St} {H:Hp} {s:Shared} {A:Around} {E:Value->Shared->Prop} {Q:Value->Shared->Prop} {c:Value} {b:Bool}
inductive TyOf (K:PySem.W.Frag) (H:Hp):V->Value->Prop where
 | non:TyOf K H .non (.type "NoneType")
 | bl (x:Bool):TyOf K H (.bl x) (.type "bool")
 | int (i:Int):TyOf K H (.int i) (.type "int")
 | str (x:Str):TyOf K H (.str x) (.type "str")
 | flt (x:UInt64):TyOf K H (.flt x) (.type "float")
 | lst {a:Addr} {xs:List V} (e:H a=some (.lst xs)):TyOf K H (.ref a) (.type "list")
 | frz {a:Addr} {o:Obj} {xs:List V} (e:H a=some (.frz o (.lst xs))):TyOf K H (.ref a) (.type "list")
 | tup {a:Addr} {xs:List V} (e:H a=some (.tup xs)):TyOf K H (.ref a) (.type "tuple")
 | dK {a:Addr} {kvs:List (Key×V)} (e:H a=some (.dK kvs)):TyOf K H (.ref a) (.type "dict")
 | dT {a:Addr} {kvs:List (List Key×V)} (e:H a=some (.dT kvs)):TyOf K H (.ref a) (.type "dict")
 | ins {a C dx:Addr} {fs:List (Str×V)} (e:H a=some (.ins C dx fs)) (cl:Cls K C) (ha:PySem.W.findIn K (.ref C) "__class__" = some (some (.builtin "object.__class__")))
   (hn:PySem.W.specialIn K (.builtin "object.__class__") "__get__" = some (some (.builtin "getset_descriptor.__get__"))) (htk:PySem.W.takesIn K (.builtin "object.__class__")=some true)
   (hm:PySem.W.mroIn K C (.type "object")=some true):TyOf K H (.ref a) (.ref C)
end
end L2
namespace L2
open PySem PySem.Spec PyProof.Rows
structure Room (k:Nat) (A:Around):Prop where
 hd:A.handled=none
 dp:A.depth+3*k+105<recursionLimit
 un:A.units+16*k+200<cLine
theorem Room.mono {j k:Nat} {A:Around} (r:Room k A) (h:j<=k):Room j A:=⟨r.hd,by have:=r.dp;omega,by have:=r.un;omega⟩
theorem Room.deeper {k:Nat} {A:Around} (r:Room (k+1) A) (env:Env):Room k (A.deeper env):=
 ⟨r.hd,by have:=r.dp;show A.depth+1+3*k+105<_;omega,by have:=r.un;show A.units+3+16*k+200<_;omega⟩
theorem Room.depth {k:Nat} {A:Around} (r:Room k A):A.depth<recursionLimit:=by have:=r.dp;omega
theorem Room.units {k:Nat} {A:Around} (r:Room k A):A.units+64<cLine:=by have:=r.un;omega
theorem Room.units0 {k:Nat} {A:Around} (r:Room k A):A.units<cLine:=by have:=r.un;omega
noncomputable def qar:TA:=λ_ H Q=>Q [] H
noncomputable def qad (ta:TE) (tr:TA):TA:=λσ H Q=>ta σ H λx H1=>tr σ H1 λxs H2=>Q (x::xs) H2
section
variable {X:Cx} {e:Expr} {es:List Expr} {te:TE} {t:TA} {pos:Pos}
theorem qae:PA X [] qar:=λ_ _ _ _ H Q I h=>Calls.spliced_nil ⟨[],H,I,.nil,h⟩
theorem qaa (ha:PE X e te) (hr:PA X es t) (hs:starEach (e::es) X.env=(false,eval e X.env)::starEach es X.env:=by rfl):PA X (e::es) (qad te t):=by
 intro pos pins s σ H Q I h
 rw [hs]
 show wpAny _ _ (spliced ((false,eval e X.env)::backTo pos (starEach es X.env))) _ _ s
 refine Calls.spliced_cons (thn (ha pins s σ H _ I h) λu s1 ⟨x,H1,I1,r1,q1⟩=>?_)
 exact thn (hr pos pins s1 σ H1 _ I1 q1) λus s2 ⟨xs,H2,I2,r2,q2⟩=>⟨x::xs,H2,I2,.cons r1 r2,q2⟩
noncomputable def qmg (t:TA):TE:=λσ H Q=>t σ H λxs H1=>xs.length<=sizeLine/\∀ p,H1 p=none->Q (.ref p) (upd H1 p (.tup xs))
noncomputable def qeT (t:TA):TE:=λσ H Q=>t σ H λxs H1=>xs.length<=sizeLine/\∀ p,H1 p=none->Q (.ref p) (upd H1 p (.lst xs))
theorem qeU {x1} (h:PA X es t):PE X (.Tuple es x1 pos) (qmg t):=by
 intro pins s σ H Q I hq
 refine wpAny_Tuple_spliced (thn (h pos pins s σ H _ I hq) λus s1 ⟨xs,H1,I1,r,z,q⟩=>⟨by rw [<-r.length];exact z,?_⟩)
 have hf:H1 s1.heap.objs.size=none:=I1.hok.fresh (wad _)
 refine ⟨.ref s1.heap.objs.size,upd H1 s1.heap.objs.size (.tup xs),I1.laid (t':=s1.toks) (λb u e=>Heap.get?_push_of_some _ e) (wad _) ?_,rfl,q _ hf⟩
 exact ⟨z,us,r,⟨_,Heap.get?_push_size _ rfl,rfl,_,rfl⟩⟩
theorem qbA (h:PA X es t):PE X (.List es pos) (qeT t):=by
 intro pins s σ H Q I hq
 refine wpAny_List_spliced (thn (h pos pins s σ H _ I hq) λus s1 ⟨xs,H1,I1,r,z,q⟩=>⟨by rw [<-r.length];exact z,?_⟩)
 have hf:H1 s1.heap.objs.size=none:=I1.hok.fresh (wad _)
 refine ⟨.ref s1.heap.objs.size,upd H1 s1.heap.objs.size (.lst xs),I1.laid (t':=s1.toks) (λb u e=>Heap.get?_push_of_some _ e) (wad _) ?_,rfl,q _ hf⟩
 exact ⟨z,us,0,r,Heap.get?_push_size _ rfl⟩
end
noncomputable abbrev Sp:=List V->Hp->VK->XK->Prop
noncomputable abbrev CXT:=List Env->Hp->Shared->XK->Value->Shared->Prop
structure Env0 (P:Program) (w:World) (K:PySem.W.Frag) (mg:Str->Option Value) (base:Heap) (A:Around) (outer:List Env) (s:Shared) (H:Hp):Prop where
 frames:A.frames=some outer
 mod:Mod K mg base
 bs:∀ b o,base.get? b=some o->s.heap.get? b=some o/\H b=none
 bsz:base.objs.size<=s.heap.objs.size
 funs:s.heap.FunFrames base outer
 frf:∀ b∈frs outer,H b=none
 hok:HOk P w H s.heap
 bare:AllBare s.gens
 seer:base.NoSeer
 tree:(model P w).prog.given.tree=none
noncomputable def CE (outer:List Env) (P:Program) (w:World) (H:Hp) (s:Shared) (Q:VK) (u:Value) (s':Shared):Prop:=
 ∃ v H',s'.os=s.os/\AllBare s'.gens/\Un (frs outer) [] H H' s.heap s'.heap/\HOk P w H' s'.heap/\RelV v u/\Q v H'
noncomputable def CR (CX:CXT) (outer:List Env) (P:Program) (w:World) (H:Hp) (s:Shared) (Q:VK) (E:XK) (r:Result) (s':Shared):Prop:=
 match r with
 | .ok (.ret u)=>CE outer P w H s Q u s'
 | .ok _=>False
 | .error e=>CX outer H s E e s'
structure FnOk (P:Program) (w:World) (K:PySem.W.Frag) (mg:Str->Option Value) (base:Heap) (CX:CXT) (k:Nat) (f:Addr) (fd:FuncData) (ps:List Str) (sp:Sp):Prop where
 len:∀ vs H Q E,sp vs H Q E->vs.length=ps.length
 run:∀ (A:Around) (outer:List Env) (s:Shared) (H:Hp) (args:Args) (us:List Value) (vs:List V) (Q:VK) (E:XK),Room k A->Env0 P w K mg base A outer s H->BindsTo s fd args (ps.zip us)->Vals vs us->sp vs H Q E->
  codeAny (model P w) A (.call (.ref f) args) (CR CX outer P w H s Q E) s
section
variable {X:Cx} {pins:List (Addr×Obj)} {σ:St} {H:Hp} {s s':Shared}
theorem Inv.env0 (I:Inv X pins σ H s):Env0 X.prog X.w X.K X.mg X.base X.A X.stack s H:=
 ⟨I.ok.frames,I.ok.mod,I.bs,wa3 I.ok.bsz I.sz,I.stack,I.stkFree,I.hok,I.bare,I.ok.seer,I.ok.tree⟩
theorem Inv.after {Q:VK} {u:Value} (I:Inv X pins σ H s) (h:CE X.stack X.prog X.w H s Q u s'):EP X pins σ Q u s':=by
 obtain ⟨v,H',os,bare,un,hok,r,q⟩:=h
 obtain ⟨hh,g,d,t,os'⟩:=s'
 obtain rfl:os'=s.os:=os
 exact ⟨v,H',I.call (h':=hh) (g':=g) (d':=d) (t':=t) (ch:=[]) un hok bare (λb z=>absurd z (by simp)),r,q⟩
end
noncomputable def qay (sp:Sp) (dvs:List V) (E:XK) (t:TA):TE:=λσ H Q=>t σ H λvs H1=>sp (vs++dvs) H1 Q E
noncomputable def Binds (K:PySem.W.Frag) (fd:FuncData) (ps:List Str) (ds:List Value):Prop:=
 ∀ (s:Shared) (us:List Value),K.In s.heap->(us++ds).length=ps.length->BindsTo s fd ⟨us,[]⟩ (ps.zip (us++ds))
theorem Binds.all {K:PySem.W.Frag} {fd:FuncData} {ps:List Str} (h:∀ us:List Value,us.length=ps.length->bindArgs fd ⟨us,[]⟩=pure (ps.zip us)):Binds K fd ps []:=λs us _ hl=>by
 rw [List.append_nil] at hl ⊢
 exact .of_eq (h us hl)
noncomputable def Passes (CX:CXT) (X:Cx) (E:XK):Prop:=∀ (pins:List (Addr×Obj)) (σ:St) (H:Hp) (s:Shared) (e:Value) (s':Shared),Inv X pins σ H s->CX X.stack H s E e s'->X.xe e s'
section
variable {X:Cx} {CX:CXT} {k:Nat} {f C:Addr} {fd:FuncData} {ps:List Str} {sp:Sp} {dvs:List V} {ds:List Value} {E:XK} {x m:Str} {p pos apos:Pos} {e o:Expr} {es:List Expr} {ta:TE} {t:TA}
theorem qsw {pins:List (Addr×Obj)} {σ:St} {H:Hp} {s:Shared} {Q:VK} {us:List Value} {vs:List V} (F:FnOk X.prog X.w X.K X.mg X.base CX k f fd ps sp) (hr:Room k X.A) (hb:Binds X.K fd ps ds) (hd:Vals dvs ds) (hx:Passes CX X E)
  (I:Inv X pins σ H s) (r:Vals vs us) (h:sp (vs++dvs) H Q E):wpAny (model X.prog X.w) X.A (call (.ref f) us) (EP X pins σ Q) X.xe s:=by
 have r2:Vals (vs++dvs) (us++ds):=r.append hd
 have hl:(us++ds).length=ps.length:=by rw [<-r2.length];exact F.len _ _ _ _ h
 refine wpAny_call (codeAny_mono (F.run X.A X.stack s H ⟨us,[]⟩ (us++ds) (vs++dvs) Q E hr I.env0 (hb s us I.kIn hl) r2 h) λr s' hq=>?_)
 cases r with
 | error e=>exact hx pins σ H s e s' I hq
 | ok fl=>
   cases fl with
   | ret u=>exact I.after hq
   | next=>exact False.elim hq
   | brk=>exact False.elim hq
   | cont=>exact False.elim hq
theorem qq9 (F:FnOk X.prog X.w X.K X.mg X.base CX k f fd ps sp) (hr:Room k X.A) (hg:Gl X x) (hm:X.mg x=some (.ref f)) (hk:PySem.W.keepIn X.K (.ref f)=true) (hb:Binds X.K fd ps ds) (hd:Vals dvs ds) (hx:Passes CX X E)
  (ha:PA X (e::es) t) (hdb:(x == ("__debug__" : Str))=false:=by decide) (he:starEach (e::es) X.env=(false,eval e X.env)::starEach es X.env:=by rfl) (hpl:(backTo pos (starEach es X.env)).any (·.1)=false:=by rfl) :
  PE X (.Call (.Name x p) (e::es) [] pos) (qay sp dvs E t):=by
 intro pins s σ H Q I h
 refine wpAny_Call_Name_kw (qmR I hg hm ?_ hdb)
 refine PySem.W.callWith_K (h₀:=X.base) I.ok.mod.kin hk (thn (ha pos pins s σ H _ I h) λus s1 ⟨vs,H1,I1,r,q⟩=>⟨I1.kIn,?_⟩) he hpl
 exact qsw F hr hb hd hx I1 r q
structure Mk (K:PySem.W.Frag) (C f:Addr):Prop where
 makes:PySem.W.makesIn K C=true
 init:PySem.W.findIn K (.ref C) "__init__" = some (some (.ref f))
 fn:PySem.W.isFn K (.ref f)=true
 kp:PySem.W.keepIn K (.ref C)=true
end
noncomputable def PK (X:Cx) (kws:List Keyword) (t:TA):Prop:=
 ∀ (pos:Pos) (pins:List (Addr×Obj)) (s:Shared) (σ:St) (H:Hp) (Q:List V->Hp->Prop),Inv X pins σ H s->t σ H Q->wpAny (model X.prog X.w) X.A (evalAll ((backToKw pos (keywordEach kws X.env)).map (·.2))) (AP X pins σ Q) X.xe s
section
variable {X:Cx} {CX:CXT} {k:Nat} {f C:Addr} {fd:FuncData} {ps ks:List Str} {sp:Sp} {E:XK} {x m:Str} {p pos apos kpos:Pos} {e o:Expr} {es:List Expr} {kws:List Keyword} {te ta:TE} {t tk:TA} {nm:Option Str}
theorem qqr:PK X [] qar:=λ_ _ _ _ H Q I h=>wpAny_evalAll_nil ⟨[],H,I,.nil,h⟩
theorem qm7 (ha:PE X e te) (hr:PK X kws t):PK X (⟨nm,e,kpos⟩::kws) (qad te t):=by
 intro pos pins s σ H Q I h
 show wpAny _ _ (evalAll ((do let v <-eval e X.env;standAt pos;pure v)::(backToKw pos (keywordEach kws X.env)).map (·.2))) _ _ s
 refine wpAny_evalAll_cons (wpAny_bind (thn (ha pins s σ H _ I h) λu s1 ⟨x,H1,I1,r1,q1⟩=>wpAny_bind (wpAny_standAt (wpAny_pure ?_))))
 exact thn (hr pos pins s1 σ H1 _ I1 q1) λus s2 ⟨xs,H2,I2,r2,q2⟩=>⟨x::xs,H2,I2,.cons r1 r2,q2⟩
structure KBinds (K:PySem.W.Frag) (fd:FuncData) (ps ks:List Str) (g:List Value->List Value->List Value) (gV:List V->List V->List V):Prop where
 to:∀ (s:Shared) (us ws:List Value),K.In s.heap->(g us ws).length=ps.length->BindsTo s fd ⟨us,ks.zip ws⟩ (ps.zip (g us ws))
 rel:∀ {vs:List V} {us:List Value} {zs:List V} {ws:List Value},Vals vs us->Vals zs ws->Vals (gV vs zs) (g us ws)
variable {g:List Value->List Value->List Value} {gV:List V->List V->List V}
end
structure FnScope (N P:List Str) (sc:Scope):Prop where
 kind:sc.kind=.function
 co:sc.isCoroutine=false
 gen:sc.isGenerator=false
 nd:N.Nodup
 pre:N.take P.length=P
 par:∀ x∈P,sc.names.lookup x=some .local\/sc.names.lookup x=some .cell
 nofree:∀ y∈sc.names,y.2≠.free
theorem qjq {kindOf:Str->Option NameKind} {x:Str}:∀ {binds:List (Str×Value)} {m:Str->Option Value},(∀ v,(x,v)∉binds)->bindL kindOf binds m x=m x
 | [],_,_=>rfl
 | (n,v)::r,m,h=>by
   unfold bindL
   rw [qjq λw hw=>h w (wa4 _ hw)]
   split
   ·have:x≠n:=by rintro rfl;exact h v waz
    simp [this]
   ·rfl
theorem qjr {kindOf:Str->Option NameKind} {x:Str}:∀ {binds:List (Str×Value)} {m:Str->Option Value},(∀ v,(x,v)∉binds)->bindC kindOf binds m x=m x
 | [],_,_=>rfl
 | (n,v)::r,m,h=>by
   unfold bindC
   rw [qjr λw hw=>h w (wa4 _ hw)]
   split
   ·rfl
   ·have:x≠n:=by rintro rfl;exact h v waz
    simp [this]
theorem qjs {kindOf:Str->Option NameKind} {x:Str} {v:Value}:∀ {P:List Str} {vs:List Value} {i:Nat} {m:Str->Option Value},P.Nodup->P[i]?=some x->vs[i]?=some v->kindOf x=some .local->
  bindL kindOf (P.zip vs) m x=some v
 | [],_,_,_,_,h,_,_=>by simp at h
 | _::_,[],_,_,_,_,h,_=>by simp at h
 | p::P,w::vs,0,m,nd,h1,h2,hk=>by
   simp at h1 h2;subst h1;subst h2
   show bindL kindOf ((p,w)::P.zip vs) m p=_
   unfold bindL
   rw [qjq λv hv=>(List.nodup_cons.mp nd).1 (List.of_mem_zip hv).1,if_pos hk]
   simp
 | p::P,w::vs,i+1,m,nd,h1,h2,hk=>by
   show bindL kindOf ((p,w)::P.zip vs) m x=_
   unfold bindL
   exact qjs (i:=i) (List.nodup_cons.mp nd).2 (by simpa using h1) (by simpa using h2) hk
theorem qjt {kindOf:Str->Option NameKind} {x:Str} {v:Value}:∀ {P:List Str} {vs:List Value} {i:Nat} {m:Str->Option Value},P.Nodup->P[i]?=some x->vs[i]?=some v->kindOf x≠some .local->
  bindC kindOf (P.zip vs) m x=some v
 | [],_,_,_,_,h,_,_=>by simp at h
 | _::_,[],_,_,_,_,h,_=>by simp at h
 | p::P,w::vs,0,m,nd,h1,h2,hk=>by
   simp at h1 h2;subst h1;subst h2
   show bindC kindOf ((p,w)::P.zip vs) m p=_
   unfold bindC
   rw [qjr λv hv=>(List.nodup_cons.mp nd).1 (List.of_mem_zip hv).1,if_neg hk]
   simp
 | p::P,w::vs,i+1,m,nd,h1,h2,hk=>by
   show bindC kindOf ((p,w)::P.zip vs) m x=_
   unfold bindC
   exact qjt (i:=i) (List.nodup_cons.mp nd).2 (by simpa using h1) (by simpa using h2) hk
noncomputable def start (N:List Str) (vs:List V):St:=vs.map some++List.replicate (N.length - vs.length) none
noncomputable def qra (CX:CXT) (P:Program) (w:World) (K:PySem.W.Frag) (mg:Str->Option Value) (base:Heap) (N:List Str) (qual:Str) (scope:Scope) (f:Addr) (cd:Value) (A:Around) (outer:List Env) (s:Shared) (H:Hp) (E:XK):Cx where
 prog:=P
 w:=w
 K:=K
 mg:=mg
 base:=base
 A:=A.deeper (envOfC qual scope s.heap.objs.size f cd)
 N:=N
 s₀:=s
 H₀:=H
 env:=envOfC qual scope s.heap.objs.size f cd
 outer:=outer
 stack:=envOfC qual scope s.heap.objs.size f cd::outer
 ex:=[]
 calm:=true
 fn:=λ_=>true
 pn:=[]
 xe:=λe s'=>wpAny (model P w) (A.deeper (envOfC qual scope s.heap.objs.size f cd)) (leaving (envOfC qual scope s.heap.objs.size f cd) e) (λ_ s''=>CX outer H s E e s'') (λe' s''=>CX outer H s E e' s'') s'
theorem qlq {sc:Scope} {n:Nat} {x:Str} (h:sc.names.lookup x=some .cell):∃ c,(cellsFrom n sc.names []).lookup x=some c:=by
 have q:=PySem.W.cellsFrom_some sc.names n [] (.inl h)
 exact Option.isSome_iff_exists.mp q
theorem qm8 {CX:CXT} {P:Program} {w:World} {K:PySem.W.Frag} {mg:Str->Option Value} {base:Heap} {N ps:List Str} {qual:Str} {scope:Scope} {f:Addr} {cd:Value} {A:Around} {outer:List Env} {s s1:Shared} {H:Hp} {E:XK} {us:List Value} {vs:List V}
  (S:FnScope N ps scope) (hd:A.handled=none) (hdp:(A.deeper (envOfC qual scope s.heap.objs.size f cd)).depth+Builtin.pylongFrames<recursionLimit) (e0:Env0 P w K mg base A outer s H) (hl:vs.length=ps.length) (r:Vals vs us)
  (x:InCallC s s.heap.objs.size (bindL (envOfC qual scope s.heap.objs.size f cd).kindOf (ps.zip us) λ_=>none) (cellsFrom (s.heap.objs.size+1) scope.names []) (bindC (envOfC qual scope s.heap.objs.size f cd).kindOf (ps.zip us) λ_=>none) s1) :
  Inv (qra CX P w K mg base N qual scope f cd A outer s H E) [] (start N vs) H s1:=by
 have hpl:ps.length<=N.length:=by have:=congrArg List.length S.pre;rw [wa5] at this;omega
 obtain ⟨h1,tk,rfl,hk⟩:=x.done
 have noA:∀ b:Addr,b∉(qra CX P w K mg base N qual scope f cd A outer s H E).ex:=λb z=>absurd (show b∈([]:List Addr) from z) (by simp)
 refine ⟨⟨e0.mod,S.kind,rfl,rfl,wad _,λy z c h1 h2=>?_,λy hy=>?_,λy c _ h=>?_,λ_=>hd,Around.frames_deeper e0.frames,.inr ⟨rfl,rfl⟩,λb z=>absurd z (noA b),e0.bs,e0.bsz,λb _ _=>noA b,λb z=>absurd z (noA b),e0.funs,e0.frf,e0.seer,e0.tree,λs' hk'=>PySem.PylongRoom.of (e0.mod.nolimit.keeps hk') hdp (PySem.SeerAt.of (e0.seer.keeps hk') e0.tree (Around.frames_deeper e0.frames) S.gen S.co rfl rfl)⟩,
  rfl,e0.bare,Un.kept hk,⟨_,x.toInCall.ns,λi y v h1 h2 h3=>?_⟩,λy c h=>⟨_,x.cell y c h⟩,e0.hok.fresh (wad _),λy c h=>?_,λp hp=>absurd (show p∈([]:List (Addr×Obj)) from hp) (by simp),e0.hok.kept hk,?_⟩
 ·exact name_of_addr x.apart (PySem.mem_of_lookup h1) (PySem.mem_of_lookup h2)
 ·have hy:scope.names.lookup y=some .cell\/scope.names.lookup y=some .free:=hy
  rcases hy with hy | hy
  ·exact qlq hy
  ·exact absurd rfl (S.nofree _ (PySem.mem_of_lookup hy))
 ·exact wbr (x.above y c (PySem.mem_of_lookup h))
 ·have hi:i<vs.length:=by
   unfold start at h2
   by_cases hi:i<vs.length
   ·exact hi
   ·rw [wck (by simpa using hi)] at h2
    rw [wcr] at h2
    split at h2 <;> cases h2
  have ha:vs[i]?=some v:=by
   unfold start at h2
   rw [wcl (by simpa using hi),waf] at h2
   cases e:vs[i]? with
   | none=>rw [e] at h2;cases h2
   | some a=>rw [e] at h2;cases h2;rfl
  obtain ⟨u,hu,rv⟩:=r.get ha
  have hp:ps[i]?=some y:=by
   rw [<-S.pre,List.getElem?_take_of_lt ⋯];exact h1
  have ndP:ps.Nodup:=by rw [<-S.pre];exact S.nd.sublist (List.take_sublist _ _)
  refine ⟨u,rv,?_⟩
  rcases S.par y (wau hp) with k | k
  ·exact .inl ⟨k,qjs ndP hp hu k⟩
  ·obtain ⟨c,e⟩:=qlq (n:=s.heap.objs.size+1) k
   refine .inr ⟨.inl k,c,e,?_⟩
   have q:=x.cell y c e
   rw [qjt ndP hp hu (by show scope.names.lookup y≠_;rw [k];decide)] at q
   exact q
 ·exact e0.hok.fresh (wbr (x.above y c (PySem.mem_of_lookup h)))
 ·unfold start
  show _=N.length
  rw [wa9,waa,List.length_replicate]
  omega
theorem qtP {CX:CXT} {P:Program} {w:World} {K:PySem.W.Frag} {mg:Str->Option Value} {base:Heap} {k:Nat} {f:Addr} {name qual:Str} {params:Arguments} {body:List Stmt} {scope:Scope} {dV kV doc pm cdv ct oc:Value} {an od:Option Addr}
  {osl:Array (Option Value)} {N ps:List Str} {sp:Sp} (lk:K.lookup f=some ⟨oc,od,.func (PySem.W.fnOf name qual params body scope dV kV doc pm an cdv ct),osl⟩) (hcd:PySem.W.codeIn K cdv qual=true) (S:FnScope N ps scope)
  (len:∀ vs H Q E,sp vs H Q E->vs.length=ps.length)
  (hbody:∀ (A:Around) (outer:List Env) (s:Shared) (H:Hp) (vs:List V) (Q:VK) (E:XK),Room k (A.deeper (envOfC qual scope s.heap.objs.size f cdv))->sp vs H Q E->
   ∃ t,PSs (qra CX P w K mg base N qual scope f cdv A outer s H E) body t/\t { nx:=λ_ H'=>Q .non H',rt:=Q } (start N vs) H) :
  FnOk P w K mg base CX (k+1) f (PySem.W.fnOf name qual params body scope dV kV doc pm an cdv ct) ps sp:=by
 refine ⟨len,λA outer s H args us vs Q E hr e0 hb r hsp=>?_⟩
 have hl:=len _ _ _ _ hsp
 have KX:K.In s.heap:=e0.mod.kin.keeps λb o e=>(e0.bs b o e).1
 have lim:s.heap.NoLimit:=e0.mod.nolimit.keeps λb o e=>(e0.bs b o e).1
 have hkind:∀ y∈ps.zip us,scope.names.lookup y.1=some .local\/(scope.names.lookup y.1=some .cell/\((cellsFrom (s.heap.objs.size+1) scope.names []).lookup y.1).isSome=true):=λ⟨n,v⟩ hy=>by
  rcases S.par n (List.of_mem_zip hy).1 with q | q
  ·exact .inl q
  ·exact .inr ⟨q,PySem.W.cellsFrom_some _ _ _ (.inl q)⟩
 refine codeAny_call_function hr.depth (KX _ _ lk) rfl S.co S.gen rfl (PySem.W.codeRec_of KX hcd) (hb _ _ _ _ ?_)
 refine wpAny_newFunctionEnv_cells S.kind hkind λenv he s1 x=>?_
 subst he
 refine ⟨lim.keeps x.toInCall.keep,codeAny_func ?_⟩
 obtain ⟨t,ht,hq⟩:=hbody A outer s H vs Q E (hr.deeper _) hsp
 have I:Inv (qra CX P w K mg base N qual scope f cdv A outer s H E) [] (start N vs) H s1:=qm8 S hr.hd (by have:=(hr.deeper (envOfC qual scope s.heap.objs.size f cdv)).dp;show _+100<_;omega) e0 hl r x
 refine wpAny_mono (ht [] s1 (start N vs) H _ I hq) (λfl s' hs=>?_) λe s' hs=>hs
 have fin:∀ {σ':St} {H':Hp} {v:V} {u:Value},Inv (qra CX P w K mg base N qual scope f cdv A outer s H E) [] σ' H' s'->RelV v u->Q v H'->CE outer P w H s Q u s':=
  λ{σ' H' v u} J rv q=>⟨v,H',J.os,J.bare,J.base,J.hok,rv,q⟩
 cases fl with
 | ret u=>
   obtain ⟨v,σ',H',J,rv,q⟩:=hs
   exact fin J rv q
 | next=>
   obtain ⟨σ',H',J,q⟩:=hs
   exact fin (v:=V.non) (u:=Value.none) J rfl q
 | brk=>
   obtain ⟨_,_,_,q⟩:=hs
   exact False.elim q
 | cont=>
   obtain ⟨_,_,_,q⟩:=hs
   exact False.elim q
end L2
namespace L2
open PySem PySem.Spec PyProof.Rows
section
variable {X:Cx} {x:Str} {p pos:Pos} {e:Expr} {es:List Expr} {t:TA} {id T:String} {r:List V->Hp->VK->Prop}
noncomputable def tCB (r:List V->Hp->VK->Prop) (t:TA):TE:=λσ H Q=>t σ H λvs H1=>r vs H1 Q
theorem qao (hc:qdN X (.builtin id) r) (hg:Gl X x) (hm:X.mg x=none) (hv:bootBuiltins x=some (.builtin id)) (ha:PA X (e::es) t) (hn:x ≠ "__name__" := by decide) (hdb:(x == ("__debug__" : Str))=false:=by decide)
  (he:starEach (e::es) X.env=(false,eval e X.env)::starEach es X.env:=by rfl) (hpl:(backTo pos (starEach es X.env)).any (·.1)=false:=by rfl):PE X (.Call (.Name x p) (e::es) [] pos) (tCB r t):=by
 intro pins s σ H Q I h
 refine wpAny_Call_Name_kw (qen I hg hm hv ?_ hn hdb)
 exact PyProof.Rows.callWith_builtin1 (thn (ha pos pins s σ H _ I h) λus s1 ⟨vs,H1,I1,r1,q1⟩=>hc pins s1 σ H1 vs us Q I1 r1 q1) he hpl
theorem qcu (hc:qdN X (.type T) r) (hg:Gl X x) (hm:X.mg x=none) (hv:bootBuiltins x=some (.type T)) (ha:PA X (e::es) t) (hn:x ≠ "__name__" := by decide) (hdb:(x == ("__debug__" : Str))=false:=by decide)
  (he:starEach (e::es) X.env=(false,eval e X.env)::starEach es X.env:=by rfl) (hpl:(backTo pos (starEach es X.env)).any (·.1)=false:=by rfl):PE X (.Call (.Name x p) (e::es) [] pos) (tCB r t):=by
 intro pins s σ H Q I h
 refine wpAny_Call_Name_kw (qen I hg hm hv ?_ hn hdb)
 exact PyProof.Rows.callWith_type1 (thn (ha pos pins s σ H _ I h) λus s1 ⟨vs,H1,I1,r1,q1⟩=>hc pins s1 σ H1 vs us Q I1 r1 q1) he hpl
end
end L2
namespace HT
open PySem PyProof.Rows
section
open PySem.SeqAt
open PySem.AutoSeq1 (wpAny_loadPart')
open PySem.MeetsSeq PySem.MeetsSeq2 PySem.MeetsSeq3
end
section
variable {prog:Program} {w:World} {A:Around} {E:Value->Shared->Prop} {s:Shared}
noncomputable def sIx (n d:Nat):Option Int->Nat
 | none=>d
 | some v=>if v<0 then (v+(n:Int)).toNat else min v.toNat n
end
end HT
namespace L2
open PySem PySem.Spec PyProof.Rows
noncomputable abbrev TO:=St->Hp->(Option Int->Hp->Prop)->Prop
noncomputable def PO (X:Cx) (e:Option Expr) (t:TO):Prop:=
 ∀ (pins:List (Addr×Obj)) (s:Shared) (σ:St) (H:Hp) (Q:Option Int->Hp->Prop),Inv X pins σ H s->t σ H Q->
   wpAny (model X.prog X.w) X.A (evalPart e X.env) (λu s'=>∃ o H',Inv X pins σ H' s'/\IsPart u o/\Q o H') X.xe s
noncomputable def qcv:TO:=λ_ H Q=>Q none H
noncomputable def qgO (t:TE):TO:=λσ H Q=>t σ H λx H1=>∃ i,x=.int i/\Q (some i) H1
section
variable {X:Cx} {e:Expr} {te:TE} {lo hi:Option Expr} {tl th:TO} {pos p2:Pos}
theorem qdO:PO X none qcv:=by
 intro pins s σ H Q I h
 rw [evalPart_none]
 exact wpAny_pure ⟨none,H,I,.none,h⟩
theorem qdn (h:PE X e te):PO X (some e) (qgO te):=by
 intro pins s σ H Q I hw
 rw [evalPart_some]
 refine thn (h pins s σ H _ I hw) λu s1 ⟨x,H1,I1,r1,q1⟩=>?_
 obtain ⟨i,rfl,q⟩:=q1
 obtain ⟨t,rfl⟩:=r1
 exact ⟨some i,H1,I1,.int i t,q⟩
noncomputable def SlR (X:Cx) (r:V->Option Int->Option Int->Hp->VK->Prop):Prop:=
 ∀ (pins:List (Addr×Obj)) (s:Shared) (σ:St) (H:Hp) (x:V) (v vl vu:Value) (lo hi:Option Int) (sl:Addr) (Q:VK),Inv X pins σ H s->RelV x v->s.heap.IsSliceOf sl vl vu .none->IsPart vl lo->IsPart vu hi->r x lo hi H Q->
   ∃ T id,typeLookup (.type T) "__getitem__" = pure (some (.builtin id))/\s.TypeIs v T/\wpAny (model X.prog X.w) X.A (getItem v (.ref sl)) (EP X pins σ Q) X.xe s
noncomputable def tSl (r:V->Option Int->Option Int->Hp->VK->Prop) (te:TE) (tl th:TO):TE:=λσ H Q=>te σ H λx H1=>tl σ H1 λl H2=>th σ H2 λu H3=>r x l u H3 Q
theorem qcQ {r:V->Option Int->Option Int->Hp->VK->Prop} (hr:SlR X r) (he:PE X e te) (hl:PO X lo tl) (hu:PO X hi th):PE X (.Subscript e (.Slice lo hi none p2) pos) (tSl r te tl th):=by
 intro pins s σ H Q I h
 refine Subscript_ (thn (he pins s σ H _ I h) λv s1 ⟨x,H1,I1,r1,q1⟩=>?_)
 refine wpAny_Slice (thn (hl pins s1 σ H1 _ I1 q1) λvl s2 ⟨l,H2,I2,pl,q2⟩=>thn (hu pins s2 σ H2 _ I2 q2) λvu s3 ⟨u,H3,I3,pu,q3⟩=>?_)
 rw [evalPart_none]
 refine wpAny_pure ?_
 have I4:Inv X pins σ H3 { s3 with heap:=s3.heap.push { cls:=.type "slice", data:=.fields #[vl,vu,.none] } }:=I3.kept (t':=s3.toks) λb ob q=>Heap.get?_push_of_some _ q
 obtain ⟨T,id,hT,ht,hg⟩:=hr pins { s3 with heap:=s3.heap.push { cls:=.type "slice", data:=.fields #[vl,vu,.none] } } σ H3 x v vl vu l u s3.heap.objs.size Q I4 r1 (Heap.IsSliceOf.new ..) pl pu q3
 show wpAny (model X.prog X.w) X.A (subscriptTail e (.Slice lo hi none p2) v (.ref s3.heap.objs.size)) (EP X pins σ Q) X.xe { s3 with heap:=s3.heap.push { cls:=.type "slice", data:=.fields #[vl,vu,.none] } }
 exact tail_any (ops:=[.ref s3.heap.objs.size,v]) ht hT hg (by with_unfolding_all rfl)
noncomputable def qiw (xs:List V) (lo hi:Option Int):List V:=(xs.drop (HT.sIx xs.length 0 lo)).take (HT.sIx xs.length xs.length hi - HT.sIx xs.length 0 lo)
theorem qkx (xs:List V) (lo hi:Option Int):(qiw xs lo hi).length<=xs.length:=by
 unfold qiw
 rw [wa5,List.length_drop]
 omega
end
end L2
namespace L2
open PySem PySem.Spec PyProof.Rows
noncomputable def ixN (n:Nat) (i:Int):Option Nat:=if 0<=i then (if i<n then some i.toNat else none) else if -(n:Int)<=i then some (i+n).toNat else none
noncomputable def atI {α:Type} (xs:List α) (i:Int):Option α:=(ixN xs.length i).bind λj=>xs[j]?
theorem qm9 {n:Nat} {i:Int} {j:Nat} (h:ixN n i=some j):seqIndex? i n=some j/\j<n/\-(n:Int)<=i/\i<n:=by
 unfold ixN at h
 by_cases h0:0<=i
 ·rw [if_pos h0] at h
  by_cases h1:i<n
  ·rw [if_pos h1] at h
   have e:i.toNat=j:=Option.some.inj h
   exact ⟨by rw [seqIndex_of h0 h1,e],⋯,⋯,h1⟩
  ·rw [if_neg h1] at h;cases h
 ·rw [if_neg h0] at h
  by_cases h1:-(n:Int)<=i
  ·rw [if_pos h1] at h
   have e:(i+n).toNat=j:=Option.some.inj h
   exact ⟨by rw [seqIndex_neg ⋯ h1,e],⋯,h1,⋯⟩
  ·rw [if_neg h1] at h;cases h
theorem qky {α:Type} {xs:List α} {i:Int} {v:α} (h:atI xs i=some v):∃ j,seqIndex? i xs.length=some j/\xs[j]?=some v/\j<xs.length/\-(xs.length:Int)<=i/\i<xs.length:=by
 unfold atI at h
 cases e:ixN xs.length i with
 | none=>rw [e] at h;cases h
 | some j=>
   rw [e] at h
   obtain ⟨h1,h2,h3,h4⟩:=qm9 e
   exact ⟨j,h1,h,h2,h3,h4⟩
theorem qfE {α:Type} {xs:List α} {j:Nat} {v:α} (h:xs[j]?=some v):atI xs (j:Int)=some v:=by
 have hj:j<xs.length:=(waq.mp h).1
 have e:ixN xs.length (j:Int)=some j:=by
  unfold ixN
  rw [if_pos ⋯,if_pos ⋯];simp
 unfold atI;rw [e];exact h
noncomputable def qrb (b:Expr):Prop:=∀ o i,subscripted b false o i=operate [o,i] (getItem o i)
noncomputable def IxR (X:Cx) (r:R2):Prop:=
 ∀ (value slice:Expr) (pins:List (Addr×Obj)) (s:Shared) (σ:St) (H:Hp) (x y:V) (v u:Value) (Q:VK),Inv X pins σ H s->RelV x v->RelV y u->r x y H Q->
   subscripted slice false v u=operate [v,u] (getItem v u)->wpAny (model X.prog X.w) X.A (subscriptTail value slice v u) (EP X pins σ Q) X.xe s
noncomputable def MtR (X:Cx) (id:String) (r:V->List V->Hp->VK->Prop):Prop:=
 ∀ (pins:List (Addr×Obj)) (s:Shared) (σ:St) (H:Hp) (x:V) (xs:List V) (v:Value) (us:List Value) (Q:VK),Inv X pins σ H s->RelV x v->Vals xs us->r x xs H Q->
   wpAny (model X.prog X.w) X.A (call (.builtin id) (v::us)) (EP X pins σ Q) X.xe s
section
variable {X:Cx} {a b:Expr} {ta tb:TE} {pos:Pos}
theorem qaz {r:R2} (hr:IxR X r) (ha:PE X a ta) (hb:PE X b tb) (hs:qrb b):PE X (.Subscript a b pos) (tOp r ta tb):=by
 intro pins s σ H Q I h
 exact Subscript_ (qtM ha hb I h λv u s2 x y H2 I2 rx ry q=>hr a b pins s2 σ H2 x y v u Q I2 rx ry q (hs _ _))
noncomputable def quK (K:PySem.W.Frag):R2:=λx y H Q=>∃ p xs i v,x=.ref p/\y=.int i/\SqL K H p xs/\atI xs i=some v/\Q v H
noncomputable def quL (K:PySem.W.Frag):R2:=λx y H Q=>∃ p xs i v,x=.ref p/\y=.int i/\SqT K H p xs/\atI xs i=some v/\Q v H
theorem qrc:IxR X (quK X.K):=by
 intro value slice pins s σ H x y v u Q I rx ry h hs
 obtain ⟨p,xs,i,z,rfl,rfl,hq,he,q⟩:=h
 cases rx
 obtain ⟨t,rfl⟩:=ry
 obtain ⟨its,r,pl,hz⟩:=I.list hq
 obtain ⟨j,h1,h2,h3,h4,h5⟩:=qky he
 obtain ⟨w,ew,rw'⟩:=r.get h2
 have hl:=r.length
 have hn:=qh4
 have fin:EP X pins σ Q w s:=⟨z,H,I,rw',q⟩
 by_cases h0:0<=i
 ·have hj:i.toNat=j:=by
   rw [seqIndex_of h0 h5] at h1
   exact Option.some.inj h1
  exact item_listR pl.isList h0 ⋯ (by rw [hj];simpa using ew) fin hs
 ·have hj:(i+(its.toArray.size:Int)).toNat=j:=by
   rw [seqIndex_neg ⋯ h4] at h1
   rw [wal,<-hl]
   exact Option.some.inj h1
  exact subscriptTail_builtinR (x:=w) pl.isList.typeIs slot_list_getitem.lookup
   (wpAny_getItem_list_neg (Q:=λr s'=>r=w/\EP X pins σ Q r s') pl.isList ⋯ (by rw [wal] <;> omega) ⋯ (by rw [hj];simpa using ew) ⟨rfl,fin⟩) hs
theorem qsx:IxR X (quL X.K):=by
 intro value slice pins s σ H x y v u Q I rx ry h hs
 obtain ⟨p,xs,i,z,rfl,rfl,hq,he,q⟩:=h
 cases rx
 obtain ⟨t,rfl⟩:=ry
 obtain ⟨its,r,pl,hz⟩:=I.tuple hq
 obtain ⟨j,h1,h2,h3,h4,h5⟩:=qky he
 obtain ⟨w,ew,rw'⟩:=r.get h2
 have hl:=r.length
 have hn:=qh4
 have fin:EP X pins σ Q w s:=⟨z,H,I,rw',q⟩
 exact subscriptTail_builtinR (x:=w) pl.typeIs slot_tuple_getitem.lookup
  (getItem_tuple (j:=j) (Q:=λr s'=>r=w/\EP X pins σ Q r s') pl ⋯ ⋯ (by rw [wal,<-hl];exact h1) (by simpa using ew) ⟨rfl,fin⟩) hs
theorem qmh (its:List Value) (n j:Nat) (u:Value):Obj.mapSeq (·.setIfInBounds j u) { cls:=.type "list", data:=.seq its.toArray n }={ cls:=.type "list", data:=.seq (its.set j u).toArray n }:=by
 simp [Obj.mapSeq]
theorem Inv.lst {pins:List (Addr×Obj)} {σ:St} {H:Hp} {s:Shared} {p:Addr} {xs:List V} (I:Inv X pins σ H s) (h:H p=some (.lst xs)) :
  ∃ (its:List Value) (n:Nat),Vals xs its/\s.heap.get? p=some { cls:=.type "list", data:=.seq its.toArray n }/\xs.length<=sizeLine:=by
 obtain ⟨z,its,n,r,e⟩:=I.hok p _ h
 exact ⟨its,n,r,e,z⟩
theorem Inv.lstUpd {pins:List (Addr×Obj)} {σ:St} {H:Hp} {s:Shared} {p:Addr} {xs ys:List V} {its its':List Value} {n n':Nat} {f:Obj->Obj} (I:Inv X pins σ H s) (h:H p=some (.lst xs))
  (ho:s.heap.get? p=some { cls:=.type "list", data:=.seq its.toArray n }) (hf:f { cls:=.type "list", data:=.seq its.toArray n }={ cls:=.type "list", data:=.seq its'.toArray n' }) (r:Vals ys its') (hz:ys.length<=sizeLine) (t:Nat) :
  Inv X pins σ (upd H p (.lst ys)) { s with heap:=s.heap.update p f,toks:=t }:=by
 have e:(s.heap.update p f).get? p=some { cls:=.type "list", data:=.seq its'.toArray n' }:=by
  rw [Heap.get?_update_self f ho (by rw [hf] <;> rfl),hf]
 refine I.write (x:=p) (e:=p) (by rw [h];trivial) (.inl rfl) (λb u hb q=>(Heap.get?_update_other _ _ (Ne.symm hb)).trans q) ⟨_,e⟩ ?_
 exact ⟨hz,its',n',r,e⟩
noncomputable def qdP:V->V->V->Hp->(Hp->Prop)->Prop:=λo i v H Q=>∃ p xs k j,o=.ref p/\i=.int k/\H p=some (.lst xs)/\ixN xs.length k=some j/\Q (upd H p (.lst (xs.set j v)))
theorem qbo:PSet X qdP:=by
 intro pins s σ H o i v ov iv u Q I ro ri rv h
 obtain ⟨p,xs,k,j,rfl,rfl,hp,hj,q⟩:=h
 cases ro
 obtain ⟨t,rfl⟩:=ri
 obtain ⟨its,n,r,ho,hz⟩:=I.lst hp
 obtain ⟨h1,h2,h3,h4⟩:=qm9 hj
 have hl:=r.length
 have hn:=qh4
 have I':Inv X pins σ (upd H p (.lst (xs.set j v))) { s with heap:=s.heap.update p (Obj.mapSeq (·.setIfInBounds j u)) }:=
  I.lstUpd hp ho (qmh its n j u) (r.set rv j) (by rw [List.length_set];exact hz) s.toks
 by_cases h0:0<=k
 ·have hk:k.toNat=j:=by
   rw [seqIndex_of h0 h4] at h1
   exact Option.some.inj h1
  exact PySem.W.ki_setAt ho h0 ⋯ (by rw [wal,<-hl];exact h4) (by rw [hk];exact ⟨_,I',q⟩)
 ·have hk:(k+(its.toArray.size:Int)).toNat=j:=by
   rw [seqIndex_neg ⋯ h3] at h1
   rw [wal,<-hl]
   exact Option.some.inj h1
  exact PySem.W.ki_setBack ho ⋯ (by rw [wal,<-hl];exact h3) ⋯ (by rw [hk];exact ⟨_,I',q⟩)
theorem qju (lo hi:Option Int) (n:Nat):(sliceBounds lo hi none n).1=((HT.sIx n 0 lo:Nat):Int)/\(sliceBounds lo hi none n).2.1=((HT.sIx n n hi:Nat):Int)/\(sliceBounds lo hi none n).2.2=1:=by
 refine ⟨?_,?_,rfl⟩
 ·cases lo with
  | none=>simp [sliceBounds,HT.sIx]
  | some i=>
    simp only [sliceBounds,HT.sIx,Option.getD_none,show (1:Int) > 0 by decide,if_true]
    by_cases h:i<0
    ·simp only [h,if_true] <;> omega
    ·simp only [h,if_false] <;> omega
 ·cases hi with
  | none=>simp [sliceBounds,HT.sIx]
  | some i=>
    simp only [sliceBounds,HT.sIx,Option.getD_none,show (1:Int) > 0 by decide,if_true]
    by_cases h:i<0
    ·simp only [h,if_true] <;> omega
    ·simp only [h,if_false] <;> omega
theorem qix (its:List Value) (lo hi:Option Int):slicePick its.toArray lo hi none=((its.drop (HT.sIx its.length 0 lo)).take (HT.sIx its.length its.length hi - HT.sIx its.length 0 lo)).toArray:=by
 obtain ⟨h1,h2,h3⟩:=qju lo hi its.toArray.size
 unfold slicePick
 rw [h1,h2,h3]
 simp only [sliceRange_one,pick_run,wal] <;> rfl
noncomputable def quM (K:PySem.W.Frag):V->Option Int->Option Int->Hp->VK->Prop:=λx lo hi H Q=>∃ a xs,x=.ref a/\SqL K H a xs/\∀ p,H p=none->Q (.ref p) (upd H p (.lst (qiw xs lo hi)))
theorem qna:SlR X (quM X.K):=by
 intro pins s σ H x v vl vu lo hi sl Q I rx hs pl pu h
 obtain ⟨a,xs,rfl,hx,q⟩:=h
 cases rx
 obtain ⟨its,r,ht,hz⟩:=I.list hx
 have hlen:=r.length
 refine ⟨"list", _,slot_list_getitem.lookup,ht.isList.typeIs,?_⟩
 refine wpAny_getItem_list_slice ht.isList hs pl pu .none (by simp) ?_ (by rw [wal] <;> omega)
 rw [qix,<-hlen]
 refine ⟨.ref s.heap.objs.size,_,I.laid (t':=s.toks) (o:=.lst (qiw xs lo hi)) (λb ob q=>Heap.get?_push_of_some _ q) (wad _) ?_,rfl,q _ (I.hok.fresh (wad _))⟩
 exact ⟨wa3 (qkx xs lo hi) hz,_,0,(r.drop (HT.sIx xs.length 0 lo)).take (HT.sIx xs.length xs.length hi - HT.sIx xs.length 0 lo),Heap.get?_push_size _ rfl⟩
theorem qjv:qdN X (.builtin "len") (λxs H Q=>∃ p ys,xs=[.ref p]/\(SqL X.K H p ys\/SqT X.K H p ys)/\Q (.int ys.length) H):=by
 intro pins s σ H xs us Q I r h
 obtain ⟨p,ys,rfl,hq,q⟩:=h
 obtain ⟨u,rfl,rx⟩:=qfD r
 cases rx
 have hn:=qh4
 rcases hq with hq | hq
 ·obtain ⟨its,r',pl,hz⟩:=I.list hq
  have hlen:=r'.length
  exact Calls.call_len_list pl.isList (by simp only [wal] <;> omega) ⟨.int ys.length,H,I.tok _,⟨s.toks+1,by rw [wal,hlen]⟩,q⟩
 ·obtain ⟨its,r',pl,hz⟩:=I.tuple hq
  have hlen:=r'.length
  exact len_tuple pl (by simp only [wal] <;> omega) ⟨.int ys.length,H,I.tok _,⟨s.toks+1,by rw [wal,hlen]⟩,q⟩
theorem qjw:qdN X (.type "list") (λxs H Q=>∃ p ys,xs=[.ref p]/\(SqL X.K H p ys\/SqT X.K H p ys)/\∀ l,H l=none->Q (.ref l) (upd H l (.lst ys))):=by
 intro pins s σ H xs us Q I r h
 obtain ⟨p,ys,rfl,hq,q⟩:=h
 obtain ⟨u,rfl,rx⟩:=qfD r
 cases rx
 have fin:∀ (its:List Value),Vals ys its->ys.length<=sizeLine->∀ (h':Heap) (c':Nat),(∀ b o',s.heap.get? b=some o'->h'.get? b=some o')->
   h'.get? s.heap.objs.size=some { cls:=.type "list", dict:=none,data:=.seq its.toArray c',slots:=#[] }->EP X pins σ Q (.ref s.heap.objs.size) { s with heap:=h' }:=λits r' hz h' c' kp e=>
  ⟨.ref s.heap.objs.size,_,I.laid (t':=s.toks) kp (wad _) (show ObjOk X.prog X.w _ h' _ (.lst ys) from ⟨hz,its,c',r',e⟩),rfl,q _ (I.hok.fresh (wad _))⟩
 rcases hq with hq | hq
 ·obtain ⟨its,r',pl,hz⟩:=I.list hq
  have hlen:=r'.length
  obtain ⟨o,ho,hc,n,hd⟩:=pl.isList
  exact call_list_seq p (.inl rfl) ho hc hd (λh' c' kp e=>fin its r' hz h' c' kp e) (by simp only [wal] <;> omega)
 ·obtain ⟨its,r',pl,hz⟩:=I.tuple hq
  have hlen:=r'.length
  obtain ⟨o,ho,hc,n,hd⟩:=pl
  exact call_list_seq p (.inr rfl) ho hc hd (λh' c' kp e=>fin its r' hz h' c' kp e) (by simp only [wal] <;> omega)
theorem qiy:qdN X (.type "tuple") (λxs H Q=>∃ p ys,xs=[.ref p]/\((SqL X.K H p ys/\∀ l,H l=none->Q (.ref l) (upd H l (.tup ys)))\/(SqT X.K H p ys/\Q (.ref p) H))):=by
 intro pins s σ H xs us Q I r h
 obtain ⟨p,ys,rfl,h⟩:=h
 obtain ⟨u,rfl,rx⟩:=qfD r
 cases rx
 rcases h with ⟨hq,q⟩ | ⟨hq,q⟩
 ·obtain ⟨its,r',pl,hz⟩:=I.list hq
  have hlen:=r'.length
  refine call_tuple_list pl.isList (λh' kp=>?_) (by simp only [wal] <;> omega)
  have I1:Inv X pins σ H { s with heap:=h' }:=I.kept (t':=s.toks) kp
  have I2:Inv X pins σ (upd H h'.objs.size (.tup ys)) { s with heap:=h'.push { cls:=.type "tuple", data:=.seq its.toArray } }:=
   I1.laid (t':=s.toks) (λb o e=>Heap.get?_push_of_some _ e) (wad _) (show ObjOk X.prog X.w _ _ _ (.tup ys) from ⟨hz,its,r',IsTup.new _ _⟩)
  exact ⟨.ref h'.objs.size,_,I2,rfl,q _ (I1.hok.fresh (wad _))⟩
 ·obtain ⟨its,r',pl,hz⟩:=I.tuple hq
  exact call_tuple_same pl ⟨.ref p,H,I,rfl,q⟩
noncomputable def tyV (K:PySem.W.Frag) (T:String) (x:V) (H:Hp):Prop:=match x with
 | .str _=>T = "str"
 | .int _=>T = "int"
 | .ref p=>(T = "list" /\ ∃ xs,SqL K H p xs)\/(T = "tuple" /\ ∃ o,K.lookup p=some o/\o.cls=.type "tuple" /\ o.dict=none)\/
   (T = "dict" /\ ((∃ kvs,H p=some (.dK kvs))\/∃ kvs,H p=some (.dT kvs)))\/(T = "set" /\ ∃ S n,H p=some (.set S n))
 | _=>False
theorem qqs {pins:List (Addr×Obj)} {σ:St} {H:Hp} {s:Shared} {T:String} {x:V} {v:Value} (I:Inv X pins σ H s) (r:RelV x v) (ty:tyV X.K T x H) :
  s.TypeIs v T/\∀ a,v=.ref a->∃ ob,s.heap.get? a=some ob/\ob.dict=none:=by
 cases x with
 | str z=>
   obtain ⟨t,rfl⟩:=r
   cases (show T = "str" from ty)
   exact ⟨typeIs_str s z t,λ_ e=>nomatch e⟩
 | int i=>
   obtain ⟨t,rfl⟩:=r
   cases (show T = "int" from ty)
   exact ⟨typeIs_int s i t,λ_ e=>nomatch e⟩
 | ref p=>
   cases r
   rcases ty with ⟨rfl,xs,hq⟩ | ⟨rfl,o,hk,hc,hd⟩ | ⟨rfl,hk⟩ | ⟨rfl,S,n,hk⟩
   ·obtain ⟨its,_,pl,_⟩:=I.list hq
    refine ⟨pl.isList.typeIs,λa e=>?_⟩
    cases e
    obtain ⟨o,n,e,c,hd,_⟩:=pl
    exact ⟨o,e,hd⟩
   ·refine ⟨⟨o,I.kIn p o hk,hc⟩,λa e=>?_⟩
    cases e
    exact ⟨o,I.kIn _ o hk,hd⟩
   ·have z:∃ o,s.heap.get? p=some o/\o.ExactDict:=by
     rcases hk with ⟨kvs,hk⟩ | ⟨kvs,hk⟩
     ·obtain ⟨_,_,_,_,o,_,_,e,ex,_⟩:=I.hok p _ hk
      exact ⟨o,e,ex⟩
     ·obtain ⟨_,_,_,_,o,_,_,e,ex,_⟩:=I.hok p _ hk
      exact ⟨o,e,ex⟩
    obtain ⟨o,e,ex⟩:=z
    refine ⟨⟨o,e,ex.1⟩,λa e2=>?_⟩
    cases e2
    exact ⟨o,e,ex.2.1⟩
   ·obtain ⟨o,_,_,_,e,ex,_⟩:=I.hok p _ hk
    refine ⟨⟨o,e,ex.1⟩,λa e2=>?_⟩
    cases e2
    exact ⟨o,e,ex.2.1⟩
 | _=>exact False.elim ty
noncomputable def qsi (K:PySem.W.Frag) (T:String) (r:V->List V->Hp->VK->Prop) (to:TE):TE:=λσ H Q=>to σ H λx H1=>tyV K T x H1/\r x [] H1 Q
noncomputable def tBM (K:PySem.W.Frag) (T:String) (r:V->List V->Hp->VK->Prop) (to:TE) (t:TA):TE:=λσ H Q=>to σ H λx H1=>tyV K T x H1/\t σ H1 λxs H2=>r x xs H2 Q
variable {o e:Expr} {es:List Expr} {to:TE} {t:TA} {name:Str} {apos cpos:Pos} {T id:String} {r:V->List V->Hp->VK->Prop}
theorem qnb (pa:PlainAttrs T) (slot:Slot T name id) (hty:typeOf (.builtin id)=pure (.type "method_descriptor")) (hm:MtR X id r) (ho:PE X o to)
  (hbase:attributeBase o name X.env (eval o X.env)=eval o X.env:=by rfl) (hline:(apos.endLine == cpos.line)=true:=by rfl):PE X (.Call (.Attribute o name apos) [] [] cpos) (qsi X.K T r to):=by
 intro pins s σ H Q I h
 refine wpAny_Call_method0_late hbase hline (thn (ho pins s σ H _ I h) λv s1 ⟨x,H1,I1,r1,ty,q1⟩=>?_)
 obtain ⟨h1,h2⟩:=qqs I1 r1 ty
 exact ⟨T,id,pa,slot,hty,h1,h2,Calls.callWith_builtin rfl (PySem.evalArgs_none (hm pins s1 σ H1 x [] v [] Q I1 r1 .nil q1))⟩
theorem qmi (pa:PlainAttrs T) (slot:Slot T name id) (hty:typeOf (.builtin id)=pure (.type "method_descriptor")) (hm:MtR X id r) (ho:PE X o to) (ha:PA X (e::es) t)
  (hbase:attributeBase o name X.env (eval o X.env)=eval o X.env:=by rfl)
  (hfew:((backTo cpos (starEach (e::es) X.env)).all (λx=>!x.1) && (backToKw cpos (keywordEach [] X.env)).all (λx=>x.1.isSome)
   && decide ((e::es).length+([]:List Keyword).length+(if ([]:List Keyword).isEmpty then 0 else 1)<30))=true:=by rfl)
  (hline:(apos.endLine == cpos.line)=true:=by rfl) (hs:starEach (e::es) X.env=(false,eval e X.env)::starEach es X.env:=by rfl) (hplain:(backTo cpos (starEach es X.env)).any (·.1)=false:=by rfl) :
  PE X (.Call (.Attribute o name apos) (e::es) [] cpos) (tBM X.K T r to t):=by
 intro pins s σ H Q I h
 refine wpAny_Call_method_late hbase hfew hline rfl (thn (ho pins s σ H _ I h) λv s1 ⟨x,H1,I1,r1,ty,q1⟩=>?_)
 obtain ⟨h1,h2⟩:=qqs I1 r1 ty
 refine ⟨T,id,pa,slot,hty,h1,h2,?_⟩
 have hA:=ha cpos pins s1 σ H1 _ I1 q1
 rw [hs] at hA ⊢
 refine Calls.callWith_builtin (by show (false || (backTo cpos (starEach es X.env)).any (·.1))=false;rw [hplain] <;> rfl) (Calls.evalArgs_plain ?_)
 exact thn hA λus s2 ⟨vs,H2,I2,r2,q2⟩=>hm pins s2 σ H2 x vs v us Q I2 r1 r2 q2
end
end L2
namespace L2
open PySem PySem.Spec PyProof.Rows
noncomputable def MtM (X:Cx) (id:String) (r:V->List V->Hp->VK->Prop):Prop:=
 ∀ (pins:List (Addr×Obj)) (s:Shared) (σ:St) (H:Hp) (x:V) (xs:List V) (v:Value) (us:List Value) (Q:VK),Inv X pins σ H s->RelV x v->Vals xs us->r x xs H Q->
   wpAny (model X.prog X.w) X.A (call (.builtin id) (v::us)) (EP X pins σ Q) X.xe s
theorem Vals.zero {us:List Value} (h:Vals [] us):us=[]:=by cases h;rfl
theorem Vals.inv {x:V} {xs:List V} {us:List Value} (h:Vals (x::xs) us):∃ u t,us=u::t/\RelV x u/\Vals xs t:=by cases h with | cons r t=>exact ⟨_,_,rfl,r,t⟩
theorem Vals.one {x:V} {us:List Value} (h:Vals [x] us):∃ u,us=[u]/\RelV x u:=by obtain ⟨u,t,rfl,r,h⟩:=h.inv;exact ⟨u,by rw [h.zero],r⟩
theorem Vals.two {x y:V} {us:List Value} (h:Vals [x,y] us):∃ u v,us=[u,v]/\RelV x u/\RelV y v:=by obtain ⟨u,t,rfl,r,h⟩:=h.inv;obtain ⟨v,rfl,q⟩:=h.one;exact ⟨u,v,rfl,r,q⟩
theorem Vals.dropLast {xs:List V} {us:List Value} (h:Vals xs us):Vals xs.dropLast us.dropLast:=by
 induction h with
 | nil=>exact .nil
 | cons r t ih=>
   cases t with
   | nil=>exact .nil
   | cons q t'=>exact .cons r ih
theorem Vals.reverse {xs:List V} {us:List Value} (h:Vals xs us):Vals xs.reverse us.reverse:=by
 induction h with
 | nil=>exact .nil
 | cons r t ih=>rw [List.reverse_cons,List.reverse_cons];exact Vals.append ih (.cons r .nil)
theorem Vals.rep {xs:List V} {us:List Value} (h:Vals xs us):∀ k:Nat,Vals (List.replicate k xs).flatten (List.replicate k us).flatten
 | 0=>.nil
 | k+1=>by
   rw [List.replicate_succ,List.replicate_succ,List.flatten_cons,List.flatten_cons]
   exact Vals.append h (Vals.rep h k)
theorem qmj {α:Type} (l:List α):l.eraseIdx (l.length - 1)=l.dropLast:=by
 induction l with
 | nil=>rfl
 | cons a r ih=>
   cases r with
   | nil=>rfl
   | cons b r=>
     have e:(a::b::r).length - 1=((b::r).length - 1)+1:=by
      have h1:(a::b::r).length=r.length+2:=rfl
      have h2:(b::r).length=r.length+1:=rfl
      omega
     rw [e,List.eraseIdx_cons_succ,ih]
     all_goals rfl
theorem qjx (its:List Value):∀ (k:Nat) (acc:List Value),
  List.foldl (λx1 x2=>x1++x2) acc.toArray (List.replicate k its.toArray)=(acc++(List.replicate k its).flatten).toArray
 | 0,acc=>by simp
 | k+1,acc=>by
   have e:acc.toArray++its.toArray=(acc++its).toArray:=by simp
   have e2:(acc++its)++(List.replicate k its).flatten=acc++(List.replicate (k+1) its).flatten:=by
    rw [List.replicate_succ,List.flatten_cons,List.append_assoc]
   rw [<-e2,<-qjx its k (acc++its),<-e,List.replicate_succ,List.foldl_cons]
section
variable {X:Cx} {pins:List (Addr×Obj)} {σ:St} {H:Hp} {s:Shared} {l b:Addr} {xs ys zs:List V}
theorem Inv.lset {its its':List Value} {n:Nat} {f:Array Value->Array Value} {t':Nat} (I:Inv X pins σ H s) (hH:H l=some (.lst xs))
  (e:s.heap.get? l=some { cls:=.type "list", data:=.seq its.toArray n }) (hf:f its.toArray=its'.toArray) (hv:Vals ys its') (hz:ys.length<=sizeLine) :
  Inv X pins σ (upd H l (.lst ys)) { s with heap:=s.heap.update l (Obj.mapSeq f),toks:=t' }:=by
 have q:=PySem.IsL.update e f
 rw [hf] at q
 refine I.write (x:=l) (e:=l) (by rw [hH];exact trivial) (.inl rfl) (λb' u hb hu=>(Heap.get?_update_other s.heap (Obj.mapSeq f) (Ne.symm hb)).trans hu) ⟨_,q⟩ ?_
 exact ⟨hz,its',_,hv,q⟩
theorem Inv.lnew {its:List Value} {t':Nat} (I:Inv X pins σ H s) (hv:Vals ys its) (hz:ys.length<=sizeLine) :
  Inv X pins σ (upd H s.heap.objs.size (.lst ys)) { s with heap:=s.heap.push { cls:=.type "list", data:=.seq its.toArray },toks:=t' }:=
 I.laid (λ_ _ q=>Heap.get?_push_of_some _ q) (wad _) ⟨hz,its,0,hv,Heap.get?_push_size _ rfl⟩
theorem Inv.fresh (I:Inv X pins σ H s):H s.heap.objs.size=none:=I.hok.fresh (wad _)
theorem Inv.lstM (I:Inv X pins σ H s) (hH:H l=some (.lst xs)):xs.length<=sizeLine/\∃ (its:List Value) (n:Nat),Vals xs its/\xs.length=its.length/\s.heap.get? l=some { cls:=.type "list", data:=.seq its.toArray n }:=by
 obtain ⟨z,its,n,r,e⟩:=I.hok l _ hH
 exact ⟨z,its,n,r,r.length,e⟩
theorem qlr {n:Nat} (h:n<=sizeLine):Builtin.List.listTooLong n=false:=by
 unfold Builtin.List.listTooLong
 exact decide_eq_false ⋯
end
section
variable {X:Cx}
noncomputable def qeG:V->List V->Hp->VK->Prop:=λx vs H Q=>∃ l xs y,x=.ref l/\vs=[y]/\H l=some (.lst xs)/\xs.length<sizeLine/\Q .non (upd H l (.lst (xs++[y])))
theorem qeV:MtM X "list.append" qeG:=by
 intro pins s σ H x vs v us Q I rx rv h
 obtain ⟨l,xs,y,rfl,rfl,hH,hz,q⟩:=h
 cases rx
 obtain ⟨u,rfl,ru⟩:=rv.one
 obtain ⟨z,its,n,r,hl,e⟩:=I.lstM hH
 refine call_meets F.slot_list_append ⟨_,e,rfl⟩ F.entry_list_append (F.args_list_append_2 _ _) (PySem.list_append l its.toArray n u (by rw [wal];omega)) ⟨e,?_⟩
 refine ⟨.non,_,I.lset (its':=its++[u]) hH e (by simp) (r.append (.cons ru .nil)) ?_,rfl,q⟩
 rw [wa9,List.length_singleton]
 omega
noncomputable def qiz:V->List V->Hp->VK->Prop:=λx vs H Q=>∃ l b xs zs,x=.ref l/\vs=[.ref b]/\H l=some (.lst xs)/\H b=some (.lst zs)/\xs.length+zs.length<=sizeLine/\Q .non (upd H l (.lst (xs++zs)))
theorem qnc:MtM X "list.extend" qiz:=by
 intro pins s σ H x vs v us Q I rx rv h
 obtain ⟨l,b,xs,zs,rfl,rfl,hH,hB,hz,q⟩:=h
 cases rx
 obtain ⟨u,rfl,ru⟩:=rv.one
 cases ru
 obtain ⟨z,its,n,r,hl,e⟩:=I.lstM hH
 obtain ⟨z2,its2,n2,r2,hl2,e2⟩:=I.lstM hB
 have hsz:its.toArray.size+its2.toArray.size<=sizeLine:=by rw [wal,wal];omega
 have hlong:¬ (!its.toArray.isEmpty && Builtin.List.listTooLong (its.toArray.size+its2.toArray.size))=true:=by
  rw [qlr hsz,Bool.and_false]
  exact wbs
 refine call_meets F.slot_list_extend ⟨_,e,rfl⟩ F.entry_list_extend (F.args_list_extend_2 _ _)
  (AutoSeq1.list_extend_list_list_0 l its.toArray n b its2.toArray n2 hlong (by rw [wal];omega) ⋯) ⟨e,e2,?_⟩
 refine ⟨.non,_,I.lset (its':=its++its2) hH e (by simp) (r.append r2) ?_,rfl,q⟩
 rw [wa9]
 omega
noncomputable def qtD:V->List V->Hp->VK->Prop:=λx vs H Q=>∃ l xs y,x=.ref l/\vs=[]/\H l=some (.lst xs)/\xs[xs.length - 1]?=some y/\Q y (upd H l (.lst xs.dropLast))
theorem qsy:MtM X "list.pop" qtD:=by
 intro pins s σ H x vs v us Q I rx rv h
 obtain ⟨l,xs,y,rfl,rfl,hH,hy,q⟩:=h
 cases rx
 have hus:=rv.zero
 subst hus
 obtain ⟨z,its,n,r,hl,e⟩:=I.lstM hH
 obtain ⟨u,hu,ru⟩:=r.get hy
 have hy':its.toArray[its.toArray.size - 1]?=some u:=by
  show its.toArray[its.length - 1]?=some u
  rw [<-Array.getElem?_toList,<-hl]
  exact hu
 refine call_meets F.slot_list_pop ⟨_,e,rfl⟩ F.entry_list_pop (F.args_list_pop_1 _) (MeetsSeq.list_pop_last l its.toArray n u hy' (by rw [wal];omega)) ⟨e,?_⟩
 refine ⟨y,_,I.lset (its':=its.dropLast) hH e ?_ r.dropLast ?_,ru,q⟩
 ·show its.toArray.eraseIdxIfInBounds (its.toArray.size - 1)=its.dropLast.toArray
  rw [wal,List.eraseIdxIfInBounds_toArray,qmj]
 ·rw [List.length_dropLast]
  omega
noncomputable def qsj:R2:=λx y H Q=>∃ l b xs zs,x=.ref l/\y=.ref b/\H l=some (.lst xs)/\H b=some (.lst zs)/\xs.length+zs.length<=sizeLine/\∀ p,H p=none->Q (.ref p) (upd H p (.lst (xs++zs)))
theorem qnd:OpR X (binaryOp .Add) qsj:=by
 intro pins s σ H x y v u Q I rx ry h
 obtain ⟨l,b,xs,zs,rfl,rfl,hH,hB,hz,q⟩:=h
 cases rx
 cases ry
 obtain ⟨z,its,n,r,hl,e⟩:=I.lstM hH
 obtain ⟨z2,its2,n2,r2,hl2,e2⟩:=I.lstM hB
 refine PySem.P.add_list e e2 ?_ (by rw [wal,wal];omega)
 have ea:its.toArray++its2.toArray=(its++its2).toArray:=by simp
 rw [ea]
 exact ⟨.ref _,_,I.lnew (t':=s.toks) (r.append r2) (by rw [wa9];omega),rfl,q _ I.fresh⟩
noncomputable def qrd:R2:=λx y H Q=>∃ l k xs,x=.ref l/\y=.int k/\H l=some (.lst xs)/\-(2 ^ 63)<=k/\k<2 ^ 63/\xs.length*k.toNat<=sizeLine/\
 ∀ p,H p=none->Q (.ref p) (upd H p (.lst (List.replicate k.toNat xs).flatten))
theorem qre {α:Type} (xs:List α) (k:Nat):(List.replicate k xs).flatten.length=k*xs.length:=by
 induction k with
 | zero=>simp
 | succ k ih=>rw [List.replicate_succ,List.flatten_cons,wa9,ih,Nat.succ_mul,Nat.add_comm]
theorem qls:OpR X (binaryOp .Mult) qrd:=by
 intro pins s σ H x y v u Q I rx ry h
 obtain ⟨l,k,xs,rfl,rfl,hH,h1,h2,hz,q⟩:=h
 cases rx
 obtain ⟨t,rfl⟩:=ry
 obtain ⟨z,its,n,r,hl,e⟩:=I.lstM hH
 have hlen:its.toArray.size*k.toNat<=sizeLine:=by rw [wal,<-hl];exact hz
 have hcap:¬ its.toArray.size*k.toNat > (2 ^ 63 - 1) / 8:=by
  have:(sizeLine:Nat)<=(2 ^ 63 - 1) / 8:=by decide
  omega
 have hfit:¬ (!Builtin.List.listFitsIndex k)=true:=by
  rw [fitsIndex_both h1 h2]
  exact wbs
 have hlong:¬ Builtin.List.listTooLong (its.toArray.size*k.toNat)=true:=by
  rw [qlr hlen]
  exact wbs
 have hnew:List.foldl (λx1 x2=>x1++x2) #[] (List.replicate (if its.toArray.isEmpty=true then 0 else k.toNat) its.toArray)=(List.replicate k.toNat its).flatten.toArray:=by
  have f0:∀ m:Nat,List.foldl (λx1 x2=>x1++x2) #[] (List.replicate m its.toArray)=(List.replicate m its).flatten.toArray:=λm=>by
   have:=qjx its m []
   rw [List.nil_append] at this
   exact this
  rw [f0]
  cases its with
  | nil=>simp
  | cons a r'=>rw [if_neg (by simp)]
 refine wpAny_binaryOp_repeat_ref (T := "list") (U := "int") ∅ ⟨_,e,rfl⟩ (λs'=>typeIs_int s' k t) noFill_list_mul F.fills_int_mul F.slot_int_rmul repeat_list F.slot_int_index.lookup
  (call_meets F.slot_int_rmul (typeIs_int s k t) F.entry_int_rmul (F.args_int_rmul_2 _ _) (int___rmul___int_list k t l its.toArray n)
   ⟨e,rfl,⟨_,e,rfl⟩,call_meets F.slot_list_mul ⟨_,e,rfl⟩ F.entry_list_mul (F.args_list_mul_2 _ _) (AutoListH.list___mul___list_int_3 l its.toArray n k t hfit hcap hlong) ⟨e,?_⟩⟩)
 rw [hnew]
 exact ⟨.ref _,_,I.lnew (t':=s.toks) (r.rep k.toNat) (by rw [qre,wbl];exact hz),rfl,q _ I.fresh⟩
end
section
variable {prog:Program} {w:World} {A:Around} {E:Value->Shared->Prop} {s:Shared}
end
section
variable {X:Cx}
end
end L2
namespace Att
open PySem PySem.W PySem.Calls PyProof.Rows
theorem qgP {P:Params} {h:Heap}:∀ (ns:List Int) (vs:List Value),WellAll P h vs (ns.map WData.int)->IntsAre vs ns:=by
 intro ns
 induction ns with
 | nil=>
   intro vs w
   rw [List.map_nil] at w
   cases w
   exact .nil
 | cons n ns ih=>
   intro vs w
   rw [List.map_cons] at w
   cases w with
   | cons a b=>
     cases a
     exact .cons _ _ (ih _ b)
theorem qnf {l:OpenLaw} {n:Nat} (hn:l.most=some n) {P:Params} {h:Heap} {args:List WData} {vals:List Value}
  (hpre:l.row.toRowW.claim.pre args=true) (hwl:WellAll P h vals args) :
  ∃ a vs ns,vals=[Value.ref a]/\args=[WData.list (ns.map WData.int)]/\h.get? a=some { cls:=.type "list", data:=.seq vs.toArray }/\IntsAre vs ns/\ns.length<=n:=by
 have hsh:WShape.hasAll [] args [.list .int]=true:=(pre_splitW hpre).1
 have hc:l.pre.holds [] { args:=args }=true:=(pre_splitW hpre).2
 obtain ⟨d,r,rfl,h1,h2⟩:=hasAllW_cons hsh
 obtain rfl:=hasAllW_nil h2
 obtain ⟨xs,rfl,h3⟩:=hasW_list h1
 obtain ⟨ns,rfl⟩:=items_int h3
 have hlen:ns.length<=n:=by
  unfold OpenLaw.pre at hc
  have h4:(WTm.not (.lt (.lit (.int (n:Int))) (.len (.arg 0)))).holds [] { args:=[.list (ns.map .int)] }=true:=by
   have h4:=(holds_andW hc).1
   rw [hn] at h4
   exact h4
  have h5:=condW_of h4 (w_not (w_lt w_lit (w_len_list (w_arg rfl))))
  rw [waa] at h5
  refine Nat.le_of_not_lt λq=>?_
  have q':(n:Int)<((ns.length:Nat):Int):=by omega
  first
   | (rw [decide_eq_true q'] at h5;exact absurd h5 ∅)
   | (simp at h5;omega)
 cases hwl with
 | cons w1 w2=>
   cases w2
   cases w1 with
   | list ho hall=>exact ⟨_,_,ns,rfl,rfl,ho,qgP ns _ hall,hlen⟩
theorem qng (l:OpenLaw) (args:List WData):l.row.toRowW.claim.post args (.bool true) args=true:=
 postW_of (r:=l.row.toRowW) (X:=(true == true))
  (show WShape.has [] (.bool true) .bool=true by first | rfl | decide | simp [WShape.has,WShape.arms,WShape.armsAll])
  (show (WTm.eq .res (.lit (.bool true))).value [] { args:=args,res:=some (.bool true),after:=args }=some (.bool (true == true)) from w_eq_bool (w_res rfl) w_lit) rfl
theorem attach_call {l:OpenLaw} {n:Nat} {q:Program} {loose:List Str} {XP:(Str->Option Value)->Heap->Prop} {YP:World->Heap->Prop} {d:DefRec}
  (hn:l.most=some n) (hdf:d.params.defaults=[])
  (call:∀ (w:World) (s₀ s₁:Shared) (mg mb:Str->Option Value) (fa:Addr) (o:Obj) (pm cd doc:Value) (a:Addr) (vs:List Value) (ns:List Int),
   Ground q loose [] XP w s₀ mg mb s₁.heap->YP w s₁.heap->
   s₁.heap.get? fa=some o->o.data=.func (docDef d.name d.params d.body d.scope pm cd doc)->s₁.heap.CodeRec cd d.name->mg d.name=some (.ref fa)->
   s₁.heap.get? a=some { cls:=.type "list", data:=.seq vs.toArray }->IntsAre vs ns->ns.length<=n->s₁.gens=#[]->
   codeAny (model l.prog w) callerA (.call (.ref fa) ⟨[.ref a],[]⟩) (λr s'=>r=.ok (.ret (.bool true))/\OldK s₁.heap s'.heap/\s'.os=s₁.os/\AllBare s'.gens) s₁) :
  WalkO q loose XP YP l.row.toRowW d [] (λf vs=>PySem.call f vs):=by
 intro w s₀ s₁ mg mb G Y fa o pm cd doc dV kV ho hd hcd hD hmg hg args vals as hpre hlay hrd hwl hlo
 obtain rfl:dV=.none:=Dflts.none hD hdf
 obtain rfl:kV=.none:=Dflts.noKw hD
 obtain ⟨a,vs,ns,rfl,rfl,hobj,hints,hlen⟩:=qnf hn hpre hwl
 refine enter_call (codeAny_mono (call w s₀ s₁ mg mb fa o pm cd doc a vs ns G Y ho (fd_plain hd) hcd hmg hobj hints hlen hg) λr s' hq=>?_)
 obtain ⟨rfl,h2,h3,h4⟩:=hq
 exact ⟨.inl ⟨.bool true,.bool true,[],rfl,λ_=>rfl,.bool true,qng l _,λ_=>⟨List.Pairwise.nil,λ_ hm=>(nomatch hm)⟩⟩,h2,h3,h4⟩
section
variable {prog:Program} {w:World} {A:Around} {E:Value->Shared->Prop} {s:Shared} {K:Frag}
end
end Att
namespace L2
open PySem PySem.Spec PyProof.Rows
theorem qjy:∀ {vs:List Value} {ns:List Int},IntsAre vs ns->Vals (ns.map V.int) vs
 | _,_,.nil=>.nil
 | _,_,.cons n t h=>.cons ⟨t,rfl⟩ (qjy h)
noncomputable def Only (H:Hp):Prop:=∀ b,H b=none\/∃ o xs,H b=some (.frz o (.lst xs))
theorem qpr {P:Program} {w:World} {K:PySem.W.Frag} {mg mb:Str->Option Value} {CX:CXT} {k:Nat} {fa a:Addr} {fd:FuncData} {x:Str} {sp:Sp} {s₁:Shared} {vs:List Value} {ns:List Int}
  (KX:K.In s₁.heap) (hns:s₁.heap.Ns mainGlobals mg) (hb:s₁.heap.Ns builtinsNs mb) (hbb:∀ x:Str,x ≠ "__name__" -> mb x=bootBuiltins x) (hlim:s₁.heap.NoLimit) (hseer:s₁.heap.NoSeer) (htree:(model P w).prog.given.tree=none) (hg:s₁.gens=#[])
  (ha:s₁.heap.get? a=some { cls:=.type "list", data:=.seq vs.toArray }) (hi:IntsAre vs ns) (hl:ns.length<=sizeLine) (hr:Room k callerA)
  (F:∀ base:Heap,K.In base->base.Ns mainGlobals mg->FnOk P w K mg base CX k fa fd [x] sp) (hbind:∀ (s:Shared) (u:Value),BindsTo s fd ⟨[u],[]⟩ [(x,u)])
  (hsp:∀ H:Hp,Only H->SqL K H a (ns.map V.int)->sp [.ref a] H (λv _=>v=.bl true) λ_ _ _=>False)
  (hCX:∀ H e s',CX [] H s₁ (λ_ _ _=>False) e s'->False) :
  codeAny (model P w) callerA (.call (.ref fa) ⟨[.ref a],[]⟩) (λr s'=>r=.ok (.ret (.bool true))/\OldK s₁.heap s'.heap/\s'.os=s₁.os/\AllBare s'.gens) s₁:=by
 have rv:=qjy hi
 have lenV:=hi.length
 have core:∀ H:Hp,Only H->SqL K H a (ns.map V.int)->HOk P w H s₁.heap->(∀ b,H b≠none->b=a)->(H a≠none->K.lookup a=none)->
   codeAny (model P w) callerA (.call (.ref fa) ⟨[.ref a],[]⟩) (λr s'=>r=.ok (.ret (.bool true))/\OldK s₁.heap s'.heap/\s'.os=s₁.os/\AllBare s'.gens) s₁:=by
  intro H hO hS hok hA hK
  have base_of:∀ {b:Addr} {o:Obj},s₁.heap.get? b=some o->H b=none->(qpk s₁.heap H).get? b=some o:=λe n=>qpm e n
  have noA:∀ {b:Addr} {o:Obj} {es:Array DictEntry} {ep:Nat},s₁.heap.get? b=some o->o.data=.dict es ep->H b=none:=λ{b o es ep} e d=>by
   cases q:H b with
   | none=>rfl
   | some u=>
     have e':b=a:=hA b (by rw [q];simp)
     subst e'
     rw [ha] at e;cases e
     have d':Data.seq vs.toArray _=Data.dict es ep:=d
     cases d'
  have nsK:∀ {b:Addr} {m:Str->Option Value},s₁.heap.Ns b m->(qpk s₁.heap H).Ns b m:=λ{b m} ⟨o,es,ep,e,d,r⟩=>⟨o,es,ep,base_of e (noA e d),d,r⟩
  have hKb:K.In (qpk s₁.heap H):=λb o e=>base_of (KX b o e) (by
   cases q:H b with
   | none=>rfl
   | some u=>
     have e':b=a:=hA b (by rw [q];simp)
     subst e'
     rw [hK (by rw [q];simp)] at e;cases e)
  have hM:Mod K mg (qpk s₁.heap H):=⟨hKb,nsK hns,⟨mb,nsK hb,hbb⟩,let ⟨mc,h1,h2⟩:=hlim;⟨mc,nsK h1,h2⟩⟩
  have hSe:(qpk s₁.heap H).NoSeer:=⟨let ⟨mc,a,b⟩:=hseer.statics;⟨mc,nsK a,b⟩,let ⟨mc,a,b⟩:=hseer.mods;⟨mc,nsK a,b⟩,let ⟨mc,a,b⟩:=hseer.imp;⟨mc,nsK a,b⟩,
   let ⟨mg',bm,ob,a',b',c',d',e'⟩:=hseer.main;⟨mg',bm,ob,nsK a',b',base_of c' (by
    cases q:H bm with
    | none=>rfl
    | some u=>
      have z:bm=a:=hA bm (by rw [q];simp)
      subst z
      rw [ha] at c';cases c'
      simp at d'),d',e'⟩⟩
  have e0:Env0 P w K mg (qpk s₁.heap H) callerA [] s₁ H:=⟨rfl,hM,λb o e=>qq4 e,Nat.le_of_eq (qmQ _ _),trivial,λb hb=>absurd (show b∈([]:List Addr) from hb) (by simp),hok,.of_eq hg,hSe,htree⟩
  refine codeAny_mono ((F _ hKb (nsK hns)).run callerA [] s₁ H ⟨[.ref a],[]⟩ [.ref a] [.ref a] _ _ hr e0 (hbind s₁ (.ref a)) (.cons rfl .nil) (hsp H hO hS)) λr s' h=>?_
  cases r with
  | error e=>exact (hCX H e s' h).elim
  | ok fl=>
    cases fl with
    | next=>exact False.elim h
    | brk=>exact False.elim h
    | cont=>exact False.elim h
    | ret u=>
      obtain ⟨v,H',os,bare,un,hok',r',q⟩:=h
      have q':v=.bl true:=q
      subst q'
      obtain rfl:u=Value.bool true:=r'
      refine ⟨rfl,OldK.of_keep λb o e=>?_,os,bare⟩
      cases q:H b with
      | none=>exact un.keep b o e q (by intro z;exact absurd (show b∈([]:List Addr) from z) (by simp)) (by simp)
      | some u=>
        rcases hO b with z | ⟨ob,xs,z⟩
        ·rw [q] at z;cases z
        ·have z2:=un.frzs b ob _ z
         obtain ⟨e1,_⟩:=hok b _ z
         obtain ⟨e2,_⟩:=hok' b _ z2
         rw [e] at e1;cases e1
         exact e2
 cases hk:K.lookup a with
 | some o=>
   have e:=KX a o hk
   rw [ha] at e
   cases e
   refine core (λ_=>none) (λ_=>.inl rfl) (.inr ⟨_,vs.toArray,_,hk,rfl,rfl,rfl,by rw [wal,lenV];exact hl,by simpa using rv⟩) (λb u z=>by have z':(none:Option HO)=some u:=z;cases z') (λb z=>absurd rfl z) λz=>absurd rfl z
 | none=>
   refine core (λb=>if b=a then some (.frz { cls:=.type "list", data:=.seq vs.toArray } (.lst (ns.map V.int))) else none) (λb=>?_) (.inl (.inr ⟨{ cls:=.type "list", data:=.seq vs.toArray },if_pos rfl⟩)) (λb u z=>?_) (λb z=>?_) λ_=>hk
   ·by_cases hb:b=a
    ·exact .inr ⟨_,_,if_pos hb⟩
    ·exact .inl (if_neg hb)
   ·by_cases hb:b=a
    ·have z':=(if_pos hb).symm.trans z
     cases z'
     subst hb
     exact ⟨ha,by rw [waa];exact hl,vs,_,rv,ha⟩
    ·have z':=(if_neg hb).symm.trans z
     cases z'
   ·by_cases hb:b=a
    ·exact hb
    ·exact absurd (if_neg hb) z
end L2
namespace L2
open PySem PySem.Spec PyProof.Rows
theorem walk_of {l:PySem.W.OpenLaw} {n k:Nat} {q:Program} {loose:List Str} {XP:(Str->Option Value)->Heap->Prop} {YP:World->Heap->Prop} {d:DefRec} {K:Params->PySem.W.Frag} {CX:World->CXT} {sp:World->Sp} {x:Str}
  (hn:l.most=some n) (hn2:n<=sizeLine) (hdf:d.params.defaults=[]) (hq:importsNone q=true) (htree:∀ w,(model l.prog w).prog.given.tree=none) (hr:Room k callerA)
  (hY:∀ (w:World) (h:Heap),YP w h->(K w.params).In h)
  (F:∀ (w:World) (mg:Str->Option Value) (fa:Addr) (h:Heap),(K w.params).In h->h.Ns mainGlobals mg->mg d.name=some (.ref fa)->
   ∃ fd:FuncData,(∀ (s:Shared) (u:Value),BindsTo s fd ⟨[u],[]⟩ [(x,u)])/\
     ∀ base:Heap,(K w.params).In base->base.Ns mainGlobals mg->FnOk l.prog w (K w.params) mg base (CX w) k fa fd [x] (sp w))
  (hsp:∀ (w:World) (H:Hp) (a:Addr) (ns:List Int),ns.length<=n->Only H->SqL (K w.params) H a (ns.map V.int)->sp w [.ref a] H (λv _=>v=.bl true) λ_ _ _=>False)
  (hCX:∀ (w:World) (H:Hp) (s:Shared) (e:Value) (s':Shared),CX w [] H s (λ_ _ _=>False) e s'->False) :
  PySem.W.WalkO q loose XP YP l.row.toRowW d [] (λf vs=>PySem.call f vs):=by
 refine Att.attach_call hn hdf λw s₀ s₁ mg mb fa o pm cd doc a vs ns G Y ho hd hcd hmg hobj hints hlen hg=>?_
 have KX:=hY w _ Y
 obtain ⟨fd,hb,hF⟩:=F w mg fa _ KX G.T.g hmg
 exact qpr KX G.T.g G.T.b G.T.builtins G.T.nolimit (G.T.seer hq) (htree w) hg hobj hints (wa3 hlen hn2) hr hF hb (λH hO hS=>hsp w H a ns hlen hO hS) λH e s'=>hCX w H s₁ e s'
end L2
namespace L2
open PySem PySem.Spec PyProof.Rows
noncomputable def qc3 (s:Stmt):Arguments:=match s with
 | .FunctionDef _ a _ _ _ _ _ _ _ _=>a
 | _=>{ posonlyargs:=[],args:=[],vararg:=none,kwonlyargs:=[],kw_defaults:=[],kwarg:=none,defaults:=[] }
noncomputable def qcg (s:Stmt):List Stmt:=match s with
 | .FunctionDef _ _ b _ _ _ _ _ _ _=>b
 | _=>[]
noncomputable def qa1 (s:Stmt):Scope:=match s with
 | .FunctionDef _ _ _ _ _ _ sc _ _ _=>sc
 | _=>{ kind:=.function,names:=[],isGenerator:=false,isCoroutine:=false }
noncomputable abbrev CX0:CXT:=λ_ _ _ _ _ _=>False
noncomputable abbrev E0:XK:=λ_ _ _=>False
theorem qtQ {X:Cx}:Passes CX0 X E0:=λ_ _ _ _ _ _ _ h=>h.elim
structure Fun (K:PySem.W.Frag) (x qual:Str) (st:Stmt) (f:Addr) (fd:FuncData):Prop where
 ex:∃ (oc:Value) (od:Option Addr) (kV doc pm:Value) (an:Option Addr) (cdv ct:Value) (osl:Array (Option Value)),
  fd=PySem.W.fnOf x qual (qc3 st) (qcg st) (qa1 st) .none kV doc pm an cdv ct/\K.lookup f=some ⟨oc,od,.func fd,osl⟩/\PySem.W.codeIn K cdv qual=true
 kp:PySem.W.keepIn K (.ref f)=true
section
variable {P:Program} {w:World} {K:PySem.W.Frag} {mg:Str->Option Value} {base:Heap}
theorem Fun.ok {x qual:Str} {st:Stmt} {f:Addr} {fd:FuncData} {N ps:List Str} {k:Nat} {sp:Sp} (F:Fun K x qual st f fd) (S:FnScope N ps (qa1 st)) (len:∀ vs H Q E,sp vs H Q E->vs.length=ps.length)
  (hbody:∀ (cdv:Value) (A:Around) (outer:List Env) (s:Shared) (H:Hp) (vs:List V) (Q:VK) (E:XK),Room k (A.deeper (envOfC qual (qa1 st) s.heap.objs.size f cdv))->sp vs H Q E->
   ∃ t,PSs (qra CX0 P w K mg base N qual (qa1 st) f cdv A outer s H E).nox (qcg st) t/\t { nx:=λ_ H'=>Q .non H',rt:=Q } (start N vs) H):FnOk P w K mg base CX0 (k+1) f fd ps sp:=by
 obtain ⟨oc,od,kV,doc,pm,an,cdv,ct,osl,rfl,lk,hcd⟩:=F.ex
 refine qtP lk hcd S len λA outer s H vs Q E hr hsp=>?_
 obtain ⟨t,h,q⟩:=hbody cdv A outer s H vs Q E hr hsp
 exact ⟨t,h.nox,q⟩
theorem Fun.binds {x qual:Str} {st:Stmt} {f:Addr} {fd:FuncData} {ps:List Str} (F:Fun K x qual st f fd)
  (h:∀ (kV doc pm:Value) (an:Option Addr) (cdv ct:Value) (us:List Value),us.length=ps.length->bindArgs (PySem.W.fnOf x qual (qc3 st) (qcg st) (qa1 st) .none kV doc pm an cdv ct) ⟨us,[]⟩=pure (ps.zip us)):Binds K fd ps []:=by
 obtain ⟨oc,od,kV,doc,pm,an,cdv,ct,osl,rfl,lk,hcd⟩:=F.ex
 exact .all (h kV doc pm an cdv ct)
theorem qsz {x qual:Str} {st:Stmt} {f:Addr} {oc:Value} {od an:Option Addr} {osl:Array (Option Value)} {kV doc pm cdv ct:Value} (l:K.lookup f=some ⟨oc,od,.func (PySem.W.fnOf x qual (qc3 st) (qcg st) (qa1 st) .none kV doc pm an cdv ct),osl⟩)
  (c:PySem.W.codeIn K cdv qual=true) (k:PySem.W.keepIn K (.ref f)=true):Fun K x qual st f (PySem.W.fnOf x qual (qc3 st) (qcg st) (qa1 st) .none kV doc pm an cdv ct):=⟨⟨oc,od,kV,doc,pm,an,cdv,ct,osl,rfl,l,c⟩,k⟩
end
section
variable {X:Cx}
theorem pv (i:Nat) {x:Str} {pos:Pos} (hN:X.N[i]?=some x:=by rfl) (hv:Vis X.env.scope x:=by first | exact Or.inl rfl | exact Or.inr (Or.inl rfl) | exact Or.inr (Or.inr rfl)) (hd:(x == ("__debug__" : Str))=false:=by decide)
  (hcd:(x == ("__classdict__" : Str))=false:=by decide):PE X (.Name x pos) (qaf i):=qsq hN hv hd hcd
end
theorem qbr {c A B:Prop} [Decidable c] (h1:c->A) (h2:¬ c->B):if c then A else B:=by
 by_cases h:c
 ·rw [if_pos h]
  exact h1 h
 ·rw [if_neg h]
  exact h2 h
noncomputable def Same (H H':Hp):Prop:=∀ b o,H b=some o->H' b=some o
theorem Same.refl (H:Hp):Same H H:=λ_ _ h=>h
theorem Same.trans {H H1 H2:Hp} (a:Same H H1) (b:Same H1 H2):Same H H2:=λc o h=>b c o (a c o h)
theorem Same.seq {K:PySem.W.Frag} {H H':Hp} {a:Addr} {xs:List V} (e:Same H H') (h:SqL K H a xs):SqL K H' a xs:=by
 rcases h with (h | ⟨o,h⟩) | h
 ·exact .inl (.inl (e _ _ h))
 ·exact .inl (.inr ⟨o,e _ _ h⟩)
 ·exact .inr h
end L2
local macro_rules | `(tactic| omega)=>`(tactic| lia)
namespace Bs.Hd
open PySem PySem.Spec PyProof.Rows L2
set_option maxRecDepth 100000
set_option maxHeartbeats 4000000
noncomputable def top (i:Nat):Stmt:=PySem.Challenge.pw_backslope_k14_counts_agree.main.body.getD i (.Pass ⟨0,0,0,0⟩)
noncomputable abbrev qgk:Stmt:=top 2
noncomputable abbrev qps:Stmt:=top 3
noncomputable abbrev qnh:Stmt:=top 4
noncomputable abbrev qiA:Stmt:=top 5
noncomputable abbrev qjz:Stmt:=top 6
noncomputable abbrev qkz:Stmt:=top 7
noncomputable abbrev qmk:Stmt:=top 8
noncomputable abbrev qgQ:Stmt:=top 9
noncomputable abbrev qml:Stmt:=top 10
noncomputable abbrev qkA:Stmt:=top 11
noncomputable abbrev qiB:Stmt:=top 12
noncomputable abbrev qeW:Stmt:=top 13
noncomputable abbrev qgR:Stmt:=top 14
noncomputable abbrev qgS:Stmt:=top 15
noncomputable abbrev qgl:Stmt:=top 16
noncomputable abbrev qhE:Stmt:=top 17
noncomputable abbrev qjA:Stmt:=top 18
noncomputable abbrev qhF:Stmt:=top 19
noncomputable abbrev qhG:Stmt:=top 20
noncomputable abbrev qiC:Stmt:=top 21
noncomputable abbrev qgT:Stmt:=top 22
noncomputable abbrev qni:Stmt:=top 23
noncomputable abbrev qfF:Stmt:=top 24
noncomputable abbrev qjB:Stmt:=top 25
noncomputable abbrev qjC:Stmt:=top 26
noncomputable abbrev qrf:Stmt:=top 28
noncomputable abbrev qpt:Stmt:=top 29
noncomputable abbrev qnj:Stmt:=top 31
noncomputable abbrev qsA:Stmt:=top 32
noncomputable abbrev qgU:Stmt:=top 34
noncomputable abbrev qkB:Stmt:=top 35
noncomputable abbrev qhH:Stmt:=top 36
noncomputable abbrev qpu:Stmt:=top 37
noncomputable abbrev qhI:Stmt:=top 38
noncomputable abbrev qpv:Stmt:=top 40
noncomputable abbrev qpw:Stmt:=top 41
noncomputable abbrev qmm:Stmt:=top 42
noncomputable abbrev qiD:Stmt:=top 43
noncomputable abbrev qkC:Stmt:=top 44
noncomputable abbrev qnk:Stmt:=top 45
noncomputable abbrev qnl:Stmt:=top 46
noncomputable abbrev qkD:Stmt:=top 47
noncomputable abbrev qmn:Stmt:=top 48
noncomputable abbrev qnm:Stmt:=top 49
noncomputable abbrev qmo:Stmt:=top 50
noncomputable abbrev qnn:Stmt:=top 51
noncomputable abbrev N:Value:=.none
noncomputable abbrev S (x:Str) (t:Tok):Value:=.str x t
noncomputable abbrev I (i:Int):Value:=.int i 0
noncomputable abbrev R (a:Addr):Value:=.ref a
noncomputable def en (P:Params) (k:Str) (t:Tok) (v:Value):DictEntry:=⟨PyData.keyHash P k,.str k t,v⟩
noncomputable def cdO (n:Str) (t:Tok) (l c u:Int) (a:Addr) (b g d e f:Value) (x:Int) (y:Tok):Obj:=⟨.type "code", none,.fields #[S n t,S n (t+1),S "/claim/cut.py" (t+2),I l,I c,I 0,I 0,I u,R a,.bool true,I 181,b,g,d,e,f,I x,I l,S "/claim/cut.py" y],#[]⟩
noncomputable def fnO (n:Str) (s:Stmt) (pm:Value) (c:Addr):Obj:=⟨.type "function", none,.func (PySem.W.fnOf n n (qc3 s) (qcg s) (qa1 s) .none .none .none pm none (.ref c) .none),#[]⟩
noncomputable abbrev mo0:Value:=S "backslope.wholes" 187
noncomputable abbrev mo1:Value:=S "backslope.numbers" 413
noncomputable abbrev mo2:Value:=S "backslope.polys" 432
noncomputable abbrev mo3:Value:=S "backslope.places" 452
noncomputable abbrev mo4:Value:=S "law_backslope_k14_counts_agree" 512
noncomputable def hp (P:Params):W.Frag:=[
 (3,⟨.type "dict", none,.dict #[en P "__name__" 165 (S "law_backslope_k14_counts_agree" 512),en P "__doc__" 166 N,en P "__package__" 167 N,en P "__loader__" 168 (.builtin "__main__.__loader__#opaque"),en P "__spec__" 169 N,en P "__annotations__" 170 (R 6),en P "__builtins__" 171 (R 4),en P "__file__" 173 (S "/claim/cut.py" 172),en P "__cached__" 174 N,en P "EXPONENTS" 197 (R 15),en P "common_divisor" 206 (R 22),en P "raised" 216 (R 29),en P "content" 222 (R 34),en P "row_trimmed" 230 (R 41),en P "row_parted" 236 (R 46),en P "row_slope" 242 (R 51),en P "row_over" 256 (R 58),en P "root_exponent" 266 (R 65),en P "row_less" 272 (R 70),en P "row_moved" 283 (R 77),en P "strand_rest" 289 (R 82),en P "strand_shortened" 295 (R 87),en P "row_shortened" 302 (R 94),en P "strand_euclid" 311 (R 101),en P "inverse_modulo" 325 (R 108),en P "rests_modulo" 331 (R 113),en P "row_modulo" 339 (R 120),en P "monic_modulo" 345 (R 125),en P "split_modulo" 360 (R 132),en P "rest_modulo" 369 (R 139),en P "euclid_modulo" 379 (R 146),en P "nearest" 388 (R 153),en P "common_by_prime" 394 (R 158),en P "row_common" 406 (R 165),en P "simple_row" 412 (R 170),en P "ratio" 423 (R 177),en P "before" 431 (R 184),en P "cleared" 439 (R 189),en P "p_at" 451 (R 196),en P "count_between" 469 (R 203),en P "stretched" 482 (R 210),en P "count_within" 495 (R 217),en P "halved" 501 (R 222),en P "sign_changes" 511 (R 229),en P "_law_hand" 521 (R 236),en P "_law_draw" 533 (R 243),en P "_law_lowest" 543 (R 250),en P "_law_row_times" 556 (R 257),en P "_law_poly_of" 562 (R 262),en P "_law_worth" 573 (R 269),en P "_law_scale" 580 (R 276),en P "_law_any_row" 591 (R 283),en P "_law_rising" 601 (R 290),en P "_law_later" 611 (R 297),en P "_law_counts" 617 (R 302),en P "law" 623 (R 307)] 56,#[]⟩),
 (15,⟨.type "tuple", none,.seq #[(.int 61 189),(.int 127 190),(.int 521 191),(.int 1279 192),(.int 4423 193),(.int 9941 194),(.int 21701 195),(.int 44497 196)] 0,#[]⟩),
 (21,cdO "common_divisor" 198 3 2 3 16 (R 17) N (R 18) (R 19) (R 20) 204 205),
 (22,fnO "common_divisor" (top 2) mo0 21),
 (28,cdO "raised" 207 9 2 3 23 (R 24) N (R 25) (R 26) (R 27) 214 215),
 (29,fnO "raised" (top 3) mo0 28),
 (33,cdO "content" 217 19 2 3 30 (R 31) N N N (R 32) 220 221),
 (34,fnO "content" (top 4) mo0 33),
 (40,cdO "row_trimmed" 223 26 1 3 35 (R 36) N (R 37) (R 38) (R 39) 228 229),
 (41,fnO "row_trimmed" (top 5) mo0 40),
 (45,cdO "row_parted" 231 31 2 3 42 (R 43) N N N (R 44) 234 235),
 (46,fnO "row_parted" (top 6) mo0 45),
 (50,cdO "row_slope" 237 33 1 3 47 (R 48) N N N (R 49) 240 241),
 (51,fnO "row_slope" (top 7) mo0 50),
 (57,cdO "row_over" 243 35 2 3 52 (R 53) N (R 54) (R 55) (R 56) 254 255),
 (58,fnO "row_over" (top 8) mo0 57),
 (64,cdO "root_exponent" 257 48 1 3 59 (R 60) N (R 61) (R 62) (R 63) 264 265),
 (65,fnO "root_exponent" (top 9) mo0 64),
 (69,cdO "row_less" 267 55 5 3 66 (R 67) N N N (R 68) 270 271),
 (70,fnO "row_less" (top 10) mo0 69),
 (76,cdO "row_moved" 273 61 2 3 71 (R 72) N (R 73) (R 74) (R 75) 281 282),
 (77,fnO "row_moved" (top 11) mo0 76),
 (81,cdO "strand_rest" 284 67 2 3 78 (R 79) N N N (R 80) 287 288),
 (82,fnO "strand_rest" (top 12) mo0 81),
 (86,cdO "strand_shortened" 290 77 1 3 83 (R 84) N N N (R 85) 293 294),
 (87,fnO "strand_shortened" (top 13) mo0 86),
 (93,cdO "row_shortened" 296 82 1 3 88 (R 89) N (R 90) (R 91) (R 92) 300 301),
 (94,fnO "row_shortened" (top 14) mo0 93),
 (100,cdO "strand_euclid" 303 84 2 3 95 (R 96) N (R 97) (R 98) (R 99) 309 310),
 (101,fnO "strand_euclid" (top 15) mo0 100),
 (107,cdO "inverse_modulo" 312 92 2 3 102 (R 103) N (R 104) (R 105) (R 106) 323 324),
 (108,fnO "inverse_modulo" (top 16) mo0 107),
 (112,cdO "rests_modulo" 326 106 2 3 109 (R 110) N N N (R 111) 329 330),
 (113,fnO "rests_modulo" (top 17) mo0 112),
 (119,cdO "row_modulo" 332 108 2 3 114 (R 115) N (R 116) (R 117) (R 118) 337 338),
 (120,fnO "row_modulo" (top 18) mo0 119),
 (124,cdO "monic_modulo" 340 110 2 3 121 (R 122) N N N (R 123) 343 344),
 (125,fnO "monic_modulo" (top 19) mo0 124),
 (131,cdO "split_modulo" 346 115 3 3 126 (R 127) N (R 128) (R 129) (R 130) 358 359),
 (132,fnO "split_modulo" (top 20) mo0 131),
 (138,cdO "rest_modulo" 361 126 3 3 133 (R 134) N (R 135) (R 136) (R 137) 367 368),
 (139,fnO "rest_modulo" (top 21) mo0 138),
 (145,cdO "euclid_modulo" 370 128 3 3 140 (R 141) N (R 142) (R 143) (R 144) 377 378),
 (146,fnO "euclid_modulo" (top 22) mo0 145),
 (152,cdO "nearest" 380 136 2 3 147 (R 148) N (R 149) (R 150) (R 151) 386 387),
 (153,fnO "nearest" (top 23) mo0 152),
 (157,cdO "common_by_prime" 389 139 3 3 154 (R 155) N N N (R 156) 392 393),
 (158,fnO "common_by_prime" (top 24) mo0 157),
 (164,cdO "row_common" 395 148 2 3 159 (R 160) N (R 161) (R 162) (R 163) 404 405),
 (165,fnO "row_common" (top 25) mo0 164),
 (169,cdO "simple_row" 407 157 1 3 166 (R 167) N N N (R 168) 410 411),
 (170,fnO "simple_row" (top 26) mo0 169),
 (176,cdO "ratio" 415 162 2 3 171 (R 172) N (R 173) (R 174) (R 175) 421 422),
 (177,fnO "ratio" (top 28) mo1 176),
 (183,cdO "before" 424 167 2 3 178 (R 179) N (R 180) (R 181) (R 182) 429 430),
 (184,fnO "before" (top 29) mo1 183),
 (188,cdO "cleared" 434 170 1 3 185 (R 186) N N N (R 187) 437 438),
 (189,fnO "cleared" (top 31) mo2 188),
 (195,cdO "p_at" 440 175 2 3 190 (R 191) N (R 192) (R 193) (R 194) 449 450),
 (196,fnO "p_at" (top 32) mo2 195),
 (202,cdO "count_between" 454 184 3 3 197 (R 198) N (R 199) (R 200) (R 201) 467 468),
 (203,fnO "count_between" (top 34) mo3 202),
 (209,cdO "stretched" 470 197 3 3 204 (R 205) N (R 206) (R 207) (R 208) 480 481),
 (210,fnO "stretched" (top 35) mo3 209),
 (216,cdO "count_within" 483 210 1 3 211 (R 212) N (R 213) (R 214) (R 215) 493 494),
 (217,fnO "count_within" (top 36) mo3 216),
 (221,cdO "halved" 496 226 1 3 218 (R 219) N N N (R 220) 499 500),
 (222,fnO "halved" (top 37) mo3 221),
 (228,cdO "sign_changes" 502 229 1 3 223 (R 224) N (R 225) (R 226) (R 227) 509 510),
 (229,fnO "sign_changes" (top 38) mo3 228),
 (235,cdO "_law_hand" 514 239 1 3 230 (R 231) N (R 232) (R 233) (R 234) 519 520),
 (236,fnO "_law_hand" (top 40) mo4 235),
 (242,cdO "_law_draw" 522 242 2 3 237 (R 238) N (R 239) (R 240) (R 241) 531 532),
 (243,fnO "_law_draw" (top 41) mo4 242),
 (249,cdO "_law_lowest" 534 255 2 3 244 (R 245) N (R 246) (R 247) (R 248) 541 542),
 (250,fnO "_law_lowest" (top 42) mo4 249),
 (256,cdO "_law_row_times" 544 262 2 3 251 (R 252) N (R 253) (R 254) (R 255) 554 555),
 (257,fnO "_law_row_times" (top 43) mo4 256),
 (261,cdO "_law_poly_of" 557 268 2 3 258 (R 259) N N N (R 260) 560 561),
 (262,fnO "_law_poly_of" (top 44) mo4 261),
 (268,cdO "_law_worth" 563 270 2 3 263 (R 264) N (R 265) (R 266) (R 267) 571 572),
 (269,fnO "_law_worth" (top 45) mo4 268),
 (275,cdO "_law_scale" 574 277 1 3 270 (R 271) N (R 272) (R 273) (R 274) 578 579),
 (276,fnO "_law_scale" (top 46) mo4 275),
 (282,cdO "_law_any_row" 581 279 3 3 277 (R 278) N (R 279) (R 280) (R 281) 589 590),
 (283,fnO "_law_any_row" (top 47) mo4 282),
 (289,cdO "_law_rising" 592 284 1 3 284 (R 285) N (R 286) (R 287) (R 288) 599 600),
 (290,fnO "_law_rising" (top 48) mo4 289),
 (296,cdO "_law_later" 602 293 1 3 291 (R 292) N (R 293) (R 294) (R 295) 609 610),
 (297,fnO "_law_later" (top 49) mo4 296),
 (301,cdO "_law_counts" 612 300 2 3 298 (R 299) N N N (R 300) 615 616),
 (302,fnO "_law_counts" (top 50) mo4 301),
 (306,cdO "law" 618 302 1 3 303 (R 304) N N N (R 305) 621 622),
 (307,fnO "law" (top 51) mo4 306)]
noncomputable def as:List Addr:=[3,15,21,22,28,29,33,34,40,41,45,46,50,51,57,58,64,65,69,70,76,77,81,82,86,87,93,94,100,101,107,108,112,113,119,120,124,125,131,132,138,139,145,146,152,153,157,158,164,165,169,170,176,177,183,184,188,189,195,196,202,203,209,210,216,217,221,222,228,229,235,236,242,243,249,250,256,257,261,262,268,269,275,276,282,283,289,290,296,297,301,302,306,307]
noncomputable def vw:Program:=PySem.W.view PySem.Challenge.pw_backslope_k14_counts_agree [1,2,3,4,5,6,7,8,9,10,11,12,13,14,15,16,17,18,19,20,21,22,23,24,25,26,28,29,31,32,34,35,36,37,38,40,41,42,43,44,45,46,47,48,49,50,51]
noncomputable def hk:PySem.W.Hook:=PySem.W.kHook hp as (λ_=>by kernel_rfl)
theorem left:PySem.W.LeftO PySem.Challenge.pw_backslope_k14_counts_agree vw [] (λs=>PySem.W.xlAt vw [] s && PySem.W.recOk (PySem.W.RowW.records (PySem.W.OpenRow.toRowW (PySem.W.OpenLaw.row PySem.Challenge.rw_backslope_k14_counts_agree))) s) hk.obs hk.val 3052:=λw=>by kernel_rfl
end Bs.Hd
namespace Bs
noncomputable def Bd (n:Nat) (x:Int):Prop:=x.natAbs<2 ^ n
theorem Bd.mono {m n:Nat} {x:Int} (h:Bd m x) (hn:m<=n):Bd n x:=wa8 h (wbm ∅ hn)
theorem Bd.le {n:Nat} {x y:Int} (h:Bd n x) (hy:y.natAbs<=x.natAbs):Bd n y:=wb9 hy h
theorem Bd.neg {n:Nat} {x:Int} (h:Bd n x):Bd n (-x):=by unfold Bd at *;rw [Int.natAbs_neg];exact h
theorem Bd.add {n:Nat} {x y:Int} (h:Bd n x) (h':Bd n y):Bd (n+1) (x+y):=by
 unfold Bd at *
 have:=Int.natAbs_add_le x y
 rw [wa1]
 omega
theorem Bd.sub {n:Nat} {x y:Int} (h:Bd n x) (h':Bd n y):Bd (n+1) (x - y):=by
 rw [Int.sub_eq_add_neg];exact h.add h'.neg
theorem Bd.mul {m n:Nat} {x y:Int} (h:Bd m x) (h':Bd n y):Bd (m+n) (x*y):=by
 unfold Bd at *
 rw [way,wbn]
 exact Nat.mul_lt_mul'' h h'
theorem quN {x:Int} (h1:-18446744073709551616<x) (h2:x<18446744073709551616):Bd 64 x:=by
 unfold Bd
 have:(2:Nat) ^ 64=18446744073709551616:=by decide
 rw [this];omega
theorem Bd.log2 {n:Nat} {x:Int} (h:Bd n x) (hn:0<n):x.natAbs.log2<n:=by
 unfold Bd at h
 rcases wbt x.natAbs with h0 | hp
 ·rw [h0];simpa using hn
 ·exact (Nat.log2_lt (Nat.ne_of_gt hp)).mpr h
structure Low (t d:Int):Prop where
 pos:0<d
 one:Int.gcd t d=1
theorem qlt (a b:Int):Int.gcd b (a.fmod b)=Int.gcd a b:=by
 have e:a.fmod b=a - b*a.fdiv b:=Int.fmod_def a b
 rw [e]
 apply Nat.dvd_antisymm
 ·apply Int.dvd_gcd
  ·have h1:=wcm b (a - b*a.fdiv b)
   have h2:=wci b (a - b*a.fdiv b)
   have h3:=wbx h2 (wcv (c:=a.fdiv b) h1)
   rw [Int.sub_add_cancel] at h3
   exact h3
  ·exact wcm b _
 ·apply Int.dvd_gcd
  ·exact wci a b
  ·exact Int.dvd_sub (wcm a b) (wcv (wci a b))
theorem qiE (a:Int) {b:Int} (h:0<=b):Int.gcd b (a % b)=Int.gcd a b:=by
 rw [<-Int.fmod_eq_emod_of_nonneg a h,qlt]
theorem qno (a:Int) {b:Int} (h:b≠0):(a.fmod b).natAbs<b.natAbs:=by
 rcases Int.lt_or_gt_of_ne h with hb | hb
 ·rw [Int.fmod_eq_emod]
  have h1:=wba a h
  have h2:=Int.emod_lt a h
  split
  ·rename_i h'
   rcases h' with h' | h'
   ·omega
   ·have:a % b=0:=Int.emod_eq_zero_of_dvd h'
    omega
  ·rename_i h'
   have:a % b≠0:=λz=>h' (.inr (Int.dvd_of_emod_eq_zero z))
   omega
 ·rw [Int.fmod_eq_emod_of_nonneg a (Int.le_of_lt hb)]
  have h1:=wba a h
  have h2:=wbg a hb
  omega
theorem qee {a b s:Int} (hb:b≠0) (hs:s=if b<0 then -((Int.gcd a b:Nat):Int) else ((Int.gcd a b:Nat):Int)) :
  s≠0/\s.natAbs<=b.natAbs/\Low (a.fdiv s) (b.fdiv s)/\a.fdiv s*b=a*b.fdiv s/\(a.fdiv s).natAbs<=a.natAbs/\(b.fdiv s).natAbs<=b.natAbs:=by
 have g0:0<Int.gcd a b:=Int.gcd_pos_of_ne_zero_right a hb
 have sn:s.natAbs=Int.gcd a b:=by rw [hs];split <;> simp
 have s0:s≠0:=by intro z;rw [z] at sn;simp at sn;omega
 have da:s∣a:=by
  rw [<-Int.natAbs_dvd,sn];exact wcm a b
 have db:s∣b:=by
  rw [<-Int.natAbs_dvd,sn];exact wci a b
 obtain ⟨t,rfl⟩:=da
 obtain ⟨d,rfl⟩:=db
 rw [Int.mul_fdiv_cancel_left _ s0,Int.mul_fdiv_cancel_left _ s0]
 have d0:d≠0:=by rintro rfl;simp at hb
 have sp:1<=s.natAbs:=by omega
 have gd:Int.gcd t d=1:=by
  rw [Int.gcd_mul_left] at sn
  have h2:s.natAbs*Int.gcd t d=s.natAbs*1:=by omega
  exact Nat.eq_of_mul_eq_mul_left sp h2
 have dp:0<d:=by
  by_cases h:s*d<0
  ·rw [if_pos h] at hs
   have sneg:s<0:=by omega
   rcases Int.lt_or_gt_of_ne d0 with h' | h'
   ·have:=Int.mul_pos_of_neg_of_neg sneg h';omega
   ·exact h'
  ·rw [if_neg h] at hs
   have spos:0<s:=by omega
   rcases Int.lt_or_gt_of_ne d0 with h' | h'
   ·have:=Int.mul_neg_of_pos_of_neg spos h';omega
   ·exact h'
 have le1:∀ y:Int,y.natAbs<=(s*y).natAbs:=λy=>by
  rw [way];exact wcw _ sp
 refine ⟨s0,?_,⟨dp,gd⟩,?_,le1 t,le1 d⟩
 ·rw [way];exact Nat.le_mul_of_pos_right _ ⋯
 ·grind
theorem qeH {a b:Int} (hb:0<b):Low (a / ((Int.gcd a b:Nat):Int)) (b / ((Int.gcd a b:Nat):Int))/\(a / ((Int.gcd a b:Nat):Int)).natAbs<=a.natAbs/\(b / ((Int.gcd a b:Nat):Int)).natAbs<=b.natAbs/\0<((Int.gcd a b:Nat):Int)/\((Int.gcd a b:Nat):Int)<=b:=by
 have g0:0<Int.gcd a b:=Int.gcd_pos_of_ne_zero_right a ⋯
 obtain ⟨_,h1,h2,h3,h4,h5⟩:=qee (a:=a) (b:=b) (s:=((Int.gcd a b:Nat):Int)) ⋯ (by rw [if_neg ⋯])
 rw [wcn _ ⋯,wcn _ ⋯] at h2
 rw [wcn _ ⋯] at h4 h5
 exact ⟨h2,h4,h5,⋯,⋯⟩
end Bs
namespace Bs
open PySem L2
noncomputable def qtR (_ j:Int):Prop:=0<j/\Bd 9000 j
noncomputable def quO (_ j:Int):Prop:=j≠0/\Bd 9000 j
noncomputable def qtS (i j:Int):Prop:=0<=j/\j<=1000000/\i.natAbs<2 ^ 64
noncomputable abbrev qc6:R2:=rI0 λi j=>.int (i+j)
noncomputable abbrev qdL:R2:=rI0 λi j=>.int (i - j)
noncomputable abbrev qcf:R2:=rI IntMulOk λi j=>.int (i*j)
noncomputable abbrev qjD:R2:=rI qtR λi j=>.int (i / j)
noncomputable abbrev qsB:R2:=rI quO λi j=>.int (i.fdiv j)
noncomputable abbrev qiF:R2:=rI (λ_ j=>0<j) λi j=>.int (i % j)
noncomputable abbrev qrg:R2:=rI (λ_ j=>j≠0) λi j=>.int (i.fmod j)
noncomputable abbrev qur:R2:=rI qtS λi j=>.int (i ^ j.toNat)
noncomputable abbrev iLt:R2:=rI0 λi j=>.bl (decide (i<j))
noncomputable abbrev iLe:R2:=rI0 λi j=>.bl (decide (i<=j))
noncomputable abbrev iGt:R2:=rI0 λi j=>.bl (decide (j<i))
noncomputable abbrev iGe:R2:=rI0 λi j=>.bl (decide (j<=i))
noncomputable abbrev qeQ:V->Hp->VK->Prop:=rU λi=>.int (-i)
noncomputable def gT:R2:=λx y H Q=>∃ p i xs v,x=.ref p/\y=.int i/\H p=some (.tup xs)/\atI xs i=some v/\Q v H
noncomputable def gL:R2:=λx y H Q=>∃ p i xs v,x=.ref p/\y=.int i/\H p=some (.lst xs)/\atI xs i=some v/\Q v H
noncomputable def gS (K:W.Frag):R2:=λx y H Q=>∃ p i xs v,x=.ref p/\y=.int i/\SqL K H p xs/\atI xs i=some v/\Q v H
noncomputable def qpx:List V->Hp->VK->Prop:=λxs H Q=>∃ i,xs=[.int i]/\Q (.int (if i<0 then -i else i)) H
noncomputable def qqt:List V->Hp->VK->Prop:=λxs H Q=>∃ i j,xs=[.int i,.int j]/\Q (.int (if j > i then j else i)) H
noncomputable def qus:List V->Hp->VK->Prop:=λxs H Q=>∃ i j,xs=[.int i,.int j]/\Q (.int (if j<i then j else i)) H
noncomputable def qpy:List V->Hp->VK->Prop:=λxs H Q=>∃ k,xs=[.bl k]/\Q (.int (if k=true then 1 else 0)) H
noncomputable def qsC:List V->Hp->VK->Prop:=λxs H Q=>∃ p ys,xs=[.ref p]/\H p=some (.tup ys)/\Q (.int ys.length) H
noncomputable def qbs:List V->Hp->VK->Prop:=λxs H Q=>∃ p ys,xs=[.ref p]/\H p=some (.lst ys)/\Q (.int ys.length) H
noncomputable def qsD (K:W.Frag):List V->Hp->VK->Prop:=λxs H Q=>∃ p ys,xs=[.ref p]/\SqL K H p ys/\Q (.int ys.length) H
noncomputable def quP:Option HO->String->Option Bool
 | some (.tup _),n=>if n = "tuple" then some true else if n = "bool" \/ n = "int" \/ n = "list" then some false else none
 | some (.lst _),n=>if n = "list" then some true else if n = "bool" \/ n = "int" \/ n = "tuple" then some false else none
 | _,_=>none
noncomputable def qtE (H:Hp):V->String->Option Bool
 | .int _,n=>if n = "int" then some true else if n = "bool" \/ n = "tuple" \/ n = "list" then some false else none
 | .bl _,n=>if n = "int" \/ n = "bool" then some true else if n = "tuple" \/ n = "list" then some false else none
 | .ref p,n=>quP (H p) n
 | _,_=>none
noncomputable def qut:List V->Hp->VK->Prop:=λxs H Q=>∃ x n b,xs=[x,.ty n]/\qtE H x n=some b/\Q (.bl b) H
theorem qnp (H:Hp) (i:Int):qtE H (.int i) "int" = some true:=rfl
theorem qf2 (H:Hp) (i:Int):qtE H (.int i) "bool" = some false:=rfl
theorem qqu (H:Hp) (b:Bool):qtE H (.bl b) "bool" = some true:=rfl
noncomputable def quu:V->Bool
 | .int _=>true
 | _=>false
noncomputable def eqT:R2:=λx y H Q=>∃ a b xs ys,x=.ref a/\y=.ref b/\H a=some (.tup xs)/\H b=some (.tup ys)/\xs.all quu=true/\ys.all quu=true/\Q (.bl (decide (xs=ys))) H
noncomputable def ForR (lo:Int) (n:Nat) (g:TG) (tb:TS) (D:Ends) (σ:St) (H:Hp):Prop:=∃ W:Nat->Nat->St->Hp->Prop,(∃ m,W 0 m σ H)/\∀ i m σ H,W i m σ H->
 ((Itr lo n).stop i H/\D.nx σ H)\/((Itr lo n).go i H/\∃ N:St->Hp->Prop,(∀ σ' H',N σ' H'->∃ m',m'<m/\W (i+1) m' σ' H')/\∀ x H',(Itr lo n).yld i H x H'->g x σ H' λσ2 H2=>tb { D with nx:=N,ct:=N,bk:=D.nx } σ2 H2)
theorem qnq {ta:TA} {g:TG} {tb:TS} {D:Ends} {σ:St} {H:Hp}:qep (qgK ta) g tb D σ H=ta σ H (λvs H1=>∃ j:Int,vs=[.int j]/\-(2 ^ 62)<=j/\j<2 ^ 62/\ForR 0 j.toNat g tb D σ H1):=rfl
theorem qnr {ta:TA} {g:TG} {tb:TS} {D:Ends} {σ:St} {H:Hp}:qep (qmX ta) g tb D σ H=ta σ H (λvs H1=>∃ i j:Int,vs=[.int i,.int j]/\(-(2 ^ 62)<=i/\i<2 ^ 62/\-(2 ^ 62)<=j/\j<2 ^ 62)/\ForR i (j - i).toNat g tb D σ H1):=rfl
theorem ForR.by {lo:Int} {n:Nat} {g:TG} {tb:TS} {D:Ends} {σ:St} {H:Hp} (Pv:Nat->St->Hp->Prop) (h0:Pv 0 σ H)
  (hs:∀ i σ H,i<n->Pv i σ H->g (.int (lo+i)) σ H λσ2 H2=>tb { D with nx:=Pv (i+1),ct:=Pv (i+1),bk:=D.nx } σ2 H2) (hd:∀ σ H,Pv n σ H->D.nx σ H):ForR lo n g tb D σ H:=qm0 Pv h0 hs hd
noncomputable def ForT (K:W.Frag) (a:Addr) (g:TG) (tb:TS) (D:Ends) (σ:St) (H:Hp):Prop:=∃ W:Nat->Nat->St->Hp->Prop,(∃ m,W 0 m σ H)/\∀ i m σ H,W i m σ H->
 ((Itt K a).stop i H/\D.nx σ H)\/((Itt K a).go i H/\∃ N:St->Hp->Prop,(∀ σ' H',N σ' H'->∃ m',m'<m/\W (i+1) m' σ' H')/\∀ x H',(Itt K a).yld i H x H'->g x σ H' λσ2 H2=>tb { D with nx:=N,ct:=N,bk:=D.nx } σ2 H2)
noncomputable def ForL (K:W.Frag) (a:Addr) (g:TG) (tb:TS) (D:Ends) (σ:St) (H:Hp):Prop:=∃ W:Nat->Nat->St->Hp->Prop,(∃ m,W 0 m σ H)/\∀ i m σ H,W i m σ H->
 ((Itl K a).stop i H/\D.nx σ H)\/((Itl K a).go i H/\∃ N:St->Hp->Prop,(∀ σ' H',N σ' H'->∃ m',m'<m/\W (i+1) m' σ' H')/\∀ x H',(Itl K a).yld i H x H'->g x σ H' λσ2 H2=>tb { D with nx:=N,ct:=N,bk:=D.nx } σ2 H2)
theorem qqv {K:W.Frag} {tl:TE} {g:TG} {tb:TS} {D:Ends} {σ:St} {H:Hp}:qep (qsh K tl) g tb D σ H=tl σ H (λx H1=>∃ a,x=.ref a/\(∃ xs,SqT K H1 a xs)/\ForT K a g tb D σ H1):=rfl
theorem qqw {K:W.Frag} {tl:TE} {g:TG} {tb:TS} {D:Ends} {σ:St} {H:Hp}:qep (qc4 K tl) g tb D σ H=tl σ H (λx H1=>∃ a,x=.ref a/\(∃ xs,SqL K H1 a xs)/\ForL K a g tb D σ H1):=rfl
theorem ForT.by {K:W.Frag} {a:Addr} {xs:List V} {g:TG} {tb:TS} {D:Ends} {σ:St} {H:Hp} (Pv:Nat->St->Hp->Prop) (h0:Pv 0 σ H) (hl:∀ i σ H,i<=xs.length->Pv i σ H->H a=some (.tup xs))
  (hs:∀ i x σ H,xs[i]?=some x->Pv i σ H->g x σ H λσ2 H2=>tb { D with nx:=Pv (i+1),ct:=Pv (i+1),bk:=D.nx } σ2 H2) (hd:∀ σ H,Pv xs.length σ H->D.nx σ H):ForT K a g tb D σ H:=
 qmZ Pv h0 (λi σ H h p=>SqT.of (hl i σ H h p)) hs hd
theorem ForL.by {K:W.Frag} {a:Addr} {xs:List V} {g:TG} {tb:TS} {D:Ends} {σ:St} {H:Hp} (Pv:Nat->St->Hp->Prop) (h0:Pv 0 σ H) (hl:∀ i σ H,i<=xs.length->Pv i σ H->SqL K H a xs)
  (hs:∀ i x σ H,xs[i]?=some x->Pv i σ H->g x σ H λσ2 H2=>tb { D with nx:=Pv (i+1),ct:=Pv (i+1),bk:=D.nx } σ2 H2) (hd:∀ σ H,Pv xs.length σ H->D.nx σ H):ForL K a g tb D σ H:=
 qpo Pv h0 hl hs hd
theorem qb3 {c:TT} {tb:TS} {D:Ends} {σ:St} {H:Hp} (W:Nat->St->Hp->Prop) (m:Nat) (h0:W m σ H)
  (hs:∀ m σ H,W m σ H->c σ H λb H1=>if b=true then ∃ N:St->Hp->Prop,(∀ σ' H',N σ' H'->∃ m',m'<m/\W m' σ' H')/\tb { D with nx:=N,ct:=N,bk:=D.nx } σ H1 else D.nx σ H1):qdx c tb D σ H:=⟨W,⟨m,h0⟩,hs⟩
noncomputable def Kp (p:Addr) (H H':Hp):Prop:=∀ b o,b≠p->H b=some o->H' b=some o
theorem Kp.trans {p:Addr} {H H1 H2:Hp} (a:Kp p H H1) (b:Kp p H1 H2):Kp p H H2:=λc o n h=>b c o n (a c o n h)
theorem Kp.same {p:Addr} {H H1 H2:Hp} (a:Kp p H H1) (b:Same H1 H2):Kp p H H2:=λc o n h=>b c o (a c o n h)
theorem Kp.of_same {p:Addr} {H H1:Hp} (b:Same H H1):Kp p H H1:=λc o _ h=>b c o h
theorem Kp.upd {p:Addr} {H:Hp} {o:HO}:Kp p H (upd H p o):=λb u n h=>by rw [qaA n];exact h
theorem qah {H:Hp} {p:Addr} (h:H p=none) (o:HO):Same H (upd H p o):=λb u q=>by rw [qaA (qan q h)];exact q
theorem sz {n:Nat} (h:n<=1000000):n<=sizeLine:=by rw [sizeLine_eq];omega
end Bs
namespace Bs
open PySem L2
theorem qlu {α:Type} (a b:α):atI [a,b] 0=some a:=rfl
theorem qlv {α:Type} (a b:α):atI [a,b] 1=some b:=rfl
theorem qh5 {α:Type} (a b c:α):atI [a,b,c] 0=some a:=rfl
theorem qh6 {α:Type} (a b c:α):atI [a,b,c] 1=some b:=rfl
theorem qh7 {α:Type} (a b c:α):atI [a,b,c] 2=some c:=rfl
theorem qns (a b:Int):scal (.int a) (.int b)=true:=rfl
theorem qnt (a b:Bool):scal (.bl a) (.bl b)=true:=rfl
theorem qh8:ixN 3 0=some 0:=rfl
theorem qh9:ixN 3 2=some 2:=rfl
end Bs
namespace Bs
open PySem PySem.Spec PyProof.Rows L2
theorem qia:bootBuiltins "abs" = some (.builtin "abs"):=by decide +kernel
theorem qaY:bootBuiltins "len" = some (.builtin "len"):=by decide +kernel
theorem qib:bootBuiltins "max" = some (.builtin "max"):=by decide +kernel
theorem qqx:bootBuiltins "min" = some (.builtin "min"):=by decide +kernel
theorem qlw:bootBuiltins "sum" = some (.builtin "sum"):=by decide +kernel
theorem qsE:bootBuiltins "int" = some (.type "int"):=by decide +kernel
theorem qpz:bootBuiltins "tuple" = some (.type "tuple"):=by decide +kernel
theorem qgV:bootBuiltins "list" = some (.type "list"):=by decide +kernel
theorem qjE:bootBuiltins "enumerate" = some (.type "enumerate"):=by decide +kernel
theorem qsF:bootBuiltins "zip" = some (.type "zip"):=by decide +kernel
theorem qkE:bootBuiltins "reversed" = some (.type "reversed"):=by decide +kernel
section
variable {X:Cx}
theorem qnu {n:Nat} {x:Int} (h:Bd n x):Builtin.Int.intBits x<=n:=by
 unfold Builtin.Int.intBits
 split
 ·exact wae _
 ·rename_i h0
  have hn:x.natAbs≠0:=λz=>h0 (by have e:x=0:=by omega
                                 subst e;rfl)
  have:=(Nat.log2_lt hn).mpr h
  omega
theorem qaH:OpR X (binaryOp .Mult) qcf:=opI λ_ _ _ _ _ _ _ hc q=>mul_int q hc
theorem qcR:OpR X (inplaceOp .Mult) qcf:=opI λ_ _ _ _ _ _ _ hc q=>imul_int q hc
theorem qiG:OpR X (binaryOp .FloorDiv) qjD:=opI λi j _ _ _ _ _ hc q=>by
 refine floordiv_int (wai hc.1) ?_ (.inl (PyProof.noPylong_of_log2 (hc.2.log2 ∅)))
 rw [wcn i (Int.le_of_lt hc.1)]
 exact q
theorem qaI:IxR X gT:=by
 intro value slice pins s σ H x y v u Q I rx ry h hs
 obtain ⟨p,i,xs,w,e1,e2,hp,ha,q⟩:=h
 exact qsx value slice pins s σ H x y v u Q I rx ry ⟨p,xs,i,w,e1,e2,SqT.of hp,ha,q⟩ hs
theorem qap:IxR X gL:=by
 intro value slice pins s σ H x y v u Q I rx ry h hs
 obtain ⟨p,i,xs,w,e1,e2,hp,ha,q⟩:=h
 exact qrc value slice pins s σ H x y v u Q I rx ry ⟨p,xs,i,w,e1,e2,SqL.of hp,ha,q⟩ hs
theorem qc7:qdN X (.builtin "abs") qpx:=qpq
theorem qdQ (hc:X.calm=true):qdN X (.builtin "max") qqt:=qm5 hc
theorem qnv:qdN X (.type "int") qpy:=λpins s σ H xs us Q I r h=>qm6 pins s σ H xs us Q I r (.inr h)
theorem qaw:qdN X (.builtin "len") qbs:=λpins s σ H xs us Q I r h=>by
 obtain ⟨p,ys,e,hp,q⟩:=h
 exact qjv pins s σ H xs us Q I r ⟨p,ys,e,.inl (SqL.of hp),q⟩
end
structure Cal (P:Program) (w:World) (K:W.Frag) (mg:Str->Option Value) (base:Heap) (n:Nat) (x:Str) (ps:List Str) (sp:Sp):Prop where
 ex:∃ (f:Addr) (fd:FuncData),FnOk P w K mg base CX0 n f fd ps sp/\Binds K fd ps []/\PySem.W.keepIn K (.ref f)=true/\mg x=some (.ref f)
theorem Cal.pe {X:Cx} {n m:Nat} {x:Str} {ps:List Str} {sp:Sp} {e:Expr} {es:List Expr} {t:TA} {p pos:Pos} (C:Cal X.prog X.w X.K X.mg X.base n x ps sp) (hr:Room m X.A) (hn:n<=m) (hg:Gl X x) (ha:PA X (e::es) t)
  (hdb:(x == ("__debug__" : Str))=false:=by decide) (he:starEach (e::es) X.env=(false,eval e X.env)::starEach es X.env:=by rfl) (hpl:(backTo pos (starEach es X.env)).any (·.1)=false:=by rfl) :
  PE X (.Call (.Name x p) (e::es) [] pos) (qay sp [] E0 t):=by
 obtain ⟨f,fd,F,b,k,m⟩:=C.ex
 exact qq9 F (hr.mono hn) hg m k b .nil qtQ ha hdb he hpl
end Bs
namespace Bs
open PySem L2
noncomputable def qcO (capt:List (Option Nat)) (σ:L2.St):L2.St:=capt.map λo=>o.bind λj=>(σ[j]?).join
noncomputable def qbU (wi:TI) (capt:List (Option Nat)) (g:TG) (te:TE):TE:=λσ H Q=>wi σ H λJ H1=>∃ (n:Nat) (W:Nat->List V->Hp->Prop),W 0 [] H1/\∀ i ys H,W i ys H->i<=n/\ys.length<=sizeLine/\
 ((J.stop i H/\∀ p,H p=none->Q (.ref p) (upd H p (.lst ys)))\/(i<n/\J.go i H/\∀ x H',J.yld i H x H'->g x (qcO capt σ) H' λσ2 H2=>te σ2 H2 λy H3=>W (i+1) (ys++[y]) H3))
noncomputable def CompJ (J:It) (capt:List (Option Nat)) (g:TG) (te:TE) (σ:L2.St) (Q:VK) (H1:Hp):Prop:=∃ (n:Nat) (W:Nat->List V->Hp->Prop),W 0 [] H1/\∀ i ys H,W i ys H->i<=n/\ys.length<=sizeLine/\
 ((J.stop i H/\∀ p,H p=none->Q (.ref p) (upd H p (.lst ys)))\/(i<n/\J.go i H/\∀ x H',J.yld i H x H'->g x (qcO capt σ) H' λσ2 H2=>te σ2 H2 λy H3=>W (i+1) (ys++[y]) H3))
section
variable {K:W.Frag} {ta:TA} {tl:TE} {capt:List (Option Nat)} {g:TG} {te:TE} {σ:L2.St} {H:Hp} {Q:VK}
theorem qlx:qbU (qgK ta) capt g te σ H Q=ta σ H (λvs H1=>∃ j:Int,vs=[.int j]/\-(2 ^ 62)<=j/\j<2 ^ 62/\CompJ (Itr 0 j.toNat) capt g te σ Q H1):=rfl
theorem qly:qbU (qmX ta) capt g te σ H Q=ta σ H (λvs H1=>∃ i j:Int,vs=[.int i,.int j]/\(-(2 ^ 62)<=i/\i<2 ^ 62/\-(2 ^ 62)<=j/\j<2 ^ 62)/\CompJ (Itr i (j - i).toNat) capt g te σ Q H1):=rfl
theorem qnw:qbU (qsh K tl) capt g te σ H Q=tl σ H (λx H1=>∃ a,x=.ref a/\(∃ xs,SqT K H1 a xs)/\CompJ (Itt K a) capt g te σ Q H1):=rfl
theorem qnx:qbU (qc4 K tl) capt g te σ H Q=tl σ H (λx H1=>∃ a,x=.ref a/\(∃ xs,SqL K H1 a xs)/\CompJ (Itl K a) capt g te σ Q H1):=rfl
theorem CompJ.range {lo:Int} {n:Nat} (W:Nat->List V->Hp->Prop) (h0:W 0 [] H) (hb:∀ i ys H,W i ys H->i<=n/\ys.length<=sizeLine)
  (hs:∀ i ys H,i<n->W i ys H->g (.int (lo+i)) (qcO capt σ) H λσ2 H2=>te σ2 H2 λy H3=>W (i+1) (ys++[y]) H3) (hd:∀ ys H,W n ys H->∀ p,H p=none->Q (.ref p) (upd H p (.lst ys))):CompJ (Itr lo n) capt g te σ Q H:=by
 refine ⟨n,W,h0,λi ys H w=>⟨(hb i ys H w).1,(hb i ys H w).2,?_⟩⟩
 by_cases h:i<n
 ·refine .inr ⟨h,h,λx H' y=>?_⟩
  obtain ⟨e,y⟩:=y
  subst e y
  exact hs i ys _ h w
 ·have e:i=n:=Nat.le_antisymm (hb i ys H w).1 (wbu.mp h)
  subst e
  exact .inl ⟨wad _,hd ys H w⟩
theorem CompJ.tup {a:Addr} {xs:List V} (W:Nat->List V->Hp->Prop) (h0:W 0 [] H) (hb:∀ i ys H,W i ys H->i<=xs.length/\ys.length<=sizeLine/\H a=some (.tup xs))
  (hs:∀ i x ys H,xs[i]?=some x->W i ys H->g x (qcO capt σ) H λσ2 H2=>te σ2 H2 λy H3=>W (i+1) (ys++[y]) H3) (hd:∀ ys H,W xs.length ys H->∀ p,H p=none->Q (.ref p) (upd H p (.lst ys))):CompJ (Itt K a) capt g te σ Q H:=by
 refine ⟨xs.length,W,h0,λi ys H w=>⟨(hb i ys H w).1,(hb i ys H w).2.1,?_⟩⟩
 have q:SqT K H a xs:=SqT.of (hb i ys H w).2.2
 by_cases h:i<xs.length
 ·refine .inr ⟨h,⟨xs,xs[i],q,by simp [h]⟩,λx H' y=>?_⟩
  obtain ⟨e,y⟩:=y
  subst e
  exact hs i x ys _ (y xs q) w
 ·have e:i=xs.length:=Nat.le_antisymm (hb i ys H w).1 (wbu.mp h)
  subst e
  exact .inl ⟨⟨xs,q,wad _⟩,hd ys H w⟩
theorem CompJ.lst {a:Addr} {xs:List V} (W:Nat->List V->Hp->Prop) (h0:W 0 [] H) (hb:∀ i ys H,W i ys H->i<=xs.length/\ys.length<=sizeLine/\SqL K H a xs)
  (hs:∀ i x ys H,xs[i]?=some x->W i ys H->g x (qcO capt σ) H λσ2 H2=>te σ2 H2 λy H3=>W (i+1) (ys++[y]) H3) (hd:∀ ys H,W xs.length ys H->∀ p,H p=none->Q (.ref p) (upd H p (.lst ys))):CompJ (Itl K a) capt g te σ Q H:=by
 refine ⟨xs.length,W,h0,λi ys H w=>⟨(hb i ys H w).1,(hb i ys H w).2.1,?_⟩⟩
 have q:SqL K H a xs:=(hb i ys H w).2.2
 by_cases h:i<xs.length
 ·refine .inr ⟨h,⟨xs,xs[i],q,by simp [h]⟩,λx H' y=>?_⟩
  obtain ⟨e,y⟩:=y
  subst e
  exact hs i x ys _ (y xs q) w
 ·have e:i=xs.length:=Nat.le_antisymm (hb i ys H w).1 (wbu.mp h)
  subst e
  exact .inl ⟨⟨xs,q,wad _⟩,hd ys H w⟩
end
noncomputable def qrh (K:W.Frag) (a:Addr):It:=
 ⟨λi H=>∃ xs x,SqL K H a xs/\xs[i]?=some x,λi H v H'=>∃ p x,H p=none/\v=.ref p/\H'=upd H p (.tup [.int i,x])/\∀ xs,SqL K H a xs->xs[i]?=some x,λi H=>∃ xs,SqL K H a xs/\xs.length<=i⟩
noncomputable def qf3 (K:W.Frag) (ta:TA):TI:=λσ H R=>ta σ H λvs H1=>∃ a,vs=[.ref a]/\(∃ xs,SqL K H1 a xs)/\R (qrh K a) H1
noncomputable def ForJ (J:It) (g:TG) (tb:TS) (D:Ends) (σ:L2.St) (H:Hp):Prop:=∃ W:Nat->Nat->L2.St->Hp->Prop,(∃ m,W 0 m σ H)/\∀ i m σ H,W i m σ H->
 (J.stop i H/\D.nx σ H)\/(J.go i H/\∃ N:L2.St->Hp->Prop,(∀ σ' H',N σ' H'->∃ m',m'<m/\W (i+1) m' σ' H')/\∀ x H',J.yld i H x H'->g x σ H' λσ2 H2=>tb { D with nx:=N,ct:=N,bk:=D.nx } σ2 H2)
section
variable {K:W.Frag} {ta:TA} {g:TG} {tb:TS} {D:Ends} {σ:L2.St} {H:Hp} {a:Addr} {xs:List V}
theorem qny:qep (qf3 K ta) g tb D σ H=ta σ H (λvs H1=>∃ a,vs=[.ref a]/\(∃ xs,SqL K H1 a xs)/\ForJ (qrh K a) g tb D σ H1):=rfl
theorem qlz {capt:List (Option Nat)} {te:TE} {Q:VK}:qbU (qf3 K ta) capt g te σ H Q=ta σ H (λvs H1=>∃ a,vs=[.ref a]/\(∃ xs,SqL K H1 a xs)/\CompJ (qrh K a) capt g te σ Q H1):=rfl
theorem ForJ.enumL (Pv:Nat->L2.St->Hp->Prop) (h0:Pv 0 σ H) (hl:∀ i σ H,i<=xs.length->Pv i σ H->SqL K H a xs)
  (hs:∀ i x p σ H,xs[i]?=some x->Pv i σ H->H p=none->g (.ref p) σ (upd H p (.tup [.int i,x])) λσ2 H2=>tb { D with nx:=Pv (i+1),ct:=Pv (i+1),bk:=D.nx } σ2 H2) (hd:∀ σ H,Pv xs.length σ H->D.nx σ H):ForJ (qrh K a) g tb D σ H:=by
 refine ⟨λi m σ H=>m=xs.length - i/\i<=xs.length/\Pv i σ H,⟨xs.length,by simp,wae _,h0⟩,?_⟩
 rintro i m σ H ⟨rfl,hi,pv⟩
 have q:=hl i σ H hi pv
 by_cases lt:i<xs.length
 ·refine .inr ⟨⟨xs,xs[i],q,by simp [lt]⟩,Pv (i+1),λσ' H' p'=>⟨xs.length - (i+1),⋯,rfl,lt,p'⟩,λx H' y=>?_⟩
  obtain ⟨p,x',hp,rfl,rfl,y⟩:=y
  exact hs i x' p σ _ (y xs q) pv hp
 ·have e:i=xs.length:=by omega
  subst e
  exact .inl ⟨⟨xs,q,wad _⟩,hd σ H pv⟩
end
end Bs
namespace Bs
open PySem PySem.Spec PyProof.Rows L2
noncomputable def blk (X:Cx) (N:List Str) (scope:Scope) (cl:List (Str×Addr)) (C:Addr) (s:Shared) (H:Hp) (fp:List Addr):Cx:=
 { X with N:=N,s₀:=s,H₀:=H,env:=compEnvC scope cl C X.env,outer:=X.stack,stack:=X.stack,ex:=fp,fn:=λ_=>false,pn:=[],xe:=λ_ _=>False }
structure BlkOk (X:Cx) (N:List Str) (capt:List (Option Nat)) (scope:Scope) (cl:List (Str×Addr)):Prop where
 kind:scope.kind=.function
 clos:closureFor scope X.env=pure cl
 nocell:∀ y∈scope.names,y.2≠.cell
 names:∀ y∈scope.names,y.2=.local->scope.names.lookup y.1=some .local
 cells:∀ y c,cl.lookup y=some c->X.env.cells.lookup y=some c
 has:∀ y,((relabel scope X.env).names.lookup y=some .cell\/(relabel scope X.env).names.lookup y=some .free)->∃ c,cl.lookup y=some c
 cap:∀ (i:Nat) (x:Str) (j:Nat),N[i]?=some x->capt[i]?=some (some j)->X.N[j]?=some x/\Vis X.env.scope x/\X.env.kindOf x≠some .local/\((relabel scope X.env).names.lookup x=some .cell\/(relabel scope X.env).names.lookup x=some .free)
 len:capt.length=N.length
section
variable {X:Cx} {pins:List (Addr×Obj)} {σ:L2.St} {H:Hp} {s:Shared} {N:List Str} {capt:List (Option Nat)} {scope:Scope} {cl:List (Str×Addr)} {C:Addr} {fp:List Addr}
theorem qnz (B:BlkOk X N capt scope cl) (I:Inv X pins σ H s) (fo:∀ b∈fp,qkv X pins H b) (fl:∀ b∈fp,b<s.heap.objs.size) (hC:s.heap.objs.size<=C):(blk X N scope cl C s H fp).Ok where
 mod:=I.ok.mod
 kind:=B.kind
 glob:=I.ok.glob
 blt:=I.ok.blt
 above:=hC
 inj:=λx y c h1 h2=>I.ok.inj x y c (B.cells x c h1) (B.cells y c h2)
 has:=λx h=>B.has x h
 cab:=λ_ _ h=>nomatch h
 hd:=I.ok.hd
 frames:=I.ok.frames
 stk:=.inl rfl
 exf:=λb hb=>⟨λe=>absurd (wa8 (fl b hb) hC) (by rw [show b=C from e];exact wbc _),λx c e=>(fo b hb).2.2.2.2.1 x c (B.cells x c e)⟩
 bs:=I.bs
 bsz:=wa3 I.ok.bsz I.sz
 noex:=λb o e hb=>by
  rcases (fo b hb).2.2.2.1 with z | z
  ·exact I.ok.noex b o e z
  ·exact absurd (wa8 (Heap.lt_size e) (wa3 I.ok.bsz z)) (wbc _)
 exfs:=λb hb hf=>by
  rcases wa0.mp (I.stkSub b hf) with z | z
  ·exact (fo b hb).2.1 z
  ·exact (fo b hb).2.2.1 z
 funs:=I.stack
 frf:=I.stkFree
 seer:=I.ok.seer
 tree:=I.ok.tree
 plr:=I.ok.plr
theorem qnA (B:BlkOk X N capt scope cl) (I:Inv X pins σ H s) (fo:∀ b∈fp,qkv X pins H b) (fl:∀ b∈fp,b<s.heap.objs.size) (hC:s.heap.objs.size<=C) {h1:Heap} {m:Str->Option Value} {tk:Nat}
  (hn:h1.Ns C m) (hk:∀ b o,s.heap.get? b=some o->h1.get? b=some o):Inv (blk X N scope cl C s H fp) [] (qcO capt σ) H { s with heap:=h1,toks:=tk } where
 ok:=qnz B I fo fl hC
 os:=rfl
 bare:=I.bare
 base:=Un.kept hk
 loc:=by
  refine ⟨m,hn,λi x v e1 e2 e3=>?_⟩
  have e2':(capt.map λo=>o.bind λj=>(σ[j]?).join)[i]?=some (some v):=e2
  rw [waf] at e2'
  cases ec:capt[i]? with
  | none=>rw [ec] at e2';cases e2'
  | some o=>
    rw [ec] at e2'
    cases o with
    | none=>cases e2'
    | some j=>
      have e4:(σ[j]?).join=some v:=Option.some.inj e2'
      obtain ⟨c1,c2,c3,c4⟩:=B.cap i x j e1 ec
      have e5:σ[j]?=some (some v):=by
       cases q:σ[j]? with
       | none=>rw [q] at e4;cases e4
       | some w=>rw [q] at e4;exact congrArg some e4
      obtain ⟨m',_,hl⟩:=I.loc
      obtain ⟨u,r,l⟩:=hl j x v c1 e5 c2
      refine ⟨u,r,.inr ⟨c4,?_⟩⟩
      rcases l with ⟨l,_⟩ | ⟨_,c,lc,ic⟩
      ·exact absurd l c3
      ·obtain ⟨c',hc'⟩:=B.has x c4
       have:=B.cells x c' hc'
       rw [lc] at this
       cases this
       obtain ⟨o,ho,hd⟩:=ic
       exact ⟨c,hc',o,hk c o ho,hd⟩
 cell:=λx c e=>by
  obtain ⟨v,o,ho,hd⟩:=I.cell x c (B.cells x c e)
  exact ⟨v,o,hk c o ho,hd⟩
 free:=I.hok.fresh hC
 freeC:=λx c e=>I.freeC x c (B.cells x c e)
 pin:=λp hp=>nomatch hp
 hok:=I.hok.kept hk
 len:=by show (capt.map _).length=N.length;rw [waa];exact B.len
theorem qgW {σ6:L2.St} {H7:Hp} {s7:Shared} {pins':List (Addr×Obj)} (B:BlkOk X N capt scope cl) (I:Inv X pins σ H s) (fo:∀ b∈fp,qkv X pins H b) (I7:Inv (blk X N scope cl C s H fp) pins' σ6 H7 s7):Inv (blk X N scope cl C s H fp) pins' (qcO capt σ) H7 s7:=
 ⟨I7.ok,I7.os,I7.bare,I7.base,by
  obtain ⟨m,hn,_⟩:=I7.loc
  refine ⟨m,hn,λi x v e1 e2 e3=>?_⟩
  have e2':(capt.map λo=>o.bind λj=>(σ[j]?).join)[i]?=some (some v):=e2
  rw [waf] at e2'
  cases ec:capt[i]? with
  | none=>rw [ec] at e2';cases e2'
  | some o=>
    rw [ec] at e2'
    cases o with
    | none=>cases e2'
    | some j=>
      have e4:(σ[j]?).join=some v:=Option.some.inj e2'
      obtain ⟨c1,c2,c3,c4⟩:=B.cap i x j e1 ec
      have e5:σ[j]?=some (some v):=by
       cases q:σ[j]? with
       | none=>rw [q] at e4;cases e4
       | some w=>rw [q] at e4;exact congrArg some e4
      obtain ⟨m',_,hl⟩:=I.loc
      obtain ⟨u,r,l⟩:=hl j x v c1 e5 c2
      refine ⟨u,r,.inr ⟨c4,?_⟩⟩
      rcases l with ⟨l,_⟩ | ⟨_,c,lc,ic⟩
      ·exact absurd l c3
      ·obtain ⟨c',hc'⟩:=B.has x c4
       have:=B.cells x c' hc'
       rw [lc] at this
       cases this
       obtain ⟨o,ho,hd⟩:=ic
       obtain ⟨sl,hk⟩:=I7.base.any ho (I.freeC x c lc) λhb=>(fo c hb).2.2.2.2.1 x c lc rfl
       exact ⟨c,hc',_,hk,hd⟩,I7.cell,I7.free,I7.freeC,I7.pin,I7.hok,by show (capt.map _).length=N.length;rw [waa];exact B.len⟩
theorem qef {κ β:Type} [BEq κ] [LawfulBEq κ]:∀ {l:List (κ×β)} {y:κ} {c:β},l.lookup y=some c->(y,c)∈l
 | (k,v)::l,y,c,h=>by
   rw [List.lookup_cons] at h
   cases e:y == k with
   | true=>
     rw [e] at h
     cases h
     rw [eq_of_beq e]
     exact waz ..
   | false=>
     rw [e] at h
     exact wa4 _ (qef h)
theorem BlkOk.of (k:scope.kind=.function) (c:closureFor scope X.env=pure cl) (n1:(scope.names.all λy=>y.2 != .cell)=true) (n2:(scope.names.all λy=>y.2 != .local || scope.names.lookup y.1 == some .local)=true)
  (cs:∀ pr∈cl,X.env.cells.lookup pr.1=some pr.2) (hs:((relabel scope X.env).names.all λpr=>(pr.2 != .cell && pr.2 != .free) || (cl.lookup pr.1).isSome)=true)
  (cp:((List.range N.length).all λi=>match N[i]?,capt[i]? with
   | some x,some (some j)=>X.N[j]? == some x && (X.env.scope.names.lookup x == some .cell || X.env.scope.names.lookup x == some .free) && ((relabel scope X.env).names.lookup x == some .cell || (relabel scope X.env).names.lookup x == some .free)
   | _,_=>true)=true) (ln:capt.length=N.length):BlkOk X N capt scope cl where
 kind:=k
 clos:=c
 nocell:=λy hy e=>by
  have z:=List.all_eq_true.mp n1 y hy
  rw [e] at z
  exact absurd z ∅
 names:=λy hy e=>by
  have z:=List.all_eq_true.mp n2 y hy
  rw [e] at z
  simpa using z
 cells:=λy c h=>cs (y,c) (qef h)
 has:=λy h=>by
  have m:∃ kd,(y,kd)∈(relabel scope X.env).names/\(kd=.cell\/kd=.free):=by
   rcases h with h | h
   ·exact ⟨_,qef h,.inl rfl⟩
   ·exact ⟨_,qef h,.inr rfl⟩
  obtain ⟨kd,m,e⟩:=m
  have z:=List.all_eq_true.mp hs _ m
  have z2:(cl.lookup y).isSome=true:=by
   rcases e with rfl | rfl
   ·simpa using z
   ·simpa using z
  exact Option.isSome_iff_exists.mp z2
 cap:=λi x j e1 e2=>by
  have li:i<N.length:=(waq.mp e1).1
  have z:=List.all_eq_true.mp cp i (wch.mpr li)
  rw [e1,e2] at z
  simp only [Bool.and_eq_true,Bool.or_eq_true,beq_iff_eq] at z
  obtain ⟨⟨z1,z2⟩,z3⟩:=z
  refine ⟨z1,.inr z2,λq=>?_,z3⟩
  have q':X.env.scope.names.lookup x=some .local:=q
  rcases z2 with z2 | z2 <;> (rw [z2] at q';cases q')
 len:=ln
theorem qkF {prog:Program} {w:World} {A:Around} {R:Result->Shared->Prop} {s:Shared} {elt target iter:Expr} {scope:Scope} {pos:Pos} {it acc:Value} {env:Env} (I:Nat->Shared->Prop)
  (turn:∀ n s,I n s->wpAny (model prog w) A (pyNext it) (λr s₁=>match r with
   | none=>R (.ok .next) s₁
   | some v=>wpAny (model prog w) A (letOwnedTupleGo target it v) (λ_ s₂=>wpAny (model prog w) A (assign target env v) (λ_ s₃=>wpAny (model prog w) A (eval elt env) (λx s₄=>
     wpAny (model prog w) A (call (.builtin "list.append") [acc,x]) (λ_ s₅=>∃ m,m<n/\I m s₅) (λ_ _=>False) s₄) (λ_ _=>False) s₃) (λ_ _=>False) s₂) (λ_ _=>False) s₁) (λ_ _=>False) s)
  (n:Nat) (h:I n s):codeAny (model prog w) A (.compLoop (.ListComp elt [⟨target,iter,[],0⟩] scope pos) 0 it acc env) R s:=by
 refine codeAny_loop rfl I (λn s hI=>?_) n h
 show wpAny _ A ((compTurn (.ListComp elt [⟨target,iter,[],0⟩] scope pos) 0 it acc env).onRaise (λx=>do noteFrame x env;theTreesLotGoes x)) _ _ s
 refine wpAny_noted ?_
 rw [compTurn_list]
 have no:∀ {E':Value->Shared->Prop} (e:Value) (s':Shared),(λ(_:Value) (_:Shared)=>False) e s'->E' e s':=λ_ _ f=>f.elim
 refine wpAny_bind (wpAny_standAt (wpAny_bind (wpAny_mono (turn n s hI) (λr s₁ h₁=>?_) no)))
 cases r with
 | none=>exact wpAny_pure h₁
 | some v=>
   refine wpAny_bind (wpAny_mono h₁ (λ_ s₂ h₂=>?_) no)
   refine wpAny_bind (wpAny_mono h₂ (λ_ s₃ h₃=>wpAny_bind (wpAny_tests_nil ?_)) no)
   exact wpAny_bind (wpAny_bind (wpAny_mono h₃ (λx s₄ h₄=>wpAny_bind (wpAny_mono h₄ (λ_ s₅ h₅=>wpAny_pure (wpAny_pure ⟨rfl,h₅⟩)) no)) no))
theorem qjF {elt iter tg:Expr} {pos:Pos} {wi:TI} {g:TG} {te:TE} {pins:List (Addr×Obj)} {s:Shared} {σ:L2.St} {H:Hp} {Q:VK} (RR:Value->Addr->Result->Shared->Prop) (hc:X.calm=true) (B:BlkOk X N capt scope cl) (hi:PI X tg iter wi)
  (hg:∀ C s H fp,PG (blk X N scope cl C s H fp) tg g) (he:∀ C s H fp,PE (blk X N scope cl C s H fp) elt te) (I:Inv X pins σ H s) (h:qbU wi capt g te σ H Q)
  (fin:∀ (D C:Addr) (s4:Shared) (Hq:Hp) (m:Str->Option Value),Inv X pins σ Hq s4->Q (.ref D) Hq->s4.heap.Ns C m->Hq C=none->C≠X.env.locals->X.s₀.heap.objs.size<=C->(∀ x c,X.env.cells.lookup x=some c->c≠C)->(∀ p∈X.pn++pins,p.1≠C)->RR (.ref D) C (.ok .next) s4) :
  wpAny (model X.prog X.w) X.A (eval iter X.env) (λx s₁=>wpAny (model X.prog X.w) X.A (pyIter x) (λit s₂=>wpAny (model X.prog X.w) X.A (newList []) (λacc s₃=>
   wpAny (model X.prog X.w) X.A (newFunctionEnv scope X.env.globals cl [] X.env.qual none .none (some X.env)) (λcenv s₄=>
    codeAny (model X.prog X.w) X.A (.compStart (.ListComp elt [⟨tg,iter,[],0⟩] scope pos) 0 it acc { cenv with scope:=relabel scope X.env }) (RR acc cenv.locals) s₄) X.xe s₃) X.xe s₂) X.xe s₁) X.xe s:=by
 refine thn (hi pins s σ H _ I h) λv s1 h1=>thn h1 λitv s2 h2=>?_
 obtain ⟨it,fp,tn,J,H2,e,I2,T,st2,f2,n0,W,w0,turn⟩:=h2
 subst e
 have fl:∀ b∈fp,b<s2.heap.objs.size:=λb hb=>by obtain ⟨o,e,_⟩:=T.obj _ _ st2 b hb;exact Heap.lt_size e
 refine wpAny_newObj_type (wpAny_newFunctionEnv B.nocell (by intro y hy;simp at hy) (λh₁ hns₁ hsb₁=>?_) B.kind)
 dsimp only at hns₁ hsb₁ ⊢
 generalize hG:s2.heap.push { cls:=.type "list", dict:=none,data:=.seq ([]:List Value).toArray }=G at hns₁ hsb₁ ⊢
 have hC:G.objs.size=s2.heap.objs.size+1:=by rw [<-hG,Heap.size_push]
 have hCle:s2.heap.objs.size<=G.objs.size:=by rw [hC];exact Nat.le_succ _
 have hDC:s2.heap.objs.size≠G.objs.size:=by rw [hC];exact was (wcb _)
 have old:∀ b o,s2.heap.get? b=some o->h₁.get? b=some o:=λb o e=>hsb₁.extBut b o (by rw [hC];exact was (Nat.lt_succ_of_lt (Heap.lt_size e))) (Heap.get?_push_of_some _ (hG ▸ Heap.get?_push_of_some _ e))
 have hacc:h₁.get? s2.heap.objs.size=some { cls:=.type "list", data:=.seq ([]:List Value).toArray }:=hsb₁.extBut _ _ hDC (Heap.get?_push_of_some _ (hG ▸ Heap.get?_push_size _ rfl))
 have ok':=qnz B I2 f2 fl hCle
 have nsD:s2.heap.objs.size∉frs X.stack:=λhb=>by
  rcases wa0.mp (I2.stkSub _ hb) with z | z
  ·exact absurd I2.lt (by rw [<-z];exact wbc _)
  ·exact I2.nofs (wad _) z
 have ncD:∀ x c,cl.lookup x=some c->c≠s2.heap.objs.size:=λx c e z=>by
  obtain ⟨v,q⟩:=I2.cell x c (B.cells x c e)
  exact absurd q.lt (by rw [z];exact wbc _)
 have nfD:∀ b∈fp,s2.heap.objs.size≠b:=λb hb z=>absurd (fl b hb) (by rw [<-z];exact wbc _)
 have I₁:Inv (blk X N scope cl G.objs.size s2 H2 fp) [] (qcO capt σ) H2 { s2 with heap:=h₁,toks:=s2.toks+([]:List (Str×Value)).length }:=qnA B I2 f2 fl hCle hns₁ old
 have loop:codeAny (model X.prog X.w) X.A (.compLoop (.ListComp elt [⟨tg,iter,[],0⟩] scope pos) 0 (.ref it) (.ref s2.heap.objs.size) (compEnvC scope cl G.objs.size X.env))
   (RR (.ref s2.heap.objs.size) G.objs.size) { s2 with heap:=h₁,toks:=s2.toks+([]:List (Str×Value)).length }:=by
  refine qkF (λn s'=>∃ (i:Nat) (ys:List V) (its:List Value) (k:Nat) (Hc:Hp),Inv (blk X N scope cl G.objs.size s2 H2 fp) [] (qcO capt σ) Hc s'/\s'.heap.get? s2.heap.objs.size=some { cls:=.type "list", data:=.seq its.toArray k }/\Vals ys its/\
   Hc s2.heap.objs.size=none/\tn i s'.heap/\(∀ b∈fp,Hc b=none)/\W i ys Hc/\n=n0 - i) ?_ n0 ⟨0,[],[],0,H2,I₁,hacc,.nil,I2.hok.fresh (wad _),T.keep _ _ _ st2 (λb _ o e=>old b o e),λb hb=>(f2 b hb).1,w0,rfl⟩
  rintro n s3 ⟨i,ys,its,k,Hc,I3,hD,hv,nD,st3,fr3,w3,en⟩
  obtain ⟨_,hl,step⟩:=turn i ys Hc w3
  have hz:its.toArray.size<=sizeLine:=by rw [wal,<-hv.length];exact hl
  have I3p:Inv (blk X N scope cl G.objs.size s2 H2 fp) [(s2.heap.objs.size,{ cls:=.type "list", data:=.seq its.toArray k })] (qcO capt σ) Hc s3:=I3.pins_of λp hp=>by
   rw [war] at hp
   subst hp
   exact ⟨hD,nD,hDC,nsD,λv z=>nomatch z⟩
  have fo3:∀ {Hx:Hp} (_:∀ b∈fp,Hx b=none),∀ b∈fp,qkv (blk X N scope cl G.objs.size s2 H2 fp) [(s2.heap.objs.size,{ cls:=.type "list", data:=.seq its.toArray k })] Hx b:=λhx b hb=>
   ⟨hx b hb,(ok'.exf b hb).1,ok'.exfs b hb,.inl hb,(ok'.exf b hb).2,λp hp=>by
    have hp':p∈[((s2.heap.objs.size,{ cls:=.type "list", data:=.seq its.toArray k }):Addr×Obj)]:=hp
    rw [war] at hp'
    subst hp'
    exact nfD b hb⟩
  rcases step with ⟨stop,q⟩ | ⟨ltn,go,nxt⟩
  ·refine thn (T.done (blk X N scope cl G.objs.size s2 H2 fp) rfl rfl rfl hc i _ s3 _ Hc _ I3p (fo3 fr3) st3 stop) λr s4 ⟨hr,I4⟩=>?_
   subst hr
   have hD4:=(I4.pin (s2.heap.objs.size,{ cls:=.type "list", data:=.seq its.toArray k }) (wbf _ (war.mpr rfl))).1
   obtain ⟨m,hn,_⟩:=I4.loc
   have nDt:∀ b u,Hc b=some u->b≠s2.heap.objs.size:=λb u e z=>by rw [z,nD] at e;cases e
   have oldC:∀ b o,s2.heap.get? b=some o->b≠s2.heap.objs.size:=λb o e=>was (Heap.lt_size e)
   have ub:Un (frs X.stack) fp H2 Hc s2.heap s4.heap:=I4.base
   have cC:∀ b,b<s2.heap.objs.size->b≠G.objs.size:=λb hb z=>absurd (wa8 hb hCle) (by rw [z];exact wbc _)
   refine fin _ G.objs.size s4 (upd Hc s2.heap.objs.size (.lst ys)) m ?_ (q _ nD) hn (by rw [qaA (λz=>hDC z.symm)];exact I4.free) (λz=>cC _ I2.lt z.symm) (wa3 I2.sz hCle)
    (λx c e=>by obtain ⟨v,q⟩:=I2.cell x c e;exact cC _ q.lt) λp hp=>cC _ (Heap.lt_size (I2.pin p hp).1)
   refine I2.call' (ch:=fp) (s':=s4) I4.os ?_ ?_ I4.bare λb hb=>⟨(f2 b hb).2.2.2.1,(f2 b hb).2.1,(f2 b hb).2.2.2.2.1,(f2 b hb).2.2.2.2.2⟩
   ·refine ⟨ub.keep,ub.slot,λb o e n hx=>?_,ub.there,λb xs e=>?_,λb o u e=>?_,λb ps e=>?_⟩
    ·rw [qaA (oldC b o e)];exact ub.free b o e n hx
    ·have z:=ub.tups b xs e
     rw [qaA (nDt b _ z)];exact z
    ·have z:=ub.frzs b o u e
     rw [qaA (nDt b _ z)];exact z
    ·obtain ⟨more,z⟩:=ub.tbls b ps e
     exact ⟨more,by rw [qaA (nDt b _ z)];exact z⟩
   ·intro b u e
    by_cases hb:b=s2.heap.objs.size
    ·subst hb
     rw [qag] at e
     cases e
     exact ⟨hl,its,k,hv,hD4⟩
    ·rw [qaA hb] at e
     exact (I4.hok b u e).stay (λc v _ q=>q) (λc q=>by rw [qaA (nDt c _ q)];exact q) λc xs q=>by rw [qaA (nDt c _ q)];exact q
  ·refine thn (T.item (blk X N scope cl G.objs.size s2 H2 fp) rfl rfl rfl hc i _ s3 _ Hc _ I3p (fo3 fr3) st3 go) λr s4 ⟨u,hr,h4⟩=>?_
   subst hr
   refine thn h4 λ_ s5 ⟨x,H5,I5,r5,y5,st5,fr5⟩=>?_
   have I5':=I5.pinned (fo3 fr5) (T.obj _ _ st5)
   refine thn (hg _ _ _ _ _ s5 _ H5 x u _ I5' r5 (nxt x H5 y5)) λ_ s6 ⟨σ6,H6,I6,q6⟩=>?_
   refine thn (he _ _ _ _ _ s6 σ6 H6 _ I6 q6) λuy s7 ⟨y,H7,I7,r7,w7⟩=>?_
   have pD:=I7.pin (s2.heap.objs.size,{ cls:=.type "list", data:=.seq its.toArray k }) (wbf _ (wcq _ (war.mpr rfl)))
   have pF:∀ b∈fp,∀ o,s5.heap.get? b=some o->s7.heap.get? b=some o/\H7 b=none:=λb hb o e=>by
    have z:=I7.pin (b,o) (wbf _ (wbf _ (qc5 hb e)))
    exact ⟨z.1,z.2.1⟩
   refine append_at (hsz:=hz) pD.1 λh8 sb8 hD8=>?_
   have I7n:Inv (blk X N scope cl G.objs.size s2 H2 fp) [] σ6 H7 s7:=I7.pins_of λp hp=>nomatch hp
   have I8:Inv (blk X N scope cl G.objs.size s2 H2 fp) [] σ6 H7 { s7 with heap:=h8,toks:=s7.toks }:=I7n.turned (λb o hb e=>sb8.extBut b o hb e) pD.2.1 hDC (.inr (wad _)) ncD (λp hp=>nomatch hp)
   refine ⟨n0 - (i+1),⋯,i+1,ys++[y],its++[uy],k+1,H7,qgW B I2 f2 I8,?_,Paired.snoc hv r7,pD.2.1,T.keep _ _ _ st5 (λb hb o e=>sb8.extBut b o (nfD b hb).symm (pF b hb o e).1),λb hb=>?_,w7,rfl⟩
   ·show h8.get? _=_
    rw [hD8,List.push_toArray]
   ·obtain ⟨o,e,_⟩:=T.obj _ _ st5 b hb
    exact (pF b hb o e).2
 exact codeAny_compStart_list loop (T.self X.A 0 _ _ _ (T.keep _ _ _ st2 (λb _ o e=>old b o e)) loop)
theorem qcw {elt iter tg:Expr} {pos:Pos} {wi:TI} {g:TG} {te:TE} (hc:X.calm=true) (B:BlkOk X N capt scope cl) (hi:PI X tg iter wi)
  (hg:∀ C s H fp,PG (blk X N scope cl C s H fp) tg g) (he:∀ C s H fp,PE (blk X N scope cl C s H fp) elt te)
  (hs:∀ x,foldedSetIterable iter X.env x=pure x:=by intro _;rfl):PE X (.ListComp elt [⟨tg,iter,[],0⟩] scope pos) (qbU wi capt g te):=by
 intro pins s σ H Q I h
 rw [eval_ListComp]
 refine wpAny_comprehension_free (use:=none) rfl hs B.clos B.kind B.names (qjF (λacc C=>compPost (model X.prog X.w) X.A X.xe none (EP X pins σ Q) acc C) hc B hi hg he I h λD C s4 Hq m I4 q hn hf h1 h2 h3 h4=>?_)
 exact ⟨m,hn,λh' sb=>⟨.ref D,Hq,I4.turned (λb o hb e=>sb.extBut b o hb e) hf h1 (.inr h2) h3 h4,rfl,q⟩⟩
theorem qiH {i:Nat} {x:Str} {pos' spos:Pos} {elt iter tg:Expr} {pos:Pos} {wi:TI} {g:TG} {te:TE} (hN:X.N.Nodup) (hi':X.N[i]?=some x) (hx:Loc X.env.scope x) (hc:X.calm=true) (B:BlkOk X N capt scope cl) (hi:PI X tg iter wi)
  (hg:∀ C s H fp,PG (blk X N scope cl C s H fp) tg g) (he:∀ C s H fp,PE (blk X N scope cl C s H fp) elt te)
  (hsw:swapsWith (.ListComp elt [⟨tg,iter,[],0⟩] scope pos) (some (.Name x pos')) spos.line X.env=pure true:=by rfl)
  (hs:∀ x,foldedSetIterable iter X.env x=pure x:=by intro _;rfl) (hf:X.fn x=true\/X.env.scope.names.lookup x=some .local:=by first | exact .inl rfl | exact .inr rfl | assumption) :
  PS X (.Assign [.Name x pos'] (.ListComp elt [⟨tg,iter,[],0⟩] scope pos) spos) (qaK (qbU wi capt g te) (qaj i)):=by
 intro pins s σ H D I h
 rw [exec_Assign_Name_used _ _ _ _ hsw]
 refine wpAny_bind (wpAny_standAt (wpAny_bind ?_))
 show wpAny _ X.A (do let _ <-comprehension (.ListComp elt [⟨tg,iter,[],0⟩] scope pos) scope X.env _ (newList []) false (eval iter X.env) (some (assign (.Name x pos') X.env))) _ _ s
 refine wpAny_bind (wpAny_mono (wpAny_comprehension_free (use:=some (assign (.Name x pos') X.env)) (Q:=λ_ s'=>SP X pins D .next s') rfl hs B.clos B.kind B.names
  (qjF (λacc C=>compPost (model X.prog X.w) X.A X.xe (some (assign (.Name x pos') X.env)) (λ_ s'=>SP X pins D .next s') acc C) hc B hi hg he I h λDa C s4 Hq m I4 q hn hfr h1 h2 h3 h4=>?_)) (λ_ s' hq=>wpAny_pure (wpAny_pure hq)) λ_ _ e=>e)
 show wpAny _ X.A (assign (.Name x pos') X.env (.ref Da)) _ _ _
 refine wpAny_assign_Name (qjn I4 hN hi' hx (v:=.ref Da) rfl (λs5 I5 ⟨a,sb5,ha⟩=>⟨m,hn.sameBut sb5 ?_,λh' sb=>⟨_,_,I5.turned (λb o hb e=>sb.extBut b o hb e) hfr h1 (.inr h2) h3 h4,q⟩⟩) hf)
 rcases ha with z | z
 ·rw [z];exact h1
 ·exact λe=>h3 x a z e.symm
end
end Bs
namespace Bs
open PySem PySem.Spec PyProof.Rows L2
open PySem.AutoSeq1 (wpAny_loadPart')
section
variable {prog:Program} {w:World} {A:Around} {E:Value->Shared->Prop} {s:Shared} {e it t:Addr} {i:Nat} {zs:Array Value}
end
section
variable {X:Cx} {pins:List (Addr×Obj)} {σ:L2.St} {H:Hp} {s:Shared}
theorem qpA {e it:Addr} {g:Heap} {tk:Nat} {xs:List V} {its:List Value} (I:Inv X pins σ H s) (fe:qkv X pins H e) (fi:qkv X pins H it) (k:∀ b o,b≠e->b≠it->s.heap.get? b=some o->g.get? b=some o)
  (hz:xs.length<=sizeLine) (rv:Vals xs its) (ht:g.get? s.heap.objs.size=some { cls:=.type "tuple", data:=.seq its.toArray }):Inv X pins σ (upd H s.heap.objs.size (.tup xs)) { s with heap:=g,toks:=tk }:=by
 have nT:H s.heap.objs.size=none:=I.hok.fresh (wad _)
 have old:∀ b o,s.heap.get? b=some o->b≠s.heap.objs.size:=λb o q=>was (Heap.lt_size q)
 have tr:∀ b u,H b=some u->b≠s.heap.objs.size/\b≠e/\b≠it:=λb u q=>⟨qan q nT,qan q fe.1,qan q fi.1⟩
 have off:∀ b,b∉[e,it]->b≠e/\b≠it:=λb hb=>⟨λz=>hb (by simp [z]),λz=>hb (by simp [z])⟩
 refine I.step (g':=s.gens) (d':=s.drawn) (ch:=[e,it]) (λb hb=>?_) (λb o _ _ hc q _=>k b o (off b hc).1 (off b hc).2 q) (λb o _ _ hc q _=>⟨o.slots,k b o (off b hc).1 (off b hc).2 q⟩) (λb o _ q n=>?_) (λb o hc q=>⟨o,k b o (off b hc).1 (off b hc).2 q⟩)
  (λb ys q=>?_) (λb o u q=>?_) (λb ps q=>⟨#[],?_⟩) (λm hm=>?_) (λb u q=>?_) I.bare
 ·have z:b=e\/b=it:=by simpa using hb
  rcases z with rfl | rfl
  ·exact ⟨fe.2.2.2.1,fe.2.1,fe.2.2.2.2.1,fe.2.2.2.2.2⟩
  ·exact ⟨fi.2.2.2.1,fi.2.1,fi.2.2.2.2.1,fi.2.2.2.2.2⟩
 ·rw [qaA (old b o q)];exact n
 ·rw [qaA (tr b _ q).1];exact q
 ·rw [qaA (tr b _ q).1];exact q
 ·rw [qaA (tr b _ q).1,q];simp
 ·obtain ⟨o,es,ep,ho,hr⟩:=hm
  exact ⟨o,es,ep,k _ o fe.2.1.symm fi.2.1.symm ho,hr⟩
 ·by_cases hb:b=s.heap.objs.size
  ·subst hb
   rw [qag] at q
   cases q
   exact ⟨hz,its,rv,⟨_,ht,rfl,_,rfl⟩⟩
  ·rw [qaA hb] at q
   refine (I.hok b u q).stay (λc v hc z=>?_) (λc z=>by rw [qaA (tr c _ z).1];exact z) λc ys z=>by rw [qaA (tr c _ z).1];exact z
   rcases hc with y | y
   ·subst y;exact k _ v (tr _ u q).2.1 (tr _ u q).2.2 z
   ·exact k c v (tr c _ y).2.1 (tr c _ y).2.2 z
end
theorem qmp {P:Program} {w:World} {K:W.Frag} {elts:List Expr} {k:Nat} {pos:Pos} (a e it:Addr) (ne:e≠it):Turn P w K (.Tuple elts k pos) (qrh K a) [e,it] e (λi h=>(∃ old,IsEnum h e it i old)/\h.IsListIter it a i) where
 mem:=by simp
 obj:=λi h st b hb=>by
  obtain ⟨⟨old,se⟩,o,ho,c,d⟩:=st
  have z:b=e\/b=it:=by simpa using hb
  rcases z with rfl | rfl
  ·exact ⟨_,se,λv z=>nomatch z⟩
  ·exact ⟨o,ho,λv z=>by rw [d] at z;cases z⟩
 keep:=λi h h' st kk=>⟨let ⟨old,se⟩:=st.1;⟨old,kk e (by simp) _ se⟩,st.2.at λo q=>kk it (by simp) o q⟩
 item:=by
  intro X hP hw hK hc i pins s σ H E I hf st hg
  subst hP hw hK
  obtain ⟨xs,x,hq,hx⟩:=hg
  obtain ⟨⟨old,se⟩,si⟩:=st
  obtain ⟨its,rv,p,hz⟩:=I.list hq
  obtain ⟨u,hu,ru⟩:=rv.get hx
  refine wpAny_pyNext_enum_item se si p.isList (x:=u) (by simpa using hu) ne λg eo gi gt _ gk=>?_
  refine ⟨_,rfl,wpAny_letOwnedTupleGo_enum eo λg' se' sb=>?_⟩
  have I1:=qpA (g:=g') (tk:=s.toks+1) (xs:=[.int i,x]) (its:=[.int i s.toks,u]) I (hf e (by simp)) (hf it (by simp)) (λb o h1 h2 q=>sb.extBut b o h1 (gk b o h1 h2 q)) (sz (by simp)) (.cons ⟨_,rfl⟩ (.cons ru .nil)) (sb.extBut _ _ (Nat.ne_of_gt (Heap.lt_size se)) gt)
  refine ⟨.ref s.heap.objs.size,_,I1,rfl,⟨_,x,I.hok.fresh (wad _),rfl,rfl,λys hy=>by rw [I.list_inj hy hq];exact hx⟩,⟨⟨_,by simpa using se'⟩,gi.at λo q=>sb.extBut it o ne.symm q⟩,λb hb=>?_⟩
  rw [qaA]
  ·exact (hf b hb).1
  ·have z:b=e\/b=it:=by simpa using hb
   rcases z with rfl | rfl
   ·exact was (Heap.lt_size se)
   ·obtain ⟨o,ho,_⟩:=si;exact was (Heap.lt_size ho)
 done:=by
  intro X hP hw hK hc i pins s σ H E I hf st hg
  subst hP hw hK
  obtain ⟨xs,hq,hx⟩:=hg
  obtain ⟨⟨old,se⟩,si⟩:=st
  obtain ⟨its,rv,p,hz⟩:=I.list hq
  obtain ⟨f0,f1,f2,f3,f4,f5⟩:=hf it (by simp)
  have hl:=rv.length
  exact wpAny_pyNext_enum_end (I.ok.hd hc) se si p.isList (by simp;omega) λg eb=>⟨rfl,I.turned (t':=s.toks) (λb o hb q=>eb b o hb q) f0 f1 f3 f4 f5⟩
 self:=λ_ _ _ _ _ st h=>let ⟨_,se⟩:=st.1;wpAny_pyIter_enum se h
section
variable {X:Cx} {elts:List Expr} {k:Nat} {tpos:Pos} {a:Expr} {ta:TA} {p pos:Pos}
theorem qgC (hg:Gl X "enumerate") (hm:X.mg "enumerate" = none) (ha:PA X [a] ta) (hs:starEach [a] X.env=[(false,eval a X.env)]:=by rfl):PI X (.Tuple elts k tpos) (.Call (.Name "enumerate" p) [a] [] pos) (qf3 X.K ta):=by
 intro pins s σ H R I h
 refine Call_ (qen I hg hm qjE (PyProof.Rows.callWith_type1 (thn (ha pos pins s σ H _ I h) λus s1 ⟨vs,H1,I1,r1,q1⟩=>?_) hs rfl))
 obtain ⟨b,rfl,⟨xs,hq⟩,q⟩:=q1
 obtain ⟨u,rfl,ru⟩:=qfD r1
 cases ru
 obtain ⟨its,rv,pl,hz⟩:=I1.list hq
 refine call_enumerate_list pl.isList λg se si _ gk=>?_
 have I2:Inv X pins σ H1 { s1 with heap:=g }:=I1.kept (t':=s1.toks) gk
 refine wpAny_pyIter_enum se ⟨_,[s1.heap.objs.size+1,s1.heap.objs.size],_,_,H1,rfl,I2,qmp b _ _ (Nat.succ_ne_self _),⟨⟨_,se⟩,si⟩,λc hc=>?_,q⟩
 have z:c=s1.heap.objs.size+1\/c=s1.heap.objs.size:=by simpa using hc
 rcases z with rfl | rfl
 ·exact I1.fpOk (Nat.le_succ _) (I1.hok.fresh (Nat.le_succ _))
 ·exact I1.fpOk (wad _) (I1.hok.fresh (wad _))
end
end Bs
namespace Bs
open PySem L2
mutual
inductive RepD (H:Hp):V->PySem.W.Dat->Prop
 | non:RepD H .non .none
 | int (i:Int):RepD H (.int i) (.int i)
 | tup {p:Addr} {xs:List V} {ds:List PySem.W.Dat} (h:H p=some (.tup xs)) (r:RepA H xs ds):RepD H (.ref p) (.tuple ds)
 | lst {p:Addr} {xs:List V} {ds:List PySem.W.Dat} (h:H p=some (.lst xs)) (r:RepA H xs ds):RepD H (.ref p) (.list ds)
inductive RepA (H:Hp):List V->List PySem.W.Dat->Prop
 | nil:RepA H [] []
 | cons {x:V} {xs:List V} {d:PySem.W.Dat} {ds:List PySem.W.Dat} (h:RepD H x d) (r:RepA H xs ds):RepA H (x::xs) (d::ds)
end
noncomputable def eqD:R2:=λx y H Q=>∃ (d e:PySem.W.Dat) (b:Bool),RepD H x d/\RepD H y e/\PySem.W.kqdOk 8 d=true/\PySem.W.kqdOk 8 e=true/\(b=true↔d=e)/\Q (.bl b) H
noncomputable def neD:R2:=λx y H Q=>∃ (d e:PySem.W.Dat) (b:Bool),RepD H x d/\RepD H y e/\PySem.W.kqdOk 8 d=true/\PySem.W.kqdOk 8 e=true/\(b=true↔d=e)/\Q (.bl (!b)) H
noncomputable def qiI (te:TE):TT:=λσ H Q=>te σ H λx H'=>∃ p xs,x=.ref p/\H' p=some (.lst xs)/\Q (!xs.isEmpty) H'
noncomputable def qsG (te:TE):TT:=λσ H Q=>te σ H λx H'=>∃ p xs,x=.ref p/\H' p=some (.tup xs)/\Q (!xs.isEmpty) H'
noncomputable def sL:V->Option Int->Option Int->Hp->VK->Prop:=λx lo hi H Q=>∃ a xs,x=.ref a/\H a=some (.lst xs)/\∀ p,H p=none->Q (.ref p) (upd H p (.lst (qiw xs lo hi)))
noncomputable def qpB:List V->Hp->VK->Prop:=λxs H Q=>∃ p ys,xs=[.ref p]/\H p=some (.lst ys)/\∀ l,H l=none->Q (.ref l) (upd H l (.tup ys))
noncomputable def qqy:List V->Hp->VK->Prop:=λxs H Q=>∃ p ys,xs=[.ref p]/\H p=some (.tup ys)/\∀ l,H l=none->Q (.ref l) (upd H l (.lst ys))
noncomputable def qf4:List V->Hp->VK->Prop:=λxs H Q=>∃ p ys,xs=[.ref p]/\H p=some (.lst ys)/\∀ l,H l=none->Q (.ref l) (upd H l (.lst ys))
end Bs
namespace Bs
open PySem PySem.Spec PyProof.Rows L2
section
variable {X:Cx} {pins:List (Addr×Obj)} {σ:L2.St} {H:Hp} {s:Shared}
mutual
theorem qdR (I:Inv X pins σ H s):∀ {x:V} {d:PySem.W.Dat} {u:Value},RepD H x d->RelV x u->∃ as,Reads s.heap u (PySem.W.kqdP d) as
 | _,_,_,.non,e=>by cases e;rw [PySem.W.kqdP];exact ⟨_,Reads.none⟩
 | _,_,_,.int i,⟨t,e⟩=>by subst e;rw [PySem.W.kqdP];exact ⟨_,Reads.int i t⟩
 | _,_,_,.tup h r,e=>by
   cases e
   obtain ⟨its,rv,p,_⟩:=I.tuple (SqT.of h)
   obtain ⟨as,q⟩:=qkG I r rv
   obtain ⟨o,ho,hc,n,hd⟩:=p
   rw [PySem.W.kqdP]
   exact ⟨as,reads_tuple_at ho hc hd (by simpa using q)⟩
 | _,_,_,.lst h r,e=>by
   cases e
   obtain ⟨its,rv,p,_⟩:=I.list (SqL.of h)
   obtain ⟨as,q⟩:=qkG I r rv
   obtain ⟨o,n,ho,hc,_,hd⟩:=p
   rw [PySem.W.kqdP]
   exact ⟨_,reads_list_at ho hc hd (by simpa using q)⟩
theorem qkG (I:Inv X pins σ H s):∀ {xs:List V} {ds:List PySem.W.Dat} {us:List Value},RepA H xs ds->Vals xs us->∃ as,ReadsAll s.heap us (PySem.W.kqdPs ds) as
 | _,_,_,.nil,.nil=>by rw [PySem.W.kqdPs];exact ⟨_,ReadsAll.nil⟩
 | _,_,_,.cons h r,.cons e es=>by
   obtain ⟨as,q⟩:=qdR I h e
   obtain ⟨bs,q2⟩:=qkG I r es
   rw [PySem.W.kqdPs]
   exact ⟨_,ReadsAll.cons q q2⟩
end
theorem qeX {d:PySem.W.Dat} (h:PySem.W.kqdOk 8 d=true):SeqAt.shaped (PySem.W.kqdP d)=true:=by
 have z:=PySem.W.kqd_lay 8 d h
 unfold SeqAt.shaped
 rw [z.1,Bool.true_and]
 exact decide_eq_true (wa3 z.2 ∅)
theorem qqz {d e:PySem.W.Dat} {b:Bool} (h1:PySem.W.kqdOk 8 d=true) (h2:PySem.W.kqdOk 8 e=true) (hb:b=true↔d=e):PyData.eqv (PySem.W.kqdP d) (PySem.W.kqdP e)=b:=by
 rw [Bool.eq_iff_iff,hb]
 exact PySem.W.kqd_eqv 8 d e 8 h1 h2
theorem qlA (hu:X.A.units+64<cLine):OpR X (compareOp .Eq) eqD:=by
 intro pins s σ H x y v u Q I rx ry h
 obtain ⟨d,e,b,r1,r2,k1,k2,hb,q⟩:=h
 obtain ⟨as,q1⟩:=qdR I r1 rx
 obtain ⟨bs,q2⟩:=qdR I r2 ry
 exact eq_dataH q1 q2 (qeX k1) (qeX k2) hu (by rw [qqz k1 k2 hb];exact ⟨.bl b,H,I,rfl,q⟩)
theorem qqA (hu:X.A.units+64<cLine):OpR X (compareOp .NotEq) neD:=by
 intro pins s σ H x y v u Q I rx ry h
 obtain ⟨d,e,b,r1,r2,k1,k2,hb,q⟩:=h
 obtain ⟨as,q1⟩:=qdR I r1 rx
 obtain ⟨bs,q2⟩:=qdR I r2 ry
 exact ne_dataH q1 q2 (qeX k1) (qeX k2) hu (by rw [qqz k1 k2 hb];exact ⟨.bl (!b),H,I,rfl,q⟩)
theorem qfG {a:Expr} {ta:TE} (ha:PE X a ta) (he:∀ whole,isTrue a X.env whole=(do let v <-whole;standAt a.pos;holding [v] (truthy v))):PT X a (qiI ta):=λpins s σ H Q I h=>
 isTrue_plain (thn (ha pins s σ H _ I h) λv s1 ⟨x,H1,I1,r1,q1⟩=>by
  obtain ⟨p,xs,e,hp,q⟩:=q1
  subst e
  exact qsv pins s1 σ H1 _ v Q I1 r1 ⟨_,.inl ⟨xs,SqL.of hp,rfl⟩,q⟩) (he _)
theorem qfH:SlR X sL:=by
 intro pins s σ H x v vl vu lo hi sl Q I rx hs pl pu h
 obtain ⟨a,xs,e,ha,q⟩:=h
 exact qna pins s σ H x v vl vu lo hi sl Q I rx hs pl pu ⟨a,xs,e,SqL.of ha,q⟩
theorem qnB:qdN X (.type "tuple") qpB:=λpins s σ H xs us Q I r h=>by
 obtain ⟨p,ys,e,hp,q⟩:=h
 exact qiy pins s σ H xs us Q I r ⟨p,ys,e,.inl ⟨SqL.of hp,q⟩⟩
theorem qc8:qdN X (.type "list") qf4:=λpins s σ H xs us Q I r h=>by
 obtain ⟨p,ys,e,hp,q⟩:=h
 exact qjw pins s σ H xs us Q I r ⟨p,ys,e,.inl (SqL.of hp),q⟩
theorem qeg:PGet X gL:=by
 intro pins s σ H o i ov iv Q I ro ri h
 obtain ⟨p,k,xs,v,rfl,rfl,hp,ha,q⟩:=h
 cases ro
 obtain ⟨t,rfl⟩:=ri
 obtain ⟨its,r,pl,hz⟩:=I.list (SqL.of hp)
 obtain ⟨j,h1,h2,h3,h4,h5⟩:=qky ha
 obtain ⟨w,ew,rw'⟩:=r.get h2
 have hl:=r.length
 have hn:=qh4
 have fin:EP X pins σ Q w s:=⟨v,H,I,rw',q⟩
 by_cases h0:0<=k
 ·have hj:k.toNat=j:=by
   rw [seqIndex_of h0 h5] at h1
   exact Option.some.inj h1
  exact wpAny_getItem_list pl.isList h0 ⋯ (by rw [hj];simpa using ew) fin
 ·have hj:(k+(its.toArray.size:Int)).toNat=j:=by
   rw [seqIndex_neg ⋯ h4] at h1
   rw [wal,<-hl]
   exact Option.some.inj h1
  exact wpAny_getItem_list_neg pl.isList ⋯ (by rw [wal] <;> omega) ⋯ (by rw [hj];simpa using ew) fin
theorem qdS {K:W.Frag} {p:Addr} {xs:List V} (h:H p=some (.lst xs)):tyV K "list" (.ref p) H:=.inl ⟨rfl,xs,SqL.of h⟩
end
end Bs
namespace Bs
open PySem L2
noncomputable def qiJ (n:Nat) (t:TGs):TG:=λv σ H Q=>∃ a xs,v=.ref a/\H a=some (.tup xs)/\xs.length=n/\t xs σ H Q
end Bs
namespace Bs
open PySem PySem.Spec PyProof.Rows L2
theorem qfI {X:Cx} {es:List Expr} {k:Nat} {pos:Pos} {t:TGs} {n:Nat} (hc:X.calm=true) (h:PGs X es t)
  (hn:(assignEach es X.env).length=n:=by rfl) (hst:(assignEach es X.env).findIdx? (·.1)=none:=by rfl):PG X (.Tuple es k pos) (qiJ n t):=λpins s σ H v u Q I r q=>by
 obtain ⟨a,xs,e,ha,hl,q⟩:=q
 exact qst hc h hn hst pins s σ H v u Q I r ⟨a,xs,e,SqT.of ha,hl,q⟩
theorem qnC {X:Cx}:OpR X (inplaceOp .FloorDiv) qjD:=opI λi j _ _ _ _ _ hc q=>by
 refine ifloordiv_int (wai hc.1) ?_ (.inl (PyProof.noPylong_of_log2 (hc.2.log2 ∅)))
 rw [wcn i (Int.le_of_lt hc.1)]
 exact q
end Bs
namespace Bs
open PySem L2
noncomputable def sT:V->Option Int->Option Int->Hp->VK->Prop:=λx lo hi H Q=>∃ a xs,x=.ref a/\H a=some (.tup xs)/\∀ p H',(H'=H/\p=a/\qiw xs lo hi=xs)\/(H p=none/\H'=upd H p (.tup (qiw xs lo hi)))->Q (.ref p) H'
end Bs
namespace HT
open PySem PySem.Spec PyProof.Rows
end HT
namespace Bs
open PySem PySem.Spec PyProof.Rows L2
end Bs
namespace Bs
open PySem L2
noncomputable def Itd (lo:Int) (n:Nat):It:=⟨λi _=>i<n,λi H x H'=>H'=H/\x=.int (lo - i),λi _=>n<=i⟩
noncomputable def Itv (K:W.Frag) (a:Addr) (n:Nat):It:=⟨λi H=>i<n/\∃ xs,SqL K H a xs/\xs.length=n,λi H x H'=>H'=H/\∀ xs,SqL K H a xs->xs[n - 1 - i]?=some x,λi _=>n=i⟩
noncomputable def qmq (ta:TA):TI:=λσ H R=>ta σ H λvs H1=>∃ i j:Int,vs=[.int i,.int j,.int (-1)]/\(-(2 ^ 62)<=i/\i<2 ^ 62/\-(2 ^ 62)<=j/\j<2 ^ 62)/\R (Itd i (i - j).toNat) H1
noncomputable def qsH (K:W.Frag) (ta:TA):TI:=λσ H R=>ta σ H λvs H1=>∃ a xs,vs=[.ref a]/\SqL K H1 a xs/\R (Itv K a xs.length) H1
section
variable {K:W.Frag} {ta:TA} {g:TG} {tb:TS} {D:Ends} {σ:L2.St} {H:Hp} {a:Addr} {xs:List V}
theorem qnD:qep (qmq ta) g tb D σ H=ta σ H (λvs H1=>∃ i j:Int,vs=[.int i,.int j,.int (-1)]/\(-(2 ^ 62)<=i/\i<2 ^ 62/\-(2 ^ 62)<=j/\j<2 ^ 62)/\ForJ (Itd i (i - j).toNat) g tb D σ H1):=rfl
theorem qnE:qep (qsH K ta) g tb D σ H=ta σ H (λvs H1=>∃ a xs,vs=[.ref a]/\SqL K H1 a xs/\ForJ (Itv K a xs.length) g tb D σ H1):=rfl
theorem ForJ.down {lo:Int} {n:Nat} (Pv:Nat->L2.St->Hp->Prop) (h0:Pv 0 σ H)
  (hs:∀ i σ H,i<n->Pv i σ H->g (.int (lo - i)) σ H λσ2 H2=>tb { D with nx:=Pv (i+1),ct:=Pv (i+1),bk:=D.nx } σ2 H2) (hd:∀ σ H,Pv n σ H->D.nx σ H):ForJ (Itd lo n) g tb D σ H:=by
 refine ⟨λi m σ H=>m=n - i/\i<=n/\Pv i σ H,⟨n,by simp,wae _,h0⟩,?_⟩
 rintro i m σ H ⟨rfl,hi,pv⟩
 by_cases lt:i<n
 ·refine .inr ⟨lt,Pv (i+1),λσ' H' p'=>⟨n - (i+1),⋯,rfl,lt,p'⟩,λx H' y=>?_⟩
  obtain ⟨e,y⟩:=y
  subst e y
  exact hs i σ _ lt pv
 ·have e:i=n:=by omega
  subst e
  exact .inl ⟨wad _,hd σ H pv⟩
theorem ForJ.rev (Pv:Nat->L2.St->Hp->Prop) (h0:Pv 0 σ H) (hl:∀ i σ H,i<=xs.length->Pv i σ H->SqL K H a xs)
  (hs:∀ i x σ H,i<xs.length->xs[xs.length - 1 - i]?=some x->Pv i σ H->g x σ H λσ2 H2=>tb { D with nx:=Pv (i+1),ct:=Pv (i+1),bk:=D.nx } σ2 H2) (hd:∀ σ H,Pv xs.length σ H->D.nx σ H):ForJ (Itv K a xs.length) g tb D σ H:=by
 refine ⟨λi m σ H=>m=xs.length - i/\i<=xs.length/\Pv i σ H,⟨xs.length,by simp,wae _,h0⟩,?_⟩
 rintro i m σ H ⟨rfl,hi,pv⟩
 have q:=hl i σ H hi pv
 by_cases lt:i<xs.length
 ·refine .inr ⟨⟨lt,xs,q,rfl⟩,Pv (i+1),λσ' H' p'=>⟨xs.length - (i+1),⋯,rfl,lt,p'⟩,λx H' y=>?_⟩
  obtain ⟨e,y⟩:=y
  subst e
  exact hs i x σ _ lt (y xs q) pv
 ·have e:i=xs.length:=by omega
  subst e
  exact .inl ⟨rfl,hd σ H pv⟩
end
end Bs
namespace Bs
open PySem PySem.Spec PyProof.Rows L2
theorem qnF {P:Program} {w:World} {K:W.Frag} {tg:Expr} (it:Addr) (lo:Int) (n:Nat):Turn P w K tg (Itd lo n) [it] it (λi h=>IsRangeIter h it (lo+(i:Nat)*(-1)) ((n:Int) - (i:Nat)) (-1)) where
 mem:=by simp
 obj:=λi h st b hb=>by
  have e:b=it:=by simpa using hb
  subst e
  exact ⟨_,st,λv z=>by
   have z':Data.fields _=Data.cell v:=z
   cases z'⟩
 keep:=λi h h' st k=>k it (by simp) _ st
 item:=by
  intro X hP hw hK hc i pins s σ H E I hf st hg
  subst hP hw hK
  obtain ⟨f0,f1,f2,f3,f4,f5⟩:=hf it (by simp)
  have W:=Walks.range (prog:=X.prog) (w:=X.w) (I.ok.hd hc) it lo (-1) n
  refine W.item i s _ _ hg st λv h' tk hv st' kk=>?_
  obtain ⟨t,rfl⟩:=hv
  have I1:Inv X pins σ H { s with heap:=h',toks:=tk }:=I.turned (λb o hb e=>kk b o (by simpa using hb) e) f0 f1 f3 f4 f5
  refine ⟨_,rfl,qmU (s:={ s with heap:=h',toks:=tk }) (n := "range_iterator") st' rfl rfl ∅ ⟨.int (lo - i),H,I1,⟨t,?_⟩,⟨rfl,rfl⟩,st',λb hb=>(hf b hb).1⟩⟩
  rw [show lo+(i:Int)*(-1)=lo - i by omega]
 done:=by
  intro X hP hw hK hc i pins s σ H E I hf st hg
  subst hP hw hK
  obtain ⟨f0,f1,f2,f3,f4,f5⟩:=hf it (by simp)
  exact wpAny_pyNext_range_end (I.ok.hd hc) st (by have:n<=i:=hg;omega) λh' eb=>⟨rfl,I.turned (t':=s.toks) (λb o hb e=>eb b o hb e) f0 f1 f3 f4 f5⟩
 self:=λ_ _ _ _ _ st h=>wpAny_pyIter_rangeiter st h
theorem qjG (a b:Int):Builtin.Range.rangeSize a b (-1)=if b<a then a - b else 0:=by
 unfold Builtin.Range.rangeSize
 simp only [show ¬ ((-1:Int) > 0) by decide,if_false,Int.neg_neg,Int.ediv_one]
 split <;> omega
theorem qmr {a b:Int} (ha:-(2 ^ 62)<=a) (ha':a<2 ^ 62) (hb:-(2 ^ 62)<=b) (hb':b<2 ^ 62):Builtin.Range.small a b (-1)=true:=by
 unfold Builtin.Range.small
 rw [qjG]
 simp only [Builtin.Range.rangeFitsLong,Bool.and_eq_true,Bool.or_eq_true,decide_eq_true_eq,beq_iff_eq,show ¬ ((-1:Int) > 0) by decide,if_false]
 split <;> omega
theorem qeY {X:Cx} {tg:Expr} {a b c:Expr} {ta:TA} {p pos:Pos} (hg:Gl X "range") (hm:X.mg "range" = none) (ha:PA X [a,b,c] ta) (hs:starEach [a,b,c] X.env=[(false,eval a X.env),(false,eval b X.env),(false,eval c X.env)]:=by rfl) (hs2:starEach [b,c] X.env=[(false,eval b X.env),(false,eval c X.env)]:=by rfl) :
  PI X tg (.Call (.Name "range" p) [a,b,c] [] pos) (qmq ta):=by
 intro pins s σ H R I h
 refine Call_ (qen I hg hm boot_range (PyProof.Rows.callWith_type1 (thn (ha pos pins s σ H _ I h) λus s1 ⟨vs,H1,I1,r1,q1⟩=>?_) (by rw [hs,hs2]) (by rw [hs2];rfl)))
 obtain ⟨i,j,e,⟨q1,q2,q3,q4⟩,q⟩:=q1
 subst e
 cases r1 with
 | cons r rr=>
   cases rr with
   | cons r' rr=>
     cases rr with
     | cons r'' rr=>
       cases rr
       obtain ⟨t,rfl⟩:=r
       obtain ⟨t',rfl⟩:=r'
       obtain ⟨t'',rfl⟩:=r''
       refine call_range_3 ∅ ?_ (.inl (PyProof.noPylong_small ∅))
       refine wpAny_pyIter_range (IsRange.new ..) (qmr q1 q2 q3 q4) ?_
       have I2:Inv X pins σ H1 { s1 with heap:=s1.heap.push { cls:=.type "range", data:=.fields #[.int i t,.int j t',.int (-1) t''] },toks:=s1.toks }:=I1.kept λb o e=>Heap.get?_push_of_some _ e
       refine ⟨(s1.heap.push { cls:=.type "range", data:=.fields #[.int i t,.int j t',.int (-1) t''] }).objs.size,[(s1.heap.push { cls:=.type "range", data:=.fields #[.int i t,.int j t',.int (-1) t''] }).objs.size],_,_,H1,rfl,
        I2.kept (t':=s1.toks) λb o e=>Heap.get?_push_of_some _ e,qnF _ i (i - j).toNat,?_,λb hb=>?_,q⟩
       ·have e1:i+((0:Nat):Int)*(-1)=i:=by simp
        have e2:(((i - j).toNat:Nat):Int) - ((0:Nat):Int)=Builtin.Range.rangeSize i j (-1):=by rw [qjG];split <;> omega
        show IsRangeIter _ _ (i+((0:Nat):Int)*(-1)) ((((i - j).toNat:Nat):Int) - ((0:Nat):Int)) (-1)
        rw [e1,e2]
        exact Heap.get?_push_size _ rfl
       ·have e:b=(s1.heap.push { cls:=.type "range", data:=.fields #[.int i t,.int j t',.int (-1) t''] }).objs.size:=by simpa using hb
        subst e
        exact I2.fpOk (wad _) (I2.hok.fresh (wad _))
theorem qpC {P:Program} {w:World} {K:W.Frag} {tg:Expr} (a it:Addr) (n:Nat):Turn P w K tg (Itv K a n) [it] it (λi h=>h.IsRevIter it a ((n:Int) - 1 - (i:Int))) where
 mem:=by simp
 obj:=λi h st b hb=>by
  have e:b=it:=by simpa using hb
  subst e
  obtain ⟨o,e,c,d⟩:=st
  exact ⟨o,e,λv z=>by rw [d] at z;cases z⟩
 keep:=λi h h' st k=>st.at λo e=>k it (by simp) o e
 item:=by
  intro X hP hw hK hc i pins s σ H E I hf st hg
  subst hP hw hK
  obtain ⟨hi,xs,hq,hn⟩:=hg
  obtain ⟨its,rv,p,hz⟩:=I.list hq
  have hx:xs[n - 1 - i]?=some (xs[n - 1 - i]'⋯):=wag ⋯
  obtain ⟨u,hu,ru⟩:=rv.get hx
  obtain ⟨f0,f1,f2,f3,f4,f5⟩:=hf it (by simp)
  have st2:s.heap.IsRevIter it a ((n - 1 - i:Nat):Int):=by rw [show ((n - 1 - i:Nat):Int)=(n:Int) - 1 - (i:Int) by omega];exact st
  refine wpAny_pyNext_rev_item st2 p.isList (x:=u) (by simpa using hu) λh' st' sb=>?_
  have I1:Inv X pins σ H { s with heap:=h' }:=I.turned (t':=s.toks) (λb o hb e=>(sb.2 b hb).trans e) f0 f1 f3 f4 f5
  obtain ⟨o,e,c,d⟩:=id st'
  have st3:h'.IsRevIter it a ((n:Int) - 1 - ((i+1:Nat):Int)):=by rw [show (n:Int) - 1 - ((i+1:Nat):Int)=((n - 1 - i:Nat):Int) - 1 by omega];exact st'
  exact ⟨u,rfl,qmU (s:={ s with heap:=h' }) e c d ∅ ⟨_,H,I1,ru,⟨rfl,λys hy=>by rw [I.list_inj hy hq];exact hx⟩,st3,λb hb=>(hf b hb).1⟩⟩
 done:=by
  intro X hP hw hK hc i pins s σ H E I hf st hg
  subst hP hw hK
  have hg':n=i:=hg
  subst hg'
  obtain ⟨f0,f1,f2,f3,f4,f5⟩:=hf it (by simp)
  have st2:s.heap.IsRevIter it a (-1):=by rw [show (-1:Int)=(n:Int) - 1 - (n:Int) by omega];exact st
  exact wpAny_pyNext_rev_end (I.ok.hd hc) st2 λh' eb=>⟨rfl,I.turned (t':=s.toks) (λb o hb e=>eb b o hb e) f0 f1 f3 f4 f5⟩
 self:=λ_ _ _ _ _ st h=>wpAny_pyIter_revIter st h
theorem qnG {X:Cx} {tg:Expr} {a:Expr} {ta:TA} {p pos:Pos} (hg:Gl X "reversed") (hm:X.mg "reversed" = none) (ha:PA X [a] ta) (hs:starEach [a] X.env=[(false,eval a X.env)]:=by rfl):PI X tg (.Call (.Name "reversed" p) [a] [] pos) (qsH X.K ta):=by
 intro pins s σ H R I h
 refine Call_ (qen I hg hm qkE (PyProof.Rows.callWith_type1 (thn (ha pos pins s σ H _ I h) λus s1 ⟨vs,H1,I1,r1,q1⟩=>?_) hs rfl))
 obtain ⟨b,xs,rfl,hq,q⟩:=q1
 obtain ⟨u,rfl,ru⟩:=qfD r1
 cases ru
 obtain ⟨its,rv,pl,hz⟩:=I1.list hq
 refine call_reversed_list pl.isList ?_
 have I2:Inv X pins σ H1 { s1 with heap:=s1.heap.push (revObj b ((its.toArray.size:Int) - 1)) }:=I1.kept (t':=s1.toks) λb o e=>Heap.get?_push_of_some _ e
 have hl:=rv.length
 have si:(s1.heap.push (revObj b ((its.toArray.size:Int) - 1))).IsRevIter s1.heap.objs.size b ((xs.length:Int) - 1 - ((0:Nat):Int)):=by
  rw [show (xs.length:Int) - 1 - ((0:Nat):Int)=(its.toArray.size:Int) - 1 by rw [wal];omega]
  exact ⟨_,Heap.get?_push_size _ rfl,rfl,rfl⟩
 refine wpAny_pyIter_revIter si ⟨_,[s1.heap.objs.size],_,_,H1,rfl,I2,qpC b _ xs.length,si,λc hc=>?_,q⟩
 have z:c=s1.heap.objs.size:=by simpa using hc
 subst z
 exact I1.fpOk (wad _) (I1.hok.fresh (wad _))
end Bs
namespace Bs
open PySem L2
noncomputable def qsk:R2:=λx y H Q=>y=.non/\Q (.bl (decide (x=.non))) H
noncomputable def qpD:R2:=λx y H Q=>y=.non/\Q (.bl (!decide (x=.non))) H
noncomputable def qtF (_ j:Int):Prop:=0<j
noncomputable def qri (_ j:Int):Prop:=j≠0
noncomputable abbrev qjH:R2:=rI qtF λi j=>.int (i / j)
noncomputable abbrev qhJ:R2:=rI qri λi j=>.int (i.fdiv j)
noncomputable def Itz (K:W.Frag) (a b:Addr):It:=
 ⟨λi H=>∃ xs ys x y,SqL K H a xs/\SqL K H b ys/\xs[i]?=some x/\ys[i]?=some y,λi H v H'=>∃ p x y,H p=none/\v=.ref p/\H'=upd H p (.tup [x,y])/\(∀ xs,SqL K H a xs->xs[i]?=some x)/\∀ ys,SqL K H b ys->ys[i]?=some y,λi H=>∃ xs ys,SqL K H a xs/\SqL K H b ys/\xs.length<=i⟩
noncomputable def qtG (K:W.Frag) (ta:TA):TI:=λσ H R=>ta σ H λvs H1=>∃ a b,vs=[.ref a,.ref b]/\(∃ xs,SqL K H1 a xs)/\(∃ ys,SqL K H1 b ys)/\R (Itz K a b) H1
noncomputable def qlB (wi:TI) (capt:List (Option Nat)) (g:TG) (tc:TT) (te:TE):TE:=λσ H Q=>wi σ H λJ H1=>∃ (n:Nat) (W:Nat->List V->Hp->Prop),W 0 [] H1/\∀ i ys H,W i ys H->i<=n/\ys.length<=sizeLine/\
 ((J.stop i H/\∀ p,H p=none->Q (.ref p) (upd H p (.lst ys)))\/(i<n/\J.go i H/\∀ x H',J.yld i H x H'->g x (qcO capt σ) H' λσ2 H2=>tc σ2 H2 λb H3=>if b=true then te σ2 H3 λy H4=>W (i+1) (ys++[y]) H4 else W (i+1) ys H3))
noncomputable def CompF (J:It) (capt:List (Option Nat)) (g:TG) (tc:TT) (te:TE) (σ:L2.St) (Q:VK) (H1:Hp):Prop:=∃ (n:Nat) (W:Nat->List V->Hp->Prop),W 0 [] H1/\∀ i ys H,W i ys H->i<=n/\ys.length<=sizeLine/\
 ((J.stop i H/\∀ p,H p=none->Q (.ref p) (upd H p (.lst ys)))\/(i<n/\J.go i H/\∀ x H',J.yld i H x H'->g x (qcO capt σ) H' λσ2 H2=>tc σ2 H2 λb H3=>if b=true then te σ2 H3 λy H4=>W (i+1) (ys++[y]) H4 else W (i+1) ys H3))
section
variable {K:W.Frag} {ta:TA} {tl:TE} {capt:List (Option Nat)} {g:TG} {tc:TT} {te:TE} {tb:TS} {D:Ends} {σ:L2.St} {H:Hp} {Q:VK} {a b:Addr} {xs ys:List V}
theorem qlC:qlB (qc4 K tl) capt g tc te σ H Q=tl σ H (λx H1=>∃ a,x=.ref a/\(∃ xs,SqL K H1 a xs)/\CompF (Itl K a) capt g tc te σ Q H1):=rfl
theorem qnH:qbU (qtG K ta) capt g te σ H Q=ta σ H (λvs H1=>∃ a b,vs=[.ref a,.ref b]/\(∃ xs,SqL K H1 a xs)/\(∃ ys,SqL K H1 b ys)/\CompJ (Itz K a b) capt g te σ Q H1):=rfl
theorem CompF.lst (W:Nat->List V->Hp->Prop) (h0:W 0 [] H) (hb:∀ i ys H,W i ys H->i<=xs.length/\ys.length<=sizeLine/\SqL K H a xs)
  (hs:∀ i x ys H,xs[i]?=some x->W i ys H->g x (qcO capt σ) H λσ2 H2=>tc σ2 H2 λb H3=>if b=true then te σ2 H3 λy H4=>W (i+1) (ys++[y]) H4 else W (i+1) ys H3) (hd:∀ ys H,W xs.length ys H->∀ p,H p=none->Q (.ref p) (upd H p (.lst ys))):CompF (Itl K a) capt g tc te σ Q H:=by
 refine ⟨xs.length,W,h0,λi ys H w=>⟨(hb i ys H w).1,(hb i ys H w).2.1,?_⟩⟩
 have q:SqL K H a xs:=(hb i ys H w).2.2
 by_cases h:i<xs.length
 ·refine .inr ⟨h,⟨xs,xs[i],q,by simp [h]⟩,λx H' y=>?_⟩
  obtain ⟨e,y⟩:=y
  subst e
  exact hs i x ys _ (y xs q) w
 ·have e:i=xs.length:=Nat.le_antisymm (hb i ys H w).1 (wbu.mp h)
  subst e
  exact .inl ⟨⟨xs,q,wad _⟩,hd ys H w⟩
theorem CompJ.zip (hl:xs.length=ys.length) (W:Nat->List V->Hp->Prop) (h0:W 0 [] H) (hb:∀ i zs H,W i zs H->i<=xs.length/\zs.length<=sizeLine/\SqL K H a xs/\SqL K H b ys)
  (hs:∀ i x y zs H p,xs[i]?=some x->ys[i]?=some y->W i zs H->H p=none->g (.ref p) (qcO capt σ) (upd H p (.tup [x,y])) λσ2 H2=>te σ2 H2 λz H3=>W (i+1) (zs++[z]) H3) (hd:∀ zs H,W xs.length zs H->∀ p,H p=none->Q (.ref p) (upd H p (.lst zs))):CompJ (Itz K a b) capt g te σ Q H:=by
 refine ⟨xs.length,W,h0,λi zs H w=>⟨(hb i zs H w).1,(hb i zs H w).2.1,?_⟩⟩
 obtain ⟨_,_,q,q2⟩:=hb i zs H w
 by_cases h:i<xs.length
 ·refine .inr ⟨h,⟨xs,ys,xs[i],ys[i],q,q2,by simp [h],by simp [hl ▸ h]⟩,λv H' y=>?_⟩
  obtain ⟨p,x,y,hp,e1,e2,h1,h2⟩:=y
  subst e1 e2
  exact hs i x y zs _ p (h1 xs q) (h2 ys q2) w hp
 ·have e:i=xs.length:=Nat.le_antisymm (hb i zs H w).1 (wbu.mp h)
  subst e
  exact .inl ⟨⟨xs,ys,q,q2,wad _⟩,hd zs H w⟩
end
noncomputable def qrj:V->Hp->VK->Prop:=λx H Q=>∃ (p:Addr) (ns:List Int),x=.ref p/\H p=some (.lst (ns.map V.int))/\∀ m:Int,(ns=[]/\m=0\/m∈ns)->Q (.int m) H
noncomputable def qpE (te:TE):TE:=λσ H Q=>te σ H λx H1=>qrj x H1 Q
noncomputable def qpF:List V->Hp->VK->Prop:=λxs H Q=>∃ (p:Addr) (ns:List Int),xs=[.ref p]/\H p=some (.lst (ns.map V.int))/\Q (.bl (ns.any λz=>!decide (z=0))) H
end Bs
namespace Bs
open PySem PySem.Spec PyProof.Rows L2
section
variable {X:Cx} {pins:List (Addr×Obj)} {σ:L2.St} {H:Hp} {s:Shared}
theorem qcS:OpR X (binaryOp .FloorDiv) qhJ:=by
 intro pins s σ H x y v u Q I rx ry ⟨i,j,ex,ey,hc,q⟩
 subst ex ey
 obtain ⟨t,rfl⟩:=rx
 obtain ⟨t2,rfl⟩:=ry
 exact floordiv_int hc ⟨.int (i.fdiv j),H,I.tok _,⟨_,rfl⟩,q⟩ (Or.inr (I.ok.plr s I.bk))
theorem qeZ:OpR X (binaryOp .FloorDiv) qjH:=by
 intro pins s σ H x y v u Q I rx ry ⟨i,j,ex,ey,hc,q⟩
 have hc':0<j:=hc
 replace q:Q (.int (i / j)) H:=q
 rw [<-wcn i (Int.le_of_lt hc')] at q
 exact qcS pins s σ H x y v u Q I rx ry ⟨i,j,ex,ey,wai hc',q⟩
theorem qnI {fp:List Addr} {g:Heap} {tk:Nat} (I:Inv X pins σ H s) (ff:∀ b∈fp,qkv X pins H b) (k:∀ b o,b∉fp->s.heap.get? b=some o->g.get? b=some o):Inv X pins σ H { s with heap:=g,toks:=tk }:=by
 have tr:∀ b u,H b=some u->b∉fp:=λb u q hb=>by rw [(ff b hb).1] at q;cases q
 refine I.step (g':=s.gens) (d':=s.drawn) (ch:=fp) (λb hb=>⟨(ff b hb).2.2.2.1,(ff b hb).2.1,(ff b hb).2.2.2.2.1,(ff b hb).2.2.2.2.2⟩) (λb o _ _ hc q _=>k b o hc q) (λb o _ _ hc q _=>⟨o.slots,k b o hc q⟩) (λ_ _ _ _ n=>n)
  (λb o hc q=>⟨o,k b o hc q⟩) (λ_ _ q=>q) (λ_ _ _ q=>q) (λb ps q=>⟨#[],by rw [q];simp⟩) (λm hm=>?_) (λb u q=>?_) I.bare
 ·obtain ⟨o,es,ep,ho,hr⟩:=hm
  exact ⟨o,es,ep,k _ o (λhb=>(ff _ hb).2.1 rfl) ho,hr⟩
 ·refine (I.hok b u q).stay (λc v hc z=>?_) (λ_ z=>z) λ_ _ z=>z
  rcases hc with y | y
  ·subst y;exact k _ v (tr _ u q) z
  ·exact k c v (tr c _ y) z
theorem qnJ {fp:List Addr} {g:Heap} {tk:Nat} {xs:List V} {its:List Value} (I:Inv X pins σ H s) (ff:∀ b∈fp,qkv X pins H b) (k:∀ b o,b∉fp->s.heap.get? b=some o->g.get? b=some o)
  (hz:xs.length<=sizeLine) (rv:Vals xs its) (ht:g.get? s.heap.objs.size=some { cls:=.type "tuple", data:=.seq its.toArray }):Inv X pins σ (upd H s.heap.objs.size (.tup xs)) { s with heap:=g,toks:=tk }:=by
 have nT:H s.heap.objs.size=none:=I.hok.fresh (wad _)
 have tn:∀ b u,H b=some u->b≠s.heap.objs.size:=λb u q=>qan q nT
 have tr:∀ b u,H b=some u->b∉fp:=λb u q hb=>by rw [(ff b hb).1] at q;cases q
 refine I.step (g':=s.gens) (d':=s.drawn) (ch:=fp) (λb hb=>⟨(ff b hb).2.2.2.1,(ff b hb).2.1,(ff b hb).2.2.2.2.1,(ff b hb).2.2.2.2.2⟩) (λb o _ _ hc q _=>k b o hc q) (λb o _ _ hc q _=>⟨o.slots,k b o hc q⟩) (λb o _ q n=>?_)
  (λb o hc q=>⟨o,k b o hc q⟩) (λb ys q=>?_) (λb o u q=>?_) (λb ps q=>⟨#[],?_⟩) (λm hm=>?_) (λb u q=>?_) I.bare
 ·rw [qaA (was (Heap.lt_size q))];exact n
 ·rw [qaA (tn b _ q)];exact q
 ·rw [qaA (tn b _ q)];exact q
 ·rw [qaA (tn b _ q),q];simp
 ·obtain ⟨o,es,ep,ho,hr⟩:=hm
  exact ⟨o,es,ep,k _ o (λhb=>(ff _ hb).2.1 rfl) ho,hr⟩
 ·by_cases hb:b=s.heap.objs.size
  ·subst hb
   rw [qag] at q
   cases q
   exact ⟨hz,its,rv,⟨_,ht,rfl,_,rfl⟩⟩
  ·rw [qaA hb] at q
   refine (I.hok b u q).stay (λc v hc z=>?_) (λc z=>by rw [qaA (tn c _ z)];exact z) λc ys z=>by rw [qaA (tn c _ z)];exact z
   rcases hc with y | y
   ·subst y;exact k _ v (tr _ u q) z
   ·exact k c v (tr c _ y) z
end
noncomputable def qtT (a b z ti to i1 i2:Addr) (i:Nat) (h:Heap):Prop:=IsZip h z ti to .none/\IsPair h ti (.ref i1) (.ref i2)/\(∃ u v,IsPair h to u v)/\h.IsListIter i1 a i/\h.IsListIter i2 b i
theorem qpG {P:Program} {w:World} {K:W.Frag} {elts:List Expr} {k:Nat} {pos:Pos} {a b z ti to i1 i2:Addr} (D:ZipApart z ti to i1 i2 a b):Turn P w K (.Tuple elts k pos) (Itz K a b) [z,ti,to,i1,i2] z (qtT a b z ti to i1 i2) where
 mem:=by simp
 obj:=λi h st c hc=>by
  obtain ⟨s1,s2,⟨u,v,s3⟩,⟨o4,s4,_,d4⟩,⟨o5,s5,_,d5⟩⟩:=st
  have hc':c=z\/c=ti\/c=to\/c=i1\/c=i2:=by simpa using hc
  rcases hc' with rfl | rfl | rfl | rfl | rfl
  ·exact ⟨_,s1,λv q=>nomatch q⟩
  ·exact ⟨_,s2,λv q=>nomatch q⟩
  ·exact ⟨_,s3,λv q=>nomatch q⟩
  ·exact ⟨_,s4,λv q=>by rw [d4] at q;cases q⟩
  ·exact ⟨_,s5,λv q=>by rw [d5] at q;cases q⟩
 keep:=λi h h' st kk=>⟨kk z (by simp) _ st.1,kk ti (by simp) _ st.2.1,let ⟨u,v,q⟩:=st.2.2.1;⟨u,v,kk to (by simp) _ q⟩,st.2.2.2.1.at λo q=>kk i1 (by simp) o q,st.2.2.2.2.at λo q=>kk i2 (by simp) o q⟩
 item:=by
  intro X hP hw hK hc i pins s σ H E I hf st hg
  subst hP hw hK
  obtain ⟨xs,ys,x,y,hq,hq2,hx,hy⟩:=hg
  obtain ⟨s1,s2,⟨u0,v0,s3⟩,s4,s5⟩:=st
  obtain ⟨its,rv,p1,_⟩:=I.list hq
  obtain ⟨jts,rw',p2,_⟩:=I.list hq2
  obtain ⟨u,hu,ru⟩:=rv.get hx
  obtain ⟨v,hv,rw2⟩:=rw'.get hy
  refine wpAny_pyNext_zip_item D s1 s2 s3 s4 s5 p1.isList p2.isList (x:=u) (y:=v) (by simpa using hu) (by simpa using hv) λg g1 g2 g3 g4 g5 _ gk=>?_
  refine ⟨_,rfl,wpAny_letOwnedTupleGo_zip g1 λg' z1 sb=>?_⟩
  have lz:z<s.heap.objs.size:=Heap.lt_size s1
  have kept:∀ c o,c∉[z,ti,to,i1,i2]->s.heap.get? c=some o->g'.get? c=some o:=λc o hc q=>by
   have hc':¬ (c=z\/c=ti\/c=to\/c=i1\/c=i2):=by simpa using hc
   exact sb.extBut c o (λe=>hc' (.inl e)) (gk c o (λe=>hc' (.inl e)) (λe=>hc' (.inr (.inr (.inl e)))) (λe=>hc' (.inr (.inr (.inr (.inl e))))) (λe=>hc' (.inr (.inr (.inr (.inr e))))) q)
  have I1:=qnJ (g:=g') (tk:=s.toks) (xs:=[x,y]) (its:=[u,v]) I hf kept (sz (by simp)) (.cons ru (.cons rw2 .nil)) (sb.extBut _ _ (Nat.ne_of_gt lz) g5)
  refine ⟨.ref s.heap.objs.size,_,I1,rfl,⟨_,x,y,I.hok.fresh (wad _),rfl,rfl,λzs hz=>by rw [I.list_inj hz hq];exact hx,λzs hz=>by rw [I.list_inj hz hq2];exact hy⟩,⟨z1,?_,⟨u,v,sb.extBut _ _ D.TOz g2⟩,g3.at λo q=>sb.extBut i1 o D.i1z q,g4.at λo q=>sb.extBut i2 o D.i2z q⟩,λc hc=>?_⟩
  ·exact sb.extBut _ _ D.TIz (gk _ _ D.TIz D.TITO D.TIi1 D.TIi2 s2)
  ·rw [qaA]
   ·exact (hf c hc).1
   ·have hc':c=z\/c=ti\/c=to\/c=i1\/c=i2:=by simpa using hc
    obtain ⟨o4,s4,_⟩:=s4
    obtain ⟨o5,s5,_⟩:=s5
    rcases hc' with rfl | rfl | rfl | rfl | rfl
    ·exact was lz
    ·exact was (Heap.lt_size s2)
    ·exact was (Heap.lt_size s3)
    ·exact was (Heap.lt_size s4)
    ·exact was (Heap.lt_size s5)
 done:=by
  intro X hP hw hK hc i pins s σ H E I hf st hg
  subst hP hw hK
  obtain ⟨xs,ys,hq,hq2,hx⟩:=hg
  obtain ⟨s1,s2,⟨u0,v0,s3⟩,s4,s5⟩:=st
  obtain ⟨its,rv,p1,_⟩:=I.list hq
  obtain ⟨jts,_,p2,_⟩:=I.list hq2
  have hl:=rv.length
  refine wpAny_pyNext_zip_end (I.ok.hd hc) D s1 s2 s3 s4 s5 p1.isList p2.isList (.inl (by simp;omega)) λg gk=>⟨rfl,qnI (tk:=s.toks) I hf λc o hc q=>?_⟩
  have hc':¬ (c=z\/c=ti\/c=to\/c=i1\/c=i2):=by simpa using hc
  exact gk c o (λe=>hc' (.inl e)) (λe=>hc' (.inr (.inr (.inl e)))) (λe=>hc' (.inr (.inr (.inr (.inl e))))) (λe=>hc' (.inr (.inr (.inr (.inr e))))) q
 self:=λ_ _ _ _ _ st h=>wpAny_pyIter_zip st.1 h
section
variable {X:Cx} {elts:List Expr} {k:Nat} {tpos:Pos} {a b:Expr} {ta:TA} {p pos:Pos}
theorem vals2 {x y:V} {us:List Value} (r:Vals [x,y] us):∃ u v,us=[u,v]/\RelV x u/\RelV y v:=r.two
theorem qqB (hg:Gl X "zip") (hm:X.mg "zip" = none) (ha:PA X [a,b] ta) (hs:starEach [a,b] X.env=(false,eval a X.env)::starEach [b] X.env:=by rfl) (hpl:(backTo pos (starEach [b] X.env)).any (·.1)=false:=by rfl):PI X (.Tuple elts k tpos) (.Call (.Name "zip" p) [a,b] [] pos) (qtG X.K ta):=by
 intro pins s σ H R I h
 refine Call_ (qen I hg hm qsF (PyProof.Rows.callWith_type1 (thn (ha pos pins s σ H _ I h) λus s1 ⟨vs,H1,I1,r1,q1⟩=>?_) hs hpl))
 obtain ⟨l1,l2,rfl,⟨xs,hq⟩,⟨ys,hq2⟩,q⟩:=q1
 obtain ⟨u,v,rfl,ru,rv⟩:=vals2 r1
 cases ru
 cases rv
 obtain ⟨its,_,p1,_⟩:=I1.list hq
 obtain ⟨jts,_,p2,_⟩:=I1.list hq2
 refine call_zip_2 p1.isList p2.isList λg z1 z2 z3 z4 z5 _ gk=>?_
 have I2:Inv X pins σ H1 { s1 with heap:=g }:=I1.kept (t':=s1.toks) gk
 have n1:@LT.lt Nat _ l1 s1.heap.objs.size:=p1.lt
 have n2:@LT.lt Nat _ l2 s1.heap.objs.size:=p2.lt
 have D:ZipApart (s1.heap.objs.size+4) (s1.heap.objs.size+2) (s1.heap.objs.size+3) s1.heap.objs.size (s1.heap.objs.size+1) l1 l2:=by
  constructor <;> (show (_:Nat)≠_;omega)
 refine wpAny_pyIter_zip z1 ⟨_,[s1.heap.objs.size+4,s1.heap.objs.size+2,s1.heap.objs.size+3,s1.heap.objs.size,s1.heap.objs.size+1],_,_,H1,rfl,I2,qpG D,⟨z1,z2,⟨_,_,z3⟩,z4,z5⟩,λc hc=>?_,q⟩
 have hc':s1.heap.objs.size<=c:=by
  have z:c=s1.heap.objs.size+4\/c=s1.heap.objs.size+2\/c=s1.heap.objs.size+3\/c=s1.heap.objs.size\/c=s1.heap.objs.size+1:=by simpa using hc
  rcases z with z | z | z | z | z <;> rw [z] <;> first | exact Nat.le_add_right _ _ | exact wad _
 exact I1.fpOk hc' (I1.hok.fresh hc')
end
theorem qsI:bootBuiltins "any" = some (.builtin "any"):=by decide +kernel
theorem qci:∀ {ns:List Int} {us:List Value} {i:Nat} {u:Value},Vals (ns.map V.int) us->us[i]?=some u->∃ n t,ns[i]?=some n/\u=Value.int n t
 | [],_,_,_,.nil,e=>by simp at e
 | n::ns,_,0,_,.cons r _,e=>by
   simp at e;subst e
   obtain ⟨t,rfl⟩:=r
   exact ⟨n,t,rfl,rfl⟩
 | _::ns,_,i+1,u,.cons _ r,e=>by
   obtain ⟨n,t,h1,h2⟩:=qci (i:=i) (u:=u) r (by simpa using e)
   exact ⟨n,t,by simpa using h1,h2⟩
section
variable {X:Cx}
theorem qnK (hc:X.calm=true):qdN X (.builtin "any") qpF:=λpins s σ H xs us Q I r ⟨p,ns,e,hp,q⟩=>by
 subst e
 obtain ⟨u,rfl,ru⟩:=qfD r
 cases ru
 obtain ⟨its,rv,pl,hz⟩:=I.list (SqL.of hp)
 have hl:ns.length=its.length:=by have:=rv.length;simpa using this
 refine call_any_walk (wpAny_pyIter_list pl.isList ⟨s.heap.objs.size,[s.heap.objs.size,p],[s.heap.objs.size],its.toArray.size,_,_,λi=>!decide (ns.getD i 0=0),rfl,Walks.list (A:=X.A.in1) (show X.A.in1.handled=none from I.ok.hd hc) s.heap.objs.size p (was pl.lt) _,⟨⟨_,Heap.get?_push_size _ rfl,rfl,rfl⟩,pl.isList.push _⟩,?_,λg tk gk=>?_⟩)
 ·intro i v s' Q' E' hP hQ
  obtain ⟨n,t,h1,rfl⟩:=qci rv (show its[i]?=some v by simpa using hP)
  have e:ns.getD i 0=n:=by rw [wab,h1];rfl
  replace hQ:Q' (!decide (ns.getD i 0=0)) s':=hQ
  rw [e] at hQ
  refine PySem.P.truthy_int ?_
  have e2:(n != 0)=!decide (n=0):=by rw [Bool.eq_iff_iff];simp
  rw [e2]
  exact hQ
 ·have kk:∀ b o,s.heap.get? b=some o->g.get? b=some o:=λb o e=>gk b o (λz=>absurd (Heap.lt_size e) (by rw [war.mp z];exact wbc _)) (Heap.get?_push_of_some _ e)
  refine ⟨_,H,I.kept kk,?_,q⟩
  show Value.bool _=Value.bool _
  congr 1
  rw [Bool.eq_iff_iff]
  simp only [List.any_eq_true,wch,wal]
  constructor
  ·rintro ⟨i,hi,h⟩
   have hi2:i<ns.length:=by omega
   rw [wab,wag hi2] at h
   exact ⟨ns[i],wbo hi2,h⟩
  ·rintro ⟨x,hx,h⟩
   obtain ⟨i,hi,rfl⟩:=wcs hx
   refine ⟨i,⋯,?_⟩
   rw [wab,wag hi]
   exact h
end
section
variable {prog:Program} {w:World} {A:Around} {R:Result->Shared->Prop} {I:Addr} {fp wr:List Addr} {n:Nat} {P:Nat->Value->Prop} {St:Nat->Heap->Prop} {d:Value}
theorem qgX (W:Walks prog w A.in1 I fp wr n P St) (bt:Nat->Nat->Bool) (hcmp:CmpOf prog w A.in1 .Lt P bt) (S:Addr) (hSf:S∉fp):∀ (k j q:Nat) (s:Shared) (vb:Value) (c:Nat),n - j=k->j<=n->St j s.heap->q<n->P q vb->
  s.heap.get? S=some { cls:=.type "list", dict:=none,data:=.seq #[vb,vb] c,slots:=#[] }->
  (∀ q v h' tk,q<n->P q v->(∀ b o,b∉wr->b≠S->s.heap.get? b=some o->h'.get? b=some o)->R (.ok (.ret v)) { s with heap:=h',toks:=tk })->
  codeAny (model prog w) A (.builtin "min.loop" ⟨[.ref I,.none,.ref S],[("default", d)]⟩) R s
 | 0,j,q,s,vb,c,hk,hj,hst,hq,hPb,hS,hR=>by
   have jn:j=n:=by omega
   refine codeAny_builtin F.entry_min_loop ?_
   rw [Around.under_plainId F.plain_min_loop _]
   refine wpAny_bind (m:=seqItems? (.ref S)) (wpAny_seqItems hS rfl ?_)
   refine wpAny_bind (m:=tryCatch (pyNext (.ref I)) _) (wpAny_tryCatch (W.done s _ _ (jn ▸ hst) λh' tk kp=>?_))
   have hS2:=kp S _ (λz=>hSf (W.sub _ z)) hS
   refine wpAny_bind (m:=updateSeq S (λ_=>#[])) (wpAny_updateSeq hS2 rfl (wpAny_bind (wpAny_letGo (wpAny_pure ?_))))
   exact hR q vb _ tk hq hPb λb o h1 h2 e=>(Heap.get?_update_other _ _ h2.symm).trans (kp b o h1 e)
 | k+1,j,q,s,vb,c,hk,hj,hst,hq,hPb,hS,hR=>by
   have jn:j<n:=by omega
   refine codeAny_builtin F.entry_min_loop ?_
   rw [Around.under_plainId F.plain_min_loop _]
   refine wpAny_bind (m:=seqItems? (.ref S)) (wpAny_seqItems hS rfl ?_)
   refine wpAny_bind (m:=tryCatch (pyNext (.ref I)) _) (wpAny_tryCatch (W.item j s _ _ jn hst λv h' tk hP hst' kp=>?_))
   have hS2:=kp S _ (λz=>hSf (W.sub _ z)) hS
   refine wpAny_bind (m:=tryCatch (holding [v,v] (richCompare .Lt v vb >>= _)) _) (wpAny_tryCatch (wpAny_holding (wpAny_bind (hcmp j q v vb _ _ _ hP hPb ?_))))
   refine wpAny_bind (wpAny_holding (wpAny_truthy_bool (wpAny_bind (wpAny_letGo (wpAny_pure ?_)))))
   have nm:(toString "min" ++ toString ".loop" : String) = "min.loop" := by decide
   cases bt j q with
   | true=>
     simp only [if_true]
     refine wpAny_bind (wpAny_updateSeq hS2 rfl (wpAny_bind (wpAny_letGo ?_)))
     rw [nm]
     refine wpAny_pure ⟨plainId_quiet F.plain_min_loop _,qgX W bt hcmp S hSf k (j+1) j _ v _ ⋯ ⋯ (W.frame _ _ _ hst' λb hb o e=>(Heap.get?_update_other _ _ (λz:S=b=>hSf (by rw [z];exact hb))).trans e) jn hP (Heap.get?_update_self _ hS2 rfl) λq' v' h2 tk2 hq' hP' kp2=>?_⟩
     exact hR q' v' h2 tk2 hq' hP' λb o h1 h3 e=>kp2 b o h1 h3 ((Heap.get?_update_other _ _ h3.symm).trans (kp b o h1 e))
   | false=>
     simp only [Bool.false_eq_true,if_false]
     refine wpAny_bind (wpAny_letGo ?_)
     rw [nm]
     exact wpAny_pure ⟨plainId_quiet F.plain_min_loop _,qgX W bt hcmp S hSf k (j+1) q _ vb c ⋯ ⋯ hst' hq hPb hS2 λq' v' h2 tk2 hq' hP' kp2=>hR q' v' h2 tk2 hq' hP' λb o h1 h3 e=>kp2 b o h1 h3 (kp b o h1 e)⟩
theorem qms (W:Walks prog w A.in1 I fp wr n P St) (bt:Nat->Nat->Bool) (hcmp:CmpOf prog w A.in1 .Lt P bt) (S:Addr) (hSf:S∉fp) {s:Shared} {c:Nat} (hst:St 0 s.heap)
  (hS:s.heap.get? S=some { cls:=.type "list", dict:=none,data:=.seq #[] c,slots:=#[] })
  (hR:∀ v h' tk,(n=0/\v=d\/∃ q,q<n/\P q v)->(∀ b o,b∉wr->b≠S->s.heap.get? b=some o->h'.get? b=some o)->R (.ok (.ret v)) { s with heap:=h',toks:=tk }) :
  codeAny (model prog w) A (.builtin "min.loop" ⟨[.ref I,.none,.ref S],[("default", d)]⟩) R s:=by
 refine codeAny_builtin F.entry_min_loop ?_
 rw [Around.under_plainId F.plain_min_loop _]
 refine wpAny_bind (m:=seqItems? (.ref S)) (wpAny_seqItems hS rfl ?_)
 rcases wbt n with z | z
 ·refine wpAny_bind (m:=tryCatch (pyNext (.ref I)) _) (wpAny_tryCatch (W.done s _ _ (z ▸ hst) λh' tk kp=>?_))
  refine wpAny_bind (wpAny_rule (wpAny_pure ?_))
  exact hR d h' tk (.inl ⟨z,rfl⟩) λb o h1 _ e=>kp b o h1 e
 ·refine wpAny_bind (m:=tryCatch (pyNext (.ref I)) _) (wpAny_tryCatch (W.item 0 s _ _ z hst λv h' tk hP hst' kp=>?_))
  have hS2:=kp S _ (λz=>hSf (W.sub _ z)) hS
  have nm:(toString "min" ++ toString ".loop" : String) = "min.loop" := by decide
  refine wpAny_bind (m:=updateSeq S (λ_=>#[v,v])) (wpAny_updateSeq hS2 rfl ?_)
  rw [nm]
  refine wpAny_pure ⟨plainId_quiet F.plain_min_loop _,qgX W bt hcmp S hSf _ 1 0 _ v _ rfl z (W.frame _ _ _ hst' λb hb o e=>(Heap.get?_update_other _ _ (λz:S=b=>hSf (by rw [z];exact hb))).trans e) z hP (Heap.get?_update_self _ hS2 rfl) λq' v' h2 tk2 hq' hP' kp2=>?_⟩
  exact hR v' h2 tk2 (.inr ⟨q',hq',hP'⟩) λb o h1 h3 e=>kp2 b o h1 h3 ((Heap.get?_update_other _ _ h3.symm).trans (kp b o h1 e))
end
theorem qnL (a v:Value):argsOk "min" ⟨[a],[("default", v)]⟩:=by unfold argsOk;kernel_rfl
section
variable {X:Cx} {e:Expr} {te:TE} {p pos kp1 kp2:Pos} {kk:Nat}
theorem qrk (hc:X.calm=true) (hm:X.mg "min" = none) (hv:bootBuiltins "min" = some (.builtin "min")) (ha:PE X e te) (hg:Gl X "min" := by rfl)
  (hs:starEach [e] X.env=(false,eval e X.env)::starEach [] X.env:=by rfl) (hb:backTo pos (starEach [e] X.env)=(false,eval e X.env)::backTo pos (starEach [] X.env):=by rfl):PE X (.Call (.Name "min" p) [e] [⟨some "default", .Constant (.int 0) kk kp1,kp2⟩] pos) (qpE te):=by
 intro pins s σ H Q I h
 refine wpAny_Call_Name_kw (qen I hg hm hv ?_ ∅ ∅)
 refine PyProof.Rows.callWith_kw ?_ hb (by rw [hb];rfl)
 rw [hb]
 refine Calls.spliced_cons (thn (ha pins s σ H _ I h) λu s1 ⟨x,H1,I1,r1,q1⟩=>Calls.spliced_nil ?_)
 have kw:PK X [⟨some "default", .Constant (.int 0) kk kp1,kp2⟩] (qad (tC (.int 0)) qar):=qm7 qac qqr
 refine thn (kw pos pins s1 σ H1 (λvs H2=>vs=[.int 0]/\H2=H1) I1 ⟨rfl,rfl⟩) λws s2 ⟨zs,H2,I2,rz,ez,eh⟩=>?_
 subst ez eh
 obtain ⟨z,rfl,t,rfl⟩:=qfD rz
 obtain ⟨l,ns,rfl,hl,q⟩:=q1
 cases r1
 obtain ⟨its,rv,pl,hz⟩:=I2.list (SqL.of hl)
 have hle:ns.length=its.length:=by have:=rv.length;simpa using this
 have nm:(toString "min" ++ toString ".loop" : String) = "min.loop" := by decide
 refine kmb_tree F.kind_min F.plain_min F.entry_min (qnL _ _) ?_
 refine wpAny_bind (m:=Builtin.Builtins.bindParams "min" ["key", "default"] 0 ⟨[],[("default", Value.int 0 t)]⟩) (wpAny_of_eq (a:=[none,some (Value.int 0 t)]) rfl ?_)
 refine wpAny_bind (wpAny_pure (wpAny_bind (wpAny_pyIter_list pl.isList ?_)))
 refine wpAny_bind (wpAny_newObj_type ?_)
 rw [nm]
 have lp:l<s2.heap.objs.size:=pl.lt
 have nS:(s2.heap.push { cls:=.type "list_iterator", data:=.fields #[.ref l,.int 0 0] }).objs.size=s2.heap.objs.size+1:=Heap.size_push ..
 have W:=Walks.list (prog:=X.prog) (w:=X.w) (A:=X.A.in1) (show X.A.in1.handled=none from I2.ok.hd hc) s2.heap.objs.size l (was lp) its.toArray
 refine wpAny_pure ⟨plainId_quiet F.plain_min_loop _,qms W _ (CmpOf.ints_lt (λi=>ns.getD i 0) λi v hP=>?_) _ ?_ ⟨⟨_,Heap.get?_push_of_some _ (Heap.get?_push_size _ rfl),rfl,rfl⟩,(pl.isList.push _).push _⟩ (Heap.get?_push_size _ rfl) λv g tk hv2 gk=>?_⟩
 ·obtain ⟨n,t2,h1,rfl⟩:=qci rv (show its[i]?=some v by simpa using hP)
  exact ⟨t2,by rw [wab,h1];rfl⟩
 ·rw [nS]
  have:¬ (s2.heap.objs.size+1=s2.heap.objs.size\/s2.heap.objs.size+1=l):=λz=>by
   rcases z with z | z
   ·exact absurd z (Nat.succ_ne_self _)
   ·rw [<-z] at lp;exact absurd lp (wbu.mpr (Nat.le_succ _))
  simpa using this
 ·have kk2:∀ b o,s2.heap.get? b=some o->g.get? b=some o:=λb o e=>by
   have lb:b<s2.heap.objs.size:=Heap.lt_size e
   refine gk b o (λz=>?_) (λz=>?_) (Heap.get?_push_of_some _ (Heap.get?_push_of_some _ e))
   ·rw [war.mp z] at lb;exact absurd lb (wbc _)
   ·rw [z,nS] at lb;exact absurd lb (wbu.mpr (Nat.le_succ _))
  have I3:=I2.kept (t':=tk) kk2
  rcases hv2 with ⟨z,rfl⟩ | ⟨i,hi,hP⟩
  ·exact ⟨.int 0,_,I3,⟨t,rfl⟩,q 0 (.inl ⟨wbd.mp (by rw [wal] at z;omega),rfl⟩)⟩
  ·obtain ⟨n,t2,h1,rfl⟩:=qci rv (show its[i]?=some v by simpa using hP)
   exact ⟨.int n,_,I3,⟨t2,rfl⟩,q n (.inr (wau h1))⟩
end
end Bs
namespace Bs
open PySem PySem.Spec PyProof.Rows L2
section
variable {X:Cx} {pins:List (Addr×Obj)} {σ:L2.St} {H:Hp} {s:Shared} {N:List Str} {capt:List (Option Nat)} {scope:Scope} {cl:List (Str×Addr)} {C:Addr} {fp:List Addr}
theorem qjI {prog:Program} {w:World} {A:Around} {R:Result->Shared->Prop} {s:Shared} {elt target iter c:Expr} {scope:Scope} {pos:Pos} {it acc:Value} {env:Env} (I:Nat->Shared->Prop)
  (turn:∀ n s,I n s->wpAny (model prog w) A (pyNext it) (λr s₁=>match r with
   | none=>R (.ok .next) s₁
   | some v=>wpAny (model prog w) A (letOwnedTupleGo target it v) (λ_ s₂=>wpAny (model prog w) A (assign target env v) (λ_ s₃=>wpAny (model prog w) A (isTrue c env (eval c env)) (λokb s₆=>if okb=true then wpAny (model prog w) A (eval elt env) (λx s₄=>
     wpAny (model prog w) A (call (.builtin "list.append") [acc,x]) (λ_ s₅=>∃ m,m<n/\I m s₅) (λ_ _=>False) s₄) (λ_ _=>False) s₆ else ∃ m,m<n/\I m s₆) (λ_ _=>False) s₃) (λ_ _=>False) s₂) (λ_ _=>False) s₁) (λ_ _=>False) s)
  (n:Nat) (h:I n s):codeAny (model prog w) A (.compLoop (.ListComp elt [⟨target,iter,[c],0⟩] scope pos) 0 it acc env) R s:=by
 refine codeAny_loop rfl I (λn s hI=>?_) n h
 show wpAny _ A ((compTurn (.ListComp elt [⟨target,iter,[c],0⟩] scope pos) 0 it acc env).onRaise (λx=>do noteFrame x env;theTreesLotGoes x)) _ _ s
 refine wpAny_noted ?_
 rw [compTurn_list]
 have no:∀ {E':Value->Shared->Prop} (e:Value) (s':Shared),(λ(_:Value) (_:Shared)=>False) e s'->E' e s':=λ_ _ f=>f.elim
 refine wpAny_bind (wpAny_standAt (wpAny_bind (wpAny_mono (turn n s hI) (λr s₁ h₁=>?_) no)))
 cases r with
 | none=>exact wpAny_pure h₁
 | some v=>
   refine wpAny_bind (wpAny_mono h₁ (λ_ s₂ h₂=>?_) no)
   refine wpAny_bind (wpAny_mono h₂ (λ_ s₆ h₆=>wpAny_bind (wpAny_tests_one (wpAny_mono h₆ (λokb s₃ h₃=>?_) no))) no)
   cases okb with
   | false=>exact wpAny_pure ⟨rfl,h₃⟩
   | true=>exact wpAny_bind (wpAny_bind (wpAny_mono h₃ (λx s₄ h₄=>wpAny_bind (wpAny_mono h₄ (λ_ s₅ h₅=>wpAny_pure (wpAny_pure ⟨rfl,h₅⟩)) no)) no))
theorem qmt {elt iter tg c:Expr} {tc:TT} {pos:Pos} {wi:TI} {g:TG} {te:TE} {pins:List (Addr×Obj)} {s:Shared} {σ:L2.St} {H:Hp} {Q:VK} (RR:Value->Addr->Result->Shared->Prop) (hc:X.calm=true) (B:BlkOk X N capt scope cl) (hi:PI X tg iter wi)
  (hg:∀ C s H fp,PG (blk X N scope cl C s H fp) tg g) (ht:∀ C s H fp,PT (blk X N scope cl C s H fp) c tc) (he:∀ C s H fp,PE (blk X N scope cl C s H fp) elt te) (I:Inv X pins σ H s) (h:qlB wi capt g tc te σ H Q)
  (fin:∀ (D C:Addr) (s4:Shared) (Hq:Hp) (m:Str->Option Value),Inv X pins σ Hq s4->Q (.ref D) Hq->s4.heap.Ns C m->Hq C=none->C≠X.env.locals->X.s₀.heap.objs.size<=C->(∀ x c,X.env.cells.lookup x=some c->c≠C)->(∀ p∈X.pn++pins,p.1≠C)->RR (.ref D) C (.ok .next) s4) :
  wpAny (model X.prog X.w) X.A (eval iter X.env) (λx s₁=>wpAny (model X.prog X.w) X.A (pyIter x) (λit s₂=>wpAny (model X.prog X.w) X.A (newList []) (λacc s₃=>
   wpAny (model X.prog X.w) X.A (newFunctionEnv scope X.env.globals cl [] X.env.qual none .none (some X.env)) (λcenv s₄=>
    codeAny (model X.prog X.w) X.A (.compStart (.ListComp elt [⟨tg,iter,[c],0⟩] scope pos) 0 it acc { cenv with scope:=relabel scope X.env }) (RR acc cenv.locals) s₄) X.xe s₃) X.xe s₂) X.xe s₁) X.xe s:=by
 refine thn (hi pins s σ H _ I h) λv s1 h1=>thn h1 λitv s2 h2=>?_
 obtain ⟨it,fp,tn,J,H2,e,I2,T,st2,f2,n0,W,w0,turn⟩:=h2
 subst e
 have fl:∀ b∈fp,b<s2.heap.objs.size:=λb hb=>by obtain ⟨o,e,_⟩:=T.obj _ _ st2 b hb;exact Heap.lt_size e
 refine wpAny_newObj_type (wpAny_newFunctionEnv B.nocell (by intro y hy;simp at hy) (λh₁ hns₁ hsb₁=>?_) B.kind)
 dsimp only at hns₁ hsb₁ ⊢
 generalize hG:s2.heap.push { cls:=.type "list", dict:=none,data:=.seq ([]:List Value).toArray }=G at hns₁ hsb₁ ⊢
 have hC:G.objs.size=s2.heap.objs.size+1:=by rw [<-hG,Heap.size_push]
 have hCle:s2.heap.objs.size<=G.objs.size:=by rw [hC];exact Nat.le_succ _
 have hDC:s2.heap.objs.size≠G.objs.size:=by rw [hC];exact was (wcb _)
 have old:∀ b o,s2.heap.get? b=some o->h₁.get? b=some o:=λb o e=>hsb₁.extBut b o (by rw [hC];exact was (Nat.lt_succ_of_lt (Heap.lt_size e))) (Heap.get?_push_of_some _ (hG ▸ Heap.get?_push_of_some _ e))
 have hacc:h₁.get? s2.heap.objs.size=some { cls:=.type "list", data:=.seq ([]:List Value).toArray }:=hsb₁.extBut _ _ hDC (Heap.get?_push_of_some _ (hG ▸ Heap.get?_push_size _ rfl))
 have ok':=qnz B I2 f2 fl hCle
 have nsD:s2.heap.objs.size∉frs X.stack:=λhb=>by
  rcases wa0.mp (I2.stkSub _ hb) with z | z
  ·exact absurd I2.lt (by rw [<-z];exact wbc _)
  ·exact I2.nofs (wad _) z
 have ncD:∀ x c,cl.lookup x=some c->c≠s2.heap.objs.size:=λx c e z=>by
  obtain ⟨v,q⟩:=I2.cell x c (B.cells x c e)
  exact absurd q.lt (by rw [z];exact wbc _)
 have nfD:∀ b∈fp,s2.heap.objs.size≠b:=λb hb z=>absurd (fl b hb) (by rw [<-z];exact wbc _)
 have I₁:Inv (blk X N scope cl G.objs.size s2 H2 fp) [] (qcO capt σ) H2 { s2 with heap:=h₁,toks:=s2.toks+([]:List (Str×Value)).length }:=qnA B I2 f2 fl hCle hns₁ old
 have loop:codeAny (model X.prog X.w) X.A (.compLoop (.ListComp elt [⟨tg,iter,[c],0⟩] scope pos) 0 (.ref it) (.ref s2.heap.objs.size) (compEnvC scope cl G.objs.size X.env))
   (RR (.ref s2.heap.objs.size) G.objs.size) { s2 with heap:=h₁,toks:=s2.toks+([]:List (Str×Value)).length }:=by
  refine qjI (λn s'=>∃ (i:Nat) (ys:List V) (its:List Value) (k:Nat) (Hc:Hp),Inv (blk X N scope cl G.objs.size s2 H2 fp) [] (qcO capt σ) Hc s'/\s'.heap.get? s2.heap.objs.size=some { cls:=.type "list", data:=.seq its.toArray k }/\Vals ys its/\
   Hc s2.heap.objs.size=none/\tn i s'.heap/\(∀ b∈fp,Hc b=none)/\W i ys Hc/\n=n0 - i) ?_ n0 ⟨0,[],[],0,H2,I₁,hacc,.nil,I2.hok.fresh (wad _),T.keep _ _ _ st2 (λb _ o e=>old b o e),λb hb=>(f2 b hb).1,w0,rfl⟩
  rintro n s3 ⟨i,ys,its,k,Hc,I3,hD,hv,nD,st3,fr3,w3,en⟩
  obtain ⟨_,hl,step⟩:=turn i ys Hc w3
  have hz:its.toArray.size<=sizeLine:=by rw [wal,<-hv.length];exact hl
  have I3p:Inv (blk X N scope cl G.objs.size s2 H2 fp) [(s2.heap.objs.size,{ cls:=.type "list", data:=.seq its.toArray k })] (qcO capt σ) Hc s3:=I3.pins_of λp hp=>by
   rw [war] at hp
   subst hp
   exact ⟨hD,nD,hDC,nsD,λv z=>nomatch z⟩
  have fo3:∀ {Hx:Hp} (_:∀ b∈fp,Hx b=none),∀ b∈fp,qkv (blk X N scope cl G.objs.size s2 H2 fp) [(s2.heap.objs.size,{ cls:=.type "list", data:=.seq its.toArray k })] Hx b:=λhx b hb=>
   ⟨hx b hb,(ok'.exf b hb).1,ok'.exfs b hb,.inl hb,(ok'.exf b hb).2,λp hp=>by
    have hp':p∈[((s2.heap.objs.size,{ cls:=.type "list", data:=.seq its.toArray k }):Addr×Obj)]:=hp
    rw [war] at hp'
    subst hp'
    exact nfD b hb⟩
  rcases step with ⟨stop,q⟩ | ⟨ltn,go,nxt⟩
  ·refine thn (T.done (blk X N scope cl G.objs.size s2 H2 fp) rfl rfl rfl hc i _ s3 _ Hc _ I3p (fo3 fr3) st3 stop) λr s4 ⟨hr,I4⟩=>?_
   subst hr
   have hD4:=(I4.pin (s2.heap.objs.size,{ cls:=.type "list", data:=.seq its.toArray k }) (wbf _ (war.mpr rfl))).1
   obtain ⟨m,hn,_⟩:=I4.loc
   have nDt:∀ b u,Hc b=some u->b≠s2.heap.objs.size:=λb u e z=>by rw [z,nD] at e;cases e
   have oldC:∀ b o,s2.heap.get? b=some o->b≠s2.heap.objs.size:=λb o e=>was (Heap.lt_size e)
   have ub:Un (frs X.stack) fp H2 Hc s2.heap s4.heap:=I4.base
   have cC:∀ b,b<s2.heap.objs.size->b≠G.objs.size:=λb hb z=>absurd (wa8 hb hCle) (by rw [z];exact wbc _)
   refine fin _ G.objs.size s4 (upd Hc s2.heap.objs.size (.lst ys)) m ?_ (q _ nD) hn (by rw [qaA (λz=>hDC z.symm)];exact I4.free) (λz=>cC _ I2.lt z.symm) (wa3 I2.sz hCle)
    (λx c e=>by obtain ⟨v,q⟩:=I2.cell x c e;exact cC _ q.lt) λp hp=>cC _ (Heap.lt_size (I2.pin p hp).1)
   refine I2.call' (ch:=fp) (s':=s4) I4.os ?_ ?_ I4.bare λb hb=>⟨(f2 b hb).2.2.2.1,(f2 b hb).2.1,(f2 b hb).2.2.2.2.1,(f2 b hb).2.2.2.2.2⟩
   ·refine ⟨ub.keep,ub.slot,λb o e n hx=>?_,ub.there,λb xs e=>?_,λb o u e=>?_,λb ps e=>?_⟩
    ·rw [qaA (oldC b o e)];exact ub.free b o e n hx
    ·have z:=ub.tups b xs e
     rw [qaA (nDt b _ z)];exact z
    ·have z:=ub.frzs b o u e
     rw [qaA (nDt b _ z)];exact z
    ·obtain ⟨more,z⟩:=ub.tbls b ps e
     exact ⟨more,by rw [qaA (nDt b _ z)];exact z⟩
   ·intro b u e
    by_cases hb:b=s2.heap.objs.size
    ·subst hb
     rw [qag] at e
     cases e
     exact ⟨hl,its,k,hv,hD4⟩
    ·rw [qaA hb] at e
     exact (I4.hok b u e).stay (λc v _ q=>q) (λc q=>by rw [qaA (nDt c _ q)];exact q) λc xs q=>by rw [qaA (nDt c _ q)];exact q
  ·refine thn (T.item (blk X N scope cl G.objs.size s2 H2 fp) rfl rfl rfl hc i _ s3 _ Hc _ I3p (fo3 fr3) st3 go) λr s4 ⟨u,hr,h4⟩=>?_
   subst hr
   refine thn h4 λ_ s5 ⟨x,H5,I5,r5,y5,st5,fr5⟩=>?_
   have I5':=I5.pinned (fo3 fr5) (T.obj _ _ st5)
   refine thn (hg _ _ _ _ _ s5 _ H5 x u _ I5' r5 (nxt x H5 y5)) λ_ s6 ⟨σ6,H6,I6,q6⟩=>?_
   refine thn (ht _ _ _ _ _ s6 σ6 H6 _ I6 q6) λokb s9 ⟨H9,I9,q9⟩=>?_
   have pF9:∀ b∈fp,∀ o,s5.heap.get? b=some o->s9.heap.get? b=some o/\H9 b=none:=λb hb o e=>by
    have z:=I9.pin (b,o) (wbf _ (wbf _ (qc5 hb e)))
    exact ⟨z.1,z.2.1⟩
   cases okb with
   | false=>
     have w9:W (i+1) ys H9:=q9
     have pD9:=I9.pin (s2.heap.objs.size,{ cls:=.type "list", data:=.seq its.toArray k }) (wbf _ (wcq _ (war.mpr rfl)))
     have I9n:Inv (blk X N scope cl G.objs.size s2 H2 fp) [] σ6 H9 s9:=I9.pins_of λp hp=>nomatch hp
     exact ⟨n0 - (i+1),⋯,i+1,ys,its,k,H9,qgW B I2 f2 I9n,pD9.1,hv,pD9.2.1,T.keep _ _ _ st5 (λb hb o e=>(pF9 b hb o e).1),(λb hb=>by
      obtain ⟨o,e,_⟩:=T.obj _ _ st5 b hb
      exact (pF9 b hb o e).2),w9,rfl⟩
   | true=>
   replace q9:te σ6 H9 λy H4=>W (i+1) (ys++[y]) H4:=q9
   refine thn (he _ _ _ _ _ s9 σ6 H9 _ I9 q9) λuy s7 ⟨y,H7,I7,r7,w7⟩=>?_
   have pD:=I7.pin (s2.heap.objs.size,{ cls:=.type "list", data:=.seq its.toArray k }) (wbf _ (wcq _ (war.mpr rfl)))
   have pF:∀ b∈fp,∀ o,s5.heap.get? b=some o->s7.heap.get? b=some o/\H7 b=none:=λb hb o e=>by
    have z:=I7.pin (b,o) (wbf _ (wbf _ (qc5 hb e)))
    exact ⟨z.1,z.2.1⟩
   refine append_at (hsz:=hz) pD.1 λh8 sb8 hD8=>?_
   have I7n:Inv (blk X N scope cl G.objs.size s2 H2 fp) [] σ6 H7 s7:=I7.pins_of λp hp=>nomatch hp
   have I8:Inv (blk X N scope cl G.objs.size s2 H2 fp) [] σ6 H7 { s7 with heap:=h8,toks:=s7.toks }:=I7n.turned (λb o hb e=>sb8.extBut b o hb e) pD.2.1 hDC (.inr (wad _)) ncD (λp hp=>nomatch hp)
   refine ⟨n0 - (i+1),⋯,i+1,ys++[y],its++[uy],k+1,H7,qgW B I2 f2 I8,?_,Paired.snoc hv r7,pD.2.1,T.keep _ _ _ st5 (λb hb o e=>sb8.extBut b o (nfD b hb).symm (pF b hb o e).1),λb hb=>?_,w7,rfl⟩
   ·show h8.get? _=_
    rw [hD8,List.push_toArray]
   ·obtain ⟨o,e,_⟩:=T.obj _ _ st5 b hb
    exact (pF b hb o e).2
 exact codeAny_compStart_list loop (T.self X.A 0 _ _ _ (T.keep _ _ _ st2 (λb _ o e=>old b o e)) loop)
theorem qpH {elt iter tg c:Expr} {tc:TT} {pos:Pos} {wi:TI} {g:TG} {te:TE} (hc:X.calm=true) (B:BlkOk X N capt scope cl) (hi:PI X tg iter wi)
  (hg:∀ C s H fp,PG (blk X N scope cl C s H fp) tg g) (ht:∀ C s H fp,PT (blk X N scope cl C s H fp) c tc) (he:∀ C s H fp,PE (blk X N scope cl C s H fp) elt te)
  (hs:∀ x,foldedSetIterable iter X.env x=pure x:=by intro _;rfl):PE X (.ListComp elt [⟨tg,iter,[c],0⟩] scope pos) (qlB wi capt g tc te):=by
 intro pins s σ H Q I h
 rw [eval_ListComp]
 refine wpAny_comprehension_free (use:=none) rfl hs B.clos B.kind B.names (qmt (λacc C=>compPost (model X.prog X.w) X.A X.xe none (EP X pins σ Q) acc C) hc B hi hg ht he I h λD C s4 Hq m I4 q hn hf h1 h2 h3 h4=>?_)
 exact ⟨m,hn,λh' sb=>⟨.ref D,Hq,I4.turned (λb o hb e=>sb.extBut b o hb e) hf h1 (.inr h2) h3 h4,rfl,q⟩⟩
end
end Bs
namespace Bs
open PySem L2
noncomputable def sS (K:W.Frag):V->Option Int->Option Int->Hp->VK->Prop:=λx lo hi H Q=>∃ a xs,x=.ref a/\SqL K H a xs/\∀ p,H p=none->Q (.ref p) (upd H p (.lst (qiw xs lo hi)))
noncomputable def qkH:List V->Hp->VK->Prop:=λxs H Q=>∃ (p:Addr) (ns:List Int),xs=[.ref p]/\H p=some (.lst (ns.map V.int))/\Q (.int ns.sum) H
end Bs
namespace Bs
open PySem PySem.Spec PyProof.Rows L2
section
variable {X:Cx}
theorem qjJ:SlR X (sS X.K):=qna
theorem qgY (ns:List Int):∀ k,k<=ns.length->preSum (λi=>ns.getD i 0) k=(ns.take k).sum
 | 0,_=>rfl
 | k+1,h=>by
   have e:ns.take (k+1)=ns.take k++[ns.getD k 0]:=by
    rw [wbz,wab,wag ⋯];rfl
   show preSum _ k+_=_
   rw [e,qgY ns k ⋯,List.sum_append]
   simp
theorem qe0 (hc:X.calm=true):qdN X (.builtin "sum") qkH:=λpins s σ H xs us Q I r ⟨p,ns,e,hp,q⟩=>by
 subst e
 obtain ⟨u,rfl,ru⟩:=qfD r
 cases ru
 obtain ⟨its,rv,pl,hz⟩:=I.list (SqL.of hp)
 have hl:ns.length=its.length:=by have:=rv.length;simpa using this
 refine call_sum_walkG (wpAny_pyIter_list pl.isList ⟨s.heap.objs.size,[s.heap.objs.size,p],[s.heap.objs.size],its.toArray.size,_,_,λi=>ns.getD i 0,rfl,Walks.list (A:=X.A.in1) (show X.A.in1.handled=none from I.ok.hd hc) s.heap.objs.size p (was pl.lt) _,⟨⟨_,Heap.get?_push_size _ rfl,rfl,rfl⟩,pl.isList.push _⟩,?_,?_,λg tk t gk=>?_⟩)
 ·intro b hb
  have z:b=s.heap.objs.size\/b=p:=by simpa using hb
  rcases z with z | z
  ·rw [z];exact Heap.lt_size (Heap.get?_push_size _ rfl)
  ·obtain ⟨o,_,ho,_⟩:=pl
   rw [z];exact Heap.lt_size (Heap.get?_push_of_some _ ho)
 ·intro i v hP
  obtain ⟨n,t,h1,rfl⟩:=qci rv (show its[i]?=some v by simpa using hP)
  have e:ns.getD i 0=n:=by rw [wab,h1];rfl
  exact ⟨t,by show Value.int n t=Value.int (ns.getD i 0) t;rw [e]⟩
 ·have kk:∀ b o,s.heap.get? b=some o->g.get? b=some o:=λb o e=>gk b o (λz=>absurd (Heap.lt_size e) (by rw [war.mp z];exact wbc _)) (Heap.get?_push_of_some _ e)
  refine ⟨.int ns.sum,H,I.kept kk,⟨t,?_⟩,q⟩
  have e:=qgY ns ns.length (wad _)
  rw [wbv] at e
  rw [wal,<-hl,e]
end
end Bs
namespace Bs
open PySem L2
noncomputable def qsJ (n:Nat) (t:TGs):TG:=λv σ H Q=>∃ a xs,v=.ref a/\H a=some (.lst xs)/\xs.length=n/\t xs σ H Q
end Bs
namespace Bs
open PySem PySem.Spec PyProof.Rows L2
theorem qsK {m n:Nat} {a b:Int} (ha:Bd m a) (hb:Bd n b) (h:m+n<=134217728):IntMulOk a b:=IntMulOk.of_le (qnu ha) (qnu hb) h
end Bs
namespace Bs
open PySem L2
end Bs
namespace Bs
open PySem PySem.Spec PyProof.Rows L2
end Bs
namespace Bs
open PySem L2
end Bs
namespace Bs
open PySem PySem.Spec PyProof.Rows L2
end Bs
namespace Bs
open PySem L2
end Bs
namespace Bs
open PySem PySem.Spec PySem.Calls PyProof.Rows L2
section
variable {X:Cx}
end
end Bs
namespace Bs
open PySem PySem.Spec PySem.Calls PyProof.Rows L2
section
variable {X:Cx} {pos:Pos}
end
end Bs
namespace Bs
open PySem L2
noncomputable def qnM:V->List V->Hp->VK->Prop:=λx vs H Q=>∃ l xs y k,x=.ref l/\vs=[.int (k:Nat),y]/\H l=some (.lst xs)/\k<=xs.length/\xs.length<sizeLine/\Q .non (upd H l (.lst (xs.take k++y::xs.drop k)))
end Bs
namespace Bs
open PySem PySem.Spec PySem.Calls PyProof.Rows L2
section
variable {X:Cx}
theorem qnN:MtM X "list.insert" qnM:=by
 intro pins s σ H x vs v us Q I rx rv h
 obtain ⟨l,xs,y,k,rfl,rfl,hH,hk,hz,q⟩:=h
 cases rx
 obtain ⟨u,w',rfl,⟨t,rfl⟩,ry⟩:=rv.two
 obtain ⟨z,its,n,r,hl,e⟩:=I.lstM hH
 have k63:(k:Int)<2 ^ 63:=by have:=sizeLine_eq;omega
 have fit:¬ (!Builtin.List.listFitsIndex (k:Int))=true:=by rw [fitsIndex_both ⋯ k63];decide
 have zi:its.toArray.size<=sizeLine:=by rw [wal,<-hl];exact z
 generalize hi:(k:Int)=i at fit
 have M:=PySem.AutoSeq1.list_insert_list_int_val_1 l its.toArray n i t w' fit zi
 refine call_meets F.slot_list_insert ⟨_,e,rfl⟩ F.entry_list_insert (F.args_list_insert_3 _ _ _) M ⟨e,?_⟩
 subst hi
 refine ⟨.non,_,I.lset (its':=its.take k++w'::its.drop k) hH e ?_ ((r.take k).append (.cons ry (r.drop k))) ?_,rfl,q⟩
 ·show ((its.toArray.extract 0 (if (k:Int)<0 then ((k:Int)+(its.toArray.size:Int)).toNat else min (k:Int).toNat its.toArray.size)).push w'++its.toArray.extract (if (k:Int)<0 then ((k:Int)+(its.toArray.size:Int)).toNat else min (k:Int).toNat its.toArray.size))=_
  rw [if_neg ⋯,show min (k:Int).toNat its.toArray.size=k by rw [wal];omega]
  apply Array.ext'
  simp
  rw [List.take_of_length_le (by rw [List.length_drop];exact wad _)]
 ·simp
  omega
end
end Bs
namespace Bs
open PySem PySem.Spec PyProof.Rows L2
end Bs
namespace Bs
open PySem PySem.Spec PyProof.Rows L2
end Bs
namespace Bs
open PySem PySem.Spec PyProof.Rows L2
section
variable {X:Cx} {pins:List (Addr×Obj)} {σ:L2.St} {H:Hp} {s:Shared} {N:List Str} {capt:List (Option Nat)} {scope:Scope} {cl:List (Str×Addr)} {C:Addr} {fp:List Addr}
end
end Bs
namespace Bs
open PySem L2
noncomputable def blN (i:Int):Nat:=if i=0 then 0 else i.natAbs.log2+1
noncomputable def qtH:R2:=rI (λi j=>0<=j/\(blN i:Int)+j<=134217728) λi j=>.int (i*2 ^ j.toNat)
noncomputable def qrl:V->List V->Hp->VK->Prop:=λx xs H Q=>∃ i:Int,x=.int i/\xs=[]/\Q (.int (blN i)) H
noncomputable def qsL (te:TE):TE:=λσ H Q=>te σ H λx H1=>∃ (p:Addr) (ns:List Int),x=.ref p/\H1 p=some (.lst (ns.map V.int))/\∀ M:Int,(ns=[]/\M=0\/M∈ns/\∀ z∈ns,z<=M)->Q (.int M) H1
end Bs
namespace Bs
open PySem PySem.Spec PyProof.Rows L2
section
variable {X:Cx}
theorem qlD (i:Int):Builtin.Int.intBits i=blN i:=by unfold Builtin.Int.intBits blN;by_cases h:i=0 <;> simp [h]
theorem qnO:OpR X (binaryOp .LShift) qtH:=opI λ_ _ _ _ _ _ _ hc q=>lshift_int hc.1 (by rw [qlD];exact hc.2) q
theorem qnP:MtR X "int.bit_length" qrl:=by
 intro pins s σ H x xs v us Q I rx rv h
 obtain ⟨i,rfl,rfl,q⟩:=h
 obtain ⟨t,rfl⟩:=rx
 cases rv
 exact call_int_bit_length ⟨.int (blN i),H,I.tok _,⟨_,by rw [qlD]⟩,q⟩
end
section
variable {prog:Program} {w:World} {A:Around} {R:Result->Shared->Prop} {I:Addr} {fp wr:List Addr} {n:Nat} {P:Nat->Value->Prop} {St:Nat->Heap->Prop} {d:Value}
theorem qgZ (W:Walks prog w A.in1 I fp wr n P St) (bt:Nat->Nat->Bool) (htr:∀ i j q,bt j q=true->bt i q=false->bt i j=false) (hirr:∀ i,bt i i=false) (hcmp:CmpOf prog w A.in1 .Gt P bt) (S:Addr) (hSf:S∉fp):∀ (k j q:Nat) (s:Shared) (vb:Value) (c:Nat),n - j=k->j<=n->St j s.heap->q<n->(∀ i,i<j->bt i q=false)->P q vb->
  s.heap.get? S=some { cls:=.type "list", dict:=none,data:=.seq #[vb,vb] c,slots:=#[] }->
  (∀ q v h' tk,q<n->(∀ i,i<n->bt i q=false)->P q v->(∀ b o,b∉wr->b≠S->s.heap.get? b=some o->h'.get? b=some o)->R (.ok (.ret v)) { s with heap:=h',toks:=tk })->
  codeAny (model prog w) A (.builtin "max.loop" ⟨[.ref I,.none,.ref S],[("default", d)]⟩) R s
 | 0,j,q,s,vb,c,hk,hj,hst,hq,hB,hPb,hS,hR=>by
   have jn:j=n:=by omega
   refine codeAny_builtin F.entry_max_loop ?_
   rw [Around.under_plainId F.plain_max_loop _]
   refine wpAny_bind (m:=seqItems? (.ref S)) (wpAny_seqItems hS rfl ?_)
   refine wpAny_bind (m:=tryCatch (pyNext (.ref I)) _) (wpAny_tryCatch (W.done s _ _ (jn ▸ hst) λh' tk kp=>?_))
   have hS2:=kp S _ (λz=>hSf (W.sub _ z)) hS
   refine wpAny_bind (m:=updateSeq S (λ_=>#[])) (wpAny_updateSeq hS2 rfl (wpAny_bind (wpAny_letGo (wpAny_pure ?_))))
   exact hR q vb _ tk hq (jn ▸ hB) hPb λb o h1 h2 e=>(Heap.get?_update_other _ _ h2.symm).trans (kp b o h1 e)
 | k+1,j,q,s,vb,c,hk,hj,hst,hq,hB,hPb,hS,hR=>by
   have jn:j<n:=by omega
   refine codeAny_builtin F.entry_max_loop ?_
   rw [Around.under_plainId F.plain_max_loop _]
   refine wpAny_bind (m:=seqItems? (.ref S)) (wpAny_seqItems hS rfl ?_)
   refine wpAny_bind (m:=tryCatch (pyNext (.ref I)) _) (wpAny_tryCatch (W.item j s _ _ jn hst λv h' tk hP hst' kp=>?_))
   have hS2:=kp S _ (λz=>hSf (W.sub _ z)) hS
   refine wpAny_bind (m:=tryCatch (holding [v,v] (richCompare .Gt v vb >>= _)) _) (wpAny_tryCatch (wpAny_holding (wpAny_bind (hcmp j q v vb _ _ _ hP hPb ?_))))
   refine wpAny_bind (wpAny_holding (wpAny_truthy_bool (wpAny_bind (wpAny_letGo (wpAny_pure ?_)))))
   have nm:(toString "max" ++ toString ".loop" : String) = "max.loop" := by decide
   cases hbt:bt j q with
   | true=>
     simp only [if_true]
     refine wpAny_bind (wpAny_updateSeq hS2 rfl (wpAny_bind (wpAny_letGo ?_)))
     rw [nm]
     refine wpAny_pure ⟨plainId_quiet F.plain_max_loop _,qgZ W bt htr hirr hcmp S hSf k (j+1) j _ v _ ⋯ ⋯ (W.frame _ _ _ hst' λb hb o e=>(Heap.get?_update_other _ _ (λz:S=b=>hSf (by rw [z];exact hb))).trans e) jn (λi hi=>by rcases Nat.lt_succ_iff_lt_or_eq.mp hi with z | z;exact htr i j q hbt (hB i z);rw [z];exact hirr j) hP (Heap.get?_update_self _ hS2 rfl) λq' v' h2 tk2 hq' hB' hP' kp2=>?_⟩
     exact hR q' v' h2 tk2 hq' hB' hP' λb o h1 h3 e=>kp2 b o h1 h3 ((Heap.get?_update_other _ _ h3.symm).trans (kp b o h1 e))
   | false=>
     simp only [Bool.false_eq_true,if_false]
     refine wpAny_bind (wpAny_letGo ?_)
     rw [nm]
     exact wpAny_pure ⟨plainId_quiet F.plain_max_loop _,qgZ W bt htr hirr hcmp S hSf k (j+1) q _ vb c ⋯ ⋯ hst' hq (λi hi=>by rcases Nat.lt_succ_iff_lt_or_eq.mp hi with z | z;exact hB i z;rw [z];exact hbt) hPb hS2 λq' v' h2 tk2 hq' hB' hP' kp2=>hR q' v' h2 tk2 hq' hB' hP' λb o h1 h3 e=>kp2 b o h1 h3 (kp b o h1 e)⟩
theorem qmu (W:Walks prog w A.in1 I fp wr n P St) (bt:Nat->Nat->Bool) (htr:∀ i j q,bt j q=true->bt i q=false->bt i j=false) (hirr:∀ i,bt i i=false) (hcmp:CmpOf prog w A.in1 .Gt P bt) (S:Addr) (hSf:S∉fp) {s:Shared} {c:Nat} (hst:St 0 s.heap)
  (hS:s.heap.get? S=some { cls:=.type "list", dict:=none,data:=.seq #[] c,slots:=#[] })
  (hR:∀ v h' tk,(n=0/\v=d\/∃ q,q<n/\(∀ i,i<n->bt i q=false)/\P q v)->(∀ b o,b∉wr->b≠S->s.heap.get? b=some o->h'.get? b=some o)->R (.ok (.ret v)) { s with heap:=h',toks:=tk }) :
  codeAny (model prog w) A (.builtin "max.loop" ⟨[.ref I,.none,.ref S],[("default", d)]⟩) R s:=by
 refine codeAny_builtin F.entry_max_loop ?_
 rw [Around.under_plainId F.plain_max_loop _]
 refine wpAny_bind (m:=seqItems? (.ref S)) (wpAny_seqItems hS rfl ?_)
 rcases wbt n with z | z
 ·refine wpAny_bind (m:=tryCatch (pyNext (.ref I)) _) (wpAny_tryCatch (W.done s _ _ (z ▸ hst) λh' tk kp=>?_))
  refine wpAny_bind (wpAny_rule (wpAny_pure ?_))
  exact hR d h' tk (.inl ⟨z,rfl⟩) λb o h1 _ e=>kp b o h1 e
 ·refine wpAny_bind (m:=tryCatch (pyNext (.ref I)) _) (wpAny_tryCatch (W.item 0 s _ _ z hst λv h' tk hP hst' kp=>?_))
  have hS2:=kp S _ (λz=>hSf (W.sub _ z)) hS
  have nm:(toString "max" ++ toString ".loop" : String) = "max.loop" := by decide
  refine wpAny_bind (m:=updateSeq S (λ_=>#[v,v])) (wpAny_updateSeq hS2 rfl ?_)
  rw [nm]
  refine wpAny_pure ⟨plainId_quiet F.plain_max_loop _,qgZ W bt htr hirr hcmp S hSf _ 1 0 _ v _ rfl z (W.frame _ _ _ hst' λb hb o e=>(Heap.get?_update_other _ _ (λz:S=b=>hSf (by rw [z];exact hb))).trans e) z (λi hi=>by rw [show i=0 by omega];exact hirr 0) hP (Heap.get?_update_self _ hS2 rfl) λq' v' h2 tk2 hq' hB' hP' kp2=>?_⟩
  exact hR v' h2 tk2 (.inr ⟨q',hq',hB',hP'⟩) λb o h1 h3 e=>kp2 b o h1 h3 ((Heap.get?_update_other _ _ h3.symm).trans (kp b o h1 e))
end
theorem qnQ (a v:Value):argsOk "max" ⟨[a],[("default", v)]⟩:=by unfold argsOk;kernel_rfl
section
variable {X:Cx} {e:Expr} {te:TE} {p pos kp1 kp2:Pos} {kk:Nat}
theorem qrm (hc:X.calm=true) (hm:X.mg "max" = none) (hv:bootBuiltins "max" = some (.builtin "max")) (ha:PE X e te) (hg:Gl X "max" := by rfl)
  (hs:starEach [e] X.env=(false,eval e X.env)::starEach [] X.env:=by rfl) (hb:backTo pos (starEach [e] X.env)=(false,eval e X.env)::backTo pos (starEach [] X.env):=by rfl):PE X (.Call (.Name "max" p) [e] [⟨some "default", .Constant (.int 0) kk kp1,kp2⟩] pos) (qsL te):=by
 intro pins s σ H Q I h
 refine wpAny_Call_Name_kw (qen I hg hm hv ?_ ∅ ∅)
 refine PyProof.Rows.callWith_kw ?_ hb (by rw [hb];rfl)
 rw [hb]
 refine Calls.spliced_cons (thn (ha pins s σ H _ I h) λu s1 ⟨x,H1,I1,r1,q1⟩=>Calls.spliced_nil ?_)
 have kw:PK X [⟨some "default", .Constant (.int 0) kk kp1,kp2⟩] (qad (tC (.int 0)) qar):=qm7 qac qqr
 refine thn (kw pos pins s1 σ H1 (λvs H2=>vs=[.int 0]/\H2=H1) I1 ⟨rfl,rfl⟩) λws s2 ⟨zs,H2,I2,rz,ez,eh⟩=>?_
 subst ez eh
 obtain ⟨z,rfl,t,rfl⟩:=qfD rz
 obtain ⟨l,ns,rfl,hl,q⟩:=q1
 cases r1
 obtain ⟨its,rv,pl,hz⟩:=I2.list (SqL.of hl)
 have hle:ns.length=its.length:=by have:=rv.length;simpa using this
 have nm:(toString "max" ++ toString ".loop" : String) = "max.loop" := by decide
 refine kmb_tree F.kind_max F.plain_max F.entry_max (qnQ _ _) ?_
 refine wpAny_bind (m:=Builtin.Builtins.bindParams "max" ["key", "default"] 0 ⟨[],[("default", Value.int 0 t)]⟩) (wpAny_of_eq (a:=[none,some (Value.int 0 t)]) rfl ?_)
 refine wpAny_bind (wpAny_pure (wpAny_bind (wpAny_pyIter_list pl.isList ?_)))
 refine wpAny_bind (wpAny_newObj_type ?_)
 rw [nm]
 have lp:l<s2.heap.objs.size:=pl.lt
 have nS:(s2.heap.push { cls:=.type "list_iterator", data:=.fields #[.ref l,.int 0 0] }).objs.size=s2.heap.objs.size+1:=Heap.size_push ..
 have W:=Walks.list (prog:=X.prog) (w:=X.w) (A:=X.A.in1) (show X.A.in1.handled=none from I2.ok.hd hc) s2.heap.objs.size l (was lp) its.toArray
 refine wpAny_pure ⟨plainId_quiet F.plain_max_loop _,qmu W _ (λi j q h1 h2=>by have h1:=of_decide_eq_true h1;have h2:=of_decide_eq_false h2;exact decide_eq_false ⋯) (λi=>decide_eq_false (Int.lt_irrefl _)) (CmpOf.ints_gt (λi=>ns.getD i 0) λi v hP=>?_) _ ?_ ⟨⟨_,Heap.get?_push_of_some _ (Heap.get?_push_size _ rfl),rfl,rfl⟩,(pl.isList.push _).push _⟩ (Heap.get?_push_size _ rfl) λv g tk hv2 gk=>?_⟩
 ·obtain ⟨n,t2,h1,rfl⟩:=qci rv (show its[i]?=some v by simpa using hP)
  exact ⟨t2,by rw [wab,h1];rfl⟩
 ·rw [nS]
  have:¬ (s2.heap.objs.size+1=s2.heap.objs.size\/s2.heap.objs.size+1=l):=λz=>by
   rcases z with z | z
   ·exact absurd z (Nat.succ_ne_self _)
   ·rw [<-z] at lp;exact absurd lp (wbu.mpr (Nat.le_succ _))
  simpa using this
 ·have kk2:∀ b o,s2.heap.get? b=some o->g.get? b=some o:=λb o e=>by
   have lb:b<s2.heap.objs.size:=Heap.lt_size e
   refine gk b o (λz=>?_) (λz=>?_) (Heap.get?_push_of_some _ (Heap.get?_push_of_some _ e))
   ·rw [war.mp z] at lb;exact absurd lb (wbc _)
   ·rw [z,nS] at lb;exact absurd lb (wbu.mpr (Nat.le_succ _))
  have I3:=I2.kept (t':=tk) kk2
  rcases hv2 with ⟨z,rfl⟩ | ⟨i,hi,hB,hP⟩
  ·exact ⟨.int 0,_,I3,⟨t,rfl⟩,q 0 (.inl ⟨wbd.mp (by rw [wal] at z;omega),rfl⟩)⟩
  ·obtain ⟨n,t2,h1,rfl⟩:=qci rv (show its[i]?=some v by simpa using hP)
   refine ⟨.int n,_,I3,⟨t2,rfl⟩,q n (.inr ⟨wau h1,λz hz=>?_⟩)⟩
   obtain ⟨j,hj,rfl⟩:=wcs hz
   have:=of_decide_eq_false (hB j (by rw [wal];omega))
   rw [wab,wab,h1,wag hj] at this
   exact Int.not_lt.mp this
end
end Bs
namespace Bs
open PySem L2
end Bs
namespace Bs
open PySem PySem.Spec PyProof.Rows L2
section
variable {X:Cx} {c P:Addr} {lp:Pos} {params:Arguments} {body:Expr} {scope:Scope}
end
section
variable {prog:Program} {w:World} {A:Around} {E:Value->Shared->Prop} {s:Shared}
end
section
variable {X:Cx} {c P:Addr} {e:Expr} {te:TE} {p pos kp lp px pk ps:Pos} {params:Arguments} {scope:Scope} {x:Str} {kk:Nat}
end
end Bs
namespace Bs
open PySem L2
end Bs
namespace Bs
open PySem PySem.Spec PySem.Calls PySem.SeqAt PyProof.Rows L2
open AutoSeq1 (wpAny_loadPart')
end Bs
namespace Bs
open PySem PySem.Spec PyProof.Rows L2
end Bs
namespace L2
open PySem PySem.Spec PyProof.Rows
end L2
namespace Bs
open PySem L2
end Bs
namespace Bs
open PySem PySem.Spec PyProof.Rows L2
section
variable {X:Cx} {c P:Addr} {lp:Pos} {params:Arguments} {body:Expr} {scope:Scope}
end
section
variable {X:Cx} {c P:Addr} {e:Expr} {te:TE} {p pos kp lp px pk ps:Pos} {params:Arguments} {scope:Scope} {x:Str} {kk:Nat}
end
end Bs
namespace Bs
open PySem L2
noncomputable def quv (te:TE):TE:=λσ H Q=>te σ H λx H1=>∃ (a:Addr) (xs:List V),x=.ref a/\H1 a=some (.lst xs)/\∀ p,H1 p=none->Q (.ref p) (upd H1 p (.lst xs.reverse))
end Bs
namespace Bs
open PySem PySem.Spec PyProof.Rows L2
open PySem.AutoSeq1 (wpAny_loadPart')
section
variable {prog:Program} {w:World} {A:Around} {E:Value->Shared->Prop} {s:Shared}
end
section
variable {prog:Program} {w:World} {A:Around} {E:Value->Shared->Prop} {s:Shared}
end
end Bs
namespace Bs
open PySem PySem.Spec PyProof.Rows L2
section
variable {X:Cx} {elts:List Expr} {k:Nat} {tpos:Pos} {a b:Expr} {ta:TA} {p pos:Pos}
end
theorem qsM {X:Cx} {e st:Expr} {te:TE} {p2 pos:Pos} (he:PE X e te) (hst:PE X st (tUn qeQ (tC (.int 1)))):PE X (.Subscript e (.Slice none none (some st) p2) pos) (quv te):=by
 intro pins s σ H Q I h
 refine Subscript_ (thn (he pins s σ H _ I h) λv s1 ⟨x,H1,I1,r1,q1⟩=>?_)
 refine wpAny_Slice ?_
 rw [evalPart_none]
 refine wpAny_pure (wpAny_pure (thn (qdn hst pins s1 σ H1 (λo H2=>o=some (-1)/\H2=H1) I1 ⟨1,rfl,-1,rfl,rfl,rfl⟩) λvk s3 ⟨o,H3,I3,pk,eo,eH⟩=>?_))
 subst eo eH
 have I4:Inv X pins σ H3 { s3 with heap:=s3.heap.push { cls:=.type "slice", data:=.fields #[.none,.none,vk] } }:=I3.kept (t':=s3.toks) λb ob q=>Heap.get?_push_of_some _ q
 obtain ⟨a,xs,rfl,hx,q⟩:=q1
 cases r1
 obtain ⟨its,r,ht,hz⟩:=I4.list (SqL.of hx)
 have hlen:=r.length
 show wpAny (model X.prog X.w) X.A (subscriptTail e (.Slice none none (some st) p2) (.ref a) (.ref s3.heap.objs.size)) (EP X pins σ Q) X.xe { s3 with heap:=s3.heap.push { cls:=.type "slice", data:=.fields #[.none,.none,vk] } }
 refine tail_any (ops:=[.ref a,.ref s3.heap.objs.size]) ht.isList.typeIs slot_list_getitem.lookup ?_ (by with_unfolding_all rfl)
 refine wpAny_getItem_list_slice ht.isList (Heap.IsSliceOf.new ..) .none .none pk (by simp) ?_ (by rw [wal] <;> omega)
 rw [PySem.W.krv_pick]
 refine ⟨.ref _,_,I4.laid (t':=s3.toks) (o:=.lst xs.reverse) (λb ob q=>Heap.get?_push_of_some _ q) (wad _) ?_,rfl,q _ (I4.hok.fresh (wad _))⟩
 exact ⟨by rw [List.length_reverse];exact hz,its.reverse,0,r.reverse,Heap.get?_push_size _ rfl⟩
end Bs
namespace Bs
open PySem L2
end Bs
namespace Bs
open PySem PySem.Spec PyProof.Rows L2
end Bs
namespace Bs
open PySem L2
noncomputable def qsN:List V->Hp->VK->Prop:=λxs H Q=>∃ (p:Addr) (ns:List Int),xs=[.ref p]/\H p=some (.lst (ns.map V.int))/\ns≠[]/\∀ m∈ns,Q (.int m) H
end Bs
namespace Bs
open PySem PySem.Spec PyProof.Rows L2
theorem qnR {X:Cx} (hc:X.calm=true):qdN X (.builtin "min") qsN:=λpins s σ H xs us Q I r ⟨p,ns,e,hp,n0,q⟩=>by
 subst e
 obtain ⟨u,rfl,ru⟩:=qfD r
 cases ru
 obtain ⟨its,rv,pl,hz⟩:=I.list (SqL.of hp)
 have hl:ns.length=its.length:=by have:=rv.length;simpa using this
 have hn:0<ns.length:=wb1.mpr n0
 refine call_min_walk (wpAny_pyIter_list pl.isList ⟨s.heap.objs.size,[s.heap.objs.size,p],[s.heap.objs.size],its.toArray.size,_,_,λi j=>decide (ns.getD i 0<ns.getD j 0),rfl,Walks.list (A:=X.A.in1) (show X.A.in1.handled=none from I.ok.hd hc) s.heap.objs.size p (was pl.lt) _,⟨⟨_,Heap.get?_push_size _ rfl,rfl,rfl⟩,pl.isList.push _⟩,?_,by rw [wal];omega,CmpOf.ints_lt (λi=>ns.getD i 0) (λi v hP=>?_),λv g tk hP gk=>?_⟩)
 ·intro b hb
  have z:b=s.heap.objs.size\/b=p:=by simpa using hb
  rcases z with z | z
  ·rw [z];exact Heap.lt_size (Heap.get?_push_size _ rfl)
  ·obtain ⟨o,_,ho,_⟩:=pl
   rw [z];exact Heap.lt_size (Heap.get?_push_of_some _ ho)
 ·obtain ⟨n,t,h1,rfl⟩:=qci rv (show its[i]?=some v by simpa using hP)
  exact ⟨t,by rw [wab,h1];rfl⟩
 ·have kk:∀ b o,s.heap.get? b=some o->g.get? b=some o:=λb o e=>gk b o (λz=>absurd (Heap.lt_size e) (by rw [war.mp z];exact wbc _)) (Heap.get?_push_of_some _ e)
  obtain ⟨n,t,h1,rfl⟩:=qci rv (show its[_]?=some v by simpa using hP)
  exact ⟨.int n,H,I.kept kk,⟨t,rfl⟩,q n (by obtain ⟨z,e⟩:=waq.mp h1;exact e ▸ wbo z)⟩
end Bs
namespace Bs
theorem Bd.one:Bd 1 1:=by unfold Bd;decide
theorem Bd.pow {b:Nat} {x:Int} (h:Bd b x) (k:Nat):Bd (b*k+1) (x ^ k):=by
 induction k with
 | zero=>rw [Int.pow_zero,Nat.mul_zero];exact Bd.one
 | succ k ih=>
   have e:b*(k+1)+1=(b*k+1)+b:=by rw [Nat.mul_add,Nat.mul_one];omega
   rw [Int.pow_succ,e]
   exact ih.mul h
end Bs
namespace Bs
noncomputable abbrev Nu:=Int×Int
noncomputable def red (n m:Int):Nu:=(n / ((Int.gcd n m:Nat):Int),m / ((Int.gcd n m:Nat):Int))
noncomputable def Wo (q:Nu) (n m:Int):Prop:=q.1*m=n*q.2
theorem qg0 {n m:Int} (hm:0<m):Low (red n m).1 (red n m).2:=(qeH (a:=n) hm).1
theorem qnS {n m:Int} (hm:0<m):Wo (red n m) n m:=by
 have h:=(qee (a:=n) (b:=m) (s:=((Int.gcd n m:Nat):Int)) ⋯ (by rw [if_neg ⋯])).2.2.2.1
 rw [wcn _ ⋯,wcn _ ⋯] at h
 exact h
theorem qfJ {a b d:Int} (h:Low a b) (hd:b∣a*d):b∣d:=by
 have c:Nat.Coprime b.natAbs a.natAbs:=by
  have:Nat.Coprime a.natAbs b.natAbs:=h.one
  exact this.symm
 have z:=wbh.mpr hd
 rw [way] at z
 exact wbh.mp (c.dvd_of_dvd_mul_left z)
theorem qic {a b c d:Int} (h1:Low a b) (h2:Low c d) (h:a*d=c*b):a=c/\b=d:=by
 have d1:b∣d:=qfJ h1 ⟨c,by rw [h,wca]⟩
 have d2:d∣b:=qfJ h2 ⟨a,by rw [<-h,wca]⟩
 have e:b=d:=Int.dvd_antisymm (Int.le_of_lt h1.pos) (Int.le_of_lt h2.pos) d1 d2
 subst e
 exact ⟨Int.eq_of_mul_eq_mul_right (wai h1.pos) h,rfl⟩
theorem qnT {q r:Nu} {n m:Int} (h1:Low q.1 q.2) (h2:Low r.1 r.2) (hm:m≠0) (w1:Wo q n m) (w2:Wo r n m):q=r:=by
 unfold Wo at w1 w2
 have e:q.1*r.2=r.1*q.2:=by
  have z:m*(q.1*r.2)=m*(r.1*q.2):=by grind
  exact Int.eq_of_mul_eq_mul_left hm z
 obtain ⟨a,b⟩:=qic h1 h2 e
 exact Prod.ext a b
theorem qtU {q:Nu} {n m:Int} (h1:Low q.1 q.2) (hm:0<m) (w:Wo q n m):q.1.natAbs<=n.natAbs/\q.2.natAbs<=m.natAbs:=by
 have e:q=red n m:=qnT h1 (qg0 hm) (wai hm) w (qnS hm)
 subst e
 exact ⟨(qeH (a:=n) hm).2.1,(qeH (a:=n) hm).2.2.1⟩
noncomputable def qsO (l:List Nu):Nat->Nat
 | 0=>0
 | m+1=>if (l.getD m (1,1)).1=0 then qsO l m else m+1
noncomputable def trim (l:List Nu):List Nu:=l.take (qsO l l.length)
noncomputable def Nz (l:List Nu):Prop:=∀ q,l.getLast?=some q->q.1≠0
noncomputable def qbI (l:List Nu):Prop:=∀ q∈l,Low q.1 q.2
noncomputable def qtV (n:Nat) (l:List Nu):Prop:=∀ q∈l,Bd n q.1/\Bd n q.2
noncomputable def qmv (l:List Nu) (i:Nat):Nu:=l.getD i (0,1)
theorem qsP:Low 0 1:=⟨∅,∅⟩
theorem qpI {l:List Nu} (h:qbI l) (i:Nat):Low (qmv l i).1 (qmv l i).2:=by
 unfold qmv
 rw [wab]
 cases e:l[i]? with
 | none=>exact qsP
 | some q=>exact h q (wau e)
end Bs
namespace Bs
noncomputable def qe1 (l:List Nu):Int:=l.foldl (λB q=>B*(q.2 / ((Int.gcd B q.2:Nat):Int))) 1
noncomputable def qem (l:List Nu):List Int:=l.map λq=>q.1*(qe1 l / q.2)
theorem qiK {B d:Int} (hB:0<B) (hd:0<d):0<B*(d / ((Int.gcd B d:Nat):Int))/\B∣B*(d / ((Int.gcd B d:Nat):Int))/\d∣B*(d / ((Int.gcd B d:Nat):Int))/\(d / ((Int.gcd B d:Nat):Int)).natAbs<=d.natAbs/\0<((Int.gcd B d:Nat):Int)/\((Int.gcd B d:Nat):Int)<=d:=by
 have g0:0<Int.gcd B d:=Int.gcd_pos_of_ne_zero_right B ⋯
 obtain ⟨k,hk⟩:((Int.gcd B d:Nat):Int)∣d:=wci B d
 obtain ⟨m,hm⟩:((Int.gcd B d:Nat):Int)∣B:=wcm B d
 have gp:(0:Int)<((Int.gcd B d:Nat):Int):=by omega
 have e:d / ((Int.gcd B d:Nat):Int)=k:=by
  have z:d / ((Int.gcd B d:Nat):Int)=(((Int.gcd B d:Nat):Int)*k) / ((Int.gcd B d:Nat):Int):=by rw [<-hk]
  rw [z,wcx _ (wai gp)]
 have kp:0<k:=by
  rcases Int.lt_or_le 0 k with h | h
  ·exact h
  ·exfalso
   have:=Int.mul_nonneg (Int.le_of_lt gp) (show 0<=-k by omega)
   rw [Int.mul_neg] at this
   omega
 have le:((Int.gcd B d:Nat):Int)<=d:=Int.le_of_dvd hd (wci B d)
 refine ⟨by rw [e];exact Int.mul_pos hB kp,Int.dvd_mul_right ..,?_,?_,gp,le⟩
 ·rw [e]
  refine ⟨m,?_⟩
  have z:d*m=((Int.gcd B d:Nat):Int)*k*m:=by rw [<-hk]
  have z2:B*k=((Int.gcd B d:Nat):Int)*m*k:=by rw [<-hm]
  rw [z,z2];grind
 ·rw [e]
  have z:d.natAbs=(Int.gcd B d)*k.natAbs:=by
   have:d.natAbs=(((Int.gcd B d:Nat):Int)*k).natAbs:=by rw [<-hk]
   rw [this,way];simp
  rw [z]
  exact wcw _ g0
theorem qjK {b:Nat}:∀ (l:List Nu) (B:Int) (c:Nat),(∀ q∈l,0<q.2/\Bd b q.2)->0<B->Bd c B->
  0<l.foldl (λB q=>B*(q.2 / ((Int.gcd B q.2:Nat):Int))) B/\B∣l.foldl (λB q=>B*(q.2 / ((Int.gcd B q.2:Nat):Int))) B/\(∀ q∈l,q.2∣l.foldl (λB q=>B*(q.2 / ((Int.gcd B q.2:Nat):Int))) B)/\Bd (c+b*l.length) (l.foldl (λB q=>B*(q.2 / ((Int.gcd B q.2:Nat):Int))) B)
 | [],B,c,_,hB,bB=>⟨hB,Int.dvd_refl B,(λ_ h=>nomatch h),by simpa using bB⟩
 | q::l,B,c,h,hB,bB=>by
   obtain ⟨q0,qb⟩:=h q (waz ..)
   obtain ⟨s1,s2,s3,s4,_,_⟩:=qiK hB q0
   obtain ⟨r1,r2,r3,r4⟩:=qjK l (B*(q.2 / ((Int.gcd B q.2:Nat):Int))) (c+b) (λr hr=>h r (wa4 _ hr)) s1 (bB.mul (qb.le s4))
   rw [List.foldl_cons]
   refine ⟨r1,wbp s2 r2,λr hr=>?_,r4.mono (by rw [wbi,Nat.mul_add,Nat.mul_one];omega)⟩
   rcases wa0.mp hr with rfl | hr
   ·exact wbp s3 r2
   ·exact r3 r hr
theorem qrn {b:Nat} {l:List Nu} (h1:qbI l) (h2:qtV b l):0<qe1 l/\(∀ q∈l,q.2∣qe1 l)/\Bd (1+b*l.length) (qe1 l):=by
 obtain ⟨r1,_,r3,r4⟩:=qjK (b:=b) l 1 1 (λq hq=>⟨(h1 q hq).pos,(h2 q hq).2⟩) ∅ Bd.one
 exact ⟨r1,r3,r4⟩
theorem qhK {B d:Int} (hB:0<B) (hd:0<d):(B / d).natAbs<=B.natAbs:=by
 have h1:0<=B / d:=Int.ediv_nonneg (Int.le_of_lt hB) (Int.le_of_lt hd)
 have h2:B / d<=B:=Int.ediv_le_self d (Int.le_of_lt hB)
 omega
theorem qsQ {q:Nu} {B:Int} (hd:q.2∣B):Wo q (q.1*(B / q.2)) B:=by
 unfold Wo
 rw [Int.mul_assoc,Int.ediv_mul_cancel hd]
noncomputable def ps (ns ms:List Int):Nat->Nat->Int
 | 0,_=>0
 | i+1,k=>ps ns ms i k+(if i<=k/\k - i<ms.length then ns.getD i 0*ms.getD (k - i) 0 else 0)
noncomputable def in2 (ns ms:List Int) (i j k:Nat):Int:=ps ns ms i k+(if i<=k/\k - i<j then ns.getD i 0*ms.getD (k - i) 0 else 0)
theorem qpJ (ns ms:List Int) (i k:Nat):in2 ns ms i 0 k=ps ns ms i k:=by
 unfold in2;rw [if_neg ⋯];omega
theorem qlE (ns ms:List Int) (i j k:Nat):in2 ns ms i (j+1) k=if k=i+j then in2 ns ms i j k+ns.getD i 0*ms.getD j 0 else in2 ns ms i j k:=by
 unfold in2
 by_cases h:k=i+j
 ·subst h
  rw [if_pos rfl,if_pos ⟨⋯,⋯⟩,if_neg ⋯,show i+j - i=j by omega];omega
 ·rw [if_neg h]
  congr 1
  by_cases h2:i<=k/\k - i<j
  ·rw [if_pos h2,if_pos ⟨h2.1,⋯⟩]
  ·rw [if_neg h2,if_neg ⋯]
theorem qiL {c:Nat} {ns:List Int} (h:∀ z∈ns,Bd c z) (i:Nat):Bd c (ns.getD i 0):=by
 rw [wab]
 cases e:ns[i]? with
 | none=>exact wav ∅
 | some z=>exact h z (wau e)
theorem qdo (c:Nat):Bd c 0:=wav ∅
theorem qkI {ns ms:List Int}:∀ i k,i+ms.length<=k+1->ps ns ms i k=0
 | 0,_,_=>rfl
 | i+1,k,h=>by
   unfold ps
   rw [qkI i k ⋯,if_neg ⋯];rfl
end Bs
namespace Bs
noncomputable def val (q:Nu):Rat:=(q.1:Rat) / (q.2:Rat)
theorem zdiv (x:Rat):0 / x=0:=by rw [Rat.div_def,Rat.zero_mul]
theorem qaV {z:Int} (h:z≠0):(z:Rat)≠0:=by exact_mod_cast h
theorem qe2 {q:Nu} {n m:Int} (hq:q.2≠0) (hm:m≠0) (w:Wo q n m):val q=(n:Rat) / (m:Rat):=by
 have h1:=qaV hq
 have h2:=qaV hm
 have w':(q.1:Rat)*m=n*q.2:=by unfold Wo at w;exact_mod_cast w
 unfold val
 grind
theorem qiM {q r:Nu} (h1:Low q.1 q.2) (h2:Low r.1 r.2) (h:val q=val r):q=r:=by
 have a:=qaV (wai h1.pos)
 have b:=qaV (wai h2.pos)
 unfold val at h
 have z:(q.1:Rat)*r.2=r.1*q.2:=by grind
 have z':q.1*r.2=r.1*q.2:=by exact_mod_cast z
 obtain ⟨x,y⟩:=qic h1 h2 z'
 exact Prod.ext x y
theorem qnU {n m:Int} (hm:0<m):val (red n m)=(n:Rat) / (m:Rat):=qe2 (wai (qg0 hm).pos) (wai hm) (qnS hm)
noncomputable def qbv (n m:Int):Nu:=if m<0 then red (-n) (-m) else red n m
theorem qcj {n m:Int} (hm:m≠0):Low (qbv n m).1 (qbv n m).2:=by
 unfold qbv
 split
 ·exact qg0 ⋯
 ·exact qg0 ⋯
theorem qeh {n m:Int} (hm:m≠0):val (qbv n m)=(n:Rat) / (m:Rat):=by
 unfold qbv
 split
 ·rw [qnU ⋯]
  have:=qaV hm
  push_cast
  grind
 ·exact qnU ⋯
theorem qiN {c d:Nat} {n m:Int} (hm:m≠0) (h1:Bd c n) (h2:Bd d m):Bd c (qbv n m).1/\Bd d (qbv n m).2:=by
 have aux:∀ {n m:Int},0<m->Bd c n->Bd d m->Bd c (red n m).1/\Bd d (red n m).2:=λ{n m} h0 h1 h2=>by
  have w:=qtU (qg0 h0) h0 (qnS (n:=n) h0)
  exact ⟨h1.le w.1,h2.le w.2⟩
 unfold qbv
 split
 ·exact aux ⋯ h1.neg h2.neg
 ·exact aux ⋯ h1 h2
noncomputable def pwo (l:List Nu) (k:Nat):Rat:=val (qmv l k)
noncomputable def cv (f g:Nat->Rat):Nat->Nat->Rat
 | 0,_=>0
 | n+1,k=>cv f g n k+(if n<=k then f n*g (k - n) else 0)
noncomputable def ovN (l:List Nu) (M:Int):List Int:=l.map λq=>q.1*(M / q.2)
noncomputable def Ov (l:List Nu) (M:Int):Prop:=0<M/\∀ q∈l,q.2∣M
theorem qnV {l:List Nu} {M:Int} (i:Nat):(ovN l M).getD i 0=(qmv l i).1*(M / (qmv l i).2):=by
 unfold ovN qmv
 rw [wab,wab,waf]
 cases l[i]? with
 | none=>simp
 | some q=>rfl
theorem Ov.get {l:List Nu} {M:Int} (h:Ov l M) (i:Nat):(qmv l i).2∣M:=by
 unfold qmv
 rw [wab]
 cases e:l[i]? with
 | none=>exact Int.one_dvd M
 | some q=>exact h.2 q (wau e)
theorem qsR {l:List Nu} {M:Int} (h:Ov l M) (i:Nat):Wo (qmv l i) ((ovN l M).getD i 0) M:=by
 rw [qnV]
 exact qsQ (h.get i)
theorem qsS {l:List Nu} {M:Int} (hl:qbI l) (h:Ov l M) (i:Nat):pwo l i=((ovN l M).getD i 0:Rat) / (M:Rat):=qe2 (wai (qpI hl i).pos) (wai h.1) (qsR h i)
theorem lcm_dvd {B d M:Int} (hB:0<B) (hd:0<d) (h1:B∣M) (h2:d∣M):B*(d / ((Int.gcd B d:Nat):Int))∣M:=by
 have z:((Nat.lcm B.natAbs d.natAbs:Nat):Int)∣M:=wbh.mp (by rw [wbj];exact Nat.lcm_dvd (wbh.mpr h1) (wbh.mpr h2))
 have e:((Nat.lcm B.natAbs d.natAbs:Nat):Int)=B*(d / ((Int.gcd B d:Nat):Int)):=by
  unfold Nat.lcm
  rw [Nat.mul_div_assoc _ (Nat.gcd_dvd_right _ _)]
  push_cast
  rw [show ((B.natAbs:Nat):Int)=B by omega,show ((d.natAbs:Nat):Int)=d by omega]
  rfl
 rw [<-e]
 exact z
theorem qiO {M:Int}:∀ (l:List Nu) (B:Int),(∀ q∈l,0<q.2/\q.2∣M)->0<B->B∣M->0<l.foldl (λB q=>B*(q.2 / ((Int.gcd B q.2:Nat):Int))) B/\l.foldl (λB q=>B*(q.2 / ((Int.gcd B q.2:Nat):Int))) B∣M
 | [],B,_,hB,h=>⟨hB,h⟩
 | q::l,B,hq,hB,h=>by
   obtain ⟨q0,qd⟩:=hq q (waz ..)
   obtain ⟨s1,_⟩:=qiK hB q0
   exact qiO l _ (λr hr=>hq r (wa4 _ hr)) s1 (lcm_dvd hB q0 h qd)
theorem qlF {n:Nat} {a b:Int} (hb:b≠0) (h:a∣b) (bd:Bd n b):Bd n a:=bd.le (wcc ⋯ (wbh.mpr h))
theorem qdT {l:List Nu} (hl:qbI l):Ov l (qe1 l):=by
 obtain ⟨a,b,_⟩:=qrn (b:=(l.foldl (λn q=>n+q.1.natAbs+q.2.natAbs) 1)) hl (λq hq=>by
  have big:∀ (l:List Nu) (n:Nat),n<=l.foldl (λn q=>n+q.1.natAbs+q.2.natAbs) n/\∀ q∈l,q.1.natAbs+q.2.natAbs<=l.foldl (λn q=>n+q.1.natAbs+q.2.natAbs) n:=by
   intro l
   induction l with
   | nil=>intro n;exact ⟨wad _,λ_ h=>nomatch h⟩
   | cons r l ih=>
     intro n
     obtain ⟨i1,i2⟩:=ih (n+r.1.natAbs+r.2.natAbs)
     rw [List.foldl_cons]
     refine ⟨⋯,λq hq=>?_⟩
     rcases wa0.mp hq with rfl | hq
     ·omega
     ·exact i2 q hq
  have z:=(big l 1).2 q hq
  exact ⟨wb9 ⋯ (Nat.lt_two_pow_self),wb9 ⋯ (Nat.lt_two_pow_self)⟩)
 exact ⟨a,b⟩
theorem qlG {l:List Nu} {M:Int} (hl:qbI l) (h:Ov l M):qe1 l∣M:=(qiO l 1 (λq hq=>⟨(hl q hq).pos,h.2 q hq⟩) ∅ (Int.one_dvd M)).2
theorem qro (l:List Nu):qem l=ovN l (qe1 l):=rfl
end Bs
namespace Bs
section
variable {α:Type} [Lean.Grind.CommRing α]
noncomputable def cvL:List α->(Nat->α)->Nat->α
 | [],_,_=>0
 | x::a,b,k=>x*b k+(match k with | 0=>0 | k+1=>cvL a b k)
theorem qaE (b:Nat->α) (k:Nat):cvL [] b k=0:=rfl
theorem qaq (x:α) (a:List α) (b:Nat->α):cvL (x::a) b 0=x*b 0+0:=rfl
theorem qam (x:α) (a:List α) (b:Nat->α) (k:Nat):cvL (x::a) b (k+1)=x*b (k+1)+cvL a b k:=rfl
theorem qas {b c:Nat->α} (h:∀ k,b k=c k):∀ (a:List α) (k:Nat),cvL a b k=cvL a c k
 | [],_=>rfl
 | x::a,0=>by rw [qaq,qaq,h 0]
 | x::a,k+1=>by rw [qam,qam,h (k+1),qas h a k]
theorem qfK (b c:Nat->α):∀ (a:List α) (k:Nat),cvL a (λk=>b k+c k) k=cvL a b k+cvL a c k
 | [],_=>by rw [qaE,qaE,qaE];grind
 | x::a,0=>by rw [qaq,qaq,qaq];grind
 | x::a,k+1=>by rw [qam,qam,qam,qfK b c a k];grind
theorem qbw (s:α) (b:Nat->α):∀ (a:List α) (k:Nat),cvL a (λk=>s*b k) k=s*cvL a b k
 | [],_=>by rw [qaE,qaE];grind
 | x::a,0=>by rw [qaq,qaq];grind
 | x::a,k+1=>by rw [qam,qam,qbw s b a k];grind
noncomputable def up1 (b:Nat->α):Nat->α
 | 0=>0
 | k+1=>b k
theorem qnW (b:Nat->α):∀ (a:List α) (k:Nat),cvL a (up1 b) k=up1 (cvL a b) k
 | [],0=>rfl
 | [],k+1=>rfl
 | x::a,0=>by rw [qaq];show x*0+0=0;grind
 | x::a,1=>by
   rw [qam]
   have h:=qnW b a 0
   rw [h]
   show x*b 0+0=cvL (x::a) b 0
   rw [qaq]
 | x::a,k+2=>by
   rw [qam,qnW b a (k+1)]
   show x*b (k+1)+cvL a b k=cvL (x::a) b (k+1)
   rw [qam]
theorem qcT (x:α) (a:List α) (b:Nat->α) (k:Nat):cvL (x::a) b k=x*b k+up1 (cvL a b) k:=by
 cases k with
 | zero=>exact qaq x a b
 | succ k=>exact qam x a b k
theorem qei (c:Nat->α):∀ (a b:List α) (k:Nat),cvL a (cvL b c) k=cvL b (cvL a c) k
 | [],b,k=>by
   rw [qaE]
   have e:cvL b (cvL [] c) k=cvL b (λk=>0*c k) k:=qas (λk=>by rw [qaE];grind) b k
   rw [e,qbw]
   grind
 | x::a,b,k=>by
   rw [qcT]
   have e:cvL b (cvL (x::a) c) k=cvL b (λk=>x*c k+up1 (cvL a c) k) k:=qas (λk=>qcT x a c k) b k
   rw [e,qfK,qbw,qnW]
   have e2:up1 (cvL a (cvL b c)) k=up1 (cvL b (cvL a c)) k:=by
    cases k with
    | zero=>rfl
    | succ k=>exact qei c a b k
   rw [e2]
noncomputable def qbp:Nat->α
 | 0=>1
 | _+1=>0
theorem qbV:∀ (a:List α) (k:Nat),cvL a qbp k=a.getD k 0
 | [],k=>by rw [qaE];simp
 | x::a,0=>by rw [qaq];show x*1+0=x;grind
 | x::a,k+1=>by
   rw [qam,qbV a k]
   show x*0+a.getD k 0=(x::a).getD (k+1) 0
   rw [List.getD_cons_succ]
   grind
end
end Bs
namespace Bs
theorem qkJ {n k:Nat}:k∣2 ^ n↔∃ a,a<=n/\k=2 ^ a:=by
 constructor
 ·induction n generalizing k with
  | zero=>intro h;exact ⟨0,wad 0,by simpa using h⟩
  | succ n ih=>
    intro h
    by_cases h2:2∣k
    ·obtain ⟨j,rfl⟩:=h2
     rw [wa1,wbl (2 ^ n) 2] at h
     obtain ⟨a,ha,e⟩:=ih (Nat.dvd_of_mul_dvd_mul_left ∅ h)
     exact ⟨a+1,⋯,by rw [e,wa1,wbl]⟩
    ·have c:Nat.Coprime k 2:=by
      have:Nat.gcd k 2∣2:=Nat.gcd_dvd_right k 2
      have h3:=wcc ∅ this
      have h4:Nat.gcd k 2≠2:=λz=>h2 (by rw [<-z];exact Nat.gcd_dvd_left k 2)
      have h5:Nat.gcd k 2≠0:=λz=>by have:=Nat.eq_zero_of_gcd_eq_zero_right z;omega
      show Nat.gcd k 2=1
      omega
     rw [wa1] at h
     obtain ⟨a,ha,e⟩:=ih (c.dvd_of_dvd_mul_right h)
     exact ⟨a,⋯,e⟩
 ·rintro ⟨a,ha,rfl⟩
  exact Nat.pow_dvd_pow 2 ha
structure Pr (p:Nat):Prop where
 two:2<=p
 div:∀ d,d∣p->d=1\/d=p
theorem Pr.cop {p:Nat} (h:Pr p) {a:Nat} (ha:¬ p∣a):Nat.gcd a p=1:=by
 rcases h.div _ (Nat.gcd_dvd_right a p) with e | e
 ·exact e
 ·exact absurd (e ▸ Nat.gcd_dvd_left a p) ha
theorem Pr.mul {p:Nat} (h:Pr p) {a b:Nat} (hd:p∣a*b):p∣a\/p∣b:=by
 by_cases ha:p∣a
 ·exact .inl ha
 ·refine .inr (Nat.Coprime.dvd_of_dvd_mul_left (k:=p) (m:=a) ?_ hd)
  have:=h.cop ha
  rw [Nat.gcd_comm] at this
  exact this
theorem Pr.mulI {p:Nat} (h:Pr p) {a b:Int} (hd:(p:Int)∣a*b):(p:Int)∣a\/(p:Int)∣b:=by
 have z:=wbh.mpr hd
 rw [way,wbj] at z
 rcases h.mul z with e | e
 ·exact .inl (wbh.mp (by rw [wbj];exact e))
 ·exact .inr (wbh.mp (by rw [wbj];exact e))
theorem qjL {m:Nat} (hm:2<=m):∃ q,Pr q/\q∣m/\(q=m\/q*q<=m):=by
 have key:∀ n d,2<=d->(∀ e,2<=e->e<d->¬ e∣m)->m=d+n->∃ q,2<=q/\q∣m/\∀ e,2<=e->e<q->¬ e∣m:=by
  intro n
  induction n with
  | zero=>intro d hd h e;exact ⟨d,hd,by rw [e];exact Nat.dvd_refl _,h⟩
  | succ n ih=>
    intro d hd h e
    by_cases hdm:d∣m
    ·exact ⟨d,hd,hdm,h⟩
    ·refine ih (d+1) ⋯ (λx hx hx2=>?_) ⋯
     by_cases hxd:x=d
     ·rw [hxd];exact hdm
     ·exact h x hx ⋯
 obtain ⟨q,q2,qm,ql⟩:=key (m - 2) 2 (wad 2) (λe h1 h2=>absurd h2 ⋯) ⋯
 refine ⟨q,⟨q2,λd hd=>?_⟩,qm,?_⟩
 ·by_cases h2:2<=d
  ·right
   rcases wap d q with h | h
   ·exact absurd (Nat.dvd_trans hd qm) (ql d h2 h)
   ·exact Nat.le_antisymm (wcc ⋯ hd) h
  ·left
   have:d≠0:=λz=>by rw [z] at hd;have:=Nat.eq_zero_of_zero_dvd hd;omega
   omega
 ·obtain ⟨k,hk⟩:=qm
  by_cases k1:k<=1
  ·left
   have:k=1:=by
    rcases wbt k with z | z
    ·rw [z] at hk;omega
    ·omega
   rw [hk,this,Nat.mul_one]
  ·right
   rcases wap k q with h | h
   ·exact absurd ⟨q,by rw [hk,wbl]⟩ (ql k ⋯ h)
   ·rw [hk];exact wa6 q h
theorem pigeon:∀ (n m:Nat) (f:Nat->Nat),(∀ i,i<m->f i<n)->(∀ i j,i<m->j<m->f i=f j->i=j)->m<=n
 | 0,m,f,h,_=>by
   rcases wbt m with z | z
   ·omega
   ·exact absurd (h 0 z) ⋯
 | n+1,0,_,_,_=>by omega
 | n+1,m+1,f,h,inj=>by
   have:=pigeon n m (λi=>if f i=n then f m else f i) (λi hi=>by
    show (if f i=n then f m else f i)<n
    by_cases e:f i=n
    ·rw [if_pos e]
     have h1:=h m (wcb m)
     have:f m≠n:=λz=>absurd (inj i m ⋯ ⋯ (by rw [e,z])) ⋯
     omega
    ·rw [if_neg e]
     have h1:=h i ⋯
     omega) (λi j hi hj e=>by
    have e:(if f i=n then f m else f i)=(if f j=n then f m else f j):=e
    by_cases ei:f i=n
    ·rw [if_pos ei] at e
     by_cases ej:f j=n
     ·exact inj i j ⋯ ⋯ (by rw [ei,ej])
     ·rw [if_neg ej] at e
      exact absurd (inj m j ⋯ ⋯ e) ⋯
    ·rw [if_neg ei] at e
     by_cases ej:f j=n
     ·rw [if_pos ej] at e
      exact absurd (inj i m ⋯ ⋯ e) ⋯
     ·rw [if_neg ej] at e
      exact inj i j ⋯ ⋯ e)
   omega
noncomputable abbrev Rt:=Int×Int
noncomputable def rmul (q:Int) (x y:Rt):Rt:=((x.1*y.1+3*(x.2*y.2)) % q,(x.1*y.2+x.2*y.1) % q)
noncomputable def rpow (q:Int):Nat->Rt
 | 0=>(1 % q,0 % q)
 | n+1=>rmul q (2,1) (rpow q n)
theorem qbJ {q a b c:Int} (h:a - b=q*c):a % q=b % q:=by
 have:a=b+q*c:=by omega
 rw [this,Int.add_mul_emod_self_left]
theorem em {a q:Int}:∃ c,a % q=a - q*c:=⟨a / q,by have:=wco a q;omega⟩
theorem qcp (q:Int) (x y z:Rt):rmul q (rmul q x y) z=rmul q x (rmul q y z):=by
 obtain ⟨a,b⟩:=x
 obtain ⟨c,d⟩:=y
 obtain ⟨e,f⟩:=z
 obtain ⟨c1,h1⟩:=em (a:=a*c+3*(b*d)) (q:=q)
 obtain ⟨c2,h2⟩:=em (a:=a*d+b*c) (q:=q)
 obtain ⟨c3,h3⟩:=em (a:=c*e+3*(d*f)) (q:=q)
 obtain ⟨c4,h4⟩:=em (a:=c*f+d*e) (q:=q)
 refine Prod.ext ?_ ?_
 ·show ((a*c+3*(b*d)) % q*e+3*((a*d+b*c) % q*f)) % q=(a*((c*e+3*(d*f)) % q)+3*(b*((c*f+d*e) % q))) % q
  rw [h1,h2,h3,h4]
  exact qbJ (c:=a*c3+3*b*c4 - c1*e - 3*c2*f) (by grind)
 ·show ((a*c+3*(b*d)) % q*f+((a*d+b*c) % q*e)) % q=(a*((c*f+d*e) % q)+(b*((c*e+3*(d*f)) % q))) % q
  rw [h1,h2,h3,h4]
  exact qbJ (c:=a*c4+b*c3 - c1*f - c2*e) (by grind)
theorem qnX (q:Int) (x y:Rt):rmul q x y=rmul q y x:=by
 refine Prod.ext ?_ ?_
 ·show (x.1*y.1+3*(x.2*y.2)) % q=(y.1*x.1+3*(y.2*x.2)) % q
  congr 1;grind
 ·show (x.1*y.2+x.2*y.1) % q=(y.1*x.2+y.2*x.1) % q
  congr 1;grind
noncomputable def rn (q:Int) (x:Rt):Prop:=x.1 % q=x.1/\x.2 % q=x.2
theorem qrp (q:Int) (x y:Rt):rn q (rmul q x y):=⟨Int.emod_emod ..,Int.emod_emod ..⟩
theorem qeI (q:Int):∀ n,rn q (rpow q n)
 | 0=>⟨Int.emod_emod ..,Int.emod_emod ..⟩
 | _+1=>qrp q _ _
theorem rone (q:Int) {x:Rt} (h:rn q x):rmul q (rpow q 0) x=x:=by
 obtain ⟨c1,h1⟩:=em (a:=1) (q:=q)
 obtain ⟨c2,h2⟩:=em (a:=0) (q:=q)
 refine Prod.ext ?_ ?_
 ·show (1 % q*x.1+3*(0 % q*x.2)) % q=x.1
  rw [h1,h2,<-h.1]
  rw [qbJ (b:=x.1 % q) (c:=- c1*(x.1 % q) - 3*c2*x.2) (by grind),Int.emod_emod]
 ·show (1 % q*x.2+0 % q*x.1) % q=x.2
  rw [h1,h2,<-h.2]
  rw [qbJ (b:=x.2 % q) (c:=- c1*(x.2 % q) - c2*x.1) (by grind),Int.emod_emod]
theorem qdp (q:Int):∀ m n,rpow q (m+n)=rmul q (rpow q m) (rpow q n)
 | 0,n=>by rw [Nat.zero_add,rone q (qeI q n)]
 | m+1,n=>by
   rw [Nat.succ_add]
   show rmul q (2,1) (rpow q (m+n))=rmul q (rmul q (2,1) (rpow q m)) (rpow q n)
   rw [qdp q m n,qcp]
noncomputable def rinv (q:Int):Nat->Rt
 | 0=>(1 % q,0 % q)
 | n+1=>rmul q (2,-1) (rinv q n)
theorem r21 (q:Int):rmul q (2,-1) (2,1)=rpow q 0:=by
 refine Prod.ext ?_ ?_
 ·show (2*2+3*(-1*1)) % q=1 % q;rfl
 ·show (2*1 + -1*2) % q=0 % q;rfl
theorem qlH (q:Int):∀ n,rmul q (rinv q n) (rpow q n)=rpow q 0
 | 0=>rone q (qeI q 0)
 | n+1=>by
   show rmul q (rmul q (2,-1) (rinv q n)) (rmul q (2,1) (rpow q n))=_
   rw [qcp,<-qcp q (rinv q n),qnX q (rinv q n) (2,1),qcp q (2,1),qlH q n,<-qcp,r21,rone q (qeI q 0)]
theorem qiP (q:Int) {m:Nat} (h:rpow q m=rpow q 0):∀ k,rpow q (m*k)=rpow q 0
 | 0=>rfl
 | k+1=>by rw [Nat.mul_succ,qdp,qiP q h k,h,rone q (qeI q 0)]
theorem rord (q:Int) {n:Nat} (h1:rpow q (2 ^ (n+1))=rpow q 0) (h2:rpow q (2 ^ n)≠rpow q 0):∀ d,0<d->d<2 ^ (n+1)->rpow q d≠rpow q 0:=by
 intro d
 induction d using Nat.strongRecOn with
 | _ d ih=>
 intro d0 hd e
 have hr:=Nat.mod_lt (2 ^ (n+1)) d0
 have er:rpow q (2 ^ (n+1) % d)=rpow q 0:=by
  have e1:=Nat.div_add_mod (2 ^ (n+1)) d
  rw [<-e1,qdp,qiP q e,rone q (qeI q _)] at h1
  exact h1
 rcases wbt (2 ^ (n+1) % d) with z | z
 ·obtain ⟨k,hk⟩:=Nat.dvd_of_mod_eq_zero z
  obtain ⟨a,ha,hka⟩:=(qkJ (n:=n+1) (k:=d)).mp ⟨k,hk⟩
  have hlt:a<=n:=by
   rcases wap n a with h | h
   ·exfalso
    have:a=n+1:=by omega
    rw [this] at hka
    omega
   ·exact h
  apply h2
  have e2:2 ^ n=d*2 ^ (n - a):=by rw [hka,<-wbn];congr 1;omega
  rw [e2]
  exact qiP q e _
 ·exact ih _ hr z ⋯ er
theorem rnorm (q:Int):∀ n,∃ c,(rpow q n).1*(rpow q n).1 - 3*((rpow q n).2*(rpow q n).2) - 1=q*c
 | 0=>by
   obtain ⟨c1,h1⟩:=em (a:=1) (q:=q)
   obtain ⟨c2,h2⟩:=em (a:=0) (q:=q)
   refine ⟨-2*c1+q*c1*c1 - 3*q*c2*c2,?_⟩
   show (1 % q)*(1 % q) - 3*((0 % q)*(0 % q)) - 1=_
   rw [h1,h2];grind
 | n+1=>by
   obtain ⟨c,hc⟩:=rnorm q n
   obtain ⟨c1,h1⟩:=em (a:=2*(rpow q n).1+3*(1*(rpow q n).2)) (q:=q)
   obtain ⟨c2,h2⟩:=em (a:=2*(rpow q n).2+1*(rpow q n).1) (q:=q)
   have e1:(rpow q (n+1)).1=2*(rpow q n).1+3*(1*(rpow q n).2) - q*c1:=h1
   have e2:(rpow q (n+1)).2=2*(rpow q n).2+1*(rpow q n).1 - q*c2:=h2
   rw [e1,e2]
   generalize (rpow q n).1=a at *
   generalize (rpow q n).2=b at *
   exact ⟨c - 2*c1*(2*a+3*b)+q*c1*c1+6*c2*(2*b+a) - 3*q*c2*c2,by grind⟩
theorem qrq (q:Int) (n:Nat):∃ c,2*(rpow q (n+n)).1=(2*(rpow q n).1)*(2*(rpow q n).1) - 2+q*c:=by
 obtain ⟨c,hc⟩:=rnorm q n
 rw [qdp]
 obtain ⟨c1,h1⟩:=em (a:=(rpow q n).1*(rpow q n).1+3*((rpow q n).2*(rpow q n).2)) (q:=q)
 refine ⟨-2*c1 - 2*c,?_⟩
 show 2*(((rpow q n).1*(rpow q n).1+3*((rpow q n).2*(rpow q n).2)) % q)=_
 rw [h1];grind
noncomputable def ll (M:Nat):Nat->Nat->Nat
 | 0,s=>s
 | k+1,s=>ll M k ((s*s+(M - 2)) % M)
theorem qnY {q:Int} {M:Nat} (hM:2<=M) (hq:q∣(M:Int)):∀ (k t s:Nat),q∣2*(rpow q (2 ^ t)).1 - (s:Int)->q∣2*(rpow q (2 ^ (t+k))).1 - (ll M k s:Int)
 | 0,t,s,h=>h
 | k+1,t,s,h=>by
   have:=qnY hM hq k (t+1) ((s*s+(M - 2)) % M) (by
    obtain ⟨c,hc⟩:=qrq q (2 ^ t)
    obtain ⟨d,hd⟩:=h
    obtain ⟨m,hm⟩:=hq
    have e:(2:Nat) ^ (t+1)=2 ^ t+2 ^ t:=by rw [wa1];omega
    rw [e,hc]
    have z:(((s*s+(M - 2)) % M:Nat):Int)=(s:Int)*s+(M - 2) - M*(((s*s+(M - 2)) / M:Nat):Int):=by
     have:=Nat.mod_add_div (s*s+(M - 2)) M
     have z2:(((s*s+(M - 2)) % M:Nat):Int)+(M:Int)*(((s*s+(M - 2)) / M:Nat):Int)=(s:Int)*s+(M - 2):=by
      have:=congrArg (λx:Nat=>(x:Int)) this
      simp only [Int.natCast_add,Int.natCast_mul] at this
      rw [this,Int.natCast_sub hM]
      rfl
     omega
    rw [z]
    generalize (((s*s+(M - 2)) / M:Nat):Int)=w
    generalize (rpow q (2 ^ t)).1=a at hd
    have hd':2*a=s+q*d:=by omega
    rw [hd',hm]
    exact ⟨2*s*d+q*d*d+c - m+m*w,by grind⟩)
   rw [show t+(k+1)=t+1+k by omega]
   exact this
theorem qpK {n:Nat} (h:ll (2 ^ (n+2) - 1) n 4 % (2 ^ (n+2) - 1)=0):Pr (2 ^ (n+2) - 1):=by
 have big:4<=2 ^ (n+2):=by rw [wbn];have:=Nat.one_le_two_pow (n:=n);omega
 generalize hM:2 ^ (n+2) - 1=M at h ⊢
 obtain ⟨q,pq,qM,hq⟩:=qjL (m:=M) ⋯
 rcases hq with e | hq
 ·rw [<-e];exact pq
 exfalso
 have qI:(q:Int)∣(M:Int):=Int.natCast_dvd_natCast.mpr qM
 have q2:=pq.two
 have odd:q≠2:=λz=>by
  rw [z] at qM
  have:2 ^ (n+2)=2*2 ^ (n+1):=by rw [wa1 2 (n+1)];omega
  omega
 have s0:(q:Int)∣2*(rpow q (2 ^ (0+n))).1 - (ll M n 4:Int):=qnY ⋯ qI n 0 4 (by
  show (q:Int)∣2*(rmul q (2,1) (rpow q 0)).1 - 4
  obtain ⟨c1,h1⟩:=em (a:=1) (q:=(q:Int))
  obtain ⟨c2,h2⟩:=em (a:=0) (q:=(q:Int))
  show (q:Int)∣2*((2*(1 % (q:Int))+3*(1*(0 % (q:Int)))) % (q:Int)) - 4
  obtain ⟨c3,h3⟩:=em (a:=2*(1 % (q:Int))+3*(1*(0 % (q:Int)))) (q:=(q:Int))
  rw [h3,h1,h2]
  exact ⟨-4*c1 - 6*c2 - 2*c3,by grind⟩)
 have s1:(q:Int)∣(ll M n 4:Int):=Int.natCast_dvd_natCast.mpr (Nat.dvd_trans qM (Nat.dvd_of_mod_eq_zero h))
 have s2:(q:Int)∣2*(rpow q (2 ^ n)).1:=by
  have:=wbx s0 s1
  rw [Nat.zero_add] at this
  rw [Int.sub_add_cancel] at this
  exact this
 have s3:(q:Int)∣(rpow q (2 ^ n)).1:=by
  rcases pq.mulI s2 with z | z
  ·exfalso
   have z2:=Int.natCast_dvd_natCast.mp (show (q:Int)∣((2:Nat):Int) from z)
   have:=wcc ∅ z2
   omega
  ·exact z
 have qne:(q:Int)≠0:=by omega
 have m1:rpow q (2 ^ (n+1))=((-1) % (q:Int),0 % (q:Int)):=by
  have e:(2:Nat) ^ (n+1)=2 ^ n+2 ^ n:=by rw [wa1];omega
  rw [e,qdp]
  obtain ⟨c,hc⟩:=rnorm q (2 ^ n)
  obtain ⟨d,hd⟩:=s3
  refine Prod.ext ?_ ?_
  ·show ((rpow q (2 ^ n)).1*(rpow q (2 ^ n)).1+3*((rpow q (2 ^ n)).2*(rpow q (2 ^ n)).2)) % (q:Int)=(-1) % (q:Int)
   refine qbJ (c:=2*q*d*d - c) ?_
   generalize (rpow q (2 ^ n)).2=b at *
   rw [hd] at hc ⊢
   grind
  ·show ((rpow q (2 ^ n)).1*(rpow q (2 ^ n)).2+(rpow q (2 ^ n)).2*(rpow q (2 ^ n)).1) % (q:Int)=0 % (q:Int)
   refine qbJ (c:=2*d*(rpow q (2 ^ n)).2) ?_
   rw [hd];grind
 have h2:rpow q (2 ^ (n+1))≠rpow q 0:=λz=>by
  rw [m1] at z
  have z1:(-1) % (q:Int)=1 % (q:Int):=congrArg Prod.fst z
  have z2:(q:Int)∣-1 - 1:=Int.dvd_of_emod_eq_zero ((Int.emod_eq_emod_iff_emod_sub_eq_zero).mp z1)
  have z3:=wbh.mpr z2
  have:=wcc ∅ z3
  rw [wbj] at this
  have:(-1 - 1:Int).natAbs=2:=by decide
  omega
 have h1:rpow q (2 ^ (n+1+1))=rpow q 0:=by
  have e:(2:Nat) ^ (n+1+1)=2 ^ (n+1)+2 ^ (n+1):=by rw [wa1 2 (n+1)];omega
  rw [e,qdp,m1]
  obtain ⟨c1,e1⟩:=em (a:=-1) (q:=(q:Int))
  obtain ⟨c2,e2⟩:=em (a:=0) (q:=(q:Int))
  refine Prod.ext ?_ ?_
  ·show ((-1) % (q:Int)*((-1) % (q:Int))+3*(0 % (q:Int)*(0 % (q:Int)))) % (q:Int)=1 % (q:Int)
   refine qbJ (c:=2*c1+q*c1*c1+3*q*c2*c2) ?_
   rw [e1,e2];grind
  ·show ((-1) % (q:Int)*(0 % (q:Int))+0 % (q:Int)*((-1) % (q:Int))) % (q:Int)=0 % (q:Int)
   refine qbJ (c:=2*c2+2*q*c1*c2) ?_
   rw [e1,e2];grind
 have ord:=rord (q:Int) h1 h2
 have ne:∀ i d,0<d->i+d<2 ^ (n+2)->rpow q i≠rpow q (i+d):=λi d d0 hd z=>by
  have e:rpow q d=rpow q 0:=by
   have a:=qlH (q:Int) i
   have b:rmul q (rinv q i) (rpow q (i+d))=rpow q d:=by
    rw [qdp,<-qcp,a,rone _ (qeI _ _)]
   rw [<-b,<-z,a]
  exact ord d d0 (by have:(2:Nat) ^ (n+1+1)=2 ^ (n+2):=rfl;omega) e
 have lt:∀ i,0<=(rpow q i).1/\(rpow q i).1<q/\0<=(rpow q i).2/\(rpow q i).2<q:=λi=>by
  obtain ⟨a,b⟩:=qeI (q:Int) i
  have p0:(0:Int)<q:=by omega
  have u1:=wba (rpow q i).1 qne
  have u2:=wbg (rpow q i).1 p0
  have u3:=wba (rpow q i).2 qne
  have u4:=wbg (rpow q i).2 p0
  rw [a] at u1 u2
  rw [b] at u3 u4
  exact ⟨u1,u2,u3,u4⟩
 have pg:=pigeon (q*q) (2 ^ (n+2)) (λi=>(rpow q i).1.toNat*q+(rpow q i).2.toNat) (λi _=>by
  obtain ⟨a,b,c,d⟩:=lt i
  have a':(rpow q i).1.toNat+1<=q:=by omega
  have d':(rpow q i).2.toNat<q:=by omega
  have:=wbe q a'
  rw [wb5,Nat.one_mul] at this
  show (rpow q i).1.toNat*q+(rpow q i).2.toNat<q*q
  omega) (λi j hi hj e=>by
  have e:(rpow q i).1.toNat*q+(rpow q i).2.toNat=(rpow q j).1.toNat*q+(rpow q j).2.toNat:=e
  obtain ⟨a,b,c,d⟩:=lt i
  obtain ⟨a',b',c',d'⟩:=lt j
  have m1:=congrArg (·% q) e
  have m2:=congrArg (·/ q) e
  simp only [wbl _ q,Nat.mul_add_mod,Nat.mul_add_div (show 0<q by omega)] at m1 m2
  rw [Nat.mod_eq_of_lt ⋯,Nat.mod_eq_of_lt ⋯] at m1
  rw [Nat.div_eq_of_lt ⋯,Nat.div_eq_of_lt ⋯] at m2
  have ee:rpow q i=rpow q j:=Prod.ext ⋯ ⋯
  rcases Nat.lt_trichotomy i j with h | h | h
  ·exact absurd ee (by have:=ne i (j - i) ⋯ ⋯;rw [show i+(j - i)=j by omega] at this;exact this)
  ·exact h
  ·exact absurd ee.symm (by have:=ne j (i - j) ⋯ ⋯;rw [show j+(i - j)=i by omega] at this;exact this))
 omega
end Bs
namespace Bs
noncomputable def llk (M k s:Nat):Nat:=Nat.rec (motive:=λ_=>Nat->Nat) (λs=>s) (λ_ ih s=>ih ((s*s+(M - 2)) % M)) k s
noncomputable def llf (x:Nat) (f:Nat->Nat):Nat:=Nat.rec (motive:=λ_=>Nat) (f 0) (λn _=>f (n+1)) x
noncomputable def llo (M k j s:Nat):Nat:=Nat.rec (motive:=λ_=>Nat->Nat) (λs=>s) (λ_ ih s=>llf (llk M k s) ih) j s
theorem qnZ (M:Nat):∀ k s,llk M k s=ll M k s
 | 0,_=>rfl
 | k+1,s=>qnZ M k _
theorem qqC (x:Nat) (f:Nat->Nat):llf x f=f x:=by cases x <;> rfl
theorem qn0 (M:Nat):∀ a b s,ll M (a+b) s=ll M b (ll M a s)
 | 0,b,s=>by rw [Nat.zero_add];rfl
 | a+1,b,s=>by rw [Nat.succ_add];exact qn0 M a b _
theorem qqD (M k:Nat):∀ j s,llo M k j s=ll M (k*j) s
 | 0,_=>rfl
 | j+1,s=>by
   show llf (llk M k s) (llo M k j)=_
   rw [qqC,qnZ,qqD M k j,<-qn0]
   congr 1
   rw [Nat.mul_succ,Nat.add_comm]
noncomputable def mers (e:Nat):Nat:=2 ^ e - 1
theorem qcU {n r k j:Nat} (e:n=k*j+r) (h:Nat.beq (llf (llo (mers (n+2)) k j 4) (λs=>llk (mers (n+2)) r s % mers (n+2))) 0=true):Pr (mers (n+2)):=by
 refine qpK ?_
 replace h:=Nat.eq_of_beq_eq_true h
 rw [qqC,qqD,qnZ,<-qn0,<-e] at h
 exact h
theorem quQ:Pr (mers 61):=qcU (n:=59) (r:=9) (k:=10) (j:=5) rfl (by decide +kernel)
theorem qtW:Pr (mers 127):=qcU (n:=125) (r:=5) (k:=20) (j:=6) rfl (by decide +kernel)
theorem qtX:Pr (mers 521):=qcU (n:=519) (r:=19) (k:=50) (j:=10) rfl (by decide +kernel)
theorem qsT:Pr (mers 1279):=qcU (n:=1277) (r:=77) (k:=100) (j:=12) rfl (by decide +kernel)
theorem qsU:Pr (mers 4423):=qcU (n:=4421) (r:=21) (k:=100) (j:=44) rfl (by decide +kernel)
theorem qsV:Pr (mers 9941):=qcU (n:=9939) (r:=39) (k:=100) (j:=99) rfl (by decide +kernel)
theorem qrr:Pr (mers 21701):=qcU (n:=21699) (r:=99) (k:=150) (j:=144) rfl (by decide +kernel)
theorem qrs:Pr (mers 44497):=qcU (n:=44495) (r:=95) (k:=200) (j:=222) rfl (by decide +kernel)
end Bs
namespace Bs
noncomputable def co (ns:List Int) (k:Nat):Int:=ns.getD k 0
section
variable {α:Type} [Lean.Grind.CommRing α]
noncomputable def qaN:List α->List α->List α
 | [],b=>b
 | a,[]=>a
 | x::a,y::b=>(x+y)::qaN a b
theorem qe3 (a:List α):qaN a []=a:=by cases a <;> rfl
theorem qax (g:Nat->α):∀ (a b:List α) (k:Nat),cvL (qaN a b) g k=cvL a g k+cvL b g k
 | [],b,k=>by show cvL b g k=0+cvL b g k;grind
 | x::a,[],k=>by rw [qe3,qaE];grind
 | x::a,y::b,0=>by show cvL ((x+y)::qaN a b) g 0=_;rw [qaq,qaq,qaq];grind
 | x::a,y::b,k+1=>by show cvL ((x+y)::qaN a b) g (k+1)=_;rw [qam,qam,qam,qax g a b k];grind
theorem qat (c:α) (g:Nat->α):∀ (a:List α) (k:Nat),cvL (a.map (c*·)) g k=c*cvL a g k
 | [],k=>by show (0:α)=c*0;grind
 | x::a,0=>by rw [List.map_cons,qaq,qaq];grind
 | x::a,k+1=>by rw [List.map_cons,qam,qam,qat c g a k];grind
noncomputable def upS (s:Nat) (f:Nat->α) (k:Nat):α:=if s<=k then f (k - s) else 0
theorem qc9 (g:Nat->α):∀ (s:Nat) (a:List α) (k:Nat),cvL (List.replicate s 0++a) g k=upS s (cvL a g) k
 | 0,a,k=>by unfold upS;rw [if_pos (wae k)];rfl
 | s+1,a,0=>by unfold upS;rw [if_neg ⋯];show cvL (0::(List.replicate s 0++a)) g 0=0;rw [qaq];grind
 | s+1,a,k+1=>by
   show cvL (0::(List.replicate s 0++a)) g (k+1)=_
   rw [qam,qc9 g s a k]
   unfold upS
   by_cases h:s<=k
   ·rw [if_pos h,if_pos ⋯,show k+1 - (s+1)=k - s by omega];grind
   ·rw [if_neg h,if_neg ⋯];grind
noncomputable def qaJ:List α->List α->List α
 | [],_=>[]
 | x::a,b=>qaN (b.map (x*·)) (0::qaJ a b)
theorem qaC (g:Nat->α):∀ (a b:List α) (k:Nat),cvL (qaJ a b) g k=cvL a (cvL b g) k
 | [],b,k=>rfl
 | x::a,b,k=>by
   show cvL (qaN (b.map (x*·)) (0::qaJ a b)) g k=_
   rw [qax,qat,qcT,qcT]
   have e:up1 (cvL (qaJ a b) g) k=up1 (cvL a (cvL b g)) k:=by
    cases k with
    | zero=>rfl
    | succ k=>exact qaC g a b k
   rw [e]
   grind
theorem qbc (g:Nat->α) (s:α):∀ (a:List α) (k:Nat),cvL (a++[s]) g k=cvL a g k+s*upS a.length g k
 | [],0=>by show cvL [s] g 0=0+s*g 0;rw [qaq];grind
 | [],k+1=>by show cvL [s] g (k+1)=0+s*g (k+1);rw [qam,qaE];grind
 | x::a,0=>by show cvL (x::(a++[s])) g 0=_;rw [qaq,qaq];unfold upS;rw [if_neg (by simp)];grind
 | x::a,k+1=>by
   show cvL (x::(a++[s])) g (k+1)=_
   rw [qam,qam,qbc g s a k]
   have e:upS (x::a).length g (k+1)=upS a.length g k:=by
    unfold upS
    rw [wbi]
    by_cases h:a.length<=k
    ·rw [if_pos h,if_pos ⋯,show k+1 - (a.length+1)=k - a.length by omega]
    ·rw [if_neg h,if_neg ⋯]
   rw [e];grind
theorem qb6 (a:List α) {g:Nat->α} (h:∀ k,g k=0) (k:Nat):cvL a g k=0:=by
 rw [qas (c:=λk=>0*g k) (λj=>by rw [h j];grind) a k,qbw]
 grind
end
theorem qbg (a:List Int) (k:Nat):co a k=cvL a qbp k:=(qbV a k).symm
theorem qbj (a b:List Int) (k:Nat):cvL a (co b) k=cvL b (co a) k:=by
 rw [qas (qbg b) a k,qei,qas (λj=>(qbg a j).symm) b k]
theorem qau {a:List Int} {k:Nat} (h:a.length<=k):co a k=0:=by
 unfold co;rw [wab,wat h];rfl
theorem qbD {g:Nat->Int} {n:Nat} (h:∀ i,n<=i->g i=0):∀ (a:List Int) (k:Nat),a.length+n<=k+1->cvL a g k=0
 | [],_,_=>rfl
 | x::a,0,hk=>by
   rw [wbi] at hk
   rw [qaq,h 0 ⋯];omega
 | x::a,k+1,hk=>by
   rw [wbi] at hk
   rw [qam,h (k+1) ⋯,qbD h a k ⋯];omega
theorem qiQ {p:Int} {g:Nat->Int} {n:Nat} (h:∀ i,n<i->p∣g i):∀ (a:List Int) (k:Nat),a.length+n<=k->p∣cvL a g k
 | [],_,_=>wby p
 | x::a,0,hk=>absurd hk (by rw [wbi];omega)
 | x::a,k+1,hk=>by
   rw [wbi] at hk
   rw [qam]
   exact wbx (wcy (h (k+1) ⋯)) (qiQ h a k ⋯)
theorem qe4 {p:Nat} (hp:Pr p) {g:Nat->Int} {n:Nat} (h0:¬ (p:Int)∣g n) (h:∀ i,n<i->(p:Int)∣g i) (S:List Int) :
  (∀ k,n<=k->(p:Int)∣cvL S g k)->∀ s∈S,(p:Int)∣s:=by
 induction hl:S.length generalizing S with
 | zero=>intro _ s hs;rw [wbd.mp hl] at hs;exact nomatch hs
 | succ m ih=>
   intro hk
   have ne:S≠[]:=λz=>by rw [z] at hl;simp at hl
   obtain ⟨T,t,rfl⟩:∃ T t,S=T++[t]:=⟨S.dropLast,S.getLast ne,(wct ne).symm⟩
   have hT:T.length=m:=by simpa using hl
   have ht:(p:Int)∣t:=by
    have a:=hk (T.length+n) ⋯
    rw [qbc] at a
    have b:=qiQ h T (T.length+n) (wad _)
    have c:(p:Int)∣t*upS T.length g (T.length+n):=by
     have:=Int.dvd_sub a b
     rwa [show ∀ x y:Int,x+y - x=y by intro x y;omega] at this
    unfold upS at c
    rw [if_pos ⋯,show T.length+n - T.length=n by omega] at c
    rcases hp.mulI c with z | z
    ·exact z
    ·exact absurd z h0
   have hT2:=ih T hT (λk hk2=>by
    have a:=hk k hk2
    rw [qbc] at a
    have:=Int.dvd_sub a (wcv (c:=upS T.length g k) ht)
    rwa [show ∀ x y:Int,x+y - y=x by intro x y;omega] at this)
   intro s hs
   rcases wbk.mp hs with h | h
   ·exact hT2 s h
   ·rw [war.mp h];exact ht
noncomputable def Lz (g:List Int):Prop:=0<g.length/\co g (g.length - 1)≠0
noncomputable def QI (r o f:Nat->Int):Prop:=∃ d:Int,d≠0/\∃ U V:List Int,∀ k,d*f k=cvL U r k+cvL V o k
noncomputable def MQ (g f:Nat->Int):Prop:=∃ c:Int,c≠0/\∃ A:List Int,∀ k,c*f k=cvL A g k
theorem QI.congr {r o f h:Nat->Int} (q:QI r o f) (e:∀ k,h k=f k):QI r o h:=by
 obtain ⟨d,d0,U,V,hU⟩:=q
 exact ⟨d,d0,U,V,λk=>by rw [e k];exact hU k⟩
theorem QI.left (r o:Nat->Int):QI r o r:=⟨1,∅,[1],[],λk=>by
 rw [qaE]
 cases k with
 | zero=>rw [qaq];omega
 | succ k=>rw [qam,qaE];omega⟩
theorem QI.right (r o:Nat->Int):QI r o o:=⟨1,∅,[],[1],λk=>by
 rw [qaE]
 cases k with
 | zero=>rw [qaq];omega
 | succ k=>rw [qam,qaE];omega⟩
theorem QI.less {r o f h:Nat->Int} (q:QI r o f) (q':QI r o h) (a w:Int) (s:Nat):QI r o (λk=>a*f k - w*upS s h k):=by
 obtain ⟨d,d0,U,V,hU⟩:=q
 obtain ⟨d',d0',U',V',hU'⟩:=q'
 refine ⟨d*d',wa7 d0 d0',qaN (U.map (d'*a*·)) (List.replicate s 0++U'.map (-(d*w)*·)),qaN (V.map (d'*a*·)) (List.replicate s 0++V'.map (-(d*w)*·)),λk=>?_⟩
 show d*d'*(a*f k - w*upS s h k)=_
 rw [qax,qax,qat,qat,qc9,qc9]
 unfold upS
 have e1:=hU k
 by_cases hs:s<=k
 ·rw [if_pos hs,if_pos hs,if_pos hs,qat,qat]
  have e2:=hU' (k - s)
  grind
 ·rw [if_neg hs,if_neg hs,if_neg hs]
  grind
theorem QI.scal {r o f:Nat->Int} {c:Int} (c0:c≠0) (q:QI r o (λk=>c*f k)):QI r o f:=by
 obtain ⟨d,d0,U,V,hU⟩:=q
 exact ⟨d*c,wa7 d0 c0,U,V,λk=>by rw [<-hU k];grind⟩
theorem MQ.refl (g:Nat->Int):MQ g g:=⟨1,∅,[1],λk=>by
 cases k with
 | zero=>rw [qaq];omega
 | succ k=>rw [qam,qaE];omega⟩
theorem MQ.zero (g:Nat->Int) {f:Nat->Int} (h:∀ k,f k=0):MQ g f:=⟨1,∅,[],λk=>by rw [qaE,h k];rfl⟩
theorem MQ.congr {g f h:Nat->Int} (m:MQ g f) (e:∀ k,h k=f k):MQ g h:=by
 obtain ⟨c,c0,A,hA⟩:=m
 exact ⟨c,c0,A,λk=>by rw [e k];exact hA k⟩
theorem MQ.less {g f h:Nat->Int} (m:MQ g f) (m':MQ g h) (a w:Int) (s:Nat):MQ g (λk=>a*f k - w*upS s h k):=by
 obtain ⟨d,d0,U,hU⟩:=m
 obtain ⟨d',d0',U',hU'⟩:=m'
 refine ⟨d*d',wa7 d0 d0',qaN (U.map (d'*a*·)) (List.replicate s 0++U'.map (-(d*w)*·)),λk=>?_⟩
 show d*d'*(a*f k - w*upS s h k)=_
 rw [qax,qat,qc9]
 unfold upS
 have e1:=hU k
 by_cases hs:s<=k
 ·rw [if_pos hs,if_pos hs,qat]
  have e2:=hU' (k - s)
  grind
 ·rw [if_neg hs,if_neg hs]
  grind
theorem MQ.scal {g f:Nat->Int} {c:Int} (c0:c≠0) (m:MQ g (λk=>c*f k)):MQ g f:=by
 obtain ⟨d,d0,A,hA⟩:=m
 exact ⟨d*c,wa7 d0 c0,A,λk=>by rw [<-hA k];grind⟩
theorem MQ.trans {g f h:Nat->Int} (m:MQ g f) (m':MQ f h):MQ g h:=by
 obtain ⟨c,c0,A,hA⟩:=m
 obtain ⟨d,d0,B,hB⟩:=m'
 refine ⟨c*d,wa7 c0 d0,qaJ B A,λk=>?_⟩
 rw [qaC]
 have e:c*cvL B f k=cvL B (cvL A g) k:=by rw [<-qbw];exact qas hA B k
 rw [<-e,<-hB k];grind
theorem MQ.of_QI {r o f g:Nat->Int} (m1:MQ g r) (m2:MQ g o) (q:QI r o f):MQ g f:=by
 obtain ⟨d,d0,U,V,hU⟩:=q
 obtain ⟨c,c0,A,hA⟩:=m1
 obtain ⟨e,e0,B,hB⟩:=m2
 refine ⟨c*e*d,wa7 (wa7 c0 e0) d0,qaN ((qaJ U A).map (e*·)) ((qaJ V B).map (c*·)),λk=>?_⟩
 rw [qax,qat,qat,qaC,qaC]
 have e1:c*cvL U r k=cvL U (cvL A g) k:=by rw [<-qbw];exact qas hA U k
 have e2:e*cvL V o k=cvL V (cvL B g) k:=by rw [<-qbw];exact qas hB V k
 have e3:=hU k
 grind
theorem QI.of_MQ {r o f h:Nat->Int} (q:QI r o f) (m:MQ f h):QI r o h:=by
 obtain ⟨c,c0,A,hA⟩:=m
 obtain ⟨d,d0,U,V,hU⟩:=q
 refine ⟨d*c,wa7 d0 c0,qaJ A U,qaJ A V,λk=>?_⟩
 rw [qaC,qaC]
 have e:d*cvL A f k=cvL A (cvL U r) k+cvL A (cvL V o) k:=by rw [<-qbw,<-qfK];exact qas hU A k
 rw [<-e,<-hA k];grind
end Bs
namespace Bs
theorem qeJ {f:List Int} (h:co f (f.length - 1)=0) (k:Nat):co f.dropLast k=co f k:=by
 unfold co at *
 rw [wab,wab]
 rw [List.getElem?_dropLast]
 by_cases hk:k<f.length - 1
 ·rw [if_pos hk]
 ·rw [if_neg hk]
  by_cases e:k=f.length - 1
  ·subst e
   rw [wab] at h
   rw [h];rfl
  ·rw [wat ⋯]
theorem qhL (f:List Int):(∀ k,co f k=0)\/∃ g,Lz g/\g.length<=f.length/\∀ k,co g k=co f k:=by
 induction hn:f.length generalizing f with
 | zero=>exact .inl λk=>qau ⋯
 | succ n ih=>
   by_cases h:co f (f.length - 1)=0
   ·rcases ih f.dropLast (by rw [List.length_dropLast];omega) with z | ⟨g,g1,g2,g3⟩
    ·exact .inl λk=>by rw [<-qeJ h];exact z k
    ·exact .inr ⟨g,g1,⋯,λk=>by rw [g3,qeJ h]⟩
   ·exact .inr ⟨f,⟨⋯,h⟩,⋯,λ_=>rfl⟩
theorem qgD (n:Nat) (F:Nat->Int) (k:Nat):co ((List.range n).map F) k=if k<n then F k else 0:=by
 unfold co
 rw [wab,waf]
 by_cases h:k<n
 ·rw [if_pos h,wb2 h];rfl
 ·rw [if_neg h,wat (by rw [waw];omega)];rfl
structure Gen (r o:Nat->Int) (g:List Int):Prop where
 lz:Lz g
 qi:QI r o (co g)
 len:∀ h,Lz h->QI r o (co h)->g.length<=h.length
 last:∀ h,Lz h->QI r o (co h)->h.length=g.length->(co g (g.length - 1)).natAbs<=(co h (h.length - 1)).natAbs
theorem qsW {r o:Nat->Int} {f:List Int} (lf:Lz f) (q:QI r o (co f)):∃ g,Gen r o g:=by
 have L:∀ n,(∃ f,f.length=n/\Lz f/\QI r o (co f))->∃ m,(∃ f,f.length=m/\Lz f/\QI r o (co f))/\∀ h,Lz h->QI r o (co h)->m<=h.length:=by
  intro n
  induction n using Nat.strongRecOn with
  | _ n ih=>
    intro hf
    by_cases hx:∃ m,m<n/\∃ f,f.length=m/\Lz f/\QI r o (co f)
    ·obtain ⟨m,hm,hx⟩:=hx
     exact ih m hm hx
    ·refine ⟨n,hf,λh lh qh=>?_⟩
     rcases wap h.length n with z | z
     ·exact absurd ⟨h.length,z,h,rfl,lh,qh⟩ hx
     ·exact z
 obtain ⟨m,⟨f1,e1,l1,q1⟩,hm⟩:=L f.length ⟨f,rfl,lf,q⟩
 have M:∀ n,(∃ f,f.length=m/\Lz f/\QI r o (co f)/\(co f (f.length - 1)).natAbs=n)->∃ g,Gen r o g:=by
  intro n
  induction n using Nat.strongRecOn with
  | _ n ih=>
    rintro ⟨f,fm,lf,qf,fn⟩
    by_cases hx:∃ j,j<n/\∃ f,f.length=m/\Lz f/\QI r o (co f)/\(co f (f.length - 1)).natAbs=j
    ·obtain ⟨j,hj,hx⟩:=hx
     exact ih j hj hx
    ·refine ⟨f,lf,qf,λh lh qh=>by rw [fm];exact hm h lh qh,λh lh qh hl=>?_⟩
     rcases wap (co h (h.length - 1)).natAbs (co f (f.length - 1)).natAbs with z | z
     ·exact absurd ⟨_,⋯,h,⋯,lh,qh,rfl⟩ hx
     ·exact z
 exact M _ ⟨f1,e1,l1,q1,rfl⟩
theorem Gen.mq {r o:Nat->Int} {g:List Int} (G:Gen r o g):∀ (n:Nat) (f:List Int),f.length<=n->QI r o (co f)->MQ (co g) (co f)
 | 0,f,h,_=>MQ.zero _ λk=>qau ⋯
 | n+1,f,h,q=>by
   rcases qhL f with z | ⟨f1,l1,h1,e1⟩
   ·exact MQ.zero _ z
   have q1:QI r o (co f1):=q.congr e1
   have gl:=G.len f1 l1 q1
   refine MQ.congr (f:=co f1) ?_ λk=>(e1 k).symm
   generalize hs:f1.length - g.length=s
   have g0:=G.lz.1
   let F:List Int:=(List.range (f1.length - 1)).map λk=>co g (g.length - 1)*co f1 k - co f1 (f1.length - 1)*upS s (co g) k
   have eF:∀ k,co F k=co g (g.length - 1)*co f1 k - co f1 (f1.length - 1)*upS s (co g) k:=λk=>by
    rw [qgD]
    by_cases hk:k<f1.length - 1
    ·rw [if_pos hk]
    ·rw [if_neg hk]
     unfold upS
     by_cases hk2:k=f1.length - 1
     ·rw [if_pos ⋯,hk2,show f1.length - 1 - s=g.length - 1 by omega];grind
     ·rw [qau (a:=f1) ⋯]
      by_cases hk3:s<=k
      ·rw [if_pos hk3,qau (a:=g) (k:=k - s) ⋯];omega
      ·rw [if_neg hk3];omega
   have qF:QI r o (co F):=QI.congr (q1.less G.qi (co g (g.length - 1)) (co f1 (f1.length - 1)) s) eF
   have lF:F.length<=n:=by
    have:F.length=f1.length - 1:=by show ((List.range (f1.length - 1)).map _).length=_;rw [waa,waw]
    omega
   have m:=Gen.mq G n F lF qF
   have m2:=MQ.less (MQ.congr m λk=>(eF k).symm) (MQ.refl (co g)) 1 (-(co f1 (f1.length - 1))) s
   refine MQ.scal (c:=co g (g.length - 1)) G.lz.2 (MQ.congr m2 λk=>?_)
   show _=1*_ - _*upS s (co g) k
   generalize upS s (co g) k=y
   grind
theorem Gen.prim {r o:Nat->Int} {g:List Int} (G:Gen r o g) {p:Nat} (hp:2<=p):∃ n,¬ (p:Int)∣co g n/\∀ i,n<i->(p:Int)∣co g i:=by
 have key:∀ n,(∀ i,n<=i->(p:Int)∣co g i)->(∀ i,(p:Int)∣co g i)\/∃ n,¬ (p:Int)∣co g n/\∀ i,n<i->(p:Int)∣co g i:=by
  intro n
  induction n with
  | zero=>intro h;exact .inl λi=>h i (wae i)
  | succ n ih=>
    intro h
    by_cases hd:(p:Int)∣co g n
    ·exact ih λi hi=>by
      by_cases e:i=n
      ·rw [e];exact hd
      ·exact h i ⋯
    ·exact .inr ⟨n,hd,λi hi=>h i ⋯⟩
 rcases key g.length (λi hi=>by rw [qau hi];exact wby _) with h | h
 ·exfalso
  let h1:List Int:=g.map (·/ (p:Int))
  have e1:∀ k,(p:Int)*co h1 k=co g k:=λk=>by
   have:co h1 k=co g k / (p:Int):=by
    show (g.map (·/ (p:Int))).getD k 0=g.getD k 0 / (p:Int)
    rw [wab,wab,waf]
    cases g[k]? with
    | none=>exact (Int.zero_ediv _).symm
    | some z=>rfl
   rw [this,Int.mul_ediv_cancel' (h k)]
  have p0:(p:Int)≠0:=by omega
  have qn8:h1.length=g.length:=waa ..
  have ne:co h1 (h1.length - 1)≠0:=λz=>G.lz.2 (by rw [<-e1,<-qn8,z];omega)
  have l1:Lz h1:=⟨by rw [qn8];exact G.lz.1,ne⟩
  have q1:QI r o (co h1):=QI.scal (c:=(p:Int)) p0 (QI.congr G.qi e1)
  have lt:=G.last h1 l1 q1 qn8
  have e2:=e1 (g.length - 1)
  rw [<-qn8] at e2
  rw [qn8] at e2 lt
  rw [<-e2,way,wbj] at lt
  rw [qn8] at ne
  have pos:0<(co h1 (g.length - 1)).natAbs:=by omega
  have:=wbe (co h1 (g.length - 1)).natAbs hp
  omega
 ·exact h
theorem Gen.loc {r o:Nat->Int} {g:List Int} (G:Gen r o g) {p:Nat} (hp:Pr p) {f:Nat->Int} (m:MQ (co g) f) :
  ∃ (c:Int) (A:List Int),¬ (p:Int)∣c/\∀ k,c*f k=cvL A (co g) k:=by
 obtain ⟨n,n0,n1⟩:=G.prim hp.two
 obtain ⟨c,c0,A,hA⟩:=m
 have key:∀ (m:Nat) (c:Int) (A:List Int),c.natAbs<=m->c≠0->(∀ k,c*f k=cvL A (co g) k)->∃ (c:Int) (A:List Int),¬ (p:Int)∣c/\∀ k,c*f k=cvL A (co g) k:=by
  intro m
  induction m with
  | zero=>intro c A h h0;omega
  | succ m ih=>
    intro c A h h0 hA
    by_cases hd:(p:Int)∣c
    ·have dA:∀ a∈A,(p:Int)∣a:=qe4 hp n0 n1 A λk _=>by rw [<-hA k];exact wcv hd
     obtain ⟨c',rfl⟩:=hd
     have p2:=hp.two
     have c0':c'≠0:=λz=>h0 (by rw [z];omega)
     have eA:A=(A.map (·/ (p:Int))).map ((p:Int)*·):=by
      rw [wb3]
      conv=>lhs;rw [<-List.map_id A]
      refine wcd λa ha=>?_
      show a=(p:Int)*(a / (p:Int))
      rw [Int.mul_ediv_cancel' (dA a ha)]
     refine ih c' (A.map (·/ (p:Int))) ?_ c0' λk=>?_
     ·rw [way,wbj] at h
      have pos:0<c'.natAbs:=by omega
      have:=wbe c'.natAbs p2
      omega
     ·have e:=hA k
      rw [eA,qat,Int.mul_assoc] at e
      exact Int.eq_of_mul_eq_mul_left ⋯ e
    ·exact ⟨c,A,hd,hA⟩
 exact key _ c A (wad _) c0 hA
theorem quR (a b:Nat):∃ x y:Int,x*a+y*b=(Nat.gcd a b:Int):=by
 induction a,b using Nat.gcd.induction with
 | H0 n=>exact ⟨0,1,by simp⟩
 | H1 m n hm ih=>
   obtain ⟨x,y,h⟩:=ih
   refine ⟨y - x*((n / m:Nat):Int),x,?_⟩
   rw [Nat.gcd_rec,<-h]
   have e:(n:Int)=(m:Int)*((n / m:Nat):Int)+((n % m:Nat):Int):=by
    have:=Nat.div_add_mod n m
    exact_mod_cast this.symm
   generalize ((n / m:Nat):Int)=q at *
   generalize ((n % m:Nat):Int)=w at *
   rw [e];grind
theorem quS (a b:Int):∃ x y:Int,x*a+y*b=(Int.gcd a b:Int):=by
 obtain ⟨x,y,h⟩:=quR a.natAbs b.natAbs
 have s:∀ z:Int,∃ e:Int,(z.natAbs:Int)=e*z:=λz=>by
  rcases Int.natAbs_eq z with h | h
  ·exact ⟨1,⋯⟩
  ·exact ⟨-1,⋯⟩
 obtain ⟨e,he⟩:=s a
 obtain ⟨f,hf⟩:=s b
 refine ⟨x*e,y*f,?_⟩
 show _=((Nat.gcd a.natAbs b.natAbs:Nat):Int)
 rw [<-h,he,hf];grind
noncomputable def Dm (p:Int) (g f:Nat->Int):Prop:=∃ S:List Int,∀ k,p∣f k - cvL S g k
theorem Gen.dm {r o:Nat->Int} {g:List Int} (G:Gen r o g) {p:Nat} (hp:Pr p) {f:Nat->Int} (m:MQ (co g) f):Dm (p:Int) (co g) f:=by
 obtain ⟨c,A,hc,hA⟩:=G.loc hp m
 have cop:Int.gcd c (p:Int)=1:=by
  have:=hp.cop (a:=c.natAbs) λz=>hc (wbh.mp (by rw [wbj];exact z))
  exact this
 obtain ⟨x,y,hxy⟩:∃ x y:Int,x*c+y*(p:Int)=1:=by
  obtain ⟨x,y,h⟩:=quS c (p:Int)
  exact ⟨x,y,by rw [h,cop];rfl⟩
 refine ⟨A.map (x*·),λk=>⟨f k*y,?_⟩⟩
 rw [qat,<-hA k]
 grind
theorem Dm.less {p:Int} {g f h:Nat->Int} (m:Dm p g f) (m':Dm p g h) (a w:Int) (s:Nat):Dm p g (λk=>a*f k - w*upS s h k):=by
 obtain ⟨S,hS⟩:=m
 obtain ⟨S',hS'⟩:=m'
 refine ⟨qaN (S.map (a*·)) (List.replicate s 0++S'.map (-w*·)),λk=>?_⟩
 show p∣a*f k - w*upS s h k - _
 rw [qax,qat,qc9]
 unfold upS
 obtain ⟨x,hx⟩:=hS k
 by_cases hs:s<=k
 ·rw [if_pos hs,if_pos hs,qat]
  obtain ⟨y,hy⟩:=hS' (k - s)
  exact ⟨a*x - w*y,by grind⟩
 ·rw [if_neg hs,if_neg hs]
  exact ⟨a*x,by grind⟩
theorem Dm.congr {p:Int} {g f h:Nat->Int} (m:Dm p g f) (e:∀ k,p∣h k - f k):Dm p g h:=by
 obtain ⟨S,hS⟩:=m
 exact ⟨S,λk=>by have:=wbx (e k) (hS k);rwa [show ∀ x y z:Int,x - y+(y - z)=x - z by intro x y z;omega] at this⟩
theorem Dm.zero (p:Int) (g:Nat->Int) {f:Nat->Int} (h:∀ k,p∣f k):Dm p g f:=⟨[],λk=>by rw [qaE];simpa using h k⟩
theorem Gen.lead {r o:Nat->Int} {g R:List Int} (G:Gen r o g) {p:Nat} (hp:Pr p) (lR:Lz R) (m:MQ (co g) (co R)) (h:¬ (p:Int)∣co R (R.length - 1)):¬ (p:Int)∣co g (g.length - 1):=by
 intro hd
 obtain ⟨n,n0,n1⟩:=G.prim hp.two
 obtain ⟨c,A,hc,hA⟩:=G.loc hp m
 have nl:n+1<g.length:=by
  rcases wap n g.length with z | z
  ·rcases wap (n+1) g.length with y | y
   ·exact y
   ·exact absurd hd (by rw [show g.length - 1=n by omega];exact n0)
  ·exact absurd (by rw [qau z];exact wby _) n0
 rcases qhL A with z | ⟨B,lB,_,eB⟩
 ·have:c*co R (R.length - 1)=0:=by
   rw [hA,qbj,qb6 g z]
  rcases Int.mul_eq_zero.mp this with e | e
  ·exact hc (by rw [e];exact wby _)
  ·exact lR.2 e
 ·have hB:∀ k,c*co R k=cvL B (co g) k:=λk=>by rw [hA,qbj,qas (λj=>(eB j).symm) g k,<-qbj]
  have bl:B.length+g.length<=R.length+1:=by
   rcases wap (R.length+1) (B.length+g.length) with z | z
   ·exfalso
    have b0:=lB.1
    have g0:=G.lz.1
    have e:=hB (B.length - 1+(g.length - 1))
    rw [qau ⋯] at e
    have ne:B≠[]:=λz=>by rw [z] at b0;simp at b0
    obtain ⟨T,t,hT⟩:∃ T t,B=T++[t]:=⟨B.dropLast,B.getLast ne,(wct ne).symm⟩
    have tl:T.length=B.length - 1:=by rw [hT];simp
    have tc:co B (B.length - 1)=t:=by rw [<-tl,hT];unfold co;simp [wab]
    rw [hT,qbc,<-hT,qbD (n:=g.length) (λi hi=>qau hi) T _ ⋯] at e
    unfold upS at e
    rw [if_pos ⋯,show B.length - 1+(g.length - 1) - T.length=g.length - 1 by omega] at e
    have e2:t*co g (g.length - 1)=0:=by omega
    rcases Int.mul_eq_zero.mp e2 with x | x
    ·exact lB.2 (tc.trans x)
    ·exact G.lz.2 x
   ·exact z
  have hh:=qiQ n1 B (R.length - 1) ⋯
  rw [<-hB] at hh
  rcases hp.mulI hh with x | x
  ·exact hc x
  ·exact h x
theorem Dm.len {p:Nat} (hp:Pr p) {g f:List Int} (lg:0<g.length) (hl:¬ (p:Int)∣co g (g.length - 1)) (d:Dm (p:Int) (co g) (co f)) (h0:∃ k,¬ (p:Int)∣co f k):g.length<=f.length:=by
 rcases wap f.length g.length with z | z
 ·exfalso
  obtain ⟨S,hS⟩:=d
  have sS:=qe4 hp hl (λi hi=>by rw [qau ⋯];exact wby _) S λk hk=>by
   have:=hS k
   rw [qau ⋯] at this
   have e:=Int.dvd_neg.mpr this
   rwa [show ∀ x:Int,-(0 - x)=x by intro x;omega] at e
  obtain ⟨k,hk⟩:=h0
  apply hk
  have c:∀ (S:List Int),(∀ s∈S,(p:Int)∣s)->∀ k,(p:Int)∣cvL S (co g) k:=by
   intro S
   induction S with
   | nil=>intro _ k;exact wby _
   | cons x S ih=>
     intro h k
     rw [qcT]
     refine wbx (wcv (h x (waz ..))) ?_
     cases k with
     | zero=>exact wby _
     | succ k=>exact ih (λs hs=>h s (wa4 _ hs)) k
  have:=wbx (hS k) (c S sS k)
  rwa [Int.sub_add_cancel] at this
 ·exact z
structure RC (r o:Nat->Int) (g:List Int):Prop where
 lz:Lz g
 left:MQ (co g) r
 right:MQ (co g) o
 qi:QI r o (co g)
theorem Gen.rc {R O g:List Int} (G:Gen (co R) (co O) g):RC (co R) (co O) g:=
 ⟨G.lz,G.mq _ R (wad _) (QI.left _ _),G.mq _ O (wad _) (QI.right _ _),G.qi⟩
theorem qn1 {r o:Nat->Int} {g h:List Int} (G:RC r o g) (lh:Lz h) (m1:MQ (co h) r) (m2:MQ (co h) o) (hl:g.length<=h.length):RC r o h:=by
 refine ⟨lh,m1,m2,G.qi.of_MQ ?_⟩
 obtain ⟨d,d0,T,hT⟩:=MQ.of_QI m1 m2 G.qi
 rcases qhL T with z | ⟨B,lB,_,eB⟩
 ·exfalso
  have:d*co g (g.length - 1)=0:=by rw [hT,qbj,qb6 h z]
  rcases Int.mul_eq_zero.mp this with e | e
  ·exact d0 e
  ·exact G.lz.2 e
 ·have hB:∀ k,d*co g k=cvL B (co h) k:=λk=>by rw [hT,qbj,qas (λj=>(eB j).symm) h k,<-qbj]
  have b0:=lB.1
  have g0:=lh.1
  have ne:B≠[]:=λz=>by rw [z] at b0;simp at b0
  obtain ⟨X,t,hX⟩:∃ X t,B=X++[t]:=⟨B.dropLast,B.getLast ne,(wct ne).symm⟩
  have tl:X.length=B.length - 1:=by rw [hX];simp
  have tc:co B (B.length - 1)=t:=by rw [<-tl,hX];unfold co;simp [wab]
  have one:B.length=1:=by
   rcases wap 1 B.length with y | y
   ·exfalso
    have e:=hB (B.length - 1+(h.length - 1))
    rw [qau ⋯,hX,qbc,<-hX,qbD (n:=h.length) (λi hi=>qau hi) X _ ⋯] at e
    unfold upS at e
    rw [if_pos ⋯,show B.length - 1+(h.length - 1) - X.length=h.length - 1 by omega] at e
    have e2:t*co h (h.length - 1)=0:=by omega
    rcases Int.mul_eq_zero.mp e2 with x | x
    ·exact lB.2 (tc.trans x)
    ·exact lh.2 x
   ·omega
  have X0:X=[]:=wbd.mp ⋯
  have t0:t≠0:=λz=>lB.2 (tc.trans z)
  refine ⟨t,t0,[d],λk=>?_⟩
  have e:=hB k
  rw [hX,X0] at e
  cases k with
  | zero=>rw [qaq];rw [show ([]++[t]:List Int)=[t] from rfl,qaq] at e;omega
  | succ k=>rw [qam,qaE];rw [show ([]++[t]:List Int)=[t] from rfl,qam,qaE] at e;omega
end Bs
namespace Bs
noncomputable def Prim (g:List Int):Prop:=∀ c:Int,(∀ k,c∣co g k)->c.natAbs=1
theorem Prim.top {g:List Int} (P:Prim g) {p:Nat} (hp:2<=p):∃ n,¬ (p:Int)∣co g n/\∀ i,n<i->(p:Int)∣co g i:=by
 have key:∀ n,(∀ i,n<=i->(p:Int)∣co g i)->(∀ i,(p:Int)∣co g i)\/∃ n,¬ (p:Int)∣co g n/\∀ i,n<i->(p:Int)∣co g i:=by
  intro n
  induction n with
  | zero=>intro h;exact .inl λi=>h i (wae i)
  | succ n ih=>
    intro h
    by_cases hd:(p:Int)∣co g n
    ·exact ih λi hi=>by
      by_cases e:i=n
      ·rw [e];exact hd
      ·exact h i ⋯
    ·exact .inr ⟨n,hd,λi hi=>h i ⋯⟩
 rcases key g.length (λi hi=>by rw [qau hi];exact wby _) with h | h
 ·have:=P (p:Int) h
  omega
 ·exact h
theorem gauss {g:List Int} (P:Prim g) {f:Nat->Int} (m:MQ (co g) f):∃ A:List Int,∀ k,f k=cvL A (co g) k:=by
 obtain ⟨c,c0,A,hA⟩:=m
 have key:∀ (m:Nat) (c:Int) (A:List Int),c.natAbs<=m->c≠0->(∀ k,c*f k=cvL A (co g) k)->∃ A:List Int,∀ k,f k=cvL A (co g) k:=by
  intro m
  induction m with
  | zero=>intro c A h h0;omega
  | succ m ih=>
    intro c A h h0 hA
    by_cases h1:c.natAbs=1
    ·rcases Int.natAbs_eq c with e | e
     ·exact ⟨A,λk=>by rw [<-hA k,e,h1];omega⟩
     ·exact ⟨A.map (-1*·),λk=>by rw [qat,<-hA k,e,h1];omega⟩
    ·obtain ⟨p,hp,pd,_⟩:=qjL (m:=c.natAbs) ⋯
     have hd:(p:Int)∣c:=wbh.mp (by rw [wbj];exact pd)
     obtain ⟨n,n0,n1⟩:=P.top hp.two
     have dA:∀ a∈A,(p:Int)∣a:=qe4 hp n0 n1 A λk _=>by rw [<-hA k];exact wcv hd
     obtain ⟨c',rfl⟩:=hd
     have p2:=hp.two
     have c0':c'≠0:=λz=>h0 (by rw [z];omega)
     have eA:A=(A.map (·/ (p:Int))).map ((p:Int)*·):=by
      rw [wb3]
      conv=>lhs;rw [<-List.map_id A]
      refine wcd λa ha=>?_
      show a=(p:Int)*(a / (p:Int))
      rw [Int.mul_ediv_cancel' (dA a ha)]
     refine ih c' (A.map (·/ (p:Int))) ?_ c0' λk=>?_
     ·rw [way,wbj] at h
      have pos:0<c'.natAbs:=by omega
      have:=wbe c'.natAbs p2
      omega
     ·have e:=hA k
      rw [eA,qat,Int.mul_assoc] at e
      exact Int.eq_of_mul_eq_mul_left ⋯ e
 exact key _ c A (wad _) c0 hA
noncomputable def evI:List Int->Int->Int
 | [],_=>0
 | a::l,x=>a+x*evI l x
theorem qgE:∀ (l:List Int) (x:Int),(∀ k,co l k=0)->evI l x=0
 | [],_,_=>rfl
 | a::l,x,h=>by
   have h0:a=0:=h 0
   show a+x*evI l x=0
   rw [h0,qgE l x λk=>h (k+1)];omega
theorem qg1:∀ (a b:List Int) (x:Int),(∀ k,co a k=co b k)->evI a x=evI b x
 | [],b,x,h=>(qgE b x λk=>(h k).symm).symm
 | a::l,[],x,h=>qgE (a::l) x h
 | a::l,b::m,x,h=>by
   have h0:a=b:=h 0
   show a+x*evI l x=b+x*evI m x
   rw [h0,qg1 l m x λk=>h (k+1)]
theorem qn2:∀ (a b:List Int) (x:Int),evI (qaN a b) x=evI a x+evI b x
 | [],b,x=>by show evI b x=0+evI b x;omega
 | a::l,[],x=>by rw [qe3];show _=_+0;omega
 | a::l,b::m,x=>by
   show (a+b)+x*evI (qaN l m) x=a+x*evI l x+(b+x*evI m x)
   rw [qn2 l m x];grind
theorem qlI (c:Int):∀ (a:List Int) (x:Int),evI (a.map (c*·)) x=c*evI a x
 | [],x=>by show (0:Int)=c*0;omega
 | a::l,x=>by
   show c*a+x*evI (l.map (c*·)) x=c*(a+x*evI l x)
   rw [qlI c l x];grind
theorem qn3:∀ (a b:List Int) (x:Int),evI (qaJ a b) x=evI a x*evI b x
 | [],b,x=>by show (0:Int)=0*_;omega
 | a::l,b,x=>by
   show evI (qaN (b.map (a*·)) (0::qaJ l b)) x=(a+x*evI l x)*evI b x
   rw [qn2,qlI]
   show a*evI b x+(0+x*evI (qaJ l b) x)=_
   rw [qn3 l b x];grind
theorem qn4 (a b:List Int) (k:Nat):co (qaJ a b) k=cvL a (co b) k:=by
 rw [qbg,qaC]
 exact qas (λj=>(qbg b j).symm) a k
theorem qpL {r a g:List Int} (h:∀ k,co r k=cvL a (co g) k) (x:Int):evI r x=evI a x*evI g x:=by
 rw [<-qn3]
 exact qg1 r (qaJ a g) x λk=>by rw [qn4];exact h k
theorem qqE {b c:Nat} {x:Int} (hx:Bd c x):∀ (l:List Int),(∀ z∈l,Bd b z)->Bd (b+l.length*(c+1)) (evI l x)
 | [],_=>qdo _
 | a::l,hb=>by
   show Bd _ (a+x*evI l x)
   have h1:=hb a (waz ..)
   have h2:=hx.mul (qqE hx l λz hz=>hb z (wa4 _ hz))
   have e:(l.length+1)*(c+1)=l.length*(c+1)+(c+1):=by rw [wb5,Nat.one_mul]
   refine ((h1.mono (n:=c+(b+l.length*(c+1))) ⋯).add h2).mono ?_
   rw [wbi,e];omega
noncomputable def syn:List Int->Int->List Int
 | [],_=>[]
 | _::l,t=>evI l t::syn l t
theorem qiR:∀ (l:List Int) (t:Int),(syn l t).length=l.length
 | [],_=>rfl
 | _::l,t=>congrArg (·+1) (qiR l t)
theorem qn5:∀ (l:List Int) (t x:Int),evI l x - evI l t=(x - t)*evI (syn l t) x
 | [],t,x=>by show (0:Int) - 0=_*0;omega
 | a::l,t,x=>by
   show a+x*evI l x - (a+t*evI l t)=(x - t)*(evI l t+x*evI (syn l t) x)
   have:=qn5 l t x
   grind
theorem qlJ:∀ (l:List Int) (t:Int) (k:Nat),co l k=(if k=0 then evI l t else co (syn l t) (k - 1)) - t*co (syn l t) k
 | [],t,k=>by
   rw [show co (syn [] t) k=0 from qau (wae _),show co (syn [] t) (k - 1)=0 from qau (wae _),qau (wae _)]
   show 0=(if k=0 then 0 else 0) - _
   split <;> omega
 | a::l,t,0=>by
   show a=a+t*evI l t - t*evI l t
   omega
 | a::l,t,k+1=>by
   have:=qlJ l t k
   show co l k=(if k+1=0 then _ else co (evI l t::syn l t) (k+1 - 1)) - t*co (syn l t) k
   rw [if_neg ⋯,this]
   cases k with
   | zero=>rfl
   | succ k=>rw [if_neg ⋯];rfl
theorem qpM (l:List Int) (t:Int):co (syn l t) (l.length - 1)=0:=by
 induction l with
 | nil=>exact qau (wae _)
 | cons a l ih=>
   show co (evI l t::syn l t) l.length=0
   cases h:l.length with
   | zero=>rw [wbd.mp h];rfl
   | succ m=>rw [h] at ih;exact ih
theorem interp {c:Nat}:∀ (d:Nat) (l:List Int) (y:Nat) (x:Nat->Int),(∀ k,d<k->co l k=0)->(∀ i,i<=d->Bd c (x i))->(∀ i j,i<=d->j<=d->i≠j->x i≠x j)->(∀ i,i<=d->Bd y (evI l (x i)))->∀ k,Bd (y+d*(c+3)) (co l k)
 | 0,l,y,x,h1,_,_,h4,k=>by
   cases k with
   | zero=>
     have e:evI l (x 0)=co l 0:=by
      cases l with
      | nil=>rfl
      | cons a l=>
        show a+x 0*evI l (x 0)=a
        rw [qgE l (x 0) λk=>h1 (k+1) ⋯];omega
     have:=h4 0 (wad 0)
     rw [e] at this
     exact this.mono ⋯
   | succ k=>rw [h1 (k+1) ⋯];exact qdo _
 | d+1,l,y,x,h1,h2,h3,h4,k=>by
   have hs:∀ j,d<j->co (syn l (x (d+1))) j=0:=by
    have step:∀ n,∀ j,d<j->l.length<=j+n->co (syn l (x (d+1))) j=0:=by
     intro n
     induction n with
     | zero=>intro j _ h;exact qau (by rw [qiR];omega)
     | succ n ih=>
       intro j hj h
       have e:=qlJ l (x (d+1)) (j+1)
       rw [h1 (j+1) ⋯,if_neg ⋯,ih (j+1) ⋯ ⋯] at e
       rw [show j+1 - 1=j by omega] at e
       omega
    intro j hj
    exact step l.length j hj ⋯
   have ih:=interp d (syn l (x (d+1))) (y+1) x hs (λi hi=>h2 i ⋯) (λi j hi hj=>h3 i j ⋯ ⋯) (λi hi=>by
    have e:=qn5 l (x (d+1)) (x i)
    have ne:x i - x (d+1)≠0:=λz=>h3 i (d+1) ⋯ ⋯ ⋯ ⋯
    have b:=(h4 i ⋯).sub (h4 (d+1) ⋯)
    rw [e] at b
    refine b.le ?_
    rw [way]
    exact wcw _ ⋯)
   have e:=qlJ l (x (d+1)) k
   rw [e]
   have hx:=h2 (d+1) (wad _)
   have b2:=hx.mul (ih k)
   have em:(d+1)*(c+3)=d*(c+3)+(c+3):=by rw [wb5,Nat.one_mul]
   have b1:Bd (c+(y+1+d*(c+3))) (if k=0 then evI l (x (d+1)) else co (syn l (x (d+1))) (k - 1)):=by
    split
    ·exact (h4 (d+1) (wad _)).mono ⋯
    ·exact (ih (k - 1)).mono ⋯
   exact (b1.sub b2).mono ⋯
end Bs
namespace Bs
open PySem L2
noncomputable def isN (H:Hp) (v:V) (q:Nu):Prop:=∃ p,v=.ref p/\H p=some (.tup [.int q.1,.int q.2])
noncomputable def Nums (H:Hp):List V->List Nu->Prop
 | [],[]=>True
 | x::xs,q::l=>isN H x q/\Nums H xs l
 | _,_=>False
noncomputable def Tp (H H':Hp):Prop:=∀ b xs,H b=some (.tup xs)->H' b=some (.tup xs)
theorem tpS {H H':Hp} (s:Same H H'):Tp H H':=λb xs h=>s b _ h
theorem Kp.tp {p:Addr} {H H':Hp} {xs:List V} (k:Kp p H H') (h:H p=some (.lst xs)):Tp H H':=λb ys q=>k b _ (qtL q h (by intro z;cases z)) q
theorem Tp.updL {p:Addr} {H:Hp} {xs ys:List V} (h:H p=some (.lst xs)):Tp H (upd H p (.lst ys)):=Kp.tp Kp.upd h
theorem isN.tp {H H':Hp} {v:V} {q:Nu} (h:isN H v q) (t:Tp H H'):isN H' v q:=let ⟨p,e,z⟩:=h;⟨p,e,t _ _ z⟩
theorem Nums.tp {H H':Hp} (t:Tp H H'):∀ {xs:List V} {l:List Nu},Nums H xs l->Nums H' xs l
 | [],[],_=>trivial
 | _::_,_::_,h=>⟨h.1.tp t,Nums.tp t h.2⟩
 | [],_::_,h=>h.elim
 | _::_,[],h=>h.elim
theorem Nums.length {H:Hp}:∀ {xs:List V} {l:List Nu},Nums H xs l->xs.length=l.length
 | [],[],_=>rfl
 | _::_,_::_,h=>congrArg (·+1) (Nums.length h.2)
 | [],_::_,h=>h.elim
 | _::_,[],h=>h.elim
theorem Nums.get {H:Hp}:∀ {xs:List V} {l:List Nu} {i:Nat} {v:V},Nums H xs l->xs[i]?=some v->∃ q,l[i]?=some q/\isN H v q
 | [],[],_,_,_,e=>by simp at e
 | _::_,q::_,0,_,h,e=>by simp at e;subst e;exact ⟨q,rfl,h.1⟩
 | _::_,_::_,i+1,_,h,e=>by
   obtain ⟨q,h1,h2⟩:=Nums.get (i:=i) h.2 (by simpa using e)
   exact ⟨q,by simpa using h1,h2⟩
 | [],_::_,_,_,h,_=>h.elim
 | _::_,[],_,_,h,_=>h.elim
theorem Nums.at {H:Hp} {xs:List V} {l:List Nu} {i:Nat} (h:Nums H xs l) (hi:i<l.length) (d:Nu):∃ v,xs[i]?=some v/\isN H v (l.getD i d):=by
 have hx:i<xs.length:=by rw [h.length];exact hi
 obtain ⟨q,h1,h2⟩:=h.get (wag hx)
 refine ⟨_,wag hx,?_⟩
 rw [wab,h1]
 exact h2
theorem Nums.append {H:Hp}:∀ {xs ys:List V} {l m:List Nu},Nums H xs l->Nums H ys m->Nums H (xs++ys) (l++m)
 | [],_,[],_,_,h=>h
 | _::_,_,_::_,_,h,h2=>⟨h.1,Nums.append h.2 h2⟩
 | [],_,_::_,_,h,_=>h.elim
 | _::_,_,[],_,h,_=>h.elim
theorem Nums.one {H:Hp} {v:V} {q:Nu} (h:isN H v q):Nums H [v] [q]:=⟨h,trivial⟩
theorem Nums.take {H:Hp}:∀ {xs:List V} {l:List Nu} (n:Nat),Nums H xs l->Nums H (xs.take n) (l.take n)
 | [],[],n,_=>by simp [Nums]
 | _::_,_::_,0,_=>trivial
 | _::_,_::_,n+1,h=>⟨h.1,Nums.take n h.2⟩
 | [],_::_,_,h=>h.elim
 | _::_,[],_,h=>h.elim
theorem qdq {α:Type} (v:α):∀ n:Nat,(List.replicate n [v]).flatten=List.replicate n v
 | 0=>rfl
 | n+1=>by rw [List.replicate_succ,List.flatten_cons,qdq v n];rfl
theorem qb7 {α:Type} {xs:List α} {i:Int} {j:Nat} {v:α} (e:i=(j:Int)) (h:xs[j]?=some v):atI xs i=some v:=by subst e;exact qfE h
theorem qn6 {H:Hp} {p:Addr} {q:Nu}:isN (upd H p (.tup [.int q.1,.int q.2])) (.ref p) q:=⟨p,rfl,qag⟩
theorem qjM {xs:List V} {m:Nat} (h:m<=xs.length):qiw xs none (some (m:Int))=xs.take m:=by
 unfold qiw HT.sIx
 simp only [List.drop_zero,Nat.sub_zero,wce]
 rw [if_neg ⋯,Nat.min_eq_left h]
noncomputable def qsX (H:Hp) (Q:VK) (l:List Nu):Prop:=∀ (r:Addr) (zs:List V) (H':Hp),Same H H'->H' r=some (.tup zs)->Nums H' zs l->Q (.ref r) H'
noncomputable def qpl (q:Nu):PySem.W.Dat:=.tuple [.int q.1,.int q.2]
theorem qtI {H:Hp} {v:V} {q:Nu} (h:isN H v q):RepD H v (qpl q):=by
 obtain ⟨p,rfl,hp⟩:=h
 exact .tup hp (.cons (.int _) (.cons (.int _) .nil))
theorem okN (q:Nu) (n:Nat):PySem.W.kqdOk (n+1) (qpl q)=true:=by simp [qpl,PySem.W.kqdOk]
end Bs
namespace Bs
open PySem L2
section
variable {σ:L2.St} {H:Hp} {Q:VK} {D:Ends} {rest:TS} {sp:Sp} {E:XK}
theorem qeK {ta:TE} {k:Nat} (h:ta σ H λx H1=>sp [x] H1 (λv H'=>rest D (σ.set k (some v)) H') E):qaF (qaK (qay sp [] E (qad ta qar)) (qaj k)) rest D σ H:=h
theorem qg2 {ta tb:TE} {k:Nat} (h:ta σ H λx H1=>tb σ H1 λy H2=>sp [x,y] H2 (λv H'=>rest D (σ.set k (some v)) H') E):qaF (qaK (qay sp [] E (qad ta (qad tb qar))) (qaj k)) rest D σ H:=h
theorem qrt {ta:TE} (h:ta σ H λx H1=>sp [x] H1 Q E):qay sp [] E (qad ta qar) σ H Q:=h
theorem qfL {ta tb:TE} (h:ta σ H λx H1=>tb σ H1 λy H2=>sp [x,y] H2 Q E):qay sp [] E (qad ta (qad tb qar)) σ H Q:=h
theorem qpN {ta tb tc:TE} (h:ta σ H λx H1=>tb σ H1 λy H2=>tc σ H2 λz H3=>sp [x,y,z] H3 Q E):qay sp [] E (qad ta (qad tb (qad tc qar))) σ H Q:=h
theorem qck {te:TE} {k:Nat} (h:te σ H λx H1=>rest D (σ.set k (some x)) H1):qaF (qaK te (qaj k)) rest D σ H:=h
theorem qpO {te:TE} (h:te σ H D.rt):qbG te D σ H:=h
theorem qn7 {ta tb:TE} (h:ta σ H λx H1=>tb σ H1 λy H2=>[x,y].length<=sizeLine/\∀ p,H2 p=none->Q (.ref p) (upd H2 p (.tup [x,y]))):qmg (qad ta (qad tb qar)) σ H Q:=h
theorem qsY {ta:TE} (h:ta σ H λx H1=>[x].length<=sizeLine/\∀ p,H1 p=none->Q (.ref p) (upd H1 p (.lst [x]))):qeT (qad ta qar) σ H Q:=h
theorem qsZ {ta tb:TE} (h:ta σ H λx H1=>tb σ H1 λy H2=>[x,y].length<=sizeLine/\∀ p,H2 p=none->Q (.ref p) (upd H2 p (.lst [x,y]))):qeT (qad ta (qad tb qar)) σ H Q:=h
theorem qpP {r:R2} {ta tb:TE} (h:ta σ H λx H1=>tb σ H1 λy H2=>r x y H2 Q):tOp r ta tb σ H Q:=h
theorem qtY {b:List V->Hp->VK->Prop} {ta:TE} (h:ta σ H λx H1=>b [x] H1 Q):tCB b (qad ta qar) σ H Q:=h
theorem quT {i:Nat} {v:V} {σ:L2.St} {H:Hp} {Q:L2.St->Hp->Prop} (h:Q (σ.set i (some v)) H):qaj i v σ H Q:=h
theorem qru {K:W.Frag} {tl:TE} {capt:List (Option Nat)} {g:TG} {te:TE} {σ:L2.St} {H:Hp} {Q:VK} (h:tl σ H (λx H1=>∃ a,x=.ref a/\(∃ xs,SqL K H1 a xs)/\CompJ (Itl K a) capt g te σ Q H1)):qbU (qc4 K tl) capt g te σ H Q:=h
theorem qs0 {te:TE} {k:Nat} {D:Ends} {σ:L2.St} {H:Hp} (h:te σ H λx H1=>D.nx (σ.set k (some x)) H1):qaK te (qaj k) D σ H:=h
theorem qqF {c:TT} {t u:TS} (h:c σ H λb H1=>if b=true then t { D with nx:=rest D } σ H1 else u { D with nx:=rest D } σ H1):qaF (qeo c t u) rest D σ H:=h
theorem qlK {te:TE} {Q:Bool->Hp->Prop} (h:te σ H λx H'=>∃ k,x=.bl k/\Q k H'):qaP te σ H Q:=h
theorem qn8 {x:V}:[x].length<=sizeLine:=by show 1<=_;exact sz ∅
theorem qrv {x y:V}:[x,y].length<=sizeLine:=by show 2<=_;exact sz ∅
end
end Bs
set_option maxHeartbeats 4000000
namespace Bs
open PySem L2
theorem qlL {g:Nat->Rat} {n:Nat} (h:∀ i,n<i->g i=0):∀ (a:List Rat) (k:Nat),a.length+n<=k->cvL a g k=0
 | [],_,_=>rfl
 | x::a,0,hk=>absurd hk (by rw [wbi];omega)
 | x::a,k+1,hk=>by
   rw [wbi] at hk
   rw [qam,h (k+1) ⋯,qlL h a k ⋯];grind
theorem qn9 {g:Nat->Rat} {n:Nat} (h0:g n≠0) (h:∀ i,n<i->g i=0) (S:List Rat):(∀ k,n<=k->cvL S g k=0)->∀ s∈S,s=0:=by
 induction hl:S.length generalizing S with
 | zero=>intro _ s hs;rw [wbd.mp hl] at hs;exact nomatch hs
 | succ m ih=>
   intro hk
   have ne:S≠[]:=λz=>by rw [z] at hl;simp at hl
   obtain ⟨T,t,rfl⟩:∃ T t,S=T++[t]:=⟨S.dropLast,S.getLast ne,(wct ne).symm⟩
   have ht:t=0:=by
    have a:=hk (T.length+n) ⋯
    rw [qbc,qlL h T _ (wad _)] at a
    unfold upS at a
    rw [if_pos ⋯,show T.length+n - T.length=n by omega] at a
    have a':t*g n=0:=by grind
    rcases wa2.mp a' with z | z
    ·exact z
    ·exact absurd z h0
   have hT2:=ih T (by simpa using hl) (λk hk2=>by
    have a:=hk k hk2
    rw [qbc,ht] at a
    grind)
   intro s hs
   rcases wbk.mp hs with h | h
   ·exact hT2 s h
   ·rw [war.mp h];exact ht
theorem qiS {g:Nat->Rat}:∀ (S:List Rat),(∀ s∈S,s=0)->∀ k,cvL S g k=0
 | [],_,_=>rfl
 | x::S,h,0=>by rw [qaq,h x (waz ..)];grind
 | x::S,h,k+1=>by rw [qam,h x (waz ..),qiS S (λs hs=>h s (wa4 _ hs)) k];grind
theorem qrw {G:Nat->Rat} {n:Nat} (h0:G n≠0) (hG:∀ i,n<i->G i=0) {A B:List Rat} (h:∀ k,cvL A G k=cvL B G k) (g:Nat->Rat) (k:Nat):cvL A g k=cvL B g k:=by
 have z:=qiS (g:=g) (qaN A (B.map ((-1:Rat)*·))) (qn9 h0 hG _ λk _=>by rw [qax,qat,h k];grind) k
 rw [qax,qat] at z
 grind
end Bs
namespace Bs
open PySem L2
structure Sr where
 c:Nat->Rat
theorem Sr.ext' {f g:Sr} (h:∀ k,f.c k=g.c k):f=g:=by
 cases f;cases g;congr;exact funext h
noncomputable def tr (n:Nat) (f:Nat->Rat):List Rat:=(List.range n).map f
theorem qg3 (n:Nat) (f:Nat->Rat) (k:Nat):(tr n f).getD k 0=if k<n then f k else 0:=by
 unfold tr
 rw [wab,waf]
 by_cases h:k<n
 ·rw [wb2 h,if_pos h];rfl
 ·rw [if_neg h,wat (by rw [waw];omega)];rfl
theorem qdU:∀ (a b:List Rat) (g h:Nat->Rat) (k:Nat),(∀ i,i<=k->a.getD i 0=b.getD i 0)->(∀ i,i<=k->g i=h i)->cvL a g k=cvL b h k:=by
 intro a
 induction a with
 | nil=>
   intro b
   induction b with
   | nil=>intro g h k _ _;rfl
   | cons y b ih=>
     intro g h k ab gh
     have y0:=ab 0 (wae _)
     simp at y0
     cases k with
     | zero=>rw [qaE,qaq,<-y0];grind
     | succ k=>
       rw [qaE,qam,<-y0]
       have:=ih g h k (λi hi=>by have:=ab (i+1) ⋯;simpa using this) (λi hi=>gh i ⋯)
       rw [qaE] at this
       grind
 | cons x a ih=>
   intro b g h k ab gh
   cases b with
   | nil=>
     have x0:=ab 0 (wae _)
     simp at x0
     cases k with
     | zero=>rw [qaE,qaq,x0];grind
     | succ k=>
       rw [qaE,qam,x0]
       have:=ih [] g h k (λi hi=>by have:=ab (i+1) ⋯;simpa using this) (λi hi=>gh i ⋯)
       rw [qaE] at this
       grind
   | cons y b=>
     have x0:=ab 0 (wae _)
     simp at x0
     cases k with
     | zero=>rw [qaq,qaq,x0,gh 0 (wad _)]
     | succ k=>
       rw [qam,qam,x0,gh _ (wad _),ih b g h k (λi hi=>by have:=ab (i+1) ⋯;simpa using this) (λi hi=>gh i ⋯)]
namespace Sr
noncomputable def zero:Sr:=⟨λ_=>0⟩
noncomputable def one:Sr:=⟨qbp⟩
noncomputable def add (f g:Sr):Sr:=⟨λk=>f.c k+g.c k⟩
noncomputable def neg (f:Sr):Sr:=⟨λk=>- f.c k⟩
noncomputable def mul (f g:Sr):Sr:=⟨λk=>cvL (tr (k+1) f.c) g.c k⟩
noncomputable def num (x:Rat):Sr:=⟨λk=>x*qbp k⟩
theorem qlM (f g:Sr) {n k:Nat} (h:k<n):(mul f g).c k=cvL (tr n f.c) g.c k:=by
 refine qdU _ _ _ _ _ (λi hi=>?_) (λ_ _=>rfl)
 rw [qg3,qg3,if_pos ⋯,if_pos ⋯]
theorem qkK (f g:Sr) {n m k:Nat} (h:k<n) (h':k<m):(mul f g).c k=cvL (tr n f.c) (cvL (tr m g.c) qbp) k:=by
 rw [qlM f g h]
 refine qdU _ _ _ _ _ (λ_ _=>rfl) (λi hi=>?_)
 rw [qbV,qg3,if_pos ⋯]
theorem mul_comm (f g:Sr):mul f g=mul g f:=ext' λk=>by
 rw [qkK f g (wcb k) (wcb k),qkK g f (wcb k) (wcb k),qei]
theorem mul_assoc (f g h:Sr):mul (mul f g) h=mul f (mul g h):=ext' λk=>by
 rw [qlM (mul f g) h (wcb k),qlM f (mul g h) (wcb k)]
 have e1:cvL (tr (k+1) (mul f g).c) h.c k=cvL (qaJ (tr (k+1) f.c) (tr (k+1) g.c)) h.c k:=by
  refine qdU _ _ _ _ _ (λi hi=>?_) (λ_ _=>rfl)
  rw [qg3,if_pos ⋯,<-qbV,qaC,qkK f g (n:=k+1) (m:=k+1) ⋯ ⋯]
 rw [e1,qaC]
 exact qdU _ _ _ _ _ (λ_ _=>rfl) (λi hi=>(qlM g h ⋯).symm)
theorem mul_add (f g h:Sr):mul f (add g h)=add (mul f g) (mul f h):=ext' λk=>by
 show cvL (tr (k+1) f.c) (λk=>g.c k+h.c k) k=_
 rw [qfK];rfl
theorem mul_one (f:Sr):mul f one=f:=ext' λk=>by
 show cvL (tr (k+1) f.c) qbp k=_
 rw [qbV,qg3,if_pos (wcb k)]
theorem mul_zero (f:Sr):mul f zero=zero:=ext' λk=>by
 show cvL (tr (k+1) f.c) (λ_=>0) k=0
 have:=qbw (0:Rat) (λ_=>0) (tr (k+1) f.c) k
 rw [show (λk:Nat=>(0:Rat)*(λ_=>(0:Rat)) k)=λ_=>0 from funext λ_=>by grind] at this
 rw [this];grind
noncomputable def npow (f:Sr):Nat->Sr
 | 0=>one
 | n+1=>mul (npow f n) f
noncomputable instance:Add Sr:=⟨add⟩
noncomputable instance:Mul Sr:=⟨mul⟩
noncomputable instance:Neg Sr:=⟨neg⟩
noncomputable instance:Sub Sr:=⟨λf g=>add f (neg g)⟩
noncomputable instance:NatCast Sr:=⟨λn=>num (n:Rat)⟩
noncomputable instance:IntCast Sr:=⟨λn=>num (n:Rat)⟩
noncomputable instance (n:Nat):OfNat Sr n:=⟨num (n:Rat)⟩
noncomputable instance:Pow Sr Nat:=⟨npow⟩
noncomputable instance:SMul Nat Sr:=⟨λn f=>mul (num (n:Rat)) f⟩
noncomputable instance:SMul Int Sr:=⟨λn f=>mul (num (n:Rat)) f⟩
theorem num0:num 0=zero:=ext' λk=>by show 0*qbp k=(0:Rat);grind
theorem num1:num 1=one:=ext' λk=>by show 1*qbp k=(qbp k:Rat);grind
theorem qoa (x y:Rat):num (x+y)=add (num x) (num y):=ext' λk=>by show (x+y)*qbp k=x*qbp k+y*qbp k;grind
theorem qiT (x:Rat):num (-x)=neg (num x):=ext' λk=>by show (-x)*qbp k = -(x*qbp k);grind
theorem add_comm (f g:Sr):add f g=add g f:=ext' λk=>by show f.c k+g.c k=g.c k+f.c k;grind
theorem add_assoc (f g h:Sr):add (add f g) h=add f (add g h):=ext' λk=>by show f.c k+g.c k+h.c k=f.c k+(g.c k+h.c k);grind
theorem add_zero (f:Sr):add f zero=f:=ext' λk=>by show f.c k+0=f.c k;grind
theorem qkL (f:Sr):add (neg f) f=zero:=ext' λk=>by show -f.c k+f.c k=0;grind
theorem add_mul (f g h:Sr):mul (add f g) h=add (mul f h) (mul g h):=by rw [mul_comm,mul_add,mul_comm h f,mul_comm h g]
theorem neg_mul (f g:Sr):mul (neg f) g=neg (mul f g):=by
 have h:add (mul (neg f) g) (mul f g)=zero:=by rw [<-add_mul,qkL,mul_comm,mul_zero]
 have h2:add (neg (mul f g)) (mul f g)=zero:=qkL _
 refine ext' λk=>?_
 have a:=congrFun (congrArg Sr.c h) k
 have b:=congrFun (congrArg Sr.c h2) k
 have a:(mul (neg f) g).c k+(mul f g).c k=0:=a
 have b:(neg (mul f g)).c k+(mul f g).c k=0:=b
 grind
noncomputable instance:Lean.Grind.CommRing Sr where
 add_zero f:=(congrArg (add f) num0).trans (add_zero f)
 add_comm:=add_comm
 add_assoc:=add_assoc
 mul_assoc:=mul_assoc
 mul_comm:=mul_comm
 mul_one f:=(congrArg (mul f) num1).trans (mul_one f)
 one_mul f:=(congrArg (λz=>mul z f) num1).trans ((mul_comm _ _).trans (mul_one f))
 left_distrib:=mul_add
 right_distrib:=add_mul
 zero_mul f:=by show mul (num 0) f=num 0;rw [num0,mul_comm,mul_zero]
 mul_zero f:=by show mul f (num 0)=num 0;rw [num0,mul_zero]
 pow_zero f:=num1.symm
 pow_succ f n:=rfl
 ofNat_succ n:=by
  show num ((n+1:Nat):Rat)=add (num (n:Rat)) (num 1)
  rw [<-qoa];push_cast;rfl
 ofNat_eq_natCast n:=rfl
 nsmul_eq_natCast_mul n f:=rfl
 sub_eq_add_neg f g:=rfl
 neg_add_cancel f:=(qkL f).trans num0.symm
 intCast_neg n:=by show num ((-n:Int):Rat)=neg (num (n:Rat));rw [<-qiT];push_cast;rfl
 intCast_ofNat n:=rfl
 neg_zsmul n f:=by show mul (num ((-n:Int):Rat)) f=neg (mul (num (n:Rat)) f);rw [show ((-n:Int):Rat) = -(n:Rat) by push_cast;rfl,qiT,neg_mul]
 zsmul_natCast_eq_nsmul n f:=rfl
end Sr
end Bs
namespace Bs
open PySem L2
namespace Sr
noncomputable def L (a:List Rat):Sr:=⟨cvL a qbp⟩
theorem L_mul (a:List Rat) (g:Sr):L a*g=⟨cvL a g.c⟩:=ext' λk=>by
 refine qdU _ _ _ _ _ (λi hi=>?_) (λ_ _=>rfl)
 rw [qg3,if_pos ⋯]
 exact qbV a i
noncomputable def Bn (f:Sr) (n:Nat):Prop:=∀ k,n<=k->f.c k=0
theorem Bn.row {f:Sr} {n:Nat} (h:Bn f n):L (tr n f.c)=f:=ext' λk=>by
 show cvL (tr n f.c) qbp k=f.c k
 rw [qbV,qg3]
 by_cases hk:k<n
 ·rw [if_pos hk]
 ·rw [if_neg hk,h k ⋯]
noncomputable def Pol (f:Sr):Prop:=∃ a,f=L a
theorem Pol.L (a:List Rat):Pol (L a):=⟨a,rfl⟩
theorem Bn.pol {f:Sr} {n:Nat} (h:Bn f n):Pol f:=⟨_,h.row.symm⟩
theorem L_bn (a:List Rat):Bn (Sr.L a) a.length:=λk hk=>by
 show cvL a qbp k=0
 rw [qbV,wab,wat hk];rfl
theorem Pol.bn {f:Sr} (h:Pol f):∃ n,Bn f n:=let ⟨a,e⟩:=h;⟨a.length,e ▸ L_bn a⟩
theorem Pol.add {f g:Sr} (h:Pol f) (h':Pol g):Pol (f+g):=by
 obtain ⟨a,rfl⟩:=h;obtain ⟨b,rfl⟩:=h'
 exact ⟨qaN a b,ext' λk=>(qax qbp a b k).symm⟩
theorem Pol.mul {f g:Sr} (h:Pol f) (h':Pol g):Pol (f*g):=by
 obtain ⟨a,rfl⟩:=h;obtain ⟨b,rfl⟩:=h'
 exact ⟨qaJ a b,by rw [L_mul];exact ext' λk=>(qaC qbp a b k).symm⟩
theorem Pol.num (x:Rat):Pol (num x):=⟨[x],ext' λk=>by
 show x*qbp k=cvL [x] qbp k
 cases k with
 | zero=>rw [qaq];grind
 | succ k=>rw [qam,qaE];grind⟩
theorem Pol.nat (n:Nat):Pol (OfNat.ofNat n:Sr):=Pol.num (n:Rat)
theorem Pol.neg {f:Sr} (h:Pol f):Pol (-f):=by
 have e:-f=Sr.num (-1)*f:=by
  have:Sr.num (-1)=(-1:Sr):=qiT 1
  rw [this];grind
 rw [e];exact (Pol.num _).mul h
theorem Pol.sub {f g:Sr} (h:Pol f) (h':Pol g):Pol (f - g):=by
 have e:f - g=f + -g:=by grind
 rw [e];exact h.add h'.neg
theorem Pol.pow {f:Sr} (h:Pol f):∀ n:Nat,Pol (f ^ n)
 | 0=>(num1 ▸ Pol.num 1:Pol one)
 | n+1=>(h.pow n).mul h
theorem top_ex {f:Sr}:∀ n,Bn f n->f=0\/∃ m,m<n/\f.c m≠0/\Bn f (m+1)
 | 0,h=>.inl (ext' λk=>by rw [h k (wae _)];show 0=((0:Nat):Rat)*qbp k;push_cast;grind)
 | n+1,h=>by
   by_cases z:f.c n=0
   ·rcases top_ex n (λk hk=>by rcases Nat.eq_or_lt_of_le hk with e | e;exact e ▸ z;exact h k e) with q | ⟨m,m1,m2,m3⟩
    ·exact .inl q
    ·exact .inr ⟨m,⋯,m2,m3⟩
   ·exact .inr ⟨n,⋯,z,h⟩
theorem zero_c (k:Nat):(0:Sr).c k=0:=by show ((0:Nat):Rat)*qbp k=0;push_cast;grind
theorem cancel {f g h:Sr} (pf:Pol f) (pg:Pol g) (ph:Pol h) (h0:h≠0) (e:f*h=g*h):f=g:=by
 obtain ⟨a,rfl⟩:=pf;obtain ⟨b,rfl⟩:=pg
 obtain ⟨n,hn⟩:=ph.bn
 rcases top_ex n hn with z | ⟨m,_,m1,m2⟩
 ·exact absurd z h0
 rw [L_mul,L_mul] at e
 exact ext' λk=>qrw m1 (λi hi=>m2 i hi) (λk=>congrFun (congrArg Sr.c e) k) qbp k
theorem ne_mul {f g:Sr} (pf:Pol f) (pg:Pol g) (f0:f≠0) (g0:g≠0):f*g≠0:=λe=>f0 (cancel pf (Pol.nat 0) pg g0 (by rw [e];grind))
noncomputable def X (n:Nat):Sr:=L (List.replicate n 0++[1])
theorem qpQ (n:Nat) (g:Sr) (k:Nat):(X n*g).c k=if n<=k then g.c (k - n) else 0:=by
 unfold X
 rw [L_mul]
 show cvL (List.replicate n 0++[1]) g.c k=_
 rw [qc9]
 unfold upS
 by_cases h:n<=k
 ·rw [if_pos h,if_pos h]
  cases k - n with
  | zero=>rw [qaq];grind
  | succ k=>rw [qam,qaE];grind
 ·rw [if_neg h,if_neg h]
theorem num_mul (x:Rat) (g:Sr) (k:Nat):(num x*g).c k=x*g.c k:=by
 have:num x=L [x]:=ext' λk=>by
  show x*qbp k=cvL [x] qbp k
  cases k with
  | zero=>rw [qaq];grind
  | succ k=>rw [qam,qaE];grind
 rw [this,L_mul]
 show cvL [x] g.c k=_
 cases k with
 | zero=>rw [qaq];grind
 | succ k=>rw [qam,qaE];grind
theorem qtZ (f g:Sr) (k:Nat):(f - g).c k=f.c k - g.c k:=by show f.c k + - g.c k=_;grind
theorem divide {g:Sr} {m:Nat} (g0:g.c m≠0) (hg:Bn g (m+1)):∀ (n:Nat) (f:Sr),Bn f n->∃ q r,Pol q/\Bn r m/\f=q*g+r
 | 0,f,h=>⟨0,f,Pol.nat 0,λk _=>h k (wae _),by grind⟩
 | n+1,f,h=>by
   by_cases c:n+1<=m
   ·exact ⟨0,f,Pol.nat 0,λk hk=>h k ⋯,by grind⟩
   ·obtain ⟨q,r,pq,br,e⟩:=divide g0 hg n (f - num (f.c n*(g.c m)⁻¹)*(X (n - m)*g)) λk hk=>by
     rw [qtZ,num_mul,qpQ,if_pos ⋯]
     rcases Nat.eq_or_lt_of_le hk with z | z
     ·rw [<-z,show n - (n - m)=m by omega]
      have:(g.c m)⁻¹*g.c m=1:=Rat.inv_mul_cancel _ g0
      grind
     ·rw [h k z,hg (k - (n - m)) ⋯];grind
    exact ⟨q+num (f.c n*(g.c m)⁻¹)*X (n - m),r,pq.add ((Pol.num _).mul (Pol.L _)),br,by grind⟩
theorem qqG:∀ (n:Nat) (S T:Sr),Pol S->Bn T n->(S≠0\/T≠0)->∃ g r e U W,Pol g/\Pol r/\Pol e/\Pol U/\Pol W/\g≠0/\S=g*r/\T=g*e/\U*r+W*e=1:=by
 intro n
 induction n using Nat.strongRecOn with
 | _ n ih=>
   intro S T pS bT h
   by_cases z:T=0
   ·exact ⟨S,1,0,1,0,pS,Pol.nat 1,Pol.nat 0,Pol.nat 1,Pol.nat 0,by rcases h with h | h;exact h;exact absurd z h,by grind,by rw [z];grind,by grind⟩
   ·rcases top_ex n bT with q | ⟨m,mn,m0,mb⟩
    ·exact absurd q z
    obtain ⟨a,rfl⟩:=pS
    obtain ⟨q,r,pq,br,e⟩:=divide m0 mb _ _ (L_bn a)
    obtain ⟨g,r1,e1,U,W,pg,pr,pe,pU,pW,g0,h1,h2,h3⟩:=ih m mn T r bT.pol br (.inl z)
    exact ⟨g,q*r1+e1,r1,W,U - W*q,pg,(pq.mul pr).add pe,pr,pW,pU.sub (pW.mul pq),g0,by rw [e,h1,h2];grind,h1,by grind⟩
noncomputable def D (f:Sr):Sr:=⟨λk=>((k:Rat)+1)*f.c (k+1)⟩
theorem qob (f g:Sr):D (f+g)=D f+D g:=ext' λk=>by show ((k:Rat)+1)*(f.c (k+1)+g.c (k+1))=((k:Rat)+1)*f.c (k+1)+((k:Rat)+1)*g.c (k+1);grind
theorem D_num (x:Rat) (g:Sr):D (num x*g)=num x*D g:=ext' λk=>by
 rw [num_mul]
 show ((k:Rat)+1)*(num x*g).c (k+1)=x*(((k:Rat)+1)*g.c (k+1))
 rw [num_mul];grind
theorem D_X (g:Sr):D (X 1*g)=g+X 1*D g:=ext' λk=>by
 show ((k:Rat)+1)*(X 1*g).c (k+1)=g.c k+(X 1*D g).c k
 rw [qpQ,qpQ,if_pos ⋯]
 cases k with
 | zero=>rw [if_neg ⋯];push_cast;show ((0:Nat)+1)*g.c 0=_;push_cast;grind
 | succ k=>rw [if_pos ⋯];show (((k+1:Nat):Rat)+1)*g.c (k+1)=g.c (k+1)+((k:Rat)+1)*g.c (k+1);push_cast;grind
theorem qoc (x:Rat) (a:List Rat):L (x::a)=num x+X 1*L a:=ext' λk=>by
 show cvL (x::a) qbp k=x*qbp k+(X 1*L a).c k
 rw [qpQ,qcT]
 cases k with
 | zero=>rw [if_neg ⋯];rfl
 | succ k=>rw [if_pos ⋯];rfl
theorem qs1:D (L [])=0:=ext' λk=>by show ((k:Rat)+1)*cvL [] qbp (k+1)=_;rw [qaE,zero_c];grind
theorem L_nil:L []=0:=ext' λk=>by rw [zero_c];rfl
theorem qg4 (x:Rat):D (num x)=0:=ext' λk=>by show ((k:Rat)+1)*(x*qbp (k+1))=_;rw [zero_c];show ((k:Rat)+1)*(x*0)=0;grind
theorem qqH (g:Sr):∀ a:List Rat,D (L a*g)=D (L a)*g+L a*D g
 | []=>by
   have z:(0:Sr)=num 0:=rfl
   rw [qs1,L_nil,z,D_num,<-z]
   grind
 | x::a=>by
   have ih:=qqH g a
   have e:L (x::a)*g=num x*g+X 1*(L a*g):=by rw [qoc];grind
   rw [e,qob,D_num,D_X,ih,qoc,qob,D_X,qg4]
   grind
theorem D_mul {f:Sr} (pf:Pol f) (g:Sr):D (f*g)=D f*g+f*D g:=by
 obtain ⟨a,rfl⟩:=pf
 exact qqH g a
theorem qt0 {f:Sr} {n:Nat} (h:Bn f (n+1)):Bn (D f) n:=λk hk=>by show ((k:Rat)+1)*f.c (k+1)=0;rw [h (k+1) ⋯];grind
theorem quU {f:Sr} {n:Nat} (h:f.c (n+1)≠0):D f≠0:=λe=>by
 have:=congrFun (congrArg Sr.c e) n
 rw [zero_c] at this
 have this:((n:Rat)+1)*f.c (n+1)=0:=this
 rcases wa2.mp this with z | z
 ·have:((n:Rat)+1)=((n+1:Nat):Rat):=by push_cast;rfl
  rw [this] at z
  have:n+1=0:=by exact_mod_cast z
  omega
 ·exact h z
theorem Pol.D {f:Sr} (h:Pol f):Pol (D f):=by
 obtain ⟨n,hn⟩:=h.bn
 exact Bn.pol (n:=n) (qt0 (n:=n) λk hk=>hn k ⋯)
theorem rad_pow:∀ (n:Nat) (S R c:Sr),Bn S n->S≠0->Pol R->Pol c->D S*R=c*S->∃ (m:Nat) (a:Sr),Pol a/\R ^ m=a*S:=by
 intro n
 induction n using Nat.strongRecOn with
 | _ n ih=>
   intro S R c bS S0 pR pc e
   rcases top_ex n bS with z | ⟨m,mn,m0,mb⟩
   ·exact absurd z S0
   cases m with
   | zero=>
     refine ⟨0,num (S.c 0)⁻¹,Pol.num _,ext' λk=>?_⟩
     rw [num_mul]
     have e1:(R ^ 0).c k=qbp k:=rfl
     rw [e1]
     cases k with
     | zero=>show 1=_;have:(S.c 0)⁻¹*S.c 0=1:=Rat.inv_mul_cancel _ m0;grind
     | succ k=>show 0=_;rw [mb (k+1) ⋯];grind
   | succ m=>
     obtain ⟨g,r,e1,U,W,pg,pr,pe,pU,pW,g0,h1,h2,h3⟩:=qqG _ S (D S) mb.pol (qt0 mb) (.inl S0)
     have sR:e1*R=c*r:=cancel (pe.mul pR) (pc.mul pr) pg g0 (by rw [h2,h1] at e;grind)
     have hR:R=(U*R+W*c)*r:=by
      have:R=(U*r+W*e1)*R:=by rw [h3];grind
      grind
     have pt:Pol (U*R+W*c):=(pU.mul pR).add (pW.mul pc)
     have dS:D g*r=g*(e1 - D r):=by
      have:=D_mul pg r
      rw [<-h1,h2] at this
      grind
     have gR:D g*R=(e1 - D r)*(U*R+W*c)*g:=by
      have:D g*R=D g*r*(U*R+W*c):=by generalize U*R+W*c=t at hR;rw [hR];grind
      rw [this,dS]
      grind
     obtain ⟨N,hN⟩:=pg.bn
     obtain ⟨t,_,t0,tb⟩:=(top_ex N hN).resolve_left g0
     have tm:t<=m:=by
      rcases wap m t with q | q
      ·exfalso
       obtain ⟨E,rfl⟩:=pe
       have h2':D S=L E*g:=by rw [h2];grind
       rw [L_mul] at h2'
       refine quU m0 (ext' λk=>?_)
       rw [h2',zero_c]
       exact qiS E (qn9 t0 (λi hi=>tb i hi) E λk hk=>by
        exact (congrFun (congrArg Sr.c h2') k).symm.trans (qt0 mb k ⋯)) k
      ·exact q
     obtain ⟨M,a,pa,ea⟩:=ih (t+1) ⋯ g R _ tb g0 pR ((pe.sub pr.D).mul pt) gR
     refine ⟨M+1,a*(U*R+W*c),pa.mul pt,?_⟩
     have:R ^ (M+1)=R ^ M*R:=rfl
     rw [this,ea,h1]
     have:a*(U*R+W*c)*(g*r)=a*g*((U*R+W*c)*r):=by grind
     rw [this,<-hR]
noncomputable def Cs (f g:Sr):Prop:=∃ U W,Pol U/\Pol W/\U*f+W*g=1
end Sr
end Bs
namespace Bs
open PySem L2
namespace Sr
theorem qod (f:Sr) (n:Nat):f ^ (n+1)=f ^ n*f:=rfl
theorem qoe (f:Sr):f ^ 0=1:=num1.symm
theorem qs3:(1:Sr)≠0:=λh=>by
 have:=congrFun (congrArg Sr.c h) 0
 rw [zero_c] at this
 have this:((1:Nat):Rat)*qbp 0=0:=this
 have e:(qbp 0:Rat)=1:=rfl
 rw [e] at this
 push_cast at this
 grind
theorem qqI {f:Sr} (pf:Pol f) (f0:f≠0):∀ n:Nat,f ^ n≠0
 | 0=>by rw [qoe];exact qs3
 | n+1=>by rw [qod];exact ne_mul (pf.pow n) pf (qqI pf f0 n) f0
theorem qs4 {d:Sr} (pd:Pol d):∀ n:Nat,d*D (d ^ n)=num (n:Rat)*d ^ n*D d
 | 0=>by
   rw [qoe,show D 1=0 from qg4 _]
   show d*0=num ((0:Nat):Rat)*1*D d
   rw [show num ((0:Nat):Rat)=0 from rfl]
   grind
 | n+1=>by
   rw [qod,D_mul (pd.pow n),show num ((n+1:Nat):Rat)=num (n:Rat)+1 by rw [show ((n+1:Nat):Rat)=(n:Rat)+((1:Nat):Rat) by push_cast;rfl,qoa];rfl]
   have h:=qs4 pd n
   grind
theorem qjN {b:Nat->Rat} {d:Nat} (h:∀ k,d<k->b k=0):∀ (a:List Rat) (k:Nat),d+a.length<=k->cvL a b k=0
 | [],_,_=>rfl
 | x::a,0,hk=>by simp at hk
 | x::a,k+1,hk=>by
   rw [qam,qjN h a k (by simp at hk;omega),h (k+1) (by simp at hk;omega)]
   grind
theorem top_mul {f g:Sr} {m n:Nat} (hf:Bn f (m+1)) (hg:Bn g (n+1)):(f*g).c (m+n)=f.c m*g.c n/\Bn (f*g) (m+n+1):=by
 have hi:∀ (a:List Rat) (k:Nat),n+a.length<=k->cvL a g.c k=0:=qjN λk hk=>hg k hk
 rw [<-hf.row,L_mul]
 refine ⟨?_,λk hk=>hi _ k (by unfold tr;rw [waa,waw];omega)⟩
 show cvL (tr (m+1) f.c) g.c (m+n)=_
 have e:tr (m+1) f.c=tr m f.c++[f.c m]:=by unfold tr;rw [List.range_succ,wb6];rfl
 have tl:(tr m f.c).length=m:=by unfold tr;rw [waa,waw]
 rw [e,qbc,hi (tr m f.c) _ (by rw [tl];omega),tl]
 unfold upS
 rw [if_pos ⋯,show m+n - m=n by omega]
 have z:(L (tr m f.c++[f.c m])).c m=f.c m:=by
  rw [<-e]
  exact congrFun (congrArg Sr.c hf.row) m
 rw [z]
 grind
theorem qrx {d g:Sr} (pd:Pol d) (pg:Pol g) (g0:g≠0) (h:∀ k:Nat,∃ q,Pol q/\g=d ^ k*q):∃ x:Rat,x≠0/\d=num x:=by
 obtain ⟨n,hn⟩:=pd.bn
 obtain ⟨N,hN⟩:=pg.bn
 rcases top_ex n hn with z | ⟨m,_,m0,mb⟩
 ·obtain ⟨q,_,e⟩:=h 1
  exact absurd (by rw [e,qod,qoe,z];grind) g0
 rcases wbt m with z | mp
 ·subst z
  refine ⟨d.c 0,m0,ext' λk=>?_⟩
  show d.c k=d.c 0*qbp k
  cases k with
  | zero=>show _=d.c 0*1;grind
  | succ k=>rw [mb (k+1) ⋯];show (0:Rat)=d.c 0*0;grind
 exfalso
 have key:∀ (k:Nat) (q:Sr),Pol q->q≠0->∃ j,k*m<=j/\(d ^ k*q).c j≠0/\Bn (d ^ k*q) (j+1):=λk=>by
  induction k with
  | zero=>
    intro q pq q0
    obtain ⟨r,hr⟩:=pq.bn
    rcases top_ex r hr with z | ⟨j,_,j0,jb⟩
    ·exact absurd z q0
    ·refine ⟨j,⋯,?_⟩
     rw [qoe,show (1:Sr)*q=q by grind]
     exact ⟨j0,jb⟩
  | succ k ih=>
    intro q pq q0
    obtain ⟨j,j1,j2,j3⟩:=ih q pq q0
    obtain ⟨t1,t2⟩:=top_mul mb j3
    rw [show d ^ (k+1)*q=d*(d ^ k*q) by rw [qod];grind]
    refine ⟨m+j,by rw [Nat.succ_mul];omega,?_,t2⟩
    rw [t1]
    intro z
    rcases wa2.mp z with z | z
    ·exact m0 z
    ·exact j2 z
 obtain ⟨q,pq,e⟩:=h (N+1)
 have q0:q≠0:=λz=>g0 (by rw [e,z];grind)
 obtain ⟨j,j1,j2,_⟩:=key (N+1) q pq q0
 rw [<-e] at j2
 refine j2 (hN j ?_)
 have:(N+1)*1<=(N+1)*m:=wa6 _ mp
 omega
theorem Cs.of_unit {f g d U W:Sr} {x:Rat} (x0:x≠0) (e:d=num x) (pU:Pol U) (pW:Pol W) (h:U*f+W*g=d):Cs f g:=by
 refine ⟨num (x⁻¹)*U,num (x⁻¹)*W,(Pol.num _).mul pU,(Pol.num _).mul pW,?_⟩
 have i:num (x⁻¹)*num x=1:=ext' λk=>by
  rw [num_mul]
  show x⁻¹*(x*qbp k)=_
  have:x⁻¹*x=1:=Rat.inv_mul_cancel _ x0
  show _=((1:Nat):Rat)*qbp k
  push_cast
  grind
 rw [e] at h
 grind
theorem simple_cop {f g l m:Sr} (pg:Pol g) (pl:Pol l) (pm:Pol m) (f0:f≠0) (h1:f=g*l) (h2:D f=g*m) (c:Cs l m):Cs l (D l):=by
 have g0:g≠0:=λz=>f0 (by rw [h1,z];grind)
 have l0:l≠0:=λz=>f0 (by rw [h1,z];grind)
 obtain ⟨n,hn⟩:=pl.D.bn
 obtain ⟨d,r,e,U,W,pd,pr,pe,pU,pW,d0,e1,e2,e3⟩:=qqG n l (D l) pl hn (.inl l0)
 obtain ⟨U1,W1,pU1,pW1,e4⟩:=c
 have hs:D g*l=g*(m - D l):=by
  have:=D_mul pg l
  rw [<-h1,h2] at this
  grind
 have dr:D d*r=d*(e - D r):=by
  have:=D_mul pd r
  rw [<-e1,e2] at this
  grind
 have dv:∀ k:Nat,∃ q,Pol q/\g=d ^ k*q:=λk=>by
  induction k with
  | zero=>exact ⟨g,pg,by rw [qoe];grind⟩
  | succ k ih=>
    obtain ⟨h,ph,eh⟩:=ih
    have a1:d*D g=d ^ k*(num (k:Rat)*D d*h+d*D h):=by
     rw [eh,D_mul (pd.pow k)]
     have:=qs4 pd k
     grind
    have a2:d ^ k*((num (k:Rat)*D d*h+d*D h)*r)=d ^ k*(h*(m - D l)):=by
     have:d*D g*r=g*(m - D l):=by
      rw [<-hs,show D g*l=D g*(d*r) from congrArg _ e1]
      grind
     rw [a1] at this
     rw [eh] at this
     grind
    have a3:(num (k:Rat)*D d*h+d*D h)*r=h*(m - D l):=
     cancel ((((Pol.num _).mul pd.D).mul ph |>.add (pd.mul ph.D)).mul pr) (ph.mul (pm.sub pl.D)) (pd.pow k) (qqI pd d0 k) (by grind)
    have a4:h*m=d*(num (k:Rat)*h*(e - D r)+D h*r+h*e):=by
     rw [e2] at a3
     have:num (k:Rat)*D d*h*r=num (k:Rat)*h*(d*(e - D r)):=by rw [<-dr];grind
     grind
    refine ⟨h*U1*r+W1*(num (k:Rat)*h*(e - D r)+D h*r+h*e),((ph.mul pU1).mul pr).add (pW1.mul ((((Pol.num _).mul ph).mul (pe.sub pr.D) |>.add (ph.D.mul pr)).add (ph.mul pe))),?_⟩
    have a5:h=d*(h*U1*r+W1*(num (k:Rat)*h*(e - D r)+D h*r+h*e)):=by
     rw [e1] at e4
     have:h=h*(U1*(d*r)+W1*m):=by rw [e4];grind
     grind
    rw [qod,eh]
    grind
 obtain ⟨x,x0,ex⟩:=qrx pd pg g0 dv
 exact Cs.of_unit x0 ex pU pW (by rw [e2,show U*l=U*(d*r) from congrArg _ e1];grind)
end Sr
end Bs
namespace Bs
open PySem L2
namespace Sr
noncomputable def ev:List Rat->Rat->Rat
 | [],_=>0
 | a::l,x=>a+x*ev l x
theorem qkM:∀ (l:List Rat) (x:Rat),(∀ k,l.getD k 0=0)->ev l x=0
 | [],_,_=>rfl
 | a::l,x,h=>by
   have h0:a=0:=h 0
   show a+x*ev l x=0
   rw [h0,qkM l x λk=>by have:=h (k+1);rw [List.getD_cons_succ] at this;exact this];grind
theorem ev_congr':∀ (a b:List Rat) (x:Rat),(∀ k,a.getD k 0=b.getD k 0)->ev a x=ev b x
 | [],b,x,h=>(qkM b x λk=>(h k).symm.trans (by simp)).symm
 | a::l,[],x,h=>qkM (a::l) x λk=>(h k).trans (by simp)
 | a::l,b::m,x,h=>by
   have h0:a=b:=h 0
   show a+x*ev l x=b+x*ev m x
   rw [h0,ev_congr' l m x λk=>by have:=h (k+1);rw [List.getD_cons_succ,List.getD_cons_succ] at this;exact this]
theorem ev_congr {a b:List Rat} (h:L a=L b) (x:Rat):ev a x=ev b x:=ev_congr' a b x λk=>by rw [<-qbV,<-qbV];exact congrFun (congrArg Sr.c h) k
theorem ev_add:∀ (a b:List Rat) (x:Rat),ev (qaN a b) x=ev a x+ev b x
 | [],b,x=>by show ev b x=0+ev b x;grind
 | a::l,[],x=>by rw [qe3];show _=_+0;grind
 | a::l,b::m,x=>by
   show (a+b)+x*ev (qaN l m) x=a+x*ev l x+(b+x*ev m x)
   rw [ev_add l m x];grind
theorem ev_scal (c:Rat):∀ (a:List Rat) (x:Rat),ev (a.map (c*·)) x=c*ev a x
 | [],x=>by show (0:Rat)=c*0;grind
 | a::l,x=>by
   show c*a+x*ev (l.map (c*·)) x=c*(a+x*ev l x)
   rw [ev_scal c l x];grind
theorem ev_mul:∀ (a b:List Rat) (x:Rat),ev (qaJ a b) x=ev a x*ev b x
 | [],b,x=>by show (0:Rat)=0*_;grind
 | a::l,b,x=>by
   show ev (qaN (b.map (a*·)) (0::qaJ l b)) x=(a+x*ev l x)*ev b x
   rw [ev_add,ev_scal]
   show a*ev b x+(0+x*ev (qaJ l b) x)=_
   rw [ev_mul l b x];grind
theorem L_add (a b:List Rat):L (qaN a b)=L a+L b:=ext' λk=>qax qbp a b k
theorem L_scal (s:Rat) (a:List Rat):L (a.map (s*·))=num s*L a:=ext' λk=>by rw [num_mul];exact qat s qbp a k
theorem L_mulRow (a b:List Rat):L (qaJ a b)=L a*L b:=by rw [L_mul];exact ext' λk=>qaC qbp a b k
theorem num_L (x:Rat):num x=L [x]:=ext' λk=>by
 show x*qbp k=cvL [x] qbp k
 cases k with
 | zero=>rw [qaq];grind
 | succ k=>rw [qam,qaE];grind
theorem num_num (x y:Rat):num x*num y=num (x*y):=ext' λk=>by
 rw [num_mul]
 show x*(y*qbp k)=x*y*qbp k
 grind
theorem num_one:num 1=1:=congrArg num (show (1:Rat)=((1:Nat):Rat) by push_cast;rfl)
theorem num_inv {x:Rat} (h:x≠0):num x⁻¹*num x=1:=by
 rw [num_num,Rat.inv_mul_cancel _ h]
 exact num_one
end Sr
end Bs
namespace Bs
open PySem L2
noncomputable def Cn (f:Rat->Rat) (b:Rat):Nat->Rat->Prop
 | 0,x=>x<b/\f x≠0
 | k+1,x=>x<b/\∃ y,x<y/\f x*f y<0/\Cn f b k y
noncomputable def Cs (f:Rat->Rat) (b s:Rat):Nat->Rat->Prop
 | 0,x=>x<b/\0<f x*s
 | k+1,x=>x<b/\∃ y,x<y/\f x*f y<0/\Cs f b s k y
noncomputable def AltN (f:Rat->Rat) (a b:Rat) (k:Nat):Prop:=∃ x,a<x/\Cn f b k x
noncomputable def IsN (f:Rat->Rat) (a b:Rat) (k:Nat):Prop:=AltN f a b k/\¬ AltN f a b (k+1)
theorem rtri (a b:Rat):a<b\/a=b\/b<a:=by
 rcases (wam:a<=b\/b<=a) with c | c
 ·rcases Rat.le_iff_lt_or_eq.mp c with d | d
  ·exact .inl d
  ·exact .inr (.inl d)
 ·rcases Rat.le_iff_lt_or_eq.mp c with d | d
  ·exact .inr (.inr d)
  ·exact .inr (.inl d.symm)
theorem mul_neg_iff' {a b:Rat}:a*b<0↔(0<a/\b<0)\/(a<0/\0<b):=by
 constructor
 ·intro h
  rcases rtri (a) 0 with c | c | c
  ·refine .inr ⟨c,wbq.mp λz=>?_⟩
   have:=wah (show 0<=-a by grind) (show 0<=-b by grind)
   grind
  ·rw [c] at h;grind
  ·refine .inl ⟨c,wbq.mp λz=>?_⟩
   have:=wah (show 0<=a by grind) z
   grind
 ·rintro (⟨h1,h2⟩ | ⟨h1,h2⟩)
  ·have:=wan h1 (show 0 < -b by grind)
   grind
  ·have:=wan (show 0 < -a by grind) h2
   grind
theorem mul_pos_iff' {a b:Rat}:0<a*b↔(0<a/\0<b)\/(a<0/\b<0):=by
 have h:=mul_neg_iff' (a:=a) (b:=-b)
 have e:a * -b<0↔0<a*b:=by constructor <;> intro h <;> grind
 rw [<-e,h]
 constructor
 ·rintro (⟨h1,h2⟩ | ⟨h1,h2⟩)
  ·exact .inl ⟨h1,by grind⟩
  ·exact .inr ⟨h1,by grind⟩
 ·rintro (⟨h1,h2⟩ | ⟨h1,h2⟩)
  ·exact .inl ⟨h1,by grind⟩
  ·exact .inr ⟨h1,by grind⟩
theorem Cn.lt {f:Rat->Rat} {b x:Rat}:∀ {k:Nat},Cn f b k x->x<b
 | 0,h=>h.1
 | _+1,h=>h.1
theorem Cn.ne {f:Rat->Rat} {b x:Rat}:∀ {k:Nat},Cn f b k x->f x≠0
 | 0,h=>h.2
 | _+1,⟨_,y,_,h,_⟩=>λz=>by rw [z] at h;grind
theorem Cn.less {f:Rat->Rat} {b:Rat}:∀ {k:Nat} {x:Rat},Cn f b (k+1) x->Cn f b k x
 | 0,x,h=>⟨h.1,h.ne⟩
 | k+1,x,⟨h1,y,h2,h3,h4⟩=>⟨h1,y,h2,h3,h4.less⟩
theorem Cs.cn {f:Rat->Rat} {b s:Rat}:∀ {k:Nat} {x:Rat},Cs f b s k x->Cn f b k x
 | 0,x,⟨h1,h2⟩=>⟨h1,λz=>by rw [z] at h2;grind⟩
 | k+1,x,⟨h1,y,h2,h3,h4⟩=>⟨h1,y,h2,h3,h4.cn⟩
theorem Cn.cs {f:Rat->Rat} {b s:Rat} (s0:s≠0):∀ {k:Nat} {x:Rat},Cn f b k x->Cs f b s k x\/Cs f b (-s) k x
 | 0,x,⟨h1,h2⟩=>by
   have:0<f x*s\/0<f x * -s:=by
    rcases rtri (f x*s) 0 with c | c | c
    ·exact .inr (by grind)
    ·rcases wa2.mp c with z | z
     ·exact absurd z h2
     ·exact absurd z s0
    ·exact .inl c
   rcases this with c | c
   ·exact .inl ⟨h1,c⟩
   ·exact .inr ⟨h1,c⟩
 | k+1,x,⟨h1,y,h2,h3,h4⟩=>by
   rcases h4.cs s0 with c | c
   ·exact .inl ⟨h1,y,h2,h3,c⟩
   ·exact .inr ⟨h1,y,h2,h3,c⟩
theorem AltN.less {f:Rat->Rat} {a b:Rat} {k j:Nat} (h:AltN f a b k) (l:j<=k):AltN f a b j:=by
 induction k with
 | zero=>rw [show j=0 by omega];exact h
 | succ k ih=>
   rcases wap j (k+1) with c | c
   ·obtain ⟨x,h1,h2⟩:=h
    exact ih ⟨x,h1,h2.less⟩ ⋯
   ·rw [show j=k+1 by omega];exact h
theorem IsN.uniq {f:Rat->Rat} {a b:Rat} {k j:Nat} (h:IsN f a b k) (h':IsN f a b j):k=j:=by
 rcases Nat.lt_trichotomy k j with c | c | c
 ·exact absurd (h'.1.less (show k+1<=j by omega)) h.2
 ·exact c
 ·exact absurd (h.1.less (show j+1<=k by omega)) h'.2
theorem IsN.le {f:Rat->Rat} {a b x:Rat} {k j:Nat} (h:IsN f a b k) (ax:a<x) (c:Cn f b j x):j<=k:=by
 refine wbu.mp λz=>h.2 (AltN.less ⟨x,ax,c⟩ (show k+1<=j by omega))
noncomputable def Lft (f:Rat->Rat) (m s:Rat):Prop:=∃ δ,0<δ/\∀ x,m - δ<x->x<m->0<f x*s
noncomputable def Rgt (f:Rat->Rat) (m s:Rat):Prop:=∃ δ,0<δ/\∀ x,m<x->x<m+δ->0<f x*s
theorem opp {a b s:Rat} (h1:0<a * -s) (h2:0<b*s):a*b<0:=by
 rw [mul_neg_iff']
 rcases mul_pos_iff'.mp h1 with ⟨x,y⟩ | ⟨x,y⟩ <;> rcases mul_pos_iff'.mp h2 with ⟨z,w⟩ | ⟨z,w⟩
 ·grind
 ·exact .inl ⟨x,z⟩
 ·exact .inr ⟨x,z⟩
 ·grind
theorem like {a b s:Rat} (h1:0<a*s) (h2:0<b*s):0<a*b:=by
 rw [mul_pos_iff']
 rcases mul_pos_iff'.mp h1 with ⟨x,y⟩ | ⟨x,y⟩ <;> rcases mul_pos_iff'.mp h2 with ⟨z,w⟩ | ⟨z,w⟩
 ·exact .inl ⟨x,z⟩
 ·grind
 ·grind
 ·exact .inr ⟨x,z⟩
theorem Cs.ext {f:Rat->Rat} {m s:Rat} (g:Lft f m s):∀ {k:Nat} {x:Rat},Cs f m (-s) k x->Cn f m (k+1) x
 | 0,x,⟨h1,h2⟩=>by
   obtain ⟨δ,d0,g⟩:=g
   obtain ⟨y,y1,y2,y3⟩:∃ y,x<y/\m - δ<y/\y<m:=by
    rcases (wam:x<=m - δ\/m - δ<=x) with c | c
    ·exact ⟨m - δ / 2,by grind,by grind,by grind⟩
    ·exact ⟨(x+m) / 2,by grind,by grind,by grind⟩
   have q:=g y y2 y3
   exact ⟨h1,y,y1,opp h2 q,y3,λz=>by rw [z] at q;grind⟩
 | k+1,x,⟨h1,y,h2,h3,h4⟩=>⟨h1,y,h2,h3,h4.ext g⟩
theorem Cn.pre {f:Rat->Rat} {m b s x:Rat} (g:Rgt f m s) (mx:m<x) {k:Nat} (h:Cn f b k x) (hs:0<f x * -s):∃ y,m<y/\y<x/\Cn f b (k+1) y:=by
 obtain ⟨δ,d0,g⟩:=g
 have lt:=h.lt
 obtain ⟨y,y1,y2,y3⟩:∃ y,m<y/\y<x/\y<m+δ:=by
  rcases (wam:x<=m+δ\/m+δ<=x) with c | c
  ·exact ⟨(m+x) / 2,by grind,by grind,by grind⟩
  ·exact ⟨m+δ / 2,by grind,by grind,by grind⟩
 have q:=g y y1 y3
 refine ⟨y,y1,y2,by grind,x,y2,?_,h⟩
 have:=opp hs q
 grind
theorem Cn.first {f:Rat->Rat} {b s x:Rat} (s0:s≠0) {k:Nat} (h:Cn f b k x):0<f x*s\/0<f x * -s:=by
 have n:=h.ne
 rcases rtri (f x*s) 0 with c | c | c
 ·exact .inr (by grind)
 ·rcases wa2.mp c with z | z
  ·exact absurd z n
  ·exact absurd z s0
 ·exact .inl c
theorem Cs.joinU {f:Rat->Rat} {m b s y:Rat} (mb:m<=b) (my:m<=y) {l:Nat} (h2:Cn f b l y) (hs:0<f y * -s):∀ {k:Nat} {x:Rat},Cs f m s k x->Cn f b (k+1+l) x
 | 0,x,⟨h1,h3⟩=>by
   rw [show 0+1+l=l+1 by omega]
   exact ⟨by grind,y,by grind,by have:=opp hs h3;grind,h2⟩
 | k+1,x,⟨h1,z,h3,h4,h5⟩=>by
   rw [show k+1+1+l=(k+1+l)+1 by omega]
   exact ⟨by grind,z,h3,h4,h5.joinU mb my h2 hs⟩
theorem Cs.joinL {f:Rat->Rat} {m b s y:Rat} (mb:m<=b) (my:m<=y) {l:Nat} (h2:Cn f b l y) (hs:0<f y*s):∀ {k:Nat} {x:Rat},Cs f m s k x->Cn f b (k+l) x
 | 0,x,⟨h1,h3⟩=>by
   rw [show 0+l=l by omega]
   cases l with
   | zero=>exact ⟨by grind,λz=>by rw [z] at h3;grind⟩
   | succ l=>
     obtain ⟨q1,z,q2,q3,q4⟩:=h2
     refine ⟨by grind,z,by grind,?_,q4⟩
     have a:=like h3 hs
     rw [mul_neg_iff'] at q3 ⊢
     rcases mul_pos_iff'.mp a with ⟨u,v⟩ | ⟨u,v⟩ <;> grind
 | k+1,x,⟨h1,z,h3,h4,h5⟩=>by
   rw [show k+1+l=(k+l)+1 by omega]
   exact ⟨by grind,z,h3,h4,h5.joinL mb my h2 hs⟩
theorem Cn.part {f:Rat->Rat} {m b s:Rat} (s0:s≠0):∀ {K:Nat} {x:Rat},x<m->Cn f b K x->Cn f m K x\/∃ (j l:Nat) (y t:Rat),K=j+1+l/\(t=s\/t = -s)/\Cs f m t j x/\m<=y/\0<f y * -t/\Cn f b l y
 | 0,x,xm,h=>.inl ⟨xm,h.2⟩
 | K+1,x,xm,⟨h1,y,h2,h3,h4⟩=>by
   rcases (wam:m<=y\/y<=m) with c | c
   ·have:0<f x*s\/0<f x * -s:=Cn.first (b:=b) (k:=0) s0 ⟨h1,λz=>by rw [z] at h3;grind⟩
    rcases this with q | q
    ·refine .inr ⟨0,K,y,s,⋯,.inl rfl,⟨xm,q⟩,c,?_,h4⟩
     rcases h4.first s0 with r | r
     ·have:=like q r;grind
     ·exact r
    ·refine .inr ⟨0,K,y,-s,⋯,.inr rfl,⟨xm,q⟩,c,?_,h4⟩
     rcases h4.first s0 with r | r
     ·grind
     ·have:=like q r;grind
   ·by_cases e:y=m
    ·have:0<f x*s\/0<f x * -s:=Cn.first (b:=b) (k:=0) s0 ⟨h1,λz=>by rw [z] at h3;grind⟩
     rcases this with q | q
     ·refine .inr ⟨0,K,y,s,⋯,.inl rfl,⟨xm,q⟩,by grind,?_,h4⟩
      rcases h4.first s0 with r | r
      ·have:=like q r;grind
      ·exact r
     ·refine .inr ⟨0,K,y,-s,⋯,.inr rfl,⟨xm,q⟩,by grind,?_,h4⟩
      rcases h4.first s0 with r | r
      ·grind
      ·have:=like q r;grind
    ·rcases h4.part (m:=m) s0 (by grind) with r | ⟨j,l,w,t,e1,e2,e3,e4,e5,e6⟩
     ·exact .inl ⟨xm,y,h2,h3,r⟩
     ·exact .inr ⟨j+1,l,w,t,⋯,e2,⟨xm,y,h2,h3,e3⟩,e4,e5,e6⟩
theorem IsN.join {f:Rat->Rat} {a m b:Rat} {k1 k2:Nat} (am:a<m) (mb:m<b) (h1:IsN f a m k1) (h2:IsN f m b k2) (fm:f m≠0) (gl:Lft f m (f m)) (gr:Rgt f m (f m)):IsN f a b (k1+k2):=by
 have c1:∀ x,a<x->Cn f m k1 x->Cs f m (f m) k1 x:=λx ax h=>by
  rcases h.cs fm with c | c
  ·exact c
  ·have:=h1.le ax (c.ext gl);omega
 have c2:∀ y,m<y->Cn f b k2 y->0<f y*f m:=λy my h=>by
  rcases h.first fm with c | c
  ·exact c
  ·obtain ⟨z,z1,_,z3⟩:=h.pre gr my c
   have:=h2.le z1 z3;omega
 constructor
 ·obtain ⟨x,ax,hx⟩:=h1.1
  obtain ⟨y,my,hy⟩:=h2.1
  exact ⟨x,ax,(c1 x ax hx).joinL (by grind) (by grind) hy (c2 y my hy)⟩
 ·rintro ⟨x,ax,hx⟩
  have fp:0<f m*f m:=by rw [mul_pos_iff'];rcases rtri (f m) 0 with c | c | c <;> grind
  have at':∀ l,Cn f b l m->l<=k2:=λl hl=>by
   cases l with
   | zero=>omega
   | succ l=>
     obtain ⟨q1,z,q2,q3,q4⟩:=hl
     obtain ⟨w,w1,_,w3⟩:=q4.pre (s:=f m) gr q2 (by grind)
     exact h2.le w1 w3
  rcases (wam:m<=x\/x<=m) with c | c
  ·have:k1+k2+1<=k2:=by
    by_cases e:x=m
    ·rw [e] at hx;exact at' _ hx
    ·exact h2.le (by grind) hx
   omega
  ·by_cases e:x=m
   ·rw [e] at hx;have:=at' _ hx;omega
   ·rcases hx.part (m:=m) (s:=f m) fm (by grind) with r | ⟨j,l,y,t,e1,e2,e3,e4,e5,e6⟩
    ·have:=h1.le ax r;omega
    ·have j1:=h1.le ax e3.cn
     by_cases ey:y=m
     ·rw [ey] at e5 e6
      have l2:=at' _ e6
      have et:t = -f m:=by rcases e2 with z | z;·rw [z] at e5;grind
                           ·exact z
      rw [et] at e3
      have:=h1.le ax (e3.ext gl)
      omega
     ·have my:m<y:=by grind
      have l2:=h2.le my e6
      have ej:j=k1:=by omega
      have el:l=k2:=by omega
      subst ej el
      have p:=c2 y my e6
      have q:=c1 x ax e3.cn
      rcases e2 with z | z
      ·rw [z] at e5;grind
      ·rw [z] at e3
       have:=h1.le ax (e3.ext gl);omega
theorem IsN.join0 {f:Rat->Rat} {a m b s:Rat} {k1 k2:Nat} (am:a<m) (mb:m<b) (h1:IsN f a m k1) (h2:IsN f m b k2) (fm:f m=0) (s0:s≠0) (gl:Lft f m (-s)) (gr:Rgt f m s):IsN f a b (k1+1+k2):=by
 have c1:∀ x,a<x->Cn f m k1 x->Cs f m (-s) k1 x:=λx ax h=>by
  rcases h.cs (s:=-s) (by grind) with c | c
  ·exact c
  ·have:=h1.le ax (c.ext gl);omega
 have c2:∀ y,m<y->Cn f b k2 y->0<f y*s:=λy my h=>by
  rcases h.first s0 with c | c
  ·exact c
  ·obtain ⟨z,z1,_,z3⟩:=h.pre gr my c
   have:=h2.le z1 z3;omega
 constructor
 ·obtain ⟨x,ax,hx⟩:=h1.1
  obtain ⟨y,my,hy⟩:=h2.1
  exact ⟨x,ax,(c1 x ax hx).joinU (by grind) (by grind) hy (by have:=c2 y my hy;grind)⟩
 ·rintro ⟨x,ax,hx⟩
  have nx:=hx.ne
  have xm:x≠m:=λe=>by rw [e] at nx;exact nx fm
  rcases (wam:m<=x\/x<=m) with c | c
  ·have:=h2.le (by grind) hx;omega
  ·rcases hx.part (m:=m) s0 (by grind) with r | ⟨j,l,y,t,e1,e2,e3,e4,e5,e6⟩
   ·have:=h1.le ax r;omega
   ·have j1:=h1.le ax e3.cn
    have ny:=e6.ne
    have ym:y≠m:=λe=>by rw [e] at ny;exact ny fm
    have l2:=h2.le (show m<y by grind) e6
    omega
end Bs
namespace Bs
open PySem L2
noncomputable def Pn:Nat->(Rat->Rat)->Prop
 | 0,f=>∃ c,∀ t,f t=c
 | n+1,f=>∃ a g,Pn n g/\∀ t,f t=a+t*g t
theorem Pn.up:∀ {n:Nat} {f:Rat->Rat},Pn n f->Pn (n+1) f
 | 0,f,⟨c,h⟩=>⟨c,λ_=>0,⟨0,λ_=>rfl⟩,λt=>by rw [h];grind⟩
 | n+1,f,⟨a,g,h1,h2⟩=>⟨a,g,h1.up,h2⟩
theorem Pn.add:∀ {n:Nat} {f g:Rat->Rat},Pn n f->Pn n g->Pn n (λt=>f t+g t)
 | 0,f,g,⟨c,h⟩,⟨d,h'⟩=>⟨c+d,λt=>by show f t+g t=_;rw [h,h']⟩
 | n+1,f,g,⟨a,u,h1,h2⟩,⟨b,v,h3,h4⟩=>⟨a+b,_,h1.add h3,λt=>by show f t+g t=_;rw [h2,h4];grind⟩
theorem Pn.scale (c:Rat):∀ {n:Nat} {f:Rat->Rat},Pn n f->Pn n (λt=>c*f t)
 | 0,f,⟨d,h⟩=>⟨c*d,λt=>by show c*f t=_;rw [h]⟩
 | n+1,f,⟨a,u,h1,h2⟩=>⟨c*a,_,h1.scale c,λt=>by show c*f t=_;rw [h2];grind⟩
theorem Pn.quot:∀ {n:Nat} {f:Rat->Rat},Pn (n+1) f->∀ r,∃ g,Pn n g/\∀ t,f t - f r=(t - r)*g t
 | 0,f,⟨a,u,⟨c,h1⟩,h2⟩,r=>⟨λ_=>c,⟨c,λ_=>rfl⟩,λt=>by rw [h2,h2,h1,h1];grind⟩
 | n+1,f,⟨a,u,h1,h2⟩,r=>by
   obtain ⟨g,h3,h4⟩:=h1.quot r
   refine ⟨λt=>u t+r*g t,h1.add (h3.scale r).up,λt=>?_⟩
   have:=h4 t
   rw [h2,h2]
   have e:u t=u r+(t - r)*g t:=by grind
   rw [e];grind
theorem Pn.bound:∀ {n:Nat} {f:Rat->Rat},Pn n f->∀ R,0<=R->∃ B,0<=B/\∀ t,-R<=t->t<=R->-B<=f t/\f t<=B
 | 0,f,⟨c,h⟩,R,R0=>by
   rcases (wam:0<=c\/c<=0) with z | z
   ·exact ⟨c,z,λt _ _=>by rw [h];grind⟩
   ·exact ⟨-c,by grind,λt _ _=>by rw [h];grind⟩
 | n+1,f,⟨a,u,h1,h2⟩,R,R0=>by
   obtain ⟨B,B0,hB⟩:=h1.bound R R0
   have RB:=wah R0 B0
   obtain ⟨A,A0,hA1,hA2⟩:∃ A,0<=A/\a<=A/\-a<=A:=by
    rcases (wam:0<=a\/a<=0) with z | z
    ·exact ⟨a,z,by grind,by grind⟩
    ·exact ⟨-a,by grind,by grind,by grind⟩
   refine ⟨A+R*B,by grind,λt t1 t2=>?_⟩
   obtain ⟨b1,b2⟩:=hB t t1 t2
   have p:-(R*B)<=t*u t/\t*u t<=R*B:=by
    rcases (wam:0<=t\/t<=0) with z | z
    ·have q1:=wac b1 z
     have q2:=wac b2 z
     have q3:=wak t2 B0
     constructor <;> grind
    ·have q1:=wac b1 (show 0<=-t by grind)
     have q2:=wac b2 (show 0<=-t by grind)
     have q3:=wak (show -t<=R by grind) B0
     constructor <;> grind
   rw [h2]
   constructor <;> grind
theorem Pn.lip {n:Nat} {f:Rat->Rat} (h:Pn n f) (R:Rat) (R0:0<=R):∃ L,0<=L/\∀ s t,-R<=s->s<=t->t<=R->f t - f s<=L*(t - s)/\f s - f t<=L*(t - s):=by
 induction n generalizing f with
 | zero=>
   obtain ⟨c,h⟩:=h
   exact ⟨0,by grind,λs t _ _ _=>by rw [h,h];constructor <;> grind⟩
 | succ n ih=>
   obtain ⟨a,u,h1,h2⟩:=h
   obtain ⟨B,B0,hB⟩:=h1.bound R R0
   obtain ⟨L,L0,hL⟩:=ih h1
   have RL:=wah R0 L0
   refine ⟨B+R*L,by grind,λs t s1 st t1=>?_⟩
   obtain ⟨l1,l2⟩:=hL s t s1 st t1
   obtain ⟨b1,b2⟩:=hB t (by grind) t1
   have d0:0<=t - s:=by grind
   have e:f t - f s=(t - s)*u t+s*(u t - u s):=by rw [h2,h2];grind
   have q1:=wac b1 d0
   have q2:=wac b2 d0
   have Ld:=wah L0 d0
   have p:-(R*(L*(t - s)))<=s*(u t - u s)/\s*(u t - u s)<=R*(L*(t - s)):=by
    rcases (wam:0<=s\/s<=0) with z | z
    ·have r1:=wac l1 z
     have r2:=wac l2 z
     have r3:=wak (show s<=R by grind) Ld
     constructor <;> grind
    ·have r1:=wac l1 (show 0<=-s by grind)
     have r2:=wac l2 (show 0<=-s by grind)
     have r3:=wak (show -s<=R by grind) Ld
     constructor <;> grind
   have e2:f s - f t = -(f t - f s):=by grind
   rw [e2,e]
   constructor <;> grind
theorem qpR (k:Nat):∃ h:Rat,0<h/\h*((2 ^ k:Nat):Rat)=1:=by
 have p:(0:Rat)<((2 ^ k:Nat):Rat):=by exact_mod_cast wav ∅
 exact ⟨((2 ^ k:Nat):Rat)⁻¹,Rat.inv_pos.mpr p,by rw [Rat.mul_comm];exact wbb _ (by grind)⟩
theorem qt1 (r:Rat):∃ n:Nat,r<((2 ^ n:Nat):Rat):=by
 have h:=Rat.lt_floor_add_one r
 refine ⟨(r.floor+1).toNat,?_⟩
 have h1:(r.floor+1:Int)<=(((r.floor+1).toNat:Nat):Int):=by omega
 have h2:(r.floor+1).toNat<2 ^ (r.floor+1).toNat:=Nat.lt_two_pow_self
 have h3:(r.floor+1:Int)<=((2 ^ (r.floor+1).toNat:Nat):Int):=by omega
 have h4:((r.floor+1:Int):Rat)<=(((2 ^ (r.floor+1).toNat:Nat):Int):Rat):=by exact_mod_cast h3
 have e:(((2 ^ (r.floor+1).toNat:Nat):Int):Rat)=((2 ^ (r.floor+1).toNat:Nat):Rat):=rfl
 rw [e] at h4
 grind
theorem qkN {f:Rat->Rat}:∀ (k:Nat) (x y:Rat),x<y->f x*f y<0->∃ u v,x<=u/\u<v/\v<=y/\f u*f v<=0/\(v - u)*((2 ^ k:Nat):Rat)<=y - x
 | 0,x,y,h,s=>⟨x,y,by grind,h,by grind,by grind,by rw [show ((2 ^ 0:Nat):Rat)=1 from rfl];grind⟩
 | k+1,x,y,h,s=>by
   have e:((2 ^ (k+1):Nat):Rat)=2*((2 ^ k:Nat):Rat):=by rw [wa1];push_cast;grind
   have p:(0:Rat)<((2 ^ k:Nat):Rat):=by exact_mod_cast wav ∅
   rcases rtri (f x*f ((x+y) / 2)) 0 with c | c | c
   ·obtain ⟨u,v,h1,h2,h3,h4,h5⟩:=qkN (f:=f) k x ((x+y) / 2) (by grind) c
    exact ⟨u,v,h1,h2,by grind,h4,by rw [e];grind⟩
   ·-- the middle is a place: a small piece beside it
    obtain ⟨t,t0,ht⟩:=qpR (k+1)
    have m0:f ((x+y) / 2)=0:=by
     rcases wa2.mp c with z | z
     ·rw [z] at s;grind
     ·exact z
    have tl:t<=1 / 2:=by
     have p1:(1:Rat)<=((2 ^ k:Nat):Rat):=by exact_mod_cast Nat.one_le_two_pow
     have:=wac p1 (show 0<=t by grind)
     rw [e] at ht
     grind
    have d:=wan t0 (show 0<y - x by grind)
    have d2:=wak tl (show 0<=y - x by grind)
    refine ⟨(x+y) / 2,(x+y) / 2+t*(y - x),by grind,by grind,by grind,by rw [m0];grind,?_⟩
    have:((x+y) / 2+t*(y - x) - (x+y) / 2)*((2 ^ (k+1):Nat):Rat)=(t*((2 ^ (k+1):Nat):Rat))*(y - x):=by grind
    rw [this,ht];grind
   ·have s':f ((x+y) / 2)*f y<0:=by
     rw [mul_neg_iff'] at s ⊢
     rcases mul_pos_iff'.mp c with ⟨q,r⟩ | ⟨q,r⟩ <;> grind
    obtain ⟨u,v,h1,h2,h3,h4,h5⟩:=qkN (f:=f) k ((x+y) / 2) y (by grind) s'
    exact ⟨u,v,by grind,h2,h3,h4,by rw [e];grind⟩
theorem Pn.near {n:Nat} {f:Rat->Rat} (h:Pn n f) {x y η:Rat} (xy:x<y) (s:f x*f y<0) (e0:0<η):∃ r,x<r/\r<y/\-η<f r/\f r<η:=by
 obtain ⟨R,R0,hx,hy⟩:∃ R,0<=R/\-R<=x/\y<=R:=by
  rcases (wam:0<=y\/y<=0) with z | z <;> rcases (wam:0<=x\/x<=0) with w | w
  ·exact ⟨y,z,by grind,by grind⟩
  ·exact ⟨y - x,by grind,by grind,by grind⟩
  ·exact ⟨0,by grind,by grind,by grind⟩
  ·exact ⟨-x,by grind,by grind,by grind⟩
 obtain ⟨L,L0,hL⟩:=h.lip R R0
 obtain ⟨k,hk⟩:=qt1 (2*(L*(y - x))*η⁻¹)
 have ei:η*η⁻¹=1:=wbb _ (by grind)
 obtain ⟨u,v,h1,h2,h3,h4,h5⟩:=qkN (f:=f) k x y xy s
 have p:(0:Rat)<((2 ^ k:Nat):Rat):=by exact_mod_cast wav ∅
 have wl:2*(L*(v - u))<η:=by
  generalize ((2 ^ k:Nat):Rat)=M at *
  refine wbq.mp λz=>?_
  have q1:=wak z (show 0<=M by grind)
  have q2:=wac h5 L0
  have q3:=wan (show 0<M - 2*(L*(y - x))*η⁻¹ by grind) e0
  have q4:(M - 2*(L*(y - x))*η⁻¹)*η=M*η - 2*(L*(y - x))*(η*η⁻¹):=by grind
  rw [q4,ei] at q3
  grind
 have Lw:=wah L0 (show 0<=v - u by grind)
 obtain ⟨a1,a2⟩:=hL u v (by grind) (by grind) (by grind)
 obtain ⟨b1,b2⟩:=hL u ((u+v) / 2) (by grind) (by grind) (by grind)
 have e2:L*((u+v) / 2 - u)<=L*(v - u):=wac (by grind) L0
 have fu:-(L*(v - u))<=f u/\f u<=L*(v - u):=by
  rcases rtri (f u) 0 with c | c | c
  ·have:0<=f v:=wb0.mp λz=>by
    have:=mul_pos_iff'.mpr (.inr ⟨c,z⟩);grind
   constructor <;> grind
  ·rw [c];constructor <;> grind
  ·have:f v<=0:=wb0.mp λz=>by
    have:=mul_pos_iff'.mpr (.inl ⟨c,z⟩);grind
   constructor <;> grind
 exact ⟨(u+v) / 2,by grind,by grind,by grind,by grind⟩
theorem Cn.shake {f:Rat->Rat} {b:Rat}:∀ {k:Nat} {x:Rat},Cn f b k x->∃ η,0<η/\∀ c,-η<c->c<η->Cn (λt=>f t - c) b k x
 | 0,x,⟨h1,h2⟩=>by
   rcases rtri (f x) 0 with c | c | c
   ·exact ⟨-f x,by grind,λd d1 d2=>⟨h1,by show f x - d≠0;grind⟩⟩
   ·exact absurd c h2
   ·exact ⟨f x,by grind,λd d1 d2=>⟨h1,by show f x - d≠0;grind⟩⟩
 | k+1,x,⟨h1,y,h2,h3,h4⟩=>by
   obtain ⟨η,e0,he⟩:=h4.shake
   have key:∀ p q:Rat,0<p->0<q->∃ ε,0<ε/\ε<=η/\ε<=p/\ε<=q:=λp q hp hq=>by
    rcases (wam:p<=q\/q<=p) with z | z <;> rcases (wam:p<=η\/η<=p) with w | w <;> rcases (wam:q<=η\/η<=q) with v | v
    ·exact ⟨p,hp,by grind,by grind,by grind⟩
    ·exact ⟨p,hp,by grind,by grind,by grind⟩
    ·exact ⟨η,e0,by grind,by grind,by grind⟩
    ·exact ⟨η,e0,by grind,by grind,by grind⟩
    ·exact ⟨q,hq,by grind,by grind,by grind⟩
    ·exact ⟨η,e0,by grind,by grind,by grind⟩
    ·exact ⟨q,hq,by grind,by grind,by grind⟩
    ·exact ⟨η,e0,by grind,by grind,by grind⟩
   rcases mul_neg_iff'.mp h3 with ⟨q1,q2⟩ | ⟨q1,q2⟩
   ·obtain ⟨ε,p0,p1,p2,p3⟩:=key (f x) (-f y) q1 (by grind)
    exact ⟨ε,p0,λc c1 c2=>⟨h1,y,h2,mul_neg_iff'.mpr (.inl ⟨by grind,by grind⟩),he c (by grind) (by grind)⟩⟩
   ·obtain ⟨ε,p0,p1,p2,p3⟩:=key (-f x) (f y) (by grind) q2
    exact ⟨ε,p0,λc c1 c2=>⟨h1,y,h2,mul_neg_iff'.mpr (.inr ⟨by grind,by grind⟩),he c (by grind) (by grind)⟩⟩
theorem Cn.of_like {f g:Rat->Rat} {b r:Rat} (h:∀ t,r<t->(0<f t↔0<g t)/\(f t<0↔g t<0)):∀ {k:Nat} {x:Rat},r<x->Cn f b k x->Cn g b k x
 | 0,x,rx,⟨h1,h2⟩=>⟨h1,λz=>by
   have:=h x rx
   rcases rtri (f x) 0 with c | c | c
   ·have:=this.2.mp c;grind
   ·exact h2 c
   ·have:=this.1.mp c;grind⟩
 | k+1,x,rx,⟨h1,y,h2,h3,h4⟩=>by
   have a:=h x rx
   have b':=h y (by grind)
   refine ⟨h1,y,h2,?_,h4.of_like h (by grind)⟩
   rw [mul_neg_iff'] at h3 ⊢
   grind
theorem Pn.deg:∀ {n:Nat} {f:Rat->Rat},Pn n f->∀ {k:Nat} {b x:Rat},Cn f b k x->k<=n
 | n,f,h,0,b,x,c=>wae _
 | 0,f,⟨d,h⟩,k+1,b,x,⟨_,y,_,h3,_⟩=>by
   rw [h,h] at h3
   rcases mul_neg_iff'.mp h3 with z | z <;> grind
 | n+1,f,h,k+1,b,x,⟨h1,y,h2,h3,h4⟩=>by
   obtain ⟨η,e0,he⟩:=h4.shake
   obtain ⟨r,r1,r2,r3,r4⟩:=h.near h2 h3 e0
   have c:=he (f r) r3 r4
   obtain ⟨g,hg,eg⟩:=h.quot r
   have c2:Cn g b k y:=c.of_like (r:=r) (λt rt=>by
    have e:=eg t
    show (0<f t - f r↔_)/\(f t - f r<0↔_)
    rw [e,mul_pos_iff',mul_neg_iff']
    constructor <;> grind) r2
   have:=hg.deg c2
   omega
theorem Pn.ex {n:Nat} {f:Rat->Rat} (h:Pn n f) {a b x:Rat} (ax:a<x) (xb:x<b) (fx:f x≠0):∃ k,IsN f a b k:=by
 have key:∀ j,(∃ k,IsN f a b k)\/AltN f a b j:=λj=>by
  induction j with
  | zero=>exact .inr ⟨x,ax,xb,fx⟩
  | succ j ih=>
    rcases ih with c | c
    ·exact .inl c
    ·by_cases d:AltN f a b (j+1)
     ·exact .inr d
     ·exact .inl ⟨j,c,d⟩
 rcases key (n+1) with c | ⟨y,_,c⟩
 ·exact c
 ·have:=h.deg c;omega
end Bs
namespace Bs
open PySem L2
noncomputable def evQ:List Int->Rat->Rat
 | [],_=>0
 | a::l,x=>(a:Rat)+x*evQ l x
noncomputable def dQ:List Int->Rat->Rat
 | [],_=>0
 | _::l,x=>evQ l x+x*dQ l x
theorem qqJ (a:Int):∀ (l:List Int),Pn l.length (evQ (a::l))
 | []=>⟨a,λt=>by show (a:Rat)+t*0=a;grind⟩
 | b::l=>⟨a,evQ (b::l),qqJ b l,λt=>rfl⟩
theorem evQ_pn':∀ (l:List Int),Pn l.length (evQ l)
 | []=>⟨0,λt=>rfl⟩
 | a::l=>(qqJ a l).up
theorem qg5:∀ (l:List Int) (m:Rat),∃ C,0<=C/\∀ h,-1<=h->h<=1->-(C*(h*h))<=evQ l (m+h) - evQ l m - h*dQ l m/\evQ l (m+h) - evQ l m - h*dQ l m<=C*(h*h)
 | [],m=>⟨0,by grind,λh _ _=>by show -(0*(h*h))<=(0:Rat) - 0 - h*0/\(0:Rat) - 0 - h*0<=0*(h*h);constructor <;> grind⟩
 | a::l,m=>by
   obtain ⟨C,C0,hC⟩:=qg5 l m
   obtain ⟨D,D0,hD1,hD2⟩:∃ D,0<=D/\dQ l m<=D/\-dQ l m<=D:=by
    rcases (wam:0<=dQ l m\/dQ l m<=0) with z | z
    ·exact ⟨dQ l m,z,by grind,by grind⟩
    ·exact ⟨-dQ l m,by grind,by grind,by grind⟩
   obtain ⟨M,M0,hM1,hM2⟩:∃ M,0<=M/\m<=M/\-m<=M:=by
    rcases (wam:0<=m\/m<=0) with z | z
    ·exact ⟨m,z,by grind,by grind⟩
    ·exact ⟨-m,by grind,by grind,by grind⟩
   have MC:=wah (show 0<=M+1 by grind) C0
   refine ⟨D+(M+1)*C,by grind,λh h1 h2=>?_⟩
   obtain ⟨q1,q2⟩:=hC h h1 h2
   have hh:0<=h*h:=by
    rcases (wam:0<=h\/h<=0) with z | z
    ·exact wah z z
    ·have:=wah (show 0<=-h by grind) (show 0<=-h by grind);grind
   have e:evQ (a::l) (m+h) - evQ (a::l) m - h*dQ (a::l) m=h*h*dQ l m+(m+h)*(evQ l (m+h) - evQ l m - h*dQ l m):=by
    show ((a:Rat)+(m+h)*evQ l (m+h)) - ((a:Rat)+m*evQ l m) - h*(evQ l m+m*dQ l m)=_
    grind
   rw [e]
   generalize evQ l (m+h) - evQ l m - h*dQ l m=r at *
   have Ch:=wah C0 hh
   have p1:=wac hD1 hh
   have p2:=wac hD2 hh
   have s:-((M+1)*(C*(h*h)))<=(m+h)*r/\(m+h)*r<=(M+1)*(C*(h*h)):=by
    rcases (wam:0<=m+h\/m+h<=0) with z | z
    ·have r1:=wac q1 z
     have r2:=wac q2 z
     have r3:=wak (show m+h<=M+1 by grind) Ch
     constructor <;> grind
    ·have r1:=wac q1 (show 0<=-(m+h) by grind)
     have r2:=wac q2 (show 0<=-(m+h) by grind)
     have r3:=wak (show -(m+h)<=M+1 by grind) Ch
     constructor <;> grind
   constructor <;> grind
theorem qcl {p q:Rat} (p0:0<p) (q0:0<=q):∃ δ,0<δ/\δ<=1/\q*δ<p:=by
 have i:(p+q)*(p+q)⁻¹=1:=wbb _ (by grind)
 have j:0<(p+q)⁻¹:=Rat.inv_pos.mpr (by grind)
 generalize (p+q)⁻¹=t at *
 have pt:=wan p0 j
 have qt:=wah q0 (show 0<=t by grind)
 refine ⟨p*t,pt,by grind,?_⟩
 have e:q*(p*t)=p*(q*t):=by grind
 have l:q*t<1:=by grind
 have:=wan p0 (show 0<1 - q*t by grind)
 grind
theorem qpS {l:List Int} {m:Rat} (h:evQ l m≠0):∃ δ,0<δ/\∀ t,-δ<t->t<δ->0<evQ l (m+t)*evQ l m:=by
 obtain ⟨C,C0,hC⟩:=qg5 l m
 obtain ⟨D,D0,hD1,hD2⟩:∃ D,0<=D/\dQ l m<=D/\-dQ l m<=D:=by
  rcases (wam:0<=dQ l m\/dQ l m<=0) with z | z
  ·exact ⟨dQ l m,z,by grind,by grind⟩
  ·exact ⟨-dQ l m,by grind,by grind,by grind⟩
 obtain ⟨F,F0,hF⟩:∃ F,0<F/\(evQ l m=F\/evQ l m = -F):=by
  rcases rtri (evQ l m) 0 with c | c | c
  ·exact ⟨-evQ l m,by grind,.inr (by grind)⟩
  ·exact absurd c h
  ·exact ⟨evQ l m,c,.inl rfl⟩
 obtain ⟨δ,d0,d1,d2⟩:=qcl (q:=C+D) F0 (by grind)
 refine ⟨δ,d0,λt t1 t2=>?_⟩
 obtain ⟨q1,q2⟩:=hC t (by grind) (by grind)
 have tt:t*t<=δ:=by
  rcases (wam:0<=t\/t<=0) with z | z
  ·have a:=wac (show t<=1 by grind) z;grind
  ·have a:=wac (show -t<=1 by grind) (show 0<=-t by grind);grind
 have r1:=wac tt C0
 have r2:-(D*δ)<=t*dQ l m/\t*dQ l m<=D*δ:=by
  rcases (wam:0<=t\/t<=0) with z | z
  ·have a:=wac hD1 z
   have b:=wac hD2 z
   have c:=wak (show t<=δ by grind) D0
   constructor <;> grind
  ·have a:=wac hD1 (show 0<=-t by grind)
   have b:=wac hD2 (show 0<=-t by grind)
   have c:=wak (show -t<=δ by grind) D0
   constructor <;> grind
 rw [mul_pos_iff']
 rcases hF with e | e
 ·exact .inl ⟨by grind,by grind⟩
 ·exact .inr ⟨by grind,by grind⟩
theorem qkO {l:List Int} {m:Rat} (h:evQ l m≠0):Lft (evQ l) m (evQ l m)/\Rgt (evQ l) m (evQ l m):=by
 obtain ⟨δ,d0,g⟩:=qpS h
 constructor
 ·exact ⟨δ,d0,λx h1 h2=>by have:=g (x - m) (by grind) (by grind);rw [show m+(x - m)=x by grind] at this;exact this⟩
 ·exact ⟨δ,d0,λx h1 h2=>by have:=g (x - m) (by grind) (by grind);rw [show m+(x - m)=x by grind] at this;exact this⟩
theorem qqK {l:List Int} {m:Rat} (h:evQ l m=0) (d:dQ l m≠0):Lft (evQ l) m (-dQ l m)/\Rgt (evQ l) m (dQ l m):=by
 obtain ⟨C,C0,hC⟩:=qg5 l m
 obtain ⟨F,F0,hF⟩:∃ F,0<F/\(dQ l m=F\/dQ l m = -F):=by
  rcases rtri (dQ l m) 0 with c | c | c
  ·exact ⟨-dQ l m,by grind,.inr (by grind)⟩
  ·exact absurd c d
  ·exact ⟨dQ l m,c,.inl rfl⟩
 obtain ⟨δ,d0,d1,d2⟩:=qcl (q:=C) F0 C0
 have key:∀ t,0<t->t<δ->C*(t*t)<t*F:=λt t0 t1=>by
  have a:=wac (show t<=δ by grind) C0
  have:=wan t0 (show 0<F - C*t by grind)
  grind
 constructor
 ·refine ⟨δ,d0,λx h1 h2=>?_⟩
  obtain ⟨q1,q2⟩:=hC (x - m) (by grind) (by grind)
  have k:=key (m - x) (by grind) (by grind)
  rw [show m+(x - m)=x by grind,h] at q1 q2
  have e:(x - m)*(x - m)=(m - x)*(m - x):=by grind
  rw [e] at q1 q2
  rw [mul_pos_iff']
  rcases hF with f | f <;> rw [f] at q1 q2 ⊢
  ·exact .inr ⟨by grind,by grind⟩
  ·exact .inl ⟨by grind,by grind⟩
 ·refine ⟨δ,d0,λx h1 h2=>?_⟩
  obtain ⟨q1,q2⟩:=hC (x - m) (by grind) (by grind)
  have k:=key (x - m) (by grind) (by grind)
  rw [show m+(x - m)=x by grind,h] at q1 q2
  rw [mul_pos_iff']
  rcases hF with f | f <;> rw [f] at q1 q2 ⊢
  ·exact .inl ⟨by grind,by grind⟩
  ·exact .inr ⟨by grind,by grind⟩
noncomputable def Sf (l:List Int):Prop:=∀ x,evQ l x=0->dQ l x≠0
theorem Sf.nz {l:List Int} (h:Sf l) {a b:Rat} (ab:a<b):∃ x,a<x/\x<b/\evQ l x≠0:=by
 by_cases c:evQ l ((a+b) / 2)=0
 ·obtain ⟨_,δ,d0,g⟩:=qqK c (h _ c)
  obtain ⟨x,x1,x2,x3⟩:∃ x,(a+b) / 2<x/\x<b/\x<(a+b) / 2+δ:=by
   rcases (wam:b<=(a+b) / 2+δ\/(a+b) / 2+δ<=b) with z | z
   ·exact ⟨((a+b) / 2+b) / 2,by grind,by grind,by grind⟩
   ·exact ⟨(a+b) / 2+δ / 2,by grind,by grind,by grind⟩
  have:=g x x1 x3
  exact ⟨x,by grind,x2,λz=>by rw [z] at this;grind⟩
 ·exact ⟨_,by grind,by grind,c⟩
noncomputable def Nf (f:Rat->Rat) (a b:Rat):Nat:=open Classical in if h:∃ k,IsN f a b k then Classical.choose h else 0
theorem qhM {f:Rat->Rat} {a b:Rat} {k:Nat} (h:IsN f a b k):Nf f a b=k:=by
 unfold Nf
 rw [dif_pos ⟨k,h⟩]
 exact (Classical.choose_spec (⟨k,h⟩:∃ k,IsN f a b k)).uniq h
theorem Sf.isN {l:List Int} (h:Sf l) {a b:Rat} (ab:a<b):IsN (evQ l) a b (Nf (evQ l) a b):=by
 obtain ⟨x,x1,x2,x3⟩:=h.nz ab
 obtain ⟨k,hk⟩:=(evQ_pn' l).ex x1 x2 x3
 rw [qhM hk];exact hk
theorem Sf.node {l:List Int} (h:Sf l) {a m b:Rat} (am:a<m) (mb:m<b):Nf (evQ l) a b=Nf (evQ l) a m+Nf (evQ l) m b+(if evQ l m=0 then 1 else 0):=by
 have h1:=h.isN am
 have h2:=h.isN mb
 by_cases c:evQ l m=0
 ·rw [if_pos c]
  obtain ⟨gl,gr⟩:=qqK c (h m c)
  rw [qhM (h1.join0 am mb h2 c (h m c) gl gr)];omega
 ·rw [if_neg c]
  obtain ⟨gl,gr⟩:=qkO c
  rw [qhM (h1.join am mb h2 c gl gr)];omega
theorem Cn.aff {f:Rat->Rat} {u w M b:Rat} (w0:0<w) (M0:0<M):∀ {k:Nat} {x:Rat},Cn (λt=>M*f (u+w*t)) b k x↔Cn f (u+w*b) k (u+w*x):=by
 have lt:∀ p q:Rat,p<q↔u+w*p<u+w*q:=λp q=>by
  constructor
  ·intro h
   have:=wan w0 (show 0<q - p by grind);grind
  ·intro h
   refine wbq.mp λz=>?_
   have:=wac z (show 0<=w by grind);grind
 have MM:=wan M0 M0
 have sg:∀ p q:Rat,M*p*(M*q)<0↔p*q<0:=λp q=>by
  have e:M*p*(M*q)=(M*M)*(p*q):=by grind
  rw [e]
  constructor
  ·intro h
   rcases mul_neg_iff'.mp h with ⟨_,z⟩ | ⟨z,_⟩ <;> grind
  ·intro h
   exact mul_neg_iff'.mpr (.inl ⟨MM,h⟩)
 have wi:w*w⁻¹=1:=wbb _ (by grind)
 intro k
 induction k with
 | zero=>
   intro x
   show (x<b/\M*f (u+w*x)≠0)↔(u+w*x<u+w*b/\f (u+w*x)≠0)
   rw [lt x b]
   refine and_congr Iff.rfl ⟨λh z=>h (by rw [z];grind),λh z=>?_⟩
   rcases wa2.mp z with y | y
   ·grind
   ·exact h y
 | succ k ih=>
   intro x
   constructor
   ·rintro ⟨h1,y,h2,h3,h4⟩
    exact ⟨(lt x b).mp h1,u+w*y,(lt x y).mp h2,(sg _ _).mp h3,(ih).mp h4⟩
   ·rintro ⟨h1,z,h2,h3,h4⟩
    have e:u+w*((z - u)*w⁻¹)=z:=by
     have:w*((z - u)*w⁻¹)=(w*w⁻¹)*(z - u):=by grind
     rw [this,wi];grind
    rw [<-e] at h2 h3 h4
    exact ⟨(lt x b).mpr h1,(z - u)*w⁻¹,(lt _ _).mpr h2,(sg _ _).mpr h3,(ih).mpr h4⟩
theorem AltN.aff {f:Rat->Rat} {u w M a b:Rat} (w0:0<w) (M0:0<M) {k:Nat}:AltN (λt=>M*f (u+w*t)) a b k↔AltN f (u+w*a) (u+w*b) k:=by
 have wi:w*w⁻¹=1:=wbb _ (by grind)
 constructor
 ·rintro ⟨x,h1,h2⟩
  exact ⟨u+w*x,by have:=wan w0 (show 0<x - a by grind);grind,(Cn.aff w0 M0).mp h2⟩
 ·rintro ⟨z,h1,h2⟩
  have e:u+w*((z - u)*w⁻¹)=z:=by
   have:w*((z - u)*w⁻¹)=(w*w⁻¹)*(z - u):=by grind
   rw [this,wi];grind
  rw [<-e] at h1 h2
  refine ⟨(z - u)*w⁻¹,wbq.mp λy=>?_,(Cn.aff w0 M0).mpr h2⟩
  have:=wac y (show 0<=w by grind);grind
theorem IsN.aff {f:Rat->Rat} {u w M a b:Rat} (w0:0<w) (M0:0<M) {k:Nat}:IsN (λt=>M*f (u+w*t)) a b k↔IsN f (u+w*a) (u+w*b) k:=by
 unfold IsN
 rw [AltN.aff w0 M0,AltN.aff w0 M0]
theorem Nf.aff {f:Rat->Rat} {u w M a b:Rat} (w0:0<w) (M0:0<M):Nf (λt=>M*f (u+w*t)) a b=Nf f (u+w*a) (u+w*b):=by
 by_cases h:∃ k,IsN f (u+w*a) (u+w*b) k
 ·obtain ⟨k,hk⟩:=h
  rw [qhM hk,qhM ((IsN.aff w0 M0).mpr hk)]
 ·unfold Nf
  rw [dif_neg h,dif_neg λ⟨k,hk⟩=>h ⟨k,(IsN.aff w0 M0).mp hk⟩]
end Bs
namespace Bs
open PySem L2
noncomputable def sgc:List Int->Int->Nat
 | [],_=>0
 | z::l,b=>if z≠0 then (if b*z<0 then 1 else 0)+sgc l (if z > 0 then 1 else -1) else sgc l b
theorem qof:∀ (l:List Int) (b:Int),(b=1\/b = -1)->sgc l b=0->∀ z∈l,0<=b*z
 | [],_,_,_,z,hz=>nomatch hz
 | a::l,b,hb,h,z,hz=>by
   unfold sgc at h
   by_cases c:a≠0
   ·rw [if_pos c] at h
    have h1:¬ b*a<0:=λd=>by rw [if_pos d] at h;omega
    rw [if_neg h1] at h
    have e:(if a > 0 then (1:Int) else -1)=b:=by
     rcases hb with rfl | rfl
     ·rw [if_pos ⋯]
     ·rw [if_neg ⋯]
    rw [e] at h
    rcases wa0.mp hz with rfl | hz
    ·omega
    ·exact qof l b hb ⋯ z hz
   ·rw [if_neg c] at h
    rcases wa0.mp hz with rfl | hz
    ·have:z=0:=by omega
     rw [this];omega
    ·exact qof l b hb h z hz
theorem qlN:∀ (l:List Int),sgc l 0=0->(∀ z∈l,0<=z)\/(∀ z∈l,z<=0)
 | [],_=>.inl λz hz=>nomatch hz
 | a::l,h=>by
   unfold sgc at h
   by_cases c:a≠0
   ·rw [if_pos c] at h
    rcases Int.lt_trichotomy a 0 with y | y | y
    ·rw [if_neg (show ¬ a > 0 by omega)] at h
     have q:=qof l (-1) (.inr rfl) ⋯
     refine .inr λz hz=>?_
     rcases wa0.mp hz with rfl | hz
     ·omega
     ·have:=q z hz;omega
    ·exact absurd y c
    ·rw [if_pos y] at h
     have q:=qof l 1 (.inl rfl) ⋯
     refine .inl λz hz=>?_
     rcases wa0.mp hz with rfl | hz
     ·omega
     ·have:=q z hz;omega
   ·rw [if_neg c] at h
    have a0:a=0:=by omega
    rcases qlN l h with q | q
    ·exact .inl λz hz=>by rcases wa0.mp hz with rfl | hz;·omega
                          ·exact q z hz
    ·exact .inr λz hz=>by rcases wa0.mp hz with rfl | hz;·omega
                          ·exact q z hz
theorem qpT:∀ (l:List Int) (s:Int),(s=1\/s = -1)->sgc l (-s)=1->∃ A B,l=A++B/\(∀ a∈A,s*a<=0)/\(∀ b∈B,0<=s*b)/\∃ b∈B,0<s*b
 | [],_,_,h=>by unfold sgc at h;omega
 | a::l,s,hs,h=>by
   unfold sgc at h
   by_cases c:a≠0
   ·rw [if_pos c] at h
    by_cases d:-s*a<0
    ·rw [if_pos d] at h
     have e:(if a > 0 then (1:Int) else -1)=s:=by
      rcases hs with rfl | rfl
      ·rw [if_pos ⋯]
      ·rw [if_neg ⋯]
     rw [e] at h
     have q:=qof l s hs ⋯
     have sa:0<s*a:=by rw [wb7] at d;omega
     refine ⟨[],a::l,rfl,(λ_ h=>nomatch h),λb hb=>?_,a,waz ..,sa⟩
     rcases wa0.mp hb with rfl | hb
     ·omega
     ·exact q b hb
    ·rw [if_neg d] at h
     have e:(if a > 0 then (1:Int) else -1) = -s:=by
      rcases hs with rfl | rfl
      ·rw [if_neg ⋯]
      ·rw [if_pos ⋯];rfl
     rw [e] at h
     obtain ⟨A,B,h1,h2,h3,h4⟩:=qpT l s hs ⋯
     refine ⟨a::A,B,by rw [h1];rfl,λb hb=>?_,h3,h4⟩
     rcases wa0.mp hb with rfl | hb
     ·rw [wb7] at d;omega
     ·exact h2 b hb
   ·rw [if_neg c] at h
    obtain ⟨A,B,h1,h2,h3,h4⟩:=qpT l s hs h
    refine ⟨a::A,B,by rw [h1];rfl,λb hb=>?_,h3,h4⟩
    rcases wa0.mp hb with rfl | hb
    ·have:b=0:=by omega
     rw [this];omega
    ·exact h2 b hb
theorem qog:∀ (l:List Int),sgc l 0=1->∃ (s:Int) (A B:List Int),(s=1\/s = -1)/\l=A++B/\(∀ a∈A,s*a<=0)/\(∃ a∈A,s*a<0)/\(∀ b∈B,0<=s*b)/\∃ b∈B,0<s*b
 | [],h=>by unfold sgc at h;omega
 | a::l,h=>by
   unfold sgc at h
   by_cases c:a≠0
   ·rw [if_pos c] at h
    have z:¬ (0:Int)*a<0:=by omega
    rw [if_neg z] at h
    rcases Int.lt_trichotomy a 0 with y | y | y
    ·rw [if_neg (show ¬ a > 0 by omega)] at h
     obtain ⟨A,B,h1,h2,h3,h4⟩:=qpT l 1 (.inl rfl) (by show sgc l (-1)=1;omega)
     refine ⟨1,a::A,B,.inl rfl,by rw [h1];rfl,λb hb=>?_,⟨a,waz ..,⋯⟩,h3,h4⟩
     rcases wa0.mp hb with rfl | hb
     ·omega
     ·exact h2 b hb
    ·exact absurd y c
    ·rw [if_pos y] at h
     obtain ⟨A,B,h1,h2,h3,h4⟩:=qpT l (-1) (.inr rfl) (by show sgc l 1=1;omega)
     refine ⟨-1,a::A,B,.inr rfl,by rw [h1];rfl,λb hb=>?_,⟨a,waz ..,⋯⟩,h3,h4⟩
     rcases wa0.mp hb with rfl | hb
     ·omega
     ·exact h2 b hb
   ·rw [if_neg c] at h
    obtain ⟨s,A,B,h0,h1,h2,⟨x,x1,x2⟩,h3,h4⟩:=qog l h
    refine ⟨s,a::A,B,h0,by rw [h1];rfl,λb hb=>?_,⟨x,wa4 _ x1,x2⟩,h3,h4⟩
    rcases wa0.mp hb with rfl | hb
    ·have:b=0:=by omega
     rw [this];omega
    ·exact h2 b hb
theorem qkP:∀ (l:List Int) (b:Int),(b=1\/b = -1)->1<=sgc l b->∃ j,b*l.getD j 0<0
 | [],_,_,h=>by unfold sgc at h;omega
 | a::l,b,hb,h=>by
   unfold sgc at h
   by_cases c:a≠0
   ·rw [if_pos c] at h
    by_cases d:b*a<0
    ·exact ⟨0,d⟩
    ·rw [if_neg d] at h
     have e:(if a > 0 then (1:Int) else -1)=b:=by
      rcases hb with rfl | rfl
      ·rw [if_pos ⋯]
      ·rw [if_neg ⋯]
     rw [e] at h
     obtain ⟨j,hj⟩:=qkP l b hb ⋯
     exact ⟨j+1,hj⟩
   ·rw [if_neg c] at h
    obtain ⟨j,hj⟩:=qkP l b hb h
    exact ⟨j+1,hj⟩
theorem qiU:∀ (l:List Int) (b:Int),(b=1\/b = -1)->2<=sgc l b->∃ j k,j<k/\b*l.getD j 0<0/\0<b*l.getD k 0
 | [],_,_,h=>by unfold sgc at h;omega
 | a::l,b,hb,h=>by
   unfold sgc at h
   by_cases c:a≠0
   ·rw [if_pos c] at h
    by_cases d:b*a<0
    ·rw [if_pos d] at h
     have e:(if a > 0 then (1:Int) else -1) = -b:=by
      rcases hb with rfl | rfl
      ·rw [if_neg ⋯]
      ·rw [if_pos ⋯];rfl
     rw [e] at h
     obtain ⟨j,hj⟩:=qkP l (-b) ⋯ ⋯
     refine ⟨0,j+1,⋯,d,?_⟩
     show 0<b*l.getD j 0
     rw [wb7] at hj;omega
    ·rw [if_neg d] at h
     have e:(if a > 0 then (1:Int) else -1)=b:=by
      rcases hb with rfl | rfl
      ·rw [if_pos ⋯]
      ·rw [if_neg ⋯]
     rw [e] at h
     obtain ⟨j,k,h1,h2,h3⟩:=qiU l b hb ⋯
     exact ⟨j+1,k+1,⋯,h2,h3⟩
   ·rw [if_neg c] at h
    obtain ⟨j,k,h1,h2,h3⟩:=qiU l b hb h
    exact ⟨j+1,k+1,⋯,h2,h3⟩
theorem qkQ:∀ (l:List Int),2<=sgc l 0->∃ (s:Int) (i j k:Nat),(s=1\/s = -1)/\i<j/\j<k/\0<s*l.getD i 0/\s*l.getD j 0<0/\0<s*l.getD k 0
 | [],h=>by unfold sgc at h;omega
 | a::l,h=>by
   unfold sgc at h
   by_cases c:a≠0
   ·rw [if_pos c] at h
    have z:¬ (0:Int)*a<0:=by omega
    rw [if_neg z] at h
    rcases Int.lt_trichotomy a 0 with y | y | y
    ·rw [if_neg (show ¬ a > 0 by omega)] at h
     obtain ⟨j,k,h1,h2,h3⟩:=qiU l (-1) (.inr rfl) ⋯
     exact ⟨-1,0,j+1,k+1,.inr rfl,⋯,⋯,by show 0 < -1*a;omega,h2,h3⟩
    ·exact absurd y c
    ·rw [if_pos y] at h
     obtain ⟨j,k,h1,h2,h3⟩:=qiU l 1 (.inl rfl) ⋯
     exact ⟨1,0,j+1,k+1,.inl rfl,⋯,⋯,by show 0<1*a;omega,h2,h3⟩
   ·rw [if_neg c] at h
    obtain ⟨s,i,j,k,h0,h1,h2,h3,h4,h5⟩:=qkQ l h
    exact ⟨s,i+1,j+1,k+1,h0,⋯,⋯,h3,h4,h5⟩
theorem qeL:∀ (A B:List Int) (y:Rat),evQ (A++B) y=evQ A y+y ^ A.length*evQ B y
 | [],B,y=>by show evQ B y=0+y ^ 0*evQ B y;rw [wao];grind
 | a::A,B,y=>by
   show (a:Rat)+y*evQ (A++B) y=((a:Rat)+y*evQ A y)+y ^ (A.length+1)*evQ B y
   rw [qeL A B y,waj];grind
theorem qoh {x z:Rat} (xz:x*z=1):∀ l:List Int,x ^ l.length*evQ l.reverse z=x*evQ l x
 | []=>by show x ^ 0*0=x*0;grind
 | a::l=>by
   rw [List.reverse_cons,qeL,List.length_reverse]
   show x ^ (l.length+1)*(evQ l.reverse z+z ^ l.length*((a:Rat)+z*0))=x*((a:Rat)+x*evQ l x)
   have ih:=qoh xz l
   have p:x ^ l.length*z ^ l.length=1:=by
    have e:∀ n:Nat,x ^ n*z ^ n=1:=λn=>by
     induction n with
     | zero=>rw [wao,wao];grind
     | succ n ih=>rw [waj,waj];have:x ^ n*x*(z ^ n*z)=(x ^ n*z ^ n)*(x*z):=by grind
                  rw [this,ih,xz];grind
    exact e _
   rw [waj]
   have e1:x ^ l.length*x*(evQ l.reverse z+z ^ l.length*((a:Rat)+z*0))=x*(x ^ l.length*evQ l.reverse z)+(x ^ l.length*z ^ l.length)*x*(a:Rat):=by grind
   rw [e1,ih,p];grind
theorem qoi {a:Rat} (h:0<=a):∀ n:Nat,0<=a ^ n
 | 0=>by rw [wao];decide
 | n+1=>by rw [waj];exact wah (qoi h n) h
theorem qg6 {a:Rat} (h:0<a):∀ n:Nat,0<a ^ n
 | 0=>by rw [wao];decide
 | n+1=>by rw [waj];exact wan (qg6 h n) h
theorem qry {s z:Int} (h:0<=s*z):0<=(s:Rat)*(z:Rat):=by
 have:(0:Rat)<=((s*z:Int):Rat):=by exact_mod_cast h
 rw [wbw] at this;exact this
theorem qg7 {s:Int} {y:Rat} (y0:0<=y):∀ {l:List Int},(∀ z∈l,0<=s*z)->0<=(s:Rat)*evQ l y
 | [],_=>by show 0<=(s:Rat)*0;grind
 | a::l,h=>by
   have ih:=qg7 (s:=s) y0 (l:=l) λz hz=>h z (wa4 _ hz)
   have a0:=qry (h a (waz ..))
   have:=wah y0 ih
   show 0<=(s:Rat)*((a:Rat)+y*evQ l y)
   grind
theorem qiV {s:Int} {p q:Rat} (p0:0<=p) (pq:p<=q):∀ {l:List Int},(∀ z∈l,0<=s*z)->(s:Rat)*evQ l p<=(s:Rat)*evQ l q
 | [],_=>by show (s:Rat)*0<=(s:Rat)*0;grind
 | a::l,h=>by
   have hl:∀ z∈l,0<=s*z:=λz hz=>h z (wa4 _ hz)
   have ih:=qiV (s:=s) p0 pq hl
   have nn:=qg7 (s:=s) p0 hl
   have h1:=wac ih (show 0<=q by grind)
   have h2:=wak pq nn
   show (s:Rat)*((a:Rat)+p*evQ l p)<=(s:Rat)*((a:Rat)+q*evQ l q)
   grind
theorem qlO {s:Int} {p q:Rat} (p0:0<=p) (pq:p<=q):∀ {l:List Int},(∀ z∈l,s*z<=0)->q ^ l.length*((s:Rat)*evQ l p)<=p ^ l.length*((s:Rat)*evQ l q)
 | [],_=>by show q ^ 0*((s:Rat)*0)<=p ^ 0*((s:Rat)*0);grind
 | a::l,h=>by
   have ih:=qlO (s:=s) p0 pq (l:=l) λz hz=>h z (wa4 _ hz)
   have a0:0<=-((s:Rat)*(a:Rat)):=by
    have:=h a (waz ..)
    have:(0:Rat)<=((-(s*a):Int):Rat):=by exact_mod_cast (show 0<=-(s*a) by omega)
    rw [wcf,wbw] at this;exact this
   have q0:0<=q:=by grind
   have pw:∀ n:Nat,p ^ n<=q ^ n:=λn=>by
    induction n with
    | zero=>rw [wao,wao];grind
    | succ n ih=>
      rw [waj,waj]
      have h1:=wak ih p0
      have h2:=wac pq (qoi q0 n)
      grind
   have h1:=wak (pw (l.length+1)) a0
   have h2:=wac ih (wah p0 q0)
   show q ^ (l.length+1)*((s:Rat)*((a:Rat)+p*evQ l p))<=p ^ (l.length+1)*((s:Rat)*((a:Rat)+q*evQ l q))
   have e1:q ^ (l.length+1)*((s:Rat)*((a:Rat)+p*evQ l p)) = -(q ^ (l.length+1) * -((s:Rat)*(a:Rat)))+p*q*(q ^ l.length*((s:Rat)*evQ l p)):=by rw [waj];grind
   have e2:p ^ (l.length+1)*((s:Rat)*((a:Rat)+q*evQ l q)) = -(p ^ (l.length+1) * -((s:Rat)*(a:Rat)))+p*q*(p ^ l.length*((s:Rat)*evQ l q)):=by rw [waj];grind
   rw [e1,e2];grind
theorem stays {s:Int} {A B:List Int} (hA:∀ a∈A,s*a<=0) (hB:∀ b∈B,0<=s*b) {p q:Rat} (p0:0<p) (pq:p<=q) (h:0<(s:Rat)*evQ (A++B) p):0<(s:Rat)*evQ (A++B) q:=by
 have h1:=qlO (s:=s) (show 0<=p by grind) pq hA
 have h2:=qiV (s:=s) (show 0<=p by grind) pq hB
 have pp:=qg6 p0 A.length
 have qp:=qg6 (show 0<q by grind) A.length
 rw [qeL] at h ⊢
 have h3:=wac h2 (show 0<=p ^ A.length*q ^ A.length from wah (by grind) (by grind))
 have h4:=wan qp h
 generalize p ^ A.length=P at *
 generalize q ^ A.length=R at *
 refine wbq.mp λz=>?_
 have h5:=wac z (show 0<=P by grind)
 grind
end Bs
namespace Bs
open PySem L2
theorem qoj {Q T:List Int} (hT:∀ y,evQ T y=evQ Q.reverse (y+1)) {x y:Rat} (x0:0<x) (xy:x*(y+1)=1):∃ c,0<c/\evQ Q x=c*evQ T y:=by
 have h:=qoh xy Q
 rw [<-hT] at h
 have xi:x*x⁻¹=1:=wbb _ (by grind)
 have xp:=qg6 x0 Q.length
 refine ⟨x ^ Q.length*x⁻¹,wan xp (Rat.inv_pos.mpr x0),?_⟩
 have e:x ^ Q.length*x⁻¹*evQ T y=(x ^ Q.length*evQ T y)*x⁻¹:=by grind
 rw [e,h]
 have e2:x*evQ Q x*x⁻¹=(x*x⁻¹)*evQ Q x:=by grind
 rw [e2,xi];grind
theorem qtJ {x:Rat} (x0:0<x) (x1:x<1):∃ y,0<y/\x*(y+1)=1:=by
 have xi:x*x⁻¹=1:=wbb _ (by grind)
 have p:0<x⁻¹:=Rat.inv_pos.mpr x0
 refine ⟨x⁻¹ - 1,?_,by grind⟩
 refine wbq.mp λz=>?_
 have:=wac (show x⁻¹<=1 by grind) (show 0<=x by grind)
 grind
theorem quw {y:Rat} (y0:0<y):∃ x,0<x/\x<1/\x*(y+1)=1:=by
 have yi:(y+1)*(y+1)⁻¹=1:=wbb _ (by grind)
 have p:0<(y+1)⁻¹:=Rat.inv_pos.mpr (by grind)
 have:=wan p y0
 exact ⟨(y+1)⁻¹,p,by grind,by grind⟩
theorem qok {x x' y y':Rat} (x0:0<x) (h:x*(y+1)=1) (h':x'*(y'+1)=1) (l:x<x'):y'<y:=by
 refine wbq.mp λz=>?_
 have yp:0<y+1:=by
  refine wbq.mp λw=>?_
  have:=wac w (show 0<=x by grind);grind
 have h1:=wan (show 0<x' - x by grind) yp
 have h2:=wac (show y+1<=y'+1 by grind) (show 0<=x' by grind)
 grind
theorem qlP {d v:Rat} (d0:0<d):(0<d*v↔0<v)/\(d*v<0↔v<0):=by
 rw [mul_pos_iff',mul_neg_iff']
 constructor <;> grind
theorem qkR {s:Int}:∀ {A:List Int},(∀ a∈A,s*a<=0)->(∃ a∈A,s*a<0)->∃ (i:Nat) (c:Rat),i<A.length/\0<c/\∀ y,0<=y->(s:Rat)*evQ A y<=-(c*y ^ i)
 | [],_,⟨a,ha,_⟩=>nomatch ha
 | a::A,h,hex=>by
   have hA:∀ z∈A,s*z<=0:=λz hz=>h z (wa4 _ hz)
   have neg:∀ y,0<=y->(s:Rat)*evQ A y<=0:=λy y0=>by
    have:=qg7 (s:=-s) y0 (l:=A) λz hz=>by rw [wb7];have:=hA z hz;omega
    rw [wcf] at this;grind
   by_cases c:s*a<0
   ·refine ⟨0,-((s:Rat)*(a:Rat)),Nat.succ_pos _,?_,λy y0=>?_⟩
    ·have:(0:Rat)<((-(s*a):Int):Rat):=by exact_mod_cast (show 0 < -(s*a) by omega)
     rw [wcf,wbw] at this;exact this
    ·have:=wah y0 (show 0<=-((s:Rat)*evQ A y) by have:=neg y y0;grind)
     show (s:Rat)*((a:Rat)+y*evQ A y)<=_
     rw [wao];grind
   ·obtain ⟨x,hx,hx2⟩:=hex
    have xA:x∈A:=by
     rcases wa0.mp hx with rfl | hx
     ·exact absurd hx2 c
     ·exact hx
    obtain ⟨i,d,il,d0,hd⟩:=qkR hA ⟨x,xA,hx2⟩
    refine ⟨i+1,d,Nat.succ_lt_succ il,d0,λy y0=>?_⟩
    have a0:(s:Rat)*(a:Rat)<=0:=by
     have:((s*a:Int):Rat)<=((0:Int):Rat):=by exact_mod_cast h a (waz ..)
     rw [wbw] at this;exact this
    have:=wac (hd y y0) y0
    show (s:Rat)*((a:Rat)+y*evQ A y)<=_
    rw [waj];grind
theorem qjO {s:Int} {y:Rat} (y1:1<=y):∀ {n:Nat} {A:List Int},A.length=n+1->(∀ a∈A,s*a<=0)->y ^ n*((s:Rat)*evQ A 1)<=(s:Rat)*evQ A y
 | n,[],h,_=>by cases h
 | 0,[a],_,_=>by
   show y ^ 0*((s:Rat)*((a:Rat)+1*0))<=(s:Rat)*((a:Rat)+y*0)
   rw [wao];grind
 | 0,a::b::A,h,_=>by simp at h
 | n+1,a::A,h,hA=>by
   have ih:=qjO (s:=s) y1 (n:=n) (A:=A) (by simpa using h) λz hz=>hA z (wa4 _ hz)
   have a0:0<=-((s:Rat)*(a:Rat)):=by
    have:=hA a (waz ..)
    have:(0:Rat)<=((-(s*a):Int):Rat):=by exact_mod_cast (show 0<=-(s*a) by omega)
    rw [wcf,wbw] at this;exact this
   have p1:∀ n:Nat,1<=y ^ n:=λn=>by
    induction n with
    | zero=>rw [wao];grind
    | succ n ih=>rw [waj];have:=wac y1 (show 0<=y ^ n by grind);grind
   have h1:=wak (p1 (n+1)) a0
   have h2:=wac ih (show 0<=y by grind)
   show y ^ (n+1)*((s:Rat)*((a:Rat)+1*evQ A 1))<=(s:Rat)*((a:Rat)+y*evQ A y)
   have e:y ^ (n+1)*((s:Rat)*((a:Rat)+1*evQ A 1)) = -(y ^ (n+1) * -((s:Rat)*(a:Rat)))+y*(y ^ n*((s:Rat)*evQ A 1)):=by rw [waj];grind
   rw [e];grind
theorem qt2 {Q T:List Int} (hT:∀ y,evQ T y=evQ Q.reverse (y+1)) (h:sgc T 0=1):IsN (evQ Q) 0 1 1:=by
 obtain ⟨s,A,B,s1,rfl,hA,eA,hB,eB⟩:=qog T h
 have sr:(s:Rat)=1\/(s:Rat) = -1:=by rcases s1 with rfl | rfl;·exact .inl rfl
                                     ·exact .inr rfl
 obtain ⟨i,c,il,c0,hc⟩:=qkR hA eA
 obtain ⟨i2,c2,il2,c20,hc2⟩:=qkR (s:=-s) (A:=B) (λb hb=>by rw [wb7];have:=hB b hb;omega) (by obtain ⟨b,h1,h2⟩:=eB;exact ⟨b,h1,by rw [wb7];omega⟩)
 have small:∃ y,0<y/\(s:Rat)*evQ (A++B) y<0:=by
  have K0:=qg7 (s:=s) (show (0:Rat)<=1 by decide) hB
  obtain ⟨δ,d0,d1,d2⟩:=qcl c0 K0
  refine ⟨δ,d0,?_⟩
  have h1:=hc δ (by grind)
  have h2:=qiV (s:=s) (show 0<=δ by grind) d1 hB
  have pi:=qg6 d0 i
  have le:δ ^ A.length<=δ ^ i*δ:=by
   have:∀ n:Nat,δ ^ (i+1+n)<=δ ^ (i+1):=λn=>by
    induction n with
    | zero=>exact Rat.le_refl
    | succ n ih=>
      rw [show i+1+(n+1)=(i+1+n)+1 by omega,waj]
      have:=wac d1 (qoi (show 0<=δ by grind) (i+1+n));grind
   have:=this (A.length - (i+1))
   rw [show i+1+(A.length - (i+1))=A.length by omega,waj] at this
   exact this
  rw [qeL]
  have nn:=qg7 (s:=s) (show 0<=δ by grind) hB
  have h3:=wak le nn
  have h4:=wac h2 (show 0<=δ ^ i*δ from wah (by grind) (by grind))
  have h5:=wan pi (show 0<c - (s:Rat)*evQ B 1*δ by grind)
  generalize δ ^ i=D at *
  generalize δ ^ A.length=E at *
  grind
 have large:∃ y,0<y/\0<(s:Rat)*evQ (A++B) y:=by
  obtain ⟨n,hn⟩:∃ n,A.length=n+1:=⟨A.length - 1,⋯⟩
  have KA:0<=-((s:Rat)*evQ A 1):=by
   have:=qg7 (s:=-s) (show (0:Rat)<=1 by decide) (l:=A) λz hz=>by rw [wb7];have:=hA z hz;omega
   rw [wcf] at this;grind
  obtain ⟨δ,d0,d1,d2⟩:=qcl c20 KA
  have di:δ*δ⁻¹=1:=wbb _ (by grind)
  have dp:0<δ⁻¹:=Rat.inv_pos.mpr d0
  generalize δ⁻¹=y at *
  have y1:1<=y:=by
   have:=wak d1 (show 0<=y by grind);grind
  refine ⟨y,dp,?_⟩
  have h1:=qjO (s:=s) y1 hn hA
  have h2:=hc2 y (by grind)
  rw [wcf] at h2
  have p1:∀ n:Nat,1<=y ^ n:=λn=>by
   induction n with
   | zero=>rw [wao];grind
   | succ n ih=>rw [waj];have:=wac y1 (show 0<=y ^ n by grind);grind
  have h3:c2<=(s:Rat)*evQ B y:=by
   have:=wac (p1 i2) (show 0<=c2 by grind)
   grind
  have yn:=p1 n
  rw [qeL,hn,waj]
  have h4:=wac h3 (show 0<=y ^ n*y from wah (by grind) (by grind))
  have h5:0<c2*y+(s:Rat)*evQ A 1:=by
   have:=wan (show 0<c2 - -((s:Rat)*evQ A 1)*δ by grind) dp
   have e:(c2 - -((s:Rat)*evQ A 1)*δ)*y=c2*y+(s:Rat)*evQ A 1*(δ*y):=by grind
   rw [e,di] at this;grind
  have h6:=wan (show 0<y ^ n by grind) h5
  generalize y ^ n=D at *
  grind
 have sg:∀ x y,0<x->x*(y+1)=1->(0<(s:Rat)*evQ Q x↔0<(s:Rat)*evQ (A++B) y)/\((s:Rat)*evQ Q x<0↔(s:Rat)*evQ (A++B) y<0):=λx y x0 xy=>by
  obtain ⟨d,d0,e⟩:=qoj hT x0 xy
  have e2:(s:Rat)*evQ Q x=d*((s:Rat)*evQ (A++B) y):=by rw [e];grind
  rw [e2]
  exact qlP d0
 have alt:∀ {u v:Rat},u*v<0↔(0<(s:Rat)*u/\(s:Rat)*v<0)\/((s:Rat)*u<0/\0<(s:Rat)*v):=λ{u v}=>by
  rw [mul_neg_iff']
  rcases sr with e | e <;> rw [e] <;> grind
 constructor
 ·obtain ⟨p,p0,hp⟩:=small
  obtain ⟨q,q0,hq⟩:=large
  have pq:p<q:=wbq.mp λz=>by
   have:=stays hA hB q0 z hq;grind
  obtain ⟨xq,a1,a2,a3⟩:=quw q0
  obtain ⟨xp,b1,b2,b3⟩:=quw p0
  have lt:xq<xp:=wbq.mp λz=>by
   rcases Rat.le_iff_lt_or_eq.mp z with w | w
   ·have:=qok b1 b3 a3 w;grind
   ·rw [w] at b3
    have:xq*(p - q)=0:=by grind
    rcases wa2.mp this with y | y <;> grind
  have s1':=(sg xq q a1 a3).1.mpr hq
  have s2':=(sg xp p b1 b3).2.mpr hp
  exact ⟨xq,a1,a2,xp,lt,alt.mpr (.inl ⟨s1',s2'⟩),b2,λz=>by rw [z] at s2';grind⟩
 ·rintro ⟨u,u0,u1,v,uv,h3,v1,w,vw,h4,w1,_⟩
  obtain ⟨yu,yu0,eu⟩:=qtJ u0 u1
  obtain ⟨yv,yv0,ev⟩:=qtJ (show 0<v by grind) v1
  obtain ⟨yw,yw0,ew⟩:=qtJ (show 0<w by grind) w1
  have d1:=qok u0 eu ev uv
  have d2:=qok (show 0<v by grind) ev ew vw
  have su:=sg u yu u0 eu
  have sv:=sg v yv (by grind) ev
  have sw:=sg w yw (by grind) ew
  rcases alt.mp h3 with ⟨a,b⟩ | ⟨a,b⟩ <;> rcases alt.mp h4 with ⟨c',d⟩ | ⟨c',d⟩
  ·grind
  ·have:=stays hA hB yw0 (show yw<=yv by grind) (sw.1.mp d)
   have:=sv.2.mp b
   grind
  ·have:=stays hA hB yv0 (show yv<=yu by grind) (sv.1.mp b)
   have:=su.2.mp a
   grind
  ·grind
end Bs
namespace Bs
open PySem L2
noncomputable def evS (g:Nat->Rat):Nat->Rat->Rat
 | 0,_=>0
 | n+1,y=>evS g n y+g n*y ^ n
theorem qkS (g h:Nat->Rat) (y:Rat):∀ n:Nat,evS (λk=>g k+h k) n y=evS g n y+evS h n y
 | 0=>by show (0:Rat)=0+0;grind
 | n+1=>by show evS (λk=>g k+h k) n y+(g n+h n)*y ^ n=_;rw [qkS g h y n];show _=(evS g n y+g n*y ^ n)+(evS h n y+h n*y ^ n);grind
theorem qg8 (c:Rat) (g:Nat->Rat) (y:Rat):∀ n:Nat,evS (λk=>c*g k) n y=c*evS g n y
 | 0=>by show (0:Rat)=c*0;grind
 | n+1=>by show evS (λk=>c*g k) n y+c*g n*y ^ n=_;rw [qg8 c g y n];show _=c*(evS g n y+g n*y ^ n);grind
theorem qdV {g h:Nat->Rat} {y:Rat}:∀ {n:Nat},(∀ k,k<n->g k=h k)->evS g n y=evS h n y
 | 0,_=>rfl
 | n+1,e=>by show evS g n y+g n*y ^ n=evS h n y+h n*y ^ n;rw [qdV λk hk=>e k ⋯,e n ⋯]
theorem qdr (g:Nat->Rat) (y:Rat):∀ n:Nat,evS g (n+1) y=g 0+y*evS (λk=>g (k+1)) n y
 | 0=>by show (0:Rat)+g 0*y ^ 0=g 0+y*0;rw [wao];grind
 | n+1=>by
   show evS g (n+1) y+g (n+1)*y ^ (n+1)=g 0+y*(evS (λk=>g (k+1)) n y+g (n+1)*y ^ n)
   rw [qdr g y n,waj];grind
theorem qfM (y:Rat):∀ l:List Int,evQ l y=evS (λk=>((l.getD k 0:Int):Rat)) l.length y
 | []=>rfl
 | a::l=>by
   rw [wbi,qdr]
   show (a:Rat)+y*evQ l y=(a:Rat)+y*evS (λk=>((l.getD k 0:Int):Rat)) l.length y
   rw [qfM y l]
theorem qiW (g:Nat->Rat):∀ n:Nat,∃ L,0<=L/\∀ y,0<=y->y<=1->-(L*y)<=evS g n y - evS g n 0/\evS g n y - evS g n 0<=L*y
 | 0=>⟨0,by grind,λy _ _=>by show -(0*y)<=(0:Rat) - 0/\(0:Rat) - 0<=0*y;constructor <;> grind⟩
 | n+1=>by
   obtain ⟨L,L0,hL⟩:=qiW g n
   obtain ⟨A,A0,a1,a2⟩:∃ A,0<=A/\g n<=A/\-g n<=A:=by
    rcases (wam:0<=g n\/g n<=0) with z | z
    ·exact ⟨g n,z,by grind,by grind⟩
    ·exact ⟨-g n,by grind,by grind,by grind⟩
   refine ⟨L+A,by grind,λy y0 y1=>?_⟩
   obtain ⟨q1,q2⟩:=hL y y0 y1
   show -((L+A)*y)<=(evS g n y+g n*y ^ n) - (evS g n 0+g n*0 ^ n)/\(evS g n y+g n*y ^ n) - (evS g n 0+g n*0 ^ n)<=(L+A)*y
   cases n with
   | zero=>
     rw [wao,wao]
     have:=wah A0 y0
     constructor <;> grind
   | succ n=>
     have z:(0:Rat) ^ (n+1)=0:=by rw [waj];grind
     rw [z]
     have p:y ^ (n+1)<=y:=by
      rw [waj]
      have:y ^ n<=1:=by
       clear z hL q1 q2
       induction n with
       | zero=>rw [wao];grind
       | succ n ih=>rw [waj];have h1:=wak (show y ^ n<=1 from by
                            have:∀ m:Nat,y ^ m<=1:=λm=>by
                             induction m with
                             | zero=>rw [wao];grind
                             | succ m im=>rw [waj];have:=wak im y0;grind
                            exact this n) y0;grind
      have:=wak this y0;grind
     have pn:=qoi y0 (n+1)
     have b1:=wak a1 pn
     have b2:=wak a2 pn
     have b3:=wac p A0
     constructor <;> grind
theorem qiX:∀ {n:Nat} {g h:Nat->Rat},(∀ y,0<y->y<=1->evS g n y=evS h n y)->∀ k,k<n->g k=h k
 | 0,g,h,_,k,hk=>by omega
 | n+1,g,h,e,k,hk=>by
   have e0:g 0=h 0:=by
    obtain ⟨L,L0,hL⟩:=qiW g (n+1)
    obtain ⟨K,K0,hK⟩:=qiW h (n+1)
    have z:∀ f:Nat->Rat,evS f (n+1) 0=f 0:=λf=>by rw [qdr];grind
    rw [z] at hL hK
    have key:∀ D,0<D->D<=g 0 - h 0\/D<=h 0 - g 0->False:=λD D0 hD=>by
     obtain ⟨δ,d0,d1,d2⟩:=qcl (q:=L+K) D0 (by grind)
     have:=e δ d0 d1
     have q:=hL δ (by grind) d1
     have r:=hK δ (by grind) d1
     rw [this] at q
     grind
    rcases rtri (g 0) (h 0) with c | c | c
    ·exact absurd (key (h 0 - g 0) (by grind) (.inr (by grind))) (by simp)
    ·exact c
    ·exact absurd (key (g 0 - h 0) (by grind) (.inl (by grind))) (by simp)
   cases k with
   | zero=>exact e0
   | succ k=>
     refine qiX (n:=n) (g:=λk=>g (k+1)) (h:=λk=>h (k+1)) (λy y0 y1=>?_) k ⋯
     have:=e y y0 y1
     rw [qdr,qdr,e0] at this
     have:y*(evS (λk=>g (k+1)) n y - evS (λk=>h (k+1)) n y)=0:=by grind
     rcases wa2.mp this with c | c <;> grind
noncomputable def bn:Nat->Nat->Nat
 | _,0=>1
 | 0,_+1=>0
 | n+1,k+1=>bn n k+bn n (k+1)
theorem qeM (n:Nat):bn n 0=1:=by cases n <;> rfl
theorem qid:∀ {n k:Nat},n<k->bn n k=0
 | 0,k+1,_=>rfl
 | n+1,k+1,h=>by show bn n k+bn n (k+1)=0;rw [qid (show n<k by omega),qid (show n<k+1 by omega)]
theorem qqL:∀ {n k:Nat},k<=n->0<bn n k
 | n,0,_=>by rw [qeM];omega
 | n+1,k+1,h=>by show 0<bn n k+bn n (k+1);have:=qqL (show k<=n by omega);omega
theorem qt3 (n k:Nat):bn n k<=bn (n+1) k:=by
 cases k with
 | zero=>rw [qeM,qeM];omega
 | succ k=>show _<=bn n k+bn n (k+1);omega
theorem qs5 {m n:Nat} (h:m<=n) (k:Nat):bn m k<=bn n k:=by
 induction n with
 | zero=>rw [show m=0 by omega];exact wad _
 | succ n ih=>
   rcases wap m (n+1) with c | c
   ·exact wa3 (ih ⋯) (qt3 n k)
   ·rw [show m=n+1 by omega];exact wad _
theorem qrz:∀ n k:Nat,(n+1)*bn n k+k*bn (n+1) k=(n+1)*bn (n+1) k
 | n,0=>by rw [qeM,qeM];omega
 | 0,1=>rfl
 | 0,k+2=>by rw [qid (show 0<k+2 by omega),qid (show 0+1<k+2 by omega)];omega
 | n+1,k+1=>by
   have i1:=qrz n k
   have i2:=qrz n (k+1)
   have e1:bn (n+1) (k+1)=bn n k+bn n (k+1):=rfl
   have e2:bn (n+1+1) (k+1)=bn (n+1) k+bn (n+1) (k+1):=rfl
   rw [e2]
   generalize bn (n+1) k=a at *
   generalize hb:bn (n+1) (k+1)=b at *
   generalize bn n k=c at *
   generalize bn n (k+1)=d at *
   have:(n+1)*b=(n+1)*c+(n+1)*d:=by rw [e1,Nat.mul_add]
   grind
theorem binom (y:Rat):∀ n:Nat,evS (λk=>((bn n k:Nat):Rat)) (n+1) y=(1+y) ^ n
 | 0=>by show (0:Rat)+((bn 0 0:Nat):Rat)*y ^ 0=(1+y) ^ 0;rw [wao,wao];show (0:Rat)+((1:Nat):Rat)*1=1;grind
 | n+1=>by
   have st:∀ m:Nat,evS (λk=>((bn (n+1) k:Nat):Rat)) (m+1) y=evS (λk=>((bn n k:Nat):Rat)) (m+1) y+y*evS (λk=>((bn n k:Nat):Rat)) m y:=λm=>by
    induction m with
    | zero=>show (0:Rat)+((bn (n+1) 0:Nat):Rat)*y ^ 0=(0+((bn n 0:Nat):Rat)*y ^ 0)+y*0;rw [qeM,qeM];grind
    | succ m ih=>
      show evS (λk=>((bn (n+1) k:Nat):Rat)) (m+1) y+((bn n m+bn n (m+1):Nat):Rat)*y ^ (m+1)=(evS (λk=>((bn n k:Nat):Rat)) (m+1) y+((bn n (m+1):Nat):Rat)*y ^ (m+1))+y*(evS (λk=>((bn n k:Nat):Rat)) m y+((bn n m:Nat):Rat)*y ^ m)
      rw [ih,waj];push_cast;grind
   rw [st (n+1),binom y n]
   show (evS (λk=>((bn n k:Nat):Rat)) (n+1) y+((bn n (n+1):Nat):Rat)*y ^ (n+1))+_=_
   rw [binom y n,qid (show n<n+1 by omega),waj]
   have:((0:Nat):Rat)=0:=rfl
   rw [this];grind
noncomputable def cg:List Int->Nat->Int
 | [],_=>0
 | p::l,k=>p*(bn l.length k:Nat)+cg l k
theorem qlQ:∀ {l:List Int} {k:Nat},l.length<=k->cg l k=0
 | [],_,_=>rfl
 | p::l,k,h=>by
   have h:l.length+1<=k:=h
   show p*(bn l.length k:Nat)+cg l k=0
   rw [qid ⋯,qlQ ⋯];omega
theorem qs6 (y:Rat):∀ l:List Int,evS (λk=>((cg l k:Int):Rat)) l.length y=evQ l.reverse (y+1)
 | []=>rfl
 | p::l=>by
   rw [List.reverse_cons,qeL,List.length_reverse]
   show evS (λk=>((p*(bn l.length k:Nat)+cg l k:Int):Rat)) (l.length+1) y=evQ l.reverse (y+1)+(y+1) ^ l.length*((p:Rat)+(y+1)*0)
   have e:evS (λk=>((p*(bn l.length k:Nat)+cg l k:Int):Rat)) (l.length+1) y=evS (λk=>(p:Rat)*((bn l.length k:Nat):Rat)+((cg l k:Int):Rat)) (l.length+1) y:=qdV λk _=>by rw [Rat.intCast_add,wbw];rfl
   rw [e,qkS,qg8,binom]
   have e2:evS (λk=>((cg l k:Int):Rat)) (l.length+1) y=evS (λk=>((cg l k:Int):Rat)) l.length y:=by
    show evS (λk=>((cg l k:Int):Rat)) l.length y+((cg l l.length:Int):Rat)*y ^ l.length=_
    rw [qlQ (wad _)]
    have:((0:Int):Rat)=0:=rfl
    rw [this];grind
   rw [e2,qs6 y l,Rat.add_comm 1 y];grind
theorem qt4 {Q T:List Int} (hl:T.length=Q.length) (hT:∀ y,evQ T y=evQ Q.reverse (y+1)) (k:Nat):T.getD k 0=cg Q k:=by
 rcases wap k Q.length with c | c
 ·have:=qiX (n:=Q.length) (g:=λk=>((T.getD k 0:Int):Rat)) (h:=λk=>((cg Q k:Int):Rat)) (λy _ _=>by rw [qs6,<-hT,qfM,hl]) k c
  exact_mod_cast this
 ·rw [qlQ c,wab,wat ⋯];rfl
noncomputable def sz1:List Int->Nat
 | []=>0
 | a::l=>a.natAbs+sz1 l
theorem qs7 {n:Nat}:∀ {l:List Int} (k:Nat),l.length<=n+1->(cg l k).natAbs<=sz1 l*bn n k
 | [],k,_=>by show 0<=_;omega
 | p::l,k,h=>by
   have h:l.length+1<=n+1:=h
   have ih:=qs7 (n:=n) (l:=l) k ⋯
   have b:=qs5 (show l.length<=n by omega) k
   show (p*(bn l.length k:Nat)+cg l k).natAbs<=(p.natAbs+sz1 l)*bn n k
   have h1:=Int.natAbs_add_le (p*(bn l.length k:Nat)) (cg l k)
   have h2:(p*(bn l.length k:Nat)).natAbs<=p.natAbs*bn n k:=by
    rw [way,wbj];exact wa6 _ b
   rw [wb5];omega
theorem qol {p0 p1:Int} {l T:List Int} (hl:T.length=l.length+2) (hT:∀ y,evQ T y=evQ (p0::p1::l).reverse (y+1)) (h:2<=sgc T 0):p1.natAbs<=2*(l.length+1)*sz1 l/\p0.natAbs<=p1.natAbs+sz1 l:=by
 obtain ⟨s,i,j,k,s1,ij,jk,hi,hj,hk⟩:=qkQ T h
 have co:=λk=>qt4 (Q:=p0::p1::l) (by rw [hl];rfl) hT k
 rw [co] at hi hj hk
 have kn:k<=l.length+1:=wbu.mp λz=>by
  have:cg (p0::p1::l) k=0:=qlQ (by show l.length+1+1<=k;omega)
  rw [this] at hk;omega
 have e:∀ m,cg (p0::p1::l) m=p0*(bn (l.length+1) m:Nat)+(p1*(bn l.length m:Nat)+cg l m):=λm=>rfl
 have bd:∀ m,(cg l m).natAbs<=sz1 l*bn (l.length+1) m:=λm=>qs7 m ⋯
 have pos:∀ m,m<=l.length+1->0<bn (l.length+1) m:=λm hm=>qqL hm
 have le:=λm=>qs5 (show l.length<=l.length+1 by omega) m
 have id:=λm=>qrz l.length m
 generalize l.length=n at *
 generalize sz1 l=S at *
 rw [e] at hi hj hk
 constructor
 ·refine wbu.mp λz=>?_
  have key:∀ m,m<=n+1->∃ B r:Int,0<B/\(n+1)*cg (p0::p1::l) m=B*((n+1)*p0+(n+1 - m)*p1)+(n+1)*r/\-(S*B)<=r/\r<=S*B:=λm hm=>by
   refine ⟨(bn (n+1) m:Nat),cg l m,by have:=pos m hm;omega,?_,?_,?_⟩
   ·rw [e]
    have i:=id m
    have i:((n:Int)+1)*(bn n m:Nat)+(m:Int)*(bn (n+1) m:Nat)=((n:Int)+1)*(bn (n+1) m:Nat):=by exact_mod_cast i
    have i2:((n:Int)+1)*(bn n m:Nat)=((n:Int)+1 - m)*(bn (n+1) m:Nat):=by grind
    grind
   ·have:=bd m
    have:((cg l m).natAbs:Int)<=(S:Int)*(bn (n+1) m:Nat):=by exact_mod_cast this
    omega
   ·have:=bd m
    have:((cg l m).natAbs:Int)<=(S:Int)*(bn (n+1) m:Nat):=by exact_mod_cast this
    omega
  obtain ⟨Bi,ri,Bi0,ei,ri1,ri2⟩:=key i ⋯
  obtain ⟨Bj,rj,Bj0,ej,rj1,rj2⟩:=key j ⋯
  obtain ⟨Bk,rk,Bk0,ek,rk1,rk2⟩:=key k ⋯
  rw [<-e] at hi hj hk
  have N0:(0:Int)<(n:Int)+1:=by omega
  have up:∀ {B c b r:Int},0<B->((n:Int)+1)*c=B*b+((n:Int)+1)*r->-(S*B)<=r->r<=S*B->(0<s*c->-(((n:Int)+1)*S)<s*b)/\(s*c<0->s*b<((n:Int)+1)*S):=λ{B c b r} B0 e1 r1 r2=>by
   have q1:=wcj r1 (show 0<=(n:Int)+1 by omega)
   have q2:=wcj r2 (show 0<=(n:Int)+1 by omega)
   constructor
   ·intro hc
    refine Int.not_le.mp λz=>?_
    have h1:=wcj z (show 0<=B by omega)
    have h2:=Int.mul_pos N0 hc
    rcases s1 with rfl | rfl <;> grind
   ·intro hc
    refine Int.not_le.mp λz=>?_
    have h1:=wcj z (show 0<=B by omega)
    have h2:=Int.mul_neg_of_pos_of_neg N0 hc
    rcases s1 with rfl | rfl <;> grind
  have ui:=(up Bi0 ei ri1 ri2).1 hi
  have uj:=(up Bj0 ej rj1 rj2).2 hj
  have uk:=(up Bk0 ek rk1 rk2).1 hk
  have zz:2*(((n:Int)+1)*S)<(p1.natAbs:Int):=by
   have:((2*(n+1)*S:Nat):Int)<(p1.natAbs:Int):=by exact_mod_cast z
   push_cast at this
   grind
  generalize ((n:Int)+1)*(S:Int)=NS at *
  by_cases w:0<s*p1
  ·have a1:(p1.natAbs:Int)=s*p1:=by rcases s1 with rfl | rfl <;> omega
   have h1:s*p1<=((k:Int) - j)*(s*p1):=by
    have:=wcu (show (1:Int)<=(k:Int) - j by omega) (show 0<=s*p1 by omega)
    omega
   have h2:s*(((n:Int)+1)*p0+((n:Int)+1 - j)*p1)=s*(((n:Int)+1)*p0+((n:Int)+1 - k)*p1)+((k:Int) - j)*(s*p1):=by grind
   omega
  ·have a1:(p1.natAbs:Int) = -(s*p1):=by rcases s1 with rfl | rfl <;> omega
   have h1:((j:Int) - i)*(s*p1)<=s*p1:=by
    have:=wcu (show (1:Int)<=(j:Int) - i by omega) (show 0<=-(s*p1) by omega)
    grind
   have h2:s*(((n:Int)+1)*p0+((n:Int)+1 - i)*p1)=s*(((n:Int)+1)*p0+((n:Int)+1 - j)*p1)+((j:Int) - i)*(s*p1):=by grind
   omega
 ·refine wbu.mp λz=>?_
  have key:∀ m,m<=n+1->(0<s*p0->0<s*cg (p0::p1::l) m)/\(s*p0<0->s*cg (p0::p1::l) m<0):=λm hm=>by
   rw [e]
   have b0:=pos m hm
   have b1:=bd m
   have b2:=le m
   generalize bn (n+1) m=B at *
   generalize bn n m=B' at *
   generalize cg l m=r at *
   have q:(p1*(B':Nat)+r).natAbs<=(p1.natAbs+S)*B:=by
    have h1:=Int.natAbs_add_le (p1*(B':Nat)) r
    have h2:(p1*(B':Nat)).natAbs<=p1.natAbs*B:=by rw [way,wbj];exact wa6 _ b2
    rw [wb5];omega
   have q2:(p1.natAbs+S+1)*B<=p0.natAbs*B:=wbe _ z
   have q3:(p0*(B:Nat)).natAbs=p0.natAbs*B:=by rw [way,wbj]
   rw [wb5,Nat.one_mul] at q2
   generalize p1*(B':Nat)+r=t at *
   have q4:t.natAbs<(p0*(B:Nat)).natAbs:=by omega
   constructor
   ·intro hp
    have:0<s*p0*(B:Nat):=Int.mul_pos hp ⋯
    rw [Int.mul_assoc] at this
    generalize p0*(B:Nat)=v at *
    rcases s1 with rfl | rfl <;> omega
   ·intro hp
    have:s*p0*(B:Nat)<0:=Int.mul_neg_of_neg_of_pos hp ⋯
    rw [Int.mul_assoc] at this
    generalize p0*(B:Nat)=v at *
    rcases s1 with rfl | rfl <;> omega
  rw [<-e] at hi hj hk
  have p0n:s*p0≠0:=λw=>by
   have:p0=0:=by rcases s1 with rfl | rfl <;> omega
   rw [this] at z;omega
  rcases Int.lt_or_gt_of_ne p0n with w | w
  ·have:=(key i ⋯).2 w;omega
  ·have:=(key j ⋯).1 w;omega
end Bs
namespace Bs
open PySem L2
noncomputable def tq (u w:Rat):List Int->Nat->Rat
 | [],_=>0
 | a::l,0=>(a:Rat)+u*tq u w l 0
 | a::l,i+1=>u*tq u w l (i+1)+w*tq u w l i
theorem qom (u w:Rat):∀ {l:List Int} {i:Nat},l.length<=i->tq u w l i=0
 | [],_,_=>by unfold tq;rfl
 | a::l,0,h=>by cases h
 | a::l,i+1,h=>by
   have h:l.length+1<=i+1:=h
   unfold tq
   rw [qom u w (show l.length<=i+1 by omega),qom u w (show l.length<=i by omega)];grind
theorem qrA (u w x:Rat):∀ l:List Int,evS (tq u w l) l.length x=evQ l (u+w*x)
 | []=>rfl
 | a::l=>by
   rw [wbi,qdr]
   show ((a:Rat)+u*tq u w l 0)+x*evS (λk=>u*tq u w l (k+1)+w*tq u w l k) l.length x=(a:Rat)+(u+w*x)*evQ l (u+w*x)
   rw [qkS,qg8,qg8,qrA u w x l,<-qrA u w x l]
   have e:evS (tq u w l) l.length x=evS (tq u w l) (l.length+1) x:=by
    show _=evS (tq u w l) l.length x+tq u w l l.length*x ^ l.length
    rw [qom u w (wad _)];grind
   have e2:=qdr (tq u w l) x l.length
   rw [<-e] at e2
   generalize evS (tq u w l) l.length x=E at *
   generalize evS (λk=>tq u w l (k+1)) l.length x=G at *
   rw [e2];grind
noncomputable def gm:List Int->Nat->Nat
 | [],_=>0
 | a::l,0=>a.natAbs+gm l 0
 | a::l,i+1=>gm l (i+1)+gm l i
theorem iabs (z:Int):(z:Rat)<=((z.natAbs:Nat):Rat)/\-(z:Rat)<=((z.natAbs:Nat):Rat):=by
 have h1:z<=((z.natAbs:Nat):Int):=by omega
 have h2:-z<=((z.natAbs:Nat):Int):=by omega
 constructor
 ·exact_mod_cast h1
 ·have:((-z:Int):Rat)<=(((z.natAbs:Nat):Int):Rat):=by exact_mod_cast h2
  rw [wcf] at this;exact this
theorem qon {u w:Rat} (u0:0<=u) (u1:u<=1) (w0:0<=w):∀ (l:List Int) (i:Nat),tq u w l i<=w ^ i*((gm l i:Nat):Rat)/\-tq u w l i<=w ^ i*((gm l i:Nat):Rat)
 | [],i=>by
   unfold tq gm
   have:((0:Nat):Rat)=0:=rfl
   rw [this];constructor <;> grind
 | a::l,0=>by
   obtain ⟨h1,h2⟩:=qon u0 u1 w0 l 0
   obtain ⟨a1,a2⟩:=iabs a
   unfold tq gm
   rw [wao] at *
   have g0:(0:Rat)<=((gm l 0:Nat):Rat):=by exact_mod_cast wae _
   have q1:=wac h1 u0
   have q2:=wac h2 u0
   have q3:=wak u1 g0
   push_cast
   constructor <;> grind
 | a::l,i+1=>by
   obtain ⟨h1,h2⟩:=qon u0 u1 w0 l (i+1)
   obtain ⟨h3,h4⟩:=qon u0 u1 w0 l i
   unfold tq gm
   have g0:(0:Rat)<=w ^ (i+1)*((gm l (i+1):Nat):Rat):=wah (qoi w0 _) (by exact_mod_cast wae _)
   have q1:=wac h1 u0
   have q2:=wac h2 u0
   have q3:=wak u1 g0
   have q4:=wac h3 w0
   have q5:=wac h4 w0
   rw [waj] at *
   push_cast
   constructor <;> grind
noncomputable def gs (l:List Int):Nat->Nat
 | 0=>0
 | n+1=>gs l n+gm l n
theorem qrB (a:Int) (l:List Int):∀ n:Nat,gs (a::l) n<=a.natAbs+2*gs l n
 | 0=>by show 0<=_;omega
 | 1=>by
   show 0+gm (a::l) 0<=a.natAbs+2*(0+gm l 0)
   have:gm (a::l) 0=a.natAbs+gm l 0:=by rw [gm]
   omega
 | n+2=>by
   have key:∀ n:Nat,gs (a::l) (n+1)=a.natAbs+gs l (n+1)+gs l n:=λn=>by
    induction n with
    | zero=>
      show 0+gm (a::l) 0=a.natAbs+(0+gm l 0)+0
      have:gm (a::l) 0=a.natAbs+gm l 0:=by rw [gm]
      omega
    | succ n ih=>
      show gs (a::l) (n+1)+gm (a::l) (n+1)=a.natAbs+(gs l (n+1)+gm l (n+1))+(gs l n+gm l n)
      have:gm (a::l) (n+1)=gm l (n+1)+gm l n:=by rw [gm]
      omega
   have h:gs (a::l) (n+2)=a.natAbs+gs l (n+2)+gs l (n+1):=key (n+1)
   have:gs l (n+2)=gs l (n+1)+gm l (n+1):=rfl
   omega
theorem qrC (n:Nat):∀ (l:List Int) {B:Nat},(∀ z∈l,z.natAbs<=B)->gs l n+B<=B*2 ^ l.length
 | [],B,_=>by
   have:∀ n,gs [] n=0:=λn=>by induction n with
    | zero=>rfl
    | succ n ih=>show gs [] n+gm [] n=0;rw [ih,gm]
   rw [this];show 0+B<=B*1;omega
 | a::l,B,h=>by
   have ih:=qrC n l (B:=B) λz hz=>h z (wa4 _ hz)
   have a1:=h a (waz ..)
   have c:=qrB a l n
   rw [wbi,wa1]
   have e:B*(2 ^ l.length*2)=B*2 ^ l.length+B*2 ^ l.length:=by grind
   omega
theorem qt5 (u w:Rat):∀ l:List Int,tq u w l 0=evQ l u
 | []=>by unfold tq;rfl
 | a::l=>by unfold tq;rw [qt5 u w l];rfl
theorem qux (u w:Rat):∀ l:List Int,tq u w l 1=w*dQ l u
 | []=>by unfold tq;show (0:Rat)=w*0;grind
 | a::l=>by
   show tq u w (a::l) (0+1)=w*(evQ l u+u*dQ l u)
   rw [tq,qt5,qux u w l];grind
theorem qpU {P Q:List Int} {M u w:Rat} (hl:P.length=Q.length) (hP:∀ x,evQ P x=M*evQ Q (u+w*x)) {i:Nat} (hi:i<Q.length):((P.getD i 0:Int):Rat)=M*tq u w Q i:=
 qiX (n:=Q.length) (g:=λk=>((P.getD k 0:Int):Rat)) (h:=λk=>M*tq u w Q k) (λy _ _=>by rw [qg8,qrA,<-hP,qfM,hl]) i hi
theorem qqM {Q:List Int} {K:Rat} (K0:0<=K):∀ (l:List Int) (off:Nat),(∀ i,i<l.length->(((l.getD i 0).natAbs:Nat):Rat)<=K*((gm Q (off+i):Nat):Rat))->((sz1 l:Nat):Rat)+K*((gs Q off:Nat):Rat)<=K*((gs Q (off+l.length):Nat):Rat)
 | [],off,_=>by
   show ((0:Nat):Rat)+_<=K*((gs Q (off+0):Nat):Rat)
   have:((0:Nat):Rat)=0:=rfl
   rw [this,Nat.add_zero];grind
 | a::l,off,h=>by
   have h0:=h 0 (Nat.succ_pos _)
   have ih:=qqM (Q:=Q) K0 l (off+1) λi hi=>by
    have:=h (i+1) (Nat.succ_lt_succ hi)
    rw [show off+1+i=off+(i+1) by omega];exact this
   show ((a.natAbs+sz1 l:Nat):Rat)+_<=K*((gs Q (off+(l.length+1)):Nat):Rat)
   rw [show off+(l.length+1)=off+1+l.length by omega]
   have e:gs Q (off+1)=gs Q off+gm Q off:=rfl
   rw [e] at ih
   have h0:((a.natAbs:Nat):Rat)<=K*((gm Q off:Nat):Rat):=h0
   push_cast at ih ⊢
   grind
theorem qqN {z:Int} {B:Rat} (h1:(z:Rat)<=B) (h2:-(z:Rat)<=B):((z.natAbs:Nat):Rat)<=B:=by
 rcases Int.natAbs_eq z with e | e
 ·have:(z:Rat)=(((z.natAbs:Nat):Int):Rat):=by rw [<-e]
  have e2:(((z.natAbs:Nat):Int):Rat)=((z.natAbs:Nat):Rat):=rfl
  grind
 ·have:(z:Rat)=((-((z.natAbs:Nat):Int):Int):Rat):=by rw [<-e]
  rw [wcf] at this
  have e2:(((z.natAbs:Nat):Int):Rat)=((z.natAbs:Nat):Rat):=rfl
  grind
theorem deep {Q P T:List Int} {U V:Rat->Rat} {M u w H:Rat} (hl:P.length=Q.length) (hP:∀ x,evQ P x=M*evQ Q (u+w*x)) (M0:0<M) (u0:0<=u) (u1:u<=1) (w0:0<w) (w1:w<=1) (hTl:T.length=P.length) (hT:∀ y,evQ T y=evQ P.reverse (y+1)) (H0:0<=H) (hU:U u<=H/\-U u<=H) (hV:V u<=H/\-V u<=H) (hd:U u*evQ Q u+V u*dQ Q u=1) (hw:w*(H*((gs Q Q.length*(8*Q.length+8):Nat):Rat))<1):sgc T 0<=1:=by
 refine wbu.mp λc=>?_
 have c:2<=sgc T 0:=c
 have len3:3<=T.length:=by
  obtain ⟨s,i,j,k,_,ij,jk,_,_,hk⟩:=qkQ T c
  refine wbu.mp λz=>?_
  rw [wab,wat ⋯] at hk
  have hk:0<s*0:=hk
  omega
 match P,hl,hP,hTl,hT with
 | [],hl,hP,hTl,hT=>have:T.length=0:=hTl;omega
 | [p],hl,hP,hTl,hT=>have:T.length=1:=hTl;omega
 | p0::p1::l,hl,hP,hTl,hT=>
   have lQ:Q.length=l.length+2:=by rw [<-hl];rfl
   obtain ⟨t1,t0⟩:=qol (l:=l) (by rw [hTl];rfl) hT c
   have c0:=qpU hl hP (i:=0) ⋯
   have c1:=qpU hl hP (i:=1) ⋯
   rw [qt5] at c0
   rw [qux] at c1
   have c0:(p0:Rat)=M*evQ Q u:=c0
   have c1:(p1:Rat)=M*(w*dQ Q u):=c1
   have K0:0<=M*(w*w):=wah (by grind) (wah (by grind) (by grind))
   have s:=qqM (Q:=Q) K0 l 2 λi hi=>by
    have e:=qpU hl hP (i:=i+2) ⋯
    have e:((l.getD i 0:Int):Rat)=M*tq u w Q (i+2):=e
    obtain ⟨b1,b2⟩:=qon u0 u1 (show 0<=w by grind) Q (i+2)
    have g0:(0:Rat)<=((gm Q (i+2):Nat):Rat):=by exact_mod_cast wae _
    have pw:w ^ (i+2)<=w*w:=by
     have:∀ n:Nat,w ^ n<=1:=λn=>by
      induction n with
      | zero=>rw [wao];grind
      | succ n ih=>rw [waj];have:=wak ih (show 0<=w by grind);grind
     rw [show i+2=(i+1)+1 by omega,waj,waj]
     have:=wak (this i) (wah (show 0<=w by grind) (show 0<=w by grind))
     grind
    have q:=wak pw g0
    have q1:=wac (Rat.le_trans b1 q) (show 0<=M by grind)
    have q2:=wac (Rat.le_trans b2 q) (show 0<=M by grind)
    rw [show 2+i=i+2 by omega]
    refine qqN ?_ ?_
    ·rw [e];grind
    ·rw [e];grind
   rw [show 2+l.length=Q.length by omega] at s
   have gs0:(0:Rat)<=((gs Q 2:Nat):Rat):=by exact_mod_cast wae _
   have s:((sz1 l:Nat):Rat)<=M*(w*w)*((gs Q Q.length:Nat):Rat):=by
    have:=wah K0 gs0;grind
   obtain ⟨a1,a2⟩:=iabs p1
   obtain ⟨a3,a4⟩:=iabs p0
   have t1r:((p1.natAbs:Nat):Rat)<=2*((l.length:Rat)+1)*((sz1 l:Nat):Rat):=by
    have:((p1.natAbs:Nat):Rat)<=((2*(l.length+1)*sz1 l:Nat):Rat):=by exact_mod_cast t1
    push_cast at this;exact this
   have t0r:((p0.natAbs:Nat):Rat)<=((p1.natAbs:Nat):Rat)+((sz1 l:Nat):Rat):=by
    have:((p0.natAbs:Nat):Rat)<=((p1.natAbs+sz1 l:Nat):Rat):=by exact_mod_cast t0
    push_cast at this;exact this
   obtain ⟨U1,U2⟩:=hU
   obtain ⟨V1,V2⟩:=hV
   have hw':w*(H*(((gs Q Q.length:Nat):Rat)*(8*((l.length:Rat)+2)+8)))<1:=by
    rw [lQ] at hw ⊢
    push_cast at hw
    exact hw
   have n0:(0:Rat)<=(l.length:Rat):=by exact_mod_cast wae _
   have G0:(0:Rat)<=((gs Q Q.length:Nat):Rat):=by exact_mod_cast wae _
   generalize ((gs Q Q.length:Nat):Rat)=G at *
   generalize ((sz1 l:Nat):Rat)=S at *
   generalize U u=Uu at *
   generalize V u=Vu at *
   generalize (l.length:Rat)=n at *
   generalize ((p1.natAbs:Nat):Rat)=P1 at *
   generalize ((p0.natAbs:Nat):Rat)=P0 at *
   have wG:=wah (show 0<=w by grind) G0
   have nS:=wac s (show 0<=2*(n+1) by grind)
   have up:∀ v B:Rat,M*v<=M*B->v<=B:=λv B h=>wb0.mp λz=>by
    have:=wan M0 (show 0<v - B by grind);grind
   have upw:∀ v B:Rat,w*v<=w*B->v<=B:=λv B h=>wb0.mp λz=>by
    have:=wan w0 (show 0<v - B by grind);grind
   have dq1:dQ Q u<=2*(n+1)*(w*G):=upw _ _ (up _ _ (by grind))
   have dq2:-dQ Q u<=2*(n+1)*(w*G):=upw _ _ (up _ _ (by grind))
   have wl:=wak w1 wG
   have nw:=wac wl (show 0<=2*(n+1)+1 by grind)
   have q1:evQ Q u<=(2*(n+1)+1)*(w*G):=by
    have:evQ Q u<=(2*(n+1)+1)*(w*(w*G)):=up _ _ (by grind)
    grind
   have q2:-evQ Q u<=(2*(n+1)+1)*(w*G):=by
    have:-evQ Q u<=(2*(n+1)+1)*(w*(w*G)):=up _ _ (by grind)
    grind
   have prod:∀ a b A B:Rat,0<=A->0<=B->a<=A->-a<=A->b<=B->-b<=B->a*b<=A*B/\-(a*b)<=A*B:=λa b A B A0 B0 h1 h2 h3 h4=>by
    rcases (wam:0<=a\/a<=0) with z | z
    ·have x1:=wac h3 z
     have x2:=wac h4 z
     have x3:=wak h1 B0
     constructor <;> grind
    ·have x1:=wac h3 (show 0<=-a by grind)
     have x2:=wac h4 (show 0<=-a by grind)
     have x3:=wak h2 B0
     constructor <;> grind
   have nG:=wah n0 wG
   obtain ⟨x1,x2⟩:=prod Uu (evQ Q u) H _ H0 (by grind) U1 U2 q1 q2
   obtain ⟨x3,x4⟩:=prod Vu (dQ Q u) H _ H0 (by grind) V1 V2 dq1 dq2
   have y1:=wah H0 wG
   have y3:=wah H0 nG
   have e:w*(H*(G*(8*(n+2)+8)))=8*(H*(n*(w*G)))+24*(H*(w*G)):=by grind
   rw [e] at hw'
   grind
end Bs
namespace Bs
open PySem L2
theorem Cn.scl {f:Rat->Rat} {κ b:Rat} (k0:κ≠0):∀ {k:Nat} {x:Rat},Cn (λt=>κ*f t) b k x↔Cn f b k x:=by
 have kk:0<κ*κ:=by rw [mul_pos_iff'];rcases rtri κ 0 with c | c | c <;> grind
 have sg:∀ p q:Rat,κ*p*(κ*q)<0↔p*q<0:=λp q=>by
  have e:κ*p*(κ*q)=(κ*κ)*(p*q):=by grind
  rw [e];exact (qlP kk).2
 intro k
 induction k with
 | zero=>
   intro x
   refine and_congr Iff.rfl ⟨λh z=>h (by show κ*f x=0;rw [z];grind),λh z=>?_⟩
   rcases wa2.mp z with y | y
   ·exact k0 y
   ·exact h y
 | succ k ih=>
   intro x
   constructor
   ·rintro ⟨h1,y,h2,h3,h4⟩
    exact ⟨h1,y,h2,(sg _ _).mp h3,ih.mp h4⟩
   ·rintro ⟨h1,y,h2,h3,h4⟩
    exact ⟨h1,y,h2,(sg _ _).mpr h3,ih.mpr h4⟩
theorem Nf.scl {f:Rat->Rat} {κ a b:Rat} (k0:κ≠0):Nf (λt=>κ*f t) a b=Nf f a b:=by
 have e:∀ k,IsN (λt=>κ*f t) a b k↔IsN f a b k:=λk=>by
  unfold IsN AltN
  constructor
  ·rintro ⟨⟨x,h1,h2⟩,n⟩
   exact ⟨⟨x,h1,(Cn.scl k0).mp h2⟩,λ⟨y,h3,h4⟩=>n ⟨y,h3,(Cn.scl k0).mpr h4⟩⟩
  ·rintro ⟨⟨x,h1,h2⟩,n⟩
   exact ⟨⟨x,h1,(Cn.scl k0).mpr h2⟩,λ⟨y,h3,h4⟩=>n ⟨y,h3,(Cn.scl k0).mp h4⟩⟩
 by_cases h:∃ k,IsN f a b k
 ·obtain ⟨k,hk⟩:=h
  rw [qhM hk,qhM ((e k).mpr hk)]
 ·unfold Nf
  rw [dif_neg h,dif_neg λ⟨k,hk⟩=>h ⟨k,(e k).mp hk⟩]
theorem Nf.one {f:Rat->Rat} {a b s:Rat} (ab:a<b) (h:∀ x,a<x->x<b->0<f x*s):Nf f a b=0:=by
 refine qhM ⟨⟨(a+b) / 2,by grind,by grind,λz=>?_⟩,?_⟩
 ·have:=h ((a+b) / 2) (by grind) (by grind)
  rw [z] at this;grind
 ·rintro ⟨x,h1,h2,y,h3,h4,h5,_⟩
  have p:=like (h x h1 h2) (h y (by grind) h5)
  grind
theorem Sf.keeps {l:List Int} (h:Sf l) {a b:Rat} (ab:a<b) (n:Nf (evQ l) a b=0) (fa:evQ l a≠0) (fb:evQ l b≠0):∀ x,a<=x->x<=b->0<=evQ l x*evQ l a:=by
 have is:=h.isN ab
 rw [n] at is
 have no:∀ x y,a<x->x<y->y<b->¬ evQ l x*evQ l y<0:=λx y h1 h2 h3 h4=>is.2 ⟨x,h1,by grind,y,h2,h4,h3,λz=>by rw [z] at h4;grind⟩
 obtain ⟨_,δ,d0,gr⟩:=qkO fa
 obtain ⟨⟨ε,e0,gl⟩,_⟩:=qkO fb
 have near:∀ x,a<x->∃ p,a<p/\p<x/\0<evQ l p*evQ l a:=λx ax=>by
  rcases (wam:x<=a+δ\/a+δ<=x) with c | c
  ·exact ⟨(a+x) / 2,by grind,by grind,gr _ (by grind) (by grind)⟩
  ·exact ⟨a+δ / 2,by grind,by grind,gr _ (by grind) (by grind)⟩
 have inn:∀ x,a<x->x<b->0<=evQ l x*evQ l a:=λx h1 h2=>by
  obtain ⟨p,p1,p2,p3⟩:=near x h1
  refine wb0.mp λz=>no p x p1 p2 h2 ?_
  have:0<evQ l x * -evQ l a:=by grind
  have:=opp this p3
  grind
 intro x h1 h2
 by_cases ea:x=a
 ·rw [ea]
  have:0<evQ l a*evQ l a:=by rw [mul_pos_iff'];rcases rtri (evQ l a) 0 with c | c | c <;> grind
  grind
 ·by_cases eb:x=b
  ·rw [eb]
   refine wb0.mp λz=>?_
   obtain ⟨p,p1,p2,p3⟩:∃ p,a<p/\p<b/\0<evQ l p*evQ l b:=by
    rcases (wam:a<=b - ε\/b - ε<=a) with c | c
    ·exact ⟨b - ε / 2,by grind,by grind,gl _ (by grind) (by grind)⟩
    ·exact ⟨(a+b) / 2,by grind,by grind,gl _ (by grind) (by grind)⟩
   have q:=inn p p1 p2
   have pn:evQ l p≠0:=λw=>by rw [w] at p3;grind
   rcases mul_pos_iff'.mp p3 with ⟨u,v⟩ | ⟨u,v⟩
   ·rcases mul_neg_iff'.mp z with ⟨s,t⟩ | ⟨s,t⟩
    ·have:=mul_neg_iff'.mpr (.inl ⟨u,t⟩);grind
    ·grind
   ·rcases mul_neg_iff'.mp z with ⟨s,t⟩ | ⟨s,t⟩
    ·grind
    ·have:=mul_neg_iff'.mpr (.inr ⟨u,t⟩);grind
  ·exact inn x (by grind) (by grind)
theorem qlR (R:Rat) (R0:0<=R):∀ (l:List Int),∃ C D,0<=C/\0<=D/\∀ m,-R<=m->m<=R->(dQ l m<=D/\-dQ l m<=D)/\∀ h,-1<=h->h<=1->-(C*(h*h))<=evQ l (m+h) - evQ l m - h*dQ l m/\evQ l (m+h) - evQ l m - h*dQ l m<=C*(h*h)
 | []=>⟨0,0,by grind,by grind,λm _ _=>⟨by show (0:Rat)<=0/\-(0:Rat)<=0;constructor <;> grind,λh _ _=>by show -(0*(h*h))<=(0:Rat) - 0 - h*0/\(0:Rat) - 0 - h*0<=0*(h*h);constructor <;> grind⟩⟩
 | a::l=>by
   obtain ⟨C,D,C0,D0,hC⟩:=qlR R R0 l
   obtain ⟨B,B0,hB⟩:=(evQ_pn' l).bound R R0
   have MC:=wah (show 0<=R+1 by grind) C0
   have RD:=wah R0 D0
   refine ⟨D+(R+1)*C,B+R*D,by grind,by grind,λm m1 m2=>?_⟩
   obtain ⟨⟨hD1,hD2⟩,hC⟩:=hC m m1 m2
   obtain ⟨b1,b2⟩:=hB m m1 m2
   constructor
   ·show evQ l m+m*dQ l m<=B+R*D/\-(evQ l m+m*dQ l m)<=B+R*D
    rcases (wam:0<=m\/m<=0) with z | z
    ·have r1:=wac hD1 z
     have r2:=wac hD2 z
     have r3:=wak m2 D0
     constructor <;> grind
    ·have r1:=wac hD1 (show 0<=-m by grind)
     have r2:=wac hD2 (show 0<=-m by grind)
     have r3:=wak (show -m<=R by grind) D0
     constructor <;> grind
   ·intro h h1 h2
    obtain ⟨q1,q2⟩:=hC h h1 h2
    have hh:0<=h*h:=by
     rcases (wam:0<=h\/h<=0) with z | z
     ·exact wah z z
     ·have:=wah (show 0<=-h by grind) (show 0<=-h by grind);grind
    have e:evQ (a::l) (m+h) - evQ (a::l) m - h*dQ (a::l) m=h*h*dQ l m+(m+h)*(evQ l (m+h) - evQ l m - h*dQ l m):=by
     show ((a:Rat)+(m+h)*evQ l (m+h)) - ((a:Rat)+m*evQ l m) - h*(evQ l m+m*dQ l m)=_
     grind
    rw [e]
    generalize evQ l (m+h) - evQ l m - h*dQ l m=r at *
    have Ch:=wah C0 hh
    have p1:=wac hD1 hh
    have p2:=wac hD2 hh
    have s:-((R+1)*(C*(h*h)))<=(m+h)*r/\(m+h)*r<=(R+1)*(C*(h*h)):=by
     rcases (wam:0<=m+h\/m+h<=0) with z | z
     ·have r1:=wac q1 z
      have r2:=wac q2 z
      have r3:=wak (show m+h<=R+1 by grind) Ch
      constructor <;> grind
     ·have r1:=wac q1 (show 0<=-(m+h) by grind)
      have r2:=wac q2 (show 0<=-(m+h) by grind)
      have r3:=wak (show -(m+h)<=R+1 by grind) Ch
      constructor <;> grind
    constructor <;> grind
end Bs
namespace Bs
open PySem L2
theorem qt6 {a b c d:Rat} (ha:0<a) (hb:0<b) (hc:0<c) (hd:0<d):∃ m,0<m/\m<=a/\m<=b/\m<=c/\m<=d:=by
 have two:∀ x y:Rat,0<x->0<y->∃ m,0<m/\m<=x/\m<=y:=λx y hx hy=>by
  rcases (wam:x<=y\/y<=x) with z | z
  ·exact ⟨x,hx,by grind,z⟩
  ·exact ⟨y,hy,z,by grind⟩
 obtain ⟨p,p0,p1,p2⟩:=two a b ha hb
 obtain ⟨q,q0,q1,q2⟩:=two c d hc hd
 obtain ⟨m,m0,m1,m2⟩:=two p q p0 q0
 exact ⟨m,m0,by grind,by grind,by grind,by grind⟩
theorem qoo {l:List Int} {a b R H s:Rat} {U V:Rat->Rat} (ab:a<b) (R0:0<=R) (ra:-R<=a) (rb:b<=R) (s1:s=1\/s = -1) (nn:∀ x,a<=x->x<=b->0<=s*evQ l x) (fa:0<s*evQ l a) (fb:0<s*evQ l b) (H1:0<H)
  (hU:∀ x,a<=x->x<=b->U x<=H/\-U x<=H) (hV:∀ x,a<=x->x<=b->V x<=H/\-V x<=H) (hUV:∀ x,a<=x->x<=b->U x*evQ l x+V x*dQ l x=1):∃ κ,0<κ/\∀ x,a<=x->x<=b->κ<=s*evQ l x:=by
 obtain ⟨L,L0,hL⟩:=(evQ_pn' l).lip R R0
 obtain ⟨C,D,C0,D0,hC⟩:=qlR R R0 l
 obtain ⟨A,A0,A1,A2,_,_⟩:=qt6 fa fb fa fb
 obtain ⟨ρ,p0,p1,p2⟩:=qcl (p:=A / 2) (q:=L) (by grind) L0
 obtain ⟨m,m0,m1,m2,m3,m4⟩:=qt6 (a:=A / 2) (b:=ρ) (c:=1 / 2) (d:=1) (by grind) p0 (by grind) (by grind)
 have HH:=wah (show 0<=H by grind) (show 0<=H by grind)
 have CHH:=wah C0 HH
 obtain ⟨ε,e0,e1,e2⟩:=qcl (p:=m) (q:=2+4*H+32*(C*(H*H))) m0 (by grind)
 have He:=wan H1 e0
 have CHe:=wah CHH (show 0<=ε by grind)
 have q1:2*ε<m:=by grind
 have q2:4*(H*ε)<m:=by grind
 have q3:32*(C*(H*H)*ε)<m:=by grind
 refine ⟨ε,e0,λx x1 x2=>wb0.mp λz=>?_⟩
 have sx:=nn x x1 x2
 have sg:∀ p q B:Rat,p - q<=B->q - p<=B->s*q - s*p<=B:=λp q B h1 h2=>by rcases s1 with e | e <;> rw [e] <;> grind
 have far1:ρ<x - a:=wbq.mp λw=>by
  obtain ⟨l1,l2⟩:=hL a x ra x1 (by grind)
  have:=sg (evQ l x) (evQ l a) _ l1 l2
  have:=wac w L0
  grind
 have far2:ρ<b - x:=wbq.mp λw=>by
  obtain ⟨l1,l2⟩:=hL x b (by grind) x2 rb
  have:=sg (evQ l x) (evQ l b) _ l2 l1
  have:=wac w L0
  grind
 obtain ⟨U1,U2⟩:=hU x x1 x2
 obtain ⟨V1,V2⟩:=hV x x1 x2
 have uv:=hUV x x1 x2
 have prod:∀ a b A B:Rat,0<=A->0<=B->a<=A->-a<=A->b<=B->-b<=B->a*b<=A*B/\-(a*b)<=A*B:=λa b A B A0 B0 h1 h2 h3 h4=>by
  rcases (wam:0<=a\/a<=0) with z | z
  ·have x1:=wac h3 z
   have x2:=wac h4 z
   have x3:=wak h1 B0
   constructor <;> grind
  ·have x1:=wac h3 (show 0<=-a by grind)
   have x2:=wac h4 (show 0<=-a by grind)
   have x3:=wak h2 B0
   constructor <;> grind
 have g1:evQ l x<=ε/\-evQ l x<=ε:=by rcases s1 with e | e <;> rw [e] at sx z <;> constructor <;> grind
 obtain ⟨y1,y2⟩:=prod (U x) (evQ l x) H ε (by grind) (by grind) U1 U2 g1.1 g1.2
 obtain ⟨d,d0,hd⟩:∃ d,0<=d/\(s*dQ l x=d\/s*dQ l x = -d):=by
  rcases (wam:0<=s*dQ l x\/s*dQ l x<=0) with w | w
  ·exact ⟨_,w,.inl rfl⟩
  ·exact ⟨-(s*dQ l x),by grind,.inr (by grind)⟩
 have dq:dQ l x<=d/\-dQ l x<=d:=by rcases s1 with e | e <;> rw [e] at hd <;> rcases hd with w | w <;> constructor <;> grind
 obtain ⟨y3,y4⟩:=prod (V x) (dQ l x) H d (by grind) d0 V1 V2 dq.1 dq.2
 have dl:1<=2*(H*d):=by grind
 obtain ⟨h,h1,h2,h3,h4⟩:∃ h,-(4*(H*ε))<=h/\h<=4*(H*ε)/\h*(s*dQ l x) = -(4*(H*ε)*d)/\h*h=16*(H*ε*(H*ε)):=by
  rcases hd with w | w
  ·exact ⟨-(4*(H*ε)),by grind,by grind,by rw [w];grind,by grind⟩
  ·exact ⟨4*(H*ε),by grind,by grind,by rw [w];grind,by grind⟩
 obtain ⟨_,tay⟩:=hC x (by grind) (by grind)
 obtain ⟨t1,t2⟩:=tay h (by grind) (by grind)
 have pos:=nn (x+h) (by grind) (by grind)
 have up:s*evQ l (x+h)<=s*evQ l x+h*(s*dQ l x)+C*(h*h):=by rcases s1 with e | e <;> rw [e] <;> grind
 rw [h3,h4] at up
 have e5:4*(H*ε)*d=2*ε*(2*(H*d)):=by grind
 have k1:=wac dl (show 0<=2*ε by grind)
 have e6:C*(16*(H*ε*(H*ε)))=16*(C*(H*H)*ε)*ε:=by grind
 have k2:=wak (show 16*(C*(H*H)*ε)<=1 / 2 by grind) (show 0<=ε by grind)
 grind
theorem qqO {g κ s:Rat} (k0:0<κ) (s1:s=1\/s = -1) (h:κ<=s*g):∀ e:Nat,κ ^ e<=g ^ e\/κ ^ e<=-(g ^ e)
 | 0=>.inl (by rw [wao,wao];grind)
 | e+1=>by
   have p:=qg6 k0 e
   rw [waj,waj]
   have two:∀ u v:Rat,κ<=v->κ ^ e<=u->κ ^ e*κ<=u*v:=λu v h1 h2=>by
    have a:=wac h1 (show 0<=κ ^ e by grind)
    have b:=wak h2 (show 0<=v by grind)
    grind
   rcases s1 with w | w <;> rw [w] at h <;> rcases qqO k0 (by grind) (show κ<=s*g by rw [w];exact h) e with q | q
   ·exact .inl (two _ _ (by grind) q)
   ·exact .inr (by have:=two (-(g ^ e)) g (by grind) q;grind)
   ·exact .inr (by have:=two (g ^ e) (-g) (by grind) q;grind)
   ·exact .inl (by have:=two (-(g ^ e)) (-g) (by grind) q;grind)
theorem qop {l:List Int} {f K U V:Rat->Rat} {n k e:Nat} {a b c H:Rat} (sf:Sf l) (pf:Pn n f) (pK:Pn k K) (c0:c≠0) (hK:∀ x,f x*K x=c*evQ l x ^ e) (ab:a<b) (h:f a*f b<0) (ga:evQ l a≠0) (gb:evQ l b≠0) (H1:0<H)
  (hU:∀ x,a<=x->x<=b->U x<=H/\-U x<=H) (hV:∀ x,a<=x->x<=b->V x<=H/\-V x<=H) (hUV:∀ x,a<=x->x<=b->U x*evQ l x+V x*dQ l x=1):Nf (evQ l) a b≠0:=λn0=>by
 have keep:=sf.keeps ab n0 ga gb
 obtain ⟨s,s1,sa⟩:∃ s:Rat,(s=1\/s = -1)/\0<s*evQ l a:=by
  rcases rtri (evQ l a) 0 with w | w | w
  ·exact ⟨-1,.inr rfl,by grind⟩
  ·exact absurd w ga
  ·exact ⟨1,.inl rfl,by grind⟩
 have nn:∀ x,a<=x->x<=b->0<=s*evQ l x:=λx x1 x2=>by
  have:=keep x x1 x2
  refine wb0.mp λz=>?_
  have:evQ l x*evQ l a<0:=by
   rw [mul_neg_iff']
   rcases s1 with w | w <;> rw [w] at sa z <;> grind
  grind
 have sb:0<s*evQ l b:=by
  have:=nn b (by grind) (by grind)
  refine wbq.mp λz=>gb ?_
  rcases s1 with w | w <;> rw [w] at this z <;> grind
 obtain ⟨R,R0,ra,rb⟩:∃ R,0<=R/\-R<=a/\b<=R:=by
  rcases (wam:0<=b\/b<=0) with z | z <;> rcases (wam:0<=a\/a<=0) with w | w
  ·exact ⟨b,z,by grind,by grind⟩
  ·exact ⟨b - a,by grind,by grind,by grind⟩
  ·exact ⟨0,by grind,by grind,by grind⟩
  ·exact ⟨-a,by grind,by grind,by grind⟩
 obtain ⟨κ,k0,hk⟩:=qoo ab R0 ra rb s1 nn sa sb H1 hU hV hUV
 obtain ⟨B,B0,hB⟩:=pK.bound R R0
 have pe:=qg6 k0 e
 obtain ⟨c',c1,c2⟩:∃ c',0<c'/\(c=c'\/c = -c'):=by
  rcases rtri c 0 with w | w | w
  ·exact ⟨-c,by grind,.inr (by grind)⟩
  ·exact absurd w c0
  ·exact ⟨c,w,.inl rfl⟩
 obtain ⟨η,e0,_,e2⟩:=qcl (p:=c'*κ ^ e) (q:=B) (wan c1 pe) B0
 obtain ⟨r,r1,r2,r3,r4⟩:=pf.near ab h e0
 have big:=qqO k0 s1 (hk r (by grind) (by grind)) e
 obtain ⟨b1,b2⟩:=hB r (by grind) (by grind)
 have q:=hK r
 have prod:f r*K r<=η*B/\-(f r*K r)<=η*B:=by
  rcases (wam:0<=f r\/f r<=0) with z | z
  ·have x1:=wac b2 z
   have x2:=wac b1 z
   have x3:=wak (show f r<=η by grind) B0
   constructor <;> grind
  ·have x1:=wac b2 (show 0<=-f r by grind)
   have x2:=wac b1 (show 0<=-f r by grind)
   have x3:=wak (show -f r<=η by grind) B0
   constructor <;> grind
 rw [q] at prod
 have m1:=λu=>wac (a:=κ ^ e) (b:=u) (c:=c')
 rcases big with w | w
 ·have:=wac w (show 0<=c' by grind)
  rcases c2 with y | y <;> rw [y] at prod <;> grind
 ·have:=wac w (show 0<=c' by grind)
  rcases c2 with y | y <;> rw [y] at prod <;> grind
end Bs
namespace Bs
open PySem
noncomputable def qbW (K:W.Frag):Addr:=match PySem.W.nsIn K PySem.mainGlobals "EXPONENTS" with | some (some (.ref a))=>a | _=>0
end Bs
namespace Bs
open PySem L2
noncomputable def evF (f:Nat->Rat) (n:Nat) (x:Rat):Nat->Rat
 | 0=>0
 | d+1=>f (n - 1 - d)+x*evF f n x d
theorem qjP {f g:Nat->Rat} {n:Nat} {x:Rat}:∀ d,d<=n->(∀ i,n - d<=i->i<n->f i=g i)->evF f n x d=evF g n x d
 | 0,_,_=>rfl
 | d+1,hd,h=>by
   show f (n - 1 - d)+x*evF f n x d=g (n - 1 - d)+x*evF g n x d
   rw [qjP d ⋯ (λi h1 h2=>h i ⋯ h2),h (n - 1 - d) ⋯ ⋯]
theorem qiY {f:Nat->Rat} {n:Nat} {x B:Rat}:∀ d,evF (λi=>f i / B) n x d=evF f n x d / B
 | 0=>(zdiv B).symm
 | d+1=>by
   show f (n - 1 - d) / B+x*evF (λi=>f i / B) n x d=(f (n - 1 - d)+x*evF f n x d) / B
   rw [qiY d]
   grind
noncomputable def sy (c:Int) (R:Nat->Int) (n:Nat):Nat->Int
 | 0=>R (n - 1)
 | d+1=>R (n - 1 - (d+1))+c*sy c R n d
noncomputable def rnd (c:Int) (R:Nat->Int) (n first:Nat) (j:Nat):Int:=if j<first then R j else sy c R n (n - 1 - j)
noncomputable def toQ (R:Nat->Int) (k:Nat):Rat:=(R k:Rat)
theorem qs8 {c:Int} {R:Nat->Int} {n first:Nat} {y:Rat}:∀ d,d+1+first<=n->evF (toQ R) n y (d+1)=(sy c R n d:Rat)+(y - c)*evF (toQ (rnd c R n first)) n y d
 | 0,_=>by show (R (n - 1 - 0):Rat)+y*0=(R (n - 1):Rat)+(y - c)*0;rw [Nat.sub_zero];grind
 | d+1,h=>by
   show (R (n - 1 - (d+1)):Rat)+y*evF (toQ R) n y (d+1)=((R (n - 1 - (d+1))+c*sy c R n d:Int):Rat)+(y - c)*((rnd c R n first (n - 1 - d):Rat)+y*evF (toQ (rnd c R n first)) n y d)
   rw [qs8 (c:=c) (first:=first) d ⋯]
   have e:rnd c R n first (n - 1 - d)=sy c R n d:=by
    unfold rnd
    rw [if_neg ⋯,show n - 1 - (n - 1 - d)=d by omega]
   rw [e]
   push_cast
   grind
noncomputable def mx (R:Nat->Int) (n:Nat) (y c:Rat):Nat->Nat->Rat
 | 0,lo=>evF (toQ R) n y (n - lo)
 | t+1,lo=>(R lo:Rat)+(y - c)*mx R n y c t (lo+1)
theorem qqP {c:Int} {R:Nat->Int} {n first:Nat} {y:Rat} (hf:first+1<=n):∀ t lo,lo+t=first->mx R n y c t lo=mx (rnd c R n first) n y c (t+1) lo
 | 0,lo,h=>by
   show evF (toQ R) n y (n - lo)=(rnd c R n first lo:Rat)+(y - c)*evF (toQ (rnd c R n first)) n y (n - (lo+1))
   have e:rnd c R n first lo=sy c R n (n - 1 - lo):=by unfold rnd;rw [if_neg ⋯]
   rw [e,show n - lo=(n - 1 - lo)+1 by omega,show n - (lo+1)=n - 1 - lo by omega]
   exact qs8 _ ⋯
 | t+1,lo,h=>by
   show (R lo:Rat)+(y - c)*mx R n y c t (lo+1)=(rnd c R n first lo:Rat)+(y - c)*mx (rnd c R n first) n y c (t+1) (lo+1)
   have e:rnd c R n first lo=R lo:=by unfold rnd;rw [if_pos ⋯]
   rw [e,qqP hf t (lo+1) ⋯]
theorem qqQ {R:Nat->Int} {n:Nat} {y c:Rat}:∀ t lo,lo+t+1=n->mx R n y c t lo=evF (toQ R) n (y - c) (n - lo)
 | 0,lo,h=>by
   show evF (toQ R) n y (n - lo)=_
   rw [show n - lo=0+1 by omega]
   show toQ R (n - 1 - 0)+y*0=toQ R (n - 1 - 0)+(y - c)*0
   grind
 | t+1,lo,h=>by
   show (R lo:Rat)+(y - c)*mx R n y c t (lo+1)=_
   rw [qqQ t (lo+1) ⋯,show n - lo=(n - (lo+1))+1 by omega]
   show _=toQ R (n - 1 - (n - (lo+1)))+_
   rw [show n - 1 - (n - (lo+1))=lo by omega]
   rfl
noncomputable def rnds (c:Int) (R:Nat->Int) (n:Nat):Nat->Nat->Int
 | 0=>R
 | i+1=>rnd c (rnds c R n i) n i
theorem qoq {c:Int} {R:Nat->Int} {n:Nat} {y:Rat}:∀ i,i+1<=n->mx (rnds c R n i) n y c i 0=evF (toQ R) n y n
 | 0,_=>rfl
 | i+1,h=>by
   rw [<-qoq i ⋯]
   exact (qqP ⋯ i 0 ⋯).symm
theorem qrD {c:Int} {R:Nat->Int} {n:Nat} {y:Rat} (hn:1<=n):evF (toQ (rnds c R n (n - 1))) n y n=evF (toQ R) n (y+c) n:=by
 have h:=qoq (c:=c) (R:=R) (n:=n) (y:=y+c) (n - 1) ⋯
 rw [qqQ (n - 1) 0 ⋯] at h
 rw [<-h,Nat.sub_zero]
 congr 1
 grind
noncomputable abbrev Nm (H:Hp) (p:Addr) (t d:Int):Prop:=H p=some (.tup [.int t,.int d])
noncomputable def qaG (_:W.Frag):Sp:=λvs H Q _=>∃ a b:Int,vs=[.int a,.int b]/\Q (.int ((Int.gcd a b:Nat):Int)) H
noncomputable def qjQ (K:W.Frag):Sp:=λvs H Q _=>∃ (a:Addr) (ns:List Int),vs=[.ref a]/\SqL K H a (ns.map V.int)/\ns.length<=63/\∀ H',Q (.bl true) H'
noncomputable def qda (_:W.Frag):Sp:=λvs H Q _=>∃ (x n:Int) (b:Nat),vs=[.int x,.int n]/\0<=n/\Bd b x/\b*n.toNat+1<=200000/\Q (.int (x ^ n.toNat)) H
noncomputable def qbB (n:Nat) (f:Nat->Int):List V:=((List.range n).map f).map V.int
noncomputable def qch (ns:List Int):Nat->Nat
 | 0=>0
 | m+1=>if ns.getD m 1=0 then qch ns m else m+1
noncomputable def qdW (ns:List Int):List Int:=ns.take (qch ns ns.length)
noncomputable def Pl (H:Hp) (r:Addr) (L:List Nu):Prop:=∃ zs,H r=some (.tup zs)/\Nums H zs L
noncomputable def qaZ (_:W.Frag):Sp:=λvs H Q _=>∃ (p:Addr) (ns:List Int),vs=[.ref p]/\H p=some (.lst (ns.map V.int))/\∀ r,H r=none->Q (.ref r) (upd H r (.lst ((qdW ns).map V.int)))
noncomputable def Tz (ns:List Int):Prop:=ns=[]\/co ns (ns.length - 1)≠0
noncomputable def SDs (H:Hp):List V->List (List Int)->Prop
 | [],[]=>True
 | x::xs,r::rs=>(∃ p,x=.ref p/\H p=some (.lst (r.map V.int)))/\SDs H xs rs
 | _,_=>False
noncomputable def SD (H:Hp) (p:Addr) (rs:List (List Int)):Prop:=∃ xs,H p=some (.lst xs)/\SDs H xs rs
noncomputable def qcq (_:W.Frag):Sp:=λvs H Q _=>∃ (p:Addr) (ns:List Int) (st:Int),vs=[.ref p,.int st]/\H p=some (.lst (ns.map V.int))/\ns.length<=1000/\∀ (g:Int) (H':Hp),Same H H'->0<=g->g∣st->(∀ z∈ns,g∣z)->(∀ d:Int,d∣st->(∀ z∈ns,d∣z)->d∣g)->Q (.int g) H'
noncomputable def qbx (_:W.Frag):Sp:=λvs H Q _=>∃ (p:Addr) (ns:List Int) (g:Int),vs=[.ref p,.int g]/\H p=some (.lst (ns.map V.int))/\(0<g\/ns=[])/\ns.length<=1000/\∀ r,H r=none->Q (.ref r) (upd H r (.lst ((ns.map (·/ g)).map V.int)))
noncomputable def qbX (_:W.Frag):Sp:=λvs H Q _=>∃ (p q:Addr) (ns ms:List Int) (f w:Int) (s:Nat),vs=[.ref p,.int f,.ref q,.int w,.int (s:Int)]/\H p=some (.lst (ns.map V.int))/\H q=some (.lst (ms.map V.int))/\ns.length<=1000/\s+ms.length<=1000/\Bd 60000000 f/\Bd 60000000 w/\(∀ z∈ns,Bd 60000000 z)/\(∀ z∈ms,Bd 60000000 z)/\
 ∀ (r:Addr) (rs:List Int) (H':Hp),Same H H'->H' r=some (.lst (rs.map V.int))->Tz rs->(∀ k,co rs k=f*co ns k - w*upS s (co ms) k)->Q (.ref r) H'
noncomputable def qbt (_:W.Frag):Sp:=λvs H Q _=>∃ (p q:Addr) (ns ms:List Int) (b d:Nat),vs=[.ref p,.ref q]/\H p=some (.lst (ns.map V.int))/\H q=some (.lst (ms.map V.int))/\Lz ms/\(∀ z∈ns,Bd b z)/\(∀ z∈ms,Bd d z)/\b+ns.length*(d+1)<=60000000/\d<=60000000/\ns.length<=1000/\ms.length<=1000/\((¬ ∃ A:List Int,∀ k,co ns k=cvL A (co ms) k)->∀ H',Same H H'->Q .non H')/\
 ∀ (r:Addr) (qs:List Int) (H':Hp),Same H H'->H' r=some (.lst (qs.map V.int))->qs.length=ns.length+1 - ms.length->(∀ k,co ns k=cvL qs (co ms) k)->Q (.ref r) H'
noncomputable def Sh (rows rows':List (List Int)):Prop:=∃ g:Int,0<g/\rows=rows'.map (·.map (g*·))
noncomputable def qt7 (rows:List (List Int)):Prop:=(∀ r∈rows,r=[])\/∀ d:Int,(∀ r∈rows,∀ z∈r,d∣z)->d.natAbs=1
noncomputable def qaM (_:W.Frag):Sp:=λvs H Q _=>∃ (p:Addr) (rows:List (List Int)),vs=[.ref p]/\SD H p rows/\rows.length<=1000/\(∀ r∈rows,r.length<=1000/\Tz r)/\
 ∀ (t:Addr) (rows':List (List Int)) (H':Hp),Same H H'->SD H' t rows'->Sh rows rows'->qt7 rows'->Q (.ref t) H'
noncomputable def qaL (_:W.Frag):Sp:=λvs H Q _=>∃ (p:Addr) (ns:List Int),vs=[.ref p]/\H p=some (.lst (ns.map V.int))/\ns.length<=1000/\Tz ns/\
 ∀ (t:Addr) (ms:List Int) (g:Int) (H':Hp),Same H H'->H' t=some (.lst (ms.map V.int))->0<g->ns=ms.map (g*·)->(ns=[]\/Prim ms)->Q (.ref t) H'
noncomputable def qbm (_:W.Frag):Sp:=λvs H Q _=>∃ (p q:Addr) (o:List Int),vs=[.ref p,.ref q]/\SD H p [[]]/\SD H q [o]/\0<o.length/\∀ (t:Addr) (H':Hp),Same H H'->SD H' t [[]]->Q (.ref t) H'
noncomputable def qaU (_:W.Frag):Sp:=λvs H Q _=>∃ (p q:Addr) (s o:List Int),vs=[.ref p,.ref q]/\SD H p [s]/\SD H q [o]/\(s=[]\/o=[])/\∀ (t:Addr) (H':Hp),Same H H'->SD H' t [if o=[] then s else o]->Q (.ref t) H'
noncomputable def qa0 (_:W.Frag):Sp:=λvs H Q _=>∃ a p:Int,vs=[.int a,.int p]/\2<=p/\Bd 45000 p/\∀ r:Int,0<=r->r<p->(Int.gcd a p=1->p∣r*a - 1)->Q (.int r) H
noncomputable def qbd (_:W.Frag):Sp:=λvs H Q _=>∃ (p:Addr) (ns:List Int) (m:Int),vs=[.ref p,.int m]/\H p=some (.lst (ns.map V.int))/\0<m/\ns.length<=1000/\∀ r,H r=none->Q (.ref r) (upd H r (.lst ((ns.map (·% m)).map V.int)))
noncomputable def Md (m:Int) (rs:List Int) (f:Nat->Int):Prop:=(∀ z∈rs,0<=z/\z<m)/\∀ k,m∣co rs k - f k
noncomputable def qa6 (_:W.Frag):Sp:=λvs H Q _=>∃ (p:Addr) (ns:List Int) (m:Int),vs=[.ref p,.int m]/\H p=some (.lst (ns.map V.int))/\0<m/\ns.length<=1000/\∀ (r:Addr) (rs:List Int) (H':Hp),Same H H'->H' r=some (.lst (rs.map V.int))->Tz rs->rs.length<=ns.length->Md m rs (co ns)->Q (.ref r) H'
noncomputable def qaQ (_:W.Frag):Sp:=λvs H Q _=>∃ (q:Addr) (ns:List Int) (p:Nat),vs=[.ref q,.int (p:Int)]/\H q=some (.lst (ns.map V.int))/\2<=p/\Bd 45000 (p:Int)/\ns.length<=1000/\(∀ z∈ns,Bd 60000000 z)/\(ns≠[]->Int.gcd (co ns (ns.length - 1)) (p:Int)=1)/\
 ∀ (r:Addr) (rs:List Int) (f:Int) (H':Hp),Same H H'->H' r=some (.lst (rs.map V.int))->rs.length=ns.length->(ns≠[]->co rs (rs.length - 1)=1)->Md (p:Int) rs (λk=>f*co ns k)->Q (.ref r) H'
noncomputable def qbe (_:W.Frag):Sp:=λvs H Q _=>∃ (p q:Addr) (ns ms:List Int) (m:Int) (b:Nat),vs=[.ref p,.ref q,.int m]/\H p=some (.lst (ns.map V.int))/\H q=some (.lst (ms.map V.int))/\0<ms.length/\co ms (ms.length - 1)=1/\0<m/\Bd b m/\(∀ z∈ms,Bd b z)/\b<=60000000/\ns.length<=1000/\ms.length<=1000/\
 ∀ (t r s:Addr) (qs rs:List Int) (H':Hp),Same H H'->H' t=some (.tup [.ref r,.ref s])->H' r=some (.lst (qs.map V.int))->H' s=some (.lst (rs.map V.int))->Tz qs->Tz rs->rs.length<ms.length->Md m rs (λk=>co ns k - cvL qs (co ms) k)->(∀ z∈qs,0<=z/\z<m)->Q (.ref t) H'
noncomputable def qbn (_:W.Frag):Sp:=λvs H Q _=>∃ (p q:Addr) (ns ms:List Int) (m:Int) (b:Nat),vs=[.ref p,.ref q,.int m]/\H p=some (.lst (ns.map V.int))/\H q=some (.lst (ms.map V.int))/\0<ms.length/\co ms (ms.length - 1)=1/\0<m/\Bd b m/\(∀ z∈ms,Bd b z)/\b<=60000000/\ns.length<=1000/\ms.length<=1000/\
 ∀ (s:Addr) (qs rs:List Int) (H':Hp),Same H H'->H' s=some (.lst (rs.map V.int))->Tz rs->rs.length<ms.length->Md m rs (λk=>co ns k - cvL qs (co ms) k)->Q (.ref s) H'
noncomputable def qa4 (_:W.Frag):Sp:=λvs H Q _=>∃ (a b:Addr) (ns ms:List Int) (p:Nat),vs=[.ref a,.ref b,.int (p:Int)]/\H a=some (.lst (ns.map V.int))/\H b=some (.lst (ms.map V.int))/\Pr p/\Bd 45000 (p:Int)/\ns.length<=1000/\ms.length<=1000/\((∃ k,¬ (p:Int)∣co ns k)\/∃ k,¬ (p:Int)∣co ms k)/\
 ∀ (s:Addr) (rs:List Int) (H':Hp),Same H H'->H' s=some (.lst (rs.map V.int))->0<rs.length->rs.length<=1000->co rs (rs.length - 1)=1->(∀ z∈rs,0<=z/\z<(p:Int))->(∀ g:Nat->Int,Dm (p:Int) g (co ns)->Dm (p:Int) g (co ms)->Dm (p:Int) g (co rs))->Dm (p:Int) (co rs) (co ns)->Dm (p:Int) (co rs) (co ms)->Q (.ref s) H'
noncomputable def qcr (_:W.Frag):Sp:=λvs H Q _=>∃ w p:Int,vs=[.int w,.int p]/\0<p/\∀ r:Int,p∣r - w->2*r.natAbs<=p.natAbs->Q (.int r) H
noncomputable def quy (d n c p:Nat):Prop:=2 ^ ((d+n*(2*c+4)+c+2)*(2*(n - 1)))<p
noncomputable def qaS (_:W.Frag):Sp:=λvs H Q _=>∃ (a b:Addr) (ns ms:List Int) (p d n c:Nat),vs=[.ref a,.ref b,.int (p:Int)]/\H a=some (.lst (ns.map V.int))/\H b=some (.lst (ms.map V.int))/\Pr p/\Bd 45000 (p:Int)/\Lz ns/\Lz ms/\(∀ z∈ns,Bd d z)/\(∀ z∈ms,Bd d z)/\d+ns.length*45001<=1000000/\d+ms.length*45001<=1000000/\ns.length<=n/\ms.length<=n/\n<2 ^ c/\2<=n/\(¬ quy d n c p->∀ H',Same H H'->Q .non H')/\
 ∀ (s:Addr) (rs:List Int) (H':Hp),Same H H'->H' s=some (.lst (rs.map V.int))->RC (co ns) (co ms) rs->Prim rs->Q (.ref s) H'
noncomputable def qby (_:W.Frag):Sp:=λvs H Q _=>∃ (a b:Addr) (ns ms:List Int) (d n c:Nat),vs=[.ref a,.ref b]/\H a=some (.lst (ns.map V.int))/\H b=some (.lst (ms.map V.int))/\Tz ns/\Tz ms/\(∀ z∈ns,Bd d z)/\(∀ z∈ms,Bd d z)/\ns.length<=n/\ms.length<=n/\n<=20/\2<=n/\n<2 ^ c/\(d+n*(2*c+4)+c+2)*(2*(n - 1))<=44490/\((ns=[]\/ms=[])->2*3 ^ (ns.length+ms.length)*(d+1)<=60000000)/\
 ∀ (s:Addr) (rs:List Int) (H':Hp),Same H H'->H' s=some (.lst (rs.map V.int))->((ns≠[]\/ms≠[])->RC (co ns) (co ms) rs/\Prim rs)->(ns=[]->ms=[]->rs=[])->Q (.ref s) H'
structure Gq (b c:Nat) (l:List Nu):Prop where
 low:qbI l
 nz:Nz l
 ov:∃ M,Ov l M/\Bd c M/\∀ z∈ovN l M,Bd b z
noncomputable def mnc (g:List Int):List Nu:=g.map λn=>qbv n (co g (g.length - 1))
noncomputable def qds (_:W.Frag):Sp:=λvs H Q _=>∃ a b:Int,vs=[.int a,.int b]/\b≠0/\∀ (p:Addr),H p=none->Q (.ref p) (upd H p (.tup [.int (qbv a b).1,.int (qbv a b).2]))
noncomputable def qor (_:W.Frag):Sp:=λvs H Q _=>∃ (p:Addr) (xs:List V) (l:List Nu),vs=[.ref p]/\H p=some (.lst xs)/\Nums H xs l/\l.length<=1000/\qsX H Q (trim l)
noncomputable def qbY (_:W.Frag):Sp:=λvs H Q _=>∃ (p:Addr) (xs:List V) (l:List Nu) (M:Int),vs=[.ref p]/\H p=some (.tup xs)/\Nums H xs l/\qbI l/\Ov l M/\Bd 400000 M/\(∀ q∈l,Bd 60000000 q.1)/\l.length<=1000/\
 ∀ (r a:Addr) (H':Hp),Same H H'->H' r=some (.tup [.ref a,.int (qe1 l)])->H' a=some (.lst ((qem l).map V.int))->Q (.ref r) H'
noncomputable def qf5 (_:W.Frag):Sp:=λvs H Q _=>∃ (p:Addr) (ns:List Int) (B:Int),vs=[.ref p,.int B]/\H p=some (.lst (ns.map V.int))/\B≠0/\ns.length<=1000/\qsX H Q (trim (ns.map λn=>qbv n B))
noncomputable def qjR (_:W.Frag):Sp:=λvs H Q _=>∃ (p q:Addr) (xs ys:List V) (l m:List Nu) (b c n e:Nat),vs=[.ref p,.ref q]/\H p=some (.tup xs)/\H q=some (.tup ys)/\Nums H xs l/\Nums H ys m/\Gq b c l/\Gq b c m/\l.length<=n/\m.length<=n/\n<=20/\2<=n/\n<2 ^ e/\(b+n*(2*e+4)+e+2)*(2*(n - 1))<=44490/\c<=90000/\((l=[]\/m=[])->2*3 ^ (l.length+m.length)*(b+1)<=60000000)/\
 (l=[]->m=[]->qsX H Q [])/\((l≠[]\/m≠[])->∀ g,RC (co (qem l)) (co (qem m)) g->Prim g->qsX H Q (mnc g))
noncomputable def qqR (f:Nu->Nu->Nu) (_:W.Frag):Sp:=λvs H Q _=>∃ (p q:Addr) (a b c d:Int),vs=[.ref p,.ref q]/\Nm H p a b/\Nm H q c d/\0<b/\0<d/\Bd 60000000 a/\Bd 60000000 b/\Bd 60000000 c/\Bd 60000000 d/\
 ∀ (r:Addr),H r=none->Q (.ref r) (upd H r (.tup [.int (f (a,b) (c,d)).1,.int (f (a,b) (c,d)).2]))
noncomputable def Cop (T B:Nat->Rat):Prop:=∃ U W:List Rat,∀ k,(qbp k:Rat)=cvL U T k+cvL W B k
noncomputable def qf6 (_:W.Frag):Sp:=λvs H Q _=>∃ (p q:Addr) (ns ms:List Int) (b d:Nat),vs=[.ref p,.ref q]/\H p=some (.lst (ns.map V.int))/\H q=some (.lst (ms.map V.int))/\(∀ z∈ns,Bd b z)/\(∀ z∈ms,Bd d z)/\b<=900000/\d<=900000/\ns.length<=100/\ms.length<=100/\
 ∀ (r:Addr) (H':Hp),Same H H'->H' r=some (.lst ((if ns.length=0\/ms.length=0 then [] else (List.range (ns.length+ms.length - 1)).map λk=>ps ns ms ns.length k).map V.int))->Q (.ref r) H'
structure Fr (l m T B:List Nu):Prop where
 eq:∀ k,cv (pwo T) (pwo m) T.length k=cv (pwo l) (pwo B) l.length k
 st:T.length<=l.length
 sb:B.length<=m.length
structure Fq (b c:Nat) (T B:List Nu):Prop where
 gt:Gq b c T
 gb:Gq b c B
 ne:B≠[]
 one:qmv B (B.length - 1)=(1,1)
 cop:Cop (pwo T) (pwo B)
structure S1 (b c n e:Nat):Prop where
 n20:n<=20
 n2:2<=n
 ne:n<2 ^ e
 lu:(b+n*(2*e+4)+e+2)*(2*(n - 1))<=44490
 cc:c<=60000
 em:2*3 ^ n*(b+1)<=60000000
 dv:(n+2)*(b+n*(2*e+4)+1)<=200000
noncomputable def D1 (b n e:Nat):Nat:=b+n*(2*e+4)
noncomputable def Bt (b n e:Nat):Nat:=3*b+2*D1 b n e+n+1
structure S2 (b n e:Nat):Prop where
 a:S1 b b n e
 n20:2*n - 1<=20
 lu:(Bt b n e+(2*n - 1)*(2*(e+1)+4)+(e+1)+2)*(2*(2*n - 1 - 1))<=44490
 cc:4*b+D1 b n e<=60000
 em:2*3 ^ n*(Bt b n e+1)<=60000000
 dv:(2*n+2)*(D1 b n e+n*(2*e+4)+1)+Bt b n e<=200000
noncomputable def rw' (l:List Nu):List Rat:=(List.range l.length).map (pwo l)
noncomputable def dv (f:Nat->Rat) (k:Nat):Rat:=((k:Rat)+1)*f (k+1)
noncomputable def evN (l:List Nu) (x:Rat):Rat:=evF (pwo l) l.length x l.length
noncomputable def bS (b n e:Nat):Nat:=(b+5)+2*D1 (b+5) n e+n+2*b+1
noncomputable def bM (b n:Nat):Nat:=b+80*n+41*n*n+3
structure Mvd (s:Rat) (b n:Nat) (l L:List Nu):Prop where
 gq:Gq (bM b n) (bM b n) L
 len:L.length=l.length
 top:pwo L (l.length - 1)=pwo l (l.length - 1)
 ev:∀ x,evN L x=evN l (x+s)
noncomputable def qie (_:W.Frag):Sp:=λvs H Q _=>∃ (p:Addr) (xs:List V) (l:List Nu) (b c:Nat),vs=[.ref p]/\H p=some (.tup xs)/\Nums H xs l/\Gq b c l/\l.length<=31/\b<=200000/\c<=200000/\
 ∀ (r:Addr) (R:List Nu) (H':Hp),Same H H'->Pl H' r R->Gq (b+5) c R->R.length=l.length - 1->(∀ k,pwo R k=dv (pwo l) k)->Q (.ref r) H'
noncomputable def qiZ (_:W.Frag):Sp:=λvs H Q _=>∃ (p q:Addr) (xs:List V) (l:List Nu) (a d:Int) (b:Nat),vs=[.ref p,.ref q]/\H p=some (.tup xs)/\Nm H q a d/\Nums H xs l/\Gq b b l/\b<=8000/\Low a d/\Bd 100 a/\Bd 100 d/\l.length<=20/\
 ∀ (r:Addr) (H':Hp) (z:Nu),Same H H'->isN H' (.ref r) z->Low z.1 z.2->Bd 100000 z.1->Bd 100000 z.2->val z=evN l (val (a,d))->Q (.ref r) H'
structure S4 (b n e:Nat):Prop where
 a:S1 (b+5) (b+5) n e
 n20:2*n - 1<=20
 lu:(bS b n e+(2*n - 1)*(2*(e+1)+4)+(e+1)+2)*(2*(2*n - 1 - 1))<=44490
 m:S1 (bM b n+5) (bM b n+5) n e
 s8:bS b n e+4*b<=8000
 m8:bM b n<=8000
noncomputable def Hand (H:Hp) (p a:Addr) (n:Int):Prop:=∃ (ns:List Int) (x y z:Int),H p=some (.lst [.ref a,.int x,.int y,.int z])/\H a=some (.lst (ns.map V.int))/\ns.length<=1000/\a≠p/\0<=x/\x<=n/\0<=y
noncomputable def qdb (K:W.Frag):Sp:=λvs H Q _=>∃ (s:Addr) (ns:List Int),vs=[.ref s]/\SqL K H s (ns.map V.int)/\ns.length<=63/\∀ (p a:Addr) (H':Hp),H p=none->Kp p H H'->Hand H' p a 0->Q (.ref p) H'
noncomputable def qaW (_:W.Frag):Sp:=λvs H Q _=>∃ (p a:Addr) (m n:Int),vs=[.ref p,.int m]/\Hand H p a n/\n<=100000/\0<m/\m<=1000/\
 ∀ (d:Int) (H':Hp),0<=d->d<m->Hand H' p a (n+2)->Kp p H H'->Q (.int d) H'
noncomputable abbrev qbZ:=qds
noncomputable def qa9 (_:W.Frag):Sp:=λvs H Q _=>∃ (p q:Addr) (a b:List Int) (n m:Nat),vs=[.ref p,.ref q]/\H p=some (.lst (a.map V.int))/\H q=some (.lst (b.map V.int))/\0<a.length/\0<b.length/\a.length<=20/\b.length<=20/\(∀ z∈a,Bd n z)/\(∀ z∈b,Bd m z)/\n<=1000/\m<=1000/\
 ∀ (r:Addr) (c:List Int) (H':Hp),Same H H'->H r=none->H' r=some (.lst (c.map V.int))->c.length=a.length+b.length - 1->(Lz a->Lz b->Lz c)->(∀ k,co c k=ps a b a.length k)->Q (.ref r) H'
noncomputable def qbh (_:W.Frag):Sp:=λvs H Q _=>∃ (p q:Addr) (ns:List Int) (t d:Int),vs=[.ref p,.ref q]/\H p=some (.lst (ns.map V.int))/\Nm H q t d/\d≠0/\Bd 1000 t/\(∀ z∈ns,Bd 1000 z)/\ns.length<=1000/\qsX H Q (ns.map λn=>qbv (n*t) d)
noncomputable def qcs (_:W.Frag):Sp:=λvs H Q _=>∃ (p a:Addr) (n:Int),vs=[.ref p]/\Hand H p a n/\n<=90000/\
 ∀ (r:Addr) (t d:Int) (H':Hp),Nm H' r t d->Low t d->t≠0->Bd 4 t->Bd 4 d->Hand H' p a (n+6)->Kp p H H'->Q (.ref r) H'
noncomputable def qbK (_:W.Frag):Sp:=λvs H Q _=>∃ (p a:Addr) (m s n:Int),vs=[.ref p,.int m,.int s]/\Hand H p a n/\n<=90000/\0<=m/\m<=8/\(s=9\/s=30\/s=99)/\
 ∀ (r:Addr) (ns:List Int) (H':Hp),H' r=some (.lst (ns.map V.int))->(ns.length:Int)<=m+1->Lz ns->(∀ z∈ns,-s<=z/\z<=s)->r≠p->r≠a->Hand H' p a (n+40)->Kp p H H'->Q (.ref r) H'
noncomputable def sr (l:List Nu):Sr:=⟨pwo l⟩
noncomputable def si (ns:List Int):Sr:=⟨λk=>(co ns k:Rat)⟩
noncomputable def dI (ns:List Int):List Int:=(List.range (ns.length - 1)).map λk=>((k+1:Nat):Int)*co ns (k+1)
noncomputable def RadOf (F L:Sr):Prop:=∃ S M:Sr,Sr.Pol S/\Sr.Pol L/\Sr.Pol M/\F=S*L/\Sr.D F=S*M/\Sr.Cs L M
noncomputable def qbL (_:W.Frag):Sp:=λvs H Q _=>∃ (p:Addr) (ns:List Int) (b:Nat),vs=[.ref p]/\H p=some (.lst (ns.map V.int))/\ns.length<=100/\(∀ z∈ns,Bd b z)/\b<=100000/\∀ (r:Addr) (H':Hp),Same H H'->H' r=some (.lst ((dI ns).map V.int))->Q (.ref r) H'
noncomputable def qbz (_:W.Frag):Sp:=λvs H Q _=>∃ (p:Addr) (ns:List Int),vs=[.ref p]/\H p=some (.lst (ns.map V.int))/\Lz ns/\(∀ z∈ns,Bd 40 z)/\ns.length<=9/\
 ∀ (r:Addr) (rs:List Int) (H':Hp),Same H H'->H' r=some (.lst (rs.map V.int))->Lz rs->rs.length<=9->(∀ z∈rs,Bd 148 z)->(∃ (c:Rat) (L:Sr),c≠0/\RadOf (si ns) L/\si rs=Sr.num c*L)->0<co rs (rs.length - 1)->Q (.ref r) H'
end Bs
namespace Bs
open PySem L2
noncomputable def hw:List Int->Int->Int->Int
 | [],_,_=>0
 | a::l,t,s=>a*s ^ l.length+t*hw l t s
noncomputable def Rising (rs:List Nu):Prop:=rs.Pairwise λa b=>a.1*b.2<b.1*a.2
noncomputable def lst' (l:List Int):Int:=co l (l.length - 1)
noncomputable def qdc (_:W.Frag):Sp:=λvs H Q _=>∃ (p q:Addr) (a b c d:Int),vs=[.ref p,.ref q]/\Nm H p a b/\Nm H q c d/\Bd 60000000 a/\Bd 60000000 b/\Bd 60000000 c/\Bd 60000000 d/\Q (.bl (decide (a*d<c*b))) H
noncomputable def qbE (_:W.Frag):Sp:=λvs H Q _=>∃ (a:Addr) (ns:List Int),vs=[.ref a]/\H a=some (.lst (ns.map V.int))/\Lz ns/\ns.length<=9/\(∀ z∈ns,Bd 148 z)/\0<lst' ns/\
 ∀ (e:Int) (H':Hp),Same H H'->-200<=e->e<=200->(∀ i,i+1<ns.length->2 ^ (ns.length - 1 - i)*(co ns i).natAbs*2 ^ ((ns.length - 1 - i)*(-e).toNat)<=(lst' ns).natAbs*2 ^ ((ns.length - 1 - i)*e.toNat))->Q (.int e) H'
noncomputable def qbu (_:W.Frag):Sp:=λvs H Q _=>∃ (p:Addr) (ns:List Int) (c:Int) (b:Nat),vs=[.ref p,.int c]/\H p=some (.lst (ns.map V.int))/\ns.length<=20/\(Bd 60 c\/(∀ z∈ns,Bd b z)/\b<=20000/\Bd 1000 c)/\
 ∀ (r:Addr) (rs:List Int) (H':Hp),Same H H'->H r=none->H' r=some (.lst (rs.map V.int))->rs.length=ns.length->(∀ y:Rat,evQ rs y=evQ ns (y+(c:Rat)))->(∀ b',(∀ z∈ns,Bd b' z)->Bd 1000 c->∀ z∈rs,Bd (b'+1001*ns.length*ns.length) z)->Q (.ref r) H'
noncomputable def qbO (_:W.Frag):Sp:=λvs H Q _=>∃ (p:Addr) (ns:List Int),vs=[.ref p]/\H p=some (.lst (ns.map V.int))/\ns.length<=1000/\Q (.int (sgc ns 0:Nat)) H
noncomputable def qe5 (_:W.Frag):Sp:=λvs H Q _=>∃ (p:Addr) (ns:List Int) (b:Nat),vs=[.ref p]/\H p=some (.lst (ns.map V.int))/\ns.length<=20/\(∀ z∈ns,Bd b z)/\b<=100000000/\
 ∀ (r:Addr) (rs:List Int) (H':Hp),Same H H'->H r=none->H' r=some (.lst (rs.map V.int))->rs.length=ns.length->(∀ z∈rs,Bd (b+20) z)->(∀ y:Rat,evQ rs y=((2 ^ (ns.length - 1):Nat):Rat)*evQ ns (y / 2))->Q (.ref r) H'
structure Sk (Q:List Int) (U V:Rat->Rat) (D:Nat):Prop where
 sf:Sf Q
 H:∃ H:Rat,0<=H/\(∀ u,0<=u->u<=1->U u<=H/\-U u<=H)/\(∀ u,0<=u->u<=1->V u<=H/\-V u<=H)/\H*((gs Q Q.length*(8*Q.length+8):Nat):Rat)<((2 ^ D:Nat):Rat)
 uv:∀ u,0<=u->u<=1->U u*evQ Q u+V u*dQ Q u=1
noncomputable def qbP (_:W.Frag):Sp:=λvs H Q _=>∃ (p:Addr) (ns:List Int) (U W:Rat->Rat) (D b:Nat),vs=[.ref p]/\H p=some (.lst (ns.map V.int))/\ns.length<=9/\(∀ z∈ns,Bd b z)/\b+60*D<=50000000/\Sk ns U W D/\
 ∀ H',Same H H'->Q (.int (Nf (evQ ns) 0 1:Nat)) H'
noncomputable def qcV (_:W.Frag):Sp:=λvs H Q _=>∃ (p s e:Addr) (ns:List Int) (a b:Nu),vs=[.ref p,.ref s,.ref e]/\H p=some (.lst (ns.map V.int))/\Nm H s a.1 a.2/\Nm H e b.1 b.2/\ns.length<=9/\(∀ z∈ns,Bd 148 z)/\0<a.2/\0<b.2/\Bd 210 a.1/\Bd 210 a.2/\Bd 210 b.1/\Bd 210 b.2/\val a<val b/\
 ∀ (r:Addr) (rs:List Int) (H':Hp),Same H H'->H' r=some (.lst (rs.map V.int))->rs.length=ns.length->(∀ z∈rs,Bd 100000 z)->(∃ M:Rat,1<=M/\∀ y:Rat,evQ rs y=M*evQ ns (val a+(val b - val a)*y))->Q (.ref r) H'
noncomputable def Rad (F S:List Int):Prop:=si F≠0/\∃ (c:Rat) (L:Sr),c≠0/\RadOf (si F) L/\si S=Sr.num c*L
noncomputable def sq (F:List Int):List Int:=open Classical in if h:∃ S,Rad F S then Classical.choose h else []
noncomputable def atE (F:List Int):Option Rat->Nat
 | none=>0
 | some h=>if evQ F h=0 then 1 else 0
noncomputable def Cnt (F S:List Int) (lo hi:Option Rat) (k:Nat):Prop:=∃ R0:Rat,∀ R R',R0<=R->R0<=R'->k=Nf (evQ S) (lo.getD (-R)) (hi.getD R')+atE F hi
noncomputable def qqS (F S:List Int):Option Rat->List Rat->List Nat->Prop
 | lo,[],ks=>∃ k,ks=[k]/\Cnt F S lo none k
 | lo,c::cs,ks=>∃ k ks',ks=k::ks'/\Cnt F S lo (some c) k/\qqS F S (some c) cs ks'
noncomputable def EndV (H:Hp) (v:V):Option Nu->Prop
 | none=>v=.non
 | some q=>∃ a,v=.ref a/\Nm H a q.1 q.2/\Low q.1 q.2/\Bd 60 q.1/\Bd 60 q.2
structure Of (H:Hp) (p:Addr) (ns:List Int):Prop where
 ex:∃ (xs:List V) (l:List Nu) (κ:Rat),H p=some (.tup xs)/\Nums H xs l/\Gq 40 40 l/\0<l.length/\l.length<=9/\κ≠0/\si (qem l)=Sr.num κ*si ns
noncomputable def qbk (_:W.Frag):Sp:=λvs H Q _=>∃ (p:Addr) (ns:List Int) (lo hi:Option Nu) (v w:V),vs=[.ref p,v,w]/\Of H p ns/\EndV H v lo/\EndV H w hi/\(∀ a b,lo=some a->hi=some b->val a<val b)/\
 ∀ (k:Nat) (H':Hp),Same H H'->Rad ns (sq ns)->Cnt ns (sq ns) (lo.map val) (hi.map val) k->Q (.int (k:Int)) H'
noncomputable def qej (_:W.Frag):Sp:=λvs H Q _=>∃ (p:Addr) (ns:List Int),vs=[.ref p]/\H p=some (.lst (ns.map V.int))/\Lz ns/\ns.length<=9/\(∀ z∈ns,z.natAbs<=99)/\
 ∀ (r:Addr) (rs:List Int) (H':Hp),Same H H'->H' r=some (.lst (rs.map V.int))->rs.length=ns.length->Lz rs->(∀ z∈rs,Bd 20 z)->(∀ y:Rat,evQ rs y=evQ ns (y - 1))->Q (.ref r) H'
noncomputable def qb0 (_:W.Frag):Sp:=λvs H Q _=>∃ (p q:Addr) (us:List V) (cs:List Nu) (ns:List Int),vs=[.ref p,.ref q]/\Of H p ns/\H q=some (.lst us)/\Nums H us cs/\qbI cs/\cs.length<=3/\Rising cs/\(∀ c∈cs,Bd 60 c.1/\Bd 60 c.2)/\
 ∀ (r:Addr) (ks:List Nat) (H':Hp),Same H H'->H' r=some (.lst ((ks.map λk:Nat=>(k:Int)).map V.int))->Rad ns (sq ns)->qqS ns (sq ns) none (cs.map val) ks->Q (.ref r) H'
end Bs
namespace Bs
open PySem L2
noncomputable def qdd (_:W.Frag):Sp:=λvs H Q _=>∃ (a b:Addr) (ns:List Int) (t s:Int),vs=[.ref a,.ref b]/\H a=some (.lst (ns.map V.int))/\Nm H b t s/\ns.length<=20/\(∀ z∈ns,Bd 100 z)/\Bd 100 t/\Bd 100 s/\Q (.int (hw ns t s)) H
noncomputable def qdt (_:W.Frag):Sp:=λvs H Q _=>∃ (a:Addr) (us:List V) (ls:List Nu),vs=[.ref a]/\H a=some (.lst us)/\Nums H us ls/\qbI ls/\ls.length<=600000/\(∀ q∈ls,Bd 100 q.1/\Bd 100 q.2)/\
 ∀ (r:Addr) (ws:List V) (rs:List Nu) (H':Hp),Same H H'->H' r=some (.lst ws)->Nums H' ws rs->Rising rs->(∀ q,q∈rs↔q∈ls)->Q (.ref r) H'
end Bs
namespace Bs
open PySem L2
section
variable (K:W.Frag)
set_option linter.unusedVariables false
noncomputable def qdy (_:W.Frag):TS:=
 (qaF (qdx (qaP (tOp rNe (qaf 1) (tC (.int 0)))) (qaF (qaK (tOp qrg (qaf 0) (qaf 1)) (qaj 2))
  (qaF (qaK (qaf 1) (qaj 0))
  (qaK (qaf 2) (qaj 1)))))
  (qbG (tCB qpx (qad (qaf 0) qar))))
noncomputable def qlS (_:W.Frag):TS:=
 (qaF (qaK (tC (.int 1)) (qaj 2))
  (qaF (qaK (qaf 0) (qaj 3))
  (qaF (qdx (qaP (tOp iGt (qaf 1) (tC (.int 0)))) (qaF (qeo (qaP (tOp rEq (tOp qiF (qaf 1) (tC (.int 2))) (tC (.int 1)))) (qku 2 (qaf 3) qcf) qbF)
  (qaF (qku 1 (tC (.int 2)) qjD)
  (qeo (qaP (tOp iGt (qaf 1) (tC (.int 0)))) (qku 3 (qaf 3) qcf) qbF))))
  (qbG (qaf 2)))))
noncomputable def qjS:TS:=
 (qaF (qaK (qay (qaG K) [] E0 (qad (qpE (qlB (qc4 K (qaf 0)) [none] (qaj 0) (qaP (tOp rNe (qaf 0) (tC (.int 0)))) (tCB qpx (qad (qaf 0) qar)))) (qad (qaf 1) qar))) (qaj 2))
  (qaF (qep (qc4 K (qaf 0)) (qaj 3) (qaF (qeo (qaP (tOp rEq (qaf 2) (tC (.int 1)))) (qbG (tC (.int 1))) qbF)
  (qaK (qay (qaG K) [] E0 (qad (qaf 3) (qad (qaf 2) qar))) (qaj 2))))
  (qbG (qaf 2))))
noncomputable def qe6 (_:W.Frag):TS:=
 (qaF (qaK (tCB qbs (qad (qaf 0) qar)) (qaj 1))
  (qaF (qdx (qmP (qaP (tOp iGt (qaf 1) (tC (.int 0)))) (qaP (tOp rEq (tOp gL (qaf 0) (tOp qdL (qaf 1) (tC (.int 1)))) (tC (.int 0))))) (qku 1 (tC (.int 1)) qdL))
  (qbG (tSl sL (qaf 0) qcv (qgO (qaf 1))))))
noncomputable def qf7:TS:=
 (qbG (qbU (qc4 K (qaf 0)) [none,some 1] (qaj 0) (tOp qjH (qaf 0) (qaf 1))))
noncomputable def qg9 (_:W.Frag):TS:=
 (qbG (qbU (qmX (qad (tC (.int 1)) (qad (tCB qbs (qad (qaf 0) qar)) qar))) [none,some 0] (qaj 0) (tOp qcf (qaf 0) (tOp gL (qaf 1) (qaf 0)))))
noncomputable def qdX (_:W.Frag):TS:=
 (qeo (qaP (tOp rNe (qaf 6) (tC (.int 0)))) (qep (qgK (qad (qaf 3) qar)) (qaj 7) (qis (qaf 2) (tOp qc6 (qaf 5) (qaf 7)) (tOp qcf (qaf 6) (tOp gL (qaf 1) (qaf 7))) gL qdL qdP)) qbF)
noncomputable def qdY:TS:=
 (qaF (qaK (qaf 6) (qmT (qaf 4) (qaf 5) qdP))
  (qdX K))
noncomputable def qdZ:TS:=
 (qaF (qeo (qaP (tOp rNe (tOp qcf (qaf 6) (tOp gL (qaf 1) (tUn qeQ (tC (.int 1))))) (tOp gL (qaf 2) (tOp qc6 (qaf 5) (qaf 3))))) (qbG (tC .non)) qbF)
  (qdY K))
noncomputable def qd0:TS:=
 (qaF (qaK (tOp qhJ (tOp gL (qaf 2) (tOp qc6 (qaf 5) (qaf 3))) (tOp gL (qaf 1) (tUn qeQ (tC (.int 1))))) (qaj 6))
  (qdZ K))
noncomputable def qf8 (_:W.Frag):TS:=
 (qbG (tIf (tB (tCB qpF (qad (tSl sL (qaf 2) qcv (qgO (qaf 3))) qar))) (tC .non) (qaf 4)))
noncomputable def qf9:TS:=
 (qaF (qep (qmq (qad (tOp qdL (tOp qdL (tCB qbs (qad (qaf 0) qar)) (qaf 3)) (tC (.int 1))) (qad (tUn qeQ (tC (.int 1))) (qad (tUn qeQ (tC (.int 1))) qar)))) (qaj 5) (qd0 K))
  (qf8 K))
noncomputable def qga:TS:=
 (qaF (qaK (tOp qrd (qeT (qad (tC (.int 0)) qar)) (tCB qqt (qad (tOp qdL (tCB qbs (qad (qaf 0) qar)) (qaf 3)) (qad (tC (.int 0)) qar)))) (qaj 4))
  (qf9 K))
noncomputable def qgb:TS:=
 (qaF (qaK (tOp qdL (tCB qbs (qad (qaf 1) qar)) (tC (.int 1))) (qaj 3))
  (qga K))
noncomputable def qif:TS:=
 (qaF (qaK (tCB qf4 (qad (qaf 0) qar)) (qaj 2))
  (qgb K))
noncomputable def qha:TS:=
 (qaF (qaK (qeT qar) (qaj 1))
  (qaF (qep (qmX (qad (tC (.int 1)) (qad (tCB qbs (qad (qaf 0) qar)) qar))) (qaj 2) (qaF (qaK (tOp gL (qaf 0) (tOp qdL (tOp qdL (tCB qbs (qad (qaf 0) qar)) (tC (.int 1))) (qaf 2))) (qaj 3))
  (qeo (qaP (tOp rNe (qaf 3) (tC (.int 0)))) (qir (tBM K "list" qeG (qaf 1) (qad (tUn qeQ (tOp qjH (tOp qdL (tOp qdL (qsi K "int" qrl (tOp gL (qaf 0) (tUn qeQ (tC (.int 1))))) (qsi K "int" qrl (qaf 3))) (tC (.int 1))) (qaf 2))) qar))) qbF)))
  (qbG (tOp qc6 (tC (.int 1)) (qsL (qaf 1))))))
noncomputable def qig:TS:=
 (qaF (qaK (qbU (qc4 K (qaf 0)) [none,some 1] (qaj 0) (tOp qcf (qaf 1) (qaf 0))) (qaj 5))
  (qaF (qir (tBM K "list" qiz (qaf 5) (qad (tOp qrd (qeT (qad (tC (.int 0)) qar)) (tOp qdL (tOp qc6 (tCB qbs (qad (qaf 2) qar)) (qaf 4)) (tCB qbs (qad (qaf 0) qar)))) qar)))
  (qaF (qep (qf3 K (qad (qaf 2) qar)) (qiJ 2 (qeF (qaj 6) (qeF (qaj 7) qpn))) (qis (qaf 5) (tOp qc6 (qaf 6) (qaf 4)) (tOp qcf (qaf 3) (qaf 7)) gL qdL qdP))
  (qbG (qay (qaZ K) [] E0 (qad (qaf 5) qar))))))
noncomputable def qhb (_:W.Frag):TS:=
 (qaF (qaK (tCB qf4 (qad (qaf 0) qar)) (qaj 2))
  (qaF (qep (qgK (qad (tOp qdL (tCB qbs (qad (qaf 0) qar)) (tC (.int 1))) qar)) (qaj 3) (qep (qmq (qad (tOp qdL (tCB qbs (qad (qaf 0) qar)) (tC (.int 2))) (qad (tOp qdL (qaf 3) (tC (.int 1))) (qad (tUn qeQ (tC (.int 1))) qar)))) (qaj 4) (qis (qaf 2) (qaf 4) (tOp qcf (qaf 1) (tOp gL (qaf 2) (tOp qc6 (qaf 4) (tC (.int 1))))) gL qc6 qdP)))
  (qbG (qaf 2))))
noncomputable def qe7:TS:=
 (qaK (qbU (qtG K (qad (qaf 0) (qad (qaf 1) qar))) [none,none,some 6,some 7,some 2] (qiJ 2 (qeF (qaj 0) (qeF (qaj 1) qpn))) (qay (qbX K) [] E0 (qad (qaf 0) (qad (qaf 2) (qad (qaf 1) (qad (qaf 3) (qad (qaf 4) qar))))))) (qaj 0))
noncomputable def qe8:TS:=
 (qaF (qaK (tOp qhJ (qaf 3) (qaf 5)) (qaj 7))
  (qe7 K))
noncomputable def qe9:TS:=
 (qaF (qaK (tOp qhJ (qaf 4) (qaf 5)) (qaj 6))
  (qe8 K))
noncomputable def qfa:TS:=
 (qaF (qaK (qay (qaG K) [] E0 (qad (qaf 3) (qad (qaf 4) qar))) (qaj 5))
  (qe9 K))
noncomputable def qfb:TS:=
 (qaF (qaK (tOp gL (tOp gL (qaf 1) (tC (.int 0))) (tUn qeQ (tC (.int 1)))) (qaj 4))
  (qfa K))
noncomputable def qfc:TS:=
 (qaF (qaK (tOp gL (tOp gL (qaf 0) (tC (.int 0))) (tUn qeQ (tC (.int 1)))) (qaj 3))
  (qfb K))
noncomputable def qfd:TS:=
 (qaF (qaK (tOp qdL (tCB qbs (qad (tOp gL (qaf 0) (tC (.int 0))) qar)) (tCB qbs (qad (tOp gL (qaf 1) (tC (.int 0))) qar))) (qaj 2))
  (qfc K))
noncomputable def qd1:TS:=
 (qbG (qay (qaM K) [] E0 (qad (qaf 0) qar)))
noncomputable def qfe:TS:=
 (qaF (qdx (qaP (tOp iGe (tCB qbs (qad (tOp gL (qaf 0) (tC (.int 0))) qar)) (tCB qbs (qad (tOp gL (qaf 1) (tC (.int 0))) qar)))) (qfd K))
  (qd1 K))
noncomputable def qcW:TS:=
 (qaF (qaK (tC (.int 0)) (qaj 1))
  (qaF (qep (qc4 K (qaf 0)) (qaj 2) (qaK (qay (qcq K) [] E0 (qad (qaf 2) (qad (qaf 1) qar))) (qaj 1)))
  (qbG (qbU (qc4 K (qaf 0)) [none,some 1] (qaj 0) (qay (qbx K) [] E0 (qad (qaf 0) (qad (qaf 1) qar)))))))
noncomputable def qd2:TS:=
 (qbG (tOp gL (qay (qaM K) [] E0 (qad (qeT (qad (qaf 0) qar)) qar)) (tC (.int 0))))
noncomputable def qd3:TS:=
 (qaF (qdx (qiI (tOp gL (qaf 1) (tC (.int 0)))) (qaF (qeo (qaP (tOp rEq (tCB qbs (qad (tOp gL (qaf 1) (tC (.int 0))) qar)) (tC (.int 1)))) (qbG (qaf 1)) qbF)
  (qaF (qaK (qay (qbm K) [] E0 (qad (qaf 0) (qad (qaf 1) qar))) (qaj 2))
  (qaF (qaK (qaf 1) (qaj 0))
  (qaK (qaf 2) (qaj 1))))))
  (qbG (qaf 0)))
noncomputable def qb8 (_:W.Frag):TS:=
 (qaK (qaf 7) (qaj 5))
noncomputable def qb9:TS:=
 (qaF (qaK (qaf 5) (qaj 4))
  (qb8 K))
noncomputable def qca:TS:=
 (qaF (qaK (tOp qdL (qaf 4) (tOp qcf (qaf 6) (qaf 5))) (qaj 7))
  (qb9 K))
noncomputable def qcb:TS:=
 (qaF (qaK (qaf 7) (qaj 3))
  (qca K))
noncomputable def qcc:TS:=
 (qaF (qaK (qaf 3) (qaj 2))
  (qcb K))
noncomputable def qcd:TS:=
 (qaF (qaK (tOp qdL (qaf 2) (tOp qcf (qaf 6) (qaf 3))) (qaj 7))
  (qcc K))
noncomputable def qce:TS:=
 (qaF (qaK (tOp qjH (qaf 2) (qaf 3)) (qaj 6))
  (qcd K))
noncomputable def qcX (_:W.Frag):TS:=
 (qbG (tOp qiF (qaf 4) (qaf 1)))
noncomputable def qcY:TS:=
 (qaF (qdx (qaP (tOp rNe (qaf 3) (tC (.int 0)))) (qce K))
  (qcX K))
noncomputable def qcZ:TS:=
 (qaF (qaK (tC (.int 1)) (qaj 5))
  (qcY K))
noncomputable def qc0:TS:=
 (qaF (qaK (tC (.int 0)) (qaj 4))
  (qcZ K))
noncomputable def qc1:TS:=
 (qaF (qaK (tOp qiF (qaf 0) (qaf 1)) (qaj 3))
  (qc0 K))
noncomputable def qdz:TS:=
 (qaF (qaK (qaf 1) (qaj 2))
  (qc1 K))
noncomputable def qeq:TS:=
 (qbG (qbU (qc4 K (qaf 0)) [none,some 1] (qaj 0) (tOp qiF (qaf 0) (qaf 1))))
noncomputable def qgc:TS:=
 (qbG (qay (qaZ K) [] E0 (qad (qay (qbd K) [] E0 (qad (qaf 0) (qad (qaf 1) qar))) qar)))
noncomputable def qer:TS:=
 (qaF (qeo (qsg (qiI (qaf 0))) (qbG (qeT qar)) qbF)
  (qaF (qaK (qay (qa0 K) [] E0 (qad (tOp gL (qaf 0) (tUn qeQ (tC (.int 1)))) (qad (qaf 1) qar))) (qaj 2))
  (qbG (qbU (qc4 K (qaf 0)) [none,some 1,some 2] (qaj 0) (tOp qiF (tOp qcf (qaf 0) (qaf 2)) (qaf 1))))))
noncomputable def qcx (_:W.Frag):TS:=
 (qeo (qaP (tOp rNe (qaf 7) (tC (.int 0)))) (qep (qgK (qad (qaf 4) qar)) (qaj 8) (qis (qaf 3) (tOp qc6 (qaf 6) (qaf 8)) (tOp qcf (qaf 7) (tOp gL (qaf 1) (qaf 8))) gL qdL qdP)) qbF)
noncomputable def qcy:TS:=
 (qaF (qaK (qaf 7) (qmT (qaf 5) (qaf 6) qdP))
  (qcx K))
noncomputable def qcz:TS:=
 (qaF (qaK (tOp qiF (tOp gL (qaf 3) (tOp qc6 (qaf 6) (qaf 4))) (qaf 2)) (qaj 7))
  (qcy K))
noncomputable def qdA:TS:=
 (qbG (qmg (qad (qay (qaZ K) [] E0 (qad (qaf 5) qar)) (qad (qay (qa6 K) [] E0 (qad (tSl sL (qaf 3) qcv (qgO (qaf 4))) (qad (qaf 2) qar))) qar))))
noncomputable def qdB:TS:=
 (qaF (qep (qmq (qad (tOp qdL (tOp qdL (tCB qbs (qad (qaf 0) qar)) (qaf 4)) (tC (.int 1))) (qad (tUn qeQ (tC (.int 1))) (qad (tUn qeQ (tC (.int 1))) qar)))) (qaj 6) (qcz K))
  (qdA K))
noncomputable def qdC:TS:=
 (qaF (qaK (tOp qrd (qeT (qad (tC (.int 0)) qar)) (tCB qqt (qad (tOp qdL (tCB qbs (qad (qaf 0) qar)) (qaf 4)) (qad (tC (.int 0)) qar)))) (qaj 5))
  (qdB K))
noncomputable def qdD:TS:=
 (qaF (qaK (tOp qdL (tCB qbs (qad (qaf 1) qar)) (tC (.int 1))) (qaj 4))
  (qdC K))
noncomputable def qes:TS:=
 (qaF (qaK (tCB qf4 (qad (qaf 0) qar)) (qaj 3))
  (qdD K))
noncomputable def qff:TS:=
 (qbG (tOp gT (qay (qbe K) [] E0 (qad (qaf 0) (qad (qaf 1) (qad (qaf 2) qar)))) (tC (.int 1))))
noncomputable def qd4:TS:=
 (qaF (qaK (qay (qaQ K) [] E0 (qad (qay (qa6 K) [] E0 (qad (qaf 0) (qad (qaf 2) qar))) (qad (qaf 2) qar))) (qaj 0))
  (qaF (qaK (qay (qaQ K) [] E0 (qad (qay (qa6 K) [] E0 (qad (qaf 1) (qad (qaf 2) qar))) (qad (qaf 2) qar))) (qaj 1))
  (qaF (qdx (qiI (qaf 1)) (qaF (qaK (qay (qbn K) [] E0 (qad (qaf 0) (qad (qaf 1) (qad (qaf 2) qar)))) (qaj 3))
  (qaF (qaK (qaf 1) (qaj 0))
  (qaK (qay (qaQ K) [] E0 (qad (qaf 3) (qad (qaf 2) qar))) (qaj 1)))))
  (qbG (qaf 0)))))
noncomputable def qjT (_:W.Frag):TS:=
 (qaF (qaK (tOp qiF (qaf 0) (qaf 1)) (qaj 2))
  (qbG (tIf (qaP (tOp iGt (tOp qcf (tC (.int 2)) (qaf 2)) (qaf 1))) (tOp qdL (qaf 2) (qaf 1)) (qaf 2))))
noncomputable def qde:TS:=
 (qaF (qaK (qay (qaG K) [] E0 (qad (tOp gL (qaf 0) (tUn qeQ (tC (.int 1)))) (qad (tOp gL (qaf 1) (tUn qeQ (tC (.int 1)))) qar))) (qaj 3))
  (qaF (qeo (qaP (tOp rEq (tOp qiF (qaf 3) (qaf 2)) (tC (.int 0)))) (qbG (tC .non)) qbF)
  (qaF (qaK (qay (qa4 K) [] E0 (qad (qaf 0) (qad (qaf 1) (qad (qaf 2) qar)))) (qaj 4))
  (qaF (qaK (qay (qaL K) [] E0 (qad (qbU (qc4 K (qaf 4)) [none,some 2,some 3] (qaj 0) (qay (qcr K) [] E0 (qad (tOp qcf (qaf 2) (qaf 0)) (qad (qaf 1) qar)))) qar)) (qaj 5))
  (qaF (qeo (tOr (qaP (tOp qsk (qay (qbt K) [] E0 (qad (qaf 0) (qad (qaf 5) qar))) (tC .non))) (qaP (tOp qsk (qay (qbt K) [] E0 (qad (qaf 1) (qad (qaf 5) qar))) (tC .non)))) (qbG (tC .non)) qbF)
  (qbG (qaf 5)))))))
noncomputable def qgd:TS:=
 (qaF (qaK (qay (qaL K) [] E0 (qad (qaf 0) qar)) (qaj 2))
  (qaF (qaK (qay (qaL K) [] E0 (qad (qaf 1) qar)) (qaj 3))
  (qaF (qeo (qmP (qiI (qaf 0)) (qiI (qaf 1))) (qep (qsh K (tC (.ref (qbW K)))) (qaj 4) (qaF (qaK (qay (qaS K) [] E0 (qad (qaf 2) (qad (qaf 3) (qad (tOp qdL (qay (qda K) [] E0 (qad (tC (.int 2)) (qad (qaf 4) qar))) (tC (.int 1))) qar)))) (qaj 5))
  (qeo (qaP (tOp qpD (qaf 5) (tC .non))) (qbG (qaf 5)) qbF))) qbF)
  (qbG (tOp gL (qay (qaU K) [] E0 (qad (qeT (qad (qaf 2) qar)) (qad (qeT (qad (qaf 3) qar)) qar))) (tC (.int 0)))))))
noncomputable def qet:TS:=
 (qbG (tIf (qaP (tOp iGt (tOp gL (qaf 2) (tUn qeQ (tC (.int 1)))) (tC (.int 0)))) (qaf 2) (qbU (qc4 K (qaf 2)) [none] (qaj 0) (tUn qeQ (qaf 0)))))
noncomputable def qeu:TS:=
 (qaF (qaK (qay (qbt K) [] E0 (qad (qaf 1) (qad (qay (qby K) [] E0 (qad (qaf 1) (qad (qay (qbL K) [] E0 (qad (qaf 1) qar)) qar))) qar))) (qaj 2))
  (qet K))
noncomputable def qge:TS:=
 (qaF (qaK (qay (qaL K) [] E0 (qad (qaf 0) qar)) (qaj 1))
  (qeu K))
noncomputable def qos:TS:=
 (qaF (qaK (qay (qaG K) [] E0 (qad (qaf 0) (qad (qaf 1) qar))) (qaj 2))
  (qaF (qeo (qaP (tOp iLt (qaf 1) (tC (.int 0)))) (qaK (tUn qeQ (qaf 2)) (qaj 2)) qbF)
  (qbG (qmg (qad (tOp qhJ (qaf 0) (qaf 2)) (qad (tOp qhJ (qaf 1) (qaf 2)) qar))))))
noncomputable def qpV (_:W.Frag):TS:=
 (qbG (tOp iLt (tOp qcf (tOp gT (qaf 0) (tC (.int 0))) (tOp gT (qaf 1) (tC (.int 1)))) (tOp qcf (tOp gT (qaf 1) (tC (.int 0))) (tOp gT (qaf 0) (tC (.int 1))))))
noncomputable def qjU:TS:=
 (qaF (qaK (tC (.int 1)) (qaj 1))
  (qaF (qep (qsh K (qaf 0)) (qaj 2) (qku 1 (tOp qjH (tOp gT (qaf 2) (tC (.int 1))) (qay (qaG K) [] E0 (qad (qaf 1) (qad (tOp gT (qaf 2) (tC (.int 1))) qar)))) qcf))
  (qbG (qmg (qad (qbU (qsh K (qaf 0)) [none,some 1] (qaj 0) (tOp qcf (tOp gT (qaf 0) (tC (.int 0))) (tOp qjH (qaf 1) (tOp gT (qaf 0) (tC (.int 1)))))) (qad (qaf 1) qar))))))
noncomputable def qqT:TS:=
 (qaF (qaK (qay (qbY K) [] E0 (qad (qaf 0) qar)) (qaj 2))
  (qaF (qaK (tC (.int 0)) (qaj 3))
  (qaF (qaK (tC (.int 1)) (qaj 4))
  (qaF (qep (qsH K (qad (tOp gT (qaf 2) (tC (.int 0))) qar)) (qaj 5) (qaF (qaK (tOp qc6 (tOp qcf (qaf 3) (tOp gT (qaf 1) (tC (.int 0)))) (tOp qcf (qaf 5) (qaf 4))) (qaj 3))
  (qku 4 (tOp gT (qaf 1) (tC (.int 1))) qcf)))
  (qbG (qay (qds K) [] E0 (qad (tOp qcf (qaf 3) (tOp gT (qaf 1) (tC (.int 1)))) (qad (tOp qcf (tOp gT (qaf 2) (tC (.int 1))) (qaf 4)) qar))))))))
noncomputable def qfN (_:W.Frag):TS:=
 (qbG (qaf 9))
noncomputable def qdf:TS:=
 (qaF (qeo (qmP (qaP (tOp qpD (qaf 2) (tC .non))) (qaP (tOp eqD (qay (qiZ K) [] E0 (qad (qaf 0) (qad (qaf 2) qar))) (qmg (qad (tC (.int 0)) (qad (tC (.int 1)) qar)))))) (qku 9 (tC (.int 1)) qc6) qbF)
  (qfN K))
noncomputable def qdg:TS:=
 (qaF (qaK (qay (qbP K) [] E0 (qad (qay (qcV K) [] E0 (qad (qaf 3) (qad (qaf 7) (qad (qaf 8) qar)))) qar)) (qaj 9))
  (qdf K))
noncomputable def qdh:TS:=
 (qaF (qeo (qsg (tB (qay (qdc K) [] E0 (qad (qaf 7) (qad (qaf 8) qar))))) (qbG (tC (.int 0))) qbF)
  (qdg K))
noncomputable def qdi:TS:=
 (qaF (qaK (tIf (tOr (qaP (tOp qsk (qaf 2) (tC .non))) (tB (qay (qdc K) [] E0 (qad (qaf 5) (qad (qaf 2) qar))))) (qaf 5) (qaf 2)) (qaj 8))
  (qdh K))
noncomputable def qdj:TS:=
 (qaF (qaK (tIf (tOr (qaP (tOp qsk (qaf 1) (tC .non))) (tB (qay (qdc K) [] E0 (qad (qaf 1) (qad (qaf 6) qar))))) (qaf 6) (qaf 1)) (qaj 7))
  (qdi K))
noncomputable def qb1:TS:=
 (qaF (qaK (qmg (qad (tUn qeQ (tOp gT (qaf 5) (tC (.int 0)))) (qad (tOp gT (qaf 5) (tC (.int 1))) qar))) (qaj 6))
  (qdj K))
noncomputable def qdk:TS:=
 (qaF (qaK (qmg (qad (tOp qtH (tC (.int 1)) (tCB qqt (qad (qaf 4) (qad (tC (.int 0)) qar)))) (qad (tOp qtH (tC (.int 1)) (tCB qqt (qad (tUn qeQ (qaf 4)) (qad (tC (.int 0)) qar)))) qar))) (qaj 5))
  (qb1 K))
noncomputable def qfO:TS:=
 (qaF (qaK (qay (qbE K) [] E0 (qad (qaf 3) qar)) (qaj 4))
  (qdk K))
noncomputable def qhc:TS:=
 (qaF (qaK (qay (qbz K) [] E0 (qad (tOp gT (qay (qbY K) [] E0 (qad (qaf 0) qar)) (tC (.int 0))) qar)) (qaj 3))
  (qfO K))
noncomputable def qgm (_:W.Frag):TS:=
 (qku 5 (qaf 3) qcf)
noncomputable def qgn:TS:=
 (qaF (qis (qaf 4) (qaf 6) (qaf 5) gL qcf qdP)
  (qgm K))
noncomputable def qgo (_:W.Frag):TS:=
 (qku 5 (tOp qdL (tOp qcf (tOp gT (qaf 2) (tC (.int 0))) (tOp gT (qaf 1) (tC (.int 1)))) (tOp qcf (tOp gT (qaf 1) (tC (.int 0))) (tOp gT (qaf 2) (tC (.int 1))))) qcf)
noncomputable def qgp:TS:=
 (qaF (qis (qaf 4) (qaf 6) (qaf 5) gL qcf qdP)
  (qgo K))
noncomputable def qi0 (_:W.Frag):TS:=
 (qbG (qaf 4))
noncomputable def qfg:TS:=
 (qaF (qep (qgK (qad (tCB qbs (qad (qaf 0) qar)) qar)) (qaj 6) (qgp K))
  (qi0 K))
noncomputable def qi1:TS:=
 (qaF (qaK (tC (.int 1)) (qaj 5))
  (qfg K))
noncomputable def qfh:TS:=
 (qaF (qaK (qay (qbu K) [] E0 (qad (qaf 4) (qad (tOp qcf (tOp gT (qaf 1) (tC (.int 0))) (tOp gT (qaf 2) (tC (.int 1)))) qar))) (qaj 4))
  (qi1 K))
noncomputable def qfi:TS:=
 (qaF (qep (qmq (qad (tOp qdL (tCB qbs (qad (qaf 0) qar)) (tC (.int 1))) (qad (tUn qeQ (tC (.int 1))) (qad (tUn qeQ (tC (.int 1))) qar)))) (qaj 6) (qgn K))
  (qfh K))
noncomputable def qi2:TS:=
 (qaF (qaK (tC (.int 1)) (qaj 5))
  (qfi K))
noncomputable def qfj:TS:=
 (qaF (qaK (tCB qf4 (qad (qaf 0) qar)) (qaj 4))
  (qi2 K))
noncomputable def qkT:TS:=
 (qaF (qaK (tOp qcf (tOp gT (qaf 1) (tC (.int 1))) (tOp gT (qaf 2) (tC (.int 1)))) (qaj 3))
  (qfj K))
noncomputable def qcA:TS:=
 (qir (tBM K "list" qeG (qaf 2) (qad (qaf 6) qar)))
noncomputable def qcB:TS:=
 (qaF (qir (tBM K "list" qeG (qaf 2) (qad (qaf 5) qar)))
  (qcA K))
noncomputable def qcC:TS:=
 (qaF (qeo (qaP (tOp rEq (tOp gL (qaf 6) (tC (.int 0))) (tC (.int 0)))) (qku 1 (tC (.int 1)) qc6) qbF)
  (qcB K))
noncomputable def qcD:TS:=
 (qaF (qaK (qay (qbu K) [] E0 (qad (qaf 5) (qad (tC (.int 1)) qar))) (qaj 6))
  (qcC K))
noncomputable def qcE:TS:=
 (qaF (qaK (qay (qe5 K) [] E0 (qad (qaf 3) qar)) (qaj 5))
  (qcD K))
noncomputable def qbH:TS:=
 (qeo (qaP (tOp iGt (qaf 4) (tC (.int 1)))) (qcE K) qbF)
noncomputable def qcF:TS:=
 (qaF (qeo (qaP (tOp rEq (qaf 4) (tC (.int 1)))) (qku 1 (tC (.int 1)) qc6) qbF)
  (qbH K))
noncomputable def qcG:TS:=
 (qaF (qaK (qay (qbO K) [] E0 (qad (qay (qbu K) [] E0 (qad (quv (qaf 3)) (qad (tC (.int 1)) qar))) qar)) (qaj 4))
  (qcF K))
noncomputable def qcH:TS:=
 (qaF (qaK (qsi K "list" qtD (qaf 2)) (qaj 3))
  (qcG K))
noncomputable def qdE (_:W.Frag):TS:=
 (qbG (qaf 1))
noncomputable def qdF:TS:=
 (qaF (qdx (qiI (qaf 2)) (qcH K))
  (qdE K))
noncomputable def qdG:TS:=
 (qaF (qaK (qeT (qad (qaf 0) qar)) (qaj 2))
  (qdF K))
noncomputable def qhN:TS:=
 (qaF (qaK (tC (.int 0)) (qaj 1))
  (qdG K))
noncomputable def qpW:TS:=
 (qaF (qaK (tOp qdL (tCB qbs (qad (qaf 0) qar)) (tC (.int 1))) (qaj 1))
  (qbG (qbU (qf3 K (qad (qaf 0) qar)) [none,none,some 1] (qiJ 2 (qeF (qaj 0) (qeF (qaj 1) qpn))) (tOp qtH (qaf 1) (tOp qdL (qaf 2) (qaf 0))))))
noncomputable def qcI (_:W.Frag):TS:=
 (qaK (tIf (qaP (tOp iGt (qaf 3) (tC (.int 0)))) (tC (.int 1)) (tUn qeQ (tC (.int 1)))) (qaj 2))
noncomputable def qcJ:TS:=
 (qaF (qeo (qaP (tOp iLt (tOp qcf (qaf 2) (qaf 3)) (tC (.int 0)))) (qku 1 (tC (.int 1)) qc6) qbF)
  (qcI K))
noncomputable def qdH (_:W.Frag):TS:=
 (qbG (qaf 1))
noncomputable def qdI:TS:=
 (qaF (qep (qc4 K (qaf 0)) (qaj 3) (qeo (qaP (tOp rNe (qaf 3) (tC (.int 0)))) (qcJ K) qbF))
  (qdH K))
noncomputable def qdJ:TS:=
 (qaF (qaK (tC (.int 0)) (qaj 2))
  (qdI K))
noncomputable def qhO:TS:=
 (qaF (qaK (tC (.int 0)) (qaj 1))
  (qdJ K))
noncomputable def qlT:TS:=
 (qaF (qaK (tCB qkH (qad (tSl (sS K) (qaf 0) qcv (qgO (tC (.int 1)))) qar)) (qaj 1))
  (qbG (qeT (qad (tCB qf4 (qad (tSl (sS K) (qaf 0) qcv (qgO (tC (.int 63)))) qar)) (qad (tC (.int 0)) (qad (tOp qjD (tCB qpx (qad (qaf 1) qar)) (tC (.int 2))) (qad (tOp qiF (qaf 1) (tC (.int 2))) qar)))))))
noncomputable def qfk (_:W.Frag):TS:=
 (qaK (tCB qpx (qad (tOp gL (tOp gL (qaf 0) (tC (.int 0))) (tOp gL (qaf 0) (tC (.int 1)))) qar)) (qmT (qaf 0) (tC (.int 2)) qdP))
noncomputable def qfl:TS:=
 (qaF (qaK (tOp qc6 (tOp gL (qaf 0) (tC (.int 1))) (tC (.int 1))) (qmT (qaf 0) (tC (.int 1)) qdP))
  (qfk K))
noncomputable def qfm (_:W.Frag):TS:=
 (qbG (qaf 2))
noncomputable def qfn:TS:=
 (qaF (qaK (tOp qjD (tOp gL (qaf 0) (tC (.int 2))) (qaf 1)) (qmT (qaf 0) (tC (.int 2)) qdP))
  (qfm K))
noncomputable def qfo:TS:=
 (qaF (qaK (tOp qiF (tOp gL (qaf 0) (tC (.int 2))) (qaf 1)) (qaj 2))
  (qfn K))
noncomputable def qih (_:W.Frag):TS:=
 (qbG (tOp qiF (tOp qjD (qaf 5) (tC (.int 7))) (qaf 1)))
noncomputable def qii:TS:=
 (qaF (qaK (tOp qiF (tOp qc6 (tOp qcf (qaf 4) (tOp qc6 (tOp qiF (qaf 4) (tC (.int 39373))) (tOp gL (qaf 0) (tC (.int 1))))) (tOp qcf (tC (.int 31)) (tOp gL (qaf 0) (tC (.int 1))))) (tC (.int 1999999973))) (qaj 5))
  (qih K))
noncomputable def qij:TS:=
 (qaF (qaK (tOp qiF (tOp qcf (tOp qc6 (tOp qc6 (tOp qiF (qaf 3) (tC (.int 2147483629))) (tOp qcf (tC (.int 7919)) (tOp gL (qaf 0) (tC (.int 1))))) (tC (.int 11))) (tOp qc6 (tC (.int 48271)) (tOp qcf (tC (.int 2)) (tOp gL (qaf 0) (tC (.int 1)))))) (tC (.int 2147483647))) (qaj 4))
  (qii K))
noncomputable def qik:TS:=
 (qaF (qaK (tCB qkH (qad (tSl sL (tSl sL (tOp gL (qaf 0) (tC (.int 0))) (qgO (tOp qiF (tOp gL (qaf 0) (tC (.int 1))) (tCB qqt (qad (tC (.int 1)) (qad (tCB qbs (qad (tOp gL (qaf 0) (tC (.int 0))) qar)) qar))))) qcv) qcv (qgO (tC (.int 1)))) qar)) (qaj 3))
  (qij K))
noncomputable def qfP:TS:=
 (qaF (qaK (tOp qc6 (tOp gL (qaf 0) (tC (.int 1))) (tC (.int 1))) (qmT (qaf 0) (tC (.int 1)) qdP))
  (qik K))
noncomputable def qfQ:TS:=
 (qaF (qeo (qmP (qaP (tOp rEq (tOp gL (qaf 0) (tC (.int 3))) (tC (.int 1)))) (qaP (tOp iGt (tOp gL (qaf 0) (tC (.int 2))) (tC (.int 0))))) (qfo K) qbF)
  (qfP K))
noncomputable def qlU:TS:=
 (qaF (qeo (qmP (qaP (tOp rEq (tOp gL (qaf 0) (tC (.int 3))) (tC (.int 1)))) (qmP (qaP (tOp rEq (tOp gL (qaf 0) (tC (.int 2))) (tC (.int 0)))) (qaP (tOp iLt (tOp qc6 (tOp gL (qaf 0) (tC (.int 1))) (tC (.int 1))) (tCB qbs (qad (tOp gL (qaf 0) (tC (.int 0))) qar)))))) (qfl K) qbF)
  (qfQ K))
noncomputable def qil (_:W.Frag):TS:=
 (qaF (qsu 2 3 (qad (tCB qpx (qad (qaf 0) qar)) (qad (tCB qpx (qad (qaf 1) qar)) qar)))
  (qaF (qdx (qaP (tOp iGt (qaf 3) (tC (.int 0)))) (qsu 2 3 (qad (qaf 3) (qad (tOp qiF (qaf 2) (qaf 3)) qar))))
  (qaF (qeo (qaP (tOp iLt (qaf 1) (tC (.int 0)))) (qaK (tUn qeQ (qaf 2)) (qaj 2)) qbF)
  (qbG (qmg (qad (tOp qhJ (qaf 0) (qaf 2)) (qad (tOp qhJ (qaf 1) (qaf 2)) qar)))))))
noncomputable def qfp:TS:=
 (qaF (qaK (tOp qrd (qeT (qad (tC (.int 0)) qar)) (tOp qdL (tOp qc6 (tCB qbs (qad (qaf 0) qar)) (tCB qbs (qad (qaf 1) qar))) (tC (.int 1)))) (qaj 2))
  (qaF (qep (qf3 K (qad (qaf 0) qar)) (qiJ 2 (qeF (qaj 3) (qeF (qaj 4) qpn))) (qep (qf3 K (qad (qaf 1) qar)) (qiJ 2 (qeF (qaj 5) (qeF (qaj 6) qpn))) (qaK (tOp qc6 (tOp gL (qaf 2) (tOp qc6 (qaf 3) (qaf 5))) (tOp qcf (qaf 4) (qaf 6))) (qmT (qaf 2) (tOp qc6 (qaf 3) (qaf 5)) qdP))))
  (qbG (qaf 2))))
noncomputable def qhd:TS:=
 (qbG (tCB qpB (qad (qbU (qc4 K (qaf 0)) [none,some 1] (qaj 0) (qay (qbZ K) [] E0 (qad (tOp qcf (qaf 0) (tOp gT (qaf 1) (tC (.int 0)))) (qad (tOp gT (qaf 1) (tC (.int 1))) qar)))) qar)))
noncomputable def qot:TS:=
 (qaF (qaK (tC (.int 0)) (qaj 2))
  (qaF (qaK (tC (.int 1)) (qaj 3))
  (qaF (qep (qsH K (qad (qaf 0) qar)) (qaj 4) (qaF (qaK (tOp qc6 (tOp qcf (qaf 2) (tOp gT (qaf 1) (tC (.int 0)))) (tOp qcf (qaf 4) (qaf 3))) (qaj 2))
  (qaK (tOp qcf (qaf 3) (tOp gT (qaf 1) (tC (.int 1)))) (qaj 3))))
  (qbG (qaf 2)))))
noncomputable def qjV:TS:=
 (qbG (qay (qbZ K) [] E0 (qad (tOp qcf (tOp gL (qeT (qad (tC (.int 1)) (qad (tUn qeQ (tC (.int 1))) qar))) (qay (qaW K) [] E0 (qad (qaf 0) (qad (tC (.int 2)) qar)))) (tOp qc6 (tC (.int 1)) (qay (qaW K) [] E0 (qad (qaf 0) (qad (tC (.int 9)) qar))))) (qad (tOp qc6 (tC (.int 1)) (qay (qaW K) [] E0 (qad (qaf 0) (qad (tC (.int 9)) qar)))) qar))))
noncomputable def qhe:TS:=
 (qaF (qaK (qeT qar) (qaj 3))
  (qaF (qep (qgK (qad (qay (qaW K) [] E0 (qad (qaf 0) (qad (tOp qc6 (qaf 1) (tC (.int 1))) qar))) qar)) (qaj 4) (qir (tBM K "list" qeG (qaf 3) (qad (tOp gL (qeT (qad (tC (.int 0)) (qad (tC (.int 1)) (qad (tUn qeQ (tC (.int 1))) (qad (tOp qdL (qay (qaW K) [] E0 (qad (qaf 0) (qad (tOp qc6 (tOp qcf (tC (.int 2)) (qaf 2)) (tC (.int 1))) qar))) (qaf 2)) qar))))) (qay (qaW K) [] E0 (qad (qaf 0) (qad (tC (.int 4)) qar)))) qar))))
  (qbG (tOp qsj (qaf 3) (qeT (qad (tOp qcf (tOp gL (qeT (qad (tC (.int 1)) (qad (tUn qeQ (tC (.int 1))) qar))) (qay (qaW K) [] E0 (qad (qaf 0) (qad (tC (.int 2)) qar)))) (tOp qc6 (tC (.int 1)) (qay (qaW K) [] E0 (qad (qaf 0) (qad (qaf 2) qar))))) qar))))))
noncomputable def qcK:TS:=
 (qeo (tOr (qaP (tOp rEq (qaf 3) (tCB qbs (qad (qaf 1) qar)))) (qaP (tOp neD (tOp gL (qaf 1) (qaf 3)) (qaf 2)))) (qir (tBM K "list" qnM (qaf 1) (qad (qaf 3) (qad (qaf 2) qar)))) qbF)
noncomputable def qd5:TS:=
 (qaF (qdx (qmP (qaP (tOp iLt (qaf 3) (tCB qbs (qad (qaf 1) qar)))) (qaP (tOp iLt (tOp qcf (tOp gT (tOp gL (qaf 1) (qaf 3)) (tC (.int 0))) (tOp gT (qaf 2) (tC (.int 1)))) (tOp qcf (tOp gT (qaf 2) (tC (.int 0))) (tOp gT (tOp gL (qaf 1) (qaf 3)) (tC (.int 1))))))) (qaK (tOp qc6 (qaf 3) (tC (.int 1))) (qaj 3)))
  (qcK K))
noncomputable def qd6:TS:=
 (qaF (qaK (tC (.int 0)) (qaj 3))
  (qd5 K))
noncomputable def qjW (_:W.Frag):TS:=
 (qbG (qaf 1))
noncomputable def qgf:TS:=
 (qaF (qep (qc4 K (qaf 0)) (qaj 2) (qd6 K))
  (qjW K))
noncomputable def qmw:TS:=
 (qaF (qaK (qeT qar) (qaj 1))
  (qgf K))
noncomputable def qhP (_:W.Frag):TS:=
 (qaK (qaf 3) (qaj 1))
noncomputable def qev:TS:=
 (qaF (qaK (tOp qc6 (tOp gL (qaf 3) (tC (.int 0))) (qaf 2)) (qmT (qaf 3) (tC (.int 0)) qdP))
  (qhP K))
noncomputable def qew:TS:=
 (qaF (qaK (qay (qa9 K) [] E0 (qad (qaf 1) (qad (qeT (qad (tUn qeQ (tC (.int 1))) (qad (tC (.int 1)) qar))) qar))) (qaj 3))
  (qev K))
noncomputable def qhf (_:W.Frag):TS:=
 (qbG (tSl sL (qaf 1) qcv (qgO (tCB qbs (qad (qaf 0) qar)))))
noncomputable def qhg:TS:=
 (qaF (qep (qsH K (qad (qaf 0) qar)) (qaj 2) (qew K))
  (qhf K))
noncomputable def qou:TS:=
 (qaF (qaK (qeT (qad (tC (.int 0)) qar)) (qaj 1))
  (qhg K))
noncomputable def qmx:TS:=
 (qbG (qbU (qtG K (qad (tOp qsj (qeT (qad (tC .non) qar)) (qaf 1)) (qad (tOp qsj (qaf 1) (qeT (qad (tC .non) qar))) qar))) [none,none,some 0] (qiJ 2 (qeF (qaj 0) (qeF (qaj 1) qpn))) (qay (qbk K) [] E0 (qad (qaf 2) (qad (qaf 0) (qad (qaf 1) qar))))))
noncomputable def qlV:TS:=
 (qbG (tOp eqD (qay (qb0 K) [] E0 (qad (qay (qbh K) [] E0 (qad (qay (qej K) [] E0 (qad (qaf 2) qar)) (qad (qaf 3) qar))) (qad (qaf 9) qar))) (qaf 7)))
noncomputable def qlW:TS:=
 (qaF (qaK (qbU (qc4 K (qaf 6)) [none] (qaj 0) (qmg (qad (tOp qc6 (tOp gT (qaf 0) (tC (.int 0))) (tOp gT (qaf 0) (tC (.int 1)))) (qad (tOp gT (qaf 0) (tC (.int 1))) qar)))) (qaj 9))
  (qlV K))
noncomputable def qov:TS:=
 (qaF (qeo (qmP (qaP (tOp iLt (tCB qbs (qad (qaf 2) qar)) (tC (.int 5)))) (qaP (tOp neD (qay (qb0 K) [] E0 (qad (qay (qbh K) [] E0 (qad (qay (qa9 K) [] E0 (qad (qaf 2) (qad (qaf 2) qar))) (qad (qmg (qad (tC (.int 1)) (qad (tC (.int 1)) qar))) qar))) (qad (qaf 6) qar))) (qaf 7)))) (qbG (tC (.bl false))) qbF)
  (qlW K))
noncomputable def qow:TS:=
 (qaF (qep (qgK (qad (tOp qdL (tCB qbs (qad (qaf 6) qar)) (tC (.int 1))) qar)) (qaj 8) (qeo (qmP (qaP (tOp iLt (tOp qcf (qay (qdd K) [] E0 (qad (qaf 2) (qad (tOp gL (qaf 6) (qaf 8)) qar))) (qay (qdd K) [] E0 (qad (qaf 2) (qad (tOp gL (qaf 6) (tOp qc6 (qaf 8) (tC (.int 1)))) qar)))) (tC (.int 0)))) (qaP (tOp eqD (tOp gL (qaf 7) (tOp qc6 (qaf 8) (tC (.int 1)))) (tC (.int 0))))) (qbG (tC (.bl false))) qbF))
  (qov K))
noncomputable def qox:TS:=
 (qaF (qeo (tOr (qaP (tOp rNe (tCB qkH (qad (qaf 7) qar)) (qay (qbk K) [] E0 (qad (qaf 4) (qad (tC .non) (qad (tC .non) qar)))))) (tOr (qsg (qaP (qlp iLe iLt (tC (.int 0)) (tCB qkH (qad (qaf 7) qar)) (tCB qbs (qad (qaf 2) qar))))) (qaP (tOp iLt (tCB qsN (qad (qaf 7) qar)) (tC (.int 0)))))) (qbG (tC (.bl false))) qbF)
  (qow K))
noncomputable def qrE:TS:=
 (qaF (qaK (qay (qb0 K) [] E0 (qad (qaf 4) (qad (qaf 6) qar))) (qaj 7))
  (qox K))
noncomputable def qoy:TS:=
 (qaF (qaK (qay (qdt K) [] E0 (qad (qaf 5) qar)) (qaj 6))
  (qrE K))
noncomputable def qoz:TS:=
 (qaF (qaK (qbU (qgK (qad (tC (.int 3)) qar)) [none,some 1] (qaj 0) (qay (qbZ K) [] E0 (qad (tOp qdL (qay (qaW K) [] E0 (qad (qaf 1) (qad (tC (.int 61)) qar))) (tC (.int 30))) (qad (tOp qc6 (tC (.int 1)) (qay (qaW K) [] E0 (qad (qaf 1) (qad (tC (.int 7)) qar)))) qar)))) (qaj 5))
  (qoy K))
noncomputable def qrF:TS:=
 (qaF (qaK (qay (qbh K) [] E0 (qad (qaf 2) (qad (qaf 3) qar))) (qaj 4))
  (qoz K))
noncomputable def qoA:TS:=
 (qaF (qaK (qay (qcs K) [] E0 (qad (qaf 1) qar)) (qaj 3))
  (qrF K))
noncomputable def qrG:TS:=
 (qaF (qaK (qay (qbK K) [] E0 (qad (qaf 1) (qad (tOp gL (qeT (qad (tC (.int 6)) (qad (tC (.int 8)) qar))) (tCB qpy (qad (tOp eqD (qay (qaW K) [] E0 (qad (qaf 1) (qad (tC (.int 8)) qar))) (tC (.int 0))) qar))) (qad (tC (.int 99)) qar)))) (qaj 2))
  (qoA K))
noncomputable def qt8:TS:=
 (qaF (qaK (qay (qdb K) [] E0 (qad (qaf 0) qar)) (qaj 1))
  (qrG K))
end
end Bs
namespace Bs
open PySem L2
variable {K:W.Frag} {vs:List V} {H:Hp} {Q:VK} {E:XK}
local macro_rules | `(tactic| rwa [$[$t:term],*]) => do
 let l : Array Lean.Term := (("qaF qaK qay qad qaf qar qaj qmT L2.start qeo tIf qaP L2.tB tOp rI0 rI L2.tC tUn rU qbF qbG qmg qeT qsu qku qir tCB qlp qmP tOr qsg qsr quq qss rEq rNe qdP qc6 qdL qcf qjD qsB qiF qrg qur iLt iLe iGt iGe qeQ gT gL gS qpx qqt qus qpy qsC qbs qsD qut qnp qf2 qqu eqT qnq qnr qqv qqw List.map_cons List.map_nil List.length_cons List.length_nil List.replicate List.cons_append List.nil_append List.append_nil List.getElem?_cons_zero List.getElem?_cons_succ Option.some.injEq exists_eq_left' exists_eq_left V.int.injEq V.bl.injEq V.ref.injEq V.ty.injEq HO.tup.injEq HO.lst.injEq List.cons.injEq and_true true_and and_assoc exists_and_left List.set_cons_zero List.set_cons_succ decide_eq_true_eq decide_eq_false_iff_not Bool.not_eq_true' Bool.true_eq_false Bool.false_eq_true Bool.not_true Bool.not_false if_true if_false ite_true ite_false qns qnt qlu qlv qh5 qh6 qh7 qh8 qh9 Nat.zero_add Nat.reduceAdd Nat.reduceSub qag Int.cast_ofNat_Int decide_true decide_false eq_self not_true_eq_false not_false_eq_true Int.natCast_add Int.natCast_zero reduceCtorEq Nm qiJ qeF qpn qis tSl qcv qgO sL sT qpB qqy qf4 qiI qsG qrd qsj qeG qiz qtD tBM qsi qlx qly qnw qnx qlz qnH qlC qny qnD qnE qpE qrj qpF qsk qpD qjH qhJ qtF qri qcO Option.bind_some Option.bind_none Option.bind Option.join id_eq sS qkH qsJ qaG qda qcq qaZ qbx qbt qbX qbm qaM qaL qaU qa0 qbd qa6 qaQ qbe qbn qa4 qcr qaS qby qds qor qbY qf5 qjR qqR qie qbL qbz qdb qaW qa9 qbh qcs qbK qf6".splitOn " ").map λs => (⟨(Lean.mkIdent s.toName).raw⟩ : Lean.Term)).toArray
 `(tactic| simp only [$[$(l ++ t):term],*])
theorem qt9 {x:Int} (h1:-1099511627776<x) (h2:x<1099511627776):Bd 40 x:=by
 show x.natAbs<1099511627776
 omega
theorem qmy {a b:Int} (ha:Bd 60000000 a) (hb:Bd 60000000 b):IntMulOk a b:=qsK ha hb ∅
theorem qua {a b:Int} (h1:-18446744073709551616<b) (h2:b<18446744073709551616):IntMulOk a b:=IntMulOk.of_right (intBits_le_64 ⋯ ⋯)
theorem qs9 {a b:Int} (h1:-18446744073709551616<a) (h2:a<18446744073709551616):IntMulOk a b:=IntMulOk.of_left (intBits_le_64 ⋯ ⋯)
theorem qfR (h:qaG K vs H Q E):qdy K { nx:=λ_ H'=>Q .non H',rt:=Q } (L2.start ["one","other","rest"] vs) H:=by
 obtain ⟨a,b,rfl,q⟩:=h
 unfold qdy
 rwa []
 refine qb3 (λm σ H'=>∃ (x y:Int) (r:Option V),σ=[some (.int x),some (.int y),r]/\H'=H/\Int.gcd x y=Int.gcd a b/\m=y.natAbs) b.natAbs ⟨a,b,none,rfl,rfl,rfl,rfl⟩ ?_
 rintro m σ H' ⟨x,y,r,rfl,rfl,hg,rfl⟩
 rwa []
 refine qbr (λc=>?_) (λc=>?_)
 ·refine ⟨λσ' H''=>∃ m',m'<y.natAbs/\_,λ_ _ h=>h,?_⟩
  refine ⟨c,_,qno x c,y,x.fmod y,_,rfl,rfl,?_,rfl⟩
  rw [qlt];exact hg
 ·have y0:y=0:=Decidable.not_not.mp c
  subst y0
  have e:(if x<0 then -x else x)=((Int.gcd a b:Nat):Int):=by
   rw [<-hg,Int.gcd_zero_right];split <;> omega
  rw [e];exact q
theorem qpX {ns:List Int} {k:Int} (h0:0<=k) (h:k<(ns.length:Int)):∃ v:Int,atI (ns.map V.int) k=some (.int v):=by
 have hk:k.toNat<ns.length:=by omega
 have ek:k=((k.toNat:Nat):Int):=by omega
 have q:atI (ns.map V.int) ((k.toNat:Nat):Int)=some (.int ns[k.toNat]):=qfE (by rw [waf,wag hk] <;> rfl)
 rw [<-ek] at q
 exact ⟨_,q⟩
theorem qoB (h:qda K vs H Q E):qlS K { nx:=λ_ H'=>Q .non H',rt:=Q } (L2.start ["whole","n","result","square"] vs) H:=by
 obtain ⟨x,n,b,rfl,n0,bx,hb,q⟩:=h
 unfold qlS
 rwa []
 have BP:∀ k:Nat,k<=n.toNat->Bd 60000000 (x ^ k):=λk hk=>(bx.pow k).mono (by
  have:=wa6 b hk
  omega)
 refine qb3 (λm σ H'=>∃ r s:Nat,σ=[some (.int x),some (.int (m:Int)),some (.int (x ^ r)),some (.int (x ^ s))]/\H'=H/\r+s*m=n.toNat) n.toNat ⟨0,1,?_,rfl,⋯⟩ ?_
 ·have e:((n.toNat:Nat):Int)=n:=by omega
  rw [e,Int.pow_zero,show x ^ 1=x by rw [Int.pow_succ,Int.pow_zero,Int.one_mul]]
 rintro m σ H' ⟨r,s,rfl,rfl,hm⟩
 rwa []
 refine qbr (λc=>?_) (λc=>?_)
 ·have m1:1<=m:=by omega
  have sl:s<=s*m:=Nat.le_mul_of_pos_right s m1
  have d2:qtR (m:Int) 2:=⟨∅,(quN ∅ ∅).mono ∅⟩
  have hm2:s*m=(s+s)*(m / 2)+s*(m % 2):=by
   have e:m=2*(m / 2)+m % 2:=(Nat.div_add_mod m 2).symm
   generalize m / 2=u at e ⊢
   generalize m % 2=v at e ⊢
   subst e
   rw [Nat.mul_add]
   congr 1
   rw [<-Nat.mul_assoc,wbl s 2]
   congr 1
   omega
  have ed:((m:Int) / 2)=((m / 2:Nat):Int):=by omega
  rw [ed]
  refine ⟨λσ' H''=>∃ m',m'<m/\_,λ_ _ h=>h,?_⟩
  have fin:∀ r':Nat,r'+(s+s)*(m / 2)=n.toNat->qtR (m:Int) 2/\if 0<((m / 2:Nat):Int) then IntMulOk (x ^ s) (x ^ s)/\∃ m',m'<m/\∃ r s_1,[some (V.int x),some (V.int ((m / 2:Nat):Int)),some (V.int (x ^ r')),some (V.int (x ^ s*x ^ s))]=[some (V.int x),some (V.int (m':Int)),some (V.int (x ^ r)),some (V.int (x ^ s_1))]/\H'=H'/\r+s_1*m'=n.toNat
    else ∃ m',m'<m/\∃ r s_1,[some (V.int x),some (V.int ((m / 2:Nat):Int)),some (V.int (x ^ r')),some (V.int (x ^ s))]=[some (V.int x),some (V.int (m':Int)),some (V.int (x ^ r)),some (V.int (x ^ s_1))]/\H'=H'/\r+s_1*m'=n.toNat:=λr' hr'=>by
   refine ⟨d2,qbr (λc2=>?_) (λc2=>?_)⟩
   ·exact ⟨qmy (BP s ⋯) (BP s ⋯),m / 2,⋯,r',s+s,by rw [Int.pow_add],rfl,hr'⟩
   ·have z:m / 2=0:=by omega
    rw [z] at hr' ⊢
    exact ⟨0,⋯,r',s,rfl,rfl,⋯⟩
  refine ⟨∅,qbr (λc2=>⟨qmy (BP r ⋯) (BP s ⋯),?_⟩) (λc2=>?_)⟩
  ·rw [<-Int.pow_add]
   have e1:m % 2=1:=by omega
   rw [e1] at hm2
   exact fin (r+s) ⋯
  ·have e1:m % 2=0:=by omega
   rw [e1] at hm2
   exact fin r ⋯
 ·have z:m=0:=by omega
  subst z
  have e:r=n.toNat:=by omega
  subst e
  exact q
theorem qpY {l:List Nu} {i:Nat} {q:Nu} (h:l[i]?=some q):(l.take (i+1)).foldl (λB q=>B*(q.2 / ((Int.gcd B q.2:Nat):Int))) 1=(l.take i).foldl (λB q=>B*(q.2 / ((Int.gcd B q.2:Nat):Int))) 1*(q.2 / ((Int.gcd ((l.take i).foldl (λB q=>B*(q.2 / ((Int.gcd B q.2:Nat):Int))) 1) q.2:Nat):Int)):=by
 rw [wbz,h,List.foldl_append]
 rfl
theorem qcm {α β:Type} {l:List α} {i:Nat} {q:α} (f:α->β) (h:l[i]?=some q):(l.take (i+1)).map f=(l.take i).map f++[f q]:=by
 rw [wbz,h,wb6]
 rfl
theorem qa7 (n:Nat) (f:Nat->Int):(qbB n f).length=n:=by unfold qbB;rw [waa,waa,waw]
theorem qaT {n k:Nat} (f:Nat->Int) (h:k<n):(qbB n f)[k]?=some (.int (f k)):=by
 unfold qbB
 rw [waf,waf,wb2 h]
 rfl
theorem qcn {n k:Nat} {f g:Nat->Int} {z:Int} (h:k<n) (h1:g k=z) (h2:∀ i,i<n->i≠k->g i=f i):(qbB n f).set k (.int z)=qbB n g:=by
 apply wcg
 intro i
 by_cases hi:i<n
 ·by_cases e:i=k
  ·subst e
   rw [List.getElem?_set_self (by rw [qa7];exact hi),qaT g hi,h1]
  ·rw [List.getElem?_set_ne (λz=>e z.symm),qaT f hi,qaT g hi,h2 i hi e]
 ·rw [wat (by rw [List.length_set,qa7];omega),wat (by rw [qa7];omega)]
theorem qbf {n:Nat} {f g:Nat->Int} (h:∀ i,i<n->g i=f i):qbB n f=qbB n g:=by
 apply wcg
 intro i
 by_cases hi:i<n
 ·rw [qaT f hi,qaT g hi,h i hi]
 ·rw [wat (by rw [qa7];omega),wat (by rw [qa7];omega)]
theorem qi3 (n:Nat):(List.replicate n [V.int 0]).flatten=qbB n λ_=>0:=by
 rw [qdq]
 apply wcg
 intro i
 by_cases hi:i<n
 ·rw [qaT _ hi,wcr,if_pos hi]
 ·rw [wcr,if_neg hi,wat (by rw [qa7];omega)]
theorem qex {n k:Nat} {i:Int} (e:i=(k:Int)) (h:k<n):ixN n i=some k:=by
 subst e
 unfold ixN
 rw [if_pos ⋯,if_pos ⋯]
 simp
theorem qjX {m n:Nat} {x y:Int} (hx:Bd m x) (hy:Bd n y) (hm:m<=60000000:=by decide) (hn:n<=60000000:=by decide):IntMulOk x y:=qmy (hx.mono hm) (hy.mono hn)
theorem qcL (ns:List Int) (m:Nat):qch ns (m+1)=if ns.getD m 1=0 then qch ns m else m+1:=rfl
theorem qhQ (h:qaZ K vs H Q E):qe6 K { nx:=λ_ H'=>Q .non H',rt:=Q } (L2.start ["row","many"] vs) H:=by
 obtain ⟨p,ns,rfl,hp,q⟩:=h
 unfold qe6
 rwa [hp]
 have fin:∀ m:Nat,m<=ns.length->qch ns m=qch ns ns.length->qch ns m=m->∀ r,H r=none->Q (V.ref r) (upd H r (.lst (qiw (ns.map V.int) none (some (m:Int))))):=λm h1 h2 h3 r hr=>by
  rw [qjM (by rw [waa];exact h1),<-List.map_take,<-h3,h2]
  exact q r hr
 refine qb3 (λm σ H'=>σ=[some (.ref p),some (.int (m:Int))]/\H'=H/\qch ns m=qch ns ns.length/\m<=ns.length) ns.length ⟨by rw [waa],rfl,rfl,wad _⟩ ?_
 rintro m σ H' ⟨rfl,rfl,ht,hm⟩
 rwa [hp]
 refine qbr (λc=>?_) (λc=>?_)
 ·obtain ⟨k,rfl⟩:∃ k,m=k+1:=⟨m - 1,⋯⟩
  have hv:(ns.map V.int)[k]?=some (V.int (ns.getD k 1)):=by
   rw [waf,wag ⋯,wab,wag ⋯];rfl
  refine ⟨_,qb7 ⋯ hv,rfl,qbr (λc2=>?_) (λc2=>?_)⟩
  ·have z:ns.getD k 1=0:=by injection c2
   rw [qcL,if_pos z] at ht
   exact ⟨λσ' H''=>∃ m',m'<k+1/\_,λ_ _ h=>h,k,⋯,by rw [show ((k+1:Nat):Int) - 1=(k:Int) by omega],rfl,ht,⋯⟩
  ·have z:ns.getD k 1≠0:=λz=>c2 (by rw [z])
   exact fin (k+1) hm ht (by rw [qcL,if_neg z])
 ·have z:m=0:=by omega
  subst z
  exact fin 0 hm ht rfl
theorem qhh (ns:List Int):∀ m,qch ns m<=m
 | 0=>wad 0
 | m+1=>by
   rw [qcL]
   split
   ·exact Nat.le_succ_of_le (qhh ns m)
   ·exact wad _
theorem qhi {ns:List Int}:(qdW ns).length=qch ns ns.length:=by
 unfold qdW
 rw [wa5,Nat.min_eq_left (qhh ns ns.length)]
theorem qjY {ns:List Int} (k:Nat):(qdW ns).getD k 0=ns.getD k 0:=by
 have key:∀ (m:Nat),m<=ns.length->(∀ j,m<=j->j<ns.length->ns.getD j 0=0)->∀ j,qch ns m<=j->j<ns.length->ns.getD j 0=0:=by
  intro m
  induction m with
  | zero=>intro _ h j hj1 hj2;exact h j ⋯ hj2
  | succ m ih=>
    intro hm h j h1 h2
    rw [qcL] at h1
    split at h1
    ·rename_i z
     refine ih ⋯ (λj hj1 hj2=>?_) j h1 h2
     by_cases e:j=m
     ·subst e
      rw [wab,wag hj2] at z ⊢
      exact z
     ·exact h j ⋯ hj2
    ·exact h j h1 h2
 by_cases h1:k<qch ns ns.length
 ·unfold qdW
  rw [wab,wab,List.getElem?_take_of_lt h1]
 ·have e:(qdW ns).getD k 0=0:=by
   rw [wab,wat (by rw [qhi];omega)]
   rfl
  rw [e]
  by_cases h2:k<ns.length
  ·exact (key ns.length (wad _) (λj a b=>absurd b ⋯) k ⋯ h2).symm
  ·rw [wab,wat ⋯]
   rfl
theorem qpZ {ns:List Int} {g:Int} (h:∀ z∈ns,g∣z) (k:Nat):g∣ns.getD k 0:=by
 rw [wab]
 cases e:ns[k]? with
 | none=>exact wby g
 | some z=>exact h z (wau e)
theorem qrH {m:List Nu} (hm:qbI m) (nm:Nz m) (h1:1<=m.length):(qem m).getD (m.length - 1) 0≠0:=by
 rw [qro,qnV]
 have hb:m.length - 1<m.length:=by omega
 have q:=nm m[m.length - 1] (by rw [List.getLast?_eq_getElem?];exact wag hb)
 have e:qmv m (m.length - 1)=m[m.length - 1]:=by unfold qmv;rw [wab,wag hb];rfl
 rw [e]
 refine wa7 q ?_
 have o:=qdT hm
 have d:=o.2 m[m.length - 1] (wbo hb)
 obtain ⟨y,hy⟩:=d
 have p0:=(hm m[m.length - 1] (wbo hb)).pos
 rw [hy,wcx _ (wai p0)]
 intro z
 rw [z,Int.mul_zero] at hy
 have:=o.1
 omega
theorem qp0 {xs:List V} {v:V} (h:1<=xs.length) (e:xs[xs.length - 1]?=some v):atI xs (-1)=some v:=by
 unfold atI ixN
 rw [if_neg ∅,if_pos ⋯,show (-1+(xs.length:Int)).toNat=xs.length - 1 by omega]
 exact e
theorem qp1 (h:qds K vs H Q E):qos K { nx:=λ_ H'=>Q .non H',rt:=Q } (L2.start ["top","bottom","shared"] vs) H:=by
 obtain ⟨a,b,rfl,hb,q⟩:=h
 unfold qos
 rwa []
 have go:∀ s:Int,(s=if b<0 then -((Int.gcd a b:Nat):Int) else ((Int.gcd a b:Nat):Int))->qri a s/\qri b s/\2<=sizeLine/\∀ (p:Addr),H p=none->Q (V.ref p) (upd H p (.tup [.int (a.fdiv s),.int (b.fdiv s)])):=λs hs=>by
  obtain ⟨h1,h2,h3,h4,h5,h6⟩:=qee hb hs
  have e:qbv a b=(a.fdiv s,b.fdiv s):=by
   refine qiM (qcj hb) h3 ?_
   rw [qeh hb,qe2 (q:=(a.fdiv s,b.fdiv s)) (wai h3.pos) hb h4]
  rw [e] at q
  exact ⟨h1,h1,sz ∅,q⟩
 refine qbr (λc=>?_) (λc=>?_)
 ·exact go _ (by rw [if_pos c])
 ·exact go _ (by rw [if_neg c])
theorem qmz (h:qbY K vs H Q E):qjU K { nx:=λ_ H'=>Q .non H',rt:=Q } (L2.start ["P","bottom","number"] vs) H:=by
 obtain ⟨p,xs,l,M,rfl,hp,hN,hL,hO,bM,hB,hl,q⟩:=h
 unfold qjU
 rwa [hp]
 have lx:=hN.length
 have B0:=(qdT hL).1
 have BB:=qlF (wai hO.1) (qlG hL hO) bM
 have qb:∀ q∈l,Bd 400000 q.2:=λq hq=>qlF (wai hO.1) (hO.2 q hq) bM
 refine ⟨⟨_,SqT.of hp⟩,ForT.by (xs:=xs) (λi σ H'=>∃ x,σ=[some (.ref p),some (.int ((l.take i).foldl (λB q=>B*(q.2 / ((Int.gcd B q.2:Nat):Int))) 1)),x]/\H'=H) ⟨none,rfl,rfl⟩ ?_ ?_ ?_⟩
 ·rintro i σ H' _ ⟨x,rfl,rfl⟩
  exact hp
 ·rintro i x σ H' hi ⟨y,rfl,rfl⟩
  obtain ⟨z,hz,p1,rfl,hp1⟩:=hN.get hi
  have zl:=hL z (wau hz)
  have zb:=qb z (wau hz)
  obtain ⟨f1,f3⟩:=qiO (M:=M) (l.take i) 1 (λq hq=>⟨(hL q (wcp hq)).pos,hO.2 q (wcp hq)⟩) ∅ (Int.one_dvd M)
  have f4:=qlF (wai hO.1) f3 bM
  obtain ⟨s1,_,_,s4,s5,s6⟩:=qiK f1 zl.pos
  rwa [hp1]
  refine ⟨s5,qjX f4 (zb.le s4),?_,_,rfl⟩
  rw [qpY hz]
 ·rintro σ H' ⟨x,rfl,rfl⟩
  rw [lx,wbv]
  rwa [hp]
  refine ⟨⟨_,SqT.of hp⟩,CompJ.tup (xs:=xs) (λi ys H''=>i<=xs.length/\ys=((qem l).take i).map V.int/\H''=H') ⟨wae _,rfl,rfl⟩ ?_ ?_ ?_⟩
  ·rintro i ys H'' ⟨h1,rfl,rfl⟩
   refine ⟨h1,sz ?_,hp⟩
   rw [waa,wa5];omega
  ·rintro i x ys H'' hi ⟨h1,rfl,rfl⟩
   obtain ⟨z,hz,p1,rfl,hp1⟩:=hN.get hi
   have zl:=hL z (wau hz)
   have zb:=qb z (wau hz)
   have zn:=hB z (wau hz)
   have hi2:i<xs.length:=(waq.mp hi).1
   rwa [hp1]
   have eB:l.foldl (λB q=>B*(q.2 / ((Int.gcd B q.2:Nat):Int))) 1=qe1 l:=rfl
   rw [eB]
   have cz:(qem l)[i]?=some (z.1*(qe1 l / z.2)):=by unfold qem;rw [waf,hz];rfl
   refine ⟨zl.pos,qjX zn (BB.le (qhK B0 zl.pos)),⋯,?_⟩
   rw [qcm V.int cz]
  ·rintro ys H'' ⟨_,rfl,rfl⟩ a ha
   refine ⟨sz ∅,λr hr=>?_⟩
   have e:(qem l).take xs.length=qem l:=by
    rw [lx,show l.length=(qem l).length by unfold qem;rw [waa],wbv]
   rw [e] at hr ⊢
   have s:=(qah ha (.lst ((qem l).map V.int))).trans (qah hr (.tup [.ref a,.int (qe1 l)]))
   exact q r a _ s qag (qah hr _ _ _ qag)
theorem qta {b:Nat} {l:List Nu} {M:Int} (hl:qbI l) (h:Ov l M) (hb:∀ z∈ovN l M,Bd b z):∀ q∈l,Bd b q.1:=λq hq=>by
 refine (hb (q.1*(M / q.2)) (wax.mpr ⟨q,hq,rfl⟩)).le ?_
 rw [way]
 obtain ⟨y,hy⟩:=h.2 q hq
 have p0:=(hl q hq).pos
 have m0:=h.1
 have:M / q.2=y:=by rw [hy,wcx _ (wai p0)]
 rw [this]
 refine Nat.le_mul_of_pos_right _ ?_
 rcases wbt y.natAbs with z | z
 ·have y0:y=0:=by omega
  rw [y0] at hy;omega
 ·exact z
theorem qlX {g f:List Int} (lg:Lz g) (lf:Lz f) (mq:MQ (co g) (co f)):g.length<=f.length:=by
 obtain ⟨c,c0,A,hA⟩:=mq
 rcases wap f.length g.length with y | y
 ·exfalso
  rcases qhL A with z | ⟨B,lB,_,eB⟩
  ·have:c*co f (f.length - 1)=0:=by rw [hA,qbj,qb6 g z]
   rcases Int.mul_eq_zero.mp this with e | e
   ·exact c0 e
   ·exact lf.2 e
  ·have hB:∀ k,c*co f k=cvL B (co g) k:=λk=>by rw [hA,qbj,qas (λj=>(eB j).symm) g k,<-qbj]
   have b0:=lB.1
   have g0:=lg.1
   have ne:B≠[]:=wb1.mp b0
   obtain ⟨X,t,hX⟩:∃ X t,B=X++[t]:=⟨B.dropLast,B.getLast ne,(wct ne).symm⟩
   have tl:X.length=B.length - 1:=by rw [hX];simp
   have tc:co B (B.length - 1)=t:=by rw [<-tl,hX];unfold co;simp [wab]
   have e:=hB (B.length - 1+(g.length - 1))
   rw [qau ⋯,hX,qbc,<-hX,qbD (n:=g.length) (λi hi=>qau hi) X _ ⋯] at e
   unfold upS at e
   rw [if_pos ⋯,show B.length - 1+(g.length - 1) - X.length=g.length - 1 by omega] at e
   have e2:t*co g (g.length - 1)=0:=by omega
   rcases Int.mul_eq_zero.mp e2 with x | x
   ·exact lB.2 (tc.trans x)
   ·exact lg.2 x
 ·exact y
theorem php:∀ (m n:Nat) (f:Nat->Nat),(∀ i,i<n->f i<m)->m<n->∃ i j,i<j/\j<n/\f i=f j
 | 0,n,f,h,hn=>absurd (h 0 hn) (Nat.not_lt_zero _)
 | m+1,n,f,h,hn=>by
   obtain ⟨n,rfl⟩:∃ k,n=k+1:=⟨n - 1,⋯⟩
   by_cases c:∃ i,i<n/\f i=f n
   ·obtain ⟨i,hi,e⟩:=c
    exact ⟨i,n,hi,⋯,e⟩
   ·have c:∀ i,i<n->f i≠f n:=λi hi e=>c ⟨i,hi,e⟩
    have hv:=h n ⋯
    obtain ⟨i,j,hij,hj,e⟩:=php m n (λi=>if f n<f i then f i - 1 else f i) (λi hi=>by
     have h1:=h i ⋯
     have h2:=c i hi
     show (if f n<f i then f i - 1 else f i)<m
     split <;> omega) ⋯
    refine ⟨i,j,hij,⋯,?_⟩
    have c1:=c i ⋯
    have c2:=c j hj
    have e:(if f n<f i then f i - 1 else f i)=(if f n<f j then f j - 1 else f j):=e
    split at e <;> split at e <;> omega
noncomputable def enc (M:Nat):Nat->(Nat->Nat)->Nat
 | 0,_=>0
 | N+1,e=>e 0+M*enc M N (λk=>e (k+1))
theorem qoC {M:Nat}:∀ (N:Nat) (e:Nat->Nat),(∀ k,k<N->e k<M)->enc M N e<M ^ N
 | 0,_,_=>Nat.one_pos
 | N+1,e,h=>by
   have h1:=qoC N (λk=>e (k+1)) (λk hk=>h (k+1) ⋯)
   have h0:=h 0 ⋯
   show e 0+M*enc M N (λk=>e (k+1))<M ^ (N+1)
   have h2:M*(enc M N (λk=>e (k+1))+1)<=M*M ^ N:=wa6 M h1
   rw [wa1,wbl (M ^ N)]
   rw [Nat.mul_add,Nat.mul_one] at h2
   omega
theorem qi4 {M a b x y:Nat} (ha:a<M) (hb:b<M) (h:a+M*x=b+M*y):a=b/\x=y:=by
 have h1:(a+M*x) % M=a:=by rw [Nat.add_mul_mod_self_left,Nat.mod_eq_of_lt ha]
 have h2:(b+M*y) % M=b:=by rw [Nat.add_mul_mod_self_left,Nat.mod_eq_of_lt hb]
 have e:a=b:=by rw [<-h1,h,h2]
 subst e
 exact ⟨rfl,Nat.eq_of_mul_eq_mul_left ⋯ (Nat.add_left_cancel h)⟩
theorem qkU {M:Nat}:∀ (N:Nat) (e e':Nat->Nat),(∀ k,k<N->e k<M)->(∀ k,k<N->e' k<M)->enc M N e=enc M N e'->∀ k,k<N->e k=e' k
 | 0,_,_,_,_,_,k,hk=>absurd hk (Nat.not_lt_zero _)
 | N+1,e,e',h,h',q,k,hk=>by
   obtain ⟨q1,q2⟩:=qi4 (h 0 ⋯) (h' 0 ⋯) q
   cases k with
   | zero=>exact q1
   | succ k=>exact qkU N _ _ (λk hk=>h (k+1) ⋯) (λk hk=>h' (k+1) ⋯) q2 k ⋯
noncomputable def digs (p:Nat):Nat->Nat->List Int
 | 0,_=>[]
 | N+1,t=>((t % p:Nat):Int)::digs p N (t / p)
theorem qfq (p:Nat):∀ (N t:Nat),(digs p N t).length=N
 | 0,_=>rfl
 | N+1,t=>by show (digs p N (t / p)).length+1=N+1;rw [qfq p N]
theorem qhj {p:Nat} (p0:0<p):∀ (N t:Nat),∀ z∈digs p N t,0<=z/\z<(p:Int)
 | 0,_,z,h=>by cases h
 | N+1,t,z,h=>by
   rcases wa0.mp h with rfl | h
   ·have:=Nat.mod_lt t p0;omega
   ·exact qhj p0 N _ z h
theorem qi5 {p:Nat} (p0:0<p):∀ (N t s:Nat),t<p ^ N->s<p ^ N->digs p N t=digs p N s->t=s
 | 0,t,s,h1,h2,_=>by rw [Nat.pow_zero] at h1 h2;omega
 | N+1,t,s,h1,h2,h=>by
   injection h with a b
   rw [wa1,wbl] at h1 h2
   have:=qi5 p0 N (t / p) (s / p) (Nat.div_lt_of_lt_mul h1) (Nat.div_lt_of_lt_mul h2) b
   have e1:=Nat.div_add_mod t p
   have e2:=Nat.div_add_mod s p
   have a:t % p=s % p:=by exact_mod_cast a
   rw [<-e1,<-e2,this,a]
theorem qjZ {g:Nat->Int} {h q:Nat} (hg:∀ k,(g k).natAbs<=h):∀ (a:List Int),(∀ z∈a,z.natAbs<=q)->∀ k,(cvL a g k).natAbs<=a.length*(q*h)
 | [],_,k=>by show (0:Int).natAbs<=_;simp
 | x::a,ha,0=>by
   rw [qaq]
   have h1:(x*g 0).natAbs<=q*h:=by rw [way];exact Nat.mul_le_mul (ha x (waz ..)) (hg 0)
   have:(x::a).length*(q*h)=a.length*(q*h)+q*h:=by rw [wbi,wb5,Nat.one_mul]
   omega
 | x::a,ha,k+1=>by
   rw [qam]
   have h1:(x*g (k+1)).natAbs<=q*h:=by rw [way];exact Nat.mul_le_mul (ha x (waz ..)) (hg (k+1))
   have h2:=qjZ hg a (λz hz=>ha z (wa4 _ hz)) k
   have:(x::a).length*(q*h)=a.length*(q*h)+q*h:=by rw [wbi,wb5,Nat.one_mul]
   omega
theorem qoD {A B u v:List Int} (lA:Lz A) (lB:Lz B) (q:QI (co A) (co B) qbp) (hu:u.length<B.length) (hv:v.length<A.length) (h:∀ k,cvL u (co A) k+cvL v (co B) k=0):(∀ k,co u k=0)/\∀ k,co v k=0:=by
 obtain ⟨d,d0,U,V,hd⟩:=q
 have half:∀ {A B u v U V:List Int},Lz B->(∀ k,d*qbp k=cvL U (co A) k+cvL V (co B) k)->u.length<B.length->(∀ k,cvL u (co A) k+cvL v (co B) k=0)->∀ k,co u k=0:=λ{A B u v U V} lB hd hu h=>by
  rcases qhL u with z | ⟨f,lf,fl,ef⟩
  ·exact z
  ·exfalso
   have mq:MQ (co B) (co f):=by
    refine ⟨d,d0,qaN (qaJ V u) ((qaJ U v).map ((-1)*·)),λk=>?_⟩
    rw [qax,qat,qaC,qaC,ef k,qbg u k,<-qbw,qas hd,qfK,qei (co A) u U,qei (co B) u V]
    have e:cvL U (cvL u (co A)) k = - cvL U (cvL v (co B)) k:=by
     have:cvL U (cvL u (co A)) k+cvL U (cvL v (co B)) k=0:=by rw [<-qfK];exact qb6 U h k
     omega
    rw [e];omega
   have:=qlX lB lf mq
   omega
 exact ⟨half lB hd hu h,half (A:=B) (B:=A) (u:=v) (v:=u) (U:=V) (V:=U) lA (λk=>by rw [hd k];omega) hv (λk=>by have:=h k;omega)⟩
theorem qp2 {a b:Int} (h:a=b):a∣b:=by rw [h];exact Int.dvd_refl b
theorem cvD {p:Int} {f g:Nat->Int} {S:List Int} (h:∀ k,p∣f k - cvL S g k):∀ (a:List Int) (k:Nat),p∣cvL a f k - cvL a (cvL S g) k
 | [],k=>by show p∣(0:Int) - 0;simp
 | x::a,0=>by
   rw [qaq,qaq]
   have:=wbp (h 0) (Int.dvd_mul_left x _)
   rw [Int.mul_sub] at this
   refine wbp this (qp2 ?_)
   omega
 | x::a,k+1=>by
   rw [qam,qam]
   have h1:=wbp (h (k+1)) (Int.dvd_mul_left x _)
   have h2:=cvD h a k
   rw [Int.mul_sub] at h1
   have:=wbx h1 h2
   refine wbp this (qp2 ?_)
   omega
theorem qd7:∀ (a b:List Int),(qaN a b).length=max a.length b.length
 | [],b=>by show b.length=max 0 b.length;omega
 | a,[]=>by rw [qe3];show a.length=max a.length 0;omega
 | x::a,y::b=>by
   show (qaN a b).length+1=max (a.length+1) (b.length+1)
   rw [qd7 a b];omega
theorem qlY {a b:List Int} (hl:a.length=b.length) (h:∀ k,co a k=co b k):a=b:=by
 refine List.ext_getElem hl λi h1 h2=>?_
 have:=h i
 unfold co at this
 rwa [wab,wab,wag h1,wag h2] at this
theorem lucky {A B G:List Int} {p b:Nat} (hp:Pr p) (lA:Lz A) (lB:Lz B) (q:QI (co A) (co B) qbp) (hA:∀ k,Bd b (co A k)) (hB:∀ k,Bd b (co B k)) (n1:2<=A.length) (m1:2<=B.length) (g2:2<=G.length) (g1:¬ (p:Int)∣co G (G.length - 1)) (dA:Dm (p:Int) (co G) (co A)) (dB:Dm (p:Int) (co G) (co B))
  (big:(2*((A.length+B.length)*2 ^ b)) ^ (A.length+B.length - 2)<p):False:=by
 have p2:=hp.two
 have p0:0<p:=by omega
 generalize hn:A.length - 1=n at *
 generalize hm:B.length - 1=m at *
 generalize hE:(A.length+B.length)*2 ^ b=E at *
 have N1:A.length+B.length - 2=n+m:=by omega
 rw [N1] at big
 have hAn:∀ k,(co A k).natAbs<=2 ^ b:=λk=>wbr (hA k)
 have hBn:∀ k,(co B k).natAbs<=2 ^ b:=λk=>wbr (hB k)
 have E0:0<E:=by rw [<-hE];exact Nat.mul_pos ⋯ (wav ∅)
 obtain ⟨u,hu⟩:∃ u:Nat->List Int,∀ t,u t=(digs p (m+n) t).take m:=⟨_,λ_=>rfl⟩
 obtain ⟨v,hv⟩:∃ v:Nat->List Int,∀ t,v t=(digs p (m+n) t).drop m:=⟨_,λ_=>rfl⟩
 obtain ⟨f,hf⟩:∃ f:Nat->Nat->Int,∀ t k,f t k=cvL (u t) (co A) k+cvL (v t) (co B) k:=⟨_,λ_ _=>rfl⟩
 have ul:∀ t,(u t).length=m:=λt=>by rw [hu,wa5,qfq];omega
 have vl:∀ t,(v t).length=n:=λt=>by rw [hv,List.length_drop,qfq];omega
 have uz:∀ t,∀ z∈u t,0<=z/\z<(p:Int):=λt z hz=>qhj p0 _ t z (wcp (hu t ▸ hz))
 have vz:∀ t,∀ z∈v t,0<=z/\z<(p:Int):=λt z hz=>qhj p0 _ t z (List.mem_of_mem_drop (hv t ▸ hz))
 have fb:∀ t k,(f t k).natAbs<E*p:=λt k=>by
  have h1:=qjZ (q:=p - 1) hAn (u t) (λz hz=>by have:=uz t z hz;omega) k
  have h2:=qjZ (q:=p - 1) hBn (v t) (λz hz=>by have:=vz t z hz;omega) k
  rw [ul] at h1
  rw [vl] at h2
  have h3:(f t k).natAbs<=(m+n)*((p - 1)*2 ^ b):=by
   rw [wb5,hf]
   omega
  refine wb9 h3 ?_
  rw [<-hE]
  have e:(m+n)*((p - 1)*2 ^ b)=((m+n)*2 ^ b)*(p - 1):=by rw [wbl (p - 1),Nat.mul_assoc]
  rw [e]
  exact wa8 (Nat.mul_lt_mul_of_pos_left ⋯ (Nat.mul_pos ⋯ (wav ∅))) (wbe p (wbe _ ⋯))
 obtain ⟨e0,he0⟩:∃ e0:Nat->Nat,∀ t,e0 t=(f t 0 / (p:Int)+(E:Int)).toNat:=⟨_,λ_=>rfl⟩
 obtain ⟨ek,hek⟩:∃ ek:Nat->Nat->Nat,∀ t k,ek t k=(f t (k+1)+((E*p:Nat):Int)).toNat:=⟨_,λ_ _=>rfl⟩
 have e0r:∀ t,0<=f t 0 / (p:Int)+(E:Int)/\f t 0 / (p:Int)+(E:Int)<2*(E:Int):=λt=>by
  have h:=fb t 0
  have h1:-((E:Int)*(p:Int))<=f t 0:=by have:((E*p:Nat):Int)=(E:Int)*(p:Int):=by push_cast;rfl
                                        omega
  have h2:f t 0<(E:Int)*(p:Int):=by have:((E*p:Nat):Int)=(E:Int)*(p:Int):=by push_cast;rfl
                                    omega
  have q1:-(E:Int)<=f t 0 / (p:Int):=by
   refine (Int.le_ediv_iff_mul_le ⋯).mpr ?_
   rw [wb7];exact h1
  have q2:f t 0 / (p:Int)<(E:Int):=Int.ediv_lt_of_lt_mul ⋯ h2
  omega
 have ekr:∀ t k,0<=f t (k+1)+((E*p:Nat):Int)/\f t (k+1)+((E*p:Nat):Int)<2*((E*p:Nat):Int):=λt k=>by
  have h:=fb t (k+1)
  omega
 have e0l:∀ t,e0 t<2*E:=λt=>by have:=e0r t;rw [he0];omega
 have ekl:∀ t k,ek t k<2*(E*p):=λt k=>by have:=ekr t k;rw [hek];omega
 have cl:∀ t,e0 t+2*E*enc (2*(E*p)) (m+n - 1) (ek t)<2*E*(2*(E*p)) ^ (m+n - 1):=λt=>by
  have h1:=qoC (M:=2*(E*p)) (m+n - 1) (ek t) (λk _=>ekl t k)
  have h2:2*E*(enc (2*(E*p)) (m+n - 1) (ek t)+1)<=2*E*(2*(E*p)) ^ (m+n - 1):=wa6 _ h1
  have h3:=e0l t
  rw [Nat.mul_add,Nat.mul_one] at h2
  omega
 have room:2*E*(2*(E*p)) ^ (m+n - 1)<p ^ (m+n):=by
  obtain ⟨N,hN⟩:∃ N,m+n=N+1:=⟨m+n - 1,⋯⟩
  rw [hN,Nat.add_sub_cancel]
  rw [Nat.add_comm n m,hN] at big
  have e:2*E*(2*(E*p)) ^ N=(2*E) ^ (N+1)*p ^ N:=by
   rw [<-Nat.mul_assoc 2 E p,Nat.mul_pow (2*E) p N,wa1,wbl ((2*E) ^ N) (2*E),Nat.mul_assoc (2*E)]
  rw [e,wa1 p,wbl (p ^ N) p]
  exact Nat.mul_lt_mul_of_pos_right big (wav p0)
 obtain ⟨s,t,st,ht,e⟩:=php _ _ _ (λi _=>cl i) room
 obtain ⟨q0,q1⟩:=qi4 (e0l s) (e0l t) e
 have qk:=qkU (m+n - 1) _ _ (λk _=>ekl s k) (λk _=>ekl t k) q1
 have w0:∀ k,(co (u s) k - co (u t) k)=co (qaN (u s) ((u t).map ((-1)*·))) k:=λk=>by rw [qbg,qbg,qbg,qax,qat];omega
 have df:∀ k,f s k - f t k=cvL (qaN (u s) ((u t).map ((-1)*·))) (co A) k+cvL (qaN (v s) ((v t).map ((-1)*·))) (co B) k:=λk=>by
  rw [qax,qax,qat,qat,hf,hf]
  omega
 have hi:∀ k,0<k->f s k - f t k=0:=λk hk=>by
  rcases wap k (m+n) with c | c
  ·have:=qk (k - 1) ⋯
   have r1:=ekr s (k - 1)
   have r2:=ekr t (k - 1)
   rw [hek,hek,show k - 1+1=k by omega] at this
   rw [show k - 1+1=k by omega] at r1 r2
   omega
  ·have z:∀ t,f t k=0:=λt=>by
    rw [hf,qbD (n:=A.length) (λi hi=>qau hi) (u t) k (by rw [ul];omega),qbD (n:=B.length) (λi hi=>qau hi) (v t) k (by rw [vl];omega)];rfl
   rw [z,z];rfl
 have d0:(f s 0 - f t 0).natAbs<p:=by
  have r1:=e0r s
  have r2:=e0r t
  rw [he0,he0] at q0
  have q0:f s 0 / (p:Int)=f t 0 / (p:Int):=by omega
  have m1:=wco (f s 0) p
  have m2:=wco (f t 0) p
  have b1:=wba (f s 0) (show (p:Int)≠0 by omega)
  have b2:=wbg (f s 0) (show (0:Int)<p by omega)
  have b3:=wba (f t 0) (show (p:Int)≠0 by omega)
  have b4:=wbg (f t 0) (show (0:Int)<p by omega)
  rw [q0] at m1
  omega
 have dm:Dm (p:Int) (co G) (co [f s 0 - f t 0]):=by
  obtain ⟨SA,hSA⟩:=dA
  obtain ⟨SB,hSB⟩:=dB
  refine ⟨qaN (qaJ (qaN (u s) ((u t).map ((-1)*·))) SA) (qaJ (qaN (v s) ((v t).map ((-1)*·))) SB),λk=>?_⟩
  have e:co [f s 0 - f t 0] k=f s k - f t k:=by
   cases k with
   | zero=>rfl
   | succ k=>rw [hi (k+1) ⋯];exact qau (by simp)
  rw [e,df,qax (co G),qaC,qaC]
  have h1:=cvD (p:=(p:Int)) hSA (qaN (u s) ((u t).map ((-1)*·))) k
  have h2:=cvD (p:=(p:Int)) hSB (qaN (v s) ((v t).map ((-1)*·))) k
  have:=wbx h1 h2
  refine wbp this (qp2 ?_)
  omega
 have z0:f s 0 - f t 0=0:=by
  by_cases c:(p:Int)∣f s 0 - f t 0
  ·obtain ⟨y,hy⟩:=c
   rcases Int.lt_trichotomy y 0 with z | z | z
   ·have:(p:Int)*y<=(p:Int)*(-1):=wcj ⋯ ⋯
    omega
   ·rw [hy,z];omega
   ·have:(p:Int)*1<=(p:Int)*y:=wcj ⋯ ⋯
    omega
  ·exfalso
   have:=Dm.len hp ⋯ g1 dm ⟨0,c⟩
   simp at this
   omega
 have all:∀ k,cvL (qaN (u s) ((u t).map ((-1)*·))) (co A) k+cvL (qaN (v s) ((v t).map ((-1)*·))) (co B) k=0:=λk=>by
  rw [<-df]
  cases k with
  | zero=>exact z0
  | succ k=>exact hi (k+1) ⋯
 have ll:∀ {a c:List Int} {x:Nat},a.length=x->c.length=x->(qaN a (c.map ((-1)*·))).length=x:=λ{a c x} h1 h2=>by
  rw [qd7,waa,h1,h2];omega
 obtain ⟨c1,c2⟩:=qoD lA lB q (by rw [ll (ul s) (ul t)];omega) (by rw [ll (vl s) (vl t)];omega) all
 have eu:u s=u t:=qlY (by rw [ul,ul]) λk=>by have:=c1 k;rw [<-w0] at this;omega
 have ev:v s=v t:=qlY (by rw [vl,vl]) λk=>by
  have:=c2 k
  rw [qbg,qax,qat,<-qbg,<-qbg] at this;omega
 have:digs p (m+n) s=digs p (m+n) t:=by
  rw [<-List.take_append_drop m (digs p (m+n) s),<-List.take_append_drop m (digs p (m+n) t)]
  rw [<-hu,<-hv,<-hu,<-hv,eu,ev]
 have:=qi5 p0 _ _ _ ⋯ ⋯ this
 omega
theorem qfS:∀ (ts l:List Int),ts.Nodup->(∀ t∈ts,evI l t=0)->l.length<=ts.length->∀ k,co l k=0
 | [],l,_,_,h,k=>qau (by have:l.length=0:=by simpa using h
                         omega)
 | t::ts,l,nd,hr,hl,k=>by
   have nd':=List.nodup_cons.mp nd
   have e0:=hr t (waz ..)
   have sd:co (syn l t) ((syn l t).length - 1)=0:=by rw [qiR];exact qpM l t
   have cd:=qeJ sd
   have z:∀ k,co (syn l t) k=0:=λk=>by
    rw [<-cd k]
    refine qfS ts (syn l t).dropLast nd'.2 (λx hx=>?_) (by rw [List.length_dropLast,qiR];simp at hl;omega) k
    rw [qg1 _ _ x cd]
    have h1:=qn5 l t x
    rw [hr x (wa4 _ hx),e0] at h1
    have ne:x - t≠0:=λq=>nd'.1 (by have:x=t:=by omega
                                   rw [<-this];exact hx)
    have h1:(x - t)*evI (syn l t) x=0:=by omega
    rcases Int.mul_eq_zero.mp h1 with q | q
    ·exact absurd q ne
    ·exact q
   rw [qlJ l t k,z k]
   split
   ·rw [e0];omega
   ·rw [z (k - 1)];omega
theorem qoE (n:Nat):((List.range (2*n+1)).map λi:Nat=>(i:Int) - (n:Int)).Nodup:=by
 unfold List.Nodup
 rw [List.pairwise_map]
 exact (List.nodup_range (n:=2*n+1)).imp λh q=>h ⋯
theorem qlZ (f:Int->Bool):∀ P:List Int,(P.filter f).length+(P.filter λx=>!f x).length=P.length
 | []=>rfl
 | x::P=>by
   have:=qlZ f P
   rw [List.filter_cons,List.filter_cons,wbi]
   cases f x
   ·simp;omega
   ·simp;omega
theorem qp3 {r:List Int} {n:Nat} (r0:∃ k,co r k≠0) (rl:r.length<=n):∃ x:Nat->Int,(∀ i,i<=n->evI r (x i)≠0/\(x i).natAbs<=n)/\∀ i j,i<=n->j<=n->i≠j->x i≠x j:=by
 let P:List Int:=(List.range (2*n+1)).map λi:Nat=>(i:Int) - (n:Int)
 have pl:P.length=2*n+1:=by show ((List.range (2*n+1)).map λi:Nat=>(i:Int) - (n:Int)).length=_;rw [waa,waw]
 have pn:P.Nodup:=qoE n
 have pr:∀ x∈P,x.natAbs<=n:=λx hx=>by
  obtain ⟨i,hi,rfl⟩:=wax.mp hx
  have:=wch.mp hi
  omega
 have parts:(P.filter λx=>decide (evI r x=0)).length+(P.filter λx=>!decide (evI r x=0)).length=P.length:=by
  exact qlZ _ P
 have few:(P.filter λx=>decide (evI r x=0)).length<r.length:=by
  rcases wap (P.filter λx=>decide (evI r x=0)).length r.length with c | c
  ·exact c
  ·exfalso
   obtain ⟨k,hk⟩:=r0
   exact hk (qfS _ r (pn.filter _) (λt ht=>by simpa using (List.mem_filter.mp ht).2) c k)
 let Gd:=P.filter λx=>!decide (evI r x=0)
 have gl:n+1<=Gd.length:=by
  show n+1<=(P.filter λx=>!decide (evI r x=0)).length
  omega
 have gn:Gd.Nodup:=pn.filter _
 refine ⟨λi=>Gd.getD i 0,λi hi=>?_,λi j hi hj hij e=>?_⟩
 ·have hlt:i<Gd.length:=by omega
  have e:Gd.getD i 0=Gd[i]:=by rw [wab,wag hlt];rfl
  show evI r (Gd.getD i 0)≠0/\(Gd.getD i 0).natAbs<=n
  rw [e]
  have m:=List.mem_filter.mp (wbo hlt)
  exact ⟨by simpa using m.2,pr _ m.1⟩
 ·have h1:i<Gd.length:=by omega
  have h2:j<Gd.length:=by omega
  have e:Gd.getD i 0=Gd.getD j 0:=e
  rw [wab,wab,wag h1,wag h2] at e
  have e:Gd[i]=Gd[j]:=e
  have pw:=List.pairwise_iff_getElem.mp gn
  rcases Nat.lt_or_gt_of_ne hij with q | q
  ·exact pw i j h1 h2 q e
  ·exact pw j i h2 h1 q e.symm
theorem qfT {b n c:Nat} {r g A:List Int} (hr:∀ z∈r,Bd b z) (r0:∃ k,co r k≠0) (rl:r.length<=n) (gl:g.length<=n) (hn:n<2 ^ c) (hA:∀ k,co r k=cvL A (co g) k):∀ k,Bd (b+n*(2*c+4)) (co g k):=by
 by_cases g0:g.length=0
 ·intro k;rw [qau ⋯];exact qdo _
 obtain ⟨x,hx,xi⟩:=qp3 r0 rl
 have bx:∀ i,i<=n->Bd c (x i):=λi hi=>by
  show (x i).natAbs<2 ^ c
  have:=(hx i hi).2
  omega
 intro k
 have:=interp (c:=c) (g.length - 1) g (b+n*(c+1)) x (λk hk=>qau ⋯) (λi hi=>bx i ⋯) (λi j hi hj hij=>xi i j ⋯ ⋯ hij) (λi hi=>by
  have ne:=(hx i ⋯).1
  have e:=qpL hA (x i)
  have bd:=qqE (bx i ⋯) r hr
  have le:(evI g (x i)).natAbs<=(evI r (x i)).natAbs:=by
   rw [e,way]
   refine wcw _ ?_
   rcases wbt (evI A (x i)).natAbs with z | z
   ·exact absurd (by rw [e,Int.natAbs_eq_zero.mp z];omega) ne
   ·exact z
  refine (bd.le le).mono ?_
  have:=wbe (c+1) rl
  omega) k
 refine this.mono ?_
 have h1:(g.length - 1)*(c+3)<=n*(c+3):=wbe (c+3) ⋯
 have h2:n*(2*c+4)=n*(c+1)+n*(c+3):=by rw [<-Nat.mul_add];congr 1;omega
 omega
theorem qfr {a g:List Int} (la:Lz a) (lg:Lz g):cvL a (co g) (a.length - 1+(g.length - 1))=co a (a.length - 1)*co g (g.length - 1):=by
 obtain ⟨i,s,rfl⟩:∃ i s,a=i++[s]:=⟨a.dropLast,a.getLast (wb1.mp la.1),(wct _).symm⟩
 have e:(i++[s]).length - 1=i.length:=by rw [wa9];simp
 have hs:co (i++[s]) i.length=s:=by
  unfold co
  rw [wab,wck (wad _),Nat.sub_self];rfl
 rw [e,hs,qbc,qbD (n:=g.length) (λi hi=>qau hi) i _ (by have:=lg.1;omega)]
 unfold upS
 rw [if_pos ⋯,show i.length+(g.length - 1) - i.length=g.length - 1 by omega]
 omega
theorem qoF {X ms:List Int} (lm:Lz ms) {T:Nat} (h:∀ k,T+(ms.length - 1)<=k->cvL X (co ms) k=0):(∀ j,T<=j->co X j=0)/\∀ s,T=s+1->cvL X (co ms) (s+(ms.length - 1))=co X s*co ms (ms.length - 1):=by
 rcases qhL X with z | ⟨Y,lY,_,eY⟩
 ·refine ⟨λj _=>z j,λs _=>?_⟩
  rw [qbj,qb6 ms z,z s];omega
 ·have hY:∀ k,cvL X (co ms) k=cvL Y (co ms) k:=λk=>by rw [qbj,qas (λj=>(eY j).symm) ms k,<-qbj]
  have tp:=qfr lY lm
  have ly:Y.length<=T:=by
   rcases wap T Y.length with c | c
   ·exfalso
    have:=h (Y.length - 1+(ms.length - 1)) ⋯
    rw [hY,tp] at this
    exact wa7 lY.2 lm.2 this
   ·exact c
  refine ⟨λj hj=>by rw [<-eY];exact qau ⋯,λs hs=>?_⟩
  rw [hY,<-eY]
  have y0:=lY.1
  rcases wap Y.length T with c | c
  ·rw [qau ⋯,qbD (n:=ms.length) (λi hi=>qau hi) Y _ (by have:=lm.1;omega)];omega
  ·rw [show s=Y.length - 1 by omega];exact tp
theorem qks {m n:Nat} {x y:Int} (hx:Bd m x) (hy:Bd n y) (hm:m<=60000000:=by omega) (hn:n<=60000000:=by omega):IntMulOk x y:=qmy (hx.mono hm) (hy.mono hn)
theorem qrI {ns:List Int} {m:Int} (ms:List Int) (hms:ms=(ns.filter (λz=>!decide (z=0))).map λz=>if z<0 then -z else z) (h:ms=[]/\m=0\/m∈ms) (d:Int):(∀ z∈ns,d∣z)->d∣m:=by
 intro hd
 rcases h with ⟨_,e⟩ | h
 ·rw [e];exact wby d
 ·rw [hms] at h
  obtain ⟨z,hz,rfl⟩:=wax.mp h
  have:=hd z (List.mem_filter.mp hz).1
  show d∣if z<0 then -z else z
  split
  ·exact Int.dvd_neg.mpr this
  ·exact this
theorem qmA (h:qcq K vs H Q E):qjS K { nx:=λ_ H'=>Q .non H',rt:=Q } (L2.start ["row","start","found","whole"] vs) H:=by
 obtain ⟨p,ns,st,rfl,hp,hl,k⟩:=h
 unfold qjS
 rwa []
 refine ⟨⟨_,SqL.of hp⟩,CompF.lst (xs:=ns.map V.int) (λi ys H'=>i<=ns.length/\H'=H/\ys=(((ns.take i).filter (λz=>!decide (z=0))).map λz=>if z<0 then -z else z).map V.int) ⟨wae _,rfl,rfl⟩ ?_ ?_ ?_⟩
 ·rintro i ys H' ⟨h1,rfl,rfl⟩
  refine ⟨by rw [waa];exact h1,sz ?_,SqL.of hp⟩
  rw [waa,waa]
  exact wa3 (List.length_filter_le _ _) (by rw [wa5];omega)
 ·rintro i x ys H' hi ⟨h1,rfl,rfl⟩
  rw [waf] at hi
  cases e:ns[i]? with
  | none=>rw [e] at hi;cases hi
  | some n=>
    rw [e] at hi
    obtain rfl:V.int n=x:=Option.some.inj hi
    have hi2:i<ns.length:=(waq.mp e).1
    have et:ns.take (i+1)=ns.take i++[n]:=by rw [wbz,e];rfl
    rwa []
    refine qbr (λc=>?_) (λc=>?_)
    ·refine ⟨⋯,?_⟩
     have c0:¬ n=0:=by simpa using c
     simp [et,List.filter_append,c0]
    ·refine ⟨⋯,?_⟩
     have c0:n=0:=by simpa using c
     simp [et,List.filter_append,c0]
 ·rintro ys H' ⟨_,rfl,rfl⟩ a ha
  rw [waa,wbv]
  have sa:=qah ha (.lst (((ns.filter (λz=>!decide (z=0))).map λz=>if z<0 then -z else z).map V.int))
  have hpa:=sa _ _ hp
  refine ⟨_,rfl,_,qag,λm hm=>?_⟩
  have hg:=qrI _ rfl hm
  generalize hHa:upd H' a (.lst (((ns.filter (λz=>!decide (z=0))).map λz=>if z<0 then -z else z).map V.int))=Ha at sa hpa ⊢
  refine ⟨⟨_,SqL.of hpa⟩,ForL.by (xs:=ns.map V.int) (λi σ H2=>∃ (g:Int) (x:Option V),σ=[some (.ref p),some (.int st),some (.int g),x]/\H2=Ha/\0<=g/\g∣st/\(∀ z∈ns.take i,g∣z)/\(∀ d:Int,d∣st->(∀ z∈ns,d∣z)->d∣g)) ⟨_,none,rfl,rfl,⋯,wci m st,λz hz=>(by simp at hz),λd h1 h2=>Int.dvd_coe_gcd (hg d h2) h1⟩ ?_ ?_ ?_⟩
  ·rintro i σ H2 _ ⟨g,x,rfl,rfl,_⟩
   exact SqL.of hpa
  ·rintro i x σ H2 hi ⟨g,y,rfl,rfl,g0,g1,g2,g3⟩
   rw [waf] at hi
   cases e:ns[i]? with
   | none=>rw [e] at hi;cases hi
   | some n=>
     rw [e] at hi
     obtain rfl:V.int n=x:=Option.some.inj hi
     rwa []
     refine qbr (λc=>?_) (λc=>?_)
     ·have c1:g=1:=by simpa using c
      subst c1
      exact k 1 _ sa ∅ (Int.one_dvd _) (λz _=>Int.one_dvd z) g3
     ·refine ⟨⋯,wbp (wci n g) g1,λz hz=>?_,λd h1 h2=>Int.dvd_coe_gcd (h2 n (wau e)) (g3 d h1 h2)⟩
      rw [wbz,e] at hz
      rcases wbk.mp hz with z1 | z1
      ·exact wbp (wci n g) (g2 z z1)
      ·have z2:z=n:=by simpa using z1
       rw [z2];exact wcm n g
  ·rintro σ H2 ⟨g,x,rfl,rfl,g0,g1,g2,g3⟩
   rw [waa,wbv] at g2
   rwa []
   exact k g _ sa g0 g1 g2 g3
theorem qi6 (h:qbx K vs H Q E):qf7 K { nx:=λ_ H'=>Q .non H',rt:=Q } (L2.start ["row","divisor"] vs) H:=by
 obtain ⟨p,ns,g,rfl,hp,g0,hl,q⟩:=h
 unfold qf7
 rwa []
 refine ⟨⟨_,SqL.of hp⟩,CompJ.lst (xs:=ns.map V.int) (λi ys H'=>i<=ns.length/\H'=H/\ys=((ns.map (·/ g)).take i).map V.int) ⟨wae _,rfl,rfl⟩ ?_ ?_ ?_⟩
 ·rintro i ys H' ⟨h1,rfl,rfl⟩
  refine ⟨by rw [waa];exact h1,sz ?_,SqL.of hp⟩
  rw [waa,wa5];omega
 ·rintro i x ys H' hi ⟨h1,rfl,rfl⟩
  rw [waf] at hi
  cases e:ns[i]? with
  | none=>rw [e] at hi;cases hi
  | some n=>
    rw [e] at hi
    obtain rfl:V.int n=x:=Option.some.inj hi
    have hi2:i<ns.length:=(waq.mp e).1
    have gp:0<g:=by
     rcases g0 with h | h
     ·exact h
     ·rw [h] at hi2;exact absurd hi2 (by simp)
    rwa []
    refine ⟨gp,⋯,?_⟩
    rw [qcm V.int (q:=n / g) (by rw [waf,e];rfl)]
 ·rintro ys H' ⟨_,rfl,rfl⟩ a ha
  have e:(ns.map (·/ g)).take (ns.map V.int).length=ns.map (·/ g):=by rw [waa,show ns.length=(ns.map (·/ g)).length by rw [waa],wbv]
  rw [e]
  exact q a ha
theorem qqU {ns:List Int} {k:Nat}:co ns k=ns.getD k 0:=rfl
theorem qi7 (ns:List Int):Tz (qdW ns):=by
 have key:∀ m,m<=ns.length->qch ns m=0\/co ns (qch ns m - 1)≠0:=by
  intro m
  induction m with
  | zero=>intro _;exact .inl rfl
  | succ m ih=>
    intro hm
    rw [qcL]
    split
    ·exact ih ⋯
    ·rename_i z
     right
     rw [show m+1 - 1=m by omega,qqU]
     rw [wab,wag ⋯] at z ⊢
     exact z
 have hl:(qdW ns).length=qch ns ns.length:=qhi
 rcases key ns.length (wad _) with h | h
 ·left
  exact wbd.mp (hl.trans h)
 ·right
  rw [hl]
  show (qdW ns).getD _ 0≠0
  rw [qjY]
  exact h
theorem qi8 (ns:List Int) (k:Nat):co (qdW ns) k=co ns k:=qjY k
theorem qfs (n:Nat) (F:Nat->Int):qbB n F=((List.range n).map F).map V.int:=rfl
theorem qub (ns:List Int) (f:Int) (n:Nat) (h:ns.length<=n):List.map V.int (ns.map (f*·))++List.replicate (n - ns.length) (V.int 0)=qbB n λk=>f*co ns k:=by
 rw [qfs]
 apply wcg
 intro i
 by_cases h1:i<ns.length
 ·rw [wcl (by rw [waa,waa];exact h1),waf,waf,waf,waf,wb2 ⋯,wag h1]
  show _=some (V.int (f*ns.getD i 0))
  rw [wab,wag h1]
  rfl
 ·rw [wck (by rw [waa,waa];omega),waa,waa,waf,waf]
  by_cases h2:i<n
  ·rw [wcr,if_pos ⋯,wb2 h2]
   show _=some (V.int (f*co ns i))
   rw [qau ⋯,Int.mul_zero]
  ·rw [wcr,if_neg ⋯,wat (by rw [waw];omega)]
   rfl
theorem qkV (h:qbX K vs H Q E):qig K { nx:=λ_ H'=>Q .non H',rt:=Q } (L2.start ["row","factor","other","weight","shift","result","place","whole"] vs) H:=by
 obtain ⟨p,q,ns,ms,f,w,s,rfl,hp,hq,hl,hls,bf,bw,bn,bm,k⟩:=h
 unfold qig
 rwa []
 refine ⟨⟨_,SqL.of hp⟩,CompJ.lst (xs:=ns.map V.int) (λi ys H'=>i<=ns.length/\H'=H/\ys=((ns.map (f*·)).take i).map V.int) ⟨wae _,rfl,rfl⟩ ?_ ?_ ?_⟩
 ·rintro i ys H' ⟨h1,rfl,rfl⟩
  refine ⟨by rw [waa];exact h1,sz ?_,SqL.of hp⟩
  rw [waa,wa5];omega
 ·rintro i x ys H' hi ⟨h1,rfl,rfl⟩
  rw [waf] at hi
  cases e:ns[i]? with
  | none=>rw [e] at hi;cases hi
  | some n=>
    rw [e] at hi
    obtain rfl:V.int n=x:=Option.some.inj hi
    have hi2:i<ns.length:=(waq.mp e).1
    rwa []
    refine ⟨qks bf (bn n (wau e)),⋯,?_⟩
    rw [qcm V.int (q:=f*n) (by rw [waf,e];rfl)]
 ·rintro ys H' ⟨_,rfl,rfl⟩ a ha
  have e:(ns.map (f*·)).take (ns.map V.int).length=ns.map (f*·):=by rw [waa,show ns.length=(ns.map (f*·)).length by rw [waa],wbv]
  rw [e]
  generalize hL:max ns.length (s+ms.length)=L
  have sa:=qah ha (.lst (List.map V.int (ns.map (f*·))))
  have hpa:=sa _ _ hp
  have hqa:=sa _ _ hq
  rwa [hpa,hqa]
  refine ⟨qdS qag,sz ∅,λb hb=>?_⟩
  have sb:=qah hb (.lst [.int 0])
  refine ⟨_,sb _ _ hqa,_,sb _ _ hpa,?_⟩
  have e0:(((ms.map V.int).length:Int)+(s:Int) - ((ns.map V.int).length:Int))=(ms.length:Int)+(s:Int) - (ns.length:Int):=by rw [waa,waa]
  rw [e0]
  have ek:((ms.length:Int)+(s:Int) - (ns.length:Int)).toNat=L - ns.length:=by omega
  refine ⟨⋯,⋯,sz (by rw [ek];simp;omega),λc hc=>?_⟩
  rw [ek,qdq]
  have sc:=qah hc (.lst (List.replicate (L - ns.length) (V.int 0)))
  have haa:upd H' a (.lst (List.map V.int (ns.map (f*·)))) a=some (HO.lst (List.map V.int (ns.map (f*·)))):=qag
  have hac:=sc _ _ (sb _ _ haa)
  refine ⟨_,hac,sz (by simp;omega),?_⟩
  rw [qub ns f L ⋯]
  generalize hX:upd (upd (upd H' a (.lst (List.map V.int (ns.map (f*·))))) b (.lst [.int 0])) c (.lst (List.replicate (L - ns.length) (V.int 0)))=Hx at hac ⊢
  have sx:Same H' Hx:=λx o h=>by rw [<-hX];exact sc x o (sb x o (sa x o h))
  have sd:Same H' (upd Hx a (.lst (qbB L λk=>f*co ns k))):=λx o h=>Kp.upd x o (qan h ha) (sx x o h)
  have had:(upd Hx a (.lst (qbB L λk=>f*co ns k))) a=_:=qag
  generalize upd Hx a (.lst (qbB L λk=>f*co ns k))=Hd at sd had ⊢
  refine ⟨⟨_,SqL.of (sd _ _ hq)⟩,ForJ.enumL (xs:=ms.map V.int) (λj σ H2=>∃ x y:Option V,σ=[some (.ref p),some (.int f),some (.ref q),some (.int w),some (.int (s:Int)),some (.ref a),x,y]/\Same H' H2/\H2 a=some (.lst (qbB L λk=>f*co ns k - (if s<=k/\k - s<j then w*co ms (k - s) else 0)))) ⟨none,none,rfl,sd,?_⟩ ?_ ?_ ?_⟩
  ·rw [had]
   exact congrArg (λl=>some (HO.lst l)) (qbf λk _=>by rw [if_neg ⋯];omega)
  ·rintro j σ H2 _ ⟨_,_,_,s2,_⟩
   exact SqL.of (s2 _ _ hq)
  ·rintro j y pq σ H2 hj ⟨y3,y4,rfl,s2,hw2⟩ hpq
   rw [waf] at hj
   cases em:ms[j]? with
   | none=>rw [em] at hj;cases hj
   | some u=>
     rw [em] at hj
     obtain rfl:V.int u=y:=Option.some.inj hj
     have jl:j<ms.length:=(waq.mp em).1
     have ud:co ms j=u:=by rw [qqU,wab,em];rfl
     have sq:=qah hpq (.tup [.int (j:Int),.int u])
     have hw3:=sq _ _ hw2
     rwa [hw3]
     have kl:s+j<L:=by omega
     refine ⟨_,qb7 ⋯ (qaT _ kl),qks bw (bm u (wau em)),_,rfl,s+j,?_,λb o h=>Kp.upd b o (qan h ha) (sq b o (s2 b o h)),?_⟩
     ·rw [qa7];exact qex ⋯ kl
     ·refine qcn kl ?_ λk _ hk=>?_
      ·rw [if_pos ⋯,if_neg ⋯,show s+j - s=j by omega,ud];omega
      ·by_cases h:s<=k/\k - s<j
       ·rw [if_pos h,if_pos ⋯]
       ·rw [if_neg h,if_neg ⋯]
  ·rintro σ H2 ⟨y3,y4,rfl,s2,hw2⟩
   rw [waa,qfs] at hw2
   rwa [hw2]
   refine ⟨_,rfl,λr hr=>k r _ _ (s2.trans (qah hr _)) qag (qi7 _) λi=>?_⟩
   rw [qi8,qgD]
   unfold upS
   by_cases hi:i<L
   ·rw [if_pos hi]
    by_cases h:s<=i
    ·rw [if_pos h]
     by_cases h2:i - s<ms.length
     ·rw [if_pos ⟨h,h2⟩]
     ·rw [if_neg ⋯,qau (a:=ms) ⋯];omega
    ·rw [if_neg h,if_neg ⋯];omega
   ·rw [if_neg hi,qau (a:=ns) ⋯]
    by_cases h:s<=i
    ·rw [if_pos h,qau (a:=ms) ⋯];omega
    ·rw [if_neg h];omega
theorem qrJ (a b:Int):(a.fdiv b).natAbs<=a.natAbs:=by
 rw [Int.fdiv_eq_ediv]
 split
 ·rw [Int.sub_zero];exact Int.natAbs_ediv_le_natAbs a b
 ·rename_i h
  have hb:b<0:=by omega
  have hd:¬ b∣a:=λz=>h (.inr z)
  have e:=Int.mul_ediv_add_emod a b
  have r0:=wba a (show b≠0 by omega)
  have r1:=Int.emod_lt_of_neg a hb
  have rn:a % b≠0:=λz=>hd (Int.dvd_of_emod_eq_zero z)
  generalize a / b=q at *
  generalize a % b=r at *
  rcases Int.lt_or_le q 1 with hq | hq
  ·have h1:(-b)*(-q) ≥ 2*(-q):=wcu ⋯ ⋯
   rw [Int.neg_mul_neg] at h1
   omega
  ·have h1:(-b)*(q - 1) ≥ 1*(q - 1):=wcu ⋯ ⋯
   rw [wb7,Int.mul_sub] at h1
   omega
theorem ql0 {n m:Nat} {F:Nat->Int}:qiw (qbB n F) none (some (m:Int))=((List.range (min m n)).map F).map V.int:=by
 unfold qiw HT.sIx
 simp only [List.drop_zero,Nat.sub_zero,wce]
 rw [if_neg ⋯,qa7]
 unfold qbB
 rw [<-List.map_take,<-List.map_take,List.take_range]
 congr 3
 omega
theorem qp4 {n:Nat} {F:Nat->Int} (h:((List.range n).map F).any (λz=>!decide (z=0))=false):∀ k,k<n->F k=0:=by
 intro k hk
 have:=List.any_eq_false.mp h (F k) (wax.mpr ⟨k,wch.mpr hk,rfl⟩)
 simpa using this
theorem qoG {n s:Nat} {F:Nat->Int} {w:Int} (hs:s<n) (h0:F s=0) (g:Nat->Int) (k:Nat) :
  cvL ((List.range n).map λj=>if j=s then w else F j) g k=cvL ((List.range n).map F) g k+w*upS s g k:=by
 have e:∀ m,m<=n->cvL ((List.range m).map λj=>if j=s then w else F j) g k=cvL ((List.range m).map F) g k+(if s<m then w*upS s g k else 0):=by
  intro m
  induction m with
  | zero=>intro _;rw [if_neg ⋯];rfl
  | succ m ih=>
    intro hm
    rw [List.range_succ,wb6,wb6,List.map_singleton,List.map_singleton,qbc,qbc,ih ⋯,waa,waa,waw]
    by_cases e:m=s
    ·subst e
     rw [if_pos rfl,if_neg ⋯,if_pos ⋯,h0]
     omega
    ·rw [if_neg e]
     by_cases h:s<m
     ·rw [if_pos h,if_pos ⋯];omega
     ·rw [if_neg h,if_neg ⋯];omega
 rw [e n (wad n),if_pos hs]
theorem qa8 {b:Nat} {ns:List Int} (h:∀ z∈ns,Bd b z) (k:Nat):Bd b (co ns k):=qiL h k
theorem qgF {n:Nat} {g:Nat->Int} (k:Nat):cvL ((List.range n).map λ_=>(0:Int)) g k=0:=by
 have e:((List.range n).map λ_=>(0:Int))=(List.replicate n (1:Int)).map (0*·):=by
  apply wcg
  intro i
  rw [waf,waf]
  by_cases h:i<n
  ·rw [wb2 h,wcr,if_pos h];rfl
  ·rw [wat (by rw [waw];omega),wcr,if_neg h];rfl
 rw [e,qat];omega
theorem qrK (ns:List Int):List.map V.int ns=qbB ns.length (co ns):=by
 rw [qfs]
 congr 1
 apply wcg
 intro i
 rw [waf]
 by_cases h:i<ns.length
 ·rw [wb2 h,wag h]
  show _=some (ns.getD i 0)
  rw [wab,wag h];rfl
 ·rw [wat ⋯,wat (by rw [waw];omega)];rfl
theorem qdl {ms:List Int} (h:0<ms.length):atI (ms.map V.int) (-1)=some (V.int (co ms (ms.length - 1))):=by
 refine qp0 (by rw [waa];omega) ?_
 rw [waa,waf,wag ⋯]
 show _=some (V.int (ms.getD (ms.length - 1) 0))
 rw [wab,wag ⋯];rfl
theorem qkW (h:qbt K vs H Q E):qif K { nx:=λ_ H'=>Q .non H',rt:=Q } (L2.start ["row","divisor","rest","last","quotient","shift","weight","place"] vs) H:=by
 obtain ⟨p,q,ns,ms,b,d,rfl,hp,hq,lm,bn,bm,bb,bd1,hn,hm,kN,kR⟩:=h
 have m0:=lm.1
 have lne:=lm.2
 obtain ⟨L,hL⟩:∃ L,ms.length=L+1:=⟨ms.length - 1,⋯⟩
 have hL1:ms.length - 1=L:=by omega
 rw [hL1] at lne
 generalize hlead:co ms L=lead at lne
 have aL:=qdl m0
 rw [hL1,hlead] at aL
 generalize hc:ns.length - L=c
 unfold qif
 rwa [hp]
 refine λa ha=>?_
 have sa:=qah ha (.lst (ns.map V.int))
 unfold qgb
 have hpa:=sa _ _ hp
 have hqa:=sa _ _ hq
 rwa [hqa]
 unfold qga
 rwa []
 refine ⟨sz ∅,λx hx=>?_⟩
 have sx:=qah hx (.lst [.int 0])
 have hpx:=sx _ _ hpa
 rwa [hpx]
 have hmax:(if (0:Int) > ((List.map V.int ns).length:Int) - (((List.map V.int ms).length:Int) - 1) then (0:Int) else ((List.map V.int ns).length:Int) - (((List.map V.int ms).length:Int) - 1))=(c:Int):=by
  rw [waa,waa];split <;> omega
 rw [hmax]
 refine ⟨⋯,⋯,sz (by simp;omega),λy hy=>?_⟩
 rw [wce,qdq]
 have sy:=qah hy (.lst (List.replicate c (V.int 0)))
 have sA:Same (upd H a (.lst (ns.map V.int))) (upd (upd (upd H a (.lst (ns.map V.int))) x (.lst [.int 0])) y (.lst (List.replicate c (V.int 0)))):=λz o h=>sy z o (sx z o h)
 have hay:=sA _ _ (show upd H a (.lst (ns.map V.int)) a=_ from qag)
 have hyy:(upd (upd (upd H a (.lst (ns.map V.int))) x (.lst [.int 0])) y (.lst (List.replicate c (V.int 0)))) y=_:=qag
 have sH:Same H (upd (upd (upd H a (.lst (ns.map V.int))) x (.lst [.int 0])) y (.lst (List.replicate c (V.int 0)))):=λz o h=>sA z o (sa z o h)
 have nay:a≠y:=qan (sx _ _ (show upd H a (.lst (ns.map V.int)) a=_ from qag)) hy
 have nyH:H y=none:=by
  cases e:H y with
  | none=>rfl
  | some o=>have:=sx _ _ (sa _ _ e);rw [hy] at this;cases this
 generalize (upd (upd (upd H a (.lst (ns.map V.int))) x (.lst [.int 0])) y (.lst (List.replicate c (V.int 0))))=H1 at hay hyy sH ⊢
 rw [qrK ns] at hay
 have e0:List.replicate c (V.int 0)=qbB c λ_=>0:=by rw [<-qdq,qi3]
 rw [e0] at hyy
 unfold qf9
 have hp1:=sH _ _ hp
 rwa [hp1]
 refine ⟨by rw [waa,waa];omega,?_⟩
 have elo:((List.map V.int ns).length:Int) - (((List.map V.int ms).length:Int) - 1) - 1=(ns.length:Int) - (L:Int) - 1:=by rw [waa,waa];omega
 have ela:((List.map V.int ms).length:Int) - 1=(L:Int):=by rw [waa];omega
 rw [elo,ela]
 have ecn:((ns.length:Int) - (L:Int) - 1 - -1).toNat=c:=by omega
 rw [ecn]
 refine ⟨⋯,∅,∅,?_⟩
 let Iv:Nat->L2.St->Hp->Prop:=λi σ H2=>i<=c/\∃ (F G:Nat->Int) (u v w:Option V),σ=[some (.ref p),some (.ref q),some (.ref a),some (.int (L:Int)),some (.ref y),u,v,w]/\Same H H2/\H2 a=some (.lst (qbB ns.length F))/\H2 y=some (.lst (qbB c G))/\
  (∀ j,j<c - i->G j=0)/\(∀ k,k<ns.length - i->F k=co ns k - cvL ((List.range c).map G) (co ms) k)/\(∀ k,ns.length - i<=k->co ns k=cvL ((List.range c).map G) (co ms) k)/\(∀ k,k<ns.length->Bd (b+i*(d+1)) (F k))
 refine ForJ.down Iv ⟨wae _,co ns,λ_=>0,none,none,none,rfl,sH,hay,hyy,λ_ _=>rfl,λk _=>by rw [qgF];omega,λk hk=>by rw [qgF,qau ⋯],λk _=>(qa8 bn k).mono ⋯⟩ ?_ ?_
 ·rintro i σ H2 hi ⟨_,F,G,u,v,w,rfl,s2,ha2,hy2,hG,hF,hF2,bF⟩
  have hq2:=s2 _ _ hq
  have ic:i<c:=hi
  have esh:((ns.length:Int) - (L:Int) - 1 - (i:Int))=((c - 1 - i:Nat):Int):=by omega
  rw [esh]
  generalize hs:c - 1 - i=s
  have hst:s+L=ns.length - 1 - i:=by omega
  have aT:atI (qbB ns.length F) ((s:Int)+(L:Int))=some (V.int (F (s+L))):=qb7 (j:=s+L) ⋯ (qaT F ⋯)
  unfold qd0
  rwa [ha2,hq2,aL,aT]
  refine ⟨lne,?_⟩
  generalize hw:(F (s+L)).fdiv lead=wt
  have bFt:=bF (s+L) ⋯
  have bwt:Bd (b+i*(d+1)) wt:=bFt.le (by rw [<-hw];exact qrJ _ _)
  have bi:b+i*(d+1)<=60000000:=by
   have:=wbe (d+1) (show i<=ns.length by omega)
   omega
  have bi1:b+(i+1)*(d+1)<=60000000:=by
   have:=wbe (d+1) (show i+1<=ns.length by omega)
   omega
  have bld:Bd d lead:=by rw [<-hlead];exact qa8 bm L
  unfold qdZ
  rwa [ha2,hq2,aL,aT]
  refine ⟨qks bwt bld,?_⟩
  refine qbr (λce=>?_) (λce=>?_)
  ·refine kN (λ⟨A,hA⟩=>?_) _ s2
   have ce':wt*lead≠F (s+L):=by simpa using ce
   have hX:∀ k,cvL (qaN A (((List.range c).map G).map ((-1)*·))) (co ms) k=co ns k - cvL ((List.range c).map G) (co ms) k:=λk=>by rw [qax,qat,<-hA];omega
   have q:=(qoF lm (X:=qaN A (((List.range c).map G).map ((-1)*·))) (T:=s+1) (λk hk=>by rw [hX,hF2 k ⋯];omega)).2 s rfl
   rw [hX,hL1,hlead,<-hF (s+L) ⋯] at q
   exact ce' (by rw [<-hw,q,Int.mul_fdiv_cancel _ lne])
  have ex:wt*lead=F (s+L):=by simpa using ce
  unfold qdY
  rwa [hy2]
  refine ⟨s,by rw [qa7];exact qex rfl ⋯,?_⟩
  have hG':(qbB c G).set s (V.int wt)=qbB c (λj=>if j=s then wt else G j):=qcn ⋯ (if_pos rfl) λj _ hj=>if_neg hj
  rw [hG']
  have s3:Same H (upd H2 y (.lst (qbB c λj=>if j=s then wt else G j))):=λz o h=>Kp.upd z o (qan h nyH) (s2 z o h)
  have ha3:(upd H2 y (.lst (qbB c λj=>if j=s then wt else G j))) a=_:=(qaA nay).trans ha2
  have hy3:(upd H2 y (.lst (qbB c λj=>if j=s then wt else G j))) y=_:=qag
  generalize (upd H2 y (.lst (qbB c λj=>if j=s then wt else G j)))=H3 at s3 ha3 hy3 ⊢
  have cvE:∀ k,cvL ((List.range c).map λj=>if j=s then wt else G j) (co ms) k=cvL ((List.range c).map G) (co ms) k+wt*upS s (co ms) k:=λk=>qoG ⋯ (hG s ⋯) _ k
  have fin:∀ (F':Nat->Int) (u v w:Option V) (H4:Hp),Same H H4->H4 a=some (.lst (qbB ns.length F'))->H4 y=some (.lst (qbB c λj=>if j=s then wt else G j))->(∀ k,k<ns.length->F' k=F k - (if s<=k/\k - s<L then wt*co ms (k - s) else 0))->
    Iv (i+1) [some (.ref p),some (.ref q),some (.ref a),some (.int (L:Int)),some (.ref y),u,v,w] H4:=λF' u v w H4 s4 ha4 hy4 eF=>by
   refine ⟨⋯,F',_,u,v,w,rfl,s4,ha4,hy4,λj hj=>?_,λk hk=>?_,λk hk=>?_,λk hk=>?_⟩
   ·show (if j=s then wt else G j)=0
    rw [if_neg ⋯];exact hG j ⋯
   ·rw [eF k ⋯,cvE,hF k ⋯]
    unfold upS
    by_cases h:s<=k
    ·rw [if_pos h,if_pos ⟨h,⋯⟩];omega
    ·rw [if_neg h,if_neg ⋯];omega
   ·rw [cvE]
    by_cases ek:k=s+L
    ·have hf:=hF k ⋯
     rw [ek] at hf ⊢
     unfold upS
     rw [if_pos ⋯,show s+L - s=L by omega,hlead,ex];omega
    ·have h2:=hF2 k ⋯
     rw [h2]
     unfold upS
     by_cases h:s<=k
     ·rw [if_pos h,qau (a:=ms) ⋯];omega
     ·rw [if_neg h];omega
   ·rw [eF k hk]
    have e2:b+(i+1)*(d+1)=b+i*(d+1)+d+1:=by rw [wb5];omega
    rw [e2]
    refine Bd.sub ((bF k hk).mono ⋯) ?_
    split
    ·exact bwt.mul (qa8 bm _)
    ·exact qdo _
  unfold qdX
  rwa []
  refine qbr (λcw=>?_) (λcw=>?_)
  ·refine ⟨⋯,⋯,?_⟩
   rw [wce]
   refine ForR.by (λj σ H4=>∃ (u:Option V),σ=[some (.ref p),some (.ref q),some (.ref a),some (.int (L:Int)),some (.ref y),some (.int (s:Int)),some (.int wt),u]/\Same H H4/\H4 a=some (.lst (qbB ns.length λk=>F k - (if s<=k/\k - s<j then wt*co ms (k - s) else 0)))/\H4 y=some (.lst (qbB c λj=>if j=s then wt else G j))) ⟨w,rfl,s3,?_,hy3⟩ ?_ ?_
   ·rw [ha3]
    exact congrArg (λl=>some (HO.lst l)) (qbf λk _=>by rw [if_neg ⋯];omega)
   ·rintro j σ H4 hj ⟨u',rfl,s4,ha4,hy4⟩
    have hq4:=s4 _ _ hq
    have aj:atI (ms.map V.int) (0+(j:Int))=some (V.int (co ms j)):=qb7 (j:=j) ⋯ (by rw [qrK];exact qaT _ ⋯)
    rwa [ha4,hq4,aj]
    refine ⟨_,qb7 (j:=s+j) ⋯ (qaT _ ⋯),qks bwt (qa8 bm j),_,rfl,s+j,by rw [qa7];exact qex ⋯ ⋯,?_,?_,?_⟩
    ·intro z o h
     exact Kp.upd z o (qan h ha) (s4 z o h)
    ·refine qcn ⋯ ?_ λk _ hk=>?_
     ·rw [if_pos ⋯,if_neg ⋯,show s+j - s=j by omega];omega
     ·by_cases h:s<=k/\k - s<j
      ·rw [if_pos h,if_pos ⋯]
      ·rw [if_neg h,if_neg ⋯]
    ·rw [qaA (Ne.symm nay)];exact hy4
   ·rintro σ H4 ⟨u',rfl,s4,ha4,hy4⟩
    exact fin _ _ _ _ _ s4 ha4 hy4 λk _=>rfl
  ·have w0:wt=0:=by simpa using cw
   exact fin F _ _ _ _ s3 ha3 hy3 λk _=>by rw [w0];split <;> omega
 ·rintro σ H2 ⟨_,F,G,u,v,w,rfl,s2,ha2,hy2,hG,hF,hF2,bF⟩
  unfold qf8
  rwa [ha2]
  refine λz hz=>?_
  rw [ql0]
  have sz2:=qah hz (.lst (((List.range (min L ns.length)).map F).map V.int))
  refine ⟨_,rfl,qbr (λce=>?_) (λce=>?_)⟩
  ·refine kN (λ⟨A,hA⟩=>?_) _ (s2.trans sz2)
   have hX:∀ k,cvL (qaN A (((List.range c).map G).map ((-1)*·))) (co ms) k=co ns k - cvL ((List.range c).map G) (co ms) k:=λk=>by rw [qax,qat,<-hA];omega
   have q:=(qoF lm (X:=qaN A (((List.range c).map G).map ((-1)*·))) (T:=0) (λk hk=>by rw [hX,hF2 k ⋯];omega)).1
   have ce':((List.range (min L ns.length)).map F).any (λz=>!decide (z=0))=true:=by simpa using ce
   obtain ⟨z,hz',hz0⟩:=List.any_eq_true.mp ce'
   obtain ⟨k,hk,rfl⟩:=wax.mp hz'
   have hk:=wch.mp hk
   have e:=hX k
   rw [qbj,qb6 ms (λj=>q j (wae j)),<-hF k ⋯] at e
   rw [<-e] at hz0
   simp at hz0
  ·have ce':((List.range (min L ns.length)).map F).any (λz=>!decide (z=0))=false:=by simpa using ce
   have hy3:=sz2 _ _ hy2
   rw [qfs] at hy3
   refine kR y _ _ (s2.trans sz2) hy3 (by rw [waa,waw];omega) λk=>?_
   by_cases hk:ns.length - c<=k
   ·exact hF2 k hk
   ·have:=hF k ⋯
    rw [qp4 ce' k ⋯] at this
    omega
theorem ql1 {K:W.Frag} {a:Addr} {capt:List (Option Nat)} {te:TE} {σ:L2.St} {Q:VK} {H:Hp} {ns:List Int} (F:Int->Int) (hp:H a=some (.lst (ns.map V.int))) (hl:ns.length<=1000)
  (hs:∀ n,n∈ns->∀ P:VK,P (.int (F n)) H->te ((qcO capt σ).set 0 (some (.int n))) H P) (hd:∀ p,H p=none->Q (.ref p) (upd H p (.lst ((ns.map F).map V.int)))):CompJ (Itl K a) capt (qaj 0) te σ Q H:=by
 refine CompJ.lst (xs:=ns.map V.int) (λi ys H'=>i<=ns.length/\H'=H/\ys=((ns.map F).take i).map V.int) ⟨wae _,rfl,rfl⟩ ?_ ?_ ?_
 ·rintro i ys H' ⟨h1,rfl,rfl⟩
  refine ⟨by rw [waa];exact h1,sz ?_,SqL.of hp⟩
  rw [waa,wa5];omega
 ·rintro i x ys H' hi ⟨h1,rfl,rfl⟩
  rw [waf] at hi
  cases e:ns[i]? with
  | none=>rw [e] at hi;cases hi
  | some n=>
    rw [e] at hi
    obtain rfl:V.int n=x:=Option.some.inj hi
    have hi2:i<ns.length:=(waq.mp e).1
    show te ((qcO capt σ).set 0 (some (.int n))) H' _
    refine hs n (wau e) _ ⟨⋯,rfl,?_⟩
    rw [qcm V.int (q:=F n) (by rw [waf,e];rfl)]
 ·rintro ys H' ⟨_,rfl,rfl⟩ p hpn
  have e:(ns.map F).take (ns.map V.int).length=ns.map F:=by rw [waa,show ns.length=(ns.map F).length by rw [waa],wbv]
  rw [e]
  exact hd p hpn
theorem qhk (h:qbd K vs H Q E):qeq K { nx:=λ_ H'=>Q .non H',rt:=Q } (L2.start ["row","prime"] vs) H:=by
 obtain ⟨p,ns,m,rfl,hp,m0,hl,q⟩:=h
 unfold qeq
 rwa []
 refine ⟨⟨_,SqL.of hp⟩,ql1 (·% m) hp hl (λn _ P hP=>?_) q⟩
 rwa []
 exact ⟨m0,hP⟩
theorem ql2 {F:Int->Int} (h0:F 0=0) (ns:List Int) (k:Nat):co (ns.map F) k=F (co ns k):=by
 unfold co
 rw [wab,wab,waf]
 cases ns[k]? with
 | none=>exact h0.symm
 | some z=>rfl
theorem qj0 {ns:List Int} {z:Int} (h:z∈qdW ns):z∈ns:=wcp h
theorem qp5 (ns:List Int):(qdW ns).length<=ns.length:=by rw [qhi];exact qhh _ _
theorem qbM (a m:Int):m∣a % m - a:=⟨-(a / m),by have:=wco a m;rw [Int.mul_neg];omega⟩
theorem qi9 (h:qa6 K vs H Q E):qgc K { nx:=λ_ H'=>Q .non H',rt:=Q } (L2.start ["row","prime"] vs) H:=by
 obtain ⟨p,ns,m,rfl,hp,m0,hl,q⟩:=h
 unfold qgc
 rwa [hp]
 refine ⟨_,rfl,m0,hl,λr hr=>?_⟩
 refine ⟨_,rfl,λt ht=>?_⟩
 refine q t _ _ ((qah hr _).trans (qah ht _)) qag (qi7 _) (wa3 (qp5 _) (by rw [waa];exact wad _)) ⟨λz hz=>?_,λk=>?_⟩
 ·obtain ⟨y,_,rfl⟩:=wax.mp (qj0 hz)
  exact ⟨wba _ ⋯,wbg _ m0⟩
 ·rw [qi8,ql2 (Int.zero_emod m)]
  exact qbM _ _
theorem qfU (h:qa0 K vs H Q E):qdz K { nx:=λ_ H'=>Q .non H',rt:=Q } (L2.start ["whole","prime","one","other","one_weight","other_weight","quotient","rest"] vs) H:=by
 obtain ⟨a,p,rfl,p2,bp,q⟩:=h
 unfold qdz qc1 qc0 qcZ qcY
 rwa []
 refine ⟨⋯,?_⟩
 have a0:=wba a (show p≠0 by omega)
 have a1:=wbg a (show 0<p by omega)
 refine qb3 (λn σ H'=>∃ (x y s t:Int) (u v:Option V),σ=[some (.int a),some (.int p),some (.int x),some (.int y),some (.int s),some (.int t),u,v]/\H'=H/\n=y.toNat/\0<=y/\y<x/\x<=p/\
  Int.gcd x y=Int.gcd a p/\p∣x - s*a/\p∣y - t*a/\(t.natAbs:Int)*x+(s.natAbs:Int)*y<=p/\(s.natAbs:Int)<=p) (a % p).toNat ⟨p,a % p,0,1,none,none,rfl,rfl,rfl,a0,a1,Int.le_refl _,?_,⟨1,⋯⟩,?_,by simp,by simp;omega⟩ ?_
 ·rw [qiE a ⋯]
 ·rw [show a % p - 1*a=a % p - a by omega]
  exact qbM a p
 ·rintro n σ H' ⟨x,y,s,t,u,v,rfl,rfl,rfl,y0,yx,xp,hg,hs,ht,hb,hsp⟩
  have tx:(t.natAbs:Int)*1<=(t.natAbs:Int)*x:=wcj ⋯ ⋯
  have sy:0<=(s.natAbs:Int)*y:=Int.mul_nonneg ⋯ y0
  have tp:(t.natAbs:Int)<=p:=by omega
  rwa []
  refine qbr (λc=>?_) (λc=>?_)
  ·have yp:0<y:=by
    have:y≠0:=by simpa using c
    omega
   unfold qce qcd qcc qcb qca qb9 qb8
   have q0:=Int.ediv_nonneg (show 0<=x by omega) y0
   have q1:x / y<=x:=Int.ediv_le_self y ⋯
   have r0:=wba x (show y≠0 by omega)
   have r1:=wbg x yp
   have er:x - x / y*y=x % y:=by have:=wco x y;rw [wca] at this;omega
   have B:∀ {z:Int},z.natAbs<=p.natAbs->Bd 60000000 z:=λh=>(bp.le h).mono ∅
   refine ⟨λσ' H''=>∃ m',m'<y.toNat/\_,λ_ _ h=>h,?_⟩
   rwa []
   refine ⟨yp,qks (B ⋯) (B ⋯),qks (B ⋯) (B ⋯),?_⟩
   refine ⟨(x - x / y*y).toNat,⋯,rfl,⋯,⋯,⋯,?_,ht,?_,?_,tp⟩
   ·rw [er,qiE x y0];exact hg
   ·obtain ⟨α,hα⟩:=hs
    obtain ⟨β,hβ⟩:=ht
    exact ⟨α - x / y*β,by
     generalize x / y=qq at *
     have e1:x=s*a+p*α:=by omega
     have e2:y=t*a+p*β:=by omega
     rw [e1,e2];grind⟩
   ·have n1:((s - x / y*t).natAbs:Int)<=(s.natAbs:Int)+x / y*(t.natAbs:Int):=by
     have h1:=Int.natAbs_sub_le s (x / y*t)
     rw [way] at h1
     have h2:((x / y).natAbs:Int)=x / y:=by omega
     have h3:(((x / y).natAbs*t.natAbs:Nat):Int)=x / y*(t.natAbs:Int):=by rw [Int.natCast_mul,h2]
     omega
    have n2:=wcu n1 y0
    rw [er]
    have n3:(t.natAbs:Int)*(x % y)=(t.natAbs:Int)*x - (t.natAbs:Int)*(x / y*y):=by rw [<-er,Int.mul_sub]
    rw [n3]
    generalize (t.natAbs:Int)=tt at *
    generalize (s.natAbs:Int)=ss at *
    generalize x / y=qq at *
    have n4:(ss+qq*tt)*y=ss*y+tt*(qq*y):=by grind
    omega
  ·have yz:y=0:=by simpa using c
   unfold qcX
   rwa []
   refine ⟨⋯,q _ (wba _ ⋯) (wbg _ ⋯) λhc=>?_⟩
   have x1:x=1:=by
    rw [yz] at hg
    rw [Int.gcd_zero_right,hc] at hg
    omega
   obtain ⟨α,hα⟩:=hs
   obtain ⟨γ,hγ⟩:=qbM s p
   refine ⟨γ*a - α,?_⟩
   have e1:s % p=s+p*γ:=by omega
   rw [e1]
   have e2:s*a=1 - p*α:=by omega
   grind
theorem mbd {p:Nat} {ns:List Int} (bp:Bd 45000 (p:Int)) (h:∀ z∈ns,0<=z/\z<(p:Int)):∀ z∈ns,Bd 60000000 z:=λz hz=>(bp.le (by have:=h z hz;omega)).mono ∅
theorem mcop {p:Nat} {ns:List Int} (pp:Pr p) (tz:Tz ns) (h:∀ z∈ns,0<=z/\z<(p:Int)) (hn:ns≠[]):Int.gcd (co ns (ns.length - 1)) (p:Int)=1:=by
 have l0:0<ns.length:=wb1.mpr hn
 have lne:co ns (ns.length - 1)≠0:=tz.resolve_left hn
 have lz:0<=co ns (ns.length - 1)/\co ns (ns.length - 1)<(p:Int):=h _ (by
  unfold co
  rw [wab,wag ⋯]
  exact wbo _)
 exact pp.cop λz=>by
  have:=wcc ⋯ z
  omega
theorem qhl (h:qaQ K vs H Q E):qer K { nx:=λ_ H'=>Q .non H',rt:=Q } (L2.start ["row","prime","factor"] vs) H:=by
 obtain ⟨q,ns,p,rfl,hq,p2n,bp,hl,bz,gcd1,k⟩:=h
 have p2:(2:Int)<=(p:Int):=by omega
 unfold qer
 rwa [hq]
 by_cases hn:ns=[]
 ·subst hn
  refine qbr (λ_=>?_) (λc=>absurd rfl c)
  refine ⟨sz ∅,λr hr=>k r [] 0 _ (qah hr _) qag rfl (λz=>absurd rfl z) ⟨λz hz=>(by cases hz),λi=>?_⟩⟩
  show (p:Int)∣co [] i - 0*co [] i
  rw [qau (wae _)];exact ⟨0,⋯⟩
 have l0:0<ns.length:=wb1.mpr hn
 refine qbr (λc=>absurd c (by simpa using hn)) (λ_=>?_)
 have aL:=qdl l0
 rwa [aL]
 refine ⟨p2,bp,λf f0 f1 hf=>?_⟩
 have gc:=gcd1 hn
 have hf:=hf gc
 have B:∀ {z:Int},0<=z->z<(p:Int)->Bd 60000000 z:=λh1 h2=>(bp.le ⋯).mono ∅
 refine ⟨⟨_,SqL.of hq⟩,ql1 (λn=>n*f % (p:Int)) hq hl (λn hn P hP=>?_) λr hr=>?_⟩
 ·rwa []
  exact ⟨qks (bz n hn) (B f0 f1),⋯,hP⟩
 ·have cm:∀ i,co (ns.map λn=>n*f % (p:Int)) i=co ns i*f % (p:Int):=λi=>ql2 (F:=λn=>n*f % (p:Int)) (by simp) ns i
  refine k r _ f _ (qah hr _) qag (waa ..) (λ_=>?_) ⟨λz hz=>?_,λi=>?_⟩
  ·rw [waa,cm]
   obtain ⟨c,hc⟩:=hf
   have e:co ns (ns.length - 1)*f=1+(p:Int)*c:=by rw [wca];omega
   rw [e,Int.add_mul_emod_self_left]
   exact Int.emod_eq_of_lt ∅ ⋯
  ·obtain ⟨y,_,rfl⟩:=wax.mp hz
   exact ⟨wba _ ⋯,wbg _ ⋯⟩
  ·rw [cm]
   show (p:Int)∣co ns i*f % (p:Int) - f*co ns i
   rw [wca f]
   exact qbM _ _
theorem qmB (h:qcr K vs H Q E):qjT K { nx:=λ_ H'=>Q .non H',rt:=Q } (L2.start ["whole","prime","rest"] vs) H:=by
 obtain ⟨w,p,rfl,p0,k⟩:=h
 unfold qjT
 rwa []
 have r0:=wba w (show p≠0 by omega)
 have r1:=wbg w p0
 have rd:=qbM w p
 refine ⟨p0,IntMulOk.of_left (intBits_le_64 ⋯ ⋯),qbr (λc=>?_) (λc=>?_)⟩
 ·refine k _ ?_ ⋯
  obtain ⟨γ,hγ⟩:=rd
  exact ⟨γ - 1,by rw [Int.mul_sub];omega⟩
 ·exact k _ rd ⋯
theorem qhR (h:qbn K vs H Q E):qff K { nx:=λ_ H'=>Q .non H',rt:=Q } (L2.start ["row","divisor","modulus"] vs) H:=by
 obtain ⟨p,q,ns,ms,m,b,rfl,hp,hq,m0,ml,mp,bm,bms,bb,hn,hm,k⟩:=h
 unfold qff
 rwa [hp,hq]
 refine ⟨ns,rfl,ms,rfl,m0,ml,mp,b,bm,bms,bb,hn,hm,λt r s qs rs H' sH ht hr hs tq tr lr md _=>?_⟩
 refine ⟨_,ht,?_⟩
 rwa []
 exact k s qs rs H' sH hs tr lr md
theorem qgq (h:qa4 K vs H Q E):qd4 K { nx:=λ_ H'=>Q .non H',rt:=Q } (L2.start ["row","other","prime","rest"] vs) H:=by
 obtain ⟨a,b,ns,ms,p,rfl,ha,hb,pp,bp,hn,hm,h0,k⟩:=h
 have p2:(2:Int)<=(p:Int):=by have:=pp.two;omega
 unfold qd4
 rwa [ha]
 refine ⟨ns,rfl,⋯,hn,λc r1 H1 s1 hc tz1 l1 md1=>?_⟩
 refine ⟨r1,p,rfl,hc,pp.two,bp,⋯,mbd bp md1.1,mcop pp tz1 md1.1,λd r2 f H2 s2 hd l2 o2 md2=>?_⟩
 have hb2:=s2 _ _ (s1 _ _ hb)
 rwa [hb2]
 refine ⟨ms,rfl,⋯,hm,λc' r3 H3 s3 hc' tz3 l3 md3=>?_⟩
 refine ⟨r3,p,rfl,hc',pp.two,bp,⋯,mbd bp md3.1,mcop pp tz3 md3.1,λd' r4 f' H4 s4 hd' l4 o4 md4=>?_⟩
 have s04:Same H H4:=((s1.trans s2).trans s3).trans s4
 have hd4:=(s3.trans s4) _ _ hd
 have step:∀ {g h:Nat->Int} {rs:List Int} {f:Int},Dm (p:Int) g h->Md (p:Int) rs (λk=>f*h k)->Dm (p:Int) g (co rs):=λ{g h rs f} d md=>by
  refine Dm.congr (Dm.less d d f 0 0) λk=>?_
  have:=md.2 k
  show (p:Int)∣co rs k - (f*h k - 0*_)
  rw [Int.zero_mul,Int.sub_zero]
  exact this
 have nz:∀ {xs rs rs2:List Int} {f:Int},(∃ k,¬ (p:Int)∣co xs k)->Md (p:Int) rs (co xs)->rs2.length=rs.length->0<rs2.length:=λ{xs rs rs2 f} ⟨k,hk⟩ md e=>by
  rcases wbt rs2.length with z | z
  ·exfalso
   have:=md.2 k
   rw [qau ⋯] at this
   have t2:=Int.dvd_neg.mpr this
   rw [show ∀ x:Int,-(0 - x)=x by intro x;omega] at t2
   exact hk t2
  ·exact z
 have M1:∀ {xs rs:List Int},Md (p:Int) rs (co xs)->∀ {g:Nat->Int},Dm (p:Int) g (co xs)->Dm (p:Int) g (co rs):=λmd g d=>Dm.congr d md.2
 have back1:∀ {g:Nat->Int} {r r2:List Int} {f:Int},Md (p:Int) r2 (λk=>f*co r k)->r2.length=r.length->(r≠[]->co r2 (r2.length - 1)=1)->Dm (p:Int) g (co r2)->Dm (p:Int) g (co r):=λ{g r r2 f} md l o d=>by
  by_cases r0:r=[]
  ·exact Dm.zero _ _ λk=>by rw [r0,qau (wae _)];exact wby _
  ·refine Dm.congr (Dm.less d d (co r (r.length - 1)) 0 0) λk=>?_
   show (p:Int)∣co r k - (co r (r.length - 1)*co r2 k - 0*_)
   rw [Int.zero_mul,Int.sub_zero]
   have h1:=md.2 k
   have h2:=md.2 (r2.length - 1)
   rw [o r0,l] at h2
   have q1:(p:Int)∣co r (r.length - 1)*(co r2 k - f*co r k):=wcy h1
   have q2:(p:Int)∣co r k*(1 - f*co r (r.length - 1)):=wcy h2
   refine wbp (Int.dvd_sub q2 q1) (qp2 ?_)
   grind
 have back:∀ {g:Nat->Int} {xs r r2:List Int} {f:Int},Md (p:Int) r (co xs)->Md (p:Int) r2 (λk=>f*co r k)->r2.length=r.length->(r≠[]->co r2 (r2.length - 1)=1)->Dm (p:Int) g (co r2)->Dm (p:Int) g (co xs):=λ{g xs r r2 f} md1 md l o d=>Dm.congr (back1 md l o d) λk=>by
  have:=Int.dvd_neg.mpr (md1.2 k)
  refine wbp this (qp2 ?_)
  omega
 refine qb3 (λm σ H'=>∃ (x y:Addr) (xs ys:List Int) (u:Option V),σ=[some (.ref x),some (.ref y),some (.int (p:Int)),u]/\Same H H'/\H' x=some (.lst (xs.map V.int))/\H' y=some (.lst (ys.map V.int))/\m=ys.length/\xs.length<=1000/\ys.length<=1000/\(0<xs.length\/0<ys.length)/\(xs≠[]->co xs (xs.length - 1)=1)/\(ys≠[]->co ys (ys.length - 1)=1)/\(∀ z∈xs,0<=z/\z<(p:Int))/\(∀ z∈ys,0<=z/\z<(p:Int))/\
  (∀ g:Nat->Int,Dm (p:Int) g (co ns)->Dm (p:Int) g (co ms)->Dm (p:Int) g (co xs)/\Dm (p:Int) g (co ys))/\(∀ g:Nat->Int,Dm (p:Int) g (co xs)->Dm (p:Int) g (co ys)->Dm (p:Int) g (co ns)/\Dm (p:Int) g (co ms))) r4.length ⟨d,d',r2,r4,none,rfl,s04,hd4,hd',rfl,⋯,⋯,?_,?_,?_,md2.1,md4.1,λg d1 d2=>⟨step (M1 md1 d1) md2,step (M1 md3 d2) md4⟩,λg d1 d2=>⟨back md1 md2 l2 o2 d1,back md3 md4 l4 o4 d2⟩⟩ ?_
 ·rcases h0 with h | h
  ·exact .inl (nz (f:=f) h md1 l2)
  ·exact .inr (nz (f:=f) h md3 l4)
 ·intro z
  exact o2 λe=>z (wbd.mp (by rw [l2,e];rfl))
 ·intro z
  exact o4 λe=>z (wbd.mp (by rw [l4,e];rfl))
 ·rintro m σ H' ⟨x,y,xs,ys,u,rfl,sH,hx,hy,rfl,xl,yl,ne,ox,oy,bx,bY,hD,hE⟩
  rwa [hy]
  by_cases hys:ys=[]
  ·subst hys
   refine qbr (λc=>absurd c (by simp)) (λ_=>?_)
   have x0:0<xs.length:=by simpa using ne
   have rfx:Dm (p:Int) (co xs) (co xs):=⟨[1],λk=>by
    have e:cvL [1] (co xs) k=co xs k:=by
     cases k with
     | zero=>rw [qaq];omega
     | succ k=>rw [qam,qaE];omega
    rw [e,Int.sub_self];exact wby _⟩
   have zz:Dm (p:Int) (co xs) (co []):=Dm.zero _ _ λk=>by rw [qau (wae _)];exact wby _
   exact k x xs H' sH hx x0 xl (ox (wb1.mp x0)) bx (λg d1 d2=>(hD g d1 d2).1) (hE _ rfx zz).1 (hE _ rfx zz).2
  ·have y0:0<ys.length:=wb1.mpr hys
   refine qbr (λ_=>?_) (λc=>absurd hys (by simpa using c))
   refine ⟨λσ' H''=>∃ m',m'<ys.length/\_,λ_ _ h=>h,?_⟩
   rwa [hx,hy]
   have B:∀ z:Int,0<=z->z<(p:Int)->Bd 45000 z:=λz h1 h2=>bp.le ⋯
   refine ⟨xs,rfl,ys,rfl,y0,oy hys,⋯,45000,bp,λz hz=>B z (bY z hz).1 (bY z hz).2,∅,xl,yl,λs qs rs H2 sH2 hs trs lrs md=>?_⟩
   have whole:∀ g:Nat->Int,Dm (p:Int) g (co ys)->Dm (p:Int) g (co rs)->Dm (p:Int) g (co xs):=λg d1 d2=>by
    obtain ⟨S1,h1⟩:=d1
    obtain ⟨S2,h2⟩:=d2
    refine ⟨qaN S2 (qaJ qs S1),λk=>?_⟩
    rw [qax,qaC]
    have e1:=cvD h1 qs k
    have m2:(p:Int)∣co rs k - (co xs k - cvL qs (co ys) k):=md.2 k
    have:=wbx (Int.dvd_sub (h2 k) m2) e1
    refine wbp this (qp2 ?_)
    omega
   refine ⟨rs,p,rfl,hs,pp.two,bp,⋯,mbd bp md.1,mcop pp trs md.1,λt ts f H3 sH3 ht lt ot mdt=>?_⟩
   refine ⟨ts.length,⋯,(sH.trans sH2).trans sH3,ys,(sH2.trans sH3) _ _ hy,ts,ht,rfl,yl,⋯,.inl y0,oy,λz=>ot λe=>z (wbd.mp (by rw [lt,e];rfl)),bY,mdt.1,λg d1 d2=>⟨(hD g d1 d2).2,?_⟩,λg d1 d2=>hE g (whole g d1 (back1 mdt lt ot d2)) d1⟩
   obtain ⟨dx,dy⟩:=hD g d1 d2
   have dr:Dm (p:Int) g (co rs):=by
    obtain ⟨S1,h1⟩:=dx
    obtain ⟨S2,h2⟩:=dy
    refine Dm.congr (f:=λk=>co xs k - cvL qs (co ys) k) ⟨qaN S1 ((qaJ qs S2).map (-1*·)),λk=>?_⟩ md.2
    rw [qax,qat,qaC]
    have e:(p:Int)∣cvL qs (co ys) k - cvL qs (cvL S2 g) k:=by
     have lin:∀ (A:List Int) (k:Nat),(p:Int)∣cvL A (co ys) k - cvL A (cvL S2 g) k:=by
      intro A
      induction A with
      | nil=>intro k;rw [qaE,qaE];exact ⟨0,⋯⟩
      | cons a A ih=>
        intro k
        rw [qcT,qcT]
        have i2:(p:Int)∣up1 (cvL A (co ys)) k - up1 (cvL A (cvL S2 g)) k:=by
         cases k with
         | zero=>exact ⟨0,by show (0:Int) - 0=_;omega⟩
         | succ k=>exact ih k
        have i1:(p:Int)∣a*(co ys k - cvL S2 g k):=wcy (h2 k)
        have:=wbx i1 i2
        rw [show a*(co ys k - cvL S2 g k)+(up1 (cvL A (co ys)) k - up1 (cvL A (cvL S2 g)) k)=a*co ys k+up1 (cvL A (co ys)) k - (a*cvL S2 g k+up1 (cvL A (cvL S2 g)) k) by rw [Int.mul_sub];omega] at this
        exact this
     exact lin qs k
    have:=Int.dvd_sub (h1 k) e
    rw [show co xs k - cvL S1 g k - (cvL qs (co ys) k - cvL qs (cvL S2 g) k)=co xs k - cvL qs (co ys) k - (cvL S1 g k + -1*cvL qs (cvL S2 g) k) by omega] at this
    exact this
   exact step dr mdt
theorem qhm (h:qbe K vs H Q E):qes K { nx:=λ_ H'=>Q .non H',rt:=Q } (L2.start ["row","divisor","modulus","rest","last","quotient","shift","weight","place"] vs) H:=by
 obtain ⟨p,q,ns,ms,m,b,rfl,hp,hq,m0,ml,mp,bm,bms,bb,hn,hm,kR⟩:=h
 obtain ⟨L,hL⟩:∃ L,ms.length=L+1:=⟨ms.length - 1,⋯⟩
 have hL1:ms.length - 1=L:=by omega
 rw [hL1] at ml
 generalize hc:ns.length - L=c
 unfold qes
 rwa [hp]
 refine λa ha=>?_
 have sa:=qah ha (.lst (ns.map V.int))
 unfold qdD
 have hpa:=sa _ _ hp
 have hqa:=sa _ _ hq
 rwa [hqa]
 unfold qdC
 rwa []
 refine ⟨sz ∅,λx hx=>?_⟩
 have sx:=qah hx (.lst [.int 0])
 have hpx:=sx _ _ hpa
 rwa [hpx]
 have hmax:(if (0:Int) > ((List.map V.int ns).length:Int) - (((List.map V.int ms).length:Int) - 1) then (0:Int) else ((List.map V.int ns).length:Int) - (((List.map V.int ms).length:Int) - 1))=(c:Int):=by
  rw [waa,waa];split <;> omega
 rw [hmax]
 refine ⟨⋯,⋯,sz (by simp;omega),λy hy=>?_⟩
 rw [wce,qdq]
 have sy:=qah hy (.lst (List.replicate c (V.int 0)))
 have sA:Same (upd H a (.lst (ns.map V.int))) (upd (upd (upd H a (.lst (ns.map V.int))) x (.lst [.int 0])) y (.lst (List.replicate c (V.int 0)))):=λz o h=>sy z o (sx z o h)
 have hay:=sA _ _ (show upd H a (.lst (ns.map V.int)) a=_ from qag)
 have hyy:(upd (upd (upd H a (.lst (ns.map V.int))) x (.lst [.int 0])) y (.lst (List.replicate c (V.int 0)))) y=_:=qag
 have sH:Same H (upd (upd (upd H a (.lst (ns.map V.int))) x (.lst [.int 0])) y (.lst (List.replicate c (V.int 0)))):=λz o h=>sA z o (sa z o h)
 have nay:a≠y:=qan (sx _ _ (show upd H a (.lst (ns.map V.int)) a=_ from qag)) hy
 have nyH:H y=none:=by
  cases e:H y with
  | none=>rfl
  | some o=>have:=sx _ _ (sa _ _ e);rw [hy] at this;cases this
 generalize (upd (upd (upd H a (.lst (ns.map V.int))) x (.lst [.int 0])) y (.lst (List.replicate c (V.int 0))))=H1 at hay hyy sH ⊢
 rw [qrK ns] at hay
 have e0:List.replicate c (V.int 0)=qbB c λ_=>0:=by rw [<-qdq,qi3]
 rw [e0] at hyy
 unfold qdB
 have hp1:=sH _ _ hp
 rwa [hp1]
 refine ⟨by rw [waa,waa];omega,?_⟩
 have elo:((List.map V.int ns).length:Int) - (((List.map V.int ms).length:Int) - 1) - 1=(ns.length:Int) - (L:Int) - 1:=by rw [waa,waa];omega
 have ela:((List.map V.int ms).length:Int) - 1=(L:Int):=by rw [waa];omega
 rw [elo,ela]
 have ecn:((ns.length:Int) - (L:Int) - 1 - -1).toNat=c:=by omega
 rw [ecn]
 refine ⟨⋯,∅,∅,?_⟩
 let Iv:Nat->L2.St->Hp->Prop:=λi σ H2=>i<=c/\∃ (F G:Nat->Int) (u v w:Option V),σ=[some (.ref p),some (.ref q),some (.int m),some (.ref a),some (.int (L:Int)),some (.ref y),u,v,w]/\Same H H2/\H2 a=some (.lst (qbB ns.length F))/\H2 y=some (.lst (qbB c G))/\
  (∀ j,j<c - i->G j=0)/\(∀ k,k<ns.length - i->m∣F k - (co ns k - cvL ((List.range c).map G) (co ms) k))/\(∀ k,ns.length - i<=k->m∣co ns k - cvL ((List.range c).map G) (co ms) k)/\(∀ j,j<c->0<=G j/\G j<m)
 refine ForJ.down Iv ⟨wae _,co ns,λ_=>0,none,none,none,rfl,sH,hay,hyy,λ_ _=>rfl,λk _=>by rw [qgF];exact ⟨0,⋯⟩,λk hk=>by rw [qgF,qau ⋯];exact ⟨0,⋯⟩,λk _=>⟨Int.le_refl 0,mp⟩⟩ ?_ ?_
 ·rintro i σ H2 hi ⟨_,F,G,u,v,w,rfl,s2,ha2,hy2,hG,hF,hF2,bG⟩
  have hq2:=s2 _ _ hq
  have ic:i<c:=hi
  have esh:((ns.length:Int) - (L:Int) - 1 - (i:Int))=((c - 1 - i:Nat):Int):=by omega
  rw [esh]
  generalize hs:c - 1 - i=s
  have hst:s+L=ns.length - 1 - i:=by omega
  have aT:atI (qbB ns.length F) ((s:Int)+(L:Int))=some (V.int (F (s+L))):=qb7 (j:=s+L) ⋯ (qaT F ⋯)
  unfold qcz
  rwa [ha2,hq2,aT]
  refine ⟨mp,?_⟩
  have w0:=wba (F (s+L)) (show m≠0 by omega)
  have w1:=wbg (F (s+L)) mp
  have wd:=qbM (F (s+L)) m
  generalize hw:F (s+L) % m=wt at w0 w1 wd
  have bwt:Bd b wt:=bm.le ⋯
  unfold qcy
  rwa [hy2]
  refine ⟨s,by rw [qa7];exact qex rfl ⋯,?_⟩
  have hG':(qbB c G).set s (V.int wt)=qbB c (λj=>if j=s then wt else G j):=qcn ⋯ (if_pos rfl) λj _ hj=>if_neg hj
  rw [hG']
  have s3:Same H (upd H2 y (.lst (qbB c λj=>if j=s then wt else G j))):=λz o h=>Kp.upd z o (qan h nyH) (s2 z o h)
  have ha3:(upd H2 y (.lst (qbB c λj=>if j=s then wt else G j))) a=_:=(qaA nay).trans ha2
  have hy3:(upd H2 y (.lst (qbB c λj=>if j=s then wt else G j))) y=_:=qag
  generalize (upd H2 y (.lst (qbB c λj=>if j=s then wt else G j)))=H3 at s3 ha3 hy3 ⊢
  have cvE:∀ k,cvL ((List.range c).map λj=>if j=s then wt else G j) (co ms) k=cvL ((List.range c).map G) (co ms) k+wt*upS s (co ms) k:=λk=>qoG ⋯ (hG s ⋯) _ k
  have fin:∀ (F':Nat->Int) (u v w:Option V) (H4:Hp),Same H H4->H4 a=some (.lst (qbB ns.length F'))->H4 y=some (.lst (qbB c λj=>if j=s then wt else G j))->(∀ k,k<ns.length->F' k=F k - (if s<=k/\k - s<L then wt*co ms (k - s) else 0))->
    Iv (i+1) [some (.ref p),some (.ref q),some (.int m),some (.ref a),some (.int (L:Int)),some (.ref y),u,v,w] H4:=λF' u v w H4 s4 ha4 hy4 eF=>by
   refine ⟨⋯,F',_,u,v,w,rfl,s4,ha4,hy4,λj hj=>?_,λk hk=>?_,λk hk=>?_,λj hj=>?_⟩
   ·show (if j=s then wt else G j)=0
    rw [if_neg ⋯];exact hG j ⋯
   ·have hf:=hF k ⋯
    rw [eF k ⋯,cvE]
    unfold upS
    by_cases h:s<=k
    ·rw [if_pos h,if_pos ⟨h,⋯⟩]
     rw [show ∀ x y z w:Int,x - y - (z - (w+y))=x - (z - w) by intro x y z w;omega]
     exact hf
    ·rw [if_neg h,if_neg ⋯]
     rw [show ∀ x z w:Int,x - 0 - (z - (w+wt*0))=x - (z - w) by intro x z w;omega]
     exact hf
   ·rw [cvE]
    by_cases ek:k=s+L
    ·have hf:=hF k ⋯
     rw [ek] at hf ⊢
     unfold upS
     rw [if_pos ⋯,show s+L - s=L by omega,ml]
     obtain ⟨α,hα⟩:=hf
     obtain ⟨β,hβ⟩:=wd
     exact ⟨-α - β,by rw [Int.mul_sub,Int.mul_neg];omega⟩
    ·have h2:=hF2 k ⋯
     unfold upS
     by_cases h:s<=k
     ·rw [if_pos h,qau (a:=ms) ⋯,Int.mul_zero,Int.add_zero];exact h2
     ·rw [if_neg h,Int.mul_zero,Int.add_zero];exact h2
   ·show 0<=(if j=s then wt else G j)/\(if j=s then wt else G j)<m
    split
    ·exact ⟨w0,w1⟩
    ·exact bG j hj
  unfold qcx
  rwa []
  refine qbr (λcw=>?_) (λcw=>?_)
  ·refine ⟨⋯,⋯,?_⟩
   rw [wce]
   refine ForR.by (λj σ H4=>∃ (u:Option V),σ=[some (.ref p),some (.ref q),some (.int m),some (.ref a),some (.int (L:Int)),some (.ref y),some (.int (s:Int)),some (.int wt),u]/\Same H H4/\H4 a=some (.lst (qbB ns.length λk=>F k - (if s<=k/\k - s<j then wt*co ms (k - s) else 0)))/\H4 y=some (.lst (qbB c λj=>if j=s then wt else G j))) ⟨w,rfl,s3,?_,hy3⟩ ?_ ?_
   ·rw [ha3]
    exact congrArg (λl=>some (HO.lst l)) (qbf λk _=>by rw [if_neg ⋯];omega)
   ·rintro j σ H4 hj ⟨u',rfl,s4,ha4,hy4⟩
    have hq4:=s4 _ _ hq
    have aj:atI (ms.map V.int) (0+(j:Int))=some (V.int (co ms j)):=qb7 (j:=j) ⋯ (by rw [qrK];exact qaT _ ⋯)
    rwa [ha4,hq4,aj]
    refine ⟨_,qb7 (j:=s+j) ⋯ (qaT _ ⋯),qks bwt (qa8 bms j),_,rfl,s+j,by rw [qa7];exact qex ⋯ ⋯,?_,?_,?_⟩
    ·intro z o h
     exact Kp.upd z o (qan h ha) (s4 z o h)
    ·refine qcn ⋯ ?_ λk _ hk=>?_
     ·rw [if_pos ⋯,if_neg ⋯,show s+j - s=j by omega];omega
     ·by_cases h:s<=k/\k - s<j
      ·rw [if_pos h,if_pos ⋯]
      ·rw [if_neg h,if_neg ⋯]
    ·rw [qaA (Ne.symm nay)];exact hy4
   ·rintro σ H4 ⟨u',rfl,s4,ha4,hy4⟩
    exact fin _ _ _ _ _ s4 ha4 hy4 λk _=>rfl
  ·have w0':wt=0:=by simpa using cw
   exact fin F _ _ _ _ s3 ha3 hy3 λk _=>by rw [w0'];split <;> omega
 ·rintro σ H2 ⟨_,F,G,u,v,w,rfl,s2,ha2,hy2,hG,hF,hF2,bG⟩
  unfold qdA
  rw [qfs] at hy2
  rwa [ha2,hy2]
  refine ⟨_,rfl,λt ht=>?_⟩
  have st:=qah ht (.lst (List.map V.int (qdW (List.map G (List.range c)))))
  have ha3:=st _ _ ha2
  have htt:upd H2 t (.lst (List.map V.int (qdW (List.map G (List.range c))))) t=_:=qag
  generalize upd H2 t (.lst (List.map V.int (qdW (List.map G (List.range c)))))=H3 at st ha3 htt ⊢
  refine ⟨_,ha3,λz hz=>?_⟩
  rw [ql0]
  have sz2:=qah hz (.lst (((List.range (min L ns.length)).map F).map V.int))
  refine ⟨_,rfl,mp,by rw [waa,waw];omega,λr rs H4 s4 hr4 tr lr md=>?_⟩
  rw [waa,waw] at lr
  refine ⟨sz ∅,λe he=>?_⟩
  have se:=qah he (.tup [.ref t,.ref r])
  have cq:∀ k,cvL (qdW ((List.range c).map G)) (co ms) k=cvL ((List.range c).map G) (co ms) k:=λk=>by
   rw [qbj,qas (λj=>qi8 _ j) ms k,<-qbj]
  refine kR e t r _ rs _ ((s2.trans st).trans ((sz2.trans s4).trans se)) qag (se _ _ (s4 _ _ (sz2 _ _ htt))) (se _ _ hr4) (qi7 _) tr ⋯ ⟨md.1,λk=>?_⟩ λz hz=>?_
  ·have:=md.2 k
   rw [qgD] at this
   show m∣co rs k - (co ns k - cvL (qdW ((List.range c).map G)) (co ms) k)
   rw [cq]
   by_cases hk:k<min L ns.length
   ·rw [if_pos hk] at this
    have h2:=wbx this (hF k ⋯)
    rw [show ∀ x y z:Int,x - y+(y - z)=x - z by intro x y z;omega] at h2
    exact h2
   ·rw [if_neg hk] at this
    have h2:=Int.dvd_sub this (hF2 k ⋯)
    rw [show ∀ x y:Int,x - 0 - y=x - y by intro x y;omega] at h2
    exact h2
  ·obtain ⟨j,hj,rfl⟩:=wax.mp (qj0 hz)
   exact bG j (wch.mp hj)
theorem SDs.tp {H H':Hp} (s:Same H H'):∀ {xs:List V} {rs:List (List Int)},SDs H xs rs->SDs H' xs rs
 | [],[],_=>trivial
 | _::_,_::_,h=>⟨let ⟨p,e,q⟩:=h.1;⟨p,e,s _ _ q⟩,SDs.tp s h.2⟩
 | [],_::_,h=>h.elim
 | _::_,[],h=>h.elim
theorem SD.tp {H H':Hp} (s:Same H H') {p:Addr} {rs:List (List Int)} (h:SD H p rs):SD H' p rs:=let ⟨xs,e,q⟩:=h;⟨xs,s _ _ e,q.tp s⟩
theorem SDs.length {H:Hp}:∀ {xs:List V} {rs:List (List Int)},SDs H xs rs->xs.length=rs.length
 | [],[],_=>rfl
 | _::_,_::_,h=>congrArg (·+1) (SDs.length h.2)
 | [],_::_,h=>h.elim
 | _::_,[],h=>h.elim
theorem SDs.get {H:Hp}:∀ {xs:List V} {rs:List (List Int)} {i:Nat} {v:V},SDs H xs rs->xs[i]?=some v->∃ p r,v=.ref p/\rs[i]?=some r/\H p=some (.lst (r.map V.int))
 | [],[],_,_,_,e=>by simp at e
 | _::_,r::_,0,_,h,e=>by
   simp at e;subst e
   obtain ⟨p,e,q⟩:=h.1
   exact ⟨p,r,e,rfl,q⟩
 | _::_,_::_,i+1,_,h,e=>by
   obtain ⟨p,r,h1,h2,h3⟩:=SDs.get (i:=i) h.2 (by simpa using e)
   exact ⟨p,r,h1,by simpa using h2,h3⟩
 | [],_::_,_,_,h,_=>h.elim
 | _::_,[],_,_,h,_=>h.elim
theorem SDs.snoc {H:Hp} {p:Addr} {r:List Int} (hp:H p=some (.lst (r.map V.int))):∀ {xs:List V} {rs:List (List Int)},SDs H xs rs->SDs H (xs++[.ref p]) (rs++[r])
 | [],[],_=>⟨⟨p,rfl,hp⟩,trivial⟩
 | _::_,_::_,h=>⟨h.1,SDs.snoc hp h.2⟩
 | [],_::_,h=>h.elim
 | _::_,[],h=>h.elim
theorem SD.head {H:Hp} {p:Addr} {r:List Int} {rs:List (List Int)} (h:SD H p (r::rs)):∃ a xs,H p=some (.lst (.ref a::xs))/\H a=some (.lst (r.map V.int))/\SDs H (.ref a::xs) (r::rs):=by
 obtain ⟨xs,e,q⟩:=h
 match xs,q with
 | [],q=>exact q.elim
 | x::xs,q=>
   obtain ⟨a,e1,e2⟩:=q.1
   subst e1
   exact ⟨a,xs,e,e2,q⟩
theorem qek {α:Type} (x:α) (xs:List α):atI (x::xs) 0=some x:=by
 unfold atI ixN
 rw [if_pos ∅,if_pos (by rw [wbi];omega)]
 rfl
theorem qeN (h:qaM K vs H Q E):qcW K { nx:=λ_ H'=>Q .non H',rt:=Q } (L2.start ["strand","shared","row"] vs) H:=by
 obtain ⟨p,rows,rfl,⟨xs,hp,hS⟩,hl,hr,k⟩:=h
 have lx:=hS.length
 unfold qcW
 rwa []
 refine ⟨⟨_,SqL.of hp⟩,ForL.by (xs:=xs) (λi σ H'=>∃ (g:Int) (u:Option V),σ=[some (.ref p),some (.int g),u]/\Same H H'/\0<=g/\(∀ r∈rows.take i,∀ z∈r,g∣z)/\(∀ d:Int,(∀ r∈rows.take i,∀ z∈r,d∣z)->d∣g)) ⟨0,none,rfl,Same.refl H,Int.le_refl 0,λr hr=>(by simp at hr),λd _=>wby d⟩ ?_ ?_ ?_⟩
 ·rintro i σ H' _ ⟨g,u,rfl,s,_⟩
  exact SqL.of (s _ _ hp)
 ·rintro i x σ H' hi ⟨g,u,rfl,s,g0,g1,g2⟩
  obtain ⟨a,r,rfl,hri,ha⟩:=hS.get hi
  have ha':=s _ _ ha
  have hrm:=hr r (wau hri)
  rwa [ha']
  refine ⟨r,rfl,hrm.1,λg' H2 s2 g0' d1 d2 d3=>?_⟩
  have et:rows.take (i+1)=rows.take i++[r]:=by rw [wbz,hri];rfl
  refine ⟨s.trans s2,g0',λr' hr' z hz=>?_,λd hd=>d3 d ?_ λz hz=>?_⟩
  ·rw [et] at hr'
   rcases wbk.mp hr' with h | h
   ·exact wbp d1 (g1 r' h z hz)
   ·rw [war.mp h] at hz;exact d2 z hz
  ·exact g2 d λr' hr' z hz=>hd r' (by rw [et];exact wcq _ hr') z hz
  ·exact hd r (by rw [et];exact wbf _ (war.mpr rfl)) z hz
 ·rintro σ H' ⟨g,u,rfl,s,g0,g1,g2⟩
  rw [lx,wbv] at g1 g2
  have hp':=s _ _ hp
  have gz:∀ r∈rows,0<g\/r=[]:=λr hrr=>by
   rcases Int.lt_or_le 0 g with h | h
   ·exact .inl h
   ·right
    have ge:g=0:=by omega
    rcases (hr r hrr).2 with h | h
    ·exact h
    ·exfalso
     by_cases hl0:r.length=0
     ·rw [qau ⋯] at h;exact h rfl
     ·have:=g1 r hrr (co r (r.length - 1)) (by
       unfold co
       rw [wab,wag ⋯]
       exact wbo _)
      rw [ge] at this
      exact h (Int.zero_dvd.mp this)
  rwa []
  refine ⟨⟨_,SqL.of hp'⟩,CompJ.lst (xs:=xs) (λi ys H2=>i<=rows.length/\Same H H2/\SDs H2 ys ((rows.take i).map λr=>r.map (·/ g))) ⟨wae _,s,trivial⟩ ?_ ?_ ?_⟩
  ·rintro i ys H2 ⟨h1,s2,hy⟩
   refine ⟨⋯,sz ?_,SqL.of (s2 _ _ hp)⟩
   rw [hy.length,waa,wa5];omega
  ·rintro i x ys H2 hi ⟨h1,s2,hy⟩
   obtain ⟨a,r,rfl,hri,ha⟩:=hS.get hi
   have ha':=s2 _ _ ha
   have hrm:=hr r (wau hri)
   have hi2:i<rows.length:=(waq.mp hri).1
   rwa [ha']
   refine ⟨r,rfl,gz r (wau hri),hrm.1,λt ht=>?_⟩
   refine ⟨⋯,s2.trans (qah ht _),?_⟩
   have et:(rows.take (i+1)).map (λr=>r.map (·/ g))=(rows.take i).map (λr=>r.map (·/ g))++[r.map (·/ g)]:=by rw [wbz,hri];simp
   rw [et]
   exact SDs.snoc qag (hy.tp (qah ht _))
  ·rintro ys H2 ⟨_,s2,hy⟩ t ht
   rw [lx,wbv] at hy
   have st:=qah ht (.lst ys)
   by_cases gp:0<g
   ·refine k t _ _ (s2.trans st) ⟨ys,qag,hy.tp st⟩ ⟨g,gp,?_⟩ (.inr λd hd=>?_)
    ·rw [wb3]
     conv=>lhs;rw [<-List.map_id rows]
     refine wcd λr hrr=>?_
     show r=(r.map (·/ g)).map (g*·)
     rw [wb3]
     conv=>lhs;rw [<-List.map_id r]
     refine wcd λz hz=>?_
     show z=g*(z / g)
     rw [Int.mul_ediv_cancel' (g1 r hrr z hz)]
    ·have hdg:d*g∣g:=g2 (d*g) λr hrr z hz=>by
      have h1:=hd (r.map (·/ g)) (wax.mpr ⟨r,hrr,rfl⟩) (z / g) (wax.mpr ⟨z,hz,rfl⟩)
      obtain ⟨c,hc⟩:=h1
      refine ⟨c,?_⟩
      have:=Int.mul_ediv_cancel' (g1 r hrr z hz)
      rw [<-this,hc];grind
     obtain ⟨c,hc⟩:=hdg
     have e:g*(d*c)=g*1:=by rw [Int.mul_one];conv=>rhs;rw [hc]
                            grind
     have e1:=Int.eq_of_mul_eq_mul_left ⋯ e
     have:d.natAbs*c.natAbs=1:=by rw [<-way,e1];rfl
     exact Nat.eq_one_of_mul_eq_one_right this
   ·have ge:∀ r∈rows,r=[]:=λr hrr=>by
     rcases gz r hrr with h | h
     ·exact absurd h gp
     ·exact h
    have em:rows.map (λr=>r.map (·/ g))=rows:=by
     conv=>rhs;rw [<-List.map_id rows]
     refine wcd λr hrr=>?_
     rw [ge r hrr];rfl
    rw [em] at hy
    refine k t rows _ (s2.trans st) ⟨ys,qag,hy.tp st⟩ ⟨1,∅,?_⟩ (.inl ge)
    conv=>lhs;rw [<-List.map_id rows]
    refine wcd λr hrr=>?_
    rw [ge r hrr];rfl
theorem qrL {r:List Int} (h:∀ d:Int,(∀ z∈r,d∣z)->d.natAbs=1):Prim r:=λc hc=>h c λz hz=>by
 obtain ⟨i,hi,rfl⟩:=wcs hz
 have:=hc i
 unfold co at this
 rw [wab,wag hi] at this
 exact this
theorem qgr (h:qaL K vs H Q E):qd2 K { nx:=λ_ H'=>Q .non H',rt:=Q } (L2.start ["row"] vs) H:=by
 obtain ⟨p,ns,rfl,hp,hl,tz,k⟩:=h
 unfold qd2
 rwa []
 refine ⟨sz ∅,λa ha=>?_⟩
 have sa:=qah ha (.lst [.ref p])
 refine ⟨[ns],⟨[V.ref p],qag,⟨⟨p,rfl,sa _ _ hp⟩,trivial⟩⟩,by simp,?_,λt rows' H' s' hSD hSh hP=>?_⟩
 ·intro r hr
  rw [war.mp hr]
  exact ⟨hl,tz⟩
 obtain ⟨g,g0,eg⟩:=hSh
 match rows',eg,hSD,hP with
 | [ms],eg,hSD,hP=>
   obtain ⟨b,xs,h1,h2,_⟩:=hSD.head
   have eg':ns=ms.map (g*·):=by simpa using eg
   refine ⟨_,h1,_,qek _ _,k b ms g H' (sa.trans s') h2 g0 eg' ?_⟩
   rcases hP with h | h
   ·left;rw [eg',h ms (war.mpr rfl)];rfl
   ·right
    exact qrL λd hd=>h d λr hr z hz=>by rw [war.mp hr] at hz;exact hd z hz
 | [],eg,_,_=>simp at eg
 | _::_::_,eg,_,_=>simp at eg
theorem qtb {n:Nat} {a:List Int} (h:∀ k,Bd n (co a k)):∀ z∈a,Bd n z:=λz hz=>by
 obtain ⟨i,hi,rfl⟩:=wcs hz
 have:=h i
 unfold co at this
 rw [wab,wag hi] at this
 exact this
theorem qja (g:Int) (a:List Int) (k:Nat):co (a.map (g*·)) k=g*co a k:=ql2 (F:=(g*·)) ⋯ a k
theorem qkX {g:Int} (g0:g≠0) {a:List Int} (h:Tz (a.map (g*·))):Tz a:=by
 rcases h with h | h
 ·left;exact List.map_eq_nil_iff.mp h
 ·right
  rw [qja,waa] at h
  exact λz=>h (by rw [z];omega)
theorem qkY {n:Nat} {g:Int} (g0:0<g) {a:List Int} (h:∀ z∈a.map (g*·),Bd n z):∀ z∈a,Bd n z:=λz hz=>(h (g*z) (wax.mpr ⟨z,hz,rfl⟩)).le (by
 rw [way]
 exact wcw _ ⋯)
theorem quc {a b:Int} (hb:b≠0) (h:a∣b):a.natAbs<=b.natAbs:=wcc ⋯ (wbh.mpr h)
theorem qhS (h:qbm K vs H Q E):qfe K { nx:=λ_ H'=>Q .non H',rt:=Q } (L2.start ["strand","other","shift","top","lead","shared","factor","weight"] vs) H:=by
 obtain ⟨p,q,o,rfl,hS,hO,o0,k⟩:=h
 obtain ⟨ac,xc,hp,hac,_⟩:=hS.head
 obtain ⟨ao,xo,hq,hao,_⟩:=hO.head
 have A1:atI (V.ref ac::xc) 0=some (V.ref ac):=qek _ _
 have A2:atI (V.ref ao::xo) 0=some (V.ref ao):=qek _ _
 unfold qfe
 rwa []
 refine qb3 (λn σ H'=>σ=[some (.ref p),some (.ref q),none,none,none,none,none,none]/\H'=H/\n=0) 0 ⟨rfl,rfl,rfl⟩ ?_
 rintro n σ H' ⟨rfl,rfl,rfl⟩
 rwa [hp,hq,hac,hao,A1,A2]
 refine qbr (λc=>by rw [waa] at c;exfalso;omega) (λ_=>?_)
 unfold qd1
 rwa []
 refine ⟨[[]],hS,∅,(λr hr=>by rw [war.mp hr];exact ⟨∅,.inl rfl⟩),λt rows H1 s1 hSD sh _=>k t H1 s1 ?_⟩
 obtain ⟨g,_,e⟩:=sh
 have l1:rows.length=1:=by have:=congrArg List.length e;simpa using this.symm
 obtain ⟨r,rfl⟩:∃ r,rows=[r]:=List.length_eq_one_iff.mp l1
 have e:[]=r.map (g*·):=List.head_eq_of_cons_eq e
 rw [List.map_eq_nil_iff.mp e.symm] at hSD
 exact hSD
theorem qmC {a:List Int} (h:Tz a) (ne:a≠[]):Lz a:=by
 refine ⟨wb1.mpr ne,?_⟩
 rcases h with e | e
 ·exact absurd e ne
 ·exact e
theorem qgs (h:qaU K vs H Q E):qd3 K { nx:=λ_ H'=>Q .non H',rt:=Q } (L2.start ["strand","other","rest"] vs) H:=by
 obtain ⟨p,q,s,o,rfl,hS,hO,em,k⟩:=h
 unfold qd3
 rwa []
 refine qb3 (λn σ H'=>(σ=[some (.ref p),some (.ref q),none]/\H'=H/\n=1)\/∃ (t:Addr) (u:Option V),σ=[some (.ref q),some (.ref t),u]/\Same H H'/\SD H' t [[]]/\o≠[]/\n=0) 1 (.inl ⟨rfl,rfl,rfl⟩) ?_
 rintro n σ H' (⟨rfl,rfl,rfl⟩ | ⟨t,u,rfl,sH,hT,o0,rfl⟩)
 ·obtain ⟨ao,xo,hq,hao,_⟩:=hO.head
  have A2:atI (V.ref ao::xo) 0=some (V.ref ao):=qek _ _
  rwa [hq,hao,A2]
  by_cases oe:o=[]
  ·refine qbr (λc=>absurd oe (by simpa using c)) (λ_=>?_)
   rw [if_pos oe] at k
   exact k p _ (Same.refl _) hS
  ·refine qbr (λ_=>?_) (λc=>absurd (by simpa using c) oe)
   have se:s=[]:=by
    rcases em with z | z
    ·exact z
    ·exact absurd z oe
   rw [if_neg oe] at k
   refine ⟨λσ' H''=>∃ m',m'<1/\_,λ_ _ h=>h,?_⟩
   rwa [hq,hao,A2]
   refine qbr (λ_=>k q _ (Same.refl _) hO) (λ_=>?_)
   refine ⟨by rw [<-se];exact hS,o,hO,wb1.mpr oe,λt H1 s1 hT=>?_⟩
   exact ⟨0,∅,.inr ⟨s1,hT,oe,rfl⟩⟩
 ·obtain ⟨at',xt,ht,hat,_⟩:=hT.head
  have A2:atI (V.ref at'::xt) 0=some (V.ref at'):=qek _ _
  rwa [ht,hat,A2]
  refine qbr (λc=>absurd c (by simp)) (λ_=>?_)
  rw [if_neg o0] at k
  exact k q _ sH (hO.tp sH)
theorem qoH {b n c:Nat} {r a g:List Int} (hr:∀ z∈r,Bd b z) (rl:r.length<=n) (hn:n<2 ^ c) (lg:Lz g) (h:∀ k,co r k=cvL a (co g) k):∀ k,Bd (b+n*(2*c+4)) (co a k):=by
 rcases qhL a with z | ⟨a',la,_,ea⟩
 ·intro k;rw [z k];exact qdo _
 have h':∀ k,co r k=cvL g (co a') k:=λk=>by rw [h k,qbj,qas (λk=>(ea k).symm) g k]
 have t:co r (a'.length - 1+(g.length - 1))≠0:=by rw [h',qbj,qfr la lg];exact wa7 la.2 lg.2
 have al:a'.length<=r.length:=by
  rcases wap (a'.length - 1+(g.length - 1)) r.length with c | c
  ·have:=la.1;omega
  ·exact absurd (qau c) t
 intro k
 rw [<-ea k]
 exact qfT hr ⟨_,t⟩ rl (wa3 al rl) hn h' k
theorem qrM {G S:List Int} (lG:Lz G) (h:∀ k,cvL S (co G) k=0) (k:Nat):co S k=0:=(qoF lG (T:=0) λk _=>h k).1 k (wae k)
theorem Gen.Prim {r o:Nat->Int} {g:List Int} (G:Gen r o g):Prim g:=λc hc=>by
 rcases wap c.natAbs 2 with h | h
 ·rcases wbt c.natAbs with z | z
  ·exfalso
   have c0:c=0:=by omega
   have:=hc (g.length - 1)
   rw [c0] at this
   exact G.lz.2 (Int.zero_dvd.mp this)
  ·omega
 ·exfalso
  obtain ⟨n,hn,_⟩:=G.prim h
  exact hn (Int.natAbs_dvd.mpr (hc n))
theorem qrN {R O A B G:List Int} (lG:Lz G) (hA:∀ k,co R k=cvL A (co G) k) (hB:∀ k,co O k=cvL B (co G) k) (q:QI (co R) (co O) (co G)):QI (co A) (co B) qbp:=by
 obtain ⟨d,d0,U,V,h⟩:=q
 refine ⟨d,d0,U,V,λk=>?_⟩
 have z:=qrM (S:=qaN (qaN (qaJ U A) (qaJ V B)) [-d]) lG (λk=>by
  rw [qax,qax,qaC,qaC,<-qas hA,<-qas hB]
  have:=h k
  have e:cvL [-d] (co G) k = -d*co G k:=by
   cases k with
   | zero=>rw [qaq];omega
   | succ k=>rw [qam,qaE];omega
  rw [e,wb7,this];omega) k
 rw [qbg,qax,qax,qaC,qaC,<-qas (qbg A),<-qas (qbg B)] at z
 have e:cvL [-d] qbp k = -d*qbp k:=by
  cases k with
  | zero=>rw [qaq];omega
  | succ k=>rw [qam,qaE];omega
 rw [e,wb7] at z
 omega
theorem qp6 (p:Nat) (p0:0<p) (S:List Int):(∀ k,(p:Int)∣co S k)\/∃ T,Lz T/\(∀ k,(p:Int)∣co S k - co T k)/\¬ (p:Int)∣co T (T.length - 1):=by
 have cm:∀ k,co (S.map (·% (p:Int))) k=co S k % (p:Int):=λk=>ql2 (F:=(·% (p:Int))) (Int.zero_emod _) S k
 rcases qhL (S.map (·% (p:Int))) with z | ⟨T,lT,_,eT⟩
 ·exact .inl λk=>Int.dvd_of_emod_eq_zero (by rw [<-cm k];exact z k)
 ·refine .inr ⟨T,lT,λk=>?_,λh=>?_⟩
  ·rw [eT,cm]
   exact ⟨co S k / p,by have:=wco (co S k) p;omega⟩
  ·have h1:=eT (T.length - 1)
   rw [cm] at h1
   have b1:=wba (co S (T.length - 1)) (show (p:Int)≠0 by omega)
   have b2:=wbg (co S (T.length - 1)) (show (0:Int)<p by omega)
   have:=lT.2
   have l:=Int.le_of_dvd ⋯ h
   omega
theorem cvT {p:Int} {S T:List Int} {g:Nat->Int} {n:Nat} (hg:∀ i,n<=i->g i=0) (h:∀ k,p∣co S k - co T k) (k:Nat):p∣cvL S g k - cvL T g k:=by
 have e:∀ k,g k=co ((List.range n).map g) k:=λk=>by
  rw [qgD];split
  ·rfl
  ·exact hg k ⋯
 rw [qas e,qas e,qbj,qbj T]
 have:=cvD (S:=[1]) (f:=co S) (g:=co T) (λk=>by
  have e1:cvL [1] (co T) k=co T k:=by
   cases k with
   | zero=>rw [qaq];omega
   | succ k=>rw [qam,qaE];omega
  rw [e1];exact h k) ((List.range n).map g) k
 rwa [qas (b:=cvL [1] (co T)) (c:=co T) (λk=>by
  cases k with
  | zero=>rw [qaq];omega
  | succ k=>rw [qam,qaE];omega)] at this
theorem qoI {p:Nat} (hp:Pr p) {R A G rs T:List Int} (hA:∀ k,co R k=cvL A (co G) k) (lG:Lz G) (pG:¬ (p:Int)∣co G (G.length - 1)) (hT:∀ k,(p:Int)∣co rs k - cvL T (co G) k) (d:Dm (p:Int) (co rs) (co R)):Dm (p:Int) (co T) (co A):=by
 obtain ⟨X,hX⟩:=d
 refine ⟨X,λk=>?_⟩
 have z:=qe4 hp pG (λi hi=>by rw [qau ⋯];exact wby _) (qaN A ((qaJ X T).map ((-1)*·))) (λk _=>by
  rw [qax,qat,qaC,<-hA]
  have h1:=hX k
  have h2:=cvD hT X k
  have:=wbx h1 h2
  refine wbp this (qp2 ?_)
  omega)
 have e:co A k - cvL X (co T) k=co (qaN A ((qaJ X T).map ((-1)*·))) k:=by
  rw [qbg (qaN A _),qax,qat,qaC,<-qbg,<-qas (qbg T)];omega
 rw [e]
 exact qpZ z k
theorem qrO {x e c n p N:Nat} (hx:x<2 ^ (c+1)) (hN:N<=2*(n - 1)) (big:2 ^ ((e+c+2)*(2*(n - 1)))<p):(2*(x*2 ^ e)) ^ N<p:=by
 have h1:2*(x*2 ^ e)<=2 ^ (e+c+2):=by
  have:x*2 ^ e<=2 ^ (c+1)*2 ^ e:=wbe _ (wbr hx)
  have e2:2 ^ (e+c+2)=2*(2 ^ (c+1)*2 ^ e):=by rw [<-wbn,show e+c+2=(c+1+e)+1 by omega,wa1];omega
  omega
 refine wb9 ?_ big
 rw [Nat.pow_mul]
 exact wa3 (Nat.pow_le_pow_left h1 N) (wbm (wav ∅) hN)
theorem qkZ {ns ms rs gs G:List Int} {p d n c e:Nat} {lead:Int} (hp:Pr p) (ln:Lz ns) (lm:Lz ms) (bn:∀ z∈ns,Bd d z) (bm:∀ z∈ms,Bd d z) (nn:ns.length<=n) (mn:ms.length<=n) (hc:n<2 ^ c) (n2:2<=n) (he:e=d+n*(2*c+4)) (big:2 ^ ((e+c+2)*(2*(n - 1)))<p)
  (hld:((Int.gcd (co ns (ns.length - 1)) (co ms (ms.length - 1)):Nat):Int)=lead) (hG:Gen (co ns) (co ms) G) (r0:0<rs.length) (one:co rs (rs.length - 1)=1) (glen:G.length<=rs.length) (pG:¬ (p:Int)∣co G (G.length - 1)) (dG:Dm (p:Int) (co G) (co rs)) (dn:Dm (p:Int) (co rs) (co ns)) (dm:Dm (p:Int) (co rs) (co ms))
  (gl:gs.length=rs.length) (hg:∀ k,k<rs.length->(p:Int)∣co gs k - lead*co rs k) (hb:∀ z∈gs,2*z.natAbs<=p):MQ (co gs) (co ns)/\MQ (co gs) (co ms):=by
 have p2:=hp.two
 have P:=hG.Prim
 have lG:=hG.lz
 obtain ⟨A,hA⟩:=gauss P hG.rc.left
 obtain ⟨B,hB⟩:=gauss P hG.rc.right
 have bA:=qoH bn nn hc lG hA
 have bB:=qoH bm mn hc lG hB
 have bG:∀ k,Bd e (co G k):=by
  rw [he]
  exact qfT bn ⟨_,ln.2⟩ nn (wa3 (qlX lG ln hG.rc.left) nn) hc hA
 rw [<-he] at bA bB
 have n0:1<=n:=by have:=ln.1;omega
 have cop:=qrN lG hA hB hG.qi
 obtain ⟨S,hS⟩:=dG
 have p0:0<p:=by omega
 have one':¬ (p:Int)∣(1:Int):=λz=>by have:=Int.le_of_dvd ∅ z;omega
 rcases qp6 p p0 S with z | ⟨T,lT,hT,pT⟩
 ·exfalso
  have h1:=hS (rs.length - 1)
  have h2:=cvT (p:=(p:Int)) (S:=S) (T:=[]) (g:=co G) (n:=G.length) (λi hi=>qau hi) (λk=>by rw [qau (a:=[]) (wae _),Int.sub_zero];exact z k) (rs.length - 1)
  rw [one] at h1
  rw [qaE,Int.sub_zero] at h2
  have:=wbx h1 h2
  rw [Int.sub_add_cancel] at this
  exact one' this
 have hTr:∀ k,(p:Int)∣co rs k - cvL T (co G) k:=λk=>by
  have:=wbx (hS k) (cvT (λi hi=>qau hi) hT k (g:=co G) (n:=G.length))
  refine wbp this (qp2 ?_)
  omega
 have t0:=lT.1
 have g0:=lG.1
 have tl:T.length+G.length=rs.length+1:=by
  have tp:=qfr lT lG
  have np:¬ (p:Int)∣co T (T.length - 1)*co G (G.length - 1):=λz=>by
   rcases hp.mulI z with q | q
   ·exact pT q
   ·exact pG q
  have h1:=hTr (T.length - 1+(G.length - 1))
  rw [tp] at h1
  have c1:T.length - 1+(G.length - 1)<rs.length:=by
   rcases wap (T.length - 1+(G.length - 1)) rs.length with c | c
   ·exact c
   ·exfalso
    rw [qau c,Int.zero_sub] at h1
    exact np (Int.dvd_neg.mp h1)
  have h2:=hTr (rs.length - 1)
  rw [one] at h2
  rcases wap (T.length - 1+(G.length - 1)) (rs.length - 1) with c | c
  ·exfalso
   rw [qbD (n:=G.length) (λi hi=>qau hi) T _ ⋯,Int.sub_zero] at h2
   exact one' h2
  ·omega
 have dTA:=qoI hp hA lG pG hTr dn
 have dTB:=qoI hp hB lG pG hTr dm
 have trimmed:∀ {R A:List Int},Lz R->R.length<=n->(∀ k,co R k=cvL A (co G) k)->(∀ k,Bd e (co A k))->∃ A',Lz A'/\A'.length<=n/\co A'=co A:=λ{R A} lR Rn h _=>by
  rcases qhL A with z | ⟨A',la,_,ea⟩
  ·exact absurd (by rw [h,qbj,qb6 G z]) lR.2
  ·refine ⟨A',la,?_,funext ea⟩
   have t:co R (A'.length - 1+(G.length - 1))≠0:=by
    rw [h,qbj,qas (λk=>(ea k).symm) G,<-qbj,qfr la lG];exact wa7 la.2 lG.2
   rcases wap (A'.length - 1+(G.length - 1)) R.length with c | c
   ·have:=la.1;omega
   ·exact absurd (qau c) t
 obtain ⟨A',lA,An,eA⟩:=trimmed ln nn hA bA
 obtain ⟨B',lB,Bn,eB⟩:=trimmed lm mn hB bB
 have big1:2 ^ e<p:=wb9 (wbm ∅ (by
  have:(e+c+2)*1<=(e+c+2)*(2*(n - 1)):=wa6 _ ⋯
  omega)) big
 have T1:T.length=1:=by
  rcases wap T.length 2 with cT | cT
  ·omega
  ·exfalso
   have short:∀ {A:List Int},Lz A->(∀ k,Bd e (co A k))->Dm (p:Int) (co T) (co A)->2<=A.length:=λ{A} lA bA dA=>by
    have:=Dm.len hp t0 pT dA ⟨A.length - 1,λz=>by
     have h1:=bA (A.length - 1)
     have h2:=wbh.mpr z
     have h3:=wcc (by have:=lA.2;omega) h2
     rw [wbj] at h3
     have:(co A (A.length - 1)).natAbs<2 ^ e:=h1
     omega⟩
    omega
   have a2:=short lA (λk=>by rw [eA];exact bA k) (by rw [eA];exact dTA)
   have b2:=short lB (λk=>by rw [eB];exact bB k) (by rw [eB];exact dTB)
   refine lucky hp lA lB (by rw [eA,eB];exact cop) (λk=>by rw [eA];exact bA k) (λk=>by rw [eB];exact bB k) a2 b2 cT pT (by rw [eA];exact dTA) (by rw [eB];exact dTB) (qrO (x:=A'.length+B'.length) (c:=c) (n:=n) ?_ ⋯ big)
   rw [wa1];omega
 obtain ⟨s,rfl⟩:∃ s,T=[s]:=by
  match T,T1 with
  | [s],_=>exact ⟨s,rfl⟩
 have hrs:∀ k,(p:Int)∣co rs k - s*co G k:=λk=>by
  have:=hTr k
  have e1:cvL [s] (co G) k=s*co G k:=by
   cases k with
   | zero=>rw [qaq];omega
   | succ k=>rw [qam,qaE];omega
  rwa [e1] at this
 have lr:G.length=rs.length:=by simp at tl;omega
 have lcd:∀ {R A:List Int},(∀ k,co R k=cvL A (co G) k)->Lz R->co G (G.length - 1)∣co R (R.length - 1):=λ{R A} h lR=>by
  rcases qhL A with z | ⟨A',la,_,ea⟩
  ·exact absurd (by rw [h,qbj,qb6 G z]) lR.2
  ·have hh:∀ k,co R k=cvL A' (co G) k:=λk=>by rw [h,qbj,qas (λk=>(ea k).symm) G,<-qbj]
   have tp:=qfr la lG
   have a0:=la.1
   have rl:R.length - 1=A'.length - 1+(G.length - 1):=by
    rcases Nat.lt_trichotomy (R.length - 1) (A'.length - 1+(G.length - 1)) with c | c | c
    ·exfalso
     have:=hh (A'.length - 1+(G.length - 1))
     rw [qau (by have:=lR.1;omega),tp] at this
     exact wa7 la.2 lG.2 this.symm
    ·exact c
    ·exfalso
     have:=hh (R.length - 1)
     rw [qbD (n:=G.length) (λi hi=>qau hi) A' _ ⋯] at this
     exact lR.2 this
   rw [rl,hh,tp]
   exact Int.dvd_mul_left _ _
 obtain ⟨t,ht⟩:co G (G.length - 1)∣lead:=by rw [<-hld];exact Int.dvd_coe_gcd (lcd hA ln) (lcd hB lm)
 have lead0:lead≠0:=λz=>by
  rw [<-hld] at z
  have:Int.gcd (co ns (ns.length - 1)) (co ms (ms.length - 1))=0:=by omega
  exact ln.2 (Int.gcd_eq_zero_iff.mp this).1
 have t0':t≠0:=λz=>lead0 (by rw [ht,z,Int.mul_zero])
 have bt:t.natAbs<2 ^ d:=by
  have h1:lead∣co ns (ns.length - 1):=by rw [<-hld];exact wcm ..
  have h2:=wbp (show t∣lead from ⟨co G (G.length - 1),by rw [ht,wca]⟩) h1
  have h3:=wcc (by have:=ln.2;omega) (wbh.mpr h2)
  have h4:(co ns (ns.length - 1)).natAbs<2 ^ d:=qa8 bn _
  omega
 have egs:∀ k,co gs k=t*co G k:=λk=>by
  rcases wap k rs.length with ck | ck
  ·have h1:=hg k ck
   have h2:=hrs k
   have h3:=hrs (rs.length - 1)
   rw [one,<-lr] at h3
   have dv:(p:Int)∣co gs k - t*co G k:=by
    have q1:(p:Int)∣lead*(co rs k - s*co G k):=wcy h2
    have q2:(p:Int)∣(t*co G k)*(1 - s*co G (G.length - 1)):=wcy h3
    have:=Int.dvd_sub (wbx h1 q1) q2
    refine wbp this (qp2 ?_)
    rw [ht]
    grind
   have b1:2*(co gs k).natAbs<=p:=by
    have:co gs k∈gs:=by
     unfold co
     rw [wab,wag ⋯]
     exact wbo _
    exact hb _ this
   have b2:2*(t*co G k).natAbs<p:=by
    rw [way]
    have h5:t.natAbs*(co G k).natAbs<=2 ^ d*2 ^ e:=Nat.mul_le_mul (wbr bt) (wbr (bG k))
    have h6:2*(2 ^ d*2 ^ e)<=2 ^ ((e+c+2)*(2*(n - 1))):=by
     rw [<-wbn,show 2*2 ^ (d+e)=2 ^ (d+e+1) by rw [wa1];omega]
     refine wbm ∅ ?_
     have:(e+c+2)*2<=(e+c+2)*(2*(n - 1)):=wa6 _ ⋯
     omega
    omega
   obtain ⟨y,hy⟩:=dv
   have ab:(co gs k - t*co G k).natAbs<p:=by omega
   rcases Int.lt_trichotomy y 0 with z | z | z
   ·have:(p:Int)*y<=(p:Int)*(-1):=wcj ⋯ ⋯
    omega
   ·rw [z] at hy;omega
   ·have:(p:Int)*1<=(p:Int)*y:=wcj ⋯ ⋯
    omega
  ·rw [qau ⋯,qau (a:=G) ⋯];omega
 have fin:∀ {R A:List Int},(∀ k,co R k=cvL A (co G) k)->MQ (co gs) (co R):=λ{R A} h=>⟨t,t0',A,λk=>by rw [qas egs,qbw,h k]⟩
 exact ⟨fin hA,fin hB⟩
theorem ql3 {g f:List Int} {A:List Int} (h:∀ k,co f k=cvL A (co g) k):MQ (co g) (co f):=⟨1,∅,A,λk=>by rw [<-h k];omega⟩
theorem qft (h:qaS K vs H Q E):qde K { nx:=λ_ H'=>Q .non H',rt:=Q } (L2.start ["row","other","prime","lead","found","guess"] vs) H:=by
 obtain ⟨a,b,ns,ms,p,d,nn,cc,rfl,ha,hb,pp,bp,ln,lm,bn,bm,dn,dm,nn1,nn2,nc,nn0,kN,kR⟩:=h
 have p2:(2:Int)<=(p:Int):=by have:=pp.two;omega
 unfold qde
 have an:=qdl ln.1
 have am:=qdl lm.1
 rwa [ha,hb,an,am]
 generalize hld:((Int.gcd (co ns (ns.length - 1)) (co ms (ms.length - 1)):Nat):Int)=lead
 have ld1:lead∣co ns (ns.length - 1):=by rw [<-hld];exact wcm ..
 have bl:Bd d lead:=(qa8 bn (ns.length - 1)).le (quc ln.2 ld1)
 refine ⟨⋯,qbr (λc=>?_) (λc=>?_)⟩
 ·refine kN (λbg=>?_) _ (Same.refl H)
  have bl':lead.natAbs<2 ^ d:=bl
  have z:=Int.dvd_of_emod_eq_zero (show lead % (p:Int)=0 by simpa using c)
  have l0:lead≠0:=λz=>by
   rw [<-hld] at z
   have:Int.gcd (co ns (ns.length - 1)) (co ms (ms.length - 1))=0:=by omega
   exact ln.2 (Int.gcd_eq_zero_iff.mp this).1
  have h3:=wcc ⋯ (wbh.mpr z)
  rw [wbj] at h3
  have:2 ^ d<=2 ^ ((d+nn*(2*cc+4)+cc+2)*(2*(nn - 1))):=by
   refine wbm ∅ ?_
   have:(d+nn*(2*cc+4)+cc+2)*1<=(d+nn*(2*cc+4)+cc+2)*(2*(nn - 1)):=wa6 _ ⋯
   omega
  have bg:2 ^ ((d+nn*(2*cc+4)+cc+2)*(2*(nn - 1)))<p:=bg
  omega
 have pl:¬ (p:Int)∣lead:=λz=>c (by rw [Int.emod_eq_zero_of_dvd z])
 have hnl:¬ (p:Int)∣co ns (ns.length - 1)\/¬ (p:Int)∣co ms (ms.length - 1):=by
  by_cases h1:(p:Int)∣co ns (ns.length - 1)
  ·right
   intro h2
   exact pl (by rw [<-hld];exact Int.dvd_coe_gcd h1 h2)
  ·exact .inl h1
 refine ⟨ns,ms,p,rfl,rfl,rfl,pp,bp,⋯,⋯,?_,λs rs H1 s1 hs r0 rl one br hD dvn dvm=>?_⟩
 ·rcases hnl with h | h
  ·exact .inl ⟨_,h⟩
  ·exact .inr ⟨_,h⟩
 refine ⟨⟨_,SqL.of hs⟩,CompJ.lst (xs:=rs.map V.int) (λi ys H'=>i<=rs.length/\H'=H1/\∃ gs:List Int,ys=gs.map V.int/\gs.length=i/\(∀ k,k<i->(p:Int)∣co gs k - lead*co rs k)/\∀ z∈gs,Bd 45000 z/\2*z.natAbs<=p) ⟨wae _,rfl,[],rfl,rfl,λk hk=>absurd hk ⋯,λz hz=>nomatch hz⟩ ?_ ?_ ?_⟩
 ·rintro i ys H' ⟨h1,rfl,gs,rfl,gl,_⟩
  exact ⟨by rw [waa];exact h1,sz (by rw [waa];omega),SqL.of hs⟩
 ·rintro i x ys H' hi ⟨h1,rfl,gs,rfl,gl,hg,bg⟩
  rw [waf] at hi
  cases e:rs[i]? with
  | none=>rw [e] at hi;cases hi
  | some n=>
    rw [e] at hi
    obtain rfl:V.int n=x:=Option.some.inj hi
    have hi2:i<rs.length:=(waq.mp e).1
    have bnn:=br n (wau e)
    have cn:co rs i=n:=by unfold co;rw [wab,e];rfl
    rwa []
    refine ⟨qks bl (bp.le (x:=(p:Int)) (y:=n) ⋯),⋯,λr hr1 hr2=>⟨⋯,gs++[r],by simp,by simp;omega,λk hk=>?_,λz hz=>?_⟩⟩
    ·by_cases ek:k=i
     ·subst ek
      have:co (gs++[r]) k=r:=by unfold co;rw [wab,<-gl];simp
      rw [this,cn];exact hr1
     ·have:co (gs++[r]) k=co gs k:=by unfold co;rw [wab,wab,wcl ⋯]
      rw [this];exact hg k ⋯
    ·rcases wbk.mp hz with z1 | z1
     ·exact bg z z1
     ·rw [war.mp z1];exact ⟨bp.le ⋯,by rw [wbj] at hr2;exact hr2⟩
 ·rintro ys H' ⟨_,rfl,gs,rfl,gl,hg,bg⟩ t ht
  rw [waa] at gl hg
  have st:=qah ht (.lst (gs.map V.int))
  have htt:upd H' t (.lst (gs.map V.int)) t=_:=qag
  generalize upd H' t (.lst (gs.map V.int))=H2 at st htt ⊢
  have gl0:0<gs.length:=by omega
  have glast:co gs (gs.length - 1)≠0:=λz=>by
   have:=hg (gs.length - 1) ⋯
   rw [z,show gs.length - 1=rs.length - 1 by omega,one] at this
   exact pl (by have t2:=Int.dvd_neg.mpr this;rw [show -(0 - lead*1)=lead by omega] at t2;exact t2)
  rwa [htt]
  refine ⟨gs,rfl,⋯,.inr glast,λu gu g H3 s3 hu g0 eg hp=>?_⟩
  have Pg:Prim gu:=by
   rcases hp with h | h
   ·rw [h] at gl0;simp at gl0
   ·exact h
  have lgu:gu.length=gs.length:=by rw [eg,waa]
  have lzg:Lz gu:=qmC (qkX (wai g0) (by rw [<-eg];exact .inr glast)) (λz=>by rw [z] at lgu;simp at lgu;omega)
  have bgu:∀ z∈gu,Bd 45000 z:=qkY g0 (by rw [<-eg];exact λz hz=>(bg z hz).1)
  have s13:Same H H3:=(s1.trans st).trans s3
  have ha3:=s13 _ _ ha
  have hb3:=s13 _ _ hb
  obtain ⟨G,hG⟩:=qsW ln (QI.left (co ns) (co ms))
  have mn:=hG.mq _ ns (wad _) (QI.left _ _)
  have mm:=hG.mq _ ms (wad _) (QI.right _ _)
  have lead':¬ (p:Int)∣co G (G.length - 1):=by
   rcases hnl with h | h
   ·exact hG.lead pp ln mn h
   ·exact hG.lead pp lm mm h
  have dG:=hD (co G) (hG.dm pp mn) (hG.dm pp mm)
  have glen:G.length<=rs.length:=Dm.len pp hG.lz.1 lead' dG ⟨rs.length - 1,by
   rw [one]
   intro z
   have:=Int.le_of_dvd ∅ z
   omega⟩
  have tells:quy d nn cc p->(∃ A:List Int,∀ k,co ns k=cvL A (co gu) k)/\∃ A:List Int,∀ k,co ms k=cvL A (co gu) k:=λbp'=>by
   obtain ⟨q1,q2⟩:=qkZ pp ln lm bn bm nn1 nn2 nc nn0 rfl bp' hld hG r0 one glen lead' dG dvn dvm gl hg (λz hz=>(bg z hz).2)
   have sc:∀ k,co gs k=g*co gu k:=λk=>by rw [eg,qja]
   have mg:MQ (co gu) (co gs):=⟨1,∅,[g],λk=>by
    have e:cvL [g] (co gu) k=g*co gu k:=by
     cases k with
     | zero=>rw [qaq];omega
     | succ k=>rw [qam,qaE];omega
    rw [e,sc];omega⟩
   exact ⟨gauss Pg (mg.trans q1),gauss Pg (mg.trans q2)⟩
  rwa [ha3,hu]
  refine ⟨ns,rfl,gu,rfl,lzg,d,bn,45000,bgu,⋯,∅,⋯,⋯,λno=>kN (λbg=>no (tells bg).1) |> λf H4 s4=>f H4 (s13.trans s4),λr qs H4 s4 hr _ hq=>?_⟩
  have hb4:=s4 _ _ hb3
  have hu4:=s4 _ _ hu
  rwa [hb4,hu4]
  refine ⟨ms,rfl,gu,rfl,lzg,d,bm,45000,bgu,⋯,∅,⋯,⋯,λno=>kN (λbg=>no (tells bg).2) |> λf H5 s5=>f H5 ((s13.trans s4).trans s5),λr2 qs2 H5 s5 hr2 _ hq2=>?_⟩
  exact kR u gu H5 ((s13.trans s4).trans s5) (s5 _ _ hu4) (qn1 hG.rc lzg (ql3 hq) (ql3 hq2) ⋯) Pg
noncomputable def exps:List Nat:=[61,127,521,1279,4423,9941,21701,44497]
noncomputable def quV (K:W.Frag):Prop:=∀ H:Hp,SqT K H (qbW K) (exps.map λe:Nat=>V.int (e:Int))
theorem qrP:∀ e∈exps,Pr (mers e)/\e<=44497:=by
 intro e he
 have h:e=61\/e=127\/e=521\/e=1279\/e=4423\/e=9941\/e=21701\/e=44497:=by simpa [exps] using he
 rcases h with h | h | h | h | h | h | h | h <;> rw [h]
 ·exact ⟨quQ,∅⟩
 ·exact ⟨qtW,∅⟩
 ·exact ⟨qtX,∅⟩
 ·exact ⟨qsT,∅⟩
 ·exact ⟨qsU,∅⟩
 ·exact ⟨qsV,∅⟩
 ·exact ⟨qrr,∅⟩
 ·exact ⟨qrs,∅⟩
theorem qp7 (e:Nat):(2:Int) ^ (e:Int).toNat - 1=((mers e:Nat):Int):=by
 unfold mers
 have:=Nat.one_le_two_pow (n:=e)
 rw [Int.natCast_sub this,wce,Int.natCast_pow]
 rfl
theorem qrQ {e:Nat} (h:e<=44497):Bd 45000 ((mers e:Nat):Int):=by
 unfold Bd mers
 rw [wbj]
 have h1:=Nat.one_le_two_pow (n:=e)
 have h2:=wbm (n:=2) ∅ (show e<=45000 by omega)
 omega
theorem qk0 {ns ms one two rs:List Int} {g h:Int} (g0:g≠0) (h0:h≠0) (e1:ns=one.map (g*·)) (e2:ms=two.map (h*·)) (R:RC (co one) (co two) rs):RC (co ns) (co ms) rs:=by
 have c1:∀ k,co ns k=g*co one k:=λk=>by rw [e1,qja]
 have c2:∀ k,co ms k=h*co two k:=λk=>by rw [e2,qja]
 refine ⟨R.lz,?_,?_,?_⟩
 ·obtain ⟨c,c0,A,hA⟩:=R.left
  exact ⟨c,c0,A.map (g*·),λk=>by rw [qat,<-hA k,c1 k];grind⟩
 ·obtain ⟨c,c0,A,hA⟩:=R.right
  exact ⟨c,c0,A.map (h*·),λk=>by rw [qat,<-hA k,c2 k];grind⟩
 ·obtain ⟨d,d0,U,W,hU⟩:=R.qi
  refine ⟨g*h*d,wa7 (wa7 g0 h0) d0,U.map (h*·),W.map (g*·),λk=>?_⟩
  rw [qat,qat,qas c1 U k,qas c2 W k,qbw,qbw]
  have:=hU k
  grind
theorem qjb {K:W.Frag} (hK:quV K) {vs:List V} {H:Hp} {Q:VK} {E:XK} (h:qby K vs H Q E):qgd K { nx:=λ_ H'=>Q .non H',rt:=Q } (L2.start ["row","other","one","two","exponent","found"] vs) H:=by
 obtain ⟨a,b,ns,ms,d,nn,cc,rfl,ha,hb,tn,tm,bn,bm,nN,mN,N18,n2',nc,sm,hbd0,k⟩:=h
 have d9:d<=44490:=by
  have:(d+nn*(2*cc+4)+cc+2)*1<=(d+nn*(2*cc+4)+cc+2)*(2*(nn - 1)):=wa6 _ ⋯
  omega
 unfold qgd
 rwa [ha]
 refine ⟨ns,rfl,⋯,tn,λa1 one g1 H1 s1 h1 g10 e1 p1=>?_⟩
 have hb1:=s1 _ _ hb
 rwa [hb1]
 refine ⟨ms,rfl,⋯,tm,λa2 two g2 H2 s2 h2 g20 e2 p2=>?_⟩
 have s02:=s1.trans s2
 have ha2:=s02 _ _ ha
 have hb2:=s02 _ _ hb
 have h12:=s2 _ _ h1
 have l1:ns.length=one.length:=by rw [e1,waa]
 have l2:ms.length=two.length:=by rw [e2,waa]
 have t1:Tz one:=qkX (wai g10) (by rw [<-e1];exact tn)
 have t2:Tz two:=qkX (wai g20) (by rw [<-e2];exact tm)
 have b1:∀ z∈one,Bd d z:=qkY g10 (by rw [<-e1];exact bn)
 have b2:∀ z∈two,Bd d z:=qkY g20 (by rw [<-e2];exact bm)
 have n1:one=[]↔ns=[]:=by rw [<-wbd,<-wbd,l1]
 have n2:two=[]↔ms=[]:=by rw [<-wbd,<-wbd,l2]
 have last:(ns=[]\/ms=[])->∀ (H3:Hp) (u v:Option V),Same H2 H3->(qbG (tOp gL (qay (qaU K) [] E0 (qad (qeT (qad (qaf 2) qar)) (qad (qeT (qad (qaf 3) qar)) qar))) (tC (.int 0)))) { nx:=λ_ H'=>Q .non H',rt:=Q } [some (.ref a),some (.ref b),some (.ref a1),some (.ref a2),u,v] H3:=λem H3 u v s3=>by
  have h13:=s3 _ _ h12
  have h23:=s3 _ _ h2
  rwa []
  refine ⟨sz ∅,λx hx=>?_⟩
  have sx:=qah hx (.lst [.ref a1])
  refine ⟨sz ∅,λy hy=>?_⟩
  have sy:=qah hy (.lst [.ref a2])
  have hxy:=sy _ _ (show upd H3 x (.lst [.ref a1]) x=_ from qag)
  refine ⟨one,⟨[V.ref a1],hxy,⟨⟨a1,rfl,sy _ _ (sx _ _ h13)⟩,trivial⟩⟩,two,⟨[V.ref a2],qag,⟨⟨a2,rfl,sy _ _ (sx _ _ h23)⟩,trivial⟩⟩,em.imp (λz=>n1.mpr z) (λz=>n2.mpr z),λt H4 s4 hSD=>?_⟩
  obtain ⟨ar,xr,ht,har,_⟩:=hSD.head
  refine ⟨_,ht,_,qek _ _,?_⟩
  refine k ar _ H4 (s02.trans (s3.trans ((sx.trans sy).trans s4))) har (λhne=>?_) λh1 h2=>by rw [if_pos (n2.mpr h2)];exact n1.mpr h1
  have z0:∀ {x:List Int},x=[]->∀ k,co x k=0:=λe k=>by rw [e];exact qau (wae _)
  by_cases te:two=[]
  ·rw [if_pos te]
   have oe:ns≠[]:=by
    rcases hne with h | h
    ·exact h
    ·exact absurd (n2.mp te) h
   have l1':Lz one:=qmC t1 λz=>oe (n1.mp z)
   exact ⟨qk0 (wai g10) (wai g20) e1 e2 ⟨l1',MQ.refl _,MQ.zero _ (z0 te),QI.left _ _⟩,p1.resolve_left oe⟩
  ·rw [if_neg te]
   have oe:one=[]:=n1.mpr (em.resolve_right λz=>te (n2.mpr z))
   exact ⟨qk0 (wai g10) (wai g20) e1 e2 ⟨qmC t2 te,MQ.zero _ (z0 oe),MQ.refl _,QI.right _ _⟩,p2.resolve_left λz=>te (n2.mpr z)⟩
 have l0:=λem=>last em H2 none none (Same.refl H2)
 simp only [qaF,qaK,qay,qad,qaf,qar,qaj,qmT,L2.start,qeo,tIf,qaP,tB,tOp,rI0,rI,tC,tUn,rU,qbF,qbG,qmg,qeT,qsu,qku,qir,tCB,qlp,qmP,tOr,qsg,qsr,quq,qss,rEq,rNe,qdP,qc6,qdL,qcf,qjD,qsB,qiF,qrg,qur,iLt,iLe,iGt,iGe,qeQ,gT,gL,gS,qpx,qqt,qus,qpy,qsC,qbs,qsD,qut,qnp,qf2,qqu,eqT,qnq,qnr,qqv,qqw,List.map_cons,List.map_nil,wbi,List.length_nil,List.replicate,List.cons_append,List.nil_append,List.append_nil,List.getElem?_cons_zero,List.getElem?_cons_succ,Option.some.injEq,exists_eq_left',exists_eq_left,V.int.injEq,V.bl.injEq,V.ref.injEq,V.ty.injEq,HO.tup.injEq,HO.lst.injEq,List.cons.injEq,and_true,true_and,and_assoc,exists_and_left,List.set_cons_zero,List.set_cons_succ,decide_eq_true_eq,decide_eq_false_iff_not,Bool.not_eq_true',Bool.true_eq_false,Bool.false_eq_true,Bool.not_true,Bool.not_false,if_true,if_false,ite_true,ite_false,qns,qnt,qlu,qlv,qh5,qh6,qh7,qh8,qh9,Nat.zero_add,Nat.reduceAdd,Nat.reduceSub,qag,Int.cast_ofNat_Int,decide_true,decide_false,eq_self,not_true_eq_false,not_false_eq_true,Int.natCast_add,Int.natCast_zero,reduceCtorEq,Nm,qiJ,qeF,qpn,qis,tSl,qcv,qgO,sL,sT,qpB,qqy,qf4,qiI,qsG,qrd,qsj,qeG,qiz,qtD,tBM,qsi,qlx,qly,qnw,qnx,qlz,qnH,qlC,qny,qnD,qnE,qpE,qrj,qpF,qsk,qpD,qjH,qhJ,qtF,qri,qcO,Option.bind_some,Option.bind_none,Option.bind,Option.join,id_eq,sS,qkH,qsJ,qaG,qda,qcq,qaZ,qbx,qbt,qbX,qbm,qaM,qaL,qaU,qa0,qbd,qa6,qaQ,qbe,qbn,qa4,qcr,qaS,qby,qds,qor,qbY,qf5,qjR,qqR,qie,qbL,qbz,qdb,qaW,qa9,qbh,qcs,qbK,qf6] at l0
 have lne:ns≠[]->ms≠[]->Lz one/\Lz two:=λh1 h2=>⟨qmC t1 λz=>h1 (n1.mp z),qmC t2 λz=>h2 (n2.mp z)⟩
 refine ⟨_,ha2,qbr (λc1=>⟨_,hb2,qbr (λc2=>⟨⟨_,hK H2⟩,?_⟩) (λc2=>l0 (.inr (by simpa using c2)))⟩) (λc1=>l0 (.inl (by simpa using c1)))⟩
 obtain ⟨z1,z2⟩:=lne (by simpa using c1) (by simpa using c2)
 refine qmZ (xs:=exps.map λe:Nat=>V.int (e:Int)) (λi σ H'=>i<8/\∃ u v,σ=[some (.ref a),some (.ref b),some (.ref a1),some (.ref a2),u,v]/\Same H2 H') ⟨∅,none,none,rfl,Same.refl H2⟩ (λi σ H' _ _=>hK H') ?_ ?_
 ·rintro i x σ H' hi ⟨i8,u,v,rfl,s3⟩
  rw [waf] at hi
  cases e:exps[i]? with
  | none=>rw [e] at hi;cases hi
  | some ex=>
    rw [e] at hi
    obtain rfl:V.int (ex:Int)=x:=Option.some.inj hi
    obtain ⟨pe,pl⟩:=qrP ex (wau e)
    have h13:=s3 _ _ h12
    have h23:=s3 _ _ h2
    rwa [h13,h23]
    refine ⟨⋯,2,by unfold Bd;decide,⋯,one,two,mers ex,qp7 ex,rfl,rfl,pe,qrQ pl,z1,z2,d,b1,b2,⋯,⋯,nn,⋯,⋯,cc,nc,n2',λnb H4 s4=>⟨?_,s3.trans s4⟩,λt rs H4 s4 ht rc pr=>?_⟩
    ·rcases wap (i+1) 8 with c8 | c8
     ·exact c8
     ·exfalso
      have i7:i=7:=by omega
      rw [i7] at e
      obtain rfl:44497=ex:=Option.some.inj e
      refine nb ?_
      show 2 ^ ((d+nn*(2*cc+4)+cc+2)*(2*(nn - 1)))<mers 44497
      have h1:2 ^ ((d+nn*(2*cc+4)+cc+2)*(2*(nn - 1)))<=2 ^ 44490:=wbm ∅ sm
      have h2:2 ^ 44490<mers 44497:=by
       unfold mers
       have e7:2 ^ 44497=2 ^ 44490*2 ^ 7:=by rw [<-wbn]
       rw [e7]
       have:1<=2 ^ 44490:=Nat.one_le_two_pow
       omega
      omega
    exact k t rs H4 (s02.trans (s3.trans s4)) ht (λ_=>⟨qk0 (wai g10) (wai g20) e1 e2 rc,pr⟩) λh1 _=>absurd h1 (by simpa using c1)
 ·rintro σ H' ⟨i8,_⟩
  exact absurd i8 (by simp [exps])
theorem qgG (l:List Nu):(qem l).length=l.length:=by unfold qem;rw [waa]
theorem qrR {l:List Nu} (hl:qbI l) (nl:Nz l):Tz (qem l):=by
 by_cases h:l=[]
 ·left;rw [h];rfl
 ·right
  rw [qgG]
  exact qrH hl nl (wb1.mpr h)
theorem qud {l:List Nu} {M N:Int} (hl:qbI l) (hM:Ov l M) (hN:Ov l N) (h:M∣N) {b:Nat} (hb:∀ z∈ovN l N,Bd b z):∀ z∈ovN l M,Bd b z:=λz hz=>by
 obtain ⟨q,hq,rfl⟩:=wax.mp hz
 refine (hb (q.1*(N / q.2)) (wax.mpr ⟨q,hq,rfl⟩)).le ?_
 rw [way,way]
 refine wa6 _ ?_
 have p0:=(hl q hq).pos
 obtain ⟨x,hx⟩:=hM.2 q hq
 obtain ⟨y,hy⟩:=h
 have e1:M / q.2=x:=by rw [hx,wcx _ (wai p0)]
 have e2:N / q.2=x*y:=by rw [hy,hx,Int.mul_assoc,wcx _ (wai p0)]
 rw [e1,e2,way]
 refine Nat.le_mul_of_pos_right _ ?_
 rcases wbt y.natAbs with z | z
 ·have y0:y=0:=by omega
  have:=hN.1
  rw [hy,y0] at this;omega
 ·exact z
theorem Gq.clr {b c:Nat} {l:List Nu} (G:Gq b c l):(∀ z∈qem l,Bd b z)/\Bd c (qe1 l)/\(∀ q∈l,Bd b q.1):=by
 obtain ⟨M,hO,bM,hz⟩:=G.ov
 have hd:=qlG G.low hO
 exact ⟨qud G.low (qdT G.low) hO hd hz,qlF (wai hO.1) hd bM,qta G.low hO hz⟩
theorem qoJ {q:Nu} {n M:Int} (hq:q.2≠0) (hM:M≠0) (h:val q=(n:Rat) / (M:Rat)):Wo q n M:=by
 unfold Wo
 unfold val at h
 have a:=qaV hq
 have b:=qaV hM
 have e:(q.1:Rat)*(M:Rat)=(n:Rat)*(q.2:Rat):=by grind
 exact_mod_cast e
theorem qrS {q:Nu} {n M:Int} (hl:Low q.1 q.2) (h:Wo q n M):q.2∣M/\q.1*(M / q.2)=n:=by
 unfold Wo at h
 have d:q.2∣M:=qfJ hl ⟨n,by rw [h,wca]⟩
 refine ⟨d,?_⟩
 have p0:=hl.pos
 have e:q.2*(q.1*(M / q.2))=q.2*n:=by
  have:=Int.mul_ediv_cancel' d
  calc q.2*(q.1*(M / q.2))=q.1*(q.2*(M / q.2)):=by grind
   _=q.1*M:=by rw [this]
   _=q.2*n:=by rw [h,wca]
 exact Int.eq_of_mul_eq_mul_left (wai p0) e
theorem qtc {lead:Int} (h0:lead≠0) {B:Nat} {ns:List Int} (hb:∀ z∈ns,Bd B z):Ov (ns.map λn=>qbv n lead) (lead.natAbs:Int)/\∀ z∈ovN (ns.map λn=>qbv n lead) (lead.natAbs:Int),Bd B z:=by
 have A0:(0:Int)<(lead.natAbs:Int):=by omega
 have key:∀ n∈ns,(qbv n lead).2∣(lead.natAbs:Int)/\Bd B ((qbv n lead).1*((lead.natAbs:Int) / (qbv n lead).2)):=λn hn=>by
  have lq:=qcj (n:=n) h0
  have l1:=qaV h0
  have:∃ s:Int,val (qbv n lead)=(s:Rat) / (((lead.natAbs:Int):Int):Rat)/\Bd B s:=by
   rw [qeh h0]
   rcases Int.natAbs_eq lead with e | e
   ·exact ⟨n,by rw [<-e],hb n hn⟩
   ·refine ⟨-n,?_,(hb n hn).neg⟩
    have e':(lead.natAbs:Int) = -lead:=by omega
    rw [e'];push_cast;grind
  obtain ⟨s,hs,bs⟩:=this
  obtain ⟨d1,d2⟩:=qrS lq (qoJ (wai lq.pos) (wai A0) hs)
  exact ⟨d1,by rw [d2];exact bs⟩
 refine ⟨⟨A0,λq hq=>?_⟩,λz hz=>?_⟩
 ·obtain ⟨n,hn,rfl⟩:=wax.mp hq
  exact (key n hn).1
 ·obtain ⟨q,hq,rfl⟩:=wax.mp hz
  obtain ⟨n,hn,rfl⟩:=wax.mp hq
  exact (key n hn).2
theorem quW (ns:List Int) (f:Int):List.map V.int (ns.map (f*·))=qbB ns.length λk=>f*ns.getD k 0:=by
 unfold qbB
 congr 1
 apply wcg
 intro i
 rw [waf,waf]
 by_cases h:i<ns.length
 ·rw [wb2 h,wag h]
  show _=some (f*ns.getD i 0)
  rw [wab,wag h]
  rfl
 ·rw [wat ⋯,wat (by rw [waw];omega)]
  rfl
theorem qoK (m:Nat) (f:Nat->Int):qbB (m+1) f=qbB m f++[V.int (f m)]:=by
 unfold qbB
 rw [List.range_succ,wb6,wb6]
 rfl
theorem qj1 (ns:List Int):ns.map V.int=qbB ns.length λk=>ns.getD k 0:=by
 have h:=quW ns 1
 have e:ns.map (1*·)=ns:=by
  have e2:(λx:Int=>1*x)=id:=funext λx=>Int.one_mul x
  rw [e2,List.map_id]
 rw [e] at h
 rw [h]
 exact qbf λi _=>by rw [Int.one_mul]
theorem qgH (ns:List Int) (lo hi:Option Int):∃ ms:List Int,qiw (ns.map V.int) lo hi=ms.map V.int/\ms.length<=ns.length:=by
 unfold qiw
 rw [<-List.map_drop,<-List.map_take]
 exact ⟨_,rfl,by rw [wa5,List.length_drop];omega⟩
theorem qoL (h:qdb K vs H Q E):qlT K { nx:=λ_ H'=>Q .non H',rt:=Q } (L2.start ["_law_script","_law_first"] vs) H:=by
 obtain ⟨s,ns,rfl,hs,n63,k⟩:=h
 unfold qlT
 rwa []
 obtain ⟨c1,e1,_⟩:=qgH ns none (some 1)
 obtain ⟨c2,e2,l2⟩:=qgH ns none (some 63)
 refine ⟨_,hs,λp hp=>⟨c1,e1,_,Same.seq (qah hp _) hs,λp1 h1 l hl=>⟨⟨∅,(qt9 ∅ ∅).mono ∅⟩,∅,sz ∅,λr hr=>?_⟩⟩⟩
 have t1:=qah hp (.lst (qiw (ns.map V.int) none (some 1)))
 have t2:=qah h1 (.lst (qiw (ns.map V.int) none (some 63)))
 have t3:=qah hl (.lst (qiw (ns.map V.int) none (some 63)))
 have t4:=(t1.trans t2).trans t3
 have r0:H r=none:=by
  cases e:H r with
  | none=>rfl
  | some o=>have z:=t4 _ _ e;rw [hr] at z;cases z
 refine k r l _ r0 (Kp.of_same (t4.trans (qah hr _))) ⟨c2,0,_,_,qag,?_,⋯,?_,∅,∅,?_⟩
 ·rw [<-e2];exact (qah hr _) _ _ qag
 ·exact qan qag hr
 ·refine Int.ediv_nonneg ?_ ∅
  split <;> omega
theorem qoM (h:qaW K vs H Q E):qlU K { nx:=λ_ H'=>Q .non H',rt:=Q } (L2.start ["_law_hand_here","_law_many","_law_found","_law_cell","_law_once","_law_twice"] vs) H:=by
 obtain ⟨p,a,m,n,rfl,⟨ns,x,y,z,hp,ha,ln,ap,x0,xn,y0⟩,n9,m0,m9,k⟩:=h
 have A0:∀ x y:Int,atI [V.ref a,V.int x,V.int y,V.int z] 0=some (V.ref a):=λ_ _=>rfl
 have A1:∀ x y:Int,atI [V.ref a,V.int x,V.int y,V.int z] 1=some (V.int x):=λ_ _=>rfl
 have A2:∀ x y:Int,atI [V.ref a,V.int x,V.int y,V.int z] 2=some (V.int y):=λ_ _=>rfl
 have A3:∀ x y:Int,atI [V.ref a,V.int x,V.int y,V.int z] 3=some (V.int z):=λ_ _=>rfl
 have I1:ixN 4 1=some 1:=rfl
 have I2:ixN 4 2=some 2:=rfl
 have kpa:∀ {H1:Hp} {o:HO},H1 a=some (.lst (ns.map V.int))->(upd H1 p o) a=some (.lst (ns.map V.int)):=λh=>by rw [qaA ap];exact h
 have go:∀ (x y:Int) (H1:Hp),H1 p=some (.lst [V.ref a,V.int x,V.int y,V.int z])->H1 a=some (.lst (ns.map V.int))->0<=x->x<=n+1->0<=y->Kp p H H1->qfQ K { nx:=λx H'=>Q V.non H',rt:=Q } [some (V.ref p),some (V.int m),none,none,none,none] H1:=λx y H1 hp ha x0 xn y0 k1=>by
  have go2:qfP K { nx:=λx H'=>Q V.non H',rt:=Q } [some (V.ref p),some (V.int m),none,none,none,none] H1:=by
   unfold qfP
   rwa [hp,A1,I1]
   have k2:Kp p H (upd H1 p (.lst [.ref a,.int (x+1),.int y,.int z])):=k1.trans Kp.upd
   have hp2:upd H1 p (.lst [.ref a,.int (x+1),.int y,.int z]) p=_:=qag
   have ha2:upd H1 p (.lst [.ref a,.int (x+1),.int y,.int z]) a=_:=kpa ha
   generalize upd H1 p (.lst [.ref a,.int (x+1),.int y,.int z])=H2 at k2 hp2 ha2 ⊢
   unfold qik
   rwa [hp2,ha2,A0,A1]
   obtain ⟨c1,e1,_⟩:=qgH ns (some ((x+1) % if ((ns.map V.int).length:Int) > 1 then ((ns.map V.int).length:Int) else 1)) none
   obtain ⟨c2,e2,_⟩:=qgH c1 none (some 1)
   rw [e1,e2]
   refine ⟨by split <;> omega,λq1 h1 q2 h2=>⟨c2,rfl,?_⟩⟩
   have s3:=(qah h1 (.lst (c1.map V.int))).trans (qah h2 (.lst (c2.map V.int)))
   have hp3:=s3 _ _ hp2
   have ha3:=s3 _ _ ha2
   have k3:=k2.same s3
   generalize upd (upd H2 q1 (.lst (c1.map V.int))) q2 (.lst (c2.map V.int))=H3 at hp3 ha3 k3 ⊢
   generalize c2.sum=cell
   unfold qij
   rwa [hp3,A1]
   have L:∀ {x y:Int},0<=x->x<4611686018427387904->IntMulOk x y:=λh1 h2=>qs9 ⋯ ⋯
   have R:∀ {x y:Int},0<=y->y<4611686018427387904->IntMulOk x y:=λh1 h2=>qua ⋯ ⋯
   refine ⟨∅,L ∅ ∅,L ∅ ∅,R ⋯ ⋯,∅,?_⟩
   generalize (cell % 2147483629+7919*(x+1)+11)*(48271+2*(x+1)) % 2147483647=once
   unfold qii
   rwa [hp3,A1]
   have z:=wba once (show (39373:Int)≠0 by decide)
   have z2:=wbg once (show (0:Int)<39373 by decide)
   refine ⟨∅,R ⋯ ⋯,L ∅ ∅,∅,?_⟩
   unfold qih
   rwa []
   exact ⟨⟨∅,(qt9 ∅ ∅).mono ∅⟩,m0,k _ _ (wba _ ⋯) (wbg _ m0) ⟨ns,x+1,y,_,hp3,ha3,ln,ap,⋯,⋯,y0⟩ k3⟩
  unfold qfQ
  rwa [hp,A2,A3]
  refine qbr (λ_=>?_) (λ_=>go2)
  refine qbr (λ_=>?_) (λ_=>go2)
  unfold qfo
  rwa [hp,A2]
  refine ⟨m0,?_⟩
  unfold qfn qfm
  rwa [hp,A2,I2]
  exact ⟨⟨m0,(qt9 ⋯ ⋯).mono ∅⟩,k _ _ (wba _ ⋯) (wbg _ m0) ⟨ns,x,y / m,z,qag,kpa ha,ln,ap,x0,⋯,Int.ediv_nonneg y0 ⋯⟩ (k1.trans Kp.upd)⟩
 unfold qlU
 rwa [hp,ha,A0,A1,A2,A3]
 have go0:=go x y H hp ha x0 ⋯ y0 (Kp.of_same (Same.refl H))
 refine qbr (λ_=>?_) (λ_=>go0)
 refine qbr (λ_=>?_) (λ_=>go0)
 refine qbr (λxl=>?_) (λ_=>go0)
 unfold qfl
 rwa [hp,A1,I1]
 have hp2:upd H p (.lst [.ref a,.int (x+1),.int y,.int z]) p=_:=qag
 have ha2:upd H p (.lst [.ref a,.int (x+1),.int y,.int z]) a=_:=kpa ha
 have k2:Kp p H (upd H p (.lst [.ref a,.int (x+1),.int y,.int z])):=Kp.upd
 generalize upd H p (.lst [.ref a,.int (x+1),.int y,.int z])=H2 at k2 hp2 ha2 ⊢
 unfold qfk
 rwa [hp2,ha2,A0,A1,I2]
 rw [waa] at xl
 obtain ⟨v,hv⟩:=qpX (ns:=ns) (k:=x+1) ⋯ ⋯
 exact ⟨_,hv,v,rfl,go (x+1) _ _ qag (kpa ha2) ⋯ ⋯ (by split <;> omega) (k2.trans Kp.upd)⟩
theorem qk1 (h:qbZ K vs H Q E):qil K { nx:=λ_ H'=>Q .non H',rt:=Q } (L2.start ["_law_top","_law_bottom","_law_one","_law_other"] vs) H:=by
 obtain ⟨a,b,rfl,hb,q⟩:=h
 unfold qil
 rwa []
 have go:∀ s:Int,(s=if b<0 then -((Int.gcd a b:Nat):Int) else ((Int.gcd a b:Nat):Int))->qri a s/\qri b s/\2<=sizeLine/\∀ (p:Addr),H p=none->Q (V.ref p) (upd H p (.tup [.int (a.fdiv s),.int (b.fdiv s)])):=λs hs=>by
  obtain ⟨h1,h2,h3,h4,h5,h6⟩:=qee hb hs
  have e:qbv a b=(a.fdiv s,b.fdiv s):=by
   refine qiM (qcj hb) h3 ?_
   rw [qeh hb,qe2 (q:=(a.fdiv s,b.fdiv s)) (wai h3.pos) hb h4]
  rw [e] at q
  exact ⟨h1,h1,sz ∅,q⟩
 refine qb3 (λm σ H'=>∃ x y:Int,σ=[some (.int a),some (.int b),some (.int x),some (.int y)]/\H'=H/\0<=x/\0<=y/\Int.gcd x y=Int.gcd a b/\m=y.natAbs) b.natAbs ⟨_,_,rfl,rfl,by split <;> omega,by split <;> omega,?_,by split <;> omega⟩ ?_
 ·split <;> split <;> simp [Int.neg_gcd,Int.gcd_neg]
 rintro m σ H' ⟨x,y,rfl,rfl,x0,y0,hg,rfl⟩
 rwa []
 refine qbr (λc=>?_) (λc=>?_)
 ·refine ⟨λσ' H''=>∃ m',m'<y.natAbs/\_,λ_ _ h=>h,?_⟩
  have z1:=wba x (show y≠0 by omega)
  have z2:=wbg x c
  refine ⟨c,(x % y).natAbs,⋯,y,x % y,rfl,rfl,y0,z1,?_,rfl⟩
  rw [qiE x y0];exact hg
 ·have e:y=0:=by omega
  subst e
  have ex:x=((Int.gcd a b:Nat):Int):=by rw [<-hg,Int.gcd_zero_right];omega
  refine qbr (λc2=>?_) (λc2=>?_)
  ·exact go _ (by rw [if_pos c2,ex])
  ·exact go _ (by rw [if_neg c2,ex])
theorem qj2 (h:qbh K vs H Q E):qhd K { nx:=λ_ H'=>Q .non H',rt:=Q } (L2.start ["_law_row","_law_scale_here"] vs) H:=by
 obtain ⟨p,q,ns,t,d,rfl,hp,hq,d0,bt,bn,l9,k⟩:=h
 unfold qhd
 rwa [hp,hq]
 refine ⟨⟨_,SqL.of hp⟩,CompJ.lst (xs:=ns.map V.int) (λi ys H'=>i<=ns.length/\Same H H'/\Nums H' ys ((ns.map λn=>qbv (n*t) d).take i)) ⟨wae _,Same.refl H,trivial⟩ ?_ ?_ ?_⟩
 ·rintro i ys H' ⟨h1,s1,hZ⟩
  refine ⟨by rw [waa];exact h1,sz ?_,SqL.of (s1 _ _ hp)⟩
  rw [hZ.length,wa5];omega
 ·rintro i x ys H' hi ⟨h1,s1,hZ⟩
  rw [waf] at hi
  cases e:ns[i]? with
  | none=>rw [e] at hi;cases hi
  | some z=>
    rw [e] at hi
    obtain rfl:=Option.some.inj hi
    have hq1:=s1 _ _ hq
    have hi2:i<ns.length:=(waq.mp e).1
    rwa [hq1]
    refine ⟨qks (bn z (wau e)) bt,d0,λr hr=>⟨⋯,s1.trans (qah hr _),?_⟩⟩
    have e2:(ns.map λn=>qbv (n*t) d)[i]?=some (qbv (z*t) d):=by rw [waf,e];rfl
    rw [wbz,e2]
    exact (hZ.tp (tpS (qah hr _))).append (Nums.one qn6)
 ·rintro ys H' ⟨_,s1,hZ⟩ a ha
  have e:(ns.map λn=>qbv (n*t) d).take (ns.map V.int).length=ns.map λn=>qbv (n*t) d:=by rw [waa,show ns.length=(ns.map λn=>qbv (n*t) d).length by rw [waa],wbv]
  rw [e] at hZ
  rwa []
  intro r hr
  have s2:=(qah ha (.lst ys)).trans (qah hr (.tup ys))
  exact k r ys _ (s1.trans s2) qag (hZ.tp (tpS s2))
theorem qtd {a b:List Int} (la:0<a.length) (lb:0<b.length):ps a b a.length (a.length+b.length - 1 - 1)=co a (a.length - 1)*co b (b.length - 1):=by
 obtain ⟨i,hi⟩:∃ i,a.length=i+1:=⟨a.length - 1,⋯⟩
 rw [hi]
 show ps a b i _+_=_
 rw [qkI i _ ⋯,if_pos ⟨⋯,⋯⟩,show i+1+b.length - 1 - 1 - i=b.length - 1 by omega]
 show 0+co a i*co b (b.length - 1)=_
 rw [Nat.add_sub_cancel];omega
theorem qhT (h:qa9 K vs H Q E):qfp K { nx:=λ_ H'=>Q .non H',rt:=Q } (L2.start ["_law_one","_law_other","_law_made","_law_k","_law_a","_law_j","_law_b"] vs) H:=by
 obtain ⟨p,q,ns,ms,n,m,rfl,hp,hq,la,lb,a20,b20,ba,bb,n9,m9,k⟩:=h
 have la1:=la
 have lb1:=lb
 unfold qfp
 rwa [hp,hq]
 refine ⟨sz ∅,λa ha=>?_⟩
 have sa:=qah ha (.lst [.int 0])
 have hpa:=sa _ _ hp
 have hqa:=sa _ _ hq
 rwa [hpa,hqa]
 rw [waa,waa]
 have eL:((ns.length:Int)+(ms.length:Int) - 1).toNat=ns.length+ms.length - 1:=by omega
 rw [eL,qi3]
 refine ⟨⋯,⋯,sz ⋯,λw hw=>?_⟩
 generalize hLL:ns.length+ms.length - 1=L at hw ⊢
 have sw:=qah hw (.lst (qbB L λ_=>0))
 have w0:H w=none:=by
  cases e:H w with
  | none=>rfl
  | some o=>have z:=sa _ _ e;rw [hw] at z;cases z
 refine ⟨⟨_,SqL.of (sw _ _ hpa)⟩,ForJ.enumL (xs:=ns.map V.int) (λi σ H'=>∃ x1 x2 x3 x4:Option V,σ=[some (.ref p),some (.ref q),some (.ref w),x1,x2,x3,x4]/\Same H H'/\H' w=some (.lst (qbB L λk=>ps ns ms i k)))
  ⟨none,none,none,none,rfl,sa.trans sw,qag⟩ ?_ ?_ ?_⟩
 ·rintro i σ H' _ ⟨_,_,_,_,_,s1,_⟩
  exact SqL.of (s1 _ _ hp)
 ·rintro i x pp σ H1 hi ⟨x1,x2,x3,x4,rfl,s1,hw1⟩ hpp
  rw [waf] at hi
  cases en:ns[i]? with
  | none=>rw [en] at hi;cases hi
  | some z=>
    rw [en] at hi
    obtain rfl:V.int z=x:=Option.some.inj hi
    have il:i<ns.length:=(waq.mp en).1
    have zd:ns.getD i 0=z:=by rw [wab,en];rfl
    have sp:=qah hpp (.tup [.int (i:Int),.int z])
    rwa []
    refine ⟨⟨_,SqL.of (sp _ _ (s1 _ _ hq))⟩,ForJ.enumL (xs:=ms.map V.int) (λj σ H'=>∃ x3 x4:Option V,σ=[some (.ref p),some (.ref q),some (.ref w),some (.int (i:Int)),some (.int z),x3,x4]/\Same H H'/\H' w=some (.lst (qbB L λk=>in2 ns ms i j k)))
      ⟨x3,x4,rfl,s1.trans sp,by rw [sp _ _ hw1];exact congrArg (λl=>some (HO.lst l)) (qbf λk _=>(qpJ ns ms i k))⟩ ?_ ?_ ?_⟩
    ·rintro j σ H' _ ⟨_,_,_,s2,_⟩
     exact SqL.of (s2 _ _ hq)
    ·rintro j y pq σ H2 hj ⟨y3,y4,rfl,s2,hw2⟩ hpq
     rw [waf] at hj
     cases em:ms[j]? with
     | none=>rw [em] at hj;cases hj
     | some u=>
       rw [em] at hj
       obtain rfl:V.int u=y:=Option.some.inj hj
       have jl:j<ms.length:=(waq.mp em).1
       have ud:ms.getD j 0=u:=by rw [wab,em];rfl
       have sq:=qah hpq (.tup [.int (j:Int),.int u])
       have hw3:=sq _ _ hw2
       rwa [hw3]
       have kl:i+j<L:=by omega
       refine ⟨_,qb7 ⋯ (qaT _ kl),qks (ba z (wau en)) (bb u (wau em)),_,rfl,i+j,?_,λb o h=>Kp.upd b o (qan h w0) (sq b o (s2 b o h)),?_⟩
       ·rw [qa7];exact qex ⋯ kl
       ·refine qcn kl ?_ λk _ hk=>?_
        ·rw [qlE,if_pos rfl,zd,ud]
        ·rw [qlE,if_neg hk]
    ·rintro σ H2 ⟨y3,y4,rfl,s2,hw2⟩
     rw [waa] at hw2
     exact ⟨_,_,_,_,rfl,s2,hw2⟩
 ·rintro σ H1 ⟨x1,x2,x3,x4,rfl,s1,hw1⟩
  rwa []
  rw [waa] at hw1
  have ck:∀ k,co ((List.range L).map λk=>ps ns ms ns.length k) k=ps ns ms ns.length k:=λk=>by
   unfold co
   rw [wab,waf]
   by_cases hk:k<L
   ·rw [wb2 hk];rfl
   ·rw [wat (by rw [waw];omega),qkI _ _ ⋯];rfl
  have cl:((List.range L).map λk=>ps ns ms ns.length k).length=L:=by rw [waa,waw]
  refine k w _ H1 s1 w0 hw1 (by rw [cl];omega) (λla lb=>⟨by rw [cl];omega,?_⟩) ck
  rw [ck,cl,<-hLL,qtd la1 lb1]
  exact wa7 la.2 lb.2
theorem Hand.same {H H':Hp} {p a:Addr} {n:Int} (h:Hand H p a n) (s:Same H H'):Hand H' p a n:=by
 obtain ⟨ns,x,y,z,h1,h2,r⟩:=h
 exact ⟨ns,x,y,z,s _ _ h1,s _ _ h2,r⟩
theorem Hand.mono {H:Hp} {p a:Addr} {n n':Int} (h:Hand H p a n) (e:n<=n'):Hand H p a n':=by
 obtain ⟨ns,x,y,z,h1,h2,h3,h4,h5,h6,h7⟩:=h
 exact ⟨ns,x,y,z,h1,h2,h3,h4,h5,⋯,h7⟩
theorem Hand.ne {H:Hp} {p a q:Addr} {n:Int} (h:Hand H p a n) (e:H q=none):q≠p:=by
 obtain ⟨ns,x,y,z,h1,_⟩:=h
 exact λw=>by rw [w,h1] at e;cases e
theorem Hand.ne2 {H:Hp} {p a q:Addr} {n:Int} (h:Hand H p a n) (e:H q=none):q≠a:=by
 obtain ⟨ns,x,y,z,_,h1,_⟩:=h
 exact λw=>by rw [w,h1] at e;cases e
theorem Hand.upd {H:Hp} {p a q:Addr} {n:Int} {o:HO} (h:Hand H p a n) (e:q≠p) (e2:q≠a):Hand (upd H q o) p a n:=by
 obtain ⟨ns,x,y,z,h1,h2,r⟩:=h
 exact ⟨ns,x,y,z,by rw [qaA e.symm];exact h1,by rw [qaA e2.symm];exact h2,r⟩
theorem qte {d:Int} (h0:0<=d) (h2:d<2):∃ s:Int,atI [V.int 1,V.int (-1)] d=some (V.int s)/\s≠0/\-1<=s/\s<=1:=by
 rcases (show d=0\/d=1 by omega) with e | e <;> subst e
 ·exact ⟨1,rfl,∅,∅,∅⟩
 ·exact ⟨-1,rfl,∅,∅,∅⟩
theorem bdN {n:Nat} {x:Int} (h:x.natAbs<2 ^ n):Bd n x:=h
theorem qoN {n m:Int} (hm:m≠0) (hn:n≠0):(qbv n m).1≠0:=λz=>by
 have v:=qeh (n:=n) hm
 unfold val at v
 rw [z,show ((0:Int):Rat)=0 from rfl,zdiv] at v
 have a:=qaV hm
 have b:=qaV hn
 grind
theorem qoO {s d:Int} (s0:s≠0) (h1:-1<=s) (h2:s<=1):(s*d).natAbs=d.natAbs:=by
 rw [way]
 have:s.natAbs=1:=by omega
 rw [this,Nat.one_mul]
theorem qmD (h:qcs K vs H Q E):qjV K { nx:=λ_ H'=>Q .non H',rt:=Q } (L2.start ["_law_hand_here"] vs) H:=by
 obtain ⟨p,ad,n,rfl,hH,n9,k⟩:=h
 unfold qjV
 rwa []
 refine ⟨sz ∅,λq hq=>⟨ad,n,hH.same (qah hq _),⋯,∅,∅,λd H1 d0 d2 h1 k1=>?_⟩⟩
 obtain ⟨s,hs,s0,s1,s2⟩:=qte d0 d2
 have k01:Kp p H H1:=(Kp.of_same (qah hq _)).trans k1
 refine ⟨_,k1 _ _ (hH.ne hq) qag,_,hs,ad,n+2,h1,⋯,∅,∅,λe H2 e0 e9 h2 k2=>⟨s,rfl,qua ⋯ ⋯,ad,n+2+2,h2,⋯,∅,∅,λf H3 f0 f9 h3 k3=>⟨⋯,λr hr=>?_⟩⟩⟩
 have sr:=qah hr (.tup [.int (qbv (s*(1+e)) (1+f)).1,.int (qbv (s*(1+e)) (1+f)).2])
 have f1:1+f≠0:=by omega
 have sm:=qoO (d:=1+e) s0 s1 s2
 obtain ⟨b1,b2⟩:=qiN (c:=4) (d:=4) (n:=s*(1+e)) f1 (bdN (by rw [sm];show _<16;omega)) (bdN (by show _<16;omega))
 exact k r _ _ _ qag (qcj f1) (qoN f1 (wa7 s0 ⋯)) b1 b2 ((h3.same sr).mono ⋯) (((k01.trans k2).trans k3).same sr)
theorem que {d v S0:Int} (hS:1<=S0) (h0:0<=d) (h2:d<4) (v1:-S0<=v) (v2:v<=S0):∃ s:Int,atI [V.int 0,V.int 1,V.int (-1),V.int v] d=some (V.int s)/\-S0<=s/\s<=S0:=by
 rcases (show d=0\/d=1\/d=2\/d=3 by omega) with e | e | e | e <;> subst e
 ·exact ⟨0,rfl,⋯,⋯⟩
 ·exact ⟨1,rfl,⋯,⋯⟩
 ·exact ⟨-1,rfl,⋯,⋯⟩
 ·exact ⟨v,rfl,v1,v2⟩
theorem qj3 (h:qbK K vs H Q E):qhe K { nx:=λ_ H'=>Q .non H',rt:=Q } (L2.start ["_law_hand_here","_law_most","_law_size","_law_row","_law_k"] vs) H:=by
 obtain ⟨p,ad,m,S0,n,rfl,hH,n9,m0,m7,hS,k⟩:=h
 have hS1:1<=S0:=by omega
 unfold qhe
 rwa []
 refine ⟨sz ∅,λw hw=>⟨ad,n,hH.same (qah hw _),⋯,⋯,⋯,λd H1 d0 dm h1 k1=>⟨⋯,⋯,?_⟩⟩⟩
 have wp:w≠p:=hH.ne hw
 have wa:w≠ad:=hH.ne2 hw
 have k01:Kp p H H1:=(Kp.of_same (qah hw _)).trans k1
 have hw1:H1 w=some (.lst []):=k1 _ _ wp qag
 refine ForR.by (λi σ H'=>i<=d.toNat/\∃ (ns:List Int) (x:Option V),σ=[some (.ref p),some (.int m),some (.int S0),some (.ref w),x]/\H' w=some (.lst (ns.map V.int))/\ns.length=i/\(∀ z∈ns,-S0<=z/\z<=S0)/\Hand H' p ad (n+2+4*i)/\Kp p H H') ⟨wae _,[],none,rfl,hw1,rfl,λz hz=>absurd hz (by simp),by simpa using h1,k01⟩ ?_ ?_
 ·rintro i σ H' hi ⟨_,ns,x,rfl,hw2,ln,bn,h2,k2⟩
  rwa [hw2]
  refine ⟨qdS hw2,qs9 ∅ ∅,ad,_,h2,⋯,⋯,⋯,λe H3 e0 e9 h3 k3=>⟨sz ∅,λc hc=>?_⟩⟩
  have hw3:=k3 _ _ wp hw2
  have sc:=qah hc (.lst [.int 0,.int 1,.int (-1),.int (e - S0)])
  refine ⟨ad,_,h3.same sc,⋯,∅,∅,λf H4 f0 f4 h4 k4=>?_⟩
  obtain ⟨s,hs,s1,s2⟩:=que hS1 (v:=e - S0) f0 f4 ⋯ ⋯
  have hw4:=k4 _ _ wp (sc _ _ hw3)
  refine ⟨_,k4 _ _ (h3.ne hc) qag,_,hs,_,hw4,sz (by rw [waa];omega),⋯,ns++[s],by simp,by simp;omega,λz hz=>?_,(h4.mono ⋯).upd wp wa,λb o hb ho=>?_⟩
  ·rcases wbk.mp hz with h | h
   ·exact bn z h
   ·rw [war.mp h];exact ⟨s1,s2⟩
  ·rw [qaA (qan ho hw)]
   exact k4 _ _ hb (sc _ _ (k3 _ _ hb (k2 _ _ hb ho)))
 ·rintro σ H' ⟨_,ns,x,rfl,hw2,ln,bn,h2,k2⟩
  rwa [hw2]
  refine ⟨sz ∅,λc hc=>⟨ad,_,h2.same (qah hc _),⋯,∅,∅,λe H3 e0 e2 h3 k3=>?_⟩⟩
  obtain ⟨s,hs,s0,s1,s2⟩:=qte e0 e2
  have hw3:=k3 _ _ wp (qah hc _ _ _ hw2)
  refine ⟨_,k3 _ _ (h2.ne hc) qag,_,hs,ad,_,h3,⋯,⋯,⋯,λf H4 f0 f9 h4 k4=>⟨s,rfl,qua ⋯ ⋯,sz ∅,λg hg=>?_⟩⟩
  have hw4:=k4 _ _ wp hw3
  have sg:=qah hg (.lst [.int (s*(1+f))])
  refine ⟨_,sg _ _ hw4,sz (by rw [waa];omega),λr hr=>?_⟩
  have sr:=qah hr (.lst (ns.map V.int++[V.int (s*(1+f))]))
  have sgr:=sg.trans sr
  have em:ns.map V.int++[V.int (s*(1+f))]=(ns++[s*(1+f)]).map V.int:=by simp
  have sm:=qoO (d:=1+f) s0 s1 s2
  refine k r (ns++[s*(1+f)]) _ (by rw [<-em];exact qag) (by rw [wa9];simp;omega) ⟨by simp,?_⟩ (λz hz=>?_) ?_ ?_ ((h4.same sgr).mono ⋯) (λb o hb ho=>sgr _ _ (k4 _ _ hb (k3 _ _ hb (qah hc _ _ _ (k2 _ _ hb ho)))))
  ·unfold co
   rw [wa9,List.length_singleton,Nat.add_sub_cancel,wab,wck (wad _)]
   simp
   exact ⟨s0,⋯⟩
  ·rcases wbk.mp hz with h | h
   ·exact bn z h
   ·rw [war.mp h];omega
  ·exact (h4.same sg).ne hr
  ·exact (h4.same sg).ne2 hr
theorem qey (p:Nat->Int):∀ (w:List Int) (k:Nat),((cvL w p k:Int):Rat)=cvL (w.map λz:Int=>(z:Rat)) (λk=>(p k:Rat)) k
 | [],_=>rfl
 | x::w,0=>by rw [qaq];show _=(x:Rat)*(p 0:Rat)+0;push_cast;rfl
 | x::w,k+1=>by rw [qam];show _=(x:Rat)*(p (k+1):Rat)+cvL (w.map λz:Int=>(z:Rat)) (λk=>(p k:Rat)) k;rw [<-qey p w k];push_cast;rfl
theorem qj4 (ns:List Int):si ns=Sr.L (ns.map λz:Int=>(z:Rat)):=Sr.ext' λk=>by
 show ((co ns k:Int):Rat)=cvL _ qbp k
 rw [qbV]
 unfold co
 rw [wab,wab,waf]
 cases ns[k]? <;> rfl
theorem qfu (ns:List Int):Sr.Pol (si ns):=⟨_,qj4 ns⟩
theorem qj5 {ns qs ms:List Int} (h:∀ k,co ns k=cvL qs (co ms) k):si ns=si qs*si ms:=by
 rw [qj4 qs,Sr.L_mul]
 refine Sr.ext' λk=>?_
 show ((co ns k:Int):Rat)=cvL _ (λk=>((co ms k:Int):Rat)) k
 rw [h k,qey]
theorem qrT {ns:List Int} (h:Lz ns):si ns≠0:=λz=>h.2 (by
 have:=congrFun (congrArg Sr.c z) (ns.length - 1)
 rw [Sr.zero_c] at this
 have this:((co ns (ns.length - 1):Int):Rat)=0:=this
 exact_mod_cast this)
theorem qtf (ns:List Int):Sr.Bn (si ns) ns.length:=λk hk=>by
 show ((co ns k:Int):Rat)=0
 rw [qau hk];rfl
theorem qoP (ns:List Int) (k:Nat):co (dI ns) k=((k+1:Nat):Int)*co ns (k+1):=by
 by_cases h:k<ns.length - 1
 ·unfold dI
  show ((List.range (ns.length - 1)).map _).getD k 0=_
  rw [wab,waf,wb2 h]
  rfl
 ·rw [qau (by unfold dI;rw [waa,waw];omega),qau (k:=k+1) ⋯,Int.mul_zero]
theorem qj6 (ns:List Int):(dI ns).length=ns.length - 1:=by unfold dI;rw [waa,waw]
theorem quz (ns:List Int):si (dI ns)=Sr.D (si ns):=Sr.ext' λk=>by
 show ((co (dI ns) k:Int):Rat)=((k:Rat)+1)*((co ns (k+1):Int):Rat)
 rw [qoP];push_cast;rfl
theorem qjc {g:Int} (ms:List Int):si (ms.map (g*·))=Sr.num (g:Rat)*si ms:=Sr.ext' λk=>by
 rw [Sr.num_mul]
 show ((co (ms.map (g*·)) k:Int):Rat)=(g:Rat)*((co ms k:Int):Rat)
 have e:co (ms.map (g*·)) k=g*co ms k:=by
  unfold co
  rw [wab,wab,waf]
  cases ms[k]? with
  | none=>simp
  | some z=>rfl
 rw [e];push_cast;rfl
theorem RadOf.smul {F L:Sr} {x:Rat} (h:RadOf F L):RadOf (Sr.num x*F) L:=by
 obtain ⟨S,M,pS,pL,pM,e1,e2,c⟩:=h
 refine ⟨Sr.num x*S,M,(Sr.Pol.num x).mul pS,pL,pM,by rw [e1];grind,by rw [Sr.D_num,e2];grind,c⟩
theorem quf {g f:List Int} (m:MQ (co g) (co f)):∃ B,Sr.Pol B/\si f=B*si g:=by
 obtain ⟨c,c0,A,h⟩:=m
 have c1:=qaV c0
 refine ⟨Sr.num ((c:Rat)⁻¹)*si A,(Sr.Pol.num _).mul (qfu A),?_⟩
 have e:Sr.num (c:Rat)*si f=si A*si g:=by
  rw [<-qjc]
  refine qj5 λk=>?_
  rw [<-h k]
  unfold co
  rw [wab,wab,waf]
  cases f[k]? with
  | none=>simp
  | some z=>rfl
 have i:=Sr.num_inv c1
 have:si f=Sr.num ((c:Rat)⁻¹)*Sr.num (c:Rat)*si f:=by rw [i];grind
 rw [this,show Sr.num ((c:Rat)⁻¹)*Sr.num (c:Rat)*si f=Sr.num ((c:Rat)⁻¹)*(Sr.num (c:Rat)*si f) by grind,e]
 grind
theorem qug {r o g:List Int} (R:RC (co r) (co o) g) {A B:Sr} (pA:Sr.Pol A) (pB:Sr.Pol B) (h1:si r=A*si g) (h2:si o=B*si g):Sr.Cs A B:=by
 obtain ⟨d,d0,U,W,h⟩:=R.qi
 have e:Sr.num (d:Rat)*si g=si U*si r+si W*si o:=by
  rw [qj4 U,qj4 W,Sr.L_mul,Sr.L_mul]
  refine Sr.ext' λk=>?_
  rw [Sr.num_mul]
  show (d:Rat)*((co g k:Int):Rat)=cvL _ (λk=>((co r k:Int):Rat)) k+cvL _ (λk=>((co o k:Int):Rat)) k
  rw [<-qey,<-qey]
  exact_mod_cast h k
 have e2:Sr.num (d:Rat)=si U*A+si W*B:=Sr.cancel (Sr.Pol.num _) (((qfu U).mul pA).add ((qfu W).mul pB)) (qfu g) (qrT R.lz) (by rw [e,h1,h2];grind)
 exact Sr.Cs.of_unit (qaV d0) rfl (qfu U) (qfu W) e2.symm
theorem qp8 {ms rs qs:List Int} (R:RC (co ms) (co (dI ms)) rs) (h:∀ k,co ms k=cvL qs (co rs) k):RadOf (si ms) (si qs):=by
 obtain ⟨B,pB,eB⟩:=quf R.right
 have e:=qj5 h
 refine ⟨si rs,B,qfu rs,qfu qs,pB,by rw [e];grind,by rw [<-quz,eB];grind,qug R (qfu qs) pB e eB⟩
theorem qrU {ns qs ms:List Int} (ln:Lz ns) (lm:Lz ms) (hl:qs.length=ns.length+1 - ms.length) (h:∀ k,co ns k=cvL qs (co ms) k):Lz qs/\qs.length+ms.length=ns.length+1:=by
 have e:=qj5 h
 have n0:=ln.1
 have m0:=lm.1
 have q0:0<qs.length:=by
  rcases wbt qs.length with z | z
  ·rw [wbd.mp z] at e
   exact absurd (by rw [e,qj4 []];show Sr.L []*_=0;rw [Sr.L_nil];grind) (qrT ln)
  ·exact z
 refine ⟨⟨q0,λz=>?_⟩,⋯⟩
 have b1:Sr.Bn (si qs) (qs.length - 1+1):=by rw [Nat.sub_add_cancel q0];exact qtf qs
 have b2:Sr.Bn (si ms) (ms.length - 1+1):=by rw [Nat.sub_add_cancel m0];exact qtf ms
 have t:=(Sr.top_mul b1 b2).1
 rw [<-e,show qs.length - 1+(ms.length - 1)=ns.length - 1 by omega] at t
 have t:((co ns (ns.length - 1):Int):Rat)=((co qs (qs.length - 1):Int):Rat)*((co ms (ms.length - 1):Int):Rat):=t
 rw [z] at t
 have t2:((co ns (ns.length - 1):Int):Rat)=0:=by rw [t];push_cast;grind
 exact ln.2 (by exact_mod_cast t2)
noncomputable def DvI (ms g:List Int):Prop:=∃ A:List Int,∀ k,co ms k=cvL A (co g) k
theorem DvI.fac {ms g q a:List Int} (h:DvI ms g) (e:∀ k,co g k=cvL q (co a) k):DvI ms a/\DvI ms q:=by
 obtain ⟨A,hA⟩:=h
 refine ⟨⟨qaJ A q,λk=>?_⟩,⟨qaJ A a,λk=>?_⟩⟩
 ·rw [hA k,qaC,qas e]
 ·have e2:∀ k,co g k=cvL a (co q) k:=λk=>by
   have h1:∀ (b:List Int) (k:Nat),co b k=cvL b qbp k:=λb k=>by rw [qbV];rfl
   rw [e k,qas (h1 a),qas (h1 q),qei]
  rw [hA k,qaC,qas e2]
theorem DvI.self (ms:List Int):DvI ms ms:=⟨[1],λk=>by
 cases k with
 | zero=>rw [qaq];grind
 | succ k=>rw [qam,qaE];grind⟩
theorem DvI.len {ms g:List Int} (h:DvI ms g) (l1:Lz ms) (l2:Lz g):g.length<=ms.length:=qlX l2 l1 (by
 obtain ⟨A,hA⟩:=h
 exact ⟨1,∅,A,λk=>by rw [Int.one_mul];exact hA k⟩)
theorem DvI.bd {ms g:List Int} (h:DvI ms g) (l1:Lz ms) (bm:∀ z∈ms,Bd 40 z) (m9:ms.length<=9) (l2:Lz g):∀ z∈g,Bd 148 z:=by
 have gl:=h.len l1 l2
 obtain ⟨A,hA⟩:=h
 exact qtb (qfT (n:=9) (c:=4) bm ⟨_,l1.2⟩ m9 ⋯ ∅ hA)
theorem qrV {a:List Int} (h:Lz a):Tz a:=.inr h.2
theorem quh {ns:List Int} (h:Lz ns):Tz (dI ns):=by
 by_cases c:2<=ns.length
 ·refine qrV ⟨by rw [qj6];omega,?_⟩
  rw [qj6,qoP,show ns.length - 1 - 1+1=ns.length - 1 by omega]
  exact wa7 ⋯ h.2
 ·have e:dI ns=[]:=wbd.mp (by rw [qj6];omega)
  exact .inl e
theorem qui {ns:List Int} (h:∀ z∈ns,Bd 40 z) (n9:ns.length<=9):∀ z∈dI ns,Bd 148 z:=λz hz=>by
 unfold dI at hz
 obtain ⟨k,hk,rfl⟩:=wax.mp hz
 have hk':=wch.mp hk
 have b4:Bd 4 ((k+1:Nat):Int):=by
  show ((k+1:Nat):Int).natAbs<2 ^ 4
  omega
 exact (b4.mul (qa8 h (k+1))).mono ∅
theorem qj7 (h:qbL K vs H Q E):qg9 K { nx:=λ_ H'=>Q .non H',rt:=Q } (L2.start ["row"] vs) H:=by
 obtain ⟨p,ns,b,rfl,hp,l1,bn,b9,k⟩:=h
 unfold qg9
 rwa [hp]
 rw [waa]
 refine ⟨∅,∅,⋯,⋯,CompJ.range (λi zs H'=>i<=ns.length - 1/\Same H H'/\zs=qbB i λk=>((k+1:Nat):Int)*co ns (k+1)) ⟨wae _,Same.refl H,rfl⟩ ?_ ?_ ?_⟩
 ·rintro i zs H' ⟨h1,s1,rfl⟩
  exact ⟨⋯,sz (by rw [qa7];omega)⟩
 ·rintro i zs H' hi ⟨h1,s1,rfl⟩
  have hp1:=s1 _ _ hp
  have g1:atI (ns.map V.int) (1+(i:Int))=some (V.int (co ns (i+1))):=by
   refine qb7 (j:=i+1) ⋯ ?_
   rw [qj1]
   exact qaT _ ⋯
  rwa [hp1,g1]
  refine ⟨qs9 ⋯ ⋯,⋯,s1,?_⟩
  rw [qoK i,show (1+(i:Int))=((i+1:Nat):Int) by omega]
  rfl
 ·rintro zs H' ⟨_,s1,rfl⟩ a ha
  refine k a _ (s1.trans (qah ha _)) ?_
  rw [qag,show ((ns.length:Int) - 1).toNat=ns.length - 1 by omega]
  rfl
theorem qk2 {ns ms:List Int} {g:Int} (g0:0<g) (e:ns=ms.map (g*·)) (ln:Lz ns) (bn:∀ z∈ns,Bd 40 z):Lz ms/\(∀ z∈ms,Bd 40 z)/\ms.length=ns.length:=by
 have l:ms.length=ns.length:=by rw [e,waa]
 refine ⟨⟨by have:=ln.1;omega,λz=>ln.2 ?_⟩,λz hz=>?_,l⟩
 ·have:=congrFun (congrArg Sr.c (qjc (g:=g) ms)) (ns.length - 1)
  rw [<-e,Sr.num_mul] at this
  have this:((co ns (ns.length - 1):Int):Rat)=(g:Rat)*((co ms (ns.length - 1):Int):Rat):=this
  rw [<-l,z] at this
  have t2:((co ns (ms.length - 1):Int):Rat)=0:=by rw [this];push_cast;grind
  rw [<-l]
  exact_mod_cast t2
 ·have b:=bn (g*z) (by rw [e];exact wax.mpr ⟨z,hz,rfl⟩)
  refine Bd.le b ?_
  rw [way]
  exact wcw _ ⋯
theorem em9 {ns ms:List Int} (h1:ns.length<=9) (h2:ms.length<=9) (h:ns=[]\/ms=[]):2*3 ^ (ns.length+ms.length)*(148+1)<=60000000:=by
 have:ns.length+ms.length<=9:=by rcases h with rfl | rfl <;> simp <;> omega
 have p:=wbm (show 0<3 by decide) this
 have:3 ^ 9=19683:=by decide
 omega
theorem qrW {ms rs qs:List Int} (lm:Lz ms) (bm:∀ z∈ms,Bd 40 z) (m9:ms.length<=9) (R:RC (co ms) (co (dI ms)) rs) (hl:qs.length=ms.length+1 - rs.length) (h:∀ k,co ms k=cvL qs (co rs) k):Lz qs/\qs.length+rs.length=ms.length+1/\qs.length<=9/\(∀ z∈qs,Bd 148 z)/\(∀ z∈rs,Bd 148 z)/\DvI ms qs/\DvI ms rs/\RadOf (si ms) (si qs):=by
 obtain ⟨lq,le⟩:=qrU lm R.lz hl h
 have d:=(DvI.self ms).fac h
 have r0:=R.lz.1
 exact ⟨lq,le,⋯,d.2.bd lm bm m9 lq,d.1.bd lm bm m9 R.lz,d.2,d.1,qp8 R h⟩
theorem qrX (qs:List Int):si (qs.map λz=>-z)=Sr.num (-1)*si qs:=by
 have e:(qs.map λz=>-z)=qs.map ((-1:Int)*·):=wcd λz _=>by omega
 rw [e,qjc]
 congr 1
theorem qjd (h:qbz K vs H Q E):qge K { nx:=λ_ H'=>Q .non H',rt:=Q } (L2.start ["row","short","simple"] vs) H:=by
 obtain ⟨p,ns,rfl,hp,ln,bn,n9,k⟩:=h
 unfold qge
 rwa [hp]
 refine ⟨ns,rfl,⋯,qrV ln,λt ms g H1 s1 ht g0 eg pr=>?_⟩
 obtain ⟨lm,bm,ml⟩:=qk2 g0 eg ln bn
 have m9:ms.length<=9:=by omega
 have ne:ns≠[]:=wb1.mp ln.1
 have mne:ms≠[]:=wb1.mp lm.1
 have pm:Prim ms:=pr.resolve_left ne
 unfold qeu
 rwa [ht]
 refine ⟨ms,rfl,⋯,40,bm,∅,λa H2 s2 ha=>?_⟩
 have ht2:=s2 _ _ ht
 rwa [ht2,ha]
 refine ⟨ms,rfl,dI ms,rfl,qrV lm,quh lm,148,λz hz=>(bm z hz).mono ∅,qui bm m9,9,m9,by rw [qj6];omega,∅,∅,4,∅,∅,em9 m9 (by rw [qj6];omega),λb rs H3 s3 hb rc _=>?_⟩
 obtain ⟨R,Pr⟩:=rc (.inl mne)
 have ht3:=s3 _ _ ht2
 have dv:∃ A:List Int,∀ k,co ms k=cvL A (co rs) k:=gauss Pr R.left
 have lrs:rs.length<=9:=by have:=qlX R.lz lm R.left;omega
 have brs:∀ z∈rs,Bd 148 z:=DvI.bd dv lm bm m9 R.lz
 rwa [ht3,hb]
 refine ⟨ms,rfl,rs,rfl,R.lz,40,bm,148,brs,⋯,∅,⋯,⋯,λno=>absurd dv no,λr qs H4 s4 hr hl hq=>?_⟩
 obtain ⟨lq,le,q9,bq,_,_,_,rad⟩:=qrW lm bm m9 R hl hq
 have S4:=((s1.trans s2).trans s3).trans s4
 have al:=qdl lq.1
 have out:RadOf (si ns) (si qs):=by rw [eg,qjc];exact rad.smul
 unfold qet
 rwa [hr,al]
 refine qbr (λc=>?_) (λc=>?_)
 ·exact k r qs H4 S4 hr lq q9 bq ⟨1,si qs,∅,out,by rw [Sr.num_one];grind⟩ ⋯
 ·refine ⟨⟨_,SqL.of hr⟩,CompJ.lst (xs:=qs.map V.int) (λi ys H'=>i<=qs.length/\Same H4 H'/\ys=((qs.map λz=>-z).take i).map V.int) ⟨wae _,Same.refl H4,rfl⟩ ?_ ?_ ?_⟩
  ·rintro i ys H' ⟨h1,s5,rfl⟩
   exact ⟨by rw [waa];exact h1,sz (by rw [waa,wa5];omega),SqL.of (s5 _ _ hr)⟩
  ·rintro i x ys H' hi ⟨h1,s5,rfl⟩
   rw [waf] at hi
   cases e:qs[i]? with
   | none=>rw [e] at hi;cases hi
   | some z=>
     rw [e] at hi
     obtain rfl:=Option.some.inj hi
     have hi2:i<qs.length:=(waq.mp e).1
     rwa []
     refine ⟨⋯,s5,?_⟩
     rw [wbz,waf,e,wb6]
     rfl
  ·rintro ys H' ⟨_,s5,rfl⟩ a5 ha5
   have e:(qs.map λz=>-z).take (qs.map V.int).length=qs.map λz=>-z:=by
    rw [waa]
    exact List.take_of_length_le (by rw [waa];exact wad _)
   rw [e]
   have cn:∀ k,co (qs.map λz=>-z) k = - co qs k:=λk=>by
    unfold co
    rw [wab,wab,waf]
    cases qs[k]? <;> simp
   refine k a5 (qs.map λz=>-z) _ ((S4.trans s5).trans (qah ha5 _)) qag ⟨by rw [waa];exact lq.1,?_⟩ (by rw [waa];exact q9) ?_ ⟨-1,si qs,∅,out,qrX qs⟩ ?_
   ·rw [waa,cn]
    have:=lq.2
    omega
   ·intro z hz
    obtain ⟨y,hy,rfl⟩:=wax.mp hz
    exact (bq y hy).neg
   ·rw [waa,cn]
    have:=lq.2
    omega
theorem qrY {ns:List Int} {t d:Int} (lz:Lz ns) (bn:∀ z∈ns,Bd 36 z) (l:Low t d) (t0:t≠0) (bt:Bd 4 t) (bd:Bd 4 d):Gq 40 40 (ns.map λn=>qbv (n*t) d):=by
 have d0:d≠0:=wai l.pos
 have e:(ns.map λn=>qbv (n*t) d)=(ns.map (·*t)).map λn=>qbv n d:=by rw [wb3];rfl
 have b:∀ z∈ns.map (·*t),Bd 40 z:=λz hz=>by obtain ⟨y,hy,rfl⟩:=wax.mp hz;exact (bn y hy).mul bt
 have r:=qtc d0 b
 rw [<-e] at r
 refine ⟨λq hq=>?_,λq hq=>?_,_,r.1,(bd.le ⋯).mono ∅,r.2⟩
 ·obtain ⟨z,_,rfl⟩:=wax.mp hq;exact qcj d0
 ·rw [List.getLast?_map] at hq
  have l0:=lz.1
  have hl:ns.getLast?=some (co ns (ns.length - 1)):=by
   rw [List.getLast?_eq_getElem?]
   unfold co
   rw [wab,wag ⋯];rfl
  rw [hl] at hq
  obtain rfl:=Option.some.inj hq
  exact qoN d0 (wa7 lz.2 t0)
theorem ql4 {F L L':Sr} (f0:F≠0) (h:RadOf F L) (h':RadOf F L'):∃ q,Sr.Pol q/\L'=q*L:=by
 obtain ⟨S,M,pS,pL,pM,e1,e2,c⟩:=h
 obtain ⟨S',M',pS',pL',pM',e1',e2',c'⟩:=h'
 have s0:S≠0:=λz=>f0 (by rw [e1,z];grind)
 have s0':S'≠0:=λz=>f0 (by rw [e1',z];grind)
 have x:L*M'=L'*M:=by
  refine Sr.cancel (pL.mul pM') (pL'.mul pM) (pS.mul pS') (Sr.ne_mul pS pS' s0 s0') ?_
  have a:S*L=S'*L':=e1.symm.trans e1'
  have b:S*M=S'*M':=e2.symm.trans e2'
  calc L*M'*(S*S')=(S*L)*(S'*M'):=by grind
   _=(S'*L')*(S*M):=by rw [a,b]
   _=L'*M*(S*S'):=by grind
 obtain ⟨U,W,pU,pW,h⟩:=c
 refine ⟨U*L'+W*M',(pU.mul pL').add (pW.mul pM'),?_⟩
 have:L'=L'*(U*L+W*M):=by rw [h];grind
 grind
theorem qp9 (f:Nat->Rat) (n:Nat) (x:Rat) (d:Nat):evF f n x (d+1)=f (n - 1 - d)+x*evF f n x d:=rfl
theorem qrZ {b:Nat} {c:Int} {R:Nat->Int} {n:Nat} (hc:Bd 1000 c) (h:∀ j,Bd b (R j)):∀ d,Bd (b+1001*d) (sy c R n d)
 | 0=>h _
 | d+1=>by
   have a1:=(hc.mul (qrZ (n:=n) hc h d)).mono (show 1000+(b+1001*d)<=b+1001*d+1000 by omega)
   exact (((h (n - 1 - (d+1))).mono (show b<=b+1001*d+1000 by omega)).add a1).mono ⋯
theorem qr0 {c:Int} {R:Nat->Int} {n p:Nat} (h:p+1<n):sy c R n (n - 1 - p)=R p+c*sy c R n (n - 1 - (p+1)):=by
 rw [show n - 1 - p=(n - 1 - (p+1))+1 by omega]
 show R (n - 1 - (n - 1 - (p+1)+1))+_=_
 rw [show n - 1 - (n - 1 - (p+1)+1)=p by omega]
theorem qje {b m:Nat} {c:Int} {R:Nat->Int} {n:Nat} (hc:Bd 1000 c) (h:∀ j,Bd b (R j)) (hn:n<=m):∀ i j,Bd (b+1001*m*i) (rnds c R n i j)
 | 0,j=>h j
 | i+1,j=>by
   show Bd _ (rnd c (rnds c R n i) n i j)
   have e:1001*m*(i+1)=1001*m*i+1001*m:=by rw [Nat.mul_add,Nat.mul_one]
   unfold rnd
   split
   ·exact (qje hc h hn i j).mono ⋯
   ·exact (qrZ hc (qje hc h hn i) _).mono ⋯
theorem qr1 (h:qiZ K vs H Q E):qqT K { nx:=λ_ H'=>Q .non H',rt:=Q } (L2.start ["P","c","row","value","scale","whole"] vs) H:=by
 obtain ⟨p,q,xs,l,a,b,bq,rfl,hp,hq,hN,G,bq8,lo,ba,bb,l9,k⟩:=h
 have hl:=G.low
 obtain ⟨bc,bB,bt⟩:=G.clr
 have OL:=qdT hl
 have bL:Bd 8000 (qe1 l):=bB.mono ⋯
 have cll:(qem l).length=l.length:=by unfold qem;rw [waa]
 have b0:0<b:=lo.pos
 unfold qqT
 unfold Nm at hq
 rwa [hp]
 refine ⟨l,hN,hl,qe1 l,OL,bL.mono ∅,λq hq=>(bt q hq).mono ⋯,⋯,λr c H1 s1 hr hc=>?_⟩
 have hq1:=s1 _ _ hq
 rwa [hr]
 refine ⟨_,SqL.of hc,ForJ.rev (λi σ H'=>∃ (v:Int) (x5:Option V),σ=[some (.ref p),some (.ref q),some (.ref r),some (.int v),some (.int (b ^ i)),x5]/\H'=H1/\Bd (11000+2000*i) v/\(v:Rat)*b=((b ^ i:Int):Rat)*evF (λj=>((qem l).getD j 0:Rat)) l.length (val (a,b)) i) ⟨0,none,by rw [Int.pow_zero],rfl,qdo _,?_⟩ ?_ ?_ ?_⟩
 ·show ((0:Int):Rat)*b=_*0
  push_cast
  grind
 ·rintro i σ H' _ ⟨_,_,_,rfl,_⟩
  exact SqL.of hc
 ·rintro i x σ H' hi hx ⟨v,y,rfl,rfl,bv,id⟩
  rw [waa,cll] at hi hx
  rw [waf,wag ⋯] at hx
  have ew:(qem l).getD (l.length - 1 - i) 0=(qem l)[l.length - 1 - i]'⋯:=by rw [wab,wag ⋯];rfl
  obtain rfl:V.int _=x:=Option.some.inj hx
  rw [<-ew]
  have bw:Bd 8000 ((qem l).getD (l.length - 1 - i) 0):=(qiL bc _).mono ⋯
  have bp:Bd 2001 (b ^ i):=(bb.pow i).mono ⋯
  rwa [hq1]
  refine ⟨qjX (bv.mono (show _<=60000 by omega)) ba,qjX bw bp,qjX bp bb,?_⟩
  refine ⟨by rw [Int.pow_succ],?_,?_⟩
  ·exact (((bv.mul ba).mono (show _<=11100+2000*i by omega)).add ((bw.mul bp).mono ⋯)).mono ⋯
  ·rw [qp9]
   have hb:=qaV (wai b0)
   have hv:val (a,b)=(a:Rat) / b:=rfl
   rw [Int.pow_succ]
   push_cast at id ⊢
   grind
 ·rintro σ H' ⟨v,y,rfl,rfl,bv,id⟩
  rw [waa,cll] at *
  have bp:Bd 2001 (b ^ l.length):=(bb.pow l.length).mono ⋯
  have bpos:0<b ^ l.length:=Int.pow_pos b0
  have B0:=Int.mul_pos OL.1 bpos
  rwa [hq1,hr]
  refine ⟨qjX (bv.mono (show _<=60000 by omega)) bb,qjX bL bp,wai B0,λt ht=>?_⟩
  refine k t _ (qbv (v*b) (qe1 l*b ^ l.length)) (s1.trans (qah ht _)) qn6 (qcj (wai B0)) ((qiN (wai B0) ((bv.mul bb).mono (show _<=60000 by omega)) (bL.mul bp)).1.mono ∅) ((qiN (wai B0) ((bv.mul bb).mono (show _<=60000 by omega)) (bL.mul bp)).2.mono ∅) ?_
  unfold evN
  rw [qeh (wai B0)]
  have e:evF (pwo l) l.length (val (a,b)) l.length=evF (λj=>((qem l).getD j 0:Rat)) l.length (val (a,b)) l.length / (qe1 l:Rat):=by
   rw [<-qiY]
   exact qjP _ (wad _) λi _ _=>qsS hl OL i
  rw [e]
  have h1:=qaV (wai OL.1)
  have h2:=qaV (wai bpos)
  push_cast at *
  grind
noncomputable def lin (c:Int) (q:List Int):List Int:=qaN (q.map (c*·)) (0::q)
theorem qr2 {a b c:Int} (h:a∣b*c) (g:Int.gcd a c=1):a∣b:=by
 have h1:Nat.Coprime a.natAbs c.natAbs:=g
 refine wbh.mp (h1.dvd_of_dvd_mul_right ?_)
 rw [<-way]
 exact wbh.mpr h
noncomputable abbrev qR (l:List Int):List Rat:=l.map λz:Int=>(z:Rat)
theorem rpow_ne' {x:Rat} (h:x≠0):∀ n:Nat,x ^ n≠0
 | 0=>by rw [wao];grind
 | n+1=>by rw [waj];exact λz=>(wa2.mp z).elim (rpow_ne' h n) h
theorem qoQ {t s:Int} (s0:s≠0):∀ l:List Int,(hw l t s:Rat)*(s:Rat)=Sr.ev (qR l) ((t:Rat) / (s:Rat))*(s:Rat) ^ l.length
 | []=>by show ((0:Int):Rat)*_=0*_;grind
 | a::l=>by
   have s1:(s:Rat)≠0:=qaV s0
   have ih:=qoQ s0 l (t:=t)
   show ((a*s ^ l.length+t*hw l t s:Int):Rat)*s=((a:Rat)+(t:Rat) / (s:Rat)*Sr.ev (qR l) _)*(s:Rat) ^ (l.length+1)
   rw [waj]
   push_cast
   have q:(t:Rat) / (s:Rat)*(s:Rat)=t:=wb8 s1
   generalize (t:Rat) / (s:Rat)=x at q ih ⊢
   generalize Sr.ev (qR l) x=y at ih ⊢
   generalize (s:Rat) ^ l.length=z at ih ⊢
   have e:((t:Rat)*(hw l t s:Rat))*(s:Rat)=t*(y*z):=by rw [<-ih];grind
   have e2:(t:Rat)*(y*z)=x*y*(z*s):=by rw [<-q];grind
   grind
theorem qgt (l:List Int):Sr.L (qR l)=si l:=(qj4 l).symm
theorem qqa {ns rs:List Int} (n0:si ns≠0) (h:∃ (c:Rat) (L:Sr),c≠0/\RadOf (si ns) L/\si rs=Sr.num c*L) (x:Rat):Sr.ev (qR ns) x=0↔Sr.ev (qR rs) x=0:=by
 obtain ⟨c,L,c0,⟨S,M,pS,pL,pM,e1,e2,cs⟩,e3⟩:=h
 obtain ⟨s,rfl⟩:=pS
 obtain ⟨l,rfl⟩:=pL
 have S0:Sr.L s≠0:=λz=>n0 (by rw [e1,z];grind)
 have en:Sr.L (qR ns)=Sr.L (qaJ s l):=by rw [qgt,Sr.L_mulRow];exact e1
 have er:Sr.L (qR rs)=Sr.L (l.map (c*·)):=by rw [qgt,Sr.L_scal];exact e3
 rw [Sr.ev_congr en,Sr.ev_congr er,Sr.ev_mul,Sr.ev_scal]
 constructor
 ·intro z
  rcases wa2.mp z with q | q
  ·have hD:Sr.D (Sr.L s)*Sr.L l=(M - Sr.D (Sr.L l))*Sr.L s:=by
    rw [e1,Sr.D_mul (Sr.Pol.L s)] at e2
    grind
   obtain ⟨m,a,⟨a',rfl⟩,pw⟩:=Sr.rad_pow _ (Sr.L s) (Sr.L l) _ (Sr.L_bn s) S0 (Sr.Pol.L l) (Sr.Pol.sub pM (Sr.Pol.D (Sr.Pol.L l))) hD
   obtain ⟨lm,hlm⟩:∃ lm:Nat->List Rat,∀ n,Sr.L (lm n)=Sr.L l ^ n/\Sr.ev (lm n) x=Sr.ev l x ^ n:=by
    refine ⟨λn=>Nat.rec [1] (λ_ y=>qaJ y l) n,λn=>?_⟩
    induction n with
    | zero=>exact ⟨by show Sr.L [1]=_;rw [<-Sr.num_L,Sr.num_one];grind,by show (1:Rat)+x*0=_;rw [wao];grind⟩
    | succ n ih=>exact ⟨by show Sr.L (qaJ _ l)=_;rw [Sr.L_mulRow,ih.1];grind,by show Sr.ev (qaJ _ l) x=_;rw [Sr.ev_mul,ih.2,waj]⟩
   have e:Sr.L (lm m)=Sr.L (qaJ a' s):=by rw [(hlm m).1,Sr.L_mulRow];exact pw
   have v:=Sr.ev_congr e x
   rw [(hlm m).2,Sr.ev_mul,q] at v
   have l0:Sr.ev l x=0:=by
    by_cases y:Sr.ev l x=0
    ·exact y
    ·exact absurd (show Sr.ev l x ^ m=0 by rw [v];grind) (rpow_ne' y m)
   rw [l0];grind
  ·rw [q];grind
 ·intro z
  rw [(wa2.mp z).resolve_left c0];grind
theorem siegel {A B:List Int} {T b:Nat} (lA:Lz A) (lB:Lz B) (q:QI (co A) (co B) qbp) (hA:∀ k,Bd b (co A k)) (hB:∀ k,Bd b (co B k)) (n1:2<=A.length) (m1:2<=B.length) (T0:0<T)
  (big:(2*((A.length+B.length)*2 ^ b)) ^ (A.length+B.length - 2)<T):∃ (U V:List Int) (d:Int),d≠0/\d.natAbs<T/\(∀ k,cvL U (co A) k+cvL V (co B) k=co [d] k)/\(∀ k,(co U k).natAbs<T)/\(∀ k,(co V k).natAbs<T)/\U.length=B.length - 1/\V.length=A.length - 1:=by
 generalize hn:A.length - 1=n at *
 generalize hm:B.length - 1=m at *
 generalize hE:(A.length+B.length)*2 ^ b=E at *
 have N1:A.length+B.length - 2=n+m:=by omega
 rw [N1] at big
 have hAn:∀ k,(co A k).natAbs<=2 ^ b:=λk=>wbr (hA k)
 have hBn:∀ k,(co B k).natAbs<=2 ^ b:=λk=>wbr (hB k)
 have E0:0<E:=by rw [<-hE];exact Nat.mul_pos ⋯ (wav ∅)
 obtain ⟨u,hu⟩:∃ u:Nat->List Int,∀ t,u t=(digs T (m+n) t).take m:=⟨_,λ_=>rfl⟩
 obtain ⟨v,hv⟩:∃ v:Nat->List Int,∀ t,v t=(digs T (m+n) t).drop m:=⟨_,λ_=>rfl⟩
 obtain ⟨f,hf⟩:∃ f:Nat->Nat->Int,∀ t k,f t k=cvL (u t) (co A) k+cvL (v t) (co B) k:=⟨_,λ_ _=>rfl⟩
 have ul:∀ t,(u t).length=m:=λt=>by rw [hu,wa5,qfq];omega
 have vl:∀ t,(v t).length=n:=λt=>by rw [hv,List.length_drop,qfq];omega
 have uz:∀ t,∀ z∈u t,0<=z/\z<(T:Int):=λt z hz=>qhj T0 _ t z (wcp (hu t ▸ hz))
 have vz:∀ t,∀ z∈v t,0<=z/\z<(T:Int):=λt z hz=>qhj T0 _ t z (List.mem_of_mem_drop (hv t ▸ hz))
 have fb:∀ t k,(f t k).natAbs<E*T:=λt k=>by
  have h1:=qjZ (q:=T - 1) hAn (u t) (λz hz=>by have:=uz t z hz;omega) k
  have h2:=qjZ (q:=T - 1) hBn (v t) (λz hz=>by have:=vz t z hz;omega) k
  rw [ul] at h1
  rw [vl] at h2
  have h3:(f t k).natAbs<=(m+n)*((T - 1)*2 ^ b):=by
   rw [wb5,hf]
   omega
  refine wb9 h3 ?_
  rw [<-hE]
  have e:(m+n)*((T - 1)*2 ^ b)=((m+n)*2 ^ b)*(T - 1):=by rw [wbl (T - 1),Nat.mul_assoc]
  rw [e]
  exact wa8 (Nat.mul_lt_mul_of_pos_left ⋯ (Nat.mul_pos ⋯ (wav ∅))) (wbe T (wbe _ ⋯))
 obtain ⟨e0,he0⟩:∃ e0:Nat->Nat,∀ t,e0 t=(f t 0 / (T:Int)+(E:Int)).toNat:=⟨_,λ_=>rfl⟩
 obtain ⟨ek,hek⟩:∃ ek:Nat->Nat->Nat,∀ t k,ek t k=(f t (k+1)+((E*T:Nat):Int)).toNat:=⟨_,λ_ _=>rfl⟩
 have e0r:∀ t,0<=f t 0 / (T:Int)+(E:Int)/\f t 0 / (T:Int)+(E:Int)<2*(E:Int):=λt=>by
  have h:=fb t 0
  have h1:-((E:Int)*(T:Int))<=f t 0:=by have:((E*T:Nat):Int)=(E:Int)*(T:Int):=by push_cast;rfl
                                        omega
  have h2:f t 0<(E:Int)*(T:Int):=by have:((E*T:Nat):Int)=(E:Int)*(T:Int):=by push_cast;rfl
                                    omega
  have q1:-(E:Int)<=f t 0 / (T:Int):=by
   refine (Int.le_ediv_iff_mul_le ⋯).mpr ?_
   rw [wb7];exact h1
  have q2:f t 0 / (T:Int)<(E:Int):=Int.ediv_lt_of_lt_mul ⋯ h2
  omega
 have ekr:∀ t k,0<=f t (k+1)+((E*T:Nat):Int)/\f t (k+1)+((E*T:Nat):Int)<2*((E*T:Nat):Int):=λt k=>by
  have h:=fb t (k+1)
  omega
 have e0l:∀ t,e0 t<2*E:=λt=>by have:=e0r t;rw [he0];omega
 have ekl:∀ t k,ek t k<2*(E*T):=λt k=>by have:=ekr t k;rw [hek];omega
 have cl:∀ t,e0 t+2*E*enc (2*(E*T)) (m+n - 1) (ek t)<2*E*(2*(E*T)) ^ (m+n - 1):=λt=>by
  have h1:=qoC (M:=2*(E*T)) (m+n - 1) (ek t) (λk _=>ekl t k)
  have h2:2*E*(enc (2*(E*T)) (m+n - 1) (ek t)+1)<=2*E*(2*(E*T)) ^ (m+n - 1):=wa6 _ h1
  have h3:=e0l t
  rw [Nat.mul_add,Nat.mul_one] at h2
  omega
 have room:2*E*(2*(E*T)) ^ (m+n - 1)<T ^ (m+n):=by
  obtain ⟨N,hN⟩:∃ N,m+n=N+1:=⟨m+n - 1,⋯⟩
  rw [hN,Nat.add_sub_cancel]
  rw [Nat.add_comm n m,hN] at big
  have e:2*E*(2*(E*T)) ^ N=(2*E) ^ (N+1)*T ^ N:=by
   rw [<-Nat.mul_assoc 2 E T,Nat.mul_pow (2*E) T N,wa1,wbl ((2*E) ^ N) (2*E),Nat.mul_assoc (2*E)]
  rw [e,wa1 T,wbl (T ^ N) T]
  exact Nat.mul_lt_mul_of_pos_right big (wav T0)
 obtain ⟨s,t,st,ht,e⟩:=php _ _ _ (λi _=>cl i) room
 obtain ⟨q0,q1⟩:=qi4 (e0l s) (e0l t) e
 have qk:=qkU (m+n - 1) _ _ (λk _=>ekl s k) (λk _=>ekl t k) q1
 have w0:∀ k,(co (u s) k - co (u t) k)=co (qaN (u s) ((u t).map ((-1)*·))) k:=λk=>by rw [qbg,qbg,qbg,qax,qat];omega
 have df:∀ k,f s k - f t k=cvL (qaN (u s) ((u t).map ((-1)*·))) (co A) k+cvL (qaN (v s) ((v t).map ((-1)*·))) (co B) k:=λk=>by
  rw [qax,qax,qat,qat,hf,hf]
  omega
 have hi:∀ k,0<k->f s k - f t k=0:=λk hk=>by
  rcases wap k (m+n) with c | c
  ·have:=qk (k - 1) ⋯
   have r1:=ekr s (k - 1)
   have r2:=ekr t (k - 1)
   rw [hek,hek,show k - 1+1=k by omega] at this
   rw [show k - 1+1=k by omega] at r1 r2
   omega
  ·have z:∀ t,f t k=0:=λt=>by
    rw [hf,qbD (n:=A.length) (λi hi=>qau hi) (u t) k (by rw [ul];omega),qbD (n:=B.length) (λi hi=>qau hi) (v t) k (by rw [vl];omega)];rfl
   rw [z,z];rfl
 have d0:(f s 0 - f t 0).natAbs<T:=by
  have r1:=e0r s
  have r2:=e0r t
  rw [he0,he0] at q0
  have q0:f s 0 / (T:Int)=f t 0 / (T:Int):=by omega
  have m1:=wco (f s 0) T
  have m2:=wco (f t 0) T
  have b1:=wba (f s 0) (show (T:Int)≠0 by omega)
  have b2:=wbg (f s 0) (show (0:Int)<T by omega)
  have b3:=wba (f t 0) (show (T:Int)≠0 by omega)
  have b4:=wbg (f t 0) (show (0:Int)<T by omega)
  rw [q0] at m1
  omega
 refine ⟨qaN (u s) ((u t).map ((-1)*·)),qaN (v s) ((v t).map ((-1)*·)),f s 0 - f t 0,λz0=>?_,d0,λk=>?_,λk=>?_,λk=>?_,by rw [qd7,waa,ul,ul];omega,by rw [qd7,waa,vl,vl];omega⟩
 ·have all:∀ k,cvL (qaN (u s) ((u t).map ((-1)*·))) (co A) k+cvL (qaN (v s) ((v t).map ((-1)*·))) (co B) k=0:=λk=>by
   rw [<-df]
   cases k with
   | zero=>exact z0
   | succ k=>exact hi (k+1) ⋯
  have ll:∀ {a c:List Int} {x:Nat},a.length=x->c.length=x->(qaN a (c.map ((-1)*·))).length=x:=λ{a c x} h1 h2=>by
   rw [qd7,waa,h1,h2];omega
  obtain ⟨c1,c2⟩:=qoD lA lB q (by rw [ll (ul s) (ul t)];omega) (by rw [ll (vl s) (vl t)];omega) all
  have eu:u s=u t:=qlY (by rw [ul,ul]) λk=>by have:=c1 k;rw [<-w0] at this;omega
  have ev:v s=v t:=qlY (by rw [vl,vl]) λk=>by
   have:=c2 k
   rw [qbg,qax,qat,<-qbg,<-qbg] at this;omega
  have:digs T (m+n) s=digs T (m+n) t:=by
   rw [<-List.take_append_drop m (digs T (m+n) s),<-List.take_append_drop m (digs T (m+n) t)]
   rw [<-hu,<-hv,<-hu,<-hv,eu,ev]
  have:=qi5 T0 _ _ _ ⋯ ⋯ this
  omega
 ·rw [<-df]
  cases k with
  | zero=>rfl
  | succ k=>rw [hi (k+1) ⋯];exact (qau (by simp)).symm
 ·rw [<-w0]
  have g:∀ t,0<=co (u t) k/\co (u t) k<(T:Int):=λt=>by
   by_cases hk:k<(u t).length
   ·have e:co (u t) k=(u t)[k]:=by unfold co;rw [wab,wag hk];rfl
    rw [e];exact uz t _ (wbo hk)
   ·rw [qau ⋯];omega
  have:=g s;have:=g t;omega
 ·have w1:(co (v s) k - co (v t) k)=co (qaN (v s) ((v t).map ((-1)*·))) k:=by rw [qbg,qbg,qbg,qax,qat];omega
  rw [<-w1]
  have g:∀ t,0<=co (v t) k/\co (v t) k<(T:Int):=λt=>by
   by_cases hk:k<(v t).length
   ·have e:co (v t) k=(v t)[k]:=by unfold co;rw [wab,wag hk];rfl
    rw [e];exact vz t _ (wbo hk)
   ·rw [qau ⋯];omega
  have:=g s;have:=g t;omega
theorem qhn:∀ A:List Rat,∃ (N:Int) (Z:List Int),N≠0/\A.map ((N:Rat)*·)=Z.map λz:Int=>(z:Rat)
 | []=>⟨1,[],∅,rfl⟩
 | a::A=>by
   obtain ⟨N,Z,N0,h⟩:=qhn A
   refine ⟨(a.den:Int)*N,(a.num*N)::Z.map ((a.den:Int)*·),wa7 (by have:=a.den_nz;omega) N0,?_⟩
   rw [List.map_cons,List.map_cons]
   congr 1
   ·have h:=Rat.num_divInt_den a
    rw [Rat.divInt_eq_div] at h
    have d:((a.den:Int):Rat)≠0:=by have:=a.den_nz;exact_mod_cast this
    have e:((a.den:Int):Rat)=(a.den:Rat):=by push_cast;rfl
    push_cast
    grind
   ·rw [wb3]
    have e:A.map (λx=>(((a.den:Int)*N:Int):Rat)*x)=(A.map ((N:Rat)*·)).map ((a.den:Rat)*·):=by
     rw [wb3]
     refine wcd λx _=>?_
     show _=(a.den:Rat)*((N:Rat)*x)
     push_cast;grind
    rw [e,h,wb3]
    refine wcd λz _=>?_
    show (a.den:Rat)*(z:Rat)=(((a.den:Int)*z:Int):Rat)
    push_cast;rfl
theorem quj {rs:List Int} (c:Sr.Cs (si rs) (si (dI rs))):QI (co rs) (co (dI rs)) qbp:=by
 obtain ⟨U,W,⟨u,rfl⟩,⟨w,rfl⟩,e⟩:=c
 obtain ⟨N,Z,N0,hZ⟩:=qhn u
 obtain ⟨M,Y,M0,hY⟩:=qhn w
 refine ⟨N*M,wa7 N0 M0,Z.map (M*·),Y.map (N*·),λk=>?_⟩
 rw [qat,qat]
 have e1:Sr.num (N:Rat)*Sr.L u=si Z:=by rw [<-Sr.L_scal,hZ,qj4]
 have e2:Sr.num (M:Rat)*Sr.L w=si Y:=by rw [<-Sr.L_scal,hY,qj4]
 have e3:Sr.num (M:Rat)*(si Z*si rs)+Sr.num (N:Rat)*(si Y*si (dI rs))=Sr.num ((N:Rat)*M):=by
  rw [<-e1,<-e2]
  have:Sr.num (N:Rat)*Sr.num (M:Rat)=Sr.num ((N:Rat)*M):=Sr.num_num _ _
  rw [<-this]
  have q:Sr.num (M:Rat)*(Sr.num (N:Rat)*Sr.L u*si rs)+Sr.num (N:Rat)*(Sr.num (M:Rat)*Sr.L w*si (dI rs))=Sr.num (N:Rat)*Sr.num (M:Rat)*(Sr.L u*si rs+Sr.L w*si (dI rs)):=by grind
  rw [q,e];grind
 have e4:=congrFun (congrArg Sr.c e3) k
 rw [qj4 Z,qj4 Y,Sr.L_mul,Sr.L_mul] at e4
 have e4:(Sr.num (M:Rat)*(⟨cvL (Z.map λz:Int=>(z:Rat)) (si rs).c⟩:Sr)).c k+(Sr.num (N:Rat)*(⟨cvL (Y.map λz:Int=>(z:Rat)) (si (dI rs)).c⟩:Sr)).c k=(Sr.num ((N:Rat)*M)).c k:=e4
 rw [Sr.num_mul,Sr.num_mul] at e4
 have e5:(M:Rat)*((cvL Z (co rs) k:Int):Rat)+(N:Rat)*((cvL Y (co (dI rs)) k:Int):Rat)=((N:Rat)*M)*qbp k:=by
  rw [qey,qey];exact e4
 have e6:((qbp k:Int):Rat)=qbp k:=by cases k <;> rfl
 rw [<-e6] at e5
 exact_mod_cast e5.symm
theorem qtg {ns rs:List Int} (n0:si ns≠0) (h:∃ (c:Rat) (L:Sr),c≠0/\RadOf (si ns) L/\si rs=Sr.num c*L):QI (co rs) (co (dI rs)) qbp:=by
 obtain ⟨c,L,c0,⟨S,M,pS,pL,pM,e1,e2,cs⟩,e3⟩:=h
 obtain ⟨U,W,pU,pW,e⟩:=Sr.simple_cop pS pL pM n0 e1 e2 cs
 refine quj ⟨Sr.num c⁻¹*U,Sr.num c⁻¹*W,(Sr.Pol.num _).mul pU,(Sr.Pol.num _).mul pW,?_⟩
 have i:=Sr.num_inv c0
 have d:si (dI rs)=Sr.num c*Sr.D L:=by rw [<-Sr.D_num,<-e3,quz]
 rw [d,e3]
 have q:Sr.num c⁻¹*U*(Sr.num c*L)+Sr.num c⁻¹*W*(Sr.num c*Sr.D L)=Sr.num c⁻¹*Sr.num c*(U*L+W*Sr.D L):=by grind
 rw [q,i,e];grind
theorem qqV (i:Int):i.natAbs<2 ^ blN i:=by
 unfold blN
 split
 ·rename_i h;rw [h];decide
 ·exact Nat.lt_log2_self
theorem qoR {i:Int} (h:i≠0):2 ^ (blN i - 1)<=i.natAbs/\1<=blN i:=by
 unfold blN
 rw [if_neg h,Nat.add_sub_cancel]
 exact ⟨Nat.log2_self_le ⋯,⋯⟩
theorem qoS {b:Nat} {i:Int} (h:Bd b i):blN i<=b:=by
 by_cases z:i=0
 ·unfold blN;rw [if_pos z];exact wae _
 ·have h1:=(qoR z).1
  have h2:i.natAbs<2 ^ b:=h
  have:=(Nat.pow_lt_pow_iff_right (a:=2) ∅).mp (wb9 h1 h2)
  omega
theorem qbb:∀ (l:List Int) (x:Rat),evQ l x=Sr.ev (qR l) x
 | [],_=>rfl
 | a::l,x=>by show (a:Rat)+x*evQ l x=(a:Rat)+x*Sr.ev (qR l) x;rw [qbb l x]
theorem qth {a b:List Int} (h:si a=si b) (x:Rat):evQ a x=evQ b x:=by
 rw [qbb,qbb];exact Sr.ev_congr (by rw [qgt,qgt];exact h) x
theorem qti:∀ (l:List Int) (x:Rat),evQ (dI l) x=dQ l x:=by
 have key:∀ (l:List Int) (c:Int) (x:Rat),∀ D:List Int,(∀ k,co D k=((k:Int)+c)*co l k)->evQ D x=(c:Rat)*evQ l x+x*dQ l x:=by
  intro l
  induction l with
  | nil=>
    intro c x D h
    have z:si D=si []:=Sr.ext' λk=>by
     show ((co D k:Int):Rat)=((co [] k:Int):Rat)
     rw [h k,show co [] k=0 from rfl,Int.mul_zero]
    rw [qth z]
    show (0:Rat)=c*0+x*0;grind
  | cons a l ih=>
    intro c x D h
    have e:=ih (c+1) x (D.drop 1) λk=>by
     have:=h (k+1)
     have e1:co (D.drop 1) k=co D (k+1):=by unfold co;rw [wab,wab,List.getElem?_drop,Nat.add_comm]
     rw [e1,this]
     show (((k+1:Nat):Int)+c)*co l k=_
     push_cast;grind
    have e2:evQ D x=((co D 0:Int):Rat)+x*evQ (D.drop 1) x:=by
     cases D with
     | nil=>show (0:Rat)=((0:Int):Rat)+x*0;have:((0:Int):Rat)=0:=rfl
            rw [this];grind
     | cons d D=>rfl
    rw [e2,e,h 0]
    show (((0:Nat)+c)*a:Int)+x*(((c+1:Int):Rat)*evQ l x+x*dQ l x)=(c:Rat)*((a:Rat)+x*evQ l x)+x*(evQ l x+x*dQ l x)
    push_cast;grind
 intro l x
 cases l with
 | nil=>rfl
 | cons a l=>
   have e:=key l 1 x (dI (a::l)) λk=>by
    rw [qoP]
    show ((k+1:Nat):Int)*co l k=_
    push_cast;rfl
   rw [e]
   show ((1:Int):Rat)*evQ l x+x*dQ l x=evQ l x+x*dQ l x
   have:((1:Int):Rat)=1:=rfl
   rw [this];grind
theorem bez {rs:List Int} (lz:Lz rs) (l9:rs.length<=9) (b:∀ z∈rs,Bd 148 z) (q:QI (co rs) (co (dI rs)) qbp):∃ (U V:List Int) (d:Int),d≠0/\(∀ k,(co U k).natAbs<2 ^ 2400)/\(∀ k,(co V k).natAbs<2 ^ 2400)/\U.length<=9/\V.length<=9/\∀ x:Rat,evQ U x*evQ rs x+evQ V x*dQ rs x=(d:Rat):=by
 have l0:co rs (rs.length - 1)≠0:=lz.2
 have hlen:(dI rs).length=rs.length - 1:=by unfold dI;rw [waa,waw]
 have one:∀ k,(co [(1:Int)] k).natAbs<2 ^ 2400:=λk=>by
  match k with
  | 0=>show (1:Nat)<_;decide +kernel
  | k+1=>show (0:Nat)<_;decide +kernel
 have nil:∀ k,(co ([]:List Int) k).natAbs<2 ^ 2400:=λk=>by show (0:Nat)<_;decide +kernel
 rcases wap rs.length 3 with c | c
 ·match rs,lz,l0,c with
  | [],lz,_,_=>exact absurd lz.1 (by simp)
  | [a],_,l0,_=>exact ⟨[1],[],a,l0,one,nil,∅,∅,λx=>by show (((1:Int):Rat)+x*0)*((a:Rat)+x*0)+0*_=(a:Rat);rw [show ((1:Int):Rat)=1 from rfl];grind⟩
  | [a,e],_,l0,_=>exact ⟨[],[1],e,l0,nil,one,∅,∅,λx=>by show 0*_+(((1:Int):Rat)+x*0)*(((e:Rat)+x*0)+x*(0+x*0))=(e:Rat);rw [show ((1:Int):Rat)=1 from rfl];grind⟩
 ·have bd:∀ k,Bd 152 (co (dI rs) k):=λk=>by
   rw [qoP]
   by_cases hk:k+1<rs.length
   ·have e:Bd 4 ((k+1:Nat):Int):=by unfold Bd;rw [wbj];have:(2:Nat) ^ 4=16:=by decide
                                    omega
    have:=e.mul (qa8 b (k+1))
    exact this
   ·rw [qau ⋯,Int.mul_zero];exact qdo _
  have lB:Lz (dI rs):=by
   refine ⟨⋯,?_⟩
   rw [qoP,hlen,show rs.length - 1 - 1+1=rs.length - 1 by omega]
   exact wa7 ⋯ l0
  obtain ⟨U,V,d,d0,db,hd,hU,hV,lU,lV⟩:=siegel (T:=2 ^ 2400) lz lB q (λk=>(qa8 b k).mono ⋯) bd ⋯ ⋯ (wav ∅) (by
   have h1:2*((rs.length+(dI rs).length)*2 ^ 152)<=2 ^ 158:=by
    have:(rs.length+(dI rs).length)*2 ^ 152<=17*2 ^ 152:=wbe _ ⋯
    have e:17*2 ^ 152*2<=2 ^ 158:=by decide +kernel
    omega
   refine wb9 (Nat.pow_le_pow_left h1 _) (wb9 (wbm (wav ∅) (show rs.length+(dI rs).length - 2<=15 by omega)) ?_)
   decide +kernel)
  refine ⟨U,V,d,d0,hU,hV,⋯,⋯,λx=>?_⟩
  have e:si [d]=si U*si rs+si V*si (dI rs):=by
   rw [qj4 U,qj4 V,Sr.L_mul,Sr.L_mul]
   refine Sr.ext' λk=>?_
   show ((co [d] k:Int):Rat)=cvL (U.map λz:Int=>(z:Rat)) (si rs).c k+cvL (V.map λz:Int=>(z:Rat)) (si (dI rs)).c k
   rw [<-hd k]
   have c1:=qey (co rs) U k
   have c2:=qey (co (dI rs)) V k
   push_cast
   rw [c1,c2];rfl
  have e1:Sr.L (qR [d])=Sr.L (qaN (qaJ (qR U) (qR rs)) (qaJ (qR V) (qR (dI rs)))):=by rw [Sr.L_add,Sr.L_mulRow,Sr.L_mulRow,qgt,qgt,qgt,qgt,qgt];exact e
  have e2:=Sr.ev_congr e1 x
  rw [Sr.ev_add,Sr.ev_mul,Sr.ev_mul,<-qbb,<-qbb,<-qbb,<-qbb,<-qbb,qti] at e2
  rw [<-e2]
  show (d:Rat)+x*0=d;grind
theorem qb4 {a b P Y:Rat} (h1:a<=P) (h2:-a<=P) (h3:b<=Y) (h4:-b<=Y):a*b<=P*Y/\-(a*b)<=P*Y:=by
 have p1:=wah (show 0<=P - a by grind) (show 0<=Y+b by grind)
 have p2:=wah (show 0<=P+a by grind) (show 0<=Y - b by grind)
 have p3:=wah (show 0<=P - a by grind) (show 0<=Y - b by grind)
 have p4:=wah (show 0<=P+a by grind) (show 0<=Y+b by grind)
 constructor <;> grind
theorem qtj {l l':List Int} {M u w:Rat} (h:∀ x,evQ l x=M*evQ l' (u+w*x)) (m:Rat):dQ l m=M*(w*dQ l' (u+w*m)):=by
 obtain ⟨C,C0,hC⟩:=qg5 l m
 obtain ⟨D,D0,hD⟩:=qg5 l' (u+w*m)
 obtain ⟨N,N0,N1,N2⟩:∃ N:Rat,1<=N/\w<=N/\-w<=N:=by
  rcases (wam:w<=0\/0<=w) with z | z
  ·exact ⟨1 - w,by grind,by grind,by grind⟩
  ·exact ⟨1+w,by grind,by grind,by grind⟩
 obtain ⟨P,P0,P1,P2⟩:∃ P:Rat,0<=P/\M<=P/\-M<=P:=by
  rcases (wam:M<=0\/0<=M) with z | z
  ·exact ⟨-M,by grind,by grind,by grind⟩
  ·exact ⟨M,by grind,by grind,by grind⟩
 have key:∀ s:Rat,0<s->s*N<=1->∀ e:Rat,(e=1\/e = -1)->e*(dQ l m - M*(w*dQ l' (u+w*m)))<=s*(C+P*D*(w*w)):=λs s0 sN e e1=>by
  have sN':s<=s*N:=by
   have:=wac N0 (show 0<=s by grind);grind
  have ws:-1<=w*s/\w*s<=1:=by
   have h1:=wac N1 (show 0<=s by grind)
   have h2:=wac N2 (show 0<=s by grind)
   constructor <;> grind
  obtain ⟨c1,c2⟩:=hC s (by grind) (by grind)
  obtain ⟨d1,d2⟩:=hD (w*s) ws.1 ws.2
  rw [h,h,show u+w*(m+s)=u+w*m+w*s by grind] at c1 c2
  have ya:=qb4 (a:=M) (b:=evQ l' (u+w*m+w*s) - evQ l' (u+w*m) - w*s*dQ l' (u+w*m)) P1 P2 d2 (by grind)
  refine wb0.mp λz=>?_
  have t:=wan (show 0<e*(dQ l m - M*(w*dQ l' (u+w*m))) - s*(C+P*D*(w*w)) by grind) s0
  rcases e1 with e | e <;> rw [e] at t <;> grind
 have K0:0<=C+P*D*(w*w):=by
  have h1:=wah P0 D0
  have h2:0<=w*w:=by
   rcases (wam:w<=0\/0<=w) with z | z
   ·have:=wah (show 0<=-w by grind) (show 0<=-w by grind);grind
   ·exact wah z z
  have:=wah h1 h2
  grind
 have none:∀ e:Rat,(e=1\/e = -1)->¬ 0<e*(dQ l m - M*(w*dQ l' (u+w*m))):=λe e1 z=>by
  obtain ⟨p,p0,p1,p2,_,_⟩:=qt6 z (show (0:Rat)<1 by grind) z z
  obtain ⟨s,s0,s1,s2⟩:=qcl (p:=p) (q:=N+(C+P*D*(w*w))) p0 (by grind)
  have a1:=wah (show 0<=s by grind) K0
  have a2:=wah (show 0<=s by grind) (show 0<=N by grind)
  have:=key s s0 (by grind) e e1
  grind
 rcases rtri (dQ l m - M*(w*dQ l' (u+w*m))) 0 with z | z | z
 ·exact absurd (show 0<(-1:Rat)*(dQ l m - M*(w*dQ l' (u+w*m))) by grind) (none (-1) (.inr rfl))
 ·grind
 ·exact absurd (show 0<(1:Rat)*(dQ l m - M*(w*dQ l' (u+w*m))) by grind) (none 1 (.inl rfl))
theorem qoT {r C:Nat} {x:Rat} (r1:1<=r) (x1:x<=(r:Rat)) (x2:-x<=(r:Rat)):∀ l:List Int,(∀ z∈l,z.natAbs<=C)->evQ l x<=((C*l.length*r ^ l.length:Nat):Rat)/\-evQ l x<=((C*l.length*r ^ l.length:Nat):Rat)
 | [],_=>by
   show (0:Rat)<=((C*0*1:Nat):Rat)/\-(0:Rat)<=((C*0*1:Nat):Rat)
   rw [Nat.mul_zero,Nat.zero_mul,show ((0:Nat):Rat)=0 from rfl];constructor <;> grind
 | a::l,h=>by
   obtain ⟨h1,h2⟩:=qoT r1 x1 x2 l λz hz=>h z (wa4 _ hz)
   obtain ⟨a1,a2⟩:=iabs a
   have aC:((a.natAbs:Nat):Rat)<=(C:Rat):=by exact_mod_cast h a (waz ..)
   obtain ⟨p1,p2⟩:=qb4 x1 x2 h1 h2
   have le:C+r*(C*l.length*r ^ l.length)<=C*(l.length+1)*r ^ (l.length+1):=by
    rw [wa1]
    have:1<=r ^ l.length*r:=Nat.mul_pos (wav r1) r1
    have:C*1<=C*(r ^ l.length*r):=wa6 _ this
    have e:C*(l.length+1)*(r ^ l.length*r)=C*(r ^ l.length*r)+r*(C*l.length*r ^ l.length):=by grind
    omega
   have le':(C:Rat)+(r:Rat)*((C*l.length*r ^ l.length:Nat):Rat)<=((C*(l.length+1)*r ^ (l.length+1):Nat):Rat):=by exact_mod_cast le
   show (a:Rat)+x*evQ l x<=((C*(l.length+1)*r ^ (l.length+1):Nat):Rat)/\-((a:Rat)+x*evQ l x)<=((C*(l.length+1)*r ^ (l.length+1):Nat):Rat)
   generalize ((C*(l.length+1)*r ^ (l.length+1):Nat):Rat)=Z at *
   generalize (r:Rat)*((C*l.length*r ^ l.length:Nat):Rat)=Y at *
   constructor <;> grind
theorem quk {rs q U V:List Int} {d:Int} {t bb:Nat} {u Δ M:Rat} (d0:d≠0) (hU:∀ z∈U,z.natAbs<=2 ^ t) (hV:∀ z∈V,z.natAbs<=2 ^ t) (lU:U.length<=9) (lV:V.length<=9) (uv:∀ x:Rat,evQ U x*evQ rs x+evQ V x*dQ rs x=(d:Rat))
  (u1:u<=((2 ^ 200:Nat):Rat)) (u2:-u<=((2 ^ 200:Nat):Rat)) (w1:u+Δ<=((2 ^ 200:Nat):Rat)) (w2:-(u+Δ)<=((2 ^ 200:Nat):Rat)) (D0:0<Δ) (D1:1<=Δ*((2 ^ 420:Nat):Rat)) (M1:1<=M) (lq:q.length<=9) (bq:∀ z∈q,Bd bb z) (eq:∀ y,evQ q y=M*evQ rs (u+Δ*y)):∃ U' V',Sk q U' V' (bb+t+2300):=by
 have dr:(d:Rat)≠0:=qaV d0
 have d1:(1:Rat)<=d\/(d:Rat)<=-1:=by
  rcases Int.lt_or_lt_of_ne d0 with z | z
  ·have h:((1:Int):Rat)<=((-d:Int):Rat):=by exact_mod_cast (show 1<=-d by omega)
   rw [wcf,show ((1:Int):Rat)=1 from rfl] at h
   exact .inr (by grind)
  ·exact .inl (by have:1<=d:=by omega
                  exact_mod_cast this)
 have di:(d:Rat)*(d:Rat)⁻¹=1:=wbb _ dr
 have Mi:M*M⁻¹=1:=wbb _ (by grind)
 have Di:Δ*Δ⁻¹=1:=wbb _ (by grind)
 have Mp:0<M⁻¹:=Rat.inv_pos.mpr (by grind)
 have Dp:0<Δ⁻¹:=Rat.inv_pos.mpr D0
 have Ml:M⁻¹<=1:=by have:=wak M1 (show 0<=M⁻¹ by grind);grind
 have Dl:Δ⁻¹<=((2 ^ 420:Nat):Rat):=by
  have:=wak D1 (show 0<=Δ⁻¹ by grind)
  rw [show Δ*((2 ^ 420:Nat):Rat)*Δ⁻¹=Δ*Δ⁻¹*((2 ^ 420:Nat):Rat) by grind,Di] at this
  grind
 have dl:(d:Rat)⁻¹<=1/\-(d:Rat)⁻¹<=1:=by
  generalize (d:Rat)=x at *
  generalize x⁻¹=y at *
  rcases d1 with z | z
  ·constructor
   ·refine wb0.mp λw=>?_
    have:=wan (show 0<y - 1 by grind) (show 0<x by grind);grind
   ·refine wb0.mp λw=>?_
    have:=wan (show 0 < -y by grind) (show 0<x by grind);grind
  ·constructor
   ·refine wb0.mp λw=>?_
    have:=wan (show 0<y by grind) (show 0 < -x by grind);grind
   ·refine wb0.mp λw=>?_
    have:=wan (show 0 < -y - 1 by grind) (show 0 < -x by grind);grind
 have e1:∀ y,evQ U (u+Δ*y)*(M⁻¹*(d:Rat)⁻¹)*evQ q y+evQ V (u+Δ*y)*(M⁻¹*Δ⁻¹*(d:Rat)⁻¹)*dQ q y=1:=λy=>by
  rw [qtj eq y,eq y]
  have h:=uv (u+Δ*y)
  generalize evQ U (u+Δ*y)=A at *
  generalize evQ V (u+Δ*y)=B at *
  generalize evQ rs (u+Δ*y)=C at *
  generalize dQ rs (u+Δ*y)=E at *
  generalize M⁻¹=m at *
  generalize Δ⁻¹=w at *
  generalize (d:Rat)⁻¹=k at *
  have:A*(m*k)*(M*C)+B*(m*w*k)*(M*(Δ*E))=(M*m)*k*(A*C)+(M*m)*(Δ*w)*k*(B*E):=by grind
  rw [this,Mi,Di,show 1*k*(A*C)+1*1*k*(B*E)=k*(A*C+B*E) by grind,h,<-di];grind
 have X:∀ y,0<=y->y<=1->u+Δ*y<=((2 ^ 200:Nat):Rat)/\-(u+Δ*y)<=((2 ^ 200:Nat):Rat):=λy y0 y1=>by
  have h1:=wah (show 0<=Δ by grind) y0
  have h2:=wac y1 (show 0<=Δ by grind)
  constructor <;> grind
 have G:∀ (W:List Int),(∀ z∈W,z.natAbs<=2 ^ t)->W.length<=9->∀ y,0<=y->y<=1->evQ W (u+Δ*y)<=((2 ^ t*9*(2 ^ 200) ^ 9:Nat):Rat)/\-evQ W (u+Δ*y)<=((2 ^ t*9*(2 ^ 200) ^ 9:Nat):Rat):=λW hW lW y y0 y1=>by
  obtain ⟨x1,x2⟩:=X y y0 y1
  have r1:1<=2 ^ 200:=wav ∅
  obtain ⟨b1,b2⟩:=qoT (r:=2 ^ 200) (C:=2 ^ t) r1 x1 x2 W hW
  have le:2 ^ t*W.length*(2 ^ 200) ^ W.length<=2 ^ t*9*(2 ^ 200) ^ 9:=Nat.mul_le_mul (wa6 _ lW) (wbm r1 lW)
  have le':((2 ^ t*W.length*(2 ^ 200) ^ W.length:Nat):Rat)<=((2 ^ t*9*(2 ^ 200) ^ 9:Nat):Rat):=by exact_mod_cast le
  exact ⟨Rat.le_trans b1 le',Rat.le_trans b2 le'⟩
 have P0:(1:Rat)<=((2 ^ 420:Nat):Rat):=by
  have:1<=2 ^ 420:=wav ∅
  exact_mod_cast this
 have k1:M⁻¹*(d:Rat)⁻¹<=((2 ^ 420:Nat):Rat)/\-(M⁻¹*(d:Rat)⁻¹)<=((2 ^ 420:Nat):Rat):=by
  have:=qb4 (a:=M⁻¹) (b:=(d:Rat)⁻¹) Ml (by grind) dl.1 dl.2
  constructor <;> grind
 have k2:M⁻¹*Δ⁻¹*(d:Rat)⁻¹<=((2 ^ 420:Nat):Rat)/\-(M⁻¹*Δ⁻¹*(d:Rat)⁻¹)<=((2 ^ 420:Nat):Rat):=by
  have h1:=qb4 (a:=M⁻¹) (b:=Δ⁻¹) Ml (by grind) Dl (by grind)
  have h2:=qb4 h1.1 h1.2 dl.1 dl.2
  constructor <;> grind
 refine ⟨λy=>evQ U (u+Δ*y)*(M⁻¹*(d:Rat)⁻¹),λy=>evQ V (u+Δ*y)*(M⁻¹*Δ⁻¹*(d:Rat)⁻¹),λx z=>?_,⟨((2 ^ t*9*(2 ^ 200) ^ 9:Nat):Rat)*((2 ^ 420:Nat):Rat),?_,λy y0 y1=>?_,λy y0 y1=>?_,?_⟩,λy _ _=>e1 y⟩
 ·intro z2
  have:=e1 x
  rw [z,z2] at this
  grind
 ·exact wah (by exact_mod_cast wae _) (by grind)
 ·have g:=G U hU lU y y0 y1
  exact qb4 g.1 g.2 k1.1 k1.2
 ·have g:=G V hV lV y y0 y1
  exact qb4 g.1 g.2 k2.1 k2.2
 ·have gb:=qrC q.length q (B:=2 ^ bb) λz hz=>wbr (bq z hz)
  have g1:gs q q.length<=2 ^ bb*2 ^ 9:=wa3 (Nat.le_add_right _ _) (wa3 gb (wa6 _ (wbm ∅ lq)))
  have g2:gs q q.length*(8*q.length+8)<=2 ^ bb*2 ^ 9*2 ^ 7:=Nat.mul_le_mul g1 ⋯
  have g3:2 ^ t*9*(2 ^ 200) ^ 9*2 ^ 420<=2 ^ t*2 ^ 4*2 ^ (200*9)*2 ^ 420:=by
   rw [Nat.pow_mul]
   exact wbe _ (wbe _ (wa6 _ ∅))
  have g4:=Nat.mul_le_mul g3 g2
  rw [<-wbn,<-wbn,<-wbn,<-wbn,<-wbn,<-wbn] at g4
  have g5:2 ^ t*9*(2 ^ 200) ^ 9*2 ^ 420*(gs q q.length*(8*q.length+8))<2 ^ (bb+t+2300):=wb9 g4 (Nat.pow_lt_pow_right ∅ ⋯)
  exact_mod_cast g5
theorem qjf {lead γ y s:Rat} (l0:0<lead) (g0:0<=γ) (gy:γ<=y) (s1:s=1\/s = -1):∀ l:List Int,l≠[]->((co l (l.length - 1):Int):Rat)=lead->(∀ i,i+1<l.length->((co l i:Int):Rat)<=lead*γ ^ (l.length - 1 - i)/\-((co l i:Int):Rat)<=lead*γ ^ (l.length - 1 - i))->lead*y ^ (l.length - 1)<=s ^ (l.length - 1)*evQ l (s*(2*y))
 | [],h,_,_=>absurd rfl h
 | [a],_,e,_=>by
   have e:(a:Rat)=lead:=e
   show lead*y ^ 0<=s ^ 0*((a:Rat)+_*0)
   rw [wao,wao,e];grind
 | a::b::l,_,e,h=>by
   have ih:=qjf l0 g0 gy s1 (b::l) (by simp) e λi hi=>by
    have hi:i+1<l.length+1:=hi
    have:=h (i+1) (by show i+1+1<l.length+2;omega)
    rw [show (a::b::l).length - 1 - (i+1)=(b::l).length - 1 - i by show l.length+1+1 - 1 - (i+1)=l.length+1 - 1 - i;omega] at this
    exact this
   obtain ⟨a1,a2⟩:=h 0 (by show 0+1<l.length+2;omega)
   have a1:(a:Rat)<=lead*γ ^ (l.length+1):=a1
   have a2:-(a:Rat)<=lead*γ ^ (l.length+1):=a2
   have ih:lead*y ^ l.length<=s ^ l.length*evQ (b::l) (s*(2*y)):=ih
   show lead*y ^ (l.length+1)<=s ^ (l.length+1)*((a:Rat)+s*(2*y)*evQ (b::l) (s*(2*y)))
   have gp:γ ^ (l.length+1)<=y ^ (l.length+1):=by
    have:∀ n:Nat,0<=γ ^ n/\γ ^ n<=y ^ n:=λn=>by
     induction n with
     | zero=>rw [wao,wao];constructor <;> grind
     | succ n ih=>
       rw [waj,waj]
       have h1:=wah ih.1 g0
       have h2:=wak ih.2 g0
       have h3:=wac gy (show 0<=y ^ n by grind)
       exact ⟨h1,by grind⟩
    exact (this _).2
   have gl:=wac gp (show 0<=lead by grind)
   have sp:s ^ l.length=1\/s ^ l.length = -1:=by
    have:∀ n:Nat,s ^ n=1\/s ^ n = -1:=λn=>by
     induction n with
     | zero=>exact .inl (wao _)
     | succ n ih=>rw [waj];rcases ih with z | z <;> rcases s1 with w | w <;> rw [z,w] <;> grind
    exact this _
   have ih2:=wac ih (show 0<=2*y by grind)
   have yp:y*(lead*y ^ l.length)=lead*y ^ (l.length+1):=by rw [waj];grind
   rw [waj s]
   generalize evQ (b::l) (s*(2*y))=E at *
   generalize s ^ l.length=σ at *
   generalize lead*y ^ (l.length+1)=Y at *
   generalize lead*γ ^ (l.length+1)=Z at *
   generalize lead*y ^ l.length=W at *
   have e3:σ*s*((a:Rat)+s*(2*y)*E)=σ*s*(a:Rat)+s*s*(2*y*(σ*E)):=by grind
   have ss:s*s=1:=by rcases s1 with w | w <;> rw [w] <;> grind
   rw [e3,ss]
   have:-Z<=σ*s*(a:Rat):=by rcases sp with z | z <;> rcases s1 with w | w <;> rw [z,w] <;> grind
   grind
theorem quA:([]:List V).length<=sizeLine:=wae _
theorem qtk {K:W.Frag} {tl:TE} {g:TG} {tb rest:TS} {D:Ends} {σ:L2.St} {H:Hp} (h:tl σ H (λx H1=>∃ a,x=.ref a/\(∃ xs,SqL K H1 a xs)/\ForL K a g tb { D with nx:=rest D } σ H1)):qaF (qep (qc4 K tl) g tb) rest D σ H:=h
theorem qoU (h:qdc K vs H Q E):qpV K { nx:=λ_ H'=>Q .non H',rt:=Q } (L2.start ["one","other"] vs) H:=by
 obtain ⟨p,q,a,b,c,d,rfl,hp,hq,ba,bb,bc,bd,k⟩:=h
 exact qpO ⟨_,rfl,_,_,_,_,rfl,rfl,hp,rfl,_,rfl,_,_,_,_,rfl,rfl,hq,rfl,_,_,rfl,rfl,qmy ba bd,_,rfl,_,_,_,_,rfl,rfl,hq,rfl,_,rfl,_,_,_,_,rfl,rfl,hp,rfl,_,_,rfl,rfl,qmy bc bb,_,_,rfl,rfl,k⟩
theorem qr3 {w lead:Int} {st E:Nat} (l0:0<lead) (s0:0<st) (h:-(((blN lead:Int) - (blN w:Int) - 1) / (st:Int))<=(E:Int) - 1):2 ^ st*w.natAbs<=lead.natAbs*2 ^ (st*E):=by
 have q:((blN lead:Int) - (blN w:Int) - 1) / (st:Int)*(st:Int)<=(blN lead:Int) - (blN w:Int) - 1:=Int.ediv_mul_le _ ⋯
 have q2:(1 - (E:Int))*(st:Int)<=((blN lead:Int) - (blN w:Int) - 1) / (st:Int)*(st:Int):=wcu ⋯ ⋯
 have q3:(blN w:Int)+(st:Int)<=(st:Int)*(E:Int)+(blN lead:Int) - 1:=by
  have:(1 - (E:Int))*(st:Int)=(st:Int) - (st:Int)*(E:Int):=by grind
  omega
 obtain ⟨h1,h2⟩:=qoR (show lead≠0 by omega)
 have q4:blN w+st<=st*E+(blN lead - 1):=by
  have:((st*E:Nat):Int)=(st:Int)*(E:Int):=by push_cast;rfl
  omega
 have e1:2 ^ st*w.natAbs<=2 ^ st*2 ^ blN w:=wa6 _ (wbr (qqV w))
 rw [<-wbn] at e1
 refine wa3 e1 (wa3 (wbm ∅ (show st+blN w<=(blN lead - 1)+st*E by omega)) ?_)
 rw [wbn]
 exact wbe _ h1
theorem qqb {w lead e:Int} {st:Nat} (l0:0<lead) (s0:0<st) (h:-(((blN lead:Int) - (blN w:Int) - 1) / (st:Int))<=e - 1):2 ^ st*w.natAbs*2 ^ (st*(-e).toNat)<=lead.natAbs*2 ^ (st*e.toNat):=by
 by_cases c:0<=e
 ·rw [show (-e).toNat=0 by omega,Nat.mul_zero,Nat.pow_zero,Nat.mul_one]
  exact qr3 l0 s0 ⋯
 ·obtain ⟨n,hn⟩:∃ n:Nat,e = -(n:Int):=⟨(-e).toNat,⋯⟩
  rw [show e.toNat=0 by omega,show (-e).toNat=n by omega,Nat.mul_zero,Nat.pow_zero,Nat.mul_one]
  have q:((blN lead:Int) - (blN w:Int) - 1) / (st:Int)*(st:Int)<=(blN lead:Int) - (blN w:Int) - 1:=Int.ediv_mul_le _ ⋯
  have q2:(1 - e)*(st:Int)<=((blN lead:Int) - (blN w:Int) - 1) / (st:Int)*(st:Int):=wcu ⋯ ⋯
  have q3:(1 - e)*(st:Int)=(st:Int)+((st*n:Nat):Int):=by rw [hn];push_cast;grind
  obtain ⟨h1,h2⟩:=qoR (show lead≠0 by omega)
  have q4:blN w+st+st*n<=blN lead - 1:=by omega
  have e1:2 ^ st*w.natAbs*2 ^ (st*n)<=2 ^ st*2 ^ blN w*2 ^ (st*n):=wbe _ (wa6 _ (wbr (qqV w)))
  rw [<-wbn,<-wbn] at e1
  exact wa3 e1 (wa3 (wbm ∅ ⋯) h1)
theorem qgu (h:qbE K vs H Q E):qha K { nx:=λ_ H'=>Q .non H',rt:=Q } (L2.start ["row","sizes","step","whole"] vs) H:=by
 obtain ⟨a,ns,rfl,ha,lz,l9,bn,l0,k⟩:=h
 have aL:atI (ns.map V.int) (-1)=some (V.int (lst' ns)):=qdl lz.1
 refine qck ⟨quA,λe he=>?_⟩
 have se:=qah he (.lst [])
 have hee:upd H e (.lst []) e=_:=qag
 have ha1:=se _ _ ha
 have ne:a≠e:=qan ha he
 generalize upd H e (.lst [])=H1 at se hee ha1 ⊢
 have ll:((ns.map V.int).length:Int)=(ns.length:Int):=by rw [waa]
 refine ⟨_,rfl,_,_,rfl,ha1,_,_,rfl,⟨⋯,⋯,⋯,⋯⟩,?_⟩
 refine ForR.by (λi σ H'=>∃ (zs:List Int) (u v:Option V),σ=[some (.ref a),some (.ref e),u,v]/\Same H H'/\H' a=some (.lst (ns.map V.int))/\H' e=some (.lst (zs.map V.int))/\i<=ns.length - 1/\zs.length<=i/\(∀ z∈zs,-160<=z/\z<=160)/\∀ st,1<=st->st<=i->co ns (ns.length - 1 - st)≠0->-(((blN (lst' ns):Int) - (blN (co ns (ns.length - 1 - st)):Int) - 1) / (st:Int))∈zs) ⟨[],none,none,rfl,se,ha1,hee,wae _,wad _,(λz h=>nomatch h),λst h1 h2=>by omega⟩ ?_ ?_
 ·rintro i σ H' hi ⟨zs,u,v,rfl,sH,ha4,he4,il,zl,z160,hin⟩
  rw [ll] at hi
  have hi':i+1<=ns.length - 1:=by omega
  have ei:(1:Int)+(i:Int)=((i+1:Nat):Int):=by omega
  rw [ei]
  have aT:atI (ns.map V.int) (((ns.map V.int).length:Int) - 1 - ((i+1:Nat):Int))=some (V.int (co ns (ns.length - 1 - (i+1)))):=qb7 (j:=ns.length - 1 - (i+1)) ⋯ (by rw [qrK];exact qaT _ ⋯)
  refine ⟨_,rfl,_,rfl,_,_,rfl,ha4,_,_,rfl,rfl,_,rfl,_,_,rfl,rfl,_,_,_,_,rfl,rfl,ha4,aT,?_⟩
  generalize hw:co ns (ns.length - 1 - (i+1))=w
  have bw:blN w<=148:=by rw [<-hw];exact qoS (qa8 bn _)
  have bl:blN (lst' ns)<=148:=qoS (qa8 bn _)
  refine ⟨_,rfl,rfl,_,rfl,qbr (λc=>?_) (λc=>?_)⟩
  ·have c:¬ w=0:=by simpa using c
   refine ⟨_,rfl,qdS he4,_,rfl,_,rfl,_,_,_,_,rfl,rfl,ha4,aL,rfl,_,rfl,rfl,_,rfl,rfl,_,rfl,rfl,_,_,rfl,rfl,_,_,rfl,rfl,_,rfl,_,_,rfl,rfl,by unfold qtF;omega,_,rfl,_,_,_,rfl,rfl,he4,sz (by rw [waa];omega),?_⟩
   refine ⟨zs++[-(((blN (lst' ns):Int) - (blN w:Int) - 1) / ((i+1:Nat):Int))],_,_,rfl,λx o hx=>Kp.upd x o (qan hx he) (sH x o hx),(qaA ne).trans ha4,by rw [wb6];exact qag,hi',by rw [wa9];exact Nat.succ_le_succ zl,λz hz=>?_,λst h1 h2 h3=>?_⟩
   ·rcases wbk.mp hz with q | q
    ·exact z160 z q
    ·rw [war.mp q]
     have:-(150:Int)<=((blN (lst' ns):Int) - (blN w:Int) - 1) / ((i+1:Nat):Int):=(Int.le_ediv_iff_mul_le ⋯).mpr (by
      have:-(150:Int)*((i+1:Nat):Int)<=-(150:Int)*1:=by omega
      omega)
     have:((blN (lst' ns):Int) - (blN w:Int) - 1) / ((i+1:Nat):Int)<=150:=Int.ediv_le_of_le_mul ⋯ (by
      have:(150:Int)*1<=(150:Int)*((i+1:Nat):Int):=by omega
      omega)
     omega
   ·rcases wap st (i+1) with q | q
    ·exact wcq _ (hin st h1 ⋯ h3)
    ·have:st=i+1:=by omega
     subst this
     rw [hw]
     exact wbf _ (List.mem_singleton_self _)
  ·have c:w=0:=by simpa using c
   refine ⟨zs,_,_,rfl,sH,ha4,he4,hi',⋯,z160,λst h1 h2 h3=>?_⟩
   rcases wap st (i+1) with q | q
   ·exact hin st h1 ⋯ h3
   ·have:st=i+1:=by omega
    subst this
    exact absurd (hw.trans c) h3
 ·rintro σ H' ⟨zs,u,v,rfl,sH,ha4,he4,il,zl,z160,hin⟩
  have ei:((((ns.map V.int).length:Int)) - 1).toNat=ns.length - 1:=by omega
  rw [ei] at hin
  refine ⟨_,rfl,e,zs,rfl,he4,λM hM=>⟨_,_,rfl,rfl,?_⟩⟩
  refine k (1+M) H' sH ?_ ?_ λi hi=>?_
  ·rcases hM with ⟨_,z⟩ | ⟨z,_⟩
   ·omega
   ·have:=z160 M z;omega
  ·rcases hM with ⟨_,z⟩ | ⟨z,_⟩
   ·omega
   ·have:=z160 M z;omega
  ·by_cases w0:co ns i=0
   ·rw [w0];show 2 ^ _*0*_<=_;rw [Nat.mul_zero,Nat.zero_mul];exact wae _
   ·have hm:=hin (ns.length - 1 - i) ⋯ ⋯ (by rw [show ns.length - 1 - (ns.length - 1 - i)=i by omega];exact w0)
    rw [show ns.length - 1 - (ns.length - 1 - i)=i by omega] at hm
    have hle:-(((blN (lst' ns):Int) - (blN (co ns i):Int) - 1) / ((ns.length - 1 - i:Nat):Int))<=M:=by
     rcases hM with ⟨z,_⟩ | ⟨_,z⟩
     ·rw [z] at hm;cases hm
     ·exact z _ hm
    exact qqb l0 ⋯ (Int.le_trans hle ⋯)
theorem qk3 {R:Nat->Int} {n:Nat} {x:Rat}:evF (toQ R) n x n=evQ ((List.range n).map R) x:=by
 have key:∀ d,d<=n->evF (toQ R) n x d=evQ (((List.range n).map R).drop (n - d)) x:=λd=>by
  induction d with
  | zero=>
    intro _
    rw [Nat.sub_zero,List.drop_eq_nil_of_le (by rw [waa,waw];exact wad _)];rfl
  | succ d ih=>
    intro hd
    show toQ R (n - 1 - d)+x*evF (toQ R) n x d=_
    rw [ih ⋯]
    have l:n - (d+1)<((List.range n).map R).length:=by rw [waa,waw];omega
    rw [List.drop_eq_getElem_cons l,show n - (d+1)+1=n - d by omega]
    show _=(((List.range n).map R)[n - (d+1)]:Rat)+x*_
    rw [List.getElem_map,List.getElem_range,show n - (d+1)=n - 1 - d by omega];rfl
 rw [key n (wad _),Nat.sub_self,List.drop_zero]
theorem qj8 (h:qbu K vs H Q E):qhb K { nx:=λ_ H'=>Q .non H',rt:=Q } (L2.start ["row","whole","result","first","place"] vs) H:=by
 obtain ⟨p,ns,c,b,rfl,hp,n20,ok,k⟩:=h
 unfold qhb
 rwa [hp]
 intro w hw
 rw [qj1]
 have sw:=qah hw (.lst (qbB ns.length λk=>ns.getD k 0))
 have hp1:=sw _ _ hp
 rwa [hp1]
 rw [waa]
 refine ⟨⋯,⋯,ForR.by (λi σ H'=>∃ x3 x4:Option V,σ=[some (.ref p),some (.int c),some (.ref w),x3,x4]/\Same H H'/\H' w=some (.lst (qbB ns.length (rnds c (λk=>ns.getD k 0) ns.length i)))) ⟨none,none,rfl,sw,qag⟩ ?_ ?_⟩
 ·rintro i σ H1 hi ⟨x3,x4,rfl,s1,hw1⟩
  have hp2:=s1 _ _ hp
  rwa [hp2]
  rw [waa]
  refine ⟨⋯,⋯,⋯,⋯,?_⟩
  have en:((ns.length:Int) - 2 - (0+(i:Int) - 1)).toNat=ns.length - 1 - i:=by omega
  rw [en]
  refine ForJ.down (λj σ H'=>∃ x4:Option V,σ=[some (.ref p),some (.int c),some (.ref w),some (.int (0+(i:Int))),x4]/\Same H H'/\H' w=some (.lst (qbB ns.length λq=>if q+j+1<ns.length then rnds c (λk=>ns.getD k 0) ns.length i q else sy c (rnds c (λk=>ns.getD k 0) ns.length i) ns.length (ns.length - 1 - q)))) ⟨_,rfl,s1,?_⟩ ?_ ?_
  ·rw [hw1]
   refine congrArg (λl=>some (HO.lst l)) (qbf λq hq=>?_)
   by_cases h:q+0+1<ns.length
   ·rw [if_pos h]
   ·rw [if_neg h,show ns.length - 1 - q=0 by omega,show q=ns.length - 1 by omega]
    rfl
  ·rintro j σ H2 hj ⟨y,rfl,s2,hw2⟩
   have e1:((ns.length:Int) - 2 - (j:Int))=((ns.length - 2 - j:Nat):Int):=by omega
   rw [e1]
   have bS:∀ q,IntMulOk c (sy c (rnds c (λk=>ns.getD k 0) ns.length i) ns.length (ns.length - 1 - q)):=λq=>by
    rcases ok with bc | ⟨bn,b2,bc⟩
    ·have bc:c.natAbs<1152921504606846976:=bc
     exact qs9 ⋯ ⋯
    ·have bR:∀ i j,Bd (b+1001*20*i) (rnds c (λk=>ns.getD k 0) ns.length i j):=qje bc (λj=>qiL bn j) ⋯
     exact qjX bc ((qrZ (n:=ns.length) bc (bR i) (ns.length - 1 - q)).mono (show _<=60000000 by omega))
   generalize rnds c (λk=>ns.getD k 0) ns.length i=R at hw2 bS ⊢
   have g1:atI (qbB ns.length λq=>if q+j+1<ns.length then R q else sy c R ns.length (ns.length - 1 - q)) ((ns.length - 2 - j:Nat):Int)=some (V.int (R (ns.length - 2 - j))):=by
    rw [qfE (qaT _ ⋯),if_pos ⋯]
   have g2:atI (qbB ns.length λq=>if q+j+1<ns.length then R q else sy c R ns.length (ns.length - 1 - q)) (((ns.length - 2 - j:Nat):Int)+1)=some (V.int (sy c R ns.length (ns.length - 1 - (ns.length - 2 - j+1)))):=by
    rw [qb7 (j:=ns.length - 2 - j+1) ⋯ (qaT _ ⋯),if_neg ⋯]
   rwa [hw2,g1,g2]
   refine ⟨bS _,ns.length - 2 - j,?_,λb o h=>Kp.upd b o (qan h hw) (s2 b o h),?_⟩
   ·rw [qa7];exact qex rfl ⋯
   ·refine qcn ⋯ ?_ λq hq hne=>?_
    ·rw [if_neg ⋯]
     exact qr0 ⋯
    ·by_cases h:q+j+1<ns.length
     ·rw [if_pos h,if_pos ⋯]
     ·rw [if_neg h,if_neg ⋯]
  ·rintro σ H2 ⟨y,rfl,s2,hw2⟩
   refine ⟨_,_,rfl,s2,?_⟩
   rw [hw2]
   refine congrArg (λl=>some (HO.lst l)) (qbf λq hq=>?_)
   show rnd c (rnds c (λk=>ns.getD k 0) ns.length i) ns.length i q=_
   unfold rnd
   by_cases h:q<i
   ·rw [if_pos h,if_pos ⋯]
   ·rw [if_neg h,if_neg ⋯]
 ·rintro σ H1 ⟨x3,x4,rfl,s1,hw1⟩
  rwa []
  have en:((ns.length:Int) - 1).toNat=ns.length - 1:=by omega
  rw [en] at hw1
  refine k w ((List.range ns.length).map (rnds c (λk=>ns.getD k 0) ns.length (ns.length - 1))) H1 s1 hw hw1 (by rw [waa,waw]) (λy=>?_) λb' hb hc z hz=>?_
  rotate_left
  ·obtain ⟨j,hj,rfl⟩:=wax.mp hz
   refine (qje (m:=ns.length) hc (λj=>qiL hb j) (wad _) (ns.length - 1) j).mono ?_
   exact Nat.add_le_add_left (wa6 _ (Nat.sub_le _ _)) _
  rcases wbt ns.length with z | z
  ·have:ns=[]:=wbd.mp z
   subst this;rfl
  ·have h:=qrD (c:=c) (R:=λk=>ns.getD k 0) (n:=ns.length) (y:=y) z
   rw [qk3,qk3] at h
   have e:(List.range ns.length).map (λk=>ns.getD k 0)=ns:=by
    refine wcg λi=>?_
    rw [waf]
    rcases wap i ns.length with q | q
    ·rw [wb2 q,wag q]
     show some (ns.getD i 0)=_
     rw [wab,wag q];rfl
    ·rw [wat (by rw [waw];exact q),wat q];rfl
   rw [e] at h
   exact h
theorem qqc (z:Int) (l:List Int) (b:Int):sgc (z::l) b=if z≠0 then (if b*z<0 then 1 else 0)+sgc l (if z > 0 then 1 else -1) else sgc l b:=by rw [sgc]
theorem qho (h:qbO K vs H Q E):qhO K { nx:=λ_ H'=>Q .non H',rt:=Q } (L2.start ["row","many","before_it","whole"] vs) H:=by
 obtain ⟨p,ns,rfl,hp,ln,k⟩:=h
 refine qck ?_
 show qdJ K _ _ _
 refine qck ?_
 show qdI K _ [some (.ref p),some (.int 0),some (.int 0),none] _
 refine qtk ⟨_,rfl,p,rfl,⟨_,SqL.of hp⟩,ForL.by (xs:=ns.map V.int) (λi σ H'=>∃ (m:Nat) (b:Int) (o:Option V),σ=[some (.ref p),some (.int (m:Int)),some (.int b),o]/\H'=H/\(b=0\/b=1\/b = -1)/\m+sgc (ns.drop i) b=sgc ns 0) ⟨0,0,none,rfl,rfl,.inl rfl,by rw [List.drop_zero];omega⟩ ?_ ?_ ?_⟩
 ·rintro i σ H' _ ⟨m,b,o,rfl,rfl,_⟩
  exact SqL.of hp
 ·rintro i x σ H' hx ⟨m,b,o,rfl,rfl,hb,e⟩
  have il:i<ns.length:=by have:=(waq.mp hx).1;rw [waa] at this;exact this
  rw [waf,wag il] at hx
  obtain rfl:=Option.some.inj hx
  rw [List.drop_eq_getElem_cons il] at e
  generalize ns[i]=z at e
  rw [qqc] at e
  refine quT ?_
  refine ⟨_,rfl,rfl,_,rfl,qbr (λc=>?_) (λc=>?_)⟩
  ·have c:z≠0:=λw=>by
    have c:(!decide (V.int z=V.int 0))=true:=c
    rw [w] at c;simp at c
   rw [if_pos c] at e
   show qcJ K _ [some (.ref p),some (.int (m:Int)),some (.int b),some (.int z)] _
   have fin:∀ {m':Nat} {D:Ends},(D.nx=λσ H''=>∃ (m:Nat) (b:Int) (o:Option V),σ=[some (.ref p),some (.int (m:Int)),some (.int b),o]/\H''=H'/\(b=0\/b=1\/b = -1)/\m+sgc (ns.drop (i+1)) b=sgc ns 0)->m'+sgc (ns.drop (i+1)) (if z > 0 then 1 else -1)=sgc ns 0->qcI K D [some (.ref p),some (.int (m':Int)),some (.int b),some (.int z)] H':=λ{m' D} hD hm=>by
    refine qs0 (show qaP _ _ _ _ from ⟨_,rfl,_,_,rfl,rfl,_,rfl,qbr (λd=>?_) (λd=>?_)⟩)
    ·have d:0<z:=of_decide_eq_true d
     rw [if_pos d] at hm
     show D.nx _ _
     rw [hD]
     exact ⟨m',1,_,rfl,rfl,.inr (.inl rfl),hm⟩
    ·have d:¬ 0<z:=λw=>d (decide_eq_true w)
     rw [if_neg d] at hm
     refine ⟨1,rfl,?_⟩
     rw [hD]
     exact ⟨m',-1,_,rfl,rfl,.inr (.inr rfl),hm⟩
   refine qqF ⟨_,rfl,_,rfl,_,_,rfl,rfl,qs9 ⋯ ⋯,_,_,rfl,rfl,_,rfl,qbr (λd=>?_) (λd=>?_)⟩
   ·have d:b*z<0:=of_decide_eq_true d
    rw [if_pos d] at e
    refine ⟨_,rfl,_,_,rfl,rfl,?_⟩
    exact fin (m':=m+1) rfl ⋯
   ·have d:¬ b*z<0:=λw=>d (decide_eq_true w)
    rw [if_neg d] at e
    exact fin (m':=m) rfl ⋯
  ·have c:z=0:=by
    refine Classical.byContradiction λw=>c ?_
    show (!decide (V.int z=V.int 0))=true
    simp [w]
   rw [if_neg ⋯] at e
   exact ⟨m,b,_,rfl,rfl,hb,e⟩
 ·rintro σ H' ⟨m,b,o,rfl,rfl,_,e⟩
  rw [waa,List.drop_length] at e
  have e:m+0=sgc ns 0:=e
  show qdH K _ _ _
  refine ⟨_,rfl,?_⟩
  rw [show m=sgc ns 0 by omega]
  exact k
noncomputable def Al {α:Type} (R:V->α->Prop):List V->List α->Prop
 | [],[]=>True
 | u::us,x::xs=>R u x/\Al R us xs
 | _,_=>False
theorem Al.ind {α:Type} {R:V->α->Prop} {M:List V->List α->Prop} (h0:M [] []) (h1:∀ u x us xs,R u x->Al R us xs->M us xs->M (u::us) (x::xs)):∀ {us:List V} {xs:List α},Al R us xs->M us xs:=by
 intro us
 induction us with
 | nil=>intro xs a;cases xs with
   | nil=>exact h0
   | cons _ _=>exact a.elim
 | cons u us ih=>intro xs a;cases xs with
   | nil=>exact a.elim
   | cons x xs=>exact h1 u x us xs a.1 a.2 (ih a.2)
theorem Al.mono {α:Type} {R R':V->α->Prop} (h:∀ u x,R u x->R' u x) {us:List V} {xs:List α} (a:Al R us xs):Al R' us xs:=
 Al.ind (M:=λus xs=>Al R' us xs) trivial (λu x _ _ r _ ih=>⟨h u x r,ih⟩) a
theorem Al.length {α:Type} {R:V->α->Prop} {us:List V} {xs:List α} (a:Al R us xs):us.length=xs.length:=
 Al.ind (M:=λ(us:List V) (xs:List α)=>us.length=xs.length) rfl (λ_ _ us xs _ _ (ih:us.length=xs.length)=>show us.length+1=xs.length+1 by rw [ih]) a
theorem Al.get {α:Type} {R:V->α->Prop} {us:List V} {xs:List α} (a:Al R us xs):∀ {i:Nat} {u:V},us[i]?=some u->∃ x,xs[i]?=some x/\R u x:=
 Al.ind (M:=λus xs=>∀ {i:Nat} {u:V},us[i]?=some u->∃ x,xs[i]?=some x/\R u x) (λe=>by cases e) (λv x _ _ r _ ih=>λ{i u} e=>by
  cases i with
  | zero=>cases e;exact ⟨x,rfl,r⟩
  | succ i=>exact ih e) a
theorem Al.append {α:Type} {R:V->α->Prop} {us:List V} {xs:List α} {vs:List V} {ys:List α} (a:Al R us xs) (b:Al R vs ys):Al R (us++vs) (xs++ys):=
 Al.ind (M:=λus xs=>Al R (us++vs) (xs++ys)) (by exact b) (λu x us xs r _ ih=>show Al R (u::(us++vs)) (x::(xs++ys)) from ⟨r,ih⟩) a
theorem Al.take {α:Type} {R:V->α->Prop} {us:List V} {xs:List α} (a:Al R us xs):∀ j:Nat,Al R (us.take j) (xs.take j):=
 Al.ind (M:=λus xs=>∀ j:Nat,Al R (us.take j) (xs.take j)) (λj=>by rw [List.take_nil,List.take_nil];trivial) (λ_ _ _ _ r t ih j=>by
  cases j with
  | zero=>trivial
  | succ j=>exact ⟨r,ih j⟩) a
theorem Al.dropLast {α:Type} {R:V->α->Prop} {us:List V} {xs:List α} (a:Al R us xs):Al R us.dropLast xs.dropLast:=by
 rw [List.dropLast_eq_take,List.dropLast_eq_take,a.length]
 exact a.take _
theorem Al.snoc {α:Type} {R:V->α->Prop} {us:List V} {xs:List α} {u:V} {x:α} (a:Al R us xs) (h:R u x):Al R (us++[u]) (xs++[x]):=a.append ⟨h,trivial⟩
theorem CompJ.enumL {K:W.Frag} {capt:List (Option Nat)} {g:TG} {te:TE} {σ:L2.St} {H:Hp} {Q:VK} {a:Addr} {xs:List V} (W:Nat->List V->Hp->Prop) (h0:W 0 [] H) (hb:∀ i ys H,W i ys H->i<=xs.length/\ys.length<=sizeLine/\SqL K H a xs)
  (hs:∀ i x p ys H,xs[i]?=some x->W i ys H->H p=none->g (.ref p) (qcO capt σ) (upd H p (.tup [.int i,x])) λσ2 H2=>te σ2 H2 λy H3=>W (i+1) (ys++[y]) H3) (hd:∀ ys H,W xs.length ys H->∀ p,H p=none->Q (.ref p) (upd H p (.lst ys))):CompJ (qrh K a) capt g te σ Q H:=by
 refine ⟨xs.length,W,h0,λi ys H w=>⟨(hb i ys H w).1,(hb i ys H w).2.1,?_⟩⟩
 have q:SqL K H a xs:=(hb i ys H w).2.2
 by_cases h:i<xs.length
 ·refine .inr ⟨h,⟨xs,xs[i],q,by simp [h]⟩,λx H' y=>?_⟩
  obtain ⟨p,x',hp,rfl,rfl,y⟩:=y
  exact hs i x' p ys _ (y xs q) w hp
 ·have e:i=xs.length:=Nat.le_antisymm (hb i ys H w).1 (wbu.mp h)
  subst e
  exact .inl ⟨⟨xs,q,wad _⟩,hd ys H w⟩
theorem qoV {α:Type} {l:List α} {x:α} (h:l[l.length - 1]?=some x):l=l.dropLast++[x]:=by
 have ne:l≠[]:=λz=>by rw [z] at h;cases h
 have e:=wct ne
 have:l.getLast ne=x:=by
  rw [List.getLast_eq_getElem]
  exact (waq.mp h).2
 rw [this] at e
 exact e.symm
theorem qqd {K:W.Frag} {ta:TE} {capt:List (Option Nat)} {g:TG} {te:TE} {σ:L2.St} {H:Hp} {Q:VK} (h:ta σ H λx H1=>∃ a,[x]=[V.ref a]/\(∃ xs,SqL K H1 a xs)/\CompJ (qrh K a) capt g te σ Q H1):qbU (qf3 K (qad ta qar)) capt g te σ H Q:=h
noncomputable def hl:List Int->List Int
 | []=>[]
 | a::l=>a*(2:Int) ^ l.length::hl l
theorem qj9:∀ l:List Int,(hl l).length=l.length
 | []=>rfl
 | a::l=>by show (hl l).length+1=l.length+1;rw [qj9 l]
theorem qtl (y:Rat):∀ l:List Int,evQ (hl l) y*2=((2 ^ l.length:Nat):Rat)*evQ l (y / 2)
 | []=>by show (0:Rat)*2=_*0;grind
 | a::l=>by
   have ih:=qtl y l
   show (((a*(2:Int) ^ l.length:Int):Rat)+y*evQ (hl l) y)*2=((2 ^ (l.length+1):Nat):Rat)*((a:Rat)+y / 2*evQ l (y / 2))
   have e:((2 ^ (l.length+1):Nat):Rat)=2*((2 ^ l.length:Nat):Rat):=by rw [wa1];push_cast;grind
   have e2:((a*(2:Int) ^ l.length:Int):Rat)=(a:Rat)*((2 ^ l.length:Nat):Rat):=by push_cast;rfl
   rw [e,e2]
   generalize ((2 ^ l.length:Nat):Rat)=P at *
   grind
theorem qoW:∀ (l:List Int) {i:Nat} (h:i<l.length),(hl l)[i]?=some (l[i]*(2:Int) ^ (l.length - 1 - i))
 | a::l,0,h=>by show some (a*(2:Int) ^ l.length)=_;rfl
 | a::l,i+1,h=>by
   have h':i<l.length:=by simpa using h
   show (hl l)[i]?=some (l[i]*(2:Int) ^ (l.length+1 - 1 - (i+1)))
   rw [qoW l h',show l.length+1 - 1 - (i+1)=l.length - 1 - i by omega]
theorem qoX (h:qe5 K vs H Q E):qpW K { nx:=λ_ H'=>Q .non H',rt:=Q } (L2.start ["row","last"] vs) H:=by
 obtain ⟨p,ns,b,rfl,hp,n20,bn,b8,k⟩:=h
 refine qck ⟨_,rfl,p,_,rfl,hp,_,_,rfl,rfl,?_⟩
 rw [waa]
 refine qpO (qqd ⟨_,rfl,p,rfl,⟨_,SqL.of hp⟩,CompJ.enumL (xs:=ns.map V.int) (λi ys H'=>i<=ns.length/\Same H H'/\ys=((hl ns).take i).map V.int) ⟨wae _,Same.refl H,by rw [List.take_zero];rfl⟩ ?_ ?_ ?_⟩)
 ·rintro i ys H' ⟨hi,s1,rfl⟩
  exact ⟨by rw [waa];exact hi,sz (by rw [waa,wa5,qj9];omega),SqL.of (s1 _ _ hp)⟩
 ·rintro i x q ys H' hx ⟨hi,s1,rfl⟩ hq
  have il:i<ns.length:=by have:=(waq.mp hx).1;rw [waa] at this;exact this
  have hg:=qoW ns il
  rw [waf,wag il] at hx
  obtain rfl:=Option.some.inj hx
  have bz:=bn ns[i] (wbo il)
  generalize ns[i]=z at hg bz ⊢
  have sq:=qah hq (.tup [.int (i:Int),.int z])
  refine ⟨q,_,rfl,qag,rfl,_,_,rfl,_,_,rfl,rfl,?_⟩
  have bl:=qoS bz
  have ej:((ns.length:Int) - 1 - (i:Int)).toNat=ns.length - 1 - i:=by omega
  refine ⟨_,rfl,_,rfl,_,rfl,_,_,rfl,rfl,_,_,rfl,rfl,⟨⋯,⋯⟩,il,s1.trans sq,?_⟩
  rw [wbz,hg,wb6]
  show _++[V.int (z*2 ^ ((ns.length:Int) - 1 - (i:Int)).toNat)]=_
  rw [ej];rfl
 ·rintro ys H' ⟨_,s1,rfl⟩ r hr
  have et:(hl ns).take (ns.map V.int).length=hl ns:=by rw [waa,<-qj9 ns,wbv]
  rw [et] at *
  have rN:H r=none:=by
   cases e:H r with
   | none=>rfl
   | some o=>have:=s1 _ _ e;rw [hr] at this;cases this
  refine k r (hl ns) _ (s1.trans (qah hr _)) rN qag (qj9 ns) (λz hz=>?_) λy=>?_
  ·obtain ⟨i,hi,rfl⟩:=wcs hz
   have il:i<ns.length:=by rw [<-qj9 ns];exact hi
   have hg:=qoW ns il
   rw [wag hi] at hg
   rw [Option.some.inj hg]
   have b2:Bd 20 ((2:Int) ^ (ns.length - 1 - i)):=by
    show ((2:Int) ^ (ns.length - 1 - i)).natAbs<2 ^ 20
    rw [Int.natAbs_pow]
    exact Nat.pow_lt_pow_right ∅ ⋯
   exact (bn ns[i] (wbo il)).mul b2
  ·have h:=qtl y ns
   cases ns with
   | nil=>show (0:Rat)=_*0;grind
   | cons a l=>
     have e:((2 ^ (a::l).length:Nat):Rat)=2*((2 ^ ((a::l).length - 1):Nat):Rat):=by
      rw [show (a::l).length=((a::l).length - 1)+1 by simp,wa1];push_cast;simp;grind
     rw [e] at h
     grind
noncomputable def hv (d:Nat):Rat:=((2 ^ d:Nat):Rat)⁻¹
theorem qim (d:Nat):hv d*((2 ^ d:Nat):Rat)=1:=by
 have p:(0:Rat)<((2 ^ d:Nat):Rat):=by exact_mod_cast wav ∅
 unfold hv
 rw [Rat.mul_comm];exact wbb _ (by grind)
theorem ql5 (d:Nat):0<hv d:=by
 have p:(0:Rat)<((2 ^ d:Nat):Rat):=by exact_mod_cast wav ∅
 exact Rat.inv_pos.mpr p
theorem qr4 (d:Nat):hv (d+1)=hv d / 2:=by
 have h1:=qim (d+1)
 have h2:=qim d
 have e:((2 ^ (d+1):Nat):Rat)=2*((2 ^ d:Nat):Rat):=by rw [wa1];push_cast;grind
 have p:(0:Rat)<((2 ^ d:Nat):Rat):=by exact_mod_cast wav ∅
 rw [e] at h1
 generalize ((2 ^ d:Nat):Rat)=P at *
 have:(hv (d+1) - hv d / 2)*P=0:=by grind
 rcases wa2.mp this with c | c <;> grind
theorem qtm (d:Nat):hv d<=1:=by
 have h:=qim d
 have p:(1:Rat)<=((2 ^ d:Nat):Rat):=by exact_mod_cast Nat.one_le_two_pow
 have:=wac p (show 0<=hv d by have:=ql5 d;grind)
 grind
noncomputable def Pt (Q:List Int) (b D:Nat) (w:Addr) (H:Hp) (v:V) (t:Rat×Nat):Prop:=∃ (a:Addr) (ps:List Int) (M:Rat),v=.ref a/\H a=some (.lst (ps.map V.int))/\a≠w/\ps.length=Q.length/\(∀ z∈ps,Bd (b+60*t.2) z)/\0<M/\0<=t.1/\t.1+hv t.2<=1/\t.2<=D/\∀ x,evQ ps x=M*evQ Q (t.1+hv t.2*x)
theorem Pt.kp {Q:List Int} {b D:Nat} {w:Addr} {H H':Hp} {v:V} {t:Rat×Nat} (k:Kp w H H') (h:Pt Q b D w H v t):Pt Q b D w H' v t:=by
 obtain ⟨a,ps,M,rfl,h1,h2,h3⟩:=h
 exact ⟨a,ps,M,rfl,k _ _ h2 h1,h2,h3⟩
noncomputable def SNf (Q:List Int):List (Rat×Nat)->Nat
 | []=>0
 | t::ts=>Nf (evQ Q) t.1 (t.1+hv t.2)+SNf Q ts
theorem qk4 (Q:List Int) (ts us:List (Rat×Nat)):SNf Q (ts++us)=SNf Q ts+SNf Q us:=by
 induction ts with
 | nil=>show SNf Q us=0+SNf Q us;omega
 | cons t ts ih=>show _+SNf Q (ts++us)=(_+SNf Q ts)+_;rw [ih];omega
noncomputable def msr (D:Nat):List (Rat×Nat)->Nat
 | []=>0
 | t::ts=>3 ^ (D+1 - t.2)+msr D ts
theorem qk5 (D:Nat) (ts us:List (Rat×Nat)):msr D (ts++us)=msr D ts+msr D us:=by
 induction ts with
 | nil=>show msr D us=0+msr D us;omega
 | cons t ts ih=>show _+msr D (ts++us)=(_+msr D ts)+_;rw [ih];omega
theorem leaf0' {Q T:List Int} (nz:∃ x,0<x/\x<1/\evQ Q x≠0) (hT:∀ y,evQ T y=evQ Q.reverse (y+1)) (h:sgc T 0=0):IsN (evQ Q) 0 1 0:=by
 obtain ⟨x,x0,x1,hx⟩:=nz
 obtain ⟨s,s1,hs⟩:∃ s:Int,(s=1\/s = -1)/\∀ z∈T,0<=s*z:=by
  rcases qlN T h with q | q
  ·exact ⟨1,.inl rfl,λz hz=>by have:=q z hz;omega⟩
  ·exact ⟨-1,.inr rfl,λz hz=>by have:=q z hz;omega⟩
 have key:∀ x,0<x->x<1->0<=(s:Rat)*evQ Q x:=λx h0 h1=>by
  obtain ⟨y,y0,xy⟩:=qtJ h0 h1
  obtain ⟨c,c0,e⟩:=qoj hT h0 xy
  have:=wah (show 0<=c by grind) (qg7 (s:=s) (show 0<=y by grind) hs)
  rw [e];grind
 refine ⟨⟨x,x0,x1,hx⟩,?_⟩
 rintro ⟨u,u0,u1,v,uv,h3,v1,_⟩
 have k1:=key u u0 u1
 have k2:=key v (by grind) v1
 have sr:(s:Rat)=1\/(s:Rat) = -1:=by rcases s1 with rfl | rfl;·exact .inl rfl
                                     ·exact .inr rfl
 rcases mul_neg_iff'.mp h3 with ⟨a,b⟩ | ⟨a,b⟩ <;> rcases sr with e | e <;> rw [e] at k1 k2 <;> grind
theorem qul {ns rs:List Int} {B:Nat} (l9:ns.length<=9) (hl':rs.length=ns.length) (h:∀ y,evQ rs y=evQ ns (y+1)) (hb:∀ z∈ns,Bd B z):∀ z∈rs,Bd (B+10) z:=λz hz=>by
 obtain ⟨i,hi,rfl⟩:=wcs hz
 have c:=qpU (P:=rs) (Q:=ns) (M:=1) (u:=1) (w:=1) hl' (λx=>by rw [h];have:(1:Rat)+1*x=x+1:=by grind
                                                              rw [this];grind) (i:=i) ⋯
 rw [wab,wag hi] at c
 have c:((rs[i]:Int):Rat)=1*tq 1 1 ns i:=c
 obtain ⟨b1,b2⟩:=qon (u:=1) (w:=1) ∅ ∅ ∅ ns i
 have pw:∀ n:Nat,(1:Rat) ^ n=1:=λn=>by
  induction n with
  | zero=>rfl
  | succ n ih=>rw [waj,ih];grind
 rw [pw] at b1 b2
 have a:=qqN (z:=rs[i]) (B:=((gm ns i:Nat):Rat)) (by grind) (by grind)
 have a:rs[i].natAbs<=gm ns i:=by exact_mod_cast a
 have g1:gm ns i<=gs ns (i+1):=by show _<=gs ns i+gm ns i;omega
 have g2:=qrC (i+1) ns (B:=2 ^ B) λz hz=>wbr (hb z hz)
 have p9:2 ^ ns.length<=2 ^ 9:=wbm ∅ l9
 have:2 ^ B*2 ^ ns.length<=2 ^ B*2 ^ 9:=wa6 _ p9
 have e:2 ^ (B+10)=2 ^ B*2 ^ 9+2 ^ B*2 ^ 9:=by rw [wbn];omega
 have pB:0<2 ^ B:=wav ∅
 show rs[i].natAbs<2 ^ (B+10)
 omega
theorem qhp (h:qbP K vs H Q E):qhN K { nx:=λ_ H'=>Q .non H',rt:=Q } (L2.start ["row","many","waiting","part","changes","lower","upper"] vs) H:=by
 obtain ⟨p,ns,U,W,D,b,rfl,hp,n9,bn,bD,sk,k⟩:=h
 obtain ⟨HH,H0,hU,hW,hH⟩:=sk.H
 refine qck ?_
 show qdG K _ [some (.ref p),some (.int 0),none,none,none,none,none] _
 refine qck (qsY ⟨_,rfl,qn8,λw hw=>?_⟩)
 have s1:=qah hw (.lst [.ref p])
 have hww:upd H w (.lst [.ref p]) w=_:=qag
 have pw:p≠w:=qan hp hw
 show qdF K _ [some (.ref p),some (.int 0),some (.ref w),none,none,none,none] _
 have P0:Pt ns b D w (upd H w (.lst [.ref p])) (.ref p) (0,0):=⟨p,ns,1,rfl,s1 _ _ hp,pw,rfl,λz hz=>(bn z hz).mono ⋯,∅,∅,by have:=qtm 0;show (0:Rat)+hv 0<=1;grind,wae _,λx=>by
  have:hv 0=1:=by have:=qim 0;rw [show ((2 ^ 0:Nat):Rat)=1 from rfl] at this;grind
  show evQ ns x=1*evQ ns (0+hv 0*x)
  rw [this,show (0:Rat)+1*x=x by grind];grind⟩
 have N0:SNf ns [(0,0)]=Nf (evQ ns) 0 1:=by
  have:hv 0=1:=by have:=qim 0;rw [show ((2 ^ 0:Nat):Rat)=1 from rfl] at this;grind
  show Nf (evQ ns) 0 (0+hv 0)+0=_
  rw [this,show (0:Rat)+1=1 by grind];omega
 generalize upd H w (.lst [.ref p])=H1 at s1 hww P0 ⊢
 refine qb3 (λm σ H'=>∃ (mn:Nat) (us:List V) (ts:List (Rat×Nat)) (o3 o4 o5 o6:Option V),σ=[some (.ref p),some (.int (mn:Int)),some (.ref w),o3,o4,o5,o6]/\Same H H'/\H' w=some (.lst us)/\Al (Pt ns b D w H') us ts/\mn+SNf ns ts=Nf (evQ ns) 0 1/\(∀ (i:Nat) (t:Rat×Nat),ts[i]?=some t->i<=t.2)/\m=msr D ts) _ ⟨0,[.ref p],[(0,0)],none,none,none,none,rfl,s1,hww,⟨P0,trivial⟩,by rw [N0];omega,λi t ht=>by
  have:i<1:=(waq.mp ht).1
  omega,rfl⟩ ?_
 rintro m σ H2 ⟨mn,us,ts,o3,o4,o5,o6,rfl,s2,h2w,al,sum,dep,rfl⟩
 refine ⟨_,rfl,w,us,rfl,h2w,qbr (λc=>?_) (λc=>?_)⟩
 ·have tl:=al.length
  have ne:0<us.length:=by
   cases us with
   | nil=>cases c
   | cons _ _=>exact Nat.succ_pos _
  have hu:us[us.length - 1]?=some (us[us.length - 1]'⋯):=wag ⋯
  generalize us[us.length - 1]'⋯=u at hu
  obtain ⟨t,ht,pu⟩:=al.get hu
  rw [tl] at ht
  have ets:=qoV ht
  have dt:=dep _ t ht
  refine ⟨_,λ_ _ h=>h,?_⟩
  show qcH K _ _ _
  refine qck ⟨_,rfl,qdS h2w,w,us,u,rfl,rfl,h2w,hu,?_⟩
  have k1:Kp w H2 (upd H2 w (.lst us.dropLast)):=λc o n e=>(qaA n).trans e
  have h3w:upd H2 w (.lst us.dropLast) w=_:=qag
  have s3:Same H (upd H2 w (.lst us.dropLast)):=λc o hc=>k1 c o (qan hc hw) (s2 c o hc)
  have al3:=al.dropLast.mono λ_ _ h=>h.kp k1
  have pu3:=pu.kp k1
  have len3:us.dropLast.length+1=us.length:=by rw [List.length_dropLast];omega
  have sum3:mn+SNf ns ts.dropLast+Nf (evQ ns) t.1 (t.1+hv t.2)=Nf (evQ ns) 0 1:=by
   have:=congrArg (SNf ns) ets
   rw [qk4] at this
   have e2:SNf ns [t]=Nf (evQ ns) t.1 (t.1+hv t.2)+0:=rfl
   omega
  have ms3:msr D ts=msr D ts.dropLast+3 ^ (D+1 - t.2):=by
   have:=congrArg (msr D) ets
   rw [qk5] at this
   have e2:msr D [t]=3 ^ (D+1 - t.2)+0:=rfl
   omega
  have dep3:∀ (i:Nat) (t':Rat×Nat),ts.dropLast[i]?=some t'->i<=t'.2:=λi t' h=>dep i t' (by
   rw [ets,wcl (waq.mp h).1];exact h)
  have pos3:0<3 ^ (D+1 - t.2):=wav ∅
  show qcG K _ [some (.ref p),some (.int (mn:Int)),some (.ref w),some u,o4,o5,o6] _
  generalize upd H2 w (.lst us.dropLast)=H3 at k1 h3w s3 al3 pu3 ⊢
  obtain ⟨a,ps,M,rfl,ha,aw,lps,bps,M0,t0,t1,tD,ev⟩:=pu3
  have hd0:=ql5 t.2
  have nzp:∃ x,0<x/\x<1/\evQ ps x≠0:=by
   obtain ⟨z,z1,z2,z3⟩:=sk.sf.nz (show t.1<t.1+hv t.2 by grind)
   have hi:hv t.2*(hv t.2)⁻¹=1:=wbb _ (by grind)
   have hip:0<(hv t.2)⁻¹:=Rat.inv_pos.mpr hd0
   have e:t.1+hv t.2*((z - t.1)*(hv t.2)⁻¹)=z:=by
    have:hv t.2*((z - t.1)*(hv t.2)⁻¹)=(hv t.2*(hv t.2)⁻¹)*(z - t.1):=by grind
    rw [this,hi];grind
   refine ⟨(z - t.1)*(hv t.2)⁻¹,wan (by grind) hip,?_,λy=>z3 ?_⟩
   ·have:=wan (show 0<t.1+hv t.2 - z by grind) hip
    grind
   ·rw [ev,e] at y
    rcases wa2.mp y with q | q
    ·grind
    ·exact q
  have nfp:Nf (evQ ns) t.1 (t.1+hv t.2)=Nf (evQ ps) 0 1:=by
   have e:evQ ps=λx=>M*evQ ns (t.1+hv t.2*x):=funext ev
   rw [e,Nf.aff hd0 M0,show t.1+hv t.2*0=t.1 by grind,show t.1+hv t.2*1=t.1+hv t.2 by grind]
  refine qeK (qfL ⟨_,rfl,a,_,rfl,ha,λq hq=>?_⟩)
  have sq:=qah hq (.lst (ps.map V.int).reverse)
  have hqq:upd H3 q (.lst (ps.map V.int).reverse) q=_:=qag
  rw [<-List.map_reverse] at *
  have kq:Kp w H3 (upd H3 q (.lst (ps.reverse.map V.int))):=Kp.of_same sq
  show ∃ _,_
  generalize upd H3 q (.lst (ps.reverse.map V.int))=H4 at sq hqq kq ⊢
  refine ⟨q,ps.reverse,1,0,rfl,hqq,by rw [List.length_reverse];omega,.inl (by unfold Bd;decide),λr rs H5 s5 _ hr lr er _=>?_⟩
  have er:∀ y,evQ rs y=evQ ps.reverse (y+1):=er
  rw [List.length_reverse] at lr
  have s35:=sq.trans s5
  have h5w:=s35 _ _ h3w
  have sH5:=s3.trans s35
  have al5:=al3.mono λ_ _ h=>h.kp (Kp.of_same s35)
  have ha5:=s35 _ _ ha
  refine ⟨r,rs,rfl,hr,⋯,?_⟩
  show qcF K _ [some (.ref p),some (.int (mn:Int)),some (.ref w),some (.ref a),some (.int ((sgc rs 0:Nat):Int)),o5,o6] _
  refine qqF ⟨_,rfl,rfl,_,rfl,qbr (λc1=>?_) (λc1=>?_)⟩
  ·have c1:sgc rs 0=1:=by
    have:V.int ((sgc rs 0:Nat):Int)=V.int 1:=of_decide_eq_true c1
    injection this with this;omega
   refine ⟨_,rfl,_,_,rfl,rfl,?_⟩
   show qbH K _ [some (.ref p),some (.int ((mn:Int)+1)),some (.ref w),some (.ref a),some (.int ((sgc rs 0:Nat):Int)),o5,o6] _
   refine ⟨_,rfl,_,_,rfl,rfl,_,rfl,qbr (λc2=>?_) (λ_=>?_)⟩
   ·have c2:(1:Int)<((sgc rs 0:Nat):Int):=of_decide_eq_true c2
    omega
   ·have one:=qhM (qt2 (Q:=ps) er c1)
    refine ⟨msr D ts.dropLast,⋯,mn+1,us.dropLast,ts.dropLast,_,_,_,_,rfl,sH5,h5w,al5,?_,dep3,rfl⟩
    rw [nfp,one] at sum3;omega
  ·have c1:sgc rs 0≠1:=λz=>c1 (by
    show decide (V.int ((sgc rs 0:Nat):Int)=V.int 1)=true
    rw [z];exact decide_eq_true rfl)
   show qbH K _ _ _
   refine ⟨_,rfl,_,_,rfl,rfl,_,rfl,qbr (λc2=>?_) (λc2=>?_)⟩
   ·have c2:(1:Int)<((sgc rs 0:Nat):Int):=of_decide_eq_true c2
    show qcE K _ [some (.ref p),some (.int (mn:Int)),some (.ref w),some (.ref a),some (.int ((sgc rs 0:Nat):Int)),o5,o6] _
    have lD:t.2<D:=by
     refine Nat.not_le.mp λz=>?_
     have eD:t.2=D:=by omega
     have small:hv t.2*(HH*((gs ns ns.length*(8*ns.length+8):Nat):Rat))<1:=by
      rw [eD]
      have:=wan (ql5 D) (show 0<((2 ^ D:Nat):Rat) - HH*((gs ns ns.length*(8*ns.length+8):Nat):Rat) by grind)
      have:=qim D
      grind
     have:=deep (Q:=ns) (P:=ps) (T:=rs) (U:=U) (V:=W) lps ev M0 t0 (by grind) hd0 (qtm _) lr er H0 (hU _ t0 (by grind)) (hW _ t0 (by grind)) (sk.uv _ t0 (by grind)) small
     omega
    have D15:60*t.2+60<=60*D:=by omega
    refine qeK ⟨_,rfl,a,ps,b+60*t.2,rfl,ha5,⋯,bps,⋯,λr1 ls H6 s6 n6 hr1 ll bl el=>?_⟩
    have h6w:=s6 _ _ h5w
    have r1w:r1≠w:=(qan h5w n6).symm
    show qcD K _ [some (.ref p),some (.int (mn:Int)),some (.ref w),some (.ref a),some (.int ((sgc rs 0:Nat):Int)),some (.ref r1),o6] _
    refine qg2 ⟨_,rfl,r1,ls,1,0,rfl,hr1,⋯,.inl (by unfold Bd;decide),λr2 ws H7 s7 n7 hr2 lw ew _=>?_⟩
    have ew:∀ y,evQ ws y=evQ ls (y+1):=ew
    have h7w:=s7 _ _ h6w
    have r2w:r2≠w:=(qan h6w n7).symm
    have hr1:=s7 _ _ hr1
    have s37:=s35.trans (s6.trans s7)
    have sH7:=s3.trans s37
    have al7:=al3.mono λ_ _ h=>h.kp (Kp.of_same s37)
    have bw:=qul (B:=b+60*t.2+20) ⋯ lw ew bl
    have eh:=qr4 t.2
    have el':∀ x,evQ ls x=(((2 ^ (ps.length - 1):Nat):Rat)*M)*evQ ns (t.1+hv (t.2+1)*x):=λx=>by
     rw [el,ev,eh,show t.1+hv t.2*(x / 2)=t.1+hv t.2 / 2*x by grind];grind
    have ew':∀ x,evQ ws x=(((2 ^ (ps.length - 1):Nat):Rat)*M)*evQ ns ((t.1+hv (t.2+1))+hv (t.2+1)*x):=λx=>by
     rw [ew,el',show t.1+hv (t.2+1)*(x+1)=t.1+hv (t.2+1)+hv (t.2+1)*x by grind]
    have M2:0<((2 ^ (ps.length - 1):Nat):Rat)*M:=wan (by exact_mod_cast wav ∅) M0
    have h20:=ql5 (t.2+1)
    have nd:=sk.sf.node (a:=t.1) (m:=t.1+hv (t.2+1)) (b:=t.1+hv t.2) (by grind) (by grind)
    have e3:t.1+hv (t.2+1)+hv (t.2+1)=t.1+hv t.2:=by grind
    have PL:Pt ns b D w H7 (.ref r1) (t.1,t.2+1):=⟨r1,ls,_,rfl,hr1,r1w,⋯,λz hz=>(bl z hz).mono (by show _<=b+60*(t.2+1);omega),M2,t0,by show t.1+hv (t.2+1)<=1;grind,lD,el'⟩
    have PW:Pt ns b D w H7 (.ref r2) (t.1+hv (t.2+1),t.2+1):=⟨r2,ws,_,rfl,hr2,r2w,⋯,λz hz=>(bw z hz).mono (by show _<=b+60*(t.2+1);omega),M2,by show 0<=t.1+hv (t.2+1);grind,by show t.1+hv (t.2+1)+hv (t.2+1)<=1;rw [e3];exact t1,lD,ew'⟩
    obtain ⟨z0,ws',rfl⟩:∃ z0 ws',ws=z0::ws':=by
     cases ws with
     | nil=>
       have:rs.length=0:=by have:(0:Nat)=ls.length:=lw;omega
       have:rs=[]:=wbd.mp this
       rw [this] at c2
       have:sgc [] 0=0:=by rw [sgc]
       omega
     | cons z ws=>exact ⟨z,ws,rfl⟩
    have ez:z0=0↔evQ ns (t.1+hv (t.2+1))=0:=by
     have h:=ew' 0
     rw [show t.1+hv (t.2+1)+hv (t.2+1)*0=t.1+hv (t.2+1) by grind] at h
     have h:(z0:Rat)+0*evQ ws' 0=((2 ^ (ps.length - 1):Nat):Rat)*M*evQ ns (t.1+hv (t.2+1)):=h
     constructor
     ·intro z
      rw [z] at h
      have h:((2 ^ (ps.length - 1):Nat):Rat)*M*evQ ns (t.1+hv (t.2+1))=0:=by rw [<-h];have:((0:Int):Rat)=0:=rfl
                                                                             rw [this];grind
      rcases wa2.mp h with q | q
      ·grind
      ·exact q
     ·intro z
      rw [z] at h
      have:(z0:Rat)=0:=by grind
      exact_mod_cast this
    show qcC K _ [some (.ref p),some (.int (mn:Int)),some (.ref w),some (.ref a),some (.int ((sgc rs 0:Nat):Int)),some (.ref r1),some (.ref r2)] _
    have lenD:us.dropLast.length<=D:=by omega
    have fin:∀ {mn':Nat} {DD:Ends},(DD.nx=λx x_1=>∃ m',m'<msr D ts/\∃ (mn:Nat) (us:List V) (ts:List (Rat×Nat)) (o3 o4 o5 o6:Option V),x=[some (.ref p),some (.int (mn:Int)),some (.ref w),o3,o4,o5,o6]/\Same H x_1/\x_1 w=some (.lst us)/\Al (Pt ns b D w x_1) us ts/\mn+SNf ns ts=Nf (evQ ns) 0 1/\(∀ (i:Nat) (t:Rat×Nat),ts[i]?=some t->i<=t.2)/\m'=msr D ts)->mn'=mn+(if evQ ns (t.1+hv (t.2+1))=0 then 1 else 0)->qcB K DD [some (.ref p),some (.int (mn':Int)),some (.ref w),some (.ref a),some (.int ((sgc rs 0:Nat):Int)),some (.ref r1),some (.ref r2)] H7:=λ{mn' DD} hDD hm=>by
     refine ⟨_,rfl,qdS h7w,_,rfl,w,us.dropLast,_,rfl,rfl,h7w,sz ⋯,?_⟩
     have k8:Kp w H7 (upd H7 w (.lst (us.dropLast++[V.ref r1]))):=λc o n e=>(qaA n).trans e
     have h8w:upd H7 w (.lst (us.dropLast++[V.ref r1])) w=_:=qag
     have al8:=(al7.snoc PL).mono λ_ _ h=>h.kp k8
     have s8:Same H (upd H7 w (.lst (us.dropLast++[V.ref r1]))):=λc o hc=>k8 c o (qan hc hw) (sH7 c o hc)
     have PW8:=PW.kp k8
     show qcA K _ _ _
     generalize upd H7 w (.lst (us.dropLast++[V.ref r1]))=H8 at k8 h8w al8 s8 PW8 ⊢
     refine ⟨_,rfl,qdS h8w,_,rfl,w,us.dropLast++[V.ref r1],_,rfl,rfl,h8w,sz (by rw [wa9];show us.dropLast.length+1+1<=_;omega),?_⟩
     have k9:Kp w H8 (upd H8 w (.lst (us.dropLast++[V.ref r1]++[V.ref r2]))):=λc o n e=>(qaA n).trans e
     rw [hDD]
     have dl:ts.dropLast.length=us.dropLast.length:=al3.length.symm
     refine ⟨msr D (ts.dropLast++[(t.1,t.2+1)]++[(t.1+hv (t.2+1),t.2+1)]),?_,mn',_,ts.dropLast++[(t.1,t.2+1)]++[(t.1+hv (t.2+1),t.2+1)],_,_,_,_,rfl,λc o hc=>k9 c o (qan hc hw) (s8 c o hc),qag,(al8.snoc PW8).mono λ_ _ h=>h.kp k9,?_,λi t' h=>?_,rfl⟩
     ·rw [qk5,qk5,ms3]
      show msr D ts.dropLast+(3 ^ (D+1 - (t.2+1))+0)+(3 ^ (D+1 - (t.2+1))+0)<_
      have e:3 ^ (D+1 - t.2)=3*3 ^ (D+1 - (t.2+1)):=by
       rw [show D+1 - t.2=(D+1 - (t.2+1))+1 by omega,wa1];omega
      have:0<3 ^ (D+1 - (t.2+1)):=wav ∅
      omega
     ·rw [qk4,qk4]
      show mn'+(SNf ns ts.dropLast+(Nf (evQ ns) t.1 (t.1+hv (t.2+1))+0)+(Nf (evQ ns) (t.1+hv (t.2+1)) (t.1+hv (t.2+1)+hv (t.2+1))+0))=_
      rw [e3,hm]
      omega
     ·rcases wap i ts.dropLast.length with q | q
      ·rw [List.append_assoc,wcl q] at h
       exact dep3 i t' h
      ·rw [List.append_assoc,wck q] at h
       have lt:=(waq.mp h).1
       have lt:i - ts.dropLast.length<2:=lt
       have:i - ts.dropLast.length=0\/i - ts.dropLast.length=1:=by omega
       rcases this with z | z <;> rw [z] at h <;> cases h
       ·show i<=t.2+1;omega
       ·show i<=t.2+1;omega
    refine qqF ⟨_,rfl,r2,0,(z0::ws').map V.int,V.int z0,rfl,rfl,hr2,qb7 (j:=0) rfl rfl,rfl,_,rfl,qbr (λc3=>?_) (λc3=>?_)⟩
    ·have c3:z0=0:=by
      have:V.int z0=V.int 0:=of_decide_eq_true c3
      injection this
     refine ⟨_,rfl,_,_,rfl,rfl,?_⟩
     exact fin (mn':=mn+1) rfl (by rw [if_pos (ez.mp c3)])
    ·have c3:z0≠0:=λz=>c3 (by show decide (V.int z0=V.int 0)=true;rw [z];exact decide_eq_true rfl)
     exact fin (mn':=mn) rfl (by rw [if_neg λz=>c3 (ez.mpr z)];rfl)
   ·have c2:¬ (1:Int)<((sgc rs 0:Nat):Int):=λz=>c2 (decide_eq_true z)
    have none':=qhM (leaf0' nzp er (show sgc rs 0=0 by omega))
    refine ⟨msr D ts.dropLast,⋯,mn,us.dropLast,ts.dropLast,_,_,_,_,rfl,sH5,h5w,al5,?_,dep3,rfl⟩
    rw [nfp,none'] at sum3;omega
 ·have un:us=[]:=by
   cases us with
   | nil=>rfl
   | cons _ _=>exact absurd rfl c
  have tn:ts=[]:=wbd.mp (by rw [<-al.length,un];rfl)
  rw [tn] at sum
  have sum:mn+0=Nf (evQ ns) 0 1:=sum
  show qdE K _ _ _
  refine ⟨_,rfl,?_⟩
  rw [show mn=Nf (evQ ns) 0 1 by omega]
  exact k H2 s2
theorem qgI (a b:Rat):∀ n:Nat,(a*b) ^ n=a ^ n*b ^ n
 | 0=>by rw [wao,wao,wao];grind
 | n+1=>by rw [waj,waj,waj,qgI a b n];grind
theorem rpow_add' (a:Rat) (m:Nat):∀ n:Nat,a ^ (m+n)=a ^ m*a ^ n
 | 0=>by rw [Nat.add_zero,wao];grind
 | n+1=>by rw [<-Nat.add_assoc,waj,waj,rpow_add' a m n];grind
theorem qqW (f:Nat->Rat) (δ y:Rat):∀ n:Nat,evS (λk=>f k*δ ^ k) n y=evS f n (δ*y)
 | 0=>rfl
 | n+1=>by
   show evS (λk=>f k*δ ^ k) n y+f n*δ ^ n*y ^ n=evS f n (δ*y)+f n*(δ*y) ^ n
   rw [qqW f δ y n,qgI];grind
theorem qqX (f:Nat->Rat) (B x:Rat) (n:Nat):∀ m:Nat,m<=n->evS (λk=>f k*B ^ (n - 1 - k)) m (B*x)=B ^ (n - 1)*evS f m x
 | 0,_=>by show (0:Rat)=_*0;grind
 | m+1,h=>by
   show evS (λk=>f k*B ^ (n - 1 - k)) m (B*x)+f m*B ^ (n - 1 - m)*(B*x) ^ m=B ^ (n - 1)*(evS f m x+f m*x ^ m)
   rw [qqX f B x n m ⋯,qgI]
   have e:B ^ (n - 1)=B ^ (n - 1 - m)*B ^ m:=by rw [<-rpow_add'];congr 1;omega
   rw [e];grind
theorem qoY (R:Nat->Int) (n:Nat) (y:Rat):evQ ((List.range n).map R) y=evS (λk=>(R k:Rat)) n y:=by
 rw [qfM,waa,waw]
 refine qdV λk hk=>?_
 rw [wab,waf,wb2 hk];rfl
theorem qfv (z:Int):∀ n:Nat,((z ^ n:Int):Rat)=(z:Rat) ^ n
 | 0=>by rw [wao,Int.pow_zero];rfl
 | n+1=>by rw [waj,Int.pow_succ,wbw,qfv z n]
theorem qka (h:qcV K vs H Q E):qkT K { nx:=λ_ H'=>Q .non H',rt:=Q } (L2.start ["row","start","end","bottom","result","scale","place"] vs) H:=by
 obtain ⟨p,s,e,ns,a,b,rfl,hp,hs,he,n9,bn,a0,b0,ba1,ba2,bb1,bb2,lt,k⟩:=h
 refine qck ⟨_,rfl,_,_,_,_,rfl,rfl,hs,rfl,_,rfl,_,_,_,_,rfl,rfl,he,rfl,_,_,rfl,rfl,qjX ba2 bb2,?_⟩
 have bb:Bd 420 (a.2*b.2):=ba2.mul bb2
 have bc:Bd 420 (a.1*b.2):=ba1.mul bb2
 have bd:Bd 421 (b.1*a.2 - a.1*b.2):=(bb1.mul ba2).sub bc
 have val1:val a*((a.2*b.2:Int):Rat)=((a.1*b.2:Int):Rat):=by
  have h2:(a.2:Rat)≠0:=qaV ⋯
  have q:=wb8 (a:=(a.1:Rat)) h2
  show (a.1:Rat) / (a.2:Rat)*_=_
  push_cast
  generalize (a.1:Rat) / (a.2:Rat)=x at q ⊢
  rw [<-q];grind
 have val2:(val b - val a)*((a.2*b.2:Int):Rat)=((b.1*a.2 - a.1*b.2:Int):Rat):=by
  have h2:(b.2:Rat)≠0:=qaV ⋯
  have q:=wb8 (a:=(b.1:Rat)) h2
  have e1:(val b - val a)*((a.2*b.2:Int):Rat)=val b*((a.2*b.2:Int):Rat) - val a*((a.2*b.2:Int):Rat):=by grind
  rw [e1,val1]
  show (b.1:Rat) / (b.2:Rat)*_ - _=_
  push_cast
  generalize (b.1:Rat) / (b.2:Rat)=x at q ⊢
  rw [<-q];grind
 have B1:(1:Int)<=a.2*b.2:=Int.mul_pos a0 b0
 show qfj K _ [some (.ref p),some (.ref s),some (.ref e),some (.int (a.2*b.2)),none,none,none] H
 generalize hB:a.2*b.2=B at *
 generalize hc:a.1*b.2=c at *
 refine qck ⟨_,rfl,p,_,rfl,hp,λw hw=>?_⟩
 have sw:=qah hw (.lst (ns.map V.int))
 have hww:upd H w (.lst (ns.map V.int)) w=_:=qag
 generalize upd H w (.lst (ns.map V.int))=H1 at sw hww ⊢
 refine qck ?_
 have hp1:=sw _ _ hp
 show qfi K _ [some (.ref p),some (.ref s),some (.ref e),some (.int B),some (.ref w),some (.int 1),none] H1
 have ll:((ns.map V.int).length:Int)=(ns.length:Int):=by rw [waa]
 refine ⟨_,rfl,p,_,rfl,hp1,_,_,rfl,rfl,_,rfl,_,rfl,_,_,rfl,⟨⋯,⋯,⋯,⋯⟩,?_⟩
 rw [ll,show ((ns.length:Int) - 1 - -1).toNat=ns.length by omega]
 refine ForJ.down (λi σ H'=>∃ x6:Option V,σ=[some (.ref p),some (.ref s),some (.ref e),some (.int B),some (.ref w),some (.int (B ^ i)),x6]/\Same H H'/\i<=ns.length/\H' w=some (.lst (qbB ns.length λq=>if ns.length<=q+i then co ns q*B ^ (ns.length - 1 - q) else co ns q))) ⟨none,by rw [Int.pow_zero],sw,wae _,?_⟩ ?_ ?_
 ·rw [hww,qrK]
  exact congrArg (λl=>some (HO.lst l)) (qbf λq hq=>by rw [if_neg ⋯])
 ·rintro i σ H2 hi ⟨x6,rfl,s2,il,hw2⟩
  have e1:(ns.length:Int) - 1 - (i:Int)=((ns.length - 1 - i:Nat):Int):=by omega
  rw [e1]
  have g1:atI (qbB ns.length λq=>if ns.length<=q+i then co ns q*B ^ (ns.length - 1 - q) else co ns q) ((ns.length - 1 - i:Nat):Int)=some (V.int (co ns (ns.length - 1 - i))):=by
   rw [qfE (qaT _ ⋯),if_neg ⋯]
  have bp:Bd 4000 (B ^ i):=(bb.pow i).mono ⋯
  refine ⟨_,rfl,_,rfl,w,_,_,_,rfl,rfl,hw2,g1,_,rfl,_,_,rfl,rfl,qjX (qa8 bn _) bp,w,_,_,ns.length - 1 - i,rfl,rfl,hw2,by rw [qa7];exact qex rfl ⋯,?_⟩
  refine ⟨_,rfl,_,rfl,_,_,rfl,rfl,qjX bp bb,_,by rw [Int.pow_succ];rfl,λx o h=>Kp.upd x o (qan h hw) (s2 x o h),⋯,?_⟩
  rw [qag]
  refine congrArg (λl=>some (HO.lst l)) (qcn ⋯ ?_ λq hq hne=>?_)
  ·rw [if_pos ⋯,show ns.length - 1 - (ns.length - 1 - i)=i by omega]
  ·by_cases h:ns.length<=q+i
   ·rw [if_pos h,if_pos ⋯]
   ·rw [if_neg h,if_neg ⋯]
 ·rintro σ H2 ⟨x6,rfl,s2,il,hw2⟩
  have hw2:H2 w=some (.lst (((List.range ns.length).map λq=>co ns q*B ^ (ns.length - 1 - q)).map V.int)):=by
   rw [hw2]
   exact congrArg (λl=>some (HO.lst l)) (qbf λq hq=>by rw [if_pos ⋯])
  generalize hR:(List.range ns.length).map (λq=>co ns q*B ^ (ns.length - 1 - q))=R at hw2
  have lR:R.length=ns.length:=by rw [<-hR,waa,waw]
  have bR:∀ z∈R,Bd 4000 z:=λz hz=>by
   rw [<-hR] at hz
   obtain ⟨j,hj,rfl⟩:=wax.mp hz
   have:=(qa8 bn j).mul (bb.pow (ns.length - 1 - j))
   exact this.mono ⋯
  show qfh K _ _ _
  refine qg2 ⟨_,rfl,_,rfl,_,_,_,_,rfl,rfl,s2 _ _ hs,rfl,_,rfl,_,_,_,_,rfl,rfl,s2 _ _ he,rfl,_,_,rfl,rfl,qjX ba1 bb2,?_⟩
  show qbu K [V.ref w,V.int (a.1*b.2)] H2 _ _
  rw [hc]
  refine ⟨w,R,c,4000,rfl,hw2,⋯,.inr ⟨bR,⋯,bc.mono ∅⟩,λr rs H3 s3 n3 hr lr er br=>?_⟩
  have br:=br 4000 bR (bc.mono ∅)
  have br:∀ z∈rs,Bd 86000 z:=λz hz=>(br z hz).mono (by
   have:1001*R.length*R.length<=1001*9*9:=Nat.mul_le_mul (wa6 _ ⋯) ⋯
   omega)
  have s13:=s2.trans s3
  generalize hr3:H3=H3' at *
  refine qck ?_
  show qfg K _ [some (.ref p),some (.ref s),some (.ref e),some (.int B),some (.ref r),some (.int 1),x6] H3'
  have hp3:=s13 _ _ hp
  refine ⟨_,rfl,p,_,rfl,hp3,_,rfl,⋯,⋯,?_⟩
  rw [ll,wce]
  have rn:H r=none:=by
   cases hz:H r with
   | none=>rfl
   | some o=>exact absurd (s2 _ _ hz) (by rw [n3];exact λz=>nomatch z)
  refine ForR.by (λi σ H'=>∃ x6:Option V,σ=[some (.ref p),some (.ref s),some (.ref e),some (.int B),some (.ref r),some (.int ((b.1*a.2 - c) ^ i)),x6]/\Same H H'/\i<=ns.length/\H' r=some (.lst (qbB ns.length λq=>if q<i then co rs q*(b.1*a.2 - c) ^ q else co rs q))) ⟨_,by rw [Int.pow_zero],s13,wae _,?_⟩ ?_ ?_
  ·rw [hr,qrK,lr,lR]
   exact congrArg (λl=>some (HO.lst l)) (qbf λq hq=>by rw [if_neg ⋯])
  ·rintro i σ H4 hi ⟨x6,rfl,s4,il,hr4⟩
   rw [show (0:Int)+(i:Int)=((i:Nat):Int) by omega]
   have g1:atI (qbB ns.length λq=>if q<i then co rs q*(b.1*a.2 - c) ^ q else co rs q) ((i:Nat):Int)=some (V.int (co rs i)):=by
    rw [qfE (qaT _ ⋯),if_neg ⋯]
   have bp:Bd 4000 ((b.1*a.2 - c) ^ i):=(bd.pow i).mono ⋯
   have hs4:=s4 _ _ hs
   have he4:=s4 _ _ he
   refine ⟨_,rfl,_,rfl,r,_,_,_,rfl,rfl,hr4,g1,_,rfl,_,_,rfl,rfl,qjX (qa8 br _) bp,r,_,_,i,rfl,rfl,hr4,by rw [qa7];exact qex rfl ⋯,?_⟩
   have hs5:upd H4 r (.lst ((qbB ns.length λq=>if q<i then co rs q*(b.1*a.2 - c) ^ q else co rs q).set i (V.int (co rs i*(b.1*a.2 - c) ^ i)))) s=_:=(qaA (qan hs rn)).trans hs4
   have he5:upd H4 r (.lst ((qbB ns.length λq=>if q<i then co rs q*(b.1*a.2 - c) ^ q else co rs q).set i (V.int (co rs i*(b.1*a.2 - c) ^ i)))) e=_:=(qaA (qan he rn)).trans he4
   refine ⟨_,rfl,_,rfl,_,_,_,_,rfl,rfl,he5,rfl,_,rfl,_,_,_,_,rfl,rfl,hs5,rfl,_,_,rfl,rfl,qjX bb1 ba2,_,rfl,_,_,_,_,rfl,rfl,hs5,rfl,_,rfl,_,_,_,_,rfl,rfl,he5,rfl,_,_,rfl,rfl,qjX ba1 bb2,_,_,rfl,rfl,?_⟩
   refine ⟨(b.1*a.2 - c) ^ i,b.1*a.2 - c,rfl,by subst hc;rfl,qjX bp bd,_,by rw [Int.pow_succ];rfl,λx o h=>Kp.upd x o (qan h rn) (s4 x o h),⋯,?_⟩
   rw [qag]
   refine congrArg (λl=>some (HO.lst l)) (qcn ⋯ ?_ λq hq hne=>?_)
   ·rw [if_pos ⋯]
   ·by_cases h:q<i
    ·rw [if_pos h,if_pos ⋯]
    ·rw [if_neg h,if_neg ⋯]
  ·rintro σ H4 ⟨x6,rfl,s4,il,hr4⟩
   have hr4:H4 r=some (.lst (((List.range ns.length).map λq=>co rs q*(b.1*a.2 - c) ^ q).map V.int)):=by
    rw [hr4]
    exact congrArg (λl=>some (HO.lst l)) (qbf λq hq=>by rw [if_pos ⋯])
   refine ⟨_,rfl,k r _ H4 s4 hr4 (by rw [waa,waw]) (λz hz=>?_) ⟨((B ^ (ns.length - 1):Int):Rat),?_,λy=>?_⟩⟩
   ·obtain ⟨j,hj,rfl⟩:=wax.mp hz
    have:=(qa8 br j).mul (bd.pow j)
    have hj:=wch.mp hj
    exact this.mono ⋯
   ·have:(0:Int)<B ^ (ns.length - 1):=Int.pow_pos (show 0<B by omega)
    have:(1:Int)<=B ^ (ns.length - 1):=this
    exact_mod_cast this
   ·rw [qoY]
    have e1:evS (λk=>((co rs k*(b.1*a.2 - c) ^ k:Int):Rat)) ns.length y=evS (λk=>(co rs k:Rat)*((b.1*a.2 - c:Int):Rat) ^ k) ns.length y:=qdV λk _=>by rw [wbw,qfv]
    have e2:evS (λk=>(co rs k:Rat)) ns.length (((b.1*a.2 - c:Int):Rat)*y)=evQ rs (((b.1*a.2 - c:Int):Rat)*y):=by rw [qfM,lr,lR];rfl
    rw [e1,qqW,e2,er,<-hR,qoY]
    have e3:∀ t,evS (λk=>((co ns k*B ^ (ns.length - 1 - k):Int):Rat)) ns.length t=evS (λk=>(co ns k:Rat)*(B:Rat) ^ (ns.length - 1 - k)) ns.length t:=λt=>qdV λk _=>by rw [wbw,qfv]
    rw [e3]
    have e4:((b.1*a.2 - c:Int):Rat)*y+(c:Rat)=(B:Rat)*(val a+(val b - val a)*y):=by rw [<-val1,<-val2];grind
    rw [e4,qqX _ _ _ _ _ (wad _),qfv]
    have e5:evS (λk=>(co ns k:Rat)) ns.length (val a+(val b - val a)*y)=evQ ns (val a+(val b - val a)*y):=by rw [qfM];rfl
    rw [e5]
theorem qqY {ns:List Int} {i:Nat} {x:V} (hi:i<ns.length) (h:(ns.map V.int)[i]?=some x):x=.int (co ns i):=by
 rw [waf,wag hi] at h
 unfold co
 rw [wab,wag hi]
 exact (Option.some.inj h).symm
theorem qoZ (ns:List Int) (t s:Int) {i:Nat} (h:i<ns.length):hw (ns.drop (ns.length - (i+1))) t s=co ns (ns.length - 1 - i)*s ^ i+t*hw (ns.drop (ns.length - i)) t s:=by
 have e:ns.length - (i+1)<ns.length:=by omega
 rw [List.drop_eq_getElem_cons e,show ns.length - (i+1)+1=ns.length - i by omega]
 show ns[ns.length - (i+1)]*s ^ (ns.drop (ns.length - i)).length+_=_
 have:co ns (ns.length - 1 - i)=ns[ns.length - (i+1)]:=by
  unfold co
  rw [wab,show ns.length - 1 - i=ns.length - (i+1) by omega,wag e];rfl
 rw [this,List.length_drop,show ns.length - (ns.length - i)=i by omega]
theorem qmE (h:qdd K vs H Q E):qot K { nx:=λ_ H'=>Q .non H',rt:=Q } (L2.start ["_law_row","_law_c","_law_found","_law_scale_here","_law_one"] vs) H:=by
 obtain ⟨a,b,ns,t,s,rfl,ha,hb,l1,bn,bt,bs,k⟩:=h
 refine ⟨_,rfl,_,_,rfl,SqL.of ha,ForJ.rev (xs:=ns.map V.int) (λi σ H'=>∃ (u:Option V),σ=[some (.ref a),some (.ref b),some (.int (hw (ns.drop (ns.length - i)) t s)),some (.int (s ^ i)),u]/\H'=H/\i<=ns.length/\Bd (200*i+200) (hw (ns.drop (ns.length - i)) t s)) ⟨none,?_,rfl,wae _,?_⟩ ?_ ?_ ?_⟩
 ·rw [Nat.sub_zero,List.drop_length,Int.pow_zero];rfl
 ·rw [Nat.sub_zero,List.drop_length];exact qdo _
 ·rintro i σ H' _ ⟨u,rfl,rfl,_⟩
  exact SqL.of ha
 ·rintro i y σ H' hi hy ⟨u,rfl,rfl,_,bh⟩
  rw [waa] at hi hy
  have hy:=qqY ⋯ hy
  subst hy
  have bp:Bd (100*i+1) (s ^ i):=bs.pow i
  have bc:=qa8 bn (ns.length - 1 - i)
  refine ⟨_,rfl,_,rfl,_,_,_,_,rfl,rfl,hb,rfl,_,_,rfl,rfl,qks bh bt ⋯,_,rfl,_,rfl,_,_,rfl,rfl,qks bc bp,_,_,rfl,rfl,?_⟩
  refine ⟨_,rfl,_,rfl,_,_,_,_,rfl,rfl,hb,rfl,_,_,rfl,rfl,qks bp bs,?_⟩
  refine ⟨some (.int (co ns (ns.length - 1 - i))),?_,rfl,⋯,?_⟩
  ·rw [qoZ ns t s hi,Int.pow_succ,wca t,Int.add_comm];rfl
  ·rw [qoZ ns t s hi]
   have h1:Bd (200*i+300) (co ns (ns.length - 1 - i)*s ^ i):=(bc.mul bp).mono ⋯
   have h2:Bd (200*i+300) (t*hw (ns.drop (ns.length - i)) t s):=(bt.mul bh).mono ⋯
   exact (h1.add h2).mono ⋯
 ·rintro σ H' ⟨u,rfl,rfl,_,_⟩
  rw [waa,Nat.sub_self,List.drop_zero]
  exact ⟨_,rfl,k⟩
theorem qo0 (a b:List Int) (k:Nat):∀ n,n<=a.length->ps a b n k=cvL (a.take n) (co b) k
 | 0,_=>by rw [List.take_zero,qaE];rfl
 | n+1,h=>by
   have e:a.take (n+1)=a.take n++[co a n]:=by
    rw [wbz,wag ⋯]
    unfold co
    rw [wab,wag ⋯];rfl
   rw [e,qbc,<-qo0 a b k n ⋯,wa5,Nat.min_eq_left ⋯]
   show ps a b n k+(if n<=k/\k - n<b.length then co a n*co b (k - n) else 0)=_
   unfold upS
   by_cases c:n<=k
   ·rw [if_pos c]
    by_cases d:k - n<b.length
    ·rw [if_pos ⟨c,d⟩]
    ·rw [if_neg (λz=>d z.2),qau (a:=b) ⋯];omega
   ·rw [if_neg c,if_neg (λz=>c z.1)];omega
theorem qum {a b c:Nu} (ha:0<a.2) (hb:0<b.2) (hc:0<c.2) (h1:a.1*b.2<b.1*a.2) (h2:b.1*c.2<c.1*b.2):a.1*c.2<c.1*a.2:=by
 have h3:a.1*b.2*c.2<b.1*a.2*c.2:=Int.mul_lt_mul_of_pos_right h1 hc
 have h4:b.1*c.2*a.2<c.1*b.2*a.2:=Int.mul_lt_mul_of_pos_right h2 ha
 refine Int.lt_of_mul_lt_mul_right (a:=b.2) ?_ ⋯
 have e1:a.1*c.2*b.2=a.1*b.2*c.2:=by grind
 have e2:c.1*a.2*b.2=c.1*b.2*a.2:=by grind
 have e3:b.1*a.2*c.2=b.1*c.2*a.2:=by grind
 omega
theorem qqe {rs:List Nu} {k:Nat} {c:Nu} (hr:Rising rs) (pos:∀ q∈rs,0<q.2) (c0:0<c.2) (h1:∀ q∈rs.take k,q.1*c.2<c.1*q.2) (h2:∀ q,rs[k]?=some q->c.1*q.2<q.1*c.2):Rising (rs.take k++c::rs.drop k):=by
 have hr':Rising (rs.take k++rs.drop k):=by rw [List.take_append_drop];exact hr
 obtain ⟨r1,r2,r3⟩:=List.pairwise_append.mp hr'
 have after:∀ q∈rs.drop k,c.1*q.2<q.1*c.2:=λq hq=>by
  by_cases hk:k<rs.length
  ·rw [List.drop_eq_getElem_cons hk] at hq r2
   have g:=h2 _ (wag hk)
   rcases wa0.mp hq with rfl | hq
   ·exact g
   ·have:=(List.pairwise_cons.mp r2).1 q hq
    exact qum c0 (pos _ (wbo hk)) (pos q (List.mem_of_mem_drop hq)) g this
  ·rw [List.drop_eq_nil_of_le ⋯] at hq;cases hq
 refine List.pairwise_append.mpr ⟨r1,List.pairwise_cons.mpr ⟨after,r2⟩,λx hx y hy=>?_⟩
 rcases wa0.mp hy with rfl | hy
 ·exact h1 x hx
 ·exact r3 x hx y hy
theorem qtn {a b:Nu} (ha:Low a.1 a.2) (hb:Low b.1 b.2) (e:a.1*b.2=b.1*a.2):a=b:=by
 refine qiM ha hb ?_
 unfold val
 have a1:(a.2:Rat)≠0:=qaV (by have:=ha.pos;omega)
 have b1:(b.2:Rat)≠0:=qaV (by have:=hb.pos;omega)
 have e:(a.1:Rat)*b.2=b.1*a.2:=by exact_mod_cast e
 have:=wbb _ a1
 have:=wbb _ b1
 rw [Rat.div_def,Rat.div_def]
 grind
theorem datN_inj {q c:Nu}:qpl q=qpl c↔q=c:=by
 constructor
 ·intro h
  unfold qpl at h
  injection h with h
  injection h with h1 h
  injection h with h2 h
  injection h1 with h1
  injection h2 with h2
  exact Prod.ext h1 h2
 ·intro h;rw [h]
theorem Nums.ins {H:Hp} {v:V} {q:Nu} (hv:isN H v q) {xs:List V} {l:List Nu} (k:Nat) (h:Nums H xs l):Nums H (xs.take k++v::xs.drop k) (l.take k++q::l.drop k):=by
 have hd:∀ {xs:List V} {l:List Nu} (n:Nat),Nums H xs l->Nums H (xs.drop n) (l.drop n):=by
  intro xs
  induction xs with
  | nil=>intro l n h;cases l with
    | nil=>rw [List.drop_nil,List.drop_nil];trivial
    | cons _ _=>exact h.elim
  | cons x xs ih=>intro l n h;cases l with
    | nil=>exact h.elim
    | cons q l=>cases n with
      | zero=>exact h
      | succ n=>exact ih n h.2
 exact Nums.append (h.take k) ⟨hv,hd k h⟩
theorem qk6 (h:qdt K vs H Q E):qmw K { nx:=λ_ H'=>Q .non H',rt:=Q } (L2.start ["_law_numbers","_law_found","_law_c","_law_place"] vs) H:=by
 obtain ⟨a,us,ls,rfl,ha,hN,hlow,lL,bls,k⟩:=h
 refine qck ⟨quA,λw hw=>?_⟩
 show qgf K _ [some (.ref a),some (.ref w),none,none] _
 have s1:=qah hw (.lst [])
 have ll:=hN.length
 refine ⟨_,rfl,a,rfl,⟨us,SqL.of (s1 _ _ ha)⟩,?_⟩
 refine ForL.by (xs:=us) (λi σ H'=>∃ (ys:List V) (rs:List Nu) (o2 o3:Option V),σ=[some (.ref a),some (.ref w),o2,o3]/\Same H H'/\H' w=some (.lst ys)/\Nums H' ys rs/\Rising rs/\(∀ q,q∈rs↔q∈ls.take i)/\rs.length<=i) ⟨[],[],none,none,rfl,s1,qag,trivial,List.Pairwise.nil,λq=>by rw [List.take_zero],wad _⟩ ?_ ?_ ?_
 ·rintro i σ H' _ ⟨ys,rs,o2,o3,rfl,s,_⟩
  exact SqL.of (s _ _ ha)
 ·rintro i x σ H1 hx ⟨ys,rs,o2,o3,rfl,s,hw1,hr,ris,mem,li⟩
  obtain ⟨c,hc,pc,rfl,hpc⟩:=hN.get hx
  have il:i<ls.length:=(waq.mp hc).1
  have cm:c∈ls:=by obtain ⟨z,e⟩:=waq.mp hc;exact e ▸ wbo z
  have tk:ls.take (i+1)=ls.take i++[c]:=by rw [wbz,hc];rfl
  have hpc:=s _ _ hpc
  have inl:∀ q∈rs,q∈ls:=λq hq=>wcp ((mem q).mp hq)
  have c0:=(hlow c cm).pos
  obtain ⟨bc1,bc2⟩:=bls c cm
  have ly:=hr.length
  show qd6 K _ _ _
  refine qck ?_
  show qd5 K _ [some (.ref a),some (.ref w),some (.ref pc),some (.int ((0:Nat):Int))] H1
  refine qb3 (λm σ H'=>∃ k:Nat,σ=[some (.ref a),some (.ref w),some (.ref pc),some (.int (k:Int))]/\H'=H1/\k<=rs.length/\(∀ q∈rs.take k,q.1*c.2<c.1*q.2)/\m=rs.length - k) _ ⟨0,rfl,rfl,wae _,(λq h=>by rw [List.take_zero] at h;cases h),rfl⟩ ?_
  rintro m σ H' ⟨k,rfl,rfl,kl,before,rfl⟩
  have ins:(∀ q,rs[k]?=some q->c.1*q.2<q.1*c.2)->∃ (zs:List V) (qs:List Nu) (o2 o3:Option V),[some (.ref a),some (.ref w),some (.ref pc),some (.int (k:Int))]=[some (.ref a),some (.ref w),o2,o3]/\Same H (upd H' w (.lst (ys.take k++.ref pc::ys.drop k)))/\upd H' w (.lst (ys.take k++.ref pc::ys.drop k)) w=some (.lst zs)/\Nums (upd H' w (.lst (ys.take k++.ref pc::ys.drop k))) zs qs/\Rising qs/\(∀ q,q∈qs↔q∈ls.take (i+1))/\qs.length<=i+1:=λhk=>by
   refine ⟨_,rs.take k++c::rs.drop k,_,_,rfl,λb o h=>Kp.upd b o (qan h hw) (s b o h),qag,(Nums.ins ⟨pc,rfl,hpc⟩ k hr).tp (Tp.updL hw1),qqe ris (λq hq=>(hlow q (inl q hq)).pos) c0 before hk,λq=>?_,?_⟩
   ·rw [tk,wbk,wbk,wa0,<-mem,war]
    constructor
    ·rintro (z | z | z)
     ·exact .inl (wcp z)
     ·exact .inr z
     ·exact .inl (List.mem_of_mem_drop z)
    ·rintro (z | z)
     ·rw [<-List.take_append_drop k rs,wbk] at z
      rcases z with z | z
      ·exact .inl z
      ·exact .inr (.inr z)
     ·exact .inr (.inl z)
   ·rw [wa9,wbi,wa5,List.length_drop];omega
  refine ⟨_,rfl,_,rfl,w,ys,rfl,hw1,_,_,rfl,rfl,_,rfl,qbr (λc1=>?_) (λc1=>?_)⟩
  ·have c1:k<rs.length:=by have:=of_decide_eq_true c1;omega
   obtain ⟨v,hv,q,rfl,hq⟩:=hr.at c1 c
   have gq:rs[k]?=some (rs.getD k c):=by rw [wab,wag c1];rfl
   have qm:rs.getD k c∈rs:=by obtain ⟨z,e⟩:=waq.mp gq;exact e ▸ wbo z
   generalize rs.getD k c=d at hq gq qm
   have lq:=hlow d (inl d qm)
   obtain ⟨bq1,bq2⟩:=bls d (inl d qm)
   have hv:=qfE hv
   refine ⟨_,rfl,_,rfl,_,_,_,_,rfl,rfl,hw1,hv,_,_,_,_,rfl,rfl,hq,rfl,_,rfl,_,_,_,_,rfl,rfl,hpc,rfl,_,_,rfl,rfl,qks bq1 bc2,_,rfl,_,_,_,_,rfl,rfl,hpc,rfl,_,rfl,_,rfl,_,_,_,_,rfl,rfl,hw1,hv,_,_,_,_,rfl,rfl,hq,rfl,_,_,rfl,rfl,qks bc1 bq2,_,_,rfl,rfl,_,rfl,qbr (λc2=>?_) (λc2=>?_)⟩
   ·have c2:d.1*c.2<c.1*d.2:=of_decide_eq_true c2
    refine ⟨_,λ_ _ h=>h,_,rfl,_,_,rfl,rfl,rs.length - (k+1),⋯,k+1,rfl,rfl,c1,λq hq=>?_,rfl⟩
    rw [wbz,gq] at hq
    rcases wbk.mp hq with z | z
    ·exact before q z
    ·rw [war.mp z];exact c2
   ·have c2:¬ d.1*c.2<c.1*d.2:=λz=>c2 (decide_eq_true z)
    show qcK K _ _ _
    refine ⟨_,rfl,_,rfl,w,ys,rfl,hw1,rfl,_,rfl,qbr (λc3=>?_) (λ_=>?_)⟩
    ·have c3:V.int (k:Int)=V.int (ys.length:Int):=of_decide_eq_true c3
     have c3:(k:Int)=(ys.length:Int):=by injection c3
     omega
    ·refine ⟨_,rfl,_,rfl,_,_,_,_,rfl,rfl,hw1,hv,_,rfl,qpl d,qpl c,decide (d=c),qtI ⟨q,rfl,hq⟩,qtI ⟨pc,rfl,hpc⟩,okN _ 7,okN _ 7,⟨λz=>by rw [of_decide_eq_true z],λz=>decide_eq_true (datN_inj.mp z)⟩,_,rfl,?_⟩
     by_cases e:d=c
     ·rw [decide_eq_true e]
      subst e
      refine ⟨ys,rs,_,_,rfl,s,hw1,hr,ris,λq=>?_,⋯⟩
      rw [tk,wbk,<-mem,war]
      exact ⟨.inl,λz=>z.elim id λz=>z ▸ qm⟩
     ·rw [decide_eq_false e]
      refine ⟨_,rfl,qdS hw1,_,rfl,_,rfl,w,ys,_,k,rfl,rfl,hw1,⋯,sz ⋯,ins λq hq=>?_⟩
      rw [gq] at hq
      cases hq
      rcases Int.lt_trichotomy (d.1*c.2) (c.1*d.2) with z | z | z
      ·exact absurd z c2
      ·exact absurd (qtn lq (hlow c cm) z) e
      ·exact z
  ·have c1:k=rs.length:=by
    have:¬ (k:Int)<(ys.length:Int):=λz=>c1 (decide_eq_true z)
    omega
   show (if false=true then _ else _)
   refine qbr (λz=>by cases z) λ_=>?_
   show qcK K _ _ _
   refine ⟨_,rfl,_,rfl,w,ys,rfl,hw1,rfl,_,rfl,?_⟩
   rw [decide_eq_true (show V.int (k:Int)=V.int (ys.length:Int) by rw [c1,ly])]
   refine ⟨_,rfl,qdS hw1,_,rfl,_,rfl,w,ys,_,k,rfl,rfl,hw1,⋯,sz ⋯,ins λq hq=>?_⟩
   rw [wat ⋯] at hq;cases hq
 ·rintro σ H' ⟨ys,rs,o2,o3,rfl,s,hw',hr,ris,mem,li⟩
  refine ⟨_,rfl,k w ys rs H' s hw' hr ris λq=>?_⟩
  rw [mem,ll,wbv]
namespace Sr
theorem qqZ:∀ (Z:List Int) (x:Int),ev (Z.map λz:Int=>(z:Rat)) (x:Rat)=((evI Z x:Int):Rat)
 | [],_=>rfl
 | z::Z,x=>by
   show (z:Rat)+(x:Rat)*ev (Z.map λz:Int=>(z:Rat)) (x:Rat)=((z+x*evI Z x:Int):Rat)
   rw [qqZ Z x];push_cast;rfl
theorem qun {a:List Rat} (h:∀ x,ev a x=0):L a=0:=by
 obtain ⟨N,Z,N0,hZ⟩:=qhn a
 have z:∀ k,co Z k=0:=qfS ((List.range Z.length).map λi:Nat=>(i:Int)) Z (by
   unfold List.Nodup
   rw [List.pairwise_map]
   exact (List.nodup_range (n:=Z.length)).imp λh q=>h ⋯) (λt _=>by
   have:((evI Z t:Int):Rat)=0:=by rw [<-qqZ,<-hZ,ev_scal,h];grind
   exact_mod_cast this) (by rw [waa,waw];exact wad _)
 refine ext' λk=>?_
 rw [zero_c]
 show cvL a qbp k=0
 have e:(N:Rat)*cvL a qbp k=((co Z k:Int):Rat):=by
  rw [<-qat,hZ,qbV]
  unfold co
  rw [wab,wab,waf]
  cases Z[k]? <;> rfl
 rw [z k] at e
 rcases wa2.mp (e.trans (by rfl:((0:Int):Rat)=0)) with q | q
 ·exact absurd q (qaV N0)
 ·exact q
theorem ev_ext {a b:List Rat} (h:∀ x,ev a x=ev b x):L a=L b:=by
 have z:=qun (a:=qaN a (b.map ((-1:Rat)*·))) λx=>by rw [ev_add,ev_scal,h];grind
 rw [L_add,L_scal] at z
 have:num (-1)=(-1:Sr):=qiT 1
 rw [this] at z
 grind
noncomputable def mvR (c:Rat):List Rat->List Rat
 | []=>[]
 | x::a=>qaN [x] (qaJ [c,1] (mvR c a))
theorem ev_mvR (c:Rat):∀ (a:List Rat) (x:Rat),ev (mvR c a) x=ev a (x+c)
 | [],_=>rfl
 | y::a,x=>by
   show ev (qaN [y] (qaJ [c,1] (mvR c a))) x=y+(x+c)*ev a (x+c)
   rw [ev_add,ev_mul,ev_mvR c a]
   show y+x*0+(c+x*(1+x*0))*_=_
   grind
noncomputable def mv (c:Rat) (f:Sr):Sr:=open Classical in if h:Pol f then L (mvR c h.choose) else 0
theorem mv_L (c:Rat) (a:List Rat):mv c (L a)=L (mvR c a):=by
 unfold mv
 rw [dif_pos (Pol.L a)]
 exact ev_ext λx=>by rw [ev_mvR,ev_mvR];exact ev_congr (Exists.choose_spec (Pol.L a)).symm _
theorem Pol.mv {c:Rat} {f:Sr} (h:Pol f):Pol (mv c f):=by obtain ⟨a,rfl⟩:=h;rw [mv_L];exact Pol.L _
theorem qo1 {c:Rat} {f g:Sr} (pf:Pol f) (pg:Pol g):mv c (f+g)=mv c f+mv c g:=by
 obtain ⟨a,rfl⟩:=pf;obtain ⟨b,rfl⟩:=pg
 rw [<-L_add,mv_L,mv_L,mv_L,<-L_add]
 exact ev_ext λx=>by rw [ev_add,ev_mvR,ev_mvR,ev_mvR,ev_add]
theorem mv_mul {c:Rat} {f g:Sr} (pf:Pol f) (pg:Pol g):mv c (f*g)=mv c f*mv c g:=by
 obtain ⟨a,rfl⟩:=pf;obtain ⟨b,rfl⟩:=pg
 rw [<-L_mulRow,mv_L,mv_L,mv_L,<-L_mulRow]
 exact ev_ext λx=>by rw [ev_mul,ev_mvR,ev_mvR,ev_mvR,ev_mul]
theorem mv_num {c:Rat} (s:Rat):mv c (num s)=num s:=by
 rw [num_L,mv_L]
 exact ev_ext λx=>by rw [ev_mvR];show s+_*0=s+_*0;grind
theorem qr5 {c:Rat} {f:Sr} (pf:Pol f):mv (-c) (mv c f)=f:=by
 obtain ⟨a,rfl⟩:=pf
 rw [mv_L,mv_L]
 exact ev_ext λx=>by rw [ev_mvR,ev_mvR];congr 1;grind
theorem quB (c:Rat):mv c (X 1)=X 1+num c:=by
 show mv c (L [0,1])=L [0,1]+num c
 rw [mv_L,num_L,<-L_add]
 exact ev_ext λx=>by rw [ev_mvR,ev_add];show 0+(x+c)*(1+_*0)=0+x*(1+x*0)+(c+x*0);grind
theorem mv_D {c:Rat} {f:Sr} (pf:Pol f):mv c (D f)=D (mv c f):=by
 obtain ⟨a,rfl⟩:=pf
 induction a with
 | nil=>
   have z:(0:Sr)=num 0:=rfl
   rw [qs1,L_nil,z,mv_num,qg4];rfl
 | cons x a ih=>
   have pa:=Pol.L a
   have px:Pol (X 1):=Pol.L _
   rw [qoc,qob,D_X,qg4,qo1 (Pol.num x) (px.mul pa),mv_mul px pa,quB,mv_num,qob,qg4]
   have e:D ((X 1+num c)*mv c (L a))=mv c (L a)+X 1*D (mv c (L a))+num c*D (mv c (L a)):=by
    rw [show (X 1+num c)*mv c (L a)=X 1*mv c (L a)+num c*mv c (L a) by grind,qob,D_X,D_num]
   rw [e,<-ih,show (0:Sr)+(L a+X 1*D (L a))=L a+X 1*D (L a) by grind,qo1 pa (px.mul pa.D),mv_mul px pa.D,quB]
   grind
theorem Cs.mv {c:Rat} {f g:Sr} (pf:Pol f) (pg:Pol g) (h:Cs f g):Cs (mv c f) (mv c g):=by
 obtain ⟨U,W,pU,pW,e⟩:=h
 refine ⟨Sr.mv c U,Sr.mv c W,pU.mv,pW.mv,?_⟩
 rw [<-mv_mul pU pf,<-mv_mul pW pg,<-qo1 (pU.mul pf) (pW.mul pg),e]
 exact mv_num 1
theorem mv_ne {c:Rat} {f:Sr} (pf:Pol f) (h:f≠0):mv c f≠0:=λz=>h (by
 rw [<-qr5 (c:=c) pf,z];exact mv_num 0)
end Sr
theorem qo2 {a b c:List Int} (h:si c=si a*si b) (x:Rat):evQ c x=evQ a x*evQ b x:=by
 have e:Sr.L (qR c)=Sr.L (qaJ (qR a) (qR b)):=by rw [Sr.L_mulRow,qgt,qgt,qgt];exact h
 rw [qbb,qbb,qbb,Sr.ev_congr e x,Sr.ev_mul]
theorem qo3 {a b:List Int} {κ:Rat} (h:si b=Sr.num κ*si a) (x:Rat):evQ b x=κ*evQ a x:=by
 have e:Sr.L (qR b)=Sr.L ((qR a).map (κ*·)):=by rw [Sr.L_scal,qgt,qgt];exact h
 rw [qbb,qbb,Sr.ev_congr e x,Sr.ev_scal]
theorem qo4 {F S:List Int} (h:Rad F S):Rad F (sq F):=by
 unfold sq
 rw [dif_pos ⟨S,h⟩]
 exact Classical.choose_spec (⟨S,h⟩:∃ S,Rad F S)
theorem qkb:(1:Sr)≠0:=λz=>by
 rw [<-Sr.num_one,show (0:Sr)=Sr.num 0 from rfl] at z
 have e:(1:Rat)*qbp 0=0*qbp 0:=congrFun (congrArg Sr.c z) 0
 have o:(qbp 0:Rat)=1:=rfl
 rw [o] at e
 grind
theorem qr6:Sr.Pol 1:=Sr.num_one ▸ Sr.Pol.num 1
theorem qqf {q q':Sr} (pq:Sr.Pol q) (pq':Sr.Pol q') (h:q'*q=1):∃ c:Rat,c≠0/\q=Sr.num c:=by
 have q0:q≠0:=λz=>qkb (by rw [<-h,z];grind)
 have q0':q'≠0:=λz=>qkb (by rw [<-h,z];grind)
 obtain ⟨n,hn⟩:=pq.bn
 obtain ⟨n',hn'⟩:=pq'.bn
 rcases Sr.top_ex n hn with z | ⟨j,_,j0,jb⟩
 ·exact absurd z q0
 rcases Sr.top_ex n' hn' with z | ⟨i,_,i0,ib⟩
 ·exact absurd z q0'
 have tm:=(Sr.top_mul ib jb).1
 rw [h,<-Sr.num_one] at tm
 have tm:(1:Rat)*qbp (i+j)=q'.c i*q.c j:=tm
 have nz:q'.c i*q.c j≠0:=λz=>(wa2.mp z).elim i0 j0
 have ij:j=0:=by
  rcases wbt j with z | z
  ·exact z
  ·obtain ⟨m,hm⟩:∃ m,i+j=m+1:=⟨i+j - 1,⋯⟩
   rw [hm] at tm
   have o:(qbp (m+1):Rat)=0:=rfl
   rw [o] at tm
   exact absurd (by rw [<-tm];grind) nz
 subst ij
 refine ⟨q.c 0,j0,Sr.ext' λk=>?_⟩
 show q.c k=q.c 0*qbp k
 cases k with
 | zero=>show _=_*(1:Rat);grind
 | succ k=>rw [jb (k+1) ⋯];show _=_*(0:Rat);grind
theorem Rad.prop {F S S':List Int} (h:Rad F S) (h':Rad F S'):∃ κ:Rat,κ≠0/\∀ x,evQ S' x=κ*evQ S x:=by
 obtain ⟨f0,c,L,c0,r,e⟩:=h
 obtain ⟨_,c',L',c0',r',e'⟩:=h'
 obtain ⟨q,pq,eq⟩:=ql4 f0 r r'
 obtain ⟨q',pq',eq'⟩:=ql4 f0 r' r
 obtain ⟨T,M,pT,pL,pM,e1,_⟩:=r
 have L0:L≠0:=λz=>f0 (by rw [e1,z];grind)
 have u:q'*q=1:=Sr.cancel (pq'.mul pq) qr6 pL L0 (by rw [show q'*q*L=q'*(q*L) by grind,<-eq,<-eq'];grind)
 obtain ⟨k,k0,ek⟩:=qqf pq pq' u
 refine ⟨c'*k*c⁻¹,λz=>?_,λx=>qo3 ?_ x⟩
 ·rcases wa2.mp z with z | z
  ·exact (wa2.mp z).elim c0' k0
  ·have i:c*c⁻¹=1:=wbb _ c0
   rw [z] at i;grind
 ·rw [e',eq,ek,e,<-Sr.num_num,<-Sr.num_num]
  have i:=Sr.num_inv c0
  rw [show Sr.num c'*Sr.num k*Sr.num c⁻¹*(Sr.num c*L)=Sr.num c'*Sr.num k*(Sr.num c⁻¹*Sr.num c)*L by grind,i];grind
theorem qto {rs:List Int} (q:QI (co rs) (co (dI rs)) qbp):∃ (U V:List Int) (d:Int),d≠0/\∀ x:Rat,evQ U x*evQ rs x+evQ V x*dQ rs x=(d:Rat):=by
 obtain ⟨d,d0,U,V,hd⟩:=q
 refine ⟨U,V,d,d0,λx=>?_⟩
 have e:si [d]=si U*si rs+si V*si (dI rs):=by
  rw [qj4 U,qj4 V,Sr.L_mul,Sr.L_mul]
  refine Sr.ext' λk=>?_
  show ((co [d] k:Int):Rat)=cvL (U.map λz:Int=>(z:Rat)) (si rs).c k+cvL (V.map λz:Int=>(z:Rat)) (si (dI rs)).c k
  have o:co [d] k=d*qbp k:=by
   cases k with
   | zero=>show d=d*1;omega
   | succ k=>show (0:Int)=d*0;omega
  rw [o,hd k]
  have c1:=qey (co rs) U k
  have c2:=qey (co (dI rs)) V k
  push_cast
  rw [c1,c2];rfl
 have e1:Sr.L (qR [d])=Sr.L (qaN (qaJ (qR U) (qR rs)) (qaJ (qR V) (qR (dI rs)))):=by rw [Sr.L_add,Sr.L_mulRow,Sr.L_mulRow,qgt,qgt,qgt,qgt,qgt];exact e
 have e2:=Sr.ev_congr e1 x
 rw [Sr.ev_add,Sr.ev_mul,Sr.ev_mul,<-qbb,<-qbb,<-qbb,<-qbb,<-qbb,qti] at e2
 rw [<-e2]
 show (d:Rat)+x*0=d;grind
theorem Rad.qi {F S:List Int} (h:Rad F S):QI (co S) (co (dI S)) qbp:=qtg h.1 h.2
theorem Rad.sf {F S:List Int} (h:Rad F S):Sf S:=λx z1 z2=>by
 obtain ⟨U,V,d,d0,e⟩:=qto h.qi
 have:=e x
 rw [z1,z2] at this
 exact qaV d0 (by rw [<-this];grind)
theorem Rad.same {F S S':List Int} (h:Rad F S) (h':Rad F S') (a b:Rat):Nf (evQ S') a b=Nf (evQ S) a b:=by
 obtain ⟨κ,k0,e⟩:=h.prop h'
 rw [show evQ S'=λt=>κ*evQ S t from funext e]
 exact Nf.scl k0
theorem Rad.zero {F S:List Int} (h:Rad F S) (x:Rat):evQ F x=0↔evQ S x=0:=by
 rw [qbb,qbb];exact qqa h.1 h.2 x
theorem qtp:∀ l:List Rat,Pn l.length (Sr.ev l)
 | []=>⟨0,λ_=>rfl⟩
 | a::l=>⟨a,Sr.ev l,qtp l,λ_=>rfl⟩
theorem Rad.pow {F S:List Int} (h:Rad F S):∃ (K:Rat->Rat) (k e:Nat),Pn k K/\∀ x,evQ F x*K x=1*evQ S x ^ e:=by
 obtain ⟨f0,c,L,c0,⟨T,M,⟨t,rfl⟩,⟨l,rfl⟩,pM,e1,e2,cs⟩,e3⟩:=h
 have T0:Sr.L t≠0:=λz=>f0 (by rw [e1,z];grind)
 have hD:Sr.D (Sr.L t)*Sr.L l=(M - Sr.D (Sr.L l))*Sr.L t:=by
  rw [e1,Sr.D_mul (Sr.Pol.L t)] at e2
  grind
 obtain ⟨m,a,⟨a',rfl⟩,pw⟩:=Sr.rad_pow _ _ _ _ (Sr.L_bn t) T0 (Sr.Pol.L l) (pM.sub (Sr.Pol.L l).D) hD
 have hlm:∀ n:Nat,∃ w:List Rat,Sr.L w=Sr.L l ^ n/\∀ x,Sr.ev w x=Sr.ev l x ^ n:=λn=>by
  induction n with
  | zero=>exact ⟨[1],by rw [<-Sr.num_L,Sr.num_one];grind,λx=>by show (1:Rat)+x*0=_;rw [wao];grind⟩
  | succ n ih=>
    obtain ⟨w,h1,h2⟩:=ih
    exact ⟨qaJ w l,by rw [Sr.L_mulRow,h1];grind,λx=>by rw [Sr.ev_mul,h2,waj]⟩
 obtain ⟨w,w1,w2⟩:=hlm m
 have eS:∀ x,evQ S x=c*Sr.ev l x:=λx=>by
  have er:Sr.L (qR S)=Sr.L (l.map (c*·)):=by rw [qgt,Sr.L_scal];exact e3
  rw [qbb,Sr.ev_congr er,Sr.ev_scal]
 have eF:∀ x,evQ F x=Sr.ev t x*Sr.ev l x:=λx=>by
  have en:Sr.L (qR F)=Sr.L (qaJ t l):=by rw [qgt,Sr.L_mulRow];exact e1
  rw [qbb,Sr.ev_congr en,Sr.ev_mul]
 refine ⟨λx=>c ^ (m+1)*Sr.ev a' x,a'.length,m+1,(qtp a').scale _,λx=>?_⟩
 have v:Sr.ev l x ^ m=Sr.ev a' x*Sr.ev t x:=by
  rw [<-w2]
  have:Sr.L w=Sr.L (qaJ a' t):=by rw [w1,Sr.L_mulRow];exact pw
  rw [Sr.ev_congr this,Sr.ev_mul]
 rw [eF,eS]
 have mp:∀ n:Nat,(c*Sr.ev l x) ^ n=c ^ n*Sr.ev l x ^ n:=λn=>by
  induction n with
  | zero=>rw [wao,wao,wao];grind
  | succ n ih=>rw [waj,waj,waj,ih];grind
 rw [mp,waj (Sr.ev l x),v];grind
theorem qk7 (R:Rat) (R0:0<=R):∀ l:List Int,∃ C,0<=C/\∀ x,-R<=x->x<=R->evQ l x<=C/\-evQ l x<=C
 | []=>⟨0,by grind,λx _ _=>by show (0:Rat)<=0/\-(0:Rat)<=0;constructor <;> grind⟩
 | a::l=>by
   obtain ⟨C,C0,hC⟩:=qk7 R R0 l
   obtain ⟨a1,a2⟩:=iabs a
   have n0:(0:Rat)<=((a.natAbs:Nat):Rat):=by exact_mod_cast wae _
   refine ⟨((a.natAbs:Nat):Rat)+R*C,by have:=wah R0 C0;grind,λx x1 x2=>?_⟩
   obtain ⟨h1,h2⟩:=hC x x1 x2
   obtain ⟨p1,p2⟩:=qb4 x2 (show -x<=R by grind) h1 h2
   show (a:Rat)+x*evQ l x<=_/\-((a:Rat)+x*evQ l x)<=_
   constructor <;> grind
theorem rbd (x:Rat):∃ N:Rat,0<=N/\x<=N/\-x<=N:=by
 rcases (wam:x<=0\/0<=x) with z | z
 ·exact ⟨-x,by grind,by grind,by grind⟩
 ·exact ⟨x,by grind,by grind,by grind⟩
theorem Rad.change {F S:List Int} (h:Rad F S) {a b:Rat} (ab:a<b) (n:evQ F a*evQ F b<0):Nf (evQ S) a b≠0:=by
 obtain ⟨K,k,e,pK,hK⟩:=h.pow
 obtain ⟨U,V,d,d0,uv⟩:=qto h.qi
 obtain ⟨A,A0,A1,A2⟩:=rbd a
 obtain ⟨B,B0,B1,B2⟩:=rbd b
 obtain ⟨C,C0,hC⟩:=qk7 (A+B) (by grind) U
 obtain ⟨D,D0,hD⟩:=qk7 (A+B) (by grind) V
 obtain ⟨E,E0,E1,E2⟩:=rbd ((d:Rat)⁻¹)
 have di:(d:Rat)*(d:Rat)⁻¹=1:=wbb _ (qaV d0)
 have CE:=wah C0 E0
 have DE:=wah D0 E0
 have ga:evQ S a≠0:=λz=>by rw [(h.zero a).mpr z] at n;grind
 have gb:evQ S b≠0:=λz=>by rw [(h.zero b).mpr z] at n;grind
 refine qop (U:=λx=>evQ U x*(d:Rat)⁻¹) (V:=λx=>evQ V x*(d:Rat)⁻¹) (H:=1+C*E+D*E) h.sf (evQ_pn' F) pK (by grind) hK ab n ga gb (by grind) (λx x1 x2=>?_) (λx x1 x2=>?_) λx x1 x2=>?_
 ·obtain ⟨h1,h2⟩:=hC x (by grind) (by grind)
  obtain ⟨p1,p2⟩:=qb4 h1 h2 E1 E2
  constructor <;> grind
 ·obtain ⟨h1,h2⟩:=hD x (by grind) (by grind)
  obtain ⟨p1,p2⟩:=qb4 h1 h2 E1 E2
  constructor <;> grind
 ·have:=uv x
  show evQ U x*(d:Rat)⁻¹*evQ S x+evQ V x*(d:Rat)⁻¹*dQ S x=1
  rw [show evQ U x*(d:Rat)⁻¹*evQ S x+evQ V x*(d:Rat)⁻¹*dQ S x=(evQ U x*evQ S x+evQ V x*dQ S x)*(d:Rat)⁻¹ by grind,this,di]
theorem Rad.scl {F G S:List Int} {κ:Rat} (k0:κ≠0) (e:si G=Sr.num κ*si F) (h:Rad F S):Rad G S:=by
 obtain ⟨f0,c,L,c0,⟨T,M,pT,pL,pM,e1,e2,cs⟩,e3⟩:=h
 refine ⟨λz=>f0 ?_,c,L,c0,⟨Sr.num κ*T,M,(Sr.Pol.num κ).mul pT,pL,pM,by rw [e,e1];grind,by rw [e,Sr.D_num,e2];grind,cs⟩,e3⟩
 have i:=Sr.num_inv k0
 rw [show si F=Sr.num κ⁻¹*Sr.num κ*si F by rw [i];grind,show Sr.num κ⁻¹*Sr.num κ*si F=Sr.num κ⁻¹*(Sr.num κ*si F) by grind,<-e,z];grind
theorem Rad.unscl {F G S:List Int} {κ:Rat} (k0:κ≠0) (e:si G=Sr.num κ*si F) (h:Rad G S):Rad F S:=by
 have i:=Sr.num_inv k0
 refine h.scl (κ:=κ⁻¹) (λz=>?_) ?_
 ·have j:κ*κ⁻¹=1:=wbb _ k0
  rw [z] at j;grind
 ·rw [e,show Sr.num κ⁻¹*(Sr.num κ*si F)=Sr.num κ⁻¹*Sr.num κ*si F by grind,i];grind
theorem Rad.sqr {F G S:List Int} (h:Rad F S) (e:si G=si F*si F):Rad G S:=by
 obtain ⟨f0,c,L,c0,⟨T,M,pT,pL,pM,e1,e2,cs⟩,e3⟩:=h
 have pF:Sr.Pol (si F):=by rw [e1];exact pT.mul pL
 have two:Sr.num 2=1+1:=by
  rw [<-Sr.num_one]
  exact Sr.ext' λk=>by show (2:Rat)*qbp k=1*qbp k+1*qbp k;grind
 have i:=Sr.num_inv (x:=2) (by grind)
 obtain ⟨U,W,pU,pW,hU⟩:=cs
 refine ⟨by rw [e];exact Sr.ne_mul pF pF f0 f0,c,L,c0,⟨T*si F,Sr.num 2*M,pT.mul pF,pL,(Sr.Pol.num 2).mul pM,?_,?_,U,Sr.num 2⁻¹*W,pU,(Sr.Pol.num _).mul pW,?_⟩,e3⟩
 ·rw [e]
  have:si F*si F=(T*L)*si F:=by rw [<-e1]
  rw [this];grind
 ·rw [e,Sr.D_mul pF,e2,two];grind
 ·rw [show U*L+Sr.num 2⁻¹*W*(Sr.num 2*M)=U*L+Sr.num 2⁻¹*Sr.num 2*(W*M) by grind,i,<-hU];grind
theorem Rad.mv {F G S:List Int} {c:Rat} (h:Rad F S) (e:∀ x,evQ G x=evQ F (x+c)):∃ (S':List Int) (N:Rat),N≠0/\Rad G S'/\∀ x,evQ S' x=N*evQ S (x+c):=by
 have eG:si G=Sr.mv c (si F):=by
  rw [<-qgt,<-qgt,Sr.mv_L]
  exact Sr.ev_ext λx=>by rw [Sr.ev_mvR,<-qbb,<-qbb];exact e x
 obtain ⟨f0,k,L,k0,⟨T,M,pT,pL,pM,e1,e2,cs⟩,e3⟩:=h
 have pF:Sr.Pol (si F):=by rw [e1];exact pT.mul pL
 obtain ⟨N,Z,N0,hZ⟩:=qhn (Sr.mvR c (qR S))
 have N1:(N:Rat)≠0:=qaV N0
 have eZ:si Z=Sr.num (N:Rat)*Sr.mv c (si S):=by
  rw [<-qgt S,Sr.mv_L,<-Sr.L_scal,hZ,qj4]
 refine ⟨Z,N,N1,⟨by rw [eG];exact Sr.mv_ne pF f0,(N:Rat)*k,Sr.mv c L,λz=>(wa2.mp z).elim N1 k0,⟨Sr.mv c T,Sr.mv c M,pT.mv,pL.mv,pM.mv,?_,?_,cs.mv pL pM⟩,?_⟩,λx=>?_⟩
 ·rw [eG,<-Sr.mv_mul pT pL,<-e1]
 ·rw [eG,<-Sr.mv_D pF,e2,Sr.mv_mul pT pM]
 ·rw [eZ,e3,Sr.mv_mul (Sr.Pol.num k) pL,Sr.mv_num,<-Sr.num_num];grind
 ·have e5:Sr.L (qR Z)=Sr.L ((Sr.mvR c (qR S)).map ((N:Rat)*·)):=by rw [hZ]
  rw [qbb,Sr.ev_congr e5,Sr.ev_scal,Sr.ev_mvR,<-qbb]
theorem qr7 {F G:List Int} {c:Rat} (h:Rad F (sq F)) (h':Rad G (sq G)) (e:∀ x,evQ G x=evQ F (x+c)) (a b:Rat):Nf (evQ (sq G)) a b=Nf (evQ (sq F)) (a+c) (b+c):=by
 obtain ⟨S',N,N0,r,eS⟩:=h.mv e
 rw [r.same h' a b,show evQ S'=λt=>N*(λt=>1*evQ (sq F) (c+1*t)) t from funext λt=>by rw [eS,show t+c=c+1*t by grind];grind,Nf.scl N0,Nf.aff (by grind) (by grind),show c+1*a=a+c by grind,show c+1*b=b+c by grind]
noncomputable def clL (β:Rat):Option Rat->Rat
 | none=>-β
 | some x=>if x < -β then -β else x
noncomputable def clR (β:Rat):Option Rat->Rat
 | none=>β
 | some x=>if β<x then β else x
theorem qtq {S:List Int} (sf:Sf S) {β s p q:Rat} (b0:0<β) (fp:∀ x,β<=x->0<evQ S x) (fm:∀ x,x<=-β->0<evQ S x*s) (pq:p<q) :
  Nf (evQ S) p q=if (if p < -β then -β else p)<(if β<q then β else q) then Nf (evQ S) (if p < -β then -β else p) (if β<q then β else q) else 0:=by
 have L:∀ p q,p<q->q<=-β->Nf (evQ S) p q=0:=λp q h1 h2=>Nf.one h1 λx _ x2=>fm x (by grind)
 have R:∀ p q,p<q->β<=p->Nf (evQ S) p q=0:=λp q h1 h2=>Nf.one (s:=1) h1 λx x1 _=>by have:=fp x (by grind);grind
 have zl:evQ S (-β)≠0:=λz=>by have:=fm (-β) (by grind);rw [z] at this;grind
 have zr:evQ S β≠0:=λz=>by have:=fp β (by grind);rw [z] at this;grind
 have right:∀ p,p<β->β<q->Nf (evQ S) p q=Nf (evQ S) p β:=λp h1 h2=>by
  rw [sf.node h1 h2,R β q h2 (by grind),if_neg zr];rfl
 by_cases c1:p < -β
 ·rw [if_pos c1]
  by_cases c2:-β<q
  ·have e:Nf (evQ S) p q=Nf (evQ S) (-β) q:=by rw [sf.node c1 c2,L p (-β) c1 (by grind),if_neg zl];omega
   rw [e]
   by_cases c3:β<q
   ·rw [if_pos c3,if_pos (by grind),right _ (by grind) c3]
   ·rw [if_neg c3,if_pos c2]
  ·rw [if_neg (show ¬ β<q by grind),if_neg c2,L p q pq (by grind)]
 ·rw [if_neg c1]
  by_cases c3:β<q
  ·rw [if_pos c3]
   by_cases c4:p<β
   ·rw [if_pos c4,right p c4 c3]
   ·rw [if_neg c4,R p q pq (by grind)]
  ·rw [if_neg c3,if_pos pq]
theorem qq0 (o:Option Rat):∃ A,0<=A/\∀ x,o=some x->x<=A/\-x<=A:=by
 cases o with
 | none=>exact ⟨0,by grind,λx h=>nomatch h⟩
 | some y=>
   obtain ⟨N,N0,N1,N2⟩:=rbd y
   exact ⟨N,N0,λx h=>by cases h;exact ⟨N1,N2⟩⟩
theorem qqg {ns rs:List Int} (R:Rad ns rs) {β s:Rat} (b0:0<β) (fp:∀ x,β<=x->0<evQ rs x) (fm:∀ x,x<=-β->0<evQ rs x*s) {lo hi:Option Rat} (lt:∀ x y,lo=some x->hi=some y->x<y) :
  (¬ clL β lo<clR β hi->Cnt ns (sq ns) lo hi 0)/\(clL β lo<clR β hi->Cnt ns (sq ns) lo hi (Nf (evQ rs) (clL β lo) (clR β hi)+atE ns hi)):=by
 have Rq:=qo4 R
 obtain ⟨A,A0,hA⟩:=qq0 lo
 obtain ⟨B,B0,hB⟩:=qq0 hi
 have key:∀ r r',β+1+A+B<=r->β+1+A+B<=r'->Nf (evQ (sq ns)) (lo.getD (-r)) (hi.getD r')=if clL β lo<clR β hi then Nf (evQ rs) (clL β lo) (clR β hi) else 0:=λr r' hr hr'=>by
  rw [R.same Rq]
  have pq:lo.getD (-r)<hi.getD r':=by
   cases lo with
   | none=>
     cases hi with
     | none=>show -r<r';grind
     | some y=>have:=hB y rfl;show -r<y;grind
   | some x=>
     cases hi with
     | none=>have:=hA x rfl;show x<r';grind
     | some y=>exact lt x y rfl rfl
  rw [qtq R.sf b0 fp fm pq]
  have e1:(if lo.getD (-r) < -β then -β else lo.getD (-r))=clL β lo:=by
   cases lo with
   | none=>show (if -r < -β then -β else -r) = -β;rw [if_pos (by grind)]
   | some x=>rfl
  have e2:(if β<hi.getD r' then β else hi.getD r')=clR β hi:=by
   cases hi with
   | none=>show (if β<r' then β else r')=β;rw [if_pos (by grind)]
   | some x=>rfl
  rw [e1,e2]
 constructor
 ·intro c
  refine ⟨β+1+A+B,λr r' hr hr'=>?_⟩
  rw [key r r' hr hr',if_neg c]
  cases hi with
  | none=>rfl
  | some y=>
    have nz:evQ ns y≠0:=λz=>by
     have z:=(R.zero y).mp z
     have n1:¬ β<=y:=λh=>by have:=fp y h;rw [z] at this;grind
     have n2:¬ y<=-β:=λh=>by have:=fm y h;rw [z] at this;grind
     refine c ?_
     have e2:clR β (some y)=y:=if_neg (by grind)
     rw [e2]
     cases lo with
     | none=>show -β<y;grind
     | some x=>
       have:=lt x y rfl rfl
       show (if x < -β then -β else x)<y
       split <;> grind
    show 0=0+if evQ ns y=0 then 1 else 0
    rw [if_neg nz]
 ·intro c
  refine ⟨β+1+A+B,λr r' hr hr'=>?_⟩
  rw [key r r' hr hr',if_pos c]
theorem qr8 {rs:List Int} {e:Int} (lz:Lz rs) (pos:0<lst' rs) (h:∀ i,i+1<rs.length->2 ^ (rs.length - 1 - i)*(co rs i).natAbs*2 ^ ((rs.length - 1 - i)*(-e).toNat)<=(lst' rs).natAbs*2 ^ ((rs.length - 1 - i)*e.toNat)) {β:Rat} (hβ:β*((2 ^ (-e).toNat:Nat):Rat)=((2 ^ e.toNat:Nat):Rat)) :
  0<β/\(∀ x,β<=x->0<evQ rs x)/\∃ s:Rat,∀ x,x<=-β->0<evQ rs x*s:=by
 have ne:rs≠[]:=wb1.mp lz.1
 have p1:(0:Rat)<((2 ^ (-e).toNat:Nat):Rat):=by exact_mod_cast wav ∅
 have p2:(0:Rat)<((2 ^ e.toNat:Nat):Rat):=by exact_mod_cast wav ∅
 have b0:0<β:=wbq.mp λz=>by
  have:=wah (show 0<=-β by grind) (show 0<=((2 ^ (-e).toNat:Nat):Rat) by grind)
  grind
 have l0:(0:Rat)<((lst' rs:Int):Rat):=by exact_mod_cast pos
 have ln:(((lst' rs).natAbs:Nat):Rat)=((lst' rs:Int):Rat):=by
  have:(((lst' rs).natAbs:Nat):Int)=lst' rs:=by omega
  exact_mod_cast this
 have cb:∀ i,i+1<rs.length->((co rs i:Int):Rat)<=((lst' rs:Int):Rat)*(β / 2) ^ (rs.length - 1 - i)/\-((co rs i:Int):Rat)<=((lst' rs:Int):Rat)*(β / 2) ^ (rs.length - 1 - i):=λi hi=>by
  have hh:=h i hi
  generalize rs.length - 1 - i=k at hh ⊢
  have q:(β / 2) ^ k*(((2 ^ k*2 ^ (k*(-e).toNat):Nat)):Rat)=((2 ^ (k*e.toNat):Nat):Rat):=by
   have e1:((2 ^ k*2 ^ (k*(-e).toNat):Nat):Rat)=(2*((2 ^ (-e).toNat:Nat):Rat)) ^ k:=by
    rw [wbl k,Nat.pow_mul,<-Nat.mul_pow]
    push_cast
    rfl
   have e2:((2 ^ (k*e.toNat):Nat):Rat)=(((2 ^ e.toNat:Nat):Rat)) ^ k:=by
    rw [wbl k,Nat.pow_mul]
    push_cast
    rfl
   rw [e1,e2,<-qgI,<-hβ]
   congr 1
   grind
  have hh:(((co rs i).natAbs:Nat):Rat)*((2 ^ k*2 ^ (k*(-e).toNat):Nat):Rat)<=((lst' rs:Int):Rat)*((2 ^ (k*e.toNat):Nat):Rat):=by
   rw [<-ln]
   have:(co rs i).natAbs*(2 ^ k*2 ^ (k*(-e).toNat))<=(lst' rs).natAbs*2 ^ (k*e.toNat):=by
    rw [show (co rs i).natAbs*(2 ^ k*2 ^ (k*(-e).toNat))=2 ^ k*(co rs i).natAbs*2 ^ (k*(-e).toNat) by rw [wbl (2 ^ k) (co rs i).natAbs,Nat.mul_assoc]]
    exact hh
   exact_mod_cast this
  have w0:(0:Rat)<((2 ^ k*2 ^ (k*(-e).toNat):Nat):Rat):=by exact_mod_cast Nat.mul_pos (wav ∅) (wav ∅)
  rw [<-q] at hh
  generalize ((2 ^ k*2 ^ (k*(-e).toNat):Nat):Rat)=w at *
  generalize (β / 2) ^ k=g at *
  have le:(((co rs i).natAbs:Nat):Rat)<=((lst' rs:Int):Rat)*g:=wb0.mp λz=>by
   have:=wan (show 0<(((co rs i).natAbs:Nat):Rat) - ((lst' rs:Int):Rat)*g by grind) w0
   grind
  obtain ⟨a1,a2⟩:=iabs (co rs i)
  exact ⟨Rat.le_trans a1 le,Rat.le_trans a2 le⟩
 have yp:∀ (y:Rat) (n:Nat),0<y->0<y ^ n:=λy n y0=>by
  induction n with
  | zero=>rw [wao];grind
  | succ n ih=>rw [waj];exact wan ih y0
 refine ⟨b0,λx hx=>?_,(-1) ^ (rs.length - 1),λx hx=>?_⟩
 ·have f:=qjf (γ:=β / 2) (y:=x / 2) (s:=1) l0 (by grind) (by grind) (.inl rfl) rs ne rfl cb
  have o:∀ n:Nat,(1:Rat) ^ n=1:=λn=>by
   induction n with
   | zero=>rw [wao]
   | succ n ih=>rw [waj,ih];grind
  rw [o,show (1:Rat)*(2*(x / 2))=x by grind] at f
  have:=wan l0 (yp (x / 2) (rs.length - 1) (by grind))
  grind
 ·have f:=qjf (γ:=β / 2) (y:=-x / 2) (s:=-1) l0 (by grind) (by grind) (.inr rfl) rs ne rfl cb
  rw [show (-1:Rat)*(2*(-x / 2))=x by grind] at f
  have:=wan l0 (yp (-x / 2) (rs.length - 1) (by grind))
  grind
theorem qez {a b:Nu} (a0:0<a.2) (b0:0<b.2):val a<val b↔a.1*b.2<b.1*a.2:=by
 have h1:(0:Rat)<(a.2:Rat):=by exact_mod_cast a0
 have h2:(0:Rat)<(b.2:Rat):=by exact_mod_cast b0
 have q1:val a*(a.2:Rat)=a.1:=wb8 (by grind)
 have q2:val b*(b.2:Rat)=b.1:=wb8 (by grind)
 have p:=wan h1 h2
 have e1:((a.1*b.2:Int):Rat)=val a*((a.2:Rat)*(b.2:Rat)):=by rw [wbw,<-q1];grind
 have e2:((b.1*a.2:Int):Rat)=val b*((a.2:Rat)*(b.2:Rat)):=by rw [wbw,<-q2];grind
 constructor
 ·intro h
  have:((a.1*b.2:Int):Rat)<((b.1*a.2:Int):Rat):=by
   rw [e1,e2]
   have:=wan (show 0<val b - val a by grind) p
   grind
  exact_mod_cast this
 ·intro h
  have h:((a.1*b.2:Int):Rat)<((b.1*a.2:Int):Rat):=by exact_mod_cast h
  rw [e1,e2] at h
  refine wbq.mp λz=>?_
  have:=wah (show 0<=val a - val b by grind) (show 0<=(a.2:Rat)*(b.2:Rat) by grind)
  grind
theorem qr9 {l:List Nu} (hl:qbI l) (x:Rat):evN l x=evQ (qem l) x / ((qe1 l:Int):Rat):=by
 unfold evN
 have e:pwo l=λi=>toQ (co (qem l)) i / ((qe1 l:Int):Rat):=funext λi=>qsS hl (qdT hl) i
 rw [e,qiY,qk3]
 congr 2
 refine wcg λi=>?_
 rw [waf]
 rcases wap i l.length with q | q
 ·have q':i<(qem l).length:=by rw [qgG];exact q
  rw [wb2 q,wag q']
  show some ((qem l).getD i 0)=_
  rw [wab,wag q'];rfl
 ·rw [wat (by rw [waw];exact q),wat (by rw [qgG];exact q)];rfl
theorem qkc {l:List Int} {z:Int} (h:z∈l):∃ k,co l k=z:=by
 obtain ⟨i,hi,rfl⟩:=wcs h
 exact ⟨i,by unfold co;rw [wab,wag hi];rfl⟩
theorem EndV.kp {H H':Hp} {v:V} {o:Option Nu} (h:EndV H v o) (s:Same H H'):EndV H' v o:=by
 cases o with
 | none=>exact h
 | some q=>obtain ⟨a,e,n,r⟩:=h;exact ⟨a,e,s _ _ n,r⟩
structure Cl (H:Hp) (v:V) (x:Rat) (a:Nu):Prop where
 ref:∃ p,v=.ref p/\Nm H p a.1 a.2
 pos:0<a.2
 b1:Bd 210 a.1
 b2:Bd 210 a.2
 val:val a=x
theorem qgv (h:qbk K vs H Q E):qhc K { nx:=λ_ H'=>Q .non H',rt:=Q } (L2.start ["P","low","high","row","exponent","bound","below","start","end","many"] vs) H:=by
 obtain ⟨p,ns,lo,hi,v,w,rfl,⟨xs,l,κ,hp,hN,G,l1,l9,k0,eκ⟩,hv,hw,lt,k⟩:=h
 obtain ⟨bZ,bB,b1⟩:=G.clr
 have cl:=qgG l
 have lzN:=qmC (qrR G.low G.nz) λz=>by have:=congrArg List.length z;rw [cl] at this;have:l.length=0:=this;omega
 refine qck (qrt (qpP (qrt ⟨_,rfl,p,xs,l,qe1 l,rfl,hp,hN,G.low,qdT G.low,bB.mono ∅,λq hq=>(b1 q hq).mono ∅,⋯,λr0 a0 H1 s1 hr0 ha0=>⟨_,_,_,_,rfl,rfl,hr0,rfl,a0,qem l,rfl,ha0,lzN,bZ,⋯,λr rs H2 s2 hr lz l9' b148 rad pos=>?_⟩⟩)))
 have R:Rad ns rs:=Rad.unscl k0 eκ ⟨qrT lzN,rad⟩
 refine qeK ⟨_,rfl,r,rs,rfl,hr,lz,l9',b148,pos,λe H3 s3 e1 e2 he=>?_⟩
 show qdk K _ [some (.ref p),some v,some w,some (.ref r),some (.int e),none,none,none,none,none] H3
 have o1:blN (1:Int)=1:=by decide
 have m1:(if (0:Int) > e then 0 else e)=((e.toNat:Nat):Int):=by split <;> omega
 have m2:(if (0:Int) > -e then 0 else -e)=(((-e).toNat:Nat):Int):=by split <;> omega
 refine qck (qn7 ⟨_,rfl,e,0,rfl,1,_,rfl,rfl,⟨by rw [m1];omega,by rw [m1,o1];omega⟩,_,rfl,_,rfl,-e,0,rfl,1,_,rfl,rfl,⟨by rw [m2];omega,by rw [m2,o1];omega⟩,qrv,λt ht=>?_⟩)
 rw [m1,m2]
 show qb1 K _ [some (.ref p),some v,some w,some (.ref r),some (.int e),some (.ref t),none,none,none,none] (upd H3 t (.tup [.int (1*2 ^ ((e.toNat:Nat):Int).toNat),.int (1*2 ^ (((-e).toNat:Nat):Int).toNat)]))
 rw [wce,wce]
 have A0:(0:Int)<1*2 ^ e.toNat:=by rw [Int.one_mul];exact Int.pow_pos ∅
 have B0:(0:Int)<1*2 ^ (-e).toNat:=by rw [Int.one_mul];exact Int.pow_pos ∅
 have bA:Bd 201 (1*2 ^ e.toNat):=by
  rw [Int.one_mul]
  have:Bd (1*e.toNat+1) ((2:Int) ^ e.toNat):=by
   unfold Bd
   rw [Int.natAbs_pow]
   exact Nat.pow_lt_pow_right ∅ ⋯
  exact this.mono ⋯
 have bB2:Bd 201 (1*2 ^ (-e).toNat):=by
  rw [Int.one_mul]
  have:Bd (1*(-e).toNat+1) ((2:Int) ^ (-e).toNat):=by
   unfold Bd
   rw [Int.natAbs_pow]
   exact Nat.pow_lt_pow_right ∅ ⋯
  exact this.mono ⋯
 have eβ:val ((1*2 ^ e.toNat:Int),(1*2 ^ (-e).toNat:Int))*((2 ^ (-e).toNat:Nat):Rat)=((2 ^ e.toNat:Nat):Rat):=by
  have q:=wb8 (a:=((1*2 ^ e.toNat:Int):Rat)) (qaV (wai B0))
  have c1:(((2:Nat) ^ (-e).toNat:Nat):Rat)=((1*2 ^ (-e).toNat:Int):Rat):=by rw [Int.one_mul];push_cast;rfl
  have c2:(((2:Nat) ^ e.toNat:Nat):Rat)=((1*2 ^ e.toNat:Int):Rat):=by rw [Int.one_mul];push_cast;rfl
  rw [c1,c2];exact q
 have A200:((2 ^ e.toNat:Nat):Rat)<=((2 ^ 200:Nat):Rat):=by exact_mod_cast wbm ∅ (show e.toNat<=200 by omega)
 have B1r:(1:Rat)<=((2 ^ (-e).toNat:Nat):Rat):=by
  have:1<=2 ^ (-e).toNat:=wav ∅
  exact_mod_cast this
 obtain ⟨b0,fp,s,fm⟩:=qr8 lz pos he eβ
 have vneg:val (-(1*2 ^ e.toNat:Int),(1*2 ^ (-e).toNat:Int)) = -val ((1*2 ^ e.toNat:Int),(1*2 ^ (-e).toNat:Int)):=by
  show ((-(1*2 ^ e.toNat):Int):Rat) / _ = -(((1*2 ^ e.toNat:Int):Rat) / _)
  rw [wcf,Rat.div_def,Rat.div_def];grind
 generalize (1*2 ^ e.toNat:Int)=A at *
 generalize (1*2 ^ (-e).toNat:Int)=B at *
 have b200:val (A,B)<=((2 ^ 200:Nat):Rat):=by
  have:=wac B1r (show 0<=val (A,B) by grind)
  grind
 generalize hβ:val (A,B)=β at *
 have s4:=qah ht (.tup [.int A,.int B])
 have hb:upd H3 t (.tup [.int A,.int B]) t=some (.tup [.int A,.int B]):=qag
 generalize upd H3 t (.tup [.int A,.int B])=H4 at s4 hb ⊢
 show qb1 K _ [some (.ref p),some v,some w,some (.ref r),some (.int e),some (.ref t),none,none,none,none] H4
 refine qck (qn7 ⟨_,rfl,_,_,_,_,rfl,rfl,hb,rfl,_,rfl,_,rfl,_,_,_,_,rfl,rfl,hb,rfl,qrv,λt2 ht2=>?_⟩)
 have s5:=qah ht2 (.tup [.int (-A),.int B])
 have hb2:upd H4 t2 (.tup [.int (-A),.int B]) t2=some (.tup [.int (-A),.int B]):=qag
 show qdj K _ [some (.ref p),some v,some w,some (.ref r),some (.int e),some (.ref t),some (.ref t2),none,none,none] (upd H4 t2 (.tup [.int (-A),.int B]))
 generalize upd H4 t2 (.tup [.int (-A),.int B])=H5 at s5 hb2 ⊢
 have hb:=s5 _ _ hb
 have s05:=s1.trans (s2.trans (s3.trans (s4.trans s5)))
 have hv5:=hv.kp s05
 have hw5:=hw.kp s05
 have fin:∀ (x y:V) (a b:Nu),Cl H5 x (clL β (lo.map val)) a->Cl H5 y (clR β (hi.map val)) b->qdh K { nx:=λ_ H'=>Q V.non H',rt:=Q } [some (.ref p),some v,some w,some (.ref r),some (.int e),some (.ref t),some (.ref t2),some x,some y,none] H5:=λx y a b ca cb=>by
  obtain ⟨⟨xa,rfl,hxa⟩,ap,ab1,ab2,va⟩:=ca
  obtain ⟨⟨yb,rfl,hyb⟩,bp,bb1,bb2,vb⟩:=cb
  have lt':∀ x y,lo.map val=some x->hi.map val=some y->x<y:=λx y h1 h2=>by
   cases lo with
   | none=>cases h1
   | some a=>
     cases hi with
     | none=>cases h2
     | some b=>
       cases h1;cases h2
       exact lt a b rfl rfl
  obtain ⟨c0,c1⟩:=qqg R b0 fp fm lt'
  rw [<-va,<-vb] at c0 c1
  have Rq:=qo4 R
  refine qqF ?_
  refine qfL ⟨_,rfl,_,rfl,xa,yb,a.1,a.2,b.1,b.2,rfl,hxa,hyb,ab1.mono ∅,ab2.mono ∅,bb1.mono ∅,bb2.mono ∅,_,rfl,qbr (λc=>?_) (λc=>?_)⟩
  ·have c:¬ val a<val b:=λz=>by
    rw [decide_eq_true ((qez ap bp).mp z)] at c;cases c
   have:=k 0 H5 s05 Rq (c0 c)
   exact this
  ·have c:val a<val b:=(qez ap bp).mpr (by
    by_cases z:a.1*b.2<b.1*a.2
    ·exact z
    ·exact absurd (by rw [decide_eq_false z];rfl) c)
   show qdg K _ _ _
   have hr5:=s5 _ _ (s4 _ _ (s3 _ _ hr))
   refine qeK (qpN ⟨_,rfl,_,rfl,_,rfl,r,xa,yb,rs,a,b,rfl,hr5,hxa,hyb,l9',b148,ap,bp,ab1,ab2,bb1,bb2,c,λr6 qs H6 s6 h6 l6 b6 ⟨M,M1,eM⟩=>?_⟩)
   obtain ⟨U,W,d,d0,hU,hW,lU,lW,uv⟩:=bez lz l9' b148 R.qi
   have la:-β<=val a:=by
    rw [va]
    cases lo with
    | none=>show -β<=-β;grind
    | some x=>show -β<=if val x < -β then -β else val x;split <;> grind
   have lb:val b<=β:=by
    rw [vb]
    cases hi with
    | none=>show β<=β;grind
    | some x=>show (if β<val x then β else val x)<=β;split <;> grind
   have D1:1<=(val b - val a)*((2 ^ 420:Nat):Rat):=by
    have h1:(0:Rat)<(a.2:Rat):=by exact_mod_cast ap
    have h2:(0:Rat)<(b.2:Rat):=by exact_mod_cast bp
    have q1:val a*(a.2:Rat)=a.1:=wb8 (by grind)
    have q2:val b*(b.2:Rat)=b.1:=wb8 (by grind)
    have z:=(qez ap bp).mp c
    have z1:(1:Int)<=b.1*a.2 - a.1*b.2:=by omega
    have z2:(1:Rat)<=((b.1*a.2 - a.1*b.2:Int):Rat):=by exact_mod_cast z1
    have z3:((b.1*a.2 - a.1*b.2:Int):Rat)=(val b - val a)*((a.2*b.2:Int):Rat):=by
     rw [Rat.intCast_sub,wbw,wbw,wbw,<-q1,<-q2];grind
    have z4:((a.2*b.2:Int):Rat)<=((2 ^ 420:Nat):Rat):=by
     have bm:Bd 420 (a.2*b.2):=ab2.mul bb2
     have:(a.2*b.2).natAbs<2 ^ 420:=bm
     have h3:a.2*b.2<=((2 ^ 420:Nat):Int):=by omega
     exact_mod_cast h3
    have z5:=wac z4 (show 0<=val b - val a by grind)
    grind
   have mU:∀ z∈U,z.natAbs<=2 ^ 2400:=λz hz=>by obtain ⟨i,rfl⟩:=qkc hz;exact wbr (hU i)
   have mW:∀ z∈W,z.natAbs<=2 ^ 2400:=λz hz=>by obtain ⟨i,rfl⟩:=qkc hz;exact wbr (hW i)
   obtain ⟨U',W',sk⟩:=quk (Δ:=val b - val a) d0 mU mW lU lW uv (by grind) (by grind) (by grind) (by grind) (by grind) D1 M1 ⋯ b6 eM
   have nf:Nf (evQ qs) 0 1=Nf (evQ rs) (val a) (val b):=by
    rw [show evQ qs=λt=>M*evQ rs (val a+(val b - val a)*t) from funext eM,Nf.aff (by grind) (by grind),show val a+(val b - val a)*0=val a by grind,show val a+(val b - val a)*1=val b by grind]
   refine ⟨r6,qs,U',W',_,100000,rfl,h6,⋯,b6,⋯,sk,λH7 s7=>?_⟩
   rw [nf]
   have done:=c1 c
   generalize Nf (evQ rs) (val a) (val b)=N at *
   have s67:=s6.trans s7
   have s07:=s05.trans s67
   show qdf K _ [some (.ref p),some v,some w,some (.ref r),some (.int e),some (.ref t),some (.ref t2),some (.ref xa),some (.ref yb),some (.int (N:Int))] H7
   cases hi with
   | none=>
     have hw:w=.non:=hw
     subst hw
     refine qqF ⟨_,rfl,rfl,_,rfl,qbr (λc=>nomatch c) (λ_=>qbr (λc=>nomatch c) (λ_=>?_))⟩
     exact ⟨_,rfl,k N H7 s07 Rq done⟩
   | some q=>
     obtain ⟨qa,rfl,hq,lq,bq1,bq2⟩:=hw.kp s07
     refine qqF ⟨_,rfl,rfl,_,rfl,qbr (λ_=>?_) (λc=>absurd rfl c)⟩
     refine qlK (qpP (qfL ⟨_,rfl,_,rfl,p,qa,xs,l,q.1,q.2,40,rfl,s07 _ _ hp,hq,hN.tp (tpS s07),G,∅,lq,bq1.mono ∅,bq2.mono ∅,⋯,λr8 H8 z s8 hz lowz _ _ ez=>?_⟩))
     refine ⟨qrv,λt9 ht9=>?_⟩
     have s9:=qah ht9 (.tup [.int 0,.int 1])
     obtain ⟨pz,ez1,hpz⟩:=hz
     have zz:z=(0,1)↔evQ ns (val q)=0:=by
      have cl2:evQ (qem l) (val q)=κ*evQ ns (val q):=qo3 eκ _
      have B0':((qe1 l:Int):Rat)≠0:=qaV (wai (qdT G.low).1)
      have ez:val z=evQ (qem l) (val q) / ((qe1 l:Int):Rat):=ez.trans (qr9 G.low _)
      constructor
      ·intro h
       have v0:val z=0:=by rw [h];show ((0:Int):Rat) / _=0;rw [show ((0:Int):Rat)=0 from rfl,zdiv]
       rw [v0,cl2] at ez
       have:κ*evQ ns (val q) / ((qe1 l:Int):Rat)*((qe1 l:Int):Rat)=κ*evQ ns (val q):=wb8 B0'
       rw [<-ez] at this
       have:κ*evQ ns (val q)=0:=by rw [<-this];grind
       exact (wa2.mp this).resolve_left k0
      ·intro h
       rw [cl2,h] at ez
       have v0:val z=val (0,1):=by
        rw [ez]
        show κ*0 / _=((0:Int):Rat) / _
        rw [show κ*0=(0:Rat) by grind,show ((0:Int):Rat)=0 from rfl,zdiv,zdiv]
       exact qiM lowz qsP v0
     have rz:RepD (upd H8 t9 (.tup [.int 0,.int 1])) (.ref r8) (qpl z):=qtI ⟨pz,ez1,s9 _ _ hpz⟩
     have r0':RepD (upd H8 t9 (.tup [.int 0,.int 1])) (.ref t9) (qpl (0,1)):=qtI ⟨t9,rfl,qag⟩
     refine ⟨_,_,decide (z=(0,1)),rz,r0',okN _ _,okN _ _,?_,_,rfl,qbr (λc=>?_) (λc=>?_)⟩
     ·constructor
      ·intro h;rw [of_decide_eq_true h]
      ·intro h
       refine decide_eq_true ?_
       have h:PySem.W.Dat.tuple [.int z.1,.int z.2]=.tuple [.int 0,.int 1]:=h
       injection h with h
       injection h with h1 h2
       injection h1 with h1
       injection h2 with h2
       injection h2 with h2
       exact Prod.ext h1 h2
     ·have c:=zz.mp (of_decide_eq_true c)
      refine ⟨_,rfl,_,_,rfl,rfl,_,rfl,?_⟩
      have:=k (N+1) _ (s07.trans (s8.trans s9)) Rq (by
       have e:atE ns (Option.map val (some q))=1:=if_pos c
       rw [e] at done;exact done)
      exact this
     ·have c:¬ evQ ns (val q)=0:=λz=>c (decide_eq_true (zz.mpr z))
      exact ⟨_,rfl,k N _ (s07.trans (s8.trans s9)) Rq (by
       have e:atE ns (Option.map val (some q))=0:=if_neg c
       rw [e] at done;exact done)⟩
 have up:∀ (x:V) (a:Nu),Cl H5 x (clL β (lo.map val)) a->qdi K { nx:=λ_ H'=>Q V.non H',rt:=Q } [some (.ref p),some v,some w,some (.ref r),some (.int e),some (.ref t),some (.ref t2),some x,none,none] H5:=λx a ca=>by
  have cb:Cl H5 (.ref t) β (A,B):=⟨⟨t,rfl,hb⟩,B0,bA.mono ∅,bB2.mono ∅,hβ⟩
  cases hi with
  | none=>
    have hw:w=.non:=hw
    subst hw
    refine qck ⟨_,rfl,rfl,_,rfl,qbr (λ_=>qbr (λ_=>?_) (λc=>absurd rfl c)) (λc=>absurd rfl c)⟩
    exact ⟨_,rfl,fin x _ a _ ca cb⟩
  | some q=>
    obtain ⟨qa,rfl,hq,lq,bq1,bq2⟩:=hw5
    have lq0:=lq.pos
    refine qck ⟨_,rfl,rfl,_,rfl,qbr (λc=>nomatch c) (λ_=>?_)⟩
    refine qfL ⟨_,rfl,_,rfl,t,qa,A,B,q.1,q.2,rfl,hb,hq,bA.mono ∅,bB2.mono ∅,bq1.mono ∅,bq2.mono ∅,_,rfl,qbr (λc=>?_) (λc=>?_)⟩
    ·have c:β<val q:=by rw [<-hβ];exact (qez (a:=(A,B)) (b:=q) B0 lq0).mpr (of_decide_eq_true c)
     refine ⟨_,rfl,fin x _ a (A,B) ca ?_⟩
     have:clR β (Option.map val (some q))=β:=if_pos c
     rw [this];exact cb
    ·have c:¬ β<val q:=λz=>by rw [<-hβ] at z;exact c (decide_eq_true ((qez (a:=(A,B)) (b:=q) B0 lq0).mp z))
     refine ⟨_,rfl,fin x _ a q ca ?_⟩
     have:clR β (Option.map val (some q))=val q:=if_neg c
     rw [this]
     exact ⟨⟨qa,rfl,hq⟩,lq0,bq1.mono ∅,bq2.mono ∅,rfl⟩
 have ca:Cl H5 (.ref t2) (-β) (-A,B):=⟨⟨t2,rfl,hb2⟩,B0,bA.neg.mono ∅,bB2.mono ∅,vneg⟩
 cases lo with
 | none=>
   have hv:v=.non:=hv
   subst hv
   refine qck ⟨_,rfl,rfl,_,rfl,qbr (λ_=>qbr (λ_=>?_) (λc=>absurd rfl c)) (λc=>absurd rfl c)⟩
   exact ⟨_,rfl,up _ _ ca⟩
 | some q=>
   obtain ⟨qa,rfl,hq,lq,bq1,bq2⟩:=hv5
   have lq0:=lq.pos
   refine qck ⟨_,rfl,rfl,_,rfl,qbr (λc=>nomatch c) (λ_=>?_)⟩
   refine qfL ⟨_,rfl,_,rfl,qa,t2,q.1,q.2,-A,B,rfl,hq,hb2,bq1.mono ∅,bq2.mono ∅,bA.neg.mono ∅,bB2.mono ∅,_,rfl,qbr (λc=>?_) (λc=>?_)⟩
   ·have c:val q < -β:=by rw [<-vneg];exact (qez (a:=q) (b:=(-A,B)) lq0 B0).mpr (of_decide_eq_true c)
    refine ⟨_,rfl,up _ (-A,B) ?_⟩
    have:clL β (Option.map val (some q)) = -β:=if_pos c
    rw [this];exact ca
   ·have c:¬ val q < -β:=λz=>by rw [<-vneg] at z;exact c (decide_eq_true ((qez (a:=q) (b:=(-A,B)) lq0 B0).mp z))
    refine ⟨_,rfl,up _ q ?_⟩
    have:clL β (Option.map val (some q))=val q:=if_neg c
    rw [this]
    exact ⟨⟨qa,rfl,hq⟩,lq0,bq1.mono ∅,bq2.mono ∅,rfl⟩
theorem qqh {zs:List Int} {n:Nat} (hl:zs.length=n+1) (h:co zs n=0) (y:Rat):evQ (zs.take n) y=evQ zs y:=by
 have e:zs=zs.take n++[0]:=by
  refine wcg λi=>?_
  rcases Nat.lt_trichotomy i n with c | c | c
  ·rw [wcl (by rw [wa5];omega),List.getElem?_take,if_pos c]
  ·subst c
   rw [wck (by rw [wa5];omega),wa5,show i - min i zs.length=0 by omega]
   have hi:i<zs.length:=by omega
   unfold co at h
   rw [wab,wag hi] at h
   rw [wag hi]
   have h:zs[i]=0:=h
   rw [h];rfl
  ·rw [wat ⋯,wat (by rw [wa9,wa5];show min n zs.length+1<=i;omega)]
 have q:evQ (zs.take n++[0]) y=evQ (zs.take n) y:=by
  rw [qeL]
  show _+_*(((0:Int):Rat)+y*0)=_
  rw [show ((0:Int):Rat)=0 from rfl];grind
 rw [<-e] at q
 exact q.symm
theorem qo5 {zs c:List Int} (h:∀ k,co c k=cvL zs (co [-1,1]) k):(∀ y,evQ c y=(y - 1)*evQ zs y)/\co c 0 = -co zs 0/\∀ k,co c (k+1) = -co zs (k+1)+co zs k:=by
 have e:si c=si zs*si [-1,1]:=qj5 h
 have e':si c=si [-1,1]*si zs:=by rw [e];grind
 refine ⟨λy=>?_,?_,λk=>?_⟩
 ·rw [qo2 e']
  have:evQ [-1,1] y=y - 1:=by
   show ((-1:Int):Rat)+y*(((1:Int):Rat)+y*0)=y - 1
   rw [show ((-1:Int):Rat) = -1 from rfl,show ((1:Int):Rat)=1 from rfl];grind
  rw [this]
 ·rw [qj4 [-1,1],Sr.L_mul] at e'
  have q:((co c 0:Int):Rat)=((-1:Int):Rat)*((co zs 0:Int):Rat)+0:=congrFun (congrArg Sr.c e') 0
  have q:((co c 0:Int):Rat)=((-co zs 0:Int):Rat):=by rw [q];push_cast;grind
  exact_mod_cast q
 ·rw [qj4 [-1,1],Sr.L_mul] at e'
  have q:=congrFun (congrArg Sr.c e') (k+1)
  have q:((co c (k+1):Int):Rat)=((-1:Int):Rat)*((co zs (k+1):Int):Rat)+cvL [((1:Int):Rat)] (si zs).c k:=q
  have q2:cvL [((1:Int):Rat)] (si zs).c k=((1:Int):Rat)*((co zs k:Int):Rat):=by
   cases k with
   | zero=>show ((1:Int):Rat)*((co zs 0:Int):Rat)+(0:Rat)=_;grind
   | succ k=>show ((1:Int):Rat)*((co zs (k+1):Int):Rat)+(0:Rat)=_;grind
  rw [q2] at q
  have q:((co c (k+1):Int):Rat)=((-co zs (k+1)+co zs k:Int):Rat):=by rw [q];push_cast;grind
  exact_mod_cast q
theorem qqi (ns:List Int) (x:Rat) {i:Nat} (h:i<ns.length):evQ (ns.drop (ns.length - (i+1))) x=((co ns (ns.length - 1 - i):Int):Rat)+x*evQ (ns.drop (ns.length - i)) x:=by
 have e:ns.length - (i+1)<ns.length:=by omega
 rw [List.drop_eq_getElem_cons e,show ns.length - (i+1)+1=ns.length - i by omega]
 have:co ns (ns.length - 1 - i)=ns[ns.length - (i+1)]:=by
  unfold co
  rw [wab,show ns.length - 1 - i=ns.length - (i+1) by omega,wag e];rfl
 rw [this];rfl
theorem qmF (h:qej K vs H Q E):qou K { nx:=λ_ H'=>Q .non H',rt:=Q } (L2.start ["_law_row","_law_made","_law_one","_law_grown"] vs) H:=by
 obtain ⟨p,ns,rfl,hp,lz,n9,bn,k⟩:=h
 have n1:=lz.1
 refine qck ⟨qn8,λm hm=>?_⟩
 have sm:=qah hm (.lst [.int 0])
 have hmm:upd H m (.lst [.int 0]) m=some (.lst (([0]:List Int).map V.int)):=qag
 show qhg K _ [some (.ref p),some (.ref m),none,none] (upd H m (.lst [.int 0]))
 generalize upd H m (.lst [.int 0])=H1 at sm hmm ⊢
 refine ⟨_,rfl,_,_,rfl,SqL.of (sm _ _ hp),ForJ.rev (xs:=ns.map V.int) (λi σ H'=>∃ (m:Addr) (zs:List Int) (u2 u3:Option V),σ=[some (.ref p),some (.ref m),u2,u3]/\Same H H'/\H' m=some (.lst (zs.map V.int))/\zs.length=i+1/\co zs i=0/\(0<i->co zs (i - 1)=co ns (ns.length - 1))/\(∀ j,(co zs j).natAbs+99<=99*2 ^ i)/\(∀ y:Rat,evQ zs y=evQ (ns.drop (ns.length - i)) (y - 1))/\i<=ns.length) ⟨m,[0],none,none,rfl,sm,hmm,rfl,rfl,λh=>absurd h ⋯,λj=>?_,λy=>?_,wae _⟩ ?_ ?_ ?_⟩
 ·cases j with
  | zero=>decide
  | succ j=>show (0:Nat)+99<=_;decide
 ·rw [Nat.sub_zero,List.drop_length]
  show ((0:Int):Rat)+y*0=0
  rw [show ((0:Int):Rat)=0 from rfl];grind
 ·rintro i σ H' _ ⟨m,zs,u2,u3,rfl,s,_⟩
  exact SqL.of (s _ _ hp)
 ·rintro i y σ H2 hi hy ⟨m,zs,u2,u3,rfl,s2,hm2,zl,zt,zp,zb,ze,il⟩
  rw [waa] at hi hy
  have hy:=qqY ⋯ hy
  subst hy
  show qew K _ [some (.ref p),some (.ref m),some (.int (co ns (ns.length - 1 - i))),u3] H2
  refine qg2 ⟨_,rfl,_,rfl,qrv,λb hb=>?_⟩
  have s3:=qah hb (.lst [.int (-1),.int 1])
  have hbb:upd H2 b (.lst [.int (-1),.int 1]) b=some (.lst (([-1,1]:List Int).map V.int)):=qag
  have hm3:=s3 _ _ hm2
  have zB:∀ z∈zs,Bd 20 z:=λz hz=>by
   obtain ⟨j,rfl⟩:=qkc hz
   have:=zb j
   have h2:2 ^ i<=2 ^ 9:=wbm ∅ ⋯
   show (co zs j).natAbs<1048576
   have:(2:Nat) ^ 9=512:=by decide
   omega
  refine ⟨m,b,zs,[-1,1],20,2,rfl,hm3,hbb,⋯,∅,⋯,∅,zB,λz hz=>?_,∅,∅,λr c H4 s4 n4 h4 cl _ ck=>?_⟩
  ·have:z = -1\/z=1:=by
    rcases wa0.mp hz with q | q
    ·exact .inl q
    ·exact .inr (war.mp q)
   rcases this with q | q <;> rw [q] <;> unfold Bd <;> decide
  have ck:∀ k,co c k=cvL zs (co [-1,1]) k:=λk=>by rw [ck k,qo0 _ _ _ _ (wad _),wbv]
  obtain ⟨cE,c0,cS⟩:=qo5 ck
  have cl:c.length=i+2:=by rw [cl,zl];show i+1+2 - 1=i+2;omega
  obtain ⟨a,c',rfl⟩:∃ a c',c=a::c':=by
   cases c with
   | nil=>have:(0:Nat)=i+2:=cl;omega
   | cons a c'=>exact ⟨a,c',rfl⟩
  show qev K _ [some (.ref p),some (.ref m),some (.int (co ns (ns.length - 1 - i))),some (.ref r)] H4
  refine ⟨_,rfl,r,0,(a::c').map V.int,V.int a,rfl,rfl,h4,qb7 (j:=0) rfl rfl,_,rfl,_,_,rfl,rfl,_,rfl,r,_,_,0,rfl,rfl,h4,qex (by rfl) (by show 0<(c'.map V.int).length+1;omega),?_⟩
  have c0:a = -co zs 0:=c0
  have h5:upd H4 r (.lst (((a::c').map V.int).set 0 (V.int (a+co ns (ns.length - 1 - i))))) r=some (.lst (((a+co ns (ns.length - 1 - i))::c').map V.int)):=qag
  have rn:H r=none:=by
   cases hz:H r with
   | none=>rfl
   | some o=>exact absurd (s3 _ _ (s2 _ _ hz)) (by rw [n4];exact λz=>nomatch z)
  have nb:(co ns (ns.length - 1 - i)).natAbs<=99:=by
   have hlt:ns.length - 1 - i<ns.length:=by omega
   have e:co ns (ns.length - 1 - i)=ns[ns.length - 1 - i]:=by unfold co;rw [wab,wag hlt];rfl
   rw [e];exact bn _ (wbo hlt)
  have s24:=s2.trans (s3.trans s4)
  refine ⟨_,rfl,r,(a+co ns (ns.length - 1 - i))::c',_,_,rfl,λx o h=>Kp.upd x o (qan h rn) (s24 x o h),h5,cl,?_,λ_=>?_,λj=>?_,λy=>?_,⋯⟩
  ·show co (a::c') (i+1)=0
   rw [cS i,zt,qau ⋯];rfl
  ·rw [Nat.add_sub_cancel]
   rcases wbt i with z | z
   ·subst z
    show a+co ns (ns.length - 1 - 0)=_
    rw [c0,zt,Nat.sub_zero];omega
   ·obtain ⟨i',rfl⟩:∃ i',i=i'+1:=⟨i - 1,⋯⟩
    show co (a::c') (i'+1)=_
    rw [cS i',zt]
    have:=zp ⋯
    rw [Nat.add_sub_cancel] at this
    rw [this];omega
  ·rw [wa1]
   cases j with
   | zero=>
     show (a+co ns (ns.length - 1 - i)).natAbs+99<=_
     have:=zb 0
     omega
   | succ j=>
     show (co (a::c') (j+1)).natAbs+99<=_
     rw [cS j]
     have:=zb j
     have:=zb (j+1)
     omega
  ·rw [qqi ns (y - 1) ⋯,<-ze y]
   have e:=cE y
   have e:(a:Rat)+y*evQ c' y=(y - 1)*evQ zs y:=e
   show ((a+co ns (ns.length - 1 - i):Int):Rat)+y*evQ c' y=_
   rw [Rat.intCast_add];grind
 ·rintro σ H2 ⟨m,zs,u2,u3,rfl,s2,hm2,zl,zt,zp,zb,ze,il⟩
  rw [waa] at zl zt zp zb ze
  rw [Nat.sub_self,List.drop_zero] at ze
  show qhf K _ _ _
  refine ⟨_,rfl,_,rfl,p,_,rfl,s2 _ _ hp,_,rfl,m,_,rfl,hm2,λr hr=>?_⟩
  have ec:qiw (zs.map V.int) none (some ((ns.map V.int).length:Int))=(zs.take ns.length).map V.int:=by
   rw [qjM (by rw [waa,waa];omega),List.map_take,waa]
  rw [ec]
  have tl:(zs.take ns.length).length=ns.length:=by rw [wa5];omega
  have tc:∀ j,j<ns.length->co (zs.take ns.length) j=co zs j:=λj hj=>by
   unfold co
   rw [wab,wab,List.getElem?_take,if_pos hj]
  refine k r _ _ (s2.trans (qah hr _)) qag tl ⟨⋯,?_⟩ (λz hz=>?_) λy=>?_
  ·rw [tl,tc _ ⋯,zp n1];exact lz.2
  ·obtain ⟨j,rfl⟩:=qkc (wcp hz)
   have:=zb j
   have h2:2 ^ ns.length<=2 ^ 9:=wbm ∅ ⋯
   show (co zs j).natAbs<1048576
   have:(2:Nat) ^ 9=512:=by decide
   omega
  ·rw [qqh zl zt,ze]
theorem qo6 {F S:List Int}:∀ (cs:List Rat) (lo:Option Rat) (ks:List Nat),ks.length=cs.length+1->(∀ (j k:Nat),ks[j]?=some k->Cnt F S ((lo::cs.map some).getD j none) ((cs.map some).getD j none) k)->qqS F S lo cs ks
 | [],lo,ks,hl,h=>by
   match ks,hl,h with
   | [k],_,h=>exact ⟨k,rfl,h 0 k rfl⟩
 | c::cs,lo,ks,hl,h=>by
   match ks,hl,h with
   | k::ks,hl,h=>
     refine ⟨k,ks,rfl,h 0 k rfl,qo6 cs (some c) ks ?_ λj k' hj=>h (j+1) k' hj⟩
     have hl:ks.length+1=cs.length+1+1:=hl
     omega
theorem Of.kp {H H':Hp} {p:Addr} {ns:List Int} (h:Of H p ns) (s:Same H H'):Of H' p ns:=by
 obtain ⟨xs,l,κ,h1,h2,r⟩:=h.ex
 exact ⟨xs,l,κ,s _ _ h1,h2.tp (tpS s),r⟩
theorem qk8 (h:qb0 K vs H Q E):qmx K { nx:=λ_ H'=>Q .non H',rt:=Q } (L2.start ["_law_kp","_law_cuts"] vs) H:=by
 obtain ⟨p,q,us,cs,ns,rfl,of,hq,hN,low,c3,ris,bd,k⟩:=h
 have ul:=hN.length
 refine qpO ⟨qn8,λa1 h1=>⟨_,rfl,?_⟩⟩
 have s1:=qah h1 (.lst [V.non])
 have e1:upd H a1 (.lst [V.non]) a1=_:=qag
 generalize upd H a1 (.lst [V.non])=H1 at s1 e1 ⊢
 refine ⟨a1,q,_,_,rfl,rfl,e1,s1 _ _ hq,sz (by show 1+us.length<=_;omega),λa2 h2=>⟨_,rfl,qn8,λa3 h3=>?_⟩⟩
 have s2:=qah h2 (.lst ([V.non]++us))
 have e2:upd H1 a2 (.lst ([V.non]++us)) a2=_:=qag
 generalize upd H1 a2 (.lst ([V.non]++us))=H2 at s2 e2 h3 ⊢
 have s3:=qah h3 (.lst [V.non])
 have e3:upd H2 a3 (.lst [V.non]) a3=_:=qag
 generalize upd H2 a3 (.lst [V.non])=H3 at s3 e3 ⊢
 refine ⟨q,a3,_,_,rfl,rfl,s3 _ _ (s2 _ _ (s1 _ _ hq)),e3,sz (by show us.length+1<=_;omega),λa4 h4=>?_⟩
 have s4:=qah h4 (.lst (us++[V.non]))
 have e4:upd H3 a4 (.lst (us++[V.non])) a4=_:=qag
 generalize upd H3 a4 (.lst (us++[V.non]))=H4 at s4 e4 ⊢
 have e2:=s4 _ _ (s3 _ _ e2)
 have s04:=s1.trans (s2.trans (s3.trans s4))
 refine ⟨a2,a4,rfl,⟨_,SqL.of e2⟩,⟨_,SqL.of e4⟩,?_⟩
 refine CompJ.zip (xs:=[V.non]++us) (ys:=us++[V.non]) (by rw [wa9,wa9,Nat.add_comm]) (λi zs H'=>∃ ks:List Nat,zs=(ks.map λk:Nat=>(k:Int)).map V.int/\ks.length=i/\i<=cs.length+1/\Same H4 H'/\(0<i->Rad ns (sq ns))/\∀ (j k:Nat),ks[j]?=some k->Cnt ns (sq ns) ((none::(cs.map val).map some).getD j none) (((cs.map val).map some).getD j none) k) ⟨[],rfl,rfl,wae _,λ_ _ h=>h,λh=>absurd h ⋯,λj k h=>by simp at h⟩ ?_ ?_ ?_
 ·rintro i zs H' ⟨ks,rfl,kl,il,s5,_⟩
  refine ⟨by rw [wa9];show i<=1+us.length;omega,sz (by rw [waa,waa];omega),SqL.of (s5 _ _ e2),SqL.of (s5 _ _ e4)⟩
 ·rintro i x y zs H5 pp hx hy ⟨ks,rfl,kl,il,s5,_,hk⟩ hpp
  have il2:i<us.length+1:=by
   have:=(waq.mp hx).1
   rw [wa9] at this
   have:i<1+us.length:=this
   omega
  have s6:=qah hpp (.tup [x,y])
  have e6:upd H5 pp (.tup [x,y]) pp=_:=qag
  generalize upd H5 pp (.tup [x,y])=H6 at s6 e6 ⊢
  have s06:=s04.trans (s5.trans s6)
  have hN6:=hN.tp (tpS s06)
  have one:∀ (v:V) (j:Nat),us[j]?=some v->EndV H6 v ((cs.map some).getD j none)/\∃ c,cs[j]?=some c:=λv j hv=>by
   obtain ⟨c,hc,a,rfl,ha⟩:=hN6.get hv
   have mc:=wau hc
   refine ⟨?_,c,hc⟩
   rw [wab,waf,hc]
   exact ⟨a,rfl,ha,low c mc,bd c mc⟩
  have ex:EndV H6 x ((none::cs.map some).getD i none):=by
   cases i with
   | zero=>
     have:V.non=x:=Option.some.inj hx
     exact this.symm
   | succ i=>exact (one x i hx).1
  have ey:EndV H6 y ((cs.map some).getD i none):=by
   rcases wap i us.length with c | c
   ·rw [wcl c] at hy
    exact (one y i hy).1
   ·have ei:i=us.length:=by omega
    rw [wck c,ei,Nat.sub_self] at hy
    have:V.non=y:=Option.some.inj hy
    rw [wab,wat (by rw [waa];omega)]
    exact this.symm
  have gm:∀ (L:List (Option Nu)) (j:Nat),(L.map (Option.map val)).getD j none=(L.getD j none).map val:=λL j=>by
   rw [wab,wab,waf]
   cases L[j]? <;> rfl
  have mm:(cs.map val).map some=(cs.map some).map (Option.map val):=by rw [wb3,wb3];rfl
  refine ⟨pp,[x,y],rfl,e6,rfl,_,_,rfl,_,_,rfl,rfl,?_⟩
  show qay _ _ _ _ [some x,some y,some (.ref p)] H6 _
  refine qpN ⟨_,rfl,_,rfl,_,rfl,p,ns,_,_,x,y,rfl,of.kp s06,ex,ey,λa b ha hb=>?_,λk' H7 s7 rad cnt=>?_⟩
  ·cases i with
   | zero=>cases ha
   | succ i=>
     have ha:(cs.map some).getD i none=some a:=ha
     have g:∀ j c,(cs.map some).getD j none=some c->cs[j]?=some c:=λj c h=>by
      rw [wab,waf] at h
      cases hz:cs[j]? with
      | none=>rw [hz] at h;cases h
      | some d=>rw [hz] at h;cases h;rfl
     have ha:=g _ _ ha
     have hb:=g _ _ hb
     obtain ⟨l1,e1'⟩:=waq.mp ha
     obtain ⟨l2,e2'⟩:=waq.mp hb
     have:=List.pairwise_iff_getElem.mp ris i (i+1) l1 l2 ⋯
     rw [e1',e2'] at this
     exact (qez (low a (wau ha)).pos (low b (wau hb)).pos).mpr this
  ·refine ⟨ks++[k'],by rw [wb6,wb6];rfl,by rw [wa9,kl];rfl,⋯,s5.trans (s6.trans s7),λ_=>rad,λj k hj=>?_⟩
   rcases wap j ks.length with c | c
   ·rw [wcl c] at hj
    exact hk j k hj
   ·have lt:=(waq.mp hj).1
    rw [wa9] at lt
    have lt:j<ks.length+1:=lt
    have ej:j=i:=by omega
    rw [wck c,show j - ks.length=0 by omega] at hj
    have hj:k'=k:=Option.some.inj hj
    subst hj ej
    have e5:(none::(cs.map val).map some).getD j none=((none::cs.map some).getD j none).map val:=by
     rw [<-gm,mm];rfl
    rw [e5,mm,gm]
    exact cnt
 ·rintro zs H5 ⟨ks,rfl,kl,il,s5,rad,hk⟩ r hr
  have kl:ks.length=cs.length+1:=by rw [kl,wa9,ul,Nat.add_comm];rfl
  exact k r ks _ (s04.trans (s5.trans (qah hr _))) qag (rad (by rw [wa9];show 0<1+us.length;omega)) (qo6 _ _ _ (by rw [waa];exact kl) hk)
theorem qo7 (a b:Rat):∃ m,a<=m/\b<=m:=by
 rcases (wam:a<=b\/b<=a) with z | z
 ·exact ⟨b,z,by grind⟩
 ·exact ⟨a,by grind,z⟩
theorem Cnt.uniq {F S:List Int} {lo hi:Option Rat} {k k':Nat} (h:Cnt F S lo hi k) (h':Cnt F S lo hi k'):k=k':=by
 obtain ⟨R,hR⟩:=h
 obtain ⟨R',hR'⟩:=h'
 obtain ⟨m,m1,m2⟩:=qo7 R R'
 rw [hR m m m1 m1,hR' m m m2 m2]
theorem ql6 {F S:List Int}:∀ {cs:List Rat} {lo:Option Rat} {ks:List Nat},qqS F S lo cs ks->ks.length=cs.length+1/\∀ (j k:Nat),ks[j]?=some k->Cnt F S ((lo::cs.map some).getD j none) ((cs.map some).getD j none) k
 | [],lo,ks,h=>by
   obtain ⟨k,rfl,h⟩:=h
   refine ⟨rfl,λj k' hj=>?_⟩
   match j,hj with
   | 0,hj=>cases hj;exact h
   | j+1,hj=>cases hj
 | c::cs,lo,ks,h=>by
   obtain ⟨k,ks',rfl,h1,h2⟩:=h
   obtain ⟨l,g⟩:=ql6 h2
   refine ⟨by show ks'.length+1=_;rw [l];rfl,λj k' hj=>?_⟩
   match j,hj with
   | 0,hj=>cases hj;exact h1
   | j+1,hj=>exact g j k' hj
theorem ql7 {F S:List Int} (r:Rad F S):∀ {cs:List Rat} {lo:Option Rat} {ks:List Nat},(∀ x,lo=some x->∀ c∈cs,x<c)->cs.Pairwise (·<·)->qqS F S lo cs ks->Cnt F S lo none ks.sum
 | [],lo,ks,_,_,h=>by
   obtain ⟨k,rfl,h⟩:=h
   rw [show [k].sum=k by simp];exact h
 | c::cs,lo,ks,hlo,pw,h=>by
   obtain ⟨k,ks',rfl,⟨R,hR⟩,h2⟩:=h
   obtain ⟨p1,p2⟩:=List.pairwise_cons.mp pw
   obtain ⟨R',hR'⟩:=ql7 r (λx hx c' hc'=>by cases hx;exact p1 c' hc') p2 h2
   obtain ⟨C,C0,C1,C2⟩:=rbd c
   obtain ⟨m,m1,m2⟩:=qo7 R R'
   obtain ⟨m',m3,m4⟩:=qo7 m (C+1)
   refine ⟨m',λT T' hT hT'=>?_⟩
   have l1:lo.getD (-T)<c:=by
    cases lo with
    | none=>show -T<c;grind
    | some x=>exact hlo x rfl c (waz ..)
   have l2:c<T':=by grind
   have e1:k=Nf (evQ S) (lo.getD (-T)) c+atE F (some c):=hR T T' (by grind) (by grind)
   have e2:ks'.sum=Nf (evQ S) c T'+0:=hR' T T' (by grind) (by grind)
   have nd:=r.sf.node l1 l2
   show (k::ks').sum=Nf (evQ S) (lo.getD (-T)) T'+0
   rw [List.sum_cons,e1,e2,nd]
   have ea:atE F (some c)=if evQ S c=0 then 1 else 0:=by
    show (if evQ F c=0 then 1 else 0)=_
    by_cases z:evQ S c=0
    ·rw [if_pos z,if_pos ((r.zero c).mpr z)]
    ·rw [if_neg z,if_neg λy=>z ((r.zero c).mp y)]
   rw [ea];omega
theorem qq1 (a:Rat):∀ l:List Rat,Pn l.length (Sr.ev (a::l))
 | []=>⟨a,λt=>by show a+t*0=a;grind⟩
 | b::l=>⟨a,Sr.ev (b::l),qq1 b l,λ_=>rfl⟩
theorem Rad.deg {F S:List Int} (h:Rad F S) {a b:Rat} (ab:a<b):Nf (evQ S) a b<F.length:=by
 have hN:=h.sf.isN ab
 obtain ⟨f0,c,L,c0,⟨T,M,pT,pL,pM,e1,e2,cs⟩,e3⟩:=h
 have T0:T≠0:=λz=>f0 (by rw [e1,z];grind)
 have L0:L≠0:=λz=>f0 (by rw [e1,z];grind)
 obtain ⟨n,hn⟩:=pL.bn
 obtain ⟨n',hn'⟩:=pT.bn
 rcases Sr.top_ex n hn with z | ⟨m,_,m0,mb⟩
 ·exact absurd z L0
 rcases Sr.top_ex n' hn' with z | ⟨j,_,j0,jb⟩
 ·exact absurd z T0
 have tm:=(Sr.top_mul jb mb).1
 rw [<-e1] at tm
 have tm:((co F (j+m):Int):Rat)=T.c j*L.c m:=tm
 have ml:m<F.length:=by
  rcases wap (j+m) F.length with q | q
  ·omega
  ·rw [qau q] at tm
   exact absurd (show T.c j*L.c m=0 by rw [<-tm];rfl) λz=>(wa2.mp z).elim j0 m0
 have row:=mb.row
 have eS:∀ x,evQ S x=c*Sr.ev (tr (m+1) L.c) x:=λx=>by
  have er:Sr.L (qR S)=Sr.L ((tr (m+1) L.c).map (c*·)):=by rw [qgt,Sr.L_scal,row];exact e3
  rw [qbb,Sr.ev_congr er,Sr.ev_scal]
 have tl:(tr (m+1) L.c).length=m+1:=by unfold tr;simp
 have pn:Pn m (evQ S):=by
  rw [show evQ S=λx=>c*Sr.ev (tr (m+1) L.c) x from funext eS]
  cases ht:tr (m+1) L.c with
  | nil=>rw [ht] at tl;cases tl
  | cons a l=>
    rw [ht] at tl
    have tl:l.length=m:=by have:l.length+1=m+1:=tl;omega
    have:=qq1 a l
    rw [tl] at this
    exact this.scale c
 obtain ⟨x,_,hx⟩:=hN.1
 have:=pn.deg hx
 omega
theorem qq2 {F G:List Int} {δ:Rat} (hN:∀ a b,Nf (evQ (sq G)) (a+δ) (b+δ)=Nf (evQ (sq F)) a b) (hz:∀ x,evQ G (x+δ)=0↔evQ F x=0) {lo hi:Option Rat} {k k':Nat} (h:Cnt F (sq F) lo hi k) (h':Cnt G (sq G) (lo.map (·+δ)) (hi.map (·+δ)) k'):k'=k:=by
 obtain ⟨R,hR⟩:=h
 obtain ⟨R',hR'⟩:=h'
 obtain ⟨D,D0,D1,D2⟩:=rbd δ
 obtain ⟨m,m1,m2⟩:=qo7 R (R'+D)
 rw [hR m m m1 m1,hR' (m - δ) (m+δ) (by grind) (by grind),<-hN]
 have e1:(lo.map (·+δ)).getD (-(m - δ))=lo.getD (-m)+δ:=by
  cases lo with
  | none=>show -(m - δ) = -m+δ;grind
  | some x=>rfl
 have e2:(hi.map (·+δ)).getD (m+δ)=hi.getD m+δ:=by
  cases hi with
  | none=>rfl
  | some x=>rfl
 have e3:atE G (hi.map (·+δ))=atE F hi:=by
  cases hi with
  | none=>rfl
  | some x=>
    show (if evQ G (x+δ)=0 then 1 else 0)=if evQ F x=0 then 1 else 0
    by_cases z:evQ F x=0
    ·rw [if_pos z,if_pos ((hz x).mpr z)]
    ·rw [if_neg z,if_neg λy=>z ((hz x).mp y)]
 rw [e1,e2,e3]
theorem qk9 {F G:List Int} {δ:Rat} (hN:∀ a b,Nf (evQ (sq G)) (a+δ) (b+δ)=Nf (evQ (sq F)) a b) (hz:∀ x,evQ G (x+δ)=0↔evQ F x=0):∀ {cs:List Rat} {lo:Option Rat} {ks ks':List Nat},qqS F (sq F) lo cs ks->qqS G (sq G) (lo.map (·+δ)) (cs.map (·+δ)) ks'->ks'=ks
 | [],lo,ks,ks',h,h'=>by
   obtain ⟨k,rfl,h⟩:=h
   obtain ⟨k',rfl,h'⟩:=h'
   rw [qq2 hN hz (hi:=none) h h']
 | c::cs,lo,ks,ks',h,h'=>by
   obtain ⟨k,l,rfl,h1,h2⟩:=h
   obtain ⟨k',l',rfl,h1',h2'⟩:=h'
   rw [qq2 hN hz (hi:=some c) h1 h1',qk9 hN hz (lo:=some c) h2 h2']
theorem qqj {W n:Int} (n0:0<n):∃ k:Int,k≠0/\W=(qbv W n).1*k/\n=(qbv W n).2*k:=by
 have l1:=qcj (n:=W) (m:=n) ⋯
 have v1:=qeh (n:=W) (m:=n) ⋯
 have e:(qbv W n).1*n=W*(qbv W n).2:=by
  unfold val at v1
  have d1:((qbv W n).2:Rat)≠0:=qaV (by have:=l1.pos;omega)
  have n1:(n:Rat)≠0:=qaV ⋯
  have h1:((qbv W n).1:Rat) / ((qbv W n).2:Rat)*((qbv W n).2:Rat)=((qbv W n).1:Rat):=wb8 d1
  have h2:(W:Rat) / (n:Rat)*n=W:=wb8 n1
  have:((qbv W n).1:Rat)*n=W*((qbv W n).2:Rat):=by rw [<-h1,<-h2,v1];grind
  exact_mod_cast this
 have d0:=l1.pos
 have hd:(qbv W n).2∣n:=qr2 (c:=(qbv W n).1) ⟨W,by rw [wca,e,wca]⟩ (by rw [Int.gcd_comm];exact l1.one)
 obtain ⟨k,hk⟩:=hd
 generalize (qbv W n).1=t at *
 generalize (qbv W n).2=d at *
 refine ⟨k,λz=>by rw [z] at hk;omega,?_,hk⟩
 have:W*d=t*k*d:=by rw [<-e,hk];grind
 exact Int.eq_of_mul_eq_mul_right ⋯ this
theorem quo {a b:List Int} {A B:Nat} (ha:∀ z∈a,z.natAbs<=A) (hb:∀ z∈b,z.natAbs<=B) (k:Nat):∀ i,(ps a b i k).natAbs<=i*(A*B):=by
 have g:∀ {c:List Int} {C:Nat},(∀ z∈c,z.natAbs<=C)->∀ j,(c.getD j 0).natAbs<=C:=λ{c C} h j=>by
  rw [wab]
  by_cases hj:j<c.length
  ·rw [wag hj];exact h _ (wbo hj)
  ·rw [wat ⋯];exact wae _
 intro i
 induction i with
 | zero=>show (0:Int).natAbs<=_;exact wae _
 | succ i ih=>
   unfold ps
   have h:(if i<=k/\k - i<b.length then a.getD i 0*b.getD (k - i) 0 else 0).natAbs<=A*B:=by
    split
    ·rw [way];exact Nat.mul_le_mul (g ha i) (g hb _)
    ·exact wae _
   rw [wb5,Nat.one_mul]
   omega
end Bs
namespace Bs
open PySem L2
theorem qkd:∀ {rs ls:List Nu},rs.Nodup->(∀ q∈rs,q∈ls)->rs.length<=ls.length
 | [],_,_,_=>wae _
 | a::rs,ls,nd,h=>by
   have ha:=h a (waz ..)
   obtain ⟨n1,n2⟩:=List.nodup_cons.mp nd
   have q:=qkd (rs:=rs) (ls:=ls.erase a) n2 λq hq=>(List.mem_erase_of_ne (λz:q=a=>n1 (by rw [<-z];exact hq))).mpr (h q (wa4 _ hq))
   rw [List.length_erase_of_mem ha] at q
   have:0<ls.length:=List.length_pos_of_mem ha
   show rs.length+1<=_
   omega
theorem Rising.nodup {rs:List Nu} (h:Rising rs):rs.Nodup:=List.Pairwise.imp (λ{a b} h z=>by subst z;omega) h
theorem tpK {H H':Hp} {p a:Addr} {n:Int} (h:Hand H p a n) (k:Kp p H H'):Tp H H':=λb xs hb=>k b _ (λz=>by
 obtain ⟨_,_,_,_,e,_⟩:=h
 rw [z,e] at hb;cases hb) hb
theorem qo8 {g:Int->Int} {A B:Rat}:∀ {row:List Int},(∀ n∈row,A*((g n:Int):Rat)=B*(n:Rat))->∀ k,A*((co (row.map g) k:Int):Rat)=B*((co row k:Int):Rat)
 | [],_,k=>by show A*((0:Int):Rat)=B*((0:Int):Rat);rw [show ((0:Int):Rat)=0 from rfl];grind
 | a::l,h,0=>h a (waz ..)
 | a::l,h,k+1=>qo8 (λn hn=>h n (wa4 _ hn)) k
theorem qla {H:Hp} {r:Addr} {zs:List V} {row:List Int} {t d:Int} (lr:Lz row) (b36:∀ z∈row,Bd 36 z) (l9:row.length<=9) (lt:Low t d) (t0:t≠0) (bt:Bd 4 t) (bd:Bd 4 d) (h:H r=some (.tup zs)) (n:Nums H zs (row.map λn=>qbv (n*t) d)):Of H r row:=by
 have G:=qrY lr b36 lt t0 bt bd
 have ln:(row.map λn=>qbv (n*t) d).length=row.length:=waa ..
 have ov:=qdT G.low
 have d0:(d:Rat)≠0:=qaV (wai lt.pos)
 have B0:((qe1 (row.map λn=>qbv (n*t) d):Int):Rat)≠0:=qaV (wai ov.1)
 have tr:(t:Rat)≠0:=qaV t0
 refine ⟨zs,_,(t:Rat)*((qe1 (row.map λn=>qbv (n*t) d):Int):Rat) / (d:Rat),h,n,G,by rw [ln];exact lr.1,by rw [ln];exact l9,λz=>?_,?_⟩
 ·have:(t:Rat)*((qe1 (row.map λn=>qbv (n*t) d):Int):Rat) / (d:Rat)*(d:Rat)=(t:Rat)*((qe1 (row.map λn=>qbv (n*t) d):Int):Rat):=wb8 d0
  rw [z] at this
  have:(t:Rat)*((qe1 (row.map λn=>qbv (n*t) d):Int):Rat)=0:=by rw [<-this];grind
  exact (wa2.mp this).elim tr B0
 ·unfold qem
  generalize qe1 (row.map λn=>qbv (n*t) d)=B at ov B0 ⊢
  rw [wb3]
  refine Sr.ext' λk=>?_
  rw [Sr.num_mul]
  have e:=qo8 (A:=(d:Rat)) (B:=((t*B:Int):Rat)) (row:=row) (g:=(λq:Nu=>q.1*(B / q.2)) ∘ λn=>qbv (n*t) d) (λn hn=>by
   obtain ⟨k,k0,e1,e2⟩:=qqj (W:=n*t) lt.pos
   obtain ⟨c,hc⟩:=ov.2 _ (wax.mpr ⟨n,hn,rfl⟩)
   have p:=(qcj (n:=n*t) (m:=d) (wai lt.pos)).pos
   have q:d*((qbv (n*t) d).1*(B / (qbv (n*t) d).2))=t*B*n:=by
    generalize (qbv (n*t) d).1=x at *
    generalize (qbv (n*t) d).2=y at *
    rw [hc,wcx _ ⋯,show t*(y*c)*n=n*t*(y*c) by grind,e1,e2]
    grind
   show (d:Rat)*(((qbv (n*t) d).1*(B / (qbv (n*t) d).2):Int):Rat)=((t*B:Int):Rat)*(n:Rat)
   exact_mod_cast q) k
  show ((co (row.map ((λq:Nu=>q.1*(B / q.2)) ∘ λn=>qbv (n*t) d)) k:Int):Rat)=(t:Rat)*(B:Rat) / (d:Rat)*((co row k:Int):Rat)
  rw [wbw] at e
  generalize ((co (row.map ((λq:Nu=>q.1*(B / q.2)) ∘ λn=>qbv (n*t) d)) k:Int):Rat)=X at *
  generalize ((co row k:Int):Rat)=Y at *
  have di:(d:Rat)*(d:Rat)⁻¹=1:=wbb _ d0
  rw [Rat.div_def]
  generalize (d:Rat)⁻¹=i at *
  rw [show (t:Rat)*(B:Rat)*i*Y=i*((t:Rat)*(B:Rat)*Y) by grind,<-e,show i*((d:Rat)*X)=((d:Rat)*i)*X by grind,di];grind
theorem qsa {row:List Int} {a b:Nu} (a0:0<a.2) (b0:0<b.2) (h:hw row a.1 a.2*hw row b.1 b.2<0):evQ row (val a)*evQ row (val b)<0:=by
 have pw:∀ (y:Rat) (n:Nat),0<y->0<y ^ n:=λy n y0=>by
  induction n with
  | zero=>rw [wao];grind
  | succ n ih=>rw [waj];exact wan ih y0
 have h1:(0:Rat)<(a.2:Rat):=by exact_mod_cast a0
 have h2:(0:Rat)<(b.2:Rat):=by exact_mod_cast b0
 have e1:=qoQ (t:=a.1) (s:=a.2) (wai a0) row
 have e2:=qoQ (t:=b.1) (s:=b.2) (wai b0) row
 rw [<-qbb] at e1 e2
 have e1:(hw row a.1 a.2:Rat)*(a.2:Rat)=evQ row (val a)*(a.2:Rat) ^ row.length:=e1
 have e2:(hw row b.1 b.2:Rat)*(b.2:Rat)=evQ row (val b)*(b.2:Rat) ^ row.length:=e2
 have hh:(hw row a.1 a.2:Rat)*(hw row b.1 b.2:Rat)<0:=by
  have:((hw row a.1 a.2*hw row b.1 b.2:Int):Rat)<((0:Int):Rat):=by exact_mod_cast h
  rw [wbw] at this;exact this
 have p1:=pw _ row.length h1
 have p2:=pw _ row.length h2
 generalize evQ row (val a)=X at *
 generalize evQ row (val b)=Y at *
 generalize (a.2:Rat) ^ row.length=P at *
 generalize (b.2:Rat) ^ row.length=R at *
 generalize (hw row a.1 a.2:Rat)=U at *
 generalize (hw row b.1 b.2:Rat)=W at *
 generalize (a.2:Rat)=s at *
 generalize (b.2:Rat)=q at *
 refine wbq.mp λz=>?_
 have t1:=wan (show 0 < -(U*W) by grind) (wan h1 h2)
 have t2:=wah z (show 0<=P*R by have:=wan p1 p2;grind)
 have t3:(U*s)*(W*q)=(X*P)*(Y*R):=by rw [e1,e2]
 grind
theorem qtK:∀ ks:List Nat,(ks.map λk:Nat=>(k:Int)).sum=((ks.sum:Nat):Int)
 | []=>rfl
 | k::ks=>by rw [List.map_cons,List.sum_cons,List.sum_cons,qtK ks];push_cast;rfl
theorem qtr {H:Hp}:∀ (ns:List Int),RepA H (ns.map V.int) (ns.map PySem.W.Dat.int)
 | []=>.nil
 | n::ns=>.cons (.int n) (qtr ns)
theorem okI (l:List Int):PySem.W.kqdOk 8 (.list (l.map PySem.W.Dat.int))=true:=by
 show (l.map PySem.W.Dat.int).all (PySem.W.kqdOk 7)=true
 rw [List.all_eq_true]
 intro x hx
 obtain ⟨p,_,rfl⟩:=wax.mp hx
 rfl
theorem qts {q:Nu} (h:0<q.2):val (q.1+q.2,q.2)=val q+1:=by
 have h2:(q.2:Rat)≠0:=qaV (wai h)
 have i:(q.2:Rat)*(q.2:Rat)⁻¹=1:=wbb _ h2
 show ((q.1+q.2:Int):Rat) / (q.2:Rat)=(q.1:Rat) / (q.2:Rat)+1
 rw [Rat.intCast_add,Rat.div_def,Rat.div_def];grind
theorem qtt {q:Nu} (h:Low q.1 q.2):Low (q.1+q.2) q.2:=⟨h.pos,by rw [Int.gcd_add_self_left];exact h.one⟩
theorem qsb {cs:List Nu} (low:qbI cs):(cs.map λq:Nu=>((q.1+q.2,q.2):Nu)).map val=(cs.map val).map (·+1):=by
 rw [wb3,wb3]
 exact wcd λq hq=>qts (low q hq).pos
theorem qtu {cs:List Nu} (low:qbI cs) (ris:Rising cs):(cs.map val).Pairwise (·<·):=by
 rw [List.pairwise_map]
 exact List.Pairwise.imp_of_mem (λ{a b} ha hb h=>(qez (low a ha).pos (low b hb).pos).mpr h) ris
theorem Of.tp {H H':Hp} {p:Addr} {ns:List Int} (h:Of H p ns) (s:Tp H H'):Of H' p ns:=by
 obtain ⟨xs,l,κ,h1,h2,r⟩:=h.ex
 exact ⟨xs,l,κ,s _ _ h1,h2.tp s,r⟩
theorem qsc {ta:TA} {capt:List (Option Nat)} {g:TG} {te:TE} {σ:L2.St} {H:Hp} {Q:VK} (h:ta σ H λvs H1=>∃ j:Int,vs=[.int j]/\-(2 ^ 62)<=j/\j<2 ^ 62/\CompJ (Itr 0 j.toNat) capt g te σ Q H1):qbU (qgK ta) capt g te σ H Q:=h
theorem qtv {t s:Int} (bt:Bd 100 t) (bs:Bd 100 s):∀ l:List Int,(∀ z∈l,Bd 100 z)->Bd (200*l.length+200) (hw l t s)
 | [],_=>qdo _
 | a::l,h=>by
   have ih:=qtv bt bs l λz hz=>h z (wa4 _ hz)
   have h1:Bd (200*l.length+300) (a*s ^ l.length):=((h a (waz ..)).mul (bs.pow l.length)).mono ⋯
   have h2:Bd (200*l.length+300) (t*hw l t s):=(bt.mul ih).mono ⋯
   exact (h1.add h2).mono (by show _<=200*(l.length+1)+200;omega)
theorem qtw {K:W.Frag} {vs:List V} {H:Hp} {Q:VK} {E:XK} (h:qjQ K vs H Q E):qt8 K { nx:=λ_ H'=>Q .non H',rt:=Q } (L2.start ["_law_script","_law_hand_here","_law_row","_law_scale_here","_law_kp","_law_drawn","_law_cuts","_law_counts_here","_law_k","_law_later_here"] vs) H:=by
 obtain ⟨s,sc,rfl,hs,n63,k⟩:=h
 refine qeK ⟨_,rfl,s,sc,rfl,hs,n63,λp ad H1 hp k1 h1=>?_⟩
 have go:∀ (a r r5 u c r8:Addr) (row:List Int) (t d:Int) (ws:List V) (cs:List Nu) (ks:List Nat) (o8 o9:Option V) (H0:Hp),H0 a=some (.lst (row.map V.int))->Lz row->row.length<=9->(∀ z∈row,z.natAbs<=99)->Nm H0 r t d->Low t d->t≠0->Bd 4 t->Bd 4 d->Of H0 r5 row->H0 c=some (.lst ws)->Nums H0 ws cs->qbI cs->cs.length<=3->Rising cs->(∀ q∈cs,Bd 20 q.1/\Bd 20 q.2)->H0 r8=some (.lst ((ks.map λk:Nat=>(k:Int)).map V.int))->Rad row (sq row)->qqS row (sq row) none (cs.map val) ks->
   qox K { nx:=λ_ H'=>Q V.non H',rt:=Q } [some (.ref s),some (.ref p),some (.ref a),some (.ref r),some (.ref r5),some (.ref u),some (.ref c),some (.ref r8),o8,o9] H0:=λa r r5 u c r8 row t d ws cs ks o8 o9 H0 ha lz l9 br hr lt t0 bt bd of hc nc low c3 ris bc h8 rad cl=>by
  have bR:∀ z∈row,Bd 7 z:=λz hz=>by
   have:=br z hz
   show z.natAbs<128
   omega
  obtain ⟨kl,kg⟩:=ql6 cl
  rw [waa] at kl
  have total:=ql7 rad (λx hx=>by cases hx) (qtu low ris) cl
  refine qqF ⟨_,rfl,r8,_,rfl,h8,?_⟩
  refine qpN ⟨_,rfl,r5,row,none,none,.non,.non,rfl,of,rfl,rfl,(λa b h=>by cases h),λk9 H9 s9 _ cnt=>?_⟩
  have e9:ks.sum=k9:=total.uniq cnt
  rw [qtK,e9]
  have h89:=s9 _ _ h8
  have ha9:=s9 _ _ ha
  have small:k9<row.length:=by
   obtain ⟨R0,hR⟩:=cnt
   obtain ⟨m,m1,m2⟩:=qo7 R0 1
   have e:k9=Nf (evQ (sq row)) (-m) m+0:=hR m m m1 m1
   have:=rad.deg (a:=-m) (b:=m) (by grind)
   omega
  refine ⟨rfl,_,rfl,qbr (λz=>?_) (λ_=>?_)⟩
  ·rw [decide_eq_true rfl] at z;cases z
  refine ⟨_,rfl,r8,_,rfl,h89,0,_,rfl,rfl,_,rfl,qbr (λ_=>?_) (λz=>?_)⟩
  ·refine ⟨_,rfl,a,_,rfl,ha9,_,_,rfl,rfl,_,rfl,qbr (λz=>?_) (λ_=>?_)⟩
   ·rw [qtK,e9,waa,decide_eq_true (show (k9:Int)<(row.length:Int) by omega)] at z;cases z
   refine ⟨_,rfl,r8,_,rfl,h89,λz=>?_,λm hm=>⟨_,_,rfl,rfl,_,rfl,qbr (λz=>?_) (λ_=>?_)⟩⟩
   ·have z:=congrArg List.length z
    rw [waa,kl] at z
    have z:cs.length+1=0:=z
    omega
   ·obtain ⟨j,_,rfl⟩:=wax.mp hm
    have z:((j:Nat):Int)<0:=of_decide_eq_true z
    omega
   show qow K _ _ _
   have hc9:=s9 _ _ hc
   have nc9:=nc.tp (tpS s9)
   have wl:=nc.length
   refine ⟨_,rfl,c,_,rfl,hc9,_,_,rfl,rfl,_,rfl,⋯,⋯,?_⟩
   refine ForR.by (λi σ H'=>∃ u8:Option V,σ=[some (.ref s),some (.ref p),some (.ref a),some (.ref r),some (.ref r5),some (.ref u),some (.ref c),some (.ref r8),u8,o9]/\H'=H9) ⟨_,rfl,rfl⟩ ?_ ?_
   ·rintro i σ H' hi ⟨u8,rfl,rfl⟩
    have i1:i+1<cs.length:=by omega
    have el:∀ j,j<cs.length->∃ (v:Addr) (q:Nu),ws[j]?=some (.ref v)/\cs[j]?=some q/\Nm H' v q.1 q.2:=λj hj=>by
     have hw:j<ws.length:=by omega
     obtain ⟨q,hq,v,e,hv⟩:=nc9.get (wag hw)
     exact ⟨v,q,by rw [wag hw,e],hq,hv⟩
    obtain ⟨v1,q1,g1,c1,n1⟩:=el i ⋯
    obtain ⟨v2,q2,g2,c2,n2⟩:=el (i+1) i1
    have m1:=wau c1
    have m2:=wau c2
    have b100:∀ z∈row,Bd 100 z:=λz hz=>(bR z hz).mono ∅
    have bw:∀ q:Nu,q∈cs->Bd 2000 (hw row q.1 q.2):=λq hq=>(qtv ((bc q hq).1.mono ∅) ((bc q hq).2.mono ∅) row b100).mono ⋯
    refine qlK (qpP (qpP (qfL ⟨_,rfl,_,rfl,_,rfl,c,_,_,_,rfl,rfl,hc9,qb7 (j:=i) ⋯ g1,a,v1,row,q1.1,q1.2,rfl,ha9,n1,⋯,b100,(bc q1 m1).1.mono ∅,(bc q1 m1).2.mono ∅,?_⟩)))
    refine qfL ⟨_,rfl,_,rfl,_,rfl,_,_,rfl,rfl,c,_,_,_,rfl,rfl,hc9,qb7 (j:=i+1) ⋯ g2,a,v2,row,q2.1,q2.2,rfl,ha9,n2,⋯,b100,(bc q2 m2).1.mono ∅,(bc q2 m2).2.mono ∅,?_⟩
    refine ⟨_,_,rfl,rfl,qjX (bw q1 m1) (bw q2 m2),_,_,rfl,rfl,_,rfl,qbr (λneg=>?_) (λ_=>qbr (λz=>nomatch z) (λ_=>⟨_,rfl,rfl⟩))⟩
    have neg:hw row q1.1 q1.2*hw row q2.1 q2.2<0:=of_decide_eq_true neg
    have kk:i+1<ks.length:=by omega
    have gk:ks[i+1]?=some ks[i+1]:=wag kk
    have gk2:((ks.map λk:Nat=>(k:Int)).map V.int)[i+1]?=some (V.int (ks[i+1]:Nat)):=by rw [waf,waf,gk];rfl
    have cnt2:=kg (i+1) _ gk
    have el1:(none::(cs.map val).map some).getD (i+1) none=some (val q1):=by
     show ((cs.map val).map some).getD i none=_
     rw [wab,waf,waf,c1];rfl
    have el2:((cs.map val).map some).getD (i+1) none=some (val q2):=by
     rw [wab,waf,waf,c2];rfl
    rw [el1,el2] at cnt2
    have nz:ks[i+1]≠0:=λz=>by
     obtain ⟨R0,hR⟩:=cnt2
     have e:ks[i+1]=Nf (evQ (sq row)) (val q1) (val q2)+_:=hR R0 R0 (Rat.le_refl) (Rat.le_refl)
     obtain ⟨l1,e1'⟩:=waq.mp c1
     obtain ⟨l2,e2'⟩:=waq.mp c2
     have lt12:=List.pairwise_iff_getElem.mp ris i (i+1) l1 l2 ⋯
     rw [e1',e2'] at lt12
     have:=rad.change ((qez (low q1 m1).pos (low q2 m2).pos).mpr lt12) (qsa (low q1 m1).pos (low q2 m2).pos neg)
     omega
    refine qlK (qpP ⟨_,rfl,_,rfl,_,_,rfl,rfl,r8,_,_,_,rfl,rfl,h89,qb7 (j:=i+1) ⋯ gk2,.int (ks[i+1]:Nat),.int 0,decide (((ks[i+1]:Nat):Int)=0),.int _,.int _,rfl,rfl,⟨λz=>by rw [of_decide_eq_true z],λz=>by injection z with z;exact decide_eq_true z⟩,_,rfl,qbr (λz=>?_) (λ_=>⟨_,rfl,rfl⟩)⟩)
    have z:((ks[i+1]:Nat):Int)=0:=of_decide_eq_true z
    exact absurd (show ks[i+1]=0 by omega) nz
   ·rintro σ H' ⟨u8,rfl,rfl⟩
    show qov K _ _ _
    have low':qbI (cs.map λq:Nu=>((q.1+q.2,q.2):Nu)):=λq hq=>by
     obtain ⟨q',hq',rfl⟩:=wax.mp hq
     exact qtt (low q' hq')
    have last:∀ H10,Same H' H10->qlW K { nx:=λ_ H'=>Q V.non H',rt:=Q } [some (.ref s),some (.ref p),some (.ref a),some (.ref r),some (.ref r5),some (.ref u),some (.ref c),some (.ref r8),u8,o9] H10:=λH10 s10=>by
     have hc10:=s10 _ _ hc9
     have nc10:=nc9.tp (tpS s10)
     refine qck (qru ⟨_,rfl,c,rfl,⟨_,SqL.of hc10⟩,CompJ.lst (xs:=ws) (λi ys H''=>i<=ws.length/\Same H10 H''/\Nums H'' ys ((cs.take i).map λq:Nu=>((q.1+q.2,q.2):Nu))) ⟨wae _,λ_ _ h=>h,trivial⟩ ?_ ?_ ?_⟩)
     ·rintro i ys H'' ⟨il,s11,n11⟩
      have:=n11.length
      rw [waa,wa5] at this
      exact ⟨il,sz ⋯,SqL.of (s11 _ _ hc10)⟩
     ·rintro i x ys H'' hx ⟨il,s11,n11⟩
      obtain ⟨q,hq,v,rfl,hv⟩:=(nc10.tp (tpS s11)).get hx
      have iw:=(waq.mp hx).1
      refine ⟨_,rfl,_,_,_,_,rfl,rfl,hv,rfl,_,rfl,_,_,_,_,rfl,rfl,hv,rfl,_,_,rfl,rfl,_,rfl,_,_,_,_,rfl,rfl,hv,rfl,qrv,λv2 hv2=>?_⟩
      have sv:=qah hv2 (.tup [.int (q.1+q.2),.int q.2])
      refine ⟨⋯,s11.trans sv,?_⟩
      have e:(cs.take (i+1)).map (λq:Nu=>((q.1+q.2,q.2):Nu))=(cs.take i).map (λq:Nu=>((q.1+q.2,q.2):Nu))++[(q.1+q.2,q.2)]:=by
       rw [wbz,hq,wb6];rfl
      rw [e]
      exact (n11.tp (tpS sv)).append (Nums.one ⟨v2,rfl,qag⟩)
     ·rintro ys H'' ⟨_,s11,n11⟩ lh hlh
      rw [wl,wbv] at n11
      have s12:=qah hlh (.lst ys)
      have hl:upd H'' lh (.lst ys) lh=some (.lst ys):=qag
      show qlV K _ [some (.ref s),some (.ref p),some (.ref a),some (.ref r),some (.ref r5),some (.ref u),some (.ref c),some (.ref r8),u8,some (.ref lh)] _
      generalize upd H'' lh (.lst ys)=H12 at s12 hl ⊢
      have n12:=n11.tp (tpS s12)
      have s012:=s10.trans (s11.trans s12)
      have s0:=s9.trans s012
      refine qpO (qpP (qfL (qfL (qrt ⟨_,rfl,a,row,rfl,s0 _ _ ha,lz,l9,br,λr13 G H13 s13 h13 gl lzG bG eG=>?_⟩))))
      have s013:=s0.trans s13
      refine ⟨_,rfl,r13,r,G,t,d,rfl,h13,s013 _ _ hr,wai lt.pos,bt.mono ∅,λz hz=>(bG z hz).mono ∅,⋯,λr14 zs H14 s14 h14 n14=>?_⟩
      have ofG:Of H14 r14 G:=qla lzG (λz hz=>(bG z hz).mono ∅) ⋯ lt t0 bt bd h14 n14
      refine ⟨_,rfl,r14,lh,ys,_,G,rfl,ofG,s14 _ _ (s13 _ _ hl),(n12.tp (tpS s13)).tp (tpS s14),low',by rw [waa];exact c3,?_,λq hq=>?_,λr15 ks' H15 s15 h15 rad' cl'=>?_⟩
      ·show List.Pairwise _ _
       rw [List.pairwise_map]
       exact List.Pairwise.imp (λ{x y} h=>by show (x.1+x.2)*y.2<(y.1+y.2)*x.2;grind) ris
      ·obtain ⟨q',hq',rfl⟩:=wax.mp hq
       exact ⟨(((bc q' hq').1).add (bc q' hq').2).mono ∅,(bc q' hq').2.mono ∅⟩
      have e:ks'=ks:=by
       rw [qsb low] at cl'
       refine qk9 (F:=row) (G:=G) (δ:=1) (λx y=>?_) (λx=>?_) cl cl'
       ·rw [qr7 (c:=-1) rad rad' (λx=>by rw [eG,show x - 1=x + -1 by grind])]
        rw [show x+1 + -1=x by grind,show y+1 + -1=y by grind]
       ·rw [eG,show x+1 - 1=x by grind]
      subst e
      refine ⟨_,rfl,_,_,true,.lst h15 (qtr _),.lst (s15 _ _ (s14 _ _ (s13 _ _ (s012 _ _ h89)))) (qtr _),okI _,okI _,⟨λ_=>rfl,λ_=>rfl⟩,k _⟩
    refine qqF ⟨_,rfl,a,_,rfl,ha9,_,_,rfl,rfl,_,rfl,qbr (λc5=>?_) (λ_=>qbr (λz=>nomatch z) (λ_=>last _ (λ_ _ h=>h)))⟩
    have c5:(((row.map V.int).length:Nat):Int)<5:=of_decide_eq_true c5
    rw [waa] at c5
    have b7:∀ z∈row,Bd 7 z:=bR
    refine qlK (qpP (qfL (qfL (qfL ⟨_,rfl,_,rfl,a,a,row,row,7,7,rfl,ha9,ha9,lz.1,lz.1,⋯,⋯,b7,b7,∅,∅,λrr G H10 s10 _ h10 gl lzG ck=>?_⟩))))
    have lzG:=lzG lz lz
    refine qn7 ⟨qrv,λtt htt=>?_⟩
    have s11:=qah htt (.tup [.int 1,.int 1])
    have h11:upd H10 tt (.tup [.int 1,.int 1]) tt=some (.tup [.int 1,.int 1]):=qag
    generalize upd H10 tt (.tup [.int 1,.int 1])=H11 at s11 h11 ⊢
    have bG:∀ z∈G,Bd 20 z:=λz hz=>by
     obtain ⟨j,rfl⟩:=qkc hz
     rw [ck j]
     have h1:=quo br br j row.length
     have h2:row.length*(99*99)<=4*(99*99):=wbe _ ⋯
     show (ps row row row.length j).natAbs<1048576
     omega
    have bd1:∀ n,Bd (n+1) 1:=λn=>by show 1<2 ^ (n+1);exact Nat.one_lt_two_pow ⋯
    refine ⟨rr,tt,G,1,1,rfl,s11 _ _ h10,h11,∅,bd1 999,λz hz=>(bG z hz).mono ∅,⋯,λr12 zs H12 s12 h12 n12=>?_⟩
    have ofG:Of H12 r12 G:=qla lzG (λz hz=>(bG z hz).mono ∅) ⋯ ⟨∅,∅⟩ ∅ (bd1 3) (bd1 3) h12 n12
    have s912:=s10.trans (s11.trans s12)
    refine ⟨_,rfl,r12,c,ws,cs,G,rfl,ofG,s912 _ _ hc9,nc9.tp (tpS s912),low,c3,ris,λq hq=>⟨(bc q hq).1.mono ∅,(bc q hq).2.mono ∅⟩,λr13 ks' H13 s13 h13 rad' cl'=>?_⟩
    have eG:si G=si row*si row:=qj5 λk=>by rw [ck k,qo0 _ _ _ _ (wad _),wbv]
    have e:ks'=ks:=by
     have id0:(λx:Rat=>x+0)=id:=funext λx=>by show x+0=x;grind
     refine qk9 (F:=row) (G:=G) (δ:=0) (λx y=>?_) (λx=>?_) cl (by rw [id0,List.map_id];exact cl')
     ·rw [show x+0=x by grind,show y+0=y by grind]
      exact (rad.sqr eG).same rad' x y
     ·rw [show x+0=x by grind,qo2 eG]
      constructor
      ·intro z
       rcases wa2.mp z with z | z <;> exact z
      ·intro z;rw [z];grind
    subst e
    refine ⟨_,rfl,_,_,true,.lst h13 (qtr _),.lst (s13 _ _ (s912 _ _ h89)) (qtr _),okI _,okI _,⟨λ_=>rfl,λ_=>rfl⟩,_,rfl,qbr (λz=>nomatch z) (λ_=>last _ (s912.trans s13))⟩
  ·exact absurd (decide_eq_true (show (0:Int)<=_ by rw [qtK];omega)) z
 refine qck (qpN ⟨_,rfl,?_⟩)
 refine qpP (qsZ ⟨qrv,λw hw'=>?_⟩)
 have sw:=qah hw' (.lst [.int 6,.int 8])
 have wp:=h1.ne hw'
 refine qtY (qpP (qfL ⟨_,rfl,p,ad,_,_,rfl,h1.same sw,∅,∅,∅,λd H2 d0 d1 h2 k2=>?_⟩))
 obtain ⟨m,hm,m6⟩:∃ m:Int,atI [V.int 6,V.int 8] (if decide (d=0)=true then 1 else 0)=some (V.int m)/\(m=6\/m=8):=by
  by_cases z:decide (d=0)=true
  ·rw [if_pos z];exact ⟨8,rfl,.inr rfl⟩
  ·rw [if_neg z];exact ⟨6,rfl,.inl rfl⟩
 refine ⟨.int d,.int 0,decide (d=0),.int _,.int _,rfl,rfl,⟨λz=>by rw [of_decide_eq_true z],λz=>by injection z with z;exact decide_eq_true z⟩,_,rfl,_,_,_,_,rfl,rfl,k2 _ _ wp qag,hm,p,ad,m,99,_,rfl,h2,⋯,⋯,⋯,.inr (.inr rfl),λa row H3 ha lrow lz br nap naa h3 k3=>?_⟩
 show qoA K _ _ _
 have l9:row.length<=9:=by omega
 have br:∀ z∈row,z.natAbs<=99:=λz hz=>by have:=br z hz;omega
 have b7:∀ z∈row,Bd 7 z:=λz hz=>by
  have:=br z hz
  show z.natAbs<128
  omega
 refine qeK ⟨_,rfl,p,ad,_,rfl,h3,⋯,λr t d H4 hr lt t0 bt bd h4 k4=>?_⟩
 have ha4:=k4 _ _ nap ha
 refine qg2 ⟨_,rfl,_,rfl,a,r,row,t,d,rfl,ha4,hr,wai lt.pos,bt.mono ∅,λz hz=>(b7 z hz).mono ∅,⋯,λr5 zs H5 s5 h5 n5=>?_⟩
 have ofk:=qla lz (λz hz=>(b7 z hz).mono ∅) l9 lt t0 bt bd h5 n5
 obtain ⟨N,N60,hN⟩:∃ N:Int,N<=60/\Hand H5 p ad N:=⟨_,∅,h4.same s5⟩
 have ha5:=s5 _ _ ha4
 have hr5:=s5 _ _ hr
 show qoz K _ [some (.ref s),some (.ref p),some (.ref a),some (.ref r),some (.ref r5),none,none,none,none,none] H5
 refine qck (qsc ⟨3,rfl,∅,∅,?_⟩)
 refine CompJ.range (lo:=0) (n:=3) (λi ys H'=>∃ ls:List Nu,Nums H' ys ls/\ls.length=i/\i<=3/\qbI ls/\(∀ q∈ls,Bd 6 q.1/\Bd 6 q.2)/\Hand H' p ad (N+4*i)/\Kp p H5 H') ⟨[],trivial,rfl,∅,λq h=>(nomatch h),λq h=>(nomatch h),by rw [show N+4*((0:Nat):Int)=N by omega];exact hN,λ_ _ _ h=>h⟩ ?_ ?_ ?_
 ·rintro i ys H' ⟨ls,nl,ll,il,_⟩
  have:=nl.length
  exact ⟨il,sz ⋯⟩
 ·rintro i ys H' hi ⟨ls,nl,ll,il,low,b6,hh,kp⟩
  refine ⟨_,rfl,p,ad,61,_,rfl,hh,⋯,∅,∅,λx H6 x0 x1 h6 k6=>⟨_,_,rfl,rfl,_,rfl,p,ad,7,_,rfl,h6,⋯,∅,∅,λy H7 y0 y1 h7 k7=>⟨_,_,rfl,rfl,x - 30,1+y,rfl,⋯,λq hq=>?_⟩⟩⟩
  have sq:=qah hq (.tup [.int (qbv (x - 30) (1+y)).1,.int (qbv (x - 30) (1+y)).2])
  have y1:1+y≠0:=by omega
  obtain ⟨e1,e2⟩:=qiN (c:=6) (d:=6) (n:=x - 30) y1 (bdN (by show _<64;omega)) (bdN (by show _<64;omega))
  refine ⟨ls++[qbv (x - 30) (1+y)],(((nl.tp (tpK hh k6)).tp (tpK h6 k7)).tp (tpS sq)).append (Nums.one ⟨q,rfl,qag⟩),by rw [wa9,ll];rfl,⋯,λz hz=>?_,λz hz=>?_,(h7.same sq).mono ⋯,((kp.trans k6).trans k7).trans (Kp.of_same sq)⟩
  ·rcases wbk.mp hz with z1 | z1
   ·exact low z z1
   ·rw [war.mp z1];exact qcj y1
  ·rcases wbk.mp hz with z1 | z1
   ·exact b6 z z1
   ·rw [war.mp z1];exact ⟨e1,e2⟩
 ·rintro ys H' ⟨ls,nl,ll,il,low,b6,hh,kp⟩ u hu
  have su:=qah hu (.lst ys)
  have hu2:upd H' u (.lst ys) u=some (.lst ys):=qag
  generalize upd H' u (.lst ys)=H6 at su hu2 ⊢
  show qoy K _ [some (.ref s),some (.ref p),some (.ref a),some (.ref r),some (.ref r5),some (.ref u),none,none,none,none] H6
  have tp:=tpK hN kp
  refine qeK ⟨_,rfl,u,ys,ls,rfl,hu2,nl.tp (tpS su),low,⋯,λq hq=>⟨(b6 q hq).1.mono ∅,(b6 q hq).2.mono ∅⟩,λc ws cs H7 s7 hc nc ris mem=>?_⟩
  have s67:=su.trans s7
  have lowc:qbI cs:=λq hq=>low q ((mem q).mp hq)
  have c3:cs.length<=3:=by
   have:=qkd ris.nodup λq hq=>(mem q).mp hq
   omega
  have ofc:Of H7 r5 row:=(ofk.tp tp).kp s67
  refine qg2 ⟨_,rfl,_,rfl,r5,c,ws,cs,row,rfl,ofc,hc,nc,lowc,c3,ris,λq hq=>⟨(b6 q ((mem q).mp hq)).1.mono ∅,(b6 q ((mem q).mp hq)).2.mono ∅⟩,λr8 ks H8 s8 h8 rad cl=>?_⟩
  have s68:=s67.trans s8
  exact go a r r5 u c r8 row t d ws cs ks none none H8 (s68 _ _ (kp _ _ nap ha5)) lz l9 br (s68 _ _ (tp _ _ hr5)) lt t0 bt bd (ofc.kp s8) (s8 _ _ hc) (nc.tp (tpS s8)) lowc c3 ris (λq hq=>⟨(b6 q ((mem q).mp hq)).1.mono ∅,(b6 q ((mem q).mp hq)).2.mono ∅⟩) h8 rad cl
end Bs
namespace Bs
open PySem PySem.Spec PyProof.Rows L2
set_option maxHeartbeats 4000000
open Hd
structure Bl (K:W.Frag) (mg:Str->Option Value):Prop where
 abs:mg "abs" = none
 min:mg "min" = none
 len:mg "len" = none
 range:mg "range" = none
 list:mg "list" = none
 max:mg "max" = none
 any:mg "any" = none
 enumerate:mg "enumerate" = none
 zip:mg "zip" = none
 EXPONENTS:mg "EXPONENTS" = some (.ref (qbW K))
 reversed:mg "reversed" = none
 sum:mg "sum" = none
 tuple:mg "tuple" = none
 int:mg "int" = none
 xEXPONENTS:∀ H:Hp,SqT K H (qbW K) (exps.map λe:Nat=>V.int (e:Int))
section
variable (P:Program) (w:World) (K:W.Frag) (mg:Str->Option Value) (base:Heap)
noncomputable abbrev qa5:Prop:=Cal P w K mg base 1 "common_divisor" ["one", "other"] (qaG K)
noncomputable abbrev ql8:Prop:=Cal P w K mg base 1 "raised" ["whole", "n"] (qda K)
noncomputable abbrev qke:Prop:=Cal P w K mg base 2 "content" ["row", "start"] (qcq K)
noncomputable abbrev qco:Prop:=Cal P w K mg base 1 "row_trimmed" ["row"] (qaZ K)
noncomputable abbrev qgg:Prop:=Cal P w K mg base 1 "row_parted" ["row", "divisor"] (qbx K)
noncomputable abbrev qhq:Prop:=Cal P w K mg base 1 "row_slope" ["row"] (qbL K)
noncomputable abbrev qfV:Prop:=Cal P w K mg base 1 "row_over" ["row", "divisor"] (qbt K)
noncomputable abbrev qd8:Prop:=Cal P w K mg base 1 "root_exponent" ["row"] (qbE K)
noncomputable abbrev qin:Prop:=Cal P w K mg base 2 "row_less" ["row", "factor", "other", "weight", "shift"] (qbX K)
noncomputable abbrev qeO:Prop:=Cal P w K mg base 1 "row_moved" ["row", "whole"] (qbu K)
noncomputable abbrev qfw:Prop:=Cal P w K mg base 4 "strand_rest" ["strand", "other"] (qbm K)
noncomputable abbrev qbQ:Prop:=Cal P w K mg base 3 "strand_shortened" ["strand"] (qaM K)
noncomputable abbrev qbR:Prop:=Cal P w K mg base 4 "row_shortened" ["row"] (qaL K)
noncomputable abbrev qd9:Prop:=Cal P w K mg base 5 "strand_euclid" ["strand", "other"] (qaU K)
noncomputable abbrev qdK:Prop:=Cal P w K mg base 1 "inverse_modulo" ["whole", "prime"] (qa0 K)
noncomputable abbrev qeA:Prop:=Cal P w K mg base 1 "rests_modulo" ["row", "prime"] (qbd K)
noncomputable abbrev qea:Prop:=Cal P w K mg base 2 "row_modulo" ["row", "prime"] (qa6 K)
noncomputable abbrev qeB:Prop:=Cal P w K mg base 2 "monic_modulo" ["row", "prime"] (qaQ K)
noncomputable abbrev qeC:Prop:=Cal P w K mg base 3 "split_modulo" ["row", "divisor", "modulus"] (qbe K)
noncomputable abbrev qfx:Prop:=Cal P w K mg base 4 "rest_modulo" ["row", "divisor", "modulus"] (qbn K)
noncomputable abbrev qeb:Prop:=Cal P w K mg base 5 "euclid_modulo" ["row", "other", "prime"] (qa4 K)
noncomputable abbrev qkf:Prop:=Cal P w K mg base 1 "nearest" ["whole", "prime"] (qcr K)
noncomputable abbrev qdm:Prop:=Cal P w K mg base 6 "common_by_prime" ["row", "other", "prime"] (qaS K)
noncomputable abbrev qgh:Prop:=Cal P w K mg base 7 "row_common" ["row", "other"] (qby K)
noncomputable abbrev qgi:Prop:=Cal P w K mg base 8 "simple_row" ["row"] (qbz K)
noncomputable abbrev qo9:Prop:=Cal P w K mg base 2 "ratio" ["top", "bottom"] (qds K)
noncomputable abbrev ql9:Prop:=Cal P w K mg base 1 "before" ["one", "other"] (qdc K)
noncomputable abbrev qhr:Prop:=Cal P w K mg base 2 "cleared" ["P"] (qbY K)
noncomputable abbrev qq3:Prop:=Cal P w K mg base 3 "p_at" ["P", "c"] (qiZ K)
noncomputable abbrev qcM:Prop:=Cal P w K mg base 9 "count_between" ["P", "low", "high"] (qbk K)
noncomputable abbrev qhs:Prop:=Cal P w K mg base 2 "stretched" ["row", "start", "end"] (qcV K)
noncomputable abbrev qeD:Prop:=Cal P w K mg base 2 "count_within" ["row"] (qbP K)
noncomputable abbrev qma:Prop:=Cal P w K mg base 1 "halved" ["row"] (qe5 K)
noncomputable abbrev qeE:Prop:=Cal P w K mg base 1 "sign_changes" ["row"] (qbO K)
noncomputable abbrev qmb:Prop:=Cal P w K mg base 1 "_law_hand" ["_law_script"] (qdb K)
noncomputable abbrev qgJ:Prop:=Cal P w K mg base 1 "_law_draw" ["_law_hand_here", "_law_many"] (qaW K)
noncomputable abbrev qel:Prop:=Cal P w K mg base 1 "_law_lowest" ["_law_top", "_law_bottom"] (qbZ K)
noncomputable abbrev qdu:Prop:=Cal P w K mg base 1 "_law_row_times" ["_law_one", "_law_other"] (qa9 K)
noncomputable abbrev qht:Prop:=Cal P w K mg base 2 "_law_poly_of" ["_law_row", "_law_scale_here"] (qbh K)
noncomputable abbrev qkg:Prop:=Cal P w K mg base 1 "_law_worth" ["_law_row", "_law_c"] (qdd K)
noncomputable abbrev qkh:Prop:=Cal P w K mg base 2 "_law_scale" ["_law_hand_here"] (qcs K)
noncomputable abbrev qhu:Prop:=Cal P w K mg base 2 "_law_any_row" ["_law_hand_here", "_law_most", "_law_size"] (qbK K)
noncomputable abbrev qio:Prop:=Cal P w K mg base 1 "_law_rising" ["_law_numbers"] (qdt K)
noncomputable abbrev qki:Prop:=Cal P w K mg base 2 "_law_later" ["_law_row"] (qej K)
noncomputable abbrev qip:Prop:=Cal P w K mg base 10 "_law_counts" ["_law_kp", "_law_cuts"] (qb0 K)
end
section
variable {P:Program} {w:World} {K:W.Frag} {mg:Str->Option Value} {base:Heap} {f:Addr} {fd:FuncData}
theorem okm {n:Str} {st:Stmt} {N ps:List Str} {k:Nat} {sp:Sp} {t:TS} (F:Fun K n n st f fd) (v:∀ {vs:List V} {H:Hp} {Q:VK} {E:XK},sp vs H Q E->t { nx:=λ_ H'=>Q .non H',rt:=Q } (start N vs) H) (d:∀ {cdv:Value} {A:Around} {outer:List Env} {s:Shared} {H:Hp} {E:XK} (hr:Room k (A.deeper (envOfC n (qa1 st) s.heap.objs.size f cdv))) (nd:N.Nodup) (hu:(A.deeper (envOfC n (qa1 st) s.heap.objs.size f cdv)).units<cLine) (hu64:(A.deeper (envOfC n (qa1 st) s.heap.objs.size f cdv)).units+64<cLine),PSs (qra CX0 P w K mg base N n (qa1 st) f cdv A outer s H E).nox (qcg st) t) (S:FnScope N ps (qa1 st):=by exact ⟨rfl,rfl,rfl,by decide +kernel,rfl,by decide +kernel,by decide +kernel⟩) (len:∀ vs H Q E,sp vs H Q E->vs.length=ps.length:=by intro vs H Q E h;repeat (first | (obtain ⟨rfl,_⟩:=h;rfl) | obtain ⟨_,h⟩:=h)):FnOk P w K mg base CX0 (k+1) f fd ps sp:=F.ok S len λcdv A outer s H vs Q E hr h=>⟨t,d hr S.nd hr.units0 hr.units,v h⟩
theorem li {a:Prop} {α:Type} {x:α}:x=x\/a:=Or.inl rfl
theorem qfW (F:Fun K "common_divisor" "common_divisor" qgk f fd) (B:Bl K mg)  : FnOk P w K mg base CX0 1 f fd ["one", "other"] (qaG K):=okm F (qfR ) λhr nd hu ht=>(qab (qb2 PassesOwn.never (qav qiu (pv 1) qac (nomark _)) (qab (qak (i:=2) nd rfl li (qal qq8 (pv 0) (pv 1)))
  (qab (qak (i:=0) nd rfl li (pv 1))
  (qai (qak (i:=1) nd rfl li (pv 2))))))
  (qai (qaD (qao qc7 rfl B.abs qia (qaa (pv 0) qae)))))
theorem qpa (F:Fun K "raised" "raised" qps f fd) (B:Bl K mg)  : FnOk P w K mg base CX0 1 f fd ["whole", "n"] (qda K):=okm F (qoB ) λhr nd hu ht=>(qab (qak (i:=2) nd rfl li qac)
  (qab (qak (i:=3) nd rfl li (pv 0))
  (qab (qb2 PassesOwn.never (qav qiv (pv 1) qac (nomark _)) (qab (qbS (qav qgM (qal qb5 (pv 1) qac) qac (nomark _)) (qai (qdw (i:=2) nd rfl li (pv 3) qcR)) qaO)
  (qab (qdw (i:=1) nd rfl li qac qnC)
  (qai (qbS (qav qiv (pv 1) qac (nomark _)) (qai (qdw (i:=3) nd rfl li (pv 3) qcR)) qaO)))))
  (qai (qaD (pv 2))))))
theorem qmG (F:Fun K "content" "content" qnh f fd) (B:Bl K mg) (c0:qa5 P w K mg base):FnOk P w K mg base CX0 2 f fd ["row", "start"] (qcq K):=okm F (qmA ) λhr nd hu ht=>(qab (qak (i:=2) nd rfl li (c0.pe hr ∅ rfl (qaa (qrk rfl B.min qqx (qpH (N:=["whole"]) (capt:=[none]) rfl (BlkOk.of rfl rfl rfl rfl (λ_ h=>nomatch h) rfl rfl rfl) (qbN (pv 0)) (λ_ _ _ _=>(qaB (i:=0) (show (["whole"]:List PySem.Str).Nodup by decide +kernel) rfl li)) (λ_ _ _ _=>(qav qiu (pv 0) qac (nomark _))) (λ_ _ _ _=>(qao qc7 rfl B.abs qia (qaa (pv 0) qae))))) (qaa (pv 1) qae))))
  (qab (qbq PassesOwn.never rfl (qbN (pv 0)) (qaB (i:=3) nd rfl li) (qab (qbS (qav qgM (pv 2) qac (nomark _)) (qai (qaD qac)) qaO)
  (qai (qak (i:=2) nd rfl li (c0.pe hr ∅ rfl (qaa (pv 3) (qaa (pv 2) qae)))))))
  (qai (qaD (pv 2)))))
theorem qhU (F:Fun K "row_trimmed" "row_trimmed" qiA f fd) (B:Bl K mg)  : FnOk P w K mg base CX0 1 f fd ["row"] (qaZ K):=okm F (qhQ ) λhr nd hu ht=>(qab (qak (i:=1) nd rfl li (qao qaw rfl B.len qaY (qaa (pv 0) qae)))
  (qab (qb2 PassesOwn.never (PW.pt (qeS (qav qiv (pv 1) qac (nomark _)) (qdM (qav qgM (qaz qap (pv 0) (qal qa2 (pv 1) qac) (λ_ _=>rfl)) qac (nomark _))))) (qai (qdw (i:=1) nd rfl li qac qit)))
  (qai (qaD (qcQ qfH (pv 0) qdO (qdn (pv 1)))))))
theorem qjg (F:Fun K "row_parted" "row_parted" qjz f fd) (B:Bl K mg)  : FnOk P w K mg base CX0 1 f fd ["row", "divisor"] (qbx K):=okm F (qi6 ) λhr nd hu ht=>(qai (qaD (qcw (N:=["whole", "divisor"]) (capt:=[none,some 1]) rfl (BlkOk.of rfl rfl rfl rfl (wb4.mpr rfl) rfl rfl rfl) (qbN (pv 0)) (λ_ _ _ _=>(qaB (i:=0) (show (["whole", "divisor"]:List PySem.Str).Nodup by decide +kernel) rfl li)) (λ_ _ _ _=>(qal qeZ (pv 0) (pv 1))))))
theorem qkj (F:Fun K "row_slope" "row_slope" qkz f fd) (B:Bl K mg)  : FnOk P w K mg base CX0 1 f fd ["row"] (qbL K):=okm F (qj7 ) λhr nd hu ht=>(qai (qaD (qcw (N:=["place", "row"]) (capt:=[none,some 0]) rfl (BlkOk.of rfl rfl rfl rfl (wb4.mpr rfl) rfl rfl rfl) (qjp rfl B.range (qaa qac (qaa (qao qaw rfl B.len qaY (qaa (pv 0) qae)) qae))) (λ_ _ _ _=>(qaB (i:=0) (show (["place", "row"]:List PySem.Str).Nodup by decide +kernel) rfl li)) (λ_ _ _ _=>(qal qaH (pv 0) (qaz qap (pv 1) (pv 0) (λ_ _=>rfl)))))))
theorem qlb (F:Fun K "row_over" "row_over" qmk f fd) (B:Bl K mg)  : FnOk P w K mg base CX0 1 f fd ["row", "divisor"] (qbt K):=okm F (qkW ) λhr nd hu ht=>(qab (qak (i:=2) nd rfl li (qcu qc8 rfl B.list qgV (qaa (pv 0) qae)))
  (qab (qak (i:=3) nd rfl li (qal qa2 (qao qaw rfl B.len qaY (qaa (pv 1) qae)) qac))
  (qab (qak (i:=4) nd rfl li (qal qls (qbA (qaa qac qae)) (qao (qdQ rfl) rfl B.max qib (qaa (qal qa2 (qao qaw rfl B.len qaY (qaa (pv 0) qae)) (pv 3)) (qaa qac qae)))))
  (qab (qbq PassesOwn.never rfl (qeY rfl B.range (qaa (qal qa2 (qal qa2 (qao qaw rfl B.len qaY (qaa (pv 0) qae)) (pv 3)) qac) (qaa (qbT qba qac) (qaa (qbT qba qac) qae)))) (qaB (i:=5) nd rfl li) (qab (qak (i:=6) nd rfl li (qal qcS (qaz qap (pv 2) (qal qaR (pv 5) (pv 3)) (λ_ _=>rfl)) (qaz qap (pv 1) (qbT qba qac) (λ_ _=>rfl))))
  (qab (qbS (qav qiu (qal qaH (pv 6) (qaz qap (pv 1) (qbT qba qac) (λ_ _=>rfl))) (qaz qap (pv 2) (qal qaR (pv 5) (pv 3)) (λ_ _=>rfl)) (nomark _)) (qai (qaD qcP)) qaO)
  (qab (qf1 (pv 6) (qf0 (pv 4) (pv 5) qbo))
  (qai (qbS (qav qiu (pv 6) qac (nomark _)) (qai (qbq PassesOwn.never rfl (qct rfl B.range (qaa (pv 3) qae)) (qaB (i:=7) nd rfl li) (qai (qfC (pv 2) (qal qaR (pv 5) (pv 7)) qeg (qal qaH (pv 6) (qaz qap (pv 1) (pv 7) (λ_ _=>rfl))) qit qbo)))) qaO))))))
  (qai (qaD (qed (qll (qao (qnK rfl) rfl B.any qsI (qaa (qcQ qfH (pv 2) qdO (qdn (pv 3))) qae))) qcP (pv 4))))))))
theorem qgw (F:Fun K "root_exponent" "root_exponent" qgQ f fd) (B:Bl K mg)  : FnOk P w K mg base CX0 1 f fd ["row"] (qbE K):=okm F (qgu ) λhr nd hu ht=>(qab (qak (i:=1) nd rfl li (qbA qae))
  (qab (qbq PassesOwn.never rfl (qjp rfl B.range (qaa qac (qaa (qao qaw rfl B.len qaY (qaa (pv 0) qae)) qae))) (qaB (i:=2) nd rfl li) (qab (qak (i:=3) nd rfl li (qaz qap (pv 0) (qal qa2 (qal qa2 (qao qaw rfl B.len qaY (qaa (pv 0) qae)) qac) (pv 2)) (λ_ _=>rfl)))
  (qai (qbS (qav qiu (pv 3) qac (nomark _)) (qai (qfA (qmi PySem.F.plainAttrs_list PySem.F.slot_list_append PySem.F.type_list_append qeV (pv 1) (qaa (qbT qba (qal qeZ (qal qa2 (qal qa2 (qnb PySem.F.plainAttrs_int PySem.F.slot_int_bit_length PyProof.Rows.type_int_bit_length qnP (qaz qap (pv 0) (qbT qba qac) (λ_ _=>rfl))) (qnb PySem.F.plainAttrs_int PySem.F.slot_int_bit_length PyProof.Rows.type_int_bit_length qnP (pv 3))) qac) (pv 2))) qae)))) qaO))))
  (qai (qaD (qal qaR qac (qrm rfl B.max qib (pv 1)))))))
theorem qlc (F:Fun K "row_less" "row_less" qml f fd) (B:Bl K mg) (c0:qco P w K mg base):FnOk P w K mg base CX0 2 f fd ["row", "factor", "other", "weight", "shift"] (qbX K):=okm F (qkV ) λhr nd hu ht=>(qab (qiH (i:=5) (N:=["whole", "factor"]) (capt:=[none,some 1]) nd rfl li rfl (BlkOk.of rfl rfl rfl rfl (wb4.mpr rfl) rfl rfl rfl) (qbN (pv 0)) (λ_ _ _ _=>(qaB (i:=0) (show (["whole", "factor"]:List PySem.Str).Nodup by decide +kernel) rfl li)) (λ_ _ _ _=>(qal qaH (pv 1) (pv 0))))
  (qab (qfA (qmi PySem.F.plainAttrs_list PySem.F.slot_list_extend PySem.F.type_list_extend qnc (pv 5) (qaa (qal qls (qbA (qaa qac qae)) (qal qa2 (qal qaR (qao qaw rfl B.len qaY (qaa (pv 2) qae)) (pv 4)) (qao qaw rfl B.len qaY (qaa (pv 0) qae)))) qae)))
  (qab (qbq PassesOwn.never rfl (qgC rfl B.enumerate (qaa (pv 2) qae)) (qfI rfl (qbC (qaB (i:=6) nd rfl li) (qbC (qaB (i:=7) nd rfl li) qfB))) (qai (qfC (pv 5) (qal qaR (pv 6) (pv 4)) qeg (qal qaH (pv 3) (pv 7)) qit qbo)))
  (qai (qaD (c0.pe hr ∅ rfl (qaa (pv 5) qae)))))))
theorem qkk (F:Fun K "row_moved" "row_moved" qkA f fd) (B:Bl K mg)  : FnOk P w K mg base CX0 1 f fd ["row", "whole"] (qbu K):=okm F (qj8 ) λhr nd hu ht=>(qab (qak (i:=2) nd rfl li (qcu qc8 rfl B.list qgV (qaa (pv 0) qae)))
  (qab (qbq PassesOwn.never rfl (qct rfl B.range (qaa (qal qa2 (qao qaw rfl B.len qaY (qaa (pv 0) qae)) qac) qae)) (qaB (i:=3) nd rfl li) (qai (qbq PassesOwn.never rfl (qeY rfl B.range (qaa (qal qa2 (qao qaw rfl B.len qaY (qaa (pv 0) qae)) qac) (qaa (qal qa2 (pv 3) qac) (qaa (qbT qba qac) qae)))) (qaB (i:=4) nd rfl li) (qai (qfC (pv 2) (pv 4) qeg (qal qaH (pv 1) (qaz qap (pv 2) (qal qaR (pv 4) qac) (λ_ _=>rfl))) qgL qbo)))))
  (qai (qaD (pv 2)))))
theorem qhV (F:Fun K "strand_rest" "strand_rest" qiB f fd) (B:Bl K mg) (c0:qa5 P w K mg base) (c1:qin P w K mg base) (c2:qbQ P w K mg base):FnOk P w K mg base CX0 4 f fd ["strand", "other"] (qbm K):=okm F (qhS ) λhr nd hu ht=>(qab (qb2 PassesOwn.never (qav qtO (qao qaw rfl B.len qaY (qaa (qaz qap (pv 0) qac (λ_ _=>rfl)) qae)) (qao qaw rfl B.len qaY (qaa (qaz qap (pv 1) qac (λ_ _=>rfl)) qae)) (nomark _)) (qab (qak (i:=2) nd rfl (Or.inr rfl) (qal qa2 (qao qaw rfl B.len qaY (qaa (qaz qap (pv 0) qac (λ_ _=>rfl)) qae)) (qao qaw rfl B.len qaY (qaa (qaz qap (pv 1) qac (λ_ _=>rfl)) qae))))
  (qab (qak (i:=3) nd rfl li (qaz qap (qaz qap (pv 0) qac (λ_ _=>rfl)) (qbT qba qac) (λ_ _=>rfl)))
  (qab (qak (i:=4) nd rfl li (qaz qap (qaz qap (pv 1) qac (λ_ _=>rfl)) (qbT qba qac) (λ_ _=>rfl)))
  (qab (qak (i:=5) nd rfl li (c0.pe hr ∅ rfl (qaa (pv 3) (qaa (pv 4) qae))))
  (qab (qak (i:=6) nd rfl (Or.inr rfl) (qal qcS (pv 4) (pv 5)))
  (qab (qak (i:=7) nd rfl (Or.inr rfl) (qal qcS (pv 3) (pv 5)))
  (qai (qiH (i:=0) (N:=["row", "follower", "factor", "weight", "shift"]) (capt:=[none,none,some 6,some 7,some 2]) nd rfl li rfl (BlkOk.of rfl rfl rfl rfl (List.forall_mem_cons.mpr ⟨rfl,(List.forall_mem_cons.mpr ⟨rfl,(wb4.mpr rfl)⟩)⟩) rfl rfl rfl) (qqB rfl B.zip (qaa (pv 0) (qaa (pv 1) qae))) (λ_ _ _ _=>(qfI rfl (qbC (qaB (i:=0) (show (["row", "follower", "factor", "weight", "shift"]:List PySem.Str).Nodup by decide +kernel) rfl li) (qbC (qaB (i:=1) (show (["row", "follower", "factor", "weight", "shift"]:List PySem.Str).Nodup by decide +kernel) rfl li) qfB)))) (λ_ _ _ _=>(c1.pe hr ∅ rfl (qaa (pv 0) (qaa (pv 2) (qaa (pv 1) (qaa (pv 3) (qaa (pv 4) qae))))))))))))))))
  (qai (qaD (c2.pe hr ∅ rfl (qaa (pv 0) qae)))))
theorem qeP (F:Fun K "strand_shortened" "strand_shortened" qeW f fd) (B:Bl K mg) (c0:qke P w K mg base) (c1:qgg P w K mg base):FnOk P w K mg base CX0 3 f fd ["strand"] (qaM K):=okm F (qeN ) λhr nd hu ht=>(qab (qak (i:=1) nd rfl (Or.inr rfl) qac)
  (qab (qbq PassesOwn.never rfl (qbN (pv 0)) (qaB (i:=2) nd rfl li) (qai (qak (i:=1) nd rfl (Or.inr rfl) (c0.pe hr ∅ rfl (qaa (pv 2) (qaa (pv 1) qae))))))
  (qai (qaD (qcw (N:=["row", "shared"]) (capt:=[none,some 1]) rfl (BlkOk.of rfl rfl rfl rfl (wb4.mpr rfl) rfl rfl rfl) (qbN (pv 0)) (λ_ _ _ _=>(qaB (i:=0) (show (["row", "shared"]:List PySem.Str).Nodup by decide +kernel) rfl li)) (λ_ _ _ _=>(c1.pe hr ∅ rfl (qaa (pv 0) (qaa (pv 1) qae)))))))))
theorem qgx (F:Fun K "row_shortened" "row_shortened" qgR f fd) (B:Bl K mg) (c0:qbQ P w K mg base):FnOk P w K mg base CX0 4 f fd ["row"] (qaL K):=okm F (qgr ) λhr nd hu ht=>(qai (qaD (qaz qap (c0.pe hr ∅ rfl (qaa (qbA (qaa (pv 0) qae)) qae)) qac (λ_ _=>rfl))))
theorem qgy (F:Fun K "strand_euclid" "strand_euclid" qgS f fd) (B:Bl K mg) (c0:qfw P w K mg base):FnOk P w K mg base CX0 5 f fd ["strand", "other"] (qaU K):=okm F (qgs ) λhr nd hu ht=>(qab (qb2 PassesOwn.never (qfG (qaz qap (pv 1) qac (λ_ _=>rfl)) (λ_=>rfl)) (qab (qbS (qav qgM (qao qaw rfl B.len qaY (qaa (qaz qap (pv 1) qac (λ_ _=>rfl)) qae)) qac (nomark _)) (qai (qaD (pv 1))) qaO)
  (qab (qak (i:=2) nd rfl li (c0.pe hr ∅ rfl (qaa (pv 0) (qaa (pv 1) qae))))
  (qab (qak (i:=0) nd rfl li (pv 1))
  (qai (qak (i:=1) nd rfl li (pv 2)))))))
  (qai (qaD (pv 0))))
theorem qfX (F:Fun K "inverse_modulo" "inverse_modulo" qgl f fd) (B:Bl K mg)  : FnOk P w K mg base CX0 1 f fd ["whole", "prime"] (qa0 K):=okm F (qfU ) λhr nd hu ht=>(qab (qak (i:=2) nd rfl li (pv 1))
  (qab (qak (i:=3) nd rfl li (qal qb5 (pv 0) (pv 1)))
  (qab (qak (i:=4) nd rfl li qac)
  (qab (qak (i:=5) nd rfl li qac)
  (qab (qb2 PassesOwn.never (qav qiu (pv 3) qac (nomark _)) (qab (qak (i:=6) nd rfl li (qal qeZ (pv 2) (pv 3)))
  (qab (qak (i:=7) nd rfl li (qal qa2 (pv 2) (qal qaH (pv 6) (pv 3))))
  (qab (qak (i:=2) nd rfl li (pv 3))
  (qab (qak (i:=3) nd rfl li (pv 7))
  (qab (qak (i:=7) nd rfl li (qal qa2 (pv 4) (qal qaH (pv 6) (pv 5))))
  (qab (qak (i:=4) nd rfl li (pv 5))
  (qai (qak (i:=5) nd rfl li (pv 7))))))))))
  (qai (qaD (qal qb5 (pv 4) (pv 1)))))))))
theorem qhv (F:Fun K "rests_modulo" "rests_modulo" qhE f fd) (B:Bl K mg)  : FnOk P w K mg base CX0 1 f fd ["row", "prime"] (qbd K):=okm F (qhk ) λhr nd hu ht=>(qai (qaD (qcw (N:=["whole", "prime"]) (capt:=[none,some 1]) rfl (BlkOk.of rfl rfl rfl rfl (wb4.mpr rfl) rfl rfl rfl) (qbN (pv 0)) (λ_ _ _ _=>(qaB (i:=0) (show (["whole", "prime"]:List PySem.Str).Nodup by decide +kernel) rfl li)) (λ_ _ _ _=>(qal qb5 (pv 0) (pv 1))))))
theorem qjh (F:Fun K "row_modulo" "row_modulo" qjA f fd) (B:Bl K mg) (c0:qeA P w K mg base) (c1:qco P w K mg base):FnOk P w K mg base CX0 2 f fd ["row", "prime"] (qa6 K):=okm F (qi9 ) λhr nd hu ht=>(qai (qaD (c1.pe hr ∅ rfl (qaa (c0.pe hr ∅ rfl (qaa (pv 0) (qaa (pv 1) qae))) qae))))
theorem qhw (F:Fun K "monic_modulo" "monic_modulo" qhF f fd) (B:Bl K mg) (c0:qdK P w K mg base):FnOk P w K mg base CX0 2 f fd ["row", "prime"] (qaQ K):=okm F (qhl ) λhr nd hu ht=>(qab (qbS (qmS (qfG (pv 0) (λ_=>rfl))) (qai (qaD (qbA qae))) qaO)
  (qab (qak (i:=2) nd rfl (Or.inr rfl) (c0.pe hr ∅ rfl (qaa (qaz qap (pv 0) (qbT qba qac) (λ_ _=>rfl)) (qaa (pv 1) qae))))
  (qai (qaD (qcw (N:=["whole", "prime", "factor"]) (capt:=[none,some 1,some 2]) rfl (BlkOk.of rfl rfl rfl rfl (List.forall_mem_cons.mpr ⟨rfl,(wb4.mpr rfl)⟩) rfl rfl rfl) (qbN (pv 0)) (λ_ _ _ _=>(qaB (i:=0) (show (["whole", "prime", "factor"]:List PySem.Str).Nodup by decide +kernel) rfl li)) (λ_ _ _ _=>(qal qb5 (qal qaH (pv 0) (pv 2)) (pv 1))))))))
theorem qhx (F:Fun K "split_modulo" "split_modulo" qhG f fd) (B:Bl K mg) (c0:qco P w K mg base) (c1:qea P w K mg base):FnOk P w K mg base CX0 3 f fd ["row", "divisor", "modulus"] (qbe K):=okm F (qhm ) λhr nd hu ht=>(qab (qak (i:=3) nd rfl li (qcu qc8 rfl B.list qgV (qaa (pv 0) qae)))
  (qab (qak (i:=4) nd rfl li (qal qa2 (qao qaw rfl B.len qaY (qaa (pv 1) qae)) qac))
  (qab (qak (i:=5) nd rfl li (qal qls (qbA (qaa qac qae)) (qao (qdQ rfl) rfl B.max qib (qaa (qal qa2 (qao qaw rfl B.len qaY (qaa (pv 0) qae)) (pv 4)) (qaa qac qae)))))
  (qab (qbq PassesOwn.never rfl (qeY rfl B.range (qaa (qal qa2 (qal qa2 (qao qaw rfl B.len qaY (qaa (pv 0) qae)) (pv 4)) qac) (qaa (qbT qba qac) (qaa (qbT qba qac) qae)))) (qaB (i:=6) nd rfl li) (qab (qak (i:=7) nd rfl li (qal qb5 (qaz qap (pv 3) (qal qaR (pv 6) (pv 4)) (λ_ _=>rfl)) (pv 2)))
  (qab (qf1 (pv 7) (qf0 (pv 5) (pv 6) qbo))
  (qai (qbS (qav qiu (pv 7) qac (nomark _)) (qai (qbq PassesOwn.never rfl (qct rfl B.range (qaa (pv 4) qae)) (qaB (i:=8) nd rfl li) (qai (qfC (pv 3) (qal qaR (pv 6) (pv 8)) qeg (qal qaH (pv 7) (qaz qap (pv 1) (pv 8) (λ_ _=>rfl))) qit qbo)))) qaO)))))
  (qai (qaD (qeU (qaa (c0.pe hr ∅ rfl (qaa (pv 5) qae)) (qaa (c1.pe hr ∅ rfl (qaa (qcQ qfH (pv 3) qdO (qdn (pv 4))) (qaa (pv 2) qae))) qae)))))))))
theorem qhW (F:Fun K "rest_modulo" "rest_modulo" qiC f fd) (B:Bl K mg) (c0:qeC P w K mg base):FnOk P w K mg base CX0 4 f fd ["row", "divisor", "modulus"] (qbn K):=okm F (qhR ) λhr nd hu ht=>(qai (qaD (qaz qaI (c0.pe hr ∅ rfl (qaa (pv 0) (qaa (pv 1) (qaa (pv 2) qae)))) qac (λ_ _=>rfl))))
theorem qgz (F:Fun K "euclid_modulo" "euclid_modulo" qgT f fd) (B:Bl K mg) (c0:qea P w K mg base) (c1:qeB P w K mg base) (c2:qfx P w K mg base):FnOk P w K mg base CX0 5 f fd ["row", "other", "prime"] (qa4 K):=okm F (qgq ) λhr nd hu ht=>(qab (qak (i:=0) nd rfl li (c1.pe hr ∅ rfl (qaa (c0.pe hr ∅ rfl (qaa (pv 0) (qaa (pv 2) qae))) (qaa (pv 2) qae))))
  (qab (qak (i:=1) nd rfl li (c1.pe hr ∅ rfl (qaa (c0.pe hr ∅ rfl (qaa (pv 1) (qaa (pv 2) qae))) (qaa (pv 2) qae))))
  (qab (qb2 PassesOwn.never (qfG (pv 1) (λ_=>rfl)) (qab (qak (i:=3) nd rfl li (c2.pe hr ∅ rfl (qaa (pv 0) (qaa (pv 1) (qaa (pv 2) qae)))))
  (qab (qak (i:=0) nd rfl li (pv 1))
  (qai (qak (i:=1) nd rfl li (c1.pe hr ∅ rfl (qaa (pv 3) (qaa (pv 2) qae))))))))
  (qai (qaD (pv 0))))))
theorem qmH (F:Fun K "nearest" "nearest" qni f fd) (B:Bl K mg)  : FnOk P w K mg base CX0 1 f fd ["whole", "prime"] (qcr K):=okm F (qmB ) λhr nd hu ht=>(qab (qak (i:=2) nd rfl li (qal qb5 (pv 0) (pv 1)))
  (qai (qaD (qed (qav qiv (qal qaH qac (pv 2)) (pv 1) (nomark _)) (qal qa2 (pv 2) (pv 1)) (pv 2)))))
theorem qfy (F:Fun K "common_by_prime" "common_by_prime" qfF f fd) (B:Bl K mg) (c0:qa5 P w K mg base) (c1:qeb P w K mg base) (c2:qkf P w K mg base) (c3:qbR P w K mg base) (c4:qfV P w K mg base):FnOk P w K mg base CX0 6 f fd ["row", "other", "prime"] (qaS K):=okm F (qft ) λhr nd hu ht=>(qab (qak (i:=3) nd rfl (Or.inr rfl) (c0.pe hr ∅ rfl (qaa (qaz qap (pv 0) (qbT qba qac) (λ_ _=>rfl)) (qaa (qaz qap (pv 1) (qbT qba qac) (λ_ _=>rfl)) qae))))
  (qab (qbS (qav qgM (qal qb5 (pv 3) (pv 2)) qac (nomark _)) (qai (qaD qcP)) qaO)
  (qab (qak (i:=4) nd rfl li (c1.pe hr ∅ rfl (qaa (pv 0) (qaa (pv 1) (qaa (pv 2) qae)))))
  (qab (qak (i:=5) nd rfl li (c3.pe hr ∅ rfl (qaa (qcw (N:=["whole", "prime", "lead"]) (capt:=[none,some 2,some 3]) rfl (BlkOk.of rfl rfl rfl rfl (List.forall_mem_cons.mpr ⟨rfl,(wb4.mpr rfl)⟩) rfl rfl rfl) (qbN (pv 4)) (λ_ _ _ _=>(qaB (i:=0) (show (["whole", "prime", "lead"]:List PySem.Str).Nodup by decide +kernel) rfl li)) (λ_ _ _ _=>(c2.pe hr ∅ rfl (qaa (qal qaH (pv 2) (pv 0)) (qaa (pv 1) qae))))) qae)))
  (qab (qbS (PW.pt (qmc (qav qlo (c4.pe hr ∅ rfl (qaa (pv 0) (qaa (pv 5) qae))) qcP (nomark _)) (qjo (qav qlo (c4.pe hr ∅ rfl (qaa (pv 1) (qaa (pv 5) qae))) qcP (nomark _))))) (qai (qaD qcP)) qaO)
  (qai (qaD (pv 5))))))))
theorem qji (F:Fun K "row_common" "row_common" qjB f fd) (B:Bl K mg) (c0:qbR P w K mg base) (c1:ql8 P w K mg base) (c2:qdm P w K mg base) (c3:qd9 P w K mg base):FnOk P w K mg base CX0 7 f fd ["row", "other"] (qby K):=okm F (qjb B.xEXPONENTS ) λhr nd hu ht=>(qab (qak (i:=2) nd rfl li (c0.pe hr ∅ rfl (qaa (pv 0) qae)))
  (qab (qak (i:=3) nd rfl li (c0.pe hr ∅ rfl (qaa (pv 1) qae)))
  (qab (qbS (PW.pt (qeS (qfG (pv 0) (λ_=>rfl)) (qdM (qfG (pv 1) (λ_=>rfl))))) (qai (qbq PassesOwn.never rfl (qmW (qq7 rfl B.EXPONENTS rfl)) (qaB (i:=4) nd rfl li) (qab (qak (i:=5) nd rfl li (c2.pe hr ∅ rfl (qaa (pv 2) (qaa (pv 3) (qaa (qal qa2 (c1.pe hr ∅ rfl (qaa qac (qaa (pv 4) qae))) qac) qae)))))
  (qai (qbS (qav qm4 (pv 5) qcP (nomark _)) (qai (qaD (pv 5))) qaO))))) qaO)
  (qai (qaD (qaz qap (c3.pe hr ∅ rfl (qaa (qbA (qaa (pv 2) qae)) (qaa (qbA (qaa (pv 3) qae)) qae))) qac (λ_ _=>rfl)))))))
theorem qjj (F:Fun K "simple_row" "simple_row" qjC f fd) (B:Bl K mg) (c0:qbR P w K mg base) (c1:qhq P w K mg base) (c2:qgh P w K mg base) (c3:qfV P w K mg base):FnOk P w K mg base CX0 8 f fd ["row"] (qbz K):=okm F (qjd ) λhr nd hu ht=>(qab (qak (i:=1) nd rfl li (c0.pe hr ∅ rfl (qaa (pv 0) qae)))
  (qab (qak (i:=2) nd rfl li (c3.pe hr ∅ rfl (qaa (pv 1) (qaa (c2.pe hr ∅ rfl (qaa (pv 1) (qaa (c1.pe hr ∅ rfl (qaa (pv 1) qae)) qae))) qae))))
  (qai (qaD (qed (qav qiv (qaz qap (pv 2) (qbT qba qac) (λ_ _=>rfl)) qac (nomark _)) (pv 2) (qcw (N:=["whole"]) (capt:=[none]) rfl (BlkOk.of rfl rfl rfl rfl (λ_ h=>nomatch h) rfl rfl rfl) (qbN (pv 2)) (λ_ _ _ _=>(qaB (i:=0) (show (["whole"]:List PySem.Str).Nodup by decide +kernel) rfl li)) (λ_ _ _ _=>(qbT qba (pv 0)))))))))
theorem qqk (F:Fun K "ratio" "ratio" qrf f fd) (B:Bl K mg) (c0:qa5 P w K mg base):FnOk P w K mg base CX0 2 f fd ["top", "bottom"] (qds K):=okm F (qp1 ) λhr nd hu ht=>(qab (qak (i:=2) nd rfl li (c0.pe hr ∅ rfl (qaa (pv 0) (qaa (pv 1) qae))))
  (qab (qbS (qav qgN (pv 1) qac (nomark _)) (qai (qak (i:=2) nd rfl li (qbT qba (pv 2)))) qaO)
  (qai (qaD (qeU (qaa (qal qcS (pv 0) (pv 2)) (qaa (qal qcS (pv 1) (pv 2)) qae)))))))
theorem qpb (F:Fun K "before" "before" qpt f fd) (B:Bl K mg)  : FnOk P w K mg base CX0 1 f fd ["one", "other"] (qdc K):=okm F (qoU ) λhr nd hu ht=>(qai (qaD (qkw qgN (qal qaH (qaz qaI (pv 0) qac (λ_ _=>rfl)) (qaz qaI (pv 1) qac (λ_ _=>rfl))) (qal qaH (qaz qaI (pv 1) qac (λ_ _=>rfl)) (qaz qaI (pv 0) qac (λ_ _=>rfl))) (nomark _))))
theorem qmI (F:Fun K "cleared" "cleared" qnj f fd) (B:Bl K mg) (c0:qa5 P w K mg base):FnOk P w K mg base CX0 2 f fd ["P"] (qbY K):=okm F (qmz ) λhr nd hu ht=>(qab (qak (i:=1) nd rfl (Or.inr rfl) qac)
  (qab (qbq PassesOwn.never rfl (qmW (pv 0)) (qaB (i:=2) nd rfl li) (qai (qdw (i:=1) nd rfl (Or.inr rfl) (qal qeZ (qaz qaI (pv 2) qac (λ_ _=>rfl)) (c0.pe hr ∅ rfl (qaa (pv 1) (qaa (qaz qaI (pv 2) qac (λ_ _=>rfl)) qae)))) qcR)))
  (qai (qaD (qeU (qaa (qcw (N:=["number", "bottom"]) (capt:=[none,some 1]) rfl (BlkOk.of rfl rfl rfl rfl (wb4.mpr rfl) rfl rfl rfl) (qmW (pv 0)) (λ_ _ _ _=>(qaB (i:=0) (show (["number", "bottom"]:List PySem.Str).Nodup by decide +kernel) rfl li)) (λ_ _ _ _=>(qal qaH (qaz qaI (pv 0) qac (λ_ _=>rfl)) (qal qeZ (pv 1) (qaz qaI (pv 0) qac (λ_ _=>rfl)))))) (qaa (pv 1) qae)))))))
theorem qsd (F:Fun K "p_at" "p_at" qsA f fd) (B:Bl K mg) (c0:qhr P w K mg base) (c1:qo9 P w K mg base):FnOk P w K mg base CX0 3 f fd ["P", "c"] (qiZ K):=okm F (qr1 ) λhr nd hu ht=>(qab (qak (i:=2) nd rfl li (c0.pe hr ∅ rfl (qaa (pv 0) qae)))
  (qab (qak (i:=3) nd rfl li qac)
  (qab (qak (i:=4) nd rfl li qac)
  (qab (qbq PassesOwn.never rfl (qnG rfl B.reversed (qaa (qaz qaI (pv 2) qac (λ_ _=>rfl)) qae)) (qaB (i:=5) nd rfl li) (qab (qak (i:=3) nd rfl li (qal qaR (qal qaH (pv 3) (qaz qaI (pv 1) qac (λ_ _=>rfl))) (qal qaH (pv 5) (pv 4))))
  (qai (qdw (i:=4) nd rfl li (qaz qaI (pv 1) qac (λ_ _=>rfl)) qcR))))
  (qai (qaD (c1.pe hr ∅ rfl (qaa (qal qaH (pv 3) (qaz qaI (pv 1) qac (λ_ _=>rfl))) (qaa (qal qaH (qaz qaI (pv 2) qac (λ_ _=>rfl)) (pv 4)) qae)))))))))
theorem qgA (F:Fun K "count_between" "count_between" qgU f fd) (B:Bl K mg) (c0:qhr P w K mg base) (c1:qgi P w K mg base) (c2:qd8 P w K mg base) (c3:ql9 P w K mg base) (c4:qhs P w K mg base) (c5:qeD P w K mg base) (c6:qq3 P w K mg base):FnOk P w K mg base CX0 9 f fd ["P", "low", "high"] (qbk K):=okm F (qgv ) λhr nd hu ht=>(qab (qak (i:=3) nd rfl li (c1.pe hr ∅ rfl (qaa (qaz qaI (c0.pe hr ∅ rfl (qaa (pv 0) qae)) qac (λ_ _=>rfl)) qae)))
  (qab (qak (i:=4) nd rfl li (c2.pe hr ∅ rfl (qaa (pv 3) qae)))
  (qab (qak (i:=5) nd rfl li (qeU (qaa (qal qnO qac (qao (qdQ rfl) rfl B.max qib (qaa (pv 4) (qaa qac qae)))) (qaa (qal qnO qac (qao (qdQ rfl) rfl B.max qib (qaa (qbT qba (pv 4)) (qaa qac qae)))) qae))))
  (qab (qak (i:=6) nd rfl li (qeU (qaa (qbT qba (qaz qaI (pv 5) qac (λ_ _=>rfl))) (qaa (qaz qaI (pv 5) qac (λ_ _=>rfl)) qae))))
  (qab (qak (i:=7) nd rfl li (qed (PW.pt (qmc (qav qlo (pv 1) qcP (nomark _)) (qjo (qll (c3.pe hr ∅ rfl (qaa (pv 1) (qaa (pv 6) qae))))))) (pv 6) (pv 1)))
  (qab (qak (i:=8) nd rfl li (qed (PW.pt (qmc (qav qlo (pv 2) qcP (nomark _)) (qjo (qll (c3.pe hr ∅ rfl (qaa (pv 5) (qaa (pv 2) qae))))))) (pv 5) (pv 2)))
  (qab (qbS (qmS (qll (c3.pe hr ∅ rfl (qaa (pv 7) (qaa (pv 8) qae))))) (qai (qaD qac)) qaO)
  (qab (qak (i:=9) nd rfl li (c5.pe hr ∅ rfl (qaa (c4.pe hr ∅ rfl (qaa (pv 3) (qaa (pv 7) (qaa (pv 8) qae)))) qae)))
  (qab (qbS (PW.pt (qeS (qav qm4 (pv 2) qcP (nomark _)) (qdM (qav (qlA ht) (c6.pe hr ∅ rfl (qaa (pv 0) (qaa (pv 2) qae))) (qeU (qaa qac (qaa qac qae))) (nomark _))))) (qai (qdw (i:=9) nd rfl li qac qgL)) qaO)
  (qai (qaD (pv 9))))))))))))
theorem qkl (F:Fun K "stretched" "stretched" qkB f fd) (B:Bl K mg) (c0:qeO P w K mg base):FnOk P w K mg base CX0 2 f fd ["row", "start", "end"] (qcV K):=okm F (qka ) λhr nd hu ht=>(qab (qak (i:=3) nd rfl li (qal qaH (qaz qaI (pv 1) qac (λ_ _=>rfl)) (qaz qaI (pv 2) qac (λ_ _=>rfl))))
  (qab (qak (i:=4) nd rfl li (qcu qc8 rfl B.list qgV (qaa (pv 0) qae)))
  (qab (qak (i:=5) nd rfl li qac)
  (qab (qbq PassesOwn.never rfl (qeY rfl B.range (qaa (qal qa2 (qao qaw rfl B.len qaY (qaa (pv 0) qae)) qac) (qaa (qbT qba qac) (qaa (qbT qba qac) qae)))) (qaB (i:=6) nd rfl li) (qab (qfC (pv 4) (pv 6) qeg (pv 5) qcR qbo)
  (qai (qdw (i:=5) nd rfl li (pv 3) qcR))))
  (qab (qak (i:=4) nd rfl li (c0.pe hr ∅ rfl (qaa (pv 4) (qaa (qal qaH (qaz qaI (pv 1) qac (λ_ _=>rfl)) (qaz qaI (pv 2) qac (λ_ _=>rfl))) qae))))
  (qab (qak (i:=5) nd rfl li qac)
  (qab (qbq PassesOwn.never rfl (qct rfl B.range (qaa (qao qaw rfl B.len qaY (qaa (pv 0) qae)) qae)) (qaB (i:=6) nd rfl li) (qab (qfC (pv 4) (pv 6) qeg (pv 5) qcR qbo)
  (qai (qdw (i:=5) nd rfl li (qal qa2 (qal qaH (qaz qaI (pv 2) qac (λ_ _=>rfl)) (qaz qaI (pv 1) qac (λ_ _=>rfl))) (qal qaH (qaz qaI (pv 1) qac (λ_ _=>rfl)) (qaz qaI (pv 2) qac (λ_ _=>rfl)))) qcR))))
  (qai (qaD (pv 4))))))))))
theorem qhy (F:Fun K "count_within" "count_within" qhH f fd) (B:Bl K mg) (c0:qeO P w K mg base) (c1:qeE P w K mg base) (c2:qma P w K mg base):FnOk P w K mg base CX0 2 f fd ["row"] (qbP K):=okm F (qhp ) λhr nd hu ht=>(qab (qak (i:=1) nd rfl li qac)
  (qab (qak (i:=2) nd rfl li (qbA (qaa (pv 0) qae)))
  (qab (qb2 PassesOwn.never (qfG (pv 2) (λ_=>rfl)) (qab (qak (i:=3) nd rfl li (qnb PySem.F.plainAttrs_list PySem.F.slot_list_pop PySem.F.type_list_pop qsy (pv 2)))
  (qab (qak (i:=4) nd rfl li (c1.pe hr ∅ rfl (qaa (c0.pe hr ∅ rfl (qaa (qsM (pv 3) (qbT qba qac)) (qaa qac qae))) qae)))
  (qab (qbS (qav qgM (pv 4) qac (nomark _)) (qai (qdw (i:=1) nd rfl li qac qgL)) qaO)
  (qai (qbS (qav qiv (pv 4) qac (nomark _)) (qab (qak (i:=5) nd rfl li (c2.pe hr ∅ rfl (qaa (pv 3) qae)))
  (qab (qak (i:=6) nd rfl li (c0.pe hr ∅ rfl (qaa (pv 5) (qaa qac qae))))
  (qab (qbS (qav qgM (qaz qap (pv 6) qac (λ_ _=>rfl)) qac (nomark _)) (qai (qdw (i:=1) nd rfl li qac qgL)) qaO)
  (qab (qfA (qmi PySem.F.plainAttrs_list PySem.F.slot_list_append PySem.F.type_list_append qeV (pv 2) (qaa (pv 5) qae)))
  (qai (qfA (qmi PySem.F.plainAttrs_list PySem.F.slot_list_append PySem.F.type_list_append qeV (pv 2) (qaa (pv 6) qae)))))))) qaO))))))
  (qai (qaD (pv 1))))))
theorem qpc (F:Fun K "halved" "halved" qpu f fd) (B:Bl K mg)  : FnOk P w K mg base CX0 1 f fd ["row"] (qe5 K):=okm F (qoX ) λhr nd hu ht=>(qab (qak (i:=1) nd rfl (Or.inr rfl) (qal qa2 (qao qaw rfl B.len qaY (qaa (pv 0) qae)) qac))
  (qai (qaD (qcw (N:=["place", "whole", "last"]) (capt:=[none,none,some 1]) rfl (BlkOk.of rfl rfl rfl rfl (wb4.mpr rfl) rfl rfl rfl) (qgC rfl B.enumerate (qaa (pv 0) qae)) (λ_ _ _ _=>(qfI rfl (qbC (qaB (i:=0) (show (["place", "whole", "last"]:List PySem.Str).Nodup by decide +kernel) rfl li) (qbC (qaB (i:=1) (show (["place", "whole", "last"]:List PySem.Str).Nodup by decide +kernel) rfl li) qfB)))) (λ_ _ _ _=>(qal qnO (pv 1) (qal qa2 (pv 2) (pv 0))))))))
theorem qhz (F:Fun K "sign_changes" "sign_changes" qhI f fd) (B:Bl K mg)  : FnOk P w K mg base CX0 1 f fd ["row"] (qbO K):=okm F (qho ) λhr nd hu ht=>(qab (qak (i:=1) nd rfl li qac)
  (qab (qak (i:=2) nd rfl li qac)
  (qab (qbq PassesOwn.never rfl (qbN (pv 0)) (qaB (i:=3) nd rfl li) (qai (qbS (qav qiu (pv 3) qac (nomark _)) (qab (qbS (qav qgN (qal qaH (pv 2) (pv 3)) qac (nomark _)) (qai (qdw (i:=1) nd rfl li qac qgL)) qaO)
  (qai (qak (i:=2) nd rfl li (qed (qav qiv (pv 3) qac (nomark _)) qac (qbT qba qac))))) qaO)))
  (qai (qaD (pv 1))))))
theorem qpd (F:Fun K "_law_hand" "_law_hand" qpv f fd) (B:Bl K mg)  : FnOk P w K mg base CX0 1 f fd ["_law_script"] (qdb K):=okm F (qoL ) λhr nd hu ht=>(qab (qak (i:=1) nd rfl li (qao (qe0 rfl) rfl B.sum qlw (qaa (qcQ qjJ (pv 0) qdO (qdn qac)) qae)))
  (qai (qaD (qbA (qaa (qcu qc8 rfl B.list qgV (qaa (qcQ qjJ (pv 0) qdO (qdn qac)) qae)) (qaa qac (qaa (qal qiG (qao qc7 rfl B.abs qia (qaa (pv 1) qae)) qac) (qaa (qal qb5 (pv 1) qac) qae))))))))
theorem qpe (F:Fun K "_law_draw" "_law_draw" qpw f fd) (B:Bl K mg)  : FnOk P w K mg base CX0 1 f fd ["_law_hand_here", "_law_many"] (qaW K):=okm F (qoM ) λhr nd hu ht=>(qab (qbS (PW.pt (qeS (qav qgM (qaz qap (pv 0) qac (λ_ _=>rfl)) qac (nomark _)) (qeS (qav qgM (qaz qap (pv 0) qac (λ_ _=>rfl)) qac (nomark _)) (qdM (qav qgN (qal qaR (qaz qap (pv 0) qac (λ_ _=>rfl)) qac) (qao qaw rfl B.len qaY (qaa (qaz qap (pv 0) qac (λ_ _=>rfl)) qae)) (nomark _)))))) (qab (qf1 (qal qaR (qaz qap (pv 0) qac (λ_ _=>rfl)) qac) (qf0 (pv 0) qac qbo))
  (qai (qf1 (qao qc7 rfl B.abs qia (qaa (qaz qap (qaz qap (pv 0) qac (λ_ _=>rfl)) (qaz qap (pv 0) qac (λ_ _=>rfl)) (λ_ _=>rfl)) qae)) (qf0 (pv 0) qac qbo)))) qaO)
  (qab (qbS (PW.pt (qeS (qav qgM (qaz qap (pv 0) qac (λ_ _=>rfl)) qac (nomark _)) (qdM (qav qiv (qaz qap (pv 0) qac (λ_ _=>rfl)) qac (nomark _))))) (qab (qak (i:=2) nd rfl li (qal qb5 (qaz qap (pv 0) qac (λ_ _=>rfl)) (pv 1)))
  (qab (qf1 (qal qiG (qaz qap (pv 0) qac (λ_ _=>rfl)) (pv 1)) (qf0 (pv 0) qac qbo))
  (qai (qaD (pv 2))))) qaO)
  (qab (qf1 (qal qaR (qaz qap (pv 0) qac (λ_ _=>rfl)) qac) (qf0 (pv 0) qac qbo))
  (qab (qak (i:=3) nd rfl li (qao (qe0 rfl) rfl B.sum qlw (qaa (qcQ qfH (qcQ qfH (qaz qap (pv 0) qac (λ_ _=>rfl)) (qdn (qal qb5 (qaz qap (pv 0) qac (λ_ _=>rfl)) (qao (qdQ rfl) rfl B.max qib (qaa qac (qaa (qao qaw rfl B.len qaY (qaa (qaz qap (pv 0) qac (λ_ _=>rfl)) qae)) qae))))) qdO) qdO (qdn qac)) qae)))
  (qab (qak (i:=4) nd rfl li (qal qb5 (qal qaH (qal qaR (qal qaR (qal qb5 (pv 3) qac) (qal qaH qac (qaz qap (pv 0) qac (λ_ _=>rfl)))) qac) (qal qaR qac (qal qaH qac (qaz qap (pv 0) qac (λ_ _=>rfl))))) qac))
  (qab (qak (i:=5) nd rfl li (qal qb5 (qal qaR (qal qaH (pv 4) (qal qaR (qal qb5 (pv 4) qac) (qaz qap (pv 0) qac (λ_ _=>rfl)))) (qal qaH qac (qaz qap (pv 0) qac (λ_ _=>rfl)))) qac))
  (qai (qaD (qal qb5 (qal qiG (pv 5) qac) (pv 1))))))))))
theorem qld (F:Fun K "_law_lowest" "_law_lowest" qmm f fd) (B:Bl K mg)  : FnOk P w K mg base CX0 1 f fd ["_law_top", "_law_bottom"] (qbZ K):=okm F (qk1 ) λhr nd hu ht=>(qab (qqp (i:=2) (j:=3) rfl nd rfl rfl ∅ rfl rfl (qaa (qao qc7 rfl B.abs qia (qaa (pv 0) qae)) (qaa (qao qc7 rfl B.abs qia (qaa (pv 1) qae)) qae)) rfl)
  (qab (qb2 PassesOwn.never (qav qiv (pv 3) qac (nomark _)) (qai (qqp (i:=2) (j:=3) rfl nd rfl rfl ∅ rfl rfl (qaa (pv 3) (qaa (qal qb5 (pv 2) (pv 3)) qae)) rfl)))
  (qab (qbS (qav qgN (pv 1) qac (nomark _)) (qai (qak (i:=2) nd rfl li (qbT qba (pv 2)))) qaO)
  (qai (qaD (qeU (qaa (qal qcS (pv 0) (pv 2)) (qaa (qal qcS (pv 1) (pv 2)) qae))))))))
theorem qhX (F:Fun K "_law_row_times" "_law_row_times" qiD f fd) (B:Bl K mg)  : FnOk P w K mg base CX0 1 f fd ["_law_one", "_law_other"] (qa9 K):=okm F (qhT ) λhr nd hu ht=>(qab (qak (i:=2) nd rfl li (qal qls (qbA (qaa qac qae)) (qal qa2 (qal qaR (qao qaw rfl B.len qaY (qaa (pv 0) qae)) (qao qaw rfl B.len qaY (qaa (pv 1) qae))) qac)))
  (qab (qbq PassesOwn.never rfl (qgC rfl B.enumerate (qaa (pv 0) qae)) (qfI rfl (qbC (qaB (i:=3) nd rfl li) (qbC (qaB (i:=4) nd rfl li) qfB))) (qai (qbq PassesOwn.never rfl (qgC rfl B.enumerate (qaa (pv 1) qae)) (qfI rfl (qbC (qaB (i:=5) nd rfl li) (qbC (qaB (i:=6) nd rfl li) qfB))) (qai (qf1 (qal qaR (qaz qap (pv 2) (qal qaR (pv 3) (pv 5)) (λ_ _=>rfl)) (qal qaH (pv 4) (pv 6))) (qf0 (pv 2) (qal qaR (pv 3) (pv 5)) qbo))))))
  (qai (qaD (pv 2)))))
theorem qkm (F:Fun K "_law_poly_of" "_law_poly_of" qkC f fd) (B:Bl K mg) (c0:qel P w K mg base):FnOk P w K mg base CX0 2 f fd ["_law_row", "_law_scale_here"] (qbh K):=okm F (qj2 ) λhr nd hu ht=>(qai (qaD (qcu qnB rfl B.tuple qpz (qaa (qcw (N:=["_law_one", "_law_scale_here"]) (capt:=[none,some 1]) rfl (BlkOk.of rfl rfl rfl rfl (wb4.mpr rfl) rfl rfl rfl) (qbN (pv 0)) (λ_ _ _ _=>(qaB (i:=0) (show (["_law_one", "_law_scale_here"]:List PySem.Str).Nodup by decide +kernel) rfl li)) (λ_ _ _ _=>(c0.pe hr ∅ rfl (qaa (qal qaH (pv 0) (qaz qaI (pv 1) qac (λ_ _=>rfl))) (qaa (qaz qaI (pv 1) qac (λ_ _=>rfl)) qae))))) qae))))
theorem qmJ (F:Fun K "_law_worth" "_law_worth" qnk f fd) (B:Bl K mg)  : FnOk P w K mg base CX0 1 f fd ["_law_row", "_law_c"] (qdd K):=okm F (qmE ) λhr nd hu ht=>(qab (qak (i:=2) nd rfl li qac)
  (qab (qak (i:=3) nd rfl li qac)
  (qab (qbq PassesOwn.never rfl (qnG rfl B.reversed (qaa (pv 0) qae)) (qaB (i:=4) nd rfl li) (qab (qak (i:=2) nd rfl li (qal qaR (qal qaH (pv 2) (qaz qaI (pv 1) qac (λ_ _=>rfl))) (qal qaH (pv 4) (pv 3))))
  (qai (qak (i:=3) nd rfl li (qal qaH (pv 3) (qaz qaI (pv 1) qac (λ_ _=>rfl)))))))
  (qai (qaD (pv 2))))))
theorem qmK (F:Fun K "_law_scale" "_law_scale" qnl f fd) (B:Bl K mg) (c0:qgJ P w K mg base) (c1:qel P w K mg base):FnOk P w K mg base CX0 2 f fd ["_law_hand_here"] (qcs K):=okm F (qmD ) λhr nd hu ht=>(qai (qaD (c1.pe hr ∅ rfl (qaa (qal qaH (qaz qap (qbA (qaa qac (qaa (qbT qba qac) qae))) (c0.pe hr ∅ rfl (qaa (pv 0) (qaa qac qae))) (λ_ _=>rfl)) (qal qaR qac (c0.pe hr ∅ rfl (qaa (pv 0) (qaa qac qae))))) (qaa (qal qaR qac (c0.pe hr ∅ rfl (qaa (pv 0) (qaa qac qae)))) qae)))))
theorem qkn (F:Fun K "_law_any_row" "_law_any_row" qkD f fd) (B:Bl K mg) (c0:qgJ P w K mg base):FnOk P w K mg base CX0 2 f fd ["_law_hand_here", "_law_most", "_law_size"] (qbK K):=okm F (qj3 ) λhr nd hu ht=>(qab (qak (i:=3) nd rfl li (qbA qae))
  (qab (qbq PassesOwn.never rfl (qct rfl B.range (qaa (c0.pe hr ∅ rfl (qaa (pv 0) (qaa (qal qaR (pv 1) qac) qae))) qae)) (qaB (i:=4) nd rfl li) (qai (qfA (qmi PySem.F.plainAttrs_list PySem.F.slot_list_append PySem.F.type_list_append qeV (pv 3) (qaa (qaz qap (qbA (qaa qac (qaa qac (qaa (qbT qba qac) (qaa (qal qa2 (c0.pe hr ∅ rfl (qaa (pv 0) (qaa (qal qaR (qal qaH qac (pv 2)) qac) qae))) (pv 2)) qae))))) (c0.pe hr ∅ rfl (qaa (pv 0) (qaa qac qae))) (λ_ _=>rfl)) qae)))))
  (qai (qaD (qal qnd (pv 3) (qbA (qaa (qal qaH (qaz qap (qbA (qaa qac (qaa (qbT qba qac) qae))) (c0.pe hr ∅ rfl (qaa (pv 0) (qaa qac qae))) (λ_ _=>rfl)) (qal qaR qac (c0.pe hr ∅ rfl (qaa (pv 0) (qaa (pv 2) qae))))) qae)))))))
theorem qle (F:Fun K "_law_rising" "_law_rising" qmn f fd) (B:Bl K mg)  : FnOk P w K mg base CX0 1 f fd ["_law_numbers"] (qdt K):=okm F (qk6 ) λhr nd hu ht=>(qab (qak (i:=1) nd rfl li (qbA qae))
  (qab (qbq PassesOwn.never rfl (qbN (pv 0)) (qaB (i:=2) nd rfl li) (qab (qak (i:=3) nd rfl li qac)
  (qab (qb2 PassesOwn.never (PW.pt (qeS (qav qgN (pv 3) (qao qaw rfl B.len qaY (qaa (pv 1) qae)) (nomark _)) (qdM (qav qgN (qal qaH (qaz qaI (qaz qap (pv 1) (pv 3) (λ_ _=>rfl)) qac (λ_ _=>rfl)) (qaz qaI (pv 2) qac (λ_ _=>rfl))) (qal qaH (qaz qaI (pv 2) qac (λ_ _=>rfl)) (qaz qaI (qaz qap (pv 1) (pv 3) (λ_ _=>rfl)) qac (λ_ _=>rfl))) (nomark _))))) (qai (qak (i:=3) nd rfl li (qal qaR (pv 3) qac))))
  (qai (qbS (PW.pt (qmc (qav qgM (pv 3) (qao qaw rfl B.len qaY (qaa (pv 1) qae)) (nomark _)) (qjo (qav (qqA ht) (qaz qap (pv 1) (pv 3) (λ_ _=>rfl)) (pv 2) (nomark _))))) (qai (qfA (qmi PySem.F.plainAttrs_list PySem.F.slot_list_insert PySem.F.type_list_insert qnN (pv 1) (qaa (pv 3) (qaa (pv 2) qae))))) qaO)))))
  (qai (qaD (pv 1)))))
theorem qmL (F:Fun K "_law_later" "_law_later" qnm f fd) (B:Bl K mg) (c0:qdu P w K mg base):FnOk P w K mg base CX0 2 f fd ["_law_row"] (qej K):=okm F (qmF ) λhr nd hu ht=>(qab (qak (i:=1) nd rfl li (qbA (qaa qac qae)))
  (qab (qbq PassesOwn.never rfl (qnG rfl B.reversed (qaa (pv 0) qae)) (qaB (i:=2) nd rfl li) (qab (qak (i:=3) nd rfl li (c0.pe hr ∅ rfl (qaa (pv 1) (qaa (qbA (qaa (qbT qba qac) (qaa qac qae))) qae))))
  (qab (qf1 (qal qaR (qaz qap (pv 3) qac (λ_ _=>rfl)) (pv 2)) (qf0 (pv 3) qac qbo))
  (qai (qak (i:=1) nd rfl li (pv 3))))))
  (qai (qaD (qcQ qfH (pv 1) qdO (qdn (qao qaw rfl B.len qaY (qaa (pv 0) qae))))))))
theorem qlf (F:Fun K "_law_counts" "_law_counts" qmo f fd) (B:Bl K mg) (c0:qcM P w K mg base):FnOk P w K mg base CX0 10 f fd ["_law_kp", "_law_cuts"] (qb0 K):=okm F (qk8 ) λhr nd hu ht=>(qai (qaD (qcw (N:=["_law_low", "_law_high", "_law_kp"]) (capt:=[none,none,some 0]) rfl (BlkOk.of rfl rfl rfl rfl (wb4.mpr rfl) rfl rfl rfl) (qqB rfl B.zip (qaa (qal qnd (qbA (qaa qcP qae)) (pv 1)) (qaa (qal qnd (pv 1) (qbA (qaa qcP qae))) qae))) (λ_ _ _ _=>(qfI rfl (qbC (qaB (i:=0) (show (["_law_low", "_law_high", "_law_kp"]:List PySem.Str).Nodup by decide +kernel) rfl li) (qbC (qaB (i:=1) (show (["_law_low", "_law_high", "_law_kp"]:List PySem.Str).Nodup by decide +kernel) rfl li) qfB)))) (λ_ _ _ _=>(c0.pe hr ∅ rfl (qaa (pv 2) (qaa (pv 0) (qaa (pv 1) qae))))))))
theorem qtx (F:Fun K "law" "law" qnn f fd) (B:Bl K mg) (c0:qmb P w K mg base) (c1:qgJ P w K mg base) (c2:qhu P w K mg base) (c3:qkh P w K mg base) (c4:qht P w K mg base) (c5:qel P w K mg base) (c6:qio P w K mg base) (c7:qip P w K mg base) (c8:qcM P w K mg base) (c9:qkg P w K mg base) (c10:qdu P w K mg base) (c11:qki P w K mg base):FnOk P w K mg base CX0 11 f fd ["_law_script"] (qjQ K):=okm F (qtw ) λhr nd hu ht=>(qab (qak (i:=1) nd rfl (Or.inr rfl) (c0.pe hr ∅ rfl (qaa (pv 0) qae)))
  (qab (qak (i:=2) nd rfl li (c2.pe hr ∅ rfl (qaa (pv 1) (qaa (qaz qap (qbA (qaa qac (qaa qac qae))) (qcu qnv rfl B.int qsE (qaa (qkw (qlA ht) (c1.pe hr ∅ rfl (qaa (pv 1) (qaa qac qae))) qac (nomark _)) qae)) (λ_ _=>rfl)) (qaa qac qae)))))
  (qab (qak (i:=3) nd rfl li (c3.pe hr ∅ rfl (qaa (pv 1) qae)))
  (qab (qak (i:=4) nd rfl li (c4.pe hr ∅ rfl (qaa (pv 2) (qaa (pv 3) qae))))
  (qab (qiH (i:=5) (N:=["_law_k", "_law_hand_here"]) (capt:=[none,some 1]) nd rfl li rfl (BlkOk.of rfl rfl rfl rfl (wb4.mpr rfl) rfl rfl rfl) (qct rfl B.range (qaa qac qae)) (λ_ _ _ _=>(qaB (i:=0) (show (["_law_k", "_law_hand_here"]:List PySem.Str).Nodup by decide +kernel) rfl li)) (λ_ _ _ _=>(c5.pe hr ∅ rfl (qaa (qal qa2 (c1.pe hr ∅ rfl (qaa (pv 1) (qaa qac qae))) qac) (qaa (qal qaR qac (c1.pe hr ∅ rfl (qaa (pv 1) (qaa qac qae)))) qae)))))
  (qab (qak (i:=6) nd rfl li (c6.pe hr ∅ rfl (qaa (pv 5) qae)))
  (qab (qak (i:=7) nd rfl li (c7.pe hr ∅ rfl (qaa (pv 4) (qaa (pv 6) qae))))
  (qab (qbS (PW.pt (qmc (qav qiu (qao (qe0 rfl) rfl B.sum qlw (qaa (pv 7) qae)) (c8.pe hr ∅ rfl (qaa (pv 4) (qaa qcP (qaa qcP qae)))) (nomark _)) (qmc (qmS (qpp qtN qgN qac (qao (qe0 rfl) rfl B.sum qlw (qaa (pv 7) qae)) (qao qaw rfl B.len qaY (qaa (pv 2) qae)))) (qjo (qav qgN (qao (qnR rfl) rfl B.min qqx (qaa (pv 7) qae)) qac (nomark _)))))) (qai (qaD qq6)) qaO)
  (qab (qbq PassesOwn.never rfl (qct rfl B.range (qaa (qal qa2 (qao qaw rfl B.len qaY (qaa (pv 6) qae)) qac) qae)) (qaB (i:=8) nd rfl li) (qai (qbS (PW.pt (qeS (qav qgN (qal qaH (c9.pe hr ∅ rfl (qaa (pv 2) (qaa (qaz qap (pv 6) (pv 8) (λ_ _=>rfl)) qae))) (c9.pe hr ∅ rfl (qaa (pv 2) (qaa (qaz qap (pv 6) (qal qaR (pv 8) qac) (λ_ _=>rfl)) qae)))) qac (nomark _)) (qdM (qav (qlA ht) (qaz qap (pv 7) (qal qaR (pv 8) qac) (λ_ _=>rfl)) qac (nomark _))))) (qai (qaD qq6)) qaO)))
  (qab (qbS (PW.pt (qeS (qav qgN (qao qaw rfl B.len qaY (qaa (pv 2) qae)) qac (nomark _)) (qdM (qav (qqA ht) (c7.pe hr ∅ rfl (qaa (c4.pe hr ∅ rfl (qaa (c10.pe hr ∅ rfl (qaa (pv 2) (qaa (pv 2) qae))) (qaa (qeU (qaa qac (qaa qac qae))) qae))) (qaa (pv 6) qae))) (pv 7) (nomark _))))) (qai (qaD qq6)) qaO)
  (qab (qiH (i:=9) (N:=["_law_c"]) (capt:=[none]) nd rfl li rfl (BlkOk.of rfl rfl rfl rfl (λ_ h=>nomatch h) rfl rfl rfl) (qbN (pv 6)) (λ_ _ _ _=>(qaB (i:=0) (show (["_law_c"]:List PySem.Str).Nodup by decide +kernel) rfl li)) (λ_ _ _ _=>(qeU (qaa (qal qaR (qaz qaI (pv 0) qac (λ_ _=>rfl)) (qaz qaI (pv 0) qac (λ_ _=>rfl))) (qaa (qaz qaI (pv 0) qac (λ_ _=>rfl)) qae)))))
  (qai (qaD (qkw (qlA ht) (c7.pe hr ∅ rfl (qaa (c4.pe hr ∅ rfl (qaa (c11.pe hr ∅ rfl (qaa (pv 2) qae)) (qaa (pv 3) qae))) (qaa (pv 9) qae))) (pv 7) (nomark _)))))))))))))))
end
end Bs
namespace Bs
open PySem PySem.Spec PyProof.Rows L2
set_option maxHeartbeats 4000000
open Hd
theorem qse {K:W.Frag} {st:Stmt} {f c:Addr} {n:Str} {pm:Value} (l:K.lookup f=some (fnO n st pm c)) (e:PySem.W.codeIn K (.ref c) n=true) (k:PySem.W.keepIn K (.ref f)=true):Fun K n n st f (PySem.W.fnOf n n (qc3 st) (qcg st) (qa1 st) .none .none .none pm none (.ref c) .none):=qsz (st:=st) l e k
theorem qty {P:Program} {K:W.Frag} {w:World} {h base:Heap} {mg:Str->Option Value} {k:Nat} {f:Addr} {fd:FuncData} {n:Str} {ps:List Str} {sp:Sp} (X:K.In h) (G:h.Ns mainGlobals mg) (ok:FnOk P w K mg base CX0 k f fd ps sp) (b:Binds K fd ps []) (e:PySem.W.keepIn K (.ref f)=true) (a:PySem.W.nsIn K mainGlobals n=some (some (.ref f))):Cal P w K mg base k n ps sp:=⟨f,fd,ok,b,e,PySem.W.mg_of X G a⟩
theorem qtz {us:List Value} {n:Nat} (h:us.length=n+1):∃ x t,us=x::t/\t.length=n:=by cases us with | nil=>cases h | cons x t=>exact ⟨x,t,rfl,Nat.succ.inj h⟩
theorem quC (us:List Value) (h:us.length=1):∃ x0,us=[x0]:=by obtain ⟨x,t,rfl,q⟩:=qtz h;exact ⟨x,by rw [wbd.mp q]⟩
theorem quD (us:List Value) (h:us.length=2):∃ x0 x1,us=[x0,x1]:=by obtain ⟨x,t,rfl,q⟩:=qtz h;obtain ⟨x1,rfl⟩:=quC t q;exact ⟨x,x1,rfl⟩
theorem quE (us:List Value) (h:us.length=3):∃ x0 x1 x2,us=[x0,x1,x2]:=by obtain ⟨x,t,rfl,q⟩:=qtz h;obtain ⟨x1,x2,rfl⟩:=quD t q;exact ⟨x,x1,x2,rfl⟩
theorem quX (us:List Value) (h:us.length=4):∃ x0 x1 x2 x3,us=[x0,x1,x2,x3]:=by obtain ⟨x,t,rfl,q⟩:=qtz h;obtain ⟨x1,x2,x3,rfl⟩:=quE t q;exact ⟨x,x1,x2,x3,rfl⟩
theorem quY (us:List Value) (h:us.length=5):∃ x0 x1 x2 x3 x4,us=[x0,x1,x2,x3,x4]:=by obtain ⟨x,t,rfl,q⟩:=qtz h;obtain ⟨x1,x2,x3,x4,rfl⟩:=quX t q;exact ⟨x,x1,x2,x3,x4,rfl⟩
theorem qa3 {P:Program} {K:W.Frag} {w:World} {h base:Heap} {mg:Str->Option Value} {k:Nat} {f c:Addr} {n:Str} {ps:List Str} {sp:Sp} {st:Stmt} {pm:Value} (X:K.In h) (G:h.Ns mainGlobals mg) (ok:Fun K n n st f (PySem.W.fnOf n n (qc3 st) (qcg st) (qa1 st) .none .none .none pm none (.ref c) .none)->FnOk P w K mg base CX0 k f (PySem.W.fnOf n n (qc3 st) (qcg st) (qa1 st) .none .none .none pm none (.ref c) .none) ps sp) (l:K.lookup f=some (fnO n st pm c):=by kernel_rfl) (e:PySem.W.codeIn K (.ref c) n=true:=by kernel_rfl) (q:PySem.W.keepIn K (.ref f)=true:=by kernel_rfl) (a:PySem.W.nsIn K mainGlobals n=some (some (.ref f)):=by kernel_rfl) (b:∀ (kV doc pm:Value) (an:Option Addr) (cdv ct:Value) (us:List Value),us.length=ps.length->bindArgs (PySem.W.fnOf n n (qc3 st) (qcg st) (qa1 st) .none kV doc pm an cdv ct) ⟨us,[]⟩=pure (ps.zip us):=by first | exact λ_ _ _ _ _ _ us hl=>by obtain ⟨_,rfl⟩:=quC us hl;rfl | exact λ_ _ _ _ _ _ us hl=>by obtain ⟨_,_,rfl⟩:=quD us hl;rfl | exact λ_ _ _ _ _ _ us hl=>by obtain ⟨_,_,_,rfl⟩:=quE us hl;rfl | exact λ_ _ _ _ _ _ us hl=>by obtain ⟨_,_,_,_,_,rfl⟩:=quY us hl;rfl):Cal P w K mg base k n ps sp:=qty X G (ok (qse l e q)) ((qse l e q).binds b) q a
section
variable {P:Program} {w:World} {mg:Str->Option Value} {base h:Heap} (X:(hp w.params).In h) (G:h.Ns mainGlobals mg) (B:Bl (hp w.params) mg)
include X G B
theorem qbl:qa5 P w (hp w.params) mg base:=qa3 (f:=22) (c:=21) (pm:=mo0) X G λF=>qfW F B
theorem qql:ql8 P w (hp w.params) mg base:=qa3 (f:=29) (c:=28) (pm:=mo0) X G λF=>qpa F B
theorem qdv:qco P w (hp w.params) mg base:=qa3 (f:=41) (c:=40) (pm:=mo0) X G λF=>qhU F B
theorem qko:qgg P w (hp w.params) mg base:=qa3 (f:=46) (c:=45) (pm:=mo0) X G λF=>qjg F B
theorem qlg:qhq P w (hp w.params) mg base:=qa3 (f:=51) (c:=50) (pm:=mo0) X G λF=>qkj F B
theorem qiq:qfV P w (hp w.params) mg base:=qa3 (f:=58) (c:=57) (pm:=mo0) X G λF=>qlb F B
theorem qhA:qd8 P w (hp w.params) mg base:=qa3 (f:=65) (c:=64) (pm:=mo0) X G λF=>qgw F B
theorem qhB:qeO P w (hp w.params) mg base:=qa3 (f:=77) (c:=76) (pm:=mo0) X G λF=>qkk F B
theorem qgB:qdK P w (hp w.params) mg base:=qa3 (f:=108) (c:=107) (pm:=mo0) X G λF=>qfX F B
theorem qhY:qeA P w (hp w.params) mg base:=qa3 (f:=113) (c:=112) (pm:=mo0) X G λF=>qhv F B
theorem qpf:qkf P w (hp w.params) mg base:=qa3 (f:=153) (c:=152) (pm:=mo0) X G λF=>qmH F B
theorem qqm:ql9 P w (hp w.params) mg base:=qa3 (f:=184) (c:=183) (pm:=mo1) X G λF=>qpb F B
theorem qqn:qma P w (hp w.params) mg base:=qa3 (f:=222) (c:=221) (pm:=mo3) X G λF=>qpc F B
theorem qhZ:qeE P w (hp w.params) mg base:=qa3 (f:=229) (c:=228) (pm:=mo3) X G λF=>qhz F B
theorem qqo:qmb P w (hp w.params) mg base:=qa3 (f:=236) (c:=235) (pm:=mo4) X G λF=>qpd F B
theorem qjk:qgJ P w (hp w.params) mg base:=qa3 (f:=243) (c:=242) (pm:=mo4) X G λF=>qpe F B
theorem qfY:qel P w (hp w.params) mg base:=qa3 (f:=250) (c:=249) (pm:=mo4) X G λF=>qld F B
theorem qfz:qdu P w (hp w.params) mg base:=qa3 (f:=257) (c:=256) (pm:=mo4) X G λF=>qhX F B
theorem qpg:qkg P w (hp w.params) mg base:=qa3 (f:=269) (c:=268) (pm:=mo4) X G λF=>qmJ F B
theorem qmM:qio P w (hp w.params) mg base:=qa3 (f:=290) (c:=289) (pm:=mo4) X G λF=>qle F B
theorem qph:qke P w (hp w.params) mg base:=qa3 (f:=34) (c:=33) (pm:=mo0) X G λF=>qmG F B (qbl X G B)
theorem qmN:qin P w (hp w.params) mg base:=qa3 (f:=70) (c:=69) (pm:=mo0) X G λF=>qlc F B (qdv X G B)
theorem qgj:qea P w (hp w.params) mg base:=qa3 (f:=120) (c:=119) (pm:=mo0) X G λF=>qjh F B (qhY X G B) (qdv X G B)
theorem qh0:qeB P w (hp w.params) mg base:=qa3 (f:=125) (c:=124) (pm:=mo0) X G λF=>qhw F B (qgB X G B)
theorem qsf:qo9 P w (hp w.params) mg base:=qa3 (f:=177) (c:=176) (pm:=mo1) X G λF=>qqk F B (qbl X G B)
theorem qkp:qhr P w (hp w.params) mg base:=qa3 (f:=189) (c:=188) (pm:=mo2) X G λF=>qmI F B (qbl X G B)
theorem qlh:qhs P w (hp w.params) mg base:=qa3 (f:=210) (c:=209) (pm:=mo3) X G λF=>qkl F B (qhB X G B)
theorem qh1:qeD P w (hp w.params) mg base:=qa3 (f:=217) (c:=216) (pm:=mo3) X G λF=>qhy F B (qhB X G B) (qhZ X G B) (qqn X G B)
theorem qli:qht P w (hp w.params) mg base:=qa3 (f:=262) (c:=261) (pm:=mo4) X G λF=>qkm F B (qfY X G B)
theorem qpi:qkh P w (hp w.params) mg base:=qa3 (f:=276) (c:=275) (pm:=mo4) X G λF=>qmK F B (qjk X G B) (qfY X G B)
theorem qlj:qhu P w (hp w.params) mg base:=qa3 (f:=283) (c:=282) (pm:=mo4) X G λF=>qkn F B (qjk X G B)
theorem qpj:qki P w (hp w.params) mg base:=qa3 (f:=297) (c:=296) (pm:=mo4) X G λF=>qmL F B (qfz X G B)
theorem qc2:qbQ P w (hp w.params) mg base:=qa3 (f:=87) (c:=86) (pm:=mo0) X G λF=>qeP F B (qph X G B) (qko X G B)
theorem qh2:qeC P w (hp w.params) mg base:=qa3 (f:=132) (c:=131) (pm:=mo0) X G λF=>qhx F B (qdv X G B) (qgj X G B)
theorem qtA:qq3 P w (hp w.params) mg base:=qa3 (f:=196) (c:=195) (pm:=mo2) X G λF=>qsd F B (qkp X G B) (qsf X G B)
theorem qjl:qfw P w (hp w.params) mg base:=qa3 (f:=82) (c:=81) (pm:=mo0) X G λF=>qhV F B (qbl X G B) (qmN X G B) (qc2 X G B)
theorem qcN:qbR P w (hp w.params) mg base:=qa3 (f:=94) (c:=93) (pm:=mo0) X G λF=>qgx F B (qc2 X G B)
theorem qjm:qfx P w (hp w.params) mg base:=qa3 (f:=139) (c:=138) (pm:=mo0) X G λF=>qhW F B (qh2 X G B)
theorem qhC:qd9 P w (hp w.params) mg base:=qa3 (f:=101) (c:=100) (pm:=mo0) X G λF=>qgy F B (qjl X G B)
theorem qhD:qeb P w (hp w.params) mg base:=qa3 (f:=146) (c:=145) (pm:=mo0) X G λF=>qgz F B (qgj X G B) (qh0 X G B) (qjm X G B)
theorem qfZ:qdm P w (hp w.params) mg base:=qa3 (f:=158) (c:=157) (pm:=mo0) X G λF=>qfy F B (qbl X G B) (qhD X G B) (qpf X G B) (qcN X G B) (qiq X G B)
theorem qkq:qgh P w (hp w.params) mg base:=qa3 (f:=165) (c:=164) (pm:=mo0) X G λF=>qji F B (qcN X G B) (qql X G B) (qfZ X G B) (qhC X G B)
theorem qkr:qgi P w (hp w.params) mg base:=qa3 (f:=170) (c:=169) (pm:=mo0) X G λF=>qjj F B (qcN X G B) (qlg X G B) (qkq X G B) (qiq X G B)
theorem qec:qcM P w (hp w.params) mg base:=qa3 (f:=203) (c:=202) (pm:=mo3) X G λF=>qgA F B (qkp X G B) (qkr X G B) (qhA X G B) (qqm X G B) (qlh X G B) (qh1 X G B) (qtA X G B)
theorem qmO:qip P w (hp w.params) mg base:=qa3 (f:=302) (c:=301) (pm:=mo4) X G λF=>qlf F B (qec X G B)
end
theorem all_mk {l:PySem.W.OpenLaw} {w:World} {h:Heap} {mg:Str->Option Value} {fa:Addr} (X:(hp w.params).In h) (G:h.Ns mainGlobals mg) (hfa:mg "law" = some (.ref fa))
  : ∃ fd:FuncData,(∀ (s:Shared) (v:Value),BindsTo s fd ⟨[v],[]⟩ [("_law_script", v)])/\∀ base:Heap,(hp w.params).In base->base.Ns mainGlobals mg->FnOk l.prog w (hp w.params) mg base CX0 11 fa fd ["_law_script"] (qjQ (hp w.params)):=by
 have e:=hfa.symm.trans (PySem.W.mg_of X G (n := "law") (v:=.ref 307) (by kernel_rfl))
 cases e
 have qEXPONENTS:qbW (hp w.params)=15:=by kernel_rfl
 have xEXPONENTS:∀ H:Hp,SqT (hp w.params) H (qbW (hp w.params)) (exps.map λe:Nat=>V.int (e:Int)):=λH=>.inr ⟨_,_,_,(show (hp w.params).lookup (qbW (hp w.params))=some ⟨.type "tuple", none,.seq #[(.int 61 189),(.int 127 190),(.int 521 191),(.int 1279 192),(.int 4423 193),(.int 9941 194),(.int 21701 195),(.int 44497 196)] 0,#[]⟩ by rw [qEXPONENTS];kernel_rfl),rfl,rfl,by show 8<=sizeLine;rw [sizeLine_eq];decide,.cons ⟨_,rfl⟩ (.cons ⟨_,rfl⟩ (.cons ⟨_,rfl⟩ (.cons ⟨_,rfl⟩ (.cons ⟨_,rfl⟩ (.cons ⟨_,rfl⟩ (.cons ⟨_,rfl⟩ (.cons ⟨_,rfl⟩ (.nil))))))))⟩
 have B:Bl (hp w.params) mg:=⟨PySem.W.mg_none_of X G (by kernel_rfl),PySem.W.mg_none_of X G (by kernel_rfl),PySem.W.mg_none_of X G (by kernel_rfl),PySem.W.mg_none_of X G (by kernel_rfl),PySem.W.mg_none_of X G (by kernel_rfl),PySem.W.mg_none_of X G (by kernel_rfl),PySem.W.mg_none_of X G (by kernel_rfl),PySem.W.mg_none_of X G (by kernel_rfl),PySem.W.mg_none_of X G (by kernel_rfl),by rw [qEXPONENTS];exact PySem.W.mg_of X G (by kernel_rfl),PySem.W.mg_none_of X G (by kernel_rfl),PySem.W.mg_none_of X G (by kernel_rfl),PySem.W.mg_none_of X G (by kernel_rfl),PySem.W.mg_none_of X G (by kernel_rfl),xEXPONENTS⟩
 have FL:=qse (K:=hp w.params) (st:=qnn) (f:=307) (c:=306) (n := "law") (pm:=mo4) (by kernel_rfl) (by kernel_rfl) (by kernel_rfl)
 refine ⟨PySem.W.fnOf "law" "law" (qc3 qnn) (qcg qnn) (qa1 qnn) .none .none .none mo4 none (.ref 306) .none,λs v=>.of_eq rfl,λbase KB _=>?_⟩
 exact qtx FL B (qqo X G B) (qjk X G B) (qlj X G B) (qpi X G B) (qli X G B) (qfY X G B) (qmM X G B) (qmO X G B) (qec X G B) (qpg X G B) (qfz X G B) (qpj X G B)
theorem walk {l:PySem.W.OpenLaw} {q:Program} {loose:List Str} {XP:(Str->Option Value)->Heap->Prop} {YP:World->Heap->Prop} {d:DefRec} {K:Params->W.Frag} (hn:l.most=some 63) (hdf:d.params.defaults=[]) (hq:importsNone q=true) (ht:∀ w,(model l.prog w).prog.given.tree=none)
  (hY:∀ (w:World) (h:Heap),YP w h->(K w.params).In h)
  (F:∀ (w:World) (mg:Str->Option Value) (fa:Addr) (h:Heap),(K w.params).In h->h.Ns mainGlobals mg->mg d.name=some (.ref fa)->
   ∃ fd:FuncData,(∀ (s:Shared) (u:Value),BindsTo s fd ⟨[u],[]⟩ [("_law_script", u)])/\∀ base:Heap,(K w.params).In base->base.Ns mainGlobals mg->FnOk l.prog w (K w.params) mg base CX0 11 fa fd ["_law_script"] (qjQ (K w.params))) :
  PySem.W.WalkO q loose XP YP l.row.toRowW d [] (λf vs=>PySem.call f vs):=
 L2.walk_of (n:=63) (k:=11) (x := "_law_script") (CX:=λ_=>CX0) (sp:=λw=>qjQ (K w.params)) hn ∅ hdf hq ht ⟨rfl,∅,∅⟩ hY F (λ_ _ a ns hl _ hS=>⟨a,ns,rfl,hS,hl,λ_=>rfl⟩) λ_ _ _ _ _ z=>z
end Bs
open PySem PySem.W PyProof.Rows
set_option maxRecDepth 100000 in
set_option maxHeartbeats 0 in
theorem PySem.Challenge.cw_backslope_k14_counts_agree_holds : PySem.Challenge.rw_backslope_k14_counts_agree.Holds := by
  w_on; o_law
  refine PySem.W.holds_open (q := Bs.Hd.vw) (loose := []) (Xt := fun s => PySem.W.xlAt Bs.Hd.vw [] s && PySem.W.recOk (PySem.W.RowW.records (PySem.W.OpenRow.toRowW (PySem.W.OpenLaw.row PySem.Challenge.rw_backslope_k14_counts_agree))) s) (XP := PySem.W.XL Bs.Hd.vw []) (Yf := Bs.Hd.hk.obs) (Ya := Bs.Hd.hk.val) (YP := Bs.Hd.hk.says) (N := 3052) Bs.Hd.left Bs.Hd.hk.of Bs.Hd.hk.keeps (fun s e => PySem.W.xl_of s (Bool.and_eq_true_iff.mp e).1) PySem.W.XL.keeps (by rfl) (by rfl) (by rfl) (fun s e => PySem.W.recFacts_of (Bool.and_eq_true_iff.mp e).2) (by rfl) (by first | assumption | decide +kernel) (by decide +kernel) ⟨rfl, rfl, rfl, rfl, rfl, by decide +kernel⟩ ?hw ?hc
  case hw => w_witness2
  case hc => exact Bs.walk (l := PySem.Challenge.rw_backslope_k14_counts_agree) (K := Bs.Hd.hp) rfl rfl (by decide +kernel) (fun _ => rfl) (fun w h Y => Y) (fun w mg fa h KX G hmg => Bs.all_mk KX G hmg)
#print axioms PySem.Challenge.cw_backslope_k14_counts_agree_holds

