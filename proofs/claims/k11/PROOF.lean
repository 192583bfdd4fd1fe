import PyProof.Rows.All
import Wide.All
import OpenK.AllK
import Wide.FinOn
import Lean
import PyProof.EqAt
import PyProof.EqKinds
import PyProof.TupleCall
import PySem.Challenge.RW_backslope_k11_rational_roots_put_in
local macro_rules | `(⋯) => `(by omega)
local macro_rules | `(∅) => `(by decide)
set_option Elab.async false
set_option linter.all false
set_option maxRecDepth 100000
theorem waa:type_of% @List.length_map:=@List.length_map
theorem wab:type_of% @List.getD_eq_getElem?_getD:=@List.getD_eq_getElem?_getD
theorem wac:type_of% @Nat.le_refl:=@Nat.le_refl
theorem wad:type_of% @Nat.zero_le:=@Nat.zero_le
theorem wae:type_of% @List.getElem?_map:=@List.getElem?_map
theorem waf:type_of% @List.getElem?_eq_getElem:=@List.getElem?_eq_getElem
theorem wag:type_of% @List.mem_singleton:=@List.mem_singleton
theorem wah:type_of% @Int.ne_of_gt:=@Int.ne_of_gt
theorem wai:type_of% @List.mem_map:=@List.mem_map
theorem waj:type_of% @List.size_toArray:=@List.size_toArray
theorem wak:type_of% @Int.mul_ne_zero:=@Int.mul_ne_zero
theorem wal:type_of% @List.getElem?_eq_some_iff:=@List.getElem?_eq_some_iff
theorem wam:type_of% @Int.natAbs_mul:=@Int.natAbs_mul
theorem wan:type_of% @Nat.lt_or_ge:=@Nat.lt_or_ge
theorem wao:type_of% @Nat.ne_of_lt:=@Nat.ne_of_lt
theorem wap:type_of% @Nat.le_trans:=@Nat.le_trans
theorem waq:type_of% @List.mem_cons_self:=@List.mem_cons_self
theorem war:type_of% @Int.dvd_trans:=@Int.dvd_trans
theorem was:type_of% @List.mem_cons:=@List.mem_cons
theorem wat:type_of% @List.mem_of_getElem?:=@List.mem_of_getElem?
theorem wau:type_of% @Nat.lt_of_lt_of_le:=@Nat.lt_of_lt_of_le
theorem wav:type_of% @Int.emod_nonneg:=@Int.emod_nonneg
theorem waw:type_of% @List.length_range:=@List.length_range
theorem wax:type_of% @Nat.pow_succ:=@Nat.pow_succ
theorem way:type_of% @List.length_eq_zero_iff:=@List.length_eq_zero_iff
theorem waz:type_of% @Int.emod_lt_of_pos:=@Int.emod_lt_of_pos
theorem wa0:type_of% @List.getElem?_eq_none:=@List.getElem?_eq_none
theorem wa1:type_of% @Nat.mul_le_mul_left:=@Nat.mul_le_mul_left
theorem wa2:type_of% @List.mem_append:=@List.mem_append
theorem wa3:type_of% @List.mem_append_right:=@List.mem_append_right
theorem wa4:type_of% @Nat.lt_of_le_of_lt:=@Nat.lt_of_le_of_lt
theorem wa5:type_of% @List.mem_cons_of_mem:=@List.mem_cons_of_mem
theorem wa6:type_of% @Nat.lt_irrefl:=@Nat.lt_irrefl
theorem wa7:type_of% @List.length_take:=@List.length_take
theorem wa8:type_of% @List.take_length:=@List.take_length
theorem wa9:type_of% @Int.natAbs_natCast:=@Int.natAbs_natCast
theorem wba:type_of% @Nat.pow_le_pow_right:=@Nat.pow_le_pow_right
theorem wbb:type_of% @Int.natAbs_dvd_natAbs:=@Int.natAbs_dvd_natAbs
theorem wbc:type_of% @List.length_cons:=@List.length_cons
theorem wbd:type_of% @Nat.mul_le_mul_right:=@Nat.mul_le_mul_right
theorem wbe:type_of% @Nat.mul_comm:=@Nat.mul_comm
theorem wbf:type_of% @List.getElem_mem:=@List.getElem_mem
theorem wbg:type_of% @Bool.false_ne_true:=@Bool.false_ne_true
theorem wbh:type_of% @Int.mul_comm:=@Int.mul_comm
theorem wbi:type_of% @List.forall_mem_singleton:=@List.forall_mem_singleton
theorem wbj:type_of% @Nat.eq_zero_or_pos:=@Nat.eq_zero_or_pos
theorem wbk:type_of% @Int.dvd_add:=@Int.dvd_add
theorem wbl:type_of% @List.take_add_one:=@List.take_add_one
theorem wbm:type_of% @Int.pow_zero:=@Int.pow_zero
theorem wbn:type_of% @Int.dvd_zero:=@Int.dvd_zero
theorem wbo:type_of% @List.map_append:=@List.map_append
theorem wbp:type_of% @List.mem_range:=@List.mem_range
theorem wbq:type_of% @List.length_append:=@List.length_append
theorem wbr:type_of% @List.length_pos_iff:=@List.length_pos_iff
theorem wbs:type_of% @Int.mul_sub:=@Int.mul_sub
theorem wbt:type_of% @Nat.le_of_lt:=@Nat.le_of_lt
theorem wbu:type_of% @Nat.pow_pos:=@Nat.pow_pos
theorem wbv:type_of% @Rat.mul_eq_zero:=@Rat.mul_eq_zero
theorem wbw:type_of% @Int.mul_le_mul_of_nonneg_left:=@Int.mul_le_mul_of_nonneg_left
theorem wbx:type_of% @Nat.le_of_dvd:=@Nat.le_of_dvd
theorem wby:type_of% @Int.toNat_natCast:=@Int.toNat_natCast
theorem wbz:type_of% @List.mem_append_left:=@List.mem_append_left
theorem wb0:type_of% @Int.pow_succ:=@Int.pow_succ
theorem wb1:type_of% @List.getElem?_range:=@List.getElem?_range
theorem wb2:type_of% @Int.mul_eq_zero:=@Int.mul_eq_zero
theorem wb3:type_of% @Int.mul_zero:=@Int.mul_zero
theorem wb4:type_of% @Nat.mul_le_mul:=@Nat.mul_le_mul
theorem wb5:type_of% @Int.gcd_dvd_right:=@Int.gcd_dvd_right
theorem wb6:type_of% @Nat.lt_succ_self:=@Nat.lt_succ_self
theorem wb7:type_of% @Int.le_of_dvd:=@Int.le_of_dvd
theorem wb8:type_of% @Nat.mul_assoc:=@Nat.mul_assoc
theorem wb9:type_of% @Int.dvd_mul_left:=@Int.dvd_mul_left
theorem wca:type_of% @Int.emod_eq_of_lt:=@Int.emod_eq_of_lt
theorem wcb:type_of% @List.map_congr_left:=@List.map_congr_left
theorem wcc:type_of% @Int.gcd_dvd_left:=@Int.gcd_dvd_left
theorem wcd:type_of% @Int.fdiv_eq_ediv_of_nonneg:=@Int.fdiv_eq_ediv_of_nonneg
theorem wce:type_of% @List.all_eq_true:=@List.all_eq_true
theorem wcf:type_of% @Int.emod_add_mul_ediv:=@Int.emod_add_mul_ediv
theorem wcg:type_of% @List.mem_of_mem_take:=@List.mem_of_mem_take
theorem wch:type_of% @List.getElem?_replicate:=@List.getElem?_replicate
theorem wci:type_of% @Int.emod_eq_zero_of_dvd:=@Int.emod_eq_zero_of_dvd
theorem wcj:type_of% @Int.dvd_of_emod_eq_zero:=@Int.dvd_of_emod_eq_zero
theorem wck:type_of% @List.getElem_of_mem:=@List.getElem_of_mem
theorem wcl:type_of% @Int.dvd_mul_of_dvd_left:=@Int.dvd_mul_of_dvd_left
theorem wcm:type_of% @Nat.le_mul_of_pos_left:=@Nat.le_mul_of_pos_left
theorem wcn:type_of% @Nat.le_mul_of_pos_right:=@Nat.le_mul_of_pos_right
theorem wco:type_of% @Int.mul_ediv_cancel_left:=@Int.mul_ediv_cancel_left
theorem wcp:type_of% @Int.natCast_dvd_natCast:=@Int.natCast_dvd_natCast
theorem wcq:type_of% @Int.dvd_mul_of_dvd_right:=@Int.dvd_mul_of_dvd_right
theorem wcr:type_of% @List.dropLast_concat_getLast:=@List.dropLast_concat_getLast
namespace L2
open PySem PySem.Spec PyProof.Rows
noncomputable abbrev Key:=Sum Int Str
noncomputable def qtQ:Key->Value->Bool
 | .inl k,v=>Value.isInt k v
 | .inr x,v=>Value.isStrOf x v
noncomputable def qv7 (w:World):Key->Int
 | .inl k=>hashInt k
 | .inr x=>hashStr w x
theorem qbw:∀ {k:Key} {v:Value},qtQ k v=true->(∃ i t,k=Sum.inl i/\v=Value.int i t)\/(∃ x t,k=Sum.inr x/\v=Value.str x t)
 | .inl i,v,h=>by
   obtain ⟨t,e⟩:=Value.isInt_shape (k:=i) (v:=v) h
   exact .inl ⟨i,t,rfl,e⟩
 | .inr x,v,h=>by
   obtain ⟨t,e⟩:=Value.isStrOf_shape (x:=x) (v:=v) h
   exact .inr ⟨x,t,rfl,e⟩
theorem qtR (a b:Int):decide ((Sum.inl a:Key)=Sum.inl b)=(a == b):=by
 by_cases e:a=b
 ·subst e;simp
 ·have h:¬ (Sum.inl a:Key)=Sum.inl b:=λq=>e (Sum.inl.inj q)
  rw [decide_eq_false h]
  exact (beq_eq_false_iff_ne.mpr e).symm
theorem qtS (a b:Str):decide ((Sum.inr a:Key)=Sum.inr b)=decide (a=b):=by
 by_cases e:a=b
 ·subst e;simp
 ·have h:¬ (Sum.inr a:Key)=Sum.inr b:=λq=>e (Sum.inr.inj q)
  rw [decide_eq_false h,decide_eq_false e]
theorem qtT (a:Int) (b:Str):decide ((Sum.inl a:Key)=Sum.inr b)=false:=decide_eq_false (λq=>nomatch q)
theorem qtU (a:Str) (b:Int):decide ((Sum.inr a:Key)=Sum.inl b)=false:=decide_eq_false (λq=>nomatch q)
noncomputable def qjB (prog:Program) (w:World):PySem.KeyKind prog w Key where
 is:=qtQ
 hash:=qv7 w
 inj:=λv a b ha hb=>by
  rcases qbw ha with ⟨i,t,rfl,rfl⟩ | ⟨x,t,rfl,rfl⟩
  ·rcases qbw hb with ⟨j,u,rfl,e⟩ | ⟨y,u,rfl,e⟩
   ·injection e with e1 _;rw [e1]
   ·exact nomatch e
  ·rcases qbw hb with ⟨j,u,rfl,e⟩ | ⟨y,u,rfl,e⟩
   ·exact nomatch e
   ·injection e with e1 _;rw [e1]
 byValue:=λk v h=>by
  rcases qbw h with ⟨i,t,rfl,rfl⟩ | ⟨x,t,rfl,rfl⟩ <;> rfl
 pyHash:=λhv h=>by
  rcases qbw hv with ⟨i,t,rfl,rfl⟩ | ⟨x,t,rfl,rfl⟩
  ·exact wpAny_pyHash_int h
  ·exact wpAny_pyHash_str h
 eqBool:=λhu hv h=>by
  rcases qbw hu with ⟨i,t,rfl,rfl⟩ | ⟨x,t,rfl,rfl⟩
  ·rcases qbw hv with ⟨j,u,rfl,rfl⟩ | ⟨y,u,rfl,rfl⟩
   ·rw [qtR] at h;exact wpAny_eqBool_int h
   ·rw [qtT] at h;exact SeqAt.EqAt.int_str i t y u _ _ _ _ h
  ·rcases qbw hv with ⟨j,u,rfl,rfl⟩ | ⟨y,u,rfl,rfl⟩
   ·rw [qtU] at h;exact SeqAt.EqAt.str_int x t j u _ _ _ _ h
   ·rw [qtS] at h;exact wpAny_eqBool_str h
 «strs»:=λk x t v h=>by
  rcases qbw h with ⟨i,u,rfl,e⟩ | ⟨y,u,rfl,e⟩
  ·exact nomatch e
  ·injection e with e1 _
   subst e1
   cases v <;> rfl
end L2
namespace L2
open PySem PySem.Spec PyProof.Rows
inductive V where
 | non | bl (b:Bool) | int (i:Int) | str (x:Str) | byt (b:Array UInt8) | flt (b:UInt64) | ref (a:Addr) | ty (n:String)
 deriving DecidableEq
noncomputable def RelV:V->Value->Prop
 | .non,u=>u=Value.none
 | .bl b,u=>u=Value.bool b
 | .int i,u=>∃ t,u=Value.int i t
 | .str x,u=>∃ t,u=Value.str x t
 | .byt b,u=>∃ t,u=Value.bytes b t
 | .flt b,u=>∃ t,u=Value.float b t
 | .ref a,u=>u=Value.ref a
 | .ty n,u=>u=Value.type n
noncomputable abbrev Vals:List V->List Value->Prop:=Paired RelV
theorem Vals.length {xs:List V} {us:List Value} (r:Vals xs us):xs.length=us.length:=Paired.length r
theorem Vals.get:∀ {xs:List V} {us:List Value} {i:Nat} {x:V},Vals xs us->xs[i]?=some x->∃ u,us[i]?=some u/\RelV x u
 | _,_,_,_,.nil,e=>by simp at e
 | _,_,0,_,.cons r _,e=>by simp at e;subst e;exact ⟨_,rfl,r⟩
 | _,_,i+1,x,.cons _ t,e=>by
   obtain ⟨u,h1,h2⟩:=Vals.get (i:=i) (x:=x) t (by simpa using e)
   exact ⟨u,by simpa using h1,h2⟩
theorem Vals.set {x:V} {u:Value} (r:RelV x u):∀ {xs:List V} {us:List Value} (i:Nat),Vals xs us->Vals (xs.set i x) (us.set i u)
 | _,_,_,.nil=>.nil
 | _,_,0,.cons _ t=>.cons r t
 | _,_,i+1,.cons q t=>.cons q (Vals.set r i t)
theorem Vals.append:∀ {xs ys:List V} {us ws:List Value},Vals xs us->Vals ys ws->Vals (xs++ys) (us++ws)
 | _,_,_,_,.nil,s=>s
 | _,_,_,_,.cons r t,s=>.cons r (Vals.append t s)
theorem Vals.take:∀ {xs:List V} {us:List Value} (n:Nat),Vals xs us->Vals (xs.take n) (us.take n)
 | _,_,0,_=>.nil
 | _,_,_+1,.nil=>.nil
 | _,_,n+1,.cons r t=>.cons r (Vals.take n t)
theorem Vals.drop:∀ {xs:List V} {us:List Value} (n:Nat),Vals xs us->Vals (xs.drop n) (us.drop n)
 | _,_,0,r=>r
 | _,_,_+1,.nil=>.nil
 | _,_,n+1,.cons _ t=>Vals.drop n t
theorem Vals.none_of:∀ {xs:List V} {us:List Value} {i:Nat},Vals xs us->xs[i]?=none->us[i]?=none:=λ{xs us i} r e=>by
 have h1:=r.length
 have h2:xs.length<=i:=List.getElem?_eq_none_iff.mp e
 exact List.getElem?_eq_none_iff.mpr ⋯
noncomputable def RelO:Option V->Option Value->Prop
 | some v,some u=>RelV v u
 | none,none=>True
 | _,_=>False
noncomputable def KV {κ:Type}:List (κ×V)->List (κ×Value)->Prop:=Paired λ(p:κ×V) (q:κ×Value)=>p.1=q.1/\RelV p.2 q.2
noncomputable def kV:Key->V
 | .inl i=>.int i
 | .inr x=>.str x
inductive HO where

 | lst (xs:List V)

 | tup (xs:List V)

 | dK (kvs:List (Key×V)) | dT (kvs:List (List Key×V))

 | set (S:Int->Bool) (n:Nat)

 | ins (C dx:Addr) (fs:List (Str×V))

 | own (x:Addr)

 | xd (fs:List (Str×V))

 | met (f x:Addr)

 | rng (lo hi:Int)

 | frz (o:Obj) (u:HO)

 | tbl (ps:Array Value)

 | ext (φ:Heap->Prop)
noncomputable abbrev Hp:=Addr->Option HO
noncomputable def upd (H:Hp) (a:Addr) (o:HO):Hp:=λb=>if b=a then some o else H b
theorem qah {H:Hp} {a:Addr} {o:HO}:upd H a o a=some o:=by unfold upd;rw [if_pos rfl]
theorem qaC {H:Hp} {a b:Addr} {o:HO} (h:b≠a):upd H a o b=H b:=by unfold upd;rw [if_neg h]
theorem qvg {H:Hp} {a b:Addr} {o u:HO} (h:H a=some o) (h':H b=some u) (d:o≠u):a≠b:=by
 intro e;subst e;rw [h] at h';exact d (Option.some.inj h')
theorem qaq {H:Hp} {a b:Addr} {o:HO} (h:H a=some o) (h':H b=none):a≠b:=by
 intro e;subst e;rw [h] at h';cases h'
section
variable (P:Program) (w:World)
noncomputable def ObjOk (H:Hp) (h:Heap) (a:Addr):HO->Prop
 | .lst xs=>xs.length<=sizeLine/\∃ (its:List Value) (n:Nat),Vals xs its/\h.get? a=some { cls:=.type "list", data:=.seq its.toArray n }
 | .tup xs=>xs.length<=sizeLine/\∃ its:List Value,Vals xs its/\IsTup h a its.toArray
 | .dK kvs=>kvs.length<=sizeLine/\(a == sysModules)=false/\∃ vs,KV kvs vs/\h.DictOf (qjB P w) a vs
 | .dT kvs=>kvs.length<=sizeLine/\(a == sysModules)=false/\∃ xs:List (List Key×Addr×Value),
   Paired (λ(p:List Key×V) (q:List Key×Addr×Value)=>p.1=q.1/\H q.2.1=some (.tup (p.1.map kV))/\RelV p.2 q.2.2) kvs xs/\
   ∃ o es ep,h.get? a=some o/\o.ExactDict/\o.data=.dict es ep/\es.toList=xs.map (entryOfKey (tupleKind (qjB P w)))/\(xs.map (·.1)).Nodup
 | .set S n=>h.SetOf (intKind P w) a S n
 | .ins C dx fs=>H dx=some (.own a)/\fs.length<=1000/\dx≠a/\h.get? a=some (PySem.W.instObj C dx)/\
   ∃ mA,h.Ns1 dx mA/\(∀ f,RelO (fs.lookup f) (mA f))/\PySem.Within mA (fs.map (·.1))
 | .own _=>∃ o,h.get? a=some o
 | .xd fs=>∃ mA,h.Ns1 a mA/\∀ f,RelO (fs.lookup f) (mA f)
 | .rng lo hi=>∃ t u v,h.get? a=some { cls:=.type "range", data:=.fields #[.int lo t,.int hi u,.int 1 v] }
 | .frz o u=>h.get? a=some o/\ObjOk H h a u
 | .tbl ps=>h.get? a=some { cls:=.none,data:=.fields ps }
 | .met f x=>h.get? a=some (PySem.W.methodObj (.ref f) (.ref x))
 | .ext φ=>φ h/\(∃ o,h.get? a=some o)/\∀ h1 h2:Heap,φ h1->(∀ o,h1.get? a=some o->h2.get? a=some o)->φ h2
noncomputable def HOk (H:Hp) (h:Heap):Prop:=∀ a o,H a=some o->ObjOk P w H h a o
end
section
variable {P:Program} {w:World} {H H':Hp} {h h':Heap} {a:Addr} {o:HO}
theorem ObjOk.lt (x:ObjOk P w H h a o):a<h.objs.size:=by
 cases o with
 | lst xs=>obtain ⟨_,_,_,_,e⟩:=x;exact Heap.lt_size e
 | tup xs=>obtain ⟨_,_,_,p⟩:=x;exact p.lt
 | dK kvs=>obtain ⟨_,_,_,_,o,_,_,e,_⟩:=x;exact Heap.lt_size e
 | dT kvs=>obtain ⟨_,_,_,_,o,_,_,e,_⟩:=x;exact Heap.lt_size e
 | set S n=>obtain ⟨o,_,_,_,e,_⟩:=x;exact Heap.lt_size e
 | ins C dx fs=>obtain ⟨_,_,_,e,_⟩:=x;exact Heap.lt_size e
 | own y=>obtain ⟨_,e⟩:=x;exact Heap.lt_size e
 | xd fs=>obtain ⟨_,⟨_,_,_,e,_⟩,_⟩:=x;exact Heap.lt_size e
 | rng lo hi=>obtain ⟨_,_,_,e⟩:=x;exact Heap.lt_size e
 | frz ob u=>obtain ⟨e,_⟩:=x;exact Heap.lt_size e
 | tbl ps=>exact Heap.lt_size (show h.get? a=some _ from x)
 | met f y=>exact Heap.lt_size (show h.get? a=some _ from x)
 | ext φ=>obtain ⟨_,⟨_,e⟩,_⟩:=x;exact Heap.lt_size e
theorem Paired.mapP {α β:Type} {F G:α->β->Prop}:∀ {l₁:List α} {l₂:List β},Paired F l₁ l₂->(∀ a b,F a b->G a b)->Paired G l₁ l₂
 | _,_,.nil,_=>.nil
 | _,_,.cons r t,f=>.cons (f _ _ r) (Paired.mapP t f)
theorem ObjOk.stay (x:ObjOk P w H h a o) (k:∀ b u,(b=a\/H b=some (.own a))->h.get? b=some u->h'.get? b=some u)
  (ho:∀ b,H b=some (.own a)->H' b=some (.own a)) (ht:∀ b xs,H b=some (.tup xs)->H' b=some (.tup xs)):ObjOk P w H' h' a o:=by
 induction o with
 | lst xs=>obtain ⟨z,its,n,r,e⟩:=x;exact ⟨z,its,n,r,k _ _ (.inl rfl) e⟩
 | tup xs=>obtain ⟨z,its,r,ob,e,c⟩:=x;exact ⟨z,its,r,ob,k _ _ (.inl rfl) e,c⟩
 | dK kvs=>obtain ⟨z,y,vs,r,ob,es,ep,e,c⟩:=x;exact ⟨z,y,vs,r,ob,es,ep,k _ _ (.inl rfl) e,c⟩
 | dT kvs=>
   obtain ⟨z,y,xs,r,ob,es,ep,e,c⟩:=x
   exact ⟨z,y,xs,Paired.mapP r λp q z=>⟨z.1,ht _ _ z.2.1,z.2.2⟩,ob,es,ep,k _ _ (.inl rfl) e,c⟩
 | set S n=>obtain ⟨ob,es,ep,t,e,c⟩:=x;exact ⟨ob,es,ep,t,k _ _ (.inl rfl) e,c⟩
 | ins C dx fs=>
   obtain ⟨d,z,ne,e,mA,⟨od,es,ep,e2,c⟩,r⟩:=x
   exact ⟨ho _ d,z,ne,k _ _ (.inl rfl) e,mA,⟨od,es,ep,k _ _ (.inr d) e2,c⟩,r⟩
 | own y=>obtain ⟨ob,e⟩:=x;exact ⟨ob,k _ _ (.inl rfl) e⟩
 | xd fs=>obtain ⟨mA,⟨od,es,ep,e,c⟩,r⟩:=x;exact ⟨mA,⟨od,es,ep,k _ _ (.inl rfl) e,c⟩,r⟩
 | rng lo hi=>obtain ⟨t,u,v,e⟩:=x;exact ⟨t,u,v,k _ _ (.inl rfl) e⟩
 | frz ob u ih=>obtain ⟨e,q⟩:=x;exact ⟨k _ _ (.inl rfl) e,ih q⟩
 | tbl ps=>
   have e:h.get? a=some { cls:=.none,data:=.fields ps }:=x
   show h'.get? a=some { cls:=.none,data:=.fields ps }
   exact k a _ (.inl rfl) e
 | met f y=>
   have e:h.get? a=some (PySem.W.methodObj (.ref f) (.ref y)):=x
   show h'.get? a=some (PySem.W.methodObj (.ref f) (.ref y))
   exact k a _ (.inl rfl) e
 | ext φ=>obtain ⟨p,⟨o,e⟩,st⟩:=x;exact ⟨st _ _ p λo q=>k _ _ (.inl rfl) q,⟨o,k _ _ (.inl rfl) e⟩,st⟩
theorem HOk.lt (x:HOk P w H h) (e:H a=some o):a<h.objs.size:=(x a o e).lt
theorem HOk.fresh (x:HOk P w H h) (e:h.objs.size<=a):H a=none:=by
 cases q:H a with
 | none=>rfl
 | some u=>exact absurd (wau (x.lt q) e) (wa6 _)
theorem HOk.kept (x:HOk P w H h) (k:∀ b u,h.get? b=some u->h'.get? b=some u):HOk P w H h':=λa o e=>
 (x a o e).stay (λb u _ q=>k b u q) (λ_ q=>q) λ_ _ q=>q
theorem HOk.laid (x:HOk P w H h) (k:∀ b u,h.get? b=some u->h'.get? b=some u) (hp:h.objs.size<=a) (new:ObjOk P w (upd H a o) h' a o):HOk P w (upd H a o) h':=λb u e=>by
 have hn:=x.fresh hp
 by_cases hb:b=a
 ·subst hb;rw [qah] at e;cases e;exact new
 ·rw [qaC hb] at e
  exact (x b u e).stay (λc v _ q=>k c v q) (λc q=>by rw [qaC (qaq q hn)];exact q) λc xs q=>by rw [qaC (qaq q hn)];exact q
end
noncomputable def Rd (H:Hp) (a:Addr) (u:HO):Prop:=H a=some u\/∃ o,H a=some (.frz o u)
theorem Rd.of {H:Hp} {a:Addr} {u:HO} (h:H a=some u):Rd H a u:=.inl h
theorem Rd.ok {P:Program} {w:World} {H:Hp} {h:Heap} {a:Addr} {u:HO} (r:Rd H a u) (x:HOk P w H h):ObjOk P w H h a u:=by
 rcases r with r | ⟨o,r⟩
 ·exact x a u r
 ·obtain ⟨_,q⟩:=x a _ r
  exact q
noncomputable def Mut:Option HO->Prop
 | some (.lst _)=>True
 | some (.dK _)=>True
 | some (.dT _)=>True
 | some (.set _ _)=>True
 | some (.ins _ _ _)=>True
 | some (.ext _)=>True
 | _=>False
section
variable {P:Program} {w:World} {H:Hp} {h h':Heap} {x e:Addr} {o':HO}
theorem HOk.write (ok:HOk P w H h) (mu:Mut (H x)) (he:e=x\/H e=some (.own x)) (k:∀ b u,b≠e->h.get? b=some u->h'.get? b=some u) (heo:∃ u,h'.get? e=some u)
  (new:ObjOk P w (upd H x o') h' x o'):HOk P w (upd H x o') h':=λb u q=>by
 have nown:∀ c y,H c=some (.own y)->c≠x:=λc y r z=>by subst z;rw [r] at mu;exact mu
 have ntup:∀ c xs,H c=some (.tup xs)->c≠x:=λc xs r z=>by subst z;rw [r] at mu;exact mu
 by_cases hb:b=x
 ·subst hb;rw [qah] at q;cases q;exact new
 ·rw [qaC hb] at q
  by_cases hbe:b=e
  ·have q':H b=some (.own x):=by
    rcases he with z | z
    ·exact absurd (hbe.trans z) hb
    ·rw [hbe];exact z
   rw [q] at q';cases q'
   obtain ⟨v,hv⟩:=heo
   exact ⟨v,by rw [hbe];exact hv⟩
  ·refine (ok b u q).stay (λc v hc r=>k c v ?_ r) (λc r=>by rw [qaC (nown c b r)];exact r) λc xs r=>by rw [qaC (ntup c xs r)];exact r
   rcases hc with rfl | hc
   ·exact hbe
   ·rintro rfl
    rcases he with z | z
    ·exact nown c b hc z
    ·rw [hc] at z;cases z;exact hb rfl
end
structure Un (fs ex:List Addr) (H H':Hp) (h h':Heap):Prop where
 keep:∀ b o,h.get? b=some o->H b=none->b∉fs->b∉ex->h'.get? b=some o
 slot:∀ b o,h.get? b=some o->H b=none->b∈fs->b∉ex->∃ sl,h'.get? b=some { o with slots:=sl }
 free:∀ b o,h.get? b=some o->H b=none->b∉ex->H' b=none
 there:∀ b o,h.get? b=some o->b∉ex->∃ o',h'.get? b=some o'
 tups:∀ b xs,H b=some (.tup xs)->H' b=some (.tup xs)
 frzs:∀ b o u,H b=some (.frz o u)->H' b=some (.frz o u)
 tbls:∀ b ps,H b=some (.tbl ps)->∃ more,H' b=some (.tbl (ps++more))
section
variable {fs fs' ex ex':List Addr} {H H1 H2:Hp} {h h1 h2 h':Heap} {a x e:Addr} {o:HO}
theorem Un.any (u:Un fs ex H H1 h h1) {b:Addr} {ob:Obj} (q:h.get? b=some ob) (n:H b=none) (hx:b∉ex):∃ sl,h1.get? b=some { ob with slots:=sl }:=by
 by_cases hb:b∈fs
 ·exact u.slot b ob q n hb hx
 ·exact ⟨ob.slots,u.keep b ob q n hb hx⟩
theorem Un.trans (a:Un fs ex H H1 h h1) (b:Un fs ex H1 H2 h1 h2):Un fs ex H H2 h h2 where
 keep:=λc ob q n hc hx=>b.keep c ob (a.keep c ob q n hc hx) (a.free c ob q n hx) hc hx
 slot:=λc ob q n hc hx=>by
  obtain ⟨sl,e1⟩:=a.slot c ob q n hc hx
  obtain ⟨sl',e2⟩:=b.slot c _ e1 (a.free c ob q n hx) hc hx
  exact ⟨sl',e2⟩
 free:=λc ob q n hx=>by
  obtain ⟨o',e1⟩:=a.there c ob q hx
  exact b.free c o' e1 (a.free c ob q n hx) hx
 there:=λc ob q hx=>by
  obtain ⟨o',e1⟩:=a.there c ob q hx
  exact b.there c o' e1 hx
 tups:=λc xs q=>b.tups c xs (a.tups c xs q)
 frzs:=λc ob xs q=>b.frzs c ob xs (a.frzs c ob xs q)
 tbls:=λc ps q=>by
  obtain ⟨m1,e1⟩:=a.tbls c ps q
  obtain ⟨m2,e2⟩:=b.tbls c _ e1
  exact ⟨m1++m2,by rw [e2,Array.append_assoc]⟩
theorem Un.kept (k:∀ b u,h.get? b=some u->h'.get? b=some u):Un fs ex H H h h':=
 ⟨λb ob q _ _ _=>k b ob q,λb ob q _ _ _=>⟨ob.slots,k b ob q⟩,λ_ _ _ n _=>n,λb ob q _=>⟨ob,k b ob q⟩,λ_ _ q=>q,λ_ _ _ q=>q,λ_ ps q=>⟨#[],by rw [q];simp⟩⟩
theorem Un.refl:Un fs ex H H h h:=Un.kept λ_ _ q=>q
theorem Un.laid (k:∀ b u,h.get? b=some u->h'.get? b=some u) (hp:h.objs.size<=a) (hn:H a=none):Un fs ex H (upd H a o) h h' where
 keep:=λb u q _ _ _=>k b u q
 slot:=λb u q _ _ _=>⟨u.slots,k b u q⟩
 free:=λb u q n _=>by rw [qaC (wao (wau (Heap.lt_size q) hp))];exact n
 there:=λb u q _=>⟨u,k b u q⟩
 tups:=λb xs q=>by rw [qaC (qaq q hn)];exact q
 frzs:=λb u xs q=>by rw [qaC (qaq q hn)];exact q
 tbls:=λb ps q=>⟨#[],by rw [qaC (qaq q hn),q];simp⟩
theorem Un.write (mu:Mut (H x)) (he:e=x\/H e=some (.own x)) (k:∀ b u,b≠e->h.get? b=some u->h'.get? b=some u) (heo:∃ u,h'.get? e=some u):Un fs ex H (upd H x o) h h':=by
 have hx:∀ b,H b=none->b≠x:=λb n z=>by subst z;rw [n] at mu;exact mu
 have hb:∀ b,H b=none->b≠e:=λb n z=>by
  subst z
  rcases he with r | r
  ·exact hx b n r
  ·rw [n] at r;cases r
 have hm:∀ b u,H b=some u->¬ Mut (some u)->b≠x:=λb u q nm z=>by subst z;rw [q] at mu;exact nm mu
 refine ⟨λb u q n _ _=>k b u (hb b n) q,λb u q n _ _=>⟨u.slots,k b u (hb b n) q⟩,λb u q n _=>by rw [qaC (hx b n)];exact n,λb u q _=>?_,
  λb xs q=>by rw [qaC (hm b _ q λz=>z)];exact q,λb u xs q=>by rw [qaC (hm b _ q λz=>z)];exact q,λb ps q=>⟨#[],by rw [qaC (hm b _ q λz=>z),q];simp⟩⟩
 by_cases hbe:b=e
 ·subst hbe;exact heo
 ·exact ⟨u,k b u hbe q⟩
theorem Un.mono (u:Un fs ex H H1 h h1) (hs:∀ b∈fs,b∈fs') (hx:∀ b∈ex,b∈ex'):Un fs' ex' H H1 h h1:=
 ⟨λb ob q n hb he=>u.keep b ob q n (λz=>hb (hs b z)) λz=>he (hx b z),λ_ _ q n _ he=>u.any q n λz=>he (hx _ z),λb ob q n he=>u.free b ob q n λz=>he (hx b z),λb ob q he=>u.there b ob q λz=>he (hx b z),u.tups,u.frzs,u.tbls⟩
end
noncomputable def trk (h:Heap) (H:Hp):List Addr:=(List.range h.objs.size).filter λa=>(H a).isSome
noncomputable def qqz (h:Heap) (H:Hp):Heap:=PySem.W.hideAll h (trk h H)
theorem qn4 (h:Heap) (H:Hp):(qqz h H).objs.size=h.objs.size:=PySem.W.hideAll_size _ _
theorem qqD {h:Heap} {H:Hp} {b:Addr} {o:Obj} (e:h.get? b=some o) (n:H b=none):(qqz h H).get? b=some o:=
 PySem.W.hideAll_get _ e λhm=>by
  have q:(H b).isSome=true:=(List.mem_filter.mp hm).2
  rw [n] at q;simp at q
theorem qsm {h:Heap} {H:Hp} {b:Addr} {o:Obj} (e:(qqz h H).get? b=some o):h.get? b=some o/\H b=none:=by
 have e':h.get? b=some o:=PySem.W.of_hideAll (trk h H) e
 refine ⟨e',?_⟩
 cases q:H b with
 | none=>rfl
 | some x=>
   have hm:b∈trk h H:=List.mem_filter.mpr ⟨wbp.mpr (Heap.lt_size e'),by simp [q]⟩
   have z:(qqz h H).get? b=none:=PySem.W.hideAll_none (trk h H) hm
   rw [z] at e;cases e
noncomputable def qsn (g h:Heap) (L:Addr):List (Addr×Obj):=(List.range h.objs.size).filterMap λa=>if a=L\/(g.get? a).isSome=true then none else (h.get? a).map λo=>(a,o)
noncomputable def rest (g h:Heap) (L d:Addr):List (Addr×Obj):=(qsn g h L).filter λp=>decide (p.1≠d)
end L2
namespace L2
open PySem PySem.Spec PyProof.Rows
structure Mod (K:PySem.W.Frag) (mg:Str->Option Value) (base:Heap):Prop where
 kin:K.In base
 glob:base.Ns mainGlobals mg
 blt:∃ mb,base.Ns builtinsNs mb/\∀ x:Str,x ≠ "__name__" -> mb x=bootBuiltins x
 nolimit:base.NoLimit
structure Cx where
 prog:Program
 w:World
 K:PySem.W.Frag
 mg:Str->Option Value
 base:Heap
 A:Around
 N:List Str
 s₀:Shared
 H₀:Hp
 env:Env
 outer:List Env
 stack:List Env
 ex:List Addr
 fn:Str->Bool
 calm:Bool
 pn:List (Addr×Obj)
 xe:Value->Shared->Prop
noncomputable def frs (l:List Env):List Addr:=l.filterMap (·.frame)
noncomputable abbrev Cx.fs (X:Cx):List Addr:=frs X.outer
noncomputable def Vis (sc:Scope) (x:Str):Prop:=sc.names.lookup x=some .local\/sc.names.lookup x=some .cell\/sc.names.lookup x=some .free
noncomputable def Loc (sc:Scope) (x:Str):Prop:=sc.names.lookup x=some .local\/sc.names.lookup x=some .cell
noncomputable def Look (env:Env) (h:Heap) (m:Str->Option Value) (x:Str) (u:Value):Prop:=
 (env.kindOf x=some .local/\m x=some u)\/((env.kindOf x=some .cell\/env.kindOf x=some .free)/\∃ c,env.cells.lookup x=some c/\h.IsCell c (some u))
structure Cx.Ok (X:Cx):Prop where
 mod:Mod X.K X.mg X.base
 kind:X.env.scope.kind=.function
 glob:X.env.globals=mainGlobals
 blt:X.env.builtins=builtinsNs
 above:X.s₀.heap.objs.size<=X.env.locals
 inj:∀ x y c,X.env.cells.lookup x=some c->X.env.cells.lookup y=some c->x=y
 has:∀ x,(X.env.kindOf x=some .cell\/X.env.kindOf x=some .free)->∃ c,X.env.cells.lookup x=some c
 cab:∀ x c,X.fn x=true->X.env.cells.lookup x=some c->X.s₀.heap.objs.size<=c
 hd:X.calm=true->X.A.handled=none
 frames:X.A.frames=some X.stack
 stk:X.stack=X.outer\/(X.stack=X.env::X.outer/\X.env.frame=some X.env.locals)
 exf:∀ b∈X.ex,b≠X.env.locals/\∀ x c,X.env.cells.lookup x=some c->c≠b
 bs:∀ b o,X.base.get? b=some o->X.s₀.heap.get? b=some o/\X.H₀ b=none
 bsz:X.base.objs.size<=X.s₀.heap.objs.size
 noex:∀ b o,X.base.get? b=some o->b∉X.ex
 exfs:∀ b∈X.ex,b∉X.fs
 funs:X.s₀.heap.FunFrames X.base X.outer
 frf:∀ b∈X.fs,X.H₀ b=none
 seer:X.base.NoSeer
 tree:(model X.prog X.w).prog.given.tree=none
 plr:∀ s:Shared,(∀ b o,X.base.get? b=some o->s.heap.get? b=some o)->PySem.PylongRoom (model X.prog X.w) X.A s
structure Inv (X:Cx) (pins:List (Addr×Obj)) (σ:List (Option V)) (H:Hp) (s:Shared):Prop where
 ok:X.Ok
 os:s.os=X.s₀.os
 bare:AllBare s.gens
 base:Un X.fs X.ex X.H₀ H X.s₀.heap s.heap
 loc:∃ m,s.heap.Ns X.env.locals m/\∀ (i:Nat) (x:Str) (v:V),X.N[i]?=some x->σ[i]?=some (some v)->Vis X.env.scope x->∃ u,RelV v u/\Look X.env s.heap m x u
 cell:∀ x c,X.env.cells.lookup x=some c->∃ v,s.heap.IsCell c v
 free:H X.env.locals=none
 freeC:∀ x c,X.env.cells.lookup x=some c->H c=none
 pin:∀ p∈X.pn++pins,s.heap.get? p.1=some p.2/\H p.1=none/\p.1≠X.env.locals/\p.1∉X.fs/\∀ v,p.2.data≠.cell v
 hok:HOk X.prog X.w H s.heap
 len:σ.length=X.N.length
section
variable {X:Cx} {pins:List (Addr×Obj)} {σ:List (Option V)} {H H':Hp} {s:Shared} {h':Heap}
theorem Cx.Ok.nofr (ok:X.Ok) {b:Addr} {o:Obj} (e:X.base.get? b=some o):b∉X.fs:=λhb=>by
 have:=(ok.funs.mem hb).1
 rw [e] at this;cases this
theorem Inv.bs (I:Inv X pins σ H s):∀ b o,X.base.get? b=some o->s.heap.get? b=some o/\H b=none:=λb o e=>
 ⟨I.base.keep b o (I.ok.bs b o e).1 (I.ok.bs b o e).2 (I.ok.nofr e) (I.ok.noex b o e),I.base.free b o (I.ok.bs b o e).1 (I.ok.bs b o e).2 (I.ok.noex b o e)⟩
theorem Inv.bk (I:Inv X pins σ H s):∀ b o,X.base.get? b=some o->s.heap.get? b=some o:=λb o e=>(I.bs b o e).1
theorem Inv.mod (I:Inv X pins σ H s):Mod X.K X.mg X.base:=I.ok.mod
theorem Inv.kIn (I:Inv X pins σ H s):X.K.In s.heap:=I.ok.mod.kin.keeps I.bk
theorem Inv.nolimit (I:Inv X pins σ H s):s.heap.NoLimit:=I.ok.mod.nolimit.keeps I.bk
theorem Inv.fr (I:Inv X pins σ H s):∃ m,Fr X.base X.env.locals s.heap m:=
 let ⟨m,hn,_⟩:=I.loc
 ⟨m,hn,I.bk,wap I.ok.bsz I.ok.above⟩
theorem Inv.lt (I:Inv X pins σ H s):X.env.locals<s.heap.objs.size:=let ⟨_,hn,_⟩:=I.loc;hn.lt
theorem Inv.sz (I:Inv X pins σ H s):X.s₀.heap.objs.size<=s.heap.objs.size:=wap I.ok.above (wbt I.lt)
theorem Inv.nofs (I:Inv X pins σ H s) {a:Addr} (h:s.heap.objs.size<=a):a∉X.fs:=λhb=>by
 obtain ⟨_,o,ho,_⟩:=I.ok.funs.mem hb
 exact absurd (wau (Heap.lt_size ho) (wap I.sz h)) (wa6 _)
theorem Inv.cne (I:Inv X pins σ H s):∀ x c,X.env.cells.lookup x=some c->c≠X.env.locals:=λx c e z=>by
 obtain ⟨v,o,ho,hd⟩:=I.cell x c e
 obtain ⟨m,⟨o',es,ep,ho',hd',_⟩,_⟩:=I.loc
 rw [z,ho'] at ho;cases ho;rw [hd'] at hd;cases hd
theorem Inv.funs (I:Inv X pins σ H s):s.heap.FunFrames X.base X.outer:=by
 have all:∀ (l:List Env),(∀ b∈frs l,b∈X.fs)->X.s₀.heap.FunFrames X.base l->s.heap.FunFrames X.base l:=by
  intro l
  induction l with
  | nil=>intro _ _;trivial
  | cons env r ih=>
    intro hs hl
    obtain ⟨hk,⟨L,o,hf,hn,ho,hd⟩,hr⟩:=hl
    have hL:L∈X.fs:=hs L (by unfold frs;rw [List.filterMap_cons,hf];exact waq)
    obtain ⟨sl,e⟩:=I.base.slot L o ho (I.ok.frf L hL) hL λz=>I.ok.exfs L z hL
    exact ⟨hk,⟨L,_,hf,hn,e,hd⟩,ih (λb hb=>hs b (by unfold frs;rw [List.filterMap_cons,hf];exact wa5 _ hb)) hr⟩
 exact all X.outer (λ_ hb=>hb) I.ok.funs
theorem Inv.stack (I:Inv X pins σ H s):s.heap.FunFrames X.base X.stack:=by
 rcases I.ok.stk with e | ⟨e,hf⟩
 ·rw [e];exact I.funs
 ·rw [e]
  obtain ⟨m,hn,_⟩:=I.loc
  refine .cons (by rw [I.ok.kind];decide) hf hn ?_ I.funs
  exact Heap.get?_none_of_le (wap I.ok.bsz I.ok.above)
theorem Inv.stkSub (I:Inv X pins σ H s):∀ b∈frs X.stack,b∈X.env.locals::X.fs:=λb hb=>by
 rcases I.ok.stk with e | ⟨e,hf⟩
 ·rw [e] at hb;exact wa5 _ hb
 ·rw [e] at hb
  unfold frs at hb
  rw [List.filterMap_cons,hf] at hb
  exact hb
theorem Inv.stkFree (I:Inv X pins σ H s):∀ b∈frs X.stack,H b=none:=λb hb=>by
 rcases was.mp (I.stkSub b hb) with e | hb
 ·rw [e];exact I.free
 ·obtain ⟨_,o,ho,_⟩:=I.ok.funs.mem hb
  exact I.base.free b o ho (I.ok.frf b hb) λz=>I.ok.exfs b z hb
theorem Inv.step {g':Array GenState} {t':Nat} {d':Drawn} {ch:List Addr} (I:Inv X pins σ H s)
  (hch:∀ b∈ch,(b∈X.ex\/X.s₀.heap.objs.size<=b)/\b≠X.env.locals/\(∀ x c,X.env.cells.lookup x=some c->c≠b)/\∀ p∈X.pn++pins,p.1≠b)
  (keep:∀ b o,b≠X.env.locals->b∉X.fs->b∉ch->s.heap.get? b=some o->H b=none->h'.get? b=some o)
  (slot:∀ b o,b≠X.env.locals->b∈X.fs->b∉ch->s.heap.get? b=some o->H b=none->∃ sl,h'.get? b=some { o with slots:=sl }) (free:∀ b o,b∉ch->s.heap.get? b=some o->H b=none->H' b=none)
  (there:∀ b o,b∉ch->s.heap.get? b=some o->∃ o',h'.get? b=some o')
  (tups:∀ b xs,H b=some (.tup xs)->H' b=some (.tup xs)) (frzs:∀ b o u,H b=some (.frz o u)->H' b=some (.frz o u)) (tbls:∀ b ps,H b=some (.tbl ps)->∃ more,H' b=some (.tbl (ps++more)))
  (ns:∀ m,s.heap.Ns X.env.locals m->h'.Ns X.env.locals m) (hok:HOk X.prog X.w H' h') (hg:AllBare g') :
  Inv X pins σ H' { s with heap:=h',gens:=g',drawn:=d',toks:=t' }:=by
 have neL:∀ b o,X.s₀.heap.get? b=some o->b≠X.env.locals:=λb o e=>wao (wau (Heap.lt_size e) I.ok.above)
 have neC:∀ b o,X.s₀.heap.get? b=some o->b∉X.ex->b∉ch:=λb o e hx hb=>by
  rcases (hch b hb).1 with z | z
  ·exact hx z
  ·exact absurd (wau (Heap.lt_size e) z) (wa6 _)
 have cellK:∀ x c,X.env.cells.lookup x=some c->∀ v,s.heap.IsCell c v->h'.IsCell c v:=λx c e v ⟨o,ho,hd⟩=>by
  have nch:c∉ch:=λz=>(hch c z).2.2.1 x c e rfl
  by_cases hc:c∈X.fs
  ·obtain ⟨sl,q⟩:=slot c o (I.cne x c e) hc nch ho (I.freeC x c e)
   exact ⟨_,q,hd⟩
  ·exact ⟨o,keep c o (I.cne x c e) hc nch ho (I.freeC x c e),hd⟩
 refine ⟨I.ok,I.os,hg,⟨λb o e n hb hx=>?_,λb o e n hb hx=>?_,λb o e n hx=>?_,λb o e hx=>?_,λb xs e=>tups b xs (I.base.tups b xs e),λb o xs e=>frzs b o xs (I.base.frzs b o xs e),λb ps e=>?_⟩,?_,λx c e=>?_,?_,λx c e=>?_,λp hp=>?_,hok,I.len⟩
 ·exact keep b o (neL b o e) hb (neC b o e hx) (I.base.keep b o e n hb hx) (I.base.free b o e n hx)
 ·obtain ⟨sl,e1⟩:=I.base.slot b o e n hb hx
  obtain ⟨sl',e2⟩:=slot b _ (neL b o e) hb (neC b o e hx) e1 (I.base.free b o e n hx)
  exact ⟨sl',e2⟩
 ·obtain ⟨o',e1⟩:=I.base.there b o e hx
  exact free b o' (neC b o e hx) e1 (I.base.free b o e n hx)
 ·obtain ⟨o',e1⟩:=I.base.there b o e hx
  exact there b o' (neC b o e hx) e1
 ·obtain ⟨m1,e1⟩:=I.base.tbls b ps e
  obtain ⟨m2,e2⟩:=tbls b _ e1
  exact ⟨m1++m2,by rw [e2,Array.append_assoc]⟩
 ·obtain ⟨m,hn,hl⟩:=I.loc
  refine ⟨m,ns m hn,λi x v e1 e2 e3=>?_⟩
  obtain ⟨u,r,l⟩:=hl i x v e1 e2 e3
  refine ⟨u,r,?_⟩
  rcases l with l | ⟨k,c,e,z⟩
  ·exact .inl l
  ·exact .inr ⟨k,c,e,cellK x c e _ z⟩
 ·obtain ⟨v,z⟩:=I.cell x c e
  exact ⟨v,cellK x c e v z⟩
 ·obtain ⟨m,⟨o,_,_,ho,_⟩,_⟩:=I.loc
  exact free _ o (λz=>(hch _ z).2.1 rfl) ho I.free
 ·obtain ⟨v,o,ho,hd⟩:=I.cell x c e
  exact free c o (λz=>(hch c z).2.2.1 x c e rfl) ho (I.freeC x c e)
 ·obtain ⟨e,n,ne,nf,d⟩:=I.pin p hp
  have nch:p.1∉ch:=λz=>(hch p.1 z).2.2.2 p hp rfl
  exact ⟨keep p.1 p.2 ne nf nch e n,free p.1 p.2 nch e n,ne,nf,d⟩
theorem Inv.un {t':Nat} (I:Inv X pins σ H s) (u:Un X.fs [] H H' s.heap h') (hok:HOk X.prog X.w H' h'):Inv X pins σ H' { s with heap:=h',toks:=t' }:=by
 obtain ⟨m,⟨o,es,ep,ho,r⟩,_⟩:=id I.loc
 obtain ⟨sl,hL⟩:=u.any ho I.free (by simp)
 exact I.step (g':=s.gens) (d':=s.drawn) (ch:=[]) (λ_ z=>nomatch z) (λb o _ hb _ e n=>u.keep b o e n hb (by simp)) (λb o _ hb _ e n=>u.slot b o e n hb (by simp)) (λb o _ e n=>u.free b o e n (by simp)) (λb o _ e=>u.there b o e (by simp)) u.tups u.frzs u.tbls (λm' hm=>by
  obtain ⟨o',es',ep',ho',r'⟩:=hm
  rw [ho] at ho';cases ho'
  exact ⟨_,es',ep',hL,r'⟩) hok I.bare
theorem Inv.call {g':Array GenState} {t':Nat} {d':Drawn} {ch:List Addr} (I:Inv X pins σ H s) (u:Un (frs X.stack) ch H H' s.heap h') (hok:HOk X.prog X.w H' h') (hg:AllBare g')
  (hch:∀ b∈ch,(b∈X.ex\/X.s₀.heap.objs.size<=b)/\b≠X.env.locals/\(∀ x c,X.env.cells.lookup x=some c->c≠b)/\∀ p∈X.pn++pins,p.1≠b) :
  Inv X pins σ H' { s with heap:=h',gens:=g',drawn:=d',toks:=t' }:=by
 obtain ⟨m,⟨o,es,ep,ho,r⟩,_⟩:=id I.loc
 obtain ⟨sl,hL⟩:=u.any ho I.free λz=>(hch _ z).2.1 rfl
 exact I.step (ch:=ch) hch (λb o hL hb hc e n=>u.keep b o e n (λz=>(was.mp (I.stkSub b z)).elim hL hb) hc) (λb o _ _ hc e n=>u.any e n hc) (λb o hc e n=>u.free b o e n hc) (λb o hc e=>u.there b o e hc) u.tups u.frzs u.tbls (λm' hm=>by
  obtain ⟨o',es',ep',ho',r'⟩:=hm
  rw [ho] at ho';cases ho'
  exact ⟨_,es',ep',hL,r'⟩) hok hg
theorem Inv.turned {t':Nat} {it:Addr} (I:Inv X pins σ H s) (k:∀ b o,b≠it->s.heap.get? b=some o->h'.get? b=some o) (hn:H it=none) (hL:it≠X.env.locals)
  (h1:it∈X.ex\/X.s₀.heap.objs.size<=it) (h2:∀ x c,X.env.cells.lookup x=some c->c≠it) (h3:∀ p∈X.pn++pins,p.1≠it):Inv X pins σ H { s with heap:=h',toks:=t' }:=by
 have nit:∀ b u,H b=some u->b≠it:=λb u e z=>by rw [z,hn] at e;cases e
 refine I.step (g':=s.gens) (d':=s.drawn) (ch:=[it]) (λb hb=>?_) (λb o _ _ hc e _=>k b o (λz=>hc (by simp [z])) e) (λb o _ _ hc e _=>⟨o.slots,k b o (λz=>hc (by simp [z])) e⟩) (λ_ _ _ _ n=>n)
  (λb o hc e=>⟨o,k b o (λz=>hc (by simp [z])) e⟩) (λ_ _ e=>e) (λ_ _ _ e=>e) (λb ps e=>⟨#[],by rw [e];simp⟩) (λm hm=>?_) (λb u e=>?_) I.bare
 ·have e:b=it:=by simpa using hb
  subst e
  exact ⟨h1,hL,h2,h3⟩
 ·obtain ⟨o,es,ep,ho,r⟩:=hm
  exact ⟨o,es,ep,k _ o (Ne.symm hL) ho,r⟩
 ·refine (I.hok b u e).stay (λc v hc q=>k c v ?_ q) (λ_ q=>q) λ_ _ q=>q
  rcases hc with z | z
  ·rw [z];exact nit b u e
  ·exact nit c _ z
theorem Inv.tok (I:Inv X pins σ H s) (t:Nat):Inv X pins σ H { s with toks:=t }:=I.un (h':=s.heap) (t':=t) Un.refl I.hok
theorem Inv.kept {t':Nat} (I:Inv X pins σ H s) (k:∀ b u,s.heap.get? b=some u->h'.get? b=some u):Inv X pins σ H { s with heap:=h',toks:=t' }:=I.un (Un.kept k) (I.hok.kept k)
theorem Inv.laid {a:Addr} {o:HO} {t':Nat} (I:Inv X pins σ H s) (k:∀ b u,s.heap.get? b=some u->h'.get? b=some u) (hp:s.heap.objs.size<=a) (new:ObjOk X.prog X.w (upd H a o) h' a o) :
  Inv X pins σ (upd H a o) { s with heap:=h',toks:=t' }:=I.un (Un.laid k hp (I.hok.fresh hp)) (I.hok.laid k hp new)
theorem Inv.write {x e:Addr} {o:HO} {t':Nat} (I:Inv X pins σ H s) (mu:Mut (H x)) (he:e=x\/H e=some (.own x)) (k:∀ b u,b≠e->s.heap.get? b=some u->h'.get? b=some u) (heo:∃ u,h'.get? e=some u)
  (new:ObjOk X.prog X.w (upd H x o) h' x o):Inv X pins σ (upd H x o) { s with heap:=h',toks:=t' }:=I.un (Un.write mu he k heo) (I.hok.write mu he k heo new)
theorem Inv.pins_of {pins':List (Addr×Obj)} (I:Inv X pins σ H s) (h:∀ p∈pins',s.heap.get? p.1=some p.2/\H p.1=none/\p.1≠X.env.locals/\p.1∉X.fs/\∀ v,p.2.data≠.cell v):Inv X pins' σ H s:=
 ⟨I.ok,I.os,I.bare,I.base,I.loc,I.cell,I.free,I.freeC,λp hp=>(wa2.mp hp).elim (λz=>I.pin p (wbz _ z)) (h p),I.hok,I.len⟩
theorem qmD {N:List Str} (hN:N.Nodup) {i j:Nat} {x:Str} (a:N[i]?=some x) (b:N[j]?=some x):i=j:=by
 obtain ⟨h1,e1⟩:=wal.mp a
 obtain ⟨h2,e2⟩:=wal.mp b
 exact (List.getElem_inj hN).mp (e1.trans e2.symm)
theorem qky {M:Model} {A:Around} {E:Value->Shared->Prop} {i:Nat} {x:Str} {v:V} {u:Value} {Q:Unit->Shared->Prop} (I:Inv X pins σ H s) (hN:X.N.Nodup) (hi:X.N[i]?=some x) (hx:Loc X.env.scope x) (r:RelV v u)
  (h:∀ s',Inv X pins (σ.set i (some v)) H s'->(∃ a,Heap.SameBut a s.heap s'.heap/\(a=X.env.locals\/X.env.cells.lookup x=some a))->Q () s') (hf:X.fn x=true\/X.env.scope.names.lookup x=some .local:=by first | exact .inl rfl | exact .inr rfl | assumption):wpAny M A (storeName X.env x u) Q E s:=by
 obtain ⟨m,hn,hl⟩:=id I.loc
 have hcls:(X.env.scope.kind == .class || (X.env.scope.kind == .module && X.env.locals != X.env.globals))=false:=by rw [I.ok.kind];rfl
 have hiσ:i<σ.length:=by rw [I.len];exact (wal.mp hi).1
 have cne:=I.cne
 have tracked:∀ {a:Addr} {h':Heap},(∃ o,s.heap.get? a=some o/\H a=none)->Heap.SameBut a s.heap h'->HOk X.prog X.w H h':=λ{a h'} ha hs b ob e=>by
  obtain ⟨_,_,hfree⟩:=ha
  refine (I.hok b ob e).stay (λc w' hc q=>(hs.2 c ?_).trans q) (λ_ q=>q) λ_ _ q=>q
  rintro rfl
  rcases hc with rfl | hc
  ·rw [hfree] at e;cases e
  ·rw [hfree] at hc;cases hc
 rcases hx with hk | hk
 ·refine wpAny_storeName_local hk hn (λh' hn' hs=>?_) hcls
  obtain ⟨oL,_,_,hoL,_⟩:=id hn
  refine h _ ⟨I.ok,I.os,I.bare,⟨λb o e n hb hx=>?_,λb o e n hb hx=>?_,I.base.free,λb o e hx=>?_,I.base.tups,I.base.frzs,I.base.tbls⟩,⟨_,hn',λj y v' e1 e2 e3=>?_⟩,λy c e=>?_,I.free,I.freeC,λp hp=>?_,tracked ⟨oL,hoL,I.free⟩ hs,by simpa using I.len⟩ ⟨_,hs,.inl rfl⟩
  ·exact (hs.2 b (wao (wau (Heap.lt_size e) I.ok.above))).trans (I.base.keep b o e n hb hx)
  ·obtain ⟨sl,e1⟩:=I.base.slot b o e n hb hx
   exact ⟨sl,(hs.2 b (wao (wau (Heap.lt_size e) I.ok.above))).trans e1⟩
  ·obtain ⟨o',e1⟩:=I.base.there b o e hx
   exact ⟨o',(hs.2 b (wao (wau (Heap.lt_size e) I.ok.above))).trans e1⟩
  ·by_cases hj:j=i
   ·subst hj
    rw [hi] at e1;cases e1
    rw [List.getElem?_set_self hiσ] at e2
    cases e2
    exact ⟨u,r,.inl ⟨hk,by simp⟩⟩
   ·rw [List.getElem?_set_ne (Ne.symm hj)] at e2
    obtain ⟨u',r',q⟩:=hl j y v' e1 e2 e3
    refine ⟨u',r',?_⟩
    rcases q with ⟨k,e⟩ | ⟨k,c,e,z⟩
    ·refine .inl ⟨k,?_⟩
     have:y≠x:=λe=>hj (qmD hN e1 (e ▸ hi))
     simp [this,e]
    ·exact .inr ⟨k,c,e,z.sameBut hs (cne y c e)⟩
  ·obtain ⟨w',z⟩:=I.cell y c e
   exact ⟨w',z.sameBut hs (cne y c e)⟩
  ·obtain ⟨e,n,ne,nf,d⟩:=I.pin p hp
   exact ⟨(hs.2 p.1 ne).trans e,n,ne,nf,d⟩
 ·have hfn:X.fn x=true:=by
   rcases hf with z | z
   ·exact z
   ·rw [z] at hk;cases hk
  obtain ⟨c,hc⟩:=I.ok.has x (.inl hk)
  obtain ⟨w',z⟩:=I.cell x c hc
  refine wpAny_storeName_cell I.ok.kind hk hc z (λh' hc' hs=>?_)
  obtain ⟨oc,hoc,hocd⟩:=id z
  refine h { s with heap:=h' } ⟨I.ok,I.os,I.bare,⟨λb o e n hb hx=>?_,λb o e n hb hx=>?_,I.base.free,λb o e hx=>?_,I.base.tups,I.base.frzs,I.base.tbls⟩,⟨m,hn.sameBut hs (Ne.symm (cne x c hc)),λj y v' e1 e2 e3=>?_⟩,λy c' e=>?_,I.free,I.freeC,λp hp=>?_,tracked ⟨oc,hoc,I.freeC x c hc⟩ hs,by simpa using I.len⟩ ⟨c,hs,.inr hc⟩
  ·exact (hs.2 b (wao (wau (Heap.lt_size e) (I.ok.cab x c hfn hc)))).trans (I.base.keep b o e n hb hx)
  ·obtain ⟨sl,e1⟩:=I.base.slot b o e n hb hx
   exact ⟨sl,(hs.2 b (wao (wau (Heap.lt_size e) (I.ok.cab x c hfn hc)))).trans e1⟩
  ·obtain ⟨o',e1⟩:=I.base.there b o e hx
   exact ⟨o',(hs.2 b (wao (wau (Heap.lt_size e) (I.ok.cab x c hfn hc)))).trans e1⟩
  ·by_cases hj:j=i
   ·subst hj
    rw [hi] at e1;cases e1
    rw [List.getElem?_set_self hiσ] at e2
    cases e2
    exact ⟨u,r,.inr ⟨.inl hk,c,hc,hc'⟩⟩
   ·rw [List.getElem?_set_ne (Ne.symm hj)] at e2
    obtain ⟨u',r',q⟩:=hl j y v' e1 e2 e3
    refine ⟨u',r',?_⟩
    rcases q with q | ⟨k,c',e,z'⟩
    ·exact .inl q
    ·refine .inr ⟨k,c',e,z'.sameBut hs ?_⟩
     rintro rfl
     exact hj (qmD hN e1 (I.ok.inj _ _ _ e hc ▸ hi))
  ·by_cases hcc:c'=c
   ·subst hcc;exact ⟨_,hc'⟩
   ·obtain ⟨w2,z2⟩:=I.cell y c' e
    exact ⟨w2,z2.sameBut hs hcc⟩
  ·obtain ⟨e,n,ne,nf,d⟩:=I.pin p hp
   refine ⟨(hs.2 p.1 ?_).trans e,n,ne,nf,d⟩
   intro q
   rw [q,hoc] at e
   have q':oc=p.2:=Option.some.inj e
   exact d w' (by rw [<-q'];exact hocd)
theorem qff {M:Model} {A:Around} {E:Value->Shared->Prop} {i:Nat} {x:Str} {v:V} {u:Value} {Q:Unit->Shared->Prop} (I:Inv X pins σ H s) (hN:X.N.Nodup) (hi:X.N[i]?=some x) (hx:Loc X.env.scope x) (r:RelV v u)
  (h:∀ s',Inv X pins (σ.set i (some v)) H s'->Q () s') (hf:X.fn x=true\/X.env.scope.names.lookup x=some .local:=by first | exact .inl rfl | exact .inr rfl | assumption):wpAny M A (storeName X.env x u) Q E s:=
 qky I hN hi hx r (λs' I' _=>h s' I') hf
theorem Inv.call' {s':Shared} {ch:List Addr} (I:Inv X pins σ H s) (ho:s'.os=s.os) (u:Un (frs X.stack) ch H H' s.heap s'.heap) (hok:HOk X.prog X.w H' s'.heap) (hg:AllBare s'.gens)
  (hch:∀ b∈ch,(b∈X.ex\/X.s₀.heap.objs.size<=b)/\b≠X.env.locals/\(∀ x c,X.env.cells.lookup x=some c->c≠b)/\∀ p∈X.pn++pins,p.1≠b):Inv X pins σ H' s':=by
 obtain ⟨h',g',d',t',o'⟩:=s'
 have e:o'=s.os:=ho
 subst e
 exact I.call (g':=g') (t':=t') (d':=d') u hok hg hch
end
noncomputable abbrev XK:=Value->Option Addr->Hp->Prop
noncomputable abbrev St:=List (Option V)
noncomputable abbrev VK:=V->Hp->Prop
noncomputable abbrev TE:=St->Hp->VK->Prop
noncomputable abbrev TT:=St->Hp->(Bool->Hp->Prop)->Prop
noncomputable abbrev TA:=St->Hp->(List V->Hp->Prop)->Prop
structure Ends where
 nx:St->Hp->Prop
 rt:VK
 bk:St->Hp->Prop:=λ_ _=>False
 ct:St->Hp->Prop:=λ_ _=>False
noncomputable abbrev TS:=Ends->St->Hp->Prop
noncomputable def EP (X:Cx) (pins:List (Addr×Obj)) (σ:St) (Q:VK) (u:Value) (s':Shared):Prop:=∃ v H',Inv X pins σ H' s'/\RelV v u/\Q v H'
noncomputable def TP (X:Cx) (pins:List (Addr×Obj)) (σ:St) (Q:Bool->Hp->Prop) (b:Bool) (s':Shared):Prop:=∃ H',Inv X pins σ H' s'/\Q b H'
noncomputable def AP (X:Cx) (pins:List (Addr×Obj)) (σ:St) (Q:List V->Hp->Prop) (us:List Value) (s':Shared):Prop:=∃ vs H',Inv X pins σ H' s'/\Vals vs us/\Q vs H'
noncomputable def SP (X:Cx) (pins:List (Addr×Obj)) (D:Ends) (f:Flow) (s':Shared):Prop:=
 match f with
 | .next=>∃ σ' H',Inv X pins σ' H' s'/\D.nx σ' H'
 | .brk=>∃ σ' H',Inv X pins σ' H' s'/\D.bk σ' H'
 | .cont=>∃ σ' H',Inv X pins σ' H' s'/\D.ct σ' H'
 | .ret u=>∃ v σ' H',Inv X pins σ' H' s'/\RelV v u/\D.rt v H'
noncomputable def PE (X:Cx) (e:Expr) (t:TE):Prop:=
 ∀ (pins:List (Addr×Obj)) (s:Shared) (σ:St) (H:Hp) (Q:VK),Inv X pins σ H s->t σ H Q->wpAny (model X.prog X.w) X.A (eval e X.env) (EP X pins σ Q) X.xe s
noncomputable def PT (X:Cx) (e:Expr) (t:TT):Prop:=
 ∀ (pins:List (Addr×Obj)) (s:Shared) (σ:St) (H:Hp) (Q:Bool->Hp->Prop),Inv X pins σ H s->t σ H Q->wpAny (model X.prog X.w) X.A (isTrue e X.env (eval e X.env)) (TP X pins σ Q) X.xe s
noncomputable def PW (X:Cx) (e:Expr) (t:TT):Prop:=
 ∀ (whole:Sem Value) (pins:List (Addr×Obj)) (s:Shared) (σ:St) (H:Hp) (Q:Bool->Hp->Prop),Inv X pins σ H s->t σ H Q->wpAny (model X.prog X.w) X.A (isTrue e X.env whole) (TP X pins σ Q) X.xe s
theorem PW.pt {X:Cx} {e:Expr} {t:TT} (h:PW X e t):PT X e t:=h _
noncomputable def PA (X:Cx) (es:List Expr) (t:TA):Prop:=
 ∀ (pos:Pos) (pins:List (Addr×Obj)) (s:Shared) (σ:St) (H:Hp) (Q:List V->Hp->Prop),Inv X pins σ H s->t σ H Q->wpAny (model X.prog X.w) X.A (spliced (backTo pos (starEach es X.env))) (AP X pins σ Q) X.xe s
noncomputable def PS (X:Cx) (st:Stmt) (t:TS):Prop:=
 ∀ (pins:List (Addr×Obj)) (s:Shared) (σ:St) (H:Hp) (D:Ends),Inv X pins σ H s->t D σ H->wpAny (model X.prog X.w) X.A (exec st X.env) (SP X pins D) X.xe s
noncomputable def PSs (X:Cx) (st:List Stmt) (t:TS):Prop:=
 ∀ (pins:List (Addr×Obj)) (s:Shared) (σ:St) (H:Hp) (D:Ends),Inv X pins σ H s->t D σ H->wpAny (model X.prog X.w) X.A (execs st X.env) (SP X pins D) X.xe s
theorem thn {α:Type} {t:Sem α} {Q Q':α->Shared->Prop} {M:Model} {A:Around} {E:Value->Shared->Prop} {s:Shared} (h:wpAny M A t Q E s) (hQ:∀ a s,Q a s->Q' a s):wpAny M A t Q' E s:=wpAny_mono h hQ λ_ _ x=>x
end L2
namespace L2
open PySem PySem.Spec PyProof.Rows
section
variable {X:Cx}
noncomputable def qaf (i:Nat):TE:=λσ H Q=>∃ v,σ[i]?=some (some v)/\Q v H
noncomputable def tC (v:V):TE:=λ_ H Q=>Q v H
theorem qtV {i:Nat} {x:Str} {pos:Pos} (hN:X.N[i]?=some x) (hv:Vis X.env.scope x) (hd:(x == ("__debug__" : Str))=false:=by decide) (hcd:(x == ("__classdict__" : Str))=false:=by decide):PE X (.Name x pos) (qaf i):=by
 intro pins s σ H Q I h
 obtain ⟨v,e,h⟩:=h
 obtain ⟨m,hn,hl⟩:=I.loc
 obtain ⟨u,r,l⟩:=hl i x v hN e hv
 have fin:EP X pins σ Q u s:=⟨v,H,I,r,h⟩
 rcases l with ⟨hk,hm⟩ | ⟨hk,c,hc,hcell⟩
 ·exact wpAny_Name (wpAny_loadName_local I.ok.kind hk hn hm fin) hd
 ·rcases hk with hk | hk
  ·exact wpAny_Name (wpAny_loadName_cell I.ok.kind hk hc hcell fin) hd
  ·exact wpAny_Name (wpAny_loadName_free I.ok.kind hk hc hcell fin hcd) hd
theorem qad {i j pos}:PE X (.Constant (.int i) j pos) (tC (.int i)):=λ_ _ _ H _ I h=>wpAny_Constant_int ⟨.int i,H,I.tok _,⟨_,rfl⟩,h⟩
theorem qn5 {b j pos}:PE X (.Constant (.bool b) j pos) (tC (.bl b)):=λ_ _ _ H _ I h=>Constant_bool ⟨.bl b,H,I,rfl,h⟩
theorem qd7 {j pos}:PE X (.Constant .none j pos) (tC .non):=λ_ _ _ H _ I h=>Constant_none ⟨.non,H,I,rfl,h⟩
noncomputable def Gl (X:Cx) (x:Str):Prop:=X.env.kindOf x=some .globalImplicit
theorem qn6 {E:Value->Shared->Prop} {pins:List (Addr×Obj)} {s:Shared} {σ:St} {H:Hp} {x:Str} {u:Value} {pos:Pos} {Q:Value->Shared->Prop} (I:Inv X pins σ H s) (hg:Gl X x) (hm:X.mg x=some u) (h:Q u s)
  (hd:(x == ("__debug__" : Str))=false:=by decide):wpAny (model X.prog X.w) X.A (eval (.Name x pos) X.env) Q E s:=
 Calls.Name_function_global I.ok.kind hg (Calls.loadGlobal_global (by rw [I.ok.glob];exact I.mod.glob.keeps I.bk) hm h) hd
theorem qd8 {E:Value->Shared->Prop} {pins:List (Addr×Obj)} {s:Shared} {σ:St} {H:Hp} {x:Str} {u:Value} {pos:Pos} {Q:Value->Shared->Prop} (I:Inv X pins σ H s) (hg:Gl X x) (hm:X.mg x=none) (hv:bootBuiltins x=some u) (h:Q u s)
  (hn:x ≠ "__name__" := by decide) (hd:(x == ("__debug__" : Str))=false:=by decide):wpAny (model X.prog X.w) X.A (eval (.Name x pos) X.env) Q E s:=by
 obtain ⟨mb,h1,h2⟩:=I.mod.blt
 exact Calls.Name_function_global I.ok.kind hg (Calls.loadGlobal_builtin (by rw [I.ok.glob];exact I.mod.glob.keeps I.bk) hm (by rw [I.ok.blt];exact h1.keeps I.bk) ((h2 x hn).trans hv) h) hd
theorem qso {x:Str} {v:V} {u:Value} {pos:Pos} (hg:Gl X x) (hm:X.mg x=some u) (r:RelV v u) (hd:(x == ("__debug__" : Str))=false:=by decide):PE X (.Name x pos) (tC v):=
 λ_ _ _ H _ I h=>qn6 I hg hm ⟨v,H,I,r,h⟩ hd
theorem qjC {x:Str} {v:V} {u:Value} {pos:Pos} (hg:Gl X x) (hm:X.mg x=none) (hv:bootBuiltins x=some u) (r:RelV v u) (hn:x ≠ "__name__" := by decide) (hd:(x == ("__debug__" : Str))=false:=by decide):PE X (.Name x pos) (tC v):=
 λ_ _ _ H _ I h=>qd8 I hg hm hv ⟨v,H,I,r,h⟩ hn hd
variable {a b:Expr} {ta tb:TE} {pos:Pos}
noncomputable def tB (t:TE):TT:=λσ H Q=>t σ H λx H1=>∃ c,x=.bl c/\Q c H1
theorem qhn {e:Expr} {t:TE} (h:PE X e t) (he:∀ whole,isTrue e X.env whole=(do let v <-whole;standAt e.pos;holding [v] (truthy v)):=by intro _;rfl):PT X e (tB t):=by
 intro pins s σ H Q I hw
 refine isTrue_plain (thn (h pins s σ H _ I hw) λv s1 ⟨x,H1,I1,r1,q1⟩=>?_) (he _)
 obtain ⟨d,rfl,q⟩:=q1
 cases r1
 exact wpAny_truthy_bool ⟨H1,I1,q⟩
variable {tA tB':TT} {rest:List Expr}
noncomputable def qn7 (t u:TT):TT:=λσ H Q=>t σ H λc H1=>if c=true then u σ H1 Q else Q false H1
noncomputable def tOr (t u:TT):TT:=λσ H Q=>t σ H λc H1=>if c=true then Q true H1 else u σ H1 Q
noncomputable def qqA (t:TT):TT:=λσ H Q=>t σ H λc H1=>Q (!c) H1
theorem qeT (ha:PT X a tA):PW X (.BoolOp .And [a] pos) tA:=by
 intro wh pins s σ H Q I h
 refine isTrue_and (thn (ha pins s σ H Q I h) λc s1 e=>?_)
 cases c with
 | true=>exact isTrue_and_nil e
 | false=>exact e
theorem qkz (ha:PT X a tA):PW X (.BoolOp .Or [a] pos) tA:=by
 intro wh pins s σ H Q I h
 refine isTrue_or (thn (ha pins s σ H Q I h) λc s1 e=>?_)
 cases c with
 | false=>exact isTrue_or_nil e
 | true=>exact e
theorem qgw (ha:PT X a tA) (hb:PW X (.BoolOp .And (b::rest) pos) tB'):PW X (.BoolOp .And (a::b::rest) pos) (qn7 tA tB'):=by
 intro wh pins s σ H Q I h
 refine isTrue_and (thn (ha pins s σ H _ I h) λc s1 ⟨H1,I1,q1⟩=>?_)
 cases c with
 | true=>exact hb wh pins s1 σ H1 Q I1 q1
 | false=>exact ⟨H1,I1,q1⟩
theorem qns (ha:PT X a tA) (hb:PW X (.BoolOp .Or (b::rest) pos) tB'):PW X (.BoolOp .Or (a::b::rest) pos) (tOr tA tB'):=by
 intro wh pins s σ H Q I h
 refine isTrue_or (thn (ha pins s σ H _ I h) λc s1 ⟨H1,I1,q1⟩=>?_)
 cases c with
 | true=>exact ⟨H1,I1,q1⟩
 | false=>exact hb wh pins s1 σ H1 Q I1 q1
theorem qho (ha:PT X a tA):PT X (.UnaryOp .Not a pos) (qqA tA):=by
 intro pins s σ H Q I h
 exact isTrue_not (ha pins s σ H (λc H1=>Q (!c) H1) I h)
noncomputable def qn8 (ta tb:TE):TE:=λσ H Q=>ta σ H λx H1=>∃ c,x=.bl c/\if c=true then tb σ H1 Q else Q (.bl false) H1
noncomputable def qvT (ta tb:TE):TE:=λσ H Q=>ta σ H λx H1=>∃ c,x=.bl c/\if c=true then Q (.bl true) H1 else tb σ H1 Q
noncomputable def qqE (ta:TE):TE:=λσ H Q=>ta σ H λx H1=>∃ c,x=.bl c/\Q (.bl (!c)) H1
theorem qrB {op} {t:TE} (h:PE X a t):PE X (.BoolOp op [a] pos) t:=λpins s σ H Q I hw=>BoolOp_one (h pins s σ H Q I hw)
theorem qrC (ha:PE X a ta) (hb:PE X (.BoolOp .And (b::rest) pos) tb):PE X (.BoolOp .And (a::b::rest) pos) (qn8 ta tb):=by
 intro pins s σ H Q I h
 refine BoolOp_and (thn (ha pins s σ H _ I h) λv s1 ⟨x,H1,I1,r1,q1⟩=>?_)
 obtain ⟨c,rfl,q1⟩:=q1
 cases r1
 refine wpAny_truthy_bool ?_
 cases c with
 | true=>exact hb pins s1 σ H1 Q I1 q1
 | false=>exact ⟨.bl false,H1,I1,rfl,q1⟩
theorem qtW (ha:PE X a ta):PE X (.UnaryOp .Not a pos) (qqE ta):=by
 intro pins s σ H Q I h
 refine UnaryOp_ (thn (ha pins s σ H _ I h) λv s1 ⟨x,H1,I1,r1,q1⟩=>?_)
 obtain ⟨c,rfl,q1⟩:=q1
 cases r1
 exact not_of (wpAny_truthy_bool ⟨.bl (!c),H1,I1,rfl,q1⟩)
noncomputable def tIf (t:TT) (ta tb:TE):TE:=λσ H Q=>t σ H λc H1=>if c=true then ta σ H1 Q else tb σ H1 Q
theorem qjD {c:Expr} (hc:PT X c tA) (ha:PE X a ta) (hb:PE X b tb):PE X (.IfExp c a b pos) (tIf tA ta tb):=by
 intro pins s σ H Q I h
 refine wpAny_IfExp (thn (hc pins s σ H _ I h) λd s1 ⟨H1,I1,q1⟩=>?_)
 cases d with
 | true=>exact ha pins s1 σ H1 Q I1 q1
 | false=>exact hb pins s1 σ H1 Q I1 q1
end
end L2
namespace L2
open PySem PySem.Spec PyProof.Rows
noncomputable def SqL (K:PySem.W.Frag) (H:Hp) (a:Addr) (xs:List V):Prop:=
 Rd H a (.lst xs)\/
  ∃ (o:Obj) (its:Array Value) (n:Nat),K.lookup a=some o/\o.cls=.type "list" /\ o.dict=none/\o.data=.seq its n/\its.size<=sizeLine/\Vals xs its.toList
noncomputable def SqT (K:PySem.W.Frag) (H:Hp) (a:Addr) (xs:List V):Prop:=
 Rd H a (.tup xs)\/
  ∃ (o:Obj) (its:Array Value) (n:Nat),K.lookup a=some o/\o.cls=.type "tuple" /\ o.data=.seq its n/\its.size<=sizeLine/\Vals xs its.toList
noncomputable def qv8:Value->Option V
 | .none=>some .non
 | .bool b=>some (.bl b)
 | .int i _=>some (.int i)
 | .str x _=>some (.str x)
 | .bytes b _=>some (.byt b)
 | .float b _=>some (.flt b)
 | .ref a=>some (.ref a)
 | .type n=>some (.ty n)
 | _=>none
theorem RelV.abs {x:V} {u:Value} (r:RelV x u):qv8 u=some x:=by
 cases x with
 | non=>cases r;rfl
 | bl _=>cases r;rfl
 | int _=>obtain ⟨t,rfl⟩:=r;rfl
 | str _=>obtain ⟨t,rfl⟩:=r;rfl
 | byt _=>obtain ⟨t,rfl⟩:=r;rfl
 | flt _=>obtain ⟨t,rfl⟩:=r;rfl
 | ref _=>cases r;rfl
 | ty _=>cases r;rfl
theorem RelV.inj {x y:V} {u:Value} (r:RelV x u) (q:RelV y u):x=y:=Option.some.inj (r.abs.symm.trans q.abs)
theorem Vals.inj:∀ {xs ys:List V} {us:List Value},Vals xs us->Vals ys us->xs=ys
 | _,_,_,.nil,.nil=>rfl
 | _,_,_,.cons r t,.cons r' t'=>by rw [r.inj r',Vals.inj t t']
section
variable {X:Cx} {pins:List (Addr×Obj)} {σ:St} {H:Hp} {s:Shared} {a:Addr} {xs ys:List V}
theorem SqL.of {K:PySem.W.Frag} (h:H a=some (.lst xs)):SqL K H a xs:=.inl (.inl h)
theorem SqT.of {K:PySem.W.Frag} (h:H a=some (.tup xs)):SqT K H a xs:=.inl (.inl h)
theorem Inv.list (I:Inv X pins σ H s) (h:SqL X.K H a xs):∃ its:List Value,Vals xs its/\PlainL s.heap a its.toArray/\xs.length<=sizeLine:=by
 rcases h with h | ⟨o,its,n,hk,hc,hd,hs,hz,r⟩
 ·obtain ⟨z,its,n,r,e⟩:=h.ok I.hok
  exact ⟨its,r,⟨_,n,e,rfl,rfl,rfl⟩,z⟩
 ·refine ⟨its.toList,r,⟨o,n,I.kIn a o hk,hc,hd,by simpa using hs⟩,?_⟩
  have e:=r.length
  simp only [Array.length_toList] at e
  omega
theorem Inv.tuple (I:Inv X pins σ H s) (h:SqT X.K H a xs):∃ its:List Value,Vals xs its/\IsTup s.heap a its.toArray/\xs.length<=sizeLine:=by
 rcases h with h | ⟨o,its,n,hk,hc,hs,hz,r⟩
 ·obtain ⟨z,its,r,p⟩:=h.ok I.hok
  exact ⟨its,r,p,z⟩
 ·refine ⟨its.toList,r,⟨o,I.kIn a o hk,hc,n,by simpa using hs⟩,?_⟩
  have e:=r.length
  simp only [Array.length_toList] at e
  omega
theorem Inv.list_inj (I:Inv X pins σ H s) (h:SqL X.K H a xs) (h':SqL X.K H a ys):xs=ys:=by
 obtain ⟨its,r,⟨o,n,e,_,_,d⟩,_⟩:=I.list h
 obtain ⟨its',r',⟨o',n',e',_,_,d'⟩,_⟩:=I.list h'
 rw [e] at e';cases e'
 rw [d] at d'
 injection d' with d1 _
 have:its=its':=by simpa using congrArg Array.toList d1
 subst this
 exact r.inj r'
theorem Inv.tuple_inj (I:Inv X pins σ H s) (h:SqT X.K H a xs) (h':SqT X.K H a ys):xs=ys:=by
 obtain ⟨its,r,⟨o,e,_,n,d⟩,_⟩:=I.tuple h
 obtain ⟨its',r',⟨o',e',_,n',d'⟩,_⟩:=I.tuple h'
 rw [e] at e';cases e'
 rw [d] at d'
 injection d' with d1 _
 have:its=its':=by simpa using congrArg Array.toList d1
 subst this
 exact r.inj r'
end
noncomputable abbrev Cx.wish (X:Cx) (E:Value->Shared->Prop):Cx:={ X with xe:=E }
noncomputable abbrev Cx.nox (X:Cx):Cx:=X.wish λ_ _=>False
theorem Cx.Ok.wish {X:Cx} (ok:X.Ok) (E:Value->Shared->Prop):(X.wish E).Ok:=
 ⟨ok.mod,ok.kind,ok.glob,ok.blt,ok.above,ok.inj,ok.has,ok.cab,ok.hd,ok.frames,ok.stk,ok.exf,ok.bs,ok.bsz,ok.noex,ok.exfs,ok.funs,ok.frf,ok.seer,ok.tree,ok.plr⟩
theorem Cx.Ok.unwish {X:Cx} {E:Value->Shared->Prop} (ok:(X.wish E).Ok):X.Ok:=
 ⟨ok.mod,ok.kind,ok.glob,ok.blt,ok.above,ok.inj,ok.has,ok.cab,ok.hd,ok.frames,ok.stk,ok.exf,ok.bs,ok.bsz,ok.noex,ok.exfs,ok.funs,ok.frf,ok.seer,ok.tree,ok.plr⟩
section
variable {X:Cx} {pins:List (Addr×Obj)} {σ:St} {H:Hp} {s:Shared} {E:Value->Shared->Prop}
theorem Inv.wish (I:Inv X pins σ H s) (E:Value->Shared->Prop):Inv (X.wish E) pins σ H s:=⟨I.ok.wish E,I.os,I.bare,I.base,I.loc,I.cell,I.free,I.freeC,I.pin,I.hok,I.len⟩
theorem Inv.unwish (I:Inv (X.wish E) pins σ H s):Inv X pins σ H s:=⟨I.ok.unwish,I.os,I.bare,I.base,I.loc,I.cell,I.free,I.freeC,I.pin,I.hok,I.len⟩
theorem SP.unwish {D:Ends} {f:Flow} {s':Shared} (h:SP (X.wish E) pins D f s'):SP X pins D f s':=by
 cases f with
 | next=>obtain ⟨σ',H',I,q⟩:=h;exact ⟨σ',H',I.unwish,q⟩
 | brk=>obtain ⟨σ',H',I,q⟩:=h;exact ⟨σ',H',I.unwish,q⟩
 | cont=>obtain ⟨σ',H',I,q⟩:=h;exact ⟨σ',H',I.unwish,q⟩
 | ret u=>obtain ⟨v,σ',H',I,r,q⟩:=h;exact ⟨v,σ',H',I.unwish,r,q⟩
theorem PE.nox {e:Expr} {t:TE} (h:PE X.nox e t):PE X e t:=λpins s σ H Q I hw=>
 wpAny_mono (h pins s σ H Q (I.wish _) hw) (λ_ _ ⟨v,H',I',r,q⟩=>⟨v,H',I'.unwish,r,q⟩) λ_ _ z=>False.elim z
theorem PT.nox {e:Expr} {t:TT} (h:PT X.nox e t):PT X e t:=λpins s σ H Q I hw=>
 wpAny_mono (h pins s σ H Q (I.wish _) hw) (λ_ _ ⟨H',I',q⟩=>⟨H',I'.unwish,q⟩) λ_ _ z=>False.elim z
theorem PSs.nox {st:List Stmt} {t:TS} (h:PSs X.nox st t):PSs X st t:=λpins s σ H D I hw=>
 wpAny_mono (h pins s σ H D (I.wish _) hw) (λ_ _ q=>q.unwish) λ_ _ z=>False.elim z
end
section
variable {X:Cx} {st:Stmt} {rest:List Stmt} {t u:TS} {e:Expr} {te:TE} {pos:Pos}
noncomputable def qbp:TS:=λD σ H=>D.nx σ H
noncomputable def qaD (t u:TS):TS:=λD σ H=>t { D with nx:=u D } σ H
theorem qaL:PSs X [] qbp:=λ_ _ σ H _ I h=>wpAny_execs_nil ⟨σ,H,I,h⟩
theorem qac (h1:PS X st t) (h2:PSs X rest u):PSs X (st::rest) (qaD t u):=by
 intro pins s σ H D I h
 refine wpAny_execs_cons (thn (h1 pins s σ H { D with nx:=u D } I h) λf s1 q=>?_)
 cases f with
 | next=>
   obtain ⟨σ',H',I',q⟩:=q
   exact h2 pins s1 σ' H' D I' q
 | ret v=>exact q
 | brk=>exact q
 | cont=>exact q
theorem qai (h1:PS X st t):PSs X [st] t:=by
 intro pins s σ H D I h
 refine wpAny_execs_cons (thn (h1 pins s σ H D I h) λf s1 q=>?_)
 cases f with
 | next=>exact wpAny_execs_nil q
 | ret v=>exact q
 | brk=>exact q
 | cont=>exact q
theorem Inv.quiet {pins:List (Addr×Obj)} {σ:St} {H:Hp} {s:Shared} (I:Inv X pins σ H s):interactive X.env=false:=by simp [interactive,I.ok.kind]
noncomputable def qeG (te:TE):TS:=λD σ H=>te σ H λ_ H1=>D.nx σ H1
theorem qcU (he:PE X e te) (hs:swapsWith e none pos.line X.env=pure false:=by rfl):PS X (.Expr e pos) (qeG te):=by
 intro pins s σ H D I h
 exact wpAny_Expr_any (thn (he pins s σ H _ I h) λv s1 ⟨x,H1,I1,r1,q1⟩=>⟨σ,H1,I1,q1⟩) I.quiet hs
noncomputable def qbB (te:TE):TS:=λD σ H=>te σ H D.rt
theorem qaB (he:PE X e te):PS X (.Return (some e) pos) (qbB te):=by
 intro pins s σ H D I h
 exact wpAny_Return_some (thn (he pins s σ H _ I h) λv s1 ⟨x,H1,I1,r1,q1⟩=>⟨x,σ,H1,I1,r1,q1⟩)
noncomputable def qdq (c:TT) (t u:TS):TS:=λD σ H=>c σ H λb H1=>if b=true then t D σ H1 else u D σ H1
theorem qbC {c:Expr} {a b:List Stmt} {tc:TT} (hc:PT X c tc) (ha:PSs X a t) (hb:PSs X b u):PS X (.If c a b pos) (qdq tc t u):=by
 intro pins s σ H D I h
 refine wpAny_If (thn (hc pins s σ H _ I h) λd s1 ⟨H1,I1,q1⟩=>?_)
 cases d with
 | true=>exact ha pins s1 σ H1 D I1 q1
 | false=>exact hb pins s1 σ H1 D I1 q1
end
noncomputable abbrev TG:=V->St->Hp->(St->Hp->Prop)->Prop
noncomputable abbrev TGs:=List V->St->Hp->(St->Hp->Prop)->Prop
noncomputable def PG (X:Cx) (target:Expr) (t:TG):Prop:=
 ∀ (pins:List (Addr×Obj)) (s:Shared) (σ:St) (H:Hp) (v:V) (u:Value) (Q:St->Hp->Prop),Inv X pins σ H s->RelV v u->t v σ H Q->
   wpAny (model X.prog X.w) X.A (assign target X.env u) (λ_ s'=>∃ σ' H',Inv X pins σ' H' s'/\Q σ' H') X.xe s
noncomputable def PGs (X:Cx) (ts:List Expr) (t:TGs):Prop:=
 ∀ (pins:List (Addr×Obj)) (s:Shared) (σ:St) (H:Hp) (vs:List V) (us:List Value) (Q:St->Hp->Prop),Inv X pins σ H s->Vals vs us->t vs σ H Q->
   wpAny (model X.prog X.w) X.A (assignInOrder ((assignEach ts X.env).map (·.2)) us) (λ_ s'=>∃ σ' H',Inv X pins σ' H' s'/\Q σ' H') X.xe s
noncomputable abbrev TSet:=V->V->V->Hp->(Hp->Prop)->Prop
noncomputable def PSet (X:Cx) (t:TSet):Prop:=
 ∀ (pins:List (Addr×Obj)) (s:Shared) (σ:St) (H:Hp) (o i v:V) (ov iv u:Value) (Q:Hp->Prop),Inv X pins σ H s->RelV o ov->RelV i iv->RelV v u->t o i v H Q->
   wpAny (model X.prog X.w) X.A (setItem ov iv u) (λ_ s'=>∃ H',Inv X pins σ H' s'/\Q H') X.xe s
noncomputable abbrev TIp:=V->V->Hp->VK->Prop
noncomputable def PIp (X:Cx) (op:Operator) (t:TIp):Prop:=
 ∀ (pins:List (Addr×Obj)) (s:Shared) (σ:St) (H:Hp) (x y:V) (v u:Value) (Q:VK),Inv X pins σ H s->RelV x v->RelV y u->t x y H Q->
   wpAny (model X.prog X.w) X.A (inplaceOp op v u) (EP X pins σ Q) X.xe s
section
variable {X:Cx} {pos:Pos}
noncomputable def qak (i:Nat):TG:=λv σ H Q=>Q (σ.set i (some v)) H
theorem qaA {i:Nat} {x:Str} (hN:X.N.Nodup) (hi:X.N[i]?=some x) (hx:Loc X.env.scope x) (hf:X.fn x=true\/X.env.scope.names.lookup x=some .local:=by first | exact .inl rfl | exact .inr rfl | assumption):PG X (.Name x pos) (qak i):=by
 intro pins s σ H v u Q I r h
 exact wpAny_assign_Name (qff I hN hi hx r (λs' I'=>⟨_,H,I',h⟩) hf)
noncomputable def qn9:TGs:=λvs σ H Q=>vs=[]/\Q σ H
noncomputable def qdJ (t:TG) (u:TGs):TGs:=λvs σ H Q=>∃ v r,vs=v::r/\t v σ H λσ' H'=>u r σ' H' Q
theorem qd9:PGs X [] qn9:=by
 intro pins s σ H vs us Q I r h
 obtain ⟨e,h⟩:=h
 subst e
 cases r
 exact assignInOrder_nil ⟨σ,H,I,h⟩
theorem qbn {e:Expr} {es:List Expr} {t:TG} {u:TGs} (h1:PG X e t) (h2:PGs X es u)
  (hs:(assignEach (e::es) X.env).map (·.2)=assign e X.env::(assignEach es X.env).map (·.2):=by rfl):PGs X (e::es) (qdJ t u):=by
 intro pins s σ H vs us Q I r h
 obtain ⟨v,vr,e1,h⟩:=h
 subst e1
 cases r with
 | cons r rr=>
   rw [hs]
   refine assignInOrder_cons (thn (h1 pins s σ H _ _ _ I r h) λ_ s1 ⟨σ1,H1,I1,q1⟩=>?_)
   exact h2 pins s1 σ1 H1 _ _ Q I1 rr q1
noncomputable def qv9 (K:PySem.W.Frag) (n:Nat) (t:TGs):TG:=λv σ H Q=>∃ a xs,v=.ref a/\SqT K H a xs/\xs.length=n/\t xs σ H Q
theorem qtX {es:List Expr} {k:Nat} {t:TGs} {n:Nat} (hc:X.calm=true) (h:PGs X es t)
  (hn:(assignEach es X.env).length=n:=by rfl) (hst:(assignEach es X.env).findIdx? (·.1)=none:=by rfl):PG X (.Tuple es k pos) (qv9 X.K n t):=by
 intro pins s σ H v u Q I r hw
 obtain ⟨a,xs,e1,hq,hl,hw⟩:=hw
 subst e1
 cases r
 obtain ⟨its,rv,ht,hz⟩:=I.tuple hq
 refine assign_Tuple_tuple (I.ok.hd hc) ht (by simp [hn,<-hl,rv.length]) hst λh' hx=>?_
 have I1:Inv X pins σ H { s with heap:=h' }:=I.kept (t':=s.toks) λb o e=>hx b o (wao (Heap.lt_size e)) e
 exact h pins _ σ H xs _ Q I1 (by simpa using rv) hw
noncomputable def qqB (to ti:TE) (t:TSet):TG:=λv σ H Q=>to σ H λo H1=>ti σ H1 λi H2=>t o i v H2 λH3=>Q σ H3
theorem qhp {o i:Expr} {to ti:TE} {t:TSet} (ho:PE X o to) (hi:PE X i ti) (hs:PSet X t)
  (ha:∀ v,assign (.Subscript o i pos) X.env v=(do
   let ov <-holding [v] (eval o X.env)
   let iv <-holding [v,ov] (eval i X.env)
   standAt pos
   holding [v,ov,iv] (setItem ov iv v)
   release [v,ov,iv] []):=by intro _;rfl):PG X (.Subscript o i pos) (qqB to ti t):=by
 intro pins s σ H v u Q I r h
 rw [ha]
 refine wpAny_bind (wpAny_holding (thn (ho pins s σ H _ I h) λov s1 ⟨x,H1,I1,r1,q1⟩=>?_))
 refine wpAny_bind (wpAny_holding (thn (hi pins s1 σ H1 _ I1 q1) λiv s2 ⟨y,H2,I2,r2,q2⟩=>?_))
 refine wpAny_bind (wpAny_standAt (wpAny_bind (wpAny_holding (thn (hs pins s2 σ H2 x y v ov iv u _ I2 r1 r2 r q2) λ_ s3 ⟨H3,I3,q3⟩=>?_))))
 exact wpAny_release ⟨σ,H3,I3,q3⟩
noncomputable def qaJ (te:TE) (g:TG):TS:=λD σ H=>te σ H λx H1=>g x σ H1 D.nx
theorem qhq {tg e:Expr} {te:TE} {g:TG} (he:PE X e te) (hg:PG X tg g) (hs:swapsWithSole [tg] e pos.line X.env=pure false:=by rfl) (hw:swappedStores [tg] e X.env=pure none:=by rfl)
  (h1:(assignEach [tg] X.env).map (·.2)=[assign tg X.env]:=by rfl):PS X (.Assign [tg] e pos) (qaJ te g):=by
 intro pins s σ H D I h
 refine wpAny_Assign_stores (thn (he pins s σ H _ I h) λv s1 ⟨x,H1,I1,r1,q1⟩=>?_) hs hw
 rw [h1]
 exact thn (hg pins s1 σ H1 x v _ I1 r1 q1) λ_ s2 q=>q
theorem qaj {i:Nat} {x:Str} {e:Expr} {te:TE} {pos':Pos} (hN:X.N.Nodup) (hi:X.N[i]?=some x) (hx:Loc X.env.scope x) (he:PE X e te) (hs:swapsWith e (some (.Name x pos')) pos.line X.env=pure false:=by rfl) (hf:X.fn x=true\/X.env.scope.names.lookup x=some .local:=by first | exact .inl rfl | exact .inr rfl | assumption) :
  PS X (.Assign [.Name x pos'] e pos) (qaJ te (qak i)):=by
 intro pins s σ H D I h
 refine wpAny_Assign_Name (thn (he pins s σ H _ I h) λv s1 ⟨y,H1,I1,r1,q1⟩=>?_) hs
 exact qff I1 hN hi hx r1 (λs2 I2=>⟨_,H1,I2,q1⟩) hf
noncomputable def qtY (i j:Nat) (ta:TA):TS:=λD σ H=>ta σ H λvs H1=>∃ v w,vs=[v,w]/\D.nx ((σ.set i (some v)).set j (some w)) H1
theorem qrD {i j:Nat} {x y:Str} {a b:Expr} {ta:TA} {px py pt:Pos} {kt k2 pt2} (hc:X.calm=true) (hN:X.N.Nodup) (hi:X.N[i]?=some x) (hj:X.N[j]?=some y) (hij:i≠j)
  (hx:X.env.scope.names.lookup x=some .local) (hy:X.env.scope.names.lookup y=some .local) (ha:PA X [a,b] ta)
  (hw:swappedStores [.Tuple [.Name x px,.Name y py] kt pt] (.Tuple [a,b] k2 pt2) X.env=pure (some [x,y]))
  (hs:swapsWithSole [.Tuple [.Name x px,.Name y py] kt pt] (.Tuple [a,b] k2 pt2) pos.line X.env=pure false:=by rfl) :
  PS X (.Assign [.Tuple [.Name x px,.Name y py] kt pt] (.Tuple [a,b] k2 pt2) pos) (qtY i j ta):=by
 intro pins s σ H D I h
 rw [exec_Assign_arm]
 refine wpAny_bind (wpAny_standAt ?_)
 rw [hs]
 refine wpAny_bind (wpAny_pure ?_)
 rw [if_neg ∅]
 refine wpAny_bind (Tuple_ (thn (ha _ pins s σ H _ I h) λus s1 ⟨vs,H1,I1,r1,q1⟩=>?_))
 obtain ⟨v,w,e1,q1⟩:=q1
 subst e1
 obtain ⟨u1,u2,rfl,rv,rw'⟩:∃ u1 u2,us=[u1,u2]/\RelV v u1/\RelV w u2:=by
  cases r1 with
  | cons p q=>
    cases q with
    | cons p' q'=>
      cases q'
      exact ⟨_,_,rfl,p,p'⟩
 refine wpAny_newObj_type ?_ (by show 2<=sizeLine;decide)
 have I2:Inv X pins σ H1 { s1 with heap:=s1.heap.push { cls:=.type "tuple", data:=.seq [u1,u2].toArray } }:=I1.kept (t':=s1.toks) λb o e=>Heap.get?_push_of_some _ e
 rw [hw]
 refine wpAny_bind (wpAny_pure ?_)
 show wpAny (model X.prog X.w) X.A (do rule "assign.swapped-stores"; let items <-unpackItems (.ref s1.heap.objs.size) 2 none;assignInOrder [λv=>bindName X.env y v,λv=>bindName X.env x v] items.reverse;pure Flow.next) _ _ _
 refine wpAny_bind (wpAny_rule (wpAny_bind (unpackItems_tuple (items:=#[u1,u2]) (I.ok.hd hc) (IsTup.new s1.heap _) λh' hx'=>?_)))
 have I3:=I2.kept (h':=h') (t':=s1.toks) λb o e=>hx' b o (wao (Heap.lt_size e)) e
 show wpAny _ _ (assignInOrder [λv=>bindName X.env y v,λv=>bindName X.env x v] [u2,u1] >>= λ_=>pure Flow.next) _ _ _
 refine wpAny_bind (assignInOrder_cons (wpAny_bindName (qff I3 hN hj (.inl hy) rw' (λs2 I4=>?_) (.inr hy))))
 refine assignInOrder_cons (wpAny_bindName (qff I4 hN hi (.inl hx) rv (λs3 I5=>assignInOrder_nil (wpAny_pure ?_)) (.inr hx)))
 rw [List.set_comm _ _ (Ne.symm hij)] at I5
 exact ⟨_,H1,I5,q1⟩
noncomputable def qn2 (i:Nat) (te:TE) (ti:TIp):TS:=λD σ H=>∃ x,σ[i]?=some (some x)/\te σ H λy H1=>ti x y H1 λz H2=>D.nx (σ.set i (some z)) H2
theorem qfg {i:Nat} {x:Str} {e:Expr} {te:TE} {op:Operator} {ti:TIp} {pos':Pos} (hN:X.N.Nodup) (hi:X.N[i]?=some x) (hx:Loc X.env.scope x) (he:PE X e te) (ho:PIp X op ti) (hf:X.fn x=true\/X.env.scope.names.lookup x=some .local:=by first | exact .inl rfl | exact .inr rfl | assumption) :
  PS X (.AugAssign (.Name x pos') op e pos) (qn2 i te ti):=by
 intro pins s σ H D I h
 obtain ⟨v,e1,h⟩:=h
 obtain ⟨m,hn,hl⟩:=I.loc
 have vis:Vis X.env.scope x:=by rcases hx with k | k;exact .inl k;exact .inr (.inl k)
 obtain ⟨u,r,l⟩:=hl i x v hi e1 vis
 refine wpAny_AugAssign_Name ?_
 have go:wpAny (model X.prog X.w) X.A (eval e X.env) (λw s₂=>wpAny (model X.prog X.w) X.A (inplaceOp op u w) (λr s₃=>wpAny (model X.prog X.w) X.A (storeName X.env x r) (λ_=>SP X pins D .next) X.xe s₃) X.xe s₂) X.xe s:=by
  refine thn (he pins s σ H _ I h) λw s1 ⟨y,H1,I1,r1,q1⟩=>?_
  refine thn (ho pins s1 σ H1 v y u w _ I1 r r1 q1) λz s2 ⟨zv,H2,I2,r2,q2⟩=>?_
  exact qff I2 hN hi hx r2 (λs3 I3=>⟨_,H2,I3,q2⟩) hf
 rcases l with ⟨hk,hm⟩ | ⟨hk,c,hc,hcell⟩
 ·exact wpAny_loadName_local I.ok.kind hk hn hm go
 ·rcases hk with hk | hk
  ·exact wpAny_loadName_cell I.ok.kind hk hc hcell go
  ·rcases hx with k | k
   ·have:X.env.scope.names.lookup x=some .free:=hk
    rw [k] at this;cases this
   ·have:X.env.scope.names.lookup x=some .free:=hk
    rw [k] at this;cases this
noncomputable def qkA (to ti te:TE) (tget:V->V->Hp->VK->Prop) (tip:TIp) (tset:TSet):TS:=λD σ H=>to σ H λo H1=>ti σ H1 λi H2=>tget o i H2 λx H3=>te σ H3 λy H4=>tip x y H4 λz H5=>tset o i z H5 λH6=>D.nx σ H6
noncomputable def PGet (X:Cx) (t:V->V->Hp->VK->Prop):Prop:=
 ∀ (pins:List (Addr×Obj)) (s:Shared) (σ:St) (H:Hp) (o i:V) (ov iv:Value) (Q:VK),Inv X pins σ H s->RelV o ov->RelV i iv->t o i H Q->
   wpAny (model X.prog X.w) X.A (getItem ov iv) (EP X pins σ Q) X.xe s
theorem qhr {o i e:Expr} {to ti te:TE} {tget:V->V->Hp->VK->Prop} {tip:TIp} {tset:TSet} {op:Operator} {tpos:Pos} (ho:PE X o to) (hi:PE X i ti) (hg:PGet X tget) (he:PE X e te) (hp:PIp X op tip) (hs:PSet X tset)
  (ha:∀ ov iv new,augStore i ov iv new=(do holding [new,ov,iv] (setItem ov iv new);release [new,ov,iv] [];pure .next):=by intros;rfl):PS X (.AugAssign (.Subscript o i tpos) op e pos) (qkA to ti te tget tip tset):=by
 intro pins s σ H D I h
 refine wpAny_AugAssign_SubscriptAny (thn (ho pins s σ H _ I h) λov s1 ⟨x1,H1,I1,r1,q1⟩=>?_) ha
 refine thn (hi pins s1 σ H1 _ I1 q1) λiv s2 ⟨x2,H2,I2,r2,q2⟩=>?_
 refine thn (hg pins s2 σ H2 x1 x2 ov iv _ I2 r1 r2 q2) λold s3 ⟨x3,H3,I3,r3,q3⟩=>?_
 refine thn (he pins s3 σ H3 _ I3 q3) λv s4 ⟨x4,H4,I4,r4,q4⟩=>?_
 refine thn (hp pins s4 σ H4 x3 x4 old v _ I4 r3 r4 q4) λnew s5 ⟨x5,H5,I5,r5,q5⟩=>?_
 exact thn (hs pins s5 σ H5 x1 x2 x5 ov iv new _ I5 r1 r2 r5 q5) λ_ s6 ⟨H6,I6,q6⟩=>⟨σ,H6,I6,q6⟩
end
section
variable {X:Cx} {pos:Pos}
noncomputable def qb9 (c:TT) (tb:TS):TS:=λD σ H=>∃ W:Nat->St->Hp->Prop,(∃ m,W m σ H)/\∀ m σ H,W m σ H->
 c σ H λb H1=>if b=true then ∃ N:St->Hp->Prop,(∀ σ' H',N σ' H'->∃ m',m'<m/\W m' σ' H')/\tb { D with nx:=N,ct:=N,bk:=D.nx } σ H1 else D.nx σ H1
theorem qbx {c:Expr} {body:List Stmt} {tc:TT} {tb:TS} (hp:PassesOwn (model X.prog X.w) X.A X.env X.xe) (hc:PT X c tc) (hb:PSs X body tb):PS X (.While c body [] pos) (qb9 tc tb):=by
 intro pins s σ H D I h
 obtain ⟨W,⟨m0,w0⟩,turn⟩:=h
 refine wpAny_While (codeAny_whileLoop (λn s'=>∃ σ' H',Inv X pins σ' H' s'/\W n σ' H') ?_ m0 ⟨σ,H,I,w0⟩)
 rintro n s1 ⟨σ1,H1,I1,w1⟩
 refine wpAny_passesOwn hp (thn (hc pins s1 σ1 H1 _ I1 (turn n σ1 H1 w1)) λb s2 ⟨H2,I2,q2⟩=>?_)
 cases b with
 | true=>
   obtain ⟨N,hN,q2⟩:=q2
   rw [if_pos rfl]
   refine wpAny_passesOwn hp (thn (hb pins s2 σ1 H2 _ I2 q2) λf s3 q3=>?_)
   cases f with
   | next=>
     obtain ⟨σ3,H3,I3,n3⟩:=q3
     obtain ⟨m',hm,w3⟩:=hN σ3 H3 n3
     exact ⟨m',hm,σ3,H3,I3,w3⟩
   | cont=>
     obtain ⟨σ3,H3,I3,n3⟩:=q3
     obtain ⟨m',hm,w3⟩:=hN σ3 H3 n3
     exact ⟨m',hm,σ3,H3,I3,w3⟩
   | brk=>exact q3
   | ret v=>exact q3
 | false=>
   rw [if_neg wbg]
   exact wpAny_execs_nil ⟨σ1,H2,I2,q2⟩
end
structure It where
 go:Nat->Hp->Prop
 yld:Nat->Hp->V->Hp->Prop
 stop:Nat->Hp->Prop
noncomputable def qlO (X:Cx) (pins:List (Addr×Obj)) (H:Hp) (b:Addr):Prop:=
 H b=none/\b≠X.env.locals/\b∉X.fs/\(b∈X.ex\/X.s₀.heap.objs.size<=b)/\(∀ x c,X.env.cells.lookup x=some c->c≠b)/\∀ p∈X.pn++pins,p.1≠b
theorem Inv.fpOk {X:Cx} {pins:List (Addr×Obj)} {σ:St} {H H':Hp} {s:Shared} {b:Addr} (I:Inv X pins σ H s) (hb:s.heap.objs.size<=b) (hn:H' b=none):qlO X pins H' b:=by
 refine ⟨hn,Nat.ne_of_gt (wau I.lt hb),I.nofs hb,.inr (wap I.sz hb),λx c e z=>?_,λp hp z=>?_⟩
 ·obtain ⟨v,q⟩:=I.cell x c e
  exact absurd (wau q.lt (by rw [z];exact hb)) (wa6 _)
 ·exact absurd (wau (Heap.lt_size (I.pin p hp).1) (by rw [z];exact hb)) (wa6 _)
structure Turn (P:Program) (w:World) (K:PySem.W.Frag) (tg:Expr) (J:It) (fp:List Addr) (it:Addr) (tn:Nat->Heap->Prop):Prop where
 mem:it∈fp
 obj:∀ i h,tn i h->∀ b∈fp,∃ o,h.get? b=some o/\∀ v,o.data≠.cell v
 keep:∀ i h h',tn i h->(∀ b∈fp,∀ o,h.get? b=some o->h'.get? b=some o)->tn i h'
 item:∀ (X:Cx),X.prog=P->X.w=w->X.K=K->X.calm=true->∀ (i:Nat) (pins:List (Addr×Obj)) (s:Shared) (σ:St) (H:Hp) (E:Value->Shared->Prop),Inv X pins σ H s->(∀ b∈fp,qlO X pins H b)->tn i s.heap->J.go i H->
  wpAny (model P w) X.A (pyNext (.ref it)) (λr s1=>∃ u,r=some u/\
   wpAny (model P w) X.A (letOwnedTupleGo tg (.ref it) u) (λ_ s2=>∃ x H',Inv X pins σ H' s2/\RelV x u/\J.yld i H x H'/\tn (i+1) s2.heap/\∀ b∈fp,H' b=none) E s1) E s
 done:∀ (X:Cx),X.prog=P->X.w=w->X.K=K->X.calm=true->∀ (i:Nat) (pins:List (Addr×Obj)) (s:Shared) (σ:St) (H:Hp) (E:Value->Shared->Prop),Inv X pins σ H s->(∀ b∈fp,qlO X pins H b)->tn i s.heap->J.stop i H->
  wpAny (model P w) X.A (pyNext (.ref it)) (λr s1=>r=none/\Inv X pins σ H s1) E s
 self:∀ (A:Around) (i:Nat) (s:Shared) (Q:Value->Shared->Prop) (E:Value->Shared->Prop),tn i s.heap->Q (.ref it) s->wpAny (model P w) A (pyIter (.ref it)) Q E s
noncomputable abbrev TI:=St->Hp->(It->Hp->Prop)->Prop
noncomputable def PIE (X:Cx) (pins:List (Addr×Obj)) (σ:St) (tg:Expr) (R:It->Hp->Prop) (itv:Value) (s2:Shared):Prop:=
 ∃ (it:Addr) (fp:List Addr) (tn:Nat->Heap->Prop) (J:It) (H':Hp),itv=.ref it/\Inv X pins σ H' s2/\Turn X.prog X.w X.K tg J fp it tn/\tn 0 s2.heap/\(∀ b∈fp,qlO X pins H' b)/\R J H'
noncomputable def PI (X:Cx) (tg iter:Expr) (wi:TI):Prop:=
 ∀ (pins:List (Addr×Obj)) (s:Shared) (σ:St) (H:Hp) (R:It->Hp->Prop),Inv X pins σ H s->wi σ H R->
   wpAny (model X.prog X.w) X.A (eval iter X.env) (λv s1=>wpAny (model X.prog X.w) X.A (pyIter v) (PIE X pins σ tg R) X.xe s1) X.xe s
theorem qoa {M:Model} {A:Around} {E:Value->Shared->Prop} {s:Shared} {tg:Expr} {it:Addr} {u:Value} {o:Obj} {n:String} {vs:Array Value} {Q:Unit->Shared->Prop} (ho:s.heap.get? it=some o) (hc:o.cls=.type n) (hd:o.data=.fields vs)
  (hn:["enumerate", "zip", "dict_itemiterator", "dict_reverseitemiterator", "odict_iterator", "itertools.zip_longest", "itertools.pairwise"].contains n=false) (hQ:Q () s):wpAny M A (letOwnedTupleGo tg (.ref it) u) Q E s:=by
 unfold letOwnedTupleGo
 cases tg <;> first
  | exact wpAny_pure hQ
  | (cases u <;> first
    | exact wpAny_pure hQ
    | (refine wpAny_bind (wpAny_load ho ?_)
       rw [hc,hd]
       show wpAny M A (if (["enumerate", "zip", "dict_itemiterator", "dict_reverseitemiterator", "odict_iterator", "itertools.zip_longest", "itertools.pairwise"].contains n && vs[0]? == some (rawInt _))=true then _ else _) Q E s
       rw [if_neg (by intro h;rw [hn,Bool.false_and] at h;cases h)]
       exact wpAny_pure hQ))
noncomputable def Itl (K:PySem.W.Frag) (a:Addr):It:=
 ⟨λi H=>∃ xs x,SqL K H a xs/\xs[i]?=some x,λi H x H'=>H'=H/\∀ xs,SqL K H a xs->xs[i]?=some x,λi H=>∃ xs,SqL K H a xs/\xs.length<=i⟩
noncomputable def Itt (K:PySem.W.Frag) (a:Addr):It:=
 ⟨λi H=>∃ xs x,SqT K H a xs/\xs[i]?=some x,λi H x H'=>H'=H/\∀ xs,SqT K H a xs->xs[i]?=some x,λi H=>∃ xs,SqT K H a xs/\xs.length<=i⟩
noncomputable def Itr (lo:Int) (n:Nat):It:=⟨λi _=>i<n,λi H x H'=>H'=H/\x=.int (lo+i),λi _=>n<=i⟩
theorem qob {P:Program} {w:World} {K:PySem.W.Frag} {tg:Expr} (a it:Addr):Turn P w K tg (Itl K a) [it] it (λi h=>h.IsListIter it a i) where
 mem:=by simp
 obj:=λi h st b hb=>by
  have e:b=it:=by simpa using hb
  subst e
  obtain ⟨o,e,c,d⟩:=st
  exact ⟨o,e,λv z=>by rw [d] at z;cases z⟩
 keep:=λi h h' st k=>st.at λo e=>k it (by simp) o e
 item:=by
  intro X hP hw hK hc i pins s σ H E I hf st hg
  subst hP hw hK
  obtain ⟨xs,x,hq,hx⟩:=hg
  obtain ⟨its,rv,p,hz⟩:=I.list hq
  obtain ⟨u,hu,ru⟩:=rv.get hx
  obtain ⟨f0,f1,f2,f3,f4,f5⟩:=hf it (by simp)
  refine wpAny_pyNext_list_item st p.isList (x:=u) (by simpa using hu) λh' st' sb=>?_
  have I1:Inv X pins σ H { s with heap:=h' }:=I.turned (t':=s.toks) (λb o hb e=>(sb.2 b hb).trans e) f0 f1 f3 f4 f5
  obtain ⟨o,e,c,d⟩:=id st'
  exact ⟨u,rfl,qoa (s:={ s with heap:=h' }) e c d ∅ ⟨x,H,I1,ru,⟨rfl,λys hy=>by rw [I.list_inj hy hq];exact hx⟩,st',λb hb=>(hf b hb).1⟩⟩
 done:=by
  intro X hP hw hK hc i pins s σ H E I hf st hg
  subst hP hw hK
  obtain ⟨xs,hq,hx⟩:=hg
  obtain ⟨its,rv,p,hz⟩:=I.list hq
  obtain ⟨f0,f1,f2,f3,f4,f5⟩:=hf it (by simp)
  have hl:=rv.length
  exact wpAny_pyNext_list_end (I.ok.hd hc) st p.isList (by simp;omega) λh' eb=>⟨rfl,I.turned (t':=s.toks) (λb o hb e=>eb b o hb e) f0 f1 f3 f4 f5⟩
 self:=λ_ _ _ _ _ st h=>wpAny_pyIter_listiter st h
theorem qnt {P:Program} {w:World} {K:PySem.W.Frag} {tg:Expr} (a it:Addr):Turn P w K tg (Itt K a) [it] it (λi h=>h.IsTupleIter it a i) where
 mem:=by simp
 obj:=λi h st b hb=>by
  have e:b=it:=by simpa using hb
  subst e
  obtain ⟨o,e,c,d⟩:=st
  exact ⟨o,e,λv z=>by rw [d] at z;cases z⟩
 keep:=λi h h' st k=>st.at λo e=>k it (by simp) o e
 item:=by
  intro X hP hw hK hc i pins s σ H E I hf st hg
  subst hP hw hK
  obtain ⟨xs,x,hq,hx⟩:=hg
  obtain ⟨its,rv,p,hz⟩:=I.tuple hq
  obtain ⟨u,hu,ru⟩:=rv.get hx
  obtain ⟨f0,f1,f2,f3,f4,f5⟩:=hf it (by simp)
  refine wpAny_pyNext_tuple_item st (show s.heap.IsTuple a its.toArray from p) (x:=u) (by simpa using hu) λh' st' sb=>?_
  have I1:Inv X pins σ H { s with heap:=h' }:=I.turned (t':=s.toks) (λb o hb e=>(sb.2 b hb).trans e) f0 f1 f3 f4 f5
  obtain ⟨o,e,c,d⟩:=id st'
  exact ⟨u,rfl,qoa (s:={ s with heap:=h' }) e c d ∅ ⟨x,H,I1,ru,⟨rfl,λys hy=>by rw [I.tuple_inj hy hq];exact hx⟩,st',λb hb=>(hf b hb).1⟩⟩
 done:=by
  intro X hP hw hK hc i pins s σ H E I hf st hg
  subst hP hw hK
  obtain ⟨xs,hq,hx⟩:=hg
  obtain ⟨its,rv,p,hz⟩:=I.tuple hq
  obtain ⟨f0,f1,f2,f3,f4,f5⟩:=hf it (by simp)
  have hl:=rv.length
  exact wpAny_pyNext_tuple_end (I.ok.hd hc) st (show s.heap.IsTuple a its.toArray from p) (by simp;omega) λh' eb=>⟨rfl,I.turned (t':=s.toks) (λb o hb e=>eb b o hb e) f0 f1 f3 f4 f5⟩
 self:=λ_ _ _ _ _ st h=>wpAny_pyIter_tupleiter st h
theorem qnu {P:Program} {w:World} {K:PySem.W.Frag} {tg:Expr} (it:Addr) (lo:Int) (n:Nat):Turn P w K tg (Itr lo n) [it] it (λi h=>IsRangeIter h it (lo+(i:Nat)*1) ((n:Int) - (i:Nat)) 1) where
 mem:=by simp
 obj:=λi h st b hb=>by
  have e:b=it:=by simpa using hb
  subst e
  exact ⟨_,st,λv z=>by
   have z':Data.fields _=Data.cell v:=z
   cases z'⟩
 keep:=λi h h' st k=>k it (by simp) _ st
 item:=by
  intro X hP hw hK hc i pins s σ H E I hf st hg
  subst hP hw hK
  obtain ⟨f0,f1,f2,f3,f4,f5⟩:=hf it (by simp)
  have W:=Walks.range (prog:=X.prog) (w:=X.w) (I.ok.hd hc) it lo 1 n
  refine W.item i s _ _ hg st λv h' tk hv st' kk=>?_
  obtain ⟨t,rfl⟩:=hv
  have I1:Inv X pins σ H { s with heap:=h',toks:=tk }:=I.turned (λb o hb e=>kk b o (by simpa using hb) e) f0 f1 f3 f4 f5
  refine ⟨_,rfl,qoa (s:={ s with heap:=h',toks:=tk }) (n := "range_iterator") st' rfl rfl ∅ ⟨.int (lo+i),H,I1,⟨t,?_⟩,⟨rfl,rfl⟩,st',λb hb=>(hf b hb).1⟩⟩
  rw [Int.mul_one]
 done:=by
  intro X hP hw hK hc i pins s σ H E I hf st hg
  subst hP hw hK
  obtain ⟨f0,f1,f2,f3,f4,f5⟩:=hf it (by simp)
  exact wpAny_pyNext_range_end (I.ok.hd hc) st (by have:n<=i:=hg;omega) λh' eb=>⟨rfl,I.turned (t':=s.toks) (λb o hb e=>eb b o hb e) f0 f1 f3 f4 f5⟩
 self:=λ_ _ _ _ _ st h=>wpAny_pyIter_rangeiter st h
end L2
namespace L2
open PySem PySem.Spec PyProof.Rows
section
variable {X:Cx} {tg:Expr}
noncomputable def qci (K:PySem.W.Frag) (tl:TE):TI:=λσ H R=>tl σ H λx H1=>∃ a,x=.ref a/\(∃ xs,SqL K H1 a xs)/\R (Itl K a) H1
noncomputable def qrE (K:PySem.W.Frag) (tl:TE):TI:=λσ H R=>tl σ H λx H1=>∃ a,x=.ref a/\(∃ xs,SqT K H1 a xs)/\R (Itt K a) H1
theorem qbq {l:Expr} {tl:TE} (hl:PE X l tl):PI X tg l (qci X.K tl):=by
 intro pins s σ H R I h
 refine thn (hl pins s σ H _ I h) λv s1 ⟨x,H1,I1,r1,q1⟩=>?_
 obtain ⟨a,e,⟨xs,hq⟩,q⟩:=q1
 subst e
 cases r1
 obtain ⟨its,rv,p,hz⟩:=I1.list hq
 refine wpAny_pyIter_list p.isList ?_
 refine ⟨s1.heap.objs.size,[s1.heap.objs.size],_,_,H1,rfl,I1.kept (t':=s1.toks) λb o e=>Heap.get?_push_of_some _ e,qob a _,⟨_,Heap.get?_push_size _ rfl,rfl,rfl⟩,λb hb=>?_,q⟩
 have e:b=s1.heap.objs.size:=by simpa using hb
 subst e
 exact I1.fpOk (wac _) (I1.hok.fresh (wac _))
theorem qkB {l:Expr} {tl:TE} (hl:PE X l tl):PI X tg l (qrE X.K tl):=by
 intro pins s σ H R I h
 refine thn (hl pins s σ H _ I h) λv s1 ⟨x,H1,I1,r1,q1⟩=>?_
 obtain ⟨a,e,⟨xs,hq⟩,q⟩:=q1
 subst e
 cases r1
 obtain ⟨its,rv,p,hz⟩:=I1.tuple hq
 refine wpAny_pyIter_tuple (show s1.heap.IsTuple a its.toArray from p) ?_
 refine ⟨s1.heap.objs.size,[s1.heap.objs.size],_,_,H1,rfl,I1.kept (t':=s1.toks) λb o e=>Heap.get?_push_of_some _ e,qnt a _,⟨_,Heap.get?_push_size _ rfl,rfl,rfl⟩,λb hb=>?_,q⟩
 have e:b=s1.heap.objs.size:=by simpa using hb
 subst e
 exact I1.fpOk (wac _) (I1.hok.fresh (wac _))
theorem qmE {pins:List (Addr×Obj)} {σ:St} {H:Hp} {s:Shared} {R:It->Hp->Prop} {E:Value->Shared->Prop} {lo hi:Int} {t u v:Tok} {tk:Nat} (I:Inv X pins σ H s) (h1:-(2 ^ 62)<=lo) (h2:lo<2 ^ 62) (h3:-(2 ^ 62)<=hi) (h4:hi<2 ^ 62)
  (q:R (Itr lo (hi - lo).toNat) H):wpAny (model X.prog X.w) X.A (pyIter (.ref s.heap.objs.size)) (PIE X pins σ tg R) E { s with heap:=s.heap.push { cls:=.type "range", data:=.fields #[.int lo t,.int hi u,.int 1 v] },toks:=tk }:=by
 refine wpAny_pyIter_range (IsRange.new ..) (small_one h1 h2 h3 h4) ?_
 have I1:Inv X pins σ H { s with heap:=s.heap.push { cls:=.type "range", data:=.fields #[.int lo t,.int hi u,.int 1 v] },toks:=tk }:=I.kept λb o e=>Heap.get?_push_of_some _ e
 refine ⟨(s.heap.push { cls:=.type "range", data:=.fields #[.int lo t,.int hi u,.int 1 v] }).objs.size,[(s.heap.push { cls:=.type "range", data:=.fields #[.int lo t,.int hi u,.int 1 v] }).objs.size],_,_,H,rfl,
  I1.kept (t':=tk) λb o e=>Heap.get?_push_of_some _ e,qnu _ lo (hi - lo).toNat,?_,λb hb=>?_,q⟩
 ·have e1:lo+((0:Nat):Int)*1=lo:=by simp
  have e2:(((hi - lo).toNat:Nat):Int) - ((0:Nat):Int)=Builtin.Range.rangeSize lo hi 1:=by rw [rangeSize_one];split <;> omega
  show IsRangeIter _ _ (lo+((0:Nat):Int)*1) ((((hi - lo).toNat:Nat):Int) - ((0:Nat):Int)) 1
  rw [e1,e2]
  exact Heap.get?_push_size _ rfl
 ·have e:b=(s.heap.push { cls:=.type "range", data:=.fields #[.int lo t,.int hi u,.int 1 v] }).objs.size:=by simpa using hb
  subst e
  exact I1.fpOk (wac _) (I1.hok.fresh (wac _))
noncomputable def qiC (ta:TA):TI:=λσ H R=>ta σ H λvs H1=>∃ j:Int,vs=[.int j]/\-(2 ^ 62)<=j/\j<2 ^ 62/\R (Itr 0 j.toNat) H1
noncomputable def qoc (ta:TA):TI:=λσ H R=>ta σ H λvs H1=>∃ i j:Int,vs=[.int i,.int j]/\(-(2 ^ 62)<=i/\i<2 ^ 62/\-(2 ^ 62)<=j/\j<2 ^ 62)/\R (Itr i (j - i).toNat) H1
theorem qdx {a:Expr} {ta:TA} {p pos:Pos} (hg:Gl X "range") (hm:X.mg "range" = none) (ha:PA X [a] ta) (hs:starEach [a] X.env=[(false,eval a X.env)]:=by rfl):PI X tg (.Call (.Name "range" p) [a] [] pos) (qiC ta):=by
 intro pins s σ H R I h
 refine Call_ (qd8 I hg hm boot_range (PyProof.Rows.callWith_type1 (thn (ha pos pins s σ H _ I h) λus s1 ⟨vs,H1,I1,r1,q1⟩=>?_) hs rfl))
 obtain ⟨j,e,q1,q2,q⟩:=q1
 subst e
 cases r1 with
 | cons r rr=>
   cases rr
   obtain ⟨t,rfl⟩:=r
   exact call_range_1 (qmE I1 ⋯ ⋯ q1 q2 (by simpa using q))
theorem qkC {a b:Expr} {ta:TA} {p pos:Pos} (hg:Gl X "range") (hm:X.mg "range" = none) (ha:PA X [a,b] ta) (hs:starEach [a,b] X.env=[(false,eval a X.env),(false,eval b X.env)]:=by rfl) (hs2:starEach [b] X.env=[(false,eval b X.env)]:=by rfl) :
  PI X tg (.Call (.Name "range" p) [a,b] [] pos) (qoc ta):=by
 intro pins s σ H R I h
 refine Call_ (qd8 I hg hm boot_range (PyProof.Rows.callWith_type1 (thn (ha pos pins s σ H _ I h) λus s1 ⟨vs,H1,I1,r1,q1⟩=>?_) (by rw [hs,hs2]) (by rw [hs2];rfl)))
 obtain ⟨i,j,e,⟨q1,q2,q3,q4⟩,q⟩:=q1
 subst e
 cases r1 with
 | cons r rr=>
   cases rr with
   | cons r' rr=>
     cases rr
     obtain ⟨t,rfl⟩:=r
     obtain ⟨t',rfl⟩:=r'
     exact call_range_2 (qmE I1 q1 q2 q3 q4 q)
noncomputable def qea (wi:TI) (g:TG) (tb:TS):TS:=λD σ H=>wi σ H λJ H1=>∃ W:Nat->Nat->St->Hp->Prop,(∃ m,W 0 m σ H1)/\∀ i m σ H,W i m σ H->
 (J.stop i H/\D.nx σ H)\/(J.go i H/\∃ N:St->Hp->Prop,(∀ σ' H',N σ' H'->∃ m',m'<m/\W (i+1) m' σ' H')/\∀ x H',J.yld i H x H'->g x σ H' λσ2 H2=>tb { D with nx:=N,ct:=N,bk:=D.nx } σ2 H2)
noncomputable def qmF (fp:List Addr) (h:Heap):List (Addr×Obj):=fp.filterMap λb=>(h.get? b).map λo=>(b,o)
theorem qdy {fp:List Addr} {h:Heap} {b:Addr} {o:Obj} (hb:b∈fp) (e:h.get? b=some o):(b,o)∈qmF fp h:=List.mem_filterMap.mpr ⟨b,hb,by rw [e];rfl⟩
theorem qod {fp:List Addr} {h:Heap} {p:Addr×Obj} (hp:p∈qmF fp h):p.1∈fp/\h.get? p.1=some p.2:=by
 obtain ⟨b,hb,e⟩:=List.mem_filterMap.mp hp
 cases q:h.get? b with
 | none=>rw [q] at e;cases e
 | some o=>
   rw [q] at e
   have e':(b,o)=p:=Option.some.inj e
   subst e'
   exact ⟨hb,q⟩
theorem Inv.pinned {pins:List (Addr×Obj)} {σ:St} {H:Hp} {s:Shared} {fp:List Addr} (I:Inv X pins σ H s) (hf:∀ b∈fp,qlO X pins H b) (ho:∀ b∈fp,∃ o,s.heap.get? b=some o/\∀ v,o.data≠.cell v):Inv X (pins++qmF fp s.heap) σ H s:=
 I.pins_of λp hp=>(wa2.mp hp).elim (λz=>I.pin p (wa3 _ z)) λz=>by
  obtain ⟨hb,e⟩:=qod z
  obtain ⟨f0,f1,f2,_⟩:=hf p.1 hb
  obtain ⟨o,e',d⟩:=ho p.1 hb
  rw [e] at e';cases e'
  exact ⟨e,f0,f1,f2,d⟩
theorem Inv.unpinned {pins pl:List (Addr×Obj)} {σ:St} {H:Hp} {s:Shared} (I:Inv X (pins++pl) σ H s):Inv X pins σ H s:=I.pins_of λp hp=>I.pin p (wa3 _ (wbz _ hp))
theorem qbH {iter:Expr} {body:List Stmt} {wi:TI} {g:TG} {tb:TS} {pos:Pos} (hp:PassesOwn (model X.prog X.w) X.A X.env X.xe) (hc:X.calm=true) (hi:PI X tg iter wi) (hg:PG X tg g) (hb:PSs X body tb)
  (hs:∀ x,foldedSetIterable iter X.env x=pure x:=by intro _;rfl):PS X (.For tg iter body [] pos) (qea wi g tb):=by
 intro pins s σ H D I h
 refine wpAny_For (thn (hi pins s σ H _ I h) λv s1 h1=>thn h1 λitv s2 h2=>?_) hs
 obtain ⟨it,fp,tn,J,H2,e,I2,T,st2,f2,W,⟨m0,w0⟩,turn⟩:=h2
 subst e
 have stat:∀ {H':Hp},(∀ b∈fp,H' b=none)->∀ b∈fp,qlO X pins H' b:=λhn b hb=>⟨hn b hb,(f2 b hb).2⟩
 refine codeAny_forLoop_any (λn s'=>∃ i σ' H',Inv X pins σ' H' s'/\tn i s'.heap/\(∀ b∈fp,H' b=none)/\W i n σ' H') ?_ m0 ⟨0,σ,H2,I2,st2,λb hb=>(f2 b hb).1,w0⟩
 rintro n s3 ⟨i,σ3,H3,I3,st3,fr3,w3⟩
 rcases turn i n σ3 H3 w3 with ⟨stop,qn⟩ | ⟨go,N,hN,step⟩
 ·refine wpAny_passesOwn hp (thn (T.done X rfl rfl rfl hc i pins s3 σ3 H3 X.xe I3 (stat fr3) st3 stop) λr s4 ⟨hr,I4⟩=>?_)
  subst hr
  exact wpAny_execs_nil ⟨σ3,H3,I4,qn⟩
 ·refine wpAny_passesOwn hp (thn (T.item X rfl rfl rfl hc i pins s3 σ3 H3 X.xe I3 (stat fr3) st3 go) λr s4 ⟨u,hr,h4⟩=>?_)
  subst hr
  refine wpAny_passesOwn hp (thn h4 λ_ s5 ⟨x,H5,I5,r5,y5,st5,fr5⟩=>?_)
  have I5':=I5.pinned (stat fr5) (T.obj _ _ st5)
  refine wpAny_passesOwn hp (thn (hg _ s5 σ3 H5 x u _ I5' r5 (step x H5 y5)) λ_ s6 ⟨σ6,H6,I6,q6⟩=>?_)
  refine wpAny_passesOwn hp (thn (hb _ s6 σ6 H6 _ I6 q6) λf s7 q7=>?_)
  have again:∀ {σ7:St} {H7:Hp},Inv X (pins++qmF fp s5.heap) σ7 H7 s7->N σ7 H7->∃ m,m<n/\∃ i σ' H',Inv X pins σ' H' s7/\tn i s7.heap/\(∀ b∈fp,H' b=none)/\W i m σ' H':=λ{σ7 H7} I7 n7=>by
   obtain ⟨m',hm,w7⟩:=hN σ7 H7 n7
   refine ⟨m',hm,i+1,σ7,H7,I7.unpinned,T.keep _ _ _ st5 λb hb o e=>(I7.pin (b,o) (wa3 _ (wa3 _ (qdy hb e)))).1,λb hb=>?_,w7⟩
   obtain ⟨o,e,d⟩:=T.obj _ _ st5 b hb
   exact (I7.pin (b,o) (wa3 _ (wa3 _ (qdy hb e)))).2.1
  cases f with
  | next=>obtain ⟨σ7,H7,I7,n7⟩:=q7;exact again I7 n7
  | cont=>obtain ⟨σ7,H7,I7,n7⟩:=q7;exact again I7 n7
  | brk=>obtain ⟨σ7,H7,I7,q7⟩:=q7;exact ⟨σ7,H7,I7.unpinned,q7⟩
  | ret v=>obtain ⟨x7,σ7,H7,I7,r7,q7⟩:=q7;exact ⟨x7,σ7,H7,I7.unpinned,r7,q7⟩
end
theorem qqF {K:PySem.W.Frag} {a:Addr} {xs:List V} {g:TG} {tb:TS} {D:Ends} {σ:St} {H:Hp} (Pv:Nat->St->Hp->Prop) (h0:Pv 0 σ H) (hl:∀ i σ H,i<=xs.length->Pv i σ H->SqL K H a xs)
  (hs:∀ i x σ H,xs[i]?=some x->Pv i σ H->g x σ H λσ2 H2=>tb { D with nx:=Pv (i+1),ct:=Pv (i+1),bk:=D.nx } σ2 H2) (hd:∀ σ H,Pv xs.length σ H->D.nx σ H) :
  ∃ W:Nat->Nat->St->Hp->Prop,(∃ m,W 0 m σ H)/\∀ i m σ H,W i m σ H->
    ((Itl K a).stop i H/\D.nx σ H)\/((Itl K a).go i H/\∃ N:St->Hp->Prop,(∀ σ' H',N σ' H'->∃ m',m'<m/\W (i+1) m' σ' H')/\∀ x H',(Itl K a).yld i H x H'->g x σ H' λσ2 H2=>tb { D with nx:=N,ct:=N,bk:=D.nx } σ2 H2):=by
 refine ⟨λi m σ H=>m=xs.length - i/\i<=xs.length/\Pv i σ H,⟨xs.length,by simp,wad _,h0⟩,?_⟩
 rintro i m σ H ⟨rfl,hi,p⟩
 have q:=hl i σ H hi p
 by_cases hlt:i<xs.length
 ·refine .inr ⟨⟨xs,xs[i],q,by simp [hlt]⟩,Pv (i+1),λσ' H' p'=>⟨xs.length - (i+1),⋯,rfl,hlt,p'⟩,λx H' y=>?_⟩
  obtain ⟨e,y⟩:=y
  subst e
  exact hs i x σ _ (y xs q) p
 ·have e:i=xs.length:=by omega
  subst e
  exact .inl ⟨⟨xs,q,wac _⟩,hd σ H p⟩
theorem qoe {K:PySem.W.Frag} {a:Addr} {xs:List V} {g:TG} {tb:TS} {D:Ends} {σ:St} {H:Hp} (Pv:Nat->St->Hp->Prop) (h0:Pv 0 σ H) (hl:∀ i σ H,i<=xs.length->Pv i σ H->SqT K H a xs)
  (hs:∀ i x σ H,xs[i]?=some x->Pv i σ H->g x σ H λσ2 H2=>tb { D with nx:=Pv (i+1),ct:=Pv (i+1),bk:=D.nx } σ2 H2) (hd:∀ σ H,Pv xs.length σ H->D.nx σ H) :
  ∃ W:Nat->Nat->St->Hp->Prop,(∃ m,W 0 m σ H)/\∀ i m σ H,W i m σ H->
    ((Itt K a).stop i H/\D.nx σ H)\/((Itt K a).go i H/\∃ N:St->Hp->Prop,(∀ σ' H',N σ' H'->∃ m',m'<m/\W (i+1) m' σ' H')/\∀ x H',(Itt K a).yld i H x H'->g x σ H' λσ2 H2=>tb { D with nx:=N,ct:=N,bk:=D.nx } σ2 H2):=by
 refine ⟨λi m σ H=>m=xs.length - i/\i<=xs.length/\Pv i σ H,⟨xs.length,by simp,wad _,h0⟩,?_⟩
 rintro i m σ H ⟨rfl,hi,p⟩
 have q:=hl i σ H hi p
 by_cases hlt:i<xs.length
 ·refine .inr ⟨⟨xs,xs[i],q,by simp [hlt]⟩,Pv (i+1),λσ' H' p'=>⟨xs.length - (i+1),⋯,rfl,hlt,p'⟩,λx H' y=>?_⟩
  obtain ⟨e,y⟩:=y
  subst e
  exact hs i x σ _ (y xs q) p
 ·have e:i=xs.length:=by omega
  subst e
  exact .inl ⟨⟨xs,q,wac _⟩,hd σ H p⟩
theorem qof {lo:Int} {n:Nat} {g:TG} {tb:TS} {D:Ends} {σ:St} {H:Hp} (Pv:Nat->St->Hp->Prop) (h0:Pv 0 σ H)
  (hs:∀ i σ H,i<n->Pv i σ H->g (.int (lo+i)) σ H λσ2 H2=>tb { D with nx:=Pv (i+1),ct:=Pv (i+1),bk:=D.nx } σ2 H2) (hd:∀ σ H,Pv n σ H->D.nx σ H) :
  ∃ W:Nat->Nat->St->Hp->Prop,(∃ m,W 0 m σ H)/\∀ i m σ H,W i m σ H->
    ((Itr lo n).stop i H/\D.nx σ H)\/((Itr lo n).go i H/\∃ N:St->Hp->Prop,(∀ σ' H',N σ' H'->∃ m',m'<m/\W (i+1) m' σ' H')/\∀ x H',(Itr lo n).yld i H x H'->g x σ H' λσ2 H2=>tb { D with nx:=N,ct:=N,bk:=D.nx } σ2 H2):=by
 refine ⟨λi m σ H=>m=n - i/\i<=n/\Pv i σ H,⟨n,by simp,wad _,h0⟩,?_⟩
 rintro i m σ H ⟨rfl,hi,p⟩
 by_cases hlt:i<n
 ·refine .inr ⟨hlt,Pv (i+1),λσ' H' p'=>⟨n - (i+1),⋯,rfl,hlt,p'⟩,λx H' y=>?_⟩
  obtain ⟨e,y⟩:=y
  subst e y
  exact hs i σ _ hlt p
 ·have e:i=n:=by omega
  subst e
  exact .inl ⟨wac _,hd σ H p⟩
theorem while_by {c:TT} {tb:TS} {D:Ends} {σ:St} {H:Hp} (Pv:St->Hp->Prop) (μ:St->Hp->Nat) (h0:Pv σ H)
  (hs:∀ σ H,Pv σ H->c σ H λb H1=>if b=true then tb { D with nx:=λσ' H'=>Pv σ' H'/\μ σ' H'<μ σ H,ct:=λσ' H'=>Pv σ' H'/\μ σ' H'<μ σ H,bk:=D.nx } σ H1 else D.nx σ H1)
  (mono:∀ σ H Q Q',(∀ b H1,Q b H1->Q' b H1)->c σ H Q->c σ H Q'):qb9 c tb D σ H:=by
 refine ⟨λm σ H=>m=μ σ H/\Pv σ H,⟨_,rfl,h0⟩,?_⟩
 rintro m σ H ⟨rfl,p⟩
 refine mono σ H _ _ (λb H1 q=>?_) (hs σ H p)
 cases b with
 | true=>exact ⟨_,λσ' H' ⟨p',l⟩=>⟨_,l,rfl,p'⟩,q⟩
 | false=>exact q
end L2
namespace L2
open PySem PySem.Spec PyProof.Rows
noncomputable abbrev R2:=V->V->Hp->VK->Prop
noncomputable def OpR (X:Cx) (f:Value->Value->Sem Value) (r:R2):Prop:=
 ∀ (pins:List (Addr×Obj)) (s:Shared) (σ:St) (H:Hp) (x y:V) (v u:Value) (Q:VK),Inv X pins σ H s->RelV x v->RelV y u->r x y H Q->
   wpAny (model X.prog X.w) X.A (f v u) (EP X pins σ Q) X.xe s
noncomputable def UnR (X:Cx) (f:Value->Sem Value) (r:V->Hp->VK->Prop):Prop:=
 ∀ (pins:List (Addr×Obj)) (s:Shared) (σ:St) (H:Hp) (x:V) (v:Value) (Q:VK),Inv X pins σ H s->RelV x v->r x H Q->
   wpAny (model X.prog X.w) X.A (f v) (EP X pins σ Q) X.xe s
noncomputable def qdz (X:Cx) (f:Value) (r:List V->Hp->VK->Prop):Prop:=
 ∀ (pins:List (Addr×Obj)) (s:Shared) (σ:St) (H:Hp) (xs:List V) (us:List Value) (Q:VK),Inv X pins σ H s->Vals xs us->r xs H Q->
   wpAny (model X.prog X.w) X.A (call f us) (EP X pins σ Q) X.xe s
noncomputable def qwa (X:Cx) (r:V->Hp->(Bool->Hp->Prop)->Prop):Prop:=
 ∀ (pins:List (Addr×Obj)) (s:Shared) (σ:St) (H:Hp) (x:V) (v:Value) (Q:Bool->Hp->Prop),Inv X pins σ H s->RelV x v->r x H Q->
   wpAny (model X.prog X.w) X.A (truthy v) (TP X pins σ Q) X.xe s
noncomputable def tOp (r:R2) (ta tb:TE):TE:=λσ H Q=>ta σ H λx H1=>tb σ H1 λy H2=>r x y H2 Q
noncomputable def tUn (r:V->Hp->VK->Prop) (ta:TE):TE:=λσ H Q=>ta σ H λx H1=>r x H1 Q
noncomputable def rI (C:Int->Int->Prop) (g:Int->Int->V):R2:=λx y H Q=>∃ i j,x=.int i/\y=.int j/\C i j/\Q (g i j) H
noncomputable def rI0 (g:Int->Int->V):R2:=λx y H Q=>∃ i j,x=.int i/\y=.int j/\Q (g i j) H
noncomputable def rU (g:Int->V):V->Hp->VK->Prop:=λx H Q=>∃ i,x=.int i/\Q (g i) H
section
variable {X:Cx} {a b c:Expr} {ta tb tc:TE} {pos:Pos}
theorem qvh (ha:PE X a ta) (hb:PE X b tb) {pins:List (Addr×Obj)} {s:Shared} {σ:St} {H:Hp} {R:V->V->Hp->Prop} (I:Inv X pins σ H s)
  (h:ta σ H λx H1=>tb σ H1 λy H2=>R x y H2) {Q:Value->Shared->Prop} {f:Value->Value->Sem Value}
  (hf:∀ v u s2 x y H2,Inv X pins σ H2 s2->RelV x v->RelV y u->R x y H2->wpAny (model X.prog X.w) X.A (f v u) Q X.xe s2) :
  wpAny (model X.prog X.w) X.A (eval a X.env) (λv s₁=>wpAny (model X.prog X.w) X.A (eval b X.env) (λu s₂=>wpAny (model X.prog X.w) X.A (f v u) Q X.xe s₂) X.xe s₁) X.xe s:=by
 refine thn (ha pins s σ H _ I h) λv s1 ⟨x,H1,I1,r1,q1⟩=>?_
 refine thn (hb pins s1 σ H1 _ I1 q1) λu s2 ⟨y,H2,I2,r2,q2⟩=>?_
 exact hf v u s2 x y H2 I2 r1 r2 q2
theorem qal {op:Operator} {r:R2} (ho:OpR X (binaryOp op) r) (ha:PE X a ta) (hb:PE X b tb):PE X (.BinOp a op b pos) (tOp r ta tb):=by
 intro pins s σ H Q I h
 exact wpAny_BinOp (qvh ha hb I h λv u s2 x y H2 I2 rx ry q=>ho pins s2 σ H2 x y v u Q I2 rx ry q)
theorem qbG {op:UnaryOp} {r:V->Hp->VK->Prop} (ho:UnR X (unaryOp op) r) (ha:PE X a ta):PE X (.UnaryOp op a pos) (tUn r ta):=by
 intro pins s σ H Q I h
 exact UnaryOp_ (thn (ha pins s σ H _ I h) λv s1 ⟨x,H1,I1,r1,q1⟩=>ho pins s1 σ H1 x v Q I1 r1 q1)
theorem opI {f:Value->Value->Sem Value} {C:Int->Int->Prop} {g:Int->Int->Int}
  (rule:∀ (i j:Int) (t u:Tok) (s:Shared) (Q:Value->Shared->Prop) (E:Value->Shared->Prop),C i j->Q (.int (g i j) s.toks) { s with toks:=s.toks+1 }->wpAny (model X.prog X.w) X.A (f (.int i t) (.int j u)) Q E s) :
  OpR X f (rI C λi j=>.int (g i j)):=by
 intro pins s σ H x y v u Q I rx ry h
 obtain ⟨i,j,rfl,rfl,hc,q⟩:=h
 obtain ⟨t,rfl⟩:=rx
 obtain ⟨t',rfl⟩:=ry
 exact rule i j t t' s _ _ hc ⟨.int (g i j),H,I.tok _,⟨_,rfl⟩,q⟩
theorem qvd {f:Value->Value->Sem Value} {g:Int->Int->Int}
  (rule:∀ (i j:Int) (t u:Tok) (s:Shared) (Q:Value->Shared->Prop) (E:Value->Shared->Prop),Q (.int (g i j) s.toks) { s with toks:=s.toks+1 }->wpAny (model X.prog X.w) X.A (f (.int i t) (.int j u)) Q E s) :
  OpR X f (rI0 λi j=>.int (g i j)):=by
 intro pins s σ H x y v u Q I rx ry h
 obtain ⟨i,j,rfl,rfl,q⟩:=h
 obtain ⟨t,rfl⟩:=rx
 obtain ⟨t',rfl⟩:=ry
 exact rule i j t t' s _ _ ⟨.int (g i j),H,I.tok _,⟨_,rfl⟩,q⟩
theorem qve {f:Value->Value->Sem Value} {g:Int->Int->Bool}
  (rule:∀ (i j:Int) (t u:Tok) (s:Shared) (Q:Value->Shared->Prop) (E:Value->Shared->Prop),Q (.bool (g i j)) s->wpAny (model X.prog X.w) X.A (f (.int i t) (.int j u)) Q E s) :
  OpR X f (rI0 λi j=>.bl (g i j)):=by
 intro pins s σ H x y v u Q I rx ry h
 obtain ⟨i,j,rfl,rfl,q⟩:=h
 obtain ⟨t,rfl⟩:=rx
 obtain ⟨t',rfl⟩:=ry
 exact rule i j t t' s _ _ ⟨.bl (g i j),H,I,rfl,q⟩
noncomputable def CPow (i j:Int):Prop:=0<=j/\j<=1000000/\i.natAbs<2 ^ 64
noncomputable def CMul (i j:Int):Prop:=(-(2 ^ 64)<i/\i<2 ^ 64)\/(-(2 ^ 64)<j/\j<2 ^ 64)
theorem CMul.ok {i j:Int} (h:CMul i j):IntMulOk i j:=by
 rcases h with ⟨h1,h2⟩ | ⟨h1,h2⟩
 ·exact .of_left (intBits_le_64 h1 h2)
 ·exact .of_right (intBits_le_64 h1 h2)
theorem qa3:OpR X (binaryOp .Add) (rI0 λi j=>.int (i+j)):=qvd λ_ _ _ _ _ _ _ q=>add_int q
theorem qa4:OpR X (binaryOp .Sub) (rI0 λi j=>.int (i - j)):=qvd λ_ _ _ _ _ _ _ q=>sub_int q
theorem qbU:OpR X (binaryOp .Mod) (rI (λ_ j=>0<j) λi j=>.int (i % j)):=opI λi j _ _ _ _ _ hc q=>by
 have h1:(0:Int)<j:=hc
 exact mod_int' ⋯ (by rw [Int.fmod_eq_emod_of_nonneg i ⋯];exact q)
theorem qsp:OpR X (binaryOp .Mod) (rI (λ_ j=>j≠0) λi j=>.int (i.fmod j)):=opI λ_ _ _ _ _ _ _ hc q=>mod_int' hc q
theorem op_shl:OpR X (binaryOp .LShift) (rI CPow λi j=>.int (i*2 ^ j.toNat)):=opI λ_ _ _ _ _ _ _ hc q=>lshift_int_small hc.1 hc.2.1 hc.2.2 q
theorem qjE:OpR X (inplaceOp .Add) (rI0 λi j=>.int (i+j)):=qvd λ_ _ _ _ _ _ _ q=>iadd_int q
theorem qhs:OpR X (inplaceOp .Sub) (rI0 λi j=>.int (i - j)):=qvd λ_ _ _ _ _ _ _ q=>isub_int q
theorem unI {f:Value->Sem Value} {g:Int->Int}
  (rule:∀ (i:Int) (t:Tok) (s:Shared) (Q:Value->Shared->Prop) (E:Value->Shared->Prop),Q (.int (g i) s.toks) { s with toks:=s.toks+1 }->wpAny (model X.prog X.w) X.A (f (.int i t)) Q E s) :
  UnR X f (rU λi=>.int (g i)):=by
 intro pins s σ H x v Q I rx h
 obtain ⟨i,rfl,q⟩:=h
 obtain ⟨t,rfl⟩:=rx
 exact rule i t s _ _ ⟨.int (g i),H,I.tok _,⟨_,rfl⟩,q⟩
theorem qa0:UnR X (unaryOp .USub) (rU λi=>.int (-i)):=unI λ_ _ _ _ _ q=>neg_int q
end
noncomputable def scal:V->V->Bool
 | .non,.non=>true | .non,.int _=>true | .int _,.non=>true | .non,.bl _=>true | .bl _,.non=>true | .non,.str _=>true | .str _,.non=>true
 | .int _,.int _=>true | .bl _,.bl _=>true | .str _,.str _=>true | .byt _,.byt _=>true
 | .int _,.str _=>true | .str _,.int _=>true | .bl _,.str _=>true | .str _,.bl _=>true
 | _,_=>false
noncomputable def rEq:R2:=λx y H Q=>scal x y=true/\Q (.bl (decide (x=y))) H
noncomputable def rNe:R2:=λx y H Q=>scal x y=true/\Q (.bl (!decide (x=y))) H
theorem qog {i j:Int}:decide (V.int i=V.int j)=(i == j):=by
 rw [Bool.eq_iff_iff]
 simp
theorem qrF {i j:Bool}:decide (V.bl i=V.bl j)=(i == j):=by
 rw [Bool.eq_iff_iff]
 simp
theorem qoh {i j:Str}:decide (V.str i=V.str j)=(i == j):=by
 rw [Bool.eq_iff_iff]
 simp
theorem qoi {i j:Array UInt8}:decide (V.byt i=V.byt j)=(i.toList == j.toList):=by
 rw [Bool.eq_iff_iff]
 cases i
 cases j
 simp
section
variable {X:Cx} {a b c:Expr} {ta tb tc:TE} {pos:Pos}
theorem qba {pins:List (Addr×Obj)} {σ:St} {H:Hp} {s:Shared} {Q:VK} {k k':Bool} (I:Inv X pins σ H s) (q:Q (.bl k) H) (e:k=k'):EP X pins σ Q (.bool k') s:=by
 subst e
 exact ⟨.bl k,H,I,rfl,q⟩
theorem qc7:OpR X (compareOp .Eq) rEq:=by
 intro pins s σ H x y v u Q I rx ry h
 obtain ⟨hs,q⟩:=h
 cases x with
 | non=>
   cases rx
   cases y with
   | non=>cases ry;exact PySem.EqNone.eq_none_none (qba I q (by simp))
   | bl j=>cases ry;exact PySem.EqNone.eq_none_bool (qba I q (by simp))
   | int j=>obtain ⟨t',rfl⟩:=ry;exact PySem.EqNone.eq_none_int (qba I q (by simp))
   | str j=>obtain ⟨t',rfl⟩:=ry;exact PySem.EqNone.eq_none_str (qba I q (by simp))
   | _=>exact absurd (show false=true from hs) wbg
 | bl i=>
   cases rx
   cases y with
   | non=>cases ry;exact PySem.EqNone.eq_bool_none (qba I q (by simp))
   | bl j=>cases ry;exact eq_bool (qba I q qrF)
   | str j=>obtain ⟨t',rfl⟩:=ry;exact PySem.EqMixed.eq_bool_str (qba I q (by simp))
   | _=>exact absurd (show false=true from hs) wbg
 | int i=>
   obtain ⟨t,rfl⟩:=rx
   cases y with
   | non=>cases ry;exact PySem.EqNone.eq_int_none (qba I q (by simp))
   | int j=>obtain ⟨t',rfl⟩:=ry;exact eq_int (qba I q qog)
   | str j=>obtain ⟨t',rfl⟩:=ry;exact PySem.EqMixed.eq_int_str (qba I q (by simp))
   | _=>exact absurd (show false=true from hs) wbg
 | str i=>
   obtain ⟨t,rfl⟩:=rx
   cases y with
   | non=>cases ry;exact PySem.EqNone.eq_str_none (qba I q (by simp))
   | bl j=>cases ry;exact PySem.EqMixed.eq_str_bool (qba I q (by simp))
   | int j=>obtain ⟨t',rfl⟩:=ry;exact PySem.EqMixed.eq_str_int (qba I q (by simp))
   | str j=>obtain ⟨t',rfl⟩:=ry;exact eq_str (qba I q qoh)
   | _=>exact absurd (show false=true from hs) wbg
 | byt i=>
   obtain ⟨t,rfl⟩:=rx
   cases y with
   | byt j=>obtain ⟨t',rfl⟩:=ry;exact PySem.W.eq_bytes (qba I q qoi)
   | _=>exact absurd (show false=true from hs) wbg
 | _=>cases y <;> exact absurd (show false=true from hs) wbg
theorem qjF:OpR X (compareOp .NotEq) rNe:=by
 intro pins s σ H x y v u Q I rx ry h
 obtain ⟨hs,q⟩:=h
 cases x with
 | non=>
   cases rx
   cases y with
   | non=>cases ry;exact PySem.EqNone.ne_none_none (qba I q (by simp))
   | bl j=>cases ry;exact PySem.EqNone.ne_none_bool (qba I q (by simp))
   | int j=>obtain ⟨t',rfl⟩:=ry;exact PySem.EqNone.ne_none_int (qba I q (by simp))
   | str j=>obtain ⟨t',rfl⟩:=ry;exact PySem.EqNone.ne_none_str (qba I q (by simp))
   | _=>exact absurd (show false=true from hs) wbg
 | bl i=>
   cases rx
   cases y with
   | non=>cases ry;exact PySem.EqNone.ne_bool_none (qba I q (by simp))
   | bl j=>cases ry;exact ne_bool (qba I q (congrArg not qrF))
   | str j=>obtain ⟨t',rfl⟩:=ry;exact PySem.EqMixed.ne_bool_str (qba I q (by simp))
   | _=>exact absurd (show false=true from hs) wbg
 | int i=>
   obtain ⟨t,rfl⟩:=rx
   cases y with
   | non=>cases ry;exact PySem.EqNone.ne_int_none (qba I q (by simp))
   | int j=>obtain ⟨t',rfl⟩:=ry;exact ne_int (qba I q (congrArg not qog))
   | str j=>obtain ⟨t',rfl⟩:=ry;exact PySem.EqMixed.ne_int_str (qba I q (by simp))
   | _=>exact absurd (show false=true from hs) wbg
 | str i=>
   obtain ⟨t,rfl⟩:=rx
   cases y with
   | non=>cases ry;exact PySem.EqNone.ne_str_none (qba I q (by simp))
   | bl j=>cases ry;exact PySem.EqMixed.ne_str_bool (qba I q (by simp))
   | int j=>obtain ⟨t',rfl⟩:=ry;exact PySem.EqMixed.ne_str_int (qba I q (by simp))
   | str j=>obtain ⟨t',rfl⟩:=ry;exact ne_str (qba I q (congrArg not qoh))
   | _=>exact absurd (show false=true from hs) wbg
 | byt i=>
   obtain ⟨t,rfl⟩:=rx
   cases y with
   | byt j=>obtain ⟨t',rfl⟩:=ry;exact PySem.W.ne_bytes (qba I q (congrArg not qoi))
   | _=>exact absurd (show false=true from hs) wbg
 | _=>cases y <;> exact absurd (show false=true from hs) wbg
theorem qlP:OpR X (compareOp .Lt) (rI0 λi j=>.bl (decide (i<j))):=qve λ_ _ _ _ _ _ _ q=>lt_int q
theorem qtZ:OpR X (compareOp .LtE) (rI0 λi j=>.bl (decide (i<=j))):=qve λ_ _ _ _ _ _ _ q=>le_int q
theorem qht:OpR X (compareOp .Gt) (rI0 λi j=>.bl (decide (j<i))):=qve λ_ _ _ _ _ _ _ q=>gt_int q
theorem qt0:OpR X (compareOp .GtE) (rI0 λi j=>.bl (decide (j<=i))):=qve λ_ _ _ _ _ _ _ q=>ge_int q
theorem qoj:OpR X (compareOp .Is) (λx y H Q=>y=.non/\Q (.bl (decide (x=.non))) H):=by
 intro pins s σ H x y v u Q I rx ry h
 obtain ⟨rfl,q⟩:=h
 cases ry
 refine is_none_gen (qba I q ?_)
 cases x <;> first
  | (cases rx;rfl)
  | (obtain ⟨t,rfl⟩:=rx;rfl)
theorem qok:OpR X (compareOp .IsNot) (λx y H Q=>y=.non/\Q (.bl (!decide (x=.non))) H):=by
 intro pins s σ H x y v u Q I rx ry h
 obtain ⟨rfl,q⟩:=h
 cases ry
 refine isnot_none_gen (qba I q ?_)
 cases x <;> first
  | (cases rx;rfl)
  | (obtain ⟨t,rfl⟩:=rx;rfl)
theorem nomark (b:Expr) {op:CmpOp} (h:op≠.In:=by decide) (h2:op≠.NotIn:=by decide):behindInMarks op b=false:=by
 have e1:(op == CmpOp.In)=false:=by cases op <;> first | rfl | exact absurd rfl h
 have e2:(op == CmpOp.NotIn)=false:=by cases op <;> first | rfl | exact absurd rfl h2
 cases b <;> simp [behindInMarks,e1,e2]
theorem qhu {op:CmpOp} {r:R2} (ho:OpR X (compareOp op) r) (ha:PE X a ta) (hb:PE X b tb) (hm:behindInMarks op b=false):PE X (.Compare a [op] [b] pos) (tOp r ta tb):=by
 intro pins s σ H Q I h
 exact wpAny_Compare1 (qvh ha hb I h λv u s2 x y H2 I2 rx ry q=>ho pins s2 σ H2 x y v u Q I2 rx ry q) hm
noncomputable def qaX (t:TE):TT:=λσ H Q=>t σ H λx H'=>∃ k,x=.bl k/\Q k H'
theorem qax {op:CmpOp} {r:R2} (ho:OpR X (compareOp op) r) (ha:PE X a ta) (hb:PE X b tb) (hm:behindInMarks op b=false):PT X (.Compare a [op] [b] pos) (qaX (tOp r ta tb)):=by
 intro pins s σ H Q I h
 refine wpAny_isTrue_Compare1 (thn (ha pins s σ H _ I h) λv s1 ⟨x,H1,I1,r1,q1⟩=>thn (hb pins s1 σ H1 _ I1 q1) λu s2 ⟨y,H2,I2,r2,q2⟩=>
  thn (ho pins s2 σ H2 x y v u _ I2 r1 r2 q2) λc s3 ⟨z,H3,I3,r3,k,e,q3⟩=>?_) hm
 subst e
 cases r3
 exact wpAny_truthy_bool ⟨H3,I3,q3⟩
noncomputable def qrG (r r':R2) (ta tb tc:TE):TE:=λσ H Q=>ta σ H λx H1=>tb σ H1 λy H2=>r x y H2 λz H3=>∃ k,z=.bl k/\
 (if k=true then tc σ H3 λw' H4=>r' y w' H4 Q else Q (.bl false) H3)
noncomputable def qwb (K:PySem.W.Frag) (x:V) (H:Hp) (k:Bool):Prop:=
 match x with
 | .non=>k=false
 | .bl b=>k=b
 | .int i=>k=(i != 0)
 | .str y=>y.length<=sizeLine/\k=((y.length:Int) != 0)
 | .byt y=>y.size<=sizeLine/\k=((y.size:Int) != 0)
 | .ref p=>(∃ xs,SqL K H p xs/\k=!xs.isEmpty)\/(∃ xs,SqT K H p xs/\k=!xs.isEmpty)\/∃ kvs,H p=some (.dK kvs)/\k=!kvs.isEmpty
 | _=>False
theorem qnv {κ:Type} {kvs:List (κ×V)} {vs:List (κ×Value)} (r:KV kvs vs):(!vs.isEmpty)=!kvs.isEmpty:=by
 cases r <;> rfl
theorem qi1 {xs:List V} {its:List Value} (r:Vals xs its):(!its.toArray.isEmpty)=!xs.isEmpty:=by
 cases r <;> simp
theorem qi2:(sizeLine:Nat)<2 ^ 63:=by rw [sizeLine_eq];decide
theorem qt1:qwa X (λx H Q=>∃ k,qwb X.K x H k/\Q k H):=by
 intro pins s σ H x v Q I rx h
 obtain ⟨k,e,q⟩:=h
 have hl:=qi2
 have hs:sizeLine=16777216:=sizeLine_eq
 cases x with
 | non=>
   cases rx
   have e':k=false:=e
   subst e'
   exact truthy_none ⟨H,I,q⟩
 | bl b=>
   cases rx
   have e':k=b:=e
   subst e'
   exact wpAny_truthy_bool ⟨H,I,q⟩
 | int i=>
   obtain ⟨t,rfl⟩:=rx
   have e':k=(i != 0):=e
   subst e'
   exact PySem.P.truthy_int ⟨H,I,q⟩
 | str y=>
   obtain ⟨t,rfl⟩:=rx
   obtain ⟨hy,e'⟩:y.length<=sizeLine/\k=((y.length:Int) != 0):=e
   subst e'
   exact PySem.P.truthy_str ⋯ ⟨H,I.tok _,q⟩
 | byt y=>
   obtain ⟨t,rfl⟩:=rx
   obtain ⟨hy,e'⟩:y.size<=sizeLine/\k=((y.size:Int) != 0):=e
   subst e'
   exact PySem.W.truthy_bytes ⋯ ⟨H,I.tok _,q⟩
 | ref p=>
   cases rx
   have e':(∃ xs,SqL X.K H p xs/\k=!xs.isEmpty)\/(∃ xs,SqT X.K H p xs/\k=!xs.isEmpty)\/∃ kvs,H p=some (.dK kvs)/\k=!kvs.isEmpty:=e
   rcases e' with ⟨xs,hx,e'⟩ | ⟨xs,hx,e'⟩ | ⟨kvs,hx,e'⟩
   ·subst e'
    obtain ⟨its,r,pl,hz⟩:=I.list hx
    have hlen:=r.length
    exact wpAny_truthy_list pl.isList (by simp only [waj];omega) ⟨H,I.tok _,by rw [qi1 r];exact q⟩
   ·subst e'
    obtain ⟨its,r,pl,hz⟩:=I.tuple hx
    have hlen:=r.length
    exact truthy_tuple pl (by simp only [waj];omega) ⟨H,I.tok _,by rw [qi1 r];exact q⟩
   ·subst e'
    obtain ⟨hz,hS,vs,r,m⟩:kvs.length<=sizeLine/\(p == sysModules)=false/\∃ vs,KV kvs vs/\s.heap.DictOf (qjB X.prog X.w) p vs:=I.hok p _ hx
    have hlen:kvs.length=vs.length:=Paired.length r
    exact wpAny_truthy_dict hS m ⋯ ⟨H,I.tok _,by rw [qnv r];exact q⟩
 | _=>exact (show False from e).elim
theorem qfh {x:V} {us:List Value} (r:Vals [x] us):∃ u,us=[u]/\RelV x u:=by
 cases r with
 | cons r1 r2=>cases r2;exact ⟨_,rfl,r1⟩
theorem vals2 {x y:V} {us:List Value} (r:Vals [x,y] us):∃ u w',us=[u,w']/\RelV x u/\RelV y w':=by
 cases r with
 | cons r1 r2=>
   cases r2 with
   | cons r3 r4=>cases r4;exact ⟨_,_,rfl,r1,r3⟩
theorem qqG:qdz X (.builtin "abs") (λxs H Q=>∃ i,xs=[.int i]/\Q (.int (if i<0 then -i else i)) H):=by
 intro pins s σ H xs us Q I r h
 obtain ⟨i,rfl,q⟩:=h
 obtain ⟨u,rfl,t,rfl⟩:=qfh r
 exact call_abs_int λu tk=>⟨.int (if i<0 then -i else i),H,I.tok _,⟨_,rfl⟩,q⟩
theorem qol (hc:X.calm=true):qdz X (.builtin "max") (λxs H Q=>∃ i j,xs=[.int i,.int j]/\Q (.int (if j > i then j else i)) H):=by
 intro pins s σ H xs us Q I r h
 obtain ⟨i,j,rfl,q⟩:=h
 obtain ⟨u,w',rfl,⟨t,rfl⟩,⟨t',rfl⟩⟩:=vals2 r
 refine max_two_ints (I.ok.hd hc) λh' tk k=>⟨_,H,I.kept k,?_,q⟩
 by_cases hj:j > i
 ·rw [if_pos hj,if_pos hj];exact ⟨_,rfl⟩
 ·rw [if_neg hj,if_neg hj];exact ⟨_,rfl⟩
theorem qom:qdz X (.type "int") (λxs H Q=>(∃ i,xs=[.int i]/\Q (.int i) H)\/∃ k,xs=[.bl k]/\Q (.int (if k then 1 else 0)) H):=by
 intro pins s σ H xs us Q I r h
 rcases h with ⟨i,rfl,q⟩ | ⟨k,rfl,q⟩
 ·obtain ⟨u,rfl,t,rfl⟩:=qfh r
  exact call_int_int ⟨.int i,H,I,⟨_,rfl⟩,q⟩
 ·obtain ⟨u,rfl,r1⟩:=qfh r
  cases r1
  exact call_int_bool ⟨.int (if k then 1 else 0),H,I.tok _,⟨_,rfl⟩,q⟩
end
end L2
namespace L2
open PySem PySem.Spec PyProof.Rows
structure ObjM (h:Heap) (x dx C:Addr) (mA:Str->Option Value):Prop where
 obj:h.get? x=some (PySem.W.instObj C dx)
 ns:h.Ns1 dx mA
 ne:dx≠x
theorem qon {h:Heap} {dx:Addr} {mA:Str->Option Value} (n:h.Ns1 dx mA):∃ od,h.get? dx=some od/\∀ name,PySem.W.lookIn name od=some (mA name):=by
 obtain ⟨o,es,ep,ho,hd,hk,_,hm⟩:=n
 refine ⟨o,ho,λname=>?_⟩
 have e:=hm name
 unfold nsFind findBy at e
 rw [<-Array.find?_toList] at e
 unfold PySem.W.lookIn
 rw [hd]
 dsimp only
 split
 ·rename_i y q
  rw [q] at e
  exact congrArg some e
 ·rename_i q
  rw [q] at e
  have a:es.toList.any (·.refKey)=false:=by
   rw [List.any_eq_false]
   intro y hy
   obtain ⟨z,t,hkey⟩:=hk y (Array.mem_toList_iff.mp hy)
   simp [DictEntry.refKey,hkey]
  have a':¬ es.toList.any (·.refKey)=true:=by rw [a];exact wbg
  rw [if_neg a']
  exact congrArg some e
theorem ObjM.look {h:Heap} {x dx C:Addr} {mA:Str->Option Value} (I:ObjM h x dx C mA):∃ od,PySem.W.InstAt h x (PySem.W.instObj C dx) C (some od)/\∀ name,PySem.W.lookIn name od=some (mA name):=
 let ⟨od,ho,hl⟩:=qon I.ns
 ⟨od,⟨I.obj,rfl,rfl,ho⟩,hl⟩
section
variable {prog:Program} {w:World} {A:Around} {E:Value->Shared->Prop} {s:Shared} {K:PySem.W.Frag} {x dx C f:Addr} {mA:Str->Option Value} {name:Str} {v:Value}
end
theorem RelO.none_of {o:Option Value} (r:RelO none o):o=none:=by
 cases o with
 | none=>rfl
 | some u=>exact (show False from r).elim
section
variable {P:Program} {w:World} {H H':Hp} {h h':Heap} {a C dx:Addr} {fs fs':List (Str×V)}
theorem qsq (hok:HOk P w H h) (e:H a=some (.ins C dx fs)):∃ mA,ObjM h a dx C mA/\(∀ f,RelO (fs.lookup f) (mA f))/\PySem.Within mA (fs.map (·.1))/\fs.length<=1000/\H dx=some (.own a):=by
 obtain ⟨d,z,ne,ob,mA,n,r,q⟩:=(show ObjOk P w H h a (.ins C dx fs) from hok a _ e)
 exact ⟨mA,⟨ob,n,ne⟩,r,q,z,d⟩
end
structure Cls (K:PySem.W.Frag) (C:Addr):Prop where
 pg:PySem.W.plainGet K C Str.empty=true
 hd:PySem.W.hasDictIn K C=true
 po:PySem.W.plainOver K C=true
 sa:PySem.W.findIn K (.ref C) "__setattr__" = some (some (.builtin "object.__setattr__"))
theorem Cls.get {K:PySem.W.Frag} {C:Addr} (c:Cls K C) (f:Str):PySem.W.plainGet K C f=true:=c.pg
structure Con (K:PySem.W.Frag) (C:Addr) (f:Str) (v:V) (u:Value):Prop where
 at_:PySem.W.findIn K (.ref C) f=some (some u)
 rel:RelV v u
 get:PySem.W.specialIn K u "__get__" = some none
 cp:PySem.W.copiedNames.contains f=false
structure Meth (K:PySem.W.Frag) (C:Addr) (m:Str) (f:Addr):Prop where
 at_:PySem.W.findIn K (.ref C) m=some (some (.ref f))
 fn:PySem.W.isFn K (.ref f)=true
 kp:PySem.W.keepIn K (.ref f)=true
section
variable {X:Cx} {pins:List (Addr×Obj)} {σ:St} {H:Hp} {s:Shared} {a C dx:Addr} {fs:List (Str×V)} {f:Str} {v:V} {A:Around} {E:Value->Shared->Prop}
end
section
variable {X:Cx} {o e value:Expr} {f:Str} {pos pos' tpos:Pos} {ta tv:TE}
end
section
variable {X:Cx} {pins:List (Addr×Obj)} {σ:St} {H:Hp} {s:Shared} {A:Around} {E:Value->Shared->Prop} {Q:Value->Shared->Prop} {c:Value} {b:Bool}
inductive TyOf (K:PySem.W.Frag) (H:Hp):V->Value->Prop where
 | non:TyOf K H .non (.type "NoneType")
 | bl (x:Bool):TyOf K H (.bl x) (.type "bool")
 | int (i:Int):TyOf K H (.int i) (.type "int")
 | str (x:Str):TyOf K H (.str x) (.type "str")
 | flt (x:UInt64):TyOf K H (.flt x) (.type "float")
 | lst {a:Addr} {xs:List V} (e:H a=some (.lst xs)):TyOf K H (.ref a) (.type "list")
 | frz {a:Addr} {o:Obj} {xs:List V} (e:H a=some (.frz o (.lst xs))):TyOf K H (.ref a) (.type "list")
 | tup {a:Addr} {xs:List V} (e:H a=some (.tup xs)):TyOf K H (.ref a) (.type "tuple")
 | dK {a:Addr} {kvs:List (Key×V)} (e:H a=some (.dK kvs)):TyOf K H (.ref a) (.type "dict")
 | dT {a:Addr} {kvs:List (List Key×V)} (e:H a=some (.dT kvs)):TyOf K H (.ref a) (.type "dict")
 | ins {a C dx:Addr} {fs:List (Str×V)} (e:H a=some (.ins C dx fs)) (cl:Cls K C) (ha:PySem.W.findIn K (.ref C) "__class__" = some (some (.builtin "object.__class__")))
   (hn:PySem.W.specialIn K (.builtin "object.__class__") "__get__" = some (some (.builtin "getset_descriptor.__get__"))) (htk:PySem.W.takesIn K (.builtin "object.__class__")=some true)
   (hm:PySem.W.mroIn K C (.type "object")=some true):TyOf K H (.ref a) (.ref C)
theorem qoo {x:V} {u t:Value} (I:Inv X pins σ H s) (rx:RelV x u) (ty:TyOf X.K H x t) (e:PySem.W.kitOne X.K t c=some b) (h:∀ tk,Q (.bool b) { s with toks:=tk }) :
  wpAny (model X.prog X.w) A (call (.builtin "isinstance") [u,c]) Q E s:=by
 cases ty with
 | non=>cases (show u=Value.none from rx);exact PySem.W.kia_one PySem.W.kitx_none I.kIn True.intro e (λz=>nomatch z) h
 | bl y=>cases (show u=Value.bool y from rx);exact PySem.W.kia_one PySem.W.kitx_bool I.kIn True.intro e (λz=>nomatch z) h
 | int i=>obtain ⟨t,q⟩:=(show ∃ t,u=Value.int i t from rx);cases q;exact PySem.W.kia_one PySem.W.kitx_int I.kIn True.intro e (λz=>nomatch z) h
 | str y=>obtain ⟨t,q⟩:=(show ∃ t,u=Value.str y t from rx);cases q;exact PySem.W.kia_one PySem.W.kitx_str I.kIn True.intro e (λz=>nomatch z) h
 | flt y=>obtain ⟨t,q⟩:=(show ∃ t,u=Value.float y t from rx);cases q;exact PySem.W.kia_one PySem.W.kitx_float I.kIn True.intro e (λz=>nomatch z) h
 | @lst a xs ea=>
   cases (show u=Value.ref a from rx)
   obtain ⟨_,_,n,_,h1⟩:=(show ObjOk X.prog X.w H s.heap a (.lst xs) from I.hok a _ ea)
   exact PySem.W.kia_one PySem.W.kitx_list I.kIn ⟨_,h1,rfl⟩ e (λz=>nomatch z) h
 | @frz a ob xs ea=>
   cases (show u=Value.ref a from rx)
   obtain ⟨_,_,_,n,_,h1⟩:=(show ObjOk X.prog X.w H s.heap a (.frz ob (.lst xs)) from I.hok a _ ea)
   exact PySem.W.kia_one PySem.W.kitx_list I.kIn ⟨_,h1,rfl⟩ e (λz=>nomatch z) h
 | @tup a xs ea=>
   cases (show u=Value.ref a from rx)
   obtain ⟨_,_,_,p⟩:=(show ObjOk X.prog X.w H s.heap a (.tup xs) from I.hok a _ ea)
   obtain ⟨o,h1,h2,_⟩:=p
   exact PySem.W.kia_one PySem.W.kitx_tuple I.kIn ⟨o,h1,h2⟩ e (λz=>nomatch z) h
 | @dK a kvs ea=>
   cases (show u=Value.ref a from rx)
   obtain ⟨_,_,vs,_,p⟩:=(show ObjOk X.prog X.w H s.heap a (.dK kvs) from I.hok a _ ea)
   obtain ⟨o,es,ep,h1,h2,_⟩:=p
   exact PySem.W.kia_one PySem.W.kitx_dict I.kIn ⟨o,h1,h2.1⟩ e (λz=>nomatch z) h
 | @dT a kvs ea=>
   cases (show u=Value.ref a from rx)
   obtain ⟨_,_,xs,_,o,es,ep,h1,h2,_⟩:=(show ObjOk X.prog X.w H s.heap a (.dT kvs) from I.hok a _ ea)
   exact PySem.W.kia_one PySem.W.kitx_dict I.kIn ⟨o,h1,h2.1⟩ e (λz=>nomatch z) h
 | @ins a C dx fs ea cl ha hn htk hm=>
   cases (show u=Value.ref a from rx)
   obtain ⟨mA,O,_⟩:=qsq I.hok ea
   obtain ⟨od,J,_⟩:=O.look
   exact PySem.W.kia_one (PySem.W.kitx_own (cl.get _) cl.hd ha hn htk hm) I.kIn J e (λz=>nomatch z) h
end
end L2
namespace L2
open PySem PySem.Spec PyProof.Rows
structure Room (k:Nat) (A:Around):Prop where
 hd:A.handled=none
 dp:A.depth+3*k+105<recursionLimit
 un:A.units+16*k+200<cLine
theorem Room.mono {j k:Nat} {A:Around} (r:Room k A) (h:j<=k):Room j A:=⟨r.hd,by have:=r.dp;omega,by have:=r.un;omega⟩
theorem Room.deeper {k:Nat} {A:Around} (r:Room (k+1) A) (env:Env):Room k (A.deeper env):=
 ⟨r.hd,by have:=r.dp;show A.depth+1+3*k+105<_;omega,by have:=r.un;show A.units+3+16*k+200<_;omega⟩
theorem Room.in1 {k:Nat} {A:Around} (r:Room (k+1) A):Room k A.in1:=
 ⟨r.hd,by have:=r.dp;show A.depth+3*k+105<_;omega,by have:=r.un;show A.units+1+16*k+200<_;omega⟩
theorem Room.depth {k:Nat} {A:Around} (r:Room k A):A.depth<recursionLimit:=by have:=r.dp;omega
theorem Room.units {k:Nat} {A:Around} (r:Room k A):A.units+64<cLine:=by have:=r.un;omega
theorem Room.units0 {k:Nat} {A:Around} (r:Room k A):A.units<cLine:=by have:=r.un;omega
noncomputable def qan:TA:=λ_ H Q=>Q [] H
noncomputable def qab (ta:TE) (tr:TA):TA:=λσ H Q=>ta σ H λx H1=>tr σ H1 λxs H2=>Q (x::xs) H2
section
variable {X:Cx} {e:Expr} {es:List Expr} {te:TE} {t:TA} {pos:Pos}
theorem qae:PA X [] qan:=λ_ _ _ _ H Q I h=>Calls.spliced_nil ⟨[],H,I,.nil,h⟩
theorem qaa (ha:PE X e te) (hr:PA X es t) (hs:starEach (e::es) X.env=(false,eval e X.env)::starEach es X.env:=by rfl):PA X (e::es) (qab te t):=by
 intro pos pins s σ H Q I h
 rw [hs]
 show wpAny _ _ (spliced ((false,eval e X.env)::backTo pos (starEach es X.env))) _ _ s
 refine Calls.spliced_cons (thn (ha pins s σ H _ I h) λu s1 ⟨x,H1,I1,r1,q1⟩=>?_)
 exact thn (hr pos pins s1 σ H1 _ I1 q1) λus s2 ⟨xs,H2,I2,r2,q2⟩=>⟨x::xs,H2,I2,.cons r1 r2,q2⟩
noncomputable def qlQ (t:TA):TE:=λσ H Q=>t σ H λxs H1=>xs.length<=sizeLine/\∀ p,H1 p=none->Q (.ref p) (upd H1 p (.tup xs))
noncomputable def qdv (t:TA):TE:=λσ H Q=>t σ H λxs H1=>xs.length<=sizeLine/\∀ p,H1 p=none->Q (.ref p) (upd H1 p (.lst xs))
theorem qeb {x1} (h:PA X es t):PE X (.Tuple es x1 pos) (qlQ t):=by
 intro pins s σ H Q I hq
 refine wpAny_Tuple_spliced (thn (h pos pins s σ H _ I hq) λus s1 ⟨xs,H1,I1,r,z,q⟩=>⟨by rw [<-r.length];exact z,?_⟩)
 have hf:H1 s1.heap.objs.size=none:=I1.hok.fresh (wac _)
 refine ⟨.ref s1.heap.objs.size,upd H1 s1.heap.objs.size (.tup xs),I1.laid (t':=s1.toks) (λb u e=>Heap.get?_push_of_some _ e) (wac _) ?_,rfl,q _ hf⟩
 exact ⟨z,us,r,⟨_,Heap.get?_push_size _ rfl,rfl,_,rfl⟩⟩
theorem qa5 (h:PA X es t):PE X (.List es pos) (qdv t):=by
 intro pins s σ H Q I hq
 refine wpAny_List_spliced (thn (h pos pins s σ H _ I hq) λus s1 ⟨xs,H1,I1,r,z,q⟩=>⟨by rw [<-r.length];exact z,?_⟩)
 have hf:H1 s1.heap.objs.size=none:=I1.hok.fresh (wac _)
 refine ⟨.ref s1.heap.objs.size,upd H1 s1.heap.objs.size (.lst xs),I1.laid (t':=s1.toks) (λb u e=>Heap.get?_push_of_some _ e) (wac _) ?_,rfl,q _ hf⟩
 exact ⟨z,us,0,r,Heap.get?_push_size _ rfl⟩
end
noncomputable abbrev Sp:=List V->Hp->VK->XK->Prop
noncomputable abbrev CXT:=List Env->Hp->Shared->XK->Value->Shared->Prop
structure Env0 (P:Program) (w:World) (K:PySem.W.Frag) (mg:Str->Option Value) (base:Heap) (A:Around) (outer:List Env) (s:Shared) (H:Hp):Prop where
 frames:A.frames=some outer
 mod:Mod K mg base
 bs:∀ b o,base.get? b=some o->s.heap.get? b=some o/\H b=none
 bsz:base.objs.size<=s.heap.objs.size
 funs:s.heap.FunFrames base outer
 frf:∀ b∈frs outer,H b=none
 hok:HOk P w H s.heap
 bare:AllBare s.gens
 seer:base.NoSeer
 tree:(model P w).prog.given.tree=none
noncomputable def CE (outer:List Env) (P:Program) (w:World) (H:Hp) (s:Shared) (Q:VK) (u:Value) (s':Shared):Prop:=
 ∃ v H',s'.os=s.os/\AllBare s'.gens/\Un (frs outer) [] H H' s.heap s'.heap/\HOk P w H' s'.heap/\RelV v u/\Q v H'
noncomputable def CR (CX:CXT) (outer:List Env) (P:Program) (w:World) (H:Hp) (s:Shared) (Q:VK) (E:XK) (r:Result) (s':Shared):Prop:=
 match r with
 | .ok (.ret u)=>CE outer P w H s Q u s'
 | .ok _=>False
 | .error e=>CX outer H s E e s'
structure FnOk (P:Program) (w:World) (K:PySem.W.Frag) (mg:Str->Option Value) (base:Heap) (CX:CXT) (k:Nat) (f:Addr) (fd:FuncData) (ps:List Str) (sp:Sp):Prop where
 len:∀ vs H Q E,sp vs H Q E->vs.length=ps.length
 run:∀ (A:Around) (outer:List Env) (s:Shared) (H:Hp) (args:Args) (us:List Value) (vs:List V) (Q:VK) (E:XK),Room k A->Env0 P w K mg base A outer s H->BindsTo s fd args (ps.zip us)->Vals vs us->sp vs H Q E->
  codeAny (model P w) A (.call (.ref f) args) (CR CX outer P w H s Q E) s
theorem FnOk.mono {P:Program} {w:World} {K:PySem.W.Frag} {mg:Str->Option Value} {base:Heap} {CX:CXT} {j k:Nat} {f:Addr} {fd:FuncData} {ps:List Str} {sp:Sp} (F:FnOk P w K mg base CX j f fd ps sp) (h:j<=k) :
  FnOk P w K mg base CX k f fd ps sp:=⟨F.len,λA outer s H args us vs Q E hr=>F.run A outer s H args us vs Q E (hr.mono h)⟩
theorem FnOk.imp {P:Program} {w:World} {K:PySem.W.Frag} {mg:Str->Option Value} {base:Heap} {CX:CXT} {k:Nat} {f:Addr} {fd:FuncData} {ps:List Str} {sp sp':Sp} (F:FnOk P w K mg base CX k f fd ps sp)
  (h:∀ vs H Q E,sp' vs H Q E->sp vs H Q E):FnOk P w K mg base CX k f fd ps sp':=
 ⟨λvs H Q E q=>F.len vs H Q E (h _ _ _ _ q),λA outer s H args us vs Q E hr he hb hv hs=>F.run A outer s H args us vs Q E hr he hb hv (h _ _ _ _ hs)⟩
theorem Env0.in1 {P:Program} {w:World} {K:PySem.W.Frag} {mg:Str->Option Value} {base:Heap} {A:Around} {outer:List Env} {s:Shared} {H:Hp} (e:Env0 P w K mg base A outer s H) :
  Env0 P w K mg base A.in1 outer s H:=⟨e.frames,e.mod,e.bs,e.bsz,e.funs,e.frf,e.hok,e.bare,e.seer,e.tree⟩
section
variable {X:Cx} {pins:List (Addr×Obj)} {σ:St} {H:Hp} {s s':Shared}
theorem Inv.env0 (I:Inv X pins σ H s):Env0 X.prog X.w X.K X.mg X.base X.A X.stack s H:=
 ⟨I.ok.frames,I.ok.mod,I.bs,wap I.ok.bsz I.sz,I.stack,I.stkFree,I.hok,I.bare,I.ok.seer,I.ok.tree⟩
theorem Inv.after {Q:VK} {u:Value} (I:Inv X pins σ H s) (h:CE X.stack X.prog X.w H s Q u s'):EP X pins σ Q u s':=by
 obtain ⟨v,H',os,bare,un,hok,r,q⟩:=h
 obtain ⟨hh,g,d,t,os'⟩:=s'
 obtain rfl:os'=s.os:=os
 exact ⟨v,H',I.call (h':=hh) (g':=g) (d':=d) (t':=t) (ch:=[]) un hok bare (λb z=>absurd z (by simp)),r,q⟩
end
noncomputable def qao (sp:Sp) (dvs:List V) (E:XK) (t:TA):TE:=λσ H Q=>t σ H λvs H1=>sp (vs++dvs) H1 Q E
noncomputable def Binds (K:PySem.W.Frag) (fd:FuncData) (ps:List Str) (ds:List Value):Prop:=
 ∀ (s:Shared) (us:List Value),K.In s.heap->(us++ds).length=ps.length->BindsTo s fd ⟨us,[]⟩ (ps.zip (us++ds))
theorem Binds.all {K:PySem.W.Frag} {fd:FuncData} {ps:List Str} (h:∀ us:List Value,us.length=ps.length->bindArgs fd ⟨us,[]⟩=pure (ps.zip us)):Binds K fd ps []:=λs us _ hl=>by
 rw [List.append_nil] at hl ⊢
 exact .of_eq (h us hl)
noncomputable def Passes (CX:CXT) (X:Cx) (E:XK):Prop:=∀ (pins:List (Addr×Obj)) (σ:St) (H:Hp) (s:Shared) (e:Value) (s':Shared),Inv X pins σ H s->CX X.stack H s E e s'->X.xe e s'
section
variable {X:Cx} {CX:CXT} {k:Nat} {f C:Addr} {fd:FuncData} {ps:List Str} {sp:Sp} {dvs:List V} {ds:List Value} {E:XK} {x m:Str} {p pos apos:Pos} {e o:Expr} {es:List Expr} {ta:TE} {t:TA}
theorem qt2 {pins:List (Addr×Obj)} {σ:St} {H:Hp} {s:Shared} {Q:VK} {us:List Value} {vs:List V} (F:FnOk X.prog X.w X.K X.mg X.base CX k f fd ps sp) (hr:Room k X.A) (hb:Binds X.K fd ps ds) (hd:Vals dvs ds) (hx:Passes CX X E)
  (I:Inv X pins σ H s) (r:Vals vs us) (h:sp (vs++dvs) H Q E):wpAny (model X.prog X.w) X.A (call (.ref f) us) (EP X pins σ Q) X.xe s:=by
 have r2:Vals (vs++dvs) (us++ds):=r.append hd
 have hl:(us++ds).length=ps.length:=by rw [<-r2.length];exact F.len _ _ _ _ h
 refine wpAny_call (codeAny_mono (F.run X.A X.stack s H ⟨us,[]⟩ (us++ds) (vs++dvs) Q E hr I.env0 (hb s us I.kIn hl) r2 h) λr s' hq=>?_)
 cases r with
 | error e=>exact hx pins σ H s e s' I hq
 | ok fl=>
   cases fl with
   | ret u=>exact I.after hq
   | next=>exact False.elim hq
   | brk=>exact False.elim hq
   | cont=>exact False.elim hq
theorem qsr (F:FnOk X.prog X.w X.K X.mg X.base CX k f fd ps sp) (hr:Room k X.A) (hg:Gl X x) (hm:X.mg x=some (.ref f)) (hk:PySem.W.keepIn X.K (.ref f)=true) (hb:Binds X.K fd ps ds) (hd:Vals dvs ds) (hx:Passes CX X E)
  (ha:PA X (e::es) t) (hdb:(x == ("__debug__" : Str))=false:=by decide) (he:starEach (e::es) X.env=(false,eval e X.env)::starEach es X.env:=by rfl) (hpl:(backTo pos (starEach es X.env)).any (·.1)=false:=by rfl) :
  PE X (.Call (.Name x p) (e::es) [] pos) (qao sp dvs E t):=by
 intro pins s σ H Q I h
 refine wpAny_Call_Name_kw (qn6 I hg hm ?_ hdb)
 refine PySem.W.callWith_K (h₀:=X.base) I.ok.mod.kin hk (thn (ha pos pins s σ H _ I h) λus s1 ⟨vs,H1,I1,r,q⟩=>⟨I1.kIn,?_⟩) he hpl
 exact qt2 F hr hb hd hx I1 r q
structure Mk (K:PySem.W.Frag) (C f:Addr):Prop where
 makes:PySem.W.makesIn K C=true
 init:PySem.W.findIn K (.ref C) "__init__" = some (some (.ref f))
 fn:PySem.W.isFn K (.ref f)=true
 kp:PySem.W.keepIn K (.ref C)=true
end
noncomputable def PK (X:Cx) (kws:List Keyword) (t:TA):Prop:=
 ∀ (pos:Pos) (pins:List (Addr×Obj)) (s:Shared) (σ:St) (H:Hp) (Q:List V->Hp->Prop),Inv X pins σ H s->t σ H Q->wpAny (model X.prog X.w) X.A (evalAll ((backToKw pos (keywordEach kws X.env)).map (·.2))) (AP X pins σ Q) X.xe s
section
variable {X:Cx} {CX:CXT} {k:Nat} {f C:Addr} {fd:FuncData} {ps ks:List Str} {sp:Sp} {E:XK} {x m:Str} {p pos apos kpos:Pos} {e o:Expr} {es:List Expr} {kws:List Keyword} {te ta:TE} {t tk:TA} {nm:Option Str}
theorem qrH:PK X [] qan:=λ_ _ _ _ H Q I h=>wpAny_evalAll_nil ⟨[],H,I,.nil,h⟩
theorem qop (ha:PE X e te) (hr:PK X kws t):PK X (⟨nm,e,kpos⟩::kws) (qab te t):=by
 intro pos pins s σ H Q I h
 show wpAny _ _ (evalAll ((do let v <-eval e X.env;standAt pos;pure v)::(backToKw pos (keywordEach kws X.env)).map (·.2))) _ _ s
 refine wpAny_evalAll_cons (wpAny_bind (thn (ha pins s σ H _ I h) λu s1 ⟨x,H1,I1,r1,q1⟩=>wpAny_bind (wpAny_standAt (wpAny_pure ?_))))
 exact thn (hr pos pins s1 σ H1 _ I1 q1) λus s2 ⟨xs,H2,I2,r2,q2⟩=>⟨x::xs,H2,I2,.cons r1 r2,q2⟩
structure KBinds (K:PySem.W.Frag) (fd:FuncData) (ps ks:List Str) (g:List Value->List Value->List Value) (gV:List V->List V->List V):Prop where
 to:∀ (s:Shared) (us ws:List Value),K.In s.heap->(g us ws).length=ps.length->BindsTo s fd ⟨us,ks.zip ws⟩ (ps.zip (g us ws))
 rel:∀ {vs:List V} {us:List Value} {zs:List V} {ws:List Value},Vals vs us->Vals zs ws->Vals (gV vs zs) (g us ws)
variable {g:List Value->List Value->List Value} {gV:List V->List V->List V}
end
structure FnScope (N P:List Str) (sc:Scope):Prop where
 kind:sc.kind=.function
 co:sc.isCoroutine=false
 gen:sc.isGenerator=false
 nd:N.Nodup
 pre:N.take P.length=P
 par:∀ x∈P,sc.names.lookup x=some .local\/sc.names.lookup x=some .cell
 nofree:∀ y∈sc.names,y.2≠.free
theorem qkD {kindOf:Str->Option NameKind} {x:Str}:∀ {binds:List (Str×Value)} {m:Str->Option Value},(∀ v,(x,v)∉binds)->bindL kindOf binds m x=m x
 | [],_,_=>rfl
 | (n,v)::r,m,h=>by
   unfold bindL
   rw [qkD λw hw=>h w (wa5 _ hw)]
   split
   ·have:x≠n:=by rintro rfl;exact h v waq
    simp [this]
   ·rfl
theorem qkE {kindOf:Str->Option NameKind} {x:Str}:∀ {binds:List (Str×Value)} {m:Str->Option Value},(∀ v,(x,v)∉binds)->bindC kindOf binds m x=m x
 | [],_,_=>rfl
 | (n,v)::r,m,h=>by
   unfold bindC
   rw [qkE λw hw=>h w (wa5 _ hw)]
   split
   ·rfl
   ·have:x≠n:=by rintro rfl;exact h v waq
    simp [this]
theorem qkF {kindOf:Str->Option NameKind} {x:Str} {v:Value}:∀ {P:List Str} {vs:List Value} {i:Nat} {m:Str->Option Value},P.Nodup->P[i]?=some x->vs[i]?=some v->kindOf x=some .local->
  bindL kindOf (P.zip vs) m x=some v
 | [],_,_,_,_,h,_,_=>by simp at h
 | _::_,[],_,_,_,_,h,_=>by simp at h
 | p::P,w::vs,0,m,nd,h1,h2,hk=>by
   simp at h1 h2;subst h1;subst h2
   show bindL kindOf ((p,w)::P.zip vs) m p=_
   unfold bindL
   rw [qkD λv hv=>(List.nodup_cons.mp nd).1 (List.of_mem_zip hv).1,if_pos hk]
   simp
 | p::P,w::vs,i+1,m,nd,h1,h2,hk=>by
   show bindL kindOf ((p,w)::P.zip vs) m x=_
   unfold bindL
   exact qkF (i:=i) (List.nodup_cons.mp nd).2 (by simpa using h1) (by simpa using h2) hk
theorem qkG {kindOf:Str->Option NameKind} {x:Str} {v:Value}:∀ {P:List Str} {vs:List Value} {i:Nat} {m:Str->Option Value},P.Nodup->P[i]?=some x->vs[i]?=some v->kindOf x≠some .local->
  bindC kindOf (P.zip vs) m x=some v
 | [],_,_,_,_,h,_,_=>by simp at h
 | _::_,[],_,_,_,_,h,_=>by simp at h
 | p::P,w::vs,0,m,nd,h1,h2,hk=>by
   simp at h1 h2;subst h1;subst h2
   show bindC kindOf ((p,w)::P.zip vs) m p=_
   unfold bindC
   rw [qkE λv hv=>(List.nodup_cons.mp nd).1 (List.of_mem_zip hv).1,if_neg hk]
   simp
 | p::P,w::vs,i+1,m,nd,h1,h2,hk=>by
   show bindC kindOf ((p,w)::P.zip vs) m x=_
   unfold bindC
   exact qkG (i:=i) (List.nodup_cons.mp nd).2 (by simpa using h1) (by simpa using h2) hk
noncomputable def start (N:List Str) (vs:List V):St:=vs.map some++List.replicate (N.length - vs.length) none
noncomputable def qss (CX:CXT) (P:Program) (w:World) (K:PySem.W.Frag) (mg:Str->Option Value) (base:Heap) (N:List Str) (qual:Str) (scope:Scope) (f:Addr) (cd:Value) (A:Around) (outer:List Env) (s:Shared) (H:Hp) (E:XK):Cx where
 prog:=P
 w:=w
 K:=K
 mg:=mg
 base:=base
 A:=A.deeper (envOfC qual scope s.heap.objs.size f cd)
 N:=N
 s₀:=s
 H₀:=H
 env:=envOfC qual scope s.heap.objs.size f cd
 outer:=outer
 stack:=envOfC qual scope s.heap.objs.size f cd::outer
 ex:=[]
 calm:=true
 fn:=λ_=>true
 pn:=[]
 xe:=λe s'=>wpAny (model P w) (A.deeper (envOfC qual scope s.heap.objs.size f cd)) (leaving (envOfC qual scope s.heap.objs.size f cd) e) (λ_ s''=>CX outer H s E e s'') (λe' s''=>CX outer H s E e' s'') s'
theorem qmG {sc:Scope} {n:Nat} {x:Str} (h:sc.names.lookup x=some .cell):∃ c,(cellsFrom n sc.names []).lookup x=some c:=by
 have q:=PySem.W.cellsFrom_some sc.names n [] (.inl h)
 exact Option.isSome_iff_exists.mp q
theorem qoq {CX:CXT} {P:Program} {w:World} {K:PySem.W.Frag} {mg:Str->Option Value} {base:Heap} {N ps:List Str} {qual:Str} {scope:Scope} {f:Addr} {cd:Value} {A:Around} {outer:List Env} {s s1:Shared} {H:Hp} {E:XK} {us:List Value} {vs:List V}
  (S:FnScope N ps scope) (hd:A.handled=none) (hdp:(A.deeper (envOfC qual scope s.heap.objs.size f cd)).depth+Builtin.pylongFrames<recursionLimit) (e0:Env0 P w K mg base A outer s H) (hl:vs.length=ps.length) (r:Vals vs us)
  (x:InCallC s s.heap.objs.size (bindL (envOfC qual scope s.heap.objs.size f cd).kindOf (ps.zip us) λ_=>none) (cellsFrom (s.heap.objs.size+1) scope.names []) (bindC (envOfC qual scope s.heap.objs.size f cd).kindOf (ps.zip us) λ_=>none) s1) :
  Inv (qss CX P w K mg base N qual scope f cd A outer s H E) [] (start N vs) H s1:=by
 have hpl:ps.length<=N.length:=by have:=congrArg List.length S.pre;rw [wa7] at this;omega
 obtain ⟨h1,tk,rfl,hk⟩:=x.done
 have noA:∀ b:Addr,b∉(qss CX P w K mg base N qual scope f cd A outer s H E).ex:=λb z=>absurd (show b∈([]:List Addr) from z) (by simp)
 refine ⟨⟨e0.mod,S.kind,rfl,rfl,wac _,λy z c h1 h2=>?_,λy hy=>?_,λy c _ h=>?_,λ_=>hd,Around.frames_deeper e0.frames,.inr ⟨rfl,rfl⟩,λb z=>absurd z (noA b),e0.bs,e0.bsz,λb _ _=>noA b,λb z=>absurd z (noA b),e0.funs,e0.frf,e0.seer,e0.tree,λs' hk'=>PySem.PylongRoom.of (e0.mod.nolimit.keeps hk') hdp (PySem.SeerAt.of (e0.seer.keeps hk') e0.tree (Around.frames_deeper e0.frames) S.gen S.co rfl rfl)⟩,
  rfl,e0.bare,Un.kept hk,⟨_,x.toInCall.ns,λi y v h1 h2 h3=>?_⟩,λy c h=>⟨_,x.cell y c h⟩,e0.hok.fresh (wac _),λy c h=>?_,λp hp=>absurd (show p∈([]:List (Addr×Obj)) from hp) (by simp),e0.hok.kept hk,?_⟩
 ·exact name_of_addr x.apart (PySem.mem_of_lookup h1) (PySem.mem_of_lookup h2)
 ·have hy:scope.names.lookup y=some .cell\/scope.names.lookup y=some .free:=hy
  rcases hy with hy | hy
  ·exact qmG hy
  ·exact absurd rfl (S.nofree _ (PySem.mem_of_lookup hy))
 ·exact wbt (x.above y c (PySem.mem_of_lookup h))
 ·have hi:i<vs.length:=by
   unfold start at h2
   by_cases hi:i<vs.length
   ·exact hi
   ·rw [List.getElem?_append_right (by simpa using hi)] at h2
    rw [wch] at h2
    split at h2 <;> cases h2
  have ha:vs[i]?=some v:=by
   unfold start at h2
   rw [List.getElem?_append_left (by simpa using hi),wae] at h2
   cases e:vs[i]? with
   | none=>rw [e] at h2;cases h2
   | some a=>rw [e] at h2;cases h2;rfl
  obtain ⟨u,hu,rv⟩:=r.get ha
  have hp:ps[i]?=some y:=by
   rw [<-S.pre,List.getElem?_take_of_lt ⋯];exact h1
  have ndP:ps.Nodup:=by rw [<-S.pre];exact S.nd.sublist (List.take_sublist _ _)
  refine ⟨u,rv,?_⟩
  rcases S.par y (wat hp) with k | k
  ·exact .inl ⟨k,qkF ndP hp hu k⟩
  ·obtain ⟨c,e⟩:=qmG (n:=s.heap.objs.size+1) k
   refine .inr ⟨.inl k,c,e,?_⟩
   have q:=x.cell y c e
   rw [qkG ndP hp hu (by show scope.names.lookup y≠_;rw [k];decide)] at q
   exact q
 ·exact e0.hok.fresh (wbt (x.above y c (PySem.mem_of_lookup h)))
 ·unfold start
  show _=N.length
  rw [wbq,waa,List.length_replicate]
  omega
theorem qvi {CX:CXT} {P:Program} {w:World} {K:PySem.W.Frag} {mg:Str->Option Value} {base:Heap} {k:Nat} {f:Addr} {name qual:Str} {params:Arguments} {body:List Stmt} {scope:Scope} {dV kV doc pm cdv ct oc:Value} {an od:Option Addr}
  {osl:Array (Option Value)} {N ps:List Str} {sp:Sp} (lk:K.lookup f=some ⟨oc,od,.func (PySem.W.fnOf name qual params body scope dV kV doc pm an cdv ct),osl⟩) (hcd:PySem.W.codeIn K cdv qual=true) (S:FnScope N ps scope)
  (len:∀ vs H Q E,sp vs H Q E->vs.length=ps.length)
  (hbody:∀ (A:Around) (outer:List Env) (s:Shared) (H:Hp) (vs:List V) (Q:VK) (E:XK),Room k (A.deeper (envOfC qual scope s.heap.objs.size f cdv))->sp vs H Q E->
   ∃ t,PSs (qss CX P w K mg base N qual scope f cdv A outer s H E) body t/\t { nx:=λ_ H'=>Q .non H',rt:=Q } (start N vs) H) :
  FnOk P w K mg base CX (k+1) f (PySem.W.fnOf name qual params body scope dV kV doc pm an cdv ct) ps sp:=by
 refine ⟨len,λA outer s H args us vs Q E hr e0 hb r hsp=>?_⟩
 have hl:=len _ _ _ _ hsp
 have KX:K.In s.heap:=e0.mod.kin.keeps λb o e=>(e0.bs b o e).1
 have lim:s.heap.NoLimit:=e0.mod.nolimit.keeps λb o e=>(e0.bs b o e).1
 have hkind:∀ y∈ps.zip us,scope.names.lookup y.1=some .local\/(scope.names.lookup y.1=some .cell/\((cellsFrom (s.heap.objs.size+1) scope.names []).lookup y.1).isSome=true):=λ⟨n,v⟩ hy=>by
  rcases S.par n (List.of_mem_zip hy).1 with q | q
  ·exact .inl q
  ·exact .inr ⟨q,PySem.W.cellsFrom_some _ _ _ (.inl q)⟩
 refine codeAny_call_function hr.depth (KX _ _ lk) rfl S.co S.gen rfl (PySem.W.codeRec_of KX hcd) (hb _ _ _ _ ?_)
 refine wpAny_newFunctionEnv_cells S.kind hkind λenv he s1 x=>?_
 subst he
 refine ⟨lim.keeps x.toInCall.keep,codeAny_func ?_⟩
 obtain ⟨t,ht,hq⟩:=hbody A outer s H vs Q E (hr.deeper _) hsp
 have I:Inv (qss CX P w K mg base N qual scope f cdv A outer s H E) [] (start N vs) H s1:=qoq S hr.hd (by have:=(hr.deeper (envOfC qual scope s.heap.objs.size f cdv)).dp;show _+100<_;omega) e0 hl r x
 refine wpAny_mono (ht [] s1 (start N vs) H _ I hq) (λfl s' hs=>?_) λe s' hs=>hs
 have fin:∀ {σ':St} {H':Hp} {v:V} {u:Value},Inv (qss CX P w K mg base N qual scope f cdv A outer s H E) [] σ' H' s'->RelV v u->Q v H'->CE outer P w H s Q u s':=
  λ{σ' H' v u} J rv q=>⟨v,H',J.os,J.bare,J.base,J.hok,rv,q⟩
 cases fl with
 | ret u=>
   obtain ⟨v,σ',H',J,rv,q⟩:=hs
   exact fin J rv q
 | next=>
   obtain ⟨σ',H',J,q⟩:=hs
   exact fin (v:=V.non) (u:=Value.none) J rfl q
 | brk=>
   obtain ⟨_,_,_,q⟩:=hs
   exact False.elim q
 | cont=>
   obtain ⟨_,_,_,q⟩:=hs
   exact False.elim q
end L2
namespace L2
open PySem PySem.Spec PyProof.Rows
section
variable {X:Cx} {x:Str} {p pos:Pos} {e:Expr} {es:List Expr} {t:TA} {id T:String} {r:List V->Hp->VK->Prop}
noncomputable def tCB (r:List V->Hp->VK->Prop) (t:TA):TE:=λσ H Q=>t σ H λvs H1=>r vs H1 Q
theorem qat (hc:qdz X (.builtin id) r) (hg:Gl X x) (hm:X.mg x=none) (hv:bootBuiltins x=some (.builtin id)) (ha:PA X (e::es) t) (hn:x ≠ "__name__" := by decide) (hdb:(x == ("__debug__" : Str))=false:=by decide)
  (he:starEach (e::es) X.env=(false,eval e X.env)::starEach es X.env:=by rfl) (hpl:(backTo pos (starEach es X.env)).any (·.1)=false:=by rfl):PE X (.Call (.Name x p) (e::es) [] pos) (tCB r t):=by
 intro pins s σ H Q I h
 refine wpAny_Call_Name_kw (qd8 I hg hm hv ?_ hn hdb)
 exact PyProof.Rows.callWith_builtin1 (thn (ha pos pins s σ H _ I h) λus s1 ⟨vs,H1,I1,r1,q1⟩=>hc pins s1 σ H1 vs us Q I1 r1 q1) he hpl
theorem qcV (hc:qdz X (.type T) r) (hg:Gl X x) (hm:X.mg x=none) (hv:bootBuiltins x=some (.type T)) (ha:PA X (e::es) t) (hn:x ≠ "__name__" := by decide) (hdb:(x == ("__debug__" : Str))=false:=by decide)
  (he:starEach (e::es) X.env=(false,eval e X.env)::starEach es X.env:=by rfl) (hpl:(backTo pos (starEach es X.env)).any (·.1)=false:=by rfl):PE X (.Call (.Name x p) (e::es) [] pos) (tCB r t):=by
 intro pins s σ H Q I h
 refine wpAny_Call_Name_kw (qd8 I hg hm hv ?_ hn hdb)
 exact PyProof.Rows.callWith_type1 (thn (ha pos pins s σ H _ I h) λus s1 ⟨vs,H1,I1,r1,q1⟩=>hc pins s1 σ H1 vs us Q I1 r1 q1) he hpl
end
end L2
namespace HT
open PySem PyProof.Rows
section
open PySem.SeqAt
open PySem.AutoSeq1 (wpAny_loadPart')
open PySem.MeetsSeq PySem.MeetsSeq2 PySem.MeetsSeq3
end
section
variable {prog:Program} {w:World} {A:Around} {E:Value->Shared->Prop} {s:Shared}
noncomputable def sIx (n d:Nat):Option Int->Nat
 | none=>d
 | some v=>if v<0 then (v+(n:Int)).toNat else min v.toNat n
end
end HT
namespace L2
open PySem PySem.Spec PyProof.Rows
noncomputable abbrev TO:=St->Hp->(Option Int->Hp->Prop)->Prop
noncomputable def PO (X:Cx) (e:Option Expr) (t:TO):Prop:=
 ∀ (pins:List (Addr×Obj)) (s:Shared) (σ:St) (H:Hp) (Q:Option Int->Hp->Prop),Inv X pins σ H s->t σ H Q->
   wpAny (model X.prog X.w) X.A (evalPart e X.env) (λu s'=>∃ o H',Inv X pins σ H' s'/\IsPart u o/\Q o H') X.xe s
noncomputable def qcW:TO:=λ_ H Q=>Q none H
noncomputable def qhv (t:TE):TO:=λσ H Q=>t σ H λx H1=>∃ i,x=.int i/\Q (some i) H1
section
variable {X:Cx} {e:Expr} {te:TE} {lo hi:Option Expr} {tl th:TO} {pos p2:Pos}
theorem qec:PO X none qcW:=by
 intro pins s σ H Q I h
 rw [evalPart_none]
 exact wpAny_pure ⟨none,H,I,.none,h⟩
theorem qed (h:PE X e te):PO X (some e) (qhv te):=by
 intro pins s σ H Q I hw
 rw [evalPart_some]
 refine thn (h pins s σ H _ I hw) λu s1 ⟨x,H1,I1,r1,q1⟩=>?_
 obtain ⟨i,rfl,q⟩:=q1
 obtain ⟨t,rfl⟩:=r1
 exact ⟨some i,H1,I1,.int i t,q⟩
noncomputable def SlR (X:Cx) (r:V->Option Int->Option Int->Hp->VK->Prop):Prop:=
 ∀ (pins:List (Addr×Obj)) (s:Shared) (σ:St) (H:Hp) (x:V) (v vl vu:Value) (lo hi:Option Int) (sl:Addr) (Q:VK),Inv X pins σ H s->RelV x v->s.heap.IsSliceOf sl vl vu .none->IsPart vl lo->IsPart vu hi->r x lo hi H Q->
   ∃ T id,typeLookup (.type T) "__getitem__" = pure (some (.builtin id))/\s.TypeIs v T/\wpAny (model X.prog X.w) X.A (getItem v (.ref sl)) (EP X pins σ Q) X.xe s
noncomputable def tSl (r:V->Option Int->Option Int->Hp->VK->Prop) (te:TE) (tl th:TO):TE:=λσ H Q=>te σ H λx H1=>tl σ H1 λl H2=>th σ H2 λu H3=>r x l u H3 Q
theorem qc8 {r:V->Option Int->Option Int->Hp->VK->Prop} (hr:SlR X r) (he:PE X e te) (hl:PO X lo tl) (hu:PO X hi th):PE X (.Subscript e (.Slice lo hi none p2) pos) (tSl r te tl th):=by
 intro pins s σ H Q I h
 refine Subscript_ (thn (he pins s σ H _ I h) λv s1 ⟨x,H1,I1,r1,q1⟩=>?_)
 refine wpAny_Slice (thn (hl pins s1 σ H1 _ I1 q1) λvl s2 ⟨l,H2,I2,pl,q2⟩=>thn (hu pins s2 σ H2 _ I2 q2) λvu s3 ⟨u,H3,I3,pu,q3⟩=>?_)
 rw [evalPart_none]
 refine wpAny_pure ?_
 have I4:Inv X pins σ H3 { s3 with heap:=s3.heap.push { cls:=.type "slice", data:=.fields #[vl,vu,.none] } }:=I3.kept (t':=s3.toks) λb ob q=>Heap.get?_push_of_some _ q
 obtain ⟨T,id,hT,ht,hg⟩:=hr pins { s3 with heap:=s3.heap.push { cls:=.type "slice", data:=.fields #[vl,vu,.none] } } σ H3 x v vl vu l u s3.heap.objs.size Q I4 r1 (Heap.IsSliceOf.new ..) pl pu q3
 show wpAny (model X.prog X.w) X.A (subscriptTail e (.Slice lo hi none p2) v (.ref s3.heap.objs.size)) (EP X pins σ Q) X.xe { s3 with heap:=s3.heap.push { cls:=.type "slice", data:=.fields #[vl,vu,.none] } }
 exact tail_any (ops:=[.ref s3.heap.objs.size,v]) ht hT hg (by with_unfolding_all rfl)
noncomputable def qhw (xs:List V) (lo hi:Option Int):List V:=(xs.drop (HT.sIx xs.length 0 lo)).take (HT.sIx xs.length xs.length hi - HT.sIx xs.length 0 lo)
theorem qlR (xs:List V) (lo hi:Option Int):(qhw xs lo hi).length<=xs.length:=by
 unfold qhw
 rw [wa7,List.length_drop]
 omega
end
end L2
namespace L2
open PySem PySem.Spec PyProof.Rows
noncomputable def ixN (n:Nat) (i:Int):Option Nat:=if 0<=i then (if i<n then some i.toNat else none) else if -(n:Int)<=i then some (i+n).toNat else none
noncomputable def atI {α:Type} (xs:List α) (i:Int):Option α:=(ixN xs.length i).bind λj=>xs[j]?
theorem qor {n:Nat} {i:Int} {j:Nat} (h:ixN n i=some j):seqIndex? i n=some j/\j<n/\-(n:Int)<=i/\i<n:=by
 unfold ixN at h
 by_cases h0:0<=i
 ·rw [if_pos h0] at h
  by_cases h1:i<n
  ·rw [if_pos h1] at h
   have e:i.toNat=j:=Option.some.inj h
   exact ⟨by rw [seqIndex_of h0 h1,e],⋯,⋯,h1⟩
  ·rw [if_neg h1] at h;cases h
 ·rw [if_neg h0] at h
  by_cases h1:-(n:Int)<=i
  ·rw [if_pos h1] at h
   have e:(i+n).toNat=j:=Option.some.inj h
   exact ⟨by rw [seqIndex_neg ⋯ h1,e],⋯,h1,⋯⟩
  ·rw [if_neg h1] at h;cases h
theorem qlS {α:Type} {xs:List α} {i:Int} {v:α} (h:atI xs i=some v):∃ j,seqIndex? i xs.length=some j/\xs[j]?=some v/\j<xs.length/\-(xs.length:Int)<=i/\i<xs.length:=by
 unfold atI at h
 cases e:ixN xs.length i with
 | none=>rw [e] at h;cases h
 | some j=>
   rw [e] at h
   obtain ⟨h1,h2,h3,h4⟩:=qor e
   exact ⟨j,h1,h,h2,h3,h4⟩
theorem qhx {α:Type} {xs:List α} {j:Nat} {v:α} (h:xs[j]?=some v):atI xs (j:Int)=some v:=by
 have hj:j<xs.length:=(wal.mp h).1
 have e:ixN xs.length (j:Int)=some j:=by
  unfold ixN
  rw [if_pos ⋯,if_pos ⋯];simp
 unfold atI;rw [e];exact h
theorem atI_last {α:Type} (xs:List α) (v:α):atI (xs++[v]) (-1)=some v:=by
 have hl:(xs++[v]).length=xs.length+1:=by simp
 have e:ixN (xs++[v]).length (-1)=some xs.length:=by
  unfold ixN
  rw [hl,if_neg ∅,if_pos ⋯]
  congr 1
  omega
 unfold atI
 rw [e]
 show (xs++[v])[xs.length]?=some v
 simp
noncomputable def qst (b:Expr):Prop:=∀ o i,subscripted b false o i=operate [o,i] (getItem o i)
noncomputable def IxR (X:Cx) (r:R2):Prop:=
 ∀ (value slice:Expr) (pins:List (Addr×Obj)) (s:Shared) (σ:St) (H:Hp) (x y:V) (v u:Value) (Q:VK),Inv X pins σ H s->RelV x v->RelV y u->r x y H Q->
   subscripted slice false v u=operate [v,u] (getItem v u)->wpAny (model X.prog X.w) X.A (subscriptTail value slice v u) (EP X pins σ Q) X.xe s
noncomputable def MtR (X:Cx) (id:String) (r:V->List V->Hp->VK->Prop):Prop:=
 ∀ (pins:List (Addr×Obj)) (s:Shared) (σ:St) (H:Hp) (x:V) (xs:List V) (v:Value) (us:List Value) (Q:VK),Inv X pins σ H s->RelV x v->Vals xs us->r x xs H Q->
   wpAny (model X.prog X.w) X.A (call (.builtin id) (v::us)) (EP X pins σ Q) X.xe s
section
variable {X:Cx} {a b:Expr} {ta tb:TE} {pos:Pos}
theorem qaz {r:R2} (hr:IxR X r) (ha:PE X a ta) (hb:PE X b tb) (hs:qst b):PE X (.Subscript a b pos) (tOp r ta tb):=by
 intro pins s σ H Q I h
 exact Subscript_ (qvh ha hb I h λv u s2 x y H2 I2 rx ry q=>hr a b pins s2 σ H2 x y v u Q I2 rx ry q (hs _ _))
noncomputable def qwc (K:PySem.W.Frag):R2:=λx y H Q=>∃ p xs i v,x=.ref p/\y=.int i/\SqL K H p xs/\atI xs i=some v/\Q v H
noncomputable def qwd (K:PySem.W.Frag):R2:=λx y H Q=>∃ p xs i v,x=.ref p/\y=.int i/\SqT K H p xs/\atI xs i=some v/\Q v H
theorem qsu:IxR X (qwc X.K):=by
 intro value slice pins s σ H x y v u Q I rx ry h hs
 obtain ⟨p,xs,i,z,rfl,rfl,hq,he,q⟩:=h
 cases rx
 obtain ⟨t,rfl⟩:=ry
 obtain ⟨its,r,pl,hz⟩:=I.list hq
 obtain ⟨j,h1,h2,h3,h4,h5⟩:=qlS he
 obtain ⟨w,ew,rw'⟩:=r.get h2
 have hl:=r.length
 have hn:=qi2
 have fin:EP X pins σ Q w s:=⟨z,H,I,rw',q⟩
 by_cases h0:0<=i
 ·have hj:i.toNat=j:=by
   rw [seqIndex_of h0 h5] at h1
   exact Option.some.inj h1
  exact item_listR pl.isList h0 ⋯ (by rw [hj];simpa using ew) fin hs
 ·have hj:(i+(its.toArray.size:Int)).toNat=j:=by
   rw [seqIndex_neg ⋯ h4] at h1
   rw [waj,<-hl]
   exact Option.some.inj h1
  exact subscriptTail_builtinR (x:=w) pl.isList.typeIs slot_list_getitem.lookup
   (wpAny_getItem_list_neg (Q:=λr s'=>r=w/\EP X pins σ Q r s') pl.isList ⋯ (by rw [waj] <;> omega) ⋯ (by rw [hj];simpa using ew) ⟨rfl,fin⟩) hs
theorem qt3:IxR X (qwd X.K):=by
 intro value slice pins s σ H x y v u Q I rx ry h hs
 obtain ⟨p,xs,i,z,rfl,rfl,hq,he,q⟩:=h
 cases rx
 obtain ⟨t,rfl⟩:=ry
 obtain ⟨its,r,pl,hz⟩:=I.tuple hq
 obtain ⟨j,h1,h2,h3,h4,h5⟩:=qlS he
 obtain ⟨w,ew,rw'⟩:=r.get h2
 have hl:=r.length
 have hn:=qi2
 have fin:EP X pins σ Q w s:=⟨z,H,I,rw',q⟩
 exact subscriptTail_builtinR (x:=w) pl.typeIs slot_tuple_getitem.lookup
  (getItem_tuple (j:=j) (Q:=λr s'=>r=w/\EP X pins σ Q r s') pl ⋯ ⋯ (by rw [waj,<-hl];exact h1) (by simpa using ew) ⟨rfl,fin⟩) hs
theorem qnw (its:List Value) (n j:Nat) (u:Value):Obj.mapSeq (·.setIfInBounds j u) { cls:=.type "list", data:=.seq its.toArray n }={ cls:=.type "list", data:=.seq (its.set j u).toArray n }:=by
 simp [Obj.mapSeq]
theorem Inv.lst {pins:List (Addr×Obj)} {σ:St} {H:Hp} {s:Shared} {p:Addr} {xs:List V} (I:Inv X pins σ H s) (h:H p=some (.lst xs)) :
  ∃ (its:List Value) (n:Nat),Vals xs its/\s.heap.get? p=some { cls:=.type "list", data:=.seq its.toArray n }/\xs.length<=sizeLine:=by
 obtain ⟨z,its,n,r,e⟩:=I.hok p _ h
 exact ⟨its,n,r,e,z⟩
theorem Inv.lstUpd {pins:List (Addr×Obj)} {σ:St} {H:Hp} {s:Shared} {p:Addr} {xs ys:List V} {its its':List Value} {n n':Nat} {f:Obj->Obj} (I:Inv X pins σ H s) (h:H p=some (.lst xs))
  (ho:s.heap.get? p=some { cls:=.type "list", data:=.seq its.toArray n }) (hf:f { cls:=.type "list", data:=.seq its.toArray n }={ cls:=.type "list", data:=.seq its'.toArray n' }) (r:Vals ys its') (hz:ys.length<=sizeLine) (t:Nat) :
  Inv X pins σ (upd H p (.lst ys)) { s with heap:=s.heap.update p f,toks:=t }:=by
 have e:(s.heap.update p f).get? p=some { cls:=.type "list", data:=.seq its'.toArray n' }:=by
  rw [Heap.get?_update_self f ho (by rw [hf] <;> rfl),hf]
 refine I.write (x:=p) (e:=p) (by rw [h];trivial) (.inl rfl) (λb u hb q=>(Heap.get?_update_other _ _ (Ne.symm hb)).trans q) ⟨_,e⟩ ?_
 exact ⟨hz,its',n',r,e⟩
noncomputable def qeU:V->V->V->Hp->(Hp->Prop)->Prop:=λo i v H Q=>∃ p xs k j,o=.ref p/\i=.int k/\H p=some (.lst xs)/\ixN xs.length k=some j/\Q (upd H p (.lst (xs.set j v)))
theorem qbV:PSet X qeU:=by
 intro pins s σ H o i v ov iv u Q I ro ri rv h
 obtain ⟨p,xs,k,j,rfl,rfl,hp,hj,q⟩:=h
 cases ro
 obtain ⟨t,rfl⟩:=ri
 obtain ⟨its,n,r,ho,hz⟩:=I.lst hp
 obtain ⟨h1,h2,h3,h4⟩:=qor hj
 have hl:=r.length
 have hn:=qi2
 have I':Inv X pins σ (upd H p (.lst (xs.set j v))) { s with heap:=s.heap.update p (Obj.mapSeq (·.setIfInBounds j u)) }:=
  I.lstUpd hp ho (qnw its n j u) (r.set rv j) (by rw [List.length_set];exact hz) s.toks
 by_cases h0:0<=k
 ·have hk:k.toNat=j:=by
   rw [seqIndex_of h0 h4] at h1
   exact Option.some.inj h1
  exact PySem.W.ki_setAt ho h0 ⋯ (by rw [waj,<-hl];exact h4) (by rw [hk];exact ⟨_,I',q⟩)
 ·have hk:(k+(its.toArray.size:Int)).toNat=j:=by
   rw [seqIndex_neg ⋯ h3] at h1
   rw [waj,<-hl]
   exact Option.some.inj h1
  exact PySem.W.ki_setBack ho ⋯ (by rw [waj,<-hl];exact h3) ⋯ (by rw [hk];exact ⟨_,I',q⟩)
theorem qkH (lo hi:Option Int) (n:Nat):(sliceBounds lo hi none n).1=((HT.sIx n 0 lo:Nat):Int)/\(sliceBounds lo hi none n).2.1=((HT.sIx n n hi:Nat):Int)/\(sliceBounds lo hi none n).2.2=1:=by
 refine ⟨?_,?_,rfl⟩
 ·cases lo with
  | none=>simp [sliceBounds,HT.sIx]
  | some i=>
    simp only [sliceBounds,HT.sIx,Option.getD_none,show (1:Int) > 0 by decide,if_true]
    by_cases h:i<0
    ·simp only [h,if_true] <;> omega
    ·simp only [h,if_false] <;> omega
 ·cases hi with
  | none=>simp [sliceBounds,HT.sIx]
  | some i=>
    simp only [sliceBounds,HT.sIx,Option.getD_none,show (1:Int) > 0 by decide,if_true]
    by_cases h:i<0
    ·simp only [h,if_true] <;> omega
    ·simp only [h,if_false] <;> omega
theorem qjG (its:List Value) (lo hi:Option Int):slicePick its.toArray lo hi none=((its.drop (HT.sIx its.length 0 lo)).take (HT.sIx its.length its.length hi - HT.sIx its.length 0 lo)).toArray:=by
 obtain ⟨h1,h2,h3⟩:=qkH lo hi its.toArray.size
 unfold slicePick
 rw [h1,h2,h3]
 simp only [sliceRange_one,pick_run,waj] <;> rfl
noncomputable def qwe (K:PySem.W.Frag):V->Option Int->Option Int->Hp->VK->Prop:=λx lo hi H Q=>∃ a xs,x=.ref a/\SqL K H a xs/\∀ p,H p=none->Q (.ref p) (upd H p (.lst (qhw xs lo hi)))
theorem qos:SlR X (qwe X.K):=by
 intro pins s σ H x v vl vu lo hi sl Q I rx hs pl pu h
 obtain ⟨a,xs,rfl,hx,q⟩:=h
 cases rx
 obtain ⟨its,r,ht,hz⟩:=I.list hx
 have hlen:=r.length
 refine ⟨"list", _,slot_list_getitem.lookup,ht.isList.typeIs,?_⟩
 refine wpAny_getItem_list_slice ht.isList hs pl pu .none (by simp) ?_ (by rw [waj] <;> omega)
 rw [qjG,<-hlen]
 refine ⟨.ref s.heap.objs.size,_,I.laid (t':=s.toks) (o:=.lst (qhw xs lo hi)) (λb ob q=>Heap.get?_push_of_some _ q) (wac _) ?_,rfl,q _ (I.hok.fresh (wac _))⟩
 exact ⟨wap (qlR xs lo hi) hz,_,0,(r.drop (HT.sIx xs.length 0 lo)).take (HT.sIx xs.length xs.length hi - HT.sIx xs.length 0 lo),Heap.get?_push_size _ rfl⟩
theorem qgx:qdz X (.builtin "len") (λxs H Q=>∃ p ys,xs=[.ref p]/\(SqL X.K H p ys\/SqT X.K H p ys)/\Q (.int ys.length) H):=by
 intro pins s σ H xs us Q I r h
 obtain ⟨p,ys,rfl,hq,q⟩:=h
 obtain ⟨u,rfl,rx⟩:=qfh r
 cases rx
 have hn:=qi2
 rcases hq with hq | hq
 ·obtain ⟨its,r',pl,hz⟩:=I.list hq
  have hlen:=r'.length
  exact Calls.call_len_list pl.isList (by simp only [waj] <;> omega) ⟨.int ys.length,H,I.tok _,⟨s.toks+1,by rw [waj,hlen]⟩,q⟩
 ·obtain ⟨its,r',pl,hz⟩:=I.tuple hq
  have hlen:=r'.length
  exact len_tuple pl (by simp only [waj] <;> omega) ⟨.int ys.length,H,I.tok _,⟨s.toks+1,by rw [waj,hlen]⟩,q⟩
theorem qkI:qdz X (.type "list") (λxs H Q=>∃ p ys,xs=[.ref p]/\(SqL X.K H p ys\/SqT X.K H p ys)/\∀ l,H l=none->Q (.ref l) (upd H l (.lst ys))):=by
 intro pins s σ H xs us Q I r h
 obtain ⟨p,ys,rfl,hq,q⟩:=h
 obtain ⟨u,rfl,rx⟩:=qfh r
 cases rx
 have fin:∀ (its:List Value),Vals ys its->ys.length<=sizeLine->∀ (h':Heap) (c':Nat),(∀ b o',s.heap.get? b=some o'->h'.get? b=some o')->
   h'.get? s.heap.objs.size=some { cls:=.type "list", dict:=none,data:=.seq its.toArray c',slots:=#[] }->EP X pins σ Q (.ref s.heap.objs.size) { s with heap:=h' }:=λits r' hz h' c' kp e=>
  ⟨.ref s.heap.objs.size,_,I.laid (t':=s.toks) kp (wac _) (show ObjOk X.prog X.w _ h' _ (.lst ys) from ⟨hz,its,c',r',e⟩),rfl,q _ (I.hok.fresh (wac _))⟩
 rcases hq with hq | hq
 ·obtain ⟨its,r',pl,hz⟩:=I.list hq
  have hlen:=r'.length
  obtain ⟨o,ho,hc,n,hd⟩:=pl.isList
  exact call_list_seq p (.inl rfl) ho hc hd (λh' c' kp e=>fin its r' hz h' c' kp e) (by simp only [waj] <;> omega)
 ·obtain ⟨its,r',pl,hz⟩:=I.tuple hq
  have hlen:=r'.length
  obtain ⟨o,ho,hc,n,hd⟩:=pl
  exact call_list_seq p (.inr rfl) ho hc hd (λh' c' kp e=>fin its r' hz h' c' kp e) (by simp only [waj] <;> omega)
theorem qjH:qdz X (.type "tuple") (λxs H Q=>∃ p ys,xs=[.ref p]/\((SqL X.K H p ys/\∀ l,H l=none->Q (.ref l) (upd H l (.tup ys)))\/(SqT X.K H p ys/\Q (.ref p) H))):=by
 intro pins s σ H xs us Q I r h
 obtain ⟨p,ys,rfl,h⟩:=h
 obtain ⟨u,rfl,rx⟩:=qfh r
 cases rx
 rcases h with ⟨hq,q⟩ | ⟨hq,q⟩
 ·obtain ⟨its,r',pl,hz⟩:=I.list hq
  have hlen:=r'.length
  refine call_tuple_list pl.isList (λh' kp=>?_) (by simp only [waj] <;> omega)
  have I1:Inv X pins σ H { s with heap:=h' }:=I.kept (t':=s.toks) kp
  have I2:Inv X pins σ (upd H h'.objs.size (.tup ys)) { s with heap:=h'.push { cls:=.type "tuple", data:=.seq its.toArray } }:=
   I1.laid (t':=s.toks) (λb o e=>Heap.get?_push_of_some _ e) (wac _) (show ObjOk X.prog X.w _ _ _ (.tup ys) from ⟨hz,its,r',IsTup.new _ _⟩)
  exact ⟨.ref h'.objs.size,_,I2,rfl,q _ (I1.hok.fresh (wac _))⟩
 ·obtain ⟨its,r',pl,hz⟩:=I.tuple hq
  exact call_tuple_same pl ⟨.ref p,H,I,rfl,q⟩
noncomputable def tyV (K:PySem.W.Frag) (T:String) (x:V) (H:Hp):Prop:=match x with
 | .str _=>T = "str"
 | .int _=>T = "int"
 | .ref p=>(T = "list" /\ ∃ xs,SqL K H p xs)\/(T = "tuple" /\ ∃ o,K.lookup p=some o/\o.cls=.type "tuple" /\ o.dict=none)\/
   (T = "dict" /\ ((∃ kvs,H p=some (.dK kvs))\/∃ kvs,H p=some (.dT kvs)))\/(T = "set" /\ ∃ S n,H p=some (.set S n))
 | _=>False
theorem qrI {pins:List (Addr×Obj)} {σ:St} {H:Hp} {s:Shared} {T:String} {x:V} {v:Value} (I:Inv X pins σ H s) (r:RelV x v) (ty:tyV X.K T x H) :
  s.TypeIs v T/\∀ a,v=.ref a->∃ ob,s.heap.get? a=some ob/\ob.dict=none:=by
 cases x with
 | str z=>
   obtain ⟨t,rfl⟩:=r
   cases (show T = "str" from ty)
   exact ⟨typeIs_str s z t,λ_ e=>nomatch e⟩
 | int i=>
   obtain ⟨t,rfl⟩:=r
   cases (show T = "int" from ty)
   exact ⟨typeIs_int s i t,λ_ e=>nomatch e⟩
 | ref p=>
   cases r
   rcases ty with ⟨rfl,xs,hq⟩ | ⟨rfl,o,hk,hc,hd⟩ | ⟨rfl,hk⟩ | ⟨rfl,S,n,hk⟩
   ·obtain ⟨its,_,pl,_⟩:=I.list hq
    refine ⟨pl.isList.typeIs,λa e=>?_⟩
    cases e
    obtain ⟨o,n,e,c,hd,_⟩:=pl
    exact ⟨o,e,hd⟩
   ·refine ⟨⟨o,I.kIn p o hk,hc⟩,λa e=>?_⟩
    cases e
    exact ⟨o,I.kIn _ o hk,hd⟩
   ·have z:∃ o,s.heap.get? p=some o/\o.ExactDict:=by
     rcases hk with ⟨kvs,hk⟩ | ⟨kvs,hk⟩
     ·obtain ⟨_,_,_,_,o,_,_,e,ex,_⟩:=I.hok p _ hk
      exact ⟨o,e,ex⟩
     ·obtain ⟨_,_,_,_,o,_,_,e,ex,_⟩:=I.hok p _ hk
      exact ⟨o,e,ex⟩
    obtain ⟨o,e,ex⟩:=z
    refine ⟨⟨o,e,ex.1⟩,λa e2=>?_⟩
    cases e2
    exact ⟨o,e,ex.2.1⟩
   ·obtain ⟨o,_,_,_,e,ex,_⟩:=I.hok p _ hk
    refine ⟨⟨o,e,ex.1⟩,λa e2=>?_⟩
    cases e2
    exact ⟨o,e,ex.2.1⟩
 | _=>exact False.elim ty
noncomputable def qt4 (K:PySem.W.Frag) (T:String) (r:V->List V->Hp->VK->Prop) (to:TE):TE:=λσ H Q=>to σ H λx H1=>tyV K T x H1/\r x [] H1 Q
noncomputable def tBM (K:PySem.W.Frag) (T:String) (r:V->List V->Hp->VK->Prop) (to:TE) (t:TA):TE:=λσ H Q=>to σ H λx H1=>tyV K T x H1/\t σ H1 λxs H2=>r x xs H2 Q
variable {o e:Expr} {es:List Expr} {to:TE} {t:TA} {name:Str} {apos cpos:Pos} {T id:String} {r:V->List V->Hp->VK->Prop}
theorem qrJ (pa:PlainAttrs T) (slot:Slot T name id) (hty:typeOf (.builtin id)=pure (.type "method_descriptor")) (hm:MtR X id r) (ho:PE X o to)
  (hbase:attributeBase o name X.env (eval o X.env)=eval o X.env:=by rfl) (hline:(apos.endLine == cpos.line)=true:=by rfl):PE X (.Call (.Attribute o name apos) [] [] cpos) (qt4 X.K T r to):=by
 intro pins s σ H Q I h
 refine wpAny_Call_method0_late hbase hline (thn (ho pins s σ H _ I h) λv s1 ⟨x,H1,I1,r1,ty,q1⟩=>?_)
 obtain ⟨h1,h2⟩:=qrI I1 r1 ty
 exact ⟨T,id,pa,slot,hty,h1,h2,Calls.callWith_builtin rfl (PySem.evalArgs_none (hm pins s1 σ H1 x [] v [] Q I1 r1 .nil q1))⟩
theorem qhy (pa:PlainAttrs T) (slot:Slot T name id) (hty:typeOf (.builtin id)=pure (.type "method_descriptor")) (hm:MtR X id r) (ho:PE X o to) (ha:PA X (e::es) t)
  (hbase:attributeBase o name X.env (eval o X.env)=eval o X.env:=by rfl)
  (hfew:((backTo cpos (starEach (e::es) X.env)).all (λx=>!x.1) && (backToKw cpos (keywordEach [] X.env)).all (λx=>x.1.isSome)
   && decide ((e::es).length+([]:List Keyword).length+(if ([]:List Keyword).isEmpty then 0 else 1)<30))=true:=by rfl)
  (hline:(apos.endLine == cpos.line)=true:=by rfl) (hs:starEach (e::es) X.env=(false,eval e X.env)::starEach es X.env:=by rfl) (hplain:(backTo cpos (starEach es X.env)).any (·.1)=false:=by rfl) :
  PE X (.Call (.Attribute o name apos) (e::es) [] cpos) (tBM X.K T r to t):=by
 intro pins s σ H Q I h
 refine wpAny_Call_method_late hbase hfew hline rfl (thn (ho pins s σ H _ I h) λv s1 ⟨x,H1,I1,r1,ty,q1⟩=>?_)
 obtain ⟨h1,h2⟩:=qrI I1 r1 ty
 refine ⟨T,id,pa,slot,hty,h1,h2,?_⟩
 have hA:=ha cpos pins s1 σ H1 _ I1 q1
 rw [hs] at hA ⊢
 refine Calls.callWith_builtin (by show (false || (backTo cpos (starEach es X.env)).any (·.1))=false;rw [hplain] <;> rfl) (Calls.evalArgs_plain ?_)
 exact thn hA λus s2 ⟨vs,H2,I2,r2,q2⟩=>hm pins s2 σ H2 x vs v us Q I2 r1 r2 q2
end
end L2
namespace L2
open PySem PySem.Spec PyProof.Rows
noncomputable def MtM (X:Cx) (id:String) (r:V->List V->Hp->VK->Prop):Prop:=
 ∀ (pins:List (Addr×Obj)) (s:Shared) (σ:St) (H:Hp) (x:V) (xs:List V) (v:Value) (us:List Value) (Q:VK),Inv X pins σ H s->RelV x v->Vals xs us->r x xs H Q->
   wpAny (model X.prog X.w) X.A (call (.builtin id) (v::us)) (EP X pins σ Q) X.xe s
theorem Vals.zero {us:List Value} (h:Vals [] us):us=[]:=by cases h;rfl
theorem Vals.inv {x:V} {xs:List V} {us:List Value} (h:Vals (x::xs) us):∃ u t,us=u::t/\RelV x u/\Vals xs t:=by cases h with | cons r t=>exact ⟨_,_,rfl,r,t⟩
theorem Vals.one {x:V} {us:List Value} (h:Vals [x] us):∃ u,us=[u]/\RelV x u:=by obtain ⟨u,t,rfl,r,h⟩:=h.inv;exact ⟨u,by rw [h.zero],r⟩
theorem Vals.two {x y:V} {us:List Value} (h:Vals [x,y] us):∃ u v,us=[u,v]/\RelV x u/\RelV y v:=by obtain ⟨u,t,rfl,r,h⟩:=h.inv;obtain ⟨v,rfl,q⟩:=h.one;exact ⟨u,v,rfl,r,q⟩
theorem Vals.dropLast {xs:List V} {us:List Value} (h:Vals xs us):Vals xs.dropLast us.dropLast:=by
 induction h with
 | nil=>exact .nil
 | cons r t ih=>
   cases t with
   | nil=>exact .nil
   | cons q t'=>exact .cons r ih
theorem Vals.reverse {xs:List V} {us:List Value} (h:Vals xs us):Vals xs.reverse us.reverse:=by
 induction h with
 | nil=>exact .nil
 | cons r t ih=>rw [List.reverse_cons,List.reverse_cons];exact Vals.append ih (.cons r .nil)
theorem Vals.rep {xs:List V} {us:List Value} (h:Vals xs us):∀ k:Nat,Vals (List.replicate k xs).flatten (List.replicate k us).flatten
 | 0=>.nil
 | k+1=>by
   rw [List.replicate_succ,List.replicate_succ,List.flatten_cons,List.flatten_cons]
   exact Vals.append h (Vals.rep h k)
theorem qkJ (its:List Value):∀ (k:Nat) (acc:List Value),
  List.foldl (λx1 x2=>x1++x2) acc.toArray (List.replicate k its.toArray)=(acc++(List.replicate k its).flatten).toArray
 | 0,acc=>by simp
 | k+1,acc=>by
   have e:acc.toArray++its.toArray=(acc++its).toArray:=by simp
   have e2:(acc++its)++(List.replicate k its).flatten=acc++(List.replicate (k+1) its).flatten:=by
    rw [List.replicate_succ,List.flatten_cons,List.append_assoc]
   rw [<-e2,<-qkJ its k (acc++its),<-e,List.replicate_succ,List.foldl_cons]
section
variable {X:Cx} {pins:List (Addr×Obj)} {σ:St} {H:Hp} {s:Shared} {l b:Addr} {xs ys zs:List V}
theorem Inv.lset {its its':List Value} {n:Nat} {f:Array Value->Array Value} {t':Nat} (I:Inv X pins σ H s) (hH:H l=some (.lst xs))
  (e:s.heap.get? l=some { cls:=.type "list", data:=.seq its.toArray n }) (hf:f its.toArray=its'.toArray) (hv:Vals ys its') (hz:ys.length<=sizeLine) :
  Inv X pins σ (upd H l (.lst ys)) { s with heap:=s.heap.update l (Obj.mapSeq f),toks:=t' }:=by
 have q:=PySem.IsL.update e f
 rw [hf] at q
 refine I.write (x:=l) (e:=l) (by rw [hH];exact trivial) (.inl rfl) (λb' u hb hu=>(Heap.get?_update_other s.heap (Obj.mapSeq f) (Ne.symm hb)).trans hu) ⟨_,q⟩ ?_
 exact ⟨hz,its',_,hv,q⟩
theorem Inv.lnew {its:List Value} {t':Nat} (I:Inv X pins σ H s) (hv:Vals ys its) (hz:ys.length<=sizeLine) :
  Inv X pins σ (upd H s.heap.objs.size (.lst ys)) { s with heap:=s.heap.push { cls:=.type "list", data:=.seq its.toArray },toks:=t' }:=
 I.laid (λ_ _ q=>Heap.get?_push_of_some _ q) (wac _) ⟨hz,its,0,hv,Heap.get?_push_size _ rfl⟩
theorem Inv.fresh (I:Inv X pins σ H s):H s.heap.objs.size=none:=I.hok.fresh (wac _)
theorem Inv.lstM (I:Inv X pins σ H s) (hH:H l=some (.lst xs)):xs.length<=sizeLine/\∃ (its:List Value) (n:Nat),Vals xs its/\xs.length=its.length/\s.heap.get? l=some { cls:=.type "list", data:=.seq its.toArray n }:=by
 obtain ⟨z,its,n,r,e⟩:=I.hok l _ hH
 exact ⟨z,its,n,r,r.length,e⟩
theorem qmH {n:Nat} (h:n<=sizeLine):Builtin.List.listTooLong n=false:=by
 unfold Builtin.List.listTooLong
 exact decide_eq_false ⋯
end
section
variable {X:Cx}
noncomputable def qbR:V->List V->Hp->VK->Prop:=λx vs H Q=>∃ l xs y,x=.ref l/\vs=[y]/\H l=some (.lst xs)/\xs.length<sizeLine/\Q .non (upd H l (.lst (xs++[y])))
theorem qb2:MtM X "list.append" qbR:=by
 intro pins s σ H x vs v us Q I rx rv h
 obtain ⟨l,xs,y,rfl,rfl,hH,hz,q⟩:=h
 cases rx
 obtain ⟨u,rfl,ru⟩:=rv.one
 obtain ⟨z,its,n,r,hl,e⟩:=I.lstM hH
 refine call_meets F.slot_list_append ⟨_,e,rfl⟩ F.entry_list_append (F.args_list_append_2 _ _) (PySem.list_append l its.toArray n u (by rw [waj];omega)) ⟨e,?_⟩
 refine ⟨.non,_,I.lset (its':=its++[u]) hH e (by simp) (r.append (.cons ru .nil)) ?_,rfl,q⟩
 rw [wbq,List.length_singleton]
 omega
noncomputable def qjI:V->List V->Hp->VK->Prop:=λx vs H Q=>∃ l b xs zs,x=.ref l/\vs=[.ref b]/\H l=some (.lst xs)/\H b=some (.lst zs)/\xs.length+zs.length<=sizeLine/\Q .non (upd H l (.lst (xs++zs)))
theorem qot:MtM X "list.extend" qjI:=by
 intro pins s σ H x vs v us Q I rx rv h
 obtain ⟨l,b,xs,zs,rfl,rfl,hH,hB,hz,q⟩:=h
 cases rx
 obtain ⟨u,rfl,ru⟩:=rv.one
 cases ru
 obtain ⟨z,its,n,r,hl,e⟩:=I.lstM hH
 obtain ⟨z2,its2,n2,r2,hl2,e2⟩:=I.lstM hB
 have hsz:its.toArray.size+its2.toArray.size<=sizeLine:=by rw [waj,waj];omega
 have hlong:¬ (!its.toArray.isEmpty && Builtin.List.listTooLong (its.toArray.size+its2.toArray.size))=true:=by
  rw [qmH hsz,Bool.and_false]
  exact wbg
 refine call_meets F.slot_list_extend ⟨_,e,rfl⟩ F.entry_list_extend (F.args_list_extend_2 _ _)
  (AutoSeq1.list_extend_list_list_0 l its.toArray n b its2.toArray n2 hlong (by rw [waj];omega) ⋯) ⟨e,e2,?_⟩
 refine ⟨.non,_,I.lset (its':=its++its2) hH e (by simp) (r.append r2) ?_,rfl,q⟩
 rw [wbq]
 omega
noncomputable def qvU:V->List V->Hp->VK->Prop:=λx vs H Q=>∃ l xs y,x=.ref l/\vs=[]/\H l=some (.lst xs)/\xs[xs.length - 1]?=some y/\Q y (upd H l (.lst xs.dropLast))
noncomputable def qt5:R2:=λx y H Q=>∃ l b xs zs,x=.ref l/\y=.ref b/\H l=some (.lst xs)/\H b=some (.lst zs)/\xs.length+zs.length<=sizeLine/\∀ p,H p=none->Q (.ref p) (upd H p (.lst (xs++zs)))
theorem qt6:OpR X (binaryOp .Add) qt5:=by
 intro pins s σ H x y v u Q I rx ry h
 obtain ⟨l,b,xs,zs,rfl,rfl,hH,hB,hz,q⟩:=h
 cases rx
 cases ry
 obtain ⟨z,its,n,r,hl,e⟩:=I.lstM hH
 obtain ⟨z2,its2,n2,r2,hl2,e2⟩:=I.lstM hB
 refine PySem.P.add_list e e2 ?_ (by rw [waj,waj];omega)
 have ea:its.toArray++its2.toArray=(its++its2).toArray:=by simp
 rw [ea]
 exact ⟨.ref _,_,I.lnew (t':=s.toks) (r.append r2) (by rw [wbq];omega),rfl,q _ I.fresh⟩
noncomputable def qrK:R2:=λx y H Q=>∃ l k xs,x=.ref l/\y=.int k/\H l=some (.lst xs)/\-(2 ^ 63)<=k/\k<2 ^ 63/\xs.length*k.toNat<=sizeLine/\
 ∀ p,H p=none->Q (.ref p) (upd H p (.lst (List.replicate k.toNat xs).flatten))
theorem qsv {α:Type} (xs:List α) (k:Nat):(List.replicate k xs).flatten.length=k*xs.length:=by
 induction k with
 | zero=>simp
 | succ k ih=>rw [List.replicate_succ,List.flatten_cons,wbq,ih,Nat.succ_mul,Nat.add_comm]
theorem qkK:OpR X (binaryOp .Mult) qrK:=by
 intro pins s σ H x y v u Q I rx ry h
 obtain ⟨l,k,xs,rfl,rfl,hH,h1,h2,hz,q⟩:=h
 cases rx
 obtain ⟨t,rfl⟩:=ry
 obtain ⟨z,its,n,r,hl,e⟩:=I.lstM hH
 have hlen:its.toArray.size*k.toNat<=sizeLine:=by rw [waj,<-hl];exact hz
 have hcap:¬ its.toArray.size*k.toNat > (2 ^ 63 - 1) / 8:=by
  have:(sizeLine:Nat)<=(2 ^ 63 - 1) / 8:=by decide
  omega
 have hfit:¬ (!Builtin.List.listFitsIndex k)=true:=by
  rw [fitsIndex_both h1 h2]
  exact wbg
 have hlong:¬ Builtin.List.listTooLong (its.toArray.size*k.toNat)=true:=by
  rw [qmH hlen]
  exact wbg
 have hnew:List.foldl (λx1 x2=>x1++x2) #[] (List.replicate (if its.toArray.isEmpty=true then 0 else k.toNat) its.toArray)=(List.replicate k.toNat its).flatten.toArray:=by
  have f0:∀ m:Nat,List.foldl (λx1 x2=>x1++x2) #[] (List.replicate m its.toArray)=(List.replicate m its).flatten.toArray:=λm=>by
   have:=qkJ its m []
   rw [List.nil_append] at this
   exact this
  rw [f0]
  cases its with
  | nil=>simp
  | cons a r'=>rw [if_neg (by simp)]
 refine wpAny_binaryOp_repeat_ref (T := "list") (U := "int") ∅ ⟨_,e,rfl⟩ (λs'=>typeIs_int s' k t) noFill_list_mul F.fills_int_mul F.slot_int_rmul repeat_list F.slot_int_index.lookup
  (call_meets F.slot_int_rmul (typeIs_int s k t) F.entry_int_rmul (F.args_int_rmul_2 _ _) (int___rmul___int_list k t l its.toArray n)
   ⟨e,rfl,⟨_,e,rfl⟩,call_meets F.slot_list_mul ⟨_,e,rfl⟩ F.entry_list_mul (F.args_list_mul_2 _ _) (AutoListH.list___mul___list_int_3 l its.toArray n k t hfit hcap hlong) ⟨e,?_⟩⟩)
 rw [hnew]
 exact ⟨.ref _,_,I.lnew (t':=s.toks) (r.rep k.toNat) (by rw [qsv,wbe];exact hz),rfl,q _ I.fresh⟩
end
section
variable {prog:Program} {w:World} {A:Around} {E:Value->Shared->Prop} {s:Shared}
end
section
variable {X:Cx}
end
end L2
namespace Att
open PySem PySem.W PySem.Calls PyProof.Rows
theorem qhz {P:Params} {h:Heap}:∀ (ns:List Int) (vs:List Value),WellAll P h vs (ns.map WData.int)->IntsAre vs ns:=by
 intro ns
 induction ns with
 | nil=>
   intro vs w
   rw [List.map_nil] at w
   cases w
   exact .nil
 | cons n ns ih=>
   intro vs w
   rw [List.map_cons] at w
   cases w with
   | cons a b=>
     cases a
     exact .cons _ _ (ih _ b)
theorem qou {l:OpenLaw} {n:Nat} (hn:l.most=some n) {P:Params} {h:Heap} {args:List WData} {vals:List Value}
  (hpre:l.row.toRowW.claim.pre args=true) (hwl:WellAll P h vals args) :
  ∃ a vs ns,vals=[Value.ref a]/\args=[WData.list (ns.map WData.int)]/\h.get? a=some { cls:=.type "list", data:=.seq vs.toArray }/\IntsAre vs ns/\ns.length<=n:=by
 have hsh:WShape.hasAll [] args [.list .int]=true:=(pre_splitW hpre).1
 have hc:l.pre.holds [] { args:=args }=true:=(pre_splitW hpre).2
 obtain ⟨d,r,rfl,h1,h2⟩:=hasAllW_cons hsh
 obtain rfl:=hasAllW_nil h2
 obtain ⟨xs,rfl,h3⟩:=hasW_list h1
 obtain ⟨ns,rfl⟩:=items_int h3
 have hlen:ns.length<=n:=by
  unfold OpenLaw.pre at hc
  have h4:(WTm.not (.lt (.lit (.int (n:Int))) (.len (.arg 0)))).holds [] { args:=[.list (ns.map .int)] }=true:=by
   have h4:=(holds_andW hc).1
   rw [hn] at h4
   exact h4
  have h5:=condW_of h4 (w_not (w_lt w_lit (w_len_list (w_arg rfl))))
  rw [waa] at h5
  refine Nat.le_of_not_lt λq=>?_
  have q':(n:Int)<((ns.length:Nat):Int):=by omega
  first
   | (rw [decide_eq_true q'] at h5;exact absurd h5 ∅)
   | (simp at h5;omega)
 cases hwl with
 | cons w1 w2=>
   cases w2
   cases w1 with
   | list ho hall=>exact ⟨_,_,ns,rfl,rfl,ho,qhz ns _ hall,hlen⟩
theorem qov (l:OpenLaw) (args:List WData):l.row.toRowW.claim.post args (.bool true) args=true:=
 postW_of (r:=l.row.toRowW) (X:=(true == true))
  (show WShape.has [] (.bool true) .bool=true by first | rfl | decide | simp [WShape.has,WShape.arms,WShape.armsAll])
  (show (WTm.eq .res (.lit (.bool true))).value [] { args:=args,res:=some (.bool true),after:=args }=some (.bool (true == true)) from w_eq_bool (w_res rfl) w_lit) rfl
theorem attach_call {l:OpenLaw} {n:Nat} {q:Program} {loose:List Str} {XP:(Str->Option Value)->Heap->Prop} {YP:World->Heap->Prop} {d:DefRec}
  (hn:l.most=some n) (hdf:d.params.defaults=[])
  (call:∀ (w:World) (s₀ s₁:Shared) (mg mb:Str->Option Value) (fa:Addr) (o:Obj) (pm cd doc:Value) (a:Addr) (vs:List Value) (ns:List Int),
   Ground q loose [] XP w s₀ mg mb s₁.heap->YP w s₁.heap->
   s₁.heap.get? fa=some o->o.data=.func (docDef d.name d.params d.body d.scope pm cd doc)->s₁.heap.CodeRec cd d.name->mg d.name=some (.ref fa)->
   s₁.heap.get? a=some { cls:=.type "list", data:=.seq vs.toArray }->IntsAre vs ns->ns.length<=n->s₁.gens=#[]->
   codeAny (model l.prog w) callerA (.call (.ref fa) ⟨[.ref a],[]⟩) (λr s'=>r=.ok (.ret (.bool true))/\OldK s₁.heap s'.heap/\s'.os=s₁.os/\AllBare s'.gens) s₁) :
  WalkO q loose XP YP l.row.toRowW d [] (λf vs=>PySem.call f vs):=by
 intro w s₀ s₁ mg mb G Y fa o pm cd doc dV kV ho hd hcd hD hmg hg args vals as hpre hlay hrd hwl hlo
 obtain rfl:dV=.none:=Dflts.none hD hdf
 obtain rfl:kV=.none:=Dflts.noKw hD
 obtain ⟨a,vs,ns,rfl,rfl,hobj,hints,hlen⟩:=qou hn hpre hwl
 refine enter_call (codeAny_mono (call w s₀ s₁ mg mb fa o pm cd doc a vs ns G Y ho (fd_plain hd) hcd hmg hobj hints hlen hg) λr s' hq=>?_)
 obtain ⟨rfl,h2,h3,h4⟩:=hq
 exact ⟨.inl ⟨.bool true,.bool true,[],rfl,λ_=>rfl,.bool true,qov l _,λ_=>⟨List.Pairwise.nil,λ_ hm=>(nomatch hm)⟩⟩,h2,h3,h4⟩
section
variable {prog:Program} {w:World} {A:Around} {E:Value->Shared->Prop} {s:Shared} {K:Frag}
noncomputable def noObjs (h:Heap):Heap:={ h with objs:=#[] }
theorem noObjs_get (h:Heap) (b:Addr):(noObjs h).get? b=none:=by
 cases e:(noObjs h).get? b with
 | none=>rfl
 | some o=>exact absurd (Heap.lt_size e) (Nat.not_lt_zero _)
noncomputable def ledger (h:Heap) (L d:Addr):List (Addr×Obj):=(List.range h.objs.size).filterMap λa=>if a=L\/a=d then none else (h.get? a).map λo=>(a,o)
theorem mem_ledger {h:Heap} {L d a:Addr} {o:Obj}:(a,o)∈ledger h L d↔a≠L/\a≠d/\h.get? a=some o:=by
 unfold ledger
 rw [List.mem_filterMap]
 constructor
 ·rintro ⟨b,_,e⟩
  split at e
  ·cases e
  ·rename_i hb
   obtain ⟨o',ho,e'⟩:=Option.map_eq_some_iff.mp e
   cases e'
   exact ⟨λq=>hb (.inl q),λq=>hb (.inr q),ho⟩
 ·rintro ⟨n1,n2,ho⟩
  refine ⟨a,wbp.mpr (Heap.lt_size ho),?_⟩
  rw [if_neg (show ¬ (a=L\/a=d) from λq=>q.elim n1 n2),ho] <;> rfl
theorem fr_all {h:Heap} {L:Addr} {m:Str->Option Value} (n:h.Ns L m):Fr (noObjs h) L h m:=
 ⟨n,λb o e=>(by rw [noObjs_get] at e;cases e),wad _⟩
end
end Att
namespace L2
open PySem PySem.Spec PyProof.Rows
theorem qhA:∀ {vs:List Value} {ns:List Int},IntsAre vs ns->Vals (ns.map V.int) vs
 | _,_,.nil=>.nil
 | _,_,.cons n t h=>.cons ⟨t,rfl⟩ (qhA h)
noncomputable def Only (H:Hp):Prop:=∀ b,H b=none\/∃ o xs,H b=some (.frz o (.lst xs))
theorem qqH {P:Program} {w:World} {K:PySem.W.Frag} {mg mb:Str->Option Value} {CX:CXT} {k:Nat} {fa a:Addr} {fd:FuncData} {x:Str} {sp:Sp} {s₁:Shared} {vs:List Value} {ns:List Int}
  (KX:K.In s₁.heap) (hns:s₁.heap.Ns mainGlobals mg) (hb:s₁.heap.Ns builtinsNs mb) (hbb:∀ x:Str,x ≠ "__name__" -> mb x=bootBuiltins x) (hlim:s₁.heap.NoLimit) (hseer:s₁.heap.NoSeer) (htree:(model P w).prog.given.tree=none) (hg:s₁.gens=#[])
  (ha:s₁.heap.get? a=some { cls:=.type "list", data:=.seq vs.toArray }) (hi:IntsAre vs ns) (hl:ns.length<=sizeLine) (hr:Room k callerA)
  (F:∀ base:Heap,K.In base->base.Ns mainGlobals mg->FnOk P w K mg base CX k fa fd [x] sp) (hbind:∀ (s:Shared) (u:Value),BindsTo s fd ⟨[u],[]⟩ [(x,u)])
  (hsp:∀ H:Hp,Only H->SqL K H a (ns.map V.int)->sp [.ref a] H (λv _=>v=.bl true) λ_ _ _=>False)
  (hCX:∀ H e s',CX [] H s₁ (λ_ _ _=>False) e s'->False) :
  codeAny (model P w) callerA (.call (.ref fa) ⟨[.ref a],[]⟩) (λr s'=>r=.ok (.ret (.bool true))/\OldK s₁.heap s'.heap/\s'.os=s₁.os/\AllBare s'.gens) s₁:=by
 have rv:=qhA hi
 have lenV:=hi.length
 have core:∀ H:Hp,Only H->SqL K H a (ns.map V.int)->HOk P w H s₁.heap->(∀ b,H b≠none->b=a)->(H a≠none->K.lookup a=none)->
   codeAny (model P w) callerA (.call (.ref fa) ⟨[.ref a],[]⟩) (λr s'=>r=.ok (.ret (.bool true))/\OldK s₁.heap s'.heap/\s'.os=s₁.os/\AllBare s'.gens) s₁:=by
  intro H hO hS hok hA hK
  have base_of:∀ {b:Addr} {o:Obj},s₁.heap.get? b=some o->H b=none->(qqz s₁.heap H).get? b=some o:=λe n=>qqD e n
  have noA:∀ {b:Addr} {o:Obj} {es:Array DictEntry} {ep:Nat},s₁.heap.get? b=some o->o.data=.dict es ep->H b=none:=λ{b o es ep} e d=>by
   cases q:H b with
   | none=>rfl
   | some u=>
     have e':b=a:=hA b (by rw [q];simp)
     subst e'
     rw [ha] at e;cases e
     have d':Data.seq vs.toArray _=Data.dict es ep:=d
     cases d'
  have nsK:∀ {b:Addr} {m:Str->Option Value},s₁.heap.Ns b m->(qqz s₁.heap H).Ns b m:=λ{b m} ⟨o,es,ep,e,d,r⟩=>⟨o,es,ep,base_of e (noA e d),d,r⟩
  have hKb:K.In (qqz s₁.heap H):=λb o e=>base_of (KX b o e) (by
   cases q:H b with
   | none=>rfl
   | some u=>
     have e':b=a:=hA b (by rw [q];simp)
     subst e'
     rw [hK (by rw [q];simp)] at e;cases e)
  have hM:Mod K mg (qqz s₁.heap H):=⟨hKb,nsK hns,⟨mb,nsK hb,hbb⟩,let ⟨mc,h1,h2⟩:=hlim;⟨mc,nsK h1,h2⟩⟩
  have hSe:(qqz s₁.heap H).NoSeer:=⟨let ⟨mc,a,b⟩:=hseer.statics;⟨mc,nsK a,b⟩,let ⟨mc,a,b⟩:=hseer.mods;⟨mc,nsK a,b⟩,let ⟨mc,a,b⟩:=hseer.imp;⟨mc,nsK a,b⟩,
   let ⟨mg',bm,ob,a',b',c',d',e'⟩:=hseer.main;⟨mg',bm,ob,nsK a',b',base_of c' (by
    cases q:H bm with
    | none=>rfl
    | some u=>
      have z:bm=a:=hA bm (by rw [q];simp)
      subst z
      rw [ha] at c';cases c'
      simp at d'),d',e'⟩⟩
  have e0:Env0 P w K mg (qqz s₁.heap H) callerA [] s₁ H:=⟨rfl,hM,λb o e=>qsm e,Nat.le_of_eq (qn4 _ _),trivial,λb hb=>absurd (show b∈([]:List Addr) from hb) (by simp),hok,.of_eq hg,hSe,htree⟩
  refine codeAny_mono ((F _ hKb (nsK hns)).run callerA [] s₁ H ⟨[.ref a],[]⟩ [.ref a] [.ref a] _ _ hr e0 (hbind s₁ (.ref a)) (.cons rfl .nil) (hsp H hO hS)) λr s' h=>?_
  cases r with
  | error e=>exact (hCX H e s' h).elim
  | ok fl=>
    cases fl with
    | next=>exact False.elim h
    | brk=>exact False.elim h
    | cont=>exact False.elim h
    | ret u=>
      obtain ⟨v,H',os,bare,un,hok',r',q⟩:=h
      have q':v=.bl true:=q
      subst q'
      obtain rfl:u=Value.bool true:=r'
      refine ⟨rfl,OldK.of_keep λb o e=>?_,os,bare⟩
      cases q:H b with
      | none=>exact un.keep b o e q (by intro z;exact absurd (show b∈([]:List Addr) from z) (by simp)) (by simp)
      | some u=>
        rcases hO b with z | ⟨ob,xs,z⟩
        ·rw [q] at z;cases z
        ·have z2:=un.frzs b ob _ z
         obtain ⟨e1,_⟩:=hok b _ z
         obtain ⟨e2,_⟩:=hok' b _ z2
         rw [e] at e1;cases e1
         exact e2
 cases hk:K.lookup a with
 | some o=>
   have e:=KX a o hk
   rw [ha] at e
   cases e
   refine core (λ_=>none) (λ_=>.inl rfl) (.inr ⟨_,vs.toArray,_,hk,rfl,rfl,rfl,by rw [waj,lenV];exact hl,by simpa using rv⟩) (λb u z=>by have z':(none:Option HO)=some u:=z;cases z') (λb z=>absurd rfl z) λz=>absurd rfl z
 | none=>
   refine core (λb=>if b=a then some (.frz { cls:=.type "list", data:=.seq vs.toArray } (.lst (ns.map V.int))) else none) (λb=>?_) (.inl (.inr ⟨{ cls:=.type "list", data:=.seq vs.toArray },if_pos rfl⟩)) (λb u z=>?_) (λb z=>?_) λ_=>hk
   ·by_cases hb:b=a
    ·exact .inr ⟨_,_,if_pos hb⟩
    ·exact .inl (if_neg hb)
   ·by_cases hb:b=a
    ·have z':=(if_pos hb).symm.trans z
     cases z'
     subst hb
     exact ⟨ha,by rw [waa];exact hl,vs,_,rv,ha⟩
    ·have z':=(if_neg hb).symm.trans z
     cases z'
   ·by_cases hb:b=a
    ·exact hb
    ·exact absurd (if_neg hb) z
end L2
namespace L2
open PySem PySem.Spec PyProof.Rows
theorem walk_of {l:PySem.W.OpenLaw} {n k:Nat} {q:Program} {loose:List Str} {XP:(Str->Option Value)->Heap->Prop} {YP:World->Heap->Prop} {d:DefRec} {K:Params->PySem.W.Frag} {CX:World->CXT} {sp:World->Sp} {x:Str}
  (hn:l.most=some n) (hn2:n<=sizeLine) (hdf:d.params.defaults=[]) (hq:importsNone q=true) (htree:∀ w,(model l.prog w).prog.given.tree=none) (hr:Room k callerA)
  (hY:∀ (w:World) (h:Heap),YP w h->(K w.params).In h)
  (F:∀ (w:World) (mg:Str->Option Value) (fa:Addr) (h:Heap),(K w.params).In h->h.Ns mainGlobals mg->mg d.name=some (.ref fa)->
   ∃ fd:FuncData,(∀ (s:Shared) (u:Value),BindsTo s fd ⟨[u],[]⟩ [(x,u)])/\
     ∀ base:Heap,(K w.params).In base->base.Ns mainGlobals mg->FnOk l.prog w (K w.params) mg base (CX w) k fa fd [x] (sp w))
  (hsp:∀ (w:World) (H:Hp) (a:Addr) (ns:List Int),ns.length<=n->Only H->SqL (K w.params) H a (ns.map V.int)->sp w [.ref a] H (λv _=>v=.bl true) λ_ _ _=>False)
  (hCX:∀ (w:World) (H:Hp) (s:Shared) (e:Value) (s':Shared),CX w [] H s (λ_ _ _=>False) e s'->False) :
  PySem.W.WalkO q loose XP YP l.row.toRowW d [] (λf vs=>PySem.call f vs):=by
 refine Att.attach_call hn hdf λw s₀ s₁ mg mb fa o pm cd doc a vs ns G Y ho hd hcd hmg hobj hints hlen hg=>?_
 have KX:=hY w _ Y
 obtain ⟨fd,hb,hF⟩:=F w mg fa _ KX G.T.g hmg
 exact qqH KX G.T.g G.T.b G.T.builtins G.T.nolimit (G.T.seer hq) (htree w) hg hobj hints (wap hlen hn2) hr hF hb (λH hO hS=>hsp w H a ns hlen hO hS) λH e s'=>hCX w H s₁ e s'
end L2
namespace L2
open PySem PySem.Spec PyProof.Rows
noncomputable def qdr (s:Stmt):Arguments:=match s with
 | .FunctionDef _ a _ _ _ _ _ _ _ _=>a
 | _=>{ posonlyargs:=[],args:=[],vararg:=none,kwonlyargs:=[],kw_defaults:=[],kwarg:=none,defaults:=[] }
noncomputable def qcA (s:Stmt):List Stmt:=match s with
 | .FunctionDef _ _ b _ _ _ _ _ _ _=>b
 | _=>[]
noncomputable def qbe (s:Stmt):Scope:=match s with
 | .FunctionDef _ _ _ _ _ _ sc _ _ _=>sc
 | _=>{ kind:=.function,names:=[],isGenerator:=false,isCoroutine:=false }
noncomputable abbrev CX0:CXT:=λ_ _ _ _ _ _=>False
noncomputable abbrev E0:XK:=λ_ _ _=>False
theorem qvj {X:Cx}:Passes CX0 X E0:=λ_ _ _ _ _ _ _ h=>h.elim
structure Fun (K:PySem.W.Frag) (x qual:Str) (st:Stmt) (f:Addr) (fd:FuncData):Prop where
 ex:∃ (oc:Value) (od:Option Addr) (kV doc pm:Value) (an:Option Addr) (cdv ct:Value) (osl:Array (Option Value)),
  fd=PySem.W.fnOf x qual (qdr st) (qcA st) (qbe st) .none kV doc pm an cdv ct/\K.lookup f=some ⟨oc,od,.func fd,osl⟩/\PySem.W.codeIn K cdv qual=true
 kp:PySem.W.keepIn K (.ref f)=true
section
variable {P:Program} {w:World} {K:PySem.W.Frag} {mg:Str->Option Value} {base:Heap}
theorem Fun.ok {x qual:Str} {st:Stmt} {f:Addr} {fd:FuncData} {N ps:List Str} {k:Nat} {sp:Sp} (F:Fun K x qual st f fd) (S:FnScope N ps (qbe st)) (len:∀ vs H Q E,sp vs H Q E->vs.length=ps.length)
  (hbody:∀ (cdv:Value) (A:Around) (outer:List Env) (s:Shared) (H:Hp) (vs:List V) (Q:VK) (E:XK),Room k (A.deeper (envOfC qual (qbe st) s.heap.objs.size f cdv))->sp vs H Q E->
   ∃ t,PSs (qss CX0 P w K mg base N qual (qbe st) f cdv A outer s H E).nox (qcA st) t/\t { nx:=λ_ H'=>Q .non H',rt:=Q } (start N vs) H):FnOk P w K mg base CX0 (k+1) f fd ps sp:=by
 obtain ⟨oc,od,kV,doc,pm,an,cdv,ct,osl,rfl,lk,hcd⟩:=F.ex
 refine qvi lk hcd S len λA outer s H vs Q E hr hsp=>?_
 obtain ⟨t,h,q⟩:=hbody cdv A outer s H vs Q E hr hsp
 exact ⟨t,h.nox,q⟩
theorem Fun.binds {x qual:Str} {st:Stmt} {f:Addr} {fd:FuncData} {ps:List Str} (F:Fun K x qual st f fd)
  (h:∀ (kV doc pm:Value) (an:Option Addr) (cdv ct:Value) (us:List Value),us.length=ps.length->bindArgs (PySem.W.fnOf x qual (qdr st) (qcA st) (qbe st) .none kV doc pm an cdv ct) ⟨us,[]⟩=pure (ps.zip us)):Binds K fd ps []:=by
 obtain ⟨oc,od,kV,doc,pm,an,cdv,ct,osl,rfl,lk,hcd⟩:=F.ex
 exact .all (h kV doc pm an cdv ct)
theorem qt7 {x qual:Str} {st:Stmt} {f:Addr} {oc:Value} {od an:Option Addr} {osl:Array (Option Value)} {kV doc pm cdv ct:Value} (l:K.lookup f=some ⟨oc,od,.func (PySem.W.fnOf x qual (qdr st) (qcA st) (qbe st) .none kV doc pm an cdv ct),osl⟩)
  (c:PySem.W.codeIn K cdv qual=true) (k:PySem.W.keepIn K (.ref f)=true):Fun K x qual st f (PySem.W.fnOf x qual (qdr st) (qcA st) (qbe st) .none kV doc pm an cdv ct):=⟨⟨oc,od,kV,doc,pm,an,cdv,ct,osl,rfl,l,c⟩,k⟩
end
section
variable {X:Cx}
theorem pv (i:Nat) {x:Str} {pos:Pos} (hN:X.N[i]?=some x:=by rfl) (hv:Vis X.env.scope x:=by first | exact Or.inl rfl | exact Or.inr (Or.inl rfl) | exact Or.inr (Or.inr rfl)) (hd:(x == ("__debug__" : Str))=false:=by decide)
  (hcd:(x == ("__classdict__" : Str))=false:=by decide):PE X (.Name x pos) (qaf i):=qtV hN hv hd hcd
end
theorem qbI {c A B:Prop} [Decidable c] (h1:c->A) (h2:¬ c->B):if c then A else B:=by
 by_cases h:c
 ·rw [if_pos h]
  exact h1 h
 ·rw [if_neg h]
  exact h2 h
noncomputable def Same (H H':Hp):Prop:=∀ b o,H b=some o->H' b=some o
theorem Same.refl (H:Hp):Same H H:=λ_ _ h=>h
theorem Same.trans {H H1 H2:Hp} (a:Same H H1) (b:Same H1 H2):Same H H2:=λc o h=>b c o (a c o h)
theorem Same.free {H H':Hp} (e:Same H H') {l:Addr} (h:H' l=Option.none):H l=Option.none:=by
 cases q:H l with
 | none=>rfl
 | some o=>
   rw [e l o q] at h
   cases h
theorem Same.seq {K:PySem.W.Frag} {H H':Hp} {a:Addr} {xs:List V} (e:Same H H') (h:SqL K H a xs):SqL K H' a xs:=by
 rcases h with (h | ⟨o,h⟩) | h
 ·exact .inl (.inl (e _ _ h))
 ·exact .inl (.inr ⟨o,e _ _ h⟩)
 ·exact .inr h
end L2
local macro_rules | `(tactic| omega)=>`(tactic| lia)
namespace Bs.Hd
open PySem PySem.Spec PyProof.Rows L2
set_option maxRecDepth 100000
set_option maxHeartbeats 4000000
noncomputable def top (i:Nat):Stmt:=PySem.Challenge.pw_backslope_k11_rational_roots_put_in.main.body.getD i (.Pass ⟨0,0,0,0⟩)
noncomputable abbrev qgR:Stmt:=top 2
noncomputable abbrev qqI:Stmt:=top 3
noncomputable abbrev qnx:Stmt:=top 4
noncomputable abbrev qjJ:Stmt:=top 5
noncomputable abbrev qow:Stmt:=top 6
noncomputable abbrev qjK:Stmt:=top 7
noncomputable abbrev qkL:Stmt:=top 8
noncomputable abbrev qlT:Stmt:=top 9
noncomputable abbrev qlU:Stmt:=top 10
noncomputable abbrev qny:Stmt:=top 11
noncomputable abbrev qhB:Stmt:=top 12
noncomputable abbrev qhC:Stmt:=top 13
noncomputable abbrev qnz:Stmt:=top 14
noncomputable abbrev qlV:Stmt:=top 15
noncomputable abbrev qjL:Stmt:=top 16
noncomputable abbrev qfi:Stmt:=top 17
noncomputable abbrev qhD:Stmt:=top 18
noncomputable abbrev qhE:Stmt:=top 19
noncomputable abbrev qgS:Stmt:=top 20
noncomputable abbrev qiD:Stmt:=top 21
noncomputable abbrev qkM:Stmt:=top 22
noncomputable abbrev qiE:Stmt:=top 23
noncomputable abbrev qiF:Stmt:=top 24
noncomputable abbrev qjM:Stmt:=top 25
noncomputable abbrev qhF:Stmt:=top 26
noncomputable abbrev qiG:Stmt:=top 27
noncomputable abbrev qqJ:Stmt:=top 28
noncomputable abbrev qox:Stmt:=top 29
noncomputable abbrev qf7:Stmt:=top 30
noncomputable abbrev qkN:Stmt:=top 31
noncomputable abbrev qkO:Stmt:=top 32
noncomputable abbrev qsw:Stmt:=top 34
noncomputable abbrev qsx:Stmt:=top 35
noncomputable abbrev qt8:Stmt:=top 37
noncomputable abbrev qoy:Stmt:=top 38
noncomputable abbrev qlW:Stmt:=top 39
noncomputable abbrev qoz:Stmt:=top 40
noncomputable abbrev qgT:Stmt:=top 42
noncomputable abbrev qhG:Stmt:=top 43
noncomputable abbrev qqK:Stmt:=top 45
noncomputable abbrev qqL:Stmt:=top 46
noncomputable abbrev qnA:Stmt:=top 47
noncomputable abbrev qjN:Stmt:=top 48
noncomputable abbrev qlX:Stmt:=top 49
noncomputable abbrev qqM:Stmt:=top 50
noncomputable abbrev qkP:Stmt:=top 51
noncomputable abbrev qoA:Stmt:=top 52
noncomputable abbrev qnB:Stmt:=top 53
noncomputable abbrev qjO:Stmt:=top 54
noncomputable abbrev qsy:Stmt:=top 55
noncomputable abbrev qkQ:Stmt:=top 56
noncomputable abbrev qqN:Stmt:=top 57
noncomputable abbrev qoB:Stmt:=top 58
noncomputable abbrev N:Value:=.none
noncomputable abbrev S (x:Str) (t:Tok):Value:=.str x t
noncomputable abbrev I (i:Int):Value:=.int i 0
noncomputable abbrev R (a:Addr):Value:=.ref a
noncomputable def en (P:Params) (k:Str) (t:Tok) (v:Value):DictEntry:=⟨PyData.keyHash P k,.str k t,v⟩
noncomputable def cdO (n:Str) (t:Tok) (l c u:Int) (a:Addr) (b g d e f:Value) (x:Int) (y:Tok):Obj:=⟨.type "code", none,.fields #[S n t,S n (t+1),S "/claim/cut.py" (t+2),I l,I c,I 0,I 0,I u,R a,.bool true,I 181,b,g,d,e,f,I x,I l,S "/claim/cut.py" y],#[]⟩
noncomputable def fnO (n:Str) (s:Stmt) (pm:Value) (c:Addr):Obj:=⟨.type "function", none,.func (PySem.W.fnOf n n (qdr s) (qcA s) (qbe s) .none .none .none pm none (.ref c) .none),#[]⟩
noncomputable abbrev mo0:Value:=S "backslope.wholes" 187
noncomputable abbrev mo1:Value:=S "backslope.numbers" 476
noncomputable abbrev mo2:Value:=S "backslope.polys" 497
noncomputable abbrev mo3:Value:=S "backslope.places" 525
noncomputable abbrev mo4:Value:=S "law_backslope_k11_rational_roots_put_in" 545
noncomputable def hp (P:Params):W.Frag:=[
 (3,⟨.type "dict", none,.dict #[en P "__name__" 165 (S "law_backslope_k11_rational_roots_put_in" 545),en P "__doc__" 166 N,en P "__package__" 167 N,en P "__loader__" 168 (.builtin "__main__.__loader__#opaque"),en P "__spec__" 169 N,en P "__annotations__" 170 (R 6),en P "__builtins__" 171 (R 4),en P "__file__" 173 (S "/claim/cut.py" 172),en P "__cached__" 174 N,en P "EXPONENTS" 197 (R 15),en P "common_divisor" 206 (R 22),en P "raised" 216 (R 29),en P "is_prime" 224 (R 36),en P "prime_after" 232 (R 43),en P "content" 238 (R 48),en P "row_trimmed" 246 (R 55),en P "row_parted" 252 (R 60),en P "row_times" 265 (R 67),en P "row_slope" 271 (R 72),en P "row_over" 285 (R 79),en P "row_at_modulo" 296 (R 86),en P "root_exponent" 306 (R 93),en P "row_less" 312 (R 98),en P "row_moved" 323 (R 105),en P "strand_rest" 329 (R 110),en P "strand_shortened" 335 (R 115),en P "row_shortened" 342 (R 122),en P "strand_euclid" 351 (R 129),en P "inverse_modulo" 365 (R 136),en P "rests_modulo" 371 (R 141),en P "row_modulo" 379 (R 148),en P "monic_modulo" 385 (R 153),en P "split_modulo" 400 (R 160),en P "rest_modulo" 409 (R 167),en P "euclid_modulo" 419 (R 174),en P "inverse_rest" 425 (R 179),en P "lifted" 442 (R 186),en P "nearest" 451 (R 193),en P "common_by_prime" 457 (R 198),en P "row_common" 469 (R 205),en P "simple_row" 475 (R 210),en P "ratio" 486 (R 217),en P "power" 496 (R 224),en P "poly" 506 (R 231),en P "cleared" 512 (R 236),en P "uncleared" 518 (R 241),en P "p_moved" 524 (R 246),en P "rational_roots" 532 (R 251),en P "starts_modulo" 544 (R 258),en P "_law_hand" 554 (R 265),en P "_law_draw" 566 (R 272),en P "_law_lowest" 576 (R 279),en P "_law_row_times" 589 (R 286),en P "_law_poly_of" 595 (R 291),en P "_law_root" 605 (R 298),en P "_law_rootless" 615 (R 305),en P "_law_scale" 622 (R 312),en P "_law_rising" 632 (R 319),en P "_law_is_number" 638 (R 324),en P "_law_far" 646 (R 331),en P "_law_far_root" 655 (R 338),en P "_law_wide" 661 (R 343),en P "law" 667 (R 348)] 63,#[]⟩),
 (15,⟨.type "tuple", none,.seq #[(.int 61 189),(.int 127 190),(.int 521 191),(.int 1279 192),(.int 4423 193),(.int 9941 194),(.int 21701 195),(.int 44497 196)] 0,#[]⟩),
 (21,cdO "common_divisor" 198 3 2 3 16 (R 17) N (R 18) (R 19) (R 20) 204 205),
 (22,fnO "common_divisor" (top 2) mo0 21),
 (28,cdO "raised" 207 9 2 3 23 (R 24) N (R 25) (R 26) (R 27) 214 215),
 (29,fnO "raised" (top 3) mo0 28),
 (35,cdO "is_prime" 217 19 1 3 30 (R 31) N (R 32) (R 33) (R 34) 222 223),
 (36,fnO "is_prime" (top 4) mo0 35),
 (42,cdO "prime_after" 225 26 1 3 37 (R 38) N (R 39) (R 40) (R 41) 230 231),
 (43,fnO "prime_after" (top 5) mo0 42),
 (47,cdO "content" 233 31 2 3 44 (R 45) N N N (R 46) 236 237),
 (48,fnO "content" (top 6) mo0 47),
 (54,cdO "row_trimmed" 239 38 1 3 49 (R 50) N (R 51) (R 52) (R 53) 244 245),
 (55,fnO "row_trimmed" (top 7) mo0 54),
 (59,cdO "row_parted" 247 43 2 3 56 (R 57) N N N (R 58) 250 251),
 (60,fnO "row_parted" (top 8) mo0 59),
 (66,cdO "row_times" 253 45 2 3 61 (R 62) N (R 63) (R 64) (R 65) 263 264),
 (67,fnO "row_times" (top 9) mo0 66),
 (71,cdO "row_slope" 266 54 1 3 68 (R 69) N N N (R 70) 269 270),
 (72,fnO "row_slope" (top 10) mo0 71),
 (78,cdO "row_over" 272 56 2 3 73 (R 74) N (R 75) (R 76) (R 77) 283 284),
 (79,fnO "row_over" (top 11) mo0 78),
 (85,cdO "row_at_modulo" 286 69 3 3 80 (R 81) N (R 82) (R 83) (R 84) 294 295),
 (86,fnO "row_at_modulo" (top 12) mo0 85),
 (92,cdO "root_exponent" 297 74 1 3 87 (R 88) N (R 89) (R 90) (R 91) 304 305),
 (93,fnO "root_exponent" (top 13) mo0 92),
 (97,cdO "row_less" 307 81 5 3 94 (R 95) N N N (R 96) 310 311),
 (98,fnO "row_less" (top 14) mo0 97),
 (104,cdO "row_moved" 313 87 2 3 99 (R 100) N (R 101) (R 102) (R 103) 321 322),
 (105,fnO "row_moved" (top 15) mo0 104),
 (109,cdO "strand_rest" 324 93 2 3 106 (R 107) N N N (R 108) 327 328),
 (110,fnO "strand_rest" (top 16) mo0 109),
 (114,cdO "strand_shortened" 330 103 1 3 111 (R 112) N N N (R 113) 333 334),
 (115,fnO "strand_shortened" (top 17) mo0 114),
 (121,cdO "row_shortened" 336 108 1 3 116 (R 117) N (R 118) (R 119) (R 120) 340 341),
 (122,fnO "row_shortened" (top 18) mo0 121),
 (128,cdO "strand_euclid" 343 110 2 3 123 (R 124) N (R 125) (R 126) (R 127) 349 350),
 (129,fnO "strand_euclid" (top 19) mo0 128),
 (135,cdO "inverse_modulo" 352 118 2 3 130 (R 131) N (R 132) (R 133) (R 134) 363 364),
 (136,fnO "inverse_modulo" (top 20) mo0 135),
 (140,cdO "rests_modulo" 366 132 2 3 137 (R 138) N N N (R 139) 369 370),
 (141,fnO "rests_modulo" (top 21) mo0 140),
 (147,cdO "row_modulo" 372 134 2 3 142 (R 143) N (R 144) (R 145) (R 146) 377 378),
 (148,fnO "row_modulo" (top 22) mo0 147),
 (152,cdO "monic_modulo" 380 136 2 3 149 (R 150) N N N (R 151) 383 384),
 (153,fnO "monic_modulo" (top 23) mo0 152),
 (159,cdO "split_modulo" 386 141 3 3 154 (R 155) N (R 156) (R 157) (R 158) 398 399),
 (160,fnO "split_modulo" (top 24) mo0 159),
 (166,cdO "rest_modulo" 401 152 3 3 161 (R 162) N (R 163) (R 164) (R 165) 407 408),
 (167,fnO "rest_modulo" (top 25) mo0 166),
 (173,cdO "euclid_modulo" 410 154 3 3 168 (R 169) N (R 170) (R 171) (R 172) 417 418),
 (174,fnO "euclid_modulo" (top 26) mo0 173),
 (178,cdO "inverse_rest" 420 162 3 3 175 (R 176) N N N (R 177) 423 424),
 (179,fnO "inverse_rest" (top 27) mo0 178),
 (185,cdO "lifted" 426 179 4 3 180 (R 181) N (R 182) (R 183) (R 184) 440 441),
 (186,fnO "lifted" (top 28) mo0 185),
 (192,cdO "nearest" 443 193 2 3 187 (R 188) N (R 189) (R 190) (R 191) 449 450),
 (193,fnO "nearest" (top 29) mo0 192),
 (197,cdO "common_by_prime" 452 196 3 3 194 (R 195) N N N (R 196) 455 456),
 (198,fnO "common_by_prime" (top 30) mo0 197),
 (204,cdO "row_common" 458 205 2 3 199 (R 200) N (R 201) (R 202) (R 203) 467 468),
 (205,fnO "row_common" (top 31) mo0 204),
 (209,cdO "simple_row" 470 214 1 3 206 (R 207) N N N (R 208) 473 474),
 (210,fnO "simple_row" (top 32) mo0 209),
 (216,cdO "ratio" 478 219 2 3 211 (R 212) N (R 213) (R 214) (R 215) 484 485),
 (217,fnO "ratio" (top 34) mo1 216),
 (223,cdO "power" 487 224 2 3 218 (R 219) N (R 220) (R 221) (R 222) 494 495),
 (224,fnO "power" (top 35) mo1 223),
 (230,cdO "poly" 499 233 1 3 225 (R 226) N (R 227) (R 228) (R 229) 504 505),
 (231,fnO "poly" (top 37) mo2 230),
 (235,cdO "cleared" 507 238 1 3 232 (R 233) N N N (R 234) 510 511),
 (236,fnO "cleared" (top 38) mo2 235),
 (240,cdO "uncleared" 513 243 2 3 237 (R 238) N N N (R 239) 516 517),
 (241,fnO "uncleared" (top 39) mo2 240),
 (245,cdO "p_moved" 519 245 2 3 242 (R 243) N N N (R 244) 522 523),
 (246,fnO "p_moved" (top 40) mo2 245),
 (250,cdO "rational_roots" 527 255 1 3 247 (R 248) N N N (R 249) 530 531),
 (251,fnO "rational_roots" (top 42) mo3 250),
 (257,cdO "starts_modulo" 533 271 2 3 252 (R 253) N (R 254) (R 255) (R 256) 542 543),
 (258,fnO "starts_modulo" (top 43) mo3 257),
 (264,cdO "_law_hand" 547 284 1 3 259 (R 260) N (R 261) (R 262) (R 263) 552 553),
 (265,fnO "_law_hand" (top 45) mo4 264),
 (271,cdO "_law_draw" 555 287 2 3 266 (R 267) N (R 268) (R 269) (R 270) 564 565),
 (272,fnO "_law_draw" (top 46) mo4 271),
 (278,cdO "_law_lowest" 567 300 2 3 273 (R 274) N (R 275) (R 276) (R 277) 574 575),
 (279,fnO "_law_lowest" (top 47) mo4 278),
 (285,cdO "_law_row_times" 577 307 2 3 280 (R 281) N (R 282) (R 283) (R 284) 587 588),
 (286,fnO "_law_row_times" (top 48) mo4 285),
 (290,cdO "_law_poly_of" 590 313 2 3 287 (R 288) N N N (R 289) 593 594),
 (291,fnO "_law_poly_of" (top 49) mo4 290),
 (297,cdO "_law_root" 596 315 2 3 292 (R 293) N (R 294) (R 295) (R 296) 603 604),
 (298,fnO "_law_root" (top 50) mo4 297),
 (304,cdO "_law_rootless" 606 322 2 3 299 (R 300) N (R 301) (R 302) (R 303) 613 614),
 (305,fnO "_law_rootless" (top 51) mo4 304),
 (311,cdO "_law_scale" 616 327 1 3 306 (R 307) N (R 308) (R 309) (R 310) 620 621),
 (312,fnO "_law_scale" (top 52) mo4 311),
 (318,cdO "_law_rising" 623 329 1 3 313 (R 314) N (R 315) (R 316) (R 317) 630 631),
 (319,fnO "_law_rising" (top 53) mo4 318),
 (323,cdO "_law_is_number" 633 338 1 3 320 (R 321) N N N (R 322) 636 637),
 (324,fnO "_law_is_number" (top 54) mo4 323),
 (330,cdO "_law_far" 639 342 2 3 325 (R 326) N (R 327) (R 328) (R 329) 644 645),
 (331,fnO "_law_far" (top 55) mo4 330),
 (337,cdO "_law_far_root" 647 344 2 3 332 (R 333) N (R 334) (R 335) (R 336) 653 654),
 (338,fnO "_law_far_root" (top 56) mo4 337),
 (342,cdO "_law_wide" 656 347 1 3 339 (R 340) N N N (R 341) 659 660),
 (343,fnO "_law_wide" (top 57) mo4 342),
 (347,cdO "law" 662 363 1 3 344 (R 345) N N N (R 346) 665 666),
 (348,fnO "law" (top 58) mo4 347)]
noncomputable def as:List Addr:=[3,15,21,22,28,29,35,36,42,43,47,48,54,55,59,60,66,67,71,72,78,79,85,86,92,93,97,98,104,105,109,110,114,115,121,122,128,129,135,136,140,141,147,148,152,153,159,160,166,167,173,174,178,179,185,186,192,193,197,198,204,205,209,210,216,217,223,224,230,231,235,236,240,241,245,246,250,251,257,258,264,265,271,272,278,279,285,286,290,291,297,298,304,305,311,312,318,319,323,324,330,331,337,338,342,343,347,348]
noncomputable def vw:Program:=PySem.W.view PySem.Challenge.pw_backslope_k11_rational_roots_put_in [1,2,3,4,5,6,7,8,9,10,11,12,13,14,15,16,17,18,19,20,21,22,23,24,25,26,27,28,29,30,31,32,34,35,37,38,39,40,42,43,45,46,47,48,49,50,51,52,53,54,55,56,57,58]
noncomputable def hk:PySem.W.Hook:=PySem.W.kHook hp as (λ_=>by kernel_rfl)
theorem left:PySem.W.LeftO PySem.Challenge.pw_backslope_k11_rational_roots_put_in vw [] (λs=>PySem.W.xlAt vw [] s && PySem.W.recOk (PySem.W.RowW.records (PySem.W.OpenRow.toRowW (PySem.W.OpenLaw.row PySem.Challenge.rw_backslope_k11_rational_roots_put_in))) s) hk.obs hk.val 3432:=λw=>by kernel_rfl
end Bs.Hd
namespace Bs
noncomputable def Bd (n:Nat) (x:Int):Prop:=x.natAbs<2 ^ n
theorem Bd.mono {m n:Nat} {x:Int} (h:Bd m x) (hn:m<=n):Bd n x:=wau h (wba ∅ hn)
theorem Bd.le {n:Nat} {x y:Int} (h:Bd n x) (hy:y.natAbs<=x.natAbs):Bd n y:=wa4 hy h
theorem Bd.neg {n:Nat} {x:Int} (h:Bd n x):Bd n (-x):=by unfold Bd at *;rw [Int.natAbs_neg];exact h
theorem Bd.add {n:Nat} {x y:Int} (h:Bd n x) (h':Bd n y):Bd (n+1) (x+y):=by
 unfold Bd at *
 have:=Int.natAbs_add_le x y
 rw [wax]
 omega
theorem Bd.sub {n:Nat} {x y:Int} (h:Bd n x) (h':Bd n y):Bd (n+1) (x - y):=by
 rw [Int.sub_eq_add_neg];exact h.add h'.neg
theorem Bd.mul {m n:Nat} {x y:Int} (h:Bd m x) (h':Bd n y):Bd (m+n) (x*y):=by
 unfold Bd at *
 rw [wam,Nat.pow_add]
 exact Nat.mul_lt_mul'' h h'
theorem qwf {x:Int} (h1:-18446744073709551616<x) (h2:x<18446744073709551616):Bd 64 x:=by
 unfold Bd
 have:(2:Nat) ^ 64=18446744073709551616:=by decide
 rw [this];omega
theorem Bd.log2 {n:Nat} {x:Int} (h:Bd n x) (hn:0<n):x.natAbs.log2<n:=by
 unfold Bd at h
 rcases wbj x.natAbs with h0 | hp
 ·rw [h0];simpa using hn
 ·exact (Nat.log2_lt (Nat.ne_of_gt hp)).mpr h
structure Low (t d:Int):Prop where
 pos:0<d
 one:Int.gcd t d=1
theorem qmI (a b:Int):Int.gcd b (a.fmod b)=Int.gcd a b:=by
 have e:a.fmod b=a - b*a.fdiv b:=Int.fmod_def a b
 rw [e]
 apply Nat.dvd_antisymm
 ·apply Int.dvd_gcd
  ·have h1:=wcc b (a - b*a.fdiv b)
   have h2:=wb5 b (a - b*a.fdiv b)
   have h3:=wbk h2 (wcl (c:=a.fdiv b) h1)
   rw [Int.sub_add_cancel] at h3
   exact h3
  ·exact wcc b _
 ·apply Int.dvd_gcd
  ·exact wb5 a b
  ·exact Int.dvd_sub (wcc a b) (wcl (wb5 a b))
theorem qjP (a:Int) {b:Int} (h:0<=b):Int.gcd b (a % b)=Int.gcd a b:=by
 rw [<-Int.fmod_eq_emod_of_nonneg a h,qmI]
theorem qoC (a:Int) {b:Int} (h:b≠0):(a.fmod b).natAbs<b.natAbs:=by
 rcases Int.lt_or_gt_of_ne h with hb | hb
 ·rw [Int.fmod_eq_emod]
  have h1:=wav a h
  have h2:=Int.emod_lt a h
  split
  ·rename_i h'
   rcases h' with h' | h'
   ·omega
   ·have:a % b=0:=wci h'
    omega
  ·rename_i h'
   have:a % b≠0:=λz=>h' (.inr (wcj z))
   omega
 ·rw [Int.fmod_eq_emod_of_nonneg a (Int.le_of_lt hb)]
  have h1:=wav a h
  have h2:=waz a hb
  omega
theorem qeA {a b s:Int} (hb:b≠0) (hs:s=if b<0 then -((Int.gcd a b:Nat):Int) else ((Int.gcd a b:Nat):Int)) :
  s≠0/\s.natAbs<=b.natAbs/\Low (a.fdiv s) (b.fdiv s)/\a.fdiv s*b=a*b.fdiv s/\(a.fdiv s).natAbs<=a.natAbs/\(b.fdiv s).natAbs<=b.natAbs:=by
 have g0:0<Int.gcd a b:=Int.gcd_pos_of_ne_zero_right a hb
 have sn:s.natAbs=Int.gcd a b:=by rw [hs];split <;> simp
 have s0:s≠0:=by intro z;rw [z] at sn;simp at sn;omega
 have da:s∣a:=by
  rw [<-Int.natAbs_dvd,sn];exact wcc a b
 have db:s∣b:=by
  rw [<-Int.natAbs_dvd,sn];exact wb5 a b
 obtain ⟨t,rfl⟩:=da
 obtain ⟨d,rfl⟩:=db
 rw [Int.mul_fdiv_cancel_left _ s0,Int.mul_fdiv_cancel_left _ s0]
 have d0:d≠0:=by rintro rfl;simp at hb
 have sp:1<=s.natAbs:=by omega
 have gd:Int.gcd t d=1:=by
  rw [Int.gcd_mul_left] at sn
  have h2:s.natAbs*Int.gcd t d=s.natAbs*1:=by omega
  exact Nat.eq_of_mul_eq_mul_left sp h2
 have dp:0<d:=by
  by_cases h:s*d<0
  ·rw [if_pos h] at hs
   have sneg:s<0:=by omega
   rcases Int.lt_or_gt_of_ne d0 with h' | h'
   ·have:=Int.mul_pos_of_neg_of_neg sneg h';omega
   ·exact h'
  ·rw [if_neg h] at hs
   have spos:0<s:=by omega
   rcases Int.lt_or_gt_of_ne d0 with h' | h'
   ·have:=Int.mul_neg_of_pos_of_neg spos h';omega
   ·exact h'
 have le1:∀ y:Int,y.natAbs<=(s*y).natAbs:=λy=>by
  rw [wam];exact wcm _ sp
 refine ⟨s0,?_,⟨dp,gd⟩,?_,le1 t,le1 d⟩
 ·rw [wam];exact wcn _ ⋯
 ·grind
theorem qeV {a b:Int} (hb:0<b):Low (a / ((Int.gcd a b:Nat):Int)) (b / ((Int.gcd a b:Nat):Int))/\(a / ((Int.gcd a b:Nat):Int)).natAbs<=a.natAbs/\(b / ((Int.gcd a b:Nat):Int)).natAbs<=b.natAbs/\0<((Int.gcd a b:Nat):Int)/\((Int.gcd a b:Nat):Int)<=b:=by
 have g0:0<Int.gcd a b:=Int.gcd_pos_of_ne_zero_right a ⋯
 obtain ⟨_,h1,h2,h3,h4,h5⟩:=qeA (a:=a) (b:=b) (s:=((Int.gcd a b:Nat):Int)) ⋯ (by rw [if_neg ⋯])
 rw [wcd _ ⋯,wcd _ ⋯] at h2
 rw [wcd _ ⋯] at h4 h5
 exact ⟨h2,h4,h5,⋯,⋯⟩
end Bs
namespace Bs
open PySem L2
noncomputable def qvk (_ j:Int):Prop:=0<j/\Bd 9000 j
noncomputable def qwg (_ j:Int):Prop:=j≠0/\Bd 9000 j
noncomputable def qoD (i j:Int):Prop:=0<=j/\j<=1000000/\i.natAbs<2 ^ 64
noncomputable abbrev qdA:R2:=rI0 λi j=>.int (i+j)
noncomputable abbrev qdw:R2:=rI0 λi j=>.int (i - j)
noncomputable abbrev qce:R2:=rI IntMulOk λi j=>.int (i*j)
noncomputable abbrev qkR:R2:=rI qvk λi j=>.int (i / j)
noncomputable abbrev qt9:R2:=rI qwg λi j=>.int (i.fdiv j)
noncomputable abbrev qhH:R2:=rI (λ_ j=>0<j) λi j=>.int (i % j)
noncomputable abbrev qsz:R2:=rI (λ_ j=>j≠0) λi j=>.int (i.fmod j)
noncomputable abbrev qmJ:R2:=rI qoD λi j=>.int (i ^ j.toNat)
noncomputable abbrev iLt:R2:=rI0 λi j=>.bl (decide (i<j))
noncomputable abbrev iLe:R2:=rI0 λi j=>.bl (decide (i<=j))
noncomputable abbrev iGt:R2:=rI0 λi j=>.bl (decide (j<i))
noncomputable abbrev iGe:R2:=rI0 λi j=>.bl (decide (j<=i))
noncomputable abbrev qdK:V->Hp->VK->Prop:=rU λi=>.int (-i)
noncomputable def gT:R2:=λx y H Q=>∃ p i xs v,x=.ref p/\y=.int i/\H p=some (.tup xs)/\atI xs i=some v/\Q v H
noncomputable def gL:R2:=λx y H Q=>∃ p i xs v,x=.ref p/\y=.int i/\H p=some (.lst xs)/\atI xs i=some v/\Q v H
noncomputable def gS (K:W.Frag):R2:=λx y H Q=>∃ p i xs v,x=.ref p/\y=.int i/\SqL K H p xs/\atI xs i=some v/\Q v H
noncomputable def qoE:List V->Hp->VK->Prop:=λxs H Q=>∃ i,xs=[.int i]/\Q (.int (if i<0 then -i else i)) H
noncomputable def qsA:List V->Hp->VK->Prop:=λxs H Q=>∃ i j,xs=[.int i,.int j]/\Q (.int (if j > i then j else i)) H
noncomputable def qvV:List V->Hp->VK->Prop:=λxs H Q=>∃ i j,xs=[.int i,.int j]/\Q (.int (if j<i then j else i)) H
noncomputable def qqO:List V->Hp->VK->Prop:=λxs H Q=>∃ k,xs=[.bl k]/\Q (.int (if k=true then 1 else 0)) H
noncomputable def qoF:List V->Hp->VK->Prop:=λxs H Q=>∃ p ys,xs=[.ref p]/\H p=some (.tup ys)/\Q (.int ys.length) H
noncomputable def qbS:List V->Hp->VK->Prop:=λxs H Q=>∃ p ys,xs=[.ref p]/\H p=some (.lst ys)/\Q (.int ys.length) H
noncomputable def qua (K:W.Frag):List V->Hp->VK->Prop:=λxs H Q=>∃ p ys,xs=[.ref p]/\SqL K H p ys/\Q (.int ys.length) H
noncomputable def qtK:Option HO->String->Option Bool
 | some (.tup _),n=>if n = "tuple" then some true else if n = "bool" \/ n = "int" \/ n = "list" then some false else none
 | some (.lst _),n=>if n = "list" then some true else if n = "bool" \/ n = "int" \/ n = "tuple" then some false else none
 | _,_=>none
noncomputable def qqP (H:Hp):V->String->Option Bool
 | .int _,n=>if n = "int" then some true else if n = "bool" \/ n = "tuple" \/ n = "list" then some false else none
 | .bl _,n=>if n = "int" \/ n = "bool" then some true else if n = "tuple" \/ n = "list" then some false else none
 | .ref p,n=>qtK (H p) n
 | _,_=>none
noncomputable def qsB:List V->Hp->VK->Prop:=λxs H Q=>∃ x n b,xs=[x,.ty n]/\qqP H x n=some b/\Q (.bl b) H
theorem qoG (H:Hp) (i:Int):qqP H (.int i) "int" = some true:=rfl
theorem qgy (H:Hp) (i:Int):qqP H (.int i) "bool" = some false:=rfl
theorem qrL (H:Hp) (b:Bool):qqP H (.bl b) "bool" = some true:=rfl
theorem qsC {H:Hp} {p:Addr} {xs:List V} (h:H p=some (.tup xs)):qqP H (.ref p) "tuple" = some true:=by
 show qtK (H p) "tuple" = _
 rw [h];rfl
noncomputable def qvW:V->Bool
 | .int _=>true
 | _=>false
noncomputable def eqT:R2:=λx y H Q=>∃ a b xs ys,x=.ref a/\y=.ref b/\H a=some (.tup xs)/\H b=some (.tup ys)/\xs.all qvW=true/\ys.all qvW=true/\Q (.bl (decide (xs=ys))) H
noncomputable def ForR (lo:Int) (n:Nat) (g:TG) (tb:TS) (D:Ends) (σ:St) (H:Hp):Prop:=∃ W:Nat->Nat->St->Hp->Prop,(∃ m,W 0 m σ H)/\∀ i m σ H,W i m σ H->
 ((Itr lo n).stop i H/\D.nx σ H)\/((Itr lo n).go i H/\∃ N:St->Hp->Prop,(∀ σ' H',N σ' H'->∃ m',m'<m/\W (i+1) m' σ' H')/\∀ x H',(Itr lo n).yld i H x H'->g x σ H' λσ2 H2=>tb { D with nx:=N,ct:=N,bk:=D.nx } σ2 H2)
theorem qoH {ta:TA} {g:TG} {tb:TS} {D:Ends} {σ:St} {H:Hp}:qea (qiC ta) g tb D σ H=ta σ H (λvs H1=>∃ j:Int,vs=[.int j]/\-(2 ^ 62)<=j/\j<2 ^ 62/\ForR 0 j.toNat g tb D σ H1):=rfl
theorem qoI {ta:TA} {g:TG} {tb:TS} {D:Ends} {σ:St} {H:Hp}:qea (qoc ta) g tb D σ H=ta σ H (λvs H1=>∃ i j:Int,vs=[.int i,.int j]/\(-(2 ^ 62)<=i/\i<2 ^ 62/\-(2 ^ 62)<=j/\j<2 ^ 62)/\ForR i (j - i).toNat g tb D σ H1):=rfl
theorem ForR.by {lo:Int} {n:Nat} {g:TG} {tb:TS} {D:Ends} {σ:St} {H:Hp} (Pv:Nat->St->Hp->Prop) (h0:Pv 0 σ H)
  (hs:∀ i σ H,i<n->Pv i σ H->g (.int (lo+i)) σ H λσ2 H2=>tb { D with nx:=Pv (i+1),ct:=Pv (i+1),bk:=D.nx } σ2 H2) (hd:∀ σ H,Pv n σ H->D.nx σ H):ForR lo n g tb D σ H:=qof Pv h0 hs hd
noncomputable def ForT (K:W.Frag) (a:Addr) (g:TG) (tb:TS) (D:Ends) (σ:St) (H:Hp):Prop:=∃ W:Nat->Nat->St->Hp->Prop,(∃ m,W 0 m σ H)/\∀ i m σ H,W i m σ H->
 ((Itt K a).stop i H/\D.nx σ H)\/((Itt K a).go i H/\∃ N:St->Hp->Prop,(∀ σ' H',N σ' H'->∃ m',m'<m/\W (i+1) m' σ' H')/\∀ x H',(Itt K a).yld i H x H'->g x σ H' λσ2 H2=>tb { D with nx:=N,ct:=N,bk:=D.nx } σ2 H2)
noncomputable def ForL (K:W.Frag) (a:Addr) (g:TG) (tb:TS) (D:Ends) (σ:St) (H:Hp):Prop:=∃ W:Nat->Nat->St->Hp->Prop,(∃ m,W 0 m σ H)/\∀ i m σ H,W i m σ H->
 ((Itl K a).stop i H/\D.nx σ H)\/((Itl K a).go i H/\∃ N:St->Hp->Prop,(∀ σ' H',N σ' H'->∃ m',m'<m/\W (i+1) m' σ' H')/\∀ x H',(Itl K a).yld i H x H'->g x σ H' λσ2 H2=>tb { D with nx:=N,ct:=N,bk:=D.nx } σ2 H2)
theorem qrM {K:W.Frag} {tl:TE} {g:TG} {tb:TS} {D:Ends} {σ:St} {H:Hp}:qea (qrE K tl) g tb D σ H=tl σ H (λx H1=>∃ a,x=.ref a/\(∃ xs,SqT K H1 a xs)/\ForT K a g tb D σ H1):=rfl
theorem qrN {K:W.Frag} {tl:TE} {g:TG} {tb:TS} {D:Ends} {σ:St} {H:Hp}:qea (qci K tl) g tb D σ H=tl σ H (λx H1=>∃ a,x=.ref a/\(∃ xs,SqL K H1 a xs)/\ForL K a g tb D σ H1):=rfl
theorem ForT.by {K:W.Frag} {a:Addr} {xs:List V} {g:TG} {tb:TS} {D:Ends} {σ:St} {H:Hp} (Pv:Nat->St->Hp->Prop) (h0:Pv 0 σ H) (hl:∀ i σ H,i<=xs.length->Pv i σ H->H a=some (.tup xs))
  (hs:∀ i x σ H,xs[i]?=some x->Pv i σ H->g x σ H λσ2 H2=>tb { D with nx:=Pv (i+1),ct:=Pv (i+1),bk:=D.nx } σ2 H2) (hd:∀ σ H,Pv xs.length σ H->D.nx σ H):ForT K a g tb D σ H:=
 qoe Pv h0 (λi σ H h p=>SqT.of (hl i σ H h p)) hs hd
theorem ForL.by {K:W.Frag} {a:Addr} {xs:List V} {g:TG} {tb:TS} {D:Ends} {σ:St} {H:Hp} (Pv:Nat->St->Hp->Prop) (h0:Pv 0 σ H) (hl:∀ i σ H,i<=xs.length->Pv i σ H->SqL K H a xs)
  (hs:∀ i x σ H,xs[i]?=some x->Pv i σ H->g x σ H λσ2 H2=>tb { D with nx:=Pv (i+1),ct:=Pv (i+1),bk:=D.nx } σ2 H2) (hd:∀ σ H,Pv xs.length σ H->D.nx σ H):ForL K a g tb D σ H:=
 qqF Pv h0 hl hs hd
theorem while_by {c:TT} {tb:TS} {D:Ends} {σ:St} {H:Hp} (W:Nat->St->Hp->Prop) (m:Nat) (h0:W m σ H)
  (hs:∀ m σ H,W m σ H->c σ H λb H1=>if b=true then ∃ N:St->Hp->Prop,(∀ σ' H',N σ' H'->∃ m',m'<m/\W m' σ' H')/\tb { D with nx:=N,ct:=N,bk:=D.nx } σ H1 else D.nx σ H1):qb9 c tb D σ H:=⟨W,⟨m,h0⟩,hs⟩
noncomputable def Kp (p:Addr) (H H':Hp):Prop:=∀ b o,b≠p->H b=some o->H' b=some o
theorem Kp.trans {p:Addr} {H H1 H2:Hp} (a:Kp p H H1) (b:Kp p H1 H2):Kp p H H2:=λc o n h=>b c o n (a c o n h)
theorem Kp.same {p:Addr} {H H1 H2:Hp} (a:Kp p H H1) (b:Same H1 H2):Kp p H H2:=λc o n h=>b c o (a c o n h)
theorem Kp.of_same {p:Addr} {H H1:Hp} (b:Same H H1):Kp p H H1:=λc o _ h=>b c o h
theorem Kp.upd {p:Addr} {H:Hp} {o:HO}:Kp p H (upd H p o):=λb u n h=>by rw [qaC n];exact h
theorem qag {H:Hp} {p:Addr} (h:H p=none) (o:HO):Same H (upd H p o):=λb u q=>by rw [qaC (qaq q h)];exact q
theorem Kp.new {p:Addr} {H H1:Hp} (a:Kp p H H1) (h:H p=none):Same H H1:=λb o q=>a b o (qaq q h) q
theorem Kp.seq {K:W.Frag} {p:Addr} {H H':Hp} {a:Addr} {xs:List V} (e:Kp p H H') (n:a≠p) (h:SqL K H a xs):SqL K H' a xs:=by
 rcases h with (h | ⟨o,h⟩) | h
 ·exact .inl (.inl (e _ _ n h))
 ·exact .inl (.inr ⟨o,e _ _ n h⟩)
 ·exact .inr h
theorem sz {n:Nat} (h:n<=1000000):n<=sizeLine:=by rw [sizeLine_eq];omega
end Bs
namespace Bs
open PySem L2
theorem qmK {α:Type} (a b:α):atI [a,b] 0=some a:=rfl
theorem qmL {α:Type} (a b:α):atI [a,b] 1=some b:=rfl
theorem qi3 {α:Type} (a b c:α):atI [a,b,c] 0=some a:=rfl
theorem qi4 {α:Type} (a b c:α):atI [a,b,c] 1=some b:=rfl
theorem qi5 {α:Type} (a b c:α):atI [a,b,c] 2=some c:=rfl
theorem qoJ (a b:Int):scal (.int a) (.int b)=true:=rfl
theorem qoK (a b:Bool):scal (.bl a) (.bl b)=true:=rfl
theorem qi6:ixN 3 0=some 0:=rfl
theorem qi7:ixN 3 2=some 2:=rfl
end Bs
namespace Bs
open PySem PySem.Spec PyProof.Rows L2
theorem qgz:bootBuiltins "abs" = some (.builtin "abs"):=by decide +kernel
theorem qbb:bootBuiltins "len" = some (.builtin "len"):=by decide +kernel
theorem qkS:bootBuiltins "max" = some (.builtin "max"):=by decide +kernel
theorem qub:bootBuiltins "min" = some (.builtin "min"):=by decide +kernel
theorem qcJ:bootBuiltins "isinstance" = some (.builtin "isinstance"):=by decide +kernel
theorem qrO:bootBuiltins "all" = some (.builtin "all"):=by decide +kernel
theorem qrP:bootBuiltins "sum" = some (.builtin "sum"):=by decide +kernel
theorem qrQ:bootBuiltins "int" = some (.type "int"):=by decide +kernel
theorem qsD:bootBuiltins "bool" = some (.type "bool"):=by decide +kernel
theorem qjQ:bootBuiltins "tuple" = some (.type "tuple"):=by decide +kernel
theorem qhI:bootBuiltins "list" = some (.type "list"):=by decide +kernel
theorem qkT:bootBuiltins "enumerate" = some (.type "enumerate"):=by decide +kernel
theorem quc:bootBuiltins "zip" = some (.type "zip"):=by decide +kernel
theorem qlY:bootBuiltins "reversed" = some (.type "reversed"):=by decide +kernel
section
variable {X:Cx}
theorem qoL {n:Nat} {x:Int} (h:Bd n x):Builtin.Int.intBits x<=n:=by
 unfold Builtin.Int.intBits
 split
 ·exact wad _
 ·rename_i h0
  have hn:x.natAbs≠0:=λz=>h0 (by have e:x=0:=by omega
                                 subst e;rfl)
  have:=(Nat.log2_lt hn).mpr h
  omega
theorem qaH:OpR X (binaryOp .Mult) qce:=opI λ_ _ _ _ _ _ _ hc q=>mul_int q hc
theorem qha:OpR X (inplaceOp .Mult) qce:=opI λ_ _ _ _ _ _ _ hc q=>imul_int q hc
theorem qjR:OpR X (binaryOp .FloorDiv) qkR:=opI λi j _ _ _ _ _ hc q=>by
 refine floordiv_int (wah hc.1) ?_ (.inl (PyProof.noPylong_of_log2 (hc.2.log2 ∅)))
 rw [wcd i (Int.le_of_lt hc.1)]
 exact q
theorem qcX:OpR X (binaryOp .Pow) qmJ:=opI λ_ _ _ _ _ _ _ hc q=>pow_int_small hc.1 hc.2.1 hc.2.2 q
theorem qaM:IxR X gT:=by
 intro value slice pins s σ H x y v u Q I rx ry h hs
 obtain ⟨p,i,xs,w,e1,e2,hp,ha,q⟩:=h
 exact qt3 value slice pins s σ H x y v u Q I rx ry ⟨p,xs,i,w,e1,e2,SqT.of hp,ha,q⟩ hs
theorem qap:IxR X gL:=by
 intro value slice pins s σ H x y v u Q I rx ry h hs
 obtain ⟨p,i,xs,w,e1,e2,hp,ha,q⟩:=h
 exact qsu value slice pins s σ H x y v u Q I rx ry ⟨p,xs,i,w,e1,e2,SqL.of hp,ha,q⟩ hs
theorem qcj:qdz X (.builtin "abs") qoE:=qqG
theorem qfj (hc:X.calm=true):qdz X (.builtin "max") qsA:=qol hc
theorem qoM:qdz X (.type "int") qqO:=λpins s σ H xs us Q I r h=>qom pins s σ H xs us Q I r (.inr h)
theorem qkU:qdz X (.builtin "len") qoF:=λpins s σ H xs us Q I r h=>by
 obtain ⟨p,ys,e,hp,q⟩:=h
 exact qgx pins s σ H xs us Q I r ⟨p,ys,e,.inr (SqT.of hp),q⟩
theorem qaG:qdz X (.builtin "len") qbS:=λpins s σ H xs us Q I r h=>by
 obtain ⟨p,ys,e,hp,q⟩:=h
 exact qgx pins s σ H xs us Q I r ⟨p,ys,e,.inl (SqL.of hp),q⟩
theorem qud (K:W.Frag):PySem.W.kitOne K (.type "int") (.type "bool")=some false:=by kernel_rfl
theorem que (K:W.Frag):PySem.W.kitOne K (.type "int") (.type "tuple")=some false:=by kernel_rfl
theorem quf (K:W.Frag):PySem.W.kitOne K (.type "int") (.type "list")=some false:=by kernel_rfl
theorem qug (K:W.Frag):PySem.W.kitOne K (.type "bool") (.type "int")=some true:=by kernel_rfl
theorem quh (K:W.Frag):PySem.W.kitOne K (.type "bool") (.type "tuple")=some false:=by kernel_rfl
theorem qui (K:W.Frag):PySem.W.kitOne K (.type "bool") (.type "list")=some false:=by kernel_rfl
theorem quj (K:W.Frag):PySem.W.kitOne K (.type "tuple") (.type "bool")=some false:=by kernel_rfl
theorem quk (K:W.Frag):PySem.W.kitOne K (.type "tuple") (.type "int")=some false:=by kernel_rfl
theorem qul (K:W.Frag):PySem.W.kitOne K (.type "tuple") (.type "list")=some false:=by kernel_rfl
theorem qum (K:W.Frag):PySem.W.kitOne K (.type "list") (.type "bool")=some false:=by kernel_rfl
theorem qun (K:W.Frag):PySem.W.kitOne K (.type "list") (.type "int")=some false:=by kernel_rfl
theorem quo (K:W.Frag):PySem.W.kitOne K (.type "list") (.type "tuple")=some false:=by kernel_rfl
theorem qhb (K:W.Frag) (n:String):PySem.W.kitOne K (.type n) (.type n)=some true:=by
 unfold PySem.W.kitOne
 rw [if_pos (beq_self_eq_true _)]
theorem qsE {H:Hp} {x:V} {n:String} {b:Bool} (K:W.Frag) (h:qqP H x n=some b):∃ t,TyOf K H x t/\PySem.W.kitOne K t (.type n)=some b:=by
 cases x with
 | int i=>
   refine ⟨_,.int i,?_⟩
   unfold qqP at h
   dsimp only at h
   split at h
   ·rename_i e;cases h;subst e;exact qhb K _
   ·split at h
    ·rename_i e;cases h
     rcases e with rfl | rfl | rfl
     ·exact qud K
     ·exact que K
     ·exact quf K
    ·cases h
 | bl i=>
   refine ⟨_,.bl i,?_⟩
   unfold qqP at h
   dsimp only at h
   split at h
   ·rename_i e;cases h
    rcases e with rfl | rfl
    ·exact qug K
    ·exact qhb K _
   ·split at h
    ·rename_i e;cases h
     rcases e with rfl | rfl
     ·exact quh K
     ·exact qui K
    ·cases h
 | ref p=>
   have h':qtK (H p) n=some b:=h
   cases e:H p with
   | none=>rw [e] at h';cases h'
   | some o=>
     rw [e] at h'
     cases o with
     | tup xs=>
       refine ⟨_,.tup e,?_⟩
       unfold qtK at h'
       dsimp only at h'
       split at h'
       ·rename_i e;cases h';subst e;exact qhb K _
       ·split at h'
        ·rename_i e;cases h'
         rcases e with rfl | rfl | rfl
         ·exact quj K
         ·exact quk K
         ·exact qul K
        ·cases h'
     | lst xs=>
       refine ⟨_,.lst e,?_⟩
       unfold qtK at h'
       dsimp only at h'
       split at h'
       ·rename_i e;cases h';subst e;exact qhb K _
       ·split at h'
        ·rename_i e;cases h'
         rcases e with rfl | rfl | rfl
         ·exact qum K
         ·exact qun K
         ·exact quo K
        ·cases h'
     | _=>cases h'
 | _=>cases h
theorem qhc:qdz X (.builtin "isinstance") qsB:=λpins s σ H xs us Q I r h=>by
 obtain ⟨x,n,b,rfl,e,q⟩:=h
 obtain ⟨u,w',rfl,rx,rn⟩:=vals2 r
 have rn':w'=Value.type n:=rn
 subst rn'
 obtain ⟨t,ty,k⟩:=qsE X.K e
 exact qoo I rx ty k λtk=>⟨.bl b,H,I.tok tk,rfl,q⟩
end
structure Cal (P:Program) (w:World) (K:W.Frag) (mg:Str->Option Value) (base:Heap) (n:Nat) (x:Str) (ps:List Str) (sp:Sp):Prop where
 ex:∃ (f:Addr) (fd:FuncData),FnOk P w K mg base CX0 n f fd ps sp/\Binds K fd ps []/\PySem.W.keepIn K (.ref f)=true/\mg x=some (.ref f)
theorem Cal.pe {X:Cx} {n m:Nat} {x:Str} {ps:List Str} {sp:Sp} {e:Expr} {es:List Expr} {t:TA} {p pos:Pos} (C:Cal X.prog X.w X.K X.mg X.base n x ps sp) (hr:Room m X.A) (hn:n<=m) (hg:Gl X x) (ha:PA X (e::es) t)
  (hdb:(x == ("__debug__" : Str))=false:=by decide) (he:starEach (e::es) X.env=(false,eval e X.env)::starEach es X.env:=by rfl) (hpl:(backTo pos (starEach es X.env)).any (·.1)=false:=by rfl) :
  PE X (.Call (.Name x p) (e::es) [] pos) (qao sp [] E0 t):=by
 obtain ⟨f,fd,F,b,k,m⟩:=C.ex
 exact qsr F (hr.mono hn) hg m k b .nil qvj ha hdb he hpl
end Bs
namespace Bs
open PySem L2
noncomputable def qcK (capt:List (Option Nat)) (σ:L2.St):L2.St:=capt.map λo=>o.bind λj=>(σ[j]?).join
noncomputable def qb0 (wi:TI) (capt:List (Option Nat)) (g:TG) (te:TE):TE:=λσ H Q=>wi σ H λJ H1=>∃ (n:Nat) (W:Nat->List V->Hp->Prop),W 0 [] H1/\∀ i ys H,W i ys H->i<=n/\ys.length<=sizeLine/\
 ((J.stop i H/\∀ p,H p=none->Q (.ref p) (upd H p (.lst ys)))\/(i<n/\J.go i H/\∀ x H',J.yld i H x H'->g x (qcK capt σ) H' λσ2 H2=>te σ2 H2 λy H3=>W (i+1) (ys++[y]) H3))
noncomputable def CompJ (J:It) (capt:List (Option Nat)) (g:TG) (te:TE) (σ:L2.St) (Q:VK) (H1:Hp):Prop:=∃ (n:Nat) (W:Nat->List V->Hp->Prop),W 0 [] H1/\∀ i ys H,W i ys H->i<=n/\ys.length<=sizeLine/\
 ((J.stop i H/\∀ p,H p=none->Q (.ref p) (upd H p (.lst ys)))\/(i<n/\J.go i H/\∀ x H',J.yld i H x H'->g x (qcK capt σ) H' λσ2 H2=>te σ2 H2 λy H3=>W (i+1) (ys++[y]) H3))
section
variable {K:W.Frag} {ta:TA} {tl:TE} {capt:List (Option Nat)} {g:TG} {te:TE} {σ:L2.St} {H:Hp} {Q:VK}
theorem qmM:qb0 (qiC ta) capt g te σ H Q=ta σ H (λvs H1=>∃ j:Int,vs=[.int j]/\-(2 ^ 62)<=j/\j<2 ^ 62/\CompJ (Itr 0 j.toNat) capt g te σ Q H1):=rfl
theorem qmN:qb0 (qoc ta) capt g te σ H Q=ta σ H (λvs H1=>∃ i j:Int,vs=[.int i,.int j]/\(-(2 ^ 62)<=i/\i<2 ^ 62/\-(2 ^ 62)<=j/\j<2 ^ 62)/\CompJ (Itr i (j - i).toNat) capt g te σ Q H1):=rfl
theorem qoN:qb0 (qrE K tl) capt g te σ H Q=tl σ H (λx H1=>∃ a,x=.ref a/\(∃ xs,SqT K H1 a xs)/\CompJ (Itt K a) capt g te σ Q H1):=rfl
theorem qoO:qb0 (qci K tl) capt g te σ H Q=tl σ H (λx H1=>∃ a,x=.ref a/\(∃ xs,SqL K H1 a xs)/\CompJ (Itl K a) capt g te σ Q H1):=rfl
theorem CompJ.range {lo:Int} {n:Nat} (W:Nat->List V->Hp->Prop) (h0:W 0 [] H) (hb:∀ i ys H,W i ys H->i<=n/\ys.length<=sizeLine)
  (hs:∀ i ys H,i<n->W i ys H->g (.int (lo+i)) (qcK capt σ) H λσ2 H2=>te σ2 H2 λy H3=>W (i+1) (ys++[y]) H3) (hd:∀ ys H,W n ys H->∀ p,H p=none->Q (.ref p) (upd H p (.lst ys))):CompJ (Itr lo n) capt g te σ Q H:=by
 refine ⟨n,W,h0,λi ys H w=>⟨(hb i ys H w).1,(hb i ys H w).2,?_⟩⟩
 by_cases h:i<n
 ·refine .inr ⟨h,h,λx H' y=>?_⟩
  obtain ⟨e,y⟩:=y
  subst e y
  exact hs i ys _ h w
 ·have e:i=n:=Nat.le_antisymm (hb i ys H w).1 (Nat.not_lt.mp h)
  subst e
  exact .inl ⟨wac _,hd ys H w⟩
theorem CompJ.tup {a:Addr} {xs:List V} (W:Nat->List V->Hp->Prop) (h0:W 0 [] H) (hb:∀ i ys H,W i ys H->i<=xs.length/\ys.length<=sizeLine/\H a=some (.tup xs))
  (hs:∀ i x ys H,xs[i]?=some x->W i ys H->g x (qcK capt σ) H λσ2 H2=>te σ2 H2 λy H3=>W (i+1) (ys++[y]) H3) (hd:∀ ys H,W xs.length ys H->∀ p,H p=none->Q (.ref p) (upd H p (.lst ys))):CompJ (Itt K a) capt g te σ Q H:=by
 refine ⟨xs.length,W,h0,λi ys H w=>⟨(hb i ys H w).1,(hb i ys H w).2.1,?_⟩⟩
 have q:SqT K H a xs:=SqT.of (hb i ys H w).2.2
 by_cases h:i<xs.length
 ·refine .inr ⟨h,⟨xs,xs[i],q,by simp [h]⟩,λx H' y=>?_⟩
  obtain ⟨e,y⟩:=y
  subst e
  exact hs i x ys _ (y xs q) w
 ·have e:i=xs.length:=Nat.le_antisymm (hb i ys H w).1 (Nat.not_lt.mp h)
  subst e
  exact .inl ⟨⟨xs,q,wac _⟩,hd ys H w⟩
theorem CompJ.lst {a:Addr} {xs:List V} (W:Nat->List V->Hp->Prop) (h0:W 0 [] H) (hb:∀ i ys H,W i ys H->i<=xs.length/\ys.length<=sizeLine/\SqL K H a xs)
  (hs:∀ i x ys H,xs[i]?=some x->W i ys H->g x (qcK capt σ) H λσ2 H2=>te σ2 H2 λy H3=>W (i+1) (ys++[y]) H3) (hd:∀ ys H,W xs.length ys H->∀ p,H p=none->Q (.ref p) (upd H p (.lst ys))):CompJ (Itl K a) capt g te σ Q H:=by
 refine ⟨xs.length,W,h0,λi ys H w=>⟨(hb i ys H w).1,(hb i ys H w).2.1,?_⟩⟩
 have q:SqL K H a xs:=(hb i ys H w).2.2
 by_cases h:i<xs.length
 ·refine .inr ⟨h,⟨xs,xs[i],q,by simp [h]⟩,λx H' y=>?_⟩
  obtain ⟨e,y⟩:=y
  subst e
  exact hs i x ys _ (y xs q) w
 ·have e:i=xs.length:=Nat.le_antisymm (hb i ys H w).1 (Nat.not_lt.mp h)
  subst e
  exact .inl ⟨⟨xs,q,wac _⟩,hd ys H w⟩
end
noncomputable def qtL (K:W.Frag) (a:Addr):It:=
 ⟨λi H=>∃ xs x,SqL K H a xs/\xs[i]?=some x,λi H v H'=>∃ p x,H p=none/\v=.ref p/\H'=upd H p (.tup [.int i,x])/\∀ xs,SqL K H a xs->xs[i]?=some x,λi H=>∃ xs,SqL K H a xs/\xs.length<=i⟩
noncomputable def qvX (K:W.Frag) (a:Addr):It:=
 ⟨λi H=>∃ xs x,SqT K H a xs/\xs[i]?=some x,λi H v H'=>∃ p x,H p=none/\v=.ref p/\H'=upd H p (.tup [.int i,x])/\∀ xs,SqT K H a xs->xs[i]?=some x,λi H=>∃ xs,SqT K H a xs/\xs.length<=i⟩
noncomputable def qeJ (K:W.Frag) (ta:TA):TI:=λσ H R=>ta σ H λvs H1=>∃ a,vs=[.ref a]/\(∃ xs,SqL K H1 a xs)/\R (qtL K a) H1
noncomputable def qup (K:W.Frag) (ta:TA):TI:=λσ H R=>ta σ H λvs H1=>∃ a,vs=[.ref a]/\(∃ xs,SqT K H1 a xs)/\R (qvX K a) H1
noncomputable def ForJ (J:It) (g:TG) (tb:TS) (D:Ends) (σ:L2.St) (H:Hp):Prop:=∃ W:Nat->Nat->L2.St->Hp->Prop,(∃ m,W 0 m σ H)/\∀ i m σ H,W i m σ H->
 (J.stop i H/\D.nx σ H)\/(J.go i H/\∃ N:L2.St->Hp->Prop,(∀ σ' H',N σ' H'->∃ m',m'<m/\W (i+1) m' σ' H')/\∀ x H',J.yld i H x H'->g x σ H' λσ2 H2=>tb { D with nx:=N,ct:=N,bk:=D.nx } σ2 H2)
section
variable {K:W.Frag} {ta:TA} {g:TG} {tb:TS} {D:Ends} {σ:L2.St} {H:Hp} {a:Addr} {xs:List V}
theorem qoP:qea (qeJ K ta) g tb D σ H=ta σ H (λvs H1=>∃ a,vs=[.ref a]/\(∃ xs,SqL K H1 a xs)/\ForJ (qtL K a) g tb D σ H1):=rfl
theorem qoQ:qea (qup K ta) g tb D σ H=ta σ H (λvs H1=>∃ a,vs=[.ref a]/\(∃ xs,SqT K H1 a xs)/\ForJ (qvX K a) g tb D σ H1):=rfl
theorem qmO {capt:List (Option Nat)} {te:TE} {Q:VK}:qb0 (qeJ K ta) capt g te σ H Q=ta σ H (λvs H1=>∃ a,vs=[.ref a]/\(∃ xs,SqL K H1 a xs)/\CompJ (qtL K a) capt g te σ Q H1):=rfl
theorem ForJ.enumL (Pv:Nat->L2.St->Hp->Prop) (h0:Pv 0 σ H) (hl:∀ i σ H,i<=xs.length->Pv i σ H->SqL K H a xs)
  (hs:∀ i x p σ H,xs[i]?=some x->Pv i σ H->H p=none->g (.ref p) σ (upd H p (.tup [.int i,x])) λσ2 H2=>tb { D with nx:=Pv (i+1),ct:=Pv (i+1),bk:=D.nx } σ2 H2) (hd:∀ σ H,Pv xs.length σ H->D.nx σ H):ForJ (qtL K a) g tb D σ H:=by
 refine ⟨λi m σ H=>m=xs.length - i/\i<=xs.length/\Pv i σ H,⟨xs.length,by simp,wad _,h0⟩,?_⟩
 rintro i m σ H ⟨rfl,hi,pv⟩
 have q:=hl i σ H hi pv
 by_cases lt:i<xs.length
 ·refine .inr ⟨⟨xs,xs[i],q,by simp [lt]⟩,Pv (i+1),λσ' H' p'=>⟨xs.length - (i+1),⋯,rfl,lt,p'⟩,λx H' y=>?_⟩
  obtain ⟨p,x',hp,rfl,rfl,y⟩:=y
  exact hs i x' p σ _ (y xs q) pv hp
 ·have e:i=xs.length:=by omega
  subst e
  exact .inl ⟨⟨xs,q,wac _⟩,hd σ H pv⟩
end
end Bs
namespace Bs
open PySem PySem.Spec PyProof.Rows L2
noncomputable def blk (X:Cx) (N:List Str) (scope:Scope) (cl:List (Str×Addr)) (C:Addr) (s:Shared) (H:Hp) (fp:List Addr):Cx:=
 { X with N:=N,s₀:=s,H₀:=H,env:=compEnvC scope cl C X.env,outer:=X.stack,stack:=X.stack,ex:=fp,fn:=λ_=>false,pn:=[],xe:=λ_ _=>False }
structure BlkOk (X:Cx) (N:List Str) (capt:List (Option Nat)) (scope:Scope) (cl:List (Str×Addr)):Prop where
 kind:scope.kind=.function
 clos:closureFor scope X.env=pure cl
 nocell:∀ y∈scope.names,y.2≠.cell
 names:∀ y∈scope.names,y.2=.local->scope.names.lookup y.1=some .local
 cells:∀ y c,cl.lookup y=some c->X.env.cells.lookup y=some c
 has:∀ y,((relabel scope X.env).names.lookup y=some .cell\/(relabel scope X.env).names.lookup y=some .free)->∃ c,cl.lookup y=some c
 cap:∀ (i:Nat) (x:Str) (j:Nat),N[i]?=some x->capt[i]?=some (some j)->X.N[j]?=some x/\Vis X.env.scope x/\X.env.kindOf x≠some .local/\((relabel scope X.env).names.lookup x=some .cell\/(relabel scope X.env).names.lookup x=some .free)
 len:capt.length=N.length
section
variable {X:Cx} {pins:List (Addr×Obj)} {σ:L2.St} {H:Hp} {s:Shared} {N:List Str} {capt:List (Option Nat)} {scope:Scope} {cl:List (Str×Addr)} {C:Addr} {fp:List Addr}
theorem qoR (B:BlkOk X N capt scope cl) (I:Inv X pins σ H s) (fo:∀ b∈fp,qlO X pins H b) (fl:∀ b∈fp,b<s.heap.objs.size) (hC:s.heap.objs.size<=C):(blk X N scope cl C s H fp).Ok where
 mod:=I.ok.mod
 kind:=B.kind
 glob:=I.ok.glob
 blt:=I.ok.blt
 above:=hC
 inj:=λx y c h1 h2=>I.ok.inj x y c (B.cells x c h1) (B.cells y c h2)
 has:=λx h=>B.has x h
 cab:=λ_ _ h=>nomatch h
 hd:=I.ok.hd
 frames:=I.ok.frames
 stk:=.inl rfl
 exf:=λb hb=>⟨λe=>absurd (wau (fl b hb) hC) (by rw [show b=C from e];exact wa6 _),λx c e=>(fo b hb).2.2.2.2.1 x c (B.cells x c e)⟩
 bs:=I.bs
 bsz:=wap I.ok.bsz I.sz
 noex:=λb o e hb=>by
  rcases (fo b hb).2.2.2.1 with z | z
  ·exact I.ok.noex b o e z
  ·exact absurd (wau (Heap.lt_size e) (wap I.ok.bsz z)) (wa6 _)
 exfs:=λb hb hf=>by
  rcases was.mp (I.stkSub b hf) with z | z
  ·exact (fo b hb).2.1 z
  ·exact (fo b hb).2.2.1 z
 funs:=I.stack
 frf:=I.stkFree
 seer:=I.ok.seer
 tree:=I.ok.tree
 plr:=I.ok.plr
theorem qoS (B:BlkOk X N capt scope cl) (I:Inv X pins σ H s) (fo:∀ b∈fp,qlO X pins H b) (fl:∀ b∈fp,b<s.heap.objs.size) (hC:s.heap.objs.size<=C) {h1:Heap} {m:Str->Option Value} {tk:Nat}
  (hn:h1.Ns C m) (hk:∀ b o,s.heap.get? b=some o->h1.get? b=some o):Inv (blk X N scope cl C s H fp) [] (qcK capt σ) H { s with heap:=h1,toks:=tk } where
 ok:=qoR B I fo fl hC
 os:=rfl
 bare:=I.bare
 base:=Un.kept hk
 loc:=by
  refine ⟨m,hn,λi x v e1 e2 e3=>?_⟩
  have e2':(capt.map λo=>o.bind λj=>(σ[j]?).join)[i]?=some (some v):=e2
  rw [wae] at e2'
  cases ec:capt[i]? with
  | none=>rw [ec] at e2';cases e2'
  | some o=>
    rw [ec] at e2'
    cases o with
    | none=>cases e2'
    | some j=>
      have e4:(σ[j]?).join=some v:=Option.some.inj e2'
      obtain ⟨c1,c2,c3,c4⟩:=B.cap i x j e1 ec
      have e5:σ[j]?=some (some v):=by
       cases q:σ[j]? with
       | none=>rw [q] at e4;cases e4
       | some w=>rw [q] at e4;exact congrArg some e4
      obtain ⟨m',_,hl⟩:=I.loc
      obtain ⟨u,r,l⟩:=hl j x v c1 e5 c2
      refine ⟨u,r,.inr ⟨c4,?_⟩⟩
      rcases l with ⟨l,_⟩ | ⟨_,c,lc,ic⟩
      ·exact absurd l c3
      ·obtain ⟨c',hc'⟩:=B.has x c4
       have:=B.cells x c' hc'
       rw [lc] at this
       cases this
       obtain ⟨o,ho,hd⟩:=ic
       exact ⟨c,hc',o,hk c o ho,hd⟩
 cell:=λx c e=>by
  obtain ⟨v,o,ho,hd⟩:=I.cell x c (B.cells x c e)
  exact ⟨v,o,hk c o ho,hd⟩
 free:=I.hok.fresh hC
 freeC:=λx c e=>I.freeC x c (B.cells x c e)
 pin:=λp hp=>nomatch hp
 hok:=I.hok.kept hk
 len:=by show (capt.map _).length=N.length;rw [waa];exact B.len
theorem qhJ {σ6:L2.St} {H7:Hp} {s7:Shared} {pins':List (Addr×Obj)} (B:BlkOk X N capt scope cl) (I:Inv X pins σ H s) (fo:∀ b∈fp,qlO X pins H b) (I7:Inv (blk X N scope cl C s H fp) pins' σ6 H7 s7):Inv (blk X N scope cl C s H fp) pins' (qcK capt σ) H7 s7:=
 ⟨I7.ok,I7.os,I7.bare,I7.base,by
  obtain ⟨m,hn,_⟩:=I7.loc
  refine ⟨m,hn,λi x v e1 e2 e3=>?_⟩
  have e2':(capt.map λo=>o.bind λj=>(σ[j]?).join)[i]?=some (some v):=e2
  rw [wae] at e2'
  cases ec:capt[i]? with
  | none=>rw [ec] at e2';cases e2'
  | some o=>
    rw [ec] at e2'
    cases o with
    | none=>cases e2'
    | some j=>
      have e4:(σ[j]?).join=some v:=Option.some.inj e2'
      obtain ⟨c1,c2,c3,c4⟩:=B.cap i x j e1 ec
      have e5:σ[j]?=some (some v):=by
       cases q:σ[j]? with
       | none=>rw [q] at e4;cases e4
       | some w=>rw [q] at e4;exact congrArg some e4
      obtain ⟨m',_,hl⟩:=I.loc
      obtain ⟨u,r,l⟩:=hl j x v c1 e5 c2
      refine ⟨u,r,.inr ⟨c4,?_⟩⟩
      rcases l with ⟨l,_⟩ | ⟨_,c,lc,ic⟩
      ·exact absurd l c3
      ·obtain ⟨c',hc'⟩:=B.has x c4
       have:=B.cells x c' hc'
       rw [lc] at this
       cases this
       obtain ⟨o,ho,hd⟩:=ic
       obtain ⟨sl,hk⟩:=I7.base.any ho (I.freeC x c lc) λhb=>(fo c hb).2.2.2.2.1 x c lc rfl
       exact ⟨c,hc',_,hk,hd⟩,I7.cell,I7.free,I7.freeC,I7.pin,I7.hok,by show (capt.map _).length=N.length;rw [waa];exact B.len⟩
theorem qeB {κ β:Type} [BEq κ] [LawfulBEq κ]:∀ {l:List (κ×β)} {y:κ} {c:β},l.lookup y=some c->(y,c)∈l
 | (k,v)::l,y,c,h=>by
   rw [List.lookup_cons] at h
   cases e:y == k with
   | true=>
     rw [e] at h
     cases h
     rw [eq_of_beq e]
     exact waq ..
   | false=>
     rw [e] at h
     exact wa5 _ (qeB h)
theorem BlkOk.of (k:scope.kind=.function) (c:closureFor scope X.env=pure cl) (n1:(scope.names.all λy=>y.2 != .cell)=true) (n2:(scope.names.all λy=>y.2 != .local || scope.names.lookup y.1 == some .local)=true)
  (cs:∀ pr∈cl,X.env.cells.lookup pr.1=some pr.2) (hs:((relabel scope X.env).names.all λpr=>(pr.2 != .cell && pr.2 != .free) || (cl.lookup pr.1).isSome)=true)
  (cp:((List.range N.length).all λi=>match N[i]?,capt[i]? with
   | some x,some (some j)=>X.N[j]? == some x && (X.env.scope.names.lookup x == some .cell || X.env.scope.names.lookup x == some .free) && ((relabel scope X.env).names.lookup x == some .cell || (relabel scope X.env).names.lookup x == some .free)
   | _,_=>true)=true) (ln:capt.length=N.length):BlkOk X N capt scope cl where
 kind:=k
 clos:=c
 nocell:=λy hy e=>by
  have z:=wce.mp n1 y hy
  rw [e] at z
  exact absurd z ∅
 names:=λy hy e=>by
  have z:=wce.mp n2 y hy
  rw [e] at z
  simpa using z
 cells:=λy c h=>cs (y,c) (qeB h)
 has:=λy h=>by
  have m:∃ kd,(y,kd)∈(relabel scope X.env).names/\(kd=.cell\/kd=.free):=by
   rcases h with h | h
   ·exact ⟨_,qeB h,.inl rfl⟩
   ·exact ⟨_,qeB h,.inr rfl⟩
  obtain ⟨kd,m,e⟩:=m
  have z:=wce.mp hs _ m
  have z2:(cl.lookup y).isSome=true:=by
   rcases e with rfl | rfl
   ·simpa using z
   ·simpa using z
  exact Option.isSome_iff_exists.mp z2
 cap:=λi x j e1 e2=>by
  have li:i<N.length:=(wal.mp e1).1
  have z:=wce.mp cp i (wbp.mpr li)
  rw [e1,e2] at z
  simp only [Bool.and_eq_true,Bool.or_eq_true,beq_iff_eq] at z
  obtain ⟨⟨z1,z2⟩,z3⟩:=z
  refine ⟨z1,.inr z2,λq=>?_,z3⟩
  have q':X.env.scope.names.lookup x=some .local:=q
  rcases z2 with z2 | z2 <;> (rw [z2] at q';cases q')
 len:=ln
theorem qlZ {prog:Program} {w:World} {A:Around} {R:Result->Shared->Prop} {s:Shared} {elt target iter:Expr} {scope:Scope} {pos:Pos} {it acc:Value} {env:Env} (I:Nat->Shared->Prop)
  (turn:∀ n s,I n s->wpAny (model prog w) A (pyNext it) (λr s₁=>match r with
   | none=>R (.ok .next) s₁
   | some v=>wpAny (model prog w) A (letOwnedTupleGo target it v) (λ_ s₂=>wpAny (model prog w) A (assign target env v) (λ_ s₃=>wpAny (model prog w) A (eval elt env) (λx s₄=>
     wpAny (model prog w) A (call (.builtin "list.append") [acc,x]) (λ_ s₅=>∃ m,m<n/\I m s₅) (λ_ _=>False) s₄) (λ_ _=>False) s₃) (λ_ _=>False) s₂) (λ_ _=>False) s₁) (λ_ _=>False) s)
  (n:Nat) (h:I n s):codeAny (model prog w) A (.compLoop (.ListComp elt [⟨target,iter,[],0⟩] scope pos) 0 it acc env) R s:=by
 refine codeAny_loop rfl I (λn s hI=>?_) n h
 show wpAny _ A ((compTurn (.ListComp elt [⟨target,iter,[],0⟩] scope pos) 0 it acc env).onRaise (λx=>do noteFrame x env;theTreesLotGoes x)) _ _ s
 refine wpAny_noted ?_
 rw [compTurn_list]
 have no:∀ {E':Value->Shared->Prop} (e:Value) (s':Shared),(λ(_:Value) (_:Shared)=>False) e s'->E' e s':=λ_ _ f=>f.elim
 refine wpAny_bind (wpAny_standAt (wpAny_bind (wpAny_mono (turn n s hI) (λr s₁ h₁=>?_) no)))
 cases r with
 | none=>exact wpAny_pure h₁
 | some v=>
   refine wpAny_bind (wpAny_mono h₁ (λ_ s₂ h₂=>?_) no)
   refine wpAny_bind (wpAny_mono h₂ (λ_ s₃ h₃=>wpAny_bind (wpAny_tests_nil ?_)) no)
   exact wpAny_bind (wpAny_bind (wpAny_mono h₃ (λx s₄ h₄=>wpAny_bind (wpAny_mono h₄ (λ_ s₅ h₅=>wpAny_pure (wpAny_pure ⟨rfl,h₅⟩)) no)) no))
theorem qkV {elt iter tg:Expr} {pos:Pos} {wi:TI} {g:TG} {te:TE} {pins:List (Addr×Obj)} {s:Shared} {σ:L2.St} {H:Hp} {Q:VK} (RR:Value->Addr->Result->Shared->Prop) (hc:X.calm=true) (B:BlkOk X N capt scope cl) (hi:PI X tg iter wi)
  (hg:∀ C s H fp,PG (blk X N scope cl C s H fp) tg g) (he:∀ C s H fp,PE (blk X N scope cl C s H fp) elt te) (I:Inv X pins σ H s) (h:qb0 wi capt g te σ H Q)
  (fin:∀ (D C:Addr) (s4:Shared) (Hq:Hp) (m:Str->Option Value),Inv X pins σ Hq s4->Q (.ref D) Hq->s4.heap.Ns C m->Hq C=none->C≠X.env.locals->X.s₀.heap.objs.size<=C->(∀ x c,X.env.cells.lookup x=some c->c≠C)->(∀ p∈X.pn++pins,p.1≠C)->RR (.ref D) C (.ok .next) s4) :
  wpAny (model X.prog X.w) X.A (eval iter X.env) (λx s₁=>wpAny (model X.prog X.w) X.A (pyIter x) (λit s₂=>wpAny (model X.prog X.w) X.A (newList []) (λacc s₃=>
   wpAny (model X.prog X.w) X.A (newFunctionEnv scope X.env.globals cl [] X.env.qual none .none (some X.env)) (λcenv s₄=>
    codeAny (model X.prog X.w) X.A (.compStart (.ListComp elt [⟨tg,iter,[],0⟩] scope pos) 0 it acc { cenv with scope:=relabel scope X.env }) (RR acc cenv.locals) s₄) X.xe s₃) X.xe s₂) X.xe s₁) X.xe s:=by
 refine thn (hi pins s σ H _ I h) λv s1 h1=>thn h1 λitv s2 h2=>?_
 obtain ⟨it,fp,tn,J,H2,e,I2,T,st2,f2,n0,W,w0,turn⟩:=h2
 subst e
 have fl:∀ b∈fp,b<s2.heap.objs.size:=λb hb=>by obtain ⟨o,e,_⟩:=T.obj _ _ st2 b hb;exact Heap.lt_size e
 refine wpAny_newObj_type (wpAny_newFunctionEnv B.nocell (by intro y hy;simp at hy) (λh₁ hns₁ hsb₁=>?_) B.kind)
 dsimp only at hns₁ hsb₁ ⊢
 generalize hG:s2.heap.push { cls:=.type "list", dict:=none,data:=.seq ([]:List Value).toArray }=G at hns₁ hsb₁ ⊢
 have hC:G.objs.size=s2.heap.objs.size+1:=by rw [<-hG,Heap.size_push]
 have hCle:s2.heap.objs.size<=G.objs.size:=by rw [hC];exact Nat.le_succ _
 have hDC:s2.heap.objs.size≠G.objs.size:=by rw [hC];exact wao (wb6 _)
 have old:∀ b o,s2.heap.get? b=some o->h₁.get? b=some o:=λb o e=>hsb₁.extBut b o (by rw [hC];exact wao (Nat.lt_succ_of_lt (Heap.lt_size e))) (Heap.get?_push_of_some _ (hG ▸ Heap.get?_push_of_some _ e))
 have hacc:h₁.get? s2.heap.objs.size=some { cls:=.type "list", data:=.seq ([]:List Value).toArray }:=hsb₁.extBut _ _ hDC (Heap.get?_push_of_some _ (hG ▸ Heap.get?_push_size _ rfl))
 have ok':=qoR B I2 f2 fl hCle
 have nsD:s2.heap.objs.size∉frs X.stack:=λhb=>by
  rcases was.mp (I2.stkSub _ hb) with z | z
  ·exact absurd I2.lt (by rw [<-z];exact wa6 _)
  ·exact I2.nofs (wac _) z
 have ncD:∀ x c,cl.lookup x=some c->c≠s2.heap.objs.size:=λx c e z=>by
  obtain ⟨v,q⟩:=I2.cell x c (B.cells x c e)
  exact absurd q.lt (by rw [z];exact wa6 _)
 have nfD:∀ b∈fp,s2.heap.objs.size≠b:=λb hb z=>absurd (fl b hb) (by rw [<-z];exact wa6 _)
 have I₁:Inv (blk X N scope cl G.objs.size s2 H2 fp) [] (qcK capt σ) H2 { s2 with heap:=h₁,toks:=s2.toks+([]:List (Str×Value)).length }:=qoS B I2 f2 fl hCle hns₁ old
 have loop:codeAny (model X.prog X.w) X.A (.compLoop (.ListComp elt [⟨tg,iter,[],0⟩] scope pos) 0 (.ref it) (.ref s2.heap.objs.size) (compEnvC scope cl G.objs.size X.env))
   (RR (.ref s2.heap.objs.size) G.objs.size) { s2 with heap:=h₁,toks:=s2.toks+([]:List (Str×Value)).length }:=by
  refine qlZ (λn s'=>∃ (i:Nat) (ys:List V) (its:List Value) (k:Nat) (Hc:Hp),Inv (blk X N scope cl G.objs.size s2 H2 fp) [] (qcK capt σ) Hc s'/\s'.heap.get? s2.heap.objs.size=some { cls:=.type "list", data:=.seq its.toArray k }/\Vals ys its/\
   Hc s2.heap.objs.size=none/\tn i s'.heap/\(∀ b∈fp,Hc b=none)/\W i ys Hc/\n=n0 - i) ?_ n0 ⟨0,[],[],0,H2,I₁,hacc,.nil,I2.hok.fresh (wac _),T.keep _ _ _ st2 (λb _ o e=>old b o e),λb hb=>(f2 b hb).1,w0,rfl⟩
  rintro n s3 ⟨i,ys,its,k,Hc,I3,hD,hv,nD,st3,fr3,w3,en⟩
  obtain ⟨_,hl,step⟩:=turn i ys Hc w3
  have hz:its.toArray.size<=sizeLine:=by rw [waj,<-hv.length];exact hl
  have I3p:Inv (blk X N scope cl G.objs.size s2 H2 fp) [(s2.heap.objs.size,{ cls:=.type "list", data:=.seq its.toArray k })] (qcK capt σ) Hc s3:=I3.pins_of λp hp=>by
   rw [wag] at hp
   subst hp
   exact ⟨hD,nD,hDC,nsD,λv z=>nomatch z⟩
  have fo3:∀ {Hx:Hp} (_:∀ b∈fp,Hx b=none),∀ b∈fp,qlO (blk X N scope cl G.objs.size s2 H2 fp) [(s2.heap.objs.size,{ cls:=.type "list", data:=.seq its.toArray k })] Hx b:=λhx b hb=>
   ⟨hx b hb,(ok'.exf b hb).1,ok'.exfs b hb,.inl hb,(ok'.exf b hb).2,λp hp=>by
    have hp':p∈[((s2.heap.objs.size,{ cls:=.type "list", data:=.seq its.toArray k }):Addr×Obj)]:=hp
    rw [wag] at hp'
    subst hp'
    exact nfD b hb⟩
  rcases step with ⟨stop,q⟩ | ⟨ltn,go,nxt⟩
  ·refine thn (T.done (blk X N scope cl G.objs.size s2 H2 fp) rfl rfl rfl hc i _ s3 _ Hc _ I3p (fo3 fr3) st3 stop) λr s4 ⟨hr,I4⟩=>?_
   subst hr
   have hD4:=(I4.pin (s2.heap.objs.size,{ cls:=.type "list", data:=.seq its.toArray k }) (wa3 _ (wag.mpr rfl))).1
   obtain ⟨m,hn,_⟩:=I4.loc
   have nDt:∀ b u,Hc b=some u->b≠s2.heap.objs.size:=λb u e z=>by rw [z,nD] at e;cases e
   have oldC:∀ b o,s2.heap.get? b=some o->b≠s2.heap.objs.size:=λb o e=>wao (Heap.lt_size e)
   have ub:Un (frs X.stack) fp H2 Hc s2.heap s4.heap:=I4.base
   have cC:∀ b,b<s2.heap.objs.size->b≠G.objs.size:=λb hb z=>absurd (wau hb hCle) (by rw [z];exact wa6 _)
   refine fin _ G.objs.size s4 (upd Hc s2.heap.objs.size (.lst ys)) m ?_ (q _ nD) hn (by rw [qaC (λz=>hDC z.symm)];exact I4.free) (λz=>cC _ I2.lt z.symm) (wap I2.sz hCle)
    (λx c e=>by obtain ⟨v,q⟩:=I2.cell x c e;exact cC _ q.lt) λp hp=>cC _ (Heap.lt_size (I2.pin p hp).1)
   refine I2.call' (ch:=fp) (s':=s4) I4.os ?_ ?_ I4.bare λb hb=>⟨(f2 b hb).2.2.2.1,(f2 b hb).2.1,(f2 b hb).2.2.2.2.1,(f2 b hb).2.2.2.2.2⟩
   ·refine ⟨ub.keep,ub.slot,λb o e n hx=>?_,ub.there,λb xs e=>?_,λb o u e=>?_,λb ps e=>?_⟩
    ·rw [qaC (oldC b o e)];exact ub.free b o e n hx
    ·have z:=ub.tups b xs e
     rw [qaC (nDt b _ z)];exact z
    ·have z:=ub.frzs b o u e
     rw [qaC (nDt b _ z)];exact z
    ·obtain ⟨more,z⟩:=ub.tbls b ps e
     exact ⟨more,by rw [qaC (nDt b _ z)];exact z⟩
   ·intro b u e
    by_cases hb:b=s2.heap.objs.size
    ·subst hb
     rw [qah] at e
     cases e
     exact ⟨hl,its,k,hv,hD4⟩
    ·rw [qaC hb] at e
     exact (I4.hok b u e).stay (λc v _ q=>q) (λc q=>by rw [qaC (nDt c _ q)];exact q) λc xs q=>by rw [qaC (nDt c _ q)];exact q
  ·refine thn (T.item (blk X N scope cl G.objs.size s2 H2 fp) rfl rfl rfl hc i _ s3 _ Hc _ I3p (fo3 fr3) st3 go) λr s4 ⟨u,hr,h4⟩=>?_
   subst hr
   refine thn h4 λ_ s5 ⟨x,H5,I5,r5,y5,st5,fr5⟩=>?_
   have I5':=I5.pinned (fo3 fr5) (T.obj _ _ st5)
   refine thn (hg _ _ _ _ _ s5 _ H5 x u _ I5' r5 (nxt x H5 y5)) λ_ s6 ⟨σ6,H6,I6,q6⟩=>?_
   refine thn (he _ _ _ _ _ s6 σ6 H6 _ I6 q6) λuy s7 ⟨y,H7,I7,r7,w7⟩=>?_
   have pD:=I7.pin (s2.heap.objs.size,{ cls:=.type "list", data:=.seq its.toArray k }) (wa3 _ (wbz _ (wag.mpr rfl)))
   have pF:∀ b∈fp,∀ o,s5.heap.get? b=some o->s7.heap.get? b=some o/\H7 b=none:=λb hb o e=>by
    have z:=I7.pin (b,o) (wa3 _ (wa3 _ (qdy hb e)))
    exact ⟨z.1,z.2.1⟩
   refine append_at (hsz:=hz) pD.1 λh8 sb8 hD8=>?_
   have I7n:Inv (blk X N scope cl G.objs.size s2 H2 fp) [] σ6 H7 s7:=I7.pins_of λp hp=>nomatch hp
   have I8:Inv (blk X N scope cl G.objs.size s2 H2 fp) [] σ6 H7 { s7 with heap:=h8,toks:=s7.toks }:=I7n.turned (λb o hb e=>sb8.extBut b o hb e) pD.2.1 hDC (.inr (wac _)) ncD (λp hp=>nomatch hp)
   refine ⟨n0 - (i+1),⋯,i+1,ys++[y],its++[uy],k+1,H7,qhJ B I2 f2 I8,?_,Paired.snoc hv r7,pD.2.1,T.keep _ _ _ st5 (λb hb o e=>sb8.extBut b o (nfD b hb).symm (pF b hb o e).1),λb hb=>?_,w7,rfl⟩
   ·show h8.get? _=_
    rw [hD8,List.push_toArray]
   ·obtain ⟨o,e,_⟩:=T.obj _ _ st5 b hb
    exact (pF b hb o e).2
 exact codeAny_compStart_list loop (T.self X.A 0 _ _ _ (T.keep _ _ _ st2 (λb _ o e=>old b o e)) loop)
theorem qbT {elt iter tg:Expr} {pos:Pos} {wi:TI} {g:TG} {te:TE} (hc:X.calm=true) (B:BlkOk X N capt scope cl) (hi:PI X tg iter wi)
  (hg:∀ C s H fp,PG (blk X N scope cl C s H fp) tg g) (he:∀ C s H fp,PE (blk X N scope cl C s H fp) elt te)
  (hs:∀ x,foldedSetIterable iter X.env x=pure x:=by intro _;rfl):PE X (.ListComp elt [⟨tg,iter,[],0⟩] scope pos) (qb0 wi capt g te):=by
 intro pins s σ H Q I h
 rw [eval_ListComp]
 refine wpAny_comprehension_free (use:=none) rfl hs B.clos B.kind B.names (qkV (λacc C=>compPost (model X.prog X.w) X.A X.xe none (EP X pins σ Q) acc C) hc B hi hg he I h λD C s4 Hq m I4 q hn hf h1 h2 h3 h4=>?_)
 exact ⟨m,hn,λh' sb=>⟨.ref D,Hq,I4.turned (λb o hb e=>sb.extBut b o hb e) hf h1 (.inr h2) h3 h4,rfl,q⟩⟩
theorem qjS {i:Nat} {x:Str} {pos' spos:Pos} {elt iter tg:Expr} {pos:Pos} {wi:TI} {g:TG} {te:TE} (hN:X.N.Nodup) (hi':X.N[i]?=some x) (hx:Loc X.env.scope x) (hc:X.calm=true) (B:BlkOk X N capt scope cl) (hi:PI X tg iter wi)
  (hg:∀ C s H fp,PG (blk X N scope cl C s H fp) tg g) (he:∀ C s H fp,PE (blk X N scope cl C s H fp) elt te)
  (hsw:swapsWith (.ListComp elt [⟨tg,iter,[],0⟩] scope pos) (some (.Name x pos')) spos.line X.env=pure true:=by rfl)
  (hs:∀ x,foldedSetIterable iter X.env x=pure x:=by intro _;rfl) (hf:X.fn x=true\/X.env.scope.names.lookup x=some .local:=by first | exact .inl rfl | exact .inr rfl | assumption) :
  PS X (.Assign [.Name x pos'] (.ListComp elt [⟨tg,iter,[],0⟩] scope pos) spos) (qaJ (qb0 wi capt g te) (qak i)):=by
 intro pins s σ H D I h
 rw [exec_Assign_Name_used _ _ _ _ hsw]
 refine wpAny_bind (wpAny_standAt (wpAny_bind ?_))
 show wpAny _ X.A (do let _ <-comprehension (.ListComp elt [⟨tg,iter,[],0⟩] scope pos) scope X.env _ (newList []) false (eval iter X.env) (some (assign (.Name x pos') X.env))) _ _ s
 refine wpAny_bind (wpAny_mono (wpAny_comprehension_free (use:=some (assign (.Name x pos') X.env)) (Q:=λ_ s'=>SP X pins D .next s') rfl hs B.clos B.kind B.names
  (qkV (λacc C=>compPost (model X.prog X.w) X.A X.xe (some (assign (.Name x pos') X.env)) (λ_ s'=>SP X pins D .next s') acc C) hc B hi hg he I h λDa C s4 Hq m I4 q hn hfr h1 h2 h3 h4=>?_)) (λ_ s' hq=>wpAny_pure (wpAny_pure hq)) λ_ _ e=>e)
 show wpAny _ X.A (assign (.Name x pos') X.env (.ref Da)) _ _ _
 refine wpAny_assign_Name (qky I4 hN hi' hx (v:=.ref Da) rfl (λs5 I5 ⟨a,sb5,ha⟩=>⟨m,hn.sameBut sb5 ?_,λh' sb=>⟨_,_,I5.turned (λb o hb e=>sb.extBut b o hb e) hfr h1 (.inr h2) h3 h4,q⟩⟩) hf)
 rcases ha with z | z
 ·rw [z];exact h1
 ·exact λe=>h3 x a z e.symm
end
end Bs
namespace Bs
open PySem PySem.Spec PyProof.Rows L2
open PySem.AutoSeq1 (wpAny_loadPart')
section
variable {prog:Program} {w:World} {A:Around} {E:Value->Shared->Prop} {s:Shared} {e it t:Addr} {i:Nat} {zs:Array Value}
end
section
variable {X:Cx} {pins:List (Addr×Obj)} {σ:L2.St} {H:Hp} {s:Shared}
theorem qqQ {e it:Addr} {g:Heap} {tk:Nat} {xs:List V} {its:List Value} (I:Inv X pins σ H s) (fe:qlO X pins H e) (fi:qlO X pins H it) (k:∀ b o,b≠e->b≠it->s.heap.get? b=some o->g.get? b=some o)
  (hz:xs.length<=sizeLine) (rv:Vals xs its) (ht:g.get? s.heap.objs.size=some { cls:=.type "tuple", data:=.seq its.toArray }):Inv X pins σ (upd H s.heap.objs.size (.tup xs)) { s with heap:=g,toks:=tk }:=by
 have nT:H s.heap.objs.size=none:=I.hok.fresh (wac _)
 have old:∀ b o,s.heap.get? b=some o->b≠s.heap.objs.size:=λb o q=>wao (Heap.lt_size q)
 have tr:∀ b u,H b=some u->b≠s.heap.objs.size/\b≠e/\b≠it:=λb u q=>⟨qaq q nT,qaq q fe.1,qaq q fi.1⟩
 have off:∀ b,b∉[e,it]->b≠e/\b≠it:=λb hb=>⟨λz=>hb (by simp [z]),λz=>hb (by simp [z])⟩
 refine I.step (g':=s.gens) (d':=s.drawn) (ch:=[e,it]) (λb hb=>?_) (λb o _ _ hc q _=>k b o (off b hc).1 (off b hc).2 q) (λb o _ _ hc q _=>⟨o.slots,k b o (off b hc).1 (off b hc).2 q⟩) (λb o _ q n=>?_) (λb o hc q=>⟨o,k b o (off b hc).1 (off b hc).2 q⟩)
  (λb ys q=>?_) (λb o u q=>?_) (λb ps q=>⟨#[],?_⟩) (λm hm=>?_) (λb u q=>?_) I.bare
 ·have z:b=e\/b=it:=by simpa using hb
  rcases z with rfl | rfl
  ·exact ⟨fe.2.2.2.1,fe.2.1,fe.2.2.2.2.1,fe.2.2.2.2.2⟩
  ·exact ⟨fi.2.2.2.1,fi.2.1,fi.2.2.2.2.1,fi.2.2.2.2.2⟩
 ·rw [qaC (old b o q)];exact n
 ·rw [qaC (tr b _ q).1];exact q
 ·rw [qaC (tr b _ q).1];exact q
 ·rw [qaC (tr b _ q).1,q];simp
 ·obtain ⟨o,es,ep,ho,hr⟩:=hm
  exact ⟨o,es,ep,k _ o fe.2.1.symm fi.2.1.symm ho,hr⟩
 ·by_cases hb:b=s.heap.objs.size
  ·subst hb
   rw [qah] at q
   cases q
   exact ⟨hz,its,rv,⟨_,ht,rfl,_,rfl⟩⟩
  ·rw [qaC hb] at q
   refine (I.hok b u q).stay (λc v hc z=>?_) (λc z=>by rw [qaC (tr c _ z).1];exact z) λc ys z=>by rw [qaC (tr c _ z).1];exact z
   rcases hc with y | y
   ·subst y;exact k _ v (tr _ u q).2.1 (tr _ u q).2.2 z
   ·exact k c v (tr c _ y).2.1 (tr c _ y).2.2 z
end
theorem qnC {P:Program} {w:World} {K:W.Frag} {elts:List Expr} {k:Nat} {pos:Pos} (a e it:Addr) (ne:e≠it):Turn P w K (.Tuple elts k pos) (qtL K a) [e,it] e (λi h=>(∃ old,IsEnum h e it i old)/\h.IsListIter it a i) where
 mem:=by simp
 obj:=λi h st b hb=>by
  obtain ⟨⟨old,se⟩,o,ho,c,d⟩:=st
  have z:b=e\/b=it:=by simpa using hb
  rcases z with rfl | rfl
  ·exact ⟨_,se,λv z=>nomatch z⟩
  ·exact ⟨o,ho,λv z=>by rw [d] at z;cases z⟩
 keep:=λi h h' st kk=>⟨let ⟨old,se⟩:=st.1;⟨old,kk e (by simp) _ se⟩,st.2.at λo q=>kk it (by simp) o q⟩
 item:=by
  intro X hP hw hK hc i pins s σ H E I hf st hg
  subst hP hw hK
  obtain ⟨xs,x,hq,hx⟩:=hg
  obtain ⟨⟨old,se⟩,si⟩:=st
  obtain ⟨its,rv,p,hz⟩:=I.list hq
  obtain ⟨u,hu,ru⟩:=rv.get hx
  refine wpAny_pyNext_enum_item se si p.isList (x:=u) (by simpa using hu) ne λg eo gi gt _ gk=>?_
  refine ⟨_,rfl,wpAny_letOwnedTupleGo_enum eo λg' se' sb=>?_⟩
  have I1:=qqQ (g:=g') (tk:=s.toks+1) (xs:=[.int i,x]) (its:=[.int i s.toks,u]) I (hf e (by simp)) (hf it (by simp)) (λb o h1 h2 q=>sb.extBut b o h1 (gk b o h1 h2 q)) (sz (by simp)) (.cons ⟨_,rfl⟩ (.cons ru .nil)) (sb.extBut _ _ (Nat.ne_of_gt (Heap.lt_size se)) gt)
  refine ⟨.ref s.heap.objs.size,_,I1,rfl,⟨_,x,I.hok.fresh (wac _),rfl,rfl,λys hy=>by rw [I.list_inj hy hq];exact hx⟩,⟨⟨_,by simpa using se'⟩,gi.at λo q=>sb.extBut it o ne.symm q⟩,λb hb=>?_⟩
  rw [qaC]
  ·exact (hf b hb).1
  ·have z:b=e\/b=it:=by simpa using hb
   rcases z with rfl | rfl
   ·exact wao (Heap.lt_size se)
   ·obtain ⟨o,ho,_⟩:=si;exact wao (Heap.lt_size ho)
 done:=by
  intro X hP hw hK hc i pins s σ H E I hf st hg
  subst hP hw hK
  obtain ⟨xs,hq,hx⟩:=hg
  obtain ⟨⟨old,se⟩,si⟩:=st
  obtain ⟨its,rv,p,hz⟩:=I.list hq
  obtain ⟨f0,f1,f2,f3,f4,f5⟩:=hf it (by simp)
  have hl:=rv.length
  exact wpAny_pyNext_enum_end (I.ok.hd hc) se si p.isList (by simp;omega) λg eb=>⟨rfl,I.turned (t':=s.toks) (λb o hb q=>eb b o hb q) f0 f1 f3 f4 f5⟩
 self:=λ_ _ _ _ _ st h=>let ⟨_,se⟩:=st.1;wpAny_pyIter_enum se h
section
variable {X:Cx} {elts:List Expr} {k:Nat} {tpos:Pos} {a:Expr} {ta:TA} {p pos:Pos}
theorem qdL (hg:Gl X "enumerate") (hm:X.mg "enumerate" = none) (ha:PA X [a] ta) (hs:starEach [a] X.env=[(false,eval a X.env)]:=by rfl):PI X (.Tuple elts k tpos) (.Call (.Name "enumerate" p) [a] [] pos) (qeJ X.K ta):=by
 intro pins s σ H R I h
 refine Call_ (qd8 I hg hm qkT (PyProof.Rows.callWith_type1 (thn (ha pos pins s σ H _ I h) λus s1 ⟨vs,H1,I1,r1,q1⟩=>?_) hs rfl))
 obtain ⟨b,rfl,⟨xs,hq⟩,q⟩:=q1
 obtain ⟨u,rfl,ru⟩:=qfh r1
 cases ru
 obtain ⟨its,rv,pl,hz⟩:=I1.list hq
 refine call_enumerate_list pl.isList λg se si _ gk=>?_
 have I2:Inv X pins σ H1 { s1 with heap:=g }:=I1.kept (t':=s1.toks) gk
 refine wpAny_pyIter_enum se ⟨_,[s1.heap.objs.size+1,s1.heap.objs.size],_,_,H1,rfl,I2,qnC b _ _ (Nat.succ_ne_self _),⟨⟨_,se⟩,si⟩,λc hc=>?_,q⟩
 have z:c=s1.heap.objs.size+1\/c=s1.heap.objs.size:=by simpa using hc
 rcases z with rfl | rfl
 ·exact I1.fpOk (Nat.le_succ _) (I1.hok.fresh (Nat.le_succ _))
 ·exact I1.fpOk (wac _) (I1.hok.fresh (wac _))
end
end Bs
namespace Bs
open PySem L2
mutual
inductive RepD (H:Hp):V->PySem.W.Dat->Prop
 | non:RepD H .non .none
 | int (i:Int):RepD H (.int i) (.int i)
 | tup {p:Addr} {xs:List V} {ds:List PySem.W.Dat} (h:H p=some (.tup xs)) (r:RepA H xs ds):RepD H (.ref p) (.tuple ds)
 | lst {p:Addr} {xs:List V} {ds:List PySem.W.Dat} (h:H p=some (.lst xs)) (r:RepA H xs ds):RepD H (.ref p) (.list ds)
inductive RepA (H:Hp):List V->List PySem.W.Dat->Prop
 | nil:RepA H [] []
 | cons {x:V} {xs:List V} {d:PySem.W.Dat} {ds:List PySem.W.Dat} (h:RepD H x d) (r:RepA H xs ds):RepA H (x::xs) (d::ds)
end
noncomputable def eqD:R2:=λx y H Q=>∃ (d e:PySem.W.Dat) (b:Bool),RepD H x d/\RepD H y e/\PySem.W.kqdOk 8 d=true/\PySem.W.kqdOk 8 e=true/\(b=true↔d=e)/\Q (.bl b) H
noncomputable def neD:R2:=λx y H Q=>∃ (d e:PySem.W.Dat) (b:Bool),RepD H x d/\RepD H y e/\PySem.W.kqdOk 8 d=true/\PySem.W.kqdOk 8 e=true/\(b=true↔d=e)/\Q (.bl (!b)) H
noncomputable def qiH (te:TE):TT:=λσ H Q=>te σ H λx H'=>∃ p xs,x=.ref p/\H' p=some (.lst xs)/\Q (!xs.isEmpty) H'
noncomputable def quq (te:TE):TT:=λσ H Q=>te σ H λx H'=>∃ p xs,x=.ref p/\H' p=some (.tup xs)/\Q (!xs.isEmpty) H'
noncomputable def sL:V->Option Int->Option Int->Hp->VK->Prop:=λx lo hi H Q=>∃ a xs,x=.ref a/\H a=some (.lst xs)/\∀ p,H p=none->Q (.ref p) (upd H p (.lst (qhw xs lo hi)))
noncomputable def qoT:List V->Hp->VK->Prop:=λxs H Q=>∃ p ys,xs=[.ref p]/\H p=some (.lst ys)/\∀ l,H l=none->Q (.ref l) (upd H l (.tup ys))
noncomputable def qrR:List V->Hp->VK->Prop:=λxs H Q=>∃ p ys,xs=[.ref p]/\H p=some (.tup ys)/\∀ l,H l=none->Q (.ref l) (upd H l (.lst ys))
noncomputable def qhK:List V->Hp->VK->Prop:=λxs H Q=>∃ p ys,xs=[.ref p]/\H p=some (.lst ys)/\∀ l,H l=none->Q (.ref l) (upd H l (.lst ys))
noncomputable def qsF:List V->Hp->VK->Prop:=λxs H Q=>∃ (p:Addr) (bs:List Bool),xs=[.ref p]/\H p=some (.lst (bs.map V.bl))/\Q (.bl (bs.all id)) H
end Bs
namespace Bs
open PySem PySem.Spec PyProof.Rows L2
section
variable {X:Cx} {pins:List (Addr×Obj)} {σ:L2.St} {H:Hp} {s:Shared}
mutual
theorem qee (I:Inv X pins σ H s):∀ {x:V} {d:PySem.W.Dat} {u:Value},RepD H x d->RelV x u->∃ as,Reads s.heap u (PySem.W.kqdP d) as
 | _,_,_,.non,e=>by cases e;rw [PySem.W.kqdP];exact ⟨_,Reads.none⟩
 | _,_,_,.int i,⟨t,e⟩=>by subst e;rw [PySem.W.kqdP];exact ⟨_,Reads.int i t⟩
 | _,_,_,.tup h r,e=>by
   cases e
   obtain ⟨its,rv,p,_⟩:=I.tuple (SqT.of h)
   obtain ⟨as,q⟩:=ql0 I r rv
   obtain ⟨o,ho,hc,n,hd⟩:=p
   rw [PySem.W.kqdP]
   exact ⟨as,reads_tuple_at ho hc hd (by simpa using q)⟩
 | _,_,_,.lst h r,e=>by
   cases e
   obtain ⟨its,rv,p,_⟩:=I.list (SqL.of h)
   obtain ⟨as,q⟩:=ql0 I r rv
   obtain ⟨o,n,ho,hc,_,hd⟩:=p
   rw [PySem.W.kqdP]
   exact ⟨_,reads_list_at ho hc hd (by simpa using q)⟩
theorem ql0 (I:Inv X pins σ H s):∀ {xs:List V} {ds:List PySem.W.Dat} {us:List Value},RepA H xs ds->Vals xs us->∃ as,ReadsAll s.heap us (PySem.W.kqdPs ds) as
 | _,_,_,.nil,.nil=>by rw [PySem.W.kqdPs];exact ⟨_,ReadsAll.nil⟩
 | _,_,_,.cons h r,.cons e es=>by
   obtain ⟨as,q⟩:=qee I h e
   obtain ⟨bs,q2⟩:=ql0 I r es
   rw [PySem.W.kqdPs]
   exact ⟨_,ReadsAll.cons q q2⟩
end
theorem qfk {d:PySem.W.Dat} (h:PySem.W.kqdOk 8 d=true):SeqAt.shaped (PySem.W.kqdP d)=true:=by
 have z:=PySem.W.kqd_lay 8 d h
 unfold SeqAt.shaped
 rw [z.1,Bool.true_and]
 exact decide_eq_true (wap z.2 ∅)
theorem qrS {d e:PySem.W.Dat} {b:Bool} (h1:PySem.W.kqdOk 8 d=true) (h2:PySem.W.kqdOk 8 e=true) (hb:b=true↔d=e):PyData.eqv (PySem.W.kqdP d) (PySem.W.kqdP e)=b:=by
 rw [Bool.eq_iff_iff,hb]
 exact PySem.W.kqd_eqv 8 d e 8 h1 h2
theorem qrT (hu:X.A.units+64<cLine):OpR X (compareOp .Eq) eqD:=by
 intro pins s σ H x y v u Q I rx ry h
 obtain ⟨d,e,b,r1,r2,k1,k2,hb,q⟩:=h
 obtain ⟨as,q1⟩:=qee I r1 rx
 obtain ⟨bs,q2⟩:=qee I r2 ry
 exact eq_dataH q1 q2 (qfk k1) (qfk k2) hu (by rw [qrS k1 k2 hb];exact ⟨.bl b,H,I,rfl,q⟩)
theorem qrU (hu:X.A.units+64<cLine):OpR X (compareOp .NotEq) neD:=by
 intro pins s σ H x y v u Q I rx ry h
 obtain ⟨d,e,b,r1,r2,k1,k2,hb,q⟩:=h
 obtain ⟨as,q1⟩:=qee I r1 rx
 obtain ⟨bs,q2⟩:=qee I r2 ry
 exact ne_dataH q1 q2 (qfk k1) (qfk k2) hu (by rw [qrS k1 k2 hb];exact ⟨.bl (!b),H,I,rfl,q⟩)
theorem qeW {a:Expr} {ta:TE} (ha:PE X a ta) (he:∀ whole,isTrue a X.env whole=(do let v <-whole;standAt a.pos;holding [v] (truthy v))):PT X a (qiH ta):=λpins s σ H Q I h=>
 isTrue_plain (thn (ha pins s σ H _ I h) λv s1 ⟨x,H1,I1,r1,q1⟩=>by
  obtain ⟨p,xs,e,hp,q⟩:=q1
  subst e
  exact qt1 pins s1 σ H1 _ v Q I1 r1 ⟨_,.inl ⟨xs,SqL.of hp,rfl⟩,q⟩) (he _)
theorem qf8:SlR X sL:=by
 intro pins s σ H x v vl vu lo hi sl Q I rx hs pl pu h
 obtain ⟨a,xs,e,ha,q⟩:=h
 exact qos pins s σ H x v vl vu lo hi sl Q I rx hs pl pu ⟨a,xs,e,SqL.of ha,q⟩
theorem qkW:qdz X (.type "tuple") qoT:=λpins s σ H xs us Q I r h=>by
 obtain ⟨p,ys,e,hp,q⟩:=h
 exact qjH pins s σ H xs us Q I r ⟨p,ys,e,.inl ⟨SqL.of hp,q⟩⟩
theorem qeC:qdz X (.type "list") qhK:=λpins s σ H xs us Q I r h=>by
 obtain ⟨p,ys,e,hp,q⟩:=h
 exact qkI pins s σ H xs us Q I r ⟨p,ys,e,.inl (SqL.of hp),q⟩
theorem qkX:∀ {bs:List Bool} {us:List Value},Vals (bs.map V.bl) us->us=bs.map Value.bool
 | [],_,.nil=>rfl
 | b::bs,_,.cons e r=>by rw [show _=Value.bool b from e,qkX r];rfl
theorem qkY (hc:X.calm=true):qdz X (.builtin "all") qsF:=λpins s σ H xs us Q I r h=>by
 obtain ⟨p,bs,rfl,hp,q⟩:=h
 obtain ⟨u,rfl,ru⟩:=qfh r
 cases ru
 obtain ⟨its,rv,pl,hz⟩:=I.list (SqL.of hp)
 have eb:=qkX rv
 subst eb
 refine call_all_walk (wpAny_pyIter_list pl.isList ⟨s.heap.objs.size,[s.heap.objs.size,p],[s.heap.objs.size],(bs.map Value.bool).toArray.size,_,_,λi=>bs.getD i false,rfl,Walks.list (A:=X.A.in1) (show X.A.in1.handled=none from I.ok.hd hc) s.heap.objs.size p (wao pl.lt) _,⟨⟨_,Heap.get?_push_size _ rfl,rfl,rfl⟩,pl.isList.push _⟩,?_,λg tk gk=>?_⟩)
 ·intro i v s' Q' E' hP hQ
  have e:v=Value.bool (bs.getD i false):=by
   have z:(bs.map Value.bool)[i]?=some v:=by simpa using hP
   rw [wae] at z
   cases w:bs[i]? with
   | none=>rw [w] at z;cases z
   | some c=>
     rw [w] at z
     rw [wab,w]
     exact (Option.some.inj z).symm
  subst e
  exact wpAny_truthy_bool hQ
 ·have kk:∀ b o,s.heap.get? b=some o->g.get? b=some o:=λb o e=>gk b o (λz=>absurd (Heap.lt_size e) (by rw [wag.mp z];exact wa6 _)) (Heap.get?_push_of_some _ e)
  refine ⟨.bl (bs.all id),H,I.kept kk,?_,q⟩
  show Value.bool _=Value.bool _
  congr 1
  rw [Bool.eq_iff_iff]
  simp only [wce,wbp,waj,waa,id]
  constructor
  ·intro h x hx
   obtain ⟨i,hi,e⟩:=wck hx
   have z:=h i hi
   rw [wab,waf hi] at z
   rw [<-e];exact z
  ·intro h i hi
   rw [wab,waf hi]
   exact h _ (wbf hi)
theorem qfl:PGet X gL:=by
 intro pins s σ H o i ov iv Q I ro ri h
 obtain ⟨p,k,xs,v,rfl,rfl,hp,ha,q⟩:=h
 cases ro
 obtain ⟨t,rfl⟩:=ri
 obtain ⟨its,r,pl,hz⟩:=I.list (SqL.of hp)
 obtain ⟨j,h1,h2,h3,h4,h5⟩:=qlS ha
 obtain ⟨w,ew,rw'⟩:=r.get h2
 have hl:=r.length
 have hn:=qi2
 have fin:EP X pins σ Q w s:=⟨v,H,I,rw',q⟩
 by_cases h0:0<=k
 ·have hj:k.toNat=j:=by
   rw [seqIndex_of h0 h5] at h1
   exact Option.some.inj h1
  exact wpAny_getItem_list pl.isList h0 ⋯ (by rw [hj];simpa using ew) fin
 ·have hj:(k+(its.toArray.size:Int)).toNat=j:=by
   rw [seqIndex_neg ⋯ h4] at h1
   rw [waj,<-hl]
   exact Option.some.inj h1
  exact wpAny_getItem_list_neg pl.isList ⋯ (by rw [waj] <;> omega) ⋯ (by rw [hj];simpa using ew) fin
theorem qcB {K:W.Frag} {p:Addr} {xs:List V} (h:H p=some (.lst xs)):tyV K "list" (.ref p) H:=.inl ⟨rfl,xs,SqL.of h⟩
end
end Bs
namespace Bs
open PySem L2
noncomputable def qhL (n:Nat) (t:TGs):TG:=λv σ H Q=>∃ a xs,v=.ref a/\H a=some (.tup xs)/\xs.length=n/\t xs σ H Q
end Bs
namespace Bs
open PySem PySem.Spec PyProof.Rows L2
theorem qef {X:Cx} {es:List Expr} {k:Nat} {pos:Pos} {t:TGs} {n:Nat} (hc:X.calm=true) (h:PGs X es t)
  (hn:(assignEach es X.env).length=n:=by rfl) (hst:(assignEach es X.env).findIdx? (·.1)=none:=by rfl):PG X (.Tuple es k pos) (qhL n t):=λpins s σ H v u Q I r q=>by
 obtain ⟨a,xs,e,ha,hl,q⟩:=q
 exact qtX hc h hn hst pins s σ H v u Q I r ⟨a,xs,e,SqT.of ha,hl,q⟩
theorem qoU {X:Cx}:OpR X (inplaceOp .FloorDiv) qkR:=opI λi j _ _ _ _ _ hc q=>by
 refine ifloordiv_int (wah hc.1) ?_ (.inl (PyProof.noPylong_of_log2 (hc.2.log2 ∅)))
 rw [wcd i (Int.le_of_lt hc.1)]
 exact q
end Bs
namespace Bs
open PySem L2
noncomputable def sT:V->Option Int->Option Int->Hp->VK->Prop:=λx lo hi H Q=>∃ a xs,x=.ref a/\H a=some (.tup xs)/\∀ p H',(H'=H/\p=a/\qhw xs lo hi=xs)\/(H p=none/\H'=upd H p (.tup (qhw xs lo hi)))->Q (.ref p) H'
end Bs
namespace HT
open PySem PySem.Spec PyProof.Rows
end HT
namespace Bs
open PySem PySem.Spec PyProof.Rows L2
end Bs
namespace Bs
open PySem L2
noncomputable def Itd (lo:Int) (n:Nat):It:=⟨λi _=>i<n,λi H x H'=>H'=H/\x=.int (lo - i),λi _=>n<=i⟩
noncomputable def Itv (K:W.Frag) (a:Addr) (n:Nat):It:=⟨λi H=>i<n/\∃ xs,SqL K H a xs/\xs.length=n,λi H x H'=>H'=H/\∀ xs,SqL K H a xs->xs[n - 1 - i]?=some x,λi _=>n=i⟩
noncomputable def qoV (ta:TA):TI:=λσ H R=>ta σ H λvs H1=>∃ i j:Int,vs=[.int i,.int j,.int (-1)]/\(-(2 ^ 62)<=i/\i<2 ^ 62/\-(2 ^ 62)<=j/\j<2 ^ 62)/\R (Itd i (i - j).toNat) H1
noncomputable def qvl (K:W.Frag) (ta:TA):TI:=λσ H R=>ta σ H λvs H1=>∃ a xs,vs=[.ref a]/\SqL K H1 a xs/\R (Itv K a xs.length) H1
section
variable {K:W.Frag} {ta:TA} {g:TG} {tb:TS} {D:Ends} {σ:L2.St} {H:Hp} {a:Addr} {xs:List V}
theorem qoW:qea (qoV ta) g tb D σ H=ta σ H (λvs H1=>∃ i j:Int,vs=[.int i,.int j,.int (-1)]/\(-(2 ^ 62)<=i/\i<2 ^ 62/\-(2 ^ 62)<=j/\j<2 ^ 62)/\ForJ (Itd i (i - j).toNat) g tb D σ H1):=rfl
theorem qoX:qea (qvl K ta) g tb D σ H=ta σ H (λvs H1=>∃ a xs,vs=[.ref a]/\SqL K H1 a xs/\ForJ (Itv K a xs.length) g tb D σ H1):=rfl
theorem ForJ.down {lo:Int} {n:Nat} (Pv:Nat->L2.St->Hp->Prop) (h0:Pv 0 σ H)
  (hs:∀ i σ H,i<n->Pv i σ H->g (.int (lo - i)) σ H λσ2 H2=>tb { D with nx:=Pv (i+1),ct:=Pv (i+1),bk:=D.nx } σ2 H2) (hd:∀ σ H,Pv n σ H->D.nx σ H):ForJ (Itd lo n) g tb D σ H:=by
 refine ⟨λi m σ H=>m=n - i/\i<=n/\Pv i σ H,⟨n,by simp,wad _,h0⟩,?_⟩
 rintro i m σ H ⟨rfl,hi,pv⟩
 by_cases lt:i<n
 ·refine .inr ⟨lt,Pv (i+1),λσ' H' p'=>⟨n - (i+1),⋯,rfl,lt,p'⟩,λx H' y=>?_⟩
  obtain ⟨e,y⟩:=y
  subst e y
  exact hs i σ _ lt pv
 ·have e:i=n:=by omega
  subst e
  exact .inl ⟨wac _,hd σ H pv⟩
theorem ForJ.rev (Pv:Nat->L2.St->Hp->Prop) (h0:Pv 0 σ H) (hl:∀ i σ H,i<=xs.length->Pv i σ H->SqL K H a xs)
  (hs:∀ i x σ H,i<xs.length->xs[xs.length - 1 - i]?=some x->Pv i σ H->g x σ H λσ2 H2=>tb { D with nx:=Pv (i+1),ct:=Pv (i+1),bk:=D.nx } σ2 H2) (hd:∀ σ H,Pv xs.length σ H->D.nx σ H):ForJ (Itv K a xs.length) g tb D σ H:=by
 refine ⟨λi m σ H=>m=xs.length - i/\i<=xs.length/\Pv i σ H,⟨xs.length,by simp,wad _,h0⟩,?_⟩
 rintro i m σ H ⟨rfl,hi,pv⟩
 have q:=hl i σ H hi pv
 by_cases lt:i<xs.length
 ·refine .inr ⟨⟨lt,xs,q,rfl⟩,Pv (i+1),λσ' H' p'=>⟨xs.length - (i+1),⋯,rfl,lt,p'⟩,λx H' y=>?_⟩
  obtain ⟨e,y⟩:=y
  subst e
  exact hs i x σ _ lt (y xs q) pv
 ·have e:i=xs.length:=by omega
  subst e
  exact .inl ⟨rfl,hd σ H pv⟩
end
end Bs
namespace Bs
open PySem PySem.Spec PyProof.Rows L2
theorem qoY {P:Program} {w:World} {K:W.Frag} {tg:Expr} (it:Addr) (lo:Int) (n:Nat):Turn P w K tg (Itd lo n) [it] it (λi h=>IsRangeIter h it (lo+(i:Nat)*(-1)) ((n:Int) - (i:Nat)) (-1)) where
 mem:=by simp
 obj:=λi h st b hb=>by
  have e:b=it:=by simpa using hb
  subst e
  exact ⟨_,st,λv z=>by
   have z':Data.fields _=Data.cell v:=z
   cases z'⟩
 keep:=λi h h' st k=>k it (by simp) _ st
 item:=by
  intro X hP hw hK hc i pins s σ H E I hf st hg
  subst hP hw hK
  obtain ⟨f0,f1,f2,f3,f4,f5⟩:=hf it (by simp)
  have W:=Walks.range (prog:=X.prog) (w:=X.w) (I.ok.hd hc) it lo (-1) n
  refine W.item i s _ _ hg st λv h' tk hv st' kk=>?_
  obtain ⟨t,rfl⟩:=hv
  have I1:Inv X pins σ H { s with heap:=h',toks:=tk }:=I.turned (λb o hb e=>kk b o (by simpa using hb) e) f0 f1 f3 f4 f5
  refine ⟨_,rfl,qoa (s:={ s with heap:=h',toks:=tk }) (n := "range_iterator") st' rfl rfl ∅ ⟨.int (lo - i),H,I1,⟨t,?_⟩,⟨rfl,rfl⟩,st',λb hb=>(hf b hb).1⟩⟩
  rw [show lo+(i:Int)*(-1)=lo - i by omega]
 done:=by
  intro X hP hw hK hc i pins s σ H E I hf st hg
  subst hP hw hK
  obtain ⟨f0,f1,f2,f3,f4,f5⟩:=hf it (by simp)
  exact wpAny_pyNext_range_end (I.ok.hd hc) st (by have:n<=i:=hg;omega) λh' eb=>⟨rfl,I.turned (t':=s.toks) (λb o hb e=>eb b o hb e) f0 f1 f3 f4 f5⟩
 self:=λ_ _ _ _ _ st h=>wpAny_pyIter_rangeiter st h
theorem qkZ (a b:Int):Builtin.Range.rangeSize a b (-1)=if b<a then a - b else 0:=by
 unfold Builtin.Range.rangeSize
 simp only [show ¬ ((-1:Int) > 0) by decide,if_false,Int.neg_neg,Int.ediv_one]
 split <;> omega
theorem qnD {a b:Int} (ha:-(2 ^ 62)<=a) (ha':a<2 ^ 62) (hb:-(2 ^ 62)<=b) (hb':b<2 ^ 62):Builtin.Range.small a b (-1)=true:=by
 unfold Builtin.Range.small
 rw [qkZ]
 simp only [Builtin.Range.rangeFitsLong,Bool.and_eq_true,Bool.or_eq_true,decide_eq_true_eq,beq_iff_eq,show ¬ ((-1:Int) > 0) by decide,if_false]
 split <;> omega
theorem qhM {X:Cx} {tg:Expr} {a b c:Expr} {ta:TA} {p pos:Pos} (hg:Gl X "range") (hm:X.mg "range" = none) (ha:PA X [a,b,c] ta) (hs:starEach [a,b,c] X.env=[(false,eval a X.env),(false,eval b X.env),(false,eval c X.env)]:=by rfl) (hs2:starEach [b,c] X.env=[(false,eval b X.env),(false,eval c X.env)]:=by rfl) :
  PI X tg (.Call (.Name "range" p) [a,b,c] [] pos) (qoV ta):=by
 intro pins s σ H R I h
 refine Call_ (qd8 I hg hm boot_range (PyProof.Rows.callWith_type1 (thn (ha pos pins s σ H _ I h) λus s1 ⟨vs,H1,I1,r1,q1⟩=>?_) (by rw [hs,hs2]) (by rw [hs2];rfl)))
 obtain ⟨i,j,e,⟨q1,q2,q3,q4⟩,q⟩:=q1
 subst e
 cases r1 with
 | cons r rr=>
   cases rr with
   | cons r' rr=>
     cases rr with
     | cons r'' rr=>
       cases rr
       obtain ⟨t,rfl⟩:=r
       obtain ⟨t',rfl⟩:=r'
       obtain ⟨t'',rfl⟩:=r''
       refine call_range_3 ∅ ?_ (.inl (PyProof.noPylong_small ∅))
       refine wpAny_pyIter_range (IsRange.new ..) (qnD q1 q2 q3 q4) ?_
       have I2:Inv X pins σ H1 { s1 with heap:=s1.heap.push { cls:=.type "range", data:=.fields #[.int i t,.int j t',.int (-1) t''] },toks:=s1.toks }:=I1.kept λb o e=>Heap.get?_push_of_some _ e
       refine ⟨(s1.heap.push { cls:=.type "range", data:=.fields #[.int i t,.int j t',.int (-1) t''] }).objs.size,[(s1.heap.push { cls:=.type "range", data:=.fields #[.int i t,.int j t',.int (-1) t''] }).objs.size],_,_,H1,rfl,
        I2.kept (t':=s1.toks) λb o e=>Heap.get?_push_of_some _ e,qoY _ i (i - j).toNat,?_,λb hb=>?_,q⟩
       ·have e1:i+((0:Nat):Int)*(-1)=i:=by simp
        have e2:(((i - j).toNat:Nat):Int) - ((0:Nat):Int)=Builtin.Range.rangeSize i j (-1):=by rw [qkZ];split <;> omega
        show IsRangeIter _ _ (i+((0:Nat):Int)*(-1)) ((((i - j).toNat:Nat):Int) - ((0:Nat):Int)) (-1)
        rw [e1,e2]
        exact Heap.get?_push_size _ rfl
       ·have e:b=(s1.heap.push { cls:=.type "range", data:=.fields #[.int i t,.int j t',.int (-1) t''] }).objs.size:=by simpa using hb
        subst e
        exact I2.fpOk (wac _) (I2.hok.fresh (wac _))
theorem qqR {P:Program} {w:World} {K:W.Frag} {tg:Expr} (a it:Addr) (n:Nat):Turn P w K tg (Itv K a n) [it] it (λi h=>h.IsRevIter it a ((n:Int) - 1 - (i:Int))) where
 mem:=by simp
 obj:=λi h st b hb=>by
  have e:b=it:=by simpa using hb
  subst e
  obtain ⟨o,e,c,d⟩:=st
  exact ⟨o,e,λv z=>by rw [d] at z;cases z⟩
 keep:=λi h h' st k=>st.at λo e=>k it (by simp) o e
 item:=by
  intro X hP hw hK hc i pins s σ H E I hf st hg
  subst hP hw hK
  obtain ⟨hi,xs,hq,hn⟩:=hg
  obtain ⟨its,rv,p,hz⟩:=I.list hq
  have hx:xs[n - 1 - i]?=some (xs[n - 1 - i]'⋯):=waf ⋯
  obtain ⟨u,hu,ru⟩:=rv.get hx
  obtain ⟨f0,f1,f2,f3,f4,f5⟩:=hf it (by simp)
  have st2:s.heap.IsRevIter it a ((n - 1 - i:Nat):Int):=by rw [show ((n - 1 - i:Nat):Int)=(n:Int) - 1 - (i:Int) by omega];exact st
  refine wpAny_pyNext_rev_item st2 p.isList (x:=u) (by simpa using hu) λh' st' sb=>?_
  have I1:Inv X pins σ H { s with heap:=h' }:=I.turned (t':=s.toks) (λb o hb e=>(sb.2 b hb).trans e) f0 f1 f3 f4 f5
  obtain ⟨o,e,c,d⟩:=id st'
  have st3:h'.IsRevIter it a ((n:Int) - 1 - ((i+1:Nat):Int)):=by rw [show (n:Int) - 1 - ((i+1:Nat):Int)=((n - 1 - i:Nat):Int) - 1 by omega];exact st'
  exact ⟨u,rfl,qoa (s:={ s with heap:=h' }) e c d ∅ ⟨_,H,I1,ru,⟨rfl,λys hy=>by rw [I.list_inj hy hq];exact hx⟩,st3,λb hb=>(hf b hb).1⟩⟩
 done:=by
  intro X hP hw hK hc i pins s σ H E I hf st hg
  subst hP hw hK
  have hg':n=i:=hg
  subst hg'
  obtain ⟨f0,f1,f2,f3,f4,f5⟩:=hf it (by simp)
  have st2:s.heap.IsRevIter it a (-1):=by rw [show (-1:Int)=(n:Int) - 1 - (n:Int) by omega];exact st
  exact wpAny_pyNext_rev_end (I.ok.hd hc) st2 λh' eb=>⟨rfl,I.turned (t':=s.toks) (λb o hb e=>eb b o hb e) f0 f1 f3 f4 f5⟩
 self:=λ_ _ _ _ _ st h=>wpAny_pyIter_revIter st h
theorem qur {X:Cx} {tg:Expr} {a:Expr} {ta:TA} {p pos:Pos} (hg:Gl X "reversed") (hm:X.mg "reversed" = none) (ha:PA X [a] ta) (hs:starEach [a] X.env=[(false,eval a X.env)]:=by rfl):PI X tg (.Call (.Name "reversed" p) [a] [] pos) (qvl X.K ta):=by
 intro pins s σ H R I h
 refine Call_ (qd8 I hg hm qlY (PyProof.Rows.callWith_type1 (thn (ha pos pins s σ H _ I h) λus s1 ⟨vs,H1,I1,r1,q1⟩=>?_) hs rfl))
 obtain ⟨b,xs,rfl,hq,q⟩:=q1
 obtain ⟨u,rfl,ru⟩:=qfh r1
 cases ru
 obtain ⟨its,rv,pl,hz⟩:=I1.list hq
 refine call_reversed_list pl.isList ?_
 have I2:Inv X pins σ H1 { s1 with heap:=s1.heap.push (revObj b ((its.toArray.size:Int) - 1)) }:=I1.kept (t':=s1.toks) λb o e=>Heap.get?_push_of_some _ e
 have hl:=rv.length
 have si:(s1.heap.push (revObj b ((its.toArray.size:Int) - 1))).IsRevIter s1.heap.objs.size b ((xs.length:Int) - 1 - ((0:Nat):Int)):=by
  rw [show (xs.length:Int) - 1 - ((0:Nat):Int)=(its.toArray.size:Int) - 1 by rw [waj];omega]
  exact ⟨_,Heap.get?_push_size _ rfl,rfl,rfl⟩
 refine wpAny_pyIter_revIter si ⟨_,[s1.heap.objs.size],_,_,H1,rfl,I2,qqR b _ xs.length,si,λc hc=>?_,q⟩
 have z:c=s1.heap.objs.size:=by simpa using hc
 subst z
 exact I1.fpOk (wac _) (I1.hok.fresh (wac _))
end Bs
namespace Bs
open PySem L2
noncomputable def qus:R2:=λx y H Q=>y=.non/\Q (.bl (decide (x=.non))) H
noncomputable def qqS:R2:=λx y H Q=>y=.non/\Q (.bl (!decide (x=.non))) H
noncomputable def qvf (_ j:Int):Prop:=0<j
noncomputable def qsG (_ j:Int):Prop:=j≠0
noncomputable abbrev qk0:R2:=rI qvf λi j=>.int (i / j)
noncomputable abbrev qiI:R2:=rI qsG λi j=>.int (i.fdiv j)
noncomputable def Itz (K:W.Frag) (a b:Addr):It:=
 ⟨λi H=>∃ xs ys x y,SqL K H a xs/\SqL K H b ys/\xs[i]?=some x/\ys[i]?=some y,λi H v H'=>∃ p x y,H p=none/\v=.ref p/\H'=upd H p (.tup [x,y])/\(∀ xs,SqL K H a xs->xs[i]?=some x)/\∀ ys,SqL K H b ys->ys[i]?=some y,λi H=>∃ xs ys,SqL K H a xs/\SqL K H b ys/\xs.length<=i⟩
noncomputable def qvm (K:W.Frag) (ta:TA):TI:=λσ H R=>ta σ H λvs H1=>∃ a b,vs=[.ref a,.ref b]/\(∃ xs,SqL K H1 a xs)/\(∃ ys,SqL K H1 b ys)/\R (Itz K a b) H1
noncomputable def qmP (wi:TI) (capt:List (Option Nat)) (g:TG) (tc:TT) (te:TE):TE:=λσ H Q=>wi σ H λJ H1=>∃ (n:Nat) (W:Nat->List V->Hp->Prop),W 0 [] H1/\∀ i ys H,W i ys H->i<=n/\ys.length<=sizeLine/\
 ((J.stop i H/\∀ p,H p=none->Q (.ref p) (upd H p (.lst ys)))\/(i<n/\J.go i H/\∀ x H',J.yld i H x H'->g x (qcK capt σ) H' λσ2 H2=>tc σ2 H2 λb H3=>if b=true then te σ2 H3 λy H4=>W (i+1) (ys++[y]) H4 else W (i+1) ys H3))
noncomputable def CompF (J:It) (capt:List (Option Nat)) (g:TG) (tc:TT) (te:TE) (σ:L2.St) (Q:VK) (H1:Hp):Prop:=∃ (n:Nat) (W:Nat->List V->Hp->Prop),W 0 [] H1/\∀ i ys H,W i ys H->i<=n/\ys.length<=sizeLine/\
 ((J.stop i H/\∀ p,H p=none->Q (.ref p) (upd H p (.lst ys)))\/(i<n/\J.go i H/\∀ x H',J.yld i H x H'->g x (qcK capt σ) H' λσ2 H2=>tc σ2 H2 λb H3=>if b=true then te σ2 H3 λy H4=>W (i+1) (ys++[y]) H4 else W (i+1) ys H3))
section
variable {K:W.Frag} {ta:TA} {tl:TE} {capt:List (Option Nat)} {g:TG} {tc:TT} {te:TE} {tb:TS} {D:Ends} {σ:L2.St} {H:Hp} {Q:VK} {a b:Addr} {xs ys:List V}
theorem qmQ:qmP (qci K tl) capt g tc te σ H Q=tl σ H (λx H1=>∃ a,x=.ref a/\(∃ xs,SqL K H1 a xs)/\CompF (Itl K a) capt g tc te σ Q H1):=rfl
theorem qoZ:qb0 (qvm K ta) capt g te σ H Q=ta σ H (λvs H1=>∃ a b,vs=[.ref a,.ref b]/\(∃ xs,SqL K H1 a xs)/\(∃ ys,SqL K H1 b ys)/\CompJ (Itz K a b) capt g te σ Q H1):=rfl
theorem CompF.lst (W:Nat->List V->Hp->Prop) (h0:W 0 [] H) (hb:∀ i ys H,W i ys H->i<=xs.length/\ys.length<=sizeLine/\SqL K H a xs)
  (hs:∀ i x ys H,xs[i]?=some x->W i ys H->g x (qcK capt σ) H λσ2 H2=>tc σ2 H2 λb H3=>if b=true then te σ2 H3 λy H4=>W (i+1) (ys++[y]) H4 else W (i+1) ys H3) (hd:∀ ys H,W xs.length ys H->∀ p,H p=none->Q (.ref p) (upd H p (.lst ys))):CompF (Itl K a) capt g tc te σ Q H:=by
 refine ⟨xs.length,W,h0,λi ys H w=>⟨(hb i ys H w).1,(hb i ys H w).2.1,?_⟩⟩
 have q:SqL K H a xs:=(hb i ys H w).2.2
 by_cases h:i<xs.length
 ·refine .inr ⟨h,⟨xs,xs[i],q,by simp [h]⟩,λx H' y=>?_⟩
  obtain ⟨e,y⟩:=y
  subst e
  exact hs i x ys _ (y xs q) w
 ·have e:i=xs.length:=Nat.le_antisymm (hb i ys H w).1 (Nat.not_lt.mp h)
  subst e
  exact .inl ⟨⟨xs,q,wac _⟩,hd ys H w⟩
theorem CompJ.zip (hl:xs.length=ys.length) (W:Nat->List V->Hp->Prop) (h0:W 0 [] H) (hb:∀ i zs H,W i zs H->i<=xs.length/\zs.length<=sizeLine/\SqL K H a xs/\SqL K H b ys)
  (hs:∀ i x y zs H p,xs[i]?=some x->ys[i]?=some y->W i zs H->H p=none->g (.ref p) (qcK capt σ) (upd H p (.tup [x,y])) λσ2 H2=>te σ2 H2 λz H3=>W (i+1) (zs++[z]) H3) (hd:∀ zs H,W xs.length zs H->∀ p,H p=none->Q (.ref p) (upd H p (.lst zs))):CompJ (Itz K a b) capt g te σ Q H:=by
 refine ⟨xs.length,W,h0,λi zs H w=>⟨(hb i zs H w).1,(hb i zs H w).2.1,?_⟩⟩
 obtain ⟨_,_,q,q2⟩:=hb i zs H w
 by_cases h:i<xs.length
 ·refine .inr ⟨h,⟨xs,ys,xs[i],ys[i],q,q2,by simp [h],by simp [hl ▸ h]⟩,λv H' y=>?_⟩
  obtain ⟨p,x,y,hp,e1,e2,h1,h2⟩:=y
  subst e1 e2
  exact hs i x y zs _ p (h1 xs q) (h2 ys q2) w hp
 ·have e:i=xs.length:=Nat.le_antisymm (hb i zs H w).1 (Nat.not_lt.mp h)
  subst e
  exact .inl ⟨⟨xs,ys,q,q2,wac _⟩,hd zs H w⟩
end
noncomputable def qsH:V->Hp->VK->Prop:=λx H Q=>∃ (p:Addr) (ns:List Int),x=.ref p/\H p=some (.lst (ns.map V.int))/\∀ m:Int,(ns=[]/\m=0\/m∈ns)->Q (.int m) H
noncomputable def qqT (te:TE):TE:=λσ H Q=>te σ H λx H1=>qsH x H1 Q
noncomputable def qqU:List V->Hp->VK->Prop:=λxs H Q=>∃ (p:Addr) (ns:List Int),xs=[.ref p]/\H p=some (.lst (ns.map V.int))/\Q (.bl (ns.any λz=>!decide (z=0))) H
end Bs
namespace Bs
open PySem PySem.Spec PyProof.Rows L2
section
variable {X:Cx} {pins:List (Addr×Obj)} {σ:L2.St} {H:Hp} {s:Shared}
theorem qc9:OpR X (binaryOp .FloorDiv) qiI:=by
 intro pins s σ H x y v u Q I rx ry ⟨i,j,ex,ey,hc,q⟩
 subst ex ey
 obtain ⟨t,rfl⟩:=rx
 obtain ⟨t2,rfl⟩:=ry
 exact floordiv_int hc ⟨.int (i.fdiv j),H,I.tok _,⟨_,rfl⟩,q⟩ (Or.inr (I.ok.plr s I.bk))
theorem qfm:OpR X (binaryOp .FloorDiv) qk0:=by
 intro pins s σ H x y v u Q I rx ry ⟨i,j,ex,ey,hc,q⟩
 have hc':0<j:=hc
 replace q:Q (.int (i / j)) H:=q
 rw [<-wcd i (Int.le_of_lt hc')] at q
 exact qc9 pins s σ H x y v u Q I rx ry ⟨i,j,ex,ey,wah hc',q⟩
theorem qo0 {fp:List Addr} {g:Heap} {tk:Nat} (I:Inv X pins σ H s) (ff:∀ b∈fp,qlO X pins H b) (k:∀ b o,b∉fp->s.heap.get? b=some o->g.get? b=some o):Inv X pins σ H { s with heap:=g,toks:=tk }:=by
 have tr:∀ b u,H b=some u->b∉fp:=λb u q hb=>by rw [(ff b hb).1] at q;cases q
 refine I.step (g':=s.gens) (d':=s.drawn) (ch:=fp) (λb hb=>⟨(ff b hb).2.2.2.1,(ff b hb).2.1,(ff b hb).2.2.2.2.1,(ff b hb).2.2.2.2.2⟩) (λb o _ _ hc q _=>k b o hc q) (λb o _ _ hc q _=>⟨o.slots,k b o hc q⟩) (λ_ _ _ _ n=>n)
  (λb o hc q=>⟨o,k b o hc q⟩) (λ_ _ q=>q) (λ_ _ _ q=>q) (λb ps q=>⟨#[],by rw [q];simp⟩) (λm hm=>?_) (λb u q=>?_) I.bare
 ·obtain ⟨o,es,ep,ho,hr⟩:=hm
  exact ⟨o,es,ep,k _ o (λhb=>(ff _ hb).2.1 rfl) ho,hr⟩
 ·refine (I.hok b u q).stay (λc v hc z=>?_) (λ_ z=>z) λ_ _ z=>z
  rcases hc with y | y
  ·subst y;exact k _ v (tr _ u q) z
  ·exact k c v (tr c _ y) z
theorem qo1 {fp:List Addr} {g:Heap} {tk:Nat} {xs:List V} {its:List Value} (I:Inv X pins σ H s) (ff:∀ b∈fp,qlO X pins H b) (k:∀ b o,b∉fp->s.heap.get? b=some o->g.get? b=some o)
  (hz:xs.length<=sizeLine) (rv:Vals xs its) (ht:g.get? s.heap.objs.size=some { cls:=.type "tuple", data:=.seq its.toArray }):Inv X pins σ (upd H s.heap.objs.size (.tup xs)) { s with heap:=g,toks:=tk }:=by
 have nT:H s.heap.objs.size=none:=I.hok.fresh (wac _)
 have tn:∀ b u,H b=some u->b≠s.heap.objs.size:=λb u q=>qaq q nT
 have tr:∀ b u,H b=some u->b∉fp:=λb u q hb=>by rw [(ff b hb).1] at q;cases q
 refine I.step (g':=s.gens) (d':=s.drawn) (ch:=fp) (λb hb=>⟨(ff b hb).2.2.2.1,(ff b hb).2.1,(ff b hb).2.2.2.2.1,(ff b hb).2.2.2.2.2⟩) (λb o _ _ hc q _=>k b o hc q) (λb o _ _ hc q _=>⟨o.slots,k b o hc q⟩) (λb o _ q n=>?_)
  (λb o hc q=>⟨o,k b o hc q⟩) (λb ys q=>?_) (λb o u q=>?_) (λb ps q=>⟨#[],?_⟩) (λm hm=>?_) (λb u q=>?_) I.bare
 ·rw [qaC (wao (Heap.lt_size q))];exact n
 ·rw [qaC (tn b _ q)];exact q
 ·rw [qaC (tn b _ q)];exact q
 ·rw [qaC (tn b _ q),q];simp
 ·obtain ⟨o,es,ep,ho,hr⟩:=hm
  exact ⟨o,es,ep,k _ o (λhb=>(ff _ hb).2.1 rfl) ho,hr⟩
 ·by_cases hb:b=s.heap.objs.size
  ·subst hb
   rw [qah] at q
   cases q
   exact ⟨hz,its,rv,⟨_,ht,rfl,_,rfl⟩⟩
  ·rw [qaC hb] at q
   refine (I.hok b u q).stay (λc v hc z=>?_) (λc z=>by rw [qaC (tn c _ z)];exact z) λc ys z=>by rw [qaC (tn c _ z)];exact z
   rcases hc with y | y
   ·subst y;exact k _ v (tr _ u q) z
   ·exact k c v (tr c _ y) z
end
noncomputable def qvn (a b z ti to i1 i2:Addr) (i:Nat) (h:Heap):Prop:=IsZip h z ti to .none/\IsPair h ti (.ref i1) (.ref i2)/\(∃ u v,IsPair h to u v)/\h.IsListIter i1 a i/\h.IsListIter i2 b i
theorem qqV {P:Program} {w:World} {K:W.Frag} {elts:List Expr} {k:Nat} {pos:Pos} {a b z ti to i1 i2:Addr} (D:ZipApart z ti to i1 i2 a b):Turn P w K (.Tuple elts k pos) (Itz K a b) [z,ti,to,i1,i2] z (qvn a b z ti to i1 i2) where
 mem:=by simp
 obj:=λi h st c hc=>by
  obtain ⟨s1,s2,⟨u,v,s3⟩,⟨o4,s4,_,d4⟩,⟨o5,s5,_,d5⟩⟩:=st
  have hc':c=z\/c=ti\/c=to\/c=i1\/c=i2:=by simpa using hc
  rcases hc' with rfl | rfl | rfl | rfl | rfl
  ·exact ⟨_,s1,λv q=>nomatch q⟩
  ·exact ⟨_,s2,λv q=>nomatch q⟩
  ·exact ⟨_,s3,λv q=>nomatch q⟩
  ·exact ⟨_,s4,λv q=>by rw [d4] at q;cases q⟩
  ·exact ⟨_,s5,λv q=>by rw [d5] at q;cases q⟩
 keep:=λi h h' st kk=>⟨kk z (by simp) _ st.1,kk ti (by simp) _ st.2.1,let ⟨u,v,q⟩:=st.2.2.1;⟨u,v,kk to (by simp) _ q⟩,st.2.2.2.1.at λo q=>kk i1 (by simp) o q,st.2.2.2.2.at λo q=>kk i2 (by simp) o q⟩
 item:=by
  intro X hP hw hK hc i pins s σ H E I hf st hg
  subst hP hw hK
  obtain ⟨xs,ys,x,y,hq,hq2,hx,hy⟩:=hg
  obtain ⟨s1,s2,⟨u0,v0,s3⟩,s4,s5⟩:=st
  obtain ⟨its,rv,p1,_⟩:=I.list hq
  obtain ⟨jts,rw',p2,_⟩:=I.list hq2
  obtain ⟨u,hu,ru⟩:=rv.get hx
  obtain ⟨v,hv,rw2⟩:=rw'.get hy
  refine wpAny_pyNext_zip_item D s1 s2 s3 s4 s5 p1.isList p2.isList (x:=u) (y:=v) (by simpa using hu) (by simpa using hv) λg g1 g2 g3 g4 g5 _ gk=>?_
  refine ⟨_,rfl,wpAny_letOwnedTupleGo_zip g1 λg' z1 sb=>?_⟩
  have lz:z<s.heap.objs.size:=Heap.lt_size s1
  have kept:∀ c o,c∉[z,ti,to,i1,i2]->s.heap.get? c=some o->g'.get? c=some o:=λc o hc q=>by
   have hc':¬ (c=z\/c=ti\/c=to\/c=i1\/c=i2):=by simpa using hc
   exact sb.extBut c o (λe=>hc' (.inl e)) (gk c o (λe=>hc' (.inl e)) (λe=>hc' (.inr (.inr (.inl e)))) (λe=>hc' (.inr (.inr (.inr (.inl e))))) (λe=>hc' (.inr (.inr (.inr (.inr e))))) q)
  have I1:=qo1 (g:=g') (tk:=s.toks) (xs:=[x,y]) (its:=[u,v]) I hf kept (sz (by simp)) (.cons ru (.cons rw2 .nil)) (sb.extBut _ _ (Nat.ne_of_gt lz) g5)
  refine ⟨.ref s.heap.objs.size,_,I1,rfl,⟨_,x,y,I.hok.fresh (wac _),rfl,rfl,λzs hz=>by rw [I.list_inj hz hq];exact hx,λzs hz=>by rw [I.list_inj hz hq2];exact hy⟩,⟨z1,?_,⟨u,v,sb.extBut _ _ D.TOz g2⟩,g3.at λo q=>sb.extBut i1 o D.i1z q,g4.at λo q=>sb.extBut i2 o D.i2z q⟩,λc hc=>?_⟩
  ·exact sb.extBut _ _ D.TIz (gk _ _ D.TIz D.TITO D.TIi1 D.TIi2 s2)
  ·rw [qaC]
   ·exact (hf c hc).1
   ·have hc':c=z\/c=ti\/c=to\/c=i1\/c=i2:=by simpa using hc
    obtain ⟨o4,s4,_⟩:=s4
    obtain ⟨o5,s5,_⟩:=s5
    rcases hc' with rfl | rfl | rfl | rfl | rfl
    ·exact wao lz
    ·exact wao (Heap.lt_size s2)
    ·exact wao (Heap.lt_size s3)
    ·exact wao (Heap.lt_size s4)
    ·exact wao (Heap.lt_size s5)
 done:=by
  intro X hP hw hK hc i pins s σ H E I hf st hg
  subst hP hw hK
  obtain ⟨xs,ys,hq,hq2,hx⟩:=hg
  obtain ⟨s1,s2,⟨u0,v0,s3⟩,s4,s5⟩:=st
  obtain ⟨its,rv,p1,_⟩:=I.list hq
  obtain ⟨jts,_,p2,_⟩:=I.list hq2
  have hl:=rv.length
  refine wpAny_pyNext_zip_end (I.ok.hd hc) D s1 s2 s3 s4 s5 p1.isList p2.isList (.inl (by simp;omega)) λg gk=>⟨rfl,qo0 (tk:=s.toks) I hf λc o hc q=>?_⟩
  have hc':¬ (c=z\/c=ti\/c=to\/c=i1\/c=i2):=by simpa using hc
  exact gk c o (λe=>hc' (.inl e)) (λe=>hc' (.inr (.inr (.inl e)))) (λe=>hc' (.inr (.inr (.inr (.inl e))))) (λe=>hc' (.inr (.inr (.inr (.inr e))))) q
 self:=λ_ _ _ _ _ st h=>wpAny_pyIter_zip st.1 h
section
variable {X:Cx} {elts:List Expr} {k:Nat} {tpos:Pos} {a b:Expr} {ta:TA} {p pos:Pos}
theorem vals2 {x y:V} {us:List Value} (r:Vals [x,y] us):∃ u v,us=[u,v]/\RelV x u/\RelV y v:=r.two
theorem qut (hg:Gl X "zip") (hm:X.mg "zip" = none) (ha:PA X [a,b] ta) (hs:starEach [a,b] X.env=(false,eval a X.env)::starEach [b] X.env:=by rfl) (hpl:(backTo pos (starEach [b] X.env)).any (·.1)=false:=by rfl):PI X (.Tuple elts k tpos) (.Call (.Name "zip" p) [a,b] [] pos) (qvm X.K ta):=by
 intro pins s σ H R I h
 refine Call_ (qd8 I hg hm quc (PyProof.Rows.callWith_type1 (thn (ha pos pins s σ H _ I h) λus s1 ⟨vs,H1,I1,r1,q1⟩=>?_) hs hpl))
 obtain ⟨l1,l2,rfl,⟨xs,hq⟩,⟨ys,hq2⟩,q⟩:=q1
 obtain ⟨u,v,rfl,ru,rv⟩:=vals2 r1
 cases ru
 cases rv
 obtain ⟨its,_,p1,_⟩:=I1.list hq
 obtain ⟨jts,_,p2,_⟩:=I1.list hq2
 refine call_zip_2 p1.isList p2.isList λg z1 z2 z3 z4 z5 _ gk=>?_
 have I2:Inv X pins σ H1 { s1 with heap:=g }:=I1.kept (t':=s1.toks) gk
 have n1:@LT.lt Nat _ l1 s1.heap.objs.size:=p1.lt
 have n2:@LT.lt Nat _ l2 s1.heap.objs.size:=p2.lt
 have D:ZipApart (s1.heap.objs.size+4) (s1.heap.objs.size+2) (s1.heap.objs.size+3) s1.heap.objs.size (s1.heap.objs.size+1) l1 l2:=by
  constructor <;> (show (_:Nat)≠_;omega)
 refine wpAny_pyIter_zip z1 ⟨_,[s1.heap.objs.size+4,s1.heap.objs.size+2,s1.heap.objs.size+3,s1.heap.objs.size,s1.heap.objs.size+1],_,_,H1,rfl,I2,qqV D,⟨z1,z2,⟨_,_,z3⟩,z4,z5⟩,λc hc=>?_,q⟩
 have hc':s1.heap.objs.size<=c:=by
  have z:c=s1.heap.objs.size+4\/c=s1.heap.objs.size+2\/c=s1.heap.objs.size+3\/c=s1.heap.objs.size\/c=s1.heap.objs.size+1:=by simpa using hc
  rcases z with z | z | z | z | z <;> rw [z] <;> first | exact Nat.le_add_right _ _ | exact wac _
 exact I1.fpOk hc' (I1.hok.fresh hc')
end
theorem quu:bootBuiltins "any" = some (.builtin "any"):=by decide +kernel
theorem qdM:∀ {ns:List Int} {us:List Value} {i:Nat} {u:Value},Vals (ns.map V.int) us->us[i]?=some u->∃ n t,ns[i]?=some n/\u=Value.int n t
 | [],_,_,_,.nil,e=>by simp at e
 | n::ns,_,0,_,.cons r _,e=>by
   simp at e;subst e
   obtain ⟨t,rfl⟩:=r
   exact ⟨n,t,rfl,rfl⟩
 | _::ns,_,i+1,u,.cons _ r,e=>by
   obtain ⟨n,t,h1,h2⟩:=qdM (i:=i) (u:=u) r (by simpa using e)
   exact ⟨n,t,by simpa using h1,h2⟩
section
variable {X:Cx}
theorem qo2 (hc:X.calm=true):qdz X (.builtin "any") qqU:=λpins s σ H xs us Q I r ⟨p,ns,e,hp,q⟩=>by
 subst e
 obtain ⟨u,rfl,ru⟩:=qfh r
 cases ru
 obtain ⟨its,rv,pl,hz⟩:=I.list (SqL.of hp)
 have hl:ns.length=its.length:=by have:=rv.length;simpa using this
 refine call_any_walk (wpAny_pyIter_list pl.isList ⟨s.heap.objs.size,[s.heap.objs.size,p],[s.heap.objs.size],its.toArray.size,_,_,λi=>!decide (ns.getD i 0=0),rfl,Walks.list (A:=X.A.in1) (show X.A.in1.handled=none from I.ok.hd hc) s.heap.objs.size p (wao pl.lt) _,⟨⟨_,Heap.get?_push_size _ rfl,rfl,rfl⟩,pl.isList.push _⟩,?_,λg tk gk=>?_⟩)
 ·intro i v s' Q' E' hP hQ
  obtain ⟨n,t,h1,rfl⟩:=qdM rv (show its[i]?=some v by simpa using hP)
  have e:ns.getD i 0=n:=by rw [wab,h1];rfl
  replace hQ:Q' (!decide (ns.getD i 0=0)) s':=hQ
  rw [e] at hQ
  refine PySem.P.truthy_int ?_
  have e2:(n != 0)=!decide (n=0):=by rw [Bool.eq_iff_iff];simp
  rw [e2]
  exact hQ
 ·have kk:∀ b o,s.heap.get? b=some o->g.get? b=some o:=λb o e=>gk b o (λz=>absurd (Heap.lt_size e) (by rw [wag.mp z];exact wa6 _)) (Heap.get?_push_of_some _ e)
  refine ⟨_,H,I.kept kk,?_,q⟩
  show Value.bool _=Value.bool _
  congr 1
  rw [Bool.eq_iff_iff]
  simp only [List.any_eq_true,wbp,waj]
  constructor
  ·rintro ⟨i,hi,h⟩
   have hi2:i<ns.length:=by omega
   rw [wab,waf hi2] at h
   exact ⟨ns[i],wbf hi2,h⟩
  ·rintro ⟨x,hx,h⟩
   obtain ⟨i,hi,rfl⟩:=wck hx
   refine ⟨i,⋯,?_⟩
   rw [wab,waf hi]
   exact h
end
section
variable {prog:Program} {w:World} {A:Around} {R:Result->Shared->Prop} {I:Addr} {fp wr:List Addr} {n:Nat} {P:Nat->Value->Prop} {St:Nat->Heap->Prop} {d:Value}
theorem qhN (W:Walks prog w A.in1 I fp wr n P St) (bt:Nat->Nat->Bool) (hcmp:CmpOf prog w A.in1 .Lt P bt) (S:Addr) (hSf:S∉fp):∀ (k j q:Nat) (s:Shared) (vb:Value) (c:Nat),n - j=k->j<=n->St j s.heap->q<n->P q vb->
  s.heap.get? S=some { cls:=.type "list", dict:=none,data:=.seq #[vb,vb] c,slots:=#[] }->
  (∀ q v h' tk,q<n->P q v->(∀ b o,b∉wr->b≠S->s.heap.get? b=some o->h'.get? b=some o)->R (.ok (.ret v)) { s with heap:=h',toks:=tk })->
  codeAny (model prog w) A (.builtin "min.loop" ⟨[.ref I,.none,.ref S],[("default", d)]⟩) R s
 | 0,j,q,s,vb,c,hk,hj,hst,hq,hPb,hS,hR=>by
   have jn:j=n:=by omega
   refine codeAny_builtin F.entry_min_loop ?_
   rw [Around.under_plainId F.plain_min_loop _]
   refine wpAny_bind (m:=seqItems? (.ref S)) (wpAny_seqItems hS rfl ?_)
   refine wpAny_bind (m:=tryCatch (pyNext (.ref I)) _) (wpAny_tryCatch (W.done s _ _ (jn ▸ hst) λh' tk kp=>?_))
   have hS2:=kp S _ (λz=>hSf (W.sub _ z)) hS
   refine wpAny_bind (m:=updateSeq S (λ_=>#[])) (wpAny_updateSeq hS2 rfl (wpAny_bind (wpAny_letGo (wpAny_pure ?_))))
   exact hR q vb _ tk hq hPb λb o h1 h2 e=>(Heap.get?_update_other _ _ h2.symm).trans (kp b o h1 e)
 | k+1,j,q,s,vb,c,hk,hj,hst,hq,hPb,hS,hR=>by
   have jn:j<n:=by omega
   refine codeAny_builtin F.entry_min_loop ?_
   rw [Around.under_plainId F.plain_min_loop _]
   refine wpAny_bind (m:=seqItems? (.ref S)) (wpAny_seqItems hS rfl ?_)
   refine wpAny_bind (m:=tryCatch (pyNext (.ref I)) _) (wpAny_tryCatch (W.item j s _ _ jn hst λv h' tk hP hst' kp=>?_))
   have hS2:=kp S _ (λz=>hSf (W.sub _ z)) hS
   refine wpAny_bind (m:=tryCatch (holding [v,v] (richCompare .Lt v vb >>= _)) _) (wpAny_tryCatch (wpAny_holding (wpAny_bind (hcmp j q v vb _ _ _ hP hPb ?_))))
   refine wpAny_bind (wpAny_holding (wpAny_truthy_bool (wpAny_bind (wpAny_letGo (wpAny_pure ?_)))))
   have nm:(toString "min" ++ toString ".loop" : String) = "min.loop" := by decide
   cases bt j q with
   | true=>
     simp only [if_true]
     refine wpAny_bind (wpAny_updateSeq hS2 rfl (wpAny_bind (wpAny_letGo ?_)))
     rw [nm]
     refine wpAny_pure ⟨plainId_quiet F.plain_min_loop _,qhN W bt hcmp S hSf k (j+1) j _ v _ ⋯ ⋯ (W.frame _ _ _ hst' λb hb o e=>(Heap.get?_update_other _ _ (λz:S=b=>hSf (by rw [z];exact hb))).trans e) jn hP (Heap.get?_update_self _ hS2 rfl) λq' v' h2 tk2 hq' hP' kp2=>?_⟩
     exact hR q' v' h2 tk2 hq' hP' λb o h1 h3 e=>kp2 b o h1 h3 ((Heap.get?_update_other _ _ h3.symm).trans (kp b o h1 e))
   | false=>
     simp only [Bool.false_eq_true,if_false]
     refine wpAny_bind (wpAny_letGo ?_)
     rw [nm]
     exact wpAny_pure ⟨plainId_quiet F.plain_min_loop _,qhN W bt hcmp S hSf k (j+1) q _ vb c ⋯ ⋯ hst' hq hPb hS2 λq' v' h2 tk2 hq' hP' kp2=>hR q' v' h2 tk2 hq' hP' λb o h1 h3 e=>kp2 b o h1 h3 (kp b o h1 e)⟩
theorem qnE (W:Walks prog w A.in1 I fp wr n P St) (bt:Nat->Nat->Bool) (hcmp:CmpOf prog w A.in1 .Lt P bt) (S:Addr) (hSf:S∉fp) {s:Shared} {c:Nat} (hst:St 0 s.heap)
  (hS:s.heap.get? S=some { cls:=.type "list", dict:=none,data:=.seq #[] c,slots:=#[] })
  (hR:∀ v h' tk,(n=0/\v=d\/∃ q,q<n/\P q v)->(∀ b o,b∉wr->b≠S->s.heap.get? b=some o->h'.get? b=some o)->R (.ok (.ret v)) { s with heap:=h',toks:=tk }) :
  codeAny (model prog w) A (.builtin "min.loop" ⟨[.ref I,.none,.ref S],[("default", d)]⟩) R s:=by
 refine codeAny_builtin F.entry_min_loop ?_
 rw [Around.under_plainId F.plain_min_loop _]
 refine wpAny_bind (m:=seqItems? (.ref S)) (wpAny_seqItems hS rfl ?_)
 rcases wbj n with z | z
 ·refine wpAny_bind (m:=tryCatch (pyNext (.ref I)) _) (wpAny_tryCatch (W.done s _ _ (z ▸ hst) λh' tk kp=>?_))
  refine wpAny_bind (wpAny_rule (wpAny_pure ?_))
  exact hR d h' tk (.inl ⟨z,rfl⟩) λb o h1 _ e=>kp b o h1 e
 ·refine wpAny_bind (m:=tryCatch (pyNext (.ref I)) _) (wpAny_tryCatch (W.item 0 s _ _ z hst λv h' tk hP hst' kp=>?_))
  have hS2:=kp S _ (λz=>hSf (W.sub _ z)) hS
  have nm:(toString "min" ++ toString ".loop" : String) = "min.loop" := by decide
  refine wpAny_bind (m:=updateSeq S (λ_=>#[v,v])) (wpAny_updateSeq hS2 rfl ?_)
  rw [nm]
  refine wpAny_pure ⟨plainId_quiet F.plain_min_loop _,qhN W bt hcmp S hSf _ 1 0 _ v _ rfl z (W.frame _ _ _ hst' λb hb o e=>(Heap.get?_update_other _ _ (λz:S=b=>hSf (by rw [z];exact hb))).trans e) z hP (Heap.get?_update_self _ hS2 rfl) λq' v' h2 tk2 hq' hP' kp2=>?_⟩
  exact hR v' h2 tk2 (.inr ⟨q',hq',hP'⟩) λb o h1 h3 e=>kp2 b o h1 h3 ((Heap.get?_update_other _ _ h3.symm).trans (kp b o h1 e))
end
theorem qo3 (a v:Value):argsOk "min" ⟨[a],[("default", v)]⟩:=by unfold argsOk;kernel_rfl
section
variable {X:Cx} {e:Expr} {te:TE} {p pos kp1 kp2:Pos} {kk:Nat}
theorem qsI (hc:X.calm=true) (hm:X.mg "min" = none) (hv:bootBuiltins "min" = some (.builtin "min")) (ha:PE X e te) (hg:Gl X "min" := by rfl)
  (hs:starEach [e] X.env=(false,eval e X.env)::starEach [] X.env:=by rfl) (hb:backTo pos (starEach [e] X.env)=(false,eval e X.env)::backTo pos (starEach [] X.env):=by rfl):PE X (.Call (.Name "min" p) [e] [⟨some "default", .Constant (.int 0) kk kp1,kp2⟩] pos) (qqT te):=by
 intro pins s σ H Q I h
 refine wpAny_Call_Name_kw (qd8 I hg hm hv ?_ ∅ ∅)
 refine PyProof.Rows.callWith_kw ?_ hb (by rw [hb];rfl)
 rw [hb]
 refine Calls.spliced_cons (thn (ha pins s σ H _ I h) λu s1 ⟨x,H1,I1,r1,q1⟩=>Calls.spliced_nil ?_)
 have kw:PK X [⟨some "default", .Constant (.int 0) kk kp1,kp2⟩] (qab (tC (.int 0)) qan):=qop qad qrH
 refine thn (kw pos pins s1 σ H1 (λvs H2=>vs=[.int 0]/\H2=H1) I1 ⟨rfl,rfl⟩) λws s2 ⟨zs,H2,I2,rz,ez,eh⟩=>?_
 subst ez eh
 obtain ⟨z,rfl,t,rfl⟩:=qfh rz
 obtain ⟨l,ns,rfl,hl,q⟩:=q1
 cases r1
 obtain ⟨its,rv,pl,hz⟩:=I2.list (SqL.of hl)
 have hle:ns.length=its.length:=by have:=rv.length;simpa using this
 have nm:(toString "min" ++ toString ".loop" : String) = "min.loop" := by decide
 refine kmb_tree F.kind_min F.plain_min F.entry_min (qo3 _ _) ?_
 refine wpAny_bind (m:=Builtin.Builtins.bindParams "min" ["key", "default"] 0 ⟨[],[("default", Value.int 0 t)]⟩) (wpAny_of_eq (a:=[none,some (Value.int 0 t)]) rfl ?_)
 refine wpAny_bind (wpAny_pure (wpAny_bind (wpAny_pyIter_list pl.isList ?_)))
 refine wpAny_bind (wpAny_newObj_type ?_)
 rw [nm]
 have lp:l<s2.heap.objs.size:=pl.lt
 have nS:(s2.heap.push { cls:=.type "list_iterator", data:=.fields #[.ref l,.int 0 0] }).objs.size=s2.heap.objs.size+1:=Heap.size_push ..
 have W:=Walks.list (prog:=X.prog) (w:=X.w) (A:=X.A.in1) (show X.A.in1.handled=none from I2.ok.hd hc) s2.heap.objs.size l (wao lp) its.toArray
 refine wpAny_pure ⟨plainId_quiet F.plain_min_loop _,qnE W _ (CmpOf.ints_lt (λi=>ns.getD i 0) λi v hP=>?_) _ ?_ ⟨⟨_,Heap.get?_push_of_some _ (Heap.get?_push_size _ rfl),rfl,rfl⟩,(pl.isList.push _).push _⟩ (Heap.get?_push_size _ rfl) λv g tk hv2 gk=>?_⟩
 ·obtain ⟨n,t2,h1,rfl⟩:=qdM rv (show its[i]?=some v by simpa using hP)
  exact ⟨t2,by rw [wab,h1];rfl⟩
 ·rw [nS]
  have:¬ (s2.heap.objs.size+1=s2.heap.objs.size\/s2.heap.objs.size+1=l):=λz=>by
   rcases z with z | z
   ·exact absurd z (Nat.succ_ne_self _)
   ·rw [<-z] at lp;exact absurd lp (Nat.not_lt.mpr (Nat.le_succ _))
  simpa using this
 ·have kk2:∀ b o,s2.heap.get? b=some o->g.get? b=some o:=λb o e=>by
   have lb:b<s2.heap.objs.size:=Heap.lt_size e
   refine gk b o (λz=>?_) (λz=>?_) (Heap.get?_push_of_some _ (Heap.get?_push_of_some _ e))
   ·rw [wag.mp z] at lb;exact absurd lb (wa6 _)
   ·rw [z,nS] at lb;exact absurd lb (Nat.not_lt.mpr (Nat.le_succ _))
  have I3:=I2.kept (t':=tk) kk2
  rcases hv2 with ⟨z,rfl⟩ | ⟨i,hi,hP⟩
  ·exact ⟨.int 0,_,I3,⟨t,rfl⟩,q 0 (.inl ⟨way.mp (by rw [waj] at z;omega),rfl⟩)⟩
  ·obtain ⟨n,t2,h1,rfl⟩:=qdM rv (show its[i]?=some v by simpa using hP)
   exact ⟨.int n,_,I3,⟨t2,rfl⟩,q n (.inr (wat h1))⟩
end
end Bs
namespace Bs
open PySem PySem.Spec PyProof.Rows L2
section
variable {X:Cx} {pins:List (Addr×Obj)} {σ:L2.St} {H:Hp} {s:Shared} {N:List Str} {capt:List (Option Nat)} {scope:Scope} {cl:List (Str×Addr)} {C:Addr} {fp:List Addr}
theorem qk1 {prog:Program} {w:World} {A:Around} {R:Result->Shared->Prop} {s:Shared} {elt target iter c:Expr} {scope:Scope} {pos:Pos} {it acc:Value} {env:Env} (I:Nat->Shared->Prop)
  (turn:∀ n s,I n s->wpAny (model prog w) A (pyNext it) (λr s₁=>match r with
   | none=>R (.ok .next) s₁
   | some v=>wpAny (model prog w) A (letOwnedTupleGo target it v) (λ_ s₂=>wpAny (model prog w) A (assign target env v) (λ_ s₃=>wpAny (model prog w) A (isTrue c env (eval c env)) (λokb s₆=>if okb=true then wpAny (model prog w) A (eval elt env) (λx s₄=>
     wpAny (model prog w) A (call (.builtin "list.append") [acc,x]) (λ_ s₅=>∃ m,m<n/\I m s₅) (λ_ _=>False) s₄) (λ_ _=>False) s₆ else ∃ m,m<n/\I m s₆) (λ_ _=>False) s₃) (λ_ _=>False) s₂) (λ_ _=>False) s₁) (λ_ _=>False) s)
  (n:Nat) (h:I n s):codeAny (model prog w) A (.compLoop (.ListComp elt [⟨target,iter,[c],0⟩] scope pos) 0 it acc env) R s:=by
 refine codeAny_loop rfl I (λn s hI=>?_) n h
 show wpAny _ A ((compTurn (.ListComp elt [⟨target,iter,[c],0⟩] scope pos) 0 it acc env).onRaise (λx=>do noteFrame x env;theTreesLotGoes x)) _ _ s
 refine wpAny_noted ?_
 rw [compTurn_list]
 have no:∀ {E':Value->Shared->Prop} (e:Value) (s':Shared),(λ(_:Value) (_:Shared)=>False) e s'->E' e s':=λ_ _ f=>f.elim
 refine wpAny_bind (wpAny_standAt (wpAny_bind (wpAny_mono (turn n s hI) (λr s₁ h₁=>?_) no)))
 cases r with
 | none=>exact wpAny_pure h₁
 | some v=>
   refine wpAny_bind (wpAny_mono h₁ (λ_ s₂ h₂=>?_) no)
   refine wpAny_bind (wpAny_mono h₂ (λ_ s₆ h₆=>wpAny_bind (wpAny_tests_one (wpAny_mono h₆ (λokb s₃ h₃=>?_) no))) no)
   cases okb with
   | false=>exact wpAny_pure ⟨rfl,h₃⟩
   | true=>exact wpAny_bind (wpAny_bind (wpAny_mono h₃ (λx s₄ h₄=>wpAny_bind (wpAny_mono h₄ (λ_ s₅ h₅=>wpAny_pure (wpAny_pure ⟨rfl,h₅⟩)) no)) no))
theorem qnF {elt iter tg c:Expr} {tc:TT} {pos:Pos} {wi:TI} {g:TG} {te:TE} {pins:List (Addr×Obj)} {s:Shared} {σ:L2.St} {H:Hp} {Q:VK} (RR:Value->Addr->Result->Shared->Prop) (hc:X.calm=true) (B:BlkOk X N capt scope cl) (hi:PI X tg iter wi)
  (hg:∀ C s H fp,PG (blk X N scope cl C s H fp) tg g) (ht:∀ C s H fp,PT (blk X N scope cl C s H fp) c tc) (he:∀ C s H fp,PE (blk X N scope cl C s H fp) elt te) (I:Inv X pins σ H s) (h:qmP wi capt g tc te σ H Q)
  (fin:∀ (D C:Addr) (s4:Shared) (Hq:Hp) (m:Str->Option Value),Inv X pins σ Hq s4->Q (.ref D) Hq->s4.heap.Ns C m->Hq C=none->C≠X.env.locals->X.s₀.heap.objs.size<=C->(∀ x c,X.env.cells.lookup x=some c->c≠C)->(∀ p∈X.pn++pins,p.1≠C)->RR (.ref D) C (.ok .next) s4) :
  wpAny (model X.prog X.w) X.A (eval iter X.env) (λx s₁=>wpAny (model X.prog X.w) X.A (pyIter x) (λit s₂=>wpAny (model X.prog X.w) X.A (newList []) (λacc s₃=>
   wpAny (model X.prog X.w) X.A (newFunctionEnv scope X.env.globals cl [] X.env.qual none .none (some X.env)) (λcenv s₄=>
    codeAny (model X.prog X.w) X.A (.compStart (.ListComp elt [⟨tg,iter,[c],0⟩] scope pos) 0 it acc { cenv with scope:=relabel scope X.env }) (RR acc cenv.locals) s₄) X.xe s₃) X.xe s₂) X.xe s₁) X.xe s:=by
 refine thn (hi pins s σ H _ I h) λv s1 h1=>thn h1 λitv s2 h2=>?_
 obtain ⟨it,fp,tn,J,H2,e,I2,T,st2,f2,n0,W,w0,turn⟩:=h2
 subst e
 have fl:∀ b∈fp,b<s2.heap.objs.size:=λb hb=>by obtain ⟨o,e,_⟩:=T.obj _ _ st2 b hb;exact Heap.lt_size e
 refine wpAny_newObj_type (wpAny_newFunctionEnv B.nocell (by intro y hy;simp at hy) (λh₁ hns₁ hsb₁=>?_) B.kind)
 dsimp only at hns₁ hsb₁ ⊢
 generalize hG:s2.heap.push { cls:=.type "list", dict:=none,data:=.seq ([]:List Value).toArray }=G at hns₁ hsb₁ ⊢
 have hC:G.objs.size=s2.heap.objs.size+1:=by rw [<-hG,Heap.size_push]
 have hCle:s2.heap.objs.size<=G.objs.size:=by rw [hC];exact Nat.le_succ _
 have hDC:s2.heap.objs.size≠G.objs.size:=by rw [hC];exact wao (wb6 _)
 have old:∀ b o,s2.heap.get? b=some o->h₁.get? b=some o:=λb o e=>hsb₁.extBut b o (by rw [hC];exact wao (Nat.lt_succ_of_lt (Heap.lt_size e))) (Heap.get?_push_of_some _ (hG ▸ Heap.get?_push_of_some _ e))
 have hacc:h₁.get? s2.heap.objs.size=some { cls:=.type "list", data:=.seq ([]:List Value).toArray }:=hsb₁.extBut _ _ hDC (Heap.get?_push_of_some _ (hG ▸ Heap.get?_push_size _ rfl))
 have ok':=qoR B I2 f2 fl hCle
 have nsD:s2.heap.objs.size∉frs X.stack:=λhb=>by
  rcases was.mp (I2.stkSub _ hb) with z | z
  ·exact absurd I2.lt (by rw [<-z];exact wa6 _)
  ·exact I2.nofs (wac _) z
 have ncD:∀ x c,cl.lookup x=some c->c≠s2.heap.objs.size:=λx c e z=>by
  obtain ⟨v,q⟩:=I2.cell x c (B.cells x c e)
  exact absurd q.lt (by rw [z];exact wa6 _)
 have nfD:∀ b∈fp,s2.heap.objs.size≠b:=λb hb z=>absurd (fl b hb) (by rw [<-z];exact wa6 _)
 have I₁:Inv (blk X N scope cl G.objs.size s2 H2 fp) [] (qcK capt σ) H2 { s2 with heap:=h₁,toks:=s2.toks+([]:List (Str×Value)).length }:=qoS B I2 f2 fl hCle hns₁ old
 have loop:codeAny (model X.prog X.w) X.A (.compLoop (.ListComp elt [⟨tg,iter,[c],0⟩] scope pos) 0 (.ref it) (.ref s2.heap.objs.size) (compEnvC scope cl G.objs.size X.env))
   (RR (.ref s2.heap.objs.size) G.objs.size) { s2 with heap:=h₁,toks:=s2.toks+([]:List (Str×Value)).length }:=by
  refine qk1 (λn s'=>∃ (i:Nat) (ys:List V) (its:List Value) (k:Nat) (Hc:Hp),Inv (blk X N scope cl G.objs.size s2 H2 fp) [] (qcK capt σ) Hc s'/\s'.heap.get? s2.heap.objs.size=some { cls:=.type "list", data:=.seq its.toArray k }/\Vals ys its/\
   Hc s2.heap.objs.size=none/\tn i s'.heap/\(∀ b∈fp,Hc b=none)/\W i ys Hc/\n=n0 - i) ?_ n0 ⟨0,[],[],0,H2,I₁,hacc,.nil,I2.hok.fresh (wac _),T.keep _ _ _ st2 (λb _ o e=>old b o e),λb hb=>(f2 b hb).1,w0,rfl⟩
  rintro n s3 ⟨i,ys,its,k,Hc,I3,hD,hv,nD,st3,fr3,w3,en⟩
  obtain ⟨_,hl,step⟩:=turn i ys Hc w3
  have hz:its.toArray.size<=sizeLine:=by rw [waj,<-hv.length];exact hl
  have I3p:Inv (blk X N scope cl G.objs.size s2 H2 fp) [(s2.heap.objs.size,{ cls:=.type "list", data:=.seq its.toArray k })] (qcK capt σ) Hc s3:=I3.pins_of λp hp=>by
   rw [wag] at hp
   subst hp
   exact ⟨hD,nD,hDC,nsD,λv z=>nomatch z⟩
  have fo3:∀ {Hx:Hp} (_:∀ b∈fp,Hx b=none),∀ b∈fp,qlO (blk X N scope cl G.objs.size s2 H2 fp) [(s2.heap.objs.size,{ cls:=.type "list", data:=.seq its.toArray k })] Hx b:=λhx b hb=>
   ⟨hx b hb,(ok'.exf b hb).1,ok'.exfs b hb,.inl hb,(ok'.exf b hb).2,λp hp=>by
    have hp':p∈[((s2.heap.objs.size,{ cls:=.type "list", data:=.seq its.toArray k }):Addr×Obj)]:=hp
    rw [wag] at hp'
    subst hp'
    exact nfD b hb⟩
  rcases step with ⟨stop,q⟩ | ⟨ltn,go,nxt⟩
  ·refine thn (T.done (blk X N scope cl G.objs.size s2 H2 fp) rfl rfl rfl hc i _ s3 _ Hc _ I3p (fo3 fr3) st3 stop) λr s4 ⟨hr,I4⟩=>?_
   subst hr
   have hD4:=(I4.pin (s2.heap.objs.size,{ cls:=.type "list", data:=.seq its.toArray k }) (wa3 _ (wag.mpr rfl))).1
   obtain ⟨m,hn,_⟩:=I4.loc
   have nDt:∀ b u,Hc b=some u->b≠s2.heap.objs.size:=λb u e z=>by rw [z,nD] at e;cases e
   have oldC:∀ b o,s2.heap.get? b=some o->b≠s2.heap.objs.size:=λb o e=>wao (Heap.lt_size e)
   have ub:Un (frs X.stack) fp H2 Hc s2.heap s4.heap:=I4.base
   have cC:∀ b,b<s2.heap.objs.size->b≠G.objs.size:=λb hb z=>absurd (wau hb hCle) (by rw [z];exact wa6 _)
   refine fin _ G.objs.size s4 (upd Hc s2.heap.objs.size (.lst ys)) m ?_ (q _ nD) hn (by rw [qaC (λz=>hDC z.symm)];exact I4.free) (λz=>cC _ I2.lt z.symm) (wap I2.sz hCle)
    (λx c e=>by obtain ⟨v,q⟩:=I2.cell x c e;exact cC _ q.lt) λp hp=>cC _ (Heap.lt_size (I2.pin p hp).1)
   refine I2.call' (ch:=fp) (s':=s4) I4.os ?_ ?_ I4.bare λb hb=>⟨(f2 b hb).2.2.2.1,(f2 b hb).2.1,(f2 b hb).2.2.2.2.1,(f2 b hb).2.2.2.2.2⟩
   ·refine ⟨ub.keep,ub.slot,λb o e n hx=>?_,ub.there,λb xs e=>?_,λb o u e=>?_,λb ps e=>?_⟩
    ·rw [qaC (oldC b o e)];exact ub.free b o e n hx
    ·have z:=ub.tups b xs e
     rw [qaC (nDt b _ z)];exact z
    ·have z:=ub.frzs b o u e
     rw [qaC (nDt b _ z)];exact z
    ·obtain ⟨more,z⟩:=ub.tbls b ps e
     exact ⟨more,by rw [qaC (nDt b _ z)];exact z⟩
   ·intro b u e
    by_cases hb:b=s2.heap.objs.size
    ·subst hb
     rw [qah] at e
     cases e
     exact ⟨hl,its,k,hv,hD4⟩
    ·rw [qaC hb] at e
     exact (I4.hok b u e).stay (λc v _ q=>q) (λc q=>by rw [qaC (nDt c _ q)];exact q) λc xs q=>by rw [qaC (nDt c _ q)];exact q
  ·refine thn (T.item (blk X N scope cl G.objs.size s2 H2 fp) rfl rfl rfl hc i _ s3 _ Hc _ I3p (fo3 fr3) st3 go) λr s4 ⟨u,hr,h4⟩=>?_
   subst hr
   refine thn h4 λ_ s5 ⟨x,H5,I5,r5,y5,st5,fr5⟩=>?_
   have I5':=I5.pinned (fo3 fr5) (T.obj _ _ st5)
   refine thn (hg _ _ _ _ _ s5 _ H5 x u _ I5' r5 (nxt x H5 y5)) λ_ s6 ⟨σ6,H6,I6,q6⟩=>?_
   refine thn (ht _ _ _ _ _ s6 σ6 H6 _ I6 q6) λokb s9 ⟨H9,I9,q9⟩=>?_
   have pF9:∀ b∈fp,∀ o,s5.heap.get? b=some o->s9.heap.get? b=some o/\H9 b=none:=λb hb o e=>by
    have z:=I9.pin (b,o) (wa3 _ (wa3 _ (qdy hb e)))
    exact ⟨z.1,z.2.1⟩
   cases okb with
   | false=>
     have w9:W (i+1) ys H9:=q9
     have pD9:=I9.pin (s2.heap.objs.size,{ cls:=.type "list", data:=.seq its.toArray k }) (wa3 _ (wbz _ (wag.mpr rfl)))
     have I9n:Inv (blk X N scope cl G.objs.size s2 H2 fp) [] σ6 H9 s9:=I9.pins_of λp hp=>nomatch hp
     exact ⟨n0 - (i+1),⋯,i+1,ys,its,k,H9,qhJ B I2 f2 I9n,pD9.1,hv,pD9.2.1,T.keep _ _ _ st5 (λb hb o e=>(pF9 b hb o e).1),(λb hb=>by
      obtain ⟨o,e,_⟩:=T.obj _ _ st5 b hb
      exact (pF9 b hb o e).2),w9,rfl⟩
   | true=>
   replace q9:te σ6 H9 λy H4=>W (i+1) (ys++[y]) H4:=q9
   refine thn (he _ _ _ _ _ s9 σ6 H9 _ I9 q9) λuy s7 ⟨y,H7,I7,r7,w7⟩=>?_
   have pD:=I7.pin (s2.heap.objs.size,{ cls:=.type "list", data:=.seq its.toArray k }) (wa3 _ (wbz _ (wag.mpr rfl)))
   have pF:∀ b∈fp,∀ o,s5.heap.get? b=some o->s7.heap.get? b=some o/\H7 b=none:=λb hb o e=>by
    have z:=I7.pin (b,o) (wa3 _ (wa3 _ (qdy hb e)))
    exact ⟨z.1,z.2.1⟩
   refine append_at (hsz:=hz) pD.1 λh8 sb8 hD8=>?_
   have I7n:Inv (blk X N scope cl G.objs.size s2 H2 fp) [] σ6 H7 s7:=I7.pins_of λp hp=>nomatch hp
   have I8:Inv (blk X N scope cl G.objs.size s2 H2 fp) [] σ6 H7 { s7 with heap:=h8,toks:=s7.toks }:=I7n.turned (λb o hb e=>sb8.extBut b o hb e) pD.2.1 hDC (.inr (wac _)) ncD (λp hp=>nomatch hp)
   refine ⟨n0 - (i+1),⋯,i+1,ys++[y],its++[uy],k+1,H7,qhJ B I2 f2 I8,?_,Paired.snoc hv r7,pD.2.1,T.keep _ _ _ st5 (λb hb o e=>sb8.extBut b o (nfD b hb).symm (pF b hb o e).1),λb hb=>?_,w7,rfl⟩
   ·show h8.get? _=_
    rw [hD8,List.push_toArray]
   ·obtain ⟨o,e,_⟩:=T.obj _ _ st5 b hb
    exact (pF b hb o e).2
 exact codeAny_compStart_list loop (T.self X.A 0 _ _ _ (T.keep _ _ _ st2 (λb _ o e=>old b o e)) loop)
theorem qqW {elt iter tg c:Expr} {tc:TT} {pos:Pos} {wi:TI} {g:TG} {te:TE} (hc:X.calm=true) (B:BlkOk X N capt scope cl) (hi:PI X tg iter wi)
  (hg:∀ C s H fp,PG (blk X N scope cl C s H fp) tg g) (ht:∀ C s H fp,PT (blk X N scope cl C s H fp) c tc) (he:∀ C s H fp,PE (blk X N scope cl C s H fp) elt te)
  (hs:∀ x,foldedSetIterable iter X.env x=pure x:=by intro _;rfl):PE X (.ListComp elt [⟨tg,iter,[c],0⟩] scope pos) (qmP wi capt g tc te):=by
 intro pins s σ H Q I h
 rw [eval_ListComp]
 refine wpAny_comprehension_free (use:=none) rfl hs B.clos B.kind B.names (qnF (λacc C=>compPost (model X.prog X.w) X.A X.xe none (EP X pins σ Q) acc C) hc B hi hg ht he I h λD C s4 Hq m I4 q hn hf h1 h2 h3 h4=>?_)
 exact ⟨m,hn,λh' sb=>⟨.ref D,Hq,I4.turned (λb o hb e=>sb.extBut b o hb e) hf h1 (.inr h2) h3 h4,rfl,q⟩⟩
end
end Bs
namespace Bs
open PySem L2
noncomputable def sS (K:W.Frag):V->Option Int->Option Int->Hp->VK->Prop:=λx lo hi H Q=>∃ a xs,x=.ref a/\SqL K H a xs/\∀ p,H p=none->Q (.ref p) (upd H p (.lst (qhw xs lo hi)))
noncomputable def qo4:List V->Hp->VK->Prop:=λxs H Q=>∃ (p:Addr) (ns:List Int),xs=[.ref p]/\H p=some (.lst (ns.map V.int))/\Q (.int ns.sum) H
end Bs
namespace Bs
open PySem PySem.Spec PyProof.Rows L2
section
variable {X:Cx}
theorem qk2:SlR X (sS X.K):=qos
theorem qhO (ns:List Int):∀ k,k<=ns.length->preSum (λi=>ns.getD i 0) k=(ns.take k).sum
 | 0,_=>rfl
 | k+1,h=>by
   have e:ns.take (k+1)=ns.take k++[ns.getD k 0]:=by
    rw [wbl,wab,waf ⋯];rfl
   show preSum _ k+_=_
   rw [e,qhO ns k ⋯,List.sum_append]
   simp
theorem qk3 (hc:X.calm=true):qdz X (.builtin "sum") qo4:=λpins s σ H xs us Q I r ⟨p,ns,e,hp,q⟩=>by
 subst e
 obtain ⟨u,rfl,ru⟩:=qfh r
 cases ru
 obtain ⟨its,rv,pl,hz⟩:=I.list (SqL.of hp)
 have hl:ns.length=its.length:=by have:=rv.length;simpa using this
 refine call_sum_walkG (wpAny_pyIter_list pl.isList ⟨s.heap.objs.size,[s.heap.objs.size,p],[s.heap.objs.size],its.toArray.size,_,_,λi=>ns.getD i 0,rfl,Walks.list (A:=X.A.in1) (show X.A.in1.handled=none from I.ok.hd hc) s.heap.objs.size p (wao pl.lt) _,⟨⟨_,Heap.get?_push_size _ rfl,rfl,rfl⟩,pl.isList.push _⟩,?_,?_,λg tk t gk=>?_⟩)
 ·intro b hb
  have z:b=s.heap.objs.size\/b=p:=by simpa using hb
  rcases z with z | z
  ·rw [z];exact Heap.lt_size (Heap.get?_push_size _ rfl)
  ·obtain ⟨o,_,ho,_⟩:=pl
   rw [z];exact Heap.lt_size (Heap.get?_push_of_some _ ho)
 ·intro i v hP
  obtain ⟨n,t,h1,rfl⟩:=qdM rv (show its[i]?=some v by simpa using hP)
  have e:ns.getD i 0=n:=by rw [wab,h1];rfl
  exact ⟨t,by show Value.int n t=Value.int (ns.getD i 0) t;rw [e]⟩
 ·have kk:∀ b o,s.heap.get? b=some o->g.get? b=some o:=λb o e=>gk b o (λz=>absurd (Heap.lt_size e) (by rw [wag.mp z];exact wa6 _)) (Heap.get?_push_of_some _ e)
  refine ⟨.int ns.sum,H,I.kept kk,⟨t,?_⟩,q⟩
  have e:=qhO ns ns.length (wac _)
  rw [wa8] at e
  rw [waj,<-hl,e]
end
end Bs
namespace Bs
open PySem L2
noncomputable def quv (n:Nat) (t:TGs):TG:=λv σ H Q=>∃ a xs,v=.ref a/\H a=some (.lst xs)/\xs.length=n/\t xs σ H Q
end Bs
namespace Bs
open PySem PySem.Spec PyProof.Rows L2
theorem quw {m n:Nat} {a b:Int} (ha:Bd m a) (hb:Bd n b) (h:m+n<=134217728):IntMulOk a b:=IntMulOk.of_le (qoL ha) (qoL hb) h
end Bs
namespace Bs
open PySem L2
end Bs
namespace Bs
open PySem PySem.Spec PyProof.Rows L2
end Bs
namespace Bs
open PySem L2
end Bs
namespace Bs
open PySem PySem.Spec PyProof.Rows L2
end Bs
namespace Bs
open PySem L2
end Bs
namespace Bs
open PySem PySem.Spec PySem.Calls PyProof.Rows L2
section
variable {X:Cx}
theorem Inv.dK {pins:List (Addr×Obj)} {σ:L2.St} {H:Hp} {s:Shared} {p:Addr} {kvs:List (Key×V)} (I:Inv X pins σ H s) (h:H p=some (.dK kvs)) :
  kvs.length<=sizeLine/\(p == sysModules)=false/\∃ vs,KV kvs vs/\s.heap.DictOf (qjB X.prog X.w) p vs:=I.hok p _ h
end
end Bs
namespace Bs
open PySem PySem.Spec PySem.Calls PyProof.Rows L2
section
variable {X:Cx} {pos:Pos}
end
end Bs
namespace Bs
open PySem L2
noncomputable def qo5:V->List V->Hp->VK->Prop:=λx vs H Q=>∃ l xs y k,x=.ref l/\vs=[.int (k:Nat),y]/\H l=some (.lst xs)/\k<=xs.length/\xs.length<sizeLine/\Q .non (upd H l (.lst (xs.take k++y::xs.drop k)))
end Bs
namespace Bs
open PySem PySem.Spec PySem.Calls PyProof.Rows L2
section
variable {X:Cx}
theorem qo6:MtM X "list.insert" qo5:=by
 intro pins s σ H x vs v us Q I rx rv h
 obtain ⟨l,xs,y,k,rfl,rfl,hH,hk,hz,q⟩:=h
 cases rx
 obtain ⟨u,w',rfl,⟨t,rfl⟩,ry⟩:=rv.two
 obtain ⟨z,its,n,r,hl,e⟩:=I.lstM hH
 have k63:(k:Int)<2 ^ 63:=by have:=sizeLine_eq;omega
 have fit:¬ (!Builtin.List.listFitsIndex (k:Int))=true:=by rw [fitsIndex_both ⋯ k63];decide
 have zi:its.toArray.size<=sizeLine:=by rw [waj,<-hl];exact z
 generalize hi:(k:Int)=i at fit
 have M:=PySem.AutoSeq1.list_insert_list_int_val_1 l its.toArray n i t w' fit zi
 refine call_meets F.slot_list_insert ⟨_,e,rfl⟩ F.entry_list_insert (F.args_list_insert_3 _ _ _) M ⟨e,?_⟩
 subst hi
 refine ⟨.non,_,I.lset (its':=its.take k++w'::its.drop k) hH e ?_ ((r.take k).append (.cons ry (r.drop k))) ?_,rfl,q⟩
 ·show ((its.toArray.extract 0 (if (k:Int)<0 then ((k:Int)+(its.toArray.size:Int)).toNat else min (k:Int).toNat its.toArray.size)).push w'++its.toArray.extract (if (k:Int)<0 then ((k:Int)+(its.toArray.size:Int)).toNat else min (k:Int).toNat its.toArray.size))=_
  rw [if_neg ⋯,show min (k:Int).toNat its.toArray.size=k by rw [waj];omega]
  apply Array.ext'
  simp
  rw [List.take_of_length_le (by rw [List.length_drop];exact wac _)]
 ·simp
  omega
end
end Bs
namespace Bs
open PySem PySem.Spec PyProof.Rows L2
end Bs
namespace Bs
open PySem PySem.Spec PyProof.Rows L2
end Bs
namespace Bs
open PySem L2
noncomputable def blN (i:Int):Nat:=if i=0 then 0 else i.natAbs.log2+1
noncomputable def qvY:R2:=rI (λi j=>0<=j/\(blN i:Int)+j<=134217728) λi j=>.int (i*2 ^ j.toNat)
noncomputable def qsJ:V->List V->Hp->VK->Prop:=λx xs H Q=>∃ i:Int,x=.int i/\xs=[]/\Q (.int (blN i)) H
noncomputable def qo7:List V->Hp->VK->Prop:=λxs H Q=>∃ (p:Addr) (ns:List Int),xs=[.ref p]/\H p=some (.lst (ns.map V.int))/\ns.length<64/\∀ (r:Addr) (ms:List Int),H r=none->ms.Perm ns->ms.Pairwise (·<=·)->Q (.ref r) (upd H r (.lst (ms.map V.int)))
noncomputable def qux (te:TE):TE:=λσ H Q=>te σ H λx H1=>∃ (p:Addr) (ns:List Int),x=.ref p/\H1 p=some (.lst (ns.map V.int))/\∀ M:Int,(ns=[]/\M=0\/M∈ns/\∀ z∈ns,z<=M)->Q (.int M) H1
end Bs
namespace Bs
open PySem PySem.Spec PyProof.Rows L2
section
variable {X:Cx}
theorem qo8:bootBuiltins "sorted" = some (.builtin "sorted"):=by decide +kernel
theorem qmR (i:Int):Builtin.Int.intBits i=blN i:=by unfold Builtin.Int.intBits blN;by_cases h:i=0 <;> simp [h]
theorem op_shl:OpR X (binaryOp .LShift) qvY:=opI λ_ _ _ _ _ _ _ hc q=>lshift_int hc.1 (by rw [qmR];exact hc.2) q
theorem qo9:MtR X "int.bit_length" qsJ:=by
 intro pins s σ H x xs v us Q I rx rv h
 obtain ⟨i,rfl,rfl,q⟩:=h
 obtain ⟨t,rfl⟩:=rx
 cases rv
 exact call_int_bit_length ⟨.int (blN i),H,I.tok _,⟨_,by rw [qmR]⟩,q⟩
theorem qsK:∀ {vs:List Value} {ns:List Int},Vals (ns.map V.int) vs->IntsAre vs ns:=by
 intro vs ns
 induction ns generalizing vs with
 | nil=>intro h;cases h;exact .nil
 | cons n ns ih=>intro h;cases h with | cons r t=>obtain ⟨k,rfl⟩:=r;exact .cons n k (ih t)
theorem qk4:qdz X (.builtin "sorted") qo7:=λpins s σ H xs us Q I r ⟨p,ns,e,hp,hl,q⟩=>by
 subst e
 obtain ⟨u,rfl,ru⟩:=qfh r
 cases ru
 obtain ⟨its,rv,pl,hz⟩:=I.list (SqL.of hp)
 have hle:ns.length=its.length:=by have:=rv.length;simpa using this
 obtain ⟨m,hn,_⟩:=id I.loc
 refine sorted_N (h₀:=Att.noObjs s.heap) (L:=X.env.locals) (m:=m) (news:=Att.ledger s.heap X.env.locals X.env.locals) (Att.fr_all hn) (λp hp=>?_) pl.isList (qsK rv) ⋯ λh' vs' ms c F N hv pm sr=>?_
 ·obtain ⟨n1,_,e⟩:=Att.mem_ledger.mp hp
  exact ⟨e,n1,Att.noObjs_get _ _⟩
 have kk:∀ b o,b≠X.env.locals->s.heap.get? b=some o->h'.get? b=some o:=λb o n e=>(N (b,o) (wa5 _ (Att.mem_ledger.mpr ⟨n,n,e⟩))).1
 have hD:h'.get? (s.heap.objs.size+1)=some (seqObj "list" vs'.toArray c):=(N _ (waq ..)).1
 have fr:H (s.heap.objs.size+1)=none:=I.hok.fresh (Nat.le_succ _)
 refine ⟨.ref _,_,?_,rfl,q (s.heap.objs.size+1) ms fr pm sr⟩
 have lm:=pm.length_eq
 refine I.step (g':=s.gens) (d':=s.drawn) (t':=s.toks) (ch:=[]) (λ_ z=>nomatch z) (λb o n _ _ e _=>kk b o n e) (λb o n _ _ e _=>⟨o.slots,kk b o n e⟩) (λb o _ e n=>?_) (λb o _ e=>?_) (λb xs e=>?_) (λb o u e=>?_) (λb ps e=>⟨#[],?_⟩) (λm' hm=>?_) (λb o e=>?_) I.bare
 ·rw [qaC (wao (Nat.lt_succ_of_lt (Heap.lt_size e)))];exact n
 ·by_cases hb:b=X.env.locals
  ·obtain ⟨o',_,_,e',_⟩:=F.ns
   exact ⟨o',by rw [hb];exact e'⟩
  ·exact ⟨o,kk b o hb e⟩
 ·rw [qaC (qaq e fr)];exact e
 ·rw [qaC (qaq e fr)];exact e
 ·rw [qaC (qaq e fr),e];simp
 ·rw [show m'=m from funext λx=>hm.agree hn x];exact F.ns
 ·by_cases hb:b=s.heap.objs.size+1
  ·subst hb
   rw [qah] at e;cases e
   exact ⟨by rw [waa];rw [waa] at hz;omega,vs',c,qhA hv,hD⟩
  ·rw [qaC hb] at e
   refine (I.hok b o e).stay (λc u hc e'=>kk c u ?_ e') (λc e'=>?_) λc xs e'=>?_
   ·rintro rfl
    rcases hc with z | z
    ·rw [<-z,I.free] at e;cases e
    ·rw [I.free] at z;cases z
   ·rw [qaC (qaq e' fr)];exact e'
   ·rw [qaC (qaq e' fr)];exact e'
end
section
variable {prog:Program} {w:World} {A:Around} {R:Result->Shared->Prop} {I:Addr} {fp wr:List Addr} {n:Nat} {P:Nat->Value->Prop} {St:Nat->Heap->Prop} {d:Value}
theorem qhP (W:Walks prog w A.in1 I fp wr n P St) (bt:Nat->Nat->Bool) (htr:∀ i j q,bt j q=true->bt i q=false->bt i j=false) (hirr:∀ i,bt i i=false) (hcmp:CmpOf prog w A.in1 .Gt P bt) (S:Addr) (hSf:S∉fp):∀ (k j q:Nat) (s:Shared) (vb:Value) (c:Nat),n - j=k->j<=n->St j s.heap->q<n->(∀ i,i<j->bt i q=false)->P q vb->
  s.heap.get? S=some { cls:=.type "list", dict:=none,data:=.seq #[vb,vb] c,slots:=#[] }->
  (∀ q v h' tk,q<n->(∀ i,i<n->bt i q=false)->P q v->(∀ b o,b∉wr->b≠S->s.heap.get? b=some o->h'.get? b=some o)->R (.ok (.ret v)) { s with heap:=h',toks:=tk })->
  codeAny (model prog w) A (.builtin "max.loop" ⟨[.ref I,.none,.ref S],[("default", d)]⟩) R s
 | 0,j,q,s,vb,c,hk,hj,hst,hq,hB,hPb,hS,hR=>by
   have jn:j=n:=by omega
   refine codeAny_builtin F.entry_max_loop ?_
   rw [Around.under_plainId F.plain_max_loop _]
   refine wpAny_bind (m:=seqItems? (.ref S)) (wpAny_seqItems hS rfl ?_)
   refine wpAny_bind (m:=tryCatch (pyNext (.ref I)) _) (wpAny_tryCatch (W.done s _ _ (jn ▸ hst) λh' tk kp=>?_))
   have hS2:=kp S _ (λz=>hSf (W.sub _ z)) hS
   refine wpAny_bind (m:=updateSeq S (λ_=>#[])) (wpAny_updateSeq hS2 rfl (wpAny_bind (wpAny_letGo (wpAny_pure ?_))))
   exact hR q vb _ tk hq (jn ▸ hB) hPb λb o h1 h2 e=>(Heap.get?_update_other _ _ h2.symm).trans (kp b o h1 e)
 | k+1,j,q,s,vb,c,hk,hj,hst,hq,hB,hPb,hS,hR=>by
   have jn:j<n:=by omega
   refine codeAny_builtin F.entry_max_loop ?_
   rw [Around.under_plainId F.plain_max_loop _]
   refine wpAny_bind (m:=seqItems? (.ref S)) (wpAny_seqItems hS rfl ?_)
   refine wpAny_bind (m:=tryCatch (pyNext (.ref I)) _) (wpAny_tryCatch (W.item j s _ _ jn hst λv h' tk hP hst' kp=>?_))
   have hS2:=kp S _ (λz=>hSf (W.sub _ z)) hS
   refine wpAny_bind (m:=tryCatch (holding [v,v] (richCompare .Gt v vb >>= _)) _) (wpAny_tryCatch (wpAny_holding (wpAny_bind (hcmp j q v vb _ _ _ hP hPb ?_))))
   refine wpAny_bind (wpAny_holding (wpAny_truthy_bool (wpAny_bind (wpAny_letGo (wpAny_pure ?_)))))
   have nm:(toString "max" ++ toString ".loop" : String) = "max.loop" := by decide
   cases hbt:bt j q with
   | true=>
     simp only [if_true]
     refine wpAny_bind (wpAny_updateSeq hS2 rfl (wpAny_bind (wpAny_letGo ?_)))
     rw [nm]
     refine wpAny_pure ⟨plainId_quiet F.plain_max_loop _,qhP W bt htr hirr hcmp S hSf k (j+1) j _ v _ ⋯ ⋯ (W.frame _ _ _ hst' λb hb o e=>(Heap.get?_update_other _ _ (λz:S=b=>hSf (by rw [z];exact hb))).trans e) jn (λi hi=>by rcases Nat.lt_succ_iff_lt_or_eq.mp hi with z | z;exact htr i j q hbt (hB i z);rw [z];exact hirr j) hP (Heap.get?_update_self _ hS2 rfl) λq' v' h2 tk2 hq' hB' hP' kp2=>?_⟩
     exact hR q' v' h2 tk2 hq' hB' hP' λb o h1 h3 e=>kp2 b o h1 h3 ((Heap.get?_update_other _ _ h3.symm).trans (kp b o h1 e))
   | false=>
     simp only [Bool.false_eq_true,if_false]
     refine wpAny_bind (wpAny_letGo ?_)
     rw [nm]
     exact wpAny_pure ⟨plainId_quiet F.plain_max_loop _,qhP W bt htr hirr hcmp S hSf k (j+1) q _ vb c ⋯ ⋯ hst' hq (λi hi=>by rcases Nat.lt_succ_iff_lt_or_eq.mp hi with z | z;exact hB i z;rw [z];exact hbt) hPb hS2 λq' v' h2 tk2 hq' hB' hP' kp2=>hR q' v' h2 tk2 hq' hB' hP' λb o h1 h3 e=>kp2 b o h1 h3 (kp b o h1 e)⟩
theorem qnG (W:Walks prog w A.in1 I fp wr n P St) (bt:Nat->Nat->Bool) (htr:∀ i j q,bt j q=true->bt i q=false->bt i j=false) (hirr:∀ i,bt i i=false) (hcmp:CmpOf prog w A.in1 .Gt P bt) (S:Addr) (hSf:S∉fp) {s:Shared} {c:Nat} (hst:St 0 s.heap)
  (hS:s.heap.get? S=some { cls:=.type "list", dict:=none,data:=.seq #[] c,slots:=#[] })
  (hR:∀ v h' tk,(n=0/\v=d\/∃ q,q<n/\(∀ i,i<n->bt i q=false)/\P q v)->(∀ b o,b∉wr->b≠S->s.heap.get? b=some o->h'.get? b=some o)->R (.ok (.ret v)) { s with heap:=h',toks:=tk }) :
  codeAny (model prog w) A (.builtin "max.loop" ⟨[.ref I,.none,.ref S],[("default", d)]⟩) R s:=by
 refine codeAny_builtin F.entry_max_loop ?_
 rw [Around.under_plainId F.plain_max_loop _]
 refine wpAny_bind (m:=seqItems? (.ref S)) (wpAny_seqItems hS rfl ?_)
 rcases wbj n with z | z
 ·refine wpAny_bind (m:=tryCatch (pyNext (.ref I)) _) (wpAny_tryCatch (W.done s _ _ (z ▸ hst) λh' tk kp=>?_))
  refine wpAny_bind (wpAny_rule (wpAny_pure ?_))
  exact hR d h' tk (.inl ⟨z,rfl⟩) λb o h1 _ e=>kp b o h1 e
 ·refine wpAny_bind (m:=tryCatch (pyNext (.ref I)) _) (wpAny_tryCatch (W.item 0 s _ _ z hst λv h' tk hP hst' kp=>?_))
  have hS2:=kp S _ (λz=>hSf (W.sub _ z)) hS
  have nm:(toString "max" ++ toString ".loop" : String) = "max.loop" := by decide
  refine wpAny_bind (m:=updateSeq S (λ_=>#[v,v])) (wpAny_updateSeq hS2 rfl ?_)
  rw [nm]
  refine wpAny_pure ⟨plainId_quiet F.plain_max_loop _,qhP W bt htr hirr hcmp S hSf _ 1 0 _ v _ rfl z (W.frame _ _ _ hst' λb hb o e=>(Heap.get?_update_other _ _ (λz:S=b=>hSf (by rw [z];exact hb))).trans e) z (λi hi=>by rw [show i=0 by omega];exact hirr 0) hP (Heap.get?_update_self _ hS2 rfl) λq' v' h2 tk2 hq' hB' hP' kp2=>?_⟩
  exact hR v' h2 tk2 (.inr ⟨q',hq',hB',hP'⟩) λb o h1 h3 e=>kp2 b o h1 h3 ((Heap.get?_update_other _ _ h3.symm).trans (kp b o h1 e))
end
theorem qpa (a v:Value):argsOk "max" ⟨[a],[("default", v)]⟩:=by unfold argsOk;kernel_rfl
section
variable {X:Cx} {e:Expr} {te:TE} {p pos kp1 kp2:Pos} {kk:Nat}
theorem qsL (hc:X.calm=true) (hm:X.mg "max" = none) (hv:bootBuiltins "max" = some (.builtin "max")) (ha:PE X e te) (hg:Gl X "max" := by rfl)
  (hs:starEach [e] X.env=(false,eval e X.env)::starEach [] X.env:=by rfl) (hb:backTo pos (starEach [e] X.env)=(false,eval e X.env)::backTo pos (starEach [] X.env):=by rfl):PE X (.Call (.Name "max" p) [e] [⟨some "default", .Constant (.int 0) kk kp1,kp2⟩] pos) (qux te):=by
 intro pins s σ H Q I h
 refine wpAny_Call_Name_kw (qd8 I hg hm hv ?_ ∅ ∅)
 refine PyProof.Rows.callWith_kw ?_ hb (by rw [hb];rfl)
 rw [hb]
 refine Calls.spliced_cons (thn (ha pins s σ H _ I h) λu s1 ⟨x,H1,I1,r1,q1⟩=>Calls.spliced_nil ?_)
 have kw:PK X [⟨some "default", .Constant (.int 0) kk kp1,kp2⟩] (qab (tC (.int 0)) qan):=qop qad qrH
 refine thn (kw pos pins s1 σ H1 (λvs H2=>vs=[.int 0]/\H2=H1) I1 ⟨rfl,rfl⟩) λws s2 ⟨zs,H2,I2,rz,ez,eh⟩=>?_
 subst ez eh
 obtain ⟨z,rfl,t,rfl⟩:=qfh rz
 obtain ⟨l,ns,rfl,hl,q⟩:=q1
 cases r1
 obtain ⟨its,rv,pl,hz⟩:=I2.list (SqL.of hl)
 have hle:ns.length=its.length:=by have:=rv.length;simpa using this
 have nm:(toString "max" ++ toString ".loop" : String) = "max.loop" := by decide
 refine kmb_tree F.kind_max F.plain_max F.entry_max (qpa _ _) ?_
 refine wpAny_bind (m:=Builtin.Builtins.bindParams "max" ["key", "default"] 0 ⟨[],[("default", Value.int 0 t)]⟩) (wpAny_of_eq (a:=[none,some (Value.int 0 t)]) rfl ?_)
 refine wpAny_bind (wpAny_pure (wpAny_bind (wpAny_pyIter_list pl.isList ?_)))
 refine wpAny_bind (wpAny_newObj_type ?_)
 rw [nm]
 have lp:l<s2.heap.objs.size:=pl.lt
 have nS:(s2.heap.push { cls:=.type "list_iterator", data:=.fields #[.ref l,.int 0 0] }).objs.size=s2.heap.objs.size+1:=Heap.size_push ..
 have W:=Walks.list (prog:=X.prog) (w:=X.w) (A:=X.A.in1) (show X.A.in1.handled=none from I2.ok.hd hc) s2.heap.objs.size l (wao lp) its.toArray
 refine wpAny_pure ⟨plainId_quiet F.plain_max_loop _,qnG W _ (λi j q h1 h2=>by have h1:=of_decide_eq_true h1;have h2:=of_decide_eq_false h2;exact decide_eq_false ⋯) (λi=>decide_eq_false (Int.lt_irrefl _)) (CmpOf.ints_gt (λi=>ns.getD i 0) λi v hP=>?_) _ ?_ ⟨⟨_,Heap.get?_push_of_some _ (Heap.get?_push_size _ rfl),rfl,rfl⟩,(pl.isList.push _).push _⟩ (Heap.get?_push_size _ rfl) λv g tk hv2 gk=>?_⟩
 ·obtain ⟨n,t2,h1,rfl⟩:=qdM rv (show its[i]?=some v by simpa using hP)
  exact ⟨t2,by rw [wab,h1];rfl⟩
 ·rw [nS]
  have:¬ (s2.heap.objs.size+1=s2.heap.objs.size\/s2.heap.objs.size+1=l):=λz=>by
   rcases z with z | z
   ·exact absurd z (Nat.succ_ne_self _)
   ·rw [<-z] at lp;exact absurd lp (Nat.not_lt.mpr (Nat.le_succ _))
  simpa using this
 ·have kk2:∀ b o,s2.heap.get? b=some o->g.get? b=some o:=λb o e=>by
   have lb:b<s2.heap.objs.size:=Heap.lt_size e
   refine gk b o (λz=>?_) (λz=>?_) (Heap.get?_push_of_some _ (Heap.get?_push_of_some _ e))
   ·rw [wag.mp z] at lb;exact absurd lb (wa6 _)
   ·rw [z,nS] at lb;exact absurd lb (Nat.not_lt.mpr (Nat.le_succ _))
  have I3:=I2.kept (t':=tk) kk2
  rcases hv2 with ⟨z,rfl⟩ | ⟨i,hi,hB,hP⟩
  ·exact ⟨.int 0,_,I3,⟨t,rfl⟩,q 0 (.inl ⟨way.mp (by rw [waj] at z;omega),rfl⟩)⟩
  ·obtain ⟨n,t2,h1,rfl⟩:=qdM rv (show its[i]?=some v by simpa using hP)
   refine ⟨.int n,_,I3,⟨t2,rfl⟩,q n (.inr ⟨wat h1,λz hz=>?_⟩)⟩
   obtain ⟨j,hj,rfl⟩:=wck hz
   have:=of_decide_eq_false (hB j (by rw [waj];omega))
   rw [wab,wab,h1,waf hj] at this
   exact Int.not_lt.mp this
end
end Bs
namespace Bs
theorem Bd.one:Bd 1 1:=by unfold Bd;decide
theorem Bd.pow {b:Nat} {x:Int} (h:Bd b x) (k:Nat):Bd (b*k+1) (x ^ k):=by
 induction k with
 | zero=>rw [wbm,Nat.mul_zero];exact Bd.one
 | succ k ih=>
   have e:b*(k+1)+1=(b*k+1)+b:=by rw [Nat.mul_add,Nat.mul_one];omega
   rw [wb0,e]
   exact ih.mul h
theorem pow_ne {t:Int} (h:t≠0) (m:Nat):t ^ m≠0:=by
 induction m with
 | zero=>rw [wbm];decide
 | succ m ih=>rw [wb0];exact wak ih h
end Bs
namespace Bs
noncomputable abbrev Nu:=Int×Int
noncomputable def red (n m:Int):Nu:=(n / ((Int.gcd n m:Nat):Int),m / ((Int.gcd n m:Nat):Int))
noncomputable def Wo (q:Nu) (n m:Int):Prop:=q.1*m=n*q.2
theorem qhQ {n m:Int} (hm:0<m):Low (red n m).1 (red n m).2:=(qeV (a:=n) hm).1
theorem qpb {n m:Int} (hm:0<m):Wo (red n m) n m:=by
 have h:=(qeA (a:=n) (b:=m) (s:=((Int.gcd n m:Nat):Int)) ⋯ (by rw [if_neg ⋯])).2.2.2.1
 rw [wcd _ ⋯,wcd _ ⋯] at h
 exact h
theorem qf9 {a b d:Int} (h:Low a b) (hd:b∣a*d):b∣d:=by
 have c:Nat.Coprime b.natAbs a.natAbs:=by
  have:Nat.Coprime a.natAbs b.natAbs:=h.one
  exact this.symm
 have z:=wbb.mpr hd
 rw [wam] at z
 exact wbb.mp (c.dvd_of_dvd_mul_left z)
theorem qi8 {a b c d:Int} (h1:Low a b) (h2:Low c d) (h:a*d=c*b):a=c/\b=d:=by
 have d1:b∣d:=qf9 h1 ⟨c,by rw [h,wbh]⟩
 have d2:d∣b:=qf9 h2 ⟨a,by rw [<-h,wbh]⟩
 have e:b=d:=Int.dvd_antisymm (Int.le_of_lt h1.pos) (Int.le_of_lt h2.pos) d1 d2
 subst e
 exact ⟨Int.eq_of_mul_eq_mul_right (wah h1.pos) h,rfl⟩
theorem qpc {q r:Nu} {n m:Int} (h1:Low q.1 q.2) (h2:Low r.1 r.2) (hm:m≠0) (w1:Wo q n m) (w2:Wo r n m):q=r:=by
 unfold Wo at w1 w2
 have e:q.1*r.2=r.1*q.2:=by
  have z:m*(q.1*r.2)=m*(r.1*q.2):=by grind
  exact Int.eq_of_mul_eq_mul_left hm z
 obtain ⟨a,b⟩:=qi8 h1 h2 e
 exact Prod.ext a b
theorem qvo {q:Nu} {n m:Int} (h1:Low q.1 q.2) (hm:0<m) (w:Wo q n m):q.1.natAbs<=n.natAbs/\q.2.natAbs<=m.natAbs:=by
 have e:q=red n m:=qpc h1 (qhQ hm) (wah hm) w (qpb hm)
 subst e
 exact ⟨(qeV (a:=n) hm).2.1,(qeV (a:=n) hm).2.2.1⟩
noncomputable def qjT (l:List Nu):Nat->Nat
 | 0=>0
 | m+1=>if (l.getD m (1,1)).1=0 then qjT l m else m+1
noncomputable def trim (l:List Nu):List Nu:=l.take (qjT l l.length)
noncomputable def Nz (l:List Nu):Prop:=∀ q,l.getLast?=some q->q.1≠0
theorem qsM {l:List Nu} (h:Nz l):trim l=l:=by
 unfold trim
 have e:qjT l l.length=l.length:=by
  cases hl:l.length with
  | zero=>rfl
  | succ m=>
    unfold qjT
    have hm:m<l.length:=by omega
    have z:(l.getD m (1,1)).1≠0:=by
     have q:=h l[m] (by rw [List.getLast?_eq_getElem?,hl];simp [hm])
     rw [wab,waf hm]
     exact q
    rw [if_neg z]
 rw [e,wa8]
noncomputable def qbr (l:List Nu):Prop:=∀ q∈l,Low q.1 q.2
noncomputable def qvp (n:Nat) (l:List Nu):Prop:=∀ q∈l,Bd n q.1/\Bd n q.2
noncomputable def qhd (l:List Nu) (i:Nat):Nu:=l.getD i (0,1)
theorem qvq:Low 0 1:=⟨∅,∅⟩
theorem qjU {l:List Nu} (h:qbr l) (i:Nat):Low (qhd l i).1 (qhd l i).2:=by
 unfold qhd
 rw [wab]
 cases e:l[i]? with
 | none=>exact qvq
 | some q=>exact h q (wat e)
end Bs
namespace Bs
noncomputable def qgA (l:List Nu):Int:=l.foldl (λB q=>B*(q.2 / ((Int.gcd B q.2:Nat):Int))) 1
noncomputable def qbX (l:List Nu):List Int:=l.map λq=>q.1*(qgA l / q.2)
theorem qjV {B d:Int} (hB:0<B) (hd:0<d):0<B*(d / ((Int.gcd B d:Nat):Int))/\B∣B*(d / ((Int.gcd B d:Nat):Int))/\d∣B*(d / ((Int.gcd B d:Nat):Int))/\(d / ((Int.gcd B d:Nat):Int)).natAbs<=d.natAbs/\0<((Int.gcd B d:Nat):Int)/\((Int.gcd B d:Nat):Int)<=d:=by
 have g0:0<Int.gcd B d:=Int.gcd_pos_of_ne_zero_right B ⋯
 obtain ⟨k,hk⟩:((Int.gcd B d:Nat):Int)∣d:=wb5 B d
 obtain ⟨m,hm⟩:((Int.gcd B d:Nat):Int)∣B:=wcc B d
 have gp:(0:Int)<((Int.gcd B d:Nat):Int):=by omega
 have e:d / ((Int.gcd B d:Nat):Int)=k:=by
  have z:d / ((Int.gcd B d:Nat):Int)=(((Int.gcd B d:Nat):Int)*k) / ((Int.gcd B d:Nat):Int):=by rw [<-hk]
  rw [z,wco _ (wah gp)]
 have kp:0<k:=by
  rcases Int.lt_or_le 0 k with h | h
  ·exact h
  ·exfalso
   have:=Int.mul_nonneg (Int.le_of_lt gp) (show 0<=-k by omega)
   rw [Int.mul_neg] at this
   omega
 have le:((Int.gcd B d:Nat):Int)<=d:=wb7 hd (wb5 B d)
 refine ⟨by rw [e];exact Int.mul_pos hB kp,Int.dvd_mul_right ..,?_,?_,gp,le⟩
 ·rw [e]
  refine ⟨m,?_⟩
  have z:d*m=((Int.gcd B d:Nat):Int)*k*m:=by rw [<-hk]
  have z2:B*k=((Int.gcd B d:Nat):Int)*m*k:=by rw [<-hm]
  rw [z,z2];grind
 ·rw [e]
  have z:d.natAbs=(Int.gcd B d)*k.natAbs:=by
   have:d.natAbs=(((Int.gcd B d:Nat):Int)*k).natAbs:=by rw [<-hk]
   rw [this,wam];simp
  rw [z]
  exact wcm _ g0
theorem qk5 {b:Nat}:∀ (l:List Nu) (B:Int) (c:Nat),(∀ q∈l,0<q.2/\Bd b q.2)->0<B->Bd c B->
  0<l.foldl (λB q=>B*(q.2 / ((Int.gcd B q.2:Nat):Int))) B/\B∣l.foldl (λB q=>B*(q.2 / ((Int.gcd B q.2:Nat):Int))) B/\(∀ q∈l,q.2∣l.foldl (λB q=>B*(q.2 / ((Int.gcd B q.2:Nat):Int))) B)/\Bd (c+b*l.length) (l.foldl (λB q=>B*(q.2 / ((Int.gcd B q.2:Nat):Int))) B)
 | [],B,c,_,hB,bB=>⟨hB,Int.dvd_refl B,(λ_ h=>nomatch h),by simpa using bB⟩
 | q::l,B,c,h,hB,bB=>by
   obtain ⟨q0,qb⟩:=h q (waq ..)
   obtain ⟨s1,s2,s3,s4,_,_⟩:=qjV hB q0
   obtain ⟨r1,r2,r3,r4⟩:=qk5 l (B*(q.2 / ((Int.gcd B q.2:Nat):Int))) (c+b) (λr hr=>h r (wa5 _ hr)) s1 (bB.mul (qb.le s4))
   rw [List.foldl_cons]
   refine ⟨r1,war s2 r2,λr hr=>?_,r4.mono (by rw [wbc,Nat.mul_add,Nat.mul_one];omega)⟩
   rcases was.mp hr with rfl | hr
   ·exact war s3 r2
   ·exact r3 r hr
theorem qsN {b:Nat} {l:List Nu} (h1:qbr l) (h2:qvp b l):0<qgA l/\(∀ q∈l,q.2∣qgA l)/\Bd (1+b*l.length) (qgA l):=by
 obtain ⟨r1,_,r3,r4⟩:=qk5 (b:=b) l 1 1 (λq hq=>⟨(h1 q hq).pos,(h2 q hq).2⟩) ∅ Bd.one
 exact ⟨r1,r3,r4⟩
theorem qiJ {B d:Int} (hB:0<B) (hd:0<d):(B / d).natAbs<=B.natAbs:=by
 have h1:0<=B / d:=Int.ediv_nonneg (Int.le_of_lt hB) (Int.le_of_lt hd)
 have h2:B / d<=B:=Int.ediv_le_self d (Int.le_of_lt hB)
 omega
theorem quy {q:Nu} {B:Int} (hd:q.2∣B):Wo q (q.1*(B / q.2)) B:=by
 unfold Wo
 rw [Int.mul_assoc,Int.ediv_mul_cancel hd]
noncomputable def ps (ns ms:List Int):Nat->Nat->Int
 | 0,_=>0
 | i+1,k=>ps ns ms i k+(if i<=k/\k - i<ms.length then ns.getD i 0*ms.getD (k - i) 0 else 0)
noncomputable def in2 (ns ms:List Int) (i j k:Nat):Int:=ps ns ms i k+(if i<=k/\k - i<j then ns.getD i 0*ms.getD (k - i) 0 else 0)
theorem qmS (ns ms:List Int) (i k:Nat):in2 ns ms i 0 k=ps ns ms i k:=by
 unfold in2;rw [if_neg ⋯];omega
theorem qhe (ns ms:List Int) (i j k:Nat):in2 ns ms i (j+1) k=if k=i+j then in2 ns ms i j k+ns.getD i 0*ms.getD j 0 else in2 ns ms i j k:=by
 unfold in2
 by_cases h:k=i+j
 ·subst h
  rw [if_pos rfl,if_pos ⟨⋯,⋯⟩,if_neg ⋯,show i+j - i=j by omega];omega
 ·rw [if_neg h]
  congr 1
  by_cases h2:i<=k/\k - i<j
  ·rw [if_pos h2,if_pos ⟨h2.1,⋯⟩]
  ·rw [if_neg h2,if_neg ⋯]
theorem qeX {c:Nat} {ns:List Int} (h:∀ z∈ns,Bd c z) (i:Nat):Bd c (ns.getD i 0):=by
 rw [wab]
 cases e:ns[i]? with
 | none=>exact wbu ∅
 | some z=>exact h z (wat e)
theorem qeY (c:Nat):Bd c 0:=wbu ∅
theorem ql1 {ns ms:List Int}:∀ i k,i+ms.length<=k+1->ps ns ms i k=0
 | 0,_,_=>rfl
 | i+1,k,h=>by
   unfold ps
   rw [ql1 i k ⋯,if_neg ⋯];rfl
end Bs
namespace Bs
noncomputable def val (q:Nu):Rat:=(q.1:Rat) / (q.2:Rat)
theorem zdiv (x:Rat):0 / x=0:=by rw [Rat.div_def,Rat.zero_mul]
theorem qa6 {z:Int} (h:z≠0):(z:Rat)≠0:=by exact_mod_cast h
theorem qfn {q:Nu} {n m:Int} (hq:q.2≠0) (hm:m≠0) (w:Wo q n m):val q=(n:Rat) / (m:Rat):=by
 have h1:=qa6 hq
 have h2:=qa6 hm
 have w':(q.1:Rat)*m=n*q.2:=by unfold Wo at w;exact_mod_cast w
 unfold val
 grind
theorem qeg {q r:Nu} (h1:Low q.1 q.2) (h2:Low r.1 r.2) (h:val q=val r):q=r:=by
 have a:=qa6 (wah h1.pos)
 have b:=qa6 (wah h2.pos)
 unfold val at h
 have z:(q.1:Rat)*r.2=r.1*q.2:=by grind
 have z':q.1*r.2=r.1*q.2:=by exact_mod_cast z
 obtain ⟨x,y⟩:=qi8 h1 h2 z'
 exact Prod.ext x y
theorem qpd {n m:Int} (hm:0<m):val (red n m)=(n:Rat) / (m:Rat):=qfn (wah (qhQ hm).pos) (wah hm) (qpb hm)
noncomputable def qaP (n m:Int):Nu:=if m<0 then red (-n) (-m) else red n m
theorem qaY {n m:Int} (hm:m≠0):Low (qaP n m).1 (qaP n m).2:=by
 unfold qaP
 split
 ·exact qhQ ⋯
 ·exact qhQ ⋯
theorem qbL {n m:Int} (hm:m≠0):val (qaP n m)=(n:Rat) / (m:Rat):=by
 unfold qaP
 split
 ·rw [qpd ⋯]
  have:=qa6 hm
  push_cast
  grind
 ·exact qpd ⋯
theorem qsO {c d:Nat} {n m:Int} (hm:m≠0) (h1:Bd c n) (h2:Bd d m):Bd c (qaP n m).1/\Bd d (qaP n m).2:=by
 have aux:∀ {n m:Int},0<m->Bd c n->Bd d m->Bd c (red n m).1/\Bd d (red n m).2:=λ{n m} h0 h1 h2=>by
  have w:=qvo (qhQ h0) h0 (qpb (n:=n) h0)
  exact ⟨h1.le w.1,h2.le w.2⟩
 unfold qaP
 split
 ·exact aux ⋯ h1.neg h2.neg
 ·exact aux ⋯ h1 h2
noncomputable def pwo (l:List Nu) (k:Nat):Rat:=val (qhd l k)
theorem qqX {l:List Nu} {k:Nat} (h:l.length<=k):qhd l k=(0,1):=by
 unfold qhd
 rw [wab,wa0 h]
 rfl
theorem qpe {l:List Nu} {k:Nat} (h:l.length<=k):pwo l k=0:=by
 unfold pwo
 rw [qqX h]
 exact zdiv _
noncomputable def cv (f g:Nat->Rat):Nat->Nat->Rat
 | 0,_=>0
 | n+1,k=>cv f g n k+(if n<=k then f n*g (k - n) else 0)
noncomputable def ovN (l:List Nu) (M:Int):List Int:=l.map λq=>q.1*(M / q.2)
noncomputable def Ov (l:List Nu) (M:Int):Prop:=0<M/\∀ q∈l,q.2∣M
theorem qpf {l:List Nu} {M:Int} (i:Nat):(ovN l M).getD i 0=(qhd l i).1*(M / (qhd l i).2):=by
 unfold ovN qhd
 rw [wab,wab,wae]
 cases l[i]? with
 | none=>simp
 | some q=>rfl
theorem Ov.get {l:List Nu} {M:Int} (h:Ov l M) (i:Nat):(qhd l i).2∣M:=by
 unfold qhd
 rw [wab]
 cases e:l[i]? with
 | none=>exact Int.one_dvd M
 | some q=>exact h.2 q (wat e)
theorem quz {l:List Nu} {M:Int} (h:Ov l M) (i:Nat):Wo (qhd l i) ((ovN l M).getD i 0) M:=by
 rw [qpf]
 exact quy (h.get i)
theorem quA {l:List Nu} {M:Int} (hl:qbr l) (h:Ov l M) (i:Nat):pwo l i=((ovN l M).getD i 0:Rat) / (M:Rat):=qfn (wah (qjU hl i).pos) (wah h.1) (quz h i)
theorem lcm_dvd {B d M:Int} (hB:0<B) (hd:0<d) (h1:B∣M) (h2:d∣M):B*(d / ((Int.gcd B d:Nat):Int))∣M:=by
 have z:((Nat.lcm B.natAbs d.natAbs:Nat):Int)∣M:=wbb.mp (by rw [wa9];exact Nat.lcm_dvd (wbb.mpr h1) (wbb.mpr h2))
 have e:((Nat.lcm B.natAbs d.natAbs:Nat):Int)=B*(d / ((Int.gcd B d:Nat):Int)):=by
  unfold Nat.lcm
  rw [Nat.mul_div_assoc _ (Nat.gcd_dvd_right _ _)]
  push_cast
  rw [show ((B.natAbs:Nat):Int)=B by omega,show ((d.natAbs:Nat):Int)=d by omega]
  rfl
 rw [<-e]
 exact z
theorem qjW {M:Int}:∀ (l:List Nu) (B:Int),(∀ q∈l,0<q.2/\q.2∣M)->0<B->B∣M->0<l.foldl (λB q=>B*(q.2 / ((Int.gcd B q.2:Nat):Int))) B/\l.foldl (λB q=>B*(q.2 / ((Int.gcd B q.2:Nat):Int))) B∣M
 | [],B,_,hB,h=>⟨hB,h⟩
 | q::l,B,hq,hB,h=>by
   obtain ⟨q0,qd⟩:=hq q (waq ..)
   obtain ⟨s1,_⟩:=qjV hB q0
   exact qjW l _ (λr hr=>hq r (wa5 _ hr)) s1 (lcm_dvd hB q0 h qd)
theorem qmT {n:Nat} {a b:Int} (hb:b≠0) (h:a∣b) (bd:Bd n b):Bd n a:=bd.le (wbx ⋯ (wbb.mpr h))
theorem qeh {l:List Nu} (hl:qbr l):Ov l (qgA l):=by
 obtain ⟨a,b,_⟩:=qsN (b:=(l.foldl (λn q=>n+q.1.natAbs+q.2.natAbs) 1)) hl (λq hq=>by
  have big:∀ (l:List Nu) (n:Nat),n<=l.foldl (λn q=>n+q.1.natAbs+q.2.natAbs) n/\∀ q∈l,q.1.natAbs+q.2.natAbs<=l.foldl (λn q=>n+q.1.natAbs+q.2.natAbs) n:=by
   intro l
   induction l with
   | nil=>intro n;exact ⟨wac _,λ_ h=>nomatch h⟩
   | cons r l ih=>
     intro n
     obtain ⟨i1,i2⟩:=ih (n+r.1.natAbs+r.2.natAbs)
     rw [List.foldl_cons]
     refine ⟨⋯,λq hq=>?_⟩
     rcases was.mp hq with rfl | hq
     ·omega
     ·exact i2 q hq
  have z:=(big l 1).2 q hq
  exact ⟨wa4 ⋯ (Nat.lt_two_pow_self),wa4 ⋯ (Nat.lt_two_pow_self)⟩)
 exact ⟨a,b⟩
theorem qmU {l:List Nu} {M:Int} (hl:qbr l) (h:Ov l M):qgA l∣M:=(qjW l 1 (λq hq=>⟨(hl q hq).pos,h.2 q hq⟩) ∅ (Int.one_dvd M)).2
theorem qsP (l:List Nu):qbX l=ovN l (qgA l):=rfl
end Bs
namespace Bs
section
variable {α:Type} [Lean.Grind.CommRing α]
noncomputable def cvL:List α->(Nat->α)->Nat->α
 | [],_,_=>0
 | x::a,b,k=>x*b k+(match k with | 0=>0 | k+1=>cvL a b k)
theorem qaF (b:Nat->α) (k:Nat):cvL [] b k=0:=rfl
theorem qar (x:α) (a:List α) (b:Nat->α):cvL (x::a) b 0=x*b 0+0:=rfl
theorem qam (x:α) (a:List α) (b:Nat->α) (k:Nat):cvL (x::a) b (k+1)=x*b (k+1)+cvL a b k:=rfl
theorem qas {b c:Nat->α} (h:∀ k,b k=c k):∀ (a:List α) (k:Nat),cvL a b k=cvL a c k
 | [],_=>rfl
 | x::a,0=>by rw [qar,qar,h 0]
 | x::a,k+1=>by rw [qam,qam,h (k+1),qas h a k]
theorem qdN (b c:Nat->α):∀ (a:List α) (k:Nat),cvL a (λk=>b k+c k) k=cvL a b k+cvL a c k
 | [],_=>by rw [qaF,qaF,qaF];grind
 | x::a,0=>by rw [qar,qar,qar];grind
 | x::a,k+1=>by rw [qam,qam,qam,qdN b c a k];grind
theorem qbo (s:α) (b:Nat->α):∀ (a:List α) (k:Nat),cvL a (λk=>s*b k) k=s*cvL a b k
 | [],_=>by rw [qaF,qaF];grind
 | x::a,0=>by rw [qar,qar];grind
 | x::a,k+1=>by rw [qam,qam,qbo s b a k];grind
noncomputable def up1 (b:Nat->α):Nat->α
 | 0=>0
 | k+1=>b k
theorem qpg (b:Nat->α):∀ (a:List α) (k:Nat),cvL a (up1 b) k=up1 (cvL a b) k
 | [],0=>rfl
 | [],k+1=>rfl
 | x::a,0=>by rw [qar];show x*0+0=0;grind
 | x::a,1=>by
   rw [qam]
   have h:=qpg b a 0
   rw [h]
   show x*b 0+0=cvL (x::a) b 0
   rw [qar]
 | x::a,k+2=>by
   rw [qam,qpg b a (k+1)]
   show x*b (k+1)+cvL a b k=cvL (x::a) b (k+1)
   rw [qam]
theorem qda (x:α) (a:List α) (b:Nat->α) (k:Nat):cvL (x::a) b k=x*b k+up1 (cvL a b) k:=by
 cases k with
 | zero=>exact qar x a b
 | succ k=>exact qam x a b k
theorem qdO (c:Nat->α):∀ (a b:List α) (k:Nat),cvL a (cvL b c) k=cvL b (cvL a c) k
 | [],b,k=>by
   rw [qaF]
   have e:cvL b (cvL [] c) k=cvL b (λk=>0*c k) k:=qas (λk=>by rw [qaF];grind) b k
   rw [e,qbo]
   grind
 | x::a,b,k=>by
   rw [qda]
   have e:cvL b (cvL (x::a) c) k=cvL b (λk=>x*c k+up1 (cvL a c) k) k:=qas (λk=>qda x a c k) b k
   rw [e,qdN,qbo,qpg]
   have e2:up1 (cvL a (cvL b c)) k=up1 (cvL b (cvL a c)) k:=by
    cases k with
    | zero=>rfl
    | succ k=>exact qdO c a b k
   rw [e2]
noncomputable def qb8:Nat->α
 | 0=>1
 | _+1=>0
theorem qcC:∀ (a:List α) (k:Nat),cvL a qb8 k=a.getD k 0
 | [],k=>by rw [qaF];simp
 | x::a,0=>by rw [qar];show x*1+0=x;grind
 | x::a,k+1=>by
   rw [qam,qcC a k]
   show x*0+a.getD k 0=(x::a).getD (k+1) 0
   rw [List.getD_cons_succ]
   grind
end
end Bs
namespace Bs
theorem ql2 {n k:Nat}:k∣2 ^ n↔∃ a,a<=n/\k=2 ^ a:=by
 constructor
 ·induction n generalizing k with
  | zero=>intro h;exact ⟨0,wac 0,by simpa using h⟩
  | succ n ih=>
    intro h
    by_cases h2:2∣k
    ·obtain ⟨j,rfl⟩:=h2
     rw [wax,wbe (2 ^ n) 2] at h
     obtain ⟨a,ha,e⟩:=ih (Nat.dvd_of_mul_dvd_mul_left ∅ h)
     exact ⟨a+1,⋯,by rw [e,wax,wbe]⟩
    ·have c:Nat.Coprime k 2:=by
      have:Nat.gcd k 2∣2:=Nat.gcd_dvd_right k 2
      have h3:=wbx ∅ this
      have h4:Nat.gcd k 2≠2:=λz=>h2 (by rw [<-z];exact Nat.gcd_dvd_left k 2)
      have h5:Nat.gcd k 2≠0:=λz=>by have:=Nat.eq_zero_of_gcd_eq_zero_right z;omega
      show Nat.gcd k 2=1
      omega
     rw [wax] at h
     obtain ⟨a,ha,e⟩:=ih (c.dvd_of_dvd_mul_right h)
     exact ⟨a,⋯,e⟩
 ·rintro ⟨a,ha,rfl⟩
  exact Nat.pow_dvd_pow 2 ha
structure Pr (p:Nat):Prop where
 two:2<=p
 div:∀ d,d∣p->d=1\/d=p
theorem Pr.cop {p:Nat} (h:Pr p) {a:Nat} (ha:¬ p∣a):Nat.gcd a p=1:=by
 rcases h.div _ (Nat.gcd_dvd_right a p) with e | e
 ·exact e
 ·exact absurd (e ▸ Nat.gcd_dvd_left a p) ha
theorem Pr.mul {p:Nat} (h:Pr p) {a b:Nat} (hd:p∣a*b):p∣a\/p∣b:=by
 by_cases ha:p∣a
 ·exact .inl ha
 ·refine .inr (Nat.Coprime.dvd_of_dvd_mul_left (k:=p) (m:=a) ?_ hd)
  have:=h.cop ha
  rw [Nat.gcd_comm] at this
  exact this
theorem Pr.mulI {p:Nat} (h:Pr p) {a b:Int} (hd:(p:Int)∣a*b):(p:Int)∣a\/(p:Int)∣b:=by
 have z:=wbb.mpr hd
 rw [wam,wa9] at z
 rcases h.mul z with e | e
 ·exact .inl (wbb.mp (by rw [wa9];exact e))
 ·exact .inr (wbb.mp (by rw [wa9];exact e))
theorem qk6 {m:Nat} (hm:2<=m):∃ q,Pr q/\q∣m/\(q=m\/q*q<=m):=by
 have key:∀ n d,2<=d->(∀ e,2<=e->e<d->¬ e∣m)->m=d+n->∃ q,2<=q/\q∣m/\∀ e,2<=e->e<q->¬ e∣m:=by
  intro n
  induction n with
  | zero=>intro d hd h e;exact ⟨d,hd,by rw [e];exact Nat.dvd_refl _,h⟩
  | succ n ih=>
    intro d hd h e
    by_cases hdm:d∣m
    ·exact ⟨d,hd,hdm,h⟩
    ·refine ih (d+1) ⋯ (λx hx hx2=>?_) ⋯
     by_cases hxd:x=d
     ·rw [hxd];exact hdm
     ·exact h x hx ⋯
 obtain ⟨q,q2,qm,ql⟩:=key (m - 2) 2 (wac 2) (λe h1 h2=>absurd h2 ⋯) ⋯
 refine ⟨q,⟨q2,λd hd=>?_⟩,qm,?_⟩
 ·by_cases h2:2<=d
  ·right
   rcases wan d q with h | h
   ·exact absurd (Nat.dvd_trans hd qm) (ql d h2 h)
   ·exact Nat.le_antisymm (wbx ⋯ hd) h
  ·left
   have:d≠0:=λz=>by rw [z] at hd;have:=Nat.eq_zero_of_zero_dvd hd;omega
   omega
 ·obtain ⟨k,hk⟩:=qm
  by_cases k1:k<=1
  ·left
   have:k=1:=by
    rcases wbj k with z | z
    ·rw [z] at hk;omega
    ·omega
   rw [hk,this,Nat.mul_one]
  ·right
   rcases wan k q with h | h
   ·exact absurd ⟨q,by rw [hk,wbe]⟩ (ql k ⋯ h)
   ·rw [hk];exact wa1 q h
theorem pigeon:∀ (n m:Nat) (f:Nat->Nat),(∀ i,i<m->f i<n)->(∀ i j,i<m->j<m->f i=f j->i=j)->m<=n
 | 0,m,f,h,_=>by
   rcases wbj m with z | z
   ·omega
   ·exact absurd (h 0 z) ⋯
 | n+1,0,_,_,_=>by omega
 | n+1,m+1,f,h,inj=>by
   have:=pigeon n m (λi=>if f i=n then f m else f i) (λi hi=>by
    show (if f i=n then f m else f i)<n
    by_cases e:f i=n
    ·rw [if_pos e]
     have h1:=h m (wb6 m)
     have:f m≠n:=λz=>absurd (inj i m ⋯ ⋯ (by rw [e,z])) ⋯
     omega
    ·rw [if_neg e]
     have h1:=h i ⋯
     omega) (λi j hi hj e=>by
    have e:(if f i=n then f m else f i)=(if f j=n then f m else f j):=e
    by_cases ei:f i=n
    ·rw [if_pos ei] at e
     by_cases ej:f j=n
     ·exact inj i j ⋯ ⋯ (by rw [ei,ej])
     ·rw [if_neg ej] at e
      exact absurd (inj m j ⋯ ⋯ e) ⋯
    ·rw [if_neg ei] at e
     by_cases ej:f j=n
     ·rw [if_pos ej] at e
      exact absurd (inj i m ⋯ ⋯ e) ⋯
     ·rw [if_neg ej] at e
      exact inj i j ⋯ ⋯ e)
   omega
noncomputable abbrev Rt:=Int×Int
noncomputable def rmul (q:Int) (x y:Rt):Rt:=((x.1*y.1+3*(x.2*y.2)) % q,(x.1*y.2+x.2*y.1) % q)
noncomputable def rpow (q:Int):Nat->Rt
 | 0=>(1 % q,0 % q)
 | n+1=>rmul q (2,1) (rpow q n)
theorem qbY {q a b c:Int} (h:a - b=q*c):a % q=b % q:=by
 have:a=b+q*c:=by omega
 rw [this,Int.add_mul_emod_self_left]
theorem em {a q:Int}:∃ c,a % q=a - q*c:=⟨a / q,by have:=wcf a q;omega⟩
theorem qcP (q:Int) (x y z:Rt):rmul q (rmul q x y) z=rmul q x (rmul q y z):=by
 obtain ⟨a,b⟩:=x
 obtain ⟨c,d⟩:=y
 obtain ⟨e,f⟩:=z
 obtain ⟨c1,h1⟩:=em (a:=a*c+3*(b*d)) (q:=q)
 obtain ⟨c2,h2⟩:=em (a:=a*d+b*c) (q:=q)
 obtain ⟨c3,h3⟩:=em (a:=c*e+3*(d*f)) (q:=q)
 obtain ⟨c4,h4⟩:=em (a:=c*f+d*e) (q:=q)
 refine Prod.ext ?_ ?_
 ·show ((a*c+3*(b*d)) % q*e+3*((a*d+b*c) % q*f)) % q=(a*((c*e+3*(d*f)) % q)+3*(b*((c*f+d*e) % q))) % q
  rw [h1,h2,h3,h4]
  exact qbY (c:=a*c3+3*b*c4 - c1*e - 3*c2*f) (by grind)
 ·show ((a*c+3*(b*d)) % q*f+((a*d+b*c) % q*e)) % q=(a*((c*f+d*e) % q)+(b*((c*e+3*(d*f)) % q))) % q
  rw [h1,h2,h3,h4]
  exact qbY (c:=a*c4+b*c3 - c1*f - c2*e) (by grind)
theorem qph (q:Int) (x y:Rt):rmul q x y=rmul q y x:=by
 refine Prod.ext ?_ ?_
 ·show (x.1*y.1+3*(x.2*y.2)) % q=(y.1*x.1+3*(y.2*x.2)) % q
  congr 1;grind
 ·show (x.1*y.2+x.2*y.1) % q=(y.1*x.2+y.2*x.1) % q
  congr 1;grind
noncomputable def rn (q:Int) (x:Rt):Prop:=x.1 % q=x.1/\x.2 % q=x.2
theorem qsQ (q:Int) (x y:Rt):rn q (rmul q x y):=⟨Int.emod_emod ..,Int.emod_emod ..⟩
theorem qeZ (q:Int):∀ n,rn q (rpow q n)
 | 0=>⟨Int.emod_emod ..,Int.emod_emod ..⟩
 | _+1=>qsQ q _ _
theorem rone (q:Int) {x:Rt} (h:rn q x):rmul q (rpow q 0) x=x:=by
 obtain ⟨c1,h1⟩:=em (a:=1) (q:=q)
 obtain ⟨c2,h2⟩:=em (a:=0) (q:=q)
 refine Prod.ext ?_ ?_
 ·show (1 % q*x.1+3*(0 % q*x.2)) % q=x.1
  rw [h1,h2,<-h.1]
  rw [qbY (b:=x.1 % q) (c:=- c1*(x.1 % q) - 3*c2*x.2) (by grind),Int.emod_emod]
 ·show (1 % q*x.2+0 % q*x.1) % q=x.2
  rw [h1,h2,<-h.2]
  rw [qbY (b:=x.2 % q) (c:=- c1*(x.2 % q) - c2*x.1) (by grind),Int.emod_emod]
theorem qdP (q:Int):∀ m n,rpow q (m+n)=rmul q (rpow q m) (rpow q n)
 | 0,n=>by rw [Nat.zero_add,rone q (qeZ q n)]
 | m+1,n=>by
   rw [Nat.succ_add]
   show rmul q (2,1) (rpow q (m+n))=rmul q (rmul q (2,1) (rpow q m)) (rpow q n)
   rw [qdP q m n,qcP]
noncomputable def rinv (q:Int):Nat->Rt
 | 0=>(1 % q,0 % q)
 | n+1=>rmul q (2,-1) (rinv q n)
theorem r21 (q:Int):rmul q (2,-1) (2,1)=rpow q 0:=by
 refine Prod.ext ?_ ?_
 ·show (2*2+3*(-1*1)) % q=1 % q;rfl
 ·show (2*1 + -1*2) % q=0 % q;rfl
theorem qmV (q:Int):∀ n,rmul q (rinv q n) (rpow q n)=rpow q 0
 | 0=>rone q (qeZ q 0)
 | n+1=>by
   show rmul q (rmul q (2,-1) (rinv q n)) (rmul q (2,1) (rpow q n))=_
   rw [qcP,<-qcP q (rinv q n),qph q (rinv q n) (2,1),qcP q (2,1),qmV q n,<-qcP,r21,rone q (qeZ q 0)]
theorem qjX (q:Int) {m:Nat} (h:rpow q m=rpow q 0):∀ k,rpow q (m*k)=rpow q 0
 | 0=>rfl
 | k+1=>by rw [Nat.mul_succ,qdP,qjX q h k,h,rone q (qeZ q 0)]
theorem rord (q:Int) {n:Nat} (h1:rpow q (2 ^ (n+1))=rpow q 0) (h2:rpow q (2 ^ n)≠rpow q 0):∀ d,0<d->d<2 ^ (n+1)->rpow q d≠rpow q 0:=by
 intro d
 induction d using Nat.strongRecOn with
 | _ d ih=>
 intro d0 hd e
 have hr:=Nat.mod_lt (2 ^ (n+1)) d0
 have er:rpow q (2 ^ (n+1) % d)=rpow q 0:=by
  have e1:=Nat.div_add_mod (2 ^ (n+1)) d
  rw [<-e1,qdP,qjX q e,rone q (qeZ q _)] at h1
  exact h1
 rcases wbj (2 ^ (n+1) % d) with z | z
 ·obtain ⟨k,hk⟩:=Nat.dvd_of_mod_eq_zero z
  obtain ⟨a,ha,hka⟩:=(ql2 (n:=n+1) (k:=d)).mp ⟨k,hk⟩
  have hlt:a<=n:=by
   rcases wan n a with h | h
   ·exfalso
    have:a=n+1:=by omega
    rw [this] at hka
    omega
   ·exact h
  apply h2
  have e2:2 ^ n=d*2 ^ (n - a):=by rw [hka,<-Nat.pow_add];congr 1;omega
  rw [e2]
  exact qjX q e _
 ·exact ih _ hr z ⋯ er
theorem rnorm (q:Int):∀ n,∃ c,(rpow q n).1*(rpow q n).1 - 3*((rpow q n).2*(rpow q n).2) - 1=q*c
 | 0=>by
   obtain ⟨c1,h1⟩:=em (a:=1) (q:=q)
   obtain ⟨c2,h2⟩:=em (a:=0) (q:=q)
   refine ⟨-2*c1+q*c1*c1 - 3*q*c2*c2,?_⟩
   show (1 % q)*(1 % q) - 3*((0 % q)*(0 % q)) - 1=_
   rw [h1,h2];grind
 | n+1=>by
   obtain ⟨c,hc⟩:=rnorm q n
   obtain ⟨c1,h1⟩:=em (a:=2*(rpow q n).1+3*(1*(rpow q n).2)) (q:=q)
   obtain ⟨c2,h2⟩:=em (a:=2*(rpow q n).2+1*(rpow q n).1) (q:=q)
   have e1:(rpow q (n+1)).1=2*(rpow q n).1+3*(1*(rpow q n).2) - q*c1:=h1
   have e2:(rpow q (n+1)).2=2*(rpow q n).2+1*(rpow q n).1 - q*c2:=h2
   rw [e1,e2]
   generalize (rpow q n).1=a at *
   generalize (rpow q n).2=b at *
   exact ⟨c - 2*c1*(2*a+3*b)+q*c1*c1+6*c2*(2*b+a) - 3*q*c2*c2,by grind⟩
theorem qsR (q:Int) (n:Nat):∃ c,2*(rpow q (n+n)).1=(2*(rpow q n).1)*(2*(rpow q n).1) - 2+q*c:=by
 obtain ⟨c,hc⟩:=rnorm q n
 rw [qdP]
 obtain ⟨c1,h1⟩:=em (a:=(rpow q n).1*(rpow q n).1+3*((rpow q n).2*(rpow q n).2)) (q:=q)
 refine ⟨-2*c1 - 2*c,?_⟩
 show 2*(((rpow q n).1*(rpow q n).1+3*((rpow q n).2*(rpow q n).2)) % q)=_
 rw [h1];grind
noncomputable def ll (M:Nat):Nat->Nat->Nat
 | 0,s=>s
 | k+1,s=>ll M k ((s*s+(M - 2)) % M)
theorem qpi {q:Int} {M:Nat} (hM:2<=M) (hq:q∣(M:Int)):∀ (k t s:Nat),q∣2*(rpow q (2 ^ t)).1 - (s:Int)->q∣2*(rpow q (2 ^ (t+k))).1 - (ll M k s:Int)
 | 0,t,s,h=>h
 | k+1,t,s,h=>by
   have:=qpi hM hq k (t+1) ((s*s+(M - 2)) % M) (by
    obtain ⟨c,hc⟩:=qsR q (2 ^ t)
    obtain ⟨d,hd⟩:=h
    obtain ⟨m,hm⟩:=hq
    have e:(2:Nat) ^ (t+1)=2 ^ t+2 ^ t:=by rw [wax];omega
    rw [e,hc]
    have z:(((s*s+(M - 2)) % M:Nat):Int)=(s:Int)*s+(M - 2) - M*(((s*s+(M - 2)) / M:Nat):Int):=by
     have:=Nat.mod_add_div (s*s+(M - 2)) M
     have z2:(((s*s+(M - 2)) % M:Nat):Int)+(M:Int)*(((s*s+(M - 2)) / M:Nat):Int)=(s:Int)*s+(M - 2):=by
      have:=congrArg (λx:Nat=>(x:Int)) this
      simp only [Int.natCast_add,Int.natCast_mul] at this
      rw [this,Int.natCast_sub hM]
      rfl
     omega
    rw [z]
    generalize (((s*s+(M - 2)) / M:Nat):Int)=w
    generalize (rpow q (2 ^ t)).1=a at hd
    have hd':2*a=s+q*d:=by omega
    rw [hd',hm]
    exact ⟨2*s*d+q*d*d+c - m+m*w,by grind⟩)
   rw [show t+(k+1)=t+1+k by omega]
   exact this
theorem qqY {n:Nat} (h:ll (2 ^ (n+2) - 1) n 4 % (2 ^ (n+2) - 1)=0):Pr (2 ^ (n+2) - 1):=by
 have big:4<=2 ^ (n+2):=by rw [Nat.pow_add];have:=Nat.one_le_two_pow (n:=n);omega
 generalize hM:2 ^ (n+2) - 1=M at h ⊢
 obtain ⟨q,pq,qM,hq⟩:=qk6 (m:=M) ⋯
 rcases hq with e | hq
 ·rw [<-e];exact pq
 exfalso
 have qI:(q:Int)∣(M:Int):=wcp.mpr qM
 have q2:=pq.two
 have odd:q≠2:=λz=>by
  rw [z] at qM
  have:2 ^ (n+2)=2*2 ^ (n+1):=by rw [wax 2 (n+1)];omega
  omega
 have s0:(q:Int)∣2*(rpow q (2 ^ (0+n))).1 - (ll M n 4:Int):=qpi ⋯ qI n 0 4 (by
  show (q:Int)∣2*(rmul q (2,1) (rpow q 0)).1 - 4
  obtain ⟨c1,h1⟩:=em (a:=1) (q:=(q:Int))
  obtain ⟨c2,h2⟩:=em (a:=0) (q:=(q:Int))
  show (q:Int)∣2*((2*(1 % (q:Int))+3*(1*(0 % (q:Int)))) % (q:Int)) - 4
  obtain ⟨c3,h3⟩:=em (a:=2*(1 % (q:Int))+3*(1*(0 % (q:Int)))) (q:=(q:Int))
  rw [h3,h1,h2]
  exact ⟨-4*c1 - 6*c2 - 2*c3,by grind⟩)
 have s1:(q:Int)∣(ll M n 4:Int):=wcp.mpr (Nat.dvd_trans qM (Nat.dvd_of_mod_eq_zero h))
 have s2:(q:Int)∣2*(rpow q (2 ^ n)).1:=by
  have:=wbk s0 s1
  rw [Nat.zero_add] at this
  rw [Int.sub_add_cancel] at this
  exact this
 have s3:(q:Int)∣(rpow q (2 ^ n)).1:=by
  rcases pq.mulI s2 with z | z
  ·exfalso
   have z2:=wcp.mp (show (q:Int)∣((2:Nat):Int) from z)
   have:=wbx ∅ z2
   omega
  ·exact z
 have qne:(q:Int)≠0:=by omega
 have m1:rpow q (2 ^ (n+1))=((-1) % (q:Int),0 % (q:Int)):=by
  have e:(2:Nat) ^ (n+1)=2 ^ n+2 ^ n:=by rw [wax];omega
  rw [e,qdP]
  obtain ⟨c,hc⟩:=rnorm q (2 ^ n)
  obtain ⟨d,hd⟩:=s3
  refine Prod.ext ?_ ?_
  ·show ((rpow q (2 ^ n)).1*(rpow q (2 ^ n)).1+3*((rpow q (2 ^ n)).2*(rpow q (2 ^ n)).2)) % (q:Int)=(-1) % (q:Int)
   refine qbY (c:=2*q*d*d - c) ?_
   generalize (rpow q (2 ^ n)).2=b at *
   rw [hd] at hc ⊢
   grind
  ·show ((rpow q (2 ^ n)).1*(rpow q (2 ^ n)).2+(rpow q (2 ^ n)).2*(rpow q (2 ^ n)).1) % (q:Int)=0 % (q:Int)
   refine qbY (c:=2*d*(rpow q (2 ^ n)).2) ?_
   rw [hd];grind
 have h2:rpow q (2 ^ (n+1))≠rpow q 0:=λz=>by
  rw [m1] at z
  have z1:(-1) % (q:Int)=1 % (q:Int):=congrArg Prod.fst z
  have z2:(q:Int)∣-1 - 1:=wcj ((Int.emod_eq_emod_iff_emod_sub_eq_zero).mp z1)
  have z3:=wbb.mpr z2
  have:=wbx ∅ z3
  rw [wa9] at this
  have:(-1 - 1:Int).natAbs=2:=by decide
  omega
 have h1:rpow q (2 ^ (n+1+1))=rpow q 0:=by
  have e:(2:Nat) ^ (n+1+1)=2 ^ (n+1)+2 ^ (n+1):=by rw [wax 2 (n+1)];omega
  rw [e,qdP,m1]
  obtain ⟨c1,e1⟩:=em (a:=-1) (q:=(q:Int))
  obtain ⟨c2,e2⟩:=em (a:=0) (q:=(q:Int))
  refine Prod.ext ?_ ?_
  ·show ((-1) % (q:Int)*((-1) % (q:Int))+3*(0 % (q:Int)*(0 % (q:Int)))) % (q:Int)=1 % (q:Int)
   refine qbY (c:=2*c1+q*c1*c1+3*q*c2*c2) ?_
   rw [e1,e2];grind
  ·show ((-1) % (q:Int)*(0 % (q:Int))+0 % (q:Int)*((-1) % (q:Int))) % (q:Int)=0 % (q:Int)
   refine qbY (c:=2*c2+2*q*c1*c2) ?_
   rw [e1,e2];grind
 have ord:=rord (q:Int) h1 h2
 have ne:∀ i d,0<d->i+d<2 ^ (n+2)->rpow q i≠rpow q (i+d):=λi d d0 hd z=>by
  have e:rpow q d=rpow q 0:=by
   have a:=qmV (q:Int) i
   have b:rmul q (rinv q i) (rpow q (i+d))=rpow q d:=by
    rw [qdP,<-qcP,a,rone _ (qeZ _ _)]
   rw [<-b,<-z,a]
  exact ord d d0 (by have:(2:Nat) ^ (n+1+1)=2 ^ (n+2):=rfl;omega) e
 have lt:∀ i,0<=(rpow q i).1/\(rpow q i).1<q/\0<=(rpow q i).2/\(rpow q i).2<q:=λi=>by
  obtain ⟨a,b⟩:=qeZ (q:Int) i
  have p0:(0:Int)<q:=by omega
  have u1:=wav (rpow q i).1 qne
  have u2:=waz (rpow q i).1 p0
  have u3:=wav (rpow q i).2 qne
  have u4:=waz (rpow q i).2 p0
  rw [a] at u1 u2
  rw [b] at u3 u4
  exact ⟨u1,u2,u3,u4⟩
 have pg:=pigeon (q*q) (2 ^ (n+2)) (λi=>(rpow q i).1.toNat*q+(rpow q i).2.toNat) (λi _=>by
  obtain ⟨a,b,c,d⟩:=lt i
  have a':(rpow q i).1.toNat+1<=q:=by omega
  have d':(rpow q i).2.toNat<q:=by omega
  have:=wbd q a'
  rw [Nat.add_mul,Nat.one_mul] at this
  show (rpow q i).1.toNat*q+(rpow q i).2.toNat<q*q
  omega) (λi j hi hj e=>by
  have e:(rpow q i).1.toNat*q+(rpow q i).2.toNat=(rpow q j).1.toNat*q+(rpow q j).2.toNat:=e
  obtain ⟨a,b,c,d⟩:=lt i
  obtain ⟨a',b',c',d'⟩:=lt j
  have m1:=congrArg (·% q) e
  have m2:=congrArg (·/ q) e
  simp only [wbe _ q,Nat.mul_add_mod,Nat.mul_add_div (show 0<q by omega)] at m1 m2
  rw [Nat.mod_eq_of_lt ⋯,Nat.mod_eq_of_lt ⋯] at m1
  rw [Nat.div_eq_of_lt ⋯,Nat.div_eq_of_lt ⋯] at m2
  have ee:rpow q i=rpow q j:=Prod.ext ⋯ ⋯
  rcases Nat.lt_trichotomy i j with h | h | h
  ·exact absurd ee (by have:=ne i (j - i) ⋯ ⋯;rw [show i+(j - i)=j by omega] at this;exact this)
  ·exact h
  ·exact absurd ee.symm (by have:=ne j (i - j) ⋯ ⋯;rw [show j+(i - j)=i by omega] at this;exact this))
 omega
end Bs
namespace Bs
noncomputable def llk (M k s:Nat):Nat:=Nat.rec (motive:=λ_=>Nat->Nat) (λs=>s) (λ_ ih s=>ih ((s*s+(M - 2)) % M)) k s
noncomputable def llf (x:Nat) (f:Nat->Nat):Nat:=Nat.rec (motive:=λ_=>Nat) (f 0) (λn _=>f (n+1)) x
noncomputable def llo (M k j s:Nat):Nat:=Nat.rec (motive:=λ_=>Nat->Nat) (λs=>s) (λ_ ih s=>llf (llk M k s) ih) j s
theorem qpj (M:Nat):∀ k s,llk M k s=ll M k s
 | 0,_=>rfl
 | k+1,s=>qpj M k _
theorem qrV (x:Nat) (f:Nat->Nat):llf x f=f x:=by cases x <;> rfl
theorem qpk (M:Nat):∀ a b s,ll M (a+b) s=ll M b (ll M a s)
 | 0,b,s=>by rw [Nat.zero_add];rfl
 | a+1,b,s=>by rw [Nat.succ_add];exact qpk M a b _
theorem qrW (M k:Nat):∀ j s,llo M k j s=ll M (k*j) s
 | 0,_=>rfl
 | j+1,s=>by
   show llf (llk M k s) (llo M k j)=_
   rw [qrV,qpj,qrW M k j,<-qpk]
   congr 1
   rw [Nat.mul_succ,Nat.add_comm]
noncomputable def mers (e:Nat):Nat:=2 ^ e - 1
theorem qdb {n r k j:Nat} (e:n=k*j+r) (h:Nat.beq (llf (llo (mers (n+2)) k j 4) (λs=>llk (mers (n+2)) r s % mers (n+2))) 0=true):Pr (mers (n+2)):=by
 refine qqY ?_
 replace h:=Nat.eq_of_beq_eq_true h
 rw [qrV,qrW,qpj,<-qpk,<-e] at h
 exact h
theorem qwh:Pr (mers 61):=qdb (n:=59) (r:=9) (k:=10) (j:=5) rfl (by decide +kernel)
theorem qvr:Pr (mers 127):=qdb (n:=125) (r:=5) (k:=20) (j:=6) rfl (by decide +kernel)
theorem qvs:Pr (mers 521):=qdb (n:=519) (r:=19) (k:=50) (j:=10) rfl (by decide +kernel)
theorem quB:Pr (mers 1279):=qdb (n:=1277) (r:=77) (k:=100) (j:=12) rfl (by decide +kernel)
theorem quC:Pr (mers 4423):=qdb (n:=4421) (r:=21) (k:=100) (j:=44) rfl (by decide +kernel)
theorem quD:Pr (mers 9941):=qdb (n:=9939) (r:=39) (k:=100) (j:=99) rfl (by decide +kernel)
theorem qsS:Pr (mers 21701):=qdb (n:=21699) (r:=99) (k:=150) (j:=144) rfl (by decide +kernel)
theorem qsT:Pr (mers 44497):=qdb (n:=44495) (r:=95) (k:=200) (j:=222) rfl (by decide +kernel)
end Bs
namespace Bs
noncomputable def co (ns:List Int) (k:Nat):Int:=ns.getD k 0
section
variable {α:Type} [Lean.Grind.CommRing α]
noncomputable def qaN:List α->List α->List α
 | [],b=>b
 | a,[]=>a
 | x::a,y::b=>(x+y)::qaN a b
theorem qdB (a:List α):qaN a []=a:=by cases a <;> rfl
theorem qaw (g:Nat->α):∀ (a b:List α) (k:Nat),cvL (qaN a b) g k=cvL a g k+cvL b g k
 | [],b,k=>by show cvL b g k=0+cvL b g k;grind
 | x::a,[],k=>by rw [qdB,qaF];grind
 | x::a,y::b,0=>by show cvL ((x+y)::qaN a b) g 0=_;rw [qar,qar,qar];grind
 | x::a,y::b,k+1=>by show cvL ((x+y)::qaN a b) g (k+1)=_;rw [qam,qam,qam,qaw g a b k];grind
theorem qau (c:α) (g:Nat->α):∀ (a:List α) (k:Nat),cvL (a.map (c*·)) g k=c*cvL a g k
 | [],k=>by show (0:α)=c*0;grind
 | x::a,0=>by rw [List.map_cons,qar,qar];grind
 | x::a,k+1=>by rw [List.map_cons,qam,qam,qau c g a k];grind
noncomputable def upS (s:Nat) (f:Nat->α) (k:Nat):α:=if s<=k then f (k - s) else 0
theorem qcY (g:Nat->α):∀ (s:Nat) (a:List α) (k:Nat),cvL (List.replicate s 0++a) g k=upS s (cvL a g) k
 | 0,a,k=>by unfold upS;rw [if_pos (wad k)];rfl
 | s+1,a,0=>by unfold upS;rw [if_neg ⋯];show cvL (0::(List.replicate s 0++a)) g 0=0;rw [qar];grind
 | s+1,a,k+1=>by
   show cvL (0::(List.replicate s 0++a)) g (k+1)=_
   rw [qam,qcY g s a k]
   unfold upS
   by_cases h:s<=k
   ·rw [if_pos h,if_pos ⋯,show k+1 - (s+1)=k - s by omega];grind
   ·rw [if_neg h,if_neg ⋯];grind
noncomputable def qaE:List α->List α->List α
 | [],_=>[]
 | x::a,b=>qaN (b.map (x*·)) (0::qaE a b)
theorem qav (g:Nat->α):∀ (a b:List α) (k:Nat),cvL (qaE a b) g k=cvL a (cvL b g) k
 | [],b,k=>rfl
 | x::a,b,k=>by
   show cvL (qaN (b.map (x*·)) (0::qaE a b)) g k=_
   rw [qaw,qau,qda,qda]
   have e:up1 (cvL (qaE a b) g) k=up1 (cvL a (cvL b g)) k:=by
    cases k with
    | zero=>rfl
    | succ k=>exact qav g a b k
   rw [e]
   grind
theorem qbs (g:Nat->α) (s:α):∀ (a:List α) (k:Nat),cvL (a++[s]) g k=cvL a g k+s*upS a.length g k
 | [],0=>by show cvL [s] g 0=0+s*g 0;rw [qar];grind
 | [],k+1=>by show cvL [s] g (k+1)=0+s*g (k+1);rw [qam,qaF];grind
 | x::a,0=>by show cvL (x::(a++[s])) g 0=_;rw [qar,qar];unfold upS;rw [if_neg (by simp)];grind
 | x::a,k+1=>by
   show cvL (x::(a++[s])) g (k+1)=_
   rw [qam,qam,qbs g s a k]
   have e:upS (x::a).length g (k+1)=upS a.length g k:=by
    unfold upS
    rw [wbc]
    by_cases h:a.length<=k
    ·rw [if_pos h,if_pos ⋯,show k+1 - (a.length+1)=k - a.length by omega]
    ·rw [if_neg h,if_neg ⋯]
   rw [e];grind
theorem qck (a:List α) {g:Nat->α} (h:∀ k,g k=0) (k:Nat):cvL a g k=0:=by
 rw [qas (c:=λk=>0*g k) (λj=>by rw [h j];grind) a k,qbo]
 grind
end
theorem qaO (a:List Int) (k:Nat):co a k=cvL a qb8 k:=(qcC a k).symm
theorem qbm (a b:List Int) (k:Nat):cvL a (co b) k=cvL b (co a) k:=by
 rw [qas (qaO b) a k,qdO,qas (λj=>(qaO a j).symm) b k]
theorem qay {a:List Int} {k:Nat} (h:a.length<=k):co a k=0:=by
 unfold co;rw [wab,wa0 h];rfl
theorem qbM {g:Nat->Int} {n:Nat} (h:∀ i,n<=i->g i=0):∀ (a:List Int) (k:Nat),a.length+n<=k+1->cvL a g k=0
 | [],_,_=>rfl
 | x::a,0,hk=>by
   rw [wbc] at hk
   rw [qar,h 0 ⋯];omega
 | x::a,k+1,hk=>by
   rw [wbc] at hk
   rw [qam,h (k+1) ⋯,qbM h a k ⋯];omega
theorem qjY {p:Int} {g:Nat->Int} {n:Nat} (h:∀ i,n<i->p∣g i):∀ (a:List Int) (k:Nat),a.length+n<=k->p∣cvL a g k
 | [],_,_=>wbn p
 | x::a,0,hk=>absurd hk (by rw [wbc];omega)
 | x::a,k+1,hk=>by
   rw [wbc] at hk
   rw [qam]
   exact wbk (wcq (h (k+1) ⋯)) (qjY h a k ⋯)
theorem qfo {p:Nat} (hp:Pr p) {g:Nat->Int} {n:Nat} (h0:¬ (p:Int)∣g n) (h:∀ i,n<i->(p:Int)∣g i) (S:List Int) :
  (∀ k,n<=k->(p:Int)∣cvL S g k)->∀ s∈S,(p:Int)∣s:=by
 induction hl:S.length generalizing S with
 | zero=>intro _ s hs;rw [way.mp hl] at hs;exact nomatch hs
 | succ m ih=>
   intro hk
   have ne:S≠[]:=λz=>by rw [z] at hl;simp at hl
   obtain ⟨T,t,rfl⟩:∃ T t,S=T++[t]:=⟨S.dropLast,S.getLast ne,(wcr ne).symm⟩
   have hT:T.length=m:=by simpa using hl
   have ht:(p:Int)∣t:=by
    have a:=hk (T.length+n) ⋯
    rw [qbs] at a
    have b:=qjY h T (T.length+n) (wac _)
    have c:(p:Int)∣t*upS T.length g (T.length+n):=by
     have:=Int.dvd_sub a b
     rwa [show ∀ x y:Int,x+y - x=y by intro x y;omega] at this
    unfold upS at c
    rw [if_pos ⋯,show T.length+n - T.length=n by omega] at c
    rcases hp.mulI c with z | z
    ·exact z
    ·exact absurd z h0
   have hT2:=ih T hT (λk hk2=>by
    have a:=hk k hk2
    rw [qbs] at a
    have:=Int.dvd_sub a (wcl (c:=upS T.length g k) ht)
    rwa [show ∀ x y:Int,x+y - y=x by intro x y;omega] at this)
   intro s hs
   rcases wa2.mp hs with h | h
   ·exact hT2 s h
   ·rw [wag.mp h];exact ht
noncomputable def Lz (g:List Int):Prop:=0<g.length/\co g (g.length - 1)≠0
noncomputable def QI (r o f:Nat->Int):Prop:=∃ d:Int,d≠0/\∃ U V:List Int,∀ k,d*f k=cvL U r k+cvL V o k
noncomputable def MQ (g f:Nat->Int):Prop:=∃ c:Int,c≠0/\∃ A:List Int,∀ k,c*f k=cvL A g k
theorem QI.congr {r o f h:Nat->Int} (q:QI r o f) (e:∀ k,h k=f k):QI r o h:=by
 obtain ⟨d,d0,U,V,hU⟩:=q
 exact ⟨d,d0,U,V,λk=>by rw [e k];exact hU k⟩
theorem QI.left (r o:Nat->Int):QI r o r:=⟨1,∅,[1],[],λk=>by
 rw [qaF]
 cases k with
 | zero=>rw [qar];omega
 | succ k=>rw [qam,qaF];omega⟩
theorem QI.right (r o:Nat->Int):QI r o o:=⟨1,∅,[],[1],λk=>by
 rw [qaF]
 cases k with
 | zero=>rw [qar];omega
 | succ k=>rw [qam,qaF];omega⟩
theorem QI.less {r o f h:Nat->Int} (q:QI r o f) (q':QI r o h) (a w:Int) (s:Nat):QI r o (λk=>a*f k - w*upS s h k):=by
 obtain ⟨d,d0,U,V,hU⟩:=q
 obtain ⟨d',d0',U',V',hU'⟩:=q'
 refine ⟨d*d',wak d0 d0',qaN (U.map (d'*a*·)) (List.replicate s 0++U'.map (-(d*w)*·)),qaN (V.map (d'*a*·)) (List.replicate s 0++V'.map (-(d*w)*·)),λk=>?_⟩
 show d*d'*(a*f k - w*upS s h k)=_
 rw [qaw,qaw,qau,qau,qcY,qcY]
 unfold upS
 have e1:=hU k
 by_cases hs:s<=k
 ·rw [if_pos hs,if_pos hs,if_pos hs,qau,qau]
  have e2:=hU' (k - s)
  grind
 ·rw [if_neg hs,if_neg hs,if_neg hs]
  grind
theorem QI.scal {r o f:Nat->Int} {c:Int} (c0:c≠0) (q:QI r o (λk=>c*f k)):QI r o f:=by
 obtain ⟨d,d0,U,V,hU⟩:=q
 exact ⟨d*c,wak d0 c0,U,V,λk=>by rw [<-hU k];grind⟩
theorem QI.trans {r o a b f:Nat->Int} (qa:QI r o a) (qb:QI r o b) (q:QI a b f):QI r o f:=by
 obtain ⟨d,d0,U,V,hU⟩:=q
 obtain ⟨d1,d10,U1,V1,h1⟩:=qa
 obtain ⟨d2,d20,U2,V2,h2⟩:=qb
 refine ⟨d1*d2*d,wak (wak d10 d20) d0,qaN ((qaE U U1).map (d2*·)) ((qaE V U2).map (d1*·)),qaN ((qaE U V1).map (d2*·)) ((qaE V V2).map (d1*·)),λk=>?_⟩
 rw [qaw,qaw,qau,qau,qau,qau,qav,qav,qav,qav]
 have e1:d1*cvL U a k=cvL U (cvL U1 r) k+cvL U (cvL V1 o) k:=by
  rw [<-qbo,<-qdN];exact qas h1 U k
 have e2:d2*cvL V b k=cvL V (cvL U2 r) k+cvL V (cvL V2 o) k:=by
  rw [<-qbo,<-qdN];exact qas h2 V k
 have e3:=hU k
 grind
theorem MQ.refl (g:Nat->Int):MQ g g:=⟨1,∅,[1],λk=>by
 cases k with
 | zero=>rw [qar];omega
 | succ k=>rw [qam,qaF];omega⟩
theorem MQ.zero (g:Nat->Int) {f:Nat->Int} (h:∀ k,f k=0):MQ g f:=⟨1,∅,[],λk=>by rw [qaF,h k];rfl⟩
theorem MQ.congr {g f h:Nat->Int} (m:MQ g f) (e:∀ k,h k=f k):MQ g h:=by
 obtain ⟨c,c0,A,hA⟩:=m
 exact ⟨c,c0,A,λk=>by rw [e k];exact hA k⟩
theorem MQ.less {g f h:Nat->Int} (m:MQ g f) (m':MQ g h) (a w:Int) (s:Nat):MQ g (λk=>a*f k - w*upS s h k):=by
 obtain ⟨d,d0,U,hU⟩:=m
 obtain ⟨d',d0',U',hU'⟩:=m'
 refine ⟨d*d',wak d0 d0',qaN (U.map (d'*a*·)) (List.replicate s 0++U'.map (-(d*w)*·)),λk=>?_⟩
 show d*d'*(a*f k - w*upS s h k)=_
 rw [qaw,qau,qcY]
 unfold upS
 have e1:=hU k
 by_cases hs:s<=k
 ·rw [if_pos hs,if_pos hs,qau]
  have e2:=hU' (k - s)
  grind
 ·rw [if_neg hs,if_neg hs]
  grind
theorem MQ.scal {g f:Nat->Int} {c:Int} (c0:c≠0) (m:MQ g (λk=>c*f k)):MQ g f:=by
 obtain ⟨d,d0,A,hA⟩:=m
 exact ⟨d*c,wak d0 c0,A,λk=>by rw [<-hA k];grind⟩
theorem MQ.trans {g f h:Nat->Int} (m:MQ g f) (m':MQ f h):MQ g h:=by
 obtain ⟨c,c0,A,hA⟩:=m
 obtain ⟨d,d0,B,hB⟩:=m'
 refine ⟨c*d,wak c0 d0,qaE B A,λk=>?_⟩
 rw [qav]
 have e:c*cvL B f k=cvL B (cvL A g) k:=by rw [<-qbo];exact qas hA B k
 rw [<-e,<-hB k];grind
theorem MQ.of_QI {r o f g:Nat->Int} (m1:MQ g r) (m2:MQ g o) (q:QI r o f):MQ g f:=by
 obtain ⟨d,d0,U,V,hU⟩:=q
 obtain ⟨c,c0,A,hA⟩:=m1
 obtain ⟨e,e0,B,hB⟩:=m2
 refine ⟨c*e*d,wak (wak c0 e0) d0,qaN ((qaE U A).map (e*·)) ((qaE V B).map (c*·)),λk=>?_⟩
 rw [qaw,qau,qau,qav,qav]
 have e1:c*cvL U r k=cvL U (cvL A g) k:=by rw [<-qbo];exact qas hA U k
 have e2:e*cvL V o k=cvL V (cvL B g) k:=by rw [<-qbo];exact qas hB V k
 have e3:=hU k
 grind
theorem QI.of_MQ {r o f h:Nat->Int} (q:QI r o f) (m:MQ f h):QI r o h:=by
 obtain ⟨c,c0,A,hA⟩:=m
 obtain ⟨d,d0,U,V,hU⟩:=q
 refine ⟨d*c,wak d0 c0,qaE A U,qaE A V,λk=>?_⟩
 rw [qav,qav]
 have e:d*cvL A f k=cvL A (cvL U r) k+cvL A (cvL V o) k:=by rw [<-qbo,<-qdN];exact qas hU A k
 rw [<-e,<-hA k];grind
end Bs
namespace Bs
theorem qe0 {f:List Int} (h:co f (f.length - 1)=0) (k:Nat):co f.dropLast k=co f k:=by
 unfold co at *
 rw [wab,wab]
 rw [List.getElem?_dropLast]
 by_cases hk:k<f.length - 1
 ·rw [if_pos hk]
 ·rw [if_neg hk]
  by_cases e:k=f.length - 1
  ·subst e
   rw [wab] at h
   rw [h];rfl
  ·rw [wa0 ⋯]
theorem qiK (f:List Int):(∀ k,co f k=0)\/∃ g,Lz g/\g.length<=f.length/\∀ k,co g k=co f k:=by
 induction hn:f.length generalizing f with
 | zero=>exact .inl λk=>qay ⋯
 | succ n ih=>
   by_cases h:co f (f.length - 1)=0
   ·rcases ih f.dropLast (by rw [List.length_dropLast];omega) with z | ⟨g,g1,g2,g3⟩
    ·exact .inl λk=>by rw [<-qe0 h];exact z k
    ·exact .inr ⟨g,g1,⋯,λk=>by rw [g3,qe0 h]⟩
   ·exact .inr ⟨f,⟨⋯,h⟩,⋯,λ_=>rfl⟩
theorem qfp (n:Nat) (F:Nat->Int) (k:Nat):co ((List.range n).map F) k=if k<n then F k else 0:=by
 unfold co
 rw [wab,wae]
 by_cases h:k<n
 ·rw [if_pos h,wb1 h];rfl
 ·rw [if_neg h,wa0 (by rw [waw];omega)];rfl
structure Gen (r o:Nat->Int) (g:List Int):Prop where
 lz:Lz g
 qi:QI r o (co g)
 len:∀ h,Lz h->QI r o (co h)->g.length<=h.length
 last:∀ h,Lz h->QI r o (co h)->h.length=g.length->(co g (g.length - 1)).natAbs<=(co h (h.length - 1)).natAbs
theorem quE {r o:Nat->Int} {f:List Int} (lf:Lz f) (q:QI r o (co f)):∃ g,Gen r o g:=by
 have L:∀ n,(∃ f,f.length=n/\Lz f/\QI r o (co f))->∃ m,(∃ f,f.length=m/\Lz f/\QI r o (co f))/\∀ h,Lz h->QI r o (co h)->m<=h.length:=by
  intro n
  induction n using Nat.strongRecOn with
  | _ n ih=>
    intro hf
    by_cases hx:∃ m,m<n/\∃ f,f.length=m/\Lz f/\QI r o (co f)
    ·obtain ⟨m,hm,hx⟩:=hx
     exact ih m hm hx
    ·refine ⟨n,hf,λh lh qh=>?_⟩
     rcases wan h.length n with z | z
     ·exact absurd ⟨h.length,z,h,rfl,lh,qh⟩ hx
     ·exact z
 obtain ⟨m,⟨f1,e1,l1,q1⟩,hm⟩:=L f.length ⟨f,rfl,lf,q⟩
 have M:∀ n,(∃ f,f.length=m/\Lz f/\QI r o (co f)/\(co f (f.length - 1)).natAbs=n)->∃ g,Gen r o g:=by
  intro n
  induction n using Nat.strongRecOn with
  | _ n ih=>
    rintro ⟨f,fm,lf,qf,fn⟩
    by_cases hx:∃ j,j<n/\∃ f,f.length=m/\Lz f/\QI r o (co f)/\(co f (f.length - 1)).natAbs=j
    ·obtain ⟨j,hj,hx⟩:=hx
     exact ih j hj hx
    ·refine ⟨f,lf,qf,λh lh qh=>by rw [fm];exact hm h lh qh,λh lh qh hl=>?_⟩
     rcases wan (co h (h.length - 1)).natAbs (co f (f.length - 1)).natAbs with z | z
     ·exact absurd ⟨_,⋯,h,⋯,lh,qh,rfl⟩ hx
     ·exact z
 exact M _ ⟨f1,e1,l1,q1,rfl⟩
theorem Gen.mq {r o:Nat->Int} {g:List Int} (G:Gen r o g):∀ (n:Nat) (f:List Int),f.length<=n->QI r o (co f)->MQ (co g) (co f)
 | 0,f,h,_=>MQ.zero _ λk=>qay ⋯
 | n+1,f,h,q=>by
   rcases qiK f with z | ⟨f1,l1,h1,e1⟩
   ·exact MQ.zero _ z
   have q1:QI r o (co f1):=q.congr e1
   have gl:=G.len f1 l1 q1
   refine MQ.congr (f:=co f1) ?_ λk=>(e1 k).symm
   generalize hs:f1.length - g.length=s
   have g0:=G.lz.1
   let F:List Int:=(List.range (f1.length - 1)).map λk=>co g (g.length - 1)*co f1 k - co f1 (f1.length - 1)*upS s (co g) k
   have eF:∀ k,co F k=co g (g.length - 1)*co f1 k - co f1 (f1.length - 1)*upS s (co g) k:=λk=>by
    rw [qfp]
    by_cases hk:k<f1.length - 1
    ·rw [if_pos hk]
    ·rw [if_neg hk]
     unfold upS
     by_cases hk2:k=f1.length - 1
     ·rw [if_pos ⋯,hk2,show f1.length - 1 - s=g.length - 1 by omega];grind
     ·rw [qay (a:=f1) ⋯]
      by_cases hk3:s<=k
      ·rw [if_pos hk3,qay (a:=g) (k:=k - s) ⋯];omega
      ·rw [if_neg hk3];omega
   have qF:QI r o (co F):=QI.congr (q1.less G.qi (co g (g.length - 1)) (co f1 (f1.length - 1)) s) eF
   have lF:F.length<=n:=by
    have:F.length=f1.length - 1:=by show ((List.range (f1.length - 1)).map _).length=_;rw [waa,waw]
    omega
   have m:=Gen.mq G n F lF qF
   have m2:=MQ.less (MQ.congr m λk=>(eF k).symm) (MQ.refl (co g)) 1 (-(co f1 (f1.length - 1))) s
   refine MQ.scal (c:=co g (g.length - 1)) G.lz.2 (MQ.congr m2 λk=>?_)
   show _=1*_ - _*upS s (co g) k
   generalize upS s (co g) k=y
   grind
theorem Gen.prim {r o:Nat->Int} {g:List Int} (G:Gen r o g) {p:Nat} (hp:2<=p):∃ n,¬ (p:Int)∣co g n/\∀ i,n<i->(p:Int)∣co g i:=by
 have key:∀ n,(∀ i,n<=i->(p:Int)∣co g i)->(∀ i,(p:Int)∣co g i)\/∃ n,¬ (p:Int)∣co g n/\∀ i,n<i->(p:Int)∣co g i:=by
  intro n
  induction n with
  | zero=>intro h;exact .inl λi=>h i (wad i)
  | succ n ih=>
    intro h
    by_cases hd:(p:Int)∣co g n
    ·exact ih λi hi=>by
      by_cases e:i=n
      ·rw [e];exact hd
      ·exact h i ⋯
    ·exact .inr ⟨n,hd,λi hi=>h i ⋯⟩
 rcases key g.length (λi hi=>by rw [qay hi];exact wbn _) with h | h
 ·exfalso
  let h1:List Int:=g.map (·/ (p:Int))
  have e1:∀ k,(p:Int)*co h1 k=co g k:=λk=>by
   have:co h1 k=co g k / (p:Int):=by
    show (g.map (·/ (p:Int))).getD k 0=g.getD k 0 / (p:Int)
    rw [wab,wab,wae]
    cases g[k]? with
    | none=>exact (Int.zero_ediv _).symm
    | some z=>rfl
   rw [this,Int.mul_ediv_cancel' (h k)]
  have p0:(p:Int)≠0:=by omega
  have qmZ:h1.length=g.length:=waa ..
  have ne:co h1 (h1.length - 1)≠0:=λz=>G.lz.2 (by rw [<-e1,<-qmZ,z];omega)
  have l1:Lz h1:=⟨by rw [qmZ];exact G.lz.1,ne⟩
  have q1:QI r o (co h1):=QI.scal (c:=(p:Int)) p0 (QI.congr G.qi e1)
  have lt:=G.last h1 l1 q1 qmZ
  have e2:=e1 (g.length - 1)
  rw [<-qmZ] at e2
  rw [qmZ] at e2 lt
  rw [<-e2,wam,wa9] at lt
  rw [qmZ] at ne
  have pos:0<(co h1 (g.length - 1)).natAbs:=by omega
  have:=wbd (co h1 (g.length - 1)).natAbs hp
  omega
 ·exact h
theorem Gen.loc {r o:Nat->Int} {g:List Int} (G:Gen r o g) {p:Nat} (hp:Pr p) {f:Nat->Int} (m:MQ (co g) f) :
  ∃ (c:Int) (A:List Int),¬ (p:Int)∣c/\∀ k,c*f k=cvL A (co g) k:=by
 obtain ⟨n,n0,n1⟩:=G.prim hp.two
 obtain ⟨c,c0,A,hA⟩:=m
 have key:∀ (m:Nat) (c:Int) (A:List Int),c.natAbs<=m->c≠0->(∀ k,c*f k=cvL A (co g) k)->∃ (c:Int) (A:List Int),¬ (p:Int)∣c/\∀ k,c*f k=cvL A (co g) k:=by
  intro m
  induction m with
  | zero=>intro c A h h0;omega
  | succ m ih=>
    intro c A h h0 hA
    by_cases hd:(p:Int)∣c
    ·have dA:∀ a∈A,(p:Int)∣a:=qfo hp n0 n1 A λk _=>by rw [<-hA k];exact wcl hd
     obtain ⟨c',rfl⟩:=hd
     have p2:=hp.two
     have c0':c'≠0:=λz=>h0 (by rw [z];omega)
     have eA:A=(A.map (·/ (p:Int))).map ((p:Int)*·):=by
      rw [List.map_map]
      conv=>lhs;rw [<-List.map_id A]
      refine wcb λa ha=>?_
      show a=(p:Int)*(a / (p:Int))
      rw [Int.mul_ediv_cancel' (dA a ha)]
     refine ih c' (A.map (·/ (p:Int))) ?_ c0' λk=>?_
     ·rw [wam,wa9] at h
      have pos:0<c'.natAbs:=by omega
      have:=wbd c'.natAbs p2
      omega
     ·have e:=hA k
      rw [eA,qau,Int.mul_assoc] at e
      exact Int.eq_of_mul_eq_mul_left ⋯ e
    ·exact ⟨c,A,hd,hA⟩
 exact key _ c A (wac _) c0 hA
theorem qwi (a b:Nat):∃ x y:Int,x*a+y*b=(Nat.gcd a b:Int):=by
 induction a,b using Nat.gcd.induction with
 | H0 n=>exact ⟨0,1,by simp⟩
 | H1 m n hm ih=>
   obtain ⟨x,y,h⟩:=ih
   refine ⟨y - x*((n / m:Nat):Int),x,?_⟩
   rw [Nat.gcd_rec,<-h]
   have e:(n:Int)=(m:Int)*((n / m:Nat):Int)+((n % m:Nat):Int):=by
    have:=Nat.div_add_mod n m
    exact_mod_cast this.symm
   generalize ((n / m:Nat):Int)=q at *
   generalize ((n % m:Nat):Int)=w at *
   rw [e];grind
theorem qvt (a b:Int):∃ x y:Int,x*a+y*b=(Int.gcd a b:Int):=by
 obtain ⟨x,y,h⟩:=qwi a.natAbs b.natAbs
 have s:∀ z:Int,∃ e:Int,(z.natAbs:Int)=e*z:=λz=>by
  rcases Int.natAbs_eq z with h | h
  ·exact ⟨1,⋯⟩
  ·exact ⟨-1,⋯⟩
 obtain ⟨e,he⟩:=s a
 obtain ⟨f,hf⟩:=s b
 refine ⟨x*e,y*f,?_⟩
 show _=((Nat.gcd a.natAbs b.natAbs:Nat):Int)
 rw [<-h,he,hf];grind
noncomputable def Dm (p:Int) (g f:Nat->Int):Prop:=∃ S:List Int,∀ k,p∣f k - cvL S g k
theorem Gen.dm {r o:Nat->Int} {g:List Int} (G:Gen r o g) {p:Nat} (hp:Pr p) {f:Nat->Int} (m:MQ (co g) f):Dm (p:Int) (co g) f:=by
 obtain ⟨c,A,hc,hA⟩:=G.loc hp m
 have cop:Int.gcd c (p:Int)=1:=by
  have:=hp.cop (a:=c.natAbs) λz=>hc (wbb.mp (by rw [wa9];exact z))
  exact this
 obtain ⟨x,y,hxy⟩:∃ x y:Int,x*c+y*(p:Int)=1:=by
  obtain ⟨x,y,h⟩:=qvt c (p:Int)
  exact ⟨x,y,by rw [h,cop];rfl⟩
 refine ⟨A.map (x*·),λk=>⟨f k*y,?_⟩⟩
 rw [qau,<-hA k]
 grind
theorem Dm.less {p:Int} {g f h:Nat->Int} (m:Dm p g f) (m':Dm p g h) (a w:Int) (s:Nat):Dm p g (λk=>a*f k - w*upS s h k):=by
 obtain ⟨S,hS⟩:=m
 obtain ⟨S',hS'⟩:=m'
 refine ⟨qaN (S.map (a*·)) (List.replicate s 0++S'.map (-w*·)),λk=>?_⟩
 show p∣a*f k - w*upS s h k - _
 rw [qaw,qau,qcY]
 unfold upS
 obtain ⟨x,hx⟩:=hS k
 by_cases hs:s<=k
 ·rw [if_pos hs,if_pos hs,qau]
  obtain ⟨y,hy⟩:=hS' (k - s)
  exact ⟨a*x - w*y,by grind⟩
 ·rw [if_neg hs,if_neg hs]
  exact ⟨a*x,by grind⟩
theorem Dm.congr {p:Int} {g f h:Nat->Int} (m:Dm p g f) (e:∀ k,p∣h k - f k):Dm p g h:=by
 obtain ⟨S,hS⟩:=m
 exact ⟨S,λk=>by have:=wbk (e k) (hS k);rwa [show ∀ x y z:Int,x - y+(y - z)=x - z by intro x y z;omega] at this⟩
theorem Dm.zero (p:Int) (g:Nat->Int) {f:Nat->Int} (h:∀ k,p∣f k):Dm p g f:=⟨[],λk=>by rw [qaF];simpa using h k⟩
theorem Gen.lead {r o:Nat->Int} {g R:List Int} (G:Gen r o g) {p:Nat} (hp:Pr p) (lR:Lz R) (m:MQ (co g) (co R)) (h:¬ (p:Int)∣co R (R.length - 1)):¬ (p:Int)∣co g (g.length - 1):=by
 intro hd
 obtain ⟨n,n0,n1⟩:=G.prim hp.two
 obtain ⟨c,A,hc,hA⟩:=G.loc hp m
 have nl:n+1<g.length:=by
  rcases wan n g.length with z | z
  ·rcases wan (n+1) g.length with y | y
   ·exact y
   ·exact absurd hd (by rw [show g.length - 1=n by omega];exact n0)
  ·exact absurd (by rw [qay z];exact wbn _) n0
 rcases qiK A with z | ⟨B,lB,_,eB⟩
 ·have:c*co R (R.length - 1)=0:=by
   rw [hA,qbm,qck g z]
  rcases wb2.mp this with e | e
  ·exact hc (by rw [e];exact wbn _)
  ·exact lR.2 e
 ·have hB:∀ k,c*co R k=cvL B (co g) k:=λk=>by rw [hA,qbm,qas (λj=>(eB j).symm) g k,<-qbm]
  have bl:B.length+g.length<=R.length+1:=by
   rcases wan (R.length+1) (B.length+g.length) with z | z
   ·exfalso
    have b0:=lB.1
    have g0:=G.lz.1
    have e:=hB (B.length - 1+(g.length - 1))
    rw [qay ⋯] at e
    have ne:B≠[]:=λz=>by rw [z] at b0;simp at b0
    obtain ⟨T,t,hT⟩:∃ T t,B=T++[t]:=⟨B.dropLast,B.getLast ne,(wcr ne).symm⟩
    have tl:T.length=B.length - 1:=by rw [hT];simp
    have tc:co B (B.length - 1)=t:=by rw [<-tl,hT];unfold co;simp [wab]
    rw [hT,qbs,<-hT,qbM (n:=g.length) (λi hi=>qay hi) T _ ⋯] at e
    unfold upS at e
    rw [if_pos ⋯,show B.length - 1+(g.length - 1) - T.length=g.length - 1 by omega] at e
    have e2:t*co g (g.length - 1)=0:=by omega
    rcases wb2.mp e2 with x | x
    ·exact lB.2 (tc.trans x)
    ·exact G.lz.2 x
   ·exact z
  have hh:=qjY n1 B (R.length - 1) ⋯
  rw [<-hB] at hh
  rcases hp.mulI hh with x | x
  ·exact hc x
  ·exact h x
theorem Dm.len {p:Nat} (hp:Pr p) {g f:List Int} (lg:0<g.length) (hl:¬ (p:Int)∣co g (g.length - 1)) (d:Dm (p:Int) (co g) (co f)) (h0:∃ k,¬ (p:Int)∣co f k):g.length<=f.length:=by
 rcases wan f.length g.length with z | z
 ·exfalso
  obtain ⟨S,hS⟩:=d
  have sS:=qfo hp hl (λi hi=>by rw [qay ⋯];exact wbn _) S λk hk=>by
   have:=hS k
   rw [qay ⋯] at this
   have e:=Int.dvd_neg.mpr this
   rwa [show ∀ x:Int,-(0 - x)=x by intro x;omega] at e
  obtain ⟨k,hk⟩:=h0
  apply hk
  have c:∀ (S:List Int),(∀ s∈S,(p:Int)∣s)->∀ k,(p:Int)∣cvL S (co g) k:=by
   intro S
   induction S with
   | nil=>intro _ k;exact wbn _
   | cons x S ih=>
     intro h k
     rw [qda]
     refine wbk (wcl (h x (waq ..))) ?_
     cases k with
     | zero=>exact wbn _
     | succ k=>exact ih (λs hs=>h s (wa5 _ hs)) k
  have:=wbk (hS k) (c S sS k)
  rwa [Int.sub_add_cancel] at this
 ·exact z
structure RC (r o:Nat->Int) (g:List Int):Prop where
 lz:Lz g
 left:MQ (co g) r
 right:MQ (co g) o
 qi:QI r o (co g)
theorem Gen.rc {R O g:List Int} (G:Gen (co R) (co O) g):RC (co R) (co O) g:=
 ⟨G.lz,G.mq _ R (wac _) (QI.left _ _),G.mq _ O (wac _) (QI.right _ _),G.qi⟩
theorem qpl {r o:Nat->Int} {g h:List Int} (G:RC r o g) (lh:Lz h) (m1:MQ (co h) r) (m2:MQ (co h) o) (hl:g.length<=h.length):RC r o h:=by
 refine ⟨lh,m1,m2,G.qi.of_MQ ?_⟩
 obtain ⟨d,d0,T,hT⟩:=MQ.of_QI m1 m2 G.qi
 rcases qiK T with z | ⟨B,lB,_,eB⟩
 ·exfalso
  have:d*co g (g.length - 1)=0:=by rw [hT,qbm,qck h z]
  rcases wb2.mp this with e | e
  ·exact d0 e
  ·exact G.lz.2 e
 ·have hB:∀ k,d*co g k=cvL B (co h) k:=λk=>by rw [hT,qbm,qas (λj=>(eB j).symm) h k,<-qbm]
  have b0:=lB.1
  have g0:=lh.1
  have ne:B≠[]:=λz=>by rw [z] at b0;simp at b0
  obtain ⟨X,t,hX⟩:∃ X t,B=X++[t]:=⟨B.dropLast,B.getLast ne,(wcr ne).symm⟩
  have tl:X.length=B.length - 1:=by rw [hX];simp
  have tc:co B (B.length - 1)=t:=by rw [<-tl,hX];unfold co;simp [wab]
  have one:B.length=1:=by
   rcases wan 1 B.length with y | y
   ·exfalso
    have e:=hB (B.length - 1+(h.length - 1))
    rw [qay ⋯,hX,qbs,<-hX,qbM (n:=h.length) (λi hi=>qay hi) X _ ⋯] at e
    unfold upS at e
    rw [if_pos ⋯,show B.length - 1+(h.length - 1) - X.length=h.length - 1 by omega] at e
    have e2:t*co h (h.length - 1)=0:=by omega
    rcases wb2.mp e2 with x | x
    ·exact lB.2 (tc.trans x)
    ·exact lh.2 x
   ·omega
  have X0:X=[]:=way.mp ⋯
  have t0:t≠0:=λz=>lB.2 (tc.trans z)
  refine ⟨t,t0,[d],λk=>?_⟩
  have e:=hB k
  rw [hX,X0] at e
  cases k with
  | zero=>rw [qar];rw [show ([]++[t]:List Int)=[t] from rfl,qar] at e;omega
  | succ k=>rw [qam,qaF];rw [show ([]++[t]:List Int)=[t] from rfl,qam,qaF] at e;omega
end Bs
namespace Bs
noncomputable def Prim (g:List Int):Prop:=∀ c:Int,(∀ k,c∣co g k)->c.natAbs=1
theorem Prim.top {g:List Int} (P:Prim g) {p:Nat} (hp:2<=p):∃ n,¬ (p:Int)∣co g n/\∀ i,n<i->(p:Int)∣co g i:=by
 have key:∀ n,(∀ i,n<=i->(p:Int)∣co g i)->(∀ i,(p:Int)∣co g i)\/∃ n,¬ (p:Int)∣co g n/\∀ i,n<i->(p:Int)∣co g i:=by
  intro n
  induction n with
  | zero=>intro h;exact .inl λi=>h i (wad i)
  | succ n ih=>
    intro h
    by_cases hd:(p:Int)∣co g n
    ·exact ih λi hi=>by
      by_cases e:i=n
      ·rw [e];exact hd
      ·exact h i ⋯
    ·exact .inr ⟨n,hd,λi hi=>h i ⋯⟩
 rcases key g.length (λi hi=>by rw [qay hi];exact wbn _) with h | h
 ·have:=P (p:Int) h
  omega
 ·exact h
theorem gauss {g:List Int} (P:Prim g) {f:Nat->Int} (m:MQ (co g) f):∃ A:List Int,∀ k,f k=cvL A (co g) k:=by
 obtain ⟨c,c0,A,hA⟩:=m
 have key:∀ (m:Nat) (c:Int) (A:List Int),c.natAbs<=m->c≠0->(∀ k,c*f k=cvL A (co g) k)->∃ A:List Int,∀ k,f k=cvL A (co g) k:=by
  intro m
  induction m with
  | zero=>intro c A h h0;omega
  | succ m ih=>
    intro c A h h0 hA
    by_cases h1:c.natAbs=1
    ·rcases Int.natAbs_eq c with e | e
     ·exact ⟨A,λk=>by rw [<-hA k,e,h1];omega⟩
     ·exact ⟨A.map (-1*·),λk=>by rw [qau,<-hA k,e,h1];omega⟩
    ·obtain ⟨p,hp,pd,_⟩:=qk6 (m:=c.natAbs) ⋯
     have hd:(p:Int)∣c:=wbb.mp (by rw [wa9];exact pd)
     obtain ⟨n,n0,n1⟩:=P.top hp.two
     have dA:∀ a∈A,(p:Int)∣a:=qfo hp n0 n1 A λk _=>by rw [<-hA k];exact wcl hd
     obtain ⟨c',rfl⟩:=hd
     have p2:=hp.two
     have c0':c'≠0:=λz=>h0 (by rw [z];omega)
     have eA:A=(A.map (·/ (p:Int))).map ((p:Int)*·):=by
      rw [List.map_map]
      conv=>lhs;rw [<-List.map_id A]
      refine wcb λa ha=>?_
      show a=(p:Int)*(a / (p:Int))
      rw [Int.mul_ediv_cancel' (dA a ha)]
     refine ih c' (A.map (·/ (p:Int))) ?_ c0' λk=>?_
     ·rw [wam,wa9] at h
      have pos:0<c'.natAbs:=by omega
      have:=wbd c'.natAbs p2
      omega
     ·have e:=hA k
      rw [eA,qau,Int.mul_assoc] at e
      exact Int.eq_of_mul_eq_mul_left ⋯ e
 exact key _ c A (wac _) c0 hA
noncomputable def evI:List Int->Int->Int
 | [],_=>0
 | a::l,x=>a+x*evI l x
theorem qfq:∀ (l:List Int) (x:Int),(∀ k,co l k=0)->evI l x=0
 | [],_,_=>rfl
 | a::l,x,h=>by
   have h0:a=0:=h 0
   show a+x*evI l x=0
   rw [h0,qfq l x λk=>h (k+1)];omega
theorem qhR:∀ (a b:List Int) (x:Int),(∀ k,co a k=co b k)->evI a x=evI b x
 | [],b,x,h=>(qfq b x λk=>(h k).symm).symm
 | a::l,[],x,h=>qfq (a::l) x h
 | a::l,b::m,x,h=>by
   have h0:a=b:=h 0
   show a+x*evI l x=b+x*evI m x
   rw [h0,qhR l m x λk=>h (k+1)]
theorem qpm:∀ (a b:List Int) (x:Int),evI (qaN a b) x=evI a x+evI b x
 | [],b,x=>by show evI b x=0+evI b x;omega
 | a::l,[],x=>by rw [qdB];show _=_+0;omega
 | a::l,b::m,x=>by
   show (a+b)+x*evI (qaN l m) x=a+x*evI l x+(b+x*evI m x)
   rw [qpm l m x];grind
theorem qmW (c:Int):∀ (a:List Int) (x:Int),evI (a.map (c*·)) x=c*evI a x
 | [],x=>by show (0:Int)=c*0;omega
 | a::l,x=>by
   show c*a+x*evI (l.map (c*·)) x=c*(a+x*evI l x)
   rw [qmW c l x];grind
theorem qpn:∀ (a b:List Int) (x:Int),evI (qaE a b) x=evI a x*evI b x
 | [],b,x=>by show (0:Int)=0*_;omega
 | a::l,b,x=>by
   show evI (qaN (b.map (a*·)) (0::qaE l b)) x=(a+x*evI l x)*evI b x
   rw [qpm,qmW]
   show a*evI b x+(0+x*evI (qaE l b) x)=_
   rw [qpn l b x];grind
theorem qpo (a b:List Int) (k:Nat):co (qaE a b) k=cvL a (co b) k:=by
 rw [qaO,qav]
 exact qas (λj=>(qaO b j).symm) a k
theorem qqZ {r a g:List Int} (h:∀ k,co r k=cvL a (co g) k) (x:Int):evI r x=evI a x*evI g x:=by
 rw [<-qpn]
 exact qhR r (qaE a g) x λk=>by rw [qpo];exact h k
theorem qrX {b c:Nat} {x:Int} (hx:Bd c x):∀ (l:List Int),(∀ z∈l,Bd b z)->Bd (b+l.length*(c+1)) (evI l x)
 | [],_=>qeY _
 | a::l,hb=>by
   show Bd _ (a+x*evI l x)
   have h1:=hb a (waq ..)
   have h2:=hx.mul (qrX hx l λz hz=>hb z (wa5 _ hz))
   have e:(l.length+1)*(c+1)=l.length*(c+1)+(c+1):=by rw [Nat.add_mul,Nat.one_mul]
   refine ((h1.mono (n:=c+(b+l.length*(c+1))) ⋯).add h2).mono ?_
   rw [wbc,e];omega
noncomputable def syn:List Int->Int->List Int
 | [],_=>[]
 | _::l,t=>evI l t::syn l t
theorem qjZ:∀ (l:List Int) (t:Int),(syn l t).length=l.length
 | [],_=>rfl
 | _::l,t=>congrArg (·+1) (qjZ l t)
theorem qpp:∀ (l:List Int) (t x:Int),evI l x - evI l t=(x - t)*evI (syn l t) x
 | [],t,x=>by show (0:Int) - 0=_*0;omega
 | a::l,t,x=>by
   show a+x*evI l x - (a+t*evI l t)=(x - t)*(evI l t+x*evI (syn l t) x)
   have:=qpp l t x
   grind
theorem qmX:∀ (l:List Int) (t:Int) (k:Nat),co l k=(if k=0 then evI l t else co (syn l t) (k - 1)) - t*co (syn l t) k
 | [],t,k=>by
   rw [show co (syn [] t) k=0 from qay (wad _),show co (syn [] t) (k - 1)=0 from qay (wad _),qay (wad _)]
   show 0=(if k=0 then 0 else 0) - _
   split <;> omega
 | a::l,t,0=>by
   show a=a+t*evI l t - t*evI l t
   omega
 | a::l,t,k+1=>by
   have:=qmX l t k
   show co l k=(if k+1=0 then _ else co (evI l t::syn l t) (k+1 - 1)) - t*co (syn l t) k
   rw [if_neg ⋯,this]
   cases k with
   | zero=>rfl
   | succ k=>rw [if_neg ⋯];rfl
theorem qq0 (l:List Int) (t:Int):co (syn l t) (l.length - 1)=0:=by
 induction l with
 | nil=>exact qay (wad _)
 | cons a l ih=>
   show co (evI l t::syn l t) l.length=0
   cases h:l.length with
   | zero=>rw [way.mp h];rfl
   | succ m=>rw [h] at ih;exact ih
theorem interp {c:Nat}:∀ (d:Nat) (l:List Int) (y:Nat) (x:Nat->Int),(∀ k,d<k->co l k=0)->(∀ i,i<=d->Bd c (x i))->(∀ i j,i<=d->j<=d->i≠j->x i≠x j)->(∀ i,i<=d->Bd y (evI l (x i)))->∀ k,Bd (y+d*(c+3)) (co l k)
 | 0,l,y,x,h1,_,_,h4,k=>by
   cases k with
   | zero=>
     have e:evI l (x 0)=co l 0:=by
      cases l with
      | nil=>rfl
      | cons a l=>
        show a+x 0*evI l (x 0)=a
        rw [qfq l (x 0) λk=>h1 (k+1) ⋯];omega
     have:=h4 0 (wac 0)
     rw [e] at this
     exact this.mono ⋯
   | succ k=>rw [h1 (k+1) ⋯];exact qeY _
 | d+1,l,y,x,h1,h2,h3,h4,k=>by
   have hs:∀ j,d<j->co (syn l (x (d+1))) j=0:=by
    have step:∀ n,∀ j,d<j->l.length<=j+n->co (syn l (x (d+1))) j=0:=by
     intro n
     induction n with
     | zero=>intro j _ h;exact qay (by rw [qjZ];omega)
     | succ n ih=>
       intro j hj h
       have e:=qmX l (x (d+1)) (j+1)
       rw [h1 (j+1) ⋯,if_neg ⋯,ih (j+1) ⋯ ⋯] at e
       rw [show j+1 - 1=j by omega] at e
       omega
    intro j hj
    exact step l.length j hj ⋯
   have ih:=interp d (syn l (x (d+1))) (y+1) x hs (λi hi=>h2 i ⋯) (λi j hi hj=>h3 i j ⋯ ⋯) (λi hi=>by
    have e:=qpp l (x (d+1)) (x i)
    have ne:x i - x (d+1)≠0:=λz=>h3 i (d+1) ⋯ ⋯ ⋯ ⋯
    have b:=(h4 i ⋯).sub (h4 (d+1) ⋯)
    rw [e] at b
    refine b.le ?_
    rw [wam]
    exact wcm _ ⋯)
   have e:=qmX l (x (d+1)) k
   rw [e]
   have hx:=h2 (d+1) (wac _)
   have b2:=hx.mul (ih k)
   have em:(d+1)*(c+3)=d*(c+3)+(c+3):=by rw [Nat.add_mul,Nat.one_mul]
   have b1:Bd (c+(y+1+d*(c+3))) (if k=0 then evI l (x (d+1)) else co (syn l (x (d+1))) (k - 1)):=by
    split
    ·exact (h4 (d+1) (wac _)).mono ⋯
    ·exact (ih (k - 1)).mono ⋯
   exact (b1.sub b2).mono ⋯
end Bs
namespace Bs
open PySem L2
noncomputable def isN (H:Hp) (v:V) (q:Nu):Prop:=∃ p,v=.ref p/\H p=some (.tup [.int q.1,.int q.2])
noncomputable def Nums (H:Hp):List V->List Nu->Prop
 | [],[]=>True
 | x::xs,q::l=>isN H x q/\Nums H xs l
 | _,_=>False
noncomputable def Tp (H H':Hp):Prop:=∀ b xs,H b=some (.tup xs)->H' b=some (.tup xs)
theorem tpS {H H':Hp} (s:Same H H'):Tp H H':=λb xs h=>s b _ h
theorem Tp.trans {H H1 H2:Hp} (a:Tp H H1) (b:Tp H1 H2):Tp H H2:=λc xs h=>b c xs (a c xs h)
theorem Kp.tp {p:Addr} {H H':Hp} {xs:List V} (k:Kp p H H') (h:H p=some (.lst xs)):Tp H H':=λb ys q=>k b _ (qvg q h (by intro z;cases z)) q
theorem Tp.updL {p:Addr} {H:Hp} {xs ys:List V} (h:H p=some (.lst xs)):Tp H (upd H p (.lst ys)):=Kp.tp Kp.upd h
theorem isN.tp {H H':Hp} {v:V} {q:Nu} (h:isN H v q) (t:Tp H H'):isN H' v q:=let ⟨p,e,z⟩:=h;⟨p,e,t _ _ z⟩
theorem Nums.tp {H H':Hp} (t:Tp H H'):∀ {xs:List V} {l:List Nu},Nums H xs l->Nums H' xs l
 | [],[],_=>trivial
 | _::_,_::_,h=>⟨h.1.tp t,Nums.tp t h.2⟩
 | [],_::_,h=>h.elim
 | _::_,[],h=>h.elim
theorem Nums.length {H:Hp}:∀ {xs:List V} {l:List Nu},Nums H xs l->xs.length=l.length
 | [],[],_=>rfl
 | _::_,_::_,h=>congrArg (·+1) (Nums.length h.2)
 | [],_::_,h=>h.elim
 | _::_,[],h=>h.elim
theorem Nums.get {H:Hp}:∀ {xs:List V} {l:List Nu} {i:Nat} {v:V},Nums H xs l->xs[i]?=some v->∃ q,l[i]?=some q/\isN H v q
 | [],[],_,_,_,e=>by simp at e
 | _::_,q::_,0,_,h,e=>by simp at e;subst e;exact ⟨q,rfl,h.1⟩
 | _::_,_::_,i+1,_,h,e=>by
   obtain ⟨q,h1,h2⟩:=Nums.get (i:=i) h.2 (by simpa using e)
   exact ⟨q,by simpa using h1,h2⟩
 | [],_::_,_,_,h,_=>h.elim
 | _::_,[],_,_,h,_=>h.elim
theorem Nums.at {H:Hp} {xs:List V} {l:List Nu} {i:Nat} (h:Nums H xs l) (hi:i<l.length) (d:Nu):∃ v,xs[i]?=some v/\isN H v (l.getD i d):=by
 have hx:i<xs.length:=by rw [h.length];exact hi
 obtain ⟨q,h1,h2⟩:=h.get (waf hx)
 refine ⟨_,waf hx,?_⟩
 rw [wab,h1]
 exact h2
theorem Nums.append {H:Hp}:∀ {xs ys:List V} {l m:List Nu},Nums H xs l->Nums H ys m->Nums H (xs++ys) (l++m)
 | [],_,[],_,_,h=>h
 | _::_,_,_::_,_,h,h2=>⟨h.1,Nums.append h.2 h2⟩
 | [],_,_::_,_,h,_=>h.elim
 | _::_,_,[],_,h,_=>h.elim
theorem Nums.one {H:Hp} {v:V} {q:Nu} (h:isN H v q):Nums H [v] [q]:=⟨h,trivial⟩
theorem Nums.take {H:Hp}:∀ {xs:List V} {l:List Nu} (n:Nat),Nums H xs l->Nums H (xs.take n) (l.take n)
 | [],[],n,_=>by simp [Nums]
 | _::_,_::_,0,_=>trivial
 | _::_,_::_,n+1,h=>⟨h.1,Nums.take n h.2⟩
 | [],_::_,_,h=>h.elim
 | _::_,[],_,h=>h.elim
theorem Nums.set {H:Hp} {v:V} {q:Nu} (hv:isN H v q):∀ {xs:List V} {l:List Nu} (i:Nat),Nums H xs l->Nums H (xs.set i v) (l.set i q)
 | [],[],_,_=>trivial
 | _::_,_::_,0,h=>⟨hv,h.2⟩
 | _::_,_::_,i+1,h=>⟨h.1,Nums.set hv i h.2⟩
 | [],_::_,_,h=>h.elim
 | _::_,[],_,h=>h.elim
theorem Nums.rep {H:Hp} {v:V} {q:Nu} (hv:isN H v q):∀ n:Nat,Nums H (List.replicate n v) (List.replicate n q)
 | 0=>trivial
 | n+1=>⟨hv,Nums.rep hv n⟩
theorem qdQ {α:Type} (v:α):∀ n:Nat,(List.replicate n [v]).flatten=List.replicate n v
 | 0=>rfl
 | n+1=>by rw [List.replicate_succ,List.flatten_cons,qdQ v n];rfl
theorem qcH {α:Type} {xs:List α} {i:Int} {j:Nat} {v:α} (e:i=(j:Int)) (h:xs[j]?=some v):atI xs i=some v:=by subst e;exact qhx h
theorem qpq {H:Hp} {p:Addr} {q:Nu}:isN (upd H p (.tup [.int q.1,.int q.2])) (.ref p) q:=⟨p,rfl,qah⟩
theorem qhS {xs:List V} {m:Nat} (h:m<=xs.length):qhw xs none (some (m:Int))=xs.take m:=by
 unfold qhw HT.sIx
 simp only [List.drop_zero,Nat.sub_zero,wby]
 rw [if_neg ⋯,Nat.min_eq_left h]
noncomputable def qtM (H:Hp) (Q:VK) (l:List Nu):Prop:=∀ (r:Addr) (zs:List V) (H':Hp),Same H H'->H' r=some (.tup zs)->Nums H' zs l->Q (.ref r) H'
noncomputable def qn3 (q:Nu):PySem.W.Dat:=.tuple [.int q.1,.int q.2]
theorem qvu {H:Hp} {v:V} {q:Nu} (h:isN H v q):RepD H v (qn3 q):=by
 obtain ⟨p,rfl,hp⟩:=h
 exact .tup hp (.cons (.int _) (.cons (.int _) .nil))
theorem quF {H:Hp}:∀ {xs:List V} {l:List Nu},Nums H xs l->RepA H xs (l.map qn3)
 | [],[],_=>.nil
 | _::_,_::_,h=>.cons (qvu h.1) (quF h.2)
 | [],_::_,h=>h.elim
 | _::_,[],h=>h.elim
theorem qtN {H:Hp} {p:Addr} {xs:List V} {l:List Nu} (hp:H p=some (.lst xs)) (h:Nums H xs l):RepD H (.ref p) (.list (l.map qn3)):=.lst hp (quF h)
theorem okN (q:Nu) (n:Nat):PySem.W.kqdOk (n+1) (qn3 q)=true:=by simp [qn3,PySem.W.kqdOk]
end Bs
namespace Bs
open PySem L2
section
variable {σ:L2.St} {H:Hp} {Q:VK} {D:Ends} {rest:TS} {sp:Sp} {E:XK}
theorem qhT {ta:TE} {k:Nat} (h:ta σ H λx H1=>sp [x] H1 (λv H'=>rest D (σ.set k (some v)) H') E):qaD (qaJ (qao sp [] E (qab ta qan)) (qak k)) rest D σ H:=h
theorem qcD {ta tb:TE} {k:Nat} (h:ta σ H λx H1=>tb σ H1 λy H2=>sp [x,y] H2 (λv H'=>rest D (σ.set k (some v)) H') E):qaD (qaJ (qao sp [] E (qab ta (qab tb qan))) (qak k)) rest D σ H:=h
theorem ql3 {ta tb tc:TE} {k:Nat} (h:ta σ H λx H1=>tb σ H1 λy H2=>tc σ H2 λz H3=>sp [x,y,z] H3 (λv H'=>rest D (σ.set k (some v)) H') E):qaD (qaJ (qao sp [] E (qab ta (qab tb (qab tc qan)))) (qak k)) rest D σ H:=h
theorem qiL {ta:TE} (h:ta σ H λx H1=>sp [x] H1 Q E):qao sp [] E (qab ta qan) σ H Q:=h
theorem qbt {ta tb:TE} (h:ta σ H λx H1=>tb σ H1 λy H2=>sp [x,y] H2 Q E):qao sp [] E (qab ta (qab tb qan)) σ H Q:=h
theorem ql4 {ta tb tc:TE} (h:ta σ H λx H1=>tb σ H1 λy H2=>tc σ H2 λz H3=>sp [x,y,z] H3 Q E):qao sp [] E (qab ta (qab tb (qab tc qan))) σ H Q:=h
theorem qb1 {te:TE} {k:Nat} (h:te σ H λx H1=>rest D (σ.set k (some x)) H1):qaD (qaJ te (qak k)) rest D σ H:=h
theorem qiM {te:TE} (h:te σ H D.rt):qbB te D σ H:=h
theorem qmY {ta tb:TE} (h:ta σ H λx H1=>tb σ H1 λy H2=>[x,y].length<=sizeLine/\∀ p,H2 p=none->Q (.ref p) (upd H2 p (.tup [x,y]))):qlQ (qab ta (qab tb qan)) σ H Q:=h
theorem qhU {ta:TE} (h:ta σ H λx H1=>[x].length<=sizeLine/\∀ p,H1 p=none->Q (.ref p) (upd H1 p (.lst [x]))):qdv (qab ta qan) σ H Q:=h
theorem qhV {ta tb:TE} (h:ta σ H λx H1=>tb σ H1 λy H2=>[x,y].length<=sizeLine/\∀ p,H2 p=none->Q (.ref p) (upd H2 p (.lst [x,y]))):qdv (qab ta (qab tb qan)) σ H Q:=h
theorem r_c {v:V} (h:Q v H):tC v σ H Q:=h
theorem qd6 {r:R2} {ta tb:TE} (h:ta σ H λx H1=>tb σ H1 λy H2=>r x y H2 Q):tOp r ta tb σ H Q:=h
theorem qsU {b:List V->Hp->VK->Prop} {ta:TE} (h:ta σ H λx H1=>b [x] H1 Q):tCB b (qab ta qan) σ H Q:=h
theorem qvv {ta tb tc td:TE} (h:ta σ H λx H1=>tb σ H1 λy H2=>tc σ H2 λz H3=>td σ H3 λa H4=>sp [x,y,z,a] H4 Q E):qao sp [] E (qab ta (qab tb (qab tc (qab td qan)))) σ H Q:=h
theorem qvw {b:List V->Hp->VK->Prop} {ta tb:TE} (h:ta σ H λx H1=>tb σ H1 λy H2=>b [x,y] H2 Q):tCB b (qab ta (qab tb qan)) σ H Q:=h
theorem quG {ta tb tc td te:TE} (h:ta σ H λx H1=>tb σ H1 λy H2=>tc σ H2 λz H3=>td σ H3 λa H4=>te σ H4 λb H5=>sp [x,y,z,a,b] H5 Q E):qao sp [] E (qab ta (qab tb (qab tc (qab td (qab te qan))))) σ H Q:=h
theorem qwj {i:Nat} {v:V} {σ:L2.St} {H:Hp} {Q:L2.St->Hp->Prop} (h:Q (σ.set i (some v)) H):qak i v σ H Q:=h
theorem qhW {K:W.Frag} {tl:TE} {capt:List (Option Nat)} {g:TG} {te:TE} {σ:L2.St} {H:Hp} {Q:VK} (h:tl σ H (λx H1=>∃ a,x=.ref a/\(∃ xs,SqL K H1 a xs)/\CompJ (Itl K a) capt g te σ Q H1)):qb0 (qci K tl) capt g te σ H Q:=h
theorem qgB {te:TE} {k:Nat} {D:Ends} {σ:L2.St} {H:Hp} (h:te σ H λx H1=>D.nx (σ.set k (some x)) H1):qaJ te (qak k) D σ H:=h
theorem qq1 {c:TT} {t u:TS} (h:c σ H λb H1=>if b=true then t { D with nx:=rest D } σ H1 else u { D with nx:=rest D } σ H1):qaD (qdq c t u) rest D σ H:=h
theorem qpr {te:TE} {Q:Bool->Hp->Prop} (h:te σ H λx H'=>∃ k,x=.bl k/\Q k H'):qaX te σ H Q:=h
theorem qmZ {x:V}:[x].length<=sizeLine:=by show 1<=_;exact sz ∅
theorem qnH {x y:V}:[x,y].length<=sizeLine:=by show 2<=_;exact sz ∅
theorem qwk {x y z:V}:[x,y,z].length<=sizeLine:=by show 3<=_;exact sz ∅
end
end Bs
set_option maxHeartbeats 4000000
namespace Bs
open PySem L2
theorem qm0 {g:Nat->Rat} {n:Nat} (h:∀ i,n<i->g i=0):∀ (a:List Rat) (k:Nat),a.length+n<=k->cvL a g k=0
 | [],_,_=>rfl
 | x::a,0,hk=>absurd hk (by rw [wbc];omega)
 | x::a,k+1,hk=>by
   rw [wbc] at hk
   rw [qam,h (k+1) ⋯,qm0 h a k ⋯];grind
theorem ql5 {g:Nat->Rat} {n:Nat} (h0:g n≠0) (h:∀ i,n<i->g i=0) (S:List Rat):(∀ k,n<=k->cvL S g k=0)->∀ s∈S,s=0:=by
 induction hl:S.length generalizing S with
 | zero=>intro _ s hs;rw [way.mp hl] at hs;exact nomatch hs
 | succ m ih=>
   intro hk
   have ne:S≠[]:=λz=>by rw [z] at hl;simp at hl
   obtain ⟨T,t,rfl⟩:∃ T t,S=T++[t]:=⟨S.dropLast,S.getLast ne,(wcr ne).symm⟩
   have ht:t=0:=by
    have a:=hk (T.length+n) ⋯
    rw [qbs,qm0 h T _ (wac _)] at a
    unfold upS at a
    rw [if_pos ⋯,show T.length+n - T.length=n by omega] at a
    have a':t*g n=0:=by grind
    rcases wbv.mp a' with z | z
    ·exact z
    ·exact absurd z h0
   have hT2:=ih T (by simpa using hl) (λk hk2=>by
    have a:=hk k hk2
    rw [qbs,ht] at a
    grind)
   intro s hs
   rcases wa2.mp hs with h | h
   ·exact hT2 s h
   ·rw [wag.mp h];exact ht
theorem qhf {g:Nat->Rat}:∀ (S:List Rat),(∀ s∈S,s=0)->∀ k,cvL S g k=0
 | [],_,_=>rfl
 | x::S,h,0=>by rw [qar,h x (waq ..)];grind
 | x::S,h,k+1=>by rw [qam,h x (waq ..),qhf S (λs hs=>h s (wa5 _ hs)) k];grind
theorem qsV {G:Nat->Rat} {n:Nat} (h0:G n≠0) (hG:∀ i,n<i->G i=0) {A B:List Rat} (h:∀ k,cvL A G k=cvL B G k) (g:Nat->Rat) (k:Nat):cvL A g k=cvL B g k:=by
 have z:=qhf (g:=g) (qaN A (B.map ((-1:Rat)*·))) (ql5 h0 hG _ λk _=>by rw [qaw,qau,h k];grind) k
 rw [qaw,qau] at z
 grind
end Bs
namespace Bs
open PySem L2
structure Sr where
 c:Nat->Rat
theorem Sr.ext' {f g:Sr} (h:∀ k,f.c k=g.c k):f=g:=by
 cases f;cases g;congr;exact funext h
noncomputable def tr (n:Nat) (f:Nat->Rat):List Rat:=(List.range n).map f
theorem qhX (n:Nat) (f:Nat->Rat) (k:Nat):(tr n f).getD k 0=if k<n then f k else 0:=by
 unfold tr
 rw [wab,wae]
 by_cases h:k<n
 ·rw [wb1 h,if_pos h];rfl
 ·rw [if_neg h,wa0 (by rw [waw];omega)];rfl
theorem qei:∀ (a b:List Rat) (g h:Nat->Rat) (k:Nat),(∀ i,i<=k->a.getD i 0=b.getD i 0)->(∀ i,i<=k->g i=h i)->cvL a g k=cvL b h k:=by
 intro a
 induction a with
 | nil=>
   intro b
   induction b with
   | nil=>intro g h k _ _;rfl
   | cons y b ih=>
     intro g h k ab gh
     have y0:=ab 0 (wad _)
     simp at y0
     cases k with
     | zero=>rw [qaF,qar,<-y0];grind
     | succ k=>
       rw [qaF,qam,<-y0]
       have:=ih g h k (λi hi=>by have:=ab (i+1) ⋯;simpa using this) (λi hi=>gh i ⋯)
       rw [qaF] at this
       grind
 | cons x a ih=>
   intro b g h k ab gh
   cases b with
   | nil=>
     have x0:=ab 0 (wad _)
     simp at x0
     cases k with
     | zero=>rw [qaF,qar,x0];grind
     | succ k=>
       rw [qaF,qam,x0]
       have:=ih [] g h k (λi hi=>by have:=ab (i+1) ⋯;simpa using this) (λi hi=>gh i ⋯)
       rw [qaF] at this
       grind
   | cons y b=>
     have x0:=ab 0 (wad _)
     simp at x0
     cases k with
     | zero=>rw [qar,qar,x0,gh 0 (wac _)]
     | succ k=>
       rw [qam,qam,x0,gh _ (wac _),ih b g h k (λi hi=>by have:=ab (i+1) ⋯;simpa using this) (λi hi=>gh i ⋯)]
namespace Sr
noncomputable def zero:Sr:=⟨λ_=>0⟩
noncomputable def one:Sr:=⟨qb8⟩
noncomputable def add (f g:Sr):Sr:=⟨λk=>f.c k+g.c k⟩
noncomputable def neg (f:Sr):Sr:=⟨λk=>- f.c k⟩
noncomputable def mul (f g:Sr):Sr:=⟨λk=>cvL (tr (k+1) f.c) g.c k⟩
noncomputable def num (x:Rat):Sr:=⟨λk=>x*qb8 k⟩
theorem qm1 (f g:Sr) {n k:Nat} (h:k<n):(mul f g).c k=cvL (tr n f.c) g.c k:=by
 refine qei _ _ _ _ _ (λi hi=>?_) (λ_ _=>rfl)
 rw [qhX,qhX,if_pos ⋯,if_pos ⋯]
theorem ql6 (f g:Sr) {n m k:Nat} (h:k<n) (h':k<m):(mul f g).c k=cvL (tr n f.c) (cvL (tr m g.c) qb8) k:=by
 rw [qm1 f g h]
 refine qei _ _ _ _ _ (λ_ _=>rfl) (λi hi=>?_)
 rw [qcC,qhX,if_pos ⋯]
theorem mul_comm (f g:Sr):mul f g=mul g f:=ext' λk=>by
 rw [ql6 f g (wb6 k) (wb6 k),ql6 g f (wb6 k) (wb6 k),qdO]
theorem mul_assoc (f g h:Sr):mul (mul f g) h=mul f (mul g h):=ext' λk=>by
 rw [qm1 (mul f g) h (wb6 k),qm1 f (mul g h) (wb6 k)]
 have e1:cvL (tr (k+1) (mul f g).c) h.c k=cvL (qaE (tr (k+1) f.c) (tr (k+1) g.c)) h.c k:=by
  refine qei _ _ _ _ _ (λi hi=>?_) (λ_ _=>rfl)
  rw [qhX,if_pos ⋯,<-qcC,qav,ql6 f g (n:=k+1) (m:=k+1) ⋯ ⋯]
 rw [e1,qav]
 exact qei _ _ _ _ _ (λ_ _=>rfl) (λi hi=>(qm1 g h ⋯).symm)
theorem mul_add (f g h:Sr):mul f (add g h)=add (mul f g) (mul f h):=ext' λk=>by
 show cvL (tr (k+1) f.c) (λk=>g.c k+h.c k) k=_
 rw [qdN];rfl
theorem mul_one (f:Sr):mul f one=f:=ext' λk=>by
 show cvL (tr (k+1) f.c) qb8 k=_
 rw [qcC,qhX,if_pos (wb6 k)]
theorem mul_zero (f:Sr):mul f zero=zero:=ext' λk=>by
 show cvL (tr (k+1) f.c) (λ_=>0) k=0
 have:=qbo (0:Rat) (λ_=>0) (tr (k+1) f.c) k
 rw [show (λk:Nat=>(0:Rat)*(λ_=>(0:Rat)) k)=λ_=>0 from funext λ_=>by grind] at this
 rw [this];grind
noncomputable def npow (f:Sr):Nat->Sr
 | 0=>one
 | n+1=>mul (npow f n) f
noncomputable instance:Add Sr:=⟨add⟩
noncomputable instance:Mul Sr:=⟨mul⟩
noncomputable instance:Neg Sr:=⟨neg⟩
noncomputable instance:Sub Sr:=⟨λf g=>add f (neg g)⟩
noncomputable instance:NatCast Sr:=⟨λn=>num (n:Rat)⟩
noncomputable instance:IntCast Sr:=⟨λn=>num (n:Rat)⟩
noncomputable instance (n:Nat):OfNat Sr n:=⟨num (n:Rat)⟩
noncomputable instance:Pow Sr Nat:=⟨npow⟩
noncomputable instance:SMul Nat Sr:=⟨λn f=>mul (num (n:Rat)) f⟩
noncomputable instance:SMul Int Sr:=⟨λn f=>mul (num (n:Rat)) f⟩
theorem num0:num 0=zero:=ext' λk=>by show 0*qb8 k=(0:Rat);grind
theorem num1:num 1=one:=ext' λk=>by show 1*qb8 k=(qb8 k:Rat);grind
theorem qps (x y:Rat):num (x+y)=add (num x) (num y):=ext' λk=>by show (x+y)*qb8 k=x*qb8 k+y*qb8 k;grind
theorem ql7 (x:Rat):num (-x)=neg (num x):=ext' λk=>by show (-x)*qb8 k = -(x*qb8 k);grind
theorem add_comm (f g:Sr):add f g=add g f:=ext' λk=>by show f.c k+g.c k=g.c k+f.c k;grind
theorem add_assoc (f g h:Sr):add (add f g) h=add f (add g h):=ext' λk=>by show f.c k+g.c k+h.c k=f.c k+(g.c k+h.c k);grind
theorem add_zero (f:Sr):add f zero=f:=ext' λk=>by show f.c k+0=f.c k;grind
theorem ql8 (f:Sr):add (neg f) f=zero:=ext' λk=>by show -f.c k+f.c k=0;grind
theorem add_mul (f g h:Sr):mul (add f g) h=add (mul f h) (mul g h):=by rw [mul_comm,mul_add,mul_comm h f,mul_comm h g]
theorem neg_mul (f g:Sr):mul (neg f) g=neg (mul f g):=by
 have h:add (mul (neg f) g) (mul f g)=zero:=by rw [<-add_mul,ql8,mul_comm,mul_zero]
 have h2:add (neg (mul f g)) (mul f g)=zero:=ql8 _
 refine ext' λk=>?_
 have a:=congrFun (congrArg Sr.c h) k
 have b:=congrFun (congrArg Sr.c h2) k
 have a:(mul (neg f) g).c k+(mul f g).c k=0:=a
 have b:(neg (mul f g)).c k+(mul f g).c k=0:=b
 grind
noncomputable instance:Lean.Grind.CommRing Sr where
 add_zero f:=(congrArg (add f) num0).trans (add_zero f)
 add_comm:=add_comm
 add_assoc:=add_assoc
 mul_assoc:=mul_assoc
 mul_comm:=mul_comm
 mul_one f:=(congrArg (mul f) num1).trans (mul_one f)
 one_mul f:=(congrArg (λz=>mul z f) num1).trans ((mul_comm _ _).trans (mul_one f))
 left_distrib:=mul_add
 right_distrib:=add_mul
 zero_mul f:=by show mul (num 0) f=num 0;rw [num0,mul_comm,mul_zero]
 mul_zero f:=by show mul f (num 0)=num 0;rw [num0,mul_zero]
 pow_zero f:=num1.symm
 pow_succ f n:=rfl
 ofNat_succ n:=by
  show num ((n+1:Nat):Rat)=add (num (n:Rat)) (num 1)
  rw [<-qps];push_cast;rfl
 ofNat_eq_natCast n:=rfl
 nsmul_eq_natCast_mul n f:=rfl
 sub_eq_add_neg f g:=rfl
 neg_add_cancel f:=(ql8 f).trans num0.symm
 intCast_neg n:=by show num ((-n:Int):Rat)=neg (num (n:Rat));rw [<-ql7];push_cast;rfl
 intCast_ofNat n:=rfl
 neg_zsmul n f:=by show mul (num ((-n:Int):Rat)) f=neg (mul (num (n:Rat)) f);rw [show ((-n:Int):Rat) = -(n:Rat) by push_cast;rfl,ql7,neg_mul]
 zsmul_natCast_eq_nsmul n f:=rfl
end Sr
end Bs
namespace Bs
open PySem L2
namespace Sr
noncomputable def L (a:List Rat):Sr:=⟨cvL a qb8⟩
theorem L_mul (a:List Rat) (g:Sr):L a*g=⟨cvL a g.c⟩:=ext' λk=>by
 refine qei _ _ _ _ _ (λi hi=>?_) (λ_ _=>rfl)
 rw [qhX,if_pos ⋯]
 exact qcC a i
noncomputable def Bn (f:Sr) (n:Nat):Prop:=∀ k,n<=k->f.c k=0
theorem Bn.row {f:Sr} {n:Nat} (h:Bn f n):L (tr n f.c)=f:=ext' λk=>by
 show cvL (tr n f.c) qb8 k=f.c k
 rw [qcC,qhX]
 by_cases hk:k<n
 ·rw [if_pos hk]
 ·rw [if_neg hk,h k ⋯]
noncomputable def Pol (f:Sr):Prop:=∃ a,f=L a
theorem Pol.L (a:List Rat):Pol (L a):=⟨a,rfl⟩
theorem Bn.pol {f:Sr} {n:Nat} (h:Bn f n):Pol f:=⟨_,h.row.symm⟩
theorem L_bn (a:List Rat):Bn (Sr.L a) a.length:=λk hk=>by
 show cvL a qb8 k=0
 rw [qcC,wab,wa0 hk];rfl
theorem Pol.bn {f:Sr} (h:Pol f):∃ n,Bn f n:=let ⟨a,e⟩:=h;⟨a.length,e ▸ L_bn a⟩
theorem Pol.add {f g:Sr} (h:Pol f) (h':Pol g):Pol (f+g):=by
 obtain ⟨a,rfl⟩:=h;obtain ⟨b,rfl⟩:=h'
 exact ⟨qaN a b,ext' λk=>(qaw qb8 a b k).symm⟩
theorem Pol.mul {f g:Sr} (h:Pol f) (h':Pol g):Pol (f*g):=by
 obtain ⟨a,rfl⟩:=h;obtain ⟨b,rfl⟩:=h'
 exact ⟨qaE a b,by rw [L_mul];exact ext' λk=>(qav qb8 a b k).symm⟩
theorem Pol.num (x:Rat):Pol (num x):=⟨[x],ext' λk=>by
 show x*qb8 k=cvL [x] qb8 k
 cases k with
 | zero=>rw [qar];grind
 | succ k=>rw [qam,qaF];grind⟩
theorem Pol.nat (n:Nat):Pol (OfNat.ofNat n:Sr):=Pol.num (n:Rat)
theorem Pol.neg {f:Sr} (h:Pol f):Pol (-f):=by
 have e:-f=Sr.num (-1)*f:=by
  have:Sr.num (-1)=(-1:Sr):=ql7 1
  rw [this];grind
 rw [e];exact (Pol.num _).mul h
theorem Pol.sub {f g:Sr} (h:Pol f) (h':Pol g):Pol (f - g):=by
 have e:f - g=f + -g:=by grind
 rw [e];exact h.add h'.neg
theorem Pol.pow {f:Sr} (h:Pol f):∀ n:Nat,Pol (f ^ n)
 | 0=>(num1 ▸ Pol.num 1:Pol one)
 | n+1=>(h.pow n).mul h
theorem qhY {f:Sr}:∀ n,Bn f n->f=0\/∃ m,m<n/\f.c m≠0/\Bn f (m+1)
 | 0,h=>.inl (ext' λk=>by rw [h k (wad _)];show 0=((0:Nat):Rat)*qb8 k;push_cast;grind)
 | n+1,h=>by
   by_cases z:f.c n=0
   ·rcases qhY n (λk hk=>by rcases Nat.eq_or_lt_of_le hk with e | e;exact e ▸ z;exact h k e) with q | ⟨m,m1,m2,m3⟩
    ·exact .inl q
    ·exact .inr ⟨m,⋯,m2,m3⟩
   ·exact .inr ⟨n,⋯,z,h⟩
theorem zero_c (k:Nat):(0:Sr).c k=0:=by show ((0:Nat):Rat)*qb8 k=0;push_cast;grind
theorem cancel {f g h:Sr} (pf:Pol f) (pg:Pol g) (ph:Pol h) (h0:h≠0) (e:f*h=g*h):f=g:=by
 obtain ⟨a,rfl⟩:=pf;obtain ⟨b,rfl⟩:=pg
 obtain ⟨n,hn⟩:=ph.bn
 rcases qhY n hn with z | ⟨m,_,m1,m2⟩
 ·exact absurd z h0
 rw [L_mul,L_mul] at e
 exact ext' λk=>qsV m1 (λi hi=>m2 i hi) (λk=>congrFun (congrArg Sr.c e) k) qb8 k
theorem quH {f g:Sr} (pf:Pol f) (pg:Pol g) (f0:f≠0) (g0:g≠0):f*g≠0:=λe=>f0 (cancel pf (Pol.nat 0) pg g0 (by rw [e];grind))
noncomputable def X (n:Nat):Sr:=L (List.replicate n 0++[1])
theorem qq2 (n:Nat) (g:Sr) (k:Nat):(X n*g).c k=if n<=k then g.c (k - n) else 0:=by
 unfold X
 rw [L_mul]
 show cvL (List.replicate n 0++[1]) g.c k=_
 rw [qcY]
 unfold upS
 by_cases h:n<=k
 ·rw [if_pos h,if_pos h]
  cases k - n with
  | zero=>rw [qar];grind
  | succ k=>rw [qam,qaF];grind
 ·rw [if_neg h,if_neg h]
theorem num_mul (x:Rat) (g:Sr) (k:Nat):(num x*g).c k=x*g.c k:=by
 have:num x=L [x]:=ext' λk=>by
  show x*qb8 k=cvL [x] qb8 k
  cases k with
  | zero=>rw [qar];grind
  | succ k=>rw [qam,qaF];grind
 rw [this,L_mul]
 show cvL [x] g.c k=_
 cases k with
 | zero=>rw [qar];grind
 | succ k=>rw [qam,qaF];grind
theorem qvx (f g:Sr) (k:Nat):(f - g).c k=f.c k - g.c k:=by show f.c k + - g.c k=_;grind
theorem divide {g:Sr} {m:Nat} (g0:g.c m≠0) (hg:Bn g (m+1)):∀ (n:Nat) (f:Sr),Bn f n->∃ q r,Pol q/\Bn r m/\f=q*g+r
 | 0,f,h=>⟨0,f,Pol.nat 0,λk _=>h k (wad _),by grind⟩
 | n+1,f,h=>by
   by_cases c:n+1<=m
   ·exact ⟨0,f,Pol.nat 0,λk hk=>h k ⋯,by grind⟩
   ·obtain ⟨q,r,pq,br,e⟩:=divide g0 hg n (f - num (f.c n*(g.c m)⁻¹)*(X (n - m)*g)) λk hk=>by
     rw [qvx,num_mul,qq2,if_pos ⋯]
     rcases Nat.eq_or_lt_of_le hk with z | z
     ·rw [<-z,show n - (n - m)=m by omega]
      have:(g.c m)⁻¹*g.c m=1:=Rat.inv_mul_cancel _ g0
      grind
     ·rw [h k z,hg (k - (n - m)) ⋯];grind
    exact ⟨q+num (f.c n*(g.c m)⁻¹)*X (n - m),r,pq.add ((Pol.num _).mul (Pol.L _)),br,by grind⟩
theorem qrY:∀ (n:Nat) (S T:Sr),Pol S->Bn T n->(S≠0\/T≠0)->∃ g r e U W,Pol g/\Pol r/\Pol e/\Pol U/\Pol W/\g≠0/\S=g*r/\T=g*e/\U*r+W*e=1:=by
 intro n
 induction n using Nat.strongRecOn with
 | _ n ih=>
   intro S T pS bT h
   by_cases z:T=0
   ·exact ⟨S,1,0,1,0,pS,Pol.nat 1,Pol.nat 0,Pol.nat 1,Pol.nat 0,by rcases h with h | h;exact h;exact absurd z h,by grind,by rw [z];grind,by grind⟩
   ·rcases qhY n bT with q | ⟨m,mn,m0,mb⟩
    ·exact absurd q z
    obtain ⟨a,rfl⟩:=pS
    obtain ⟨q,r,pq,br,e⟩:=divide m0 mb _ _ (L_bn a)
    obtain ⟨g,r1,e1,U,W,pg,pr,pe,pU,pW,g0,h1,h2,h3⟩:=ih m mn T r bT.pol br (.inl z)
    exact ⟨g,q*r1+e1,r1,W,U - W*q,pg,(pq.mul pr).add pe,pr,pW,pU.sub (pW.mul pq),g0,by rw [e,h1,h2];grind,h1,by grind⟩
noncomputable def D (f:Sr):Sr:=⟨λk=>((k:Rat)+1)*f.c (k+1)⟩
theorem quI (f g:Sr):D (f+g)=D f+D g:=ext' λk=>by show ((k:Rat)+1)*(f.c (k+1)+g.c (k+1))=((k:Rat)+1)*f.c (k+1)+((k:Rat)+1)*g.c (k+1);grind
theorem D_num (x:Rat) (g:Sr):D (num x*g)=num x*D g:=ext' λk=>by
 rw [num_mul]
 show ((k:Rat)+1)*(num x*g).c (k+1)=x*(((k:Rat)+1)*g.c (k+1))
 rw [num_mul];grind
theorem D_X (g:Sr):D (X 1*g)=g+X 1*D g:=ext' λk=>by
 show ((k:Rat)+1)*(X 1*g).c (k+1)=g.c k+(X 1*D g).c k
 rw [qq2,qq2,if_pos ⋯]
 cases k with
 | zero=>rw [if_neg ⋯];push_cast;show ((0:Nat)+1)*g.c 0=_;push_cast;grind
 | succ k=>rw [if_pos ⋯];show (((k+1:Nat):Rat)+1)*g.c (k+1)=g.c (k+1)+((k:Rat)+1)*g.c (k+1);push_cast;grind
theorem qrZ (x:Rat) (a:List Rat):L (x::a)=num x+X 1*L a:=ext' λk=>by
 show cvL (x::a) qb8 k=x*qb8 k+(X 1*L a).c k
 rw [qq2,qda]
 cases k with
 | zero=>rw [if_neg ⋯];rfl
 | succ k=>rw [if_pos ⋯];rfl
theorem qvy:D (L [])=0:=ext' λk=>by show ((k:Rat)+1)*cvL [] qb8 (k+1)=_;rw [qaF,zero_c];grind
theorem L_nil:L []=0:=ext' λk=>by rw [zero_c];rfl
theorem qpt (x:Rat):D (num x)=0:=ext' λk=>by show ((k:Rat)+1)*(x*qb8 (k+1))=_;rw [zero_c];show ((k:Rat)+1)*(x*0)=0;grind
theorem qr0 (g:Sr):∀ a:List Rat,D (L a*g)=D (L a)*g+L a*D g
 | []=>by
   have z:(0:Sr)=num 0:=rfl
   rw [qvy,L_nil,z,D_num,<-z]
   grind
 | x::a=>by
   have ih:=qr0 g a
   have e:L (x::a)*g=num x*g+X 1*(L a*g):=by rw [qrZ];grind
   rw [e,quI,D_num,D_X,ih,qrZ,quI,D_X,qpt]
   grind
theorem D_mul {f:Sr} (pf:Pol f) (g:Sr):D (f*g)=D f*g+f*D g:=by
 obtain ⟨a,rfl⟩:=pf
 exact qr0 g a
theorem qvz {f:Sr} {n:Nat} (h:Bn f (n+1)):Bn (D f) n:=λk hk=>by show ((k:Rat)+1)*f.c (k+1)=0;rw [h (k+1) ⋯];grind
theorem qwl {f:Sr} {n:Nat} (h:f.c (n+1)≠0):D f≠0:=λe=>by
 have:=congrFun (congrArg Sr.c e) n
 rw [zero_c] at this
 have this:((n:Rat)+1)*f.c (n+1)=0:=this
 rcases wbv.mp this with z | z
 ·have:((n:Rat)+1)=((n+1:Nat):Rat):=by push_cast;rfl
  rw [this] at z
  have:n+1=0:=by exact_mod_cast z
  omega
 ·exact h z
theorem Pol.D {f:Sr} (h:Pol f):Pol (D f):=by
 obtain ⟨n,hn⟩:=h.bn
 exact Bn.pol (n:=n) (qvz (n:=n) λk hk=>hn k ⋯)
theorem rad_pow:∀ (n:Nat) (S R c:Sr),Bn S n->S≠0->Pol R->Pol c->D S*R=c*S->∃ (m:Nat) (a:Sr),Pol a/\R ^ m=a*S:=by
 intro n
 induction n using Nat.strongRecOn with
 | _ n ih=>
   intro S R c bS S0 pR pc e
   rcases qhY n bS with z | ⟨m,mn,m0,mb⟩
   ·exact absurd z S0
   cases m with
   | zero=>
     refine ⟨0,num (S.c 0)⁻¹,Pol.num _,ext' λk=>?_⟩
     rw [num_mul]
     have e1:(R ^ 0).c k=qb8 k:=rfl
     rw [e1]
     cases k with
     | zero=>show 1=_;have:(S.c 0)⁻¹*S.c 0=1:=Rat.inv_mul_cancel _ m0;grind
     | succ k=>show 0=_;rw [mb (k+1) ⋯];grind
   | succ m=>
     obtain ⟨g,r,e1,U,W,pg,pr,pe,pU,pW,g0,h1,h2,h3⟩:=qrY _ S (D S) mb.pol (qvz mb) (.inl S0)
     have sR:e1*R=c*r:=cancel (pe.mul pR) (pc.mul pr) pg g0 (by rw [h2,h1] at e;grind)
     have hR:R=(U*R+W*c)*r:=by
      have:R=(U*r+W*e1)*R:=by rw [h3];grind
      grind
     have pt:Pol (U*R+W*c):=(pU.mul pR).add (pW.mul pc)
     have dS:D g*r=g*(e1 - D r):=by
      have:=D_mul pg r
      rw [<-h1,h2] at this
      grind
     have gR:D g*R=(e1 - D r)*(U*R+W*c)*g:=by
      have:D g*R=D g*r*(U*R+W*c):=by generalize U*R+W*c=t at hR;rw [hR];grind
      rw [this,dS]
      grind
     obtain ⟨N,hN⟩:=pg.bn
     obtain ⟨t,_,t0,tb⟩:=(qhY N hN).resolve_left g0
     have tm:t<=m:=by
      rcases wan m t with q | q
      ·exfalso
       obtain ⟨E,rfl⟩:=pe
       have h2':D S=L E*g:=by rw [h2];grind
       rw [L_mul] at h2'
       refine qwl m0 (ext' λk=>?_)
       rw [h2',zero_c]
       exact qhf E (ql5 t0 (λi hi=>tb i hi) E λk hk=>by
        exact (congrFun (congrArg Sr.c h2') k).symm.trans (qvz mb k ⋯)) k
      ·exact q
     obtain ⟨M,a,pa,ea⟩:=ih (t+1) ⋯ g R _ tb g0 pR ((pe.sub pr.D).mul pt) gR
     refine ⟨M+1,a*(U*R+W*c),pa.mul pt,?_⟩
     have:R ^ (M+1)=R ^ M*R:=rfl
     rw [this,ea,h1]
     have:a*(U*R+W*c)*(g*r)=a*g*((U*R+W*c)*r):=by grind
     rw [this,<-hR]
noncomputable def Cs (f g:Sr):Prop:=∃ U W,Pol U/\Pol W/\U*f+W*g=1
theorem Cs.mul {f g h:Sr} (pf:Pol f) (pg:Pol g) (h1:Cs f g) (h2:Cs f h):Cs f (g*h):=by
 obtain ⟨U,W,pU,pW,e⟩:=h1
 obtain ⟨U',W',pU',pW',e'⟩:=h2
 refine ⟨U+W*U'*g,W*W',pU.add ((pW.mul pU').mul pg),pW.mul pW',?_⟩
 have:(U+W*U'*g)*f+W*W'*(g*h)=U*f+W*g*(U'*f+W'*h):=by grind
 rw [this,e',<-e];grind
theorem Cs.one {f:Sr}:Cs f 1:=⟨0,1,Pol.nat 0,Pol.nat 1,by grind⟩
theorem Cs.pow {f g:Sr} (pf:Pol f) (pg:Pol g) (h:Cs f g):∀ n:Nat,Cs f (g ^ n)
 | 0=>⟨0,1,Pol.nat 0,Pol.nat 1,by grind⟩
 | n+1=>Cs.mul pf (pg.pow n) (Cs.pow pf pg h n) h
theorem Cs.add {f g z c:Sr} (h:Cs f g) (pc:Pol c) (e:z=f+c*g):Cs z g:=by
 obtain ⟨U,W,pU,pW,q⟩:=h
 exact ⟨U,W - U*c,pU,pW.sub (pU.mul pc),by rw [e];grind⟩
theorem Cs.neg {f g:Sr} (h:Cs f g):Cs (-f) g:=by
 obtain ⟨U,W,pU,pW,q⟩:=h
 exact ⟨-U,W,pU.neg,pW,by grind⟩
end Sr
end Bs
namespace Bs
open PySem L2
namespace Sr
theorem qpu (f:Sr) (n:Nat):f ^ (n+1)=f ^ n*f:=rfl
theorem qpv (f:Sr):f ^ 0=1:=num1.symm
theorem quJ:(1:Sr)≠0:=λh=>by
 have:=congrFun (congrArg Sr.c h) 0
 rw [zero_c] at this
 have this:((1:Nat):Rat)*qb8 0=0:=this
 have e:(qb8 0:Rat)=1:=rfl
 rw [e] at this
 push_cast at this
 grind
theorem pow_ne {f:Sr} (pf:Pol f) (f0:f≠0):∀ n:Nat,f ^ n≠0
 | 0=>by rw [qpv];exact quJ
 | n+1=>by rw [qpu];exact quH (pf.pow n) pf (pow_ne pf f0 n) f0
theorem quK {d:Sr} (pd:Pol d):∀ n:Nat,d*D (d ^ n)=num (n:Rat)*d ^ n*D d
 | 0=>by
   rw [qpv,show D 1=0 from qpt _]
   show d*0=num ((0:Nat):Rat)*1*D d
   rw [show num ((0:Nat):Rat)=0 from rfl]
   grind
 | n+1=>by
   rw [qpu,D_mul (pd.pow n),show num ((n+1:Nat):Rat)=num (n:Rat)+1 by rw [show ((n+1:Nat):Rat)=(n:Rat)+((1:Nat):Rat) by push_cast;rfl,qps];rfl]
   have h:=quK pd n
   grind
theorem qk7 {b:Nat->Rat} {d:Nat} (h:∀ k,d<k->b k=0):∀ (a:List Rat) (k:Nat),d+a.length<=k->cvL a b k=0
 | [],_,_=>rfl
 | x::a,0,hk=>by simp at hk
 | x::a,k+1,hk=>by
   rw [qam,qk7 h a k (by simp at hk;omega),h (k+1) (by simp at hk;omega)]
   grind
theorem top_mul {f g:Sr} {m n:Nat} (hf:Bn f (m+1)) (hg:Bn g (n+1)):(f*g).c (m+n)=f.c m*g.c n/\Bn (f*g) (m+n+1):=by
 have hi:∀ (a:List Rat) (k:Nat),n+a.length<=k->cvL a g.c k=0:=qk7 λk hk=>hg k hk
 rw [<-hf.row,L_mul]
 refine ⟨?_,λk hk=>hi _ k (by unfold tr;rw [waa,waw];omega)⟩
 show cvL (tr (m+1) f.c) g.c (m+n)=_
 have e:tr (m+1) f.c=tr m f.c++[f.c m]:=by unfold tr;rw [List.range_succ,wbo];rfl
 have tl:(tr m f.c).length=m:=by unfold tr;rw [waa,waw]
 rw [e,qbs,hi (tr m f.c) _ (by rw [tl];omega),tl]
 unfold upS
 rw [if_pos ⋯,show m+n - m=n by omega]
 have z:(L (tr m f.c++[f.c m])).c m=f.c m:=by
  rw [<-e]
  exact congrFun (congrArg Sr.c hf.row) m
 rw [z]
 grind
theorem qsW {d g:Sr} (pd:Pol d) (pg:Pol g) (g0:g≠0) (h:∀ k:Nat,∃ q,Pol q/\g=d ^ k*q):∃ x:Rat,x≠0/\d=num x:=by
 obtain ⟨n,hn⟩:=pd.bn
 obtain ⟨N,hN⟩:=pg.bn
 rcases qhY n hn with z | ⟨m,_,m0,mb⟩
 ·obtain ⟨q,_,e⟩:=h 1
  exact absurd (by rw [e,qpu,qpv,z];grind) g0
 rcases wbj m with z | mp
 ·subst z
  refine ⟨d.c 0,m0,ext' λk=>?_⟩
  show d.c k=d.c 0*qb8 k
  cases k with
  | zero=>show _=d.c 0*1;grind
  | succ k=>rw [mb (k+1) ⋯];show (0:Rat)=d.c 0*0;grind
 exfalso
 have key:∀ (k:Nat) (q:Sr),Pol q->q≠0->∃ j,k*m<=j/\(d ^ k*q).c j≠0/\Bn (d ^ k*q) (j+1):=λk=>by
  induction k with
  | zero=>
    intro q pq q0
    obtain ⟨r,hr⟩:=pq.bn
    rcases qhY r hr with z | ⟨j,_,j0,jb⟩
    ·exact absurd z q0
    ·refine ⟨j,⋯,?_⟩
     rw [qpv,show (1:Sr)*q=q by grind]
     exact ⟨j0,jb⟩
  | succ k ih=>
    intro q pq q0
    obtain ⟨j,j1,j2,j3⟩:=ih q pq q0
    obtain ⟨t1,t2⟩:=top_mul mb j3
    rw [show d ^ (k+1)*q=d*(d ^ k*q) by rw [qpu];grind]
    refine ⟨m+j,by rw [Nat.succ_mul];omega,?_,t2⟩
    rw [t1]
    intro z
    rcases wbv.mp z with z | z
    ·exact m0 z
    ·exact j2 z
 obtain ⟨q,pq,e⟩:=h (N+1)
 have q0:q≠0:=λz=>g0 (by rw [e,z];grind)
 obtain ⟨j,j1,j2,_⟩:=key (N+1) q pq q0
 rw [<-e] at j2
 refine j2 (hN j ?_)
 have:(N+1)*1<=(N+1)*m:=wa1 _ mp
 omega
theorem Cs.of_unit {f g d U W:Sr} {x:Rat} (x0:x≠0) (e:d=num x) (pU:Pol U) (pW:Pol W) (h:U*f+W*g=d):Cs f g:=by
 refine ⟨num (x⁻¹)*U,num (x⁻¹)*W,(Pol.num _).mul pU,(Pol.num _).mul pW,?_⟩
 have i:num (x⁻¹)*num x=1:=ext' λk=>by
  rw [num_mul]
  show x⁻¹*(x*qb8 k)=_
  have:x⁻¹*x=1:=Rat.inv_mul_cancel _ x0
  show _=((1:Nat):Rat)*qb8 k
  push_cast
  grind
 rw [e] at h
 grind
theorem simple_cop {f g l m:Sr} (pg:Pol g) (pl:Pol l) (pm:Pol m) (f0:f≠0) (h1:f=g*l) (h2:D f=g*m) (c:Cs l m):Cs l (D l):=by
 have g0:g≠0:=λz=>f0 (by rw [h1,z];grind)
 have l0:l≠0:=λz=>f0 (by rw [h1,z];grind)
 obtain ⟨n,hn⟩:=pl.D.bn
 obtain ⟨d,r,e,U,W,pd,pr,pe,pU,pW,d0,e1,e2,e3⟩:=qrY n l (D l) pl hn (.inl l0)
 obtain ⟨U1,W1,pU1,pW1,e4⟩:=c
 have hs:D g*l=g*(m - D l):=by
  have:=D_mul pg l
  rw [<-h1,h2] at this
  grind
 have dr:D d*r=d*(e - D r):=by
  have:=D_mul pd r
  rw [<-e1,e2] at this
  grind
 have dv:∀ k:Nat,∃ q,Pol q/\g=d ^ k*q:=λk=>by
  induction k with
  | zero=>exact ⟨g,pg,by rw [qpv];grind⟩
  | succ k ih=>
    obtain ⟨h,ph,eh⟩:=ih
    have a1:d*D g=d ^ k*(num (k:Rat)*D d*h+d*D h):=by
     rw [eh,D_mul (pd.pow k)]
     have:=quK pd k
     grind
    have a2:d ^ k*((num (k:Rat)*D d*h+d*D h)*r)=d ^ k*(h*(m - D l)):=by
     have:d*D g*r=g*(m - D l):=by
      rw [<-hs,show D g*l=D g*(d*r) from congrArg _ e1]
      grind
     rw [a1] at this
     rw [eh] at this
     grind
    have a3:(num (k:Rat)*D d*h+d*D h)*r=h*(m - D l):=
     cancel ((((Pol.num _).mul pd.D).mul ph |>.add (pd.mul ph.D)).mul pr) (ph.mul (pm.sub pl.D)) (pd.pow k) (pow_ne pd d0 k) (by grind)
    have a4:h*m=d*(num (k:Rat)*h*(e - D r)+D h*r+h*e):=by
     rw [e2] at a3
     have:num (k:Rat)*D d*h*r=num (k:Rat)*h*(d*(e - D r)):=by rw [<-dr];grind
     grind
    refine ⟨h*U1*r+W1*(num (k:Rat)*h*(e - D r)+D h*r+h*e),((ph.mul pU1).mul pr).add (pW1.mul ((((Pol.num _).mul ph).mul (pe.sub pr.D) |>.add (ph.D.mul pr)).add (ph.mul pe))),?_⟩
    have a5:h=d*(h*U1*r+W1*(num (k:Rat)*h*(e - D r)+D h*r+h*e)):=by
     rw [e1] at e4
     have:h=h*(U1*(d*r)+W1*m):=by rw [e4];grind
     grind
    rw [qpu,eh]
    grind
 obtain ⟨x,x0,ex⟩:=qsW pd pg g0 dv
 exact Cs.of_unit x0 ex pU pW (by rw [e2,show U*l=U*(d*r) from congrArg _ e1];grind)
theorem Cs.parts {l p q r:Sr} (pl:Pol l) (pp:Pol p) (pq:Pol q) (pr:Pol r) (c:Cs l (D l)) (e:l=p*q*r):Cs p q:=by
 obtain ⟨U,W,pU,pW,h⟩:=c
 have d1:D l=D p*(q*r)+p*(D q*r+q*D r):=by
  rw [e,show p*q*r=p*(q*r) by grind,D_mul pp,D_mul pq]
 refine ⟨U*(q*r)+W*(D q*r+q*D r),W*(D p*r),(pU.mul (pq.mul pr)).add (pW.mul ((pq.D.mul pr).add (pq.mul pr.D))),pW.mul (pp.D.mul pr),?_⟩
 rw [d1,e] at h
 grind
end Sr
end Bs
namespace Bs
open PySem L2
namespace Sr
noncomputable def ev:List Rat->Rat->Rat
 | [],_=>0
 | a::l,x=>a+x*ev l x
theorem ql9:∀ (l:List Rat) (x:Rat),(∀ k,l.getD k 0=0)->ev l x=0
 | [],_,_=>rfl
 | a::l,x,h=>by
   have h0:a=0:=h 0
   show a+x*ev l x=0
   rw [h0,ql9 l x λk=>by have:=h (k+1);rw [List.getD_cons_succ] at this;exact this];grind
theorem ev_congr':∀ (a b:List Rat) (x:Rat),(∀ k,a.getD k 0=b.getD k 0)->ev a x=ev b x
 | [],b,x,h=>(ql9 b x λk=>(h k).symm.trans (by simp)).symm
 | a::l,[],x,h=>ql9 (a::l) x λk=>(h k).trans (by simp)
 | a::l,b::m,x,h=>by
   have h0:a=b:=h 0
   show a+x*ev l x=b+x*ev m x
   rw [h0,ev_congr' l m x λk=>by have:=h (k+1);rw [List.getD_cons_succ,List.getD_cons_succ] at this;exact this]
theorem ev_congr {a b:List Rat} (h:L a=L b) (x:Rat):ev a x=ev b x:=ev_congr' a b x λk=>by rw [<-qcC,<-qcC];exact congrFun (congrArg Sr.c h) k
theorem qr1:∀ (a b:List Rat) (x:Rat),ev (qaN a b) x=ev a x+ev b x
 | [],b,x=>by show ev b x=0+ev b x;grind
 | a::l,[],x=>by rw [qdB];show _=_+0;grind
 | a::l,b::m,x=>by
   show (a+b)+x*ev (qaN l m) x=a+x*ev l x+(b+x*ev m x)
   rw [qr1 l m x];grind
theorem ev_scal (c:Rat):∀ (a:List Rat) (x:Rat),ev (a.map (c*·)) x=c*ev a x
 | [],x=>by show (0:Rat)=c*0;grind
 | a::l,x=>by
   show c*a+x*ev (l.map (c*·)) x=c*(a+x*ev l x)
   rw [ev_scal c l x];grind
theorem ev_mul:∀ (a b:List Rat) (x:Rat),ev (qaE a b) x=ev a x*ev b x
 | [],b,x=>by show (0:Rat)=0*_;grind
 | a::l,b,x=>by
   show ev (qaN (b.map (a*·)) (0::qaE l b)) x=(a+x*ev l x)*ev b x
   rw [qr1,ev_scal]
   show a*ev b x+(0+x*ev (qaE l b) x)=_
   rw [ev_mul l b x];grind
theorem L_scal (s:Rat) (a:List Rat):L (a.map (s*·))=num s*L a:=ext' λk=>by rw [num_mul];exact qau s qb8 a k
theorem L_mulRow (a b:List Rat):L (qaE a b)=L a*L b:=by rw [L_mul];exact ext' λk=>qav qb8 a b k
theorem num_L (x:Rat):num x=L [x]:=ext' λk=>by
 show x*qb8 k=cvL [x] qb8 k
 cases k with
 | zero=>rw [qar];grind
 | succ k=>rw [qam,qaF];grind
theorem num_num (x y:Rat):num x*num y=num (x*y):=ext' λk=>by
 rw [num_mul]
 show x*(y*qb8 k)=x*y*qb8 k
 grind
theorem num_one:num 1=1:=congrArg num (show (1:Rat)=((1:Nat):Rat) by push_cast;rfl)
theorem num_inv {x:Rat} (h:x≠0):num x⁻¹*num x=1:=by
 rw [num_num,Rat.inv_mul_cancel _ h]
 exact num_one
end Sr
end Bs
namespace Bs
open PySem
noncomputable def qca (K:W.Frag):Addr:=match PySem.W.nsIn K PySem.mainGlobals "EXPONENTS" with | some (some (.ref a))=>a | _=>0
end Bs
namespace Bs
open PySem L2
noncomputable def evF (f:Nat->Rat) (n:Nat) (x:Rat):Nat->Rat
 | 0=>0
 | d+1=>f (n - 1 - d)+x*evF f n x d
theorem qdC {f g:Nat->Rat} {n:Nat} {x:Rat}:∀ d,d<=n->(∀ i,n - d<=i->i<n->f i=g i)->evF f n x d=evF g n x d
 | 0,_,_=>rfl
 | d+1,hd,h=>by
   show f (n - 1 - d)+x*evF f n x d=g (n - 1 - d)+x*evF g n x d
   rw [qdC d ⋯ (λi h1 h2=>h i ⋯ h2),h (n - 1 - d) ⋯ ⋯]
theorem qhg {f:Nat->Rat} {n:Nat} {x B:Rat}:∀ d,evF (λi=>f i / B) n x d=evF f n x d / B
 | 0=>(zdiv B).symm
 | d+1=>by
   show f (n - 1 - d) / B+x*evF (λi=>f i / B) n x d=(f (n - 1 - d)+x*evF f n x d) / B
   rw [qhg d]
   grind
theorem qpw {f:Nat->Rat} {n:Nat} {x s:Rat}:∀ d,d<=n->evF (λi=>f i*s ^ i) n x d=s ^ (n - d)*evF f n (s*x) d
 | 0,_=>by show (0:Rat)=s ^ n*0;grind
 | d+1,hd=>by
   show f (n - 1 - d)*s ^ (n - 1 - d)+x*evF (λi=>f i*s ^ i) n x d=s ^ (n - (d+1))*(f (n - 1 - d)+s*x*evF f n (s*x) d)
   rw [qpw d ⋯,show n - d=(n - (d+1))+1 by omega,show n - 1 - d=n - (d+1) by omega,Rat.pow_succ]
   grind
theorem qpx {f:Nat->Rat} {n:Nat} {z s:Rat}:∀ d,d<=n->evF (λi=>f i*s ^ (n - 1 - i)) n (s*z) d*s=s ^ d*evF f n z d
 | 0,_=>by show (0:Rat)*s=s ^ 0*0;grind
 | d+1,hd=>by
   show (f (n - 1 - d)*s ^ (n - 1 - (n - 1 - d))+s*z*evF (λi=>f i*s ^ (n - 1 - i)) n (s*z) d)*s=s ^ (d+1)*(f (n - 1 - d)+z*evF f n z d)
   have h:=qpx (f:=f) (n:=n) (z:=z) (s:=s) d ⋯
   rw [show n - 1 - (n - 1 - d)=d by omega,Rat.pow_succ]
   generalize evF (λi=>f i*s ^ (n - 1 - i)) n (s*z) d=A at *
   generalize evF f n z d=C at *
   generalize s ^ d=S at *
   grind
noncomputable def sy (c:Int) (R:Nat->Int) (n:Nat):Nat->Int
 | 0=>R (n - 1)
 | d+1=>R (n - 1 - (d+1))+c*sy c R n d
noncomputable def rnd (c:Int) (R:Nat->Int) (n first:Nat) (j:Nat):Int:=if j<first then R j else sy c R n (n - 1 - j)
noncomputable def toQ (R:Nat->Int) (k:Nat):Rat:=(R k:Rat)
theorem quL {c:Int} {R:Nat->Int} {n first:Nat} {y:Rat}:∀ d,d+1+first<=n->evF (toQ R) n y (d+1)=(sy c R n d:Rat)+(y - c)*evF (toQ (rnd c R n first)) n y d
 | 0,_=>by show (R (n - 1 - 0):Rat)+y*0=(R (n - 1):Rat)+(y - c)*0;rw [Nat.sub_zero];grind
 | d+1,h=>by
   show (R (n - 1 - (d+1)):Rat)+y*evF (toQ R) n y (d+1)=((R (n - 1 - (d+1))+c*sy c R n d:Int):Rat)+(y - c)*((rnd c R n first (n - 1 - d):Rat)+y*evF (toQ (rnd c R n first)) n y d)
   rw [quL (c:=c) (first:=first) d ⋯]
   have e:rnd c R n first (n - 1 - d)=sy c R n d:=by
    unfold rnd
    rw [if_neg ⋯,show n - 1 - (n - 1 - d)=d by omega]
   rw [e]
   push_cast
   grind
noncomputable def mx (R:Nat->Int) (n:Nat) (y c:Rat):Nat->Nat->Rat
 | 0,lo=>evF (toQ R) n y (n - lo)
 | t+1,lo=>(R lo:Rat)+(y - c)*mx R n y c t (lo+1)
theorem qr2 {c:Int} {R:Nat->Int} {n first:Nat} {y:Rat} (hf:first+1<=n):∀ t lo,lo+t=first->mx R n y c t lo=mx (rnd c R n first) n y c (t+1) lo
 | 0,lo,h=>by
   show evF (toQ R) n y (n - lo)=(rnd c R n first lo:Rat)+(y - c)*evF (toQ (rnd c R n first)) n y (n - (lo+1))
   have e:rnd c R n first lo=sy c R n (n - 1 - lo):=by unfold rnd;rw [if_neg ⋯]
   rw [e,show n - lo=(n - 1 - lo)+1 by omega,show n - (lo+1)=n - 1 - lo by omega]
   exact quL _ ⋯
 | t+1,lo,h=>by
   show (R lo:Rat)+(y - c)*mx R n y c t (lo+1)=(rnd c R n first lo:Rat)+(y - c)*mx (rnd c R n first) n y c (t+1) (lo+1)
   have e:rnd c R n first lo=R lo:=by unfold rnd;rw [if_pos ⋯]
   rw [e,qr2 hf t (lo+1) ⋯]
theorem qr3 {R:Nat->Int} {n:Nat} {y c:Rat}:∀ t lo,lo+t+1=n->mx R n y c t lo=evF (toQ R) n (y - c) (n - lo)
 | 0,lo,h=>by
   show evF (toQ R) n y (n - lo)=_
   rw [show n - lo=0+1 by omega]
   show toQ R (n - 1 - 0)+y*0=toQ R (n - 1 - 0)+(y - c)*0
   grind
 | t+1,lo,h=>by
   show (R lo:Rat)+(y - c)*mx R n y c t (lo+1)=_
   rw [qr3 t (lo+1) ⋯,show n - lo=(n - (lo+1))+1 by omega]
   show _=toQ R (n - 1 - (n - (lo+1)))+_
   rw [show n - 1 - (n - (lo+1))=lo by omega]
   rfl
noncomputable def rnds (c:Int) (R:Nat->Int) (n:Nat):Nat->Nat->Int
 | 0=>R
 | i+1=>rnd c (rnds c R n i) n i
theorem qpy {c:Int} {R:Nat->Int} {n:Nat} {y:Rat}:∀ i,i+1<=n->mx (rnds c R n i) n y c i 0=evF (toQ R) n y n
 | 0,_=>rfl
 | i+1,h=>by
   rw [<-qpy i ⋯]
   exact (qr2 ⋯ i 0 ⋯).symm
theorem qsX {c:Int} {R:Nat->Int} {n:Nat} {y:Rat} (hn:1<=n):evF (toQ (rnds c R n (n - 1))) n y n=evF (toQ R) n (y+c) n:=by
 have h:=qpy (c:=c) (R:=R) (n:=n) (y:=y+c) (n - 1) ⋯
 rw [qr3 (n - 1) 0 ⋯] at h
 rw [<-h,Nat.sub_zero]
 congr 1
 grind
theorem qsY {c:Int} {R:Nat->Int} {n first:Nat} (h:first<n):rnd c R n first (n - 1)=R (n - 1):=by
 unfold rnd
 rw [if_neg ⋯,show n - 1 - (n - 1)=0 by omega]
 rfl
theorem qk8 {c:Int} {R:Nat->Int} {n:Nat}:∀ i,i<n->rnds c R n i (n - 1)=R (n - 1)
 | 0,_=>rfl
 | i+1,h=>by
   show rnd c (rnds c R n i) n i (n - 1)=_
   rw [qsY ⋯,qk8 i ⋯]
noncomputable abbrev Nm (H:Hp) (p:Addr) (t d:Int):Prop:=H p=some (.tup [.int t,.int d])
noncomputable def qaI (_:W.Frag):Sp:=λvs H Q _=>∃ a b:Int,vs=[.int a,.int b]/\Q (.int ((Int.gcd a b:Nat):Int)) H
noncomputable def qk9 (K:W.Frag):Sp:=λvs H Q _=>∃ (a:Addr) (ns:List Int),vs=[.ref a]/\SqL K H a (ns.map V.int)/\ns.length<=63/\∀ H',Q (.bl true) H'
noncomputable def qcl (_:W.Frag):Sp:=λvs H Q _=>∃ (x n:Int) (b:Nat),vs=[.int x,.int n]/\0<=n/\Bd b x/\b*n.toNat+1<=200000/\Q (.int (x ^ n.toNat)) H
noncomputable def qbu (n:Nat) (f:Nat->Int):List V:=((List.range n).map f).map V.int
noncomputable def qcI (ns:List Int):Nat->Nat
 | 0=>0
 | m+1=>if ns.getD m 1=0 then qcI ns m else m+1
noncomputable def qej (ns:List Int):List Int:=ns.take (qcI ns ns.length)
noncomputable def Pl (H:Hp) (r:Addr) (L:List Nu):Prop:=∃ zs,H r=some (.tup zs)/\Nums H zs L
noncomputable def qbc (_:W.Frag):Sp:=λvs H Q _=>∃ (p:Addr) (ns:List Int),vs=[.ref p]/\H p=some (.lst (ns.map V.int))/\∀ r,H r=none->Q (.ref r) (upd H r (.lst ((qej ns).map V.int)))
noncomputable def Tz (ns:List Int):Prop:=ns=[]\/co ns (ns.length - 1)≠0
noncomputable def SDs (H:Hp):List V->List (List Int)->Prop
 | [],[]=>True
 | x::xs,r::rs=>(∃ p,x=.ref p/\H p=some (.lst (r.map V.int)))/\SDs H xs rs
 | _,_=>False
noncomputable def SD (H:Hp) (p:Addr) (rs:List (List Int)):Prop:=∃ xs,H p=some (.lst xs)/\SDs H xs rs
noncomputable def ZipR (R:List Int->List Int->List Int->Prop):List (List Int)->List (List Int)->List (List Int)->Prop
 | [],[],[]=>True
 | a::as,b::bs,c::cs=>R a b c/\ZipR R as bs cs
 | _,_,_=>False
noncomputable def qcQ (_:W.Frag):Sp:=λvs H Q _=>∃ (p:Addr) (ns:List Int) (st:Int),vs=[.ref p,.int st]/\H p=some (.lst (ns.map V.int))/\ns.length<=1000/\∀ (g:Int) (H':Hp),Same H H'->0<=g->g∣st->(∀ z∈ns,g∣z)->(∀ d:Int,d∣st->(∀ z∈ns,d∣z)->d∣g)->Q (.int g) H'
noncomputable def qbN (_:W.Frag):Sp:=λvs H Q _=>∃ (p:Addr) (ns:List Int) (g:Int),vs=[.ref p,.int g]/\H p=some (.lst (ns.map V.int))/\(0<g\/ns=[])/\ns.length<=1000/\∀ r,H r=none->Q (.ref r) (upd H r (.lst ((ns.map (·/ g)).map V.int)))
noncomputable def qby (_:W.Frag):Sp:=λvs H Q _=>∃ (p q:Addr) (ns ms:List Int) (f w:Int) (s:Nat),vs=[.ref p,.int f,.ref q,.int w,.int (s:Int)]/\H p=some (.lst (ns.map V.int))/\H q=some (.lst (ms.map V.int))/\ns.length<=1000/\s+ms.length<=1000/\Bd 60000000 f/\Bd 60000000 w/\(∀ z∈ns,Bd 60000000 z)/\(∀ z∈ms,Bd 60000000 z)/\
 ∀ (r:Addr) (rs:List Int) (H':Hp),Same H H'->H' r=some (.lst (rs.map V.int))->Tz rs->(∀ k,co rs k=f*co ns k - w*upS s (co ms) k)->Q (.ref r) H'
noncomputable def qbz (_:W.Frag):Sp:=λvs H Q _=>∃ (p q:Addr) (ns ms:List Int) (b d:Nat),vs=[.ref p,.ref q]/\H p=some (.lst (ns.map V.int))/\H q=some (.lst (ms.map V.int))/\Lz ms/\(∀ z∈ns,Bd b z)/\(∀ z∈ms,Bd d z)/\b+ns.length*(d+1)<=60000000/\d<=60000000/\ns.length<=1000/\ms.length<=1000/\((¬ ∃ A:List Int,∀ k,co ns k=cvL A (co ms) k)->∀ H',Same H H'->Q .non H')/\
 ∀ (r:Addr) (qs:List Int) (H':Hp),Same H H'->H' r=some (.lst (qs.map V.int))->qs.length=ns.length+1 - ms.length->(∀ k,co ns k=cvL qs (co ms) k)->Q (.ref r) H'
noncomputable def Sh (rows rows':List (List Int)):Prop:=∃ g:Int,0<g/\rows=rows'.map (·.map (g*·))
noncomputable def qvA (rows:List (List Int)):Prop:=(∀ r∈rows,r=[])\/∀ d:Int,(∀ r∈rows,∀ z∈r,d∣z)->d.natAbs=1
noncomputable def qaU (_:W.Frag):Sp:=λvs H Q _=>∃ (p:Addr) (rows:List (List Int)),vs=[.ref p]/\SD H p rows/\rows.length<=1000/\(∀ r∈rows,r.length<=1000/\Tz r)/\
 ∀ (t:Addr) (rows':List (List Int)) (H':Hp),Same H H'->SD H' t rows'->Sh rows rows'->qvA rows'->Q (.ref t) H'
noncomputable def qaS (_:W.Frag):Sp:=λvs H Q _=>∃ (p:Addr) (ns:List Int),vs=[.ref p]/\H p=some (.lst (ns.map V.int))/\ns.length<=1000/\Tz ns/\
 ∀ (t:Addr) (ms:List Int) (g:Int) (H':Hp),Same H H'->H' t=some (.lst (ms.map V.int))->0<g->ns=ms.map (g*·)->(ns=[]\/Prim ms)->Q (.ref t) H'
noncomputable def qbF (_:W.Frag):Sp:=λvs H Q _=>∃ (p q:Addr) (o:List Int),vs=[.ref p,.ref q]/\SD H p [[]]/\SD H q [o]/\0<o.length/\∀ (t:Addr) (H':Hp),Same H H'->SD H' t [[]]->Q (.ref t) H'
noncomputable def qa9 (_:W.Frag):Sp:=λvs H Q _=>∃ (p q:Addr) (s o:List Int),vs=[.ref p,.ref q]/\SD H p [s]/\SD H q [o]/\(s=[]\/o=[])/\∀ (t:Addr) (H':Hp),Same H H'->SD H' t [if o=[] then s else o]->Q (.ref t) H'
noncomputable def qa1 (_:W.Frag):Sp:=λvs H Q _=>∃ a p:Int,vs=[.int a,.int p]/\2<=p/\Bd 45000 p/\∀ r:Int,0<=r->r<p->(Int.gcd a p=1->p∣r*a - 1)->Q (.int r) H
noncomputable def qbd (_:W.Frag):Sp:=λvs H Q _=>∃ (p:Addr) (ns:List Int) (m:Int),vs=[.ref p,.int m]/\H p=some (.lst (ns.map V.int))/\0<m/\ns.length<=1000/\∀ r,H r=none->Q (.ref r) (upd H r (.lst ((ns.map (·% m)).map V.int)))
noncomputable def Md (m:Int) (rs:List Int) (f:Nat->Int):Prop:=(∀ z∈rs,0<=z/\z<m)/\∀ k,m∣co rs k - f k
noncomputable def qaT (_:W.Frag):Sp:=λvs H Q _=>∃ (p:Addr) (ns:List Int) (m:Int),vs=[.ref p,.int m]/\H p=some (.lst (ns.map V.int))/\0<m/\ns.length<=1000/\∀ (r:Addr) (rs:List Int) (H':Hp),Same H H'->H' r=some (.lst (rs.map V.int))->Tz rs->rs.length<=ns.length->Md m rs (co ns)->Q (.ref r) H'
noncomputable def qaQ (_:W.Frag):Sp:=λvs H Q _=>∃ (q:Addr) (ns:List Int) (p:Nat),vs=[.ref q,.int (p:Int)]/\H q=some (.lst (ns.map V.int))/\2<=p/\Bd 45000 (p:Int)/\ns.length<=1000/\(∀ z∈ns,Bd 60000000 z)/\(ns≠[]->Int.gcd (co ns (ns.length - 1)) (p:Int)=1)/\
 ∀ (r:Addr) (rs:List Int) (f:Int) (H':Hp),Same H H'->H' r=some (.lst (rs.map V.int))->rs.length=ns.length->(ns≠[]->co rs (rs.length - 1)=1)->Md (p:Int) rs (λk=>f*co ns k)->Q (.ref r) H'
noncomputable def qaZ (_:W.Frag):Sp:=λvs H Q _=>∃ (p q:Addr) (ns ms:List Int) (m:Int) (b:Nat),vs=[.ref p,.ref q,.int m]/\H p=some (.lst (ns.map V.int))/\H q=some (.lst (ms.map V.int))/\0<ms.length/\co ms (ms.length - 1)=1/\0<m/\Bd b m/\(∀ z∈ms,Bd b z)/\b<=60000000/\ns.length<=1000/\ms.length<=1000/\
 ∀ (t r s:Addr) (qs rs:List Int) (H':Hp),Same H H'->H' t=some (.tup [.ref r,.ref s])->H' r=some (.lst (qs.map V.int))->H' s=some (.lst (rs.map V.int))->Tz qs->Tz rs->rs.length<ms.length->Md m rs (λk=>co ns k - cvL qs (co ms) k)->(∀ z∈qs,0<=z/\z<m)->Q (.ref t) H'
noncomputable def qaR (_:W.Frag):Sp:=λvs H Q _=>∃ (p q:Addr) (ns ms:List Int) (m:Int) (b:Nat),vs=[.ref p,.ref q,.int m]/\H p=some (.lst (ns.map V.int))/\H q=some (.lst (ms.map V.int))/\0<ms.length/\co ms (ms.length - 1)=1/\0<m/\Bd b m/\(∀ z∈ms,Bd b z)/\b<=60000000/\ns.length<=1000/\ms.length<=1000/\
 ∀ (s:Addr) (qs rs:List Int) (H':Hp),Same H H'->H' s=some (.lst (rs.map V.int))->Tz rs->rs.length<ms.length->Md m rs (λk=>co ns k - cvL qs (co ms) k)->Q (.ref s) H'
noncomputable def qbf (_:W.Frag):Sp:=λvs H Q _=>∃ (a b:Addr) (ns ms:List Int) (p:Nat),vs=[.ref a,.ref b,.int (p:Int)]/\H a=some (.lst (ns.map V.int))/\H b=some (.lst (ms.map V.int))/\Pr p/\Bd 45000 (p:Int)/\ns.length<=1000/\ms.length<=1000/\((∃ k,¬ (p:Int)∣co ns k)\/∃ k,¬ (p:Int)∣co ms k)/\
 ∀ (s:Addr) (rs:List Int) (H':Hp),Same H H'->H' s=some (.lst (rs.map V.int))->0<rs.length->rs.length<=1000->co rs (rs.length - 1)=1->(∀ z∈rs,0<=z/\z<(p:Int))->(∀ g:Nat->Int,Dm (p:Int) g (co ns)->Dm (p:Int) g (co ms)->Dm (p:Int) g (co rs))->Dm (p:Int) (co rs) (co ns)->Dm (p:Int) (co rs) (co ms)->Q (.ref s) H'
noncomputable def qcb (_:W.Frag):Sp:=λvs H Q _=>∃ w p:Int,vs=[.int w,.int p]/\0<p/\∀ r:Int,p∣r - w->2*r.natAbs<=p.natAbs->Q (.int r) H
noncomputable def qvZ (d n c p:Nat):Prop:=2 ^ ((d+n*(2*c+4)+c+2)*(2*(n - 1)))<p
noncomputable def qa8 (_:W.Frag):Sp:=λvs H Q _=>∃ (a b:Addr) (ns ms:List Int) (p d n c:Nat),vs=[.ref a,.ref b,.int (p:Int)]/\H a=some (.lst (ns.map V.int))/\H b=some (.lst (ms.map V.int))/\Pr p/\Bd 45000 (p:Int)/\Lz ns/\Lz ms/\(∀ z∈ns,Bd d z)/\(∀ z∈ms,Bd d z)/\d+ns.length*45001<=1000000/\d+ms.length*45001<=1000000/\ns.length<=n/\ms.length<=n/\n<2 ^ c/\2<=n/\(¬ qvZ d n c p->∀ H',Same H H'->Q .non H')/\
 ∀ (s:Addr) (rs:List Int) (H':Hp),Same H H'->H' s=some (.lst (rs.map V.int))->RC (co ns) (co ms) rs->Prim rs->Q (.ref s) H'
noncomputable def qbO (_:W.Frag):Sp:=λvs H Q _=>∃ (a b:Addr) (ns ms:List Int) (d n c:Nat),vs=[.ref a,.ref b]/\H a=some (.lst (ns.map V.int))/\H b=some (.lst (ms.map V.int))/\Tz ns/\Tz ms/\(∀ z∈ns,Bd d z)/\(∀ z∈ms,Bd d z)/\ns.length<=n/\ms.length<=n/\n<=20/\2<=n/\n<2 ^ c/\(d+n*(2*c+4)+c+2)*(2*(n - 1))<=44490/\((ns=[]\/ms=[])->2*3 ^ (ns.length+ms.length)*(d+1)<=60000000)/\
 ∀ (s:Addr) (rs:List Int) (H':Hp),Same H H'->H' s=some (.lst (rs.map V.int))->((ns≠[]\/ms≠[])->RC (co ns) (co ms) rs/\Prim rs)->(ns=[]->ms=[]->rs=[])->Q (.ref s) H'
structure Gq (b c:Nat) (l:List Nu):Prop where
 low:qbr l
 nz:Nz l
 ov:∃ M,Ov l M/\Bd c M/\∀ z∈ovN l M,Bd b z
noncomputable def mnc (g:List Int):List Nu:=g.map λn=>qaP n (co g (g.length - 1))
noncomputable def MR (g f:Nat->Rat):Prop:=∃ A:List Rat,∀ k,f k=cvL A g k
noncomputable def qcL (_:W.Frag):Sp:=λvs H Q _=>∃ a b:Int,vs=[.int a,.int b]/\b≠0/\∀ (p:Addr),H p=none->Q (.ref p) (upd H p (.tup [.int (qaP a b).1,.int (qaP a b).2]))
noncomputable def qga (_:W.Frag):Sp:=λvs H Q _=>∃ (p:Addr) (xs:List V) (l:List Nu),vs=[.ref p]/\H p=some (.lst xs)/\Nums H xs l/\l.length<=1000/\qtM H Q (trim l)
noncomputable def qcc (_:W.Frag):Sp:=λvs H Q _=>∃ (p:Addr) (xs:List V) (l:List Nu) (M:Int),vs=[.ref p]/\H p=some (.tup xs)/\Nums H xs l/\qbr l/\Ov l M/\Bd 400000 M/\(∀ q∈l,Bd 60000000 q.1)/\l.length<=1000/\
 ∀ (r a:Addr) (H':Hp),Same H H'->H' r=some (.tup [.ref a,.int (qgA l)])->H' a=some (.lst ((qbX l).map V.int))->Q (.ref r) H'
noncomputable def qbv (_:W.Frag):Sp:=λvs H Q _=>∃ (p:Addr) (ns:List Int) (B:Int),vs=[.ref p,.int B]/\H p=some (.lst (ns.map V.int))/\B≠0/\ns.length<=1000/\qtM H Q (trim (ns.map λn=>qaP n B))
noncomputable def qla (_:W.Frag):Sp:=λvs H Q _=>∃ (p q:Addr) (xs ys:List V) (l m:List Nu) (b c n e:Nat),vs=[.ref p,.ref q]/\H p=some (.tup xs)/\H q=some (.tup ys)/\Nums H xs l/\Nums H ys m/\Gq b c l/\Gq b c m/\l.length<=n/\m.length<=n/\n<=20/\2<=n/\n<2 ^ e/\(b+n*(2*e+4)+e+2)*(2*(n - 1))<=44490/\c<=90000/\((l=[]\/m=[])->2*3 ^ (l.length+m.length)*(b+1)<=60000000)/\
 (l=[]->m=[]->qtM H Q [])/\((l≠[]\/m≠[])->∀ g,RC (co (qbX l)) (co (qbX m)) g->Prim g->qtM H Q (mnc g))
noncomputable def qr4 (f:Nu->Nu->Nu) (_:W.Frag):Sp:=λvs H Q _=>∃ (p q:Addr) (a b c d:Int),vs=[.ref p,.ref q]/\Nm H p a b/\Nm H q c d/\0<b/\0<d/\Bd 60000000 a/\Bd 60000000 b/\Bd 60000000 c/\Bd 60000000 d/\
 ∀ (r:Addr),H r=none->Q (.ref r) (upd H r (.tup [.int (f (a,b) (c,d)).1,.int (f (a,b) (c,d)).2]))
noncomputable def Cop (T B:Nat->Rat):Prop:=∃ U W:List Rat,∀ k,(qb8 k:Rat)=cvL U T k+cvL W B k
noncomputable def qbi (_:W.Frag):Sp:=λvs H Q _=>∃ (p q:Addr) (ns ms:List Int) (b d:Nat),vs=[.ref p,.ref q]/\H p=some (.lst (ns.map V.int))/\H q=some (.lst (ms.map V.int))/\(∀ z∈ns,Bd b z)/\(∀ z∈ms,Bd d z)/\b<=900000/\d<=900000/\ns.length<=100/\ms.length<=100/\
 ∀ (r:Addr) (H':Hp),Same H H'->H' r=some (.lst ((if ns.length=0\/ms.length=0 then [] else (List.range (ns.length+ms.length - 1)).map λk=>ps ns ms ns.length k).map V.int))->Q (.ref r) H'
structure Fr (l m T B:List Nu):Prop where
 eq:∀ k,cv (pwo T) (pwo m) T.length k=cv (pwo l) (pwo B) l.length k
 st:T.length<=l.length
 sb:B.length<=m.length
structure Fq (b c:Nat) (T B:List Nu):Prop where
 gt:Gq b c T
 gb:Gq b c B
 ne:B≠[]
 one:qhd B (B.length - 1)=(1,1)
 cop:Cop (pwo T) (pwo B)
structure S1 (b c n e:Nat):Prop where
 n20:n<=20
 n2:2<=n
 ne:n<2 ^ e
 lu:(b+n*(2*e+4)+e+2)*(2*(n - 1))<=44490
 cc:c<=60000
 em:2*3 ^ n*(b+1)<=60000000
 dv:(n+2)*(b+n*(2*e+4)+1)<=200000
noncomputable def D1 (b n e:Nat):Nat:=b+n*(2*e+4)
noncomputable def Bt (b n e:Nat):Nat:=3*b+2*D1 b n e+n+1
structure S2 (b n e:Nat):Prop where
 a:S1 b b n e
 n20:2*n - 1<=20
 lu:(Bt b n e+(2*n - 1)*(2*(e+1)+4)+(e+1)+2)*(2*(2*n - 1 - 1))<=44490
 cc:4*b+D1 b n e<=60000
 em:2*3 ^ n*(Bt b n e+1)<=60000000
 dv:(2*n+2)*(D1 b n e+n*(2*e+4)+1)+Bt b n e<=200000
noncomputable def rw' (l:List Nu):List Rat:=(List.range l.length).map (pwo l)
noncomputable def dv (f:Nat->Rat) (k:Nat):Rat:=((k:Rat)+1)*f (k+1)
noncomputable def evN (l:List Nu) (x:Rat):Rat:=evF (pwo l) l.length x l.length
noncomputable def bS (b n e:Nat):Nat:=(b+5)+2*D1 (b+5) n e+n+2*b+1
noncomputable def bM (b n:Nat):Nat:=b+80*n+41*n*n+3
structure Mvd (s:Rat) (b n:Nat) (l L:List Nu):Prop where
 gq:Gq (bM b n) (bM b n) L
 len:L.length=l.length
 top:pwo L (l.length - 1)=pwo l (l.length - 1)
 ev:∀ x,evN L x=evN l (x+s)
noncomputable def qi9 (_:W.Frag):Sp:=λvs H Q _=>∃ (p:Addr) (xs:List V) (l:List Nu) (b c:Nat),vs=[.ref p]/\H p=some (.tup xs)/\Nums H xs l/\Gq b c l/\l.length<=31/\b<=200000/\c<=200000/\
 ∀ (r:Addr) (R:List Nu) (H':Hp),Same H H'->Pl H' r R->Gq (b+5) c R->R.length=l.length - 1->(∀ k,pwo R k=dv (pwo l) k)->Q (.ref r) H'
structure S4 (b n e:Nat):Prop where
 a:S1 (b+5) (b+5) n e
 n20:2*n - 1<=20
 lu:(bS b n e+(2*n - 1)*(2*(e+1)+4)+(e+1)+2)*(2*(2*n - 1 - 1))<=44490
 m:S1 (bM b n+5) (bM b n+5) n e
 s8:bS b n e+4*b<=8000
 m8:bM b n<=8000
noncomputable def Hand (H:Hp) (p a:Addr) (n:Int):Prop:=∃ (ns:List Int) (x y z:Int),H p=some (.lst [.ref a,.int x,.int y,.int z])/\H a=some (.lst (ns.map V.int))/\ns.length<=1000/\a≠p/\0<=x/\x<=n/\0<=y
noncomputable def qdD (K:W.Frag):Sp:=λvs H Q _=>∃ (s:Addr) (ns:List Int),vs=[.ref s]/\SqL K H s (ns.map V.int)/\ns.length<=63/\∀ (p a:Addr) (H':Hp),H p=none->Kp p H H'->Hand H' p a 0->Q (.ref p) H'
noncomputable def qaK (_:W.Frag):Sp:=λvs H Q _=>∃ (p a:Addr) (m n:Int),vs=[.ref p,.int m]/\Hand H p a n/\n<=100000/\0<m/\m<=1000000/\
 ∀ (d:Int) (H':Hp),0<=d->d<m->Hand H' p a (n+2)->Kp p H H'->Q (.int d) H'
noncomputable abbrev qbk:=qcL
noncomputable def qbl (_:W.Frag):Sp:=λvs H Q _=>∃ (p q:Addr) (a b:List Int) (n m:Nat),vs=[.ref p,.ref q]/\H p=some (.lst (a.map V.int))/\H q=some (.lst (b.map V.int))/\Lz a/\Lz b/\a.length<=20/\b.length<=20/\(∀ z∈a,Bd n z)/\(∀ z∈b,Bd m z)/\n<=1000/\m<=1000/\
 ∀ (r:Addr) (c:List Int) (H':Hp),Same H H'->H' r=some (.lst (c.map V.int))->c.length=a.length+b.length - 1->Lz c->(∀ k,co c k=ps a b a.length k)->Q (.ref r) H'
noncomputable def qbJ (_:W.Frag):Sp:=λvs H Q _=>∃ (p q:Addr) (ns:List Int) (t d:Int),vs=[.ref p,.ref q]/\H p=some (.lst (ns.map V.int))/\Nm H q t d/\d≠0/\Bd 1000 t/\(∀ z∈ns,Bd 1000 z)/\ns.length<=1000/\qtM H Q (ns.map λn=>qaP (n*t) d)
noncomputable def qcR (_:W.Frag):Sp:=λvs H Q _=>∃ (p a:Addr) (n:Int),vs=[.ref p]/\Hand H p a n/\n<=90000/\
 ∀ (r:Addr) (t d:Int) (H':Hp),Nm H' r t d->Low t d->t≠0->Bd 4 t->Bd 4 d->Hand H' p a (n+6)->Kp p H H'->Q (.ref r) H'
noncomputable def sr (l:List Nu):Sr:=⟨pwo l⟩
noncomputable def si (ns:List Int):Sr:=⟨λk=>(co ns k:Rat)⟩
noncomputable def dI (ns:List Int):List Int:=(List.range (ns.length - 1)).map λk=>((k+1:Nat):Int)*co ns (k+1)
noncomputable def RadOf (F L:Sr):Prop:=∃ S M:Sr,Sr.Pol S/\Sr.Pol L/\Sr.Pol M/\F=S*L/\Sr.D F=S*M/\Sr.Cs L M
noncomputable def qbK (_:W.Frag):Sp:=λvs H Q _=>∃ (p:Addr) (ns:List Int) (b:Nat),vs=[.ref p]/\H p=some (.lst (ns.map V.int))/\ns.length<=100/\(∀ z∈ns,Bd b z)/\b<=100000/\∀ (r:Addr) (H':Hp),Same H H'->H' r=some (.lst ((dI ns).map V.int))->Q (.ref r) H'
noncomputable def qbP (_:W.Frag):Sp:=λvs H Q _=>∃ (p:Addr) (ns:List Int) (b:Nat),vs=[.ref p]/\H p=some (.lst (ns.map V.int))/\Lz ns/\(∀ z∈ns,Bd b z)/\b<=550/\ns.length<=9/\
 ∀ (r:Addr) (rs:List Int) (H':Hp),Same H H'->H' r=some (.lst (rs.map V.int))->Lz rs->rs.length<=ns.length->(∀ z∈rs,Bd (b+108) z)->(∃ (c:Rat) (L:Sr),c≠0/\RadOf (si ns) L/\si rs=Sr.num c*L)->0<co rs (rs.length - 1)->Q (.ref r) H'
end Bs
namespace Bs
open PySem L2
noncomputable def dE:List Int->Int->Int
 | [],_=>0
 | _::l,r=>evI l r+r*dE l r
noncomputable def hw:List Int->Int->Int->Int
 | [],_,_=>0
 | a::l,t,s=>a*s ^ l.length+t*hw l t s
noncomputable def RtQ (l:List Int) (q:Nu):Prop:=Low q.1 q.2/\hw l q.1 q.2=0
noncomputable def Rising (rs:List Nu):Prop:=rs.Pairwise λa b=>a.1*b.2<b.1*a.2
noncomputable def lst' (l:List Int):Int:=co l (l.length - 1)
noncomputable def qdR (_:W.Frag):Sp:=λvs H Q _=>∃ n:Nat,vs=[.int (n:Int)]/\n<=1000000/\∀ b:Bool,(b=true↔Pr n)->Q (.bl b) H
noncomputable def qcf (_:W.Frag):Sp:=λvs H Q _=>∃ n g:Nat,vs=[.int (n:Int)]/\Pr g/\n<g/\g<=2000/\∀ r:Nat,Pr r->n<r->r<=g->Q (.int (r:Int)) H
noncomputable def qbD (_:W.Frag):Sp:=λvs H Q _=>∃ (a:Addr) (ns:List Int) (x m:Int),vs=[.ref a,.int x,.int m]/\H a=some (.lst (ns.map V.int))/\ns.length<=1000/\0<m/\Bd 3200 m/\Bd 3200 x/\∀ v:Int,0<=v->v<m->m∣v - evI ns x->Q (.int v) H
noncomputable def qbg (_:W.Frag):Sp:=λvs H Q _=>∃ (a:Addr) (ns:List Int) (p:Nat),vs=[.ref a,.int (p:Int)]/\H a=some (.lst (ns.map V.int))/\Pr p/\p<=2000/\Lz ns/\ns.length<=9/\
 (((p:Int)∣lst' ns\/∃ x,(p:Int)∣evI ns x/\(p:Int)∣evI (dI ns) x)->∀ H',Same H H'->Q .non H')/\
 ∀ (r:Addr) (ss:List Int) (H':Hp),Same H H'->H' r=some (.lst (ss.map V.int))->¬ (p:Int)∣lst' ns->ss.Nodup->(∀ x,0<=x->x<(p:Int)->(p:Int)∣evI ns x->x∈ss)->(∀ x∈ss,0<=x/\x<(p:Int)/\(p:Int)∣evI ns x/\¬ (p:Int)∣evI (dI ns) x)->Q (.ref r) H'
noncomputable def qb3 (_:W.Frag):Sp:=λvs H Q _=>∃ (a b:Addr) (ns:List Int) (c:Int) (p:Nat),vs=[.ref a,.ref b,.int (p:Int)]/\H a=some (.lst (ns.map V.int))/\H b=some (.lst ([c,1].map V.int))/\Pr p/\p<=2000/\Bd 20 c/\ns.length<=20/\¬ (p:Int)∣evI ns (-c)/\
 ∀ (r:Addr) (w:Int) (H':Hp),Same H H'->H' r=some (.lst ([w].map V.int))->0<=w->w<(p:Int)->(p:Int)∣w*evI ns (-c) - 1->Q (.ref r) H'
noncomputable def qfr (_:W.Frag):Sp:=λvs H Q _=>∃ (a b:Addr) (ns:List Int) (s F:Int) (p:Nat),vs=[.ref a,.ref b,.int (p:Int),.int F]/\H a=some (.lst (ns.map V.int))/\H b=some (.lst ([-s,1].map V.int))/\Pr p/\p<=2000/\Lz ns/\ns.length<=9/\(∀ z∈ns,Bd 658 z)/\0<=s/\s<(p:Int)/\¬ (p:Int)∣lst' ns/\(p:Int)∣evI ns s/\¬ (p:Int)∣evI (dI ns) s/\0<F/\Bd 1500 F/\
 ∀ (t u:Addr) (c:Int) (j:Nat) (H':Hp),Same H H'->H' t=some (.tup [.ref u,.int ((p ^ j:Nat):Int)])->H' u=some (.lst ([c,1].map V.int))->F<((p ^ j:Nat):Int)->Bd 3200 ((p ^ j:Nat):Int)->Bd 3200 c->((p ^ j:Nat):Int)∣evI ns (-c)->(p:Int)∣-c - s->Q (.ref t) H'
noncomputable def qbW (_:W.Frag):Sp:=λvs H Q _=>∃ (a:Addr) (ns:List Int),vs=[.ref a]/\H a=some (.lst (ns.map V.int))/\Lz ns/\ns.length<=9/\(∀ z∈ns,Bd 658 z)/\0<lst' ns/\
 ∀ (e:Int) (H':Hp),Same H H'->e<=800->(∀ i,i+1<ns.length->2 ^ (ns.length - 1 - i)*(co ns i).natAbs<=(lst' ns).natAbs*2 ^ ((ns.length - 1 - i)*e.toNat))->Q (.int e) H'
end Bs
namespace Bs
open PySem L2
noncomputable def Fb (b n:Nat):Prop:=(b<=40/\n<=9)\/(b<=550/\n<=3)
theorem Fb.n9 {b n:Nat} (h:Fb b n):n<=9:=by rcases h with h | h <;> omega
theorem Fb.b5 {b n:Nat} (h:Fb b n):b<=550:=by rcases h with h | h <;> omega
theorem Fb.mono {b n m:Nat} (h:Fb b n) (l:m<=n):Fb b m:=by
 rcases h with h | h
 ·exact .inl ⋯
 ·exact .inr ⋯
noncomputable def qa2 (_:W.Frag):Sp:=λvs H Q _=>∃ (a:Addr) (xs:List V) (l:List Nu) (b:Nat),vs=[.ref a]/\H a=some (.tup xs)/\Nums H xs l/\qbr l/\Fb b l.length/\Bd b (qgA l)/\(∀ q∈l,Bd b q.1)/\(∀ z∈qbX l,Bd b z)/\Lz (qbX l)/\
 ∀ (r:Addr) (us:List V) (rs:List Nu) (H':Hp),H r=none->Same H H'->H' r=some (.lst us)->Nums H' us rs->Rising rs->(∀ q,q∈rs↔RtQ (qbX l) q)->Q (.ref r) H'
noncomputable def qcd (_:W.Frag):Sp:=λvs H Q _=>∃ (a:Addr) (us:List V) (ls:List Nu),vs=[.ref a]/\H a=some (.lst us)/\Nums H us ls/\qbr ls/\ls.length<=600000/\(∀ q∈ls,Bd 400 q.1/\Bd 400 q.2)/\
 ∀ (r:Addr) (ws:List V) (rs:List Nu) (H':Hp),Same H H'->H' r=some (.lst ws)->Nums H' ws rs->Rising rs->(∀ q,q∈rs↔q∈ls)->rs.length<=ls.length->Q (.ref r) H'
noncomputable def qbZ (_:W.Frag):Sp:=λvs H Q _=>∃ (p:Addr) (ns:List Int) (c:Int) (b n:Nat),vs=[.ref p,.int c]/\H p=some (.lst (ns.map V.int))/\ns.length<=n/\n<=3/\(∀ z∈ns,Bd b z)/\b<=20000/\Bd 254 c/\
 ∀ (r:Addr) (H':Hp),Same H H'->H' r=some (.lst (qbu ns.length (rnds c (λk=>ns.getD k 0) ns.length (ns.length - 1))))->Q (.ref r) H'
noncomputable def qcS (_:W.Frag):Sp:=λvs H Q _=>∃ (p q:Addr) (xs:List V) (l:List Nu) (a:Int),vs=[.ref p,.ref q]/\H p=some (.tup xs)/\Nm H q a 3/\Nums H xs l/\Gq 40 40 l/\Low a 3/\Bd 253 a/\l.length<=3/\
 ∀ (r:Addr) (H':Hp) (L:List Nu),Same H H'->Pl H' r L->Gq 550 550 L->L.length=l.length->(∀ x,evN L x=evN l (x+val (a,3)))->Q (.ref r) H'
noncomputable def qhh (_:W.Frag):Sp:=λvs H Q _=>∃ (p:Addr) (t d:Int) (n b:Nat),vs=[.ref p,.int (n:Int)]/\Nm H p t d/\Bd b t/\Bd b d/\b*n+1<=8000/\
 ∀ r,H r=none->Q (.ref r) (upd H r (.tup [.int (t ^ n),.int (d ^ n)]))
noncomputable def Plc (small:Bool) (q:Nu):Prop:=Low q.1 q.2/\q.1.natAbs+q.2.natAbs<=(if small=true then 15 else 110000)
noncomputable def qdE (_:W.Frag):Sp:=λvs H Q _=>∃ (p a:Addr) (g:Bool) (n:Int),vs=[.ref p,.bl g]/\Hand H p a n/\n<=90000/\
 ∀ (r:Addr) (t d:Int) (H':Hp),Nm H' r t d->Plc (!g) (t,d)->Hand H' p a (n+8)->Kp p H H'->Q (.ref r) H'
noncomputable def Rless (ns:List Int):Prop:=∀ q:Nu,Low q.1 q.2->hw ns q.1 q.2≠0
noncomputable def qcM (_:W.Frag):Sp:=λvs H Q _=>∃ (p a:Addr) (m n:Int),vs=[.ref p,.int m]/\Hand H p a n/\n<=90000/\2<=m/\m<=4/\
 ∀ (r:Addr) (ns:List Int) (H':Hp),H' r=some (.lst (ns.map V.int))->(ns.length:Int)=m+1->Lz ns->(∀ z∈ns,z.natAbs<=14)->Rless ns->r≠p->Hand H' p a (n+20)->Kp p H H'->Q (.ref r) H'
noncomputable def qcg (_:W.Frag):Sp:=λvs H Q _=>∃ (p:Addr) (t d:Int),vs=[.ref p]/\Nm H p t d/\∀ H',Same H H'->Q (.bl true) H'
noncomputable def qfs (_:W.Frag):Sp:=λvs H Q _=>∃ (p a:Addr) (m n:Int),vs=[.ref p,.int m]/\Hand H p a n/\n<=95000/\0<m/\
 ∀ (d:Int) (H':Hp),0<=d->d<m->Hand H' p a (n+4)->Kp p H H'->Q (.int d) H'
noncomputable def qb4 (_:W.Frag):Sp:=λvs H Q _=>∃ (p a:Addr) (m n:Int),vs=[.ref p,.int m]/\Hand H p a n/\n<=90000/\1<m/\m<=1000000000000/\
 ∀ (r:Addr) (t d:Int) (H':Hp),Nm H' r t d->Low t d->t.natAbs<m.natAbs->d.natAbs<m.natAbs->Hand H' p a (n+10)->Kp p H H'->Q (.ref r) H'
noncomputable def qft (_:W.Frag):Sp:=λvs H Q _=>∃ (p a:Addr) (n:Int),vs=[.ref p]/\Hand H p a n/\n<=80000/\∀ H',Q (.bl true) H'
end Bs
namespace Bs
open PySem L2
section
variable (K:W.Frag)
set_option linter.unusedVariables false
noncomputable def qdX (_:W.Frag):TS:=
 (qaD (qb9 (qaX (tOp rNe (qaf 1) (tC (.int 0)))) (qaD (qaJ (tOp qsz (qaf 0) (qaf 1)) (qak 2))
  (qaD (qaJ (qaf 1) (qak 0))
  (qaJ (qaf 2) (qak 1)))))
  (qbB (tCB qoE (qab (qaf 0) qan))))
noncomputable def qm2 (_:W.Frag):TS:=
 (qaD (qaJ (tC (.int 1)) (qak 2))
  (qaD (qaJ (qaf 0) (qak 3))
  (qaD (qb9 (qaX (tOp iGt (qaf 1) (tC (.int 0)))) (qaD (qdq (qaX (tOp rEq (tOp qhH (qaf 1) (tC (.int 2))) (tC (.int 1)))) (qn2 2 (qaf 3) qce) qbp)
  (qaD (qn2 1 (tC (.int 2)) qkR)
  (qdq (qaX (tOp iGt (qaf 1) (tC (.int 0)))) (qn2 3 (qaf 3) qce) qbp))))
  (qbB (qaf 2)))))
noncomputable def qnI (_:W.Frag):TS:=
 (qaD (qaJ (tC (.int 2)) (qak 1))
  (qaD (qb9 (qaX (tOp iLe (tOp qce (qaf 1) (qaf 1)) (qaf 0))) (qaD (qdq (qaX (tOp rEq (tOp qhH (qaf 0) (qaf 1)) (tC (.int 0)))) (qbB (tC (.bl false))) qbp)
  (qn2 1 (tC (.int 1)) qdA)))
  (qbB (tOp iGt (qaf 0) (tC (.int 1))))))
noncomputable def qj0:TS:=
 (qaD (qaJ (tOp qdA (qaf 0) (tC (.int 1))) (qak 1))
  (qaD (qb9 (qqA (tB (qao (qdR K) [] E0 (qab (qaf 1) qan)))) (qn2 1 (tC (.int 1)) qdA))
  (qbB (qaf 1))))
noncomputable def qlb:TS:=
 (qaD (qaJ (qao (qaI K) [] E0 (qab (qqT (qmP (qci K (qaf 0)) [none] (qak 0) (qaX (tOp rNe (qaf 0) (tC (.int 0)))) (tCB qoE (qab (qaf 0) qan)))) (qab (qaf 1) qan))) (qak 2))
  (qaD (qea (qci K (qaf 0)) (qak 3) (qaD (qdq (qaX (tOp rEq (qaf 2) (tC (.int 1)))) (qbB (tC (.int 1))) qbp)
  (qaJ (qao (qaI K) [] E0 (qab (qaf 3) (qab (qaf 2) qan))) (qak 2))))
  (qbB (qaf 2))))
noncomputable def qfu (_:W.Frag):TS:=
 (qaD (qaJ (tCB qbS (qab (qaf 0) qan)) (qak 1))
  (qaD (qb9 (qn7 (qaX (tOp iGt (qaf 1) (tC (.int 0)))) (qaX (tOp rEq (tOp gL (qaf 0) (tOp qdw (qaf 1) (tC (.int 1)))) (tC (.int 0))))) (qn2 1 (tC (.int 1)) qdw))
  (qbB (tSl sL (qaf 0) qcW (qhv (qaf 1))))))
noncomputable def qgC:TS:=
 (qbB (qb0 (qci K (qaf 0)) [none,some 1] (qak 0) (tOp qk0 (qaf 0) (qaf 1))))
noncomputable def qhZ:TS:=
 (qaD (qdq (tOr (qqA (qiH (qaf 0))) (qqA (qiH (qaf 1)))) (qbB (qdv qan)) qbp)
  (qaD (qaJ (tOp qrK (qdv (qab (tC (.int 0)) qan)) (tOp qdw (tOp qdA (tCB qbS (qab (qaf 0) qan)) (tCB qbS (qab (qaf 1) qan))) (tC (.int 1)))) (qak 2))
  (qaD (qea (qeJ K (qab (qaf 0) qan)) (qhL 2 (qdJ (qak 3) (qdJ (qak 4) qn9))) (qdq (qaX (tOp rNe (qaf 4) (tC (.int 0)))) (qea (qeJ K (qab (qaf 1) qan)) (qhL 2 (qdJ (qak 5) (qdJ (qak 6) qn9))) (qkA (qaf 2) (tOp qdA (qaf 3) (qaf 5)) (tOp qce (qaf 4) (qaf 6)) gL qdA qeU)) qbp))
  (qbB (qaf 2)))))
noncomputable def qh0 (_:W.Frag):TS:=
 (qbB (qb0 (qoc (qab (tC (.int 1)) (qab (tCB qbS (qab (qaf 0) qan)) qan))) [none,some 0] (qak 0) (tOp qce (qaf 0) (tOp gL (qaf 1) (qaf 0)))))
noncomputable def qek (_:W.Frag):TS:=
 (qdq (qaX (tOp rNe (qaf 6) (tC (.int 0)))) (qea (qiC (qab (qaf 3) qan)) (qak 7) (qkA (qaf 2) (tOp qdA (qaf 5) (qaf 7)) (tOp qce (qaf 6) (tOp gL (qaf 1) (qaf 7))) gL qdw qeU)) qbp)
noncomputable def qel:TS:=
 (qaD (qaJ (qaf 6) (qqB (qaf 4) (qaf 5) qeU))
  (qek K))
noncomputable def qem:TS:=
 (qaD (qdq (qaX (tOp rNe (tOp qce (qaf 6) (tOp gL (qaf 1) (tUn qdK (tC (.int 1))))) (tOp gL (qaf 2) (tOp qdA (qaf 5) (qaf 3))))) (qbB (tC .non)) qbp)
  (qel K))
noncomputable def qen:TS:=
 (qaD (qaJ (tOp qiI (tOp gL (qaf 2) (tOp qdA (qaf 5) (qaf 3))) (tOp gL (qaf 1) (tUn qdK (tC (.int 1))))) (qak 6))
  (qem K))
noncomputable def qgD (_:W.Frag):TS:=
 (qbB (tIf (tB (tCB qqU (qab (tSl sL (qaf 2) qcW (qhv (qaf 3))) qan))) (tC .non) (qaf 4)))
noncomputable def qgE:TS:=
 (qaD (qea (qoV (qab (tOp qdw (tOp qdw (tCB qbS (qab (qaf 0) qan)) (qaf 3)) (tC (.int 1))) (qab (tUn qdK (tC (.int 1))) (qab (tUn qdK (tC (.int 1))) qan)))) (qak 5) (qen K))
  (qgD K))
noncomputable def qgF:TS:=
 (qaD (qaJ (tOp qrK (qdv (qab (tC (.int 0)) qan)) (tCB qsA (qab (tOp qdw (tCB qbS (qab (qaf 0) qan)) (qaf 3)) (qab (tC (.int 0)) qan)))) (qak 4))
  (qgE K))
noncomputable def qgG:TS:=
 (qaD (qaJ (tOp qdw (tCB qbS (qab (qaf 1) qan)) (tC (.int 1))) (qak 3))
  (qgF K))
noncomputable def qja:TS:=
 (qaD (qaJ (tCB qhK (qab (qaf 0) qan)) (qak 2))
  (qgG K))
noncomputable def qh1:TS:=
 (qaD (qaJ (tC (.int 0)) (qak 3))
  (qaD (qea (qvl K (qab (qaf 0) qan)) (qak 4) (qaJ (tOp qhH (tOp qdA (tOp qce (qaf 3) (qaf 1)) (qaf 4)) (qaf 2)) (qak 3)))
  (qbB (qaf 3))))
noncomputable def qh2:TS:=
 (qaD (qaJ (qdv qan) (qak 1))
  (qaD (qea (qoc (qab (tC (.int 1)) (qab (tCB qbS (qab (qaf 0) qan)) qan))) (qak 2) (qaD (qaJ (tOp gL (qaf 0) (tOp qdw (tOp qdw (tCB qbS (qab (qaf 0) qan)) (tC (.int 1))) (qaf 2))) (qak 3))
  (qdq (qaX (tOp rNe (qaf 3) (tC (.int 0)))) (qeG (tBM K "list" qbR (qaf 1) (qab (tUn qdK (tOp qk0 (tOp qdw (tOp qdw (qt4 K "int" qsJ (tOp gL (qaf 0) (tUn qdK (tC (.int 1))))) (qt4 K "int" qsJ (qaf 3))) (tC (.int 1))) (qaf 2))) qan))) qbp)))
  (qbB (tOp qdA (tC (.int 1)) (qux (qaf 1))))))
noncomputable def qjb:TS:=
 (qaD (qaJ (qb0 (qci K (qaf 0)) [none,some 1] (qak 0) (tOp qce (qaf 1) (qaf 0))) (qak 5))
  (qaD (qeG (tBM K "list" qjI (qaf 5) (qab (tOp qrK (qdv (qab (tC (.int 0)) qan)) (tOp qdw (tOp qdA (tCB qbS (qab (qaf 2) qan)) (qaf 4)) (tCB qbS (qab (qaf 0) qan)))) qan)))
  (qaD (qea (qeJ K (qab (qaf 2) qan)) (qhL 2 (qdJ (qak 6) (qdJ (qak 7) qn9))) (qkA (qaf 5) (tOp qdA (qaf 6) (qaf 4)) (tOp qce (qaf 3) (qaf 7)) gL qdw qeU))
  (qbB (qao (qbc K) [] E0 (qab (qaf 5) qan))))))
noncomputable def qh3 (_:W.Frag):TS:=
 (qaD (qaJ (tCB qhK (qab (qaf 0) qan)) (qak 2))
  (qaD (qea (qiC (qab (tOp qdw (tCB qbS (qab (qaf 0) qan)) (tC (.int 1))) qan)) (qak 3) (qea (qoV (qab (tOp qdw (tCB qbS (qab (qaf 0) qan)) (tC (.int 2))) (qab (tOp qdw (qaf 3) (tC (.int 1))) (qab (tUn qdK (tC (.int 1))) qan)))) (qak 4) (qkA (qaf 2) (qaf 4) (tOp qce (qaf 1) (tOp gL (qaf 2) (tOp qdA (qaf 4) (tC (.int 1))))) gL qdA qeU)))
  (qbB (qaf 2))))
noncomputable def qfv:TS:=
 (qaJ (qb0 (qvm K (qab (qaf 0) (qab (qaf 1) qan))) [none,none,some 6,some 7,some 2] (qhL 2 (qdJ (qak 0) (qdJ (qak 1) qn9))) (qao (qby K) [] E0 (qab (qaf 0) (qab (qaf 2) (qab (qaf 1) (qab (qaf 3) (qab (qaf 4) qan))))))) (qak 0))
noncomputable def qfw:TS:=
 (qaD (qaJ (tOp qiI (qaf 3) (qaf 5)) (qak 7))
  (qfv K))
noncomputable def qfx:TS:=
 (qaD (qaJ (tOp qiI (qaf 4) (qaf 5)) (qak 6))
  (qfw K))
noncomputable def qfy:TS:=
 (qaD (qaJ (qao (qaI K) [] E0 (qab (qaf 3) (qab (qaf 4) qan))) (qak 5))
  (qfx K))
noncomputable def qfz:TS:=
 (qaD (qaJ (tOp gL (tOp gL (qaf 1) (tC (.int 0))) (tUn qdK (tC (.int 1)))) (qak 4))
  (qfy K))
noncomputable def qfA:TS:=
 (qaD (qaJ (tOp gL (tOp gL (qaf 0) (tC (.int 0))) (tUn qdK (tC (.int 1)))) (qak 3))
  (qfz K))
noncomputable def qfB:TS:=
 (qaD (qaJ (tOp qdw (tCB qbS (qab (tOp gL (qaf 0) (tC (.int 0))) qan)) (tCB qbS (qab (tOp gL (qaf 1) (tC (.int 0))) qan))) (qak 2))
  (qfA K))
noncomputable def qeo:TS:=
 (qbB (qao (qaU K) [] E0 (qab (qaf 0) qan)))
noncomputable def qfC:TS:=
 (qaD (qb9 (qaX (tOp iGe (tCB qbS (qab (tOp gL (qaf 0) (tC (.int 0))) qan)) (tCB qbS (qab (tOp gL (qaf 1) (tC (.int 0))) qan)))) (qfB K))
  (qeo K))
noncomputable def qdc:TS:=
 (qaD (qaJ (tC (.int 0)) (qak 1))
  (qaD (qea (qci K (qaf 0)) (qak 2) (qaJ (qao (qcQ K) [] E0 (qab (qaf 2) (qab (qaf 1) qan))) (qak 1)))
  (qbB (qb0 (qci K (qaf 0)) [none,some 1] (qak 0) (qao (qbN K) [] E0 (qab (qaf 0) (qab (qaf 1) qan)))))))
noncomputable def qep:TS:=
 (qbB (tOp gL (qao (qaU K) [] E0 (qab (qdv (qab (qaf 0) qan)) qan)) (tC (.int 0))))
noncomputable def qeq:TS:=
 (qaD (qb9 (qiH (tOp gL (qaf 1) (tC (.int 0)))) (qaD (qdq (qaX (tOp rEq (tCB qbS (qab (tOp gL (qaf 1) (tC (.int 0))) qan)) (tC (.int 1)))) (qbB (qaf 1)) qbp)
  (qaD (qaJ (qao (qbF K) [] E0 (qab (qaf 0) (qab (qaf 1) qan))) (qak 2))
  (qaD (qaJ (qaf 1) (qak 0))
  (qaJ (qaf 2) (qak 1))))))
  (qbB (qaf 0)))
noncomputable def qcm (_:W.Frag):TS:=
 (qaJ (qaf 7) (qak 5))
noncomputable def qcn:TS:=
 (qaD (qaJ (qaf 5) (qak 4))
  (qcm K))
noncomputable def qco:TS:=
 (qaD (qaJ (tOp qdw (qaf 4) (tOp qce (qaf 6) (qaf 5))) (qak 7))
  (qcn K))
noncomputable def qcp:TS:=
 (qaD (qaJ (qaf 7) (qak 3))
  (qco K))
noncomputable def qcq:TS:=
 (qaD (qaJ (qaf 3) (qak 2))
  (qcp K))
noncomputable def qcr:TS:=
 (qaD (qaJ (tOp qdw (qaf 2) (tOp qce (qaf 6) (qaf 3))) (qak 7))
  (qcq K))
noncomputable def qcs:TS:=
 (qaD (qaJ (tOp qk0 (qaf 2) (qaf 3)) (qak 6))
  (qcr K))
noncomputable def qdd (_:W.Frag):TS:=
 (qbB (tOp qhH (qaf 4) (qaf 1)))
noncomputable def qde:TS:=
 (qaD (qb9 (qaX (tOp rNe (qaf 3) (tC (.int 0)))) (qcs K))
  (qdd K))
noncomputable def qdf:TS:=
 (qaD (qaJ (tC (.int 1)) (qak 5))
  (qde K))
noncomputable def qdg:TS:=
 (qaD (qaJ (tC (.int 0)) (qak 4))
  (qdf K))
noncomputable def qdh:TS:=
 (qaD (qaJ (tOp qhH (qaf 0) (qaf 1)) (qak 3))
  (qdg K))
noncomputable def qdY:TS:=
 (qaD (qaJ (qaf 1) (qak 2))
  (qdh K))
noncomputable def qeK:TS:=
 (qbB (qb0 (qci K (qaf 0)) [none,some 1] (qak 0) (tOp qhH (qaf 0) (qaf 1))))
noncomputable def qgH:TS:=
 (qbB (qao (qbc K) [] E0 (qab (qao (qbd K) [] E0 (qab (qaf 0) (qab (qaf 1) qan))) qan)))
noncomputable def qeL:TS:=
 (qaD (qdq (qqA (qiH (qaf 0))) (qbB (qdv qan)) qbp)
  (qaD (qaJ (qao (qa1 K) [] E0 (qab (tOp gL (qaf 0) (tUn qdK (tC (.int 1)))) (qab (qaf 1) qan))) (qak 2))
  (qbB (qb0 (qci K (qaf 0)) [none,some 1,some 2] (qak 0) (tOp qhH (tOp qce (qaf 0) (qaf 2)) (qaf 1))))))
noncomputable def qcZ (_:W.Frag):TS:=
 (qdq (qaX (tOp rNe (qaf 7) (tC (.int 0)))) (qea (qiC (qab (qaf 4) qan)) (qak 8) (qkA (qaf 3) (tOp qdA (qaf 6) (qaf 8)) (tOp qce (qaf 7) (tOp gL (qaf 1) (qaf 8))) gL qdw qeU)) qbp)
noncomputable def qc0:TS:=
 (qaD (qaJ (qaf 7) (qqB (qaf 5) (qaf 6) qeU))
  (qcZ K))
noncomputable def qc1:TS:=
 (qaD (qaJ (tOp qhH (tOp gL (qaf 3) (tOp qdA (qaf 6) (qaf 4))) (qaf 2)) (qak 7))
  (qc0 K))
noncomputable def qdZ:TS:=
 (qbB (qlQ (qab (qao (qbc K) [] E0 (qab (qaf 5) qan)) (qab (qao (qaT K) [] E0 (qab (tSl sL (qaf 3) qcW (qhv (qaf 4))) (qab (qaf 2) qan))) qan))))
noncomputable def qd0:TS:=
 (qaD (qea (qoV (qab (tOp qdw (tOp qdw (tCB qbS (qab (qaf 0) qan)) (qaf 4)) (tC (.int 1))) (qab (tUn qdK (tC (.int 1))) (qab (tUn qdK (tC (.int 1))) qan)))) (qak 6) (qc1 K))
  (qdZ K))
noncomputable def qd1:TS:=
 (qaD (qaJ (tOp qrK (qdv (qab (tC (.int 0)) qan)) (tCB qsA (qab (tOp qdw (tCB qbS (qab (qaf 0) qan)) (qaf 4)) (qab (tC (.int 0)) qan)))) (qak 5))
  (qd0 K))
noncomputable def qd2:TS:=
 (qaD (qaJ (tOp qdw (tCB qbS (qab (qaf 1) qan)) (tC (.int 1))) (qak 4))
  (qd1 K))
noncomputable def qeM:TS:=
 (qaD (qaJ (tCB qhK (qab (qaf 0) qan)) (qak 3))
  (qd2 K))
noncomputable def qfD:TS:=
 (qbB (tOp gT (qao (qaZ K) [] E0 (qab (qaf 0) (qab (qaf 1) (qab (qaf 2) qan)))) (tC (.int 1))))
noncomputable def qer:TS:=
 (qaD (qaJ (qao (qaQ K) [] E0 (qab (qao (qaT K) [] E0 (qab (qaf 0) (qab (qaf 2) qan))) (qab (qaf 2) qan))) (qak 0))
  (qaD (qaJ (qao (qaQ K) [] E0 (qab (qao (qaT K) [] E0 (qab (qaf 1) (qab (qaf 2) qan))) (qab (qaf 2) qan))) (qak 1))
  (qaD (qb9 (qiH (qaf 1)) (qaD (qaJ (qao (qaR K) [] E0 (qab (qaf 0) (qab (qaf 1) (qab (qaf 2) qan)))) (qak 3))
  (qaD (qaJ (qaf 1) (qak 0))
  (qaJ (qao (qaQ K) [] E0 (qab (qaf 3) (qab (qaf 2) qan))) (qak 1)))))
  (qbB (qaf 0)))))
noncomputable def qe1 (_:W.Frag):TS:=
 (qaJ (qaf 9) (qak 6))
noncomputable def qe2:TS:=
 (qaD (qaJ (qaf 6) (qak 5))
  (qe1 K))
noncomputable def qe3:TS:=
 (qaD (qaJ (tOp gT (qaf 8) (tC (.int 1))) (qak 4))
  (qe2 K))
noncomputable def qe4:TS:=
 (qaD (qaJ (qaf 4) (qak 3))
  (qe3 K))
noncomputable def qe5:TS:=
 (qaD (qaJ (qao (qaT K) [] E0 (qab (qao (qby K) [] E0 (qab (qaf 5) (qab (tC (.int 1)) (qab (qao (qbi K) [] E0 (qab (tOp gT (qaf 8) (tC (.int 0))) (qab (qaf 6) qan))) (qab (tC (.int 1)) (qab (tC (.int 0)) qan)))))) (qab (qaf 2) qan))) (qak 9))
  (qe4 K))
noncomputable def qe6:TS:=
 (qaD (qaJ (qao (qaZ K) [] E0 (qab (qaf 3) (qab (qaf 4) (qab (qaf 2) qan)))) (qak 8))
  (qe5 K))
noncomputable def qe7:TS:=
 (qaD (qdq (qaX (tOp rEq (tCB qbS (qab (qaf 4) qan)) (tC (.int 1)))) (qbB (qaf 6)) qbp)
  (qe6 K))
noncomputable def qc2:TS:=
 (qaD (qaJ (qao (qaT K) [] E0 (qab (qb0 (qci K (qaf 6)) [none,some 7] (qak 0) (tOp qce (qaf 0) (qaf 1))) (qab (qaf 2) qan))) (qak 6))
  (qe7 K))
noncomputable def qe8:TS:=
 (qaD (qaJ (qao (qaT K) [] E0 (qab (qb0 (qci K (qaf 4)) [none,some 7] (qak 0) (tOp qce (qaf 0) (qaf 1))) (qab (qaf 2) qan))) (qak 4))
  (qc2 K))
noncomputable def qc3:TS:=
 (qaD (qaJ (qao (qa1 K) [] E0 (qab (tOp gL (qaf 4) (tUn qdK (tC (.int 1)))) (qab (qaf 2) qan))) (qak 7))
  (qe8 K))
noncomputable def qgU:TS:=
 (qb9 (tB (tC (.bl true))) (qc3 K))
noncomputable def qgV:TS:=
 (qaD (qaJ (qdv (qab (tC (.int 1)) qan)) (qak 6))
  (qgU K))
noncomputable def qgW:TS:=
 (qaD (qaJ (qdv qan) (qak 5))
  (qgV K))
noncomputable def qd3:TS:=
 (qaD (qaJ (qao (qaR K) [] E0 (qab (qaf 0) (qab (qaf 1) (qab (qaf 2) qan)))) (qak 4))
  (qgW K))
noncomputable def qiN:TS:=
 (qaD (qaJ (qaf 1) (qak 3))
  (qd3 K))
noncomputable def qfE:TS:=
 (qaJ (qao (qaR K) [] E0 (qab (qao (qbi K) [] E0 (qab (qaf 6) (qab (qaf 10) qan))) (qab (qaf 1) (qab (qaf 4) qan)))) (qak 6))
noncomputable def qfF:TS:=
 (qaD (qaJ (qao (qby K) [] E0 (qab (qdv (qab (tC (.int 2)) qan)) (qab (tC (.int 1)) (qab (qao (qaR K) [] E0 (qab (qao (qbi K) [] E0 (qab (qaf 5) (qab (qaf 6) qan))) (qab (qaf 1) (qab (qaf 4) qan)))) (qab (tC (.int 1)) (qab (tC (.int 0)) qan)))))) (qak 10))
  (qfE K))
noncomputable def qfG:TS:=
 (qaD (qaJ (tOp gT (qao (qaZ K) [] E0 (qab (qaf 7) (qab (qaf 1) (qab (qaf 4) qan)))) (tC (.int 0))) (qak 5))
  (qfF K))
noncomputable def qj1:TS:=
 (qaD (qaJ (qao (qaT K) [] E0 (qab (qao (qby K) [] E0 (qab (qaf 1) (qab (tC (.int 1)) (qab (qaf 9) (qab (tUn qdK (tC (.int 1))) (qab (tC (.int 0)) qan)))))) (qab (qaf 4) qan))) (qak 1))
  (qfG K))
noncomputable def qj2:TS:=
 (qaD (qaJ (qao (qaR K) [] E0 (qab (qao (qbi K) [] E0 (qab (qaf 8) (qab (qaf 6) qan))) (qab (qaf 1) (qab (qaf 4) qan)))) (qak 9))
  (qj1 K))
noncomputable def qj3:TS:=
 (qaD (qaJ (qao (qaR K) [] E0 (qab (qaf 7) (qab (qaf 1) (qab (qaf 4) qan)))) (qak 8))
  (qj2 K))
noncomputable def qfH:TS:=
 (qaD (qaJ (qao (qaQ K) [] E0 (qab (qaf 0) (qab (qaf 4) qan))) (qak 7))
  (qj3 K))
noncomputable def qj4:TS:=
 (qaD (qn2 4 (qaf 4) qce)
  (qfH K))
noncomputable def qjc (_:W.Frag):TS:=
 (qbB (qlQ (qab (qaf 1) (qab (qaf 4) qan))))
noncomputable def qnJ:TS:=
 (qaD (qb9 (qaX (tOp iLe (qaf 4) (qaf 3))) (qj4 K))
  (qjc K))
noncomputable def qjd:TS:=
 (qaD (qaJ (qao (qb3 K) [] E0 (qab (qaf 5) (qab (qaf 1) (qab (qaf 2) qan)))) (qak 6))
  (qnJ K))
noncomputable def qje:TS:=
 (qaD (qaJ (tOp gT (qao (qaZ K) [] E0 (qab (qao (qaQ K) [] E0 (qab (qaf 0) (qab (qaf 2) qan))) (qab (qaf 1) (qab (qaf 2) qan)))) (tC (.int 0))) (qak 5))
  (qjd K))
noncomputable def qq3:TS:=
 (qaD (qaJ (qaf 2) (qak 4))
  (qje K))
noncomputable def qlc (_:W.Frag):TS:=
 (qaD (qaJ (tOp qhH (qaf 0) (qaf 1)) (qak 2))
  (qbB (tIf (qaX (tOp iGt (tOp qce (tC (.int 2)) (qaf 2)) (qaf 1))) (tOp qdw (qaf 2) (qaf 1)) (qaf 2))))
noncomputable def qdF:TS:=
 (qaD (qaJ (qao (qaI K) [] E0 (qab (tOp gL (qaf 0) (tUn qdK (tC (.int 1)))) (qab (tOp gL (qaf 1) (tUn qdK (tC (.int 1)))) qan))) (qak 3))
  (qaD (qdq (qaX (tOp rEq (tOp qhH (qaf 3) (qaf 2)) (tC (.int 0)))) (qbB (tC .non)) qbp)
  (qaD (qaJ (qao (qbf K) [] E0 (qab (qaf 0) (qab (qaf 1) (qab (qaf 2) qan)))) (qak 4))
  (qaD (qaJ (qao (qaS K) [] E0 (qab (qb0 (qci K (qaf 4)) [none,some 2,some 3] (qak 0) (qao (qcb K) [] E0 (qab (tOp qce (qaf 2) (qaf 0)) (qab (qaf 1) qan)))) qan)) (qak 5))
  (qaD (qdq (tOr (qaX (tOp qus (qao (qbz K) [] E0 (qab (qaf 0) (qab (qaf 5) qan))) (tC .non))) (qaX (tOp qus (qao (qbz K) [] E0 (qab (qaf 1) (qab (qaf 5) qan))) (tC .non)))) (qbB (tC .non)) qbp)
  (qbB (qaf 5)))))))
noncomputable def qgI:TS:=
 (qaD (qaJ (qao (qaS K) [] E0 (qab (qaf 0) qan)) (qak 2))
  (qaD (qaJ (qao (qaS K) [] E0 (qab (qaf 1) qan)) (qak 3))
  (qaD (qdq (qn7 (qiH (qaf 0)) (qiH (qaf 1))) (qea (qrE K (tC (.ref (qca K)))) (qak 4) (qaD (qaJ (qao (qa8 K) [] E0 (qab (qaf 2) (qab (qaf 3) (qab (tOp qdw (qao (qcl K) [] E0 (qab (tC (.int 2)) (qab (qaf 4) qan))) (tC (.int 1))) qan)))) (qak 5))
  (qdq (qaX (tOp qqS (qaf 5) (tC .non))) (qbB (qaf 5)) qbp))) qbp)
  (qbB (tOp gL (qao (qa9 K) [] E0 (qab (qdv (qab (qaf 2) qan)) (qab (qdv (qab (qaf 3) qan)) qan))) (tC (.int 0)))))))
noncomputable def qeN:TS:=
 (qbB (tIf (qaX (tOp iGt (tOp gL (qaf 2) (tUn qdK (tC (.int 1)))) (tC (.int 0)))) (qaf 2) (qb0 (qci K (qaf 2)) [none] (qak 0) (tUn qdK (qaf 0)))))
noncomputable def qeO:TS:=
 (qaD (qaJ (qao (qbz K) [] E0 (qab (qaf 1) (qab (qao (qbO K) [] E0 (qab (qaf 1) (qab (qao (qbK K) [] E0 (qab (qaf 1) qan)) qan))) qan))) (qak 2))
  (qeN K))
noncomputable def qgJ:TS:=
 (qaD (qaJ (qao (qaS K) [] E0 (qab (qaf 0) qan)) (qak 1))
  (qeO K))
noncomputable def qpz:TS:=
 (qaD (qaJ (qao (qaI K) [] E0 (qab (qaf 0) (qab (qaf 1) qan))) (qak 2))
  (qaD (qdq (qaX (tOp iLt (qaf 1) (tC (.int 0)))) (qaJ (tUn qdK (qaf 2)) (qak 2)) qbp)
  (qbB (qlQ (qab (tOp qiI (qaf 0) (qaf 2)) (qab (tOp qiI (qaf 1) (qaf 2)) qan))))))
noncomputable def qsZ:TS:=
 (qaD (qaJ (qao (qcl K) [] E0 (qab (tOp gT (qaf 0) (tC (.int 0))) (qab (tCB qoE (qab (qaf 1) qan)) qan))) (qak 2))
  (qaD (qaJ (qao (qcl K) [] E0 (qab (tOp gT (qaf 0) (tC (.int 1))) (qab (tCB qoE (qab (qaf 1) qan)) qan))) (qak 3))
  (qaD (qdq (qaX (tOp iGe (qaf 1) (tC (.int 0)))) (qbB (qlQ (qab (qaf 2) (qab (qaf 3) qan)))) qbp)
  (qaD (qdq (qaX (tOp iLt (qaf 2) (tC (.int 0)))) (qbB (qlQ (qab (tUn qdK (qaf 3)) (qab (tUn qdK (qaf 2)) qan)))) qbp)
  (qbB (qlQ (qab (qaf 3) (qab (qaf 2) qan))))))))
noncomputable def qr5 (_:W.Frag):TS:=
 (qaD (qaJ (tCB qbS (qab (qaf 0) qan)) (qak 1))
  (qaD (qb9 (qn7 (qaX (tOp iGt (qaf 1) (tC (.int 0)))) (qaX (tOp rEq (tOp gT (tOp gL (qaf 0) (tOp qdw (qaf 1) (tC (.int 1)))) (tC (.int 0))) (tC (.int 0))))) (qn2 1 (tC (.int 1)) qdw))
  (qbB (tCB qoT (qab (tSl sL (qaf 0) qcW (qhv (qaf 1))) qan)))))
noncomputable def qld:TS:=
 (qaD (qaJ (tC (.int 1)) (qak 1))
  (qaD (qea (qrE K (qaf 0)) (qak 2) (qn2 1 (tOp qk0 (tOp gT (qaf 2) (tC (.int 1))) (qao (qaI K) [] E0 (qab (qaf 1) (qab (tOp gT (qaf 2) (tC (.int 1))) qan)))) qce))
  (qbB (qlQ (qab (qb0 (qrE K (qaf 0)) [none,some 1] (qak 0) (tOp qce (tOp gT (qaf 0) (tC (.int 0))) (tOp qk0 (qaf 1) (tOp gT (qaf 0) (tC (.int 1)))))) (qab (qaf 1) qan))))))
noncomputable def qh4:TS:=
 (qbB (qao (qga K) [] E0 (qab (qb0 (qci K (qaf 0)) [none,some 1] (qak 0) (qao (qcL K) [] E0 (qab (qaf 0) (qab (qaf 1) qan)))) qan)))
noncomputable def qh5:TS:=
 (qbB (qao (qbv K) [] E0 (qab (qb0 (qeJ K (qab (qaf 7) qan)) [none,none,some 3] (qhL 2 (qdJ (qak 0) (qdJ (qak 1) qn9))) (tOp qce (qaf 1) (tOp gL (qaf 2) (qaf 0)))) (qab (tOp qce (tOp gT (qaf 2) (tC (.int 1))) (tOp gL (qaf 3) (qaf 5))) qan))))
noncomputable def qh6:TS:=
 (qaD (qaJ (qao (qbZ K) [] E0 (qab (qaf 6) (qab (tOp gT (qaf 1) (tC (.int 0))) qan))) (qak 7))
  (qh5 K))
noncomputable def qh7:TS:=
 (qaD (qaJ (qb0 (qeJ K (qab (tOp gT (qaf 2) (tC (.int 0))) qan)) [none,none,some 3,some 5] (qhL 2 (qdJ (qak 0) (qdJ (qak 1) qn9))) (tOp qce (qaf 1) (tOp gL (qaf 2) (tOp qdw (qaf 3) (qaf 0))))) (qak 6))
  (qh6 K))
noncomputable def qh8:TS:=
 (qaD (qaJ (tOp qdw (tCB qoF (qab (qaf 0) qan)) (tC (.int 1))) (qak 5))
  (qh7 K))
noncomputable def qh9:TS:=
 (qaD (qea (qrE K (qaf 0)) (qak 4) (qeG (tBM K "list" qbR (qaf 3) (qab (tOp qce (tOp gL (qaf 3) (tUn qdK (tC (.int 1)))) (tOp gT (qaf 1) (tC (.int 1)))) qan))))
  (qh8 K))
noncomputable def qia:TS:=
 (qaD (qaJ (qdv (qab (tC (.int 1)) qan)) (qak 3))
  (qh9 K))
noncomputable def qle:TS:=
 (qaD (qaJ (qao (qcc K) [] E0 (qab (qaf 0) qan)) (qak 2))
  (qia K))
noncomputable def qct:TS:=
 (qaJ (qao (qbg K) [] E0 (qab (qaf 1) (qab (qaf 2) qan))) (qak 3))
noncomputable def qcu:TS:=
 (qaD (qaJ (qao (qcf K) [] E0 (qab (qaf 2) qan)) (qak 2))
  (qct K))
noncomputable def qes:TS:=
 (qdq (qaX (tOp qqS (qao (qbz K) [] E0 (qab (qaf 1) (qab (qdv (qab (tUn qdK (tOp gT (qaf 9) (tC (.int 0)))) (qab (tOp gT (qaf 9) (tC (.int 1))) qan))) qan))) (tC .non))) (qeG (tBM K "list" qbR (qaf 5) (qab (qaf 8) qan))) qbp)
noncomputable def qcv:TS:=
 (qaD (qaJ (qao (qcL K) [] E0 (qab (qaf 8) (qab (tOp gL (qaf 1) (tUn qdK (tC (.int 1)))) qan))) (qak 9))
  (qes K))
noncomputable def qcw:TS:=
 (qaD (qaJ (qao (qcb K) [] E0 (qab (tOp qce (tUn qdK (tOp gL (tOp gT (qaf 7) (tC (.int 0))) (tC (.int 0)))) (tOp gL (qaf 1) (tUn qdK (tC (.int 1))))) (qab (tOp gT (qaf 7) (tC (.int 1))) qan))) (qak 8))
  (qcv K))
noncomputable def qcx:TS:=
 (qaD (qaJ (qao (qfr K) [] E0 (qab (qaf 1) (qab (qdv (qab (tUn qdK (qaf 6)) (qab (tC (.int 1)) qan))) (qab (qaf 2) (qab (qaf 4) qan))))) (qak 7))
  (qcw K))
noncomputable def qdi:TS:=
 (qbB (qb0 (qci K (tCB qo7 (qab (qaf 5) qan))) [none,some 1] (qak 0) (qao (qcL K) [] E0 (qab (qaf 0) (qab (tOp gL (qaf 1) (tUn qdK (tC (.int 1)))) qan)))))
noncomputable def qfI:TS:=
 (qaD (qea (qci K (qaf 3)) (qak 6) (qcx K))
  (qdi K))
noncomputable def qdj:TS:=
 (qaD (qaJ (qdv qan) (qak 5))
  (qfI K))
noncomputable def qdk:TS:=
 (qaD (qaJ (tOp qvY (tOp gL (qaf 1) (tUn qdK (tC (.int 1)))) (tOp qdA (tCB qsA (qab (qao (qbW K) [] E0 (qab (qaf 1) qan)) (qab (tC (.int 0)) qan))) (tC (.int 1)))) (qak 4))
  (qdj K))
noncomputable def qfJ:TS:=
 (qaD (qb9 (qaX (tOp qus (qaf 3) (tC .non))) (qcu K))
  (qdk K))
noncomputable def qdl:TS:=
 (qaD (qaJ (qao (qbg K) [] E0 (qab (qaf 1) (qab (qaf 2) qan))) (qak 3))
  (qfJ K))
noncomputable def qfK:TS:=
 (qaD (qaJ (tC (.int 2)) (qak 2))
  (qdl K))
noncomputable def qgX:TS:=
 (qaD (qaJ (qao (qbP K) [] E0 (qab (tOp gT (qao (qcc K) [] E0 (qab (qaf 0) qan)) (tC (.int 0))) qan)) (qak 1))
  (qfK K))
noncomputable def qeH:TS:=
 (qeG (tBM K "list" qbR (qaf 4) (qab (qaf 5) qan)))
noncomputable def qeI:TS:=
 (qaD (qdq (qaX (tOp rEq (qao (qbD K) [] E0 (qab (qaf 3) (qab (qaf 5) (qab (qaf 1) qan)))) (tC (.int 0)))) (qbB (tC .non)) qbp)
  (qeH K))
noncomputable def qgb (_:W.Frag):TS:=
 (qbB (qaf 4))
noncomputable def qgc:TS:=
 (qaD (qea (qiC (qab (qaf 1) qan)) (qak 5) (qdq (qaX (tOp rEq (qao (qbD K) [] E0 (qab (qaf 2) (qab (qaf 5) (qab (qaf 1) qan)))) (tC (.int 0)))) (qeI K) qbp))
  (qgb K))
noncomputable def qgd:TS:=
 (qaD (qaJ (qdv qan) (qak 4))
  (qgc K))
noncomputable def qge:TS:=
 (qaD (qaJ (qao (qbK K) [] E0 (qab (qaf 2) qan)) (qak 3))
  (qgd K))
noncomputable def qdG:TS:=
 (qaD (qaJ (qao (qbd K) [] E0 (qab (qaf 0) (qab (qaf 1) qan))) (qak 2))
  (qge K))
noncomputable def qib:TS:=
 (qaD (qdq (qaX (tOp rEq (tOp qhH (tOp gL (qaf 0) (tUn qdK (tC (.int 1)))) (qaf 1)) (tC (.int 0)))) (qbB (tC .non)) qbp)
  (qdG K))
noncomputable def qm3:TS:=
 (qaD (qaJ (tCB qo4 (qab (tSl (sS K) (qaf 0) qcW (qhv (tC (.int 1)))) qan)) (qak 1))
  (qbB (qdv (qab (tCB qhK (qab (tSl (sS K) (qaf 0) qcW (qhv (tC (.int 63)))) qan)) (qab (tC (.int 0)) (qab (tOp qkR (tCB qoE (qab (qaf 1) qan)) (tC (.int 2))) (qab (tOp qhH (qaf 1) (tC (.int 2))) qan)))))))
noncomputable def qfL (_:W.Frag):TS:=
 (qaJ (tCB qoE (qab (tOp gL (tOp gL (qaf 0) (tC (.int 0))) (tOp gL (qaf 0) (tC (.int 1)))) qan)) (qqB (qaf 0) (tC (.int 2)) qeU))
noncomputable def qfM:TS:=
 (qaD (qaJ (tOp qdA (tOp gL (qaf 0) (tC (.int 1))) (tC (.int 1))) (qqB (qaf 0) (tC (.int 1)) qeU))
  (qfL K))
noncomputable def qfN (_:W.Frag):TS:=
 (qbB (qaf 2))
noncomputable def qfO:TS:=
 (qaD (qaJ (tOp qkR (tOp gL (qaf 0) (tC (.int 2))) (qaf 1)) (qqB (qaf 0) (tC (.int 2)) qeU))
  (qfN K))
noncomputable def qfP:TS:=
 (qaD (qaJ (tOp qhH (tOp gL (qaf 0) (tC (.int 2))) (qaf 1)) (qak 2))
  (qfO K))
noncomputable def qjf (_:W.Frag):TS:=
 (qbB (tOp qhH (tOp qkR (qaf 5) (tC (.int 7))) (qaf 1)))
noncomputable def qjg:TS:=
 (qaD (qaJ (tOp qhH (tOp qdA (tOp qce (qaf 4) (tOp qdA (tOp qhH (qaf 4) (tC (.int 39373))) (tOp gL (qaf 0) (tC (.int 1))))) (tOp qce (tC (.int 31)) (tOp gL (qaf 0) (tC (.int 1))))) (tC (.int 1999999973))) (qak 5))
  (qjf K))
noncomputable def qjh:TS:=
 (qaD (qaJ (tOp qhH (tOp qce (tOp qdA (tOp qdA (tOp qhH (qaf 3) (tC (.int 2147483629))) (tOp qce (tC (.int 7919)) (tOp gL (qaf 0) (tC (.int 1))))) (tC (.int 11))) (tOp qdA (tC (.int 48271)) (tOp qce (tC (.int 2)) (tOp gL (qaf 0) (tC (.int 1)))))) (tC (.int 2147483647))) (qak 4))
  (qjg K))
noncomputable def qji:TS:=
 (qaD (qaJ (tCB qo4 (qab (tSl sL (tSl sL (tOp gL (qaf 0) (tC (.int 0))) (qhv (tOp qhH (tOp gL (qaf 0) (tC (.int 1))) (tCB qsA (qab (tC (.int 1)) (qab (tCB qbS (qab (tOp gL (qaf 0) (tC (.int 0))) qan)) qan))))) qcW) qcW (qhv (tC (.int 1)))) qan)) (qak 3))
  (qjh K))
noncomputable def qgf:TS:=
 (qaD (qaJ (tOp qdA (tOp gL (qaf 0) (tC (.int 1))) (tC (.int 1))) (qqB (qaf 0) (tC (.int 1)) qeU))
  (qji K))
noncomputable def qgg:TS:=
 (qaD (qdq (qn7 (qaX (tOp rEq (tOp gL (qaf 0) (tC (.int 3))) (tC (.int 1)))) (qaX (tOp iGt (tOp gL (qaf 0) (tC (.int 2))) (tC (.int 0))))) (qfP K) qbp)
  (qgf K))
noncomputable def qm4:TS:=
 (qaD (qdq (qn7 (qaX (tOp rEq (tOp gL (qaf 0) (tC (.int 3))) (tC (.int 1)))) (qn7 (qaX (tOp rEq (tOp gL (qaf 0) (tC (.int 2))) (tC (.int 0)))) (qaX (tOp iLt (tOp qdA (tOp gL (qaf 0) (tC (.int 1))) (tC (.int 1))) (tCB qbS (qab (tOp gL (qaf 0) (tC (.int 0))) qan)))))) (qfM K) qbp)
  (qgg K))
noncomputable def qjj (_:W.Frag):TS:=
 (qaD (qtY 2 3 (qab (tCB qoE (qab (qaf 0) qan)) (qab (tCB qoE (qab (qaf 1) qan)) qan)))
  (qaD (qb9 (qaX (tOp iGt (qaf 3) (tC (.int 0)))) (qtY 2 3 (qab (qaf 3) (qab (tOp qhH (qaf 2) (qaf 3)) qan))))
  (qaD (qdq (qaX (tOp iLt (qaf 1) (tC (.int 0)))) (qaJ (tUn qdK (qaf 2)) (qak 2)) qbp)
  (qbB (qlQ (qab (tOp qiI (qaf 0) (qaf 2)) (qab (tOp qiI (qaf 1) (qaf 2)) qan)))))))
noncomputable def qfQ:TS:=
 (qaD (qaJ (tOp qrK (qdv (qab (tC (.int 0)) qan)) (tOp qdw (tOp qdA (tCB qbS (qab (qaf 0) qan)) (tCB qbS (qab (qaf 1) qan))) (tC (.int 1)))) (qak 2))
  (qaD (qea (qeJ K (qab (qaf 0) qan)) (qhL 2 (qdJ (qak 3) (qdJ (qak 4) qn9))) (qea (qeJ K (qab (qaf 1) qan)) (qhL 2 (qdJ (qak 5) (qdJ (qak 6) qn9))) (qaJ (tOp qdA (tOp gL (qaf 2) (tOp qdA (qaf 3) (qaf 5))) (tOp qce (qaf 4) (qaf 6))) (qqB (qaf 2) (tOp qdA (qaf 3) (qaf 5)) qeU))))
  (qbB (qaf 2))))
noncomputable def qic:TS:=
 (qbB (tCB qoT (qab (qb0 (qci K (qaf 0)) [none,some 1] (qak 0) (qao (qbk K) [] E0 (qab (tOp qce (qaf 0) (tOp gT (qaf 1) (tC (.int 0)))) (qab (tOp gT (qaf 1) (tC (.int 1))) qan)))) qan)))
noncomputable def qq4:TS:=
 (qaD (qaJ (tOp qdw (qao (qaK K) [] E0 (qab (qaf 0) (qab (tC (.int 19)) qan))) (tC (.int 9))) (qak 2))
  (qaD (qaJ (tOp qdA (tC (.int 1)) (qao (qaK K) [] E0 (qab (qaf 0) (qab (tC (.int 6)) qan)))) (qak 3))
  (qaD (qdq (tB (qaf 1)) (qaD (qaJ (tOp qdA (tOp qdw (qao (qaK K) [] E0 (qab (qaf 0) (qab (tOp qdw (tOp qce (tC (.int 2)) (tOp qmJ (tC (.int 10)) (tC (.int 5)))) (tC (.int 1))) qan))) (tOp qmJ (tC (.int 10)) (tC (.int 5)))) (tC (.int 1))) (qak 2))
  (qaJ (tOp qdA (tC (.int 1)) (qao (qaK K) [] E0 (qab (qaf 0) (qab (tOp qmJ (tC (.int 10)) (tC (.int 4))) qan)))) (qak 3))) qbp)
  (qbB (qao (qbk K) [] E0 (qab (qaf 2) (qab (qaf 3) qan)))))))
noncomputable def qlf:TS:=
 (qaD (qaJ (qdv (qab (tOp qce (tC (.int 2)) (tOp qdw (tOp qce (tC (.int 2)) (qao (qaK K) [] E0 (qab (qaf 0) (qab (tC (.int 7)) qan)))) (tC (.int 7)))) qan)) (qak 2))
  (qaD (qea (qiC (qab (tOp qdw (qaf 1) (tC (.int 1))) qan)) (qak 3) (qeG (tBM K "list" qbR (qaf 2) (qab (tOp qce (tC (.int 2)) (tOp qdw (qao (qaK K) [] E0 (qab (qaf 0) (qab (tC (.int 7)) qan))) (tC (.int 3)))) qan))))
  (qbB (tOp qt5 (qaf 2) (qdv (qab (tOp qdA (tC (.int 1)) (tOp qce (tC (.int 2)) (qao (qaK K) [] E0 (qab (qaf 0) (qab (tC (.int 2)) qan))))) qan))))))
noncomputable def qlg:TS:=
 (qbB (qao (qbk K) [] E0 (qab (tOp qce (tOp gL (qdv (qab (tC (.int 1)) (qab (tUn qdK (tC (.int 1))) qan))) (qao (qaK K) [] E0 (qab (qaf 0) (qab (tC (.int 2)) qan)))) (tOp qdA (tC (.int 1)) (qao (qaK K) [] E0 (qab (qaf 0) (qab (tC (.int 9)) qan))))) (qab (tOp qdA (tC (.int 1)) (qao (qaK K) [] E0 (qab (qaf 0) (qab (tC (.int 9)) qan)))) qan))))
noncomputable def qc4:TS:=
 (qdq (tOr (qaX (tOp rEq (qaf 3) (tCB qbS (qab (qaf 1) qan)))) (qaX (tOp neD (tOp gL (qaf 1) (qaf 3)) (qaf 2)))) (qeG (tBM K "list" qo5 (qaf 1) (qab (qaf 3) (qab (qaf 2) qan)))) qbp)
noncomputable def qet:TS:=
 (qaD (qb9 (qn7 (qaX (tOp iLt (qaf 3) (tCB qbS (qab (qaf 1) qan)))) (qaX (tOp iLt (tOp qce (tOp gT (tOp gL (qaf 1) (qaf 3)) (tC (.int 0))) (tOp gT (qaf 2) (tC (.int 1)))) (tOp qce (tOp gT (qaf 2) (tC (.int 0))) (tOp gT (tOp gL (qaf 1) (qaf 3)) (tC (.int 1))))))) (qaJ (tOp qdA (qaf 3) (tC (.int 1))) (qak 3)))
  (qc4 K))
noncomputable def qeu:TS:=
 (qaD (qaJ (tC (.int 0)) (qak 3))
  (qet K))
noncomputable def qlh (_:W.Frag):TS:=
 (qbB (qaf 1))
noncomputable def qgK:TS:=
 (qaD (qea (qci K (qaf 0)) (qak 2) (qeu K))
  (qlh K))
noncomputable def qnK:TS:=
 (qaD (qaJ (qdv qan) (qak 1))
  (qgK K))
noncomputable def qfR:TS:=
 (qaD (qdq (tOr (qqA (tB (tCB qsB (qab (qaf 0) (qab (tC (.ty "tuple")) qan))))) (qaX (tOp rNe (tCB qoF (qab (qaf 0) qan)) (tC (.int 2))))) (qbB (tC (.bl false))) qbp)
  (qbB (tCB qsF (qab (qb0 (qrE K (qaf 0)) [none] (qak 0) (qn8 (tCB qsB (qab (qaf 0) (qab (tC (.ty "int")) qan))) (qqE (tCB qsB (qab (qaf 0) (qab (tC (.ty "bool")) qan)))))) qan))))
noncomputable def qs0:TS:=
 (qbB (tOp qhH (tOp qdA (tOp qce (qao (qaK K) [] E0 (qab (qaf 0) (qab (tOp qmJ (tC (.int 10)) (tC (.int 6))) qan))) (tOp qmJ (tC (.int 10)) (tC (.int 6)))) (qao (qaK K) [] E0 (qab (qaf 0) (qab (tOp qmJ (tC (.int 10)) (tC (.int 6))) qan)))) (qaf 1)))
noncomputable def qli:TS:=
 (qaD (qaJ (tOp gL (qdv (qab (tC (.int 1)) (qab (tUn qdK (tC (.int 1))) qan))) (qao (qaK K) [] E0 (qab (qaf 0) (qab (tC (.int 2)) qan)))) (qak 2))
  (qbB (qao (qbk K) [] E0 (qab (tOp qce (qaf 2) (qao (qfs K) [] E0 (qab (qaf 0) (qab (qaf 1) qan)))) (qab (tOp qdA (tC (.int 1)) (qao (qfs K) [] E0 (qab (qaf 0) (qab (tOp qdw (qaf 1) (tC (.int 1))) qan)))) qan)))))
noncomputable def qfS:TS:=
 (qaJ (qb0 (qci K (qaf 2)) [none,some 6] (qak 0) (qao (qbk K) [] E0 (qab (tOp qdw (tOp qce (tOp gT (qaf 0) (tC (.int 0))) (tOp gT (qaf 1) (tC (.int 1)))) (tOp qce (tOp gT (qaf 1) (tC (.int 0))) (tOp gT (qaf 0) (tC (.int 1))))) (qab (tOp qce (tOp gT (qaf 0) (tC (.int 1))) (tOp gT (qaf 1) (tC (.int 1)))) qan)))) (qak 2))
noncomputable def qfT:TS:=
 (qaD (qaJ (qao (qcS K) [] E0 (qab (qaf 5) (qab (qaf 6) qan))) (qak 5))
  (qfS K))
noncomputable def qfU:TS:=
 (qaD (qaJ (qao (qbk K) [] E0 (qab (tOp gT (qao (qhh K) [] E0 (qab (qlQ (qab (tC (.int 7)) (qab (tC (.int 1)) qan))) (qab (tC (.int 90)) qan))) (tC (.int 0))) (qab (tC (.int 3)) qan))) (qak 6))
  (qfT K))
noncomputable def qnL:TS:=
 (qbB (tOp eqD (qao (qa2 K) [] E0 (qab (qaf 5) qan)) (qao (qcd K) [] E0 (qab (qaf 2) qan))))
noncomputable def qjk:TS:=
 (qaD (qdq (qaX (tOp rEq (qao (qaK K) [] E0 (qab (qaf 0) (qab (tC (.int 2)) qan))) (tC (.int 0)))) (qfU K) qbp)
  (qnL K))
noncomputable def qjl:TS:=
 (qaD (qaJ (qao (qbJ K) [] E0 (qab (qaf 3) (qab (qlQ (qab (tOp gL (qdv (qab (tC (.int 1)) (qab (tUn qdK (tC (.int 1))) qan))) (qao (qaK K) [] E0 (qab (qaf 0) (qab (tC (.int 2)) qan)))) (qab (tC (.int 1)) qan))) qan))) (qak 5))
  (qjk K))
noncomputable def qjm:TS:=
 (qaD (qea (qci K (qaf 2)) (qak 4) (qaJ (qao (qbl K) [] E0 (qab (qaf 3) (qab (qdv (qab (tUn qdK (tOp gT (qaf 4) (tC (.int 0)))) (qab (tOp gT (qaf 4) (tC (.int 1))) qan))) qan))) (qak 3)))
  (qjl K))
noncomputable def qgh:TS:=
 (qaD (qaJ (qdv (qab (tC (.int 1)) qan)) (qak 3))
  (qjm K))
noncomputable def qgi:TS:=
 (qaD (qdq (qaX (tOp rEq (qaf 1) (tOp qce (tC (.int 7)) (tOp qmJ (tC (.int 10)) (tC (.int 5)))))) (qeG (tBM K "list" qbR (qaf 2) (qab (qao (qb4 K) [] E0 (qab (qaf 0) (qab (qaf 1) qan))) qan))) qbp)
  (qgh K))
noncomputable def qjn:TS:=
 (qaD (qdq (qaX (tOp rEq (qaf 1) (tOp qmJ (tC (.int 10)) (tC (.int 10))))) (qeG (tBM K "list" qbR (qaf 2) (qab (qao (qdE K) [] E0 (qab (qaf 0) (qab (tC (.bl false)) qan))) qan))) qbp)
  (qgi K))
noncomputable def qjo:TS:=
 (qaD (qaJ (qdv (qab (qao (qb4 K) [] E0 (qab (qaf 0) (qab (qaf 1) qan))) qan)) (qak 2))
  (qjn K))
noncomputable def qq5:TS:=
 (qaD (qaJ (tOp gL (qdv (qab (tOp qmJ (tC (.int 10)) (tC (.int 12))) (qab (tOp qmJ (tC (.int 10)) (tC (.int 10))) (qab (tOp qce (tC (.int 7)) (tOp qmJ (tC (.int 10)) (tC (.int 5)))) qan)))) (qao (qaK K) [] E0 (qab (qaf 0) (qab (tC (.int 3)) qan)))) (qak 1))
  (qjo K))
noncomputable def qjp:TS:=
 (qaJ (qao (qbl K) [] E0 (qab (qaf 2) (qab (qdv (qab (tUn qdK (tOp gT (qaf 7) (tC (.int 0)))) (qab (tOp gT (qaf 7) (tC (.int 1))) qan))) qan))) (qak 2))
noncomputable def qjq:TS:=
 (qaD (qeG (tBM K "list" qbR (qaf 3) (qab (qaf 7) qan)))
  (qjp K))
noncomputable def qgj:TS:=
 (qdq (qaX (tOp iLt (tCB qbS (qab (qaf 2) qan)) (tC (.int 9)))) (qjq K) qbp)
noncomputable def qjr:TS:=
 (qaD (qdq (qn7 (qaX (tOp iGt (qaf 6) (tC (.int 1)))) (qaX (tOp rEq (qao (qaK K) [] E0 (qab (qaf 1) (qab (tC (.int 3)) qan))) (tC (.int 0))))) (qaJ (tOp gL (qaf 3) (tUn qdK (tC (.int 1)))) (qak 7)) qbp)
  (qgj K))
noncomputable def qjs:TS:=
 (qaD (qaJ (qao (qdE K) [] E0 (qab (qaf 1) (qab (qn8 (qaf 4) (tOp rEq (qaf 6) (tC (.int 0)))) qan))) (qak 7))
  (qjr K))
noncomputable def qm5:TS:=
 (qbB (tOp eqD (qao (qa2 K) [] E0 (qab (qaf 8) qan)) (qaf 9)))
noncomputable def qm6:TS:=
 (qaD (qeG (tBM K "list" qbR (qaf 10) (qab (qlQ (qab (tC (.int 0)) (qab (tC (.int 1)) qan))) qan)))
  (qm5 K))
noncomputable def qm7:TS:=
 (qaD (qdq (tOr (qqA (tB (tCB qsB (qab (qaf 10) (qab (tC (.ty "list")) qan))))) (tOr (qqA (tB (tCB qsF (qab (qb0 (qci K (qaf 10)) [none] (qak 0) (qao (qcg K) [] E0 (qab (qaf 0) qan))) qan)))) (qaX (tOp neD (qaf 10) (qaf 9))))) (qbB (tC (.bl false))) qbp)
  (qm6 K))
noncomputable def qm8:TS:=
 (qaD (qaJ (qao (qa2 K) [] E0 (qab (qaf 8) qan)) (qak 10))
  (qm7 K))
noncomputable def qpA:TS:=
 (qaD (qaJ (qao (qcd K) [] E0 (qab (qaf 3) qan)) (qak 9))
  (qm8 K))
noncomputable def qj5:TS:=
 (qaD (qaJ (qao (qbJ K) [] E0 (qab (qaf 2) (qab (qao (qcR K) [] E0 (qab (qaf 1) qan)) qan))) (qak 8))
  (qpA K))
noncomputable def qpB:TS:=
 (qaD (qea (qiC (qab (qao (qaK K) [] E0 (qab (qaf 1) (qab (tOp gL (qdv (qab (tC (.int 7)) (qab (tC (.int 4)) qan))) (tCB qqO (qab (qaf 4) qan))) qan))) qan)) (qak 6) (qjs K))
  (qj5 K))
noncomputable def qpC:TS:=
 (qaD (qdq (qaX (tOp iGt (qaf 5) (tC (.int 0)))) (qaJ (qao (qcM K) [] E0 (qab (qaf 1) (qab (qaf 5) qan))) (qak 2)) qbp)
  (qpB K))
noncomputable def qpD:TS:=
 (qaD (qaJ (tOp gL (qdv (qab (tC (.int 0)) (qab (tC (.int 2)) (qab (tC (.int 3)) (qab (tC (.int 4)) qan))))) (qao (qaK K) [] E0 (qab (qaf 1) (qab (tC (.int 4)) qan)))) (qak 5))
  (qpC K))
noncomputable def qpE:TS:=
 (qaD (qaJ (tOp rEq (qao (qaK K) [] E0 (qab (qaf 1) (qab (tC (.int 3)) qan))) (tC (.int 0))) (qak 4))
  (qpD K))
noncomputable def qpF:TS:=
 (qaD (qaJ (qdv qan) (qak 3))
  (qpE K))
noncomputable def qpG:TS:=
 (qaD (qaJ (qdv (qab (tC (.int 1)) qan)) (qak 2))
  (qpF K))
noncomputable def qpH:TS:=
 (qaD (qdq (qaX (tOp rEq (qao (qaK K) [] E0 (qab (qaf 1) (qab (tC (.int 8)) qan))) (tC (.int 0)))) (qbB (qao (qft K) [] E0 (qab (qaf 1) qan))) qbp)
  (qpG K))
noncomputable def qvB:TS:=
 (qaD (qaJ (qao (qdD K) [] E0 (qab (qaf 0) qan)) (qak 1))
  (qpH K))
end
end Bs
namespace Bs
open PySem L2
variable {K:W.Frag} {vs:List V} {H:Hp} {Q:VK} {E:XK}
local macro_rules | `(tactic| rwa [$[$t:term],*]) => do
 let l : Array Lean.Term := (("qaD qaJ qao qab qaf qan qak qqB L2.start qdq tIf qaX L2.tB tOp rI0 rI L2.tC tUn rU qbp qbB qlQ qdv qtY qn2 qeG tCB qrG qn7 tOr qqA qn8 qvT qqE rEq rNe qeU qdA qdw qce qkR qt9 qhH qsz qmJ iLt iLe iGt iGe qdK gT gL gS qoE qsA qvV qqO qoF qbS qua qsB qoG qgy qrL eqT qoH qoI qrM qrN List.map_cons List.map_nil List.length_cons List.length_nil List.replicate List.cons_append List.nil_append List.append_nil List.getElem?_cons_zero List.getElem?_cons_succ Option.some.injEq exists_eq_left' exists_eq_left V.int.injEq V.bl.injEq V.ref.injEq V.ty.injEq HO.tup.injEq HO.lst.injEq List.cons.injEq and_true true_and and_assoc exists_and_left List.set_cons_zero List.set_cons_succ decide_eq_true_eq decide_eq_false_iff_not Bool.not_eq_true' Bool.true_eq_false Bool.false_eq_true Bool.not_true Bool.not_false if_true if_false ite_true ite_false qoJ qoK qmK qmL qi3 qi4 qi5 qi6 qi7 Nat.zero_add Nat.reduceAdd Nat.reduceSub qah Int.cast_ofNat_Int decide_true decide_false eq_self not_true_eq_false not_false_eq_true Int.natCast_add Int.natCast_zero reduceCtorEq Nm qhL qdJ qn9 qkA tSl qcW qhv sL sT qoT qrR qhK qiH quq qrK qt5 qbR qjI qvU tBM qt4 qmM qmN qoN qoO qmO qoZ qmQ qoP qoQ qoW qoX qqT qsH qqU qus qqS qk0 qiI qvf qsG qcK Option.bind_some Option.bind_none Option.bind Option.join id_eq sS qo4 quv qaI qcl qcQ qbc qbN qbz qby qbF qaU qaS qa9 qa1 qbd qaT qaQ qaZ qaR qbf qcb qa8 qbO qcL qga qcc qbv qla qr4 qi9 qbK qbP qdD qaK qbl qbJ qcR qbi qbZ qbv qcS".splitOn " ").map λs => (⟨(Lean.mkIdent s.toName).raw⟩ : Lean.Term)).toArray
 `(tactic| simp only [$[$(l ++ t):term],*])
theorem qvC {x:Int} (h1:-1099511627776<x) (h2:x<1099511627776):Bd 40 x:=by
 show x.natAbs<1099511627776
 omega
theorem qpI {a b:Int} (ha:Bd 60000000 a) (hb:Bd 60000000 b):IntMulOk a b:=quw ha hb ∅
theorem qvD {a b:Int} (h1:-18446744073709551616<b) (h2:b<18446744073709551616):IntMulOk a b:=IntMulOk.of_right (intBits_le_64 ⋯ ⋯)
theorem qpJ {a b:Int} (h1:-18446744073709551616<a) (h2:a<18446744073709551616):IntMulOk a b:=IntMulOk.of_left (intBits_le_64 ⋯ ⋯)
theorem qgk (h:qaI K vs H Q E):qdX K { nx:=λ_ H'=>Q .non H',rt:=Q } (L2.start ["one","other","rest"] vs) H:=by
 obtain ⟨a,b,rfl,q⟩:=h
 unfold qdX
 rwa []
 refine while_by (λm σ H'=>∃ (x y:Int) (r:Option V),σ=[some (.int x),some (.int y),r]/\H'=H/\Int.gcd x y=Int.gcd a b/\m=y.natAbs) b.natAbs ⟨a,b,none,rfl,rfl,rfl,rfl⟩ ?_
 rintro m σ H' ⟨x,y,r,rfl,rfl,hg,rfl⟩
 rwa []
 refine qbI (λc=>?_) (λc=>?_)
 ·refine ⟨λσ' H''=>∃ m',m'<y.natAbs/\_,λ_ _ h=>h,?_⟩
  refine ⟨c,_,qoC x c,y,x.fmod y,_,rfl,rfl,?_,rfl⟩
  rw [qmI];exact hg
 ·have y0:y=0:=Decidable.not_not.mp c
  subst y0
  have e:(if x<0 then -x else x)=((Int.gcd a b:Nat):Int):=by
   rw [<-hg,Int.gcd_zero_right];split <;> omega
  rw [e];exact q
theorem qq6 {ns:List Int} {k:Int} (h0:0<=k) (h:k<(ns.length:Int)):∃ v:Int,atI (ns.map V.int) k=some (.int v):=by
 have hk:k.toNat<ns.length:=by omega
 have ek:k=((k.toNat:Nat):Int):=by omega
 have q:atI (ns.map V.int) ((k.toNat:Nat):Int)=some (.int ns[k.toNat]):=qhx (by rw [wae,waf hk] <;> rfl)
 rw [<-ek] at q
 exact ⟨_,q⟩
theorem qpK (h:qcl K vs H Q E):qm2 K { nx:=λ_ H'=>Q .non H',rt:=Q } (L2.start ["whole","n","result","square"] vs) H:=by
 obtain ⟨x,n,b,rfl,n0,bx,hb,q⟩:=h
 unfold qm2
 rwa []
 have BP:∀ k:Nat,k<=n.toNat->Bd 60000000 (x ^ k):=λk hk=>(bx.pow k).mono (by
  have:=wa1 b hk
  omega)
 refine while_by (λm σ H'=>∃ r s:Nat,σ=[some (.int x),some (.int (m:Int)),some (.int (x ^ r)),some (.int (x ^ s))]/\H'=H/\r+s*m=n.toNat) n.toNat ⟨0,1,?_,rfl,⋯⟩ ?_
 ·have e:((n.toNat:Nat):Int)=n:=by omega
  rw [e,wbm,show x ^ 1=x by rw [wb0,wbm,Int.one_mul]]
 rintro m σ H' ⟨r,s,rfl,rfl,hm⟩
 rwa []
 refine qbI (λc=>?_) (λc=>?_)
 ·have m1:1<=m:=by omega
  have sl:s<=s*m:=wcn s m1
  have d2:qvk (m:Int) 2:=⟨∅,(qwf ∅ ∅).mono ∅⟩
  have hm2:s*m=(s+s)*(m / 2)+s*(m % 2):=by
   have e:m=2*(m / 2)+m % 2:=(Nat.div_add_mod m 2).symm
   generalize m / 2=u at e ⊢
   generalize m % 2=v at e ⊢
   subst e
   rw [Nat.mul_add]
   congr 1
   rw [<-wb8,wbe s 2]
   congr 1
   omega
  have ed:((m:Int) / 2)=((m / 2:Nat):Int):=by omega
  rw [ed]
  refine ⟨λσ' H''=>∃ m',m'<m/\_,λ_ _ h=>h,?_⟩
  have fin:∀ r':Nat,r'+(s+s)*(m / 2)=n.toNat->qvk (m:Int) 2/\if 0<((m / 2:Nat):Int) then IntMulOk (x ^ s) (x ^ s)/\∃ m',m'<m/\∃ r s_1,[some (V.int x),some (V.int ((m / 2:Nat):Int)),some (V.int (x ^ r')),some (V.int (x ^ s*x ^ s))]=[some (V.int x),some (V.int (m':Int)),some (V.int (x ^ r)),some (V.int (x ^ s_1))]/\H'=H'/\r+s_1*m'=n.toNat
    else ∃ m',m'<m/\∃ r s_1,[some (V.int x),some (V.int ((m / 2:Nat):Int)),some (V.int (x ^ r')),some (V.int (x ^ s))]=[some (V.int x),some (V.int (m':Int)),some (V.int (x ^ r)),some (V.int (x ^ s_1))]/\H'=H'/\r+s_1*m'=n.toNat:=λr' hr'=>by
   refine ⟨d2,qbI (λc2=>?_) (λc2=>?_)⟩
   ·exact ⟨qpI (BP s ⋯) (BP s ⋯),m / 2,⋯,r',s+s,by rw [Int.pow_add],rfl,hr'⟩
   ·have z:m / 2=0:=by omega
    rw [z] at hr' ⊢
    exact ⟨0,⋯,r',s,rfl,rfl,⋯⟩
  refine ⟨∅,qbI (λc2=>⟨qpI (BP r ⋯) (BP s ⋯),?_⟩) (λc2=>?_)⟩
  ·rw [<-Int.pow_add]
   have e1:m % 2=1:=by omega
   rw [e1] at hm2
   exact fin (r+s) ⋯
  ·have e1:m % 2=0:=by omega
   rw [e1] at hm2
   exact fin r ⋯
 ·have z:m=0:=by omega
  subst z
  have e:r=n.toNat:=by omega
  subst e
  exact q
theorem qm9 {H:Hp} {Q:VK} {xs:List V} {l:List Nu} {m:Nat} (hN:Nums H xs l) (hm:m<=l.length) (e:qjT l l.length=m) (q:qtM H Q (trim l)) :
  ∀ (p:Addr),H p=none->∀ (r:Addr),upd H p (.lst (qhw xs none (some (m:Int)))) r=none->Q (V.ref r) (upd (upd H p (.lst (qhw xs none (some (m:Int))))) r (.tup (qhw xs none (some (m:Int))))):=λp hp r hr=>by
 have s:=(qag hp (.lst (qhw xs none (some (m:Int))))).trans (qag hr (.tup (qhw xs none (some (m:Int)))))
 refine q r _ _ s qah ?_
 rw [qhS (by rw [hN.length];exact hm)]
 rw [qhS (by rw [hN.length];exact hm)] at s
 unfold trim
 rw [e]
 exact (hN.take m).tp (tpS s)
theorem qnM (l:List Nu) (m:Nat):qjT l (m+1)=if (l.getD m (1,1)).1=0 then qjT l m else m+1:=rfl
theorem qs3 (h:qga K vs H Q E):qr5 K { nx:=λ_ H'=>Q .non H',rt:=Q } (L2.start ["row","many"] vs) H:=by
 obtain ⟨p,xs,l,rfl,hp,hN,hl,q⟩:=h
 unfold qr5
 rwa [hp]
 have lx:=hN.length
 refine while_by (λm σ H'=>σ=[some (.ref p),some (.int (m:Int))]/\H'=H/\qjT l m=qjT l l.length/\m<=l.length) xs.length ⟨rfl,rfl,by rw [lx],⋯⟩ ?_
 rintro m σ H' ⟨rfl,rfl,ht,hm⟩
 rwa [hp]
 refine qbI (λc=>?_) (λc=>?_)
 ·obtain ⟨k,rfl⟩:∃ k,m=k+1:=⟨m - 1,⋯⟩
  obtain ⟨v,hv,p1,rfl,hp1⟩:=hN.at (i:=k) ⋯ (1,1)
  rw [qnM] at ht
  refine ⟨_,qcH ⋯ hv,p1,rfl,_,hp1,_,rfl,rfl,qbI (λc2=>?_) (λc2=>?_)⟩
  ·have z:(l.getD k (1,1)).1=0:=by injection c2
   rw [if_pos z] at ht
   exact ⟨λσ' H''=>∃ m',m'<k+1/\_,λ_ _ h=>h,k,⋯,by rw [show ((k+1:Nat):Int) - 1=(k:Int) by omega],rfl,ht,⋯⟩
  ·have z:(l.getD k (1,1)).1≠0:=λz=>c2 (by rw [z])
   rw [if_neg z] at ht
   exact qm9 hN hm ht.symm q
 ·have z:m=0:=by omega
  subst z
  exact qm9 hN hm ht.symm q
theorem qq7 {l:List Nu} {i:Nat} {q:Nu} (h:l[i]?=some q):(l.take (i+1)).foldl (λB q=>B*(q.2 / ((Int.gcd B q.2:Nat):Int))) 1=(l.take i).foldl (λB q=>B*(q.2 / ((Int.gcd B q.2:Nat):Int))) 1*(q.2 / ((Int.gcd ((l.take i).foldl (λB q=>B*(q.2 / ((Int.gcd B q.2:Nat):Int))) 1) q.2:Nat):Int)):=by
 rw [wbl,h,List.foldl_append]
 rfl
theorem qb5 {α β:Type} {l:List α} {i:Nat} {q:α} (f:α->β) (h:l[i]?=some q):(l.take (i+1)).map f=(l.take i).map f++[f q]:=by
 rw [wbl,h,wbo]
 rfl
theorem qaV (n:Nat) (f:Nat->Int):(qbu n f).length=n:=by unfold qbu;rw [waa,waa,waw]
theorem qaW {n k:Nat} (f:Nat->Int) (h:k<n):(qbu n f)[k]?=some (.int (f k)):=by
 unfold qbu
 rw [wae,wae,wb1 h]
 rfl
theorem qdm {n k:Nat} {f g:Nat->Int} {z:Int} (h:k<n) (h1:g k=z) (h2:∀ i,i<n->i≠k->g i=f i):(qbu n f).set k (.int z)=qbu n g:=by
 apply List.ext_getElem?
 intro i
 by_cases hi:i<n
 ·by_cases e:i=k
  ·subst e
   rw [List.getElem?_set_self (by rw [qaV];exact hi),qaW g hi,h1]
  ·rw [List.getElem?_set_ne (λz=>e z.symm),qaW f hi,qaW g hi,h2 i hi e]
 ·rw [wa0 (by rw [List.length_set,qaV];omega),wa0 (by rw [qaV];omega)]
theorem qbQ {n:Nat} {f g:Nat->Int} (h:∀ i,i<n->g i=f i):qbu n f=qbu n g:=by
 apply List.ext_getElem?
 intro i
 by_cases hi:i<n
 ·rw [qaW f hi,qaW g hi,h i hi]
 ·rw [wa0 (by rw [qaV];omega),wa0 (by rw [qaV];omega)]
theorem qhi (n:Nat):(List.replicate n [V.int 0]).flatten=qbu n λ_=>0:=by
 rw [qdQ]
 apply List.ext_getElem?
 intro i
 by_cases hi:i<n
 ·rw [qaW _ hi,wch,if_pos hi]
 ·rw [wch,if_neg hi,wa0 (by rw [qaV];omega)]
theorem qgL {n k:Nat} {i:Int} (e:i=(k:Int)) (h:k<n):ixN n i=some k:=by
 subst e
 unfold ixN
 rw [if_pos ⋯,if_pos ⋯]
 simp
theorem Pl.same {H H':Hp} {r:Addr} {L:List Nu} (h:Pl H r L) (s:Same H H'):Pl H' r L:=let ⟨zs,a,b⟩:=h;⟨zs,s _ _ a,b.tp (tpS s)⟩
theorem Pl.tp {H H':Hp} {r:Addr} {L:List Nu} (h:Pl H r L) (s:Tp H H'):Pl H' r L:=let ⟨zs,a,b⟩:=h;⟨zs,s _ _ a,b.tp s⟩
theorem qs5 {m n:Nat} {x y:Int} (hx:Bd m x) (hy:Bd n y) (hm:m<=60000000:=by decide) (hn:n<=60000000:=by decide):IntMulOk x y:=qpI (hx.mono hm) (hy.mono hn)
theorem qc5 (ns:List Int) (m:Nat):qcI ns (m+1)=if ns.getD m 1=0 then qcI ns m else m+1:=rfl
theorem qiO (h:qbc K vs H Q E):qfu K { nx:=λ_ H'=>Q .non H',rt:=Q } (L2.start ["row","many"] vs) H:=by
 obtain ⟨p,ns,rfl,hp,q⟩:=h
 unfold qfu
 rwa [hp]
 have fin:∀ m:Nat,m<=ns.length->qcI ns m=qcI ns ns.length->qcI ns m=m->∀ r,H r=none->Q (V.ref r) (upd H r (.lst (qhw (ns.map V.int) none (some (m:Int))))):=λm h1 h2 h3 r hr=>by
  rw [qhS (by rw [waa];exact h1),<-List.map_take,<-h3,h2]
  exact q r hr
 refine while_by (λm σ H'=>σ=[some (.ref p),some (.int (m:Int))]/\H'=H/\qcI ns m=qcI ns ns.length/\m<=ns.length) ns.length ⟨by rw [waa],rfl,rfl,wac _⟩ ?_
 rintro m σ H' ⟨rfl,rfl,ht,hm⟩
 rwa [hp]
 refine qbI (λc=>?_) (λc=>?_)
 ·obtain ⟨k,rfl⟩:∃ k,m=k+1:=⟨m - 1,⋯⟩
  have hv:(ns.map V.int)[k]?=some (V.int (ns.getD k 1)):=by
   rw [wae,waf ⋯,wab,waf ⋯];rfl
  refine ⟨_,qcH ⋯ hv,rfl,qbI (λc2=>?_) (λc2=>?_)⟩
  ·have z:ns.getD k 1=0:=by injection c2
   rw [qc5,if_pos z] at ht
   exact ⟨λσ' H''=>∃ m',m'<k+1/\_,λ_ _ h=>h,k,⋯,by rw [show ((k+1:Nat):Int) - 1=(k:Int) by omega],rfl,ht,⋯⟩
  ·have z:ns.getD k 1≠0:=λz=>c2 (by rw [z])
   exact fin (k+1) hm ht (by rw [qc5,if_neg z])
 ·have z:m=0:=by omega
  subst z
  exact fin 0 hm ht rfl
theorem qid (ns:List Int):∀ m,qcI ns m<=m
 | 0=>wac 0
 | m+1=>by
   rw [qc5]
   split
   ·exact Nat.le_succ_of_le (qid ns m)
   ·exact wac _
theorem qie {ns:List Int}:(qej ns).length=qcI ns ns.length:=by
 unfold qej
 rw [wa7,Nat.min_eq_left (qid ns ns.length)]
theorem qlj {ns:List Int} (k:Nat):(qej ns).getD k 0=ns.getD k 0:=by
 have key:∀ (m:Nat),m<=ns.length->(∀ j,m<=j->j<ns.length->ns.getD j 0=0)->∀ j,qcI ns m<=j->j<ns.length->ns.getD j 0=0:=by
  intro m
  induction m with
  | zero=>intro _ h j hj1 hj2;exact h j ⋯ hj2
  | succ m ih=>
    intro hm h j h1 h2
    rw [qc5] at h1
    split at h1
    ·rename_i z
     refine ih ⋯ (λj hj1 hj2=>?_) j h1 h2
     by_cases e:j=m
     ·subst e
      rw [wab,waf hj2] at z ⊢
      exact z
     ·exact h j ⋯ hj2
    ·exact h j h1 h2
 by_cases h1:k<qcI ns ns.length
 ·unfold qej
  rw [wab,wab,List.getElem?_take_of_lt h1]
 ·have e:(qej ns).getD k 0=0:=by
   rw [wab,wa0 (by rw [qie];omega)]
   rfl
  rw [e]
  by_cases h2:k<ns.length
  ·exact (key ns.length (wac _) (λj a b=>absurd b ⋯) k ⋯ h2).symm
  ·rw [wab,wa0 ⋯]
   rfl
theorem qq8 {ns:List Int} {g:Int} (h:∀ z∈ns,g∣z) (k:Nat):g∣ns.getD k 0:=by
 rw [wab]
 cases e:ns[k]? with
 | none=>exact wbn g
 | some z=>exact h z (wat e)
theorem qpL {m:List Nu} (hm:qbr m) (nm:Nz m) (h1:1<=m.length):(qbX m).getD (m.length - 1) 0≠0:=by
 rw [qsP,qpf]
 have hb:m.length - 1<m.length:=by omega
 have q:=nm m[m.length - 1] (by rw [List.getLast?_eq_getElem?];exact waf hb)
 have e:qhd m (m.length - 1)=m[m.length - 1]:=by unfold qhd;rw [wab,waf hb];rfl
 rw [e]
 refine wak q ?_
 have o:=qeh hm
 have d:=o.2 m[m.length - 1] (wbf hb)
 obtain ⟨y,hy⟩:=d
 have p0:=(hm m[m.length - 1] (wbf hb)).pos
 rw [hy,wco _ (wah p0)]
 intro z
 rw [z,wb3] at hy
 have:=o.1
 omega
theorem atI_last {xs:List V} {v:V} (h:1<=xs.length) (e:xs[xs.length - 1]?=some v):atI xs (-1)=some v:=by
 unfold atI ixN
 rw [if_neg ∅,if_pos ⋯,show (-1+(xs.length:Int)).toNat=xs.length - 1 by omega]
 exact e
theorem qq9 (h:qcL K vs H Q E):qpz K { nx:=λ_ H'=>Q .non H',rt:=Q } (L2.start ["top","bottom","shared"] vs) H:=by
 obtain ⟨a,b,rfl,hb,q⟩:=h
 unfold qpz
 rwa []
 have go:∀ s:Int,(s=if b<0 then -((Int.gcd a b:Nat):Int) else ((Int.gcd a b:Nat):Int))->qsG a s/\qsG b s/\2<=sizeLine/\∀ (p:Addr),H p=none->Q (V.ref p) (upd H p (.tup [.int (a.fdiv s),.int (b.fdiv s)])):=λs hs=>by
  obtain ⟨h1,h2,h3,h4,h5,h6⟩:=qeA hb hs
  have e:qaP a b=(a.fdiv s,b.fdiv s):=by
   refine qeg (qaY hb) h3 ?_
   rw [qbL hb,qfn (q:=(a.fdiv s,b.fdiv s)) (wah h3.pos) hb h4]
  rw [e] at q
  exact ⟨h1,h1,sz ∅,q⟩
 refine qbI (λc=>?_) (λc=>?_)
 ·exact go _ (by rw [if_pos c])
 ·exact go _ (by rw [if_neg c])
theorem qnN (h:qcc K vs H Q E):qld K { nx:=λ_ H'=>Q .non H',rt:=Q } (L2.start ["P","bottom","number"] vs) H:=by
 obtain ⟨p,xs,l,M,rfl,hp,hN,hL,hO,bM,hB,hl,q⟩:=h
 unfold qld
 rwa [hp]
 have lx:=hN.length
 have B0:=(qeh hL).1
 have BB:=qmT (wah hO.1) (qmU hL hO) bM
 have qb:∀ q∈l,Bd 400000 q.2:=λq hq=>qmT (wah hO.1) (hO.2 q hq) bM
 refine ⟨⟨_,SqT.of hp⟩,ForT.by (xs:=xs) (λi σ H'=>∃ x,σ=[some (.ref p),some (.int ((l.take i).foldl (λB q=>B*(q.2 / ((Int.gcd B q.2:Nat):Int))) 1)),x]/\H'=H) ⟨none,rfl,rfl⟩ ?_ ?_ ?_⟩
 ·rintro i σ H' _ ⟨x,rfl,rfl⟩
  exact hp
 ·rintro i x σ H' hi ⟨y,rfl,rfl⟩
  obtain ⟨z,hz,p1,rfl,hp1⟩:=hN.get hi
  have zl:=hL z (wat hz)
  have zb:=qb z (wat hz)
  obtain ⟨f1,f3⟩:=qjW (M:=M) (l.take i) 1 (λq hq=>⟨(hL q (wcg hq)).pos,hO.2 q (wcg hq)⟩) ∅ (Int.one_dvd M)
  have f4:=qmT (wah hO.1) f3 bM
  obtain ⟨s1,_,_,s4,s5,s6⟩:=qjV f1 zl.pos
  rwa [hp1]
  refine ⟨s5,qs5 f4 (zb.le s4),?_,_,rfl⟩
  rw [qq7 hz]
 ·rintro σ H' ⟨x,rfl,rfl⟩
  rw [lx,wa8]
  rwa [hp]
  refine ⟨⟨_,SqT.of hp⟩,CompJ.tup (xs:=xs) (λi ys H''=>i<=xs.length/\ys=((qbX l).take i).map V.int/\H''=H') ⟨wad _,rfl,rfl⟩ ?_ ?_ ?_⟩
  ·rintro i ys H'' ⟨h1,rfl,rfl⟩
   refine ⟨h1,sz ?_,hp⟩
   rw [waa,wa7];omega
  ·rintro i x ys H'' hi ⟨h1,rfl,rfl⟩
   obtain ⟨z,hz,p1,rfl,hp1⟩:=hN.get hi
   have zl:=hL z (wat hz)
   have zb:=qb z (wat hz)
   have zn:=hB z (wat hz)
   have hi2:i<xs.length:=(wal.mp hi).1
   rwa [hp1]
   have eB:l.foldl (λB q=>B*(q.2 / ((Int.gcd B q.2:Nat):Int))) 1=qgA l:=rfl
   rw [eB]
   have cz:(qbX l)[i]?=some (z.1*(qgA l / z.2)):=by unfold qbX;rw [wae,hz];rfl
   refine ⟨zl.pos,qs5 zn (BB.le (qiJ B0 zl.pos)),⋯,?_⟩
   rw [qb5 V.int cz]
  ·rintro ys H'' ⟨_,rfl,rfl⟩ a ha
   refine ⟨sz ∅,λr hr=>?_⟩
   have e:(qbX l).take xs.length=qbX l:=by
    rw [lx,show l.length=(qbX l).length by unfold qbX;rw [waa],wa8]
   rw [e] at hr ⊢
   have s:=(qag ha (.lst ((qbX l).map V.int))).trans (qag hr (.tup [.ref a,.int (qgA l)]))
   exact q r a _ s qah (qag hr _ _ _ qah)
theorem qlk (h:qbv K vs H Q E):qh4 K { nx:=λ_ H'=>Q .non H',rt:=Q } (L2.start ["row","bottom"] vs) H:=by
 obtain ⟨p,ns,B,rfl,hp,hB,hl,q⟩:=h
 unfold qh4
 rwa [hp]
 refine ⟨⟨_,SqL.of hp⟩,CompJ.lst (xs:=ns.map V.int) (λi ys H'=>i<=ns.length/\Same H H'/\Nums H' ys ((ns.take i).map λn=>qaP n B)) ⟨wad _,Same.refl H,trivial⟩ ?_ ?_ ?_⟩
 ·rintro i ys H' ⟨h1,s1,hN⟩
  refine ⟨by rw [waa];exact h1,sz ?_,SqL.of (s1 _ _ hp)⟩
  rw [hN.length,waa,wa7];omega
 ·rintro i x ys H' hi ⟨h1,s1,hN⟩
  rw [wae] at hi
  cases e:ns[i]? with
  | none=>rw [e] at hi;cases hi
  | some n=>
    rw [e] at hi
    obtain rfl:V.int n=x:=Option.some.inj hi
    have hi2:i<ns.length:=(wal.mp e).1
    rwa []
    refine ⟨hB,λr hr=>⟨⋯,s1.trans (qag hr _),?_⟩⟩
    rw [qb5 _ e]
    exact (hN.tp (tpS (qag hr _))).append (Nums.one qpq)
 ·rintro ys H' ⟨_,s1,hN⟩ a ha
  rw [waa,wa8] at hN
  have s2:=qag ha (.lst ys)
  rwa []
  refine ⟨_,hN.tp (tpS s2),by rw [waa];exact hl,λr zs H'' s3 hr hz=>q r zs H'' ((s1.trans s2).trans s3) hr hz⟩
theorem quM {b:Nat} {l:List Nu} {M:Int} (hl:qbr l) (h:Ov l M) (hb:∀ z∈ovN l M,Bd b z):∀ q∈l,Bd b q.1:=λq hq=>by
 refine (hb (q.1*(M / q.2)) (wai.mpr ⟨q,hq,rfl⟩)).le ?_
 rw [wam]
 obtain ⟨y,hy⟩:=h.2 q hq
 have p0:=(hl q hq).pos
 have m0:=h.1
 have:M / q.2=y:=by rw [hy,wco _ (wah p0)]
 rw [this]
 refine wcn _ ?_
 rcases wbj y.natAbs with z | z
 ·have y0:y=0:=by omega
  rw [y0] at hy;omega
 ·exact z
theorem qna {g f:List Int} (lg:Lz g) (lf:Lz f) (mq:MQ (co g) (co f)):g.length<=f.length:=by
 obtain ⟨c,c0,A,hA⟩:=mq
 rcases wan f.length g.length with y | y
 ·exfalso
  rcases qiK A with z | ⟨B,lB,_,eB⟩
  ·have:c*co f (f.length - 1)=0:=by rw [hA,qbm,qck g z]
   rcases wb2.mp this with e | e
   ·exact c0 e
   ·exact lf.2 e
  ·have hB:∀ k,c*co f k=cvL B (co g) k:=λk=>by rw [hA,qbm,qas (λj=>(eB j).symm) g k,<-qbm]
   have b0:=lB.1
   have g0:=lg.1
   have ne:B≠[]:=wbr.mp b0
   obtain ⟨X,t,hX⟩:∃ X t,B=X++[t]:=⟨B.dropLast,B.getLast ne,(wcr ne).symm⟩
   have tl:X.length=B.length - 1:=by rw [hX];simp
   have tc:co B (B.length - 1)=t:=by rw [<-tl,hX];unfold co;simp [wab]
   have e:=hB (B.length - 1+(g.length - 1))
   rw [qay ⋯,hX,qbs,<-hX,qbM (n:=g.length) (λi hi=>qay hi) X _ ⋯] at e
   unfold upS at e
   rw [if_pos ⋯,show B.length - 1+(g.length - 1) - X.length=g.length - 1 by omega] at e
   have e2:t*co g (g.length - 1)=0:=by omega
   rcases wb2.mp e2 with x | x
   ·exact lB.2 (tc.trans x)
   ·exact lg.2 x
 ·exact y
theorem php:∀ (m n:Nat) (f:Nat->Nat),(∀ i,i<n->f i<m)->m<n->∃ i j,i<j/\j<n/\f i=f j
 | 0,n,f,h,hn=>absurd (h 0 hn) (Nat.not_lt_zero _)
 | m+1,n,f,h,hn=>by
   obtain ⟨n,rfl⟩:∃ k,n=k+1:=⟨n - 1,⋯⟩
   by_cases c:∃ i,i<n/\f i=f n
   ·obtain ⟨i,hi,e⟩:=c
    exact ⟨i,n,hi,⋯,e⟩
   ·have c:∀ i,i<n->f i≠f n:=λi hi e=>c ⟨i,hi,e⟩
    have hv:=h n ⋯
    obtain ⟨i,j,hij,hj,e⟩:=php m n (λi=>if f n<f i then f i - 1 else f i) (λi hi=>by
     have h1:=h i ⋯
     have h2:=c i hi
     show (if f n<f i then f i - 1 else f i)<m
     split <;> omega) ⋯
    refine ⟨i,j,hij,⋯,?_⟩
    have c1:=c i ⋯
    have c2:=c j hj
    have e:(if f n<f i then f i - 1 else f i)=(if f n<f j then f j - 1 else f j):=e
    split at e <;> split at e <;> omega
noncomputable def enc (M:Nat):Nat->(Nat->Nat)->Nat
 | 0,_=>0
 | N+1,e=>e 0+M*enc M N (λk=>e (k+1))
theorem qpM {M:Nat}:∀ (N:Nat) (e:Nat->Nat),(∀ k,k<N->e k<M)->enc M N e<M ^ N
 | 0,_,_=>Nat.one_pos
 | N+1,e,h=>by
   have h1:=qpM N (λk=>e (k+1)) (λk hk=>h (k+1) ⋯)
   have h0:=h 0 ⋯
   show e 0+M*enc M N (λk=>e (k+1))<M ^ (N+1)
   have h2:M*(enc M N (λk=>e (k+1))+1)<=M*M ^ N:=wa1 M h1
   rw [wax,wbe (M ^ N)]
   rw [Nat.mul_add,Nat.mul_one] at h2
   omega
theorem qj6 {M a b x y:Nat} (ha:a<M) (hb:b<M) (h:a+M*x=b+M*y):a=b/\x=y:=by
 have h1:(a+M*x) % M=a:=by rw [Nat.add_mul_mod_self_left,Nat.mod_eq_of_lt ha]
 have h2:(b+M*y) % M=b:=by rw [Nat.add_mul_mod_self_left,Nat.mod_eq_of_lt hb]
 have e:a=b:=by rw [<-h1,h,h2]
 subst e
 exact ⟨rfl,Nat.eq_of_mul_eq_mul_left ⋯ (Nat.add_left_cancel h)⟩
theorem qma {M:Nat}:∀ (N:Nat) (e e':Nat->Nat),(∀ k,k<N->e k<M)->(∀ k,k<N->e' k<M)->enc M N e=enc M N e'->∀ k,k<N->e k=e' k
 | 0,_,_,_,_,_,k,hk=>absurd hk (Nat.not_lt_zero _)
 | N+1,e,e',h,h',q,k,hk=>by
   obtain ⟨q1,q2⟩:=qj6 (h 0 ⋯) (h' 0 ⋯) q
   cases k with
   | zero=>exact q1
   | succ k=>exact qma N _ _ (λk hk=>h (k+1) ⋯) (λk hk=>h' (k+1) ⋯) q2 k ⋯
noncomputable def digs (p:Nat):Nat->Nat->List Int
 | 0,_=>[]
 | N+1,t=>((t % p:Nat):Int)::digs p N (t / p)
theorem qfV (p:Nat):∀ (N t:Nat),(digs p N t).length=N
 | 0,_=>rfl
 | N+1,t=>by show (digs p N (t / p)).length+1=N+1;rw [qfV p N]
theorem qif {p:Nat} (p0:0<p):∀ (N t:Nat),∀ z∈digs p N t,0<=z/\z<(p:Int)
 | 0,_,z,h=>by cases h
 | N+1,t,z,h=>by
   rcases was.mp h with rfl | h
   ·have:=Nat.mod_lt t p0;omega
   ·exact qif p0 N _ z h
theorem qj7 {p:Nat} (p0:0<p):∀ (N t s:Nat),t<p ^ N->s<p ^ N->digs p N t=digs p N s->t=s
 | 0,t,s,h1,h2,_=>by rw [Nat.pow_zero] at h1 h2;omega
 | N+1,t,s,h1,h2,h=>by
   injection h with a b
   rw [wax,wbe] at h1 h2
   have:=qj7 p0 N (t / p) (s / p) (Nat.div_lt_of_lt_mul h1) (Nat.div_lt_of_lt_mul h2) b
   have e1:=Nat.div_add_mod t p
   have e2:=Nat.div_add_mod s p
   have a:t % p=s % p:=by exact_mod_cast a
   rw [<-e1,<-e2,this,a]
theorem qll {g:Nat->Int} {h q:Nat} (hg:∀ k,(g k).natAbs<=h):∀ (a:List Int),(∀ z∈a,z.natAbs<=q)->∀ k,(cvL a g k).natAbs<=a.length*(q*h)
 | [],_,k=>by show (0:Int).natAbs<=_;simp
 | x::a,ha,0=>by
   rw [qar]
   have h1:(x*g 0).natAbs<=q*h:=by rw [wam];exact wb4 (ha x (waq ..)) (hg 0)
   have:(x::a).length*(q*h)=a.length*(q*h)+q*h:=by rw [wbc,Nat.add_mul,Nat.one_mul]
   omega
 | x::a,ha,k+1=>by
   rw [qam]
   have h1:(x*g (k+1)).natAbs<=q*h:=by rw [wam];exact wb4 (ha x (waq ..)) (hg (k+1))
   have h2:=qll hg a (λz hz=>ha z (wa5 _ hz)) k
   have:(x::a).length*(q*h)=a.length*(q*h)+q*h:=by rw [wbc,Nat.add_mul,Nat.one_mul]
   omega
theorem qpN {A B u v:List Int} (lA:Lz A) (lB:Lz B) (q:QI (co A) (co B) qb8) (hu:u.length<B.length) (hv:v.length<A.length) (h:∀ k,cvL u (co A) k+cvL v (co B) k=0):(∀ k,co u k=0)/\∀ k,co v k=0:=by
 obtain ⟨d,d0,U,V,hd⟩:=q
 have half:∀ {A B u v U V:List Int},Lz B->(∀ k,d*qb8 k=cvL U (co A) k+cvL V (co B) k)->u.length<B.length->(∀ k,cvL u (co A) k+cvL v (co B) k=0)->∀ k,co u k=0:=λ{A B u v U V} lB hd hu h=>by
  rcases qiK u with z | ⟨f,lf,fl,ef⟩
  ·exact z
  ·exfalso
   have mq:MQ (co B) (co f):=by
    refine ⟨d,d0,qaN (qaE V u) ((qaE U v).map ((-1)*·)),λk=>?_⟩
    rw [qaw,qau,qav,qav,ef k,qaO u k,<-qbo,qas hd,qdN,qdO (co A) u U,qdO (co B) u V]
    have e:cvL U (cvL u (co A)) k = - cvL U (cvL v (co B)) k:=by
     have:cvL U (cvL u (co A)) k+cvL U (cvL v (co B)) k=0:=by rw [<-qdN];exact qck U h k
     omega
    rw [e];omega
   have:=qna lB lf mq
   omega
 exact ⟨half lB hd hu h,half (A:=B) (B:=A) (u:=v) (v:=u) (U:=V) (V:=U) lA (λk=>by rw [hd k];omega) hv (λk=>by have:=h k;omega)⟩
theorem qra {a b:Int} (h:a=b):a∣b:=by rw [h];exact Int.dvd_refl b
theorem cvD {p:Int} {f g:Nat->Int} {S:List Int} (h:∀ k,p∣f k - cvL S g k):∀ (a:List Int) (k:Nat),p∣cvL a f k - cvL a (cvL S g) k
 | [],k=>by show p∣(0:Int) - 0;simp
 | x::a,0=>by
   rw [qar,qar]
   have:=war (h 0) (wb9 x _)
   rw [wbs] at this
   refine war this (qra ?_)
   omega
 | x::a,k+1=>by
   rw [qam,qam]
   have h1:=war (h (k+1)) (wb9 x _)
   have h2:=cvD h a k
   rw [wbs] at h1
   have:=wbk h1 h2
   refine war this (qra ?_)
   omega
theorem qfW:∀ (a b:List Int),(qaN a b).length=max a.length b.length
 | [],b=>by show b.length=max 0 b.length;omega
 | a,[]=>by rw [qdB];show a.length=max a.length 0;omega
 | x::a,y::b=>by
   show (qaN a b).length+1=max (a.length+1) (b.length+1)
   rw [qfW a b];omega
theorem qnb {a b:List Int} (hl:a.length=b.length) (h:∀ k,co a k=co b k):a=b:=by
 refine List.ext_getElem hl λi h1 h2=>?_
 have:=h i
 unfold co at this
 rwa [wab,wab,waf h1,waf h2] at this
theorem lucky {A B G:List Int} {p b:Nat} (hp:Pr p) (lA:Lz A) (lB:Lz B) (q:QI (co A) (co B) qb8) (hA:∀ k,Bd b (co A k)) (hB:∀ k,Bd b (co B k)) (n1:2<=A.length) (m1:2<=B.length) (g2:2<=G.length) (g1:¬ (p:Int)∣co G (G.length - 1)) (dA:Dm (p:Int) (co G) (co A)) (dB:Dm (p:Int) (co G) (co B))
  (big:(2*((A.length+B.length)*2 ^ b)) ^ (A.length+B.length - 2)<p):False:=by
 have p2:=hp.two
 have p0:0<p:=by omega
 generalize hn:A.length - 1=n at *
 generalize hm:B.length - 1=m at *
 generalize hE:(A.length+B.length)*2 ^ b=E at *
 have N1:A.length+B.length - 2=n+m:=by omega
 rw [N1] at big
 have hAn:∀ k,(co A k).natAbs<=2 ^ b:=λk=>wbt (hA k)
 have hBn:∀ k,(co B k).natAbs<=2 ^ b:=λk=>wbt (hB k)
 have E0:0<E:=by rw [<-hE];exact Nat.mul_pos ⋯ (wbu ∅)
 obtain ⟨u,hu⟩:∃ u:Nat->List Int,∀ t,u t=(digs p (m+n) t).take m:=⟨_,λ_=>rfl⟩
 obtain ⟨v,hv⟩:∃ v:Nat->List Int,∀ t,v t=(digs p (m+n) t).drop m:=⟨_,λ_=>rfl⟩
 obtain ⟨f,hf⟩:∃ f:Nat->Nat->Int,∀ t k,f t k=cvL (u t) (co A) k+cvL (v t) (co B) k:=⟨_,λ_ _=>rfl⟩
 have ul:∀ t,(u t).length=m:=λt=>by rw [hu,wa7,qfV];omega
 have vl:∀ t,(v t).length=n:=λt=>by rw [hv,List.length_drop,qfV];omega
 have uz:∀ t,∀ z∈u t,0<=z/\z<(p:Int):=λt z hz=>qif p0 _ t z (wcg (hu t ▸ hz))
 have vz:∀ t,∀ z∈v t,0<=z/\z<(p:Int):=λt z hz=>qif p0 _ t z (List.mem_of_mem_drop (hv t ▸ hz))
 have fb:∀ t k,(f t k).natAbs<E*p:=λt k=>by
  have h1:=qll (q:=p - 1) hAn (u t) (λz hz=>by have:=uz t z hz;omega) k
  have h2:=qll (q:=p - 1) hBn (v t) (λz hz=>by have:=vz t z hz;omega) k
  rw [ul] at h1
  rw [vl] at h2
  have h3:(f t k).natAbs<=(m+n)*((p - 1)*2 ^ b):=by
   rw [Nat.add_mul,hf]
   omega
  refine wa4 h3 ?_
  rw [<-hE]
  have e:(m+n)*((p - 1)*2 ^ b)=((m+n)*2 ^ b)*(p - 1):=by rw [wbe (p - 1),wb8]
  rw [e]
  exact wau (Nat.mul_lt_mul_of_pos_left ⋯ (Nat.mul_pos ⋯ (wbu ∅))) (wbd p (wbd _ ⋯))
 obtain ⟨e0,he0⟩:∃ e0:Nat->Nat,∀ t,e0 t=(f t 0 / (p:Int)+(E:Int)).toNat:=⟨_,λ_=>rfl⟩
 obtain ⟨ek,hek⟩:∃ ek:Nat->Nat->Nat,∀ t k,ek t k=(f t (k+1)+((E*p:Nat):Int)).toNat:=⟨_,λ_ _=>rfl⟩
 have e0r:∀ t,0<=f t 0 / (p:Int)+(E:Int)/\f t 0 / (p:Int)+(E:Int)<2*(E:Int):=λt=>by
  have h:=fb t 0
  have h1:-((E:Int)*(p:Int))<=f t 0:=by have:((E*p:Nat):Int)=(E:Int)*(p:Int):=by push_cast;rfl
                                        omega
  have h2:f t 0<(E:Int)*(p:Int):=by have:((E*p:Nat):Int)=(E:Int)*(p:Int):=by push_cast;rfl
                                    omega
  have q1:-(E:Int)<=f t 0 / (p:Int):=by
   refine (Int.le_ediv_iff_mul_le ⋯).mpr ?_
   rw [Int.neg_mul];exact h1
  have q2:f t 0 / (p:Int)<(E:Int):=Int.ediv_lt_of_lt_mul ⋯ h2
  omega
 have ekr:∀ t k,0<=f t (k+1)+((E*p:Nat):Int)/\f t (k+1)+((E*p:Nat):Int)<2*((E*p:Nat):Int):=λt k=>by
  have h:=fb t (k+1)
  omega
 have e0l:∀ t,e0 t<2*E:=λt=>by have:=e0r t;rw [he0];omega
 have ekl:∀ t k,ek t k<2*(E*p):=λt k=>by have:=ekr t k;rw [hek];omega
 have cl:∀ t,e0 t+2*E*enc (2*(E*p)) (m+n - 1) (ek t)<2*E*(2*(E*p)) ^ (m+n - 1):=λt=>by
  have h1:=qpM (M:=2*(E*p)) (m+n - 1) (ek t) (λk _=>ekl t k)
  have h2:2*E*(enc (2*(E*p)) (m+n - 1) (ek t)+1)<=2*E*(2*(E*p)) ^ (m+n - 1):=wa1 _ h1
  have h3:=e0l t
  rw [Nat.mul_add,Nat.mul_one] at h2
  omega
 have room:2*E*(2*(E*p)) ^ (m+n - 1)<p ^ (m+n):=by
  obtain ⟨N,hN⟩:∃ N,m+n=N+1:=⟨m+n - 1,⋯⟩
  rw [hN,Nat.add_sub_cancel]
  rw [Nat.add_comm n m,hN] at big
  have e:2*E*(2*(E*p)) ^ N=(2*E) ^ (N+1)*p ^ N:=by
   rw [<-wb8 2 E p,Nat.mul_pow (2*E) p N,wax,wbe ((2*E) ^ N) (2*E),wb8 (2*E)]
  rw [e,wax p,wbe (p ^ N) p]
  exact Nat.mul_lt_mul_of_pos_right big (wbu p0)
 obtain ⟨s,t,st,ht,e⟩:=php _ _ _ (λi _=>cl i) room
 obtain ⟨q0,q1⟩:=qj6 (e0l s) (e0l t) e
 have qk:=qma (m+n - 1) _ _ (λk _=>ekl s k) (λk _=>ekl t k) q1
 have w0:∀ k,(co (u s) k - co (u t) k)=co (qaN (u s) ((u t).map ((-1)*·))) k:=λk=>by rw [qaO,qaO,qaO,qaw,qau];omega
 have df:∀ k,f s k - f t k=cvL (qaN (u s) ((u t).map ((-1)*·))) (co A) k+cvL (qaN (v s) ((v t).map ((-1)*·))) (co B) k:=λk=>by
  rw [qaw,qaw,qau,qau,hf,hf]
  omega
 have hi:∀ k,0<k->f s k - f t k=0:=λk hk=>by
  rcases wan k (m+n) with c | c
  ·have:=qk (k - 1) ⋯
   have r1:=ekr s (k - 1)
   have r2:=ekr t (k - 1)
   rw [hek,hek,show k - 1+1=k by omega] at this
   rw [show k - 1+1=k by omega] at r1 r2
   omega
  ·have z:∀ t,f t k=0:=λt=>by
    rw [hf,qbM (n:=A.length) (λi hi=>qay hi) (u t) k (by rw [ul];omega),qbM (n:=B.length) (λi hi=>qay hi) (v t) k (by rw [vl];omega)];rfl
   rw [z,z];rfl
 have d0:(f s 0 - f t 0).natAbs<p:=by
  have r1:=e0r s
  have r2:=e0r t
  rw [he0,he0] at q0
  have q0:f s 0 / (p:Int)=f t 0 / (p:Int):=by omega
  have m1:=wcf (f s 0) p
  have m2:=wcf (f t 0) p
  have b1:=wav (f s 0) (show (p:Int)≠0 by omega)
  have b2:=waz (f s 0) (show (0:Int)<p by omega)
  have b3:=wav (f t 0) (show (p:Int)≠0 by omega)
  have b4:=waz (f t 0) (show (0:Int)<p by omega)
  rw [q0] at m1
  omega
 have dm:Dm (p:Int) (co G) (co [f s 0 - f t 0]):=by
  obtain ⟨SA,hSA⟩:=dA
  obtain ⟨SB,hSB⟩:=dB
  refine ⟨qaN (qaE (qaN (u s) ((u t).map ((-1)*·))) SA) (qaE (qaN (v s) ((v t).map ((-1)*·))) SB),λk=>?_⟩
  have e:co [f s 0 - f t 0] k=f s k - f t k:=by
   cases k with
   | zero=>rfl
   | succ k=>rw [hi (k+1) ⋯];exact qay (by simp)
  rw [e,df,qaw (co G),qav,qav]
  have h1:=cvD (p:=(p:Int)) hSA (qaN (u s) ((u t).map ((-1)*·))) k
  have h2:=cvD (p:=(p:Int)) hSB (qaN (v s) ((v t).map ((-1)*·))) k
  have:=wbk h1 h2
  refine war this (qra ?_)
  omega
 have z0:f s 0 - f t 0=0:=by
  by_cases c:(p:Int)∣f s 0 - f t 0
  ·obtain ⟨y,hy⟩:=c
   rcases Int.lt_trichotomy y 0 with z | z | z
   ·have:(p:Int)*y<=(p:Int)*(-1):=wbw ⋯ ⋯
    omega
   ·rw [hy,z];omega
   ·have:(p:Int)*1<=(p:Int)*y:=wbw ⋯ ⋯
    omega
  ·exfalso
   have:=Dm.len hp ⋯ g1 dm ⟨0,c⟩
   simp at this
   omega
 have all:∀ k,cvL (qaN (u s) ((u t).map ((-1)*·))) (co A) k+cvL (qaN (v s) ((v t).map ((-1)*·))) (co B) k=0:=λk=>by
  rw [<-df]
  cases k with
  | zero=>exact z0
  | succ k=>exact hi (k+1) ⋯
 have ll:∀ {a c:List Int} {x:Nat},a.length=x->c.length=x->(qaN a (c.map ((-1)*·))).length=x:=λ{a c x} h1 h2=>by
  rw [qfW,waa,h1,h2];omega
 obtain ⟨c1,c2⟩:=qpN lA lB q (by rw [ll (ul s) (ul t)];omega) (by rw [ll (vl s) (vl t)];omega) all
 have eu:u s=u t:=qnb (by rw [ul,ul]) λk=>by have:=c1 k;rw [<-w0] at this;omega
 have ev:v s=v t:=qnb (by rw [vl,vl]) λk=>by
  have:=c2 k
  rw [qaO,qaw,qau,<-qaO,<-qaO] at this;omega
 have:digs p (m+n) s=digs p (m+n) t:=by
  rw [<-List.take_append_drop m (digs p (m+n) s),<-List.take_append_drop m (digs p (m+n) t)]
  rw [<-hu,<-hv,<-hu,<-hv,eu,ev]
 have:=qj7 p0 _ _ _ ⋯ ⋯ this
 omega
theorem qjt:∀ (ts l:List Int),ts.Nodup->(∀ t∈ts,evI l t=0)->l.length<=ts.length->∀ k,co l k=0
 | [],l,_,_,h,k=>qay (by have:l.length=0:=by simpa using h
                         omega)
 | t::ts,l,nd,hr,hl,k=>by
   have nd':=List.nodup_cons.mp nd
   have e0:=hr t (waq ..)
   have sd:co (syn l t) ((syn l t).length - 1)=0:=by rw [qjZ];exact qq0 l t
   have cd:=qe0 sd
   have z:∀ k,co (syn l t) k=0:=λk=>by
    rw [<-cd k]
    refine qjt ts (syn l t).dropLast nd'.2 (λx hx=>?_) (by rw [List.length_dropLast,qjZ];simp at hl;omega) k
    rw [qhR _ _ x cd]
    have h1:=qpp l t x
    rw [hr x (wa5 _ hx),e0] at h1
    have ne:x - t≠0:=λq=>nd'.1 (by have:x=t:=by omega
                                   rw [<-this];exact hx)
    have h1:(x - t)*evI (syn l t) x=0:=by omega
    rcases wb2.mp h1 with q | q
    ·exact absurd q ne
    ·exact q
   rw [qmX l t k,z k]
   split
   ·rw [e0];omega
   ·rw [z (k - 1)];omega
theorem qpO (n:Nat):((List.range (2*n+1)).map λi:Nat=>(i:Int) - (n:Int)).Nodup:=by
 unfold List.Nodup
 rw [List.pairwise_map]
 exact (List.nodup_range (n:=2*n+1)).imp λh q=>h ⋯
theorem qnc (f:Int->Bool):∀ P:List Int,(P.filter f).length+(P.filter λx=>!f x).length=P.length
 | []=>rfl
 | x::P=>by
   have:=qnc f P
   rw [List.filter_cons,List.filter_cons,wbc]
   cases f x
   ·simp;omega
   ·simp;omega
theorem qrb {r:List Int} {n:Nat} (r0:∃ k,co r k≠0) (rl:r.length<=n):∃ x:Nat->Int,(∀ i,i<=n->evI r (x i)≠0/\(x i).natAbs<=n)/\∀ i j,i<=n->j<=n->i≠j->x i≠x j:=by
 let P:List Int:=(List.range (2*n+1)).map λi:Nat=>(i:Int) - (n:Int)
 have pl:P.length=2*n+1:=by show ((List.range (2*n+1)).map λi:Nat=>(i:Int) - (n:Int)).length=_;rw [waa,waw]
 have pn:P.Nodup:=qpO n
 have pr:∀ x∈P,x.natAbs<=n:=λx hx=>by
  obtain ⟨i,hi,rfl⟩:=wai.mp hx
  have:=wbp.mp hi
  omega
 have parts:(P.filter λx=>decide (evI r x=0)).length+(P.filter λx=>!decide (evI r x=0)).length=P.length:=by
  exact qnc _ P
 have few:(P.filter λx=>decide (evI r x=0)).length<r.length:=by
  rcases wan (P.filter λx=>decide (evI r x=0)).length r.length with c | c
  ·exact c
  ·exfalso
   obtain ⟨k,hk⟩:=r0
   exact hk (qjt _ r (pn.filter _) (λt ht=>by simpa using (List.mem_filter.mp ht).2) c k)
 let Gd:=P.filter λx=>!decide (evI r x=0)
 have gl:n+1<=Gd.length:=by
  show n+1<=(P.filter λx=>!decide (evI r x=0)).length
  omega
 have gn:Gd.Nodup:=pn.filter _
 refine ⟨λi=>Gd.getD i 0,λi hi=>?_,λi j hi hj hij e=>?_⟩
 ·have hlt:i<Gd.length:=by omega
  have e:Gd.getD i 0=Gd[i]:=by rw [wab,waf hlt];rfl
  show evI r (Gd.getD i 0)≠0/\(Gd.getD i 0).natAbs<=n
  rw [e]
  have m:=List.mem_filter.mp (wbf hlt)
  exact ⟨by simpa using m.2,pr _ m.1⟩
 ·have h1:i<Gd.length:=by omega
  have h2:j<Gd.length:=by omega
  have e:Gd.getD i 0=Gd.getD j 0:=e
  rw [wab,wab,waf h1,waf h2] at e
  have e:Gd[i]=Gd[j]:=e
  have pw:=List.pairwise_iff_getElem.mp gn
  rcases Nat.lt_or_gt_of_ne hij with q | q
  ·exact pw i j h1 h2 q e
  ·exact pw j i h2 h1 q e.symm
theorem qgl {b n c:Nat} {r g A:List Int} (hr:∀ z∈r,Bd b z) (r0:∃ k,co r k≠0) (rl:r.length<=n) (gl:g.length<=n) (hn:n<2 ^ c) (hA:∀ k,co r k=cvL A (co g) k):∀ k,Bd (b+n*(2*c+4)) (co g k):=by
 by_cases g0:g.length=0
 ·intro k;rw [qay ⋯];exact qeY _
 obtain ⟨x,hx,xi⟩:=qrb r0 rl
 have bx:∀ i,i<=n->Bd c (x i):=λi hi=>by
  show (x i).natAbs<2 ^ c
  have:=(hx i hi).2
  omega
 intro k
 have:=interp (c:=c) (g.length - 1) g (b+n*(c+1)) x (λk hk=>qay ⋯) (λi hi=>bx i ⋯) (λi j hi hj hij=>xi i j ⋯ ⋯ hij) (λi hi=>by
  have ne:=(hx i ⋯).1
  have e:=qqZ hA (x i)
  have bd:=qrX (bx i ⋯) r hr
  have le:(evI g (x i)).natAbs<=(evI r (x i)).natAbs:=by
   rw [e,wam]
   refine wcm _ ?_
   rcases wbj (evI A (x i)).natAbs with z | z
   ·exact absurd (by rw [e,Int.natAbs_eq_zero.mp z];omega) ne
   ·exact z
  refine (bd.le le).mono ?_
  have:=wbd (c+1) rl
  omega) k
 refine this.mono ?_
 have h1:(g.length - 1)*(c+3)<=n*(c+3):=wbd (c+3) ⋯
 have h2:n*(2*c+4)=n*(c+1)+n*(c+3):=by rw [<-Nat.mul_add];congr 1;omega
 omega
theorem qfX {a g:List Int} (la:Lz a) (lg:Lz g):cvL a (co g) (a.length - 1+(g.length - 1))=co a (a.length - 1)*co g (g.length - 1):=by
 obtain ⟨i,s,rfl⟩:∃ i s,a=i++[s]:=⟨a.dropLast,a.getLast (wbr.mp la.1),(wcr _).symm⟩
 have e:(i++[s]).length - 1=i.length:=by rw [wbq];simp
 have hs:co (i++[s]) i.length=s:=by
  unfold co
  rw [wab,List.getElem?_append_right (wac _),Nat.sub_self];rfl
 rw [e,hs,qbs,qbM (n:=g.length) (λi hi=>qay hi) i _ (by have:=lg.1;omega)]
 unfold upS
 rw [if_pos ⋯,show i.length+(g.length - 1) - i.length=g.length - 1 by omega]
 omega
theorem qpP {X ms:List Int} (lm:Lz ms) {T:Nat} (h:∀ k,T+(ms.length - 1)<=k->cvL X (co ms) k=0):(∀ j,T<=j->co X j=0)/\∀ s,T=s+1->cvL X (co ms) (s+(ms.length - 1))=co X s*co ms (ms.length - 1):=by
 rcases qiK X with z | ⟨Y,lY,_,eY⟩
 ·refine ⟨λj _=>z j,λs _=>?_⟩
  rw [qbm,qck ms z,z s];omega
 ·have hY:∀ k,cvL X (co ms) k=cvL Y (co ms) k:=λk=>by rw [qbm,qas (λj=>(eY j).symm) ms k,<-qbm]
  have tp:=qfX lY lm
  have ly:Y.length<=T:=by
   rcases wan T Y.length with c | c
   ·exfalso
    have:=h (Y.length - 1+(ms.length - 1)) ⋯
    rw [hY,tp] at this
    exact wak lY.2 lm.2 this
   ·exact c
  refine ⟨λj hj=>by rw [<-eY];exact qay ⋯,λs hs=>?_⟩
  rw [hY,<-eY]
  have y0:=lY.1
  rcases wan Y.length T with c | c
  ·rw [qay ⋯,qbM (n:=ms.length) (λi hi=>qay hi) Y _ (by have:=lm.1;omega)];omega
  ·rw [show s=Y.length - 1 by omega];exact tp
theorem qiB {m n:Nat} {x y:Int} (hx:Bd m x) (hy:Bd n y) (hm:m<=60000000:=by omega) (hn:n<=60000000:=by omega):IntMulOk x y:=qpI (hx.mono hm) (hy.mono hn)
theorem qs7 {ns:List Int} {m:Int} (ms:List Int) (hms:ms=(ns.filter (λz=>!decide (z=0))).map λz=>if z<0 then -z else z) (h:ms=[]/\m=0\/m∈ms) (d:Int):(∀ z∈ns,d∣z)->d∣m:=by
 intro hd
 rcases h with ⟨_,e⟩ | h
 ·rw [e];exact wbn d
 ·rw [hms] at h
  obtain ⟨z,hz,rfl⟩:=wai.mp h
  have:=hd z (List.mem_filter.mp hz).1
  show d∣if z<0 then -z else z
  split
  ·exact Int.dvd_neg.mpr this
  ·exact this
theorem qnO (h:qcQ K vs H Q E):qlb K { nx:=λ_ H'=>Q .non H',rt:=Q } (L2.start ["row","start","found","whole"] vs) H:=by
 obtain ⟨p,ns,st,rfl,hp,hl,k⟩:=h
 unfold qlb
 rwa []
 refine ⟨⟨_,SqL.of hp⟩,CompF.lst (xs:=ns.map V.int) (λi ys H'=>i<=ns.length/\H'=H/\ys=(((ns.take i).filter (λz=>!decide (z=0))).map λz=>if z<0 then -z else z).map V.int) ⟨wad _,rfl,rfl⟩ ?_ ?_ ?_⟩
 ·rintro i ys H' ⟨h1,rfl,rfl⟩
  refine ⟨by rw [waa];exact h1,sz ?_,SqL.of hp⟩
  rw [waa,waa]
  exact wap (List.length_filter_le _ _) (by rw [wa7];omega)
 ·rintro i x ys H' hi ⟨h1,rfl,rfl⟩
  rw [wae] at hi
  cases e:ns[i]? with
  | none=>rw [e] at hi;cases hi
  | some n=>
    rw [e] at hi
    obtain rfl:V.int n=x:=Option.some.inj hi
    have hi2:i<ns.length:=(wal.mp e).1
    have et:ns.take (i+1)=ns.take i++[n]:=by rw [wbl,e];rfl
    rwa []
    refine qbI (λc=>?_) (λc=>?_)
    ·refine ⟨⋯,?_⟩
     have c0:¬ n=0:=by simpa using c
     simp [et,List.filter_append,c0]
    ·refine ⟨⋯,?_⟩
     have c0:n=0:=by simpa using c
     simp [et,List.filter_append,c0]
 ·rintro ys H' ⟨_,rfl,rfl⟩ a ha
  rw [waa,wa8]
  have sa:=qag ha (.lst (((ns.filter (λz=>!decide (z=0))).map λz=>if z<0 then -z else z).map V.int))
  have hpa:=sa _ _ hp
  refine ⟨_,rfl,_,qah,λm hm=>?_⟩
  have hg:=qs7 _ rfl hm
  generalize hHa:upd H' a (.lst (((ns.filter (λz=>!decide (z=0))).map λz=>if z<0 then -z else z).map V.int))=Ha at sa hpa ⊢
  refine ⟨⟨_,SqL.of hpa⟩,ForL.by (xs:=ns.map V.int) (λi σ H2=>∃ (g:Int) (x:Option V),σ=[some (.ref p),some (.int st),some (.int g),x]/\H2=Ha/\0<=g/\g∣st/\(∀ z∈ns.take i,g∣z)/\(∀ d:Int,d∣st->(∀ z∈ns,d∣z)->d∣g)) ⟨_,none,rfl,rfl,⋯,wb5 m st,λz hz=>(by simp at hz),λd h1 h2=>Int.dvd_coe_gcd (hg d h2) h1⟩ ?_ ?_ ?_⟩
  ·rintro i σ H2 _ ⟨g,x,rfl,rfl,_⟩
   exact SqL.of hpa
  ·rintro i x σ H2 hi ⟨g,y,rfl,rfl,g0,g1,g2,g3⟩
   rw [wae] at hi
   cases e:ns[i]? with
   | none=>rw [e] at hi;cases hi
   | some n=>
     rw [e] at hi
     obtain rfl:V.int n=x:=Option.some.inj hi
     rwa []
     refine qbI (λc=>?_) (λc=>?_)
     ·have c1:g=1:=by simpa using c
      subst c1
      exact k 1 _ sa ∅ (Int.one_dvd _) (λz _=>Int.one_dvd z) g3
     ·refine ⟨⋯,war (wb5 n g) g1,λz hz=>?_,λd h1 h2=>Int.dvd_coe_gcd (h2 n (wat e)) (g3 d h1 h2)⟩
      rw [wbl,e] at hz
      rcases wa2.mp hz with z1 | z1
      ·exact war (wb5 n g) (g2 z z1)
      ·have z2:z=n:=by simpa using z1
       rw [z2];exact wcc n g
  ·rintro σ H2 ⟨g,x,rfl,rfl,g0,g1,g2,g3⟩
   rw [waa,wa8] at g2
   rwa []
   exact k g _ sa g0 g1 g2 g3
theorem qj8 (h:qbN K vs H Q E):qgC K { nx:=λ_ H'=>Q .non H',rt:=Q } (L2.start ["row","divisor"] vs) H:=by
 obtain ⟨p,ns,g,rfl,hp,g0,hl,q⟩:=h
 unfold qgC
 rwa []
 refine ⟨⟨_,SqL.of hp⟩,CompJ.lst (xs:=ns.map V.int) (λi ys H'=>i<=ns.length/\H'=H/\ys=((ns.map (·/ g)).take i).map V.int) ⟨wad _,rfl,rfl⟩ ?_ ?_ ?_⟩
 ·rintro i ys H' ⟨h1,rfl,rfl⟩
  refine ⟨by rw [waa];exact h1,sz ?_,SqL.of hp⟩
  rw [waa,wa7];omega
 ·rintro i x ys H' hi ⟨h1,rfl,rfl⟩
  rw [wae] at hi
  cases e:ns[i]? with
  | none=>rw [e] at hi;cases hi
  | some n=>
    rw [e] at hi
    obtain rfl:V.int n=x:=Option.some.inj hi
    have hi2:i<ns.length:=(wal.mp e).1
    have gp:0<g:=by
     rcases g0 with h | h
     ·exact h
     ·rw [h] at hi2;exact absurd hi2 (by simp)
    rwa []
    refine ⟨gp,⋯,?_⟩
    rw [qb5 V.int (q:=n / g) (by rw [wae,e];rfl)]
 ·rintro ys H' ⟨_,rfl,rfl⟩ a ha
  have e:(ns.map (·/ g)).take (ns.map V.int).length=ns.map (·/ g):=by rw [waa,show ns.length=(ns.map (·/ g)).length by rw [waa],wa8]
  rw [e]
  exact q a ha
theorem qr6 {ns:List Int} {k:Nat}:co ns k=ns.getD k 0:=rfl
theorem qj9 (ns:List Int):Tz (qej ns):=by
 have key:∀ m,m<=ns.length->qcI ns m=0\/co ns (qcI ns m - 1)≠0:=by
  intro m
  induction m with
  | zero=>intro _;exact .inl rfl
  | succ m ih=>
    intro hm
    rw [qc5]
    split
    ·exact ih ⋯
    ·rename_i z
     right
     rw [show m+1 - 1=m by omega,qr6]
     rw [wab,waf ⋯] at z ⊢
     exact z
 have hl:(qej ns).length=qcI ns ns.length:=qie
 rcases key ns.length (wac _) with h | h
 ·left
  exact way.mp (hl.trans h)
 ·right
  rw [hl]
  show (qej ns).getD _ 0≠0
  rw [qlj]
  exact h
theorem qka (ns:List Int) (k:Nat):co (qej ns) k=co ns k:=qlj k
theorem qfY (n:Nat) (F:Nat->Int):qbu n F=((List.range n).map F).map V.int:=rfl
theorem qvE (ns:List Int) (f:Int) (n:Nat) (h:ns.length<=n):List.map V.int (ns.map (f*·))++List.replicate (n - ns.length) (V.int 0)=qbu n λk=>f*co ns k:=by
 rw [qfY]
 apply List.ext_getElem?
 intro i
 by_cases h1:i<ns.length
 ·rw [List.getElem?_append_left (by rw [waa,waa];exact h1),wae,wae,wae,wae,wb1 ⋯,waf h1]
  show _=some (V.int (f*ns.getD i 0))
  rw [wab,waf h1]
  rfl
 ·rw [List.getElem?_append_right (by rw [waa,waa];omega),waa,waa,wae,wae]
  by_cases h2:i<n
  ·rw [wch,if_pos ⋯,wb1 h2]
   show _=some (V.int (f*co ns i))
   rw [qay ⋯,wb3]
  ·rw [wch,if_neg ⋯,wa0 (by rw [waw];omega)]
   rfl
theorem qmb (h:qby K vs H Q E):qjb K { nx:=λ_ H'=>Q .non H',rt:=Q } (L2.start ["row","factor","other","weight","shift","result","place","whole"] vs) H:=by
 obtain ⟨p,q,ns,ms,f,w,s,rfl,hp,hq,hl,hls,bf,bw,bn,bm,k⟩:=h
 unfold qjb
 rwa []
 refine ⟨⟨_,SqL.of hp⟩,CompJ.lst (xs:=ns.map V.int) (λi ys H'=>i<=ns.length/\H'=H/\ys=((ns.map (f*·)).take i).map V.int) ⟨wad _,rfl,rfl⟩ ?_ ?_ ?_⟩
 ·rintro i ys H' ⟨h1,rfl,rfl⟩
  refine ⟨by rw [waa];exact h1,sz ?_,SqL.of hp⟩
  rw [waa,wa7];omega
 ·rintro i x ys H' hi ⟨h1,rfl,rfl⟩
  rw [wae] at hi
  cases e:ns[i]? with
  | none=>rw [e] at hi;cases hi
  | some n=>
    rw [e] at hi
    obtain rfl:V.int n=x:=Option.some.inj hi
    have hi2:i<ns.length:=(wal.mp e).1
    rwa []
    refine ⟨qiB bf (bn n (wat e)),⋯,?_⟩
    rw [qb5 V.int (q:=f*n) (by rw [wae,e];rfl)]
 ·rintro ys H' ⟨_,rfl,rfl⟩ a ha
  have e:(ns.map (f*·)).take (ns.map V.int).length=ns.map (f*·):=by rw [waa,show ns.length=(ns.map (f*·)).length by rw [waa],wa8]
  rw [e]
  generalize hL:max ns.length (s+ms.length)=L
  have sa:=qag ha (.lst (List.map V.int (ns.map (f*·))))
  have hpa:=sa _ _ hp
  have hqa:=sa _ _ hq
  rwa [hpa,hqa]
  refine ⟨qcB qah,sz ∅,λb hb=>?_⟩
  have sb:=qag hb (.lst [.int 0])
  refine ⟨_,sb _ _ hqa,_,sb _ _ hpa,?_⟩
  have e0:(((ms.map V.int).length:Int)+(s:Int) - ((ns.map V.int).length:Int))=(ms.length:Int)+(s:Int) - (ns.length:Int):=by rw [waa,waa]
  rw [e0]
  have ek:((ms.length:Int)+(s:Int) - (ns.length:Int)).toNat=L - ns.length:=by omega
  refine ⟨⋯,⋯,sz (by rw [ek];simp;omega),λc hc=>?_⟩
  rw [ek,qdQ]
  have sc:=qag hc (.lst (List.replicate (L - ns.length) (V.int 0)))
  have haa:upd H' a (.lst (List.map V.int (ns.map (f*·)))) a=some (HO.lst (List.map V.int (ns.map (f*·)))):=qah
  have hac:=sc _ _ (sb _ _ haa)
  refine ⟨_,hac,sz (by simp;omega),?_⟩
  rw [qvE ns f L ⋯]
  generalize hX:upd (upd (upd H' a (.lst (List.map V.int (ns.map (f*·))))) b (.lst [.int 0])) c (.lst (List.replicate (L - ns.length) (V.int 0)))=Hx at hac ⊢
  have sx:Same H' Hx:=λx o h=>by rw [<-hX];exact sc x o (sb x o (sa x o h))
  have sd:Same H' (upd Hx a (.lst (qbu L λk=>f*co ns k))):=λx o h=>Kp.upd x o (qaq h ha) (sx x o h)
  have had:(upd Hx a (.lst (qbu L λk=>f*co ns k))) a=_:=qah
  generalize upd Hx a (.lst (qbu L λk=>f*co ns k))=Hd at sd had ⊢
  refine ⟨⟨_,SqL.of (sd _ _ hq)⟩,ForJ.enumL (xs:=ms.map V.int) (λj σ H2=>∃ x y:Option V,σ=[some (.ref p),some (.int f),some (.ref q),some (.int w),some (.int (s:Int)),some (.ref a),x,y]/\Same H' H2/\H2 a=some (.lst (qbu L λk=>f*co ns k - (if s<=k/\k - s<j then w*co ms (k - s) else 0)))) ⟨none,none,rfl,sd,?_⟩ ?_ ?_ ?_⟩
  ·rw [had]
   exact congrArg (λl=>some (HO.lst l)) (qbQ λk _=>by rw [if_neg ⋯];omega)
  ·rintro j σ H2 _ ⟨_,_,_,s2,_⟩
   exact SqL.of (s2 _ _ hq)
  ·rintro j y pq σ H2 hj ⟨y3,y4,rfl,s2,hw2⟩ hpq
   rw [wae] at hj
   cases em:ms[j]? with
   | none=>rw [em] at hj;cases hj
   | some u=>
     rw [em] at hj
     obtain rfl:V.int u=y:=Option.some.inj hj
     have jl:j<ms.length:=(wal.mp em).1
     have ud:co ms j=u:=by rw [qr6,wab,em];rfl
     have sq:=qag hpq (.tup [.int (j:Int),.int u])
     have hw3:=sq _ _ hw2
     rwa [hw3]
     have kl:s+j<L:=by omega
     refine ⟨_,qcH ⋯ (qaW _ kl),qiB bw (bm u (wat em)),_,rfl,s+j,?_,λb o h=>Kp.upd b o (qaq h ha) (sq b o (s2 b o h)),?_⟩
     ·rw [qaV];exact qgL ⋯ kl
     ·refine qdm kl ?_ λk _ hk=>?_
      ·rw [if_pos ⋯,if_neg ⋯,show s+j - s=j by omega,ud];omega
      ·by_cases h:s<=k/\k - s<j
       ·rw [if_pos h,if_pos ⋯]
       ·rw [if_neg h,if_neg ⋯]
  ·rintro σ H2 ⟨y3,y4,rfl,s2,hw2⟩
   rw [waa,qfY] at hw2
   rwa [hw2]
   refine ⟨_,rfl,λr hr=>k r _ _ (s2.trans (qag hr _)) qah (qj9 _) λi=>?_⟩
   rw [qka,qfp]
   unfold upS
   by_cases hi:i<L
   ·rw [if_pos hi]
    by_cases h:s<=i
    ·rw [if_pos h]
     by_cases h2:i - s<ms.length
     ·rw [if_pos ⟨h,h2⟩]
     ·rw [if_neg ⋯,qay (a:=ms) ⋯];omega
    ·rw [if_neg h,if_neg ⋯];omega
   ·rw [if_neg hi,qay (a:=ns) ⋯]
    by_cases h:s<=i
    ·rw [if_pos h,qay (a:=ms) ⋯];omega
    ·rw [if_neg h];omega
theorem qs8 (a b:Int):(a.fdiv b).natAbs<=a.natAbs:=by
 rw [Int.fdiv_eq_ediv]
 split
 ·rw [Int.sub_zero];exact Int.natAbs_ediv_le_natAbs a b
 ·rename_i h
  have hb:b<0:=by omega
  have hd:¬ b∣a:=λz=>h (.inr z)
  have e:=Int.mul_ediv_add_emod a b
  have r0:=wav a (show b≠0 by omega)
  have r1:=Int.emod_lt_of_neg a hb
  have rn:a % b≠0:=λz=>hd (wcj z)
  generalize a / b=q at *
  generalize a % b=r at *
  rcases Int.lt_or_le q 1 with hq | hq
  ·have h1:(-b)*(-q) ≥ 2*(-q):=Int.mul_le_mul_of_nonneg_right ⋯ ⋯
   rw [Int.neg_mul_neg] at h1
   omega
  ·have h1:(-b)*(q - 1) ≥ 1*(q - 1):=Int.mul_le_mul_of_nonneg_right ⋯ ⋯
   rw [Int.neg_mul,wbs] at h1
   omega
theorem qnd {n m:Nat} {F:Nat->Int}:qhw (qbu n F) none (some (m:Int))=((List.range (min m n)).map F).map V.int:=by
 unfold qhw HT.sIx
 simp only [List.drop_zero,Nat.sub_zero,wby]
 rw [if_neg ⋯,qaV]
 unfold qbu
 rw [<-List.map_take,<-List.map_take,List.take_range]
 congr 3
 omega
theorem qrc {n:Nat} {F:Nat->Int} (h:((List.range n).map F).any (λz=>!decide (z=0))=false):∀ k,k<n->F k=0:=by
 intro k hk
 have:=List.any_eq_false.mp h (F k) (wai.mpr ⟨k,wbp.mpr hk,rfl⟩)
 simpa using this
theorem qpQ {n s:Nat} {F:Nat->Int} {w:Int} (hs:s<n) (h0:F s=0) (g:Nat->Int) (k:Nat) :
  cvL ((List.range n).map λj=>if j=s then w else F j) g k=cvL ((List.range n).map F) g k+w*upS s g k:=by
 have e:∀ m,m<=n->cvL ((List.range m).map λj=>if j=s then w else F j) g k=cvL ((List.range m).map F) g k+(if s<m then w*upS s g k else 0):=by
  intro m
  induction m with
  | zero=>intro _;rw [if_neg ⋯];rfl
  | succ m ih=>
    intro hm
    rw [List.range_succ,wbo,wbo,List.map_singleton,List.map_singleton,qbs,qbs,ih ⋯,waa,waa,waw]
    by_cases e:m=s
    ·subst e
     rw [if_pos rfl,if_neg ⋯,if_pos ⋯,h0]
     omega
    ·rw [if_neg e]
     by_cases h:s<m
     ·rw [if_pos h,if_pos ⋯];omega
     ·rw [if_neg h,if_neg ⋯];omega
 rw [e n (wac n),if_pos hs]
theorem qbA {b:Nat} {ns:List Int} (h:∀ z∈ns,Bd b z) (k:Nat):Bd b (co ns k):=qeX h k
theorem qhj {n:Nat} {g:Nat->Int} (k:Nat):cvL ((List.range n).map λ_=>(0:Int)) g k=0:=by
 have e:((List.range n).map λ_=>(0:Int))=(List.replicate n (1:Int)).map (0*·):=by
  apply List.ext_getElem?
  intro i
  rw [wae,wae]
  by_cases h:i<n
  ·rw [wb1 h,wch,if_pos h];rfl
  ·rw [wa0 (by rw [waw];omega),wch,if_neg h];rfl
 rw [e,qau];omega
theorem quN (ns:List Int):List.map V.int ns=qbu ns.length (co ns):=by
 rw [qfY]
 congr 1
 apply List.ext_getElem?
 intro i
 rw [wae]
 by_cases h:i<ns.length
 ·rw [wb1 h,waf h]
  show _=some (ns.getD i 0)
  rw [wab,waf h];rfl
 ·rw [wa0 ⋯,wa0 (by rw [waw];omega)];rfl
theorem qcy {ms:List Int} (h:0<ms.length):atI (ms.map V.int) (-1)=some (V.int (co ms (ms.length - 1))):=by
 refine atI_last (by rw [waa];omega) ?_
 rw [waa,wae,waf ⋯]
 show _=some (V.int (ms.getD (ms.length - 1) 0))
 rw [wab,waf ⋯];rfl
theorem qmc (h:qbz K vs H Q E):qja K { nx:=λ_ H'=>Q .non H',rt:=Q } (L2.start ["row","divisor","rest","last","quotient","shift","weight","place"] vs) H:=by
 obtain ⟨p,q,ns,ms,b,d,rfl,hp,hq,lm,bn,bm,bb,bd1,hn,hm,kN,kR⟩:=h
 have m0:=lm.1
 have lne:=lm.2
 obtain ⟨L,hL⟩:∃ L,ms.length=L+1:=⟨ms.length - 1,⋯⟩
 have hL1:ms.length - 1=L:=by omega
 rw [hL1] at lne
 generalize hlead:co ms L=lead at lne
 have aL:=qcy m0
 rw [hL1,hlead] at aL
 generalize hc:ns.length - L=c
 unfold qja
 rwa [hp]
 refine λa ha=>?_
 have sa:=qag ha (.lst (ns.map V.int))
 unfold qgG
 have hpa:=sa _ _ hp
 have hqa:=sa _ _ hq
 rwa [hqa]
 unfold qgF
 rwa []
 refine ⟨sz ∅,λx hx=>?_⟩
 have sx:=qag hx (.lst [.int 0])
 have hpx:=sx _ _ hpa
 rwa [hpx]
 have hmax:(if (0:Int) > ((List.map V.int ns).length:Int) - (((List.map V.int ms).length:Int) - 1) then (0:Int) else ((List.map V.int ns).length:Int) - (((List.map V.int ms).length:Int) - 1))=(c:Int):=by
  rw [waa,waa];split <;> omega
 rw [hmax]
 refine ⟨⋯,⋯,sz (by simp;omega),λy hy=>?_⟩
 rw [wby,qdQ]
 have sy:=qag hy (.lst (List.replicate c (V.int 0)))
 have sA:Same (upd H a (.lst (ns.map V.int))) (upd (upd (upd H a (.lst (ns.map V.int))) x (.lst [.int 0])) y (.lst (List.replicate c (V.int 0)))):=λz o h=>sy z o (sx z o h)
 have hay:=sA _ _ (show upd H a (.lst (ns.map V.int)) a=_ from qah)
 have hyy:(upd (upd (upd H a (.lst (ns.map V.int))) x (.lst [.int 0])) y (.lst (List.replicate c (V.int 0)))) y=_:=qah
 have sH:Same H (upd (upd (upd H a (.lst (ns.map V.int))) x (.lst [.int 0])) y (.lst (List.replicate c (V.int 0)))):=λz o h=>sA z o (sa z o h)
 have nay:a≠y:=qaq (sx _ _ (show upd H a (.lst (ns.map V.int)) a=_ from qah)) hy
 have nyH:H y=none:=by
  cases e:H y with
  | none=>rfl
  | some o=>have:=sx _ _ (sa _ _ e);rw [hy] at this;cases this
 generalize (upd (upd (upd H a (.lst (ns.map V.int))) x (.lst [.int 0])) y (.lst (List.replicate c (V.int 0))))=H1 at hay hyy sH ⊢
 rw [quN ns] at hay
 have e0:List.replicate c (V.int 0)=qbu c λ_=>0:=by rw [<-qdQ,qhi]
 rw [e0] at hyy
 unfold qgE
 have hp1:=sH _ _ hp
 rwa [hp1]
 refine ⟨by rw [waa,waa];omega,?_⟩
 have elo:((List.map V.int ns).length:Int) - (((List.map V.int ms).length:Int) - 1) - 1=(ns.length:Int) - (L:Int) - 1:=by rw [waa,waa];omega
 have ela:((List.map V.int ms).length:Int) - 1=(L:Int):=by rw [waa];omega
 rw [elo,ela]
 have ecn:((ns.length:Int) - (L:Int) - 1 - -1).toNat=c:=by omega
 rw [ecn]
 refine ⟨⋯,∅,∅,?_⟩
 let Iv:Nat->L2.St->Hp->Prop:=λi σ H2=>i<=c/\∃ (F G:Nat->Int) (u v w:Option V),σ=[some (.ref p),some (.ref q),some (.ref a),some (.int (L:Int)),some (.ref y),u,v,w]/\Same H H2/\H2 a=some (.lst (qbu ns.length F))/\H2 y=some (.lst (qbu c G))/\
  (∀ j,j<c - i->G j=0)/\(∀ k,k<ns.length - i->F k=co ns k - cvL ((List.range c).map G) (co ms) k)/\(∀ k,ns.length - i<=k->co ns k=cvL ((List.range c).map G) (co ms) k)/\(∀ k,k<ns.length->Bd (b+i*(d+1)) (F k))
 refine ForJ.down Iv ⟨wad _,co ns,λ_=>0,none,none,none,rfl,sH,hay,hyy,λ_ _=>rfl,λk _=>by rw [qhj];omega,λk hk=>by rw [qhj,qay ⋯],λk _=>(qbA bn k).mono ⋯⟩ ?_ ?_
 ·rintro i σ H2 hi ⟨_,F,G,u,v,w,rfl,s2,ha2,hy2,hG,hF,hF2,bF⟩
  have hq2:=s2 _ _ hq
  have ic:i<c:=hi
  have esh:((ns.length:Int) - (L:Int) - 1 - (i:Int))=((c - 1 - i:Nat):Int):=by omega
  rw [esh]
  generalize hs:c - 1 - i=s
  have hst:s+L=ns.length - 1 - i:=by omega
  have aT:atI (qbu ns.length F) ((s:Int)+(L:Int))=some (V.int (F (s+L))):=qcH (j:=s+L) ⋯ (qaW F ⋯)
  unfold qen
  rwa [ha2,hq2,aL,aT]
  refine ⟨lne,?_⟩
  generalize hw:(F (s+L)).fdiv lead=wt
  have bFt:=bF (s+L) ⋯
  have bwt:Bd (b+i*(d+1)) wt:=bFt.le (by rw [<-hw];exact qs8 _ _)
  have bi:b+i*(d+1)<=60000000:=by
   have:=wbd (d+1) (show i<=ns.length by omega)
   omega
  have bi1:b+(i+1)*(d+1)<=60000000:=by
   have:=wbd (d+1) (show i+1<=ns.length by omega)
   omega
  have bld:Bd d lead:=by rw [<-hlead];exact qbA bm L
  unfold qem
  rwa [ha2,hq2,aL,aT]
  refine ⟨qiB bwt bld,?_⟩
  refine qbI (λce=>?_) (λce=>?_)
  ·refine kN (λ⟨A,hA⟩=>?_) _ s2
   have ce':wt*lead≠F (s+L):=by simpa using ce
   have hX:∀ k,cvL (qaN A (((List.range c).map G).map ((-1)*·))) (co ms) k=co ns k - cvL ((List.range c).map G) (co ms) k:=λk=>by rw [qaw,qau,<-hA];omega
   have q:=(qpP lm (X:=qaN A (((List.range c).map G).map ((-1)*·))) (T:=s+1) (λk hk=>by rw [hX,hF2 k ⋯];omega)).2 s rfl
   rw [hX,hL1,hlead,<-hF (s+L) ⋯] at q
   exact ce' (by rw [<-hw,q,Int.mul_fdiv_cancel _ lne])
  have ex:wt*lead=F (s+L):=by simpa using ce
  unfold qel
  rwa [hy2]
  refine ⟨s,by rw [qaV];exact qgL rfl ⋯,?_⟩
  have hG':(qbu c G).set s (V.int wt)=qbu c (λj=>if j=s then wt else G j):=qdm ⋯ (if_pos rfl) λj _ hj=>if_neg hj
  rw [hG']
  have s3:Same H (upd H2 y (.lst (qbu c λj=>if j=s then wt else G j))):=λz o h=>Kp.upd z o (qaq h nyH) (s2 z o h)
  have ha3:(upd H2 y (.lst (qbu c λj=>if j=s then wt else G j))) a=_:=(qaC nay).trans ha2
  have hy3:(upd H2 y (.lst (qbu c λj=>if j=s then wt else G j))) y=_:=qah
  generalize (upd H2 y (.lst (qbu c λj=>if j=s then wt else G j)))=H3 at s3 ha3 hy3 ⊢
  have cvE:∀ k,cvL ((List.range c).map λj=>if j=s then wt else G j) (co ms) k=cvL ((List.range c).map G) (co ms) k+wt*upS s (co ms) k:=λk=>qpQ ⋯ (hG s ⋯) _ k
  have fin:∀ (F':Nat->Int) (u v w:Option V) (H4:Hp),Same H H4->H4 a=some (.lst (qbu ns.length F'))->H4 y=some (.lst (qbu c λj=>if j=s then wt else G j))->(∀ k,k<ns.length->F' k=F k - (if s<=k/\k - s<L then wt*co ms (k - s) else 0))->
    Iv (i+1) [some (.ref p),some (.ref q),some (.ref a),some (.int (L:Int)),some (.ref y),u,v,w] H4:=λF' u v w H4 s4 ha4 hy4 eF=>by
   refine ⟨⋯,F',_,u,v,w,rfl,s4,ha4,hy4,λj hj=>?_,λk hk=>?_,λk hk=>?_,λk hk=>?_⟩
   ·show (if j=s then wt else G j)=0
    rw [if_neg ⋯];exact hG j ⋯
   ·rw [eF k ⋯,cvE,hF k ⋯]
    unfold upS
    by_cases h:s<=k
    ·rw [if_pos h,if_pos ⟨h,⋯⟩];omega
    ·rw [if_neg h,if_neg ⋯];omega
   ·rw [cvE]
    by_cases ek:k=s+L
    ·have hf:=hF k ⋯
     rw [ek] at hf ⊢
     unfold upS
     rw [if_pos ⋯,show s+L - s=L by omega,hlead,ex];omega
    ·have h2:=hF2 k ⋯
     rw [h2]
     unfold upS
     by_cases h:s<=k
     ·rw [if_pos h,qay (a:=ms) ⋯];omega
     ·rw [if_neg h];omega
   ·rw [eF k hk]
    have e2:b+(i+1)*(d+1)=b+i*(d+1)+d+1:=by rw [Nat.add_mul];omega
    rw [e2]
    refine Bd.sub ((bF k hk).mono ⋯) ?_
    split
    ·exact bwt.mul (qbA bm _)
    ·exact qeY _
  unfold qek
  rwa []
  refine qbI (λcw=>?_) (λcw=>?_)
  ·refine ⟨⋯,⋯,?_⟩
   rw [wby]
   refine ForR.by (λj σ H4=>∃ (u:Option V),σ=[some (.ref p),some (.ref q),some (.ref a),some (.int (L:Int)),some (.ref y),some (.int (s:Int)),some (.int wt),u]/\Same H H4/\H4 a=some (.lst (qbu ns.length λk=>F k - (if s<=k/\k - s<j then wt*co ms (k - s) else 0)))/\H4 y=some (.lst (qbu c λj=>if j=s then wt else G j))) ⟨w,rfl,s3,?_,hy3⟩ ?_ ?_
   ·rw [ha3]
    exact congrArg (λl=>some (HO.lst l)) (qbQ λk _=>by rw [if_neg ⋯];omega)
   ·rintro j σ H4 hj ⟨u',rfl,s4,ha4,hy4⟩
    have hq4:=s4 _ _ hq
    have aj:atI (ms.map V.int) (0+(j:Int))=some (V.int (co ms j)):=qcH (j:=j) ⋯ (by rw [quN];exact qaW _ ⋯)
    rwa [ha4,hq4,aj]
    refine ⟨_,qcH (j:=s+j) ⋯ (qaW _ ⋯),qiB bwt (qbA bm j),_,rfl,s+j,by rw [qaV];exact qgL ⋯ ⋯,?_,?_,?_⟩
    ·intro z o h
     exact Kp.upd z o (qaq h ha) (s4 z o h)
    ·refine qdm ⋯ ?_ λk _ hk=>?_
     ·rw [if_pos ⋯,if_neg ⋯,show s+j - s=j by omega];omega
     ·by_cases h:s<=k/\k - s<j
      ·rw [if_pos h,if_pos ⋯]
      ·rw [if_neg h,if_neg ⋯]
    ·rw [qaC (Ne.symm nay)];exact hy4
   ·rintro σ H4 ⟨u',rfl,s4,ha4,hy4⟩
    exact fin _ _ _ _ _ s4 ha4 hy4 λk _=>rfl
  ·have w0:wt=0:=by simpa using cw
   exact fin F _ _ _ _ s3 ha3 hy3 λk _=>by rw [w0];split <;> omega
 ·rintro σ H2 ⟨_,F,G,u,v,w,rfl,s2,ha2,hy2,hG,hF,hF2,bF⟩
  unfold qgD
  rwa [ha2]
  refine λz hz=>?_
  rw [qnd]
  have sz2:=qag hz (.lst (((List.range (min L ns.length)).map F).map V.int))
  refine ⟨_,rfl,qbI (λce=>?_) (λce=>?_)⟩
  ·refine kN (λ⟨A,hA⟩=>?_) _ (s2.trans sz2)
   have hX:∀ k,cvL (qaN A (((List.range c).map G).map ((-1)*·))) (co ms) k=co ns k - cvL ((List.range c).map G) (co ms) k:=λk=>by rw [qaw,qau,<-hA];omega
   have q:=(qpP lm (X:=qaN A (((List.range c).map G).map ((-1)*·))) (T:=0) (λk hk=>by rw [hX,hF2 k ⋯];omega)).1
   have ce':((List.range (min L ns.length)).map F).any (λz=>!decide (z=0))=true:=by simpa using ce
   obtain ⟨z,hz',hz0⟩:=List.any_eq_true.mp ce'
   obtain ⟨k,hk,rfl⟩:=wai.mp hz'
   have hk:=wbp.mp hk
   have e:=hX k
   rw [qbm,qck ms (λj=>q j (wad j)),<-hF k ⋯] at e
   rw [<-e] at hz0
   simp at hz0
  ·have ce':((List.range (min L ns.length)).map F).any (λz=>!decide (z=0))=false:=by simpa using ce
   have hy3:=sz2 _ _ hy2
   rw [qfY] at hy3
   refine kR y _ _ (s2.trans sz2) hy3 (by rw [waa,waw];omega) λk=>?_
   by_cases hk:ns.length - c<=k
   ·exact hF2 k hk
   ·have:=hF k ⋯
    rw [qrc ce' k ⋯] at this
    omega
theorem qnf {K:W.Frag} {a:Addr} {capt:List (Option Nat)} {te:TE} {σ:L2.St} {Q:VK} {H:Hp} {ns:List Int} (F:Int->Int) (hp:H a=some (.lst (ns.map V.int))) (hl:ns.length<=1000)
  (hs:∀ n,n∈ns->∀ P:VK,P (.int (F n)) H->te ((qcK capt σ).set 0 (some (.int n))) H P) (hd:∀ p,H p=none->Q (.ref p) (upd H p (.lst ((ns.map F).map V.int)))):CompJ (Itl K a) capt (qak 0) te σ Q H:=by
 refine CompJ.lst (xs:=ns.map V.int) (λi ys H'=>i<=ns.length/\H'=H/\ys=((ns.map F).take i).map V.int) ⟨wad _,rfl,rfl⟩ ?_ ?_ ?_
 ·rintro i ys H' ⟨h1,rfl,rfl⟩
  refine ⟨by rw [waa];exact h1,sz ?_,SqL.of hp⟩
  rw [waa,wa7];omega
 ·rintro i x ys H' hi ⟨h1,rfl,rfl⟩
  rw [wae] at hi
  cases e:ns[i]? with
  | none=>rw [e] at hi;cases hi
  | some n=>
    rw [e] at hi
    obtain rfl:V.int n=x:=Option.some.inj hi
    have hi2:i<ns.length:=(wal.mp e).1
    show te ((qcK capt σ).set 0 (some (.int n))) H' _
    refine hs n (wat e) _ ⟨⋯,rfl,?_⟩
    rw [qb5 V.int (q:=F n) (by rw [wae,e];rfl)]
 ·rintro ys H' ⟨_,rfl,rfl⟩ p hpn
  have e:(ns.map F).take (ns.map V.int).length=ns.map F:=by rw [waa,show ns.length=(ns.map F).length by rw [waa],wa8]
  rw [e]
  exact hd p hpn
theorem qig (h:qbd K vs H Q E):qeK K { nx:=λ_ H'=>Q .non H',rt:=Q } (L2.start ["row","prime"] vs) H:=by
 obtain ⟨p,ns,m,rfl,hp,m0,hl,q⟩:=h
 unfold qeK
 rwa []
 refine ⟨⟨_,SqL.of hp⟩,qnf (·% m) hp hl (λn _ P hP=>?_) q⟩
 rwa []
 exact ⟨m0,hP⟩
theorem qng {F:Int->Int} (h0:F 0=0) (ns:List Int) (k:Nat):co (ns.map F) k=F (co ns k):=by
 unfold co
 rw [wab,wab,wae]
 cases ns[k]? with
 | none=>exact h0.symm
 | some z=>rfl
theorem qlm {ns:List Int} {z:Int} (h:z∈qej ns):z∈ns:=wcg h
theorem qrd (ns:List Int):(qej ns).length<=ns.length:=by rw [qie];exact qid _ _
theorem qbj (a m:Int):m∣a % m - a:=⟨-(a / m),by have:=wcf a m;rw [Int.mul_neg];omega⟩
theorem qkb (h:qaT K vs H Q E):qgH K { nx:=λ_ H'=>Q .non H',rt:=Q } (L2.start ["row","prime"] vs) H:=by
 obtain ⟨p,ns,m,rfl,hp,m0,hl,q⟩:=h
 unfold qgH
 rwa [hp]
 refine ⟨_,rfl,m0,hl,λr hr=>?_⟩
 refine ⟨_,rfl,λt ht=>?_⟩
 refine q t _ _ ((qag hr _).trans (qag ht _)) qah (qj9 _) (wap (qrd _) (by rw [waa];exact wac _)) ⟨λz hz=>?_,λk=>?_⟩
 ·obtain ⟨y,_,rfl⟩:=wai.mp (qlm hz)
  exact ⟨wav _ ⋯,waz _ m0⟩
 ·rw [qka,qng (Int.zero_emod m)]
  exact qbj _ _
theorem qgm (h:qa1 K vs H Q E):qdY K { nx:=λ_ H'=>Q .non H',rt:=Q } (L2.start ["whole","prime","one","other","one_weight","other_weight","quotient","rest"] vs) H:=by
 obtain ⟨a,p,rfl,p2,bp,q⟩:=h
 unfold qdY qdh qdg qdf qde
 rwa []
 refine ⟨⋯,?_⟩
 have a0:=wav a (show p≠0 by omega)
 have a1:=waz a (show 0<p by omega)
 refine while_by (λn σ H'=>∃ (x y s t:Int) (u v:Option V),σ=[some (.int a),some (.int p),some (.int x),some (.int y),some (.int s),some (.int t),u,v]/\H'=H/\n=y.toNat/\0<=y/\y<x/\x<=p/\
  Int.gcd x y=Int.gcd a p/\p∣x - s*a/\p∣y - t*a/\(t.natAbs:Int)*x+(s.natAbs:Int)*y<=p/\(s.natAbs:Int)<=p) (a % p).toNat ⟨p,a % p,0,1,none,none,rfl,rfl,rfl,a0,a1,Int.le_refl _,?_,⟨1,⋯⟩,?_,by simp,by simp;omega⟩ ?_
 ·rw [qjP a ⋯]
 ·rw [show a % p - 1*a=a % p - a by omega]
  exact qbj a p
 ·rintro n σ H' ⟨x,y,s,t,u,v,rfl,rfl,rfl,y0,yx,xp,hg,hs,ht,hb,hsp⟩
  have tx:(t.natAbs:Int)*1<=(t.natAbs:Int)*x:=wbw ⋯ ⋯
  have sy:0<=(s.natAbs:Int)*y:=Int.mul_nonneg ⋯ y0
  have tp:(t.natAbs:Int)<=p:=by omega
  rwa []
  refine qbI (λc=>?_) (λc=>?_)
  ·have yp:0<y:=by
    have:y≠0:=by simpa using c
    omega
   unfold qcs qcr qcq qcp qco qcn qcm
   have q0:=Int.ediv_nonneg (show 0<=x by omega) y0
   have q1:x / y<=x:=Int.ediv_le_self y ⋯
   have r0:=wav x (show y≠0 by omega)
   have r1:=waz x yp
   have er:x - x / y*y=x % y:=by have:=wcf x y;rw [wbh] at this;omega
   have B:∀ {z:Int},z.natAbs<=p.natAbs->Bd 60000000 z:=λh=>(bp.le h).mono ∅
   refine ⟨λσ' H''=>∃ m',m'<y.toNat/\_,λ_ _ h=>h,?_⟩
   rwa []
   refine ⟨yp,qiB (B ⋯) (B ⋯),qiB (B ⋯) (B ⋯),?_⟩
   refine ⟨(x - x / y*y).toNat,⋯,rfl,⋯,⋯,⋯,?_,ht,?_,?_,tp⟩
   ·rw [er,qjP x y0];exact hg
   ·obtain ⟨α,hα⟩:=hs
    obtain ⟨β,hβ⟩:=ht
    exact ⟨α - x / y*β,by
     generalize x / y=qq at *
     have e1:x=s*a+p*α:=by omega
     have e2:y=t*a+p*β:=by omega
     rw [e1,e2];grind⟩
   ·have n1:((s - x / y*t).natAbs:Int)<=(s.natAbs:Int)+x / y*(t.natAbs:Int):=by
     have h1:=Int.natAbs_sub_le s (x / y*t)
     rw [wam] at h1
     have h2:((x / y).natAbs:Int)=x / y:=by omega
     have h3:(((x / y).natAbs*t.natAbs:Nat):Int)=x / y*(t.natAbs:Int):=by rw [Int.natCast_mul,h2]
     omega
    have n2:=Int.mul_le_mul_of_nonneg_right n1 y0
    rw [er]
    have n3:(t.natAbs:Int)*(x % y)=(t.natAbs:Int)*x - (t.natAbs:Int)*(x / y*y):=by rw [<-er,wbs]
    rw [n3]
    generalize (t.natAbs:Int)=tt at *
    generalize (s.natAbs:Int)=ss at *
    generalize x / y=qq at *
    have n4:(ss+qq*tt)*y=ss*y+tt*(qq*y):=by grind
    omega
  ·have yz:y=0:=by simpa using c
   unfold qdd
   rwa []
   refine ⟨⋯,q _ (wav _ ⋯) (waz _ ⋯) λhc=>?_⟩
   have x1:x=1:=by
    rw [yz] at hg
    rw [Int.gcd_zero_right,hc] at hg
    omega
   obtain ⟨α,hα⟩:=hs
   obtain ⟨γ,hγ⟩:=qbj s p
   refine ⟨γ*a - α,?_⟩
   have e1:s % p=s+p*γ:=by omega
   rw [e1]
   have e2:s*a=1 - p*α:=by omega
   grind
theorem mbd {p:Nat} {ns:List Int} (bp:Bd 45000 (p:Int)) (h:∀ z∈ns,0<=z/\z<(p:Int)):∀ z∈ns,Bd 60000000 z:=λz hz=>(bp.le (by have:=h z hz;omega)).mono ∅
theorem mcop {p:Nat} {ns:List Int} (pp:Pr p) (tz:Tz ns) (h:∀ z∈ns,0<=z/\z<(p:Int)) (hn:ns≠[]):Int.gcd (co ns (ns.length - 1)) (p:Int)=1:=by
 have l0:0<ns.length:=wbr.mpr hn
 have lne:co ns (ns.length - 1)≠0:=tz.resolve_left hn
 have lz:0<=co ns (ns.length - 1)/\co ns (ns.length - 1)<(p:Int):=h _ (by
  unfold co
  rw [wab,waf ⋯]
  exact wbf _)
 exact pp.cop λz=>by
  have:=wbx ⋯ z
  omega
theorem qih (h:qaQ K vs H Q E):qeL K { nx:=λ_ H'=>Q .non H',rt:=Q } (L2.start ["row","prime","factor"] vs) H:=by
 obtain ⟨q,ns,p,rfl,hq,p2n,bp,hl,bz,gcd1,k⟩:=h
 have p2:(2:Int)<=(p:Int):=by omega
 unfold qeL
 rwa [hq]
 by_cases hn:ns=[]
 ·subst hn
  refine qbI (λ_=>?_) (λc=>absurd rfl c)
  refine ⟨sz ∅,λr hr=>k r [] 0 _ (qag hr _) qah rfl (λz=>absurd rfl z) ⟨λz hz=>(by cases hz),λi=>?_⟩⟩
  show (p:Int)∣co [] i - 0*co [] i
  rw [qay (wad _)];exact ⟨0,⋯⟩
 have l0:0<ns.length:=wbr.mpr hn
 refine qbI (λc=>absurd c (by simpa using hn)) (λ_=>?_)
 have aL:=qcy l0
 rwa [aL]
 refine ⟨p2,bp,λf f0 f1 hf=>?_⟩
 have gc:=gcd1 hn
 have hf:=hf gc
 have B:∀ {z:Int},0<=z->z<(p:Int)->Bd 60000000 z:=λh1 h2=>(bp.le ⋯).mono ∅
 refine ⟨⟨_,SqL.of hq⟩,qnf (λn=>n*f % (p:Int)) hq hl (λn hn P hP=>?_) λr hr=>?_⟩
 ·rwa []
  exact ⟨qiB (bz n hn) (B f0 f1),⋯,hP⟩
 ·have cm:∀ i,co (ns.map λn=>n*f % (p:Int)) i=co ns i*f % (p:Int):=λi=>qng (F:=λn=>n*f % (p:Int)) (by simp) ns i
  refine k r _ f _ (qag hr _) qah (waa ..) (λ_=>?_) ⟨λz hz=>?_,λi=>?_⟩
  ·rw [waa,cm]
   obtain ⟨c,hc⟩:=hf
   have e:co ns (ns.length - 1)*f=1+(p:Int)*c:=by rw [wbh];omega
   rw [e,Int.add_mul_emod_self_left]
   exact wca ∅ ⋯
  ·obtain ⟨y,_,rfl⟩:=wai.mp hz
   exact ⟨wav _ ⋯,waz _ ⋯⟩
  ·rw [cm]
   show (p:Int)∣co ns i*f % (p:Int) - f*co ns i
   rw [wbh f]
   exact qbj _ _
theorem qnP (h:qcb K vs H Q E):qlc K { nx:=λ_ H'=>Q .non H',rt:=Q } (L2.start ["whole","prime","rest"] vs) H:=by
 obtain ⟨w,p,rfl,p0,k⟩:=h
 unfold qlc
 rwa []
 have r0:=wav w (show p≠0 by omega)
 have r1:=waz w p0
 have rd:=qbj w p
 refine ⟨p0,IntMulOk.of_left (intBits_le_64 ⋯ ⋯),qbI (λc=>?_) (λc=>?_)⟩
 ·refine k _ ?_ ⋯
  obtain ⟨γ,hγ⟩:=rd
  exact ⟨γ - 1,by rw [wbs];omega⟩
 ·exact k _ rd ⋯
theorem qiP (h:qaR K vs H Q E):qfD K { nx:=λ_ H'=>Q .non H',rt:=Q } (L2.start ["row","divisor","modulus"] vs) H:=by
 obtain ⟨p,q,ns,ms,m,b,rfl,hp,hq,m0,ml,mp,bm,bms,bb,hn,hm,k⟩:=h
 unfold qfD
 rwa [hp,hq]
 refine ⟨ns,rfl,ms,rfl,m0,ml,mp,b,bm,bms,bb,hn,hm,λt r s qs rs H' sH ht hr hs tq tr lr md _=>?_⟩
 refine ⟨_,ht,?_⟩
 rwa []
 exact k s qs rs H' sH hs tr lr md
theorem qgY (h:qbf K vs H Q E):qer K { nx:=λ_ H'=>Q .non H',rt:=Q } (L2.start ["row","other","prime","rest"] vs) H:=by
 obtain ⟨a,b,ns,ms,p,rfl,ha,hb,pp,bp,hn,hm,h0,k⟩:=h
 have p2:(2:Int)<=(p:Int):=by have:=pp.two;omega
 unfold qer
 rwa [ha]
 refine ⟨ns,rfl,⋯,hn,λc r1 H1 s1 hc tz1 l1 md1=>?_⟩
 refine ⟨r1,p,rfl,hc,pp.two,bp,⋯,mbd bp md1.1,mcop pp tz1 md1.1,λd r2 f H2 s2 hd l2 o2 md2=>?_⟩
 have hb2:=s2 _ _ (s1 _ _ hb)
 rwa [hb2]
 refine ⟨ms,rfl,⋯,hm,λc' r3 H3 s3 hc' tz3 l3 md3=>?_⟩
 refine ⟨r3,p,rfl,hc',pp.two,bp,⋯,mbd bp md3.1,mcop pp tz3 md3.1,λd' r4 f' H4 s4 hd' l4 o4 md4=>?_⟩
 have s04:Same H H4:=((s1.trans s2).trans s3).trans s4
 have hd4:=(s3.trans s4) _ _ hd
 have step:∀ {g h:Nat->Int} {rs:List Int} {f:Int},Dm (p:Int) g h->Md (p:Int) rs (λk=>f*h k)->Dm (p:Int) g (co rs):=λ{g h rs f} d md=>by
  refine Dm.congr (Dm.less d d f 0 0) λk=>?_
  have:=md.2 k
  show (p:Int)∣co rs k - (f*h k - 0*_)
  rw [Int.zero_mul,Int.sub_zero]
  exact this
 have nz:∀ {xs rs rs2:List Int} {f:Int},(∃ k,¬ (p:Int)∣co xs k)->Md (p:Int) rs (co xs)->rs2.length=rs.length->0<rs2.length:=λ{xs rs rs2 f} ⟨k,hk⟩ md e=>by
  rcases wbj rs2.length with z | z
  ·exfalso
   have:=md.2 k
   rw [qay ⋯] at this
   have t2:=Int.dvd_neg.mpr this
   rw [show ∀ x:Int,-(0 - x)=x by intro x;omega] at t2
   exact hk t2
  ·exact z
 have M1:∀ {xs rs:List Int},Md (p:Int) rs (co xs)->∀ {g:Nat->Int},Dm (p:Int) g (co xs)->Dm (p:Int) g (co rs):=λmd g d=>Dm.congr d md.2
 have back1:∀ {g:Nat->Int} {r r2:List Int} {f:Int},Md (p:Int) r2 (λk=>f*co r k)->r2.length=r.length->(r≠[]->co r2 (r2.length - 1)=1)->Dm (p:Int) g (co r2)->Dm (p:Int) g (co r):=λ{g r r2 f} md l o d=>by
  by_cases r0:r=[]
  ·exact Dm.zero _ _ λk=>by rw [r0,qay (wad _)];exact wbn _
  ·refine Dm.congr (Dm.less d d (co r (r.length - 1)) 0 0) λk=>?_
   show (p:Int)∣co r k - (co r (r.length - 1)*co r2 k - 0*_)
   rw [Int.zero_mul,Int.sub_zero]
   have h1:=md.2 k
   have h2:=md.2 (r2.length - 1)
   rw [o r0,l] at h2
   have q1:(p:Int)∣co r (r.length - 1)*(co r2 k - f*co r k):=wcq h1
   have q2:(p:Int)∣co r k*(1 - f*co r (r.length - 1)):=wcq h2
   refine war (Int.dvd_sub q2 q1) (qra ?_)
   grind
 have back:∀ {g:Nat->Int} {xs r r2:List Int} {f:Int},Md (p:Int) r (co xs)->Md (p:Int) r2 (λk=>f*co r k)->r2.length=r.length->(r≠[]->co r2 (r2.length - 1)=1)->Dm (p:Int) g (co r2)->Dm (p:Int) g (co xs):=λ{g xs r r2 f} md1 md l o d=>Dm.congr (back1 md l o d) λk=>by
  have:=Int.dvd_neg.mpr (md1.2 k)
  refine war this (qra ?_)
  omega
 refine while_by (λm σ H'=>∃ (x y:Addr) (xs ys:List Int) (u:Option V),σ=[some (.ref x),some (.ref y),some (.int (p:Int)),u]/\Same H H'/\H' x=some (.lst (xs.map V.int))/\H' y=some (.lst (ys.map V.int))/\m=ys.length/\xs.length<=1000/\ys.length<=1000/\(0<xs.length\/0<ys.length)/\(xs≠[]->co xs (xs.length - 1)=1)/\(ys≠[]->co ys (ys.length - 1)=1)/\(∀ z∈xs,0<=z/\z<(p:Int))/\(∀ z∈ys,0<=z/\z<(p:Int))/\
  (∀ g:Nat->Int,Dm (p:Int) g (co ns)->Dm (p:Int) g (co ms)->Dm (p:Int) g (co xs)/\Dm (p:Int) g (co ys))/\(∀ g:Nat->Int,Dm (p:Int) g (co xs)->Dm (p:Int) g (co ys)->Dm (p:Int) g (co ns)/\Dm (p:Int) g (co ms))) r4.length ⟨d,d',r2,r4,none,rfl,s04,hd4,hd',rfl,⋯,⋯,?_,?_,?_,md2.1,md4.1,λg d1 d2=>⟨step (M1 md1 d1) md2,step (M1 md3 d2) md4⟩,λg d1 d2=>⟨back md1 md2 l2 o2 d1,back md3 md4 l4 o4 d2⟩⟩ ?_
 ·rcases h0 with h | h
  ·exact .inl (nz (f:=f) h md1 l2)
  ·exact .inr (nz (f:=f) h md3 l4)
 ·intro z
  exact o2 λe=>z (way.mp (by rw [l2,e];rfl))
 ·intro z
  exact o4 λe=>z (way.mp (by rw [l4,e];rfl))
 ·rintro m σ H' ⟨x,y,xs,ys,u,rfl,sH,hx,hy,rfl,xl,yl,ne,ox,oy,bx,bY,hD,hE⟩
  rwa [hy]
  by_cases hys:ys=[]
  ·subst hys
   refine qbI (λc=>absurd c (by simp)) (λ_=>?_)
   have x0:0<xs.length:=by simpa using ne
   have rfx:Dm (p:Int) (co xs) (co xs):=⟨[1],λk=>by
    have e:cvL [1] (co xs) k=co xs k:=by
     cases k with
     | zero=>rw [qar];omega
     | succ k=>rw [qam,qaF];omega
    rw [e,Int.sub_self];exact wbn _⟩
   have zz:Dm (p:Int) (co xs) (co []):=Dm.zero _ _ λk=>by rw [qay (wad _)];exact wbn _
   exact k x xs H' sH hx x0 xl (ox (wbr.mp x0)) bx (λg d1 d2=>(hD g d1 d2).1) (hE _ rfx zz).1 (hE _ rfx zz).2
  ·have y0:0<ys.length:=wbr.mpr hys
   refine qbI (λ_=>?_) (λc=>absurd hys (by simpa using c))
   refine ⟨λσ' H''=>∃ m',m'<ys.length/\_,λ_ _ h=>h,?_⟩
   rwa [hx,hy]
   have B:∀ z:Int,0<=z->z<(p:Int)->Bd 45000 z:=λz h1 h2=>bp.le ⋯
   refine ⟨xs,rfl,ys,rfl,y0,oy hys,⋯,45000,bp,λz hz=>B z (bY z hz).1 (bY z hz).2,∅,xl,yl,λs qs rs H2 sH2 hs trs lrs md=>?_⟩
   have whole:∀ g:Nat->Int,Dm (p:Int) g (co ys)->Dm (p:Int) g (co rs)->Dm (p:Int) g (co xs):=λg d1 d2=>by
    obtain ⟨S1,h1⟩:=d1
    obtain ⟨S2,h2⟩:=d2
    refine ⟨qaN S2 (qaE qs S1),λk=>?_⟩
    rw [qaw,qav]
    have e1:=cvD h1 qs k
    have m2:(p:Int)∣co rs k - (co xs k - cvL qs (co ys) k):=md.2 k
    have:=wbk (Int.dvd_sub (h2 k) m2) e1
    refine war this (qra ?_)
    omega
   refine ⟨rs,p,rfl,hs,pp.two,bp,⋯,mbd bp md.1,mcop pp trs md.1,λt ts f H3 sH3 ht lt ot mdt=>?_⟩
   refine ⟨ts.length,⋯,(sH.trans sH2).trans sH3,ys,(sH2.trans sH3) _ _ hy,ts,ht,rfl,yl,⋯,.inl y0,oy,λz=>ot λe=>z (way.mp (by rw [lt,e];rfl)),bY,mdt.1,λg d1 d2=>⟨(hD g d1 d2).2,?_⟩,λg d1 d2=>hE g (whole g d1 (back1 mdt lt ot d2)) d1⟩
   obtain ⟨dx,dy⟩:=hD g d1 d2
   have dr:Dm (p:Int) g (co rs):=by
    obtain ⟨S1,h1⟩:=dx
    obtain ⟨S2,h2⟩:=dy
    refine Dm.congr (f:=λk=>co xs k - cvL qs (co ys) k) ⟨qaN S1 ((qaE qs S2).map (-1*·)),λk=>?_⟩ md.2
    rw [qaw,qau,qav]
    have e:(p:Int)∣cvL qs (co ys) k - cvL qs (cvL S2 g) k:=by
     have lin:∀ (A:List Int) (k:Nat),(p:Int)∣cvL A (co ys) k - cvL A (cvL S2 g) k:=by
      intro A
      induction A with
      | nil=>intro k;rw [qaF,qaF];exact ⟨0,⋯⟩
      | cons a A ih=>
        intro k
        rw [qda,qda]
        have i2:(p:Int)∣up1 (cvL A (co ys)) k - up1 (cvL A (cvL S2 g)) k:=by
         cases k with
         | zero=>exact ⟨0,by show (0:Int) - 0=_;omega⟩
         | succ k=>exact ih k
        have i1:(p:Int)∣a*(co ys k - cvL S2 g k):=wcq (h2 k)
        have:=wbk i1 i2
        rw [show a*(co ys k - cvL S2 g k)+(up1 (cvL A (co ys)) k - up1 (cvL A (cvL S2 g)) k)=a*co ys k+up1 (cvL A (co ys)) k - (a*cvL S2 g k+up1 (cvL A (cvL S2 g)) k) by rw [wbs];omega] at this
        exact this
     exact lin qs k
    have:=Int.dvd_sub (h1 k) e
    rw [show co xs k - cvL S1 g k - (cvL qs (co ys) k - cvL qs (cvL S2 g) k)=co xs k - cvL qs (co ys) k - (cvL S1 g k + -1*cvL qs (cvL S2 g) k) by omega] at this
    exact this
   exact step dr mdt
theorem qii (h:qaZ K vs H Q E):qeM K { nx:=λ_ H'=>Q .non H',rt:=Q } (L2.start ["row","divisor","modulus","rest","last","quotient","shift","weight","place"] vs) H:=by
 obtain ⟨p,q,ns,ms,m,b,rfl,hp,hq,m0,ml,mp,bm,bms,bb,hn,hm,kR⟩:=h
 obtain ⟨L,hL⟩:∃ L,ms.length=L+1:=⟨ms.length - 1,⋯⟩
 have hL1:ms.length - 1=L:=by omega
 rw [hL1] at ml
 generalize hc:ns.length - L=c
 unfold qeM
 rwa [hp]
 refine λa ha=>?_
 have sa:=qag ha (.lst (ns.map V.int))
 unfold qd2
 have hpa:=sa _ _ hp
 have hqa:=sa _ _ hq
 rwa [hqa]
 unfold qd1
 rwa []
 refine ⟨sz ∅,λx hx=>?_⟩
 have sx:=qag hx (.lst [.int 0])
 have hpx:=sx _ _ hpa
 rwa [hpx]
 have hmax:(if (0:Int) > ((List.map V.int ns).length:Int) - (((List.map V.int ms).length:Int) - 1) then (0:Int) else ((List.map V.int ns).length:Int) - (((List.map V.int ms).length:Int) - 1))=(c:Int):=by
  rw [waa,waa];split <;> omega
 rw [hmax]
 refine ⟨⋯,⋯,sz (by simp;omega),λy hy=>?_⟩
 rw [wby,qdQ]
 have sy:=qag hy (.lst (List.replicate c (V.int 0)))
 have sA:Same (upd H a (.lst (ns.map V.int))) (upd (upd (upd H a (.lst (ns.map V.int))) x (.lst [.int 0])) y (.lst (List.replicate c (V.int 0)))):=λz o h=>sy z o (sx z o h)
 have hay:=sA _ _ (show upd H a (.lst (ns.map V.int)) a=_ from qah)
 have hyy:(upd (upd (upd H a (.lst (ns.map V.int))) x (.lst [.int 0])) y (.lst (List.replicate c (V.int 0)))) y=_:=qah
 have sH:Same H (upd (upd (upd H a (.lst (ns.map V.int))) x (.lst [.int 0])) y (.lst (List.replicate c (V.int 0)))):=λz o h=>sA z o (sa z o h)
 have nay:a≠y:=qaq (sx _ _ (show upd H a (.lst (ns.map V.int)) a=_ from qah)) hy
 have nyH:H y=none:=by
  cases e:H y with
  | none=>rfl
  | some o=>have:=sx _ _ (sa _ _ e);rw [hy] at this;cases this
 generalize (upd (upd (upd H a (.lst (ns.map V.int))) x (.lst [.int 0])) y (.lst (List.replicate c (V.int 0))))=H1 at hay hyy sH ⊢
 rw [quN ns] at hay
 have e0:List.replicate c (V.int 0)=qbu c λ_=>0:=by rw [<-qdQ,qhi]
 rw [e0] at hyy
 unfold qd0
 have hp1:=sH _ _ hp
 rwa [hp1]
 refine ⟨by rw [waa,waa];omega,?_⟩
 have elo:((List.map V.int ns).length:Int) - (((List.map V.int ms).length:Int) - 1) - 1=(ns.length:Int) - (L:Int) - 1:=by rw [waa,waa];omega
 have ela:((List.map V.int ms).length:Int) - 1=(L:Int):=by rw [waa];omega
 rw [elo,ela]
 have ecn:((ns.length:Int) - (L:Int) - 1 - -1).toNat=c:=by omega
 rw [ecn]
 refine ⟨⋯,∅,∅,?_⟩
 let Iv:Nat->L2.St->Hp->Prop:=λi σ H2=>i<=c/\∃ (F G:Nat->Int) (u v w:Option V),σ=[some (.ref p),some (.ref q),some (.int m),some (.ref a),some (.int (L:Int)),some (.ref y),u,v,w]/\Same H H2/\H2 a=some (.lst (qbu ns.length F))/\H2 y=some (.lst (qbu c G))/\
  (∀ j,j<c - i->G j=0)/\(∀ k,k<ns.length - i->m∣F k - (co ns k - cvL ((List.range c).map G) (co ms) k))/\(∀ k,ns.length - i<=k->m∣co ns k - cvL ((List.range c).map G) (co ms) k)/\(∀ j,j<c->0<=G j/\G j<m)
 refine ForJ.down Iv ⟨wad _,co ns,λ_=>0,none,none,none,rfl,sH,hay,hyy,λ_ _=>rfl,λk _=>by rw [qhj];exact ⟨0,⋯⟩,λk hk=>by rw [qhj,qay ⋯];exact ⟨0,⋯⟩,λk _=>⟨Int.le_refl 0,mp⟩⟩ ?_ ?_
 ·rintro i σ H2 hi ⟨_,F,G,u,v,w,rfl,s2,ha2,hy2,hG,hF,hF2,bG⟩
  have hq2:=s2 _ _ hq
  have ic:i<c:=hi
  have esh:((ns.length:Int) - (L:Int) - 1 - (i:Int))=((c - 1 - i:Nat):Int):=by omega
  rw [esh]
  generalize hs:c - 1 - i=s
  have hst:s+L=ns.length - 1 - i:=by omega
  have aT:atI (qbu ns.length F) ((s:Int)+(L:Int))=some (V.int (F (s+L))):=qcH (j:=s+L) ⋯ (qaW F ⋯)
  unfold qc1
  rwa [ha2,hq2,aT]
  refine ⟨mp,?_⟩
  have w0:=wav (F (s+L)) (show m≠0 by omega)
  have w1:=waz (F (s+L)) mp
  have wd:=qbj (F (s+L)) m
  generalize hw:F (s+L) % m=wt at w0 w1 wd
  have bwt:Bd b wt:=bm.le ⋯
  unfold qc0
  rwa [hy2]
  refine ⟨s,by rw [qaV];exact qgL rfl ⋯,?_⟩
  have hG':(qbu c G).set s (V.int wt)=qbu c (λj=>if j=s then wt else G j):=qdm ⋯ (if_pos rfl) λj _ hj=>if_neg hj
  rw [hG']
  have s3:Same H (upd H2 y (.lst (qbu c λj=>if j=s then wt else G j))):=λz o h=>Kp.upd z o (qaq h nyH) (s2 z o h)
  have ha3:(upd H2 y (.lst (qbu c λj=>if j=s then wt else G j))) a=_:=(qaC nay).trans ha2
  have hy3:(upd H2 y (.lst (qbu c λj=>if j=s then wt else G j))) y=_:=qah
  generalize (upd H2 y (.lst (qbu c λj=>if j=s then wt else G j)))=H3 at s3 ha3 hy3 ⊢
  have cvE:∀ k,cvL ((List.range c).map λj=>if j=s then wt else G j) (co ms) k=cvL ((List.range c).map G) (co ms) k+wt*upS s (co ms) k:=λk=>qpQ ⋯ (hG s ⋯) _ k
  have fin:∀ (F':Nat->Int) (u v w:Option V) (H4:Hp),Same H H4->H4 a=some (.lst (qbu ns.length F'))->H4 y=some (.lst (qbu c λj=>if j=s then wt else G j))->(∀ k,k<ns.length->F' k=F k - (if s<=k/\k - s<L then wt*co ms (k - s) else 0))->
    Iv (i+1) [some (.ref p),some (.ref q),some (.int m),some (.ref a),some (.int (L:Int)),some (.ref y),u,v,w] H4:=λF' u v w H4 s4 ha4 hy4 eF=>by
   refine ⟨⋯,F',_,u,v,w,rfl,s4,ha4,hy4,λj hj=>?_,λk hk=>?_,λk hk=>?_,λj hj=>?_⟩
   ·show (if j=s then wt else G j)=0
    rw [if_neg ⋯];exact hG j ⋯
   ·have hf:=hF k ⋯
    rw [eF k ⋯,cvE]
    unfold upS
    by_cases h:s<=k
    ·rw [if_pos h,if_pos ⟨h,⋯⟩]
     rw [show ∀ x y z w:Int,x - y - (z - (w+y))=x - (z - w) by intro x y z w;omega]
     exact hf
    ·rw [if_neg h,if_neg ⋯]
     rw [show ∀ x z w:Int,x - 0 - (z - (w+wt*0))=x - (z - w) by intro x z w;omega]
     exact hf
   ·rw [cvE]
    by_cases ek:k=s+L
    ·have hf:=hF k ⋯
     rw [ek] at hf ⊢
     unfold upS
     rw [if_pos ⋯,show s+L - s=L by omega,ml]
     obtain ⟨α,hα⟩:=hf
     obtain ⟨β,hβ⟩:=wd
     exact ⟨-α - β,by rw [wbs,Int.mul_neg];omega⟩
    ·have h2:=hF2 k ⋯
     unfold upS
     by_cases h:s<=k
     ·rw [if_pos h,qay (a:=ms) ⋯,wb3,Int.add_zero];exact h2
     ·rw [if_neg h,wb3,Int.add_zero];exact h2
   ·show 0<=(if j=s then wt else G j)/\(if j=s then wt else G j)<m
    split
    ·exact ⟨w0,w1⟩
    ·exact bG j hj
  unfold qcZ
  rwa []
  refine qbI (λcw=>?_) (λcw=>?_)
  ·refine ⟨⋯,⋯,?_⟩
   rw [wby]
   refine ForR.by (λj σ H4=>∃ (u:Option V),σ=[some (.ref p),some (.ref q),some (.int m),some (.ref a),some (.int (L:Int)),some (.ref y),some (.int (s:Int)),some (.int wt),u]/\Same H H4/\H4 a=some (.lst (qbu ns.length λk=>F k - (if s<=k/\k - s<j then wt*co ms (k - s) else 0)))/\H4 y=some (.lst (qbu c λj=>if j=s then wt else G j))) ⟨w,rfl,s3,?_,hy3⟩ ?_ ?_
   ·rw [ha3]
    exact congrArg (λl=>some (HO.lst l)) (qbQ λk _=>by rw [if_neg ⋯];omega)
   ·rintro j σ H4 hj ⟨u',rfl,s4,ha4,hy4⟩
    have hq4:=s4 _ _ hq
    have aj:atI (ms.map V.int) (0+(j:Int))=some (V.int (co ms j)):=qcH (j:=j) ⋯ (by rw [quN];exact qaW _ ⋯)
    rwa [ha4,hq4,aj]
    refine ⟨_,qcH (j:=s+j) ⋯ (qaW _ ⋯),qiB bwt (qbA bms j),_,rfl,s+j,by rw [qaV];exact qgL ⋯ ⋯,?_,?_,?_⟩
    ·intro z o h
     exact Kp.upd z o (qaq h ha) (s4 z o h)
    ·refine qdm ⋯ ?_ λk _ hk=>?_
     ·rw [if_pos ⋯,if_neg ⋯,show s+j - s=j by omega];omega
     ·by_cases h:s<=k/\k - s<j
      ·rw [if_pos h,if_pos ⋯]
      ·rw [if_neg h,if_neg ⋯]
    ·rw [qaC (Ne.symm nay)];exact hy4
   ·rintro σ H4 ⟨u',rfl,s4,ha4,hy4⟩
    exact fin _ _ _ _ _ s4 ha4 hy4 λk _=>rfl
  ·have w0':wt=0:=by simpa using cw
   exact fin F _ _ _ _ s3 ha3 hy3 λk _=>by rw [w0'];split <;> omega
 ·rintro σ H2 ⟨_,F,G,u,v,w,rfl,s2,ha2,hy2,hG,hF,hF2,bG⟩
  unfold qdZ
  rw [qfY] at hy2
  rwa [ha2,hy2]
  refine ⟨_,rfl,λt ht=>?_⟩
  have st:=qag ht (.lst (List.map V.int (qej (List.map G (List.range c)))))
  have ha3:=st _ _ ha2
  have htt:upd H2 t (.lst (List.map V.int (qej (List.map G (List.range c))))) t=_:=qah
  generalize upd H2 t (.lst (List.map V.int (qej (List.map G (List.range c)))))=H3 at st ha3 htt ⊢
  refine ⟨_,ha3,λz hz=>?_⟩
  rw [qnd]
  have sz2:=qag hz (.lst (((List.range (min L ns.length)).map F).map V.int))
  refine ⟨_,rfl,mp,by rw [waa,waw];omega,λr rs H4 s4 hr4 tr lr md=>?_⟩
  rw [waa,waw] at lr
  refine ⟨sz ∅,λe he=>?_⟩
  have se:=qag he (.tup [.ref t,.ref r])
  have cq:∀ k,cvL (qej ((List.range c).map G)) (co ms) k=cvL ((List.range c).map G) (co ms) k:=λk=>by
   rw [qbm,qas (λj=>qka _ j) ms k,<-qbm]
  refine kR e t r _ rs _ ((s2.trans st).trans ((sz2.trans s4).trans se)) qah (se _ _ (s4 _ _ (sz2 _ _ htt))) (se _ _ hr4) (qj9 _) tr ⋯ ⟨md.1,λk=>?_⟩ λz hz=>?_
  ·have:=md.2 k
   rw [qfp] at this
   show m∣co rs k - (co ns k - cvL (qej ((List.range c).map G)) (co ms) k)
   rw [cq]
   by_cases hk:k<min L ns.length
   ·rw [if_pos hk] at this
    have h2:=wbk this (hF k ⋯)
    rw [show ∀ x y z:Int,x - y+(y - z)=x - z by intro x y z;omega] at h2
    exact h2
   ·rw [if_neg hk] at this
    have h2:=Int.dvd_sub this (hF2 k ⋯)
    rw [show ∀ x y:Int,x - 0 - y=x - y by intro x y;omega] at h2
    exact h2
  ·obtain ⟨j,hj,rfl⟩:=wai.mp (qlm hz)
   exact bG j (wbp.mp hj)
theorem SDs.tp {H H':Hp} (s:Same H H'):∀ {xs:List V} {rs:List (List Int)},SDs H xs rs->SDs H' xs rs
 | [],[],_=>trivial
 | _::_,_::_,h=>⟨let ⟨p,e,q⟩:=h.1;⟨p,e,s _ _ q⟩,SDs.tp s h.2⟩
 | [],_::_,h=>h.elim
 | _::_,[],h=>h.elim
theorem SD.tp {H H':Hp} (s:Same H H') {p:Addr} {rs:List (List Int)} (h:SD H p rs):SD H' p rs:=let ⟨xs,e,q⟩:=h;⟨xs,s _ _ e,q.tp s⟩
theorem SDs.length {H:Hp}:∀ {xs:List V} {rs:List (List Int)},SDs H xs rs->xs.length=rs.length
 | [],[],_=>rfl
 | _::_,_::_,h=>congrArg (·+1) (SDs.length h.2)
 | [],_::_,h=>h.elim
 | _::_,[],h=>h.elim
theorem SDs.get {H:Hp}:∀ {xs:List V} {rs:List (List Int)} {i:Nat} {v:V},SDs H xs rs->xs[i]?=some v->∃ p r,v=.ref p/\rs[i]?=some r/\H p=some (.lst (r.map V.int))
 | [],[],_,_,_,e=>by simp at e
 | _::_,r::_,0,_,h,e=>by
   simp at e;subst e
   obtain ⟨p,e,q⟩:=h.1
   exact ⟨p,r,e,rfl,q⟩
 | _::_,_::_,i+1,_,h,e=>by
   obtain ⟨p,r,h1,h2,h3⟩:=SDs.get (i:=i) h.2 (by simpa using e)
   exact ⟨p,r,h1,by simpa using h2,h3⟩
 | [],_::_,_,_,h,_=>h.elim
 | _::_,[],_,_,h,_=>h.elim
theorem SDs.snoc {H:Hp} {p:Addr} {r:List Int} (hp:H p=some (.lst (r.map V.int))):∀ {xs:List V} {rs:List (List Int)},SDs H xs rs->SDs H (xs++[.ref p]) (rs++[r])
 | [],[],_=>⟨⟨p,rfl,hp⟩,trivial⟩
 | _::_,_::_,h=>⟨h.1,SDs.snoc hp h.2⟩
 | [],_::_,h=>h.elim
 | _::_,[],h=>h.elim
theorem SD.head {H:Hp} {p:Addr} {r:List Int} {rs:List (List Int)} (h:SD H p (r::rs)):∃ a xs,H p=some (.lst (.ref a::xs))/\H a=some (.lst (r.map V.int))/\SDs H (.ref a::xs) (r::rs):=by
 obtain ⟨xs,e,q⟩:=h
 match xs,q with
 | [],q=>exact q.elim
 | x::xs,q=>
   obtain ⟨a,e1,e2⟩:=q.1
   subst e1
   exact ⟨a,xs,e,e2,q⟩
theorem qeD {α:Type} (x:α) (xs:List α):atI (x::xs) 0=some x:=by
 unfold atI ixN
 rw [if_pos ∅,if_pos (by rw [wbc];omega)]
 rfl
theorem qe9 (h:qaU K vs H Q E):qdc K { nx:=λ_ H'=>Q .non H',rt:=Q } (L2.start ["strand","shared","row"] vs) H:=by
 obtain ⟨p,rows,rfl,⟨xs,hp,hS⟩,hl,hr,k⟩:=h
 have lx:=hS.length
 unfold qdc
 rwa []
 refine ⟨⟨_,SqL.of hp⟩,ForL.by (xs:=xs) (λi σ H'=>∃ (g:Int) (u:Option V),σ=[some (.ref p),some (.int g),u]/\Same H H'/\0<=g/\(∀ r∈rows.take i,∀ z∈r,g∣z)/\(∀ d:Int,(∀ r∈rows.take i,∀ z∈r,d∣z)->d∣g)) ⟨0,none,rfl,Same.refl H,Int.le_refl 0,λr hr=>(by simp at hr),λd _=>wbn d⟩ ?_ ?_ ?_⟩
 ·rintro i σ H' _ ⟨g,u,rfl,s,_⟩
  exact SqL.of (s _ _ hp)
 ·rintro i x σ H' hi ⟨g,u,rfl,s,g0,g1,g2⟩
  obtain ⟨a,r,rfl,hri,ha⟩:=hS.get hi
  have ha':=s _ _ ha
  have hrm:=hr r (wat hri)
  rwa [ha']
  refine ⟨r,rfl,hrm.1,λg' H2 s2 g0' d1 d2 d3=>?_⟩
  have et:rows.take (i+1)=rows.take i++[r]:=by rw [wbl,hri];rfl
  refine ⟨s.trans s2,g0',λr' hr' z hz=>?_,λd hd=>d3 d ?_ λz hz=>?_⟩
  ·rw [et] at hr'
   rcases wa2.mp hr' with h | h
   ·exact war d1 (g1 r' h z hz)
   ·rw [wag.mp h] at hz;exact d2 z hz
  ·exact g2 d λr' hr' z hz=>hd r' (by rw [et];exact wbz _ hr') z hz
  ·exact hd r (by rw [et];exact wa3 _ (wag.mpr rfl)) z hz
 ·rintro σ H' ⟨g,u,rfl,s,g0,g1,g2⟩
  rw [lx,wa8] at g1 g2
  have hp':=s _ _ hp
  have gz:∀ r∈rows,0<g\/r=[]:=λr hrr=>by
   rcases Int.lt_or_le 0 g with h | h
   ·exact .inl h
   ·right
    have ge:g=0:=by omega
    rcases (hr r hrr).2 with h | h
    ·exact h
    ·exfalso
     by_cases hl0:r.length=0
     ·rw [qay ⋯] at h;exact h rfl
     ·have:=g1 r hrr (co r (r.length - 1)) (by
       unfold co
       rw [wab,waf ⋯]
       exact wbf _)
      rw [ge] at this
      exact h (Int.zero_dvd.mp this)
  rwa []
  refine ⟨⟨_,SqL.of hp'⟩,CompJ.lst (xs:=xs) (λi ys H2=>i<=rows.length/\Same H H2/\SDs H2 ys ((rows.take i).map λr=>r.map (·/ g))) ⟨wad _,s,trivial⟩ ?_ ?_ ?_⟩
  ·rintro i ys H2 ⟨h1,s2,hy⟩
   refine ⟨⋯,sz ?_,SqL.of (s2 _ _ hp)⟩
   rw [hy.length,waa,wa7];omega
  ·rintro i x ys H2 hi ⟨h1,s2,hy⟩
   obtain ⟨a,r,rfl,hri,ha⟩:=hS.get hi
   have ha':=s2 _ _ ha
   have hrm:=hr r (wat hri)
   have hi2:i<rows.length:=(wal.mp hri).1
   rwa [ha']
   refine ⟨r,rfl,gz r (wat hri),hrm.1,λt ht=>?_⟩
   refine ⟨⋯,s2.trans (qag ht _),?_⟩
   have et:(rows.take (i+1)).map (λr=>r.map (·/ g))=(rows.take i).map (λr=>r.map (·/ g))++[r.map (·/ g)]:=by rw [wbl,hri];simp
   rw [et]
   exact SDs.snoc qah (hy.tp (qag ht _))
  ·rintro ys H2 ⟨_,s2,hy⟩ t ht
   rw [lx,wa8] at hy
   have st:=qag ht (.lst ys)
   by_cases gp:0<g
   ·refine k t _ _ (s2.trans st) ⟨ys,qah,hy.tp st⟩ ⟨g,gp,?_⟩ (.inr λd hd=>?_)
    ·rw [List.map_map]
     conv=>lhs;rw [<-List.map_id rows]
     refine wcb λr hrr=>?_
     show r=(r.map (·/ g)).map (g*·)
     rw [List.map_map]
     conv=>lhs;rw [<-List.map_id r]
     refine wcb λz hz=>?_
     show z=g*(z / g)
     rw [Int.mul_ediv_cancel' (g1 r hrr z hz)]
    ·have hdg:d*g∣g:=g2 (d*g) λr hrr z hz=>by
      have h1:=hd (r.map (·/ g)) (wai.mpr ⟨r,hrr,rfl⟩) (z / g) (wai.mpr ⟨z,hz,rfl⟩)
      obtain ⟨c,hc⟩:=h1
      refine ⟨c,?_⟩
      have:=Int.mul_ediv_cancel' (g1 r hrr z hz)
      rw [<-this,hc];grind
     obtain ⟨c,hc⟩:=hdg
     have e:g*(d*c)=g*1:=by rw [Int.mul_one];conv=>rhs;rw [hc]
                            grind
     have e1:=Int.eq_of_mul_eq_mul_left ⋯ e
     have:d.natAbs*c.natAbs=1:=by rw [<-wam,e1];rfl
     exact Nat.eq_one_of_mul_eq_one_right this
   ·have ge:∀ r∈rows,r=[]:=λr hrr=>by
     rcases gz r hrr with h | h
     ·exact absurd h gp
     ·exact h
    have em:rows.map (λr=>r.map (·/ g))=rows:=by
     conv=>rhs;rw [<-List.map_id rows]
     refine wcb λr hrr=>?_
     rw [ge r hrr];rfl
    rw [em] at hy
    refine k t rows _ (s2.trans st) ⟨ys,qah,hy.tp st⟩ ⟨1,∅,?_⟩ (.inl ge)
    conv=>lhs;rw [<-List.map_id rows]
    refine wcb λr hrr=>?_
    rw [ge r hrr];rfl
theorem qs9 {r:List Int} (h:∀ d:Int,(∀ z∈r,d∣z)->d.natAbs=1):Prim r:=λc hc=>h c λz hz=>by
 obtain ⟨i,hi,rfl⟩:=wck hz
 have:=hc i
 unfold co at this
 rw [wab,waf hi] at this
 exact this
theorem qgZ (h:qaS K vs H Q E):qep K { nx:=λ_ H'=>Q .non H',rt:=Q } (L2.start ["row"] vs) H:=by
 obtain ⟨p,ns,rfl,hp,hl,tz,k⟩:=h
 unfold qep
 rwa []
 refine ⟨sz ∅,λa ha=>?_⟩
 have sa:=qag ha (.lst [.ref p])
 refine ⟨[ns],⟨[V.ref p],qah,⟨⟨p,rfl,sa _ _ hp⟩,trivial⟩⟩,by simp,?_,λt rows' H' s' hSD hSh hP=>?_⟩
 ·intro r hr
  rw [wag.mp hr]
  exact ⟨hl,tz⟩
 obtain ⟨g,g0,eg⟩:=hSh
 match rows',eg,hSD,hP with
 | [ms],eg,hSD,hP=>
   obtain ⟨b,xs,h1,h2,_⟩:=hSD.head
   have eg':ns=ms.map (g*·):=by simpa using eg
   refine ⟨_,h1,_,qeD _ _,k b ms g H' (sa.trans s') h2 g0 eg' ?_⟩
   rcases hP with h | h
   ·left;rw [eg',h ms (wag.mpr rfl)];rfl
   ·right
    exact qs9 λd hd=>h d λr hr z hz=>by rw [wag.mp hr] at hz;exact hd z hz
 | [],eg,_,_=>simp at eg
 | _::_::_,eg,_,_=>simp at eg
theorem quO {n:Nat} {a:List Int} (h:∀ k,Bd n (co a k)):∀ z∈a,Bd n z:=λz hz=>by
 obtain ⟨i,hi,rfl⟩:=wck hz
 have:=h i
 unfold co at this
 rw [wab,waf hi] at this
 exact this
theorem qkc (g:Int) (a:List Int) (k:Nat):co (a.map (g*·)) k=g*co a k:=qng (F:=(g*·)) ⋯ a k
theorem qmd {g:Int} (g0:g≠0) {a:List Int} (h:Tz (a.map (g*·))):Tz a:=by
 rcases h with h | h
 ·left;exact List.map_eq_nil_iff.mp h
 ·right
  rw [qkc,waa] at h
  exact λz=>h (by rw [z];omega)
theorem qme {n:Nat} {g:Int} (g0:0<g) {a:List Int} (h:∀ z∈a.map (g*·),Bd n z):∀ z∈a,Bd n z:=λz hz=>(h (g*z) (wai.mpr ⟨z,hz,rfl⟩)).le (by
 rw [wam]
 exact wcm _ ⋯)
theorem ZipR.mono {R R':List Int->List Int->List Int->Prop} (h:∀ a b c,R a b c->R' a b c):∀ {A B C:List (List Int)},ZipR R A B C->ZipR R' A B C
 | [],[],[],_=>trivial
 | _::_,_::_,_::_,z=>⟨h _ _ _ z.1,ZipR.mono h z.2⟩
 | [],[],_::_,z=>z.elim
 | [],_::_,_,z=>z.elim
 | _::_,[],_,z=>z.elim
 | _::_,_::_,[],z=>z.elim
theorem ZipR.len {R:List Int->List Int->List Int->Prop}:∀ {A B C:List (List Int)},ZipR R A B C->C.length=A.length/\B.length=A.length
 | [],[],[],_=>⟨rfl,rfl⟩
 | _::_,_::_,_::_,z=>⟨congrArg (·+1) (ZipR.len z.2).1,congrArg (·+1) (ZipR.len z.2).2⟩
 | [],[],_::_,z=>z.elim
 | [],_::_,_,z=>z.elim
 | _::_,[],_,z=>z.elim
 | _::_,_::_,[],z=>z.elim
theorem ZipR.snoc {R:List Int->List Int->List Int->Prop} {a b c:List Int} (h:R a b c):∀ {A B C:List (List Int)},ZipR R A B C->ZipR R (A++[a]) (B++[b]) (C++[c])
 | [],[],[],_=>⟨h,trivial⟩
 | _::_,_::_,_::_,z=>⟨z.1,ZipR.snoc h z.2⟩
 | [],[],_::_,z=>z.elim
 | [],_::_,_,z=>z.elim
 | _::_,[],_,z=>z.elim
 | _::_,_::_,[],z=>z.elim
theorem ZipR.right {R:List Int->List Int->List Int->Prop} (h:∀ a b,R a b b):∀ {A B:List (List Int)},A.length=B.length->ZipR R A B B
 | [],[],_=>trivial
 | _::_,_::_,e=>⟨h _ _,ZipR.right h (by simpa using e)⟩
 | [],_::_,e=>by simp at e
 | _::_,[],e=>by simp at e
theorem ZipR.map {R R':List Int->List Int->List Int->Prop} {F:List Int->List Int} (h:∀ a b c,R a b (F c)->R' a b c):∀ {A B C:List (List Int)},ZipR R A B (C.map F)->ZipR R' A B C
 | [],[],[],_=>trivial
 | _::_,_::_,_::_,z=>⟨h _ _ _ z.1,ZipR.map h z.2⟩
 | [],[],_::_,z=>z.elim
 | [],_::_,_,z=>z.elim
 | _::_,[],_,z=>z.elim
 | _::_,_::_,[],z=>z.elim
theorem qvF {a b:Int} (hb:b≠0) (h:a∣b):a.natAbs<=b.natAbs:=wbx ⋯ (wbb.mpr h)
theorem qiQ (h:qbF K vs H Q E):qfC K { nx:=λ_ H'=>Q .non H',rt:=Q } (L2.start ["strand","other","shift","top","lead","shared","factor","weight"] vs) H:=by
 obtain ⟨p,q,o,rfl,hS,hO,o0,k⟩:=h
 obtain ⟨ac,xc,hp,hac,_⟩:=hS.head
 obtain ⟨ao,xo,hq,hao,_⟩:=hO.head
 have A1:atI (V.ref ac::xc) 0=some (V.ref ac):=qeD _ _
 have A2:atI (V.ref ao::xo) 0=some (V.ref ao):=qeD _ _
 unfold qfC
 rwa []
 refine while_by (λn σ H'=>σ=[some (.ref p),some (.ref q),none,none,none,none,none,none]/\H'=H/\n=0) 0 ⟨rfl,rfl,rfl⟩ ?_
 rintro n σ H' ⟨rfl,rfl,rfl⟩
 rwa [hp,hq,hac,hao,A1,A2]
 refine qbI (λc=>by rw [waa] at c;exfalso;omega) (λ_=>?_)
 unfold qeo
 rwa []
 refine ⟨[[]],hS,∅,(λr hr=>by rw [wag.mp hr];exact ⟨∅,.inl rfl⟩),λt rows H1 s1 hSD sh _=>k t H1 s1 ?_⟩
 obtain ⟨g,_,e⟩:=sh
 have l1:rows.length=1:=by have:=congrArg List.length e;simpa using this.symm
 obtain ⟨r,rfl⟩:∃ r,rows=[r]:=List.length_eq_one_iff.mp l1
 have e:[]=r.map (g*·):=List.head_eq_of_cons_eq e
 rw [List.map_eq_nil_iff.mp e.symm] at hSD
 exact hSD
theorem qmf {a:List Int} (h:Tz a) (ne:a≠[]):Lz a:=by
 refine ⟨wbr.mpr ne,?_⟩
 rcases h with e | e
 ·exact absurd e ne
 ·exact e
theorem qg0 (h:qa9 K vs H Q E):qeq K { nx:=λ_ H'=>Q .non H',rt:=Q } (L2.start ["strand","other","rest"] vs) H:=by
 obtain ⟨p,q,s,o,rfl,hS,hO,em,k⟩:=h
 unfold qeq
 rwa []
 refine while_by (λn σ H'=>(σ=[some (.ref p),some (.ref q),none]/\H'=H/\n=1)\/∃ (t:Addr) (u:Option V),σ=[some (.ref q),some (.ref t),u]/\Same H H'/\SD H' t [[]]/\o≠[]/\n=0) 1 (.inl ⟨rfl,rfl,rfl⟩) ?_
 rintro n σ H' (⟨rfl,rfl,rfl⟩ | ⟨t,u,rfl,sH,hT,o0,rfl⟩)
 ·obtain ⟨ao,xo,hq,hao,_⟩:=hO.head
  have A2:atI (V.ref ao::xo) 0=some (V.ref ao):=qeD _ _
  rwa [hq,hao,A2]
  by_cases oe:o=[]
  ·refine qbI (λc=>absurd oe (by simpa using c)) (λ_=>?_)
   rw [if_pos oe] at k
   exact k p _ (Same.refl _) hS
  ·refine qbI (λ_=>?_) (λc=>absurd (by simpa using c) oe)
   have se:s=[]:=by
    rcases em with z | z
    ·exact z
    ·exact absurd z oe
   rw [if_neg oe] at k
   refine ⟨λσ' H''=>∃ m',m'<1/\_,λ_ _ h=>h,?_⟩
   rwa [hq,hao,A2]
   refine qbI (λ_=>k q _ (Same.refl _) hO) (λ_=>?_)
   refine ⟨by rw [<-se];exact hS,o,hO,wbr.mpr oe,λt H1 s1 hT=>?_⟩
   exact ⟨0,∅,.inr ⟨s1,hT,oe,rfl⟩⟩
 ·obtain ⟨at',xt,ht,hat,_⟩:=hT.head
  have A2:atI (V.ref at'::xt) 0=some (V.ref at'):=qeD _ _
  rwa [ht,hat,A2]
  refine qbI (λc=>absurd c (by simp)) (λ_=>?_)
  rw [if_neg o0] at k
  exact k q _ sH (hO.tp sH)
theorem qpR {b n c:Nat} {r a g:List Int} (hr:∀ z∈r,Bd b z) (rl:r.length<=n) (hn:n<2 ^ c) (lg:Lz g) (h:∀ k,co r k=cvL a (co g) k):∀ k,Bd (b+n*(2*c+4)) (co a k):=by
 rcases qiK a with z | ⟨a',la,_,ea⟩
 ·intro k;rw [z k];exact qeY _
 have h':∀ k,co r k=cvL g (co a') k:=λk=>by rw [h k,qbm,qas (λk=>(ea k).symm) g k]
 have t:co r (a'.length - 1+(g.length - 1))≠0:=by rw [h',qbm,qfX la lg];exact wak la.2 lg.2
 have al:a'.length<=r.length:=by
  rcases wan (a'.length - 1+(g.length - 1)) r.length with c | c
  ·have:=la.1;omega
  ·exact absurd (qay c) t
 intro k
 rw [<-ea k]
 exact qgl hr ⟨_,t⟩ rl (wap al rl) hn h' k
theorem qta {G S:List Int} (lG:Lz G) (h:∀ k,cvL S (co G) k=0) (k:Nat):co S k=0:=(qpP lG (T:=0) λk _=>h k).1 k (wad k)
theorem Gen.Prim {r o:Nat->Int} {g:List Int} (G:Gen r o g):Prim g:=λc hc=>by
 rcases wan c.natAbs 2 with h | h
 ·rcases wbj c.natAbs with z | z
  ·exfalso
   have c0:c=0:=by omega
   have:=hc (g.length - 1)
   rw [c0] at this
   exact G.lz.2 (Int.zero_dvd.mp this)
  ·omega
 ·exfalso
  obtain ⟨n,hn,_⟩:=G.prim h
  exact hn (Int.natAbs_dvd.mpr (hc n))
theorem qtb {R O A B G:List Int} (lG:Lz G) (hA:∀ k,co R k=cvL A (co G) k) (hB:∀ k,co O k=cvL B (co G) k) (q:QI (co R) (co O) (co G)):QI (co A) (co B) qb8:=by
 obtain ⟨d,d0,U,V,h⟩:=q
 refine ⟨d,d0,U,V,λk=>?_⟩
 have z:=qta (S:=qaN (qaN (qaE U A) (qaE V B)) [-d]) lG (λk=>by
  rw [qaw,qaw,qav,qav,<-qas hA,<-qas hB]
  have:=h k
  have e:cvL [-d] (co G) k = -d*co G k:=by
   cases k with
   | zero=>rw [qar];omega
   | succ k=>rw [qam,qaF];omega
  rw [e,Int.neg_mul,this];omega) k
 rw [qaO,qaw,qaw,qav,qav,<-qas (qaO A),<-qas (qaO B)] at z
 have e:cvL [-d] qb8 k = -d*qb8 k:=by
  cases k with
  | zero=>rw [qar];omega
  | succ k=>rw [qam,qaF];omega
 rw [e,Int.neg_mul] at z
 omega
theorem qre (p:Nat) (p0:0<p) (S:List Int):(∀ k,(p:Int)∣co S k)\/∃ T,Lz T/\(∀ k,(p:Int)∣co S k - co T k)/\¬ (p:Int)∣co T (T.length - 1):=by
 have cm:∀ k,co (S.map (·% (p:Int))) k=co S k % (p:Int):=λk=>qng (F:=(·% (p:Int))) (Int.zero_emod _) S k
 rcases qiK (S.map (·% (p:Int))) with z | ⟨T,lT,_,eT⟩
 ·exact .inl λk=>wcj (by rw [<-cm k];exact z k)
 ·refine .inr ⟨T,lT,λk=>?_,λh=>?_⟩
  ·rw [eT,cm]
   exact ⟨co S k / p,by have:=wcf (co S k) p;omega⟩
  ·have h1:=eT (T.length - 1)
   rw [cm] at h1
   have b1:=wav (co S (T.length - 1)) (show (p:Int)≠0 by omega)
   have b2:=waz (co S (T.length - 1)) (show (0:Int)<p by omega)
   have:=lT.2
   have l:=wb7 ⋯ h
   omega
theorem cvT {p:Int} {S T:List Int} {g:Nat->Int} {n:Nat} (hg:∀ i,n<=i->g i=0) (h:∀ k,p∣co S k - co T k) (k:Nat):p∣cvL S g k - cvL T g k:=by
 have e:∀ k,g k=co ((List.range n).map g) k:=λk=>by
  rw [qfp];split
  ·rfl
  ·exact hg k ⋯
 rw [qas e,qas e,qbm,qbm T]
 have:=cvD (S:=[1]) (f:=co S) (g:=co T) (λk=>by
  have e1:cvL [1] (co T) k=co T k:=by
   cases k with
   | zero=>rw [qar];omega
   | succ k=>rw [qam,qaF];omega
  rw [e1];exact h k) ((List.range n).map g) k
 rwa [qas (b:=cvL [1] (co T)) (c:=co T) (λk=>by
  cases k with
  | zero=>rw [qar];omega
  | succ k=>rw [qam,qaF];omega)] at this
theorem qpS {p:Nat} (hp:Pr p) {R A G rs T:List Int} (hA:∀ k,co R k=cvL A (co G) k) (lG:Lz G) (pG:¬ (p:Int)∣co G (G.length - 1)) (hT:∀ k,(p:Int)∣co rs k - cvL T (co G) k) (d:Dm (p:Int) (co rs) (co R)):Dm (p:Int) (co T) (co A):=by
 obtain ⟨X,hX⟩:=d
 refine ⟨X,λk=>?_⟩
 have z:=qfo hp pG (λi hi=>by rw [qay ⋯];exact wbn _) (qaN A ((qaE X T).map ((-1)*·))) (λk _=>by
  rw [qaw,qau,qav,<-hA]
  have h1:=hX k
  have h2:=cvD hT X k
  have:=wbk h1 h2
  refine war this (qra ?_)
  omega)
 have e:co A k - cvL X (co T) k=co (qaN A ((qaE X T).map ((-1)*·))) k:=by
  rw [qaO (qaN A _),qaw,qau,qav,<-qaO,<-qas (qaO T)];omega
 rw [e]
 exact qq8 z k
theorem qtc {x e c n p N:Nat} (hx:x<2 ^ (c+1)) (hN:N<=2*(n - 1)) (big:2 ^ ((e+c+2)*(2*(n - 1)))<p):(2*(x*2 ^ e)) ^ N<p:=by
 have h1:2*(x*2 ^ e)<=2 ^ (e+c+2):=by
  have:x*2 ^ e<=2 ^ (c+1)*2 ^ e:=wbd _ (wbt hx)
  have e2:2 ^ (e+c+2)=2*(2 ^ (c+1)*2 ^ e):=by rw [<-Nat.pow_add,show e+c+2=(c+1+e)+1 by omega,wax];omega
  omega
 refine wa4 ?_ big
 rw [Nat.pow_mul]
 exact wap (Nat.pow_le_pow_left h1 N) (wba (wbu ∅) hN)
theorem qmg {ns ms rs gs G:List Int} {p d n c e:Nat} {lead:Int} (hp:Pr p) (ln:Lz ns) (lm:Lz ms) (bn:∀ z∈ns,Bd d z) (bm:∀ z∈ms,Bd d z) (nn:ns.length<=n) (mn:ms.length<=n) (hc:n<2 ^ c) (n2:2<=n) (he:e=d+n*(2*c+4)) (big:2 ^ ((e+c+2)*(2*(n - 1)))<p)
  (hld:((Int.gcd (co ns (ns.length - 1)) (co ms (ms.length - 1)):Nat):Int)=lead) (hG:Gen (co ns) (co ms) G) (r0:0<rs.length) (one:co rs (rs.length - 1)=1) (glen:G.length<=rs.length) (pG:¬ (p:Int)∣co G (G.length - 1)) (dG:Dm (p:Int) (co G) (co rs)) (dn:Dm (p:Int) (co rs) (co ns)) (dm:Dm (p:Int) (co rs) (co ms))
  (gl:gs.length=rs.length) (hg:∀ k,k<rs.length->(p:Int)∣co gs k - lead*co rs k) (hb:∀ z∈gs,2*z.natAbs<=p):MQ (co gs) (co ns)/\MQ (co gs) (co ms):=by
 have p2:=hp.two
 have P:=hG.Prim
 have lG:=hG.lz
 obtain ⟨A,hA⟩:=gauss P hG.rc.left
 obtain ⟨B,hB⟩:=gauss P hG.rc.right
 have bA:=qpR bn nn hc lG hA
 have bB:=qpR bm mn hc lG hB
 have bG:∀ k,Bd e (co G k):=by
  rw [he]
  exact qgl bn ⟨_,ln.2⟩ nn (wap (qna lG ln hG.rc.left) nn) hc hA
 rw [<-he] at bA bB
 have n0:1<=n:=by have:=ln.1;omega
 have cop:=qtb lG hA hB hG.qi
 obtain ⟨S,hS⟩:=dG
 have p0:0<p:=by omega
 have one':¬ (p:Int)∣(1:Int):=λz=>by have:=wb7 ∅ z;omega
 rcases qre p p0 S with z | ⟨T,lT,hT,pT⟩
 ·exfalso
  have h1:=hS (rs.length - 1)
  have h2:=cvT (p:=(p:Int)) (S:=S) (T:=[]) (g:=co G) (n:=G.length) (λi hi=>qay hi) (λk=>by rw [qay (a:=[]) (wad _),Int.sub_zero];exact z k) (rs.length - 1)
  rw [one] at h1
  rw [qaF,Int.sub_zero] at h2
  have:=wbk h1 h2
  rw [Int.sub_add_cancel] at this
  exact one' this
 have hTr:∀ k,(p:Int)∣co rs k - cvL T (co G) k:=λk=>by
  have:=wbk (hS k) (cvT (λi hi=>qay hi) hT k (g:=co G) (n:=G.length))
  refine war this (qra ?_)
  omega
 have t0:=lT.1
 have g0:=lG.1
 have tl:T.length+G.length=rs.length+1:=by
  have tp:=qfX lT lG
  have np:¬ (p:Int)∣co T (T.length - 1)*co G (G.length - 1):=λz=>by
   rcases hp.mulI z with q | q
   ·exact pT q
   ·exact pG q
  have h1:=hTr (T.length - 1+(G.length - 1))
  rw [tp] at h1
  have c1:T.length - 1+(G.length - 1)<rs.length:=by
   rcases wan (T.length - 1+(G.length - 1)) rs.length with c | c
   ·exact c
   ·exfalso
    rw [qay c,Int.zero_sub] at h1
    exact np (Int.dvd_neg.mp h1)
  have h2:=hTr (rs.length - 1)
  rw [one] at h2
  rcases wan (T.length - 1+(G.length - 1)) (rs.length - 1) with c | c
  ·exfalso
   rw [qbM (n:=G.length) (λi hi=>qay hi) T _ ⋯,Int.sub_zero] at h2
   exact one' h2
  ·omega
 have dTA:=qpS hp hA lG pG hTr dn
 have dTB:=qpS hp hB lG pG hTr dm
 have trimmed:∀ {R A:List Int},Lz R->R.length<=n->(∀ k,co R k=cvL A (co G) k)->(∀ k,Bd e (co A k))->∃ A',Lz A'/\A'.length<=n/\co A'=co A:=λ{R A} lR Rn h _=>by
  rcases qiK A with z | ⟨A',la,_,ea⟩
  ·exact absurd (by rw [h,qbm,qck G z]) lR.2
  ·refine ⟨A',la,?_,funext ea⟩
   have t:co R (A'.length - 1+(G.length - 1))≠0:=by
    rw [h,qbm,qas (λk=>(ea k).symm) G,<-qbm,qfX la lG];exact wak la.2 lG.2
   rcases wan (A'.length - 1+(G.length - 1)) R.length with c | c
   ·have:=la.1;omega
   ·exact absurd (qay c) t
 obtain ⟨A',lA,An,eA⟩:=trimmed ln nn hA bA
 obtain ⟨B',lB,Bn,eB⟩:=trimmed lm mn hB bB
 have big1:2 ^ e<p:=wa4 (wba ∅ (by
  have:(e+c+2)*1<=(e+c+2)*(2*(n - 1)):=wa1 _ ⋯
  omega)) big
 have T1:T.length=1:=by
  rcases wan T.length 2 with cT | cT
  ·omega
  ·exfalso
   have short:∀ {A:List Int},Lz A->(∀ k,Bd e (co A k))->Dm (p:Int) (co T) (co A)->2<=A.length:=λ{A} lA bA dA=>by
    have:=Dm.len hp t0 pT dA ⟨A.length - 1,λz=>by
     have h1:=bA (A.length - 1)
     have h2:=wbb.mpr z
     have h3:=wbx (by have:=lA.2;omega) h2
     rw [wa9] at h3
     have:(co A (A.length - 1)).natAbs<2 ^ e:=h1
     omega⟩
    omega
   have a2:=short lA (λk=>by rw [eA];exact bA k) (by rw [eA];exact dTA)
   have b2:=short lB (λk=>by rw [eB];exact bB k) (by rw [eB];exact dTB)
   refine lucky hp lA lB (by rw [eA,eB];exact cop) (λk=>by rw [eA];exact bA k) (λk=>by rw [eB];exact bB k) a2 b2 cT pT (by rw [eA];exact dTA) (by rw [eB];exact dTB) (qtc (x:=A'.length+B'.length) (c:=c) (n:=n) ?_ ⋯ big)
   rw [wax];omega
 obtain ⟨s,rfl⟩:∃ s,T=[s]:=by
  match T,T1 with
  | [s],_=>exact ⟨s,rfl⟩
 have hrs:∀ k,(p:Int)∣co rs k - s*co G k:=λk=>by
  have:=hTr k
  have e1:cvL [s] (co G) k=s*co G k:=by
   cases k with
   | zero=>rw [qar];omega
   | succ k=>rw [qam,qaF];omega
  rwa [e1] at this
 have lr:G.length=rs.length:=by simp at tl;omega
 have lcd:∀ {R A:List Int},(∀ k,co R k=cvL A (co G) k)->Lz R->co G (G.length - 1)∣co R (R.length - 1):=λ{R A} h lR=>by
  rcases qiK A with z | ⟨A',la,_,ea⟩
  ·exact absurd (by rw [h,qbm,qck G z]) lR.2
  ·have hh:∀ k,co R k=cvL A' (co G) k:=λk=>by rw [h,qbm,qas (λk=>(ea k).symm) G,<-qbm]
   have tp:=qfX la lG
   have a0:=la.1
   have rl:R.length - 1=A'.length - 1+(G.length - 1):=by
    rcases Nat.lt_trichotomy (R.length - 1) (A'.length - 1+(G.length - 1)) with c | c | c
    ·exfalso
     have:=hh (A'.length - 1+(G.length - 1))
     rw [qay (by have:=lR.1;omega),tp] at this
     exact wak la.2 lG.2 this.symm
    ·exact c
    ·exfalso
     have:=hh (R.length - 1)
     rw [qbM (n:=G.length) (λi hi=>qay hi) A' _ ⋯] at this
     exact lR.2 this
   rw [rl,hh,tp]
   exact wb9 _ _
 obtain ⟨t,ht⟩:co G (G.length - 1)∣lead:=by rw [<-hld];exact Int.dvd_coe_gcd (lcd hA ln) (lcd hB lm)
 have lead0:lead≠0:=λz=>by
  rw [<-hld] at z
  have:Int.gcd (co ns (ns.length - 1)) (co ms (ms.length - 1))=0:=by omega
  exact ln.2 (Int.gcd_eq_zero_iff.mp this).1
 have t0':t≠0:=λz=>lead0 (by rw [ht,z,wb3])
 have bt:t.natAbs<2 ^ d:=by
  have h1:lead∣co ns (ns.length - 1):=by rw [<-hld];exact wcc ..
  have h2:=war (show t∣lead from ⟨co G (G.length - 1),by rw [ht,wbh]⟩) h1
  have h3:=wbx (by have:=ln.2;omega) (wbb.mpr h2)
  have h4:(co ns (ns.length - 1)).natAbs<2 ^ d:=qbA bn _
  omega
 have egs:∀ k,co gs k=t*co G k:=λk=>by
  rcases wan k rs.length with ck | ck
  ·have h1:=hg k ck
   have h2:=hrs k
   have h3:=hrs (rs.length - 1)
   rw [one,<-lr] at h3
   have dv:(p:Int)∣co gs k - t*co G k:=by
    have q1:(p:Int)∣lead*(co rs k - s*co G k):=wcq h2
    have q2:(p:Int)∣(t*co G k)*(1 - s*co G (G.length - 1)):=wcq h3
    have:=Int.dvd_sub (wbk h1 q1) q2
    refine war this (qra ?_)
    rw [ht]
    grind
   have b1:2*(co gs k).natAbs<=p:=by
    have:co gs k∈gs:=by
     unfold co
     rw [wab,waf ⋯]
     exact wbf _
    exact hb _ this
   have b2:2*(t*co G k).natAbs<p:=by
    rw [wam]
    have h5:t.natAbs*(co G k).natAbs<=2 ^ d*2 ^ e:=wb4 (wbt bt) (wbt (bG k))
    have h6:2*(2 ^ d*2 ^ e)<=2 ^ ((e+c+2)*(2*(n - 1))):=by
     rw [<-Nat.pow_add,show 2*2 ^ (d+e)=2 ^ (d+e+1) by rw [wax];omega]
     refine wba ∅ ?_
     have:(e+c+2)*2<=(e+c+2)*(2*(n - 1)):=wa1 _ ⋯
     omega
    omega
   obtain ⟨y,hy⟩:=dv
   have ab:(co gs k - t*co G k).natAbs<p:=by omega
   rcases Int.lt_trichotomy y 0 with z | z | z
   ·have:(p:Int)*y<=(p:Int)*(-1):=wbw ⋯ ⋯
    omega
   ·rw [z] at hy;omega
   ·have:(p:Int)*1<=(p:Int)*y:=wbw ⋯ ⋯
    omega
  ·rw [qay ⋯,qay (a:=G) ⋯];omega
 have fin:∀ {R A:List Int},(∀ k,co R k=cvL A (co G) k)->MQ (co gs) (co R):=λ{R A} h=>⟨t,t0',A,λk=>by rw [qas egs,qbo,h k]⟩
 exact ⟨fin hA,fin hB⟩
theorem qnh {g f:List Int} {A:List Int} (h:∀ k,co f k=cvL A (co g) k):MQ (co g) (co f):=⟨1,∅,A,λk=>by rw [<-h k];omega⟩
theorem qfZ (h:qa8 K vs H Q E):qdF K { nx:=λ_ H'=>Q .non H',rt:=Q } (L2.start ["row","other","prime","lead","found","guess"] vs) H:=by
 obtain ⟨a,b,ns,ms,p,d,nn,cc,rfl,ha,hb,pp,bp,ln,lm,bn,bm,dn,dm,nn1,nn2,nc,nn0,kN,kR⟩:=h
 have p2:(2:Int)<=(p:Int):=by have:=pp.two;omega
 unfold qdF
 have an:=qcy ln.1
 have am:=qcy lm.1
 rwa [ha,hb,an,am]
 generalize hld:((Int.gcd (co ns (ns.length - 1)) (co ms (ms.length - 1)):Nat):Int)=lead
 have ld1:lead∣co ns (ns.length - 1):=by rw [<-hld];exact wcc ..
 have bl:Bd d lead:=(qbA bn (ns.length - 1)).le (qvF ln.2 ld1)
 refine ⟨⋯,qbI (λc=>?_) (λc=>?_)⟩
 ·refine kN (λbg=>?_) _ (Same.refl H)
  have bl':lead.natAbs<2 ^ d:=bl
  have z:=wcj (show lead % (p:Int)=0 by simpa using c)
  have l0:lead≠0:=λz=>by
   rw [<-hld] at z
   have:Int.gcd (co ns (ns.length - 1)) (co ms (ms.length - 1))=0:=by omega
   exact ln.2 (Int.gcd_eq_zero_iff.mp this).1
  have h3:=wbx ⋯ (wbb.mpr z)
  rw [wa9] at h3
  have:2 ^ d<=2 ^ ((d+nn*(2*cc+4)+cc+2)*(2*(nn - 1))):=by
   refine wba ∅ ?_
   have:(d+nn*(2*cc+4)+cc+2)*1<=(d+nn*(2*cc+4)+cc+2)*(2*(nn - 1)):=wa1 _ ⋯
   omega
  have bg:2 ^ ((d+nn*(2*cc+4)+cc+2)*(2*(nn - 1)))<p:=bg
  omega
 have pl:¬ (p:Int)∣lead:=λz=>c (by rw [wci z])
 have hnl:¬ (p:Int)∣co ns (ns.length - 1)\/¬ (p:Int)∣co ms (ms.length - 1):=by
  by_cases h1:(p:Int)∣co ns (ns.length - 1)
  ·right
   intro h2
   exact pl (by rw [<-hld];exact Int.dvd_coe_gcd h1 h2)
  ·exact .inl h1
 refine ⟨ns,ms,p,rfl,rfl,rfl,pp,bp,⋯,⋯,?_,λs rs H1 s1 hs r0 rl one br hD dvn dvm=>?_⟩
 ·rcases hnl with h | h
  ·exact .inl ⟨_,h⟩
  ·exact .inr ⟨_,h⟩
 refine ⟨⟨_,SqL.of hs⟩,CompJ.lst (xs:=rs.map V.int) (λi ys H'=>i<=rs.length/\H'=H1/\∃ gs:List Int,ys=gs.map V.int/\gs.length=i/\(∀ k,k<i->(p:Int)∣co gs k - lead*co rs k)/\∀ z∈gs,Bd 45000 z/\2*z.natAbs<=p) ⟨wad _,rfl,[],rfl,rfl,λk hk=>absurd hk ⋯,λz hz=>nomatch hz⟩ ?_ ?_ ?_⟩
 ·rintro i ys H' ⟨h1,rfl,gs,rfl,gl,_⟩
  exact ⟨by rw [waa];exact h1,sz (by rw [waa];omega),SqL.of hs⟩
 ·rintro i x ys H' hi ⟨h1,rfl,gs,rfl,gl,hg,bg⟩
  rw [wae] at hi
  cases e:rs[i]? with
  | none=>rw [e] at hi;cases hi
  | some n=>
    rw [e] at hi
    obtain rfl:V.int n=x:=Option.some.inj hi
    have hi2:i<rs.length:=(wal.mp e).1
    have bnn:=br n (wat e)
    have cn:co rs i=n:=by unfold co;rw [wab,e];rfl
    rwa []
    refine ⟨qiB bl (bp.le (x:=(p:Int)) (y:=n) ⋯),⋯,λr hr1 hr2=>⟨⋯,gs++[r],by simp,by simp;omega,λk hk=>?_,λz hz=>?_⟩⟩
    ·by_cases ek:k=i
     ·subst ek
      have:co (gs++[r]) k=r:=by unfold co;rw [wab,<-gl];simp
      rw [this,cn];exact hr1
     ·have:co (gs++[r]) k=co gs k:=by unfold co;rw [wab,wab,List.getElem?_append_left ⋯]
      rw [this];exact hg k ⋯
    ·rcases wa2.mp hz with z1 | z1
     ·exact bg z z1
     ·rw [wag.mp z1];exact ⟨bp.le ⋯,by rw [wa9] at hr2;exact hr2⟩
 ·rintro ys H' ⟨_,rfl,gs,rfl,gl,hg,bg⟩ t ht
  rw [waa] at gl hg
  have st:=qag ht (.lst (gs.map V.int))
  have htt:upd H' t (.lst (gs.map V.int)) t=_:=qah
  generalize upd H' t (.lst (gs.map V.int))=H2 at st htt ⊢
  have gl0:0<gs.length:=by omega
  have glast:co gs (gs.length - 1)≠0:=λz=>by
   have:=hg (gs.length - 1) ⋯
   rw [z,show gs.length - 1=rs.length - 1 by omega,one] at this
   exact pl (by have t2:=Int.dvd_neg.mpr this;rw [show -(0 - lead*1)=lead by omega] at t2;exact t2)
  rwa [htt]
  refine ⟨gs,rfl,⋯,.inr glast,λu gu g H3 s3 hu g0 eg hp=>?_⟩
  have Pg:Prim gu:=by
   rcases hp with h | h
   ·rw [h] at gl0;simp at gl0
   ·exact h
  have lgu:gu.length=gs.length:=by rw [eg,waa]
  have lzg:Lz gu:=qmf (qmd (wah g0) (by rw [<-eg];exact .inr glast)) (λz=>by rw [z] at lgu;simp at lgu;omega)
  have bgu:∀ z∈gu,Bd 45000 z:=qme g0 (by rw [<-eg];exact λz hz=>(bg z hz).1)
  have s13:Same H H3:=(s1.trans st).trans s3
  have ha3:=s13 _ _ ha
  have hb3:=s13 _ _ hb
  obtain ⟨G,hG⟩:=quE ln (QI.left (co ns) (co ms))
  have mn:=hG.mq _ ns (wac _) (QI.left _ _)
  have mm:=hG.mq _ ms (wac _) (QI.right _ _)
  have lead':¬ (p:Int)∣co G (G.length - 1):=by
   rcases hnl with h | h
   ·exact hG.lead pp ln mn h
   ·exact hG.lead pp lm mm h
  have dG:=hD (co G) (hG.dm pp mn) (hG.dm pp mm)
  have glen:G.length<=rs.length:=Dm.len pp hG.lz.1 lead' dG ⟨rs.length - 1,by
   rw [one]
   intro z
   have:=wb7 ∅ z
   omega⟩
  have tells:qvZ d nn cc p->(∃ A:List Int,∀ k,co ns k=cvL A (co gu) k)/\∃ A:List Int,∀ k,co ms k=cvL A (co gu) k:=λbp'=>by
   obtain ⟨q1,q2⟩:=qmg pp ln lm bn bm nn1 nn2 nc nn0 rfl bp' hld hG r0 one glen lead' dG dvn dvm gl hg (λz hz=>(bg z hz).2)
   have sc:∀ k,co gs k=g*co gu k:=λk=>by rw [eg,qkc]
   have mg:MQ (co gu) (co gs):=⟨1,∅,[g],λk=>by
    have e:cvL [g] (co gu) k=g*co gu k:=by
     cases k with
     | zero=>rw [qar];omega
     | succ k=>rw [qam,qaF];omega
    rw [e,sc];omega⟩
   exact ⟨gauss Pg (mg.trans q1),gauss Pg (mg.trans q2)⟩
  rwa [ha3,hu]
  refine ⟨ns,rfl,gu,rfl,lzg,d,bn,45000,bgu,⋯,∅,⋯,⋯,λno=>kN (λbg=>no (tells bg).1) |> λf H4 s4=>f H4 (s13.trans s4),λr qs H4 s4 hr _ hq=>?_⟩
  have hb4:=s4 _ _ hb3
  have hu4:=s4 _ _ hu
  rwa [hb4,hu4]
  refine ⟨ms,rfl,gu,rfl,lzg,d,bm,45000,bgu,⋯,∅,⋯,⋯,λno=>kN (λbg=>no (tells bg).2) |> λf H5 s5=>f H5 ((s13.trans s4).trans s5),λr2 qs2 H5 s5 hr2 _ hq2=>?_⟩
  exact kR u gu H5 ((s13.trans s4).trans s5) (s5 _ _ hu4) (qpl hG.rc lzg (qnh hq) (qnh hq2) ⋯) Pg
noncomputable def exps:List Nat:=[61,127,521,1279,4423,9941,21701,44497]
noncomputable def qwm (K:W.Frag):Prop:=∀ H:Hp,SqT K H (qca K) (exps.map λe:Nat=>V.int (e:Int))
theorem qtd:∀ e∈exps,Pr (mers e)/\e<=44497:=by
 intro e he
 have h:e=61\/e=127\/e=521\/e=1279\/e=4423\/e=9941\/e=21701\/e=44497:=by simpa [exps] using he
 rcases h with h | h | h | h | h | h | h | h <;> rw [h]
 ·exact ⟨qwh,∅⟩
 ·exact ⟨qvr,∅⟩
 ·exact ⟨qvs,∅⟩
 ·exact ⟨quB,∅⟩
 ·exact ⟨quC,∅⟩
 ·exact ⟨quD,∅⟩
 ·exact ⟨qsS,∅⟩
 ·exact ⟨qsT,∅⟩
theorem qrf (e:Nat):(2:Int) ^ (e:Int).toNat - 1=((mers e:Nat):Int):=by
 unfold mers
 have:=Nat.one_le_two_pow (n:=e)
 rw [Int.natCast_sub this,wby,Int.natCast_pow]
 rfl
theorem qte {e:Nat} (h:e<=44497):Bd 45000 ((mers e:Nat):Int):=by
 unfold Bd mers
 rw [wa9]
 have h1:=Nat.one_le_two_pow (n:=e)
 have h2:=wba (n:=2) ∅ (show e<=45000 by omega)
 omega
theorem qmh {ns ms one two rs:List Int} {g h:Int} (g0:g≠0) (h0:h≠0) (e1:ns=one.map (g*·)) (e2:ms=two.map (h*·)) (R:RC (co one) (co two) rs):RC (co ns) (co ms) rs:=by
 have c1:∀ k,co ns k=g*co one k:=λk=>by rw [e1,qkc]
 have c2:∀ k,co ms k=h*co two k:=λk=>by rw [e2,qkc]
 refine ⟨R.lz,?_,?_,?_⟩
 ·obtain ⟨c,c0,A,hA⟩:=R.left
  exact ⟨c,c0,A.map (g*·),λk=>by rw [qau,<-hA k,c1 k];grind⟩
 ·obtain ⟨c,c0,A,hA⟩:=R.right
  exact ⟨c,c0,A.map (h*·),λk=>by rw [qau,<-hA k,c2 k];grind⟩
 ·obtain ⟨d,d0,U,W,hU⟩:=R.qi
  refine ⟨g*h*d,wak (wak g0 h0) d0,U.map (h*·),W.map (g*·),λk=>?_⟩
  rw [qau,qau,qas c1 U k,qas c2 W k,qbo,qbo]
  have:=hU k
  grind
theorem qkd {K:W.Frag} (hK:qwm K) {vs:List V} {H:Hp} {Q:VK} {E:XK} (h:qbO K vs H Q E):qgI K { nx:=λ_ H'=>Q .non H',rt:=Q } (L2.start ["row","other","one","two","exponent","found"] vs) H:=by
 obtain ⟨a,b,ns,ms,d,nn,cc,rfl,ha,hb,tn,tm,bn,bm,nN,mN,N18,n2',nc,sm,hbd0,k⟩:=h
 have d9:d<=44490:=by
  have:(d+nn*(2*cc+4)+cc+2)*1<=(d+nn*(2*cc+4)+cc+2)*(2*(nn - 1)):=wa1 _ ⋯
  omega
 unfold qgI
 rwa [ha]
 refine ⟨ns,rfl,⋯,tn,λa1 one g1 H1 s1 h1 g10 e1 p1=>?_⟩
 have hb1:=s1 _ _ hb
 rwa [hb1]
 refine ⟨ms,rfl,⋯,tm,λa2 two g2 H2 s2 h2 g20 e2 p2=>?_⟩
 have s02:=s1.trans s2
 have ha2:=s02 _ _ ha
 have hb2:=s02 _ _ hb
 have h12:=s2 _ _ h1
 have l1:ns.length=one.length:=by rw [e1,waa]
 have l2:ms.length=two.length:=by rw [e2,waa]
 have t1:Tz one:=qmd (wah g10) (by rw [<-e1];exact tn)
 have t2:Tz two:=qmd (wah g20) (by rw [<-e2];exact tm)
 have b1:∀ z∈one,Bd d z:=qme g10 (by rw [<-e1];exact bn)
 have b2:∀ z∈two,Bd d z:=qme g20 (by rw [<-e2];exact bm)
 have n1:one=[]↔ns=[]:=by rw [<-way,<-way,l1]
 have n2:two=[]↔ms=[]:=by rw [<-way,<-way,l2]
 have last:(ns=[]\/ms=[])->∀ (H3:Hp) (u v:Option V),Same H2 H3->(qbB (tOp gL (qao (qa9 K) [] E0 (qab (qdv (qab (qaf 2) qan)) (qab (qdv (qab (qaf 3) qan)) qan))) (tC (.int 0)))) { nx:=λ_ H'=>Q .non H',rt:=Q } [some (.ref a),some (.ref b),some (.ref a1),some (.ref a2),u,v] H3:=λem H3 u v s3=>by
  have h13:=s3 _ _ h12
  have h23:=s3 _ _ h2
  rwa []
  refine ⟨sz ∅,λx hx=>?_⟩
  have sx:=qag hx (.lst [.ref a1])
  refine ⟨sz ∅,λy hy=>?_⟩
  have sy:=qag hy (.lst [.ref a2])
  have hxy:=sy _ _ (show upd H3 x (.lst [.ref a1]) x=_ from qah)
  refine ⟨one,⟨[V.ref a1],hxy,⟨⟨a1,rfl,sy _ _ (sx _ _ h13)⟩,trivial⟩⟩,two,⟨[V.ref a2],qah,⟨⟨a2,rfl,sy _ _ (sx _ _ h23)⟩,trivial⟩⟩,em.imp (λz=>n1.mpr z) (λz=>n2.mpr z),λt H4 s4 hSD=>?_⟩
  obtain ⟨ar,xr,ht,har,_⟩:=hSD.head
  refine ⟨_,ht,_,qeD _ _,?_⟩
  refine k ar _ H4 (s02.trans (s3.trans ((sx.trans sy).trans s4))) har (λhne=>?_) λh1 h2=>by rw [if_pos (n2.mpr h2)];exact n1.mpr h1
  have z0:∀ {x:List Int},x=[]->∀ k,co x k=0:=λe k=>by rw [e];exact qay (wad _)
  by_cases te:two=[]
  ·rw [if_pos te]
   have oe:ns≠[]:=by
    rcases hne with h | h
    ·exact h
    ·exact absurd (n2.mp te) h
   have l1':Lz one:=qmf t1 λz=>oe (n1.mp z)
   exact ⟨qmh (wah g10) (wah g20) e1 e2 ⟨l1',MQ.refl _,MQ.zero _ (z0 te),QI.left _ _⟩,p1.resolve_left oe⟩
  ·rw [if_neg te]
   have oe:one=[]:=n1.mpr (em.resolve_right λz=>te (n2.mpr z))
   exact ⟨qmh (wah g10) (wah g20) e1 e2 ⟨qmf t2 te,MQ.zero _ (z0 oe),MQ.refl _,QI.right _ _⟩,p2.resolve_left λz=>te (n2.mpr z)⟩
 have l0:=λem=>last em H2 none none (Same.refl H2)
 simp only [qaD,qaJ,qao,qab,qaf,qan,qak,qqB,L2.start,qdq,tIf,qaX,tB,tOp,rI0,rI,tC,tUn,rU,qbp,qbB,qlQ,qdv,qtY,qn2,qeG,tCB,qrG,qn7,tOr,qqA,qn8,qvT,qqE,rEq,rNe,qeU,qdA,qdw,qce,qkR,qt9,qhH,qsz,qmJ,iLt,iLe,iGt,iGe,qdK,gT,gL,gS,qoE,qsA,qvV,qqO,qoF,qbS,qua,qsB,qoG,qgy,qrL,eqT,qoH,qoI,qrM,qrN,List.map_cons,List.map_nil,wbc,List.length_nil,List.replicate,List.cons_append,List.nil_append,List.append_nil,List.getElem?_cons_zero,List.getElem?_cons_succ,Option.some.injEq,exists_eq_left',exists_eq_left,V.int.injEq,V.bl.injEq,V.ref.injEq,V.ty.injEq,HO.tup.injEq,HO.lst.injEq,List.cons.injEq,and_true,true_and,and_assoc,exists_and_left,List.set_cons_zero,List.set_cons_succ,decide_eq_true_eq,decide_eq_false_iff_not,Bool.not_eq_true',Bool.true_eq_false,Bool.false_eq_true,Bool.not_true,Bool.not_false,if_true,if_false,ite_true,ite_false,qoJ,qoK,qmK,qmL,qi3,qi4,qi5,qi6,qi7,Nat.zero_add,Nat.reduceAdd,Nat.reduceSub,qah,Int.cast_ofNat_Int,decide_true,decide_false,eq_self,not_true_eq_false,not_false_eq_true,Int.natCast_add,Int.natCast_zero,reduceCtorEq,Nm,qhL,qdJ,qn9,qkA,tSl,qcW,qhv,sL,sT,qoT,qrR,qhK,qiH,quq,qrK,qt5,qbR,qjI,qvU,tBM,qt4,qmM,qmN,qoN,qoO,qmO,qoZ,qmQ,qoP,qoQ,qoW,qoX,qqT,qsH,qqU,qus,qqS,qk0,qiI,qvf,qsG,qcK,Option.bind_some,Option.bind_none,Option.bind,Option.join,id_eq,sS,qo4,quv,qaI,qcl,qcQ,qbc,qbN,qbz,qby,qbF,qaU,qaS,qa9,qa1,qbd,qaT,qaQ,qaZ,qaR,qbf,qcb,qa8,qbO,qcL,qga,qcc,qbv,qla,qr4,qi9,qbK,qbP,qdD,qaK,qbl,qbJ,qcR,qbi,qbZ,qbv,qcS] at l0
 have lne:ns≠[]->ms≠[]->Lz one/\Lz two:=λh1 h2=>⟨qmf t1 λz=>h1 (n1.mp z),qmf t2 λz=>h2 (n2.mp z)⟩
 refine ⟨_,ha2,qbI (λc1=>⟨_,hb2,qbI (λc2=>⟨⟨_,hK H2⟩,?_⟩) (λc2=>l0 (.inr (by simpa using c2)))⟩) (λc1=>l0 (.inl (by simpa using c1)))⟩
 obtain ⟨z1,z2⟩:=lne (by simpa using c1) (by simpa using c2)
 refine qoe (xs:=exps.map λe:Nat=>V.int (e:Int)) (λi σ H'=>i<8/\∃ u v,σ=[some (.ref a),some (.ref b),some (.ref a1),some (.ref a2),u,v]/\Same H2 H') ⟨∅,none,none,rfl,Same.refl H2⟩ (λi σ H' _ _=>hK H') ?_ ?_
 ·rintro i x σ H' hi ⟨i8,u,v,rfl,s3⟩
  rw [wae] at hi
  cases e:exps[i]? with
  | none=>rw [e] at hi;cases hi
  | some ex=>
    rw [e] at hi
    obtain rfl:V.int (ex:Int)=x:=Option.some.inj hi
    obtain ⟨pe,pl⟩:=qtd ex (wat e)
    have h13:=s3 _ _ h12
    have h23:=s3 _ _ h2
    rwa [h13,h23]
    refine ⟨⋯,2,by unfold Bd;decide,⋯,one,two,mers ex,qrf ex,rfl,rfl,pe,qte pl,z1,z2,d,b1,b2,⋯,⋯,nn,⋯,⋯,cc,nc,n2',λnb H4 s4=>⟨?_,s3.trans s4⟩,λt rs H4 s4 ht rc pr=>?_⟩
    ·rcases wan (i+1) 8 with c8 | c8
     ·exact c8
     ·exfalso
      have i7:i=7:=by omega
      rw [i7] at e
      obtain rfl:44497=ex:=Option.some.inj e
      refine nb ?_
      show 2 ^ ((d+nn*(2*cc+4)+cc+2)*(2*(nn - 1)))<mers 44497
      have h1:2 ^ ((d+nn*(2*cc+4)+cc+2)*(2*(nn - 1)))<=2 ^ 44490:=wba ∅ sm
      have h2:2 ^ 44490<mers 44497:=by
       unfold mers
       have e7:2 ^ 44497=2 ^ 44490*2 ^ 7:=by rw [<-Nat.pow_add]
       rw [e7]
       have:1<=2 ^ 44490:=Nat.one_le_two_pow
       omega
      omega
    exact k t rs H4 (s02.trans (s3.trans s4)) ht (λ_=>⟨qmh (wah g10) (wah g20) e1 e2 rc,pr⟩) λh1 _=>absurd h1 (by simpa using c1)
 ·rintro σ H' ⟨i8,_⟩
  exact absurd i8 (by simp [exps])
theorem qhk (l:List Nu):(qbX l).length=l.length:=by unfold qbX;rw [waa]
theorem qpT {l:List Nu} (hl:qbr l) (nl:Nz l):Tz (qbX l):=by
 by_cases h:l=[]
 ·left;rw [h];rfl
 ·right
  rw [qhk]
  exact qpL hl nl (wbr.mpr h)
theorem qvG {l:List Nu} {M N:Int} (hl:qbr l) (hM:Ov l M) (hN:Ov l N) (h:M∣N) {b:Nat} (hb:∀ z∈ovN l N,Bd b z):∀ z∈ovN l M,Bd b z:=λz hz=>by
 obtain ⟨q,hq,rfl⟩:=wai.mp hz
 refine (hb (q.1*(N / q.2)) (wai.mpr ⟨q,hq,rfl⟩)).le ?_
 rw [wam,wam]
 refine wa1 _ ?_
 have p0:=(hl q hq).pos
 obtain ⟨x,hx⟩:=hM.2 q hq
 obtain ⟨y,hy⟩:=h
 have e1:M / q.2=x:=by rw [hx,wco _ (wah p0)]
 have e2:N / q.2=x*y:=by rw [hy,hx,Int.mul_assoc,wco _ (wah p0)]
 rw [e1,e2,wam]
 refine wcn _ ?_
 rcases wbj y.natAbs with z | z
 ·have y0:y=0:=by omega
  have:=hN.1
  rw [hy,y0] at this;omega
 ·exact z
theorem Gq.clr {b c:Nat} {l:List Nu} (G:Gq b c l):(∀ z∈qbX l,Bd b z)/\Bd c (qgA l)/\(∀ q∈l,Bd b q.1):=by
 obtain ⟨M,hO,bM,hz⟩:=G.ov
 have hd:=qmU G.low hO
 exact ⟨qvG G.low (qeh G.low) hO hd hz,qmT (wah hO.1) hd bM,quM G.low hO hz⟩
theorem qpU (g:List Int):(mnc g).length=g.length:=by unfold mnc;rw [waa]
theorem qtf {g:List Int} (lg:Lz g):qbr (mnc g):=λq hq=>by
 obtain ⟨z,_,rfl⟩:=wai.mp hq
 exact qaY lg.2
theorem qtg {g:List Int} (lg:Lz g) (k:Nat):pwo (mnc g) k=(co g k:Rat) / (co g (g.length - 1):Rat):=by
 unfold pwo qhd mnc
 rw [wab,wae]
 unfold co
 rw [wab (l:=g) (i:=k)]
 cases e:g[k]? with
 | none=>
   show val (0,1)=((0:Int):Rat) / _
   unfold val
   show ((0:Int):Rat) / _=_
   rw [show ((0:Int):Rat)=0 from rfl,zdiv,zdiv]
 | some z=>exact qbL lg.2
theorem qrg {g:List Int} (lg:Lz g):qhd (mnc g) (g.length - 1)=(1,1):=qeg (qjU (qtf lg) _) ⟨∅,∅⟩ (by
 have h:=qtg lg (g.length - 1)
 unfold pwo at h
 rw [h]
 have:=qa6 lg.2
 have e1:val (1,1)=1:=by unfold val;show ((1:Int):Rat) / ((1:Int):Rat)=1;grind
 rw [e1];grind)
theorem MR.short {g f:Nat->Rat} {n:Nat} (h0:g n≠0) (h:∀ i,n<i->g i=0) (m:MR g f) (hf:∀ k,n<=k->f k=0) (k:Nat):f k=0:=by
 obtain ⟨A,hA⟩:=m
 rw [hA k]
 exact qhf A (ql5 h0 h A λk hk=>by rw [<-hA k];exact hf k hk) k
theorem MR.less {g f h:Nat->Rat} (m:MR g f) (γ:Rat) (s:Nat) (e:∀ k,h k=f k - γ*upS s g k):MR g h:=by
 obtain ⟨A,hA⟩:=m
 refine ⟨qaN A ((List.replicate s 0++[γ]).map ((-1:Rat)*·)),λk=>?_⟩
 rw [qaw,qau,qcY,e k,hA k]
 have e2:upS s (cvL [γ] g) k=γ*upS s g k:=by
  unfold upS
  by_cases hk:s<=k
  ·rw [if_pos hk,if_pos hk]
   cases hkk:k - s with
   | zero=>rw [qar];grind
   | succ j=>rw [qam,qaF];grind
  ·rw [if_neg hk,if_neg hk];grind
 rw [e2];grind
theorem qln {q:Nu} {n M:Int} (hq:q.2≠0) (hM:M≠0) (h:val q=(n:Rat) / (M:Rat)):Wo q n M:=by
 unfold Wo
 unfold val at h
 have a:=qa6 hq
 have b:=qa6 hM
 have e:(q.1:Rat)*(M:Rat)=(n:Rat)*(q.2:Rat):=by grind
 exact_mod_cast e
theorem qpV {q:Nu} {n M:Int} (hl:Low q.1 q.2) (h:Wo q n M):q.2∣M/\q.1*(M / q.2)=n:=by
 unfold Wo at h
 have d:q.2∣M:=qf9 hl ⟨n,by rw [h,wbh]⟩
 refine ⟨d,?_⟩
 have p0:=hl.pos
 have e:q.2*(q.1*(M / q.2))=q.2*n:=by
  have:=Int.mul_ediv_cancel' d
  calc q.2*(q.1*(M / q.2))=q.1*(q.2*(M / q.2)):=by grind
   _=q.1*M:=by rw [this]
   _=q.2*n:=by rw [h,wbh]
 exact Int.eq_of_mul_eq_mul_left (wah p0) e
theorem quP (f:Nat->Int):∀ (A:List Int) (k:Nat),cvL (A.map λz:Int=>(z:Rat)) (λk=>(f k:Rat)) k=((cvL A f k:Int):Rat)
 | [],_=>rfl
 | x::A,0=>by rw [List.map_cons,qar,qar];push_cast;grind
 | x::A,k+1=>by rw [List.map_cons,qam,qam,quP f A k];push_cast;grind
theorem qpW {f:Nat->Int} {G:Nat->Rat} {β:Rat} (β0:β≠0) (hG:∀ k,G k=β*(f k:Rat)) (A:List Int) (k:Nat):((cvL A f k:Int):Rat)=β⁻¹*cvL (A.map λz:Int=>(z:Rat)) G k:=by
 rw [qas hG,qbo,quP]
 grind
theorem MR.of {f g:Nat->Int} {F G:Nat->Rat} {α β:Rat} (β0:β≠0) (hF:∀ k,F k=α*(f k:Rat)) (hG:∀ k,G k=β*(g k:Rat)) (m:MQ g f):MR G F:=by
 obtain ⟨c,c0,A,hA⟩:=m
 have c1:=qa6 c0
 refine ⟨(A.map λz:Int=>(z:Rat)).map (α*(c:Rat)⁻¹*β⁻¹*·),λk=>?_⟩
 have e:(c:Rat)*(f k:Rat)=((cvL A g k:Int):Rat):=by exact_mod_cast hA k
 rw [qau,hF k]
 rw [qpW β0 hG] at e
 grind
theorem MR.qi {r o g:Nat->Int} {n L M G:Nat->Rat} {α β γ:Rat} (α0:α≠0) (β0:β≠0) (hL:∀ k,L k=α*(r k:Rat)) (hM:∀ k,M k=β*(o k:Rat)) (hG:∀ k,G k=γ*(g k:Rat)) (q:QI r o g) (m1:MR n L) (m2:MR n M):MR n G:=by
 obtain ⟨d,d0,U,W,hU⟩:=q
 obtain ⟨A,hA⟩:=m1
 obtain ⟨B,hB⟩:=m2
 have d1:=qa6 d0
 refine ⟨qaN ((qaE (U.map λz:Int=>(z:Rat)) A).map (γ*(d:Rat)⁻¹*α⁻¹*·)) ((qaE (W.map λz:Int=>(z:Rat)) B).map (γ*(d:Rat)⁻¹*β⁻¹*·)),λk=>?_⟩
 rw [qaw,qau,qau,qav,qav,<-qas hA,<-qas hB]
 have e:(d:Rat)*(g k:Rat)=((cvL U r k:Int):Rat)+((cvL W o k:Int):Rat):=by exact_mod_cast hU k
 rw [qpW α0 hL,qpW β0 hM] at e
 rw [hG k]
 grind
theorem RC.symm {r o:Nat->Int} {g:List Int} (G:RC r o g):RC o r g:=by
 obtain ⟨d,d0,U,W,h⟩:=G.qi
 exact ⟨G.lz,G.right,G.left,⟨d,d0,W,U,λk=>by rw [h k];omega⟩⟩
theorem qr7 {lead:Int} (h0:lead≠0) {B:Nat} {ns:List Int} (hb:∀ z∈ns,Bd B z):Ov (ns.map λn=>qaP n lead) (lead.natAbs:Int)/\∀ z∈ovN (ns.map λn=>qaP n lead) (lead.natAbs:Int),Bd B z:=by
 have A0:(0:Int)<(lead.natAbs:Int):=by omega
 have key:∀ n∈ns,(qaP n lead).2∣(lead.natAbs:Int)/\Bd B ((qaP n lead).1*((lead.natAbs:Int) / (qaP n lead).2)):=λn hn=>by
  have lq:=qaY (n:=n) h0
  have l1:=qa6 h0
  have:∃ s:Int,val (qaP n lead)=(s:Rat) / (((lead.natAbs:Int):Int):Rat)/\Bd B s:=by
   rw [qbL h0]
   rcases Int.natAbs_eq lead with e | e
   ·exact ⟨n,by rw [<-e],hb n hn⟩
   ·refine ⟨-n,?_,(hb n hn).neg⟩
    have e':(lead.natAbs:Int) = -lead:=by omega
    rw [e'];push_cast;grind
  obtain ⟨s,hs,bs⟩:=this
  obtain ⟨d1,d2⟩:=qpV lq (qln (wah lq.pos) (wah A0) hs)
  exact ⟨d1,by rw [d2];exact bs⟩
 refine ⟨⟨A0,λq hq=>?_⟩,λz hz=>?_⟩
 ·obtain ⟨n,hn,rfl⟩:=wai.mp hq
  exact (key n hn).1
 ·obtain ⟨q,hq,rfl⟩:=wai.mp hz
  obtain ⟨n,hn,rfl⟩:=wai.mp hq
  exact (key n hn).2
theorem MR.trans {n M L:Nat->Rat} (h1:MR n M) (h2:MR M L):MR n L:=by
 obtain ⟨A,hA⟩:=h1
 obtain ⟨B,hB⟩:=h2
 exact ⟨qaE B A,λk=>by rw [qav,<-qas hA,hB k]⟩
theorem MR.add {n F G L:Nat->Rat} (h1:MR n F) (h2:MR n G) (h:∀ k,L k=F k+G k):MR n L:=by
 obtain ⟨A,hA⟩:=h1
 obtain ⟨B,hB⟩:=h2
 exact ⟨qaN A B,λk=>by rw [qaw,<-hA k,<-hB k,h k]⟩
theorem MR.smul {n F L:Nat->Rat} (h1:MR n F) (c:Rat) (h:∀ k,L k=c*F k):MR n L:=by
 obtain ⟨A,hA⟩:=h1
 exact ⟨A.map (c*·),λk=>by rw [qau,<-hA k,h k]⟩
theorem MR.sub {n F G L:Nat->Rat} (h1:MR n F) (h2:MR n G) (h:∀ k,L k=F k - G k):MR n L:=
 h1.add (h2.smul (-1) (L:=λk=>-1*G k) λ_=>rfl) λk=>by rw [h k];grind
theorem MR.len {g h:List Int} (lg:Lz g) (lh:Lz h) (m:MR (pwo (mnc g)) (pwo (mnc h))):g.length<=h.length:=by
 rcases wan h.length g.length with y | y
 ·exfalso
  have g0:=lg.1
  have one:∀ {x:List Int},Lz x->pwo (mnc x) (x.length - 1)=1:=λ{x} lx=>by unfold pwo;rw [qrg lx];unfold val;show ((1:Int):Rat) / ((1:Int):Rat)=1;grind
  have z:=MR.short (n:=g.length - 1) (by rw [one lg];decide) (λi hi=>qpe (by rw [qpU];omega)) m (λk hk=>qpe (by rw [qpU];omega)) (h.length - 1)
  rw [one lh] at z
  exact absurd z ∅
 ·exact y
theorem Gq.mono {b c b' c':Nat} {l:List Nu} (G:Gq b c l) (h1:b<=b') (h2:c<=c'):Gq b' c' l:=by
 obtain ⟨x,y,M,O,bM,bz⟩:=G
 exact ⟨x,y,M,O,bM.mono h2,λz hz=>(bz z hz).mono h1⟩
theorem qvH {T:List Nu} {b c:Nat} (hT:qbr T) (nT:Nz T) {M:Int} (M0:0<M) (bM:Bd c M) {N:Nat->Int} (h:∀ k,pwo T k=(N k:Rat) / (M:Rat)) (hN:∀ k,Bd b (N k)):Gq b c T:=by
 have key:∀ q∈T,∃ k,q.2∣M/\q.1*(M / q.2)=N k:=λq hq=>by
  obtain ⟨i,hi,rfl⟩:=wck hq
  have e:qhd T i=T[i]:=by unfold qhd;rw [wab,waf hi];rfl
  have hl:=hT _ hq
  have v:=h i
  unfold pwo at v
  rw [e] at v
  exact ⟨i,qpV hl (qln (wah hl.pos) (wah M0) v)⟩
 refine ⟨hT,nT,M,⟨M0,λq hq=>?_⟩,bM,λz hz=>?_⟩
 ·obtain ⟨k,a,_⟩:=key q hq;exact a
 ·obtain ⟨q,hq,rfl⟩:=wai.mp hz
  obtain ⟨k,_,a⟩:=key q hq
  rw [a];exact hN k
theorem qwn (ns:List Int) (f:Int):List.map V.int (ns.map (f*·))=qbu ns.length λk=>f*ns.getD k 0:=by
 unfold qbu
 congr 1
 apply List.ext_getElem?
 intro i
 rw [wae,wae]
 by_cases h:i<ns.length
 ·rw [wb1 h,waf h]
  show _=some (f*ns.getD i 0)
  rw [wab,waf h]
  rfl
 ·rw [wa0 ⋯,wa0 (by rw [waw];omega)]
  rfl
theorem qf0 (m:Nat) (f:Nat->Int):qbu (m+1) f=qbu m f++[V.int (f m)]:=by
 unfold qbu
 rw [List.range_succ,wbo,wbo]
 rfl
theorem qij (ns:List Int):ns.map V.int=qbu ns.length λk=>ns.getD k 0:=by
 have h:=qwn ns 1
 have e:ns.map (1*·)=ns:=by
  have e2:(λx:Int=>1*x)=id:=funext λx=>Int.one_mul x
  rw [e2,List.map_id]
 rw [e] at h
 rw [h]
 exact qbQ λi _=>by rw [Int.one_mul]
theorem qhl (ns:List Int) (lo hi:Option Int):∃ ms:List Int,qhw (ns.map V.int) lo hi=ms.map V.int/\ms.length<=ns.length:=by
 unfold qhw
 rw [<-List.map_drop,<-List.map_take]
 exact ⟨_,rfl,by rw [wa7,List.length_drop];omega⟩
theorem qpX (h:qdD K vs H Q E):qm3 K { nx:=λ_ H'=>Q .non H',rt:=Q } (L2.start ["_law_script","_law_first"] vs) H:=by
 obtain ⟨s,ns,rfl,hs,n63,k⟩:=h
 unfold qm3
 rwa []
 obtain ⟨c1,e1,_⟩:=qhl ns none (some 1)
 obtain ⟨c2,e2,l2⟩:=qhl ns none (some 63)
 refine ⟨_,hs,λp hp=>⟨c1,e1,_,Same.seq (qag hp _) hs,λp1 h1 l hl=>⟨⟨∅,(qvC ∅ ∅).mono ∅⟩,∅,sz ∅,λr hr=>?_⟩⟩⟩
 have t1:=qag hp (.lst (qhw (ns.map V.int) none (some 1)))
 have t2:=qag h1 (.lst (qhw (ns.map V.int) none (some 63)))
 have t3:=qag hl (.lst (qhw (ns.map V.int) none (some 63)))
 have t4:=(t1.trans t2).trans t3
 have r0:H r=none:=by
  cases e:H r with
  | none=>rfl
  | some o=>have z:=t4 _ _ e;rw [hr] at z;cases z
 refine k r l _ r0 (Kp.of_same (t4.trans (qag hr _))) ⟨c2,0,_,_,qah,?_,⋯,?_,∅,∅,?_⟩
 ·rw [<-e2];exact (qag hr _) _ _ qah
 ·exact qaq qah hr
 ·refine Int.ediv_nonneg ?_ ∅
  split <;> omega
theorem qpY (h:qaK K vs H Q E):qm4 K { nx:=λ_ H'=>Q .non H',rt:=Q } (L2.start ["_law_hand_here","_law_many","_law_found","_law_cell","_law_once","_law_twice"] vs) H:=by
 obtain ⟨p,a,m,n,rfl,⟨ns,x,y,z,hp,ha,ln,ap,x0,xn,y0⟩,n9,m0,m9,k⟩:=h
 have A0:∀ x y:Int,atI [V.ref a,V.int x,V.int y,V.int z] 0=some (V.ref a):=λ_ _=>rfl
 have A1:∀ x y:Int,atI [V.ref a,V.int x,V.int y,V.int z] 1=some (V.int x):=λ_ _=>rfl
 have A2:∀ x y:Int,atI [V.ref a,V.int x,V.int y,V.int z] 2=some (V.int y):=λ_ _=>rfl
 have A3:∀ x y:Int,atI [V.ref a,V.int x,V.int y,V.int z] 3=some (V.int z):=λ_ _=>rfl
 have I1:ixN 4 1=some 1:=rfl
 have I2:ixN 4 2=some 2:=rfl
 have kpa:∀ {H1:Hp} {o:HO},H1 a=some (.lst (ns.map V.int))->(upd H1 p o) a=some (.lst (ns.map V.int)):=λh=>by rw [qaC ap];exact h
 have go:∀ (x y:Int) (H1:Hp),H1 p=some (.lst [V.ref a,V.int x,V.int y,V.int z])->H1 a=some (.lst (ns.map V.int))->0<=x->x<=n+1->0<=y->Kp p H H1->qgg K { nx:=λx H'=>Q V.non H',rt:=Q } [some (V.ref p),some (V.int m),none,none,none,none] H1:=λx y H1 hp ha x0 xn y0 k1=>by
  have go2:qgf K { nx:=λx H'=>Q V.non H',rt:=Q } [some (V.ref p),some (V.int m),none,none,none,none] H1:=by
   unfold qgf
   rwa [hp,A1,I1]
   have k2:Kp p H (upd H1 p (.lst [.ref a,.int (x+1),.int y,.int z])):=k1.trans Kp.upd
   have hp2:upd H1 p (.lst [.ref a,.int (x+1),.int y,.int z]) p=_:=qah
   have ha2:upd H1 p (.lst [.ref a,.int (x+1),.int y,.int z]) a=_:=kpa ha
   generalize upd H1 p (.lst [.ref a,.int (x+1),.int y,.int z])=H2 at k2 hp2 ha2 ⊢
   unfold qji
   rwa [hp2,ha2,A0,A1]
   obtain ⟨c1,e1,_⟩:=qhl ns (some ((x+1) % if ((ns.map V.int).length:Int) > 1 then ((ns.map V.int).length:Int) else 1)) none
   obtain ⟨c2,e2,_⟩:=qhl c1 none (some 1)
   rw [e1,e2]
   refine ⟨by split <;> omega,λq1 h1 q2 h2=>⟨c2,rfl,?_⟩⟩
   have s3:=(qag h1 (.lst (c1.map V.int))).trans (qag h2 (.lst (c2.map V.int)))
   have hp3:=s3 _ _ hp2
   have ha3:=s3 _ _ ha2
   have k3:=k2.same s3
   generalize upd (upd H2 q1 (.lst (c1.map V.int))) q2 (.lst (c2.map V.int))=H3 at hp3 ha3 k3 ⊢
   generalize c2.sum=cell
   unfold qjh
   rwa [hp3,A1]
   have L:∀ {x y:Int},0<=x->x<4611686018427387904->IntMulOk x y:=λh1 h2=>qpJ ⋯ ⋯
   have R:∀ {x y:Int},0<=y->y<4611686018427387904->IntMulOk x y:=λh1 h2=>qvD ⋯ ⋯
   refine ⟨∅,L ∅ ∅,L ∅ ∅,R ⋯ ⋯,∅,?_⟩
   generalize (cell % 2147483629+7919*(x+1)+11)*(48271+2*(x+1)) % 2147483647=once
   unfold qjg
   rwa [hp3,A1]
   have z:=wav once (show (39373:Int)≠0 by decide)
   have z2:=waz once (show (0:Int)<39373 by decide)
   refine ⟨∅,R ⋯ ⋯,L ∅ ∅,∅,?_⟩
   unfold qjf
   rwa []
   exact ⟨⟨∅,(qvC ∅ ∅).mono ∅⟩,m0,k _ _ (wav _ ⋯) (waz _ m0) ⟨ns,x+1,y,_,hp3,ha3,ln,ap,⋯,⋯,y0⟩ k3⟩
  unfold qgg
  rwa [hp,A2,A3]
  refine qbI (λ_=>?_) (λ_=>go2)
  refine qbI (λ_=>?_) (λ_=>go2)
  unfold qfP
  rwa [hp,A2]
  refine ⟨m0,?_⟩
  unfold qfO qfN
  rwa [hp,A2,I2]
  exact ⟨⟨m0,(qvC ⋯ ⋯).mono ∅⟩,k _ _ (wav _ ⋯) (waz _ m0) ⟨ns,x,y / m,z,qah,kpa ha,ln,ap,x0,⋯,Int.ediv_nonneg y0 ⋯⟩ (k1.trans Kp.upd)⟩
 unfold qm4
 rwa [hp,ha,A0,A1,A2,A3]
 have go0:=go x y H hp ha x0 ⋯ y0 (Kp.of_same (Same.refl H))
 refine qbI (λ_=>?_) (λ_=>go0)
 refine qbI (λ_=>?_) (λ_=>go0)
 refine qbI (λxl=>?_) (λ_=>go0)
 unfold qfM
 rwa [hp,A1,I1]
 have hp2:upd H p (.lst [.ref a,.int (x+1),.int y,.int z]) p=_:=qah
 have ha2:upd H p (.lst [.ref a,.int (x+1),.int y,.int z]) a=_:=kpa ha
 have k2:Kp p H (upd H p (.lst [.ref a,.int (x+1),.int y,.int z])):=Kp.upd
 generalize upd H p (.lst [.ref a,.int (x+1),.int y,.int z])=H2 at k2 hp2 ha2 ⊢
 unfold qfL
 rwa [hp2,ha2,A0,A1,I2]
 rw [waa] at xl
 obtain ⟨v,hv⟩:=qq6 (ns:=ns) (k:=x+1) ⋯ ⋯
 exact ⟨_,hv,v,rfl,go (x+1) _ _ qah (kpa ha2) ⋯ ⋯ (by split <;> omega) (k2.trans Kp.upd)⟩
theorem qmi (h:qbk K vs H Q E):qjj K { nx:=λ_ H'=>Q .non H',rt:=Q } (L2.start ["_law_top","_law_bottom","_law_one","_law_other"] vs) H:=by
 obtain ⟨a,b,rfl,hb,q⟩:=h
 unfold qjj
 rwa []
 have go:∀ s:Int,(s=if b<0 then -((Int.gcd a b:Nat):Int) else ((Int.gcd a b:Nat):Int))->qsG a s/\qsG b s/\2<=sizeLine/\∀ (p:Addr),H p=none->Q (V.ref p) (upd H p (.tup [.int (a.fdiv s),.int (b.fdiv s)])):=λs hs=>by
  obtain ⟨h1,h2,h3,h4,h5,h6⟩:=qeA hb hs
  have e:qaP a b=(a.fdiv s,b.fdiv s):=by
   refine qeg (qaY hb) h3 ?_
   rw [qbL hb,qfn (q:=(a.fdiv s,b.fdiv s)) (wah h3.pos) hb h4]
  rw [e] at q
  exact ⟨h1,h1,sz ∅,q⟩
 refine while_by (λm σ H'=>∃ x y:Int,σ=[some (.int a),some (.int b),some (.int x),some (.int y)]/\H'=H/\0<=x/\0<=y/\Int.gcd x y=Int.gcd a b/\m=y.natAbs) b.natAbs ⟨_,_,rfl,rfl,by split <;> omega,by split <;> omega,?_,by split <;> omega⟩ ?_
 ·split <;> split <;> simp [Int.neg_gcd,Int.gcd_neg]
 rintro m σ H' ⟨x,y,rfl,rfl,x0,y0,hg,rfl⟩
 rwa []
 refine qbI (λc=>?_) (λc=>?_)
 ·refine ⟨λσ' H''=>∃ m',m'<y.natAbs/\_,λ_ _ h=>h,?_⟩
  have z1:=wav x (show y≠0 by omega)
  have z2:=waz x c
  refine ⟨c,(x % y).natAbs,⋯,y,x % y,rfl,rfl,y0,z1,?_,rfl⟩
  rw [qjP x y0];exact hg
 ·have e:y=0:=by omega
  subst e
  have ex:x=((Int.gcd a b:Nat):Int):=by rw [<-hg,Int.gcd_zero_right];omega
  refine qbI (λc2=>?_) (λc2=>?_)
  ·exact go _ (by rw [if_pos c2,ex])
  ·exact go _ (by rw [if_neg c2,ex])
theorem qlo (h:qbJ K vs H Q E):qic K { nx:=λ_ H'=>Q .non H',rt:=Q } (L2.start ["_law_row","_law_scale_here"] vs) H:=by
 obtain ⟨p,q,ns,t,d,rfl,hp,hq,d0,bt,bn,l9,k⟩:=h
 unfold qic
 rwa [hp,hq]
 refine ⟨⟨_,SqL.of hp⟩,CompJ.lst (xs:=ns.map V.int) (λi ys H'=>i<=ns.length/\Same H H'/\Nums H' ys ((ns.map λn=>qaP (n*t) d).take i)) ⟨wad _,Same.refl H,trivial⟩ ?_ ?_ ?_⟩
 ·rintro i ys H' ⟨h1,s1,hZ⟩
  refine ⟨by rw [waa];exact h1,sz ?_,SqL.of (s1 _ _ hp)⟩
  rw [hZ.length,wa7];omega
 ·rintro i x ys H' hi ⟨h1,s1,hZ⟩
  rw [wae] at hi
  cases e:ns[i]? with
  | none=>rw [e] at hi;cases hi
  | some z=>
    rw [e] at hi
    obtain rfl:=Option.some.inj hi
    have hq1:=s1 _ _ hq
    have hi2:i<ns.length:=(wal.mp e).1
    rwa [hq1]
    refine ⟨qiB (bn z (wat e)) bt,d0,λr hr=>⟨⋯,s1.trans (qag hr _),?_⟩⟩
    have e2:(ns.map λn=>qaP (n*t) d)[i]?=some (qaP (z*t) d):=by rw [wae,e];rfl
    rw [wbl,e2]
    exact (hZ.tp (tpS (qag hr _))).append (Nums.one qpq)
 ·rintro ys H' ⟨_,s1,hZ⟩ a ha
  have e:(ns.map λn=>qaP (n*t) d).take (ns.map V.int).length=ns.map λn=>qaP (n*t) d:=by rw [waa,show ns.length=(ns.map λn=>qaP (n*t) d).length by rw [waa],wa8]
  rw [e] at hZ
  rwa []
  intro r hr
  have s2:=(qag ha (.lst ys)).trans (qag hr (.tup ys))
  exact k r ys _ (s1.trans s2) qah (hZ.tp (tpS s2))
theorem quQ {a b:List Int} (la:0<a.length) (lb:0<b.length):ps a b a.length (a.length+b.length - 1 - 1)=co a (a.length - 1)*co b (b.length - 1):=by
 obtain ⟨i,hi⟩:∃ i,a.length=i+1:=⟨a.length - 1,⋯⟩
 rw [hi]
 show ps a b i _+_=_
 rw [ql1 i _ ⋯,if_pos ⟨⋯,⋯⟩,show i+1+b.length - 1 - 1 - i=b.length - 1 by omega]
 show 0+co a i*co b (b.length - 1)=_
 rw [Nat.add_sub_cancel];omega
theorem qiR (h:qbl K vs H Q E):qfQ K { nx:=λ_ H'=>Q .non H',rt:=Q } (L2.start ["_law_one","_law_other","_law_made","_law_k","_law_a","_law_j","_law_b"] vs) H:=by
 obtain ⟨p,q,ns,ms,n,m,rfl,hp,hq,la,lb,a20,b20,ba,bb,n9,m9,k⟩:=h
 have la1:=la.1
 have lb1:=lb.1
 unfold qfQ
 rwa [hp,hq]
 refine ⟨sz ∅,λa ha=>?_⟩
 have sa:=qag ha (.lst [.int 0])
 have hpa:=sa _ _ hp
 have hqa:=sa _ _ hq
 rwa [hpa,hqa]
 rw [waa,waa]
 have eL:((ns.length:Int)+(ms.length:Int) - 1).toNat=ns.length+ms.length - 1:=by omega
 rw [eL,qhi]
 refine ⟨⋯,⋯,sz ⋯,λw hw=>?_⟩
 generalize hLL:ns.length+ms.length - 1=L at hw ⊢
 have sw:=qag hw (.lst (qbu L λ_=>0))
 have w0:H w=none:=by
  cases e:H w with
  | none=>rfl
  | some o=>have z:=sa _ _ e;rw [hw] at z;cases z
 refine ⟨⟨_,SqL.of (sw _ _ hpa)⟩,ForJ.enumL (xs:=ns.map V.int) (λi σ H'=>∃ x1 x2 x3 x4:Option V,σ=[some (.ref p),some (.ref q),some (.ref w),x1,x2,x3,x4]/\Same H H'/\H' w=some (.lst (qbu L λk=>ps ns ms i k)))
  ⟨none,none,none,none,rfl,sa.trans sw,qah⟩ ?_ ?_ ?_⟩
 ·rintro i σ H' _ ⟨_,_,_,_,_,s1,_⟩
  exact SqL.of (s1 _ _ hp)
 ·rintro i x pp σ H1 hi ⟨x1,x2,x3,x4,rfl,s1,hw1⟩ hpp
  rw [wae] at hi
  cases en:ns[i]? with
  | none=>rw [en] at hi;cases hi
  | some z=>
    rw [en] at hi
    obtain rfl:V.int z=x:=Option.some.inj hi
    have il:i<ns.length:=(wal.mp en).1
    have zd:ns.getD i 0=z:=by rw [wab,en];rfl
    have sp:=qag hpp (.tup [.int (i:Int),.int z])
    rwa []
    refine ⟨⟨_,SqL.of (sp _ _ (s1 _ _ hq))⟩,ForJ.enumL (xs:=ms.map V.int) (λj σ H'=>∃ x3 x4:Option V,σ=[some (.ref p),some (.ref q),some (.ref w),some (.int (i:Int)),some (.int z),x3,x4]/\Same H H'/\H' w=some (.lst (qbu L λk=>in2 ns ms i j k)))
      ⟨x3,x4,rfl,s1.trans sp,by rw [sp _ _ hw1];exact congrArg (λl=>some (HO.lst l)) (qbQ λk _=>(qmS ns ms i k))⟩ ?_ ?_ ?_⟩
    ·rintro j σ H' _ ⟨_,_,_,s2,_⟩
     exact SqL.of (s2 _ _ hq)
    ·rintro j y pq σ H2 hj ⟨y3,y4,rfl,s2,hw2⟩ hpq
     rw [wae] at hj
     cases em:ms[j]? with
     | none=>rw [em] at hj;cases hj
     | some u=>
       rw [em] at hj
       obtain rfl:V.int u=y:=Option.some.inj hj
       have jl:j<ms.length:=(wal.mp em).1
       have ud:ms.getD j 0=u:=by rw [wab,em];rfl
       have sq:=qag hpq (.tup [.int (j:Int),.int u])
       have hw3:=sq _ _ hw2
       rwa [hw3]
       have kl:i+j<L:=by omega
       refine ⟨_,qcH ⋯ (qaW _ kl),qiB (ba z (wat en)) (bb u (wat em)),_,rfl,i+j,?_,λb o h=>Kp.upd b o (qaq h w0) (sq b o (s2 b o h)),?_⟩
       ·rw [qaV];exact qgL ⋯ kl
       ·refine qdm kl ?_ λk _ hk=>?_
        ·rw [qhe,if_pos rfl,zd,ud]
        ·rw [qhe,if_neg hk]
    ·rintro σ H2 ⟨y3,y4,rfl,s2,hw2⟩
     rw [waa] at hw2
     exact ⟨_,_,_,_,rfl,s2,hw2⟩
 ·rintro σ H1 ⟨x1,x2,x3,x4,rfl,s1,hw1⟩
  rwa []
  rw [waa] at hw1
  have ck:∀ k,co ((List.range L).map λk=>ps ns ms ns.length k) k=ps ns ms ns.length k:=λk=>by
   unfold co
   rw [wab,wae]
   by_cases hk:k<L
   ·rw [wb1 hk];rfl
   ·rw [wa0 (by rw [waw];omega),ql1 _ _ ⋯];rfl
  have cl:((List.range L).map λk=>ps ns ms ns.length k).length=L:=by rw [waa,waw]
  refine k w _ H1 s1 hw1 (by rw [cl];omega) ⟨by rw [cl];omega,?_⟩ ck
  rw [ck,cl,<-hLL,quQ la1 lb1]
  exact wak la.2 lb.2
theorem Hand.same {H H':Hp} {p a:Addr} {n:Int} (h:Hand H p a n) (s:Same H H'):Hand H' p a n:=by
 obtain ⟨ns,x,y,z,h1,h2,r⟩:=h
 exact ⟨ns,x,y,z,s _ _ h1,s _ _ h2,r⟩
theorem Hand.mono {H:Hp} {p a:Addr} {n n':Int} (h:Hand H p a n) (e:n<=n'):Hand H p a n':=by
 obtain ⟨ns,x,y,z,h1,h2,h3,h4,h5,h6,h7⟩:=h
 exact ⟨ns,x,y,z,h1,h2,h3,h4,h5,⋯,h7⟩
theorem Hand.ne {H:Hp} {p a q:Addr} {n:Int} (h:Hand H p a n) (e:H q=none):q≠p:=by
 obtain ⟨ns,x,y,z,h1,_⟩:=h
 exact λw=>by rw [w,h1] at e;cases e
theorem Hand.ne2 {H:Hp} {p a q:Addr} {n:Int} (h:Hand H p a n) (e:H q=none):q≠a:=by
 obtain ⟨ns,x,y,z,_,h1,_⟩:=h
 exact λw=>by rw [w,h1] at e;cases e
theorem Hand.upd {H:Hp} {p a q:Addr} {n:Int} {o:HO} (h:Hand H p a n) (e:q≠p) (e2:q≠a):Hand (upd H q o) p a n:=by
 obtain ⟨ns,x,y,z,h1,h2,r⟩:=h
 exact ⟨ns,x,y,z,by rw [qaC e.symm];exact h1,by rw [qaC e2.symm];exact h2,r⟩
theorem qth {d:Int} (h0:0<=d) (h2:d<2):∃ s:Int,atI [V.int 1,V.int (-1)] d=some (V.int s)/\s≠0/\-1<=s/\s<=1:=by
 rcases (show d=0\/d=1 by omega) with e | e <;> subst e
 ·exact ⟨1,rfl,∅,∅,∅⟩
 ·exact ⟨-1,rfl,∅,∅,∅⟩
theorem bdN {n:Nat} {x:Int} (h:x.natAbs<2 ^ n):Bd n x:=h
theorem qmj {n m:Int} (hm:m≠0) (hn:n≠0):(qaP n m).1≠0:=λz=>by
 have v:=qbL (n:=n) hm
 unfold val at v
 rw [z,show ((0:Int):Rat)=0 from rfl,zdiv] at v
 have a:=qa6 hm
 have b:=qa6 hn
 grind
theorem qmk {s d:Int} (s0:s≠0) (h1:-1<=s) (h2:s<=1):(s*d).natAbs=d.natAbs:=by
 rw [wam]
 have:s.natAbs=1:=by omega
 rw [this,Nat.one_mul]
theorem qnQ (h:qcR K vs H Q E):qlg K { nx:=λ_ H'=>Q .non H',rt:=Q } (L2.start ["_law_hand_here"] vs) H:=by
 obtain ⟨p,ad,n,rfl,hH,n9,k⟩:=h
 unfold qlg
 rwa []
 refine ⟨sz ∅,λq hq=>⟨ad,n,hH.same (qag hq _),⋯,∅,∅,λd H1 d0 d2 h1 k1=>?_⟩⟩
 obtain ⟨s,hs,s0,s1,s2⟩:=qth d0 d2
 have k01:Kp p H H1:=(Kp.of_same (qag hq _)).trans k1
 refine ⟨_,k1 _ _ (hH.ne hq) qah,_,hs,ad,n+2,h1,⋯,∅,∅,λe H2 e0 e9 h2 k2=>⟨s,rfl,qvD ⋯ ⋯,ad,n+2+2,h2,⋯,∅,∅,λf H3 f0 f9 h3 k3=>⟨⋯,λr hr=>?_⟩⟩⟩
 have sr:=qag hr (.tup [.int (qaP (s*(1+e)) (1+f)).1,.int (qaP (s*(1+e)) (1+f)).2])
 have f1:1+f≠0:=by omega
 have sm:=qmk (d:=1+e) s0 s1 s2
 obtain ⟨b1,b2⟩:=qsO (c:=4) (d:=4) (n:=s*(1+e)) f1 (bdN (by rw [sm];show _<16;omega)) (bdN (by show _<16;omega))
 exact k r _ _ _ qah (qaY f1) (qmj f1 (wak s0 ⋯)) b1 b2 ((h3.same sr).mono ⋯) (((k01.trans k2).trans k3).same sr)
theorem qju (p:Nat->Int):∀ (w:List Int) (k:Nat),((cvL w p k:Int):Rat)=cvL (w.map λz:Int=>(z:Rat)) (λk=>(p k:Rat)) k
 | [],_=>rfl
 | x::w,0=>by rw [qar];show _=(x:Rat)*(p 0:Rat)+0;push_cast;rfl
 | x::w,k+1=>by rw [qam];show _=(x:Rat)*(p (k+1):Rat)+cvL (w.map λz:Int=>(z:Rat)) (λk=>(p k:Rat)) k;rw [<-qju p w k];push_cast;rfl
theorem qqC (ns:List Int):si ns=Sr.L (ns.map λz:Int=>(z:Rat)):=Sr.ext' λk=>by
 show ((co ns k:Int):Rat)=cvL _ qb8 k
 rw [qcC]
 unfold co
 rw [wab,wab,wae]
 cases ns[k]? <;> rfl
theorem qf1 (ns:List Int):Sr.Pol (si ns):=⟨_,qqC ns⟩
theorem qlp {ns qs ms:List Int} (h:∀ k,co ns k=cvL qs (co ms) k):si ns=si qs*si ms:=by
 rw [qqC qs,Sr.L_mul]
 refine Sr.ext' λk=>?_
 show ((co ns k:Int):Rat)=cvL _ (λk=>((co ms k:Int):Rat)) k
 rw [h k,qju]
theorem qrh {ns:List Int} (h:Lz ns):si ns≠0:=λz=>h.2 (by
 have:=congrFun (congrArg Sr.c z) (ns.length - 1)
 rw [Sr.zero_c] at this
 have this:((co ns (ns.length - 1):Int):Rat)=0:=this
 exact_mod_cast this)
theorem quR (ns:List Int):Sr.Bn (si ns) ns.length:=λk hk=>by
 show ((co ns k:Int):Rat)=0
 rw [qay hk];rfl
theorem qml (ns:List Int) (k:Nat):co (dI ns) k=((k+1:Nat):Int)*co ns (k+1):=by
 by_cases h:k<ns.length - 1
 ·unfold dI
  show ((List.range (ns.length - 1)).map _).getD k 0=_
  rw [wab,wae,wb1 h]
  rfl
 ·rw [qay (by unfold dI;rw [waa,waw];omega),qay (k:=k+1) ⋯,wb3]
theorem qlq (ns:List Int):(dI ns).length=ns.length - 1:=by unfold dI;rw [waa,waw]
theorem qv0 (ns:List Int):si (dI ns)=Sr.D (si ns):=Sr.ext' λk=>by
 show ((co (dI ns) k:Int):Rat)=((k:Rat)+1)*((co ns (k+1):Int):Rat)
 rw [qml];push_cast;rfl
theorem qke {g:Int} (ms:List Int):si (ms.map (g*·))=Sr.num (g:Rat)*si ms:=Sr.ext' λk=>by
 rw [Sr.num_mul]
 show ((co (ms.map (g*·)) k:Int):Rat)=(g:Rat)*((co ms k:Int):Rat)
 have e:co (ms.map (g*·)) k=g*co ms k:=by
  unfold co
  rw [wab,wab,wae]
  cases ms[k]? with
  | none=>simp
  | some z=>rfl
 rw [e];push_cast;rfl
theorem RadOf.smul {F L:Sr} {x:Rat} (h:RadOf F L):RadOf (Sr.num x*F) L:=by
 obtain ⟨S,M,pS,pL,pM,e1,e2,c⟩:=h
 refine ⟨Sr.num x*S,M,(Sr.Pol.num x).mul pS,pL,pM,by rw [e1];grind,by rw [Sr.D_num,e2];grind,c⟩
theorem qvI {g f:List Int} (m:MQ (co g) (co f)):∃ B,Sr.Pol B/\si f=B*si g:=by
 obtain ⟨c,c0,A,h⟩:=m
 have c1:=qa6 c0
 refine ⟨Sr.num ((c:Rat)⁻¹)*si A,(Sr.Pol.num _).mul (qf1 A),?_⟩
 have e:Sr.num (c:Rat)*si f=si A*si g:=by
  rw [<-qke]
  refine qlp λk=>?_
  rw [<-h k]
  unfold co
  rw [wab,wab,wae]
  cases f[k]? with
  | none=>simp
  | some z=>rfl
 have i:=Sr.num_inv c1
 have:si f=Sr.num ((c:Rat)⁻¹)*Sr.num (c:Rat)*si f:=by rw [i];grind
 rw [this,show Sr.num ((c:Rat)⁻¹)*Sr.num (c:Rat)*si f=Sr.num ((c:Rat)⁻¹)*(Sr.num (c:Rat)*si f) by grind,e]
 grind
theorem qvJ {r o g:List Int} (R:RC (co r) (co o) g) {A B:Sr} (pA:Sr.Pol A) (pB:Sr.Pol B) (h1:si r=A*si g) (h2:si o=B*si g):Sr.Cs A B:=by
 obtain ⟨d,d0,U,W,h⟩:=R.qi
 have e:Sr.num (d:Rat)*si g=si U*si r+si W*si o:=by
  rw [qqC U,qqC W,Sr.L_mul,Sr.L_mul]
  refine Sr.ext' λk=>?_
  rw [Sr.num_mul]
  show (d:Rat)*((co g k:Int):Rat)=cvL _ (λk=>((co r k:Int):Rat)) k+cvL _ (λk=>((co o k:Int):Rat)) k
  rw [<-qju,<-qju]
  exact_mod_cast h k
 have e2:Sr.num (d:Rat)=si U*A+si W*B:=Sr.cancel (Sr.Pol.num _) (((qf1 U).mul pA).add ((qf1 W).mul pB)) (qf1 g) (qrh R.lz) (by rw [e,h1,h2];grind)
 exact Sr.Cs.of_unit (qa6 d0) rfl (qf1 U) (qf1 W) e2.symm
theorem qri {ms rs qs:List Int} (R:RC (co ms) (co (dI ms)) rs) (h:∀ k,co ms k=cvL qs (co rs) k):RadOf (si ms) (si qs):=by
 obtain ⟨B,pB,eB⟩:=qvI R.right
 have e:=qlp h
 refine ⟨si rs,B,qf1 rs,qf1 qs,pB,by rw [e];grind,by rw [<-qv0,eB];grind,qvJ R (qf1 qs) pB e eB⟩
theorem qti {ns qs ms:List Int} (ln:Lz ns) (lm:Lz ms) (hl:qs.length=ns.length+1 - ms.length) (h:∀ k,co ns k=cvL qs (co ms) k):Lz qs/\qs.length+ms.length=ns.length+1:=by
 have e:=qlp h
 have n0:=ln.1
 have m0:=lm.1
 have q0:0<qs.length:=by
  rcases wbj qs.length with z | z
  ·rw [way.mp z] at e
   exact absurd (by rw [e,qqC []];show Sr.L []*_=0;rw [Sr.L_nil];grind) (qrh ln)
  ·exact z
 refine ⟨⟨q0,λz=>?_⟩,⋯⟩
 have b1:Sr.Bn (si qs) (qs.length - 1+1):=by rw [Nat.sub_add_cancel q0];exact quR qs
 have b2:Sr.Bn (si ms) (ms.length - 1+1):=by rw [Nat.sub_add_cancel m0];exact quR ms
 have t:=(Sr.top_mul b1 b2).1
 rw [<-e,show qs.length - 1+(ms.length - 1)=ns.length - 1 by omega] at t
 have t:((co ns (ns.length - 1):Int):Rat)=((co qs (qs.length - 1):Int):Rat)*((co ms (ms.length - 1):Int):Rat):=t
 rw [z] at t
 have t2:((co ns (ns.length - 1):Int):Rat)=0:=by rw [t];push_cast;grind
 exact ln.2 (by exact_mod_cast t2)
noncomputable def DvI (ms g:List Int):Prop:=∃ A:List Int,∀ k,co ms k=cvL A (co g) k
theorem DvI.fac {ms g q a:List Int} (h:DvI ms g) (e:∀ k,co g k=cvL q (co a) k):DvI ms a/\DvI ms q:=by
 obtain ⟨A,hA⟩:=h
 refine ⟨⟨qaE A q,λk=>?_⟩,⟨qaE A a,λk=>?_⟩⟩
 ·rw [hA k,qav,qas e]
 ·have e2:∀ k,co g k=cvL a (co q) k:=λk=>by
   have h1:∀ (b:List Int) (k:Nat),co b k=cvL b qb8 k:=λb k=>by rw [qcC];rfl
   rw [e k,qas (h1 a),qas (h1 q),qdO]
  rw [hA k,qav,qas e2]
theorem DvI.self (ms:List Int):DvI ms ms:=⟨[1],λk=>by
 cases k with
 | zero=>rw [qar];grind
 | succ k=>rw [qam,qaF];grind⟩
theorem DvI.len {ms g:List Int} (h:DvI ms g) (l1:Lz ms) (l2:Lz g):g.length<=ms.length:=qna l2 l1 (by
 obtain ⟨A,hA⟩:=h
 exact ⟨1,∅,A,λk=>by rw [Int.one_mul];exact hA k⟩)
theorem DvI.bd {b:Nat} {ms g:List Int} (h:DvI ms g) (l1:Lz ms) (bm:∀ z∈ms,Bd b z) (m9:ms.length<=9) (l2:Lz g):∀ z∈g,Bd (b+108) z:=by
 have gl:=h.len l1 l2
 obtain ⟨A,hA⟩:=h
 exact quO (qgl (n:=9) (c:=4) bm ⟨_,l1.2⟩ m9 ⋯ ∅ hA)
theorem qtj {a:List Int} (h:Lz a):Tz a:=.inr h.2
theorem qvK {ns:List Int} (h:Lz ns):Tz (dI ns):=by
 by_cases c:2<=ns.length
 ·refine qtj ⟨by rw [qlq];omega,?_⟩
  rw [qlq,qml,show ns.length - 1 - 1+1=ns.length - 1 by omega]
  exact wak ⋯ h.2
 ·have e:dI ns=[]:=way.mp (by rw [qlq];omega)
  exact .inl e
theorem qvL {b:Nat} {ns:List Int} (h:∀ z∈ns,Bd b z) (n9:ns.length<=9):∀ z∈dI ns,Bd (b+108) z:=λz hz=>by
 unfold dI at hz
 obtain ⟨k,hk,rfl⟩:=wai.mp hz
 have hk':=wbp.mp hk
 have b4:Bd 4 ((k+1:Nat):Int):=by
  show ((k+1:Nat):Int).natAbs<2 ^ 4
  omega
 exact (b4.mul (qbA h (k+1))).mono ⋯
theorem qlr (h:qbK K vs H Q E):qh0 K { nx:=λ_ H'=>Q .non H',rt:=Q } (L2.start ["row"] vs) H:=by
 obtain ⟨p,ns,b,rfl,hp,l1,bn,b9,k⟩:=h
 unfold qh0
 rwa [hp]
 rw [waa]
 refine ⟨∅,∅,⋯,⋯,CompJ.range (λi zs H'=>i<=ns.length - 1/\Same H H'/\zs=qbu i λk=>((k+1:Nat):Int)*co ns (k+1)) ⟨wad _,Same.refl H,rfl⟩ ?_ ?_ ?_⟩
 ·rintro i zs H' ⟨h1,s1,rfl⟩
  exact ⟨⋯,sz (by rw [qaV];omega)⟩
 ·rintro i zs H' hi ⟨h1,s1,rfl⟩
  have hp1:=s1 _ _ hp
  have g1:atI (ns.map V.int) (1+(i:Int))=some (V.int (co ns (i+1))):=by
   refine qcH (j:=i+1) ⋯ ?_
   rw [qij]
   exact qaW _ ⋯
  rwa [hp1,g1]
  refine ⟨qpJ ⋯ ⋯,⋯,s1,?_⟩
  rw [qf0 i,show (1+(i:Int))=((i+1:Nat):Int) by omega]
  rfl
 ·rintro zs H' ⟨_,s1,rfl⟩ a ha
  refine k a _ (s1.trans (qag ha _)) ?_
  rw [qah,show ((ns.length:Int) - 1).toNat=ns.length - 1 by omega]
  rfl
theorem qmm {b:Nat} {ns ms:List Int} {g:Int} (g0:0<g) (e:ns=ms.map (g*·)) (ln:Lz ns) (bn:∀ z∈ns,Bd b z):Lz ms/\(∀ z∈ms,Bd b z)/\ms.length=ns.length:=by
 have l:ms.length=ns.length:=by rw [e,waa]
 refine ⟨⟨by have:=ln.1;omega,λz=>ln.2 ?_⟩,λz hz=>?_,l⟩
 ·have:=congrFun (congrArg Sr.c (qke (g:=g) ms)) (ns.length - 1)
  rw [<-e,Sr.num_mul] at this
  have this:((co ns (ns.length - 1):Int):Rat)=(g:Rat)*((co ms (ns.length - 1):Int):Rat):=this
  rw [<-l,z] at this
  have t2:((co ns (ms.length - 1):Int):Rat)=0:=by rw [this];push_cast;grind
  rw [<-l]
  exact_mod_cast t2
 ·have b:=bn (g*z) (by rw [e];exact wai.mpr ⟨z,hz,rfl⟩)
  refine Bd.le b ?_
  rw [wam]
  exact wcm _ ⋯
theorem em9 {ns ms:List Int} {b:Nat} (b5:b<=550) (h1:ns.length<=9) (h2:ms.length<=9) (h:ns=[]\/ms=[]):2*3 ^ (ns.length+ms.length)*(b+108+1)<=60000000:=by
 have:ns.length+ms.length<=9:=by rcases h with rfl | rfl <;> simp <;> omega
 have p:=wba (show 0<3 by decide) this
 have:3 ^ 9=19683:=by decide
 have q:2*3 ^ (ns.length+ms.length)*(b+108+1)<=2*19683*659:=wb4 ⋯ ⋯
 omega
theorem qtk {b:Nat} {ms rs qs:List Int} (lm:Lz ms) (bm:∀ z∈ms,Bd b z) (m9:ms.length<=9) (R:RC (co ms) (co (dI ms)) rs) (hl:qs.length=ms.length+1 - rs.length) (h:∀ k,co ms k=cvL qs (co rs) k):Lz qs/\qs.length+rs.length=ms.length+1/\qs.length<=9/\(∀ z∈qs,Bd (b+108) z)/\(∀ z∈rs,Bd (b+108) z)/\DvI ms qs/\DvI ms rs/\RadOf (si ms) (si qs):=by
 obtain ⟨lq,le⟩:=qti lm R.lz hl h
 have d:=(DvI.self ms).fac h
 have r0:=R.lz.1
 exact ⟨lq,le,⋯,d.2.bd lm bm m9 lq,d.1.bd lm bm m9 R.lz,d.2,d.1,qri R h⟩
theorem qtl (qs:List Int):si (qs.map λz=>-z)=Sr.num (-1)*si qs:=by
 have e:(qs.map λz=>-z)=qs.map ((-1:Int)*·):=wcb λz _=>by omega
 rw [e,qke]
 congr 1
theorem qkf (h:qbP K vs H Q E):qgJ K { nx:=λ_ H'=>Q .non H',rt:=Q } (L2.start ["row","short","simple"] vs) H:=by
 obtain ⟨p,ns,b0,rfl,hp,ln,bn,b5,n9,k⟩:=h
 unfold qgJ
 rwa [hp]
 refine ⟨ns,rfl,⋯,qtj ln,λt ms g H1 s1 ht g0 eg pr=>?_⟩
 obtain ⟨lm,bm,ml⟩:=qmm g0 eg ln bn
 have m9:ms.length<=9:=by omega
 have ne:ns≠[]:=wbr.mp ln.1
 have mne:ms≠[]:=wbr.mp lm.1
 have pm:Prim ms:=pr.resolve_left ne
 unfold qeO
 rwa [ht]
 refine ⟨ms,rfl,⋯,b0,bm,⋯,λa H2 s2 ha=>?_⟩
 have ht2:=s2 _ _ ht
 rwa [ht2,ha]
 refine ⟨ms,rfl,dI ms,rfl,qtj lm,qvK lm,b0+108,λz hz=>(bm z hz).mono ⋯,qvL bm m9,9,m9,by rw [qlq];omega,⋯,⋯,4,∅,⋯,em9 ⋯ m9 (by rw [qlq];omega),λb rs H3 s3 hb rc _=>?_⟩
 obtain ⟨R,Pr⟩:=rc (.inl mne)
 have ht3:=s3 _ _ ht2
 have dv:∃ A:List Int,∀ k,co ms k=cvL A (co rs) k:=gauss Pr R.left
 have lrs:rs.length<=9:=by have:=qna R.lz lm R.left;omega
 have brs:∀ z∈rs,Bd (b0+108) z:=DvI.bd dv lm bm m9 R.lz
 rwa [ht3,hb]
 refine ⟨ms,rfl,rs,rfl,R.lz,b0,bm,b0+108,brs,(by have:=wb4 m9 (show b0+108+1<=659 by omega);omega),⋯,⋯,⋯,λno=>absurd dv no,λr qs H4 s4 hr hl hq=>?_⟩
 obtain ⟨lq,le,q9,bq,_,_,_,rad⟩:=qtk lm bm m9 R hl hq
 have S4:=((s1.trans s2).trans s3).trans s4
 have al:=qcy lq.1
 have out:RadOf (si ns) (si qs):=by rw [eg,qke];exact rad.smul
 unfold qeN
 rwa [hr,al]
 refine qbI (λc=>?_) (λc=>?_)
 ·exact k r qs H4 S4 hr lq (by have:=R.lz.1;omega) bq ⟨1,si qs,∅,out,by rw [Sr.num_one];grind⟩ ⋯
 ·refine ⟨⟨_,SqL.of hr⟩,CompJ.lst (xs:=qs.map V.int) (λi ys H'=>i<=qs.length/\Same H4 H'/\ys=((qs.map λz=>-z).take i).map V.int) ⟨wad _,Same.refl H4,rfl⟩ ?_ ?_ ?_⟩
  ·rintro i ys H' ⟨h1,s5,rfl⟩
   exact ⟨by rw [waa];exact h1,sz (by rw [waa,wa7];omega),SqL.of (s5 _ _ hr)⟩
  ·rintro i x ys H' hi ⟨h1,s5,rfl⟩
   rw [wae] at hi
   cases e:qs[i]? with
   | none=>rw [e] at hi;cases hi
   | some z=>
     rw [e] at hi
     obtain rfl:=Option.some.inj hi
     have hi2:i<qs.length:=(wal.mp e).1
     rwa []
     refine ⟨⋯,s5,?_⟩
     rw [wbl,wae,e,wbo]
     rfl
  ·rintro ys H' ⟨_,s5,rfl⟩ a5 ha5
   have e:(qs.map λz=>-z).take (qs.map V.int).length=qs.map λz=>-z:=by
    rw [waa]
    exact List.take_of_length_le (by rw [waa];exact wac _)
   rw [e]
   have cn:∀ k,co (qs.map λz=>-z) k = - co qs k:=λk=>by
    unfold co
    rw [wab,wab,wae]
    cases qs[k]? <;> simp
   refine k a5 (qs.map λz=>-z) _ ((S4.trans s5).trans (qag ha5 _)) qah ⟨by rw [waa];exact lq.1,?_⟩ (by rw [waa];have:=R.lz.1;omega) ?_ ⟨-1,si qs,∅,out,qtl qs⟩ ?_
   ·rw [waa,cn]
    have:=lq.2
    omega
   ·intro z hz
    obtain ⟨y,hy,rfl⟩:=wai.mp hz
    exact (bq y hy).neg
   ·rw [waa,cn]
    have:=lq.2
    omega
theorem qtm {ns:List Int} {t d:Int} (lz:Lz ns) (bn:∀ z∈ns,Bd 36 z) (l:Low t d) (t0:t≠0) (bt:Bd 4 t) (bd:Bd 4 d):Gq 40 40 (ns.map λn=>qaP (n*t) d):=by
 have d0:d≠0:=wah l.pos
 have e:(ns.map λn=>qaP (n*t) d)=(ns.map (·*t)).map λn=>qaP n d:=by rw [List.map_map];rfl
 have b:∀ z∈ns.map (·*t),Bd 40 z:=λz hz=>by obtain ⟨y,hy,rfl⟩:=wai.mp hz;exact (bn y hy).mul bt
 have r:=qr7 d0 b
 rw [<-e] at r
 refine ⟨λq hq=>?_,λq hq=>?_,_,r.1,(bd.le ⋯).mono ∅,r.2⟩
 ·obtain ⟨z,_,rfl⟩:=wai.mp hq;exact qaY d0
 ·rw [List.getLast?_map] at hq
  have l0:=lz.1
  have hl:ns.getLast?=some (co ns (ns.length - 1)):=by
   rw [List.getLast?_eq_getElem?]
   unfold co
   rw [wab,waf ⋯];rfl
  rw [hl] at hq
  obtain rfl:=Option.some.inj hq
  exact qmj d0 (wak lz.2 t0)
theorem qpZ {H:Hp} {p a q:Addr} {n:Int} {ns:List Int} (h:Hand H p a n) (hq:H q=some (.lst (ns.map V.int))):q≠p:=λz=>by
 obtain ⟨_,_,_,_,e,_⟩:=h
 subst z
 rw [e] at hq
 injection hq with hq
 injection hq with hq
 cases ns with
 | nil=>simp at hq
 | cons x ns=>rw [List.map_cons] at hq;injection hq with h1 _;cases h1
theorem qls (h:qbi K vs H Q E):qhZ K { nx:=λ_ H'=>Q .non H',rt:=Q } (L2.start ["row","other","result","place","whole","step","factor"] vs) H:=by
 obtain ⟨p,q,ns,ms,b,d,rfl,hp,hq,bn,bm,b9,d9,ln,lm,k⟩:=h
 unfold qhZ
 rwa [hp,hq]
 have non:∀ xs:List Int,((!(List.map V.int xs).isEmpty)=false)↔xs.length=0:=λxs=>by cases xs <;> simp
 simp only [non]
 refine qbI (λc=>?_) (λc=>qbI (λc2=>?_) (λc2=>?_))
 ·exact ⟨sz ∅,λr hr=>k r _ (qag hr _) (by rw [if_pos (.inl c)];exact qah)⟩
 ·exact ⟨sz ∅,λr hr=>k r _ (qag hr _) (by rw [if_pos (.inr c2)];exact qah)⟩
 rw [if_neg ⋯] at k
 refine ⟨sz ∅,λa ha=>?_⟩
 have sa:=qag ha (.lst [.int 0])
 have hpa:=sa _ _ hp
 have hqa:=sa _ _ hq
 rwa [hpa,hqa]
 rw [waa,waa]
 have eL:((ns.length:Int)+(ms.length:Int) - 1).toNat=ns.length+ms.length - 1:=by omega
 rw [eL,qhi]
 refine ⟨⋯,⋯,sz ⋯,λw hw=>?_⟩
 generalize hLL:ns.length+ms.length - 1=L at hw ⊢
 have sw:=qag hw (.lst (qbu L λ_=>0))
 have w0:H w=none:=by
  cases e:H w with
  | none=>rfl
  | some o=>have z:=sa _ _ e;rw [hw] at z;cases z
 refine ⟨⟨_,SqL.of (sw _ _ hpa)⟩,ForJ.enumL (xs:=ns.map V.int) (λi σ H'=>∃ x1 x2 x3 x4:Option V,σ=[some (.ref p),some (.ref q),some (.ref w),x1,x2,x3,x4]/\Same H H'/\H' w=some (.lst (qbu L λk=>ps ns ms i k)))
  ⟨none,none,none,none,rfl,sa.trans sw,qah⟩ ?_ ?_ ?_⟩
 ·rintro i σ H' _ ⟨_,_,_,_,_,s1,_⟩
  exact SqL.of (s1 _ _ hp)
 ·rintro i x pp σ H1 hi ⟨x1,x2,x3,x4,rfl,s1,hw1⟩ hpp
  rw [wae] at hi
  cases en:ns[i]? with
  | none=>rw [en] at hi;cases hi
  | some z=>
    rw [en] at hi
    obtain rfl:V.int z=x:=Option.some.inj hi
    have il:i<ns.length:=(wal.mp en).1
    have zd:ns.getD i 0=z:=by rw [wab,en];rfl
    have sp:=qag hpp (.tup [.int (i:Int),.int z])
    rwa []
    refine qbI (λc3=>?_) (λc3=>?_)
    ·refine ⟨⟨_,SqL.of (sp _ _ (s1 _ _ hq))⟩,ForJ.enumL (xs:=ms.map V.int) (λj σ H'=>∃ x3 x4:Option V,σ=[some (.ref p),some (.ref q),some (.ref w),some (.int (i:Int)),some (.int z),x3,x4]/\Same H H'/\H' w=some (.lst (qbu L λk=>in2 ns ms i j k)))
      ⟨x3,x4,rfl,s1.trans sp,by rw [sp _ _ hw1];exact congrArg (λl=>some (HO.lst l)) (qbQ λk _=>(qmS ns ms i k))⟩ ?_ ?_ ?_⟩
     ·rintro j σ H' _ ⟨_,_,_,s2,_⟩
      exact SqL.of (s2 _ _ hq)
     ·rintro j y pq σ H2 hj ⟨y3,y4,rfl,s2,hw2⟩ hpq
      rw [wae] at hj
      cases em:ms[j]? with
      | none=>rw [em] at hj;cases hj
      | some u=>
        rw [em] at hj
        obtain rfl:V.int u=y:=Option.some.inj hj
        have jl:j<ms.length:=(wal.mp em).1
        have ud:ms.getD j 0=u:=by rw [wab,em];rfl
        have sq:=qag hpq (.tup [.int (j:Int),.int u])
        have hw3:=sq _ _ hw2
        rwa [hw3]
        have kl:i+j<L:=by omega
        refine ⟨_,qcH ⋯ (qaW _ kl),qpI ((bn z (wat en)).mono ⋯) ((bm u (wat em)).mono ⋯),_,rfl,i+j,?_,λb o h=>Kp.upd b o (qaq h w0) (sq b o (s2 b o h)),?_⟩
        ·rw [qaV];exact qgL ⋯ kl
        ·refine qdm kl ?_ λk _ hk=>?_
         ·rw [qhe,if_pos rfl,zd,ud]
         ·rw [qhe,if_neg hk]
     ·rintro σ H2 ⟨y3,y4,rfl,s2,hw2⟩
      rw [waa] at hw2
      exact ⟨_,_,_,_,rfl,s2,hw2⟩
    ·refine ⟨s1.trans sp,?_⟩
     rw [sp _ _ hw1]
     refine congrArg (λl=>some (HO.lst l)) (qbQ λk _=>?_)
     have z0:z=0:=Decidable.not_not.mp c3
     show ps ns ms i k+_=ps ns ms i k
     rw [zd,z0]
     simp
 ·rintro σ H1 ⟨x1,x2,x3,x4,rfl,s1,hw1⟩
  rwa []
  rw [waa] at hw1
  subst hLL
  exact k w H1 s1 hw1
theorem qvM:Low 1 1:=⟨∅,∅⟩
theorem quS {B:List Nu} (lB:qbr B) (h:pwo B (B.length - 1)=1):qhd B (B.length - 1)=(1,1):=by
 refine qeg (qjU lB _) qvM ?_
 have:val ((1:Int),(1:Int))=1:=by unfold val;show ((1:Int):Rat) / ((1:Int):Rat)=1;rw [show ((1:Int):Rat)=1 from rfl];grind
 rw [this];exact h
theorem quT {B:List Nu} (h:qhd B (B.length - 1)=(1,1)):pwo B (B.length - 1)=1:=by
 unfold pwo
 rw [h]
 unfold val;show ((1:Int):Rat) / ((1:Int):Rat)=1;rw [show ((1:Int):Rat)=1 from rfl];grind
theorem Fq.mono {b c b' c':Nat} {T B:List Nu} (h:Fq b c T B) (h1:b<=b') (h2:c<=c'):Fq b' c' T B:=⟨h.gt.mono h1 h2,h.gb.mono h1 h2,h.ne,h.one,h.cop⟩
theorem Mvd.ne {s:Rat} {b n:Nat} {l L:List Nu} (h:Mvd s b n l L) (h0:l≠[]):L≠[]:=λz=>h0 (way.mp (by rw [<-h.len,z];rfl))
theorem Mvd.one {s:Rat} {b n:Nat} {l L:List Nu} (h:Mvd s b n l L) (h1:qhd l (l.length - 1)=(1,1)):qhd L (L.length - 1)=(1,1):=quS h.gq.low (by rw [h.len,h.top];exact quT h1)
theorem qjv {α:Type} {n k:Nat} (f:Nat->α) (h:k<n):((List.range n).map f)[k]?=some (f k):=by
 rw [wae,wb1 h];rfl
theorem lcv (a b:List Rat) (c:Nat->Rat):cvL a (cvL b c)=cvL b (cvL a c):=funext (qdO c a b)
theorem addv (a:List Rat) (f g:Nat->Rat):cvL a (λk=>f k+g k)=λk=>cvL a f k+cvL a g k:=funext (qdN f g a)
theorem mulv (a b:List Rat) (g:Nat->Rat):cvL (qaE a b) g=cvL a (cvL b g):=funext (qav g a b)
noncomputable def CopL (x y:List Rat):Prop:=∃ U W:List Rat,∀ (g:Nat->Rat) (k:Nat),g k=cvL U (cvL x g) k+cvL W (cvL y g) k
theorem CopL.mul {x y z:List Rat} (h:CopL x y) (h':CopL x z):CopL x (qaE y z):=by
 obtain ⟨U,W,e⟩:=h
 obtain ⟨U',W',e'⟩:=h'
 refine ⟨qaN U (qaE (qaE W U') y),qaE W W',λg k=>?_⟩
 rw [qaw,mulv,mulv,mulv,mulv]
 have h1:=e g k
 have h2:cvL y g=λk=>cvL U' (cvL x (cvL y g)) k+cvL W' (cvL z (cvL y g)) k:=funext (e' (cvL y g))
 rw [h2,addv] at h1
 rw [h1,lcv z y g,lcv x y g]
 grind
theorem CopL.add {x y z c:List Rat} (h:CopL x y) (e:∀ g k,cvL z g k=cvL x g k+cvL c (cvL y g) k):CopL z y:=by
 obtain ⟨U,W,q⟩:=h
 refine ⟨U,qaN W ((qaE U c).map ((-1:Rat)*·)),λg k=>?_⟩
 have ez:cvL z g=λk=>cvL x g k+cvL c (cvL y g) k:=funext (e g)
 rw [qaw,qau,mulv,ez,addv]
 have:=q g k
 grind
theorem qtn {b:Nat} {c:Int} {R:Nat->Int} {n:Nat} (hc:Bd 254 c) (h:∀ j,Bd b (R j)):∀ d,Bd (b+255*d) (sy c R n d)
 | 0=>h _
 | d+1=>by
   have a1:=(hc.mul (qtn (n:=n) hc h d)).mono (show 254+(b+255*d)<=b+255*d+254 by omega)
   exact (((h (n - 1 - (d+1))).mono (show b<=b+255*d+254 by omega)).add a1).mono ⋯
theorem qto {c:Int} {R:Nat->Int} {n p:Nat} (h:p+1<n):sy c R n (n - 1 - p)=R p+c*sy c R n (n - 1 - (p+1)):=by
 rw [show n - 1 - p=(n - 1 - (p+1))+1 by omega]
 show R (n - 1 - (n - 1 - (p+1)+1))+_=_
 rw [show n - 1 - (n - 1 - (p+1)+1)=p by omega]
theorem qkg {b m:Nat} {c:Int} {R:Nat->Int} {n:Nat} (hc:Bd 254 c) (h:∀ j,Bd b (R j)) (hn:n<=m):∀ i j,Bd (b+255*m*i) (rnds c R n i j)
 | 0,j=>h j
 | i+1,j=>by
   show Bd _ (rnd c (rnds c R n i) n i j)
   have e:255*m*(i+1)=255*m*i+255*m:=by rw [Nat.mul_add,Nat.mul_one]
   unfold rnd
   split
   ·exact (qkg hc h hn i j).mono ⋯
   ·exact (qtn hc (qkg hc h hn i) _).mono ⋯
theorem qp0 {n k:Nat} {f:Nat->Int} {v:V} (h:(qbu n f)[k]?=some v):k<n/\v=.int (f k):=by
 have hk:k<n:=by have:=(wal.mp h).1;rw [qaV] at this;exact this
 rw [qaW f hk] at h
 exact ⟨hk,(Option.some.inj h).symm⟩
theorem qrj {l:List Nu} {a b:Int} {mv R:Nat->Int} (hl:qbr l) (b0:0<b) (hR:∀ k,k<l.length->R k=(qbX l).getD k 0*b ^ (l.length - 1 - k)) (hmv:mv=rnds a R l.length (l.length - 1)) (x:Rat) :
  evF (λk=>((mv k*b ^ k:Int):Rat) / ((qgA l*b ^ (l.length - 1):Int):Rat)) l.length x l.length=evF (pwo l) l.length (x+val (a,b)) l.length:=by
 rcases wbj l.length with h | h
 ·rw [h];rfl
 have OL:=qeh hl
 have hB:=qa6 (wah OL.1)
 have hb:=qa6 (wah b0)
 have e0:evF (pwo l) l.length (x+val (a,b)) l.length=evF (λj=>((qbX l).getD j 0:Rat)) l.length (x+val (a,b)) l.length / (qgA l:Rat):=by
  rw [<-qhg]
  exact qdC _ (wac _) λi _ _=>quA hl OL i
 have e1:evF (λk=>((mv k*b ^ k:Int):Rat)) l.length x l.length=evF (toQ mv) l.length (b*x) l.length:=by
  have z:=qpw (f:=toQ mv) (n:=l.length) (x:=x) (s:=(b:Rat)) l.length (wac _)
  rw [Nat.sub_self] at z
  have z2:evF (λk=>((mv k*b ^ k:Int):Rat)) l.length x l.length=evF (λi=>toQ mv i*(b:Rat) ^ i) l.length x l.length:=qdC _ (wac _) λi _ _=>by unfold toQ;push_cast;rfl
  rw [z2,z]
  grind
 have e2:evF (toQ mv) l.length (b*x) l.length=evF (toQ R) l.length (b*x+a) l.length:=by
  rw [hmv]
  exact qsX h
 have e3:=qpx (f:=λj=>((qbX l).getD j 0:Rat)) (n:=l.length) (z:=x+val (a,b)) (s:=(b:Rat)) l.length (wac _)
 have e4:(b:Rat)*(x+val (a,b))=b*x+a:=by
  show (b:Rat)*(x+(a:Rat) / (b:Rat))=_
  grind
 rw [e4] at e3
 have e5:evF (toQ R) l.length (b*x+a) l.length=evF (λi=>((qbX l).getD i 0:Rat)*(b:Rat) ^ (l.length - 1 - i)) l.length (b*x+a) l.length:=qdC _ (wac _) λi _ hi=>by unfold toQ;rw [hR i hi];push_cast;rfl
 rw [qhg,e1,e2,e5,e0]
 obtain ⟨m,hm⟩:∃ m,l.length=m+1:=⟨l.length - 1,⋯⟩
 have e6:(b:Rat) ^ l.length=(b:Rat) ^ (l.length - 1)*b:=by
  rw [hm]
  exact Rat.pow_succ ..
 rw [e6] at e3
 have bp:((b ^ (l.length - 1):Int):Rat)≠0:=qa6 (wah (Int.pow_pos b0))
 have bp2:((b ^ (l.length - 1):Int):Rat)=(b:Rat) ^ (l.length - 1):=by push_cast;rfl
 rw [bp2] at bp
 push_cast
 generalize evF (λi=>((qbX l).getD i 0:Rat)*(b:Rat) ^ (l.length - 1 - i)) l.length (b*x+a) l.length=A at *
 generalize evF (λj=>((qbX l).getD j 0:Rat)) l.length (x+val (a,b)) l.length=C at *
 generalize (b:Rat) ^ (l.length - 1)=S at *
 grind
theorem qdS:∀ (a b:List Int) (x:Int),evI (qaN a b) x=evI a x+evI b x
 | [],b,x=>by show evI b x=0+evI b x;omega
 | a::l,[],x=>by rw [qdB];show _=_+0;omega
 | a::l,b::m,x=>by
   show (a+b)+x*evI (qaN l m) x=a+x*evI l x+(b+x*evI m x)
   rw [qdS l m x];grind
theorem qgn (c:Int):∀ (a:List Int) (x:Int),evI (a.map (c*·)) x=c*evI a x
 | [],x=>by show (0:Int)=c*0;omega
 | a::l,x=>by
   show c*a+x*evI (l.map (c*·)) x=c*(a+x*evI l x)
   rw [qgn c l x];grind
theorem qmn:∀ (a b:List Int) (x:Int),dE (qaN a b) x=dE a x+dE b x
 | [],b,x=>by show dE b x=0+dE b x;omega
 | a::l,[],x=>by rw [qdB];show _=_+0;omega
 | a::l,b::m,x=>by
   show evI (qaN l m) x+x*dE (qaN l m) x=evI l x+x*dE l x+(evI m x+x*dE m x)
   rw [qdS,qmn l m x];grind
theorem qp1 (c:Int):∀ (a:List Int) (x:Int),dE (a.map (c*·)) x=c*dE a x
 | [],x=>by show (0:Int)=c*0;omega
 | a::l,x=>by
   show evI (l.map (c*·)) x+x*dE (l.map (c*·)) x=c*(evI l x+x*dE l x)
   rw [qgn,qp1 c l x];grind
theorem qcE {m:Int}:∀ (a b:List Int) (x:Int),(∀ k,m∣co a k - co b k)->m∣evI a x - evI b x
 | [],[],x,_=>⟨0,by show (0:Int) - 0=m*0;omega⟩
 | a::l,[],x,h=>by
   obtain ⟨u,hu⟩:=h 0
   obtain ⟨v,hv⟩:=qcE l [] x λk=>h (k+1)
   have e1:a - 0=m*u:=hu
   have e2:evI l x - 0=m*v:=hv
   exact ⟨u+x*v,by show a+x*evI l x - 0=_;grind⟩
 | [],b::l,x,h=>by
   obtain ⟨u,hu⟩:=h 0
   obtain ⟨v,hv⟩:=qcE [] l x λk=>h (k+1)
   have e1:0 - b=m*u:=hu
   have e2:0 - evI l x=m*v:=hv
   exact ⟨u+x*v,by show 0 - (b+x*evI l x)=_;grind⟩
 | a::l,b::l',x,h=>by
   obtain ⟨u,hu⟩:=h 0
   obtain ⟨v,hv⟩:=qcE l l' x λk=>h (k+1)
   have e1:a - b=m*u:=hu
   exact ⟨u+x*v,by show a+x*evI l x - (b+x*evI l' x)=_;grind⟩
theorem qlt {m:Int}:∀ (a b:List Int) (x:Int),(∀ k,m∣co a k - co b k)->m∣dE a x - dE b x
 | [],[],x,_=>⟨0,by show (0:Int) - 0=m*0;omega⟩
 | a::l,[],x,h=>by
   obtain ⟨u,hu⟩:=qcE l [] x λk=>h (k+1)
   obtain ⟨v,hv⟩:=qlt l [] x λk=>h (k+1)
   have e1:evI l x - 0=m*u:=hu
   have e2:dE l x - 0=m*v:=hv
   exact ⟨u+x*v,by show evI l x+x*dE l x - 0=_;grind⟩
 | [],b::l,x,h=>by
   obtain ⟨u,hu⟩:=qcE [] l x λk=>h (k+1)
   obtain ⟨v,hv⟩:=qlt [] l x λk=>h (k+1)
   have e1:0 - evI l x=m*u:=hu
   have e2:0 - dE l x=m*v:=hv
   exact ⟨u+x*v,by show 0 - (evI l x+x*dE l x)=_;grind⟩
 | a::l,b::l',x,h=>by
   obtain ⟨u,hu⟩:=qcE l l' x λk=>h (k+1)
   obtain ⟨v,hv⟩:=qlt l l' x λk=>h (k+1)
   exact ⟨u+x*v,by show evI l x+x*dE l x - (evI l' x+x*dE l' x)=_;grind⟩
noncomputable def lin (c:Int) (q:List Int):List Int:=qaN (q.map (c*·)) (0::q)
theorem qr8 (c:Int) (q:List Int) (k:Nat):co (lin c q) k=cvL q (co [c,1]) k:=by
 rw [qbm,qaO,lin,qaw,qau]
 cases k with
 | zero=>rw [qar,qar,qaO];omega
 | succ k=>
   rw [qam,qam,qaO,<-qaO q k]
   cases k with
   | zero=>rw [qar];omega
   | succ k=>rw [qam,qaF];omega
theorem quU (c:Int) (q:List Int) (x:Int):evI (lin c q) x=(c+x)*evI q x:=by
 rw [lin,qdS,qgn];show c*evI q x+(0+x*evI q x)=_;grind
theorem quV (c:Int) (q:List Int) (x:Int):dE (lin c q) x=(c+x)*dE q x+evI q x:=by
 rw [lin,qmn,qp1];show c*dE q x+(evI q x+x*dE q x)=_;grind
theorem parted {m c:Int} {ns qs rs:List Int} (h:∀ k,m∣co rs k - (co ns k - cvL qs (co [c,1]) k)) (l1:rs.length<2):m∣evI ns (-c) - co rs 0/\m∣dE ns (-c) - evI qs (-c):=by
 have h':∀ k,m∣co ns k - co (qaN (lin c qs) rs) k:=λk=>by
  have e:co (qaN (lin c qs) rs) k=cvL qs (co [c,1]) k+co rs k:=by rw [qaO,qaw,<-qaO,<-qaO,qr8]
  obtain ⟨u,hu⟩:=h k
  exact ⟨-u,by rw [e];grind⟩
 have e1:=qcE _ _ (-c) h'
 have e2:=qlt _ _ (-c) h'
 rw [qdS,quU] at e1
 rw [qmn,quV] at e2
 have er:evI rs (-c)=co rs 0/\dE rs (-c)=0:=by
  match rs,l1 with
  | [],_=>exact ⟨rfl,rfl⟩
  | [v],_=>exact ⟨by show v + -c*0=v;omega,by show (0:Int) + -c*0=0;omega⟩
 rw [er.1] at e1
 rw [er.2] at e2
 have z:c + -c=0:=by omega
 rw [z] at e1 e2
 refine ⟨?_,?_⟩
 ·obtain ⟨u,hu⟩:=e1;exact ⟨u,by grind⟩
 ·obtain ⟨u,hu⟩:=e2;exact ⟨u,by grind⟩
theorem qv1:∀ (l:List Int) (r h:Int),∃ E,evI l (r+h)=evI l r+h*E
 | [],r,h=>⟨0,by show (0:Int)=0+h*0;omega⟩
 | a::l,r,h=>by
   obtain ⟨E,e⟩:=qv1 l r h
   exact ⟨evI l r+(r+h)*E,by show a+(r+h)*evI l (r+h)=a+r*evI l r+h*_;rw [e];grind⟩
theorem qvN:∀ (l:List Int) (r h:Int),∃ E,evI l (r+h)=evI l r+h*dE l r+h*h*E
 | [],r,h=>⟨0,by show (0:Int)=0+h*0+h*h*0;omega⟩
 | a::l,r,h=>by
   obtain ⟨E,e⟩:=qvN l r h
   exact ⟨dE l r+(r+h)*E,by show a+(r+h)*evI l (r+h)=a+r*evI l r+h*(evI l r+r*dE l r)+h*h*_;rw [e];grind⟩
theorem qvO:∀ (l:List Int) (r h:Int),∃ E,dE l (r+h)=dE l r+h*E
 | [],r,h=>⟨0,by show (0:Int)=0+h*0;omega⟩
 | a::l,r,h=>by
   obtain ⟨E,e⟩:=qv1 l r h
   obtain ⟨F,f⟩:=qvO l r h
   exact ⟨E+dE l r+(r+h)*F,by show evI l (r+h)+(r+h)*dE l (r+h)=evI l r+r*dE l r+h*_;rw [e,f];grind⟩
theorem hensel {row:List Int} {r w U lead m v r':Int} (h1:m∣evI row r) (h2:m∣w*dE row r - lead) (hU:m*m∣U*lead - 1) (hv:m*m∣v - U*evI row r) (hr:m*m∣r' - (r - v*w)) :
  m∣r' - r/\m*m∣evI row r'/\∀ t w':Int,m*m∣t - U*dE row r'*w->m*m∣w' - w*(2 - t)->m*m∣w'*dE row r' - lead:=by
 obtain ⟨a,ha⟩:=h1
 obtain ⟨b,hb⟩:=h2
 obtain ⟨c,hc⟩:=hU
 obtain ⟨d,hd⟩:=hv
 obtain ⟨e,he⟩:=hr
 obtain ⟨k,hk⟩:∃ k,k = -(U*a*w) - m*d*w+m*e:=⟨_,rfl⟩
 have hh:r'=r+m*k:=by
  have v1:v=U*(m*a)+m*m*d:=by rw [ha] at hd;omega
  rw [hk];rw [v1] at he;grind
 obtain ⟨E,hE⟩:=qvN row r (m*k)
 obtain ⟨F,hF⟩:=qvO row r (m*k)
 rw [<-hh] at hE hF
 generalize dE row r=f at hb hE hF
 generalize hfr:dE row r'=f' at hF ⊢
 generalize hev:evI row r'=g at hE ⊢
 rw [ha] at hE
 have hl:U*lead=1+m*m*c:=by omega
 have hw:w*f=lead+m*b:=by omega
 refine ⟨⟨k,⋯⟩,⟨-(a*m*c) - U*a*b+e*f - d*(lead+m*b)+k*k*E,?_⟩,λt w' ht hw'=>?_⟩
 ·have kf:k*f = -(a*(1+m*m*c)) - U*a*m*b - m*d*(lead+m*b)+m*e*f:=by
   rw [hk]
   have:-(U*a*w)*f = -(a*(U*(w*f))):=by grind
   have q2:m*d*w*f=m*d*(w*f):=by grind
   have q3:(-(U*a*w) - m*d*w+m*e)*f = -(U*a*w)*f - m*d*w*f+m*e*f:=by grind
   rw [q3,this,q2,hw]
   have q4:U*(lead+m*b)=U*lead+U*(m*b):=by grind
   rw [q4,hl];grind
  rw [hE]
  have:m*k*f=m*(k*f):=by grind
  rw [this,kf];grind
 ·obtain ⟨g',hg⟩:=ht
  obtain ⟨j,hj⟩:=hw'
  obtain ⟨y,hy⟩:∃ y,y=b+w*k*F:=⟨_,rfl⟩
  have hz:w*f'=lead+m*y:=by rw [hF,hy];grind
  have t1:t=U*(w*f')+m*m*g':=by grind
  have w1:w'=w*(2 - t)+m*m*j:=by omega
  have e1:w'*f'=(w*f')*(2 - t)+m*m*j*f':=by rw [w1];grind
  rw [t1,hz] at e1
  refine ⟨-(lead*c) - 2*m*y*c - U*y*y - g'*(lead+m*y)+j*f',?_⟩
  rw [e1]
  have u1:U*(lead+m*y)=1+m*m*c+U*(m*y):=by rw [<-hl];grind
  rw [u1]
  have u2:(lead+m*y)*(U*(m*y))=(1+m*m*c)*(m*y)+U*(m*y)*(m*y):=by rw [<-hl];grind
  have:(lead+m*y)*(2 - (1+m*m*c+U*(m*y)+m*m*g'))=(lead+m*y)*(1 - m*m*c - m*m*g') - (lead+m*y)*(U*(m*y)):=by grind
  rw [this,u2];grind
theorem qkh {a b c:Int} (h:a∣b*c) (g:Int.gcd a c=1):a∣b:=by
 have h1:Nat.Coprime a.natAbs c.natAbs:=g
 refine wbb.mp (h1.dvd_of_dvd_mul_right ?_)
 rw [<-wam]
 exact wbb.mpr h
theorem qp2 {s:Int} (h:s≠0):∀ n:Nat,s ^ n≠0
 | 0=>by rw [wbm];decide
 | n+1=>by rw [wb0];exact wak (qp2 h n) h
theorem qni {p:Nat} (hp:Pr p) {a:Int} (h:¬ (p:Int)∣a):Int.gcd (p:Int) a=1:=by
 rcases hp.div _ (Int.gcd_dvd_natAbs_left (p:Int) a) with z | z
 ·exact z
 ·exact absurd (z ▸ wb5 (p:Int) a) h
theorem qp3 {p:Nat} (hp:Pr p) {a:Int} (h:¬ (p:Int)∣a) (j:Nat):Int.gcd ((p ^ j:Nat):Int) a=1:=by
 have h1:Nat.Coprime p a.natAbs:=qni hp h
 exact Nat.Coprime.pow_left j h1
theorem qp4 {p:Nat} (hp:Pr p) {a h:Int} (n:¬ (p:Int)∣a) (j:Nat) (d:((p ^ j:Nat):Int)∣h*a):((p ^ j:Nat):Int)∣h:=qkh d (qp3 hp n j)
theorem qeP {p:Nat} (hp:Pr p) {a b:Int} (h:(p:Int)∣a*b):(p:Int)∣a\/(p:Int)∣b:=by
 by_cases c:(p:Int)∣b
 ·exact .inr c
 ·have:=qp4 hp c 1 (h:=a) (by rw [Nat.pow_one];exact h)
  rw [Nat.pow_one] at this
  exact .inl this
theorem qlu {p:Nat} (hp:Pr p) {a:Int}:∀ n:Nat,(p:Int)∣a ^ n->(p:Int)∣a
 | 0,h=>by
   rw [wbm] at h
   have:=wb7 ∅ h
   have:=hp.two
   omega
 | n+1,h=>by
   rw [wb0] at h
   rcases qeP hp h with z | z
   ·exact qlu hp n z
   ·exact z
theorem uniq {p j:Nat} (hp:Pr p) {row:List Int} {r x:Int} (d:(p:Int)∣x - r) (h1:((p ^ j:Nat):Int)∣evI row r) (h2:((p ^ j:Nat):Int)∣evI row x) (n:¬ (p:Int)∣dE row r):((p ^ j:Nat):Int)∣x - r:=by
 obtain ⟨E,hE⟩:=qvN row r (x - r)
 rw [show r+(x - r)=x by omega] at hE
 have e:(x - r)*(dE row r+(x - r)*E)=evI row x - evI row r:=by rw [hE];grind
 refine qp4 hp (a:=dE row r+(x - r)*E) (λz=>n ?_) j (by rw [e];exact Int.dvd_sub h2 h1)
 obtain ⟨u,hu⟩:=d
 obtain ⟨v,hv⟩:=z
 exact ⟨v - u*E,by rw [hu] at hv;grind⟩
theorem qtp {m t s x:Int} (h:m∣s*x - t):∀ l:List Int,m∣s ^ l.length*evI l x - s*hw l t s
 | []=>⟨0,by show s ^ 0*0 - s*0=m*0;omega⟩
 | a::l=>by
   obtain ⟨u,hu⟩:=qtp h l
   obtain ⟨v,hv⟩:=h
   refine ⟨v*(s ^ l.length*evI l x)+t*u,?_⟩
   show s ^ (l.length+1)*(a+x*evI l x) - s*(a*s ^ l.length+t*hw l t s)=_
   rw [wb0]
   generalize s ^ l.length=y at hu ⊢
   generalize evI l x=z at hu ⊢
   grind
theorem qp5 {t s:Int}:∀ l:List Int,l≠[]->s∣hw l t s - t ^ (l.length - 1)*co l (l.length - 1)
 | [a],_=>⟨0,by show a*s ^ 0+t*0 - t ^ 0*a=s*0;simp⟩
 | a::b::l,_=>by
   obtain ⟨u,hu⟩:=qp5 (t:=t) (s:=s) (b::l) (by simp)
   have e:co (a::b::l) ((a::b::l).length - 1)=co (b::l) ((b::l).length - 1):=rfl
   have e2:(a::b::l).length - 1=(b::l).length - 1+1:=rfl
   rw [e,e2,wb0]
   show s∣a*s ^ (l.length+1)+t*hw (b::l) t s - _
   rw [wb0]
   generalize hw (b::l) t s=y at hu ⊢
   generalize t ^ ((b::l).length - 1)=x at hu ⊢
   generalize co (b::l) ((b::l).length - 1)=w at hu ⊢
   generalize s ^ l.length=v
   exact ⟨a*v+t*u,by grind⟩
theorem qp6 {a b:Int} (h:Int.gcd a b=1) (n:Nat):Int.gcd a (b ^ n)=1:=by
 have h1:Nat.Coprime a.natAbs b.natAbs:=h
 show Nat.gcd a.natAbs (b ^ n).natAbs=1
 rw [Int.natAbs_pow]
 exact Nat.Coprime.pow_right n h1
theorem qp7 {t s:Int} {l:List Int} (n:l≠[]) (g:Int.gcd t s=1) (z:hw l t s=0):s∣co l (l.length - 1):=by
 have h:=qp5 (t:=t) (s:=s) l n
 rw [z] at h
 have h':s∣co l (l.length - 1)*t ^ (l.length - 1):=by obtain ⟨u,hu⟩:=h;exact ⟨-u,by grind⟩
 exact qkh h' (qp6 (by rw [Int.gcd_comm];exact g) _)
theorem quW {t s a:Int} {l:List Int} (g:Int.gcd t s=1) (z:hw (a::l) t s=0):t∣a:=by
 have z':a*s ^ l.length+t*hw l t s=0:=z
 have h':t∣a*s ^ l.length:=⟨-hw l t s,by grind⟩
 exact qkh h' (qp6 g _)
theorem qr9 {t s:Int} (g:Int.gcd t s=1):∀ (n:Nat) (l:List Int),l.length=n->hw l t s=0->∃ A:List Int,∀ k,co l k=cvL A (co [-t,s]) k
 | 0,l,h,_=>⟨[],λk=>by rw [way.mp h];rfl⟩
 | n+1,[],h,_=>nomatch h
 | n+1,[a],_,z=>by
   have z':a*s ^ 0+t*0=0:=z
   rw [wbm] at z'
   exact ⟨[],λk=>by rw [show a=0 by omega];cases k <;> rfl⟩
 | n+1,a::b::l,h,z=>by
   by_cases t0:t=0
   ·subst t0
    have s1:s=1\/s = -1:=by rw [Int.gcd_zero_left] at g;omega
    have z':a*s ^ (l.length+1)+0*hw (b::l) 0 s=0:=z
    have a0:a=0:=by
     have:a*s ^ (l.length+1)=0:=by omega
     rcases wb2.mp this with q | q
     ·exact q
     ·exact absurd q (qp2 (show s≠0 by omega) _)
    refine ⟨(b::l).map (s*·),λk=>?_⟩
    rw [qbm]
    cases k with
    | zero=>rw [a0];show (0:Int) = -0*co ((b::l).map (s*·)) 0+0;omega
    | succ k=>
      rw [qam]
      have e:co ((b::l).map (s*·)) k=s*co (b::l) k:=by
       unfold co;rw [wab,wab,wae]
       cases (b::l)[k]? <;> simp
      have e2:cvL [s] (co ((b::l).map (s*·))) k=s*co ((b::l).map (s*·)) k:=by
       cases k with
       | zero=>rw [qar];omega
       | succ k=>rw [qam,qaF];omega
      rw [e2,e]
      show co (b::l) k=_
      have ss:s*s=1:=by rcases s1 with z | z <;> rw [z] <;> rfl
      grind
   ·obtain ⟨c,hc⟩:=quW g z
    have z':a*s ^ (l.length+1)+t*(b*s ^ l.length+t*hw l t s)=0:=z
    have z2:hw ((b+s*c)::l) t s=0:=by
     show (b+s*c)*s ^ l.length+t*hw l t s=0
     have:t*((b+s*c)*s ^ l.length+t*hw l t s)=0:=by
      rw [hc,wb0] at z'
      generalize s ^ l.length=y at z' ⊢
      generalize hw l t s=w at z' ⊢
      grind
     exact (wb2.mp this).resolve_left t0
    obtain ⟨A,hA⟩   := qr9 g n ((b+s*c)::l) (by simpa using h) z2
    refine ⟨-c::A,λk=>?_⟩
    cases k with
    | zero=>rw [qar];show a = -c * -t+0;rw [hc];grind
    | succ k=>
      rw [qam,<-hA k]
      cases k with
      | zero=>show b = -c*s+(b+s*c);grind
      | succ k=>show co l k = -c*co [-t,s] (k+2)+co l k;rw [show co [-t,s] (k+2)=0 from rfl];omega
noncomputable abbrev qR (l:List Int):List Rat:=l.map λz:Int=>(z:Rat)
theorem rpow_ne' {x:Rat} (h:x≠0):∀ n:Nat,x ^ n≠0
 | 0=>by rw [Rat.pow_zero];grind
 | n+1=>by rw [Rat.pow_succ];exact λz=>(wbv.mp z).elim (rpow_ne' h n) h
theorem qsa {t s:Int} (s0:s≠0):∀ l:List Int,(hw l t s:Rat)*(s:Rat)=Sr.ev (qR l) ((t:Rat) / (s:Rat))*(s:Rat) ^ l.length
 | []=>by show ((0:Int):Rat)*_=0*_;grind
 | a::l=>by
   have s1:(s:Rat)≠0:=qa6 s0
   have ih:=qsa s0 l (t:=t)
   show ((a*s ^ l.length+t*hw l t s:Int):Rat)*s=((a:Rat)+(t:Rat) / (s:Rat)*Sr.ev (qR l) _)*(s:Rat) ^ (l.length+1)
   rw [Rat.pow_succ]
   push_cast
   have q:(t:Rat) / (s:Rat)*(s:Rat)=t:=Rat.div_mul_cancel s1
   generalize (t:Rat) / (s:Rat)=x at q ih ⊢
   generalize Sr.ev (qR l) x=y at ih ⊢
   generalize (s:Rat) ^ l.length=z at ih ⊢
   have e:((t:Rat)*(hw l t s:Rat))*(s:Rat)=t*(y*z):=by rw [<-ih];grind
   have e2:(t:Rat)*(y*z)=x*y*(z*s):=by rw [<-q];grind
   grind
theorem qjw {t s:Int} (s0:s≠0) (l:List Int):hw l t s=0↔Sr.ev (qR l) ((t:Rat) / (s:Rat))=0:=by
 have s1:(s:Rat)≠0:=qa6 s0
 have h:=qsa s0 l (t:=t)
 constructor
 ·intro z
  rw [z] at h
  have h:Sr.ev (qR l) ((t:Rat) / (s:Rat))*(s:Rat) ^ l.length=0:=by rw [<-h];show ((0:Int):Rat)*_=0;grind
  rcases wbv.mp h with q | q
  ·exact q
  ·exact absurd q (rpow_ne' s1 _)
 ·intro z
  rw [z] at h
  have h:(hw l t s:Rat)*(s:Rat)=0:=by rw [h];grind
  rcases wbv.mp h with q | q
  ·exact_mod_cast q
  ·exact absurd q s1
theorem qsb (l:List Int):Sr.L (qR l)=si l:=(qqC l).symm
theorem quX {t s:Int} (s0:s≠0) {l A:List Int} (h:∀ k,co l k=cvL A (co [-t,s]) k):hw l t s=0:=by
 rw [qjw s0]
 have e:Sr.L (qR l)=Sr.L (qaE (qR A) (qR [-t,s])):=by rw [Sr.L_mulRow,qsb,qsb,qsb];exact qlp h
 rw [Sr.ev_congr e,Sr.ev_mul]
 have s1:(s:Rat)≠0:=qa6 s0
 have q:(t:Rat) / (s:Rat)*(s:Rat)=t:=Rat.div_mul_cancel s1
 have:Sr.ev (qR [-t,s]) ((t:Rat) / (s:Rat))=0:=by
  show ((-t:Int):Rat)+(t:Rat) / (s:Rat)*((s:Rat)+(t:Rat) / (s:Rat)*0)=0
  push_cast;grind
 rw [this];grind
theorem qrk {ns rs:List Int} (n0:si ns≠0) (h:∃ (c:Rat) (L:Sr),c≠0/\RadOf (si ns) L/\si rs=Sr.num c*L) (x:Rat):Sr.ev (qR ns) x=0↔Sr.ev (qR rs) x=0:=by
 obtain ⟨c,L,c0,⟨S,M,pS,pL,pM,e1,e2,cs⟩,e3⟩:=h
 obtain ⟨s,rfl⟩:=pS
 obtain ⟨l,rfl⟩:=pL
 have S0:Sr.L s≠0:=λz=>n0 (by rw [e1,z];grind)
 have en:Sr.L (qR ns)=Sr.L (qaE s l):=by rw [qsb,Sr.L_mulRow];exact e1
 have er:Sr.L (qR rs)=Sr.L (l.map (c*·)):=by rw [qsb,Sr.L_scal];exact e3
 rw [Sr.ev_congr en,Sr.ev_congr er,Sr.ev_mul,Sr.ev_scal]
 constructor
 ·intro z
  rcases wbv.mp z with q | q
  ·have hD:Sr.D (Sr.L s)*Sr.L l=(M - Sr.D (Sr.L l))*Sr.L s:=by
    rw [e1,Sr.D_mul (Sr.Pol.L s)] at e2
    grind
   obtain ⟨m,a,⟨a',rfl⟩,pw⟩:=Sr.rad_pow _ (Sr.L s) (Sr.L l) _ (Sr.L_bn s) S0 (Sr.Pol.L l) (Sr.Pol.sub pM (Sr.Pol.D (Sr.Pol.L l))) hD
   obtain ⟨lm,hlm⟩:∃ lm:Nat->List Rat,∀ n,Sr.L (lm n)=Sr.L l ^ n/\Sr.ev (lm n) x=Sr.ev l x ^ n:=by
    refine ⟨λn=>Nat.rec [1] (λ_ y=>qaE y l) n,λn=>?_⟩
    induction n with
    | zero=>exact ⟨by show Sr.L [1]=_;rw [<-Sr.num_L,Sr.num_one];grind,by show (1:Rat)+x*0=_;rw [Rat.pow_zero];grind⟩
    | succ n ih=>exact ⟨by show Sr.L (qaE _ l)=_;rw [Sr.L_mulRow,ih.1];grind,by show Sr.ev (qaE _ l) x=_;rw [Sr.ev_mul,ih.2,Rat.pow_succ]⟩
   have e:Sr.L (lm m)=Sr.L (qaE a' s):=by rw [(hlm m).1,Sr.L_mulRow];exact pw
   have v:=Sr.ev_congr e x
   rw [(hlm m).2,Sr.ev_mul,q] at v
   have l0:Sr.ev l x=0:=by
    by_cases y:Sr.ev l x=0
    ·exact y
    ·exact absurd (show Sr.ev l x ^ m=0 by rw [v];grind) (rpow_ne' y m)
   rw [l0];grind
  ·rw [q];grind
 ·intro z
  rw [(wbv.mp z).resolve_left c0];grind
theorem siegel {A B:List Int} {T b:Nat} (lA:Lz A) (lB:Lz B) (q:QI (co A) (co B) qb8) (hA:∀ k,Bd b (co A k)) (hB:∀ k,Bd b (co B k)) (n1:2<=A.length) (m1:2<=B.length) (T0:0<T)
  (big:(2*((A.length+B.length)*2 ^ b)) ^ (A.length+B.length - 2)<T):∃ (U V:List Int) (d:Int),d≠0/\d.natAbs<T/\∀ k,cvL U (co A) k+cvL V (co B) k=co [d] k:=by
 generalize hn:A.length - 1=n at *
 generalize hm:B.length - 1=m at *
 generalize hE:(A.length+B.length)*2 ^ b=E at *
 have N1:A.length+B.length - 2=n+m:=by omega
 rw [N1] at big
 have hAn:∀ k,(co A k).natAbs<=2 ^ b:=λk=>wbt (hA k)
 have hBn:∀ k,(co B k).natAbs<=2 ^ b:=λk=>wbt (hB k)
 have E0:0<E:=by rw [<-hE];exact Nat.mul_pos ⋯ (wbu ∅)
 obtain ⟨u,hu⟩:∃ u:Nat->List Int,∀ t,u t=(digs T (m+n) t).take m:=⟨_,λ_=>rfl⟩
 obtain ⟨v,hv⟩:∃ v:Nat->List Int,∀ t,v t=(digs T (m+n) t).drop m:=⟨_,λ_=>rfl⟩
 obtain ⟨f,hf⟩:∃ f:Nat->Nat->Int,∀ t k,f t k=cvL (u t) (co A) k+cvL (v t) (co B) k:=⟨_,λ_ _=>rfl⟩
 have ul:∀ t,(u t).length=m:=λt=>by rw [hu,wa7,qfV];omega
 have vl:∀ t,(v t).length=n:=λt=>by rw [hv,List.length_drop,qfV];omega
 have uz:∀ t,∀ z∈u t,0<=z/\z<(T:Int):=λt z hz=>qif T0 _ t z (wcg (hu t ▸ hz))
 have vz:∀ t,∀ z∈v t,0<=z/\z<(T:Int):=λt z hz=>qif T0 _ t z (List.mem_of_mem_drop (hv t ▸ hz))
 have fb:∀ t k,(f t k).natAbs<E*T:=λt k=>by
  have h1:=qll (q:=T - 1) hAn (u t) (λz hz=>by have:=uz t z hz;omega) k
  have h2:=qll (q:=T - 1) hBn (v t) (λz hz=>by have:=vz t z hz;omega) k
  rw [ul] at h1
  rw [vl] at h2
  have h3:(f t k).natAbs<=(m+n)*((T - 1)*2 ^ b):=by
   rw [Nat.add_mul,hf]
   omega
  refine wa4 h3 ?_
  rw [<-hE]
  have e:(m+n)*((T - 1)*2 ^ b)=((m+n)*2 ^ b)*(T - 1):=by rw [wbe (T - 1),wb8]
  rw [e]
  exact wau (Nat.mul_lt_mul_of_pos_left ⋯ (Nat.mul_pos ⋯ (wbu ∅))) (wbd T (wbd _ ⋯))
 obtain ⟨e0,he0⟩:∃ e0:Nat->Nat,∀ t,e0 t=(f t 0 / (T:Int)+(E:Int)).toNat:=⟨_,λ_=>rfl⟩
 obtain ⟨ek,hek⟩:∃ ek:Nat->Nat->Nat,∀ t k,ek t k=(f t (k+1)+((E*T:Nat):Int)).toNat:=⟨_,λ_ _=>rfl⟩
 have e0r:∀ t,0<=f t 0 / (T:Int)+(E:Int)/\f t 0 / (T:Int)+(E:Int)<2*(E:Int):=λt=>by
  have h:=fb t 0
  have h1:-((E:Int)*(T:Int))<=f t 0:=by have:((E*T:Nat):Int)=(E:Int)*(T:Int):=by push_cast;rfl
                                        omega
  have h2:f t 0<(E:Int)*(T:Int):=by have:((E*T:Nat):Int)=(E:Int)*(T:Int):=by push_cast;rfl
                                    omega
  have q1:-(E:Int)<=f t 0 / (T:Int):=by
   refine (Int.le_ediv_iff_mul_le ⋯).mpr ?_
   rw [Int.neg_mul];exact h1
  have q2:f t 0 / (T:Int)<(E:Int):=Int.ediv_lt_of_lt_mul ⋯ h2
  omega
 have ekr:∀ t k,0<=f t (k+1)+((E*T:Nat):Int)/\f t (k+1)+((E*T:Nat):Int)<2*((E*T:Nat):Int):=λt k=>by
  have h:=fb t (k+1)
  omega
 have e0l:∀ t,e0 t<2*E:=λt=>by have:=e0r t;rw [he0];omega
 have ekl:∀ t k,ek t k<2*(E*T):=λt k=>by have:=ekr t k;rw [hek];omega
 have cl:∀ t,e0 t+2*E*enc (2*(E*T)) (m+n - 1) (ek t)<2*E*(2*(E*T)) ^ (m+n - 1):=λt=>by
  have h1:=qpM (M:=2*(E*T)) (m+n - 1) (ek t) (λk _=>ekl t k)
  have h2:2*E*(enc (2*(E*T)) (m+n - 1) (ek t)+1)<=2*E*(2*(E*T)) ^ (m+n - 1):=wa1 _ h1
  have h3:=e0l t
  rw [Nat.mul_add,Nat.mul_one] at h2
  omega
 have room:2*E*(2*(E*T)) ^ (m+n - 1)<T ^ (m+n):=by
  obtain ⟨N,hN⟩:∃ N,m+n=N+1:=⟨m+n - 1,⋯⟩
  rw [hN,Nat.add_sub_cancel]
  rw [Nat.add_comm n m,hN] at big
  have e:2*E*(2*(E*T)) ^ N=(2*E) ^ (N+1)*T ^ N:=by
   rw [<-wb8 2 E T,Nat.mul_pow (2*E) T N,wax,wbe ((2*E) ^ N) (2*E),wb8 (2*E)]
  rw [e,wax T,wbe (T ^ N) T]
  exact Nat.mul_lt_mul_of_pos_right big (wbu T0)
 obtain ⟨s,t,st,ht,e⟩:=php _ _ _ (λi _=>cl i) room
 obtain ⟨q0,q1⟩:=qj6 (e0l s) (e0l t) e
 have qk:=qma (m+n - 1) _ _ (λk _=>ekl s k) (λk _=>ekl t k) q1
 have w0:∀ k,(co (u s) k - co (u t) k)=co (qaN (u s) ((u t).map ((-1)*·))) k:=λk=>by rw [qaO,qaO,qaO,qaw,qau];omega
 have df:∀ k,f s k - f t k=cvL (qaN (u s) ((u t).map ((-1)*·))) (co A) k+cvL (qaN (v s) ((v t).map ((-1)*·))) (co B) k:=λk=>by
  rw [qaw,qaw,qau,qau,hf,hf]
  omega
 have hi:∀ k,0<k->f s k - f t k=0:=λk hk=>by
  rcases wan k (m+n) with c | c
  ·have:=qk (k - 1) ⋯
   have r1:=ekr s (k - 1)
   have r2:=ekr t (k - 1)
   rw [hek,hek,show k - 1+1=k by omega] at this
   rw [show k - 1+1=k by omega] at r1 r2
   omega
  ·have z:∀ t,f t k=0:=λt=>by
    rw [hf,qbM (n:=A.length) (λi hi=>qay hi) (u t) k (by rw [ul];omega),qbM (n:=B.length) (λi hi=>qay hi) (v t) k (by rw [vl];omega)];rfl
   rw [z,z];rfl
 have d0:(f s 0 - f t 0).natAbs<T:=by
  have r1:=e0r s
  have r2:=e0r t
  rw [he0,he0] at q0
  have q0:f s 0 / (T:Int)=f t 0 / (T:Int):=by omega
  have m1:=wcf (f s 0) T
  have m2:=wcf (f t 0) T
  have b1:=wav (f s 0) (show (T:Int)≠0 by omega)
  have b2:=waz (f s 0) (show (0:Int)<T by omega)
  have b3:=wav (f t 0) (show (T:Int)≠0 by omega)
  have b4:=waz (f t 0) (show (0:Int)<T by omega)
  rw [q0] at m1
  omega
 refine ⟨qaN (u s) ((u t).map ((-1)*·)),qaN (v s) ((v t).map ((-1)*·)),f s 0 - f t 0,λz0=>?_,d0,λk=>?_⟩
 ·have all:∀ k,cvL (qaN (u s) ((u t).map ((-1)*·))) (co A) k+cvL (qaN (v s) ((v t).map ((-1)*·))) (co B) k=0:=λk=>by
   rw [<-df]
   cases k with
   | zero=>exact z0
   | succ k=>exact hi (k+1) ⋯
  have ll:∀ {a c:List Int} {x:Nat},a.length=x->c.length=x->(qaN a (c.map ((-1)*·))).length=x:=λ{a c x} h1 h2=>by
   rw [qfW,waa,h1,h2];omega
  obtain ⟨c1,c2⟩:=qpN lA lB q (by rw [ll (ul s) (ul t)];omega) (by rw [ll (vl s) (vl t)];omega) all
  have eu:u s=u t:=qnb (by rw [ul,ul]) λk=>by have:=c1 k;rw [<-w0] at this;omega
  have ev:v s=v t:=qnb (by rw [vl,vl]) λk=>by
   have:=c2 k
   rw [qaO,qaw,qau,<-qaO,<-qaO] at this;omega
  have:digs T (m+n) s=digs T (m+n) t:=by
   rw [<-List.take_append_drop m (digs T (m+n) s),<-List.take_append_drop m (digs T (m+n) t)]
   rw [<-hu,<-hv,<-hu,<-hv,eu,ev]
  have:=qj7 T0 _ _ _ ⋯ ⋯ this
  omega
 ·rw [<-df]
  cases k with
  | zero=>rfl
  | succ k=>rw [hi (k+1) ⋯];exact (qay (by simp)).symm
theorem qmo (A B:List Int) (x:Int) (L:List Int) (h:∀ k,co L k=cvL A (co B) k):evI L x=evI A x*evI B x:=by
 have e:∀ k,(0:Int)∣co L k - co (qaE A B) k:=λk=>⟨0,by rw [h k,qaO (qaE A B),qav,<-qas (λj=>qaO B j)];omega⟩
 have h1:=qcE _ _ x e
 have h2:evI L x=evI (qaE A B) x:=by have:=Int.zero_dvd.mp h1;omega
 rw [h2]
 have:∀ A:List Int,evI (qaE A B) x=evI A x*evI B x:=by
  intro A
  induction A with
  | nil=>show (0:Int)=0*_;omega
  | cons a l ih=>
    show evI (qaN (B.map (a*·)) (0::qaE l B)) x=(a+x*evI l x)*evI B x
    rw [qdS,qgn]
    show a*evI B x+(0+x*evI (qaE l B) x)=_
    rw [ih];grind
 exact this A
theorem qtq {a b:List Int} (h:∀ k,co a k=co b k) (x:Int):evI a x=evI b x:=by
 have h1:=qcE (m:=0) a b x λk=>⟨0,by rw [h k];omega⟩
 have:=Int.zero_dvd.mp h1
 omega
theorem qtr:∀ (l:List Int) (x:Int),evI (dI l) x=dE l x:=by
 have key:∀ (l:List Int) (c x:Int),∀ D:List Int,(∀ k,co D k=((k:Int)+c)*co l k)->evI D x=c*evI l x+x*dE l x:=by
  intro l
  induction l with
  | nil=>
    intro c x D h
    rw [qfq D x λk=>by rw [h k];show _*0=(0:Int);omega]
    show (0:Int)=c*0+x*0;omega
  | cons a l ih=>
    intro c x D h
    have e:=ih (c+1) x (D.drop 1) λk=>by
     have:=h (k+1)
     have e1:co (D.drop 1) k=co D (k+1):=by unfold co;rw [wab,wab,List.getElem?_drop,Nat.add_comm]
     rw [e1,this]
     show (((k+1:Nat):Int)+c)*co l k=_
     push_cast;grind
    have e2:evI D x=co D 0+x*evI (D.drop 1) x:=by
     cases D with
     | nil=>show (0:Int)=0+x*0;omega
     | cons d D=>rfl
    rw [e2,e,h 0]
    show ((0:Nat)+c)*a+x*((c+1)*evI l x+x*dE l x)=c*(a+x*evI l x)+x*(evI l x+x*dE l x)
    push_cast;grind
 intro l x
 cases l with
 | nil=>rfl
 | cons a l=>
   have e:=key l 1 x (dI (a::l)) λk=>by
    rw [qml]
    show ((k+1:Nat):Int)*co l k=_
    push_cast;rfl
   rw [e]
   show 1*evI l x+x*dE l x=evI l x+x*dE l x
   omega
noncomputable def syA (a:Int):List Int->List Int
 | []=>[]
 | _::l=>qaN l ((syA a l).map (a*·))
theorem qmp (a:Int):∀ l:List Int,(syA a l).length=l.length - 1
 | []=>rfl
 | x::l=>by
   show (qaN l ((syA a l).map (a*·))).length=l.length
   rw [qfW,waa,qmp a l];omega
theorem qsc (a:Int):∀ (l:List Int) (x:Int),evI l x - evI l a=(x - a)*evI (syA a l) x
 | [],x=>by show (0:Int) - 0=_*0;omega
 | b::l,x=>by
   show b+x*evI l x - (b+a*evI l a)=(x - a)*evI (qaN l ((syA a l).map (a*·))) x
   rw [qdS,qgn]
   have:=qsc a l x
   generalize evI (syA a l) x=y at this ⊢
   grind
theorem qts (a:Int):∀ l:List Int,2<=l.length->co (syA a l) (l.length - 2)=co l (l.length - 1)
 | x::y::l,_=>by
   show co (qaN (y::l) ((syA a (y::l)).map (a*·))) l.length=co (y::l) l.length
   rw [qaO (qaN _ _),qaw,qau,<-qaO,<-qaO]
   rw [qay (a:=syA a (y::l)) (by rw [qmp];exact wac _)]
   omega
theorem few {p:Nat} (hp:Pr p):∀ (n:Nat) (l:List Int) (ss:List Int),l.length=n+1->¬ (p:Int)∣co l n->ss.Nodup->(∀ x∈ss,0<=x/\x<p/\(p:Int)∣evI l x)->ss.length<=n
 | 0,l,ss,hl,h0,_,h=>by
   match l,hl with
   | [a],_=>
     cases ss with
     | nil=>exact wac _
     | cons x ss=>
       have:=(h x (waq ..)).2.2
       have e:evI [a] x=a:=by show a+x*0=a;omega
       rw [e] at this
       exact absurd this h0
 | n+1,l,[],hl,h0,_,h=>wad _
 | n+1,l,a::ss,hl,h0,nd,h=>by
   obtain ⟨a0,ap,ha⟩:=h a (waq ..)
   rw [List.nodup_cons] at nd
   refine Nat.succ_le_succ (few hp n (syA a l) ss (by rw [qmp];omega) ?_ nd.2 λx hx=>?_)
   ·have:=qts a l ⋯
    rw [show l.length - 2=n by omega,show l.length - 1=n+1 by omega] at this
    rw [this];exact h0
   ·obtain ⟨x0,xp,hx'⟩:=h x (wa5 _ hx)
    refine ⟨x0,xp,?_⟩
    have e:(p:Int)∣(x - a)*evI (syA a l) x:=by rw [<-qsc];exact Int.dvd_sub hx' ha
    rcases qeP hp e with z | z
    ·exfalso
     have ne:x≠a:=λz=>nd.1 (z ▸ hx)
     obtain ⟨k,hk⟩:=z
     rcases Int.lt_trichotomy k 0 with q | q | q
     ·have:(p:Int)*k<=(p:Int)*(-1):=wbw ⋯ ⋯
      omega
     ·rw [q] at hk;omega
     ·have:(p:Int)*1<=(p:Int)*k:=wbw ⋯ ⋯
      omega
    ·exact z
theorem qmq:∀ A:List Rat,∃ (N:Int) (Z:List Int),N≠0/\A.map ((N:Rat)*·)=Z.map λz:Int=>(z:Rat)
 | []=>⟨1,[],∅,rfl⟩
 | a::A=>by
   obtain ⟨N,Z,N0,h⟩:=qmq A
   refine ⟨(a.den:Int)*N,(a.num*N)::Z.map ((a.den:Int)*·),wak (by have:=a.den_nz;omega) N0,?_⟩
   rw [List.map_cons,List.map_cons]
   congr 1
   ·have h:=Rat.num_divInt_den a
    rw [Rat.divInt_eq_div] at h
    have d:((a.den:Int):Rat)≠0:=by have:=a.den_nz;exact_mod_cast this
    have e:((a.den:Int):Rat)=(a.den:Rat):=by push_cast;rfl
    push_cast
    grind
   ·rw [List.map_map]
    have e:A.map (λx=>(((a.den:Int)*N:Int):Rat)*x)=(A.map ((N:Rat)*·)).map ((a.den:Rat)*·):=by
     rw [List.map_map]
     refine wcb λx _=>?_
     show _=(a.den:Rat)*((N:Rat)*x)
     push_cast;grind
    rw [e,h,List.map_map]
    refine wcb λz _=>?_
    show (a.den:Rat)*(z:Rat)=(((a.den:Int)*z:Int):Rat)
    push_cast;rfl
theorem qvP {rs:List Int} (c:Sr.Cs (si rs) (si (dI rs))):QI (co rs) (co (dI rs)) qb8:=by
 obtain ⟨U,W,⟨u,rfl⟩,⟨w,rfl⟩,e⟩:=c
 obtain ⟨N,Z,N0,hZ⟩:=qmq u
 obtain ⟨M,Y,M0,hY⟩:=qmq w
 refine ⟨N*M,wak N0 M0,Z.map (M*·),Y.map (N*·),λk=>?_⟩
 rw [qau,qau]
 have e1:Sr.num (N:Rat)*Sr.L u=si Z:=by rw [<-Sr.L_scal,hZ,qqC]
 have e2:Sr.num (M:Rat)*Sr.L w=si Y:=by rw [<-Sr.L_scal,hY,qqC]
 have e3:Sr.num (M:Rat)*(si Z*si rs)+Sr.num (N:Rat)*(si Y*si (dI rs))=Sr.num ((N:Rat)*M):=by
  rw [<-e1,<-e2]
  have:Sr.num (N:Rat)*Sr.num (M:Rat)=Sr.num ((N:Rat)*M):=Sr.num_num _ _
  rw [<-this]
  have q:Sr.num (M:Rat)*(Sr.num (N:Rat)*Sr.L u*si rs)+Sr.num (N:Rat)*(Sr.num (M:Rat)*Sr.L w*si (dI rs))=Sr.num (N:Rat)*Sr.num (M:Rat)*(Sr.L u*si rs+Sr.L w*si (dI rs)):=by grind
  rw [q,e];grind
 have e4:=congrFun (congrArg Sr.c e3) k
 rw [qqC Z,qqC Y,Sr.L_mul,Sr.L_mul] at e4
 have e4:(Sr.num (M:Rat)*(⟨cvL (Z.map λz:Int=>(z:Rat)) (si rs).c⟩:Sr)).c k+(Sr.num (N:Rat)*(⟨cvL (Y.map λz:Int=>(z:Rat)) (si (dI rs)).c⟩:Sr)).c k=(Sr.num ((N:Rat)*M)).c k:=e4
 rw [Sr.num_mul,Sr.num_mul] at e4
 have e5:(M:Rat)*((cvL Z (co rs) k:Int):Rat)+(N:Rat)*((cvL Y (co (dI rs)) k:Int):Rat)=((N:Rat)*M)*qb8 k:=by
  rw [qju,qju];exact e4
 have e6:((qb8 k:Int):Rat)=qb8 k:=by cases k <;> rfl
 rw [<-e6] at e5
 exact_mod_cast e5.symm
theorem quY {ns rs:List Int} (n0:si ns≠0) (h:∃ (c:Rat) (L:Sr),c≠0/\RadOf (si ns) L/\si rs=Sr.num c*L):QI (co rs) (co (dI rs)) qb8:=by
 obtain ⟨c,L,c0,⟨S,M,pS,pL,pM,e1,e2,cs⟩,e3⟩:=h
 obtain ⟨U,W,pU,pW,e⟩:=Sr.simple_cop pS pL pM n0 e1 e2 cs
 refine qvP ⟨Sr.num c⁻¹*U,Sr.num c⁻¹*W,(Sr.Pol.num _).mul pU,(Sr.Pol.num _).mul pW,?_⟩
 have i:=Sr.num_inv c0
 have d:si (dI rs)=Sr.num c*Sr.D L:=by rw [<-Sr.D_num,<-e3,qv0]
 rw [d,e3]
 have q:Sr.num c⁻¹*U*(Sr.num c*L)+Sr.num c⁻¹*W*(Sr.num c*Sr.D L)=Sr.num c⁻¹*Sr.num c*(U*L+W*Sr.D L):=by grind
 rw [q,i,e];grind
noncomputable def isP (p:Nat):Bool:=decide (2<=p) && (List.range 45).all λd=>decide (d<2) || decide (p<=d) || decide (p % d≠0)
noncomputable def plist:List Nat:=(List.range 2001).filter isP
theorem qsd {p:Nat} (h:isP p=true) (l:p<2025):Pr p:=by
 unfold isP at h
 rw [Bool.and_eq_true] at h
 obtain ⟨h1,h2⟩:=h
 have h1:=of_decide_eq_true h1
 have sm:∀ d,2<=d->d<45->d<p->¬ d∣p:=λd d2 d45 dp hd=>by
  have:=wce.mp h2 d (wbp.mpr d45)
  rw [Bool.or_eq_true,Bool.or_eq_true] at this
  rcases this with (z | z) | z
  ·have:=of_decide_eq_true z;omega
  ·have:=of_decide_eq_true z;omega
  ·exact of_decide_eq_true z (Nat.mod_eq_zero_of_dvd hd)
 refine ⟨h1,λd hd=>?_⟩
 obtain ⟨e,he⟩:=hd
 by_cases d1:d=1
 ·exact .inl d1
 by_cases dp:d=p
 ·exact .inr dp
 exfalso
 have d0:d≠0:=λz=>by rw [z] at he;omega
 have e0:e≠0:=λz=>by rw [z] at he;omega
 have e1:e≠1:=λz=>by rw [z] at he;omega
 rcases wan d 45 with q | q
 ·have dl:d<p:=by
   have:d*2<=d*e:=wa1 d ⋯
   omega
  exact sm d ⋯ q dl ⟨e,he⟩
 ·rcases wan e 45 with q' | q'
  ·have el:e<p:=by
    have:2*e<=d*e:=wbd e ⋯
    omega
   exact sm e ⋯ q' el ⟨d,by rw [he,wbe]⟩
  ·have:=wb4 q q'
   omega
theorem qnj {N:Int}:∀ l:List Nat,l.Nodup->(∀ p∈l,Pr p/\(p:Int)∣N)->((l.foldr (·*·) 1:Nat):Int)∣N
 | [],_,_=>Int.one_dvd _
 | p::l,nd,h=>by
   rw [List.nodup_cons] at nd
   obtain ⟨c,hc⟩:=qnj l nd.2 λq hq=>h q (wa5 _ hq)
   obtain ⟨hp,hpN⟩:=h p (waq ..)
   have np:∀ m:List Nat,(∀ q∈m,Pr q/\q≠p)->¬ (p:Int)∣((m.foldr (·*·) 1:Nat):Int):=by
    intro m
    induction m with
    | nil=>
      intro _ z
      have:=wb7 ∅ z
      have:=hp.two
      have:((([]:List Nat).foldr (·*·) 1:Nat):Int)=1:=rfl
      omega
    | cons q m ih=>
      intro hq z
      have z:(p:Int)∣((q*m.foldr (·*·) 1:Nat):Int):=z
      rw [Int.natCast_mul] at z
      rcases qeP hp z with y | y
      ·obtain ⟨q1,q2⟩:=hq q (waq ..)
       rcases q1.div p (wcp.mp y) with w | w
       ·have:=hp.two;omega
       ·exact q2 w.symm
      ·exact ih (λr hr=>hq r (wa5 _ hr)) y
   have y:(p:Int)∣c:=by
    rw [hc] at hpN
    rcases qeP hp hpN with z | z
    ·exact absurd z (np l λq hq=>⟨(h q (wa5 _ hq)).1,λz=>nd.1 (z ▸ hq)⟩)
    ·exact z
   obtain ⟨e,he⟩:=y
   refine ⟨e,?_⟩
   show N=((p*l.foldr (·*·) 1:Nat):Int)*e
   rw [Int.natCast_mul,hc,he];grind
theorem qnR:2 ^ 2700<plist.foldr (·*·) 1:=by decide +kernel
theorem qnS {N:Int} (N0:N≠0) (b:N.natAbs<2 ^ 2700):∃ g,Pr g/\g<=2000/\¬ (g:Int)∣N:=by
 have:∃ g∈plist,¬ (g:Int)∣N:=by
  refine Classical.byContradiction λhn=>?_
  have hall:∀ p∈plist,Pr p/\(p:Int)∣N:=λp hp=>by
   have hm:=List.mem_filter.mp hp
   exact ⟨qsd hm.2 (by have:=wbp.mp hm.1;omega),Classical.byContradiction λz=>hn ⟨p,hp,z⟩⟩
  have d:=qnj plist (List.nodup_range.filter _) hall
  have:=wbx ⋯ (wbb.mpr d)
  have pp:=qnR
  rw [wa9] at this
  omega
 obtain ⟨g,hg,n⟩:=this
 have hm:=List.mem_filter.mp hg
 have:=wbp.mp hm.1
 exact ⟨g,qsd hm.2 ⋯,⋯,n⟩
theorem qnT {rs:List Int} {b0:Nat} (lz:Lz rs) (hf:Fb b0 rs.length) (b:∀ z∈rs,Bd (b0+108) z) (q:QI (co rs) (co (dI rs)) qb8):∃ g,Pr g/\g<=2000/\¬ (g:Int)∣co rs (rs.length - 1)/\∀ x,(g:Int)∣evI rs x->¬ (g:Int)∣evI (dI rs) x:=by
 obtain ⟨B,D,hB,l9,hDB,D9,hS⟩:∃ B D:Nat,b0+108<=B/\rs.length<=9/\D+B<2700/\0<D/\(3<=rs.length->(2*((rs.length+(rs.length - 1))*2 ^ (B+4))) ^ (rs.length+(rs.length - 1) - 2)<2 ^ D):=by
  rcases hf with ⟨h1,h2⟩ | ⟨h1,h2⟩
  ·refine ⟨148,2400,⋯,h2,∅,∅,λh3=>?_⟩
   have h1:2*((rs.length+(rs.length - 1))*2 ^ 152)<=2 ^ 158:=by
    have:(rs.length+(rs.length - 1))*2 ^ 152<=17*2 ^ 152:=wbd _ ⋯
    have e:17*2 ^ 152*2<=2 ^ 158:=by decide +kernel
    omega
   refine wa4 (Nat.pow_le_pow_left h1 _) (wa4 (wba (wbu ∅) (show rs.length+(rs.length - 1) - 2<=15 by omega)) ?_)
   decide +kernel
  ·refine ⟨658,2010,⋯,⋯,∅,∅,λh3=>?_⟩
   rw [show rs.length=3 by omega]
   decide +kernel
 have b:∀ z∈rs,Bd B z:=λz hz=>(b z hz).mono hB
 have bl:(co rs (rs.length - 1)).natAbs<2 ^ B:=qbA b _
 generalize hlead:co rs (rs.length - 1)=lead at bl
 have l0:lead≠0:=by rw [<-hlead];exact lz.2
 have hlen:(dI rs).length=rs.length - 1:=by unfold dI;rw [waa,waw]
 have D0:(1:Int).natAbs<2 ^ D:=Nat.one_lt_two_pow ⋯
 have key:∃ d:Int,d≠0/\d.natAbs<2 ^ D/\∀ (g:Nat) (x:Int),Pr g->¬ (g:Int)∣lead->(g:Int)∣evI rs x->(g:Int)∣evI (dI rs) x->(g:Int)∣d:=by
  rcases wan rs.length 3 with c | c
  ·refine ⟨1,∅,D0,λg x hg hn h1 h2=>?_⟩
   exfalso
   match rs,lz,hlead,c,h1,h2 with
   | [],lz,_,_,_,_=>exact absurd lz.1 (by simp)
   | [a],_,hl,_,h1,_=>
     have:a=lead:=hl
     have e:evI [a] x=a:=by show a+x*0=a;omega
     rw [e,this] at h1;exact hn h1
   | [a,e],_,hl,_,_,h2=>
     have:e=lead:=hl
     have e:evI (dI [a,e]) x=e:=by rw [qtr];show (e+x*0)+x*(0+x*0)=e;omega
     rw [e,this] at h2;exact hn h2
  ·have bd:∀ k,Bd (B+4) (co (dI rs) k):=λk=>by
    rw [qml]
    by_cases hk:k+1<rs.length
    ·have e:Bd 4 ((k+1:Nat):Int):=by unfold Bd;rw [wa9];have:(2:Nat) ^ 4=16:=by decide
                                     omega
     have:=e.mul (qbA b (k+1))
     exact this.mono ⋯
    ·rw [qay ⋯,wb3];exact qeY _
   have lB:Lz (dI rs):=by
    refine ⟨⋯,?_⟩
    rw [qml,hlen,show rs.length - 1 - 1+1=rs.length - 1 by omega,hlead]
    exact wak ⋯ l0
   obtain ⟨U,V,d,d0,db,hd⟩:=siegel (T:=2 ^ D) lz lB q (λk=>(qbA b k).mono ⋯) bd ⋯ ⋯ (wbu ∅) (by rw [hlen];exact hS ⋯)
   refine ⟨d,d0,db,λg x _ _ h1 h2=>?_⟩
   have e:evI (qaN (qaE U rs) (qaE V (dI rs))) x=evI [d] x:=qtq (λk=>by
    rw [<-hd k,qaO (qaN _ _),qaw,qav,qav,<-qas (λj=>qaO rs j),<-qas (λj=>qaO (dI rs) j)]) x
   rw [qdS,qmo U rs x (qaE U rs) (λk=>by rw [qaO (qaE U rs),qav,<-qas (λj=>qaO rs j)]),qmo V (dI rs) x (qaE V (dI rs)) (λk=>by rw [qaO (qaE V (dI rs)),qav,<-qas (λj=>qaO (dI rs) j)])] at e
   have e2:evI [d] x=d:=by show d+x*0=d;omega
   rw [<-e2,<-e]
   exact wbk (war h1 (wb9 ..)) (war h2 (wb9 ..))
 obtain ⟨d,d0,db,hd⟩:=key
 obtain ⟨g,hg,g2,hn⟩:=qnS (N:=d*lead) (wak d0 l0) (by
  rw [wam]
  have:d.natAbs*lead.natAbs<=2 ^ D*2 ^ B:=wb4 (wbt db) (wbt bl)
  rw [<-Nat.pow_add] at this
  exact wa4 this (Nat.pow_lt_pow_right ∅ hDB))
 have nl:¬ (g:Int)∣lead:=λz=>hn (war z (wb9 ..))
 exact ⟨g,hg,g2,nl,λx h1 h2=>hn (war (hd g x hg nl h1 h2) (Int.dvd_mul_right ..))⟩
theorem qse {t s lead:Int} {E:Nat} (l0:0<lead) (s0:0<s) (ht:s.natAbs*2 ^ E<=t.natAbs):∀ l:List Int,l≠[]->co l (l.length - 1)=lead->(∀ i,i+1<l.length->2 ^ (l.length - 1 - i)*(co l i).natAbs<=lead.natAbs*2 ^ ((l.length - 1 - i)*E))->lead.natAbs*t.natAbs ^ (l.length - 1)<=2 ^ (l.length - 1)*(hw l t s).natAbs
 | [a],_,e,_=>by
   have e:a=lead:=e
   have:hw [a] t s=a:=by show a*s ^ 0+t*0=a;rw [wbm];omega
   rw [this,e]
   show lead.natAbs*t.natAbs ^ 0<=2 ^ 0*lead.natAbs
   rw [Nat.pow_zero,Nat.pow_zero];omega
 | a::b::l,_,e,h=>by
   have ih:=qse l0 s0 ht (b::l) (by simp) e λi hi=>by
    have:=h (i+1) (by simp at hi ⊢;omega)
    have e1:(a::b::l).length - 1 - (i+1)=(b::l).length - 1 - i:=by simp
    rw [e1] at this
    exact this
   have h0:=h 0 (by simp)
   have e1:(a::b::l).length - 1=(b::l).length - 1+1:=rfl
   rw [Nat.sub_zero] at h0
   rw [e1] at h0 ⊢
   have h0:2 ^ ((b::l).length - 1+1)*a.natAbs<=lead.natAbs*2 ^ (((b::l).length - 1+1)*E):=h0
   have eh:hw (a::b::l) t s=a*s ^ ((b::l).length - 1+1)+t*hw (b::l) t s:=rfl
   rw [eh]
   generalize (b::l).length - 1=k at ih h0 ⊢
   generalize hw (b::l) t s=y at ih ⊢
   have tri:t.natAbs*y.natAbs<=(a*s ^ (k+1)+t*y).natAbs+a.natAbs*s.natAbs ^ (k+1):=by
    have q1:(a*s ^ (k+1)).natAbs=a.natAbs*s.natAbs ^ (k+1):=by rw [wam,Int.natAbs_pow]
    have q2:(t*y).natAbs=t.natAbs*y.natAbs:=wam ..
    rw [<-q1,<-q2];omega
   have st:s.natAbs ^ (k+1)*2 ^ ((k+1)*E)<=t.natAbs ^ (k+1):=by
    rw [wbe (k+1) E,Nat.pow_mul,<-Nat.mul_pow]
    exact Nat.pow_le_pow_left ht _
   have c1:2 ^ (k+1)*a.natAbs*s.natAbs ^ (k+1)<=lead.natAbs*t.natAbs ^ (k+1):=by
    refine wap (wbd _ h0) ?_
    rw [wb8,wbe (2 ^ _)]
    exact wa1 _ st
   have c2:2*(lead.natAbs*t.natAbs ^ (k+1))<=2 ^ (k+1)*(t.natAbs*y.natAbs):=by
    have:=wa1 (2*t.natAbs) ih
    rw [wax,wax]
    have e1:2*t.natAbs*(lead.natAbs*t.natAbs ^ k)=2*(lead.natAbs*(t.natAbs ^ k*t.natAbs)):=by grind
    have e2:2*t.natAbs*(2 ^ k*y.natAbs)=2 ^ k*2*(t.natAbs*y.natAbs):=by grind
    rw [e1,e2] at this
    exact this
   have c3:=wa1 (2 ^ (k+1)) tri
   rw [Nat.mul_add] at c3
   have e3:2 ^ (k+1)*(a.natAbs*s.natAbs ^ (k+1))=2 ^ (k+1)*a.natAbs*s.natAbs ^ (k+1):=(wb8 ..).symm
   rw [e3] at c3
   omega
theorem qtt {t s lead:Int} {E:Nat} {l:List Int} (l0:0<lead) (s0:0<s) (n:l≠[]) (e:co l (l.length - 1)=lead) (h:∀ i,i+1<l.length->2 ^ (l.length - 1 - i)*(co l i).natAbs<=lead.natAbs*2 ^ ((l.length - 1 - i)*E)) (z:hw l t s=0):t.natAbs<s.natAbs*2 ^ E:=by
 refine Classical.byContradiction λc=>?_
 have q:=qse l0 s0 (Nat.not_lt.mp c) l n e h
 rw [z] at q
 have t0:0<t.natAbs:=wau (Nat.mul_pos ⋯ (wbu ∅)) (Nat.not_lt.mp c)
 have:=Nat.mul_pos (show 0<lead.natAbs by omega) (wbu (n:=l.length - 1) t0)
 have e0:2 ^ (l.length - 1)*(0:Int).natAbs=0:=by show _*0=0;omega
 rw [e0] at q
 omega
theorem qtO:([]:List V).length<=sizeLine:=wad _
theorem qmr (h:qdR K vs H Q E):qnI K { nx:=λ_ H'=>Q .non H',rt:=Q } (L2.start ["whole","divisor"] vs) H:=by
 obtain ⟨n,rfl,hn,k⟩:=h
 refine while_by (λm σ H'=>∃ d:Nat,σ=[some (.int (n:Int)),some (.int (d:Int))]/\H'=H/\2<=d/\m=n+2 - d/\d<=n+2/\∀ e,2<=e->e<d->¬ e∣n) n ⟨2,rfl,rfl,⋯,⋯,⋯,λe h1 h2=>by omega⟩ ?_
 rintro m σ H' ⟨d,rfl,rfl,d2,rfl,dn,hd⟩
 have bd:Bd 30 (d:Int):=by unfold Bd;rw [wa9];have:(2:Nat) ^ 30=1073741824:=by decide
                           omega
 refine ⟨_,rfl,_,rfl,_,_,rfl,rfl,qiB bd bd,_,rfl,_,_,rfl,rfl,_,rfl,qbI (λc=>?_) (λc=>?_)⟩
 ·have c:=of_decide_eq_true c
  have c':d*d<=n:=by exact_mod_cast c
  have dl:d<n:=by
   have:d*2<=d*d:=wa1 d d2
   omega
  refine ⟨_,λ_ _ h=>h,?_⟩
  refine ⟨_,rfl,_,rfl,_,_,rfl,rfl,⋯,rfl,_,rfl,qbI (λz=>?_) (λz=>?_)⟩
  ·refine k false ⟨(λz=>by cases z),λhp=>?_⟩
   have z:(n:Int) % (d:Int)=0:=by simpa using z
   have dv:d∣n:=wcp.mp (wcj z)
   rcases hp.div d dv with y | y <;> omega
  ·have z:¬ (n:Int) % (d:Int)=0:=by simpa using z
   refine ⟨_,rfl,_,_,rfl,rfl,?_⟩
   refine ⟨n+2 - (d+1),⋯,d+1,rfl,rfl,⋯,rfl,⋯,λe e2 ed he=>?_⟩
   rcases Nat.lt_succ_iff_lt_or_eq.mp ed with y | y
   ·exact hd e e2 y he
   ·rw [y] at he;exact z (wci (wcp.mpr he))
 ·have c:¬ (d:Int)*(d:Int)<=(n:Int):=λy=>c (decide_eq_true y)
  have c':n<d*d:=by have:(n:Int)<((d*d:Nat):Int):=by push_cast;omega
                    omega
  refine ⟨_,rfl,_,_,rfl,rfl,k _ ?_⟩
  constructor
  ·intro y
   have n2:1<(n:Int):=of_decide_eq_true y
   refine ⟨⋯,λe he=>?_⟩
   obtain ⟨f,hf⟩:=he
   by_cases e1:e=1
   ·exact .inl e1
   by_cases en:e=n
   ·exact .inr en
   exfalso
   have e0:e≠0:=λz=>by rw [z] at hf;omega
   have f0:f≠0:=λz=>by rw [z] at hf;omega
   have f1:f≠1:=λz=>by rw [z] at hf;omega
   rcases wan e d with y1 | y1
   ·exact hd e ⋯ y1 ⟨f,hf⟩
   ·rcases wan f d with y2 | y2
    ·exact hd f ⋯ y2 ⟨e,by rw [hf,wbe]⟩
    ·have:=wb4 y1 y2
     omega
  ·intro y
   have:=y.two
   exact decide_eq_true ⋯
theorem qiS (h:qcf K vs H Q E):qj0 K { nx:=λ_ H'=>Q .non H',rt:=Q } (L2.start ["whole","found"] vs) H:=by
 obtain ⟨n,g,rfl,hg,ng,g2,k⟩:=h
 refine ⟨_,rfl,_,_,rfl,rfl,?_⟩
 refine while_by (λm σ H'=>∃ d:Nat,σ=[some (.int (n:Int)),some (.int (d:Int))]/\H'=H/\n<d/\d<=g/\m=g - d) (g - (n+1)) ⟨n+1,rfl,rfl,⋯,⋯,rfl⟩ ?_
 rintro m σ H' ⟨d,rfl,rfl,nd,dg,rfl⟩
 refine qiL ⟨_,rfl,d,rfl,⋯,λb hb=>⟨_,rfl,?_⟩⟩
 cases b with
 | true=>
   show (if (!true)=true then _ else _)
   refine qbI (λc=>by cases c) (λ_=>?_)
   exact ⟨_,rfl,k d (hb.mp rfl) nd dg⟩
 | false=>
   refine qbI (λ_=>?_) (λc=>absurd rfl c)
   have ne:d≠g:=λz=>by have:=hb.mpr (z ▸ hg);cases this
   refine ⟨_,λ_ _ h=>h,?_⟩
   exact ⟨_,rfl,_,_,rfl,rfl,g - (d+1),⋯,d+1,rfl,rfl,⋯,⋯,rfl⟩
theorem qtu (ns:List Int) (x:Int) {i:Nat} (h:i<ns.length):evI (ns.drop (ns.length - (i+1))) x=co ns (ns.length - 1 - i)+x*evI (ns.drop (ns.length - i)) x:=by
 have e:ns.length - (i+1)<ns.length:=by omega
 rw [List.drop_eq_getElem_cons e,show ns.length - (i+1)+1=ns.length - i by omega]
 show ns[ns.length - (i+1)]+_=_
 have:co ns (ns.length - 1 - i)=ns[ns.length - (i+1)]:=by
  unfold co
  rw [wab,show ns.length - 1 - i=ns.length - (i+1) by omega,waf e];rfl
 rw [this]
theorem qp8 {ns:List Int} {i:Nat} {x:V} (hi:i<ns.length) (h:(ns.map V.int)[i]?=some x):x=.int (co ns i):=by
 rw [wae,waf hi] at h
 unfold co
 rw [wab,waf hi]
 exact (Option.some.inj h).symm
theorem qg1 (h:qbD K vs H Q E):qh1 K { nx:=λ_ H'=>Q .non H',rt:=Q } (L2.start ["row","place","modulus","value","whole"] vs) H:=by
 obtain ⟨a,ns,x,m,rfl,ha,l1,m0,bm,bx,k⟩:=h
 refine ⟨_,rfl,_,_,rfl,SqL.of ha,ForJ.rev (xs:=ns.map V.int) (λi σ H'=>∃ (v:Int) (u:Option V),σ=[some (.ref a),some (.int x),some (.int m),some (.int v),u]/\H'=H/\i<=ns.length/\0<=v/\v<m/\m∣v - evI (ns.drop (ns.length - i)) x) ⟨0,none,rfl,rfl,wad _,Int.le_refl _,m0,?_⟩ ?_ ?_ ?_⟩
 ·rw [Nat.sub_zero,List.drop_length];exact ⟨0,by show (0:Int) - 0=_;omega⟩
 ·rintro i σ H' _ ⟨v,u,rfl,rfl,_⟩
  exact SqL.of ha
 ·rintro i y σ H' hi hy ⟨v,u,rfl,rfl,_,v0,vm,hv⟩
  rw [waa] at hi hy
  have hy:=qp8 ⋯ hy
  subst hy
  have bv:Bd 3200 v:=bm.le ⋯
  refine ⟨_,rfl,_,rfl,_,_,rfl,rfl,qiB bv bx,_,rfl,_,_,rfl,rfl,_,rfl,_,_,rfl,rfl,m0,?_⟩
  refine ⟨_,_,rfl,rfl,⋯,wav _ ⋯,waz _ m0,?_⟩
  rw [qtu ns x hi]
  obtain ⟨c,hc⟩:=hv
  obtain ⟨d,hd⟩:=qbj (v*x+co ns (ns.length - 1 - i)) m
  exact ⟨d+c*x,by have:v=m*c+evI (ns.drop (ns.length - i)) x:=by omega
                  grind⟩
 ·rintro σ H' ⟨v,u,rfl,rfl,_,v0,vm,hv⟩
  rw [waa,Nat.sub_self,List.drop_zero] at hv
  exact ⟨_,rfl,k v v0 vm hv⟩
theorem quZ (ns:List Int) (m x:Int):m∣evI (ns.map (·% m)) x - evI ns x/\m∣evI (dI (ns.map (·% m))) x - evI (dI ns) x:=by
 have h:∀ k,m∣co (ns.map (·% m)) k - co ns k:=λk=>by
  have:co (ns.map (·% m)) k=co ns k % m:=by
   unfold co
   rw [wab,wab,wae]
   cases ns[k]? with
   | none=>show (0:Int)=0 % m;rw [Int.zero_emod]
   | some z=>rfl
  rw [this];exact qbj _ _
 refine ⟨qcE _ _ x h,qcE _ _ x λk=>?_⟩
 rw [qml,qml,<-wbs]
 exact war (h (k+1)) (wb9 ..)
theorem qg2 (h:qbg K vs H Q E):qib K { nx:=λ_ H'=>Q .non H',rt:=Q } (L2.start ["row","prime","short","slope","starts","start"] vs) H:=by
 obtain ⟨a,ns,p,rfl,ha,hp,p2,lz,l9,kN,kS⟩:=h
 have pp:=hp.two
 have aL:atI (ns.map V.int) (-1)=some (V.int (lst' ns)):=qcy lz.1
 refine ⟨_,rfl,_,rfl,_,_,_,_,rfl,rfl,ha,aL,_,rfl,_,_,rfl,rfl,⋯,rfl,_,rfl,qbI (λc=>?_) (λc=>?_)⟩
 ·have c:lst' ns % (p:Int)=0:=by simpa using c
  exact kN (.inl (wcj c)) H (Same.refl H)
 have c:¬ lst' ns % (p:Int)=0:=by simpa using c
 have nl:¬ (p:Int)∣lst' ns:=λz=>c (wci z)
 show qdG K _ _ _
 refine qcD ⟨_,rfl,_,rfl,a,ns,p,rfl,ha,⋯,⋯,λb hb=>?_⟩
 have sb:=qag hb (.lst ((ns.map (·% (p:Int))).map V.int))
 have hbb:upd H b (.lst ((ns.map (·% (p:Int))).map V.int)) b=_:=qah
 generalize upd H b (.lst ((ns.map (·% (p:Int))).map V.int))=H1 at sb hbb ⊢
 have bs:∀ z∈ns.map (·% (p:Int)),Bd 20 z:=λz hz=>by
  obtain ⟨y,_,rfl⟩:=wai.mp hz
  have h1:=wav y (show (p:Int)≠0 by omega)
  have h2:=waz y (show (0:Int)<p by omega)
  unfold Bd
  have:(2:Nat) ^ 20=1048576:=by decide
  omega
 refine qhT ⟨_,rfl,b,_,20,rfl,hbb,by rw [waa];omega,bs,∅,λd H2 s2 hd=>?_⟩
 have hb2:=s2 _ _ hbb
 refine qb1 ⟨qtO,λe he=>?_⟩
 have se:=qag he (.lst [])
 have hee:upd H2 e (.lst []) e=_:=qah
 have hb3:=se _ _ hb2
 have hd3:=se _ _ hd
 have s3:=(sb.trans s2).trans se
 have eN:H e=none:=by
  cases q:H e with
  | none=>rfl
  | some o=>have:=(sb.trans s2) _ _ q;rw [he] at this;cases this
 have nb:b≠e:=qaq hb2 he
 have nd:d≠e:=qaq hd he
 generalize upd H2 e (.lst [])=H3 at se hee hb3 hd3 s3 ⊢
 have bp:Bd 3200 (p:Int):=by unfold Bd;rw [wa9];exact wa4 p2 (by decide +kernel)
 refine ⟨_,rfl,_,rfl,⋯,⋯,?_⟩
 rw [wby]
 refine ForR.by (λi σ H'=>∃ (ss:List Int) (u:Option V),σ=[some (.ref a),some (.int (p:Int)),some (.ref b),some (.ref d),some (.ref e),u]/\Same H H'/\H' b=some (.lst ((ns.map (·% (p:Int))).map V.int))/\H' d=some (.lst ((dI (ns.map (·% (p:Int)))).map V.int))/\H' e=some (.lst (ss.map V.int))/\i<=p/\ss.length<=i/\ss.Nodup/\(∀ x:Int,0<=x->x<(i:Int)->(p:Int)∣evI ns x->x∈ss)/\∀ x∈ss,0<=x/\x<(i:Int)/\(p:Int)∣evI ns x/\¬ (p:Int)∣evI (dI ns) x) ⟨[],none,rfl,s3,hb3,hd3,hee,wad _,wac _,List.nodup_nil,λx h1 h2=>by omega,λx h=>nomatch h⟩ ?_ ?_
 ·rintro i σ H' hi ⟨ss,u,rfl,sH,hb4,hd4,he4,ip,sl,nd4,hin,hall⟩
  have bx:Bd 3200 (0+(i:Int)):=by rw [Int.zero_add];exact bp.le ⋯
  obtain ⟨m1,m2⟩:=quZ ns (p:Int) (0+(i:Int))
  rw [Int.zero_add] at m1 m2 bx
  show qdq _ _ _ _ _ _
  rw [Int.zero_add]
  refine ql4 ⟨_,rfl,_,rfl,_,rfl,b,_,_,_,rfl,hb4,by rw [waa];omega,⋯,bp,bx,λv v0 vp hv=>?_⟩
  refine ⟨rfl,_,rfl,qbI (λz=>?_) (λz=>?_)⟩
  ·have z:v=0:=by simpa using z
   have e1:(p:Int)∣evI ns (i:Int):=by
    obtain ⟨x,hx⟩:=hv;obtain ⟨y,hy⟩:=m1
    exact ⟨-x - y,by rw [wbs,Int.mul_neg];omega⟩
   refine ql4 ⟨_,rfl,_,rfl,_,rfl,d,_,_,_,rfl,hd4,by unfold dI;rw [waa,waw,waa];omega,⋯,bp,bx,λw w0 wp hw=>?_⟩
   refine ⟨rfl,_,rfl,qbI (λy=>?_) (λy=>?_)⟩
   ·have y:w=0:=by simpa using y
    have e2:(p:Int)∣evI (dI ns) (i:Int):=by
     obtain ⟨x,hx⟩:=hw;obtain ⟨u,hu⟩:=m2
     exact ⟨-x - u,by rw [wbs,Int.mul_neg];omega⟩
    exact kN (.inr ⟨_,e1,e2⟩) H' sH
   ·have y:¬ w=0:=by simpa using y
    have e2:¬ (p:Int)∣evI (dI ns) (i:Int):=λq=>y (by
     obtain ⟨x,hx⟩:=hw;obtain ⟨u,hu⟩:=m2;obtain ⟨t,ht⟩:=q
     have:(p:Int)∣w:=⟨x+u+t,by rw [Int.mul_add,Int.mul_add];omega⟩
     have:=wci this
     rw [wca w0 wp] at this
     exact this)
    refine ⟨_,rfl,qcB he4,_,rfl,_,_,_,rfl,rfl,he4,sz (by rw [waa];omega),?_⟩
    have ue:upd H' e (.lst (ss.map V.int++[V.int (i:Int)]))=upd H' e (.lst ((ss++[(i:Int)]).map V.int)):=by rw [wbo];rfl
    refine ⟨ss++[(i:Int)],_,rfl,λx o hx=>Kp.upd x o (qaq hx eN) (sH x o hx),(qaC nb).trans hb4,(qaC nd).trans hd4,by rw [wbo];exact qah,⋯,by rw [wbq];exact Nat.succ_le_succ sl,?_,λx x0 xi hx=>?_,λx hx=>?_⟩
    ·refine List.nodup_append.mpr ⟨nd4,by simp,λx hx y hy=>?_⟩
     have:=(hall x hx).2.1
     rw [wag.mp hy];omega
    ·rcases Int.lt_or_eq_of_le (show x<=(i:Int) by omega) with q | q
     ·exact wbz _ (hin x x0 q hx)
     ·exact wa3 _ (by rw [q];exact List.mem_singleton_self _)
    ·rcases wa2.mp hx with q | q
     ·obtain ⟨q1,q2,q3⟩:=hall x q
      exact ⟨q1,⋯,q3⟩
     ·rw [wag.mp q];exact ⟨⋯,⋯,e1,e2⟩
  ·have z:¬ v=0:=by simpa using z
   have e1:¬ (p:Int)∣evI ns (i:Int):=λq=>z (by
    obtain ⟨x,hx⟩:=hv;obtain ⟨y,hy⟩:=m1;obtain ⟨t,ht⟩:=q
    have:(p:Int)∣v:=⟨x+y+t,by rw [Int.mul_add,Int.mul_add];omega⟩
    have:=wci this
    rw [wca v0 vp] at this
    exact this)
   refine ⟨ss,_,rfl,sH,hb4,hd4,he4,⋯,⋯,nd4,λx x0 xi hx=>?_,λx hx=>?_⟩
   ·rcases Int.lt_or_eq_of_le (show x<=(i:Int) by omega) with q | q
    ·exact hin x x0 q hx
    ·rw [q] at hx;exact absurd hx e1
   ·obtain ⟨q1,q2,q3⟩:=hall x hx
    exact ⟨q1,⋯,q3⟩
 ·rintro σ H' ⟨ss,u,rfl,sH,hb4,hd4,he4,ip,sl,nd4,hin,hall⟩
  exact ⟨_,rfl,kS e ss H' sH he4 nl nd4 hin hall⟩
theorem qu0 (i:Int):i.natAbs<2 ^ blN i:=by
 unfold blN
 split
 ·rename_i h;rw [h];decide
 ·exact Nat.lt_log2_self
theorem qsf {i:Int} (h:i≠0):2 ^ (blN i - 1)<=i.natAbs/\1<=blN i:=by
 unfold blN
 rw [if_neg h,Nat.add_sub_cancel]
 exact ⟨Nat.log2_self_le ⋯,⋯⟩
theorem qp9 {b:Nat} {i:Int} (h:Bd b i):blN i<=b:=by
 by_cases z:i=0
 ·unfold blN;rw [if_pos z];exact wad _
 ·have h1:=(qsf z).1
  have h2:i.natAbs<2 ^ b:=h
  have:=(Nat.pow_lt_pow_iff_right (a:=2) ∅).mp (wa4 h1 h2)
  omega
theorem qtv {w lead:Int} {st E:Nat} (l0:0<lead) (s0:0<st) (h:-(((blN lead:Int) - (blN w:Int) - 1) / (st:Int))<=(E:Int) - 1):2 ^ st*w.natAbs<=lead.natAbs*2 ^ (st*E):=by
 have q:((blN lead:Int) - (blN w:Int) - 1) / (st:Int)*(st:Int)<=(blN lead:Int) - (blN w:Int) - 1:=Int.ediv_mul_le _ ⋯
 have q2:(1 - (E:Int))*(st:Int)<=((blN lead:Int) - (blN w:Int) - 1) / (st:Int)*(st:Int):=Int.mul_le_mul_of_nonneg_right ⋯ ⋯
 have q3:(blN w:Int)+(st:Int)<=(st:Int)*(E:Int)+(blN lead:Int) - 1:=by
  have:(1 - (E:Int))*(st:Int)=(st:Int) - (st:Int)*(E:Int):=by grind
  omega
 obtain ⟨h1,h2⟩:=qsf (show lead≠0 by omega)
 have q4:blN w+st<=st*E+(blN lead - 1):=by
  have:((st*E:Nat):Int)=(st:Int)*(E:Int):=by push_cast;rfl
  omega
 have e1:2 ^ st*w.natAbs<=2 ^ st*2 ^ blN w:=wa1 _ (wbt (qu0 w))
 rw [<-Nat.pow_add] at e1
 refine wap e1 (wap (wba ∅ (show st+blN w<=(blN lead - 1)+st*E by omega)) ?_)
 rw [Nat.pow_add]
 exact wbd _ h1
theorem qg3 (h:qbW K vs H Q E):qh2 K { nx:=λ_ H'=>Q .non H',rt:=Q } (L2.start ["row","sizes","step","whole"] vs) H:=by
 obtain ⟨a,ns,rfl,ha,lz,l9,bn,l0,k⟩:=h
 have aL:atI (ns.map V.int) (-1)=some (V.int (lst' ns)):=qcy lz.1
 refine qb1 ⟨qtO,λe he=>?_⟩
 have se:=qag he (.lst [])
 have hee:upd H e (.lst []) e=_:=qah
 have ha1:=se _ _ ha
 have ne:a≠e:=qaq ha he
 generalize upd H e (.lst [])=H1 at se hee ha1 ⊢
 have ll:((ns.map V.int).length:Int)=(ns.length:Int):=by rw [waa]
 refine ⟨_,rfl,_,_,rfl,ha1,_,_,rfl,⟨⋯,⋯,⋯,⋯⟩,?_⟩
 refine ForR.by (λi σ H'=>∃ (zs:List Int) (u v:Option V),σ=[some (.ref a),some (.ref e),u,v]/\Same H H'/\H' a=some (.lst (ns.map V.int))/\H' e=some (.lst (zs.map V.int))/\i<=ns.length - 1/\zs.length<=i/\(∀ z∈zs,z<=670)/\∀ st,1<=st->st<=i->co ns (ns.length - 1 - st)≠0->-(((blN (lst' ns):Int) - (blN (co ns (ns.length - 1 - st)):Int) - 1) / (st:Int))∈zs) ⟨[],none,none,rfl,se,ha1,hee,wad _,wac _,(λz h=>nomatch h),λst h1 h2=>by omega⟩ ?_ ?_
 ·rintro i σ H' hi ⟨zs,u,v,rfl,sH,ha4,he4,il,zl,z160,hin⟩
  rw [ll] at hi
  have hi':i+1<=ns.length - 1:=by omega
  have ei:(1:Int)+(i:Int)=((i+1:Nat):Int):=by omega
  rw [ei]
  have aT:atI (ns.map V.int) (((ns.map V.int).length:Int) - 1 - ((i+1:Nat):Int))=some (V.int (co ns (ns.length - 1 - (i+1)))):=qcH (j:=ns.length - 1 - (i+1)) ⋯ (by rw [quN];exact qaW _ ⋯)
  refine ⟨_,rfl,_,rfl,_,_,rfl,ha4,_,_,rfl,rfl,_,rfl,_,_,rfl,rfl,_,_,_,_,rfl,rfl,ha4,aT,?_⟩
  generalize hw:co ns (ns.length - 1 - (i+1))=w
  have bw:blN w<=658:=by rw [<-hw];exact qp9 (qbA bn _)
  have bl:blN (lst' ns)<=658:=qp9 (qbA bn _)
  refine ⟨_,rfl,rfl,_,rfl,qbI (λc=>?_) (λc=>?_)⟩
  ·have c:¬ w=0:=by simpa using c
   refine ⟨_,rfl,qcB he4,_,rfl,_,rfl,_,_,_,_,rfl,rfl,ha4,aL,rfl,_,rfl,rfl,_,rfl,rfl,_,rfl,rfl,_,_,rfl,rfl,_,_,rfl,rfl,_,rfl,_,_,rfl,rfl,by unfold qvf;omega,_,rfl,_,_,_,rfl,rfl,he4,sz (by rw [waa];omega),?_⟩
   refine ⟨zs++[-(((blN (lst' ns):Int) - (blN w:Int) - 1) / ((i+1:Nat):Int))],_,_,rfl,λx o hx=>Kp.upd x o (qaq hx he) (sH x o hx),(qaC ne).trans ha4,by rw [wbo];exact qah,hi',by rw [wbq];exact Nat.succ_le_succ zl,λz hz=>?_,λst h1 h2 h3=>?_⟩
   ·rcases wa2.mp hz with q | q
    ·exact z160 z q
    ·rw [wag.mp q]
     have:-(660:Int)<=((blN (lst' ns):Int) - (blN w:Int) - 1) / ((i+1:Nat):Int):=(Int.le_ediv_iff_mul_le ⋯).mpr (by
      have:-(660:Int)*((i+1:Nat):Int)<=-(660:Int)*1:=by omega
      omega)
     omega
   ·rcases wan st (i+1) with q | q
    ·exact wbz _ (hin st h1 ⋯ h3)
    ·have:st=i+1:=by omega
     subst this
     rw [hw]
     exact wa3 _ (List.mem_singleton_self _)
  ·have c:w=0:=by simpa using c
   refine ⟨zs,_,_,rfl,sH,ha4,he4,hi',⋯,z160,λst h1 h2 h3=>?_⟩
   rcases wan st (i+1) with q | q
   ·exact hin st h1 ⋯ h3
   ·have:st=i+1:=by omega
    subst this
    exact absurd (hw.trans c) h3
 ·rintro σ H' ⟨zs,u,v,rfl,sH,ha4,he4,il,zl,z160,hin⟩
  have ei:((((ns.map V.int).length:Int)) - 1).toNat=ns.length - 1:=by omega
  rw [ei] at hin
  refine ⟨_,rfl,e,zs,rfl,he4,λM hM=>⟨_,_,rfl,rfl,?_⟩⟩
  refine k (1+M) H' sH ?_ λi hi=>?_
  ·rcases hM with ⟨_,z⟩ | ⟨z,_⟩
   ·omega
   ·have:=z160 M z;omega
  ·by_cases w0:co ns i=0
   ·rw [w0];exact wad _
   ·have hm:=hin (ns.length - 1 - i) ⋯ ⋯ (by rw [show ns.length - 1 - (ns.length - 1 - i)=i by omega];exact w0)
    rw [show ns.length - 1 - (ns.length - 1 - i)=i by omega] at hm
    have hle:-(((blN (lst' ns):Int) - (blN (co ns i):Int) - 1) / ((ns.length - 1 - i:Nat):Int))<=M:=by
     rcases hM with ⟨z,_⟩ | ⟨_,z⟩
     ·rw [z] at hm;cases hm
     ·exact z _ hm
    exact qtv l0 ⋯ (Int.le_trans hle ⋯)
theorem qnk {K:W.Frag} {H:Hp} {Q:VK} {q:Addr} {v f:Int} {σ:L2.St} {j:Nat} (hq:H q=some (.lst ([v].map V.int))) (hf:σ[j]?=some (some (.int f))) (ok:IntMulOk v f) (k:∀ r,H r=none->Q (.ref r) (upd H r (.lst ([v*f].map V.int)))):CompJ (Itl K q) [none,some j] (qak 0) (tOp qce (qaf 0) (qaf 1)) σ Q H:=by
 refine CompJ.lst (xs:=[v].map V.int) (λi ys H'=>H'=H/\i<=1/\ys=([v*f].map V.int).take i) ⟨rfl,wad _,rfl⟩ ?_ ?_ ?_
 ·rintro i ys H' ⟨rfl,hi,rfl⟩
  exact ⟨hi,sz (by rw [wa7];simp;omega),SqL.of hq⟩
 ·rintro i x ys H' hx ⟨rfl,hi,rfl⟩
  cases i with
  | zero=>
    obtain rfl:=Option.some.inj hx
    have e1:(qcK [none,some j] σ)=[none,some (.int f)]:=by unfold qcK;simp [hf]
    rw [e1]
    exact ⟨_,rfl,_,rfl,_,_,rfl,rfl,ok,rfl,⋯,rfl⟩
  | succ i=>cases hx
 ·rintro ys H' ⟨rfl,_,rfl⟩ r hr
  exact k r hr
theorem qms {rs:List Int} (h:rs.length<2) (z:co rs 0≠0):rs=[co rs 0]:=by
 match rs,h with
 | [],_=>exact absurd rfl z
 | [v],_=>rfl
theorem qik (h:qb3 K vs H Q E):qiN K { nx:=λ_ H'=>Q .non H',rt:=Q } (L2.start ["row","divisor","prime","one","other","one_weight","other_weight","factor","parted","weight"] vs) H:=by
 obtain ⟨a,b,ns,c,p,rfl,ha,hb,hp,p2,bc,l2,nd,k⟩:=h
 have pp:=hp.two
 have bp:Bd 20 (p:Int):=by unfold Bd;rw [wa9];have:(2:Nat) ^ 20=1048576:=by decide
                           omega
 refine ⟨_,rfl,?_⟩
 show qd3 K _ _ _
 refine ql3 ⟨_,rfl,_,rfl,_,rfl,a,b,ns,[c,1],(p:Int),20,rfl,ha,hb,by show 0<2;decide,rfl,⋯,bp,?_,∅,⋯,by show 2<=1000;decide,λd qs rs H1 s1 hd tz rl md=>?_⟩
 ·intro z hz
  rcases was.mp hz with rfl | hz
  ·exact bc
  ·rw [wag.mp hz];unfold Bd;decide
 have pd:=(parted md.2 rl).1
 have v0:co rs 0≠0:=λz=>nd (by rw [z,Int.sub_zero] at pd;exact pd)
 have er:=qms rl v0
 have vb:=md.1 (co rs 0) (by rw [er];exact waq ..)
 generalize hv:co rs 0=v at pd v0 er vb
 subst er
 refine qb1 ⟨qtO,λe he=>?_⟩
 have s2:=qag he (.lst [])
 have hd2:=s2 _ _ hd
 generalize upd H1 e (.lst [])=H2 at s2 hd2 ⊢
 refine qb1 (qhU (r_c ⟨qmZ,λg hg=>?_⟩))
 have s3:=qag hg (.lst [.int 1])
 have hd3:=s3 _ _ hd2
 have hg3:upd H2 g (.lst [.int 1]) g=some (HO.lst ([(1:Int)].map V.int)):=qah
 have s13:=(s1.trans s2).trans s3
 generalize upd H2 g (.lst [.int 1])=H3 at s3 hd3 hg3 s13 ⊢
 refine while_by (λm σ H'=>m=0/\σ=[some (.ref a),some (.ref b),some (.int (p:Int)),some (.ref b),some (.ref d),some (.ref e),some (.ref g),none,none,none]/\H'=H3) 0 ⟨rfl,rfl,rfl⟩ ?_
 rintro m σ H' ⟨rfl,rfl,rfl⟩
 refine ⟨_,rfl,qbI (λ_=>?_) (λz=>absurd rfl z)⟩
 refine ⟨λ_ _=>False,λ_ _ z=>z.elim,?_⟩
 show qc3 K _ _ _
 have aL:atI ([v].map V.int) (-1)=some (V.int v):=rfl
 refine qcD ⟨_,rfl,_,rfl,_,_,_,_,rfl,rfl,hd3,aL,_,rfl,v,(p:Int),rfl,⋯,bp.mono ∅,λf f0 fp hf=>?_⟩
 have gc:Int.gcd v (p:Int)=1:=by
  rw [Int.gcd_comm]
  exact qni hp λz=>by
   have:=wci z
   rw [wca vb.1 vb.2] at this
   exact v0 this
 have hf:=hf gc
 have bf:Bd 20 f:=bp.le ⋯
 have bv:Bd 20 v:=bp.le ⋯
 refine qb1 (qbt (qhW ⟨_,rfl,d,rfl,⟨_,SqL.of hd3⟩,qnk hd3 rfl (qiB bv bf) λr hr=>?_⟩))
 have s4:=qag hr (.lst ([v*f].map V.int))
 have hr4:upd H' r (.lst ([v*f].map V.int)) r=_:=qah
 have hg4:=s4 _ _ hg3
 generalize upd H' r (.lst ([v*f].map V.int))=H4 at s4 hr4 hg4 ⊢
 refine ⟨_,rfl,r,[v*f],(p:Int),rfl,hr4,⋯,by show 1<=1000;decide,λo os H5 s5 ho tzo lo mdo=>?_⟩
 have hg5:=s5 _ _ hg4
 have o1:co os 0=1:=by
  have h1:=mdo.2 0
  obtain ⟨x,hx⟩:=hf
  obtain ⟨y,hy⟩:=h1
  have hy:co os 0 - v*f=(p:Int)*y:=hy
  have e:co os 0=1+(p:Int)*(x+y):=by grind
  have bo:0<=co os 0/\co os 0<(p:Int):=by
   match os,mdo.1 with
   | [],_=>exact ⟨Int.le_refl _,by show (0:Int)<p;omega⟩
   | z::_,h=>exact h z (waq ..)
  have:co os 0 % (p:Int)=1 % (p:Int):=by rw [e,Int.add_mul_emod_self_left]
  rw [wca bo.1 bo.2,wca ∅ ⋯] at this
  exact this
 have eo:=qms (Nat.lt_succ_of_le lo) (by rw [o1];decide)
 rw [o1] at eo
 subst eo
 show qc2 K _ _ _
 refine qb1 (qbt (qhW ⟨_,rfl,g,rfl,⟨_,SqL.of hg5⟩,qnk hg5 rfl (qiB (show Bd 20 1 by unfold Bd;decide) bf) λr2 hr2=>?_⟩))
 have s6:=qag hr2 (.lst ([1*f].map V.int))
 have hr6:upd H5 r2 (.lst ([1*f].map V.int)) r2=_:=qah
 have ho6:=s6 _ _ ho
 generalize upd H5 r2 (.lst ([1*f].map V.int))=H6 at s6 hr6 ho6 ⊢
 refine ⟨_,rfl,r2,[1*f],(p:Int),rfl,hr6,⋯,by show 1<=1000;decide,λw ws H7 s7 hw7 tzw lw mdw=>?_⟩
 have f0':f≠0:=λz=>by
  rw [z] at hf
  obtain ⟨x,hx⟩:=hf
  have:(p:Int)∣1:=⟨-x,by rw [Int.mul_neg];omega⟩
  have:=wb7 ∅ this
  omega
 have w1:co ws 0=f:=by
  obtain ⟨y,hy⟩:=mdw.2 0
  have hy:co ws 0 - 1*f=(p:Int)*y:=hy
  have bo:0<=co ws 0/\co ws 0<(p:Int):=by
   match ws,mdw.1 with
   | [],_=>exact ⟨Int.le_refl _,by show (0:Int)<p;omega⟩
   | z::_,h=>exact h z (waq ..)
  have e:co ws 0=f+(p:Int)*y:=by omega
  have:co ws 0 % (p:Int)=f % (p:Int):=by rw [e,Int.add_mul_emod_self_left]
  rw [wca bo.1 bo.2,wca f0 fp] at this
  exact this
 have ew:=qms (Nat.lt_succ_of_le lw) (by rw [w1];exact f0')
 rw [w1] at ew
 subst ew
 have ho7:=s7 _ _ ho6
 refine ⟨_,rfl,_,_,rfl,ho7,rfl,_,rfl,qbI (λ_=>?_) (λz=>absurd rfl z)⟩
 refine ⟨_,rfl,k w f H7 (((s13.trans s4).trans s5).trans (s6.trans s7)) hw7 f0 fp ?_⟩
 obtain ⟨x,hx⟩:=hf
 obtain ⟨y,hy⟩:=pd
 exact ⟨x+f*y,by grind⟩
theorem qqa (a b:List Int) (k:Nat):∀ n,n<=a.length->ps a b n k=cvL (a.take n) (co b) k
 | 0,_=>by rw [List.take_zero,qaF];rfl
 | n+1,h=>by
   have e:a.take (n+1)=a.take n++[co a n]:=by
    rw [wbl,waf ⋯]
    unfold co
    rw [wab,waf ⋯];rfl
   rw [e,qbs,<-qqa a b k n ⋯,wa7,Nat.min_eq_left ⋯]
   show ps a b n k+(if n<=k/\k - n<b.length then co a n*co b (k - n) else 0)=_
   unfold upS
   by_cases c:n<=k
   ·rw [if_pos c]
    by_cases d:k - n<b.length
    ·rw [if_pos ⟨c,d⟩]
    ·rw [if_neg (λz=>d z.2),qay (a:=b) ⋯];omega
   ·rw [if_neg c,if_neg (λz=>c z.1)];omega
noncomputable def rT (a b:List Int):List Int:=if a.length=0\/b.length=0 then [] else (List.range (a.length+b.length - 1)).map λk=>ps a b a.length k
theorem qvQ (a b:List Int) (k:Nat):co (rT a b) k=cvL a (co b) k:=by
 unfold rT
 by_cases c:a.length=0\/b.length=0
 ·rw [if_pos c]
  rcases c with z | z
  ·rw [way.mp z];rfl
  ·rw [way.mp z,qbm];rfl
 ·rw [if_neg c,qfp]
  by_cases d:k<a.length+b.length - 1
  ·rw [if_pos d,qqa a b k a.length (wac _),wa8]
  ·rw [if_neg d,qbM (n:=b.length) (λi hi=>qay hi) a k ⋯]
theorem qtw (a b:List Int) (x:Int):evI (rT a b) x=evI a x*evI b x:=qmo a b x _ λk=>qvQ a b k
theorem qqb (a b:List Int):(rT a b).length<=a.length+b.length:=by
 unfold rT
 split
 ·exact wad _
 ·rw [waa,waw];omega
theorem qlv {a:List Int} (h:a.length<2) (x:Int):evI a x=co a 0:=by
 match a,h with
 | [],_=>rfl
 | [v],_=>show v+x*0=v;omega
theorem qu1 {m c:Int} {ms qs rs:List Int} (h:∀ k,m∣co rs k - (co ms k - cvL qs (co [c,1]) k)) (rl:rs.length<2) (tz:Tz qs) (hq:∀ z∈qs,0<=z/\z<m):qs.length<=ms.length:=by
 rcases wan ms.length qs.length with c1 | c1
 ·exfalso
  have q0:qs≠[]:=λz=>by rw [z] at c1;exact absurd c1 (Nat.not_lt_zero _)
  have top:=tz.resolve_left q0
  have l0:0<qs.length:=wbr.mpr q0
  have hk:=h qs.length
  have e:cvL qs (co [c,1]) qs.length=co qs (qs.length - 1):=by
   rw [<-qr8,lin,qaO,qaw,qau,<-qaO,qay (a:=qs) (wac _)]
   obtain ⟨n,hn⟩:∃ n,qs.length=n+1:=⟨qs.length - 1,⋯⟩
   rw [hn,<-qaO]
   show c*0+co qs n=co qs n
   omega
  rw [qay (a:=rs) ⋯,qay (a:=ms) ⋯,e] at hk
  have hk:m∣co qs (qs.length - 1):=by obtain ⟨u,hu⟩:=hk;exact ⟨u,⋯⟩
  have mem:co qs (qs.length - 1)∈qs:=by
   unfold co
   rw [wab,waf ⋯]
   exact wbf _
  have b:=hq _ mem
  have:=wb7 ⋯ hk
  omega
 ·exact c1
theorem qsg {a:List Int} (ha:Tz a) (n:Nat) (h:∀ k,n<=k->co a k=0):a.length<=n:=by
 rcases wan n a.length with z | z
 ·rcases ha with e | e
  ·rw [e] at z;simp at z
  ·exact absurd (h _ ⋯) e
 ·exact z
theorem qqc {m:Int} {rs:List Int} {b:Nat} (bm:Bd b m) (h:∀ z∈rs,0<=z/\z<m):∀ z∈rs,Bd b z:=λz hz=>bm.le (by have:=h z hz;omega)
theorem qu2 {m:Int} (m0:0<m) {rs:List Int} (h:∀ z∈rs,0<=z/\z<m) (k:Nat):0<=co rs k/\co rs k<m:=by
 by_cases c:k<rs.length
 ·refine h _ ?_
  unfold co
  rw [wab,waf c]
  exact wbf _
 ·rw [qay ⋯];omega
theorem qki {m f x:Int} {rs ns:List Int} (h:∀ k,m∣co rs k - f*co ns k):m∣evI rs x - f*evI ns x/\m∣dE rs x - f*dE ns x:=by
 have h':∀ k,m∣co rs k - co (ns.map (f*·)) k:=λk=>by
  have:co (ns.map (f*·)) k=f*co ns k:=by rw [qaO,qau,<-qaO]
  rw [this];exact h k
 have h1:=qcE _ _ x h'
 have h2:=qlt _ _ x h'
 rw [qgn] at h1
 rw [qp1] at h2
 exact ⟨h1,h2⟩
theorem qtx {fs:List Int} (h:fs.length<=2) (z:co fs 1=1):fs=[co fs 0,1]:=by
 match fs,h with
 | [],_=>exact absurd z ∅
 | [v],_=>exact absurd z (by show ¬ (0:Int)=1;decide)
 | [v,w],_=>have:w=1:=z;rw [this];rfl
theorem bd1 (b:Nat) (h:1<=b):Bd b 1:=(show Bd 1 1 by unfold Bd;decide).mono h
theorem qfa {c:Int} {b:Nat} (h:Bd b c) (h1:1<=b):∀ z∈[c,1],Bd b z:=λz hz=>by
 rcases was.mp hz with rfl | hz
 ·exact h
 ·rw [wag.mp hz];exact bd1 b h1
theorem qjx {m a b:Int} (h:m∣a - b):m∣b - a:=by obtain ⟨u,hu⟩:=h;exact ⟨-u,by rw [Int.mul_neg];omega⟩
theorem qqd {m a b c:Int} (h:m∣a - b) (h':m∣b - c):m∣a - c:=by obtain ⟨u,hu⟩:=h;obtain ⟨v,hv⟩:=h';exact ⟨u+v,by rw [Int.mul_add];omega⟩
theorem qsh {m a b:Int} (h:m∣a - b) (c:Int):m∣a*c - b*c:=by obtain ⟨u,hu⟩:=h;exact ⟨u*c,by rw [<-Int.sub_mul,hu];grind⟩
theorem qqe (h:qfr K vs H Q E):qq3 K { nx:=λ_ H'=>Q .non H',rt:=Q } (L2.start ["row","factor","prime","floor","modulus","quotient","weight","whole","rest","more","spare"] vs) H:=by
 obtain ⟨a,b,ns,s,F,p,rfl,ha,hb,hp,p2,lz,l9,bn,s0,sp,nl,hs,hs',F0,bF,k⟩:=h
 have pp:=hp.two
 rw [qtr] at hs'
 have nne:ns≠[]:=wbr.mp lz.1
 have bn':∀ z∈ns,Bd 60000000 z:=λz hz=>(bn z hz).mono ∅
 have bp:Bd 20 (p:Int):=by unfold Bd;rw [wa9];have:(2:Nat) ^ 20=1048576:=by decide
                           omega
 have bs:Bd 20 (-s):=bp.le ⋯
 generalize hlead:lst' ns=lead at nl
 have hl2:co ns (ns.length - 1)=lead:=hlead
 refine ⟨_,rfl,?_⟩
 show qje K _ _ _
 refine qb1 (qd6 (ql4 (qbt ⟨_,rfl,_,rfl,a,ns,p,rfl,ha,pp,bp.mono ∅,⋯,bn',λ_=>by rw [hl2,Int.gcd_comm];exact qni hp nl,λr1 ms f H1 s1 h1 l1 o1 md1=>?_⟩)))
 have o1:=o1 nne
 have hf:(p:Int)∣f*lead - 1:=by
  have this:(p:Int)∣co ms (ms.length - 1) - f*co ns (ms.length - 1):=md1.2 _
  rw [o1,l1,hl2] at this
  exact qjx this
 have hb1:=s1 _ _ hb
 refine ⟨_,rfl,_,rfl,r1,b,ms,[-s,1],(p:Int),20,rfl,h1,hb1,by show 0<2;decide,rfl,⋯,bp,qfa bs ∅,∅,⋯,by show 2<=1000;decide,λt r d qs rs H2 s2 ht hr hd tq tr rl md2 hq=>?_⟩
 obtain ⟨_,pd⟩:=parted md2.2 rl
 rw [Int.neg_neg] at pd
 have me:=(qki (x:=s) md1.2).2
 have ql:qs.length<=ms.length:=qu1 md2.2 rl tq hq
 have nq:¬ (p:Int)∣evI qs s:=λz=>by
  have h1:(p:Int)∣f*dE ns s:=by
   obtain ⟨x,hx⟩:=me;obtain ⟨y,hy⟩:=pd;obtain ⟨w,hw⟩:=z
   exact ⟨w+y - x,by rw [wbs,Int.mul_add];omega⟩
  rcases qeP hp h1 with y | y
  ·obtain ⟨x,hx⟩:=y;obtain ⟨w,hw⟩:=hf
   have:(p:Int)∣1:=⟨x*lead - w,by rw [hx] at hw;grind⟩
   have:=wb7 ∅ this
   omega
  ·exact hs' y
 refine ⟨_,_,_,_,rfl,rfl,ht,rfl,?_⟩
 have hb2:=s2 _ _ hb1
 show qjd K _ [some (.ref a),some (.ref b),some (.int (p:Int)),some (.int F),some (.int (p:Int)),some (.ref r),none,none,none,none,none] H2
 refine ql3 ⟨_,rfl,_,rfl,_,rfl,r,b,qs,-s,p,rfl,hr,hb2,hp,p2,bs,⋯,by rw [Int.neg_neg];exact nq,λg w H3 s3 hg w0 wp hw=>?_⟩
 rw [Int.neg_neg] at hw
 have s13:=(s1.trans s2).trans s3
 have hb3:=s3 _ _ hb2
 have ep:(p:Int)=((p ^ 1:Nat):Int):=by rw [Nat.pow_one]
 have bF2:Bd 3000 (F*F):=bF.mul bF
 refine while_by (λm σ H'=>∃ (b' g:Addr) (c:Int) (ws:List Int) (j:Nat) (o5 o7 o8 o9 o10:Option V),σ=[some (.ref a),some (.ref b'),some (.int (p:Int)),some (.int F),some (.int ((p ^ j:Nat):Int)),o5,some (.ref g),o7,o8,o9,o10]/\Same H H'/\H' b'=some (.lst ([c,1].map V.int))/\H' g=some (.lst (ws.map V.int))/\ws.length<2/\Bd 3050 c/\(∀ z∈ws,Bd 3050 z)/\1<=j/\((p ^ j:Nat):Int)∣evI ns (-c)/\((p ^ j:Nat):Int)∣co ws 0*dE ns (-c) - lead/\(p:Int)∣-c - s/\Bd 3050 ((p ^ j:Nat):Int)/\m=(F+1 - ((p ^ j:Nat):Int)).toNat) _ ⟨b,g,-s,[w],1,_,_,_,_,_,by rw [<-ep];rfl,s13,hb3,hg,by show 1<2;decide,bs.mono ∅,?_,wac _,?_,?_,?_,?_,rfl⟩ ?_
 ·intro z hz
  rw [wag.mp hz]
  exact (bp.le ⋯).mono ∅
 ·rw [<-ep,Int.neg_neg];exact hs
 ·rw [<-ep,Int.neg_neg]
  show (p:Int)∣w*dE ns s - lead
  obtain ⟨x,hx⟩:=hw
  obtain ⟨y,hy⟩:=hf
  obtain ⟨u,hu⟩:=me
  obtain ⟨v,hv⟩:=pd
  have e:f*(w*dE ns s - lead)=(p:Int)*(x - w*u+w*v - y):=by
   have h1:f*dE ns s=evI qs s+(p:Int)*v - (p:Int)*u:=by omega
   have h2:f*(w*dE ns s - lead)=w*(f*dE ns s) - f*lead:=by grind
   rw [h2,h1,show f*lead=1+(p:Int)*y by omega]
   have h3:w*evI qs s=1+(p:Int)*x:=by omega
   have h4:w*(evI qs s+(p:Int)*v - (p:Int)*u)=w*evI qs s+w*((p:Int)*v) - w*((p:Int)*u):=by grind
   rw [h4,h3];grind
  rcases qeP hp (show (p:Int)∣f*(w*dE ns s - lead) from ⟨_,e⟩) with z | z
  ·obtain ⟨q,hq⟩:=z
   have:(p:Int)∣1:=⟨q*lead - y,by rw [hq] at hy;grind⟩
   have:=wb7 ∅ this
   omega
  ·exact z
 ·rw [Int.neg_neg,Int.sub_self];exact wbn _
 ·rw [<-ep];exact bp.mono ∅
 rintro m σ H' ⟨b',g,c,ws,j,o5,o7,o8,o9,o10,rfl,s4,hb4,hg4,wl,bc,bw,j1,h1,h2,h3,bM,rfl⟩
 have M2:2<=p ^ j:=wap pp (by
  have:=wba (show 0<p by omega) j1
  rw [Nat.pow_one] at this
  exact this)
 refine ⟨_,rfl,_,rfl,_,_,rfl,rfl,_,rfl,qbI (λcc=>?_) (λcc=>?_)⟩
 ·have cc:((p ^ j:Nat):Int)<=F:=of_decide_eq_true cc
  refine ⟨_,λ_ _ h=>h,?_⟩
  have eM:((p ^ j:Nat):Int)*((p ^ j:Nat):Int)=((p ^ (j+j):Nat):Int):=by rw [Nat.pow_add];push_cast;rfl
  have bMM:Bd 3050 ((p ^ (j+j):Nat):Int):=by
   rw [<-eM]
   refine (bF2.mono ∅).le ?_
   rw [wam,wam]
   exact wb4 ⋯ ⋯
  refine ⟨_,rfl,_,rfl,_,_,rfl,rfl,qiB bM bM,?_⟩
  show qfH K _ [some (.ref a),some (.ref b'),some (.int (p:Int)),some (.int F),some (.int (((p ^ j:Nat):Int)*((p ^ j:Nat):Int))),o5,some (.ref g),o7,o8,o9,o10] H'
  rw [eM]
  have MM2:2<=p ^ (j+j):=wap M2 (wba ⋯ ⋯)
  refine qcD ⟨_,rfl,_,rfl,a,ns,p ^ (j+j),rfl,s4 _ _ ha,MM2,bMM.mono ∅,⋯,bn',λ_=>by rw [hl2,Int.gcd_comm];exact qp3 hp nl (j+j),λr1 wh U H1 s1 h1' l1 o1 md1=>?_⟩
  have o1:=o1 nne
  have hU:((p ^ (j+j):Nat):Int)∣U*lead - 1:=by
   have this:((p ^ (j+j):Nat):Int)∣co wh (wh.length - 1) - U*co ns (wh.length - 1):=md1.2 _
   rw [o1,l1,hl2] at this
   exact qjx this
  have M0:(0:Int)<((p ^ (j+j):Nat):Int):=by omega
  have eM':=eM
  generalize hMM:((p ^ (j+j):Nat):Int)=N at bMM hU M0 md1 eM ⊢
  have hb5:=s1 _ _ hb4
  have hg5:=s1 _ _ hg4
  refine ql3 ⟨_,rfl,_,rfl,_,rfl,r1,b',wh,[c,1],N,3050,rfl,h1',hb5,by show 0<2;decide,rfl,M0,bMM,qfa bc ∅,∅,⋯,by show 2<=1000;decide,λd qs1 rs1 H2 s2 hd tz1 rl1 md2=>?_⟩
  have rl1:rs1.length<2:=rl1
  obtain ⟨pv,_⟩:=parted md2.2 rl1
  have hb6:=s2 _ _ hb5
  have hg6:=s2 _ _ hg5
  have hr6:=s2 _ _ h1'
  have brs1:=qqc bMM md2.1
  refine qb1 (ql4 (qbt ⟨_,rfl,_,rfl,d,g,rs1,ws,3050,3050,rfl,hd,hg6,brs1,bw,∅,∅,⋯,⋯,λx H3 s3 hx=>?_⟩))
  have hb7:=s3 _ _ hb6
  refine ⟨_,rfl,_,rfl,x,b',rT rs1 ws,[c,1],N,3050,rfl,hx,hb7,by show 0<2;decide,rfl,M0,bMM,qfa bc ∅,∅,by have:=qqb rs1 ws;omega,by show 2<=1000;decide,λd2 qs2 rs2 H4 s4' hd2 tz2 rl2 md3=>?_⟩
  have rl2:rs2.length<2:=rl2
  obtain ⟨pm,_⟩:=parted md3.2 rl2
  rw [qtw,qlv rl1,qlv wl] at pm
  have hb8:=s4' _ _ hb7
  have brs2:=qqc bMM md3.1
  refine qb1 (qbt (quG ⟨_,rfl,_,rfl,_,rfl,b',d2,[c,1],rs2,1,-1,0,rfl,hb8,hd2,by show 2<=1000;decide,⋯,bd1 _ ∅,by unfold Bd;exact Nat.one_lt_two_pow ∅,λz hz=>(qfa bc ∅ z hz).mono ∅,λz hz=>(brs2 z hz).mono ∅,λy rs3 H5 s5 hy tz3 e3=>?_⟩))
  have c3:∀ k,co rs3 k=co [c,1] k+co rs2 k:=λk=>by
   rw [e3 k];unfold upS;rw [if_pos (wad _),Nat.sub_zero];omega
  have l3:rs3.length<=2:=qsg tz3 2 λk hk=>by rw [c3 k,qay (a:=[c,1]) hk,qay (a:=rs2) ⋯];rfl
  refine ⟨_,rfl,y,rs3,N,rfl,hy,M0,⋯,λb2 fs H6 s6 hb2 tzf lf mdf=>?_⟩
  have f1:co fs 1=1:=by
   have q:=mdf.2 1
   rw [c3 1,qay (a:=rs2) ⋯] at q
   have q:N∣co fs 1 - (1+0):=q
   have b1:=qu2 M0 mdf.1 1
   obtain ⟨x,hx⟩:=q
   have e:co fs 1=1+N*x:=by omega
   have:co fs 1 % N=1 % N:=by rw [e,Int.add_mul_emod_self_left]
   rw [wca b1.1 b1.2,wca ∅ ⋯] at this
   exact this
  have ef:=qtx ⋯ f1
  have f0:=mdf.2 0
  rw [c3 0] at f0
  have bc':Bd 3050 (co fs 0):=by have:=qu2 M0 mdf.1 0;exact bMM.le ⋯
  generalize hc':co fs 0=c' at f0 bc' ef
  subst ef
  have f0:N∣c' - (c+co rs2 0):=f0
  have s16:=((s2.trans s3).trans s4').trans (s5.trans s6)
  have hr9:=s16 _ _ h1'
  have hg9:=s16 _ _ hg5
  show qfG K _ _ _
  refine qb1 (qd6 (ql4 ⟨_,rfl,_,rfl,_,rfl,r1,b2,wh,[c',1],N,3050,rfl,hr9,hb2,by show 0<2;decide,rfl,M0,bMM,qfa bc' ∅,∅,⋯,by show 2<=1000;decide,λt r d3 qs rs H7 s7 ht hr hd3 tq tr rl md4 hq=>⟨_,_,_,_,rfl,rfl,ht,rfl,?_⟩⟩))
  have rl:rs.length<2:=rl
  obtain ⟨_,pq⟩:=parted md4.2 rl
  have ql:qs.length<=wh.length:=qu1 md4.2 rl tq hq
  have hb10:=s7 _ _ hb2
  have hg10:=s7 _ _ hg9
  show qfF K _ [some (.ref a),some (.ref b2),some (.int (p:Int)),some (.int F),some (.int N),some (.ref r),some (.ref g),some (.ref r1),some (.ref d),some (.ref d2),o10] H7
  refine qb1 (quG (qhU (r_c ⟨qmZ,λy2 hy2=>?_⟩)))
  have s8:=qag hy2 (.lst [.int 2])
  have hy8:upd H7 y2 (.lst [.int 2]) y2=some (HO.lst ([(2:Int)].map V.int)):=qah
  have hb11:=s8 _ _ hb10
  have hg11:=s8 _ _ hg10
  have hr11:=s8 _ _ hr
  generalize upd H7 y2 (.lst [.int 2])=H8 at s8 hy8 hb11 hg11 hr11 ⊢
  have bq:=qqc bMM hq
  refine r_c (ql4 (qbt ⟨_,rfl,_,rfl,r,g,qs,ws,3050,3050,rfl,hr11,hg11,bq,bw,∅,∅,⋯,⋯,λx2 H9 s9 hx2=>?_⟩))
  have hb12:=s9 _ _ hb11
  refine ⟨_,rfl,_,rfl,x2,b2,rT qs ws,[c',1],N,3050,rfl,hx2,hb12,by show 0<2;decide,rfl,M0,bMM,qfa bc' ∅,∅,by have:=qqb qs ws;omega,by show 2<=1000;decide,λd4 qs4 rs4 HA sA hd4 tz4 rl4 md5=>?_⟩
  have rl4:rs4.length<2:=rl4
  obtain ⟨pt,_⟩:=parted md5.2 rl4
  rw [qtw,qlv wl] at pt
  have brs4:=qqc bMM md5.1
  refine r_c (r_c ⟨y2,d4,[2],rs4,1,1,0,rfl,(s9.trans sA) _ _ hy8,hd4,by show 1<=1000;decide,⋯,bd1 _ ∅,bd1 _ ∅,λz hz=>by rw [wag.mp hz];unfold Bd;exact wau (show (2:Int).natAbs<2 ^ 2 by decide) (wba ∅ ∅),λz hz=>(brs4 z hz).mono ∅,λy3 rs5 HB sB hy3 tz5 e5=>?_⟩)
  have c5:∀ k,co rs5 k=co [2] k - co rs4 k:=λk=>by
   rw [e5 k];unfold upS;rw [if_pos (wad _),Nat.sub_zero];omega
  have l5:rs5.length<2:=Nat.lt_succ_of_le (qsg tz5 1 λk hk=>by rw [c5 k,qay (a:=[2]) hk,qay (a:=rs4) ⋯];rfl)
  have b5:∀ z∈rs5,Bd 3060 z:=by
   intro z hz
   have:rs5=[co rs5 0]:=by
    match rs5,l5,hz with
    | [v],_,_=>rfl
   rw [this] at hz
   rw [wag.mp hz,c5 0]
   have h2:Bd 3050 (co [2] 0):=by unfold Bd;exact wau (show (2:Int).natAbs<2 ^ 2 by decide) (wba ∅ ∅)
   exact (Bd.sub h2 (qbA brs4 0)).mono ∅
  have sAB:=(s9.trans sA).trans sB
  have hgB:=sAB _ _ hg11
  have hbB:=sAB _ _ hb11
  show qfE K _ _ _
  refine qgB (ql4 (qbt ⟨_,rfl,_,rfl,g,y3,ws,rs5,3050,3060,rfl,hgB,hy3,bw,b5,∅,∅,⋯,⋯,λx3 HC sC hx3=>?_⟩))
  have hbC:=sC _ _ hbB
  refine ⟨_,rfl,_,rfl,x3,b2,rT ws rs5,[c',1],N,3050,rfl,hx3,hbC,by show 0<2;decide,rfl,M0,bMM,qfa bc' ∅,∅,by have:=qqb ws rs5;omega,by show 2<=1000;decide,λg2 qs6 ws2 HD sD hg2 tz6 rl6 md6=>?_⟩
  have rl6:ws2.length<2:=rl6
  obtain ⟨pw,_⟩:=parted md6.2 rl6
  rw [qtw,qlv wl,qlv l5,c5 0] at pw
  have hbD:=sD _ _ hbC
  have me:=qki (x:=-c) md1.2
  have me':=qki (x:=-c') md1.2
  obtain ⟨i1,i2,i3⟩:=hensel (row:=ns) (r:=-c) (w:=co ws 0) (U:=U) (lead:=lead) (m:=((p ^ j:Nat):Int)) (v:=co rs1 0) (r':=-c') h1 h2 (by rw [eM];exact hU) (by rw [eM];exact qqd (qjx pv) me.1) (by
   rw [eM]
   obtain ⟨x,hx⟩:=f0
   obtain ⟨y,hy⟩:=pm
   exact ⟨-x+y,by rw [Int.mul_add,Int.mul_neg];omega⟩)
  rw [eM] at i2 i3
  have t1:N∣co rs4 0 - U*dE ns (-c')*co ws 0:=qqd (qjx pt) (qsh (qqd (qjx pq) me'.2) (co ws 0))
  have w1:N∣co ws2 0 - co ws 0*(2 - co rs4 0):=qjx pw
  have i3:=i3 _ _ t1 w1
  have dp:(p:Int)∣((p ^ j:Nat):Int):=by
   obtain ⟨i,hi⟩:∃ i,j=i+1:=⟨j - 1,⋯⟩
   rw [hi,wax];push_cast;exact wb9 ..
  refine ⟨(F+1 - N).toNat,?_,b2,g2,c',ws2,j+j,_,_,_,_,_,by rw [hMM];rfl,((((s4.trans s1).trans s16).trans (s7.trans s8)).trans sAB).trans (sC.trans sD),hbD,hg2,rl6,bc',qqc bMM md6.1,⋯,by rw [hMM];exact i2,by rw [hMM];exact i3,qqd (war dp i1) h3,by rw [hMM];exact bMM,by rw [hMM]⟩
  have:((p ^ j:Nat):Int)*2<=((p ^ j:Nat):Int)*((p ^ j:Nat):Int):=wbw ⋯ ⋯
  omega
 ·have cc:¬ ((p ^ j:Nat):Int)<=F:=λz=>cc (decide_eq_true z)
  show qjc K _ _ _
  refine qiM (qmY ⟨_,rfl,_,rfl,qnH,λt ht=>?_⟩)
  have st:=qag ht (.tup [.ref b',.int ((p ^ j:Nat):Int)])
  exact k t b' c j _ (s4.trans st) qah (st _ _ hb4) ⋯ (bM.mono ∅) (bc.mono ∅) h1 h3
theorem qrl {k:Int} {q:Nu} (k0:0<k) (h:Low q.1 q.2):qaP (k*q.1) (k*q.2)=q:=by
 have d0:k*q.2≠0:=wak ⋯ (by have:=h.pos;omega)
 refine qeg (qaY d0) h ?_
 rw [qbL d0]
 unfold val
 have k1:(k:Rat)≠0:=qa6 ⋯
 have q1:(q.2:Rat)≠0:=qa6 (by have:=h.pos;omega)
 push_cast
 rw [Rat.div_def,Rat.div_def,Rat.inv_mul_rev]
 have:=Rat.mul_inv_cancel _ k1
 grind
theorem qnU {a b n:Int} (n0:0<n) (h:a<b):(qaP a n).1*(qaP b n).2<(qaP b n).1*(qaP a n).2:=by
 have l1:=qaY (n:=a) (m:=n) ⋯
 have l2:=qaY (n:=b) (m:=n) ⋯
 have v1:=qbL (n:=a) (m:=n) ⋯
 have v2:=qbL (n:=b) (m:=n) ⋯
 have cr:∀ {t d x:Int},0<d->val (t,d)=(x:Rat) / (n:Rat)->t*n=x*d:=λ{t d x} d0 e=>by
  unfold val at e
  have d1:(d:Rat)≠0:=qa6 ⋯
  have n1:(n:Rat)≠0:=qa6 ⋯
  have e:(t:Rat) / (d:Rat)=(x:Rat) / (n:Rat):=e
  have h1:(t:Rat) / (d:Rat)*d=t:=Rat.div_mul_cancel d1
  have h2:(x:Rat) / (n:Rat)*n=x:=Rat.div_mul_cancel n1
  have:(t:Rat)*n=x*d:=by rw [<-h1,<-h2,e];grind
  exact_mod_cast this
 have e1:(qaP a n).1*n=a*(qaP a n).2:=cr l1.pos v1
 have e2:(qaP b n).1*n=b*(qaP b n).2:=cr l2.pos v2
 have p1:=l1.pos
 have p2:=l2.pos
 clear v1 v2 cr l1 l2
 generalize (qaP a n).1=t at *
 generalize (qaP a n).2=d at *
 generalize (qaP b n).1=u at *
 generalize (qaP b n).2=e at *
 have:(t*e)*n<(u*d)*n:=by
  have h1:(t*e)*n=(a*d)*e:=by rw [<-e1];grind
  have h2:(u*d)*n=(b*e)*d:=by rw [<-e2];grind
  rw [h1,h2]
  have:a*(d*e)<b*(d*e):=Int.mul_lt_mul_of_pos_right h (Int.mul_pos p1 p2)
  have h3:a*d*e=a*(d*e):=by grind
  have h4:b*e*d=b*(d*e):=by grind
  omega
 exact Int.lt_of_mul_lt_mul_right this ⋯
theorem qqf:Pr 2:=⟨∅,λd hd=>by have:=wbx ∅ hd;have:d≠0:=λz=>by rw [z] at hd;revert hd;decide
                               omega⟩
theorem qrm {rs:List Int} {p:Nat} (hp:Pr p) (ne:rs≠[]) (nl:¬ (p:Int)∣lst' rs) {q:Nu} (lq:Low q.1 q.2) (z:hw rs q.1 q.2=0):¬ (p:Int)∣q.2/\∃ s:Int,0<=s/\s<(p:Int)/\(p:Int)∣q.2*s - q.1/\(p:Int)∣evI rs s:=by
 have np:¬ (p:Int)∣q.2:=λy=>nl (war y (qp7 ne lq.one z))
 refine ⟨np,?_⟩
 have pp:=hp.two
 obtain ⟨b,hb⟩:∃ b,(p:Int)∣q.2*b - 1:=by
  have g:=qni hp np
  obtain ⟨x,y,hxy⟩:=qvt (p:Int) q.2
  rw [g] at hxy
  have hxy:x*(p:Int)+y*q.2=1:=hxy
  exact ⟨y,⟨-x,by rw [Int.mul_neg,wbh q.2,wbh (p:Int)];omega⟩⟩
 have e0:(p:Int)∣q.2*(b*q.1 % (p:Int)) - q.1:=by
  obtain ⟨u,hu⟩:=hb
  obtain ⟨v,hv⟩:=qbj (b*q.1) (p:Int)
  refine ⟨q.2*v+u*q.1,?_⟩
  have:b*q.1 % (p:Int)=b*q.1+(p:Int)*v:=by omega
  rw [this]
  have h2:q.2*b=1+(p:Int)*u:=by omega
  have h3:q.2*(b*q.1+(p:Int)*v)=q.2*b*q.1+q.2*((p:Int)*v):=by grind
  rw [h3,h2];grind
 refine ⟨b*q.1 % (p:Int),wav _ ⋯,waz _ ⋯,e0,?_⟩
 have h:=qtp e0 rs
 rw [z,wb3,Int.sub_zero] at h
 rcases qeP hp h with y | y
 ·exact absurd (qlu hp _ y) np
 ·exact y
theorem qrn {rs:List Int} {p j E:Nat} (hp:Pr p) (ne:rs≠[]) {lead c s W:Int} (hl:lst' rs=lead) (l0:0<lead) (nl:¬ (p:Int)∣lead) {q:Nu} (lq:Low q.1 q.2) (z:hw rs q.1 q.2=0) (hs:(p:Int)∣q.2*s - q.1) (hd:¬ (p:Int)∣dE rs s)
  (hr:((p ^ j:Nat):Int)∣evI rs (-c)) (hc:(p:Int)∣-c - s) (hW:((p ^ j:Nat):Int)∣W - -c*lead) (bW:2*W.natAbs<=((p ^ j:Nat):Int).natAbs) (big:lead*2 ^ (E+1)<((p ^ j:Nat):Int)) (sz:∀ i,i+1<rs.length->2 ^ (rs.length - 1 - i)*(co rs i).natAbs<=lead.natAbs*2 ^ ((rs.length - 1 - i)*E)):∃ k:Int,0<k/\lead=k*q.2/\W=k*q.1:=by
 have np:¬ (p:Int)∣q.2:=λy=>nl (hl ▸ war y (qp7 ne lq.one z))
 have near:=qtt l0 lq.pos ne hl sz z
 obtain ⟨k,hk⟩:q.2∣lead:=hl ▸ qp7 ne lq.one z
 have q2:=lq.pos
 have k0:0<k:=by
  by_cases y:0<k
  ·exact y
  ·have:q.2*k<=q.2*0:=wbw ⋯ ⋯
   omega
 refine ⟨k,k0,by rw [hk,wbh],?_⟩
 generalize hN:((p ^ j:Nat):Int)=N at hr hW bW big
 obtain ⟨b,hb⟩:∃ b,N∣q.2*b - 1:=by
  have g:=qp3 hp np j
  rw [hN] at g
  obtain ⟨x,y,hxy⟩:=qvt N q.2
  rw [g] at hxy
  have hxy:x*N+y*q.2=1:=hxy
  exact ⟨y,⟨-x,by rw [Int.mul_neg,wbh q.2,wbh N];omega⟩⟩
 have e0:N∣q.2*(b*q.1) - q.1:=by
  obtain ⟨u,hu⟩:=hb
  exact ⟨u*q.1,by have h2:q.2*b=1+N*u:=by omega
                  have h3:q.2*(b*q.1)=q.2*b*q.1:=by grind
                  rw [h3,h2];grind⟩
 have ev0:N∣evI rs (b*q.1):=by
  have h:=qtp e0 rs
  rw [z,wb3,Int.sub_zero,wbh] at h
  rw [<-hN] at h ⊢
  exact qp4 hp (λy=>np (qlu hp _ y)) j h
 have hrN:=hr
 rw [<-hN] at ev0 hr
 by_cases j0:j=0
 ·-- modulus 1:cannot hold floor
  rw [j0,Nat.pow_zero] at hN
  have:(0:Int)<lead*2 ^ (E+1):=Int.mul_pos l0 (Int.pow_pos ∅)
  omega
 have dp:(p:Int)∣N:=by
  obtain ⟨i,hi⟩:∃ i,j=i+1:=⟨j - 1,⋯⟩
  rw [<-hN,hi,wax];push_cast;exact wb9 ..
 have ps:(p:Int)∣b*q.1 - s:=by
  have h1:(p:Int)∣q.2*(b*q.1) - q.1:=war dp e0
  have h2:(p:Int)∣(b*q.1 - s)*q.2:=by
   obtain ⟨u,hu⟩:=h1;obtain ⟨v,hv⟩:=hs
   exact ⟨u - v,by rw [wbs,<-hu,<-hv];grind⟩
  rcases qeP hp h2 with y | y
  ·exact y
  ·exact absurd y np
 have pr:(p:Int)∣b*q.1 - -c:=by
  obtain ⟨u,hu⟩:=ps;obtain ⟨v,hv⟩:=hc
  exact ⟨u - v,by rw [wbs];omega⟩
 have nd:¬ (p:Int)∣dE rs (-c):=λy=>hd (by
  obtain ⟨F,hF⟩:=qvO rs (-c) (s - -c)
  rw [show -c+(s - -c)=s by omega] at hF
  obtain ⟨u,hu⟩:=y;obtain ⟨v,hv⟩:=hc
  exact ⟨u - v*F,by rw [hF,hu,show s - -c = -((p:Int)*v) by omega];grind⟩)
 have uq:=uniq hp pr hr ev0 nd
 rw [hN] at uq
 have fin:N∣W - k*q.1:=by
  obtain ⟨x,hx⟩:=uq
  obtain ⟨y,hy⟩:=e0
  obtain ⟨w,hw⟩:=hW
  refine ⟨w - k*q.2*x+k*y,?_⟩
  have h1:-c=b*q.1 - N*x:=by omega
  have h2:W = -c*lead+N*w:=by omega
  rw [h2,h1,hk]
  have h3:q.2*(b*q.1)=q.1+N*y:=by omega
  have h4:(b*q.1 - N*x)*(q.2*k)=q.2*(b*q.1)*k - N*x*(q.2*k):=by grind
  rw [h4,h3];grind
 have small:2*(k*q.1).natAbs<N.natAbs:=by
  have h1:(k*q.1).natAbs=k.natAbs*q.1.natAbs:=wam ..
  have h2:k.natAbs*q.1.natAbs<k.natAbs*(q.2.natAbs*2 ^ E):=Nat.mul_lt_mul_of_pos_left near ⋯
  have h3:lead.natAbs=q.2.natAbs*k.natAbs:=by rw [hk];exact wam ..
  have h4:2*(k.natAbs*(q.2.natAbs*2 ^ E))=lead.natAbs*2 ^ (E+1):=by rw [h3,wax];grind
  have h5:((lead.natAbs*2 ^ (E+1):Nat):Int)=lead*2 ^ (E+1):=by push_cast;rw [Int.natAbs_of_nonneg ⋯]
  omega
 obtain ⟨x,hx⟩:=fin
 rcases Int.lt_trichotomy x 0 with y | y | y
 ·have:N*x<=N*(-1):=wbw ⋯ ⋯
  omega
 ·rw [y] at hx;omega
 ·have:N*1<=N*x:=wbw ⋯ ⋯
  omega
theorem qkj {W n:Int} (n0:0<n):∃ k:Int,k≠0/\W=(qaP W n).1*k/\n=(qaP W n).2*k:=by
 have l1:=qaY (n:=W) (m:=n) ⋯
 have v1:=qbL (n:=W) (m:=n) ⋯
 have e:(qaP W n).1*n=W*(qaP W n).2:=by
  unfold val at v1
  have d1:((qaP W n).2:Rat)≠0:=qa6 (by have:=l1.pos;omega)
  have n1:(n:Rat)≠0:=qa6 ⋯
  have h1:((qaP W n).1:Rat) / ((qaP W n).2:Rat)*((qaP W n).2:Rat)=((qaP W n).1:Rat):=Rat.div_mul_cancel d1
  have h2:(W:Rat) / (n:Rat)*n=W:=Rat.div_mul_cancel n1
  have:((qaP W n).1:Rat)*n=W*((qaP W n).2:Rat):=by rw [<-h1,<-h2,v1];grind
  exact_mod_cast this
 have d0:=l1.pos
 have hd:(qaP W n).2∣n:=qkh (c:=(qaP W n).1) ⟨W,by rw [wbh,e,wbh]⟩ (by rw [Int.gcd_comm];exact l1.one)
 obtain ⟨k,hk⟩:=hd
 generalize (qaP W n).1=t at *
 generalize (qaP W n).2=d at *
 refine ⟨k,λz=>by rw [z] at hk;omega,?_,hk⟩
 have:W*d=t*k*d:=by rw [<-e,hk];grind
 exact Int.eq_of_mul_eq_mul_right ⋯ this
theorem none_of {H H':Hp} {x:Addr} (s:Same H H') (h:H' x=none):H x=none:=by
 cases e:H x with
 | none=>rfl
 | some o=>rw [s _ _ e] at h;cases h
theorem qkk {W n:Int} (n0:0<n):(qaP W n).1.natAbs<=W.natAbs:=by
 obtain ⟨k,k0,e,_⟩:=qkj (W:=W) n0
 generalize (qaP W n).1=t at e
 rw [e,wam]
 exact wcn _ ⋯
theorem qhm {W n:Int} (n0:0<n):(qaP W n).2.natAbs<=n.natAbs:=by
 obtain ⟨k,k0,_,e⟩:=qkj (W:=W) n0
 generalize (qaP W n).2=t at e
 rw [e,wam]
 exact wcn _ ⋯
noncomputable def StM (rs:List Int) (g:Nat) (H:Hp) (pr:Nat) (st:V):Prop:=(st=.non/\pr<g)\/∃ (e:Addr) (ss:List Int),st=.ref e/\H e=some (.lst (ss.map V.int))/\¬ (pr:Int)∣lst' rs/\ss.Nodup/\(∀ x,0<=x->x<(pr:Int)->(pr:Int)∣evI rs x->x∈ss)/\∀ x∈ss,0<=x/\x<(pr:Int)/\(pr:Int)∣evI rs x/\¬ (pr:Int)∣evI (dI rs) x
theorem qlw {K:W.Frag} {H:Hp} {Q:VK} {E:XK} {r:Addr} {rs:List Int} {g pr:Nat} (hr:H r=some (.lst (rs.map V.int))) (lz:Lz rs) (l9:rs.length<=9) (hp:Pr pr) (pg:pr<=g) (g2:g<=2000) (gl:¬ (g:Int)∣lst' rs) (gx:∀ x,(g:Int)∣evI rs x->¬ (g:Int)∣evI (dI rs) x)
  (k:∀ (st:V) (H':Hp),Same H H'->StM rs g H' pr st->Q st H'):qbg K [.ref r,.int (pr:Int)] H Q E:=by
 refine ⟨r,rs,pr,rfl,hr,hp,⋯,lz,l9,λbad H' s=>k _ _ s (.inl ⟨rfl,?_⟩),λe ss H' s he nl nd h1 h2=>k _ _ s (.inr ⟨e,ss,rfl,he,nl,nd,h1,h2⟩)⟩
 rcases Nat.lt_or_eq_of_le pg with z | z
 ·exact z
 ·subst z
  rcases bad with y | ⟨x,y1,y2⟩
  ·exact absurd y gl
  ·exact absurd y2 (gx x y1)
theorem qgo (h:qa2 K vs H Q E):qgX K { nx:=λ_ H'=>Q .non H',rt:=Q } (L2.start ["P","row","prime","starts","floor","wholes","start","found","whole","root"] vs) H:=by
 obtain ⟨a,xs,l,b0,rfl,ha,hN,hlow,hFb,bB,b1,bZ,lzN,k⟩:=h
 have l9:l.length<=9:=hFb.n9
 have b55:b0<=550:=hFb.b5
 have cl:(qbX l).length=l.length:=by unfold qbX;rw [waa]
 refine qb1 (qiL (qd6 (qiL ⟨_,rfl,a,xs,l,qgA l,rfl,ha,hN,hlow,qeh hlow,bB.mono ⋯,λq hq=>(b1 q hq).mono ⋯,⋯,λr0 a0 H1 s1 hr0 ha0=>⟨_,_,_,_,rfl,rfl,hr0,rfl,a0,qbX l,b0,rfl,ha0,lzN,bZ,b55,⋯,λr rs H2 s2 hr lz lrs bls rad pos=>?_⟩⟩)))
 obtain ⟨g,hg,g2,gl,gx⟩:=qnT lz (hFb.mono ⋯) bls (quY (qrh lzN) rad)
 have l9':rs.length<=9:=by omega
 have b148:∀ z∈rs,Bd 658 z:=λz hz=>(bls z hz).mono ⋯
 have same:∀ q:Nu,Low q.1 q.2->(hw (qbX l) q.1 q.2=0↔hw rs q.1 q.2=0):=λq hq=>by
  have q0:q.2≠0:=by have:=hq.pos;omega
  rw [qjw q0,qjw q0]
  exact qrk (qrh lzN) rad _
 have ne:rs≠[]:=wbr.mp lz.1
 have aL:atI (rs.map V.int) (-1)=some (V.int (lst' rs)):=qcy lz.1
 have gl:¬ (g:Int)∣lst' rs:=gl
 have pos:0<lst' rs:=pos
 have bl:Bd 658 (lst' rs):=qbA b148 _
 have hg2:=hg.two
 have s12:=s1.trans s2
 generalize hlead:lst' rs=lead at aL gl pos bl
 show qdl K _ [some (.ref a),some (.ref r),some (.int ((2:Nat):Int)),none,none,none,none,none,none,none] H2
 refine qcD ⟨_,rfl,_,rfl,qlw hr lz l9' qqf hg2 g2 (by rw [hlead];exact gl) gx λst H3 s3 hst=>?_⟩
 refine while_by (λm σ H'=>∃ (pr:Nat) (st:V),σ=[some (.ref a),some (.ref r),some (.int (pr:Int)),some st,none,none,none,none,none,none]/\Same H2 H'/\Pr pr/\pr<=g/\StM rs g H' pr st/\m=g - pr) _ ⟨2,st,rfl,s3,qqf,hg2,hst,rfl⟩ ?_
 rintro m σ H' ⟨pr,st,rfl,sH,hp,pg,hst,rfl⟩
 have hr':=sH _ _ hr
 refine ⟨_,rfl,rfl,_,rfl,qbI (λc=>?_) (λc=>?_)⟩
 ·have c:st=.non:=of_decide_eq_true c
  have pl:pr<g:=by
   rcases hst with ⟨_,z⟩ | ⟨e,ss,z,_⟩
   ·exact z
   ·rw [c] at z;cases z
  refine ⟨_,λ_ _ h=>h,?_⟩
  show qcu K _ _ _
  refine qhT ⟨_,rfl,pr,g,rfl,hg,pl,g2,λp' hp' h1 h2=>?_⟩
  show qct K _ _ _
  refine qgB (qbt ⟨_,rfl,_,rfl,qlw hr' lz l9' hp' h2 g2 (by rw [hlead];exact gl) gx λst' H4 s4 hst'=>?_⟩)
  exact ⟨g - p',⋯,p',st',rfl,sH.trans s4,hp',h2,hst',rfl⟩
 ·have c:¬ st=.non:=λz=>c (decide_eq_true z)
  obtain ⟨e,ss,rfl,he,nl,nd,hall,hss⟩:∃ (e:Addr) (ss:List Int),st=.ref e/\H' e=some (.lst (ss.map V.int))/\¬ (pr:Int)∣lst' rs/\ss.Nodup/\(∀ x,0<=x->x<(pr:Int)->(pr:Int)∣evI rs x->x∈ss)/\∀ x∈ss,0<=x/\x<(pr:Int)/\(pr:Int)∣evI rs x/\¬ (pr:Int)∣evI (dI rs) x:=hst.resolve_left λz=>c z.1
  rw [hlead] at nl
  have pp:=hp.two
  have few8:ss.length<=8:=by
   have:=few hp (rs.length - 1) rs ss (by have:=lz.1;omega) (by rw [show co rs (rs.length - 1)=lead from hlead];exact nl) nd λx hx=>⟨(hss x hx).1,(hss x hx).2.1,(hss x hx).2.2.1⟩
   omega
  show qdk K _ _ _
  refine qb1 (qd6 ⟨_,rfl,_,rfl,_,_,_,_,rfl,rfl,hr',aL,?_⟩)
  refine qd6 (qvw (qiL ⟨_,rfl,r,rs,rfl,hr',lz,l9',b148,by rw [hlead];exact pos,λe0 H4 s4 e200 hsz=>?_⟩))
  rw [hlead] at hsz
  have ee:(if (0:Int) > e0 then (0:Int) else e0)=(e0.toNat:Int):=by split <;> omega
  have t1:((e0.toNat:Int)+1).toNat=e0.toNat+1:=by omega
  have bE:e0.toNat<=800:=by omega
  have bb:=qp9 bl
  refine ⟨_,_,rfl,_,_,rfl,rfl,lead,(e0.toNat:Int)+1,rfl,by rw [ee],⟨⋯,⋯⟩,?_⟩
  show qdj K _ [some (.ref a),some (.ref r),some (.int (pr:Int)),some (.ref e),some (.int (lead*2 ^ ((e0.toNat:Int)+1).toNat)),none,none,none,none,none] H4
  rw [t1]
  clear ee t1
  generalize e0.toNat=E0 at hsz bE ⊢
  have F0:0<lead*2 ^ (E0+1):=Int.mul_pos pos (Int.pow_pos ∅)
  have bF:Bd 1500 (lead*2 ^ (E0+1)):=by
   have:Bd (E0+2) ((2:Int) ^ (E0+1)):=by unfold Bd;rw [Int.natAbs_pow];exact Nat.pow_lt_pow_right ∅ ⋯
   exact (bl.mul this).mono ⋯
  have hr4:=s4 _ _ hr'
  have he4:=s4 _ _ he
  have sH4:=sH.trans s4
  generalize hF:lead*2 ^ (E0+1)=F at F0 bF ⊢
  refine qb1 ⟨qtO,λw hwN=>?_⟩
  have sw:=qag hwN (.lst [])
  have hww:upd H4 w (.lst []) w=_:=qah
  have hr5:=sw _ _ hr4
  have he5:=sw _ _ he4
  have sH5:=sH4.trans sw
  have s05:=s12.trans sH5
  have wN:H w=none:=by
   cases q:H w with
   | none=>rfl
   | some o=>have:=(s12.trans sH4) _ _ q;rw [hwN] at this;cases this
  have rw':r≠w:=qaq hr4 hwN
  have ew:e≠w:=qaq he4 hwN
  generalize upd H4 w (.lst [])=H5 at sw hww hr5 he5 sH5 s05 ⊢
  refine ⟨_,rfl,e,rfl,⟨_,SqL.of he5⟩,?_⟩
  refine ForL.by (xs:=ss.map V.int) (λi σ H'=>∃ (zs:List Int) (o6 o7 o8 o9:Option V),σ=[some (.ref a),some (.ref r),some (.int (pr:Int)),some (.ref e),some (.int F),some (.ref w),o6,o7,o8,o9]/\Same H H'/\H' r=some (.lst (rs.map V.int))/\H' e=some (.lst (ss.map V.int))/\H' w=some (.lst (zs.map V.int))/\i<=ss.length/\zs.length<=i/\zs.Nodup/\(∀ z∈zs,hw rs (qaP z lead).1 (qaP z lead).2=0/\∃ s∈ss.take i,(pr:Int)∣z - s*lead)/\∀ (q:Nu) (s:Int),Low q.1 q.2->hw rs q.1 q.2=0->s∈ss.take i->(pr:Int)∣q.2*s - q.1->∃ z∈zs,qaP z lead=q)
   ⟨[],none,none,none,none,rfl,s05,hr5,he5,hww,wad _,wac _,List.nodup_nil,(λz h=>nomatch h),λq s _ _ h=>by rw [List.take_zero] at h;cases h⟩ ?_ ?_ ?_
  ·rintro i σ H' _ ⟨zs,o6,o7,o8,o9,rfl,_,_,he6,_⟩
   exact SqL.of he6
  ·rintro i x σ H6 hx ⟨zs,o6,o7,o8,o9,rfl,s6,hr6,he6,hw6,il,zl,zn,hz,hq⟩
   have il':i<ss.length:=by have:=(wal.mp hx).1;rw [waa] at this;exact this
   have hx:=qp8 il' hx
   subst hx
   generalize hs:co ss i=s
   have sm:s∈ss:=by rw [<-hs];unfold co;rw [wab,waf il'];exact wbf _
   have tk:ss.take (i+1)=ss.take i++[s]:=by
    rw [wbl,waf il',<-hs];unfold co;rw [wab,waf il'];rfl
   have snot:s∉ss.take i:=λz=>by
    have:=(List.nodup_append.mp (show (ss.take i++[s]).Nodup by rw [<-tk];exact nd.sublist (List.take_sublist ..))).2.2 s z s (List.mem_singleton_self _)
    exact this rfl
   obtain ⟨s0,sp,sv,sd⟩:=hss s sm
   show qcx K _ _ _
   refine qb1 (qvv ⟨_,rfl,?_⟩)
   refine qhV ⟨_,rfl,_,rfl,qnH,λy hy=>?_⟩
   have sy:=qag hy (.lst [.int (-s),.int 1])
   have hyy:upd H6 y (.lst [.int (-s),.int 1]) y=some (.lst ([-s,1].map V.int)):=qah
   have hr7:=sy _ _ hr6
   have he7:=sy _ _ he6
   have hw7:=sy _ _ hw6
   generalize upd H6 y (.lst [.int (-s),.int 1])=H7 at sy hyy hr7 he7 hw7 ⊢
   refine ⟨_,rfl,_,rfl,r,y,rs,s,F,pr,rfl,hr7,hyy,hp,⋯,lz,l9',b148,s0,sp,by rw [hlead];exact nl,sv,sd,F0,bF,λt u c j H8 s8 ht hu big bM bc hev hcs=>?_⟩
   have hr8:=s8 _ _ hr7
   have M0:(0:Int)<((pr ^ j:Nat):Int):=by omega
   show qcw K _ _ _
   refine qcD ⟨_,rfl,_,_,_,_,rfl,rfl,ht,rfl,_,_,_,_,rfl,rfl,hu,rfl,_,rfl,_,rfl,_,rfl,_,_,_,_,rfl,rfl,hr8,aL,_,_,rfl,rfl,qiB bc.neg bl,_,rfl,_,_,_,_,rfl,rfl,ht,rfl,-c*lead,((pr ^ j:Nat):Int),rfl,M0,λW hW bW=>?_⟩
   show qcv K _ _ _
   refine qcD ⟨_,rfl,_,rfl,_,rfl,_,_,_,_,rfl,rfl,hr8,aL,W,lead,rfl,⋯,λra hra=>?_⟩
   have s9:=qag hra (.tup [.int (qaP W lead).1,.int (qaP W lead).2])
   have hra9:upd H8 ra (.tup [.int (qaP W lead).1,.int (qaP W lead).2]) ra=_:=qah
   have hr9:=s9 _ _ hr8
   have lowq:=qaY (n:=W) (m:=lead) ⋯
   have s79:=sy.trans (s8.trans s9)
   generalize upd H8 ra (.tup [.int (qaP W lead).1,.int (qaP W lead).2])=H9 at s9 hra9 hr9 s79 ⊢
   have claim:∀ q:Nu,Low q.1 q.2->hw rs q.1 q.2=0->(pr:Int)∣q.2*s - q.1->qaP W lead=q:=λq lq z hs=>by
    obtain ⟨k,k0,e1,e2⟩:=qrn hp ne hlead pos nl lq z hs (by rw [<-qtr];exact sd) hev hcs hW bW (by rw [hF];exact big) hsz
    rw [e1,e2]
    exact qrl k0 lq
   have bW':Bd 3200 W:=bM.le ⋯
   have bt:Bd 3200 (-(qaP W lead).1):=by
    refine Bd.neg (bW'.le ?_)
    exact qkk ⋯
   have bd:Bd 3200 (qaP W lead).2:=(bl.mono ∅).le (qhm ⋯)
   refine qbt ⟨_,rfl,?_⟩
   refine qhV ⟨_,rfl,_,_,_,_,rfl,rfl,hra9,rfl,_,rfl,_,rfl,_,_,_,_,rfl,rfl,hra9,rfl,qnH,λy2 hy2=>?_⟩
   have sA:=qag hy2 (.lst [.int (-(qaP W lead).1),.int (qaP W lead).2])
   have hyA:upd H9 y2 (.lst [.int (-(qaP W lead).1),.int (qaP W lead).2]) y2=some (.lst ([-(qaP W lead).1,(qaP W lead).2].map V.int)):=qah
   have hrA:=sA _ _ hr9
   have hwA:=sA _ _ (s79 _ _ hw6)
   have heA:=sA _ _ (s79 _ _ he6)
   have s6A:=(s6.trans s79).trans sA
   generalize upd H9 y2 (.lst [.int (-(qaP W lead).1),.int (qaP W lead).2])=HA at sA hyA hrA hwA heA s6A ⊢
   refine ⟨r,y2,rs,[-(qaP W lead).1,(qaP W lead).2],658,3200,rfl,hrA,hyA,⟨by show 0<2;decide,by show (qaP W lead).2≠0;have:=lowq.pos;omega⟩,b148,?_,by have:=l9';omega,∅,⋯,by show 2<=1000;decide,λno HB sB=>?_,λrq qs HB sB hrq _ hqs=>?_⟩
   ·intro z hz
    rcases was.mp hz with rfl | hz
    ·exact bt
    ·rw [wag.mp hz];exact bd
   ·refine ⟨rfl,_,rfl,qbI (λc=>absurd c ∅) (λ_=>?_)⟩
    refine ⟨zs,_,_,_,_,rfl,s6A.trans sB,sB _ _ hrA,sB _ _ heA,sB _ _ hwA,il',⋯,zn,λz h=>?_,λq s' lq hz' hs' hd'=>?_⟩
    ·obtain ⟨h1,s',h2,h3⟩:=hz z h
     exact ⟨h1,s',by rw [tk];exact wbz _ h2,h3⟩
    ·rw [tk] at hs'
     rcases wa2.mp hs' with y | y
     ·exact hq q s' lq hz' y hd'
     ·rw [wag.mp y] at hd'
      exfalso
      have e:=claim q lq hz' hd'
      exact no (by rw [e];exact qr9 lq.one _ rs rfl hz')
   ·have root:hw rs (qaP W lead).1 (qaP W lead).2=0:=quX (by have:=lowq.pos;omega) hqs
    have hwB:=sB _ _ hwA
    refine ⟨rfl,_,rfl,qbI (λ_=>?_) (λc=>absurd (by simp) c)⟩
    refine ⟨_,rfl,qcB hwB,_,rfl,_,_,_,rfl,rfl,hwB,sz (by rw [waa];omega),?_⟩
    have s6B:=s6A.trans sB
    have Ws:(pr:Int)∣W - s*lead:=by
     have dp:(pr:Int)∣((pr ^ j:Nat):Int):=by
      by_cases j0:j=0
      ·rw [j0,Nat.pow_zero] at big;omega
      ·obtain ⟨i,hi⟩:∃ i,j=i+1:=⟨j - 1,⋯⟩
       rw [hi,wax];push_cast;exact wb9 ..
     exact qqd (war dp hW) (qsh hcs lead)
    refine ⟨zs++[W],_,_,_,_,rfl,λx o hx=>Kp.upd x o (qaq hx wN) (s6B x o hx),(qaC rw').trans (sB _ _ hrA),(qaC ew).trans (sB _ _ heA),by rw [wbo];exact qah,il',by rw [wbq];exact Nat.succ_le_succ zl,?_,λz h=>?_,λq s' lq hz' hs' hd'=>?_⟩
    ·refine List.nodup_append.mpr ⟨zn,by simp,λz h y hy=>?_⟩
     rw [wag.mp hy]
     rintro rfl
     obtain ⟨_,s',h2,h3⟩:=hz z h
     have d:(pr:Int)∣(s' - s)*lead:=by
      obtain ⟨x,hx⟩:=h3;obtain ⟨v,hv⟩:=Ws
      exact ⟨v - x,by rw [wbs,Int.sub_mul];omega⟩
     rcases qeP hp d with q | q
     ·obtain ⟨k,hk⟩:=q
      obtain ⟨b1,b2,_⟩:=hss s' (wcg h2)
      have:s'=s:=by
       rcases Int.lt_trichotomy k 0 with y | y | y
       ·have:(pr:Int)*k<=(pr:Int)*(-1):=wbw ⋯ ⋯
        omega
       ·rw [y] at hk;omega
       ·have:(pr:Int)*1<=(pr:Int)*k:=wbw ⋯ ⋯
        omega
      rw [this] at h2
      exact snot h2
     ·exact nl q
    ·rcases wa2.mp h with y | y
     ·obtain ⟨h1,s',h2,h3⟩:=hz z y
      exact ⟨h1,s',by rw [tk];exact wbz _ h2,h3⟩
     ·rw [wag.mp y]
      exact ⟨root,s,by rw [tk];exact wa3 _ (List.mem_singleton_self _),Ws⟩
    ·rw [tk] at hs'
     rcases wa2.mp hs' with y | y
     ·obtain ⟨z,h1,h2⟩:=hq q s' lq hz' y hd'
      exact ⟨z,wbz _ h1,h2⟩
     ·rw [wag.mp y] at hd'
      exact ⟨W,wa3 _ (List.mem_singleton_self _),claim q lq hz' hd'⟩
  ·rintro σ H6 ⟨zs,o6,o7,o8,o9,rfl,s6,hr6,he6,hw6,il,zl,zn,hz,hq⟩
   rw [waa] at zl hz hq
   rw [wa8] at hz hq
   show qdi K _ _ _
   refine qiM (qhW (qsU ⟨_,rfl,w,zs,rfl,hw6,⋯,λv ms hv pm sr=>⟨v,rfl,⟨_,SqL.of qah⟩,?_⟩⟩))
   have sv:=qag hv (.lst (ms.map V.int))
   have hvv:upd H6 v (.lst (ms.map V.int)) v=some (.lst (ms.map V.int)):=qah
   have hr7:=sv _ _ hr6
   have ml:=pm.length_eq
   generalize upd H6 v (.lst (ms.map V.int))=H7 at sv hvv hr7 ⊢
   refine CompJ.lst (xs:=ms.map V.int) (λi ys H'=>i<=ms.length/\Same H7 H'/\Nums H' ys ((ms.take i).map λz=>qaP z lead)) ⟨wad _,Same.refl _,trivial⟩ ?_ ?_ ?_
   ·rintro i ys H' ⟨h1,s8,n8⟩
    exact ⟨by rw [waa];exact h1,sz (by rw [n8.length,waa,wa7];omega),SqL.of (s8 _ _ hvv)⟩
   ·rintro i x ys H' hx ⟨h1,s8,n8⟩
    have il':i<ms.length:=by have:=(wal.mp hx).1;rw [waa] at this;exact this
    have hx:=qp8 il' hx
    subst hx
    refine qbt ⟨_,rfl,_,rfl,_,rfl,_,_,_,_,rfl,rfl,s8 _ _ hr7,aL,co ms i,lead,rfl,⋯,λu hu=>?_⟩
    have su:=qag hu (.tup [.int (qaP (co ms i) lead).1,.int (qaP (co ms i) lead).2])
    have tk:ms.take (i+1)=ms.take i++[co ms i]:=by
     rw [wbl,waf il'];unfold co;rw [wab,waf il'];rfl
    refine ⟨⋯,s8.trans su,?_⟩
    rw [tk,wbo]
    exact (n8.tp (tpS su)).append (Nums.one ⟨u,rfl,qah⟩)
   ·rintro ys H' ⟨h1,s8,n8⟩ x hx
    rw [waa,wa8] at n8
    have sx:=qag hx (.lst ys)
    have nm:ms.Nodup:=pm.symm.nodup zn
    refine k x ys (ms.map λz=>qaP z lead) _ (none_of (((s6.trans sv).trans s8)) hx) (((s6.trans sv).trans s8).trans sx) qah (n8.tp (tpS sx)) ?_ λq=>?_
    ·unfold Rising
     rw [List.pairwise_map]
     refine (sr.and nm).imp λ{x y} h=>qnU pos ?_
     rcases Int.lt_or_eq_of_le h.1 with z | z
     ·exact z
     ·exact absurd z h.2
    ·constructor
     ·intro h
      obtain ⟨z,hz1,rfl⟩:=wai.mp h
      have lq:=qaY (n:=z) (m:=lead) ⋯
      exact ⟨lq,(same _ lq).mpr (hz z (pm.mem_iff.mp hz1)).1⟩
     ·rintro ⟨lq,hq0⟩
      have hq0:=(same q lq).mp hq0
      obtain ⟨_,s,s0,sp,sd,sv⟩:=qrm hp ne (by rw [hlead];exact nl) lq hq0
      obtain ⟨z,hz1,e⟩:=hq q s lq hq0 (hall s s0 sp sv) sd
      exact wai.mpr ⟨z,pm.mem_iff.mpr hz1,e⟩
theorem qjy:∀ {rs ws:List Nu},Rising rs->Rising ws->(∀ q,q∈rs↔q∈ws)->rs=ws:=by
 intro rs
 induction rs with
 | nil=>
   intro ws _ _ h
   cases ws with
   | nil=>rfl
   | cons b m=>exact absurd ((h b).mpr (waq ..)) (by simp)
 | cons a l ih=>
   intro ws hr hw h
   cases ws with
   | nil=>exact absurd ((h a).mp (waq ..)) (by simp)
   | cons b m=>
     obtain ⟨ra,rl⟩:=List.pairwise_cons.mp hr
     obtain ⟨wa,wl⟩:=List.pairwise_cons.mp hw
     have e:a=b:=by
      rcases was.mp ((h a).mp (waq ..)) with z | z
      ·exact z
      ·rcases was.mp ((h b).mpr (waq ..)) with y | y
       ·exact y.symm
       ·have:=ra b y
        have:=wa a z
        omega
     subst e
     have:l=m:=ih rl wl λq=>by
      constructor
      ·intro hq
       rcases was.mp ((h q).mp (wa5 _ hq)) with z | z
       ·have:=ra q hq
        rw [z] at this;omega
       ·exact z
      ·intro hq
       rcases was.mp ((h q).mpr (wa5 _ hq)) with z | z
       ·have:=wa q hq
        rw [z] at this;omega
       ·exact z
     rw [this]
theorem qvR {a b c:Nu} (ha:0<a.2) (hb:0<b.2) (hc:0<c.2) (h1:a.1*b.2<b.1*a.2) (h2:b.1*c.2<c.1*b.2):a.1*c.2<c.1*a.2:=by
 have h3:a.1*b.2*c.2<b.1*a.2*c.2:=Int.mul_lt_mul_of_pos_right h1 hc
 have h4:b.1*c.2*a.2<c.1*b.2*a.2:=Int.mul_lt_mul_of_pos_right h2 ha
 refine Int.lt_of_mul_lt_mul_right (a:=b.2) ?_ ⋯
 have e1:a.1*c.2*b.2=a.1*b.2*c.2:=by grind
 have e2:c.1*a.2*b.2=c.1*b.2*a.2:=by grind
 have e3:b.1*a.2*c.2=b.1*c.2*a.2:=by grind
 omega
theorem qro {rs:List Nu} {k:Nat} {c:Nu} (hr:Rising rs) (pos:∀ q∈rs,0<q.2) (c0:0<c.2) (h1:∀ q∈rs.take k,q.1*c.2<c.1*q.2) (h2:∀ q,rs[k]?=some q->c.1*q.2<q.1*c.2):Rising (rs.take k++c::rs.drop k):=by
 have hr':Rising (rs.take k++rs.drop k):=by rw [List.take_append_drop];exact hr
 obtain ⟨r1,r2,r3⟩:=List.pairwise_append.mp hr'
 have after:∀ q∈rs.drop k,c.1*q.2<q.1*c.2:=λq hq=>by
  by_cases hk:k<rs.length
  ·rw [List.drop_eq_getElem_cons hk] at hq r2
   have g:=h2 _ (waf hk)
   rcases was.mp hq with rfl | hq
   ·exact g
   ·have:=(List.pairwise_cons.mp r2).1 q hq
    exact qvR c0 (pos _ (wbf hk)) (pos q (List.mem_of_mem_drop hq)) g this
  ·rw [List.drop_eq_nil_of_le ⋯] at hq;cases hq
 refine List.pairwise_append.mpr ⟨r1,List.pairwise_cons.mpr ⟨after,r2⟩,λx hx y hy=>?_⟩
 rcases was.mp hy with rfl | hy
 ·exact h1 x hx
 ·exact r3 x hx y hy
theorem qsi {a b:Nu} (ha:Low a.1 a.2) (hb:Low b.1 b.2) (e:a.1*b.2=b.1*a.2):a=b:=by
 refine qeg ha hb ?_
 unfold val
 have a1:(a.2:Rat)≠0:=qa6 (by have:=ha.pos;omega)
 have b1:(b.2:Rat)≠0:=qa6 (by have:=hb.pos;omega)
 have e:(a.1:Rat)*b.2=b.1*a.2:=by exact_mod_cast e
 have:=Rat.mul_inv_cancel _ a1
 have:=Rat.mul_inv_cancel _ b1
 rw [Rat.div_def,Rat.div_def]
 grind
theorem datN_inj {q c:Nu}:qn3 q=qn3 c↔q=c:=by
 constructor
 ·intro h
  unfold qn3 at h
  injection h with h
  injection h with h1 h
  injection h with h2 h
  injection h1 with h1
  injection h2 with h2
  exact Prod.ext h1 h2
 ·intro h;rw [h]
theorem Nums.ins {H:Hp} {v:V} {q:Nu} (hv:isN H v q) {xs:List V} {l:List Nu} (k:Nat) (h:Nums H xs l):Nums H (xs.take k++v::xs.drop k) (l.take k++q::l.drop k):=by
 have hd:∀ {xs:List V} {l:List Nu} (n:Nat),Nums H xs l->Nums H (xs.drop n) (l.drop n):=by
  intro xs
  induction xs with
  | nil=>intro l n h;cases l with
    | nil=>rw [List.drop_nil,List.drop_nil];trivial
    | cons _ _=>exact h.elim
  | cons x xs ih=>intro l n h;cases l with
    | nil=>exact h.elim
    | cons q l=>cases n with
      | zero=>exact h
      | succ n=>exact ih n h.2
 exact Nums.append (h.take k) ⟨hv,hd k h⟩
theorem qmt (h:qcd K vs H Q E):qnK K { nx:=λ_ H'=>Q .non H',rt:=Q } (L2.start ["_law_numbers","_law_found","_law_c","_law_place"] vs) H:=by
 obtain ⟨a,us,ls,rfl,ha,hN,hlow,lL,bls,k⟩:=h
 refine qb1 ⟨qtO,λw hw=>?_⟩
 show qgK K _ [some (.ref a),some (.ref w),none,none] _
 have s1:=qag hw (.lst [])
 have ll:=hN.length
 refine ⟨_,rfl,a,rfl,⟨us,SqL.of (s1 _ _ ha)⟩,?_⟩
 refine ForL.by (xs:=us) (λi σ H'=>∃ (ys:List V) (rs:List Nu) (o2 o3:Option V),σ=[some (.ref a),some (.ref w),o2,o3]/\Same H H'/\H' w=some (.lst ys)/\Nums H' ys rs/\Rising rs/\(∀ q,q∈rs↔q∈ls.take i)/\rs.length<=i) ⟨[],[],none,none,rfl,s1,qah,trivial,List.Pairwise.nil,λq=>by rw [List.take_zero],wac _⟩ ?_ ?_ ?_
 ·rintro i σ H' _ ⟨ys,rs,o2,o3,rfl,s,_⟩
  exact SqL.of (s _ _ ha)
 ·rintro i x σ H1 hx ⟨ys,rs,o2,o3,rfl,s,hw1,hr,ris,mem,li⟩
  obtain ⟨c,hc,pc,rfl,hpc⟩:=hN.get hx
  have il:i<ls.length:=(wal.mp hc).1
  have cm:c∈ls:=by obtain ⟨z,e⟩:=wal.mp hc;exact e ▸ wbf z
  have tk:ls.take (i+1)=ls.take i++[c]:=by rw [wbl,hc];rfl
  have hpc:=s _ _ hpc
  have inl:∀ q∈rs,q∈ls:=λq hq=>wcg ((mem q).mp hq)
  have c0:=(hlow c cm).pos
  obtain ⟨bc1,bc2⟩:=bls c cm
  have ly:=hr.length
  show qeu K _ _ _
  refine qb1 ?_
  show qet K _ [some (.ref a),some (.ref w),some (.ref pc),some (.int ((0:Nat):Int))] H1
  refine while_by (λm σ H'=>∃ k:Nat,σ=[some (.ref a),some (.ref w),some (.ref pc),some (.int (k:Int))]/\H'=H1/\k<=rs.length/\(∀ q∈rs.take k,q.1*c.2<c.1*q.2)/\m=rs.length - k) _ ⟨0,rfl,rfl,wad _,(λq h=>by rw [List.take_zero] at h;cases h),rfl⟩ ?_
  rintro m σ H' ⟨k,rfl,rfl,kl,before,rfl⟩
  have ins:(∀ q,rs[k]?=some q->c.1*q.2<q.1*c.2)->∃ (zs:List V) (qs:List Nu) (o2 o3:Option V),[some (.ref a),some (.ref w),some (.ref pc),some (.int (k:Int))]=[some (.ref a),some (.ref w),o2,o3]/\Same H (upd H' w (.lst (ys.take k++.ref pc::ys.drop k)))/\upd H' w (.lst (ys.take k++.ref pc::ys.drop k)) w=some (.lst zs)/\Nums (upd H' w (.lst (ys.take k++.ref pc::ys.drop k))) zs qs/\Rising qs/\(∀ q,q∈qs↔q∈ls.take (i+1))/\qs.length<=i+1:=λhk=>by
   refine ⟨_,rs.take k++c::rs.drop k,_,_,rfl,λb o h=>Kp.upd b o (qaq h hw) (s b o h),qah,(Nums.ins ⟨pc,rfl,hpc⟩ k hr).tp (Tp.updL hw1),qro ris (λq hq=>(hlow q (inl q hq)).pos) c0 before hk,λq=>?_,?_⟩
   ·rw [tk,wa2,wa2,was,<-mem,wag]
    constructor
    ·rintro (z | z | z)
     ·exact .inl (wcg z)
     ·exact .inr z
     ·exact .inl (List.mem_of_mem_drop z)
    ·rintro (z | z)
     ·rw [<-List.take_append_drop k rs,wa2] at z
      rcases z with z | z
      ·exact .inl z
      ·exact .inr (.inr z)
     ·exact .inr (.inl z)
   ·rw [wbq,wbc,wa7,List.length_drop];omega
  refine ⟨_,rfl,_,rfl,w,ys,rfl,hw1,_,_,rfl,rfl,_,rfl,qbI (λc1=>?_) (λc1=>?_)⟩
  ·have c1:k<rs.length:=by have:=of_decide_eq_true c1;omega
   obtain ⟨v,hv,q,rfl,hq⟩:=hr.at c1 c
   have gq:rs[k]?=some (rs.getD k c):=by rw [wab,waf c1];rfl
   have qm:rs.getD k c∈rs:=by obtain ⟨z,e⟩:=wal.mp gq;exact e ▸ wbf z
   generalize rs.getD k c=d at hq gq qm
   have lq:=hlow d (inl d qm)
   obtain ⟨bq1,bq2⟩:=bls d (inl d qm)
   have hv:=qhx hv
   refine ⟨_,rfl,_,rfl,_,_,_,_,rfl,rfl,hw1,hv,_,_,_,_,rfl,rfl,hq,rfl,_,rfl,_,_,_,_,rfl,rfl,hpc,rfl,_,_,rfl,rfl,qiB bq1 bc2,_,rfl,_,_,_,_,rfl,rfl,hpc,rfl,_,rfl,_,rfl,_,_,_,_,rfl,rfl,hw1,hv,_,_,_,_,rfl,rfl,hq,rfl,_,_,rfl,rfl,qiB bc1 bq2,_,_,rfl,rfl,_,rfl,qbI (λc2=>?_) (λc2=>?_)⟩
   ·have c2:d.1*c.2<c.1*d.2:=of_decide_eq_true c2
    refine ⟨_,λ_ _ h=>h,_,rfl,_,_,rfl,rfl,rs.length - (k+1),⋯,k+1,rfl,rfl,c1,λq hq=>?_,rfl⟩
    rw [wbl,gq] at hq
    rcases wa2.mp hq with z | z
    ·exact before q z
    ·rw [wag.mp z];exact c2
   ·have c2:¬ d.1*c.2<c.1*d.2:=λz=>c2 (decide_eq_true z)
    show qc4 K _ _ _
    refine ⟨_,rfl,_,rfl,w,ys,rfl,hw1,rfl,_,rfl,qbI (λc3=>?_) (λ_=>?_)⟩
    ·have c3:V.int (k:Int)=V.int (ys.length:Int):=of_decide_eq_true c3
     have c3:(k:Int)=(ys.length:Int):=by injection c3
     omega
    ·refine ⟨_,rfl,_,rfl,_,_,_,_,rfl,rfl,hw1,hv,_,rfl,qn3 d,qn3 c,decide (d=c),qvu ⟨q,rfl,hq⟩,qvu ⟨pc,rfl,hpc⟩,okN _ 7,okN _ 7,⟨λz=>by rw [of_decide_eq_true z],λz=>decide_eq_true (datN_inj.mp z)⟩,_,rfl,?_⟩
     by_cases e:d=c
     ·rw [decide_eq_true e]
      subst e
      refine ⟨ys,rs,_,_,rfl,s,hw1,hr,ris,λq=>?_,⋯⟩
      rw [tk,wa2,<-mem,wag]
      exact ⟨.inl,λz=>z.elim id λz=>z ▸ qm⟩
     ·rw [decide_eq_false e]
      refine ⟨_,rfl,qcB hw1,_,rfl,_,rfl,w,ys,_,k,rfl,rfl,hw1,⋯,sz ⋯,ins λq hq=>?_⟩
      rw [gq] at hq
      cases hq
      rcases Int.lt_trichotomy (d.1*c.2) (c.1*d.2) with z | z | z
      ·exact absurd z c2
      ·exact absurd (qsi lq (hlow c cm) z) e
      ·exact z
  ·have c1:k=rs.length:=by
    have:¬ (k:Int)<(ys.length:Int):=λz=>c1 (decide_eq_true z)
    omega
   show (if false=true then _ else _)
   refine qbI (λz=>by cases z) λ_=>?_
   show qc4 K _ _ _
   refine ⟨_,rfl,_,rfl,w,ys,rfl,hw1,rfl,_,rfl,?_⟩
   rw [decide_eq_true (show V.int (k:Int)=V.int (ys.length:Int) by rw [c1,ly])]
   refine ⟨_,rfl,qcB hw1,_,rfl,_,rfl,w,ys,_,k,rfl,rfl,hw1,⋯,sz ⋯,ins λq hq=>?_⟩
   rw [wa0 ⋯] at hq;cases hq
 ·rintro σ H' ⟨ys,rs,o2,o3,rfl,s,hw',hr,ris,mem,li⟩
  refine ⟨_,rfl,k w ys rs H' s hw' hr ris (λq=>by rw [mem,ll,wa8]) (by rw [<-ll];exact li)⟩
theorem qu3 {K:W.Frag} {tl:TE} {g:TG} {tb rest:TS} {D:Ends} {σ:L2.St} {H:Hp} (h:tl σ H (λx H1=>∃ a,x=.ref a/\(∃ xs,SqL K H1 a xs)/\ForL K a g tb { D with nx:=rest D } σ H1)):qaD (qea (qci K tl) g tb) rest D σ H:=h
theorem qty {K:W.Frag} {i:Nat} {w:Addr} {ta:TE} {D:Ends} {σ:L2.St} {H:Hp} (h1:σ[i]?=some (some (.ref w))) (h2:tyV K "list" (.ref w) H) (h:ta σ H λy H1=>qbR (.ref w) [y] H1 λ_ H2=>D.nx σ H2):qeG (tBM K "list" qbR (qaf i) (qab ta qan)) D σ H:=⟨_,h1,h2,h⟩
theorem qu4 {A B t s:Int} {g:Int->Int}:∀ {row:List Int},(∀ n∈row,A*g n=B*n)->A*hw (row.map g) t s=B*hw row t s:=by
 intro row
 induction row with
 | nil=>intro _;show A*0=B*0;omega
 | cons a l ih=>
   intro h
   show A*(g a*s ^ (l.map g).length+t*hw (l.map g) t s)=B*(a*s ^ l.length+t*hw l t s)
   rw [waa]
   have h1:=h a (waq ..)
   have h2:=ih λn hn=>h n (wa5 _ hn)
   have e1:A*(g a*s ^ l.length+t*hw (l.map g) t s)=A*g a*s ^ l.length+t*(A*hw (l.map g) t s):=by grind
   rw [e1,h1,h2];grind
theorem qnl {row:List Int} {t d:Int} (d0:0<d) (t0:t≠0) (q:Nu):hw (qbX (row.map λn=>qaP (n*t) d)) q.1 q.2=0↔hw row q.1 q.2=0:=by
 have hl:qbr (row.map λn=>qaP (n*t) d):=λq hq=>by
  obtain ⟨n,_,rfl⟩:=wai.mp hq
  exact qaY ⋯
 have ov:=qeh hl
 unfold qbX
 generalize qgA (row.map λn=>qaP (n*t) d)=B at ov ⊢
 have B0:B≠0:=by have:=ov.1;omega
 rw [List.map_map]
 have e:=qu4 (A:=d) (B:=t*B) (t:=q.1) (s:=q.2) (row:=row) (g:=(λq:Nu=>q.1*(B / q.2)) ∘ λn=>qaP (n*t) d) λn hn=>by
  obtain ⟨k,k0,e1,e2⟩:=qkj (W:=n*t) d0
  obtain ⟨c,hc⟩:=ov.2 _ (wai.mpr ⟨n,hn,rfl⟩)
  have p:=(qaY (n:=n*t) (m:=d) ⋯).pos
  show d*((qaP (n*t) d).1*(B / (qaP (n*t) d).2))=t*B*n
  generalize (qaP (n*t) d).1=x at *
  generalize (qaP (n*t) d).2=y at *
  rw [hc,wco _ ⋯,show t*(y*c)*n=n*t*(y*c) by grind,e1,e2]
  grind
 have d1:d≠0:=by omega
 have tB:t*B≠0:=wak t0 B0
 constructor
 ·intro z
  rw [z,wb3] at e
  exact (wb2.mp e.symm).resolve_left tB
 ·intro z
  rw [z,wb3] at e
  exact (wb2.mp e).resolve_left d1
theorem qtP (l:List Nu):PySem.W.kqdOk 8 (.list (l.map qn3))=true:=by
 show (l.map qn3).all (PySem.W.kqdOk 7)=true
 rw [wce]
 intro x hx
 obtain ⟨p,_,rfl⟩:=wai.mp hx
 exact okN p 6
theorem CompJ.enumL {K:W.Frag} {capt:List (Option Nat)} {g:TG} {te:TE} {σ:L2.St} {H:Hp} {Q:VK} {a:Addr} {xs:List V} (W:Nat->List V->Hp->Prop) (h0:W 0 [] H) (hb:∀ i ys H,W i ys H->i<=xs.length/\ys.length<=sizeLine/\SqL K H a xs)
  (hs:∀ i x p ys H,xs[i]?=some x->W i ys H->H p=none->g (.ref p) (qcK capt σ) (upd H p (.tup [.int i,x])) λσ2 H2=>te σ2 H2 λy H3=>W (i+1) (ys++[y]) H3) (hd:∀ ys H,W xs.length ys H->∀ p,H p=none->Q (.ref p) (upd H p (.lst ys))):CompJ (qtL K a) capt g te σ Q H:=by
 refine ⟨xs.length,W,h0,λi ys H w=>⟨(hb i ys H w).1,(hb i ys H w).2.1,?_⟩⟩
 have q:SqL K H a xs:=(hb i ys H w).2.2
 by_cases h:i<xs.length
 ·refine .inr ⟨h,⟨xs,xs[i],q,by simp [h]⟩,λx H' y=>?_⟩
  obtain ⟨p,x',hp,rfl,rfl,y⟩:=y
  exact hs i x' p ys _ (y xs q) w hp
 ·have e:i=xs.length:=Nat.le_antisymm (hb i ys H w).1 (Nat.not_lt.mp h)
  subst e
  exact .inl ⟨⟨xs,q,wac _⟩,hd ys H w⟩
theorem qmu {l:List Nu} {a:Int} (G:Gq 40 40 l) (ba:Bd 253 a) (l3:l.length<=3) (R:Nat->Int) (hR:∀ k,k<l.length->R k=(qbX l).getD k 0*3 ^ (l.length - 1 - k)) (i:Nat) (hi:i<l.length):Bd 550 (rnds a R l.length (l.length - 1) i*3 ^ i):=by
 have bc:∀ k,Bd 40 ((qbX l).getD k 0):=λk=>qeX G.clr.1 k
 have p3:∀ k,k<=2->Bd 4 ((3:Int) ^ k):=λk hk=>by
  have:k=0\/k=1\/k=2:=by omega
  rcases this with rfl | rfl | rfl <;> (unfold Bd;decide)
 have bR:∀ k,k<l.length->Bd 44 (R k):=λk hk=>by rw [hR k hk];exact (bc k).mul (p3 _ ⋯)
 generalize l.length=n at *
 have c1:∀ {x:Int},Bd 44 x->Bd 297 (a*x):=λh=>ba.mul h
 have main:Bd 550 (rnds a R n (n - 1) i)/\(i≠0->Bd 400 (rnds a R n (n - 1) i)):=by
  have:n=1\/n=2\/n=3:=by omega
  rcases this with rfl | rfl | rfl
  ·have:i=0:=by omega
   subst this
   exact ⟨(bR 0 ∅).mono ∅,λh=>absurd rfl h⟩
  ·have r0:=bR 0 ∅
   have r1:=bR 1 ∅
   have:i=0\/i=1:=by omega
   rcases this with rfl | rfl
   ·exact ⟨((r0.mono (show 44<=297 by decide)).add (c1 r1)).mono ∅,λh=>absurd rfl h⟩
   ·exact ⟨r1.mono ∅,λ_=>r1.mono ∅⟩
  ·have r0:=bR 0 ∅
   have r1:=bR 1 ∅
   have r2:=bR 2 ∅
   have r2':Bd 40 (R 2):=by rw [hR 2 ∅,show 3 - 1 - 2=0 from rfl,wbm,Int.mul_one];exact bc 2
   have q1:Bd 294 (R 1+a*R 2):=(r1.mono (show 44<=293 by decide)).add (ba.mul r2')
   have:i=0\/i=1\/i=2:=by omega
   rcases this with rfl | rfl | rfl
   ·have e:rnds a R 3 2 0=R 0+a*(R 1+a*R 2):=rfl
    rw [e]
    exact ⟨((r0.mono (show 44<=547 by decide)).add (ba.mul q1)).mono ∅,λh=>absurd rfl h⟩
   ·have e:rnds a R 3 2 1=(R 1+a*R 2)+a*R 2:=rfl
    have q2:Bd 299 (rnds a R 3 2 1):=by rw [e];exact (q1.mono (show 294<=298 by decide)).add ((c1 r2).mono ∅)
    exact ⟨q2.mono ∅,λ_=>q2.mono ∅⟩
   ·exact ⟨r2.mono ∅,λ_=>r2.mono ∅⟩
 by_cases i0:i=0
 ·subst i0
  rw [wbm,Int.mul_one]
  exact main.1
 ·exact ((main.2 i0).mul (p3 i ⋯)).mono ∅
theorem qlx (h:qbZ K vs H Q E):qh3 K { nx:=λ_ H'=>Q .non H',rt:=Q } (L2.start ["row","whole","result","first","place"] vs) H:=by
 obtain ⟨p,ns,c,b,n,rfl,hp,nn,n20,bn,b2,bc,k⟩:=h
 unfold qh3
 rwa [hp]
 intro w hw
 rw [qij]
 have sw:=qag hw (.lst (qbu ns.length λk=>ns.getD k 0))
 have hp1:=sw _ _ hp
 rwa [hp1]
 rw [waa]
 have bR:∀ i j,Bd (b+255*3*i) (rnds c (λk=>ns.getD k 0) ns.length i j):=qkg bc (λj=>qeX bn j) ⋯
 refine ⟨⋯,⋯,ForR.by (λi σ H'=>∃ x3 x4:Option V,σ=[some (.ref p),some (.int c),some (.ref w),x3,x4]/\Same H H'/\H' w=some (.lst (qbu ns.length (rnds c (λk=>ns.getD k 0) ns.length i)))) ⟨none,none,rfl,sw,qah⟩ ?_ ?_⟩
 ·rintro i σ H1 hi ⟨x3,x4,rfl,s1,hw1⟩
  have hp2:=s1 _ _ hp
  rwa [hp2]
  rw [waa]
  refine ⟨⋯,⋯,⋯,⋯,?_⟩
  have en:((ns.length:Int) - 2 - (0+(i:Int) - 1)).toNat=ns.length - 1 - i:=by omega
  rw [en]
  refine ForJ.down (λj σ H'=>∃ x4:Option V,σ=[some (.ref p),some (.int c),some (.ref w),some (.int (0+(i:Int))),x4]/\Same H H'/\H' w=some (.lst (qbu ns.length λq=>if q+j+1<ns.length then rnds c (λk=>ns.getD k 0) ns.length i q else sy c (rnds c (λk=>ns.getD k 0) ns.length i) ns.length (ns.length - 1 - q)))) ⟨_,rfl,s1,?_⟩ ?_ ?_
  ·rw [hw1]
   refine congrArg (λl=>some (HO.lst l)) (qbQ λq hq=>?_)
   by_cases h:q+0+1<ns.length
   ·rw [if_pos h]
   ·rw [if_neg h,show ns.length - 1 - q=0 by omega,show q=ns.length - 1 by omega]
    rfl
  ·rintro j σ H2 hj ⟨y,rfl,s2,hw2⟩
   have e1:((ns.length:Int) - 2 - (j:Int))=((ns.length - 2 - j:Nat):Int):=by omega
   rw [e1]
   have bS:=λq=>((qtn (n:=ns.length) bc (bR i) (ns.length - 1 - q)).mono (show _<=60000 by omega))
   generalize rnds c (λk=>ns.getD k 0) ns.length i=R at hw2 bS ⊢
   have g1:atI (qbu ns.length λq=>if q+j+1<ns.length then R q else sy c R ns.length (ns.length - 1 - q)) ((ns.length - 2 - j:Nat):Int)=some (V.int (R (ns.length - 2 - j))):=by
    rw [qhx (qaW _ ⋯),if_pos ⋯]
   have g2:atI (qbu ns.length λq=>if q+j+1<ns.length then R q else sy c R ns.length (ns.length - 1 - q)) (((ns.length - 2 - j:Nat):Int)+1)=some (V.int (sy c R ns.length (ns.length - 1 - (ns.length - 2 - j+1)))):=by
    rw [qcH (j:=ns.length - 2 - j+1) ⋯ (qaW _ ⋯),if_neg ⋯]
   rwa [hw2,g1,g2]
   refine ⟨qs5 bc (bS _),ns.length - 2 - j,?_,λb o h=>Kp.upd b o (qaq h hw) (s2 b o h),?_⟩
   ·rw [qaV];exact qgL rfl ⋯
   ·refine qdm ⋯ ?_ λq hq hne=>?_
    ·rw [if_neg ⋯]
     exact qto ⋯
    ·by_cases h:q+j+1<ns.length
     ·rw [if_pos h,if_pos ⋯]
     ·rw [if_neg h,if_neg ⋯]
  ·rintro σ H2 ⟨y,rfl,s2,hw2⟩
   refine ⟨_,_,rfl,s2,?_⟩
   rw [hw2]
   refine congrArg (λl=>some (HO.lst l)) (qbQ λq hq=>?_)
   show rnd c (rnds c (λk=>ns.getD k 0) ns.length i) ns.length i q=_
   unfold rnd
   by_cases h:q<i
   ·rw [if_pos h,if_pos ⋯]
   ·rw [if_neg h,if_neg ⋯]
 ·rintro σ H1 ⟨x3,x4,rfl,s1,hw1⟩
  rwa []
  have en:((ns.length:Int) - 1).toNat=ns.length - 1:=by omega
  rw [en] at hw1
  exact k w H1 s1 hw1
theorem qnV (h:qcS K vs H Q E):qle K { nx:=λ_ H'=>Q .non H',rt:=Q } (L2.start ["P","c","row","scales","number","last","stretched","moved"] vs) H:=by
 obtain ⟨p,q,xs,l,a,rfl,hp,hq,hN,G,lo,ba3,l3,k⟩:=h
 have ba:Bd 254 a:=ba3.mono ∅
 have sm:=qmu (l:=l) (a:=a) G ba3 l3
 have bb:Bd 40 (3:Int):=by unfold Bd;decide
 obtain ⟨b,hb⟩:∃ b:Int,b=3:=⟨_,rfl⟩
 obtain ⟨bq,hbq⟩:∃ b:Nat,b=40:=⟨_,rfl⟩
 obtain ⟨n,hn⟩:∃ n:Nat,n=3:=⟨_,rfl⟩
 rw [<-hb] at hq lo bb k sm
 rw [<-hbq] at G
 have l9:l.length<=n:=by omega
 have n20:n<=20:=by omega
 have n3:n<=3:=by omega
 have bq8:bq<=8000:=by omega
 have hl:=G.low
 have nl:=G.nz
 obtain ⟨bc,bB,bt⟩:=G.clr
 have OL:=qeh hl
 have bL:Bd bq (qgA l):=bB
 have cll:(qbX l).length=l.length:=by unfold qbX;rw [waa]
 have lx:=hN.length
 have b0:0<b:=lo.pos
 have bp:∀ i,i<=n->Bd (40*n+1) (b ^ i):=λi hi=>(bb.pow i).mono ⋯
 have q6:bq<=60000000:=by omega
 have p6:40*n+1<=60000000:=by omega
 unfold qle
 unfold Nm at hq
 rwa [hp]
 refine ⟨l,hN,hl,qgA l,OL,bL.mono ⋯,λq hq=>(bt q hq).mono ⋯,⋯,λr c H1 s1 hr hc=>?_⟩
 unfold qia qh9
 rwa []
 refine ⟨sz ∅,λw hw=>?_⟩
 have sw:=qag hw (.lst [.int 1])
 have hp1:=sw _ _ (s1 _ _ hp)
 refine ⟨⟨_,SqT.of hp1⟩,ForT.by (xs:=xs) (λi σ H'=>∃ x4:Option V,σ=[some (.ref p),some (.ref q),some (.ref r),some (.ref w),x4,none,none,none]/\Same H1 H'/\H' w=some (.lst (qbu (i+1) λk=>b ^ k))) ⟨none,rfl,sw,?_⟩ ?_ ?_ ?_⟩
 ·rw [qah]
  show some (HO.lst [V.int 1])=some (HO.lst [V.int (b ^ 0)])
  rw [wbm]
 ·rintro i σ H' _ ⟨_,_,s2,_⟩
  exact s2 _ _ (s1 _ _ hp)
 ·rintro i x σ H' hi ⟨x4,rfl,s2,hw2⟩
  have hi2:i<xs.length:=(wal.mp hi).1
  have hq2:=s2 _ _ (s1 _ _ hq)
  have g1:atI (qbu (i+1) λk=>b ^ k) (-1)=some (V.int (b ^ i)):=atI_last (by rw [qaV];omega) (by rw [qaV];exact qaW _ ⋯)
  rwa [hw2,g1,hq2]
  refine ⟨qcB hw2,qs5 (bp i ⋯) bb p6,wa4 (show _<=1000 by rw [qaV];omega) (by rw [sizeLine_eq];omega),λb o h=>Kp.upd b o (qaq h hw) (s2 b o h),?_⟩
  rw [qf0 (i+1),wb0]
 ·rintro σ H2 ⟨x4,rfl,s2,hw2⟩
  rw [lx] at hw2
  have hp2:=s2 _ _ (s1 _ _ hp)
  have hr2:=s2 _ _ hr
  have hc2:=s2 _ _ hc
  unfold qh8 qh7
  rwa [hp2,hr2]
  refine ⟨⟨_,SqL.of hc2⟩,CompJ.enumL (xs:=(qbX l).map V.int) (λi ys H'=>i<=l.length/\Same H2 H'/\ys=qbu i λk=>(qbX l).getD k 0*b ^ (l.length - 1 - k)) ⟨wad _,Same.refl H2,rfl⟩ ?_ ?_ ?_⟩
  ·rintro i ys H' ⟨h1,s3,rfl⟩
   exact ⟨by rw [waa,cll];exact h1,sz (by rw [qaV];omega),SqL.of (s3 _ _ hc2)⟩
  ·rintro i x e ys H' hx ⟨h1,s3,rfl⟩ he
   rw [qij,cll] at hx
   obtain ⟨hi,rfl⟩:=qp0 hx
   have se:=qag he (.tup [.int (i:Int),.int ((qbX l).getD i 0)])
   have hw3:=se _ _ (s3 _ _ hw2)
   have g1:atI (qbu (l.length+1) λk=>b ^ k) ((xs.length:Int) - 1 - (i:Int))=some (V.int (b ^ (l.length - 1 - i))):=qcH (j:=l.length - 1 - i) ⋯ (qaW _ ⋯)
   rwa [hw3,g1]
   refine ⟨qs5 (qeX bc i) (bp _ ⋯) q6 p6,⋯,s3.trans se,?_⟩
   rw [qf0 i]
  ·rintro ys H3 ⟨_,s3,rfl⟩ d hd
   rw [waa,cll] at *
   have sd:=qag hd (.lst (qbu l.length λk=>(qbX l).getD k 0*b ^ (l.length - 1 - k)))
   have u3:=s3.trans sd
   have hq3:=u3 _ _ (s2 _ _ (s1 _ _ hq))
   have hd3:upd H3 d (.lst (qbu l.length λk=>(qbX l).getD k 0*b ^ (l.length - 1 - k))) d=some (HO.lst (qbu l.length λk=>(qbX l).getD k 0*b ^ (l.length - 1 - k))):=qah
   unfold qh6
   rwa [hq3,hd3]
   have sl:((List.range l.length).map λk=>(qbX l).getD k 0*b ^ (l.length - 1 - k)).length=l.length:=by rw [waa,waw]
   have sg:∀ k,k<l.length->((List.range l.length).map λk=>(qbX l).getD k 0*b ^ (l.length - 1 - k)).getD k 0=(qbX l).getD k 0*b ^ (l.length - 1 - k):=λk hk=>by
    rw [show ∀ t:List Int,t.getD k 0=(t[k]?).getD 0 from λt=>wab ..,qjv _ hk];rfl
   refine ⟨(List.range l.length).map λk=>(qbX l).getD k 0*b ^ (l.length - 1 - k),rfl,bq+(40*n+1),n,by rw [sl];exact l9,n3,λz hz=>?_,⋯,ba,λm H4 s4 hm=>?_⟩
   ·obtain ⟨i,hi,rfl⟩:=wai.mp hz
    exact (qeX bc i).mul (bp (l.length - 1 - i) ⋯)
   rw [sl] at hm
   generalize hR:(λk=>((List.range l.length).map λk=>(qbX l).getD k 0*b ^ (l.length - 1 - k)).getD k 0)=R at hm
   have hRk:∀ k,k<l.length->R k=(qbX l).getD k 0*b ^ (l.length - 1 - k):=λk hk=>by rw [<-hR];exact sg k hk
   have bR:∀ j,Bd (bq+(40*n+1)) (R j):=λj=>by
    rw [<-hR]
    refine qeX (λz hz=>?_) j
    obtain ⟨i,hi,rfl⟩:=wai.mp hz
    exact (qeX bc i).mul (bp (l.length - 1 - i) ⋯)
   have nn:255*n*(l.length - 1)<=255*n*n:=wa1 _ ⋯
   have nn2:255*n*n<=255*20*20:=wb4 (wa1 _ n20) n20
   have bmv:=λj=>(qkg ba bR l9 (l.length - 1) j).mono (show _<=bq+(40*n+1)+255*n*n by omega)
   generalize hmv:rnds a R l.length (l.length - 1)=mv at hm bmv
   have mlast:1<=l.length->mv (l.length - 1)=(qbX l).getD (l.length - 1) 0:=λh=>by
    rw [<-hmv,qk8 _ ⋯,hRk _ ⋯,Nat.sub_self,wbm,Int.mul_one]
   have u4:=u3.trans s4
   have hw4:=u4 _ _ hw2
   have hr4:=u4 _ _ hr2
   unfold qh5
   rwa []
   refine ⟨⟨_,SqL.of hm⟩,CompJ.enumL (xs:=qbu l.length mv) (λi ys H'=>i<=l.length/\Same H4 H'/\ys=qbu i λk=>mv k*b ^ k) ⟨wad _,Same.refl H4,rfl⟩ ?_ ?_ ?_⟩
   ·rintro i ys H' ⟨h1,s5,rfl⟩
    exact ⟨by rw [qaV];exact h1,sz (by rw [qaV];omega),SqL.of (s5 _ _ hm)⟩
   ·rintro i x e ys H' hx ⟨h1,s5,rfl⟩ he
    obtain ⟨hi,rfl⟩:=qp0 hx
    have se:=qag he (.tup [.int (i:Int),.int (mv i)])
    have hw5:=se _ _ (s5 _ _ hw4)
    have g1:atI (qbu (l.length+1) λk=>b ^ k) (i:Int)=some (V.int (b ^ i)):=qhx (qaW _ ⋯)
    rwa [hw5,g1]
    refine ⟨qs5 (bmv i) (bp _ ⋯) ⋯ p6,⋯,s5.trans se,?_⟩
    rw [qf0 i]
   ·rintro ys H5 ⟨_,s5,rfl⟩ d5 hd5
    rw [qaV]
    have sd5:=qag hd5 (.lst (qbu l.length λk=>mv k*b ^ k))
    have u5:=s5.trans sd5
    have hr5:=u5 _ _ hr4
    have hw5:=u5 _ _ hw4
    have hd6:upd H5 d5 (.lst (qbu l.length λk=>mv k*b ^ k)) d5=some (HO.lst (qbu l.length λk=>mv k*b ^ k)):=qah
    have g1:atI (qbu (l.length+1) λk=>b ^ k) ((xs.length:Int) - 1)=some (V.int (b ^ (l.length - 1))):=by
     rcases wbj l.length with h | h
     ·rw [lx,h];show some (V.int (b ^ 0))=some (V.int (b ^ 0));rfl
     ·exact qcH (j:=l.length - 1) ⋯ (qaW _ ⋯)
    have Bp:0<qgA l*b ^ (l.length - 1):=Int.mul_pos OL.1 (Int.pow_pos b0)
    have bBp:Bd (bq+(40*n+1)) (qgA l*b ^ (l.length - 1)):=bL.mul (bp _ ⋯)
    rwa [hr5,hw5,hd6,g1]
    refine ⟨qs5 bL (bp _ ⋯) q6 p6,(List.range l.length).map λk=>mv k*b ^ k,rfl,wah Bp,by rw [waa,waw];omega,λt zs H6 s6 h6 n6=>?_⟩
    generalize hL:((List.range l.length).map λk=>mv k*b ^ k).map (λn=>qaP n (qgA l*b ^ (l.length - 1)))=L at n6
    have Ll:L.length=l.length:=by rw [<-hL,waa,waa,waw]
    have Lg:∀ i,i<l.length->L[i]?=some (qaP (mv i*b ^ i) (qgA l*b ^ (l.length - 1))):=λi hi=>by rw [<-hL,wae,qjv _ hi];rfl
    have Lm:∀ q∈L,∃ i,q=qaP (mv i*b ^ i) (qgA l*b ^ (l.length - 1))/\i<l.length:=λq hq=>by
     rw [<-hL] at hq
     obtain ⟨z,hz,rfl⟩:=wai.mp hq
     obtain ⟨i,hi,rfl⟩:=wai.mp hz
     exact ⟨i,rfl,wbp.mp hi⟩
    have Llow:qbr L:=λq hq=>by obtain ⟨i,rfl,_⟩:=Lm q hq;exact qaY (wah Bp)
    have Lnz:Nz L:=λq hq=>by
     rw [List.getLast?_eq_getElem?,Ll] at hq
     rcases wbj l.length with h | h
     ·rw [wa0 ⋯] at hq;cases hq
     ·rw [Lg _ ⋯] at hq
      obtain rfl:=Option.some.inj hq
      intro z
      have z2:=qbL (n:=mv (l.length - 1)*b ^ (l.length - 1)) (wah Bp)
      unfold val at z2
      rw [z] at z2
      have n1:mv (l.length - 1)*b ^ (l.length - 1)≠0:=wak (by rw [mlast h];exact qpL hl nl h) (wah (Int.pow_pos b0))
      have c1:=qa6 n1
      have c2:=qa6 (wah Bp)
      push_cast at z2 c1 c2
      grind
    rw [qsM Lnz] at n6
    have Lp:∀ i,i<l.length->pwo L i=((mv i*b ^ i:Int):Rat) / ((qgA l*b ^ (l.length - 1):Int):Rat):=λi hi=>by
     unfold pwo qhd
     rw [wab,Lg i hi]
     exact qbL (wah Bp)
    refine k t H6 L ((((((s1.trans s2).trans u3).trans s4).trans u5)).trans s6) ⟨zs,h6,n6⟩ (qvH Llow Lnz Bp (bBp.mono ⋯) (N:=λi=>if i<l.length then mv i*b ^ i else 0) (λi=>?_) (λi=>?_)) Ll λx=>?_
    ·by_cases hi:i<l.length
     ·rw [if_pos hi];exact Lp i hi
     ·rw [if_neg hi,qpe ⋯]
      show _=((0:Int):Rat) / _
      rw [show ((0:Int):Rat)=0 from rfl];grind
    ·by_cases hi:i<l.length
     ·rw [if_pos hi,<-hmv];exact sm R hRk i hi
     ·rw [if_neg hi];exact qeY _
    ·unfold evN
     rw [<-qrj hl b0 hRk hmv.symm x,Ll]
     exact qdC _ (wac _) λi _ hi=>Lp i hi
theorem qrp {a b c:List Int} (h:∀ k,co c k=ps a b a.length k) {q:Nu} (q0:q.2≠0):hw c q.1 q.2=0↔hw a q.1 q.2=0\/hw b q.1 q.2=0:=by
 have e:si c=si a*si b:=qlp λk=>by rw [h k,qqa a b k a.length (wac _),wa8]
 have en:Sr.L (qR c)=Sr.L (qaE (qR a) (qR b)):=by rw [qsb,Sr.L_mulRow,qsb,qsb];exact e
 rw [qjw q0,qjw q0,qjw q0,Sr.ev_congr en,Sr.ev_mul,wbv]
theorem qtz {q r:Nu} (hq:Low q.1 q.2) (hr:Low r.1 r.2):hw [-r.1,r.2] q.1 q.2=0↔q=r:=by
 have e:hw [-r.1,r.2] q.1 q.2=q.1*r.2 - r.1*q.2:=by
  show -r.1*q.2 ^ 1+q.1*(r.2*q.2 ^ 0+q.1*0)=_
  rw [wbm];grind
 rw [e]
 constructor
 ·intro z;exact qsi hq hr ⋯
 ·rintro rfl;omega
theorem qtA {t s x:Int}:∀ mid:List Int,(∀ z∈mid,(2:Int)∣z)->(2:Int)∣hw (mid++[x]) t s - x*t ^ mid.length:=by
 intro mid
 induction mid with
 | nil=>intro _;show (2:Int)∣(x*s ^ 0+t*0) - x*t ^ 0;rw [wbm,wbm];exact ⟨0,⋯⟩
 | cons z mid ih=>
   intro h
   obtain ⟨c,hc⟩:=ih λy hy=>h y (wa5 _ hy)
   obtain ⟨d,hd⟩:=h z (waq ..)
   show (2:Int)∣(z*s ^ (mid++[x]).length+t*hw (mid++[x]) t s) - x*t ^ (mid.length+1)
   refine ⟨d*s ^ (mid++[x]).length+t*c,?_⟩
   have e:hw (mid++[x]) t s=x*t ^ mid.length+2*c:=by omega
   rw [e,hd,wb0];grind
theorem qrq {c0 x:Int} {mid:List Int} (h0:c0 % 4=2) (hm:∀ z∈mid,(2:Int)∣z) (m1:mid≠[]) (hx:x % 2=1):Rless (c0::(mid++[x])):=by
 intro q lq z
 have p2:Pr 2:=qqf
 have t2:(2:Int)∣q.1:=by
  have h:=qtA (t:=q.1) (s:=q.2) (x:=x) (c0::mid) λy hy=>by
   rcases was.mp hy with rfl | hy
   ·omega
   ·exact hm y hy
  have h:(2:Int)∣hw (c0::(mid++[x])) q.1 q.2 - x*q.1 ^ (c0::mid).length:=h
  rw [z] at h
  have h:((2:Nat):Int)∣x*q.1 ^ (c0::mid).length:=by
   obtain ⟨c,hc⟩:=h
   exact ⟨-c,by show _=(2:Int) * -c;omega⟩
  rcases qeP p2 h with y | y
  ·have y:(2:Int)∣x:=y
   omega
  ·exact qlu p2 _ y
 have s2:¬ (2:Int)∣q.2:=λy=>by
  have:=Int.dvd_coe_gcd t2 y
  rw [lq.one] at this
  obtain ⟨c,hc⟩:=this
  omega
 have sn:¬ (2:Int)∣q.2 ^ (mid++[x]).length:=λy=>s2 (qlu p2 _ (show ((2:Nat):Int)∣_ from y))
 obtain ⟨y,mid',rfl⟩:∃ y m,mid=y::m:=by
  cases mid with
  | nil=>exact absurd rfl m1
  | cons y m=>exact ⟨y,m,rfl⟩
 obtain ⟨c,hc⟩:=t2
 obtain ⟨d,hd⟩:=hm y (waq ..)
 have z:c0*q.2 ^ ((y::mid')++[x]).length+q.1*(y*q.2 ^ (mid'++[x]).length+q.1*hw (mid'++[x]) q.1 q.2)=0:=z
 generalize q.2 ^ ((y::mid')++[x]).length=S at z sn
 generalize q.2 ^ (mid'++[x]).length=U at z
 generalize hw (mid'++[x]) q.1 q.2=W at z
 obtain ⟨b,hb⟩:∃ b,S=2*b+1:=⟨S / 2,⋯⟩
 obtain ⟨a,ha⟩:∃ a,c0=4*a+2:=⟨c0 / 4,⋯⟩
 rw [hc,hd,hb,ha] at z
 have e:(4*a+2)*(2*b+1)+2*c*(2*d*U+2*c*W)=4*(2*a*b+a+b+c*(d*U+c*W))+2:=by grind
 rw [e] at z
 omega
theorem qqg {a:List Int} {x y:Int} {M:Nat} (ha:∀ z∈a,z.natAbs<=M) (k:Nat):(ps a [x,y] a.length k).natAbs<=M*(x.natAbs+y.natAbs):=by
 have g:∀ j,(a.getD j 0).natAbs<=M:=λj=>by
  rw [wab]
  by_cases hj:j<a.length
  ·rw [waf hj];exact ha _ (wbf hj)
  ·rw [wa0 ⋯];exact wad _
 have key:∀ n,ps a [x,y] n k=(if k<n then a.getD k 0*x else 0)+(if 1<=k/\k - 1<n then a.getD (k - 1) 0*y else 0):=by
  intro n
  induction n with
  | zero=>rw [if_neg ⋯,if_neg ⋯];rfl
  | succ n ih=>
    show ps a [x,y] n k+(if n<=k/\k - n<2 then a.getD n 0*[x,y].getD (k - n) 0 else 0)=_
    rw [ih]
    by_cases c1:k<n
    ·rw [if_pos c1,if_pos (show k<n+1 by omega),if_neg (show ¬ (n<=k/\k - n<2) by omega),Int.add_zero]
     by_cases c2:1<=k
     ·rw [if_pos (show 1<=k/\k - 1<n by omega),if_pos (show 1<=k/\k - 1<n+1 by omega)]
     ·rw [if_neg (show ¬ (1<=k/\k - 1<n) by omega),if_neg (show ¬ (1<=k/\k - 1<n+1) by omega)]
    ·by_cases c2:k=n
     ·subst c2
      rw [if_neg (show ¬ k<k by omega),if_pos (show k<k+1 by omega),if_pos (show k<=k/\k - k<2 by omega),Nat.sub_self]
      by_cases c3:1<=k
      ·rw [if_pos (show 1<=k/\k - 1<k by omega),if_pos (show 1<=k/\k - 1<k+1 by omega)]
       show 0+_+a.getD k 0*x=_
       omega
      ·rw [if_neg (show ¬ (1<=k/\k - 1<k) by omega),if_neg (show ¬ (1<=k/\k - 1<k+1) by omega)]
       show 0+0+a.getD k 0*x=_
       omega
     ·rw [if_neg c1,if_neg (show ¬ k<n+1 by omega)]
      by_cases c3:k=n+1
      ·subst c3
       rw [if_neg (show ¬ (1<=n+1/\n+1 - 1<n) by omega),if_pos (show n<=n+1/\n+1 - n<2 by omega),if_pos (show 1<=n+1/\n+1 - 1<n+1 by omega),show n+1 - n=1 by omega,Nat.add_sub_cancel]
       show 0+0+a.getD n 0*y=_
       omega
      ·rw [if_neg (show ¬ (1<=k/\k - 1<n) by omega),if_neg (show ¬ (n<=k/\k - n<2) by omega),if_neg (show ¬ (1<=k/\k - 1<n+1) by omega)]
       rfl
 rw [key,Nat.mul_add]
 have h1:(if k<a.length then a.getD k 0*x else 0).natAbs<=M*x.natAbs:=by
  split
  ·rw [wam];exact wbd _ (g k)
  ·exact wad _
 have h2:(if 1<=k/\k - 1<a.length then a.getD (k - 1) 0*y else 0).natAbs<=M*y.natAbs:=by
  split
  ·rw [wam];exact wbd _ (g _)
  ·exact wad _
 omega
theorem qrr (h:qhh K vs H Q E):qsZ K { nx:=λ_ H'=>Q .non H',rt:=Q } (L2.start ["one","n","top","bottom"] vs) H:=by
 obtain ⟨p,t,d,n,b,rfl,hp,bt,bd,hb,k⟩:=h
 have ea:(if ((n:Nat):Int)<0 then -(n:Int) else (n:Int))=(n:Int):=if_neg ⋯
 refine qcD ⟨_,rfl,_,_,_,_,rfl,rfl,hp,rfl,_,rfl,_,rfl,t,_,b,rfl,?_,bt,?_,?_⟩
 ·rw [ea];omega
 ·rw [ea,wby];omega
 rw [ea,wby]
 refine qcD ⟨_,rfl,_,_,_,_,rfl,rfl,hp,rfl,_,rfl,_,rfl,d,_,b,rfl,?_,bd,?_,?_⟩
 ·rw [ea];omega
 ·rw [ea,wby];omega
 rw [ea,wby]
 refine ⟨_,rfl,_,_,rfl,rfl,_,rfl,qbI (λ_=>?_) (λc=>absurd (decide_eq_true (by show (0:Int)<=n;omega)) c)⟩
 exact ⟨_,rfl,_,rfl,qnH,λr hr=>k r hr⟩
theorem qrs (h:qfs K vs H Q E):qs0 K { nx:=λ_ H'=>Q .non H',rt:=Q } (L2.start ["_law_hand_here","_law_most"] vs) H:=by
 obtain ⟨p,a,m,n,rfl,hH,n9,m0,k⟩:=h
 have pw:qoD 10 6:=⟨∅,∅,∅⟩
 refine qiM (qd6 (qd6 (qd6 (qbt ⟨_,rfl,_,_,rfl,rfl,pw,p,a,_,_,rfl,hH,⋯,∅,∅,λd H1 d0 d1 h1 k1=>?_⟩))))
 refine ⟨_,_,rfl,rfl,pw,_,_,rfl,rfl,qvD ∅ ∅,?_⟩
 refine qbt ⟨_,rfl,_,_,rfl,rfl,pw,p,a,_,_,rfl,h1,⋯,∅,∅,λe H2 e0 e1 h2 k2=>?_⟩
 refine ⟨_,_,rfl,rfl,_,rfl,_,_,rfl,rfl,m0,k _ _ (wav _ ⋯) (waz _ m0) (h2.mono ⋯) (k1.trans k2)⟩
theorem qkl (h:qb4 K vs H Q E):qli K { nx:=λ_ H'=>Q .non H',rt:=Q } (L2.start ["_law_hand_here","_law_most","_law_sign"] vs) H:=by
 obtain ⟨p,a,m,n,rfl,hH,n9,m1,m12,k⟩:=h
 refine qb1 (qd6 (qhV ⟨_,rfl,qnH,λq hq=>?_⟩))
 refine qbt ⟨_,rfl,p,a,_,_,rfl,hH.same (qag hq _),⋯,∅,∅,λd H1 d0 d2 h1 k1=>?_⟩
 obtain ⟨s,hs,s0,s1,s2⟩:=qth d0 d2
 refine ⟨_,_,_,_,rfl,rfl,k1 _ _ (hH.ne hq) qah,hs,?_⟩
 have k01:Kp p H H1:=(Kp.of_same (qag hq _)).trans k1
 refine qiM (qbt (qd6 ⟨_,rfl,?_⟩))
 refine qbt ⟨_,rfl,_,rfl,p,a,m,_,rfl,h1,⋯,⋯,λt H2 t0 tm h2 k2=>?_⟩
 refine ⟨_,_,rfl,rfl,qpJ ⋯ ⋯,?_⟩
 refine qd6 (r_c (qbt ⟨_,rfl,_,rfl,_,_,rfl,rfl,p,a,_,_,rfl,h2,⋯,⋯,λe H3 e0 em h3 k3=>?_⟩))
 have e1:0<1+e:=by omega
 refine ⟨_,_,rfl,rfl,s*t,1+e,rfl,⋯,λr hr=>?_⟩
 have sr:=qag hr (.tup [.int (qaP (s*t) (1+e)).1,.int (qaP (s*t) (1+e)).2])
 have sm:=qmk (d:=t) s0 s1 s2
 have l1:=qkk (W:=s*t) e1
 have l2:=qhm (W:=s*t) e1
 refine k r _ _ _ qah (qaY ⋯) ?_ ?_ ((h3.same sr).mono ⋯) (((k01.trans k2).trans k3).same sr)
 ·rw [sm] at l1;omega
 ·omega
theorem qqh (h:qdE K vs H Q E):qq4 K { nx:=λ_ H'=>Q .non H',rt:=Q } (L2.start ["_law_hand_here","_law_great","_law_top","_law_bottom"] vs) H:=by
 obtain ⟨p,a,g,n,rfl,hH,n9,k⟩:=h
 refine qb1 (qd6 (qbt ⟨_,rfl,p,a,_,_,rfl,hH,⋯,∅,∅,λd H1 d0 d1 h1 k1=>⟨_,_,rfl,rfl,?_⟩⟩))
 refine qb1 (qd6 (r_c (qbt ⟨_,rfl,p,a,_,_,rfl,h1,⋯,∅,∅,λe H2 e0 e1 h2 k2=>⟨_,_,rfl,rfl,?_⟩⟩)))
 have fin:∀ (H3:Hp) (t u:Int),0<u->t.natAbs+u.natAbs<=(if (!g)=true then 15 else 110000)->Hand H3 p a (n+8)->Kp p H H3->qbB (qao (qbk K) [] E0 (qab (qaf 2) (qab (qaf 3) qan))) { nx:=λ_ H'=>Q V.non H',rt:=Q } [some (.ref p),some (.bl g),some (.int t),some (.int u)] H3:=λH3 t u u0 tu h3 k3=>by
  refine qiM (qbt ⟨_,rfl,_,rfl,t,u,rfl,⋯,λr hr=>?_⟩)
  have sr:=qag hr (.tup [.int (qaP t u).1,.int (qaP t u).2])
  have l1:=qkk (W:=t) u0
  have l2:=qhm (W:=t) u0
  exact k r _ _ _ qah ⟨qaY ⋯,wap (Nat.add_le_add l1 l2) tu⟩ (h3.same sr) (k3.same sr)
 refine qq1 ⟨_,rfl,g,rfl,?_⟩
 cases g with
 | false=>exact fin H2 _ _ ⋯ (by show _<=15;omega) (h2.mono ⋯) (k1.trans k2)
 | true=>
   have pw:qoD 10 5:=⟨∅,∅,∅⟩
   have pw4:qoD 10 4:=⟨∅,∅,∅⟩
   refine qb1 (qd6 (qd6 (qbt ⟨_,rfl,_,_,rfl,rfl,pw,_,_,rfl,rfl,qpJ ∅ ∅,_,_,rfl,rfl,p,a,_,_,rfl,h2,⋯,∅,∅,λf H3 f0 f1 h3 k3=>⟨_,_,rfl,rfl,pw,_,_,rfl,rfl,_,_,rfl,rfl,?_⟩⟩)))
   refine qgB (qd6 (r_c (qbt ⟨_,rfl,_,_,rfl,rfl,pw4,p,a,_,_,rfl,h3,⋯,∅,∅,λi H4 i0 i1 h4 k4=>⟨_,_,rfl,rfl,?_⟩⟩)))
   have f1:f<199999:=f1
   have i1:i<10000:=i1
   exact fin H4 (f - 100000+1) (1+i) ⋯ (by show _<=110000;omega) (h4.mono ⋯) ((k1.trans k2).trans (k3.trans k4))
theorem qkm (h:qcM K vs H Q E):qlf K { nx:=λ_ H'=>Q .non H',rt:=Q } (L2.start ["_law_hand_here","_law_size","_law_row","_law_k"] vs) H:=by
 obtain ⟨p,a,m,n,rfl,hH,n9,m2,m4,k⟩:=h
 refine qb1 (qhU (qd6 (r_c (qd6 (qd6 (r_c (qbt ⟨_,rfl,p,a,_,_,rfl,hH,⋯,∅,∅,λd H1 d0 d7 h1 k1=>⟨_,_,rfl,rfl,qpJ ∅ ∅,_,_,rfl,rfl,_,_,rfl,rfl,qpJ ∅ ∅,qmZ,λw hw'=>?_⟩⟩)))))))
 have wp:w≠p:=h1.ne hw'
 have wa:w≠a:=h1.ne2 hw'
 have sw:=qag hw' (.lst [.int (2*(2*d - 7))])
 have hww:upd H1 w (.lst [.int (2*(2*d - 7))]) w=some (.lst ([2*(2*d - 7)].map V.int)):=qah
 have k01:=k1.same sw
 have h1':=h1.same sw
 have wN:H w=none:=by
  cases e:H w with
  | none=>rfl
  | some o=>have:=k1 _ _ wp e;rw [hw'] at this;cases this
 have c4:(2*(2*d - 7)) % 4=2:=by omega
 have c14:(2*(2*d - 7)).natAbs<=14:=by omega
 show qaD _ _ _ [some (.ref p),some (.int m),some (.ref w),none] (upd H1 w (.lst [.int (2*(2*d - 7))]))
 generalize 2*(2*d - 7)=c0 at hww c4 c14 k01 h1' ⊢
 generalize upd H1 w (.lst [.int c0])=H2 at hww k01 h1' ⊢
 have e1:(m - 1).toNat=(m - 1).toNat:=rfl
 refine ⟨_,rfl,_,_,rfl,rfl,_,rfl,⋯,⋯,ForR.by (λi σ H'=>i<=(m - 1).toNat/\∃ (mid:List Int) (o:Option V),σ=[some (.ref p),some (.int m),some (.ref w),o]/\Kp p H H'/\Hand H' p a (n+2+2*i)/\H' w=some (.lst ((c0::mid).map V.int))/\mid.length=i/\∀ z∈mid,(2:Int)∣z/\z.natAbs<=6)
  ⟨wad _,[],none,rfl,k01,h1'.mono ⋯,hww,rfl,λ_ h=>nomatch h⟩ ?_ ?_⟩
 ·rintro i σ H3 hi ⟨_,mid,o,rfl,k3,h3,hw3,lm,hm⟩
  refine qty rfl (qcB hw3) (qd6 (r_c (qd6 (qbt ⟨_,rfl,p,a,_,_,rfl,h3,⋯,∅,∅,λe H4 e0 e7 h4 k4=>⟨_,_,rfl,rfl,_,_,rfl,rfl,qpJ ∅ ∅,?_⟩⟩))))
  have hw4:=k4 _ _ wp hw3
  refine ⟨_,_,_,rfl,rfl,hw4,sz (by rw [waa,wbc];omega),⋯,mid++[2*(e - 3)],_,rfl,λx y hx hy=>?_,(h4.mono ⋯).upd wp wa,?_,by rw [wbq,lm];rfl,λz hz=>?_⟩
  ·exact Kp.upd x y (qaq hy wN) (k4 _ _ hx (k3 _ _ hx hy))
  ·rw [qah,<-List.cons_append,wbo];rfl
  ·rcases wa2.mp hz with h | h
   ·exact hm z h
   ·rw [wag.mp h];exact ⟨⟨e - 3,rfl⟩,⋯⟩
 ·rintro σ H3 ⟨_,mid,o,rfl,k3,h3,hw3,lm,hm⟩
  show qbB (tOp qt5 (qaf 2) _) _ _ _
  refine qiM (qd6 ⟨_,rfl,?_⟩)
  refine qhU (qd6 (r_c (qd6 (r_c (qbt ⟨_,rfl,p,a,_,_,rfl,h3,⋯,∅,∅,λe H4 e0 e2 h4 k4=>⟨_,_,rfl,rfl,qpJ ∅ ∅,_,_,rfl,rfl,qmZ,λy hy=>?_⟩⟩)))))
  have sy:=qag hy (.lst [.int (1+2*e)])
  have hw4:=sy _ _ (k4 _ _ wp hw3)
  refine ⟨_,_,_,_,rfl,rfl,hw4,qah,sz (by rw [waa,wbc];show mid.length+1+1<=_;omega),λr hr=>?_⟩
  have sr:=qag hr (.lst ((c0::mid).map V.int++[V.int (1+2*e)]))
  have em:(c0::mid).map V.int++[V.int (1+2*e)]=(c0::(mid++[1+2*e])).map V.int:=by rw [<-List.cons_append,wbo];rfl
  have h5:=(h4.same sy)
  have ll:(c0::(mid++[1+2*e])).length=mid.length+2:=by rw [wbc,wbq];rfl
  refine k r (c0::(mid++[1+2*e])) _ (by rw [<-em];exact qah) (by rw [ll];omega) ⟨by rw [ll];omega,?_⟩ (λz hz=>?_) (qrq c4 (λz hz=>(hm z hz).1) (λz=>by rw [z] at lm;simp at lm;omega) ⋯) (h5.ne hr) ((h5.same sr).mono ⋯) (λx o hx ho=>sr _ _ (sy _ _ (k4 _ _ hx (k3 _ _ hx ho))))
  ·rw [ll]
   unfold co
   rw [show mid.length+2 - 1=(c0::mid).length by rw [wbc];omega,<-List.cons_append,wab,List.getElem?_append_right (wac _),Nat.sub_self]
   show 1+2*e≠0
   omega
  ·rcases was.mp hz with rfl | hz
   ·exact c14
   ·rcases wa2.mp hz with h | h
    ·have:=(hm z h).2;omega
    ·rw [wag.mp h];omega
theorem rep_snoc' (i:Nat):(List.replicate i true).map V.bl++[V.bl true]=(List.replicate (i+1) true).map V.bl:=by rw [List.replicate_succ',wbo];rfl
theorem qiT (h:qcg K vs H Q E):qfR K { nx:=λ_ H'=>Q .non H',rt:=Q } (L2.start ["_law_found"] vs) H:=by
 obtain ⟨p,t,d,rfl,hp,k⟩:=h
 unfold qfR
 rwa [hp,qsC hp]
 refine ⟨⟨_,SqT.of hp⟩,CompJ.tup (xs:=[.int t,.int d]) (λi ys H'=>i<=2/\H'=H/\ys=(List.replicate i true).map V.bl) ⟨∅,rfl,rfl⟩ ?_ ?_ ?_⟩
 ·rintro i ys H' ⟨h1,rfl,rfl⟩
  exact ⟨h1,sz (by rw [waa,List.length_replicate];omega),hp⟩
 ·rintro i x ys H' hi ⟨h1,rfl,rfl⟩
  have hi2:i<2:=(wal.mp hi).1
  obtain ⟨z,rfl⟩:∃ z,x=V.int z:=by
   match i,hi with
   | 0,hi=>exact ⟨_,(Option.some.inj hi).symm⟩
   | 1,hi=>exact ⟨_,(Option.some.inj hi).symm⟩
  rwa []
  exact ⟨⋯,rep_snoc' i⟩
 ·rintro ys H' ⟨_,rfl,rfl⟩ a ha
  have s2:=qag ha (.lst ((List.replicate 2 true).map V.bl))
  exact ⟨a,List.replicate 2 true,rfl,qah,k _ s2⟩
theorem qtB {ns:List Int} {t s:Int} (s0:(s:Rat)≠0):∀ d,d<=ns.length->(s:Rat) ^ d*evF (λk=>((ns.getD k 0:Int):Rat)) ns.length ((t:Rat) / (s:Rat)) d=(s:Rat)*((hw (ns.drop (ns.length - d)) t s:Int):Rat):=by
 intro d
 induction d with
 | zero=>intro _;rw [Nat.sub_zero,List.drop_length];show (s:Rat) ^ 0*0=(s:Rat)*((0:Int):Rat);push_cast;grind
 | succ d ih=>
   intro hd
   have ih:=ih ⋯
   have e:ns.length - (d+1)<ns.length:=by omega
   rw [List.drop_eq_getElem_cons e,show ns.length - (d+1)+1=ns.length - d by omega]
   show (s:Rat) ^ (d+1)*(((ns.getD (ns.length - 1 - d) 0:Int):Rat)+(t:Rat) / (s:Rat)*evF (λk=>((ns.getD k 0:Int):Rat)) ns.length ((t:Rat) / (s:Rat)) d)=(s:Rat)*((ns[ns.length - (d+1)]*s ^ (ns.drop (ns.length - d)).length+t*hw (ns.drop (ns.length - d)) t s:Int):Rat)
   have e1:ns.getD (ns.length - 1 - d) 0=ns[ns.length - (d+1)]:=by
    rw [wab,show ns.length - 1 - d=ns.length - (d+1) by omega,waf e];rfl
   have e2:(ns.drop (ns.length - d)).length=d:=by rw [List.length_drop];omega
   rw [e1,e2]
   generalize evF (λk=>((ns.getD k 0:Int):Rat)) ns.length ((t:Rat) / (s:Rat)) d=Y at ih ⊢
   generalize hw (ns.drop (ns.length - d)) t s=W at ih ⊢
   generalize ns[ns.length - (d+1)]=c
   push_cast
   rw [Rat.pow_succ]
   have i:=Rat.mul_inv_cancel _ s0
   rw [Rat.div_def]
   have h1:(s:Rat) ^ d*(s:Rat)*((c:Rat)+(t:Rat)*(s:Rat)⁻¹*Y)=(s:Rat) ^ d*s*c+t*((s:Rat)*(s:Rat)⁻¹)*((s:Rat) ^ d*Y):=by grind
   rw [h1,ih,i];grind
theorem qu5 {l:List Nu} (hl:qbr l) {q:Nu} (q0:q.2≠0):evN l (val q)=0↔hw (qbX l) q.1 q.2=0:=by
 have OL:=qeh hl
 have hB:=qa6 (wah OL.1)
 have s0:=qa6 q0
 have e0:evN l (val q)=evF (λj=>(((qbX l).getD j 0:Int):Rat)) l.length (val q) l.length / (qgA l:Rat):=by
  unfold evN
  rw [<-qhg]
  exact qdC _ (wac _) λi _ _=>quA hl OL i
 have e1:=qtB (ns:=qbX l) (t:=q.1) s0 (qbX l).length (wac _)
 rw [Nat.sub_self,List.drop_zero,qhk] at e1
 rw [e0]
 have e1:(q.2:Rat) ^ l.length*evF (λj=>(((qbX l).getD j 0:Int):Rat)) l.length (val q) l.length=(q.2:Rat)*((hw (qbX l) q.1 q.2:Int):Rat):=e1
 generalize evF (λj=>(((qbX l).getD j 0:Int):Rat)) l.length (val q) l.length=Y at e1 ⊢
 have sn:(q.2:Rat) ^ l.length≠0:=λz=>by
  have:∀ n:Nat,(q.2:Rat) ^ n≠0:=by
   intro n
   induction n with
   | zero=>rw [Rat.pow_zero];decide
   | succ n ih=>rw [Rat.pow_succ];exact λz=>(wbv.mp z).elim ih s0
  exact this _ z
 constructor
 ·intro z
  have y0:Y=0:=by
   rw [Rat.div_def] at z
   exact (wbv.mp z).resolve_right (λy=>by have:=Rat.mul_inv_cancel _ hB;rw [y] at this;grind)
  rw [y0,Rat.mul_zero] at e1
  have:=(wbv.mp e1.symm).resolve_left s0
  exact_mod_cast this
 ·intro z
  rw [z] at e1
  have y0:Y=0:=(wbv.mp (e1.trans (by push_cast;grind))).resolve_left sn
  rw [y0,Rat.div_def];grind
theorem qsj {u:Int} {q:Nu} (q0:q.2≠0):val (qaP (q.1*3+u*q.2) (q.2*3))=val q+val (u,3):=by
 rw [qbL (wak q0 ∅)]
 unfold val
 have:=qa6 q0
 push_cast
 grind
theorem qqi {u:Int} {q:Nu} (q0:q.2≠0):val (qaP (q.1*3 - u*q.2) (q.2*3))=val q - val (u,3):=by
 rw [qbL (wak q0 ∅)]
 unfold val
 have:=qa6 q0
 push_cast
 grind
theorem qu6 {u:Int} {rs:List Nu} (hl:qbr rs) {q:Nu} (lq:Low q.1 q.2):qaP (q.1*3+u*q.2) (q.2*3)∈rs↔q∈rs.map λr=>qaP (r.1*3 - u*r.2) (r.2*3):=by
 have q0:q.2≠0:=by have:=lq.pos;omega
 have v1:=qsj (u:=u) q0
 constructor
 ·intro h
  refine wai.mpr ⟨_,h,?_⟩
  have lr:=qaY (n:=q.1*3+u*q.2) (m:=q.2*3) (wak q0 ∅)
  have r0:(qaP (q.1*3+u*q.2) (q.2*3)).2≠0:=by have:=lr.pos;omega
  refine qeg (qaY (wak r0 ∅)) lq ?_
  rw [qqi r0,v1];grind
 ·intro h
  obtain ⟨r,hr,e⟩:=wai.mp h
  have lr:=hl r hr
  have r0:r.2≠0:=by have:=lr.pos;omega
  have v2:=qqi (u:=u) r0
  have e:qaP (r.1*3 - u*r.2) (r.2*3)=q:=e
  rw [e] at v2
  have:qaP (q.1*3+u*q.2) (q.2*3)=r:=qeg (qaY (wak q0 ∅)) lr (by rw [v1,v2];grind)
  rw [this];exact hr
theorem qqj {l L:List Nu} {u:Int} {rs:List Nu} (hl:qbr l) (hL:qbr L) (hr:qbr rs) (ev:∀ x,evN L x=evN l (x+val (u,3))) (h:∀ q:Nu,Low q.1 q.2->(hw (qbX l) q.1 q.2=0↔q∈rs)) (q:Nu) (lq:Low q.1 q.2):hw (qbX L) q.1 q.2=0↔q∈rs.map λr=>qaP (r.1*3 - u*r.2) (r.2*3):=by
 have q0:q.2≠0:=by have:=lq.pos;omega
 have lr:=qaY (n:=q.1*3+u*q.2) (m:=q.2*3) (wak q0 ∅)
 rw [<-qu5 hL q0,ev,<-qsj q0,qu5 hl (by have:=lr.pos;omega),h _ lr,qu6 hr lq]
theorem qrt {row:List Int} {s:Int} (lz:Lz row) (b:∀ z∈row,Bd 40 z) (s0:s≠0) (s1:-1<=s) (s2:s<=1):Gq 40 40 (row.map λn=>qaP (n*s) 1):=by
 have e:(row.map λn=>qaP (n*s) 1)=(row.map (·*s)).map λn=>qaP n 1:=by rw [List.map_map];rfl
 have b':∀ z∈row.map (·*s),Bd 40 z:=λz hz=>by
  obtain ⟨y,hy,rfl⟩:=wai.mp hz
  exact (b y hy).le (by show (y*s).natAbs<=_;rw [wbh,qmk s0 s1 s2];exact wac _)
 have r:=qr7 (lead:=1) ∅ b'
 rw [<-e] at r
 refine ⟨λq hq=>?_,λq hq=>?_,_,r.1,by unfold Bd;decide,r.2⟩
 ·obtain ⟨z,_,rfl⟩:=wai.mp hq;exact qaY ∅
 ·rw [List.getLast?_map] at hq
  have l0:=lz.1
  have hl:row.getLast?=some (co row (row.length - 1)):=by
   unfold co
   rw [List.getLast?_eq_getElem?,wab,waf ⋯];rfl
  rw [hl] at hq
  obtain rfl:=Option.some.inj hq
  exact qmj ∅ (wak lz.2 s0)
noncomputable def RL (row:List Int) (rs:List Nu):Prop:=∀ q:Nu,Low q.1 q.2->(hw row q.1 q.2=0↔q∈rs)
theorem RL.line {a c:List Int} {rs:List Nu} {r:Nu} (h:RL a rs) (lr:Low r.1 r.2) (e:∀ k,co c k=ps a [-r.1,r.2] a.length k):RL c (rs++[r]):=λq lq=>by
 rw [qrp e (by have:=lq.pos;omega),h q lq,qtz lq lr,wa2,wag]
theorem RL.one:RL [1] []:=λq _=>by
 constructor
 ·intro z
  have z:(1:Int)*q.2 ^ 0+q.1*0=0:=z
  rw [wbm] at z;omega
 ·intro z;cases z
theorem qqk {r:Nu} (lr:Low r.1 r.2):Lz [-r.1,r.2]:=⟨by show 0<2;decide,by show r.2≠0;have:=lr.pos;omega⟩
theorem qsk {x y:Int} {M:Nat} (hx:x.natAbs<=M) (hy:y.natAbs<=M) (k:Nat):(ps [1] [x,y] 1 k).natAbs<=M:=by
 show (0+(if 0<=k/\k - 0<2 then (1:Int)*[x,y].getD (k - 0) 0 else 0)).natAbs<=M
 rw [Int.zero_add]
 split
 ·rename_i h
  rw [Int.one_mul,Nat.sub_zero]
  have:k=0\/k=1:=by omega
  rcases this with rfl | rfl
  ·exact hx
  ·exact hy
 ·exact wad _
theorem qnm {c:List Int} {M:Nat} (h:∀ k,(co c k).natAbs<=M):∀ z∈c,z.natAbs<=M:=λz hz=>by
 obtain ⟨i,hi,rfl⟩:=wck hz
 have:=h i
 unfold co at this
 rw [wab,waf hi] at this
 exact this
theorem Hand.tpK {H H':Hp} {p a:Addr} {n:Int} (h:Hand H p a n) (k:Kp p H H'):Tp H H':=by
 obtain ⟨_,_,_,_,e,_⟩:=h
 exact k.tp e
theorem qly {K:W.Frag} {a w:Addr} {xs us:List V} {L rs:List Nu} {b:Nat} {H:Hp} {Q:VK} {σ:L2.St} {i j:Nat} (hσ:σ[i]?=some (some (.ref a))) (hτ:σ[j]?=some (some (.ref w))) (ha:H a=some (.tup xs)) (hN:Nums H xs L) (G:Gq b b L) (f:Fb b L.length) (L0:L≠[]) (hw':H w=some (.lst us)) (hR:Nums H us rs) (lr:qbr rs) (l2:rs.length<=100) (br:∀ q∈rs,Bd 400 q.1/\Bd 400 q.2) (pl:RL (qbX L) rs) (k:∀ H',Q (.bl true) H') :
  tOp eqD (qao (qa2 K) [] E0 (qab (qaf i) qan)) (qao (qcd K) [] E0 (qab (qaf j) qan)) σ H Q:=by
 obtain ⟨bZ,bB,b1⟩:=G.clr
 have lzN:=qmf (qpT G.low G.nz) λz=>L0 (by have:=congrArg List.length z;rw [qhk] at this;exact way.mp this)
 refine qd6 (qiL ⟨_,hσ,a,xs,L,b,rfl,ha,hN,G.low,f,bB,b1,bZ,lzN,λr5 us5 rs5 H5 _ s5 h5 N5 ris mem=>?_⟩)
 refine qiL ⟨_,hτ,w,us,rs,rfl,s5 _ _ hw',hR.tp (tpS s5),lr,⋯,br,λr6 ws qs H6 s6 h6 N6 ris6 mem6 _=>?_⟩
 have e:rs5=qs:=qjy ris ris6 λq=>by
  rw [mem,mem6]
  exact ⟨λh=>(pl q h.1).mp h.2,λh=>⟨lr q h,(pl q (lr q h)).mpr h⟩⟩
 subst e
 exact ⟨_,_,true,qtN (s6 _ _ h5) (N5.tp (tpS s6)),qtN h6 N6,qtP _,qtP _,⟨λ_=>rfl,λ_=>rfl⟩,k _⟩
structure Wd (rs:List Nu) (X:Nat):Prop where
 low:qbr rs
 l1:1<=rs.length
 l2:rs.length<=2
 x:X<2 ^ 40
 fst:∀ r,rs[0]?=some r->r.1.natAbs<=X/\r.2.natAbs<=X
 snd:∀ r,rs[1]?=some r->X*(r.1.natAbs+r.2.natAbs)<2 ^ 40
 all:∀ r∈rs,Bd 40 r.1/\Bd 40 r.2
theorem qwo:qaP ((7:Int) ^ 90) 3=((7:Int) ^ 90,3):=by decide +kernel
theorem qvS:Low ((7:Int) ^ 90) 3:=⟨∅,by decide +kernel⟩
theorem qv2:Bd 253 ((7:Int) ^ 90):=by unfold Bd;decide +kernel
theorem qql (h:qft K vs H Q E):qq5 K { nx:=λ_ H'=>Q .non H',rt:=Q } (L2.start ["_law_hand_here","_law_most","_law_roots","_law_row","_law_root_here","_law_kp","_law_c"] vs) H:=by
 obtain ⟨p,a,n,rfl,hH,n8,k⟩:=h
 have go4:∀ (H1:Hp) (m:V) (w:Addr) (us:List V) (rs:List Nu) (X:Nat) (n1:Int),Hand H1 p a n1->n1<=90000->H1 w=some (.lst us)->w≠p->Nums H1 us rs->Wd rs X->qgh K { nx:=λ_ H'=>Q V.non H',rt:=Q } [some (.ref p),some m,some (.ref w),none,none,none,none] H1:=λH1 m w us rs X n1 h1 n1l hw1 wp N1 W=>by
  refine qb1 (qhU (r_c ⟨qmZ,λw3 hw3=>?_⟩))
  have s3:=qag hw3 (.lst [.int 1])
  have h33:upd H1 w3 (.lst [.int 1]) w3=some (.lst ([1].map V.int)):=qah
  have hw2:=s3 _ _ hw1
  have N2:=N1.tp (tpS s3)
  have h2:=h1.same s3
  have ll:=N1.length
  show qjm K _ [some (.ref p),some m,some (.ref w),some (.ref w3),none,none,none] _
  generalize upd H1 w3 (.lst [.int 1])=H2 at h33 hw2 N2 h2 ⊢
  refine qu3 ⟨_,rfl,w,rfl,⟨_,SqL.of hw2⟩,ForL.by (xs:=us) (λi σ H'=>∃ (a3:Addr) (row:List Int) (o:Option V),σ=[some (.ref p),some m,some (.ref w),some (.ref a3),o,none,none]/\Same H2 H'/\H' a3=some (.lst (row.map V.int))/\Lz row/\row.length=i+1/\RL row (rs.take i)/\(i=0->row=[1])/\(i=1->∀ z∈row,z.natAbs<=X)/\∀ z∈row,Bd 40 z)
   ⟨w3,[1],none,rfl,Same.refl _,h33,⟨by show 0<1;decide,by show (1:Int)≠0;decide⟩,rfl,by rw [List.take_zero];exact RL.one,λ_=>rfl,(λh=>by cases h),λz hz=>by rw [wag.mp hz];unfold Bd;decide⟩ ?_ ?_ ?_⟩
  ·rintro i σ H' _ ⟨a3,row,o,rfl,s4,_⟩
   exact SqL.of (s4 _ _ hw2)
  ·rintro i x σ H4 hx ⟨a3,row,o,rfl,s4,h3,lz,lrow,pl,b0,b1,b40⟩
   obtain ⟨r,hr,pc,rfl,hpc⟩:=N2.get hx
   have hpc:=s4 _ _ hpc
   have rm:r∈rs:=by obtain ⟨z,e⟩:=wal.mp hr;exact e ▸ wbf z
   have il:i<rs.length:=(wal.mp hr).1
   have tk:rs.take (i+1)=rs.take i++[r]:=by rw [wbl,hr];rfl
   have lr:=W.low r rm
   obtain ⟨br1,br2⟩:=W.all r rm
   refine qgB (qbt ⟨_,rfl,?_⟩)
   refine qhV ⟨_,rfl,_,_,_,_,rfl,rfl,hpc,rfl,_,rfl,_,rfl,_,_,_,_,rfl,rfl,hpc,rfl,qnH,λy hy=>?_⟩
   have sy:=qag hy (.lst [.int (-r.1),.int r.2])
   have hyy:upd H4 y (.lst [.int (-r.1),.int r.2]) y=some (.lst ([-r.1,r.2].map V.int)):=qah
   refine ⟨a3,y,row,[-r.1,r.2],40,40,rfl,sy _ _ h3,hyy,lz,qqk lr,by have:=W.l2;omega,by show 2<=20;decide,b40,λz hz=>?_,∅,∅,λr5 c H5 s5 h5 cl lc ec=>?_⟩
   ·rcases was.mp hz with rfl | hz
    ·exact br1.neg
    ·rw [wag.mp hz];exact br2
   have cl:c.length=i+1+1:=by rw [cl,lrow];rfl
   refine ⟨r5,c,_,rfl,(s4.trans sy).trans s5,h5,lc,cl,by rw [tk];exact pl.line lr ec,(λh=>by cases h),λh z hz=>?_,λz hz=>?_⟩
   ·have i0:i=0:=by omega
    subst i0
    have r1:=b0 rfl
    subst r1
    obtain ⟨f1,f2⟩:=W.fst r hr
    exact qnm (λk=>by rw [ec k];exact qsk (by rw [Int.natAbs_neg];exact f1) f2 k) z hz
   ·have il2:=W.l2
    have:i=0\/i=1:=by omega
    rcases this with rfl | rfl
    ·have r1:=b0 rfl
     subst r1
     obtain ⟨f1,f2⟩:=W.fst r hr
     exact wa4 (qnm (λk=>by rw [ec k];exact qsk (by rw [Int.natAbs_neg];exact f1) f2 k) z hz) W.x
    ·refine wa4 (qnm (λk=>by rw [ec k];exact qqg (b1 rfl) k) z hz) ?_
     rw [Int.natAbs_neg];exact W.snd r hr
  ·rintro σ H4 ⟨a3,row,o,rfl,s4,h3,lz,lrow,pl,_,_,b40⟩
   rw [ll,wa8] at pl
   rw [ll] at lrow
   have hw4:=s4 _ _ hw2
   have N4:=N2.tp (tpS s4)
   have h4:=h2.same s4
   show qjl K _ _ _
   refine qcD ⟨_,rfl,qmY (qd6 (qhV ⟨_,rfl,qnH,λq hq=>qbt ⟨_,rfl,p,a,_,_,rfl,h4.same (qag hq _),⋯,∅,∅,λd H5 d0 d2 h5 k5=>?_⟩⟩))⟩
   obtain ⟨s,hs,t0,t1,t2⟩:=qth d0 d2
   have k45:Kp p H4 H5:=(Kp.of_same (qag hq _)).trans k5
   refine ⟨_,_,_,_,rfl,rfl,k5 _ _ (h4.ne hq) qah,hs,qnH,λy hy=>?_⟩
   have sy:=qag hy (.tup [.int s,.int 1])
   have a3p:a3≠p:=qpZ h4 h3
   have h3y:=sy _ _ (k45 _ _ a3p h3)
   have hwy:=sy _ _ (k45 _ _ wp hw4)
   have tp45:Tp H4 H5:=h4.tpK k45
   have Ny:=(N4.tp tp45).tp (tpS sy)
   have hyy:upd H5 y (.tup [.int s,.int 1]) y=_:=qah
   have h5y:=h5.same sy
   generalize upd H5 y (.tup [.int s,.int 1])=H5' at sy h3y hwy Ny hyy h5y ⊢
   have rl3:row.length<=3:=by have:=W.l2;omega
   refine ⟨a3,y,row,s,1,rfl,h3y,hyy,∅,by unfold Bd;exact wa4 (show s.natAbs<=1 by omega) (Nat.one_lt_two_pow ∅),λz hz=>(b40 z hz).mono ∅,⋯,λr6 zs H6 s6 h6 n6=>?_⟩
   have G:=qrt lz b40 t0 t1 t2
   have plL:RL (qbX (row.map λn=>qaP (n*s) 1)) rs:=λq lq=>(qnl (row:=row) (d:=1) ∅ t0 q).trans (pl q lq)
   have ln:(row.map λn=>qaP (n*s) 1).length=row.length:=waa ..
   generalize (row.map λn=>qaP (n*s) 1)=l at n6 G plL ln
   have l0:l≠[]:=λz=>by rw [z] at ln;have:=lz.1;rw [<-ln] at this;exact absurd this ∅
   have hw6:=s6 _ _ hwy
   have N6:=Ny.tp (tpS s6)
   have h6h:=h5y.same s6
   show qjk K _ _ _
   refine qq1 (qpr (qd6 (qbt ⟨_,rfl,p,a,_,_,rfl,h6h,⋯,∅,∅,λe H7 e0 e1 h7 k7=>⟨rfl,_,rfl,?_⟩⟩)))
   have tp7:Tp H6 H7:=h6h.tpK k7
   have hw7:=k7 _ _ wp hw6
   have N7:=N6.tp tp7
   have h67:=tp7 _ _ h6
   have n67:=n6.tp tp7
   refine qbI (λ_=>?_) (λ_=>?_)
   ·show qfU K _ _ _
    obtain ⟨u,hu⟩:∃ u:Int,u=7 ^ 90:=⟨_,rfl⟩
    refine qcD (qd6 (qbt (qmY ⟨qnH,λy7 hy7=>⟨y7,7,1,90,3,rfl,qah,by unfold Bd;decide,by unfold Bd;decide,∅,λr8 hr8=>⟨_,_,_,_,rfl,rfl,qah,rfl,u,3,by rw [hu],∅,λc8 hc8=>?_⟩⟩⟩)))
    have e8:qaP u 3=(u,3):=by rw [hu];exact qwo
    have s78:=(qag hy7 (.tup [.int 7,.int 1])).trans (qag hr8 (.tup [.int (7 ^ 90),.int (1 ^ 90)]))
    generalize upd (upd H7 y7 _) r8 _=H78 at hc8 s78 ⊢
    have s8:=s78.trans (qag hc8 (.tup [.int (qaP u 3).1,.int (qaP u 3).2]))
    have hc:upd H78 c8 (.tup [.int (qaP u 3).1,.int (qaP u 3).2]) c8=some (.tup [.int u,.int 3]):=by rw [qah,e8]
    generalize upd H78 c8 (.tup [.int (qaP u 3).1,.int (qaP u 3).2])=H8 at s8 hc ⊢
    have hw8:=s8 _ _ hw7
    have N8:=N7.tp (tpS s8)
    show qfT K _ _ _
    refine qcD ⟨_,rfl,_,rfl,r6,c8,zs,l,u,rfl,s8 _ _ h67,hc,n67.tp (tpS s8),G,hu ▸ qvS,hu ▸ qv2,⋯,λr9 H9 L s9 hP GL LL ev=>?_⟩
    obtain ⟨xs9,hx9,nx9⟩:=hP
    have hw9:=s9 _ _ hw8
    have N9:=N8.tp (tpS s9)
    have hc9:=s9 _ _ hc
    have ub:Bd 253 u:=hu ▸ qv2
    have plM:RL (qbX L) (rs.map λr=>qaP (r.1*3 - u*r.2) (r.2*3)):=qqj G.low GL.low W.low ev plL
    show qfS K _ _ _
    have b3:Bd 2 (3:Int):=by unfold Bd;decide
    refine qgB (qhW ⟨_,rfl,w,rfl,⟨_,SqL.of hw9⟩,CompJ.lst (xs:=us) (λi ys H'=>i<=rs.length/\Same H9 H'/\Nums H' ys ((rs.take i).map λr=>qaP (r.1*3 - u*r.2) (r.2*3))) ⟨wad _,Same.refl _,by rw [List.take_zero];trivial⟩ ?_ ?_ ?_⟩)
    ·rintro i ys H' ⟨hi,sA,nA⟩
     exact ⟨by rw [ll];exact hi,sz (by rw [nA.length,waa,wa7];have:=W.l2;omega),SqL.of (sA _ _ hw9)⟩
    ·rintro i x ys H' hx ⟨hi,sA,nA⟩
     obtain ⟨r,hr,pc,rfl,hpc⟩:=N9.get hx
     have hpc:=sA _ _ hpc
     have hcA:=sA _ _ hc9
     have il:i<rs.length:=(wal.mp hr).1
     have rm:r∈rs:=by obtain ⟨z,e⟩:=wal.mp hr;exact e ▸ wbf z
     have tk:rs.take (i+1)=rs.take i++[r]:=by rw [wbl,hr];rfl
     obtain ⟨q1,q2⟩:=W.all r rm
     have r0:=(W.low r rm).pos
     refine qbt ⟨_,rfl,_,_,_,_,rfl,rfl,hpc,rfl,_,rfl,_,_,_,_,rfl,rfl,hcA,rfl,_,_,rfl,rfl,qiB q1 b3,_,rfl,_,_,_,_,rfl,rfl,hcA,rfl,_,rfl,_,_,_,_,rfl,rfl,hpc,rfl,_,_,rfl,rfl,qiB ub q2,_,_,rfl,rfl,_,rfl,_,_,_,_,rfl,rfl,hpc,rfl,_,rfl,_,_,_,_,rfl,rfl,hcA,rfl,_,_,rfl,rfl,qiB q2 b3,r.1*3 - u*r.2,r.2*3,rfl,⋯,λy hy=>?_⟩
     have sy:=qag hy (.tup [.int (qaP (r.1*3 - u*r.2) (r.2*3)).1,.int (qaP (r.1*3 - u*r.2) (r.2*3)).2])
     refine ⟨il,sA.trans sy,?_⟩
     rw [tk,wbo]
     exact (nA.tp (tpS sy)).append (Nums.one ⟨y,rfl,qah⟩)
    ·rintro ys H' ⟨_,sA,nA⟩ v hv
     rw [ll,wa8] at nA
     have sv:=qag hv (.lst ys)
     refine qiM (qly (i:=5) (j:=2) rfl rfl (sv _ _ (sA _ _ hx9)) (nx9.tp (tpS (sA.trans sv))) GL (.inr ⟨wac _,⋯⟩) (λz=>by rw [z] at LL;exact l0 (way.mp LL.symm)) qah (nA.tp (tpS sv)) (λq hq=>?_) (by rw [waa];have:=W.l2;omega) (λq hq=>?_) plM k)
     ·obtain ⟨r,hr,rfl⟩:=wai.mp hq
      have:=(W.low r hr).pos
      exact qaY ⋯
     ·obtain ⟨r,hr,rfl⟩:=wai.mp hq
      have r0:=(W.low r hr).pos
      obtain ⟨q1,q2⟩:=W.all r hr
      have A:Bd 294 (r.1*3 - u*r.2):=((q1.mul b3).mono (show 42<=293 by decide)).sub (ub.mul q2)
      have B:Bd 42 (r.2*3):=q2.mul b3
      exact ⟨(A.le (qkk ⋯)).mono ∅,(B.le (qhm ⋯)).mono ∅⟩
   ·exact qiM (qly (i:=5) (j:=2) rfl rfl h67 n67 G (.inl ⟨wac _,⋯⟩) l0 hw7 N7 W.low (by have:=W.l2;omega) (λq hq=>⟨(W.all q hq).1.mono ∅,(W.all q hq).2.mono ∅⟩) plL k)
 have pw:∀ j:Int,0<=j->j<=1000000->qoD 10 j:=λj h1 h2=>⟨h1,h2,∅⟩
 refine qb1 (qd6 ⟨_,_,rfl,rfl,pw _ ∅ ∅,_,_,rfl,rfl,pw _ ∅ ∅,_,_,rfl,rfl,pw _ ∅ ∅,_,_,rfl,rfl,qpJ ∅ ∅,qwk,λw hw'=>?_⟩)
 refine qbt ⟨_,rfl,p,a,_,_,rfl,hH.same (qag hw' _),⋯,∅,∅,λd H1 d0 d3 h1 k1=>?_⟩
 obtain ⟨m,hm,m3⟩:∃ m:Int,atI [V.int (10 ^ (12:Int).toNat),V.int (10 ^ (10:Int).toNat),V.int (7*10 ^ (5:Int).toNat)] d=some (V.int m)/\(m=1000000000000\/m=10000000000\/m=700000):=by
  have:d=0\/d=1\/d=2:=by omega
  rcases this with rfl | rfl | rfl
  ·exact ⟨1000000000000,rfl,.inl rfl⟩
  ·exact ⟨10000000000,rfl,.inr (.inl rfl)⟩
  ·exact ⟨700000,rfl,.inr (.inr rfl)⟩
 refine ⟨_,_,_,_,rfl,rfl,k1 _ _ (hH.ne hw') qah,hm,?_⟩
 show qjo K _ _ _
 refine qb1 (qhU (qbt ⟨_,rfl,_,rfl,p,a,m,_,rfl,h1,⋯,⋯,⋯,λr t u H2 hr lr bt bu h2 k2=>⟨qmZ,λw2 hw2=>?_⟩⟩))
 have wp:w2≠p:=h2.ne hw2
 have wa:w2≠a:=h2.ne2 hw2
 have s2:=qag hw2 (.lst [.ref r])
 have hww:upd H2 w2 (.lst [.ref r]) w2=_:=qah
 have h2':=h2.same s2
 have hr':isN (upd H2 w2 (.lst [.ref r])) (.ref r) (t,u):=⟨r,rfl,s2 _ _ hr⟩
 show qjn K _ [some (.ref p),some (.int m),some (.ref w2),none,none,none,none] _
 generalize upd H2 w2 (.lst [.ref r])=H3 at hww h2' hr' ⊢
 have e10:V.int (10 ^ (10:Int).toNat)=V.int 10000000000:=rfl
 have e5:V.int (7*10 ^ (5:Int).toNat)=V.int 700000:=rfl
 refine qq1 ⟨_,rfl,_,_,rfl,rfl,pw _ ∅ ∅,rfl,_,rfl,?_⟩
 show (if decide (V.int m=V.int (10 ^ (10:Int).toNat))=true then _ else _)
 have go3:∀ H4 o,qgi K { nx:=λ_ H'=>Q V.non H',rt:=Q } [some (.ref p),some (.int m),some (.ref w2),none,none,none,none] H4=o->(m≠700000->qgh K { nx:=λ_ H'=>Q V.non H',rt:=Q } [some (.ref p),some (.int m),some (.ref w2),none,none,none,none] H4)->m≠700000->o:=λH4 o e g4 m7=>by
  rw [<-e]
  refine qq1 ⟨_,rfl,_,_,rfl,rfl,pw _ ∅ ∅,_,_,rfl,rfl,qpJ ∅ ∅,rfl,_,rfl,?_⟩
  refine qbI (λc=>?_) (λ_=>g4 m7)
  have c:V.int m=V.int 700000:=of_decide_eq_true c
  injection c with c
  exact absurd c m7
 rcases m3 with rfl | rfl | rfl
 ·refine qbI (λc=>?_) (λ_=>?_)
  ·have c:V.int 1000000000000=V.int 10000000000:=of_decide_eq_true c
   injection c with c
   exact absurd c ∅
  ·refine go3 _ _ rfl (λ_=>?_) ∅
   have bt:t.natAbs<1000000000000:=bt
   have bu:u.natAbs<1000000000000:=bu
   have e40:2 ^ 40=1099511627776:=by decide
   refine go4 H3 _ w2 _ [(t,u)] 1000000000000 _ h2' ⋯ hww wp ⟨hr',trivial⟩ ⟨λq hq=>by rw [wag.mp hq];exact lr,by show 1<=1;decide,by show 1<=2;decide,⋯,λq hq=>by cases hq;exact ⟨by show t.natAbs<=_;omega,by show u.natAbs<=_;omega⟩,(λq hq=>by cases hq),λq hq=>by rw [wag.mp hq];exact ⟨by show t.natAbs<_;omega,by show u.natAbs<_;omega⟩⟩
 ·refine qbI (λ_=>?_) (λc=>absurd (decide_eq_true rfl) c)
  refine qty rfl (qcB hww) (qbt ⟨_,rfl,p,a,false,_,rfl,h2',⋯,λr5 t5 u5 H5 hr5 lr5 h5 k5=>⟨_,_,_,rfl,rfl,k5 _ _ wp hww,sz (by show 2<=1000000;decide),?_⟩⟩)
  have tp5:Tp H3 H5:=h2'.tpK k5
  have hw5:=k5 _ _ wp hww
  have tpu:Tp H5 (upd H5 w2 (.lst ([V.ref r]++[V.ref r5]))):=Tp.updL hw5
  refine go3 _ _ rfl (λ_=>?_) ∅
  have bt:t.natAbs<10000000000:=bt
  have bu:u.natAbs<10000000000:=bu
  have b5:t5.natAbs+u5.natAbs<=15:=lr5.2
  have e40:2 ^ 40=1099511627776:=by decide
  refine go4 _ _ w2 _ [(t,u),(t5,u5)] 10000000000 _ (h5.upd wp wa) ⋯ qah wp ⟨(hr'.tp tp5).tp tpu,⟨r5,rfl,tpu _ _ hr5⟩,trivial⟩ ⟨λq hq=>?_,by show 1<=2;decide,by show 2<=2;decide,⋯,λq hq=>by cases hq;exact ⟨by show t.natAbs<=_;omega,by show u.natAbs<=_;omega⟩,λq hq=>by cases hq;show 10000000000*(t5.natAbs+u5.natAbs)<_;omega,λq hq=>?_⟩
  ·rcases was.mp hq with rfl | hq
   ·exact lr
   ·rw [wag.mp hq];exact lr5.1
  ·rcases was.mp hq with rfl | hq
   ·exact ⟨by show t.natAbs<_;omega,by show u.natAbs<_;omega⟩
   ·rw [wag.mp hq];exact ⟨by show t5.natAbs<_;omega,by show u5.natAbs<_;omega⟩
 ·refine qbI (λc=>?_) (λ_=>?_)
  ·have c:V.int 700000=V.int 10000000000:=of_decide_eq_true c
   injection c with c
   exact absurd c ∅
  ·show qgi K _ _ _
   refine qq1 ⟨_,rfl,_,_,rfl,rfl,pw _ ∅ ∅,_,_,rfl,rfl,qpJ ∅ ∅,rfl,_,rfl,?_⟩
   refine qbI (λ_=>?_) (λc=>absurd (decide_eq_true rfl) c)
   refine qty rfl (qcB hww) (qbt ⟨_,rfl,_,rfl,p,a,_,_,rfl,h2',⋯,∅,∅,λr5 t5 u5 H5 hr5 lr5 bt5 bu5 h5 k5=>⟨_,_,_,rfl,rfl,k5 _ _ wp hww,sz (by show 2<=1000000;decide),?_⟩⟩)
   have tp5:Tp H3 H5:=h2'.tpK k5
   have hw5:=k5 _ _ wp hww
   have tpu:Tp H5 (upd H5 w2 (.lst ([V.ref r]++[V.ref r5]))):=Tp.updL hw5
   have bt:t.natAbs<700000:=bt
   have bu:u.natAbs<700000:=bu
   have bt5:t5.natAbs<700000:=bt5
   have bu5:u5.natAbs<700000:=bu5
   have e40:2 ^ 40=1099511627776:=by decide
   refine go4 _ _ w2 _ [(t,u),(t5,u5)] 700000 _ (h5.upd wp wa) ⋯ qah wp ⟨(hr'.tp tp5).tp tpu,⟨r5,rfl,tpu _ _ hr5⟩,trivial⟩ ⟨λq hq=>?_,by show 1<=2;decide,by show 2<=2;decide,⋯,λq hq=>by cases hq;exact ⟨by show t.natAbs<=_;omega,by show u.natAbs<=_;omega⟩,λq hq=>by cases hq;show 700000*(t5.natAbs+u5.natAbs)<_;omega,λq hq=>?_⟩
   ·rcases was.mp hq with rfl | hq
    ·exact lr
    ·rw [wag.mp hq];exact lr5
   ·rcases was.mp hq with rfl | hq
    ·exact ⟨by show t.natAbs<_;omega,by show u.natAbs<_;omega⟩
    ·rw [wag.mp hq];exact ⟨by show t5.natAbs<_;omega,by show u5.natAbs<_;omega⟩
theorem qtC {H:Hp} {p:Addr} {xs:List V} (h:H p=some (.lst xs)):qqP H (.ref p) "list" = some true:=by
 show qtK (H p) "list" = _
 rw [h];rfl
theorem qwp {x y z u:V}:[x,y,z,u].length<=sizeLine:=by show 4<=_;exact sz ∅
theorem qtD (n:Nat):(List.replicate n true).all id=true:=by
 rw [wce]
 intro x hx
 exact (List.mem_replicate.mp hx).2
theorem qru {H:Hp} {a w:Addr} {row:List Int} {us:List V} {rs:List Nu} (ha:H a=some (.lst (row.map V.int))) (lz:Lz row) (hw':H w=some (.lst us)) (N:Nums H us rs):a≠w:=λe=>by
 subst e
 rw [ha] at hw'
 injection hw' with h
 injection h with h
 subst h
 cases row with
 | nil=>exact absurd lz.1 (by simp)
 | cons x l=>
   cases rs with
   | nil=>exact N.elim
   | cons q rs=>obtain ⟨p,e,_⟩:=N.1;cases e
structure Pt (H:Hp) (p a ar w:Addr) (row:List Int) (us:List V) (rs:List Nu) (g:Bool) (n:Int) (i:Nat):Prop where
 ro:H ar=some (.lst (row.map V.int))
 rp:ar≠p
 lst:H w=some (.lst us)
 wp:w≠p
 wa:w≠a
 nums:Nums H us rs
 hand:Hand H p a n
 lz:Lz row
 pl:RL row rs
 low:qbr rs
 bd:∀ r∈rs,r.1.natAbs+r.2.natAbs<=110000
 len:row.length<=5+i
 l9:row.length<=9
 b0:i=0->∀ z∈row,z.natAbs<=14
 b1:∀ z∈row,z.natAbs<=(if g=true then 1540000 else 14)*15 ^ i
 li:rs.length<=i
 two:2<=i->∃ r,rs[rs.length - 1]?=some r/\r.1.natAbs+r.2.natAbs<=15
theorem Pt.kp {H H':Hp} {p a ar w:Addr} {row:List Int} {us:List V} {rs:List Nu} {g:Bool} {n n':Int} {i:Nat} (h:Pt H p a ar w row us rs g n i) (k:Kp p H H') (hh:Hand H' p a n'):Pt H' p a ar w row us rs g n' i:=
 ⟨k _ _ h.rp h.ro,h.rp,k _ _ h.wp h.lst,h.wp,h.wa,h.nums.tp (h.hand.tpK k),hh,h.lz,h.pl,h.low,h.bd,h.len,h.l9,h.b0,h.b1,h.li,h.two⟩
theorem Pt.same {H H':Hp} {p a ar w:Addr} {row:List Int} {us:List V} {rs:List Nu} {g:Bool} {n:Int} {i:Nat} (h:Pt H p a ar w row us rs g n i) (s:Same H H'):Pt H' p a ar w row us rs g n i:=h.kp (Kp.of_same s) (h.hand.same s)
theorem Pt.next {H:Hp} {p a ar w:Addr} {row:List Int} {us:List V} {rs:List Nu} {g:Bool} {n:Int} {i:Nat} (h:Pt H p a ar w row us rs g n i) (c:9<=row.length):Pt H p a ar w row us rs g n (i+1):=by
 have hi:4<=i:=by have:=h.len;omega
 refine ⟨h.ro,h.rp,h.lst,h.wp,h.wa,h.nums,h.hand,h.lz,h.pl,h.low,h.bd,by have:=h.l9;omega,h.l9,(λz=>by omega),λz hz=>wap (h.b1 z hz) (wa1 _ (wba ∅ ⋯)),by have:=h.li;omega,λ_=>h.two ⋯⟩
theorem Pt.hmono {H:Hp} {p a ar w:Addr} {row:List Int} {us:List V} {rs:List Nu} {g:Bool} {n n':Int} {i:Nat} (h:Pt H p a ar w row us rs g n i) (e:n<=n'):Pt H p a ar w row us rs g n' i:=
 ⟨h.ro,h.rp,h.lst,h.wp,h.wa,h.nums,h.hand.mono e,h.lz,h.pl,h.low,h.bd,h.len,h.l9,h.b0,h.b1,h.li,h.two⟩
theorem qu7 {K:W.Frag} {i:Nat} {w:Addr} {ta:TE} {rest:TS} {D:Ends} {σ:L2.St} {H:Hp} (h1:σ[i]?=some (some (.ref w))) (h2:tyV K "list" (.ref w) H) (h:ta σ H λy H1=>qbR (.ref w) [y] H1 λ_ H2=>rest D σ H2):qaD (qeG (tBM K "list" qbR (qaf i) (qab ta qan))) rest D σ H:=⟨_,h1,h2,h⟩
theorem qtE {ta:TA} {g:TG} {tb rest:TS} {D:Ends} {σ:L2.St} {H:Hp} (h:ta σ H (λvs H1=>∃ j:Int,vs=[.int j]/\-(2 ^ 62)<=j/\j<2 ^ 62/\ForR 0 j.toNat g tb { D with nx:=rest D } σ H1)):qaD (qea (qiC ta) g tb) rest D σ H:=h
theorem qtF {ta:TE} {σ:L2.St} {H:Hp} {R:List V->Hp->Prop} (h:ta σ H λx H1=>R [x] H1):qab ta qan σ H R:=h
theorem qqm {K:W.Frag} {p a ar w:Addr} {row:List Int} {us:List V} {rs:List Nu} {g:Bool} {n:Int} {i:Nat} {s6 o8 o9 o10:Option V} {s sz':V} {v:V} {r:Nu} {H:Hp} {D:Ends} (P:Pt H p a ar w row us rs g n i) (hv:isN H v r) (lr:Low r.1 r.2) (bg:r.1.natAbs+r.2.natAbs<=110000) (bs:(g=true->1<=i)->r.1.natAbs+r.2.natAbs<=15) (hi:i<=6)
  (k:∀ (ar':Addr) (row':List Int) (us':List V) (rs':List Nu) (H':Hp),Pt H' p a ar' w row' us' rs' g n (i+1)->D.nx [some s,some (.ref p),some (.ref ar'),some (.ref w),some (.bl g),some sz',s6,some v,o8,o9,o10] H') :
  qgj K D [some s,some (.ref p),some (.ref ar),some (.ref w),some (.bl g),some sz',s6,some v,o8,o9,o10] H:=by
 refine ⟨_,rfl,_,_,rfl,P.ro,_,_,rfl,rfl,_,rfl,qbI (λc=>?_) (λc=>?_)⟩
 ·have c:(((row.map V.int).length:Nat):Int)<9:=of_decide_eq_true c
  rw [waa] at c
  show qjq K _ _ _
  have ll:=P.nums.length
  refine ⟨_,rfl,qcB P.lst,_,rfl,_,_,_,rfl,rfl,P.lst,sz (by have:=P.li;omega),?_⟩
  have aw:=qru P.ro P.lz P.lst P.nums
  have tpu:Tp H (upd H w (.lst (us++[v]))):=Tp.updL P.lst
  have r2:upd H w (.lst (us++[v])) ar=_:=(qaC aw).trans P.ro
  have l2:upd H w (.lst (us++[v])) w=_:=qah
  have n2:=(P.nums.tp tpu).append (Nums.one (hv.tp tpu))
  have h2:Hand (upd H w (.lst (us++[v]))) p a n:=P.hand.upd P.wp P.wa
  have hv2:=hv.tp tpu
  show qjp K _ _ _
  generalize upd H w (.lst (us++[v]))=H2 at r2 l2 n2 h2 hv2 ⊢
  obtain ⟨pc,rfl,hpc⟩:=hv2
  refine qgB (qbt ⟨_,rfl,?_⟩)
  refine qhV ⟨_,rfl,_,_,_,_,rfl,rfl,hpc,rfl,_,rfl,_,rfl,_,_,_,_,rfl,rfl,hpc,rfl,qnH,λy hy=>?_⟩
  have sy:=qag hy (.lst [.int (-r.1),.int r.2])
  have hyy:upd H2 y (.lst [.int (-r.1),.int r.2]) y=some (.lst ([-r.1,r.2].map V.int)):=qah
  have G1:(if g=true then 1540000 else 14)*15 ^ i<=1540000*15 ^ 6:=wb4 (by split <;> decide) (wba ∅ hi)
  have b60:∀ z∈row,Bd 60 z:=λz hz=>by
   have h1:=P.b1 z hz
   have e:1540000*15 ^ 6<2 ^ 60:=by decide
   exact wa4 (wap h1 G1) e
  have b17:∀ z:Int,z.natAbs<=110000->Bd 60 z:=λz h=>wa4 h ∅
  refine ⟨ar,y,row,[-r.1,r.2],60,60,rfl,sy _ _ r2,hyy,P.lz,qqk lr,by have:=P.l9;omega,by show 2<=20;decide,b60,λz hz=>?_,∅,∅,λr5 c5 H5 s5 h5 cl lc ec=>?_⟩
  ·rcases was.mp hz with rfl | hz
   ·exact b17 _ (by rw [Int.natAbs_neg];omega)
   ·rw [wag.mp hz];exact b17 _ ⋯
  have cl:c5.length=row.length+1:=by rw [cl];rfl
  have ss:=sy.trans s5
  have h5h:=h2.same ss
  have en:∀ {M:Nat},(∀ z∈row,z.natAbs<=M)->∀ z∈c5,z.natAbs<=M*(r.1.natAbs+r.2.natAbs):=λhM=>qnm λk=>by
   rw [ec k]
   have:=qqg (x:=-r.1) (y:=r.2) hM k
   rw [Int.natAbs_neg] at this
   exact this
  refine k r5 c5 (us++[.ref pc]) (rs++[r]) H5 ⟨h5,qpZ h5h h5,ss _ _ l2,P.wp,P.wa,n2.tp (tpS ss),h5h,lc,P.pl.line lr ec,λq hq=>?_,λq hq=>?_,by have:=P.len;omega,⋯,(λz=>by omega),λz hz=>?_,by rw [wbq];have:=P.li;show rs.length+1<=_;omega,λh2=>⟨r,?_,bs λ_=>by omega⟩⟩
  ·rcases wa2.mp hq with h | h
   ·exact P.low q h
   ·rw [wag.mp h];exact lr
  ·rcases wa2.mp hq with h | h
   ·exact P.bd q h
   ·rw [wag.mp h];exact bg
  ·by_cases i0:i=0
   ·subst i0
    have h1:=en (P.b0 rfl) z hz
    refine wap h1 ?_
    cases g with
    | true=>show 14*_<=1540000*15 ^ 1;omega
    | false=>
      have:=bs λh=>by cases h
      show 14*_<=14*15 ^ 1
      omega
   ·have h1:=en P.b1 z hz
    have h2:=bs λ_=>by omega
    refine wap h1 ?_
    rw [wax,<-wb8]
    exact wa1 _ h2
  ·rw [wbq]
   show (rs++[r])[rs.length+1 - 1]?=some r
   rw [Nat.add_sub_cancel,List.getElem?_append_right (wac _),Nat.sub_self];rfl
 ·have c:¬ (((row.map V.int).length:Nat):Int)<9:=λz=>c (decide_eq_true z)
  rw [waa] at c
  exact k ar row us rs H (P.next ⋯)
theorem qu8 (h:qk9 K vs H Q E):qvB K { nx:=λ_ H'=>Q .non H',rt:=Q } (L2.start ["_law_script","_law_hand_here","_law_row","_law_roots","_law_great","_law_size","_law_k","_law_root_here","_law_kp","_law_due","_law_found"] vs) H:=by
 obtain ⟨s,sc,rfl,hs,n63,k⟩:=h
 refine qhT ⟨_,rfl,s,sc,rfl,hs,n63,λp a H1 hp k1 h1=>?_⟩
 show qpH K _ _ _
 refine qq1 (qpr (qd6 (qbt ⟨_,rfl,p,a,_,_,rfl,h1,∅,∅,∅,λd H2 d0 d1 h2 k2=>⟨rfl,_,rfl,qbI (λ_=>?_) (λ_=>?_)⟩⟩)))
 ·exact qiM (qiL ⟨_,rfl,p,a,_,rfl,h2,∅,k⟩)
 show qpG K _ _ _
 refine qb1 (qhU (r_c ⟨qmZ,λar har=>?_⟩))
 have sa:=qag har (.lst [.int 1])
 have hra:upd H2 ar (.lst [.int 1]) ar=some (.lst ([1].map V.int)):=qah
 have h2a:=h2.same sa
 have rp:ar≠p:=h2.ne har
 generalize upd H2 ar (.lst [.int 1])=H3 at hra h2a ⊢
 show qpF K _ _ _
 refine qb1 ⟨qtO,λw hw'=>?_⟩
 have sw:=qag hw' (.lst [])
 have hww:upd H3 w (.lst []) w=_:=qah
 have hra:=sw _ _ hra
 have h3:=h2a.same sw
 have wp:w≠p:=h2a.ne hw'
 have wa:w≠a:=h2a.ne2 hw'
 generalize upd H3 w (.lst [])=H4 at hra h3 hww ⊢
 show qpE K _ _ _
 refine qb1 (qd6 (qbt ⟨_,rfl,p,a,_,_,rfl,h3,∅,∅,∅,λgr H5 g0 g1 h5 k5=>⟨rfl,?_⟩⟩))
 have hra:=k5 _ _ rp hra
 have hww:=k5 _ _ wp hww
 show qpD K _ [some (.ref s),some (.ref p),some (.ref ar),some (.ref w),some (.bl (decide (V.int gr=V.int 0))),none,none,none,none,none,none] H5
 generalize decide (V.int gr=V.int 0)=g
 refine qb1 (qd6 ⟨qwp,λw5 hw5=>?_⟩)
 have s5:=qag hw5 (.lst [.int 0,.int 2,.int 3,.int 4])
 refine qbt ⟨_,rfl,p,a,_,_,rfl,h5.same s5,∅,∅,∅,λe H6 e0 e4 h6 k6=>?_⟩
 obtain ⟨m,hm,m4⟩:∃ m:Int,atI [V.int 0,V.int 2,V.int 3,V.int 4] e=some (V.int m)/\(m=0\/2<=m/\m<=4):=by
  have:e=0\/e=1\/e=2\/e=3:=by omega
  rcases this with rfl | rfl | rfl | rfl
  ·exact ⟨0,rfl,.inl rfl⟩
  ·exact ⟨2,rfl,.inr ∅⟩
  ·exact ⟨3,rfl,.inr ∅⟩
  ·exact ⟨4,rfl,.inr ∅⟩
 refine ⟨_,_,_,_,rfl,rfl,k6 _ _ (h5.ne hw5) qah,hm,?_⟩
 have hra:=k6 _ _ rp (s5 _ _ hra)
 have hww:=k6 _ _ wp (s5 _ _ hww)
 clear hm k6 hw5 s5
 have go7:∀ (H7:Hp) (ar:Addr) (row:List Int) (n:Int),Pt H7 p a ar w row [] [] g n 0->n<=1000->qpB K { nx:=λ_ H'=>Q V.non H',rt:=Q } [some (.ref s),some (.ref p),some (.ref ar),some (.ref w),some (.bl g),some (.int m),none,none,none,none,none] H7:=λH7 ar row n P n1=>by
  have len2':∀ {x y:V},[x,y].length<=sizeLine:=qnH
  obtain ⟨mm,hmm,mg,m0,m7⟩:∃ mm:Int,atI [V.int 7,V.int 4] (if g=true then 1 else 0)=some (V.int mm)/\(g=true->mm=4)/\0<mm/\mm<=7:=by
   cases g with
   | true=>exact ⟨4,rfl,λ_=>rfl,∅,∅⟩
   | false=>exact ⟨7,rfl,(λh=>by cases h),∅,∅⟩
  refine qtE (qtF (qbt ⟨_,rfl,qd6 (qhV ⟨qnH,λy hy=>qsU ⟨_,rfl,g,rfl,_,_,_,_,rfl,rfl,qah,hmm,p,a,mm,n,rfl,P.hand.same (qag hy _),⋯,⋯,⋯,λd H8 d0 d1 h8 k8=>?_⟩⟩)⟩))
  have P8:=(P.same (qag hy (.lst [.int 7,.int 4]))).kp k8 h8
  refine ⟨d,rfl,⋯,⋯,ForR.by (λi σ H'=>i<=d.toNat/\∃ (ar:Addr) (row:List Int) (us:List V) (rs:List Nu) (o6 o7:Option V),σ=[some (.ref s),some (.ref p),some (.ref ar),some (.ref w),some (.bl g),some (.int m),o6,o7,none,none,none]/\Pt H' p a ar w row us rs g (n+2+12*i) i) ⟨wad _,ar,row,[],[],none,none,rfl,P8.hmono ⋯⟩ ?_ ?_⟩
  ·rintro i σ H9 hi ⟨_,ar,row,us,rs,o6,o7,rfl,P9⟩
   refine qwj ?_
   show qjs K _ [some (.ref s),some (.ref p),some (.ref ar),some (.ref w),some (.bl g),some (.int m),some (.int (0+(i:Int))),o7,none,none,none] H9
   have i6:i<=6:=by omega
   have rootc:∀ f:Bool,(f=true->g=true/\i=0)->qdE K [.ref p,.bl f] H9 (λv H'=>qjr K { nx:=λσ H'=>i+1<=d.toNat/\∃ (ar:Addr) (row:List Int) (us:List V) (rs:List Nu) (o6 o7:Option V),σ=[some (.ref s),some (.ref p),some (.ref ar),some (.ref w),some (.bl g),some (.int m),o6,o7,none,none,none]/\Pt H' p a ar w row us rs g (n+2+12*((i+1:Nat):Int)) (i+1),ct:=λσ H'=>i+1<=d.toNat/\∃ (ar:Addr) (row:List Int) (us:List V) (rs:List Nu) (o6 o7:Option V),σ=[some (.ref s),some (.ref p),some (.ref ar),some (.ref w),some (.bl g),some (.int m),o6,o7,none,none,none]/\Pt H' p a ar w row us rs g (n+2+12*((i+1:Nat):Int)) (i+1),bk:=qj5 K { nx:=λ_ H'=>Q V.non H',rt:=Q },rt:=Q } [some (.ref s),some (.ref p),some (.ref ar),some (.ref w),some (.bl g),some (.int m),some (.int (0+(i:Int))),some v,none,none,none] H') E0:=λf hf=>by
    refine ⟨p,a,f,_,rfl,P9.hand,⋯,λr t u HA hr pc hA kA=>?_⟩
    have PA:=P9.kp kA hA
    have bg:t.natAbs+u.natAbs<=110000:=by
     have:=pc.2
     refine wap this ?_
     split <;> decide
    have bs:(g=true->1<=i)->t.natAbs+u.natAbs<=15:=λh=>by
     have h2:=pc.2
     cases f with
     | true=>obtain ⟨h3,h4⟩:=hf rfl;have:=h h3;omega
     | false=>exact h2
    have fin:∀ {H':Hp} {v:V} {r:Nu} {nn:Int},Pt H' p a ar w row us rs g nn i->nn<=n+2+12*i+10->isN H' v r->Low r.1 r.2->r.1.natAbs+r.2.natAbs<=110000->((g=true->1<=i)->r.1.natAbs+r.2.natAbs<=15)->qgj K { nx:=λσ H'=>i+1<=d.toNat/\∃ (ar:Addr) (row:List Int) (us:List V) (rs:List Nu) (o6 o7:Option V),σ=[some (.ref s),some (.ref p),some (.ref ar),some (.ref w),some (.bl g),some (.int m),o6,o7,none,none,none]/\Pt H' p a ar w row us rs g (n+2+12*((i+1:Nat):Int)) (i+1),ct:=λσ H'=>i+1<=d.toNat/\∃ (ar:Addr) (row:List Int) (us:List V) (rs:List Nu) (o6 o7:Option V),σ=[some (.ref s),some (.ref p),some (.ref ar),some (.ref w),some (.bl g),some (.int m),o6,o7,none,none,none]/\Pt H' p a ar w row us rs g (n+2+12*((i+1:Nat):Int)) (i+1),bk:=qj5 K { nx:=λ_ H'=>Q V.non H',rt:=Q },rt:=Q } [some (.ref s),some (.ref p),some (.ref ar),some (.ref w),some (.bl g),some (.int m),some (.int (0+(i:Int))),some v,none,none,none] H':=λ{H' v r nn} PP nl hv lr b1 b2=>qqm PP hv lr b1 b2 i6 λar' row' us' rs' H'' P'=>⟨⋯,ar',row',us',rs',_,_,rfl,P'.hmono ⋯⟩
    refine qq1 ⟨_,rfl,_,_,rfl,rfl,_,rfl,qbI (λc1=>?_) (λc1=>?_)⟩
    ·have c1:0+(i:Int) > 1:=of_decide_eq_true c1
     refine qpr (qd6 (qbt ⟨_,rfl,p,a,_,_,rfl,hA,⋯,∅,∅,λe3 HB e30 e31 hB kB=>⟨rfl,_,rfl,qbI (λ_=>?_) (λ_=>?_)⟩⟩))
     ·have PB:=PA.kp kB hB
      obtain ⟨q,hq,q15⟩:=PB.two ⋯
      have ll:=PB.nums.length
      have ql:=(wal.mp hq).1
      have hu:us[us.length - 1]?=some (us[us.length - 1]'⋯):=waf ⋯
      obtain ⟨q',hq',iq⟩:=PB.nums.get hu
      have e:q'=q:=by rw [ll,hq] at hq';exact (Option.some.inj hq').symm
      subst e
      have qm:q'∈rs:=by obtain ⟨z,e⟩:=wal.mp hq;exact e ▸ wbf z
      refine qgB (qd6 ⟨_,rfl,_,rfl,_,_,_,_,rfl,rfl,PB.lst,atI_last ⋯ hu,?_⟩)
      exact fin PB ⋯ iq (PB.low _ qm) ⋯ λ_=>q15
     ·exact fin (PA.kp kB hB) ⋯ ⟨r,rfl,(PA.hand.tpK kB) _ _ hr⟩ pc.1 bg bs
    ·exact fin PA ⋯ ⟨r,rfl,hr⟩ pc.1 bg bs
   refine qb1 (qbt ⟨_,rfl,_,rfl,g,rfl,?_⟩)
   refine qbI (λc=>⟨_,rfl,rfl,rootc _ λh=>⟨c,?_⟩⟩) (λ_=>rootc false λh=>by cases h)
   have h:V.int (0+(i:Int))=V.int 0:=of_decide_eq_true h
   injection h with h
   omega
  ·rintro σ H9 ⟨_,ar,row,us,rs,o6,o7,rfl,P9⟩
   show qj5 K _ _ _
   have b36:∀ z∈row,Bd 36 z:=λz hz=>by
    have h1:=P9.b1 z hz
    refine wa4 h1 ?_
    cases g with
    | true=>
      have:=mg rfl
      show 1540000*15 ^ d.toNat<2 ^ 36
      exact wa4 (wa1 _ (wba ∅ (show d.toNat<=3 by omega))) ∅
    | false=>
      show 14*15 ^ d.toNat<2 ^ 36
      exact wa4 (wa1 _ (wba ∅ (show d.toNat<=6 by omega))) ∅
   refine qcD ⟨_,rfl,qiL ⟨_,rfl,p,a,_,rfl,P9.hand,⋯,λr t u HA hr lt t0 bt bu hA kA=>?_⟩⟩
   have PA:=P9.kp kA hA
   have u0:u≠0:=wah lt.pos
   refine ⟨ar,r,row,t,u,rfl,PA.ro,hr,u0,bt.mono ∅,λz hz=>(b36 z hz).mono ∅,by have:=PA.l9;omega,λr8 zs HB sB h8 n8=>?_⟩
   have PB:=PA.same sB
   have G:=qtm PA.lz b36 lt t0 bt bu
   obtain ⟨bZ,bB,b1⟩:=G.clr
   have ln:(row.map λn=>qaP (n*t) u).length=row.length:=waa ..
   have lne:(row.map λn=>qaP (n*t) u)≠[]:=λz=>by have z2:=congrArg List.length z;rw [waa] at z2;have:=PA.lz.1;simp at z2;rw [z2] at this;simp at this
   have lzN:=qmf (qpT G.low G.nz) λz=>lne (by have:=congrArg List.length z;rw [qhk] at this;exact way.mp this)
   have pl:RL (qbX (row.map λn=>qaP (n*t) u)) rs:=λq lq=>(qnl (row:=row) lt.pos t0 q).trans (PA.pl q lq)
   have l9:=PA.l9
   generalize (row.map λn=>qaP (n*t) u)=l at G bZ bB b1 ln lzN pl n8
   have fb:Fb 40 l.length:=.inl ⟨wac _,⋯⟩
   have b400:∀ z:Int,z.natAbs<=110000->Bd 400 z:=λz h=>wa4 h (wau (show 110000<2 ^ 17 by decide) (wba ∅ ∅))
   show qpA K _ _ _
   refine qhT ⟨_,rfl,w,us,rs,rfl,PB.lst,PB.nums,PB.low,by have:=PB.li;omega,λq hq=>⟨b400 _ (by have:=PB.bd q hq;omega),b400 _ (by have:=PB.bd q hq;omega)⟩,λr9 ws qs HC sC h9 N9 ris9 mem9 lq=>?_⟩
   have h8C:=sC _ _ h8
   have n8C:=n8.tp (tpS sC)
   have told:∀ {xs:List Nu},Rising xs->(∀ q,q∈xs↔RtQ (qbX l) q)->xs=qs:=λri me=>qjy ri ris9 λq=>by
    rw [me,mem9]
    exact ⟨λh=>(pl q h.1).mp h.2,λh=>⟨PB.low q h,(pl q (PB.low q h)).mpr h⟩⟩
   show qm8 K _ _ _
   refine qhT ⟨_,rfl,r8,zs,l,40,rfl,h8C,n8C,G.low,fb,bB,b1,bZ,lzN,λr10 us10 rs10 HD hnew sD h10 N10 ris10 mem10=>?_⟩
   have e10:=told ris10 mem10
   subst e10
   have r9n:r9≠r10:=qaq h9 hnew
   have h9D:=sD _ _ h9
   have N9D:=N9.tp (tpS sD)
   have h8D:=sD _ _ h8C
   have n8D:=n8C.tp (tpS sD)
   have ll:=N10.length
   show qm7 K _ _ _
   refine qq1 ⟨_,rfl,_,_,true,rfl,qtC h10,true,rfl,?_⟩
   refine qbI (λc=>by cases c) λ_=>?_
   refine qsU (qhW ⟨_,rfl,r10,rfl,⟨_,SqL.of h10⟩,CompJ.lst (xs:=us10) (λi ys H'=>i<=us10.length/\Same HD H'/\ys=(List.replicate i true).map V.bl) ⟨wad _,Same.refl _,rfl⟩ ?_ ?_ ?_⟩)
   ·rintro i ys H' ⟨hi,sE,rfl⟩
    exact ⟨hi,sz (by rw [waa,List.length_replicate];have:=PB.li;omega),SqL.of (sE _ _ h10)⟩
   ·rintro i x ys H' hx ⟨hi,sE,rfl⟩
    obtain ⟨q,hq,pc,rfl,hpc⟩:=N10.get hx
    have il:=(wal.mp hx).1
    exact qiL ⟨_,rfl,pc,q.1,q.2,rfl,sE _ _ hpc,λH'' sF=>⟨il,sE.trans sF,rep_snoc' i⟩⟩
   ·rintro ys H' ⟨_,sE,rfl⟩ y hy
    have sy:=qag hy (.lst ((List.replicate us10.length true).map V.bl))
    refine ⟨y,List.replicate us10.length true,rfl,qah,true,by rw [qtD],?_⟩
    have s2:=sE.trans sy
    have h10E:=s2 _ _ h10
    have h9E:=s2 _ _ h9D
    have h8E:=s2 _ _ h8D
    have n8E:=n8D.tp (tpS s2)
    have N10E:=N10.tp (tpS s2)
    have N9E:=N9D.tp (tpS s2)
    generalize upd H' y (.lst ((List.replicate us10.length true).map V.bl))=HE at h10E h9E h8E n8E N10E N9E ⊢
    refine qbI (λc=>by cases c) λ_=>?_
    refine ⟨_,rfl,_,rfl,_,_,true,qtN h10E N10E,qtN h9E N9E,qtP _,qtP _,⟨λ_=>rfl,λ_=>rfl⟩,_,rfl,qbI (λc=>by cases c) λ_=>?_⟩
    show qm6 K _ _ _
    refine qu7 rfl (qcB h10E) (qmY ⟨qnH,λy2 hy2=>?_⟩)
    have sz2:=qag hy2 (.tup [.int 0,.int 1])
    have h10F:=sz2 _ _ h10E
    refine ⟨_,_,_,rfl,rfl,h10F,sz (by have:=PB.li;omega),?_⟩
    have tpu:Tp (upd HE y2 (.tup [.int 0,.int 1])) (upd (upd HE y2 (.tup [.int 0,.int 1])) r10 (.lst (us10++[V.ref y2]))):=Tp.updL h10F
    have h9F:=(qaC (o:=HO.lst (us10++[V.ref y2])) r9n).trans (sz2 _ _ h9E)
    have h8F:=tpu _ _ (sz2 _ _ h8E)
    have n8F:=(n8E.tp (tpS sz2)).tp tpu
    have N9F:=(N9E.tp (tpS sz2)).tp tpu
    generalize upd (upd HE y2 (.tup [.int 0,.int 1])) r10 (.lst (us10++[V.ref y2]))=HF at h9F h8F n8F N9F ⊢
    show qm5 K _ _ _
    refine qiM (qd6 (qiL ⟨_,rfl,r8,zs,l,40,rfl,h8F,n8F,G.low,fb,bB,b1,bZ,lzN,λr13 us13 rs13 HG _ sG h13 N13 ris13 mem13=>?_⟩))
    have e13:=told ris13 mem13
    subst e13
    exact ⟨_,rfl,_,_,true,qtN h13 N13,qtN (sG _ _ h9F) (N9F.tp (tpS sG)),qtP _,qtP _,⟨λ_=>rfl,λ_=>rfl⟩,k _⟩
 show qpC K _ _ _
 refine qq1 ⟨_,rfl,_,_,rfl,rfl,_,rfl,qbI (λc=>?_) (λ_=>?_)⟩
 ·have c:m > 0:=of_decide_eq_true c
  refine qgB (qbt ⟨_,rfl,_,rfl,p,a,m,_,rfl,h6,∅,⋯,⋯,λr ns H7 hr ln lz b14 rl rp7 h7 k7=>?_⟩)
  refine go7 H7 r ns _ ⟨hr,rp7,k7 _ _ wp hww,wp,wa,trivial,h7,lz,λq lq=>⟨λz=>absurd z (rl q lq),λh=>by cases h⟩,(λ_ h=>nomatch h),(λ_ h=>nomatch h),⋯,⋯,λ_=>b14,λz hz=>?_,wac _,λh=>by omega⟩ ∅
  rw [Nat.pow_zero,Nat.mul_one]
  have:=b14 z hz
  split <;> omega
 ·refine go7 H6 ar [1] _ ⟨hra,rp,hww,wp,wa,trivial,h6,⟨by show 0<1;decide,by show (1:Int)≠0;decide⟩,RL.one,(λ_ h=>nomatch h),(λ_ h=>nomatch h),by show 1<=5;decide,by show 1<=9;decide,λ_ z hz=>by rw [wag.mp hz];decide,λz hz=>?_,wac _,λh=>by omega⟩ ∅
  rw [wag.mp hz,Nat.pow_zero,Nat.mul_one]
  split <;> decide
end Bs
namespace Bs
open PySem PySem.Spec PyProof.Rows L2
set_option maxHeartbeats 4000000
open Hd
structure Bl (K:W.Frag) (mg:Str->Option Value):Prop where
 abs:mg "abs" = none
 min:mg "min" = none
 len:mg "len" = none
 enumerate:mg "enumerate" = none
 range:mg "range" = none
 list:mg "list" = none
 max:mg "max" = none
 any:mg "any" = none
 reversed:mg "reversed" = none
 zip:mg "zip" = none
 EXPONENTS:mg "EXPONENTS" = some (.ref (qca K))
 tuple:mg "tuple" = none
 sorted:mg "sorted" = none
 sum:mg "sum" = none
 isinstance:mg "isinstance" = none
 int:mg "int" = none
 bool:mg "bool" = none
 all:mg "all" = none
 xEXPONENTS:∀ H:Hp,SqT K H (qca K) (exps.map λe:Nat=>V.int (e:Int))
section
variable (P:Program) (w:World) (K:W.Frag) (mg:Str->Option Value) (base:Heap)
noncomputable abbrev qbh:Prop:=Cal P w K mg base 1 "common_divisor" ["one", "other"] (qaI K)
noncomputable abbrev qkn:Prop:=Cal P w K mg base 1 "raised" ["whole", "n"] (qcl K)
noncomputable abbrev qjz:Prop:=Cal P w K mg base 1 "is_prime" ["whole"] (qdR K)
noncomputable abbrev qf2:Prop:=Cal P w K mg base 2 "prime_after" ["whole"] (qcf K)
noncomputable abbrev qlz:Prop:=Cal P w K mg base 2 "content" ["row", "start"] (qcQ K)
noncomputable abbrev qcN:Prop:=Cal P w K mg base 1 "row_trimmed" ["row"] (qbc K)
noncomputable abbrev qgM:Prop:=Cal P w K mg base 1 "row_parted" ["row", "divisor"] (qbN K)
noncomputable abbrev qfb:Prop:=Cal P w K mg base 1 "row_times" ["row", "other"] (qbi K)
noncomputable abbrev qfc:Prop:=Cal P w K mg base 1 "row_slope" ["row"] (qbK K)
noncomputable abbrev qeE:Prop:=Cal P w K mg base 1 "row_over" ["row", "divisor"] (qbz K)
noncomputable abbrev qev:Prop:=Cal P w K mg base 1 "row_at_modulo" ["row", "place", "modulus"] (qbD K)
noncomputable abbrev qew:Prop:=Cal P w K mg base 1 "root_exponent" ["row"] (qbW K)
noncomputable abbrev qeF:Prop:=Cal P w K mg base 2 "row_less" ["row", "factor", "other", "weight", "shift"] (qby K)
noncomputable abbrev qil:Prop:=Cal P w K mg base 1 "row_moved" ["row", "whole"] (qbZ K)
noncomputable abbrev qf3:Prop:=Cal P w K mg base 4 "strand_rest" ["strand", "other"] (qbF K)
noncomputable abbrev qb6:Prop:=Cal P w K mg base 3 "strand_shortened" ["strand"] (qaU K)
noncomputable abbrev qb7:Prop:=Cal P w K mg base 4 "row_shortened" ["row"] (qaS K)
noncomputable abbrev qex:Prop:=Cal P w K mg base 5 "strand_euclid" ["strand", "other"] (qa9 K)
noncomputable abbrev qcF:Prop:=Cal P w K mg base 1 "inverse_modulo" ["whole", "prime"] (qa1 K)
noncomputable abbrev qds:Prop:=Cal P w K mg base 1 "rests_modulo" ["row", "prime"] (qbd K)
noncomputable abbrev qcz:Prop:=Cal P w K mg base 2 "row_modulo" ["row", "prime"] (qaT K)
noncomputable abbrev qdt:Prop:=Cal P w K mg base 2 "monic_modulo" ["row", "prime"] (qaQ K)
noncomputable abbrev qch:Prop:=Cal P w K mg base 3 "split_modulo" ["row", "divisor", "modulus"] (qaZ K)
noncomputable abbrev qcO:Prop:=Cal P w K mg base 4 "rest_modulo" ["row", "divisor", "modulus"] (qaR K)
noncomputable abbrev qey:Prop:=Cal P w K mg base 5 "euclid_modulo" ["row", "other", "prime"] (qbf K)
noncomputable abbrev qeQ:Prop:=Cal P w K mg base 5 "inverse_rest" ["row", "divisor", "prime"] (qb3 K)
noncomputable abbrev qnn:Prop:=Cal P w K mg base 6 "lifted" ["row", "factor", "prime", "floor"] (qfr K)
noncomputable abbrev qim:Prop:=Cal P w K mg base 1 "nearest" ["whole", "prime"] (qcb K)
noncomputable abbrev qdH:Prop:=Cal P w K mg base 6 "common_by_prime" ["row", "other", "prime"] (qa8 K)
noncomputable abbrev qgN:Prop:=Cal P w K mg base 7 "row_common" ["row", "other"] (qbO K)
noncomputable abbrev qgO:Prop:=Cal P w K mg base 8 "simple_row" ["row"] (qbP K)
noncomputable abbrev qmv:Prop:=Cal P w K mg base 2 "ratio" ["top", "bottom"] (qcL K)
noncomputable abbrev qqn:Prop:=Cal P w K mg base 2 "power" ["one", "n"] (qhh K)
noncomputable abbrev qsl:Prop:=Cal P w K mg base 1 "poly" ["row"] (qga K)
noncomputable abbrev qin:Prop:=Cal P w K mg base 2 "cleared" ["P"] (qcc K)
noncomputable abbrev qio:Prop:=Cal P w K mg base 3 "uncleared" ["row", "bottom"] (qbv K)
noncomputable abbrev qlA:Prop:=Cal P w K mg base 4 "p_moved" ["P", "c"] (qcS K)
noncomputable abbrev qcG:Prop:=Cal P w K mg base 9 "rational_roots" ["P"] (qa2 K)
noncomputable abbrev qez:Prop:=Cal P w K mg base 2 "starts_modulo" ["row", "prime"] (qbg K)
noncomputable abbrev qno:Prop:=Cal P w K mg base 1 "_law_hand" ["_law_script"] (qdD K)
noncomputable abbrev qdn:Prop:=Cal P w K mg base 1 "_law_draw" ["_law_hand_here", "_law_many"] (qaK K)
noncomputable abbrev qcT:Prop:=Cal P w K mg base 1 "_law_lowest" ["_law_top", "_law_bottom"] (qbk K)
noncomputable abbrev qdT:Prop:=Cal P w K mg base 1 "_law_row_times" ["_law_one", "_law_other"] (qbl K)
noncomputable abbrev qfd:Prop:=Cal P w K mg base 2 "_law_poly_of" ["_law_row", "_law_scale_here"] (qbJ K)
noncomputable abbrev qko:Prop:=Cal P w K mg base 2 "_law_root" ["_law_hand_here", "_law_great"] (qdE K)
noncomputable abbrev qgP:Prop:=Cal P w K mg base 2 "_law_rootless" ["_law_hand_here", "_law_size"] (qcM K)
noncomputable abbrev qlB:Prop:=Cal P w K mg base 2 "_law_scale" ["_law_hand_here"] (qcR K)
noncomputable abbrev qgp:Prop:=Cal P w K mg base 1 "_law_rising" ["_law_numbers"] (qcd K)
noncomputable abbrev qf4:Prop:=Cal P w K mg base 1 "_law_is_number" ["_law_found"] (qcg K)
noncomputable abbrev qqo:Prop:=Cal P w K mg base 2 "_law_far" ["_law_hand_here", "_law_most"] (qfs K)
noncomputable abbrev qgQ:Prop:=Cal P w K mg base 3 "_law_far_root" ["_law_hand_here", "_law_most"] (qb4 K)
noncomputable abbrev qnp:Prop:=Cal P w K mg base 10 "_law_wide" ["_law_hand_here"] (qft K)
end
section
variable {P:Program} {w:World} {K:W.Frag} {mg:Str->Option Value} {base:Heap} {f:Addr} {fd:FuncData}
theorem okm {n:Str} {st:Stmt} {N ps:List Str} {k:Nat} {sp:Sp} {t:TS} (F:Fun K n n st f fd) (v:∀ {vs:List V} {H:Hp} {Q:VK} {E:XK},sp vs H Q E->t { nx:=λ_ H'=>Q .non H',rt:=Q } (start N vs) H) (d:∀ {cdv:Value} {A:Around} {outer:List Env} {s:Shared} {H:Hp} {E:XK} (hr:Room k (A.deeper (envOfC n (qbe st) s.heap.objs.size f cdv))) (nd:N.Nodup) (hu:(A.deeper (envOfC n (qbe st) s.heap.objs.size f cdv)).units<cLine) (hu64:(A.deeper (envOfC n (qbe st) s.heap.objs.size f cdv)).units+64<cLine),PSs (qss CX0 P w K mg base N n (qbe st) f cdv A outer s H E).nox (qcA st) t) (S:FnScope N ps (qbe st):=by exact ⟨rfl,rfl,rfl,by decide +kernel,rfl,by decide +kernel,by decide +kernel⟩) (len:∀ vs H Q E,sp vs H Q E->vs.length=ps.length:=by intro vs H Q E h;repeat (first | (obtain ⟨rfl,_⟩:=h;rfl) | obtain ⟨_,h⟩:=h)):FnOk P w K mg base CX0 (k+1) f fd ps sp:=F.ok S len λcdv A outer s H vs Q E hr h=>⟨t,d hr S.nd hr.units0 hr.units,v h⟩
theorem li {a:Prop} {α:Type} {x:α}:x=x\/a:=Or.inl rfl
theorem qgq (F:Fun K "common_divisor" "common_divisor" qgR f fd) (B:Bl K mg)  : FnOk P w K mg base CX0 1 f fd ["one", "other"] (qaI K):=okm F (qgk ) λhr nd hu ht=>(qac (qbx PassesOwn.never (qax qjF (pv 1) qad (nomark _)) (qac (qaj (i:=2) nd rfl li (qal qsp (pv 0) (pv 1)))
  (qac (qaj (i:=0) nd rfl li (pv 1))
  (qai (qaj (i:=1) nd rfl li (pv 2))))))
  (qai (qaB (qat qcj rfl B.abs qgz (qaa (pv 0) qae)))))
theorem qqp (F:Fun K "raised" "raised" qqI f fd) (B:Bl K mg)  : FnOk P w K mg base CX0 1 f fd ["whole", "n"] (qcl K):=okm F (qpK ) λhr nd hu ht=>(qac (qaj (i:=2) nd rfl li qad)
  (qac (qaj (i:=3) nd rfl li (pv 0))
  (qac (qbx PassesOwn.never (qax qht (pv 1) qad (nomark _)) (qac (qbC (qax qc7 (qal qbU (pv 1) qad) qad (nomark _)) (qai (qfg (i:=2) nd rfl li (pv 3) qha)) qaL)
  (qac (qfg (i:=1) nd rfl li qad qoU)
  (qai (qbC (qax qht (pv 1) qad (nomark _)) (qai (qfg (i:=3) nd rfl li (pv 3) qha)) qaL)))))
  (qai (qaB (pv 2))))))
theorem qmw (F:Fun K "is_prime" "is_prime" qnx f fd) (B:Bl K mg)  : FnOk P w K mg base CX0 1 f fd ["whole"] (qdR K):=okm F (qmr ) λhr nd hu ht=>(qac (qaj (i:=1) nd rfl li qad)
  (qac (qbx PassesOwn.never (qax qtZ (qal qaH (pv 1) (pv 1)) (pv 0) (nomark _)) (qac (qbC (qax qc7 (qal qbU (pv 0) (pv 1)) qad (nomark _)) (qai (qaB qn5)) qaL)
  (qai (qfg (i:=1) nd rfl li qad qjE))))
  (qai (qaB (qhu qht (pv 0) qad (nomark _))))))
theorem qiU (F:Fun K "prime_after" "prime_after" qjJ f fd) (B:Bl K mg) (c0:qjz P w K mg base):FnOk P w K mg base CX0 2 f fd ["whole"] (qcf K):=okm F (qiS ) λhr nd hu ht=>(qac (qaj (i:=1) nd rfl li (qal qa3 (pv 0) qad))
  (qac (qbx PassesOwn.never (qho (qhn (c0.pe hr ∅ rfl (qaa (pv 1) qae)))) (qai (qfg (i:=1) nd rfl li qad qjE)))
  (qai (qaB (pv 1)))))
theorem qnW (F:Fun K "content" "content" qow f fd) (B:Bl K mg) (c0:qbh P w K mg base):FnOk P w K mg base CX0 2 f fd ["row", "start"] (qcQ K):=okm F (qnO ) λhr nd hu ht=>(qac (qaj (i:=2) nd rfl li (c0.pe hr ∅ rfl (qaa (qsI rfl B.min qub (qqW (N:=["whole"]) (capt:=[none]) rfl (BlkOk.of rfl rfl rfl rfl (λ_ h=>nomatch h) rfl rfl rfl) (qbq (pv 0)) (λ_ _ _ _=>(qaA (i:=0) (show (["whole"]:List PySem.Str).Nodup by decide +kernel) rfl li)) (λ_ _ _ _=>(qax qjF (pv 0) qad (nomark _))) (λ_ _ _ _=>(qat qcj rfl B.abs qgz (qaa (pv 0) qae))))) (qaa (pv 1) qae))))
  (qac (qbH PassesOwn.never rfl (qbq (pv 0)) (qaA (i:=3) nd rfl li) (qac (qbC (qax qc7 (pv 2) qad (nomark _)) (qai (qaB qad)) qaL)
  (qai (qaj (i:=2) nd rfl li (c0.pe hr ∅ rfl (qaa (pv 3) (qaa (pv 2) qae)))))))
  (qai (qaB (pv 2)))))
theorem qiV (F:Fun K "row_trimmed" "row_trimmed" qjK f fd) (B:Bl K mg)  : FnOk P w K mg base CX0 1 f fd ["row"] (qbc K):=okm F (qiO ) λhr nd hu ht=>(qac (qaj (i:=1) nd rfl li (qat qaG rfl B.len qbb (qaa (pv 0) qae)))
  (qac (qbx PassesOwn.never (PW.pt (qgw (qax qht (pv 1) qad (nomark _)) (qeT (qax qc7 (qaz qap (pv 0) (qal qa4 (pv 1) qad) (λ_ _=>rfl)) qad (nomark _))))) (qai (qfg (i:=1) nd rfl li qad qhs)))
  (qai (qaB (qc8 qf8 (pv 0) qec (qed (pv 1)))))))
theorem qkp (F:Fun K "row_parted" "row_parted" qkL f fd) (B:Bl K mg)  : FnOk P w K mg base CX0 1 f fd ["row", "divisor"] (qbN K):=okm F (qj8 ) λhr nd hu ht=>(qai (qaB (qbT (N:=["whole", "divisor"]) (capt:=[none,some 1]) rfl (BlkOk.of rfl rfl rfl rfl (wbi.mpr rfl) rfl rfl rfl) (qbq (pv 0)) (λ_ _ _ _=>(qaA (i:=0) (show (["whole", "divisor"]:List PySem.Str).Nodup by decide +kernel) rfl li)) (λ_ _ _ _=>(qal qfm (pv 0) (pv 1))))))
theorem qlC (F:Fun K "row_times" "row_times" qlT f fd) (B:Bl K mg)  : FnOk P w K mg base CX0 1 f fd ["row", "other"] (qbi K):=okm F (qls ) λhr nd hu ht=>(qac (qbC (PW.pt (qns (qho (qeW (pv 0) (λ_=>rfl))) (qkz (qho (qeW (pv 1) (λ_=>rfl)))))) (qai (qaB (qa5 qae))) qaL)
  (qac (qaj (i:=2) nd rfl li (qal qkK (qa5 (qaa qad qae)) (qal qa4 (qal qa3 (qat qaG rfl B.len qbb (qaa (pv 0) qae)) (qat qaG rfl B.len qbb (qaa (pv 1) qae))) qad)))
  (qac (qbH PassesOwn.never rfl (qdL rfl B.enumerate (qaa (pv 0) qae)) (qef rfl (qbn (qaA (i:=3) nd rfl li) (qbn (qaA (i:=4) nd rfl li) qd9))) (qai (qbC (qax qjF (pv 4) qad (nomark _)) (qai (qbH PassesOwn.never rfl (qdL rfl B.enumerate (qaa (pv 1) qae)) (qef rfl (qbn (qaA (i:=5) nd rfl li) (qbn (qaA (i:=6) nd rfl li) qd9))) (qai (qhr (pv 2) (qal qa3 (pv 3) (pv 5)) qfl (qal qaH (pv 4) (pv 6)) qjE qbV)))) qaL)))
  (qai (qaB (pv 2))))))
theorem qlD (F:Fun K "row_slope" "row_slope" qlU f fd) (B:Bl K mg)  : FnOk P w K mg base CX0 1 f fd ["row"] (qbK K):=okm F (qlr ) λhr nd hu ht=>(qai (qaB (qbT (N:=["place", "row"]) (capt:=[none,some 0]) rfl (BlkOk.of rfl rfl rfl rfl (wbi.mpr rfl) rfl rfl rfl) (qkC rfl B.range (qaa qad (qaa (qat qaG rfl B.len qbb (qaa (pv 0) qae)) qae))) (λ_ _ _ _=>(qaA (i:=0) (show (["place", "row"]:List PySem.Str).Nodup by decide +kernel) rfl li)) (λ_ _ _ _=>(qal qaH (pv 0) (qaz qap (pv 1) (pv 0) (λ_ _=>rfl)))))))
theorem qmx (F:Fun K "row_over" "row_over" qny f fd) (B:Bl K mg)  : FnOk P w K mg base CX0 1 f fd ["row", "divisor"] (qbz K):=okm F (qmc ) λhr nd hu ht=>(qac (qaj (i:=2) nd rfl li (qcV qeC rfl B.list qhI (qaa (pv 0) qae)))
  (qac (qaj (i:=3) nd rfl li (qal qa4 (qat qaG rfl B.len qbb (qaa (pv 1) qae)) qad))
  (qac (qaj (i:=4) nd rfl li (qal qkK (qa5 (qaa qad qae)) (qat (qfj rfl) rfl B.max qkS (qaa (qal qa4 (qat qaG rfl B.len qbb (qaa (pv 0) qae)) (pv 3)) (qaa qad qae)))))
  (qac (qbH PassesOwn.never rfl (qhM rfl B.range (qaa (qal qa4 (qal qa4 (qat qaG rfl B.len qbb (qaa (pv 0) qae)) (pv 3)) qad) (qaa (qbG qa0 qad) (qaa (qbG qa0 qad) qae)))) (qaA (i:=5) nd rfl li) (qac (qaj (i:=6) nd rfl li (qal qc9 (qaz qap (pv 2) (qal qa3 (pv 5) (pv 3)) (λ_ _=>rfl)) (qaz qap (pv 1) (qbG qa0 qad) (λ_ _=>rfl))))
  (qac (qbC (qax qjF (qal qaH (pv 6) (qaz qap (pv 1) (qbG qa0 qad) (λ_ _=>rfl))) (qaz qap (pv 2) (qal qa3 (pv 5) (pv 3)) (λ_ _=>rfl)) (nomark _)) (qai (qaB qd7)) qaL)
  (qac (qhq (pv 6) (qhp (pv 4) (pv 5) qbV))
  (qai (qbC (qax qjF (pv 6) qad (nomark _)) (qai (qbH PassesOwn.never rfl (qdx rfl B.range (qaa (pv 3) qae)) (qaA (i:=7) nd rfl li) (qai (qhr (pv 2) (qal qa3 (pv 5) (pv 7)) qfl (qal qaH (pv 6) (qaz qap (pv 1) (pv 7) (λ_ _=>rfl))) qhs qbV)))) qaL))))))
  (qai (qaB (qjD (qhn (qat (qo2 rfl) rfl B.any quu (qaa (qc8 qf8 (pv 2) qec (qed (pv 3))) qae))) qd7 (pv 4))))))))
theorem qg4 (F:Fun K "row_at_modulo" "row_at_modulo" qhB f fd) (B:Bl K mg)  : FnOk P w K mg base CX0 1 f fd ["row", "place", "modulus"] (qbD K):=okm F (qg1 ) λhr nd hu ht=>(qac (qaj (i:=3) nd rfl li qad)
  (qac (qbH PassesOwn.never rfl (qur rfl B.reversed (qaa (pv 0) qae)) (qaA (i:=4) nd rfl li) (qai (qaj (i:=3) nd rfl li (qal qbU (qal qa3 (qal qaH (pv 3) (pv 1)) (pv 4)) (pv 2)))))
  (qai (qaB (pv 3)))))
theorem qg5 (F:Fun K "root_exponent" "root_exponent" qhC f fd) (B:Bl K mg)  : FnOk P w K mg base CX0 1 f fd ["row"] (qbW K):=okm F (qg3 ) λhr nd hu ht=>(qac (qaj (i:=1) nd rfl li (qa5 qae))
  (qac (qbH PassesOwn.never rfl (qkC rfl B.range (qaa qad (qaa (qat qaG rfl B.len qbb (qaa (pv 0) qae)) qae))) (qaA (i:=2) nd rfl li) (qac (qaj (i:=3) nd rfl li (qaz qap (pv 0) (qal qa4 (qal qa4 (qat qaG rfl B.len qbb (qaa (pv 0) qae)) qad) (pv 2)) (λ_ _=>rfl)))
  (qai (qbC (qax qjF (pv 3) qad (nomark _)) (qai (qcU (qhy PySem.F.plainAttrs_list PySem.F.slot_list_append PySem.F.type_list_append qb2 (pv 1) (qaa (qbG qa0 (qal qfm (qal qa4 (qal qa4 (qrJ PySem.F.plainAttrs_int PySem.F.slot_int_bit_length PyProof.Rows.type_int_bit_length qo9 (qaz qap (pv 0) (qbG qa0 qad) (λ_ _=>rfl))) (qrJ PySem.F.plainAttrs_int PySem.F.slot_int_bit_length PyProof.Rows.type_int_bit_length qo9 (pv 3))) qad) (pv 2))) qae)))) qaL))))
  (qai (qaB (qal qa3 qad (qsL rfl B.max qkS (pv 1)))))))
theorem qmy (F:Fun K "row_less" "row_less" qnz f fd) (B:Bl K mg) (c0:qcN P w K mg base):FnOk P w K mg base CX0 2 f fd ["row", "factor", "other", "weight", "shift"] (qby K):=okm F (qmb ) λhr nd hu ht=>(qac (qjS (i:=5) (N:=["whole", "factor"]) (capt:=[none,some 1]) nd rfl li rfl (BlkOk.of rfl rfl rfl rfl (wbi.mpr rfl) rfl rfl rfl) (qbq (pv 0)) (λ_ _ _ _=>(qaA (i:=0) (show (["whole", "factor"]:List PySem.Str).Nodup by decide +kernel) rfl li)) (λ_ _ _ _=>(qal qaH (pv 1) (pv 0))))
  (qac (qcU (qhy PySem.F.plainAttrs_list PySem.F.slot_list_extend PySem.F.type_list_extend qot (pv 5) (qaa (qal qkK (qa5 (qaa qad qae)) (qal qa4 (qal qa3 (qat qaG rfl B.len qbb (qaa (pv 2) qae)) (pv 4)) (qat qaG rfl B.len qbb (qaa (pv 0) qae)))) qae)))
  (qac (qbH PassesOwn.never rfl (qdL rfl B.enumerate (qaa (pv 2) qae)) (qef rfl (qbn (qaA (i:=6) nd rfl li) (qbn (qaA (i:=7) nd rfl li) qd9))) (qai (qhr (pv 5) (qal qa3 (pv 6) (pv 4)) qfl (qal qaH (pv 3) (pv 7)) qhs qbV)))
  (qai (qaB (c0.pe hr ∅ rfl (qaa (pv 5) qae)))))))
theorem qlE (F:Fun K "row_moved" "row_moved" qlV f fd) (B:Bl K mg)  : FnOk P w K mg base CX0 1 f fd ["row", "whole"] (qbZ K):=okm F (qlx ) λhr nd hu ht=>(qac (qaj (i:=2) nd rfl li (qcV qeC rfl B.list qhI (qaa (pv 0) qae)))
  (qac (qbH PassesOwn.never rfl (qdx rfl B.range (qaa (qal qa4 (qat qaG rfl B.len qbb (qaa (pv 0) qae)) qad) qae)) (qaA (i:=3) nd rfl li) (qai (qbH PassesOwn.never rfl (qhM rfl B.range (qaa (qal qa4 (qat qaG rfl B.len qbb (qaa (pv 0) qae)) qad) (qaa (qal qa4 (pv 3) qad) (qaa (qbG qa0 qad) qae)))) (qaA (i:=4) nd rfl li) (qai (qhr (pv 2) (pv 4) qfl (qal qaH (pv 1) (qaz qap (pv 2) (qal qa3 (pv 4) qad) (λ_ _=>rfl))) qjE qbV)))))
  (qai (qaB (pv 2)))))
theorem qiW (F:Fun K "strand_rest" "strand_rest" qjL f fd) (B:Bl K mg) (c0:qbh P w K mg base) (c1:qeF P w K mg base) (c2:qb6 P w K mg base):FnOk P w K mg base CX0 4 f fd ["strand", "other"] (qbF K):=okm F (qiQ ) λhr nd hu ht=>(qac (qbx PassesOwn.never (qax qt0 (qat qaG rfl B.len qbb (qaa (qaz qap (pv 0) qad (λ_ _=>rfl)) qae)) (qat qaG rfl B.len qbb (qaa (qaz qap (pv 1) qad (λ_ _=>rfl)) qae)) (nomark _)) (qac (qaj (i:=2) nd rfl (Or.inr rfl) (qal qa4 (qat qaG rfl B.len qbb (qaa (qaz qap (pv 0) qad (λ_ _=>rfl)) qae)) (qat qaG rfl B.len qbb (qaa (qaz qap (pv 1) qad (λ_ _=>rfl)) qae))))
  (qac (qaj (i:=3) nd rfl li (qaz qap (qaz qap (pv 0) qad (λ_ _=>rfl)) (qbG qa0 qad) (λ_ _=>rfl)))
  (qac (qaj (i:=4) nd rfl li (qaz qap (qaz qap (pv 1) qad (λ_ _=>rfl)) (qbG qa0 qad) (λ_ _=>rfl)))
  (qac (qaj (i:=5) nd rfl li (c0.pe hr ∅ rfl (qaa (pv 3) (qaa (pv 4) qae))))
  (qac (qaj (i:=6) nd rfl (Or.inr rfl) (qal qc9 (pv 4) (pv 5)))
  (qac (qaj (i:=7) nd rfl (Or.inr rfl) (qal qc9 (pv 3) (pv 5)))
  (qai (qjS (i:=0) (N:=["row", "follower", "factor", "weight", "shift"]) (capt:=[none,none,some 6,some 7,some 2]) nd rfl li rfl (BlkOk.of rfl rfl rfl rfl (List.forall_mem_cons.mpr ⟨rfl,(List.forall_mem_cons.mpr ⟨rfl,(wbi.mpr rfl)⟩)⟩) rfl rfl rfl) (qut rfl B.zip (qaa (pv 0) (qaa (pv 1) qae))) (λ_ _ _ _=>(qef rfl (qbn (qaA (i:=0) (show (["row", "follower", "factor", "weight", "shift"]:List PySem.Str).Nodup by decide +kernel) rfl li) (qbn (qaA (i:=1) (show (["row", "follower", "factor", "weight", "shift"]:List PySem.Str).Nodup by decide +kernel) rfl li) qd9)))) (λ_ _ _ _=>(c1.pe hr ∅ rfl (qaa (pv 0) (qaa (pv 2) (qaa (pv 1) (qaa (pv 3) (qaa (pv 4) qae))))))))))))))))
  (qai (qaB (c2.pe hr ∅ rfl (qaa (pv 0) qae)))))
theorem qfe (F:Fun K "strand_shortened" "strand_shortened" qfi f fd) (B:Bl K mg) (c0:qlz P w K mg base) (c1:qgM P w K mg base):FnOk P w K mg base CX0 3 f fd ["strand"] (qaU K):=okm F (qe9 ) λhr nd hu ht=>(qac (qaj (i:=1) nd rfl (Or.inr rfl) qad)
  (qac (qbH PassesOwn.never rfl (qbq (pv 0)) (qaA (i:=2) nd rfl li) (qai (qaj (i:=1) nd rfl (Or.inr rfl) (c0.pe hr ∅ rfl (qaa (pv 2) (qaa (pv 1) qae))))))
  (qai (qaB (qbT (N:=["row", "shared"]) (capt:=[none,some 1]) rfl (BlkOk.of rfl rfl rfl rfl (wbi.mpr rfl) rfl rfl rfl) (qbq (pv 0)) (λ_ _ _ _=>(qaA (i:=0) (show (["row", "shared"]:List PySem.Str).Nodup by decide +kernel) rfl li)) (λ_ _ _ _=>(c1.pe hr ∅ rfl (qaa (pv 0) (qaa (pv 1) qae)))))))))
theorem qg6 (F:Fun K "row_shortened" "row_shortened" qhD f fd) (B:Bl K mg) (c0:qb6 P w K mg base):FnOk P w K mg base CX0 4 f fd ["row"] (qaS K):=okm F (qgZ ) λhr nd hu ht=>(qai (qaB (qaz qap (c0.pe hr ∅ rfl (qaa (qa5 (qaa (pv 0) qae)) qae)) qad (λ_ _=>rfl))))
theorem qg7 (F:Fun K "strand_euclid" "strand_euclid" qhE f fd) (B:Bl K mg) (c0:qf3 P w K mg base):FnOk P w K mg base CX0 5 f fd ["strand", "other"] (qa9 K):=okm F (qg0 ) λhr nd hu ht=>(qac (qbx PassesOwn.never (qeW (qaz qap (pv 1) qad (λ_ _=>rfl)) (λ_=>rfl)) (qac (qbC (qax qc7 (qat qaG rfl B.len qbb (qaa (qaz qap (pv 1) qad (λ_ _=>rfl)) qae)) qad (nomark _)) (qai (qaB (pv 1))) qaL)
  (qac (qaj (i:=2) nd rfl li (c0.pe hr ∅ rfl (qaa (pv 0) (qaa (pv 1) qae))))
  (qac (qaj (i:=0) nd rfl li (pv 1))
  (qai (qaj (i:=1) nd rfl li (pv 2)))))))
  (qai (qaB (pv 0))))
theorem qgr (F:Fun K "inverse_modulo" "inverse_modulo" qgS f fd) (B:Bl K mg)  : FnOk P w K mg base CX0 1 f fd ["whole", "prime"] (qa1 K):=okm F (qgm ) λhr nd hu ht=>(qac (qaj (i:=2) nd rfl li (pv 1))
  (qac (qaj (i:=3) nd rfl li (qal qbU (pv 0) (pv 1)))
  (qac (qaj (i:=4) nd rfl li qad)
  (qac (qaj (i:=5) nd rfl li qad)
  (qac (qbx PassesOwn.never (qax qjF (pv 3) qad (nomark _)) (qac (qaj (i:=6) nd rfl li (qal qfm (pv 2) (pv 3)))
  (qac (qaj (i:=7) nd rfl li (qal qa4 (pv 2) (qal qaH (pv 6) (pv 3))))
  (qac (qaj (i:=2) nd rfl li (pv 3))
  (qac (qaj (i:=3) nd rfl li (pv 7))
  (qac (qaj (i:=7) nd rfl li (qal qa4 (pv 4) (qal qaH (pv 6) (pv 5))))
  (qac (qaj (i:=4) nd rfl li (pv 5))
  (qai (qaj (i:=5) nd rfl li (pv 7))))))))))
  (qai (qaB (qal qbU (pv 4) (pv 1)))))))))
theorem qip (F:Fun K "rests_modulo" "rests_modulo" qiD f fd) (B:Bl K mg)  : FnOk P w K mg base CX0 1 f fd ["row", "prime"] (qbd K):=okm F (qig ) λhr nd hu ht=>(qai (qaB (qbT (N:=["whole", "prime"]) (capt:=[none,some 1]) rfl (BlkOk.of rfl rfl rfl rfl (wbi.mpr rfl) rfl rfl rfl) (qbq (pv 0)) (λ_ _ _ _=>(qaA (i:=0) (show (["whole", "prime"]:List PySem.Str).Nodup by decide +kernel) rfl li)) (λ_ _ _ _=>(qal qbU (pv 0) (pv 1))))))
theorem qkq (F:Fun K "row_modulo" "row_modulo" qkM f fd) (B:Bl K mg) (c0:qds P w K mg base) (c1:qcN P w K mg base):FnOk P w K mg base CX0 2 f fd ["row", "prime"] (qaT K):=okm F (qkb ) λhr nd hu ht=>(qai (qaB (c1.pe hr ∅ rfl (qaa (c0.pe hr ∅ rfl (qaa (pv 0) (qaa (pv 1) qae))) qae))))
theorem qiq (F:Fun K "monic_modulo" "monic_modulo" qiE f fd) (B:Bl K mg) (c0:qcF P w K mg base):FnOk P w K mg base CX0 2 f fd ["row", "prime"] (qaQ K):=okm F (qih ) λhr nd hu ht=>(qac (qbC (qho (qeW (pv 0) (λ_=>rfl))) (qai (qaB (qa5 qae))) qaL)
  (qac (qaj (i:=2) nd rfl (Or.inr rfl) (c0.pe hr ∅ rfl (qaa (qaz qap (pv 0) (qbG qa0 qad) (λ_ _=>rfl)) (qaa (pv 1) qae))))
  (qai (qaB (qbT (N:=["whole", "prime", "factor"]) (capt:=[none,some 1,some 2]) rfl (BlkOk.of rfl rfl rfl rfl (List.forall_mem_cons.mpr ⟨rfl,(wbi.mpr rfl)⟩) rfl rfl rfl) (qbq (pv 0)) (λ_ _ _ _=>(qaA (i:=0) (show (["whole", "prime", "factor"]:List PySem.Str).Nodup by decide +kernel) rfl li)) (λ_ _ _ _=>(qal qbU (qal qaH (pv 0) (pv 2)) (pv 1))))))))
theorem qir (F:Fun K "split_modulo" "split_modulo" qiF f fd) (B:Bl K mg) (c0:qcN P w K mg base) (c1:qcz P w K mg base):FnOk P w K mg base CX0 3 f fd ["row", "divisor", "modulus"] (qaZ K):=okm F (qii ) λhr nd hu ht=>(qac (qaj (i:=3) nd rfl li (qcV qeC rfl B.list qhI (qaa (pv 0) qae)))
  (qac (qaj (i:=4) nd rfl li (qal qa4 (qat qaG rfl B.len qbb (qaa (pv 1) qae)) qad))
  (qac (qaj (i:=5) nd rfl li (qal qkK (qa5 (qaa qad qae)) (qat (qfj rfl) rfl B.max qkS (qaa (qal qa4 (qat qaG rfl B.len qbb (qaa (pv 0) qae)) (pv 4)) (qaa qad qae)))))
  (qac (qbH PassesOwn.never rfl (qhM rfl B.range (qaa (qal qa4 (qal qa4 (qat qaG rfl B.len qbb (qaa (pv 0) qae)) (pv 4)) qad) (qaa (qbG qa0 qad) (qaa (qbG qa0 qad) qae)))) (qaA (i:=6) nd rfl li) (qac (qaj (i:=7) nd rfl li (qal qbU (qaz qap (pv 3) (qal qa3 (pv 6) (pv 4)) (λ_ _=>rfl)) (pv 2)))
  (qac (qhq (pv 7) (qhp (pv 5) (pv 6) qbV))
  (qai (qbC (qax qjF (pv 7) qad (nomark _)) (qai (qbH PassesOwn.never rfl (qdx rfl B.range (qaa (pv 4) qae)) (qaA (i:=8) nd rfl li) (qai (qhr (pv 3) (qal qa3 (pv 6) (pv 8)) qfl (qal qaH (pv 7) (qaz qap (pv 1) (pv 8) (λ_ _=>rfl))) qhs qbV)))) qaL)))))
  (qai (qaB (qeb (qaa (c0.pe hr ∅ rfl (qaa (pv 5) qae)) (qaa (c1.pe hr ∅ rfl (qaa (qc8 qf8 (pv 3) qec (qed (pv 4))) (qaa (pv 2) qae))) qae)))))))))
theorem qiX (F:Fun K "rest_modulo" "rest_modulo" qjM f fd) (B:Bl K mg) (c0:qch P w K mg base):FnOk P w K mg base CX0 4 f fd ["row", "divisor", "modulus"] (qaR K):=okm F (qiP ) λhr nd hu ht=>(qai (qaB (qaz qaM (c0.pe hr ∅ rfl (qaa (pv 0) (qaa (pv 1) (qaa (pv 2) qae)))) qad (λ_ _=>rfl))))
theorem qg8 (F:Fun K "euclid_modulo" "euclid_modulo" qhF f fd) (B:Bl K mg) (c0:qcz P w K mg base) (c1:qdt P w K mg base) (c2:qcO P w K mg base):FnOk P w K mg base CX0 5 f fd ["row", "other", "prime"] (qbf K):=okm F (qgY ) λhr nd hu ht=>(qac (qaj (i:=0) nd rfl li (c1.pe hr ∅ rfl (qaa (c0.pe hr ∅ rfl (qaa (pv 0) (qaa (pv 2) qae))) (qaa (pv 2) qae))))
  (qac (qaj (i:=1) nd rfl li (c1.pe hr ∅ rfl (qaa (c0.pe hr ∅ rfl (qaa (pv 1) (qaa (pv 2) qae))) (qaa (pv 2) qae))))
  (qac (qbx PassesOwn.never (qeW (pv 1) (λ_=>rfl)) (qac (qaj (i:=3) nd rfl li (c2.pe hr ∅ rfl (qaa (pv 0) (qaa (pv 1) (qaa (pv 2) qae)))))
  (qac (qaj (i:=0) nd rfl li (pv 1))
  (qai (qaj (i:=1) nd rfl li (c1.pe hr ∅ rfl (qaa (pv 3) (qaa (pv 2) qae))))))))
  (qai (qaB (pv 0))))))
theorem qis (F:Fun K "inverse_rest" "inverse_rest" qiG f fd) (B:Bl K mg) (c0:qcO P w K mg base) (c1:qcF P w K mg base) (c2:qcz P w K mg base) (c3:qch P w K mg base) (c4:qfb P w K mg base) (c5:qeF P w K mg base):FnOk P w K mg base CX0 5 f fd ["row", "divisor", "prime"] (qb3 K):=okm F (qik ) λhr nd hu ht=>(qac (qaj (i:=3) nd rfl li (pv 1))
  (qac (qaj (i:=4) nd rfl li (c0.pe hr ∅ rfl (qaa (pv 0) (qaa (pv 1) (qaa (pv 2) qae)))))
  (qac (qaj (i:=5) nd rfl li (qa5 qae))
  (qac (qaj (i:=6) nd rfl li (qa5 (qaa qad qae)))
  (qai (qbx PassesOwn.never (qhn qn5) (qac (qaj (i:=7) nd rfl (Or.inr rfl) (c1.pe hr ∅ rfl (qaa (qaz qap (pv 4) (qbG qa0 qad) (λ_ _=>rfl)) (qaa (pv 2) qae))))
  (qac (qaj (i:=4) nd rfl li (c2.pe hr ∅ rfl (qaa (qbT (N:=["whole", "factor"]) (capt:=[none,some 7]) rfl (BlkOk.of rfl rfl rfl rfl (wbi.mpr rfl) rfl rfl rfl) (qbq (pv 4)) (λ_ _ _ _=>(qaA (i:=0) (show (["whole", "factor"]:List PySem.Str).Nodup by decide +kernel) rfl li)) (λ_ _ _ _=>(qal qaH (pv 0) (pv 1)))) (qaa (pv 2) qae))))
  (qac (qaj (i:=6) nd rfl li (c2.pe hr ∅ rfl (qaa (qbT (N:=["whole", "factor"]) (capt:=[none,some 7]) rfl (BlkOk.of rfl rfl rfl rfl (wbi.mpr rfl) rfl rfl rfl) (qbq (pv 6)) (λ_ _ _ _=>(qaA (i:=0) (show (["whole", "factor"]:List PySem.Str).Nodup by decide +kernel) rfl li)) (λ_ _ _ _=>(qal qaH (pv 0) (pv 1)))) (qaa (pv 2) qae))))
  (qac (qbC (qax qc7 (qat qaG rfl B.len qbb (qaa (pv 4) qae)) qad (nomark _)) (qai (qaB (pv 6))) qaL)
  (qac (qaj (i:=8) nd rfl li (c3.pe hr ∅ rfl (qaa (pv 3) (qaa (pv 4) (qaa (pv 2) qae)))))
  (qac (qaj (i:=9) nd rfl li (c2.pe hr ∅ rfl (qaa (c5.pe hr ∅ rfl (qaa (pv 5) (qaa qad (qaa (c4.pe hr ∅ rfl (qaa (qaz qaM (pv 8) qad (λ_ _=>rfl)) (qaa (pv 6) qae))) (qaa qad (qaa qad qae)))))) (qaa (pv 2) qae))))
  (qac (qaj (i:=3) nd rfl li (pv 4))
  (qac (qaj (i:=4) nd rfl li (qaz qaM (pv 8) qad (λ_ _=>rfl)))
  (qac (qaj (i:=5) nd rfl li (pv 6))
  (qai (qaj (i:=6) nd rfl li (pv 9))))))))))))))))))
theorem qqq (F:Fun K "lifted" "lifted" qqJ f fd) (B:Bl K mg) (c0:qdt P w K mg base) (c1:qch P w K mg base) (c2:qeQ P w K mg base) (c3:qcO P w K mg base) (c4:qfb P w K mg base) (c5:qeF P w K mg base) (c6:qcz P w K mg base):FnOk P w K mg base CX0 6 f fd ["row", "factor", "prime", "floor"] (qfr K):=okm F (qqe ) λhr nd hu ht=>(qac (qaj (i:=4) nd rfl li (pv 2))
  (qac (qaj (i:=5) nd rfl li (qaz qaM (c1.pe hr ∅ rfl (qaa (c0.pe hr ∅ rfl (qaa (pv 0) (qaa (pv 2) qae))) (qaa (pv 1) (qaa (pv 2) qae)))) qad (λ_ _=>rfl)))
  (qac (qaj (i:=6) nd rfl li (c2.pe hr ∅ rfl (qaa (pv 5) (qaa (pv 1) (qaa (pv 2) qae)))))
  (qac (qbx PassesOwn.never (qax qtZ (pv 4) (pv 3) (nomark _)) (qac (qfg (i:=4) nd rfl li (pv 4) qha)
  (qac (qaj (i:=7) nd rfl li (c0.pe hr ∅ rfl (qaa (pv 0) (qaa (pv 4) qae))))
  (qac (qaj (i:=8) nd rfl li (c3.pe hr ∅ rfl (qaa (pv 7) (qaa (pv 1) (qaa (pv 4) qae)))))
  (qac (qaj (i:=9) nd rfl li (c3.pe hr ∅ rfl (qaa (c4.pe hr ∅ rfl (qaa (pv 8) (qaa (pv 6) qae))) (qaa (pv 1) (qaa (pv 4) qae)))))
  (qac (qaj (i:=1) nd rfl li (c6.pe hr ∅ rfl (qaa (c5.pe hr ∅ rfl (qaa (pv 1) (qaa qad (qaa (pv 9) (qaa (qbG qa0 qad) (qaa qad qae)))))) (qaa (pv 4) qae))))
  (qac (qaj (i:=5) nd rfl li (qaz qaM (c1.pe hr ∅ rfl (qaa (pv 7) (qaa (pv 1) (qaa (pv 4) qae)))) qad (λ_ _=>rfl)))
  (qac (qaj (i:=10) nd rfl li (c5.pe hr ∅ rfl (qaa (qa5 (qaa qad qae)) (qaa qad (qaa (c3.pe hr ∅ rfl (qaa (c4.pe hr ∅ rfl (qaa (pv 5) (qaa (pv 6) qae))) (qaa (pv 1) (qaa (pv 4) qae)))) (qaa qad (qaa qad qae)))))))
  (qai (qaj (i:=6) nd rfl li (c3.pe hr ∅ rfl (qaa (c4.pe hr ∅ rfl (qaa (pv 6) (qaa (pv 10) qae))) (qaa (pv 1) (qaa (pv 4) qae))))))))))))))
  (qai (qaB (qeb (qaa (pv 1) (qaa (pv 4) qae)))))))))
theorem qnX (F:Fun K "nearest" "nearest" qox f fd) (B:Bl K mg)  : FnOk P w K mg base CX0 1 f fd ["whole", "prime"] (qcb K):=okm F (qnP ) λhr nd hu ht=>(qac (qaj (i:=2) nd rfl li (qal qbU (pv 0) (pv 1)))
  (qai (qaB (qjD (qax qht (qal qaH qad (pv 2)) (pv 1) (nomark _)) (qal qa4 (pv 2) (pv 1)) (pv 2)))))
theorem qf5 (F:Fun K "common_by_prime" "common_by_prime" qf7 f fd) (B:Bl K mg) (c0:qbh P w K mg base) (c1:qey P w K mg base) (c2:qim P w K mg base) (c3:qb7 P w K mg base) (c4:qeE P w K mg base):FnOk P w K mg base CX0 6 f fd ["row", "other", "prime"] (qa8 K):=okm F (qfZ ) λhr nd hu ht=>(qac (qaj (i:=3) nd rfl (Or.inr rfl) (c0.pe hr ∅ rfl (qaa (qaz qap (pv 0) (qbG qa0 qad) (λ_ _=>rfl)) (qaa (qaz qap (pv 1) (qbG qa0 qad) (λ_ _=>rfl)) qae))))
  (qac (qbC (qax qc7 (qal qbU (pv 3) (pv 2)) qad (nomark _)) (qai (qaB qd7)) qaL)
  (qac (qaj (i:=4) nd rfl li (c1.pe hr ∅ rfl (qaa (pv 0) (qaa (pv 1) (qaa (pv 2) qae)))))
  (qac (qaj (i:=5) nd rfl li (c3.pe hr ∅ rfl (qaa (qbT (N:=["whole", "prime", "lead"]) (capt:=[none,some 2,some 3]) rfl (BlkOk.of rfl rfl rfl rfl (List.forall_mem_cons.mpr ⟨rfl,(wbi.mpr rfl)⟩) rfl rfl rfl) (qbq (pv 4)) (λ_ _ _ _=>(qaA (i:=0) (show (["whole", "prime", "lead"]:List PySem.Str).Nodup by decide +kernel) rfl li)) (λ_ _ _ _=>(c2.pe hr ∅ rfl (qaa (qal qaH (pv 2) (pv 0)) (qaa (pv 1) qae))))) qae)))
  (qac (qbC (PW.pt (qns (qax qoj (c4.pe hr ∅ rfl (qaa (pv 0) (qaa (pv 5) qae))) qd7 (nomark _)) (qkz (qax qoj (c4.pe hr ∅ rfl (qaa (pv 1) (qaa (pv 5) qae))) qd7 (nomark _))))) (qai (qaB qd7)) qaL)
  (qai (qaB (pv 5))))))))
theorem qkr (F:Fun K "row_common" "row_common" qkN f fd) (B:Bl K mg) (c0:qb7 P w K mg base) (c1:qkn P w K mg base) (c2:qdH P w K mg base) (c3:qex P w K mg base):FnOk P w K mg base CX0 7 f fd ["row", "other"] (qbO K):=okm F (qkd B.xEXPONENTS ) λhr nd hu ht=>(qac (qaj (i:=2) nd rfl li (c0.pe hr ∅ rfl (qaa (pv 0) qae)))
  (qac (qaj (i:=3) nd rfl li (c0.pe hr ∅ rfl (qaa (pv 1) qae)))
  (qac (qbC (PW.pt (qgw (qeW (pv 0) (λ_=>rfl)) (qeT (qeW (pv 1) (λ_=>rfl))))) (qai (qbH PassesOwn.never rfl (qkB (qso rfl B.EXPONENTS rfl)) (qaA (i:=4) nd rfl li) (qac (qaj (i:=5) nd rfl li (c2.pe hr ∅ rfl (qaa (pv 2) (qaa (pv 3) (qaa (qal qa4 (c1.pe hr ∅ rfl (qaa qad (qaa (pv 4) qae))) qad) qae)))))
  (qai (qbC (qax qok (pv 5) qd7 (nomark _)) (qai (qaB (pv 5))) qaL))))) qaL)
  (qai (qaB (qaz qap (c3.pe hr ∅ rfl (qaa (qa5 (qaa (pv 2) qae)) (qaa (qa5 (qaa (pv 3) qae)) qae))) qad (λ_ _=>rfl)))))))
theorem qks (F:Fun K "simple_row" "simple_row" qkO f fd) (B:Bl K mg) (c0:qb7 P w K mg base) (c1:qfc P w K mg base) (c2:qgN P w K mg base) (c3:qeE P w K mg base):FnOk P w K mg base CX0 8 f fd ["row"] (qbP K):=okm F (qkf ) λhr nd hu ht=>(qac (qaj (i:=1) nd rfl li (c0.pe hr ∅ rfl (qaa (pv 0) qae)))
  (qac (qaj (i:=2) nd rfl li (c3.pe hr ∅ rfl (qaa (pv 1) (qaa (c2.pe hr ∅ rfl (qaa (pv 1) (qaa (c1.pe hr ∅ rfl (qaa (pv 1) qae)) qae))) qae))))
  (qai (qaB (qjD (qax qht (qaz qap (pv 2) (qbG qa0 qad) (λ_ _=>rfl)) qad (nomark _)) (pv 2) (qbT (N:=["whole"]) (capt:=[none]) rfl (BlkOk.of rfl rfl rfl rfl (λ_ h=>nomatch h) rfl rfl rfl) (qbq (pv 2)) (λ_ _ _ _=>(qaA (i:=0) (show (["whole"]:List PySem.Str).Nodup by decide +kernel) rfl li)) (λ_ _ _ _=>(qbG qa0 (pv 0)))))))))
theorem qrv (F:Fun K "ratio" "ratio" qsw f fd) (B:Bl K mg) (c0:qbh P w K mg base):FnOk P w K mg base CX0 2 f fd ["top", "bottom"] (qcL K):=okm F (qq9 ) λhr nd hu ht=>(qac (qaj (i:=2) nd rfl li (c0.pe hr ∅ rfl (qaa (pv 0) (qaa (pv 1) qae))))
  (qac (qbC (qax qlP (pv 1) qad (nomark _)) (qai (qaj (i:=2) nd rfl li (qbG qa0 (pv 2)))) qaL)
  (qai (qaB (qeb (qaa (qal qc9 (pv 0) (pv 2)) (qaa (qal qc9 (pv 1) (pv 2)) qae)))))))
theorem qrw (F:Fun K "power" "power" qsx f fd) (B:Bl K mg) (c0:qkn P w K mg base):FnOk P w K mg base CX0 2 f fd ["one", "n"] (qhh K):=okm F (qrr ) λhr nd hu ht=>(qac (qaj (i:=2) nd rfl li (c0.pe hr ∅ rfl (qaa (qaz qaM (pv 0) qad (λ_ _=>rfl)) (qaa (qat qcj rfl B.abs qgz (qaa (pv 1) qae)) qae))))
  (qac (qaj (i:=3) nd rfl li (c0.pe hr ∅ rfl (qaa (qaz qaM (pv 0) qad (λ_ _=>rfl)) (qaa (qat qcj rfl B.abs qgz (qaa (pv 1) qae)) qae))))
  (qac (qbC (qax qt0 (pv 1) qad (nomark _)) (qai (qaB (qeb (qaa (pv 2) (qaa (pv 3) qae))))) qaL)
  (qac (qbC (qax qlP (pv 2) qad (nomark _)) (qai (qaB (qeb (qaa (qbG qa0 (pv 3)) (qaa (qbG qa0 (pv 2)) qae))))) qaL)
  (qai (qaB (qeb (qaa (pv 3) (qaa (pv 2) qae)))))))))
theorem qtG (F:Fun K "poly" "poly" qt8 f fd) (B:Bl K mg)  : FnOk P w K mg base CX0 1 f fd ["row"] (qga K):=okm F (qs3 ) λhr nd hu ht=>(qac (qaj (i:=1) nd rfl li (qat qaG rfl B.len qbb (qaa (pv 0) qae)))
  (qac (qbx PassesOwn.never (PW.pt (qgw (qax qht (pv 1) qad (nomark _)) (qeT (qax qc7 (qaz qaM (qaz qap (pv 0) (qal qa4 (pv 1) qad) (λ_ _=>rfl)) qad (λ_ _=>rfl)) qad (nomark _))))) (qai (qfg (i:=1) nd rfl li qad qhs)))
  (qai (qaB (qcV qkW rfl B.tuple qjQ (qaa (qc8 qf8 (pv 0) qec (qed (pv 1))) qae))))))
theorem qnY (F:Fun K "cleared" "cleared" qoy f fd) (B:Bl K mg) (c0:qbh P w K mg base):FnOk P w K mg base CX0 2 f fd ["P"] (qcc K):=okm F (qnN ) λhr nd hu ht=>(qac (qaj (i:=1) nd rfl (Or.inr rfl) qad)
  (qac (qbH PassesOwn.never rfl (qkB (pv 0)) (qaA (i:=2) nd rfl li) (qai (qfg (i:=1) nd rfl (Or.inr rfl) (qal qfm (qaz qaM (pv 2) qad (λ_ _=>rfl)) (c0.pe hr ∅ rfl (qaa (pv 1) (qaa (qaz qaM (pv 2) qad (λ_ _=>rfl)) qae)))) qha)))
  (qai (qaB (qeb (qaa (qbT (N:=["number", "bottom"]) (capt:=[none,some 1]) rfl (BlkOk.of rfl rfl rfl rfl (wbi.mpr rfl) rfl rfl rfl) (qkB (pv 0)) (λ_ _ _ _=>(qaA (i:=0) (show (["number", "bottom"]:List PySem.Str).Nodup by decide +kernel) rfl li)) (λ_ _ _ _=>(qal qaH (qaz qaM (pv 0) qad (λ_ _=>rfl)) (qal qfm (pv 1) (qaz qaM (pv 0) qad (λ_ _=>rfl)))))) (qaa (pv 1) qae)))))))
theorem qlF (F:Fun K "uncleared" "uncleared" qlW f fd) (B:Bl K mg) (c0:qmv P w K mg base) (c1:qsl P w K mg base):FnOk P w K mg base CX0 3 f fd ["row", "bottom"] (qbv K):=okm F (qlk ) λhr nd hu ht=>(qai (qaB (c1.pe hr ∅ rfl (qaa (qbT (N:=["whole", "bottom"]) (capt:=[none,some 1]) rfl (BlkOk.of rfl rfl rfl rfl (wbi.mpr rfl) rfl rfl rfl) (qbq (pv 0)) (λ_ _ _ _=>(qaA (i:=0) (show (["whole", "bottom"]:List PySem.Str).Nodup by decide +kernel) rfl li)) (λ_ _ _ _=>(c0.pe hr ∅ rfl (qaa (pv 0) (qaa (pv 1) qae))))) qae))))
theorem qnZ (F:Fun K "p_moved" "p_moved" qoz f fd) (B:Bl K mg) (c0:qin P w K mg base) (c1:qil P w K mg base) (c2:qio P w K mg base):FnOk P w K mg base CX0 4 f fd ["P", "c"] (qcS K):=okm F (qnV ) λhr nd hu ht=>(qac (qaj (i:=2) nd rfl li (c0.pe hr ∅ rfl (qaa (pv 0) qae)))
  (qac (qaj (i:=3) nd rfl (Or.inr rfl) (qa5 (qaa qad qae)))
  (qac (qbH PassesOwn.never rfl (qkB (pv 0)) (qaA (i:=4) nd rfl li) (qai (qcU (qhy PySem.F.plainAttrs_list PySem.F.slot_list_append PySem.F.type_list_append qb2 (pv 3) (qaa (qal qaH (qaz qap (pv 3) (qbG qa0 qad) (λ_ _=>rfl)) (qaz qaM (pv 1) qad (λ_ _=>rfl))) qae)))))
  (qac (qaj (i:=5) nd rfl (Or.inr rfl) (qal qa4 (qat qkU rfl B.len qbb (qaa (pv 0) qae)) qad))
  (qac (qjS (i:=6) (N:=["place", "whole", "scales", "last"]) (capt:=[none,none,some 3,some 5]) nd rfl li rfl (BlkOk.of rfl rfl rfl rfl (List.forall_mem_cons.mpr ⟨rfl,(wbi.mpr rfl)⟩) rfl rfl rfl) (qdL rfl B.enumerate (qaa (qaz qaM (pv 2) qad (λ_ _=>rfl)) qae)) (λ_ _ _ _=>(qef rfl (qbn (qaA (i:=0) (show (["place", "whole", "scales", "last"]:List PySem.Str).Nodup by decide +kernel) rfl li) (qbn (qaA (i:=1) (show (["place", "whole", "scales", "last"]:List PySem.Str).Nodup by decide +kernel) rfl li) qd9)))) (λ_ _ _ _=>(qal qaH (pv 1) (qaz qap (pv 2) (qal qa4 (pv 3) (pv 0)) (λ_ _=>rfl)))))
  (qac (qaj (i:=7) nd rfl li (c1.pe hr ∅ rfl (qaa (pv 6) (qaa (qaz qaM (pv 1) qad (λ_ _=>rfl)) qae))))
  (qai (qaB (c2.pe hr ∅ rfl (qaa (qbT (N:=["place", "whole", "scales"]) (capt:=[none,none,some 3]) rfl (BlkOk.of rfl rfl rfl rfl (wbi.mpr rfl) rfl rfl rfl) (qdL rfl B.enumerate (qaa (pv 7) qae)) (λ_ _ _ _=>(qef rfl (qbn (qaA (i:=0) (show (["place", "whole", "scales"]:List PySem.Str).Nodup by decide +kernel) rfl li) (qbn (qaA (i:=1) (show (["place", "whole", "scales"]:List PySem.Str).Nodup by decide +kernel) rfl li) qd9)))) (λ_ _ _ _=>(qal qaH (pv 1) (qaz qap (pv 2) (pv 0) (λ_ _=>rfl))))) (qaa (qal qaH (qaz qaM (pv 2) qad (λ_ _=>rfl)) (qaz qap (pv 3) (pv 5) (λ_ _=>rfl))) qae)))))))))))
theorem qgs (F:Fun K "rational_roots" "rational_roots" qgT f fd) (B:Bl K mg) (c0:qin P w K mg base) (c1:qgO P w K mg base) (c2:qez P w K mg base) (c3:qf2 P w K mg base) (c4:qew P w K mg base) (c5:qnn P w K mg base) (c6:qim P w K mg base) (c7:qmv P w K mg base) (c8:qeE P w K mg base):FnOk P w K mg base CX0 9 f fd ["P"] (qa2 K):=okm F (qgo ) λhr nd hu ht=>(qac (qaj (i:=1) nd rfl (Or.inr rfl) (c1.pe hr ∅ rfl (qaa (qaz qaM (c0.pe hr ∅ rfl (qaa (pv 0) qae)) qad (λ_ _=>rfl)) qae)))
  (qac (qaj (i:=2) nd rfl li qad)
  (qac (qaj (i:=3) nd rfl li (c2.pe hr ∅ rfl (qaa (pv 1) (qaa (pv 2) qae))))
  (qac (qbx PassesOwn.never (qax qoj (pv 3) qd7 (nomark _)) (qac (qaj (i:=2) nd rfl li (c3.pe hr ∅ rfl (qaa (pv 2) qae)))
  (qai (qaj (i:=3) nd rfl li (c2.pe hr ∅ rfl (qaa (pv 1) (qaa (pv 2) qae)))))))
  (qac (qaj (i:=4) nd rfl li (qal op_shl (qaz qap (pv 1) (qbG qa0 qad) (λ_ _=>rfl)) (qal qa3 (qat (qfj rfl) rfl B.max qkS (qaa (c4.pe hr ∅ rfl (qaa (pv 1) qae)) (qaa qad qae))) qad)))
  (qac (qaj (i:=5) nd rfl li (qa5 qae))
  (qac (qbH PassesOwn.never rfl (qbq (pv 3)) (qaA (i:=6) nd rfl li) (qac (qaj (i:=7) nd rfl li (c5.pe hr ∅ rfl (qaa (pv 1) (qaa (qa5 (qaa (qbG qa0 (pv 6)) (qaa qad qae))) (qaa (pv 2) (qaa (pv 4) qae))))))
  (qac (qaj (i:=8) nd rfl li (c6.pe hr ∅ rfl (qaa (qal qaH (qbG qa0 (qaz qap (qaz qaM (pv 7) qad (λ_ _=>rfl)) qad (λ_ _=>rfl))) (qaz qap (pv 1) (qbG qa0 qad) (λ_ _=>rfl))) (qaa (qaz qaM (pv 7) qad (λ_ _=>rfl)) qae))))
  (qac (qaj (i:=9) nd rfl li (c7.pe hr ∅ rfl (qaa (pv 8) (qaa (qaz qap (pv 1) (qbG qa0 qad) (λ_ _=>rfl)) qae))))
  (qai (qbC (qax qok (c8.pe hr ∅ rfl (qaa (pv 1) (qaa (qa5 (qaa (qbG qa0 (qaz qaM (pv 9) qad (λ_ _=>rfl))) (qaa (qaz qaM (pv 9) qad (λ_ _=>rfl)) qae))) qae))) qd7 (nomark _)) (qai (qcU (qhy PySem.F.plainAttrs_list PySem.F.slot_list_append PySem.F.type_list_append qb2 (pv 5) (qaa (pv 8) qae)))) qaL))))))
  (qai (qaB (qbT (N:=["whole", "row"]) (capt:=[none,some 1]) rfl (BlkOk.of rfl rfl rfl rfl (wbi.mpr rfl) rfl rfl rfl) (qbq (qat qk4 rfl B.sorted qo8 (qaa (pv 5) qae))) (λ_ _ _ _=>(qaA (i:=0) (show (["whole", "row"]:List PySem.Str).Nodup by decide +kernel) rfl li)) (λ_ _ _ _=>(c7.pe hr ∅ rfl (qaa (pv 0) (qaa (qaz qap (pv 1) (qbG qa0 qad) (λ_ _=>rfl)) qae))))))))))))))
theorem qg9 (F:Fun K "starts_modulo" "starts_modulo" qhG f fd) (B:Bl K mg) (c0:qds P w K mg base) (c1:qfc P w K mg base) (c2:qev P w K mg base):FnOk P w K mg base CX0 2 f fd ["row", "prime"] (qbg K):=okm F (qg2 ) λhr nd hu ht=>(qac (qbC (qax qc7 (qal qbU (qaz qap (pv 0) (qbG qa0 qad) (λ_ _=>rfl)) (pv 1)) qad (nomark _)) (qai (qaB qd7)) qaL)
  (qac (qaj (i:=2) nd rfl li (c0.pe hr ∅ rfl (qaa (pv 0) (qaa (pv 1) qae))))
  (qac (qaj (i:=3) nd rfl li (c1.pe hr ∅ rfl (qaa (pv 2) qae)))
  (qac (qaj (i:=4) nd rfl li (qa5 qae))
  (qac (qbH PassesOwn.never rfl (qdx rfl B.range (qaa (pv 1) qae)) (qaA (i:=5) nd rfl li) (qai (qbC (qax qc7 (c2.pe hr ∅ rfl (qaa (pv 2) (qaa (pv 5) (qaa (pv 1) qae)))) qad (nomark _)) (qac (qbC (qax qc7 (c2.pe hr ∅ rfl (qaa (pv 3) (qaa (pv 5) (qaa (pv 1) qae)))) qad (nomark _)) (qai (qaB qd7)) qaL)
  (qai (qcU (qhy PySem.F.plainAttrs_list PySem.F.slot_list_append PySem.F.type_list_append qb2 (pv 4) (qaa (pv 5) qae))))) qaL)))
  (qai (qaB (pv 4))))))))
theorem qqr (F:Fun K "_law_hand" "_law_hand" qqK f fd) (B:Bl K mg)  : FnOk P w K mg base CX0 1 f fd ["_law_script"] (qdD K):=okm F (qpX ) λhr nd hu ht=>(qac (qaj (i:=1) nd rfl li (qat (qk3 rfl) rfl B.sum qrP (qaa (qc8 qk2 (pv 0) qec (qed qad)) qae)))
  (qai (qaB (qa5 (qaa (qcV qeC rfl B.list qhI (qaa (qc8 qk2 (pv 0) qec (qed qad)) qae)) (qaa qad (qaa (qal qjR (qat qcj rfl B.abs qgz (qaa (pv 1) qae)) qad) (qaa (qal qbU (pv 1) qad) qae))))))))
theorem qqs (F:Fun K "_law_draw" "_law_draw" qqL f fd) (B:Bl K mg)  : FnOk P w K mg base CX0 1 f fd ["_law_hand_here", "_law_many"] (qaK K):=okm F (qpY ) λhr nd hu ht=>(qac (qbC (PW.pt (qgw (qax qc7 (qaz qap (pv 0) qad (λ_ _=>rfl)) qad (nomark _)) (qgw (qax qc7 (qaz qap (pv 0) qad (λ_ _=>rfl)) qad (nomark _)) (qeT (qax qlP (qal qa3 (qaz qap (pv 0) qad (λ_ _=>rfl)) qad) (qat qaG rfl B.len qbb (qaa (qaz qap (pv 0) qad (λ_ _=>rfl)) qae)) (nomark _)))))) (qac (qhq (qal qa3 (qaz qap (pv 0) qad (λ_ _=>rfl)) qad) (qhp (pv 0) qad qbV))
  (qai (qhq (qat qcj rfl B.abs qgz (qaa (qaz qap (qaz qap (pv 0) qad (λ_ _=>rfl)) (qaz qap (pv 0) qad (λ_ _=>rfl)) (λ_ _=>rfl)) qae)) (qhp (pv 0) qad qbV)))) qaL)
  (qac (qbC (PW.pt (qgw (qax qc7 (qaz qap (pv 0) qad (λ_ _=>rfl)) qad (nomark _)) (qeT (qax qht (qaz qap (pv 0) qad (λ_ _=>rfl)) qad (nomark _))))) (qac (qaj (i:=2) nd rfl li (qal qbU (qaz qap (pv 0) qad (λ_ _=>rfl)) (pv 1)))
  (qac (qhq (qal qjR (qaz qap (pv 0) qad (λ_ _=>rfl)) (pv 1)) (qhp (pv 0) qad qbV))
  (qai (qaB (pv 2))))) qaL)
  (qac (qhq (qal qa3 (qaz qap (pv 0) qad (λ_ _=>rfl)) qad) (qhp (pv 0) qad qbV))
  (qac (qaj (i:=3) nd rfl li (qat (qk3 rfl) rfl B.sum qrP (qaa (qc8 qf8 (qc8 qf8 (qaz qap (pv 0) qad (λ_ _=>rfl)) (qed (qal qbU (qaz qap (pv 0) qad (λ_ _=>rfl)) (qat (qfj rfl) rfl B.max qkS (qaa qad (qaa (qat qaG rfl B.len qbb (qaa (qaz qap (pv 0) qad (λ_ _=>rfl)) qae)) qae))))) qec) qec (qed qad)) qae)))
  (qac (qaj (i:=4) nd rfl li (qal qbU (qal qaH (qal qa3 (qal qa3 (qal qbU (pv 3) qad) (qal qaH qad (qaz qap (pv 0) qad (λ_ _=>rfl)))) qad) (qal qa3 qad (qal qaH qad (qaz qap (pv 0) qad (λ_ _=>rfl))))) qad))
  (qac (qaj (i:=5) nd rfl li (qal qbU (qal qa3 (qal qaH (pv 4) (qal qa3 (qal qbU (pv 4) qad) (qaz qap (pv 0) qad (λ_ _=>rfl)))) (qal qaH qad (qaz qap (pv 0) qad (λ_ _=>rfl)))) qad))
  (qai (qaB (qal qbU (qal qjR (pv 5) qad) (pv 1))))))))))
theorem qmz (F:Fun K "_law_lowest" "_law_lowest" qnA f fd) (B:Bl K mg)  : FnOk P w K mg base CX0 1 f fd ["_law_top", "_law_bottom"] (qbk K):=okm F (qmi ) λhr nd hu ht=>(qac (qrD (i:=2) (j:=3) rfl nd rfl rfl ∅ rfl rfl (qaa (qat qcj rfl B.abs qgz (qaa (pv 0) qae)) (qaa (qat qcj rfl B.abs qgz (qaa (pv 1) qae)) qae)) rfl)
  (qac (qbx PassesOwn.never (qax qht (pv 3) qad (nomark _)) (qai (qrD (i:=2) (j:=3) rfl nd rfl rfl ∅ rfl rfl (qaa (pv 3) (qaa (qal qbU (pv 2) (pv 3)) qae)) rfl)))
  (qac (qbC (qax qlP (pv 1) qad (nomark _)) (qai (qaj (i:=2) nd rfl li (qbG qa0 (pv 2)))) qaL)
  (qai (qaB (qeb (qaa (qal qc9 (pv 0) (pv 2)) (qaa (qal qc9 (pv 1) (pv 2)) qae))))))))
theorem qiY (F:Fun K "_law_row_times" "_law_row_times" qjN f fd) (B:Bl K mg)  : FnOk P w K mg base CX0 1 f fd ["_law_one", "_law_other"] (qbl K):=okm F (qiR ) λhr nd hu ht=>(qac (qaj (i:=2) nd rfl li (qal qkK (qa5 (qaa qad qae)) (qal qa4 (qal qa3 (qat qaG rfl B.len qbb (qaa (pv 0) qae)) (qat qaG rfl B.len qbb (qaa (pv 1) qae))) qad)))
  (qac (qbH PassesOwn.never rfl (qdL rfl B.enumerate (qaa (pv 0) qae)) (qef rfl (qbn (qaA (i:=3) nd rfl li) (qbn (qaA (i:=4) nd rfl li) qd9))) (qai (qbH PassesOwn.never rfl (qdL rfl B.enumerate (qaa (pv 1) qae)) (qef rfl (qbn (qaA (i:=5) nd rfl li) (qbn (qaA (i:=6) nd rfl li) qd9))) (qai (qhq (qal qa3 (qaz qap (pv 2) (qal qa3 (pv 3) (pv 5)) (λ_ _=>rfl)) (qal qaH (pv 4) (pv 6))) (qhp (pv 2) (qal qa3 (pv 3) (pv 5)) qbV))))))
  (qai (qaB (pv 2)))))
theorem qlG (F:Fun K "_law_poly_of" "_law_poly_of" qlX f fd) (B:Bl K mg) (c0:qcT P w K mg base):FnOk P w K mg base CX0 2 f fd ["_law_row", "_law_scale_here"] (qbJ K):=okm F (qlo ) λhr nd hu ht=>(qai (qaB (qcV qkW rfl B.tuple qjQ (qaa (qbT (N:=["_law_one", "_law_scale_here"]) (capt:=[none,some 1]) rfl (BlkOk.of rfl rfl rfl rfl (wbi.mpr rfl) rfl rfl rfl) (qbq (pv 0)) (λ_ _ _ _=>(qaA (i:=0) (show (["_law_one", "_law_scale_here"]:List PySem.Str).Nodup by decide +kernel) rfl li)) (λ_ _ _ _=>(c0.pe hr ∅ rfl (qaa (qal qaH (pv 0) (qaz qaM (pv 1) qad (λ_ _=>rfl))) (qaa (qaz qaM (pv 1) qad (λ_ _=>rfl)) qae))))) qae))))
theorem qqt (F:Fun K "_law_root" "_law_root" qqM f fd) (B:Bl K mg) (c0:qdn P w K mg base) (c1:qcT P w K mg base):FnOk P w K mg base CX0 2 f fd ["_law_hand_here", "_law_great"] (qdE K):=okm F (qqh ) λhr nd hu ht=>(qac (qaj (i:=2) nd rfl li (qal qa4 (c0.pe hr ∅ rfl (qaa (pv 0) (qaa qad qae))) qad))
  (qac (qaj (i:=3) nd rfl li (qal qa3 qad (c0.pe hr ∅ rfl (qaa (pv 0) (qaa qad qae)))))
  (qac (qbC (qhn (pv 1)) (qac (qaj (i:=2) nd rfl li (qal qa3 (qal qa4 (c0.pe hr ∅ rfl (qaa (pv 0) (qaa (qal qa4 (qal qaH qad (qal qcX qad qad)) qad) qae))) (qal qcX qad qad)) qad))
  (qai (qaj (i:=3) nd rfl li (qal qa3 qad (c0.pe hr ∅ rfl (qaa (pv 0) (qaa (qal qcX qad qad) qae))))))) qaL)
  (qai (qaB (c1.pe hr ∅ rfl (qaa (pv 2) (qaa (pv 3) qae))))))))
theorem qkt (F:Fun K "_law_rootless" "_law_rootless" qkP f fd) (B:Bl K mg) (c0:qdn P w K mg base):FnOk P w K mg base CX0 2 f fd ["_law_hand_here", "_law_size"] (qcM K):=okm F (qkm ) λhr nd hu ht=>(qac (qaj (i:=2) nd rfl li (qa5 (qaa (qal qaH qad (qal qa4 (qal qaH qad (c0.pe hr ∅ rfl (qaa (pv 0) (qaa qad qae)))) qad)) qae)))
  (qac (qbH PassesOwn.never rfl (qdx rfl B.range (qaa (qal qa4 (pv 1) qad) qae)) (qaA (i:=3) nd rfl li) (qai (qcU (qhy PySem.F.plainAttrs_list PySem.F.slot_list_append PySem.F.type_list_append qb2 (pv 2) (qaa (qal qaH qad (qal qa4 (c0.pe hr ∅ rfl (qaa (pv 0) (qaa qad qae))) qad)) qae)))))
  (qai (qaB (qal qt6 (pv 2) (qa5 (qaa (qal qa3 qad (qal qaH qad (c0.pe hr ∅ rfl (qaa (pv 0) (qaa qad qae))))) qae)))))))
theorem qn0 (F:Fun K "_law_scale" "_law_scale" qoA f fd) (B:Bl K mg) (c0:qdn P w K mg base) (c1:qcT P w K mg base):FnOk P w K mg base CX0 2 f fd ["_law_hand_here"] (qcR K):=okm F (qnQ ) λhr nd hu ht=>(qai (qaB (c1.pe hr ∅ rfl (qaa (qal qaH (qaz qap (qa5 (qaa qad (qaa (qbG qa0 qad) qae))) (c0.pe hr ∅ rfl (qaa (pv 0) (qaa qad qae))) (λ_ _=>rfl)) (qal qa3 qad (c0.pe hr ∅ rfl (qaa (pv 0) (qaa qad qae))))) (qaa (qal qa3 qad (c0.pe hr ∅ rfl (qaa (pv 0) (qaa qad qae)))) qae)))))
theorem qmA (F:Fun K "_law_rising" "_law_rising" qnB f fd) (B:Bl K mg)  : FnOk P w K mg base CX0 1 f fd ["_law_numbers"] (qcd K):=okm F (qmt ) λhr nd hu ht=>(qac (qaj (i:=1) nd rfl li (qa5 qae))
  (qac (qbH PassesOwn.never rfl (qbq (pv 0)) (qaA (i:=2) nd rfl li) (qac (qaj (i:=3) nd rfl li qad)
  (qac (qbx PassesOwn.never (PW.pt (qgw (qax qlP (pv 3) (qat qaG rfl B.len qbb (qaa (pv 1) qae)) (nomark _)) (qeT (qax qlP (qal qaH (qaz qaM (qaz qap (pv 1) (pv 3) (λ_ _=>rfl)) qad (λ_ _=>rfl)) (qaz qaM (pv 2) qad (λ_ _=>rfl))) (qal qaH (qaz qaM (pv 2) qad (λ_ _=>rfl)) (qaz qaM (qaz qap (pv 1) (pv 3) (λ_ _=>rfl)) qad (λ_ _=>rfl))) (nomark _))))) (qai (qaj (i:=3) nd rfl li (qal qa3 (pv 3) qad))))
  (qai (qbC (PW.pt (qns (qax qc7 (pv 3) (qat qaG rfl B.len qbb (qaa (pv 1) qae)) (nomark _)) (qkz (qax (qrU ht) (qaz qap (pv 1) (pv 3) (λ_ _=>rfl)) (pv 2) (nomark _))))) (qai (qcU (qhy PySem.F.plainAttrs_list PySem.F.slot_list_insert PySem.F.type_list_insert qo6 (pv 1) (qaa (pv 3) (qaa (pv 2) qae))))) qaL)))))
  (qai (qaB (pv 1)))))
theorem qiZ (F:Fun K "_law_is_number" "_law_is_number" qjO f fd) (B:Bl K mg)  : FnOk P w K mg base CX0 1 f fd ["_law_found"] (qcg K):=okm F (qiT ) λhr nd hu ht=>(qac (qbC (PW.pt (qns (qho (qhn (qat qhc rfl B.isinstance qcJ (qaa (pv 0) (qaa (qjC rfl B.tuple qjQ rfl) qae))))) (qkz (qax qjF (qat qkU rfl B.len qbb (qaa (pv 0) qae)) qad (nomark _))))) (qai (qaB qn5)) qaL)
  (qai (qaB (qat (qkY rfl) rfl B.all qrO (qaa (qbT (N:=["_law_part"]) (capt:=[none]) rfl (BlkOk.of rfl rfl rfl rfl (λ_ h=>nomatch h) rfl rfl rfl) (qkB (pv 0)) (λ_ _ _ _=>(qaA (i:=0) (show (["_law_part"]:List PySem.Str).Nodup by decide +kernel) rfl li)) (λ_ _ _ _=>(qrC (qat qhc rfl B.isinstance qcJ (qaa (pv 0) (qaa (qjC rfl B.int qrQ rfl) qae))) (qrB (qtW (qat qhc rfl B.isinstance qcJ (qaa (pv 0) (qaa (qjC rfl B.bool qsD rfl) qae)))))))) qae)))))
theorem qrx (F:Fun K "_law_far" "_law_far" qsy f fd) (B:Bl K mg) (c0:qdn P w K mg base):FnOk P w K mg base CX0 2 f fd ["_law_hand_here", "_law_most"] (qfs K):=okm F (qrs ) λhr nd hu ht=>(qai (qaB (qal qbU (qal qa3 (qal qaH (c0.pe hr ∅ rfl (qaa (pv 0) (qaa (qal qcX qad qad) qae))) (qal qcX qad qad)) (c0.pe hr ∅ rfl (qaa (pv 0) (qaa (qal qcX qad qad) qae)))) (pv 1))))
theorem qku (F:Fun K "_law_far_root" "_law_far_root" qkQ f fd) (B:Bl K mg) (c0:qdn P w K mg base) (c1:qqo P w K mg base) (c2:qcT P w K mg base):FnOk P w K mg base CX0 3 f fd ["_law_hand_here", "_law_most"] (qb4 K):=okm F (qkl ) λhr nd hu ht=>(qac (qaj (i:=2) nd rfl li (qaz qap (qa5 (qaa qad (qaa (qbG qa0 qad) qae))) (c0.pe hr ∅ rfl (qaa (pv 0) (qaa qad qae))) (λ_ _=>rfl)))
  (qai (qaB (c2.pe hr ∅ rfl (qaa (qal qaH (pv 2) (c1.pe hr ∅ rfl (qaa (pv 0) (qaa (pv 1) qae)))) (qaa (qal qa3 qad (c1.pe hr ∅ rfl (qaa (pv 0) (qaa (qal qa4 (pv 1) qad) qae)))) qae))))))
theorem qqu (F:Fun K "_law_wide" "_law_wide" qqN f fd) (B:Bl K mg) (c0:qdn P w K mg base) (c1:qgQ P w K mg base) (c2:qko P w K mg base) (c3:qdT P w K mg base) (c4:qfd P w K mg base) (c5:qqn P w K mg base) (c6:qcT P w K mg base) (c7:qlA P w K mg base) (c8:qcG P w K mg base) (c9:qgp P w K mg base):FnOk P w K mg base CX0 10 f fd ["_law_hand_here"] (qft K):=okm F (qql ) λhr nd hu ht=>(qac (qaj (i:=1) nd rfl li (qaz qap (qa5 (qaa (qal qcX qad qad) (qaa (qal qcX qad qad) (qaa (qal qaH qad (qal qcX qad qad)) qae)))) (c0.pe hr ∅ rfl (qaa (pv 0) (qaa qad qae))) (λ_ _=>rfl)))
  (qac (qaj (i:=2) nd rfl li (qa5 (qaa (c1.pe hr ∅ rfl (qaa (pv 0) (qaa (pv 1) qae))) qae)))
  (qac (qbC (qax qc7 (pv 1) (qal qcX qad qad) (nomark _)) (qai (qcU (qhy PySem.F.plainAttrs_list PySem.F.slot_list_append PySem.F.type_list_append qb2 (pv 2) (qaa (c2.pe hr ∅ rfl (qaa (pv 0) (qaa qn5 qae))) qae)))) qaL)
  (qac (qbC (qax qc7 (pv 1) (qal qaH qad (qal qcX qad qad)) (nomark _)) (qai (qcU (qhy PySem.F.plainAttrs_list PySem.F.slot_list_append PySem.F.type_list_append qb2 (pv 2) (qaa (c1.pe hr ∅ rfl (qaa (pv 0) (qaa (pv 1) qae))) qae)))) qaL)
  (qac (qaj (i:=3) nd rfl li (qa5 (qaa qad qae)))
  (qac (qbH PassesOwn.never rfl (qbq (pv 2)) (qaA (i:=4) nd rfl li) (qai (qaj (i:=3) nd rfl li (c3.pe hr ∅ rfl (qaa (pv 3) (qaa (qa5 (qaa (qbG qa0 (qaz qaM (pv 4) qad (λ_ _=>rfl))) (qaa (qaz qaM (pv 4) qad (λ_ _=>rfl)) qae))) qae))))))
  (qac (qaj (i:=5) nd rfl li (c4.pe hr ∅ rfl (qaa (pv 3) (qaa (qeb (qaa (qaz qap (qa5 (qaa qad (qaa (qbG qa0 qad) qae))) (c0.pe hr ∅ rfl (qaa (pv 0) (qaa qad qae))) (λ_ _=>rfl)) (qaa qad qae))) qae))))
  (qac (qbC (qax qc7 (c0.pe hr ∅ rfl (qaa (pv 0) (qaa qad qae))) qad (nomark _)) (qac (qaj (i:=6) nd rfl (Or.inr rfl) (c6.pe hr ∅ rfl (qaa (qaz qaM (c5.pe hr ∅ rfl (qaa (qeb (qaa qad (qaa qad qae))) (qaa qad qae))) qad (λ_ _=>rfl)) (qaa qad qae))))
  (qac (qaj (i:=5) nd rfl li (c7.pe hr ∅ rfl (qaa (pv 5) (qaa (pv 6) qae))))
  (qai (qjS (i:=2) (N:=["_law_root_here", "_law_c"]) (capt:=[none,some 6]) nd rfl li rfl (BlkOk.of rfl rfl rfl rfl (wbi.mpr rfl) rfl rfl rfl) (qbq (pv 2)) (λ_ _ _ _=>(qaA (i:=0) (show (["_law_root_here", "_law_c"]:List PySem.Str).Nodup by decide +kernel) rfl li)) (λ_ _ _ _=>(c6.pe hr ∅ rfl (qaa (qal qa4 (qal qaH (qaz qaM (pv 0) qad (λ_ _=>rfl)) (qaz qaM (pv 1) qad (λ_ _=>rfl))) (qal qaH (qaz qaM (pv 1) qad (λ_ _=>rfl)) (qaz qaM (pv 0) qad (λ_ _=>rfl)))) (qaa (qal qaH (qaz qaM (pv 0) qad (λ_ _=>rfl)) (qaz qaM (pv 1) qad (λ_ _=>rfl))) qae)))))))) qaL)
  (qai (qaB (qhu (qrT ht) (c8.pe hr ∅ rfl (qaa (pv 5) qae)) (c9.pe hr ∅ rfl (qaa (pv 2) qae)) (nomark _))))))))))))
theorem qu9 (F:Fun K "law" "law" qoB f fd) (B:Bl K mg) (c0:qno P w K mg base) (c1:qdn P w K mg base) (c2:qnp P w K mg base) (c3:qgP P w K mg base) (c4:qko P w K mg base) (c5:qdT P w K mg base) (c6:qlB P w K mg base) (c7:qfd P w K mg base) (c8:qgp P w K mg base) (c9:qcG P w K mg base) (c10:qf4 P w K mg base):FnOk P w K mg base CX0 11 f fd ["_law_script"] (qk9 K):=okm F (qu8 ) λhr nd hu ht=>(qac (qaj (i:=1) nd rfl li (c0.pe hr ∅ rfl (qaa (pv 0) qae)))
  (qac (qbC (qax qc7 (c1.pe hr ∅ rfl (qaa (pv 1) (qaa qad qae))) qad (nomark _)) (qai (qaB (c2.pe hr ∅ rfl (qaa (pv 1) qae)))) qaL)
  (qac (qaj (i:=2) nd rfl li (qa5 (qaa qad qae)))
  (qac (qaj (i:=3) nd rfl li (qa5 qae))
  (qac (qaj (i:=4) nd rfl li (qhu qc7 (c1.pe hr ∅ rfl (qaa (pv 1) (qaa qad qae))) qad (nomark _)))
  (qac (qaj (i:=5) nd rfl li (qaz qap (qa5 (qaa qad (qaa qad (qaa qad (qaa qad qae))))) (c1.pe hr ∅ rfl (qaa (pv 1) (qaa qad qae))) (λ_ _=>rfl)))
  (qac (qbC (qax qht (pv 5) qad (nomark _)) (qai (qaj (i:=2) nd rfl li (c3.pe hr ∅ rfl (qaa (pv 1) (qaa (pv 5) qae))))) qaL)
  (qac (qbH PassesOwn.never rfl (qdx rfl B.range (qaa (c1.pe hr ∅ rfl (qaa (pv 1) (qaa (qaz qap (qa5 (qaa qad (qaa qad qae))) (qcV qoM rfl B.int qrQ (qaa (pv 4) qae)) (λ_ _=>rfl)) qae))) qae)) (qaA (i:=6) nd rfl li) (qac (qaj (i:=7) nd rfl li (c4.pe hr ∅ rfl (qaa (pv 1) (qaa (qrC (pv 4) (qrB (qhu qc7 (pv 6) qad (nomark _)))) qae))))
  (qac (qbC (PW.pt (qgw (qax qht (pv 6) qad (nomark _)) (qeT (qax qc7 (c1.pe hr ∅ rfl (qaa (pv 1) (qaa qad qae))) qad (nomark _))))) (qai (qaj (i:=7) nd rfl li (qaz qap (pv 3) (qbG qa0 qad) (λ_ _=>rfl)))) qaL)
  (qai (qbC (qax qlP (qat qaG rfl B.len qbb (qaa (pv 2) qae)) qad (nomark _)) (qac (qcU (qhy PySem.F.plainAttrs_list PySem.F.slot_list_append PySem.F.type_list_append qb2 (pv 3) (qaa (pv 7) qae)))
  (qai (qaj (i:=2) nd rfl li (c5.pe hr ∅ rfl (qaa (pv 2) (qaa (qa5 (qaa (qbG qa0 (qaz qaM (pv 7) qad (λ_ _=>rfl))) (qaa (qaz qaM (pv 7) qad (λ_ _=>rfl)) qae))) qae)))))) qaL)))))
  (qac (qaj (i:=8) nd rfl li (c7.pe hr ∅ rfl (qaa (pv 2) (qaa (c6.pe hr ∅ rfl (qaa (pv 1) qae)) qae))))
  (qac (qaj (i:=9) nd rfl li (c8.pe hr ∅ rfl (qaa (pv 3) qae)))
  (qac (qaj (i:=10) nd rfl li (c9.pe hr ∅ rfl (qaa (pv 8) qae)))
  (qac (qbC (PW.pt (qns (qho (qhn (qat qhc rfl B.isinstance qcJ (qaa (pv 10) (qaa (qjC rfl B.list qhI rfl) qae))))) (qns (qho (qhn (qat (qkY rfl) rfl B.all qrO (qaa (qbT (N:=["_law_c"]) (capt:=[none]) rfl (BlkOk.of rfl rfl rfl rfl (λ_ h=>nomatch h) rfl rfl rfl) (qbq (pv 10)) (λ_ _ _ _=>(qaA (i:=0) (show (["_law_c"]:List PySem.Str).Nodup by decide +kernel) rfl li)) (λ_ _ _ _=>(c10.pe hr ∅ rfl (qaa (pv 0) qae)))) qae)))) (qkz (qax (qrU ht) (pv 10) (pv 9) (nomark _)))))) (qai (qaB qn5)) qaL)
  (qac (qcU (qhy PySem.F.plainAttrs_list PySem.F.slot_list_append PySem.F.type_list_append qb2 (pv 10) (qaa (qeb (qaa qad (qaa qad qae))) qae)))
  (qai (qaB (qhu (qrT ht) (c9.pe hr ∅ rfl (qaa (pv 8) qae)) (pv 9) (nomark _)))))))))))))))))
end
end Bs
namespace Bs
open PySem PySem.Spec PyProof.Rows L2
set_option maxHeartbeats 4000000
open Hd
theorem qtH {K:W.Frag} {st:Stmt} {f c:Addr} {n:Str} {pm:Value} (l:K.lookup f=some (fnO n st pm c)) (e:PySem.W.codeIn K (.ref c) n=true) (k:PySem.W.keepIn K (.ref f)=true):Fun K n n st f (PySem.W.fnOf n n (qdr st) (qcA st) (qbe st) .none .none .none pm none (.ref c) .none):=qt7 (st:=st) l e k
theorem qva {P:Program} {K:W.Frag} {w:World} {h base:Heap} {mg:Str->Option Value} {k:Nat} {f:Addr} {fd:FuncData} {n:Str} {ps:List Str} {sp:Sp} (X:K.In h) (G:h.Ns mainGlobals mg) (ok:FnOk P w K mg base CX0 k f fd ps sp) (b:Binds K fd ps []) (e:PySem.W.keepIn K (.ref f)=true) (a:PySem.W.nsIn K mainGlobals n=some (some (.ref f))):Cal P w K mg base k n ps sp:=⟨f,fd,ok,b,e,PySem.W.mg_of X G a⟩
theorem qvb {us:List Value} {n:Nat} (h:us.length=n+1):∃ x t,us=x::t/\t.length=n:=by cases us with | nil=>cases h | cons x t=>exact ⟨x,t,rfl,Nat.succ.inj h⟩
theorem qv3 (us:List Value) (h:us.length=1):∃ x0,us=[x0]:=by obtain ⟨x,t,rfl,q⟩:=qvb h;exact ⟨x,by rw [way.mp q]⟩
theorem qv4 (us:List Value) (h:us.length=2):∃ x0 x1,us=[x0,x1]:=by obtain ⟨x,t,rfl,q⟩:=qvb h;obtain ⟨x1,rfl⟩:=qv3 t q;exact ⟨x,x1,rfl⟩
theorem qv5 (us:List Value) (h:us.length=3):∃ x0 x1 x2,us=[x0,x1,x2]:=by obtain ⟨x,t,rfl,q⟩:=qvb h;obtain ⟨x1,x2,rfl⟩:=qv4 t q;exact ⟨x,x1,x2,rfl⟩
theorem qv6 (us:List Value) (h:us.length=4):∃ x0 x1 x2 x3,us=[x0,x1,x2,x3]:=by obtain ⟨x,t,rfl,q⟩:=qvb h;obtain ⟨x1,x2,x3,rfl⟩:=qv5 t q;exact ⟨x,x1,x2,x3,rfl⟩
theorem qwq (us:List Value) (h:us.length=5):∃ x0 x1 x2 x3 x4,us=[x0,x1,x2,x3,x4]:=by obtain ⟨x,t,rfl,q⟩:=qvb h;obtain ⟨x1,x2,x3,x4,rfl⟩:=qv6 t q;exact ⟨x,x1,x2,x3,x4,rfl⟩
theorem qa7 {P:Program} {K:W.Frag} {w:World} {h base:Heap} {mg:Str->Option Value} {k:Nat} {f c:Addr} {n:Str} {ps:List Str} {sp:Sp} {st:Stmt} {pm:Value} (X:K.In h) (G:h.Ns mainGlobals mg) (ok:Fun K n n st f (PySem.W.fnOf n n (qdr st) (qcA st) (qbe st) .none .none .none pm none (.ref c) .none)->FnOk P w K mg base CX0 k f (PySem.W.fnOf n n (qdr st) (qcA st) (qbe st) .none .none .none pm none (.ref c) .none) ps sp) (l:K.lookup f=some (fnO n st pm c):=by kernel_rfl) (e:PySem.W.codeIn K (.ref c) n=true:=by kernel_rfl) (q:PySem.W.keepIn K (.ref f)=true:=by kernel_rfl) (a:PySem.W.nsIn K mainGlobals n=some (some (.ref f)):=by kernel_rfl) (b:∀ (kV doc pm:Value) (an:Option Addr) (cdv ct:Value) (us:List Value),us.length=ps.length->bindArgs (PySem.W.fnOf n n (qdr st) (qcA st) (qbe st) .none kV doc pm an cdv ct) ⟨us,[]⟩=pure (ps.zip us):=by first | exact λ_ _ _ _ _ _ us hl=>by obtain ⟨_,rfl⟩:=qv3 us hl;rfl | exact λ_ _ _ _ _ _ us hl=>by obtain ⟨_,_,rfl⟩:=qv4 us hl;rfl | exact λ_ _ _ _ _ _ us hl=>by obtain ⟨_,_,_,rfl⟩:=qv5 us hl;rfl | exact λ_ _ _ _ _ _ us hl=>by obtain ⟨_,_,_,_,rfl⟩:=qv6 us hl;rfl | exact λ_ _ _ _ _ _ us hl=>by obtain ⟨_,_,_,_,_,rfl⟩:=qwq us hl;rfl):Cal P w K mg base k n ps sp:=qva X G (ok (qtH l e q)) ((qtH l e q).binds b) q a
section
variable {P:Program} {w:World} {mg:Str->Option Value} {base h:Heap} (X:(hp w.params).In h) (G:h.Ns mainGlobals mg) (B:Bl (hp w.params) mg)
include X G B
theorem qbE:qbh P w (hp w.params) mg base:=qa7 (f:=22) (c:=21) (pm:=mo0) X G λF=>qgq F B
theorem qnq:qkn P w (hp w.params) mg base:=qa7 (f:=29) (c:=28) (pm:=mo0) X G λF=>qqp F B
theorem qn1:qjz P w (hp w.params) mg base:=qa7 (f:=36) (c:=35) (pm:=mo0) X G λF=>qmw F B
theorem qdU:qcN P w (hp w.params) mg base:=qa7 (f:=55) (c:=54) (pm:=mo0) X G λF=>qiV F B
theorem qlH:qgM P w (hp w.params) mg base:=qa7 (f:=60) (c:=59) (pm:=mo0) X G λF=>qkp F B
theorem qit:qfb P w (hp w.params) mg base:=qa7 (f:=67) (c:=66) (pm:=mo0) X G λF=>qlC F B
theorem qiu:qfc P w (hp w.params) mg base:=qa7 (f:=72) (c:=71) (pm:=mo0) X G λF=>qlD F B
theorem qgt:qeE P w (hp w.params) mg base:=qa7 (f:=79) (c:=78) (pm:=mo0) X G λF=>qmx F B
theorem qiv:qev P w (hp w.params) mg base:=qa7 (f:=86) (c:=85) (pm:=mo0) X G λF=>qg4 F B
theorem qiw:qew P w (hp w.params) mg base:=qa7 (f:=93) (c:=92) (pm:=mo0) X G λF=>qg5 F B
theorem qmB:qil P w (hp w.params) mg base:=qa7 (f:=105) (c:=104) (pm:=mo0) X G λF=>qlE F B
theorem qd4:qcF P w (hp w.params) mg base:=qa7 (f:=136) (c:=135) (pm:=mo0) X G λF=>qgr F B
theorem qeR:qds P w (hp w.params) mg base:=qa7 (f:=141) (c:=140) (pm:=mo0) X G λF=>qip F B
theorem qlI:qim P w (hp w.params) mg base:=qa7 (f:=193) (c:=192) (pm:=mo0) X G λF=>qnX F B
theorem qvc:qsl P w (hp w.params) mg base:=qa7 (f:=231) (c:=230) (pm:=mo2) X G λF=>qtG F B
theorem qry:qno P w (hp w.params) mg base:=qa7 (f:=265) (c:=264) (pm:=mo4) X G λF=>qqr F B
theorem qdV:qdn P w (hp w.params) mg base:=qa7 (f:=272) (c:=271) (pm:=mo4) X G λF=>qqs F B
theorem qdI:qcT P w (hp w.params) mg base:=qa7 (f:=279) (c:=278) (pm:=mo4) X G λF=>qmz F B
theorem qf6:qdT P w (hp w.params) mg base:=qa7 (f:=286) (c:=285) (pm:=mo4) X G λF=>qiY F B
theorem qjA:qgp P w (hp w.params) mg base:=qa7 (f:=319) (c:=318) (pm:=mo4) X G λF=>qmA F B
theorem qkv:qf4 P w (hp w.params) mg base:=qa7 (f:=324) (c:=323) (pm:=mo4) X G λF=>qiZ F B
theorem qkw:qf2 P w (hp w.params) mg base:=qa7 (f:=43) (c:=42) (pm:=mo0) X G λF=>qiU F B (qn1 X G B)
theorem qqv:qlz P w (hp w.params) mg base:=qa7 (f:=48) (c:=47) (pm:=mo0) X G λF=>qnW F B (qbE X G B)
theorem qgu:qeF P w (hp w.params) mg base:=qa7 (f:=98) (c:=97) (pm:=mo0) X G λF=>qmy F B (qdU X G B)
theorem qdo:qcz P w (hp w.params) mg base:=qa7 (f:=148) (c:=147) (pm:=mo0) X G λF=>qkq F B (qeR X G B) (qdU X G B)
theorem qeS:qdt P w (hp w.params) mg base:=qa7 (f:=153) (c:=152) (pm:=mo0) X G λF=>qiq F B (qd4 X G B)
theorem qqw:qmv P w (hp w.params) mg base:=qa7 (f:=217) (c:=216) (pm:=mo1) X G λF=>qrv F B (qbE X G B)
theorem qtI:qqn P w (hp w.params) mg base:=qa7 (f:=224) (c:=223) (pm:=mo1) X G λF=>qrw F B (qnq X G B)
theorem qlJ:qin P w (hp w.params) mg base:=qa7 (f:=236) (c:=235) (pm:=mo2) X G λF=>qnY F B (qbE X G B)
theorem qix:qez P w (hp w.params) mg base:=qa7 (f:=258) (c:=257) (pm:=mo3) X G λF=>qg9 F B (qeR X G B) (qiu X G B) (qiv X G B)
theorem qiy:qfd P w (hp w.params) mg base:=qa7 (f:=291) (c:=290) (pm:=mo4) X G λF=>qlG F B (qdI X G B)
theorem qnr:qko P w (hp w.params) mg base:=qa7 (f:=298) (c:=297) (pm:=mo4) X G λF=>qqt F B (qdV X G B) (qdI X G B)
theorem qlK:qgP P w (hp w.params) mg base:=qa7 (f:=305) (c:=304) (pm:=mo4) X G λF=>qkt F B (qdV X G B)
theorem qqx:qlB P w (hp w.params) mg base:=qa7 (f:=312) (c:=311) (pm:=mo4) X G λF=>qn0 F B (qdV X G B) (qdI X G B)
theorem qtJ:qqo P w (hp w.params) mg base:=qa7 (f:=331) (c:=330) (pm:=mo4) X G λF=>qrx F B (qdV X G B)
theorem qdp:qb6 P w (hp w.params) mg base:=qa7 (f:=115) (c:=114) (pm:=mo0) X G λF=>qfe F B (qqv X G B) (qlH X G B)
theorem qdu:qch P w (hp w.params) mg base:=qa7 (f:=160) (c:=159) (pm:=mo0) X G λF=>qir F B (qdU X G B) (qdo X G B)
theorem qmC:qio P w (hp w.params) mg base:=qa7 (f:=241) (c:=240) (pm:=mo2) X G λF=>qlF F B (qqw X G B) (qvc X G B)
theorem qlL:qgQ P w (hp w.params) mg base:=qa7 (f:=338) (c:=337) (pm:=mo4) X G λF=>qku F B (qdV X G B) (qtJ X G B) (qdI X G B)
theorem qkx:qf3 P w (hp w.params) mg base:=qa7 (f:=110) (c:=109) (pm:=mo0) X G λF=>qiW F B (qbE X G B) (qgu X G B) (qdp X G B)
theorem qc6:qb7 P w (hp w.params) mg base:=qa7 (f:=122) (c:=121) (pm:=mo0) X G λF=>qg6 F B (qdp X G B)
theorem qdW:qcO P w (hp w.params) mg base:=qa7 (f:=167) (c:=166) (pm:=mo0) X G λF=>qiX F B (qdu X G B)
theorem qqy:qlA P w (hp w.params) mg base:=qa7 (f:=246) (c:=245) (pm:=mo2) X G λF=>qnZ F B (qlJ X G B) (qmB X G B) (qmC X G B)
theorem qiz:qex P w (hp w.params) mg base:=qa7 (f:=129) (c:=128) (pm:=mo0) X G λF=>qg7 F B (qkx X G B)
theorem qiA:qey P w (hp w.params) mg base:=qa7 (f:=174) (c:=173) (pm:=mo0) X G λF=>qg8 F B (qdo X G B) (qeS X G B) (qdW X G B)
theorem qi0:qeQ P w (hp w.params) mg base:=qa7 (f:=179) (c:=178) (pm:=mo0) X G λF=>qis F B (qdW X G B) (qd4 X G B) (qdo X G B) (qdu X G B) (qit X G B) (qgu X G B)
theorem qrz:qnn P w (hp w.params) mg base:=qa7 (f:=186) (c:=185) (pm:=mo0) X G λF=>qqq F B (qeS X G B) (qdu X G B) (qi0 X G B) (qdW X G B) (qit X G B) (qgu X G B) (qdo X G B)
theorem qgv:qdH P w (hp w.params) mg base:=qa7 (f:=198) (c:=197) (pm:=mo0) X G λF=>qf5 F B (qbE X G B) (qiA X G B) (qlI X G B) (qc6 X G B) (qgt X G B)
theorem qlM:qgN P w (hp w.params) mg base:=qa7 (f:=205) (c:=204) (pm:=mo0) X G λF=>qkr F B (qc6 X G B) (qnq X G B) (qgv X G B) (qiz X G B)
theorem qlN:qgO P w (hp w.params) mg base:=qa7 (f:=210) (c:=209) (pm:=mo0) X G λF=>qks F B (qc6 X G B) (qiu X G B) (qlM X G B) (qgt X G B)
theorem qd5:qcG P w (hp w.params) mg base:=qa7 (f:=251) (c:=250) (pm:=mo3) X G λF=>qgs F B (qlJ X G B) (qlN X G B) (qix X G B) (qkw X G B) (qiw X G B) (qrz X G B) (qlI X G B) (qqw X G B) (qgt X G B)
theorem qrA:qnp P w (hp w.params) mg base:=qa7 (f:=343) (c:=342) (pm:=mo4) X G λF=>qqu F B (qdV X G B) (qlL X G B) (qnr X G B) (qf6 X G B) (qiy X G B) (qtI X G B) (qdI X G B) (qqy X G B) (qd5 X G B) (qjA X G B)
end
theorem all_mk {l:PySem.W.OpenLaw} {w:World} {h:Heap} {mg:Str->Option Value} {fa:Addr} (X:(hp w.params).In h) (G:h.Ns mainGlobals mg) (hfa:mg "law" = some (.ref fa))
  : ∃ fd:FuncData,(∀ (s:Shared) (v:Value),BindsTo s fd ⟨[v],[]⟩ [("_law_script", v)])/\∀ base:Heap,(hp w.params).In base->base.Ns mainGlobals mg->FnOk l.prog w (hp w.params) mg base CX0 11 fa fd ["_law_script"] (qk9 (hp w.params)):=by
 have e:=hfa.symm.trans (PySem.W.mg_of X G (n := "law") (v:=.ref 348) (by kernel_rfl))
 cases e
 have qEXPONENTS:qca (hp w.params)=15:=by kernel_rfl
 have xEXPONENTS:∀ H:Hp,SqT (hp w.params) H (qca (hp w.params)) (exps.map λe:Nat=>V.int (e:Int)):=λH=>.inr ⟨_,_,_,(show (hp w.params).lookup (qca (hp w.params))=some ⟨.type "tuple", none,.seq #[(.int 61 189),(.int 127 190),(.int 521 191),(.int 1279 192),(.int 4423 193),(.int 9941 194),(.int 21701 195),(.int 44497 196)] 0,#[]⟩ by rw [qEXPONENTS];kernel_rfl),rfl,rfl,by show 8<=sizeLine;rw [sizeLine_eq];decide,.cons ⟨_,rfl⟩ (.cons ⟨_,rfl⟩ (.cons ⟨_,rfl⟩ (.cons ⟨_,rfl⟩ (.cons ⟨_,rfl⟩ (.cons ⟨_,rfl⟩ (.cons ⟨_,rfl⟩ (.cons ⟨_,rfl⟩ (.nil))))))))⟩
 have B:Bl (hp w.params) mg:=⟨PySem.W.mg_none_of X G (by kernel_rfl),PySem.W.mg_none_of X G (by kernel_rfl),PySem.W.mg_none_of X G (by kernel_rfl),PySem.W.mg_none_of X G (by kernel_rfl),PySem.W.mg_none_of X G (by kernel_rfl),PySem.W.mg_none_of X G (by kernel_rfl),PySem.W.mg_none_of X G (by kernel_rfl),PySem.W.mg_none_of X G (by kernel_rfl),PySem.W.mg_none_of X G (by kernel_rfl),PySem.W.mg_none_of X G (by kernel_rfl),by rw [qEXPONENTS];exact PySem.W.mg_of X G (by kernel_rfl),PySem.W.mg_none_of X G (by kernel_rfl),PySem.W.mg_none_of X G (by kernel_rfl),PySem.W.mg_none_of X G (by kernel_rfl),PySem.W.mg_none_of X G (by kernel_rfl),PySem.W.mg_none_of X G (by kernel_rfl),PySem.W.mg_none_of X G (by kernel_rfl),PySem.W.mg_none_of X G (by kernel_rfl),xEXPONENTS⟩
 have FL:=qtH (K:=hp w.params) (st:=qoB) (f:=348) (c:=347) (n := "law") (pm:=mo4) (by kernel_rfl) (by kernel_rfl) (by kernel_rfl)
 refine ⟨PySem.W.fnOf "law" "law" (qdr qoB) (qcA qoB) (qbe qoB) .none .none .none mo4 none (.ref 347) .none,λs v=>.of_eq rfl,λbase _ _=>?_⟩
 exact qu9 FL B (qry X G B) (qdV X G B) (qrA X G B) (qlK X G B) (qnr X G B) (qf6 X G B) (qqx X G B) (qiy X G B) (qjA X G B) (qd5 X G B) (qkv X G B)
theorem walk {l:PySem.W.OpenLaw} {q:Program} {loose:List Str} {XP:(Str->Option Value)->Heap->Prop} {YP:World->Heap->Prop} {d:DefRec} {K:Params->W.Frag} (hn:l.most=some 63) (hdf:d.params.defaults=[]) (hq:importsNone q=true) (ht:∀ w,(model l.prog w).prog.given.tree=none)
  (hY:∀ (w:World) (h:Heap),YP w h->(K w.params).In h)
  (F:∀ (w:World) (mg:Str->Option Value) (fa:Addr) (h:Heap),(K w.params).In h->h.Ns mainGlobals mg->mg d.name=some (.ref fa)->
   ∃ fd:FuncData,(∀ (s:Shared) (u:Value),BindsTo s fd ⟨[u],[]⟩ [("_law_script", u)])/\∀ base:Heap,(K w.params).In base->base.Ns mainGlobals mg->FnOk l.prog w (K w.params) mg base CX0 11 fa fd ["_law_script"] (qk9 (K w.params))) :
  PySem.W.WalkO q loose XP YP l.row.toRowW d [] (λf vs=>PySem.call f vs):=
 L2.walk_of (n:=63) (k:=11) (x := "_law_script") (CX:=λ_=>CX0) (sp:=λw=>qk9 (K w.params)) hn ∅ hdf hq ht ⟨rfl,∅,∅⟩ hY F (λ_ _ a ns hl _ hS=>⟨a,ns,rfl,hS,hl,λ_=>rfl⟩) λ_ _ _ _ _ z=>z
end Bs
open PySem PySem.W PyProof.Rows
set_option maxRecDepth 100000 in
set_option maxHeartbeats 0 in
theorem PySem.Challenge.cw_backslope_k11_rational_roots_put_in_holds : PySem.Challenge.rw_backslope_k11_rational_roots_put_in.Holds := by
  w_on; o_law
  refine PySem.W.holds_open (q := Bs.Hd.vw) (loose := []) (Xt := fun s => PySem.W.xlAt Bs.Hd.vw [] s && PySem.W.recOk (PySem.W.RowW.records (PySem.W.OpenRow.toRowW (PySem.W.OpenLaw.row PySem.Challenge.rw_backslope_k11_rational_roots_put_in))) s) (XP := PySem.W.XL Bs.Hd.vw []) (Yf := Bs.Hd.hk.obs) (Ya := Bs.Hd.hk.val) (YP := Bs.Hd.hk.says) (N := 3432) Bs.Hd.left Bs.Hd.hk.of Bs.Hd.hk.keeps (fun s e => PySem.W.xl_of s (Bool.and_eq_true_iff.mp e).1) PySem.W.XL.keeps (by rfl) (by rfl) (by rfl) (fun s e => PySem.W.recFacts_of (Bool.and_eq_true_iff.mp e).2) (by rfl) (by first | assumption | decide +kernel) (by decide +kernel) ⟨rfl, rfl, rfl, rfl, rfl, by decide +kernel⟩ ?hw ?hc
  case hw => w_witness2
  case hc => exact Bs.walk (l := PySem.Challenge.rw_backslope_k11_rational_roots_put_in) (K := Bs.Hd.hp) rfl rfl (by decide +kernel) (fun _ => rfl) (fun w h Y => Y) (fun w mg fa h KX G hmg => Bs.all_mk KX G hmg)
#print axioms PySem.Challenge.cw_backslope_k11_rational_roots_put_in_holds
