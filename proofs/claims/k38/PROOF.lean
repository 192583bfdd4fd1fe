import PyProof.Rows.All
import Wide.All
import OpenK.AllK
import Wide.FinOn
import Lean
import PyProof.EqAt
import PyProof.EqKinds
import PyProof.TupleCall
import PySem.Challenge.RW_backslope_k38_forms_shown
local macro_rules | `(⋯) => `(by omega)
local macro_rules | `(∅) => `(by decide)
set_option Elab.async false
set_option linter.all false
set_option maxRecDepth 100000
theorem waa:type_of% @List.length_map:=@List.length_map
theorem wab:type_of% @List.getD_eq_getElem?_getD:=@List.getD_eq_getElem?_getD
theorem wac:type_of% @Nat.le_refl:=@Nat.le_refl
theorem wad:type_of% @Int.ne_of_gt:=@Int.ne_of_gt
theorem wae:type_of% @Nat.zero_le:=@Nat.zero_le
theorem waf:type_of% @List.getElem?_map:=@List.getElem?_map
theorem wag:type_of% @List.mem_singleton:=@List.mem_singleton
theorem wah:type_of% @List.getElem?_eq_getElem:=@List.getElem?_eq_getElem
theorem wai:type_of% @List.mem_map:=@List.mem_map
theorem waj:type_of% @Nat.lt_or_ge:=@Nat.lt_or_ge
theorem wak:type_of% @Nat.le_trans:=@Nat.le_trans
theorem wal:type_of% @List.length_range:=@List.length_range
theorem wam:type_of% @List.size_toArray:=@List.size_toArray
theorem wan:type_of% @List.mem_of_getElem?:=@List.mem_of_getElem?
theorem wao:type_of% @List.length_append:=@List.length_append
theorem wap:type_of% @List.getElem?_eq_some_iff:=@List.getElem?_eq_some_iff
theorem waq:type_of% @List.length_pos_iff:=@List.length_pos_iff
theorem war:type_of% @Int.natAbs_mul:=@Int.natAbs_mul
theorem was:type_of% @Int.mul_ne_zero:=@Int.mul_ne_zero
theorem wat:type_of% @Nat.ne_of_lt:=@Nat.ne_of_lt
theorem wau:type_of% @List.mem_cons:=@List.mem_cons
theorem wav:type_of% @Nat.lt_of_lt_of_le:=@Nat.lt_of_lt_of_le
theorem waw:type_of% @List.length_take:=@List.length_take
theorem wax:type_of% @List.getElem?_eq_none:=@List.getElem?_eq_none
theorem way:type_of% @List.length_cons:=@List.length_cons
theorem waz:type_of% @List.length_eq_zero_iff:=@List.length_eq_zero_iff
theorem wa0:type_of% @Int.dvd_trans:=@Int.dvd_trans
theorem wa1:type_of% @List.map_cons:=@List.map_cons
theorem wa2:type_of% @Int.mul_pos:=@Int.mul_pos
theorem wa3:type_of% @List.take_length:=@List.take_length
theorem wa4:type_of% @Nat.mul_le_mul_right:=@Nat.mul_le_mul_right
theorem wa5:type_of% @Int.emod_nonneg:=@Int.emod_nonneg
theorem wa6:type_of% @Nat.pow_succ:=@Nat.pow_succ
theorem wa7:type_of% @List.mem_append:=@List.mem_append
theorem wa8:type_of% @List.mem_append_right:=@List.mem_append_right
theorem wa9:type_of% @Int.emod_lt_of_pos:=@Int.emod_lt_of_pos
theorem wba:type_of% @Int.natAbs_natCast:=@Int.natAbs_natCast
theorem wbb:type_of% @Nat.lt_irrefl:=@Nat.lt_irrefl
theorem wbc:type_of% @Int.dvd_add:=@Int.dvd_add
theorem wbd:type_of% @Int.dvd_zero:=@Int.dvd_zero
theorem wbe:type_of% @Bool.false_ne_true:=@Bool.false_ne_true
theorem wbf:type_of% @Int.natAbs_dvd_natAbs:=@Int.natAbs_dvd_natAbs
theorem wbg:type_of% @List.forall_mem_singleton:=@List.forall_mem_singleton
theorem wbh:type_of% @List.mem_cons_self:=@List.mem_cons_self
theorem wbi:type_of% @List.mem_cons_of_mem:=@List.mem_cons_of_mem
theorem wbj:type_of% @List.map_append:=@List.map_append
theorem wbk:type_of% @List.getElem?_range:=@List.getElem?_range
theorem wbl:type_of% @Nat.mul_le_mul:=@Nat.mul_le_mul
theorem wbm:type_of% @Nat.mul_comm:=@Nat.mul_comm
theorem wbn:type_of% @Int.le_of_lt:=@Int.le_of_lt
theorem wbo:type_of% @Int.fdiv_eq_ediv_of_nonneg:=@Int.fdiv_eq_ediv_of_nonneg
theorem wbp:type_of% @Int.dvd_refl:=@Int.dvd_refl
theorem wbq:type_of% @Nat.lt_succ_self:=@Nat.lt_succ_self
theorem wbr:type_of% @Nat.eq_zero_or_pos:=@Nat.eq_zero_or_pos
theorem wbs:type_of% @Int.gcd_dvd_right:=@Int.gcd_dvd_right
theorem wbt:type_of% @Nat.mul_le_mul_left:=@Nat.mul_le_mul_left
theorem wbu:type_of% @Nat.le_of_dvd:=@Nat.le_of_dvd
theorem wbv:type_of% @List.take_succ:=@List.take_succ
theorem wbw:type_of% @List.nodup_cons:=@List.nodup_cons
theorem wbx:type_of% @Nat.pow_le_pow_right:=@Nat.pow_le_pow_right
theorem wby:type_of% @Int.gcd_dvd_left:=@Int.gcd_dvd_left
theorem wbz:type_of% @Nat.le_antisymm:=@Nat.le_antisymm
theorem wb0:type_of% @List.getElem_mem:=@List.getElem_mem
theorem wb1:type_of% @List.map_congr_left:=@List.map_congr_left
theorem wb2:type_of% @Int.toNat_natCast:=@Int.toNat_natCast
theorem wb3:type_of% @List.take_append_drop:=@List.take_append_drop
theorem wb4:type_of% @List.getElem?_replicate:=@List.getElem?_replicate
theorem wb5:type_of% @List.length_drop:=@List.length_drop
theorem wb6:type_of% @Int.dvd_mul_of_dvd_right:=@Int.dvd_mul_of_dvd_right
theorem wb7:type_of% @Rat.inv_mul_cancel:=@Rat.inv_mul_cancel
theorem wb8:type_of% @Int.dvd_mul_of_dvd_left:=@Int.dvd_mul_of_dvd_left
theorem wb9:type_of% @List.getElem_of_mem:=@List.getElem_of_mem
theorem wca:type_of% @List.getLast?_eq_getElem?:=@List.getLast?_eq_getElem?
theorem wcb:type_of% @Int.mul_ediv_cancel':=@Int.mul_ediv_cancel'
theorem wcc:type_of% @List.forall_mem_cons:=@List.forall_mem_cons
theorem wcd:type_of% @Int.mul_ediv_cancel_left:=@Int.mul_ediv_cancel_left
theorem wce:type_of% @List.dropLast_concat_getLast:=@List.dropLast_concat_getLast
theorem wcf:type_of% @Option.map_eq_some_iff:=@Option.map_eq_some_iff
theorem wcg:type_of% @Int.mul_le_mul_of_nonneg_left:=@Int.mul_le_mul_of_nonneg_left
namespace L2
open PySem PySem.Spec PyProof.Rows
noncomputable abbrev Key:=Sum Int Str
noncomputable def qrV:Key->Value->Bool
 | .inl k,v=>Value.isInt k v
 | .inr x,v=>Value.isStrOf x v
noncomputable def qxO (w:World):Key->Int
 | .inl k=>hashInt k
 | .inr x=>hashStr w x
theorem qbB:∀ {k:Key} {v:Value},qrV k v=true->(∃ i t,k=Sum.inl i/\v=Value.int i t)\/(∃ x t,k=Sum.inr x/\v=Value.str x t)
 | .inl i,v,h=>by
   obtain ⟨t,e⟩:=Value.isInt_shape (k:=i) (v:=v) h
   exact .inl ⟨i,t,rfl,e⟩
 | .inr x,v,h=>by
   obtain ⟨t,e⟩:=Value.isStrOf_shape (x:=x) (v:=v) h
   exact .inr ⟨x,t,rfl,e⟩
theorem qo6 (x:Str) (t:Tok):qrV (.inr x) (.str x t)=true:=by simp [qrV,Value.isStrOf]
theorem qvo (a b:Int):decide ((Sum.inl a:Key)=Sum.inl b)=(a == b):=by
 by_cases e:a=b
 ·subst e;simp
 ·have h:¬ (Sum.inl a:Key)=Sum.inl b:=λq=>e (Sum.inl.inj q)
  rw [decide_eq_false h]
  exact (beq_eq_false_iff_ne.mpr e).symm
theorem qvp (a b:Str):decide ((Sum.inr a:Key)=Sum.inr b)=decide (a=b):=by
 by_cases e:a=b
 ·subst e;simp
 ·have h:¬ (Sum.inr a:Key)=Sum.inr b:=λq=>e (Sum.inr.inj q)
  rw [decide_eq_false h,decide_eq_false e]
theorem qvq (a:Int) (b:Str):decide ((Sum.inl a:Key)=Sum.inr b)=false:=decide_eq_false (λq=>nomatch q)
theorem qvr (a:Str) (b:Int):decide ((Sum.inr a:Key)=Sum.inl b)=false:=decide_eq_false (λq=>nomatch q)
noncomputable def qe2 (prog:Program) (w:World):PySem.KeyKind prog w Key where
 is:=qrV
 hash:=qxO w
 inj:=λv a b ha hb=>by
  rcases qbB ha with ⟨i,t,rfl,rfl⟩ | ⟨x,t,rfl,rfl⟩
  ·rcases qbB hb with ⟨j,u,rfl,e⟩ | ⟨y,u,rfl,e⟩
   ·injection e with e1 _;rw [e1]
   ·exact nomatch e
  ·rcases qbB hb with ⟨j,u,rfl,e⟩ | ⟨y,u,rfl,e⟩
   ·exact nomatch e
   ·injection e with e1 _;rw [e1]
 byValue:=λk v h=>by
  rcases qbB h with ⟨i,t,rfl,rfl⟩ | ⟨x,t,rfl,rfl⟩ <;> rfl
 pyHash:=λhv h=>by
  rcases qbB hv with ⟨i,t,rfl,rfl⟩ | ⟨x,t,rfl,rfl⟩
  ·exact wpAny_pyHash_int h
  ·exact wpAny_pyHash_str h
 eqBool:=λhu hv h=>by
  rcases qbB hu with ⟨i,t,rfl,rfl⟩ | ⟨x,t,rfl,rfl⟩
  ·rcases qbB hv with ⟨j,u,rfl,rfl⟩ | ⟨y,u,rfl,rfl⟩
   ·rw [qvo] at h;exact wpAny_eqBool_int h
   ·rw [qvq] at h;exact SeqAt.EqAt.int_str i t y u _ _ _ _ h
  ·rcases qbB hv with ⟨j,u,rfl,rfl⟩ | ⟨y,u,rfl,rfl⟩
   ·rw [qvr] at h;exact SeqAt.EqAt.str_int x t j u _ _ _ _ h
   ·rw [qvp] at h;exact wpAny_eqBool_str h
 «strs»:=λk x t v h=>by
  rcases qbB h with ⟨i,u,rfl,e⟩ | ⟨y,u,rfl,e⟩
  ·exact nomatch e
  ·injection e with e1 _
   subst e1
   cases v <;> rfl
theorem qe3 (prog:Program) (w:World) (x:Str) (t:Tok):(qe2 prog w).is (.inr x) (.str x t)=true:=qo6 x t
end L2
namespace L2
open PySem PySem.Spec PyProof.Rows
inductive V where
 | non | bl (b:Bool) | int (i:Int) | str (x:Str) | byt (b:Array UInt8) | flt (b:UInt64) | ref (a:Addr) | ty (n:String)
 deriving DecidableEq
noncomputable def RelV:V->Value->Prop
 | .non,u=>u=Value.none
 | .bl b,u=>u=Value.bool b
 | .int i,u=>∃ t,u=Value.int i t
 | .str x,u=>∃ t,u=Value.str x t
 | .byt b,u=>∃ t,u=Value.bytes b t
 | .flt b,u=>∃ t,u=Value.float b t
 | .ref a,u=>u=Value.ref a
 | .ty n,u=>u=Value.type n
noncomputable abbrev Vals:List V->List Value->Prop:=Paired RelV
theorem Vals.length {xs:List V} {us:List Value} (r:Vals xs us):xs.length=us.length:=Paired.length r
theorem Vals.get:∀ {xs:List V} {us:List Value} {i:Nat} {x:V},Vals xs us->xs[i]?=some x->∃ u,us[i]?=some u/\RelV x u
 | _,_,_,_,.nil,e=>by simp at e
 | _,_,0,_,.cons r _,e=>by simp at e;subst e;exact ⟨_,rfl,r⟩
 | _,_,i+1,x,.cons _ t,e=>by
   obtain ⟨u,h1,h2⟩:=Vals.get (i:=i) (x:=x) t (by simpa using e)
   exact ⟨u,by simpa using h1,h2⟩
theorem Vals.set {x:V} {u:Value} (r:RelV x u):∀ {xs:List V} {us:List Value} (i:Nat),Vals xs us->Vals (xs.set i x) (us.set i u)
 | _,_,_,.nil=>.nil
 | _,_,0,.cons _ t=>.cons r t
 | _,_,i+1,.cons q t=>.cons q (Vals.set r i t)
theorem Vals.append:∀ {xs ys:List V} {us ws:List Value},Vals xs us->Vals ys ws->Vals (xs++ys) (us++ws)
 | _,_,_,_,.nil,s=>s
 | _,_,_,_,.cons r t,s=>.cons r (Vals.append t s)
theorem Vals.take:∀ {xs:List V} {us:List Value} (n:Nat),Vals xs us->Vals (xs.take n) (us.take n)
 | _,_,0,_=>.nil
 | _,_,_+1,.nil=>.nil
 | _,_,n+1,.cons r t=>.cons r (Vals.take n t)
theorem Vals.drop:∀ {xs:List V} {us:List Value} (n:Nat),Vals xs us->Vals (xs.drop n) (us.drop n)
 | _,_,0,r=>r
 | _,_,_+1,.nil=>.nil
 | _,_,n+1,.cons _ t=>Vals.drop n t
noncomputable def qxq:Option V->Option Value->Prop
 | some v,some u=>RelV v u
 | none,none=>True
 | _,_=>False
noncomputable def KV {κ:Type}:List (κ×V)->List (κ×Value)->Prop:=Paired λ(p:κ×V) (q:κ×Value)=>p.1=q.1/\RelV p.2 q.2
noncomputable def kV:Key->V
 | .inl i=>.int i
 | .inr x=>.str x
inductive HO where

 | lst (xs:List V)

 | tup (xs:List V)

 | dK (kvs:List (Key×V)) | dT (kvs:List (List Key×V))

 | set (S:Int->Bool) (n:Nat)

 | ins (C dx:Addr) (fs:List (Str×V))

 | own (x:Addr)

 | xd (fs:List (Str×V))

 | met (f x:Addr)

 | rng (lo hi:Int)

 | frz (o:Obj) (u:HO)

 | tbl (ps:Array Value)

 | ext (φ:Heap->Prop)
noncomputable abbrev Hp:=Addr->Option HO
noncomputable def upd (H:Hp) (a:Addr) (o:HO):Hp:=λb=>if b=a then some o else H b
theorem upd_same {H:Hp} {a:Addr} {o:HO}:upd H a o a=some o:=by unfold upd;rw [if_pos rfl]
theorem qaA {H:Hp} {a b:Addr} {o:HO} (h:b≠a):upd H a o b=H b:=by unfold upd;rw [if_neg h]
theorem qkq {H:Hp} {a b:Addr} {o u:HO} (h:H a=some o) (h':H b=some u) (d:o≠u):a≠b:=by
 intro e;subst e;rw [h] at h';exact d (Option.some.inj h')
theorem qas {H:Hp} {a b:Addr} {o:HO} (h:H a=some o) (h':H b=none):a≠b:=by
 intro e;subst e;rw [h] at h';cases h'
section
variable (P:Program) (w:World)
noncomputable def ObjOk (H:Hp) (h:Heap) (a:Addr):HO->Prop
 | .lst xs=>xs.length<=sizeLine/\∃ (its:List Value) (n:Nat),Vals xs its/\h.get? a=some { cls:=.type "list", data:=.seq its.toArray n }
 | .tup xs=>xs.length<=sizeLine/\∃ its:List Value,Vals xs its/\IsTup h a its.toArray
 | .dK kvs=>kvs.length<=sizeLine/\(a == sysModules)=false/\∃ vs,KV kvs vs/\h.DictOf (qe2 P w) a vs
 | .dT kvs=>kvs.length<=sizeLine/\(a == sysModules)=false/\∃ xs:List (List Key×Addr×Value),
   Paired (λ(p:List Key×V) (q:List Key×Addr×Value)=>p.1=q.1/\H q.2.1=some (.tup (p.1.map kV))/\RelV p.2 q.2.2) kvs xs/\
   ∃ o es ep,h.get? a=some o/\o.ExactDict/\o.data=.dict es ep/\es.toList=xs.map (entryOfKey (tupleKind (qe2 P w)))/\(xs.map (·.1)).Nodup
 | .set S n=>h.SetOf (intKind P w) a S n
 | .ins C dx fs=>H dx=some (.own a)/\fs.length<=1000/\dx≠a/\h.get? a=some (PySem.W.instObj C dx)/\
   ∃ mA,h.Ns1 dx mA/\(∀ f,qxq (fs.lookup f) (mA f))/\PySem.Within mA (fs.map (·.1))
 | .own _=>∃ o,h.get? a=some o
 | .xd fs=>∃ mA,h.Ns1 a mA/\∀ f,qxq (fs.lookup f) (mA f)
 | .rng lo hi=>∃ t u v,h.get? a=some { cls:=.type "range", data:=.fields #[.int lo t,.int hi u,.int 1 v] }
 | .frz o u=>h.get? a=some o/\ObjOk H h a u
 | .tbl ps=>h.get? a=some { cls:=.none,data:=.fields ps }
 | .met f x=>h.get? a=some (PySem.W.methodObj (.ref f) (.ref x))
 | .ext φ=>φ h/\(∃ o,h.get? a=some o)/\∀ h1 h2:Heap,φ h1->(∀ o,h1.get? a=some o->h2.get? a=some o)->φ h2
noncomputable def HOk (H:Hp) (h:Heap):Prop:=∀ a o,H a=some o->ObjOk P w H h a o
end
section
variable {P:Program} {w:World} {H H':Hp} {h h':Heap} {a:Addr} {o:HO}
theorem ObjOk.lt (x:ObjOk P w H h a o):a<h.objs.size:=by
 cases o with
 | lst xs=>obtain ⟨_,_,_,_,e⟩:=x;exact Heap.lt_size e
 | tup xs=>obtain ⟨_,_,_,p⟩:=x;exact p.lt
 | dK kvs=>obtain ⟨_,_,_,_,o,_,_,e,_⟩:=x;exact Heap.lt_size e
 | dT kvs=>obtain ⟨_,_,_,_,o,_,_,e,_⟩:=x;exact Heap.lt_size e
 | set S n=>obtain ⟨o,_,_,_,e,_⟩:=x;exact Heap.lt_size e
 | ins C dx fs=>obtain ⟨_,_,_,e,_⟩:=x;exact Heap.lt_size e
 | own y=>obtain ⟨_,e⟩:=x;exact Heap.lt_size e
 | xd fs=>obtain ⟨_,⟨_,_,_,e,_⟩,_⟩:=x;exact Heap.lt_size e
 | rng lo hi=>obtain ⟨_,_,_,e⟩:=x;exact Heap.lt_size e
 | frz ob u=>obtain ⟨e,_⟩:=x;exact Heap.lt_size e
 | tbl ps=>exact Heap.lt_size (show h.get? a=some _ from x)
 | met f y=>exact Heap.lt_size (show h.get? a=some _ from x)
 | ext φ=>obtain ⟨_,⟨_,e⟩,_⟩:=x;exact Heap.lt_size e
theorem Paired.mapP {α β:Type} {F G:α->β->Prop}:∀ {l₁:List α} {l₂:List β},Paired F l₁ l₂->(∀ a b,F a b->G a b)->Paired G l₁ l₂
 | _,_,.nil,_=>.nil
 | _,_,.cons r t,f=>.cons (f _ _ r) (Paired.mapP t f)
theorem ObjOk.stay (x:ObjOk P w H h a o) (k:∀ b u,(b=a\/H b=some (.own a))->h.get? b=some u->h'.get? b=some u)
  (ho:∀ b,H b=some (.own a)->H' b=some (.own a)) (ht:∀ b xs,H b=some (.tup xs)->H' b=some (.tup xs)):ObjOk P w H' h' a o:=by
 induction o with
 | lst xs=>obtain ⟨z,its,n,r,e⟩:=x;exact ⟨z,its,n,r,k _ _ (.inl rfl) e⟩
 | tup xs=>obtain ⟨z,its,r,ob,e,c⟩:=x;exact ⟨z,its,r,ob,k _ _ (.inl rfl) e,c⟩
 | dK kvs=>obtain ⟨z,y,vs,r,ob,es,ep,e,c⟩:=x;exact ⟨z,y,vs,r,ob,es,ep,k _ _ (.inl rfl) e,c⟩
 | dT kvs=>
   obtain ⟨z,y,xs,r,ob,es,ep,e,c⟩:=x
   exact ⟨z,y,xs,Paired.mapP r λp q z=>⟨z.1,ht _ _ z.2.1,z.2.2⟩,ob,es,ep,k _ _ (.inl rfl) e,c⟩
 | set S n=>obtain ⟨ob,es,ep,t,e,c⟩:=x;exact ⟨ob,es,ep,t,k _ _ (.inl rfl) e,c⟩
 | ins C dx fs=>
   obtain ⟨d,z,ne,e,mA,⟨od,es,ep,e2,c⟩,r⟩:=x
   exact ⟨ho _ d,z,ne,k _ _ (.inl rfl) e,mA,⟨od,es,ep,k _ _ (.inr d) e2,c⟩,r⟩
 | own y=>obtain ⟨ob,e⟩:=x;exact ⟨ob,k _ _ (.inl rfl) e⟩
 | xd fs=>obtain ⟨mA,⟨od,es,ep,e,c⟩,r⟩:=x;exact ⟨mA,⟨od,es,ep,k _ _ (.inl rfl) e,c⟩,r⟩
 | rng lo hi=>obtain ⟨t,u,v,e⟩:=x;exact ⟨t,u,v,k _ _ (.inl rfl) e⟩
 | frz ob u ih=>obtain ⟨e,q⟩:=x;exact ⟨k _ _ (.inl rfl) e,ih q⟩
 | tbl ps=>
   have e:h.get? a=some { cls:=.none,data:=.fields ps }:=x
   show h'.get? a=some { cls:=.none,data:=.fields ps }
   exact k a _ (.inl rfl) e
 | met f y=>
   have e:h.get? a=some (PySem.W.methodObj (.ref f) (.ref y)):=x
   show h'.get? a=some (PySem.W.methodObj (.ref f) (.ref y))
   exact k a _ (.inl rfl) e
 | ext φ=>obtain ⟨p,⟨o,e⟩,st⟩:=x;exact ⟨st _ _ p λo q=>k _ _ (.inl rfl) q,⟨o,k _ _ (.inl rfl) e⟩,st⟩
theorem HOk.lt (x:HOk P w H h) (e:H a=some o):a<h.objs.size:=(x a o e).lt
theorem HOk.fresh (x:HOk P w H h) (e:h.objs.size<=a):H a=none:=by
 cases q:H a with
 | none=>rfl
 | some u=>exact absurd (wav (x.lt q) e) (wbb _)
theorem HOk.kept (x:HOk P w H h) (k:∀ b u,h.get? b=some u->h'.get? b=some u):HOk P w H h':=λa o e=>
 (x a o e).stay (λb u _ q=>k b u q) (λ_ q=>q) λ_ _ q=>q
theorem HOk.laid (x:HOk P w H h) (k:∀ b u,h.get? b=some u->h'.get? b=some u) (hp:h.objs.size<=a) (new:ObjOk P w (upd H a o) h' a o):HOk P w (upd H a o) h':=λb u e=>by
 have hn:=x.fresh hp
 by_cases hb:b=a
 ·subst hb;rw [upd_same] at e;cases e;exact new
 ·rw [qaA hb] at e
  exact (x b u e).stay (λc v _ q=>k c v q) (λc q=>by rw [qaA (qas q hn)];exact q) λc xs q=>by rw [qaA (qas q hn)];exact q
end
noncomputable def Rd (H:Hp) (a:Addr) (u:HO):Prop:=H a=some u\/∃ o,H a=some (.frz o u)
theorem Rd.of {H:Hp} {a:Addr} {u:HO} (h:H a=some u):Rd H a u:=.inl h
theorem Rd.ok {P:Program} {w:World} {H:Hp} {h:Heap} {a:Addr} {u:HO} (r:Rd H a u) (x:HOk P w H h):ObjOk P w H h a u:=by
 rcases r with r | ⟨o,r⟩
 ·exact x a u r
 ·obtain ⟨_,q⟩:=x a _ r
  exact q
noncomputable def Mut:Option HO->Prop
 | some (.lst _)=>True
 | some (.dK _)=>True
 | some (.dT _)=>True
 | some (.set _ _)=>True
 | some (.ins _ _ _)=>True
 | some (.ext _)=>True
 | _=>False
section
variable {P:Program} {w:World} {H:Hp} {h h':Heap} {x e:Addr} {o':HO}
theorem HOk.write (ok:HOk P w H h) (mu:Mut (H x)) (he:e=x\/H e=some (.own x)) (k:∀ b u,b≠e->h.get? b=some u->h'.get? b=some u) (heo:∃ u,h'.get? e=some u)
  (new:ObjOk P w (upd H x o') h' x o'):HOk P w (upd H x o') h':=λb u q=>by
 have nown:∀ c y,H c=some (.own y)->c≠x:=λc y r z=>by subst z;rw [r] at mu;exact mu
 have ntup:∀ c xs,H c=some (.tup xs)->c≠x:=λc xs r z=>by subst z;rw [r] at mu;exact mu
 by_cases hb:b=x
 ·subst hb;rw [upd_same] at q;cases q;exact new
 ·rw [qaA hb] at q
  by_cases hbe:b=e
  ·have q':H b=some (.own x):=by
    rcases he with z | z
    ·exact absurd (hbe.trans z) hb
    ·rw [hbe];exact z
   rw [q] at q';cases q'
   obtain ⟨v,hv⟩:=heo
   exact ⟨v,by rw [hbe];exact hv⟩
  ·refine (ok b u q).stay (λc v hc r=>k c v ?_ r) (λc r=>by rw [qaA (nown c b r)];exact r) λc xs r=>by rw [qaA (ntup c xs r)];exact r
   rcases hc with rfl | hc
   ·exact hbe
   ·rintro rfl
    rcases he with z | z
    ·exact nown c b hc z
    ·rw [hc] at z;cases z;exact hb rfl
end
structure Un (fs ex:List Addr) (H H':Hp) (h h':Heap):Prop where
 keep:∀ b o,h.get? b=some o->H b=none->b∉fs->b∉ex->h'.get? b=some o
 slot:∀ b o,h.get? b=some o->H b=none->b∈fs->b∉ex->∃ sl,h'.get? b=some { o with slots:=sl }
 free:∀ b o,h.get? b=some o->H b=none->b∉ex->H' b=none
 there:∀ b o,h.get? b=some o->b∉ex->∃ o',h'.get? b=some o'
 tups:∀ b xs,H b=some (.tup xs)->H' b=some (.tup xs)
 frzs:∀ b o u,H b=some (.frz o u)->H' b=some (.frz o u)
 tbls:∀ b ps,H b=some (.tbl ps)->∃ more,H' b=some (.tbl (ps++more))
section
variable {fs fs' ex ex':List Addr} {H H1 H2:Hp} {h h1 h2 h':Heap} {a x e:Addr} {o:HO}
theorem Un.any (u:Un fs ex H H1 h h1) {b:Addr} {ob:Obj} (q:h.get? b=some ob) (n:H b=none) (hx:b∉ex):∃ sl,h1.get? b=some { ob with slots:=sl }:=by
 by_cases hb:b∈fs
 ·exact u.slot b ob q n hb hx
 ·exact ⟨ob.slots,u.keep b ob q n hb hx⟩
theorem Un.trans (a:Un fs ex H H1 h h1) (b:Un fs ex H1 H2 h1 h2):Un fs ex H H2 h h2 where
 keep:=λc ob q n hc hx=>b.keep c ob (a.keep c ob q n hc hx) (a.free c ob q n hx) hc hx
 slot:=λc ob q n hc hx=>by
  obtain ⟨sl,e1⟩:=a.slot c ob q n hc hx
  obtain ⟨sl',e2⟩:=b.slot c _ e1 (a.free c ob q n hx) hc hx
  exact ⟨sl',e2⟩
 free:=λc ob q n hx=>by
  obtain ⟨o',e1⟩:=a.there c ob q hx
  exact b.free c o' e1 (a.free c ob q n hx) hx
 there:=λc ob q hx=>by
  obtain ⟨o',e1⟩:=a.there c ob q hx
  exact b.there c o' e1 hx
 tups:=λc xs q=>b.tups c xs (a.tups c xs q)
 frzs:=λc ob xs q=>b.frzs c ob xs (a.frzs c ob xs q)
 tbls:=λc ps q=>by
  obtain ⟨m1,e1⟩:=a.tbls c ps q
  obtain ⟨m2,e2⟩:=b.tbls c _ e1
  exact ⟨m1++m2,by rw [e2,Array.append_assoc]⟩
theorem Un.kept (k:∀ b u,h.get? b=some u->h'.get? b=some u):Un fs ex H H h h':=
 ⟨λb ob q _ _ _=>k b ob q,λb ob q _ _ _=>⟨ob.slots,k b ob q⟩,λ_ _ _ n _=>n,λb ob q _=>⟨ob,k b ob q⟩,λ_ _ q=>q,λ_ _ _ q=>q,λ_ ps q=>⟨#[],by rw [q];simp⟩⟩
theorem Un.refl:Un fs ex H H h h:=Un.kept λ_ _ q=>q
theorem Un.laid (k:∀ b u,h.get? b=some u->h'.get? b=some u) (hp:h.objs.size<=a) (hn:H a=none):Un fs ex H (upd H a o) h h' where
 keep:=λb u q _ _ _=>k b u q
 slot:=λb u q _ _ _=>⟨u.slots,k b u q⟩
 free:=λb u q n _=>by rw [qaA (wat (wav (Heap.lt_size q) hp))];exact n
 there:=λb u q _=>⟨u,k b u q⟩
 tups:=λb xs q=>by rw [qaA (qas q hn)];exact q
 frzs:=λb u xs q=>by rw [qaA (qas q hn)];exact q
 tbls:=λb ps q=>⟨#[],by rw [qaA (qas q hn),q];simp⟩
theorem Un.write (mu:Mut (H x)) (he:e=x\/H e=some (.own x)) (k:∀ b u,b≠e->h.get? b=some u->h'.get? b=some u) (heo:∃ u,h'.get? e=some u):Un fs ex H (upd H x o) h h':=by
 have hx:∀ b,H b=none->b≠x:=λb n z=>by subst z;rw [n] at mu;exact mu
 have hb:∀ b,H b=none->b≠e:=λb n z=>by
  subst z
  rcases he with r | r
  ·exact hx b n r
  ·rw [n] at r;cases r
 have hm:∀ b u,H b=some u->¬ Mut (some u)->b≠x:=λb u q nm z=>by subst z;rw [q] at mu;exact nm mu
 refine ⟨λb u q n _ _=>k b u (hb b n) q,λb u q n _ _=>⟨u.slots,k b u (hb b n) q⟩,λb u q n _=>by rw [qaA (hx b n)];exact n,λb u q _=>?_,
  λb xs q=>by rw [qaA (hm b _ q λz=>z)];exact q,λb u xs q=>by rw [qaA (hm b _ q λz=>z)];exact q,λb ps q=>⟨#[],by rw [qaA (hm b _ q λz=>z),q];simp⟩⟩
 by_cases hbe:b=e
 ·subst hbe;exact heo
 ·exact ⟨u,k b u hbe q⟩
theorem Un.mono (u:Un fs ex H H1 h h1) (hs:∀ b∈fs,b∈fs') (hx:∀ b∈ex,b∈ex'):Un fs' ex' H H1 h h1:=
 ⟨λb ob q n hb he=>u.keep b ob q n (λz=>hb (hs b z)) λz=>he (hx b z),λ_ _ q n _ he=>u.any q n λz=>he (hx _ z),λb ob q n he=>u.free b ob q n λz=>he (hx b z),λb ob q he=>u.there b ob q λz=>he (hx b z),u.tups,u.frzs,u.tbls⟩
end
noncomputable def trk (h:Heap) (H:Hp):List Addr:=(List.range h.objs.size).filter λa=>(H a).isSome
noncomputable def qrR (h:Heap) (H:Hp):Heap:=PySem.W.hideAll h (trk h H)
theorem qo7 (h:Heap) (H:Hp):(qrR h H).objs.size=h.objs.size:=PySem.W.hideAll_size _ _
theorem qrW {h:Heap} {H:Hp} {b:Addr} {o:Obj} (e:h.get? b=some o) (n:H b=none):(qrR h H).get? b=some o:=
 PySem.W.hideAll_get _ e λhm=>by
  have q:(H b).isSome=true:=(List.mem_filter.mp hm).2
  rw [n] at q;simp at q
theorem qt2 {h:Heap} {H:Hp} {b:Addr} {o:Obj} (e:(qrR h H).get? b=some o):h.get? b=some o/\H b=none:=by
 have e':h.get? b=some o:=PySem.W.of_hideAll (trk h H) e
 refine ⟨e',?_⟩
 cases q:H b with
 | none=>rfl
 | some x=>
   have hm:b∈trk h H:=List.mem_filter.mpr ⟨List.mem_range.mpr (Heap.lt_size e'),by simp [q]⟩
   have z:(qrR h H).get? b=none:=PySem.W.hideAll_none (trk h H) hm
   rw [z] at e;cases e
noncomputable def qt3 (g h:Heap) (L:Addr):List (Addr×Obj):=(List.range h.objs.size).filterMap λa=>if a=L\/(g.get? a).isSome=true then none else (h.get? a).map λo=>(a,o)
noncomputable def rest (g h:Heap) (L d:Addr):List (Addr×Obj):=(qt3 g h L).filter λp=>decide (p.1≠d)
end L2
namespace L2
open PySem PySem.Spec PyProof.Rows
structure Mod (K:PySem.W.Frag) (mg:Str->Option Value) (base:Heap):Prop where
 kin:K.In base
 glob:base.Ns mainGlobals mg
 blt:∃ mb,base.Ns builtinsNs mb/\∀ x:Str,x ≠ "__name__" -> mb x=bootBuiltins x
 nolimit:base.NoLimit
structure Cx where
 prog:Program
 w:World
 K:PySem.W.Frag
 mg:Str->Option Value
 base:Heap
 A:Around
 N:List Str
 s₀:Shared
 H₀:Hp
 env:Env
 outer:List Env
 stack:List Env
 ex:List Addr
 fn:Str->Bool
 calm:Bool
 pn:List (Addr×Obj)
 xe:Value->Shared->Prop
noncomputable def frs (l:List Env):List Addr:=l.filterMap (·.frame)
noncomputable abbrev Cx.fs (X:Cx):List Addr:=frs X.outer
noncomputable def Vis (sc:Scope) (x:Str):Prop:=sc.names.lookup x=some .local\/sc.names.lookup x=some .cell\/sc.names.lookup x=some .free
noncomputable def Loc (sc:Scope) (x:Str):Prop:=sc.names.lookup x=some .local\/sc.names.lookup x=some .cell
noncomputable def Look (env:Env) (h:Heap) (m:Str->Option Value) (x:Str) (u:Value):Prop:=
 (env.kindOf x=some .local/\m x=some u)\/((env.kindOf x=some .cell\/env.kindOf x=some .free)/\∃ c,env.cells.lookup x=some c/\h.IsCell c (some u))
structure Cx.Ok (X:Cx):Prop where
 mod:Mod X.K X.mg X.base
 kind:X.env.scope.kind=.function
 glob:X.env.globals=mainGlobals
 blt:X.env.builtins=builtinsNs
 above:X.s₀.heap.objs.size<=X.env.locals
 inj:∀ x y c,X.env.cells.lookup x=some c->X.env.cells.lookup y=some c->x=y
 has:∀ x,(X.env.kindOf x=some .cell\/X.env.kindOf x=some .free)->∃ c,X.env.cells.lookup x=some c
 cab:∀ x c,X.fn x=true->X.env.cells.lookup x=some c->X.s₀.heap.objs.size<=c
 hd:X.calm=true->X.A.handled=none
 frames:X.A.frames=some X.stack
 stk:X.stack=X.outer\/(X.stack=X.env::X.outer/\X.env.frame=some X.env.locals)
 exf:∀ b∈X.ex,b≠X.env.locals/\∀ x c,X.env.cells.lookup x=some c->c≠b
 bs:∀ b o,X.base.get? b=some o->X.s₀.heap.get? b=some o/\X.H₀ b=none
 bsz:X.base.objs.size<=X.s₀.heap.objs.size
 noex:∀ b o,X.base.get? b=some o->b∉X.ex
 exfs:∀ b∈X.ex,b∉X.fs
 funs:X.s₀.heap.FunFrames X.base X.outer
 frf:∀ b∈X.fs,X.H₀ b=none
 seer:X.base.NoSeer
 tree:(model X.prog X.w).prog.given.tree=none
 plr:∀ s:Shared,(∀ b o,X.base.get? b=some o->s.heap.get? b=some o)->PySem.PylongRoom (model X.prog X.w) X.A s
structure Inv (X:Cx) (pins:List (Addr×Obj)) (σ:List (Option V)) (H:Hp) (s:Shared):Prop where
 ok:X.Ok
 os:s.os=X.s₀.os
 bare:AllBare s.gens
 base:Un X.fs X.ex X.H₀ H X.s₀.heap s.heap
 loc:∃ m,s.heap.Ns X.env.locals m/\∀ (i:Nat) (x:Str) (v:V),X.N[i]?=some x->σ[i]?=some (some v)->Vis X.env.scope x->∃ u,RelV v u/\Look X.env s.heap m x u
 cell:∀ x c,X.env.cells.lookup x=some c->∃ v,s.heap.IsCell c v
 free:H X.env.locals=none
 freeC:∀ x c,X.env.cells.lookup x=some c->H c=none
 pin:∀ p∈X.pn++pins,s.heap.get? p.1=some p.2/\H p.1=none/\p.1≠X.env.locals/\p.1∉X.fs/\∀ v,p.2.data≠.cell v
 hok:HOk X.prog X.w H s.heap
 len:σ.length=X.N.length
section
variable {X:Cx} {pins:List (Addr×Obj)} {σ:List (Option V)} {H H':Hp} {s:Shared} {h':Heap}
theorem Cx.Ok.nofr (ok:X.Ok) {b:Addr} {o:Obj} (e:X.base.get? b=some o):b∉X.fs:=λhb=>by
 have:=(ok.funs.mem hb).1
 rw [e] at this;cases this
theorem Inv.bs (I:Inv X pins σ H s):∀ b o,X.base.get? b=some o->s.heap.get? b=some o/\H b=none:=λb o e=>
 ⟨I.base.keep b o (I.ok.bs b o e).1 (I.ok.bs b o e).2 (I.ok.nofr e) (I.ok.noex b o e),I.base.free b o (I.ok.bs b o e).1 (I.ok.bs b o e).2 (I.ok.noex b o e)⟩
theorem Inv.bk (I:Inv X pins σ H s):∀ b o,X.base.get? b=some o->s.heap.get? b=some o:=λb o e=>(I.bs b o e).1
theorem Inv.mod (I:Inv X pins σ H s):Mod X.K X.mg X.base:=I.ok.mod
theorem Inv.kIn (I:Inv X pins σ H s):X.K.In s.heap:=I.ok.mod.kin.keeps I.bk
theorem Inv.nolimit (I:Inv X pins σ H s):s.heap.NoLimit:=I.ok.mod.nolimit.keeps I.bk
theorem Inv.fr (I:Inv X pins σ H s):∃ m,Fr X.base X.env.locals s.heap m:=
 let ⟨m,hn,_⟩:=I.loc
 ⟨m,hn,I.bk,wak I.ok.bsz I.ok.above⟩
theorem Inv.lt (I:Inv X pins σ H s):X.env.locals<s.heap.objs.size:=let ⟨_,hn,_⟩:=I.loc;hn.lt
theorem Inv.sz (I:Inv X pins σ H s):X.s₀.heap.objs.size<=s.heap.objs.size:=wak I.ok.above (Nat.le_of_lt I.lt)
theorem Inv.nofs (I:Inv X pins σ H s) {a:Addr} (h:s.heap.objs.size<=a):a∉X.fs:=λhb=>by
 obtain ⟨_,o,ho,_⟩:=I.ok.funs.mem hb
 exact absurd (wav (Heap.lt_size ho) (wak I.sz h)) (wbb _)
theorem Inv.cne (I:Inv X pins σ H s):∀ x c,X.env.cells.lookup x=some c->c≠X.env.locals:=λx c e z=>by
 obtain ⟨v,o,ho,hd⟩:=I.cell x c e
 obtain ⟨m,⟨o',es,ep,ho',hd',_⟩,_⟩:=I.loc
 rw [z,ho'] at ho;cases ho;rw [hd'] at hd;cases hd
theorem Inv.funs (I:Inv X pins σ H s):s.heap.FunFrames X.base X.outer:=by
 have all:∀ (l:List Env),(∀ b∈frs l,b∈X.fs)->X.s₀.heap.FunFrames X.base l->s.heap.FunFrames X.base l:=by
  intro l
  induction l with
  | nil=>intro _ _;trivial
  | cons env r ih=>
    intro hs hl
    obtain ⟨hk,⟨L,o,hf,hn,ho,hd⟩,hr⟩:=hl
    have hL:L∈X.fs:=hs L (by unfold frs;rw [List.filterMap_cons,hf];exact wbh)
    obtain ⟨sl,e⟩:=I.base.slot L o ho (I.ok.frf L hL) hL λz=>I.ok.exfs L z hL
    exact ⟨hk,⟨L,_,hf,hn,e,hd⟩,ih (λb hb=>hs b (by unfold frs;rw [List.filterMap_cons,hf];exact wbi _ hb)) hr⟩
 exact all X.outer (λ_ hb=>hb) I.ok.funs
theorem Inv.stack (I:Inv X pins σ H s):s.heap.FunFrames X.base X.stack:=by
 rcases I.ok.stk with e | ⟨e,hf⟩
 ·rw [e];exact I.funs
 ·rw [e]
  obtain ⟨m,hn,_⟩:=I.loc
  refine .cons (by rw [I.ok.kind];decide) hf hn ?_ I.funs
  exact Heap.get?_none_of_le (wak I.ok.bsz I.ok.above)
theorem Inv.stkSub (I:Inv X pins σ H s):∀ b∈frs X.stack,b∈X.env.locals::X.fs:=λb hb=>by
 rcases I.ok.stk with e | ⟨e,hf⟩
 ·rw [e] at hb;exact wbi _ hb
 ·rw [e] at hb
  unfold frs at hb
  rw [List.filterMap_cons,hf] at hb
  exact hb
theorem Inv.stkFree (I:Inv X pins σ H s):∀ b∈frs X.stack,H b=none:=λb hb=>by
 rcases wau.mp (I.stkSub b hb) with e | hb
 ·rw [e];exact I.free
 ·obtain ⟨_,o,ho,_⟩:=I.ok.funs.mem hb
  exact I.base.free b o ho (I.ok.frf b hb) λz=>I.ok.exfs b z hb
theorem Inv.step {g':Array GenState} {t':Nat} {d':Drawn} {ch:List Addr} (I:Inv X pins σ H s)
  (hch:∀ b∈ch,(b∈X.ex\/X.s₀.heap.objs.size<=b)/\b≠X.env.locals/\(∀ x c,X.env.cells.lookup x=some c->c≠b)/\∀ p∈X.pn++pins,p.1≠b)
  (keep:∀ b o,b≠X.env.locals->b∉X.fs->b∉ch->s.heap.get? b=some o->H b=none->h'.get? b=some o)
  (slot:∀ b o,b≠X.env.locals->b∈X.fs->b∉ch->s.heap.get? b=some o->H b=none->∃ sl,h'.get? b=some { o with slots:=sl }) (free:∀ b o,b∉ch->s.heap.get? b=some o->H b=none->H' b=none)
  (there:∀ b o,b∉ch->s.heap.get? b=some o->∃ o',h'.get? b=some o')
  (tups:∀ b xs,H b=some (.tup xs)->H' b=some (.tup xs)) (frzs:∀ b o u,H b=some (.frz o u)->H' b=some (.frz o u)) (tbls:∀ b ps,H b=some (.tbl ps)->∃ more,H' b=some (.tbl (ps++more)))
  (ns:∀ m,s.heap.Ns X.env.locals m->h'.Ns X.env.locals m) (hok:HOk X.prog X.w H' h') (hg:AllBare g') :
  Inv X pins σ H' { s with heap:=h',gens:=g',drawn:=d',toks:=t' }:=by
 have neL:∀ b o,X.s₀.heap.get? b=some o->b≠X.env.locals:=λb o e=>wat (wav (Heap.lt_size e) I.ok.above)
 have neC:∀ b o,X.s₀.heap.get? b=some o->b∉X.ex->b∉ch:=λb o e hx hb=>by
  rcases (hch b hb).1 with z | z
  ·exact hx z
  ·exact absurd (wav (Heap.lt_size e) z) (wbb _)
 have cellK:∀ x c,X.env.cells.lookup x=some c->∀ v,s.heap.IsCell c v->h'.IsCell c v:=λx c e v ⟨o,ho,hd⟩=>by
  have nch:c∉ch:=λz=>(hch c z).2.2.1 x c e rfl
  by_cases hc:c∈X.fs
  ·obtain ⟨sl,q⟩:=slot c o (I.cne x c e) hc nch ho (I.freeC x c e)
   exact ⟨_,q,hd⟩
  ·exact ⟨o,keep c o (I.cne x c e) hc nch ho (I.freeC x c e),hd⟩
 refine ⟨I.ok,I.os,hg,⟨λb o e n hb hx=>?_,λb o e n hb hx=>?_,λb o e n hx=>?_,λb o e hx=>?_,λb xs e=>tups b xs (I.base.tups b xs e),λb o xs e=>frzs b o xs (I.base.frzs b o xs e),λb ps e=>?_⟩,?_,λx c e=>?_,?_,λx c e=>?_,λp hp=>?_,hok,I.len⟩
 ·exact keep b o (neL b o e) hb (neC b o e hx) (I.base.keep b o e n hb hx) (I.base.free b o e n hx)
 ·obtain ⟨sl,e1⟩:=I.base.slot b o e n hb hx
  obtain ⟨sl',e2⟩:=slot b _ (neL b o e) hb (neC b o e hx) e1 (I.base.free b o e n hx)
  exact ⟨sl',e2⟩
 ·obtain ⟨o',e1⟩:=I.base.there b o e hx
  exact free b o' (neC b o e hx) e1 (I.base.free b o e n hx)
 ·obtain ⟨o',e1⟩:=I.base.there b o e hx
  exact there b o' (neC b o e hx) e1
 ·obtain ⟨m1,e1⟩:=I.base.tbls b ps e
  obtain ⟨m2,e2⟩:=tbls b _ e1
  exact ⟨m1++m2,by rw [e2,Array.append_assoc]⟩
 ·obtain ⟨m,hn,hl⟩:=I.loc
  refine ⟨m,ns m hn,λi x v e1 e2 e3=>?_⟩
  obtain ⟨u,r,l⟩:=hl i x v e1 e2 e3
  refine ⟨u,r,?_⟩
  rcases l with l | ⟨k,c,e,z⟩
  ·exact .inl l
  ·exact .inr ⟨k,c,e,cellK x c e _ z⟩
 ·obtain ⟨v,z⟩:=I.cell x c e
  exact ⟨v,cellK x c e v z⟩
 ·obtain ⟨m,⟨o,_,_,ho,_⟩,_⟩:=I.loc
  exact free _ o (λz=>(hch _ z).2.1 rfl) ho I.free
 ·obtain ⟨v,o,ho,hd⟩:=I.cell x c e
  exact free c o (λz=>(hch c z).2.2.1 x c e rfl) ho (I.freeC x c e)
 ·obtain ⟨e,n,ne,nf,d⟩:=I.pin p hp
  have nch:p.1∉ch:=λz=>(hch p.1 z).2.2.2 p hp rfl
  exact ⟨keep p.1 p.2 ne nf nch e n,free p.1 p.2 nch e n,ne,nf,d⟩
theorem Inv.un {t':Nat} (I:Inv X pins σ H s) (u:Un X.fs [] H H' s.heap h') (hok:HOk X.prog X.w H' h'):Inv X pins σ H' { s with heap:=h',toks:=t' }:=by
 obtain ⟨m,⟨o,es,ep,ho,r⟩,_⟩:=id I.loc
 obtain ⟨sl,hL⟩:=u.any ho I.free (by simp)
 exact I.step (g':=s.gens) (d':=s.drawn) (ch:=[]) (λ_ z=>nomatch z) (λb o _ hb _ e n=>u.keep b o e n hb (by simp)) (λb o _ hb _ e n=>u.slot b o e n hb (by simp)) (λb o _ e n=>u.free b o e n (by simp)) (λb o _ e=>u.there b o e (by simp)) u.tups u.frzs u.tbls (λm' hm=>by
  obtain ⟨o',es',ep',ho',r'⟩:=hm
  rw [ho] at ho';cases ho'
  exact ⟨_,es',ep',hL,r'⟩) hok I.bare
theorem Inv.call {g':Array GenState} {t':Nat} {d':Drawn} {ch:List Addr} (I:Inv X pins σ H s) (u:Un (frs X.stack) ch H H' s.heap h') (hok:HOk X.prog X.w H' h') (hg:AllBare g')
  (hch:∀ b∈ch,(b∈X.ex\/X.s₀.heap.objs.size<=b)/\b≠X.env.locals/\(∀ x c,X.env.cells.lookup x=some c->c≠b)/\∀ p∈X.pn++pins,p.1≠b) :
  Inv X pins σ H' { s with heap:=h',gens:=g',drawn:=d',toks:=t' }:=by
 obtain ⟨m,⟨o,es,ep,ho,r⟩,_⟩:=id I.loc
 obtain ⟨sl,hL⟩:=u.any ho I.free λz=>(hch _ z).2.1 rfl
 exact I.step (ch:=ch) hch (λb o hL hb hc e n=>u.keep b o e n (λz=>(wau.mp (I.stkSub b z)).elim hL hb) hc) (λb o _ _ hc e n=>u.any e n hc) (λb o hc e n=>u.free b o e n hc) (λb o hc e=>u.there b o e hc) u.tups u.frzs u.tbls (λm' hm=>by
  obtain ⟨o',es',ep',ho',r'⟩:=hm
  rw [ho] at ho';cases ho'
  exact ⟨_,es',ep',hL,r'⟩) hok hg
theorem Inv.turned {t':Nat} {it:Addr} (I:Inv X pins σ H s) (k:∀ b o,b≠it->s.heap.get? b=some o->h'.get? b=some o) (hn:H it=none) (hL:it≠X.env.locals)
  (h1:it∈X.ex\/X.s₀.heap.objs.size<=it) (h2:∀ x c,X.env.cells.lookup x=some c->c≠it) (h3:∀ p∈X.pn++pins,p.1≠it):Inv X pins σ H { s with heap:=h',toks:=t' }:=by
 have nit:∀ b u,H b=some u->b≠it:=λb u e z=>by rw [z,hn] at e;cases e
 refine I.step (g':=s.gens) (d':=s.drawn) (ch:=[it]) (λb hb=>?_) (λb o _ _ hc e _=>k b o (λz=>hc (by simp [z])) e) (λb o _ _ hc e _=>⟨o.slots,k b o (λz=>hc (by simp [z])) e⟩) (λ_ _ _ _ n=>n)
  (λb o hc e=>⟨o,k b o (λz=>hc (by simp [z])) e⟩) (λ_ _ e=>e) (λ_ _ _ e=>e) (λb ps e=>⟨#[],by rw [e];simp⟩) (λm hm=>?_) (λb u e=>?_) I.bare
 ·have e:b=it:=by simpa using hb
  subst e
  exact ⟨h1,hL,h2,h3⟩
 ·obtain ⟨o,es,ep,ho,r⟩:=hm
  exact ⟨o,es,ep,k _ o (Ne.symm hL) ho,r⟩
 ·refine (I.hok b u e).stay (λc v hc q=>k c v ?_ q) (λ_ q=>q) λ_ _ q=>q
  rcases hc with z | z
  ·rw [z];exact nit b u e
  ·exact nit c _ z
theorem Inv.tok (I:Inv X pins σ H s) (t:Nat):Inv X pins σ H { s with toks:=t }:=I.un (h':=s.heap) (t':=t) Un.refl I.hok
theorem Inv.kept {t':Nat} (I:Inv X pins σ H s) (k:∀ b u,s.heap.get? b=some u->h'.get? b=some u):Inv X pins σ H { s with heap:=h',toks:=t' }:=I.un (Un.kept k) (I.hok.kept k)
theorem Inv.laid {a:Addr} {o:HO} {t':Nat} (I:Inv X pins σ H s) (k:∀ b u,s.heap.get? b=some u->h'.get? b=some u) (hp:s.heap.objs.size<=a) (new:ObjOk X.prog X.w (upd H a o) h' a o) :
  Inv X pins σ (upd H a o) { s with heap:=h',toks:=t' }:=I.un (Un.laid k hp (I.hok.fresh hp)) (I.hok.laid k hp new)
theorem Inv.write {x e:Addr} {o:HO} {t':Nat} (I:Inv X pins σ H s) (mu:Mut (H x)) (he:e=x\/H e=some (.own x)) (k:∀ b u,b≠e->s.heap.get? b=some u->h'.get? b=some u) (heo:∃ u,h'.get? e=some u)
  (new:ObjOk X.prog X.w (upd H x o) h' x o):Inv X pins σ (upd H x o) { s with heap:=h',toks:=t' }:=I.un (Un.write mu he k heo) (I.hok.write mu he k heo new)
theorem Inv.pins_of {pins':List (Addr×Obj)} (I:Inv X pins σ H s) (h:∀ p∈pins',s.heap.get? p.1=some p.2/\H p.1=none/\p.1≠X.env.locals/\p.1∉X.fs/\∀ v,p.2.data≠.cell v):Inv X pins' σ H s:=
 ⟨I.ok,I.os,I.bare,I.base,I.loc,I.cell,I.free,I.freeC,λp hp=>(wa7.mp hp).elim (λz=>I.pin p (List.mem_append_left _ z)) (h p),I.hok,I.len⟩
theorem qm3 {N:List Str} (hN:N.Nodup) {i j:Nat} {x:Str} (a:N[i]?=some x) (b:N[j]?=some x):i=j:=by
 obtain ⟨h1,e1⟩:=wap.mp a
 obtain ⟨h2,e2⟩:=wap.mp b
 exact (List.getElem_inj hN).mp (e1.trans e2.symm)
theorem qhp {M:Model} {A:Around} {E:Value->Shared->Prop} {i:Nat} {x:Str} {v:V} {u:Value} {Q:Unit->Shared->Prop} (I:Inv X pins σ H s) (hN:X.N.Nodup) (hi:X.N[i]?=some x) (hx:Loc X.env.scope x) (r:RelV v u)
  (h:∀ s',Inv X pins (σ.set i (some v)) H s'->(∃ a,Heap.SameBut a s.heap s'.heap/\(a=X.env.locals\/X.env.cells.lookup x=some a))->Q () s') (hf:X.fn x=true\/X.env.scope.names.lookup x=some .local:=by first | exact .inl rfl | exact .inr rfl | assumption):wpAny M A (storeName X.env x u) Q E s:=by
 obtain ⟨m,hn,hl⟩:=id I.loc
 have hcls:(X.env.scope.kind == .class || (X.env.scope.kind == .module && X.env.locals != X.env.globals))=false:=by rw [I.ok.kind];rfl
 have hiσ:i<σ.length:=by rw [I.len];exact (wap.mp hi).1
 have cne:=I.cne
 have tracked:∀ {a:Addr} {h':Heap},(∃ o,s.heap.get? a=some o/\H a=none)->Heap.SameBut a s.heap h'->HOk X.prog X.w H h':=λ{a h'} ha hs b ob e=>by
  obtain ⟨_,_,hfree⟩:=ha
  refine (I.hok b ob e).stay (λc w' hc q=>(hs.2 c ?_).trans q) (λ_ q=>q) λ_ _ q=>q
  rintro rfl
  rcases hc with rfl | hc
  ·rw [hfree] at e;cases e
  ·rw [hfree] at hc;cases hc
 rcases hx with hk | hk
 ·refine wpAny_storeName_local hk hn (λh' hn' hs=>?_) hcls
  obtain ⟨oL,_,_,hoL,_⟩:=id hn
  refine h _ ⟨I.ok,I.os,I.bare,⟨λb o e n hb hx=>?_,λb o e n hb hx=>?_,I.base.free,λb o e hx=>?_,I.base.tups,I.base.frzs,I.base.tbls⟩,⟨_,hn',λj y v' e1 e2 e3=>?_⟩,λy c e=>?_,I.free,I.freeC,λp hp=>?_,tracked ⟨oL,hoL,I.free⟩ hs,by simpa using I.len⟩ ⟨_,hs,.inl rfl⟩
  ·exact (hs.2 b (wat (wav (Heap.lt_size e) I.ok.above))).trans (I.base.keep b o e n hb hx)
  ·obtain ⟨sl,e1⟩:=I.base.slot b o e n hb hx
   exact ⟨sl,(hs.2 b (wat (wav (Heap.lt_size e) I.ok.above))).trans e1⟩
  ·obtain ⟨o',e1⟩:=I.base.there b o e hx
   exact ⟨o',(hs.2 b (wat (wav (Heap.lt_size e) I.ok.above))).trans e1⟩
  ·by_cases hj:j=i
   ·subst hj
    rw [hi] at e1;cases e1
    rw [List.getElem?_set_self hiσ] at e2
    cases e2
    exact ⟨u,r,.inl ⟨hk,by simp⟩⟩
   ·rw [List.getElem?_set_ne (Ne.symm hj)] at e2
    obtain ⟨u',r',q⟩:=hl j y v' e1 e2 e3
    refine ⟨u',r',?_⟩
    rcases q with ⟨k,e⟩ | ⟨k,c,e,z⟩
    ·refine .inl ⟨k,?_⟩
     have:y≠x:=λe=>hj (qm3 hN e1 (e ▸ hi))
     simp [this,e]
    ·exact .inr ⟨k,c,e,z.sameBut hs (cne y c e)⟩
  ·obtain ⟨w',z⟩:=I.cell y c e
   exact ⟨w',z.sameBut hs (cne y c e)⟩
  ·obtain ⟨e,n,ne,nf,d⟩:=I.pin p hp
   exact ⟨(hs.2 p.1 ne).trans e,n,ne,nf,d⟩
 ·have hfn:X.fn x=true:=by
   rcases hf with z | z
   ·exact z
   ·rw [z] at hk;cases hk
  obtain ⟨c,hc⟩:=I.ok.has x (.inl hk)
  obtain ⟨w',z⟩:=I.cell x c hc
  refine wpAny_storeName_cell I.ok.kind hk hc z (λh' hc' hs=>?_)
  obtain ⟨oc,hoc,hocd⟩:=id z
  refine h { s with heap:=h' } ⟨I.ok,I.os,I.bare,⟨λb o e n hb hx=>?_,λb o e n hb hx=>?_,I.base.free,λb o e hx=>?_,I.base.tups,I.base.frzs,I.base.tbls⟩,⟨m,hn.sameBut hs (Ne.symm (cne x c hc)),λj y v' e1 e2 e3=>?_⟩,λy c' e=>?_,I.free,I.freeC,λp hp=>?_,tracked ⟨oc,hoc,I.freeC x c hc⟩ hs,by simpa using I.len⟩ ⟨c,hs,.inr hc⟩
  ·exact (hs.2 b (wat (wav (Heap.lt_size e) (I.ok.cab x c hfn hc)))).trans (I.base.keep b o e n hb hx)
  ·obtain ⟨sl,e1⟩:=I.base.slot b o e n hb hx
   exact ⟨sl,(hs.2 b (wat (wav (Heap.lt_size e) (I.ok.cab x c hfn hc)))).trans e1⟩
  ·obtain ⟨o',e1⟩:=I.base.there b o e hx
   exact ⟨o',(hs.2 b (wat (wav (Heap.lt_size e) (I.ok.cab x c hfn hc)))).trans e1⟩
  ·by_cases hj:j=i
   ·subst hj
    rw [hi] at e1;cases e1
    rw [List.getElem?_set_self hiσ] at e2
    cases e2
    exact ⟨u,r,.inr ⟨.inl hk,c,hc,hc'⟩⟩
   ·rw [List.getElem?_set_ne (Ne.symm hj)] at e2
    obtain ⟨u',r',q⟩:=hl j y v' e1 e2 e3
    refine ⟨u',r',?_⟩
    rcases q with q | ⟨k,c',e,z'⟩
    ·exact .inl q
    ·refine .inr ⟨k,c',e,z'.sameBut hs ?_⟩
     rintro rfl
     exact hj (qm3 hN e1 (I.ok.inj _ _ _ e hc ▸ hi))
  ·by_cases hcc:c'=c
   ·subst hcc;exact ⟨_,hc'⟩
   ·obtain ⟨w2,z2⟩:=I.cell y c' e
    exact ⟨w2,z2.sameBut hs hcc⟩
  ·obtain ⟨e,n,ne,nf,d⟩:=I.pin p hp
   refine ⟨(hs.2 p.1 ?_).trans e,n,ne,nf,d⟩
   intro q
   rw [q,hoc] at e
   have q':oc=p.2:=Option.some.inj e
   exact d w' (by rw [<-q'];exact hocd)
theorem qjn {M:Model} {A:Around} {E:Value->Shared->Prop} {i:Nat} {x:Str} {v:V} {u:Value} {Q:Unit->Shared->Prop} (I:Inv X pins σ H s) (hN:X.N.Nodup) (hi:X.N[i]?=some x) (hx:Loc X.env.scope x) (r:RelV v u)
  (h:∀ s',Inv X pins (σ.set i (some v)) H s'->Q () s') (hf:X.fn x=true\/X.env.scope.names.lookup x=some .local:=by first | exact .inl rfl | exact .inr rfl | assumption):wpAny M A (storeName X.env x u) Q E s:=
 qhp I hN hi hx r (λs' I' _=>h s' I') hf
theorem Inv.call' {s':Shared} {ch:List Addr} (I:Inv X pins σ H s) (ho:s'.os=s.os) (u:Un (frs X.stack) ch H H' s.heap s'.heap) (hok:HOk X.prog X.w H' s'.heap) (hg:AllBare s'.gens)
  (hch:∀ b∈ch,(b∈X.ex\/X.s₀.heap.objs.size<=b)/\b≠X.env.locals/\(∀ x c,X.env.cells.lookup x=some c->c≠b)/\∀ p∈X.pn++pins,p.1≠b):Inv X pins σ H' s':=by
 obtain ⟨h',g',d',t',o'⟩:=s'
 have e:o'=s.os:=ho
 subst e
 exact I.call (g':=g') (t':=t') (d':=d') u hok hg hch
end
noncomputable abbrev XK:=Value->Option Addr->Hp->Prop
noncomputable abbrev St:=List (Option V)
noncomputable abbrev VK:=V->Hp->Prop
noncomputable abbrev TE:=St->Hp->VK->Prop
noncomputable abbrev TT:=St->Hp->(Bool->Hp->Prop)->Prop
noncomputable abbrev TA:=St->Hp->(List V->Hp->Prop)->Prop
structure Ends where
 nx:St->Hp->Prop
 rt:VK
 bk:St->Hp->Prop:=λ_ _=>False
 ct:St->Hp->Prop:=λ_ _=>False
noncomputable abbrev TS:=Ends->St->Hp->Prop
noncomputable def EP (X:Cx) (pins:List (Addr×Obj)) (σ:St) (Q:VK) (u:Value) (s':Shared):Prop:=∃ v H',Inv X pins σ H' s'/\RelV v u/\Q v H'
noncomputable def TP (X:Cx) (pins:List (Addr×Obj)) (σ:St) (Q:Bool->Hp->Prop) (b:Bool) (s':Shared):Prop:=∃ H',Inv X pins σ H' s'/\Q b H'
noncomputable def AP (X:Cx) (pins:List (Addr×Obj)) (σ:St) (Q:List V->Hp->Prop) (us:List Value) (s':Shared):Prop:=∃ vs H',Inv X pins σ H' s'/\Vals vs us/\Q vs H'
noncomputable def SP (X:Cx) (pins:List (Addr×Obj)) (D:Ends) (f:Flow) (s':Shared):Prop:=
 match f with
 | .next=>∃ σ' H',Inv X pins σ' H' s'/\D.nx σ' H'
 | .brk=>∃ σ' H',Inv X pins σ' H' s'/\D.bk σ' H'
 | .cont=>∃ σ' H',Inv X pins σ' H' s'/\D.ct σ' H'
 | .ret u=>∃ v σ' H',Inv X pins σ' H' s'/\RelV v u/\D.rt v H'
noncomputable def PE (X:Cx) (e:Expr) (t:TE):Prop:=
 ∀ (pins:List (Addr×Obj)) (s:Shared) (σ:St) (H:Hp) (Q:VK),Inv X pins σ H s->t σ H Q->wpAny (model X.prog X.w) X.A (eval e X.env) (EP X pins σ Q) X.xe s
noncomputable def PT (X:Cx) (e:Expr) (t:TT):Prop:=
 ∀ (pins:List (Addr×Obj)) (s:Shared) (σ:St) (H:Hp) (Q:Bool->Hp->Prop),Inv X pins σ H s->t σ H Q->wpAny (model X.prog X.w) X.A (isTrue e X.env (eval e X.env)) (TP X pins σ Q) X.xe s
noncomputable def PW (X:Cx) (e:Expr) (t:TT):Prop:=
 ∀ (whole:Sem Value) (pins:List (Addr×Obj)) (s:Shared) (σ:St) (H:Hp) (Q:Bool->Hp->Prop),Inv X pins σ H s->t σ H Q->wpAny (model X.prog X.w) X.A (isTrue e X.env whole) (TP X pins σ Q) X.xe s
theorem PW.pt {X:Cx} {e:Expr} {t:TT} (h:PW X e t):PT X e t:=h _
noncomputable def PA (X:Cx) (es:List Expr) (t:TA):Prop:=
 ∀ (pos:Pos) (pins:List (Addr×Obj)) (s:Shared) (σ:St) (H:Hp) (Q:List V->Hp->Prop),Inv X pins σ H s->t σ H Q->wpAny (model X.prog X.w) X.A (spliced (backTo pos (starEach es X.env))) (AP X pins σ Q) X.xe s
noncomputable def PS (X:Cx) (st:Stmt) (t:TS):Prop:=
 ∀ (pins:List (Addr×Obj)) (s:Shared) (σ:St) (H:Hp) (D:Ends),Inv X pins σ H s->t D σ H->wpAny (model X.prog X.w) X.A (exec st X.env) (SP X pins D) X.xe s
noncomputable def PSs (X:Cx) (st:List Stmt) (t:TS):Prop:=
 ∀ (pins:List (Addr×Obj)) (s:Shared) (σ:St) (H:Hp) (D:Ends),Inv X pins σ H s->t D σ H->wpAny (model X.prog X.w) X.A (execs st X.env) (SP X pins D) X.xe s
theorem thn {α:Type} {t:Sem α} {Q Q':α->Shared->Prop} {M:Model} {A:Around} {E:Value->Shared->Prop} {s:Shared} (h:wpAny M A t Q E s) (hQ:∀ a s,Q a s->Q' a s):wpAny M A t Q' E s:=wpAny_mono h hQ λ_ _ x=>x
end L2
namespace L2
open PySem PySem.Spec PyProof.Rows
section
variable {X:Cx}
noncomputable def qag (i:Nat):TE:=λσ H Q=>∃ v,σ[i]?=some (some v)/\Q v H
noncomputable def tC (v:V):TE:=λ_ H Q=>Q v H
theorem qvs {i:Nat} {x:Str} {pos:Pos} (hN:X.N[i]?=some x) (hv:Vis X.env.scope x) (hd:(x == ("__debug__" : Str))=false:=by decide) (hcd:(x == ("__classdict__" : Str))=false:=by decide):PE X (.Name x pos) (qag i):=by
 intro pins s σ H Q I h
 obtain ⟨v,e,h⟩:=h
 obtain ⟨m,hn,hl⟩:=I.loc
 obtain ⟨u,r,l⟩:=hl i x v hN e hv
 have fin:EP X pins σ Q u s:=⟨v,H,I,r,h⟩
 rcases l with ⟨hk,hm⟩ | ⟨hk,c,hc,hcell⟩
 ·exact wpAny_Name (wpAny_loadName_local I.ok.kind hk hn hm fin) hd
 ·rcases hk with hk | hk
  ·exact wpAny_Name (wpAny_loadName_cell I.ok.kind hk hc hcell fin) hd
  ·exact wpAny_Name (wpAny_loadName_free I.ok.kind hk hc hcell fin hcd) hd
theorem qae {i j pos}:PE X (.Constant (.int i) j pos) (tC (.int i)):=λ_ _ _ H _ I h=>wpAny_Constant_int ⟨.int i,H,I.tok _,⟨_,rfl⟩,h⟩
theorem qlT {b j pos}:PE X (.Constant (.bool b) j pos) (tC (.bl b)):=λ_ _ _ H _ I h=>Constant_bool ⟨.bl b,H,I,rfl,h⟩
theorem qhq {j pos}:PE X (.Constant .none j pos) (tC .non):=λ_ _ _ H _ I h=>Constant_none ⟨.non,H,I,rfl,h⟩
theorem qc3 {x j pos}:PE X (.Constant (.str x) j pos) (tC (.str x)):=λ_ _ _ H _ I h=>Calls.Constant_str ⟨.str x,H,I.tok _,⟨_,rfl⟩,h⟩
noncomputable def Gl (X:Cx) (x:Str):Prop:=X.env.kindOf x=some .globalImplicit
theorem qo8 {E:Value->Shared->Prop} {pins:List (Addr×Obj)} {s:Shared} {σ:St} {H:Hp} {x:Str} {u:Value} {pos:Pos} {Q:Value->Shared->Prop} (I:Inv X pins σ H s) (hg:Gl X x) (hm:X.mg x=some u) (h:Q u s)
  (hd:(x == ("__debug__" : Str))=false:=by decide):wpAny (model X.prog X.w) X.A (eval (.Name x pos) X.env) Q E s:=
 Calls.Name_function_global I.ok.kind hg (Calls.loadGlobal_global (by rw [I.ok.glob];exact I.mod.glob.keeps I.bk) hm h) hd
theorem qgp {E:Value->Shared->Prop} {pins:List (Addr×Obj)} {s:Shared} {σ:St} {H:Hp} {x:Str} {u:Value} {pos:Pos} {Q:Value->Shared->Prop} (I:Inv X pins σ H s) (hg:Gl X x) (hm:X.mg x=none) (hv:bootBuiltins x=some u) (h:Q u s)
  (hn:x ≠ "__name__" := by decide) (hd:(x == ("__debug__" : Str))=false:=by decide):wpAny (model X.prog X.w) X.A (eval (.Name x pos) X.env) Q E s:=by
 obtain ⟨mb,h1,h2⟩:=I.mod.blt
 exact Calls.Name_function_global I.ok.kind hg (Calls.loadGlobal_builtin (by rw [I.ok.glob];exact I.mod.glob.keeps I.bk) hm (by rw [I.ok.blt];exact h1.keeps I.bk) ((h2 x hn).trans hv) h) hd
theorem qt4 {x:Str} {v:V} {u:Value} {pos:Pos} (hg:Gl X x) (hm:X.mg x=some u) (r:RelV v u) (hd:(x == ("__debug__" : Str))=false:=by decide):PE X (.Name x pos) (tC v):=
 λ_ _ _ H _ I h=>qo8 I hg hm ⟨v,H,I,r,h⟩ hd
variable {a b:Expr} {ta tb:TE} {pos:Pos}
noncomputable def tB (t:TE):TT:=λσ H Q=>t σ H λx H1=>∃ c,x=.bl c/\Q c H1
theorem qo9 {e:Expr} {t:TE} (h:PE X e t) (he:∀ whole,isTrue e X.env whole=(do let v <-whole;standAt e.pos;holding [v] (truthy v)):=by intro _;rfl):PT X e (tB t):=by
 intro pins s σ H Q I hw
 refine isTrue_plain (thn (h pins s σ H _ I hw) λv s1 ⟨x,H1,I1,r1,q1⟩=>?_) (he _)
 obtain ⟨d,rfl,q⟩:=q1
 cases r1
 exact wpAny_truthy_bool ⟨H1,I1,q⟩
variable {tA tB':TT} {rest:List Expr}
noncomputable def qo3 (t u:TT):TT:=λσ H Q=>t σ H λc H1=>if c=true then u σ H1 Q else Q false H1
noncomputable def tOr (t u:TT):TT:=λσ H Q=>t σ H λc H1=>if c=true then Q true H1 else u σ H1 Q
noncomputable def qvl (t:TT):TT:=λσ H Q=>t σ H λc H1=>Q (!c) H1
theorem qdM (ha:PT X a tA):PW X (.BoolOp .And [a] pos) tA:=by
 intro wh pins s σ H Q I h
 refine isTrue_and (thn (ha pins s σ H Q I h) λc s1 e=>?_)
 cases c with
 | true=>exact isTrue_and_nil e
 | false=>exact e
theorem qth (ha:PT X a tA):PW X (.BoolOp .Or [a] pos) tA:=by
 intro wh pins s σ H Q I h
 refine isTrue_or (thn (ha pins s σ H Q I h) λc s1 e=>?_)
 cases c with
 | false=>exact isTrue_or_nil e
 | true=>exact e
theorem qfk (ha:PT X a tA) (hb:PW X (.BoolOp .And (b::rest) pos) tB'):PW X (.BoolOp .And (a::b::rest) pos) (qo3 tA tB'):=by
 intro wh pins s σ H Q I h
 refine isTrue_and (thn (ha pins s σ H _ I h) λc s1 ⟨H1,I1,q1⟩=>?_)
 cases c with
 | true=>exact hb wh pins s1 σ H1 Q I1 q1
 | false=>exact ⟨H1,I1,q1⟩
theorem qvt (ha:PT X a tA) (hb:PW X (.BoolOp .Or (b::rest) pos) tB'):PW X (.BoolOp .Or (a::b::rest) pos) (tOr tA tB'):=by
 intro wh pins s σ H Q I h
 refine isTrue_or (thn (ha pins s σ H _ I h) λc s1 ⟨H1,I1,q1⟩=>?_)
 cases c with
 | true=>exact ⟨H1,I1,q1⟩
 | false=>exact hb wh pins s1 σ H1 Q I1 q1
theorem qpa (ha:PT X a tA):PT X (.UnaryOp .Not a pos) (qvl tA):=by
 intro pins s σ H Q I h
 exact isTrue_not (ha pins s σ H (λc H1=>Q (!c) H1) I h)
noncomputable def qvu (ta tb:TE):TE:=λσ H Q=>ta σ H λx H1=>∃ c,x=.bl c/\if c=true then tb σ H1 Q else Q (.bl false) H1
noncomputable def qxr (ta tb:TE):TE:=λσ H Q=>ta σ H λx H1=>∃ c,x=.bl c/\if c=true then Q (.bl true) H1 else tb σ H1 Q
noncomputable def qvv (ta:TE):TE:=λσ H Q=>ta σ H λx H1=>∃ c,x=.bl c/\Q (.bl (!c)) H1
noncomputable def tIf (t:TT) (ta tb:TE):TE:=λσ H Q=>t σ H λc H1=>if c=true then ta σ H1 Q else tb σ H1 Q
theorem qg3 {c:Expr} (hc:PT X c tA) (ha:PE X a ta) (hb:PE X b tb):PE X (.IfExp c a b pos) (tIf tA ta tb):=by
 intro pins s σ H Q I h
 refine wpAny_IfExp (thn (hc pins s σ H _ I h) λd s1 ⟨H1,I1,q1⟩=>?_)
 cases d with
 | true=>exact ha pins s1 σ H1 Q I1 q1
 | false=>exact hb pins s1 σ H1 Q I1 q1
end
end L2
namespace L2
open PySem PySem.Spec PyProof.Rows
noncomputable def SqL (K:PySem.W.Frag) (H:Hp) (a:Addr) (xs:List V):Prop:=
 Rd H a (.lst xs)\/
  ∃ (o:Obj) (its:Array Value) (n:Nat),K.lookup a=some o/\o.cls=.type "list" /\ o.dict=none/\o.data=.seq its n/\its.size<=sizeLine/\Vals xs its.toList
noncomputable def SqT (K:PySem.W.Frag) (H:Hp) (a:Addr) (xs:List V):Prop:=
 Rd H a (.tup xs)\/
  ∃ (o:Obj) (its:Array Value) (n:Nat),K.lookup a=some o/\o.cls=.type "tuple" /\ o.data=.seq its n/\its.size<=sizeLine/\Vals xs its.toList
noncomputable def qxP:Value->Option V
 | .none=>some .non
 | .bool b=>some (.bl b)
 | .int i _=>some (.int i)
 | .str x _=>some (.str x)
 | .bytes b _=>some (.byt b)
 | .float b _=>some (.flt b)
 | .ref a=>some (.ref a)
 | .type n=>some (.ty n)
 | _=>none
theorem RelV.abs {x:V} {u:Value} (r:RelV x u):qxP u=some x:=by
 cases x with
 | non=>cases r;rfl
 | bl _=>cases r;rfl
 | int _=>obtain ⟨t,rfl⟩:=r;rfl
 | str _=>obtain ⟨t,rfl⟩:=r;rfl
 | byt _=>obtain ⟨t,rfl⟩:=r;rfl
 | flt _=>obtain ⟨t,rfl⟩:=r;rfl
 | ref _=>cases r;rfl
 | ty _=>cases r;rfl
theorem RelV.inj {x y:V} {u:Value} (r:RelV x u) (q:RelV y u):x=y:=Option.some.inj (r.abs.symm.trans q.abs)
theorem Vals.inj:∀ {xs ys:List V} {us:List Value},Vals xs us->Vals ys us->xs=ys
 | _,_,_,.nil,.nil=>rfl
 | _,_,_,.cons r t,.cons r' t'=>by rw [r.inj r',Vals.inj t t']
section
variable {X:Cx} {pins:List (Addr×Obj)} {σ:St} {H:Hp} {s:Shared} {a:Addr} {xs ys:List V}
theorem SqL.of {K:PySem.W.Frag} (h:H a=some (.lst xs)):SqL K H a xs:=.inl (.inl h)
theorem SqT.of {K:PySem.W.Frag} (h:H a=some (.tup xs)):SqT K H a xs:=.inl (.inl h)
theorem Inv.list (I:Inv X pins σ H s) (h:SqL X.K H a xs):∃ its:List Value,Vals xs its/\PlainL s.heap a its.toArray/\xs.length<=sizeLine:=by
 rcases h with h | ⟨o,its,n,hk,hc,hd,hs,hz,r⟩
 ·obtain ⟨z,its,n,r,e⟩:=h.ok I.hok
  exact ⟨its,r,⟨_,n,e,rfl,rfl,rfl⟩,z⟩
 ·refine ⟨its.toList,r,⟨o,n,I.kIn a o hk,hc,hd,by simpa using hs⟩,?_⟩
  have e:=r.length
  simp only [Array.length_toList] at e
  omega
theorem Inv.tuple (I:Inv X pins σ H s) (h:SqT X.K H a xs):∃ its:List Value,Vals xs its/\IsTup s.heap a its.toArray/\xs.length<=sizeLine:=by
 rcases h with h | ⟨o,its,n,hk,hc,hs,hz,r⟩
 ·obtain ⟨z,its,r,p⟩:=h.ok I.hok
  exact ⟨its,r,p,z⟩
 ·refine ⟨its.toList,r,⟨o,I.kIn a o hk,hc,n,by simpa using hs⟩,?_⟩
  have e:=r.length
  simp only [Array.length_toList] at e
  omega
theorem Inv.list_inj (I:Inv X pins σ H s) (h:SqL X.K H a xs) (h':SqL X.K H a ys):xs=ys:=by
 obtain ⟨its,r,⟨o,n,e,_,_,d⟩,_⟩:=I.list h
 obtain ⟨its',r',⟨o',n',e',_,_,d'⟩,_⟩:=I.list h'
 rw [e] at e';cases e'
 rw [d] at d'
 injection d' with d1 _
 have:its=its':=by simpa using congrArg Array.toList d1
 subst this
 exact r.inj r'
theorem Inv.tuple_inj (I:Inv X pins σ H s) (h:SqT X.K H a xs) (h':SqT X.K H a ys):xs=ys:=by
 obtain ⟨its,r,⟨o,e,_,n,d⟩,_⟩:=I.tuple h
 obtain ⟨its',r',⟨o',e',_,n',d'⟩,_⟩:=I.tuple h'
 rw [e] at e';cases e'
 rw [d] at d'
 injection d' with d1 _
 have:its=its':=by simpa using congrArg Array.toList d1
 subst this
 exact r.inj r'
end
noncomputable abbrev Cx.wish (X:Cx) (E:Value->Shared->Prop):Cx:={ X with xe:=E }
noncomputable abbrev Cx.nox (X:Cx):Cx:=X.wish λ_ _=>False
theorem Cx.Ok.wish {X:Cx} (ok:X.Ok) (E:Value->Shared->Prop):(X.wish E).Ok:=
 ⟨ok.mod,ok.kind,ok.glob,ok.blt,ok.above,ok.inj,ok.has,ok.cab,ok.hd,ok.frames,ok.stk,ok.exf,ok.bs,ok.bsz,ok.noex,ok.exfs,ok.funs,ok.frf,ok.seer,ok.tree,ok.plr⟩
theorem Cx.Ok.unwish {X:Cx} {E:Value->Shared->Prop} (ok:(X.wish E).Ok):X.Ok:=
 ⟨ok.mod,ok.kind,ok.glob,ok.blt,ok.above,ok.inj,ok.has,ok.cab,ok.hd,ok.frames,ok.stk,ok.exf,ok.bs,ok.bsz,ok.noex,ok.exfs,ok.funs,ok.frf,ok.seer,ok.tree,ok.plr⟩
section
variable {X:Cx} {pins:List (Addr×Obj)} {σ:St} {H:Hp} {s:Shared} {E:Value->Shared->Prop}
theorem Inv.wish (I:Inv X pins σ H s) (E:Value->Shared->Prop):Inv (X.wish E) pins σ H s:=⟨I.ok.wish E,I.os,I.bare,I.base,I.loc,I.cell,I.free,I.freeC,I.pin,I.hok,I.len⟩
theorem Inv.unwish (I:Inv (X.wish E) pins σ H s):Inv X pins σ H s:=⟨I.ok.unwish,I.os,I.bare,I.base,I.loc,I.cell,I.free,I.freeC,I.pin,I.hok,I.len⟩
theorem SP.unwish {D:Ends} {f:Flow} {s':Shared} (h:SP (X.wish E) pins D f s'):SP X pins D f s':=by
 cases f with
 | next=>obtain ⟨σ',H',I,q⟩:=h;exact ⟨σ',H',I.unwish,q⟩
 | brk=>obtain ⟨σ',H',I,q⟩:=h;exact ⟨σ',H',I.unwish,q⟩
 | cont=>obtain ⟨σ',H',I,q⟩:=h;exact ⟨σ',H',I.unwish,q⟩
 | ret u=>obtain ⟨v,σ',H',I,r,q⟩:=h;exact ⟨v,σ',H',I.unwish,r,q⟩
theorem PE.nox {e:Expr} {t:TE} (h:PE X.nox e t):PE X e t:=λpins s σ H Q I hw=>
 wpAny_mono (h pins s σ H Q (I.wish _) hw) (λ_ _ ⟨v,H',I',r,q⟩=>⟨v,H',I'.unwish,r,q⟩) λ_ _ z=>False.elim z
theorem PT.nox {e:Expr} {t:TT} (h:PT X.nox e t):PT X e t:=λpins s σ H Q I hw=>
 wpAny_mono (h pins s σ H Q (I.wish _) hw) (λ_ _ ⟨H',I',q⟩=>⟨H',I'.unwish,q⟩) λ_ _ z=>False.elim z
theorem PSs.nox {st:List Stmt} {t:TS} (h:PSs X.nox st t):PSs X st t:=λpins s σ H D I hw=>
 wpAny_mono (h pins s σ H D (I.wish _) hw) (λ_ _ q=>q.unwish) λ_ _ z=>False.elim z
end
section
variable {X:Cx} {st:Stmt} {rest:List Stmt} {t u:TS} {e:Expr} {te:TE} {pos:Pos}
noncomputable def qbN:TS:=λD σ H=>D.nx σ H
noncomputable def qaF (t u:TS):TS:=λD σ H=>t { D with nx:=u D } σ H
theorem qaU:PSs X [] qbN:=λ_ _ σ H _ I h=>wpAny_execs_nil ⟨σ,H,I,h⟩
theorem qad (h1:PS X st t) (h2:PSs X rest u):PSs X (st::rest) (qaF t u):=by
 intro pins s σ H D I h
 refine wpAny_execs_cons (thn (h1 pins s σ H { D with nx:=u D } I h) λf s1 q=>?_)
 cases f with
 | next=>
   obtain ⟨σ',H',I',q⟩:=q
   exact h2 pins s1 σ' H' D I' q
 | ret v=>exact q
 | brk=>exact q
 | cont=>exact q
theorem qah (h1:PS X st t):PSs X [st] t:=by
 intro pins s σ H D I h
 refine wpAny_execs_cons (thn (h1 pins s σ H D I h) λf s1 q=>?_)
 cases f with
 | next=>exact wpAny_execs_nil q
 | ret v=>exact q
 | brk=>exact q
 | cont=>exact q
theorem Inv.quiet {pins:List (Addr×Obj)} {σ:St} {H:Hp} {s:Shared} (I:Inv X pins σ H s):interactive X.env=false:=by simp [interactive,I.ok.kind]
noncomputable def qgL (te:TE):TS:=λD σ H=>te σ H λ_ H1=>D.nx σ H1
theorem qd6 (he:PE X e te) (hs:swapsWith e none pos.line X.env=pure false:=by rfl):PS X (.Expr e pos) (qgL te):=by
 intro pins s σ H D I h
 exact wpAny_Expr_any (thn (he pins s σ H _ I h) λv s1 ⟨x,H1,I1,r1,q1⟩=>⟨σ,H1,I1,q1⟩) I.quiet hs
noncomputable def qbz (te:TE):TS:=λD σ H=>te σ H D.rt
theorem qay (he:PE X e te):PS X (.Return (some e) pos) (qbz te):=by
 intro pins s σ H D I h
 exact wpAny_Return_some (thn (he pins s σ H _ I h) λv s1 ⟨x,H1,I1,r1,q1⟩=>⟨x,σ,H1,I1,r1,q1⟩)
noncomputable def qd5 (c:TT) (t u:TS):TS:=λD σ H=>c σ H λb H1=>if b=true then t D σ H1 else u D σ H1
theorem qbY {c:Expr} {a b:List Stmt} {tc:TT} (hc:PT X c tc) (ha:PSs X a t) (hb:PSs X b u):PS X (.If c a b pos) (qd5 tc t u):=by
 intro pins s σ H D I h
 refine wpAny_If (thn (hc pins s σ H _ I h) λd s1 ⟨H1,I1,q1⟩=>?_)
 cases d with
 | true=>exact ha pins s1 σ H1 D I1 q1
 | false=>exact hb pins s1 σ H1 D I1 q1
end
noncomputable abbrev TG:=V->St->Hp->(St->Hp->Prop)->Prop
noncomputable abbrev TGs:=List V->St->Hp->(St->Hp->Prop)->Prop
noncomputable def PG (X:Cx) (target:Expr) (t:TG):Prop:=
 ∀ (pins:List (Addr×Obj)) (s:Shared) (σ:St) (H:Hp) (v:V) (u:Value) (Q:St->Hp->Prop),Inv X pins σ H s->RelV v u->t v σ H Q->
   wpAny (model X.prog X.w) X.A (assign target X.env u) (λ_ s'=>∃ σ' H',Inv X pins σ' H' s'/\Q σ' H') X.xe s
noncomputable def PGs (X:Cx) (ts:List Expr) (t:TGs):Prop:=
 ∀ (pins:List (Addr×Obj)) (s:Shared) (σ:St) (H:Hp) (vs:List V) (us:List Value) (Q:St->Hp->Prop),Inv X pins σ H s->Vals vs us->t vs σ H Q->
   wpAny (model X.prog X.w) X.A (assignInOrder ((assignEach ts X.env).map (·.2)) us) (λ_ s'=>∃ σ' H',Inv X pins σ' H' s'/\Q σ' H') X.xe s
noncomputable abbrev TSet:=V->V->V->Hp->(Hp->Prop)->Prop
noncomputable def PSet (X:Cx) (t:TSet):Prop:=
 ∀ (pins:List (Addr×Obj)) (s:Shared) (σ:St) (H:Hp) (o i v:V) (ov iv u:Value) (Q:Hp->Prop),Inv X pins σ H s->RelV o ov->RelV i iv->RelV v u->t o i v H Q->
   wpAny (model X.prog X.w) X.A (setItem ov iv u) (λ_ s'=>∃ H',Inv X pins σ H' s'/\Q H') X.xe s
noncomputable abbrev TIp:=V->V->Hp->VK->Prop
noncomputable def PIp (X:Cx) (op:Operator) (t:TIp):Prop:=
 ∀ (pins:List (Addr×Obj)) (s:Shared) (σ:St) (H:Hp) (x y:V) (v u:Value) (Q:VK),Inv X pins σ H s->RelV x v->RelV y u->t x y H Q->
   wpAny (model X.prog X.w) X.A (inplaceOp op v u) (EP X pins σ Q) X.xe s
section
variable {X:Cx} {pos:Pos}
noncomputable def qai (i:Nat):TG:=λv σ H Q=>Q (σ.set i (some v)) H
theorem qaB {i:Nat} {x:Str} (hN:X.N.Nodup) (hi:X.N[i]?=some x) (hx:Loc X.env.scope x) (hf:X.fn x=true\/X.env.scope.names.lookup x=some .local:=by first | exact .inl rfl | exact .inr rfl | assumption):PG X (.Name x pos) (qai i):=by
 intro pins s σ H v u Q I r h
 exact wpAny_assign_Name (qjn I hN hi hx r (λs' I'=>⟨_,H,I',h⟩) hf)
noncomputable def qnY:TGs:=λvs σ H Q=>vs=[]/\Q σ H
noncomputable def qcJ (t:TG) (u:TGs):TGs:=λvs σ H Q=>∃ v r,vs=v::r/\t v σ H λσ' H'=>u r σ' H' Q
theorem qdr:PGs X [] qnY:=by
 intro pins s σ H vs us Q I r h
 obtain ⟨e,h⟩:=h
 subst e
 cases r
 exact assignInOrder_nil ⟨σ,H,I,h⟩
theorem qaY {e:Expr} {es:List Expr} {t:TG} {u:TGs} (h1:PG X e t) (h2:PGs X es u)
  (hs:(assignEach (e::es) X.env).map (·.2)=assign e X.env::(assignEach es X.env).map (·.2):=by rfl):PGs X (e::es) (qcJ t u):=by
 intro pins s σ H vs us Q I r h
 obtain ⟨v,vr,e1,h⟩:=h
 subst e1
 cases r with
 | cons r rr=>
   rw [hs]
   refine assignInOrder_cons (thn (h1 pins s σ H _ _ _ I r h) λ_ s1 ⟨σ1,H1,I1,q1⟩=>?_)
   exact h2 pins s1 σ1 H1 _ _ Q I1 rr q1
noncomputable def qxQ (K:PySem.W.Frag) (n:Nat) (t:TGs):TG:=λv σ H Q=>∃ a xs,v=.ref a/\SqT K H a xs/\xs.length=n/\t xs σ H Q
theorem qvw {es:List Expr} {k:Nat} {t:TGs} {n:Nat} (hc:X.calm=true) (h:PGs X es t)
  (hn:(assignEach es X.env).length=n:=by rfl) (hst:(assignEach es X.env).findIdx? (·.1)=none:=by rfl):PG X (.Tuple es k pos) (qxQ X.K n t):=by
 intro pins s σ H v u Q I r hw
 obtain ⟨a,xs,e1,hq,hl,hw⟩:=hw
 subst e1
 cases r
 obtain ⟨its,rv,ht,hz⟩:=I.tuple hq
 refine assign_Tuple_tuple (I.ok.hd hc) ht (by simp [hn,<-hl,rv.length]) hst λh' hx=>?_
 have I1:Inv X pins σ H { s with heap:=h' }:=I.kept (t':=s.toks) λb o e=>hx b o (wat (Heap.lt_size e)) e
 exact h pins _ σ H xs _ Q I1 (by simpa using rv) hw
noncomputable def qrS (to ti:TE) (t:TSet):TG:=λv σ H Q=>to σ H λo H1=>ti σ H1 λi H2=>t o i v H2 λH3=>Q σ H3
theorem qhr {o i:Expr} {to ti:TE} {t:TSet} (ho:PE X o to) (hi:PE X i ti) (hs:PSet X t)
  (ha:∀ v,assign (.Subscript o i pos) X.env v=(do
   let ov <-holding [v] (eval o X.env)
   let iv <-holding [v,ov] (eval i X.env)
   standAt pos
   holding [v,ov,iv] (setItem ov iv v)
   release [v,ov,iv] []):=by intro _;rfl):PG X (.Subscript o i pos) (qrS to ti t):=by
 intro pins s σ H v u Q I r h
 rw [ha]
 refine wpAny_bind (wpAny_holding (thn (ho pins s σ H _ I h) λov s1 ⟨x,H1,I1,r1,q1⟩=>?_))
 refine wpAny_bind (wpAny_holding (thn (hi pins s1 σ H1 _ I1 q1) λiv s2 ⟨y,H2,I2,r2,q2⟩=>?_))
 refine wpAny_bind (wpAny_standAt (wpAny_bind (wpAny_holding (thn (hs pins s2 σ H2 x y v ov iv u _ I2 r1 r2 r q2) λ_ s3 ⟨H3,I3,q3⟩=>?_))))
 exact wpAny_release ⟨σ,H3,I3,q3⟩
noncomputable def qaM (te:TE) (g:TG):TS:=λD σ H=>te σ H λx H1=>g x σ H1 D.nx
theorem qgq {tg e:Expr} {te:TE} {g:TG} (he:PE X e te) (hg:PG X tg g) (hs:swapsWithSole [tg] e pos.line X.env=pure false:=by rfl) (hw:swappedStores [tg] e X.env=pure none:=by rfl)
  (h1:(assignEach [tg] X.env).map (·.2)=[assign tg X.env]:=by rfl):PS X (.Assign [tg] e pos) (qaM te g):=by
 intro pins s σ H D I h
 refine wpAny_Assign_stores (thn (he pins s σ H _ I h) λv s1 ⟨x,H1,I1,r1,q1⟩=>?_) hs hw
 rw [h1]
 exact thn (hg pins s1 σ H1 x v _ I1 r1 q1) λ_ s2 q=>q
theorem qaj {i:Nat} {x:Str} {e:Expr} {te:TE} {pos':Pos} (hN:X.N.Nodup) (hi:X.N[i]?=some x) (hx:Loc X.env.scope x) (he:PE X e te) (hs:swapsWith e (some (.Name x pos')) pos.line X.env=pure false:=by rfl) (hf:X.fn x=true\/X.env.scope.names.lookup x=some .local:=by first | exact .inl rfl | exact .inr rfl | assumption) :
  PS X (.Assign [.Name x pos'] e pos) (qaM te (qai i)):=by
 intro pins s σ H D I h
 refine wpAny_Assign_Name (thn (he pins s σ H _ I h) λv s1 ⟨y,H1,I1,r1,q1⟩=>?_) hs
 exact qjn I1 hN hi hx r1 (λs2 I2=>⟨_,H1,I2,q1⟩) hf
noncomputable def qxs (i j:Nat) (ta:TA):TS:=λD σ H=>ta σ H λvs H1=>∃ v w,vs=[v,w]/\D.nx ((σ.set i (some v)).set j (some w)) H1
noncomputable def qpb (i:Nat) (te:TE) (ti:TIp):TS:=λD σ H=>∃ x,σ[i]?=some (some x)/\te σ H λy H1=>ti x y H1 λz H2=>D.nx (σ.set i (some z)) H2
theorem qgr {i:Nat} {x:Str} {e:Expr} {te:TE} {op:Operator} {ti:TIp} {pos':Pos} (hN:X.N.Nodup) (hi:X.N[i]?=some x) (hx:Loc X.env.scope x) (he:PE X e te) (ho:PIp X op ti) (hf:X.fn x=true\/X.env.scope.names.lookup x=some .local:=by first | exact .inl rfl | exact .inr rfl | assumption) :
  PS X (.AugAssign (.Name x pos') op e pos) (qpb i te ti):=by
 intro pins s σ H D I h
 obtain ⟨v,e1,h⟩:=h
 obtain ⟨m,hn,hl⟩:=I.loc
 have vis:Vis X.env.scope x:=by rcases hx with k | k;exact .inl k;exact .inr (.inl k)
 obtain ⟨u,r,l⟩:=hl i x v hi e1 vis
 refine wpAny_AugAssign_Name ?_
 have go:wpAny (model X.prog X.w) X.A (eval e X.env) (λw s₂=>wpAny (model X.prog X.w) X.A (inplaceOp op u w) (λr s₃=>wpAny (model X.prog X.w) X.A (storeName X.env x r) (λ_=>SP X pins D .next) X.xe s₃) X.xe s₂) X.xe s:=by
  refine thn (he pins s σ H _ I h) λw s1 ⟨y,H1,I1,r1,q1⟩=>?_
  refine thn (ho pins s1 σ H1 v y u w _ I1 r r1 q1) λz s2 ⟨zv,H2,I2,r2,q2⟩=>?_
  exact qjn I2 hN hi hx r2 (λs3 I3=>⟨_,H2,I3,q2⟩) hf
 rcases l with ⟨hk,hm⟩ | ⟨hk,c,hc,hcell⟩
 ·exact wpAny_loadName_local I.ok.kind hk hn hm go
 ·rcases hk with hk | hk
  ·exact wpAny_loadName_cell I.ok.kind hk hc hcell go
  ·rcases hx with k | k
   ·have:X.env.scope.names.lookup x=some .free:=hk
    rw [k] at this;cases this
   ·have:X.env.scope.names.lookup x=some .free:=hk
    rw [k] at this;cases this
noncomputable def qlU (to ti te:TE) (tget:V->V->Hp->VK->Prop) (tip:TIp) (tset:TSet):TS:=λD σ H=>to σ H λo H1=>ti σ H1 λi H2=>tget o i H2 λx H3=>te σ H3 λy H4=>tip x y H4 λz H5=>tset o i z H5 λH6=>D.nx σ H6
noncomputable def PGet (X:Cx) (t:V->V->Hp->VK->Prop):Prop:=
 ∀ (pins:List (Addr×Obj)) (s:Shared) (σ:St) (H:Hp) (o i:V) (ov iv:Value) (Q:VK),Inv X pins σ H s->RelV o ov->RelV i iv->t o i H Q->
   wpAny (model X.prog X.w) X.A (getItem ov iv) (EP X pins σ Q) X.xe s
theorem qjo {o i e:Expr} {to ti te:TE} {tget:V->V->Hp->VK->Prop} {tip:TIp} {tset:TSet} {op:Operator} {tpos:Pos} (ho:PE X o to) (hi:PE X i ti) (hg:PGet X tget) (he:PE X e te) (hp:PIp X op tip) (hs:PSet X tset)
  (ha:∀ ov iv new,augStore i ov iv new=(do holding [new,ov,iv] (setItem ov iv new);release [new,ov,iv] [];pure .next):=by intros;rfl):PS X (.AugAssign (.Subscript o i tpos) op e pos) (qlU to ti te tget tip tset):=by
 intro pins s σ H D I h
 refine wpAny_AugAssign_SubscriptAny (thn (ho pins s σ H _ I h) λov s1 ⟨x1,H1,I1,r1,q1⟩=>?_) ha
 refine thn (hi pins s1 σ H1 _ I1 q1) λiv s2 ⟨x2,H2,I2,r2,q2⟩=>?_
 refine thn (hg pins s2 σ H2 x1 x2 ov iv _ I2 r1 r2 q2) λold s3 ⟨x3,H3,I3,r3,q3⟩=>?_
 refine thn (he pins s3 σ H3 _ I3 q3) λv s4 ⟨x4,H4,I4,r4,q4⟩=>?_
 refine thn (hp pins s4 σ H4 x3 x4 old v _ I4 r3 r4 q4) λnew s5 ⟨x5,H5,I5,r5,q5⟩=>?_
 exact thn (hs pins s5 σ H5 x1 x2 x5 ov iv new _ I5 r1 r2 r5 q5) λ_ s6 ⟨H6,I6,q6⟩=>⟨σ,H6,I6,q6⟩
end
section
variable {X:Cx} {pos:Pos}
noncomputable def qde (c:TT) (tb:TS):TS:=λD σ H=>∃ W:Nat->St->Hp->Prop,(∃ m,W m σ H)/\∀ m σ H,W m σ H->
 c σ H λb H1=>if b=true then ∃ N:St->Hp->Prop,(∀ σ' H',N σ' H'->∃ m',m'<m/\W m' σ' H')/\tb { D with nx:=N,ct:=N,bk:=D.nx } σ H1 else D.nx σ H1
theorem qcb {c:Expr} {body:List Stmt} {tc:TT} {tb:TS} (hp:PassesOwn (model X.prog X.w) X.A X.env X.xe) (hc:PT X c tc) (hb:PSs X body tb):PS X (.While c body [] pos) (qde tc tb):=by
 intro pins s σ H D I h
 obtain ⟨W,⟨m0,w0⟩,turn⟩:=h
 refine wpAny_While (codeAny_whileLoop (λn s'=>∃ σ' H',Inv X pins σ' H' s'/\W n σ' H') ?_ m0 ⟨σ,H,I,w0⟩)
 rintro n s1 ⟨σ1,H1,I1,w1⟩
 refine wpAny_passesOwn hp (thn (hc pins s1 σ1 H1 _ I1 (turn n σ1 H1 w1)) λb s2 ⟨H2,I2,q2⟩=>?_)
 cases b with
 | true=>
   obtain ⟨N,hN,q2⟩:=q2
   rw [if_pos rfl]
   refine wpAny_passesOwn hp (thn (hb pins s2 σ1 H2 _ I2 q2) λf s3 q3=>?_)
   cases f with
   | next=>
     obtain ⟨σ3,H3,I3,n3⟩:=q3
     obtain ⟨m',hm,w3⟩:=hN σ3 H3 n3
     exact ⟨m',hm,σ3,H3,I3,w3⟩
   | cont=>
     obtain ⟨σ3,H3,I3,n3⟩:=q3
     obtain ⟨m',hm,w3⟩:=hN σ3 H3 n3
     exact ⟨m',hm,σ3,H3,I3,w3⟩
   | brk=>exact q3
   | ret v=>exact q3
 | false=>
   rw [if_neg wbe]
   exact wpAny_execs_nil ⟨σ1,H2,I2,q2⟩
end
structure It where
 go:Nat->Hp->Prop
 yld:Nat->Hp->V->Hp->Prop
 stop:Nat->Hp->Prop
noncomputable def qlV (X:Cx) (pins:List (Addr×Obj)) (H:Hp) (b:Addr):Prop:=
 H b=none/\b≠X.env.locals/\b∉X.fs/\(b∈X.ex\/X.s₀.heap.objs.size<=b)/\(∀ x c,X.env.cells.lookup x=some c->c≠b)/\∀ p∈X.pn++pins,p.1≠b
theorem Inv.fpOk {X:Cx} {pins:List (Addr×Obj)} {σ:St} {H H':Hp} {s:Shared} {b:Addr} (I:Inv X pins σ H s) (hb:s.heap.objs.size<=b) (hn:H' b=none):qlV X pins H' b:=by
 refine ⟨hn,Nat.ne_of_gt (wav I.lt hb),I.nofs hb,.inr (wak I.sz hb),λx c e z=>?_,λp hp z=>?_⟩
 ·obtain ⟨v,q⟩:=I.cell x c e
  exact absurd (wav q.lt (by rw [z];exact hb)) (wbb _)
 ·exact absurd (wav (Heap.lt_size (I.pin p hp).1) (by rw [z];exact hb)) (wbb _)
structure Turn (P:Program) (w:World) (K:PySem.W.Frag) (tg:Expr) (J:It) (fp:List Addr) (it:Addr) (tn:Nat->Heap->Prop):Prop where
 mem:it∈fp
 obj:∀ i h,tn i h->∀ b∈fp,∃ o,h.get? b=some o/\∀ v,o.data≠.cell v
 keep:∀ i h h',tn i h->(∀ b∈fp,∀ o,h.get? b=some o->h'.get? b=some o)->tn i h'
 item:∀ (X:Cx),X.prog=P->X.w=w->X.K=K->X.calm=true->∀ (i:Nat) (pins:List (Addr×Obj)) (s:Shared) (σ:St) (H:Hp) (E:Value->Shared->Prop),Inv X pins σ H s->(∀ b∈fp,qlV X pins H b)->tn i s.heap->J.go i H->
  wpAny (model P w) X.A (pyNext (.ref it)) (λr s1=>∃ u,r=some u/\
   wpAny (model P w) X.A (letOwnedTupleGo tg (.ref it) u) (λ_ s2=>∃ x H',Inv X pins σ H' s2/\RelV x u/\J.yld i H x H'/\tn (i+1) s2.heap/\∀ b∈fp,H' b=none) E s1) E s
 done:∀ (X:Cx),X.prog=P->X.w=w->X.K=K->X.calm=true->∀ (i:Nat) (pins:List (Addr×Obj)) (s:Shared) (σ:St) (H:Hp) (E:Value->Shared->Prop),Inv X pins σ H s->(∀ b∈fp,qlV X pins H b)->tn i s.heap->J.stop i H->
  wpAny (model P w) X.A (pyNext (.ref it)) (λr s1=>r=none/\Inv X pins σ H s1) E s
 self:∀ (A:Around) (i:Nat) (s:Shared) (Q:Value->Shared->Prop) (E:Value->Shared->Prop),tn i s.heap->Q (.ref it) s->wpAny (model P w) A (pyIter (.ref it)) Q E s
noncomputable abbrev TI:=St->Hp->(It->Hp->Prop)->Prop
noncomputable def PIE (X:Cx) (pins:List (Addr×Obj)) (σ:St) (tg:Expr) (R:It->Hp->Prop) (itv:Value) (s2:Shared):Prop:=
 ∃ (it:Addr) (fp:List Addr) (tn:Nat->Heap->Prop) (J:It) (H':Hp),itv=.ref it/\Inv X pins σ H' s2/\Turn X.prog X.w X.K tg J fp it tn/\tn 0 s2.heap/\(∀ b∈fp,qlV X pins H' b)/\R J H'
noncomputable def PI (X:Cx) (tg iter:Expr) (wi:TI):Prop:=
 ∀ (pins:List (Addr×Obj)) (s:Shared) (σ:St) (H:Hp) (R:It->Hp->Prop),Inv X pins σ H s->wi σ H R->
   wpAny (model X.prog X.w) X.A (eval iter X.env) (λv s1=>wpAny (model X.prog X.w) X.A (pyIter v) (PIE X pins σ tg R) X.xe s1) X.xe s
theorem qrX {M:Model} {A:Around} {E:Value->Shared->Prop} {s:Shared} {tg:Expr} {it:Addr} {u:Value} {o:Obj} {n:String} {vs:Array Value} {Q:Unit->Shared->Prop} (ho:s.heap.get? it=some o) (hc:o.cls=.type n) (hd:o.data=.fields vs)
  (hn:["enumerate", "zip", "dict_itemiterator", "dict_reverseitemiterator", "odict_iterator", "itertools.zip_longest", "itertools.pairwise"].contains n=false) (hQ:Q () s):wpAny M A (letOwnedTupleGo tg (.ref it) u) Q E s:=by
 unfold letOwnedTupleGo
 cases tg <;> first
  | exact wpAny_pure hQ
  | (cases u <;> first
    | exact wpAny_pure hQ
    | (refine wpAny_bind (wpAny_load ho ?_)
       rw [hc,hd]
       show wpAny M A (if (["enumerate", "zip", "dict_itemiterator", "dict_reverseitemiterator", "odict_iterator", "itertools.zip_longest", "itertools.pairwise"].contains n && vs[0]? == some (rawInt _))=true then _ else _) Q E s
       rw [if_neg (by intro h;rw [hn,Bool.false_and] at h;cases h)]
       exact wpAny_pure hQ))
noncomputable def Itl (K:PySem.W.Frag) (a:Addr):It:=
 ⟨λi H=>∃ xs x,SqL K H a xs/\xs[i]?=some x,λi H x H'=>H'=H/\∀ xs,SqL K H a xs->xs[i]?=some x,λi H=>∃ xs,SqL K H a xs/\xs.length<=i⟩
noncomputable def Itt (K:PySem.W.Frag) (a:Addr):It:=
 ⟨λi H=>∃ xs x,SqT K H a xs/\xs[i]?=some x,λi H x H'=>H'=H/\∀ xs,SqT K H a xs->xs[i]?=some x,λi H=>∃ xs,SqT K H a xs/\xs.length<=i⟩
noncomputable def Itr (lo:Int) (n:Nat):It:=⟨λi _=>i<n,λi H x H'=>H'=H/\x=.int (lo+i),λi _=>n<=i⟩
theorem qpc {P:Program} {w:World} {K:PySem.W.Frag} {tg:Expr} (a it:Addr):Turn P w K tg (Itl K a) [it] it (λi h=>h.IsListIter it a i) where
 mem:=by simp
 obj:=λi h st b hb=>by
  have e:b=it:=by simpa using hb
  subst e
  obtain ⟨o,e,c,d⟩:=st
  exact ⟨o,e,λv z=>by rw [d] at z;cases z⟩
 keep:=λi h h' st k=>st.at λo e=>k it (by simp) o e
 item:=by
  intro X hP hw hK hc i pins s σ H E I hf st hg
  subst hP hw hK
  obtain ⟨xs,x,hq,hx⟩:=hg
  obtain ⟨its,rv,p,hz⟩:=I.list hq
  obtain ⟨u,hu,ru⟩:=rv.get hx
  obtain ⟨f0,f1,f2,f3,f4,f5⟩:=hf it (by simp)
  refine wpAny_pyNext_list_item st p.isList (x:=u) (by simpa using hu) λh' st' sb=>?_
  have I1:Inv X pins σ H { s with heap:=h' }:=I.turned (t':=s.toks) (λb o hb e=>(sb.2 b hb).trans e) f0 f1 f3 f4 f5
  obtain ⟨o,e,c,d⟩:=id st'
  exact ⟨u,rfl,qrX (s:={ s with heap:=h' }) e c d ∅ ⟨x,H,I1,ru,⟨rfl,λys hy=>by rw [I.list_inj hy hq];exact hx⟩,st',λb hb=>(hf b hb).1⟩⟩
 done:=by
  intro X hP hw hK hc i pins s σ H E I hf st hg
  subst hP hw hK
  obtain ⟨xs,hq,hx⟩:=hg
  obtain ⟨its,rv,p,hz⟩:=I.list hq
  obtain ⟨f0,f1,f2,f3,f4,f5⟩:=hf it (by simp)
  have hl:=rv.length
  exact wpAny_pyNext_list_end (I.ok.hd hc) st p.isList (by simp;omega) λh' eb=>⟨rfl,I.turned (t':=s.toks) (λb o hb e=>eb b o hb e) f0 f1 f3 f4 f5⟩
 self:=λ_ _ _ _ _ st h=>wpAny_pyIter_listiter st h
theorem qnZ {P:Program} {w:World} {K:PySem.W.Frag} {tg:Expr} (a it:Addr):Turn P w K tg (Itt K a) [it] it (λi h=>h.IsTupleIter it a i) where
 mem:=by simp
 obj:=λi h st b hb=>by
  have e:b=it:=by simpa using hb
  subst e
  obtain ⟨o,e,c,d⟩:=st
  exact ⟨o,e,λv z=>by rw [d] at z;cases z⟩
 keep:=λi h h' st k=>st.at λo e=>k it (by simp) o e
 item:=by
  intro X hP hw hK hc i pins s σ H E I hf st hg
  subst hP hw hK
  obtain ⟨xs,x,hq,hx⟩:=hg
  obtain ⟨its,rv,p,hz⟩:=I.tuple hq
  obtain ⟨u,hu,ru⟩:=rv.get hx
  obtain ⟨f0,f1,f2,f3,f4,f5⟩:=hf it (by simp)
  refine wpAny_pyNext_tuple_item st (show s.heap.IsTuple a its.toArray from p) (x:=u) (by simpa using hu) λh' st' sb=>?_
  have I1:Inv X pins σ H { s with heap:=h' }:=I.turned (t':=s.toks) (λb o hb e=>(sb.2 b hb).trans e) f0 f1 f3 f4 f5
  obtain ⟨o,e,c,d⟩:=id st'
  exact ⟨u,rfl,qrX (s:={ s with heap:=h' }) e c d ∅ ⟨x,H,I1,ru,⟨rfl,λys hy=>by rw [I.tuple_inj hy hq];exact hx⟩,st',λb hb=>(hf b hb).1⟩⟩
 done:=by
  intro X hP hw hK hc i pins s σ H E I hf st hg
  subst hP hw hK
  obtain ⟨xs,hq,hx⟩:=hg
  obtain ⟨its,rv,p,hz⟩:=I.tuple hq
  obtain ⟨f0,f1,f2,f3,f4,f5⟩:=hf it (by simp)
  have hl:=rv.length
  exact wpAny_pyNext_tuple_end (I.ok.hd hc) st (show s.heap.IsTuple a its.toArray from p) (by simp;omega) λh' eb=>⟨rfl,I.turned (t':=s.toks) (λb o hb e=>eb b o hb e) f0 f1 f3 f4 f5⟩
 self:=λ_ _ _ _ _ st h=>wpAny_pyIter_tupleiter st h
theorem qn0 {P:Program} {w:World} {K:PySem.W.Frag} {tg:Expr} (it:Addr) (lo:Int) (n:Nat):Turn P w K tg (Itr lo n) [it] it (λi h=>IsRangeIter h it (lo+(i:Nat)*1) ((n:Int) - (i:Nat)) 1) where
 mem:=by simp
 obj:=λi h st b hb=>by
  have e:b=it:=by simpa using hb
  subst e
  exact ⟨_,st,λv z=>by
   have z':Data.fields _=Data.cell v:=z
   cases z'⟩
 keep:=λi h h' st k=>k it (by simp) _ st
 item:=by
  intro X hP hw hK hc i pins s σ H E I hf st hg
  subst hP hw hK
  obtain ⟨f0,f1,f2,f3,f4,f5⟩:=hf it (by simp)
  have W:=Walks.range (prog:=X.prog) (w:=X.w) (I.ok.hd hc) it lo 1 n
  refine W.item i s _ _ hg st λv h' tk hv st' kk=>?_
  obtain ⟨t,rfl⟩:=hv
  have I1:Inv X pins σ H { s with heap:=h',toks:=tk }:=I.turned (λb o hb e=>kk b o (by simpa using hb) e) f0 f1 f3 f4 f5
  refine ⟨_,rfl,qrX (s:={ s with heap:=h',toks:=tk }) (n := "range_iterator") st' rfl rfl ∅ ⟨.int (lo+i),H,I1,⟨t,?_⟩,⟨rfl,rfl⟩,st',λb hb=>(hf b hb).1⟩⟩
  rw [Int.mul_one]
 done:=by
  intro X hP hw hK hc i pins s σ H E I hf st hg
  subst hP hw hK
  obtain ⟨f0,f1,f2,f3,f4,f5⟩:=hf it (by simp)
  exact wpAny_pyNext_range_end (I.ok.hd hc) st (by have:n<=i:=hg;omega) λh' eb=>⟨rfl,I.turned (t':=s.toks) (λb o hb e=>eb b o hb e) f0 f1 f3 f4 f5⟩
 self:=λ_ _ _ _ _ st h=>wpAny_pyIter_rangeiter st h
end L2
namespace L2
open PySem PySem.Spec PyProof.Rows
section
variable {X:Cx} {tg:Expr}
noncomputable def qcc (K:PySem.W.Frag) (tl:TE):TI:=λσ H R=>tl σ H λx H1=>∃ a,x=.ref a/\(∃ xs,SqL K H1 a xs)/\R (Itl K a) H1
noncomputable def qo4 (K:PySem.W.Frag) (tl:TE):TI:=λσ H R=>tl σ H λx H1=>∃ a,x=.ref a/\(∃ xs,SqT K H1 a xs)/\R (Itt K a) H1
theorem qbh {l:Expr} {tl:TE} (hl:PE X l tl):PI X tg l (qcc X.K tl):=by
 intro pins s σ H R I h
 refine thn (hl pins s σ H _ I h) λv s1 ⟨x,H1,I1,r1,q1⟩=>?_
 obtain ⟨a,e,⟨xs,hq⟩,q⟩:=q1
 subst e
 cases r1
 obtain ⟨its,rv,p,hz⟩:=I1.list hq
 refine wpAny_pyIter_list p.isList ?_
 refine ⟨s1.heap.objs.size,[s1.heap.objs.size],_,_,H1,rfl,I1.kept (t':=s1.toks) λb o e=>Heap.get?_push_of_some _ e,qpc a _,⟨_,Heap.get?_push_size _ rfl,rfl,rfl⟩,λb hb=>?_,q⟩
 have e:b=s1.heap.objs.size:=by simpa using hb
 subst e
 exact I1.fpOk (wac _) (I1.hok.fresh (wac _))
theorem qhs {l:Expr} {tl:TE} (hl:PE X l tl):PI X tg l (qo4 X.K tl):=by
 intro pins s σ H R I h
 refine thn (hl pins s σ H _ I h) λv s1 ⟨x,H1,I1,r1,q1⟩=>?_
 obtain ⟨a,e,⟨xs,hq⟩,q⟩:=q1
 subst e
 cases r1
 obtain ⟨its,rv,p,hz⟩:=I1.tuple hq
 refine wpAny_pyIter_tuple (show s1.heap.IsTuple a its.toArray from p) ?_
 refine ⟨s1.heap.objs.size,[s1.heap.objs.size],_,_,H1,rfl,I1.kept (t':=s1.toks) λb o e=>Heap.get?_push_of_some _ e,qnZ a _,⟨_,Heap.get?_push_size _ rfl,rfl,rfl⟩,λb hb=>?_,q⟩
 have e:b=s1.heap.objs.size:=by simpa using hb
 subst e
 exact I1.fpOk (wac _) (I1.hok.fresh (wac _))
theorem qm4 {pins:List (Addr×Obj)} {σ:St} {H:Hp} {s:Shared} {R:It->Hp->Prop} {E:Value->Shared->Prop} {lo hi:Int} {t u v:Tok} {tk:Nat} (I:Inv X pins σ H s) (h1:-(2 ^ 62)<=lo) (h2:lo<2 ^ 62) (h3:-(2 ^ 62)<=hi) (h4:hi<2 ^ 62)
  (q:R (Itr lo (hi - lo).toNat) H):wpAny (model X.prog X.w) X.A (pyIter (.ref s.heap.objs.size)) (PIE X pins σ tg R) E { s with heap:=s.heap.push { cls:=.type "range", data:=.fields #[.int lo t,.int hi u,.int 1 v] },toks:=tk }:=by
 refine wpAny_pyIter_range (IsRange.new ..) (small_one h1 h2 h3 h4) ?_
 have I1:Inv X pins σ H { s with heap:=s.heap.push { cls:=.type "range", data:=.fields #[.int lo t,.int hi u,.int 1 v] },toks:=tk }:=I.kept λb o e=>Heap.get?_push_of_some _ e
 refine ⟨(s.heap.push { cls:=.type "range", data:=.fields #[.int lo t,.int hi u,.int 1 v] }).objs.size,[(s.heap.push { cls:=.type "range", data:=.fields #[.int lo t,.int hi u,.int 1 v] }).objs.size],_,_,H,rfl,
  I1.kept (t':=tk) λb o e=>Heap.get?_push_of_some _ e,qn0 _ lo (hi - lo).toNat,?_,λb hb=>?_,q⟩
 ·have e1:lo+((0:Nat):Int)*1=lo:=by simp
  have e2:(((hi - lo).toNat:Nat):Int) - ((0:Nat):Int)=Builtin.Range.rangeSize lo hi 1:=by rw [rangeSize_one];split <;> omega
  show IsRangeIter _ _ (lo+((0:Nat):Int)*1) ((((hi - lo).toNat:Nat):Int) - ((0:Nat):Int)) 1
  rw [e1,e2]
  exact Heap.get?_push_size _ rfl
 ·have e:b=(s.heap.push { cls:=.type "range", data:=.fields #[.int lo t,.int hi u,.int 1 v] }).objs.size:=by simpa using hb
  subst e
  exact I1.fpOk (wac _) (I1.hok.fresh (wac _))
noncomputable def qht (ta:TA):TI:=λσ H R=>ta σ H λvs H1=>∃ j:Int,vs=[.int j]/\-(2 ^ 62)<=j/\j<2 ^ 62/\R (Itr 0 j.toNat) H1
noncomputable def qrY (ta:TA):TI:=λσ H R=>ta σ H λvs H1=>∃ i j:Int,vs=[.int i,.int j]/\(-(2 ^ 62)<=i/\i<2 ^ 62/\-(2 ^ 62)<=j/\j<2 ^ 62)/\R (Itr i (j - i).toNat) H1
theorem qc4 {a:Expr} {ta:TA} {p pos:Pos} (hg:Gl X "range") (hm:X.mg "range" = none) (ha:PA X [a] ta) (hs:starEach [a] X.env=[(false,eval a X.env)]:=by rfl):PI X tg (.Call (.Name "range" p) [a] [] pos) (qht ta):=by
 intro pins s σ H R I h
 refine Call_ (qgp I hg hm boot_range (PyProof.Rows.callWith_type1 (thn (ha pos pins s σ H _ I h) λus s1 ⟨vs,H1,I1,r1,q1⟩=>?_) hs rfl))
 obtain ⟨j,e,q1,q2,q⟩:=q1
 subst e
 cases r1 with
 | cons r rr=>
   cases rr
   obtain ⟨t,rfl⟩:=r
   exact call_range_1 (qm4 I1 ⋯ ⋯ q1 q2 (by simpa using q))
theorem qpd {a b:Expr} {ta:TA} {p pos:Pos} (hg:Gl X "range") (hm:X.mg "range" = none) (ha:PA X [a,b] ta) (hs:starEach [a,b] X.env=[(false,eval a X.env),(false,eval b X.env)]:=by rfl) (hs2:starEach [b] X.env=[(false,eval b X.env)]:=by rfl) :
  PI X tg (.Call (.Name "range" p) [a,b] [] pos) (qrY ta):=by
 intro pins s σ H R I h
 refine Call_ (qgp I hg hm boot_range (PyProof.Rows.callWith_type1 (thn (ha pos pins s σ H _ I h) λus s1 ⟨vs,H1,I1,r1,q1⟩=>?_) (by rw [hs,hs2]) (by rw [hs2];rfl)))
 obtain ⟨i,j,e,⟨q1,q2,q3,q4⟩,q⟩:=q1
 subst e
 cases r1 with
 | cons r rr=>
   cases rr with
   | cons r' rr=>
     cases rr
     obtain ⟨t,rfl⟩:=r
     obtain ⟨t',rfl⟩:=r'
     exact call_range_2 (qm4 I1 q1 q2 q3 q4 q)
noncomputable def qe4 (wi:TI) (g:TG) (tb:TS):TS:=λD σ H=>wi σ H λJ H1=>∃ W:Nat->Nat->St->Hp->Prop,(∃ m,W 0 m σ H1)/\∀ i m σ H,W i m σ H->
 (J.stop i H/\D.nx σ H)\/(J.go i H/\∃ N:St->Hp->Prop,(∀ σ' H',N σ' H'->∃ m',m'<m/\W (i+1) m' σ' H')/\∀ x H',J.yld i H x H'->g x σ H' λσ2 H2=>tb { D with nx:=N,ct:=N,bk:=D.nx } σ2 H2)
noncomputable def qm5 (fp:List Addr) (h:Heap):List (Addr×Obj):=fp.filterMap λb=>(h.get? b).map λo=>(b,o)
theorem qdw {fp:List Addr} {h:Heap} {b:Addr} {o:Obj} (hb:b∈fp) (e:h.get? b=some o):(b,o)∈qm5 fp h:=List.mem_filterMap.mpr ⟨b,hb,by rw [e];rfl⟩
theorem qpe {fp:List Addr} {h:Heap} {p:Addr×Obj} (hp:p∈qm5 fp h):p.1∈fp/\h.get? p.1=some p.2:=by
 obtain ⟨b,hb,e⟩:=List.mem_filterMap.mp hp
 cases q:h.get? b with
 | none=>rw [q] at e;cases e
 | some o=>
   rw [q] at e
   have e':(b,o)=p:=Option.some.inj e
   subst e'
   exact ⟨hb,q⟩
theorem Inv.pinned {pins:List (Addr×Obj)} {σ:St} {H:Hp} {s:Shared} {fp:List Addr} (I:Inv X pins σ H s) (hf:∀ b∈fp,qlV X pins H b) (ho:∀ b∈fp,∃ o,s.heap.get? b=some o/\∀ v,o.data≠.cell v):Inv X (pins++qm5 fp s.heap) σ H s:=
 I.pins_of λp hp=>(wa7.mp hp).elim (λz=>I.pin p (wa8 _ z)) λz=>by
  obtain ⟨hb,e⟩:=qpe z
  obtain ⟨f0,f1,f2,_⟩:=hf p.1 hb
  obtain ⟨o,e',d⟩:=ho p.1 hb
  rw [e] at e';cases e'
  exact ⟨e,f0,f1,f2,d⟩
theorem Inv.unpinned {pins pl:List (Addr×Obj)} {σ:St} {H:Hp} {s:Shared} (I:Inv X (pins++pl) σ H s):Inv X pins σ H s:=I.pins_of λp hp=>I.pin p (wa8 _ (List.mem_append_left _ hp))
theorem qcd {iter:Expr} {body:List Stmt} {wi:TI} {g:TG} {tb:TS} {pos:Pos} (hp:PassesOwn (model X.prog X.w) X.A X.env X.xe) (hc:X.calm=true) (hi:PI X tg iter wi) (hg:PG X tg g) (hb:PSs X body tb)
  (hs:∀ x,foldedSetIterable iter X.env x=pure x:=by intro _;rfl):PS X (.For tg iter body [] pos) (qe4 wi g tb):=by
 intro pins s σ H D I h
 refine wpAny_For (thn (hi pins s σ H _ I h) λv s1 h1=>thn h1 λitv s2 h2=>?_) hs
 obtain ⟨it,fp,tn,J,H2,e,I2,T,st2,f2,W,⟨m0,w0⟩,turn⟩:=h2
 subst e
 have stat:∀ {H':Hp},(∀ b∈fp,H' b=none)->∀ b∈fp,qlV X pins H' b:=λhn b hb=>⟨hn b hb,(f2 b hb).2⟩
 refine codeAny_forLoop_any (λn s'=>∃ i σ' H',Inv X pins σ' H' s'/\tn i s'.heap/\(∀ b∈fp,H' b=none)/\W i n σ' H') ?_ m0 ⟨0,σ,H2,I2,st2,λb hb=>(f2 b hb).1,w0⟩
 rintro n s3 ⟨i,σ3,H3,I3,st3,fr3,w3⟩
 rcases turn i n σ3 H3 w3 with ⟨stop,qn⟩ | ⟨go,N,hN,step⟩
 ·refine wpAny_passesOwn hp (thn (T.done X rfl rfl rfl hc i pins s3 σ3 H3 X.xe I3 (stat fr3) st3 stop) λr s4 ⟨hr,I4⟩=>?_)
  subst hr
  exact wpAny_execs_nil ⟨σ3,H3,I4,qn⟩
 ·refine wpAny_passesOwn hp (thn (T.item X rfl rfl rfl hc i pins s3 σ3 H3 X.xe I3 (stat fr3) st3 go) λr s4 ⟨u,hr,h4⟩=>?_)
  subst hr
  refine wpAny_passesOwn hp (thn h4 λ_ s5 ⟨x,H5,I5,r5,y5,st5,fr5⟩=>?_)
  have I5':=I5.pinned (stat fr5) (T.obj _ _ st5)
  refine wpAny_passesOwn hp (thn (hg _ s5 σ3 H5 x u _ I5' r5 (step x H5 y5)) λ_ s6 ⟨σ6,H6,I6,q6⟩=>?_)
  refine wpAny_passesOwn hp (thn (hb _ s6 σ6 H6 _ I6 q6) λf s7 q7=>?_)
  have again:∀ {σ7:St} {H7:Hp},Inv X (pins++qm5 fp s5.heap) σ7 H7 s7->N σ7 H7->∃ m,m<n/\∃ i σ' H',Inv X pins σ' H' s7/\tn i s7.heap/\(∀ b∈fp,H' b=none)/\W i m σ' H':=λ{σ7 H7} I7 n7=>by
   obtain ⟨m',hm,w7⟩:=hN σ7 H7 n7
   refine ⟨m',hm,i+1,σ7,H7,I7.unpinned,T.keep _ _ _ st5 λb hb o e=>(I7.pin (b,o) (wa8 _ (wa8 _ (qdw hb e)))).1,λb hb=>?_,w7⟩
   obtain ⟨o,e,d⟩:=T.obj _ _ st5 b hb
   exact (I7.pin (b,o) (wa8 _ (wa8 _ (qdw hb e)))).2.1
  cases f with
  | next=>obtain ⟨σ7,H7,I7,n7⟩:=q7;exact again I7 n7
  | cont=>obtain ⟨σ7,H7,I7,n7⟩:=q7;exact again I7 n7
  | brk=>obtain ⟨σ7,H7,I7,q7⟩:=q7;exact ⟨σ7,H7,I7.unpinned,q7⟩
  | ret v=>obtain ⟨x7,σ7,H7,I7,r7,q7⟩:=q7;exact ⟨x7,σ7,H7,I7.unpinned,r7,q7⟩
end
theorem qrZ {K:PySem.W.Frag} {a:Addr} {xs:List V} {g:TG} {tb:TS} {D:Ends} {σ:St} {H:Hp} (Pv:Nat->St->Hp->Prop) (h0:Pv 0 σ H) (hl:∀ i σ H,i<=xs.length->Pv i σ H->SqL K H a xs)
  (hs:∀ i x σ H,xs[i]?=some x->Pv i σ H->g x σ H λσ2 H2=>tb { D with nx:=Pv (i+1),ct:=Pv (i+1),bk:=D.nx } σ2 H2) (hd:∀ σ H,Pv xs.length σ H->D.nx σ H) :
  ∃ W:Nat->Nat->St->Hp->Prop,(∃ m,W 0 m σ H)/\∀ i m σ H,W i m σ H->
    ((Itl K a).stop i H/\D.nx σ H)\/((Itl K a).go i H/\∃ N:St->Hp->Prop,(∀ σ' H',N σ' H'->∃ m',m'<m/\W (i+1) m' σ' H')/\∀ x H',(Itl K a).yld i H x H'->g x σ H' λσ2 H2=>tb { D with nx:=N,ct:=N,bk:=D.nx } σ2 H2):=by
 refine ⟨λi m σ H=>m=xs.length - i/\i<=xs.length/\Pv i σ H,⟨xs.length,by simp,wae _,h0⟩,?_⟩
 rintro i m σ H ⟨rfl,hi,p⟩
 have q:=hl i σ H hi p
 by_cases hlt:i<xs.length
 ·refine .inr ⟨⟨xs,xs[i],q,by simp [hlt]⟩,Pv (i+1),λσ' H' p'=>⟨xs.length - (i+1),⋯,rfl,hlt,p'⟩,λx H' y=>?_⟩
  obtain ⟨e,y⟩:=y
  subst e
  exact hs i x σ _ (y xs q) p
 ·have e:i=xs.length:=by omega
  subst e
  exact .inl ⟨⟨xs,q,wac _⟩,hd σ H p⟩
theorem qpf {K:PySem.W.Frag} {a:Addr} {xs:List V} {g:TG} {tb:TS} {D:Ends} {σ:St} {H:Hp} (Pv:Nat->St->Hp->Prop) (h0:Pv 0 σ H) (hl:∀ i σ H,i<=xs.length->Pv i σ H->SqT K H a xs)
  (hs:∀ i x σ H,xs[i]?=some x->Pv i σ H->g x σ H λσ2 H2=>tb { D with nx:=Pv (i+1),ct:=Pv (i+1),bk:=D.nx } σ2 H2) (hd:∀ σ H,Pv xs.length σ H->D.nx σ H) :
  ∃ W:Nat->Nat->St->Hp->Prop,(∃ m,W 0 m σ H)/\∀ i m σ H,W i m σ H->
    ((Itt K a).stop i H/\D.nx σ H)\/((Itt K a).go i H/\∃ N:St->Hp->Prop,(∀ σ' H',N σ' H'->∃ m',m'<m/\W (i+1) m' σ' H')/\∀ x H',(Itt K a).yld i H x H'->g x σ H' λσ2 H2=>tb { D with nx:=N,ct:=N,bk:=D.nx } σ2 H2):=by
 refine ⟨λi m σ H=>m=xs.length - i/\i<=xs.length/\Pv i σ H,⟨xs.length,by simp,wae _,h0⟩,?_⟩
 rintro i m σ H ⟨rfl,hi,p⟩
 have q:=hl i σ H hi p
 by_cases hlt:i<xs.length
 ·refine .inr ⟨⟨xs,xs[i],q,by simp [hlt]⟩,Pv (i+1),λσ' H' p'=>⟨xs.length - (i+1),⋯,rfl,hlt,p'⟩,λx H' y=>?_⟩
  obtain ⟨e,y⟩:=y
  subst e
  exact hs i x σ _ (y xs q) p
 ·have e:i=xs.length:=by omega
  subst e
  exact .inl ⟨⟨xs,q,wac _⟩,hd σ H p⟩
theorem qpg {lo:Int} {n:Nat} {g:TG} {tb:TS} {D:Ends} {σ:St} {H:Hp} (Pv:Nat->St->Hp->Prop) (h0:Pv 0 σ H)
  (hs:∀ i σ H,i<n->Pv i σ H->g (.int (lo+i)) σ H λσ2 H2=>tb { D with nx:=Pv (i+1),ct:=Pv (i+1),bk:=D.nx } σ2 H2) (hd:∀ σ H,Pv n σ H->D.nx σ H) :
  ∃ W:Nat->Nat->St->Hp->Prop,(∃ m,W 0 m σ H)/\∀ i m σ H,W i m σ H->
    ((Itr lo n).stop i H/\D.nx σ H)\/((Itr lo n).go i H/\∃ N:St->Hp->Prop,(∀ σ' H',N σ' H'->∃ m',m'<m/\W (i+1) m' σ' H')/\∀ x H',(Itr lo n).yld i H x H'->g x σ H' λσ2 H2=>tb { D with nx:=N,ct:=N,bk:=D.nx } σ2 H2):=by
 refine ⟨λi m σ H=>m=n - i/\i<=n/\Pv i σ H,⟨n,by simp,wae _,h0⟩,?_⟩
 rintro i m σ H ⟨rfl,hi,p⟩
 by_cases hlt:i<n
 ·refine .inr ⟨hlt,Pv (i+1),λσ' H' p'=>⟨n - (i+1),⋯,rfl,hlt,p'⟩,λx H' y=>?_⟩
  obtain ⟨e,y⟩:=y
  subst e y
  exact hs i σ _ hlt p
 ·have e:i=n:=by omega
  subst e
  exact .inl ⟨wac _,hd σ H p⟩
theorem while_by {c:TT} {tb:TS} {D:Ends} {σ:St} {H:Hp} (Pv:St->Hp->Prop) (μ:St->Hp->Nat) (h0:Pv σ H)
  (hs:∀ σ H,Pv σ H->c σ H λb H1=>if b=true then tb { D with nx:=λσ' H'=>Pv σ' H'/\μ σ' H'<μ σ H,ct:=λσ' H'=>Pv σ' H'/\μ σ' H'<μ σ H,bk:=D.nx } σ H1 else D.nx σ H1)
  (mono:∀ σ H Q Q',(∀ b H1,Q b H1->Q' b H1)->c σ H Q->c σ H Q'):qde c tb D σ H:=by
 refine ⟨λm σ H=>m=μ σ H/\Pv σ H,⟨_,rfl,h0⟩,?_⟩
 rintro m σ H ⟨rfl,p⟩
 refine mono σ H _ _ (λb H1 q=>?_) (hs σ H p)
 cases b with
 | true=>exact ⟨_,λσ' H' ⟨p',l⟩=>⟨_,l,rfl,p'⟩,q⟩
 | false=>exact q
end L2
namespace L2
open PySem PySem.Spec PyProof.Rows
noncomputable abbrev R2:=V->V->Hp->VK->Prop
noncomputable def OpR (X:Cx) (f:Value->Value->Sem Value) (r:R2):Prop:=
 ∀ (pins:List (Addr×Obj)) (s:Shared) (σ:St) (H:Hp) (x y:V) (v u:Value) (Q:VK),Inv X pins σ H s->RelV x v->RelV y u->r x y H Q->
   wpAny (model X.prog X.w) X.A (f v u) (EP X pins σ Q) X.xe s
noncomputable def UnR (X:Cx) (f:Value->Sem Value) (r:V->Hp->VK->Prop):Prop:=
 ∀ (pins:List (Addr×Obj)) (s:Shared) (σ:St) (H:Hp) (x:V) (v:Value) (Q:VK),Inv X pins σ H s->RelV x v->r x H Q->
   wpAny (model X.prog X.w) X.A (f v) (EP X pins σ Q) X.xe s
noncomputable def qeK (X:Cx) (f:Value) (r:List V->Hp->VK->Prop):Prop:=
 ∀ (pins:List (Addr×Obj)) (s:Shared) (σ:St) (H:Hp) (xs:List V) (us:List Value) (Q:VK),Inv X pins σ H s->Vals xs us->r xs H Q->
   wpAny (model X.prog X.w) X.A (call f us) (EP X pins σ Q) X.xe s
noncomputable def qxR (X:Cx) (r:V->Hp->(Bool->Hp->Prop)->Prop):Prop:=
 ∀ (pins:List (Addr×Obj)) (s:Shared) (σ:St) (H:Hp) (x:V) (v:Value) (Q:Bool->Hp->Prop),Inv X pins σ H s->RelV x v->r x H Q->
   wpAny (model X.prog X.w) X.A (truthy v) (TP X pins σ Q) X.xe s
noncomputable def tOp (r:R2) (ta tb:TE):TE:=λσ H Q=>ta σ H λx H1=>tb σ H1 λy H2=>r x y H2 Q
noncomputable def tUn (r:V->Hp->VK->Prop) (ta:TE):TE:=λσ H Q=>ta σ H λx H1=>r x H1 Q
noncomputable def rI (C:Int->Int->Prop) (g:Int->Int->V):R2:=λx y H Q=>∃ i j,x=.int i/\y=.int j/\C i j/\Q (g i j) H
noncomputable def rI0 (g:Int->Int->V):R2:=λx y H Q=>∃ i j,x=.int i/\y=.int j/\Q (g i j) H
noncomputable def rU (g:Int->V):V->Hp->VK->Prop:=λx H Q=>∃ i,x=.int i/\Q (g i) H
section
variable {X:Cx} {a b c:Expr} {ta tb tc:TE} {pos:Pos}
theorem qwR (ha:PE X a ta) (hb:PE X b tb) {pins:List (Addr×Obj)} {s:Shared} {σ:St} {H:Hp} {R:V->V->Hp->Prop} (I:Inv X pins σ H s)
  (h:ta σ H λx H1=>tb σ H1 λy H2=>R x y H2) {Q:Value->Shared->Prop} {f:Value->Value->Sem Value}
  (hf:∀ v u s2 x y H2,Inv X pins σ H2 s2->RelV x v->RelV y u->R x y H2->wpAny (model X.prog X.w) X.A (f v u) Q X.xe s2) :
  wpAny (model X.prog X.w) X.A (eval a X.env) (λv s₁=>wpAny (model X.prog X.w) X.A (eval b X.env) (λu s₂=>wpAny (model X.prog X.w) X.A (f v u) Q X.xe s₂) X.xe s₁) X.xe s:=by
 refine thn (ha pins s σ H _ I h) λv s1 ⟨x,H1,I1,r1,q1⟩=>?_
 refine thn (hb pins s1 σ H1 _ I1 q1) λu s2 ⟨y,H2,I2,r2,q2⟩=>?_
 exact hf v u s2 x y H2 I2 r1 r2 q2
theorem qaz {op:Operator} {r:R2} (ho:OpR X (binaryOp op) r) (ha:PE X a ta) (hb:PE X b tb):PE X (.BinOp a op b pos) (tOp r ta tb):=by
 intro pins s σ H Q I h
 exact wpAny_BinOp (qwR ha hb I h λv u s2 x y H2 I2 rx ry q=>ho pins s2 σ H2 x y v u Q I2 rx ry q)
theorem qbV {op:UnaryOp} {r:V->Hp->VK->Prop} (ho:UnR X (unaryOp op) r) (ha:PE X a ta):PE X (.UnaryOp op a pos) (tUn r ta):=by
 intro pins s σ H Q I h
 exact UnaryOp_ (thn (ha pins s σ H _ I h) λv s1 ⟨x,H1,I1,r1,q1⟩=>ho pins s1 σ H1 x v Q I1 r1 q1)
theorem opI {f:Value->Value->Sem Value} {C:Int->Int->Prop} {g:Int->Int->Int}
  (rule:∀ (i j:Int) (t u:Tok) (s:Shared) (Q:Value->Shared->Prop) (E:Value->Shared->Prop),C i j->Q (.int (g i j) s.toks) { s with toks:=s.toks+1 }->wpAny (model X.prog X.w) X.A (f (.int i t) (.int j u)) Q E s) :
  OpR X f (rI C λi j=>.int (g i j)):=by
 intro pins s σ H x y v u Q I rx ry h
 obtain ⟨i,j,rfl,rfl,hc,q⟩:=h
 obtain ⟨t,rfl⟩:=rx
 obtain ⟨t',rfl⟩:=ry
 exact rule i j t t' s _ _ hc ⟨.int (g i j),H,I.tok _,⟨_,rfl⟩,q⟩
theorem qwL {f:Value->Value->Sem Value} {g:Int->Int->Int}
  (rule:∀ (i j:Int) (t u:Tok) (s:Shared) (Q:Value->Shared->Prop) (E:Value->Shared->Prop),Q (.int (g i j) s.toks) { s with toks:=s.toks+1 }->wpAny (model X.prog X.w) X.A (f (.int i t) (.int j u)) Q E s) :
  OpR X f (rI0 λi j=>.int (g i j)):=by
 intro pins s σ H x y v u Q I rx ry h
 obtain ⟨i,j,rfl,rfl,q⟩:=h
 obtain ⟨t,rfl⟩:=rx
 obtain ⟨t',rfl⟩:=ry
 exact rule i j t t' s _ _ ⟨.int (g i j),H,I.tok _,⟨_,rfl⟩,q⟩
theorem qwM {f:Value->Value->Sem Value} {g:Int->Int->Bool}
  (rule:∀ (i j:Int) (t u:Tok) (s:Shared) (Q:Value->Shared->Prop) (E:Value->Shared->Prop),Q (.bool (g i j)) s->wpAny (model X.prog X.w) X.A (f (.int i t) (.int j u)) Q E s) :
  OpR X f (rI0 λi j=>.bl (g i j)):=by
 intro pins s σ H x y v u Q I rx ry h
 obtain ⟨i,j,rfl,rfl,q⟩:=h
 obtain ⟨t,rfl⟩:=rx
 obtain ⟨t',rfl⟩:=ry
 exact rule i j t t' s _ _ ⟨.bl (g i j),H,I,rfl,q⟩
noncomputable def CDiv (i j:Int):Prop:=0<j/\j<1073741824
noncomputable def CMul (i j:Int):Prop:=(-(2 ^ 64)<i/\i<2 ^ 64)\/(-(2 ^ 64)<j/\j<2 ^ 64)
theorem CMul.ok {i j:Int} (h:CMul i j):IntMulOk i j:=by
 rcases h with ⟨h1,h2⟩ | ⟨h1,h2⟩
 ·exact .of_left (intBits_le_64 h1 h2)
 ·exact .of_right (intBits_le_64 h1 h2)
theorem qb4:OpR X (binaryOp .Add) (rI0 λi j=>.int (i+j)):=qwL λ_ _ _ _ _ _ _ q=>add_int q
theorem qbK:OpR X (binaryOp .Sub) (rI0 λi j=>.int (i - j)):=qwL λ_ _ _ _ _ _ _ q=>sub_int q
theorem qdf:OpR X (binaryOp .Mod) (rI (λ_ j=>0<j) λi j=>.int (i % j)):=opI λi j _ _ _ _ _ hc q=>by
 have h1:(0:Int)<j:=hc
 exact mod_int' ⋯ (by rw [Int.fmod_eq_emod_of_nonneg i ⋯];exact q)
theorem qt5:OpR X (binaryOp .Mod) (rI (λ_ j=>j≠0) λi j=>.int (i.fmod j)):=opI λ_ _ _ _ _ _ _ hc q=>mod_int' hc q
theorem qt6:OpR X (inplaceOp .Add) (rI0 λi j=>.int (i+j)):=qwL λ_ _ _ _ _ _ _ q=>iadd_int q
theorem qhu:OpR X (inplaceOp .Sub) (rI0 λi j=>.int (i - j)):=qwL λ_ _ _ _ _ _ _ q=>isub_int q
theorem unI {f:Value->Sem Value} {g:Int->Int}
  (rule:∀ (i:Int) (t:Tok) (s:Shared) (Q:Value->Shared->Prop) (E:Value->Shared->Prop),Q (.int (g i) s.toks) { s with toks:=s.toks+1 }->wpAny (model X.prog X.w) X.A (f (.int i t)) Q E s) :
  UnR X f (rU λi=>.int (g i)):=by
 intro pins s σ H x v Q I rx h
 obtain ⟨i,rfl,q⟩:=h
 obtain ⟨t,rfl⟩:=rx
 exact rule i t s _ _ ⟨.int (g i),H,I.tok _,⟨_,rfl⟩,q⟩
theorem qbb:UnR X (unaryOp .USub) (rU λi=>.int (-i)):=unI λ_ _ _ _ _ q=>neg_int q
end
noncomputable def scal:V->V->Bool
 | .non,.non=>true | .non,.int _=>true | .int _,.non=>true | .non,.bl _=>true | .bl _,.non=>true | .non,.str _=>true | .str _,.non=>true
 | .int _,.int _=>true | .bl _,.bl _=>true | .str _,.str _=>true | .byt _,.byt _=>true
 | .int _,.str _=>true | .str _,.int _=>true | .bl _,.str _=>true | .str _,.bl _=>true
 | _,_=>false
noncomputable def rEq:R2:=λx y H Q=>scal x y=true/\Q (.bl (decide (x=y))) H
noncomputable def rNe:R2:=λx y H Q=>scal x y=true/\Q (.bl (!decide (x=y))) H
theorem qph {i j:Int}:decide (V.int i=V.int j)=(i == j):=by
 rw [Bool.eq_iff_iff]
 simp
theorem qti {i j:Bool}:decide (V.bl i=V.bl j)=(i == j):=by
 rw [Bool.eq_iff_iff]
 simp
theorem qpi {i j:Str}:decide (V.str i=V.str j)=(i == j):=by
 rw [Bool.eq_iff_iff]
 simp
theorem qpj {i j:Array UInt8}:decide (V.byt i=V.byt j)=(i.toList == j.toList):=by
 rw [Bool.eq_iff_iff]
 cases i
 cases j
 simp
section
variable {X:Cx} {a b c:Expr} {ta tb tc:TE} {pos:Pos}
theorem qa9 {pins:List (Addr×Obj)} {σ:St} {H:Hp} {s:Shared} {Q:VK} {k k':Bool} (I:Inv X pins σ H s) (q:Q (.bl k) H) (e:k=k'):EP X pins σ Q (.bool k') s:=by
 subst e
 exact ⟨.bl k,H,I,rfl,q⟩
theorem qfl:OpR X (compareOp .Eq) rEq:=by
 intro pins s σ H x y v u Q I rx ry h
 obtain ⟨hs,q⟩:=h
 cases x with
 | non=>
   cases rx
   cases y with
   | non=>cases ry;exact PySem.EqNone.eq_none_none (qa9 I q (by simp))
   | bl j=>cases ry;exact PySem.EqNone.eq_none_bool (qa9 I q (by simp))
   | int j=>obtain ⟨t',rfl⟩:=ry;exact PySem.EqNone.eq_none_int (qa9 I q (by simp))
   | str j=>obtain ⟨t',rfl⟩:=ry;exact PySem.EqNone.eq_none_str (qa9 I q (by simp))
   | _=>exact absurd (show false=true from hs) wbe
 | bl i=>
   cases rx
   cases y with
   | non=>cases ry;exact PySem.EqNone.eq_bool_none (qa9 I q (by simp))
   | bl j=>cases ry;exact eq_bool (qa9 I q qti)
   | str j=>obtain ⟨t',rfl⟩:=ry;exact PySem.EqMixed.eq_bool_str (qa9 I q (by simp))
   | _=>exact absurd (show false=true from hs) wbe
 | int i=>
   obtain ⟨t,rfl⟩:=rx
   cases y with
   | non=>cases ry;exact PySem.EqNone.eq_int_none (qa9 I q (by simp))
   | int j=>obtain ⟨t',rfl⟩:=ry;exact eq_int (qa9 I q qph)
   | str j=>obtain ⟨t',rfl⟩:=ry;exact PySem.EqMixed.eq_int_str (qa9 I q (by simp))
   | _=>exact absurd (show false=true from hs) wbe
 | str i=>
   obtain ⟨t,rfl⟩:=rx
   cases y with
   | non=>cases ry;exact PySem.EqNone.eq_str_none (qa9 I q (by simp))
   | bl j=>cases ry;exact PySem.EqMixed.eq_str_bool (qa9 I q (by simp))
   | int j=>obtain ⟨t',rfl⟩:=ry;exact PySem.EqMixed.eq_str_int (qa9 I q (by simp))
   | str j=>obtain ⟨t',rfl⟩:=ry;exact eq_str (qa9 I q qpi)
   | _=>exact absurd (show false=true from hs) wbe
 | byt i=>
   obtain ⟨t,rfl⟩:=rx
   cases y with
   | byt j=>obtain ⟨t',rfl⟩:=ry;exact PySem.W.eq_bytes (qa9 I q qpj)
   | _=>exact absurd (show false=true from hs) wbe
 | _=>cases y <;> exact absurd (show false=true from hs) wbe
theorem qlW:OpR X (compareOp .NotEq) rNe:=by
 intro pins s σ H x y v u Q I rx ry h
 obtain ⟨hs,q⟩:=h
 cases x with
 | non=>
   cases rx
   cases y with
   | non=>cases ry;exact PySem.EqNone.ne_none_none (qa9 I q (by simp))
   | bl j=>cases ry;exact PySem.EqNone.ne_none_bool (qa9 I q (by simp))
   | int j=>obtain ⟨t',rfl⟩:=ry;exact PySem.EqNone.ne_none_int (qa9 I q (by simp))
   | str j=>obtain ⟨t',rfl⟩:=ry;exact PySem.EqNone.ne_none_str (qa9 I q (by simp))
   | _=>exact absurd (show false=true from hs) wbe
 | bl i=>
   cases rx
   cases y with
   | non=>cases ry;exact PySem.EqNone.ne_bool_none (qa9 I q (by simp))
   | bl j=>cases ry;exact ne_bool (qa9 I q (congrArg not qti))
   | str j=>obtain ⟨t',rfl⟩:=ry;exact PySem.EqMixed.ne_bool_str (qa9 I q (by simp))
   | _=>exact absurd (show false=true from hs) wbe
 | int i=>
   obtain ⟨t,rfl⟩:=rx
   cases y with
   | non=>cases ry;exact PySem.EqNone.ne_int_none (qa9 I q (by simp))
   | int j=>obtain ⟨t',rfl⟩:=ry;exact ne_int (qa9 I q (congrArg not qph))
   | str j=>obtain ⟨t',rfl⟩:=ry;exact PySem.EqMixed.ne_int_str (qa9 I q (by simp))
   | _=>exact absurd (show false=true from hs) wbe
 | str i=>
   obtain ⟨t,rfl⟩:=rx
   cases y with
   | non=>cases ry;exact PySem.EqNone.ne_str_none (qa9 I q (by simp))
   | bl j=>cases ry;exact PySem.EqMixed.ne_str_bool (qa9 I q (by simp))
   | int j=>obtain ⟨t',rfl⟩:=ry;exact PySem.EqMixed.ne_str_int (qa9 I q (by simp))
   | str j=>obtain ⟨t',rfl⟩:=ry;exact ne_str (qa9 I q (congrArg not qpi))
   | _=>exact absurd (show false=true from hs) wbe
 | byt i=>
   obtain ⟨t,rfl⟩:=rx
   cases y with
   | byt j=>obtain ⟨t',rfl⟩:=ry;exact PySem.W.ne_bytes (qa9 I q (congrArg not qpj))
   | _=>exact absurd (show false=true from hs) wbe
 | _=>cases y <;> exact absurd (show false=true from hs) wbe
theorem qpk:OpR X (compareOp .Lt) (rI0 λi j=>.bl (decide (i<j))):=qwM λ_ _ _ _ _ _ _ q=>lt_int q
theorem qwS:OpR X (compareOp .LtE) (rI0 λi j=>.bl (decide (i<=j))):=qwM λ_ _ _ _ _ _ _ q=>le_int q
theorem qkr:OpR X (compareOp .Gt) (rI0 λi j=>.bl (decide (j<i))):=qwM λ_ _ _ _ _ _ _ q=>gt_int q
theorem qvx:OpR X (compareOp .GtE) (rI0 λi j=>.bl (decide (j<=i))):=qwM λ_ _ _ _ _ _ _ q=>ge_int q
theorem qtj:OpR X (compareOp .Is) (λx y H Q=>y=.non/\Q (.bl (decide (x=.non))) H):=by
 intro pins s σ H x y v u Q I rx ry h
 obtain ⟨rfl,q⟩:=h
 cases ry
 refine is_none_gen (qa9 I q ?_)
 cases x <;> first
  | (cases rx;rfl)
  | (obtain ⟨t,rfl⟩:=rx;rfl)
theorem qt7:OpR X (compareOp .IsNot) (λx y H Q=>y=.non/\Q (.bl (!decide (x=.non))) H):=by
 intro pins s σ H x y v u Q I rx ry h
 obtain ⟨rfl,q⟩:=h
 cases ry
 refine isnot_none_gen (qa9 I q ?_)
 cases x <;> first
  | (cases rx;rfl)
  | (obtain ⟨t,rfl⟩:=rx;rfl)
theorem nomark (b:Expr) {op:CmpOp} (h:op≠.In:=by decide) (h2:op≠.NotIn:=by decide):behindInMarks op b=false:=by
 have e1:(op == CmpOp.In)=false:=by cases op <;> first | rfl | exact absurd rfl h
 have e2:(op == CmpOp.NotIn)=false:=by cases op <;> first | rfl | exact absurd rfl h2
 cases b <;> simp [behindInMarks,e1,e2]
theorem qlX {op:CmpOp} {r:R2} (ho:OpR X (compareOp op) r) (ha:PE X a ta) (hb:PE X b tb) (hm:behindInMarks op b=false):PE X (.Compare a [op] [b] pos) (tOp r ta tb):=by
 intro pins s σ H Q I h
 exact wpAny_Compare1 (qwR ha hb I h λv u s2 x y H2 I2 rx ry q=>ho pins s2 σ H2 x y v u Q I2 rx ry q) hm
noncomputable def qa2 (t:TE):TT:=λσ H Q=>t σ H λx H'=>∃ k,x=.bl k/\Q k H'
theorem qaE {op:CmpOp} {r:R2} (ho:OpR X (compareOp op) r) (ha:PE X a ta) (hb:PE X b tb) (hm:behindInMarks op b=false):PT X (.Compare a [op] [b] pos) (qa2 (tOp r ta tb)):=by
 intro pins s σ H Q I h
 refine wpAny_isTrue_Compare1 (thn (ha pins s σ H _ I h) λv s1 ⟨x,H1,I1,r1,q1⟩=>thn (hb pins s1 σ H1 _ I1 q1) λu s2 ⟨y,H2,I2,r2,q2⟩=>
  thn (ho pins s2 σ H2 x y v u _ I2 r1 r2 q2) λc s3 ⟨z,H3,I3,r3,k,e,q3⟩=>?_) hm
 subst e
 cases r3
 exact wpAny_truthy_bool ⟨H3,I3,q3⟩
noncomputable def qtk (r r':R2) (ta tb tc:TE):TE:=λσ H Q=>ta σ H λx H1=>tb σ H1 λy H2=>r x y H2 λz H3=>∃ k,z=.bl k/\
 (if k=true then tc σ H3 λw' H4=>r' y w' H4 Q else Q (.bl false) H3)
noncomputable def qxS (K:PySem.W.Frag) (x:V) (H:Hp) (k:Bool):Prop:=
 match x with
 | .non=>k=false
 | .bl b=>k=b
 | .int i=>k=(i != 0)
 | .str y=>y.length<=sizeLine/\k=((y.length:Int) != 0)
 | .byt y=>y.size<=sizeLine/\k=((y.size:Int) != 0)
 | .ref p=>(∃ xs,SqL K H p xs/\k=!xs.isEmpty)\/(∃ xs,SqT K H p xs/\k=!xs.isEmpty)\/∃ kvs,H p=some (.dK kvs)/\k=!kvs.isEmpty
 | _=>False
theorem qn1 {κ:Type} {kvs:List (κ×V)} {vs:List (κ×Value)} (r:KV kvs vs):(!vs.isEmpty)=!kvs.isEmpty:=by
 cases r <;> rfl
theorem qiS {xs:List V} {its:List Value} (r:Vals xs its):(!its.toArray.isEmpty)=!xs.isEmpty:=by
 cases r <;> simp
theorem qiT:(sizeLine:Nat)<2 ^ 63:=by rw [sizeLine_eq];decide
theorem qvy:qxR X (λx H Q=>∃ k,qxS X.K x H k/\Q k H):=by
 intro pins s σ H x v Q I rx h
 obtain ⟨k,e,q⟩:=h
 have hl:=qiT
 have hs:sizeLine=16777216:=sizeLine_eq
 cases x with
 | non=>
   cases rx
   have e':k=false:=e
   subst e'
   exact truthy_none ⟨H,I,q⟩
 | bl b=>
   cases rx
   have e':k=b:=e
   subst e'
   exact wpAny_truthy_bool ⟨H,I,q⟩
 | int i=>
   obtain ⟨t,rfl⟩:=rx
   have e':k=(i != 0):=e
   subst e'
   exact PySem.P.truthy_int ⟨H,I,q⟩
 | str y=>
   obtain ⟨t,rfl⟩:=rx
   obtain ⟨hy,e'⟩:y.length<=sizeLine/\k=((y.length:Int) != 0):=e
   subst e'
   exact PySem.P.truthy_str ⋯ ⟨H,I.tok _,q⟩
 | byt y=>
   obtain ⟨t,rfl⟩:=rx
   obtain ⟨hy,e'⟩:y.size<=sizeLine/\k=((y.size:Int) != 0):=e
   subst e'
   exact PySem.W.truthy_bytes ⋯ ⟨H,I.tok _,q⟩
 | ref p=>
   cases rx
   have e':(∃ xs,SqL X.K H p xs/\k=!xs.isEmpty)\/(∃ xs,SqT X.K H p xs/\k=!xs.isEmpty)\/∃ kvs,H p=some (.dK kvs)/\k=!kvs.isEmpty:=e
   rcases e' with ⟨xs,hx,e'⟩ | ⟨xs,hx,e'⟩ | ⟨kvs,hx,e'⟩
   ·subst e'
    obtain ⟨its,r,pl,hz⟩:=I.list hx
    have hlen:=r.length
    exact wpAny_truthy_list pl.isList (by simp only [wam];omega) ⟨H,I.tok _,by rw [qiS r];exact q⟩
   ·subst e'
    obtain ⟨its,r,pl,hz⟩:=I.tuple hx
    have hlen:=r.length
    exact truthy_tuple pl (by simp only [wam];omega) ⟨H,I.tok _,by rw [qiS r];exact q⟩
   ·subst e'
    obtain ⟨hz,hS,vs,r,m⟩:kvs.length<=sizeLine/\(p == sysModules)=false/\∃ vs,KV kvs vs/\s.heap.DictOf (qe2 X.prog X.w) p vs:=I.hok p _ hx
    have hlen:kvs.length=vs.length:=Paired.length r
    exact wpAny_truthy_dict hS m ⋯ ⟨H,I.tok _,by rw [qn1 r];exact q⟩
 | _=>exact (show False from e).elim
theorem qlY {x:V} {us:List Value} (r:Vals [x] us):∃ u,us=[u]/\RelV x u:=by
 cases r with
 | cons r1 r2=>cases r2;exact ⟨_,rfl,r1⟩
theorem vals2 {x y:V} {us:List Value} (r:Vals [x,y] us):∃ u w',us=[u,w']/\RelV x u/\RelV y w':=by
 cases r with
 | cons r1 r2=>
   cases r2 with
   | cons r3 r4=>cases r4;exact ⟨_,_,rfl,r1,r3⟩
theorem qr0:qeK X (.builtin "abs") (λxs H Q=>∃ i,xs=[.int i]/\Q (.int (if i<0 then -i else i)) H):=by
 intro pins s σ H xs us Q I r h
 obtain ⟨i,rfl,q⟩:=h
 obtain ⟨u,rfl,t,rfl⟩:=qlY r
 exact call_abs_int λu tk=>⟨.int (if i<0 then -i else i),H,I.tok _,⟨_,rfl⟩,q⟩
theorem qpl (hc:X.calm=true):qeK X (.builtin "max") (λxs H Q=>∃ i j,xs=[.int i,.int j]/\Q (.int (if j > i then j else i)) H):=by
 intro pins s σ H xs us Q I r h
 obtain ⟨i,j,rfl,q⟩:=h
 obtain ⟨u,w',rfl,⟨t,rfl⟩,⟨t',rfl⟩⟩:=vals2 r
 refine max_two_ints (I.ok.hd hc) λh' tk k=>⟨_,H,I.kept k,?_,q⟩
 by_cases hj:j > i
 ·rw [if_pos hj,if_pos hj];exact ⟨_,rfl⟩
 ·rw [if_neg hj,if_neg hj];exact ⟨_,rfl⟩
theorem call_divmod:qeK X (.builtin "divmod") (λxs H Q=>∃ i j,xs=[.int i,.int j]/\CDiv i j/\∀ p,H p=none->Q (.ref p) (upd H p (.tup [.int (i / j),.int (i % j)]))):=by
 intro pins s σ H xs us Q I r h
 obtain ⟨i,j,rfl,⟨h1,h2⟩,q⟩:=h
 obtain ⟨u,w',rfl,⟨t,rfl⟩,⟨t',rfl⟩⟩:=vals2 r
 refine divmod_int ⋯ ?_ (.inl (PyProof.noPylong_small ⋯))
 rw [wbo i ⋯,Int.fmod_eq_emod_of_nonneg i ⋯]
 have hn:H s.heap.objs.size=none:=I.hok.fresh (wac _)
 refine ⟨.ref s.heap.objs.size,_,?_,rfl,q _ hn⟩
 refine I.laid (λb o e=>Heap.get?_push_of_some _ e) (wac _) ⟨by simp only [way,List.length_nil];rw [sizeLine_eq];decide,[.int (i / j) s.toks,.int (i % j) (s.toks+1)],.cons ⟨_,rfl⟩ (.cons ⟨_,rfl⟩ .nil),?_⟩
 exact ⟨_,Heap.get?_push_size s.heap rfl,rfl,0,rfl⟩
end
end L2
namespace L2
open PySem PySem.Spec PyProof.Rows
structure ObjM (h:Heap) (x dx C:Addr) (mA:Str->Option Value):Prop where
 obj:h.get? x=some (PySem.W.instObj C dx)
 ns:h.Ns1 dx mA
 ne:dx≠x
section
variable {prog:Program} {w:World} {A:Around} {E:Value->Shared->Prop} {s:Shared} {K:PySem.W.Frag} {x dx C f:Addr} {mA:Str->Option Value} {name:Str} {v:Value}
end
section
variable {P:Program} {w:World} {H H':Hp} {h h':Heap} {a C dx:Addr} {fs fs':List (Str×V)}
end
structure Cls (K:PySem.W.Frag) (C:Addr):Prop where
 pg:PySem.W.plainGet K C Str.empty=true
 hd:PySem.W.hasDictIn K C=true
 po:PySem.W.plainOver K C=true
 sa:PySem.W.findIn K (.ref C) "__setattr__" = some (some (.builtin "object.__setattr__"))
theorem Cls.get {K:PySem.W.Frag} {C:Addr} (c:Cls K C) (f:Str):PySem.W.plainGet K C f=true:=c.pg
structure Con (K:PySem.W.Frag) (C:Addr) (f:Str) (v:V) (u:Value):Prop where
 at_:PySem.W.findIn K (.ref C) f=some (some u)
 rel:RelV v u
 get:PySem.W.specialIn K u "__get__" = some none
 cp:PySem.W.copiedNames.contains f=false
structure Meth (K:PySem.W.Frag) (C:Addr) (m:Str) (f:Addr):Prop where
 at_:PySem.W.findIn K (.ref C) m=some (some (.ref f))
 fn:PySem.W.isFn K (.ref f)=true
 kp:PySem.W.keepIn K (.ref f)=true
section
variable {X:Cx} {pins:List (Addr×Obj)} {σ:St} {H:Hp} {s:Shared} {a C dx:Addr} {fs:List (Str×V)} {f:Str} {v:V} {A:Around} {E:Value->Shared->Prop}
end
section
variable {X:Cx} {o e value:Expr} {f:Str} {pos pos' tpos:Pos} {ta tv:TE}
end
section
variable {X:Cx} {pins:List (Addr×Obj)} {σ:St} {H:Hp} {s:Shared} {A:Around} {E:Value->Shared->Prop} {Q:Value->Shared->Prop} {c:Value} {b:Bool}
inductive TyOf (K:PySem.W.Frag) (H:Hp):V->Value->Prop where
 | non:TyOf K H .non (.type "NoneType")
 | bl (x:Bool):TyOf K H (.bl x) (.type "bool")
 | int (i:Int):TyOf K H (.int i) (.type "int")
 | str (x:Str):TyOf K H (.str x) (.type "str")
 | flt (x:UInt64):TyOf K H (.flt x) (.type "float")
 | lst {a:Addr} {xs:List V} (e:H a=some (.lst xs)):TyOf K H (.ref a) (.type "list")
 | frz {a:Addr} {o:Obj} {xs:List V} (e:H a=some (.frz o (.lst xs))):TyOf K H (.ref a) (.type "list")
 | tup {a:Addr} {xs:List V} (e:H a=some (.tup xs)):TyOf K H (.ref a) (.type "tuple")
 | dK {a:Addr} {kvs:List (Key×V)} (e:H a=some (.dK kvs)):TyOf K H (.ref a) (.type "dict")
 | dT {a:Addr} {kvs:List (List Key×V)} (e:H a=some (.dT kvs)):TyOf K H (.ref a) (.type "dict")
 | ins {a C dx:Addr} {fs:List (Str×V)} (e:H a=some (.ins C dx fs)) (cl:Cls K C) (ha:PySem.W.findIn K (.ref C) "__class__" = some (some (.builtin "object.__class__")))
   (hn:PySem.W.specialIn K (.builtin "object.__class__") "__get__" = some (some (.builtin "getset_descriptor.__get__"))) (htk:PySem.W.takesIn K (.builtin "object.__class__")=some true)
   (hm:PySem.W.mroIn K C (.type "object")=some true):TyOf K H (.ref a) (.ref C)
end
end L2
namespace L2
open PySem PySem.Spec PyProof.Rows
structure Room (k:Nat) (A:Around):Prop where
 hd:A.handled=none
 dp:A.depth+3*k+105<recursionLimit
 un:A.units+16*k+200<cLine
theorem Room.mono {j k:Nat} {A:Around} (r:Room k A) (h:j<=k):Room j A:=⟨r.hd,by have:=r.dp;omega,by have:=r.un;omega⟩
theorem Room.deeper {k:Nat} {A:Around} (r:Room (k+1) A) (env:Env):Room k (A.deeper env):=
 ⟨r.hd,by have:=r.dp;show A.depth+1+3*k+105<_;omega,by have:=r.un;show A.units+3+16*k+200<_;omega⟩
theorem Room.in1 {k:Nat} {A:Around} (r:Room (k+1) A):Room k A.in1:=
 ⟨r.hd,by have:=r.dp;show A.depth+3*k+105<_;omega,by have:=r.un;show A.units+1+16*k+200<_;omega⟩
theorem Room.depth {k:Nat} {A:Around} (r:Room k A):A.depth<recursionLimit:=by have:=r.dp;omega
theorem Room.units {k:Nat} {A:Around} (r:Room k A):A.units+64<cLine:=by have:=r.un;omega
theorem Room.units0 {k:Nat} {A:Around} (r:Room k A):A.units<cLine:=by have:=r.un;omega
noncomputable def qal:TA:=λ_ H Q=>Q [] H
noncomputable def qab (ta:TE) (tr:TA):TA:=λσ H Q=>ta σ H λx H1=>tr σ H1 λxs H2=>Q (x::xs) H2
section
variable {X:Cx} {e:Expr} {es:List Expr} {te:TE} {t:TA} {pos:Pos}
theorem qac:PA X [] qal:=λ_ _ _ _ H Q I h=>Calls.spliced_nil ⟨[],H,I,.nil,h⟩
theorem qaa (ha:PE X e te) (hr:PA X es t) (hs:starEach (e::es) X.env=(false,eval e X.env)::starEach es X.env:=by rfl):PA X (e::es) (qab te t):=by
 intro pos pins s σ H Q I h
 rw [hs]
 show wpAny _ _ (spliced ((false,eval e X.env)::backTo pos (starEach es X.env))) _ _ s
 refine Calls.spliced_cons (thn (ha pins s σ H _ I h) λu s1 ⟨x,H1,I1,r1,q1⟩=>?_)
 exact thn (hr pos pins s1 σ H1 _ I1 q1) λus s2 ⟨xs,H2,I2,r2,q2⟩=>⟨x::xs,H2,I2,.cons r1 r2,q2⟩
noncomputable def qb9 (t:TA):TE:=λσ H Q=>t σ H λxs H1=>xs.length<=sizeLine/\∀ p,H1 p=none->Q (.ref p) (upd H1 p (.tup xs))
noncomputable def qcR (t:TA):TE:=λσ H Q=>t σ H λxs H1=>xs.length<=sizeLine/\∀ p,H1 p=none->Q (.ref p) (upd H1 p (.lst xs))
theorem qaJ {x1} (h:PA X es t):PE X (.Tuple es x1 pos) (qb9 t):=by
 intro pins s σ H Q I hq
 refine wpAny_Tuple_spliced (thn (h pos pins s σ H _ I hq) λus s1 ⟨xs,H1,I1,r,z,q⟩=>⟨by rw [<-r.length];exact z,?_⟩)
 have hf:H1 s1.heap.objs.size=none:=I1.hok.fresh (wac _)
 refine ⟨.ref s1.heap.objs.size,upd H1 s1.heap.objs.size (.tup xs),I1.laid (t':=s1.toks) (λb u e=>Heap.get?_push_of_some _ e) (wac _) ?_,rfl,q _ hf⟩
 exact ⟨z,us,r,⟨_,Heap.get?_push_size _ rfl,rfl,_,rfl⟩⟩
theorem qaR (h:PA X es t):PE X (.List es pos) (qcR t):=by
 intro pins s σ H Q I hq
 refine wpAny_List_spliced (thn (h pos pins s σ H _ I hq) λus s1 ⟨xs,H1,I1,r,z,q⟩=>⟨by rw [<-r.length];exact z,?_⟩)
 have hf:H1 s1.heap.objs.size=none:=I1.hok.fresh (wac _)
 refine ⟨.ref s1.heap.objs.size,upd H1 s1.heap.objs.size (.lst xs),I1.laid (t':=s1.toks) (λb u e=>Heap.get?_push_of_some _ e) (wac _) ?_,rfl,q _ hf⟩
 exact ⟨z,us,0,r,Heap.get?_push_size _ rfl⟩
end
noncomputable abbrev Sp:=List V->Hp->VK->XK->Prop
noncomputable abbrev CXT:=List Env->Hp->Shared->XK->Value->Shared->Prop
structure Env0 (P:Program) (w:World) (K:PySem.W.Frag) (mg:Str->Option Value) (base:Heap) (A:Around) (outer:List Env) (s:Shared) (H:Hp):Prop where
 frames:A.frames=some outer
 mod:Mod K mg base
 bs:∀ b o,base.get? b=some o->s.heap.get? b=some o/\H b=none
 bsz:base.objs.size<=s.heap.objs.size
 funs:s.heap.FunFrames base outer
 frf:∀ b∈frs outer,H b=none
 hok:HOk P w H s.heap
 bare:AllBare s.gens
 seer:base.NoSeer
 tree:(model P w).prog.given.tree=none
noncomputable def CE (outer:List Env) (P:Program) (w:World) (H:Hp) (s:Shared) (Q:VK) (u:Value) (s':Shared):Prop:=
 ∃ v H',s'.os=s.os/\AllBare s'.gens/\Un (frs outer) [] H H' s.heap s'.heap/\HOk P w H' s'.heap/\RelV v u/\Q v H'
noncomputable def CR (CX:CXT) (outer:List Env) (P:Program) (w:World) (H:Hp) (s:Shared) (Q:VK) (E:XK) (r:Result) (s':Shared):Prop:=
 match r with
 | .ok (.ret u)=>CE outer P w H s Q u s'
 | .ok _=>False
 | .error e=>CX outer H s E e s'
structure FnOk (P:Program) (w:World) (K:PySem.W.Frag) (mg:Str->Option Value) (base:Heap) (CX:CXT) (k:Nat) (f:Addr) (fd:FuncData) (ps:List Str) (sp:Sp):Prop where
 len:∀ vs H Q E,sp vs H Q E->vs.length=ps.length
 run:∀ (A:Around) (outer:List Env) (s:Shared) (H:Hp) (args:Args) (us:List Value) (vs:List V) (Q:VK) (E:XK),Room k A->Env0 P w K mg base A outer s H->BindsTo s fd args (ps.zip us)->Vals vs us->sp vs H Q E->
  codeAny (model P w) A (.call (.ref f) args) (CR CX outer P w H s Q E) s
theorem FnOk.mono {P:Program} {w:World} {K:PySem.W.Frag} {mg:Str->Option Value} {base:Heap} {CX:CXT} {j k:Nat} {f:Addr} {fd:FuncData} {ps:List Str} {sp:Sp} (F:FnOk P w K mg base CX j f fd ps sp) (h:j<=k) :
  FnOk P w K mg base CX k f fd ps sp:=⟨F.len,λA outer s H args us vs Q E hr=>F.run A outer s H args us vs Q E (hr.mono h)⟩
theorem FnOk.imp {P:Program} {w:World} {K:PySem.W.Frag} {mg:Str->Option Value} {base:Heap} {CX:CXT} {k:Nat} {f:Addr} {fd:FuncData} {ps:List Str} {sp sp':Sp} (F:FnOk P w K mg base CX k f fd ps sp)
  (h:∀ vs H Q E,sp' vs H Q E->sp vs H Q E):FnOk P w K mg base CX k f fd ps sp':=
 ⟨λvs H Q E q=>F.len vs H Q E (h _ _ _ _ q),λA outer s H args us vs Q E hr he hb hv hs=>F.run A outer s H args us vs Q E hr he hb hv (h _ _ _ _ hs)⟩
theorem Env0.in1 {P:Program} {w:World} {K:PySem.W.Frag} {mg:Str->Option Value} {base:Heap} {A:Around} {outer:List Env} {s:Shared} {H:Hp} (e:Env0 P w K mg base A outer s H) :
  Env0 P w K mg base A.in1 outer s H:=⟨e.frames,e.mod,e.bs,e.bsz,e.funs,e.frf,e.hok,e.bare,e.seer,e.tree⟩
section
variable {X:Cx} {pins:List (Addr×Obj)} {σ:St} {H:Hp} {s s':Shared}
theorem Inv.env0 (I:Inv X pins σ H s):Env0 X.prog X.w X.K X.mg X.base X.A X.stack s H:=
 ⟨I.ok.frames,I.ok.mod,I.bs,wak I.ok.bsz I.sz,I.stack,I.stkFree,I.hok,I.bare,I.ok.seer,I.ok.tree⟩
theorem Inv.after {Q:VK} {u:Value} (I:Inv X pins σ H s) (h:CE X.stack X.prog X.w H s Q u s'):EP X pins σ Q u s':=by
 obtain ⟨v,H',os,bare,un,hok,r,q⟩:=h
 obtain ⟨hh,g,d,t,os'⟩:=s'
 obtain rfl:os'=s.os:=os
 exact ⟨v,H',I.call (h':=hh) (g':=g) (d':=d) (t':=t) (ch:=[]) un hok bare (λb z=>absurd z (by simp)),r,q⟩
end
noncomputable def qak (sp:Sp) (dvs:List V) (E:XK) (t:TA):TE:=λσ H Q=>t σ H λvs H1=>sp (vs++dvs) H1 Q E
noncomputable def Binds (K:PySem.W.Frag) (fd:FuncData) (ps:List Str) (ds:List Value):Prop:=
 ∀ (s:Shared) (us:List Value),K.In s.heap->(us++ds).length=ps.length->BindsTo s fd ⟨us,[]⟩ (ps.zip (us++ds))
theorem Binds.all {K:PySem.W.Frag} {fd:FuncData} {ps:List Str} (h:∀ us:List Value,us.length=ps.length->bindArgs fd ⟨us,[]⟩=pure (ps.zip us)):Binds K fd ps []:=λs us _ hl=>by
 rw [List.append_nil] at hl ⊢
 exact .of_eq (h us hl)
noncomputable def Passes (CX:CXT) (X:Cx) (E:XK):Prop:=∀ (pins:List (Addr×Obj)) (σ:St) (H:Hp) (s:Shared) (e:Value) (s':Shared),Inv X pins σ H s->CX X.stack H s E e s'->X.xe e s'
section
variable {X:Cx} {CX:CXT} {k:Nat} {f C:Addr} {fd:FuncData} {ps:List Str} {sp:Sp} {dvs:List V} {ds:List Value} {E:XK} {x m:Str} {p pos apos:Pos} {e o:Expr} {es:List Expr} {ta:TE} {t:TA}
theorem qvz {pins:List (Addr×Obj)} {σ:St} {H:Hp} {s:Shared} {Q:VK} {us:List Value} {vs:List V} (F:FnOk X.prog X.w X.K X.mg X.base CX k f fd ps sp) (hr:Room k X.A) (hb:Binds X.K fd ps ds) (hd:Vals dvs ds) (hx:Passes CX X E)
  (I:Inv X pins σ H s) (r:Vals vs us) (h:sp (vs++dvs) H Q E):wpAny (model X.prog X.w) X.A (call (.ref f) us) (EP X pins σ Q) X.xe s:=by
 have r2:Vals (vs++dvs) (us++ds):=r.append hd
 have hl:(us++ds).length=ps.length:=by rw [<-r2.length];exact F.len _ _ _ _ h
 refine wpAny_call (codeAny_mono (F.run X.A X.stack s H ⟨us,[]⟩ (us++ds) (vs++dvs) Q E hr I.env0 (hb s us I.kIn hl) r2 h) λr s' hq=>?_)
 cases r with
 | error e=>exact hx pins σ H s e s' I hq
 | ok fl=>
   cases fl with
   | ret u=>exact I.after hq
   | next=>exact False.elim hq
   | brk=>exact False.elim hq
   | cont=>exact False.elim hq
theorem qt8 (F:FnOk X.prog X.w X.K X.mg X.base CX k f fd ps sp) (hr:Room k X.A) (hg:Gl X x) (hm:X.mg x=some (.ref f)) (hk:PySem.W.keepIn X.K (.ref f)=true) (hb:Binds X.K fd ps ds) (hd:Vals dvs ds) (hx:Passes CX X E)
  (ha:PA X (e::es) t) (hdb:(x == ("__debug__" : Str))=false:=by decide) (he:starEach (e::es) X.env=(false,eval e X.env)::starEach es X.env:=by rfl) (hpl:(backTo pos (starEach es X.env)).any (·.1)=false:=by rfl) :
  PE X (.Call (.Name x p) (e::es) [] pos) (qak sp dvs E t):=by
 intro pins s σ H Q I h
 refine wpAny_Call_Name_kw (qo8 I hg hm ?_ hdb)
 refine PySem.W.callWith_K (h₀:=X.base) I.ok.mod.kin hk (thn (ha pos pins s σ H _ I h) λus s1 ⟨vs,H1,I1,r,q⟩=>⟨I1.kIn,?_⟩) he hpl
 exact qvz F hr hb hd hx I1 r q
structure Mk (K:PySem.W.Frag) (C f:Addr):Prop where
 makes:PySem.W.makesIn K C=true
 init:PySem.W.findIn K (.ref C) "__init__" = some (some (.ref f))
 fn:PySem.W.isFn K (.ref f)=true
 kp:PySem.W.keepIn K (.ref C)=true
end
noncomputable def PK (X:Cx) (kws:List Keyword) (t:TA):Prop:=
 ∀ (pos:Pos) (pins:List (Addr×Obj)) (s:Shared) (σ:St) (H:Hp) (Q:List V->Hp->Prop),Inv X pins σ H s->t σ H Q->wpAny (model X.prog X.w) X.A (evalAll ((backToKw pos (keywordEach kws X.env)).map (·.2))) (AP X pins σ Q) X.xe s
section
variable {X:Cx} {CX:CXT} {k:Nat} {f C:Addr} {fd:FuncData} {ps ks:List Str} {sp:Sp} {E:XK} {x m:Str} {p pos apos kpos:Pos} {e o:Expr} {es:List Expr} {kws:List Keyword} {te ta:TE} {t tk:TA} {nm:Option Str}
theorem qvA:PK X [] qal:=λ_ _ _ _ H Q I h=>wpAny_evalAll_nil ⟨[],H,I,.nil,h⟩
theorem qt9 (ha:PE X e te) (hr:PK X kws t):PK X (⟨nm,e,kpos⟩::kws) (qab te t):=by
 intro pos pins s σ H Q I h
 show wpAny _ _ (evalAll ((do let v <-eval e X.env;standAt pos;pure v)::(backToKw pos (keywordEach kws X.env)).map (·.2))) _ _ s
 refine wpAny_evalAll_cons (wpAny_bind (thn (ha pins s σ H _ I h) λu s1 ⟨x,H1,I1,r1,q1⟩=>wpAny_bind (wpAny_standAt (wpAny_pure ?_))))
 exact thn (hr pos pins s1 σ H1 _ I1 q1) λus s2 ⟨xs,H2,I2,r2,q2⟩=>⟨x::xs,H2,I2,.cons r1 r2,q2⟩
structure KBinds (K:PySem.W.Frag) (fd:FuncData) (ps ks:List Str) (g:List Value->List Value->List Value) (gV:List V->List V->List V):Prop where
 to:∀ (s:Shared) (us ws:List Value),K.In s.heap->(g us ws).length=ps.length->BindsTo s fd ⟨us,ks.zip ws⟩ (ps.zip (g us ws))
 rel:∀ {vs:List V} {us:List Value} {zs:List V} {ws:List Value},Vals vs us->Vals zs ws->Vals (gV vs zs) (g us ws)
variable {g:List Value->List Value->List Value} {gV:List V->List V->List V}
end
structure FnScope (N P:List Str) (sc:Scope):Prop where
 kind:sc.kind=.function
 co:sc.isCoroutine=false
 gen:sc.isGenerator=false
 nd:N.Nodup
 pre:N.take P.length=P
 par:∀ x∈P,sc.names.lookup x=some .local\/sc.names.lookup x=some .cell
 nofree:∀ y∈sc.names,y.2≠.free
theorem qks {kindOf:Str->Option NameKind} {x:Str}:∀ {binds:List (Str×Value)} {m:Str->Option Value},(∀ v,(x,v)∉binds)->bindL kindOf binds m x=m x
 | [],_,_=>rfl
 | (n,v)::r,m,h=>by
   unfold bindL
   rw [qks λw hw=>h w (wbi _ hw)]
   split
   ·have:x≠n:=by rintro rfl;exact h v wbh
    simp [this]
   ·rfl
theorem qkt {kindOf:Str->Option NameKind} {x:Str}:∀ {binds:List (Str×Value)} {m:Str->Option Value},(∀ v,(x,v)∉binds)->bindC kindOf binds m x=m x
 | [],_,_=>rfl
 | (n,v)::r,m,h=>by
   unfold bindC
   rw [qkt λw hw=>h w (wbi _ hw)]
   split
   ·rfl
   ·have:x≠n:=by rintro rfl;exact h v wbh
    simp [this]
theorem qku {kindOf:Str->Option NameKind} {x:Str} {v:Value}:∀ {P:List Str} {vs:List Value} {i:Nat} {m:Str->Option Value},P.Nodup->P[i]?=some x->vs[i]?=some v->kindOf x=some .local->
  bindL kindOf (P.zip vs) m x=some v
 | [],_,_,_,_,h,_,_=>by simp at h
 | _::_,[],_,_,_,_,h,_=>by simp at h
 | p::P,w::vs,0,m,nd,h1,h2,hk=>by
   simp at h1 h2;subst h1;subst h2
   show bindL kindOf ((p,w)::P.zip vs) m p=_
   unfold bindL
   rw [qks λv hv=>(wbw.mp nd).1 (List.of_mem_zip hv).1,if_pos hk]
   simp
 | p::P,w::vs,i+1,m,nd,h1,h2,hk=>by
   show bindL kindOf ((p,w)::P.zip vs) m x=_
   unfold bindL
   exact qku (i:=i) (wbw.mp nd).2 (by simpa using h1) (by simpa using h2) hk
theorem qkv {kindOf:Str->Option NameKind} {x:Str} {v:Value}:∀ {P:List Str} {vs:List Value} {i:Nat} {m:Str->Option Value},P.Nodup->P[i]?=some x->vs[i]?=some v->kindOf x≠some .local->
  bindC kindOf (P.zip vs) m x=some v
 | [],_,_,_,_,h,_,_=>by simp at h
 | _::_,[],_,_,_,_,h,_=>by simp at h
 | p::P,w::vs,0,m,nd,h1,h2,hk=>by
   simp at h1 h2;subst h1;subst h2
   show bindC kindOf ((p,w)::P.zip vs) m p=_
   unfold bindC
   rw [qkt λv hv=>(wbw.mp nd).1 (List.of_mem_zip hv).1,if_neg hk]
   simp
 | p::P,w::vs,i+1,m,nd,h1,h2,hk=>by
   show bindC kindOf ((p,w)::P.zip vs) m x=_
   unfold bindC
   exact qkv (i:=i) (wbw.mp nd).2 (by simpa using h1) (by simpa using h2) hk
noncomputable def start (N:List Str) (vs:List V):St:=vs.map some++List.replicate (N.length - vs.length) none
noncomputable def qua (CX:CXT) (P:Program) (w:World) (K:PySem.W.Frag) (mg:Str->Option Value) (base:Heap) (N:List Str) (qual:Str) (scope:Scope) (f:Addr) (cd:Value) (A:Around) (outer:List Env) (s:Shared) (H:Hp) (E:XK):Cx where
 prog:=P
 w:=w
 K:=K
 mg:=mg
 base:=base
 A:=A.deeper (envOfC qual scope s.heap.objs.size f cd)
 N:=N
 s₀:=s
 H₀:=H
 env:=envOfC qual scope s.heap.objs.size f cd
 outer:=outer
 stack:=envOfC qual scope s.heap.objs.size f cd::outer
 ex:=[]
 calm:=true
 fn:=λ_=>true
 pn:=[]
 xe:=λe s'=>wpAny (model P w) (A.deeper (envOfC qual scope s.heap.objs.size f cd)) (leaving (envOfC qual scope s.heap.objs.size f cd) e) (λ_ s''=>CX outer H s E e s'') (λe' s''=>CX outer H s E e' s'') s'
theorem qm6 {sc:Scope} {n:Nat} {x:Str} (h:sc.names.lookup x=some .cell):∃ c,(cellsFrom n sc.names []).lookup x=some c:=by
 have q:=PySem.W.cellsFrom_some sc.names n [] (.inl h)
 exact Option.isSome_iff_exists.mp q
theorem qpm {CX:CXT} {P:Program} {w:World} {K:PySem.W.Frag} {mg:Str->Option Value} {base:Heap} {N ps:List Str} {qual:Str} {scope:Scope} {f:Addr} {cd:Value} {A:Around} {outer:List Env} {s s1:Shared} {H:Hp} {E:XK} {us:List Value} {vs:List V}
  (S:FnScope N ps scope) (hd:A.handled=none) (hdp:(A.deeper (envOfC qual scope s.heap.objs.size f cd)).depth+Builtin.pylongFrames<recursionLimit) (e0:Env0 P w K mg base A outer s H) (hl:vs.length=ps.length) (r:Vals vs us)
  (x:InCallC s s.heap.objs.size (bindL (envOfC qual scope s.heap.objs.size f cd).kindOf (ps.zip us) λ_=>none) (cellsFrom (s.heap.objs.size+1) scope.names []) (bindC (envOfC qual scope s.heap.objs.size f cd).kindOf (ps.zip us) λ_=>none) s1) :
  Inv (qua CX P w K mg base N qual scope f cd A outer s H E) [] (start N vs) H s1:=by
 have hpl:ps.length<=N.length:=by have:=congrArg List.length S.pre;rw [waw] at this;omega
 obtain ⟨h1,tk,rfl,hk⟩:=x.done
 have noA:∀ b:Addr,b∉(qua CX P w K mg base N qual scope f cd A outer s H E).ex:=λb z=>absurd (show b∈([]:List Addr) from z) (by simp)
 refine ⟨⟨e0.mod,S.kind,rfl,rfl,wac _,λy z c h1 h2=>?_,λy hy=>?_,λy c _ h=>?_,λ_=>hd,Around.frames_deeper e0.frames,.inr ⟨rfl,rfl⟩,λb z=>absurd z (noA b),e0.bs,e0.bsz,λb _ _=>noA b,λb z=>absurd z (noA b),e0.funs,e0.frf,e0.seer,e0.tree,λs' hk'=>PySem.PylongRoom.of (e0.mod.nolimit.keeps hk') hdp (PySem.SeerAt.of (e0.seer.keeps hk') e0.tree (Around.frames_deeper e0.frames) S.gen S.co rfl rfl)⟩,
  rfl,e0.bare,Un.kept hk,⟨_,x.toInCall.ns,λi y v h1 h2 h3=>?_⟩,λy c h=>⟨_,x.cell y c h⟩,e0.hok.fresh (wac _),λy c h=>?_,λp hp=>absurd (show p∈([]:List (Addr×Obj)) from hp) (by simp),e0.hok.kept hk,?_⟩
 ·exact name_of_addr x.apart (PySem.mem_of_lookup h1) (PySem.mem_of_lookup h2)
 ·have hy:scope.names.lookup y=some .cell\/scope.names.lookup y=some .free:=hy
  rcases hy with hy | hy
  ·exact qm6 hy
  ·exact absurd rfl (S.nofree _ (PySem.mem_of_lookup hy))
 ·exact Nat.le_of_lt (x.above y c (PySem.mem_of_lookup h))
 ·have hi:i<vs.length:=by
   unfold start at h2
   by_cases hi:i<vs.length
   ·exact hi
   ·rw [List.getElem?_append_right (by simpa using hi)] at h2
    rw [wb4] at h2
    split at h2 <;> cases h2
  have ha:vs[i]?=some v:=by
   unfold start at h2
   rw [List.getElem?_append_left (by simpa using hi),waf] at h2
   cases e:vs[i]? with
   | none=>rw [e] at h2;cases h2
   | some a=>rw [e] at h2;cases h2;rfl
  obtain ⟨u,hu,rv⟩:=r.get ha
  have hp:ps[i]?=some y:=by
   rw [<-S.pre,List.getElem?_take_of_lt ⋯];exact h1
  have ndP:ps.Nodup:=by rw [<-S.pre];exact S.nd.sublist (List.take_sublist _ _)
  refine ⟨u,rv,?_⟩
  rcases S.par y (wan hp) with k | k
  ·exact .inl ⟨k,qku ndP hp hu k⟩
  ·obtain ⟨c,e⟩:=qm6 (n:=s.heap.objs.size+1) k
   refine .inr ⟨.inl k,c,e,?_⟩
   have q:=x.cell y c e
   rw [qkv ndP hp hu (by show scope.names.lookup y≠_;rw [k];decide)] at q
   exact q
 ·exact e0.hok.fresh (Nat.le_of_lt (x.above y c (PySem.mem_of_lookup h)))
 ·unfold start
  show _=N.length
  rw [wao,waa,List.length_replicate]
  omega
theorem qwT {CX:CXT} {P:Program} {w:World} {K:PySem.W.Frag} {mg:Str->Option Value} {base:Heap} {k:Nat} {f:Addr} {name qual:Str} {params:Arguments} {body:List Stmt} {scope:Scope} {dV kV doc pm cdv ct oc:Value} {an od:Option Addr}
  {osl:Array (Option Value)} {N ps:List Str} {sp:Sp} (lk:K.lookup f=some ⟨oc,od,.func (PySem.W.fnOf name qual params body scope dV kV doc pm an cdv ct),osl⟩) (hcd:PySem.W.codeIn K cdv qual=true) (S:FnScope N ps scope)
  (len:∀ vs H Q E,sp vs H Q E->vs.length=ps.length)
  (hbody:∀ (A:Around) (outer:List Env) (s:Shared) (H:Hp) (vs:List V) (Q:VK) (E:XK),Room k (A.deeper (envOfC qual scope s.heap.objs.size f cdv))->sp vs H Q E->
   ∃ t,PSs (qua CX P w K mg base N qual scope f cdv A outer s H E) body t/\t { nx:=λ_ H'=>Q .non H',rt:=Q } (start N vs) H) :
  FnOk P w K mg base CX (k+1) f (PySem.W.fnOf name qual params body scope dV kV doc pm an cdv ct) ps sp:=by
 refine ⟨len,λA outer s H args us vs Q E hr e0 hb r hsp=>?_⟩
 have hl:=len _ _ _ _ hsp
 have KX:K.In s.heap:=e0.mod.kin.keeps λb o e=>(e0.bs b o e).1
 have lim:s.heap.NoLimit:=e0.mod.nolimit.keeps λb o e=>(e0.bs b o e).1
 have hkind:∀ y∈ps.zip us,scope.names.lookup y.1=some .local\/(scope.names.lookup y.1=some .cell/\((cellsFrom (s.heap.objs.size+1) scope.names []).lookup y.1).isSome=true):=λ⟨n,v⟩ hy=>by
  rcases S.par n (List.of_mem_zip hy).1 with q | q
  ·exact .inl q
  ·exact .inr ⟨q,PySem.W.cellsFrom_some _ _ _ (.inl q)⟩
 refine codeAny_call_function hr.depth (KX _ _ lk) rfl S.co S.gen rfl (PySem.W.codeRec_of KX hcd) (hb _ _ _ _ ?_)
 refine wpAny_newFunctionEnv_cells S.kind hkind λenv he s1 x=>?_
 subst he
 refine ⟨lim.keeps x.toInCall.keep,codeAny_func ?_⟩
 obtain ⟨t,ht,hq⟩:=hbody A outer s H vs Q E (hr.deeper _) hsp
 have I:Inv (qua CX P w K mg base N qual scope f cdv A outer s H E) [] (start N vs) H s1:=qpm S hr.hd (by have:=(hr.deeper (envOfC qual scope s.heap.objs.size f cdv)).dp;show _+100<_;omega) e0 hl r x
 refine wpAny_mono (ht [] s1 (start N vs) H _ I hq) (λfl s' hs=>?_) λe s' hs=>hs
 have fin:∀ {σ':St} {H':Hp} {v:V} {u:Value},Inv (qua CX P w K mg base N qual scope f cdv A outer s H E) [] σ' H' s'->RelV v u->Q v H'->CE outer P w H s Q u s':=
  λ{σ' H' v u} J rv q=>⟨v,H',J.os,J.bare,J.base,J.hok,rv,q⟩
 cases fl with
 | ret u=>
   obtain ⟨v,σ',H',J,rv,q⟩:=hs
   exact fin J rv q
 | next=>
   obtain ⟨σ',H',J,q⟩:=hs
   exact fin (v:=V.non) (u:=Value.none) J rfl q
 | brk=>
   obtain ⟨_,_,_,q⟩:=hs
   exact False.elim q
 | cont=>
   obtain ⟨_,_,_,q⟩:=hs
   exact False.elim q
end L2
namespace L2
open PySem PySem.Spec PyProof.Rows
section
variable {X:Cx} {x:Str} {p pos:Pos} {e:Expr} {es:List Expr} {t:TA} {id T:String} {r:List V->Hp->VK->Prop}
noncomputable def tCB (r:List V->Hp->VK->Prop) (t:TA):TE:=λσ H Q=>t σ H λvs H1=>r vs H1 Q
theorem qaw (hc:qeK X (.builtin id) r) (hg:Gl X x) (hm:X.mg x=none) (hv:bootBuiltins x=some (.builtin id)) (ha:PA X (e::es) t) (hn:x ≠ "__name__" := by decide) (hdb:(x == ("__debug__" : Str))=false:=by decide)
  (he:starEach (e::es) X.env=(false,eval e X.env)::starEach es X.env:=by rfl) (hpl:(backTo pos (starEach es X.env)).any (·.1)=false:=by rfl):PE X (.Call (.Name x p) (e::es) [] pos) (tCB r t):=by
 intro pins s σ H Q I h
 refine wpAny_Call_Name_kw (qgp I hg hm hv ?_ hn hdb)
 exact PyProof.Rows.callWith_builtin1 (thn (ha pos pins s σ H _ I h) λus s1 ⟨vs,H1,I1,r1,q1⟩=>hc pins s1 σ H1 vs us Q I1 r1 q1) he hpl
theorem qdx (hc:qeK X (.type T) r) (hg:Gl X x) (hm:X.mg x=none) (hv:bootBuiltins x=some (.type T)) (ha:PA X (e::es) t) (hn:x ≠ "__name__" := by decide) (hdb:(x == ("__debug__" : Str))=false:=by decide)
  (he:starEach (e::es) X.env=(false,eval e X.env)::starEach es X.env:=by rfl) (hpl:(backTo pos (starEach es X.env)).any (·.1)=false:=by rfl):PE X (.Call (.Name x p) (e::es) [] pos) (tCB r t):=by
 intro pins s σ H Q I h
 refine wpAny_Call_Name_kw (qgp I hg hm hv ?_ hn hdb)
 exact PyProof.Rows.callWith_type1 (thn (ha pos pins s σ H _ I h) λus s1 ⟨vs,H1,I1,r1,q1⟩=>hc pins s1 σ H1 vs us Q I1 r1 q1) he hpl
end
end L2
namespace HT
open PySem PyProof.Rows
section
open PySem.SeqAt
open PySem.AutoSeq1 (wpAny_loadPart')
open PySem.MeetsSeq PySem.MeetsSeq2 PySem.MeetsSeq3
end
section
variable {prog:Program} {w:World} {A:Around} {E:Value->Shared->Prop} {s:Shared}
noncomputable def sIx (n d:Nat):Option Int->Nat
 | none=>d
 | some v=>if v<0 then (v+(n:Int)).toNat else min v.toNat n
end
end HT
namespace L2
open PySem PySem.Spec PyProof.Rows
noncomputable abbrev TO:=St->Hp->(Option Int->Hp->Prop)->Prop
noncomputable def PO (X:Cx) (e:Option Expr) (t:TO):Prop:=
 ∀ (pins:List (Addr×Obj)) (s:Shared) (σ:St) (H:Hp) (Q:Option Int->Hp->Prop),Inv X pins σ H s->t σ H Q->
   wpAny (model X.prog X.w) X.A (evalPart e X.env) (λu s'=>∃ o H',Inv X pins σ H' s'/\IsPart u o/\Q o H') X.xe s
noncomputable def qc5:TO:=λ_ H Q=>Q none H
noncomputable def qhv (t:TE):TO:=λσ H Q=>t σ H λx H1=>∃ i,x=.int i/\Q (some i) H1
section
variable {X:Cx} {e:Expr} {te:TE} {lo hi:Option Expr} {tl th:TO} {pos p2:Pos}
theorem qd7:PO X none qc5:=by
 intro pins s σ H Q I h
 rw [evalPart_none]
 exact wpAny_pure ⟨none,H,I,.none,h⟩
theorem qd8 (h:PE X e te):PO X (some e) (qhv te):=by
 intro pins s σ H Q I hw
 rw [evalPart_some]
 refine thn (h pins s σ H _ I hw) λu s1 ⟨x,H1,I1,r1,q1⟩=>?_
 obtain ⟨i,rfl,q⟩:=q1
 obtain ⟨t,rfl⟩:=r1
 exact ⟨some i,H1,I1,.int i t,q⟩
noncomputable def SlR (X:Cx) (r:V->Option Int->Option Int->Hp->VK->Prop):Prop:=
 ∀ (pins:List (Addr×Obj)) (s:Shared) (σ:St) (H:Hp) (x:V) (v vl vu:Value) (lo hi:Option Int) (sl:Addr) (Q:VK),Inv X pins σ H s->RelV x v->s.heap.IsSliceOf sl vl vu .none->IsPart vl lo->IsPart vu hi->r x lo hi H Q->
   ∃ T id,typeLookup (.type T) "__getitem__" = pure (some (.builtin id))/\s.TypeIs v T/\wpAny (model X.prog X.w) X.A (getItem v (.ref sl)) (EP X pins σ Q) X.xe s
noncomputable def tSl (r:V->Option Int->Option Int->Hp->VK->Prop) (te:TE) (tl th:TO):TE:=λσ H Q=>te σ H λx H1=>tl σ H1 λl H2=>th σ H2 λu H3=>r x l u H3 Q
theorem qdg {r:V->Option Int->Option Int->Hp->VK->Prop} (hr:SlR X r) (he:PE X e te) (hl:PO X lo tl) (hu:PO X hi th):PE X (.Subscript e (.Slice lo hi none p2) pos) (tSl r te tl th):=by
 intro pins s σ H Q I h
 refine Subscript_ (thn (he pins s σ H _ I h) λv s1 ⟨x,H1,I1,r1,q1⟩=>?_)
 refine wpAny_Slice (thn (hl pins s1 σ H1 _ I1 q1) λvl s2 ⟨l,H2,I2,pl,q2⟩=>thn (hu pins s2 σ H2 _ I2 q2) λvu s3 ⟨u,H3,I3,pu,q3⟩=>?_)
 rw [evalPart_none]
 refine wpAny_pure ?_
 have I4:Inv X pins σ H3 { s3 with heap:=s3.heap.push { cls:=.type "slice", data:=.fields #[vl,vu,.none] } }:=I3.kept (t':=s3.toks) λb ob q=>Heap.get?_push_of_some _ q
 obtain ⟨T,id,hT,ht,hg⟩:=hr pins { s3 with heap:=s3.heap.push { cls:=.type "slice", data:=.fields #[vl,vu,.none] } } σ H3 x v vl vu l u s3.heap.objs.size Q I4 r1 (Heap.IsSliceOf.new ..) pl pu q3
 show wpAny (model X.prog X.w) X.A (subscriptTail e (.Slice lo hi none p2) v (.ref s3.heap.objs.size)) (EP X pins σ Q) X.xe { s3 with heap:=s3.heap.push { cls:=.type "slice", data:=.fields #[vl,vu,.none] } }
 exact tail_any (ops:=[.ref s3.heap.objs.size,v]) ht hT hg (by with_unfolding_all rfl)
noncomputable def qg4 (xs:List V) (lo hi:Option Int):List V:=(xs.drop (HT.sIx xs.length 0 lo)).take (HT.sIx xs.length xs.length hi - HT.sIx xs.length 0 lo)
theorem qlZ (xs:List V) (lo hi:Option Int):(qg4 xs lo hi).length<=xs.length:=by
 unfold qg4
 rw [waw,wb5]
 omega
end
end L2
namespace L2
open PySem PySem.Spec PyProof.Rows
noncomputable def ixN (n:Nat) (i:Int):Option Nat:=if 0<=i then (if i<n then some i.toNat else none) else if -(n:Int)<=i then some (i+n).toNat else none
noncomputable def atI {α:Type} (xs:List α) (i:Int):Option α:=(ixN xs.length i).bind λj=>xs[j]?
theorem qpn {n:Nat} {i:Int} {j:Nat} (h:ixN n i=some j):seqIndex? i n=some j/\j<n/\-(n:Int)<=i/\i<n:=by
 unfold ixN at h
 by_cases h0:0<=i
 ·rw [if_pos h0] at h
  by_cases h1:i<n
  ·rw [if_pos h1] at h
   have e:i.toNat=j:=Option.some.inj h
   exact ⟨by rw [seqIndex_of h0 h1,e],⋯,⋯,h1⟩
  ·rw [if_neg h1] at h;cases h
 ·rw [if_neg h0] at h
  by_cases h1:-(n:Int)<=i
  ·rw [if_pos h1] at h
   have e:(i+n).toNat=j:=Option.some.inj h
   exact ⟨by rw [seqIndex_neg ⋯ h1,e],⋯,h1,⋯⟩
  ·rw [if_neg h1] at h;cases h
theorem ql0 {α:Type} {xs:List α} {i:Int} {v:α} (h:atI xs i=some v):∃ j,seqIndex? i xs.length=some j/\xs[j]?=some v/\j<xs.length/\-(xs.length:Int)<=i/\i<xs.length:=by
 unfold atI at h
 cases e:ixN xs.length i with
 | none=>rw [e] at h;cases h
 | some j=>
   rw [e] at h
   obtain ⟨h1,h2,h3,h4⟩:=qpn e
   exact ⟨j,h1,h,h2,h3,h4⟩
theorem qpo {α:Type} {xs:List α} {j:Nat} {v:α} (h:xs[j]?=some v):atI xs (j:Int)=some v:=by
 have hj:j<xs.length:=(wap.mp h).1
 have e:ixN xs.length (j:Int)=some j:=by
  unfold ixN
  rw [if_pos ⋯,if_pos ⋯];simp
 unfold atI;rw [e];exact h
theorem atI_last {α:Type} (xs:List α) (v:α):atI (xs++[v]) (-1)=some v:=by
 have hl:(xs++[v]).length=xs.length+1:=by simp
 have e:ixN (xs++[v]).length (-1)=some xs.length:=by
  unfold ixN
  rw [hl,if_neg ∅,if_pos ⋯]
  congr 1
  omega
 unfold atI
 rw [e]
 show (xs++[v])[xs.length]?=some v
 simp
noncomputable def qub (b:Expr):Prop:=∀ o i,subscripted b false o i=operate [o,i] (getItem o i)
noncomputable def IxR (X:Cx) (r:R2):Prop:=
 ∀ (value slice:Expr) (pins:List (Addr×Obj)) (s:Shared) (σ:St) (H:Hp) (x y:V) (v u:Value) (Q:VK),Inv X pins σ H s->RelV x v->RelV y u->r x y H Q->
   subscripted slice false v u=operate [v,u] (getItem v u)->wpAny (model X.prog X.w) X.A (subscriptTail value slice v u) (EP X pins σ Q) X.xe s
noncomputable def MtR (X:Cx) (id:String) (r:V->List V->Hp->VK->Prop):Prop:=
 ∀ (pins:List (Addr×Obj)) (s:Shared) (σ:St) (H:Hp) (x:V) (xs:List V) (v:Value) (us:List Value) (Q:VK),Inv X pins σ H s->RelV x v->Vals xs us->r x xs H Q->
   wpAny (model X.prog X.w) X.A (call (.builtin id) (v::us)) (EP X pins σ Q) X.xe s
section
variable {X:Cx} {a b:Expr} {ta tb:TE} {pos:Pos}
theorem qax {r:R2} (hr:IxR X r) (ha:PE X a ta) (hb:PE X b tb) (hs:qub b):PE X (.Subscript a b pos) (tOp r ta tb):=by
 intro pins s σ H Q I h
 exact Subscript_ (qwR ha hb I h λv u s2 x y H2 I2 rx ry q=>hr a b pins s2 σ H2 x y v u Q I2 rx ry q (hs _ _))
noncomputable def qxT (K:PySem.W.Frag):R2:=λx y H Q=>∃ p xs i v,x=.ref p/\y=.int i/\SqL K H p xs/\atI xs i=some v/\Q v H
noncomputable def qxU (K:PySem.W.Frag):R2:=λx y H Q=>∃ p xs i v,x=.ref p/\y=.int i/\SqT K H p xs/\atI xs i=some v/\Q v H
theorem quc:IxR X (qxT X.K):=by
 intro value slice pins s σ H x y v u Q I rx ry h hs
 obtain ⟨p,xs,i,z,rfl,rfl,hq,he,q⟩:=h
 cases rx
 obtain ⟨t,rfl⟩:=ry
 obtain ⟨its,r,pl,hz⟩:=I.list hq
 obtain ⟨j,h1,h2,h3,h4,h5⟩:=ql0 he
 obtain ⟨w,ew,rw'⟩:=r.get h2
 have hl:=r.length
 have hn:=qiT
 have fin:EP X pins σ Q w s:=⟨z,H,I,rw',q⟩
 by_cases h0:0<=i
 ·have hj:i.toNat=j:=by
   rw [seqIndex_of h0 h5] at h1
   exact Option.some.inj h1
  exact item_listR pl.isList h0 ⋯ (by rw [hj];simpa using ew) fin hs
 ·have hj:(i+(its.toArray.size:Int)).toNat=j:=by
   rw [seqIndex_neg ⋯ h4] at h1
   rw [wam,<-hl]
   exact Option.some.inj h1
  exact subscriptTail_builtinR (x:=w) pl.isList.typeIs slot_list_getitem.lookup
   (wpAny_getItem_list_neg (Q:=λr s'=>r=w/\EP X pins σ Q r s') pl.isList ⋯ (by rw [wam] <;> omega) ⋯ (by rw [hj];simpa using ew) ⟨rfl,fin⟩) hs
theorem qvB:IxR X (qxU X.K):=by
 intro value slice pins s σ H x y v u Q I rx ry h hs
 obtain ⟨p,xs,i,z,rfl,rfl,hq,he,q⟩:=h
 cases rx
 obtain ⟨t,rfl⟩:=ry
 obtain ⟨its,r,pl,hz⟩:=I.tuple hq
 obtain ⟨j,h1,h2,h3,h4,h5⟩:=ql0 he
 obtain ⟨w,ew,rw'⟩:=r.get h2
 have hl:=r.length
 have hn:=qiT
 have fin:EP X pins σ Q w s:=⟨z,H,I,rw',q⟩
 exact subscriptTail_builtinR (x:=w) pl.typeIs slot_tuple_getitem.lookup
  (getItem_tuple (j:=j) (Q:=λr s'=>r=w/\EP X pins σ Q r s') pl ⋯ ⋯ (by rw [wam,<-hl];exact h1) (by simpa using ew) ⟨rfl,fin⟩) hs
theorem qn2 (its:List Value) (n j:Nat) (u:Value):Obj.mapSeq (·.setIfInBounds j u) { cls:=.type "list", data:=.seq its.toArray n }={ cls:=.type "list", data:=.seq (its.set j u).toArray n }:=by
 simp [Obj.mapSeq]
theorem Inv.lst {pins:List (Addr×Obj)} {σ:St} {H:Hp} {s:Shared} {p:Addr} {xs:List V} (I:Inv X pins σ H s) (h:H p=some (.lst xs)) :
  ∃ (its:List Value) (n:Nat),Vals xs its/\s.heap.get? p=some { cls:=.type "list", data:=.seq its.toArray n }/\xs.length<=sizeLine:=by
 obtain ⟨z,its,n,r,e⟩:=I.hok p _ h
 exact ⟨its,n,r,e,z⟩
theorem Inv.lstUpd {pins:List (Addr×Obj)} {σ:St} {H:Hp} {s:Shared} {p:Addr} {xs ys:List V} {its its':List Value} {n n':Nat} {f:Obj->Obj} (I:Inv X pins σ H s) (h:H p=some (.lst xs))
  (ho:s.heap.get? p=some { cls:=.type "list", data:=.seq its.toArray n }) (hf:f { cls:=.type "list", data:=.seq its.toArray n }={ cls:=.type "list", data:=.seq its'.toArray n' }) (r:Vals ys its') (hz:ys.length<=sizeLine) (t:Nat) :
  Inv X pins σ (upd H p (.lst ys)) { s with heap:=s.heap.update p f,toks:=t }:=by
 have e:(s.heap.update p f).get? p=some { cls:=.type "list", data:=.seq its'.toArray n' }:=by
  rw [Heap.get?_update_self f ho (by rw [hf] <;> rfl),hf]
 refine I.write (x:=p) (e:=p) (by rw [h];trivial) (.inl rfl) (λb u hb q=>(Heap.get?_update_other _ _ (Ne.symm hb)).trans q) ⟨_,e⟩ ?_
 exact ⟨hz,its',n',r,e⟩
noncomputable def qgM:V->V->V->Hp->(Hp->Prop)->Prop:=λo i v H Q=>∃ p xs k j,o=.ref p/\i=.int k/\H p=some (.lst xs)/\ixN xs.length k=some j/\Q (upd H p (.lst (xs.set j v)))
theorem qcS:PSet X qgM:=by
 intro pins s σ H o i v ov iv u Q I ro ri rv h
 obtain ⟨p,xs,k,j,rfl,rfl,hp,hj,q⟩:=h
 cases ro
 obtain ⟨t,rfl⟩:=ri
 obtain ⟨its,n,r,ho,hz⟩:=I.lst hp
 obtain ⟨h1,h2,h3,h4⟩:=qpn hj
 have hl:=r.length
 have hn:=qiT
 have I':Inv X pins σ (upd H p (.lst (xs.set j v))) { s with heap:=s.heap.update p (Obj.mapSeq (·.setIfInBounds j u)) }:=
  I.lstUpd hp ho (qn2 its n j u) (r.set rv j) (by rw [List.length_set];exact hz) s.toks
 by_cases h0:0<=k
 ·have hk:k.toNat=j:=by
   rw [seqIndex_of h0 h4] at h1
   exact Option.some.inj h1
  exact PySem.W.ki_setAt ho h0 ⋯ (by rw [wam,<-hl];exact h4) (by rw [hk];exact ⟨_,I',q⟩)
 ·have hk:(k+(its.toArray.size:Int)).toNat=j:=by
   rw [seqIndex_neg ⋯ h3] at h1
   rw [wam,<-hl]
   exact Option.some.inj h1
  exact PySem.W.ki_setBack ho ⋯ (by rw [wam,<-hl];exact h3) ⋯ (by rw [hk];exact ⟨_,I',q⟩)
theorem qkw (lo hi:Option Int) (n:Nat):(sliceBounds lo hi none n).1=((HT.sIx n 0 lo:Nat):Int)/\(sliceBounds lo hi none n).2.1=((HT.sIx n n hi:Nat):Int)/\(sliceBounds lo hi none n).2.2=1:=by
 refine ⟨?_,?_,rfl⟩
 ·cases lo with
  | none=>simp [sliceBounds,HT.sIx]
  | some i=>
    simp only [sliceBounds,HT.sIx,Option.getD_none,show (1:Int) > 0 by decide,if_true]
    by_cases h:i<0
    ·simp only [h,if_true] <;> omega
    ·simp only [h,if_false] <;> omega
 ·cases hi with
  | none=>simp [sliceBounds,HT.sIx]
  | some i=>
    simp only [sliceBounds,HT.sIx,Option.getD_none,show (1:Int) > 0 by decide,if_true]
    by_cases h:i<0
    ·simp only [h,if_true] <;> omega
    ·simp only [h,if_false] <;> omega
theorem qjp (its:List Value) (lo hi:Option Int):slicePick its.toArray lo hi none=((its.drop (HT.sIx its.length 0 lo)).take (HT.sIx its.length its.length hi - HT.sIx its.length 0 lo)).toArray:=by
 obtain ⟨h1,h2,h3⟩:=qkw lo hi its.toArray.size
 unfold slicePick
 rw [h1,h2,h3]
 simp only [sliceRange_one,pick_run,wam] <;> rfl
noncomputable def qxV (K:PySem.W.Frag):V->Option Int->Option Int->Hp->VK->Prop:=λx lo hi H Q=>∃ a xs,x=.ref a/\SqL K H a xs/\∀ p,H p=none->Q (.ref p) (upd H p (.lst (qg4 xs lo hi)))
theorem qpp:SlR X (qxV X.K):=by
 intro pins s σ H x v vl vu lo hi sl Q I rx hs pl pu h
 obtain ⟨a,xs,rfl,hx,q⟩:=h
 cases rx
 obtain ⟨its,r,ht,hz⟩:=I.list hx
 have hlen:=r.length
 refine ⟨"list", _,slot_list_getitem.lookup,ht.isList.typeIs,?_⟩
 refine wpAny_getItem_list_slice ht.isList hs pl pu .none (by simp) ?_ (by rw [wam] <;> omega)
 rw [qjp,<-hlen]
 refine ⟨.ref s.heap.objs.size,_,I.laid (t':=s.toks) (o:=.lst (qg4 xs lo hi)) (λb ob q=>Heap.get?_push_of_some _ q) (wac _) ?_,rfl,q _ (I.hok.fresh (wac _))⟩
 exact ⟨wak (qlZ xs lo hi) hz,_,0,(r.drop (HT.sIx xs.length 0 lo)).take (HT.sIx xs.length xs.length hi - HT.sIx xs.length 0 lo),Heap.get?_push_size _ rfl⟩
theorem qgs:qeK X (.builtin "len") (λxs H Q=>∃ p ys,xs=[.ref p]/\(SqL X.K H p ys\/SqT X.K H p ys)/\Q (.int ys.length) H):=by
 intro pins s σ H xs us Q I r h
 obtain ⟨p,ys,rfl,hq,q⟩:=h
 obtain ⟨u,rfl,rx⟩:=qlY r
 cases rx
 have hn:=qiT
 rcases hq with hq | hq
 ·obtain ⟨its,r',pl,hz⟩:=I.list hq
  have hlen:=r'.length
  exact Calls.call_len_list pl.isList (by simp only [wam] <;> omega) ⟨.int ys.length,H,I.tok _,⟨s.toks+1,by rw [wam,hlen]⟩,q⟩
 ·obtain ⟨its,r',pl,hz⟩:=I.tuple hq
  have hlen:=r'.length
  exact len_tuple pl (by simp only [wam] <;> omega) ⟨.int ys.length,H,I.tok _,⟨s.toks+1,by rw [wam,hlen]⟩,q⟩
theorem qkx:qeK X (.type "list") (λxs H Q=>∃ p ys,xs=[.ref p]/\(SqL X.K H p ys\/SqT X.K H p ys)/\∀ l,H l=none->Q (.ref l) (upd H l (.lst ys))):=by
 intro pins s σ H xs us Q I r h
 obtain ⟨p,ys,rfl,hq,q⟩:=h
 obtain ⟨u,rfl,rx⟩:=qlY r
 cases rx
 have fin:∀ (its:List Value),Vals ys its->ys.length<=sizeLine->∀ (h':Heap) (c':Nat),(∀ b o',s.heap.get? b=some o'->h'.get? b=some o')->
   h'.get? s.heap.objs.size=some { cls:=.type "list", dict:=none,data:=.seq its.toArray c',slots:=#[] }->EP X pins σ Q (.ref s.heap.objs.size) { s with heap:=h' }:=λits r' hz h' c' kp e=>
  ⟨.ref s.heap.objs.size,_,I.laid (t':=s.toks) kp (wac _) (show ObjOk X.prog X.w _ h' _ (.lst ys) from ⟨hz,its,c',r',e⟩),rfl,q _ (I.hok.fresh (wac _))⟩
 rcases hq with hq | hq
 ·obtain ⟨its,r',pl,hz⟩:=I.list hq
  have hlen:=r'.length
  obtain ⟨o,ho,hc,n,hd⟩:=pl.isList
  exact call_list_seq p (.inl rfl) ho hc hd (λh' c' kp e=>fin its r' hz h' c' kp e) (by simp only [wam] <;> omega)
 ·obtain ⟨its,r',pl,hz⟩:=I.tuple hq
  have hlen:=r'.length
  obtain ⟨o,ho,hc,n,hd⟩:=pl
  exact call_list_seq p (.inr rfl) ho hc hd (λh' c' kp e=>fin its r' hz h' c' kp e) (by simp only [wam] <;> omega)
theorem qjq:qeK X (.type "tuple") (λxs H Q=>∃ p ys,xs=[.ref p]/\((SqL X.K H p ys/\∀ l,H l=none->Q (.ref l) (upd H l (.tup ys)))\/(SqT X.K H p ys/\Q (.ref p) H))):=by
 intro pins s σ H xs us Q I r h
 obtain ⟨p,ys,rfl,h⟩:=h
 obtain ⟨u,rfl,rx⟩:=qlY r
 cases rx
 rcases h with ⟨hq,q⟩ | ⟨hq,q⟩
 ·obtain ⟨its,r',pl,hz⟩:=I.list hq
  have hlen:=r'.length
  refine call_tuple_list pl.isList (λh' kp=>?_) (by simp only [wam] <;> omega)
  have I1:Inv X pins σ H { s with heap:=h' }:=I.kept (t':=s.toks) kp
  have I2:Inv X pins σ (upd H h'.objs.size (.tup ys)) { s with heap:=h'.push { cls:=.type "tuple", data:=.seq its.toArray } }:=
   I1.laid (t':=s.toks) (λb o e=>Heap.get?_push_of_some _ e) (wac _) (show ObjOk X.prog X.w _ _ _ (.tup ys) from ⟨hz,its,r',IsTup.new _ _⟩)
  exact ⟨.ref h'.objs.size,_,I2,rfl,q _ (I1.hok.fresh (wac _))⟩
 ·obtain ⟨its,r',pl,hz⟩:=I.tuple hq
  exact call_tuple_same pl ⟨.ref p,H,I,rfl,q⟩
noncomputable def tyV (K:PySem.W.Frag) (T:String) (x:V) (H:Hp):Prop:=match x with
 | .str _=>T = "str"
 | .int _=>T = "int"
 | .ref p=>(T = "list" /\ ∃ xs,SqL K H p xs)\/(T = "tuple" /\ ∃ o,K.lookup p=some o/\o.cls=.type "tuple" /\ o.dict=none)\/
   (T = "dict" /\ ((∃ kvs,H p=some (.dK kvs))\/∃ kvs,H p=some (.dT kvs)))\/(T = "set" /\ ∃ S n,H p=some (.set S n))
 | _=>False
theorem qvC {pins:List (Addr×Obj)} {σ:St} {H:Hp} {s:Shared} {T:String} {x:V} {v:Value} (I:Inv X pins σ H s) (r:RelV x v) (ty:tyV X.K T x H) :
  s.TypeIs v T/\∀ a,v=.ref a->∃ ob,s.heap.get? a=some ob/\ob.dict=none:=by
 cases x with
 | str z=>
   obtain ⟨t,rfl⟩:=r
   cases (show T = "str" from ty)
   exact ⟨typeIs_str s z t,λ_ e=>nomatch e⟩
 | int i=>
   obtain ⟨t,rfl⟩:=r
   cases (show T = "int" from ty)
   exact ⟨typeIs_int s i t,λ_ e=>nomatch e⟩
 | ref p=>
   cases r
   rcases ty with ⟨rfl,xs,hq⟩ | ⟨rfl,o,hk,hc,hd⟩ | ⟨rfl,hk⟩ | ⟨rfl,S,n,hk⟩
   ·obtain ⟨its,_,pl,_⟩:=I.list hq
    refine ⟨pl.isList.typeIs,λa e=>?_⟩
    cases e
    obtain ⟨o,n,e,c,hd,_⟩:=pl
    exact ⟨o,e,hd⟩
   ·refine ⟨⟨o,I.kIn p o hk,hc⟩,λa e=>?_⟩
    cases e
    exact ⟨o,I.kIn _ o hk,hd⟩
   ·have z:∃ o,s.heap.get? p=some o/\o.ExactDict:=by
     rcases hk with ⟨kvs,hk⟩ | ⟨kvs,hk⟩
     ·obtain ⟨_,_,_,_,o,_,_,e,ex,_⟩:=I.hok p _ hk
      exact ⟨o,e,ex⟩
     ·obtain ⟨_,_,_,_,o,_,_,e,ex,_⟩:=I.hok p _ hk
      exact ⟨o,e,ex⟩
    obtain ⟨o,e,ex⟩:=z
    refine ⟨⟨o,e,ex.1⟩,λa e2=>?_⟩
    cases e2
    exact ⟨o,e,ex.2.1⟩
   ·obtain ⟨o,_,_,_,e,ex,_⟩:=I.hok p _ hk
    refine ⟨⟨o,e,ex.1⟩,λa e2=>?_⟩
    cases e2
    exact ⟨o,e,ex.2.1⟩
 | _=>exact False.elim ty
noncomputable def qxt (K:PySem.W.Frag) (T:String) (r:V->List V->Hp->VK->Prop) (to:TE):TE:=λσ H Q=>to σ H λx H1=>tyV K T x H1/\r x [] H1 Q
noncomputable def tBM (K:PySem.W.Frag) (T:String) (r:V->List V->Hp->VK->Prop) (to:TE) (t:TA):TE:=λσ H Q=>to σ H λx H1=>tyV K T x H1/\t σ H1 λxs H2=>r x xs H2 Q
variable {o e:Expr} {es:List Expr} {to:TE} {t:TA} {name:Str} {apos cpos:Pos} {T id:String} {r:V->List V->Hp->VK->Prop}
theorem qky (pa:PlainAttrs T) (slot:Slot T name id) (hty:typeOf (.builtin id)=pure (.type "method_descriptor")) (hm:MtR X id r) (ho:PE X o to) (ha:PA X (e::es) t)
  (hbase:attributeBase o name X.env (eval o X.env)=eval o X.env:=by rfl)
  (hfew:((backTo cpos (starEach (e::es) X.env)).all (λx=>!x.1) && (backToKw cpos (keywordEach [] X.env)).all (λx=>x.1.isSome)
   && decide ((e::es).length+([]:List Keyword).length+(if ([]:List Keyword).isEmpty then 0 else 1)<30))=true:=by rfl)
  (hline:(apos.endLine == cpos.line)=true:=by rfl) (hs:starEach (e::es) X.env=(false,eval e X.env)::starEach es X.env:=by rfl) (hplain:(backTo cpos (starEach es X.env)).any (·.1)=false:=by rfl) :
  PE X (.Call (.Attribute o name apos) (e::es) [] cpos) (tBM X.K T r to t):=by
 intro pins s σ H Q I h
 refine wpAny_Call_method_late hbase hfew hline rfl (thn (ho pins s σ H _ I h) λv s1 ⟨x,H1,I1,r1,ty,q1⟩=>?_)
 obtain ⟨h1,h2⟩:=qvC I1 r1 ty
 refine ⟨T,id,pa,slot,hty,h1,h2,?_⟩
 have hA:=ha cpos pins s1 σ H1 _ I1 q1
 rw [hs] at hA ⊢
 refine Calls.callWith_builtin (by show (false || (backTo cpos (starEach es X.env)).any (·.1))=false;rw [hplain] <;> rfl) (Calls.evalArgs_plain ?_)
 exact thn hA λus s2 ⟨vs,H2,I2,r2,q2⟩=>hm pins s2 σ H2 x vs v us Q I2 r1 r2 q2
end
end L2
namespace L2
open PySem PySem.Spec PyProof.Rows
noncomputable def MtM (X:Cx) (id:String) (r:V->List V->Hp->VK->Prop):Prop:=
 ∀ (pins:List (Addr×Obj)) (s:Shared) (σ:St) (H:Hp) (x:V) (xs:List V) (v:Value) (us:List Value) (Q:VK),Inv X pins σ H s->RelV x v->Vals xs us->r x xs H Q->
   wpAny (model X.prog X.w) X.A (call (.builtin id) (v::us)) (EP X pins σ Q) X.xe s
theorem Vals.zero {us:List Value} (h:Vals [] us):us=[]:=by cases h;rfl
theorem Vals.inv {x:V} {xs:List V} {us:List Value} (h:Vals (x::xs) us):∃ u t,us=u::t/\RelV x u/\Vals xs t:=by cases h with | cons r t=>exact ⟨_,_,rfl,r,t⟩
theorem Vals.one {x:V} {us:List Value} (h:Vals [x] us):∃ u,us=[u]/\RelV x u:=by obtain ⟨u,t,rfl,r,h⟩:=h.inv;exact ⟨u,by rw [h.zero],r⟩
theorem Vals.two {x y:V} {us:List Value} (h:Vals [x,y] us):∃ u v,us=[u,v]/\RelV x u/\RelV y v:=by obtain ⟨u,t,rfl,r,h⟩:=h.inv;obtain ⟨v,rfl,q⟩:=h.one;exact ⟨u,v,rfl,r,q⟩
theorem Vals.dropLast {xs:List V} {us:List Value} (h:Vals xs us):Vals xs.dropLast us.dropLast:=by
 induction h with
 | nil=>exact .nil
 | cons r t ih=>
   cases t with
   | nil=>exact .nil
   | cons q t'=>exact .cons r ih
theorem Vals.eraseIdx:∀ {xs:List V} {us:List Value} (i:Nat),Vals xs us->Vals (xs.eraseIdx i) (us.eraseIdx i)
 | _,_,_,.nil=>.nil
 | _,_,0,.cons _ t=>t
 | _,_,i+1,.cons r t=>.cons r (Vals.eraseIdx i t)
theorem Vals.rep {xs:List V} {us:List Value} (h:Vals xs us):∀ k:Nat,Vals (List.replicate k xs).flatten (List.replicate k us).flatten
 | 0=>.nil
 | k+1=>by
   rw [List.replicate_succ,List.replicate_succ,List.flatten_cons,List.flatten_cons]
   exact Vals.append h (Vals.rep h k)
theorem qkz {α:Type}:∀ (l:List α) (i:Nat),(l.eraseIdx i).length<=l.length
 | [],_=>wac _
 | _::_,0=>Nat.le_succ _
 | _::r,i+1=>Nat.succ_le_succ (qkz r i)
theorem qkA (its:List Value):∀ (k:Nat) (acc:List Value),
  List.foldl (λx1 x2=>x1++x2) acc.toArray (List.replicate k its.toArray)=(acc++(List.replicate k its).flatten).toArray
 | 0,acc=>by simp
 | k+1,acc=>by
   have e:acc.toArray++its.toArray=(acc++its).toArray:=by simp
   have e2:(acc++its)++(List.replicate k its).flatten=acc++(List.replicate (k+1) its).flatten:=by
    rw [List.replicate_succ,List.flatten_cons,List.append_assoc]
   rw [<-e2,<-qkA its k (acc++its),<-e,List.replicate_succ,List.foldl_cons]
section
variable {X:Cx} {pins:List (Addr×Obj)} {σ:St} {H:Hp} {s:Shared} {l b:Addr} {xs ys zs:List V}
theorem Inv.lset {its its':List Value} {n:Nat} {f:Array Value->Array Value} {t':Nat} (I:Inv X pins σ H s) (hH:H l=some (.lst xs))
  (e:s.heap.get? l=some { cls:=.type "list", data:=.seq its.toArray n }) (hf:f its.toArray=its'.toArray) (hv:Vals ys its') (hz:ys.length<=sizeLine) :
  Inv X pins σ (upd H l (.lst ys)) { s with heap:=s.heap.update l (Obj.mapSeq f),toks:=t' }:=by
 have q:=PySem.IsL.update e f
 rw [hf] at q
 refine I.write (x:=l) (e:=l) (by rw [hH];exact trivial) (.inl rfl) (λb' u hb hu=>(Heap.get?_update_other s.heap (Obj.mapSeq f) (Ne.symm hb)).trans hu) ⟨_,q⟩ ?_
 exact ⟨hz,its',_,hv,q⟩
theorem Inv.lnew {its:List Value} {t':Nat} (I:Inv X pins σ H s) (hv:Vals ys its) (hz:ys.length<=sizeLine) :
  Inv X pins σ (upd H s.heap.objs.size (.lst ys)) { s with heap:=s.heap.push { cls:=.type "list", data:=.seq its.toArray },toks:=t' }:=
 I.laid (λ_ _ q=>Heap.get?_push_of_some _ q) (wac _) ⟨hz,its,0,hv,Heap.get?_push_size _ rfl⟩
theorem Inv.fresh (I:Inv X pins σ H s):H s.heap.objs.size=none:=I.hok.fresh (wac _)
theorem Inv.lstM (I:Inv X pins σ H s) (hH:H l=some (.lst xs)):xs.length<=sizeLine/\∃ (its:List Value) (n:Nat),Vals xs its/\xs.length=its.length/\s.heap.get? l=some { cls:=.type "list", data:=.seq its.toArray n }:=by
 obtain ⟨z,its,n,r,e⟩:=I.hok l _ hH
 exact ⟨z,its,n,r,r.length,e⟩
theorem qm7 {n:Nat} (h:n<=sizeLine):Builtin.List.listTooLong n=false:=by
 unfold Builtin.List.listTooLong
 exact decide_eq_false ⋯
end
section
variable {X:Cx}
noncomputable def qe5:V->List V->Hp->VK->Prop:=λx vs H Q=>∃ l xs y,x=.ref l/\vs=[y]/\H l=some (.lst xs)/\xs.length<sizeLine/\Q .non (upd H l (.lst (xs++[y])))
theorem qfm:MtM X "list.append" qe5:=by
 intro pins s σ H x vs v us Q I rx rv h
 obtain ⟨l,xs,y,rfl,rfl,hH,hz,q⟩:=h
 cases rx
 obtain ⟨u,rfl,ru⟩:=rv.one
 obtain ⟨z,its,n,r,hl,e⟩:=I.lstM hH
 refine call_meets F.slot_list_append ⟨_,e,rfl⟩ F.entry_list_append (F.args_list_append_2 _ _) (PySem.list_append l its.toArray n u (by rw [wam];omega)) ⟨e,?_⟩
 refine ⟨.non,_,I.lset (its':=its++[u]) hH e (by simp) (r.append (.cons ru .nil)) ?_,rfl,q⟩
 rw [wao,List.length_singleton]
 omega
noncomputable def qhw:V->List V->Hp->VK->Prop:=λx vs H Q=>∃ l b xs zs,x=.ref l/\vs=[.ref b]/\H l=some (.lst xs)/\H b=some (.lst zs)/\xs.length+zs.length<=sizeLine/\Q .non (upd H l (.lst (xs++zs)))
theorem qkB:MtM X "list.extend" qhw:=by
 intro pins s σ H x vs v us Q I rx rv h
 obtain ⟨l,b,xs,zs,rfl,rfl,hH,hB,hz,q⟩:=h
 cases rx
 obtain ⟨u,rfl,ru⟩:=rv.one
 cases ru
 obtain ⟨z,its,n,r,hl,e⟩:=I.lstM hH
 obtain ⟨z2,its2,n2,r2,hl2,e2⟩:=I.lstM hB
 have hsz:its.toArray.size+its2.toArray.size<=sizeLine:=by rw [wam,wam];omega
 have hlong:¬ (!its.toArray.isEmpty && Builtin.List.listTooLong (its.toArray.size+its2.toArray.size))=true:=by
  rw [qm7 hsz,Bool.and_false]
  exact wbe
 refine call_meets F.slot_list_extend ⟨_,e,rfl⟩ F.entry_list_extend (F.args_list_extend_2 _ _)
  (AutoSeq1.list_extend_list_list_0 l its.toArray n b its2.toArray n2 hlong (by rw [wam];omega) ⋯) ⟨e,e2,?_⟩
 refine ⟨.non,_,I.lset (its':=its++its2) hH e (by simp) (r.append r2) ?_,rfl,q⟩
 rw [wao]
 omega
noncomputable def qxu:V->List V->Hp->VK->Prop:=λx vs H Q=>∃ l xs y,x=.ref l/\vs=[]/\H l=some (.lst xs)/\xs[xs.length - 1]?=some y/\Q y (upd H l (.lst xs.dropLast))
noncomputable def qvD:V->List V->Hp->VK->Prop:=λx vs H Q=>∃ l xs i k y,x=.ref l/\vs=[.int i]/\H l=some (.lst xs)/\-(2 ^ 63)<=i/\i<2 ^ 63/\seqIndex? i xs.length=some k/\xs[k]?=some y/\Q y (upd H l (.lst (xs.eraseIdx k)))
theorem qr1:MtM X "list.pop" qvD:=by
 intro pins s σ H x vs v us Q I rx rv h
 obtain ⟨l,xs,i,k,y,rfl,rfl,hH,h1,h2,hk,hy,q⟩:=h
 cases rx
 obtain ⟨u,rfl,ru⟩:=rv.one
 obtain ⟨t,rfl⟩:=ru
 obtain ⟨z,its,n,r,hl,e⟩:=I.lstM hH
 obtain ⟨w,hw,rw'⟩:=r.get hy
 refine call_meets F.slot_list_pop ⟨_,e,rfl⟩ F.entry_list_pop (F.args_list_pop_2 _ _)
  (MeetsSeq.list_pop_at l its.toArray n i t k w (fitsIndex_both h1 h2) (by rw [wam,<-hl];exact hk) (by rw [<-Array.getElem?_toList];exact hw) (by rw [wam];omega)) ⟨e,?_⟩
 refine ⟨y,_,I.lset (its':=its.eraseIdx k) hH e ?_ (r.eraseIdx k) ?_,rw',q⟩
 ·show its.toArray.eraseIdxIfInBounds k=(its.eraseIdx k).toArray
  rw [List.eraseIdxIfInBounds_toArray]
 ·have:=qkz xs k
  omega
noncomputable def qrT:R2:=λx y H Q=>∃ l b xs zs,x=.ref l/\y=.ref b/\H l=some (.lst xs)/\H b=some (.lst zs)/\xs.length+zs.length<=sizeLine/\∀ p,H p=none->Q (.ref p) (upd H p (.lst (xs++zs)))
theorem qhx:OpR X (binaryOp .Add) qrT:=by
 intro pins s σ H x y v u Q I rx ry h
 obtain ⟨l,b,xs,zs,rfl,rfl,hH,hB,hz,q⟩:=h
 cases rx
 cases ry
 obtain ⟨z,its,n,r,hl,e⟩:=I.lstM hH
 obtain ⟨z2,its2,n2,r2,hl2,e2⟩:=I.lstM hB
 refine PySem.P.add_list e e2 ?_ (by rw [wam,wam];omega)
 have ea:its.toArray++its2.toArray=(its++its2).toArray:=by simp
 rw [ea]
 exact ⟨.ref _,_,I.lnew (t':=s.toks) (r.append r2) (by rw [wao];omega),rfl,q _ I.fresh⟩
noncomputable def qtl:R2:=λx y H Q=>∃ l k xs,x=.ref l/\y=.int k/\H l=some (.lst xs)/\-(2 ^ 63)<=k/\k<2 ^ 63/\xs.length*k.toNat<=sizeLine/\
 ∀ p,H p=none->Q (.ref p) (upd H p (.lst (List.replicate k.toNat xs).flatten))
theorem qud {α:Type} (xs:List α) (k:Nat):(List.replicate k xs).flatten.length=k*xs.length:=by
 induction k with
 | zero=>simp
 | succ k ih=>rw [List.replicate_succ,List.flatten_cons,wao,ih,Nat.succ_mul,Nat.add_comm]
theorem qkC:OpR X (binaryOp .Mult) qtl:=by
 intro pins s σ H x y v u Q I rx ry h
 obtain ⟨l,k,xs,rfl,rfl,hH,h1,h2,hz,q⟩:=h
 cases rx
 obtain ⟨t,rfl⟩:=ry
 obtain ⟨z,its,n,r,hl,e⟩:=I.lstM hH
 have hlen:its.toArray.size*k.toNat<=sizeLine:=by rw [wam,<-hl];exact hz
 have hcap:¬ its.toArray.size*k.toNat > (2 ^ 63 - 1) / 8:=by
  have:(sizeLine:Nat)<=(2 ^ 63 - 1) / 8:=by decide
  omega
 have hfit:¬ (!Builtin.List.listFitsIndex k)=true:=by
  rw [fitsIndex_both h1 h2]
  exact wbe
 have hlong:¬ Builtin.List.listTooLong (its.toArray.size*k.toNat)=true:=by
  rw [qm7 hlen]
  exact wbe
 have hnew:List.foldl (λx1 x2=>x1++x2) #[] (List.replicate (if its.toArray.isEmpty=true then 0 else k.toNat) its.toArray)=(List.replicate k.toNat its).flatten.toArray:=by
  have f0:∀ m:Nat,List.foldl (λx1 x2=>x1++x2) #[] (List.replicate m its.toArray)=(List.replicate m its).flatten.toArray:=λm=>by
   have:=qkA its m []
   rw [List.nil_append] at this
   exact this
  rw [f0]
  cases its with
  | nil=>simp
  | cons a r'=>rw [if_neg (by simp)]
 refine wpAny_binaryOp_repeat_ref (T := "list") (U := "int") ∅ ⟨_,e,rfl⟩ (λs'=>typeIs_int s' k t) noFill_list_mul F.fills_int_mul F.slot_int_rmul repeat_list F.slot_int_index.lookup
  (call_meets F.slot_int_rmul (typeIs_int s k t) F.entry_int_rmul (F.args_int_rmul_2 _ _) (int___rmul___int_list k t l its.toArray n)
   ⟨e,rfl,⟨_,e,rfl⟩,call_meets F.slot_list_mul ⟨_,e,rfl⟩ F.entry_list_mul (F.args_list_mul_2 _ _) (AutoListH.list___mul___list_int_3 l its.toArray n k t hfit hcap hlong) ⟨e,?_⟩⟩)
 rw [hnew]
 exact ⟨.ref _,_,I.lnew (t':=s.toks) (r.rep k.toNat) (by rw [qud,wbm];exact hz),rfl,q _ I.fresh⟩
end
section
variable {prog:Program} {w:World} {A:Around} {E:Value->Shared->Prop} {s:Shared}
end
section
variable {X:Cx}
end
end L2
namespace Att
open PySem PySem.W PySem.Calls PyProof.Rows
theorem qhy {P:Params} {h:Heap}:∀ (ns:List Int) (vs:List Value),WellAll P h vs (ns.map WData.int)->IntsAre vs ns:=by
 intro ns
 induction ns with
 | nil=>
   intro vs w
   rw [List.map_nil] at w
   cases w
   exact .nil
 | cons n ns ih=>
   intro vs w
   rw [wa1] at w
   cases w with
   | cons a b=>
     cases a
     exact .cons _ _ (ih _ b)
theorem qpq {l:OpenLaw} {n:Nat} (hn:l.most=some n) {P:Params} {h:Heap} {args:List WData} {vals:List Value}
  (hpre:l.row.toRowW.claim.pre args=true) (hwl:WellAll P h vals args) :
  ∃ a vs ns,vals=[Value.ref a]/\args=[WData.list (ns.map WData.int)]/\h.get? a=some { cls:=.type "list", data:=.seq vs.toArray }/\IntsAre vs ns/\ns.length<=n:=by
 have hsh:WShape.hasAll [] args [.list .int]=true:=(pre_splitW hpre).1
 have hc:l.pre.holds [] { args:=args }=true:=(pre_splitW hpre).2
 obtain ⟨d,r,rfl,h1,h2⟩:=hasAllW_cons hsh
 obtain rfl:=hasAllW_nil h2
 obtain ⟨xs,rfl,h3⟩:=hasW_list h1
 obtain ⟨ns,rfl⟩:=items_int h3
 have hlen:ns.length<=n:=by
  unfold OpenLaw.pre at hc
  have h4:(WTm.not (.lt (.lit (.int (n:Int))) (.len (.arg 0)))).holds [] { args:=[.list (ns.map .int)] }=true:=by
   have h4:=(holds_andW hc).1
   rw [hn] at h4
   exact h4
  have h5:=condW_of h4 (w_not (w_lt w_lit (w_len_list (w_arg rfl))))
  rw [waa] at h5
  refine Nat.le_of_not_lt λq=>?_
  have q':(n:Int)<((ns.length:Nat):Int):=by omega
  first
   | (rw [decide_eq_true q'] at h5;exact absurd h5 ∅)
   | (simp at h5;omega)
 cases hwl with
 | cons w1 w2=>
   cases w2
   cases w1 with
   | list ho hall=>exact ⟨_,_,ns,rfl,rfl,ho,qhy ns _ hall,hlen⟩
theorem qpr (l:OpenLaw) (args:List WData):l.row.toRowW.claim.post args (.bool true) args=true:=
 postW_of (r:=l.row.toRowW) (X:=(true == true))
  (show WShape.has [] (.bool true) .bool=true by first | rfl | decide | simp [WShape.has,WShape.arms,WShape.armsAll])
  (show (WTm.eq .res (.lit (.bool true))).value [] { args:=args,res:=some (.bool true),after:=args }=some (.bool (true == true)) from w_eq_bool (w_res rfl) w_lit) rfl
theorem attach_call {l:OpenLaw} {n:Nat} {q:Program} {loose:List Str} {XP:(Str->Option Value)->Heap->Prop} {YP:World->Heap->Prop} {d:DefRec}
  (hn:l.most=some n) (hdf:d.params.defaults=[])
  (call:∀ (w:World) (s₀ s₁:Shared) (mg mb:Str->Option Value) (fa:Addr) (o:Obj) (pm cd doc:Value) (a:Addr) (vs:List Value) (ns:List Int),
   Ground q loose [] XP w s₀ mg mb s₁.heap->YP w s₁.heap->
   s₁.heap.get? fa=some o->o.data=.func (docDef d.name d.params d.body d.scope pm cd doc)->s₁.heap.CodeRec cd d.name->mg d.name=some (.ref fa)->
   s₁.heap.get? a=some { cls:=.type "list", data:=.seq vs.toArray }->IntsAre vs ns->ns.length<=n->s₁.gens=#[]->
   codeAny (model l.prog w) callerA (.call (.ref fa) ⟨[.ref a],[]⟩) (λr s'=>r=.ok (.ret (.bool true))/\OldK s₁.heap s'.heap/\s'.os=s₁.os/\AllBare s'.gens) s₁) :
  WalkO q loose XP YP l.row.toRowW d [] (λf vs=>PySem.call f vs):=by
 intro w s₀ s₁ mg mb G Y fa o pm cd doc dV kV ho hd hcd hD hmg hg args vals as hpre hlay hrd hwl hlo
 obtain rfl:dV=.none:=Dflts.none hD hdf
 obtain rfl:kV=.none:=Dflts.noKw hD
 obtain ⟨a,vs,ns,rfl,rfl,hobj,hints,hlen⟩:=qpq hn hpre hwl
 refine enter_call (codeAny_mono (call w s₀ s₁ mg mb fa o pm cd doc a vs ns G Y ho (fd_plain hd) hcd hmg hobj hints hlen hg) λr s' hq=>?_)
 obtain ⟨rfl,h2,h3,h4⟩:=hq
 exact ⟨.inl ⟨.bool true,.bool true,[],rfl,λ_=>rfl,.bool true,qpr l _,λ_=>⟨List.Pairwise.nil,λ_ hm=>(nomatch hm)⟩⟩,h2,h3,h4⟩
section
variable {prog:Program} {w:World} {A:Around} {E:Value->Shared->Prop} {s:Shared} {K:Frag}
end
end Att
namespace L2
open PySem PySem.Spec PyProof.Rows
theorem qkD:∀ {vs:List Value} {ns:List Int},IntsAre vs ns->Vals (ns.map V.int) vs
 | _,_,.nil=>.nil
 | _,_,.cons n t h=>.cons ⟨t,rfl⟩ (qkD h)
noncomputable def Only (H:Hp):Prop:=∀ b,H b=none\/∃ o xs,H b=some (.frz o (.lst xs))
theorem qr2 {P:Program} {w:World} {K:PySem.W.Frag} {mg mb:Str->Option Value} {CX:CXT} {k:Nat} {fa a:Addr} {fd:FuncData} {x:Str} {sp:Sp} {s₁:Shared} {vs:List Value} {ns:List Int}
  (KX:K.In s₁.heap) (hns:s₁.heap.Ns mainGlobals mg) (hb:s₁.heap.Ns builtinsNs mb) (hbb:∀ x:Str,x ≠ "__name__" -> mb x=bootBuiltins x) (hlim:s₁.heap.NoLimit) (hseer:s₁.heap.NoSeer) (htree:(model P w).prog.given.tree=none) (hg:s₁.gens=#[])
  (ha:s₁.heap.get? a=some { cls:=.type "list", data:=.seq vs.toArray }) (hi:IntsAre vs ns) (hl:ns.length<=sizeLine) (hr:Room k callerA)
  (F:∀ base:Heap,K.In base->base.Ns mainGlobals mg->FnOk P w K mg base CX k fa fd [x] sp) (hbind:∀ (s:Shared) (u:Value),BindsTo s fd ⟨[u],[]⟩ [(x,u)])
  (hsp:∀ H:Hp,Only H->SqL K H a (ns.map V.int)->sp [.ref a] H (λv _=>v=.bl true) λ_ _ _=>False)
  (hCX:∀ H e s',CX [] H s₁ (λ_ _ _=>False) e s'->False) :
  codeAny (model P w) callerA (.call (.ref fa) ⟨[.ref a],[]⟩) (λr s'=>r=.ok (.ret (.bool true))/\OldK s₁.heap s'.heap/\s'.os=s₁.os/\AllBare s'.gens) s₁:=by
 have rv:=qkD hi
 have lenV:=hi.length
 have core:∀ H:Hp,Only H->SqL K H a (ns.map V.int)->HOk P w H s₁.heap->(∀ b,H b≠none->b=a)->(H a≠none->K.lookup a=none)->
   codeAny (model P w) callerA (.call (.ref fa) ⟨[.ref a],[]⟩) (λr s'=>r=.ok (.ret (.bool true))/\OldK s₁.heap s'.heap/\s'.os=s₁.os/\AllBare s'.gens) s₁:=by
  intro H hO hS hok hA hK
  have base_of:∀ {b:Addr} {o:Obj},s₁.heap.get? b=some o->H b=none->(qrR s₁.heap H).get? b=some o:=λe n=>qrW e n
  have noA:∀ {b:Addr} {o:Obj} {es:Array DictEntry} {ep:Nat},s₁.heap.get? b=some o->o.data=.dict es ep->H b=none:=λ{b o es ep} e d=>by
   cases q:H b with
   | none=>rfl
   | some u=>
     have e':b=a:=hA b (by rw [q];simp)
     subst e'
     rw [ha] at e;cases e
     have d':Data.seq vs.toArray _=Data.dict es ep:=d
     cases d'
  have nsK:∀ {b:Addr} {m:Str->Option Value},s₁.heap.Ns b m->(qrR s₁.heap H).Ns b m:=λ{b m} ⟨o,es,ep,e,d,r⟩=>⟨o,es,ep,base_of e (noA e d),d,r⟩
  have hKb:K.In (qrR s₁.heap H):=λb o e=>base_of (KX b o e) (by
   cases q:H b with
   | none=>rfl
   | some u=>
     have e':b=a:=hA b (by rw [q];simp)
     subst e'
     rw [hK (by rw [q];simp)] at e;cases e)
  have hM:Mod K mg (qrR s₁.heap H):=⟨hKb,nsK hns,⟨mb,nsK hb,hbb⟩,let ⟨mc,h1,h2⟩:=hlim;⟨mc,nsK h1,h2⟩⟩
  have hSe:(qrR s₁.heap H).NoSeer:=⟨let ⟨mc,a,b⟩:=hseer.statics;⟨mc,nsK a,b⟩,let ⟨mc,a,b⟩:=hseer.mods;⟨mc,nsK a,b⟩,let ⟨mc,a,b⟩:=hseer.imp;⟨mc,nsK a,b⟩,
   let ⟨mg',bm,ob,a',b',c',d',e'⟩:=hseer.main;⟨mg',bm,ob,nsK a',b',base_of c' (by
    cases q:H bm with
    | none=>rfl
    | some u=>
      have z:bm=a:=hA bm (by rw [q];simp)
      subst z
      rw [ha] at c';cases c'
      simp at d'),d',e'⟩⟩
  have e0:Env0 P w K mg (qrR s₁.heap H) callerA [] s₁ H:=⟨rfl,hM,λb o e=>qt2 e,Nat.le_of_eq (qo7 _ _),trivial,λb hb=>absurd (show b∈([]:List Addr) from hb) (by simp),hok,.of_eq hg,hSe,htree⟩
  refine codeAny_mono ((F _ hKb (nsK hns)).run callerA [] s₁ H ⟨[.ref a],[]⟩ [.ref a] [.ref a] _ _ hr e0 (hbind s₁ (.ref a)) (.cons rfl .nil) (hsp H hO hS)) λr s' h=>?_
  cases r with
  | error e=>exact (hCX H e s' h).elim
  | ok fl=>
    cases fl with
    | next=>exact False.elim h
    | brk=>exact False.elim h
    | cont=>exact False.elim h
    | ret u=>
      obtain ⟨v,H',os,bare,un,hok',r',q⟩:=h
      have q':v=.bl true:=q
      subst q'
      obtain rfl:u=Value.bool true:=r'
      refine ⟨rfl,OldK.of_keep λb o e=>?_,os,bare⟩
      cases q:H b with
      | none=>exact un.keep b o e q (by intro z;exact absurd (show b∈([]:List Addr) from z) (by simp)) (by simp)
      | some u=>
        rcases hO b with z | ⟨ob,xs,z⟩
        ·rw [q] at z;cases z
        ·have z2:=un.frzs b ob _ z
         obtain ⟨e1,_⟩:=hok b _ z
         obtain ⟨e2,_⟩:=hok' b _ z2
         rw [e] at e1;cases e1
         exact e2
 cases hk:K.lookup a with
 | some o=>
   have e:=KX a o hk
   rw [ha] at e
   cases e
   refine core (λ_=>none) (λ_=>.inl rfl) (.inr ⟨_,vs.toArray,_,hk,rfl,rfl,rfl,by rw [wam,lenV];exact hl,by simpa using rv⟩) (λb u z=>by have z':(none:Option HO)=some u:=z;cases z') (λb z=>absurd rfl z) λz=>absurd rfl z
 | none=>
   refine core (λb=>if b=a then some (.frz { cls:=.type "list", data:=.seq vs.toArray } (.lst (ns.map V.int))) else none) (λb=>?_) (.inl (.inr ⟨{ cls:=.type "list", data:=.seq vs.toArray },if_pos rfl⟩)) (λb u z=>?_) (λb z=>?_) λ_=>hk
   ·by_cases hb:b=a
    ·exact .inr ⟨_,_,if_pos hb⟩
    ·exact .inl (if_neg hb)
   ·by_cases hb:b=a
    ·have z':=(if_pos hb).symm.trans z
     cases z'
     subst hb
     exact ⟨ha,by rw [waa];exact hl,vs,_,rv,ha⟩
    ·have z':=(if_neg hb).symm.trans z
     cases z'
   ·by_cases hb:b=a
    ·exact hb
    ·exact absurd (if_neg hb) z
end L2
namespace L2
open PySem PySem.Spec PyProof.Rows
theorem walk_of {l:PySem.W.OpenLaw} {n k:Nat} {q:Program} {loose:List Str} {XP:(Str->Option Value)->Heap->Prop} {YP:World->Heap->Prop} {d:DefRec} {K:Params->PySem.W.Frag} {CX:World->CXT} {sp:World->Sp} {x:Str}
  (hn:l.most=some n) (hn2:n<=sizeLine) (hdf:d.params.defaults=[]) (hq:importsNone q=true) (htree:∀ w,(model l.prog w).prog.given.tree=none) (hr:Room k callerA)
  (hY:∀ (w:World) (h:Heap),YP w h->(K w.params).In h)
  (F:∀ (w:World) (mg:Str->Option Value) (fa:Addr) (h:Heap),(K w.params).In h->h.Ns mainGlobals mg->mg d.name=some (.ref fa)->
   ∃ fd:FuncData,(∀ (s:Shared) (u:Value),BindsTo s fd ⟨[u],[]⟩ [(x,u)])/\
     ∀ base:Heap,(K w.params).In base->base.Ns mainGlobals mg->FnOk l.prog w (K w.params) mg base (CX w) k fa fd [x] (sp w))
  (hsp:∀ (w:World) (H:Hp) (a:Addr) (ns:List Int),ns.length<=n->Only H->SqL (K w.params) H a (ns.map V.int)->sp w [.ref a] H (λv _=>v=.bl true) λ_ _ _=>False)
  (hCX:∀ (w:World) (H:Hp) (s:Shared) (e:Value) (s':Shared),CX w [] H s (λ_ _ _=>False) e s'->False) :
  PySem.W.WalkO q loose XP YP l.row.toRowW d [] (λf vs=>PySem.call f vs):=by
 refine Att.attach_call hn hdf λw s₀ s₁ mg mb fa o pm cd doc a vs ns G Y ho hd hcd hmg hobj hints hlen hg=>?_
 have KX:=hY w _ Y
 obtain ⟨fd,hb,hF⟩:=F w mg fa _ KX G.T.g hmg
 exact qr2 KX G.T.g G.T.b G.T.builtins G.T.nolimit (G.T.seer hq) (htree w) hg hobj hints (wak hlen hn2) hr hF hb (λH hO hS=>hsp w H a ns hlen hO hS) λH e s'=>hCX w H s₁ e s'
end L2
namespace L2
open PySem PySem.Spec PyProof.Rows
noncomputable def qds (s:Stmt):Arguments:=match s with
 | .FunctionDef _ a _ _ _ _ _ _ _ _=>a
 | _=>{ posonlyargs:=[],args:=[],vararg:=none,kwonlyargs:=[],kw_defaults:=[],kwarg:=none,defaults:=[] }
noncomputable def qcK (s:Stmt):List Stmt:=match s with
 | .FunctionDef _ _ b _ _ _ _ _ _ _=>b
 | _=>[]
noncomputable def qbg (s:Stmt):Scope:=match s with
 | .FunctionDef _ _ _ _ _ _ sc _ _ _=>sc
 | _=>{ kind:=.function,names:=[],isGenerator:=false,isCoroutine:=false }
noncomputable abbrev CX0:CXT:=λ_ _ _ _ _ _=>False
noncomputable abbrev E0:XK:=λ_ _ _=>False
theorem qwU {X:Cx}:Passes CX0 X E0:=λ_ _ _ _ _ _ _ h=>h.elim
structure Fun (K:PySem.W.Frag) (x qual:Str) (st:Stmt) (f:Addr) (fd:FuncData):Prop where
 ex:∃ (oc:Value) (od:Option Addr) (kV doc pm:Value) (an:Option Addr) (cdv ct:Value) (osl:Array (Option Value)),
  fd=PySem.W.fnOf x qual (qds st) (qcK st) (qbg st) .none kV doc pm an cdv ct/\K.lookup f=some ⟨oc,od,.func fd,osl⟩/\PySem.W.codeIn K cdv qual=true
 kp:PySem.W.keepIn K (.ref f)=true
section
variable {P:Program} {w:World} {K:PySem.W.Frag} {mg:Str->Option Value} {base:Heap}
theorem Fun.ok {x qual:Str} {st:Stmt} {f:Addr} {fd:FuncData} {N ps:List Str} {k:Nat} {sp:Sp} (F:Fun K x qual st f fd) (S:FnScope N ps (qbg st)) (len:∀ vs H Q E,sp vs H Q E->vs.length=ps.length)
  (hbody:∀ (cdv:Value) (A:Around) (outer:List Env) (s:Shared) (H:Hp) (vs:List V) (Q:VK) (E:XK),Room k (A.deeper (envOfC qual (qbg st) s.heap.objs.size f cdv))->sp vs H Q E->
   ∃ t,PSs (qua CX0 P w K mg base N qual (qbg st) f cdv A outer s H E).nox (qcK st) t/\t { nx:=λ_ H'=>Q .non H',rt:=Q } (start N vs) H):FnOk P w K mg base CX0 (k+1) f fd ps sp:=by
 obtain ⟨oc,od,kV,doc,pm,an,cdv,ct,osl,rfl,lk,hcd⟩:=F.ex
 refine qwT lk hcd S len λA outer s H vs Q E hr hsp=>?_
 obtain ⟨t,h,q⟩:=hbody cdv A outer s H vs Q E hr hsp
 exact ⟨t,h.nox,q⟩
theorem Fun.binds {x qual:Str} {st:Stmt} {f:Addr} {fd:FuncData} {ps:List Str} (F:Fun K x qual st f fd)
  (h:∀ (kV doc pm:Value) (an:Option Addr) (cdv ct:Value) (us:List Value),us.length=ps.length->bindArgs (PySem.W.fnOf x qual (qds st) (qcK st) (qbg st) .none kV doc pm an cdv ct) ⟨us,[]⟩=pure (ps.zip us)):Binds K fd ps []:=by
 obtain ⟨oc,od,kV,doc,pm,an,cdv,ct,osl,rfl,lk,hcd⟩:=F.ex
 exact .all (h kV doc pm an cdv ct)
theorem qvE {x qual:Str} {st:Stmt} {f:Addr} {oc:Value} {od an:Option Addr} {osl:Array (Option Value)} {kV doc pm cdv ct:Value} (l:K.lookup f=some ⟨oc,od,.func (PySem.W.fnOf x qual (qds st) (qcK st) (qbg st) .none kV doc pm an cdv ct),osl⟩)
  (c:PySem.W.codeIn K cdv qual=true) (k:PySem.W.keepIn K (.ref f)=true):Fun K x qual st f (PySem.W.fnOf x qual (qds st) (qcK st) (qbg st) .none kV doc pm an cdv ct):=⟨⟨oc,od,kV,doc,pm,an,cdv,ct,osl,rfl,l,c⟩,k⟩
end
section
variable {X:Cx}
theorem pv (i:Nat) {x:Str} {pos:Pos} (hN:X.N[i]?=some x:=by rfl) (hv:Vis X.env.scope x:=by first | exact Or.inl rfl | exact Or.inr (Or.inl rfl) | exact Or.inr (Or.inr rfl)) (hd:(x == ("__debug__" : Str))=false:=by decide)
  (hcd:(x == ("__classdict__" : Str))=false:=by decide):PE X (.Name x pos) (qag i):=qvs hN hv hd hcd
end
theorem qck {c A B:Prop} [Decidable c] (h1:c->A) (h2:¬ c->B):if c then A else B:=by
 by_cases h:c
 ·rw [if_pos h]
  exact h1 h
 ·rw [if_neg h]
  exact h2 h
noncomputable def Same (H H':Hp):Prop:=∀ b o,H b=some o->H' b=some o
theorem Same.refl (H:Hp):Same H H:=λ_ _ h=>h
theorem Same.trans {H H1 H2:Hp} (a:Same H H1) (b:Same H1 H2):Same H H2:=λc o h=>b c o (a c o h)
theorem Same.free {H H':Hp} (e:Same H H') {l:Addr} (h:H' l=Option.none):H l=Option.none:=by
 cases q:H l with
 | none=>rfl
 | some o=>
   rw [e l o q] at h
   cases h
theorem Same.seq {K:PySem.W.Frag} {H H':Hp} {a:Addr} {xs:List V} (e:Same H H') (h:SqL K H a xs):SqL K H' a xs:=by
 rcases h with (h | ⟨o,h⟩) | h
 ·exact .inl (.inl (e _ _ h))
 ·exact .inl (.inr ⟨o,e _ _ h⟩)
 ·exact .inr h
end L2
local macro_rules | `(tactic| omega)=>`(tactic| lia)
namespace Bs.Hd
open PySem PySem.Spec PyProof.Rows L2
set_option maxRecDepth 100000
set_option maxHeartbeats 4000000
noncomputable def top (i:Nat):Stmt:=PySem.Challenge.pw_backslope_k38_forms_shown.main.body.getD i (.Pass ⟨0,0,0,0⟩)
noncomputable abbrev qgN:Stmt:=top 2
noncomputable abbrev qr3:Stmt:=top 3
noncomputable abbrev qps:Stmt:=top 4
noncomputable abbrev qjr:Stmt:=top 5
noncomputable abbrev qkE:Stmt:=top 6
noncomputable abbrev ql1:Stmt:=top 7
noncomputable abbrev qn3:Stmt:=top 8
noncomputable abbrev qn4:Stmt:=top 9
noncomputable abbrev qjs:Stmt:=top 10
noncomputable abbrev qfn:Stmt:=top 11
noncomputable abbrev qhz:Stmt:=top 12
noncomputable abbrev qhA:Stmt:=top 13
noncomputable abbrev qgO:Stmt:=top 14
noncomputable abbrev qiq:Stmt:=top 15
noncomputable abbrev qkF:Stmt:=top 16
noncomputable abbrev qir:Stmt:=top 17
noncomputable abbrev qis:Stmt:=top 18
noncomputable abbrev qjt:Stmt:=top 19
noncomputable abbrev qhB:Stmt:=top 20
noncomputable abbrev qpt:Stmt:=top 21
noncomputable abbrev qf1:Stmt:=top 22
noncomputable abbrev qkG:Stmt:=top 23
noncomputable abbrev que:Stmt:=top 25
noncomputable abbrev qvF:Stmt:=top 26
noncomputable abbrev quf:Stmt:=top 27
noncomputable abbrev qug:Stmt:=top 28
noncomputable abbrev qvG:Stmt:=top 29
noncomputable abbrev qr4:Stmt:=top 30
noncomputable abbrev qvH:Stmt:=top 32
noncomputable abbrev qr5:Stmt:=top 33
noncomputable abbrev qpu:Stmt:=top 34
noncomputable abbrev ql3:Stmt:=top 35
noncomputable abbrev ql4:Stmt:=top 36
noncomputable abbrev qr6:Stmt:=top 37
noncomputable abbrev qpv:Stmt:=top 38
noncomputable abbrev qpw:Stmt:=top 39
noncomputable abbrev qn5:Stmt:=top 40
noncomputable abbrev qpx:Stmt:=top 41
noncomputable abbrev qr7:Stmt:=top 42
noncomputable abbrev qpy:Stmt:=top 43
noncomputable abbrev qn6:Stmt:=top 45
noncomputable abbrev qr8:Stmt:=top 46
noncomputable abbrev qn7:Stmt:=top 47
noncomputable abbrev qr9:Stmt:=top 48
noncomputable abbrev qn8:Stmt:=top 49
noncomputable abbrev qsa:Stmt:=top 50
noncomputable abbrev qpz:Stmt:=top 51
noncomputable abbrev qkH:Stmt:=top 53
noncomputable abbrev qkI:Stmt:=top 55
noncomputable abbrev qpA:Stmt:=top 57
noncomputable abbrev qsb:Stmt:=top 58
noncomputable abbrev qn9:Stmt:=top 59
noncomputable abbrev qpB:Stmt:=top 60
noncomputable abbrev qpC:Stmt:=top 61
noncomputable abbrev qsc:Stmt:=top 62
noncomputable abbrev qsd:Stmt:=top 63
noncomputable abbrev ql5:Stmt:=top 64
noncomputable abbrev qse:Stmt:=top 65
noncomputable abbrev qkJ:Stmt:=top 66
noncomputable abbrev qoa:Stmt:=top 67
noncomputable abbrev quh:Stmt:=top 68
noncomputable abbrev qpD:Stmt:=top 69
noncomputable abbrev qpE:Stmt:=top 70
noncomputable abbrev N:Value:=.none
noncomputable abbrev S (x:Str) (t:Tok):Value:=.str x t
noncomputable abbrev I (i:Int):Value:=.int i 0
noncomputable abbrev R (a:Addr):Value:=.ref a
noncomputable def en (P:Params) (k:Str) (t:Tok) (v:Value):DictEntry:=⟨PyData.keyHash P k,.str k t,v⟩
noncomputable def cdO (n:Str) (t:Tok) (l c u:Int) (a:Addr) (b g d e f:Value) (x:Int) (y:Tok):Obj:=⟨.type "code", none,.fields #[S n t,S n (t+1),S "/claim/cut.py" (t+2),I l,I c,I 0,I 0,I u,R a,.bool true,I 181,b,g,d,e,f,I x,I l,S "/claim/cut.py" y],#[]⟩
noncomputable def fnO (n:Str) (s:Stmt) (pm:Value) (c:Addr):Obj:=⟨.type "function", none,.func (PySem.W.fnOf n n (qds s) (qcK s) (qbg s) .none .none .none pm none (.ref c) .none),#[]⟩
noncomputable abbrev mo0:Value:=S "backslope.wholes" 187
noncomputable abbrev mo1:Value:=S "backslope.numbers" 393
noncomputable abbrev mo2:Value:=S "backslope.polys" 444
noncomputable abbrev mo3:Value:=S "backslope.fractions" 541
noncomputable abbrev mo4:Value:=S "backslope.forms" 606
noncomputable abbrev mo5:Value:=S "backslope.backpaper" 618
noncomputable abbrev mo6:Value:=S "law_backslope_k38_forms_shown" 628
noncomputable def hp (P:Params):W.Frag:=[
 (3,⟨.type "dict", none,.dict #[en P "__name__" 165 (S "law_backslope_k38_forms_shown" 628),en P "__doc__" 166 N,en P "__package__" 167 N,en P "__loader__" 168 (.builtin "__main__.__loader__#opaque"),en P "__spec__" 169 N,en P "__annotations__" 170 (R 6),en P "__builtins__" 171 (R 4),en P "__file__" 173 (S "/claim/cut.py" 172),en P "__cached__" 174 N,en P "EXPONENTS" 197 (R 15),en P "common_divisor" 206 (R 22),en P "raised" 216 (R 29),en P "content" 222 (R 34),en P "row_trimmed" 230 (R 41),en P "row_parted" 236 (R 46),en P "row_times" 249 (R 53),en P "row_over" 263 (R 60),en P "row_less" 269 (R 65),en P "strand_rest" 275 (R 70),en P "strand_shortened" 281 (R 75),en P "row_shortened" 288 (R 82),en P "strand_euclid" 297 (R 89),en P "inverse_modulo" 311 (R 96),en P "rests_modulo" 317 (R 101),en P "row_modulo" 325 (R 108),en P "monic_modulo" 331 (R 113),en P "split_modulo" 346 (R 120),en P "rest_modulo" 355 (R 127),en P "euclid_modulo" 365 (R 134),en P "nearest" 374 (R 141),en P "common_by_prime" 380 (R 146),en P "row_common" 392 (R 153),en P "ratio" 403 (R 160),en P "plus" 411 (R 167),en P "minus" 419 (R 174),en P "times" 427 (R 181),en P "over" 435 (R 188),en P "before" 443 (R 195),en P "poly" 453 (R 202),en P "degree" 460 (R 209),en P "cleared" 466 (R 214),en P "uncleared" 472 (R 219),en P "number_of" 480 (R 226),en P "p_plus" 486 (R 231),en P "p_minus" 492 (R 236),en P "p_times" 502 (R 243),en P "p_scaled" 508 (R 248),en P "p_split" 525 (R 255),en P "common" 534 (R 262),en P "p_slope" 540 (R 267),en P "fraction" 551 (R 274),en P "evened" 560 (R 281),en P "quotient" 568 (R 288),en P "f_poly" 575 (R 295),en P "f_number" 582 (R 302),en P "f_plus" 594 (R 309),en P "f_slope" 605 (R 316),en P "form_slope" 617 (R 323),en P "shows_form" 627 (R 330),en P "_law_begin" 635 (R 335),en P "_law_take" 645 (R 342),en P "_law_number" 653 (R 349),en P "_law_other" 661 (R 356),en P "_law_whole" 667 (R 361),en P "_law_pool" 673 (R 366),en P "_law_some" 679 (R 371),en P "_law_product" 688 (R 378),en P "_law_laid" 699 (R 385),en P "_law_fraction" 705 (R 390),en P "_law_pieces" 719 (R 397),en P "_law_top" 725 (R 402),en P "_law_wrong" 742 (R 409),en P "law" 748 (R 414)] 73,#[]⟩),
 (15,⟨.type "tuple", none,.seq #[(.int 61 189),(.int 127 190),(.int 521 191),(.int 1279 192),(.int 4423 193),(.int 9941 194),(.int 21701 195),(.int 44497 196)] 0,#[]⟩),
 (21,cdO "common_divisor" 198 3 2 3 16 (R 17) N (R 18) (R 19) (R 20) 204 205),
 (22,fnO "common_divisor" (top 2) mo0 21),
 (28,cdO "raised" 207 9 2 3 23 (R 24) N (R 25) (R 26) (R 27) 214 215),
 (29,fnO "raised" (top 3) mo0 28),
 (33,cdO "content" 217 19 2 3 30 (R 31) N N N (R 32) 220 221),
 (34,fnO "content" (top 4) mo0 33),
 (40,cdO "row_trimmed" 223 26 1 3 35 (R 36) N (R 37) (R 38) (R 39) 228 229),
 (41,fnO "row_trimmed" (top 5) mo0 40),
 (45,cdO "row_parted" 231 31 2 3 42 (R 43) N N N (R 44) 234 235),
 (46,fnO "row_parted" (top 6) mo0 45),
 (52,cdO "row_times" 237 33 2 3 47 (R 48) N (R 49) (R 50) (R 51) 247 248),
 (53,fnO "row_times" (top 7) mo0 52),
 (59,cdO "row_over" 250 42 2 3 54 (R 55) N (R 56) (R 57) (R 58) 261 262),
 (60,fnO "row_over" (top 8) mo0 59),
 (64,cdO "row_less" 264 55 5 3 61 (R 62) N N N (R 63) 267 268),
 (65,fnO "row_less" (top 9) mo0 64),
 (69,cdO "strand_rest" 270 61 2 3 66 (R 67) N N N (R 68) 273 274),
 (70,fnO "strand_rest" (top 10) mo0 69),
 (74,cdO "strand_shortened" 276 71 1 3 71 (R 72) N N N (R 73) 279 280),
 (75,fnO "strand_shortened" (top 11) mo0 74),
 (81,cdO "row_shortened" 282 76 1 3 76 (R 77) N (R 78) (R 79) (R 80) 286 287),
 (82,fnO "row_shortened" (top 12) mo0 81),
 (88,cdO "strand_euclid" 289 78 2 3 83 (R 84) N (R 85) (R 86) (R 87) 295 296),
 (89,fnO "strand_euclid" (top 13) mo0 88),
 (95,cdO "inverse_modulo" 298 86 2 3 90 (R 91) N (R 92) (R 93) (R 94) 309 310),
 (96,fnO "inverse_modulo" (top 14) mo0 95),
 (100,cdO "rests_modulo" 312 100 2 3 97 (R 98) N N N (R 99) 315 316),
 (101,fnO "rests_modulo" (top 15) mo0 100),
 (107,cdO "row_modulo" 318 102 2 3 102 (R 103) N (R 104) (R 105) (R 106) 323 324),
 (108,fnO "row_modulo" (top 16) mo0 107),
 (112,cdO "monic_modulo" 326 104 2 3 109 (R 110) N N N (R 111) 329 330),
 (113,fnO "monic_modulo" (top 17) mo0 112),
 (119,cdO "split_modulo" 332 109 3 3 114 (R 115) N (R 116) (R 117) (R 118) 344 345),
 (120,fnO "split_modulo" (top 18) mo0 119),
 (126,cdO "rest_modulo" 347 120 3 3 121 (R 122) N (R 123) (R 124) (R 125) 353 354),
 (127,fnO "rest_modulo" (top 19) mo0 126),
 (133,cdO "euclid_modulo" 356 122 3 3 128 (R 129) N (R 130) (R 131) (R 132) 363 364),
 (134,fnO "euclid_modulo" (top 20) mo0 133),
 (140,cdO "nearest" 366 130 2 3 135 (R 136) N (R 137) (R 138) (R 139) 372 373),
 (141,fnO "nearest" (top 21) mo0 140),
 (145,cdO "common_by_prime" 375 133 3 3 142 (R 143) N N N (R 144) 378 379),
 (146,fnO "common_by_prime" (top 22) mo0 145),
 (152,cdO "row_common" 381 142 2 3 147 (R 148) N (R 149) (R 150) (R 151) 390 391),
 (153,fnO "row_common" (top 23) mo0 152),
 (159,cdO "ratio" 395 152 2 3 154 (R 155) N (R 156) (R 157) (R 158) 401 402),
 (160,fnO "ratio" (top 25) mo1 159),
 (166,cdO "plus" 404 157 2 3 161 (R 162) N (R 163) (R 164) (R 165) 409 410),
 (167,fnO "plus" (top 26) mo1 166),
 (173,cdO "minus" 412 159 2 3 168 (R 169) N (R 170) (R 171) (R 172) 417 418),
 (174,fnO "minus" (top 27) mo1 173),
 (180,cdO "times" 420 161 2 3 175 (R 176) N (R 177) (R 178) (R 179) 425 426),
 (181,fnO "times" (top 28) mo1 180),
 (187,cdO "over" 428 163 2 3 182 (R 183) N (R 184) (R 185) (R 186) 433 434),
 (188,fnO "over" (top 29) mo1 187),
 (194,cdO "before" 436 165 2 3 189 (R 190) N (R 191) (R 192) (R 193) 441 442),
 (195,fnO "before" (top 30) mo1 194),
 (201,cdO "poly" 446 168 1 3 196 (R 197) N (R 198) (R 199) (R 200) 451 452),
 (202,fnO "poly" (top 32) mo2 201),
 (208,cdO "degree" 454 173 1 3 203 (R 204) N (R 205) (R 206) (R 207) 458 459),
 (209,fnO "degree" (top 33) mo2 208),
 (213,cdO "cleared" 461 175 1 3 210 (R 211) N N N (R 212) 464 465),
 (214,fnO "cleared" (top 34) mo2 213),
 (218,cdO "uncleared" 467 180 2 3 215 (R 216) N N N (R 217) 470 471),
 (219,fnO "uncleared" (top 35) mo2 218),
 (225,cdO "number_of" 473 182 2 3 220 (R 221) N (R 222) (R 223) (R 224) 478 479),
 (226,fnO "number_of" (top 36) mo2 225),
 (230,cdO "p_plus" 481 184 2 3 227 (R 228) N N N (R 229) 484 485),
 (231,fnO "p_plus" (top 37) mo2 230),
 (235,cdO "p_minus" 487 186 2 3 232 (R 233) N N N (R 234) 490 491),
 (236,fnO "p_minus" (top 38) mo2 235),
 (242,cdO "p_times" 493 188 2 3 237 (R 238) N (R 239) (R 240) (R 241) 500 501),
 (243,fnO "p_times" (top 39) mo2 242),
 (247,cdO "p_scaled" 503 192 2 3 244 (R 245) N N N (R 246) 506 507),
 (248,fnO "p_scaled" (top 40) mo2 247),
 (254,cdO "p_split" 509 194 2 3 249 (R 250) N (R 251) (R 252) (R 253) 523 524),
 (255,fnO "p_split" (top 41) mo2 254),
 (261,cdO "common" 526 211 2 3 256 (R 257) N (R 258) (R 259) (R 260) 532 533),
 (262,fnO "common" (top 42) mo2 261),
 (266,cdO "p_slope" 535 214 1 3 263 (R 264) N N N (R 265) 538 539),
 (267,fnO "p_slope" (top 43) mo2 266),
 (273,cdO "fraction" 543 217 2 3 268 (R 269) N (R 270) (R 271) (R 272) 549 550),
 (274,fnO "fraction" (top 45) mo3 273),
 (280,cdO "evened" 552 220 2 3 275 (R 276) N (R 277) (R 278) (R 279) 558 559),
 (281,fnO "evened" (top 46) mo3 280),
 (287,cdO "quotient" 561 223 2 3 282 (R 283) N (R 284) (R 285) (R 286) 566 567),
 (288,fnO "quotient" (top 47) mo3 287),
 (294,cdO "f_poly" 569 225 1 3 289 (R 290) N (R 291) (R 292) (R 293) 573 574),
 (295,fnO "f_poly" (top 48) mo3 294),
 (301,cdO "f_number" 576 227 1 3 296 (R 297) N (R 298) (R 299) (R 300) 580 581),
 (302,fnO "f_number" (top 49) mo3 301),
 (308,cdO "f_plus" 583 229 2 3 303 (R 304) N (R 305) (R 306) (R 307) 592 593),
 (309,fnO "f_plus" (top 50) mo3 308),
 (315,cdO "f_slope" 595 235 1 3 310 (R 311) N (R 312) (R 313) (R 314) 603 604),
 (316,fnO "f_slope" (top 51) mo3 315),
 (322,cdO "form_slope" 608 242 1 3 317 (R 318) N (R 319) (R 320) (R 321) 615 616),
 (323,fnO "form_slope" (top 53) mo4 322),
 (329,cdO "shows_form" 620 248 2 3 324 (R 325) N (R 326) (R 327) (R 328) 625 626),
 (330,fnO "shows_form" (top 55) mo5 329),
 (334,cdO "_law_begin" 630 251 1 3 331 (R 332) N N N (R 333) 633 634),
 (335,fnO "_law_begin" (top 57) mo6 334),
 (341,cdO "_law_take" 636 257 2 3 336 (R 337) N (R 338) (R 339) (R 340) 643 644),
 (342,fnO "_law_take" (top 58) mo6 341),
 (348,cdO "_law_number" 646 269 1 3 343 (R 344) N (R 345) (R 346) (R 347) 651 652),
 (349,fnO "_law_number" (top 59) mo6 348),
 (355,cdO "_law_other" 654 274 1 3 350 (R 351) N (R 352) (R 353) (R 354) 659 660),
 (356,fnO "_law_other" (top 60) mo6 355),
 (360,cdO "_law_whole" 662 279 1 3 357 (R 358) N N N (R 359) 665 666),
 (361,fnO "_law_whole" (top 61) mo6 360),
 (365,cdO "_law_pool" 668 281 1 3 362 (R 363) N N N (R 364) 671 672),
 (366,fnO "_law_pool" (top 62) mo6 365),
 (370,cdO "_law_some" 674 287 3 3 367 (R 368) N N N (R 369) 677 678),
 (371,fnO "_law_some" (top 63) mo6 370),
 (377,cdO "_law_product" 680 297 1 3 372 (R 373) N (R 374) (R 375) (R 376) 686 687),
 (378,fnO "_law_product" (top 64) mo6 377),
 (384,cdO "_law_laid" 689 302 1 3 379 (R 380) N (R 381) (R 382) (R 383) 697 698),
 (385,fnO "_law_laid" (top 65) mo6 384),
 (389,cdO "_law_fraction" 700 313 2 3 386 (R 387) N N N (R 388) 703 704),
 (390,fnO "_law_fraction" (top 66) mo6 389),
 (396,cdO "_law_pieces" 706 324 4 3 391 (R 392) N (R 393) (R 394) (R 395) 717 718),
 (397,fnO "_law_pieces" (top 67) mo6 396),
 (401,cdO "_law_top" 720 335 1 3 398 (R 399) N N N (R 400) 723 724),
 (402,fnO "_law_top" (top 68) mo6 401),
 (408,cdO "_law_wrong" 726 342 3 3 403 (R 404) N (R 405) (R 406) (R 407) 740 741),
 (409,fnO "_law_wrong" (top 69) mo6 408),
 (413,cdO "law" 743 355 1 3 410 (R 411) N N N (R 412) 746 747),
 (414,fnO "law" (top 70) mo6 413)]
noncomputable def as:List Addr:=[3,15,21,22,28,29,33,34,40,41,45,46,52,53,59,60,64,65,69,70,74,75,81,82,88,89,95,96,100,101,107,108,112,113,119,120,126,127,133,134,140,141,145,146,152,153,159,160,166,167,173,174,180,181,187,188,194,195,201,202,208,209,213,214,218,219,225,226,230,231,235,236,242,243,247,248,254,255,261,262,266,267,273,274,280,281,287,288,294,295,301,302,308,309,315,316,322,323,329,330,334,335,341,342,348,349,355,356,360,361,365,366,370,371,377,378,384,385,389,390,396,397,401,402,408,409,413,414]
noncomputable def vw:Program:=PySem.W.view PySem.Challenge.pw_backslope_k38_forms_shown [1,2,3,4,5,6,7,8,9,10,11,12,13,14,15,16,17,18,19,20,21,22,23,25,26,27,28,29,30,32,33,34,35,36,37,38,39,40,41,42,43,45,46,47,48,49,50,51,53,55,57,58,59,60,61,62,63,64,65,66,67,68,69,70]
noncomputable def hk:PySem.W.Hook:=PySem.W.kHook hp as (λ_=>by kernel_rfl)
theorem left:PySem.W.LeftO PySem.Challenge.pw_backslope_k38_forms_shown vw [] (λs=>PySem.W.xlAt vw [] s && PySem.W.recOk (PySem.W.RowW.records (PySem.W.OpenRow.toRowW (PySem.W.OpenLaw.row PySem.Challenge.rw_backslope_k38_forms_shown))) s) hk.obs hk.val 4054:=λw=>by kernel_rfl
end Bs.Hd
namespace Bs
noncomputable def Bd (n:Nat) (x:Int):Prop:=x.natAbs<2 ^ n
theorem Bd.mono {m n:Nat} {x:Int} (h:Bd m x) (hn:m<=n):Bd n x:=wav h (wbx ∅ hn)
theorem Bd.le {n:Nat} {x y:Int} (h:Bd n x) (hy:y.natAbs<=x.natAbs):Bd n y:=Nat.lt_of_le_of_lt hy h
theorem Bd.neg {n:Nat} {x:Int} (h:Bd n x):Bd n (-x):=by unfold Bd at *;rw [Int.natAbs_neg];exact h
theorem Bd.add {n:Nat} {x y:Int} (h:Bd n x) (h':Bd n y):Bd (n+1) (x+y):=by
 unfold Bd at *
 have:=Int.natAbs_add_le x y
 rw [wa6]
 omega
theorem Bd.sub {n:Nat} {x y:Int} (h:Bd n x) (h':Bd n y):Bd (n+1) (x - y):=by
 rw [Int.sub_eq_add_neg];exact h.add h'.neg
theorem Bd.mul {m n:Nat} {x y:Int} (h:Bd m x) (h':Bd n y):Bd (m+n) (x*y):=by
 unfold Bd at *
 rw [war,Nat.pow_add]
 exact Nat.mul_lt_mul'' h h'
theorem qxv {x:Int} (h1:-18446744073709551616<x) (h2:x<18446744073709551616):Bd 64 x:=by
 unfold Bd
 have:(2:Nat) ^ 64=18446744073709551616:=by decide
 rw [this];omega
theorem Bd.log2 {n:Nat} {x:Int} (h:Bd n x) (hn:0<n):x.natAbs.log2<n:=by
 unfold Bd at h
 rcases wbr x.natAbs with h0 | hp
 ·rw [h0];simpa using hn
 ·exact (Nat.log2_lt (Nat.ne_of_gt hp)).mpr h
structure Low (t d:Int):Prop where
 pos:0<d
 one:Int.gcd t d=1
theorem qm8 (a b:Int):Int.gcd b (a.fmod b)=Int.gcd a b:=by
 have e:a.fmod b=a - b*a.fdiv b:=Int.fmod_def a b
 rw [e]
 apply Nat.dvd_antisymm
 ·apply Int.dvd_gcd
  ·have h1:=wby b (a - b*a.fdiv b)
   have h2:=wbs b (a - b*a.fdiv b)
   have h3:=wbc h2 (wb8 (c:=a.fdiv b) h1)
   rw [Int.sub_add_cancel] at h3
   exact h3
  ·exact wby b _
 ·apply Int.dvd_gcd
  ·exact wbs a b
  ·exact Int.dvd_sub (wby a b) (wb8 (wbs a b))
theorem qm9 (a:Int) {b:Int} (h:0<=b):Int.gcd b (a % b)=Int.gcd a b:=by
 rw [<-Int.fmod_eq_emod_of_nonneg a h,qm8]
theorem qpF (a:Int) {b:Int} (h:b≠0):(a.fmod b).natAbs<b.natAbs:=by
 rcases Int.lt_or_gt_of_ne h with hb | hb
 ·rw [Int.fmod_eq_emod]
  have h1:=wa5 a h
  have h2:=Int.emod_lt a h
  split
  ·rename_i h'
   rcases h' with h' | h'
   ·omega
   ·have:a % b=0:=Int.emod_eq_zero_of_dvd h'
    omega
  ·rename_i h'
   have:a % b≠0:=λz=>h' (.inr (Int.dvd_of_emod_eq_zero z))
   omega
 ·rw [Int.fmod_eq_emod_of_nonneg a (wbn hb)]
  have h1:=wa5 a h
  have h2:=wa9 a hb
  omega
theorem qf2 {a b s:Int} (hb:b≠0) (hs:s=if b<0 then -((Int.gcd a b:Nat):Int) else ((Int.gcd a b:Nat):Int)) :
  s≠0/\s.natAbs<=b.natAbs/\Low (a.fdiv s) (b.fdiv s)/\a.fdiv s*b=a*b.fdiv s/\(a.fdiv s).natAbs<=a.natAbs/\(b.fdiv s).natAbs<=b.natAbs:=by
 have g0:0<Int.gcd a b:=Int.gcd_pos_of_ne_zero_right a hb
 have sn:s.natAbs=Int.gcd a b:=by rw [hs];split <;> simp
 have s0:s≠0:=by intro z;rw [z] at sn;simp at sn;omega
 have da:s∣a:=by
  rw [<-Int.natAbs_dvd,sn];exact wby a b
 have db:s∣b:=by
  rw [<-Int.natAbs_dvd,sn];exact wbs a b
 obtain ⟨t,rfl⟩:=da
 obtain ⟨d,rfl⟩:=db
 rw [Int.mul_fdiv_cancel_left _ s0,Int.mul_fdiv_cancel_left _ s0]
 have d0:d≠0:=by rintro rfl;simp at hb
 have sp:1<=s.natAbs:=by omega
 have gd:Int.gcd t d=1:=by
  rw [Int.gcd_mul_left] at sn
  have h2:s.natAbs*Int.gcd t d=s.natAbs*1:=by omega
  exact Nat.eq_of_mul_eq_mul_left sp h2
 have dp:0<d:=by
  by_cases h:s*d<0
  ·rw [if_pos h] at hs
   have sneg:s<0:=by omega
   rcases Int.lt_or_gt_of_ne d0 with h' | h'
   ·have:=Int.mul_pos_of_neg_of_neg sneg h';omega
   ·exact h'
  ·rw [if_neg h] at hs
   have spos:0<s:=by omega
   rcases Int.lt_or_gt_of_ne d0 with h' | h'
   ·have:=Int.mul_neg_of_pos_of_neg spos h';omega
   ·exact h'
 have le1:∀ y:Int,y.natAbs<=(s*y).natAbs:=λy=>by
  rw [war];exact Nat.le_mul_of_pos_left _ sp
 refine ⟨s0,?_,⟨dp,gd⟩,?_,le1 t,le1 d⟩
 ·rw [war];exact Nat.le_mul_of_pos_right _ ⋯
 ·grind
theorem qe6 {a b:Int} (hb:0<b):Low (a / ((Int.gcd a b:Nat):Int)) (b / ((Int.gcd a b:Nat):Int))/\(a / ((Int.gcd a b:Nat):Int)).natAbs<=a.natAbs/\(b / ((Int.gcd a b:Nat):Int)).natAbs<=b.natAbs/\0<((Int.gcd a b:Nat):Int)/\((Int.gcd a b:Nat):Int)<=b:=by
 have g0:0<Int.gcd a b:=Int.gcd_pos_of_ne_zero_right a ⋯
 obtain ⟨_,h1,h2,h3,h4,h5⟩:=qf2 (a:=a) (b:=b) (s:=((Int.gcd a b:Nat):Int)) ⋯ (by rw [if_neg ⋯])
 rw [wbo _ ⋯,wbo _ ⋯] at h2
 rw [wbo _ ⋯] at h4 h5
 exact ⟨h2,h4,h5,⋯,⋯⟩
end Bs
namespace Bs
open PySem L2
noncomputable def qwV (_ j:Int):Prop:=0<j/\Bd 9000 j
noncomputable def qxW (_ j:Int):Prop:=j≠0/\Bd 9000 j
noncomputable def qwW (i j:Int):Prop:=0<=j/\j<=1000000/\i.natAbs<2 ^ 64
noncomputable abbrev qhC:R2:=rI0 λi j=>.int (i+j)
noncomputable abbrev qfj:R2:=rI0 λi j=>.int (i - j)
noncomputable abbrev qdL:R2:=rI IntMulOk λi j=>.int (i*j)
noncomputable abbrev qob:R2:=rI qwV λi j=>.int (i / j)
noncomputable abbrev qvI:R2:=rI qxW λi j=>.int (i.fdiv j)
noncomputable abbrev qlS:R2:=rI (λ_ j=>0<j) λi j=>.int (i % j)
noncomputable abbrev qui:R2:=rI (λ_ j=>j≠0) λi j=>.int (i.fmod j)
noncomputable abbrev qxw:R2:=rI qwW λi j=>.int (i ^ j.toNat)
noncomputable abbrev iLt:R2:=rI0 λi j=>.bl (decide (i<j))
noncomputable abbrev iLe:R2:=rI0 λi j=>.bl (decide (i<=j))
noncomputable abbrev iGt:R2:=rI0 λi j=>.bl (decide (j<i))
noncomputable abbrev iGe:R2:=rI0 λi j=>.bl (decide (j<=i))
noncomputable abbrev qew:V->Hp->VK->Prop:=rU λi=>.int (-i)
noncomputable def gT:R2:=λx y H Q=>∃ p i xs v,x=.ref p/\y=.int i/\H p=some (.tup xs)/\atI xs i=some v/\Q v H
noncomputable def gL:R2:=λx y H Q=>∃ p i xs v,x=.ref p/\y=.int i/\H p=some (.lst xs)/\atI xs i=some v/\Q v H
noncomputable def gS (K:W.Frag):R2:=λx y H Q=>∃ p i xs v,x=.ref p/\y=.int i/\SqL K H p xs/\atI xs i=some v/\Q v H
noncomputable def qvm:List V->Hp->VK->Prop:=λxs H Q=>∃ i,xs=[.int i]/\Q (.int (if i<0 then -i else i)) H
noncomputable def qtm:List V->Hp->VK->Prop:=λxs H Q=>∃ i j,xs=[.int i,.int j]/\Q (.int (if j > i then j else i)) H
noncomputable def qxx:List V->Hp->VK->Prop:=λxs H Q=>∃ i j,xs=[.int i,.int j]/\Q (.int (if j<i then j else i)) H
noncomputable def qvJ:List V->Hp->VK->Prop:=λxs H Q=>∃ k,xs=[.bl k]/\Q (.int (if k=true then 1 else 0)) H
noncomputable def qfo:List V->Hp->VK->Prop:=λxs H Q=>∃ p ys,xs=[.ref p]/\H p=some (.tup ys)/\Q (.int ys.length) H
noncomputable def qce:List V->Hp->VK->Prop:=λxs H Q=>∃ p ys,xs=[.ref p]/\H p=some (.lst ys)/\Q (.int ys.length) H
noncomputable def qvK (K:W.Frag):List V->Hp->VK->Prop:=λxs H Q=>∃ p ys,xs=[.ref p]/\SqL K H p ys/\Q (.int ys.length) H
noncomputable def qxX:Option HO->String->Option Bool
 | some (.tup _),n=>if n = "tuple" then some true else if n = "bool" \/ n = "int" \/ n = "list" then some false else none
 | some (.lst _),n=>if n = "list" then some true else if n = "bool" \/ n = "int" \/ n = "tuple" then some false else none
 | _,_=>none
noncomputable def qwN (H:Hp):V->String->Option Bool
 | .int _,n=>if n = "int" then some true else if n = "bool" \/ n = "tuple" \/ n = "list" then some false else none
 | .bl _,n=>if n = "int" \/ n = "bool" then some true else if n = "tuple" \/ n = "list" then some false else none
 | .ref p,n=>qxX (H p) n
 | _,_=>none
noncomputable def qxy:List V->Hp->VK->Prop:=λxs H Q=>∃ x n b,xs=[x,.ty n]/\qwN H x n=some b/\Q (.bl b) H
theorem qpG (H:Hp) (i:Int):qwN H (.int i) "int" = some true:=rfl
theorem qgt (H:Hp) (i:Int):qwN H (.int i) "bool" = some false:=rfl
theorem qtn (H:Hp) (b:Bool):qwN H (.bl b) "bool" = some true:=rfl
noncomputable def qxz:V->Bool
 | .int _=>true
 | _=>false
noncomputable def eqT:R2:=λx y H Q=>∃ a b xs ys,x=.ref a/\y=.ref b/\H a=some (.tup xs)/\H b=some (.tup ys)/\xs.all qxz=true/\ys.all qxz=true/\Q (.bl (decide (xs=ys))) H
noncomputable def ForR (lo:Int) (n:Nat) (g:TG) (tb:TS) (D:Ends) (σ:St) (H:Hp):Prop:=∃ W:Nat->Nat->St->Hp->Prop,(∃ m,W 0 m σ H)/\∀ i m σ H,W i m σ H->
 ((Itr lo n).stop i H/\D.nx σ H)\/((Itr lo n).go i H/\∃ N:St->Hp->Prop,(∀ σ' H',N σ' H'->∃ m',m'<m/\W (i+1) m' σ' H')/\∀ x H',(Itr lo n).yld i H x H'->g x σ H' λσ2 H2=>tb { D with nx:=N,ct:=N,bk:=D.nx } σ2 H2)
theorem qpH {ta:TA} {g:TG} {tb:TS} {D:Ends} {σ:St} {H:Hp}:qe4 (qht ta) g tb D σ H=ta σ H (λvs H1=>∃ j:Int,vs=[.int j]/\-(2 ^ 62)<=j/\j<2 ^ 62/\ForR 0 j.toNat g tb D σ H1):=rfl
theorem qpI {ta:TA} {g:TG} {tb:TS} {D:Ends} {σ:St} {H:Hp}:qe4 (qrY ta) g tb D σ H=ta σ H (λvs H1=>∃ i j:Int,vs=[.int i,.int j]/\(-(2 ^ 62)<=i/\i<2 ^ 62/\-(2 ^ 62)<=j/\j<2 ^ 62)/\ForR i (j - i).toNat g tb D σ H1):=rfl
theorem ForR.by {lo:Int} {n:Nat} {g:TG} {tb:TS} {D:Ends} {σ:St} {H:Hp} (Pv:Nat->St->Hp->Prop) (h0:Pv 0 σ H)
  (hs:∀ i σ H,i<n->Pv i σ H->g (.int (lo+i)) σ H λσ2 H2=>tb { D with nx:=Pv (i+1),ct:=Pv (i+1),bk:=D.nx } σ2 H2) (hd:∀ σ H,Pv n σ H->D.nx σ H):ForR lo n g tb D σ H:=qpg Pv h0 hs hd
noncomputable def ForT (K:W.Frag) (a:Addr) (g:TG) (tb:TS) (D:Ends) (σ:St) (H:Hp):Prop:=∃ W:Nat->Nat->St->Hp->Prop,(∃ m,W 0 m σ H)/\∀ i m σ H,W i m σ H->
 ((Itt K a).stop i H/\D.nx σ H)\/((Itt K a).go i H/\∃ N:St->Hp->Prop,(∀ σ' H',N σ' H'->∃ m',m'<m/\W (i+1) m' σ' H')/\∀ x H',(Itt K a).yld i H x H'->g x σ H' λσ2 H2=>tb { D with nx:=N,ct:=N,bk:=D.nx } σ2 H2)
noncomputable def ForL (K:W.Frag) (a:Addr) (g:TG) (tb:TS) (D:Ends) (σ:St) (H:Hp):Prop:=∃ W:Nat->Nat->St->Hp->Prop,(∃ m,W 0 m σ H)/\∀ i m σ H,W i m σ H->
 ((Itl K a).stop i H/\D.nx σ H)\/((Itl K a).go i H/\∃ N:St->Hp->Prop,(∀ σ' H',N σ' H'->∃ m',m'<m/\W (i+1) m' σ' H')/\∀ x H',(Itl K a).yld i H x H'->g x σ H' λσ2 H2=>tb { D with nx:=N,ct:=N,bk:=D.nx } σ2 H2)
theorem qto {K:W.Frag} {tl:TE} {g:TG} {tb:TS} {D:Ends} {σ:St} {H:Hp}:qe4 (qo4 K tl) g tb D σ H=tl σ H (λx H1=>∃ a,x=.ref a/\(∃ xs,SqT K H1 a xs)/\ForT K a g tb D σ H1):=rfl
theorem qtp {K:W.Frag} {tl:TE} {g:TG} {tb:TS} {D:Ends} {σ:St} {H:Hp}:qe4 (qcc K tl) g tb D σ H=tl σ H (λx H1=>∃ a,x=.ref a/\(∃ xs,SqL K H1 a xs)/\ForL K a g tb D σ H1):=rfl
theorem ForT.by {K:W.Frag} {a:Addr} {xs:List V} {g:TG} {tb:TS} {D:Ends} {σ:St} {H:Hp} (Pv:Nat->St->Hp->Prop) (h0:Pv 0 σ H) (hl:∀ i σ H,i<=xs.length->Pv i σ H->H a=some (.tup xs))
  (hs:∀ i x σ H,xs[i]?=some x->Pv i σ H->g x σ H λσ2 H2=>tb { D with nx:=Pv (i+1),ct:=Pv (i+1),bk:=D.nx } σ2 H2) (hd:∀ σ H,Pv xs.length σ H->D.nx σ H):ForT K a g tb D σ H:=
 qpf Pv h0 (λi σ H h p=>SqT.of (hl i σ H h p)) hs hd
theorem ForL.by {K:W.Frag} {a:Addr} {xs:List V} {g:TG} {tb:TS} {D:Ends} {σ:St} {H:Hp} (Pv:Nat->St->Hp->Prop) (h0:Pv 0 σ H) (hl:∀ i σ H,i<=xs.length->Pv i σ H->SqL K H a xs)
  (hs:∀ i x σ H,xs[i]?=some x->Pv i σ H->g x σ H λσ2 H2=>tb { D with nx:=Pv (i+1),ct:=Pv (i+1),bk:=D.nx } σ2 H2) (hd:∀ σ H,Pv xs.length σ H->D.nx σ H):ForL K a g tb D σ H:=
 qrZ Pv h0 hl hs hd
theorem while_by {c:TT} {tb:TS} {D:Ends} {σ:St} {H:Hp} (W:Nat->St->Hp->Prop) (m:Nat) (h0:W m σ H)
  (hs:∀ m σ H,W m σ H->c σ H λb H1=>if b=true then ∃ N:St->Hp->Prop,(∀ σ' H',N σ' H'->∃ m',m'<m/\W m' σ' H')/\tb { D with nx:=N,ct:=N,bk:=D.nx } σ H1 else D.nx σ H1):qde c tb D σ H:=⟨W,⟨m,h0⟩,hs⟩
noncomputable def Kp (p:Addr) (H H':Hp):Prop:=∀ b o,b≠p->H b=some o->H' b=some o
theorem Kp.trans {p:Addr} {H H1 H2:Hp} (a:Kp p H H1) (b:Kp p H1 H2):Kp p H H2:=λc o n h=>b c o n (a c o n h)
theorem Kp.same {p:Addr} {H H1 H2:Hp} (a:Kp p H H1) (b:Same H1 H2):Kp p H H2:=λc o n h=>b c o (a c o n h)
theorem Kp.upd {p:Addr} {H:Hp} {o:HO}:Kp p H (upd H p o):=λb u n h=>by rw [qaA n];exact h
theorem qaf {H:Hp} {p:Addr} (h:H p=none) (o:HO):Same H (upd H p o):=λb u q=>by rw [qaA (qas q h)];exact q
theorem Kp.new {p:Addr} {H H1:Hp} (a:Kp p H H1) (h:H p=none):Same H H1:=λb o q=>a b o (qas q h) q
theorem Kp.seq {K:W.Frag} {p:Addr} {H H':Hp} {a:Addr} {xs:List V} (e:Kp p H H') (n:a≠p) (h:SqL K H a xs):SqL K H' a xs:=by
 rcases h with (h | ⟨o,h⟩) | h
 ·exact .inl (.inl (e _ _ n h))
 ·exact .inl (.inr ⟨o,e _ _ n h⟩)
 ·exact .inr h
theorem sz {n:Nat} (h:n<=1000000):n<=sizeLine:=by rw [sizeLine_eq];omega
end Bs
namespace Bs
open PySem L2
theorem qna {α:Type} (a b:α):atI [a,b] 0=some a:=rfl
theorem qnb {α:Type} (a b:α):atI [a,b] 1=some b:=rfl
theorem qiU {α:Type} (a b c:α):atI [a,b,c] 0=some a:=rfl
theorem qiV {α:Type} (a b c:α):atI [a,b,c] 1=some b:=rfl
theorem qiW {α:Type} (a b c:α):atI [a,b,c] 2=some c:=rfl
theorem qpJ (a b:Int):scal (.int a) (.int b)=true:=rfl
theorem qpK (a b:Bool):scal (.bl a) (.bl b)=true:=rfl
theorem qiX:ixN 3 0=some 0:=rfl
theorem qiY:ixN 3 2=some 2:=rfl
end Bs
namespace Bs
open PySem PySem.Spec PyProof.Rows L2
theorem qpL:bootBuiltins "abs" = some (.builtin "abs"):=by decide +kernel
theorem qaZ:bootBuiltins "len" = some (.builtin "len"):=by decide +kernel
theorem qkK:bootBuiltins "max" = some (.builtin "max"):=by decide +kernel
theorem qvL:bootBuiltins "min" = some (.builtin "min"):=by decide +kernel
theorem qg5:bootBuiltins "tuple" = some (.type "tuple"):=by decide +kernel
theorem qpM:bootBuiltins "list" = some (.type "list"):=by decide +kernel
theorem qkL:bootBuiltins "enumerate" = some (.type "enumerate"):=by decide +kernel
theorem qvM:bootBuiltins "zip" = some (.type "zip"):=by decide +kernel
section
variable {X:Cx}
theorem qpN {n:Nat} {x:Int} (h:Bd n x):Builtin.Int.intBits x<=n:=by
 unfold Builtin.Int.intBits
 split
 ·exact wae _
 ·rename_i h0
  have hn:x.natAbs≠0:=λz=>h0 (by have e:x=0:=by omega
                                 subst e;rfl)
  have:=(Nat.log2_lt hn).mpr h
  omega
theorem qaP:OpR X (binaryOp .Mult) qdL:=opI λ_ _ _ _ _ _ _ hc q=>mul_int q hc
theorem qg6:OpR X (inplaceOp .Mult) qdL:=opI λ_ _ _ _ _ _ _ hc q=>imul_int q hc
theorem qsf:OpR X (binaryOp .FloorDiv) qob:=opI λi j _ _ _ _ _ hc q=>by
 refine floordiv_int (wad hc.1) ?_ (.inl (PyProof.noPylong_of_log2 (hc.2.log2 ∅)))
 rw [wbo i (wbn hc.1)]
 exact q
theorem qat:IxR X gT:=by
 intro value slice pins s σ H x y v u Q I rx ry h hs
 obtain ⟨p,i,xs,w,e1,e2,hp,ha,q⟩:=h
 exact qvB value slice pins s σ H x y v u Q I rx ry ⟨p,xs,i,w,e1,e2,SqT.of hp,ha,q⟩ hs
theorem qaL:IxR X gL:=by
 intro value slice pins s σ H x y v u Q I rx ry h hs
 obtain ⟨p,i,xs,w,e1,e2,hp,ha,q⟩:=h
 exact quc value slice pins s σ H x y v u Q I rx ry ⟨p,xs,i,w,e1,e2,SqL.of hp,ha,q⟩ hs
theorem qhD:qeK X (.builtin "abs") qvm:=qr0
theorem qd9 (hc:X.calm=true):qeK X (.builtin "max") qtm:=qpl hc
theorem qbL:qeK X (.builtin "len") qfo:=λpins s σ H xs us Q I r h=>by
 obtain ⟨p,ys,e,hp,q⟩:=h
 exact qgs pins s σ H xs us Q I r ⟨p,ys,e,.inr (SqT.of hp),q⟩
theorem qaK:qeK X (.builtin "len") qce:=λpins s σ H xs us Q I r h=>by
 obtain ⟨p,ys,e,hp,q⟩:=h
 exact qgs pins s σ H xs us Q I r ⟨p,ys,e,.inl (SqL.of hp),q⟩
end
structure Cal (P:Program) (w:World) (K:W.Frag) (mg:Str->Option Value) (base:Heap) (n:Nat) (x:Str) (ps:List Str) (sp:Sp):Prop where
 ex:∃ (f:Addr) (fd:FuncData),FnOk P w K mg base CX0 n f fd ps sp/\Binds K fd ps []/\PySem.W.keepIn K (.ref f)=true/\mg x=some (.ref f)
theorem Cal.pe {X:Cx} {n m:Nat} {x:Str} {ps:List Str} {sp:Sp} {e:Expr} {es:List Expr} {t:TA} {p pos:Pos} (C:Cal X.prog X.w X.K X.mg X.base n x ps sp) (hr:Room m X.A) (hn:n<=m) (hg:Gl X x) (ha:PA X (e::es) t)
  (hdb:(x == ("__debug__" : Str))=false:=by decide) (he:starEach (e::es) X.env=(false,eval e X.env)::starEach es X.env:=by rfl) (hpl:(backTo pos (starEach es X.env)).any (·.1)=false:=by rfl) :
  PE X (.Call (.Name x p) (e::es) [] pos) (qak sp [] E0 t):=by
 obtain ⟨f,fd,F,b,k,m⟩:=C.ex
 exact qt8 F (hr.mono hn) hg m k b .nil qwU ha hdb he hpl
end Bs
namespace Bs
open PySem L2
noncomputable def qc6 (capt:List (Option Nat)) (σ:L2.St):L2.St:=capt.map λo=>o.bind λj=>(σ[j]?).join
noncomputable def qbT (wi:TI) (capt:List (Option Nat)) (g:TG) (te:TE):TE:=λσ H Q=>wi σ H λJ H1=>∃ (n:Nat) (W:Nat->List V->Hp->Prop),W 0 [] H1/\∀ i ys H,W i ys H->i<=n/\ys.length<=sizeLine/\
 ((J.stop i H/\∀ p,H p=none->Q (.ref p) (upd H p (.lst ys)))\/(i<n/\J.go i H/\∀ x H',J.yld i H x H'->g x (qc6 capt σ) H' λσ2 H2=>te σ2 H2 λy H3=>W (i+1) (ys++[y]) H3))
noncomputable def CompJ (J:It) (capt:List (Option Nat)) (g:TG) (te:TE) (σ:L2.St) (Q:VK) (H1:Hp):Prop:=∃ (n:Nat) (W:Nat->List V->Hp->Prop),W 0 [] H1/\∀ i ys H,W i ys H->i<=n/\ys.length<=sizeLine/\
 ((J.stop i H/\∀ p,H p=none->Q (.ref p) (upd H p (.lst ys)))\/(i<n/\J.go i H/\∀ x H',J.yld i H x H'->g x (qc6 capt σ) H' λσ2 H2=>te σ2 H2 λy H3=>W (i+1) (ys++[y]) H3))
section
variable {K:W.Frag} {ta:TA} {tl:TE} {capt:List (Option Nat)} {g:TG} {te:TE} {σ:L2.St} {H:Hp} {Q:VK}
theorem qnc:qbT (qht ta) capt g te σ H Q=ta σ H (λvs H1=>∃ j:Int,vs=[.int j]/\-(2 ^ 62)<=j/\j<2 ^ 62/\CompJ (Itr 0 j.toNat) capt g te σ Q H1):=rfl
theorem qnd:qbT (qrY ta) capt g te σ H Q=ta σ H (λvs H1=>∃ i j:Int,vs=[.int i,.int j]/\(-(2 ^ 62)<=i/\i<2 ^ 62/\-(2 ^ 62)<=j/\j<2 ^ 62)/\CompJ (Itr i (j - i).toNat) capt g te σ Q H1):=rfl
theorem qpO:qbT (qo4 K tl) capt g te σ H Q=tl σ H (λx H1=>∃ a,x=.ref a/\(∃ xs,SqT K H1 a xs)/\CompJ (Itt K a) capt g te σ Q H1):=rfl
theorem qpP:qbT (qcc K tl) capt g te σ H Q=tl σ H (λx H1=>∃ a,x=.ref a/\(∃ xs,SqL K H1 a xs)/\CompJ (Itl K a) capt g te σ Q H1):=rfl
theorem CompJ.range {lo:Int} {n:Nat} (W:Nat->List V->Hp->Prop) (h0:W 0 [] H) (hb:∀ i ys H,W i ys H->i<=n/\ys.length<=sizeLine)
  (hs:∀ i ys H,i<n->W i ys H->g (.int (lo+i)) (qc6 capt σ) H λσ2 H2=>te σ2 H2 λy H3=>W (i+1) (ys++[y]) H3) (hd:∀ ys H,W n ys H->∀ p,H p=none->Q (.ref p) (upd H p (.lst ys))):CompJ (Itr lo n) capt g te σ Q H:=by
 refine ⟨n,W,h0,λi ys H w=>⟨(hb i ys H w).1,(hb i ys H w).2,?_⟩⟩
 by_cases h:i<n
 ·refine .inr ⟨h,h,λx H' y=>?_⟩
  obtain ⟨e,y⟩:=y
  subst e y
  exact hs i ys _ h w
 ·have e:i=n:=wbz (hb i ys H w).1 (Nat.not_lt.mp h)
  subst e
  exact .inl ⟨wac _,hd ys H w⟩
theorem CompJ.tup {a:Addr} {xs:List V} (W:Nat->List V->Hp->Prop) (h0:W 0 [] H) (hb:∀ i ys H,W i ys H->i<=xs.length/\ys.length<=sizeLine/\H a=some (.tup xs))
  (hs:∀ i x ys H,xs[i]?=some x->W i ys H->g x (qc6 capt σ) H λσ2 H2=>te σ2 H2 λy H3=>W (i+1) (ys++[y]) H3) (hd:∀ ys H,W xs.length ys H->∀ p,H p=none->Q (.ref p) (upd H p (.lst ys))):CompJ (Itt K a) capt g te σ Q H:=by
 refine ⟨xs.length,W,h0,λi ys H w=>⟨(hb i ys H w).1,(hb i ys H w).2.1,?_⟩⟩
 have q:SqT K H a xs:=SqT.of (hb i ys H w).2.2
 by_cases h:i<xs.length
 ·refine .inr ⟨h,⟨xs,xs[i],q,by simp [h]⟩,λx H' y=>?_⟩
  obtain ⟨e,y⟩:=y
  subst e
  exact hs i x ys _ (y xs q) w
 ·have e:i=xs.length:=wbz (hb i ys H w).1 (Nat.not_lt.mp h)
  subst e
  exact .inl ⟨⟨xs,q,wac _⟩,hd ys H w⟩
theorem CompJ.lst {a:Addr} {xs:List V} (W:Nat->List V->Hp->Prop) (h0:W 0 [] H) (hb:∀ i ys H,W i ys H->i<=xs.length/\ys.length<=sizeLine/\SqL K H a xs)
  (hs:∀ i x ys H,xs[i]?=some x->W i ys H->g x (qc6 capt σ) H λσ2 H2=>te σ2 H2 λy H3=>W (i+1) (ys++[y]) H3) (hd:∀ ys H,W xs.length ys H->∀ p,H p=none->Q (.ref p) (upd H p (.lst ys))):CompJ (Itl K a) capt g te σ Q H:=by
 refine ⟨xs.length,W,h0,λi ys H w=>⟨(hb i ys H w).1,(hb i ys H w).2.1,?_⟩⟩
 have q:SqL K H a xs:=(hb i ys H w).2.2
 by_cases h:i<xs.length
 ·refine .inr ⟨h,⟨xs,xs[i],q,by simp [h]⟩,λx H' y=>?_⟩
  obtain ⟨e,y⟩:=y
  subst e
  exact hs i x ys _ (y xs q) w
 ·have e:i=xs.length:=wbz (hb i ys H w).1 (Nat.not_lt.mp h)
  subst e
  exact .inl ⟨⟨xs,q,wac _⟩,hd ys H w⟩
end
noncomputable def qvn (K:W.Frag) (a:Addr):It:=
 ⟨λi H=>∃ xs x,SqL K H a xs/\xs[i]?=some x,λi H v H'=>∃ p x,H p=none/\v=.ref p/\H'=upd H p (.tup [.int i,x])/\∀ xs,SqL K H a xs->xs[i]?=some x,λi H=>∃ xs,SqL K H a xs/\xs.length<=i⟩
noncomputable def qxA (K:W.Frag) (a:Addr):It:=
 ⟨λi H=>∃ xs x,SqT K H a xs/\xs[i]?=some x,λi H v H'=>∃ p x,H p=none/\v=.ref p/\H'=upd H p (.tup [.int i,x])/\∀ xs,SqT K H a xs->xs[i]?=some x,λi H=>∃ xs,SqT K H a xs/\xs.length<=i⟩
noncomputable def qiZ (K:W.Frag) (ta:TA):TI:=λσ H R=>ta σ H λvs H1=>∃ a,vs=[.ref a]/\(∃ xs,SqL K H1 a xs)/\R (qvn K a) H1
noncomputable def qvN (K:W.Frag) (ta:TA):TI:=λσ H R=>ta σ H λvs H1=>∃ a,vs=[.ref a]/\(∃ xs,SqT K H1 a xs)/\R (qxA K a) H1
noncomputable def ForJ (J:It) (g:TG) (tb:TS) (D:Ends) (σ:L2.St) (H:Hp):Prop:=∃ W:Nat->Nat->L2.St->Hp->Prop,(∃ m,W 0 m σ H)/\∀ i m σ H,W i m σ H->
 (J.stop i H/\D.nx σ H)\/(J.go i H/\∃ N:L2.St->Hp->Prop,(∀ σ' H',N σ' H'->∃ m',m'<m/\W (i+1) m' σ' H')/\∀ x H',J.yld i H x H'->g x σ H' λσ2 H2=>tb { D with nx:=N,ct:=N,bk:=D.nx } σ2 H2)
section
variable {K:W.Frag} {ta:TA} {g:TG} {tb:TS} {D:Ends} {σ:L2.St} {H:Hp} {a:Addr} {xs:List V}
theorem qpQ:qe4 (qiZ K ta) g tb D σ H=ta σ H (λvs H1=>∃ a,vs=[.ref a]/\(∃ xs,SqL K H1 a xs)/\ForJ (qvn K a) g tb D σ H1):=rfl
theorem qpR:qe4 (qvN K ta) g tb D σ H=ta σ H (λvs H1=>∃ a,vs=[.ref a]/\(∃ xs,SqT K H1 a xs)/\ForJ (qxA K a) g tb D σ H1):=rfl
theorem qnf {capt:List (Option Nat)} {te:TE} {Q:VK}:qbT (qiZ K ta) capt g te σ H Q=ta σ H (λvs H1=>∃ a,vs=[.ref a]/\(∃ xs,SqL K H1 a xs)/\CompJ (qvn K a) capt g te σ Q H1):=rfl
theorem ForJ.enumL (Pv:Nat->L2.St->Hp->Prop) (h0:Pv 0 σ H) (hl:∀ i σ H,i<=xs.length->Pv i σ H->SqL K H a xs)
  (hs:∀ i x p σ H,xs[i]?=some x->Pv i σ H->H p=none->g (.ref p) σ (upd H p (.tup [.int i,x])) λσ2 H2=>tb { D with nx:=Pv (i+1),ct:=Pv (i+1),bk:=D.nx } σ2 H2) (hd:∀ σ H,Pv xs.length σ H->D.nx σ H):ForJ (qvn K a) g tb D σ H:=by
 refine ⟨λi m σ H=>m=xs.length - i/\i<=xs.length/\Pv i σ H,⟨xs.length,by simp,wae _,h0⟩,?_⟩
 rintro i m σ H ⟨rfl,hi,pv⟩
 have q:=hl i σ H hi pv
 by_cases lt:i<xs.length
 ·refine .inr ⟨⟨xs,xs[i],q,by simp [lt]⟩,Pv (i+1),λσ' H' p'=>⟨xs.length - (i+1),⋯,rfl,lt,p'⟩,λx H' y=>?_⟩
  obtain ⟨p,x',hp,rfl,rfl,y⟩:=y
  exact hs i x' p σ _ (y xs q) pv hp
 ·have e:i=xs.length:=by omega
  subst e
  exact .inl ⟨⟨xs,q,wac _⟩,hd σ H pv⟩
end
end Bs
namespace Bs
open PySem PySem.Spec PyProof.Rows L2
noncomputable def blk (X:Cx) (N:List Str) (scope:Scope) (cl:List (Str×Addr)) (C:Addr) (s:Shared) (H:Hp) (fp:List Addr):Cx:=
 { X with N:=N,s₀:=s,H₀:=H,env:=compEnvC scope cl C X.env,outer:=X.stack,stack:=X.stack,ex:=fp,fn:=λ_=>false,pn:=[],xe:=λ_ _=>False }
structure BlkOk (X:Cx) (N:List Str) (capt:List (Option Nat)) (scope:Scope) (cl:List (Str×Addr)):Prop where
 kind:scope.kind=.function
 clos:closureFor scope X.env=pure cl
 nocell:∀ y∈scope.names,y.2≠.cell
 names:∀ y∈scope.names,y.2=.local->scope.names.lookup y.1=some .local
 cells:∀ y c,cl.lookup y=some c->X.env.cells.lookup y=some c
 has:∀ y,((relabel scope X.env).names.lookup y=some .cell\/(relabel scope X.env).names.lookup y=some .free)->∃ c,cl.lookup y=some c
 cap:∀ (i:Nat) (x:Str) (j:Nat),N[i]?=some x->capt[i]?=some (some j)->X.N[j]?=some x/\Vis X.env.scope x/\X.env.kindOf x≠some .local/\((relabel scope X.env).names.lookup x=some .cell\/(relabel scope X.env).names.lookup x=some .free)
 len:capt.length=N.length
section
variable {X:Cx} {pins:List (Addr×Obj)} {σ:L2.St} {H:Hp} {s:Shared} {N:List Str} {capt:List (Option Nat)} {scope:Scope} {cl:List (Str×Addr)} {C:Addr} {fp:List Addr}
theorem qpS (B:BlkOk X N capt scope cl) (I:Inv X pins σ H s) (fo:∀ b∈fp,qlV X pins H b) (fl:∀ b∈fp,b<s.heap.objs.size) (hC:s.heap.objs.size<=C):(blk X N scope cl C s H fp).Ok where
 mod:=I.ok.mod
 kind:=B.kind
 glob:=I.ok.glob
 blt:=I.ok.blt
 above:=hC
 inj:=λx y c h1 h2=>I.ok.inj x y c (B.cells x c h1) (B.cells y c h2)
 has:=λx h=>B.has x h
 cab:=λ_ _ h=>nomatch h
 hd:=I.ok.hd
 frames:=I.ok.frames
 stk:=.inl rfl
 exf:=λb hb=>⟨λe=>absurd (wav (fl b hb) hC) (by rw [show b=C from e];exact wbb _),λx c e=>(fo b hb).2.2.2.2.1 x c (B.cells x c e)⟩
 bs:=I.bs
 bsz:=wak I.ok.bsz I.sz
 noex:=λb o e hb=>by
  rcases (fo b hb).2.2.2.1 with z | z
  ·exact I.ok.noex b o e z
  ·exact absurd (wav (Heap.lt_size e) (wak I.ok.bsz z)) (wbb _)
 exfs:=λb hb hf=>by
  rcases wau.mp (I.stkSub b hf) with z | z
  ·exact (fo b hb).2.1 z
  ·exact (fo b hb).2.2.1 z
 funs:=I.stack
 frf:=I.stkFree
 seer:=I.ok.seer
 tree:=I.ok.tree
 plr:=I.ok.plr
theorem qpT (B:BlkOk X N capt scope cl) (I:Inv X pins σ H s) (fo:∀ b∈fp,qlV X pins H b) (fl:∀ b∈fp,b<s.heap.objs.size) (hC:s.heap.objs.size<=C) {h1:Heap} {m:Str->Option Value} {tk:Nat}
  (hn:h1.Ns C m) (hk:∀ b o,s.heap.get? b=some o->h1.get? b=some o):Inv (blk X N scope cl C s H fp) [] (qc6 capt σ) H { s with heap:=h1,toks:=tk } where
 ok:=qpS B I fo fl hC
 os:=rfl
 bare:=I.bare
 base:=Un.kept hk
 loc:=by
  refine ⟨m,hn,λi x v e1 e2 e3=>?_⟩
  have e2':(capt.map λo=>o.bind λj=>(σ[j]?).join)[i]?=some (some v):=e2
  rw [waf] at e2'
  cases ec:capt[i]? with
  | none=>rw [ec] at e2';cases e2'
  | some o=>
    rw [ec] at e2'
    cases o with
    | none=>cases e2'
    | some j=>
      have e4:(σ[j]?).join=some v:=Option.some.inj e2'
      obtain ⟨c1,c2,c3,c4⟩:=B.cap i x j e1 ec
      have e5:σ[j]?=some (some v):=by
       cases q:σ[j]? with
       | none=>rw [q] at e4;cases e4
       | some w=>rw [q] at e4;exact congrArg some e4
      obtain ⟨m',_,hl⟩:=I.loc
      obtain ⟨u,r,l⟩:=hl j x v c1 e5 c2
      refine ⟨u,r,.inr ⟨c4,?_⟩⟩
      rcases l with ⟨l,_⟩ | ⟨_,c,lc,ic⟩
      ·exact absurd l c3
      ·obtain ⟨c',hc'⟩:=B.has x c4
       have:=B.cells x c' hc'
       rw [lc] at this
       cases this
       obtain ⟨o,ho,hd⟩:=ic
       exact ⟨c,hc',o,hk c o ho,hd⟩
 cell:=λx c e=>by
  obtain ⟨v,o,ho,hd⟩:=I.cell x c (B.cells x c e)
  exact ⟨v,o,hk c o ho,hd⟩
 free:=I.hok.fresh hC
 freeC:=λx c e=>I.freeC x c (B.cells x c e)
 pin:=λp hp=>nomatch hp
 hok:=I.hok.kept hk
 len:=by show (capt.map _).length=N.length;rw [waa];exact B.len
theorem qhE {σ6:L2.St} {H7:Hp} {s7:Shared} {pins':List (Addr×Obj)} (B:BlkOk X N capt scope cl) (I:Inv X pins σ H s) (fo:∀ b∈fp,qlV X pins H b) (I7:Inv (blk X N scope cl C s H fp) pins' σ6 H7 s7):Inv (blk X N scope cl C s H fp) pins' (qc6 capt σ) H7 s7:=
 ⟨I7.ok,I7.os,I7.bare,I7.base,by
  obtain ⟨m,hn,_⟩:=I7.loc
  refine ⟨m,hn,λi x v e1 e2 e3=>?_⟩
  have e2':(capt.map λo=>o.bind λj=>(σ[j]?).join)[i]?=some (some v):=e2
  rw [waf] at e2'
  cases ec:capt[i]? with
  | none=>rw [ec] at e2';cases e2'
  | some o=>
    rw [ec] at e2'
    cases o with
    | none=>cases e2'
    | some j=>
      have e4:(σ[j]?).join=some v:=Option.some.inj e2'
      obtain ⟨c1,c2,c3,c4⟩:=B.cap i x j e1 ec
      have e5:σ[j]?=some (some v):=by
       cases q:σ[j]? with
       | none=>rw [q] at e4;cases e4
       | some w=>rw [q] at e4;exact congrArg some e4
      obtain ⟨m',_,hl⟩:=I.loc
      obtain ⟨u,r,l⟩:=hl j x v c1 e5 c2
      refine ⟨u,r,.inr ⟨c4,?_⟩⟩
      rcases l with ⟨l,_⟩ | ⟨_,c,lc,ic⟩
      ·exact absurd l c3
      ·obtain ⟨c',hc'⟩:=B.has x c4
       have:=B.cells x c' hc'
       rw [lc] at this
       cases this
       obtain ⟨o,ho,hd⟩:=ic
       obtain ⟨sl,hk⟩:=I7.base.any ho (I.freeC x c lc) λhb=>(fo c hb).2.2.2.2.1 x c lc rfl
       exact ⟨c,hc',_,hk,hd⟩,I7.cell,I7.free,I7.freeC,I7.pin,I7.hok,by show (capt.map _).length=N.length;rw [waa];exact B.len⟩
theorem qex {κ β:Type} [BEq κ] [LawfulBEq κ]:∀ {l:List (κ×β)} {y:κ} {c:β},l.lookup y=some c->(y,c)∈l
 | (k,v)::l,y,c,h=>by
   rw [List.lookup_cons] at h
   cases e:y == k with
   | true=>
     rw [e] at h
     cases h
     rw [eq_of_beq e]
     exact wbh ..
   | false=>
     rw [e] at h
     exact wbi _ (qex h)
theorem BlkOk.of (k:scope.kind=.function) (c:closureFor scope X.env=pure cl) (n1:(scope.names.all λy=>y.2 != .cell)=true) (n2:(scope.names.all λy=>y.2 != .local || scope.names.lookup y.1 == some .local)=true)
  (cs:∀ pr∈cl,X.env.cells.lookup pr.1=some pr.2) (hs:((relabel scope X.env).names.all λpr=>(pr.2 != .cell && pr.2 != .free) || (cl.lookup pr.1).isSome)=true)
  (cp:((List.range N.length).all λi=>match N[i]?,capt[i]? with
   | some x,some (some j)=>X.N[j]? == some x && (X.env.scope.names.lookup x == some .cell || X.env.scope.names.lookup x == some .free) && ((relabel scope X.env).names.lookup x == some .cell || (relabel scope X.env).names.lookup x == some .free)
   | _,_=>true)=true) (ln:capt.length=N.length):BlkOk X N capt scope cl where
 kind:=k
 clos:=c
 nocell:=λy hy e=>by
  have z:=List.all_eq_true.mp n1 y hy
  rw [e] at z
  exact absurd z ∅
 names:=λy hy e=>by
  have z:=List.all_eq_true.mp n2 y hy
  rw [e] at z
  simpa using z
 cells:=λy c h=>cs (y,c) (qex h)
 has:=λy h=>by
  have m:∃ kd,(y,kd)∈(relabel scope X.env).names/\(kd=.cell\/kd=.free):=by
   rcases h with h | h
   ·exact ⟨_,qex h,.inl rfl⟩
   ·exact ⟨_,qex h,.inr rfl⟩
  obtain ⟨kd,m,e⟩:=m
  have z:=List.all_eq_true.mp hs _ m
  have z2:(cl.lookup y).isSome=true:=by
   rcases e with rfl | rfl
   ·simpa using z
   ·simpa using z
  exact Option.isSome_iff_exists.mp z2
 cap:=λi x j e1 e2=>by
  have li:i<N.length:=(wap.mp e1).1
  have z:=List.all_eq_true.mp cp i (List.mem_range.mpr li)
  rw [e1,e2] at z
  simp only [Bool.and_eq_true,Bool.or_eq_true,beq_iff_eq] at z
  obtain ⟨⟨z1,z2⟩,z3⟩:=z
  refine ⟨z1,.inr z2,λq=>?_,z3⟩
  have q':X.env.scope.names.lookup x=some .local:=q
  rcases z2 with z2 | z2 <;> (rw [z2] at q';cases q')
 len:=ln
theorem ql6 {prog:Program} {w:World} {A:Around} {R:Result->Shared->Prop} {s:Shared} {elt target iter:Expr} {scope:Scope} {pos:Pos} {it acc:Value} {env:Env} (I:Nat->Shared->Prop)
  (turn:∀ n s,I n s->wpAny (model prog w) A (pyNext it) (λr s₁=>match r with
   | none=>R (.ok .next) s₁
   | some v=>wpAny (model prog w) A (letOwnedTupleGo target it v) (λ_ s₂=>wpAny (model prog w) A (assign target env v) (λ_ s₃=>wpAny (model prog w) A (eval elt env) (λx s₄=>
     wpAny (model prog w) A (call (.builtin "list.append") [acc,x]) (λ_ s₅=>∃ m,m<n/\I m s₅) (λ_ _=>False) s₄) (λ_ _=>False) s₃) (λ_ _=>False) s₂) (λ_ _=>False) s₁) (λ_ _=>False) s)
  (n:Nat) (h:I n s):codeAny (model prog w) A (.compLoop (.ListComp elt [⟨target,iter,[],0⟩] scope pos) 0 it acc env) R s:=by
 refine codeAny_loop rfl I (λn s hI=>?_) n h
 show wpAny _ A ((compTurn (.ListComp elt [⟨target,iter,[],0⟩] scope pos) 0 it acc env).onRaise (λx=>do noteFrame x env;theTreesLotGoes x)) _ _ s
 refine wpAny_noted ?_
 rw [compTurn_list]
 have no:∀ {E':Value->Shared->Prop} (e:Value) (s':Shared),(λ(_:Value) (_:Shared)=>False) e s'->E' e s':=λ_ _ f=>f.elim
 refine wpAny_bind (wpAny_standAt (wpAny_bind (wpAny_mono (turn n s hI) (λr s₁ h₁=>?_) no)))
 cases r with
 | none=>exact wpAny_pure h₁
 | some v=>
   refine wpAny_bind (wpAny_mono h₁ (λ_ s₂ h₂=>?_) no)
   refine wpAny_bind (wpAny_mono h₂ (λ_ s₃ h₃=>wpAny_bind (wpAny_tests_nil ?_)) no)
   exact wpAny_bind (wpAny_bind (wpAny_mono h₃ (λx s₄ h₄=>wpAny_bind (wpAny_mono h₄ (λ_ s₅ h₅=>wpAny_pure (wpAny_pure ⟨rfl,h₅⟩)) no)) no))
theorem qkM {elt iter tg:Expr} {pos:Pos} {wi:TI} {g:TG} {te:TE} {pins:List (Addr×Obj)} {s:Shared} {σ:L2.St} {H:Hp} {Q:VK} (RR:Value->Addr->Result->Shared->Prop) (hc:X.calm=true) (B:BlkOk X N capt scope cl) (hi:PI X tg iter wi)
  (hg:∀ C s H fp,PG (blk X N scope cl C s H fp) tg g) (he:∀ C s H fp,PE (blk X N scope cl C s H fp) elt te) (I:Inv X pins σ H s) (h:qbT wi capt g te σ H Q)
  (fin:∀ (D C:Addr) (s4:Shared) (Hq:Hp) (m:Str->Option Value),Inv X pins σ Hq s4->Q (.ref D) Hq->s4.heap.Ns C m->Hq C=none->C≠X.env.locals->X.s₀.heap.objs.size<=C->(∀ x c,X.env.cells.lookup x=some c->c≠C)->(∀ p∈X.pn++pins,p.1≠C)->RR (.ref D) C (.ok .next) s4) :
  wpAny (model X.prog X.w) X.A (eval iter X.env) (λx s₁=>wpAny (model X.prog X.w) X.A (pyIter x) (λit s₂=>wpAny (model X.prog X.w) X.A (newList []) (λacc s₃=>
   wpAny (model X.prog X.w) X.A (newFunctionEnv scope X.env.globals cl [] X.env.qual none .none (some X.env)) (λcenv s₄=>
    codeAny (model X.prog X.w) X.A (.compStart (.ListComp elt [⟨tg,iter,[],0⟩] scope pos) 0 it acc { cenv with scope:=relabel scope X.env }) (RR acc cenv.locals) s₄) X.xe s₃) X.xe s₂) X.xe s₁) X.xe s:=by
 refine thn (hi pins s σ H _ I h) λv s1 h1=>thn h1 λitv s2 h2=>?_
 obtain ⟨it,fp,tn,J,H2,e,I2,T,st2,f2,n0,W,w0,turn⟩:=h2
 subst e
 have fl:∀ b∈fp,b<s2.heap.objs.size:=λb hb=>by obtain ⟨o,e,_⟩:=T.obj _ _ st2 b hb;exact Heap.lt_size e
 refine wpAny_newObj_type (wpAny_newFunctionEnv B.nocell (by intro y hy;simp at hy) (λh₁ hns₁ hsb₁=>?_) B.kind)
 dsimp only at hns₁ hsb₁ ⊢
 generalize hG:s2.heap.push { cls:=.type "list", dict:=none,data:=.seq ([]:List Value).toArray }=G at hns₁ hsb₁ ⊢
 have hC:G.objs.size=s2.heap.objs.size+1:=by rw [<-hG,Heap.size_push]
 have hCle:s2.heap.objs.size<=G.objs.size:=by rw [hC];exact Nat.le_succ _
 have hDC:s2.heap.objs.size≠G.objs.size:=by rw [hC];exact wat (wbq _)
 have old:∀ b o,s2.heap.get? b=some o->h₁.get? b=some o:=λb o e=>hsb₁.extBut b o (by rw [hC];exact wat (Nat.lt_succ_of_lt (Heap.lt_size e))) (Heap.get?_push_of_some _ (hG ▸ Heap.get?_push_of_some _ e))
 have hacc:h₁.get? s2.heap.objs.size=some { cls:=.type "list", data:=.seq ([]:List Value).toArray }:=hsb₁.extBut _ _ hDC (Heap.get?_push_of_some _ (hG ▸ Heap.get?_push_size _ rfl))
 have ok':=qpS B I2 f2 fl hCle
 have nsD:s2.heap.objs.size∉frs X.stack:=λhb=>by
  rcases wau.mp (I2.stkSub _ hb) with z | z
  ·exact absurd I2.lt (by rw [<-z];exact wbb _)
  ·exact I2.nofs (wac _) z
 have ncD:∀ x c,cl.lookup x=some c->c≠s2.heap.objs.size:=λx c e z=>by
  obtain ⟨v,q⟩:=I2.cell x c (B.cells x c e)
  exact absurd q.lt (by rw [z];exact wbb _)
 have nfD:∀ b∈fp,s2.heap.objs.size≠b:=λb hb z=>absurd (fl b hb) (by rw [<-z];exact wbb _)
 have I₁:Inv (blk X N scope cl G.objs.size s2 H2 fp) [] (qc6 capt σ) H2 { s2 with heap:=h₁,toks:=s2.toks+([]:List (Str×Value)).length }:=qpT B I2 f2 fl hCle hns₁ old
 have loop:codeAny (model X.prog X.w) X.A (.compLoop (.ListComp elt [⟨tg,iter,[],0⟩] scope pos) 0 (.ref it) (.ref s2.heap.objs.size) (compEnvC scope cl G.objs.size X.env))
   (RR (.ref s2.heap.objs.size) G.objs.size) { s2 with heap:=h₁,toks:=s2.toks+([]:List (Str×Value)).length }:=by
  refine ql6 (λn s'=>∃ (i:Nat) (ys:List V) (its:List Value) (k:Nat) (Hc:Hp),Inv (blk X N scope cl G.objs.size s2 H2 fp) [] (qc6 capt σ) Hc s'/\s'.heap.get? s2.heap.objs.size=some { cls:=.type "list", data:=.seq its.toArray k }/\Vals ys its/\
   Hc s2.heap.objs.size=none/\tn i s'.heap/\(∀ b∈fp,Hc b=none)/\W i ys Hc/\n=n0 - i) ?_ n0 ⟨0,[],[],0,H2,I₁,hacc,.nil,I2.hok.fresh (wac _),T.keep _ _ _ st2 (λb _ o e=>old b o e),λb hb=>(f2 b hb).1,w0,rfl⟩
  rintro n s3 ⟨i,ys,its,k,Hc,I3,hD,hv,nD,st3,fr3,w3,en⟩
  obtain ⟨_,hl,step⟩:=turn i ys Hc w3
  have hz:its.toArray.size<=sizeLine:=by rw [wam,<-hv.length];exact hl
  have I3p:Inv (blk X N scope cl G.objs.size s2 H2 fp) [(s2.heap.objs.size,{ cls:=.type "list", data:=.seq its.toArray k })] (qc6 capt σ) Hc s3:=I3.pins_of λp hp=>by
   rw [wag] at hp
   subst hp
   exact ⟨hD,nD,hDC,nsD,λv z=>nomatch z⟩
  have fo3:∀ {Hx:Hp} (_:∀ b∈fp,Hx b=none),∀ b∈fp,qlV (blk X N scope cl G.objs.size s2 H2 fp) [(s2.heap.objs.size,{ cls:=.type "list", data:=.seq its.toArray k })] Hx b:=λhx b hb=>
   ⟨hx b hb,(ok'.exf b hb).1,ok'.exfs b hb,.inl hb,(ok'.exf b hb).2,λp hp=>by
    have hp':p∈[((s2.heap.objs.size,{ cls:=.type "list", data:=.seq its.toArray k }):Addr×Obj)]:=hp
    rw [wag] at hp'
    subst hp'
    exact nfD b hb⟩
  rcases step with ⟨stop,q⟩ | ⟨ltn,go,nxt⟩
  ·refine thn (T.done (blk X N scope cl G.objs.size s2 H2 fp) rfl rfl rfl hc i _ s3 _ Hc _ I3p (fo3 fr3) st3 stop) λr s4 ⟨hr,I4⟩=>?_
   subst hr
   have hD4:=(I4.pin (s2.heap.objs.size,{ cls:=.type "list", data:=.seq its.toArray k }) (wa8 _ (wag.mpr rfl))).1
   obtain ⟨m,hn,_⟩:=I4.loc
   have nDt:∀ b u,Hc b=some u->b≠s2.heap.objs.size:=λb u e z=>by rw [z,nD] at e;cases e
   have oldC:∀ b o,s2.heap.get? b=some o->b≠s2.heap.objs.size:=λb o e=>wat (Heap.lt_size e)
   have ub:Un (frs X.stack) fp H2 Hc s2.heap s4.heap:=I4.base
   have cC:∀ b,b<s2.heap.objs.size->b≠G.objs.size:=λb hb z=>absurd (wav hb hCle) (by rw [z];exact wbb _)
   refine fin _ G.objs.size s4 (upd Hc s2.heap.objs.size (.lst ys)) m ?_ (q _ nD) hn (by rw [qaA (λz=>hDC z.symm)];exact I4.free) (λz=>cC _ I2.lt z.symm) (wak I2.sz hCle)
    (λx c e=>by obtain ⟨v,q⟩:=I2.cell x c e;exact cC _ q.lt) λp hp=>cC _ (Heap.lt_size (I2.pin p hp).1)
   refine I2.call' (ch:=fp) (s':=s4) I4.os ?_ ?_ I4.bare λb hb=>⟨(f2 b hb).2.2.2.1,(f2 b hb).2.1,(f2 b hb).2.2.2.2.1,(f2 b hb).2.2.2.2.2⟩
   ·refine ⟨ub.keep,ub.slot,λb o e n hx=>?_,ub.there,λb xs e=>?_,λb o u e=>?_,λb ps e=>?_⟩
    ·rw [qaA (oldC b o e)];exact ub.free b o e n hx
    ·have z:=ub.tups b xs e
     rw [qaA (nDt b _ z)];exact z
    ·have z:=ub.frzs b o u e
     rw [qaA (nDt b _ z)];exact z
    ·obtain ⟨more,z⟩:=ub.tbls b ps e
     exact ⟨more,by rw [qaA (nDt b _ z)];exact z⟩
   ·intro b u e
    by_cases hb:b=s2.heap.objs.size
    ·subst hb
     rw [upd_same] at e
     cases e
     exact ⟨hl,its,k,hv,hD4⟩
    ·rw [qaA hb] at e
     exact (I4.hok b u e).stay (λc v _ q=>q) (λc q=>by rw [qaA (nDt c _ q)];exact q) λc xs q=>by rw [qaA (nDt c _ q)];exact q
  ·refine thn (T.item (blk X N scope cl G.objs.size s2 H2 fp) rfl rfl rfl hc i _ s3 _ Hc _ I3p (fo3 fr3) st3 go) λr s4 ⟨u,hr,h4⟩=>?_
   subst hr
   refine thn h4 λ_ s5 ⟨x,H5,I5,r5,y5,st5,fr5⟩=>?_
   have I5':=I5.pinned (fo3 fr5) (T.obj _ _ st5)
   refine thn (hg _ _ _ _ _ s5 _ H5 x u _ I5' r5 (nxt x H5 y5)) λ_ s6 ⟨σ6,H6,I6,q6⟩=>?_
   refine thn (he _ _ _ _ _ s6 σ6 H6 _ I6 q6) λuy s7 ⟨y,H7,I7,r7,w7⟩=>?_
   have pD:=I7.pin (s2.heap.objs.size,{ cls:=.type "list", data:=.seq its.toArray k }) (wa8 _ (List.mem_append_left _ (wag.mpr rfl)))
   have pF:∀ b∈fp,∀ o,s5.heap.get? b=some o->s7.heap.get? b=some o/\H7 b=none:=λb hb o e=>by
    have z:=I7.pin (b,o) (wa8 _ (wa8 _ (qdw hb e)))
    exact ⟨z.1,z.2.1⟩
   refine append_at (hsz:=hz) pD.1 λh8 sb8 hD8=>?_
   have I7n:Inv (blk X N scope cl G.objs.size s2 H2 fp) [] σ6 H7 s7:=I7.pins_of λp hp=>nomatch hp
   have I8:Inv (blk X N scope cl G.objs.size s2 H2 fp) [] σ6 H7 { s7 with heap:=h8,toks:=s7.toks }:=I7n.turned (λb o hb e=>sb8.extBut b o hb e) pD.2.1 hDC (.inr (wac _)) ncD (λp hp=>nomatch hp)
   refine ⟨n0 - (i+1),⋯,i+1,ys++[y],its++[uy],k+1,H7,qhE B I2 f2 I8,?_,Paired.snoc hv r7,pD.2.1,T.keep _ _ _ st5 (λb hb o e=>sb8.extBut b o (nfD b hb).symm (pF b hb o e).1),λb hb=>?_,w7,rfl⟩
   ·show h8.get? _=_
    rw [hD8,List.push_toArray]
   ·obtain ⟨o,e,_⟩:=T.obj _ _ st5 b hb
    exact (pF b hb o e).2
 exact codeAny_compStart_list loop (T.self X.A 0 _ _ _ (T.keep _ _ _ st2 (λb _ o e=>old b o e)) loop)
theorem qbZ {elt iter tg:Expr} {pos:Pos} {wi:TI} {g:TG} {te:TE} (hc:X.calm=true) (B:BlkOk X N capt scope cl) (hi:PI X tg iter wi)
  (hg:∀ C s H fp,PG (blk X N scope cl C s H fp) tg g) (he:∀ C s H fp,PE (blk X N scope cl C s H fp) elt te)
  (hs:∀ x,foldedSetIterable iter X.env x=pure x:=by intro _;rfl):PE X (.ListComp elt [⟨tg,iter,[],0⟩] scope pos) (qbT wi capt g te):=by
 intro pins s σ H Q I h
 rw [eval_ListComp]
 refine wpAny_comprehension_free (use:=none) rfl hs B.clos B.kind B.names (qkM (λacc C=>compPost (model X.prog X.w) X.A X.xe none (EP X pins σ Q) acc C) hc B hi hg he I h λD C s4 Hq m I4 q hn hf h1 h2 h3 h4=>?_)
 exact ⟨m,hn,λh' sb=>⟨.ref D,Hq,I4.turned (λb o hb e=>sb.extBut b o hb e) hf h1 (.inr h2) h3 h4,rfl,q⟩⟩
theorem qf3 {i:Nat} {x:Str} {pos' spos:Pos} {elt iter tg:Expr} {pos:Pos} {wi:TI} {g:TG} {te:TE} (hN:X.N.Nodup) (hi':X.N[i]?=some x) (hx:Loc X.env.scope x) (hc:X.calm=true) (B:BlkOk X N capt scope cl) (hi:PI X tg iter wi)
  (hg:∀ C s H fp,PG (blk X N scope cl C s H fp) tg g) (he:∀ C s H fp,PE (blk X N scope cl C s H fp) elt te)
  (hsw:swapsWith (.ListComp elt [⟨tg,iter,[],0⟩] scope pos) (some (.Name x pos')) spos.line X.env=pure true:=by rfl)
  (hs:∀ x,foldedSetIterable iter X.env x=pure x:=by intro _;rfl) (hf:X.fn x=true\/X.env.scope.names.lookup x=some .local:=by first | exact .inl rfl | exact .inr rfl | assumption) :
  PS X (.Assign [.Name x pos'] (.ListComp elt [⟨tg,iter,[],0⟩] scope pos) spos) (qaM (qbT wi capt g te) (qai i)):=by
 intro pins s σ H D I h
 rw [exec_Assign_Name_used _ _ _ _ hsw]
 refine wpAny_bind (wpAny_standAt (wpAny_bind ?_))
 show wpAny _ X.A (do let _ <-comprehension (.ListComp elt [⟨tg,iter,[],0⟩] scope pos) scope X.env _ (newList []) false (eval iter X.env) (some (assign (.Name x pos') X.env))) _ _ s
 refine wpAny_bind (wpAny_mono (wpAny_comprehension_free (use:=some (assign (.Name x pos') X.env)) (Q:=λ_ s'=>SP X pins D .next s') rfl hs B.clos B.kind B.names
  (qkM (λacc C=>compPost (model X.prog X.w) X.A X.xe (some (assign (.Name x pos') X.env)) (λ_ s'=>SP X pins D .next s') acc C) hc B hi hg he I h λDa C s4 Hq m I4 q hn hfr h1 h2 h3 h4=>?_)) (λ_ s' hq=>wpAny_pure (wpAny_pure hq)) λ_ _ e=>e)
 show wpAny _ X.A (assign (.Name x pos') X.env (.ref Da)) _ _ _
 refine wpAny_assign_Name (qhp I4 hN hi' hx (v:=.ref Da) rfl (λs5 I5 ⟨a,sb5,ha⟩=>⟨m,hn.sameBut sb5 ?_,λh' sb=>⟨_,_,I5.turned (λb o hb e=>sb.extBut b o hb e) hfr h1 (.inr h2) h3 h4,q⟩⟩) hf)
 rcases ha with z | z
 ·rw [z];exact h1
 ·exact λe=>h3 x a z e.symm
end
end Bs
namespace Bs
open PySem PySem.Spec PyProof.Rows L2
open PySem.AutoSeq1 (wpAny_loadPart')
section
variable {prog:Program} {w:World} {A:Around} {E:Value->Shared->Prop} {s:Shared} {e it t:Addr} {i:Nat} {zs:Array Value}
end
section
variable {X:Cx} {pins:List (Addr×Obj)} {σ:L2.St} {H:Hp} {s:Shared}
theorem qsg {e it:Addr} {g:Heap} {tk:Nat} {xs:List V} {its:List Value} (I:Inv X pins σ H s) (fe:qlV X pins H e) (fi:qlV X pins H it) (k:∀ b o,b≠e->b≠it->s.heap.get? b=some o->g.get? b=some o)
  (hz:xs.length<=sizeLine) (rv:Vals xs its) (ht:g.get? s.heap.objs.size=some { cls:=.type "tuple", data:=.seq its.toArray }):Inv X pins σ (upd H s.heap.objs.size (.tup xs)) { s with heap:=g,toks:=tk }:=by
 have nT:H s.heap.objs.size=none:=I.hok.fresh (wac _)
 have old:∀ b o,s.heap.get? b=some o->b≠s.heap.objs.size:=λb o q=>wat (Heap.lt_size q)
 have tr:∀ b u,H b=some u->b≠s.heap.objs.size/\b≠e/\b≠it:=λb u q=>⟨qas q nT,qas q fe.1,qas q fi.1⟩
 have off:∀ b,b∉[e,it]->b≠e/\b≠it:=λb hb=>⟨λz=>hb (by simp [z]),λz=>hb (by simp [z])⟩
 refine I.step (g':=s.gens) (d':=s.drawn) (ch:=[e,it]) (λb hb=>?_) (λb o _ _ hc q _=>k b o (off b hc).1 (off b hc).2 q) (λb o _ _ hc q _=>⟨o.slots,k b o (off b hc).1 (off b hc).2 q⟩) (λb o _ q n=>?_) (λb o hc q=>⟨o,k b o (off b hc).1 (off b hc).2 q⟩)
  (λb ys q=>?_) (λb o u q=>?_) (λb ps q=>⟨#[],?_⟩) (λm hm=>?_) (λb u q=>?_) I.bare
 ·have z:b=e\/b=it:=by simpa using hb
  rcases z with rfl | rfl
  ·exact ⟨fe.2.2.2.1,fe.2.1,fe.2.2.2.2.1,fe.2.2.2.2.2⟩
  ·exact ⟨fi.2.2.2.1,fi.2.1,fi.2.2.2.2.1,fi.2.2.2.2.2⟩
 ·rw [qaA (old b o q)];exact n
 ·rw [qaA (tr b _ q).1];exact q
 ·rw [qaA (tr b _ q).1];exact q
 ·rw [qaA (tr b _ q).1,q];simp
 ·obtain ⟨o,es,ep,ho,hr⟩:=hm
  exact ⟨o,es,ep,k _ o fe.2.1.symm fi.2.1.symm ho,hr⟩
 ·by_cases hb:b=s.heap.objs.size
  ·subst hb
   rw [upd_same] at q
   cases q
   exact ⟨hz,its,rv,⟨_,ht,rfl,_,rfl⟩⟩
  ·rw [qaA hb] at q
   refine (I.hok b u q).stay (λc v hc z=>?_) (λc z=>by rw [qaA (tr c _ z).1];exact z) λc ys z=>by rw [qaA (tr c _ z).1];exact z
   rcases hc with y | y
   ·subst y;exact k _ v (tr _ u q).2.1 (tr _ u q).2.2 z
   ·exact k c v (tr c _ y).2.1 (tr c _ y).2.2 z
end
theorem qoc {P:Program} {w:World} {K:W.Frag} {elts:List Expr} {k:Nat} {pos:Pos} (a e it:Addr) (ne:e≠it):Turn P w K (.Tuple elts k pos) (qvn K a) [e,it] e (λi h=>(∃ old,IsEnum h e it i old)/\h.IsListIter it a i) where
 mem:=by simp
 obj:=λi h st b hb=>by
  obtain ⟨⟨old,se⟩,o,ho,c,d⟩:=st
  have z:b=e\/b=it:=by simpa using hb
  rcases z with rfl | rfl
  ·exact ⟨_,se,λv z=>nomatch z⟩
  ·exact ⟨o,ho,λv z=>by rw [d] at z;cases z⟩
 keep:=λi h h' st kk=>⟨let ⟨old,se⟩:=st.1;⟨old,kk e (by simp) _ se⟩,st.2.at λo q=>kk it (by simp) o q⟩
 item:=by
  intro X hP hw hK hc i pins s σ H E I hf st hg
  subst hP hw hK
  obtain ⟨xs,x,hq,hx⟩:=hg
  obtain ⟨⟨old,se⟩,si⟩:=st
  obtain ⟨its,rv,p,hz⟩:=I.list hq
  obtain ⟨u,hu,ru⟩:=rv.get hx
  refine wpAny_pyNext_enum_item se si p.isList (x:=u) (by simpa using hu) ne λg eo gi gt _ gk=>?_
  refine ⟨_,rfl,wpAny_letOwnedTupleGo_enum eo λg' se' sb=>?_⟩
  have I1:=qsg (g:=g') (tk:=s.toks+1) (xs:=[.int i,x]) (its:=[.int i s.toks,u]) I (hf e (by simp)) (hf it (by simp)) (λb o h1 h2 q=>sb.extBut b o h1 (gk b o h1 h2 q)) (sz (by simp)) (.cons ⟨_,rfl⟩ (.cons ru .nil)) (sb.extBut _ _ (Nat.ne_of_gt (Heap.lt_size se)) gt)
  refine ⟨.ref s.heap.objs.size,_,I1,rfl,⟨_,x,I.hok.fresh (wac _),rfl,rfl,λys hy=>by rw [I.list_inj hy hq];exact hx⟩,⟨⟨_,by simpa using se'⟩,gi.at λo q=>sb.extBut it o ne.symm q⟩,λb hb=>?_⟩
  rw [qaA]
  ·exact (hf b hb).1
  ·have z:b=e\/b=it:=by simpa using hb
   rcases z with rfl | rfl
   ·exact wat (Heap.lt_size se)
   ·obtain ⟨o,ho,_⟩:=si;exact wat (Heap.lt_size ho)
 done:=by
  intro X hP hw hK hc i pins s σ H E I hf st hg
  subst hP hw hK
  obtain ⟨xs,hq,hx⟩:=hg
  obtain ⟨⟨old,se⟩,si⟩:=st
  obtain ⟨its,rv,p,hz⟩:=I.list hq
  obtain ⟨f0,f1,f2,f3,f4,f5⟩:=hf it (by simp)
  have hl:=rv.length
  exact wpAny_pyNext_enum_end (I.ok.hd hc) se si p.isList (by simp;omega) λg eb=>⟨rfl,I.turned (t':=s.toks) (λb o hb q=>eb b o hb q) f0 f1 f3 f4 f5⟩
 self:=λ_ _ _ _ _ st h=>let ⟨_,se⟩:=st.1;wpAny_pyIter_enum se h
section
variable {X:Cx} {elts:List Expr} {k:Nat} {tpos:Pos} {a:Expr} {ta:TA} {p pos:Pos}
theorem qju (hg:Gl X "enumerate") (hm:X.mg "enumerate" = none) (ha:PA X [a] ta) (hs:starEach [a] X.env=[(false,eval a X.env)]:=by rfl):PI X (.Tuple elts k tpos) (.Call (.Name "enumerate" p) [a] [] pos) (qiZ X.K ta):=by
 intro pins s σ H R I h
 refine Call_ (qgp I hg hm qkL (PyProof.Rows.callWith_type1 (thn (ha pos pins s σ H _ I h) λus s1 ⟨vs,H1,I1,r1,q1⟩=>?_) hs rfl))
 obtain ⟨b,rfl,⟨xs,hq⟩,q⟩:=q1
 obtain ⟨u,rfl,ru⟩:=qlY r1
 cases ru
 obtain ⟨its,rv,pl,hz⟩:=I1.list hq
 refine call_enumerate_list pl.isList λg se si _ gk=>?_
 have I2:Inv X pins σ H1 { s1 with heap:=g }:=I1.kept (t':=s1.toks) gk
 refine wpAny_pyIter_enum se ⟨_,[s1.heap.objs.size+1,s1.heap.objs.size],_,_,H1,rfl,I2,qoc b _ _ (Nat.succ_ne_self _),⟨⟨_,se⟩,si⟩,λc hc=>?_,q⟩
 have z:c=s1.heap.objs.size+1\/c=s1.heap.objs.size:=by simpa using hc
 rcases z with rfl | rfl
 ·exact I1.fpOk (Nat.le_succ _) (I1.hok.fresh (Nat.le_succ _))
 ·exact I1.fpOk (wac _) (I1.hok.fresh (wac _))
end
end Bs
namespace Bs
open PySem L2
mutual
inductive RepD (H:Hp):V->PySem.W.Dat->Prop
 | non:RepD H .non .none
 | int (i:Int):RepD H (.int i) (.int i)
 | tup {p:Addr} {xs:List V} {ds:List PySem.W.Dat} (h:H p=some (.tup xs)) (r:RepA H xs ds):RepD H (.ref p) (.tuple ds)
 | lst {p:Addr} {xs:List V} {ds:List PySem.W.Dat} (h:H p=some (.lst xs)) (r:RepA H xs ds):RepD H (.ref p) (.list ds)
inductive RepA (H:Hp):List V->List PySem.W.Dat->Prop
 | nil:RepA H [] []
 | cons {x:V} {xs:List V} {d:PySem.W.Dat} {ds:List PySem.W.Dat} (h:RepD H x d) (r:RepA H xs ds):RepA H (x::xs) (d::ds)
end
noncomputable def eqD:R2:=λx y H Q=>∃ (d e:PySem.W.Dat) (b:Bool),RepD H x d/\RepD H y e/\PySem.W.kqdOk 8 d=true/\PySem.W.kqdOk 8 e=true/\(b=true↔d=e)/\Q (.bl b) H
noncomputable def neD:R2:=λx y H Q=>∃ (d e:PySem.W.Dat) (b:Bool),RepD H x d/\RepD H y e/\PySem.W.kqdOk 8 d=true/\PySem.W.kqdOk 8 e=true/\(b=true↔d=e)/\Q (.bl (!b)) H
noncomputable def qhF (te:TE):TT:=λσ H Q=>te σ H λx H'=>∃ p xs,x=.ref p/\H' p=some (.lst xs)/\Q (!xs.isEmpty) H'
noncomputable def qvO (te:TE):TT:=λσ H Q=>te σ H λx H'=>∃ p xs,x=.ref p/\H' p=some (.tup xs)/\Q (!xs.isEmpty) H'
noncomputable def sL:V->Option Int->Option Int->Hp->VK->Prop:=λx lo hi H Q=>∃ a xs,x=.ref a/\H a=some (.lst xs)/\∀ p,H p=none->Q (.ref p) (upd H p (.lst (qg4 xs lo hi)))
noncomputable def ql7:List V->Hp->VK->Prop:=λxs H Q=>∃ p ys,xs=[.ref p]/\H p=some (.lst ys)/\∀ l,H l=none->Q (.ref l) (upd H l (.tup ys))
noncomputable def qtq:List V->Hp->VK->Prop:=λxs H Q=>∃ p ys,xs=[.ref p]/\H p=some (.tup ys)/\∀ l,H l=none->Q (.ref l) (upd H l (.lst ys))
noncomputable def qkN:List V->Hp->VK->Prop:=λxs H Q=>∃ p ys,xs=[.ref p]/\H p=some (.lst ys)/\∀ l,H l=none->Q (.ref l) (upd H l (.lst ys))
end Bs
namespace Bs
open PySem PySem.Spec PyProof.Rows L2
section
variable {X:Cx} {pins:List (Addr×Obj)} {σ:L2.St} {H:Hp} {s:Shared}
mutual
theorem qdy (I:Inv X pins σ H s):∀ {x:V} {d:PySem.W.Dat} {u:Value},RepD H x d->RelV x u->∃ as,Reads s.heap u (PySem.W.kqdP d) as
 | _,_,_,.non,e=>by cases e;rw [PySem.W.kqdP];exact ⟨_,Reads.none⟩
 | _,_,_,.int i,⟨t,e⟩=>by subst e;rw [PySem.W.kqdP];exact ⟨_,Reads.int i t⟩
 | _,_,_,.tup h r,e=>by
   cases e
   obtain ⟨its,rv,p,_⟩:=I.tuple (SqT.of h)
   obtain ⟨as,q⟩:=qjv I r rv
   obtain ⟨o,ho,hc,n,hd⟩:=p
   rw [PySem.W.kqdP]
   exact ⟨as,reads_tuple_at ho hc hd (by simpa using q)⟩
 | _,_,_,.lst h r,e=>by
   cases e
   obtain ⟨its,rv,p,_⟩:=I.list (SqL.of h)
   obtain ⟨as,q⟩:=qjv I r rv
   obtain ⟨o,n,ho,hc,_,hd⟩:=p
   rw [PySem.W.kqdP]
   exact ⟨_,reads_list_at ho hc hd (by simpa using q)⟩
theorem qjv (I:Inv X pins σ H s):∀ {xs:List V} {ds:List PySem.W.Dat} {us:List Value},RepA H xs ds->Vals xs us->∃ as,ReadsAll s.heap us (PySem.W.kqdPs ds) as
 | _,_,_,.nil,.nil=>by rw [PySem.W.kqdPs];exact ⟨_,ReadsAll.nil⟩
 | _,_,_,.cons h r,.cons e es=>by
   obtain ⟨as,q⟩:=qdy I h e
   obtain ⟨bs,q2⟩:=qjv I r es
   rw [PySem.W.kqdPs]
   exact ⟨_,ReadsAll.cons q q2⟩
end
theorem qfp {d:PySem.W.Dat} (h:PySem.W.kqdOk 8 d=true):SeqAt.shaped (PySem.W.kqdP d)=true:=by
 have z:=PySem.W.kqd_lay 8 d h
 unfold SeqAt.shaped
 rw [z.1,Bool.true_and]
 exact decide_eq_true (wak z.2 ∅)
theorem qtr {d e:PySem.W.Dat} {b:Bool} (h1:PySem.W.kqdOk 8 d=true) (h2:PySem.W.kqdOk 8 e=true) (hb:b=true↔d=e):PyData.eqv (PySem.W.kqdP d) (PySem.W.kqdP e)=b:=by
 rw [Bool.eq_iff_iff,hb]
 exact PySem.W.kqd_eqv 8 d e 8 h1 h2
theorem qpU (hu:X.A.units+64<cLine):OpR X (compareOp .Eq) eqD:=by
 intro pins s σ H x y v u Q I rx ry h
 obtain ⟨d,e,b,r1,r2,k1,k2,hb,q⟩:=h
 obtain ⟨as,q1⟩:=qdy I r1 rx
 obtain ⟨bs,q2⟩:=qdy I r2 ry
 exact eq_dataH q1 q2 (qfp k1) (qfp k2) hu (by rw [qtr k1 k2 hb];exact ⟨.bl b,H,I,rfl,q⟩)
theorem qkO (hu:X.A.units+64<cLine):OpR X (compareOp .NotEq) neD:=by
 intro pins s σ H x y v u Q I rx ry h
 obtain ⟨d,e,b,r1,r2,k1,k2,hb,q⟩:=h
 obtain ⟨as,q1⟩:=qdy I r1 rx
 obtain ⟨bs,q2⟩:=qdy I r2 ry
 exact ne_dataH q1 q2 (qfp k1) (qfp k2) hu (by rw [qtr k1 k2 hb];exact ⟨.bl (!b),H,I,rfl,q⟩)
theorem qea {a:Expr} {ta:TE} (ha:PE X a ta) (he:∀ whole,isTrue a X.env whole=(do let v <-whole;standAt a.pos;holding [v] (truthy v))):PT X a (qhF ta):=λpins s σ H Q I h=>
 isTrue_plain (thn (ha pins s σ H _ I h) λv s1 ⟨x,H1,I1,r1,q1⟩=>by
  obtain ⟨p,xs,e,hp,q⟩:=q1
  subst e
  exact qvy pins s1 σ H1 _ v Q I1 r1 ⟨_,.inl ⟨xs,SqL.of hp,rfl⟩,q⟩) (he _)
theorem qf4:SlR X sL:=by
 intro pins s σ H x v vl vu lo hi sl Q I rx hs pl pu h
 obtain ⟨a,xs,e,ha,q⟩:=h
 exact qpp pins s σ H x v vl vu lo hi sl Q I rx hs pl pu ⟨a,xs,e,SqL.of ha,q⟩
theorem qfq:qeK X (.type "tuple") ql7:=λpins s σ H xs us Q I r h=>by
 obtain ⟨p,ys,e,hp,q⟩:=h
 exact qjq pins s σ H xs us Q I r ⟨p,ys,e,.inl ⟨SqL.of hp,q⟩⟩
theorem qi0:qeK X (.type "list") qkN:=λpins s σ H xs us Q I r h=>by
 obtain ⟨p,ys,e,hp,q⟩:=h
 exact qkx pins s σ H xs us Q I r ⟨p,ys,e,.inl (SqL.of hp),q⟩
theorem qg7:PGet X gL:=by
 intro pins s σ H o i ov iv Q I ro ri h
 obtain ⟨p,k,xs,v,rfl,rfl,hp,ha,q⟩:=h
 cases ro
 obtain ⟨t,rfl⟩:=ri
 obtain ⟨its,r,pl,hz⟩:=I.list (SqL.of hp)
 obtain ⟨j,h1,h2,h3,h4,h5⟩:=ql0 ha
 obtain ⟨w,ew,rw'⟩:=r.get h2
 have hl:=r.length
 have hn:=qiT
 have fin:EP X pins σ Q w s:=⟨v,H,I,rw',q⟩
 by_cases h0:0<=k
 ·have hj:k.toNat=j:=by
   rw [seqIndex_of h0 h5] at h1
   exact Option.some.inj h1
  exact wpAny_getItem_list pl.isList h0 ⋯ (by rw [hj];simpa using ew) fin
 ·have hj:(k+(its.toArray.size:Int)).toNat=j:=by
   rw [seqIndex_neg ⋯ h4] at h1
   rw [wam,<-hl]
   exact Option.some.inj h1
  exact wpAny_getItem_list_neg pl.isList ⋯ (by rw [wam] <;> omega) ⋯ (by rw [hj];simpa using ew) fin
theorem qpV {K:W.Frag} {p:Addr} {xs:List V} (h:H p=some (.lst xs)):tyV K "list" (.ref p) H:=.inl ⟨rfl,xs,SqL.of h⟩
end
end Bs
namespace Bs
open PySem L2
noncomputable def qf5 (n:Nat) (t:TGs):TG:=λv σ H Q=>∃ a xs,v=.ref a/\H a=some (.tup xs)/\xs.length=n/\t xs σ H Q
end Bs
namespace Bs
open PySem PySem.Spec PyProof.Rows L2
theorem qdt {X:Cx} {es:List Expr} {k:Nat} {pos:Pos} {t:TGs} {n:Nat} (hc:X.calm=true) (h:PGs X es t)
  (hn:(assignEach es X.env).length=n:=by rfl) (hst:(assignEach es X.env).findIdx? (·.1)=none:=by rfl):PG X (.Tuple es k pos) (qf5 n t):=λpins s σ H v u Q I r q=>by
 obtain ⟨a,xs,e,ha,hl,q⟩:=q
 exact qvw hc h hn hst pins s σ H v u Q I r ⟨a,xs,e,SqT.of ha,hl,q⟩
theorem qpW {X:Cx}:OpR X (inplaceOp .FloorDiv) qob:=opI λi j _ _ _ _ _ hc q=>by
 refine ifloordiv_int (wad hc.1) ?_ (.inl (PyProof.noPylong_of_log2 (hc.2.log2 ∅)))
 rw [wbo i (wbn hc.1)]
 exact q
end Bs
namespace Bs
open PySem L2
noncomputable def sT:V->Option Int->Option Int->Hp->VK->Prop:=λx lo hi H Q=>∃ a xs,x=.ref a/\H a=some (.tup xs)/\∀ p H',(H'=H/\p=a/\qg4 xs lo hi=xs)\/(H p=none/\H'=upd H p (.tup (qg4 xs lo hi)))->Q (.ref p) H'
end Bs
namespace HT
open PySem PySem.Spec PyProof.Rows
end HT
namespace Bs
open PySem PySem.Spec PyProof.Rows L2
end Bs
namespace Bs
open PySem L2
noncomputable def Itd (lo:Int) (n:Nat):It:=⟨λi _=>i<n,λi H x H'=>H'=H/\x=.int (lo - i),λi _=>n<=i⟩
noncomputable def Itv (K:W.Frag) (a:Addr) (n:Nat):It:=⟨λi H=>i<n/\∃ xs,SqL K H a xs/\xs.length=n,λi H x H'=>H'=H/\∀ xs,SqL K H a xs->xs[n - 1 - i]?=some x,λi _=>n=i⟩
noncomputable def qpX (ta:TA):TI:=λσ H R=>ta σ H λvs H1=>∃ i j:Int,vs=[.int i,.int j,.int (-1)]/\(-(2 ^ 62)<=i/\i<2 ^ 62/\-(2 ^ 62)<=j/\j<2 ^ 62)/\R (Itd i (i - j).toNat) H1
noncomputable def qxY (K:W.Frag) (ta:TA):TI:=λσ H R=>ta σ H λvs H1=>∃ a xs,vs=[.ref a]/\SqL K H1 a xs/\R (Itv K a xs.length) H1
section
variable {K:W.Frag} {ta:TA} {g:TG} {tb:TS} {D:Ends} {σ:L2.St} {H:Hp} {a:Addr} {xs:List V}
theorem qpY:qe4 (qpX ta) g tb D σ H=ta σ H (λvs H1=>∃ i j:Int,vs=[.int i,.int j,.int (-1)]/\(-(2 ^ 62)<=i/\i<2 ^ 62/\-(2 ^ 62)<=j/\j<2 ^ 62)/\ForJ (Itd i (i - j).toNat) g tb D σ H1):=rfl
theorem qpZ:qe4 (qxY K ta) g tb D σ H=ta σ H (λvs H1=>∃ a xs,vs=[.ref a]/\SqL K H1 a xs/\ForJ (Itv K a xs.length) g tb D σ H1):=rfl
theorem ForJ.down {lo:Int} {n:Nat} (Pv:Nat->L2.St->Hp->Prop) (h0:Pv 0 σ H)
  (hs:∀ i σ H,i<n->Pv i σ H->g (.int (lo - i)) σ H λσ2 H2=>tb { D with nx:=Pv (i+1),ct:=Pv (i+1),bk:=D.nx } σ2 H2) (hd:∀ σ H,Pv n σ H->D.nx σ H):ForJ (Itd lo n) g tb D σ H:=by
 refine ⟨λi m σ H=>m=n - i/\i<=n/\Pv i σ H,⟨n,by simp,wae _,h0⟩,?_⟩
 rintro i m σ H ⟨rfl,hi,pv⟩
 by_cases lt:i<n
 ·refine .inr ⟨lt,Pv (i+1),λσ' H' p'=>⟨n - (i+1),⋯,rfl,lt,p'⟩,λx H' y=>?_⟩
  obtain ⟨e,y⟩:=y
  subst e y
  exact hs i σ _ lt pv
 ·have e:i=n:=by omega
  subst e
  exact .inl ⟨wac _,hd σ H pv⟩
end
end Bs
namespace Bs
open PySem PySem.Spec PyProof.Rows L2
theorem qp0 {P:Program} {w:World} {K:W.Frag} {tg:Expr} (it:Addr) (lo:Int) (n:Nat):Turn P w K tg (Itd lo n) [it] it (λi h=>IsRangeIter h it (lo+(i:Nat)*(-1)) ((n:Int) - (i:Nat)) (-1)) where
 mem:=by simp
 obj:=λi h st b hb=>by
  have e:b=it:=by simpa using hb
  subst e
  exact ⟨_,st,λv z=>by
   have z':Data.fields _=Data.cell v:=z
   cases z'⟩
 keep:=λi h h' st k=>k it (by simp) _ st
 item:=by
  intro X hP hw hK hc i pins s σ H E I hf st hg
  subst hP hw hK
  obtain ⟨f0,f1,f2,f3,f4,f5⟩:=hf it (by simp)
  have W:=Walks.range (prog:=X.prog) (w:=X.w) (I.ok.hd hc) it lo (-1) n
  refine W.item i s _ _ hg st λv h' tk hv st' kk=>?_
  obtain ⟨t,rfl⟩:=hv
  have I1:Inv X pins σ H { s with heap:=h',toks:=tk }:=I.turned (λb o hb e=>kk b o (by simpa using hb) e) f0 f1 f3 f4 f5
  refine ⟨_,rfl,qrX (s:={ s with heap:=h',toks:=tk }) (n := "range_iterator") st' rfl rfl ∅ ⟨.int (lo - i),H,I1,⟨t,?_⟩,⟨rfl,rfl⟩,st',λb hb=>(hf b hb).1⟩⟩
  rw [show lo+(i:Int)*(-1)=lo - i by omega]
 done:=by
  intro X hP hw hK hc i pins s σ H E I hf st hg
  subst hP hw hK
  obtain ⟨f0,f1,f2,f3,f4,f5⟩:=hf it (by simp)
  exact wpAny_pyNext_range_end (I.ok.hd hc) st (by have:n<=i:=hg;omega) λh' eb=>⟨rfl,I.turned (t':=s.toks) (λb o hb e=>eb b o hb e) f0 f1 f3 f4 f5⟩
 self:=λ_ _ _ _ _ st h=>wpAny_pyIter_rangeiter st h
theorem qkP (a b:Int):Builtin.Range.rangeSize a b (-1)=if b<a then a - b else 0:=by
 unfold Builtin.Range.rangeSize
 simp only [show ¬ ((-1:Int) > 0) by decide,if_false,Int.neg_neg,Int.ediv_one]
 split <;> omega
theorem qod {a b:Int} (ha:-(2 ^ 62)<=a) (ha':a<2 ^ 62) (hb:-(2 ^ 62)<=b) (hb':b<2 ^ 62):Builtin.Range.small a b (-1)=true:=by
 unfold Builtin.Range.small
 rw [qkP]
 simp only [Builtin.Range.rangeFitsLong,Bool.and_eq_true,Bool.or_eq_true,decide_eq_true_eq,beq_iff_eq,show ¬ ((-1:Int) > 0) by decide,if_false]
 split <;> omega
theorem qkQ {X:Cx} {tg:Expr} {a b c:Expr} {ta:TA} {p pos:Pos} (hg:Gl X "range") (hm:X.mg "range" = none) (ha:PA X [a,b,c] ta) (hs:starEach [a,b,c] X.env=[(false,eval a X.env),(false,eval b X.env),(false,eval c X.env)]:=by rfl) (hs2:starEach [b,c] X.env=[(false,eval b X.env),(false,eval c X.env)]:=by rfl) :
  PI X tg (.Call (.Name "range" p) [a,b,c] [] pos) (qpX ta):=by
 intro pins s σ H R I h
 refine Call_ (qgp I hg hm boot_range (PyProof.Rows.callWith_type1 (thn (ha pos pins s σ H _ I h) λus s1 ⟨vs,H1,I1,r1,q1⟩=>?_) (by rw [hs,hs2]) (by rw [hs2];rfl)))
 obtain ⟨i,j,e,⟨q1,q2,q3,q4⟩,q⟩:=q1
 subst e
 cases r1 with
 | cons r rr=>
   cases rr with
   | cons r' rr=>
     cases rr with
     | cons r'' rr=>
       cases rr
       obtain ⟨t,rfl⟩:=r
       obtain ⟨t',rfl⟩:=r'
       obtain ⟨t'',rfl⟩:=r''
       refine call_range_3 ∅ ?_ (.inl (PyProof.noPylong_small ∅))
       refine wpAny_pyIter_range (IsRange.new ..) (qod q1 q2 q3 q4) ?_
       have I2:Inv X pins σ H1 { s1 with heap:=s1.heap.push { cls:=.type "range", data:=.fields #[.int i t,.int j t',.int (-1) t''] },toks:=s1.toks }:=I1.kept λb o e=>Heap.get?_push_of_some _ e
       refine ⟨(s1.heap.push { cls:=.type "range", data:=.fields #[.int i t,.int j t',.int (-1) t''] }).objs.size,[(s1.heap.push { cls:=.type "range", data:=.fields #[.int i t,.int j t',.int (-1) t''] }).objs.size],_,_,H1,rfl,
        I2.kept (t':=s1.toks) λb o e=>Heap.get?_push_of_some _ e,qp0 _ i (i - j).toNat,?_,λb hb=>?_,q⟩
       ·have e1:i+((0:Nat):Int)*(-1)=i:=by simp
        have e2:(((i - j).toNat:Nat):Int) - ((0:Nat):Int)=Builtin.Range.rangeSize i j (-1):=by rw [qkP];split <;> omega
        show IsRangeIter _ _ (i+((0:Nat):Int)*(-1)) ((((i - j).toNat:Nat):Int) - ((0:Nat):Int)) (-1)
        rw [e1,e2]
        exact Heap.get?_push_size _ rfl
       ·have e:b=(s1.heap.push { cls:=.type "range", data:=.fields #[.int i t,.int j t',.int (-1) t''] }).objs.size:=by simpa using hb
        subst e
        exact I2.fpOk (wac _) (I2.hok.fresh (wac _))
end Bs
namespace Bs
open PySem L2
noncomputable def qwO:R2:=λx y H Q=>y=.non/\Q (.bl (decide (x=.non))) H
noncomputable def quj:R2:=λx y H Q=>y=.non/\Q (.bl (!decide (x=.non))) H
noncomputable def qwX (_ j:Int):Prop:=0<j
noncomputable def qvP (_ j:Int):Prop:=j≠0
noncomputable abbrev qjw:R2:=rI qwX λi j=>.int (i / j)
noncomputable abbrev qgP:R2:=rI qvP λi j=>.int (i.fdiv j)
noncomputable def Itz (K:W.Frag) (a b:Addr):It:=
 ⟨λi H=>∃ xs ys x y,SqL K H a xs/\SqL K H b ys/\xs[i]?=some x/\ys[i]?=some y,λi H v H'=>∃ p x y,H p=none/\v=.ref p/\H'=upd H p (.tup [x,y])/\(∀ xs,SqL K H a xs->xs[i]?=some x)/\∀ ys,SqL K H b ys->ys[i]?=some y,λi H=>∃ xs ys,SqL K H a xs/\SqL K H b ys/\xs.length<=i⟩
noncomputable def qwY (K:W.Frag) (ta:TA):TI:=λσ H R=>ta σ H λvs H1=>∃ a b,vs=[.ref a,.ref b]/\(∃ xs,SqL K H1 a xs)/\(∃ ys,SqL K H1 b ys)/\R (Itz K a b) H1
noncomputable def qgu (wi:TI) (capt:List (Option Nat)) (g:TG) (tc:TT) (te:TE):TE:=λσ H Q=>wi σ H λJ H1=>∃ (n:Nat) (W:Nat->List V->Hp->Prop),W 0 [] H1/\∀ i ys H,W i ys H->i<=n/\ys.length<=sizeLine/\
 ((J.stop i H/\∀ p,H p=none->Q (.ref p) (upd H p (.lst ys)))\/(i<n/\J.go i H/\∀ x H',J.yld i H x H'->g x (qc6 capt σ) H' λσ2 H2=>tc σ2 H2 λb H3=>if b=true then te σ2 H3 λy H4=>W (i+1) (ys++[y]) H4 else W (i+1) ys H3))
noncomputable def CompF (J:It) (capt:List (Option Nat)) (g:TG) (tc:TT) (te:TE) (σ:L2.St) (Q:VK) (H1:Hp):Prop:=∃ (n:Nat) (W:Nat->List V->Hp->Prop),W 0 [] H1/\∀ i ys H,W i ys H->i<=n/\ys.length<=sizeLine/\
 ((J.stop i H/\∀ p,H p=none->Q (.ref p) (upd H p (.lst ys)))\/(i<n/\J.go i H/\∀ x H',J.yld i H x H'->g x (qc6 capt σ) H' λσ2 H2=>tc σ2 H2 λb H3=>if b=true then te σ2 H3 λy H4=>W (i+1) (ys++[y]) H4 else W (i+1) ys H3))
section
variable {K:W.Frag} {ta:TA} {tl:TE} {capt:List (Option Nat)} {g:TG} {tc:TT} {te:TE} {tb:TS} {D:Ends} {σ:L2.St} {H:Hp} {Q:VK} {a b:Addr} {xs ys:List V}
theorem qng:qgu (qcc K tl) capt g tc te σ H Q=tl σ H (λx H1=>∃ a,x=.ref a/\(∃ xs,SqL K H1 a xs)/\CompF (Itl K a) capt g tc te σ Q H1):=rfl
theorem qp1:qbT (qwY K ta) capt g te σ H Q=ta σ H (λvs H1=>∃ a b,vs=[.ref a,.ref b]/\(∃ xs,SqL K H1 a xs)/\(∃ ys,SqL K H1 b ys)/\CompJ (Itz K a b) capt g te σ Q H1):=rfl
theorem CompF.lst (W:Nat->List V->Hp->Prop) (h0:W 0 [] H) (hb:∀ i ys H,W i ys H->i<=xs.length/\ys.length<=sizeLine/\SqL K H a xs)
  (hs:∀ i x ys H,xs[i]?=some x->W i ys H->g x (qc6 capt σ) H λσ2 H2=>tc σ2 H2 λb H3=>if b=true then te σ2 H3 λy H4=>W (i+1) (ys++[y]) H4 else W (i+1) ys H3) (hd:∀ ys H,W xs.length ys H->∀ p,H p=none->Q (.ref p) (upd H p (.lst ys))):CompF (Itl K a) capt g tc te σ Q H:=by
 refine ⟨xs.length,W,h0,λi ys H w=>⟨(hb i ys H w).1,(hb i ys H w).2.1,?_⟩⟩
 have q:SqL K H a xs:=(hb i ys H w).2.2
 by_cases h:i<xs.length
 ·refine .inr ⟨h,⟨xs,xs[i],q,by simp [h]⟩,λx H' y=>?_⟩
  obtain ⟨e,y⟩:=y
  subst e
  exact hs i x ys _ (y xs q) w
 ·have e:i=xs.length:=wbz (hb i ys H w).1 (Nat.not_lt.mp h)
  subst e
  exact .inl ⟨⟨xs,q,wac _⟩,hd ys H w⟩
theorem CompJ.zip (hl:xs.length=ys.length) (W:Nat->List V->Hp->Prop) (h0:W 0 [] H) (hb:∀ i zs H,W i zs H->i<=xs.length/\zs.length<=sizeLine/\SqL K H a xs/\SqL K H b ys)
  (hs:∀ i x y zs H p,xs[i]?=some x->ys[i]?=some y->W i zs H->H p=none->g (.ref p) (qc6 capt σ) (upd H p (.tup [x,y])) λσ2 H2=>te σ2 H2 λz H3=>W (i+1) (zs++[z]) H3) (hd:∀ zs H,W xs.length zs H->∀ p,H p=none->Q (.ref p) (upd H p (.lst zs))):CompJ (Itz K a b) capt g te σ Q H:=by
 refine ⟨xs.length,W,h0,λi zs H w=>⟨(hb i zs H w).1,(hb i zs H w).2.1,?_⟩⟩
 obtain ⟨_,_,q,q2⟩:=hb i zs H w
 by_cases h:i<xs.length
 ·refine .inr ⟨h,⟨xs,ys,xs[i],ys[i],q,q2,by simp [h],by simp [hl ▸ h]⟩,λv H' y=>?_⟩
  obtain ⟨p,x,y,hp,e1,e2,h1,h2⟩:=y
  subst e1 e2
  exact hs i x y zs _ p (h1 xs q) (h2 ys q2) w hp
 ·have e:i=xs.length:=wbz (hb i zs H w).1 (Nat.not_lt.mp h)
  subst e
  exact .inl ⟨⟨xs,ys,q,q2,wac _⟩,hd zs H w⟩
end
noncomputable def quk:V->Hp->VK->Prop:=λx H Q=>∃ (p:Addr) (ns:List Int),x=.ref p/\H p=some (.lst (ns.map V.int))/\∀ m:Int,(ns=[]/\m=0\/m∈ns)->Q (.int m) H
noncomputable def qsh (te:TE):TE:=λσ H Q=>te σ H λx H1=>quk x H1 Q
noncomputable def qsi:List V->Hp->VK->Prop:=λxs H Q=>∃ (p:Addr) (ns:List Int),xs=[.ref p]/\H p=some (.lst (ns.map V.int))/\Q (.bl (ns.any λz=>!decide (z=0))) H
end Bs
namespace Bs
open PySem PySem.Spec PyProof.Rows L2
section
variable {X:Cx} {pins:List (Addr×Obj)} {σ:L2.St} {H:Hp} {s:Shared}
theorem qcT:OpR X (binaryOp .FloorDiv) qgP:=by
 intro pins s σ H x y v u Q I rx ry ⟨i,j,ex,ey,hc,q⟩
 subst ex ey
 obtain ⟨t,rfl⟩:=rx
 obtain ⟨t2,rfl⟩:=ry
 exact floordiv_int hc ⟨.int (i.fdiv j),H,I.tok _,⟨_,rfl⟩,q⟩ (Or.inr (I.ok.plr s I.bk))
theorem qg8:OpR X (binaryOp .FloorDiv) qjw:=by
 intro pins s σ H x y v u Q I rx ry ⟨i,j,ex,ey,hc,q⟩
 have hc':0<j:=hc
 replace q:Q (.int (i / j)) H:=q
 rw [<-wbo i (wbn hc')] at q
 exact qcT pins s σ H x y v u Q I rx ry ⟨i,j,ex,ey,wad hc',q⟩
theorem qp2 {fp:List Addr} {g:Heap} {tk:Nat} (I:Inv X pins σ H s) (ff:∀ b∈fp,qlV X pins H b) (k:∀ b o,b∉fp->s.heap.get? b=some o->g.get? b=some o):Inv X pins σ H { s with heap:=g,toks:=tk }:=by
 have tr:∀ b u,H b=some u->b∉fp:=λb u q hb=>by rw [(ff b hb).1] at q;cases q
 refine I.step (g':=s.gens) (d':=s.drawn) (ch:=fp) (λb hb=>⟨(ff b hb).2.2.2.1,(ff b hb).2.1,(ff b hb).2.2.2.2.1,(ff b hb).2.2.2.2.2⟩) (λb o _ _ hc q _=>k b o hc q) (λb o _ _ hc q _=>⟨o.slots,k b o hc q⟩) (λ_ _ _ _ n=>n)
  (λb o hc q=>⟨o,k b o hc q⟩) (λ_ _ q=>q) (λ_ _ _ q=>q) (λb ps q=>⟨#[],by rw [q];simp⟩) (λm hm=>?_) (λb u q=>?_) I.bare
 ·obtain ⟨o,es,ep,ho,hr⟩:=hm
  exact ⟨o,es,ep,k _ o (λhb=>(ff _ hb).2.1 rfl) ho,hr⟩
 ·refine (I.hok b u q).stay (λc v hc z=>?_) (λ_ z=>z) λ_ _ z=>z
  rcases hc with y | y
  ·subst y;exact k _ v (tr _ u q) z
  ·exact k c v (tr c _ y) z
theorem qp3 {fp:List Addr} {g:Heap} {tk:Nat} {xs:List V} {its:List Value} (I:Inv X pins σ H s) (ff:∀ b∈fp,qlV X pins H b) (k:∀ b o,b∉fp->s.heap.get? b=some o->g.get? b=some o)
  (hz:xs.length<=sizeLine) (rv:Vals xs its) (ht:g.get? s.heap.objs.size=some { cls:=.type "tuple", data:=.seq its.toArray }):Inv X pins σ (upd H s.heap.objs.size (.tup xs)) { s with heap:=g,toks:=tk }:=by
 have nT:H s.heap.objs.size=none:=I.hok.fresh (wac _)
 have tn:∀ b u,H b=some u->b≠s.heap.objs.size:=λb u q=>qas q nT
 have tr:∀ b u,H b=some u->b∉fp:=λb u q hb=>by rw [(ff b hb).1] at q;cases q
 refine I.step (g':=s.gens) (d':=s.drawn) (ch:=fp) (λb hb=>⟨(ff b hb).2.2.2.1,(ff b hb).2.1,(ff b hb).2.2.2.2.1,(ff b hb).2.2.2.2.2⟩) (λb o _ _ hc q _=>k b o hc q) (λb o _ _ hc q _=>⟨o.slots,k b o hc q⟩) (λb o _ q n=>?_)
  (λb o hc q=>⟨o,k b o hc q⟩) (λb ys q=>?_) (λb o u q=>?_) (λb ps q=>⟨#[],?_⟩) (λm hm=>?_) (λb u q=>?_) I.bare
 ·rw [qaA (wat (Heap.lt_size q))];exact n
 ·rw [qaA (tn b _ q)];exact q
 ·rw [qaA (tn b _ q)];exact q
 ·rw [qaA (tn b _ q),q];simp
 ·obtain ⟨o,es,ep,ho,hr⟩:=hm
  exact ⟨o,es,ep,k _ o (λhb=>(ff _ hb).2.1 rfl) ho,hr⟩
 ·by_cases hb:b=s.heap.objs.size
  ·subst hb
   rw [upd_same] at q
   cases q
   exact ⟨hz,its,rv,⟨_,ht,rfl,_,rfl⟩⟩
  ·rw [qaA hb] at q
   refine (I.hok b u q).stay (λc v hc z=>?_) (λc z=>by rw [qaA (tn c _ z)];exact z) λc ys z=>by rw [qaA (tn c _ z)];exact z
   rcases hc with y | y
   ·subst y;exact k _ v (tr _ u q) z
   ·exact k c v (tr c _ y) z
end
noncomputable def qwZ (a b z ti to i1 i2:Addr) (i:Nat) (h:Heap):Prop:=IsZip h z ti to .none/\IsPair h ti (.ref i1) (.ref i2)/\(∃ u v,IsPair h to u v)/\h.IsListIter i1 a i/\h.IsListIter i2 b i
theorem qsj {P:Program} {w:World} {K:W.Frag} {elts:List Expr} {k:Nat} {pos:Pos} {a b z ti to i1 i2:Addr} (D:ZipApart z ti to i1 i2 a b):Turn P w K (.Tuple elts k pos) (Itz K a b) [z,ti,to,i1,i2] z (qwZ a b z ti to i1 i2) where
 mem:=by simp
 obj:=λi h st c hc=>by
  obtain ⟨s1,s2,⟨u,v,s3⟩,⟨o4,s4,_,d4⟩,⟨o5,s5,_,d5⟩⟩:=st
  have hc':c=z\/c=ti\/c=to\/c=i1\/c=i2:=by simpa using hc
  rcases hc' with rfl | rfl | rfl | rfl | rfl
  ·exact ⟨_,s1,λv q=>nomatch q⟩
  ·exact ⟨_,s2,λv q=>nomatch q⟩
  ·exact ⟨_,s3,λv q=>nomatch q⟩
  ·exact ⟨_,s4,λv q=>by rw [d4] at q;cases q⟩
  ·exact ⟨_,s5,λv q=>by rw [d5] at q;cases q⟩
 keep:=λi h h' st kk=>⟨kk z (by simp) _ st.1,kk ti (by simp) _ st.2.1,let ⟨u,v,q⟩:=st.2.2.1;⟨u,v,kk to (by simp) _ q⟩,st.2.2.2.1.at λo q=>kk i1 (by simp) o q,st.2.2.2.2.at λo q=>kk i2 (by simp) o q⟩
 item:=by
  intro X hP hw hK hc i pins s σ H E I hf st hg
  subst hP hw hK
  obtain ⟨xs,ys,x,y,hq,hq2,hx,hy⟩:=hg
  obtain ⟨s1,s2,⟨u0,v0,s3⟩,s4,s5⟩:=st
  obtain ⟨its,rv,p1,_⟩:=I.list hq
  obtain ⟨jts,rw',p2,_⟩:=I.list hq2
  obtain ⟨u,hu,ru⟩:=rv.get hx
  obtain ⟨v,hv,rw2⟩:=rw'.get hy
  refine wpAny_pyNext_zip_item D s1 s2 s3 s4 s5 p1.isList p2.isList (x:=u) (y:=v) (by simpa using hu) (by simpa using hv) λg g1 g2 g3 g4 g5 _ gk=>?_
  refine ⟨_,rfl,wpAny_letOwnedTupleGo_zip g1 λg' z1 sb=>?_⟩
  have lz:z<s.heap.objs.size:=Heap.lt_size s1
  have kept:∀ c o,c∉[z,ti,to,i1,i2]->s.heap.get? c=some o->g'.get? c=some o:=λc o hc q=>by
   have hc':¬ (c=z\/c=ti\/c=to\/c=i1\/c=i2):=by simpa using hc
   exact sb.extBut c o (λe=>hc' (.inl e)) (gk c o (λe=>hc' (.inl e)) (λe=>hc' (.inr (.inr (.inl e)))) (λe=>hc' (.inr (.inr (.inr (.inl e))))) (λe=>hc' (.inr (.inr (.inr (.inr e))))) q)
  have I1:=qp3 (g:=g') (tk:=s.toks) (xs:=[x,y]) (its:=[u,v]) I hf kept (sz (by simp)) (.cons ru (.cons rw2 .nil)) (sb.extBut _ _ (Nat.ne_of_gt lz) g5)
  refine ⟨.ref s.heap.objs.size,_,I1,rfl,⟨_,x,y,I.hok.fresh (wac _),rfl,rfl,λzs hz=>by rw [I.list_inj hz hq];exact hx,λzs hz=>by rw [I.list_inj hz hq2];exact hy⟩,⟨z1,?_,⟨u,v,sb.extBut _ _ D.TOz g2⟩,g3.at λo q=>sb.extBut i1 o D.i1z q,g4.at λo q=>sb.extBut i2 o D.i2z q⟩,λc hc=>?_⟩
  ·exact sb.extBut _ _ D.TIz (gk _ _ D.TIz D.TITO D.TIi1 D.TIi2 s2)
  ·rw [qaA]
   ·exact (hf c hc).1
   ·have hc':c=z\/c=ti\/c=to\/c=i1\/c=i2:=by simpa using hc
    obtain ⟨o4,s4,_⟩:=s4
    obtain ⟨o5,s5,_⟩:=s5
    rcases hc' with rfl | rfl | rfl | rfl | rfl
    ·exact wat lz
    ·exact wat (Heap.lt_size s2)
    ·exact wat (Heap.lt_size s3)
    ·exact wat (Heap.lt_size s4)
    ·exact wat (Heap.lt_size s5)
 done:=by
  intro X hP hw hK hc i pins s σ H E I hf st hg
  subst hP hw hK
  obtain ⟨xs,ys,hq,hq2,hx⟩:=hg
  obtain ⟨s1,s2,⟨u0,v0,s3⟩,s4,s5⟩:=st
  obtain ⟨its,rv,p1,_⟩:=I.list hq
  obtain ⟨jts,_,p2,_⟩:=I.list hq2
  have hl:=rv.length
  refine wpAny_pyNext_zip_end (I.ok.hd hc) D s1 s2 s3 s4 s5 p1.isList p2.isList (.inl (by simp;omega)) λg gk=>⟨rfl,qp2 (tk:=s.toks) I hf λc o hc q=>?_⟩
  have hc':¬ (c=z\/c=ti\/c=to\/c=i1\/c=i2):=by simpa using hc
  exact gk c o (λe=>hc' (.inl e)) (λe=>hc' (.inr (.inr (.inl e)))) (λe=>hc' (.inr (.inr (.inr (.inl e))))) (λe=>hc' (.inr (.inr (.inr (.inr e))))) q
 self:=λ_ _ _ _ _ st h=>wpAny_pyIter_zip st.1 h
section
variable {X:Cx} {elts:List Expr} {k:Nat} {tpos:Pos} {a b:Expr} {ta:TA} {p pos:Pos}
theorem vals2 {x y:V} {us:List Value} (r:Vals [x,y] us):∃ u v,us=[u,v]/\RelV x u/\RelV y v:=r.two
theorem qvQ (hg:Gl X "zip") (hm:X.mg "zip" = none) (ha:PA X [a,b] ta) (hs:starEach [a,b] X.env=(false,eval a X.env)::starEach [b] X.env:=by rfl) (hpl:(backTo pos (starEach [b] X.env)).any (·.1)=false:=by rfl):PI X (.Tuple elts k tpos) (.Call (.Name "zip" p) [a,b] [] pos) (qwY X.K ta):=by
 intro pins s σ H R I h
 refine Call_ (qgp I hg hm qvM (PyProof.Rows.callWith_type1 (thn (ha pos pins s σ H _ I h) λus s1 ⟨vs,H1,I1,r1,q1⟩=>?_) hs hpl))
 obtain ⟨l1,l2,rfl,⟨xs,hq⟩,⟨ys,hq2⟩,q⟩:=q1
 obtain ⟨u,v,rfl,ru,rv⟩:=vals2 r1
 cases ru
 cases rv
 obtain ⟨its,_,p1,_⟩:=I1.list hq
 obtain ⟨jts,_,p2,_⟩:=I1.list hq2
 refine call_zip_2 p1.isList p2.isList λg z1 z2 z3 z4 z5 _ gk=>?_
 have I2:Inv X pins σ H1 { s1 with heap:=g }:=I1.kept (t':=s1.toks) gk
 have n1:@LT.lt Nat _ l1 s1.heap.objs.size:=p1.lt
 have n2:@LT.lt Nat _ l2 s1.heap.objs.size:=p2.lt
 have D:ZipApart (s1.heap.objs.size+4) (s1.heap.objs.size+2) (s1.heap.objs.size+3) s1.heap.objs.size (s1.heap.objs.size+1) l1 l2:=by
  constructor <;> (show (_:Nat)≠_;omega)
 refine wpAny_pyIter_zip z1 ⟨_,[s1.heap.objs.size+4,s1.heap.objs.size+2,s1.heap.objs.size+3,s1.heap.objs.size,s1.heap.objs.size+1],_,_,H1,rfl,I2,qsj D,⟨z1,z2,⟨_,_,z3⟩,z4,z5⟩,λc hc=>?_,q⟩
 have hc':s1.heap.objs.size<=c:=by
  have z:c=s1.heap.objs.size+4\/c=s1.heap.objs.size+2\/c=s1.heap.objs.size+3\/c=s1.heap.objs.size\/c=s1.heap.objs.size+1:=by simpa using hc
  rcases z with z | z | z | z | z <;> rw [z] <;> first | exact Nat.le_add_right _ _ | exact wac _
 exact I1.fpOk hc' (I1.hok.fresh hc')
end
theorem qvR:bootBuiltins "any" = some (.builtin "any"):=by decide +kernel
theorem qg9:∀ {ns:List Int} {us:List Value} {i:Nat} {u:Value},Vals (ns.map V.int) us->us[i]?=some u->∃ n t,ns[i]?=some n/\u=Value.int n t
 | [],_,_,_,.nil,e=>by simp at e
 | n::ns,_,0,_,.cons r _,e=>by
   simp at e;subst e
   obtain ⟨t,rfl⟩:=r
   exact ⟨n,t,rfl,rfl⟩
 | _::ns,_,i+1,u,.cons _ r,e=>by
   obtain ⟨n,t,h1,h2⟩:=qg9 (i:=i) (u:=u) r (by simpa using e)
   exact ⟨n,t,by simpa using h1,h2⟩
section
variable {X:Cx}
theorem qp4 (hc:X.calm=true):qeK X (.builtin "any") qsi:=λpins s σ H xs us Q I r ⟨p,ns,e,hp,q⟩=>by
 subst e
 obtain ⟨u,rfl,ru⟩:=qlY r
 cases ru
 obtain ⟨its,rv,pl,hz⟩:=I.list (SqL.of hp)
 have hl:ns.length=its.length:=by have:=rv.length;simpa using this
 refine call_any_walk (wpAny_pyIter_list pl.isList ⟨s.heap.objs.size,[s.heap.objs.size,p],[s.heap.objs.size],its.toArray.size,_,_,λi=>!decide (ns.getD i 0=0),rfl,Walks.list (A:=X.A.in1) (show X.A.in1.handled=none from I.ok.hd hc) s.heap.objs.size p (wat pl.lt) _,⟨⟨_,Heap.get?_push_size _ rfl,rfl,rfl⟩,pl.isList.push _⟩,?_,λg tk gk=>?_⟩)
 ·intro i v s' Q' E' hP hQ
  obtain ⟨n,t,h1,rfl⟩:=qg9 rv (show its[i]?=some v by simpa using hP)
  have e:ns.getD i 0=n:=by rw [wab,h1];rfl
  replace hQ:Q' (!decide (ns.getD i 0=0)) s':=hQ
  rw [e] at hQ
  refine PySem.P.truthy_int ?_
  have e2:(n != 0)=!decide (n=0):=by rw [Bool.eq_iff_iff];simp
  rw [e2]
  exact hQ
 ·have kk:∀ b o,s.heap.get? b=some o->g.get? b=some o:=λb o e=>gk b o (λz=>absurd (Heap.lt_size e) (by rw [wag.mp z];exact wbb _)) (Heap.get?_push_of_some _ e)
  refine ⟨_,H,I.kept kk,?_,q⟩
  show Value.bool _=Value.bool _
  congr 1
  rw [Bool.eq_iff_iff]
  simp only [List.any_eq_true,List.mem_range,wam]
  constructor
  ·rintro ⟨i,hi,h⟩
   have hi2:i<ns.length:=by omega
   rw [wab,wah hi2] at h
   exact ⟨ns[i],wb0 hi2,h⟩
  ·rintro ⟨x,hx,h⟩
   obtain ⟨i,hi,rfl⟩:=wb9 hx
   refine ⟨i,⋯,?_⟩
   rw [wab,wah hi]
   exact h
end
section
variable {prog:Program} {w:World} {A:Around} {R:Result->Shared->Prop} {I:Addr} {fp wr:List Addr} {n:Nat} {P:Nat->Value->Prop} {St:Nat->Heap->Prop} {d:Value}
theorem qhG (W:Walks prog w A.in1 I fp wr n P St) (bt:Nat->Nat->Bool) (hcmp:CmpOf prog w A.in1 .Lt P bt) (S:Addr) (hSf:S∉fp):∀ (k j q:Nat) (s:Shared) (vb:Value) (c:Nat),n - j=k->j<=n->St j s.heap->q<n->P q vb->
  s.heap.get? S=some { cls:=.type "list", dict:=none,data:=.seq #[vb,vb] c,slots:=#[] }->
  (∀ q v h' tk,q<n->P q v->(∀ b o,b∉wr->b≠S->s.heap.get? b=some o->h'.get? b=some o)->R (.ok (.ret v)) { s with heap:=h',toks:=tk })->
  codeAny (model prog w) A (.builtin "min.loop" ⟨[.ref I,.none,.ref S],[("default", d)]⟩) R s
 | 0,j,q,s,vb,c,hk,hj,hst,hq,hPb,hS,hR=>by
   have jn:j=n:=by omega
   refine codeAny_builtin F.entry_min_loop ?_
   rw [Around.under_plainId F.plain_min_loop _]
   refine wpAny_bind (m:=seqItems? (.ref S)) (wpAny_seqItems hS rfl ?_)
   refine wpAny_bind (m:=tryCatch (pyNext (.ref I)) _) (wpAny_tryCatch (W.done s _ _ (jn ▸ hst) λh' tk kp=>?_))
   have hS2:=kp S _ (λz=>hSf (W.sub _ z)) hS
   refine wpAny_bind (m:=updateSeq S (λ_=>#[])) (wpAny_updateSeq hS2 rfl (wpAny_bind (wpAny_letGo (wpAny_pure ?_))))
   exact hR q vb _ tk hq hPb λb o h1 h2 e=>(Heap.get?_update_other _ _ h2.symm).trans (kp b o h1 e)
 | k+1,j,q,s,vb,c,hk,hj,hst,hq,hPb,hS,hR=>by
   have jn:j<n:=by omega
   refine codeAny_builtin F.entry_min_loop ?_
   rw [Around.under_plainId F.plain_min_loop _]
   refine wpAny_bind (m:=seqItems? (.ref S)) (wpAny_seqItems hS rfl ?_)
   refine wpAny_bind (m:=tryCatch (pyNext (.ref I)) _) (wpAny_tryCatch (W.item j s _ _ jn hst λv h' tk hP hst' kp=>?_))
   have hS2:=kp S _ (λz=>hSf (W.sub _ z)) hS
   refine wpAny_bind (m:=tryCatch (holding [v,v] (richCompare .Lt v vb >>= _)) _) (wpAny_tryCatch (wpAny_holding (wpAny_bind (hcmp j q v vb _ _ _ hP hPb ?_))))
   refine wpAny_bind (wpAny_holding (wpAny_truthy_bool (wpAny_bind (wpAny_letGo (wpAny_pure ?_)))))
   have nm:(toString "min" ++ toString ".loop" : String) = "min.loop" := by decide
   cases bt j q with
   | true=>
     simp only [if_true]
     refine wpAny_bind (wpAny_updateSeq hS2 rfl (wpAny_bind (wpAny_letGo ?_)))
     rw [nm]
     refine wpAny_pure ⟨plainId_quiet F.plain_min_loop _,qhG W bt hcmp S hSf k (j+1) j _ v _ ⋯ ⋯ (W.frame _ _ _ hst' λb hb o e=>(Heap.get?_update_other _ _ (λz:S=b=>hSf (by rw [z];exact hb))).trans e) jn hP (Heap.get?_update_self _ hS2 rfl) λq' v' h2 tk2 hq' hP' kp2=>?_⟩
     exact hR q' v' h2 tk2 hq' hP' λb o h1 h3 e=>kp2 b o h1 h3 ((Heap.get?_update_other _ _ h3.symm).trans (kp b o h1 e))
   | false=>
     simp only [Bool.false_eq_true,if_false]
     refine wpAny_bind (wpAny_letGo ?_)
     rw [nm]
     exact wpAny_pure ⟨plainId_quiet F.plain_min_loop _,qhG W bt hcmp S hSf k (j+1) q _ vb c ⋯ ⋯ hst' hq hPb hS2 λq' v' h2 tk2 hq' hP' kp2=>hR q' v' h2 tk2 hq' hP' λb o h1 h3 e=>kp2 b o h1 h3 (kp b o h1 e)⟩
theorem qoe (W:Walks prog w A.in1 I fp wr n P St) (bt:Nat->Nat->Bool) (hcmp:CmpOf prog w A.in1 .Lt P bt) (S:Addr) (hSf:S∉fp) {s:Shared} {c:Nat} (hst:St 0 s.heap)
  (hS:s.heap.get? S=some { cls:=.type "list", dict:=none,data:=.seq #[] c,slots:=#[] })
  (hR:∀ v h' tk,(n=0/\v=d\/∃ q,q<n/\P q v)->(∀ b o,b∉wr->b≠S->s.heap.get? b=some o->h'.get? b=some o)->R (.ok (.ret v)) { s with heap:=h',toks:=tk }) :
  codeAny (model prog w) A (.builtin "min.loop" ⟨[.ref I,.none,.ref S],[("default", d)]⟩) R s:=by
 refine codeAny_builtin F.entry_min_loop ?_
 rw [Around.under_plainId F.plain_min_loop _]
 refine wpAny_bind (m:=seqItems? (.ref S)) (wpAny_seqItems hS rfl ?_)
 rcases wbr n with z | z
 ·refine wpAny_bind (m:=tryCatch (pyNext (.ref I)) _) (wpAny_tryCatch (W.done s _ _ (z ▸ hst) λh' tk kp=>?_))
  refine wpAny_bind (wpAny_rule (wpAny_pure ?_))
  exact hR d h' tk (.inl ⟨z,rfl⟩) λb o h1 _ e=>kp b o h1 e
 ·refine wpAny_bind (m:=tryCatch (pyNext (.ref I)) _) (wpAny_tryCatch (W.item 0 s _ _ z hst λv h' tk hP hst' kp=>?_))
  have hS2:=kp S _ (λz=>hSf (W.sub _ z)) hS
  have nm:(toString "min" ++ toString ".loop" : String) = "min.loop" := by decide
  refine wpAny_bind (m:=updateSeq S (λ_=>#[v,v])) (wpAny_updateSeq hS2 rfl ?_)
  rw [nm]
  refine wpAny_pure ⟨plainId_quiet F.plain_min_loop _,qhG W bt hcmp S hSf _ 1 0 _ v _ rfl z (W.frame _ _ _ hst' λb hb o e=>(Heap.get?_update_other _ _ (λz:S=b=>hSf (by rw [z];exact hb))).trans e) z hP (Heap.get?_update_self _ hS2 rfl) λq' v' h2 tk2 hq' hP' kp2=>?_⟩
  exact hR v' h2 tk2 (.inr ⟨q',hq',hP'⟩) λb o h1 h3 e=>kp2 b o h1 h3 ((Heap.get?_update_other _ _ h3.symm).trans (kp b o h1 e))
end
theorem qp5 (a v:Value):argsOk "min" ⟨[a],[("default", v)]⟩:=by unfold argsOk;kernel_rfl
section
variable {X:Cx} {e:Expr} {te:TE} {p pos kp1 kp2:Pos} {kk:Nat}
theorem qul (hc:X.calm=true) (hm:X.mg "min" = none) (hv:bootBuiltins "min" = some (.builtin "min")) (ha:PE X e te) (hg:Gl X "min" := by rfl)
  (hs:starEach [e] X.env=(false,eval e X.env)::starEach [] X.env:=by rfl) (hb:backTo pos (starEach [e] X.env)=(false,eval e X.env)::backTo pos (starEach [] X.env):=by rfl):PE X (.Call (.Name "min" p) [e] [⟨some "default", .Constant (.int 0) kk kp1,kp2⟩] pos) (qsh te):=by
 intro pins s σ H Q I h
 refine wpAny_Call_Name_kw (qgp I hg hm hv ?_ ∅ ∅)
 refine PyProof.Rows.callWith_kw ?_ hb (by rw [hb];rfl)
 rw [hb]
 refine Calls.spliced_cons (thn (ha pins s σ H _ I h) λu s1 ⟨x,H1,I1,r1,q1⟩=>Calls.spliced_nil ?_)
 have kw:PK X [⟨some "default", .Constant (.int 0) kk kp1,kp2⟩] (qab (tC (.int 0)) qal):=qt9 qae qvA
 refine thn (kw pos pins s1 σ H1 (λvs H2=>vs=[.int 0]/\H2=H1) I1 ⟨rfl,rfl⟩) λws s2 ⟨zs,H2,I2,rz,ez,eh⟩=>?_
 subst ez eh
 obtain ⟨z,rfl,t,rfl⟩:=qlY rz
 obtain ⟨l,ns,rfl,hl,q⟩:=q1
 cases r1
 obtain ⟨its,rv,pl,hz⟩:=I2.list (SqL.of hl)
 have hle:ns.length=its.length:=by have:=rv.length;simpa using this
 have nm:(toString "min" ++ toString ".loop" : String) = "min.loop" := by decide
 refine kmb_tree F.kind_min F.plain_min F.entry_min (qp5 _ _) ?_
 refine wpAny_bind (m:=Builtin.Builtins.bindParams "min" ["key", "default"] 0 ⟨[],[("default", Value.int 0 t)]⟩) (wpAny_of_eq (a:=[none,some (Value.int 0 t)]) rfl ?_)
 refine wpAny_bind (wpAny_pure (wpAny_bind (wpAny_pyIter_list pl.isList ?_)))
 refine wpAny_bind (wpAny_newObj_type ?_)
 rw [nm]
 have lp:l<s2.heap.objs.size:=pl.lt
 have nS:(s2.heap.push { cls:=.type "list_iterator", data:=.fields #[.ref l,.int 0 0] }).objs.size=s2.heap.objs.size+1:=Heap.size_push ..
 have W:=Walks.list (prog:=X.prog) (w:=X.w) (A:=X.A.in1) (show X.A.in1.handled=none from I2.ok.hd hc) s2.heap.objs.size l (wat lp) its.toArray
 refine wpAny_pure ⟨plainId_quiet F.plain_min_loop _,qoe W _ (CmpOf.ints_lt (λi=>ns.getD i 0) λi v hP=>?_) _ ?_ ⟨⟨_,Heap.get?_push_of_some _ (Heap.get?_push_size _ rfl),rfl,rfl⟩,(pl.isList.push _).push _⟩ (Heap.get?_push_size _ rfl) λv g tk hv2 gk=>?_⟩
 ·obtain ⟨n,t2,h1,rfl⟩:=qg9 rv (show its[i]?=some v by simpa using hP)
  exact ⟨t2,by rw [wab,h1];rfl⟩
 ·rw [nS]
  have:¬ (s2.heap.objs.size+1=s2.heap.objs.size\/s2.heap.objs.size+1=l):=λz=>by
   rcases z with z | z
   ·exact absurd z (Nat.succ_ne_self _)
   ·rw [<-z] at lp;exact absurd lp (Nat.not_lt.mpr (Nat.le_succ _))
  simpa using this
 ·have kk2:∀ b o,s2.heap.get? b=some o->g.get? b=some o:=λb o e=>by
   have lb:b<s2.heap.objs.size:=Heap.lt_size e
   refine gk b o (λz=>?_) (λz=>?_) (Heap.get?_push_of_some _ (Heap.get?_push_of_some _ e))
   ·rw [wag.mp z] at lb;exact absurd lb (wbb _)
   ·rw [z,nS] at lb;exact absurd lb (Nat.not_lt.mpr (Nat.le_succ _))
  have I3:=I2.kept (t':=tk) kk2
  rcases hv2 with ⟨z,rfl⟩ | ⟨i,hi,hP⟩
  ·exact ⟨.int 0,_,I3,⟨t,rfl⟩,q 0 (.inl ⟨waz.mp (by rw [wam] at z;omega),rfl⟩)⟩
  ·obtain ⟨n,t2,h1,rfl⟩:=qg9 rv (show its[i]?=some v by simpa using hP)
   exact ⟨.int n,_,I3,⟨t2,rfl⟩,q n (.inr (wan h1))⟩
end
end Bs
namespace Bs
open PySem PySem.Spec PyProof.Rows L2
section
variable {X:Cx} {pins:List (Addr×Obj)} {σ:L2.St} {H:Hp} {s:Shared} {N:List Str} {capt:List (Option Nat)} {scope:Scope} {cl:List (Str×Addr)} {C:Addr} {fp:List Addr}
theorem qkR {prog:Program} {w:World} {A:Around} {R:Result->Shared->Prop} {s:Shared} {elt target iter c:Expr} {scope:Scope} {pos:Pos} {it acc:Value} {env:Env} (I:Nat->Shared->Prop)
  (turn:∀ n s,I n s->wpAny (model prog w) A (pyNext it) (λr s₁=>match r with
   | none=>R (.ok .next) s₁
   | some v=>wpAny (model prog w) A (letOwnedTupleGo target it v) (λ_ s₂=>wpAny (model prog w) A (assign target env v) (λ_ s₃=>wpAny (model prog w) A (isTrue c env (eval c env)) (λokb s₆=>if okb=true then wpAny (model prog w) A (eval elt env) (λx s₄=>
     wpAny (model prog w) A (call (.builtin "list.append") [acc,x]) (λ_ s₅=>∃ m,m<n/\I m s₅) (λ_ _=>False) s₄) (λ_ _=>False) s₆ else ∃ m,m<n/\I m s₆) (λ_ _=>False) s₃) (λ_ _=>False) s₂) (λ_ _=>False) s₁) (λ_ _=>False) s)
  (n:Nat) (h:I n s):codeAny (model prog w) A (.compLoop (.ListComp elt [⟨target,iter,[c],0⟩] scope pos) 0 it acc env) R s:=by
 refine codeAny_loop rfl I (λn s hI=>?_) n h
 show wpAny _ A ((compTurn (.ListComp elt [⟨target,iter,[c],0⟩] scope pos) 0 it acc env).onRaise (λx=>do noteFrame x env;theTreesLotGoes x)) _ _ s
 refine wpAny_noted ?_
 rw [compTurn_list]
 have no:∀ {E':Value->Shared->Prop} (e:Value) (s':Shared),(λ(_:Value) (_:Shared)=>False) e s'->E' e s':=λ_ _ f=>f.elim
 refine wpAny_bind (wpAny_standAt (wpAny_bind (wpAny_mono (turn n s hI) (λr s₁ h₁=>?_) no)))
 cases r with
 | none=>exact wpAny_pure h₁
 | some v=>
   refine wpAny_bind (wpAny_mono h₁ (λ_ s₂ h₂=>?_) no)
   refine wpAny_bind (wpAny_mono h₂ (λ_ s₆ h₆=>wpAny_bind (wpAny_tests_one (wpAny_mono h₆ (λokb s₃ h₃=>?_) no))) no)
   cases okb with
   | false=>exact wpAny_pure ⟨rfl,h₃⟩
   | true=>exact wpAny_bind (wpAny_bind (wpAny_mono h₃ (λx s₄ h₄=>wpAny_bind (wpAny_mono h₄ (λ_ s₅ h₅=>wpAny_pure (wpAny_pure ⟨rfl,h₅⟩)) no)) no))
theorem qi1 {elt iter tg c:Expr} {tc:TT} {pos:Pos} {wi:TI} {g:TG} {te:TE} {pins:List (Addr×Obj)} {s:Shared} {σ:L2.St} {H:Hp} {Q:VK} (RR:Value->Addr->Result->Shared->Prop) (hc:X.calm=true) (B:BlkOk X N capt scope cl) (hi:PI X tg iter wi)
  (hg:∀ C s H fp,PG (blk X N scope cl C s H fp) tg g) (ht:∀ C s H fp,PT (blk X N scope cl C s H fp) c tc) (he:∀ C s H fp,PE (blk X N scope cl C s H fp) elt te) (I:Inv X pins σ H s) (h:qgu wi capt g tc te σ H Q)
  (fin:∀ (D C:Addr) (s4:Shared) (Hq:Hp) (m:Str->Option Value),Inv X pins σ Hq s4->Q (.ref D) Hq->s4.heap.Ns C m->Hq C=none->C≠X.env.locals->X.s₀.heap.objs.size<=C->(∀ x c,X.env.cells.lookup x=some c->c≠C)->(∀ p∈X.pn++pins,p.1≠C)->RR (.ref D) C (.ok .next) s4) :
  wpAny (model X.prog X.w) X.A (eval iter X.env) (λx s₁=>wpAny (model X.prog X.w) X.A (pyIter x) (λit s₂=>wpAny (model X.prog X.w) X.A (newList []) (λacc s₃=>
   wpAny (model X.prog X.w) X.A (newFunctionEnv scope X.env.globals cl [] X.env.qual none .none (some X.env)) (λcenv s₄=>
    codeAny (model X.prog X.w) X.A (.compStart (.ListComp elt [⟨tg,iter,[c],0⟩] scope pos) 0 it acc { cenv with scope:=relabel scope X.env }) (RR acc cenv.locals) s₄) X.xe s₃) X.xe s₂) X.xe s₁) X.xe s:=by
 refine thn (hi pins s σ H _ I h) λv s1 h1=>thn h1 λitv s2 h2=>?_
 obtain ⟨it,fp,tn,J,H2,e,I2,T,st2,f2,n0,W,w0,turn⟩:=h2
 subst e
 have fl:∀ b∈fp,b<s2.heap.objs.size:=λb hb=>by obtain ⟨o,e,_⟩:=T.obj _ _ st2 b hb;exact Heap.lt_size e
 refine wpAny_newObj_type (wpAny_newFunctionEnv B.nocell (by intro y hy;simp at hy) (λh₁ hns₁ hsb₁=>?_) B.kind)
 dsimp only at hns₁ hsb₁ ⊢
 generalize hG:s2.heap.push { cls:=.type "list", dict:=none,data:=.seq ([]:List Value).toArray }=G at hns₁ hsb₁ ⊢
 have hC:G.objs.size=s2.heap.objs.size+1:=by rw [<-hG,Heap.size_push]
 have hCle:s2.heap.objs.size<=G.objs.size:=by rw [hC];exact Nat.le_succ _
 have hDC:s2.heap.objs.size≠G.objs.size:=by rw [hC];exact wat (wbq _)
 have old:∀ b o,s2.heap.get? b=some o->h₁.get? b=some o:=λb o e=>hsb₁.extBut b o (by rw [hC];exact wat (Nat.lt_succ_of_lt (Heap.lt_size e))) (Heap.get?_push_of_some _ (hG ▸ Heap.get?_push_of_some _ e))
 have hacc:h₁.get? s2.heap.objs.size=some { cls:=.type "list", data:=.seq ([]:List Value).toArray }:=hsb₁.extBut _ _ hDC (Heap.get?_push_of_some _ (hG ▸ Heap.get?_push_size _ rfl))
 have ok':=qpS B I2 f2 fl hCle
 have nsD:s2.heap.objs.size∉frs X.stack:=λhb=>by
  rcases wau.mp (I2.stkSub _ hb) with z | z
  ·exact absurd I2.lt (by rw [<-z];exact wbb _)
  ·exact I2.nofs (wac _) z
 have ncD:∀ x c,cl.lookup x=some c->c≠s2.heap.objs.size:=λx c e z=>by
  obtain ⟨v,q⟩:=I2.cell x c (B.cells x c e)
  exact absurd q.lt (by rw [z];exact wbb _)
 have nfD:∀ b∈fp,s2.heap.objs.size≠b:=λb hb z=>absurd (fl b hb) (by rw [<-z];exact wbb _)
 have I₁:Inv (blk X N scope cl G.objs.size s2 H2 fp) [] (qc6 capt σ) H2 { s2 with heap:=h₁,toks:=s2.toks+([]:List (Str×Value)).length }:=qpT B I2 f2 fl hCle hns₁ old
 have loop:codeAny (model X.prog X.w) X.A (.compLoop (.ListComp elt [⟨tg,iter,[c],0⟩] scope pos) 0 (.ref it) (.ref s2.heap.objs.size) (compEnvC scope cl G.objs.size X.env))
   (RR (.ref s2.heap.objs.size) G.objs.size) { s2 with heap:=h₁,toks:=s2.toks+([]:List (Str×Value)).length }:=by
  refine qkR (λn s'=>∃ (i:Nat) (ys:List V) (its:List Value) (k:Nat) (Hc:Hp),Inv (blk X N scope cl G.objs.size s2 H2 fp) [] (qc6 capt σ) Hc s'/\s'.heap.get? s2.heap.objs.size=some { cls:=.type "list", data:=.seq its.toArray k }/\Vals ys its/\
   Hc s2.heap.objs.size=none/\tn i s'.heap/\(∀ b∈fp,Hc b=none)/\W i ys Hc/\n=n0 - i) ?_ n0 ⟨0,[],[],0,H2,I₁,hacc,.nil,I2.hok.fresh (wac _),T.keep _ _ _ st2 (λb _ o e=>old b o e),λb hb=>(f2 b hb).1,w0,rfl⟩
  rintro n s3 ⟨i,ys,its,k,Hc,I3,hD,hv,nD,st3,fr3,w3,en⟩
  obtain ⟨_,hl,step⟩:=turn i ys Hc w3
  have hz:its.toArray.size<=sizeLine:=by rw [wam,<-hv.length];exact hl
  have I3p:Inv (blk X N scope cl G.objs.size s2 H2 fp) [(s2.heap.objs.size,{ cls:=.type "list", data:=.seq its.toArray k })] (qc6 capt σ) Hc s3:=I3.pins_of λp hp=>by
   rw [wag] at hp
   subst hp
   exact ⟨hD,nD,hDC,nsD,λv z=>nomatch z⟩
  have fo3:∀ {Hx:Hp} (_:∀ b∈fp,Hx b=none),∀ b∈fp,qlV (blk X N scope cl G.objs.size s2 H2 fp) [(s2.heap.objs.size,{ cls:=.type "list", data:=.seq its.toArray k })] Hx b:=λhx b hb=>
   ⟨hx b hb,(ok'.exf b hb).1,ok'.exfs b hb,.inl hb,(ok'.exf b hb).2,λp hp=>by
    have hp':p∈[((s2.heap.objs.size,{ cls:=.type "list", data:=.seq its.toArray k }):Addr×Obj)]:=hp
    rw [wag] at hp'
    subst hp'
    exact nfD b hb⟩
  rcases step with ⟨stop,q⟩ | ⟨ltn,go,nxt⟩
  ·refine thn (T.done (blk X N scope cl G.objs.size s2 H2 fp) rfl rfl rfl hc i _ s3 _ Hc _ I3p (fo3 fr3) st3 stop) λr s4 ⟨hr,I4⟩=>?_
   subst hr
   have hD4:=(I4.pin (s2.heap.objs.size,{ cls:=.type "list", data:=.seq its.toArray k }) (wa8 _ (wag.mpr rfl))).1
   obtain ⟨m,hn,_⟩:=I4.loc
   have nDt:∀ b u,Hc b=some u->b≠s2.heap.objs.size:=λb u e z=>by rw [z,nD] at e;cases e
   have oldC:∀ b o,s2.heap.get? b=some o->b≠s2.heap.objs.size:=λb o e=>wat (Heap.lt_size e)
   have ub:Un (frs X.stack) fp H2 Hc s2.heap s4.heap:=I4.base
   have cC:∀ b,b<s2.heap.objs.size->b≠G.objs.size:=λb hb z=>absurd (wav hb hCle) (by rw [z];exact wbb _)
   refine fin _ G.objs.size s4 (upd Hc s2.heap.objs.size (.lst ys)) m ?_ (q _ nD) hn (by rw [qaA (λz=>hDC z.symm)];exact I4.free) (λz=>cC _ I2.lt z.symm) (wak I2.sz hCle)
    (λx c e=>by obtain ⟨v,q⟩:=I2.cell x c e;exact cC _ q.lt) λp hp=>cC _ (Heap.lt_size (I2.pin p hp).1)
   refine I2.call' (ch:=fp) (s':=s4) I4.os ?_ ?_ I4.bare λb hb=>⟨(f2 b hb).2.2.2.1,(f2 b hb).2.1,(f2 b hb).2.2.2.2.1,(f2 b hb).2.2.2.2.2⟩
   ·refine ⟨ub.keep,ub.slot,λb o e n hx=>?_,ub.there,λb xs e=>?_,λb o u e=>?_,λb ps e=>?_⟩
    ·rw [qaA (oldC b o e)];exact ub.free b o e n hx
    ·have z:=ub.tups b xs e
     rw [qaA (nDt b _ z)];exact z
    ·have z:=ub.frzs b o u e
     rw [qaA (nDt b _ z)];exact z
    ·obtain ⟨more,z⟩:=ub.tbls b ps e
     exact ⟨more,by rw [qaA (nDt b _ z)];exact z⟩
   ·intro b u e
    by_cases hb:b=s2.heap.objs.size
    ·subst hb
     rw [upd_same] at e
     cases e
     exact ⟨hl,its,k,hv,hD4⟩
    ·rw [qaA hb] at e
     exact (I4.hok b u e).stay (λc v _ q=>q) (λc q=>by rw [qaA (nDt c _ q)];exact q) λc xs q=>by rw [qaA (nDt c _ q)];exact q
  ·refine thn (T.item (blk X N scope cl G.objs.size s2 H2 fp) rfl rfl rfl hc i _ s3 _ Hc _ I3p (fo3 fr3) st3 go) λr s4 ⟨u,hr,h4⟩=>?_
   subst hr
   refine thn h4 λ_ s5 ⟨x,H5,I5,r5,y5,st5,fr5⟩=>?_
   have I5':=I5.pinned (fo3 fr5) (T.obj _ _ st5)
   refine thn (hg _ _ _ _ _ s5 _ H5 x u _ I5' r5 (nxt x H5 y5)) λ_ s6 ⟨σ6,H6,I6,q6⟩=>?_
   refine thn (ht _ _ _ _ _ s6 σ6 H6 _ I6 q6) λokb s9 ⟨H9,I9,q9⟩=>?_
   have pF9:∀ b∈fp,∀ o,s5.heap.get? b=some o->s9.heap.get? b=some o/\H9 b=none:=λb hb o e=>by
    have z:=I9.pin (b,o) (wa8 _ (wa8 _ (qdw hb e)))
    exact ⟨z.1,z.2.1⟩
   cases okb with
   | false=>
     have w9:W (i+1) ys H9:=q9
     have pD9:=I9.pin (s2.heap.objs.size,{ cls:=.type "list", data:=.seq its.toArray k }) (wa8 _ (List.mem_append_left _ (wag.mpr rfl)))
     have I9n:Inv (blk X N scope cl G.objs.size s2 H2 fp) [] σ6 H9 s9:=I9.pins_of λp hp=>nomatch hp
     exact ⟨n0 - (i+1),⋯,i+1,ys,its,k,H9,qhE B I2 f2 I9n,pD9.1,hv,pD9.2.1,T.keep _ _ _ st5 (λb hb o e=>(pF9 b hb o e).1),(λb hb=>by
      obtain ⟨o,e,_⟩:=T.obj _ _ st5 b hb
      exact (pF9 b hb o e).2),w9,rfl⟩
   | true=>
   replace q9:te σ6 H9 λy H4=>W (i+1) (ys++[y]) H4:=q9
   refine thn (he _ _ _ _ _ s9 σ6 H9 _ I9 q9) λuy s7 ⟨y,H7,I7,r7,w7⟩=>?_
   have pD:=I7.pin (s2.heap.objs.size,{ cls:=.type "list", data:=.seq its.toArray k }) (wa8 _ (List.mem_append_left _ (wag.mpr rfl)))
   have pF:∀ b∈fp,∀ o,s5.heap.get? b=some o->s7.heap.get? b=some o/\H7 b=none:=λb hb o e=>by
    have z:=I7.pin (b,o) (wa8 _ (wa8 _ (qdw hb e)))
    exact ⟨z.1,z.2.1⟩
   refine append_at (hsz:=hz) pD.1 λh8 sb8 hD8=>?_
   have I7n:Inv (blk X N scope cl G.objs.size s2 H2 fp) [] σ6 H7 s7:=I7.pins_of λp hp=>nomatch hp
   have I8:Inv (blk X N scope cl G.objs.size s2 H2 fp) [] σ6 H7 { s7 with heap:=h8,toks:=s7.toks }:=I7n.turned (λb o hb e=>sb8.extBut b o hb e) pD.2.1 hDC (.inr (wac _)) ncD (λp hp=>nomatch hp)
   refine ⟨n0 - (i+1),⋯,i+1,ys++[y],its++[uy],k+1,H7,qhE B I2 f2 I8,?_,Paired.snoc hv r7,pD.2.1,T.keep _ _ _ st5 (λb hb o e=>sb8.extBut b o (nfD b hb).symm (pF b hb o e).1),λb hb=>?_,w7,rfl⟩
   ·show h8.get? _=_
    rw [hD8,List.push_toArray]
   ·obtain ⟨o,e,_⟩:=T.obj _ _ st5 b hb
    exact (pF b hb o e).2
 exact codeAny_compStart_list loop (T.self X.A 0 _ _ _ (T.keep _ _ _ st2 (λb _ o e=>old b o e)) loop)
theorem qnh {elt iter tg c:Expr} {tc:TT} {pos:Pos} {wi:TI} {g:TG} {te:TE} (hc:X.calm=true) (B:BlkOk X N capt scope cl) (hi:PI X tg iter wi)
  (hg:∀ C s H fp,PG (blk X N scope cl C s H fp) tg g) (ht:∀ C s H fp,PT (blk X N scope cl C s H fp) c tc) (he:∀ C s H fp,PE (blk X N scope cl C s H fp) elt te)
  (hs:∀ x,foldedSetIterable iter X.env x=pure x:=by intro _;rfl):PE X (.ListComp elt [⟨tg,iter,[c],0⟩] scope pos) (qgu wi capt g tc te):=by
 intro pins s σ H Q I h
 rw [eval_ListComp]
 refine wpAny_comprehension_free (use:=none) rfl hs B.clos B.kind B.names (qi1 (λacc C=>compPost (model X.prog X.w) X.A X.xe none (EP X pins σ Q) acc C) hc B hi hg ht he I h λD C s4 Hq m I4 q hn hf h1 h2 h3 h4=>?_)
 exact ⟨m,hn,λh' sb=>⟨.ref D,Hq,I4.turned (λb o hb e=>sb.extBut b o hb e) hf h1 (.inr h2) h3 h4,rfl,q⟩⟩
end
end Bs
namespace Bs
open PySem L2
noncomputable def sS (K:W.Frag):V->Option Int->Option Int->Hp->VK->Prop:=λx lo hi H Q=>∃ a xs,x=.ref a/\SqL K H a xs/\∀ p,H p=none->Q (.ref p) (upd H p (.lst (qg4 xs lo hi)))
end Bs
namespace Bs
open PySem PySem.Spec PyProof.Rows L2
section
variable {X:Cx}
theorem qp6:OpR X (inplaceOp .FloorDiv) qgP:=by
 intro pins s σ H x y v u Q I rx ry ⟨i,j,ex,ey,hc,q⟩
 subst ex ey
 obtain ⟨t,rfl⟩:=rx
 obtain ⟨t2,rfl⟩:=ry
 exact ifloordiv_int hc ⟨.int (i.fdiv j),H,I.tok _,⟨_,rfl⟩,q⟩ (Or.inr (I.ok.plr s I.bk))
theorem qp7:OpR X (inplaceOp .FloorDiv) qjw:=by
 intro pins s σ H x y v u Q I rx ry ⟨i,j,ex,ey,hc,q⟩
 have hc':0<j:=hc
 replace q:Q (.int (i / j)) H:=q
 rw [<-wbo i (wbn hc')] at q
 exact qp6 pins s σ H x y v u Q I rx ry ⟨i,j,ex,ey,wad hc',q⟩
theorem qkS:SlR X (sS X.K):=qpp
end
end Bs
namespace Bs
open PySem L2
noncomputable def qvS (n:Nat) (t:TGs):TG:=λv σ H Q=>∃ a xs,v=.ref a/\H a=some (.lst xs)/\xs.length=n/\t xs σ H Q
end Bs
namespace Bs
open PySem PySem.Spec PyProof.Rows L2
theorem qvT {m n:Nat} {a b:Int} (ha:Bd m a) (hb:Bd n b) (h:m+n<=134217728):IntMulOk a b:=IntMulOk.of_le (qpN ha) (qpN hb) h
end Bs
namespace Bs
open PySem L2
noncomputable def qvU (i j k:Nat) (ta:TA):TS:=λD σ H=>ta σ H λvs H1=>∃ u v w,vs=[u,v,w]/\D.nx (((σ.set i (some u)).set j (some v)).set k (some w)) H1
end Bs
namespace Bs
open PySem PySem.Spec PyProof.Rows L2
end Bs
namespace Bs
open PySem L2
noncomputable def inD (neg:Bool):R2:=λx y H Q=>∃ (p:Addr) (ys:List V) (d:PySem.W.Dat) (ds:List PySem.W.Dat) (b:Bool),y=.ref p/\H p=some (.lst ys)/\RepD H x d/\RepA H ys ds/\PySem.W.kqdOk 8 d=true/\(∀ e∈ds,PySem.W.kqdOk 8 e=true)/\(b=true↔d∈ds)/\Q (.bl (if neg=true then !b else b)) H
end Bs
namespace Bs
open PySem PySem.Spec PyProof.Rows L2
theorem qvV {d:PySem.W.Dat} {ds:List PySem.W.Dat} {b:Bool} (h1:PySem.W.kqdOk 8 d=true) (h2:∀ e∈ds,PySem.W.kqdOk 8 e=true) (hb:b=true↔d∈ds):((PySem.W.kqdPs ds).any λy=>PyData.eqv y (PySem.W.kqdP d))=b:=by
 rw [Bool.eq_iff_iff,hb]
 exact PySem.W.kqd_any ds d h2 h1
theorem qp8 {X:Cx} (hu:X.A.units+64<cLine):OpR X (compareOp .NotIn) (inD true):=by
 intro pins s σ H x y v u Q I rx ry h
 obtain ⟨p,ys,d,ds,b,e,hp,r1,r2,k1,k2,hb,q⟩:=h
 subst e
 obtain ⟨as,q1⟩:=qdy I r1 rx
 cases ry
 obtain ⟨its,rv,pl,_⟩:=I.list (SqL.of hp)
 obtain ⟨bs,q2⟩:=qjv I r2 rv
 obtain ⟨o,n,ho,hc,_,hd⟩:=pl
 have l:=PySem.W.kqd_layL k2
 have ld:=PySem.W.kqd_lay 8 d k1
 have l2:=ld.2
 refine SeqAt.notIn_list_reads (reads_list_at ho hc hd (by simpa using q2)) q1 l.1 ld.1 ?_ (by rw [qvV k1 k2 hb];exact ⟨.bl (!b),H,I,rfl,q⟩)
 have:=Nat.min_le_right (PyData.depthAll (PySem.W.kqdPs ds)) (PySem.W.kqdP d).depth
 omega
end Bs
namespace Bs
open PySem L2
noncomputable def qgQ (kvs:List (Key×V)) (k:Key):Option V:=(kvs.find? λkv=>kv.1=k).map (·.2)
noncomputable def qof (kvs:List (Key×V)) (k:Key) (v:V):List (Key×V):=
 if kvs.any (λkv=>kv.1=k) then kvs.map (λkv=>if kv.1=k then (kv.1,v) else kv) else kvs++[(k,v)]
noncomputable def gD:R2:=λx y H Q=>∃ p k kvs v,x=.ref p/\y=.str k/\H p=some (.dK kvs)/\qgQ kvs (.inr k)=some v/\Q v H
noncomputable def qum:V->V->V->Hp->(Hp->Prop)->Prop:=λo i v H Q=>∃ p k kvs,o=.ref p/\i=.str k/\H p=some (.dK kvs)/\kvs.length<sizeLine/\Q (upd H p (.dK (qof kvs (.inr k) v)))
noncomputable def qp9 (ks:List Str) (xs:List V):List (Key×V):=(ks.zip xs).map λp=>(.inr p.1,p.2)
noncomputable def qxB (ks:List Str) (t:TA):TE:=λσ H Q=>∀ p,H p=none->t σ (upd H p (.dK [])) λxs H2=>H2 p=some (.dK [])/\xs.length=ks.length/\Q (.ref p) (upd H2 p (.dK (qp9 ks xs)))
end Bs
namespace Bs
open PySem PySem.Spec PySem.Calls PyProof.Rows L2
theorem qqa {k:Key} {v:V}:∀ {kvs:List (Key×V)} {vs:List (Key×Value)},KV kvs vs->qgQ kvs k=some v->∃ u,valueAt vs k=some u/\RelV v u
 | _,_,.nil,h=>by cases h
 | _,_,.cons (a:=⟨k1,v1⟩) (b:=⟨k2,u2⟩) ⟨e,r⟩ t,h=>by
   have e':k1=k2:=e
   subst e'
   unfold qgQ at h
   unfold valueAt
   rw [List.find?_cons] at h ⊢
   by_cases c:k1=k
   ·rw [decide_eq_true (show (k1,v1).1=k from c)] at h
    rw [decide_eq_true (show (k1,u2).1=k from c)]
    have h':some v1=some v:=h
    rw [<-Option.some.inj h']
    exact ⟨u2,rfl,r⟩
   ·rw [decide_eq_false (show ¬ (k1,v1).1=k from c)] at h
    rw [decide_eq_false (show ¬ (k1,u2).1=k from c)]
    exact qqa t h
theorem qts {k:Key}:∀ {kvs:List (Key×V)} {vs:List (Key×Value)},KV kvs vs->kvs.any (λkv=>kv.1=k)=vs.any (λkv=>kv.1=k)
 | _,_,.nil=>rfl
 | _,_,.cons (a:=⟨k1,v1⟩) (b:=⟨k2,u2⟩) ⟨e,r⟩ t=>by
   have e':k1=k2:=e
   subst e'
   rw [List.any_cons,List.any_cons,qts t]
theorem qtt {k:Key} {v:V} {u:Value} (ru:RelV v u):∀ {kvs:List (Key×V)} {vs:List (Key×Value)},KV kvs vs->KV (kvs.map (λkv=>if kv.1=k then (kv.1,v) else kv)) (vs.map (λkv=>if kv.1=k then (kv.1,u) else kv))
 | _,_,.nil=>.nil
 | _,_,.cons (a:=⟨k1,v1⟩) (b:=⟨k2,u2⟩) ⟨e,r⟩ t=>by
   have e':k1=k2:=e
   subst e'
   rw [wa1,wa1]
   refine .cons ?_ (qtt ru t)
   by_cases c:k1=k
   ·rw [if_pos (show (k1,v1).1=k from c),if_pos (show (k1,u2).1=k from c)];exact ⟨rfl,ru⟩
   ·rw [if_neg (show ¬ (k1,v1).1=k from c),if_neg (show ¬ (k1,u2).1=k from c)];exact ⟨rfl,r⟩
theorem qqb {k:Key} {v:V} {u:Value} (ru:RelV v u):∀ {kvs:List (Key×V)} {vs:List (Key×Value)},KV kvs vs->KV (kvs++[(k,v)]) (vs++[(k,u)])
 | _,_,.nil=>.cons ⟨rfl,ru⟩ .nil
 | _,_,.cons p t=>.cons p (qqb ru t)
theorem qvW {k:Key} {v:V} {u:Value} {kvs:List (Key×V)} {vs:List (Key×Value)} (h:KV kvs vs) (ru:RelV v u):KV (qof kvs k v) (stored vs k u):=by
 unfold qof stored
 rw [qts h]
 by_cases c:vs.any (λkv=>kv.1=k)=true
 ·rw [if_pos c,if_pos c];exact qtt ru h
 ·rw [if_neg c,if_neg c];exact qqb ru h
theorem qsk {k:Key} {v:V} {kvs:List (Key×V)}:(qof kvs k v).length<=kvs.length+1:=by
 unfold qof
 split
 ·rw [waa];omega
 ·rw [wao];exact wac _
section
variable {X:Cx}
theorem Inv.dK {pins:List (Addr×Obj)} {σ:L2.St} {H:Hp} {s:Shared} {p:Addr} {kvs:List (Key×V)} (I:Inv X pins σ H s) (h:H p=some (.dK kvs)) :
  kvs.length<=sizeLine/\(p == sysModules)=false/\∃ vs,KV kvs vs/\s.heap.DictOf (qe2 X.prog X.w) p vs:=I.hok p _ h
theorem qgR:IxR X gD:=by
 intro value slice pins s σ H x y v u Q I rx ry h hs
 obtain ⟨p,k,kvs,z,rfl,rfl,hp,hl,q⟩:=h
 cases rx
 obtain ⟨t,rfl⟩:=ry
 obtain ⟨hz,hS,vs,r,m⟩:=Inv.dK I hp
 obtain ⟨w,hw,rw'⟩:=qqa r hl
 have fin:EP X pins σ Q w { s with toks:=s.toks+1 }:=⟨z,H,I.tok _,rw',q⟩
 exact subscriptTail_builtinR (x:=w) m.typeIs slot_dict_getitem.lookup
  (wpAny_getItem_of (Q:=λr s'=>r=w/\EP X pins σ Q r s') (qe3 X.prog X.w k t) m.mapOf hw ⟨rfl,fin⟩) hs
theorem qtu:PSet X qum:=by
 intro pins s σ H o i v ov iv u Q I ro ri rv h
 obtain ⟨p,k,kvs,rfl,rfl,hp,hz1,q⟩:=h
 cases ro
 obtain ⟨t,rfl⟩:=ri
 obtain ⟨hz,hS,vs,r,m⟩:=Inv.dK I hp
 have hl:kvs.length=vs.length:=Paired.length r
 refine wpAny_setItem_pairs (hsz:=by omega) (qe3 X.prog X.w k t) m λh' hm hs=>⟨_,I.write (x:=p) (e:=p) (o:=.dK (qof kvs (.inr k) v)) (by rw [hp];trivial) (.inl rfl) (λb u hb e=>(hs.2 b hb).trans e) ?_ ?_,q⟩
 ·obtain ⟨o,_,_,e,_⟩:=hm
  exact ⟨o,e⟩
 ·exact ⟨by have:=qsk (k:=.inr k) (v:=v) (kvs:=kvs);omega,hS,_,qvW r rv,hm⟩
end
end Bs
namespace Bs
open PySem PySem.Spec PySem.Calls PyProof.Rows L2
noncomputable def DRel:List Str->List V->List (Value×Value)->Prop
 | [],[],[]=>True
 | k::ks,x::xs,(kv,v)::vs=>(∃ t,kv=.str k t)/\RelV x v/\DRel ks xs vs
 | _,_,_=>False
noncomputable def PD (X:Cx) (pos:Pos) (keys:List (Option Expr)) (values:List Expr) (ks:List Str) (t:TA):Prop:=
 ∃ pairs:List (Sem Value×Sem Value),((evalEachOpt keys X.env).zip ((evalEach values X.env).map λv=>do let x <-v;standAt pos;pure x)=pairs.map λp=>(some p.1,p.2))/\pairs.length=ks.length/\
   ∀ (pins:List (Addr×Obj)) (s:Shared) (σ:L2.St) (H:Hp) (Q:List V->Hp->Prop),Inv X pins σ H s->t σ H Q->wpAny (model X.prog X.w) X.A (evalPairs pairs) (λvs s'=>∃ xs H2,Inv X pins σ H2 s'/\DRel ks xs vs/\Q xs H2) X.xe s
theorem qsl (X:Cx) {ks:List Str} {xs:List V} {vs:List (Value×Value)} (h:DRel ks xs vs):∃ kvs:List (Key×Value),Carries (qe2 X.prog X.w) vs kvs/\KV (qp9 ks xs) kvs/\kvs.map (·.1)=ks.map .inr:=by
 induction ks generalizing xs vs with
 | nil=>cases xs with
   | nil=>cases vs with
     | nil=>exact ⟨[],trivial,.nil,rfl⟩
     | cons=>exact h.elim
   | cons=>exact h.elim
 | cons k ks ih=>cases xs with
   | nil=>exact h.elim
   | cons x xs=>cases vs with
     | nil=>exact h.elim
     | cons p vs=>
       obtain ⟨⟨t,e⟩,r,d⟩:=h
       obtain ⟨kvs,c,kv,e'⟩:=ih d
       exact ⟨(.inr k,p.2)::kvs,⟨e ▸ qe3 X.prog X.w k t,rfl,c⟩,.cons ⟨rfl,r⟩ kv,by rw [wa1,wa1,e']⟩
theorem qkT:∀ {ks:List Str},ks.Nodup->(ks.map (Sum.inr:Str->Key)).Nodup
 | [],_=>.nil
 | k::ks,h=>by
   rw [wa1,wbw]
   rw [wbw] at h
   refine ⟨λm=>?_,qkT h.2⟩
   obtain ⟨k',hk,e⟩:=wai.mp m
   exact h.1 (Sum.inr.inj e ▸ hk)
section
variable {X:Cx} {pos:Pos}
theorem qvX:PD X pos [] [] [] qal:=⟨[],rfl,rfl,λ_ _ _ H _ I h=>evalPairs_nil ⟨[],H,I,trivial,h⟩⟩
theorem qjx {keys:List (Option Expr)} {values:List Expr} {ks:List Str} {t:TA} {e:Expr} {te:TE} {k:Str} {j p} (he:PE X e te) (h:PD X pos keys values ks t):PD X pos (some (.Constant (.str k) j p)::keys) (e::values) (k::ks) (qab te t):=by
 obtain ⟨pairs,sh,pl,hp⟩:=h
 refine ⟨(eval (.Constant (.str k) j p) X.env,do let x <-eval e X.env;standAt pos;pure x)::pairs,?_,by rw [way,way,pl],λpins s σ H Q I hq=>?_⟩
 ·rw [wa1,<-sh];rfl
 ·refine evalPairs_cons ?_
  refine thn (qc3 (X:=X) (x:=k) (j:=j) (pos:=p) pins s σ H (λx H1=>x=.str k/\qab te t σ H1 Q) I ⟨rfl,hq⟩) λu s1 ⟨x,H1,I1,r1,e1,q1⟩=>?_
  subst e1
  refine wpAny_bind (thn (he pins s1 σ H1 _ I1 q1) λv s2 ⟨y,H2,I2,r2,q2⟩=>wpAny_bind (wpAny_standAt (wpAny_pure ?_)))
  exact thn (hp pins s2 σ H2 _ I2 q2) λvs s3 ⟨xs,H3,I3,d,q3⟩=>⟨y::xs,H3,I3,⟨r1,r2,d⟩,q3⟩
theorem qvY {keys:List (Option Expr)} {values:List Expr} {ks:List Str} {t:TA} (h:PD X pos keys values ks t) (h0:ks≠[]) (h15:ks.length<=15) (nd:ks.Nodup):PE X (.Dict keys values pos) (qxB ks t):=by
 obtain ⟨pairs,sh,pl,hp⟩:=h
 intro pins s σ H Q I hq
 have hf:H s.heap.objs.size=none:=I.hok.fresh (wac _)
 obtain ⟨m,F⟩:=I.fr
 have hS:(s.heap.objs.size == sysModules)=false:=F.notModules (modules_low I.ok.mod.nolimit)
 have I1:Inv X pins σ (upd H s.heap.objs.size (.dK [])) { s with heap:=s.heap.push { cls:=.type "dict", data:=.dict #[] } }:=
  I.laid (t':=s.toks) (λb u e=>Heap.get?_push_of_some _ e) (wac _) ⟨wae _,hS,[],.nil,Heap.DictOf.new _⟩
 refine wpAny_Dict_pairs (knd:=qe2 X.prog X.w) sh (λz=>h0 (waz.mp (by rw [<-pl,z];rfl))) ⋯ (thn (hp pins _ σ _ _ I1 (hq _ hf)) λvs s1 ⟨xs,H2,I2,dr,hp2,hl,q⟩=>?_)
 obtain ⟨kvs,c,kv,e⟩:=qsl X dr
 obtain ⟨_,_,vs',r',m'⟩:=Inv.dK I2 hp2
 cases r'
 refine ⟨kvs,c,m',λh' hm hs=>?_⟩
 rw [merged_nil_of_nodup kvs (by rw [e];exact qkT nd)] at hm
 refine ⟨.ref s.heap.objs.size,upd H2 s.heap.objs.size (.dK (qp9 ks xs)),I2.write (x:=s.heap.objs.size) (e:=s.heap.objs.size) (by rw [hp2];trivial) (.inl rfl) (λb u hb e=>(hs.2 b hb).trans e) ?_ ?_,rfl,q⟩
 ·obtain ⟨o,_,_,e,_⟩:=hm
  exact ⟨o,e⟩
 ·have hk:(qp9 ks xs).length<=ks.length:=by unfold qp9;rw [waa,List.length_zip];omega
  exact ⟨by rw [sizeLine_eq];omega,hS,kvs,kv,hm⟩
end
end Bs
namespace Bs
open PySem L2
noncomputable def qqc:List V->Hp->VK->Prop:=λxs H Q=>∃ i j,xs=[.int i,.int j]/\j≠0/\∀ p,H p=none->Q (.ref p) (upd H p (.tup [.int (i.fdiv j),.int (i.fmod j)]))
noncomputable def ql8:V->List V->Hp->VK->Prop:=λx vs H Q=>∃ l xs y k,x=.ref l/\vs=[.int (k:Nat),y]/\H l=some (.lst xs)/\k<=xs.length/\xs.length<sizeLine/\Q .non (upd H l (.lst (xs.take k++y::xs.drop k)))
noncomputable def qvZ:V->List V->Hp->VK->Prop:=λx vs H Q=>∃ l y xs,x=.ref l/\vs=[.int 0]/\H l=some (.lst (y::xs))/\Q y (upd H l (.lst xs))
end Bs
namespace Bs
open PySem PySem.Spec PySem.Calls PyProof.Rows L2
section
variable {X:Cx}
theorem call_divmod:qeK X (.builtin "divmod") qqc:=by
 intro pins s σ H xs us Q I r h
 obtain ⟨i,j,rfl,j0,q⟩:=h
 obtain ⟨u,w',rfl,⟨t,rfl⟩,⟨t',rfl⟩⟩:=vals2 r
 have hf:H s.heap.objs.size=none:=I.hok.fresh (wac _)
 refine divmod_int j0 ?_ (.inr (I.ok.plr s I.bk))
 refine ⟨.ref s.heap.objs.size,upd H s.heap.objs.size (.tup [.int (i.fdiv j),.int (i.fmod j)]),I.laid (t':=s.toks+1+1) (λb u e=>Heap.get?_push_of_some _ e) (wac _) ?_,rfl,q _ hf⟩
 exact ⟨by show 2<=sizeLine;rw [sizeLine_eq];decide,[.int (i.fdiv j) s.toks,.int (i.fmod j) (s.toks+1)],.cons ⟨_,rfl⟩ (.cons ⟨_,rfl⟩ .nil),⟨_,Heap.get?_push_size _ rfl,rfl,_,rfl⟩⟩
theorem qqd:MtM X "list.insert" ql8:=by
 intro pins s σ H x vs v us Q I rx rv h
 obtain ⟨l,xs,y,k,rfl,rfl,hH,hk,hz,q⟩:=h
 cases rx
 obtain ⟨u,w',rfl,⟨t,rfl⟩,ry⟩:=rv.two
 obtain ⟨z,its,n,r,hl,e⟩:=I.lstM hH
 have k63:(k:Int)<2 ^ 63:=by have:=sizeLine_eq;omega
 have fit:¬ (!Builtin.List.listFitsIndex (k:Int))=true:=by rw [fitsIndex_both ⋯ k63];decide
 have zi:its.toArray.size<=sizeLine:=by rw [wam,<-hl];exact z
 generalize hi:(k:Int)=i at fit
 have M:=PySem.AutoSeq1.list_insert_list_int_val_1 l its.toArray n i t w' fit zi
 refine call_meets F.slot_list_insert ⟨_,e,rfl⟩ F.entry_list_insert (F.args_list_insert_3 _ _ _) M ⟨e,?_⟩
 subst hi
 refine ⟨.non,_,I.lset (its':=its.take k++w'::its.drop k) hH e ?_ ((r.take k).append (.cons ry (r.drop k))) ?_,rfl,q⟩
 ·show ((its.toArray.extract 0 (if (k:Int)<0 then ((k:Int)+(its.toArray.size:Int)).toNat else min (k:Int).toNat its.toArray.size)).push w'++its.toArray.extract (if (k:Int)<0 then ((k:Int)+(its.toArray.size:Int)).toNat else min (k:Int).toNat its.toArray.size))=_
  rw [if_neg ⋯,show min (k:Int).toNat its.toArray.size=k by rw [wam];omega]
  apply Array.ext'
  simp
  rw [List.take_of_length_le (by rw [wb5];exact wac _)]
 ·simp
  omega
end
end Bs
namespace Bs
open PySem PySem.Spec PyProof.Rows L2
theorem qqe:bootBuiltins "divmod" = some (.builtin "divmod"):=by decide +kernel
end Bs
namespace Bs
open PySem PySem.Spec PyProof.Rows L2
theorem qun {X:Cx}:MtM X "list.pop" qvZ:=by
 intro pins s σ H x vs v us Q I rx rv h
 obtain ⟨l,y,xs,rfl,rfl,hH,q⟩:=h
 exact qr1 pins s σ H _ _ v us Q I rx rv ⟨l,y::xs,0,0,y,rfl,rfl,hH,∅,∅,by simp [seqIndex?],rfl,q⟩
end Bs
namespace Bs
open PySem PySem.Spec PyProof.Rows L2
section
variable {X:Cx} {pins:List (Addr×Obj)} {σ:L2.St} {H:Hp} {s:Shared} {N:List Str} {capt:List (Option Nat)} {scope:Scope} {cl:List (Str×Addr)} {C:Addr} {fp:List Addr}
theorem qsm {i:Nat} {x:Str} {pos' spos:Pos} {elt iter tg c:Expr} {tc:TT} {pos:Pos} {wi:TI} {g:TG} {te:TE} (hN:X.N.Nodup) (hi':X.N[i]?=some x) (hx:Loc X.env.scope x) (hc:X.calm=true) (B:BlkOk X N capt scope cl) (hi:PI X tg iter wi)
  (hg:∀ C s H fp,PG (blk X N scope cl C s H fp) tg g) (ht:∀ C s H fp,PT (blk X N scope cl C s H fp) c tc) (he:∀ C s H fp,PE (blk X N scope cl C s H fp) elt te)
  (hsw:swapsWith (.ListComp elt [⟨tg,iter,[c],0⟩] scope pos) (some (.Name x pos')) spos.line X.env=pure true:=by rfl)
  (hs:∀ x,foldedSetIterable iter X.env x=pure x:=by intro _;rfl) (hf:X.fn x=true\/X.env.scope.names.lookup x=some .local:=by first | exact .inl rfl | exact .inr rfl | assumption) :
  PS X (.Assign [.Name x pos'] (.ListComp elt [⟨tg,iter,[c],0⟩] scope pos) spos) (qaM (qgu wi capt g tc te) (qai i)):=by
 intro pins s σ H D I h
 rw [exec_Assign_Name_used _ _ _ _ hsw]
 refine wpAny_bind (wpAny_standAt (wpAny_bind ?_))
 show wpAny _ X.A (do let _ <-comprehension (.ListComp elt [⟨tg,iter,[c],0⟩] scope pos) scope X.env _ (newList []) false (eval iter X.env) (some (assign (.Name x pos') X.env))) _ _ s
 refine wpAny_bind (wpAny_mono (wpAny_comprehension_free (use:=some (assign (.Name x pos') X.env)) (Q:=λ_ s'=>SP X pins D .next s') rfl hs B.clos B.kind B.names
  (qi1 (λacc C=>compPost (model X.prog X.w) X.A X.xe (some (assign (.Name x pos') X.env)) (λ_ s'=>SP X pins D .next s') acc C) hc B hi hg ht he I h λDa C s4 Hq m I4 q hn hfr h1 h2 h3 h4=>?_)) (λ_ s' hq=>wpAny_pure (wpAny_pure hq)) λ_ _ e=>e)
 show wpAny _ X.A (assign (.Name x pos') X.env (.ref Da)) _ _ _
 refine wpAny_assign_Name (qhp I4 hN hi' hx (v:=.ref Da) rfl (λs5 I5 ⟨a,sb5,ha⟩=>⟨m,hn.sameBut sb5 ?_,λh' sb=>⟨_,_,I5.turned (λb o hb e=>sb.extBut b o hb e) hfr h1 (.inr h2) h3 h4,q⟩⟩) hf)
 rcases ha with z | z
 ·rw [z];exact h1
 ·exact λe=>h3 x a z e.symm
end
end Bs
namespace Bs
open PySem L2
noncomputable def qsn:R2:=λx y H Q=>∃ a b:Bool,x=.bl a/\y=.bl b/\Q (.bl (!decide (a=b))) H
end Bs
namespace Bs
open PySem PySem.Spec PyProof.Rows L2
theorem ql9 {X:L2.Cx}:OpR X (compareOp .IsNot) qsn:=by
 intro pins s σ H x y v u Q I rx ry h
 obtain ⟨a,b,rfl,rfl,q⟩:=h
 cases rx
 cases ry
 refine wpAny_isNot_plain (by rfl) (qa9 I q ?_)
 cases a <;> cases b <;> rfl
end Bs
namespace Bs
theorem Bd.one:Bd 1 1:=by unfold Bd;decide
theorem Bd.pow {b:Nat} {x:Int} (h:Bd b x) (k:Nat):Bd (b*k+1) (x ^ k):=by
 induction k with
 | zero=>rw [Int.pow_zero,Nat.mul_zero];exact Bd.one
 | succ k ih=>
   have e:b*(k+1)+1=(b*k+1)+b:=by rw [Nat.mul_add,Nat.mul_one];omega
   rw [Int.pow_succ,e]
   exact ih.mul h
end Bs
namespace Bs
noncomputable abbrev Nu:=Int×Int
noncomputable def red (n m:Int):Nu:=(n / ((Int.gcd n m:Nat):Int),m / ((Int.gcd n m:Nat):Int))
noncomputable def nadd (q r:Nu):Nu:=red (q.1*r.2+r.1*q.2) (q.2*r.2)
noncomputable def nsub (q r:Nu):Nu:=red (q.1*r.2 - r.1*q.2) (q.2*r.2)
noncomputable def nmul (q r:Nu):Nu:=red (q.1*r.1) (q.2*r.2)
noncomputable def Wo (q:Nu) (n m:Int):Prop:=q.1*m=n*q.2
theorem qcL {n m:Int} (hm:0<m):Low (red n m).1 (red n m).2:=(qe6 (a:=n) hm).1
theorem qi2 {n m:Int} (hm:0<m):Wo (red n m) n m:=by
 have h:=(qf2 (a:=n) (b:=m) (s:=((Int.gcd n m:Nat):Int)) ⋯ (by rw [if_neg ⋯])).2.2.2.1
 rw [wbo _ ⋯,wbo _ ⋯] at h
 exact h
theorem qf6 {a b d:Int} (h:Low a b) (hd:b∣a*d):b∣d:=by
 have c:Nat.Coprime b.natAbs a.natAbs:=by
  have:Nat.Coprime a.natAbs b.natAbs:=h.one
  exact this.symm
 have z:=wbf.mpr hd
 rw [war] at z
 exact wbf.mp (c.dvd_of_dvd_mul_left z)
theorem qi3 {a b c d:Int} (h1:Low a b) (h2:Low c d) (h:a*d=c*b):a=c/\b=d:=by
 have d1:b∣d:=qf6 h1 ⟨c,by rw [h,Int.mul_comm]⟩
 have d2:d∣b:=qf6 h2 ⟨a,by rw [<-h,Int.mul_comm]⟩
 have e:b=d:=Int.dvd_antisymm (wbn h1.pos) (wbn h2.pos) d1 d2
 subst e
 exact ⟨Int.eq_of_mul_eq_mul_right (wad h1.pos) h,rfl⟩
theorem qkU {q r:Nu} {n m:Int} (h1:Low q.1 q.2) (h2:Low r.1 r.2) (hm:m≠0) (w1:Wo q n m) (w2:Wo r n m):q=r:=by
 unfold Wo at w1 w2
 have e:q.1*r.2=r.1*q.2:=by
  have z:m*(q.1*r.2)=m*(r.1*q.2):=by grind
  exact Int.eq_of_mul_eq_mul_left hm z
 obtain ⟨a,b⟩:=qi3 h1 h2 e
 exact Prod.ext a b
theorem quo {q:Nu} {n m:Int} (h1:Low q.1 q.2) (hm:0<m) (w:Wo q n m):q.1.natAbs<=n.natAbs/\q.2.natAbs<=m.natAbs:=by
 have e:q=red n m:=qkU h1 (qcL hm) (wad hm) w (qi2 hm)
 subst e
 exact ⟨(qe6 (a:=n) hm).2.1,(qe6 (a:=n) hm).2.2.1⟩
theorem qfr {q r:Nu} (h1:0<q.2) (h2:0<r.2):Low (nadd q r).1 (nadd q r).2:=qcL (wa2 h1 h2)
theorem qso {q r:Nu} (h1:0<q.2) (h2:0<r.2):Low (nsub q r).1 (nsub q r).2:=qcL (wa2 h1 h2)
theorem qfs {q r:Nu} (h1:0<q.2) (h2:0<r.2):Low (nmul q r).1 (nmul q r).2:=qcL (wa2 h1 h2)
theorem qni {m:Int} (hm:0<m):red 0 m=(0,1):=qkU (qcL hm) ⟨∅,∅⟩ (wad hm) (qi2 hm) (by unfold Wo;omega)
noncomputable def qcl (l:List Nu):Nat->Nat
 | 0=>0
 | m+1=>if (l.getD m (1,1)).1=0 then qcl l m else m+1
noncomputable def trim (l:List Nu):List Nu:=l.take (qcl l l.length)
theorem qjy (l:List Nu):∀ m,qcl l m<=m
 | 0=>wac 0
 | m+1=>by
   unfold qcl
   split
   ·exact Nat.le_succ_of_le (qjy l m)
   ·exact wac _
theorem qi4 (l:List Nu):∀ m,qcl l m=0\/(l.getD (qcl l m - 1) (1,1)).1≠0
 | 0=>.inl rfl
 | m+1=>by
   unfold qcl
   split
   ·exact qi4 l m
   ·rename_i h;exact .inr h
noncomputable def Nz (l:List Nu):Prop:=∀ q,l.getLast?=some q->q.1≠0
theorem qup {l:List Nu} (h:Nz l):trim l=l:=by
 unfold trim
 have e:qcl l l.length=l.length:=by
  cases hl:l.length with
  | zero=>rfl
  | succ m=>
    unfold qcl
    have hm:m<l.length:=by omega
    have z:(l.getD m (1,1)).1≠0:=by
     have q:=h l[m] (by rw [wca,hl];simp [hm])
     rw [wab,wah hm]
     exact q
    rw [if_neg z]
 rw [e,wa3]
theorem qdN (l:List Nu):Nz (trim l):=by
 intro q hq
 unfold trim at hq
 have hle:=qjy l l.length
 rw [wca,waw,Nat.min_eq_left hle] at hq
 rcases qi4 l l.length with z | z
 ·rw [z] at hq;simp at hq
 ·by_cases h0:qcl l l.length=0
  ·rw [h0] at hq;simp at hq
  ·rw [List.getElem?_take_of_lt ⋯] at hq
   rw [wab,hq] at z
   exact z
theorem qbC {l:List Nu} {q:Nu} (h:q∈trim l):q∈l:=List.mem_of_mem_take h
theorem qcw (l:List Nu):(trim l).length<=l.length:=by
 unfold trim;rw [waw];omega
noncomputable def qap (l:List Nu):Prop:=∀ q∈l,Low q.1 q.2
noncomputable def qw0 (n:Nat) (l:List Nu):Prop:=∀ q∈l,Bd n q.1/\Bd n q.2
noncomputable def qa3 (l:List Nu) (i:Nat):Nu:=l.getD i (0,1)
noncomputable def qsp (f:Nu->Nu->Nu) (l m:List Nu):List Nu:=(List.range (max l.length m.length)).map λi=>f (qa3 l i) (qa3 m i)
theorem quq:Low 0 1:=⟨∅,∅⟩
theorem qaN {l:List Nu} (h:qap l) (i:Nat):Low (qa3 l i).1 (qa3 l i).2:=by
 unfold qa3
 rw [wab]
 cases e:l[i]? with
 | none=>exact quq
 | some q=>exact h q (wan e)
end Bs
namespace Bs
noncomputable def qbJ (l:List Nu):Int:=l.foldl (λB q=>B*(q.2 / ((Int.gcd B q.2:Nat):Int))) 1
noncomputable def qa1 (l:List Nu):List Int:=l.map λq=>q.1*(qbJ l / q.2)
theorem qjz {B d:Int} (hB:0<B) (hd:0<d):0<B*(d / ((Int.gcd B d:Nat):Int))/\B∣B*(d / ((Int.gcd B d:Nat):Int))/\d∣B*(d / ((Int.gcd B d:Nat):Int))/\(d / ((Int.gcd B d:Nat):Int)).natAbs<=d.natAbs/\0<((Int.gcd B d:Nat):Int)/\((Int.gcd B d:Nat):Int)<=d:=by
 have g0:0<Int.gcd B d:=Int.gcd_pos_of_ne_zero_right B ⋯
 obtain ⟨k,hk⟩:((Int.gcd B d:Nat):Int)∣d:=wbs B d
 obtain ⟨m,hm⟩:((Int.gcd B d:Nat):Int)∣B:=wby B d
 have gp:(0:Int)<((Int.gcd B d:Nat):Int):=by omega
 have e:d / ((Int.gcd B d:Nat):Int)=k:=by
  have z:d / ((Int.gcd B d:Nat):Int)=(((Int.gcd B d:Nat):Int)*k) / ((Int.gcd B d:Nat):Int):=by rw [<-hk]
  rw [z,wcd _ (wad gp)]
 have kp:0<k:=by
  rcases Int.lt_or_le 0 k with h | h
  ·exact h
  ·exfalso
   have:=Int.mul_nonneg (wbn gp) (show 0<=-k by omega)
   rw [Int.mul_neg] at this
   omega
 have le:((Int.gcd B d:Nat):Int)<=d:=Int.le_of_dvd hd (wbs B d)
 refine ⟨by rw [e];exact wa2 hB kp,Int.dvd_mul_right ..,?_,?_,gp,le⟩
 ·rw [e]
  refine ⟨m,?_⟩
  have z:d*m=((Int.gcd B d:Nat):Int)*k*m:=by rw [<-hk]
  have z2:B*k=((Int.gcd B d:Nat):Int)*m*k:=by rw [<-hm]
  rw [z,z2];grind
 ·rw [e]
  have z:d.natAbs=(Int.gcd B d)*k.natAbs:=by
   have:d.natAbs=(((Int.gcd B d:Nat):Int)*k).natAbs:=by rw [<-hk]
   rw [this,war];simp
  rw [z]
  exact Nat.le_mul_of_pos_left _ g0
theorem qkV {b:Nat}:∀ (l:List Nu) (B:Int) (c:Nat),(∀ q∈l,0<q.2/\Bd b q.2)->0<B->Bd c B->
  0<l.foldl (λB q=>B*(q.2 / ((Int.gcd B q.2:Nat):Int))) B/\B∣l.foldl (λB q=>B*(q.2 / ((Int.gcd B q.2:Nat):Int))) B/\(∀ q∈l,q.2∣l.foldl (λB q=>B*(q.2 / ((Int.gcd B q.2:Nat):Int))) B)/\Bd (c+b*l.length) (l.foldl (λB q=>B*(q.2 / ((Int.gcd B q.2:Nat):Int))) B)
 | [],B,c,_,hB,bB=>⟨hB,wbp B,(λ_ h=>nomatch h),by simpa using bB⟩
 | q::l,B,c,h,hB,bB=>by
   obtain ⟨q0,qb⟩:=h q (wbh ..)
   obtain ⟨s1,s2,s3,s4,_,_⟩:=qjz hB q0
   obtain ⟨r1,r2,r3,r4⟩:=qkV l (B*(q.2 / ((Int.gcd B q.2:Nat):Int))) (c+b) (λr hr=>h r (wbi _ hr)) s1 (bB.mul (qb.le s4))
   rw [List.foldl_cons]
   refine ⟨r1,wa0 s2 r2,λr hr=>?_,r4.mono (by rw [way,Nat.mul_add,Nat.mul_one];omega)⟩
   rcases wau.mp hr with rfl | hr
   ·exact wa0 s3 r2
   ·exact r3 r hr
theorem qur {b:Nat} {l:List Nu} (h1:qap l) (h2:qw0 b l):0<qbJ l/\(∀ q∈l,q.2∣qbJ l)/\Bd (1+b*l.length) (qbJ l):=by
 obtain ⟨r1,_,r3,r4⟩:=qkV (b:=b) l 1 1 (λq hq=>⟨(h1 q hq).pos,(h2 q hq).2⟩) ∅ Bd.one
 exact ⟨r1,r3,r4⟩
theorem qit {B d:Int} (hB:0<B) (hd:0<d):(B / d).natAbs<=B.natAbs:=by
 have h1:0<=B / d:=Int.ediv_nonneg (wbn hB) (wbn hd)
 have h2:B / d<=B:=Int.ediv_le_self d (wbn hB)
 omega
theorem qv0 {q:Nu} {B:Int} (hd:q.2∣B):Wo q (q.1*(B / q.2)) B:=by
 unfold Wo
 rw [Int.mul_assoc,Int.ediv_mul_cancel hd]
noncomputable def ps (ns ms:List Int):Nat->Nat->Int
 | 0,_=>0
 | i+1,k=>ps ns ms i k+(if i<=k/\k - i<ms.length then ns.getD i 0*ms.getD (k - i) 0 else 0)
noncomputable def in2 (ns ms:List Int) (i j k:Nat):Int:=ps ns ms i k+(if i<=k/\k - i<j then ns.getD i 0*ms.getD (k - i) 0 else 0)
theorem qsq (ns ms:List Int) (i k:Nat):in2 ns ms i 0 k=ps ns ms i k:=by
 unfold in2;rw [if_neg ⋯];omega
theorem qnj (ns ms:List Int) (i j k:Nat):in2 ns ms i (j+1) k=if k=i+j then in2 ns ms i j k+ns.getD i 0*ms.getD j 0 else in2 ns ms i j k:=by
 unfold in2
 by_cases h:k=i+j
 ·subst h
  rw [if_pos rfl,if_pos ⟨⋯,⋯⟩,if_neg ⋯,show i+j - i=j by omega];omega
 ·rw [if_neg h]
  congr 1
  by_cases h2:i<=k/\k - i<j
  ·rw [if_pos h2,if_pos ⟨h2.1,⋯⟩]
  ·rw [if_neg h2,if_neg ⋯]
theorem qcM {c:Nat} {ns:List Int} (h:∀ z∈ns,Bd c z) (i:Nat):Bd c (ns.getD i 0):=by
 rw [wab]
 cases e:ns[i]? with
 | none=>exact Nat.pow_pos ∅
 | some z=>exact h z (wan e)
theorem qbU (c:Nat):Bd c 0:=Nat.pow_pos ∅
theorem qv1 {c d:Nat} {ns ms:List Int} (h1:∀ z∈ns,Bd c z) (h2:∀ z∈ms,Bd d z):∀ i k,Bd (c+d+i) (ps ns ms i k)
 | 0,_=>qbU _
 | i+1,k=>by
   unfold ps
   refine (qv1 h1 h2 i k).add ?_
   split
   ·exact ((qcM h1 i).mul (qcM h2 (k - i))).mono ⋯
   ·exact qbU _
theorem qma {ns ms:List Int}:∀ i k,i+ms.length<=k+1->ps ns ms i k=0
 | 0,_,_=>rfl
 | i+1,k,h=>by
   unfold ps
   rw [qma i k ⋯,if_neg ⋯];rfl
noncomputable def qtv (l m:List Nu) (n:Nat):List Nu:=(List.range n).map λk=>red (ps (qa1 l) (qa1 m) l.length k) (qbJ l*qbJ m)
theorem qi5 {l m:List Nu}:∀ {n:Nat},(∀ i,i<n->l.getD i (1,1)=m.getD i (1,1))->qcl l n=qcl m n
 | 0,_=>rfl
 | n+1,h=>by
   unfold qcl
   rw [h n (wbq n),qi5 λi hi=>h i (Nat.lt_succ_of_lt hi)]
theorem qkW (l:List Nu):trim (l++[(0,1)])=trim l:=by
 unfold trim
 rw [wao,List.length_singleton]
 have e:qcl (l++[(0,1)]) (l.length+1)=qcl l l.length:=by
  rw [show qcl (l++[(0,1)]) (l.length+1)=if ((l++[((0,1):Nu)]).getD l.length (1,1)).1=0 then qcl (l++[(0,1)]) l.length else l.length+1 from rfl]
  rw [if_pos (by simp [wab])]
  exact qi5 λi hi=>by rw [wab,wab,List.getElem?_append_left hi]
 rw [e,List.take_append_of_le_length (qjy l l.length)]
theorem qkX (l m:List Nu) (n:Nat):qtv l m (n+1)=qtv l m n++[red (ps (qa1 l) (qa1 m) l.length n) (qbJ l*qbJ m)]:=by
 unfold qtv
 rw [List.range_succ,wbj]
 rfl
theorem qf7 (l m:List Nu) (hB:0<qbJ l*qbJ m):∀ n,(∀ k,k<n->ps (qa1 l) (qa1 m) l.length k=0)->trim (qtv l m n)=[]
 | 0,_=>rfl
 | n+1,h=>by
   rw [qkX,h n (wbq n),qni hB,qkW]
   exact qf7 l m hB n λk hk=>h k (Nat.lt_succ_of_lt hk)
theorem qqf {ns ms:List Int} (h:ms.length=0):∀ i k,ps ns ms i k=0
 | 0,_=>rfl
 | i+1,k=>by unfold ps;rw [qqf h i k,if_neg ⋯];rfl
theorem qqg {l m:List Nu} (hB:0<qbJ l*qbJ m) (n2:(qa1 m).length=m.length) :
  trim (qtv l m (l.length+m.length))=trim (List.map (λn=>red n (qbJ l*qbJ m)) (if l.length=0\/m.length=0 then [] else List.map (λk=>ps (qa1 l) (qa1 m) l.length k) (List.range (l.length+m.length - 1)))):=by
 by_cases h1:l.length=0
 ·rw [if_pos (.inl h1)]
  refine qf7 l m hB _ λk _=>?_
  rw [h1];rfl
 ·by_cases h2:m.length=0
  ·rw [if_pos (.inr h2)]
   exact qf7 l m hB _ λk _=>qqf (by rw [n2];exact h2) _ _
  ·rw [if_neg ⋯]
   obtain ⟨n,hn⟩:∃ n,l.length+m.length=n+1:=⟨l.length+m.length - 1,⋯⟩
   rw [hn,qkX,qma l.length n (by rw [n2];omega),qni hB,qkW,Nat.add_sub_cancel,List.map_map]
   rfl
end Bs
namespace Bs
noncomputable def val (q:Nu):Rat:=(q.1:Rat) / (q.2:Rat)
theorem zdiv (x:Rat):0 / x=0:=by rw [Rat.div_def,Rat.zero_mul]
theorem qaI {z:Int} (h:z≠0):(z:Rat)≠0:=by exact_mod_cast h
theorem qhH {q:Nu} {n m:Int} (hq:q.2≠0) (hm:m≠0) (w:Wo q n m):val q=(n:Rat) / (m:Rat):=by
 have h1:=qaI hq
 have h2:=qaI hm
 have w':(q.1:Rat)*m=n*q.2:=by unfold Wo at w;exact_mod_cast w
 unfold val
 grind
theorem qe7 {q r:Nu} (h1:Low q.1 q.2) (h2:Low r.1 r.2) (h:val q=val r):q=r:=by
 have a:=qaI (wad h1.pos)
 have b:=qaI (wad h2.pos)
 unfold val at h
 have z:(q.1:Rat)*r.2=r.1*q.2:=by grind
 have z':q.1*r.2=r.1*q.2:=by exact_mod_cast z
 obtain ⟨x,y⟩:=qi3 h1 h2 z'
 exact Prod.ext x y
theorem qhI {n m:Int} (hm:0<m):val (red n m)=(n:Rat) / (m:Rat):=qhH (wad (qcL hm).pos) (wad hm) (qi2 hm)
theorem qha {q r:Nu} (h1:0<q.2) (h2:0<r.2):val (nadd q r)=val q+val r:=by
 unfold nadd
 rw [qhI (wa2 h1 h2)]
 have a:=qaI (wad h1)
 have b:=qaI (wad h2)
 unfold val
 push_cast
 grind
theorem qft {q r:Nu} (h1:0<q.2) (h2:0<r.2):val (nmul q r)=val q*val r:=by
 unfold nmul
 rw [qhI (wa2 h1 h2)]
 have a:=qaI (wad h1)
 have b:=qaI (wad h2)
 unfold val
 push_cast
 grind
noncomputable def qcN (n m:Int):Nu:=if m<0 then red (-n) (-m) else red n m
theorem qdO {n m:Int} (hm:m≠0):Low (qcN n m).1 (qcN n m).2:=by
 unfold qcN
 split
 ·exact qcL ⋯
 ·exact qcL ⋯
theorem qey {n m:Int} (hm:m≠0):val (qcN n m)=(n:Rat) / (m:Rat):=by
 unfold qcN
 split
 ·rw [qhI ⋯]
  have:=qaI hm
  push_cast
  grind
 ·exact qhI ⋯
theorem qsr {n m N:Int} (hm:m≠0) (h:m∣N):(qcN n m).2∣N:=by
 have aux:∀ {n m:Int},0<m->(red n m).2∣m:=λ{n m} h0=>by
  unfold red
  exact Int.ediv_dvd_of_dvd (wbs n m)
 unfold qcN
 split
 ·exact wa0 (aux ⋯) (wa0 (Int.neg_dvd.mpr (wbp m)) h)
 ·exact wa0 (aux ⋯) h
theorem qqh {c d:Nat} {n m:Int} (hm:m≠0) (h1:Bd c n) (h2:Bd d m):Bd c (qcN n m).1/\Bd d (qcN n m).2:=by
 have aux:∀ {n m:Int},0<m->Bd c n->Bd d m->Bd c (red n m).1/\Bd d (red n m).2:=λ{n m} h0 h1 h2=>by
  have w:=quo (qcL h0) h0 (qi2 (n:=n) h0)
  exact ⟨h1.le w.1,h2.le w.2⟩
 unfold qcN
 split
 ·exact aux ⋯ h1.neg h2.neg
 ·exact aux ⋯ h1 h2
noncomputable def pwo (l:List Nu) (k:Nat):Rat:=val (qa3 l k)
theorem qxZ {q:Nu} (h:Low q.1 q.2) (z:q.1=0):q=(0,1):=qe7 h quq (by unfold val;rw [z];show ((0:Int):Rat) / _=((0:Int):Rat) / _;rw [show ((0:Int):Rat)=0 from rfl,zdiv,zdiv])
theorem qqi {l:List Nu} (hl:qap l) (k:Nat):qa3 (trim l) k=qa3 l k:=by
 have key:∀ (m:Nat),m<=l.length->(∀ j,m<=j->j<l.length->(qa3 l j).1=0)->∀ j,qcl l m<=j->j<l.length->(qa3 l j).1=0:=by
  intro m
  induction m with
  | zero=>intro _ h j hj1 hj2;exact h j ⋯ hj2
  | succ m ih=>
    intro hm h j h1 h2
    rw [show qcl l (m+1)=if (l.getD m (1,1)).1=0 then qcl l m else m+1 from rfl] at h1
    split at h1
    ·rename_i z
     refine ih ⋯ (λj hj1 hj2=>?_) j h1 h2
     by_cases e:j=m
     ·subst e
      unfold qa3
      rw [wab,wah hj2] at z ⊢
      exact z
     ·exact h j ⋯ hj2
    ·exact h j h1 h2
 unfold trim
 by_cases h1:k<qcl l l.length
 ·unfold qa3
  rw [wab,wab,List.getElem?_take_of_lt h1]
 ·have e:qa3 (l.take (qcl l l.length)) k=(0,1):=by
   unfold qa3
   rw [wab,wax (by rw [waw];omega)]
   rfl
  rw [e]
  by_cases h2:k<l.length
  ·exact (qxZ (qaN hl k) (key l.length (wac _) (λj a b=>absurd b ⋯) k ⋯ h2)).symm
  ·unfold qa3
   rw [wab,wax ⋯]
   rfl
theorem qdP {l:List Nu} (hl:qap l) (k:Nat):pwo (trim l) k=pwo l k:=by unfold pwo;rw [qqi hl]
theorem qjA {l:List Nu} {k:Nat} (h:l.length<=k):qa3 l k=(0,1):=by
 unfold qa3
 rw [wab,wax h]
 rfl
theorem qa0 {l:List Nu} {k:Nat} (h:l.length<=k):pwo l k=0:=by
 unfold pwo
 rw [qjA h]
 exact zdiv _
theorem qtw {a b:List Nu} (nb:Nz b) (h:∀ k,qa3 a k=qa3 b k):b.length<=a.length:=by
 rcases waj a.length b.length with hlt | hge
 ·exfalso
  have hb:b.length - 1<b.length:=by omega
  have q:=nb b[b.length - 1] (by rw [wca];exact wah hb)
  have e:=h (b.length - 1)
  rw [qjA ⋯] at e
  unfold qa3 at e
  rw [wab,wah hb] at e
  have e':((0,1):Nu)=b[b.length - 1]:=e
  rw [<-e'] at q
  exact q rfl
 ·exact hge
theorem qnk {a b:List Nu} (ha:qap a) (hb:qap b) (na:Nz a) (nb:Nz b) (h:∀ k,pwo a k=pwo b k):a=b:=by
 have g:∀ k,qa3 a k=qa3 b k:=λk=>qe7 (qaN ha k) (qaN hb k) (h k)
 have e:a.length=b.length:=wbz (qtw na λk=>(g k).symm) (qtw nb g)
 refine List.ext_getElem e λi h1 h2=>?_
 have z:=g i
 unfold qa3 at z
 rw [wab,wab,wah h1,wah h2] at z
 exact z
noncomputable def cv (f g:Nat->Rat):Nat->Nat->Rat
 | 0,_=>0
 | n+1,k=>cv f g n k+(if n<=k then f n*g (k - n) else 0)
theorem qtx {f f' g:Nat->Rat} {s:Nat} {x:Rat} (h0:f s=0) (h1:f' s=x) (h2:∀ i,i≠s->f' i=f i):∀ n k,cv f' g n k=cv f g n k+(if s<n/\s<=k then x*g (k - s) else 0)
 | 0,k=>by unfold cv;rw [if_neg ⋯];exact (Rat.add_zero 0).symm
 | n+1,k=>by
   unfold cv
   rw [qtx h0 h1 h2 n k]
   by_cases e:n=s
   ·subst e
    rw [h0,h1]
    by_cases hk:n<=k
    ·rw [if_pos hk,if_pos hk,if_neg ⋯,if_pos ⟨⋯,hk⟩]
     grind
    ·rw [if_neg hk,if_neg hk,if_neg ⋯,if_neg ⋯]
   ·rw [h2 n e]
    have e1:(s<n+1/\s<=k)↔(s<n/\s<=k):=by omega
    simp only [e1]
    grind
theorem qqj {f g:Nat->Rat}:∀ n k,(∀ i,i<n->f i=0)->cv f g n k=0
 | 0,_,_=>rfl
 | n+1,k,h=>by
   unfold cv
   rw [qqj n k λi hi=>h i ⋯,h n ⋯]
   split <;> grind
theorem qqk {f g:Nat->Rat} {n:Nat} (h:∀ i,n<=i->f i=0):∀ d k,cv f g (n+d) k=cv f g n k
 | 0,_=>rfl
 | d+1,k=>by
   show cv f g (n+d) k+(if n+d<=k then f (n+d)*g (k - (n+d)) else 0)=_
   rw [qqk h d k,h (n+d) ⋯]
   split <;> grind
theorem qnl {f f' g:Nat->Rat} (h:∀ i,f i=f' i):∀ n k,cv f g n k=cv f' g n k
 | 0,_=>rfl
 | n+1,k=>by unfold cv;rw [qnl h n k,h n]
noncomputable def ovN (l:List Nu) (M:Int):List Int:=l.map λq=>q.1*(M / q.2)
noncomputable def Ov (l:List Nu) (M:Int):Prop:=0<M/\∀ q∈l,q.2∣M
theorem qql {l:List Nu} {M:Int} (i:Nat):(ovN l M).getD i 0=(qa3 l i).1*(M / (qa3 l i).2):=by
 unfold ovN qa3
 rw [wab,wab,waf]
 cases l[i]? with
 | none=>simp
 | some q=>rfl
theorem Ov.get {l:List Nu} {M:Int} (h:Ov l M) (i:Nat):(qa3 l i).2∣M:=by
 unfold qa3
 rw [wab]
 cases e:l[i]? with
 | none=>exact Int.one_dvd M
 | some q=>exact h.2 q (wan e)
theorem qv2 {l:List Nu} {M:Int} (h:Ov l M) (i:Nat):Wo (qa3 l i) ((ovN l M).getD i 0) M:=by
 rw [qql]
 exact qv0 (h.get i)
theorem qgS {l:List Nu} {M:Int} (hl:qap l) (h:Ov l M) (i:Nat):pwo l i=((ovN l M).getD i 0:Rat) / (M:Rat):=qhH (wad (qaN hl i).pos) (wad h.1) (qv2 h i)
noncomputable def qv3 (l m:List Nu) (M1 M2:Int) (n:Nat):List Nu:=(List.range n).map λk=>red (ps (ovN l M1) (ovN m M2) l.length k) (M1*M2)
theorem qus {l m:List Nu} {M1 M2:Int} (hl:qap l) (hm:qap m) (h1:Ov l M1) (h2:Ov m M2):∀ n k,(ps (ovN l M1) (ovN m M2) n k:Rat) / ((M1*M2:Int):Rat)=cv (pwo l) (pwo m) n k
 | 0,k=>zdiv _
 | n+1,k=>by
   have a:=qaI (wad h1.1)
   have b:=qaI (wad h2.1)
   have ih:=qus hl hm h1 h2 n k
   unfold ps cv
   rw [<-ih]
   by_cases hk:n<=k
   ·rw [if_pos hk,qgS hl h1,qgS hm h2]
    by_cases h3:k - n<(ovN m M2).length
    ·rw [if_pos ⟨hk,h3⟩]
     push_cast
     grind
    ·rw [if_neg ⋯,show (ovN m M2).getD (k - n) 0=0 by rw [wab,wax ⋯];rfl]
     push_cast
     grind
   ·rw [if_neg hk,if_neg ⋯]
    push_cast
    grind
theorem qss {l m:List Nu} {M1 M2:Int} {n:Nat} (h1:Ov l M1) (h2:Ov m M2):qap (qv3 l m M1 M2 n):=by
 intro q hq
 obtain ⟨k,_,rfl⟩:=wai.mp hq
 exact qcL (wa2 h1.1 h2.1)
theorem qv4 {l m:List Nu} {M1 M2:Int} (hl:qap l) (hm:qap m) (h1:Ov l M1) (h2:Ov m M2) (k:Nat):pwo (qv3 l m M1 M2 (l.length+m.length)) k=cv (pwo l) (pwo m) l.length k:=by
 rw [<-qus hl hm h1 h2]
 have b0:=wa2 h1.1 h2.1
 by_cases h:k<l.length+m.length
 ·have e:qa3 (qv3 l m M1 M2 (l.length+m.length)) k=red (ps (ovN l M1) (ovN m M2) l.length k) (M1*M2):=by
   unfold qv3 qa3
   rw [wab,waf,wbk h]
   rfl
  unfold pwo
  rw [e,qhI b0]
 ·rw [qa0 (by unfold qv3;rw [waa,wal];omega),qma l.length k (by unfold ovN;rw [waa];omega)]
  exact (zdiv _).symm
theorem lcm_dvd {B d M:Int} (hB:0<B) (hd:0<d) (h1:B∣M) (h2:d∣M):B*(d / ((Int.gcd B d:Nat):Int))∣M:=by
 have z:((Nat.lcm B.natAbs d.natAbs:Nat):Int)∣M:=wbf.mp (by rw [wba];exact Nat.lcm_dvd (wbf.mpr h1) (wbf.mpr h2))
 have e:((Nat.lcm B.natAbs d.natAbs:Nat):Int)=B*(d / ((Int.gcd B d:Nat):Int)):=by
  unfold Nat.lcm
  rw [Nat.mul_div_assoc _ (Nat.gcd_dvd_right _ _)]
  push_cast
  rw [show ((B.natAbs:Nat):Int)=B by omega,show ((d.natAbs:Nat):Int)=d by omega]
  rfl
 rw [<-e]
 exact z
theorem qjB {M:Int}:∀ (l:List Nu) (B:Int),(∀ q∈l,0<q.2/\q.2∣M)->0<B->B∣M->0<l.foldl (λB q=>B*(q.2 / ((Int.gcd B q.2:Nat):Int))) B/\l.foldl (λB q=>B*(q.2 / ((Int.gcd B q.2:Nat):Int))) B∣M
 | [],B,_,hB,h=>⟨hB,h⟩
 | q::l,B,hq,hB,h=>by
   obtain ⟨q0,qd⟩:=hq q (wbh ..)
   obtain ⟨s1,_⟩:=qjz hB q0
   exact qjB l _ (λr hr=>hq r (wbi _ hr)) s1 (lcm_dvd hB q0 h qd)
theorem qdh {n:Nat} {a b:Int} (hb:b≠0) (h:a∣b) (bd:Bd n b):Bd n a:=bd.le (wbu ⋯ (wbf.mpr h))
theorem qbi {l:List Nu} (hl:qap l):Ov l (qbJ l):=by
 obtain ⟨a,b,_⟩:=qur (b:=(l.foldl (λn q=>n+q.1.natAbs+q.2.natAbs) 1)) hl (λq hq=>by
  have big:∀ (l:List Nu) (n:Nat),n<=l.foldl (λn q=>n+q.1.natAbs+q.2.natAbs) n/\∀ q∈l,q.1.natAbs+q.2.natAbs<=l.foldl (λn q=>n+q.1.natAbs+q.2.natAbs) n:=by
   intro l
   induction l with
   | nil=>intro n;exact ⟨wac _,λ_ h=>nomatch h⟩
   | cons r l ih=>
     intro n
     obtain ⟨i1,i2⟩:=ih (n+r.1.natAbs+r.2.natAbs)
     rw [List.foldl_cons]
     refine ⟨⋯,λq hq=>?_⟩
     rcases wau.mp hq with rfl | hq
     ·omega
     ·exact i2 q hq
  have z:=(big l 1).2 q hq
  exact ⟨Nat.lt_of_le_of_lt ⋯ (Nat.lt_two_pow_self),Nat.lt_of_le_of_lt ⋯ (Nat.lt_two_pow_self)⟩)
 exact ⟨a,b⟩
theorem qnm {l:List Nu} {M:Int} (hl:qap l) (h:Ov l M):qbJ l∣M:=(qjB l 1 (λq hq=>⟨(hl q hq).pos,h.2 q hq⟩) ∅ (Int.one_dvd M)).2
theorem qjC (l:List Nu):qa1 l=ovN l (qbJ l):=rfl
end Bs
namespace Bs
section
variable {α:Type} [Lean.Grind.CommRing α]
noncomputable def cvL:List α->(Nat->α)->Nat->α
 | [],_,_=>0
 | x::a,b,k=>x*b k+(match k with | 0=>0 | k+1=>cvL a b k)
theorem qaG (b:Nat->α) (k:Nat):cvL [] b k=0:=rfl
theorem qar (x:α) (a:List α) (b:Nat->α):cvL (x::a) b 0=x*b 0+0:=rfl
theorem qao (x:α) (a:List α) (b:Nat->α) (k:Nat):cvL (x::a) b (k+1)=x*b (k+1)+cvL a b k:=rfl
theorem qaq {b c:Nat->α} (h:∀ k,b k=c k):∀ (a:List α) (k:Nat),cvL a b k=cvL a c k
 | [],_=>rfl
 | x::a,0=>by rw [qar,qar,h 0]
 | x::a,k+1=>by rw [qao,qao,h (k+1),qaq h a k]
theorem qdQ (b c:Nat->α):∀ (a:List α) (k:Nat),cvL a (λk=>b k+c k) k=cvL a b k+cvL a c k
 | [],_=>by rw [qaG,qaG,qaG];grind
 | x::a,0=>by rw [qar,qar,qar];grind
 | x::a,k+1=>by rw [qao,qao,qao,qdQ b c a k];grind
theorem qba (s:α) (b:Nat->α):∀ (a:List α) (k:Nat),cvL a (λk=>s*b k) k=s*cvL a b k
 | [],_=>by rw [qaG,qaG];grind
 | x::a,0=>by rw [qar,qar];grind
 | x::a,k+1=>by rw [qao,qao,qba s b a k];grind
noncomputable def up1 (b:Nat->α):Nat->α
 | 0=>0
 | k+1=>b k
theorem qqm (b:Nat->α):∀ (a:List α) (k:Nat),cvL a (up1 b) k=up1 (cvL a b) k
 | [],0=>rfl
 | [],k+1=>rfl
 | x::a,0=>by rw [qar];show x*0+0=0;grind
 | x::a,1=>by
   rw [qao]
   have h:=qqm b a 0
   rw [h]
   show x*b 0+0=cvL (x::a) b 0
   rw [qar]
 | x::a,k+2=>by
   rw [qao,qqm b a (k+1)]
   show x*b (k+1)+cvL a b k=cvL (x::a) b (k+1)
   rw [qao]
theorem qdi (x:α) (a:List α) (b:Nat->α) (k:Nat):cvL (x::a) b k=x*b k+up1 (cvL a b) k:=by
 cases k with
 | zero=>exact qar x a b
 | succ k=>exact qao x a b k
theorem qez (c:Nat->α):∀ (a b:List α) (k:Nat),cvL a (cvL b c) k=cvL b (cvL a c) k
 | [],b,k=>by
   rw [qaG]
   have e:cvL b (cvL [] c) k=cvL b (λk=>0*c k) k:=qaq (λk=>by rw [qaG];grind) b k
   rw [e,qba]
   grind
 | x::a,b,k=>by
   rw [qdi]
   have e:cvL b (cvL (x::a) c) k=cvL b (λk=>x*c k+up1 (cvL a c) k) k:=qaq (λk=>qdi x a c k) b k
   rw [e,qdQ,qba,qqm]
   have e2:up1 (cvL a (cvL b c)) k=up1 (cvL b (cvL a c)) k:=by
    cases k with
    | zero=>rfl
    | succ k=>exact qez c a b k
   rw [e2]
noncomputable def qca:Nat->α
 | 0=>1
 | _+1=>0
theorem qcm:∀ (a:List α) (k:Nat),cvL a qca k=a.getD k 0
 | [],k=>by rw [qaG];simp
 | x::a,0=>by rw [qar];show x*1+0=x;grind
 | x::a,k+1=>by
   rw [qao,qcm a k]
   show x*0+a.getD k 0=(x::a).getD (k+1) 0
   rw [List.getD_cons_succ]
   grind
end
end Bs
namespace Bs
theorem qmb {n k:Nat}:k∣2 ^ n↔∃ a,a<=n/\k=2 ^ a:=by
 constructor
 ·induction n generalizing k with
  | zero=>intro h;exact ⟨0,wac 0,by simpa using h⟩
  | succ n ih=>
    intro h
    by_cases h2:2∣k
    ·obtain ⟨j,rfl⟩:=h2
     rw [wa6,wbm (2 ^ n) 2] at h
     obtain ⟨a,ha,e⟩:=ih (Nat.dvd_of_mul_dvd_mul_left ∅ h)
     exact ⟨a+1,⋯,by rw [e,wa6,wbm]⟩
    ·have c:Nat.Coprime k 2:=by
      have:Nat.gcd k 2∣2:=Nat.gcd_dvd_right k 2
      have h3:=wbu ∅ this
      have h4:Nat.gcd k 2≠2:=λz=>h2 (by rw [<-z];exact Nat.gcd_dvd_left k 2)
      have h5:Nat.gcd k 2≠0:=λz=>by have:=Nat.eq_zero_of_gcd_eq_zero_right z;omega
      show Nat.gcd k 2=1
      omega
     rw [wa6] at h
     obtain ⟨a,ha,e⟩:=ih (c.dvd_of_dvd_mul_right h)
     exact ⟨a,⋯,e⟩
 ·rintro ⟨a,ha,rfl⟩
  exact Nat.pow_dvd_pow 2 ha
structure Pr (p:Nat):Prop where
 two:2<=p
 div:∀ d,d∣p->d=1\/d=p
theorem Pr.cop {p:Nat} (h:Pr p) {a:Nat} (ha:¬ p∣a):Nat.gcd a p=1:=by
 rcases h.div _ (Nat.gcd_dvd_right a p) with e | e
 ·exact e
 ·exact absurd (e ▸ Nat.gcd_dvd_left a p) ha
theorem Pr.mul {p:Nat} (h:Pr p) {a b:Nat} (hd:p∣a*b):p∣a\/p∣b:=by
 by_cases ha:p∣a
 ·exact .inl ha
 ·refine .inr (Nat.Coprime.dvd_of_dvd_mul_left (k:=p) (m:=a) ?_ hd)
  have:=h.cop ha
  rw [Nat.gcd_comm] at this
  exact this
theorem Pr.mulI {p:Nat} (h:Pr p) {a b:Int} (hd:(p:Int)∣a*b):(p:Int)∣a\/(p:Int)∣b:=by
 have z:=wbf.mpr hd
 rw [war,wba] at z
 rcases h.mul z with e | e
 ·exact .inl (wbf.mp (by rw [wba];exact e))
 ·exact .inr (wbf.mp (by rw [wba];exact e))
theorem qkY {m:Nat} (hm:2<=m):∃ q,Pr q/\q∣m/\(q=m\/q*q<=m):=by
 have key:∀ n d,2<=d->(∀ e,2<=e->e<d->¬ e∣m)->m=d+n->∃ q,2<=q/\q∣m/\∀ e,2<=e->e<q->¬ e∣m:=by
  intro n
  induction n with
  | zero=>intro d hd h e;exact ⟨d,hd,by rw [e];exact Nat.dvd_refl _,h⟩
  | succ n ih=>
    intro d hd h e
    by_cases hdm:d∣m
    ·exact ⟨d,hd,hdm,h⟩
    ·refine ih (d+1) ⋯ (λx hx hx2=>?_) ⋯
     by_cases hxd:x=d
     ·rw [hxd];exact hdm
     ·exact h x hx ⋯
 obtain ⟨q,q2,qm,ql⟩:=key (m - 2) 2 (wac 2) (λe h1 h2=>absurd h2 ⋯) ⋯
 refine ⟨q,⟨q2,λd hd=>?_⟩,qm,?_⟩
 ·by_cases h2:2<=d
  ·right
   rcases waj d q with h | h
   ·exact absurd (Nat.dvd_trans hd qm) (ql d h2 h)
   ·exact wbz (wbu ⋯ hd) h
  ·left
   have:d≠0:=λz=>by rw [z] at hd;have:=Nat.eq_zero_of_zero_dvd hd;omega
   omega
 ·obtain ⟨k,hk⟩:=qm
  by_cases k1:k<=1
  ·left
   have:k=1:=by
    rcases wbr k with z | z
    ·rw [z] at hk;omega
    ·omega
   rw [hk,this,Nat.mul_one]
  ·right
   rcases waj k q with h | h
   ·exact absurd ⟨q,by rw [hk,wbm]⟩ (ql k ⋯ h)
   ·rw [hk];exact wbt q h
theorem pigeon:∀ (n m:Nat) (f:Nat->Nat),(∀ i,i<m->f i<n)->(∀ i j,i<m->j<m->f i=f j->i=j)->m<=n
 | 0,m,f,h,_=>by
   rcases wbr m with z | z
   ·omega
   ·exact absurd (h 0 z) ⋯
 | n+1,0,_,_,_=>by omega
 | n+1,m+1,f,h,inj=>by
   have:=pigeon n m (λi=>if f i=n then f m else f i) (λi hi=>by
    show (if f i=n then f m else f i)<n
    by_cases e:f i=n
    ·rw [if_pos e]
     have h1:=h m (wbq m)
     have:f m≠n:=λz=>absurd (inj i m ⋯ ⋯ (by rw [e,z])) ⋯
     omega
    ·rw [if_neg e]
     have h1:=h i ⋯
     omega) (λi j hi hj e=>by
    have e:(if f i=n then f m else f i)=(if f j=n then f m else f j):=e
    by_cases ei:f i=n
    ·rw [if_pos ei] at e
     by_cases ej:f j=n
     ·exact inj i j ⋯ ⋯ (by rw [ei,ej])
     ·rw [if_neg ej] at e
      exact absurd (inj m j ⋯ ⋯ e) ⋯
    ·rw [if_neg ei] at e
     by_cases ej:f j=n
     ·rw [if_pos ej] at e
      exact absurd (inj i m ⋯ ⋯ e) ⋯
     ·rw [if_neg ej] at e
      exact inj i j ⋯ ⋯ e)
   omega
noncomputable abbrev Rt:=Int×Int
noncomputable def rmul (q:Int) (x y:Rt):Rt:=((x.1*y.1+3*(x.2*y.2)) % q,(x.1*y.2+x.2*y.1) % q)
noncomputable def rpow (q:Int):Nat->Rt
 | 0=>(1 % q,0 % q)
 | n+1=>rmul q (2,1) (rpow q n)
theorem qb5 {q a b c:Int} (h:a - b=q*c):a % q=b % q:=by
 have:a=b+q*c:=by omega
 rw [this,Int.add_mul_emod_self_left]
theorem em {a q:Int}:∃ c,a % q=a - q*c:=⟨a / q,by have:=Int.emod_add_mul_ediv a q;omega⟩
theorem qcY (q:Int) (x y z:Rt):rmul q (rmul q x y) z=rmul q x (rmul q y z):=by
 obtain ⟨a,b⟩:=x
 obtain ⟨c,d⟩:=y
 obtain ⟨e,f⟩:=z
 obtain ⟨c1,h1⟩:=em (a:=a*c+3*(b*d)) (q:=q)
 obtain ⟨c2,h2⟩:=em (a:=a*d+b*c) (q:=q)
 obtain ⟨c3,h3⟩:=em (a:=c*e+3*(d*f)) (q:=q)
 obtain ⟨c4,h4⟩:=em (a:=c*f+d*e) (q:=q)
 refine Prod.ext ?_ ?_
 ·show ((a*c+3*(b*d)) % q*e+3*((a*d+b*c) % q*f)) % q=(a*((c*e+3*(d*f)) % q)+3*(b*((c*f+d*e) % q))) % q
  rw [h1,h2,h3,h4]
  exact qb5 (c:=a*c3+3*b*c4 - c1*e - 3*c2*f) (by grind)
 ·show ((a*c+3*(b*d)) % q*f+((a*d+b*c) % q*e)) % q=(a*((c*f+d*e) % q)+(b*((c*e+3*(d*f)) % q))) % q
  rw [h1,h2,h3,h4]
  exact qb5 (c:=a*c4+b*c3 - c1*f - c2*e) (by grind)
theorem qqn (q:Int) (x y:Rt):rmul q x y=rmul q y x:=by
 refine Prod.ext ?_ ?_
 ·show (x.1*y.1+3*(x.2*y.2)) % q=(y.1*x.1+3*(y.2*x.2)) % q
  congr 1;grind
 ·show (x.1*y.2+x.2*y.1) % q=(y.1*x.2+y.2*x.1) % q
  congr 1;grind
noncomputable def rn (q:Int) (x:Rt):Prop:=x.1 % q=x.1/\x.2 % q=x.2
theorem qut (q:Int) (x y:Rt):rn q (rmul q x y):=⟨Int.emod_emod ..,Int.emod_emod ..⟩
theorem qe8 (q:Int):∀ n,rn q (rpow q n)
 | 0=>⟨Int.emod_emod ..,Int.emod_emod ..⟩
 | _+1=>qut q _ _
theorem rone (q:Int) {x:Rt} (h:rn q x):rmul q (rpow q 0) x=x:=by
 obtain ⟨c1,h1⟩:=em (a:=1) (q:=q)
 obtain ⟨c2,h2⟩:=em (a:=0) (q:=q)
 refine Prod.ext ?_ ?_
 ·show (1 % q*x.1+3*(0 % q*x.2)) % q=x.1
  rw [h1,h2,<-h.1]
  rw [qb5 (b:=x.1 % q) (c:=- c1*(x.1 % q) - 3*c2*x.2) (by grind),Int.emod_emod]
 ·show (1 % q*x.2+0 % q*x.1) % q=x.2
  rw [h1,h2,<-h.2]
  rw [qb5 (b:=x.2 % q) (c:=- c1*(x.2 % q) - c2*x.1) (by grind),Int.emod_emod]
theorem qdR (q:Int):∀ m n,rpow q (m+n)=rmul q (rpow q m) (rpow q n)
 | 0,n=>by rw [Nat.zero_add,rone q (qe8 q n)]
 | m+1,n=>by
   rw [Nat.succ_add]
   show rmul q (2,1) (rpow q (m+n))=rmul q (rmul q (2,1) (rpow q m)) (rpow q n)
   rw [qdR q m n,qcY]
noncomputable def rinv (q:Int):Nat->Rt
 | 0=>(1 % q,0 % q)
 | n+1=>rmul q (2,-1) (rinv q n)
theorem r21 (q:Int):rmul q (2,-1) (2,1)=rpow q 0:=by
 refine Prod.ext ?_ ?_
 ·show (2*2+3*(-1*1)) % q=1 % q;rfl
 ·show (2*1 + -1*2) % q=0 % q;rfl
theorem qnn (q:Int):∀ n,rmul q (rinv q n) (rpow q n)=rpow q 0
 | 0=>rone q (qe8 q 0)
 | n+1=>by
   show rmul q (rmul q (2,-1) (rinv q n)) (rmul q (2,1) (rpow q n))=_
   rw [qcY,<-qcY q (rinv q n),qqn q (rinv q n) (2,1),qcY q (2,1),qnn q n,<-qcY,r21,rone q (qe8 q 0)]
theorem qjD (q:Int) {m:Nat} (h:rpow q m=rpow q 0):∀ k,rpow q (m*k)=rpow q 0
 | 0=>rfl
 | k+1=>by rw [Nat.mul_succ,qdR,qjD q h k,h,rone q (qe8 q 0)]
theorem rord (q:Int) {n:Nat} (h1:rpow q (2 ^ (n+1))=rpow q 0) (h2:rpow q (2 ^ n)≠rpow q 0):∀ d,0<d->d<2 ^ (n+1)->rpow q d≠rpow q 0:=by
 intro d
 induction d using Nat.strongRecOn with
 | _ d ih=>
 intro d0 hd e
 have hr:=Nat.mod_lt (2 ^ (n+1)) d0
 have er:rpow q (2 ^ (n+1) % d)=rpow q 0:=by
  have e1:=Nat.div_add_mod (2 ^ (n+1)) d
  rw [<-e1,qdR,qjD q e,rone q (qe8 q _)] at h1
  exact h1
 rcases wbr (2 ^ (n+1) % d) with z | z
 ·obtain ⟨k,hk⟩:=Nat.dvd_of_mod_eq_zero z
  obtain ⟨a,ha,hka⟩:=(qmb (n:=n+1) (k:=d)).mp ⟨k,hk⟩
  have hlt:a<=n:=by
   rcases waj n a with h | h
   ·exfalso
    have:a=n+1:=by omega
    rw [this] at hka
    omega
   ·exact h
  apply h2
  have e2:2 ^ n=d*2 ^ (n - a):=by rw [hka,<-Nat.pow_add];congr 1;omega
  rw [e2]
  exact qjD q e _
 ·exact ih _ hr z ⋯ er
theorem rnorm (q:Int):∀ n,∃ c,(rpow q n).1*(rpow q n).1 - 3*((rpow q n).2*(rpow q n).2) - 1=q*c
 | 0=>by
   obtain ⟨c1,h1⟩:=em (a:=1) (q:=q)
   obtain ⟨c2,h2⟩:=em (a:=0) (q:=q)
   refine ⟨-2*c1+q*c1*c1 - 3*q*c2*c2,?_⟩
   show (1 % q)*(1 % q) - 3*((0 % q)*(0 % q)) - 1=_
   rw [h1,h2];grind
 | n+1=>by
   obtain ⟨c,hc⟩:=rnorm q n
   obtain ⟨c1,h1⟩:=em (a:=2*(rpow q n).1+3*(1*(rpow q n).2)) (q:=q)
   obtain ⟨c2,h2⟩:=em (a:=2*(rpow q n).2+1*(rpow q n).1) (q:=q)
   have e1:(rpow q (n+1)).1=2*(rpow q n).1+3*(1*(rpow q n).2) - q*c1:=h1
   have e2:(rpow q (n+1)).2=2*(rpow q n).2+1*(rpow q n).1 - q*c2:=h2
   rw [e1,e2]
   generalize (rpow q n).1=a at *
   generalize (rpow q n).2=b at *
   exact ⟨c - 2*c1*(2*a+3*b)+q*c1*c1+6*c2*(2*b+a) - 3*q*c2*c2,by grind⟩
theorem quu (q:Int) (n:Nat):∃ c,2*(rpow q (n+n)).1=(2*(rpow q n).1)*(2*(rpow q n).1) - 2+q*c:=by
 obtain ⟨c,hc⟩:=rnorm q n
 rw [qdR]
 obtain ⟨c1,h1⟩:=em (a:=(rpow q n).1*(rpow q n).1+3*((rpow q n).2*(rpow q n).2)) (q:=q)
 refine ⟨-2*c1 - 2*c,?_⟩
 show 2*(((rpow q n).1*(rpow q n).1+3*((rpow q n).2*(rpow q n).2)) % q)=_
 rw [h1];grind
noncomputable def ll (M:Nat):Nat->Nat->Nat
 | 0,s=>s
 | k+1,s=>ll M k ((s*s+(M - 2)) % M)
theorem qqo {q:Int} {M:Nat} (hM:2<=M) (hq:q∣(M:Int)):∀ (k t s:Nat),q∣2*(rpow q (2 ^ t)).1 - (s:Int)->q∣2*(rpow q (2 ^ (t+k))).1 - (ll M k s:Int)
 | 0,t,s,h=>h
 | k+1,t,s,h=>by
   have:=qqo hM hq k (t+1) ((s*s+(M - 2)) % M) (by
    obtain ⟨c,hc⟩:=quu q (2 ^ t)
    obtain ⟨d,hd⟩:=h
    obtain ⟨m,hm⟩:=hq
    have e:(2:Nat) ^ (t+1)=2 ^ t+2 ^ t:=by rw [wa6];omega
    rw [e,hc]
    have z:(((s*s+(M - 2)) % M:Nat):Int)=(s:Int)*s+(M - 2) - M*(((s*s+(M - 2)) / M:Nat):Int):=by
     have:=Nat.mod_add_div (s*s+(M - 2)) M
     have z2:(((s*s+(M - 2)) % M:Nat):Int)+(M:Int)*(((s*s+(M - 2)) / M:Nat):Int)=(s:Int)*s+(M - 2):=by
      have:=congrArg (λx:Nat=>(x:Int)) this
      simp only [Int.natCast_add,Int.natCast_mul] at this
      rw [this,Int.natCast_sub hM]
      rfl
     omega
    rw [z]
    generalize (((s*s+(M - 2)) / M:Nat):Int)=w
    generalize (rpow q (2 ^ t)).1=a at hd
    have hd':2*a=s+q*d:=by omega
    rw [hd',hm]
    exact ⟨2*s*d+q*d*d+c - m+m*w,by grind⟩)
   rw [show t+(k+1)=t+1+k by omega]
   exact this
theorem qst {n:Nat} (h:ll (2 ^ (n+2) - 1) n 4 % (2 ^ (n+2) - 1)=0):Pr (2 ^ (n+2) - 1):=by
 have big:4<=2 ^ (n+2):=by rw [Nat.pow_add];have:=Nat.one_le_two_pow (n:=n);omega
 generalize hM:2 ^ (n+2) - 1=M at h ⊢
 obtain ⟨q,pq,qM,hq⟩:=qkY (m:=M) ⋯
 rcases hq with e | hq
 ·rw [<-e];exact pq
 exfalso
 have qI:(q:Int)∣(M:Int):=Int.natCast_dvd_natCast.mpr qM
 have q2:=pq.two
 have odd:q≠2:=λz=>by
  rw [z] at qM
  have:2 ^ (n+2)=2*2 ^ (n+1):=by rw [wa6 2 (n+1)];omega
  omega
 have s0:(q:Int)∣2*(rpow q (2 ^ (0+n))).1 - (ll M n 4:Int):=qqo ⋯ qI n 0 4 (by
  show (q:Int)∣2*(rmul q (2,1) (rpow q 0)).1 - 4
  obtain ⟨c1,h1⟩:=em (a:=1) (q:=(q:Int))
  obtain ⟨c2,h2⟩:=em (a:=0) (q:=(q:Int))
  show (q:Int)∣2*((2*(1 % (q:Int))+3*(1*(0 % (q:Int)))) % (q:Int)) - 4
  obtain ⟨c3,h3⟩:=em (a:=2*(1 % (q:Int))+3*(1*(0 % (q:Int)))) (q:=(q:Int))
  rw [h3,h1,h2]
  exact ⟨-4*c1 - 6*c2 - 2*c3,by grind⟩)
 have s1:(q:Int)∣(ll M n 4:Int):=Int.natCast_dvd_natCast.mpr (Nat.dvd_trans qM (Nat.dvd_of_mod_eq_zero h))
 have s2:(q:Int)∣2*(rpow q (2 ^ n)).1:=by
  have:=wbc s0 s1
  rw [Nat.zero_add] at this
  rw [Int.sub_add_cancel] at this
  exact this
 have s3:(q:Int)∣(rpow q (2 ^ n)).1:=by
  rcases pq.mulI s2 with z | z
  ·exfalso
   have z2:=Int.natCast_dvd_natCast.mp (show (q:Int)∣((2:Nat):Int) from z)
   have:=wbu ∅ z2
   omega
  ·exact z
 have qne:(q:Int)≠0:=by omega
 have m1:rpow q (2 ^ (n+1))=((-1) % (q:Int),0 % (q:Int)):=by
  have e:(2:Nat) ^ (n+1)=2 ^ n+2 ^ n:=by rw [wa6];omega
  rw [e,qdR]
  obtain ⟨c,hc⟩:=rnorm q (2 ^ n)
  obtain ⟨d,hd⟩:=s3
  refine Prod.ext ?_ ?_
  ·show ((rpow q (2 ^ n)).1*(rpow q (2 ^ n)).1+3*((rpow q (2 ^ n)).2*(rpow q (2 ^ n)).2)) % (q:Int)=(-1) % (q:Int)
   refine qb5 (c:=2*q*d*d - c) ?_
   generalize (rpow q (2 ^ n)).2=b at *
   rw [hd] at hc ⊢
   grind
  ·show ((rpow q (2 ^ n)).1*(rpow q (2 ^ n)).2+(rpow q (2 ^ n)).2*(rpow q (2 ^ n)).1) % (q:Int)=0 % (q:Int)
   refine qb5 (c:=2*d*(rpow q (2 ^ n)).2) ?_
   rw [hd];grind
 have h2:rpow q (2 ^ (n+1))≠rpow q 0:=λz=>by
  rw [m1] at z
  have z1:(-1) % (q:Int)=1 % (q:Int):=congrArg Prod.fst z
  have z2:(q:Int)∣-1 - 1:=Int.dvd_of_emod_eq_zero ((Int.emod_eq_emod_iff_emod_sub_eq_zero).mp z1)
  have z3:=wbf.mpr z2
  have:=wbu ∅ z3
  rw [wba] at this
  have:(-1 - 1:Int).natAbs=2:=by decide
  omega
 have h1:rpow q (2 ^ (n+1+1))=rpow q 0:=by
  have e:(2:Nat) ^ (n+1+1)=2 ^ (n+1)+2 ^ (n+1):=by rw [wa6 2 (n+1)];omega
  rw [e,qdR,m1]
  obtain ⟨c1,e1⟩:=em (a:=-1) (q:=(q:Int))
  obtain ⟨c2,e2⟩:=em (a:=0) (q:=(q:Int))
  refine Prod.ext ?_ ?_
  ·show ((-1) % (q:Int)*((-1) % (q:Int))+3*(0 % (q:Int)*(0 % (q:Int)))) % (q:Int)=1 % (q:Int)
   refine qb5 (c:=2*c1+q*c1*c1+3*q*c2*c2) ?_
   rw [e1,e2];grind
  ·show ((-1) % (q:Int)*(0 % (q:Int))+0 % (q:Int)*((-1) % (q:Int))) % (q:Int)=0 % (q:Int)
   refine qb5 (c:=2*c2+2*q*c1*c2) ?_
   rw [e1,e2];grind
 have ord:=rord (q:Int) h1 h2
 have ne:∀ i d,0<d->i+d<2 ^ (n+2)->rpow q i≠rpow q (i+d):=λi d d0 hd z=>by
  have e:rpow q d=rpow q 0:=by
   have a:=qnn (q:Int) i
   have b:rmul q (rinv q i) (rpow q (i+d))=rpow q d:=by
    rw [qdR,<-qcY,a,rone _ (qe8 _ _)]
   rw [<-b,<-z,a]
  exact ord d d0 (by have:(2:Nat) ^ (n+1+1)=2 ^ (n+2):=rfl;omega) e
 have lt:∀ i,0<=(rpow q i).1/\(rpow q i).1<q/\0<=(rpow q i).2/\(rpow q i).2<q:=λi=>by
  obtain ⟨a,b⟩:=qe8 (q:Int) i
  have p0:(0:Int)<q:=by omega
  have u1:=wa5 (rpow q i).1 qne
  have u2:=wa9 (rpow q i).1 p0
  have u3:=wa5 (rpow q i).2 qne
  have u4:=wa9 (rpow q i).2 p0
  rw [a] at u1 u2
  rw [b] at u3 u4
  exact ⟨u1,u2,u3,u4⟩
 have pg:=pigeon (q*q) (2 ^ (n+2)) (λi=>(rpow q i).1.toNat*q+(rpow q i).2.toNat) (λi _=>by
  obtain ⟨a,b,c,d⟩:=lt i
  have a':(rpow q i).1.toNat+1<=q:=by omega
  have d':(rpow q i).2.toNat<q:=by omega
  have:=wa4 q a'
  rw [Nat.add_mul,Nat.one_mul] at this
  show (rpow q i).1.toNat*q+(rpow q i).2.toNat<q*q
  omega) (λi j hi hj e=>by
  have e:(rpow q i).1.toNat*q+(rpow q i).2.toNat=(rpow q j).1.toNat*q+(rpow q j).2.toNat:=e
  obtain ⟨a,b,c,d⟩:=lt i
  obtain ⟨a',b',c',d'⟩:=lt j
  have m1:=congrArg (·% q) e
  have m2:=congrArg (·/ q) e
  simp only [wbm _ q,Nat.mul_add_mod,Nat.mul_add_div (show 0<q by omega)] at m1 m2
  rw [Nat.mod_eq_of_lt ⋯,Nat.mod_eq_of_lt ⋯] at m1
  rw [Nat.div_eq_of_lt ⋯,Nat.div_eq_of_lt ⋯] at m2
  have ee:rpow q i=rpow q j:=Prod.ext ⋯ ⋯
  rcases Nat.lt_trichotomy i j with h | h | h
  ·exact absurd ee (by have:=ne i (j - i) ⋯ ⋯;rw [show i+(j - i)=j by omega] at this;exact this)
  ·exact h
  ·exact absurd ee.symm (by have:=ne j (i - j) ⋯ ⋯;rw [show j+(i - j)=i by omega] at this;exact this))
 omega
end Bs
namespace Bs
noncomputable def llk (M k s:Nat):Nat:=Nat.rec (motive:=λ_=>Nat->Nat) (λs=>s) (λ_ ih s=>ih ((s*s+(M - 2)) % M)) k s
noncomputable def llf (x:Nat) (f:Nat->Nat):Nat:=Nat.rec (motive:=λ_=>Nat) (f 0) (λn _=>f (n+1)) x
noncomputable def llo (M k j s:Nat):Nat:=Nat.rec (motive:=λ_=>Nat->Nat) (λs=>s) (λ_ ih s=>llf (llk M k s) ih) j s
theorem qqp (M:Nat):∀ k s,llk M k s=ll M k s
 | 0,_=>rfl
 | k+1,s=>qqp M k _
theorem qty (x:Nat) (f:Nat->Nat):llf x f=f x:=by cases x <;> rfl
theorem qqq (M:Nat):∀ a b s,ll M (a+b) s=ll M b (ll M a s)
 | 0,b,s=>by rw [Nat.zero_add];rfl
 | a+1,b,s=>by rw [Nat.succ_add];exact qqq M a b _
theorem qtz (M k:Nat):∀ j s,llo M k j s=ll M (k*j) s
 | 0,_=>rfl
 | j+1,s=>by
   show llf (llk M k s) (llo M k j)=_
   rw [qty,qqp,qtz M k j,<-qqq]
   congr 1
   rw [Nat.mul_succ,Nat.add_comm]
noncomputable def mers (e:Nat):Nat:=2 ^ e - 1
theorem qdj {n r k j:Nat} (e:n=k*j+r) (h:Nat.beq (llf (llo (mers (n+2)) k j 4) (λs=>llk (mers (n+2)) r s % mers (n+2))) 0=true):Pr (mers (n+2)):=by
 refine qst ?_
 replace h:=Nat.eq_of_beq_eq_true h
 rw [qty,qtz,qqp,<-qqq,<-e] at h
 exact h
theorem qx0:Pr (mers 61):=qdj (n:=59) (r:=9) (k:=10) (j:=5) rfl (by decide +kernel)
theorem qw1:Pr (mers 127):=qdj (n:=125) (r:=5) (k:=20) (j:=6) rfl (by decide +kernel)
theorem qw2:Pr (mers 521):=qdj (n:=519) (r:=19) (k:=50) (j:=10) rfl (by decide +kernel)
theorem qv5:Pr (mers 1279):=qdj (n:=1277) (r:=77) (k:=100) (j:=12) rfl (by decide +kernel)
theorem qv6:Pr (mers 4423):=qdj (n:=4421) (r:=21) (k:=100) (j:=44) rfl (by decide +kernel)
theorem qv7:Pr (mers 9941):=qdj (n:=9939) (r:=39) (k:=100) (j:=99) rfl (by decide +kernel)
theorem quv:Pr (mers 21701):=qdj (n:=21699) (r:=99) (k:=150) (j:=144) rfl (by decide +kernel)
theorem quw:Pr (mers 44497):=qdj (n:=44495) (r:=95) (k:=200) (j:=222) rfl (by decide +kernel)
end Bs
namespace Bs
noncomputable def co (ns:List Int) (k:Nat):Int:=ns.getD k 0
section
variable {α:Type} [Lean.Grind.CommRing α]
noncomputable def qa6:List α->List α->List α
 | [],b=>b
 | a,[]=>a
 | x::a,y::b=>(x+y)::qa6 a b
theorem qhJ (a:List α):qa6 a []=a:=by cases a <;> rfl
theorem qaC (g:Nat->α):∀ (a b:List α) (k:Nat),cvL (qa6 a b) g k=cvL a g k+cvL b g k
 | [],b,k=>by show cvL b g k=0+cvL b g k;grind
 | x::a,[],k=>by rw [qhJ,qaG];grind
 | x::a,y::b,0=>by show cvL ((x+y)::qa6 a b) g 0=_;rw [qar,qar,qar];grind
 | x::a,y::b,k+1=>by show cvL ((x+y)::qa6 a b) g (k+1)=_;rw [qao,qao,qao,qaC g a b k];grind
theorem qau (c:α) (g:Nat->α):∀ (a:List α) (k:Nat),cvL (a.map (c*·)) g k=c*cvL a g k
 | [],k=>by show (0:α)=c*0;grind
 | x::a,0=>by rw [wa1,qar,qar];grind
 | x::a,k+1=>by rw [wa1,qao,qao,qau c g a k];grind
noncomputable def upS (s:Nat) (f:Nat->α) (k:Nat):α:=if s<=k then f (k - s) else 0
theorem qc7 (g:Nat->α):∀ (s:Nat) (a:List α) (k:Nat),cvL (List.replicate s 0++a) g k=upS s (cvL a g) k
 | 0,a,k=>by unfold upS;rw [if_pos (wae k)];rfl
 | s+1,a,0=>by unfold upS;rw [if_neg ⋯];show cvL (0::(List.replicate s 0++a)) g 0=0;rw [qar];grind
 | s+1,a,k+1=>by
   show cvL (0::(List.replicate s 0++a)) g (k+1)=_
   rw [qao,qc7 g s a k]
   unfold upS
   by_cases h:s<=k
   ·rw [if_pos h,if_pos ⋯,show k+1 - (s+1)=k - s by omega];grind
   ·rw [if_neg h,if_neg ⋯];grind
noncomputable def qaO:List α->List α->List α
 | [],_=>[]
 | x::a,b=>qa6 (b.map (x*·)) (0::qaO a b)
theorem qav (g:Nat->α):∀ (a b:List α) (k:Nat),cvL (qaO a b) g k=cvL a (cvL b g) k
 | [],b,k=>rfl
 | x::a,b,k=>by
   show cvL (qa6 (b.map (x*·)) (0::qaO a b)) g k=_
   rw [qaC,qau,qdi,qdi]
   have e:up1 (cvL (qaO a b) g) k=up1 (cvL a (cvL b g)) k:=by
    cases k with
    | zero=>rfl
    | succ k=>exact qav g a b k
   rw [e]
   grind
theorem qbl (g:Nat->α) (s:α):∀ (a:List α) (k:Nat),cvL (a++[s]) g k=cvL a g k+s*upS a.length g k
 | [],0=>by show cvL [s] g 0=0+s*g 0;rw [qar];grind
 | [],k+1=>by show cvL [s] g (k+1)=0+s*g (k+1);rw [qao,qaG];grind
 | x::a,0=>by show cvL (x::(a++[s])) g 0=_;rw [qar,qar];unfold upS;rw [if_neg (by simp)];grind
 | x::a,k+1=>by
   show cvL (x::(a++[s])) g (k+1)=_
   rw [qao,qao,qbl g s a k]
   have e:upS (x::a).length g (k+1)=upS a.length g k:=by
    unfold upS
    rw [way]
    by_cases h:a.length<=k
    ·rw [if_pos h,if_pos ⋯,show k+1 - (a.length+1)=k - a.length by omega]
    ·rw [if_neg h,if_neg ⋯]
   rw [e];grind
theorem qcy (a:List α) {g:Nat->α} (h:∀ k,g k=0) (k:Nat):cvL a g k=0:=by
 rw [qaq (c:=λk=>0*g k) (λj=>by rw [h j];grind) a k,qba]
 grind
end
theorem qcz (a:List Int) (k:Nat):co a k=cvL a qca k:=(qcm a k).symm
theorem qbt (a b:List Int) (k:Nat):cvL a (co b) k=cvL b (co a) k:=by
 rw [qaq (qcz b) a k,qez,qaq (λj=>(qcz a j).symm) b k]
theorem qaD {a:List Int} {k:Nat} (h:a.length<=k):co a k=0:=by
 unfold co;rw [wab,wax h];rfl
theorem qcf {g:Nat->Int} {n:Nat} (h:∀ i,n<=i->g i=0):∀ (a:List Int) (k:Nat),a.length+n<=k+1->cvL a g k=0
 | [],_,_=>rfl
 | x::a,0,hk=>by
   rw [way] at hk
   rw [qar,h 0 ⋯];omega
 | x::a,k+1,hk=>by
   rw [way] at hk
   rw [qao,h (k+1) ⋯,qcf h a k ⋯];omega
theorem qjE {p:Int} {g:Nat->Int} {n:Nat} (h:∀ i,n<i->p∣g i):∀ (a:List Int) (k:Nat),a.length+n<=k->p∣cvL a g k
 | [],_,_=>wbd p
 | x::a,0,hk=>absurd hk (by rw [way];omega)
 | x::a,k+1,hk=>by
   rw [way] at hk
   rw [qao]
   exact wbc (wb6 (h (k+1) ⋯)) (qjE h a k ⋯)
theorem qfu {p:Nat} (hp:Pr p) {g:Nat->Int} {n:Nat} (h0:¬ (p:Int)∣g n) (h:∀ i,n<i->(p:Int)∣g i) (S:List Int) :
  (∀ k,n<=k->(p:Int)∣cvL S g k)->∀ s∈S,(p:Int)∣s:=by
 induction hl:S.length generalizing S with
 | zero=>intro _ s hs;rw [waz.mp hl] at hs;exact nomatch hs
 | succ m ih=>
   intro hk
   have ne:S≠[]:=λz=>by rw [z] at hl;simp at hl
   obtain ⟨T,t,rfl⟩:∃ T t,S=T++[t]:=⟨S.dropLast,S.getLast ne,(wce ne).symm⟩
   have hT:T.length=m:=by simpa using hl
   have ht:(p:Int)∣t:=by
    have a:=hk (T.length+n) ⋯
    rw [qbl] at a
    have b:=qjE h T (T.length+n) (wac _)
    have c:(p:Int)∣t*upS T.length g (T.length+n):=by
     have:=Int.dvd_sub a b
     rwa [show ∀ x y:Int,x+y - x=y by intro x y;omega] at this
    unfold upS at c
    rw [if_pos ⋯,show T.length+n - T.length=n by omega] at c
    rcases hp.mulI c with z | z
    ·exact z
    ·exact absurd z h0
   have hT2:=ih T hT (λk hk2=>by
    have a:=hk k hk2
    rw [qbl] at a
    have:=Int.dvd_sub a (wb8 (c:=upS T.length g k) ht)
    rwa [show ∀ x y:Int,x+y - y=x by intro x y;omega] at this)
   intro s hs
   rcases wa7.mp hs with h | h
   ·exact hT2 s h
   ·rw [wag.mp h];exact ht
noncomputable def Lz (g:List Int):Prop:=0<g.length/\co g (g.length - 1)≠0
noncomputable def QI (r o f:Nat->Int):Prop:=∃ d:Int,d≠0/\∃ U V:List Int,∀ k,d*f k=cvL U r k+cvL V o k
noncomputable def MQ (g f:Nat->Int):Prop:=∃ c:Int,c≠0/\∃ A:List Int,∀ k,c*f k=cvL A g k
theorem QI.congr {r o f h:Nat->Int} (q:QI r o f) (e:∀ k,h k=f k):QI r o h:=by
 obtain ⟨d,d0,U,V,hU⟩:=q
 exact ⟨d,d0,U,V,λk=>by rw [e k];exact hU k⟩
theorem QI.left (r o:Nat->Int):QI r o r:=⟨1,∅,[1],[],λk=>by
 rw [qaG]
 cases k with
 | zero=>rw [qar];omega
 | succ k=>rw [qao,qaG];omega⟩
theorem QI.right (r o:Nat->Int):QI r o o:=⟨1,∅,[],[1],λk=>by
 rw [qaG]
 cases k with
 | zero=>rw [qar];omega
 | succ k=>rw [qao,qaG];omega⟩
theorem QI.less {r o f h:Nat->Int} (q:QI r o f) (q':QI r o h) (a w:Int) (s:Nat):QI r o (λk=>a*f k - w*upS s h k):=by
 obtain ⟨d,d0,U,V,hU⟩:=q
 obtain ⟨d',d0',U',V',hU'⟩:=q'
 refine ⟨d*d',was d0 d0',qa6 (U.map (d'*a*·)) (List.replicate s 0++U'.map (-(d*w)*·)),qa6 (V.map (d'*a*·)) (List.replicate s 0++V'.map (-(d*w)*·)),λk=>?_⟩
 show d*d'*(a*f k - w*upS s h k)=_
 rw [qaC,qaC,qau,qau,qc7,qc7]
 unfold upS
 have e1:=hU k
 by_cases hs:s<=k
 ·rw [if_pos hs,if_pos hs,if_pos hs,qau,qau]
  have e2:=hU' (k - s)
  grind
 ·rw [if_neg hs,if_neg hs,if_neg hs]
  grind
theorem QI.scal {r o f:Nat->Int} {c:Int} (c0:c≠0) (q:QI r o (λk=>c*f k)):QI r o f:=by
 obtain ⟨d,d0,U,V,hU⟩:=q
 exact ⟨d*c,was d0 c0,U,V,λk=>by rw [<-hU k];grind⟩
theorem QI.trans {r o a b f:Nat->Int} (qa:QI r o a) (qb:QI r o b) (q:QI a b f):QI r o f:=by
 obtain ⟨d,d0,U,V,hU⟩:=q
 obtain ⟨d1,d10,U1,V1,h1⟩:=qa
 obtain ⟨d2,d20,U2,V2,h2⟩:=qb
 refine ⟨d1*d2*d,was (was d10 d20) d0,qa6 ((qaO U U1).map (d2*·)) ((qaO V U2).map (d1*·)),qa6 ((qaO U V1).map (d2*·)) ((qaO V V2).map (d1*·)),λk=>?_⟩
 rw [qaC,qaC,qau,qau,qau,qau,qav,qav,qav,qav]
 have e1:d1*cvL U a k=cvL U (cvL U1 r) k+cvL U (cvL V1 o) k:=by
  rw [<-qba,<-qdQ];exact qaq h1 U k
 have e2:d2*cvL V b k=cvL V (cvL U2 r) k+cvL V (cvL V2 o) k:=by
  rw [<-qba,<-qdQ];exact qaq h2 V k
 have e3:=hU k
 grind
theorem MQ.refl (g:Nat->Int):MQ g g:=⟨1,∅,[1],λk=>by
 cases k with
 | zero=>rw [qar];omega
 | succ k=>rw [qao,qaG];omega⟩
theorem MQ.zero (g:Nat->Int) {f:Nat->Int} (h:∀ k,f k=0):MQ g f:=⟨1,∅,[],λk=>by rw [qaG,h k];rfl⟩
theorem MQ.congr {g f h:Nat->Int} (m:MQ g f) (e:∀ k,h k=f k):MQ g h:=by
 obtain ⟨c,c0,A,hA⟩:=m
 exact ⟨c,c0,A,λk=>by rw [e k];exact hA k⟩
theorem MQ.less {g f h:Nat->Int} (m:MQ g f) (m':MQ g h) (a w:Int) (s:Nat):MQ g (λk=>a*f k - w*upS s h k):=by
 obtain ⟨d,d0,U,hU⟩:=m
 obtain ⟨d',d0',U',hU'⟩:=m'
 refine ⟨d*d',was d0 d0',qa6 (U.map (d'*a*·)) (List.replicate s 0++U'.map (-(d*w)*·)),λk=>?_⟩
 show d*d'*(a*f k - w*upS s h k)=_
 rw [qaC,qau,qc7]
 unfold upS
 have e1:=hU k
 by_cases hs:s<=k
 ·rw [if_pos hs,if_pos hs,qau]
  have e2:=hU' (k - s)
  grind
 ·rw [if_neg hs,if_neg hs]
  grind
theorem MQ.scal {g f:Nat->Int} {c:Int} (c0:c≠0) (m:MQ g (λk=>c*f k)):MQ g f:=by
 obtain ⟨d,d0,A,hA⟩:=m
 exact ⟨d*c,was d0 c0,A,λk=>by rw [<-hA k];grind⟩
theorem MQ.trans {g f h:Nat->Int} (m:MQ g f) (m':MQ f h):MQ g h:=by
 obtain ⟨c,c0,A,hA⟩:=m
 obtain ⟨d,d0,B,hB⟩:=m'
 refine ⟨c*d,was c0 d0,qaO B A,λk=>?_⟩
 rw [qav]
 have e:c*cvL B f k=cvL B (cvL A g) k:=by rw [<-qba];exact qaq hA B k
 rw [<-e,<-hB k];grind
theorem MQ.of_QI {r o f g:Nat->Int} (m1:MQ g r) (m2:MQ g o) (q:QI r o f):MQ g f:=by
 obtain ⟨d,d0,U,V,hU⟩:=q
 obtain ⟨c,c0,A,hA⟩:=m1
 obtain ⟨e,e0,B,hB⟩:=m2
 refine ⟨c*e*d,was (was c0 e0) d0,qa6 ((qaO U A).map (e*·)) ((qaO V B).map (c*·)),λk=>?_⟩
 rw [qaC,qau,qau,qav,qav]
 have e1:c*cvL U r k=cvL U (cvL A g) k:=by rw [<-qba];exact qaq hA U k
 have e2:e*cvL V o k=cvL V (cvL B g) k:=by rw [<-qba];exact qaq hB V k
 have e3:=hU k
 grind
theorem QI.of_MQ {r o f h:Nat->Int} (q:QI r o f) (m:MQ f h):QI r o h:=by
 obtain ⟨c,c0,A,hA⟩:=m
 obtain ⟨d,d0,U,V,hU⟩:=q
 refine ⟨d*c,was d0 c0,qaO A U,qaO A V,λk=>?_⟩
 rw [qav,qav]
 have e:d*cvL A f k=cvL A (cvL U r) k+cvL A (cvL V o) k:=by rw [<-qba,<-qdQ];exact qaq hU A k
 rw [<-e,<-hA k];grind
end Bs
namespace Bs
theorem qe9 {f:List Int} (h:co f (f.length - 1)=0) (k:Nat):co f.dropLast k=co f k:=by
 unfold co at *
 rw [wab,wab]
 rw [List.getElem?_dropLast]
 by_cases hk:k<f.length - 1
 ·rw [if_pos hk]
 ·rw [if_neg hk]
  by_cases e:k=f.length - 1
  ·subst e
   rw [wab] at h
   rw [h];rfl
  ·rw [wax ⋯]
theorem qgT (f:List Int):(∀ k,co f k=0)\/∃ g,Lz g/\g.length<=f.length/\∀ k,co g k=co f k:=by
 induction hn:f.length generalizing f with
 | zero=>exact .inl λk=>qaD ⋯
 | succ n ih=>
   by_cases h:co f (f.length - 1)=0
   ·rcases ih f.dropLast (by rw [List.length_dropLast];omega) with z | ⟨g,g1,g2,g3⟩
    ·exact .inl λk=>by rw [<-qe9 h];exact z k
    ·exact .inr ⟨g,g1,⋯,λk=>by rw [g3,qe9 h]⟩
   ·exact .inr ⟨f,⟨⋯,h⟩,⋯,λ_=>rfl⟩
theorem qhb (n:Nat) (F:Nat->Int) (k:Nat):co ((List.range n).map F) k=if k<n then F k else 0:=by
 unfold co
 rw [wab,waf]
 by_cases h:k<n
 ·rw [if_pos h,wbk h];rfl
 ·rw [if_neg h,wax (by rw [wal];omega)];rfl
structure Gen (r o:Nat->Int) (g:List Int):Prop where
 lz:Lz g
 qi:QI r o (co g)
 len:∀ h,Lz h->QI r o (co h)->g.length<=h.length
 last:∀ h,Lz h->QI r o (co h)->h.length=g.length->(co g (g.length - 1)).natAbs<=(co h (h.length - 1)).natAbs
theorem qv8 {r o:Nat->Int} {f:List Int} (lf:Lz f) (q:QI r o (co f)):∃ g,Gen r o g:=by
 have L:∀ n,(∃ f,f.length=n/\Lz f/\QI r o (co f))->∃ m,(∃ f,f.length=m/\Lz f/\QI r o (co f))/\∀ h,Lz h->QI r o (co h)->m<=h.length:=by
  intro n
  induction n using Nat.strongRecOn with
  | _ n ih=>
    intro hf
    by_cases hx:∃ m,m<n/\∃ f,f.length=m/\Lz f/\QI r o (co f)
    ·obtain ⟨m,hm,hx⟩:=hx
     exact ih m hm hx
    ·refine ⟨n,hf,λh lh qh=>?_⟩
     rcases waj h.length n with z | z
     ·exact absurd ⟨h.length,z,h,rfl,lh,qh⟩ hx
     ·exact z
 obtain ⟨m,⟨f1,e1,l1,q1⟩,hm⟩:=L f.length ⟨f,rfl,lf,q⟩
 have M:∀ n,(∃ f,f.length=m/\Lz f/\QI r o (co f)/\(co f (f.length - 1)).natAbs=n)->∃ g,Gen r o g:=by
  intro n
  induction n using Nat.strongRecOn with
  | _ n ih=>
    rintro ⟨f,fm,lf,qf,fn⟩
    by_cases hx:∃ j,j<n/\∃ f,f.length=m/\Lz f/\QI r o (co f)/\(co f (f.length - 1)).natAbs=j
    ·obtain ⟨j,hj,hx⟩:=hx
     exact ih j hj hx
    ·refine ⟨f,lf,qf,λh lh qh=>by rw [fm];exact hm h lh qh,λh lh qh hl=>?_⟩
     rcases waj (co h (h.length - 1)).natAbs (co f (f.length - 1)).natAbs with z | z
     ·exact absurd ⟨_,⋯,h,⋯,lh,qh,rfl⟩ hx
     ·exact z
 exact M _ ⟨f1,e1,l1,q1,rfl⟩
theorem Gen.mq {r o:Nat->Int} {g:List Int} (G:Gen r o g):∀ (n:Nat) (f:List Int),f.length<=n->QI r o (co f)->MQ (co g) (co f)
 | 0,f,h,_=>MQ.zero _ λk=>qaD ⋯
 | n+1,f,h,q=>by
   rcases qgT f with z | ⟨f1,l1,h1,e1⟩
   ·exact MQ.zero _ z
   have q1:QI r o (co f1):=q.congr e1
   have gl:=G.len f1 l1 q1
   refine MQ.congr (f:=co f1) ?_ λk=>(e1 k).symm
   generalize hs:f1.length - g.length=s
   have g0:=G.lz.1
   let F:List Int:=(List.range (f1.length - 1)).map λk=>co g (g.length - 1)*co f1 k - co f1 (f1.length - 1)*upS s (co g) k
   have eF:∀ k,co F k=co g (g.length - 1)*co f1 k - co f1 (f1.length - 1)*upS s (co g) k:=λk=>by
    rw [qhb]
    by_cases hk:k<f1.length - 1
    ·rw [if_pos hk]
    ·rw [if_neg hk]
     unfold upS
     by_cases hk2:k=f1.length - 1
     ·rw [if_pos ⋯,hk2,show f1.length - 1 - s=g.length - 1 by omega];grind
     ·rw [qaD (a:=f1) ⋯]
      by_cases hk3:s<=k
      ·rw [if_pos hk3,qaD (a:=g) (k:=k - s) ⋯];omega
      ·rw [if_neg hk3];omega
   have qF:QI r o (co F):=QI.congr (q1.less G.qi (co g (g.length - 1)) (co f1 (f1.length - 1)) s) eF
   have lF:F.length<=n:=by
    have:F.length=f1.length - 1:=by show ((List.range (f1.length - 1)).map _).length=_;rw [waa,wal]
    omega
   have m:=Gen.mq G n F lF qF
   have m2:=MQ.less (MQ.congr m λk=>(eF k).symm) (MQ.refl (co g)) 1 (-(co f1 (f1.length - 1))) s
   refine MQ.scal (c:=co g (g.length - 1)) G.lz.2 (MQ.congr m2 λk=>?_)
   show _=1*_ - _*upS s (co g) k
   generalize upS s (co g) k=y
   grind
theorem Gen.prim {r o:Nat->Int} {g:List Int} (G:Gen r o g) {p:Nat} (hp:2<=p):∃ n,¬ (p:Int)∣co g n/\∀ i,n<i->(p:Int)∣co g i:=by
 have key:∀ n,(∀ i,n<=i->(p:Int)∣co g i)->(∀ i,(p:Int)∣co g i)\/∃ n,¬ (p:Int)∣co g n/\∀ i,n<i->(p:Int)∣co g i:=by
  intro n
  induction n with
  | zero=>intro h;exact .inl λi=>h i (wae i)
  | succ n ih=>
    intro h
    by_cases hd:(p:Int)∣co g n
    ·exact ih λi hi=>by
      by_cases e:i=n
      ·rw [e];exact hd
      ·exact h i ⋯
    ·exact .inr ⟨n,hd,λi hi=>h i ⋯⟩
 rcases key g.length (λi hi=>by rw [qaD hi];exact wbd _) with h | h
 ·exfalso
  let h1:List Int:=g.map (·/ (p:Int))
  have e1:∀ k,(p:Int)*co h1 k=co g k:=λk=>by
   have:co h1 k=co g k / (p:Int):=by
    show (g.map (·/ (p:Int))).getD k 0=g.getD k 0 / (p:Int)
    rw [wab,wab,waf]
    cases g[k]? with
    | none=>exact (Int.zero_ediv _).symm
    | some z=>rfl
   rw [this,wcb (h k)]
  have p0:(p:Int)≠0:=by omega
  have qjH:h1.length=g.length:=waa ..
  have ne:co h1 (h1.length - 1)≠0:=λz=>G.lz.2 (by rw [<-e1,<-qjH,z];omega)
  have l1:Lz h1:=⟨by rw [qjH];exact G.lz.1,ne⟩
  have q1:QI r o (co h1):=QI.scal (c:=(p:Int)) p0 (QI.congr G.qi e1)
  have lt:=G.last h1 l1 q1 qjH
  have e2:=e1 (g.length - 1)
  rw [<-qjH] at e2
  rw [qjH] at e2 lt
  rw [<-e2,war,wba] at lt
  rw [qjH] at ne
  have pos:0<(co h1 (g.length - 1)).natAbs:=by omega
  have:=wa4 (co h1 (g.length - 1)).natAbs hp
  omega
 ·exact h
theorem Gen.loc {r o:Nat->Int} {g:List Int} (G:Gen r o g) {p:Nat} (hp:Pr p) {f:Nat->Int} (m:MQ (co g) f) :
  ∃ (c:Int) (A:List Int),¬ (p:Int)∣c/\∀ k,c*f k=cvL A (co g) k:=by
 obtain ⟨n,n0,n1⟩:=G.prim hp.two
 obtain ⟨c,c0,A,hA⟩:=m
 have key:∀ (m:Nat) (c:Int) (A:List Int),c.natAbs<=m->c≠0->(∀ k,c*f k=cvL A (co g) k)->∃ (c:Int) (A:List Int),¬ (p:Int)∣c/\∀ k,c*f k=cvL A (co g) k:=by
  intro m
  induction m with
  | zero=>intro c A h h0;omega
  | succ m ih=>
    intro c A h h0 hA
    by_cases hd:(p:Int)∣c
    ·have dA:∀ a∈A,(p:Int)∣a:=qfu hp n0 n1 A λk _=>by rw [<-hA k];exact wb8 hd
     obtain ⟨c',rfl⟩:=hd
     have p2:=hp.two
     have c0':c'≠0:=λz=>h0 (by rw [z];omega)
     have eA:A=(A.map (·/ (p:Int))).map ((p:Int)*·):=by
      rw [List.map_map]
      conv=>lhs;rw [<-List.map_id A]
      refine wb1 λa ha=>?_
      show a=(p:Int)*(a / (p:Int))
      rw [wcb (dA a ha)]
     refine ih c' (A.map (·/ (p:Int))) ?_ c0' λk=>?_
     ·rw [war,wba] at h
      have pos:0<c'.natAbs:=by omega
      have:=wa4 c'.natAbs p2
      omega
     ·have e:=hA k
      rw [eA,qau,Int.mul_assoc] at e
      exact Int.eq_of_mul_eq_mul_left ⋯ e
    ·exact ⟨c,A,hd,hA⟩
 exact key _ c A (wac _) c0 hA
theorem qx1 (a b:Nat):∃ x y:Int,x*a+y*b=(Nat.gcd a b:Int):=by
 induction a,b using Nat.gcd.induction with
 | H0 n=>exact ⟨0,1,by simp⟩
 | H1 m n hm ih=>
   obtain ⟨x,y,h⟩:=ih
   refine ⟨y - x*((n / m:Nat):Int),x,?_⟩
   rw [Nat.gcd_rec,<-h]
   have e:(n:Int)=(m:Int)*((n / m:Nat):Int)+((n % m:Nat):Int):=by
    have:=Nat.div_add_mod n m
    exact_mod_cast this.symm
   generalize ((n / m:Nat):Int)=q at *
   generalize ((n % m:Nat):Int)=w at *
   rw [e];grind
theorem qx2 (a b:Int):∃ x y:Int,x*a+y*b=(Int.gcd a b:Int):=by
 obtain ⟨x,y,h⟩:=qx1 a.natAbs b.natAbs
 have s:∀ z:Int,∃ e:Int,(z.natAbs:Int)=e*z:=λz=>by
  rcases Int.natAbs_eq z with h | h
  ·exact ⟨1,⋯⟩
  ·exact ⟨-1,⋯⟩
 obtain ⟨e,he⟩:=s a
 obtain ⟨f,hf⟩:=s b
 refine ⟨x*e,y*f,?_⟩
 show _=((Nat.gcd a.natAbs b.natAbs:Nat):Int)
 rw [<-h,he,hf];grind
noncomputable def Dm (p:Int) (g f:Nat->Int):Prop:=∃ S:List Int,∀ k,p∣f k - cvL S g k
theorem Gen.dm {r o:Nat->Int} {g:List Int} (G:Gen r o g) {p:Nat} (hp:Pr p) {f:Nat->Int} (m:MQ (co g) f):Dm (p:Int) (co g) f:=by
 obtain ⟨c,A,hc,hA⟩:=G.loc hp m
 have cop:Int.gcd c (p:Int)=1:=by
  have:=hp.cop (a:=c.natAbs) λz=>hc (wbf.mp (by rw [wba];exact z))
  exact this
 obtain ⟨x,y,hxy⟩:∃ x y:Int,x*c+y*(p:Int)=1:=by
  obtain ⟨x,y,h⟩:=qx2 c (p:Int)
  exact ⟨x,y,by rw [h,cop];rfl⟩
 refine ⟨A.map (x*·),λk=>⟨f k*y,?_⟩⟩
 rw [qau,<-hA k]
 grind
theorem Dm.less {p:Int} {g f h:Nat->Int} (m:Dm p g f) (m':Dm p g h) (a w:Int) (s:Nat):Dm p g (λk=>a*f k - w*upS s h k):=by
 obtain ⟨S,hS⟩:=m
 obtain ⟨S',hS'⟩:=m'
 refine ⟨qa6 (S.map (a*·)) (List.replicate s 0++S'.map (-w*·)),λk=>?_⟩
 show p∣a*f k - w*upS s h k - _
 rw [qaC,qau,qc7]
 unfold upS
 obtain ⟨x,hx⟩:=hS k
 by_cases hs:s<=k
 ·rw [if_pos hs,if_pos hs,qau]
  obtain ⟨y,hy⟩:=hS' (k - s)
  exact ⟨a*x - w*y,by grind⟩
 ·rw [if_neg hs,if_neg hs]
  exact ⟨a*x,by grind⟩
theorem Dm.congr {p:Int} {g f h:Nat->Int} (m:Dm p g f) (e:∀ k,p∣h k - f k):Dm p g h:=by
 obtain ⟨S,hS⟩:=m
 exact ⟨S,λk=>by have:=wbc (e k) (hS k);rwa [show ∀ x y z:Int,x - y+(y - z)=x - z by intro x y z;omega] at this⟩
theorem Dm.zero (p:Int) (g:Nat->Int) {f:Nat->Int} (h:∀ k,p∣f k):Dm p g f:=⟨[],λk=>by rw [qaG];simpa using h k⟩
theorem Gen.lead {r o:Nat->Int} {g R:List Int} (G:Gen r o g) {p:Nat} (hp:Pr p) (lR:Lz R) (m:MQ (co g) (co R)) (h:¬ (p:Int)∣co R (R.length - 1)):¬ (p:Int)∣co g (g.length - 1):=by
 intro hd
 obtain ⟨n,n0,n1⟩:=G.prim hp.two
 obtain ⟨c,A,hc,hA⟩:=G.loc hp m
 have nl:n+1<g.length:=by
  rcases waj n g.length with z | z
  ·rcases waj (n+1) g.length with y | y
   ·exact y
   ·exact absurd hd (by rw [show g.length - 1=n by omega];exact n0)
  ·exact absurd (by rw [qaD z];exact wbd _) n0
 rcases qgT A with z | ⟨B,lB,_,eB⟩
 ·have:c*co R (R.length - 1)=0:=by
   rw [hA,qbt,qcy g z]
  rcases Int.mul_eq_zero.mp this with e | e
  ·exact hc (by rw [e];exact wbd _)
  ·exact lR.2 e
 ·have hB:∀ k,c*co R k=cvL B (co g) k:=λk=>by rw [hA,qbt,qaq (λj=>(eB j).symm) g k,<-qbt]
  have bl:B.length+g.length<=R.length+1:=by
   rcases waj (R.length+1) (B.length+g.length) with z | z
   ·exfalso
    have b0:=lB.1
    have g0:=G.lz.1
    have e:=hB (B.length - 1+(g.length - 1))
    rw [qaD ⋯] at e
    have ne:B≠[]:=λz=>by rw [z] at b0;simp at b0
    obtain ⟨T,t,hT⟩:∃ T t,B=T++[t]:=⟨B.dropLast,B.getLast ne,(wce ne).symm⟩
    have tl:T.length=B.length - 1:=by rw [hT];simp
    have tc:co B (B.length - 1)=t:=by rw [<-tl,hT];unfold co;simp [wab]
    rw [hT,qbl,<-hT,qcf (n:=g.length) (λi hi=>qaD hi) T _ ⋯] at e
    unfold upS at e
    rw [if_pos ⋯,show B.length - 1+(g.length - 1) - T.length=g.length - 1 by omega] at e
    have e2:t*co g (g.length - 1)=0:=by omega
    rcases Int.mul_eq_zero.mp e2 with x | x
    ·exact lB.2 (tc.trans x)
    ·exact G.lz.2 x
   ·exact z
  have hh:=qjE n1 B (R.length - 1) ⋯
  rw [<-hB] at hh
  rcases hp.mulI hh with x | x
  ·exact hc x
  ·exact h x
theorem Dm.len {p:Nat} (hp:Pr p) {g f:List Int} (lg:0<g.length) (hl:¬ (p:Int)∣co g (g.length - 1)) (d:Dm (p:Int) (co g) (co f)) (h0:∃ k,¬ (p:Int)∣co f k):g.length<=f.length:=by
 rcases waj f.length g.length with z | z
 ·exfalso
  obtain ⟨S,hS⟩:=d
  have sS:=qfu hp hl (λi hi=>by rw [qaD ⋯];exact wbd _) S λk hk=>by
   have:=hS k
   rw [qaD ⋯] at this
   have e:=Int.dvd_neg.mpr this
   rwa [show ∀ x:Int,-(0 - x)=x by intro x;omega] at e
  obtain ⟨k,hk⟩:=h0
  apply hk
  have c:∀ (S:List Int),(∀ s∈S,(p:Int)∣s)->∀ k,(p:Int)∣cvL S (co g) k:=by
   intro S
   induction S with
   | nil=>intro _ k;exact wbd _
   | cons x S ih=>
     intro h k
     rw [qdi]
     refine wbc (wb8 (h x (wbh ..))) ?_
     cases k with
     | zero=>exact wbd _
     | succ k=>exact ih (λs hs=>h s (wbi _ hs)) k
  have:=wbc (hS k) (c S sS k)
  rwa [Int.sub_add_cancel] at this
 ·exact z
structure RC (r o:Nat->Int) (g:List Int):Prop where
 lz:Lz g
 left:MQ (co g) r
 right:MQ (co g) o
 qi:QI r o (co g)
theorem Gen.rc {R O g:List Int} (G:Gen (co R) (co O) g):RC (co R) (co O) g:=
 ⟨G.lz,G.mq _ R (wac _) (QI.left _ _),G.mq _ O (wac _) (QI.right _ _),G.qi⟩
theorem qqr {r o:Nat->Int} {g h:List Int} (G:RC r o g) (lh:Lz h) (m1:MQ (co h) r) (m2:MQ (co h) o) (hl:g.length<=h.length):RC r o h:=by
 refine ⟨lh,m1,m2,G.qi.of_MQ ?_⟩
 obtain ⟨d,d0,T,hT⟩:=MQ.of_QI m1 m2 G.qi
 rcases qgT T with z | ⟨B,lB,_,eB⟩
 ·exfalso
  have:d*co g (g.length - 1)=0:=by rw [hT,qbt,qcy h z]
  rcases Int.mul_eq_zero.mp this with e | e
  ·exact d0 e
  ·exact G.lz.2 e
 ·have hB:∀ k,d*co g k=cvL B (co h) k:=λk=>by rw [hT,qbt,qaq (λj=>(eB j).symm) h k,<-qbt]
  have b0:=lB.1
  have g0:=lh.1
  have ne:B≠[]:=λz=>by rw [z] at b0;simp at b0
  obtain ⟨X,t,hX⟩:∃ X t,B=X++[t]:=⟨B.dropLast,B.getLast ne,(wce ne).symm⟩
  have tl:X.length=B.length - 1:=by rw [hX];simp
  have tc:co B (B.length - 1)=t:=by rw [<-tl,hX];unfold co;simp [wab]
  have one:B.length=1:=by
   rcases waj 1 B.length with y | y
   ·exfalso
    have e:=hB (B.length - 1+(h.length - 1))
    rw [qaD ⋯,hX,qbl,<-hX,qcf (n:=h.length) (λi hi=>qaD hi) X _ ⋯] at e
    unfold upS at e
    rw [if_pos ⋯,show B.length - 1+(h.length - 1) - X.length=h.length - 1 by omega] at e
    have e2:t*co h (h.length - 1)=0:=by omega
    rcases Int.mul_eq_zero.mp e2 with x | x
    ·exact lB.2 (tc.trans x)
    ·exact lh.2 x
   ·omega
  have X0:X=[]:=waz.mp ⋯
  have t0:t≠0:=λz=>lB.2 (tc.trans z)
  refine ⟨t,t0,[d],λk=>?_⟩
  have e:=hB k
  rw [hX,X0] at e
  cases k with
  | zero=>rw [qar];rw [show ([]++[t]:List Int)=[t] from rfl,qar] at e;omega
  | succ k=>rw [qao,qaG];rw [show ([]++[t]:List Int)=[t] from rfl,qao,qaG] at e;omega
end Bs
namespace Bs
noncomputable def Prim (g:List Int):Prop:=∀ c:Int,(∀ k,c∣co g k)->c.natAbs=1
theorem Prim.top {g:List Int} (P:Prim g) {p:Nat} (hp:2<=p):∃ n,¬ (p:Int)∣co g n/\∀ i,n<i->(p:Int)∣co g i:=by
 have key:∀ n,(∀ i,n<=i->(p:Int)∣co g i)->(∀ i,(p:Int)∣co g i)\/∃ n,¬ (p:Int)∣co g n/\∀ i,n<i->(p:Int)∣co g i:=by
  intro n
  induction n with
  | zero=>intro h;exact .inl λi=>h i (wae i)
  | succ n ih=>
    intro h
    by_cases hd:(p:Int)∣co g n
    ·exact ih λi hi=>by
      by_cases e:i=n
      ·rw [e];exact hd
      ·exact h i ⋯
    ·exact .inr ⟨n,hd,λi hi=>h i ⋯⟩
 rcases key g.length (λi hi=>by rw [qaD hi];exact wbd _) with h | h
 ·have:=P (p:Int) h
  omega
 ·exact h
theorem gauss {g:List Int} (P:Prim g) {f:Nat->Int} (m:MQ (co g) f):∃ A:List Int,∀ k,f k=cvL A (co g) k:=by
 obtain ⟨c,c0,A,hA⟩:=m
 have key:∀ (m:Nat) (c:Int) (A:List Int),c.natAbs<=m->c≠0->(∀ k,c*f k=cvL A (co g) k)->∃ A:List Int,∀ k,f k=cvL A (co g) k:=by
  intro m
  induction m with
  | zero=>intro c A h h0;omega
  | succ m ih=>
    intro c A h h0 hA
    by_cases h1:c.natAbs=1
    ·rcases Int.natAbs_eq c with e | e
     ·exact ⟨A,λk=>by rw [<-hA k,e,h1];omega⟩
     ·exact ⟨A.map (-1*·),λk=>by rw [qau,<-hA k,e,h1];omega⟩
    ·obtain ⟨p,hp,pd,_⟩:=qkY (m:=c.natAbs) ⋯
     have hd:(p:Int)∣c:=wbf.mp (by rw [wba];exact pd)
     obtain ⟨n,n0,n1⟩:=P.top hp.two
     have dA:∀ a∈A,(p:Int)∣a:=qfu hp n0 n1 A λk _=>by rw [<-hA k];exact wb8 hd
     obtain ⟨c',rfl⟩:=hd
     have p2:=hp.two
     have c0':c'≠0:=λz=>h0 (by rw [z];omega)
     have eA:A=(A.map (·/ (p:Int))).map ((p:Int)*·):=by
      rw [List.map_map]
      conv=>lhs;rw [<-List.map_id A]
      refine wb1 λa ha=>?_
      show a=(p:Int)*(a / (p:Int))
      rw [wcb (dA a ha)]
     refine ih c' (A.map (·/ (p:Int))) ?_ c0' λk=>?_
     ·rw [war,wba] at h
      have pos:0<c'.natAbs:=by omega
      have:=wa4 c'.natAbs p2
      omega
     ·have e:=hA k
      rw [eA,qau,Int.mul_assoc] at e
      exact Int.eq_of_mul_eq_mul_left ⋯ e
 exact key _ c A (wac _) c0 hA
noncomputable def evI:List Int->Int->Int
 | [],_=>0
 | a::l,x=>a+x*evI l x
theorem qhc:∀ (l:List Int) (x:Int),(∀ k,co l k=0)->evI l x=0
 | [],_,_=>rfl
 | a::l,x,h=>by
   have h0:a=0:=h 0
   show a+x*evI l x=0
   rw [h0,qhc l x λk=>h (k+1)];omega
theorem qhK:∀ (a b:List Int) (x:Int),(∀ k,co a k=co b k)->evI a x=evI b x
 | [],b,x,h=>(qhc b x λk=>(h k).symm).symm
 | a::l,[],x,h=>qhc (a::l) x h
 | a::l,b::m,x,h=>by
   have h0:a=b:=h 0
   show a+x*evI l x=b+x*evI m x
   rw [h0,qhK l m x λk=>h (k+1)]
theorem qqs:∀ (a b:List Int) (x:Int),evI (qa6 a b) x=evI a x+evI b x
 | [],b,x=>by show evI b x=0+evI b x;omega
 | a::l,[],x=>by rw [qhJ];show _=_+0;omega
 | a::l,b::m,x=>by
   show (a+b)+x*evI (qa6 l m) x=a+x*evI l x+(b+x*evI m x)
   rw [qqs l m x];grind
theorem qno (c:Int):∀ (a:List Int) (x:Int),evI (a.map (c*·)) x=c*evI a x
 | [],x=>by show (0:Int)=c*0;omega
 | a::l,x=>by
   show c*a+x*evI (l.map (c*·)) x=c*(a+x*evI l x)
   rw [qno c l x];grind
theorem qqt:∀ (a b:List Int) (x:Int),evI (qaO a b) x=evI a x*evI b x
 | [],b,x=>by show (0:Int)=0*_;omega
 | a::l,b,x=>by
   show evI (qa6 (b.map (a*·)) (0::qaO l b)) x=(a+x*evI l x)*evI b x
   rw [qqs,qno]
   show a*evI b x+(0+x*evI (qaO l b) x)=_
   rw [qqt l b x];grind
theorem qeb (a b:List Int) (k:Nat):co (qaO a b) k=cvL a (co b) k:=by
 rw [qcz,qav]
 exact qaq (λj=>(qcz b j).symm) a k
theorem qsu {r a g:List Int} (h:∀ k,co r k=cvL a (co g) k) (x:Int):evI r x=evI a x*evI g x:=by
 rw [<-qqt]
 exact qhK r (qaO a g) x λk=>by rw [qeb];exact h k
theorem qtA {b c:Nat} {x:Int} (hx:Bd c x):∀ (l:List Int),(∀ z∈l,Bd b z)->Bd (b+l.length*(c+1)) (evI l x)
 | [],_=>qbU _
 | a::l,hb=>by
   show Bd _ (a+x*evI l x)
   have h1:=hb a (wbh ..)
   have h2:=hx.mul (qtA hx l λz hz=>hb z (wbi _ hz))
   have e:(l.length+1)*(c+1)=l.length*(c+1)+(c+1):=by rw [Nat.add_mul,Nat.one_mul]
   refine ((h1.mono (n:=c+(b+l.length*(c+1))) ⋯).add h2).mono ?_
   rw [way,e];omega
noncomputable def syn:List Int->Int->List Int
 | [],_=>[]
 | _::l,t=>evI l t::syn l t
theorem qjF:∀ (l:List Int) (t:Int),(syn l t).length=l.length
 | [],_=>rfl
 | _::l,t=>congrArg (·+1) (qjF l t)
theorem qqu:∀ (l:List Int) (t x:Int),evI l x - evI l t=(x - t)*evI (syn l t) x
 | [],t,x=>by show (0:Int) - 0=_*0;omega
 | a::l,t,x=>by
   show a+x*evI l x - (a+t*evI l t)=(x - t)*(evI l t+x*evI (syn l t) x)
   have:=qqu l t x
   grind
theorem qnp:∀ (l:List Int) (t:Int) (k:Nat),co l k=(if k=0 then evI l t else co (syn l t) (k - 1)) - t*co (syn l t) k
 | [],t,k=>by
   rw [show co (syn [] t) k=0 from qaD (wae _),show co (syn [] t) (k - 1)=0 from qaD (wae _),qaD (wae _)]
   show 0=(if k=0 then 0 else 0) - _
   split <;> omega
 | a::l,t,0=>by
   show a=a+t*evI l t - t*evI l t
   omega
 | a::l,t,k+1=>by
   have:=qnp l t k
   show co l k=(if k+1=0 then _ else co (evI l t::syn l t) (k+1 - 1)) - t*co (syn l t) k
   rw [if_neg ⋯,this]
   cases k with
   | zero=>rfl
   | succ k=>rw [if_neg ⋯];rfl
theorem qsv (l:List Int) (t:Int):co (syn l t) (l.length - 1)=0:=by
 induction l with
 | nil=>exact qaD (wae _)
 | cons a l ih=>
   show co (evI l t::syn l t) l.length=0
   cases h:l.length with
   | zero=>rw [waz.mp h];rfl
   | succ m=>rw [h] at ih;exact ih
theorem interp {c:Nat}:∀ (d:Nat) (l:List Int) (y:Nat) (x:Nat->Int),(∀ k,d<k->co l k=0)->(∀ i,i<=d->Bd c (x i))->(∀ i j,i<=d->j<=d->i≠j->x i≠x j)->(∀ i,i<=d->Bd y (evI l (x i)))->∀ k,Bd (y+d*(c+3)) (co l k)
 | 0,l,y,x,h1,_,_,h4,k=>by
   cases k with
   | zero=>
     have e:evI l (x 0)=co l 0:=by
      cases l with
      | nil=>rfl
      | cons a l=>
        show a+x 0*evI l (x 0)=a
        rw [qhc l (x 0) λk=>h1 (k+1) ⋯];omega
     have:=h4 0 (wac 0)
     rw [e] at this
     exact this.mono ⋯
   | succ k=>rw [h1 (k+1) ⋯];exact qbU _
 | d+1,l,y,x,h1,h2,h3,h4,k=>by
   have hs:∀ j,d<j->co (syn l (x (d+1))) j=0:=by
    have step:∀ n,∀ j,d<j->l.length<=j+n->co (syn l (x (d+1))) j=0:=by
     intro n
     induction n with
     | zero=>intro j _ h;exact qaD (by rw [qjF];omega)
     | succ n ih=>
       intro j hj h
       have e:=qnp l (x (d+1)) (j+1)
       rw [h1 (j+1) ⋯,if_neg ⋯,ih (j+1) ⋯ ⋯] at e
       rw [show j+1 - 1=j by omega] at e
       omega
    intro j hj
    exact step l.length j hj ⋯
   have ih:=interp d (syn l (x (d+1))) (y+1) x hs (λi hi=>h2 i ⋯) (λi j hi hj=>h3 i j ⋯ ⋯) (λi hi=>by
    have e:=qqu l (x (d+1)) (x i)
    have ne:x i - x (d+1)≠0:=λz=>h3 i (d+1) ⋯ ⋯ ⋯ ⋯
    have b:=(h4 i ⋯).sub (h4 (d+1) ⋯)
    rw [e] at b
    refine b.le ?_
    rw [war]
    exact Nat.le_mul_of_pos_left _ ⋯)
   have e:=qnp l (x (d+1)) k
   rw [e]
   have hx:=h2 (d+1) (wac _)
   have b2:=hx.mul (ih k)
   have em:(d+1)*(c+3)=d*(c+3)+(c+3):=by rw [Nat.add_mul,Nat.one_mul]
   have b1:Bd (c+(y+1+d*(c+3))) (if k=0 then evI l (x (d+1)) else co (syn l (x (d+1))) (k - 1)):=by
    split
    ·exact (h4 (d+1) (wac _)).mono ⋯
    ·exact (ih (k - 1)).mono ⋯
   exact (b1.sub b2).mono ⋯
end Bs
namespace Bs
open PySem L2
noncomputable def isN (H:Hp) (v:V) (q:Nu):Prop:=∃ p,v=.ref p/\H p=some (.tup [.int q.1,.int q.2])
noncomputable def Nums (H:Hp):List V->List Nu->Prop
 | [],[]=>True
 | x::xs,q::l=>isN H x q/\Nums H xs l
 | _,_=>False
noncomputable def Tp (H H':Hp):Prop:=∀ b xs,H b=some (.tup xs)->H' b=some (.tup xs)
theorem tpS {H H':Hp} (s:Same H H'):Tp H H':=λb xs h=>s b _ h
theorem Tp.trans {H H1 H2:Hp} (a:Tp H H1) (b:Tp H1 H2):Tp H H2:=λc xs h=>b c xs (a c xs h)
theorem Kp.tp {p:Addr} {H H':Hp} {xs:List V} (k:Kp p H H') (h:H p=some (.lst xs)):Tp H H':=λb ys q=>k b _ (qkq q h (by intro z;cases z)) q
theorem Tp.updL {p:Addr} {H:Hp} {xs ys:List V} (h:H p=some (.lst xs)):Tp H (upd H p (.lst ys)):=Kp.tp Kp.upd h
theorem isN.tp {H H':Hp} {v:V} {q:Nu} (h:isN H v q) (t:Tp H H'):isN H' v q:=let ⟨p,e,z⟩:=h;⟨p,e,t _ _ z⟩
theorem Nums.tp {H H':Hp} (t:Tp H H'):∀ {xs:List V} {l:List Nu},Nums H xs l->Nums H' xs l
 | [],[],_=>trivial
 | _::_,_::_,h=>⟨h.1.tp t,Nums.tp t h.2⟩
 | [],_::_,h=>h.elim
 | _::_,[],h=>h.elim
theorem Nums.length {H:Hp}:∀ {xs:List V} {l:List Nu},Nums H xs l->xs.length=l.length
 | [],[],_=>rfl
 | _::_,_::_,h=>congrArg (·+1) (Nums.length h.2)
 | [],_::_,h=>h.elim
 | _::_,[],h=>h.elim
theorem Nums.get {H:Hp}:∀ {xs:List V} {l:List Nu} {i:Nat} {v:V},Nums H xs l->xs[i]?=some v->∃ q,l[i]?=some q/\isN H v q
 | [],[],_,_,_,e=>by simp at e
 | _::_,q::_,0,_,h,e=>by simp at e;subst e;exact ⟨q,rfl,h.1⟩
 | _::_,_::_,i+1,_,h,e=>by
   obtain ⟨q,h1,h2⟩:=Nums.get (i:=i) h.2 (by simpa using e)
   exact ⟨q,by simpa using h1,h2⟩
 | [],_::_,_,_,h,_=>h.elim
 | _::_,[],_,_,h,_=>h.elim
theorem Nums.at {H:Hp} {xs:List V} {l:List Nu} {i:Nat} (h:Nums H xs l) (hi:i<l.length) (d:Nu):∃ v,xs[i]?=some v/\isN H v (l.getD i d):=by
 have hx:i<xs.length:=by rw [h.length];exact hi
 obtain ⟨q,h1,h2⟩:=h.get (wah hx)
 refine ⟨_,wah hx,?_⟩
 rw [wab,h1]
 exact h2
theorem Nums.append {H:Hp}:∀ {xs ys:List V} {l m:List Nu},Nums H xs l->Nums H ys m->Nums H (xs++ys) (l++m)
 | [],_,[],_,_,h=>h
 | _::_,_,_::_,_,h,h2=>⟨h.1,Nums.append h.2 h2⟩
 | [],_,_::_,_,h,_=>h.elim
 | _::_,_,[],_,h,_=>h.elim
theorem Nums.one {H:Hp} {v:V} {q:Nu} (h:isN H v q):Nums H [v] [q]:=⟨h,trivial⟩
theorem Nums.take {H:Hp}:∀ {xs:List V} {l:List Nu} (n:Nat),Nums H xs l->Nums H (xs.take n) (l.take n)
 | [],[],n,_=>by simp [Nums]
 | _::_,_::_,0,_=>trivial
 | _::_,_::_,n+1,h=>⟨h.1,Nums.take n h.2⟩
 | [],_::_,_,h=>h.elim
 | _::_,[],_,h=>h.elim
theorem Nums.set {H:Hp} {v:V} {q:Nu} (hv:isN H v q):∀ {xs:List V} {l:List Nu} (i:Nat),Nums H xs l->Nums H (xs.set i v) (l.set i q)
 | [],[],_,_=>trivial
 | _::_,_::_,0,h=>⟨hv,h.2⟩
 | _::_,_::_,i+1,h=>⟨h.1,Nums.set hv i h.2⟩
 | [],_::_,_,h=>h.elim
 | _::_,[],_,h=>h.elim
theorem Nums.rep {H:Hp} {v:V} {q:Nu} (hv:isN H v q):∀ n:Nat,Nums H (List.replicate n v) (List.replicate n q)
 | 0=>trivial
 | n+1=>⟨hv,Nums.rep hv n⟩
theorem qhd {α:Type} (v:α):∀ n:Nat,(List.replicate n [v]).flatten=List.replicate n v
 | 0=>rfl
 | n+1=>by rw [List.replicate_succ,List.flatten_cons,qhd v n];rfl
theorem qcg {α:Type} {xs:List α} {i:Int} {j:Nat} {v:α} (e:i=(j:Int)) (h:xs[j]?=some v):atI xs i=some v:=by subst e;exact qpo h
theorem qf8 {H:Hp} {p:Addr} {q:Nu}:isN (upd H p (.tup [.int q.1,.int q.2])) (.ref p) q:=⟨p,rfl,upd_same⟩
theorem qfv {xs:List V} {m:Nat} (h:m<=xs.length):qg4 xs none (some (m:Int))=xs.take m:=by
 unfold qg4 HT.sIx
 simp only [List.drop_zero,Nat.sub_zero,wb2]
 rw [if_neg ⋯,Nat.min_eq_left h]
noncomputable def qtB (H:Hp) (Q:VK) (l:List Nu):Prop:=∀ (r:Addr) (zs:List V) (H':Hp),Same H H'->H' r=some (.tup zs)->Nums H' zs l->Q (.ref r) H'
noncomputable def qnq (q:Nu):PySem.W.Dat:=.tuple [.int q.1,.int q.2]
noncomputable def qiu (l:List Nu):PySem.W.Dat:=.tuple (l.map qnq)
theorem qtC {H:Hp} {v:V} {q:Nu} (h:isN H v q):RepD H v (qnq q):=by
 obtain ⟨p,rfl,hp⟩:=h
 exact .tup hp (.cons (.int _) (.cons (.int _) .nil))
theorem qv9 {H:Hp}:∀ {xs:List V} {l:List Nu},Nums H xs l->RepA H xs (l.map qnq)
 | [],[],_=>.nil
 | _::_,_::_,h=>.cons (qtC h.1) (qv9 h.2)
 | [],_::_,h=>h.elim
 | _::_,[],h=>h.elim
theorem qtD {H:Hp} {p:Addr} {xs:List V} {l:List Nu} (hp:H p=some (.tup xs)) (h:Nums H xs l):RepD H (.ref p) (qiu l):=.tup hp (qv9 h)
theorem okN (q:Nu) (n:Nat):PySem.W.kqdOk (n+1) (qnq q)=true:=by simp [qnq,PySem.W.kqdOk]
theorem okP (l:List Nu) (n:Nat):PySem.W.kqdOk (n+2) (qiu l)=true:=by
 simp only [qiu,PySem.W.kqdOk,List.all_map,List.all_eq_true,Function.comp]
 intro q _
 exact okN q n
end Bs
namespace Bs
open PySem L2
section
variable {σ:L2.St} {H:Hp} {Q:VK} {D:Ends} {rest:TS} {sp:Sp} {E:XK}
theorem qan {i:Nat} {v:V} (h1:σ[i]?=some (some v)) (h:Q v H):qag i σ H Q:=⟨v,h1,h⟩
theorem qip {i:Nat} {k:Int} {a:Addr} {xs:List V} {v:V} (h1:σ[i]?=some (some (.ref a))) (h2:H a=some (.tup xs)) (h3:atI xs k=some v) (h:Q v H):tOp gT (qag i) (tC (.int k)) σ H Q:=⟨_,h1,a,k,xs,v,rfl,rfl,h2,h3,h⟩
theorem qcn {ta:TE} {k:Nat} (h:ta σ H λx H1=>sp [x] H1 (λv H'=>rest D (σ.set k (some v)) H') E):qaF (qaM (qak sp [] E (qab ta qal)) (qai k)) rest D σ H:=h
theorem qb0 {ta tb:TE} {k:Nat} (h:ta σ H λx H1=>tb σ H1 λy H2=>sp [x,y] H2 (λv H'=>rest D (σ.set k (some v)) H') E):qaF (qaM (qak sp [] E (qab ta (qab tb qal))) (qai k)) rest D σ H:=h
theorem qux {ta tb tc:TE} {k:Nat} (h:ta σ H λx H1=>tb σ H1 λy H2=>tc σ H2 λz H3=>sp [x,y,z] H3 (λv H'=>rest D (σ.set k (some v)) H') E):qaF (qaM (qak sp [] E (qab ta (qab tb (qab tc qal)))) (qai k)) rest D σ H:=h
theorem qco {ta:TE} (h:ta σ H λx H1=>sp [x] H1 Q E):qak sp [] E (qab ta qal) σ H Q:=h
theorem qbs {ta tb:TE} (h:ta σ H λx H1=>tb σ H1 λy H2=>sp [x,y] H2 Q E):qak sp [] E (qab ta (qab tb qal)) σ H Q:=h
theorem qw3 {ta tb tc:TE} (h:ta σ H λx H1=>tb σ H1 λy H2=>tc σ H2 λz H3=>sp [x,y,z] H3 Q E):qak sp [] E (qab ta (qab tb (qab tc qal))) σ H Q:=h
theorem qcp {te:TE} {k:Nat} (h:te σ H λx H1=>rest D (σ.set k (some x)) H1):qaF (qaM te (qai k)) rest D σ H:=h
theorem qdu {te:TE} (h:te σ H D.rt):qbz te D σ H:=h
theorem qnr {ta:TE} (h:ta σ H λx H1=>[x].length<=sizeLine/\∀ p,H1 p=none->Q (.ref p) (upd H1 p (.tup [x]))):qb9 (qab ta qal) σ H Q:=h
theorem qbm {ta tb:TE} (h:ta σ H λx H1=>tb σ H1 λy H2=>[x,y].length<=sizeLine/\∀ p,H2 p=none->Q (.ref p) (upd H2 p (.tup [x,y]))):qb9 (qab ta (qab tb qal)) σ H Q:=h
theorem qwa {ta tb tc:TE} (h:ta σ H λx H1=>tb σ H1 λy H2=>tc σ H2 λz H3=>[x,y,z].length<=sizeLine/\∀ p,H3 p=none->Q (.ref p) (upd H3 p (.tup [x,y,z]))):qb9 (qab ta (qab tb (qab tc qal))) σ H Q:=h
theorem qgv {ta:TE} (h:ta σ H λx H1=>[x].length<=sizeLine/\∀ p,H1 p=none->Q (.ref p) (upd H1 p (.lst [x]))):qcR (qab ta qal) σ H Q:=h
theorem qtE {ta tb:TE} (h:ta σ H λx H1=>tb σ H1 λy H2=>[x,y].length<=sizeLine/\∀ p,H2 p=none->Q (.ref p) (upd H2 p (.lst [x,y]))):qcR (qab ta (qab tb qal)) σ H Q:=h
theorem r_c {v:V} (h:Q v H):tC v σ H Q:=h
theorem qcO {r:R2} {ta tb:TE} (h:ta σ H λx H1=>tb σ H1 λy H2=>r x y H2 Q):tOp r ta tb σ H Q:=h
theorem quy {g:Int->Int->V} {i j:Int} (h:Q (g i j) H):rI0 g (.int i) (.int j) H Q:=⟨i,j,rfl,rfl,h⟩
theorem qjG {b:List V->Hp->VK->Prop} {ta:TE} (h:ta σ H λx H1=>b [x] H1 Q):tCB b (qab ta qal) σ H Q:=h
theorem qtF {ta:TA} {g:TG} {tb:TS} (h:ta σ H (λvs H1=>∃ i j:Int,vs=[.int i,.int j,.int (-1)]/\(-(2 ^ 62)<=i/\i<2 ^ 62/\-(2 ^ 62)<=j/\j<2 ^ 62)/\ForJ (Itd i (i - j).toNat) g tb { D with nx:=rest D } σ H1)):qaF (qe4 (qpX ta) g tb) rest D σ H:=h
theorem qwb {te:TE} {g:TG} (h:te σ H λx H1=>g x σ H1 (rest D)):qaF (qaM te g) rest D σ H:=h
theorem qw4 {ta tb tc td te:TE} (h:ta σ H λx H1=>tb σ H1 λy H2=>tc σ H2 λz H3=>td σ H3 λa H4=>te σ H4 λb H5=>sp [x,y,z,a,b] H5 Q E):qak sp [] E (qab ta (qab tb (qab tc (qab td (qab te qal))))) σ H Q:=h
theorem qsw {c:TT} {t u:TS} (h:c σ H λb H1=>if b=true then t { D with nx:=rest D } σ H1 else u { D with nx:=rest D } σ H1):qaF (qd5 c t u) rest D σ H:=h
theorem qch {te:TE} {Q:Bool->Hp->Prop} (h:te σ H λx H'=>∃ k,x=.bl k/\Q k H'):qa2 te σ H Q:=h
theorem qjH {x:V}:[x].length<=sizeLine:=by show 1<=_;exact sz ∅
theorem qcP {x y:V}:[x,y].length<=sizeLine:=by show 2<=_;exact sz ∅
theorem qx3 {x y z:V}:[x,y,z].length<=sizeLine:=by show 3<=_;exact sz ∅
theorem up3 {H:Hp} {a x y:Addr} {A X Y:HO} {P:Hp->Prop} (ha:H a=none) (hx:upd H a A x=none) (hy:upd (upd H a A) x X y=none) (k:∀ H1,H1 a=some A->H1 y=some Y->Same H H1->a≠y->H y=none->P H1):P (upd (upd (upd H a A) x X) y Y):=by
 have sa:=qaf ha A
 have sx:=qaf hx X
 have sy:=qaf hy Y
 refine k _ (sy _ _ (sx _ _ upd_same)) upd_same (λz o h=>sy z o (sx z o (sa z o h))) (qas (sx _ _ upd_same) hy) ?_
 cases e:H y with
 | none=>rfl
 | some o=>have:=sx _ _ (sa _ _ e);rw [hy] at this;cases this
theorem up2 {H0 H:Hp} {t w:Addr} {X:HO} {zs ys:List V} {P:Hp->Prop} (ht:H t=none) (hw:H w=some (.lst zs)) (h0:H0 w=none) (s:Same H0 H) (k:∀ H1,Same H0 H1->H1 w=some (.lst ys)->H1 t=some X->Tp H H1->(∀ c o,c≠w->H c=some o->H1 c=some o)->P H1):P (upd (upd H t X) w (.lst ys)):=by
 have st:=qaf ht X
 exact k _ (λb o h=>Kp.upd b o (qas h h0) (st b o (s b o h))) upd_same (Kp.upd _ _ (qas hw ht).symm upd_same) (λb o h=>Tp.updL (st _ _ hw) b o (st _ _ h)) λc o n h=>Kp.upd c o n (st _ _ h)
end
end Bs
set_option maxHeartbeats 4000000
namespace Bs
open PySem L2
theorem qhe {g:Nat->Rat} {n:Nat} (h:∀ i,n<i->g i=0):∀ (a:List Rat) (k:Nat),a.length+n<=k->cvL a g k=0
 | [],_,_=>rfl
 | x::a,0,hk=>absurd hk (by rw [way];omega)
 | x::a,k+1,hk=>by
   rw [way] at hk
   rw [qao,h (k+1) ⋯,qhe h a k ⋯];grind
theorem qmc {g:Nat->Rat} {n:Nat} (h0:g n≠0) (h:∀ i,n<i->g i=0) (S:List Rat):(∀ k,n<=k->cvL S g k=0)->∀ s∈S,s=0:=by
 induction hl:S.length generalizing S with
 | zero=>intro _ s hs;rw [waz.mp hl] at hs;exact nomatch hs
 | succ m ih=>
   intro hk
   have ne:S≠[]:=λz=>by rw [z] at hl;simp at hl
   obtain ⟨T,t,rfl⟩:∃ T t,S=T++[t]:=⟨S.dropLast,S.getLast ne,(wce ne).symm⟩
   have ht:t=0:=by
    have a:=hk (T.length+n) ⋯
    rw [qbl,qhe h T _ (wac _)] at a
    unfold upS at a
    rw [if_pos ⋯,show T.length+n - T.length=n by omega] at a
    have a':t*g n=0:=by grind
    rcases Rat.mul_eq_zero.mp a' with z | z
    ·exact z
    ·exact absurd z h0
   have hT2:=ih T (by simpa using hl) (λk hk2=>by
    have a:=hk k hk2
    rw [qbl,ht] at a
    grind)
   intro s hs
   rcases wa7.mp hs with h | h
   ·exact hT2 s h
   ·rw [wag.mp h];exact ht
theorem qhf {g:Nat->Rat}:∀ (S:List Rat),(∀ s∈S,s=0)->∀ k,cvL S g k=0
 | [],_,_=>rfl
 | x::S,h,0=>by rw [qar,h x (wbh ..)];grind
 | x::S,h,k+1=>by rw [qao,h x (wbh ..),qhf S (λs hs=>h s (wbi _ hs)) k];grind
theorem qmd {G:Nat->Rat} {n:Nat} (h0:G n≠0) (hG:∀ i,n<i->G i=0) {A B:List Rat} (h:∀ k,cvL A G k=cvL B G k) (g:Nat->Rat) (k:Nat):cvL A g k=cvL B g k:=by
 have z:=qhf (g:=g) (qa6 A (B.map ((-1:Rat)*·))) (qmc h0 hG _ λk _=>by rw [qaC,qau,h k];grind) k
 rw [qaC,qau] at z
 grind
end Bs
namespace Bs
open PySem L2
structure Sr where
 c:Nat->Rat
theorem Sr.ext' {f g:Sr} (h:∀ k,f.c k=g.c k):f=g:=by
 cases f;cases g;congr;exact funext h
noncomputable def tr (n:Nat) (f:Nat->Rat):List Rat:=(List.range n).map f
theorem qhL (n:Nat) (f:Nat->Rat) (k:Nat):(tr n f).getD k 0=if k<n then f k else 0:=by
 unfold tr
 rw [wab,waf]
 by_cases h:k<n
 ·rw [wbk h,if_pos h];rfl
 ·rw [if_neg h,wax (by rw [wal];omega)];rfl
theorem qec:∀ (a b:List Rat) (g h:Nat->Rat) (k:Nat),(∀ i,i<=k->a.getD i 0=b.getD i 0)->(∀ i,i<=k->g i=h i)->cvL a g k=cvL b h k:=by
 intro a
 induction a with
 | nil=>
   intro b
   induction b with
   | nil=>intro g h k _ _;rfl
   | cons y b ih=>
     intro g h k ab gh
     have y0:=ab 0 (wae _)
     simp at y0
     cases k with
     | zero=>rw [qaG,qar,<-y0];grind
     | succ k=>
       rw [qaG,qao,<-y0]
       have:=ih g h k (λi hi=>by have:=ab (i+1) ⋯;simpa using this) (λi hi=>gh i ⋯)
       rw [qaG] at this
       grind
 | cons x a ih=>
   intro b g h k ab gh
   cases b with
   | nil=>
     have x0:=ab 0 (wae _)
     simp at x0
     cases k with
     | zero=>rw [qaG,qar,x0];grind
     | succ k=>
       rw [qaG,qao,x0]
       have:=ih [] g h k (λi hi=>by have:=ab (i+1) ⋯;simpa using this) (λi hi=>gh i ⋯)
       rw [qaG] at this
       grind
   | cons y b=>
     have x0:=ab 0 (wae _)
     simp at x0
     cases k with
     | zero=>rw [qar,qar,x0,gh 0 (wac _)]
     | succ k=>
       rw [qao,qao,x0,gh _ (wac _),ih b g h k (λi hi=>by have:=ab (i+1) ⋯;simpa using this) (λi hi=>gh i ⋯)]
namespace Sr
noncomputable def zero:Sr:=⟨λ_=>0⟩
noncomputable def one:Sr:=⟨qca⟩
noncomputable def add (f g:Sr):Sr:=⟨λk=>f.c k+g.c k⟩
noncomputable def neg (f:Sr):Sr:=⟨λk=>- f.c k⟩
noncomputable def mul (f g:Sr):Sr:=⟨λk=>cvL (tr (k+1) f.c) g.c k⟩
noncomputable def num (x:Rat):Sr:=⟨λk=>x*qca k⟩
theorem qns (f g:Sr) {n k:Nat} (h:k<n):(mul f g).c k=cvL (tr n f.c) g.c k:=by
 refine qec _ _ _ _ _ (λi hi=>?_) (λ_ _=>rfl)
 rw [qhL,qhL,if_pos ⋯,if_pos ⋯]
theorem qme (f g:Sr) {n m k:Nat} (h:k<n) (h':k<m):(mul f g).c k=cvL (tr n f.c) (cvL (tr m g.c) qca) k:=by
 rw [qns f g h]
 refine qec _ _ _ _ _ (λ_ _=>rfl) (λi hi=>?_)
 rw [qcm,qhL,if_pos ⋯]
theorem mul_comm (f g:Sr):mul f g=mul g f:=ext' λk=>by
 rw [qme f g (wbq k) (wbq k),qme g f (wbq k) (wbq k),qez]
theorem mul_assoc (f g h:Sr):mul (mul f g) h=mul f (mul g h):=ext' λk=>by
 rw [qns (mul f g) h (wbq k),qns f (mul g h) (wbq k)]
 have e1:cvL (tr (k+1) (mul f g).c) h.c k=cvL (qaO (tr (k+1) f.c) (tr (k+1) g.c)) h.c k:=by
  refine qec _ _ _ _ _ (λi hi=>?_) (λ_ _=>rfl)
  rw [qhL,if_pos ⋯,<-qcm,qav,qme f g (n:=k+1) (m:=k+1) ⋯ ⋯]
 rw [e1,qav]
 exact qec _ _ _ _ _ (λ_ _=>rfl) (λi hi=>(qns g h ⋯).symm)
theorem mul_add (f g h:Sr):mul f (add g h)=add (mul f g) (mul f h):=ext' λk=>by
 show cvL (tr (k+1) f.c) (λk=>g.c k+h.c k) k=_
 rw [qdQ];rfl
theorem mul_one (f:Sr):mul f one=f:=ext' λk=>by
 show cvL (tr (k+1) f.c) qca k=_
 rw [qcm,qhL,if_pos (wbq k)]
theorem mul_zero (f:Sr):mul f zero=zero:=ext' λk=>by
 show cvL (tr (k+1) f.c) (λ_=>0) k=0
 have:=qba (0:Rat) (λ_=>0) (tr (k+1) f.c) k
 rw [show (λk:Nat=>(0:Rat)*(λ_=>(0:Rat)) k)=λ_=>0 from funext λ_=>by grind] at this
 rw [this];grind
noncomputable def npow (f:Sr):Nat->Sr
 | 0=>one
 | n+1=>mul (npow f n) f
noncomputable instance:Add Sr:=⟨add⟩
noncomputable instance:Mul Sr:=⟨mul⟩
noncomputable instance:Neg Sr:=⟨neg⟩
noncomputable instance:Sub Sr:=⟨λf g=>add f (neg g)⟩
noncomputable instance:NatCast Sr:=⟨λn=>num (n:Rat)⟩
noncomputable instance:IntCast Sr:=⟨λn=>num (n:Rat)⟩
noncomputable instance (n:Nat):OfNat Sr n:=⟨num (n:Rat)⟩
noncomputable instance:Pow Sr Nat:=⟨npow⟩
noncomputable instance:SMul Nat Sr:=⟨λn f=>mul (num (n:Rat)) f⟩
noncomputable instance:SMul Int Sr:=⟨λn f=>mul (num (n:Rat)) f⟩
theorem num0:num 0=zero:=ext' λk=>by show 0*qca k=(0:Rat);grind
theorem num1:num 1=one:=ext' λk=>by show 1*qca k=(qca k:Rat);grind
theorem num_add (x y:Rat):num (x+y)=add (num x) (num y):=ext' λk=>by show (x+y)*qca k=x*qca k+y*qca k;grind
theorem qmf (x:Rat):num (-x)=neg (num x):=ext' λk=>by show (-x)*qca k = -(x*qca k);grind
theorem add_comm (f g:Sr):add f g=add g f:=ext' λk=>by show f.c k+g.c k=g.c k+f.c k;grind
theorem add_assoc (f g h:Sr):add (add f g) h=add f (add g h):=ext' λk=>by show f.c k+g.c k+h.c k=f.c k+(g.c k+h.c k);grind
theorem add_zero (f:Sr):add f zero=f:=ext' λk=>by show f.c k+0=f.c k;grind
theorem qmg (f:Sr):add (neg f) f=zero:=ext' λk=>by show -f.c k+f.c k=0;grind
theorem add_mul (f g h:Sr):mul (add f g) h=add (mul f h) (mul g h):=by rw [mul_comm,mul_add,mul_comm h f,mul_comm h g]
theorem neg_mul (f g:Sr):mul (neg f) g=neg (mul f g):=by
 have h:add (mul (neg f) g) (mul f g)=zero:=by rw [<-add_mul,qmg,mul_comm,mul_zero]
 have h2:add (neg (mul f g)) (mul f g)=zero:=qmg _
 refine ext' λk=>?_
 have a:=congrFun (congrArg Sr.c h) k
 have b:=congrFun (congrArg Sr.c h2) k
 have a:(mul (neg f) g).c k+(mul f g).c k=0:=a
 have b:(neg (mul f g)).c k+(mul f g).c k=0:=b
 grind
noncomputable instance:Lean.Grind.CommRing Sr where
 add_zero f:=(congrArg (add f) num0).trans (add_zero f)
 add_comm:=add_comm
 add_assoc:=add_assoc
 mul_assoc:=mul_assoc
 mul_comm:=mul_comm
 mul_one f:=(congrArg (mul f) num1).trans (mul_one f)
 one_mul f:=(congrArg (λz=>mul z f) num1).trans ((mul_comm _ _).trans (mul_one f))
 left_distrib:=mul_add
 right_distrib:=add_mul
 zero_mul f:=by show mul (num 0) f=num 0;rw [num0,mul_comm,mul_zero]
 mul_zero f:=by show mul f (num 0)=num 0;rw [num0,mul_zero]
 pow_zero f:=num1.symm
 pow_succ f n:=rfl
 ofNat_succ n:=by
  show num ((n+1:Nat):Rat)=add (num (n:Rat)) (num 1)
  rw [<-num_add];push_cast;rfl
 ofNat_eq_natCast n:=rfl
 nsmul_eq_natCast_mul n f:=rfl
 sub_eq_add_neg f g:=rfl
 neg_add_cancel f:=(qmg f).trans num0.symm
 intCast_neg n:=by show num ((-n:Int):Rat)=neg (num (n:Rat));rw [<-qmf];push_cast;rfl
 intCast_ofNat n:=rfl
 neg_zsmul n f:=by show mul (num ((-n:Int):Rat)) f=neg (mul (num (n:Rat)) f);rw [show ((-n:Int):Rat) = -(n:Rat) by push_cast;rfl,qmf,neg_mul]
 zsmul_natCast_eq_nsmul n f:=rfl
end Sr
end Bs
namespace Bs
open PySem L2
namespace Sr
noncomputable def L (a:List Rat):Sr:=⟨cvL a qca⟩
theorem L_mul (a:List Rat) (g:Sr):L a*g=⟨cvL a g.c⟩:=ext' λk=>by
 refine qec _ _ _ _ _ (λi hi=>?_) (λ_ _=>rfl)
 rw [qhL,if_pos ⋯]
 exact qcm a i
noncomputable def Bn (f:Sr) (n:Nat):Prop:=∀ k,n<=k->f.c k=0
theorem Bn.row {f:Sr} {n:Nat} (h:Bn f n):L (tr n f.c)=f:=ext' λk=>by
 show cvL (tr n f.c) qca k=f.c k
 rw [qcm,qhL]
 by_cases hk:k<n
 ·rw [if_pos hk]
 ·rw [if_neg hk,h k ⋯]
noncomputable def Pol (f:Sr):Prop:=∃ a,f=L a
theorem Pol.L (a:List Rat):Pol (L a):=⟨a,rfl⟩
theorem Bn.pol {f:Sr} {n:Nat} (h:Bn f n):Pol f:=⟨_,h.row.symm⟩
theorem qxC (a:List Rat):Bn (Sr.L a) a.length:=λk hk=>by
 show cvL a qca k=0
 rw [qcm,wab,wax hk];rfl
theorem Pol.bn {f:Sr} (h:Pol f):∃ n,Bn f n:=let ⟨a,e⟩:=h;⟨a.length,e ▸ qxC a⟩
theorem Pol.add {f g:Sr} (h:Pol f) (h':Pol g):Pol (f+g):=by
 obtain ⟨a,rfl⟩:=h;obtain ⟨b,rfl⟩:=h'
 exact ⟨qa6 a b,ext' λk=>(qaC qca a b k).symm⟩
theorem Pol.mul {f g:Sr} (h:Pol f) (h':Pol g):Pol (f*g):=by
 obtain ⟨a,rfl⟩:=h;obtain ⟨b,rfl⟩:=h'
 exact ⟨qaO a b,by rw [L_mul];exact ext' λk=>(qav qca a b k).symm⟩
theorem Pol.num (x:Rat):Pol (num x):=⟨[x],ext' λk=>by
 show x*qca k=cvL [x] qca k
 cases k with
 | zero=>rw [qar];grind
 | succ k=>rw [qao,qaG];grind⟩
theorem Pol.nat (n:Nat):Pol (OfNat.ofNat n:Sr):=Pol.num (n:Rat)
theorem Pol.neg {f:Sr} (h:Pol f):Pol (-f):=by
 have e:-f=Sr.num (-1)*f:=by
  have:Sr.num (-1)=(-1:Sr):=qmf 1
  rw [this];grind
 rw [e];exact (Pol.num _).mul h
theorem Pol.sub {f g:Sr} (h:Pol f) (h':Pol g):Pol (f - g):=by
 have e:f - g=f + -g:=by grind
 rw [e];exact h.add h'.neg
theorem Pol.pow {f:Sr} (h:Pol f):∀ n:Nat,Pol (f ^ n)
 | 0=>(num1 ▸ Pol.num 1:Pol one)
 | n+1=>(h.pow n).mul h
theorem top_ex {f:Sr}:∀ n,Bn f n->f=0\/∃ m,m<n/\f.c m≠0/\Bn f (m+1)
 | 0,h=>.inl (ext' λk=>by rw [h k (wae _)];show 0=((0:Nat):Rat)*qca k;push_cast;grind)
 | n+1,h=>by
   by_cases z:f.c n=0
   ·rcases top_ex n (λk hk=>by rcases Nat.eq_or_lt_of_le hk with e | e;exact e ▸ z;exact h k e) with q | ⟨m,m1,m2,m3⟩
    ·exact .inl q
    ·exact .inr ⟨m,⋯,m2,m3⟩
   ·exact .inr ⟨n,⋯,z,h⟩
theorem zero_c (k:Nat):(0:Sr).c k=0:=by show ((0:Nat):Rat)*qca k=0;push_cast;grind
theorem cancel {f g h:Sr} (pf:Pol f) (pg:Pol g) (ph:Pol h) (h0:h≠0) (e:f*h=g*h):f=g:=by
 obtain ⟨a,rfl⟩:=pf;obtain ⟨b,rfl⟩:=pg
 obtain ⟨n,hn⟩:=ph.bn
 rcases top_ex n hn with z | ⟨m,_,m1,m2⟩
 ·exact absurd z h0
 rw [L_mul,L_mul] at e
 exact ext' λk=>qmd m1 (λi hi=>m2 i hi) (λk=>congrFun (congrArg Sr.c e) k) qca k
theorem ne_mul {f g:Sr} (pf:Pol f) (pg:Pol g) (f0:f≠0) (g0:g≠0):f*g≠0:=λe=>f0 (cancel pf (Pol.nat 0) pg g0 (by rw [e];grind))
noncomputable def X (n:Nat):Sr:=L (List.replicate n 0++[1])
theorem qsx (n:Nat) (g:Sr) (k:Nat):(X n*g).c k=if n<=k then g.c (k - n) else 0:=by
 unfold X
 rw [L_mul]
 show cvL (List.replicate n 0++[1]) g.c k=_
 rw [qc7]
 unfold upS
 by_cases h:n<=k
 ·rw [if_pos h,if_pos h]
  cases k - n with
  | zero=>rw [qar];grind
  | succ k=>rw [qao,qaG];grind
 ·rw [if_neg h,if_neg h]
theorem num_mul (x:Rat) (g:Sr) (k:Nat):(num x*g).c k=x*g.c k:=by
 have:num x=L [x]:=ext' λk=>by
  show x*qca k=cvL [x] qca k
  cases k with
  | zero=>rw [qar];grind
  | succ k=>rw [qao,qaG];grind
 rw [this,L_mul]
 show cvL [x] g.c k=_
 cases k with
 | zero=>rw [qar];grind
 | succ k=>rw [qao,qaG];grind
theorem sub_c (f g:Sr) (k:Nat):(f - g).c k=f.c k - g.c k:=by show f.c k + - g.c k=_;grind
theorem divide {g:Sr} {m:Nat} (g0:g.c m≠0) (hg:Bn g (m+1)):∀ (n:Nat) (f:Sr),Bn f n->∃ q r,Pol q/\Bn r m/\f=q*g+r
 | 0,f,h=>⟨0,f,Pol.nat 0,λk _=>h k (wae _),by grind⟩
 | n+1,f,h=>by
   by_cases c:n+1<=m
   ·exact ⟨0,f,Pol.nat 0,λk hk=>h k ⋯,by grind⟩
   ·obtain ⟨q,r,pq,br,e⟩:=divide g0 hg n (f - num (f.c n*(g.c m)⁻¹)*(X (n - m)*g)) λk hk=>by
     rw [sub_c,num_mul,qsx,if_pos ⋯]
     rcases Nat.eq_or_lt_of_le hk with z | z
     ·rw [<-z,show n - (n - m)=m by omega]
      have:(g.c m)⁻¹*g.c m=1:=wb7 _ g0
      grind
     ·rw [h k z,hg (k - (n - m)) ⋯];grind
    exact ⟨q+num (f.c n*(g.c m)⁻¹)*X (n - m),r,pq.add ((Pol.num _).mul (Pol.L _)),br,by grind⟩
theorem qwc:∀ (n:Nat) (S T:Sr),Pol S->Bn T n->(S≠0\/T≠0)->∃ g r e U W,Pol g/\Pol r/\Pol e/\Pol U/\Pol W/\g≠0/\S=g*r/\T=g*e/\U*r+W*e=1:=by
 intro n
 induction n using Nat.strongRecOn with
 | _ n ih=>
   intro S T pS bT h
   by_cases z:T=0
   ·exact ⟨S,1,0,1,0,pS,Pol.nat 1,Pol.nat 0,Pol.nat 1,Pol.nat 0,by rcases h with h | h;exact h;exact absurd z h,by grind,by rw [z];grind,by grind⟩
   ·rcases top_ex n bT with q | ⟨m,mn,m0,mb⟩
    ·exact absurd q z
    obtain ⟨a,rfl⟩:=pS
    obtain ⟨q,r,pq,br,e⟩:=divide m0 mb _ _ (qxC a)
    obtain ⟨g,r1,e1,U,W,pg,pr,pe,pU,pW,g0,h1,h2,h3⟩:=ih m mn T r bT.pol br (.inl z)
    exact ⟨g,q*r1+e1,r1,W,U - W*q,pg,(pq.mul pr).add pe,pr,pW,pU.sub (pW.mul pq),g0,by rw [e,h1,h2];grind,h1,by grind⟩
noncomputable def D (f:Sr):Sr:=⟨λk=>((k:Rat)+1)*f.c (k+1)⟩
theorem D_add (f g:Sr):D (f+g)=D f+D g:=ext' λk=>by show ((k:Rat)+1)*(f.c (k+1)+g.c (k+1))=((k:Rat)+1)*f.c (k+1)+((k:Rat)+1)*g.c (k+1);grind
theorem D_num (x:Rat) (g:Sr):D (num x*g)=num x*D g:=ext' λk=>by
 rw [num_mul]
 show ((k:Rat)+1)*(num x*g).c (k+1)=x*(((k:Rat)+1)*g.c (k+1))
 rw [num_mul];grind
theorem D_X (g:Sr):D (X 1*g)=g+X 1*D g:=ext' λk=>by
 show ((k:Rat)+1)*(X 1*g).c (k+1)=g.c k+(X 1*D g).c k
 rw [qsx,qsx,if_pos ⋯]
 cases k with
 | zero=>rw [if_neg ⋯];push_cast;show ((0:Nat)+1)*g.c 0=_;push_cast;grind
 | succ k=>rw [if_pos ⋯];show (((k+1:Nat):Rat)+1)*g.c (k+1)=g.c (k+1)+((k:Rat)+1)*g.c (k+1);push_cast;grind
theorem qtG (x:Rat) (a:List Rat):L (x::a)=num x+X 1*L a:=ext' λk=>by
 show cvL (x::a) qca k=x*qca k+(X 1*L a).c k
 rw [qsx,qdi]
 cases k with
 | zero=>rw [if_neg ⋯];rfl
 | succ k=>rw [if_pos ⋯];rfl
theorem qw5:D (L [])=0:=ext' λk=>by show ((k:Rat)+1)*cvL [] qca (k+1)=_;rw [qaG,zero_c];grind
theorem L_nil:L []=0:=ext' λk=>by rw [zero_c];rfl
theorem D_const (x:Rat):D (num x)=0:=ext' λk=>by show ((k:Rat)+1)*(x*qca (k+1))=_;rw [zero_c];show ((k:Rat)+1)*(x*0)=0;grind
theorem qtH (g:Sr):∀ a:List Rat,D (L a*g)=D (L a)*g+L a*D g
 | []=>by
   have z:(0:Sr)=num 0:=rfl
   rw [qw5,L_nil,z,D_num,<-z]
   grind
 | x::a=>by
   have ih:=qtH g a
   have e:L (x::a)*g=num x*g+X 1*(L a*g):=by rw [qtG];grind
   rw [e,D_add,D_num,D_X,ih,qtG,D_add,D_X,D_const]
   grind
theorem D_mul {f:Sr} (pf:Pol f) (g:Sr):D (f*g)=D f*g+f*D g:=by
 obtain ⟨a,rfl⟩:=pf
 exact qtH g a
theorem qw6 {f:Sr} {n:Nat} (h:Bn f (n+1)):Bn (D f) n:=λk hk=>by show ((k:Rat)+1)*f.c (k+1)=0;rw [h (k+1) ⋯];grind
theorem D_ne {f:Sr} {n:Nat} (h:f.c (n+1)≠0):D f≠0:=λe=>by
 have:=congrFun (congrArg Sr.c e) n
 rw [zero_c] at this
 have this:((n:Rat)+1)*f.c (n+1)=0:=this
 rcases Rat.mul_eq_zero.mp this with z | z
 ·have:((n:Rat)+1)=((n+1:Nat):Rat):=by push_cast;rfl
  rw [this] at z
  have:n+1=0:=by exact_mod_cast z
  omega
 ·exact h z
theorem Pol.D {f:Sr} (h:Pol f):Pol (D f):=by
 obtain ⟨n,hn⟩:=h.bn
 exact Bn.pol (n:=n) (qw6 (n:=n) λk hk=>hn k ⋯)
theorem quz:∀ (n:Nat) (S R c:Sr),Bn S n->S≠0->Pol R->Pol c->D S*R=c*S->∃ (m:Nat) (a:Sr),Pol a/\R ^ m=a*S:=by
 intro n
 induction n using Nat.strongRecOn with
 | _ n ih=>
   intro S R c bS S0 pR pc e
   rcases top_ex n bS with z | ⟨m,mn,m0,mb⟩
   ·exact absurd z S0
   cases m with
   | zero=>
     refine ⟨0,num (S.c 0)⁻¹,Pol.num _,ext' λk=>?_⟩
     rw [num_mul]
     have e1:(R ^ 0).c k=qca k:=rfl
     rw [e1]
     cases k with
     | zero=>show 1=_;have:(S.c 0)⁻¹*S.c 0=1:=wb7 _ m0;grind
     | succ k=>show 0=_;rw [mb (k+1) ⋯];grind
   | succ m=>
     obtain ⟨g,r,e1,U,W,pg,pr,pe,pU,pW,g0,h1,h2,h3⟩:=qwc _ S (D S) mb.pol (qw6 mb) (.inl S0)
     have sR:e1*R=c*r:=cancel (pe.mul pR) (pc.mul pr) pg g0 (by rw [h2,h1] at e;grind)
     have hR:R=(U*R+W*c)*r:=by
      have:R=(U*r+W*e1)*R:=by rw [h3];grind
      grind
     have pt:Pol (U*R+W*c):=(pU.mul pR).add (pW.mul pc)
     have dS:D g*r=g*(e1 - D r):=by
      have:=D_mul pg r
      rw [<-h1,h2] at this
      grind
     have gR:D g*R=(e1 - D r)*(U*R+W*c)*g:=by
      have:D g*R=D g*r*(U*R+W*c):=by generalize U*R+W*c=t at hR;rw [hR];grind
      rw [this,dS]
      grind
     obtain ⟨N,hN⟩:=pg.bn
     obtain ⟨t,_,t0,tb⟩:=(top_ex N hN).resolve_left g0
     have tm:t<=m:=by
      rcases waj m t with q | q
      ·exfalso
       obtain ⟨E,rfl⟩:=pe
       have h2':D S=L E*g:=by rw [h2];grind
       rw [L_mul] at h2'
       refine D_ne m0 (ext' λk=>?_)
       rw [h2',zero_c]
       exact qhf E (qmc t0 (λi hi=>tb i hi) E λk hk=>by
        exact (congrFun (congrArg Sr.c h2') k).symm.trans (qw6 mb k ⋯)) k
      ·exact q
     obtain ⟨M,a,pa,ea⟩:=ih (t+1) ⋯ g R _ tb g0 pR ((pe.sub pr.D).mul pt) gR
     refine ⟨M+1,a*(U*R+W*c),pa.mul pt,?_⟩
     have:R ^ (M+1)=R ^ M*R:=rfl
     rw [this,ea,h1]
     have:a*(U*R+W*c)*(g*r)=a*g*((U*R+W*c)*r):=by grind
     rw [this,<-hR]
noncomputable def Cs (f g:Sr):Prop:=∃ U W,Pol U/\Pol W/\U*f+W*g=1
theorem Cs.comm {f g:Sr} (h:Cs f g):Cs g f:=let ⟨U,W,a,b,e⟩:=h;⟨W,U,b,a,by grind⟩
theorem Cs.mul {f g h:Sr} (pf:Pol f) (pg:Pol g) (h1:Cs f g) (h2:Cs f h):Cs f (g*h):=by
 obtain ⟨U,W,pU,pW,e⟩:=h1
 obtain ⟨U',W',pU',pW',e'⟩:=h2
 refine ⟨U+W*U'*g,W*W',pU.add ((pW.mul pU').mul pg),pW.mul pW',?_⟩
 have:(U+W*U'*g)*f+W*W'*(g*h)=U*f+W*g*(U'*f+W'*h):=by grind
 rw [this,e',<-e];grind
theorem Cs.dvd {f w g a:Sr} (h:Cs f w) (pa:Pol a) (e:w=a*g):Cs f g:=by
 obtain ⟨U,W,pU,pW,q⟩:=h
 exact ⟨U,W*a,pU,pW.mul pa,by rw [e] at q;grind⟩
theorem Cs.one {f:Sr}:Cs f 1:=⟨0,1,Pol.nat 0,Pol.nat 1,by grind⟩
theorem Cs.pow {f g:Sr} (pf:Pol f) (pg:Pol g) (h:Cs f g):∀ n:Nat,Cs f (g ^ n)
 | 0=>⟨0,1,Pol.nat 0,Pol.nat 1,by grind⟩
 | n+1=>Cs.mul pf (pg.pow n) (Cs.pow pf pg h n) h
theorem Cs.add {f g z c:Sr} (h:Cs f g) (pc:Pol c) (e:z=f+c*g):Cs z g:=by
 obtain ⟨U,W,pU,pW,q⟩:=h
 exact ⟨U,W - U*c,pU,pW.sub (pU.mul pc),by rw [e];grind⟩
theorem Cs.neg {f g:Sr} (h:Cs f g):Cs (-f) g:=by
 obtain ⟨U,W,pU,pW,q⟩:=h
 exact ⟨-U,W,pU.neg,pW,by grind⟩
theorem slope_cop {T B G R E:Sr} (pT:Pol T) (pB:Pol B) (pG:Pol G) (pR:Pol R) (pE:Pol E) (B0:B≠0) (h1:B=G*R) (h2:D B=G*E) (cRE:Cs R E) (cTB:Cs T B):Cs (D T*R - T*E) (B*R):=by
 obtain ⟨n,hn⟩:=pB.bn
 obtain ⟨m,a,pa,ea⟩:=quz n B R E hn B0 pR pE (by rw [h2,h1];grind)
 have c1:Cs R T:=(cTB.dvd pG h1).comm
 have c2:Cs R (T*E):=Cs.mul pR pT c1 cRE
 have c3:Cs (D T*R - T*E) R:=c2.comm.neg.add pT.D (by grind)
 have pt:Pol (D T*R - T*E):=(pT.D.mul pR).sub (pT.mul pE)
 exact Cs.mul pt pB ((Cs.pow pt pR c3 m).dvd pa ea) c3
end Sr
end Bs
namespace Bs
open PySem L2
namespace Sr
theorem quA (f:Sr) (n:Nat):f ^ (n+1)=f ^ n*f:=rfl
theorem quB (f:Sr):f ^ 0=1:=num1.symm
theorem one_ne:(1:Sr)≠0:=λh=>by
 have:=congrFun (congrArg Sr.c h) 0
 rw [zero_c] at this
 have this:((1:Nat):Rat)*qca 0=0:=this
 have e:(qca 0:Rat)=1:=rfl
 rw [e] at this
 push_cast at this
 grind
theorem qkZ {b:Nat->Rat} {d:Nat} (h:∀ k,d<k->b k=0):∀ (a:List Rat) (k:Nat),d+a.length<=k->cvL a b k=0
 | [],_,_=>rfl
 | x::a,0,hk=>by simp at hk
 | x::a,k+1,hk=>by
   rw [qao,qkZ h a k (by simp at hk;omega),h (k+1) (by simp at hk;omega)]
   grind
theorem top_mul {f g:Sr} {m n:Nat} (hf:Bn f (m+1)) (hg:Bn g (n+1)):(f*g).c (m+n)=f.c m*g.c n/\Bn (f*g) (m+n+1):=by
 have hi:∀ (a:List Rat) (k:Nat),n+a.length<=k->cvL a g.c k=0:=qkZ λk hk=>hg k hk
 rw [<-hf.row,L_mul]
 refine ⟨?_,λk hk=>hi _ k (by unfold tr;rw [waa,wal];omega)⟩
 show cvL (tr (m+1) f.c) g.c (m+n)=_
 have e:tr (m+1) f.c=tr m f.c++[f.c m]:=by unfold tr;rw [List.range_succ,wbj];rfl
 have tl:(tr m f.c).length=m:=by unfold tr;rw [waa,wal]
 rw [e,qbl,hi (tr m f.c) _ (by rw [tl];omega),tl]
 unfold upS
 rw [if_pos ⋯,show m+n - m=n by omega]
 have z:(L (tr m f.c++[f.c m])).c m=f.c m:=by
  rw [<-e]
  exact congrFun (congrArg Sr.c hf.row) m
 rw [z]
 grind
theorem Cs.of_unit {f g d U W:Sr} {x:Rat} (x0:x≠0) (e:d=num x) (pU:Pol U) (pW:Pol W) (h:U*f+W*g=d):Cs f g:=by
 refine ⟨num (x⁻¹)*U,num (x⁻¹)*W,(Pol.num _).mul pU,(Pol.num _).mul pW,?_⟩
 have i:num (x⁻¹)*num x=1:=ext' λk=>by
  rw [num_mul]
  show x⁻¹*(x*qca k)=_
  have:x⁻¹*x=1:=wb7 _ x0
  show _=((1:Nat):Rat)*qca k
  push_cast
  grind
 rw [e] at h
 grind
theorem Cs.parts {l p q r:Sr} (pl:Pol l) (pp:Pol p) (pq:Pol q) (pr:Pol r) (c:Cs l (D l)) (e:l=p*q*r):Cs p q:=by
 obtain ⟨U,W,pU,pW,h⟩:=c
 have d1:D l=D p*(q*r)+p*(D q*r+q*D r):=by
  rw [e,show p*q*r=p*(q*r) by grind,D_mul pp,D_mul pq]
 refine ⟨U*(q*r)+W*(D q*r+q*D r),W*(D p*r),(pU.mul (pq.mul pr)).add (pW.mul ((pq.D.mul pr).add (pq.mul pr.D))),pW.mul (pp.D.mul pr),?_⟩
 rw [d1,e] at h
 grind
end Sr
end Bs
namespace Bs
open PySem
noncomputable def qcq (K:W.Frag):Addr:=match PySem.W.nsIn K PySem.mainGlobals "EXPONENTS" with | some (some (.ref a))=>a | _=>0
end Bs
namespace Bs
open PySem L2
noncomputable abbrev Nm (H:Hp) (p:Addr) (t d:Int):Prop:=H p=some (.tup [.int t,.int d])
noncomputable def qaH (_:W.Frag):Sp:=λvs H Q _=>∃ a b:Int,vs=[.int a,.int b]/\Q (.int ((Int.gcd a b:Nat):Int)) H
noncomputable def qk0 (K:W.Frag):Sp:=λvs H Q _=>∃ (a:Addr) (ns:List Int),vs=[.ref a]/\SqL K H a (ns.map V.int)/\ns.length<=63/\∀ H',Q (.bl true) H'
noncomputable def qdz (_:W.Frag):Sp:=λvs H Q _=>∃ (x n:Int) (b:Nat),vs=[.int x,.int n]/\0<=n/\Bd b x/\b*n.toNat+1<=200000/\Q (.int (x ^ n.toNat)) H
noncomputable def qcU (n:Nat) (f:Nat->Int):List V:=((List.range n).map f).map V.int
noncomputable def qcQ (ns:List Int):Nat->Nat
 | 0=>0
 | m+1=>if ns.getD m 1=0 then qcQ ns m else m+1
noncomputable def qed (ns:List Int):List Int:=ns.take (qcQ ns ns.length)
noncomputable def Pl (H:Hp) (r:Addr) (L:List Nu):Prop:=∃ zs,H r=some (.tup zs)/\Nums H zs L
noncomputable def qbc (_:W.Frag):Sp:=λvs H Q _=>∃ (p:Addr) (ns:List Int),vs=[.ref p]/\H p=some (.lst (ns.map V.int))/\∀ r,H r=none->Q (.ref r) (upd H r (.lst ((qed ns).map V.int)))
noncomputable def Tz (ns:List Int):Prop:=ns=[]\/co ns (ns.length - 1)≠0
noncomputable def SDs (H:Hp):List V->List (List Int)->Prop
 | [],[]=>True
 | x::xs,r::rs=>(∃ p,x=.ref p/\H p=some (.lst (r.map V.int)))/\SDs H xs rs
 | _,_=>False
noncomputable def SD (H:Hp) (p:Addr) (rs:List (List Int)):Prop:=∃ xs,H p=some (.lst xs)/\SDs H xs rs
noncomputable def ZipR (R:List Int->List Int->List Int->Prop):List (List Int)->List (List Int)->List (List Int)->Prop
 | [],[],[]=>True
 | a::as,b::bs,c::cs=>R a b c/\ZipR R as bs cs
 | _,_,_=>False
noncomputable def qcr (_:W.Frag):Sp:=λvs H Q _=>∃ (p:Addr) (ns:List Int) (st:Int),vs=[.ref p,.int st]/\H p=some (.lst (ns.map V.int))/\ns.length<=1000/\∀ (g:Int) (H':Hp),Same H H'->0<=g->g∣st->(∀ z∈ns,g∣z)->(∀ d:Int,d∣st->(∀ z∈ns,d∣z)->d∣g)->Q (.int g) H'
noncomputable def qbD (_:W.Frag):Sp:=λvs H Q _=>∃ (p:Addr) (ns:List Int) (g:Int),vs=[.ref p,.int g]/\H p=some (.lst (ns.map V.int))/\(0<g\/ns=[])/\ns.length<=1000/\∀ r,H r=none->Q (.ref r) (upd H r (.lst ((ns.map (·/ g)).map V.int)))
noncomputable def qb1 (_:W.Frag):Sp:=λvs H Q _=>∃ (p q:Addr) (ns ms:List Int) (f w:Int) (s:Nat),vs=[.ref p,.int f,.ref q,.int w,.int (s:Int)]/\H p=some (.lst (ns.map V.int))/\H q=some (.lst (ms.map V.int))/\ns.length<=1000/\s+ms.length<=1000/\Bd 60000000 f/\Bd 60000000 w/\(∀ z∈ns,Bd 60000000 z)/\(∀ z∈ms,Bd 60000000 z)/\
 ∀ (r:Addr) (rs:List Int) (H':Hp),Same H H'->H' r=some (.lst (rs.map V.int))->Tz rs->(∀ k,co rs k=f*co ns k - w*upS s (co ms) k)->Q (.ref r) H'
noncomputable def qb2 (_:W.Frag):Sp:=λvs H Q _=>∃ (p q:Addr) (ns ms:List Int) (b d:Nat),vs=[.ref p,.ref q]/\H p=some (.lst (ns.map V.int))/\H q=some (.lst (ms.map V.int))/\Lz ms/\(∀ z∈ns,Bd b z)/\(∀ z∈ms,Bd d z)/\b+ns.length*(d+1)<=60000000/\d<=60000000/\ns.length<=1000/\ms.length<=1000/\((¬ ∃ A:List Int,∀ k,co ns k=cvL A (co ms) k)->∀ H',Same H H'->Q .non H')/\
 ∀ (r:Addr) (qs:List Int) (H':Hp),Same H H'->H' r=some (.lst (qs.map V.int))->(∀ k,co ns k=cvL qs (co ms) k)->Q (.ref r) H'
noncomputable def Sh (rows rows':List (List Int)):Prop:=∃ g:Int,0<g/\rows=rows'.map (·.map (g*·))
noncomputable def qw7 (rows:List (List Int)):Prop:=(∀ r∈rows,r=[])\/∀ d:Int,(∀ r∈rows,∀ z∈r,d∣z)->d.natAbs=1
noncomputable def qaQ (_:W.Frag):Sp:=λvs H Q _=>∃ (p:Addr) (rows:List (List Int)),vs=[.ref p]/\SD H p rows/\rows.length<=1000/\(∀ r∈rows,r.length<=1000/\Tz r)/\
 ∀ (t:Addr) (rows':List (List Int)) (H':Hp),Same H H'->SD H' t rows'->Sh rows rows'->qw7 rows'->Q (.ref t) H'
noncomputable def qaX (_:W.Frag):Sp:=λvs H Q _=>∃ (p:Addr) (ns:List Int),vs=[.ref p]/\H p=some (.lst (ns.map V.int))/\ns.length<=1000/\Tz ns/\
 ∀ (t:Addr) (ms:List Int) (g:Int) (H':Hp),Same H H'->H' t=some (.lst (ms.map V.int))->0<g->ns=ms.map (g*·)->(ns=[]\/Prim ms)->Q (.ref t) H'
noncomputable def qbF (_:W.Frag):Sp:=λvs H Q _=>∃ (p q:Addr) (o:List Int),vs=[.ref p,.ref q]/\SD H p [[]]/\SD H q [o]/\0<o.length/\∀ (t:Addr) (H':Hp),Same H H'->SD H' t [[]]->Q (.ref t) H'
noncomputable def qa7 (_:W.Frag):Sp:=λvs H Q _=>∃ (p q:Addr) (s o:List Int),vs=[.ref p,.ref q]/\SD H p [s]/\SD H q [o]/\(s=[]\/o=[])/\∀ (t:Addr) (H':Hp),Same H H'->SD H' t [if o=[] then s else o]->Q (.ref t) H'
noncomputable def qbd (_:W.Frag):Sp:=λvs H Q _=>∃ a p:Int,vs=[.int a,.int p]/\2<=p/\Bd 45000 p/\∀ r:Int,0<=r->r<p->(Int.gcd a p=1->p∣r*a - 1)->Q (.int r) H
noncomputable def qbu (_:W.Frag):Sp:=λvs H Q _=>∃ (p:Addr) (ns:List Int) (m:Int),vs=[.ref p,.int m]/\H p=some (.lst (ns.map V.int))/\0<m/\ns.length<=1000/\∀ r,H r=none->Q (.ref r) (upd H r (.lst ((ns.map (·% m)).map V.int)))
noncomputable def Md (m:Int) (rs:List Int) (f:Nat->Int):Prop:=(∀ z∈rs,0<=z/\z<m)/\∀ k,m∣co rs k - f k
noncomputable def qbn (_:W.Frag):Sp:=λvs H Q _=>∃ (p:Addr) (ns:List Int) (m:Int),vs=[.ref p,.int m]/\H p=some (.lst (ns.map V.int))/\0<m/\ns.length<=1000/\∀ (r:Addr) (rs:List Int) (H':Hp),Same H H'->H' r=some (.lst (rs.map V.int))->Tz rs->rs.length<=ns.length->Md m rs (co ns)->Q (.ref r) H'
noncomputable def qa4 (_:W.Frag):Sp:=λvs H Q _=>∃ (q:Addr) (ns:List Int) (p:Nat),vs=[.ref q,.int (p:Int)]/\H q=some (.lst (ns.map V.int))/\Pr p/\Bd 45000 (p:Int)/\ns.length<=1000/\Tz ns/\(∀ z∈ns,0<=z/\z<(p:Int))/\
 ∀ (r:Addr) (rs:List Int) (f:Int) (H':Hp),Same H H'->H' r=some (.lst (rs.map V.int))->rs.length=ns.length->(ns≠[]->co rs (rs.length - 1)=1)->Md (p:Int) rs (λk=>f*co ns k)->Q (.ref r) H'
noncomputable def qbv (_:W.Frag):Sp:=λvs H Q _=>∃ (p q:Addr) (ns ms:List Int) (m:Int) (b:Nat),vs=[.ref p,.ref q,.int m]/\H p=some (.lst (ns.map V.int))/\H q=some (.lst (ms.map V.int))/\0<ms.length/\co ms (ms.length - 1)=1/\0<m/\Bd b m/\(∀ z∈ms,Bd b z)/\b<=60000000/\ns.length<=1000/\ms.length<=1000/\
 ∀ (t r s:Addr) (qs rs:List Int) (H':Hp),Same H H'->H' t=some (.tup [.ref r,.ref s])->H' r=some (.lst (qs.map V.int))->H' s=some (.lst (rs.map V.int))->Tz qs->Tz rs->rs.length<ms.length->Md m rs (λk=>co ns k - cvL qs (co ms) k)->(∀ z∈qs,0<=z/\z<m)->Q (.ref t) H'
noncomputable def qbG (_:W.Frag):Sp:=λvs H Q _=>∃ (p q:Addr) (ns ms:List Int) (m:Int) (b:Nat),vs=[.ref p,.ref q,.int m]/\H p=some (.lst (ns.map V.int))/\H q=some (.lst (ms.map V.int))/\0<ms.length/\co ms (ms.length - 1)=1/\0<m/\Bd b m/\(∀ z∈ms,Bd b z)/\b<=60000000/\ns.length<=1000/\ms.length<=1000/\
 ∀ (s:Addr) (qs rs:List Int) (H':Hp),Same H H'->H' s=some (.lst (rs.map V.int))->Tz rs->rs.length<ms.length->Md m rs (λk=>co ns k - cvL qs (co ms) k)->Q (.ref s) H'
noncomputable def qbj (_:W.Frag):Sp:=λvs H Q _=>∃ (a b:Addr) (ns ms:List Int) (p:Nat),vs=[.ref a,.ref b,.int (p:Int)]/\H a=some (.lst (ns.map V.int))/\H b=some (.lst (ms.map V.int))/\Pr p/\Bd 45000 (p:Int)/\ns.length<=1000/\ms.length<=1000/\((∃ k,¬ (p:Int)∣co ns k)\/∃ k,¬ (p:Int)∣co ms k)/\
 ∀ (s:Addr) (rs:List Int) (H':Hp),Same H H'->H' s=some (.lst (rs.map V.int))->0<rs.length->rs.length<=1000->co rs (rs.length - 1)=1->(∀ z∈rs,0<=z/\z<(p:Int))->(∀ g:Nat->Int,Dm (p:Int) g (co ns)->Dm (p:Int) g (co ms)->Dm (p:Int) g (co rs))->Dm (p:Int) (co rs) (co ns)->Dm (p:Int) (co rs) (co ms)->Q (.ref s) H'
noncomputable def qcZ (_:W.Frag):Sp:=λvs H Q _=>∃ w p:Int,vs=[.int w,.int p]/\0<p/\∀ r:Int,p∣r - w->2*r.natAbs<=p.natAbs->Q (.int r) H
noncomputable def Fi (e:Nat) (ns:List Int):Prop:=∀ A g:List Int,(∀ k,co ns k=cvL A (co g) k)->∀ k,Bd e (co g k)
noncomputable def Fp (e:Nat) (ns:List Int):Prop:=∀ g:List Int,Lz g->Prim g->MQ (co g) (co ns)->∀ k,Bd e (co g k)
noncomputable def qxD (e c N p:Nat):Prop:=2 ^ ((e+c+2)*N)<p
noncomputable def qa5 (_:W.Frag):Sp:=λvs H Q _=>∃ (a b:Addr) (ns ms:List Int) (p d e c N:Nat),vs=[.ref a,.ref b,.int (p:Int)]/\H a=some (.lst (ns.map V.int))/\H b=some (.lst (ms.map V.int))/\Pr p/\Bd 45000 (p:Int)/\Lz ns/\Lz ms/\(∀ z∈ns,Bd d z)/\(∀ z∈ms,Bd d z)/\d+ns.length*45001<=3000000/\d+ms.length*45001<=3000000/\Fi e ns/\Fi e ms/\ns.length+ms.length<2 ^ (c+1)/\ns.length+ms.length<=N+2/\2<=N/\(¬ qxD e c N p->∀ H',Same H H'->Q .non H')/\
 ∀ (s:Addr) (rs:List Int) (H':Hp),Same H H'->H' s=some (.lst (rs.map V.int))->RC (co ns) (co ms) rs->Prim rs->Q (.ref s) H'
noncomputable def qbO (_:W.Frag):Sp:=λvs H Q _=>∃ (a b:Addr) (ns ms:List Int) (d e c N:Nat),vs=[.ref a,.ref b]/\H a=some (.lst (ns.map V.int))/\H b=some (.lst (ms.map V.int))/\Tz ns/\Tz ms/\(∀ z∈ns,Bd d z)/\(∀ z∈ms,Bd d z)/\d<=200000/\ns.length<=60/\ms.length<=60/\(ns≠[]->ms≠[]->Fp e ns/\Fp e ms)/\ns.length+ms.length<2 ^ (c+1)/\ns.length+ms.length<=N+2/\2<=N/\(e+c+2)*N<=44490/\
 ∀ (s:Addr) (rs:List Int) (H':Hp),Same H H'->H' s=some (.lst (rs.map V.int))->((ns≠[]\/ms≠[])->RC (co ns) (co ms) rs/\Prim rs)->(ns=[]->ms=[]->rs=[])->Q (.ref s) H'
structure Gq (b c:Nat) (l:List Nu):Prop where
 low:qap l
 nz:Nz l
 ov:∃ M,Ov l M/\Bd c M/\∀ z∈ovN l M,Bd b z
noncomputable def mnc (g:List Int):List Nu:=g.map λn=>qcN n (co g (g.length - 1))
noncomputable def MR (g f:Nat->Rat):Prop:=∃ A:List Rat,∀ k,f k=cvL A g k
noncomputable def qbP (_:W.Frag):Sp:=λvs H Q _=>∃ a b:Int,vs=[.int a,.int b]/\b≠0/\∀ (p:Addr),H p=none->Q (.ref p) (upd H p (.tup [.int (qcN a b).1,.int (qcN a b).2]))
noncomputable def qcs (_:W.Frag):Sp:=λvs H Q _=>∃ (p:Addr) (xs:List V) (l:List Nu),vs=[.ref p]/\H p=some (.lst xs)/\Nums H xs l/\l.length<=1000/\qtB H Q (trim l)
noncomputable def qbw (_:W.Frag):Sp:=λvs H Q _=>∃ (p:Addr) (xs:List V) (l:List Nu) (M:Int),vs=[.ref p]/\H p=some (.tup xs)/\Nums H xs l/\qap l/\Ov l M/\Bd 400000 M/\(∀ q∈l,Bd 60000000 q.1)/\l.length<=1000/\
 ∀ (r a:Addr) (H':Hp),Same H H'->H' r=some (.tup [.ref a,.int (qbJ l)])->H' a=some (.lst ((qa1 l).map V.int))->Q (.ref r) H'
noncomputable def qbA (_:W.Frag):Sp:=λvs H Q _=>∃ (p:Addr) (ns:List Int) (B:Int),vs=[.ref p,.int B]/\H p=some (.lst (ns.map V.int))/\B≠0/\ns.length<=1000/\qtB H Q (trim (ns.map λn=>qcN n B))
noncomputable def qbW (_:W.Frag):Sp:=λvs H Q _=>∃ (p q:Addr) (xs ys:List V) (l m:List Nu) (b c e d N:Nat),vs=[.ref p,.ref q]/\H p=some (.tup xs)/\H q=some (.tup ys)/\Nums H xs l/\Nums H ys m/\Gq b c l/\Gq b c m/\b<=200000/\c<=200000/\l.length<=60/\m.length<=60/\(l≠[]->m≠[]->Fp e (qa1 l)/\Fp e (qa1 m))/\l.length+m.length<2 ^ (d+1)/\l.length+m.length<=N+2/\2<=N/\(e+d+2)*N<=44490/\
 (l=[]->m=[]->qtB H Q [])/\((l≠[]\/m≠[])->∀ g,RC (co (qa1 l)) (co (qa1 m)) g->Prim g->qtB H Q (mnc g))
noncomputable def qk1 (f:Nu->Nu->Nu) (_:W.Frag):Sp:=λvs H Q _=>∃ (p q:Addr) (a b c d:Int),vs=[.ref p,.ref q]/\Nm H p a b/\Nm H q c d/\0<b/\0<d/\Bd 60000000 a/\Bd 60000000 b/\Bd 60000000 c/\Bd 60000000 d/\
 ∀ (r:Addr),H r=none->Q (.ref r) (upd H r (.tup [.int (f (a,b) (c,d)).1,.int (f (a,b) (c,d)).2]))
noncomputable def qc0 (_:W.Frag):Sp:=λvs H Q _=>∃ (p q:Addr) (xs ys:List V) (l m:List Nu) (b c d e:Nat),vs=[.ref p,.ref q]/\H p=some (.tup xs)/\H q=some (.tup ys)/\Nums H xs l/\Nums H ys m/\Gq b c l/\Gq d e m/\m≠[]/\l.length<=100/\m.length<=100/\
 c+(l.length+1 - m.length)*d<=400000/\b+(l.length+1 - m.length)*(d+1)+e<=900000/\e<=400000/\d<=400000/\
 ∀ (t u v:Addr) (H':Hp) (qs rs:List Nu),Same H H'->H' t=some (.tup [.ref u,.ref v])->Pl H' u qs->Pl H' v rs->qap qs->Nz qs->qs.length<=l.length+1 - m.length->Gq (b+(l.length+1 - m.length)*(d+1)) (c+(l.length+1 - m.length)*d) rs->rs.length<m.length->
   (∀ k,pwo l k=cv (pwo qs) (pwo m) qs.length k+pwo rs k)->Q (.ref t) H'
noncomputable def Cop (T B:Nat->Rat):Prop:=∃ U W:List Rat,∀ k,(qca k:Rat)=cvL U T k+cvL W B k
noncomputable abbrev qfw:=qk1 nmul
noncomputable def qf9 (_:W.Frag):Sp:=λvs H Q _=>∃ (p q:Addr) (a b c d:Int),vs=[.ref p,.ref q]/\Nm H p a b/\Nm H q c d/\0<b/\c≠0/\Bd 60000000 a/\Bd 60000000 b/\Bd 60000000 c/\Bd 60000000 d/\
 ∀ (r:Addr),H r=none->Q (.ref r) (upd H r (.tup [.int (qcN (a*d) (b*c)).1,.int (qcN (a*d) (b*c)).2]))
noncomputable def qb6 (_:W.Frag):Sp:=λvs H Q _=>∃ (p q:Addr) (ns ms:List Int) (b d:Nat),vs=[.ref p,.ref q]/\H p=some (.lst (ns.map V.int))/\H q=some (.lst (ms.map V.int))/\(∀ z∈ns,Bd b z)/\(∀ z∈ms,Bd d z)/\b<=900000/\d<=900000/\ns.length<=100/\ms.length<=100/\
 ∀ (r:Addr) (H':Hp),Same H H'->H' r=some (.lst ((if ns.length=0\/ms.length=0 then [] else (List.range (ns.length+ms.length - 1)).map λk=>ps ns ms ns.length k).map V.int))->Q (.ref r) H'
noncomputable def qaS (_:W.Frag):Sp:=λvs H Q _=>∃ (p q:Addr) (xs ys:List V) (l m:List Nu) (b c d e:Nat),vs=[.ref p,.ref q]/\H p=some (.tup xs)/\H q=some (.tup ys)/\Nums H xs l/\Nums H ys m/\Gq b c l/\Gq d e m/\l.length<=100/\m.length<=100/\b<=300000/\c<=300000/\d<=300000/\e<=300000/\
 ∀ (r:Addr) (R:List Nu) (H':Hp),Same H H'->Pl H' r R->Gq (b+d+l.length) (c+e) R->R.length<=l.length+m.length - 1->(∀ k,pwo R k=cv (pwo l) (pwo m) l.length k)->Q (.ref r) H'
noncomputable def qbq (_:W.Frag):Sp:=λvs H Q _=>∃ (p c:Addr) (xs:List V) (l:List Nu) (a b:Int),vs=[.ref p,.ref c]/\H p=some (.tup xs)/\Nm H c a b/\Nums H xs l/\qap l/\0<b/\Bd 60000000 a/\Bd 60000000 b/\(∀ q∈l,Bd 60000000 q.1/\Bd 60000000 q.2)/\l.length<=1000/\qtB H Q (trim (l.map λq=>nmul q (a,b)))
noncomputable def qaV (_:W.Frag):Sp:=λvs H Q _=>∃ (p q:Addr) (xs ys:List V) (l m:List Nu) (b c d e:Nat),vs=[.ref p,.ref q]/\H p=some (.tup xs)/\H q=some (.tup ys)/\Nums H xs l/\Nums H ys m/\Gq b c l/\Gq d e m/\m≠[]/\l.length<=100/\m.length<=100/\
 c+(l.length+1 - m.length)*d<=400000/\b+(l.length+1 - m.length)*(d+1)+e<=900000/\e<=400000/\d<=400000/\MR (pwo m) (pwo l)/\
 ∀ (r:Addr) (R:List Nu) (H':Hp),Same H H'->Pl H' r R->qap R->Nz R->R.length<=l.length+1 - m.length->(∀ k,pwo l k=cv (pwo R) (pwo m) R.length k)->Q (.ref r) H'
noncomputable def Bx (H:Hp) (p:Addr):Prop:=∃ z:Int,H p=some (.lst [.int z])
noncomputable abbrev qhM:=qk1 nadd
noncomputable abbrev qhg:=qk1 nsub
noncomputable def qbo (_:W.Frag):Sp:=λvs H Q _=>∃ (p:Addr) (xs:List V) (l:List Nu) (i:Nat),vs=[.ref p,.int (i:Int)]/\H p=some (.tup xs)/\Nums H xs l/\∀ (v:V) (H':Hp),Same H H'->isN H' v (qa3 l i)->Q v H'
noncomputable def qqv (f:Nu->Nu->Nu) (s:Rat) (_:W.Frag):Sp:=λvs H Q _=>∃ (p q:Addr) (xs ys:List V) (l m:List Nu) (M:Int) (b c:Nat),vs=[.ref p,.ref q]/\H p=some (.tup xs)/\H q=some (.tup ys)/\Nums H xs l/\Nums H ys m/\qap l/\qap m/\Ov l M/\Ov m M/\Bd c M/\(∀ z∈ovN l M,Bd b z)/\(∀ z∈ovN m M,Bd b z)/\b<=300000/\c<=300000/\l.length<=100/\m.length<=100/\
 ∀ (r:Addr) (R:List Nu) (H':Hp),Same H H'->Pl H' r R->Gq (b+1) c R->R.length<=max l.length m.length->(∀ k,pwo R k=pwo l k+s*pwo m k)->Q (.ref r) H'
noncomputable abbrev qdA:=qqv nadd 1
noncomputable abbrev qeA:=qqv nsub (-1)
noncomputable def qdB (_:W.Frag):Sp:=λvs H Q _=>∃ (p q:Addr) (l m:List Nu),vs=[.ref p,.ref q]/\Pl H p l/\Pl H q m/\qap l/\qap m/\Nz m/\m≠[]/\(∀ q∈l,Bd 1000000 q.1/\Bd 1000000 q.2)/\(∀ q∈m,Bd 1000000 q.1/\Bd 1000000 q.2)/\l.length<=1000/\m.length<=1000/\
 ∀ fa:Nu,Low fa.1 fa.2->val fa*val (qa3 m (m.length - 1))=1->∀ (t u v:Addr) (H':Hp),Same H H'->H' t=some (.tup [.ref u,.ref v])->Pl H' u (trim (l.map λq=>nmul q (fa.1,fa.2)))->Pl H' v (trim (m.map λq=>nmul q (fa.1,fa.2)))->Q (.ref t) H'
noncomputable def rw' (l:List Nu):List Rat:=(List.range l.length).map (pwo l)
noncomputable def FF (H:Hp) (p:Addr) (T B:List Nu):Prop:=∃ u v,H p=some (.tup [.ref u,.ref v])/\Pl H u T/\Pl H v B
noncomputable def dv (f:Nat->Rat) (k:Nat):Rat:=((k:Rat)+1)*f (k+1)
noncomputable def qbx (_:W.Frag):Sp:=λvs H Q _=>∃ (p:Addr) (xs:List V) (l:List Nu) (b c:Nat),vs=[.ref p]/\H p=some (.tup xs)/\Nums H xs l/\Gq b c l/\l.length<=31/\b<=200000/\c<=200000/\
 ∀ (r:Addr) (R:List Nu) (H':Hp),Same H H'->Pl H' r R->Gq (b+5) c R->R.length=l.length - 1->(∀ k,pwo R k=dv (pwo l) k)->Q (.ref r) H'
end Bs
namespace Bs
open PySem L2
noncomputable def sr (l:List Nu):Sr:=⟨pwo l⟩
noncomputable def si (ns:List Int):Sr:=⟨λk=>(co ns k:Rat)⟩
noncomputable def dI (ns:List Int):List Int:=(List.range (ns.length - 1)).map λk=>((k+1:Nat):Int)*co ns (k+1)
structure Lw (T B:List Nu):Prop where
 lt:qap T
 lb:qap B
 nt:Nz T
 nb:Nz B
 ne:B≠[]
 one:qa3 B (B.length - 1)=(1,1)
 cs:Sr.Cs (sr T) (sr B)
structure Rp (b n m:Nat) (T B:List Nu):Prop where
 lw:Lw T B
 rp:∃ N D:List Int,Lz D/\Tz N/\(∀ z∈N,Bd b z)/\(∀ z∈D,Bd b z)/\N.length<=n/\D.length<=m/\sr T*si D=si N*sr B
structure C0 (x n m e:Nat):Prop where
 n1:1<=n
 m1:1<=m
 n60:n<=60
 m60:m<=60
 ne:n<2 ^ e
 me:m<2 ^ e
 e6:e<=6
 lu:(x+e+2)*(n+m)<=44490
noncomputable abbrev C1 (b n m e:Nat):Prop:=C0 (b+max n m*(2*e+4)) n m e
structure C2 (b n m e:Nat):Prop where
 a:C1 b m m e
 t:C1 (2*b+e+1) (n+m - 1) m e
 b9:b<=5000
 m50:m<=50
noncomputable def qbr (_:W.Frag):Sp:=λvs H Q _=>∃ (p q:Addr) (l m:List Nu) (b x n k e:Nat),vs=[.ref p,.ref q]/\Pl H p l/\Pl H q m/\Gq b b l/\Gq b b m/\m≠[]/\l.length<=n/\m.length<=k/\(l≠[]->Fp x (qa1 l))/\Fp x (qa1 m)/\C0 x n k e/\b<=100000/\
 ∀ (t:Addr) (H':Hp) (T B:List Nu),Same H H'->FF H' t T B->Lw T B->sr T*sr m=sr l*sr B->Q (.ref t) H'
noncomputable def qnt (s:Rat) (_:W.Frag):Sp:=λvs H Q _=>∃ (p q:Addr) (T B T' B':List Nu) (b n m e:Nat),vs=[.ref p,.ref q]/\FF H p T B/\FF H q T' B'/\Rp b n m T B/\Rp b n m T' B'/\C2 b n m e/\
 ∀ (t:Addr) (H':Hp) (X Y:List Nu),Same H H'->FF H' t X Y->Lw X Y->sr X*(sr B*sr B')=(sr T*sr B'+Sr.num s*sr T'*sr B)*sr Y->Q (.ref t) H'
noncomputable abbrev qbM:=qnt 1
noncomputable def qc1 (_:W.Frag):Sp:=λvs H Q _=>∃ (p:Addr) (T B:List Nu) (b n m e:Nat),vs=[.ref p]/\FF H p T B/\Rp b n m T B/\C1 b n m e/\C1 (b+m*(2*e+4)+6) m m e/\b<=5000/\n<=31/\m<=31/\
 ∀ (t:Addr) (H':Hp) (X Y:List Nu),Same H H'->FF H' t X Y->Lw X Y->sr X*(sr B*sr B)=(sr B*Sr.D (sr T) - sr T*Sr.D (sr B))*sr Y->Q (.ref t) H'
end Bs
namespace Bs
open PySem L2
noncomputable def Stt (H:Hp) (p a:Addr) (n:Int):Prop:=∃ (cs:List Int) (k:Int) (d:Bool),H p=some (.dK [(.inr "cells", .ref a),(.inr "number", .int k),(.inr "digits", .bl d),(.inr "at", .int n)])/\H a=some (.lst (cs.map V.int))/\(∀ z∈cs,0<=z)/\cs.length<=63/\0<=k/\k<=2147483629+n/\0<=n
noncomputable def Kpa (p a:Addr) (H H':Hp):Prop:=∀ b o,b≠p->b≠a->H b=some o->H' b=some o
noncomputable def qeB (K:W.Frag):Sp:=λvs H Q _=>∃ (s:Addr) (ns:List Int),vs=[.ref s]/\SqL K H s (ns.map V.int)/\ns.length<=63/\∀ (p a:Addr) (H':Hp),H p=none->H a=none->Same H H'->Stt H' p a 0->Q (.ref p) H'
noncomputable def qbf (_:W.Frag):Sp:=λvs H Q _=>∃ (p a:Addr) (m n:Int),vs=[.ref p,.int m]/\Stt H p a n/\n<=100000/\1<=m/\m<=100/\∀ (d:Int) (H':Hp),0<=d->d<m->Stt H' p a (n+1)->Kpa p a H H'->Q (.int d) H'
noncomputable def qb3 (_:W.Frag):Sp:=λvs H Q _=>∃ (p a:Addr) (n:Int),vs=[.ref p]/\Stt H p a n/\n<=90000/\∀ (r:Addr) (t d:Int) (H':Hp),Nm H' r t d->Low t d->t.natAbs<=4036->d<=3->Stt H' p a (n+3)->Kpa p a H H'->Q (.ref r) H'
noncomputable def qct (_:W.Frag):Sp:=λvs H Q _=>∃ (p a:Addr) (n:Int),vs=[.ref p]/\Stt H p a n/\n<=90000/\∀ (r:Addr) (t d:Int) (H':Hp),Nm H' r t d->Low t d->t≠0->t.natAbs<=4036->d<=3->Stt H' p a (n+3)->Kpa p a H H'->Q (.ref r) H'
noncomputable def Sn (c:Nu):Prop:=Low c.1 c.2/\c.1.natAbs<=24216/\c.2<=9
noncomputable def Sn0 (c:Nu):Prop:=Low c.1 c.2/\c.1.natAbs<=4036/\c.2<=3
structure Pt (d:Nat) (l:List Nu):Prop where
 g:Gq (8*d - 6) (2*d) l
 ne:l≠[]
 len:l.length<=d+1
 d1:1<=d
noncomputable def Pts (H:Hp):List V->List (Nat×List Nu)->Prop
 | [],[]=>True
 | v::vs,q::L=>(∃ a,v=.ref a/\Pl H a q.2)/\Pt q.1 q.2/\Pts H vs L
 | _,_=>False
noncomputable def sm (L:List (Nat×List Nu)):Nat:=(L.map λq=>q.1).sum
noncomputable def Prs (H:Hp):List V->List (Nu×Nat×List Nu)->Prop
 | [],[]=>True
 | v::vs,q::L=>(∃ t c w,v=.ref t/\H t=some (.tup [.ref c,.ref w])/\Nm H c q.1.1 q.1.2/\Pl H w q.2.2)/\Sn q.1/\Pt q.2.1 q.2.2/\Prs H vs L
 | _,_=>False
noncomputable def sm3 (L:List (Nu×Nat×List Nu)):Nat:=(L.map λq=>q.2.1).sum
noncomputable def pd:List (Nu×Nat×List Nu)->Sr
 | []=>1
 | q::L=>sr q.2.2*pd L
noncomputable def lg:List (Nu×Nat×List Nu)->Sr
 | []=>0
 | q::L=>Sr.num (val q.1)*Sr.D (sr q.2.2)*pd L+sr q.2.2*lg L
noncomputable def ppd:List (Nat×List Nu)->Sr
 | []=>1
 | q::L=>sr q.2*ppd L
noncomputable def nn (T B:List Nu):Sr:=sr B*Sr.D (sr T) - sr T*Sr.D (sr B)
noncomputable def dd (B:List Nu):Sr:=sr B*sr B
noncomputable def Cz (b n m S:Nat):Prop:=C1 b n m 3/\C1 (b+m*10+6) m m 3/\24<=b/\b<=5000/\n<=31/\m<=31/\m<=n+1/\2<=m/\S<=6/\C2 (2*b+10+30*(S - 1)) (n+m - 1+(S - 1)) (2*m - 1+(S - 1)) 5/\n+m - 1+S<32/\2*m - 1+S<32
noncomputable def Fm (H:Hp) (o:Addr) (T B:List Nu) (L:List (Nu×Nat×List Nu)) (b n m S:Nat):Prop:=∃ f l ws,H o=some (.tup [.ref f,.ref l])/\FF H f T B/\Rp b n m T B/\H l=some (.tup ws)/\Prs H ws L/\sm3 L<=S/\Cz b n m S
noncomputable def Trs (H:Hp):List V->List (Nu×Nat×List Nu)->Prop
 | [],[]=>True
 | v::vs,q::L=>(∃ t w c e,v=.ref t/\H t=some (.tup [.ref w,.ref c,.ref e])/\Pl H w q.2.2/\Nm H c q.1.1 q.1.2/\Nm H e 0 1)/\Sn0 q.1/\Pt q.2.1 q.2.2/\Trs H vs L
 | _,_=>False
noncomputable def Gd (L:List (Nu×Nat×List Nu)):Prop:=∀ q∈L,Sn0 q.1/\q.1.1≠0/\q.2.1<=3/\2<=q.2.2.length
noncomputable def WtF (H:Hp) (t:Addr) (b n m:Nat) (N D:Sr):Prop:=∃ T B,FF H t T B/\Rp b n m T B/\Sr.Pol N/\Sr.Pol D/\D≠0/\sr T*D=N*sr B
noncomputable def qfx (_:W.Frag):Sp:=λvs H Q _=>∃ (p q:Addr) (a b c d:Int),vs=[.ref p,.ref q]/\Nm H p a b/\Nm H q c d/\Bd 1000 a/\Bd 1000 b/\Bd 1000 c/\Bd 1000 d/\Q (.bl (decide (a*d<c*b))) H
noncomputable def qdC (_:W.Frag):Sp:=λvs H Q _=>∃ (p:Addr) (xs:List V),vs=[.ref p]/\H p=some (.tup xs)/\Q (.int ((xs.length:Int) - 1)) H
noncomputable def qbe (_:W.Frag):Sp:=λvs H Q _=>∃ (p:Addr) (ns:List Int),vs=[.ref p]/\H p=some (.lst (ns.map V.int))/\ns.length<=100/\∀ (r:Addr) (H':Hp),Same H H'->Pl H' r (ns.map λn=>(n,1))->Q (.ref r) H'
noncomputable def qfy (_:W.Frag):Sp:=λvs H Q _=>∃ v:V,vs=[v]/\∀ (r:Addr) (ws:List V) (L:List (Nat×List Nu)) (H':Hp),Same H H'->H' r=some (.lst ws)->Pts H' ws L->L.length=19->(∀ i q,L[i]?=some q->q.2.length=q.1+1/\q.1<=3/\(i<8->q.1=1))->Q (.ref r) H'
noncomputable def qcV (_:W.Frag):Sp:=λvs H Q _=>∃ (p a l:Addr) (ws:List V) (L:List (Nat×List Nu)) (n:Int),vs=[.ref p,.ref l]/\Stt H p a n/\n<=80000/\H l=some (.lst ws)/\Pts H ws L/\(∀ q∈L,q.1<=3)/\L.length<=7/\l≠p/\l≠a/\∀ (t:Addr) (T B:List Nu) (n':Int) (H':Hp),FF H' t T B->Rp 24 3 4 T B->n'<=n+20->Stt H' p a n'->Kpa p a H H'->Q (.ref t) H'
noncomputable def qfz (_:W.Frag):Sp:=λvs H Q _=>∃ (p a:Addr) (m r n:Int),vs=[.ref p,.int m,.int r]/\Stt H p a n/\n<=80000/\0<=m/\m<=4/\0<=r/\r<=6/\∀ (f:Addr) (ws:List V) (L:List (Nat×List Nu)) (n':Int) (H':Hp),H f=none->H' f=some (.lst ws)->Pts H' ws L->(sm L:Int)<=r->(∀ q∈L,q.1<=3/\2<=q.2.length)->(L.map λq=>q.2).Nodup->(L.length:Int)<=m->n'<=n+4->Stt H' p a n'->Kpa p a H H'->Q (.ref f) H'
noncomputable def qbX (_:W.Frag):Sp:=λvs H Q _=>∃ (p:Addr) (ws:List V) (L:List (Nu×Nat×List Nu)) (S:Nat),vs=[.ref p]/\H p=some (.lst ws)/\Prs H ws L/\sm3 L<=S/\S<=6/\L.length<=6/\∀ (r:Addr) (xs:List V) (M:List (Nu×Nat×List Nu)) (G:Sr) (H':Hp),H' r=some (.tup xs)->Prs H' xs M->sm3 M<=S->Sr.Pol G->G≠0->lg L=G*lg M->pd L=G*pd M->Same H H'->Q (.ref r) H'
noncomputable def qcW (_:W.Frag):Sp:=λvs H Q _=>∃ (o:Addr) (T B:List Nu) (L:List (Nu×Nat×List Nu)) (b n m S:Nat),vs=[.ref o]/\Fm H o T B L b n m S/\∀ (t:Addr) (H':Hp),Same H H'->WtF H' t (2*b+10+30*S) (n+m - 1+S) (2*m - 1+S) (nn T B*pd L+dd B*lg L) (dd B*pd L)->Q (.ref t) H'
noncomputable def qbQ (_:W.Frag):Sp:=λvs H Q _=>∃ (a o:Addr) (T B:List Nu) (L:List (Nu×Nat×List Nu)) (b n m S b' n' m':Nat) (N D:Sr),vs=[.ref a,.ref o]/\WtF H a b' n' m' N D/\Fm H o T B L b n m S/\∀ (x:Bool) (H':Hp),Same H H'->(x=true↔(nn T B*pd L+dd B*lg L)*D=N*(dd B*pd L))->Q (.bl x) H'
noncomputable def qdD (_:W.Frag):Sp:=λvs H Q _=>∃ (p:Addr) (l:List Nu),vs=[.ref p]/\Pl H p l/\∀ (t:Addr) (H':Hp),Same H H'->FF H' t l [(1,1)]->Q (.ref t) H'
noncomputable def qdS (_:W.Frag):Sp:=λvs H Q _=>∃ (p:Addr) (c:Nu),vs=[.ref p]/\Nm H p c.1 c.2/\∀ (t:Addr) (H':Hp),Same H H'->FF H' t (trim [c]) [(1,1)]->Q (.ref t) H'
noncomputable def qcA (_:W.Frag):Sp:=λvs H Q _=>∃ (p:Addr) (ws:List V) (L:List (Nat×List Nu)),vs=[.ref p]/\H p=some (.lst ws)/\Pts H ws L/\sm L<=6/\L.length<=6/\∀ (r:Addr) (R:List Nu) (H':Hp),Same H H'->Pl H' r R->Gq (8*sm L+1) (2*sm L+1) R->R≠[]->R.length<=sm L+1->sr R=ppd L->Q (.ref r) H'
noncomputable def qdT (_:W.Frag):Sp:=λvs H Q _=>∃ (p a:Addr) (m r n:Int),vs=[.ref p,.int m,.int r,.int 1]/\Stt H p a n/\n<=70000/\0<=m/\m<=4/\0<=r/\r<=6/\∀ (f:Addr) (ws:List V) (L:List (Nu×Nat×List Nu)) (n':Int) (H':Hp),H f=none->H' f=some (.lst ws)->Trs H' ws L->(sm3 L:Int)<=r->Gd L->(L.map λq=>q.2.2).Nodup->(L.length:Int)<=m->n'<=n+30->Stt H' p a n'->Kpa p a H H'->Q (.ref f) H'
noncomputable def qhh (_:W.Frag):Sp:=λvs H Q _=>∃ (p:Addr) (ws:List V) (L:List (Nu×Nat×List Nu)),vs=[.ref p]/\H p=some (.lst ws)/\Trs H ws L/\sm3 L<=4/\L.length<=3/\(∀ q∈L,q.2.1<=3)/\(L.map λq=>q.2.2).Nodup/\∀ (r:Addr) (R:List Nu) (H':Hp),Same H H'->Pl H' r R->Gq 600 600 R->R.length<=4->sr R=lg L->Q (.ref r) H'
noncomputable def qeC (_:W.Frag):Sp:=λvs H Q _=>∃ (p a k g:Addr) (n:Int) (T B:List Nu) (ws:List V) (L:List (Nu×Nat×List Nu)),vs=[.ref p,.ref k,.ref g]/\Stt H p a n/\n<=70000/\FF H k T B/\Rp 24 3 4 T B/\H g=some (.lst ws)/\g≠p/\g≠a/\Prs H ws L/\sm3 L<=4/\L.length<=3/\Gd L/\∀ (f:Addr) (fs:List V) (n':Int) (H':Hp),f≠p->f≠a->H' f=some (.lst fs)->1<=fs.length->fs.length<=6->(∀ v∈fs,∃ o T' B' L' b n m S,v=.ref o/\Fm H' o T' B' L' b n m S/\¬ ((nn T' B'*pd L'+dd B'*lg L')*(dd B*pd L)=(nn T B*pd L+dd B*lg L)*(dd B'*pd L')))->n'<=n+10->Stt H' p a n'->Kpa p a H H'->Q (.ref f) H'
end Bs
namespace Bs
open PySem L2
section
variable (K:W.Frag)
set_option linter.unusedVariables false
noncomputable def qd0 (_:W.Frag):TS:=
 (qaF (qde (qa2 (tOp rNe (qag 1) (tC (.int 0)))) (qaF (qaM (tOp qui (qag 0) (qag 1)) (qai 2))
  (qaF (qaM (qag 1) (qai 0))
  (qaM (qag 2) (qai 1)))))
  (qbz (tCB qvm (qab (qag 0) qal))))
noncomputable def qnu (_:W.Frag):TS:=
 (qaF (qaM (tC (.int 1)) (qai 2))
  (qaF (qaM (qag 0) (qai 3))
  (qaF (qde (qa2 (tOp iGt (qag 1) (tC (.int 0)))) (qaF (qd5 (qa2 (tOp rEq (tOp qlS (qag 1) (tC (.int 2))) (tC (.int 1)))) (qpb 2 (qag 3) qdL) qbN)
  (qaF (qpb 1 (tC (.int 2)) qob)
  (qd5 (qa2 (tOp iGt (qag 1) (tC (.int 0)))) (qpb 3 (qag 3) qdL) qbN))))
  (qbz (qag 2)))))
noncomputable def qk2:TS:=
 (qaF (qaM (qak (qaH K) [] E0 (qab (qsh (qgu (qcc K (qag 0)) [none] (qai 0) (qa2 (tOp rNe (qag 0) (tC (.int 0)))) (tCB qvm (qab (qag 0) qal)))) (qab (qag 1) qal))) (qai 2))
  (qaF (qe4 (qcc K (qag 0)) (qai 3) (qaF (qd5 (qa2 (tOp rEq (qag 2) (tC (.int 1)))) (qbz (tC (.int 1))) qbN)
  (qaM (qak (qaH K) [] E0 (qab (qag 3) (qab (qag 2) qal))) (qai 2))))
  (qbz (qag 2))))
noncomputable def qfA (_:W.Frag):TS:=
 (qaF (qaM (tCB qce (qab (qag 0) qal)) (qai 1))
  (qaF (qde (qo3 (qa2 (tOp iGt (qag 1) (tC (.int 0)))) (qa2 (tOp rEq (tOp gL (qag 0) (tOp qfj (qag 1) (tC (.int 1)))) (tC (.int 0))))) (qpb 1 (tC (.int 1)) qfj))
  (qbz (tSl sL (qag 0) qc5 (qhv (qag 1))))))
noncomputable def qgw:TS:=
 (qbz (qbT (qcc K (qag 0)) [none,some 1] (qai 0) (tOp qjw (qag 0) (qag 1))))
noncomputable def qhN:TS:=
 (qaF (qd5 (tOr (qvl (qhF (qag 0))) (qvl (qhF (qag 1)))) (qbz (qcR qal)) qbN)
  (qaF (qaM (tOp qtl (qcR (qab (tC (.int 0)) qal)) (tOp qfj (tOp qhC (tCB qce (qab (qag 0) qal)) (tCB qce (qab (qag 1) qal))) (tC (.int 1)))) (qai 2))
  (qaF (qe4 (qiZ K (qab (qag 0) qal)) (qf5 2 (qcJ (qai 3) (qcJ (qai 4) qnY))) (qd5 (qa2 (tOp rNe (qag 4) (tC (.int 0)))) (qe4 (qiZ K (qab (qag 1) qal)) (qf5 2 (qcJ (qai 5) (qcJ (qai 6) qnY))) (qlU (qag 2) (tOp qhC (qag 3) (qag 5)) (tOp qdL (qag 4) (qag 6)) gL qhC qgM)) qbN))
  (qbz (qag 2)))))
noncomputable def qee (_:W.Frag):TS:=
 (qd5 (qa2 (tOp rNe (qag 6) (tC (.int 0)))) (qe4 (qht (qab (qag 3) qal)) (qai 7) (qlU (qag 2) (tOp qhC (qag 5) (qag 7)) (tOp qdL (qag 6) (tOp gL (qag 1) (qag 7))) gL qfj qgM)) qbN)
noncomputable def qhO:TS:=
 (qaF (qaM (qag 6) (qrS (qag 4) (qag 5) qgM))
  (qee K))
noncomputable def qef:TS:=
 (qaF (qd5 (qa2 (tOp rNe (tOp qdL (qag 6) (tOp gL (qag 1) (tUn qew (tC (.int 1))))) (tOp gL (qag 2) (tOp qhC (qag 5) (qag 3))))) (qbz (tC .non)) qbN)
  (qhO K))
noncomputable def qhP:TS:=
 (qaF (qaM (tOp qgP (tOp gL (qag 2) (tOp qhC (qag 5) (qag 3))) (tOp gL (qag 1) (tUn qew (tC (.int 1))))) (qai 6))
  (qef K))
noncomputable def qk3 (_:W.Frag):TS:=
 (qbz (tIf (tB (tCB qsi (qab (tSl sL (qag 2) qc5 (qhv (qag 3))) qal))) (tC .non) (qag 4)))
noncomputable def qk4:TS:=
 (qaF (qe4 (qpX (qab (tOp qfj (tOp qfj (tCB qce (qab (qag 0) qal)) (qag 3)) (tC (.int 1))) (qab (tUn qew (tC (.int 1))) (qab (tUn qew (tC (.int 1))) qal)))) (qai 5) (qhP K))
  (qk3 K))
noncomputable def qgx:TS:=
 (qaF (qaM (tOp qtl (qcR (qab (tC (.int 0)) qal)) (tCB qtm (qab (tOp qfj (tCB qce (qab (qag 0) qal)) (qag 3)) (qab (tC (.int 0)) qal)))) (qai 4))
  (qk4 K))
noncomputable def qk5:TS:=
 (qaF (qaM (tOp qfj (tCB qce (qab (qag 1) qal)) (tC (.int 1))) (qai 3))
  (qgx K))
noncomputable def qog:TS:=
 (qaF (qaM (tCB qkN (qab (qag 0) qal)) (qai 2))
  (qk5 K))
noncomputable def qi6:TS:=
 (qaF (qaM (qbT (qcc K (qag 0)) [none,some 1] (qai 0) (tOp qdL (qag 1) (qag 0))) (qai 5))
  (qaF (qgL (tBM K "list" qhw (qag 5) (qab (tOp qtl (qcR (qab (tC (.int 0)) qal)) (tOp qfj (tOp qhC (tCB qce (qab (qag 2) qal)) (qag 4)) (tCB qce (qab (qag 0) qal)))) qal)))
  (qaF (qe4 (qiZ K (qab (qag 2) qal)) (qf5 2 (qcJ (qai 6) (qcJ (qai 7) qnY))) (qlU (qag 5) (tOp qhC (qag 6) (qag 4)) (tOp qdL (qag 3) (qag 7)) gL qfj qgM))
  (qbz (qak (qbc K) [] E0 (qab (qag 5) qal))))))
noncomputable def qfB:TS:=
 (qaM (qbT (qwY K (qab (qag 0) (qab (qag 1) qal))) [none,none,some 6,some 7,some 2] (qf5 2 (qcJ (qai 0) (qcJ (qai 1) qnY))) (qak (qb1 K) [] E0 (qab (qag 0) (qab (qag 2) (qab (qag 1) (qab (qag 3) (qab (qag 4) qal))))))) (qai 0))
noncomputable def qfC:TS:=
 (qaF (qaM (tOp qgP (qag 3) (qag 5)) (qai 7))
  (qfB K))
noncomputable def qfD:TS:=
 (qaF (qaM (tOp qgP (qag 4) (qag 5)) (qai 6))
  (qfC K))
noncomputable def qfE:TS:=
 (qaF (qaM (qak (qaH K) [] E0 (qab (qag 3) (qab (qag 4) qal))) (qai 5))
  (qfD K))
noncomputable def qfF:TS:=
 (qaF (qaM (tOp gL (tOp gL (qag 1) (tC (.int 0))) (tUn qew (tC (.int 1)))) (qai 4))
  (qfE K))
noncomputable def qfG:TS:=
 (qaF (qaM (tOp gL (tOp gL (qag 0) (tC (.int 0))) (tUn qew (tC (.int 1)))) (qai 3))
  (qfF K))
noncomputable def qfH:TS:=
 (qaF (qaM (tOp qfj (tCB qce (qab (tOp gL (qag 0) (tC (.int 0))) qal)) (tCB qce (qab (tOp gL (qag 1) (tC (.int 0))) qal))) (qai 2))
  (qfG K))
noncomputable def qeg:TS:=
 (qbz (qak (qaQ K) [] E0 (qab (qag 0) qal)))
noncomputable def qfI:TS:=
 (qaF (qde (qa2 (tOp iGe (tCB qce (qab (tOp gL (qag 0) (tC (.int 0))) qal)) (tCB qce (qab (tOp gL (qag 1) (tC (.int 0))) qal)))) (qfH K))
  (qeg K))
noncomputable def qdk:TS:=
 (qaF (qaM (tC (.int 0)) (qai 1))
  (qaF (qe4 (qcc K (qag 0)) (qai 2) (qaM (qak (qcr K) [] E0 (qab (qag 2) (qab (qag 1) qal))) (qai 1)))
  (qbz (qbT (qcc K (qag 0)) [none,some 1] (qai 0) (qak (qbD K) [] E0 (qab (qag 0) (qab (qag 1) qal)))))))
noncomputable def qeh:TS:=
 (qbz (tOp gL (qak (qaQ K) [] E0 (qab (qcR (qab (qag 0) qal)) qal)) (tC (.int 0))))
noncomputable def qei:TS:=
 (qaF (qde (qhF (tOp gL (qag 1) (tC (.int 0)))) (qaF (qd5 (qa2 (tOp rEq (tCB qce (qab (tOp gL (qag 1) (tC (.int 0))) qal)) (tC (.int 1)))) (qbz (qag 1)) qbN)
  (qaF (qaM (qak (qbF K) [] E0 (qab (qag 0) (qab (qag 1) qal))) (qai 2))
  (qaF (qaM (qag 1) (qai 0))
  (qaM (qag 2) (qai 1))))))
  (qbz (qag 0)))
noncomputable def qcB (_:W.Frag):TS:=
 (qaM (qag 7) (qai 5))
noncomputable def qcC:TS:=
 (qaF (qaM (qag 5) (qai 4))
  (qcB K))
noncomputable def qcD:TS:=
 (qaF (qaM (tOp qfj (qag 4) (tOp qdL (qag 6) (qag 5))) (qai 7))
  (qcC K))
noncomputable def qcE:TS:=
 (qaF (qaM (qag 7) (qai 3))
  (qcD K))
noncomputable def qcF:TS:=
 (qaF (qaM (qag 3) (qai 2))
  (qcE K))
noncomputable def qcG:TS:=
 (qaF (qaM (tOp qfj (qag 2) (tOp qdL (qag 6) (qag 3))) (qai 7))
  (qcF K))
noncomputable def qcH:TS:=
 (qaF (qaM (tOp qjw (qag 2) (qag 3)) (qai 6))
  (qcG K))
noncomputable def qdl (_:W.Frag):TS:=
 (qbz (tOp qlS (qag 4) (qag 1)))
noncomputable def qdm:TS:=
 (qaF (qde (qa2 (tOp rNe (qag 3) (tC (.int 0)))) (qcH K))
  (qdl K))
noncomputable def qdn:TS:=
 (qaF (qaM (tC (.int 1)) (qai 5))
  (qdm K))
noncomputable def qdo:TS:=
 (qaF (qaM (tC (.int 0)) (qai 4))
  (qdn K))
noncomputable def qdp:TS:=
 (qaF (qaM (tOp qlS (qag 0) (qag 1)) (qai 3))
  (qdo K))
noncomputable def qd1:TS:=
 (qaF (qaM (qag 1) (qai 2))
  (qdp K))
noncomputable def qeM:TS:=
 (qbz (qbT (qcc K (qag 0)) [none,some 1] (qai 0) (tOp qlS (qag 0) (qag 1))))
noncomputable def qgy:TS:=
 (qbz (qak (qbc K) [] E0 (qab (qak (qbu K) [] E0 (qab (qag 0) (qab (qag 1) qal))) qal)))
noncomputable def qeN:TS:=
 (qaF (qd5 (qvl (qhF (qag 0))) (qbz (qcR qal)) qbN)
  (qaF (qaM (qak (qbd K) [] E0 (qab (tOp gL (qag 0) (tUn qew (tC (.int 1)))) (qab (qag 1) qal))) (qai 2))
  (qbz (qbT (qcc K (qag 0)) [none,some 1,some 2] (qai 0) (tOp qlS (tOp qdL (qag 0) (qag 2)) (qag 1))))))
noncomputable def qc8 (_:W.Frag):TS:=
 (qd5 (qa2 (tOp rNe (qag 7) (tC (.int 0)))) (qe4 (qht (qab (qag 4) qal)) (qai 8) (qlU (qag 3) (tOp qhC (qag 6) (qag 8)) (tOp qdL (qag 7) (tOp gL (qag 1) (qag 8))) gL qfj qgM)) qbN)
noncomputable def qc9:TS:=
 (qaF (qaM (qag 7) (qrS (qag 5) (qag 6) qgM))
  (qc8 K))
noncomputable def qfa:TS:=
 (qaF (qaM (tOp qlS (tOp gL (qag 3) (tOp qhC (qag 6) (qag 4))) (qag 2)) (qai 7))
  (qc9 K))
noncomputable def qd2:TS:=
 (qbz (qb9 (qab (qak (qbc K) [] E0 (qab (qag 5) qal)) (qab (qak (qbn K) [] E0 (qab (tSl sL (qag 3) qc5 (qhv (qag 4))) (qab (qag 2) qal))) qal))))
noncomputable def qgU:TS:=
 (qaF (qe4 (qpX (qab (tOp qfj (tOp qfj (tCB qce (qab (qag 0) qal)) (qag 4)) (tC (.int 1))) (qab (tUn qew (tC (.int 1))) (qab (tUn qew (tC (.int 1))) qal)))) (qai 6) (qfa K))
  (qd2 K))
noncomputable def qd3:TS:=
 (qaF (qaM (tOp qtl (qcR (qab (tC (.int 0)) qal)) (tCB qtm (qab (tOp qfj (tCB qce (qab (qag 0) qal)) (qag 4)) (qab (tC (.int 0)) qal)))) (qai 5))
  (qgU K))
noncomputable def qgV:TS:=
 (qaF (qaM (tOp qfj (tCB qce (qab (qag 1) qal)) (tC (.int 1))) (qai 4))
  (qd3 K))
noncomputable def qiv:TS:=
 (qaF (qaM (tCB qkN (qab (qag 0) qal)) (qai 3))
  (qgV K))
noncomputable def qfJ:TS:=
 (qbz (tOp gT (qak (qbv K) [] E0 (qab (qag 0) (qab (qag 1) (qab (qag 2) qal)))) (tC (.int 1))))
noncomputable def qej:TS:=
 (qaF (qaM (qak (qa4 K) [] E0 (qab (qak (qbn K) [] E0 (qab (qag 0) (qab (qag 2) qal))) (qab (qag 2) qal))) (qai 0))
  (qaF (qaM (qak (qa4 K) [] E0 (qab (qak (qbn K) [] E0 (qab (qag 1) (qab (qag 2) qal))) (qab (qag 2) qal))) (qai 1))
  (qaF (qde (qhF (qag 1)) (qaF (qaM (qak (qbG K) [] E0 (qab (qag 0) (qab (qag 1) (qab (qag 2) qal)))) (qai 3))
  (qaF (qaM (qag 1) (qai 0))
  (qaM (qak (qa4 K) [] E0 (qab (qag 3) (qab (qag 2) qal))) (qai 1)))))
  (qbz (qag 0)))))
noncomputable def qk6 (_:W.Frag):TS:=
 (qaF (qaM (tOp qlS (qag 0) (qag 1)) (qai 2))
  (qbz (tIf (qa2 (tOp iGt (tOp qdL (tC (.int 2)) (qag 2)) (qag 1))) (tOp qfj (qag 2) (qag 1)) (qag 2))))
noncomputable def qdE:TS:=
 (qaF (qaM (qak (qaH K) [] E0 (qab (tOp gL (qag 0) (tUn qew (tC (.int 1)))) (qab (tOp gL (qag 1) (tUn qew (tC (.int 1)))) qal))) (qai 3))
  (qaF (qd5 (qa2 (tOp rEq (tOp qlS (qag 3) (qag 2)) (tC (.int 0)))) (qbz (tC .non)) qbN)
  (qaF (qaM (qak (qbj K) [] E0 (qab (qag 0) (qab (qag 1) (qab (qag 2) qal)))) (qai 4))
  (qaF (qaM (qak (qaX K) [] E0 (qab (qbT (qcc K (qag 4)) [none,some 2,some 3] (qai 0) (qak (qcZ K) [] E0 (qab (tOp qdL (qag 2) (qag 0)) (qab (qag 1) qal)))) qal)) (qai 5))
  (qaF (qd5 (tOr (qa2 (tOp qwO (qak (qb2 K) [] E0 (qab (qag 0) (qab (qag 5) qal))) (tC .non))) (qa2 (tOp qwO (qak (qb2 K) [] E0 (qab (qag 1) (qab (qag 5) qal))) (tC .non)))) (qbz (tC .non)) qbN)
  (qbz (qag 5)))))))
noncomputable def qgz:TS:=
 (qaF (qaM (qak (qaX K) [] E0 (qab (qag 0) qal)) (qai 2))
  (qaF (qaM (qak (qaX K) [] E0 (qab (qag 1) qal)) (qai 3))
  (qaF (qd5 (qo3 (qhF (qag 0)) (qhF (qag 1))) (qe4 (qo4 K (tC (.ref (qcq K)))) (qai 4) (qaF (qaM (qak (qa5 K) [] E0 (qab (qag 2) (qab (qag 3) (qab (tOp qfj (qak (qdz K) [] E0 (qab (tC (.int 2)) (qab (qag 4) qal))) (tC (.int 1))) qal)))) (qai 5))
  (qd5 (qa2 (tOp quj (qag 5) (tC .non))) (qbz (qag 5)) qbN))) qbN)
  (qbz (tOp gL (qak (qa7 K) [] E0 (qab (qcR (qab (qag 2) qal)) (qab (qcR (qab (qag 3) qal)) qal))) (tC (.int 0)))))))
noncomputable def qqw:TS:=
 (qaF (qaM (qak (qaH K) [] E0 (qab (qag 0) (qab (qag 1) qal))) (qai 2))
  (qaF (qd5 (qa2 (tOp iLt (qag 1) (tC (.int 0)))) (qaM (tUn qew (qag 2)) (qai 2)) qbN)
  (qbz (qb9 (qab (tOp qgP (qag 0) (qag 2)) (qab (tOp qgP (qag 1) (qag 2)) qal))))))
noncomputable def qtI:TS:=
 (qbz (qak (qbP K) [] E0 (qab (tOp qhC (tOp qdL (tOp gT (qag 0) (tC (.int 0))) (tOp gT (qag 1) (tC (.int 1)))) (tOp qdL (tOp gT (qag 1) (tC (.int 0))) (tOp gT (qag 0) (tC (.int 1))))) (qab (tOp qdL (tOp gT (qag 0) (tC (.int 1))) (tOp gT (qag 1) (tC (.int 1)))) qal))))
noncomputable def qqx:TS:=
 (qbz (qak (qbP K) [] E0 (qab (tOp qfj (tOp qdL (tOp gT (qag 0) (tC (.int 0))) (tOp gT (qag 1) (tC (.int 1)))) (tOp qdL (tOp gT (qag 1) (tC (.int 0))) (tOp gT (qag 0) (tC (.int 1))))) (qab (tOp qdL (tOp gT (qag 0) (tC (.int 1))) (tOp gT (qag 1) (tC (.int 1)))) qal))))
noncomputable def qqy:TS:=
 (qbz (qak (qbP K) [] E0 (qab (tOp qdL (tOp gT (qag 0) (tC (.int 0))) (tOp gT (qag 1) (tC (.int 0)))) (qab (tOp qdL (tOp gT (qag 0) (tC (.int 1))) (tOp gT (qag 1) (tC (.int 1)))) qal))))
noncomputable def qtJ:TS:=
 (qbz (qak (qbP K) [] E0 (qab (tOp qdL (tOp gT (qag 0) (tC (.int 0))) (tOp gT (qag 1) (tC (.int 1)))) (qab (tOp qdL (tOp gT (qag 0) (tC (.int 1))) (tOp gT (qag 1) (tC (.int 0)))) qal))))
noncomputable def qsy (_:W.Frag):TS:=
 (qbz (tOp iLt (tOp qdL (tOp gT (qag 0) (tC (.int 0))) (tOp gT (qag 1) (tC (.int 1)))) (tOp qdL (tOp gT (qag 1) (tC (.int 0))) (tOp gT (qag 0) (tC (.int 1))))))
noncomputable def qtK (_:W.Frag):TS:=
 (qaF (qaM (tCB qce (qab (qag 0) qal)) (qai 1))
  (qaF (qde (qo3 (qa2 (tOp iGt (qag 1) (tC (.int 0)))) (qa2 (tOp rEq (tOp gT (tOp gL (qag 0) (tOp qfj (qag 1) (tC (.int 1)))) (tC (.int 0))) (tC (.int 0))))) (qpb 1 (tC (.int 1)) qfj))
  (qbz (tCB ql7 (qab (tSl sL (qag 0) qc5 (qhv (qag 1))) qal)))))
noncomputable def qsz (_:W.Frag):TS:=
 (qbz (tOp qfj (tCB qfo (qab (qag 0) qal)) (tC (.int 1))))
noncomputable def qk7:TS:=
 (qaF (qaM (tC (.int 1)) (qai 1))
  (qaF (qe4 (qo4 K (qag 0)) (qai 2) (qpb 1 (tOp qjw (tOp gT (qag 2) (tC (.int 1))) (qak (qaH K) [] E0 (qab (qag 1) (qab (tOp gT (qag 2) (tC (.int 1))) qal)))) qdL))
  (qbz (qb9 (qab (qbT (qo4 K (qag 0)) [none,some 1] (qai 0) (tOp qdL (tOp gT (qag 0) (tC (.int 0))) (tOp qjw (qag 1) (tOp gT (qag 0) (tC (.int 1)))))) (qab (qag 1) qal))))))
noncomputable def qhQ:TS:=
 (qbz (qak (qcs K) [] E0 (qab (qbT (qcc K (qag 0)) [none,some 1] (qai 0) (qak (qbP K) [] E0 (qab (qag 0) (qab (qag 1) qal)))) qal)))
noncomputable def qhR (_:W.Frag):TS:=
 (qbz (tIf (qa2 (tOp iLt (qag 1) (tCB qfo (qab (qag 0) qal)))) (tOp gT (qag 0) (qag 1)) (qb9 (qab (tC (.int 0)) (qab (tC (.int 1)) qal)))))
noncomputable def qnv:TS:=
 (qbz (qak (qcs K) [] E0 (qab (qbT (qht (qab (tCB qtm (qab (tCB qfo (qab (qag 0) qal)) (qab (tCB qfo (qab (qag 1) qal)) qal))) qal)) [none,some 0,some 1] (qai 0) (qak (qhM K) [] E0 (qab (qak (qbo K) [] E0 (qab (qag 1) (qab (qag 0) qal))) (qab (qak (qbo K) [] E0 (qab (qag 2) (qab (qag 0) qal))) qal)))) qal)))
noncomputable def qk8:TS:=
 (qbz (qak (qcs K) [] E0 (qab (qbT (qht (qab (tCB qtm (qab (tCB qfo (qab (qag 0) qal)) (qab (tCB qfo (qab (qag 1) qal)) qal))) qal)) [none,some 0,some 1] (qai 0) (qak (qhg K) [] E0 (qab (qak (qbo K) [] E0 (qab (qag 1) (qab (qag 0) qal))) (qab (qak (qbo K) [] E0 (qab (qag 2) (qab (qag 0) qal))) qal)))) qal)))
noncomputable def qk9:TS:=
 (qaF (qaM (qak (qbw K) [] E0 (qab (qag 0) qal)) (qai 2))
  (qaF (qaM (qak (qbw K) [] E0 (qab (qag 1) qal)) (qai 3))
  (qbz (qak (qbA K) [] E0 (qab (qak (qb6 K) [] E0 (qab (tOp gT (qag 2) (tC (.int 0))) (qab (tOp gT (qag 3) (tC (.int 0))) qal))) (qab (tOp qdL (tOp gT (qag 2) (tC (.int 1))) (tOp gT (qag 3) (tC (.int 1)))) qal))))))
noncomputable def qi7:TS:=
 (qbz (qak (qcs K) [] E0 (qab (qbT (qo4 K (qag 0)) [none,some 1] (qai 0) (qak (qfw K) [] E0 (qab (qag 0) (qab (qag 1) qal)))) qal)))
noncomputable def qiw (_:W.Frag):TS:=
 (qpb 5 (qag 10) qjw)
noncomputable def qix:TS:=
 (qaF (qaM (qak (qbD K) [] E0 (qab (qag 4) (qab (qag 10) qal))) (qai 4))
  (qiw K))
noncomputable def qeO:TS:=
 (qaF (qaM (qak (qcr K) [] E0 (qab (qag 4) (qab (qag 5) qal))) (qai 10))
  (qix K))
noncomputable def qiy:TS:=
 (qaF (qpb 5 (tOp qgP (qag 6) (qag 9)) qdL)
  (qeO K))
noncomputable def qeP:TS:=
 (qaF (qaM (qak (qb1 K) [] E0 (qab (qag 4) (qab (tOp qgP (qag 6) (qag 9)) (qab (tOp gT (qag 3) (tC (.int 0))) (qab (tOp qgP (tOp gL (qag 4) (tUn qew (tC (.int 1)))) (qag 9)) (qab (qag 8) qal)))))) (qai 4))
  (qiy K))
noncomputable def qiz:TS:=
 (qaF (qaM (qak (qaH K) [] E0 (qab (tOp gL (qag 4) (tUn qew (tC (.int 1)))) (qab (qag 6) qal))) (qai 9))
  (qeP K))
noncomputable def qeQ:TS:=
 (qaF (qaM (qak (qbP K) [] E0 (qab (tOp qdL (tOp gL (qag 4) (tUn qew (tC (.int 1)))) (tOp gT (qag 3) (tC (.int 1)))) (qab (tOp qdL (qag 5) (qag 6)) qal))) (qrS (qag 7) (qag 8) qgM))
  (qiz K))
noncomputable def qiA:TS:=
 (qaF (qaM (tOp qfj (tCB qce (qab (qag 4) qal)) (tCB qfo (qab (qag 1) qal))) (qai 8))
  (qeQ K))
noncomputable def qhS:TS:=
 (qbz (qb9 (qab (qak (qcs K) [] E0 (qab (qag 7) qal)) (qab (qak (qbA K) [] E0 (qab (qag 4) (qab (qag 5) qal))) qal))))
noncomputable def qmh:TS:=
 (qaF (qde (qa2 (tOp iGe (tCB qce (qab (qag 4) qal)) (tCB qfo (qab (qag 1) qal)))) (qiA K))
  (qhS K))
noncomputable def qmi:TS:=
 (qaF (qaM (tOp qtl (qcR (qab (qb9 (qab (tC (.int 0)) (qab (tC (.int 1)) qal))) qal)) (tCB qtm (qab (tOp qhC (tOp qfj (tCB qfo (qab (qag 0) qal)) (tCB qfo (qab (qag 1) qal))) (tC (.int 1))) (qab (tC (.int 0)) qal)))) (qai 7))
  (qmh K))
noncomputable def qmj:TS:=
 (qaF (qaM (tOp gL (tOp gT (qag 3) (tC (.int 0))) (tUn qew (tC (.int 1)))) (qai 6))
  (qmi K))
noncomputable def qmk:TS:=
 (qaF (qaM (tOp gT (qag 2) (tC (.int 1))) (qai 5))
  (qmj K))
noncomputable def qml:TS:=
 (qaF (qaM (tOp gT (qag 2) (tC (.int 0))) (qai 4))
  (qmk K))
noncomputable def qmm:TS:=
 (qaF (qaM (qak (qbw K) [] E0 (qab (qag 1) qal)) (qai 3))
  (qml K))
noncomputable def qqz:TS:=
 (qaF (qaM (qak (qbw K) [] E0 (qab (qag 0) qal)) (qai 2))
  (qmm K))
noncomputable def qnw:TS:=
 (qaF (qaM (qak (qbO K) [] E0 (qab (tOp gT (qak (qbw K) [] E0 (qab (qag 0) qal)) (tC (.int 0))) (qab (tOp gT (qak (qbw K) [] E0 (qab (qag 1) qal)) (tC (.int 0))) qal))) (qai 2))
  (qbz (tIf (qhF (qag 2)) (qak (qbA K) [] E0 (qab (qag 2) (qab (tOp gL (qag 2) (tUn qew (tC (.int 1)))) qal))) (qb9 qal))))
noncomputable def qla:TS:=
 (qbz (tCB ql7 (qab (qbT (qrY (qab (tC (.int 1)) (qab (tCB qfo (qab (qag 0) qal)) qal))) [none,some 0] (qai 0) (qak (qfw K) [] E0 (qab (tOp gT (qag 1) (qag 0)) (qab (qb9 (qab (qag 0) (qab (tC (.int 1)) qal))) qal)))) qal)))
noncomputable def qi8:TS:=
 (qaF (qaM (qak (qbW K) [] E0 (qab (qag 0) (qab (qag 1) qal))) (qai 2))
  (qbz (qak (qdB K) [] E0 (qab (qak (qaV K) [] E0 (qab (qag 0) (qab (qag 2) qal))) (qab (qak (qaV K) [] E0 (qab (qag 1) (qab (qag 2) qal))) qal)))))
noncomputable def qnx:TS:=
 (qaF (qaM (qak (qf9 K) [] E0 (qab (qb9 (qab (tC (.int 1)) (qab (tC (.int 1)) qal))) (qab (tOp gT (qag 1) (tUn qew (tC (.int 1)))) qal))) (qai 2))
  (qbz (qb9 (qab (qak (qbq K) [] E0 (qab (qag 0) (qab (qag 2) qal))) (qab (qak (qbq K) [] E0 (qab (qag 1) (qab (qag 2) qal))) qal)))))
noncomputable def qi9:TS:=
 (qbz (tOp gT (qak (qc0 K) [] E0 (qab (qag 0) (qab (qag 1) qal))) (tC (.int 0))))
noncomputable def qsA (_:W.Frag):TS:=
 (qbz (qb9 (qab (qag 0) (qab (qb9 (qab (qb9 (qab (tC (.int 1)) (qab (tC (.int 1)) qal))) qal)) qal))))
noncomputable def qoh:TS:=
 (qbz (qak (qdD K) [] E0 (qab (qak (qcs K) [] E0 (qab (qcR (qab (qag 0) qal)) qal)) qal)))
noncomputable def qoi:TS:=
 (qbz (qb9 (qab (qak (qaV K) [] E0 (qab (qag 4) (qab (qag 5) qal))) (qab (qak (qaV K) [] E0 (qab (qak (qaS K) [] E0 (qab (tOp gT (qag 0) (tC (.int 1))) (qab (qag 3) qal))) (qab (qag 5) qal))) qal))))
noncomputable def qoj:TS:=
 (qaF (qaM (qak (qbW K) [] E0 (qab (qag 4) (qab (qag 2) qal))) (qai 5))
  (qoi K))
noncomputable def qok:TS:=
 (qaF (qaM (qak (qdA K) [] E0 (qab (qak (qaS K) [] E0 (qab (tOp gT (qag 0) (tC (.int 0))) (qab (qag 3) qal))) (qab (qak (qaS K) [] E0 (qab (tOp gT (qag 1) (tC (.int 0))) (qab (qak (qaV K) [] E0 (qab (tOp gT (qag 0) (tC (.int 1))) (qab (qag 2) qal))) qal))) qal))) (qai 4))
  (qoj K))
noncomputable def qol:TS:=
 (qaF (qaM (qak (qaV K) [] E0 (qab (tOp gT (qag 1) (tC (.int 1))) (qab (qag 2) qal))) (qai 3))
  (qok K))
noncomputable def qsB:TS:=
 (qaF (qaM (qak (qbW K) [] E0 (qab (tOp gT (qag 0) (tC (.int 1))) (qab (tOp gT (qag 1) (tC (.int 1))) qal))) (qai 2))
  (qol K))
noncomputable def qmn:TS:=
 (qbz (qb9 (qab (qag 4) (qab (qak (qaS K) [] E0 (qab (tOp gT (qag 0) (tC (.int 1))) (qab (qag 3) qal))) qal))))
noncomputable def qmo:TS:=
 (qaF (qaM (qak (qeA K) [] E0 (qab (qak (qaS K) [] E0 (qab (qak (qbx K) [] E0 (qab (tOp gT (qag 0) (tC (.int 0))) qal)) (qab (qag 3) qal))) (qab (qak (qaS K) [] E0 (qab (tOp gT (qag 0) (tC (.int 0))) (qab (qak (qaV K) [] E0 (qab (qag 1) (qab (qag 2) qal))) qal))) qal))) (qai 4))
  (qmn K))
noncomputable def qmp:TS:=
 (qaF (qaM (qak (qaV K) [] E0 (qab (tOp gT (qag 0) (tC (.int 1))) (qab (qag 2) qal))) (qai 3))
  (qmo K))
noncomputable def qmq:TS:=
 (qaF (qaM (qak (qbW K) [] E0 (qab (tOp gT (qag 0) (tC (.int 1))) (qab (qag 1) qal))) (qai 2))
  (qmp K))
noncomputable def qqA:TS:=
 (qaF (qaM (qak (qbx K) [] E0 (qab (tOp gT (qag 0) (tC (.int 1))) qal)) (qai 1))
  (qmq K))
noncomputable def qiB (_:W.Frag):TS:=
 (qbz (qag 1))
noncomputable def qiC:TS:=
 (qaF (qe4 (qo4 K (tOp gT (qag 0) (tC (.int 1)))) (qf5 2 (qcJ (qai 2) (qcJ (qai 3) qnY))) (qaM (qak (qbM K) [] E0 (qab (qag 1) (qab (qak (qbr K) [] E0 (qab (qak (qbq K) [] E0 (qab (qak (qbx K) [] E0 (qab (qag 3) qal)) (qab (qag 2) qal))) (qab (qag 3) qal))) qal))) (qai 1)))
  (qiB K))
noncomputable def qlb:TS:=
 (qaF (qaM (qak (qc1 K) [] E0 (qab (tOp gT (qag 0) (tC (.int 0))) qal)) (qai 1))
  (qiC K))
noncomputable def qlc:TS:=
 (qbz (tOp eqD (qak (qcW K) [] E0 (qab (qag 1) qal)) (qag 0)))
noncomputable def qmr (_:W.Frag):TS:=
 (qbz (qxB ["cells", "number", "digits", "at"] (qab (qag 3) (qab (qag 1) (qab (tOp rEq (tOp qlS (qag 1) (tC (.int 2))) (tC (.int 0))) (qab (tC (.int 0)) qal))))))
noncomputable def qhT:TS:=
 (qaF (qaM (qbT (qcc K (tSl (sS K) (qag 0) qc5 (qhv (tC (.int 63))))) [none] (qai 0) (tCB qvm (qab (qag 0) qal))) (qai 3))
  (qmr K))
noncomputable def qms:TS:=
 (qaF (qe4 (qcc K (tSl (sS K) (qag 0) qc5 (qhv (tC (.int 63))))) (qai 2) (qaM (tOp qlS (tOp qhC (tOp qhC (tOp qdL (qag 1) (tC (.int 48271))) (tOp qlS (qag 2) (tC (.int 2147483647)))) (tC (.int 7))) (tC (.int 2147483629))) (qai 1)))
  (qhT K))
noncomputable def qqB:TS:=
 (qaF (qaM (tC (.int 11)) (qai 1))
  (qms K))
noncomputable def qjI (_:W.Frag):TS:=
 (qbz (qag 2))
noncomputable def qjJ:TS:=
 (qaF (qaM (tCB qqc (qab (tOp gL (tOp gD (qag 0) (tC (.str "cells"))) (tC (.int 0))) (qab (qag 1) qal))) (qf5 2 (qcJ (qrS (tOp gD (qag 0) (tC (.str "cells"))) (tC (.int 0)) qgM) (qcJ (qai 2) qnY))))
  (qjI K))
noncomputable def qfK:TS:=
 (qaF (qd5 (qa2 (tOp rEq (tCB qce (qab (tOp gD (qag 0) (tC (.str "cells"))) qal)) (tC (.int 0)))) (qbz (tC (.int 0))) qbN)
  (qjJ K))
noncomputable def qjK:TS:=
 (qaF (qde (qo3 (qa2 (tOp iGt (tCB qce (qab (tOp gD (qag 0) (tC (.str "cells"))) qal)) (tC (.int 1)))) (qa2 (tOp rEq (tOp gL (tOp gD (qag 0) (tC (.str "cells"))) (tC (.int 0))) (tC (.int 0))))) (qgL (tBM K "list" qvZ (tOp gD (qag 0) (tC (.str "cells"))) (qab (tC (.int 0)) qal))))
  (qfK K))
noncomputable def qom (_:W.Frag):TS:=
 (qbz (tOp qlS (tOp qob (tOp gD (qag 0) (tC (.str "number"))) (tC (.int 97))) (qag 1)))
noncomputable def qon:TS:=
 (qaF (qaM (tOp qhC (tOp qlS (tOp qdL (qag 3) (qag 3)) (tC (.int 2147483587))) (tOp gD (qag 0) (tC (.str "at")))) (qrS (qag 0) (tC (.str "number")) qum))
  (qom K))
noncomputable def qja:TS:=
 (qaF (qaM (tOp qlS (tOp qdL (tOp qhC (tOp gD (qag 0) (tC (.str "number"))) (tOp qdL (tC (.int 7919)) (tOp gD (qag 0) (tC (.str "at"))))) (tC (.int 48271))) (tC (.int 2147483629))) (qai 3))
  (qon K))
noncomputable def qoo:TS:=
 (qaF (qd5 (tB (tOp gD (qag 0) (tC (.str "digits")))) (qjK K) qbN)
  (qja K))
noncomputable def qsC:TS:=
 (qaF (qaM (tOp qhC (tOp gD (qag 0) (tC (.str "at"))) (tC (.int 1))) (qrS (qag 0) (tC (.str "at")) qum))
  (qoo K))
noncomputable def qgA:TS:=
 (qbz (qak (qbP K) [] E0 (qab (qag 1) (qab (tOp qhC (tC (.int 1)) (qak (qbf K) [] E0 (qab (qag 0) (qab (tC (.int 3)) qal)))) qal))))
noncomputable def qld:TS:=
 (qaF (qd5 (qa2 (tOp rEq (qak (qbf K) [] E0 (qab (qag 0) (qab (tC (.int 12)) qal))) (tC (.int 11)))) (qaM (tOp qdL (qag 1) (tC (.int 1009))) (qai 1)) qbN)
  (qgA K))
noncomputable def qop:TS:=
 (qaF (qaM (tOp qfj (qak (qbf K) [] E0 (qab (qag 0) (qab (tC (.int 9)) qal))) (tC (.int 4))) (qai 1))
  (qld K))
noncomputable def qqC:TS:=
 (qaF (qaM (qak (qb3 K) [] E0 (qab (qag 0) qal)) (qai 1))
  (qaF (qd5 (qa2 (tOp eqD (qag 1) (qb9 (qab (tC (.int 0)) (qab (tC (.int 1)) qal))))) (qbz (qb9 (qab (tC (.int 2)) (qab (tC (.int 1)) qal)))) qbN)
  (qbz (qag 1))))
noncomputable def qqD:TS:=
 (qbz (tCB ql7 (qab (qbT (qcc K (qag 0)) [none] (qai 0) (qb9 (qab (qag 0) (qab (tC (.int 1)) qal)))) qal)))
noncomputable def qoq (_:W.Frag):TS:=
 (qbz (qag 3))
noncomputable def qjb:TS:=
 (qaF (qaM (tOp qrT (qag 3) (qbT (qo4 K (qb9 (qab (qcR (qab (tUn qew (tC (.int 2))) (qab (tC (.int 0)) (qab (tC (.int 0)) (qab (tC (.int 1)) qal))))) (qab (qcR (qab (tC (.int 1)) (qab (tC (.int 1)) (qab (tC (.int 0)) (qab (tC (.int 1)) qal))))) (qab (qcR (qab (tUn qew (tC (.int 1))) (qab (tUn qew (tC (.int 1))) (qab (tC (.int 0)) (qab (tC (.int 1)) qal))))) qal))))) [none] (qai 0) (qak (qbe K) [] E0 (qab (qag 0) qal)))) (qai 3))
  (qoq K))
noncomputable def qor:TS:=
 (qaF (qaM (tOp qrT (qag 1) (qbT (qcc K (qag 2)) [none] (qai 0) (qak (qbe K) [] E0 (qab (qag 0) qal)))) (qai 3))
  (qjb K))
noncomputable def qos:TS:=
 (qaF (qaM (qcR (qab (qcR (qab (tUn qew (tC (.int 2))) (qab (tC (.int 0)) (qab (tC (.int 1)) qal)))) (qab (qcR (qab (tC (.int 1)) (qab (tC (.int 0)) (qab (tC (.int 1)) qal)))) (qab (qcR (qab (tC (.int 1)) (qab (tC (.int 1)) (qab (tC (.int 1)) qal)))) (qab (qcR (qab (tUn qew (tC (.int 3))) (qab (tC (.int 0)) (qab (tC (.int 1)) qal)))) (qab (qcR (qab (tUn qew (tC (.int 1))) (qab (tC (.int 1)) (qab (tC (.int 1)) qal)))) (qab (qcR (qab (tC (.int 2)) (qab (tC (.int 0)) (qab (tC (.int 1)) qal)))) (qab (qcR (qab (tUn qew (tC (.int 1))) (qab (tC (.int 2)) (qab (tC (.int 1)) qal)))) (qab (qcR (qab (tC (.int 3)) (qab (tC (.int 1)) (qab (tC (.int 1)) qal)))) qal))))))))) (qai 2))
  (qor K))
noncomputable def qsD:TS:=
 (qaF (qaM (tOp qrT (qbT (qo4 K (qb9 (qab (tC (.int 0)) (qab (tC (.int 1)) (qab (tUn qew (tC (.int 1))) (qab (tC (.int 2)) (qab (tUn qew (tC (.int 2))) (qab (tC (.int 3)) qal)))))))) [none] (qai 0) (qak (qbe K) [] E0 (qab (qcR (qab (tUn qew (qag 0)) (qab (tC (.int 1)) qal))) qal))) (qcR (qab (qb9 (qab (qb9 (qab (tC (.int 1)) (qab (tC (.int 2)) qal))) (qab (qb9 (qab (tC (.int 1)) (qab (tC (.int 1)) qal))) qal))) (qab (qb9 (qab (qb9 (qab (tUn qew (tC (.int 2))) (qab (tC (.int 3)) qal))) (qab (qb9 (qab (tC (.int 1)) (qab (tC (.int 1)) qal))) qal))) qal)))) (qai 1))
  (qos K))
noncomputable def qjL:TS:=
 (qaM (tOp qfj (qag 5) (qak (qdC K) [] E0 (qab (tOp gL (qag 4) (tUn qew (tC (.int 1)))) qal))) (qai 5))
noncomputable def qjM:TS:=
 (qaF (qgL (tBM K "list" qe5 (qag 4) (qab (tOp gL (qag 7) (qak (qbf K) [] E0 (qab (qag 0) (qab (tCB qce (qab (qag 7) qal)) qal)))) qal)))
  (qjL K))
noncomputable def qjN:TS:=
 (qd5 (qa2 (tOp neD (qag 7) (qcR qal))) (qjM K) qbN)
noncomputable def qjO:TS:=
 (qaF (qaM (qgu (qcc K (qag 3)) [none,some 5,some 4] (qai 0) (qo3 (qa2 (tOp iLe (qak (qdC K) [] E0 (qab (qag 0) qal)) (qag 1))) (qa2 (tOp (inD true) (qag 0) (qag 2)))) (qag 0)) (qai 7))
  (qjN K))
noncomputable def qot (_:W.Frag):TS:=
 (qbz (qag 4))
noncomputable def qou:TS:=
 (qaF (qe4 (qht (qab (qag 1) qal)) (qai 6) (qjO K))
  (qot K))
noncomputable def qov:TS:=
 (qaF (qaM (qag 2) (qai 5))
  (qou K))
noncomputable def qow:TS:=
 (qaF (qaM (qcR qal) (qai 4))
  (qov K))
noncomputable def qsE:TS:=
 (qaF (qaM (qak (qfy K) [] E0 (qab (qag 0) qal)) (qai 3))
  (qow K))
noncomputable def qmt:TS:=
 (qaF (qaM (qb9 (qab (qb9 (qab (tC (.int 1)) (qab (tC (.int 1)) qal))) qal)) (qai 1))
  (qaF (qe4 (qcc K (qag 0)) (qai 2) (qaM (qak (qaS K) [] E0 (qab (qag 1) (qab (qag 2) qal))) (qai 1)))
  (qbz (qag 1))))
noncomputable def qdU:TS:=
 (qd5 (qo3 (qa2 (tOp iLt (qag 4) (tCB qce (qab (qag 1) qal)))) (qa2 (tOp eqD (tOp gT (tOp gL (qag 1) (qag 4)) (tC (.int 0))) (qag 2)))) (qaM (qb9 (qab (qag 2) (qab (qak (qaS K) [] E0 (qab (tOp gT (tOp gL (qag 1) (qag 4)) (tC (.int 1))) (qab (qag 3) qal))) qal))) (qrS (qag 1) (qag 4) qgM)) (qd5 (qa2 (tOp neD (qag 2) (qb9 (qab (tC (.int 0)) (qab (tC (.int 1)) qal))))) (qgL (tBM K "list" ql8 (qag 1) (qab (qag 4) (qab (qb9 (qab (qag 2) (qab (qag 3) qal))) qal)))) qbN))
noncomputable def qjP:TS:=
 (qaF (qde (qo3 (qa2 (tOp iLt (qag 4) (tCB qce (qab (qag 1) qal)))) (tB (qak (qfx K) [] E0 (qab (tOp gT (tOp gL (qag 1) (qag 4)) (tC (.int 0))) (qab (qag 2) qal))))) (qaM (tOp qhC (qag 4) (tC (.int 1))) (qai 4)))
  (qdU K))
noncomputable def qfL:TS:=
 (qaF (qaM (tC (.int 0)) (qai 4))
  (qjP K))
noncomputable def qjc (_:W.Frag):TS:=
 (qbz (tCB ql7 (qab (qag 1) qal)))
noncomputable def qjd:TS:=
 (qaF (qe4 (qcc K (qag 0)) (qf5 2 (qcJ (qai 2) (qcJ (qai 3) qnY))) (qfL K))
  (qjc K))
noncomputable def qsF:TS:=
 (qaF (qaM (qcR qal) (qai 1))
  (qjd K))
noncomputable def qeR:TS:=
 (qbz (qak (qbr K) [] E0 (qab (qak (qcs K) [] E0 (qab (qag 2) qal)) (qab (qag 3) qal))))
noncomputable def qeS:TS:=
 (qaF (qd5 (qa2 (tOp rEq (qag 4) (tC (.int 3)))) (qaM (qak (qbe K) [] E0 (qab (qcR (qab (tUn qew (tC (.int 3))) (qab (tC (.int 1)) qal))) qal)) (qai 3)) qbN)
  (qeR K))
noncomputable def qeT:TS:=
 (qaF (qd5 (qa2 (tOp rEq (qag 4) (tC (.int 2)))) (qaM (qak (qaS K) [] E0 (qab (qak (qbe K) [] E0 (qab (qcR (qab (tC (.int 1)) (qab (tC (.int 1)) qal))) qal)) (qab (qak (qbe K) [] E0 (qab (qcR (qab (tC (.int 1)) (qab (tC (.int 1)) qal))) qal)) qal))) (qai 3)) qbN)
  (qeS K))
noncomputable def qiD:TS:=
 (qaF (qd5 (qo3 (qa2 (tOp rEq (qag 4) (tC (.int 1)))) (qa2 (tOp neD (qag 1) (qcR qal)))) (qaM (tOp gL (qag 1) (tC (.int 0))) (qai 3)) qbN)
  (qeT K))
noncomputable def qiE:TS:=
 (qaF (qaM (qak (qbf K) [] E0 (qab (qag 0) (qab (tC (.int 4)) qal))) (qai 4))
  (qiD K))
noncomputable def qiF:TS:=
 (qaF (qaM (qb9 (qab (qb9 (qab (tC (.int 1)) (qab (tC (.int 1)) qal))) qal)) (qai 3))
  (qiE K))
noncomputable def qle:TS:=
 (qaF (qaM (qbT (qht (qab (tOp qhC (tC (.int 1)) (qak (qbf K) [] E0 (qab (qag 0) (qab (tC (.int 3)) qal)))) qal)) [none,some 0] (qai 0) (qak (qb3 K) [] E0 (qab (qag 1) qal))) (qai 2))
  (qiF K))
noncomputable def qhU:TS:=
 (qd5 (qa2 (tOp rEq (qak (qbf K) [] E0 (qab (qag 0) (qab (tC (.int 3)) qal))) (tC (.int 0)))) (qaM (qb9 (qab (tC (.int 0)) (qab (tC (.int 1)) qal))) (qai 6)) qbN)
noncomputable def qhV:TS:=
 (qaF (qaM (qak (qct K) [] E0 (qab (qag 0) qal)) (qai 7))
  (qhU K))
noncomputable def qek:TS:=
 (qgL (tBM K "list" qe5 (qag 4) (qab (qb9 (qab (qag 5) (qab (qag 6) (qab (qag 7) qal)))) qal)))
noncomputable def qhW:TS:=
 (qaF (qd5 (qo3 (qa2 (tOp iGt (qak (qdC K) [] E0 (qab (qag 5) qal)) (tC (.int 1)))) (qa2 (tOp iGt (qak (qbf K) [] E0 (qab (qag 0) (qab (qag 3) qal))) (tC (.int 0))))) (qhV K) qbN)
  (qek K))
noncomputable def qhX:TS:=
 (qaF (qaM (qb9 (qab (tC (.int 0)) (qab (tC (.int 1)) qal))) (qai 7))
  (qhW K))
noncomputable def qhY:TS:=
 (qaF (qaM (qak (qct K) [] E0 (qab (qag 0) qal)) (qai 6))
  (qhX K))
noncomputable def qlf (_:W.Frag):TS:=
 (qbz (qag 4))
noncomputable def qgB:TS:=
 (qaF (qe4 (qcc K (qak (qfz K) [] E0 (qab (qag 0) (qab (qag 1) (qab (qag 2) qal))))) (qai 5) (qhY K))
  (qlf K))
noncomputable def qox:TS:=
 (qaF (qaM (qcR qal) (qai 4))
  (qgB K))
noncomputable def qlg:TS:=
 (qaM (qak (qdA K) [] E0 (qab (qag 1) (qab (qak (qaS K) [] E0 (qab (qag 6) (qab (qag 5) qal))) qal))) (qai 1))
noncomputable def qlh:TS:=
 (qaF (qaM (qak (qdA K) [] E0 (qab (qak (qbq K) [] E0 (qab (qak (qbx K) [] E0 (qab (qag 2) qal)) (qab (qag 3) qal))) (qab (qak (qcs K) [] E0 (qab (qcR (qab (qag 4) qal)) qal)) qal))) (qai 6))
  (qlg K))
noncomputable def qgC:TS:=
 (qaF (qaM (qak (qcA K) [] E0 (qab (qgu (qcc K (qag 0)) [none,some 2] (qai 0) (qa2 (tOp neD (tOp gT (qag 0) (tC (.int 0))) (qag 1))) (tOp gT (qag 0) (tC (.int 0)))) qal)) (qai 5))
  (qlh K))
noncomputable def qqE (_:W.Frag):TS:=
 (qbz (qag 1))
noncomputable def qli:TS:=
 (qaF (qe4 (qcc K (qag 0)) (qf5 3 (qcJ (qai 2) (qcJ (qai 3) (qcJ (qai 4) qnY)))) (qgC K))
  (qqE K))
noncomputable def quC:TS:=
 (qaF (qaM (qb9 qal) (qai 1))
  (qli K))
noncomputable def qeU:TS:=
 (qgL (tBM K "list" qe5 (qag 6) (qab (qb9 (qab (qak (qbM K) [] E0 (qab (qag 1) (qab (qak (qbr K) [] E0 (qab (qb9 (qab (qb9 (qab (tC (.int 1)) (qab (tC (.int 1)) qal))) qal)) (qab (qag 9) qal))) qal))) (qab (qag 5) qal))) qal)))
noncomputable def qeV:TS:=
 (qaF (qgL (tBM K "list" qe5 (qag 6) (qab (qb9 (qab (qag 1) (qab (qak (qbX K) [] E0 (qab (tOp qrT (qag 10) (qcR (qab (qb9 (qab (qag 8) (qab (qak (qaS K) [] E0 (qab (qag 9) (qab (qag 4) qal))) qal))) qal))) qal)) qal))) qal)))
  (qeU K))
noncomputable def qeW:TS:=
 (qaF (qgL (tBM K "list" qhw (qag 6) (qab (qcR (qab (qb9 (qab (qag 1) (qab (qak (qbX K) [] E0 (qab (qag 10) qal)) qal))) (qab (qb9 (qab (qag 1) (qab (qak (qbX K) [] E0 (qab (tOp qrT (qag 10) (qcR (qab (qb9 (qab (qak (qhM K) [] E0 (qab (qag 8) (qab (qag 3) qal))) (qab (qag 9) qal))) qal))) qal)) qal))) qal))) qal)))
  (qeV K))
noncomputable def qiG:TS:=
 (qaF (qaM (tOp qrT (tSl sL (qag 2) qc5 (qhv (qag 7))) (tSl sL (qag 2) (qhv (tOp qhC (qag 7) (tC (.int 1)))) qc5)) (qai 10))
  (qeW K))
noncomputable def qiH:TS:=
 (qaF (qaM (tOp gL (qag 2) (qag 7)) (qf5 2 (qcJ (qai 8) (qcJ (qai 9) qnY))))
  (qiG K))
noncomputable def qiI:TS:=
 (qaF (qaM (qak (qbf K) [] E0 (qab (qag 0) (qab (tCB qce (qab (qag 2) qal)) qal))) (qai 7))
  (qiH K))
noncomputable def qhZ (_:W.Frag):TS:=
 (qbz (qag 6))
noncomputable def qmu:TS:=
 (qaF (qd5 (qa2 (tOp neD (qag 2) (qcR qal))) (qiI K) qbN)
  (qhZ K))
noncomputable def qmv:TS:=
 (qaF (qaM (qcR (qab (qb9 (qab (qak (qbM K) [] E0 (qab (qag 1) (qab (qak (qdD K) [] E0 (qab (qb9 (qab (qb9 (qab (tC (.int 0)) (qab (tC (.int 1)) qal))) (qab (qag 3) qal))) qal)) qal))) (qab (qag 5) qal))) (qab (qb9 (qab (qag 1) (qab (qak (qbX K) [] E0 (qab (tOp qrT (qag 2) (qcR (qab (qb9 (qab (qag 3) (qab (qag 4) qal))) qal))) qal)) qal))) qal))) (qai 6))
  (qmu K))
noncomputable def qmw:TS:=
 (qaF (qaM (qak (qbX K) [] E0 (qab (qag 2) qal)) (qai 5))
  (qmv K))
noncomputable def qmx:TS:=
 (qaF (qaM (qak (qbe K) [] E0 (qab (qcR (qab (tUn qew (tC (.int 7))) (qab (tC (.int 1)) qal))) qal)) (qai 4))
  (qmw K))
noncomputable def qqF:TS:=
 (qaF (qaM (qak (qct K) [] E0 (qab (qag 0) qal)) (qai 3))
  (qmx K))
noncomputable def qsG (_:W.Frag):TS:=
 (qbz (tC (.bl true)))
noncomputable def qsH:TS:=
 (qaF (qe4 (qht (qab (tC (.int 3)) qal)) (qai 9) (qd5 (qa2 (tOp qsn (qak (qbQ K) [] E0 (qab (qag 7) (qab (tOp gL (qag 8) (qak (qbf K) [] E0 (qab (qag 1) (qab (tCB qce (qab (qag 8) qal)) qal)))) qal))) (tC (.bl false)))) (qbz (tC (.bl false))) qbN))
  (qsG K))
noncomputable def quD:TS:=
 (qaF (qaM (qak (qeC K) [] E0 (qab (qag 1) (qab (qag 4) (qab (qag 5) qal)))) (qai 8))
  (qsH K))
noncomputable def quE:TS:=
 (qaF (qd5 (qa2 (tOp qsn (qak (qbQ K) [] E0 (qab (qag 7) (qab (qb9 (qab (qak (qbM K) [] E0 (qab (qag 4) (qab (qak (qdS K) [] E0 (qab (qak (qb3 K) [] E0 (qab (qag 1) qal)) qal)) qal))) (qab (qag 6) qal))) qal))) (tC (.bl true)))) (qbz (tC (.bl false))) qbN)
  (quD K))
noncomputable def quF:TS:=
 (qaF (qd5 (qa2 (tOp qsn (qak (qbQ K) [] E0 (qab (qag 7) (qab (qb9 (qab (qag 4) (qab (qag 6) qal))) qal))) (tC (.bl true)))) (qbz (tC (.bl false))) qbN)
  (quE K))
noncomputable def quG:TS:=
 (qaF (qaM (qak (qbM K) [] E0 (qab (qak (qc1 K) [] E0 (qab (qag 4) qal)) (qab (qak (qbr K) [] E0 (qab (qak (qhh K) [] E0 (qab (qag 2) qal)) (qab (qak (qcA K) [] E0 (qab (qag 3) qal)) qal))) qal))) (qai 7))
  (quF K))
noncomputable def quH:TS:=
 (qaF (qaM (qak (qbX K) [] E0 (qab (qag 5) qal)) (qai 6))
  (quG K))
noncomputable def quI:TS:=
 (qaF (qaM (qbT (qcc K (qag 2)) [none,none,none] (qf5 3 (qcJ (qai 0) (qcJ (qai 1) (qcJ (qai 2) qnY)))) (qb9 (qab (qag 1) (qab (qag 0) qal)))) (qai 5))
  (quH K))
noncomputable def quJ:TS:=
 (qaF (qaM (qak (qcV K) [] E0 (qab (qag 1) (qab (qag 3) qal))) (qai 4))
  (quI K))
noncomputable def quK:TS:=
 (qaF (qaM (qbT (qcc K (qag 2)) [none] (qai 0) (tOp gT (qag 0) (tC (.int 0)))) (qai 3))
  (quJ K))
noncomputable def quL:TS:=
 (qaF (qaM (qak (qdT K) [] E0 (qab (qag 1) (qab (qak (qbf K) [] E0 (qab (qag 1) (qab (tC (.int 4)) qal))) (qab (tC (.int 4)) (qab (tC (.int 1)) qal))))) (qai 2))
  (quK K))
noncomputable def qw8:TS:=
 (qaF (qaM (qak (qeB K) [] E0 (qab (qag 0) qal)) (qai 1))
  (quL K))
end
end Bs
namespace Bs
open PySem L2
theorem quM {K:W.Frag} {H:Hp} {Q:VK} {E:XK} {a:Int} {b:Int} (h1:b≠0) (h2:∀ (p:Addr),H p=none->Q (.ref p) (upd H p (.tup [.int (qcN a b).1,.int (qcN a b).2]))):qbP K [.int a,.int b] H Q E:=⟨a,b,rfl,h1,h2⟩
theorem qjQ {K:W.Frag} {H:Hp} {Q:VK} {E:XK} {p:Addr} {q:Addr} {xs:List V} {ys:List V} {l:List Nu} {m:List Nu} {b:Nat} {c:Nat} {e:Nat} {d:Nat} {N:Nat} (h1:H p=some (.tup xs)) (h2:H q=some (.tup ys)) (h3:Nums H xs l) (h4:Nums H ys m) (h5:Gq b c l) (h6:Gq b c m) (h7:b<=200000) (h8:c<=200000) (h9:l.length<=60) (h10:m.length<=60) (h11:(l≠[]->m≠[]->Fp e (qa1 l)/\Fp e (qa1 m))) (h12:l.length+m.length<2 ^ (d+1)) (h13:l.length+m.length<=N+2) (h14:2<=N) (h15:(e+d+2)*N<=44490) (h16:(l=[]->m=[]->qtB H Q [])) (h17:((l≠[]\/m≠[])->∀ g,RC (co (qa1 l)) (co (qa1 m)) g->Prim g->qtB H Q (mnc g))):qbW K [.ref p,.ref q] H Q E:=⟨p,q,xs,ys,l,m,b,c,e,d,N,rfl,h1,h2,h3,h4,h5,h6,h7,h8,h9,h10,h11,h12,h13,h14,h15,h16,h17⟩
theorem qdF {K:W.Frag} {H:Hp} {Q:VK} {E:XK} {p:Addr} {q:Addr} {xs:List V} {ys:List V} {l:List Nu} {m:List Nu} {b:Nat} {c:Nat} {d:Nat} {e:Nat} (h1:H p=some (.tup xs)) (h2:H q=some (.tup ys)) (h3:Nums H xs l) (h4:Nums H ys m) (h5:Gq b c l) (h6:Gq d e m) (h7:l.length<=100) (h8:m.length<=100) (h9:b<=300000) (h10:c<=300000) (h11:d<=300000) (h12:e<=300000) (h13:∀ (r:Addr) (R:List Nu) (H':Hp),Same H H'->Pl H' r R->Gq (b+d+l.length) (c+e) R->R.length<=l.length+m.length - 1->(∀ k,pwo R k=cv (pwo l) (pwo m) l.length k)->Q (.ref r) H'):qaS K [.ref p,.ref q] H Q E:=⟨p,q,xs,ys,l,m,b,c,d,e,rfl,h1,h2,h3,h4,h5,h6,h7,h8,h9,h10,h11,h12,h13⟩
theorem qc2 {K:W.Frag} {H:Hp} {Q:VK} {E:XK} {p:Addr} {q:Addr} {xs:List V} {ys:List V} {l:List Nu} {m:List Nu} {b:Nat} {c:Nat} {d:Nat} {e:Nat} (h1:H p=some (.tup xs)) (h2:H q=some (.tup ys)) (h3:Nums H xs l) (h4:Nums H ys m) (h5:Gq b c l) (h6:Gq d e m) (h7:m≠[]) (h8:l.length<=100) (h9:m.length<=100) (h10:c+(l.length+1 - m.length)*d<=400000) (h11:b+(l.length+1 - m.length)*(d+1)+e<=900000) (h12:e<=400000) (h13:d<=400000) (h14:MR (pwo m) (pwo l)) (h15:∀ (r:Addr) (R:List Nu) (H':Hp),Same H H'->Pl H' r R->qap R->Nz R->R.length<=l.length+1 - m.length->(∀ k,pwo l k=cv (pwo R) (pwo m) R.length k)->Q (.ref r) H'):qaV K [.ref p,.ref q] H Q E:=⟨p,q,xs,ys,l,m,b,c,d,e,rfl,h1,h2,h3,h4,h5,h6,h7,h8,h9,h10,h11,h12,h13,h14,h15⟩
theorem qxE {f:Nu->Nu->Nu} {s:Rat} {K:W.Frag} {H:Hp} {Q:VK} {E:XK} {p:Addr} {q:Addr} {xs:List V} {ys:List V} {l:List Nu} {m:List Nu} {M:Int} {b:Nat} {c:Nat} (h1:H p=some (.tup xs)) (h2:H q=some (.tup ys)) (h3:Nums H xs l) (h4:Nums H ys m) (h5:qap l) (h6:qap m) (h7:Ov l M) (h8:Ov m M) (h9:Bd c M) (h10:(∀ z∈ovN l M,Bd b z)) (h11:(∀ z∈ovN m M,Bd b z)) (h12:b<=300000) (h13:c<=300000) (h14:l.length<=100) (h15:m.length<=100) (h16:∀ (r:Addr) (R:List Nu) (H':Hp),Same H H'->Pl H' r R->Gq (b+1) c R->R.length<=max l.length m.length->(∀ k,pwo R k=pwo l k+s*pwo m k)->Q (.ref r) H'):qqv f s K [.ref p,.ref q] H Q E:=⟨p,q,xs,ys,l,m,M,b,c,rfl,h1,h2,h3,h4,h5,h6,h7,h8,h9,h10,h11,h12,h13,h14,h15,h16⟩
theorem qlj {K:W.Frag} {H:Hp} {Q:VK} {E:XK} {p:Addr} {xs:List V} {l:List Nu} {b:Nat} {c:Nat} (h1:H p=some (.tup xs)) (h2:Nums H xs l) (h3:Gq b c l) (h4:l.length<=31) (h5:b<=200000) (h6:c<=200000) (h7:∀ (r:Addr) (R:List Nu) (H':Hp),Same H H'->Pl H' r R->Gq (b+5) c R->R.length=l.length - 1->(∀ k,pwo R k=dv (pwo l) k)->Q (.ref r) H'):qbx K [.ref p] H Q E:=⟨p,xs,l,b,c,rfl,h1,h2,h3,h4,h5,h6,h7⟩
theorem qcx {K:W.Frag} {H:Hp} {Q:VK} {E:XK} {p:Addr} {a:Addr} {m:Int} {n:Int} (h1:Stt H p a n) (h2:n<=100000) (h3:1<=m) (h4:m<=100) (h5:∀ (d:Int) (H':Hp),0<=d->d<m->Stt H' p a (n+1)->Kpa p a H H'->Q (.int d) H'):qbf K [.ref p,.int m] H Q E:=⟨p,a,m,n,rfl,h1,h2,h3,h4,h5⟩
theorem qga {K:W.Frag} {H:Hp} {Q:VK} {E:XK} {p:Addr} {a:Addr} {n:Int} (h1:Stt H p a n) (h2:n<=90000) (h3:∀ (r:Addr) (t d:Int) (H':Hp),Nm H' r t d->Low t d->t.natAbs<=4036->d<=3->Stt H' p a (n+3)->Kpa p a H H'->Q (.ref r) H'):qb3 K [.ref p] H Q E:=⟨p,a,n,rfl,h1,h2,h3⟩
theorem qlk {K:W.Frag} {H:Hp} {Q:VK} {E:XK} {p:Addr} {a:Addr} {n:Int} (h1:Stt H p a n) (h2:n<=90000) (h3:∀ (r:Addr) (t d:Int) (H':Hp),Nm H' r t d->Low t d->t≠0->t.natAbs<=4036->d<=3->Stt H' p a (n+3)->Kpa p a H H'->Q (.ref r) H'):qct K [.ref p] H Q E:=⟨p,a,n,rfl,h1,h2,h3⟩
end Bs
namespace Bs
open PySem L2
variable {K:W.Frag} {vs:List V} {H:Hp} {Q:VK} {E:XK}
local macro_rules | `(tactic| rwa [$[$t:term],*]) => do
 let l : Array Lean.Term := (("qaF qaM qak qab qag qal qai qrS L2.start qd5 tIf qa2 L2.tB tOp rI0 rI L2.tC tUn rU qbN qbz qb9 qcR qxs qpb qgL tCB qtk qo3 tOr qvl qvu qxr qvv rEq rNe qgM qhC qfj qdL qob qvI qlS qui qxw iLt iLe iGt iGe qew gT gL gS qvm qtm qxx qvJ qfo qce qvK qxy qpG qgt qtn eqT qpH qpI qto qtp List.map_cons List.map_nil List.length_cons List.length_nil List.replicate List.cons_append List.nil_append List.append_nil List.getElem?_cons_zero List.getElem?_cons_succ Option.some.injEq exists_eq_left' exists_eq_left V.int.injEq V.bl.injEq V.ref.injEq V.ty.injEq HO.tup.injEq HO.lst.injEq List.cons.injEq and_true true_and and_assoc exists_and_left List.set_cons_zero List.set_cons_succ decide_eq_true_eq decide_eq_false_iff_not Bool.not_eq_true' Bool.true_eq_false Bool.false_eq_true Bool.not_true Bool.not_false if_true if_false ite_true ite_false qpJ qpK qna qnb qiU qiV qiW qiX qiY Nat.zero_add Nat.reduceAdd Nat.reduceSub upd_same Int.cast_ofNat_Int decide_true decide_false eq_self not_true_eq_false not_false_eq_true Int.natCast_add Int.natCast_zero reduceCtorEq Nm qf5 qcJ qnY qlU tSl qc5 qhv sL sT ql7 qtq qkN qhF qvO qtl qrT qe5 qhw qxu tBM qxt qnc qnd qpO qpP qnf qp1 qng qpQ qpR qpY qpZ qsh quk qsi qwO quj qjw qgP qwX qvP qc6 Option.bind_some Option.bind_none Option.bind Option.join id_eq sS qvS qvU qaH qdz qbc qcr qbD qb1 qb2 qaQ qaX qbF qa7 qbd qbu qbn qa4 qbv qbG qbj qcZ qa5 qbO qbP qcs qbw qbA qbW qk1 qc0 qf9 qb6 qaS qbq qaV qbo qqv qdB qbx qbr".splitOn " ").map λs => (⟨(Lean.mkIdent s.toName).raw⟩ : Lean.Term)).toArray
 `(tactic| simp only [$[$(l ++ t):term],*])
theorem qel {a b:Int} (ha:Bd 60000000 a) (hb:Bd 60000000 b):IntMulOk a b:=qvT ha hb ∅
theorem qgb (h:qaH K vs H Q E):qd0 K { nx:=λ_ H'=>Q .non H',rt:=Q } (L2.start ["one","other","rest"] vs) H:=by
 obtain ⟨a,b,rfl,q⟩:=h
 unfold qd0
 rwa []
 refine while_by (λm σ H'=>∃ (x y:Int) (r:Option V),σ=[some (.int x),some (.int y),r]/\H'=H/\Int.gcd x y=Int.gcd a b/\m=y.natAbs) b.natAbs ⟨a,b,none,rfl,rfl,rfl,rfl⟩ ?_
 rintro m σ H' ⟨x,y,r,rfl,rfl,hg,rfl⟩
 rwa []
 refine qck (λc=>?_) (λc=>?_)
 ·refine ⟨λσ' H''=>∃ m',m'<y.natAbs/\_,λ_ _ h=>h,?_⟩
  refine ⟨c,_,qpF x c,y,x.fmod y,_,rfl,rfl,?_,rfl⟩
  rw [qm8];exact hg
 ·have y0:y=0:=Decidable.not_not.mp c
  subst y0
  have e:(if x<0 then -x else x)=((Int.gcd a b:Nat):Int):=by
   rw [<-hg,Int.gcd_zero_right];split <;> omega
  rw [e];exact q
theorem qqG (h:qdz K vs H Q E):qnu K { nx:=λ_ H'=>Q .non H',rt:=Q } (L2.start ["whole","n","result","square"] vs) H:=by
 obtain ⟨x,n,b,rfl,n0,bx,hb,q⟩:=h
 unfold qnu
 rwa []
 have BP:∀ k:Nat,k<=n.toNat->Bd 60000000 (x ^ k):=λk hk=>(bx.pow k).mono (by
  have:=wbt b hk
  omega)
 refine while_by (λm σ H'=>∃ r s:Nat,σ=[some (.int x),some (.int (m:Int)),some (.int (x ^ r)),some (.int (x ^ s))]/\H'=H/\r+s*m=n.toNat) n.toNat ⟨0,1,?_,rfl,⋯⟩ ?_
 ·have e:((n.toNat:Nat):Int)=n:=by omega
  rw [e,Int.pow_zero,show x ^ 1=x by rw [Int.pow_succ,Int.pow_zero,Int.one_mul]]
 rintro m σ H' ⟨r,s,rfl,rfl,hm⟩
 rwa []
 refine qck (λc=>?_) (λc=>?_)
 ·have m1:1<=m:=by omega
  have sl:s<=s*m:=Nat.le_mul_of_pos_right s m1
  have d2:qwV (m:Int) 2:=⟨∅,(qxv ∅ ∅).mono ∅⟩
  have hm2:s*m=(s+s)*(m / 2)+s*(m % 2):=by
   have e:m=2*(m / 2)+m % 2:=(Nat.div_add_mod m 2).symm
   generalize m / 2=u at e ⊢
   generalize m % 2=v at e ⊢
   subst e
   rw [Nat.mul_add]
   congr 1
   rw [<-Nat.mul_assoc,wbm s 2]
   congr 1
   omega
  have ed:((m:Int) / 2)=((m / 2:Nat):Int):=by omega
  rw [ed]
  refine ⟨λσ' H''=>∃ m',m'<m/\_,λ_ _ h=>h,?_⟩
  have fin:∀ r':Nat,r'+(s+s)*(m / 2)=n.toNat->qwV (m:Int) 2/\if 0<((m / 2:Nat):Int) then IntMulOk (x ^ s) (x ^ s)/\∃ m',m'<m/\∃ r s_1,[some (V.int x),some (V.int ((m / 2:Nat):Int)),some (V.int (x ^ r')),some (V.int (x ^ s*x ^ s))]=[some (V.int x),some (V.int (m':Int)),some (V.int (x ^ r)),some (V.int (x ^ s_1))]/\H'=H'/\r+s_1*m'=n.toNat
    else ∃ m',m'<m/\∃ r s_1,[some (V.int x),some (V.int ((m / 2:Nat):Int)),some (V.int (x ^ r')),some (V.int (x ^ s))]=[some (V.int x),some (V.int (m':Int)),some (V.int (x ^ r)),some (V.int (x ^ s_1))]/\H'=H'/\r+s_1*m'=n.toNat:=λr' hr'=>by
   refine ⟨d2,qck (λc2=>?_) (λc2=>?_)⟩
   ·exact ⟨qel (BP s ⋯) (BP s ⋯),m / 2,⋯,r',s+s,by rw [Int.pow_add],rfl,hr'⟩
   ·have z:m / 2=0:=by omega
    rw [z] at hr' ⊢
    exact ⟨0,⋯,r',s,rfl,rfl,⋯⟩
  refine ⟨∅,qck (λc2=>⟨qel (BP r ⋯) (BP s ⋯),?_⟩) (λc2=>?_)⟩
  ·rw [<-Int.pow_add]
   have e1:m % 2=1:=by omega
   rw [e1] at hm2
   exact fin (r+s) ⋯
  ·have e1:m % 2=0:=by omega
   rw [e1] at hm2
   exact fin r ⋯
 ·have z:m=0:=by omega
  subst z
  have e:r=n.toNat:=by omega
  subst e
  exact q
theorem qny {H:Hp} {Q:VK} {xs:List V} {l:List Nu} {m:Nat} (hN:Nums H xs l) (hm:m<=l.length) (e:qcl l l.length=m) (q:qtB H Q (trim l)) :
  ∀ (p:Addr),H p=none->∀ (r:Addr),upd H p (.lst (qg4 xs none (some (m:Int)))) r=none->Q (V.ref r) (upd (upd H p (.lst (qg4 xs none (some (m:Int))))) r (.tup (qg4 xs none (some (m:Int))))):=λp hp r hr=>by
 have s:=(qaf hp (.lst (qg4 xs none (some (m:Int))))).trans (qaf hr (.tup (qg4 xs none (some (m:Int)))))
 refine q r _ _ s upd_same ?_
 rw [qfv (by rw [hN.length];exact hm)]
 rw [qfv (by rw [hN.length];exact hm)] at s
 unfold trim
 rw [e]
 exact (hN.take m).tp (tpS s)
theorem qoy (l:List Nu) (m:Nat):qcl l (m+1)=if (l.getD m (1,1)).1=0 then qcl l m else m+1:=rfl
theorem quN (h:qcs K vs H Q E):qtK K { nx:=λ_ H'=>Q .non H',rt:=Q } (L2.start ["row","many"] vs) H:=by
 obtain ⟨p,xs,l,rfl,hp,hN,hl,q⟩:=h
 unfold qtK
 rwa [hp]
 have lx:=hN.length
 refine while_by (λm σ H'=>σ=[some (.ref p),some (.int (m:Int))]/\H'=H/\qcl l m=qcl l l.length/\m<=l.length) xs.length ⟨rfl,rfl,by rw [lx],⋯⟩ ?_
 rintro m σ H' ⟨rfl,rfl,ht,hm⟩
 rwa [hp]
 refine qck (λc=>?_) (λc=>?_)
 ·obtain ⟨k,rfl⟩:∃ k,m=k+1:=⟨m - 1,⋯⟩
  obtain ⟨v,hv,p1,rfl,hp1⟩:=hN.at (i:=k) ⋯ (1,1)
  rw [qoy] at ht
  refine ⟨_,qcg ⋯ hv,p1,rfl,_,hp1,_,rfl,rfl,qck (λc2=>?_) (λc2=>?_)⟩
  ·have z:(l.getD k (1,1)).1=0:=by injection c2
   rw [if_pos z] at ht
   exact ⟨λσ' H''=>∃ m',m'<k+1/\_,λ_ _ h=>h,k,⋯,by rw [show ((k+1:Nat):Int) - 1=(k:Int) by omega],rfl,ht,⋯⟩
  ·have z:(l.getD k (1,1)).1≠0:=λz=>c2 (by rw [z])
   rw [if_neg z] at ht
   exact qny hN hm ht.symm q
 ·have z:m=0:=by omega
  subst z
  exact qny hN hm ht.symm q
theorem qsI {l:List Nu} {i:Nat} {q:Nu} (h:l[i]?=some q):(l.take (i+1)).foldl (λB q=>B*(q.2 / ((Int.gcd B q.2:Nat):Int))) 1=(l.take i).foldl (λB q=>B*(q.2 / ((Int.gcd B q.2:Nat):Int))) 1*(q.2 / ((Int.gcd ((l.take i).foldl (λB q=>B*(q.2 / ((Int.gcd B q.2:Nat):Int))) 1) q.2:Nat):Int)):=by
 rw [List.take_add_one,h,List.foldl_append]
 rfl
theorem qbR {α β:Type} {l:List α} {i:Nat} {q:α} (f:α->β) (h:l[i]?=some q):(l.take (i+1)).map f=(l.take i).map f++[f q]:=by
 rw [List.take_add_one,h,wbj]
 rfl
theorem qqH (a b:Nat):(if (b:Int) > (a:Int) then (b:Int) else (a:Int)).toNat=max a b:=by split <;> omega
theorem qdv {β:Type} (f:Nat->β) (i:Nat):(List.range (i+1)).map f=(List.range i).map f++[f i]:=by rw [List.range_succ,wbj];rfl
theorem qbS (n:Nat) (f:Nat->Int):(qcU n f).length=n:=by unfold qcU;rw [waa,waa,wal]
theorem qbH {n k:Nat} (f:Nat->Int) (h:k<n):(qcU n f)[k]?=some (.int (f k)):=by
 unfold qcU
 rw [waf,waf,wbk h]
 rfl
theorem qeD {n k:Nat} {f g:Nat->Int} {z:Int} (h:k<n) (h1:g k=z) (h2:∀ i,i<n->i≠k->g i=f i):(qcU n f).set k (.int z)=qcU n g:=by
 apply List.ext_getElem?
 intro i
 by_cases hi:i<n
 ·by_cases e:i=k
  ·subst e
   rw [List.getElem?_set_self (by rw [qbS];exact hi),qbH g hi,h1]
  ·rw [List.getElem?_set_ne (λz=>e z.symm),qbH f hi,qbH g hi,h2 i hi e]
 ·rw [wax (by rw [List.length_set,qbS];omega),wax (by rw [qbS];omega)]
theorem qdG {n:Nat} {f g:Nat->Int} (h:∀ i,i<n->g i=f i):qcU n f=qcU n g:=by
 apply List.ext_getElem?
 intro i
 by_cases hi:i<n
 ·rw [qbH f hi,qbH g hi,h i hi]
 ·rw [wax (by rw [qbS];omega),wax (by rw [qbS];omega)]
theorem qjR (n:Nat):(List.replicate n [V.int 0]).flatten=qcU n λ_=>0:=by
 rw [qhd]
 apply List.ext_getElem?
 intro i
 by_cases hi:i<n
 ·rw [qbH _ hi,wb4,if_pos hi]
 ·rw [wb4,if_neg hi,wax (by rw [qbS];omega)]
theorem qfM {n k:Nat} {i:Int} (e:i=(k:Int)) (h:k<n):ixN n i=some k:=by
 subst e
 unfold ixN
 rw [if_pos ⋯,if_pos ⋯]
 simp
theorem qoz {α:Type} {n k:Nat} (f:Nat->α) (h:k<n):((List.range n).map f)[k]?=some (f k):=by
 rw [waf,wbk h];rfl
theorem Pl.same {H H':Hp} {r:Addr} {L:List Nu} (h:Pl H r L) (s:Same H H'):Pl H' r L:=let ⟨zs,a,b⟩:=h;⟨zs,s _ _ a,b.tp (tpS s)⟩
theorem Pl.tp {H H':Hp} {r:Addr} {L:List Nu} (h:Pl H r L) (s:Tp H H'):Pl H' r L:=let ⟨zs,a,b⟩:=h;⟨zs,s _ _ a,b.tp s⟩
theorem Pl.rep {H:Hp} {r:Addr} {L:List Nu} (h:Pl H r L):RepD H (.ref r) (qiu L):=let ⟨_,a,b⟩:=h;qtD a b
theorem qxF {m n:Nat} {x y:Int} (hx:Bd m x) (hy:Bd n y) (hm:m<=60000000:=by decide) (hn:n<=60000000:=by decide):IntMulOk x y:=qel (hx.mono hm) (hy.mono hn)
theorem qda (ns:List Int) (m:Nat):qcQ ns (m+1)=if ns.getD m 1=0 then qcQ ns m else m+1:=rfl
theorem qiJ (h:qbc K vs H Q E):qfA K { nx:=λ_ H'=>Q .non H',rt:=Q } (L2.start ["row","many"] vs) H:=by
 obtain ⟨p,ns,rfl,hp,q⟩:=h
 unfold qfA
 rwa [hp]
 have fin:∀ m:Nat,m<=ns.length->qcQ ns m=qcQ ns ns.length->qcQ ns m=m->∀ r,H r=none->Q (V.ref r) (upd H r (.lst (qg4 (ns.map V.int) none (some (m:Int))))):=λm h1 h2 h3 r hr=>by
  rw [qfv (by rw [waa];exact h1),<-List.map_take,<-h3,h2]
  exact q r hr
 refine while_by (λm σ H'=>σ=[some (.ref p),some (.int (m:Int))]/\H'=H/\qcQ ns m=qcQ ns ns.length/\m<=ns.length) ns.length ⟨by rw [waa],rfl,rfl,wac _⟩ ?_
 rintro m σ H' ⟨rfl,rfl,ht,hm⟩
 rwa [hp]
 refine qck (λc=>?_) (λc=>?_)
 ·obtain ⟨k,rfl⟩:∃ k,m=k+1:=⟨m - 1,⋯⟩
  have hv:(ns.map V.int)[k]?=some (V.int (ns.getD k 1)):=by
   rw [waf,wah ⋯,wab,wah ⋯];rfl
  refine ⟨_,qcg ⋯ hv,rfl,qck (λc2=>?_) (λc2=>?_)⟩
  ·have z:ns.getD k 1=0:=by injection c2
   rw [qda,if_pos z] at ht
   exact ⟨λσ' H''=>∃ m',m'<k+1/\_,λ_ _ h=>h,k,⋯,by rw [show ((k+1:Nat):Int) - 1=(k:Int) by omega],rfl,ht,⋯⟩
  ·have z:ns.getD k 1≠0:=λz=>c2 (by rw [z])
   exact fin (k+1) hm ht (by rw [qda,if_neg z])
 ·have z:m=0:=by omega
  subst z
  exact fin 0 hm ht rfl
theorem qh0 (ns:List Int):∀ m,qcQ ns m<=m
 | 0=>wac 0
 | m+1=>by
   rw [qda]
   split
   ·exact Nat.le_succ_of_le (qh0 ns m)
   ·exact wac _
theorem qh1 {ns:List Int}:(qed ns).length=qcQ ns ns.length:=by
 unfold qed
 rw [waw,Nat.min_eq_left (qh0 ns ns.length)]
theorem qll {ns:List Int} (k:Nat):(qed ns).getD k 0=ns.getD k 0:=by
 have key:∀ (m:Nat),m<=ns.length->(∀ j,m<=j->j<ns.length->ns.getD j 0=0)->∀ j,qcQ ns m<=j->j<ns.length->ns.getD j 0=0:=by
  intro m
  induction m with
  | zero=>intro _ h j hj1 hj2;exact h j ⋯ hj2
  | succ m ih=>
    intro hm h j h1 h2
    rw [qda] at h1
    split at h1
    ·rename_i z
     refine ih ⋯ (λj hj1 hj2=>?_) j h1 h2
     by_cases e:j=m
     ·subst e
      rw [wab,wah hj2] at z ⊢
      exact z
     ·exact h j ⋯ hj2
    ·exact h j h1 h2
 by_cases h1:k<qcQ ns ns.length
 ·unfold qed
  rw [wab,wab,List.getElem?_take_of_lt h1]
 ·have e:(qed ns).getD k 0=0:=by
   rw [wab,wax (by rw [qh1];omega)]
   rfl
  rw [e]
  by_cases h2:k<ns.length
  ·exact (key ns.length (wac _) (λj a b=>absurd b ⋯) k ⋯ h2).symm
  ·rw [wab,wax ⋯]
   rfl
theorem qqI {n:Nat} {z g:Int} (h:g∣z) (b:Bd n z):Bd n (z / g):=by
 by_cases hz:z=0
 ·rw [hz,Int.zero_ediv];exact qbU n
 ·exact qdh hz (Int.ediv_dvd_of_dvd h) b
theorem qnz {z g:Int} (hg:g≠0) (h:g∣z):((z / g:Int):Rat)=(z:Rat) / (g:Rat):=by
 obtain ⟨y,rfl⟩:=h
 rw [wcd _ hg]
 have:=qaI hg
 push_cast
 grind
theorem qnA {ns:List Int} {g:Int} (h:∀ z∈ns,g∣z) (k:Nat):g∣ns.getD k 0:=by
 rw [wab]
 cases e:ns[k]? with
 | none=>exact wbd g
 | some z=>exact h z (wan e)
theorem qmy {m:List Nu} (hm:qap m) (nm:Nz m) (h1:1<=m.length):(qa1 m).getD (m.length - 1) 0≠0:=by
 rw [qjC,qql]
 have hb:m.length - 1<m.length:=by omega
 have q:=nm m[m.length - 1] (by rw [wca];exact wah hb)
 have e:qa3 m (m.length - 1)=m[m.length - 1]:=by unfold qa3;rw [wab,wah hb];rfl
 rw [e]
 refine was q ?_
 have o:=qbi hm
 have d:=o.2 m[m.length - 1] (wb0 hb)
 obtain ⟨y,hy⟩:=d
 have p0:=(hm m[m.length - 1] (wb0 hb)).pos
 rw [hy,wcd _ (wad p0)]
 intro z
 rw [z,Int.mul_zero] at hy
 have:=o.1
 omega
theorem atI_last {xs:List V} {v:V} (h:1<=xs.length) (e:xs[xs.length - 1]?=some v):atI xs (-1)=some v:=by
 unfold atI ixN
 rw [if_neg ∅,if_pos ⋯,show (-1+(xs.length:Int)).toNat=xs.length - 1 by omega]
 exact e
theorem qhi {n m:Int} (h:0<m):qcN n m=red n m:=by unfold qcN;rw [if_neg ⋯]
theorem qsJ (h:qbP K vs H Q E):qqw K { nx:=λ_ H'=>Q .non H',rt:=Q } (L2.start ["top","bottom","shared"] vs) H:=by
 obtain ⟨a,b,rfl,hb,q⟩:=h
 unfold qqw
 rwa []
 have go:∀ s:Int,(s=if b<0 then -((Int.gcd a b:Nat):Int) else ((Int.gcd a b:Nat):Int))->qvP a s/\qvP b s/\2<=sizeLine/\∀ (p:Addr),H p=none->Q (V.ref p) (upd H p (.tup [.int (a.fdiv s),.int (b.fdiv s)])):=λs hs=>by
  obtain ⟨h1,h2,h3,h4,h5,h6⟩:=qf2 hb hs
  have e:qcN a b=(a.fdiv s,b.fdiv s):=by
   refine qe7 (qdO hb) h3 ?_
   rw [qey hb,qhH (q:=(a.fdiv s,b.fdiv s)) (wad h3.pos) hb h4]
  rw [e] at q
  exact ⟨h1,h1,sz ∅,q⟩
 refine qck (λc=>?_) (λc=>?_)
 ·exact go _ (by rw [if_pos c])
 ·exact go _ (by rw [if_neg c])
theorem qoA (h:qbw K vs H Q E):qk7 K { nx:=λ_ H'=>Q .non H',rt:=Q } (L2.start ["P","bottom","number"] vs) H:=by
 obtain ⟨p,xs,l,M,rfl,hp,hN,hL,hO,bM,hB,hl,q⟩:=h
 unfold qk7
 rwa [hp]
 have lx:=hN.length
 have B0:=(qbi hL).1
 have BB:=qdh (wad hO.1) (qnm hL hO) bM
 have qb:∀ q∈l,Bd 400000 q.2:=λq hq=>qdh (wad hO.1) (hO.2 q hq) bM
 refine ⟨⟨_,SqT.of hp⟩,ForT.by (xs:=xs) (λi σ H'=>∃ x,σ=[some (.ref p),some (.int ((l.take i).foldl (λB q=>B*(q.2 / ((Int.gcd B q.2:Nat):Int))) 1)),x]/\H'=H) ⟨none,rfl,rfl⟩ ?_ ?_ ?_⟩
 ·rintro i σ H' _ ⟨x,rfl,rfl⟩
  exact hp
 ·rintro i x σ H' hi ⟨y,rfl,rfl⟩
  obtain ⟨z,hz,p1,rfl,hp1⟩:=hN.get hi
  have zl:=hL z (wan hz)
  have zb:=qb z (wan hz)
  obtain ⟨f1,f3⟩:=qjB (M:=M) (l.take i) 1 (λq hq=>⟨(hL q (List.mem_of_mem_take hq)).pos,hO.2 q (List.mem_of_mem_take hq)⟩) ∅ (Int.one_dvd M)
  have f4:=qdh (wad hO.1) f3 bM
  obtain ⟨s1,_,_,s4,s5,s6⟩:=qjz f1 zl.pos
  rwa [hp1]
  refine ⟨s5,qxF f4 (zb.le s4),?_,_,rfl⟩
  rw [qsI hz]
 ·rintro σ H' ⟨x,rfl,rfl⟩
  rw [lx,wa3]
  rwa [hp]
  refine ⟨⟨_,SqT.of hp⟩,CompJ.tup (xs:=xs) (λi ys H''=>i<=xs.length/\ys=((qa1 l).take i).map V.int/\H''=H') ⟨wae _,rfl,rfl⟩ ?_ ?_ ?_⟩
  ·rintro i ys H'' ⟨h1,rfl,rfl⟩
   refine ⟨h1,sz ?_,hp⟩
   rw [waa,waw];omega
  ·rintro i x ys H'' hi ⟨h1,rfl,rfl⟩
   obtain ⟨z,hz,p1,rfl,hp1⟩:=hN.get hi
   have zl:=hL z (wan hz)
   have zb:=qb z (wan hz)
   have zn:=hB z (wan hz)
   have hi2:i<xs.length:=(wap.mp hi).1
   rwa [hp1]
   have eB:l.foldl (λB q=>B*(q.2 / ((Int.gcd B q.2:Nat):Int))) 1=qbJ l:=rfl
   rw [eB]
   have cz:(qa1 l)[i]?=some (z.1*(qbJ l / z.2)):=by unfold qa1;rw [waf,hz];rfl
   refine ⟨zl.pos,qxF zn (BB.le (qit B0 zl.pos)),⋯,?_⟩
   rw [qbR V.int cz]
  ·rintro ys H'' ⟨_,rfl,rfl⟩ a ha
   refine ⟨sz ∅,λr hr=>?_⟩
   have e:(qa1 l).take xs.length=qa1 l:=by
    rw [lx,show l.length=(qa1 l).length by unfold qa1;rw [waa],wa3]
   rw [e] at hr ⊢
   have s:=(qaf ha (.lst ((qa1 l).map V.int))).trans (qaf hr (.tup [.ref a,.int (qbJ l)]))
   exact q r a _ s upd_same (qaf hr _ _ _ upd_same)
theorem qlm (h:qbA K vs H Q E):qhQ K { nx:=λ_ H'=>Q .non H',rt:=Q } (L2.start ["row","bottom"] vs) H:=by
 obtain ⟨p,ns,B,rfl,hp,hB,hl,q⟩:=h
 unfold qhQ
 rwa [hp]
 refine ⟨⟨_,SqL.of hp⟩,CompJ.lst (xs:=ns.map V.int) (λi ys H'=>i<=ns.length/\Same H H'/\Nums H' ys ((ns.take i).map λn=>qcN n B)) ⟨wae _,Same.refl H,trivial⟩ ?_ ?_ ?_⟩
 ·rintro i ys H' ⟨h1,s1,hN⟩
  refine ⟨by rw [waa];exact h1,sz ?_,SqL.of (s1 _ _ hp)⟩
  rw [hN.length,waa,waw];omega
 ·rintro i x ys H' hi ⟨h1,s1,hN⟩
  rw [waf] at hi
  cases e:ns[i]? with
  | none=>rw [e] at hi;cases hi
  | some n=>
    rw [e] at hi
    obtain rfl:V.int n=x:=Option.some.inj hi
    have hi2:i<ns.length:=(wap.mp e).1
    rwa []
    refine ⟨hB,λr hr=>⟨⋯,s1.trans (qaf hr _),?_⟩⟩
    rw [qbR _ e]
    exact (hN.tp (tpS (qaf hr _))).append (Nums.one qf8)
 ·rintro ys H' ⟨_,s1,hN⟩ a ha
  rw [waa,wa3] at hN
  have s2:=qaf ha (.lst ys)
  rwa []
  refine ⟨_,hN.tp (tpS s2),by rw [waa];exact hl,λr zs H'' s3 hr hz=>q r zs H'' ((s1.trans s2).trans s3) hr hz⟩
theorem qtL {b:Nat} {l:List Nu} {M:Int} (hl:qap l) (h:Ov l M) (hb:∀ z∈ovN l M,Bd b z):∀ q∈l,Bd b q.1:=λq hq=>by
 refine (hb (q.1*(M / q.2)) (wai.mpr ⟨q,hq,rfl⟩)).le ?_
 rw [war]
 obtain ⟨y,hy⟩:=h.2 q hq
 have p0:=(hl q hq).pos
 have m0:=h.1
 have:M / q.2=y:=by rw [hy,wcd _ (wad p0)]
 rw [this]
 refine Nat.le_mul_of_pos_right _ ?_
 rcases wbr y.natAbs with z | z
 ·have y0:y=0:=by omega
  rw [y0] at hy;omega
 ·exact z
theorem qh2 {g f:List Int} (lg:Lz g) (lf:Lz f) (mq:MQ (co g) (co f)):g.length<=f.length:=by
 obtain ⟨c,c0,A,hA⟩:=mq
 rcases waj f.length g.length with y | y
 ·exfalso
  rcases qgT A with z | ⟨B,lB,_,eB⟩
  ·have:c*co f (f.length - 1)=0:=by rw [hA,qbt,qcy g z]
   rcases Int.mul_eq_zero.mp this with e | e
   ·exact c0 e
   ·exact lf.2 e
  ·have hB:∀ k,c*co f k=cvL B (co g) k:=λk=>by rw [hA,qbt,qaq (λj=>(eB j).symm) g k,<-qbt]
   have b0:=lB.1
   have g0:=lg.1
   have ne:B≠[]:=waq.mp b0
   obtain ⟨X,t,hX⟩:∃ X t,B=X++[t]:=⟨B.dropLast,B.getLast ne,(wce ne).symm⟩
   have tl:X.length=B.length - 1:=by rw [hX];simp
   have tc:co B (B.length - 1)=t:=by rw [<-tl,hX];unfold co;simp [wab]
   have e:=hB (B.length - 1+(g.length - 1))
   rw [qaD ⋯,hX,qbl,<-hX,qcf (n:=g.length) (λi hi=>qaD hi) X _ ⋯] at e
   unfold upS at e
   rw [if_pos ⋯,show B.length - 1+(g.length - 1) - X.length=g.length - 1 by omega] at e
   have e2:t*co g (g.length - 1)=0:=by omega
   rcases Int.mul_eq_zero.mp e2 with x | x
   ·exact lB.2 (tc.trans x)
   ·exact lg.2 x
 ·exact y
theorem php:∀ (m n:Nat) (f:Nat->Nat),(∀ i,i<n->f i<m)->m<n->∃ i j,i<j/\j<n/\f i=f j
 | 0,n,f,h,hn=>absurd (h 0 hn) (Nat.not_lt_zero _)
 | m+1,n,f,h,hn=>by
   obtain ⟨n,rfl⟩:∃ k,n=k+1:=⟨n - 1,⋯⟩
   by_cases c:∃ i,i<n/\f i=f n
   ·obtain ⟨i,hi,e⟩:=c
    exact ⟨i,n,hi,⋯,e⟩
   ·have c:∀ i,i<n->f i≠f n:=λi hi e=>c ⟨i,hi,e⟩
    have hv:=h n ⋯
    obtain ⟨i,j,hij,hj,e⟩:=php m n (λi=>if f n<f i then f i - 1 else f i) (λi hi=>by
     have h1:=h i ⋯
     have h2:=c i hi
     show (if f n<f i then f i - 1 else f i)<m
     split <;> omega) ⋯
    refine ⟨i,j,hij,⋯,?_⟩
    have c1:=c i ⋯
    have c2:=c j hj
    have e:(if f n<f i then f i - 1 else f i)=(if f n<f j then f j - 1 else f j):=e
    split at e <;> split at e <;> omega
noncomputable def enc (M:Nat):Nat->(Nat->Nat)->Nat
 | 0,_=>0
 | N+1,e=>e 0+M*enc M N (λk=>e (k+1))
theorem qtM {M:Nat}:∀ (N:Nat) (e:Nat->Nat),(∀ k,k<N->e k<M)->enc M N e<M ^ N
 | 0,_,_=>Nat.one_pos
 | N+1,e,h=>by
   have h1:=qtM N (λk=>e (k+1)) (λk hk=>h (k+1) ⋯)
   have h0:=h 0 ⋯
   show e 0+M*enc M N (λk=>e (k+1))<M ^ (N+1)
   have h2:M*(enc M N (λk=>e (k+1))+1)<=M*M ^ N:=wbt M h1
   rw [wa6,wbm (M ^ N)]
   rw [Nat.mul_add,Nat.mul_one] at h2
   omega
theorem qnB {M a b x y:Nat} (ha:a<M) (hb:b<M) (h:a+M*x=b+M*y):a=b/\x=y:=by
 have h1:(a+M*x) % M=a:=by rw [Nat.add_mul_mod_self_left,Nat.mod_eq_of_lt ha]
 have h2:(b+M*y) % M=b:=by rw [Nat.add_mul_mod_self_left,Nat.mod_eq_of_lt hb]
 have e:a=b:=by rw [<-h1,h,h2]
 subst e
 exact ⟨rfl,Nat.eq_of_mul_eq_mul_left ⋯ (Nat.add_left_cancel h)⟩
theorem qqJ {M:Nat}:∀ (N:Nat) (e e':Nat->Nat),(∀ k,k<N->e k<M)->(∀ k,k<N->e' k<M)->enc M N e=enc M N e'->∀ k,k<N->e k=e' k
 | 0,_,_,_,_,_,k,hk=>absurd hk (Nat.not_lt_zero _)
 | N+1,e,e',h,h',q,k,hk=>by
   obtain ⟨q1,q2⟩:=qnB (h 0 ⋯) (h' 0 ⋯) q
   cases k with
   | zero=>exact q1
   | succ k=>exact qqJ N _ _ (λk hk=>h (k+1) ⋯) (λk hk=>h' (k+1) ⋯) q2 k ⋯
noncomputable def digs (p:Nat):Nat->Nat->List Int
 | 0,_=>[]
 | N+1,t=>((t % p:Nat):Int)::digs p N (t / p)
theorem qjS (p:Nat):∀ (N t:Nat),(digs p N t).length=N
 | 0,_=>rfl
 | N+1,t=>by show (digs p N (t / p)).length+1=N+1;rw [qjS p N]
theorem qmz {p:Nat} (p0:0<p):∀ (N t:Nat),∀ z∈digs p N t,0<=z/\z<(p:Int)
 | 0,_,z,h=>by cases h
 | N+1,t,z,h=>by
   rcases wau.mp h with rfl | h
   ·have:=Nat.mod_lt t p0;omega
   ·exact qmz p0 N _ z h
theorem qnC {p:Nat} (p0:0<p):∀ (N t s:Nat),t<p ^ N->s<p ^ N->digs p N t=digs p N s->t=s
 | 0,t,s,h1,h2,_=>by rw [Nat.pow_zero] at h1 h2;omega
 | N+1,t,s,h1,h2,h=>by
   injection h with a b
   rw [wa6,wbm] at h1 h2
   have:=qnC p0 N (t / p) (s / p) (Nat.div_lt_of_lt_mul h1) (Nat.div_lt_of_lt_mul h2) b
   have e1:=Nat.div_add_mod t p
   have e2:=Nat.div_add_mod s p
   have a:t % p=s % p:=by exact_mod_cast a
   rw [<-e1,<-e2,this,a]
theorem qnD {g:Nat->Int} {h q:Nat} (hg:∀ k,(g k).natAbs<=h):∀ (a:List Int),(∀ z∈a,z.natAbs<=q)->∀ k,(cvL a g k).natAbs<=a.length*(q*h)
 | [],_,k=>by show (0:Int).natAbs<=_;simp
 | x::a,ha,0=>by
   rw [qar]
   have h1:(x*g 0).natAbs<=q*h:=by rw [war];exact wbl (ha x (wbh ..)) (hg 0)
   have:(x::a).length*(q*h)=a.length*(q*h)+q*h:=by rw [way,Nat.add_mul,Nat.one_mul]
   omega
 | x::a,ha,k+1=>by
   rw [qao]
   have h1:(x*g (k+1)).natAbs<=q*h:=by rw [war];exact wbl (ha x (wbh ..)) (hg (k+1))
   have h2:=qnD hg a (λz hz=>ha z (wbi _ hz)) k
   have:(x::a).length*(q*h)=a.length*(q*h)+q*h:=by rw [way,Nat.add_mul,Nat.one_mul]
   omega
theorem quO {A B u v:List Int} (lA:Lz A) (lB:Lz B) (q:QI (co A) (co B) qca) (hu:u.length<B.length) (hv:v.length<A.length) (h:∀ k,cvL u (co A) k+cvL v (co B) k=0):(∀ k,co u k=0)/\∀ k,co v k=0:=by
 obtain ⟨d,d0,U,V,hd⟩:=q
 have half:∀ {A B u v U V:List Int},Lz B->(∀ k,d*qca k=cvL U (co A) k+cvL V (co B) k)->u.length<B.length->(∀ k,cvL u (co A) k+cvL v (co B) k=0)->∀ k,co u k=0:=λ{A B u v U V} lB hd hu h=>by
  rcases qgT u with z | ⟨f,lf,fl,ef⟩
  ·exact z
  ·exfalso
   have mq:MQ (co B) (co f):=by
    refine ⟨d,d0,qa6 (qaO V u) ((qaO U v).map ((-1)*·)),λk=>?_⟩
    rw [qaC,qau,qav,qav,ef k,qcz u k,<-qba,qaq hd,qdQ,qez (co A) u U,qez (co B) u V]
    have e:cvL U (cvL u (co A)) k = - cvL U (cvL v (co B)) k:=by
     have:cvL U (cvL u (co A)) k+cvL U (cvL v (co B)) k=0:=by rw [<-qdQ];exact qcy U h k
     omega
    rw [e];omega
   have:=qh2 lB lf mq
   omega
 exact ⟨half lB hd hu h,half (A:=B) (B:=A) (u:=v) (v:=u) (U:=V) (V:=U) lA (λk=>by rw [hd k];omega) hv (λk=>by have:=h k;omega)⟩
theorem qsK {a b:Int} (h:a=b):a∣b:=by rw [h];exact wbp b
theorem cvD {p:Int} {f g:Nat->Int} {S:List Int} (h:∀ k,p∣f k - cvL S g k):∀ (a:List Int) (k:Nat),p∣cvL a f k - cvL a (cvL S g) k
 | [],k=>by show p∣(0:Int) - 0;simp
 | x::a,0=>by
   rw [qar,qar]
   have:=wa0 (h 0) (Int.dvd_mul_left x _)
   rw [Int.mul_sub] at this
   refine wa0 this (qsK ?_)
   omega
 | x::a,k+1=>by
   rw [qao,qao]
   have h1:=wa0 (h (k+1)) (Int.dvd_mul_left x _)
   have h2:=cvD h a k
   rw [Int.mul_sub] at h1
   have:=wbc h1 h2
   refine wa0 this (qsK ?_)
   omega
theorem qln:∀ (a b:List Int),(qa6 a b).length=max a.length b.length
 | [],b=>by show b.length=max 0 b.length;omega
 | a,[]=>by rw [qhJ];show a.length=max a.length 0;omega
 | x::a,y::b=>by
   show (qa6 a b).length+1=max (a.length+1) (b.length+1)
   rw [qln a b];omega
theorem qtN {a b:List Int} (hl:a.length=b.length) (h:∀ k,co a k=co b k):a=b:=by
 refine List.ext_getElem hl λi h1 h2=>?_
 have:=h i
 unfold co at this
 rwa [wab,wab,wah h1,wah h2] at this
theorem lucky {A B G:List Int} {p b:Nat} (hp:Pr p) (lA:Lz A) (lB:Lz B) (q:QI (co A) (co B) qca) (hA:∀ k,Bd b (co A k)) (hB:∀ k,Bd b (co B k)) (n1:2<=A.length) (m1:2<=B.length) (g2:2<=G.length) (g1:¬ (p:Int)∣co G (G.length - 1)) (dA:Dm (p:Int) (co G) (co A)) (dB:Dm (p:Int) (co G) (co B))
  (big:(2*((A.length+B.length)*2 ^ b)) ^ (A.length+B.length - 2)<p):False:=by
 have p2:=hp.two
 have p0:0<p:=by omega
 generalize hn:A.length - 1=n at *
 generalize hm:B.length - 1=m at *
 generalize hE:(A.length+B.length)*2 ^ b=E at *
 have N1:A.length+B.length - 2=n+m:=by omega
 rw [N1] at big
 have hAn:∀ k,(co A k).natAbs<=2 ^ b:=λk=>Nat.le_of_lt (hA k)
 have hBn:∀ k,(co B k).natAbs<=2 ^ b:=λk=>Nat.le_of_lt (hB k)
 have E0:0<E:=by rw [<-hE];exact Nat.mul_pos ⋯ (Nat.pow_pos ∅)
 obtain ⟨u,hu⟩:∃ u:Nat->List Int,∀ t,u t=(digs p (m+n) t).take m:=⟨_,λ_=>rfl⟩
 obtain ⟨v,hv⟩:∃ v:Nat->List Int,∀ t,v t=(digs p (m+n) t).drop m:=⟨_,λ_=>rfl⟩
 obtain ⟨f,hf⟩:∃ f:Nat->Nat->Int,∀ t k,f t k=cvL (u t) (co A) k+cvL (v t) (co B) k:=⟨_,λ_ _=>rfl⟩
 have ul:∀ t,(u t).length=m:=λt=>by rw [hu,waw,qjS];omega
 have vl:∀ t,(v t).length=n:=λt=>by rw [hv,wb5,qjS];omega
 have uz:∀ t,∀ z∈u t,0<=z/\z<(p:Int):=λt z hz=>qmz p0 _ t z (List.mem_of_mem_take (hu t ▸ hz))
 have vz:∀ t,∀ z∈v t,0<=z/\z<(p:Int):=λt z hz=>qmz p0 _ t z (List.mem_of_mem_drop (hv t ▸ hz))
 have fb:∀ t k,(f t k).natAbs<E*p:=λt k=>by
  have h1:=qnD (q:=p - 1) hAn (u t) (λz hz=>by have:=uz t z hz;omega) k
  have h2:=qnD (q:=p - 1) hBn (v t) (λz hz=>by have:=vz t z hz;omega) k
  rw [ul] at h1
  rw [vl] at h2
  have h3:(f t k).natAbs<=(m+n)*((p - 1)*2 ^ b):=by
   rw [Nat.add_mul,hf]
   omega
  refine Nat.lt_of_le_of_lt h3 ?_
  rw [<-hE]
  have e:(m+n)*((p - 1)*2 ^ b)=((m+n)*2 ^ b)*(p - 1):=by rw [wbm (p - 1),Nat.mul_assoc]
  rw [e]
  exact wav (Nat.mul_lt_mul_of_pos_left ⋯ (Nat.mul_pos ⋯ (Nat.pow_pos ∅))) (wa4 p (wa4 _ ⋯))
 obtain ⟨e0,he0⟩:∃ e0:Nat->Nat,∀ t,e0 t=(f t 0 / (p:Int)+(E:Int)).toNat:=⟨_,λ_=>rfl⟩
 obtain ⟨ek,hek⟩:∃ ek:Nat->Nat->Nat,∀ t k,ek t k=(f t (k+1)+((E*p:Nat):Int)).toNat:=⟨_,λ_ _=>rfl⟩
 have e0r:∀ t,0<=f t 0 / (p:Int)+(E:Int)/\f t 0 / (p:Int)+(E:Int)<2*(E:Int):=λt=>by
  have h:=fb t 0
  have h1:-((E:Int)*(p:Int))<=f t 0:=by have:((E*p:Nat):Int)=(E:Int)*(p:Int):=by push_cast;rfl
                                        omega
  have h2:f t 0<(E:Int)*(p:Int):=by have:((E*p:Nat):Int)=(E:Int)*(p:Int):=by push_cast;rfl
                                    omega
  have q1:-(E:Int)<=f t 0 / (p:Int):=by
   refine (Int.le_ediv_iff_mul_le ⋯).mpr ?_
   rw [Int.neg_mul];exact h1
  have q2:f t 0 / (p:Int)<(E:Int):=Int.ediv_lt_of_lt_mul ⋯ h2
  omega
 have ekr:∀ t k,0<=f t (k+1)+((E*p:Nat):Int)/\f t (k+1)+((E*p:Nat):Int)<2*((E*p:Nat):Int):=λt k=>by
  have h:=fb t (k+1)
  omega
 have e0l:∀ t,e0 t<2*E:=λt=>by have:=e0r t;rw [he0];omega
 have ekl:∀ t k,ek t k<2*(E*p):=λt k=>by have:=ekr t k;rw [hek];omega
 have cl:∀ t,e0 t+2*E*enc (2*(E*p)) (m+n - 1) (ek t)<2*E*(2*(E*p)) ^ (m+n - 1):=λt=>by
  have h1:=qtM (M:=2*(E*p)) (m+n - 1) (ek t) (λk _=>ekl t k)
  have h2:2*E*(enc (2*(E*p)) (m+n - 1) (ek t)+1)<=2*E*(2*(E*p)) ^ (m+n - 1):=wbt _ h1
  have h3:=e0l t
  rw [Nat.mul_add,Nat.mul_one] at h2
  omega
 have room:2*E*(2*(E*p)) ^ (m+n - 1)<p ^ (m+n):=by
  obtain ⟨N,hN⟩:∃ N,m+n=N+1:=⟨m+n - 1,⋯⟩
  rw [hN,Nat.add_sub_cancel]
  rw [Nat.add_comm n m,hN] at big
  have e:2*E*(2*(E*p)) ^ N=(2*E) ^ (N+1)*p ^ N:=by
   rw [<-Nat.mul_assoc 2 E p,Nat.mul_pow (2*E) p N,wa6,wbm ((2*E) ^ N) (2*E),Nat.mul_assoc (2*E)]
  rw [e,wa6 p,wbm (p ^ N) p]
  exact Nat.mul_lt_mul_of_pos_right big (Nat.pow_pos p0)
 obtain ⟨s,t,st,ht,e⟩:=php _ _ _ (λi _=>cl i) room
 obtain ⟨q0,q1⟩:=qnB (e0l s) (e0l t) e
 have qk:=qqJ (m+n - 1) _ _ (λk _=>ekl s k) (λk _=>ekl t k) q1
 have w0:∀ k,(co (u s) k - co (u t) k)=co (qa6 (u s) ((u t).map ((-1)*·))) k:=λk=>by rw [qcz,qcz,qcz,qaC,qau];omega
 have df:∀ k,f s k - f t k=cvL (qa6 (u s) ((u t).map ((-1)*·))) (co A) k+cvL (qa6 (v s) ((v t).map ((-1)*·))) (co B) k:=λk=>by
  rw [qaC,qaC,qau,qau,hf,hf]
  omega
 have hi:∀ k,0<k->f s k - f t k=0:=λk hk=>by
  rcases waj k (m+n) with c | c
  ·have:=qk (k - 1) ⋯
   have r1:=ekr s (k - 1)
   have r2:=ekr t (k - 1)
   rw [hek,hek,show k - 1+1=k by omega] at this
   rw [show k - 1+1=k by omega] at r1 r2
   omega
  ·have z:∀ t,f t k=0:=λt=>by
    rw [hf,qcf (n:=A.length) (λi hi=>qaD hi) (u t) k (by rw [ul];omega),qcf (n:=B.length) (λi hi=>qaD hi) (v t) k (by rw [vl];omega)];rfl
   rw [z,z];rfl
 have d0:(f s 0 - f t 0).natAbs<p:=by
  have r1:=e0r s
  have r2:=e0r t
  rw [he0,he0] at q0
  have q0:f s 0 / (p:Int)=f t 0 / (p:Int):=by omega
  have m1:=Int.emod_add_mul_ediv (f s 0) p
  have m2:=Int.emod_add_mul_ediv (f t 0) p
  have b1:=wa5 (f s 0) (show (p:Int)≠0 by omega)
  have b2:=wa9 (f s 0) (show (0:Int)<p by omega)
  have b3:=wa5 (f t 0) (show (p:Int)≠0 by omega)
  have b4:=wa9 (f t 0) (show (0:Int)<p by omega)
  rw [q0] at m1
  omega
 have dm:Dm (p:Int) (co G) (co [f s 0 - f t 0]):=by
  obtain ⟨SA,hSA⟩:=dA
  obtain ⟨SB,hSB⟩:=dB
  refine ⟨qa6 (qaO (qa6 (u s) ((u t).map ((-1)*·))) SA) (qaO (qa6 (v s) ((v t).map ((-1)*·))) SB),λk=>?_⟩
  have e:co [f s 0 - f t 0] k=f s k - f t k:=by
   cases k with
   | zero=>rfl
   | succ k=>rw [hi (k+1) ⋯];exact qaD (by simp)
  rw [e,df,qaC (co G),qav,qav]
  have h1:=cvD (p:=(p:Int)) hSA (qa6 (u s) ((u t).map ((-1)*·))) k
  have h2:=cvD (p:=(p:Int)) hSB (qa6 (v s) ((v t).map ((-1)*·))) k
  have:=wbc h1 h2
  refine wa0 this (qsK ?_)
  omega
 have z0:f s 0 - f t 0=0:=by
  by_cases c:(p:Int)∣f s 0 - f t 0
  ·obtain ⟨y,hy⟩:=c
   rcases Int.lt_trichotomy y 0 with z | z | z
   ·have:(p:Int)*y<=(p:Int)*(-1):=wcg ⋯ ⋯
    omega
   ·rw [hy,z];omega
   ·have:(p:Int)*1<=(p:Int)*y:=wcg ⋯ ⋯
    omega
  ·exfalso
   have:=Dm.len hp ⋯ g1 dm ⟨0,c⟩
   simp at this
   omega
 have all:∀ k,cvL (qa6 (u s) ((u t).map ((-1)*·))) (co A) k+cvL (qa6 (v s) ((v t).map ((-1)*·))) (co B) k=0:=λk=>by
  rw [<-df]
  cases k with
  | zero=>exact z0
  | succ k=>exact hi (k+1) ⋯
 have ll:∀ {a c:List Int} {x:Nat},a.length=x->c.length=x->(qa6 a (c.map ((-1)*·))).length=x:=λ{a c x} h1 h2=>by
  rw [qln,waa,h1,h2];omega
 obtain ⟨c1,c2⟩:=quO lA lB q (by rw [ll (ul s) (ul t)];omega) (by rw [ll (vl s) (vl t)];omega) all
 have eu:u s=u t:=qtN (by rw [ul,ul]) λk=>by have:=c1 k;rw [<-w0] at this;omega
 have ev:v s=v t:=qtN (by rw [vl,vl]) λk=>by
  have:=c2 k
  rw [qcz,qaC,qau,<-qcz,<-qcz] at this;omega
 have:digs p (m+n) s=digs p (m+n) t:=by
  rw [<-wb3 m (digs p (m+n) s),<-wb3 m (digs p (m+n) t)]
  rw [<-hu,<-hv,<-hu,<-hv,eu,ev]
 have:=qnC p0 _ _ _ ⋯ ⋯ this
 omega
theorem qje:∀ (ts l:List Int),ts.Nodup->(∀ t∈ts,evI l t=0)->l.length<=ts.length->∀ k,co l k=0
 | [],l,_,_,h,k=>qaD (by have:l.length=0:=by simpa using h
                         omega)
 | t::ts,l,nd,hr,hl,k=>by
   have nd':=wbw.mp nd
   have e0:=hr t (wbh ..)
   have sd:co (syn l t) ((syn l t).length - 1)=0:=by rw [qjF];exact qsv l t
   have cd:=qe9 sd
   have z:∀ k,co (syn l t) k=0:=λk=>by
    rw [<-cd k]
    refine qje ts (syn l t).dropLast nd'.2 (λx hx=>?_) (by rw [List.length_dropLast,qjF];simp at hl;omega) k
    rw [qhK _ _ x cd]
    have h1:=qqu l t x
    rw [hr x (wbi _ hx),e0] at h1
    have ne:x - t≠0:=λq=>nd'.1 (by have:x=t:=by omega
                                   rw [<-this];exact hx)
    have h1:(x - t)*evI (syn l t) x=0:=by omega
    rcases Int.mul_eq_zero.mp h1 with q | q
    ·exact absurd q ne
    ·exact q
   rw [qnp l t k,z k]
   split
   ·rw [e0];omega
   ·rw [z (k - 1)];omega
theorem qqK (n:Nat):((List.range (2*n+1)).map λi:Nat=>(i:Int) - (n:Int)).Nodup:=by
 unfold List.Nodup
 rw [List.pairwise_map]
 exact (List.nodup_range (n:=2*n+1)).imp λh q=>h ⋯
theorem qnE (f:Int->Bool):∀ P:List Int,(P.filter f).length+(P.filter λx=>!f x).length=P.length
 | []=>rfl
 | x::P=>by
   have:=qnE f P
   rw [List.filter_cons,List.filter_cons,way]
   cases f x
   ·simp;omega
   ·simp;omega
theorem qsL {r:List Int} {n:Nat} (r0:∃ k,co r k≠0) (rl:r.length<=n):∃ x:Nat->Int,(∀ i,i<=n->evI r (x i)≠0/\(x i).natAbs<=n)/\∀ i j,i<=n->j<=n->i≠j->x i≠x j:=by
 let P:List Int:=(List.range (2*n+1)).map λi:Nat=>(i:Int) - (n:Int)
 have pl:P.length=2*n+1:=by show ((List.range (2*n+1)).map λi:Nat=>(i:Int) - (n:Int)).length=_;rw [waa,wal]
 have pn:P.Nodup:=qqK n
 have pr:∀ x∈P,x.natAbs<=n:=λx hx=>by
  obtain ⟨i,hi,rfl⟩:=wai.mp hx
  have:=List.mem_range.mp hi
  omega
 have parts:(P.filter λx=>decide (evI r x=0)).length+(P.filter λx=>!decide (evI r x=0)).length=P.length:=by
  exact qnE _ P
 have few:(P.filter λx=>decide (evI r x=0)).length<r.length:=by
  rcases waj (P.filter λx=>decide (evI r x=0)).length r.length with c | c
  ·exact c
  ·exfalso
   obtain ⟨k,hk⟩:=r0
   exact hk (qje _ r (pn.filter _) (λt ht=>by simpa using (List.mem_filter.mp ht).2) c k)
 let Gd:=P.filter λx=>!decide (evI r x=0)
 have gl:n+1<=Gd.length:=by
  show n+1<=(P.filter λx=>!decide (evI r x=0)).length
  omega
 have gn:Gd.Nodup:=pn.filter _
 refine ⟨λi=>Gd.getD i 0,λi hi=>?_,λi j hi hj hij e=>?_⟩
 ·have hlt:i<Gd.length:=by omega
  have e:Gd.getD i 0=Gd[i]:=by rw [wab,wah hlt];rfl
  show evI r (Gd.getD i 0)≠0/\(Gd.getD i 0).natAbs<=n
  rw [e]
  have m:=List.mem_filter.mp (wb0 hlt)
  exact ⟨by simpa using m.2,pr _ m.1⟩
 ·have h1:i<Gd.length:=by omega
  have h2:j<Gd.length:=by omega
  have e:Gd.getD i 0=Gd.getD j 0:=e
  rw [wab,wab,wah h1,wah h2] at e
  have e:Gd[i]=Gd[j]:=e
  have pw:=List.pairwise_iff_getElem.mp gn
  rcases Nat.lt_or_gt_of_ne hij with q | q
  ·exact pw i j h1 h2 q e
  ·exact pw j i h2 h1 q e.symm
theorem qdH {b n c:Nat} {r g A:List Int} (hr:∀ z∈r,Bd b z) (r0:∃ k,co r k≠0) (rl:r.length<=n) (gl:g.length<=n) (hn:n<2 ^ c) (hA:∀ k,co r k=cvL A (co g) k):∀ k,Bd (b+n*(2*c+4)) (co g k):=by
 by_cases g0:g.length=0
 ·intro k;rw [qaD ⋯];exact qbU _
 obtain ⟨x,hx,xi⟩:=qsL r0 rl
 have bx:∀ i,i<=n->Bd c (x i):=λi hi=>by
  show (x i).natAbs<2 ^ c
  have:=(hx i hi).2
  omega
 intro k
 have:=interp (c:=c) (g.length - 1) g (b+n*(c+1)) x (λk hk=>qaD ⋯) (λi hi=>bx i ⋯) (λi j hi hj hij=>xi i j ⋯ ⋯ hij) (λi hi=>by
  have ne:=(hx i ⋯).1
  have e:=qsu hA (x i)
  have bd:=qtA (bx i ⋯) r hr
  have le:(evI g (x i)).natAbs<=(evI r (x i)).natAbs:=by
   rw [e,war]
   refine Nat.le_mul_of_pos_left _ ?_
   rcases wbr (evI A (x i)).natAbs with z | z
   ·exact absurd (by rw [e,Int.natAbs_eq_zero.mp z];omega) ne
   ·exact z
  refine (bd.le le).mono ?_
  have:=wa4 (c+1) rl
  omega) k
 refine this.mono ?_
 have h1:(g.length - 1)*(c+3)<=n*(c+3):=wa4 (c+3) ⋯
 have h2:n*(2*c+4)=n*(c+1)+n*(c+3):=by rw [<-Nat.mul_add];congr 1;omega
 omega
theorem qfN {a g:List Int} (la:Lz a) (lg:Lz g):cvL a (co g) (a.length - 1+(g.length - 1))=co a (a.length - 1)*co g (g.length - 1):=by
 obtain ⟨i,s,rfl⟩:∃ i s,a=i++[s]:=⟨a.dropLast,a.getLast (waq.mp la.1),(wce _).symm⟩
 have e:(i++[s]).length - 1=i.length:=by rw [wao];simp
 have hs:co (i++[s]) i.length=s:=by
  unfold co
  rw [wab,List.getElem?_append_right (wac _),Nat.sub_self];rfl
 rw [e,hs,qbl,qcf (n:=g.length) (λi hi=>qaD hi) i _ (by have:=lg.1;omega)]
 unfold upS
 rw [if_pos ⋯,show i.length+(g.length - 1) - i.length=g.length - 1 by omega]
 omega
theorem qqL {X ms:List Int} (lm:Lz ms) {T:Nat} (h:∀ k,T+(ms.length - 1)<=k->cvL X (co ms) k=0):(∀ j,T<=j->co X j=0)/\∀ s,T=s+1->cvL X (co ms) (s+(ms.length - 1))=co X s*co ms (ms.length - 1):=by
 rcases qgT X with z | ⟨Y,lY,_,eY⟩
 ·refine ⟨λj _=>z j,λs _=>?_⟩
  rw [qbt,qcy ms z,z s];omega
 ·have hY:∀ k,cvL X (co ms) k=cvL Y (co ms) k:=λk=>by rw [qbt,qaq (λj=>(eY j).symm) ms k,<-qbt]
  have tp:=qfN lY lm
  have ly:Y.length<=T:=by
   rcases waj T Y.length with c | c
   ·exfalso
    have:=h (Y.length - 1+(ms.length - 1)) ⋯
    rw [hY,tp] at this
    exact was lY.2 lm.2 this
   ·exact c
  refine ⟨λj hj=>by rw [<-eY];exact qaD ⋯,λs hs=>?_⟩
  rw [hY,<-eY]
  have y0:=lY.1
  rcases waj Y.length T with c | c
  ·rw [qaD ⋯,qcf (n:=ms.length) (λi hi=>qaD hi) Y _ (by have:=lm.1;omega)];omega
  ·rw [show s=Y.length - 1 by omega];exact tp
theorem qo5 {m n:Nat} {x y:Int} (hx:Bd m x) (hy:Bd n y) (hm:m<=60000000:=by omega) (hn:n<=60000000:=by omega):IntMulOk x y:=qel (hx.mono hm) (hy.mono hn)
theorem quP {ns:List Int} {m:Int} (ms:List Int) (hms:ms=(ns.filter (λz=>!decide (z=0))).map λz=>if z<0 then -z else z) (h:ms=[]/\m=0\/m∈ms) (d:Int):(∀ z∈ns,d∣z)->d∣m:=by
 intro hd
 rcases h with ⟨_,e⟩ | h
 ·rw [e];exact wbd d
 ·rw [hms] at h
  obtain ⟨z,hz,rfl⟩:=wai.mp h
  have:=hd z (List.mem_filter.mp hz).1
  show d∣if z<0 then -z else z
  split
  ·exact Int.dvd_neg.mpr this
  ·exact this
theorem qoB (h:qcr K vs H Q E):qk2 K { nx:=λ_ H'=>Q .non H',rt:=Q } (L2.start ["row","start","found","whole"] vs) H:=by
 obtain ⟨p,ns,st,rfl,hp,hl,k⟩:=h
 unfold qk2
 rwa []
 refine ⟨⟨_,SqL.of hp⟩,CompF.lst (xs:=ns.map V.int) (λi ys H'=>i<=ns.length/\H'=H/\ys=(((ns.take i).filter (λz=>!decide (z=0))).map λz=>if z<0 then -z else z).map V.int) ⟨wae _,rfl,rfl⟩ ?_ ?_ ?_⟩
 ·rintro i ys H' ⟨h1,rfl,rfl⟩
  refine ⟨by rw [waa];exact h1,sz ?_,SqL.of hp⟩
  rw [waa,waa]
  exact wak (List.length_filter_le _ _) (by rw [waw];omega)
 ·rintro i x ys H' hi ⟨h1,rfl,rfl⟩
  rw [waf] at hi
  cases e:ns[i]? with
  | none=>rw [e] at hi;cases hi
  | some n=>
    rw [e] at hi
    obtain rfl:V.int n=x:=Option.some.inj hi
    have hi2:i<ns.length:=(wap.mp e).1
    have et:ns.take (i+1)=ns.take i++[n]:=by rw [List.take_add_one,e];rfl
    rwa []
    refine qck (λc=>?_) (λc=>?_)
    ·refine ⟨⋯,?_⟩
     have c0:¬ n=0:=by simpa using c
     simp [et,List.filter_append,c0]
    ·refine ⟨⋯,?_⟩
     have c0:n=0:=by simpa using c
     simp [et,List.filter_append,c0]
 ·rintro ys H' ⟨_,rfl,rfl⟩ a ha
  rw [waa,wa3]
  have sa:=qaf ha (.lst (((ns.filter (λz=>!decide (z=0))).map λz=>if z<0 then -z else z).map V.int))
  have hpa:=sa _ _ hp
  refine ⟨_,rfl,_,upd_same,λm hm=>?_⟩
  have hg:=quP _ rfl hm
  generalize hHa:upd H' a (.lst (((ns.filter (λz=>!decide (z=0))).map λz=>if z<0 then -z else z).map V.int))=Ha at sa hpa ⊢
  refine ⟨⟨_,SqL.of hpa⟩,ForL.by (xs:=ns.map V.int) (λi σ H2=>∃ (g:Int) (x:Option V),σ=[some (.ref p),some (.int st),some (.int g),x]/\H2=Ha/\0<=g/\g∣st/\(∀ z∈ns.take i,g∣z)/\(∀ d:Int,d∣st->(∀ z∈ns,d∣z)->d∣g)) ⟨_,none,rfl,rfl,⋯,wbs m st,λz hz=>(by simp at hz),λd h1 h2=>Int.dvd_coe_gcd (hg d h2) h1⟩ ?_ ?_ ?_⟩
  ·rintro i σ H2 _ ⟨g,x,rfl,rfl,_⟩
   exact SqL.of hpa
  ·rintro i x σ H2 hi ⟨g,y,rfl,rfl,g0,g1,g2,g3⟩
   rw [waf] at hi
   cases e:ns[i]? with
   | none=>rw [e] at hi;cases hi
   | some n=>
     rw [e] at hi
     obtain rfl:V.int n=x:=Option.some.inj hi
     rwa []
     refine qck (λc=>?_) (λc=>?_)
     ·have c1:g=1:=by simpa using c
      subst c1
      exact k 1 _ sa ∅ (Int.one_dvd _) (λz _=>Int.one_dvd z) g3
     ·refine ⟨⋯,wa0 (wbs n g) g1,λz hz=>?_,λd h1 h2=>Int.dvd_coe_gcd (h2 n (wan e)) (g3 d h1 h2)⟩
      rw [List.take_add_one,e] at hz
      rcases wa7.mp hz with z1 | z1
      ·exact wa0 (wbs n g) (g2 z z1)
      ·have z2:z=n:=by simpa using z1
       rw [z2];exact wby n g
  ·rintro σ H2 ⟨g,x,rfl,rfl,g0,g1,g2,g3⟩
   rw [waa,wa3] at g2
   rwa []
   exact k g _ sa g0 g1 g2 g3
theorem qjT (h:qbD K vs H Q E):qgw K { nx:=λ_ H'=>Q .non H',rt:=Q } (L2.start ["row","divisor"] vs) H:=by
 obtain ⟨p,ns,g,rfl,hp,g0,hl,q⟩:=h
 unfold qgw
 rwa []
 refine ⟨⟨_,SqL.of hp⟩,CompJ.lst (xs:=ns.map V.int) (λi ys H'=>i<=ns.length/\H'=H/\ys=((ns.map (·/ g)).take i).map V.int) ⟨wae _,rfl,rfl⟩ ?_ ?_ ?_⟩
 ·rintro i ys H' ⟨h1,rfl,rfl⟩
  refine ⟨by rw [waa];exact h1,sz ?_,SqL.of hp⟩
  rw [waa,waw];omega
 ·rintro i x ys H' hi ⟨h1,rfl,rfl⟩
  rw [waf] at hi
  cases e:ns[i]? with
  | none=>rw [e] at hi;cases hi
  | some n=>
    rw [e] at hi
    obtain rfl:V.int n=x:=Option.some.inj hi
    have hi2:i<ns.length:=(wap.mp e).1
    have gp:0<g:=by
     rcases g0 with h | h
     ·exact h
     ·rw [h] at hi2;exact absurd hi2 (by simp)
    rwa []
    refine ⟨gp,⋯,?_⟩
    rw [qbR V.int (q:=n / g) (by rw [waf,e];rfl)]
 ·rintro ys H' ⟨_,rfl,rfl⟩ a ha
  have e:(ns.map (·/ g)).take (ns.map V.int).length=ns.map (·/ g):=by rw [waa,show ns.length=(ns.map (·/ g)).length by rw [waa],wa3]
  rw [e]
  exact q a ha
theorem qtO {ns:List Int} {k:Nat}:co ns k=ns.getD k 0:=rfl
theorem qjU (ns:List Int):Tz (qed ns):=by
 have key:∀ m,m<=ns.length->qcQ ns m=0\/co ns (qcQ ns m - 1)≠0:=by
  intro m
  induction m with
  | zero=>intro _;exact .inl rfl
  | succ m ih=>
    intro hm
    rw [qda]
    split
    ·exact ih ⋯
    ·rename_i z
     right
     rw [show m+1 - 1=m by omega,qtO]
     rw [wab,wah ⋯] at z ⊢
     exact z
 have hl:(qed ns).length=qcQ ns ns.length:=qh1
 rcases key ns.length (wac _) with h | h
 ·left
  exact waz.mp (hl.trans h)
 ·right
  rw [hl]
  show (qed ns).getD _ 0≠0
  rw [qll]
  exact h
theorem qjV (ns:List Int) (k:Nat):co (qed ns) k=co ns k:=qll k
theorem qfO (n:Nat) (F:Nat->Int):qcU n F=((List.range n).map F).map V.int:=rfl
theorem qw9 (ns:List Int) (f:Int) (n:Nat) (h:ns.length<=n):List.map V.int (ns.map (f*·))++List.replicate (n - ns.length) (V.int 0)=qcU n λk=>f*co ns k:=by
 rw [qfO]
 apply List.ext_getElem?
 intro i
 by_cases h1:i<ns.length
 ·rw [List.getElem?_append_left (by rw [waa,waa];exact h1),waf,waf,waf,waf,wbk ⋯,wah h1]
  show _=some (V.int (f*ns.getD i 0))
  rw [wab,wah h1]
  rfl
 ·rw [List.getElem?_append_right (by rw [waa,waa];omega),waa,waa,waf,waf]
  by_cases h2:i<n
  ·rw [wb4,if_pos ⋯,wbk h2]
   show _=some (V.int (f*co ns i))
   rw [qaD ⋯,Int.mul_zero]
  ·rw [wb4,if_neg ⋯,wax (by rw [wal];omega)]
   rfl
theorem qmA (h:qb1 K vs H Q E):qi6 K { nx:=λ_ H'=>Q .non H',rt:=Q } (L2.start ["row","factor","other","weight","shift","result","place","whole"] vs) H:=by
 obtain ⟨p,q,ns,ms,f,w,s,rfl,hp,hq,hl,hls,bf,bw,bn,bm,k⟩:=h
 unfold qi6
 rwa []
 refine ⟨⟨_,SqL.of hp⟩,CompJ.lst (xs:=ns.map V.int) (λi ys H'=>i<=ns.length/\H'=H/\ys=((ns.map (f*·)).take i).map V.int) ⟨wae _,rfl,rfl⟩ ?_ ?_ ?_⟩
 ·rintro i ys H' ⟨h1,rfl,rfl⟩
  refine ⟨by rw [waa];exact h1,sz ?_,SqL.of hp⟩
  rw [waa,waw];omega
 ·rintro i x ys H' hi ⟨h1,rfl,rfl⟩
  rw [waf] at hi
  cases e:ns[i]? with
  | none=>rw [e] at hi;cases hi
  | some n=>
    rw [e] at hi
    obtain rfl:V.int n=x:=Option.some.inj hi
    have hi2:i<ns.length:=(wap.mp e).1
    rwa []
    refine ⟨qo5 bf (bn n (wan e)),⋯,?_⟩
    rw [qbR V.int (q:=f*n) (by rw [waf,e];rfl)]
 ·rintro ys H' ⟨_,rfl,rfl⟩ a ha
  have e:(ns.map (f*·)).take (ns.map V.int).length=ns.map (f*·):=by rw [waa,show ns.length=(ns.map (f*·)).length by rw [waa],wa3]
  rw [e]
  generalize hL:max ns.length (s+ms.length)=L
  have sa:=qaf ha (.lst (List.map V.int (ns.map (f*·))))
  have hpa:=sa _ _ hp
  have hqa:=sa _ _ hq
  rwa [hpa,hqa]
  refine ⟨qpV upd_same,sz ∅,λb hb=>?_⟩
  have sb:=qaf hb (.lst [.int 0])
  refine ⟨_,sb _ _ hqa,_,sb _ _ hpa,?_⟩
  have e0:(((ms.map V.int).length:Int)+(s:Int) - ((ns.map V.int).length:Int))=(ms.length:Int)+(s:Int) - (ns.length:Int):=by rw [waa,waa]
  rw [e0]
  have ek:((ms.length:Int)+(s:Int) - (ns.length:Int)).toNat=L - ns.length:=by omega
  refine ⟨⋯,⋯,sz (by rw [ek];simp;omega),λc hc=>?_⟩
  rw [ek,qhd]
  have sc:=qaf hc (.lst (List.replicate (L - ns.length) (V.int 0)))
  have haa:upd H' a (.lst (List.map V.int (ns.map (f*·)))) a=some (HO.lst (List.map V.int (ns.map (f*·)))):=upd_same
  have hac:=sc _ _ (sb _ _ haa)
  refine ⟨_,hac,sz (by simp;omega),?_⟩
  rw [qw9 ns f L ⋯]
  generalize hX:upd (upd (upd H' a (.lst (List.map V.int (ns.map (f*·))))) b (.lst [.int 0])) c (.lst (List.replicate (L - ns.length) (V.int 0)))=Hx at hac ⊢
  have sx:Same H' Hx:=λx o h=>by rw [<-hX];exact sc x o (sb x o (sa x o h))
  have sd:Same H' (upd Hx a (.lst (qcU L λk=>f*co ns k))):=λx o h=>Kp.upd x o (qas h ha) (sx x o h)
  have had:(upd Hx a (.lst (qcU L λk=>f*co ns k))) a=_:=upd_same
  generalize upd Hx a (.lst (qcU L λk=>f*co ns k))=Hd at sd had ⊢
  refine ⟨⟨_,SqL.of (sd _ _ hq)⟩,ForJ.enumL (xs:=ms.map V.int) (λj σ H2=>∃ x y:Option V,σ=[some (.ref p),some (.int f),some (.ref q),some (.int w),some (.int (s:Int)),some (.ref a),x,y]/\Same H' H2/\H2 a=some (.lst (qcU L λk=>f*co ns k - (if s<=k/\k - s<j then w*co ms (k - s) else 0)))) ⟨none,none,rfl,sd,?_⟩ ?_ ?_ ?_⟩
  ·rw [had]
   exact congrArg (λl=>some (HO.lst l)) (qdG λk _=>by rw [if_neg ⋯];omega)
  ·rintro j σ H2 _ ⟨_,_,_,s2,_⟩
   exact SqL.of (s2 _ _ hq)
  ·rintro j y pq σ H2 hj ⟨y3,y4,rfl,s2,hw2⟩ hpq
   rw [waf] at hj
   cases em:ms[j]? with
   | none=>rw [em] at hj;cases hj
   | some u=>
     rw [em] at hj
     obtain rfl:V.int u=y:=Option.some.inj hj
     have jl:j<ms.length:=(wap.mp em).1
     have ud:co ms j=u:=by rw [qtO,wab,em];rfl
     have sq:=qaf hpq (.tup [.int (j:Int),.int u])
     have hw3:=sq _ _ hw2
     rwa [hw3]
     have kl:s+j<L:=by omega
     refine ⟨_,qcg ⋯ (qbH _ kl),qo5 bw (bm u (wan em)),_,rfl,s+j,?_,λb o h=>Kp.upd b o (qas h ha) (sq b o (s2 b o h)),?_⟩
     ·rw [qbS];exact qfM ⋯ kl
     ·refine qeD kl ?_ λk _ hk=>?_
      ·rw [if_pos ⋯,if_neg ⋯,show s+j - s=j by omega,ud];omega
      ·by_cases h:s<=k/\k - s<j
       ·rw [if_pos h,if_pos ⋯]
       ·rw [if_neg h,if_neg ⋯]
  ·rintro σ H2 ⟨y3,y4,rfl,s2,hw2⟩
   rw [waa,qfO] at hw2
   rwa [hw2]
   refine ⟨_,rfl,λr hr=>k r _ _ (s2.trans (qaf hr _)) upd_same (qjU _) λi=>?_⟩
   rw [qjV,qhb]
   unfold upS
   by_cases hi:i<L
   ·rw [if_pos hi]
    by_cases h:s<=i
    ·rw [if_pos h]
     by_cases h2:i - s<ms.length
     ·rw [if_pos ⟨h,h2⟩]
     ·rw [if_neg ⋯,qaD (a:=ms) ⋯];omega
    ·rw [if_neg h,if_neg ⋯];omega
   ·rw [if_neg hi,qaD (a:=ns) ⋯]
    by_cases h:s<=i
    ·rw [if_pos h,qaD (a:=ms) ⋯];omega
    ·rw [if_neg h];omega
theorem quQ (a b:Int):(a.fdiv b).natAbs<=a.natAbs:=by
 rw [Int.fdiv_eq_ediv]
 split
 ·rw [Int.sub_zero];exact Int.natAbs_ediv_le_natAbs a b
 ·rename_i h
  have hb:b<0:=by omega
  have hd:¬ b∣a:=λz=>h (.inr z)
  have e:=Int.mul_ediv_add_emod a b
  have r0:=wa5 a (show b≠0 by omega)
  have r1:=Int.emod_lt_of_neg a hb
  have rn:a % b≠0:=λz=>hd (Int.dvd_of_emod_eq_zero z)
  generalize a / b=q at *
  generalize a % b=r at *
  rcases Int.lt_or_le q 1 with hq | hq
  ·have h1:(-b)*(-q) ≥ 2*(-q):=Int.mul_le_mul_of_nonneg_right ⋯ ⋯
   rw [Int.neg_mul_neg] at h1
   omega
  ·have h1:(-b)*(q - 1) ≥ 1*(q - 1):=Int.mul_le_mul_of_nonneg_right ⋯ ⋯
   rw [Int.neg_mul,Int.mul_sub] at h1
   omega
theorem qjW {n m:Nat} {F:Nat->Int}:qg4 (qcU n F) none (some (m:Int))=((List.range (min m n)).map F).map V.int:=by
 unfold qg4 HT.sIx
 simp only [List.drop_zero,Nat.sub_zero,wb2]
 rw [if_neg ⋯,qbS]
 unfold qcU
 rw [<-List.map_take,<-List.map_take,List.take_range]
 congr 3
 omega
theorem qsM {n:Nat} {F:Nat->Int} (h:((List.range n).map F).any (λz=>!decide (z=0))=false):∀ k,k<n->F k=0:=by
 intro k hk
 have:=List.any_eq_false.mp h (F k) (wai.mpr ⟨k,List.mem_range.mpr hk,rfl⟩)
 simpa using this
theorem qqM {n s:Nat} {F:Nat->Int} {w:Int} (hs:s<n) (h0:F s=0) (g:Nat->Int) (k:Nat) :
  cvL ((List.range n).map λj=>if j=s then w else F j) g k=cvL ((List.range n).map F) g k+w*upS s g k:=by
 have e:∀ m,m<=n->cvL ((List.range m).map λj=>if j=s then w else F j) g k=cvL ((List.range m).map F) g k+(if s<m then w*upS s g k else 0):=by
  intro m
  induction m with
  | zero=>intro _;rw [if_neg ⋯];rfl
  | succ m ih=>
    intro hm
    rw [List.range_succ,wbj,wbj,List.map_singleton,List.map_singleton,qbl,qbl,ih ⋯,waa,waa,wal]
    by_cases e:m=s
    ·subst e
     rw [if_pos rfl,if_neg ⋯,if_pos ⋯,h0]
     omega
    ·rw [if_neg e]
     by_cases h:s<m
     ·rw [if_pos h,if_pos ⋯];omega
     ·rw [if_neg h,if_neg ⋯];omega
 rw [e n (wac n),if_pos hs]
theorem qbE {b:Nat} {ns:List Int} (h:∀ z∈ns,Bd b z) (k:Nat):Bd b (co ns k):=qcM h k
theorem qhj {n:Nat} {g:Nat->Int} (k:Nat):cvL ((List.range n).map λ_=>(0:Int)) g k=0:=by
 have e:((List.range n).map λ_=>(0:Int))=(List.replicate n (1:Int)).map (0*·):=by
  apply List.ext_getElem?
  intro i
  rw [waf,waf]
  by_cases h:i<n
  ·rw [wbk h,wb4,if_pos h];rfl
  ·rw [wax (by rw [wal];omega),wb4,if_neg h];rfl
 rw [e,qau];omega
theorem qwP (ns:List Int):List.map V.int ns=qcU ns.length (co ns):=by
 rw [qfO]
 congr 1
 apply List.ext_getElem?
 intro i
 rw [waf]
 by_cases h:i<ns.length
 ·rw [wbk h,wah h]
  show _=some (ns.getD i 0)
  rw [wab,wah h];rfl
 ·rw [wax ⋯,wax (by rw [wal];omega)];rfl
theorem qem {ms:List Int} (h:0<ms.length):atI (ms.map V.int) (-1)=some (V.int (co ms (ms.length - 1))):=by
 refine atI_last (by rw [waa];omega) ?_
 rw [waa,waf,wah ⋯]
 show _=some (V.int (ms.getD (ms.length - 1) 0))
 rw [wab,wah ⋯];rfl
theorem qmB (h:qb2 K vs H Q E):qog K { nx:=λ_ H'=>Q .non H',rt:=Q } (L2.start ["row","divisor","rest","last","quotient","shift","weight","place"] vs) H:=by
 obtain ⟨p,q,ns,ms,b,d,rfl,hp,hq,lm,bn,bm,bb,bd1,hn,hm,kN,kR⟩:=h
 have m0:=lm.1
 have lne:=lm.2
 obtain ⟨L,hL⟩:∃ L,ms.length=L+1:=⟨ms.length - 1,⋯⟩
 have hL1:ms.length - 1=L:=by omega
 rw [hL1] at lne
 generalize hlead:co ms L=lead at lne
 have aL:=qem m0
 rw [hL1,hlead] at aL
 generalize hc:ns.length - L=c
 refine qcp (qjG (qan rfl ⟨_,_,rfl,hp,λa ha=>?_⟩))
 have sa:=qaf ha (.lst (ns.map V.int))
 have hpa:=sa _ _ hp
 have hqa:=sa _ _ hq
 have ela:((List.map V.int ms).length:Int) - 1=(L:Int):=by rw [waa];omega
 refine ⟨_,rfl,_,_,rfl,hqa,_,_,rfl,rfl,?_⟩
 show qgx K _ [some (.ref p),some (.ref q),some (.ref a),some (.int (((List.map V.int ms).length:Int) - 1)),none,none,none,none] _
 rw [ela]
 refine qcp (qcO (qgv (r_c ⟨qjH,λx hx=>?_⟩)))
 have sx:=qaf hx (.lst [.int 0])
 have hpx:=sx _ _ hpa
 have hmax:(if (0:Int) > ((List.map V.int ns).length:Int) - (L:Int) then (0:Int) else ((List.map V.int ns).length:Int) - (L:Int))=(c:Int):=by
  rw [waa];split <;> omega
 refine ⟨_,rfl,_,_,rfl,hpx,_,rfl,_,_,rfl,rfl,_,_,rfl,?_⟩
 refine ⟨_,(c:Int),_,rfl,congrArg V.int hmax,upd_same,⋯,⋯,sz (by simp;omega),λy hy=>?_⟩
 refine up3 ha hx hy λH1 hay hyy sH nay nyH=>?_
 rw [qwP ns] at hay
 rw [wb2,qjR] at hyy
 have hp1:=sH _ _ hp
 have elo:((List.map V.int ns).length:Int) - (L:Int) - 1=(ns.length:Int) - (L:Int) - 1:=by rw [waa]
 have ecn:((ns.length:Int) - (L:Int) - 1 - -1).toNat=c:=by omega
 refine qtF ?_
 refine ⟨_,rfl,_,_,rfl,hp1,_,rfl,_,_,rfl,rfl,_,_,rfl,rfl,_,rfl,_,rfl,(ns.length:Int) - (L:Int) - 1,_,by rw [<-elo],⟨⋯,⋯,∅,∅⟩,?_⟩
 rw [ecn]
 let Iv:Nat->L2.St->Hp->Prop:=λi σ H2=>i<=c/\∃ (F G:Nat->Int) (u v w:Option V),σ=[some (.ref p),some (.ref q),some (.ref a),some (.int (L:Int)),some (.ref y),u,v,w]/\Same H H2/\H2 a=some (.lst (qcU ns.length F))/\H2 y=some (.lst (qcU c G))/\
  (∀ j,j<c - i->G j=0)/\(∀ k,k<ns.length - i->F k=co ns k - cvL ((List.range c).map G) (co ms) k)/\(∀ k,ns.length - i<=k->co ns k=cvL ((List.range c).map G) (co ms) k)/\(∀ k,k<ns.length->Bd (b+i*(d+1)) (F k))
 refine ForJ.down Iv ⟨wae _,co ns,λ_=>0,none,none,none,rfl,sH,hay,hyy,λ_ _=>rfl,λk _=>by rw [qhj];omega,λk hk=>by rw [qhj,qaD ⋯],λk _=>(qbE bn k).mono ⋯⟩ ?_ ?_
 ·rintro i σ H2 hi ⟨_,F,G,u,v,w,rfl,s2,ha2,hy2,hG,hF,hF2,bF⟩
  have hq2:=s2 _ _ hq
  have ic:i<c:=hi
  have esh:((ns.length:Int) - (L:Int) - 1 - (i:Int))=((c - 1 - i:Nat):Int):=by omega
  rw [esh]
  generalize hs:c - 1 - i=s
  have hst:s+L=ns.length - 1 - i:=by omega
  have aT:atI (qcU ns.length F) ((s:Int)+(L:Int))=some (V.int (F (s+L))):=qcg (j:=s+L) ⋯ (qbH F ⋯)
  refine ⟨_,rfl,_,rfl,_,rfl,_,_,rfl,rfl,_,_,_,_,rfl,rfl,ha2,aT,_,rfl,_,rfl,_,_,_,_,rfl,rfl,hq2,aL,_,_,rfl,rfl,lne,?_⟩
  show qef K _ [some (.ref p),some (.ref q),some (.ref a),some (.int (L:Int)),some (.ref y),some (.int (s:Int)),some (.int ((F (s+L)).fdiv lead)),w] H2
  generalize hw:(F (s+L)).fdiv lead=wt
  have bFt:=bF (s+L) ⋯
  have bwt:Bd (b+i*(d+1)) wt:=bFt.le (by rw [<-hw];exact quQ _ _)
  have bi:b+i*(d+1)<=60000000:=by
   have:=wa4 (d+1) (show i<=ns.length by omega)
   omega
  have bi1:b+(i+1)*(d+1)<=60000000:=by
   have:=wa4 (d+1) (show i+1<=ns.length by omega)
   omega
  have bld:Bd d lead:=by rw [<-hlead];exact qbE bm L
  refine ⟨_,rfl,_,rfl,_,rfl,_,_,_,_,rfl,rfl,hq2,aL,_,_,rfl,rfl,qo5 bwt bld,_,rfl,_,rfl,_,rfl,_,_,rfl,rfl,_,_,_,_,rfl,rfl,ha2,aT,rfl,_,rfl,qck (λce=>?_) (λce=>?_)⟩
  ·refine kN (λ⟨A,hA⟩=>?_) _ s2
   have ce':wt*lead≠F (s+L):=by simpa using ce
   have hX:∀ k,cvL (qa6 A (((List.range c).map G).map ((-1)*·))) (co ms) k=co ns k - cvL ((List.range c).map G) (co ms) k:=λk=>by rw [qaC,qau,<-hA];omega
   have q:=(qqL lm (X:=qa6 A (((List.range c).map G).map ((-1)*·))) (T:=s+1) (λk hk=>by rw [hX,hF2 k ⋯];omega)).2 s rfl
   rw [hX,hL1,hlead,<-hF (s+L) ⋯] at q
   exact ce' (by rw [<-hw,q,Int.mul_fdiv_cancel _ lne])
  have ex:wt*lead=F (s+L):=by simpa using ce
  refine ⟨_,rfl,_,rfl,_,rfl,_,_,_,s,rfl,rfl,hy2,by rw [qbS];exact qfM rfl ⋯,?_⟩
  show qee K _ [some (.ref p),some (.ref q),some (.ref a),some (.int (L:Int)),some (.ref y),some (.int (s:Int)),some (.int wt),w] (upd H2 y (.lst ((qcU c G).set s (V.int wt))))
  have hG':(qcU c G).set s (V.int wt)=qcU c (λj=>if j=s then wt else G j):=qeD ⋯ (if_pos rfl) λj _ hj=>if_neg hj
  rw [hG']
  have s3:Same H (upd H2 y (.lst (qcU c λj=>if j=s then wt else G j))):=λz o h=>Kp.upd z o (qas h nyH) (s2 z o h)
  have ha3:(upd H2 y (.lst (qcU c λj=>if j=s then wt else G j))) a=_:=(qaA nay).trans ha2
  have hy3:(upd H2 y (.lst (qcU c λj=>if j=s then wt else G j))) y=_:=upd_same
  generalize (upd H2 y (.lst (qcU c λj=>if j=s then wt else G j)))=H3 at s3 ha3 hy3 ⊢
  have cvE:∀ k,cvL ((List.range c).map λj=>if j=s then wt else G j) (co ms) k=cvL ((List.range c).map G) (co ms) k+wt*upS s (co ms) k:=λk=>qqM ⋯ (hG s ⋯) _ k
  have fin:∀ (F':Nat->Int) (u v w:Option V) (H4:Hp),Same H H4->H4 a=some (.lst (qcU ns.length F'))->H4 y=some (.lst (qcU c λj=>if j=s then wt else G j))->(∀ k,k<ns.length->F' k=F k - (if s<=k/\k - s<L then wt*co ms (k - s) else 0))->
    Iv (i+1) [some (.ref p),some (.ref q),some (.ref a),some (.int (L:Int)),some (.ref y),u,v,w] H4:=λF' u v w H4 s4 ha4 hy4 eF=>by
   refine ⟨⋯,F',_,u,v,w,rfl,s4,ha4,hy4,λj hj=>?_,λk hk=>?_,λk hk=>?_,λk hk=>?_⟩
   ·show (if j=s then wt else G j)=0
    rw [if_neg ⋯];exact hG j ⋯
   ·rw [eF k ⋯,cvE,hF k ⋯]
    unfold upS
    by_cases h:s<=k
    ·rw [if_pos h,if_pos ⟨h,⋯⟩];omega
    ·rw [if_neg h,if_neg ⋯];omega
   ·rw [cvE]
    by_cases ek:k=s+L
    ·have hf:=hF k ⋯
     rw [ek] at hf ⊢
     unfold upS
     rw [if_pos ⋯,show s+L - s=L by omega,hlead,ex];omega
    ·have h2:=hF2 k ⋯
     rw [h2]
     unfold upS
     by_cases h:s<=k
     ·rw [if_pos h,qaD (a:=ms) ⋯];omega
     ·rw [if_neg h];omega
   ·rw [eF k hk]
    have e2:b+(i+1)*(d+1)=b+i*(d+1)+d+1:=by rw [Nat.add_mul];omega
    rw [e2]
    refine Bd.sub ((bF k hk).mono ⋯) ?_
    split
    ·exact bwt.mul (qbE bm _)
    ·exact qbU _
  refine ⟨_,rfl,rfl,_,rfl,qck (λcw=>?_) (λcw=>?_)⟩
  ·refine ⟨_,rfl,_,rfl,⋯,⋯,?_⟩
   rw [wb2]
   refine ForR.by (λj σ H4=>∃ (u:Option V),σ=[some (.ref p),some (.ref q),some (.ref a),some (.int (L:Int)),some (.ref y),some (.int (s:Int)),some (.int wt),u]/\Same H H4/\H4 a=some (.lst (qcU ns.length λk=>F k - (if s<=k/\k - s<j then wt*co ms (k - s) else 0)))/\H4 y=some (.lst (qcU c λj=>if j=s then wt else G j))) ⟨w,rfl,s3,?_,hy3⟩ ?_ ?_
   ·rw [ha3]
    exact congrArg (λl=>some (HO.lst l)) (qdG λk _=>by rw [if_neg ⋯];omega)
   ·rintro j σ H4 hj ⟨u',rfl,s4,ha4,hy4⟩
    have hq4:=s4 _ _ hq
    have aj:atI (ms.map V.int) (0+(j:Int))=some (V.int (co ms j)):=qcg (j:=j) ⋯ (by rw [qwP];exact qbH _ ⋯)
    refine ⟨_,rfl,_,rfl,_,rfl,_,_,rfl,rfl,_,_,_,_,rfl,rfl,ha4,qcg (j:=s+j) ⋯ (qbH _ ⋯),_,rfl,_,rfl,_,rfl,_,_,_,_,rfl,rfl,hq4,aj,_,_,rfl,rfl,qo5 bwt (qbE bm j),_,_,rfl,rfl,_,_,_,s+j,rfl,rfl,ha4,by rw [qbS];exact qfM ⋯ ⋯,?_⟩
    refine ⟨_,rfl,?_,?_,?_⟩
    ·intro z o h
     exact Kp.upd z o (qas h ha) (s4 z o h)
    ·refine upd_same.trans (congrArg (λl=>some (HO.lst l)) (qeD ⋯ ?_ λk _ hk=>?_))
     ·rw [if_pos ⋯,if_neg ⋯,show s+j - s=j by omega];omega
     ·by_cases h:s<=k/\k - s<j
      ·rw [if_pos h,if_pos ⋯]
      ·rw [if_neg h,if_neg ⋯]
    ·rw [qaA (Ne.symm nay)];exact hy4
   ·rintro σ H4 ⟨u',rfl,s4,ha4,hy4⟩
    exact fin _ _ _ _ _ s4 ha4 hy4 λk _=>rfl
  ·have w0:wt=0:=by simpa using cw
   exact fin F _ _ _ _ s3 ha3 hy3 λk _=>by rw [w0];split <;> omega
 ·rintro σ H2 ⟨_,F,G,u,v,w,rfl,s2,ha2,hy2,hG,hF,hF2,bF⟩
  refine ⟨_,rfl,_,rfl,_,rfl,_,_,rfl,ha2,λz hz=>?_⟩
  have sz2:=qaf hz (.lst (((List.range (min L ns.length)).map F).map V.int))
  refine ⟨z,(List.range (min L ns.length)).map F,rfl,by rw [qjW];exact upd_same,?_⟩
  rw [qjW]
  refine ⟨_,rfl,qck (λce=>?_) (λce=>?_)⟩
  ·refine kN (λ⟨A,hA⟩=>?_) _ (s2.trans sz2)
   have hX:∀ k,cvL (qa6 A (((List.range c).map G).map ((-1)*·))) (co ms) k=co ns k - cvL ((List.range c).map G) (co ms) k:=λk=>by rw [qaC,qau,<-hA];omega
   have q:=(qqL lm (X:=qa6 A (((List.range c).map G).map ((-1)*·))) (T:=0) (λk hk=>by rw [hX,hF2 k ⋯];omega)).1
   have ce':((List.range (min L ns.length)).map F).any (λz=>!decide (z=0))=true:=by simpa using ce
   obtain ⟨z,hz',hz0⟩:=List.any_eq_true.mp ce'
   obtain ⟨k,hk,rfl⟩:=wai.mp hz'
   have hk:=List.mem_range.mp hk
   have e:=hX k
   rw [qbt,qcy ms (λj=>q j (wae j)),<-hF k ⋯] at e
   rw [<-e] at hz0
   simp at hz0
  ·have ce':((List.range (min L ns.length)).map F).any (λz=>!decide (z=0))=false:=by simpa using ce
   have hy3:=sz2 _ _ hy2
   rw [qfO] at hy3
   refine qan rfl (kR y _ _ (s2.trans sz2) hy3 λk=>?_)
   by_cases hk:ns.length - c<=k
   ·exact hF2 k hk
   ·have:=hF k ⋯
    rw [qsM ce' k ⋯] at this
    omega
theorem qnF {K:W.Frag} {a:Addr} {capt:List (Option Nat)} {te:TE} {σ:L2.St} {Q:VK} {H:Hp} {ns:List Int} (F:Int->Int) (hp:H a=some (.lst (ns.map V.int))) (hl:ns.length<=1000)
  (hs:∀ n,n∈ns->∀ P:VK,P (.int (F n)) H->te ((qc6 capt σ).set 0 (some (.int n))) H P) (hd:∀ p,H p=none->Q (.ref p) (upd H p (.lst ((ns.map F).map V.int)))):CompJ (Itl K a) capt (qai 0) te σ Q H:=by
 refine CompJ.lst (xs:=ns.map V.int) (λi ys H'=>i<=ns.length/\H'=H/\ys=((ns.map F).take i).map V.int) ⟨wae _,rfl,rfl⟩ ?_ ?_ ?_
 ·rintro i ys H' ⟨h1,rfl,rfl⟩
  refine ⟨by rw [waa];exact h1,sz ?_,SqL.of hp⟩
  rw [waa,waw];omega
 ·rintro i x ys H' hi ⟨h1,rfl,rfl⟩
  rw [waf] at hi
  cases e:ns[i]? with
  | none=>rw [e] at hi;cases hi
  | some n=>
    rw [e] at hi
    obtain rfl:V.int n=x:=Option.some.inj hi
    have hi2:i<ns.length:=(wap.mp e).1
    show te ((qc6 capt σ).set 0 (some (.int n))) H' _
    refine hs n (wan e) _ ⟨⋯,rfl,?_⟩
    rw [qbR V.int (q:=F n) (by rw [waf,e];rfl)]
 ·rintro ys H' ⟨_,rfl,rfl⟩ p hpn
  have e:(ns.map F).take (ns.map V.int).length=ns.map F:=by rw [waa,show ns.length=(ns.map F).length by rw [waa],wa3]
  rw [e]
  exact hd p hpn
theorem qh3 (h:qbu K vs H Q E):qeM K { nx:=λ_ H'=>Q .non H',rt:=Q } (L2.start ["row","prime"] vs) H:=by
 obtain ⟨p,ns,m,rfl,hp,m0,hl,q⟩:=h
 unfold qeM
 rwa []
 refine ⟨⟨_,SqL.of hp⟩,qnF (·% m) hp hl (λn _ P hP=>?_) q⟩
 rwa []
 exact ⟨m0,hP⟩
theorem qlo {F:Int->Int} (h0:F 0=0) (ns:List Int) (k:Nat):co (ns.map F) k=F (co ns k):=by
 unfold co
 rw [wab,wab,waf]
 cases ns[k]? with
 | none=>exact h0.symm
 | some z=>rfl
theorem qlp {ns:List Int} {z:Int} (h:z∈qed ns):z∈ns:=List.mem_of_mem_take h
theorem qsN (ns:List Int):(qed ns).length<=ns.length:=by rw [qh1];exact qh0 _ _
theorem qb7 (a m:Int):m∣a % m - a:=⟨-(a / m),by have:=Int.emod_add_mul_ediv a m;rw [Int.mul_neg];omega⟩
theorem qjX (h:qbn K vs H Q E):qgy K { nx:=λ_ H'=>Q .non H',rt:=Q } (L2.start ["row","prime"] vs) H:=by
 obtain ⟨p,ns,m,rfl,hp,m0,hl,q⟩:=h
 unfold qgy
 rwa [hp]
 refine ⟨_,rfl,m0,hl,λr hr=>?_⟩
 refine ⟨_,rfl,λt ht=>?_⟩
 refine q t _ _ ((qaf hr _).trans (qaf ht _)) upd_same (qjU _) (wak (qsN _) (by rw [waa];exact wac _)) ⟨λz hz=>?_,λk=>?_⟩
 ·obtain ⟨y,_,rfl⟩:=wai.mp (qlp hz)
  exact ⟨wa5 _ ⋯,wa9 _ m0⟩
 ·rw [qjV,qlo (Int.zero_emod m)]
  exact qb7 _ _
theorem qgc (h:qbd K vs H Q E):qd1 K { nx:=λ_ H'=>Q .non H',rt:=Q } (L2.start ["whole","prime","one","other","one_weight","other_weight","quotient","rest"] vs) H:=by
 obtain ⟨a,p,rfl,p2,bp,q⟩:=h
 unfold qd1 qdp qdo qdn qdm
 rwa []
 refine ⟨⋯,?_⟩
 have a0:=wa5 a (show p≠0 by omega)
 have a1:=wa9 a (show 0<p by omega)
 refine while_by (λn σ H'=>∃ (x y s t:Int) (u v:Option V),σ=[some (.int a),some (.int p),some (.int x),some (.int y),some (.int s),some (.int t),u,v]/\H'=H/\n=y.toNat/\0<=y/\y<x/\x<=p/\
  Int.gcd x y=Int.gcd a p/\p∣x - s*a/\p∣y - t*a/\(t.natAbs:Int)*x+(s.natAbs:Int)*y<=p/\(s.natAbs:Int)<=p) (a % p).toNat ⟨p,a % p,0,1,none,none,rfl,rfl,rfl,a0,a1,Int.le_refl _,?_,⟨1,⋯⟩,?_,by simp,by simp;omega⟩ ?_
 ·rw [qm9 a ⋯]
 ·rw [show a % p - 1*a=a % p - a by omega]
  exact qb7 a p
 ·rintro n σ H' ⟨x,y,s,t,u,v,rfl,rfl,rfl,y0,yx,xp,hg,hs,ht,hb,hsp⟩
  have tx:(t.natAbs:Int)*1<=(t.natAbs:Int)*x:=wcg ⋯ ⋯
  have sy:0<=(s.natAbs:Int)*y:=Int.mul_nonneg ⋯ y0
  have tp:(t.natAbs:Int)<=p:=by omega
  rwa []
  refine qck (λc=>?_) (λc=>?_)
  ·have yp:0<y:=by
    have:y≠0:=by simpa using c
    omega
   unfold qcH qcG qcF qcE qcD qcC qcB
   have q0:=Int.ediv_nonneg (show 0<=x by omega) y0
   have q1:x / y<=x:=Int.ediv_le_self y ⋯
   have r0:=wa5 x (show y≠0 by omega)
   have r1:=wa9 x yp
   have er:x - x / y*y=x % y:=by have:=Int.emod_add_mul_ediv x y;rw [Int.mul_comm] at this;omega
   have B:∀ {z:Int},z.natAbs<=p.natAbs->Bd 60000000 z:=λh=>(bp.le h).mono ∅
   refine ⟨λσ' H''=>∃ m',m'<y.toNat/\_,λ_ _ h=>h,?_⟩
   rwa []
   refine ⟨yp,qo5 (B ⋯) (B ⋯),qo5 (B ⋯) (B ⋯),?_⟩
   refine ⟨(x - x / y*y).toNat,⋯,rfl,⋯,⋯,⋯,?_,ht,?_,?_,tp⟩
   ·rw [er,qm9 x y0];exact hg
   ·obtain ⟨α,hα⟩:=hs
    obtain ⟨β,hβ⟩:=ht
    exact ⟨α - x / y*β,by
     generalize x / y=qq at *
     have e1:x=s*a+p*α:=by omega
     have e2:y=t*a+p*β:=by omega
     rw [e1,e2];grind⟩
   ·have n1:((s - x / y*t).natAbs:Int)<=(s.natAbs:Int)+x / y*(t.natAbs:Int):=by
     have h1:=Int.natAbs_sub_le s (x / y*t)
     rw [war] at h1
     have h2:((x / y).natAbs:Int)=x / y:=by omega
     have h3:(((x / y).natAbs*t.natAbs:Nat):Int)=x / y*(t.natAbs:Int):=by rw [Int.natCast_mul,h2]
     omega
    have n2:=Int.mul_le_mul_of_nonneg_right n1 y0
    rw [er]
    have n3:(t.natAbs:Int)*(x % y)=(t.natAbs:Int)*x - (t.natAbs:Int)*(x / y*y):=by rw [<-er,Int.mul_sub]
    rw [n3]
    generalize (t.natAbs:Int)=tt at *
    generalize (s.natAbs:Int)=ss at *
    generalize x / y=qq at *
    have n4:(ss+qq*tt)*y=ss*y+tt*(qq*y):=by grind
    omega
  ·have yz:y=0:=by simpa using c
   unfold qdl
   rwa []
   refine ⟨⋯,q _ (wa5 _ ⋯) (wa9 _ ⋯) λhc=>?_⟩
   have x1:x=1:=by
    rw [yz] at hg
    rw [Int.gcd_zero_right,hc] at hg
    omega
   obtain ⟨α,hα⟩:=hs
   obtain ⟨γ,hγ⟩:=qb7 s p
   refine ⟨γ*a - α,?_⟩
   have e1:s % p=s+p*γ:=by omega
   rw [e1]
   have e2:s*a=1 - p*α:=by omega
   grind
theorem qh4 (h:qa4 K vs H Q E):qeN K { nx:=λ_ H'=>Q .non H',rt:=Q } (L2.start ["row","prime","factor"] vs) H:=by
 obtain ⟨q,ns,p,rfl,hq,pp,bp,hl,tz,hz,k⟩:=h
 have p2:(2:Int)<=(p:Int):=by have:=pp.two;omega
 unfold qeN
 rwa [hq]
 by_cases hn:ns=[]
 ·subst hn
  refine qck (λ_=>?_) (λc=>absurd rfl c)
  refine ⟨sz ∅,λr hr=>k r [] 0 _ (qaf hr _) upd_same rfl (λz=>absurd rfl z) ⟨λz hz=>(by cases hz),λi=>?_⟩⟩
  show (p:Int)∣co [] i - 0*co [] i
  rw [qaD (wae _)];exact ⟨0,⋯⟩
 have l0:0<ns.length:=waq.mpr hn
 refine qck (λc=>absurd c (by simpa using hn)) (λ_=>?_)
 have aL:=qem l0
 rwa [aL]
 refine ⟨p2,bp,λf f0 f1 hf=>?_⟩
 have lne:co ns (ns.length - 1)≠0:=by
  rcases tz with h | h
  ·exact absurd h hn
  ·exact h
 have lz:0<=co ns (ns.length - 1)/\co ns (ns.length - 1)<(p:Int):=hz _ (by
  unfold co
  rw [wab,wah ⋯]
  exact wb0 _)
 have gc:Int.gcd (co ns (ns.length - 1)) (p:Int)=1:=pp.cop λz=>by
  have:=wbu ⋯ z
  omega
 have hf:=hf gc
 have B:∀ {z:Int},0<=z->z<(p:Int)->Bd 60000000 z:=λh1 h2=>(bp.le ⋯).mono ∅
 refine ⟨⟨_,SqL.of hq⟩,qnF (λn=>n*f % (p:Int)) hq hl (λn hn P hP=>?_) λr hr=>?_⟩
 ·rwa []
  exact ⟨qo5 (B (hz n hn).1 (hz n hn).2) (B f0 f1),⋯,hP⟩
 ·have cm:∀ i,co (ns.map λn=>n*f % (p:Int)) i=co ns i*f % (p:Int):=λi=>qlo (F:=λn=>n*f % (p:Int)) (by simp) ns i
  refine k r _ f _ (qaf hr _) upd_same (waa ..) (λ_=>?_) ⟨λz hz=>?_,λi=>?_⟩
  ·rw [waa,cm]
   obtain ⟨c,hc⟩:=hf
   have e:co ns (ns.length - 1)*f=1+(p:Int)*c:=by rw [Int.mul_comm];omega
   rw [e,Int.add_mul_emod_self_left]
   exact Int.emod_eq_of_lt ∅ ⋯
  ·obtain ⟨y,_,rfl⟩:=wai.mp hz
   exact ⟨wa5 _ ⋯,wa9 _ ⋯⟩
  ·rw [cm]
   show (p:Int)∣co ns i*f % (p:Int) - f*co ns i
   rw [Int.mul_comm f]
   exact qb7 _ _
theorem qoC (h:qcZ K vs H Q E):qk6 K { nx:=λ_ H'=>Q .non H',rt:=Q } (L2.start ["whole","prime","rest"] vs) H:=by
 obtain ⟨w,p,rfl,p0,k⟩:=h
 unfold qk6
 rwa []
 have r0:=wa5 w (show p≠0 by omega)
 have r1:=wa9 w p0
 have rd:=qb7 w p
 refine ⟨p0,IntMulOk.of_left (intBits_le_64 ⋯ ⋯),qck (λc=>?_) (λc=>?_)⟩
 ·refine k _ ?_ ⋯
  obtain ⟨γ,hγ⟩:=rd
  exact ⟨γ - 1,by rw [Int.mul_sub];omega⟩
 ·exact k _ rd ⋯
theorem qiK (h:qbG K vs H Q E):qfJ K { nx:=λ_ H'=>Q .non H',rt:=Q } (L2.start ["row","divisor","modulus"] vs) H:=by
 obtain ⟨p,q,ns,ms,m,b,rfl,hp,hq,m0,ml,mp,bm,bms,bb,hn,hm,k⟩:=h
 unfold qfJ
 rwa [hp,hq]
 refine ⟨ns,rfl,ms,rfl,m0,ml,mp,b,bm,bms,bb,hn,hm,λt r s qs rs H' sH ht hr hs tq tr lr md _=>?_⟩
 refine ⟨_,ht,?_⟩
 rwa []
 exact k s qs rs H' sH hs tr lr md
theorem qgW (h:qbj K vs H Q E):qej K { nx:=λ_ H'=>Q .non H',rt:=Q } (L2.start ["row","other","prime","rest"] vs) H:=by
 obtain ⟨a,b,ns,ms,p,rfl,ha,hb,pp,bp,hn,hm,h0,k⟩:=h
 have p2:(2:Int)<=(p:Int):=by have:=pp.two;omega
 unfold qej
 rwa [ha]
 refine ⟨ns,rfl,⋯,hn,λc r1 H1 s1 hc tz1 l1 md1=>?_⟩
 refine ⟨r1,p,rfl,hc,pp,bp,⋯,tz1,md1.1,λd r2 f H2 s2 hd l2 o2 md2=>?_⟩
 have hb2:=s2 _ _ (s1 _ _ hb)
 rwa [hb2]
 refine ⟨ms,rfl,⋯,hm,λc' r3 H3 s3 hc' tz3 l3 md3=>?_⟩
 refine ⟨r3,p,rfl,hc',pp,bp,⋯,tz3,md3.1,λd' r4 f' H4 s4 hd' l4 o4 md4=>?_⟩
 have s04:Same H H4:=((s1.trans s2).trans s3).trans s4
 have hd4:=(s3.trans s4) _ _ hd
 have step:∀ {g h:Nat->Int} {rs:List Int} {f:Int},Dm (p:Int) g h->Md (p:Int) rs (λk=>f*h k)->Dm (p:Int) g (co rs):=λ{g h rs f} d md=>by
  refine Dm.congr (Dm.less d d f 0 0) λk=>?_
  have:=md.2 k
  show (p:Int)∣co rs k - (f*h k - 0*_)
  rw [Int.zero_mul,Int.sub_zero]
  exact this
 have nz:∀ {xs rs rs2:List Int} {f:Int},(∃ k,¬ (p:Int)∣co xs k)->Md (p:Int) rs (co xs)->rs2.length=rs.length->0<rs2.length:=λ{xs rs rs2 f} ⟨k,hk⟩ md e=>by
  rcases wbr rs2.length with z | z
  ·exfalso
   have:=md.2 k
   rw [qaD ⋯] at this
   have t2:=Int.dvd_neg.mpr this
   rw [show ∀ x:Int,-(0 - x)=x by intro x;omega] at t2
   exact hk t2
  ·exact z
 have M1:∀ {xs rs:List Int},Md (p:Int) rs (co xs)->∀ {g:Nat->Int},Dm (p:Int) g (co xs)->Dm (p:Int) g (co rs):=λmd g d=>Dm.congr d md.2
 have back1:∀ {g:Nat->Int} {r r2:List Int} {f:Int},Md (p:Int) r2 (λk=>f*co r k)->r2.length=r.length->(r≠[]->co r2 (r2.length - 1)=1)->Dm (p:Int) g (co r2)->Dm (p:Int) g (co r):=λ{g r r2 f} md l o d=>by
  by_cases r0:r=[]
  ·exact Dm.zero _ _ λk=>by rw [r0,qaD (wae _)];exact wbd _
  ·refine Dm.congr (Dm.less d d (co r (r.length - 1)) 0 0) λk=>?_
   show (p:Int)∣co r k - (co r (r.length - 1)*co r2 k - 0*_)
   rw [Int.zero_mul,Int.sub_zero]
   have h1:=md.2 k
   have h2:=md.2 (r2.length - 1)
   rw [o r0,l] at h2
   have q1:(p:Int)∣co r (r.length - 1)*(co r2 k - f*co r k):=wb6 h1
   have q2:(p:Int)∣co r k*(1 - f*co r (r.length - 1)):=wb6 h2
   refine wa0 (Int.dvd_sub q2 q1) (qsK ?_)
   grind
 have back:∀ {g:Nat->Int} {xs r r2:List Int} {f:Int},Md (p:Int) r (co xs)->Md (p:Int) r2 (λk=>f*co r k)->r2.length=r.length->(r≠[]->co r2 (r2.length - 1)=1)->Dm (p:Int) g (co r2)->Dm (p:Int) g (co xs):=λ{g xs r r2 f} md1 md l o d=>Dm.congr (back1 md l o d) λk=>by
  have:=Int.dvd_neg.mpr (md1.2 k)
  refine wa0 this (qsK ?_)
  omega
 refine while_by (λm σ H'=>∃ (x y:Addr) (xs ys:List Int) (u:Option V),σ=[some (.ref x),some (.ref y),some (.int (p:Int)),u]/\Same H H'/\H' x=some (.lst (xs.map V.int))/\H' y=some (.lst (ys.map V.int))/\m=ys.length/\xs.length<=1000/\ys.length<=1000/\(0<xs.length\/0<ys.length)/\(xs≠[]->co xs (xs.length - 1)=1)/\(ys≠[]->co ys (ys.length - 1)=1)/\(∀ z∈xs,0<=z/\z<(p:Int))/\(∀ z∈ys,0<=z/\z<(p:Int))/\
  (∀ g:Nat->Int,Dm (p:Int) g (co ns)->Dm (p:Int) g (co ms)->Dm (p:Int) g (co xs)/\Dm (p:Int) g (co ys))/\(∀ g:Nat->Int,Dm (p:Int) g (co xs)->Dm (p:Int) g (co ys)->Dm (p:Int) g (co ns)/\Dm (p:Int) g (co ms))) r4.length ⟨d,d',r2,r4,none,rfl,s04,hd4,hd',rfl,⋯,⋯,?_,?_,?_,md2.1,md4.1,λg d1 d2=>⟨step (M1 md1 d1) md2,step (M1 md3 d2) md4⟩,λg d1 d2=>⟨back md1 md2 l2 o2 d1,back md3 md4 l4 o4 d2⟩⟩ ?_
 ·rcases h0 with h | h
  ·exact .inl (nz (f:=f) h md1 l2)
  ·exact .inr (nz (f:=f) h md3 l4)
 ·intro z
  exact o2 λe=>z (waz.mp (by rw [l2,e];rfl))
 ·intro z
  exact o4 λe=>z (waz.mp (by rw [l4,e];rfl))
 ·rintro m σ H' ⟨x,y,xs,ys,u,rfl,sH,hx,hy,rfl,xl,yl,ne,ox,oy,bx,bY,hD,hE⟩
  rwa [hy]
  by_cases hys:ys=[]
  ·subst hys
   refine qck (λc=>absurd c (by simp)) (λ_=>?_)
   have x0:0<xs.length:=by simpa using ne
   have rfx:Dm (p:Int) (co xs) (co xs):=⟨[1],λk=>by
    have e:cvL [1] (co xs) k=co xs k:=by
     cases k with
     | zero=>rw [qar];omega
     | succ k=>rw [qao,qaG];omega
    rw [e,Int.sub_self];exact wbd _⟩
   have zz:Dm (p:Int) (co xs) (co []):=Dm.zero _ _ λk=>by rw [qaD (wae _)];exact wbd _
   exact k x xs H' sH hx x0 xl (ox (waq.mp x0)) bx (λg d1 d2=>(hD g d1 d2).1) (hE _ rfx zz).1 (hE _ rfx zz).2
  ·have y0:0<ys.length:=waq.mpr hys
   refine qck (λ_=>?_) (λc=>absurd hys (by simpa using c))
   refine ⟨λσ' H''=>∃ m',m'<ys.length/\_,λ_ _ h=>h,?_⟩
   rwa [hx,hy]
   have B:∀ z:Int,0<=z->z<(p:Int)->Bd 45000 z:=λz h1 h2=>bp.le ⋯
   refine ⟨xs,rfl,ys,rfl,y0,oy hys,⋯,45000,bp,λz hz=>B z (bY z hz).1 (bY z hz).2,∅,xl,yl,λs qs rs H2 sH2 hs trs lrs md=>?_⟩
   have whole:∀ g:Nat->Int,Dm (p:Int) g (co ys)->Dm (p:Int) g (co rs)->Dm (p:Int) g (co xs):=λg d1 d2=>by
    obtain ⟨S1,h1⟩:=d1
    obtain ⟨S2,h2⟩:=d2
    refine ⟨qa6 S2 (qaO qs S1),λk=>?_⟩
    rw [qaC,qav]
    have e1:=cvD h1 qs k
    have m2:(p:Int)∣co rs k - (co xs k - cvL qs (co ys) k):=md.2 k
    have:=wbc (Int.dvd_sub (h2 k) m2) e1
    refine wa0 this (qsK ?_)
    omega
   refine ⟨rs,p,rfl,hs,pp,bp,⋯,trs,md.1,λt ts f H3 sH3 ht lt ot mdt=>?_⟩
   refine ⟨ts.length,⋯,(sH.trans sH2).trans sH3,ys,(sH2.trans sH3) _ _ hy,ts,ht,rfl,yl,⋯,.inl y0,oy,λz=>ot λe=>z (waz.mp (by rw [lt,e];rfl)),bY,mdt.1,λg d1 d2=>⟨(hD g d1 d2).2,?_⟩,λg d1 d2=>hE g (whole g d1 (back1 mdt lt ot d2)) d1⟩
   obtain ⟨dx,dy⟩:=hD g d1 d2
   have dr:Dm (p:Int) g (co rs):=by
    obtain ⟨S1,h1⟩:=dx
    obtain ⟨S2,h2⟩:=dy
    refine Dm.congr (f:=λk=>co xs k - cvL qs (co ys) k) ⟨qa6 S1 ((qaO qs S2).map (-1*·)),λk=>?_⟩ md.2
    rw [qaC,qau,qav]
    have e:(p:Int)∣cvL qs (co ys) k - cvL qs (cvL S2 g) k:=by
     have lin:∀ (A:List Int) (k:Nat),(p:Int)∣cvL A (co ys) k - cvL A (cvL S2 g) k:=by
      intro A
      induction A with
      | nil=>intro k;rw [qaG,qaG];exact ⟨0,⋯⟩
      | cons a A ih=>
        intro k
        rw [qdi,qdi]
        have i2:(p:Int)∣up1 (cvL A (co ys)) k - up1 (cvL A (cvL S2 g)) k:=by
         cases k with
         | zero=>exact ⟨0,by show (0:Int) - 0=_;omega⟩
         | succ k=>exact ih k
        have i1:(p:Int)∣a*(co ys k - cvL S2 g k):=wb6 (h2 k)
        have:=wbc i1 i2
        rw [show a*(co ys k - cvL S2 g k)+(up1 (cvL A (co ys)) k - up1 (cvL A (cvL S2 g)) k)=a*co ys k+up1 (cvL A (co ys)) k - (a*cvL S2 g k+up1 (cvL A (cvL S2 g)) k) by rw [Int.mul_sub];omega] at this
        exact this
     exact lin qs k
    have:=Int.dvd_sub (h1 k) e
    rw [show co xs k - cvL S1 g k - (cvL qs (co ys) k - cvL qs (cvL S2 g) k)=co xs k - cvL qs (co ys) k - (cvL S1 g k + -1*cvL qs (cvL S2 g) k) by omega] at this
    exact this
   exact step dr mdt
theorem qh5 (h:qbv K vs H Q E):qiv K { nx:=λ_ H'=>Q .non H',rt:=Q } (L2.start ["row","divisor","modulus","rest","last","quotient","shift","weight","place"] vs) H:=by
 obtain ⟨p,q,ns,ms,m,b,rfl,hp,hq,m0,ml,mp,bm,bms,bb,hn,hm,kR⟩:=h
 obtain ⟨L,hL⟩:∃ L,ms.length=L+1:=⟨ms.length - 1,⋯⟩
 have hL1:ms.length - 1=L:=by omega
 rw [hL1] at ml
 generalize hc:ns.length - L=c
 refine qcp (qjG (qan rfl ⟨_,_,rfl,hp,λa ha=>?_⟩))
 have sa:=qaf ha (.lst (ns.map V.int))
 have hpa:=sa _ _ hp
 have hqa:=sa _ _ hq
 have ela:((List.map V.int ms).length:Int) - 1=(L:Int):=by rw [waa];omega
 refine ⟨_,rfl,_,_,rfl,hqa,_,_,rfl,rfl,?_⟩
 show qd3 K _ [some (.ref p),some (.ref q),some (.int m),some (.ref a),some (.int (((List.map V.int ms).length:Int) - 1)),none,none,none,none] _
 rw [ela]
 refine qcp (qcO (qgv (r_c ⟨qjH,λx hx=>?_⟩)))
 have hpx:=qaf hx (.lst [.int 0]) _ _ hpa
 have hmax:(if (0:Int) > ((List.map V.int ns).length:Int) - (L:Int) then (0:Int) else ((List.map V.int ns).length:Int) - (L:Int))=(c:Int):=by
  rw [waa];split <;> omega
 refine ⟨_,rfl,_,_,rfl,hpx,_,rfl,_,_,rfl,rfl,_,_,rfl,?_⟩
 refine ⟨_,(c:Int),_,rfl,congrArg V.int hmax,upd_same,⋯,⋯,sz (by simp;omega),λy hy=>?_⟩
 refine up3 ha hx hy λH1 hay hyy sH nay nyH=>?_
 rw [qwP ns] at hay
 rw [wb2,qjR] at hyy
 have hp1:=sH _ _ hp
 have elo:((List.map V.int ns).length:Int) - (L:Int) - 1=(ns.length:Int) - (L:Int) - 1:=by rw [waa]
 have ecn:((ns.length:Int) - (L:Int) - 1 - -1).toNat=c:=by omega
 refine qtF ?_
 refine ⟨_,rfl,_,_,rfl,hp1,_,rfl,_,_,rfl,rfl,_,_,rfl,rfl,_,rfl,_,rfl,(ns.length:Int) - (L:Int) - 1,_,by rw [<-elo],⟨⋯,⋯,∅,∅⟩,?_⟩
 rw [ecn]
 let Iv:Nat->L2.St->Hp->Prop:=λi σ H2=>i<=c/\∃ (F G:Nat->Int) (u v w:Option V),σ=[some (.ref p),some (.ref q),some (.int m),some (.ref a),some (.int (L:Int)),some (.ref y),u,v,w]/\Same H H2/\H2 a=some (.lst (qcU ns.length F))/\H2 y=some (.lst (qcU c G))/\
  (∀ j,j<c - i->G j=0)/\(∀ k,k<ns.length - i->m∣F k - (co ns k - cvL ((List.range c).map G) (co ms) k))/\(∀ k,ns.length - i<=k->m∣co ns k - cvL ((List.range c).map G) (co ms) k)/\(∀ j,j<c->0<=G j/\G j<m)
 refine ForJ.down Iv ⟨wae _,co ns,λ_=>0,none,none,none,rfl,sH,hay,hyy,λ_ _=>rfl,λk _=>by rw [qhj];exact ⟨0,⋯⟩,λk hk=>by rw [qhj,qaD ⋯];exact ⟨0,⋯⟩,λk _=>⟨Int.le_refl 0,mp⟩⟩ ?_ ?_
 ·rintro i σ H2 hi ⟨_,F,G,u,v,w,rfl,s2,ha2,hy2,hG,hF,hF2,bG⟩
  have hq2:=s2 _ _ hq
  have ic:i<c:=hi
  have esh:((ns.length:Int) - (L:Int) - 1 - (i:Int))=((c - 1 - i:Nat):Int):=by omega
  rw [esh]
  generalize hs:c - 1 - i=s
  have hst:s+L=ns.length - 1 - i:=by omega
  have aT:atI (qcU ns.length F) ((s:Int)+(L:Int))=some (V.int (F (s+L))):=qcg (j:=s+L) ⋯ (qbH F ⋯)
  refine ⟨_,rfl,_,rfl,_,rfl,_,_,rfl,rfl,_,_,_,_,rfl,rfl,ha2,aT,_,rfl,_,_,rfl,rfl,mp,?_⟩
  show qc9 K _ [some (.ref p),some (.ref q),some (.int m),some (.ref a),some (.int (L:Int)),some (.ref y),some (.int (s:Int)),some (.int (F (s+L) % m)),w] H2
  have w0:=wa5 (F (s+L)) (show m≠0 by omega)
  have w1:=wa9 (F (s+L)) mp
  have wd:=qb7 (F (s+L)) m
  generalize hw:F (s+L) % m=wt at w0 w1 wd ⊢
  have bwt:Bd b wt:=bm.le ⋯
  refine ⟨_,rfl,_,rfl,_,rfl,_,_,_,s,rfl,rfl,hy2,by rw [qbS];exact qfM rfl ⋯,?_⟩
  show qc8 K _ [some (.ref p),some (.ref q),some (.int m),some (.ref a),some (.int (L:Int)),some (.ref y),some (.int (s:Int)),some (.int wt),w] (upd H2 y (.lst ((qcU c G).set s (V.int wt))))
  rw [show (qcU c G).set s (V.int wt)=qcU c (λj=>if j=s then wt else G j) from qeD ⋯ (if_pos rfl) λj _ hj=>if_neg hj]
  have s3:Same H (upd H2 y (.lst (qcU c λj=>if j=s then wt else G j))):=λz o h=>Kp.upd z o (qas h nyH) (s2 z o h)
  have ha3:(upd H2 y (.lst (qcU c λj=>if j=s then wt else G j))) a=_:=(qaA nay).trans ha2
  have hy3:(upd H2 y (.lst (qcU c λj=>if j=s then wt else G j))) y=_:=upd_same
  generalize (upd H2 y (.lst (qcU c λj=>if j=s then wt else G j)))=H3 at s3 ha3 hy3 ⊢
  have cvE:∀ k,cvL ((List.range c).map λj=>if j=s then wt else G j) (co ms) k=cvL ((List.range c).map G) (co ms) k+wt*upS s (co ms) k:=λk=>qqM ⋯ (hG s ⋯) _ k
  have fin:∀ (F':Nat->Int) (u v w:Option V) (H4:Hp),Same H H4->H4 a=some (.lst (qcU ns.length F'))->H4 y=some (.lst (qcU c λj=>if j=s then wt else G j))->(∀ k,k<ns.length->F' k=F k - (if s<=k/\k - s<L then wt*co ms (k - s) else 0))->
    Iv (i+1) [some (.ref p),some (.ref q),some (.int m),some (.ref a),some (.int (L:Int)),some (.ref y),u,v,w] H4:=λF' u v w H4 s4 ha4 hy4 eF=>by
   refine ⟨⋯,F',_,u,v,w,rfl,s4,ha4,hy4,λj hj=>?_,λk hk=>?_,λk hk=>?_,λj hj=>?_⟩
   ·show (if j=s then wt else G j)=0
    rw [if_neg ⋯];exact hG j ⋯
   ·have hf:=hF k ⋯
    rw [eF k ⋯,cvE]
    unfold upS
    by_cases h:s<=k
    ·rw [if_pos h,if_pos ⟨h,⋯⟩]
     rw [show ∀ x y z w:Int,x - y - (z - (w+y))=x - (z - w) by intro x y z w;omega]
     exact hf
    ·rw [if_neg h,if_neg ⋯]
     rw [show ∀ x z w:Int,x - 0 - (z - (w+wt*0))=x - (z - w) by intro x z w;omega]
     exact hf
   ·rw [cvE]
    by_cases ek:k=s+L
    ·have hf:=hF k ⋯
     rw [ek] at hf ⊢
     unfold upS
     rw [if_pos ⋯,show s+L - s=L by omega,ml]
     obtain ⟨α,hα⟩:=hf
     obtain ⟨β,hβ⟩:=wd
     exact ⟨-α - β,by rw [Int.mul_sub,Int.mul_neg];omega⟩
    ·have h2:=hF2 k ⋯
     unfold upS
     by_cases h:s<=k
     ·rw [if_pos h,qaD (a:=ms) ⋯,Int.mul_zero,Int.add_zero];exact h2
     ·rw [if_neg h,Int.mul_zero,Int.add_zero];exact h2
   ·show 0<=(if j=s then wt else G j)/\(if j=s then wt else G j)<m
    split
    ·exact ⟨w0,w1⟩
    ·exact bG j hj
  refine ⟨_,rfl,rfl,_,rfl,qck (λcw=>?_) (λcw=>?_)⟩
  ·refine ⟨_,rfl,_,rfl,⋯,⋯,?_⟩
   rw [wb2]
   refine ForR.by (λj σ H4=>∃ (u:Option V),σ=[some (.ref p),some (.ref q),some (.int m),some (.ref a),some (.int (L:Int)),some (.ref y),some (.int (s:Int)),some (.int wt),u]/\Same H H4/\H4 a=some (.lst (qcU ns.length λk=>F k - (if s<=k/\k - s<j then wt*co ms (k - s) else 0)))/\H4 y=some (.lst (qcU c λj=>if j=s then wt else G j))) ⟨w,rfl,s3,?_,hy3⟩ ?_ ?_
   ·rw [ha3]
    exact congrArg (λl=>some (HO.lst l)) (qdG λk _=>by rw [if_neg ⋯];omega)
   ·rintro j σ H4 hj ⟨u',rfl,s4,ha4,hy4⟩
    have hq4:=s4 _ _ hq
    have aj:atI (ms.map V.int) (0+(j:Int))=some (V.int (co ms j)):=qcg (j:=j) ⋯ (by rw [qwP];exact qbH _ ⋯)
    refine ⟨_,rfl,_,rfl,_,rfl,_,_,rfl,rfl,_,_,_,_,rfl,rfl,ha4,qcg (j:=s+j) ⋯ (qbH _ ⋯),_,rfl,_,rfl,_,rfl,_,_,_,_,rfl,rfl,hq4,aj,_,_,rfl,rfl,qo5 bwt (qbE bms j),_,_,rfl,rfl,_,_,_,s+j,rfl,rfl,ha4,by rw [qbS];exact qfM ⋯ ⋯,?_⟩
    refine ⟨_,rfl,?_,?_,?_⟩
    ·intro z o h
     exact Kp.upd z o (qas h ha) (s4 z o h)
    ·refine upd_same.trans (congrArg (λl=>some (HO.lst l)) (qeD ⋯ ?_ λk _ hk=>?_))
     ·rw [if_pos ⋯,if_neg ⋯,show s+j - s=j by omega];omega
     ·by_cases h:s<=k/\k - s<j
      ·rw [if_pos h,if_pos ⋯]
      ·rw [if_neg h,if_neg ⋯]
    ·rw [qaA (Ne.symm nay)];exact hy4
   ·rintro σ H4 ⟨u',rfl,s4,ha4,hy4⟩
    exact fin _ _ _ _ _ s4 ha4 hy4 λk _=>rfl
  ·have w0':wt=0:=by simpa using cw
   exact fin F _ _ _ _ s3 ha3 hy3 λk _=>by rw [w0'];split <;> omega
 ·rintro σ H2 ⟨_,F,G,u,v,w,rfl,s2,ha2,hy2,hG,hF,hF2,bG⟩
  rw [qfO] at hy2
  show qd2 K _ _ _
  refine qdu (qbm (qco ⟨_,rfl,_,_,rfl,hy2,λt ht=>?_⟩))
  have st:=qaf ht (.lst (List.map V.int (qed (List.map G (List.range c)))))
  have ha3:=st _ _ ha2
  have htt:upd H2 t (.lst (List.map V.int (qed (List.map G (List.range c))))) t=_:=upd_same
  generalize upd H2 t (.lst (List.map V.int (qed (List.map G (List.range c)))))=H3 at st ha3 htt ⊢
  refine qbs ⟨_,rfl,_,rfl,_,rfl,_,_,rfl,ha3,λz hz=>⟨_,rfl,z,(List.range (min L ns.length)).map F,m,rfl,by rw [qjW];exact upd_same,mp,by rw [waa,wal];omega,λr rs H4 s4 hr4 tr lr md=>?_⟩⟩
  have sz2:=(qaf hz _).trans s4
  rw [waa,wal] at lr
  refine ⟨qcP,λe he=>?_⟩
  have se:=qaf he (.tup [.ref t,.ref r])
  have cq:∀ k,cvL (qed ((List.range c).map G)) (co ms) k=cvL ((List.range c).map G) (co ms) k:=λk=>by
   rw [qbt,qaq (λj=>qjV _ j) ms k,<-qbt]
  refine kR e t r _ rs _ ((s2.trans st).trans (sz2.trans se)) upd_same (se _ _ (sz2 _ _ htt)) (se _ _ hr4) (qjU _) tr ⋯ ⟨md.1,λk=>?_⟩ λz hz=>?_
  ·have:=md.2 k
   rw [qhb] at this
   show m∣co rs k - (co ns k - cvL (qed ((List.range c).map G)) (co ms) k)
   rw [cq]
   by_cases hk:k<min L ns.length
   ·rw [if_pos hk] at this
    have h2:=wbc this (hF k ⋯)
    rw [show ∀ x y z:Int,x - y+(y - z)=x - z by intro x y z;omega] at h2
    exact h2
   ·rw [if_neg hk] at this
    have h2:=Int.dvd_sub this (hF2 k ⋯)
    rw [show ∀ x y:Int,x - 0 - y=x - y by intro x y;omega] at h2
    exact h2
  ·obtain ⟨j,hj,rfl⟩:=wai.mp (qlp hz)
   exact bG j (List.mem_range.mp hj)
theorem SDs.tp {H H':Hp} (s:Same H H'):∀ {xs:List V} {rs:List (List Int)},SDs H xs rs->SDs H' xs rs
 | [],[],_=>trivial
 | _::_,_::_,h=>⟨let ⟨p,e,q⟩:=h.1;⟨p,e,s _ _ q⟩,SDs.tp s h.2⟩
 | [],_::_,h=>h.elim
 | _::_,[],h=>h.elim
theorem SD.tp {H H':Hp} (s:Same H H') {p:Addr} {rs:List (List Int)} (h:SD H p rs):SD H' p rs:=let ⟨xs,e,q⟩:=h;⟨xs,s _ _ e,q.tp s⟩
theorem SDs.length {H:Hp}:∀ {xs:List V} {rs:List (List Int)},SDs H xs rs->xs.length=rs.length
 | [],[],_=>rfl
 | _::_,_::_,h=>congrArg (·+1) (SDs.length h.2)
 | [],_::_,h=>h.elim
 | _::_,[],h=>h.elim
theorem SDs.get {H:Hp}:∀ {xs:List V} {rs:List (List Int)} {i:Nat} {v:V},SDs H xs rs->xs[i]?=some v->∃ p r,v=.ref p/\rs[i]?=some r/\H p=some (.lst (r.map V.int))
 | [],[],_,_,_,e=>by simp at e
 | _::_,r::_,0,_,h,e=>by
   simp at e;subst e
   obtain ⟨p,e,q⟩:=h.1
   exact ⟨p,r,e,rfl,q⟩
 | _::_,_::_,i+1,_,h,e=>by
   obtain ⟨p,r,h1,h2,h3⟩:=SDs.get (i:=i) h.2 (by simpa using e)
   exact ⟨p,r,h1,by simpa using h2,h3⟩
 | [],_::_,_,_,h,_=>h.elim
 | _::_,[],_,_,h,_=>h.elim
theorem SDs.snoc {H:Hp} {p:Addr} {r:List Int} (hp:H p=some (.lst (r.map V.int))):∀ {xs:List V} {rs:List (List Int)},SDs H xs rs->SDs H (xs++[.ref p]) (rs++[r])
 | [],[],_=>⟨⟨p,rfl,hp⟩,trivial⟩
 | _::_,_::_,h=>⟨h.1,SDs.snoc hp h.2⟩
 | [],_::_,h=>h.elim
 | _::_,[],h=>h.elim
theorem SD.head {H:Hp} {p:Addr} {r:List Int} {rs:List (List Int)} (h:SD H p (r::rs)):∃ a xs,H p=some (.lst (.ref a::xs))/\H a=some (.lst (r.map V.int))/\SDs H (.ref a::xs) (r::rs):=by
 obtain ⟨xs,e,q⟩:=h
 match xs,q with
 | [],q=>exact q.elim
 | x::xs,q=>
   obtain ⟨a,e1,e2⟩:=q.1
   subst e1
   exact ⟨a,xs,e,e2,q⟩
theorem qeE {α:Type} (x:α) (xs:List α):atI (x::xs) 0=some x:=by
 unfold atI ixN
 rw [if_pos ∅,if_pos (by rw [way];omega)]
 rfl
theorem qfb (h:qaQ K vs H Q E):qdk K { nx:=λ_ H'=>Q .non H',rt:=Q } (L2.start ["strand","shared","row"] vs) H:=by
 obtain ⟨p,rows,rfl,⟨xs,hp,hS⟩,hl,hr,k⟩:=h
 have lx:=hS.length
 unfold qdk
 rwa []
 refine ⟨⟨_,SqL.of hp⟩,ForL.by (xs:=xs) (λi σ H'=>∃ (g:Int) (u:Option V),σ=[some (.ref p),some (.int g),u]/\Same H H'/\0<=g/\(∀ r∈rows.take i,∀ z∈r,g∣z)/\(∀ d:Int,(∀ r∈rows.take i,∀ z∈r,d∣z)->d∣g)) ⟨0,none,rfl,Same.refl H,Int.le_refl 0,λr hr=>(by simp at hr),λd _=>wbd d⟩ ?_ ?_ ?_⟩
 ·rintro i σ H' _ ⟨g,u,rfl,s,_⟩
  exact SqL.of (s _ _ hp)
 ·rintro i x σ H' hi ⟨g,u,rfl,s,g0,g1,g2⟩
  obtain ⟨a,r,rfl,hri,ha⟩:=hS.get hi
  have ha':=s _ _ ha
  have hrm:=hr r (wan hri)
  rwa [ha']
  refine ⟨r,rfl,hrm.1,λg' H2 s2 g0' d1 d2 d3=>?_⟩
  have et:rows.take (i+1)=rows.take i++[r]:=by rw [List.take_add_one,hri];rfl
  refine ⟨s.trans s2,g0',λr' hr' z hz=>?_,λd hd=>d3 d ?_ λz hz=>?_⟩
  ·rw [et] at hr'
   rcases wa7.mp hr' with h | h
   ·exact wa0 d1 (g1 r' h z hz)
   ·rw [wag.mp h] at hz;exact d2 z hz
  ·exact g2 d λr' hr' z hz=>hd r' (by rw [et];exact List.mem_append_left _ hr') z hz
  ·exact hd r (by rw [et];exact wa8 _ (wag.mpr rfl)) z hz
 ·rintro σ H' ⟨g,u,rfl,s,g0,g1,g2⟩
  rw [lx,wa3] at g1 g2
  have hp':=s _ _ hp
  have gz:∀ r∈rows,0<g\/r=[]:=λr hrr=>by
   rcases Int.lt_or_le 0 g with h | h
   ·exact .inl h
   ·right
    have ge:g=0:=by omega
    rcases (hr r hrr).2 with h | h
    ·exact h
    ·exfalso
     by_cases hl0:r.length=0
     ·rw [qaD ⋯] at h;exact h rfl
     ·have:=g1 r hrr (co r (r.length - 1)) (by
       unfold co
       rw [wab,wah ⋯]
       exact wb0 _)
      rw [ge] at this
      exact h (Int.zero_dvd.mp this)
  rwa []
  refine ⟨⟨_,SqL.of hp'⟩,CompJ.lst (xs:=xs) (λi ys H2=>i<=rows.length/\Same H H2/\SDs H2 ys ((rows.take i).map λr=>r.map (·/ g))) ⟨wae _,s,trivial⟩ ?_ ?_ ?_⟩
  ·rintro i ys H2 ⟨h1,s2,hy⟩
   refine ⟨⋯,sz ?_,SqL.of (s2 _ _ hp)⟩
   rw [hy.length,waa,waw];omega
  ·rintro i x ys H2 hi ⟨h1,s2,hy⟩
   obtain ⟨a,r,rfl,hri,ha⟩:=hS.get hi
   have ha':=s2 _ _ ha
   have hrm:=hr r (wan hri)
   have hi2:i<rows.length:=(wap.mp hri).1
   rwa [ha']
   refine ⟨r,rfl,gz r (wan hri),hrm.1,λt ht=>?_⟩
   refine ⟨⋯,s2.trans (qaf ht _),?_⟩
   have et:(rows.take (i+1)).map (λr=>r.map (·/ g))=(rows.take i).map (λr=>r.map (·/ g))++[r.map (·/ g)]:=by rw [List.take_add_one,hri];simp
   rw [et]
   exact SDs.snoc upd_same (hy.tp (qaf ht _))
  ·rintro ys H2 ⟨_,s2,hy⟩ t ht
   rw [lx,wa3] at hy
   have st:=qaf ht (.lst ys)
   by_cases gp:0<g
   ·refine k t _ _ (s2.trans st) ⟨ys,upd_same,hy.tp st⟩ ⟨g,gp,?_⟩ (.inr λd hd=>?_)
    ·rw [List.map_map]
     conv=>lhs;rw [<-List.map_id rows]
     refine wb1 λr hrr=>?_
     show r=(r.map (·/ g)).map (g*·)
     rw [List.map_map]
     conv=>lhs;rw [<-List.map_id r]
     refine wb1 λz hz=>?_
     show z=g*(z / g)
     rw [wcb (g1 r hrr z hz)]
    ·have hdg:d*g∣g:=g2 (d*g) λr hrr z hz=>by
      have h1:=hd (r.map (·/ g)) (wai.mpr ⟨r,hrr,rfl⟩) (z / g) (wai.mpr ⟨z,hz,rfl⟩)
      obtain ⟨c,hc⟩:=h1
      refine ⟨c,?_⟩
      have:=wcb (g1 r hrr z hz)
      rw [<-this,hc];grind
     obtain ⟨c,hc⟩:=hdg
     have e:g*(d*c)=g*1:=by rw [Int.mul_one];conv=>rhs;rw [hc]
                            grind
     have e1:=Int.eq_of_mul_eq_mul_left ⋯ e
     have:d.natAbs*c.natAbs=1:=by rw [<-war,e1];rfl
     exact Nat.eq_one_of_mul_eq_one_right this
   ·have ge:∀ r∈rows,r=[]:=λr hrr=>by
     rcases gz r hrr with h | h
     ·exact absurd h gp
     ·exact h
    have em:rows.map (λr=>r.map (·/ g))=rows:=by
     conv=>rhs;rw [<-List.map_id rows]
     refine wb1 λr hrr=>?_
     rw [ge r hrr];rfl
    rw [em] at hy
    refine k t rows _ (s2.trans st) ⟨ys,upd_same,hy.tp st⟩ ⟨1,∅,?_⟩ (.inl ge)
    conv=>lhs;rw [<-List.map_id rows]
    refine wb1 λr hrr=>?_
    rw [ge r hrr];rfl
theorem quR {r:List Int} (h:∀ d:Int,(∀ z∈r,d∣z)->d.natAbs=1):Prim r:=λc hc=>h c λz hz=>by
 obtain ⟨i,hi,rfl⟩:=wb9 hz
 have:=hc i
 unfold co at this
 rw [wab,wah hi] at this
 exact this
theorem qgX (h:qaX K vs H Q E):qeh K { nx:=λ_ H'=>Q .non H',rt:=Q } (L2.start ["row"] vs) H:=by
 obtain ⟨p,ns,rfl,hp,hl,tz,k⟩:=h
 unfold qeh
 rwa []
 refine ⟨sz ∅,λa ha=>?_⟩
 have sa:=qaf ha (.lst [.ref p])
 refine ⟨[ns],⟨[V.ref p],upd_same,⟨⟨p,rfl,sa _ _ hp⟩,trivial⟩⟩,by simp,?_,λt rows' H' s' hSD hSh hP=>?_⟩
 ·intro r hr
  rw [wag.mp hr]
  exact ⟨hl,tz⟩
 obtain ⟨g,g0,eg⟩:=hSh
 match rows',eg,hSD,hP with
 | [ms],eg,hSD,hP=>
   obtain ⟨b,xs,h1,h2,_⟩:=hSD.head
   have eg':ns=ms.map (g*·):=by simpa using eg
   refine ⟨_,h1,_,qeE _ _,k b ms g H' (sa.trans s') h2 g0 eg' ?_⟩
   rcases hP with h | h
   ·left;rw [eg',h ms (wag.mpr rfl)];rfl
   ·right
    exact quR λd hd=>h d λr hr z hz=>by rw [wag.mp hr] at hz;exact hd z hz
 | [],eg,_,_=>simp at eg
 | _::_::_,eg,_,_=>simp at eg
theorem qwd {a b:List Int} (ha:Tz a) (n:Nat) (h:∀ k,n<=k->co a k=0):a.length<=n:=by
 rcases waj n a.length with z | z
 ·rcases ha with e | e
  ·rw [e] at z;simp at z
  ·exact absurd (h _ ⋯) e
 ·exact z
theorem qlq {n:Nat} {a:List Int} (h:∀ k,Bd n (co a k)):∀ z∈a,Bd n z:=λz hz=>by
 obtain ⟨i,hi,rfl⟩:=wb9 hz
 have:=h i
 unfold co at this
 rw [wab,wah hi] at this
 exact this
theorem qen (g:Int) (a:List Int) (k:Nat):co (a.map (g*·)) k=g*co a k:=qlo (F:=(g*·)) ⋯ a k
theorem qmC {g:Int} (g0:g≠0) {a:List Int} (h:Tz (a.map (g*·))):Tz a:=by
 rcases h with h | h
 ·left;exact List.map_eq_nil_iff.mp h
 ·right
  rw [qen,waa] at h
  exact λz=>h (by rw [z];omega)
theorem qmD {n:Nat} {g:Int} (g0:0<g) {a:List Int} (h:∀ z∈a.map (g*·),Bd n z):∀ z∈a,Bd n z:=λz hz=>(h (g*z) (wai.mpr ⟨z,hz,rfl⟩)).le (by
 rw [war]
 exact Nat.le_mul_of_pos_left _ ⋯)
theorem ZipR.mono {R R':List Int->List Int->List Int->Prop} (h:∀ a b c,R a b c->R' a b c):∀ {A B C:List (List Int)},ZipR R A B C->ZipR R' A B C
 | [],[],[],_=>trivial
 | _::_,_::_,_::_,z=>⟨h _ _ _ z.1,ZipR.mono h z.2⟩
 | [],[],_::_,z=>z.elim
 | [],_::_,_,z=>z.elim
 | _::_,[],_,z=>z.elim
 | _::_,_::_,[],z=>z.elim
theorem ZipR.len {R:List Int->List Int->List Int->Prop}:∀ {A B C:List (List Int)},ZipR R A B C->C.length=A.length/\B.length=A.length
 | [],[],[],_=>⟨rfl,rfl⟩
 | _::_,_::_,_::_,z=>⟨congrArg (·+1) (ZipR.len z.2).1,congrArg (·+1) (ZipR.len z.2).2⟩
 | [],[],_::_,z=>z.elim
 | [],_::_,_,z=>z.elim
 | _::_,[],_,z=>z.elim
 | _::_,_::_,[],z=>z.elim
theorem ZipR.snoc {R:List Int->List Int->List Int->Prop} {a b c:List Int} (h:R a b c):∀ {A B C:List (List Int)},ZipR R A B C->ZipR R (A++[a]) (B++[b]) (C++[c])
 | [],[],[],_=>⟨h,trivial⟩
 | _::_,_::_,_::_,z=>⟨z.1,ZipR.snoc h z.2⟩
 | [],[],_::_,z=>z.elim
 | [],_::_,_,z=>z.elim
 | _::_,[],_,z=>z.elim
 | _::_,_::_,[],z=>z.elim
theorem ZipR.right {R:List Int->List Int->List Int->Prop} (h:∀ a b,R a b b):∀ {A B:List (List Int)},A.length=B.length->ZipR R A B B
 | [],[],_=>trivial
 | _::_,_::_,e=>⟨h _ _,ZipR.right h (by simpa using e)⟩
 | [],_::_,e=>by simp at e
 | _::_,[],e=>by simp at e
theorem ZipR.map {R R':List Int->List Int->List Int->Prop} {F:List Int->List Int} (h:∀ a b c,R a b (F c)->R' a b c):∀ {A B C:List (List Int)},ZipR R A B (C.map F)->ZipR R' A B C
 | [],[],[],_=>trivial
 | _::_,_::_,_::_,z=>⟨h _ _ _ z.1,ZipR.map h z.2⟩
 | [],[],_::_,z=>z.elim
 | [],_::_,_,z=>z.elim
 | _::_,[],_,z=>z.elim
 | _::_,_::_,[],z=>z.elim
theorem qwe {a b:Int} (hb:b≠0) (h:a∣b):a.natAbs<=b.natAbs:=wbu ⋯ (wbf.mpr h)
theorem qiL (h:qbF K vs H Q E):qfI K { nx:=λ_ H'=>Q .non H',rt:=Q } (L2.start ["strand","other","shift","top","lead","shared","factor","weight"] vs) H:=by
 obtain ⟨p,q,o,rfl,hS,hO,o0,k⟩:=h
 obtain ⟨ac,xc,hp,hac,_⟩:=hS.head
 obtain ⟨ao,xo,hq,hao,_⟩:=hO.head
 have A1:atI (V.ref ac::xc) 0=some (V.ref ac):=qeE _ _
 have A2:atI (V.ref ao::xo) 0=some (V.ref ao):=qeE _ _
 unfold qfI
 rwa []
 refine while_by (λn σ H'=>σ=[some (.ref p),some (.ref q),none,none,none,none,none,none]/\H'=H/\n=0) 0 ⟨rfl,rfl,rfl⟩ ?_
 rintro n σ H' ⟨rfl,rfl,rfl⟩
 rwa [hp,hq,hac,hao,A1,A2]
 refine qck (λc=>by rw [waa] at c;exfalso;omega) (λ_=>?_)
 unfold qeg
 rwa []
 refine ⟨[[]],hS,∅,(λr hr=>by rw [wag.mp hr];exact ⟨∅,.inl rfl⟩),λt rows H1 s1 hSD sh _=>k t H1 s1 ?_⟩
 obtain ⟨g,_,e⟩:=sh
 have l1:rows.length=1:=by have:=congrArg List.length e;simpa using this.symm
 obtain ⟨r,rfl⟩:∃ r,rows=[r]:=List.length_eq_one_iff.mp l1
 have e:[]=r.map (g*·):=List.head_eq_of_cons_eq e
 rw [List.map_eq_nil_iff.mp e.symm] at hSD
 exact hSD
theorem qeL {a:List Int} (h:Tz a) (ne:a≠[]):Lz a:=by
 refine ⟨waq.mpr ne,?_⟩
 rcases h with e | e
 ·exact absurd e ne
 ·exact e
theorem qgY (h:qa7 K vs H Q E):qei K { nx:=λ_ H'=>Q .non H',rt:=Q } (L2.start ["strand","other","rest"] vs) H:=by
 obtain ⟨p,q,s,o,rfl,hS,hO,em,k⟩:=h
 unfold qei
 rwa []
 refine while_by (λn σ H'=>(σ=[some (.ref p),some (.ref q),none]/\H'=H/\n=1)\/∃ (t:Addr) (u:Option V),σ=[some (.ref q),some (.ref t),u]/\Same H H'/\SD H' t [[]]/\o≠[]/\n=0) 1 (.inl ⟨rfl,rfl,rfl⟩) ?_
 rintro n σ H' (⟨rfl,rfl,rfl⟩ | ⟨t,u,rfl,sH,hT,o0,rfl⟩)
 ·obtain ⟨ao,xo,hq,hao,_⟩:=hO.head
  have A2:atI (V.ref ao::xo) 0=some (V.ref ao):=qeE _ _
  rwa [hq,hao,A2]
  by_cases oe:o=[]
  ·refine qck (λc=>absurd oe (by simpa using c)) (λ_=>?_)
   rw [if_pos oe] at k
   exact k p _ (Same.refl _) hS
  ·refine qck (λ_=>?_) (λc=>absurd (by simpa using c) oe)
   have se:s=[]:=by
    rcases em with z | z
    ·exact z
    ·exact absurd z oe
   rw [if_neg oe] at k
   refine ⟨λσ' H''=>∃ m',m'<1/\_,λ_ _ h=>h,?_⟩
   rwa [hq,hao,A2]
   refine qck (λ_=>k q _ (Same.refl _) hO) (λ_=>?_)
   refine ⟨by rw [<-se];exact hS,o,hO,waq.mpr oe,λt H1 s1 hT=>?_⟩
   exact ⟨0,∅,.inr ⟨s1,hT,oe,rfl⟩⟩
 ·obtain ⟨at',xt,ht,hat,_⟩:=hT.head
  have A2:atI (V.ref at'::xt) 0=some (V.ref at'):=qeE _ _
  rwa [ht,hat,A2]
  refine qck (λc=>absurd c (by simp)) (λ_=>?_)
  rw [if_neg o0] at k
  exact k q _ sH (hO.tp sH)
theorem quS {b n c:Nat} {r a g:List Int} (hr:∀ z∈r,Bd b z) (rl:r.length<=n) (hn:n<2 ^ c) (lg:Lz g) (h:∀ k,co r k=cvL a (co g) k):∀ k,Bd (b+n*(2*c+4)) (co a k):=by
 rcases qgT a with z | ⟨a',la,_,ea⟩
 ·intro k;rw [z k];exact qbU _
 have h':∀ k,co r k=cvL g (co a') k:=λk=>by rw [h k,qbt,qaq (λk=>(ea k).symm) g k]
 have t:co r (a'.length - 1+(g.length - 1))≠0:=by rw [h',qbt,qfN la lg];exact was la.2 lg.2
 have al:a'.length<=r.length:=by
  rcases waj (a'.length - 1+(g.length - 1)) r.length with c | c
  ·have:=la.1;omega
  ·exact absurd (qaD c) t
 intro k
 rw [<-ea k]
 exact qdH hr ⟨_,t⟩ rl (wak al rl) hn h' k
theorem quT {G S:List Int} (lG:Lz G) (h:∀ k,cvL S (co G) k=0) (k:Nat):co S k=0:=(qqL lG (T:=0) λk _=>h k).1 k (wae k)
theorem Gen.Prim {r o:Nat->Int} {g:List Int} (G:Gen r o g):Prim g:=λc hc=>by
 rcases waj c.natAbs 2 with h | h
 ·rcases wbr c.natAbs with z | z
  ·exfalso
   have c0:c=0:=by omega
   have:=hc (g.length - 1)
   rw [c0] at this
   exact G.lz.2 (Int.zero_dvd.mp this)
  ·omega
 ·exfalso
  obtain ⟨n,hn,_⟩:=G.prim h
  exact hn (Int.natAbs_dvd.mpr (hc n))
theorem quU {R O A B G:List Int} (lG:Lz G) (hA:∀ k,co R k=cvL A (co G) k) (hB:∀ k,co O k=cvL B (co G) k) (q:QI (co R) (co O) (co G)):QI (co A) (co B) qca:=by
 obtain ⟨d,d0,U,V,h⟩:=q
 refine ⟨d,d0,U,V,λk=>?_⟩
 have z:=quT (S:=qa6 (qa6 (qaO U A) (qaO V B)) [-d]) lG (λk=>by
  rw [qaC,qaC,qav,qav,<-qaq hA,<-qaq hB]
  have:=h k
  have e:cvL [-d] (co G) k = -d*co G k:=by
   cases k with
   | zero=>rw [qar];omega
   | succ k=>rw [qao,qaG];omega
  rw [e,Int.neg_mul,this];omega) k
 rw [qcz,qaC,qaC,qav,qav,<-qaq (qcz A),<-qaq (qcz B)] at z
 have e:cvL [-d] qca k = -d*qca k:=by
  cases k with
  | zero=>rw [qar];omega
  | succ k=>rw [qao,qaG];omega
 rw [e,Int.neg_mul] at z
 omega
theorem qsO (p:Nat) (p0:0<p) (S:List Int):(∀ k,(p:Int)∣co S k)\/∃ T,Lz T/\(∀ k,(p:Int)∣co S k - co T k)/\¬ (p:Int)∣co T (T.length - 1):=by
 have cm:∀ k,co (S.map (·% (p:Int))) k=co S k % (p:Int):=λk=>qlo (F:=(·% (p:Int))) (Int.zero_emod _) S k
 rcases qgT (S.map (·% (p:Int))) with z | ⟨T,lT,_,eT⟩
 ·exact .inl λk=>Int.dvd_of_emod_eq_zero (by rw [<-cm k];exact z k)
 ·refine .inr ⟨T,lT,λk=>?_,λh=>?_⟩
  ·rw [eT,cm]
   exact ⟨co S k / p,by have:=Int.emod_add_mul_ediv (co S k) p;omega⟩
  ·have h1:=eT (T.length - 1)
   rw [cm] at h1
   have b1:=wa5 (co S (T.length - 1)) (show (p:Int)≠0 by omega)
   have b2:=wa9 (co S (T.length - 1)) (show (0:Int)<p by omega)
   have:=lT.2
   have l:=Int.le_of_dvd ⋯ h
   omega
theorem cvT {p:Int} {S T:List Int} {g:Nat->Int} {n:Nat} (hg:∀ i,n<=i->g i=0) (h:∀ k,p∣co S k - co T k) (k:Nat):p∣cvL S g k - cvL T g k:=by
 have e:∀ k,g k=co ((List.range n).map g) k:=λk=>by
  rw [qhb];split
  ·rfl
  ·exact hg k ⋯
 rw [qaq e,qaq e,qbt,qbt T]
 have:=cvD (S:=[1]) (f:=co S) (g:=co T) (λk=>by
  have e1:cvL [1] (co T) k=co T k:=by
   cases k with
   | zero=>rw [qar];omega
   | succ k=>rw [qao,qaG];omega
  rw [e1];exact h k) ((List.range n).map g) k
 rwa [qaq (b:=cvL [1] (co T)) (c:=co T) (λk=>by
  cases k with
  | zero=>rw [qar];omega
  | succ k=>rw [qao,qaG];omega)] at this
theorem qqN {p:Nat} (hp:Pr p) {R A G rs T:List Int} (hA:∀ k,co R k=cvL A (co G) k) (lG:Lz G) (pG:¬ (p:Int)∣co G (G.length - 1)) (hT:∀ k,(p:Int)∣co rs k - cvL T (co G) k) (d:Dm (p:Int) (co rs) (co R)):Dm (p:Int) (co T) (co A):=by
 obtain ⟨X,hX⟩:=d
 refine ⟨X,λk=>?_⟩
 have z:=qfu hp pG (λi hi=>by rw [qaD ⋯];exact wbd _) (qa6 A ((qaO X T).map ((-1)*·))) (λk _=>by
  rw [qaC,qau,qav,<-hA]
  have h1:=hX k
  have h2:=cvD hT X k
  have:=wbc h1 h2
  refine wa0 this (qsK ?_)
  omega)
 have e:co A k - cvL X (co T) k=co (qa6 A ((qaO X T).map ((-1)*·))) k:=by
  rw [qcz (qa6 A _),qaC,qau,qav,<-qcz,<-qaq (qcz T)];omega
 rw [e]
 exact qnA z k
theorem quV {x e c M p N:Nat} (hx:x<2 ^ (c+1)) (hN:N<=M) (big:2 ^ ((e+c+2)*M)<p):(2*(x*2 ^ e)) ^ N<p:=by
 have h1:2*(x*2 ^ e)<=2 ^ (e+c+2):=by
  have:x*2 ^ e<=2 ^ (c+1)*2 ^ e:=wa4 _ (Nat.le_of_lt hx)
  have e2:2 ^ (e+c+2)=2*(2 ^ (c+1)*2 ^ e):=by rw [<-Nat.pow_add,show e+c+2=(c+1+e)+1 by omega,wa6];omega
  omega
 refine Nat.lt_of_le_of_lt ?_ big
 rw [Nat.pow_mul]
 exact wak (Nat.pow_le_pow_left h1 N) (wbx (Nat.pow_pos ∅) hN)
theorem qqO (g:Nat->Int):∀ k,cvL [1] g k=g k
 | 0=>by rw [qar];omega
 | k+1=>by rw [qao,qaG];omega
theorem qmE {ns ms rs gs G:List Int} {p c e N:Nat} {lead:Int} (hp:Pr p) (ln:Lz ns) (lm:Lz ms) (fn:Fi e ns) (fm:Fi e ms) (hc:ns.length+ms.length<2 ^ (c+1)) (hN:ns.length+ms.length<=N+2) (n2:2<=N) (big:2 ^ ((e+c+2)*N)<p)
  (hld:((Int.gcd (co ns (ns.length - 1)) (co ms (ms.length - 1)):Nat):Int)=lead) (hG:Gen (co ns) (co ms) G) (r0:0<rs.length) (one:co rs (rs.length - 1)=1) (glen:G.length<=rs.length) (pG:¬ (p:Int)∣co G (G.length - 1)) (dG:Dm (p:Int) (co G) (co rs)) (dn:Dm (p:Int) (co rs) (co ns)) (dm:Dm (p:Int) (co rs) (co ms))
  (gl:gs.length=rs.length) (hg:∀ k,k<rs.length->(p:Int)∣co gs k - lead*co rs k) (hb:∀ z∈gs,2*z.natAbs<=p):MQ (co gs) (co ns)/\MQ (co gs) (co ms):=by
 have p2:=hp.two
 have P:=hG.Prim
 have lG:=hG.lz
 obtain ⟨A,hA⟩:=gauss P hG.rc.left
 obtain ⟨B,hB⟩:=gauss P hG.rc.right
 have bA:=fn G A (λk=>by rw [hA k,qbt])
 have bB:=fm G B (λk=>by rw [hB k,qbt])
 have bG:=fn A G hA
 have bnk:=fn [1] ns (λk=>(qqO _ k).symm)
 have cop:=quU lG hA hB hG.qi
 obtain ⟨S,hS⟩:=dG
 have p0:0<p:=by omega
 have one':¬ (p:Int)∣(1:Int):=λz=>by have:=Int.le_of_dvd ∅ z;omega
 rcases qsO p p0 S with z | ⟨T,lT,hT,pT⟩
 ·exfalso
  have h1:=hS (rs.length - 1)
  have h2:=cvT (p:=(p:Int)) (S:=S) (T:=[]) (g:=co G) (n:=G.length) (λi hi=>qaD hi) (λk=>by rw [qaD (a:=[]) (wae _),Int.sub_zero];exact z k) (rs.length - 1)
  rw [one] at h1
  rw [qaG,Int.sub_zero] at h2
  have:=wbc h1 h2
  rw [Int.sub_add_cancel] at this
  exact one' this
 have hTr:∀ k,(p:Int)∣co rs k - cvL T (co G) k:=λk=>by
  have:=wbc (hS k) (cvT (λi hi=>qaD hi) hT k (g:=co G) (n:=G.length))
  refine wa0 this (qsK ?_)
  omega
 have t0:=lT.1
 have g0:=lG.1
 have tl:T.length+G.length=rs.length+1:=by
  have tp:=qfN lT lG
  have np:¬ (p:Int)∣co T (T.length - 1)*co G (G.length - 1):=λz=>by
   rcases hp.mulI z with q | q
   ·exact pT q
   ·exact pG q
  have h1:=hTr (T.length - 1+(G.length - 1))
  rw [tp] at h1
  have c1:T.length - 1+(G.length - 1)<rs.length:=by
   rcases waj (T.length - 1+(G.length - 1)) rs.length with c | c
   ·exact c
   ·exfalso
    rw [qaD c,Int.zero_sub] at h1
    exact np (Int.dvd_neg.mp h1)
  have h2:=hTr (rs.length - 1)
  rw [one] at h2
  rcases waj (T.length - 1+(G.length - 1)) (rs.length - 1) with c | c
  ·exfalso
   rw [qcf (n:=G.length) (λi hi=>qaD hi) T _ ⋯,Int.sub_zero] at h2
   exact one' h2
  ·omega
 have dTA:=qqN hp hA lG pG hTr dn
 have dTB:=qqN hp hB lG pG hTr dm
 have trimmed:∀ {R A:List Int},Lz R->(∀ k,co R k=cvL A (co G) k)->(∀ k,Bd e (co A k))->∃ A',Lz A'/\A'.length<=R.length/\co A'=co A:=λ{R A} lR h _=>by
  rcases qgT A with z | ⟨A',la,_,ea⟩
  ·exact absurd (by rw [h,qbt,qcy G z]) lR.2
  ·refine ⟨A',la,?_,funext ea⟩
   have t:co R (A'.length - 1+(G.length - 1))≠0:=by
    rw [h,qbt,qaq (λk=>(ea k).symm) G,<-qbt,qfN la lG];exact was la.2 lG.2
   rcases waj (A'.length - 1+(G.length - 1)) R.length with c | c
   ·have:=la.1;omega
   ·exact absurd (qaD c) t
 obtain ⟨A',lA,An,eA⟩:=trimmed ln hA bA
 obtain ⟨B',lB,Bn,eB⟩:=trimmed lm hB bB
 have big1:2 ^ e<p:=Nat.lt_of_le_of_lt (wbx ∅ (by
  have:(e+c+2)*1<=(e+c+2)*N:=wbt _ ⋯
  omega)) big
 have T1:T.length=1:=by
  rcases waj T.length 2 with cT | cT
  ·omega
  ·exfalso
   have short:∀ {A:List Int},Lz A->(∀ k,Bd e (co A k))->Dm (p:Int) (co T) (co A)->2<=A.length:=λ{A} lA bA dA=>by
    have:=Dm.len hp t0 pT dA ⟨A.length - 1,λz=>by
     have h1:=bA (A.length - 1)
     have h2:=wbf.mpr z
     have h3:=wbu (by have:=lA.2;omega) h2
     rw [wba] at h3
     have:(co A (A.length - 1)).natAbs<2 ^ e:=h1
     omega⟩
    omega
   have a2:=short lA (λk=>by rw [eA];exact bA k) (by rw [eA];exact dTA)
   have b2:=short lB (λk=>by rw [eB];exact bB k) (by rw [eB];exact dTB)
   refine lucky hp lA lB (by rw [eA,eB];exact cop) (λk=>by rw [eA];exact bA k) (λk=>by rw [eB];exact bB k) a2 b2 cT pT (by rw [eA];exact dTA) (by rw [eB];exact dTB) (quV (x:=A'.length+B'.length) (c:=c) (M:=N) ⋯ ⋯ big)
 obtain ⟨s,rfl⟩:∃ s,T=[s]:=by
  match T,T1 with
  | [s],_=>exact ⟨s,rfl⟩
 have hrs:∀ k,(p:Int)∣co rs k - s*co G k:=λk=>by
  have:=hTr k
  have e1:cvL [s] (co G) k=s*co G k:=by
   cases k with
   | zero=>rw [qar];omega
   | succ k=>rw [qao,qaG];omega
  rwa [e1] at this
 have lr:G.length=rs.length:=by simp at tl;omega
 have lcd:∀ {R A:List Int},(∀ k,co R k=cvL A (co G) k)->Lz R->co G (G.length - 1)∣co R (R.length - 1):=λ{R A} h lR=>by
  rcases qgT A with z | ⟨A',la,_,ea⟩
  ·exact absurd (by rw [h,qbt,qcy G z]) lR.2
  ·have hh:∀ k,co R k=cvL A' (co G) k:=λk=>by rw [h,qbt,qaq (λk=>(ea k).symm) G,<-qbt]
   have tp:=qfN la lG
   have a0:=la.1
   have rl:R.length - 1=A'.length - 1+(G.length - 1):=by
    rcases Nat.lt_trichotomy (R.length - 1) (A'.length - 1+(G.length - 1)) with c | c | c
    ·exfalso
     have:=hh (A'.length - 1+(G.length - 1))
     rw [qaD (by have:=lR.1;omega),tp] at this
     exact was la.2 lG.2 this.symm
    ·exact c
    ·exfalso
     have:=hh (R.length - 1)
     rw [qcf (n:=G.length) (λi hi=>qaD hi) A' _ ⋯] at this
     exact lR.2 this
   rw [rl,hh,tp]
   exact Int.dvd_mul_left _ _
 obtain ⟨t,ht⟩:co G (G.length - 1)∣lead:=by rw [<-hld];exact Int.dvd_coe_gcd (lcd hA ln) (lcd hB lm)
 have lead0:lead≠0:=λz=>by
  rw [<-hld] at z
  have:Int.gcd (co ns (ns.length - 1)) (co ms (ms.length - 1))=0:=by omega
  exact ln.2 (Int.gcd_eq_zero_iff.mp this).1
 have t0':t≠0:=λz=>lead0 (by rw [ht,z,Int.mul_zero])
 have bt:t.natAbs<2 ^ e:=by
  have h1:lead∣co ns (ns.length - 1):=by rw [<-hld];exact wby ..
  have h2:=wa0 (show t∣lead from ⟨co G (G.length - 1),by rw [ht,Int.mul_comm]⟩) h1
  have h3:=wbu (by have:=ln.2;omega) (wbf.mpr h2)
  have h4:(co ns (ns.length - 1)).natAbs<2 ^ e:=bnk _
  omega
 have egs:∀ k,co gs k=t*co G k:=λk=>by
  rcases waj k rs.length with ck | ck
  ·have h1:=hg k ck
   have h2:=hrs k
   have h3:=hrs (rs.length - 1)
   rw [one,<-lr] at h3
   have dv:(p:Int)∣co gs k - t*co G k:=by
    have q1:(p:Int)∣lead*(co rs k - s*co G k):=wb6 h2
    have q2:(p:Int)∣(t*co G k)*(1 - s*co G (G.length - 1)):=wb6 h3
    have:=Int.dvd_sub (wbc h1 q1) q2
    refine wa0 this (qsK ?_)
    rw [ht]
    grind
   have b1:2*(co gs k).natAbs<=p:=by
    have:co gs k∈gs:=by
     unfold co
     rw [wab,wah ⋯]
     exact wb0 _
    exact hb _ this
   have b2:2*(t*co G k).natAbs<p:=by
    rw [war]
    have h5:t.natAbs*(co G k).natAbs<=2 ^ e*2 ^ e:=wbl (Nat.le_of_lt bt) (Nat.le_of_lt (bG k))
    have h6:2*(2 ^ e*2 ^ e)<=2 ^ ((e+c+2)*N):=by
     rw [<-Nat.pow_add,show 2*2 ^ (e+e)=2 ^ (e+e+1) by rw [wa6];omega]
     refine wbx ∅ ?_
     have:(e+c+2)*2<=(e+c+2)*N:=wbt _ ⋯
     omega
    omega
   obtain ⟨y,hy⟩:=dv
   have ab:(co gs k - t*co G k).natAbs<p:=by omega
   rcases Int.lt_trichotomy y 0 with z | z | z
   ·have:(p:Int)*y<=(p:Int)*(-1):=wcg ⋯ ⋯
    omega
   ·rw [z] at hy;omega
   ·have:(p:Int)*1<=(p:Int)*y:=wcg ⋯ ⋯
    omega
  ·rw [qaD ⋯,qaD (a:=G) ⋯];omega
 have fin:∀ {R A:List Int},(∀ k,co R k=cvL A (co G) k)->MQ (co gs) (co R):=λ{R A} h=>⟨t,t0',A,λk=>by rw [qaq egs,qba,h k]⟩
 exact ⟨fin hA,fin hB⟩
theorem qnG {g f:List Int} {A:List Int} (h:∀ k,co f k=cvL A (co g) k):MQ (co g) (co f):=⟨1,∅,A,λk=>by rw [<-h k];omega⟩
theorem qfP (h:qa5 K vs H Q E):qdE K { nx:=λ_ H'=>Q .non H',rt:=Q } (L2.start ["row","other","prime","lead","found","guess"] vs) H:=by
 obtain ⟨a,b,ns,ms,p,d,ee,cc,NN,rfl,ha,hb,pp,bp,ln,lm,bn,bm,dn,dm,fn,fm,nc,hN,nn0,kN,kR⟩:=h
 have p2:(2:Int)<=(p:Int):=by have:=pp.two;omega
 unfold qdE
 have an:=qem ln.1
 have am:=qem lm.1
 rwa [ha,hb,an,am]
 generalize hld:((Int.gcd (co ns (ns.length - 1)) (co ms (ms.length - 1)):Nat):Int)=lead
 have ld1:lead∣co ns (ns.length - 1):=by rw [<-hld];exact wby ..
 have bl:Bd d lead:=(qbE bn (ns.length - 1)).le (qwe ln.2 ld1)
 refine ⟨⋯,qck (λc=>?_) (λc=>?_)⟩
 ·refine kN (λbg=>?_) _ (Same.refl H)
  have bl':lead.natAbs<2 ^ ee:=(fn [1] ns (λk=>(qqO _ k).symm) (ns.length - 1)).le (qwe ln.2 ld1)
  have z:=Int.dvd_of_emod_eq_zero (show lead % (p:Int)=0 by simpa using c)
  have l0:lead≠0:=λz=>by
   rw [<-hld] at z
   have:Int.gcd (co ns (ns.length - 1)) (co ms (ms.length - 1))=0:=by omega
   exact ln.2 (Int.gcd_eq_zero_iff.mp this).1
  have h3:=wbu ⋯ (wbf.mpr z)
  rw [wba] at h3
  have:2 ^ ee<=2 ^ ((ee+cc+2)*NN):=by
   refine wbx ∅ ?_
   have:(ee+cc+2)*1<=(ee+cc+2)*NN:=wbt _ ⋯
   omega
  have bg:2 ^ ((ee+cc+2)*NN)<p:=bg
  omega
 have pl:¬ (p:Int)∣lead:=λz=>c (by rw [Int.emod_eq_zero_of_dvd z])
 have hnl:¬ (p:Int)∣co ns (ns.length - 1)\/¬ (p:Int)∣co ms (ms.length - 1):=by
  by_cases h1:(p:Int)∣co ns (ns.length - 1)
  ·right
   intro h2
   exact pl (by rw [<-hld];exact Int.dvd_coe_gcd h1 h2)
  ·exact .inl h1
 refine ⟨ns,ms,p,rfl,rfl,rfl,pp,bp,⋯,⋯,?_,λs rs H1 s1 hs r0 rl one br hD dvn dvm=>?_⟩
 ·rcases hnl with h | h
  ·exact .inl ⟨_,h⟩
  ·exact .inr ⟨_,h⟩
 refine ⟨⟨_,SqL.of hs⟩,CompJ.lst (xs:=rs.map V.int) (λi ys H'=>i<=rs.length/\H'=H1/\∃ gs:List Int,ys=gs.map V.int/\gs.length=i/\(∀ k,k<i->(p:Int)∣co gs k - lead*co rs k)/\∀ z∈gs,Bd 45000 z/\2*z.natAbs<=p) ⟨wae _,rfl,[],rfl,rfl,λk hk=>absurd hk ⋯,λz hz=>nomatch hz⟩ ?_ ?_ ?_⟩
 ·rintro i ys H' ⟨h1,rfl,gs,rfl,gl,_⟩
  exact ⟨by rw [waa];exact h1,sz (by rw [waa];omega),SqL.of hs⟩
 ·rintro i x ys H' hi ⟨h1,rfl,gs,rfl,gl,hg,bg⟩
  rw [waf] at hi
  cases e:rs[i]? with
  | none=>rw [e] at hi;cases hi
  | some n=>
    rw [e] at hi
    obtain rfl:V.int n=x:=Option.some.inj hi
    have hi2:i<rs.length:=(wap.mp e).1
    have bnn:=br n (wan e)
    have cn:co rs i=n:=by unfold co;rw [wab,e];rfl
    rwa []
    refine ⟨qo5 bl (bp.le (x:=(p:Int)) (y:=n) ⋯),⋯,λr hr1 hr2=>⟨⋯,gs++[r],by simp,by simp;omega,λk hk=>?_,λz hz=>?_⟩⟩
    ·by_cases ek:k=i
     ·subst ek
      have:co (gs++[r]) k=r:=by unfold co;rw [wab,<-gl];simp
      rw [this,cn];exact hr1
     ·have:co (gs++[r]) k=co gs k:=by unfold co;rw [wab,wab,List.getElem?_append_left ⋯]
      rw [this];exact hg k ⋯
    ·rcases wa7.mp hz with z1 | z1
     ·exact bg z z1
     ·rw [wag.mp z1];exact ⟨bp.le ⋯,by rw [wba] at hr2;exact hr2⟩
 ·rintro ys H' ⟨_,rfl,gs,rfl,gl,hg,bg⟩ t ht
  rw [waa] at gl hg
  have st:=qaf ht (.lst (gs.map V.int))
  have htt:upd H' t (.lst (gs.map V.int)) t=_:=upd_same
  generalize upd H' t (.lst (gs.map V.int))=H2 at st htt ⊢
  have gl0:0<gs.length:=by omega
  have glast:co gs (gs.length - 1)≠0:=λz=>by
   have:=hg (gs.length - 1) ⋯
   rw [z,show gs.length - 1=rs.length - 1 by omega,one] at this
   exact pl (by have t2:=Int.dvd_neg.mpr this;rw [show -(0 - lead*1)=lead by omega] at t2;exact t2)
  rwa [htt]
  refine ⟨gs,rfl,⋯,.inr glast,λu gu g H3 s3 hu g0 eg hp=>?_⟩
  have Pg:Prim gu:=by
   rcases hp with h | h
   ·rw [h] at gl0;simp at gl0
   ·exact h
  have lgu:gu.length=gs.length:=by rw [eg,waa]
  have lzg:Lz gu:=qeL (qmC (wad g0) (by rw [<-eg];exact .inr glast)) (λz=>by rw [z] at lgu;simp at lgu;omega)
  have bgu:∀ z∈gu,Bd 45000 z:=qmD g0 (by rw [<-eg];exact λz hz=>(bg z hz).1)
  have s13:Same H H3:=(s1.trans st).trans s3
  have ha3:=s13 _ _ ha
  have hb3:=s13 _ _ hb
  obtain ⟨G,hG⟩:=qv8 ln (QI.left (co ns) (co ms))
  have mn:=hG.mq _ ns (wac _) (QI.left _ _)
  have mm:=hG.mq _ ms (wac _) (QI.right _ _)
  have lead':¬ (p:Int)∣co G (G.length - 1):=by
   rcases hnl with h | h
   ·exact hG.lead pp ln mn h
   ·exact hG.lead pp lm mm h
  have dG:=hD (co G) (hG.dm pp mn) (hG.dm pp mm)
  have glen:G.length<=rs.length:=Dm.len pp hG.lz.1 lead' dG ⟨rs.length - 1,by
   rw [one]
   intro z
   have:=Int.le_of_dvd ∅ z
   omega⟩
  have tells:qxD ee cc NN p->(∃ A:List Int,∀ k,co ns k=cvL A (co gu) k)/\∃ A:List Int,∀ k,co ms k=cvL A (co gu) k:=λbp'=>by
   obtain ⟨q1,q2⟩:=qmE pp ln lm fn fm nc hN nn0 bp' hld hG r0 one glen lead' dG dvn dvm gl hg (λz hz=>(bg z hz).2)
   have sc:∀ k,co gs k=g*co gu k:=λk=>by rw [eg,qen]
   have mg:MQ (co gu) (co gs):=⟨1,∅,[g],λk=>by
    have e:cvL [g] (co gu) k=g*co gu k:=by
     cases k with
     | zero=>rw [qar];omega
     | succ k=>rw [qao,qaG];omega
    rw [e,sc];omega⟩
   exact ⟨gauss Pg (mg.trans q1),gauss Pg (mg.trans q2)⟩
  rwa [ha3,hu]
  refine ⟨ns,rfl,gu,rfl,lzg,d,bn,45000,bgu,⋯,∅,⋯,⋯,λno=>kN (λbg=>no (tells bg).1) |> λf H4 s4=>f H4 (s13.trans s4),λr qs H4 s4 hr hq=>?_⟩
  have hb4:=s4 _ _ hb3
  have hu4:=s4 _ _ hu
  rwa [hb4,hu4]
  refine ⟨ms,rfl,gu,rfl,lzg,d,bm,45000,bgu,⋯,∅,⋯,⋯,λno=>kN (λbg=>no (tells bg).2) |> λf H5 s5=>f H5 ((s13.trans s4).trans s5),λr2 qs2 H5 s5 hr2 hq2=>?_⟩
  exact kR u gu H5 ((s13.trans s4).trans s5) (s5 _ _ hu4) (qqr hG.rc lzg (qnG hq) (qnG hq2) ⋯) Pg
noncomputable def exps:List Nat:=[61,127,521,1279,4423,9941,21701,44497]
noncomputable def qx4 (K:W.Frag):Prop:=∀ H:Hp,SqT K H (qcq K) (exps.map λe:Nat=>V.int (e:Int))
theorem quW:∀ e∈exps,Pr (mers e)/\e<=44497:=by
 intro e he
 have h:e=61\/e=127\/e=521\/e=1279\/e=4423\/e=9941\/e=21701\/e=44497:=by simpa [exps] using he
 rcases h with h | h | h | h | h | h | h | h <;> rw [h]
 ·exact ⟨qx0,∅⟩
 ·exact ⟨qw1,∅⟩
 ·exact ⟨qw2,∅⟩
 ·exact ⟨qv5,∅⟩
 ·exact ⟨qv6,∅⟩
 ·exact ⟨qv7,∅⟩
 ·exact ⟨quv,∅⟩
 ·exact ⟨quw,∅⟩
theorem qsP (e:Nat):(2:Int) ^ (e:Int).toNat - 1=((mers e:Nat):Int):=by
 unfold mers
 have:=Nat.one_le_two_pow (n:=e)
 rw [Int.natCast_sub this,wb2,Int.natCast_pow]
 rfl
theorem quX {e:Nat} (h:e<=44497):Bd 45000 ((mers e:Nat):Int):=by
 unfold Bd mers
 rw [wba]
 have h1:=Nat.one_le_two_pow (n:=e)
 have h2:=wbx (n:=2) ∅ (show e<=45000 by omega)
 omega
theorem qmF {ns ms one two rs:List Int} {g h:Int} (g0:g≠0) (h0:h≠0) (e1:ns=one.map (g*·)) (e2:ms=two.map (h*·)) (R:RC (co one) (co two) rs):RC (co ns) (co ms) rs:=by
 have c1:∀ k,co ns k=g*co one k:=λk=>by rw [e1,qen]
 have c2:∀ k,co ms k=h*co two k:=λk=>by rw [e2,qen]
 refine ⟨R.lz,?_,?_,?_⟩
 ·obtain ⟨c,c0,A,hA⟩:=R.left
  exact ⟨c,c0,A.map (g*·),λk=>by rw [qau,<-hA k,c1 k];grind⟩
 ·obtain ⟨c,c0,A,hA⟩:=R.right
  exact ⟨c,c0,A.map (h*·),λk=>by rw [qau,<-hA k,c2 k];grind⟩
 ·obtain ⟨d,d0,U,W,hU⟩:=R.qi
  refine ⟨g*h*d,was (was g0 h0) d0,U.map (h*·),W.map (g*·),λk=>?_⟩
  rw [qau,qau,qaq c1 U k,qaq c2 W k,qba,qba]
  have:=hU k
  grind
theorem qqP {e:Nat} {g1:Int} {one ns:List Int} (g0:g1≠0) (e1:ns=one.map (g1*·)) (h:Fp e ns):Fp e one:=λg lg pg ⟨c,c0,A,hA⟩=>h g lg pg ⟨c,c0,A.map (g1*·),λk=>by
 rw [qau,<-hA k,e1,qen];grind⟩
theorem qqQ {c:Int} {g:Nat->Int} (h:∀ k,c∣g k):∀ (A:List Int) (k:Nat),c∣cvL A g k
 | [],_=>by rw [qaG];exact wbd c
 | x::A,0=>by rw [qar];exact wbc (wb6 (h 0)) (wbd c)
 | x::A,k+1=>by rw [qao];exact wbc (wb6 (h _)) (qqQ h A k)
theorem qwf {e:Nat} {one:List Int} (p:Prim one) (h:Fp e one):Fi e one:=λA g hg k=>by
 rcases qgT g with z | ⟨g',lg,_,eg⟩
 ·rw [z k];exact qbU _
 ·rw [<-eg k]
  refine h g' lg (λc hc=>p c λk=>?_) ⟨1,∅,A,λk=>by rw [Int.one_mul,hg k];exact qaq (λk=>(eg k).symm) A k⟩ k
  rw [hg k]
  exact qqQ (λk=>by rw [<-eg k];exact hc k) A k
theorem qjY {K:W.Frag} (hK:qx4 K) {vs:List V} {H:Hp} {Q:VK} {E:XK} (h:qbO K vs H Q E):qgz K { nx:=λ_ H'=>Q .non H',rt:=Q } (L2.start ["row","other","one","two","exponent","found"] vs) H:=by
 obtain ⟨a,b,ns,ms,d,ee,cc,NN,rfl,ha,hb,tn,tm,bn,bm,d9,nN,mN,fpp,nc,hN,n2',sm,k⟩:=h
 unfold qgz
 rwa [ha]
 refine ⟨ns,rfl,⋯,tn,λa1 one g1 H1 s1 h1 g10 e1 p1=>?_⟩
 have hb1:=s1 _ _ hb
 rwa [hb1]
 refine ⟨ms,rfl,⋯,tm,λa2 two g2 H2 s2 h2 g20 e2 p2=>?_⟩
 have s02:=s1.trans s2
 have ha2:=s02 _ _ ha
 have hb2:=s02 _ _ hb
 have h12:=s2 _ _ h1
 have l1:ns.length=one.length:=by rw [e1,waa]
 have l2:ms.length=two.length:=by rw [e2,waa]
 have t1:Tz one:=qmC (wad g10) (by rw [<-e1];exact tn)
 have t2:Tz two:=qmC (wad g20) (by rw [<-e2];exact tm)
 have b1:∀ z∈one,Bd d z:=qmD g10 (by rw [<-e1];exact bn)
 have b2:∀ z∈two,Bd d z:=qmD g20 (by rw [<-e2];exact bm)
 have n1:one=[]↔ns=[]:=by rw [<-waz,<-waz,l1]
 have n2:two=[]↔ms=[]:=by rw [<-waz,<-waz,l2]
 have last:(ns=[]\/ms=[])->∀ (H3:Hp) (u v:Option V),Same H2 H3->(qbz (tOp gL (qak (qa7 K) [] E0 (qab (qcR (qab (qag 2) qal)) (qab (qcR (qab (qag 3) qal)) qal))) (tC (.int 0)))) { nx:=λ_ H'=>Q .non H',rt:=Q } [some (.ref a),some (.ref b),some (.ref a1),some (.ref a2),u,v] H3:=λem H3 u v s3=>by
  have h13:=s3 _ _ h12
  have h23:=s3 _ _ h2
  rwa []
  refine ⟨sz ∅,λx hx=>?_⟩
  have sx:=qaf hx (.lst [.ref a1])
  refine ⟨sz ∅,λy hy=>?_⟩
  have sy:=qaf hy (.lst [.ref a2])
  have hxy:=sy _ _ (show upd H3 x (.lst [.ref a1]) x=_ from upd_same)
  refine ⟨one,⟨[V.ref a1],hxy,⟨⟨a1,rfl,sy _ _ (sx _ _ h13)⟩,trivial⟩⟩,two,⟨[V.ref a2],upd_same,⟨⟨a2,rfl,sy _ _ (sx _ _ h23)⟩,trivial⟩⟩,em.imp (λz=>n1.mpr z) (λz=>n2.mpr z),λt H4 s4 hSD=>?_⟩
  obtain ⟨ar,xr,ht,har,_⟩:=hSD.head
  refine ⟨_,ht,_,qeE _ _,?_⟩
  refine k ar _ H4 (s02.trans (s3.trans ((sx.trans sy).trans s4))) har (λhne=>?_) λh1 h2=>by rw [if_pos (n2.mpr h2)];exact n1.mpr h1
  have z0:∀ {x:List Int},x=[]->∀ k,co x k=0:=λe k=>by rw [e];exact qaD (wae _)
  by_cases te:two=[]
  ·rw [if_pos te]
   have oe:ns≠[]:=by
    rcases hne with h | h
    ·exact h
    ·exact absurd (n2.mp te) h
   have l1':Lz one:=qeL t1 λz=>oe (n1.mp z)
   exact ⟨qmF (wad g10) (wad g20) e1 e2 ⟨l1',MQ.refl _,MQ.zero _ (z0 te),QI.left _ _⟩,p1.resolve_left oe⟩
  ·rw [if_neg te]
   have oe:one=[]:=n1.mpr (em.resolve_right λz=>te (n2.mpr z))
   exact ⟨qmF (wad g10) (wad g20) e1 e2 ⟨qeL t2 te,MQ.zero _ (z0 oe),MQ.refl _,QI.right _ _⟩,p2.resolve_left λz=>te (n2.mpr z)⟩
 have l0:=λem=>last em H2 none none (Same.refl H2)
 simp only [qaF,qaM,qak,qab,qag,qal,qai,qrS,L2.start,qd5,tIf,qa2,tB,tOp,rI0,rI,tC,tUn,rU,qbN,qbz,qb9,qcR,qxs,qpb,qgL,tCB,qtk,qo3,tOr,qvl,qvu,qxr,qvv,rEq,rNe,qgM,qhC,qfj,qdL,qob,qvI,qlS,qui,qxw,iLt,iLe,iGt,iGe,qew,gT,gL,gS,qvm,qtm,qxx,qvJ,qfo,qce,qvK,qxy,qpG,qgt,qtn,eqT,qpH,qpI,qto,qtp,wa1,List.map_nil,way,List.length_nil,List.replicate,List.cons_append,List.nil_append,List.append_nil,List.getElem?_cons_zero,List.getElem?_cons_succ,Option.some.injEq,exists_eq_left',exists_eq_left,V.int.injEq,V.bl.injEq,V.ref.injEq,V.ty.injEq,HO.tup.injEq,HO.lst.injEq,List.cons.injEq,and_true,true_and,and_assoc,exists_and_left,List.set_cons_zero,List.set_cons_succ,decide_eq_true_eq,decide_eq_false_iff_not,Bool.not_eq_true',Bool.true_eq_false,Bool.false_eq_true,Bool.not_true,Bool.not_false,if_true,if_false,ite_true,ite_false,qpJ,qpK,qna,qnb,qiU,qiV,qiW,qiX,qiY,Nat.zero_add,Nat.reduceAdd,Nat.reduceSub,upd_same,Int.cast_ofNat_Int,decide_true,decide_false,eq_self,not_true_eq_false,not_false_eq_true,Int.natCast_add,Int.natCast_zero,reduceCtorEq,Nm,qf5,qcJ,qnY,qlU,tSl,qc5,qhv,sL,sT,ql7,qtq,qkN,qhF,qvO,qtl,qrT,qe5,qhw,qxu,tBM,qxt,qnc,qnd,qpO,qpP,qnf,qp1,qng,qpQ,qpR,qpY,qpZ,qsh,quk,qsi,qwO,quj,qjw,qgP,qwX,qvP,qc6,Option.bind_some,Option.bind_none,Option.bind,Option.join,id_eq,sS,qvS,qvU,qaH,qdz,qbc,qcr,qbD,qb1,qb2,qaQ,qaX,qbF,qa7,qbd,qbu,qbn,qa4,qbv,qbG,qbj,qcZ,qa5,qbO,qbP,qcs,qbw,qbA,qbW,qk1,qc0,qf9,qb6,qaS,qbq,qaV,qbo,qqv,qdB,qbx,qbr] at l0
 have lne:ns≠[]->ms≠[]->Lz one/\Lz two:=λh1 h2=>⟨qeL t1 λz=>h1 (n1.mp z),qeL t2 λz=>h2 (n2.mp z)⟩
 refine ⟨_,ha2,qck (λc1=>⟨_,hb2,qck (λc2=>⟨⟨_,hK H2⟩,?_⟩) (λc2=>l0 (.inr (by simpa using c2)))⟩) (λc1=>l0 (.inl (by simpa using c1)))⟩
 have y1:ns≠[]:=by simpa using c1
 have y2:ms≠[]:=by simpa using c2
 obtain ⟨z1,z2⟩:=lne y1 y2
 have fi1:Fi ee one:=qwf (p1.resolve_left y1) (qqP (wad g10) e1 (fpp y1 y2).1)
 have fi2:Fi ee two:=qwf (p2.resolve_left y2) (qqP (wad g20) e2 (fpp y1 y2).2)
 refine qpf (xs:=exps.map λe:Nat=>V.int (e:Int)) (λi σ H'=>i<8/\∃ u v,σ=[some (.ref a),some (.ref b),some (.ref a1),some (.ref a2),u,v]/\Same H2 H') ⟨∅,none,none,rfl,Same.refl H2⟩ (λi σ H' _ _=>hK H') ?_ ?_
 ·rintro i x σ H' hi ⟨i8,u,v,rfl,s3⟩
  rw [waf] at hi
  cases e:exps[i]? with
  | none=>rw [e] at hi;cases hi
  | some ex=>
    rw [e] at hi
    obtain rfl:V.int (ex:Int)=x:=Option.some.inj hi
    obtain ⟨pe,pl⟩:=quW ex (wan e)
    have h13:=s3 _ _ h12
    have h23:=s3 _ _ h2
    rwa [h13,h23]
    refine ⟨⋯,2,by unfold Bd;decide,⋯,one,two,mers ex,qsP ex,rfl,rfl,pe,quX pl,z1,z2,d,b1,b2,⋯,⋯,ee,fi1,fi2,cc,⋯,NN,⋯,n2',λnb H4 s4=>⟨?_,s3.trans s4⟩,λt rs H4 s4 ht rc pr=>?_⟩
    ·rcases waj (i+1) 8 with c8 | c8
     ·exact c8
     ·exfalso
      have i7:i=7:=by omega
      rw [i7] at e
      obtain rfl:44497=ex:=Option.some.inj e
      refine nb ?_
      show 2 ^ ((ee+cc+2)*NN)<mers 44497
      have h1:2 ^ ((ee+cc+2)*NN)<=2 ^ 44490:=wbx ∅ sm
      have h2:2 ^ 44490<mers 44497:=by
       unfold mers
       have e7:2 ^ 44497=2 ^ 44490*2 ^ 7:=by rw [<-Nat.pow_add]
       rw [e7]
       have:1<=2 ^ 44490:=Nat.one_le_two_pow
       omega
      omega
    exact k t rs H4 (s02.trans (s3.trans s4)) ht (λ_=>⟨qmF (wad g10) (wad g20) e1 e2 rc,pr⟩) λh1 _=>absurd h1 (by simpa using c1)
 ·rintro σ H' ⟨i8,_⟩
  exact absurd i8 (by simp [exps])
theorem qaW (l:List Nu):(qa1 l).length=l.length:=by unfold qa1;rw [waa]
theorem qdV {l:List Nu} (hl:qap l) (nl:Nz l):Tz (qa1 l):=by
 by_cases h:l=[]
 ·left;rw [h];rfl
 ·right
  rw [qaW]
  exact qmy hl nl (waq.mpr h)
theorem qxa {l:List Nu} {M N:Int} (hl:qap l) (hM:Ov l M) (hN:Ov l N) (h:M∣N) {b:Nat} (hb:∀ z∈ovN l N,Bd b z):∀ z∈ovN l M,Bd b z:=λz hz=>by
 obtain ⟨q,hq,rfl⟩:=wai.mp hz
 refine (hb (q.1*(N / q.2)) (wai.mpr ⟨q,hq,rfl⟩)).le ?_
 rw [war,war]
 refine wbt _ ?_
 have p0:=(hl q hq).pos
 obtain ⟨x,hx⟩:=hM.2 q hq
 obtain ⟨y,hy⟩:=h
 have e1:M / q.2=x:=by rw [hx,wcd _ (wad p0)]
 have e2:N / q.2=x*y:=by rw [hy,hx,Int.mul_assoc,wcd _ (wad p0)]
 rw [e1,e2,war]
 refine Nat.le_mul_of_pos_right _ ?_
 rcases wbr y.natAbs with z | z
 ·have y0:y=0:=by omega
  have:=hN.1
  rw [hy,y0] at this;omega
 ·exact z
theorem Gq.clr {b c:Nat} {l:List Nu} (G:Gq b c l):(∀ z∈qa1 l,Bd b z)/\Bd c (qbJ l)/\(∀ q∈l,Bd b q.1):=by
 obtain ⟨M,hO,bM,hz⟩:=G.ov
 have hd:=qnm G.low hO
 exact ⟨qxa G.low (qbi G.low) hO hd hz,qdh (wad hO.1) hd bM,qtL G.low hO hz⟩
theorem qcu (g:List Int):(mnc g).length=g.length:=by unfold mnc;rw [waa]
theorem qgd {g:List Int} (lg:Lz g):qap (mnc g):=λq hq=>by
 obtain ⟨z,_,rfl⟩:=wai.mp hq
 exact qdO lg.2
theorem qjZ {g:List Int} (lg:Lz g) (k:Nat):pwo (mnc g) k=(co g k:Rat) / (co g (g.length - 1):Rat):=by
 unfold pwo qa3 mnc
 rw [wab,waf]
 unfold co
 rw [wab (l:=g) (i:=k)]
 cases e:g[k]? with
 | none=>
   show val (0,1)=((0:Int):Rat) / _
   unfold val
   show ((0:Int):Rat) / _=_
   rw [show ((0:Int):Rat)=0 from rfl,zdiv,zdiv]
 | some z=>exact qey lg.2
theorem qj0 {g:List Int} (lg:Lz g):qa3 (mnc g) (g.length - 1)=(1,1):=qe7 (qaN (qgd lg) _) ⟨∅,∅⟩ (by
 have h:=qjZ lg (g.length - 1)
 unfold pwo at h
 rw [h]
 have:=qaI lg.2
 have e1:val (1,1)=1:=by unfold val;show ((1:Int):Rat) / ((1:Int):Rat)=1;grind
 rw [e1];grind)
theorem qlr {g:List Int} (lg:Lz g):Nz (mnc g):=λq hq=>by
 have h:=qj0 lg
 rw [wca,qcu] at hq
 unfold qa3 at h
 rw [wab,hq] at h
 have e1:q=(1,1):=h
 rw [e1];decide
theorem qqR (h:qbW K vs H Q E):qnw K { nx:=λ_ H'=>Q .non H',rt:=Q } (L2.start ["P","Q","row"] vs) H:=by
 obtain ⟨p,q,xs,ys,l,m,b,c,ee,dd,NN,rfl,hp,hq,hN,hM,G1,G2,b9,c9,lN,mN,fpp,ne',hNN,n2',sm,k0,k1⟩:=h
 obtain ⟨cb1,cB1,ct1⟩:=G1.clr
 obtain ⟨cb2,cB2,ct2⟩:=G2.clr
 obtain ⟨M1,O1,bM1,_⟩:=G1.ov
 obtain ⟨M2,O2,bM2,_⟩:=G2.ov
 unfold qnw
 rwa [hp]
 refine ⟨l,hN,G1.low,M1,O1,bM1.mono ⋯,λq hq=>(ct1 q hq).mono ⋯,⋯,λr a H1 s1 hr ha=>?_⟩
 have hq1:=s1 _ _ hq
 rwa [hr,hq1]
 refine ⟨m,hM.tp (tpS s1),G2.low,M2,O2,bM2.mono ⋯,λq hq=>(ct2 q hq).mono ⋯,⋯,λr2 a2 H2 s2 hr2 ha2=>?_⟩
 have ha':=s2 _ _ ha
 rwa [hr2,ha',ha2]
 have n1:qa1 l=[]↔l=[]:=by rw [<-waz,<-waz,qaW]
 have n2:qa1 m=[]↔m=[]:=by rw [<-waz,<-waz,qaW]
 refine ⟨qa1 l,rfl,qa1 m,rfl,qdV G1.low G1.nz,qdV G2.low G2.nz,b,cb1,cb2,b9,by rw [qaW];exact lN,by rw [qaW];exact mN,ee,λh1 h2=>fpp (λz=>h1 (n1.mpr z)) (λz=>h2 (n2.mpr z)),dd,by rw [qaW,qaW];exact ne',NN,by rw [qaW,qaW];exact hNN,n2',sm,λs rs H3 s3 hs rc r0=>?_⟩
 have s03:=(s1.trans s2).trans s3
 rwa [hs]
 by_cases hz:l=[]/\m=[]
 ·have e:=r0 (n1.mpr hz.1) (n2.mpr hz.2)
  subst e
  refine qck (λz=>absurd z (by simp)) (λ_=>?_)
  exact ⟨sz ∅,λt ht=>k0 hz.1 hz.2 t [] _ (s03.trans (qaf ht _)) upd_same trivial⟩
 ·have hne:l≠[]\/m≠[]:=by
   by_cases h1:l=[]
   ·exact .inr λh2=>hz ⟨h1,h2⟩
   ·exact .inl h1
  obtain ⟨R,P⟩:=rc (hne.imp (λh z=>h (n1.mp z)) (λh z=>h (n2.mp z)))
  have rne:rs≠[]:=waq.mp R.lz.1
  refine qck (λ_=>?_) (λz=>absurd rne (by simpa using z))
  have al:=qem R.lz.1
  have rl:rs.length<=1000:=by
   rcases hne with h | h
   ·have:=qh2 R.lz (qeL (qdV G1.low G1.nz) λz=>h (n1.mp z)) R.left
    rw [qaW] at this;omega
   ·have:=qh2 R.lz (qeL (qdV G2.low G2.nz) λz=>h (n2.mp z)) R.right
    rw [qaW] at this;omega
  rwa [hs,al]
  refine ⟨rs,rfl,R.lz.2,rl,λt zs H4 s4 ht hz'=>?_⟩
  have e:trim (rs.map λn=>qcN n (co rs (rs.length - 1)))=mnc rs:=qup (qlr R.lz)
  rw [e] at hz'
  exact k1 hne rs R P t zs H4 (s03.trans s4) ht hz'
theorem MR.short {g f:Nat->Rat} {n:Nat} (h0:g n≠0) (h:∀ i,n<i->g i=0) (m:MR g f) (hf:∀ k,n<=k->f k=0) (k:Nat):f k=0:=by
 obtain ⟨A,hA⟩:=m
 rw [hA k]
 exact qhf A (qmc h0 h A λk hk=>by rw [<-hA k];exact hf k hk) k
theorem MR.less {g f h:Nat->Rat} (m:MR g f) (γ:Rat) (s:Nat) (e:∀ k,h k=f k - γ*upS s g k):MR g h:=by
 obtain ⟨A,hA⟩:=m
 refine ⟨qa6 A ((List.replicate s 0++[γ]).map ((-1:Rat)*·)),λk=>?_⟩
 rw [qaC,qau,qc7,e k,hA k]
 have e2:upS s (cvL [γ] g) k=γ*upS s g k:=by
  unfold upS
  by_cases hk:s<=k
  ·rw [if_pos hk,if_pos hk]
   cases hkk:k - s with
   | zero=>rw [qar];grind
   | succ j=>rw [qao,qaG];grind
  ·rw [if_neg hk,if_neg hk];grind
 rw [e2];grind
theorem qh6 {q:Nu} {n M:Int} (hq:q.2≠0) (hM:M≠0) (h:val q=(n:Rat) / (M:Rat)):Wo q n M:=by
 unfold Wo
 unfold val at h
 have a:=qaI hq
 have b:=qaI hM
 have e:(q.1:Rat)*(M:Rat)=(n:Rat)*(q.2:Rat):=by grind
 exact_mod_cast e
theorem qmG {q:Nu} {n M:Int} (hl:Low q.1 q.2) (h:Wo q n M):q.2∣M/\q.1*(M / q.2)=n:=by
 unfold Wo at h
 have d:q.2∣M:=qf6 hl ⟨n,by rw [h,Int.mul_comm]⟩
 refine ⟨d,?_⟩
 have p0:=hl.pos
 have e:q.2*(q.1*(M / q.2))=q.2*n:=by
  have:=wcb d
  calc q.2*(q.1*(M / q.2))=q.1*(q.2*(M / q.2)):=by grind
   _=q.1*M:=by rw [this]
   _=q.2*n:=by rw [h,Int.mul_comm]
 exact Int.eq_of_mul_eq_mul_left (wad p0) e
structure RS (m:List Nu) (z:Nat->Rat) (b c d i:Nat) (L:List Nu):Prop where
 low:qap L
 ov:∃ D,Ov L D/\Bd (c+i*d) D/\∀ z∈ovN L D,Bd (b+i*(d+1)) z
 mr:MR (pwo m) (λk=>pwo L k - z k)
noncomputable def rsL (L m:List Nu) (cc:Nu) (s j:Nat):List Nu:=(List.range L.length).map λk=>if s<=k/\k - s<j then nadd (qa3 L k) (nmul (-cc.1,cc.2) (qa3 m (k - s))) else qa3 L k
theorem qqS (L m:List Nu) (cc:Nu) (s j:Nat):(rsL L m cc s j).length=L.length:=by unfold rsL;rw [waa,wal]
theorem quY {L m:List Nu} {cc:Nu} {s j k:Nat} (h:k<L.length):(rsL L m cc s j)[k]?=some (if s<=k/\k - s<j then nadd (qa3 L k) (nmul (-cc.1,cc.2) (qa3 m (k - s))) else qa3 L k):=by
 unfold rsL;rw [waf,wbk h];rfl
theorem qqT (q:Nu):val (-q.1,q.2) = - val q:=by
 unfold val
 show ((-q.1:Int):Rat) / _=_
 push_cast
 grind
theorem qqU {m:List Nu} (nm:Nz m) (m0:m≠[]):(qa3 m (m.length - 1)).1≠0:=by
 have hb:m.length - 1<m.length:=by have:=waq.mpr m0;omega
 have q:=nm m[m.length - 1] (by rw [wca];exact wah hb)
 have e:qa3 m (m.length - 1)=m[m.length - 1]:=by unfold qa3;rw [wab,wah hb];rfl
 rw [e];exact q
theorem qbp {m:List Nu} (hm:qap m) (nm:Nz m) (m0:m≠[]):pwo m (m.length - 1)≠0:=by
 have a:=qaI (qqU nm m0)
 have b:=qaI (wad (qaN hm (m.length - 1)).pos)
 unfold pwo val
 grind
theorem quZ {L m:List Nu} {cc:Nu} {s j:Nat} (hL:qap L) (hm:qap m) (hc:0<cc.2):qap (rsL L m cc s j):=λq hq=>by
 obtain ⟨k,_,rfl⟩:=wai.mp hq
 show Low (if s<=k/\k - s<j then nadd (qa3 L k) (nmul (-cc.1,cc.2) (qa3 m (k - s))) else qa3 L k).1 _
 split
 ·exact qfr (qaN hL k).pos (qfs (q:=(-cc.1,cc.2)) hc (qaN hm _).pos).pos
 ·exact qaN hL k
theorem qu0 {L m:List Nu} {cc:Nu} {s:Nat} (hL:qap L) (hm:qap m) (hc:0<cc.2) (hs:L.length=s+m.length) (k:Nat):pwo (rsL L m cc s m.length) k=pwo L k - val cc*upS s (pwo m) k:=by
 by_cases h:k<L.length
 ·have e:qa3 (rsL L m cc s m.length) k=if s<=k/\k - s<m.length then nadd (qa3 L k) (nmul (-cc.1,cc.2) (qa3 m (k - s))) else qa3 L k:=by
   unfold qa3
   rw [wab,quY h];rfl
  unfold pwo
  rw [e]
  unfold upS
  by_cases hk:s<=k
  ·rw [if_pos ⟨hk,⋯⟩,if_pos hk,qha (qaN hL k).pos (qfs (q:=(-cc.1,cc.2)) hc (qaN hm _).pos).pos,qft (q:=(-cc.1,cc.2)) hc (qaN hm _).pos,qqT]
   show _=_ - _*val (qa3 m (k - s))
   grind
  ·rw [if_neg ⋯,if_neg hk];grind
 ·rw [qa0 (by rw [qqS];omega),qa0 ⋯]
  unfold upS
  rw [if_pos ⋯,qa0 ⋯];grind
theorem RS.step {m:List Nu} {z:Nat->Rat} {b c d i:Nat} {L:List Nu} (S:RS m z b c d i L) (hm:qap m) (nm:Nz m) (m0:m≠[]) {M:Int} (OM:Ov m M) (bm:∀ z∈ovN m M,Bd d z) (hs:m.length<=L.length) {by':Nu} (lb:Low by'.1 by'.2) (vb:val by'*pwo m (m.length - 1)=1) :
  RS m z b c d (i+1) (rsL L m (nmul (qa3 L (L.length - 1)) by') (L.length - m.length) m.length).dropLast:=by
 have l0:=waq.mpr m0
 have lL:=qaN S.low (L.length - 1)
 generalize hcc:nmul (qa3 L (L.length - 1)) by'=cc
 have ccl:Low cc.1 cc.2:=by rw [<-hcc];exact qfs lL.pos lb.pos
 have vc:val cc=pwo L (L.length - 1)*val by':=by rw [<-hcc];exact qft lL.pos lb.pos
 generalize hsf:L.length - m.length=s
 have hls:L.length=s+m.length:=by omega
 have lowL':=quZ (s:=s) (j:=m.length) S.low hm ccl.pos
 have pw:=λk=>qu0 (cc:=cc) S.low hm ccl.pos hls k
 have lenL':=qqS L m cc s m.length
 have pwl:=qbp hm nm m0
 have top0:pwo (rsL L m cc s m.length) (L.length - 1)=0:=by
  rw [pw,vc]
  unfold upS
  rw [if_pos ⋯,show L.length - 1 - s=m.length - 1 by omega]
  grind
 have dl:∀ k,pwo (rsL L m cc s m.length).dropLast k=pwo L k - val cc*upS s (pwo m) k:=λk=>by
  rw [<-pw]
  by_cases h:k<L.length - 1
  ·unfold pwo qa3
   rw [wab,wab,List.getElem?_dropLast,if_pos (by rw [lenL'];exact h)]
  ·rw [qa0 (by rw [List.length_dropLast,lenL'];omega)]
   by_cases e:k=L.length - 1
   ·rw [e,top0]
   ·rw [qa0 (by rw [lenL'];omega)]
 have lowD:qap (rsL L m cc s m.length).dropLast:=λq hq=>lowL' q (List.dropLast_subset _ hq)
 refine ⟨lowD,?_,S.mr.less (val cc) s λk=>by rw [dl k];grind⟩
 obtain ⟨D,OD,bD,bz⟩:=S.ov
 generalize hμ:(ovN m M).getD (m.length - 1) 0=μ
 have pμ:pwo m (m.length - 1)=(μ:Rat) / (M:Rat):=by rw [qgS hm OM,hμ]
 have M0:=qaI (wad OM.1)
 have D0:=qaI (wad OD.1)
 have μ0:μ≠0:=λz=>pwl (by rw [pμ,z];exact zdiv _)
 have bμ:Bd d μ:=by rw [<-hμ];exact qcM bm _
 have aμ:0<(μ.natAbs:Int):=by omega
 have key:∀ k,∃ n:Int,pwo (rsL L m cc s m.length).dropLast k=(n:Rat) / ((D*(μ.natAbs:Int):Int):Rat)/\Bd (b+(i+1)*(d+1)) n:=λk=>by
  have e2:b+(i+1)*(d+1)=(d+(b+i*(d+1)))+1:=by rw [Nat.add_mul];omega
  have b1:Bd (b+i*(d+1)) ((ovN L D).getD k 0):=qcM bz k
  have b2:Bd (b+i*(d+1)) ((ovN L D).getD (L.length - 1) 0):=qcM bz _
  have hv:val cc=((ovN L D).getD (L.length - 1) 0:Rat) / (D:Rat)*((M:Rat) / (μ:Rat)):=by
   rw [vc,qgS S.low OD]
   have:val by'=(M:Rat) / (μ:Rat):=by
    rw [pμ] at vb
    have:=qaI μ0
    grind
   rw [this]
  have up:∃ w:Int,upS s (pwo m) k=(w:Rat) / (M:Rat)/\Bd d w:=by
   unfold upS
   by_cases hk:s<=k
   ·rw [if_pos hk,qgS hm OM];exact ⟨_,rfl,qcM bm _⟩
   ·rw [if_neg hk];exact ⟨0,(zdiv _).symm,qbU _⟩
  obtain ⟨w,hw,bw⟩:=up
  rw [dl,hv,hw,qgS S.low OD,e2]
  have μR:=qaI μ0
  rcases Int.natAbs_eq μ with e | e
  ·refine ⟨(μ.natAbs:Int)*(ovN L D).getD k 0 - w*(ovN L D).getD (L.length - 1) 0,?_,?_⟩
   ·rw [<-e]
    push_cast
    generalize ((ovN L D).getD k 0:Rat)=x at *
    generalize ((ovN L D).getD (L.length - 1) 0:Rat)=y at *
    grind
   ·rw [<-e];exact (bμ.mul b1).sub (bw.mul b2)
  ·refine ⟨(μ.natAbs:Int)*(ovN L D).getD k 0+w*(ovN L D).getD (L.length - 1) 0,?_,?_⟩
   ·have e':(μ.natAbs:Int) = -μ:=by omega
    rw [e']
    push_cast
    generalize ((ovN L D).getD k 0:Rat)=x at *
    generalize ((ovN L D).getD (L.length - 1) 0:Rat)=y at *
    grind
   ·have e':(μ.natAbs:Int) = -μ:=by omega
    rw [e'];exact (bμ.neg.mul b1).add (bw.mul b2)
 have DP:0<D*(μ.natAbs:Int):=wa2 OD.1 aμ
 have elem:∀ q∈(rsL L m cc s m.length).dropLast,q.2∣D*(μ.natAbs:Int)/\Bd (b+(i+1)*(d+1)) (q.1*((D*(μ.natAbs:Int)) / q.2)):=λq hq=>by
  obtain ⟨k,hk,e⟩:=wb9 hq
  obtain ⟨n,hn,bn⟩:=key k
  have lq:=lowD q hq
  have ek:qa3 (rsL L m cc s m.length).dropLast k=q:=by unfold qa3;rw [wab,wah hk,<-e];rfl
  unfold pwo at hn
  rw [ek] at hn
  obtain ⟨h1,h2⟩:=qmG lq (qh6 (wad lq.pos) (wad DP) hn)
  exact ⟨h1,by rw [h2];exact bn⟩
 refine ⟨D*(μ.natAbs:Int),⟨DP,λq hq=>(elem q hq).1⟩,?_,λz hz=>?_⟩
 ·refine (bD.mul (bμ.le (y:=(μ.natAbs:Int)) ⋯)).mono ?_
  rw [Nat.add_mul];omega
 ·obtain ⟨q,hq,rfl⟩:=wai.mp hz
  exact (elem q hq).2
theorem qwg (f:Nat->Int):∀ (A:List Int) (k:Nat),cvL (A.map λz:Int=>(z:Rat)) (λk=>(f k:Rat)) k=((cvL A f k:Int):Rat)
 | [],_=>rfl
 | x::A,0=>by rw [wa1,qar,qar];push_cast;grind
 | x::A,k+1=>by rw [wa1,qao,qao,qwg f A k];push_cast;grind
theorem qjf {f:Nat->Int} {G:Nat->Rat} {β:Rat} (β0:β≠0) (hG:∀ k,G k=β*(f k:Rat)) (A:List Int) (k:Nat):((cvL A f k:Int):Rat)=β⁻¹*cvL (A.map λz:Int=>(z:Rat)) G k:=by
 rw [qaq hG,qba,qwg]
 grind
theorem MR.of {f g:Nat->Int} {F G:Nat->Rat} {α β:Rat} (β0:β≠0) (hF:∀ k,F k=α*(f k:Rat)) (hG:∀ k,G k=β*(g k:Rat)) (m:MQ g f):MR G F:=by
 obtain ⟨c,c0,A,hA⟩:=m
 have c1:=qaI c0
 refine ⟨(A.map λz:Int=>(z:Rat)).map (α*(c:Rat)⁻¹*β⁻¹*·),λk=>?_⟩
 have e:(c:Rat)*(f k:Rat)=((cvL A g k:Int):Rat):=by exact_mod_cast hA k
 rw [qau,hF k]
 rw [qjf β0 hG] at e
 grind
theorem MR.qi {r o g:Nat->Int} {n L M G:Nat->Rat} {α β γ:Rat} (α0:α≠0) (β0:β≠0) (hL:∀ k,L k=α*(r k:Rat)) (hM:∀ k,M k=β*(o k:Rat)) (hG:∀ k,G k=γ*(g k:Rat)) (q:QI r o g) (m1:MR n L) (m2:MR n M):MR n G:=by
 obtain ⟨d,d0,U,W,hU⟩:=q
 obtain ⟨A,hA⟩:=m1
 obtain ⟨B,hB⟩:=m2
 have d1:=qaI d0
 refine ⟨qa6 ((qaO (U.map λz:Int=>(z:Rat)) A).map (γ*(d:Rat)⁻¹*α⁻¹*·)) ((qaO (W.map λz:Int=>(z:Rat)) B).map (γ*(d:Rat)⁻¹*β⁻¹*·)),λk=>?_⟩
 rw [qaC,qau,qau,qav,qav,<-qaq hA,<-qaq hB]
 have e:(d:Rat)*(g k:Rat)=((cvL U r k:Int):Rat)+((cvL W o k:Int):Rat):=by exact_mod_cast hU k
 rw [qjf α0 hL,qjf β0 hM] at e
 rw [hG k]
 grind
theorem qdb {l:List Nu} (hl:qap l) (k:Nat):pwo l k=((qbJ l:Rat))⁻¹*(co (qa1 l) k:Rat):=by
 rw [qgS hl (qbi hl),<-qjC]
 show (co (qa1 l) k:Rat) / _=_
 grind
theorem qqV {l:List Nu} (hl:qap l):((qbJ l:Rat))⁻¹≠0:=by
 have:=qaI (wad (qbi hl).1)
 grind
theorem qeX {g:List Int} (lg:Lz g) (k:Nat):pwo (mnc g) k=((co g (g.length - 1):Rat))⁻¹*(co g k:Rat):=by
 rw [qjZ lg];grind
theorem qfc {g:List Int} (lg:Lz g):((co g (g.length - 1):Rat))⁻¹≠0:=by
 have:=qaI lg.2
 grind
theorem RC.symm {r o:Nat->Int} {g:List Int} (G:RC r o g):RC o r g:=by
 obtain ⟨d,d0,U,W,h⟩:=G.qi
 exact ⟨G.lz,G.right,G.left,⟨d,d0,W,U,λk=>by rw [h k];omega⟩⟩
theorem qls {lead:Int} (h0:lead≠0) {B:Nat} {ns:List Int} (hb:∀ z∈ns,Bd B z):Ov (ns.map λn=>qcN n lead) (lead.natAbs:Int)/\∀ z∈ovN (ns.map λn=>qcN n lead) (lead.natAbs:Int),Bd B z:=by
 have A0:(0:Int)<(lead.natAbs:Int):=by omega
 have key:∀ n∈ns,(qcN n lead).2∣(lead.natAbs:Int)/\Bd B ((qcN n lead).1*((lead.natAbs:Int) / (qcN n lead).2)):=λn hn=>by
  have lq:=qdO (n:=n) h0
  have l1:=qaI h0
  have:∃ s:Int,val (qcN n lead)=(s:Rat) / (((lead.natAbs:Int):Int):Rat)/\Bd B s:=by
   rw [qey h0]
   rcases Int.natAbs_eq lead with e | e
   ·exact ⟨n,by rw [<-e],hb n hn⟩
   ·refine ⟨-n,?_,(hb n hn).neg⟩
    have e':(lead.natAbs:Int) = -lead:=by omega
    rw [e'];push_cast;grind
  obtain ⟨s,hs,bs⟩:=this
  obtain ⟨d1,d2⟩:=qmG lq (qh6 (wad lq.pos) (wad A0) hs)
  exact ⟨d1,by rw [d2];exact bs⟩
 refine ⟨⟨A0,λq hq=>?_⟩,λz hz=>?_⟩
 ·obtain ⟨n,hn,rfl⟩:=wai.mp hq
  exact (key n hn).1
 ·obtain ⟨q,hq,rfl⟩:=wai.mp hz
  obtain ⟨n,hn,rfl⟩:=wai.mp hq
  exact (key n hn).2
theorem qu1 {l:List Nu} {M:Int} {B:Nat} (h:Ov l M) (hb:∀ z∈ovN l M,Bd B z):Ov (trim l) M/\∀ z∈ovN (trim l) M,Bd B z:=by
 refine ⟨⟨h.1,λq hq=>h.2 q (qbC hq)⟩,λz hz=>?_⟩
 obtain ⟨q,hq,rfl⟩:=wai.mp hz
 exact hb _ (wai.mpr ⟨q,qbC hq,rfl⟩)
theorem qxb {F G:Nat->Rat} {P:Nat->Rat} (n:Nat) (h:∀ k,P k=cv F G n k):MR G P:=by
 refine ⟨(List.range n).map F,λk=>?_⟩
 rw [h k]
 clear h
 induction n with
 | zero=>rfl
 | succ n ih=>
   show cv F G n k+(if n<=k then F n*G (k - n) else 0)=_
   rw [ih,List.range_succ,wbj,List.map_singleton,qbl,waa,wal]
   unfold upS
   by_cases hk:n<=k
   ·rw [if_pos hk,if_pos hk]
   ·rw [if_neg hk,if_neg hk];grind
structure PS (l m:List Nu) (b c d e nq:Nat) (r:List Int) (B:Int) (qs:List Nu):Prop where
 len:r.length<=l.length
 tz:Tz r
 B0:B≠0
 N:∃ N,0<N/\B∣N/\Bd (c+(nq - (r.length+1 - m.length))*d) N/\∀ q∈qs,q.2∣N
 low:qap qs
 qb:∀ q∈qs,Bd (b+nq*(d+1)+e) q.1
 rb:∀ z∈r,Bd (b+(nq - (r.length+1 - m.length))*(d+1)) z
 ql:qs.length=nq
 zer:∀ j,j+m.length<=r.length->qa3 qs j=(0,1)
 idn:∀ k,pwo l k=cv (pwo qs) (pwo m) nq k+(co r k:Rat) / (B:Rat)
theorem qqW {ns:List Int} {g:Int} (k:Nat):co (ns.map (·/ g)) k=co ns k / g:=qlo (F:=(·/ g)) (Int.zero_ediv g) ns k
theorem qtP {ns:List Int} {g:Int} (h:∀ z∈ns,g∣z) (k:Nat):g∣co ns k:=qnA h k
theorem PS.step {l m:List Nu} {b c d e nq:Nat} {r:List Int} {B:Int} {qs:List Nu} (S:PS l m b c d e nq r B qs) (hm:qap m) (nm:Nz m) (m1:1<=m.length) (bC:∀ z∈qa1 m,Bd d z) (bE:Bd e (qbJ m)) (hq:nq=l.length+1 - m.length) (hr:m.length<=r.length)
  {lead top sh f w g:Int} (hlead:lead=co (qa1 m) (m.length - 1)) (htop:top=co r (r.length - 1)) (hs0:0<sh) (hf:f*sh=lead) (hw:w*sh=top) {r1:List Int} (t1:Tz r1) (hr1:∀ k,co r1 k=f*co r k - w*upS (r.length - m.length) (co (qa1 m)) k) (g0:0<g) (gB:g∣B*f) (gr:∀ z∈r1,g∣z) :
  PS l m b c d e nq (r1.map (·/ g)) (B*f / g) (qs.set (r.length - m.length) (qcN (top*qbJ m) (B*lead)))/\r1.length<r.length:=by
 have lne:lead≠0:=by rw [hlead];exact qmy hm nm m1
 have cl:(qa1 m).length=m.length:=qaW m
 have fne:f≠0:=λz=>lne (by rw [<-hf,z,Int.zero_mul])
 have lt1:r1.length<r.length:=by
  have:r1.length<=r.length - 1:=qwd (b:=[]) t1 _ λk hk=>by
   rw [hr1 k]
   unfold upS
   rw [if_pos ⋯]
   by_cases ek:k=r.length - 1
   ·rw [ek,<-htop,show r.length - 1 - (r.length - m.length)=m.length - 1 by omega,<-hlead,<-hw,<-hf];grind
   ·rw [qaD (a:=r) ⋯,qaD (a:=qa1 m) (k:=k - (r.length - m.length)) ⋯];omega
  omega
 have qcP:(r1.map (·/ g)).length=r1.length:=waa ..
 obtain ⟨N,N0,NB,Nb,Nq⟩:=S.N
 have hlen:=S.len
 have bl:Bd d lead:=by rw [hlead];exact qbE bC _
 have bt:Bd (b+(nq - (r.length+1 - m.length))*(d+1)) top:=by rw [htop];exact qbE S.rb _
 have bf:Bd d f:=qdh lne ⟨sh,by rw [hf]⟩ bl
 have bw:Bd (b+(nq - (r.length+1 - m.length))*(d+1)) w:=by
  by_cases z:top=0
  ·have w0:w=0:=by
    rcases Int.mul_eq_zero.mp (hw.trans z) with h | h
    ·exact h
    ·omega
   rw [w0];exact qbU _
  ·exact qdh z ⟨sh,by rw [hw]⟩ bt
 have sle:r.length - m.length<nq:=by omega
 have bne:B*lead≠0:=was S.B0 lne
 have nlow:=qdO (n:=top*qbJ m) bne
 have mem_set:∀ {q:Nu},q∈qs.set (r.length - m.length) (qcN (top*qbJ m) (B*lead))->q∈qs\/q=qcN (top*qbJ m) (B*lead):=λ{q} h=>List.mem_or_eq_of_mem_set h
 have sget:∀ j,qa3 (qs.set (r.length - m.length) (qcN (top*qbJ m) (B*lead))) j=if j=r.length - m.length then qcN (top*qbJ m) (B*lead) else qa3 qs j:=λj=>by
  unfold qa3
  rw [wab,wab]
  by_cases e:j=r.length - m.length
  ·rw [if_pos e,e,List.getElem?_set_self (by rw [S.ql];exact sle)];rfl
  ·rw [if_neg e,List.getElem?_set_ne (λz=>e z.symm)]
 have grow:∀ x:Nat,(nq - (r.length+1 - m.length))*x+x<=(nq - (r1.length+1 - m.length))*x:=λx=>by
  have:=wa4 x (show nq - (r.length+1 - m.length)+1<=nq - (r1.length+1 - m.length) by omega)
  rw [Nat.add_mul,Nat.one_mul] at this
  exact this
 refine ⟨⟨⋯,?_,?_,⟨N*(lead.natAbs:Int),?_,?_,?_,?_⟩,?_,?_,?_,?_,?_,?_⟩,lt1⟩
 ·rcases t1 with h | h
  ·left;rw [h];rfl
  ·right
   rw [qcP,qqW]
   intro z
   have:=Int.ediv_mul_cancel (qtP gr (r1.length - 1))
   rw [z,Int.zero_mul] at this
   exact h this.symm
 ·intro z
  have d:=Int.ediv_mul_cancel gB
  rw [z,Int.zero_mul] at d
  exact was S.B0 fne d.symm
 ·exact wa2 N0 ⋯
 ·refine wa0 (Int.ediv_dvd_of_dvd gB) (Int.mul_dvd_mul NB ?_)
  exact Int.dvd_natAbs.mpr ⟨sh,by rw [hf]⟩
 ·have bl':Bd d (lead.natAbs:Int):=bl.le (by rw [wba];exact wac _)
  refine (Nb.mul bl').mono ?_
  rw [qcP]
  have:=grow d
  omega
 ·intro q hq
  rcases mem_set hq with h | h
  ·exact wa0 (Nq q h) (Int.dvd_mul_right ..)
  ·rw [h]
   exact qsr bne (Int.mul_dvd_mul NB (Int.dvd_natAbs.mpr (wbp _)))
 ·intro q hq
  rcases mem_set hq with h | h
  ·exact S.low q h
  ·rw [h];exact nlow
 ·intro q hq
  rcases mem_set hq with h | h
  ·exact S.qb q h
  ·rw [h]
   refine (qqh bne (bt.mul bE) (Nat.lt_two_pow_self:Bd _ (B*lead))).1.mono ?_
   have:=wa4 (d+1) (show nq - (r.length+1 - m.length)<=nq by omega)
   omega
 ·intro z hz
  obtain ⟨y,hy,rfl⟩:=wai.mp hz
  refine qqI (gr y hy) ?_
  refine qlq (n:=b+(nq - ((r1.map (·/ g)).length+1 - m.length))*(d+1)) (λk=>?_) y hy
  rw [hr1 k,qcP]
  have gw:=grow (d+1)
  refine Bd.mono (m:=(b+(nq - (r.length+1 - m.length))*(d+1)+d)+1) (Bd.sub ((bf.mul (qbE S.rb k)).mono ⋯) ?_) ⋯
  unfold upS
  split
  ·exact bw.mul (qbE bC _)
  ·rw [Int.mul_zero];exact qbU _
 ·rw [List.length_set];exact S.ql
 ·intro j hj
  rw [qcP] at hj
  rw [sget,if_neg ⋯]
  exact S.zer j ⋯
 ·intro k
  have hB:=qaI S.B0
  have hL:=qaI lne
  have hg:=qaI (wad g0)
  have hF:=qaI fne
  have hE:=qaI (wad (qbi hm).1)
  have c1:=qtx (f:=pwo qs) (f':=pwo (qs.set (r.length - m.length) (qcN (top*qbJ m) (B*lead)))) (g:=pwo m) (s:=r.length - m.length) (x:=val (qcN (top*qbJ m) (B*lead)))
   (by unfold pwo;rw [S.zer _ ⋯];exact zdiv _) (by unfold pwo;rw [sget,if_pos rfl]) (λi hi=>by unfold pwo;rw [sget,if_neg hi]) nq k
  have gd:g∣f*co r k - w*upS (r.length - m.length) (co (qa1 m)) k:=by rw [<-hr1 k];exact qtP gr k
  rw [c1,S.idn k,qqW,hr1 k,qnz (wad g0) gd,qnz (wad g0) gB,qey bne]
  have hf':(f:Rat)*sh=lead:=by exact_mod_cast hf
  have hw':(w:Rat)*sh=top:=by exact_mod_cast hw
  have hS:=qaI (wad hs0)
  unfold upS
  by_cases hk:r.length - m.length<=k
  ·rw [if_pos hk,if_pos ⟨sle,hk⟩,qgS hm (qbi hm),<-qjC]
   show _+(co r k:Rat) / _=_+_*((co (qa1 m) (k - (r.length - m.length)):Rat) / _)+_
   push_cast
   generalize (co (qa1 m) (k - (r.length - m.length)):Rat)=dk
   generalize cv (pwo qs) (pwo m) nq k=c
   generalize (co r k:Rat)=x
   grind
  ·rw [if_neg hk,if_neg ⋯]
   push_cast
   generalize cv (pwo qs) (pwo m) nq k=c
   generalize (co r k:Rat)=x
   grind
theorem qhk {a b:Nu} (h:qnq a=qnq b):a=b:=by
 unfold qnq at h
 injection h with h
 injection h with h1 h2
 injection h2 with h2 _
 injection h1 with h1
 injection h2 with h2
 exact Prod.ext h1 h2
theorem qj1 {l m:List Nu} (h:qiu l=qiu m):l=m:=by
 unfold qiu at h
 injection h with h
 induction l generalizing m with
 | nil=>
   cases m with
   | nil=>rfl
   | cons b m=>simp at h
 | cons a l ih=>
   cases m with
   | nil=>simp at h
   | cons b m=>
     rw [wa1,wa1] at h
     injection h with h1 h2
     rw [qhk h1,ih h2]
theorem qoD (h:qc0 K vs H Q E):qqz K { nx:=λ_ H'=>Q .non H',rt:=Q } (L2.start ["P","Q","row","divisor","rest","bottom","lead","quotient","shift","shared","spare"] vs) H:=by
 obtain ⟨p,q,xs,ys,l,m,b0,c0,d0,e0,rfl,hp,hq,hN,hM,GL,GM,m0,l10,m6,hc,hb,he,hd,k⟩:=h
 obtain ⟨cb1,cB1,ct1⟩:=GL.clr
 obtain ⟨cb2,cB2,ct2⟩:=GM.clr
 obtain ⟨M,hO,bM,bOv⟩:=GL.ov
 obtain ⟨M',hO',bM',_⟩:=GM.ov
 have hl:=GL.low
 have hm:=GM.low
 have nm:=GM.nz
 have m1:1<=m.length:=waq.mpr m0
 have b9:b0<=900000:=by omega
 have c9:c0<=400000:=by omega
 have lx:=hN.length
 have ly:=hM.length
 have bmn:∀ q∈m,Bd 60000000 q.1:=λq hq=>(ct2 q hq).mono ⋯
 have bE:Bd e0 (qbJ m):=cB2
 have OE:=qbi hm
 have OL:=qbi hl
 have bL:Bd c0 (qbJ l):=cB1
 have cl:(qa1 m).length=m.length:=by unfold qa1;rw [waa]
 have cll:(qa1 l).length=l.length:=by unfold qa1;rw [waa]
 refine qcn (qan rfl ⟨_,_,l,M,rfl,hp,hN,hl,hO,bM.mono ⋯,λq hq=>(ct1 q hq).mono ⋯,⋯,λra a H1 s1 hr1 ha1=>?_⟩)
 have hq1:=s1 _ _ hq
 refine qcn (qan rfl ⟨_,_,m,qbJ m,rfl,hq1,hM.tp (tpS s1),hm,OE,bE.mono ⋯,bmn,⋯,λrb b H2 s2 hr2 ha2=>?_⟩)
 have hr1:=s2 _ _ hr1
 have ha1:=s2 _ _ ha1
 have s12:=s1.trans s2
 have hp2:=s12 _ _ hp
 have hq2:=s12 _ _ hq
 have lastI:∀ {r:List Int},1<=r.length->atI (r.map V.int) (-1)=some (V.int (r.getD (r.length - 1) 0)):=λ{r} h=>by
  unfold atI ixN
  rw [if_neg ∅,if_pos (by rw [waa];omega),waa,show (-1+(r.length:Int)).toNat=r.length - 1 by omega]
  show (r.map V.int)[r.length - 1]?=_
  rw [waf,wab,wah ⋯]
  rfl
 have el:=lastI (r:=qa1 m) ⋯
 rw [cl] at el
 generalize hlead:(qa1 m).getD (m.length - 1) 0=lead at el
 have lne:lead≠0:=by rw [<-hlead];exact qmy hm nm m1
 have bld:Bd d0 lead:=by rw [<-hlead];exact qcM cb2 _
 refine qcp (qip rfl hr1 rfl (qcp (qip rfl hr1 rfl (qcp (qcO (qip rfl hr2 rfl ⟨_,rfl,_,_,_,_,rfl,rfl,ha2,el,?_⟩))))))
 refine qcp (qcO (qgv (qbm (r_c (r_c ⟨qcP,λe1 he1=>⟨qjH,λe2 he2=>?_⟩⟩)))))
 have u:=(qaf he1 (.tup [.int 0,.int 1])).trans (qaf he2 (.lst [.ref e1]))
 have en:(if (0:Int) > (xs.length:Int) - (ys.length:Int)+1 then 0 else (xs.length:Int) - (ys.length:Int)+1)=((l.length+1 - m.length:Nat):Int):=by split <;> omega
 refine ⟨_,rfl,_,_,rfl,u _ _ hp2,_,rfl,_,_,rfl,u _ _ hq2,_,_,rfl,rfl,_,_,rfl,rfl,_,_,rfl,?_⟩
 refine ⟨_,((l.length+1 - m.length:Nat):Int),_,rfl,congrArg V.int en,upd_same,⋯,⋯,sz (by simp;omega),λw hw=>?_⟩
 refine up3 he1 he2 hw λH3 h1 hwz u _ w2=>?_
 rw [wb2,qhd] at hwz
 have N0:Nums H3 (List.replicate (l.length+1 - m.length) (V.ref e1)) (List.replicate (l.length+1 - m.length) (0,1)):=Nums.rep ⟨e1,rfl,h1⟩ _
 have gz:∀ n j:Nat,qa3 (List.replicate n ((0,1):Nu)) j=(0,1):=λn j=>by
  unfold qa3
  rw [wab,wb4]
  split <;> rfl
 refine while_by (λn σ H'=>∃ (c:Addr) (r:List Int) (B:Int) (zs:List V) (qs:List Nu) (x8 x9 x10:Option V),σ=[some (.ref p),some (.ref q),some (.ref ra),some (.ref rb),some (.ref c),some (.int B),some (.int lead),some (.ref w),x8,x9,x10]/\Same H2 H'/\H' c=some (.lst (r.map V.int))/\c≠w/\H' w=some (.lst zs)/\Nums H' zs qs/\PS l m b0 c0 d0 e0 (l.length+1 - m.length) r B qs/\n=r.length) l.length
  ⟨a,qa1 l,qbJ l,_,_,none,none,none,rfl,u,u _ _ ha1,qas ha1 w2,hwz,N0,⟨⋯,qdV hl GL.nz,wad OL.1,⟨qbJ l,OL.1,wbp _,bL.mono ⋯,λq hq=>?_⟩,λq hq=>?_,λq hq=>?_,λz hz=>?_,List.length_replicate ..,λj _=>gz _ j,λk=>?_⟩,cll.symm⟩ ?_
 ·rw [(List.mem_replicate.mp hq).2];exact Int.one_dvd _
 ·rw [(List.mem_replicate.mp hq).2];exact quq
 ·rw [(List.mem_replicate.mp hq).2];exact qbU _
 ·exact (cb1 z hz).mono ⋯
 ·rw [qqj _ _ (λi _=>by unfold pwo;rw [gz];exact zdiv _),qgS hl OL,qjC]
  exact (Rat.zero_add _).symm
 rintro n σ H4 ⟨c,r,B,zs,qs,x8,x9,x10,rfl,s4,hc4,cw,hw4,N4,S4,rfl⟩
 have hq4:=s4 _ _ hq2
 refine ⟨_,rfl,_,_,rfl,hc4,_,rfl,_,_,rfl,hq4,_,_,rfl,rfl,_,rfl,qck (λcc=>?_) (λcc=>?_)⟩
 ·have hrl:m.length<=r.length:=by have cc:=of_decide_eq_true cc;rw [waa] at cc;omega
  refine ⟨_,λ_ _ h=>h,?_⟩
  have es:((r.map V.int).length:Int) - (ys.length:Int)=((r.length - m.length:Nat):Int):=by rw [waa];omega
  have lt:=lastI (r:=r) ⋯
  generalize htop:r.getD (r.length - 1) 0=top at lt
  have hr24:=s4 _ _ hr2
  have ha24:=s4 _ _ ha2
  obtain ⟨N,NN0,NB,Nb,Nq⟩:=S4.N
  have BBd:Bd 400000 B:=(qdh (wad NN0) NB Nb).mono (wak (Nat.add_le_add_left (wa4 _ (Nat.sub_le _ _)) _) hc)
  have rsm:b0+(l.length+1 - m.length - (r.length+1 - m.length))*(d0+1)<=900000:=by
   have:=wa4 (d0+1) (Nat.sub_le (l.length+1 - m.length) (r.length+1 - m.length))
   omega
  have btop:Bd 900000 top:=by rw [<-htop];exact (qcM S4.rb _).mono rsm
  have rb4:∀ z∈r,Bd 60000000 z:=λz hz=>(S4.rb z hz).mono ⋯
  refine ⟨_,rfl,_,_,rfl,hc4,_,rfl,_,_,rfl,hq4,_,_,rfl,rfl,?_⟩
  show qeQ K _ [some (.ref p),some (.ref q),some (.ref ra),some (.ref rb),some (.ref c),some (.int B),some (.int lead),some (.ref w),some (.int (((r.map V.int).length:Int) - (ys.length:Int))),x9,x10] _
  rw [es]
  have bne:B*lead≠0:=was S4.B0 lne
  refine qwb (qbs ⟨_,rfl,_,rfl,_,_,_,_,rfl,rfl,hc4,lt,_,rfl,_,_,_,_,rfl,rfl,hr24,rfl,_,_,rfl,rfl,qo5 btop bE,_,rfl,_,rfl,_,_,rfl,rfl,qo5 BBd bld,_,_,rfl,bne,λt1 ht1=>?_⟩)
  have lzs:zs.length=l.length+1 - m.length:=by rw [N4.length,S4.ql]
  have rlen:=S4.len
  refine ⟨_,rfl,_,rfl,_,zs,_,r.length - m.length,rfl,rfl,qaf ht1 _ _ _ hw4,qfM rfl ⋯,?_⟩
  refine up2 ht1 hw4 w2 s4 λH5 s5 hw5 h5 tp5 k5=>?_
  have hn:=Nums.set (q:=qcN (top*qbJ m) (B*lead)) ⟨t1,rfl,h5⟩ (r.length - m.length) (N4.tp tp5)
  have hc5:=k5 _ _ cw hc4
  have hr25:=s5 _ _ hr2
  have ha25:=s5 _ _ ha2
  refine qb0 ⟨_,rfl,_,rfl,_,_,_,_,rfl,rfl,hc5,lt,_,rfl,_,_,rfl,?_⟩
  show qeP K _ [some (.ref p),some (.ref q),some (.ref ra),some (.ref rb),some (.ref c),some (.int B),some (.int lead),some (.ref w),some (.int ((r.length - m.length:Nat):Int)),some (.int ((Int.gcd top lead:Nat):Int)),x10] _
  have sh0:(0:Int)<((Int.gcd top lead:Nat):Int):=by have:=Int.gcd_pos_of_ne_zero_right top lne;omega
  have shl:((Int.gcd top lead:Nat):Int)∣lead:=wbs top lead
  have sht:((Int.gcd top lead:Nat):Int)∣top:=wby top lead
  have hf:=Int.ediv_mul_cancel shl
  have hw':=Int.ediv_mul_cancel sht
  generalize hshe:((Int.gcd top lead:Nat):Int)=sh at sh0 shl sht hf hw' ⊢
  have bfe:=qqI shl bld
  have bwe:=qqI sht btop
  have sfd:lead.fdiv sh=lead / sh:=wbo lead (wbn sh0)
  have stf:top.fdiv sh=top / sh:=wbo top (wbn sh0)
  generalize hfe:lead / sh=f at hf bfe sfd ⊢
  generalize top / sh=wt at hw' bwe stf ⊢
  refine qcp (qw4 ⟨_,rfl,_,rfl,_,rfl,_,_,rfl,rfl,wad sh0,_,rfl,_,_,_,_,rfl,rfl,hr25,rfl,_,rfl,_,rfl,_,_,_,_,rfl,rfl,hc5,lt,_,rfl,_,_,rfl,rfl,wad sh0,_,rfl,?_⟩)
  refine ⟨_,_,r,qa1 m,f,wt,r.length - m.length,by rw [<-sfd,<-stf],hc5,ha25,⋯,⋯,bfe.mono ⋯,bwe.mono ∅,rb4,λz hz=>(cb2 z hz).mono ⋯,λc1 r1 H6 s6 hc6 t6 e6=>?_⟩
  have fne:f≠0:=λz=>lne (by rw [<-hf,z,Int.zero_mul])
  have l6:r1.length<=1000:=by
   have:r1.length<=1000:=qwd (b:=[]) t6 1000 λk hk=>by
    rw [e6 k,qaD (a:=r) ⋯]
    unfold upS
    split
    ·rw [qaD (a:=qa1 m) ⋯];omega
    ·omega
   exact this
  refine ⟨_,rfl,_,rfl,_,rfl,_,_,rfl,rfl,wad sh0,_,_,rfl,rfl,?_⟩
  rw [sfd]
  refine ⟨qo5 BBd bfe,?_⟩
  show qeO K _ _ _
  refine qb0 ⟨_,rfl,_,rfl,_,r1,_,rfl,hc6,l6,λg H7 s7 gn gB gr _=>?_⟩
  have g0:0<g:=by
   rcases Int.lt_or_eq_of_le gn with z | z
   ·exact z
   ·exact absurd (Int.zero_dvd.mp (z ▸ gB)) (was S4.B0 fne)
  have hc7:=s7 _ _ hc6
  obtain ⟨S5,lt5⟩:=S4.step hm nm m1 cb2 bE rfl hrl hlead.symm htop.symm sh0 hf hw' t6 e6 g0 gB gr
  have r1l:(r1.map (·/ g)).length=r1.length:=waa ..
  refine qb0 ⟨_,rfl,_,rfl,_,r1,_,rfl,hc7,.inl g0,⋯,λc2 hc2=>⟨_,rfl,_,rfl,_,_,rfl,rfl,g0,?_⟩⟩
  have sc2:=qaf hc2 (.lst ((r1.map (·/ g)).map V.int))
  have s67:=s6.trans s7
  have s56:=s67.trans sc2
  exact ⟨r1.length,lt5,_,r1.map (·/ g),_,_,_,_,_,_,rfl,s5.trans s56,upd_same,(qas (s67 _ _ hw5) hc2).symm,s56 _ _ hw5,hn.tp (tpS s56),S5,r1l.symm⟩
 ·have hrl:r.length<m.length:=by have cc:=of_decide_eq_false (Bool.eq_false_iff.mpr cc);rw [waa] at cc;omega
  obtain ⟨N,NN0,NB,Nb,Nq⟩:=S4.N
  have BBd:Bd 400000 B:=(qdh (wad NN0) NB Nb).mono (wak (Nat.add_le_add_left (wa4 _ (Nat.sub_le _ _)) _) hc)
  have qlen:=S4.ql
  show qhS K _ _ _
  refine qdu (qbm (qco ⟨_,rfl,_,_,qs,rfl,hw4,N4,⋯,λt1 z1 H5 s5 h5 n5=>?_⟩))
  have hc5:=s5 _ _ hc4
  have hlen4:=S4.len
  refine qbs ⟨_,rfl,_,rfl,_,r,_,rfl,hc5,S4.B0,⋯,λt2 z2 H6 s6 h6 n6=>⟨qcP,λt ht=>?_⟩⟩
  have st:=qaf ht (.tup [.ref t1,.ref t2])
  have rlow:qap (r.map λn=>qcN n B):=λq hq=>by obtain ⟨n,_,rfl⟩:=wai.mp hq;exact qdO S4.B0
  have rpv:∀ k,pwo (r.map λn=>qcN n B) k=(r.getD k 0:Rat) / (B:Rat):=λk=>by
   unfold pwo qa3
   rw [wab,wab,waf]
   cases r[k]? with
   | none=>exact (zdiv _).trans (zdiv _).symm
   | some z=>exact qey S4.B0
  have Bo:=S4.rb
  have r0:r.length+1 - m.length=0:=by omega
  rw [r0,Nat.sub_zero] at Bo Nb
  have bB:Bd (c0+(l.length+1 - m.length)*d0) B:=qdh (wad NN0) NB Nb
  obtain ⟨RO,RB⟩:=qls S4.B0 Bo
  obtain ⟨TO,TB⟩:=qu1 RO RB
  refine k t t1 t2 _ (trim qs) (trim (r.map λn=>qcN n B)) ((((s12.trans s4).trans s5).trans s6).trans st) upd_same (Pl.same ⟨z1,h5,n5⟩ (s6.trans st)) (Pl.same ⟨z2,h6,n6⟩ st) (λq hq=>S4.low q (qbC hq)) (qdN _) ?_ ⟨λq hq=>rlow q (qbC hq),qdN _,_,TO,bB.le ⋯,TB⟩ ?_ λk=>?_
  ·have:=qcw qs
   omega
  ·have:=qcw (r.map λn=>qcN n B)
   rw [waa] at this
   omega
  ·obtain ⟨d,hd⟩:∃ d,l.length+1 - m.length=(trim qs).length+d:=⟨l.length+1 - m.length - (trim qs).length,by have:=qcw qs;omega⟩
   rw [qdP rlow,rpv,S4.idn k,qnl (λi=>(qdP S4.low i).symm),hd,qqk (λi hi=>qa0 hi)]
   rfl
theorem MR.trans {n M L:Nat->Rat} (h1:MR n M) (h2:MR M L):MR n L:=by
 obtain ⟨A,hA⟩:=h1
 obtain ⟨B,hB⟩:=h2
 exact ⟨qaO B A,λk=>by rw [qav,<-qaq hA,hB k]⟩
theorem MR.add {n F G L:Nat->Rat} (h1:MR n F) (h2:MR n G) (h:∀ k,L k=F k+G k):MR n L:=by
 obtain ⟨A,hA⟩:=h1
 obtain ⟨B,hB⟩:=h2
 exact ⟨qa6 A B,λk=>by rw [qaC,<-hA k,<-hB k,h k]⟩
theorem MR.smul {n F L:Nat->Rat} (h1:MR n F) (c:Rat) (h:∀ k,L k=c*F k):MR n L:=by
 obtain ⟨A,hA⟩:=h1
 exact ⟨A.map (c*·),λk=>by rw [qau,<-hA k,h k]⟩
theorem MR.sub {n F G L:Nat->Rat} (h1:MR n F) (h2:MR n G) (h:∀ k,L k=F k - G k):MR n L:=
 h1.add (h2.smul (-1) (L:=λk=>-1*G k) λ_=>rfl) λk=>by rw [h k];grind
theorem qnH (F G:Nat->Rat) (k:Nat):∀ n,cv F G n k=cvL ((List.range n).map F) G k
 | 0=>rfl
 | n+1=>by
   show cv F G n k+(if n<=k then F n*G (k - n) else 0)=_
   rw [qnH F G k n,List.range_succ,wbj,List.map_singleton,qbl,waa,wal]
   unfold upS
   by_cases hk:n<=k
   ·rw [if_pos hk,if_pos hk]
   ·rw [if_neg hk,if_neg hk];grind
theorem qwh {F:Nat->Rat} {n:Nat} (h:∀ i,n<=i->F i=0) (k:Nat):F k=cvL ((List.range n).map F) qca k:=by
 rw [qcm,wab,waf]
 by_cases hk:k<n
 ·rw [wbk hk];rfl
 ·rw [wax (by rw [wal];omega),h k ⋯];rfl
theorem MR.len {g h:List Int} (lg:Lz g) (lh:Lz h) (m:MR (pwo (mnc g)) (pwo (mnc h))):g.length<=h.length:=by
 rcases waj h.length g.length with y | y
 ·exfalso
  have g0:=lg.1
  have one:∀ {x:List Int},Lz x->pwo (mnc x) (x.length - 1)=1:=λ{x} lx=>by unfold pwo;rw [qj0 lx];unfold val;show ((1:Int):Rat) / ((1:Int):Rat)=1;grind
  have z:=MR.short (n:=g.length - 1) (by rw [one lg];decide) (λi hi=>qa0 (by rw [qcu];omega)) m (λk hk=>qa0 (by rw [qcu];omega)) (h.length - 1)
  rw [one lh] at z
  exact absurd z ∅
 ·exact y
theorem Gq.mono {b c b' c':Nat} {l:List Nu} (G:Gq b c l) (h1:b<=b') (h2:c<=c'):Gq b' c' l:=by
 obtain ⟨x,y,M,O,bM,bz⟩:=G
 exact ⟨x,y,M,O,bM.mono h2,λz hz=>(bz z hz).mono h1⟩
theorem qj2 {T:List Nu} {b c:Nat} (hT:qap T) (nT:Nz T) {M:Int} (M0:0<M) (bM:Bd c M) {N:Nat->Int} (h:∀ k,pwo T k=(N k:Rat) / (M:Rat)) (hN:∀ k,Bd b (N k)):Gq b c T:=by
 have key:∀ q∈T,∃ k,q.2∣M/\q.1*(M / q.2)=N k:=λq hq=>by
  obtain ⟨i,hi,rfl⟩:=wb9 hq
  have e:qa3 T i=T[i]:=by unfold qa3;rw [wab,wah hi];rfl
  have hl:=hT _ hq
  have v:=h i
  unfold pwo at v
  rw [e] at v
  exact ⟨i,qmG hl (qh6 (wad hl.pos) (wad M0) v)⟩
 refine ⟨hT,nT,M,⟨M0,λq hq=>?_⟩,bM,λz hz=>?_⟩
 ·obtain ⟨k,a,_⟩:=key q hq;exact a
 ·obtain ⟨q,hq,rfl⟩:=wai.mp hz
  obtain ⟨k,_,a⟩:=key q hq
  rw [a];exact hN k
theorem qsQ (h:qfw K vs H Q E):qqy K { nx:=λ_ H'=>Q .non H',rt:=Q } (L2.start ["one","other"] vs) H:=by
 obtain ⟨p,q,a,b,c,d,rfl,hp,hq,b0,d0,ba,bb,bc,bd,k⟩:=h
 unfold qqy
 rwa [hp,hq]
 exact ⟨qel ba bc,qel bb bd,wad (wa2 b0 d0),λr hr=>by rw [qhi (wa2 b0 d0)];exact k r hr⟩
theorem qu2 (h:qf9 K vs H Q E):qtJ K { nx:=λ_ H'=>Q .non H',rt:=Q } (L2.start ["one","other"] vs) H:=by
 obtain ⟨p,q,a,b,c,d,rfl,hp,hq,b0,c0,ba,bb,bc,bd,k⟩:=h
 unfold qtJ
 rwa [hp,hq]
 exact ⟨qel ba bd,qel bb bc,was (wad b0) c0,k⟩
theorem qlt (h:qb6 K vs H Q E):qhN K { nx:=λ_ H'=>Q .non H',rt:=Q } (L2.start ["row","other","result","place","whole","step","factor"] vs) H:=by
 obtain ⟨p,q,ns,ms,b,d,rfl,hp,hq,bn,bm,b9,d9,ln,lm,k⟩:=h
 unfold qhN
 rwa [hp,hq]
 have non:∀ xs:List Int,((!(List.map V.int xs).isEmpty)=false)↔xs.length=0:=λxs=>by cases xs <;> simp
 simp only [non]
 refine qck (λc=>?_) (λc=>qck (λc2=>?_) (λc2=>?_))
 ·exact ⟨sz ∅,λr hr=>k r _ (qaf hr _) (by rw [if_pos (.inl c)];exact upd_same)⟩
 ·exact ⟨sz ∅,λr hr=>k r _ (qaf hr _) (by rw [if_pos (.inr c2)];exact upd_same)⟩
 rw [if_neg ⋯] at k
 refine ⟨sz ∅,λa ha=>?_⟩
 have sa:=qaf ha (.lst [.int 0])
 have hpa:=sa _ _ hp
 have hqa:=sa _ _ hq
 rwa [hpa,hqa]
 rw [waa,waa]
 have eL:((ns.length:Int)+(ms.length:Int) - 1).toNat=ns.length+ms.length - 1:=by omega
 rw [eL,qjR]
 refine ⟨⋯,⋯,sz ⋯,λw hw=>?_⟩
 generalize hLL:ns.length+ms.length - 1=L at hw ⊢
 have sw:=qaf hw (.lst (qcU L λ_=>0))
 have w0:H w=none:=by
  cases e:H w with
  | none=>rfl
  | some o=>have z:=sa _ _ e;rw [hw] at z;cases z
 refine ⟨⟨_,SqL.of (sw _ _ hpa)⟩,ForJ.enumL (xs:=ns.map V.int) (λi σ H'=>∃ x1 x2 x3 x4:Option V,σ=[some (.ref p),some (.ref q),some (.ref w),x1,x2,x3,x4]/\Same H H'/\H' w=some (.lst (qcU L λk=>ps ns ms i k)))
  ⟨none,none,none,none,rfl,sa.trans sw,upd_same⟩ ?_ ?_ ?_⟩
 ·rintro i σ H' _ ⟨_,_,_,_,_,s1,_⟩
  exact SqL.of (s1 _ _ hp)
 ·rintro i x pp σ H1 hi ⟨x1,x2,x3,x4,rfl,s1,hw1⟩ hpp
  rw [waf] at hi
  cases en:ns[i]? with
  | none=>rw [en] at hi;cases hi
  | some z=>
    rw [en] at hi
    obtain rfl:V.int z=x:=Option.some.inj hi
    have il:i<ns.length:=(wap.mp en).1
    have zd:ns.getD i 0=z:=by rw [wab,en];rfl
    have sp:=qaf hpp (.tup [.int (i:Int),.int z])
    rwa []
    refine qck (λc3=>?_) (λc3=>?_)
    ·refine ⟨⟨_,SqL.of (sp _ _ (s1 _ _ hq))⟩,ForJ.enumL (xs:=ms.map V.int) (λj σ H'=>∃ x3 x4:Option V,σ=[some (.ref p),some (.ref q),some (.ref w),some (.int (i:Int)),some (.int z),x3,x4]/\Same H H'/\H' w=some (.lst (qcU L λk=>in2 ns ms i j k)))
      ⟨x3,x4,rfl,s1.trans sp,by rw [sp _ _ hw1];exact congrArg (λl=>some (HO.lst l)) (qdG λk _=>(qsq ns ms i k))⟩ ?_ ?_ ?_⟩
     ·rintro j σ H' _ ⟨_,_,_,s2,_⟩
      exact SqL.of (s2 _ _ hq)
     ·rintro j y pq σ H2 hj ⟨y3,y4,rfl,s2,hw2⟩ hpq
      rw [waf] at hj
      cases em:ms[j]? with
      | none=>rw [em] at hj;cases hj
      | some u=>
        rw [em] at hj
        obtain rfl:V.int u=y:=Option.some.inj hj
        have jl:j<ms.length:=(wap.mp em).1
        have ud:ms.getD j 0=u:=by rw [wab,em];rfl
        have sq:=qaf hpq (.tup [.int (j:Int),.int u])
        have hw3:=sq _ _ hw2
        rwa [hw3]
        have kl:i+j<L:=by omega
        refine ⟨_,qcg ⋯ (qbH _ kl),qel ((bn z (wan en)).mono ⋯) ((bm u (wan em)).mono ⋯),_,rfl,i+j,?_,λb o h=>Kp.upd b o (qas h w0) (sq b o (s2 b o h)),?_⟩
        ·rw [qbS];exact qfM ⋯ kl
        ·refine qeD kl ?_ λk _ hk=>?_
         ·rw [qnj,if_pos rfl,zd,ud]
         ·rw [qnj,if_neg hk]
     ·rintro σ H2 ⟨y3,y4,rfl,s2,hw2⟩
      rw [waa] at hw2
      exact ⟨_,_,_,_,rfl,s2,hw2⟩
    ·refine ⟨s1.trans sp,?_⟩
     rw [sp _ _ hw1]
     refine congrArg (λl=>some (HO.lst l)) (qdG λk _=>?_)
     have z0:z=0:=Decidable.not_not.mp c3
     show ps ns ms i k+_=ps ns ms i k
     rw [zd,z0]
     simp
 ·rintro σ H1 ⟨x1,x2,x3,x4,rfl,s1,hw1⟩
  rwa []
  rw [waa] at hw1
  subst hLL
  exact k w H1 s1 hw1
theorem qoE (h:qaS K vs H Q E):qk9 K { nx:=λ_ H'=>Q .non H',rt:=Q } (L2.start ["P","Q","one","other"] vs) H:=by
 obtain ⟨p,q,xs,ys,l,m,b,c,d,e,rfl,hp,hq,hN,hM,Gl,Gm,ll,lm,b9,c9,d9,e9,k⟩:=h
 unfold qk9
 obtain ⟨n1,B1b,t1⟩:=Gl.clr
 obtain ⟨n2,B2b,t2⟩:=Gm.clr
 have O1:=qbi Gl.low
 have O2:=qbi Gm.low
 rwa [hp,hq]
 refine ⟨l,hN,Gl.low,qbJ l,O1,B1b.mono ⋯,λq hq=>(t1 q hq).mono ⋯,⋯,λr a H1 s1 hr ha=>?_⟩
 have hq1:=s1 _ _ hq
 rwa [hq1]
 refine ⟨m,hM.tp (tpS s1),Gm.low,qbJ m,O2,B2b.mono ⋯,λq hq=>(t2 q hq).mono ⋯,⋯,λr2 a2 H2 s2 hr2 ha2=>?_⟩
 have hr':=s2 _ _ hr
 have ha':=s2 _ _ ha
 rwa [hr',hr2]
 have m1:(qa1 l).length=l.length:=by unfold qa1;rw [waa]
 have m2:(qa1 m).length=m.length:=by unfold qa1;rw [waa]
 refine ⟨qa1 l,ha',qa1 m,ha2,b,n1,d,n2,⋯,⋯,⋯,⋯,λw H3 s3 hw=>?_⟩
 have hr3:=s3 _ _ hr'
 have hr23:=s3 _ _ hr2
 rwa [hr3,hr23]
 have BB:0<qbJ l*qbJ m:=wa2 O1.1 O2.1
 refine ⟨qel (B1b.mono ⋯) (B2b.mono ⋯),_,hw,wad BB,?_,λr4 zs H4 s4 h4 hz=>?_⟩
 ·split
  ·exact wae _
  ·rw [waa,wal];omega
 have e1:trim (qtv l m (l.length+m.length))=trim (List.map (λn=>qcN n (qbJ l*qbJ m)) (if (qa1 l).length=0\/(qa1 m).length=0 then [] else List.map (λk=>ps (qa1 l) (qa1 m) (qa1 l).length k) (List.range ((qa1 l).length+(qa1 m).length - 1)))):=by
  rw [m1,m2,show (λn=>qcN n (qbJ l*qbJ m))=λn=>red n (qbJ l*qbJ m) from funext λn=>qhi BB]
  exact qqg BB m2
 have lo:qap (qtv l m (l.length+m.length)):=qss O1 O2
 have pv:∀ k,pwo (trim (qtv l m (l.length+m.length))) k=cv (pwo l) (pwo m) l.length k:=λk=>by
  rw [qdP lo];exact qv4 Gl.low Gm.low O1 O2 k
 rw [<-e1] at hz
 refine k r4 _ H4 (((s1.trans s2).trans s3).trans s4) ⟨zs,h4,hz⟩ ?_ ?_ pv
 ·refine qj2 (λq hq=>lo q (qbC hq)) (qdN _) BB (B1b.mul B2b) (N:=λk=>ps (qa1 l) (qa1 m) l.length k) (λk=>?_) λk=>qv1 n1 n2 _ _
  rw [pv];exact (qus Gl.low Gm.low O1 O2 _ _).symm
 ·rw [e1]
  refine wak (qcw _) ?_
  rw [waa]
  split
  ·exact wae _
  ·rw [waa,wal];omega
theorem qmH (h:qbq K vs H Q E):qi7 K { nx:=λ_ H'=>Q .non H',rt:=Q } (L2.start ["P","c"] vs) H:=by
 obtain ⟨p,c,xs,l,a,b,rfl,hp,hc,hN,hl,b0,ba,bb,bl,ll,k⟩:=h
 unfold qi7
 rwa [hp]
 have lx:=hN.length
 refine ⟨⟨_,SqT.of hp⟩,CompJ.tup (xs:=xs) (λi ys H'=>i<=xs.length/\Same H H'/\Nums H' ys ((l.take i).map λq=>nmul q (a,b))) ⟨wae _,Same.refl H,trivial⟩ ?_ ?_ ?_⟩
 ·rintro i ys H' ⟨h1,s1,hZ⟩
  exact ⟨h1,sz (by rw [hZ.length,waa,waw];omega),s1 _ _ hp⟩
 ·rintro i x ys H' hi ⟨h1,s1,hZ⟩
  obtain ⟨z,hz,p1,rfl,hp1⟩:=hN.get hi
  have hi2:i<xs.length:=(wap.mp hi).1
  have hp1':=s1 _ _ hp1
  have hc1:=s1 _ _ hc
  have zl:=hl z (wan hz)
  have zb:=bl z (wan hz)
  rwa [hp1',hc1]
  refine ⟨zl.pos,b0,zb.1,zb.2,ba,bb,λr hr=>⟨⋯,s1.trans (qaf hr _),?_⟩⟩
  rw [qbR _ hz]
  exact (hZ.tp (tpS (qaf hr _))).append (Nums.one qf8)
 ·rintro ys H' ⟨_,s1,hZ⟩ w hw
  have s2:=qaf hw (.lst ys)
  rw [lx,wa3] at hZ
  rwa []
  exact ⟨_,hZ.tp (tpS s2),by rw [waa];omega,λr us H2 s3 hr hu=>k r us H2 ((s1.trans s2).trans s3) hr hu⟩
theorem qmI (h:qaV K vs H Q E):qi9 K { nx:=λ_ H'=>Q .non H',rt:=Q } (L2.start ["P","Q"] vs) H:=by
 obtain ⟨p,q,xs,ys,l,m,b,c,d,e,rfl,hp,hq,hN,hM,Gl,Gm,m0,ll,lm,z1,z2,z3,z4,mr,k⟩:=h
 unfold qi9
 rwa [hp,hq]
 refine ⟨l,hN,m,hM,b,c,Gl,d,e,Gm,m0,ll,lm,z1,z2,z3,z4,λt u v H1 qs rs s1 ht hu hv lq nq q9 Gr r9 eq=>?_⟩
 have z0:∀ k,pwo rs k=0:=by
  have mr2:MR (pwo m) (pwo rs):=mr.sub (qxb (P:=λk=>cv (pwo qs) (pwo m) qs.length k) qs.length (λk=>rfl)) λk=>by have:=eq k;show pwo rs k=pwo l k - cv (pwo qs) (pwo m) qs.length k;grind
  refine λk=>MR.short (qbp Gm.low Gm.nz m0) (λi hi=>qa0 ⋯) mr2 (λk hk=>qa0 ⋯) k
 rwa [ht]
 exact k u qs H1 s1 hu lq nq q9 λk=>by rw [eq k,z0 k];grind
theorem qnI (l:List Nu) (k:Nat):cvL (rw' l) qca k=pwo l k:=(qwh (λi hi=>qa0 hi) k).symm
theorem qsR (l:List Nu) (g:Nat->Rat) (k:Nat):cv (pwo l) g l.length k=cvL (rw' l) g k:=qnH _ _ k _
theorem qwi {L M G T B:Nat->Rat} {t b U W:List Rat} {n:Nat} (hT:∀ k,cvL t qca k=T k) (hB:∀ k,cvL b qca k=B k) (h0:G n≠0) (hG:∀ i,n<i->G i=0)
  (eL:∀ k,L k=cvL t G k) (eM:∀ k,M k=cvL b G k) (e:∀ k,G k=cvL U L k+cvL W M k):Cop T B:=by
 refine ⟨U,W,λk=>?_⟩
 have z:=qmd h0 hG (A:=[1]) (B:=qa6 (qaO U t) (qaO W b)) (λk=>by
  rw [qaC,qav,qav,<-qaq eL,<-qaq eM,<-e k]
  cases k with
  | zero=>rw [qar];grind
  | succ k=>rw [qao,qaG];grind) qca k
 rw [qaC,qav,qav,qaq hT,qaq hB] at z
 rw [<-z,qcm]
 cases k with
 | zero=>rfl
 | succ k=>rfl
theorem Cop.scal {T B T' B':Nat->Rat} {s:Rat} (s0:s≠0) (h:Cop T B) (hT:∀ k,T' k=s*T k) (hB:∀ k,B' k=s*B k):Cop T' B':=by
 obtain ⟨U,W,e⟩:=h
 refine ⟨U.map (s⁻¹*·),W.map (s⁻¹*·),λk=>?_⟩
 rw [qau,qau,qaq hT,qaq hB,qba,qba,e k]
 have:s⁻¹*s=1:=wb7 s s0
 grind
theorem Cop.mr {T B n:Nat->Rat} (h:Cop T B) (h1:MR n T) (h2:MR n B):MR n qca:=by
 obtain ⟨U,W,e⟩:=h
 obtain ⟨A,hA⟩:=h1
 obtain ⟨C,hC⟩:=h2
 exact ⟨qa6 (qaO U A) (qaO W C),λk=>by rw [qaC,qav,qav,<-qaq hA,<-qaq hC,e k]⟩
theorem qsS {B B':List Nu} (lb:qap B) (lb':qap B') (nb:Nz B) (nb':Nz B') (b0:B≠[]) (b0':B'≠[]) (o:qa3 B (B.length - 1)=(1,1)) (o':qa3 B' (B'.length - 1)=(1,1)) (h:MR (pwo B) (pwo B')) (h':MR (pwo B') (pwo B)):B=B':=by
 have len:∀ {B B':List Nu},qap B->qap B'->Nz B->Nz B'->B≠[]->B'≠[]->MR (pwo B) (pwo B')->B.length<=B'.length:=λ{B B'} lb lb' nb nb' b0 b0' h=>by
  rcases waj B'.length B.length with c | c
  ·exact absurd (MR.short (qbp lb nb b0) (λi hi=>qa0 ⋯) h (λk hk=>qa0 ⋯) (B'.length - 1)) (qbp lb' nb' b0')
  ·exact c
 have e:B.length=B'.length:=wbz (len lb lb' nb nb' b0 b0' h) (len lb' lb nb' nb b0' b0 h')
 have p0:0<B.length:=waq.mpr b0
 refine qnk lb lb' nb nb' λk=>?_
 have d:=MR.short (f:=λk=>pwo B' k - pwo B k) (qbp lb nb b0) (λi hi=>qa0 ⋯) (h.sub ⟨[1],λk=>by
  cases k with
  | zero=>rw [qar];grind
  | succ k=>rw [qao,qaG];grind⟩ λk=>rfl) (λk hk=>by
    rcases waj (B.length - 1) k with c | c
    ·show pwo B' k - pwo B k=0
     rw [qa0 ⋯,qa0 ⋯];grind
    ·have ek:k=B.length - 1:=by omega
     show pwo B' k - pwo B k=0
     unfold pwo
     rw [ek,o,e,o'];grind) k
 have d:pwo B' k - pwo B k=0:=d
 grind
theorem qwj {l m:List Nu} {g:List Int} (hl:qap l) (hm:qap m) (R:RC (co (qa1 l)) (co (qa1 m)) g):∃ U W:List Rat,∀ k,pwo (mnc g) k=cvL U (pwo l) k+cvL W (pwo m) k:=by
 obtain ⟨d,d0,U,W,hU⟩:=R.qi
 have d1:=qaI d0
 have l1:=qqV hl
 have m1:=qqV hm
 refine ⟨(U.map λz:Int=>(z:Rat)).map (((co g (g.length - 1):Rat))⁻¹*(d:Rat)⁻¹*(((qbJ l:Rat))⁻¹)⁻¹*·),(W.map λz:Int=>(z:Rat)).map (((co g (g.length - 1):Rat))⁻¹*(d:Rat)⁻¹*(((qbJ m:Rat))⁻¹)⁻¹*·),λk=>?_⟩
 have e:(d:Rat)*(co g k:Rat)=((cvL U (co (qa1 l)) k:Int):Rat)+((cvL W (co (qa1 m)) k:Int):Rat):=by exact_mod_cast hU k
 rw [qjf l1 (qdb hl),qjf m1 (qdb hm)] at e
 rw [qau,qau,qeX R.lz]
 generalize cvL (U.map λz:Int=>(z:Rat)) (pwo l) k=x at e ⊢
 generalize cvL (W.map λz:Int=>(z:Rat)) (pwo m) k=y at e ⊢
 generalize ((qbJ l:Rat)⁻¹)⁻¹=u at e ⊢
 generalize ((qbJ m:Rat)⁻¹)⁻¹=v at e ⊢
 have i:(d:Rat)⁻¹*(d:Rat)=1:=wb7 _ d1
 have:(co g k:Rat)=(d:Rat)⁻¹*(u*x+v*y):=by rw [<-e];grind
 rw [this];grind
theorem qmJ {l R0:List Nu} {g:List Int} {b n c:Nat} (hl:qap l) (lR:qap R0) (hb:∀ z∈qa1 l,Bd b z) (ln:l.length<=n) (hn:n<2 ^ c) (lg:Lz g) (P:Prim g) (m:MQ (co g) (co (qa1 l))) (e:∀ k,pwo l k=cv (pwo R0) (pwo (mnc g)) R0.length k) :
  ∃ A:List Int,(∀ k,Bd (b+n*(2*c+4)) (co A k))/\∀ k,pwo R0 k=((co g (g.length - 1):Rat))*(co A k:Rat)*((qbJ l:Rat))⁻¹:=by
 obtain ⟨A,hA⟩:=gauss P m
 refine ⟨A,quS hb (by rw [qaW];exact ln) hn lg hA,λk=>?_⟩
 have g1:=qaI lg.2
 have top:pwo (mnc g) (g.length - 1)≠0:=by rw [qeX lg];grind
 have hi:∀ i,g.length - 1<i->pwo (mnc g) i=0:=λi hi=>qa0 (by rw [qcu];omega)
 have z:=qmd top hi (A:=rw' R0) (B:=(A.map λz:Int=>(z:Rat)).map ((co g (g.length - 1):Rat)*((qbJ l:Rat))⁻¹*·)) (λk=>by
  rw [<-qsR,<-e k,qau,qdb hl,hA k,qjf (qfc lg) (qeX lg)]
  grind) qca k
 rw [qnI,qau,qcm,wab,waf] at z
 rw [z]
 unfold co
 rw [wab (l:=A)]
 cases A[k]? with
 | none=>show _*(0:Rat)=_*((0:Int):Rat)*_;grind
 | some v=>show _*(v:Rat)=_*(v:Rat)*_;grind
theorem qhl {l:List Nu} {a b:Int} (hl:qap l) (b0:0<b) (k:Nat):pwo (l.map λq=>nmul q (a,b)) k=val (a,b)*pwo l k:=by
 unfold pwo qa3
 rw [wab,wab,waf]
 cases e:l[k]? with
 | none=>
   show val (0,1)=_*val (0,1)
   have:val (0,1)=0:=by unfold val;exact zdiv _
   rw [this];grind
 | some q=>
   show val (nmul q (a,b))=_*val q
   rw [qft (hl q (wan e)).pos b0];grind
theorem qhm {l:List Nu} {a b:Int} (hl:qap l) (b0:0<b):qap (l.map λq=>nmul q (a,b)):=λq hq=>by
 obtain ⟨z,hz,rfl⟩:=wai.mp hq
 exact qfs (hl z hz).pos b0
theorem Bx.same {H H':Hp} {p:Addr} (h:Bx H p) (s:Same H H'):Bx H' p:=let ⟨z,e⟩:=h;⟨z,s _ _ e⟩
theorem Bx.tp {H H':Hp} {p:Addr} (h:Bx H p) (k:Kp p H H'):Tp H H':=let ⟨_,e⟩:=h;k.tp e
theorem qmK:Low 1 1:=⟨∅,∅⟩
theorem bdc {n:Nat} {x:Int} (h:x.natAbs<2 ^ n):Bd n x:=h
theorem qqX (h:qdB K vs H Q E):qnx K { nx:=λ_ H'=>Q .non H',rt:=Q } (L2.start ["P","Q","factor"] vs) H:=by
 obtain ⟨p,q,l,m,rfl,⟨xs,hp,hN⟩,⟨ys,hq,hM⟩,ll,lm,nm,m0,bl,bm,l9,m9,k⟩:=h
 have p1:0<m.length:=waq.mpr m0
 obtain ⟨v,hv,pv,rfl,hpv⟩:=hM.at (i:=m.length - 1) ⋯ (0,1)
 have at1:atI ys (-1)=some (V.ref pv):=atI_last (by rw [hM.length];exact p1) (by rw [hM.length];exact hv)
 have lL:Low (qa3 m (m.length - 1)).1 (qa3 m (m.length - 1)).2:=qaN lm _
 have tn:=qqU nm m0
 have mL:qa3 m (m.length - 1)∈m:=by
  unfold qa3
  rw [wab,wah ⋯]
  exact wb0 _
 have bL:=bm _ mL
 have hpv:H pv=some (HO.tup [V.int (qa3 m (m.length - 1)).1,V.int (qa3 m (m.length - 1)).2]):=hpv
 generalize hla:qa3 m (m.length - 1)=la at hpv lL tn bL k
 unfold qnx
 rwa []
 refine ⟨sz ∅,λw hw=>?_⟩
 have s3:=qaf hw (.tup [.int 1,.int 1])
 have hq3:=s3 _ _ hq
 have hpv3:=s3 _ _ hpv
 have hw3:upd H w (.tup [.int 1,.int 1]) w=some (HO.tup [V.int 1,V.int 1]):=upd_same
 generalize upd H w (.tup [.int 1,.int 1])=H3 at s3 hq3 hpv3 hw3 ⊢
 refine ⟨_,hq3,_,at1,_,rfl,?_⟩
 rwa [hpv3,hw3]
 have b1:Bd 60000000 1:=(bdc (n:=1) ∅).mono ∅
 refine ⟨∅,tn,b1,b1,bL.1.mono ∅,bL.2.mono ∅,λf hf=>?_⟩
 rw [Int.one_mul,Int.one_mul]
 have fl:=qdO (n:=la.2) tn
 have fb:=qqh tn bL.2 bL.1
 have fv:val (qcN la.2 la.1)*val la=1:=by
  have z1:=qaI tn
  have z2:=qaI (wad lL.pos)
  rw [qey tn];unfold val;grind
 generalize qcN la.2 la.1=fa at fl fb fv ⊢
 have s4:=qaf hf (.tup [.int fa.1,.int fa.2])
 have hf4:upd H3 f (.tup [.int fa.1,.int fa.2]) f=some (HO.tup [V.int fa.1,V.int fa.2]):=upd_same
 generalize upd H3 f (.tup [.int fa.1,.int fa.2])=H4 at s4 hf4 ⊢
 have s34:=s3.trans s4
 have hp4:=s34 _ _ hp
 rwa [hp4,hf4]
 refine ⟨l,hN.tp (tpS s34),ll,fl.pos,fb.1.mono ∅,fb.2.mono ∅,λq hq=>⟨(bl q hq).1.mono ∅,(bl q hq).2.mono ∅⟩,⋯,λu us H6 s6 hu nu=>?_⟩
 have s36:=s34.trans s6
 refine ⟨_,s36 _ _ hq,m,fa.1,fa.2,s6 _ _ hf4,hM.tp (tpS s36),lm,fl.pos,fb.1.mono ∅,fb.2.mono ∅,λq hq=>⟨(bm q hq).1.mono ∅,(bm q hq).2.mono ∅⟩,⋯,λv vs H7 s7 hv nv=>⟨sz ∅,λt ht=>?_⟩⟩
 have st:=qaf ht (.tup [.ref u,.ref v])
 exact k fa fl fv t u v _ ((s36.trans s7).trans st) upd_same ⟨us,st _ _ (s7 _ _ hu),(nu.tp (tpS s7)).tp (tpS st)⟩ ⟨vs,st _ _ hv,nv.tp (tpS st)⟩
theorem nadd_neg' (q r:Nu):nadd q (-r.1,r.2)=nsub q r:=by
 unfold nadd nsub
 congr 1
 show q.1*r.2 + -r.1*q.2=_
 grind
theorem qsT {q r:Nu} (h1:0<q.2) (h2:0<r.2):val (nsub q r)=val q - val r:=by
 rw [<-nadd_neg',qha (r:=(-r.1,r.2)) h1 h2,qqT];grind
theorem qqY {f:Nu->Nu->Nu} {s:Int} (hf:∀ q r:Nu,0<q.2->0<r.2->Low (f q r).1 (f q r).2/\val (f q r)=val q+(s:Rat)*val r) (hs:s=1\/s = -1) {l m:List Nu} {M:Int} {b c:Nat} (hl:qap l) (hm:qap m) (O1:Ov l M) (O2:Ov m M) (bM:Bd c M) (b1:∀ z∈ovN l M,Bd b z) (b2:∀ z∈ovN m M,Bd b z) :
  Gq (b+1) c (trim (qsp f l m))/\(trim (qsp f l m)).length<=max l.length m.length/\∀ k,pwo (trim (qsp f l m)) k=pwo l k+(s:Rat)*pwo m k:=by
 have low:qap (qsp f l m):=λq hq=>by
  obtain ⟨i,_,rfl⟩:=wai.mp hq
  exact (hf _ _ (qaN hl i).pos (qaN hm i).pos).1
 have pv:∀ k,pwo (trim (qsp f l m)) k=pwo l k+(s:Rat)*pwo m k:=λk=>by
  rw [qdP low]
  rcases waj k (max l.length m.length) with c | c
  ·have e:qa3 (qsp f l m) k=f (qa3 l k) (qa3 m k):=by
    unfold qsp qa3
    rw [wab,waf,wbk c];rfl
   unfold pwo
   rw [e,(hf _ _ (qaN hl k).pos (qaN hm k).pos).2]
  ·rw [qa0 (by unfold qsp;rw [waa,wal];exact c),qa0 (l:=l) ⋯,qa0 (l:=m) ⋯];grind
 refine ⟨qj2 (λq hq=>low q (qbC hq)) (qdN _) O1.1 bM (N:=λk=>(ovN l M).getD k 0+s*(ovN m M).getD k 0) (λk=>?_) λk=>?_,?_,pv⟩
 ·rw [pv,qgS hl O1,qgS hm O2];push_cast;grind
 ·have h1:=qcM b1 k
  have h2:=qcM b2 k
  rcases hs with z | z
  ·rw [z,Int.one_mul];exact h1.add h2
  ·rw [z,show (ovN l M).getD k 0 + -1*(ovN m M).getD k 0=(ovN l M).getD k 0 - (ovN m M).getD k 0 by omega];exact h1.sub h2
 ·refine wak (qcw _) ?_
  unfold qsp;rw [waa,wal];exact wac _
theorem qu3 (h:qhM K vs H Q E):qtI K { nx:=λ_ H'=>Q .non H',rt:=Q } (L2.start ["one","other"] vs) H:=by
 obtain ⟨p,q,a,b,c,d,rfl,hp,hq,b0,d0,ba,bb,bc,bd,k⟩:=h
 unfold qtI
 rwa [hp,hq]
 exact ⟨qel ba bd,qel bc bb,qel bb bd,wad (wa2 b0 d0),λr hr=>by rw [qhi (wa2 b0 d0)];exact k r hr⟩
theorem qsU (h:qhg K vs H Q E):qqx K { nx:=λ_ H'=>Q .non H',rt:=Q } (L2.start ["one","other"] vs) H:=by
 obtain ⟨p,q,a,b,c,d,rfl,hp,hq,b0,d0,ba,bb,bc,bd,k⟩:=h
 unfold qqx
 rwa [hp,hq]
 exact ⟨qel ba bd,qel bc bb,qel bb bd,wad (wa2 b0 d0),λr hr=>by rw [qhi (wa2 b0 d0)];exact k r hr⟩
theorem qlu (h:qbo K vs H Q E):qhR K { nx:=λ_ H'=>Q .non H',rt:=Q } (L2.start ["P","place"] vs) H:=by
 obtain ⟨p,xs,l,i,rfl,hp,hN,q⟩:=h
 unfold qhR
 rwa [hp]
 have lx:=hN.length
 refine qck (λc=>?_) (λc=>⟨sz ∅,λr hr=>q _ _ (qaf hr _) ?_⟩)
 ·obtain ⟨v,hv,hn⟩:=hN.at (i:=i) ⋯ (0,1)
  exact ⟨v,qpo hv,q v H (Same.refl H) hn⟩
 ·rw [qjA ⋯]
  exact qf8 (q:=(0,1))
theorem qfQ {l:List Nu} {M:Int} {b c:Nat} (hl:qap l) (O:Ov l M) (bM:Bd c M) (hb:∀ z∈ovN l M,Bd b z) (i:Nat):Bd (b+1) (qa3 l i).1/\Bd (c+1) (qa3 l i).2:=by
 unfold qa3
 rw [wab]
 cases e:l[i]? with
 | none=>exact ⟨qbU _,(bdc (n:=1) ∅).mono ⋯⟩
 | some q=>
   have m:=wan e
   exact ⟨(qtL hl O hb q m).mono ⋯,(qdh (wad O.1) (O.2 q m) bM).mono ⋯⟩
theorem qoF (h:qeA K vs H Q E):qk8 K { nx:=λ_ H'=>Q .non H',rt:=Q } (L2.start ["P","Q"] vs) H:=by
 obtain ⟨p,q,xs,ys,l,m,M,b,c,rfl,hp,hq,hN,hM,hl,hm,O1,O2,bM,b1',b2',b9,c9,ll,lm,k⟩:=h
 unfold qk8
 rwa [hp,hq]
 have lx:=hN.length
 have ly:=hM.length
 rw [qqH,lx,ly]
 refine ⟨⋯,⋯,CompJ.range (λi zs H'=>i<=max l.length m.length/\Same H H'/\Nums H' zs ((List.range i).map λi=>nsub (qa3 l i) (qa3 m i))) ⟨wae _,Same.refl H,trivial⟩ ?_ ?_ ?_⟩
 ·rintro i zs H' ⟨h1,s1,hZ⟩
  exact ⟨h1,sz (by rw [hZ.length,waa,wal];omega)⟩
 ·rintro i zs H' hi ⟨h1,s1,hZ⟩
  rwa []
  rw [show (0:Int)+(i:Int)=(i:Int) by omega]
  refine ⟨xs,l,i,rfl,s1 _ _ hp,hN.tp (tpS s1),λv H1 s2 hv=>⟨ys,m,i,rfl,s2 _ _ (s1 _ _ hq),hM.tp (tpS (s1.trans s2)),λu H2 s3 hu=>?_⟩⟩
  obtain ⟨pv,rfl,hpv⟩:=hv.tp (tpS s3)
  obtain ⟨pu,rfl,hpu⟩:=hu
  have b1:=qfQ hl O1 bM b1' i
  have b2:=qfQ hm O2 bM b2' i
  refine ⟨pv,rfl,pu,rfl,_,_,hpv,_,_,hpu,(qaN hl i).pos,(qaN hm i).pos,b1.1.mono ⋯,b1.2.mono ⋯,b2.1.mono ⋯,b2.2.mono ⋯,λr hr=>⟨⋯,((s1.trans s2).trans s3).trans (qaf hr _),?_⟩⟩
  rw [qdv]
  exact (hZ.tp (tpS ((s2.trans s3).trans (qaf hr _)))).append (Nums.one qf8)
 ·rintro zs H' ⟨_,s1,hZ⟩ a ha
  rwa []
  have s2:=qaf ha (.lst zs)
  have out:=qqY (f:=nsub) (s:=-1) (λq r h1 h2=>⟨qso h1 h2,by rw [qsT h1 h2];push_cast;grind⟩) (.inr rfl) hl hm O1 O2 bM b1' b2'
  refine ⟨_,hZ.tp (tpS s2),by rw [waa,wal];omega,λr os H'' s3 hr hz=>?_⟩
  exact k r _ H'' ((s1.trans s2).trans s3) ⟨os,hr,hz⟩ out.1 out.2.1 λk=>by have:=out.2.2 k;exact this
theorem lcv (a b:List Rat) (c:Nat->Rat):cvL a (cvL b c)=cvL b (cvL a c):=funext (qez c a b)
theorem addv (a:List Rat) (f g:Nat->Rat):cvL a (λk=>f k+g k)=λk=>cvL a f k+cvL a g k:=funext (qdQ f g a)
theorem smulv (a:List Rat) (s:Rat) (f:Nat->Rat):cvL a (λk=>s*f k)=λk=>s*cvL a f k:=funext (qba s f a)
theorem mulv (a b:List Rat) (g:Nat->Rat):cvL (qaO a b) g=cvL a (cvL b g):=funext (qav g a b)
noncomputable def CopL (x y:List Rat):Prop:=∃ U W:List Rat,∀ (g:Nat->Rat) (k:Nat),g k=cvL U (cvL x g) k+cvL W (cvL y g) k
theorem CopL.mul {x y z:List Rat} (h:CopL x y) (h':CopL x z):CopL x (qaO y z):=by
 obtain ⟨U,W,e⟩:=h
 obtain ⟨U',W',e'⟩:=h'
 refine ⟨qa6 U (qaO (qaO W U') y),qaO W W',λg k=>?_⟩
 rw [qaC,mulv,mulv,mulv,mulv]
 have h1:=e g k
 have h2:cvL y g=λk=>cvL U' (cvL x (cvL y g)) k+cvL W' (cvL z (cvL y g)) k:=funext (e' (cvL y g))
 rw [h2,addv] at h1
 rw [h1,lcv z y g,lcv x y g]
 grind
theorem CopL.add {x y z c:List Rat} (h:CopL x y) (e:∀ g k,cvL z g k=cvL x g k+cvL c (cvL y g) k):CopL z y:=by
 obtain ⟨U,W,q⟩:=h
 refine ⟨U,qa6 W ((qaO U c).map ((-1:Rat)*·)),λg k=>?_⟩
 have ez:cvL z g=λk=>cvL x g k+cvL c (cvL y g) k:=funext (e g)
 rw [qaC,qau,mulv,ez,addv]
 have:=q g k
 grind
theorem CopL.congr {x y x' y':List Rat} (h:CopL x y) (hx:∀ g,cvL x' g=cvL x g) (hy:∀ g,cvL y' g=cvL y g):CopL x' y':=by
 obtain ⟨U,W,q⟩:=h
 exact ⟨U,W,λg k=>by rw [hx,hy];exact q g k⟩
theorem CopL.smul {x y x':List Rat} {s:Rat} (s0:s≠0) (h:CopL x y) (hx:∀ g k,cvL x' g k=s*cvL x g k):CopL x' y:=by
 obtain ⟨U,W,q⟩:=h
 refine ⟨U.map (s⁻¹*·),W,λg k=>?_⟩
 have e:cvL x' g=λk=>s*cvL x g k:=funext (hx g)
 rw [qau,e,smulv]
 have:s⁻¹*s=1:=wb7 s s0
 have:=q g k
 grind
theorem qeo {P A C:List Nu} (lP:qap P) (nP:Nz P) (lA:qap A) (nA:Nz A) (A0:A≠[]) (lC:qap C) (nC:Nz C) (C0:C≠[]) (h:∀ k,pwo P k=cv (pwo A) (pwo C) A.length k) :
  P.length+1=A.length+C.length/\pwo P (P.length - 1)=pwo A (A.length - 1)*pwo C (C.length - 1)/\P≠[]:=by
 have a0:0<A.length:=waq.mpr A0
 have c0:0<C.length:=waq.mpr C0
 have hi:∀ k,A.length+C.length - 1<=k->pwo P k=0:=λk hk=>by
  rw [h,qnH]
  exact qhe (n:=C.length - 1) (λi hi=>qa0 ⋯) _ _ (by rw [waa,wal];omega)
 have top:pwo P (A.length - 1+(C.length - 1))=pwo A (A.length - 1)*pwo C (C.length - 1):=by
  rw [h]
  obtain ⟨n,e⟩:∃ n,A.length=n+1:=⟨A.length - 1,⋯⟩
  rw [e]
  show cv (pwo A) (pwo C) n (n+1 - 1+(C.length - 1))+_=_
  have z:cv (pwo A) (pwo C) n (n+(C.length - 1))=0:=by
   rw [qnH]
   exact qhe (n:=C.length - 1) (λi hi=>qa0 ⋯) _ _ (by rw [waa,wal];omega)
  rw [Nat.add_sub_cancel,z,if_pos ⋯,show n+(C.length - 1) - n=C.length - 1 by omega,Rat.zero_add]
 have ne:pwo P (A.length - 1+(C.length - 1))≠0:=by
  rw [top]
  intro z
  rcases Rat.mul_eq_zero.mp z with q | q
  ·exact qbp lA nA A0 q
  ·exact qbp lC nC C0 q
 have l1:A.length - 1+(C.length - 1)<P.length:=by
  rcases waj (A.length - 1+(C.length - 1)) P.length with c | c
  ·exact c
  ·exact absurd (qa0 c) ne
 have P0:P≠[]:=waq.mp ⋯
 have l2:P.length=A.length - 1+(C.length - 1)+1:=by
  rcases waj (A.length - 1+(C.length - 1)+1) P.length with c | c
  ·exact absurd (hi (P.length - 1) ⋯) (qbp lP nP P0)
  ·omega
 exact ⟨⋯,by rw [l2,Nat.add_sub_cancel];exact top,P0⟩
theorem qtQ {B:List Nu} (lB:qap B) (h:pwo B (B.length - 1)=1):qa3 B (B.length - 1)=(1,1):=by
 refine qe7 (qaN lB _) qmK ?_
 have:val ((1:Int),(1:Int))=1:=by unfold val;show ((1:Int):Rat) / ((1:Int):Rat)=1;rw [show ((1:Int):Rat)=1 from rfl];grind
 rw [this];exact h
theorem qjg {B:List Nu} (h:qa3 B (B.length - 1)=(1,1)):pwo B (B.length - 1)=1:=by
 unfold pwo
 rw [h]
 unfold val;show ((1:Int):Rat) / ((1:Int):Rat)=1;rw [show ((1:Int):Rat)=1 from rfl];grind
theorem FF.same {H H':Hp} {p:Addr} {T B:List Nu} (h:FF H p T B) (s:Same H H'):FF H' p T B:=let ⟨u,v,a,b,c⟩:=h;⟨u,v,s _ _ a,b.same s,c.same s⟩
theorem qj3 {l R0:List Nu} {g:List Int} {b c n e dg:Nat} (Gl:Gq b c l) (lR:qap R0) (nR:Nz R0) (ln:l.length<=n) (hn:n<2 ^ e) (lg:Lz g) (P:Prim g) (bg:Bd dg (co g (g.length - 1))) (m:MQ (co g) (co (qa1 l))) (eq:∀ k,pwo l k=cv (pwo R0) (pwo (mnc g)) R0.length k):Gq (dg+(b+n*(2*e+4))) c R0:=by
 obtain ⟨A,bA,eA⟩:=qmJ Gl.low lR Gl.clr.1 ln hn lg P m eq
 exact qj2 lR nR (qbi Gl.low).1 Gl.clr.2.1 (N:=λk=>co g (g.length - 1)*co A k) (λk=>by rw [eA,Rat.div_def];push_cast;rfl) λk=>Bd.mul bg (bA k)
theorem qmL {b c:Nat} {l m:List Nu} (G1:Gq b c l) (G2:Gq b c m):∃ M,Ov l M/\Ov m M/\Bd (c+c) M/\(∀ z∈ovN l M,Bd (b+c) z)/\∀ z∈ovN m M,Bd (b+c) z:=by
 have half:∀ {l:List Nu} {M N:Int},qap l->Ov l M->(∀ z∈ovN l M,Bd b z)->0<N->Bd c N->Ov l (M*N)/\∀ z∈ovN l (M*N),Bd (b+c) z:=λ{l M N} hl O hb N0 bN=>by
  refine ⟨⟨wa2 O.1 N0,λq hq=>wb8 (O.2 q hq)⟩,λz hz=>?_⟩
  obtain ⟨q,hq,rfl⟩:=wai.mp hz
  have e:M*N / q.2=M / q.2*N:=Int.mul_ediv_assoc' N (O.2 q hq)
  rw [e,<-Int.mul_assoc]
  exact (hb _ (wai.mpr ⟨q,hq,rfl⟩)).mul bN
 obtain ⟨M,O1,bM,h1⟩:=G1.ov
 obtain ⟨N,O2,bN,h2⟩:=G2.ov
 obtain ⟨o1,q1⟩:=half G1.low O1 h1 O2.1 bN
 obtain ⟨o2,q2⟩:=half G2.low O2 h2 O1.1 bM
 rw [Int.mul_comm N M] at o2 q2
 exact ⟨M*N,o1,o2,bM.mul bN,q1,q2⟩
theorem CompJ.enumL {K:W.Frag} {capt:List (Option Nat)} {g:TG} {te:TE} {σ:L2.St} {H:Hp} {Q:VK} {a:Addr} {xs:List V} (W:Nat->List V->Hp->Prop) (h0:W 0 [] H) (hb:∀ i ys H,W i ys H->i<=xs.length/\ys.length<=sizeLine/\SqL K H a xs)
  (hs:∀ i x p ys H,xs[i]?=some x->W i ys H->H p=none->g (.ref p) (qc6 capt σ) (upd H p (.tup [.int i,x])) λσ2 H2=>te σ2 H2 λy H3=>W (i+1) (ys++[y]) H3) (hd:∀ ys H,W xs.length ys H->∀ p,H p=none->Q (.ref p) (upd H p (.lst ys))):CompJ (qvn K a) capt g te σ Q H:=by
 refine ⟨xs.length,W,h0,λi ys H w=>⟨(hb i ys H w).1,(hb i ys H w).2.1,?_⟩⟩
 have q:SqL K H a xs:=(hb i ys H w).2.2
 by_cases h:i<xs.length
 ·refine .inr ⟨h,⟨xs,xs[i],q,by simp [h]⟩,λx H' y=>?_⟩
  obtain ⟨p,x',hp,rfl,rfl,y⟩:=y
  exact hs i x' p ys _ (y xs q) w hp
 ·have e:i=xs.length:=wbz (hb i ys H w).1 (Nat.not_lt.mp h)
  subst e
  exact .inl ⟨⟨xs,q,wac _⟩,hd ys H w⟩
theorem qqZ {l:List Nu} {b c:Nat} (G:Gq b c l) (l31:l.length<=31) :
  Gq (b+5) c ((List.range (l.length - 1)).map λi=>nmul (qa3 l (i+1)) ((i:Int)+1,1))/\∀ k,pwo ((List.range (l.length - 1)).map λi=>nmul (qa3 l (i+1)) ((i:Int)+1,1)) k=dv (pwo l) k:=by
 have low:qap ((List.range (l.length - 1)).map λi=>nmul (qa3 l (i+1)) ((i:Int)+1,1)):=λq hq=>by
  obtain ⟨i,_,rfl⟩:=wai.mp hq
  exact qfs (qaN G.low _).pos (show (0:Int)<1 by decide)
 have vi:∀ i:Nat,val ((i:Int)+1,(1:Int))=(i:Rat)+1:=λi=>by
  unfold val
  show (((i:Int)+1:Int):Rat) / ((1:Int):Rat)=_
  rw [show ((1:Int):Rat)=1 from rfl];push_cast;grind
 have pv:∀ k,pwo ((List.range (l.length - 1)).map λi=>nmul (qa3 l (i+1)) ((i:Int)+1,1)) k=dv (pwo l) k:=λk=>by
  unfold dv
  rcases waj k (l.length - 1) with h | h
  ·have e:qa3 ((List.range (l.length - 1)).map λi=>nmul (qa3 l (i+1)) ((i:Int)+1,1)) k=nmul (qa3 l (k+1)) ((k:Int)+1,1):=by
    unfold qa3
    rw [wab,waf,wbk h];rfl
   unfold pwo
   rw [e,qft (qaN G.low _).pos (show (0:Int)<1 by decide),vi];grind
  ·rw [qa0 (by rw [waa,wal];exact h),qa0 (l:=l) ⋯];grind
 obtain ⟨M,O,bM,hb⟩:=G.ov
 refine ⟨qj2 low ?_ O.1 bM (N:=λk=>if k<31 then ((k+1:Nat):Int)*(ovN l M).getD (k+1) 0 else 0) (λk=>?_) λk=>?_,pv⟩
 ·intro q hq
  rw [wca,waa,wal] at hq
  rcases wbr (l.length - 1) with h | h
  ·rw [wax (by rw [waa,wal];omega)] at hq;cases hq
  ·rw [qoz _ ⋯] at hq
   obtain rfl:=Option.some.inj hq
   intro z
   have z1:=qft (q:=qa3 l (l.length - 1 - 1+1)) (r:=(((l.length - 1 - 1:Nat):Int)+1,1)) (qaN G.low _).pos (show (0:Int)<1 by decide)
   rw [vi] at z1
   have z0:val (nmul (qa3 l (l.length - 1 - 1+1)) (((l.length - 1 - 1:Nat):Int)+1,1))=0:=by
    unfold val
    rw [z]
    show ((0:Int):Rat) / _=0
    rw [show ((0:Int):Rat)=0 from rfl];grind
   rw [z0,show l.length - 1 - 1+1=l.length - 1 by omega] at z1
   have ne:=qbp G.low G.nz (λe=>by rw [e] at h;simp at h)
   have n2:((l.length - 1 - 1:Nat):Rat)+1≠0:=λq=>by
    have e:((l.length - 1 - 1:Nat):Rat)+1=((l.length - 1 - 1+1:Nat):Rat):=by push_cast;rfl
    rw [e] at q
    have:l.length - 1 - 1+1=0:=by exact_mod_cast q
    omega
   rcases Rat.mul_eq_zero.mp z1.symm with q | q
   ·exact ne q
   ·exact n2 q
 ·rw [pv,dv]
  by_cases h:k<31
  ·rw [if_pos h,qgS G.low O];push_cast;grind
  ·rw [if_neg h,qa0 (l:=l) ⋯]
   show _=((0:Int):Rat) / _
   rw [show ((0:Int):Rat)=0 from rfl];grind
 ·by_cases h:k<31
  ·rw [if_pos h]
   have:Bd 5 ((k+1:Nat):Int):=by unfold Bd;rw [wba];omega
   exact (this.mul (qcM hb (k+1))).mono ⋯
  ·rw [if_neg h];exact qbU _
theorem qoG (h:qbx K vs H Q E):qla K { nx:=λ_ H'=>Q .non H',rt:=Q } (L2.start ["P"] vs) H:=by
 obtain ⟨p,xs,l,b,c,rfl,hp,hN,G,l31,b9,c9,k⟩:=h
 unfold qla
 rwa [hp]
 have lx:=hN.length
 obtain ⟨M,O,bM,hb⟩:=G.ov
 refine ⟨∅,∅,⋯,⋯,CompJ.range (λi zs H'=>i<=l.length - 1/\Same H H'/\Nums H' zs ((List.range i).map λi=>nmul (qa3 l (i+1)) ((i:Int)+1,1))) ⟨wae _,Same.refl H,trivial⟩ ?_ ?_ ?_⟩
 ·rintro i zs H' ⟨h1,s1,hZ⟩
  exact ⟨⋯,sz (by rw [hZ.length,waa,wal];omega)⟩
 ·rintro i zs H' hi ⟨h1,s1,hZ⟩
  have hp1:=s1 _ _ hp
  have hi':i+1<l.length:=by omega
  obtain ⟨v,hv,hn⟩:=hN.at (i:=i+1) ⋯ (0,1)
  obtain ⟨pv,rfl,hpv⟩:=hn.tp (tpS s1)
  have g1:atI xs (1+(i:Int))=some (V.ref pv):=qcg (j:=i+1) ⋯ hv
  rwa [hp1,g1]
  refine ⟨sz ∅,λw hw=>?_⟩
  have sw:=qaf hw (.tup [.int (1+(i:Int)),.int 1])
  have b1:=qfQ G.low O bM hb (i+1)
  have e1:(1+(i:Int))=(i:Int)+1:=by omega
  have b5:Bd 5 (1+(i:Int)):=by unfold Bd;omega
  refine ⟨_,_,sw _ _ hpv,(qaN G.low _).pos,∅,b1.1.mono ⋯,b1.2.mono ⋯,b5.mono ∅,(bdc (n:=1) ∅).mono ∅,λr hr=>⟨⋯,(s1.trans sw).trans (qaf hr _),?_⟩⟩
  rw [qdv]
  refine (hZ.tp (tpS (sw.trans (qaf hr _)))).append (Nums.one ?_)
  rw [<-e1]
  exact qf8 (q:=nmul (qa3 l (i+1)) (1+(i:Int),1))
 ·rintro zs H' ⟨_,s1,hZ⟩ a ha
  rwa []
  have s2:=qaf ha (.lst zs)
  obtain ⟨o1,o2⟩:=qqZ G l31
  have el:((xs.length:Int) - 1).toNat=l.length - 1:=by omega
  rw [el] at hZ
  intro r hr
  have s3:=qaf hr (.tup zs)
  exact k r _ _ ((s1.trans s2).trans s3) ⟨zs,upd_same,hZ.tp (tpS (s2.trans s3))⟩ o1 (by rw [waa,wal]) o2
theorem qxG (l:List Nu):sr l=Sr.L (rw' l):=Sr.ext' λk=>(qnI l k).symm
theorem qam (l:List Nu):Sr.Pol (sr l):=⟨_,qxG l⟩
theorem qwk (l:List Nu) (g:Nat->Rat):(⟨cvL (rw' l) g⟩:Sr)=sr l*⟨g⟩:=by rw [qxG,Sr.L_mul]
theorem qb8 {P A C:List Nu} (h:∀ k,pwo P k=cv (pwo A) (pwo C) A.length k):sr P=sr A*sr C:=by
 refine Eq.trans ?_ (qwk A (pwo C))
 exact Sr.ext' λk=>(h k).trans (qsR _ _ _)
theorem qci {l:List Nu} (h1:qap l) (h2:Nz l) (h3:l≠[]):sr l≠0:=λz=>qbp h1 h2 h3 (by
 have:=congrFun (congrArg Sr.c z) (l.length - 1)
 rw [Sr.zero_c] at this
 exact this)
theorem qtR {l m:List Nu} (h1:qap l) (h2:qap m) (n1:Nz l) (n2:Nz m) (h:sr l=sr m):l=m:=qnk h1 h2 n1 n2 λk=>congrFun (congrArg Sr.c h) k
theorem qsV (k:Nat):(1:Sr).c k=qca k:=by show ((1:Nat):Rat)*qca k=_;push_cast;grind
theorem sr_cop {T B:List Nu}:Cop (pwo T) (pwo B)↔Sr.Cs (sr T) (sr B):=by
 constructor
 ·rintro ⟨U,W,e⟩
  refine ⟨Sr.L U,Sr.L W,Sr.Pol.L _,Sr.Pol.L _,?_⟩
  rw [Sr.L_mul,Sr.L_mul]
  exact Sr.ext' λk=>by rw [qsV,e k];rfl
 ·rintro ⟨_,_,⟨U,rfl⟩,⟨W,rfl⟩,e⟩
  refine ⟨U,W,λk=>?_⟩
  rw [Sr.L_mul,Sr.L_mul] at e
  have:=congrFun (congrArg Sr.c e) k
  rw [qsV] at this
  exact this.symm
theorem qxc {l m:List Nu} (h:∀ k,pwo m k=dv (pwo l) k):sr m=Sr.D (sr l):=Sr.ext' λk=>h k
theorem qq0 (h:qdA K vs H Q E):qnv K { nx:=λ_ H'=>Q .non H',rt:=Q } (L2.start ["P","Q"] vs) H:=by
 obtain ⟨p,q,xs,ys,l,m,M,b,c,rfl,hp,hq,hN,hM,hl,hm,O1,O2,bM,b1',b2',b9,c9,ll,lm,k⟩:=h
 unfold qnv
 rwa [hp,hq]
 have lx:=hN.length
 have ly:=hM.length
 rw [qqH,lx,ly]
 refine ⟨⋯,⋯,CompJ.range (λi zs H'=>i<=max l.length m.length/\Same H H'/\Nums H' zs ((List.range i).map λi=>nadd (qa3 l i) (qa3 m i))) ⟨wae _,Same.refl H,trivial⟩ ?_ ?_ ?_⟩
 ·rintro i zs H' ⟨h1,s1,hZ⟩
  exact ⟨h1,sz (by rw [hZ.length,waa,wal];omega)⟩
 ·rintro i zs H' hi ⟨h1,s1,hZ⟩
  rwa []
  rw [show (0:Int)+(i:Int)=(i:Int) by omega]
  refine ⟨xs,l,i,rfl,s1 _ _ hp,hN.tp (tpS s1),λv H1 s2 hv=>⟨ys,m,i,rfl,s2 _ _ (s1 _ _ hq),hM.tp (tpS (s1.trans s2)),λu H2 s3 hu=>?_⟩⟩
  obtain ⟨pv,rfl,hpv⟩:=hv.tp (tpS s3)
  obtain ⟨pu,rfl,hpu⟩:=hu
  have b1:=qfQ hl O1 bM b1' i
  have b2:=qfQ hm O2 bM b2' i
  refine ⟨pv,rfl,pu,rfl,_,_,hpv,_,_,hpu,(qaN hl i).pos,(qaN hm i).pos,b1.1.mono ⋯,b1.2.mono ⋯,b2.1.mono ⋯,b2.2.mono ⋯,λr hr=>⟨⋯,((s1.trans s2).trans s3).trans (qaf hr _),?_⟩⟩
  rw [qdv]
  exact (hZ.tp (tpS ((s2.trans s3).trans (qaf hr _)))).append (Nums.one qf8)
 ·rintro zs H' ⟨_,s1,hZ⟩ a ha
  rwa []
  have s2:=qaf ha (.lst zs)
  have out:=qqY (f:=nadd) (s:=1) (λq r h1 h2=>⟨qfr h1 h2,by rw [qha h1 h2];grind⟩) (.inl rfl) hl hm O1 O2 bM b1' b2'
  refine ⟨_,hZ.tp (tpS s2),by rw [waa,wal];omega,λr os H'' s3 hr hz=>?_⟩
  exact k r _ H'' ((s1.trans s2).trans s3) ⟨os,hr,hz⟩ out.1 out.2.1 λk=>by have:=out.2.2 k;exact this
theorem qlv (p:Nat->Int):∀ (w:List Int) (k:Nat),((cvL w p k:Int):Rat)=cvL (w.map λz:Int=>(z:Rat)) (λk=>(p k:Rat)) k
 | [],_=>rfl
 | x::w,0=>by rw [qar];show _=(x:Rat)*(p 0:Rat)+0;push_cast;rfl
 | x::w,k+1=>by rw [qao];show _=(x:Rat)*(p (k+1):Rat)+cvL (w.map λz:Int=>(z:Rat)) (λk=>(p k:Rat)) k;rw [<-qlv p w k];push_cast;rfl
theorem qq1 (ns:List Int):si ns=Sr.L (ns.map λz:Int=>(z:Rat)):=Sr.ext' λk=>by
 show ((co ns k:Int):Rat)=cvL _ qca k
 rw [qcm]
 unfold co
 rw [wab,wab,waf]
 cases ns[k]? <;> rfl
theorem qby (ns:List Int):Sr.Pol (si ns):=⟨_,qq1 ns⟩
theorem qnJ {ns qs ms:List Int} (h:∀ k,co ns k=cvL qs (co ms) k):si ns=si qs*si ms:=by
 rw [qq1 qs,Sr.L_mul]
 refine Sr.ext' λk=>?_
 show ((co ns k:Int):Rat)=cvL _ (λk=>((co ms k:Int):Rat)) k
 rw [h k,qlv]
theorem qfd {ns:List Int} (h:Lz ns):si ns≠0:=λz=>h.2 (by
 have:=congrFun (congrArg Sr.c z) (ns.length - 1)
 rw [Sr.zero_c] at this
 have this:((co ns (ns.length - 1):Int):Rat)=0:=this
 exact_mod_cast this)
theorem qxd (ns:List Int):Sr.Bn (si ns) ns.length:=λk hk=>by
 show ((co ns k:Int):Rat)=0
 rw [qaD hk];rfl
theorem qwl (ns:List Int) (k:Nat):co (dI ns) k=((k+1:Nat):Int)*co ns (k+1):=by
 by_cases h:k<ns.length - 1
 ·unfold dI
  show ((List.range (ns.length - 1)).map _).getD k 0=_
  rw [wab,waf,wbk h]
  rfl
 ·rw [qaD (by unfold dI;rw [waa,wal];omega),qaD (k:=k+1) ⋯,Int.mul_zero]
theorem qq2 (ns:List Int):(dI ns).length=ns.length - 1:=by unfold dI;rw [waa,wal]
theorem qxe (ns:List Int):si (dI ns)=Sr.D (si ns):=Sr.ext' λk=>by
 show ((co (dI ns) k:Int):Rat)=((k:Rat)+1)*((co ns (k+1):Int):Rat)
 rw [qwl];push_cast;rfl
theorem qge {g:Int} (ms:List Int):si (ms.map (g*·))=Sr.num (g:Rat)*si ms:=Sr.ext' λk=>by
 rw [Sr.num_mul]
 show ((co (ms.map (g*·)) k:Int):Rat)=(g:Rat)*((co ms k:Int):Rat)
 have e:co (ms.map (g*·)) k=g*co ms k:=by
  unfold co
  rw [wab,wab,waf]
  cases ms[k]? with
  | none=>simp
  | some z=>rfl
 rw [e];push_cast;rfl
namespace Sr
theorem num_num (x y:Rat):num x*num y=num (x*y):=ext' λk=>by
 rw [num_mul]
 show x*(y*qca k)=x*y*qca k
 grind
theorem num_one:num 1=1:=congrArg num (show (1:Rat)=((1:Nat):Rat) by push_cast;rfl)
theorem num_inv {x:Rat} (h:x≠0):num x⁻¹*num x=1:=by
 rw [num_num,wb7 _ h]
 exact num_one
theorem mul_pow {f g:Sr}:∀ n:Nat,(f*g) ^ n=f ^ n*g ^ n
 | 0=>by rw [quB,quB,quB];grind
 | n+1=>by rw [quA,quA,quA,mul_pow n];grind
end Sr
theorem qwm {x:Rat} (h:x≠0):x⁻¹≠0:=λz=>by
 have:=wb7 _ h
 rw [z] at this
 grind
theorem qwn {g f:List Int} (m:MQ (co g) (co f)):∃ B,Sr.Pol B/\si f=B*si g:=by
 obtain ⟨c,c0,A,h⟩:=m
 have c1:=qaI c0
 refine ⟨Sr.num ((c:Rat)⁻¹)*si A,(Sr.Pol.num _).mul (qby A),?_⟩
 have e:Sr.num (c:Rat)*si f=si A*si g:=by
  rw [<-qge]
  refine qnJ λk=>?_
  rw [<-h k]
  unfold co
  rw [wab,wab,waf]
  cases f[k]? with
  | none=>simp
  | some z=>rfl
 have i:=Sr.num_inv c1
 have:si f=Sr.num ((c:Rat)⁻¹)*Sr.num (c:Rat)*si f:=by rw [i];grind
 rw [this,show Sr.num ((c:Rat)⁻¹)*Sr.num (c:Rat)*si f=Sr.num ((c:Rat)⁻¹)*(Sr.num (c:Rat)*si f) by grind,e]
 grind
theorem qxf {r o g:List Int} (R:RC (co r) (co o) g) {A B:Sr} (pA:Sr.Pol A) (pB:Sr.Pol B) (h1:si r=A*si g) (h2:si o=B*si g):Sr.Cs A B:=by
 obtain ⟨d,d0,U,W,h⟩:=R.qi
 have e:Sr.num (d:Rat)*si g=si U*si r+si W*si o:=by
  rw [qq1 U,qq1 W,Sr.L_mul,Sr.L_mul]
  refine Sr.ext' λk=>?_
  rw [Sr.num_mul]
  show (d:Rat)*((co g k:Int):Rat)=cvL _ (λk=>((co r k:Int):Rat)) k+cvL _ (λk=>((co o k:Int):Rat)) k
  rw [<-qlv,<-qlv]
  exact_mod_cast h k
 have e2:Sr.num (d:Rat)=si U*A+si W*B:=Sr.cancel (Sr.Pol.num _) (((qby U).mul pA).add ((qby W).mul pB)) (qby g) (qfd R.lz) (by rw [e,h1,h2];grind)
 exact Sr.Cs.of_unit (qaI d0) rfl (qby U) (qby W) e2.symm
noncomputable def DvI (ms g:List Int):Prop:=∃ A:List Int,∀ k,co ms k=cvL A (co g) k
theorem DvI.self (ms:List Int):DvI ms ms:=⟨[1],λk=>by
 cases k with
 | zero=>rw [qar];grind
 | succ k=>rw [qao,qaG];grind⟩
theorem DvI.len {ms g:List Int} (h:DvI ms g) (l1:Lz ms) (l2:Lz g):g.length<=ms.length:=qh2 l2 l1 (by
 obtain ⟨A,hA⟩:=h
 exact ⟨1,∅,A,λk=>by rw [Int.one_mul];exact hA k⟩)
theorem qq3 {ns:List Int} (h:Lz ns):sr (mnc ns)=Sr.num ((co ns (ns.length - 1):Rat))⁻¹*si ns:=Sr.ext' λk=>by
 rw [Sr.num_mul];exact qeX h k
theorem qfR {l:List Nu} (h:qap l):sr l=Sr.num ((qbJ l:Rat))⁻¹*si (qa1 l):=Sr.ext' λk=>by
 rw [Sr.num_mul];exact qdb h k
theorem num_ne' {x y:Rat} (h1:x≠0) (h2:y≠0):x*y≠0:=λz=>by
 rcases Rat.mul_eq_zero.mp z with z | z
 ·exact h1 z
 ·exact h2 z
theorem qxg (l:List Nu):Sr.Bn (sr l) l.length:=λk hk=>qa0 hk
structure Mon (b:Nat) (R:List Nu):Prop where
 gq:Gq b b R
 ne:R≠[]
 one:qa3 R (R.length - 1)=(1,1)
theorem Mon.mono {b c:Nat} {R:List Nu} (h:Mon b R) (e:b<=c):Mon c R:=⟨h.gq.mono e e,h.ne,h.one⟩
theorem Mon.top {b:Nat} {R:List Nu} (h:Mon b R):(sr R).c (R.length - 1)=1/\Sr.Bn (sr R) (R.length - 1+1):=by
 have:=waq.mpr h.ne
 exact ⟨qjg h.one,by rw [Nat.sub_add_cancel this];exact qxg R⟩
theorem qq4 {R:List Nu} {Y:Sr} {n:Nat} (lR:qap R) (nR:Nz R) (e:sr R=Y) (y0:Y.c n≠0) (yb:Sr.Bn Y (n+1)):R≠[]/\R.length=n+1/\pwo R (R.length - 1)=Y.c n:=by
 have hn:pwo R n=Y.c n:=congrFun (congrArg Sr.c e) n
 have h1:n<R.length:=by
  rcases waj n R.length with h | h
  ·exact h
  ·exact absurd (hn.symm.trans (qa0 h)) y0
 have ne:R≠[]:=λz=>by rw [z] at h1;simp at h1
 have hl:R.length=n+1:=by
  rcases waj (n+1) R.length with h | h
  ·have z:=qbp lR nR ne
   exact absurd ((congrFun (congrArg Sr.c e) (R.length - 1)).trans (yb _ ⋯)) z
  ·omega
 exact ⟨ne,hl,by rw [hl];exact hn⟩
theorem qu4:∀ (n:Nat) (D:List Int),Lz D->(co D (D.length - 1)).natAbs<=n->∃ (g:Int) (P:List Int),g≠0/\D=P.map (g*·)/\Prim P/\Lz P/\P.length=D.length:=by
 intro n
 induction n with
 | zero=>intro D l h;exact absurd (Int.natAbs_eq_zero.mp ⋯) l.2
 | succ n ih=>
   intro D l h
   by_cases pr:Prim D
   ·exact ⟨1,D,∅,by simp,pr,l,rfl⟩
   ·obtain ⟨c,hc⟩:=Classical.not_forall.mp pr
    have hc1:∀ k,c∣co D k:=Classical.byContradiction λz=>hc λy=>absurd y z
    have hc2:c.natAbs≠1:=λz=>hc λ_=>z
    have c0:c≠0:=λz=>l.2 (by have:=hc1 (D.length - 1);rw [z] at this;exact Int.zero_dvd.mp this)
    have e:D=(D.map (·/ c)).map (c*·):=by
     rw [List.map_map]
     refine (List.map_id D).symm.trans (wb1 λz hz=>?_)
     obtain ⟨i,hi,rfl⟩:=wb9 hz
     have:=hc1 i
     unfold co at this
     rw [wab,wah hi] at this
     exact (wcb this).symm
    have el:(D.map (·/ c)).length=D.length:=waa ..
    have ec:∀ k,co D k=c*co (D.map (·/ c)) k:=λk=>by
     have:=congrFun (congrArg Sr.c (qge (g:=c) (D.map (·/ c)))) k
     rw [<-e,Sr.num_mul] at this
     have this:((co D k:Int):Rat)=(c:Rat)*((co (D.map (·/ c)) k:Int):Rat):=this
     exact_mod_cast this
    have l2:Lz (D.map (·/ c)):=⟨by rw [el];exact l.1,λz=>l.2 (by rw [el] at z;rw [ec,z,Int.mul_zero])⟩
    have sm:(co (D.map (·/ c)) ((D.map (·/ c)).length - 1)).natAbs<=n:=by
     have h2:=ec (D.length - 1)
     rw [el]
     rw [h2,war] at h
     have z0:(co (D.map (·/ c)) (D.length - 1)).natAbs≠0:=λz=>l2.2 (by rw [el];exact Int.natAbs_eq_zero.mp z)
     have c2:2<=c.natAbs:=by have:=Int.natAbs_pos.mpr c0;omega
     have:=wa4 (co (D.map (·/ c)) (D.length - 1)).natAbs c2
     omega
    obtain ⟨g,P,g0,eP,pP,lP,ll⟩:=ih _ l2 sm
    refine ⟨c*g,P,was c0 g0,?_,pP,lP,⋯⟩
    rw [e,eP,List.map_map]
    refine wb1 λz _=>?_
    show c*(g*z)=c*g*z
    grind
theorem qlw:∀ a:List Rat,∃ c:Int,c≠0/\∃ A:List Int,∀ k,(c:Rat)*a.getD k 0=((A.getD k 0:Int):Rat)
 | []=>⟨1,∅,[],λk=>by simp⟩
 | x::a=>by
   obtain ⟨c,c0,A,h⟩:=qlw a
   have d0:((x.den:Int))≠0:=by have:=x.den_pos;omega
   have hx:(x.den:Rat)*x=(x.num:Rat):=by
    have h1:(x.num:Rat) / ((x.den:Int):Rat)=x:=(Rat.divInt_eq_div x.num (x.den:Int)).symm.trans (Rat.num_divInt_den x)
    have dz:=qaI d0
    have h2:((x.den:Int):Rat)=(x.den:Rat):=rfl
    rw [h2] at h1 dz
    grind
   refine ⟨c*x.den,was c0 d0,(c*x.num)::A.map (λz=>(x.den:Int)*z),λk=>?_⟩
   cases k with
   | zero=>
     show ((c*x.den:Int):Rat)*x=((c*x.num:Int):Rat)
     push_cast
     rw [Rat.mul_assoc,hx]
   | succ k=>
     show ((c*x.den:Int):Rat)*a.getD k 0=(((A.map λz=>(x.den:Int)*z).getD k 0:Int):Rat)
     have e:(A.map λz=>(x.den:Int)*z).getD k 0=(x.den:Int)*A.getD k 0:=by
      rw [wab,wab,waf]
      cases A[k]? <;> simp
     rw [e]
     have:=h k
     push_cast at this ⊢
     grind
theorem qq5 {f g:List Int} {Y:Sr} (pY:Sr.Pol Y) (e:si f=Y*si g):MQ (co g) (co f):=by
 obtain ⟨a,rfl⟩:=pY
 obtain ⟨c,c0,A,h⟩:=qlw a
 refine ⟨c,c0,A,λk=>?_⟩
 have eA:si A=Sr.num (c:Rat)*Sr.L a:=Sr.ext' λj=>by
  rw [Sr.num_mul]
  show ((A.getD j 0:Int):Rat)=(c:Rat)*cvL a qca j
  rw [qcm]
  exact (h j).symm
 have e2:Sr.num (c:Rat)*si f=si A*si g:=by rw [e,eA];grind
 rw [qq1 A,Sr.L_mul] at e2
 have:=congrFun (congrArg Sr.c e2) k
 rw [Sr.num_mul] at this
 have this:(c:Rat)*((co f k:Int):Rat)=cvL (A.map λz:Int=>(z:Rat)) (λk=>((co g k:Int):Rat)) k:=this
 rw [<-qlv] at this
 exact_mod_cast this
theorem qq6 {l:List Nu} (hl:qap l) (nl:Nz l) (l0:l≠[]):∃ (x:Rat) (P:List Int),x≠0/\sr l=Sr.num x*si P/\Prim P/\Lz P/\P.length=l.length:=by
 have lz:Lz (qa1 l):=qeL (qdV hl nl) (λz=>l0 (waz.mp (by rw [<-qaW,z];rfl)))
 obtain ⟨g,P,g0,e,pP,lP,pl⟩:=qu4 _ _ lz (wac _)
 refine ⟨((qbJ l:Rat))⁻¹*(g:Rat),P,num_ne' (qwm (qaI (wad (qbi hl).1))) (qaI g0),?_,pP,lP,by rw [pl,qaW]⟩
 rw [qfR hl,e,qge,<-Sr.num_num];grind
theorem qq7 {P:List Int} {d:Nat} (lP:Lz P) (bP:∀ k,Bd d (co P k)):Mon d (mnc P):=by
 have last:=lP.2
 refine ⟨qj2 (qgd lP) (qlr lP) (M:=((co P (P.length - 1)).natAbs:Int)) ⋯ ?_ (N:=λk=>if 0<co P (P.length - 1) then co P k else - co P k) (λk=>?_) (λk=>?_),?_,?_⟩
 ·show ((co P (P.length - 1)).natAbs:Int).natAbs<2 ^ d
  rw [wba];exact bP _
 ·rw [qjZ lP]
  by_cases c:0<co P (P.length - 1)
  ·rw [if_pos c,Int.natAbs_of_nonneg ⋯]
  ·rw [if_neg c,show ((co P (P.length - 1)).natAbs:Int) = - co P (P.length - 1) by omega]
   have c1:=qaI last
   push_cast
   grind
 ·split
  ·exact bP k
  ·exact (bP k).neg
 ·intro z
  have z2:(mnc P).length=0:=by rw [z];rfl
  rw [qcu] at z2
  have:=lP.1
  omega
 ·refine qe7 (qaN (qgd lP) _) ⟨∅,∅⟩ ?_
  show pwo (mnc P) _=_
  rw [qcu,qjZ lP]
  have c1:=qaI last
  unfold val
  show _=((1:Int):Rat) / ((1:Int):Rat)
  push_cast
  grind
theorem qwo {c:Nat} {p q:List Nu} {x:Rat} (hl:qap p) (hn:Nz p) (h0:p≠[]) (h1:qa3 p (p.length - 1)=(1,1)) (hq:Mon c q) (x0:x≠0) (e:sr p=Sr.num x*sr q):p=q:=by
 have t:(Sr.num x*sr q).c (q.length - 1)=x:=by rw [Sr.num_mul,hq.top.1];grind
 have yb:Sr.Bn (Sr.num x*sr q) (q.length - 1+1):=λk hk=>by rw [Sr.num_mul,hq.top.2 k hk];grind
 obtain ⟨_,len,last⟩:=qq4 hl hn e (by rw [t];exact x0) yb
 have x1:x=1:=by rw [<-t,<-last,qjg h1]
 rw [x1,Sr.num_one] at e
 exact qtR hl hq.gq.low hn hq.gq.nz (by rw [e];grind)
theorem qlx {R:List Int} {Y:Sr} {n:Nat} (l:Lz R) (e:si R=Y) (y0:Y.c n≠0) (yb:Sr.Bn Y (n+1)):R.length=n+1/\((co R (R.length - 1):Int):Rat)=Y.c n:=by
 have hn:((co R n:Int):Rat)=Y.c n:=congrFun (congrArg Sr.c e) n
 have h1:n<R.length:=by
  rcases waj n R.length with h | h
  ·exact h
  ·rw [qaD h] at hn;exact absurd hn.symm y0
 have hl:R.length=n+1:=by
  rcases waj (n+1) R.length with h | h
  ·have z:((co R (R.length - 1):Int):Rat)=0:=(congrFun (congrArg Sr.c e) (R.length - 1)).trans (yb _ ⋯)
   exact absurd (by exact_mod_cast z) l.2
  ·omega
 exact ⟨hl,by rw [hl];exact hn⟩
theorem qq8 {T B:List Nu} {N D:List Int} {b n e:Nat} (h:Lw T B) (lD:Lz D) (tN:Tz N) (bN:∀ z∈N,Bd b z) (bD:∀ z∈D,Bd b z) (n1:N.length<=n) (n2:D.length<=n) (ne:n<2 ^ e) (eq:sr T*si D=si N*sr B) :
  Gq (b+(b+n*(2*e+4))) (b+(b+n*(2*e+4))) T/\Gq (b+n*(2*e+4)) (b+n*(2*e+4)) B/\T.length<=N.length/\B.length<=D.length:=by
 obtain ⟨U,W,pU,pW,h1⟩:=h.cs
 have eD:si D=(U*si N+W*si D)*sr B:=by
  have:si D=(U*sr T+W*sr B)*si D:=by rw [h1];grind
  calc si D=(U*sr T+W*sr B)*si D:=this
   _=U*(sr T*si D)+W*sr B*si D:=by grind
   _=_:=by rw [eq];grind
 generalize hY:U*si N+W*si D=Y at eD
 have pY:Sr.Pol Y:=by rw [<-hY];exact (pU.mul (qby N)).add (pW.mul (qby D))
 obtain ⟨x,P,x0,eB,pP,lP,pl⟩:=qq6 h.lb h.nb h.ne
 obtain ⟨A,hA⟩:=gauss pP (qq5 (pY.mul (Sr.Pol.num x)) (show si D=Y*Sr.num x*si P by rw [eD,eB];grind))
 have gl:P.length<=D.length:=DvI.len ⟨A,hA⟩ lD lP
 have bP:∀ k,Bd (b+n*(2*e+4)) (co P k):=qdH bD ⟨_,lD.2⟩ n2 ⋯ ne hA
 have hB:B=mnc P:=by
  have mB:Mon (b+n*(2*e+4)) (mnc P):=qq7 lP bP
  have x1:x*(co P (P.length - 1):Rat)≠0:=num_ne' x0 (qaI lP.2)
  refine qwo h.lb h.nb h.ne h.one mB x1 ?_
  rw [eB,qq3 lP,<-Sr.num_num]
  have iP:Sr.num (co P (P.length - 1):Rat)*Sr.num ((co P (P.length - 1):Rat))⁻¹=1:=by
   have:=Sr.num_inv (qaI lP.2);grind
  grind
 have GB:Gq (b+n*(2*e+4)) (b+n*(2*e+4)) B:=by rw [hB];exact (qq7 lP bP).gq
 have lB:B.length<=D.length:=by rw [hB,qcu];exact gl
 have B0:=qci h.lb h.nb h.ne
 have eN:si N=Y*sr T:=by
  refine Sr.cancel (qby N) (pY.mul (qam T)) (qam B) B0 ?_
  rw [<-eq,show sr T*si D=sr T*(Y*sr B) from congrArg _ eD];grind
 by_cases T0:T=[]
 ·subst T0
  refine ⟨⟨h.lt,h.nt,1,⟨∅,(λ_ h=>nomatch h)⟩,bdc (by show 1<2 ^ _;exact Nat.one_lt_two_pow (by have:=lD.1;have:0<n*(2*e+4):=Nat.mul_pos ⋯ ⋯;omega)),(λ_ h=>nomatch h)⟩,GB,wae _,lB⟩
 have D0:=qfd lD
 have Y0:Y≠0:=λz=>D0 (by rw [eD,z];grind)
 have TT:=qci h.lt h.nt T0
 have N0:si N≠0:=by rw [eN];exact Sr.ne_mul pY (qam T) Y0 TT
 have Nn:N≠[]:=λz=>N0 (by rw [z,qq1 []];exact Sr.L_nil)
 have lN:Lz N:=qeL tN Nn
 obtain ⟨y,Qr,y0,eT,pQ,lQ,ql⟩:=qq6 h.lt h.nt T0
 obtain ⟨A2,hA2⟩:=gauss pQ (qq5 (pY.mul (Sr.Pol.num y)) (show si N=Y*Sr.num y*si Qr by rw [eN,eT];grind))
 have ql2:Qr.length<=N.length:=DvI.len ⟨A2,hA2⟩ lN lQ
 have bQ:∀ k,Bd (b+n*(2*e+4)) (co Qr k):=qdH bN ⟨_,lN.2⟩ n1 ⋯ ne hA2
 obtain ⟨m,hm⟩:=pY.bn
 rcases Sr.top_ex m hm with z | ⟨j,_,j0,jb⟩
 ·exact absurd z Y0
 have MB:Mon (b+n*(2*e+4)) B:=⟨GB,h.ne,h.one⟩
 have tD:=Sr.top_mul jb MB.top.2
 rw [MB.top.1] at tD
 obtain ⟨_,dD⟩:=qlx lD eD (n:=j+(B.length - 1)) (by rw [tD.1];intro z;exact j0 (by grind)) tD.2
 rw [tD.1] at dD
 have bQn:Sr.Bn (si Qr) (Qr.length - 1+1):=by rw [Nat.sub_add_cancel lQ.1];exact qxd Qr
 have tN2:=Sr.top_mul (f:=Y*Sr.num y) (m:=j) (λk hk=>by rw [show Y*Sr.num y=Sr.num y*Y by grind,Sr.num_mul,jb k hk];grind) bQn
 have cY:(Y*Sr.num y).c j=y*Y.c j:=by rw [show Y*Sr.num y=Sr.num y*Y by grind,Sr.num_mul]
 rw [cY] at tN2
 have lQ2:(si Qr).c (Qr.length - 1)=(co Qr (Qr.length - 1):Rat):=rfl
 rw [lQ2] at tN2
 have q1:=qaI lQ.2
 obtain ⟨_,dN⟩:=qlx lN (show si N=Y*Sr.num y*si Qr by rw [eN,eT];grind) (n:=j+(Qr.length - 1)) (by rw [tN2.1];exact num_ne' (num_ne' y0 j0) q1) tN2.2
 rw [tN2.1] at dN
 have d1:=qaI lD.2
 have mz:co D (D.length - 1)*co Qr (Qr.length - 1)≠0:=was lD.2 lQ.2
 have bm:Bd (b+(b+n*(2*e+4))) (co D (D.length - 1)*co Qr (Qr.length - 1)):=Bd.mul (qbE bD _) (bQ _)
 have bt:∀ k,Bd (b+(b+n*(2*e+4))) (co N (N.length - 1)*co Qr k):=λk=>Bd.mul (qbE bN _) (bQ k)
 have pT:∀ k,pwo T k=((co N (N.length - 1)*co Qr k:Int):Rat) / ((co D (D.length - 1)*co Qr (Qr.length - 1):Int):Rat):=λk=>by
  have e1:pwo T k=y*((co Qr k:Int):Rat):=by
   have:=congrFun (congrArg Sr.c eT) k
   rw [Sr.num_mul] at this
   exact this
  rw [e1]
  push_cast
  rw [dN,dD]
  generalize ((co Qr (Qr.length - 1):Int):Rat)=q at *
  generalize ((co Qr k:Int):Rat)=r at *
  grind
 refine ⟨qj2 h.lt h.nt (M:=((co D (D.length - 1)*co Qr (Qr.length - 1)).natAbs:Int)) ⋯ ?_ (N:=λk=>if 0<co D (D.length - 1)*co Qr (Qr.length - 1) then co N (N.length - 1)*co Qr k else - (co N (N.length - 1)*co Qr k)) (λk=>?_) (λk=>?_),GB,⋯,lB⟩
 ·show ((co D (D.length - 1)*co Qr (Qr.length - 1)).natAbs:Int).natAbs<2 ^ _
  rw [wba];exact bm
 ·rw [pT k]
  generalize co D (D.length - 1)*co Qr (Qr.length - 1)=M at *
  generalize co N (N.length - 1)*co Qr k=r at *
  by_cases c:0<M
  ·rw [if_pos c,Int.natAbs_of_nonneg ⋯]
  ·rw [if_neg c,show (M.natAbs:Int) = - M by omega]
   have c1:=qaI mz
   push_cast
   grind
 ·split
  ·exact bt k
  ·exact (bt k).neg
theorem qdW {T B:List Nu} {N D:Sr} (h:Lw T B) (pN:Sr.Pol N) (pD:Sr.Pol D) (eq:sr T*D=N*sr B):∃ Y,Sr.Pol Y/\D=Y*sr B/\N=Y*sr T:=by
 obtain ⟨U,W,pU,pW,h1⟩:=h.cs
 have eD:D=(U*N+W*D)*sr B:=by
  have:D=(U*sr T+W*sr B)*D:=by rw [h1];grind
  calc D=(U*sr T+W*sr B)*D:=this
   _=U*(sr T*D)+W*sr B*D:=by grind
   _=_:=by rw [eq];grind
 refine ⟨U*N+W*D,(pU.mul pN).add (pW.mul pD),eD,?_⟩
 refine Sr.cancel pN (((pU.mul pN).add (pW.mul pD)).mul (qam T)) (qam B) (qci h.lb h.nb h.ne) ?_
 rw [<-eq,show sr T*D=sr T*((U*N+W*D)*sr B) from congrArg _ eD];grind
theorem qsW {l:List Nu} {N:List Int} {Y:Sr} {b n e:Nat} (hl:qap l) (lN:Lz N) (bN:∀ z∈N,Bd b z) (nl:N.length<=n) (ne:n<2 ^ e) (pY:Sr.Pol Y) (eq:si N=Y*sr l):Fp (b+n*(2*e+4)) (qa1 l):=λg lg pg mq=>by
 obtain ⟨B1,pB1,e1⟩:=qwn mq
 obtain ⟨A,hA⟩:=gauss pg (qq5 ((pY.mul (Sr.Pol.num _)).mul pB1) (show si N=Y*Sr.num ((qbJ l:Rat))⁻¹*B1*si g by rw [eq,qfR hl,e1];grind))
 have gl:g.length<=N.length:=DvI.len ⟨A,hA⟩ lN lg
 exact qdH bN ⟨_,lN.2⟩ nl ⋯ ne hA
theorem Fp.mono {x y:Nat} {ns:List Int} (h:Fp x ns) (e:x<=y):Fp y ns:=λg lg pg mq k=>(h g lg pg mq k).mono e
theorem qq9 {l:List Nu} (hl:qap l) (nl:Nz l) (l0:l≠[]):Lz (qa1 l):=qeL (qdV hl nl) λz=>l0 (waz.mp (by rw [<-qaW,z];rfl))
theorem qep {b c n e:Nat} {l:List Nu} (G:Gq b c l) (l0:l≠[]) (ln:l.length<=n) (ne:n<2 ^ e):Fp (b+n*(2*e+4)) (qa1 l):=λg lg pg mq=>by
 have lz:=qq9 G.low G.nz l0
 obtain ⟨A,hA⟩:=gauss pg mq
 have gl:g.length<=l.length:=by have:=qh2 lg lz mq;rw [qaW] at this;exact this
 exact qdH G.clr.1 ⟨_,lz.2⟩ (by rw [qaW];exact ln) ⋯ ne hA
theorem qwp {x:Nat} {l m:List Nu} {Y:Sr} (hl:qap l) (hm:qap m) (pY:Sr.Pol Y) (eq:sr m=Y*sr l) (h:Fp x (qa1 m)):Fp x (qa1 l):=λg lg pg mq=>by
 obtain ⟨B1,pB1,e1⟩:=qwn mq
 refine h g lg pg (qq5 (((Sr.Pol.num (qbJ m:Rat)).mul pY).mul ((Sr.Pol.num ((qbJ l:Rat))⁻¹).mul pB1)) ?_)
 have i:=Sr.num_inv (qaI (wad (qbi hm).1))
 have e2:=qfR hm
 have e3:si (qa1 m)=Sr.num (qbJ m:Rat)*sr m:=by rw [e2];grind
 rw [e3,eq,qfR hl,e1];grind
theorem Rp.facts {b n m e:Nat} {T B:List Nu} (h:Rp b n m T B) (ne:n<2 ^ e) (me:m<2 ^ e) :
  Gq (b+(b+max n m*(2*e+4))) (b+(b+max n m*(2*e+4))) T/\Gq (b+max n m*(2*e+4)) (b+max n m*(2*e+4)) B/\T.length<=n/\B.length<=m/\(T≠[]->Fp (b+n*(2*e+4)) (qa1 T))/\Fp (b+m*(2*e+4)) (qa1 B):=by
 obtain ⟨N,D,lD,tN,bN,bD,nN,nD,eq⟩:=h.rp
 obtain ⟨g1,g2,l1,l2⟩:=qq8 h.lw lD tN bN bD (show N.length<=max n m by omega) (show D.length<=max n m by omega) (show max n m<2 ^ e by omega) eq
 obtain ⟨Y,pY,eD,eN⟩:=qdW h.lw (qby N) (qby D) eq
 refine ⟨g1,g2,⋯,⋯,λt0=>?_,qsW h.lw.lb lD bD nD me pY eD⟩
 refine qsW h.lw.lt (qeL tN λz=>?_) bN nN ne pY eN
 have Y0:Y≠0:=λz=>qfd lD (by rw [eD,z];grind)
 have:=Sr.ne_mul pY (qam T) Y0 (qci h.lw.lt h.lw.nt t0)
 exact this (by rw [<-eN,z,qq1 []];exact Sr.L_nil)
theorem C0.dd {x n m e:Nat} (h:C0 x n m e):x*2<=44490/\∀ y,y<=n+m->y*(x+1)<=44490/\y*x<=44490:=by
 have h1:=h.lu
 have n1:=h.n1
 have m1:=h.m1
 have k:∀ y,y<=n+m->y*(x+1)<=44490/\y*x<=44490:=λy hy=>by
  have a1:y*(x+1)<=(n+m)*(x+e+2):=wbl hy ⋯
  have a2:y*x<=y*(x+1):=wbt _ ⋯
  rw [wbm (n+m)] at a1
  omega
 exact ⟨by have:=(k 2 ⋯).2;omega,k⟩
theorem C0.ml {x n m e:Nat} (h:C0 x n m e):max n m<2 ^ e/\max n m*(2*e+4)<=960:=by
 have:=h.ne;have:=h.me;have:=h.n60;have:=h.m60;have:=h.e6
 have:max n m*(2*e+4)<=60*16:=wbl ⋯ ⋯
 exact ⟨⋯,this⟩
theorem qra {m:List Nu} {g:List Int} {x:Nat} (hm:qap m) (nm:Nz m) (m0:m≠[]) (F:Fp x (qa1 m)) (lg:Lz g) (mq:MQ (co g) (co (qa1 m))) (P:Prim g) :
  Gq x x (mnc g)/\mnc g≠[]/\(mnc g).length<=m.length/\MR (pwo (mnc g)) (pwo m)/\(∀ k,Bd x (co g k))/\pwo (mnc g) ((mnc g).length - 1)=1:=by
 have lzm:=qq9 hm nm m0
 have gl:g.length<=m.length:=by have:=qh2 lg lzm mq;rw [qaW] at this;exact this
 have bg:=F g lg P mq
 refine ⟨⟨qgd lg,qlr lg,_,(qls lg.2 (qlq bg)).1,(bg (g.length - 1)).le ⋯,(qls lg.2 (qlq bg)).2⟩,waq.mp (by rw [qcu];exact lg.1),by rw [qcu];exact gl,MR.of (qfc lg) (qdb hm) (qeX lg) mq,bg,qjg ?_⟩
 rw [qcu];exact qj0 lg
theorem qmM (h:qbr K vs H Q E):qi8 K { nx:=λ_ H'=>Q .non H',rt:=Q } (L2.start ["P","Q","shared"] vs) H:=by
 obtain ⟨p,q,l,m,b,D,n,n',e,rfl,⟨xs,hp,hN⟩,⟨ys,hq,hM⟩,Gl,Gm,m0,ln,mn,fpl,fpm,Z,b9,k⟩:=h
 obtain ⟨D9,zz⟩:=Z.dd
 obtain ⟨mxe,mx9⟩:=Z.ml
 have n60:=Z.n60
 have m60:=Z.m60
 have n1':=Z.n1
 have m1':=Z.m1
 have ne':=Z.ne
 have me':=Z.me
 unfold qi8
 rwa [hp,hq]
 refine ⟨l,hN,m,hM,b,b,Gl,Gm,⋯,⋯,⋯,⋯,D,λl0 _=>⟨fpl l0,fpm⟩,e,by rw [wa6];omega,n+n',⋯,⋯,Z.lu,λ_ z=>absurd z m0,λ_ g R P r zs H1 s1 hr hz=>?_⟩
 have lg:=R.lz
 have lzm:Lz (qa1 m):=qeL (qdV Gm.low Gm.nz) λz=>m0 (waz.mp (by rw [<-qaW,z];rfl))
 have gl:g.length<=m.length:=by have:=qh2 lg lzm R.right;rwa [qaW] at this
 have bg:=fpm g lg P R.right
 have Gg:Gq D D (mnc g):=⟨qgd lg,qlr lg,_,(qls lg.2 (qlq bg)).1,(bg (g.length - 1)).le ⋯,(qls lg.2 (qlq bg)).2⟩
 have g0:mnc g≠[]:=waq.mp (by rw [qcu];exact lg.1)
 have M1:MR (pwo (mnc g)) (pwo l):=MR.of (qfc lg) (qdb Gl.low) (qeX lg) R.left
 have M2:MR (pwo (mnc g)) (pwo m):=MR.of (qfc lg) (qdb Gm.low) (qeX lg) R.right
 have hp1:=s1 _ _ hp
 rwa [hr,hp1]
 have lgl:0<(mnc g).length:=waq.mpr g0
 have e1:=(zz (l.length+1 - (mnc g).length) ⋯).1
 have e2:=(zz (l.length+1 - (mnc g).length) ⋯).2
 refine ⟨l,hN.tp (tpS s1),mnc g,hz,b,b,Gl,D,D,Gg,g0,⋯,by rw [qcu];omega,⋯,⋯,⋯,⋯,M1,λr0 R0 H2 s2 ⟨zs0,h0,n0⟩ lR0 nR0 lenR0 eR0=>?_⟩
 obtain ⟨A0,bA0,eA0⟩:=qmJ Gl.low lR0 Gl.clr.1 (show l.length<=max n n' by omega) mxe lg P R.left eR0
 have G0:Gq (D+(b+max n n'*(2*e+4))) b R0:=qj2 lR0 nR0 (qbi Gl.low).1 Gl.clr.2.1 (N:=λk=>co g (g.length - 1)*co A0 k) (λk=>by rw [eA0,Rat.div_def];push_cast;rfl) λk=>Bd.mul (bg _) (bA0 k)
 have bds0:∀ q∈R0,Bd (D+(b+max n n'*(2*e+4))) q.1/\Bd b q.2:=λq hq=>⟨G0.clr.2.2 q hq,by
  obtain ⟨M,O,bM,_⟩:=G0.ov
  exact qdh (wad O.1) (O.2 q hq) bM⟩
 have s02:=s1.trans s2
 have hq2:=s02 _ _ hq
 have hr2:=s2 _ _ hr
 rwa [hq2,hr2]
 have e1:=(zz (m.length+1 - (mnc g).length) ⋯).1
 have e2:=(zz (m.length+1 - (mnc g).length) ⋯).2
 refine ⟨m,hM.tp (tpS s02),mnc g,hz.tp (tpS s2),b,b,Gm,D,D,Gg,g0,⋯,by rw [qcu];omega,⋯,⋯,⋯,⋯,M2,λr1 R1 H3 s3 ⟨zs1,h1,n1⟩ lR1 nR1 lenR1 eR1=>?_⟩
 obtain ⟨A1,bA1,eA1⟩:=qmJ Gm.low lR1 Gm.clr.1 (show m.length<=max n n' by omega) mxe lg P R.right eR1
 have R1n:R1≠[]:=λz=>by
  have:=eR1 (m.length - 1)
  rw [z] at this
  exact qbp Gm.low Gm.nz m0 this
 have G1:Gq (D+(b+max n n'*(2*e+4))) b R1:=qj2 lR1 nR1 (qbi Gm.low).1 Gm.clr.2.1 (N:=λk=>co g (g.length - 1)*co A1 k) (λk=>by rw [eA1,Rat.div_def];push_cast;rfl) λk=>Bd.mul (bg _) (bA1 k)
 have p1:0<R1.length:=waq.mpr R1n
 have bds:∀ q∈R1,Bd (D+(b+max n n'*(2*e+4))) q.1/\Bd b q.2:=λq hq=>⟨G1.clr.2.2 q hq,by
  obtain ⟨M,O,bM,_⟩:=G1.ov
  exact qdh (wad O.1) (O.2 q hq) bM⟩
 have l0:=lenR0
 refine ⟨R0,⟨zs0,s3 _ _ h0,n0.tp (tpS s3)⟩,R1,⟨zs1,h1,n1⟩,lR0,lR1,nR1,R1n,λq hq=>⟨(bds0 q hq).1.mono ⋯,(bds0 q hq).2.mono ⋯⟩,λq hq=>⟨(bds q hq).1.mono ⋯,(bds q hq).2.mono ⋯⟩,⋯,⋯,λfa fl fv t u v H4 s4 ht ⟨us,hu,nu⟩ ⟨vs,hv,nv⟩=>?_⟩
 generalize hla:qa3 R1 (R1.length - 1)=la at fv
 have lowT:=qhm (a:=fa.1) lR0 fl.pos
 have lowB:=qhm (a:=fa.1) lR1 fl.pos
 have eT:∀ k,pwo (trim (R0.map λq=>nmul q (fa.1,fa.2))) k=val fa*pwo R0 k:=λk=>(qdP lowT k).trans (qhl lR0 fl.pos k)
 have eB:∀ k,pwo (trim (R1.map λq=>nmul q (fa.1,fa.2))) k=val fa*pwo R1 k:=λk=>(qdP lowB k).trans (qhl lR1 fl.pos k)
 have tlen:(trim (R0.map λq=>nmul q (fa.1,fa.2))).length<=R0.length:=wak (qcw _) (by rw [waa];exact wac _)
 have blen:(trim (R1.map λq=>nmul q (fa.1,fa.2))).length<=R1.length:=wak (qcw _) (by rw [waa];exact wac _)
 have lT:qap (trim (R0.map λq=>nmul q (fa.1,fa.2))):=λq hq=>lowT q (qbC hq)
 have lB:qap (trim (R1.map λq=>nmul q (fa.1,fa.2))):=λq hq=>lowB q (qbC hq)
 have nT:=qdN (R0.map λq=>nmul q (fa.1,fa.2))
 have nB:=qdN (R1.map λq=>nmul q (fa.1,fa.2))
 generalize trim (R0.map λq=>nmul q (fa.1,fa.2))=T at nu eT tlen lT nT
 generalize trim (R1.map λq=>nmul q (fa.1,fa.2))=B at nv eB blen lB nB
 have s0:val fa≠0:=λz=>by rw [z] at fv;grind
 have la1:pwo R1 (R1.length - 1)=val la:=by unfold pwo;rw [hla]
 have tB:pwo B (R1.length - 1)=1:=by rw [eB,la1];exact fv
 have lenB:B.length=R1.length:=by
  rcases waj (R1.length - 1) B.length with z | z
  ·omega
  ·rw [qa0 z] at tB;exact absurd tB ∅
 obtain ⟨U,W,eU⟩:=qwj Gl.low Gm.low R
 have gtop:pwo (mnc g) ((mnc g).length - 1)≠0:=qbp (qgd lg) (qlr lg) g0
 have c0:∀ k,pwo l k=cvL (rw' R0) (pwo (mnc g)) k:=λk=>(eR0 k).trans (qsR _ _ _)
 have c1:∀ k,pwo m k=cvL (rw' R1) (pwo (mnc g)) k:=λk=>(eR1 k).trans (qsR _ _ _)
 have s04:=(s02.trans s3).trans s4
 refine k t H4 T B s04 ⟨u,v,ht,⟨us,hu,nu⟩,⟨vs,hv,nv⟩⟩ ⟨lT,lB,nT,nB,waq.mp ⋯,?_,sr_cop.mp ?_⟩ ?_
 ·refine qe7 (qaN lB _) qmK ?_
  have:val ((1:Int),(1:Int))=1:=by unfold val;show ((1:Int):Rat) / ((1:Int):Rat)=1;rw [show ((1:Int):Rat)=1 from rfl];grind
  rw [this,lenB];exact tB
 ·exact (qwi (t:=rw' R0) (b:=rw' R1) (qnI R0) (qnI R1) gtop (λi hi=>qa0 ⋯) c0 c1 eU).scal s0 eT eB
 ·have e1:sr T=Sr.num (val fa)*sr R0:=Sr.ext' λk=>by rw [Sr.num_mul];exact eT k
  have e2:sr B=Sr.num (val fa)*sr R1:=Sr.ext' λk=>by rw [Sr.num_mul];exact eB k
  rw [e1,e2,qb8 eR0,qb8 eR1];grind
structure Al (b n m e:Nat) (T B:List Nu):Prop where
 lw:Lw T B
 gt:Gq (2*b+960) (2*b+960) T
 gb:Gq (2*b+960) (2*b+960) B
 tn:T.length<=n
 bm:B.length<=m
 ft:T≠[]->Fp (b+n*(2*e+4)) (qa1 T)
 fb:Fp (b+m*(2*e+4)) (qa1 B)
theorem Rp.all {b n m e:Nat} {T B:List Nu} (h:Rp b n m T B) (ne:n<2 ^ e) (me:m<2 ^ e) (n60:n<=60) (m60:m<=60) (e6:e<=6):Al b n m e T B:=by
 obtain ⟨g1,g2,l1,l2,f1,f2⟩:=h.facts ne me
 have:max n m*(2*e+4)<=60*16:=wbl ⋯ ⋯
 exact ⟨h.lw,g1.mono ⋯ ⋯,g2.mono ⋯ ⋯,l1,l2,f1,f2⟩
theorem qx5 (b n m e:Nat):b+n*(2*e+4)<=b+max n m*(2*e+4):=Nat.add_le_add_left (wa4 _ ⋯) _
theorem qx6 (b n m e:Nat):b+m*(2*e+4)<=b+max n m*(2*e+4):=Nat.add_le_add_left (wa4 _ ⋯) _
theorem Lw.bot {T B:List Nu} (h:Lw T B) (T':List Nu) (lt:qap T') (nt:Nz T') (c:Sr.Cs (sr T') (sr B)):Lw T' B:=⟨lt,h.lb,nt,h.nb,h.ne,h.one,c⟩
theorem Rp.turn {b n m:Nat} {T B X Y:List Nu} (h:Rp b n m T B) (T0:T≠[]) (l:Lw X Y) (eq:sr X*sr T=sr B*sr Y):Rp b m n X Y:=by
 obtain ⟨N,D,lD,tN,bN,bD,nN,nD,e⟩:=h.rp
 obtain ⟨Z,pZ,eD,eN⟩:=qdW h.lw (qby N) (qby D) e
 have Z0:Z≠0:=λz=>qfd lD (by rw [eD,z];grind)
 have N0:si N≠0:=by rw [eN];exact Sr.ne_mul pZ (qam T) Z0 (qci h.lw.lt h.lw.nt T0)
 refine ⟨l,D,N,qeL tN (λz=>N0 (by rw [z,qq1 []];exact Sr.L_nil)),.inr lD.2,bD,bN,nD,nN,?_⟩
 rw [eN,eD]
 have:sr X*(Z*sr T)=Z*(sr X*sr T):=by grind
 rw [this,eq];grind
theorem qrb {F:Nat->Int} {w x:Nat} (hz:∀ k,w<=k->F k=0) (hb:∀ k,Bd x (F k)):∃ Z:List Int,Tz Z/\(∀ k,co Z k=F k)/\(∀ z∈Z,Bd x z)/\Z.length<=w:=by
 have h0:∀ k,co ((List.range w).map F) k=F k:=λk=>by
  unfold co
  rw [wab,waf]
  rcases waj k w with c | c
  ·rw [wbk c];rfl
  ·rw [wax (by rw [wal];exact c)];exact (hz k c).symm
 rcases qgT ((List.range w).map F) with z | ⟨g,lg,gl,eg⟩
 ·exact ⟨[],.inl rfl,λk=>by rw [<-h0,z];exact qaD (wae _),(λ_ h=>nomatch h),wae _⟩
 ·refine ⟨g,.inr lg.2,λk=>(eg k).trans (h0 k),λz hz=>?_,by rw [waa,wal] at gl;exact gl⟩
  obtain ⟨i,hi,rfl⟩:=wb9 hz
  have:co g i=g[i]:=by unfold co;rw [wab,wah hi];rfl
  rw [<-this,eg,h0];exact hb i
theorem qu5 {N D:List Int} {b d n e:Nat} (bN:∀ z∈N,Bd b z) (bD:∀ z∈D,Bd d z) (nl:N.length<=n) (ne:n<2 ^ e) (k:Nat):Bd (b+d+e) (cvL N (co D) k):=by
 have h:=qnD (h:=2 ^ d) (q:=2 ^ b) (λk=>Nat.le_of_lt (qbE bD k)) N (λz hz=>Nat.le_of_lt (bN z hz)) k
 have p0:0<2 ^ b*2 ^ d:=Nat.mul_pos (Nat.pow_pos ∅) (Nat.pow_pos ∅)
 have h2:N.length*(2 ^ b*2 ^ d)<2 ^ e*(2 ^ b*2 ^ d):=Nat.mul_lt_mul_of_pos_right ⋯ p0
 unfold Bd
 rw [Nat.pow_add,Nat.pow_add,wbm (2 ^ b*2 ^ d)]
 omega
theorem qrc {N D:List Int} {n m k:Nat} (nl:N.length<=n) (dl:D.length<=m) (h:n+m<=k+1):cvL N (co D) k=0:=qcf (n:=D.length) (λi hi=>qaD hi) N k ⋯
theorem qgf {N D:List Int} {b d n m e:Nat} (bN:∀ z∈N,Bd b z) (bD:∀ z∈D,Bd d z) (nl:N.length<=n) (dl:D.length<=m) (ne:n<2 ^ e):∃ Z:List Int,Tz Z/\si Z=si N*si D/\(∀ z∈Z,Bd (b+d+e) z)/\Z.length<=n+m - 1:=by
 obtain ⟨Z,t,h,bz,l⟩:=qrb (F:=cvL N (co D)) (w:=n+m - 1) (x:=b+d+e) (λk hk=>qrc nl dl ⋯) (qu5 bN bD nl ne)
 exact ⟨Z,t,qnJ h,bz,l⟩
theorem qmN {N D N' D':List Int} {b b' n m n' m' e w:Nat} {s:Int} (hs:s=1\/s = -1) (bN:∀ z∈N,Bd b z) (bD:∀ z∈D,Bd b z) (bN':∀ z∈N',Bd b' z) (bD':∀ z∈D',Bd b' z) (h1:N.length<=n) (h2:D.length<=m) (h3:N'.length<=n') (h4:D'.length<=m') (ne:n<2 ^ e) (ne':n'<2 ^ e) (w1:n+m'<=w+1) (w2:n'+m<=w+1) :
  ∃ Z:List Int,Tz Z/\si Z=si N*si D'+Sr.num (s:Rat)*si N'*si D/\(∀ z∈Z,Bd (b+b'+e+1) z)/\Z.length<=w:=by
 obtain ⟨Z,t,h,bz,l⟩:=qrb (F:=λk=>cvL N (co D') k+s*cvL N' (co D) k) (w:=w) (x:=b+b'+e+1) (λk hk=>by rw [qrc h1 h4 ⋯,qrc h3 h2 ⋯];omega) (λk=>by
  have c1:=qu5 bN bD' h1 ne k
  have c2:=(qu5 bN' bD h3 ne' k).mono (show b'+b+e<=b+b'+e by omega)
  rcases hs with z | z
  ·rw [z,Int.one_mul];exact c1.add c2
  ·rw [z,show cvL N (co D') k + -1*cvL N' (co D) k=cvL N (co D') k - cvL N' (co D) k by omega];exact c1.sub c2)
 refine ⟨Z,t,Sr.ext' λk=>?_,bz,l⟩
 have e1:(si N*si D').c k=((cvL N (co D') k:Int):Rat):=by rw [<-qnJ (qeb N D')];show ((co (qaO N D') k:Int):Rat)=_;rw [qeb]
 have e2:(Sr.num (s:Rat)*si N'*si D).c k=(s:Rat)*((cvL N' (co D) k:Int):Rat):=by
  rw [show Sr.num (s:Rat)*si N'*si D=Sr.num (s:Rat)*(si N'*si D) by grind,Sr.num_mul,<-qnJ (qeb N' D)]
  show (s:Rat)*((co (qaO N' D) k:Int):Rat)=_
  rw [qeb]
 show ((co Z k:Int):Rat)=(si N*si D').c k+(Sr.num (s:Rat)*si N'*si D).c k
 rw [e1,e2,h k]
 push_cast
 rfl
theorem qu6 {l m:List Nu} {g:List Int} {A B:Sr} (hl:qap l) (hm:qap m) (R:RC (co (qa1 l)) (co (qa1 m)) g) (pA:Sr.Pol A) (pB:Sr.Pol B) (h1:sr l=A*sr (mnc g)) (h2:sr m=B*sr (mnc g)):Sr.Cs A B:=by
 have i1:=Sr.num_inv (qaI (wad (qbi hl).1))
 have i2:=Sr.num_inv (qaI (wad (qbi hm).1))
 have e1:si (qa1 l)=Sr.num (qbJ l:Rat)*sr l:=by rw [qfR hl];grind
 have e2:si (qa1 m)=Sr.num (qbJ m:Rat)*sr m:=by rw [qfR hm];grind
 have c1:si (qa1 l)=(Sr.num (qbJ l:Rat)*Sr.num ((co g (g.length - 1):Rat))⁻¹*A)*si g:=by rw [e1,h1,qq3 R.lz];grind
 have c2:si (qa1 m)=(Sr.num (qbJ m:Rat)*Sr.num ((co g (g.length - 1):Rat))⁻¹*B)*si g:=by rw [e2,h2,qq3 R.lz];grind
 have:=qxf R (((Sr.Pol.num _).mul (Sr.Pol.num _)).mul pA) (((Sr.Pol.num _).mul (Sr.Pol.num _)).mul pB) c1 c2
 exact ((this.dvd ((Sr.Pol.num _).mul (Sr.Pol.num _)) rfl).comm.dvd ((Sr.Pol.num _).mul (Sr.Pol.num _)) rfl).comm
theorem qwq {T B T' B' G Qd R tp S X G':Sr} {s:Rat} (s0:s≠0) (pT:Sr.Pol T) (pT':Sr.Pol T') (pQ:Sr.Pol Qd) (pR:Sr.Pol R) (pG:Sr.Pol G) (pS:Sr.Pol S) (pX:Sr.Pol X) (pG':Sr.Pol G') (hB:B=Qd*G) (hB':B'=R*G) (cQR:Sr.Cs Qd R) (c1:Sr.Cs T B) (c2:Sr.Cs T' B') (ht:tp=T*R+Sr.num s*(T'*Qd)) (hX:tp=X*S) (hG:G=G'*S) (cX:Sr.Cs X G'):Sr.Cs X (Qd*R*G'):=by
 have k1:Sr.Cs T Qd:=c1.dvd pG (by rw [hB];grind)
 have k2:Sr.Cs T' R:=c2.dvd pG (by rw [hB'];grind)
 have a1:Sr.Cs (T*R) Qd:=(k1.comm.mul pQ pT cQR).comm
 have a2:Sr.Cs tp Qd:=a1.add ((Sr.Pol.num s).mul pT') (by rw [ht];grind)
 have b1:Sr.Cs (T'*Qd) R:=(k2.comm.mul pR pT' cQR.comm).comm
 have b2:Sr.Cs (Sr.num s*(T'*Qd)) R:=by
  obtain ⟨U,W,pU,pW,e⟩:=b1
  have i:=Sr.num_inv s0
  exact ⟨U*Sr.num s⁻¹,W,pU.mul (Sr.Pol.num _),pW,by grind⟩
 have b3:Sr.Cs tp R:=b2.add pT (by rw [ht];grind)
 have x1:Sr.Cs X Qd:=(a2.comm.dvd pS (show tp=S*X by rw [hX];grind)).comm
 have x2:Sr.Cs X R:=(b3.comm.dvd pS (show tp=S*X by rw [hX];grind)).comm
 exact (x1.mul pX pQ x2).mul pX (pQ.mul pR) cX
theorem qu7 {l m:List Nu} {Y:Sr} (pY:Sr.Pol Y) (h:sr m=Y*sr l):MR (pwo l) (pwo m):=by
 obtain ⟨A,rfl⟩:=pY
 refine ⟨A,λk=>?_⟩
 have:=congrFun (congrArg Sr.c h) k
 rw [Sr.L_mul] at this
 exact this
theorem qxh {l m:List Nu} (h:MR (pwo l) (pwo m)):∃ Y,Sr.Pol Y/\sr m=Y*sr l:=by
 obtain ⟨A,hA⟩:=h
 refine ⟨Sr.L A,Sr.Pol.L A,?_⟩
 rw [Sr.L_mul]
 exact Sr.ext' hA
theorem qrd (h:qbM K vs H Q E):qsB K { nx:=λ_ H'=>Q .non H',rt:=Q } (L2.start ["F","G","shared","rest","top","spare"] vs) H:=by
 obtain ⟨p,q,T,B,T',B',b,n,m,e,rfl,⟨u,v,hp,Pu,Pv⟩,⟨u',v',hq,Pu',Pv'⟩,R1,R2,Z,k⟩:=h
 have Za:=Z.a
 have Zt:=Z.t
 have n1:=Zt.n1
 have n60:=Zt.n60
 have m60:=Za.m60
 have m50:=Z.m50
 have m1:=Za.m1
 have nt:n<2 ^ e:=by have:=Zt.ne;omega
 have A1:=R1.all nt Za.me ⋯ m60 Za.e6
 have A2:=R2.all nt Za.me ⋯ m60 Za.e6
 have b9:=Z.b9
 obtain ⟨zv,hv,nv⟩:=Pv
 obtain ⟨zv',hv',nv'⟩:=Pv'
 have:=A1.tn;have:=A1.bm;have:=A2.tn;have:=A2.bm
 have mm:max m m=m:=Nat.max_self m
 have lua:=Za.lu
 rw [mm] at lua
 refine qb0 (qip rfl hp rfl (qip rfl hq rfl (qjQ hv hv' nv nv' A1.gb A2.gb ⋯ ⋯ ⋯ ⋯ (λ_ _=>⟨A1.fb,A2.fb⟩) (d:=e) (by rw [wa6];have:=Za.me;omega) (N:=m+m) ⋯ ⋯ lua (λz _=>absurd z R1.lw.ne) λ_ g1 G1 P1 r1 z1 H1 s1 h1 n1'=>?_)))
 obtain ⟨Gg1,g10,lg1,M1,bg1,o1⟩:=qra R1.lw.lb R1.lw.nb R1.lw.ne A1.fb G1.lz G1.left P1
 have M1':MR (pwo (mnc g1)) (pwo B'):=MR.of (qfc G1.lz) (qdb R2.lw.lb) (qeX G1.lz) G1.right
 have lg1':0<(mnc g1).length:=waq.mpr g10
 obtain ⟨D,eD⟩:∃ D,D=b+m*(2*e+4):=⟨_,rfl⟩
 rw [<-eD] at Gg1 bg1 lua
 have mul9:m*(2*e+4)<=960:=wak (wbl m60 (show 2*e+4<=16 by have:=Za.e6;omega)) ∅
 have D9:D<=5960:=by omega
 have hq1:=s1 _ _ hq
 have hv1':=s1 _ _ hv'
 have DX:D<=2*b+e+1+max (n+m - 1) m*(2*e+4):=by have:=qx6 (2*b+e+1) (n+m - 1) m e;omega
 have mD:∀ x,x<=n+m - 1+m->x*D<=44490/\x*(D+1)<=44490:=λx hx=>by
  have h1:x*(D+1)<=(n+m - 1+m)*(2*b+e+1+max (n+m - 1) m*(2*e+4)+e+2):=wbl hx ⋯
  have h2:x*D<=x*(D+1):=wbt _ ⋯
  have h3:=Zt.lu
  rw [wbm] at h3
  omega
 have mB:=mD (B.length+1 - (mnc g1).length) ⋯
 have mB':=mD (B'.length+1 - (mnc g1).length) ⋯
 refine qb0 (qip rfl hq1 rfl (qan rfl (qc2 hv1' h1 (nv'.tp (tpS s1)) n1' A2.gb Gg1 g10 ⋯ ⋯ ⋯ ⋯ ⋯ ⋯ M1' λr2 R H2 s2 ⟨z2,h2,n2'⟩ lR nR lenR eR=>?_)))
 have GR:=(qj3 A2.gb lR nR A2.bm Za.me G1.lz P1 (bg1 _) G1.right eR).mono (b':=20000) (c':=11000) ⋯ ⋯
 have s02:=s1.trans s2
 have hp2:=s02 _ _ hp
 obtain ⟨zu2,hu2,nu2⟩:=Pu.same s02
 refine qb0 (qbs (qip rfl hp2 rfl (qan rfl (qdF hu2 h2 nu2 n2' A1.gt GR ⋯ ⋯ ⋯ ⋯ ⋯ ⋯ λr3 X1 H3 s3 ⟨z3,h3,n3⟩ G3 l3 e3=>?_))))
 have s03:=s02.trans s3
 have hp3:=s03 _ _ hp
 have hq3:=s03 _ _ hq
 have hv3:=s03 _ _ hv
 have h13:=(s2.trans s3) _ _ h1
 refine qbs (qip rfl hq3 rfl (qbs (qip rfl hp3 rfl (qan rfl (qc2 hv3 h13 (nv.tp (tpS s03)) (n1'.tp (tpS (s2.trans s3))) A1.gb Gg1 g10 ⋯ ⋯ ⋯ ⋯ ⋯ ⋯ M1 λr4 Qd H4 s4 ⟨z4,h4,n4⟩ lQ nQ lenQ eQ=>?_)))))
 have GQ:=(qj3 A1.gb lQ nQ A1.bm Za.me G1.lz P1 (bg1 _) G1.left eQ).mono (b':=20000) (c':=11000) ⋯ ⋯
 have s04:=s03.trans s4
 obtain ⟨zu4,hu4,nu4⟩:=Pu'.same s04
 refine qdF hu4 h4 nu4 n4 A2.gt GQ ⋯ ⋯ ⋯ ⋯ ⋯ ⋯ λr5 X2 H5 s5 ⟨z5,h5,n5⟩ G5 l5 e5=>?_
 have h35:=(s4.trans s5) _ _ h3
 have G3':=G3.mono (b':=32000) (c':=22000) ⋯ ⋯
 have G5':=G5.mono (b':=32000) (c':=22000) ⋯ ⋯
 obtain ⟨M,OM1,OM2,bM,q1,q2⟩:=qmL G3' G5'
 refine qxE h35 h5 (n3.tp (tpS (s4.trans s5))) n5 G3.low G5.low OM1 OM2 bM q1 q2 ⋯ ⋯ ⋯ ⋯ λr6 tp H6 s6 ⟨z6,h6,n6⟩ G6 l6 e6=>?_
 have tpl:tp.length<=n+m - 1:=by omega
 have s16:=((((s2.trans s3).trans s4).trans s5).trans s6)
 have h16:=s16 _ _ h1
 have oQ:=qb8 eQ
 have oR:=qb8 eR
 have ot:sr tp=sr T*sr R+Sr.num 1*(sr T'*sr Qd):=by
  rw [<-qb8 e3,<-qb8 e5]
  exact Sr.ext' λk=>by show pwo tp k=(sr X1).c k+(Sr.num 1*sr X2).c k;rw [Sr.num_mul];exact e6 k
 obtain ⟨N,DD,lD,tN,bN,bD,nN,nD,eqN⟩:=R1.rp
 obtain ⟨N',DD',lD',tN',bN',bD',nN',nD',eqN'⟩:=R2.rp
 obtain ⟨Y1,pY1,eD1,eN1⟩:=qdW R1.lw (qby N) (qby DD) eqN
 obtain ⟨Y2,pY2,eD2,eN2⟩:=qdW R2.lw (qby N') (qby DD') eqN'
 have Y10:Y1≠0:=λz=>qfd lD (by rw [eD1,z];grind)
 have Y20:Y2≠0:=λz=>qfd lD' (by rw [eD2,z];grind)
 have G0:=qci Gg1.low Gg1.nz g10
 have ftp:tp≠[]->Fp (2*b+e+1+max (n+m - 1) m*(2*e+4)) (qa1 tp):=λt0=>by
  obtain ⟨Zr,tz,ez,bz,lz⟩:=qmN (s:=1) (.inl rfl) bN bD bN' bD' nN nD nN' nD' nt nt (w:=n+m - 1) ⋯ ⋯
  have eZ:si Zr=(Y1*Y2*sr (mnc g1))*sr tp:=by rw [ez,eN1,eD2,eN2,eD1,ot,oQ,oR,show ((1:Int):Rat)=1 from rfl];grind
  have Z0:si Zr≠0:=by rw [eZ];exact Sr.ne_mul ((pY1.mul pY2).mul (qam _)) (qam tp) (Sr.ne_mul (pY1.mul pY2) (qam _) (Sr.ne_mul pY1 pY2 Y10 Y20) G0) (qci G6.low G6.nz t0)
  have lzZ:Lz Zr:=qeL tz λz=>Z0 (by rw [z,qq1 []];exact Sr.L_nil)
  have:=qsW G6.low lzZ bz lz Zt.ne ((pY1.mul pY2).mul (qam _)) eZ
  exact this.mono (by have:=qx5 (2*b+e+1) (n+m - 1) m e;omega)
 have fg1:Fp D (qa1 (mnc g1)):=qwp Gg1.low R1.lw.lb (qam Qd) oQ (by rw [eD];exact A1.fb)
 refine qb0 (qan rfl (qan rfl (qjQ (b:=60000) (c:=60000) h6 h16 n6 (n1'.tp (tpS s16)) (G6.mono ⋯ ⋯) (Gg1.mono ⋯ ⋯) ⋯ ⋯ ⋯ ⋯ (λt0 _=>⟨ftp t0,fg1.mono DX⟩) (d:=e) (by rw [wa6];have:=Zt.ne;have:=Zt.me;omega) (N:=n+m - 1+m) ⋯ ⋯ Zt.lu (λ_ z=>absurd z g10) λ_ g2 Rr P2 r7 z7 H7 s7 h7 n7=>?_)))
 obtain ⟨Gg2,g20,lg2,M2,bg2,o2⟩:=qra Gg1.low Gg1.nz g10 fg1 Rr.lz Rr.right P2
 have lg2':0<(mnc g2).length:=waq.mpr g20
 have M2':MR (pwo (mnc g2)) (pwo tp):=MR.of (qfc Rr.lz) (qdb G6.low) (qeX Rr.lz) Rr.left
 have h67:=s7 _ _ h6
 have m3:=mD (tp.length+1 - (mnc g2).length) ⋯
 refine qdu (qbm (qbs (qan rfl (qan rfl (qc2 h67 h7 (n6.tp (tpS s7)) n7 G6 Gg2 g20 ⋯ ⋯ ⋯ ⋯ ⋯ ⋯ M2' λr8 X H8 s8 PX lX nX lenX eX=>?_)))))
 have s08:=(((s04.trans s5).trans s6).trans s7).trans s8
 have s28:=((((s3.trans s4).trans s5).trans s6).trans s7).trans s8
 have hp8:=s08 _ _ hp
 have hv8:=s08 _ _ hv
 have h28:=s28 _ _ h2
 have h78:=s8 _ _ h7
 refine qbs (qbs (qip rfl hp8 rfl (qan rfl (qdF hv8 h28 (nv.tp (tpS s08)) (n2'.tp (tpS s28)) A1.gb GR ⋯ ⋯ ⋯ ⋯ ⋯ ⋯ λr9 Pb H9 s9 ⟨z9,h9,n9⟩ G9 l9 e9=>qan rfl ?_))))
 have h79:=s9 _ _ h78
 have m4:=mD (Pb.length+1 - (mnc g2).length) ⋯
 have oX:=qb8 eX
 have o9:=qb8 e9
 obtain ⟨G',pG',oG⟩:=qxh M2
 have M3:MR (pwo (mnc g2)) (pwo Pb):=qu7 (Y:=sr Qd*G'*sr R) (((qam _).mul pG').mul (qam _)) (by rw [o9,oQ,oG];grind)
 refine qc2 h9 h79 n9 (n7.tp (tpS (s8.trans s9))) G9 Gg2 g20 ⋯ ⋯ ⋯ ⋯ ⋯ ⋯ M3 λr10 Y H10 s10 PY lY nY lenY eY=>⟨qcP,λwt hwt=>?_⟩
 have st:=qaf hwt (.tup [.ref r8,.ref r10])
 have oY:=qb8 eY
 have S0:=qci Gg2.low Gg2.nz g20
 have cQR:=qu6 R1.lw.lb R2.lw.lb G1 (qam Qd) (qam R) oQ oR
 have cXG:=qu6 G6.low Gg1.low Rr (qam X) pG' oX oG
 have eYY:sr Y=sr Qd*sr R*G':=by
  refine Sr.cancel (qam Y) (((qam _).mul (qam _)).mul pG') (qam (mnc g2)) S0 ?_
  rw [<-oY,o9,oQ,oG];grind
 have cs:=qwq (s:=1) ∅ (qam T) (qam T') (qam Qd) (qam R) (qam (mnc g1)) (qam (mnc g2)) (qam X) pG' oQ oR cQR R1.lw.cs R2.lw.cs ot oX oG cXG
 rw [<-eYY] at cs
 have R0:R≠[]:=λz=>by
  have:=eR (B'.length - 1)
  rw [z] at this
  exact qbp R2.lw.lb R2.lw.nb R2.lw.ne this
 have lr:=qeo R2.lw.lb R2.lw.nb lR nR R0 Gg1.low Gg1.nz g10 eR
 have lp:=qeo G9.low G9.nz R1.lw.lb R1.lw.nb R1.lw.ne lR nR R0 e9
 have Y0:Y≠[]:=λz=>by
  have:=eY (Pb.length - 1)
  rw [z] at this
  exact qbp G9.low G9.nz lp.2.2 this
 have ly:=qeo G9.low G9.nz lY nY Y0 Gg2.low Gg2.nz g20 eY
 have oneR:pwo R (R.length - 1)=1:=by
  have:=lr.2.1
  rw [qjg R2.lw.one,o1] at this
  grind
 have oneY:pwo Y (Y.length - 1)=1:=by
  have h1:=ly.2.1
  have h2:=lp.2.1
  rw [qjg R1.lw.one,oneR] at h2
  rw [o2,h2] at h1
  grind
 refine k wt _ X Y (((s08.trans s9).trans s10).trans st) ⟨r8,r10,upd_same,((PX.same s9).same s10).same st,PY.same st⟩ ⟨lX,lY,nX,nY,Y0,qtQ lY oneY,cs⟩ ?_
 have w1:sr X*(sr B*sr B')=sr Qd*sr R*sr (mnc g1)*(sr X*sr (mnc g1)):=by rw [oQ,oR];grind
 have w2:sr X*sr (mnc g1)=sr tp*G':=by rw [oX,oG];grind
 rw [w1,w2,eYY,ot,oQ,oR];grind
theorem Rp.neg {b n m:Nat} {T B X:List Nu} (h:Rp b n m T B) (lx:qap X) (nx:Nz X) (e:sr X=Sr.num (-1)*sr T):Rp b n m X B:=by
 obtain ⟨N,D,lD,tN,bN,bD,nN,nD,eq⟩:=h.rp
 have cs:Sr.Cs (sr X) (sr B):=by
  obtain ⟨U,W,pU,pW,q⟩:=h.lw.cs
  refine ⟨U*Sr.num (-1),W,pU.mul (Sr.Pol.num _),pW,?_⟩
  have i:Sr.num (-1)*Sr.num (-1)=1:=by rw [Sr.num_num,show (-1:Rat) * -1=1 by grind,Sr.num_one]
  rw [e];grind
 refine ⟨h.lw.bot X lx nx cs,N.map (-1*·),D,lD,?_,λz hz=>?_,bD,by rw [waa];exact nN,nD,?_⟩
 ·rcases tN with z | z
  ·left;rw [z];rfl
  ·right;rw [waa,qen];omega
 ·obtain ⟨y,hy,rfl⟩:=wai.mp hz
  have:=(bN y hy).neg
  rw [show -1*y = -y by omega];exact this
 ·rw [qge,e,show (((-1:Int)):Rat) = -1 from rfl]
  have:Sr.num (-1)*sr T*si D=Sr.num (-1)*(sr T*si D):=by grind
  rw [this,eq];grind
theorem qsX {B S':List Nu} {x m e:Nat} (lB:qap B) (nB:Nz B) (B0:B≠[]) (F:Fp x (qa1 B)) (bm:B.length<=m) (me:m<2 ^ e) (m31:m<=31) (lS:qap S') (nS:Nz S') (S0:S'≠[]) (eS:sr S'=Sr.D (sr B)):Fp (x+6+m*(2*e+4)) (qa1 S'):=by
 obtain ⟨y,P,y0,eB,pP,lP,pl⟩:=qq6 lB nB B0
 have B1:=qaI (wad (qbi lB).1)
 have i1:=Sr.num_inv B1
 have e1:si (qa1 B)=Sr.num (qbJ B:Rat)*sr B:=by rw [qfR lB];grind
 have bP:=F P lP pP (qq5 ((Sr.Pol.num (qbJ B:Rat)).mul (Sr.Pol.num y)) (by rw [e1,eB];grind))
 have eD:sr S'=Sr.num y*si (dI P):=by
  rw [eS,eB,Sr.D_num,qxe]
 obtain ⟨Z,tz,hz,bz,lz⟩:=qrb (F:=co (dI P)) (w:=m) (x:=x+6) (λk hk=>qaD (by rw [qq2];omega)) (λk=>by
  rw [qwl]
  rcases waj (k+1) 64 with c | c
  ·have:Bd 6 (((k+1:Nat):Int)):=by unfold Bd;omega
   have:=this.mul (bP (k+1))
   rw [show 6+x=x+6 by omega] at this;exact this
  ·rw [qaD ⋯,Int.mul_zero];exact qbU _)
 have eZ:si Z=si (dI P):=by unfold si;congr 1;funext k;rw [hz]
 have y1:=Sr.num_inv y0
 have eZ2:si Z=Sr.num y⁻¹*sr S':=by rw [eZ,eD];grind
 have Z0:si Z≠0:=λz=>by
  have:=qci lS nS S0
  exact this (by rw [eD,<-eZ,z];grind)
 exact qsW lS (qeL tz λz=>Z0 (by rw [z,qq1 []];exact Sr.L_nil)) bz lz me (Sr.Pol.num _) eZ2
theorem qoH (h:qc1 K vs H Q E):qqA K { nx:=λ_ H'=>Q .non H',rt:=Q } (L2.start ["F","slope","shared","rest","top"] vs) H:=by
 obtain ⟨p,T,B,b,n,m,e,rfl,⟨u,v,hp,⟨zu,hu,nu⟩,⟨zv,hv,nv⟩⟩,Rr,Z,Zm,b9,n31,m31,k⟩:=h
 have A1:=Rr.all Z.ne Z.me Z.n60 Z.m60 Z.e6
 have tn:=A1.tn
 have bm:=A1.bm
 have n1:=Z.n1
 have m1:=Z.m1
 refine qcn (qip rfl hp rfl ?_)
 refine qlj hv nv A1.gb ⋯ ⋯ ⋯ (λr1 S' H1 s1 ⟨z1,h1,n1'⟩ G1 l1 e1=>?_)
 have oS:=qxc e1
 have hp1:=s1 _ _ hp
 have hv1:=s1 _ _ hv
 have mm:max m m=m:=Nat.max_self m
 have lum:=Zm.lu
 rw [mm] at lum
 obtain ⟨X,eX⟩:∃ X,X=b+m*(2*e+4)+6+m*(2*e+4):=⟨_,rfl⟩
 rw [<-eX] at lum
 have fS:S'≠[]->Fp X (qa1 S'):=λh=>by rw [eX];exact qsX Rr.lw.lb Rr.lw.nb Rr.lw.ne A1.fb bm Z.me m31 G1.low G1.nz h oS
 have fB:Fp X (qa1 B):=A1.fb.mono ⋯
 refine qb0 (qip rfl hp1 rfl (qan rfl ?_))
 refine qjQ (b:=20000) (c:=20000) hv1 h1 (nv.tp (tpS s1)) n1' (A1.gb.mono ⋯ ⋯) (G1.mono ⋯ ⋯) ⋯ ⋯ ⋯ ⋯ (λ_ h=>⟨fB,fS h⟩) (d:=e) (by rw [wa6];have:=Z.me;omega) (N:=m+m) ⋯ ⋯ lum (λz _=>absurd z Rr.lw.ne) (λ_ g1 R1 P1 r2 z2 H2 s2 h2 n2'=>?_)
 obtain ⟨Gg,g0,lg,M1,bg,o1⟩:=qra Rr.lw.lb Rr.lw.nb Rr.lw.ne A1.fb R1.lz R1.left P1
 have lg0:0<(mnc g1).length:=waq.mpr g0
 have M2:MR (pwo (mnc g1)) (pwo S'):=MR.of (qfc R1.lz) (qdb G1.low) (qeX R1.lz) R1.right
 obtain ⟨D,eD⟩:∃ D,D=b+m*(2*e+4):=⟨_,rfl⟩
 rw [<-eD] at Gg bg
 have mul9:m*(2*e+4)<=31*16:=wbl m31 (show 2*e+4<=16 by have:=Z.e6;omega)
 have D9:D<=5500:=by omega
 have mD:∀ x,x<=40->x*D<=300000/\x*(D+1)<=300000:=λx hx=>by
  have h1:x*(D+1)<=40*5501:=wbl hx ⋯
  have h2:x*D<=x*(D+1):=wbt _ ⋯
  omega
 have mB:=mD (B.length+1 - (mnc g1).length) ⋯
 have mS:=mD (S'.length+1 - (mnc g1).length) ⋯
 have s02:=s1.trans s2
 have hp2:=s02 _ _ hp
 have hv2:=s02 _ _ hv
 refine qb0 (qip rfl hp2 rfl (qan rfl ?_))
 refine qc2 hv2 h2 (nv.tp (tpS s02)) n2' A1.gb Gg g0 ⋯ ⋯ ⋯ ⋯ ⋯ ⋯ M1 (λr3 R H3 s3 ⟨z3,h3,n3⟩ lR nR lenR eR=>?_)
 have GR:=(qj3 A1.gb lR nR bm Z.me R1.lz P1 (bg _) R1.left eR).mono (b':=20000) (c':=11000) ⋯ ⋯
 have s03:=s02.trans s3
 have hp3:=s03 _ _ hp
 have hu3:=s03 _ _ hu
 refine qb0 (qbs (qco (qip rfl hp3 rfl ?_)))
 refine qlj hu3 (nu.tp (tpS s03)) A1.gt ⋯ ⋯ ⋯ (λr4 T' H4 s4 ⟨z4,h4,n4⟩ G4 l4 e4=>?_)
 have oT:=qxc e4
 have h34:=s4 _ _ h3
 refine qan rfl ?_
 refine qdF h4 h34 n4 (n3.tp (tpS s4)) G4 GR ⋯ ⋯ ⋯ ⋯ ⋯ ⋯ (λr5 X1 H5 s5 ⟨z5,h5,n5⟩ G5 l5 e5=>?_)
 have s35:=s4.trans s5
 have s05:=s03.trans s35
 have hp5:=s05 _ _ hp
 have hu5:=s05 _ _ hu
 have h15:=((s2.trans s3).trans s35) _ _ h1
 have h25:=(s3.trans s35) _ _ h2
 refine qbs (qip rfl hp5 rfl (qbs (qan rfl (qan rfl ?_))))
 refine qc2 h15 h25 (n1'.tp (tpS ((s2.trans s3).trans s35))) (n2'.tp (tpS (s3.trans s35))) G1 Gg g0 ⋯ ⋯ ⋯ ⋯ ⋯ ⋯ M2 (λr6 E' H6 s6 ⟨z6,h6,n6⟩ lE nE lenE eE=>?_)
 have GE:=(qj3 G1 lE nE (show S'.length<=m by omega) Z.me R1.lz P1 (bg _) R1.right eE).mono (b':=20000) (c':=11000) ⋯ ⋯
 have s06:=s05.trans s6
 have hu6:=s06 _ _ hu
 refine qdF hu6 h6 (nu.tp (tpS s06)) n6 A1.gt GE ⋯ ⋯ ⋯ ⋯ ⋯ ⋯ (λr7 X2 H7 s7 ⟨z7,h7,n7⟩ G7 l7 e7=>?_)
 have h57:=(s6.trans s7) _ _ h5
 have G5':=G5.mono (b':=40000) (c':=30000) ⋯ ⋯
 have G7':=G7.mono (b':=40000) (c':=30000) ⋯ ⋯
 obtain ⟨M,OM1,OM2,bM,q1,q2⟩:=qmL G5' G7'
 refine qxE h57 h7 (n5.tp (tpS (s6.trans s7))) n7 G5.low G7.low OM1 OM2 bM q1 q2 ⋯ ⋯ ⋯ ⋯ (λr8 tp H8 s8 P8 G8 l8 e8=>?_)
 have s08:=(s06.trans s7).trans s8
 have hp8:=s08 _ _ hp
 have hv8:=s08 _ _ hv
 have h38:=(((s35.trans s6).trans s7).trans s8) _ _ h3
 refine qdu (qbm (qan rfl (qbs (qip rfl hp8 rfl (qan rfl ?_)))))
 refine qdF hv8 h38 (nv.tp (tpS s08)) (n3.tp (tpS (((s35.trans s6).trans s7).trans s8))) A1.gb GR ⋯ ⋯ ⋯ ⋯ ⋯ ⋯ (λr9 Y H9 s9 P9 G9 l9 e9=>⟨qcP,λw hw=>?_⟩)
 have sw:=qaf hw (.tup [.ref r8,.ref r9])
 have oR:=qb8 eR
 have oE:=qb8 eE
 have o5:=qb8 e5
 have o7:=qb8 e7
 have o9:=qb8 e9
 have o8:sr tp=Sr.D (sr T)*sr R - sr T*sr E':=by
  rw [<-oT,<-o5,<-o7]
  exact Sr.ext' λk=>by rw [Sr.sub_c];have:=e8 k;show pwo tp k=pwo X1 k - pwo X2 k;grind
 have cRE:=qu6 Rr.lw.lb G1.low R1 (qam R) (qam E') oR oE
 have key:=Sr.slope_cop (qam T) (qam B) (qam (mnc g1)) (qam R) (qam E') (qci Rr.lw.lb Rr.lw.nb Rr.lw.ne) (by rw [oR];grind) (by rw [<-oS,oE];grind) cRE Rr.lw.cs
 rw [<-o8,<-o9] at key
 have R0:R≠[]:=λz=>by
  have:=eR (B.length - 1)
  rw [z] at this
  exact qbp Rr.lw.lb Rr.lw.nb Rr.lw.ne this
 have lr:=qeo Rr.lw.lb Rr.lw.nb lR nR R0 Gg.low Gg.nz g0 eR
 have ly:=qeo G9.low G9.nz Rr.lw.lb Rr.lw.nb Rr.lw.ne lR nR R0 e9
 have oneY:pwo Y (Y.length - 1)=1:=by
  have h1:=lr.2.1
  have h2:=ly.2.1
  rw [qjg Rr.lw.one] at h1 h2
  rw [o1] at h1
  rw [h2]
  grind
 refine k w _ tp Y ((s08.trans s9).trans sw) ⟨r8,r9,upd_same,(P8.same s9).same sw,P9.same sw⟩ ⟨G8.low,G9.low,G8.nz,G9.nz,ly.2.2,qtQ G9.low oneY,key⟩ ?_
 rw [o8,o9,<-oS,oE]
 have a1:(Sr.D (sr T)*sr R - sr T*sr E')*(sr B*sr B)=sr B*(Sr.D (sr T)*sr R*sr B - sr T*sr E'*sr B):=by grind
 have a2:(sr B*Sr.D (sr T) - sr T*(sr E'*sr (mnc g1)))*(sr B*sr R)=sr B*(Sr.D (sr T)*sr R*sr B - sr T*sr E'*(sr R*sr (mnc g1))):=by grind
 rw [a1,a2,<-oR]
theorem Rp.mono {b n m b' n' m':Nat} {T B:List Nu} (h:Rp b n m T B) (h1:b<=b') (h2:n<=n') (h3:m<=m'):Rp b' n' m' T B:=by
 obtain ⟨N,D,lD,tN,bN,bD,nN,nD,eq⟩:=h.rp
 exact ⟨h.lw,N,D,lD,tN,λz hz=>(bN z hz).mono h1,λz hz=>(bD z hz).mono h1,⋯,⋯,eq⟩
theorem qsY {Z:List Int} (t:Tz Z) (h:si Z≠0):Lz Z:=qeL t λz=>h (by rw [z,qq1 []];exact Sr.L_nil)
theorem Rp.open {b n m:Nat} {T B:List Nu} (h:Rp b n m T B):∃ (N D:List Int) (Y:Sr),Lz D/\(∀ z∈N,Bd b z)/\(∀ z∈D,Bd b z)/\N.length<=n/\D.length<=m/\Sr.Pol Y/\Y≠0/\si D=Y*sr B/\si N=Y*sr T:=by
 obtain ⟨N,D,lD,tN,bN,bD,nN,nD,eq⟩:=h.rp
 obtain ⟨Y,pY,eD,eN⟩:=qdW h.lw (qby N) (qby D) eq
 exact ⟨N,D,Y,lD,bN,bD,nN,nD,pY,λz=>qfd lD (by rw [eD,z];grind),eD,eN⟩
theorem Rp.sum {b n m b' n' m' e w:Nat} {s:Int} (hs:s=1\/s = -1) {T B T' B' X Y:List Nu} (h:Rp b n m T B) (h':Rp b' n' m' T' B') (l:Lw X Y) (eq:sr X*(sr B*sr B')=(sr T*sr B'+Sr.num (s:Rat)*sr T'*sr B)*sr Y) (ne:n<2 ^ e) (ne':n'<2 ^ e) (me:m<2 ^ e) (w1:n+m'<=w+1) (w2:n'+m<=w+1):Rp (b+b'+e+1) w (m+m' - 1) X Y:=by
 obtain ⟨N,D,Y1,lD,bN,bD,nN,nD,pY1,Y10,eD,eN⟩:=h.open
 obtain ⟨N',D',Y2,lD',bN',bD',nN',nD',pY2,Y20,eD',eN'⟩:=h'.open
 obtain ⟨Z,tz,ez,bz,lz⟩:=qmN hs bN bD bN' bD' nN nD nN' nD' ne ne' w1 w2
 obtain ⟨W,tw,ew,bw,lw⟩:=qgf bD bD' nD nD' me
 have W0:si W≠0:=by rw [ew];exact Sr.ne_mul (qby D) (qby D') (qfd lD) (qfd lD')
 refine ⟨l,Z,W,qsY tw W0,tz,bz,λz hz=>(bw z hz).mono ⋯,lz,lw,?_⟩
 rw [ez,ew,eD,eD',eN,eN']
 have:sr X*(Y1*sr B*(Y2*sr B'))=Y1*Y2*(sr X*(sr B*sr B')):=by grind
 rw [this,eq];grind
theorem Rp.mul {b n m b' n' m' e:Nat} {T B T' B' X Y:List Nu} (h:Rp b n m T B) (h':Rp b' n' m' T' B') (l:Lw X Y) (eq:sr X*(sr B*sr B')=sr T*sr T'*sr Y) (ne:n<2 ^ e) (me:m<2 ^ e):Rp (b+b'+e) (n+n' - 1) (m+m' - 1) X Y:=by
 obtain ⟨N,D,Y1,lD,bN,bD,nN,nD,pY1,Y10,eD,eN⟩:=h.open
 obtain ⟨N',D',Y2,lD',bN',bD',nN',nD',pY2,Y20,eD',eN'⟩:=h'.open
 obtain ⟨Z,tz,ez,bz,lz⟩:=qgf bN bN' nN nN' ne
 obtain ⟨W,tw,ew,bw,lw⟩:=qgf bD bD' nD nD' me
 have W0:si W≠0:=by rw [ew];exact Sr.ne_mul (qby D) (qby D') (qfd lD) (qfd lD')
 refine ⟨l,Z,W,qsY tw W0,tz,bz,bw,lz,lw,?_⟩
 rw [ez,ew,eD,eD',eN,eN']
 have:sr X*(Y1*sr B*(Y2*sr B'))=Y1*Y2*(sr X*(sr B*sr B')):=by grind
 rw [this,eq];grind
theorem Rp.over {b n m b' n' m' e:Nat} {T B T' B' X Y:List Nu} (h:Rp b n m T B) (h':Rp b' n' m' T' B') (T0:T'≠[]) (l:Lw X Y) (eq:sr X*(sr B*sr T')=sr T*sr B'*sr Y) (ne:n<2 ^ e) (me:m<2 ^ e):Rp (b+b'+e) (n+m' - 1) (m+n' - 1) X Y:=by
 obtain ⟨N,D,Y1,lD,bN,bD,nN,nD,pY1,Y10,eD,eN⟩:=h.open
 obtain ⟨N',D',Y2,lD',bN',bD',nN',nD',pY2,Y20,eD',eN'⟩:=h'.open
 obtain ⟨Z,tz,ez,bz,lz⟩:=qgf bN bD' nN nD' ne
 obtain ⟨W,tw,ew,bw,lw⟩:=qgf bD bN' nD nN' me
 have N0:si N'≠0:=by rw [eN'];exact Sr.ne_mul pY2 (qam T') Y20 (qci h'.lw.lt h'.lw.nt T0)
 have W0:si W≠0:=by rw [ew];exact Sr.ne_mul (qby D) (qby N') (qfd lD) N0
 refine ⟨l,Z,W,qsY tw W0,tz,bz,bw,lz,lw,?_⟩
 rw [ez,ew,eD,eD',eN,eN']
 have:sr X*(Y1*sr B*(Y2*sr T'))=Y1*Y2*(sr X*(sr B*sr T')):=by grind
 rw [this,eq];grind
theorem qtS:Sr.num ((-1:Int):Rat) = -1:=by
 have h2:Sr.num ((-1:Int):Rat)+Sr.num 1=0:=Sr.ext' λk=>by
  show ((-1:Int):Rat)*qca k+1*qca k=(0:Sr).c k
  rw [Sr.zero_c,show (((-1:Int)):Rat) = -1 from rfl];grind
 rw [Sr.num_one] at h2;grind
theorem qtT {N:List Int} {b:Nat} (bN:∀ z∈N,Bd b z) (nl:N.length<=64):∀ z∈dI N,Bd (b+6) z:=λz hz=>by
 obtain ⟨k,hk,rfl⟩:=wai.mp hz
 have hk:=List.mem_range.mp hk
 have h1:Bd 6 (((k+1:Nat):Int)):=by unfold Bd;omega
 have:=h1.mul (qbE bN (k+1))
 rw [show 6+b=b+6 by omega] at this;exact this
theorem Rp.slope {b n m e:Nat} {T B X Y:List Nu} (h:Rp b n m T B) (l:Lw X Y) (eq:sr X*(sr B*sr B)=(sr B*Sr.D (sr T) - sr T*Sr.D (sr B))*sr Y) (ne:n<2 ^ e) (me:m<2 ^ e) (n64:n<=64) (m64:m<=64):Rp (b+b+e+7) (n+m - 1) (m+m - 1) X Y:=by
 obtain ⟨N,D,Y1,lD,bN,bD,nN,nD,pY1,Y10,eD,eN⟩:=h.open
 obtain ⟨Z,tz,ez,bz,lz⟩:=qmN (s:=-1) (.inr rfl) (N:=dI N) (D':=D) (N':=N) (D:=dI D) (qtT bN ⋯) (qtT bD ⋯) bN bD (n:=n) (m:=m) (n':=n) (m':=m) (by rw [qq2];omega) (by rw [qq2];omega) nN nD ne ne (w:=n+m - 1) ⋯ ⋯
 obtain ⟨W,tw,ew,bw,lw⟩:=qgf bD bD nD nD me
 have W0:si W≠0:=by rw [ew];exact Sr.ne_mul (qby D) (qby D) (qfd lD) (qfd lD)
 refine ⟨l,Z,W,qsY tw W0,tz,λz hz=>(bz z hz).mono ⋯,λz hz=>(bw z hz).mono ⋯,lz,lw,?_⟩
 have i1:Sr.num ((-1:Int):Rat) = -1:=qtS
 have eZ:si Z=Y1*Y1*(sr B*Sr.D (sr T) - sr T*Sr.D (sr B)):=by
  rw [ez,qxe,qxe,eN,eD,Sr.D_mul pY1,Sr.D_mul pY1,i1];grind
 rw [eZ,ew,eD]
 have:sr X*(Y1*sr B*(Y1*sr B))=Y1*Y1*(sr X*(sr B*sr B)):=by grind
 rw [this,eq];grind
theorem Rp.of {b c b' c' n k x:Nat} {l m T B:List Nu} (L:Lw T B) (Gl:Gq b c l) (Gm:Gq b' c' m) (m0:m≠[]) (ln:l.length<=n) (mn:m.length<=k) (eq:sr T*sr m=sr l*sr B) (x1:b+c'<=x) (x2:b'+c<=x):Rp x n k T B:=by
 have bl:=Gl.clr
 have bm:=Gm.clr
 have lm:=qq9 Gm.low Gm.nz m0
 have z1:=(qbi Gl.low).1
 have z2:=(qbi Gm.low).1
 have i1:=Sr.num_inv (qaI (wad z1))
 have i2:=Sr.num_inv (qaI (wad z2))
 have e1:si (qa1 l)=Sr.num (qbJ l:Rat)*sr l:=by rw [qfR Gl.low];grind
 have e2:si (qa1 m)=Sr.num (qbJ m:Rat)*sr m:=by rw [qfR Gm.low];grind
 refine ⟨L,(qa1 l).map (qbJ m*·),(qa1 m).map (qbJ l*·),⟨by rw [waa];exact lm.1,by rw [waa,qen];exact was (wad z1) lm.2⟩,?_,λz hz=>?_,λz hz=>?_,by rw [waa,qaW];exact ln,by rw [waa,qaW];exact mn,by rw [qge,qge,e1,e2];grind⟩
 ·rcases qdV Gl.low Gl.nz with h | h
  ·left;rw [h];rfl
  ·right;rw [waa,qen];exact was (wad z2) h
 ·obtain ⟨y,hy,rfl⟩:=wai.mp hz
  exact ((bm.2.1).mul (bl.1 y hy)).mono ⋯
 ·obtain ⟨y,hy,rfl⟩:=wai.mp hz
  exact ((bl.2.1).mul (bm.1 y hy)).mono ⋯
theorem Lw.uniq {X Y X' Y':List Nu} (h:Lw X Y) (h':Lw X' Y') (eq:sr X*sr Y'=sr X'*sr Y):X=X'/\Y=Y':=by
 obtain ⟨f,pf,f1,_⟩:=qdW h (qam X') (qam Y') eq
 obtain ⟨g,pg,g1,_⟩:=qdW h' (qam X) (qam Y) eq.symm
 have hY:Y=Y':=qsS h.lb h'.lb h.nb h'.nb h.ne h'.ne h.one h'.one (qu7 pf f1) (qu7 pg g1)
 subst hY
 exact ⟨qtR h.lt h'.lt h.nt h'.nt (Sr.cancel (qam X) (qam X') (qam Y) (qci h.lb h.nb h.ne) eq),rfl⟩
theorem Lw.uniq' {X Y X' Y':List Nu} {Z:Sr} (h:Lw X Y) (h':Lw X' Y') (pZ:Sr.Pol Z) (Z0:Z≠0) (eq:sr X*sr Y'*Z=sr X'*sr Y*Z):X=X'/\Y=Y':=h.uniq h' (Sr.cancel ((qam X).mul (qam Y')) ((qam X').mul (qam Y)) pZ Z0 eq)
noncomputable def qtU (T B:List Nu):PySem.W.Dat:=.tuple [qiu T,qiu B]
theorem qxH {H:Hp} {p:Addr} {T B:List Nu} (h:FF H p T B):RepD H (.ref p) (qtU T B):=by
 obtain ⟨u,v,hp,⟨zu,hu,nu⟩,⟨zv,hv,nv⟩⟩:=h
 exact .tup hp (.cons (qtD hu nu) (.cons (qtD hv nv) .nil))
theorem okF (T B:List Nu) (n:Nat):PySem.W.kqdOk (n+3) (qtU T B)=true:=by
 simp only [qtU,PySem.W.kqdOk,List.all_cons,List.all_nil,okP,Bool.and_self]
structure Wt (X Y:List Nu) (N D:Sr):Prop where
 pN:Sr.Pol N
 pD:Sr.Pol D
 D0:D≠0
 eq:sr X*D=N*sr Y
noncomputable def Fx (H:Hp) (p:Addr) (b n m:Nat) (N D:Sr):Prop:=∃ T B,FF H p T B/\Rp b n m T B/\Wt T B N D
theorem Wt.self {T B:List Nu} (h:Lw T B):Wt T B (sr T) (sr B):=⟨qam T,qam B,qci h.lb h.nb h.ne,rfl⟩
theorem Fx.same {H H':Hp} {p:Addr} {b n m:Nat} {N D:Sr} (h:Fx H p b n m N D) (s:Same H H'):Fx H' p b n m N D:=let ⟨T,B,f,r⟩:=h;⟨T,B,f.same s,r⟩
theorem qh7 {H:Hp} {p:Addr} {b n m:Nat} {T B:List Nu} (f:FF H p T B) (r:Rp b n m T B):Fx H p b n m (sr T) (sr B):=⟨T,B,f,r,Wt.self r.lw⟩
noncomputable instance (x n m e:Nat):Decidable (C0 x n m e):=decidable_of_iff (1<=n/\1<=m/\n<=60/\m<=60/\n<2 ^ e/\m<2 ^ e/\e<=6/\(x+e+2)*(n+m)<=44490) ⟨λ⟨a,b,c,d,e,f,g,h⟩=>⟨a,b,c,d,e,f,g,h⟩,λ⟨a,b,c,d,e,f,g,h⟩=>⟨a,b,c,d,e,f,g,h⟩⟩
noncomputable instance (b n m e:Nat):Decidable (C2 b n m e):=decidable_of_iff (C1 b m m e/\C1 (2*b+e+1) (n+m - 1) m e/\b<=5000/\m<=50) ⟨λ⟨a,b,c,d⟩=>⟨a,b,c,d⟩,λ⟨a,b,c,d⟩=>⟨a,b,c,d⟩⟩
theorem qwr {K:W.Frag} {H:Hp} {Q:VK} {E:XK} {p q:Addr} {s:Int} {b n m b' n' m':Nat} {N D N' D':Sr} (hs:s=1\/s = -1) (f:Fx H p b n m N D) (g:Fx H q b' n' m' N' D') (e:Nat) (Z:C2 (max b b') (max n n') (max m m') e/\n<2 ^ e/\n'<2 ^ e/\m<2 ^ e)
  (k:∀ t H',Same H H'->Fx H' t (b+b'+e+1) (max (n+m' - 1) (n'+m - 1)) (m+m' - 1) (N*D'+Sr.num (s:Rat)*N'*D) (D*D')->Q (.ref t) H'):qnt (s:Rat) K [.ref p,.ref q] H Q E:=by
 obtain ⟨T,B,F,R,W⟩:=f
 obtain ⟨T',B',F',R',W'⟩:=g
 refine ⟨p,q,T,B,T',B',max b b',max n n',max m m',e,rfl,F,F',R.mono ⋯ ⋯ ⋯,R'.mono ⋯ ⋯ ⋯,Z.1,λt H' X Y s1 ff lw eq=>k t H' s1 ⟨X,Y,ff,R.sum hs R' lw eq Z.2.1 Z.2.2.1 Z.2.2.2 ⋯ ⋯,?_⟩⟩
 refine ⟨(W.pN.mul W'.pD).add (((Sr.Pol.num _).mul W'.pN).mul W.pD),W.pD.mul W'.pD,Sr.ne_mul W.pD W'.pD W.D0 W'.D0,?_⟩
 refine Sr.cancel ((qam X).mul (W.pD.mul W'.pD)) (((W.pN.mul W'.pD).add (((Sr.Pol.num _).mul W'.pN).mul W.pD)).mul (qam Y)) ((qam B).mul (qam B')) (Sr.ne_mul (qam B) (qam B') (qci R.lw.lb R.lw.nb R.lw.ne) (qci R'.lw.lb R'.lw.nb R'.lw.ne)) ?_
 have e1:sr X*(D*D')*(sr B*sr B')=sr X*(sr B*sr B')*(D*D'):=by grind
 have e2:=W.eq
 have e3:=W'.eq
 have e4:(sr T*sr B'+Sr.num (s:Rat)*sr T'*sr B)*sr Y*(D*D')=(sr T*D*(sr B'*D')+Sr.num (s:Rat)*(sr T'*D')*(sr B*D))*sr Y:=by grind
 rw [e1,eq,e4,e2,e3];grind
theorem qh8 {K:W.Frag} {H:Hp} {Q:VK} {E:XK} {p q:Addr} {b n m b' n' m':Nat} {N D N' D':Sr} (f:Fx H p b n m N D) (g:Fx H q b' n' m' N' D') (e:Nat) (Z:C2 (max b b') (max n n') (max m m') e/\n<2 ^ e/\n'<2 ^ e/\m<2 ^ e)
  (k:∀ t H',Same H H'->Fx H' t (b+b'+e+1) (max (n+m' - 1) (n'+m - 1)) (m+m' - 1) (N*D'+N'*D) (D*D')->Q (.ref t) H'):qbM K [.ref p,.ref q] H Q E:=
 qwr (s:=1) (.inl rfl) f g e Z λt H' s1 h=>k t H' s1 (by
  rw [show Sr.num ((1:Int):Rat)=1 from Sr.num_one,show (1:Sr)*N'*D=N'*D by grind] at h;exact h)
theorem Wt.ne {T B:List Nu} {N D:Sr} (h:Wt T B N D) (l:Lw T B) (N0:N≠0):T≠[]:=λz=>by
 have e:=h.eq
 have t0:sr T=0:=by rw [z];exact Sr.ext' λk=>by rw [Sr.zero_c];exact qa0 (wae _)
 rw [t0] at e
 exact Sr.ne_mul h.pN (qam B) N0 (qci l.lb l.nb l.ne) (by rw [<-e];grind)
theorem qnK {K:W.Frag} {H:Hp} {Q:VK} {E:XK} {p:Addr} {b n m:Nat} {N D:Sr} (f:Fx H p b n m N D) (e:Nat) (Z:C1 b n m e/\C1 (b+m*(2*e+4)+6) m m e/\b<=5000/\n<=31/\m<=31)
  (k:∀ t H',Same H H'->Fx H' t (b+b+e+7) (n+m - 1) (m+m - 1) (D*Sr.D N - N*Sr.D D) (D*D)->Q (.ref t) H'):qc1 K [.ref p] H Q E:=by
 obtain ⟨T,B,F,R,W⟩:=f
 obtain ⟨Z1,Z2,Z3,Z4,Z5⟩:=Z
 refine ⟨p,T,B,b,n,m,e,rfl,F,R,Z1,Z2,Z3,Z4,Z5,λt H' X Y s1 ff lw eq=>k t H' s1 ⟨X,Y,ff,R.slope lw eq Z1.ne Z1.me ⋯ ⋯,?_⟩⟩
 refine ⟨(W.pD.mul W.pN.D).sub (W.pN.mul W.pD.D),W.pD.mul W.pD,Sr.ne_mul W.pD W.pD W.D0 W.D0,?_⟩
 have B0:=qci R.lw.lb R.lw.nb R.lw.ne
 have e2:=W.eq
 have e3:Sr.D (sr T)*D+sr T*Sr.D D=Sr.D N*sr B+N*Sr.D (sr B):=by rw [<-Sr.D_mul (qam T),<-Sr.D_mul W.pN,e2]
 refine Sr.cancel ((qam X).mul (W.pD.mul W.pD)) (((W.pD.mul W.pN.D).sub (W.pN.mul W.pD.D)).mul (qam Y)) (((qam B).mul (qam B))) (Sr.ne_mul (qam B) (qam B) B0 B0) ?_
 have e1:sr X*(D*D)*(sr B*sr B)=sr X*(sr B*sr B)*(D*D):=by grind
 rw [e1,eq]
 have key:(sr B*Sr.D (sr T) - sr T*Sr.D (sr B))*(D*D)=(D*Sr.D N - N*Sr.D D)*(sr B*sr B):=by
  have h1:Sr.D (sr T)*D=Sr.D N*sr B+N*Sr.D (sr B) - sr T*Sr.D D:=by rw [<-e3];grind
  have h2:(sr B*Sr.D (sr T) - sr T*Sr.D (sr B))*(D*D)=sr B*D*(Sr.D (sr T)*D) - (sr T*D)*Sr.D (sr B)*D:=by grind
  have h3:sr B*D*(Sr.D N*sr B+N*Sr.D (sr B) - sr T*Sr.D D)=sr B*D*(Sr.D N*sr B+N*Sr.D (sr B)) - sr B*Sr.D D*(sr T*D):=by grind
  rw [h2,h1,h3,e2];grind
 have h4:(sr B*Sr.D (sr T) - sr T*Sr.D (sr B))*sr Y*(D*D)=(sr B*Sr.D (sr T) - sr T*Sr.D (sr B))*(D*D)*sr Y:=by grind
 rw [h4,key];grind
theorem qu8:sr [(1,1)]=1:=Sr.ext' λk=>by
 rw [qsV]
 cases k with
 | zero=>show val (1,1)=_;unfold val;show ((1:Int):Rat) / ((1:Int):Rat)=1;rw [show ((1:Int):Rat)=1 from rfl];grind
 | succ k=>show pwo [(1,1)] (k+1)=0;exact qa0 (by simp)
theorem qwQ:sr []=0:=Sr.ext' λk=>by rw [Sr.zero_c];exact qa0 (wae _)
theorem si1:si [1]=1:=Sr.ext' λk=>by
 rw [qsV]
 cases k with
 | zero=>rfl
 | succ k=>show ((co [1] (k+1):Int):Rat)=0;rw [qaD (by simp)];rfl
theorem lw1 {T:List Nu} (lt:qap T) (nt:Nz T):Lw T [(1,1)]:=⟨lt,λq hq=>by rw [wag.mp hq];exact qmK,nt,λq hq=>by obtain rfl:(1,1)=q:=Option.some.inj hq;decide,by simp,rfl,by rw [qu8];exact Sr.Cs.one⟩
theorem one_ne:(1:Sr)≠0:=by rw [<-si1];exact qfd ⟨∅,∅⟩
noncomputable def kv4 (a:Addr) (k:Int) (d:Bool) (n:Int):List (Key×V):=[(.inr "cells", .ref a),(.inr "number", .int k),(.inr "digits", .bl d),(.inr "at", .int n)]
theorem qj4 {k:Str} {v:V} {kvs:List (Key×V)}:qgQ ((.inr k,v)::kvs) (.inr k)=some v:=by
 unfold qgQ
 rw [List.find?_cons,decide_eq_true rfl];rfl
theorem qgg {j k:Str} {v:V} {kvs:List (Key×V)} (h:j≠k):qgQ ((.inr j,v)::kvs) (.inr k)=qgQ kvs (.inr k):=by
 unfold qgQ
 rw [List.find?_cons,decide_eq_false (λz=>h (Sum.inr.inj z))]
theorem qtV {k:Str} {v w:V} {kvs:List (Key×V)} (h:∀ x∈kvs,x.1≠.inr k):qof ((.inr k,v)::kvs) (.inr k) w=(.inr k,w)::kvs:=by
 unfold qof
 rw [if_pos (by rw [List.any_cons,decide_eq_true rfl];rfl),wa1,if_pos rfl]
 congr 1
 refine (wb1 λx hx=>?_).trans (List.map_id _)
 rw [if_neg (h x hx)];rfl
theorem qnL {j k:Str} {v w:V} {kvs:List (Key×V)} (h:j≠k) (hk:(kvs.any λkv=>kv.1=Sum.inr k)=true):qof ((.inr j,v)::kvs) (.inr k) w=(.inr j,v)::qof kvs (.inr k) w:=by
 have e:decide ((Sum.inr j:Key)=Sum.inr k)=false:=decide_eq_false (λz=>h (Sum.inr.inj z))
 unfold qof
 rw [if_pos hk,List.any_cons,e,Bool.false_or,if_pos hk,wa1,if_neg (λz=>h (Sum.inr.inj z))]
theorem s1:(("cells" : Str) ≠ "number")/\(("cells" : Str) ≠ "digits")/\(("cells" : Str) ≠ "at")/\(("number" : Str) ≠ "digits")/\(("number" : Str) ≠ "at")/\(("digits" : Str) ≠ "at"):=by decide +kernel
section
variable {a:Addr} {k n:Int} {d:Bool}
theorem qjh:qgQ (kv4 a k d n) (.inr "cells")=some (.ref a):=qj4
theorem qtW:qgQ (kv4 a k d n) (.inr "number")=some (.int k):=(qgg s1.1).trans qj4
theorem qws:qgQ (kv4 a k d n) (.inr "digits")=some (.bl d):=(qgg s1.2.1).trans ((qgg s1.2.2.2.1).trans qj4)
theorem qre:qgQ (kv4 a k d n) (.inr "at")=some (.int n):=(qgg s1.2.2.1).trans ((qgg s1.2.2.2.2.1).trans ((qgg s1.2.2.2.2.2).trans qj4))
theorem qj5 {k:Str} {v:V}:([((.inr k:Key),v)].any λkv=>kv.1=Sum.inr k)=true:=by rw [List.any_cons,decide_eq_true rfl];rfl
theorem qj6 {j k:Str} {v:V} {kvs:List (Key×V)} (h:(kvs.any λkv=>kv.1=Sum.inr k)=true):((((.inr j:Key),v)::kvs).any λkv=>kv.1=Sum.inr k)=true:=by rw [List.any_cons,h,Bool.or_true]
theorem qxi {m:Int}:qof (kv4 a k d n) (.inr "at") (.int m)=kv4 a k d m:=by
 unfold kv4
 rw [qnL s1.2.2.1 (qj6 (qj6 qj5)),qnL s1.2.2.2.2.1 (qj6 qj5),qnL s1.2.2.2.2.2 qj5,qtV (λ_ h=>(List.not_mem_nil h).elim)]
theorem qxj {m:Int}:qof (kv4 a k d n) (.inr "number") (.int m)=kv4 a m d n:=by
 unfold kv4
 have h:∀ x∈[((.inr "digits" : Key),V.bl d),(.inr "at", .int n)],x.1≠.inr "number" := λx hx=>by
  rcases wau.mp hx with rfl | hx
  ·exact λz=>s1.2.2.2.1 (Sum.inr.inj z).symm
  ·rw [wag.mp hx];exact λz=>s1.2.2.2.2.1 (Sum.inr.inj z).symm
 rw [qnL s1.1 (by rw [List.any_cons,decide_eq_true rfl];rfl),qtV h]
end
theorem qxI {a:Addr} {k n:Int} {d:Bool}:(kv4 a k d n).length<sizeLine:=by show 4<_;rw [sizeLine_eq];decide
theorem qrf (h:qbf K vs H Q E):qsC K { nx:=λ_ H'=>Q .non H',rt:=Q } (L2.start ["_law_state","_law_many","_law_digit","_law_number_here"] vs) H:=by
 obtain ⟨p,a,m,n,rfl,⟨cs,k,d,hp,ha,c0,c63,k0,k1,n0⟩,n5,m1,m2,kq⟩:=h
 have nap:a≠p:=qkq ha hp (λz=>nomatch z)
 refine ⟨_,rfl,p,_,kv4 a k d n,_,rfl,rfl,hp,qre,n,1,rfl,rfl,_,rfl,p,_,kv4 a k d n,rfl,rfl,hp,qxI,?_⟩
 rw [qxi]
 have hp1:upd H p (.dK (kv4 a k d (n+1))) p=some (.dK (kv4 a k d (n+1))):=upd_same
 have ha1:upd H p (.dK (kv4 a k d (n+1))) a=some (.lst (cs.map V.int)):=(qaA nap).trans ha
 have k1':Kpa p a H (upd H p (.dK (kv4 a k d (n+1)))):=λb o b1 _ hb=>(qaA b1).trans hb
 generalize upd H p (.dK (kv4 a k d (n+1)))=H1 at hp1 ha1 k1' ⊢
 refine ⟨_,rfl,p,_,_,_,rfl,rfl,hp1,qws,d,rfl,qck (λcd=>?_) (λcd=>?_)⟩
 ·refine while_by (λj σ H'=>∃ cs':List Int,σ=[some (.ref p),some (.int m),none,none]/\H' p=some (.dK (kv4 a k d (n+1)))/\H' a=some (.lst (cs'.map V.int))/\(∀ z∈cs',0<=z)/\cs'.length<=63/\Kpa p a H H'/\j=cs'.length) cs.length ⟨cs,rfl,hp1,ha1,c0,c63,k1',rfl⟩ ?_
  rintro j σ H2 ⟨cs2,rfl,hp2,ha2,c2,l2,k2,rfl⟩
  have done:qfK K { nx:=qja K { nx:=λx H'=>Q V.non H',rt:=Q },rt:=Q } [some (.ref p),some (.int m),none,none] H2:=by
   refine ⟨_,rfl,p,_,_,_,rfl,rfl,hp2,qjh,a,_,rfl,ha2,rfl,_,rfl,qck (λc=>?_) (λc=>?_)⟩
   ·exact kq 0 H2 (Int.le_refl _) ⋯ ⟨cs2,k,d,hp2,ha2,c2,l2,k0,⋯,⋯⟩ k2
   ·have ne:cs2≠[]:=λz=>by rw [z] at c;exact c rfl
    cases cs2 with
    | nil=>exact absurd rfl ne
    | cons z rest=>
      refine ⟨_,rfl,p,_,_,_,rfl,rfl,hp2,qjh,a,0,_,.int z,rfl,rfl,ha2,qcg (j:=0) rfl rfl,_,rfl,z,m,rfl,⋯,λw hw=>?_⟩
      have z0:=c2 z (wbh ..)
      have sw:=qaf hw (.tup [.int (z.fdiv m),.int (z.fmod m)])
      have hp3:=sw _ _ hp2
      have ha3:=sw _ _ ha2
      refine ⟨w,_,rfl,upd_same,rfl,_,_,rfl,_,rfl,p,_,_,_,rfl,rfl,hp3,qjh,a,_,0,0,rfl,rfl,ha3,?_,_,_,rfl,rfl,?_⟩
      ·exact qfM rfl (by simp)
      refine ⟨_,rfl,?_⟩
      have dm:z.fmod m=z % m:=Int.fmod_eq_emod_of_nonneg _ ⋯
      have dd:z.fdiv m=z / m:=wbo _ ⋯
      refine kq (z.fmod m) _ (by rw [dm];exact wa5 _ ⋯) (by rw [dm];exact wa9 _ ⋯) ⟨z.fdiv m::rest,k,d,(qaA nap.symm).trans hp3,?_,λy hy=>?_,l2,k0,⋯,⋯⟩ (λb o b1 b2 hb=>(qaA b2).trans (sw _ _ (k2 b o b1 b2 hb)))
      ·rw [upd_same];rfl
      ·rcases wau.mp hy with rfl | hy
       ·rw [dd];exact Int.ediv_nonneg z0 ⋯
       ·exact c2 y (wbi _ hy)
  refine ⟨_,rfl,p,_,_,_,rfl,rfl,hp2,qjh,a,_,rfl,ha2,_,_,rfl,rfl,_,rfl,qck (λg=>?_) (λg=>?_)⟩
  ·cases cs2 with
   | nil=>exact absurd (of_decide_eq_true g) (by simp)
   | cons z rest=>
     refine ⟨_,rfl,p,_,_,_,rfl,rfl,hp2,qjh,a,0,_,.int z,rfl,rfl,ha2,qcg (j:=0) rfl rfl,rfl,_,rfl,qck (λe=>?_) (λe=>?_)⟩
     ·refine ⟨_,λ_ _ h=>h,_,rfl,p,_,_,_,rfl,rfl,hp2,qjh,qpV ha2,a,.int z,rest.map V.int,rfl,rfl,ha2,?_⟩
      exact ⟨rest.length,by simp,rest,rfl,(qaA nap.symm).trans hp2,upd_same,λy hy=>c2 y (wbi _ hy),by have:(z::rest).length=rest.length+1:=rfl;omega,λb o b1 b2 hb=>(qaA b2).trans (k2 b o b1 b2 hb),rfl⟩
     ·exact done
  ·exact done
 ·refine ⟨_,rfl,p,_,_,_,rfl,rfl,hp1,qtW,_,rfl,p,_,_,_,rfl,rfl,hp1,qre,7919,n+1,rfl,rfl,IntMulOk.of_right (intBits_le_64 ⋯ ⋯),k,_,rfl,rfl,_,_,rfl,rfl,IntMulOk.of_right (intBits_le_64 ⋯ ⋯),_,_,rfl,rfl,(show (0:Int)<2147483629 by decide),?_⟩
  have q0:=wa5 ((k+7919*(n+1))*48271) (show (2147483629:Int)≠0 by decide)
  have q1:=wa9 ((k+7919*(n+1))*48271) (show (0:Int)<2147483629 by decide)
  refine ⟨_,rfl,_,rfl,_,_,rfl,rfl,IntMulOk.of_right (intBits_le_64 ⋯ ⋯),_,_,rfl,rfl,(show (0:Int)<2147483587 by decide),_,rfl,p,_,_,_,rfl,rfl,hp1,qre,_,_,rfl,rfl,_,rfl,p,_,_,rfl,rfl,hp1,qxI,?_⟩
  rw [qxj]
  generalize e2:(k+7919*(n+1))*48271 % 2147483629*((k+7919*(n+1))*48271 % 2147483629)=qq
  have r0:=wa5 qq (show (2147483587:Int)≠0 by decide)
  have r1:=wa9 qq (show (0:Int)<2147483587 by decide)
  generalize qq % 2147483587=r at r0 r1 ⊢
  refine ⟨_,rfl,p,_,_,_,rfl,rfl,upd_same,qtW,r+(n+1),97,rfl,rfl,⟨∅,(qxv ⋯ ⋯).mono ∅⟩,_,rfl,(r+(n+1)) / 97,m,rfl,rfl,⋯,?_⟩
  exact kq _ _ (wa5 _ ⋯) (wa9 _ ⋯) ⟨cs,r+(n+1),d,upd_same,(qaA nap).trans ha1,c0,c63,⋯,⋯,⋯⟩ (λb o b1 b2 hb=>(qaA b1).trans (k1' b o b1 b2 hb))
theorem Stt.ne {H:Hp} {p a:Addr} {n:Int} (h:Stt H p a n):a≠p:=by
 obtain ⟨_,_,_,hp,ha,_⟩:=h
 exact qkq ha hp (λz=>nomatch z)
theorem Kpa.trans {p a:Addr} {H H1 H2:Hp} (h:Kpa p a H H1) (g:Kpa p a H1 H2):Kpa p a H H2:=λb o b1 b2 hb=>g b o b1 b2 (h b o b1 b2 hb)
theorem Kpa.same {p a:Addr} {H H1 H2:Hp} (h:Kpa p a H H1) (g:Same H1 H2):Kpa p a H H2:=λb o b1 b2 hb=>g b o (h b o b1 b2 hb)
theorem Stt.same {H H':Hp} {p a:Addr} {n:Int} (h:Stt H p a n) (s:Same H H'):Stt H' p a n:=by
 obtain ⟨cs,k,d,hp,ha,r⟩:=h
 exact ⟨cs,k,d,s _ _ hp,s _ _ ha,r⟩
theorem Stt.mono {H:Hp} {p a:Addr} {n n':Int} (h:Stt H p a n) (e:n=n'):Stt H p a n':=e ▸ h
theorem qwt {n m:Int} (h:0<m):(qcN n m).1.natAbs<=n.natAbs/\(qcN n m).2<=m:=by
 have e:qcN n m=red n m:=by unfold qcN;rw [if_neg ⋯]
 have w:=quo (qcL h) h (qi2 (n:=n) h)
 have l:=(qcL (n:=n) h).pos
 rw [e]
 exact ⟨w.1,by have:=w.2;omega⟩
theorem qmO (h:qb3 K vs H Q E):qop K { nx:=λ_ H'=>Q .non H',rt:=Q } (L2.start ["_law_state","_law_top_here"] vs) H:=by
 obtain ⟨p,a,n,rfl,st,n9,kq⟩:=h
 refine qcp (qcO (qbs (qan rfl (r_c (qcx st ⋯ ∅ ∅ λd H1 d0 d1 st1 k1=>r_c (quy (qsw (qch (qcO (qbs (qan rfl (r_c (qcx st1 ⋯ ∅ ∅ λe H2 e0 e1 st2 k2=>⟨rfl,_,rfl,?_⟩)))))))))))))
 have go:∀ t:Int,t.natAbs<=4036->qgA K { nx:=λx H'=>Q V.non H',rt:=Q } [some (.ref p),some (.int t)] H2:=λt ht=>by
  refine qdu (qbs (qan rfl (qcO (r_c (qbs (qan rfl (r_c (qcx st2 ⋯ ∅ ∅ λf H3 f0 f1 st3 k3=>quy (quM ⋯ λr hr=>?_)))))))))
  have sr:=qaf hr (.tup [.int (qcN t (1+f)).1,.int (qcN t (1+f)).2])
  have b0:1+f≠0:=by omega
  have w:=qwt (n:=t) (m:=1+f) ⋯
  exact kq r _ _ _ upd_same (qdO b0) (wak w.1 ht) (by have:=w.2;omega) ((st3.same sr).mono ⋯) (((k1.trans k2).trans k3).same sr)
 refine qck (λc=>?_) (λc=>?_)
 ·refine ⟨_,rfl,_,1009,rfl,rfl,IntMulOk.of_right (intBits_le_64 ⋯ ⋯),go _ ?_⟩
  have:(d - 4).natAbs<=4:=by omega
  rw [war]
  exact wak (wa4 _ this) ∅
 ·exact go _ ⋯
theorem qoI (h:qct K vs H Q E):qqC K { nx:=λ_ H'=>Q .non H',rt:=Q } (L2.start ["_law_state","_law_found"] vs) H:=by
 obtain ⟨p,a,n,rfl,st,n9,kq⟩:=h
 refine qcn (qan rfl (qga st n9 λr t d H1 hr lt t1 d1 st1 k1=>?_))
 refine qsw (qch (qcO (qan rfl (qbm (r_c (r_c ⟨qcP,λw hw=>?_⟩))))))
 have sw:=qaf hw (.tup [.int 0,.int 1])
 have iN:isN (upd H1 w (.tup [.int 0,.int 1])) (.ref r) (t,d):=⟨r,rfl,sw _ _ hr⟩
 have iW:isN (upd H1 w (.tup [.int 0,.int 1])) (.ref w) (0,1):=⟨w,rfl,upd_same⟩
 refine ⟨_,_,decide ((t,d)=((0,1):Nu)),qtC iN,qtC iW,okN _ 7,okN _ 7,?_,_,rfl,qck (λc=>?_) (λc=>?_)⟩
 ·rw [decide_eq_true_eq]
  exact ⟨λz=>by rw [z],qhk⟩
 ·refine qdu (qbm (r_c (r_c ⟨qcP,λu hu=>?_⟩)))
  have su:=qaf hu (.tup [.int 2,.int 1])
  exact kq u 2 1 _ upd_same ⟨∅,∅⟩ ∅ ∅ ∅ ((st1.same sw).same su) ((k1.same sw).same su)
 ·have ne:¬ (t,d)=((0,1):Nu):=of_decide_eq_false (by simpa using c)
  refine qdu (qan rfl (kq r t d _ (sw _ _ hr) lt (λz=>ne ?_) t1 d1 (st1.same sw) (k1.same sw)))
  subst z
  obtain ⟨l1,l2⟩:=lt
  rw [Int.gcd_zero_left] at l2
  rw [show d=1 by omega]
theorem qrU {i:Nat} {v:V} {σ:L2.St} {H:Hp} {Q:L2.St->Hp->Prop} (h:Q (σ.set i (some v)) H):qai i v σ H Q:=h
theorem qrg {K:W.Frag} {tl:TE} {capt:List (Option Nat)} {g:TG} {te:TE} {σ:L2.St} {H:Hp} {Q:VK} (h:tl σ H (λx H1=>∃ a,x=.ref a/\(∃ xs,SqT K H1 a xs)/\CompJ (Itt K a) capt g te σ Q H1)):qbT (qo4 K tl) capt g te σ H Q:=h
theorem qh9 {K:W.Frag} {tl:TE} {capt:List (Option Nat)} {g:TG} {te:TE} {σ:L2.St} {H:Hp} {Q:VK} (h:tl σ H (λx H1=>∃ a,x=.ref a/\(∃ xs,SqL K H1 a xs)/\CompJ (Itl K a) capt g te σ Q H1)):qbT (qcc K tl) capt g te σ H Q:=h
theorem qji {te:TE} {k:Nat} {D:Ends} {σ:L2.St} {H:Hp} (h:te σ H λx H1=>D.nx (σ.set k (some x)) H1):qaM te (qai k) D σ H:=h
@[elab_as_elim] theorem l2 {α β:Type} {P:List α->List β->Prop} (xs:List α) (ys:List β) (b:(∀ x xs,P (x::xs) [])/\∀ y ys,P [] (y::ys)) (a:P [] []) (d:∀ x xs y ys,P xs ys->P (x::xs) (y::ys)):P xs ys:=by
  induction xs generalizing ys with
  | nil=>cases ys with
    | nil=>exact a
    | cons=>exact b.2 _ _
  | cons x xs ih=>cases ys with
    | nil=>exact b.1 _ _
    | cons=>exact d _ _ _ _ (ih _)
theorem Pts.tp {H H':Hp} (t:Tp H H') {ws:List V} {L:List (Nat×List Nu)}:Pts H ws L->Pts H' ws L:=l2 ws L ⟨λ_ _ h=>h.elim,λ_ _ h=>h.elim⟩ (λ_=>trivial) λ_ _ _ _ r h=>⟨let ⟨a,e,P⟩:=h.1;⟨a,e,P.tp t⟩,h.2.1,r h.2.2⟩
theorem Pts.len {H:Hp} {ws:List V} {L:List (Nat×List Nu)}:Pts H ws L->ws.length=L.length:=l2 ws L ⟨λ_ _ h=>h.elim,λ_ _ h=>h.elim⟩ (λ_=>rfl) λ_ _ _ _ r h=>congrArg (·+1) (r h.2.2)
theorem Pts.get {H:Hp} {ws:List V} {L:List (Nat×List Nu)} {i:Nat} {v:V} (h:Pts H ws L) (e:ws[i]?=some v):∃ q,L[i]?=some q/\(∃ a,v=.ref a/\Pl H a q.2)/\Pt q.1 q.2:=by
 revert h e;generalize i=j;revert j
 exact l2 ws L ⟨λ_ _ _ h=>h.elim,λ_ _ _ h=>h.elim⟩ (λ_ _ e=>nomatch e) λ_ _ q _ r i h e=>by
  cases i with
  | zero=>exact ⟨q,rfl,by cases e;exact h.1,h.2.1⟩
  | succ i=>exact r i h.2.2 e
theorem Pts.app {H:Hp} {ws:List V} {L:List (Nat×List Nu)} {vs:List V} {M:List (Nat×List Nu)} (h:Pts H ws L) (k:Pts H vs M):Pts H (ws++vs) (L++M):=by
 revert h
 exact l2 ws L ⟨λ_ _ h=>h.elim,λ_ _ h=>h.elim⟩ (λ_=>k) λ_ _ _ _ r h=>⟨h.1,h.2.1,r h.2.2⟩
theorem Pts.rep {H:Hp} {ws:List V} {L:List (Nat×List Nu)}:Pts H ws L->RepA H ws (L.map λq=>qiu q.2):=l2 ws L ⟨λ_ _ h=>h.elim,λ_ _ h=>h.elim⟩ (λ_=>.nil) λ_ _ _ _ r h=>by obtain ⟨⟨a,e,zs,h,n⟩,_,k⟩:=h;subst e;exact .cons (qtD h n) (r k)
theorem Prs.tp {H H':Hp} (t:Tp H H') {ws:List V} {L:List (Nu×Nat×List Nu)}:Prs H ws L->Prs H' ws L:=l2 ws L ⟨λ_ _ h=>h.elim,λ_ _ h=>h.elim⟩ (λ_=>trivial) λ_ _ _ _ r h=>by obtain ⟨⟨a,c,w,e,h,n,P⟩,s,p,k⟩:=h;exact ⟨⟨a,c,w,e,t _ _ h,t _ _ n,P.tp t⟩,s,p,r k⟩
theorem Prs.len {H:Hp} {ws:List V} {L:List (Nu×Nat×List Nu)}:Prs H ws L->ws.length=L.length:=l2 ws L ⟨λ_ _ h=>h.elim,λ_ _ h=>h.elim⟩ (λ_=>rfl) λ_ _ _ _ r h=>congrArg (·+1) (r h.2.2.2)
theorem Prs.get {H:Hp} {ws:List V} {L:List (Nu×Nat×List Nu)} {i:Nat} {v:V} (h:Prs H ws L) (e:ws[i]?=some v):∃ q,L[i]?=some q/\(∃ t c w,v=.ref t/\H t=some (.tup [.ref c,.ref w])/\Nm H c q.1.1 q.1.2/\Pl H w q.2.2)/\Sn q.1/\Pt q.2.1 q.2.2:=by
 revert h e;generalize i=j;revert j
 exact l2 ws L ⟨λ_ _ _ h=>h.elim,λ_ _ _ h=>h.elim⟩ (λ_ _ e=>nomatch e) λ_ _ q _ r i h e=>by
  cases i with
  | zero=>exact ⟨q,rfl,by cases e;exact h.1,h.2.1,h.2.2.1⟩
  | succ i=>exact r i h.2.2.2 e
theorem Prs.app {H:Hp} {ws:List V} {L:List (Nu×Nat×List Nu)} {vs:List V} {M:List (Nu×Nat×List Nu)} (h:Prs H ws L) (k:Prs H vs M):Prs H (ws++vs) (L++M):=by
 revert h
 exact l2 ws L ⟨λ_ _ h=>h.elim,λ_ _ h=>h.elim⟩ (λ_=>k) λ_ _ _ _ r h=>⟨h.1,h.2.1,h.2.2.1,r h.2.2.2⟩
theorem Prs.cut {H:Hp}:∀ (k:Nat) {ws:List V} {L:List (Nu×Nat×List Nu)},Prs H ws L->Prs H (ws.take k) (L.take k)/\Prs H (ws.drop k) (L.drop k)
 | 0,_,_,h=>⟨trivial,h⟩
 | _+1,[],[],_=>⟨trivial,trivial⟩
 | k+1,_::_,_::_,⟨a,b,c,r⟩=>let ⟨x,y⟩:=r.cut k;⟨⟨a,b,c,x⟩,y⟩
 | _+1,[],_::_,h=>h.elim
 | _+1,_::_,[],h=>h.elim
theorem Kpa.tp {H H':Hp} {p a:Addr} {n:Int} (k:Kpa p a H H') (s:Stt H p a n):Tp H H':=λb xs h=>by
 obtain ⟨cs,q,d,hp,ha,_⟩:=s
 exact k b _ (qkq h hp (λz=>nomatch z)) (qkq h ha (λz=>nomatch z)) h
theorem Kpa.of {p a:Addr} {H H':Hp} (s:Same H H'):Kpa p a H H':=λb o _ _ hb=>s b o hb
theorem qrh (h:qfx K vs H Q E):qsy K { nx:=λ_ H'=>Q .non H',rt:=Q } (L2.start ["one","other"] vs) H:=by
 obtain ⟨p,q,a,b,c,d,rfl,hp,hq,ba,bb,bc,bd,k⟩:=h
 have M:∀ {x y:Int},Bd 1000 x->Bd 1000 y->IntMulOk x y:=λhx hy=>qel (hx.mono ∅) (hy.mono ∅)
 exact qdu (qcO (qcO (qip rfl hp rfl (qip rfl hq rfl ⟨_,_,rfl,rfl,M ba bd,qcO (qip rfl hq rfl (qip rfl hp rfl ⟨_,_,rfl,rfl,M bc bb,⟨_,_,rfl,rfl,k⟩⟩))⟩))))
theorem qri (h:qdC K vs H Q E):qsz K { nx:=λ_ H'=>Q .non H',rt:=Q } (L2.start ["P"] vs) H:=by
 obtain ⟨p,xs,rfl,hp,q⟩:=h
 exact ⟨_,rfl,_,_,rfl,hp,_,_,rfl,rfl,q⟩
theorem qoJ (h:qbe K vs H Q E):qqD K { nx:=λ_ H'=>Q .non H',rt:=Q } (L2.start ["_law_row"] vs) H:=by
 obtain ⟨p,ns,rfl,hp,n9,k⟩:=h
 have e:(ns.map V.int).length=ns.length:=waa ..
 refine qdu (qjG (qh9 (qan rfl ⟨_,rfl,⟨_,SqL.of hp⟩,CompJ.lst (xs:=ns.map V.int) (λi ys H'=>i<=ns.length/\Same H H'/\Nums H' ys ((ns.take i).map λn=>(n,1))) ⟨wae _,Same.refl H,trivial⟩ ?_ ?_ ?_⟩)))
 ·rintro i ys H1 ⟨hi,s1,hN⟩
  have l:=hN.length
  rw [waa,waw] at l
  exact ⟨by rw [e];exact hi,sz ⋯,SqL.of (s1 _ _ hp)⟩
 ·rintro i x ys H1 hx ⟨hi,s1,hN⟩
  rw [waf] at hx
  obtain ⟨z,hz,rfl⟩:=wcf.mp hx
  have lt:i<ns.length:=(wap.mp hz).1
  refine qrU (qbm (qan rfl (r_c ⟨qcP,λw hw=>⟨lt,s1.trans (qaf hw _),?_⟩⟩)))
  have q:(ns.take (i+1)).map (λn=>((n,1):Nu))=(ns.take i).map (λn=>(n,1))++[(z,1)]:=by rw [wbv,hz];simp
  rw [q]
  exact (hN.tp (tpS (qaf hw _))).append (Nums.one ⟨w,rfl,upd_same⟩)
 ·rintro ys H1 ⟨hi,s1,hN⟩ w hw
  rw [e,wa3] at hN
  refine ⟨_,_,rfl,upd_same,λr hr=>k r _ ((s1.trans (qaf hw _)).trans (qaf hr _)) ⟨ys,upd_same,hN.tp (tpS ((qaf hw _).trans (qaf hr _)))⟩⟩
theorem qly {K:W.Frag} {tl:TE} {g:TG} {tb rest:TS} {D:Ends} {σ:L2.St} {H:Hp} (h:tl σ H λx H1=>∃ a,x=.ref a/\(∃ xs,SqL K H1 a xs)/\ForL K a g tb { D with nx:=rest D } σ H1):qaF (qe4 (qcc K tl) g tb) rest D σ H:=h
theorem qsZ (ns:List Int) (lo hi:Option Int):∃ ms:List Int,qg4 (ns.map V.int) lo hi=ms.map V.int/\ms.length<=ns.length:=by
 refine ⟨(ns.drop (HT.sIx (ns.map V.int).length 0 lo)).take (HT.sIx (ns.map V.int).length (ns.map V.int).length hi - HT.sIx (ns.map V.int).length 0 lo),?_,?_⟩
 ·unfold qg4
  rw [List.map_take,List.map_drop]
 ·rw [waw,wb5];omega
theorem qoK (h:qeB K vs H Q E):qqB K { nx:=λ_ H'=>Q .non H',rt:=Q } (L2.start ["_law_script","_law_number_here","_law_cell","_law_cells"] vs) H:=by
 obtain ⟨s,ns,rfl,hs,n63,k⟩:=h
 obtain ⟨ms,em,lm⟩:=qsZ ns none (some 63)
 refine qcp (r_c (qly ?_))
 refine ⟨_,rfl,_,rfl,_,_,rfl,hs,λc hc=>?_⟩
 rw [em]
 have s1:=qaf hc (.lst (ms.map V.int))
 have hc1:(upd H c (.lst (ms.map V.int))) c=some (HO.lst (ms.map V.int)):=upd_same
 generalize upd H c (.lst (ms.map V.int))=H1 at s1 hc1 ⊢
 refine ⟨_,rfl,⟨_,SqL.of hc1⟩,ForL.by (xs:=ms.map V.int) (λi σ H'=>∃ (q:Int) (z:Option V),σ=[some (.ref s),some (.int q),z,none]/\H1=H'/\0<=q/\q<=2147483629) ⟨11,none,rfl,rfl,∅,∅⟩ ?_ ?_ ?_⟩
 ·rintro i σ H' _ ⟨q,z,rfl,rfl,_⟩
  exact SqL.of hc1
 ·rintro i x σ H' hx ⟨q,z,rfl,rfl,q0,q1⟩
  rw [waf] at hx
  obtain ⟨y,_,rfl⟩:=wcf.mp hx
  refine ⟨_,rfl,_,_,rfl,rfl,IntMulOk.of_right (intBits_le_64 ⋯ ⋯),_,rfl,_,_,rfl,rfl,(show (0:Int)<2147483647 by decide),_,_,rfl,rfl,_,_,rfl,rfl,_,_,rfl,rfl,(show (0:Int)<2147483629 by decide),_,_,rfl,rfl,?_,?_⟩
  ·exact wa5 _ ∅
  ·exact wbn (wa9 _ ∅)
 ·rintro σ H' ⟨q,z,rfl,rfl,q0,q1⟩
  show qhT K { nx:=λ_ H'=>Q .non H',rt:=Q } _ _
  refine qcp (qh9 ?_)
  refine ⟨_,rfl,_,rfl,_,_,rfl,Same.seq s1 hs,λc2 hc2=>?_⟩
  rw [em]
  have s2:=qaf hc2 (.lst (ms.map V.int))
  have hc3:(upd H1 c2 (.lst (ms.map V.int))) c2=some (HO.lst (ms.map V.int)):=upd_same
  generalize upd H1 c2 (.lst (ms.map V.int))=H2 at s2 hc3 ⊢
  have el:(ms.map V.int).length=ms.length:=waa ..
  refine ⟨_,rfl,⟨_,SqL.of hc3⟩,CompJ.lst (xs:=ms.map V.int) (λi ys H'=>i<=ms.length/\H2=H'/\∃ cs:List Int,ys=cs.map V.int/\cs.length=i/\∀ z∈cs,0<=z) ⟨wae _,rfl,[],rfl,rfl,(λ_ h=>nomatch h)⟩ ?_ ?_ ?_⟩
  ·rintro i ys H' ⟨hi,rfl,cs,rfl,hcs,_⟩
   exact ⟨by rw [el];exact hi,sz (by rw [waa];omega),SqL.of hc3⟩
  ·rintro i x ys H' hx ⟨hi,rfl,cs,rfl,hcs,c0⟩
   rw [waf] at hx
   obtain ⟨y,hy,rfl⟩:=wcf.mp hx
   have lt:i<ms.length:=(wap.mp hy).1
   refine ⟨_,rfl,_,rfl,lt,rfl,cs++[if y<0 then -y else y],by rw [wbj];rfl,by rw [wao,hcs];rfl,λz hz=>?_⟩
   rcases wa7.mp hz with h | h
   ·exact c0 z h
   ·rw [wag.mp h];split <;> omega
  ·rintro ys H' ⟨hi,rfl,cs,rfl,hcs,c0⟩ a ha
   have s3:=qaf ha (.lst (cs.map V.int))
   have ha3:(upd H2 a (.lst (cs.map V.int))) a=some (HO.lst (cs.map V.int)):=upd_same
   have a0:H a=none:=s1.free (s2.free ha)
   generalize upd H2 a (.lst (cs.map V.int))=H3 at s3 ha3 ⊢
   refine λp hp=>⟨_,rfl,_,rfl,_,rfl,_,_,rfl,rfl,(show (0:Int)<2 by decide),rfl,upd_same,rfl,?_⟩
   have np:a≠p:=qas ha3 hp
   have s03:=(s1.trans s2).trans s3
   rw [el] at hcs
   refine k p a _ (s03.free hp) a0 (λb o hb=>?_) ⟨cs,q,_,upd_same,?_,c0,⋯,q0,⋯,∅⟩
   ·have nb:b≠p:=qas (s03 _ _ hb) hp
    exact (qaA nb).trans ((qaA nb).trans (s03 _ _ hb))
   ·exact (qaA np).trans ((qaA np).trans ha3)
noncomputable def OkR (d:Nat) (ns:List Int):Prop:=ns.length=d+1/\1<=d/\d<=3/\ns.getLast?≠some 0/\∀ z∈ns,z.natAbs<=3
theorem qu9 {d:Nat} {ns:List Int} (h:OkR d ns):Pt d (ns.map λn=>((n,1):Nu)):=by
 obtain ⟨hl,d1,d3,hz,hb⟩:=h
 refine ⟨⟨λq hq=>?_,λq hq z=>?_,1,⟨∅,λq hq=>?_⟩,?_,λz h=>?_⟩,?_,by rw [waa,hl];exact wac _,d1⟩
 ·obtain ⟨n,_,rfl⟩:=wai.mp hq
  exact ⟨Int.one_pos,Int.gcd_one_right _⟩
 ·rw [List.getLast?_map] at hq
  obtain ⟨n,hn,rfl⟩:=wcf.mp hq
  exact hz (by rw [hn];exact congrArg some z)
 ·obtain ⟨n,_,rfl⟩:=wai.mp hq
  exact wbp _
 ·exact Bd.mono (show Bd 1 (1:Int) by unfold Bd;decide) ⋯
 ·obtain ⟨q,hq,rfl⟩:=wai.mp h
  obtain ⟨n,hn,rfl⟩:=wai.mp hq
  have e:n*(1 / 1)=n:=by rw [Int.ediv_one,Int.mul_one]
  show Bd _ (n*(1 / 1))
  rw [e]
  exact Bd.mono (show Bd 2 n by unfold Bd;have:=hb n hn;omega) ⋯
 ·intro z
  have:=congrArg List.length z
  rw [waa,hl] at this
  exact nomatch this
noncomputable def Exl (L:List (Nat×List Nu)):Prop:=∀ q∈L,q.2.length=q.1+1/\q.1<=3
noncomputable def Rws (H:Hp) (vs:List V):Prop:=∀ v∈vs,∃ a ns d,v=.ref a/\H a=some (.lst (ns.map V.int))/\OkR d ns
theorem Rws.same {H H':Hp} {vs:List V} (h:Rws H vs) (s:Same H H'):Rws H' vs:=λv hv=>by
 obtain ⟨a,ns,d,e,ha,ok⟩:=h v hv
 exact ⟨a,ns,d,e,s _ _ ha,ok⟩
noncomputable def RowsT (t:TA) (n:Nat):Prop:=∀ (σ:L2.St) (H:Hp) (Q:List V->Hp->Prop),(∀ vs H',Same H H'->Rws H' vs->vs.length=n->Q vs H')->t σ H Q
theorem RowsT.nil:RowsT qal 0:=λ_ H _ h=>h [] H (Same.refl H) (λ_ h=>nomatch h) rfl
theorem RowsT.cons {tr tl:TA} {n d:Nat} (ns:List Int) (hl:∀ (σ:L2.St) (H:Hp) (Q:List V->Hp->Prop),Q (ns.map V.int) H->tl σ H Q) (ok:OkR d ns) (h:RowsT tr n):RowsT (qab (qcR tl) tr) (n+1):=λσ H Q k=>by
 refine hl σ H _ ⟨sz (by rw [waa,ok.1];have:=ok.2.2.1;omega),λa ha=>h σ _ _ λvs H' s r e=>k (.ref a::vs) H' ((qaf ha _).trans s) (λv hv=>?_) (by rw [way,e])⟩
 rcases wau.mp hv with rfl | hv
 ·exact ⟨a,ns,d,rfl,s _ _ upd_same,ok⟩
 ·exact r v hv
theorem Pts.snocR {H:Hp} {ys:List V} {L:List (Nat×List Nu)} {r:Addr} {d:Nat} {ns:List Int} (h:Pts H ys L) (P:Pl H r (ns.map λn=>((n,1):Nu))) (ok:OkR d ns):Pts H (ys++[.ref r]) (L++[(d,ns.map λn=>((n,1):Nu))]):=h.app ⟨⟨r,rfl,P⟩,qu9 ok,trivial⟩
theorem Exl.snocR {L:List (Nat×List Nu)} {d:Nat} {ns:List Int} (h:Exl L) (ok:OkR d ns):Exl (L++[(d,ns.map λn=>((n,1):Nu))]):=λq hq=>by
 rcases wa7.mp hq with c | c
 ·exact h q c
 ·rw [wag.mp c];exact ⟨by rw [waa];exact ok.1,ok.2.2.1⟩
theorem qwu {K:W.Frag} {H:Hp} {Q:VK} {b:Addr} {xs:List V} {σ:L2.St} {J:It} (hJ:∀ W:Nat->List V->Hp->Prop,W 0 [] H->(∀ i ys H',W i ys H'->i<=xs.length/\ys.length<=sizeLine/\Same H H')->(∀ i x ys H',xs[i]?=some x->W i ys H'->qai 0 x (qc6 [none] σ) H' λσ2 H2=>qak (qbe K) [] E0 (qab (qag 0) qal) σ2 H2 λy H3=>W (i+1) (ys++[y]) H3)->(∀ ys H',W xs.length ys H'->∀ p,H' p=none->Q (.ref p) (upd H' p (.lst ys)))->CompJ J [none] (qai 0) (qak (qbe K) [] E0 (qab (qag 0) qal)) σ Q H) (R:Rws H xs) (x9:xs.length<=100)
  (k:∀ ys L H' w,Same H H'->Pts H' ys L->Exl L->L.length=xs.length->H' w=none->Q (.ref w) (upd H' w (.lst ys))):CompJ J [none] (qai 0) (qak (qbe K) [] E0 (qab (qag 0) qal)) σ Q H:=by
 refine hJ (λi ys H'=>i<=xs.length/\Same H H'/\∃ L,Pts H' ys L/\Exl L/\L.length=i) ⟨wae _,Same.refl H,[],trivial,(λ_ h=>nomatch h),rfl⟩ ?_ ?_ ?_
 ·rintro i ys H' ⟨hi,s,L,h,_,e⟩
  exact ⟨hi,sz (by rw [h.len];omega),s⟩
 ·rintro i x ys H' hx ⟨hi,s,L,h,ex,e⟩
  have lt:i<xs.length:=(wap.mp hx).1
  obtain ⟨a,ns,d,rfl,ha,ok⟩:=R x (wan hx)
  refine qrU (qco (qan rfl ⟨_,ns,rfl,s _ _ ha,by have:=ok.1;have:=ok.2.2.1;omega,λr H2 s2 P=>⟨lt,s.trans s2,_,(h.tp (tpS s2)).snocR P ok,ex.snocR ok,by rw [wao,e];rfl⟩⟩))
 ·rintro ys H' ⟨_,s,L,h,ex,e⟩ p hp
  exact k ys L H' p s h ex e hp
theorem qrj:Pt 1 [((1:Int),(2:Int)),(1,1)]/\Pt 1 [((-2:Int),(3:Int)),(1,1)]:=by
 have g:∀ a b:Int,0<b->b<=3->a.natAbs<=2->Int.gcd a b=1->Pt 1 [(a,b),(1,1)]:=λa b b0 b3 a2 h=>by
  refine ⟨⟨λq hq=>?_,λq hq=>?_,b,⟨b0,λq hq=>?_⟩,(show Bd 2 b by unfold Bd;omega),λz hz=>?_⟩,by simp,by simp,wac _⟩
  ·rcases wau.mp hq with rfl | hq
   ·exact ⟨b0,h⟩
   ·rw [wag.mp hq];exact qmK
  ·obtain rfl:(1,1)=q:=Option.some.inj hq
   decide
  ·rcases wau.mp hq with rfl | hq
   ·exact wbp _
   ·rw [wag.mp hq];exact Int.one_dvd _
  ·have e:ovN [(a,b),(1,1)] b=[a*(b / b),1*(b / 1)]:=rfl
   rw [e,Int.ediv_self ⋯,Int.ediv_one,Int.mul_one,Int.one_mul] at hz
   show Bd 2 z
   unfold Bd
   rcases wau.mp hz with rfl | hz
   ·omega
   ·rw [wag.mp hz];omega
 exact ⟨g 1 2 ∅ ∅ ∅ ∅,g (-2) 3 ∅ ∅ ∅ ∅⟩
noncomputable instance (d:Nat) (ns:List Int):Decidable (OkR d ns):=by unfold OkR;infer_instance
theorem qxJ {H:Hp} {a b c:Addr} {p q r s:Int} (ha:H a=none) (hb:upd H a (.tup [.int p,.int q]) b=none) (hc:upd (upd H a (.tup [.int p,.int q])) b (.tup [.int r,.int s]) c=none):Pl (upd (upd (upd H a (.tup [.int p,.int q])) b (.tup [.int r,.int s])) c (.tup [.ref a,.ref b])) c [(p,q),(r,s)]/\Same H (upd (upd (upd H a (.tup [.int p,.int q])) b (.tup [.int r,.int s])) c (.tup [.ref a,.ref b])):=
 have u:=qaf hb _
 have v:=qaf hc _
 ⟨⟨_,upd_same,⟨a,rfl,v _ _ (u _ _ upd_same)⟩,⟨b,rfl,v _ _ upd_same⟩,trivial⟩,(qaf ha _).trans (u.trans v)⟩
theorem qrk (h:qfy K vs H Q E):qsD K { nx:=λ_ H'=>Q .non H',rt:=Q } (L2.start ["_law_state","_law_lines","_law_rows","_law_pool_here"] vs) H:=by
 obtain ⟨v,rfl,k⟩:=h
 refine qcp (qcO (qrg ?_))
 refine ⟨_,rfl,_,rfl,sz ∅,λw hw=>⟨_,rfl,⟨_,SqT.of upd_same⟩,?_⟩⟩
 have hw1:(upd H w (.tup ([0,1,-1,2,-2,3].map V.int))) w=some (HO.tup ([0,1,-1,2,-2,3].map V.int)):=upd_same
 have s1:=qaf hw (.tup ([0,1,-1,2,-2,3].map V.int))
 show CompJ _ _ _ _ _ _ (upd H w (.tup ([0,1,-1,2,-2,3].map V.int)))
 generalize upd H w (.tup ([0,1,-1,2,-2,3].map V.int))=H1 at hw1 s1 ⊢
 refine CompJ.tup (xs:=[0,1,-1,2,-2,3].map V.int) (λi ys H'=>i<=6/\Same H1 H'/\∃ L,Pts H' ys L/\(∀ q∈L,q.2.length=2/\q.1=1)/\L.length=i) ⟨wae _,Same.refl H1,[],trivial,(λ_ h=>nomatch h),rfl⟩ ?_ ?_ ?_
 ·rintro i ys H' ⟨hi,s,L,h,_,e⟩
  exact ⟨hi,sz (by rw [h.len];omega),s _ _ hw1⟩
 ·rintro i x ys H' hx ⟨hi,s,L,h,ex,e⟩
  rw [waf] at hx
  obtain ⟨z,hz,rfl⟩:=wcf.mp hx
  have lt:i<6:=(wap.mp hz).1
  have z3:∀ z∈[(0:Int),1,-1,2,-2,3],z.natAbs<=3:=by decide
  have z9:=z3 z (wan hz)
  have ok:OkR 1 [-z,1]:=⟨rfl,∅,∅,by simp,λy hy=>by
   rcases wau.mp hy with rfl | hy
   ·omega
   ·rw [wag.mp hy];decide⟩
  refine qrU (qco ?_)
  refine ⟨_,rfl,_,rfl,qcP,λa ha=>⟨a,[-z,1],rfl,upd_same,(show 2<=100 by decide),λr H2 s2 P=>?_⟩⟩
  have s3:=(qaf ha (.lst [.int (-z),.int 1])).trans s2
  refine ⟨lt,s.trans s3,_,(h.tp (tpS s3)).snocR P ok,λq hq=>?_,by rw [wao,e];rfl⟩
  rcases wa7.mp hq with c | c
  ·exact ex q c
  ·rw [wag.mp c];exact ⟨rfl,rfl⟩
 ·rintro ys H' ⟨_,s,L,h,ex,e⟩ u hu
  have s2:=qaf hu (.lst ys)
  have hu2:(upd H' u (.lst ys)) u=some (HO.lst ys):=upd_same
  have h2:=h.tp (tpS s2)
  have s02:=s1.trans (s.trans s2)
  have e6:L.length=6:=e
  generalize upd H' u (.lst ys)=H2 at s2 hu2 h2 s02 ⊢
  refine ⟨qcP,λa1 g1=>⟨qcP,λa2 g2=>⟨qcP,λa3 g3=>?_⟩⟩⟩
  have q1:=qxJ (p:=1) (q:=2) (r:=1) (s:=1) g1 g2 g3
  generalize upd (upd (upd H2 a1 (.tup [.int 1,.int 2])) a2 (.tup [.int 1,.int 1])) a3 (.tup [.ref a1,.ref a2])=H5 at q1 ⊢
  refine ⟨_,rfl,qcP,λb1 i1=>⟨qcP,λb2 i2=>⟨qcP,λb3 i3=>⟨qcP,λb4 i4=>?_⟩⟩⟩⟩
  have q2:=qxJ (p:=-2) (q:=3) (r:=1) (s:=1) i1 i2 i3
  have t7:=qaf i4 (.lst [.ref a3,.ref b3])
  have t17:=q1.2.trans (q2.2.trans t7)
  have q1:=q1.1.same (q2.2.trans t7)
  have q2:=q2.1.same t7
  have h4:=upd_same (H:=upd (upd (upd H5 b1 (.tup [.int (-2),.int 3])) b2 (.tup [.int 1,.int 1])) b3 (.tup [.ref b1,.ref b2])) (a:=b4) (o:=.lst [.ref a3,.ref b3])
  generalize upd (upd (upd (upd H5 b1 (.tup [.int (-2),.int 3])) b2 (.tup [.int 1,.int 1])) b3 (.tup [.ref b1,.ref b2])) b4 (.lst [.ref a3,.ref b3])=H3 at q1 q2 t17 h4 ⊢
  have P3:Pts H3 (ys++[V.ref a3,V.ref b3]) (L++[(1,[(1,2),(1,1)]),(1,[(-2,3),(1,1)])]):=(h2.tp (tpS t17)).app ⟨⟨a3,rfl,q1⟩,qrj.1,⟨b3,rfl,q2⟩,qrj.2,trivial⟩
  have E3:∀ q∈L++[(1,[((1:Int),(2:Int)),(1,1)]),(1,[(-2,3),(1,1)])],q.2.length=2/\q.1=1:=λq hq=>by
   rcases wa7.mp hq with c | c
   ·exact ex q c
   ·rcases wau.mp c with rfl | c
    ·exact ⟨rfl,rfl⟩
    ·rw [wag.mp c];exact ⟨rfl,rfl⟩
  have l8:(L++[(1,[((1:Int),(2:Int)),(1,1)]),(1,[(-2,3),(1,1)])]).length=8:=by rw [wao,e6];rfl
  generalize L++[(1,[((1:Int),(2:Int)),(1,1)]),(1,[(-2,3),(1,1)])]=L3 at P3 E3 l8
  have ylen:ys.length=6:=h.len.trans e6
  refine ⟨_,_,_,_,rfl,rfl,t17 _ _ hu2,h4,sz (by rw [ylen];exact (show 6+2<=1000000 by decide)),λf hf=>?_⟩
  have s4:=qaf hf (.lst (ys++[V.ref a3,V.ref b3]))
  have hf4:(upd H3 f (.lst (ys++[V.ref a3,V.ref b3]))) f=some (HO.lst (ys++[V.ref a3,V.ref b3])):=upd_same
  have P4:=P3.tp (tpS s4)
  have s04:=(s02.trans t17).trans s4
  generalize upd H3 f (.lst (ys++[V.ref a3,V.ref b3]))=H4 at hf4 P4 s04 ⊢
  clear P3 s4 q1 q2 t7 t17 h4 hf g1 g2 g3 i1 i2 i3 i4
  generalize ys++[V.ref a3,V.ref b3]=ws at hf4 P4
  refine qcp ?_
  refine (RowsT.cons (d:=2) [-2,0,1] (λ_ _ _ h=>⟨_,rfl,h⟩) ∅ (RowsT.cons (d:=2) [1,0,1] (λ_ _ _ h=>h) ∅ (RowsT.cons (d:=2) [1,1,1] (λ_ _ _ h=>h) ∅ (RowsT.cons (d:=2) [-3,0,1] (λ_ _ _ h=>⟨_,rfl,h⟩) ∅ (RowsT.cons (d:=2) [-1,1,1] (λ_ _ _ h=>⟨_,rfl,h⟩) ∅ (RowsT.cons (d:=2) [2,0,1] (λ_ _ _ h=>h) ∅ (RowsT.cons (d:=2) [-1,2,1] (λ_ _ _ h=>⟨_,rfl,h⟩) ∅ (RowsT.cons (d:=2) [3,1,1] (λ_ _ _ h=>h) ∅ RowsT.nil)))))))) _ _ _ λrs H5 s5 R5 l5=>⟨sz ⋯,λg hg=>?_⟩
  have s6:=qaf hg (.lst rs)
  have hg6:(upd H5 g (.lst rs)) g=some (HO.lst rs):=upd_same
  have R6:=R5.same s6
  have s46:=s5.trans s6
  generalize upd H5 g (.lst rs)=H6 at hg6 R6 s46 ⊢
  refine qcp (qcO (qan rfl (qh9 (qan rfl ⟨_,rfl,⟨_,SqL.of hg6⟩,qwu (xs:=rs) (b:=g) (λW h0 hb hs hd=>CompJ.lst W h0 (λi ys H' w=>⟨(hb i ys H' w).1,(hb i ys H' w).2.1,SqL.of ((hb i ys H' w).2.2 _ _ hg6)⟩) hs hd) R6 ⋯ λys7 L7 H7 w7 s7 P7 E7 l7 hw7=>?_⟩))))
  have s8:=qaf hw7 (.lst ys7)
  have s48:=s46.trans (s7.trans s8)
  have yl7:=P7.len
  have wl:=P4.len
  refine ⟨_,_,_,_,rfl,rfl,s48 _ _ hf4,upd_same,sz ⋯,λf8 hf8=>?_⟩
  have s9:=qaf hf8 (.lst (ws++ys7))
  have hf9:(upd (upd H7 w7 (.lst ys7)) f8 (.lst (ws++ys7))) f8=some (HO.lst (ws++ys7)):=upd_same
  have P9:Pts (upd (upd H7 w7 (.lst ys7)) f8 (.lst (ws++ys7))) (ws++ys7) (L3++L7):=(P4.tp (tpS (s48.trans s9))).app (P7.tp (tpS (s8.trans s9)))
  have s09:=s04.trans (s48.trans s9)
  generalize upd (upd H7 w7 (.lst ys7)) f8 (.lst (ws++ys7))=H9 at hf9 P9 s09 ⊢
  show qjb K _ _ _
  refine qcp (qcO (qan rfl (qrg ?_)))
  refine (RowsT.cons (d:=3) [-2,0,0,1] (λ_ _ _ h=>⟨_,rfl,h⟩) ∅ (RowsT.cons (d:=3) [1,1,0,1] (λ_ _ _ h=>h) ∅ (RowsT.cons (d:=3) [-1,-1,0,1] (λ_ _ _ h=>⟨_,rfl,_,rfl,h⟩) ∅ RowsT.nil))) _ _ _ λrs2 H10 s10 R10 l10=>⟨sz ⋯,λg2 hg2=>?_⟩
  have s11:=qaf hg2 (.tup rs2)
  have hg11:(upd H10 g2 (.tup rs2)) g2=some (HO.tup rs2):=upd_same
  have R11:=R10.same s11
  have s911:=s10.trans s11
  generalize upd H10 g2 (.tup rs2)=H11 at hg11 R11 s911 ⊢
  refine ⟨_,rfl,⟨_,SqT.of hg11⟩,qwu (xs:=rs2) (b:=g2) (λW h0 hb hs hd=>CompJ.tup W h0 (λi ys H' w=>⟨(hb i ys H' w).1,(hb i ys H' w).2.1,(hb i ys H' w).2.2 _ _ hg11⟩) hs hd) R11 ⋯ λys12 L12 H12 w12 s12 P12 E12 l12 hw12=>?_⟩
  have s13:=qaf hw12 (.lst ys12)
  have s913:=s911.trans (s12.trans s13)
  have yl12:=P12.len
  have wl9:=P9.len
  rw [wao,wao] at wl9
  refine ⟨_,_,_,_,rfl,rfl,s913 _ _ hf9,upd_same,sz (by rw [wao];omega),λf14 hf14=>?_⟩
  have s14:=qaf hf14 (.lst (ws++ys7++ys12))
  refine qdu (qan rfl (k f14 (ws++ys7++ys12) (L3++L7++L12) _ (s09.trans (s913.trans s14)) upd_same ((P9.tp (tpS (s913.trans s14))).app (P12.tp (tpS (s13.trans s14)))) (by rw [wao,wao];omega) λi q hq=>?_))
  have mem:=wan hq
  have all:q.2.length=q.1+1/\q.1<=3:=by
   rcases wa7.mp mem with c | c
   ·rcases wa7.mp c with c | c
    ·have:=E3 q c;omega
    ·exact E7 q c
   ·exact E12 q c
  refine ⟨all.1,all.2,λi8=>?_⟩
  rw [List.append_assoc,List.getElem?_append_left ⋯] at hq
  exact (E3 q (wan hq)).2
theorem qgh {ta:TE} {σ:L2.St} {H:Hp} {Q:List V->Hp->Prop} (h:ta σ H λx H1=>Q [x] H1):qab ta qal σ H Q:=h
theorem qnM {K:W.Frag} {tl:TE} {capt:List (Option Nat)} {g:TG} {tc:TT} {te:TE} {σ:L2.St} {H:Hp} {Q:VK} (h:tl σ H (λx H1=>∃ a,x=.ref a/\(∃ xs,SqL K H1 a xs)/\CompF (Itl K a) capt g tc te σ Q H1)):qgu (qcc K tl) capt g tc te σ H Q:=h
theorem qia {H:Hp} {f:Addr} {ws vs:List V} (h:H f=some (.lst ws)):Tp H (upd H f (.lst vs)):=λb xs hb=>(qaA (qkq hb h (λz=>nomatch z))).trans hb
theorem qrl (L M:List (Nat×List Nu)):sm (L++M)=sm L+sm M:=by unfold sm;rw [wbj,List.sum_append]
theorem qx7 (L:List (Nat×List Nu)):PySem.W.kqdOk 8 (.list (L.map λq=>qiu q.2))=true:=by
 simp only [PySem.W.kqdOk,List.all_map]
 exact List.all_eq_true.mpr λq _=>okP _ 5
theorem qxk (L:List (Nat×List Nu)):∀ e∈L.map (λq=>qiu q.2),PySem.W.kqdOk 8 e=true:=λe he=>by
 obtain ⟨q,_,rfl⟩:=wai.mp he
 exact okP _ 6
theorem qva {α:Type} (P:Prop) (_:α):∃ b:Bool,b=true↔P:=by
 by_cases h:P
 ·exact ⟨true,λ_=>h,λ_=>rfl⟩
 ·exact ⟨false,(λz=>nomatch z),λz=>absurd z h⟩
theorem qrm {H:Hp} {Q:VK} {w e:Addr} {ws:List V} {L:List (Nat×List Nu)} (hw:H w=some (.lst ws)) (P:Pts H ws L) (he:H e=some (.lst [])) (h:Q (.bl (!decide (L=[]))) H):neD (.ref w) (.ref e) H Q:=by
 refine ⟨_,_,decide (L=[]),.lst hw P.rep,.lst he .nil,qx7 L,∅,?_,h⟩
 rw [decide_eq_true_eq]
 constructor
 ·rintro rfl;rfl
 ·intro z
  have z1:L.map (λq=>qiu q.2)=[]:=by injection z
  exact List.map_eq_nil_iff.mp z1
theorem Stt.pn {H:Hp} {p a b:Addr} {n:Int} (h:Stt H p a n) (hb:H b=none):b≠p/\b≠a:=by
 obtain ⟨_,_,_,hp,ha,_⟩:=h
 exact ⟨Ne.symm (qas hp hb),Ne.symm (qas ha hb)⟩
theorem Stt.upd {H:Hp} {p a f:Addr} {n:Int} {o:HO} (h:Stt H p a n) (h1:f≠p) (h2:f≠a):Stt (upd H f o) p a n:=by
 obtain ⟨cs,k,d,hp,ha,r⟩:=h
 exact ⟨cs,k,d,(qaA (Ne.symm h1)).trans hp,(qaA (Ne.symm h2)).trans ha,r⟩
theorem qrn (h:qfz K vs H Q E):qsE K { nx:=λ_ H'=>Q .non H',rt:=Q } (L2.start ["_law_state","_law_many","_law_most","_law_pool_here","_law_found","_law_room","_law_k","_law_fits"] vs) H:=by
 obtain ⟨p,a,m,r,n,rfl,st,n9,m0,m4,r0,r6,k⟩:=h
 refine qcn (qan rfl ⟨_,rfl,λpl ps PL H1 s1 hpl P1 l19 ex=>?_⟩)
 refine ⟨sz ∅,λf hf=>?_⟩
 have s2:=qaf hf (.lst [])
 have hf2:(upd H1 f (.lst [])) f=some (HO.lst []):=upd_same
 have hpl2:=s2 _ _ hpl
 have st2:=(st.same s1).same s2
 have P2:=P1.tp (tpS s2)
 have s02:=s1.trans s2
 have f0:H f=none:=s1.free hf
 have nf:f≠p/\f≠a:=(st.same s1).pn hf
 have npf:pl≠f:=qas hpl hf
 generalize upd H1 f (.lst [])=H2 at hf2 hpl2 st2 P2 s02 ⊢
 have npl:pl≠p:=by obtain ⟨_,_,_,hp,_⟩:=st2;exact qkq hpl2 hp (λz=>nomatch z)
 refine ⟨_,rfl,?_⟩
 refine ⟨_,rfl,_,rfl,⋯,⋯,?_⟩
 have plen:=P2.len
 by_cases nla:pl=a
 ·exact absurd nla (by
   obtain ⟨_,_,_,_,ha,_⟩:=st.same s1
   intro z
   rw [z,ha] at hpl
   obtain ⟨v0,hv0⟩:∃ v,ps[0]?=some v:=⟨ps[0]'⋯,wah ⋯⟩
   obtain ⟨q0,_,⟨b0,e0,_⟩,_⟩:=P1.get hv0
   have e1:=Option.some.inj hpl
   injection e1 with e1
   rw [<-e1,e0,waf] at hv0
   obtain ⟨y,_,hy⟩:=wcf.mp hv0
   exact nomatch hy)
 refine ForR.by (λi σ H'=>∃ (rm:Int) (c6 c7:Option V) (n':Int) (ws:List V) (L:List (Nat×List Nu)),σ=[some (.ref p),some (.int m),some (.int r),some (.ref pl),some (.ref f),some (.int rm),c6,c7]/\H' pl=some (.lst ps)/\Pts H' ps PL/\H' f=some (.lst ws)/\Pts H' ws L/\(sm L:Int)+rm<=r/\0<=rm/\(∀ q∈L,q.1<=3/\2<=q.2.length)/\(L.map λq=>q.2).Nodup/\L.length<=i/\n'<=n+i/\Stt H' p a n'/\Kpa p a H H') ⟨r,none,none,n,[],[],rfl,hpl2,P2,hf2,trivial,by show ((0:Nat):Int)+r<=r;omega,r0,(λ_ h=>nomatch h),List.nodup_nil,wac _,⋯,st2,Kpa.of s02⟩ ?_ ?_
 ·rintro i σ H3 hi ⟨rm,c6,c7,n',ws,L,rfl,hpl3,P3,hf3,PW,sl,rm0,q3,nd,li,ni,st3,k3⟩
  refine qcp (qnM (qan rfl ⟨_,rfl,⟨_,SqL.of hpl3⟩,CompF.lst (xs:=ps) (λj ys H'=>j<=ps.length/\H3=H'/\∃ FL,Pts H3 ys FL/\(∀ q∈FL,q.2.length=q.1+1/\q.1<=3/\(q.1:Int)<=rm/\q.2∉L.map λq=>q.2)/\FL.length<=j) ⟨wae _,rfl,[],trivial,(λ_ h=>nomatch h),wac _⟩ ?_ ?_ ?_⟩))
  ·rintro j ys H' ⟨hj,rfl,FL,h,_,e⟩
   exact ⟨hj,sz (by rw [h.len];omega),SqL.of hpl3⟩
  ·rintro j x ys H' hx ⟨hj,rfl,FL,h,eF,e⟩
   have lt:j<ps.length:=(wap.mp hx).1
   obtain ⟨q,hq,⟨b,rfl,zs,hz,hN⟩,pt⟩:=P3.get hx
   obtain ⟨ql,qm,_⟩:=ex j q hq
   have zl:=hN.length
   refine qrU (qch (qcO (qco (qan rfl ⟨_,_,rfl,hz,qan rfl ⟨_,_,rfl,rfl,_,rfl,qck (λc=>?_) (λc=>?_)⟩⟩))))
   ·obtain ⟨bb,hbb⟩:=qva (qiu q.2∈L.map λq=>qiu q.2) ()
    refine qch (qcO (qan rfl (qan rfl ⟨_,_,_,_,bb,rfl,hf3,qtD hz hN,PW.rep,okP _ 6,qxk L,hbb,_,rfl,qck (λc2=>?_) (λc2=>?_)⟩)))
    ·refine qan rfl ⟨lt,rfl,FL++[q],h.app ⟨⟨b,rfl,zs,hz,hN⟩,pt,trivial⟩,λy hy=>?_,by rw [wao];exact Nat.succ_le_succ e⟩
     rcases wa7.mp hy with d | d
     ·exact eF y d
     ·rw [wag.mp d]
      have:=of_decide_eq_true c
      exact ⟨ql,qm,⋯,λz=>by
       have z1:qiu q.2∈L.map λq=>qiu q.2:=by
        obtain ⟨y,hy,e⟩:=wai.mp z
        exact wai.mpr ⟨y,hy,by rw [e]⟩
       rw [hbb.mpr z1] at c2
       exact absurd c2 ∅⟩
    ·exact ⟨lt,rfl,FL,h,eF,Nat.le_succ_of_le e⟩
   ·exact ⟨lt,rfl,FL,h,eF,Nat.le_succ_of_le e⟩
  ·rintro ys H' ⟨_,rfl,FL,PF,EF,lF⟩ w hw
   have s4:=qaf hw (.lst ys)
   have hw4:(upd H3 w (.lst ys)) w=some (HO.lst ys):=upd_same
   have nw:w≠p/\w≠a:=st3.pn hw
   have nfw:f≠w:=qas hf3 hw
   have npw:pl≠w:=qas hpl3 hw
   generalize upd H3 w (.lst ys)=H4 at s4 hw4 ⊢
   refine ⟨_,rfl,sz ∅,λe he=>?_⟩
   have s5:=qaf he (.lst [])
   have he5:(upd H4 e (.lst [])) e=some (HO.lst []):=upd_same
   have s35:=s4.trans s5
   have hw5:=s5 _ _ hw4
   generalize upd H4 e (.lst [])=H5 at s5 he5 s35 hw5 ⊢
   have PF5:=PF.tp (tpS s35)
   have hf5:=s35 _ _ hf3
   have hpl5:=s35 _ _ hpl3
   have st5:=st3.same s35
   have k5:=k3.same s35
   refine qrm hw5 PF5 he5 ⟨_,rfl,qck (λc=>?_) (λc=>?_)⟩
   ·have F0:FL≠[]:=by simpa using c
    have yl:=PF5.len
    have y1:1<=ys.length:=by
     have:0<FL.length:=waq.mpr F0
     omega
    refine ⟨_,rfl,.inl ⟨rfl,_,SqL.of hf5⟩,qgh (qcO (qan rfl (qbs (qan rfl (qjG (qan rfl ⟨_,_,rfl,hw5,qcx st5 ⋯ ⋯ ⋯ λd H6 d0 d1 st6 k6=>?_⟩))))))⟩
    have t56:=k6.tp st5
    have hw6:=k6 _ _ nw.1 nw.2 hw5
    have hf6:=k6 _ _ nf.1 nf.2 hf5
    have hpl6:=k6 _ _ npl nla hpl5
    have dk:d.toNat<ys.length:=by omega
    obtain ⟨q,hq,⟨b,e1,Pb⟩,pt⟩:=(PF5.tp t56).get (wah dk)
    obtain ⟨zs,hz,hN⟩:=Pb
    have zl:=hN.length
    obtain ⟨ql,qm,qr,qn⟩:=EF q (wan hq)
    refine ⟨_,_,_,V.ref b,rfl,rfl,hw6,qcg (j:=d.toNat) (Int.toNat_of_nonneg d0).symm (by rw [wah dk,e1]),?_⟩
    have wl:=PW.len
    refine ⟨_,_,_,rfl,rfl,hf6,wav (by omega:ws.length<1000000) (sz (wac _)),?_⟩
    have t67:Tp H6 (upd H6 f (.lst (ws++[V.ref b]))):=qia hf6
    refine ⟨_,rfl,_,rfl,_,rfl,_,_,_,_,rfl,rfl,upd_same,L2.atI_last ..,_,_,rfl,t67 _ _ hz,_,_,rfl,rfl,?_⟩
    refine ⟨_,_,_,n'+1,_,L++[q],rfl,(qaA npf).trans hpl6,((P3.tp (tpS s35)).tp t56).tp t67,upd_same,(((PW.tp (tpS s35)).tp t56).tp t67).app ⟨⟨b,rfl,zs,t67 _ _ hz,hN.tp t67⟩,pt,trivial⟩,?_,⋯,λy hy=>?_,?_,by rw [wao];exact Nat.succ_le_succ li,⋯,st6.upd nf.1 nf.2,λc o h1 h2 hc=>(qaA (qas hc f0)).trans ((k5.trans k6) c o h1 h2 hc)⟩
    ·rw [qrl]
     show (((sm L+(q.1+0):Nat)):Int)+(rm - ((zs.length:Int) - 1))<=r
     omega
    ·rcases wa7.mp hy with c | c
     ·exact q3 y c
     ·rw [wag.mp c];exact ⟨qm,by have:=pt.d1;omega⟩
    ·rw [wbj]
     refine List.nodup_append.mpr ⟨nd,wbw.mpr ⟨List.not_mem_nil,List.nodup_nil⟩,λx hx y hy e=>?_⟩
     rw [wag.mp hy] at e
     exact qn (show q.2∈_ by rw [show q.2=x from e.symm];exact hx)
   ·exact ⟨rm,_,_,n',ws,L,rfl,hpl5,P3.tp (tpS s35),hf5,PW.tp (tpS s35),sl,rm0,q3,nd,Nat.le_succ_of_le li,⋯,st5,k5⟩
 ·rintro σ H3 ⟨rm,c6,c7,n',ws,L,rfl,hpl3,P3,hf3,PW,sl,rm0,q3,nd,li,ni,st3,k3⟩
  exact qdu (qan rfl (k f ws L n' H3 f0 hf3 PW ⋯ q3 nd ⋯ ⋯ st3 k3))
theorem qs0 {ta:TA} {capt:List (Option Nat)} {g:TG} {te:TE} {σ:L2.St} {H:Hp} {Q:VK} (h:ta σ H (λvs H1=>∃ j:Int,vs=[.int j]/\-(2 ^ 62)<=j/\j<2 ^ 62/\CompJ (Itr 0 j.toNat) capt g te σ Q H1)):qbT (qht ta) capt g te σ H Q:=h
theorem Stt.na {H:Hp} {p a pl:Addr} {n:Int} {ps:List V} {PL:List (Nat×List Nu)} (h:Stt H p a n) (hl:H pl=some (.lst ps)) (P:Pts H ps PL) (h0:PL≠[]):pl≠p/\pl≠a:=by
 obtain ⟨cs,q,d,hp,ha,_⟩:=h
 refine ⟨qkq hl hp (λz=>nomatch z),λz=>?_⟩
 rw [z,ha] at hl
 have e1:=Option.some.inj hl
 injection e1 with e1
 rw [<-e1] at P
 cases cs with
 | nil=>cases PL with
   | nil=>exact h0 rfl
   | cons q L=>exact P.elim
 | cons c cs=>cases PL with
   | nil=>exact P.elim
   | cons q L=>
     obtain ⟨⟨b,e,_⟩,_⟩:=P
     exact nomatch e
theorem qxl {TL:List Nu} (h:∀ q∈TL,Sn0 q):Gq 15 3 (trim TL):=by
 refine ⟨λq hq=>(h q (qbC hq)).1,qdN TL,6,⟨∅,λq hq=>?_⟩,(show Bd 3 6 by unfold Bd;decide),λz hz=>?_⟩
 ·obtain ⟨lo,_,h3⟩:=h q (qbC hq)
  have l0:=lo.pos
  have c:q.2=1\/q.2=2\/q.2=3:=by omega
  rcases c with c | c | c <;> rw [c] <;> decide
 ·obtain ⟨q,hq,rfl⟩:=wai.mp hz
  obtain ⟨lo,h1,h3⟩:=h q (qbC hq)
  have l0:=lo.pos
  have c:q.2=1\/q.2=2\/q.2=3:=by omega
  unfold Bd
  rw [war]
  have d6:(6 / q.2).natAbs<=6:=by rcases c with c | c | c <;> rw [c] <;> decide
  exact Nat.lt_of_le_of_lt (wbl h1 d6) ∅
theorem fr6 {K:W.Frag} {H0 H:Hp} {Q:VK} {p a tp b:Addr} {c1 c4:Option V} {ys:List V} {TL m:List Nu} {n:Int} (k0:Kpa p a H0 H) (st:Stt H p a n) (hT:H tp=some (.lst ys)) (hN:Nums H ys TL) (sn:∀ q∈TL,Sn0 q) (l3:TL.length<=3) (P:Pl H b m) (G:Gq 18 6 m) (m0:m≠[]) (m4:m.length<=4)
  (k:∀ t T B H',FF H' t T B->Rp 24 3 4 T B->Stt H' p a n->Kpa p a H0 H'->Q (.ref t) H'):qeR K { nx:=λ_ H'=>Q .non H',rt:=Q } [some (.ref p),c1,some (.ref tp),some (.ref b),c4] H:=by
 refine qdu (qbs (qco (qan rfl ⟨_,_,TL,rfl,hT,hN,⋯,λr zs H1 s1 hr hz=>qan rfl ?_⟩)))
 have g:=qxl sn
 have tl:=qcw TL
 refine ⟨_,_,trim TL,m,18,58,3,4,3,rfl,⟨zs,hr,hz⟩,P.same s1,g.mono ∅ ∅,G.mono ∅ ∅,m0,⋯,m4,λz=>(qep g z (n:=3) (e:=3) ⋯ ∅).mono ∅,(qep G m0 (n:=4) (e:=3) m4 ∅).mono ∅,∅,∅,λt H2 T B s2 ff lw eq=>?_⟩
 exact k t T B H2 ff (Rp.of lw g G m0 ⋯ m4 eq ∅ ∅) ((st.same s1).same s2) ((k0.same s1).same s2)
theorem fr5 {K:W.Frag} {H0 H:Hp} {Q:VK} {p a tp b:Addr} {c1:Option V} {ys:List V} {TL m:List Nu} {n kd:Int} (k0:Kpa p a H0 H) (st:Stt H p a n) (hT:H tp=some (.lst ys)) (hN:Nums H ys TL) (sn:∀ q∈TL,Sn0 q) (l3:TL.length<=3) (P:Pl H b m) (G:Gq 18 6 m) (m0:m≠[]) (m4:m.length<=4)
  (k:∀ t T B H',FF H' t T B->Rp 24 3 4 T B->Stt H' p a n->Kpa p a H0 H'->Q (.ref t) H'):qeS K { nx:=λ_ H'=>Q .non H',rt:=Q } [some (.ref p),c1,some (.ref tp),some (.ref b),some (.int kd)] H:=by
 refine qsw (qch (qcO (qan rfl (r_c ⟨rfl,_,rfl,qck (λ_=>?_) (λ_=>?_)⟩))))
 ·refine qji (qco ?_)
  refine ⟨_,rfl,qcP,λw hw=>⟨w,[-3,1],rfl,upd_same,(show 2<=100 by decide),λr H1 s1 P1=>?_⟩⟩
  have s:=(qaf hw (.lst [.int (-3),.int 1])).trans s1
  have o:=qu9 (show OkR 1 [-3,1] by decide)
  exact fr6 (k0.same s) (st.same s) (s _ _ hT) (hN.tp (tpS s)) sn l3 P1 (o.g.mono ∅ ∅) o.ne (show 2<=4 by decide) k
 ·exact fr6 k0 st hT hN sn l3 P G m0 m4 k
theorem fr4 {K:W.Frag} {H0 H:Hp} {Q:VK} {p a tp b:Addr} {c1:Option V} {ys:List V} {TL m:List Nu} {n kd:Int} (k0:Kpa p a H0 H) (st:Stt H p a n) (hT:H tp=some (.lst ys)) (hN:Nums H ys TL) (sn:∀ q∈TL,Sn0 q) (l3:TL.length<=3) (P:Pl H b m) (G:Gq 18 6 m) (m0:m≠[]) (m4:m.length<=4)
  (k:∀ t T B H',FF H' t T B->Rp 24 3 4 T B->Stt H' p a n->Kpa p a H0 H'->Q (.ref t) H'):qeT K { nx:=λ_ H'=>Q .non H',rt:=Q } [some (.ref p),c1,some (.ref tp),some (.ref b),some (.int kd)] H:=by
 refine qsw (qch (qcO (qan rfl (r_c ⟨rfl,_,rfl,qck (λ_=>?_) (λ_=>?_)⟩))))
 ·refine qji (qbs (qco ?_))
  refine ⟨qcP,λw hw=>⟨w,[1,1],rfl,upd_same,(show 2<=100 by decide),λr H1 s1 P1=>?_⟩⟩
  refine qco ?_
  refine ⟨qcP,λw2 hw2=>⟨w2,[1,1],rfl,upd_same,(show 2<=100 by decide),λr2 H2 s2 P2=>?_⟩⟩
  have s:=((qaf hw (.lst [.int 1,.int 1])).trans s1).trans ((qaf hw2 (.lst [.int 1,.int 1])).trans s2)
  have s12:=(qaf hw2 (.lst [.int 1,.int 1])).trans s2
  have o:=qu9 (show OkR 1 [1,1] by decide)
  obtain ⟨z1,h1,n1⟩:=P1.same s12
  obtain ⟨z2,h2,n2⟩:=P2
  refine ⟨_,_,z1,z2,_,_,2,2,2,2,rfl,h1,h2,n1,n2,o.g,o.g,(show 2<=100 by decide),(show 2<=100 by decide),∅,∅,∅,∅,λr3 R H3 s3 P3 G3 l3' e3=>?_⟩
  have s03:=s.trans s3
  have R0:R≠[]:=λz=>Sr.ne_mul (qam _) (qam _) (qci o.g.low o.g.nz o.ne) (qci o.g.low o.g.nz o.ne) (by rw [<-qb8 e3,z];exact qwQ)
  exact fr5 (k0.same s03) (st.same s03) (s03 _ _ hT) (hN.tp (tpS s03)) sn l3 P3 (G3.mono (show 2+2+2<=18 by decide) ∅) R0 (wak l3' (show 2+2 - 1<=4 by decide)) k
 ·exact fr5 k0 st hT hN sn l3 P G m0 m4 k
theorem qj7 (h:qcV K vs H Q E):qle K { nx:=λ_ H'=>Q .non H',rt:=Q } (L2.start ["_law_state","_law_parts","_law_top_here","_law_bottom","_law_kind"] vs) H:=by
 obtain ⟨p,a,l,ws,L,n,rfl,st,n9,hl,PL,q3,l7,nlp,nla,k⟩:=h
 refine qcp (qs0 (qgh (qcO (r_c (qbs (qan rfl (r_c (qcx st ⋯ ∅ ∅ λe H1 e0 e1 st1 k1=>quy ⟨_,rfl,⋯,⋯,?_⟩))))))))
 refine CompJ.range (λi ys H'=>i<=(1+e).toNat/\∃ TL,Nums H' ys TL/\(∀ q∈TL,Sn0 q)/\TL.length=i/\Stt H' p a (n+1+3*i)/\Kpa p a H H') ⟨wae _,[],trivial,(λ_ h=>nomatch h),rfl,st1.mono ⋯,k1⟩ ?_ ?_ ?_
 ·rintro i ys H' ⟨hi,TL,h,_,e,_⟩
  exact ⟨hi,sz (by rw [h.length];omega)⟩
 ·rintro i ys H2 hi ⟨_,TL,h,sn,el,st2,k2⟩
  refine qrU (qco (qan rfl (qga st2 ⋯ λr t d H3 hr lo t1 d1 st3 k3=>⟨hi,TL++[(t,d)],(h.tp (k3.tp st2)).append (Nums.one ⟨r,rfl,hr⟩),λq hq=>?_,by rw [wao,el];rfl,st3.mono ⋯,k2.trans k3⟩)))
  rcases wa7.mp hq with c | c
  ·exact sn q c
  ·rw [wag.mp c];exact ⟨lo,t1,d1⟩
 ·rintro ys H2 ⟨_,TL,hN,sn,el,st2,k2⟩ tp htp
  have s3:=qaf htp (.lst ys)
  have h3:(upd H2 tp (.lst ys)) tp=some (HO.lst ys):=upd_same
  have nt:tp≠p/\tp≠a:=st2.pn htp
  have st3:=st2.same s3
  have k3:=k2.same s3
  have hN3:=hN.tp (tpS s3)
  generalize upd H2 tp (.lst ys)=H3 at h3 st3 k3 hN3 ⊢
  refine qcp (qnr (qbm (r_c (r_c ⟨qcP,λu hu=>⟨qjH,λb hb=>?_⟩⟩))))
  have s4:=(qaf hu (.tup [.int 1,.int 1])).trans (qaf hb (.tup [.ref u]))
  have Pb:Pl (upd (upd H3 u (.tup [.int 1,.int 1])) b (.tup [.ref u])) b [(1,1)]:=⟨_,upd_same,⟨u,rfl,qaf hb _ _ _ upd_same⟩,trivial⟩
  generalize upd (upd H3 u (.tup [.int 1,.int 1])) b (.tup [.ref u])=H4 at s4 Pb ⊢
  have st4:=st3.same s4
  refine qb0 (qan rfl (r_c (qcx st4 ⋯ ∅ ∅ λkd H5 _ _ st5 k5=>?_)))
  have t45:=k5.tp st4
  have hT5:=k5 _ _ nt.1 nt.2 (s4 _ _ h3)
  have hN5:=(hN3.tp (tpS s4)).tp t45
  have k05:=(k3.same s4).trans k5
  have l5:=k05 _ _ nlp nla hl
  have one:Gq 18 6 [((1:Int),(1:Int))]:=⟨λq hq=>by rw [wag.mp hq];exact qmK,λq hq=>by obtain rfl:(1,1)=q:=Option.some.inj hq;decide,1,⟨∅,λq hq=>by rw [wag.mp hq];exact wbp _⟩,(show Bd 6 1 by unfold Bd;decide),λz hz=>by rw [show z=1 from wag.mp hz];unfold Bd;decide⟩
  have P5:=PL.tp ((k3.same s4).trans k5 |>.tp st)
  refine qsw ?_
  refine qch (qcO (qan rfl (r_c ⟨rfl,_,rfl,qck (λ_=>?_) (λ_=>?_)⟩)))
  ·refine qch (qcO (qan rfl ⟨sz ∅,λe6 he6=>?_⟩))
   have s6:=qaf he6 (.lst [])
   have P6:=P5.tp (tpS s6)
   refine qrm (s6 _ _ l5) P6 upd_same ⟨_,rfl,qck (λc=>?_) (λc=>?_)⟩
   ·have L0:L≠[]:=by simpa using c
    have wl:=P6.len
    have w1:0<ws.length:=by rw [wl];exact waq.mpr L0
    obtain ⟨q,hq,⟨b',e',Pb'⟩,pt⟩:=P6.get (wah w1)
    have d3:=q3 q (wan hq)
    have ql:=pt.len
    refine qji (qcO (qan rfl (r_c ⟨_,_,_,V.ref b',rfl,rfl,s6 _ _ l5,qcg (j:=0) rfl (by rw [wah w1,e']),?_⟩)))
    exact fr4 (k05.same s6) (st5.same s6) (s6 _ _ hT5) (hN5.tp (tpS s6)) sn ⋯ Pb' (pt.g.mono ⋯ ⋯) pt.ne ⋯ λt T B H' h1 h2 h3 h4=>k t T B _ H' h1 h2 ⋯ h3 h4
   ·exact fr4 (k05.same s6) (st5.same s6) (s6 _ _ hT5) (hN5.tp (tpS s6)) sn ⋯ ((Pb.tp t45).same s6) one (by simp) (show 1<=4 by decide) λt T B H' h1 h2 h3 h4=>k t T B _ H' h1 h2 ⋯ h3 h4
  ·exact fr4 k05 st5 hT5 hN5 sn ⋯ (Pb.tp t45) one (by simp) (show 1<=4 by decide) λt T B H' h1 h2 h3 h4=>k t T B _ H' h1 h2 ⋯ h3 h4
theorem qcv (L M:List (Nu×Nat×List Nu)):sm3 (L++M)=sm3 L+sm3 M:=by unfold sm3;rw [wbj,List.sum_append]
theorem qfS (q:Nu×Nat×List Nu) (M:List (Nu×Nat×List Nu)):sm3 (q::M)=q.2.1+sm3 M:=rfl
theorem qnN {L:List (Nu×Nat×List Nu)} {i:Nat} {q:Nu×Nat×List Nu} (h:L[i]?=some q):sm3 (L.take (i+1))=sm3 (L.take i)+q.2.1:=by
 rw [wbv,h,qcv];rfl
theorem qro (L:List (Nu×Nat×List Nu)) (i:Nat):sm3 (L.take i)<=sm3 L:=by
 have:=qcv (L.take i) (L.drop i)
 rw [wb3] at this
 omega
theorem qeY:∀ (A B:List (Nu×Nat×List Nu)),pd (A++B)=pd A*pd B
 | [],B=>by show pd B=1*pd B;grind
 | q::A,B=>by
   show sr q.2.2*pd (A++B)=sr q.2.2*pd A*pd B
   rw [qeY A B];grind
theorem qgD:∀ (A B:List (Nu×Nat×List Nu)),lg (A++B)=lg A*pd B+pd A*lg B
 | [],B=>by show lg B=0*pd B+1*lg B;grind
 | q::A,B=>by
   show Sr.num (val q.1)*Sr.D (sr q.2.2)*pd (A++B)+sr q.2.2*lg (A++B)=(Sr.num (val q.1)*Sr.D (sr q.2.2)*pd A+sr q.2.2*lg A)*pd B+sr q.2.2*pd A*lg B
   rw [qgD A B,qeY A B];grind
theorem pdq (q:Nu×Nat×List Nu) (B:List (Nu×Nat×List Nu)):pd (q::B)=sr q.2.2*pd B:=rfl
theorem qmP (q:Nu×Nat×List Nu) (B:List (Nu×Nat×List Nu)):lg (q::B)=Sr.num (val q.1)*Sr.D (sr q.2.2)*pd B+sr q.2.2*lg B:=rfl
theorem qbI:∀ L:List (Nu×Nat×List Nu),Sr.Pol (pd L)
 | []=>Sr.Pol.nat 1
 | q::L=>(qam _).mul (qbI L)
theorem qrp:∀ L:List (Nu×Nat×List Nu),Sr.Pol (lg L)
 | []=>Sr.Pol.nat 0
 | q::L=>(((Sr.Pol.num _).mul (qam _).D).mul (qbI L)).add ((qam _).mul (qrp L))
theorem qoL {d:Nat} {l:List Nu} (h:Pt d l):sr l≠0:=qci h.g.low h.g.nz h.ne
theorem Prs.pd_ne {H:Hp} {ws:List V} {L:List (Nu×Nat×List Nu)}:Prs H ws L->pd L≠0:=l2 ws L ⟨λ_ _ h=>h.elim,λ_ _ h=>h.elim⟩ (λ_=>one_ne) λ_ _ _ L r h=>Sr.ne_mul (qam _) (qbI L) (qoL h.2.2.1) (r h.2.2.2)
noncomputable def Mr (M M':List (Nu×Nat×List Nu)) (q:Nu×Nat×List Nu):Prop:=pd M'=pd M*sr q.2.2/\lg M'=lg M*sr q.2.2+pd M*(Sr.num (val q.1)*Sr.D (sr q.2.2))
theorem qnO (A B:List (Nu×Nat×List Nu)) (q:Nu×Nat×List Nu):Mr (A++B) (A++q::B) q:=by
 unfold Mr
 rw [qeY,qeY,qgD,qgD,pdq,qmP]
 exact ⟨by grind,by grind⟩
theorem qwv (A B:List (Nu×Nat×List Nu)) {q y:Nu×Nat×List Nu} {n:Nat} {R:List Nu} (e:y.1=q.1) (o:sr R=sr y.2.2*sr q.2.2):Mr (A++y::B) (A++(q.1,n,R)::B) q:=by
 unfold Mr
 rw [qeY,qeY,qgD,qgD,pdq,qmP,pdq,qmP]
 show pd A*(sr R*pd B)=_/\lg A*(sr R*pd B)+pd A*(Sr.num (val q.1)*Sr.D (sr R)*pd B+sr R*lg B)=_
 rw [o,Sr.D_mul (qam _),e]
 exact ⟨by grind,by grind⟩
theorem qtX {d e:Nat} {l m R:List Nu} (h:Pt d l) (g:Pt e m) (G:Gq (8*d - 6+(8*e - 6)+l.length) (2*d+2*e) R) (lr:R.length<=l.length+m.length - 1) (eq:∀ k,pwo R k=cv (pwo l) (pwo m) l.length k) (s:d+e<=6):Pt (d+e) R:=by
 have h1:=h.len
 have h2:=g.len
 have h3:=h.d1
 have h4:=g.d1
 refine ⟨G.mono ⋯ ⋯,λz=>Sr.ne_mul (qam _) (qam _) (qci h.g.low h.g.nz h.ne) (qci g.g.low g.g.nz g.ne) (by rw [<-qb8 eq,z];exact qwQ),⋯,⋯⟩
theorem Sn.bd {c:Nu} (h:Sn c):Bd 15 c.1/\Bd 4 c.2:=by
 obtain ⟨lo,h1,h2⟩:=h
 have:=lo.pos
 unfold Bd
 exact ⟨⋯,⋯⟩
theorem qxm {K:W.Frag} {H0 H:Hp} {D:Ends} {p r c w:Addr} {xs:List V} {M:List (Nu×Nat×List Nu)} {q:Nu×Nat×List Nu} {i pc:Nat} (s0:Same H0 H) (r0:H0 r=none) (hr:H r=some (.lst xs)) (PM:Prs H xs M) (pcl:pc<=xs.length) (hc:Nm H c q.1.1 q.1.2) (Pw:Pl H w q.2.2) (sq:Sn q.1) (pt:Pt q.2.1 q.2.2) (sm:sm3 M+q.2.1<=6) (ml:M.length<=i) (i6:i<=100)
  (k:∀ H' xs' M',Same H0 H'->H' r=some (.lst xs')->Prs H' xs' M'->sm3 M'<=sm3 M+q.2.1->M'.length<=i+1->(Mr M M' q\/(M'=M/\q.1=(0,1)))->D.nx [some (.ref p),some (.ref r),some (.ref c),some (.ref w),some (.int pc)] H'):qdU K D [some (.ref p),some (.ref r),some (.ref c),some (.ref w),some (.int pc)] H:=by
 have xl:=PM.len
 have ins:∀ H2:Hp,Same H H2->qd5 (qa2 (tOp neD (qag 2) (qb9 (qab (tC (.int 0)) (qab (tC (.int 1)) qal))))) (qgL (tBM K "list" ql8 (qag 1) (qab (qag 4) (qab (qb9 (qab (qag 2) (qab (qag 3) qal))) qal)))) qbN D [some (.ref p),some (.ref r),some (.ref c),some (.ref w),some (.int pc)] H2:=λH2 s2=>by
  refine qch (qcO (qan rfl (qbm (r_c (r_c ⟨qcP,λz hz=>?_⟩)))))
  have sz':=qaf hz (.tup [.int 0,.int 1])
  have iC:isN (upd H2 z (.tup [.int 0,.int 1])) (.ref c) q.1:=⟨c,rfl,sz' _ _ (s2 _ _ hc)⟩
  have iZ:isN (upd H2 z (.tup [.int 0,.int 1])) (.ref z) (0,1):=⟨z,rfl,upd_same⟩
  refine ⟨_,_,decide (q.1=((0,1):Nu)),qtC iC,qtC iZ,okN _ 7,okN _ 7,?_,_,rfl,?_⟩
  ·rw [decide_eq_true_eq]
   exact ⟨λz=>by rw [z],qhk⟩
  have s3:=s2.trans sz'
  generalize upd H2 z (.tup [.int 0,.int 1])=H3 at s3 ⊢
  refine qck (λ_=>?_) (λc0=>k H3 xs M (s0.trans s3) (s3 _ _ hr) (PM.tp (tpS s3)) ⋯ ⋯ (.inr ⟨rfl,by simpa using c0⟩))
  refine ⟨_,rfl,.inl ⟨rfl,_,SqL.of (s3 _ _ hr)⟩,?_⟩
  refine ⟨_,rfl,_,rfl,_,rfl,qcP,λt ht=>?_⟩
  have s4:=qaf ht (.tup [.ref c,.ref w])
  have ht4:(upd H3 t (.tup [.ref c,.ref w])) t=some (HO.tup [V.ref c,V.ref w]):=upd_same
  have s04:=s3.trans s4
  generalize upd H3 t (.tup [.ref c,.ref w])=H4 at ht4 s04 ⊢
  have hr4:=s04 _ _ hr
  refine ⟨_,_,_,pc,rfl,rfl,hr4,pcl,wav (by omega:xs.length<1000000) (sz (wac _)),?_⟩
  have t5:Tp H4 (upd H4 r (.lst (xs.take pc++V.ref t::xs.drop pc))):=qia hr4
  have PM4:=PM.tp (tpS s04)
  obtain ⟨c1,c2⟩:=PM4.cut pc
  refine k _ _ (M.take pc++q::M.drop pc) (λb o hb=>(qaA (qas hb r0)).trans (s04 _ _ (s0 _ _ hb))) upd_same ((Prs.app c1 (vs:=V.ref t::xs.drop pc) (M:=q::M.drop pc) ⟨⟨t,c,w,rfl,ht4,s04 _ _ hc,Pw.same s04⟩,sq,pt,c2⟩).tp t5) ?_ ?_ (.inl ?_)
  ·have:=qcv (M.take pc) (M.drop pc)
   rw [wb3] at this
   rw [qcv,qfS];omega
  ·rw [wao,way,waw,wb5];omega
  ·have:=qnO (M.take pc) (M.drop pc) q
   rw [wb3] at this
   exact this
 refine qch (qcO (qan rfl (qjG (qan rfl ⟨_,_,rfl,hr,⟨_,_,rfl,rfl,_,rfl,qck (λc1=>?_) (λc1=>?_)⟩⟩))))
 ·have lt:pc<xs.length:=by have:=of_decide_eq_true c1;omega
  obtain ⟨y,hy,⟨t,cy,wy,ey,hty,hcy,Py⟩,sy,py⟩:=PM.get (wah lt)
  have at1:atI xs (pc:Int)=some (V.ref t):=qcg (j:=pc) rfl (by rw [wah lt,ey])
  have My:M[pc]?=some y:=hy
  have ml2:pc<M.length:=by omega
  refine qch (qcO (qcO (qcO (qan rfl (qan rfl ⟨_,_,_,_,rfl,rfl,hr,at1,r_c ⟨_,_,_,_,rfl,rfl,hty,rfl,qan rfl ?_⟩⟩)))))
  obtain ⟨bb,hbb⟩:=qva (qnq y.1=qnq q.1) ()
  refine ⟨_,_,bb,qtC ⟨cy,rfl,hcy⟩,qtC ⟨c,rfl,hc⟩,okN _ 7,okN _ 7,hbb,_,rfl,qck (λc2=>?_) (λc2=>ins H (Same.refl H))⟩
  have dec:M=M.take pc++y::M.drop (pc+1):=by
   have e1:=wap.mp My
   conv=>lhs;rw [<-wb3 pc M,List.drop_eq_getElem_cons ml2,e1.2]
  have smM:sm3 M=sm3 (M.take pc)+(y.2.1+sm3 (M.drop (pc+1))):=by
   conv=>lhs;rw [dec]
   rw [qcv,qfS]
  obtain ⟨z1,h1,n1⟩:=Py
  obtain ⟨z2,h2,n2⟩:=Pw
  have yl:=py.len
  have ql:=pt.len
  refine ⟨_,rfl,?_⟩
  refine qbs (qcO (qcO (qan rfl (qan rfl ⟨_,_,_,_,rfl,rfl,hr,at1,r_c ⟨_,_,_,_,rfl,rfl,hty,rfl,qan rfl ⟨_,_,z1,z2,_,_,_,_,_,_,rfl,h1,h2,n1,n2,py.g,pt.g,⋯,⋯,⋯,⋯,⋯,⋯,λr3 R H3 s3 P3 G3 l3 e3=>⟨qcP,λt3 ht3=>?_⟩⟩⟩⟩))))
  have s4:=qaf ht3 (.tup [.ref c,.ref r3])
  have ht4:(upd H3 t3 (.tup [.ref c,.ref r3])) t3=some (HO.tup [V.ref c,V.ref r3]):=upd_same
  have s04:=s3.trans s4
  have P4:=P3.same s4
  generalize upd H3 t3 (.tup [.ref c,.ref r3])=H4 at ht4 s04 P4 ⊢
  have hr4:=s04 _ _ hr
  refine ⟨_,rfl,_,rfl,_,_,_,pc,rfl,rfl,hr4,qfM rfl lt,?_⟩
  have t5:Tp H4 (upd H4 r (.lst (xs.set pc (V.ref t3)))):=qia hr4
  have PM4:=PM.tp (tpS s04)
  have c1':=(PM4.cut pc).1
  have c2':=(PM4.cut (pc+1)).2
  have es:xs.set pc (V.ref t3)=xs.take pc++V.ref t3::xs.drop (pc+1):=by rw [List.set_eq_take_append_cons_drop,if_pos lt]
  refine k _ _ (M.take pc++(q.1,y.2.1+q.2.1,R)::M.drop (pc+1)) (λb o hb=>(qaA (qas hb r0)).trans (s04 _ _ (s0 _ _ hb))) upd_same ?_ ?_ ?_ (.inl ?_)
  ·rw [es] at t5 ⊢
   exact (Prs.app c1' (vs:=V.ref t3::xs.drop (pc+1)) (M:=(q.1,y.2.1+q.2.1,R)::M.drop (pc+1)) ⟨⟨t3,c,r3,rfl,ht4,s04 _ _ hc,P4⟩,sq,qtX py pt G3 l3 e3 ⋯,c2'⟩).tp t5
  ·rw [qcv,qfS]
   show _+(y.2.1+q.2.1+_)<=_
   omega
  ·rw [wao,way,waw,wb5];omega
  ·have:=qwv (M.take pc) (M.drop (pc+1)) (n:=y.2.1+q.2.1) (qhk (hbb.mp c2)) (qb8 e3)
   rw [<-dec] at this
   exact this
 ·exact ins H (Same.refl H)
theorem qs1:val ((0,1):Nu)=0:=by unfold val;show ((0:Int):Rat) / ((1:Int):Rat)=0;rw [show ((0:Int):Rat)=0 from rfl];grind
theorem qs3:Sr.num 0=0:=Sr.ext' λk=>by show (0:Rat)*qca k=(0:Sr).c k;rw [Sr.zero_c];grind
theorem qvb {L M M':List (Nu×Nat×List Nu)} {i:Nat} {q:Nu×Nat×List Nu} {G:Sr} (hq:L[i]?=some q) (pt:Pt q.2.1 q.2.2) (h:Mr M M' q\/(M'=M/\q.1=(0,1))) (pG:Sr.Pol G) (G0:G≠0) (eL:lg (L.take i)=G*lg M) (eP:pd (L.take i)=G*pd M):∃ G,Sr.Pol G/\G≠0/\lg (L.take (i+1))=G*lg M'/\pd (L.take (i+1))=G*pd M':=by
 have e:L.take (i+1)=L.take i++[q]:=by rw [wbv,hq];rfl
 have e1:pd (L.take (i+1))=G*pd M*sr q.2.2:=by rw [e,qeY,eP];show _*(sr q.2.2*1)=_;grind
 have e2:lg (L.take (i+1))=G*lg M*sr q.2.2+G*pd M*(Sr.num (val q.1)*Sr.D (sr q.2.2)):=by rw [e,qgD,eL,eP];show _*(sr q.2.2*1)+_*(Sr.num (val q.1)*Sr.D (sr q.2.2)*1+sr q.2.2*0)=_;grind
 rcases h with ⟨h1,h2⟩ | ⟨rfl,h2⟩
 ·exact ⟨G,pG,G0,by rw [e2,h2];grind,by rw [e1,h1];grind⟩
 ·refine ⟨G*sr q.2.2,pG.mul (qam _),Sr.ne_mul pG (qam _) G0 (qoL pt),?_,by rw [e1];grind⟩
  rw [e2,h2,qs1,qs3];grind
theorem qrq (h:qbX K vs H Q E):qsF K { nx:=λ_ H'=>Q .non H',rt:=Q } (L2.start ["_law_pairs","_law_rows","_law_c","_law_part","_law_place"] vs) H:=by
 obtain ⟨p,ws,L,S,rfl,hp,PL,sS,s6,l6,k⟩:=h
 refine ⟨sz ∅,λr hr=>?_⟩
 have s1:=qaf hr (.lst [])
 have h1:(upd H r (.lst [])) r=some (HO.lst []):=upd_same
 generalize upd H r (.lst [])=H1 at s1 h1 ⊢
 have wl:=PL.len
 show qjd K _ _ _
 refine qly (qan rfl ⟨_,rfl,⟨_,SqL.of (s1 _ _ hp)⟩,ForL.by (xs:=ws) (λi σ H'=>i<=ws.length/\∃ (c2 c3 c4:Option V) (xs:List V) (M:List (Nu×Nat×List Nu)),σ=[some (.ref p),some (.ref r),c2,c3,c4]/\Same H H'/\H' r=some (.lst xs)/\Prs H' xs M/\sm3 M<=sm3 (L.take i)/\M.length<=i/\∃ G,Sr.Pol G/\G≠0/\lg (L.take i)=G*lg M/\pd (L.take i)=G*pd M) ⟨wae _,none,none,none,[],[],rfl,s1,h1,trivial,wac _,wac _,1,Sr.Pol.nat 1,one_ne,by show (0:Sr)=1*0;grind,by show (1:Sr)=1*1;grind⟩ ?_ ?_ ?_⟩)
 ·rintro i σ H' _ ⟨_,c2,c3,c4,xs,M,rfl,s,_⟩
  exact SqL.of (s _ _ hp)
 ·rintro i x σ H2 hx ⟨_,c2,c3,c4,xs,M,rfl,s2,hr2,PM,sM,lM,G,pG,G0,eL,eP⟩
  have lt:i<ws.length:=(wap.mp hx).1
  obtain ⟨q,hq,⟨t,c,w,rfl,ht,hc,Pw⟩,sq,pt⟩:=(PL.tp (tpS s2)).get hx
  have e1:=qnN hq
  have e2:=qro L (i+1)
  have xl:=PM.len
  refine ⟨_,_,rfl,ht,rfl,_,_,rfl,_,_,rfl,rfl,?_⟩
  show qfL K _ _ _
  have fin:∀ pc:Nat,pc<=xs.length->qdU K { nx:=λσ H'=>i+1<=ws.length/\∃ (c2 c3 c4:Option V) (xs:List V) (M:List (Nu×Nat×List Nu)),σ=[some (.ref p),some (.ref r),c2,c3,c4]/\Same H H'/\H' r=some (.lst xs)/\Prs H' xs M/\sm3 M<=sm3 (L.take (i+1))/\M.length<=i+1/\∃ G,Sr.Pol G/\G≠0/\lg (L.take (i+1))=G*lg M/\pd (L.take (i+1))=G*pd M,rt:=Q,ct:=λσ H'=>i+1<=ws.length/\∃ (c2 c3 c4:Option V) (xs:List V) (M:List (Nu×Nat×List Nu)),σ=[some (.ref p),some (.ref r),c2,c3,c4]/\Same H H'/\H' r=some (.lst xs)/\Prs H' xs M/\sm3 M<=sm3 (L.take (i+1))/\M.length<=i+1/\∃ G,Sr.Pol G/\G≠0/\lg (L.take (i+1))=G*lg M/\pd (L.take (i+1))=G*pd M,bk:=qjc K { nx:=λ_ H'=>Q .non H',rt:=Q } } [some (.ref p),some (.ref r),some (.ref c),some (.ref w),some (.int pc)] H2:=λpc hpc=>
   qxm s2 hr hr2 PM hpc hc Pw sq pt ⋯ lM ⋯ λH' xs' M' a1 a2 a3 a4 a5 a6=>⟨lt,_,_,_,xs',M',rfl,a1,a2,a3,⋯,a5,qvb hq pt a6 pG G0 eL eP⟩
  refine qcp (r_c ?_)
  refine while_by (λj σ H'=>∃ pc:Nat,pc<=xs.length/\σ=[some (.ref p),some (.ref r),some (.ref c),some (.ref w),some (.int pc)]/\H2=H'/\j=xs.length - pc) xs.length ⟨0,wae _,rfl,rfl,rfl⟩ ?_
  rintro j σ H' ⟨pc,hpc,rfl,rfl,rfl⟩
  refine qch (qcO (qan rfl (qjG (qan rfl ⟨_,_,rfl,hr2,⟨_,_,rfl,rfl,_,rfl,qck (λc1=>?_) (λc1=>fin pc hpc)⟩⟩))))
  have lt2:pc<xs.length:=by have:=of_decide_eq_true c1;omega
  obtain ⟨y,hy,⟨ty,cy,wy,ey,hty,hcy,Py⟩,sy,py⟩:=PM.get (wah lt2)
  have at1:atI xs (pc:Int)=some (V.ref ty):=qcg (j:=pc) rfl (by rw [wah lt2,ey])
  have by1:=sy.bd
  have bq1:=sq.bd
  refine qbs (qcO (qcO (qan rfl (qan rfl ⟨_,_,_,_,rfl,rfl,hr2,at1,r_c ⟨_,_,_,_,rfl,rfl,hty,rfl,qan rfl ⟨_,_,_,_,_,_,rfl,hcy,hc,by1.1.mono ∅,by1.2.mono ∅,bq1.1.mono ∅,bq1.2.mono ∅,_,rfl,qck (λc2=>?_) (λc2=>fin pc hpc)⟩⟩⟩))))
  refine ⟨_,λ_ _ h=>h,⟨_,rfl,_,_,rfl,rfl,?_⟩⟩
  exact ⟨xs.length - (pc+1),⋯,pc+1,lt2,rfl,rfl,rfl⟩
 ·rintro σ H2 ⟨_,c2,c3,c4,xs,M,rfl,s2,hr2,PM,sM,lM,G,pG,G0,eL,eP⟩
  have e2:=qro L ws.length
  refine qdu (qjG (qan rfl ⟨_,_,rfl,hr2,λf hf=>?_⟩))
  have s3:=qaf hf (.tup xs)
  rw [wl,wa3] at eL eP
  exact k f xs M G _ upd_same (PM.tp (tpS s3)) ⋯ pG G0 eL eP (s2.trans s3)
theorem qww {K:W.Frag} {tl:TE} {g:TG} {tb rest:TS} {D:Ends} {σ:L2.St} {H:Hp} (h:tl σ H λx H1=>∃ a,x=.ref a/\(∃ xs,SqT K H1 a xs)/\ForT K a g tb { D with nx:=rest D } σ H1):qaF (qe4 (qo4 K tl) g tb) rest D σ H:=h
theorem qvc {b c:Nat} {l:List Nu} {q:Nu} (G:Gq b c l) (sq:Sn q):Gq (15+b) (4+c) (trim (l.map λx=>nmul x (q.1,q.2))):=by
 have q0:=sq.1.pos
 have lo:=qhm (a:=q.1) G.low q0
 have B0:=(qbi G.low).1
 obtain ⟨c1,c2,_⟩:=G.clr
 refine qj2 (λx hx=>lo x (qbC hx)) (qdN _) (M:=q.2*qbJ l) (wa2 q0 B0) (sq.bd.2.mul c2) (N:=λk=>q.1*co (qa1 l) k) (λk=>?_) λk=>sq.bd.1.mul (qbE c1 k)
 rw [qdP lo,qhl G.low q0,qdb G.low]
 have h1:=qaI (wad q0)
 have h2:=qaI (wad B0)
 show (q.1:Rat) / (q.2:Rat)*_=_
 push_cast
 grind
theorem qwx {K:W.Frag} {σ:L2.St} {H:Hp} {Q:VK} {i j:Nat} {v c:Addr} {q:Nu×Nat×List Nu} (hv:σ[i]?=some (some (.ref v))) (hc:σ[j]?=some (some (.ref c))) (P:Pl H v q.2.2) (pt:Pt q.2.1 q.2.2) (sq:Sn q.1) (hn:Nm H c q.1.1 q.1.2) (d6:q.2.1<=6)
  (k:∀ r R H',Same H H'->Pl H' r R->Gq (8*q.2.1+14) (2*q.2.1+4) R->R.length<=q.2.1->sr R=Sr.num (val q.1)*Sr.D (sr q.2.2)->Q (.ref r) H'):qak (qbq K) [] E0 (qab (qak (qbx K) [] E0 (qab (qag i) qal)) (qab (qag j) qal)) σ H Q:=by
 obtain ⟨z,hz,hN⟩:=P
 have ql:=pt.len
 have d1:=pt.d1
 refine qbs (qco (qan hv ⟨_,z,_,_,_,rfl,hz,hN,pt.g,⋯,⋯,⋯,λr1 R1 H1 s1 P1 G1 l1 e1=>qan hc ?_⟩))
 obtain ⟨z1,h1,n1⟩:=P1
 have bb:=sq.bd
 obtain ⟨_,_,g3⟩:=G1.clr
 obtain ⟨M,O,bM,_⟩:=G1.ov
 refine ⟨_,_,z1,R1,q.1.1,q.1.2,rfl,h1,s1 _ _ hn,n1,G1.low,sq.1.pos,bb.1.mono ∅,bb.2.mono ∅,λx hx=>⟨(g3 x hx).mono ⋯,(qdh (wad O.1) (O.2 x hx) bM).mono ⋯⟩,⋯,λr2 zs H2 s2 h2 n2=>?_⟩
 refine k r2 _ H2 (s1.trans s2) ⟨zs,h2,n2⟩ ((qvc G1 sq).mono ⋯ ⋯) ?_ ?_
 ·have:=qcw (R1.map λx=>nmul x (q.1.1,q.1.2))
  rw [waa] at this
  omega
 ·rw [<-qxc e1]
  exact Sr.ext' λk=>by
   rw [Sr.num_mul]
   show pwo (trim _) k=_
   rw [qdP (qhm G1.low sq.1.pos),qhl G1.low sq.1.pos];rfl
theorem C0.le {x n m e x' n' m':Nat} (h:C0 x n m e) (hx:x'<=x) (hn:n'<=n) (hm:m'<=m) (n1:1<=n') (m1:1<=m'):C0 x' n' m' e:=by
 obtain ⟨a1,a2,a3,a4,a5,a6,a7,a8⟩:=h
 exact ⟨n1,m1,⋯,⋯,⋯,⋯,a7,wak (wbl ⋯ ⋯) a8⟩
theorem C2.le {b n m e b' n' m':Nat} (h:C2 b n m e) (hb:b'<=b) (hn:n'<=n) (hm:m'<=m) (n1:1<=n') (m1:1<=m'):C2 b' n' m' e:=by
 obtain ⟨a,t,b9,m50⟩:=h
 have mm:∀ {p q:Nat},p<=q->p*(2*e+4)<=q*(2*e+4):=λhh=>wa4 _ hh
 refine ⟨C0.le a (Nat.add_le_add hb (mm ⋯)) hm hm m1 m1,C0.le t (Nat.add_le_add ⋯ (mm ⋯)) ⋯ hm ⋯ m1,⋯,⋯⟩
theorem Fx.mono {H:Hp} {p:Addr} {b n m b' n' m':Nat} {N D:Sr} (h:Fx H p b n m N D) (h1:b<=b') (h2:n<=n') (h3:m<=m'):Fx H p b' n' m' N D:=let ⟨T,B,f,r,w⟩:=h;⟨T,B,f,r.mono h1 h2 h3,w⟩
theorem Fx.wt {H:Hp} {p:Addr} {b n m:Nat} {N D:Sr} (h:Fx H p b n m N D):WtF H p b n m N D:=let ⟨T,B,f,r,w⟩:=h;⟨T,B,f,r,w.pN,w.pD,w.D0,w.eq⟩
theorem WtF.fx {H:Hp} {p:Addr} {b n m:Nat} {N D:Sr} (h:WtF H p b n m N D):Fx H p b n m N D:=let ⟨T,B,f,r,a,b,c,d⟩:=h;⟨T,B,f,r,a,b,c,d⟩
theorem qrr {L:List (Nu×Nat×List Nu)} {i:Nat} {q:Nu×Nat×List Nu} (hq:L[i]?=some q):pd (L.take (i+1))=pd (L.take i)*sr q.2.2/\lg (L.take (i+1))=lg (L.take i)*sr q.2.2+pd (L.take i)*(Sr.num (val q.1)*Sr.D (sr q.2.2)):=by
 have e:L.take (i+1)=L.take i++[q]:=by rw [wbv,hq];rfl
 rw [e,qeY,qgD]
 show _*(sr q.2.2*1)=_/\_*(sr q.2.2*1)+_*(Sr.num (val q.1)*Sr.D (sr q.2.2)*1+sr q.2.2*0)=_
 exact ⟨by grind,by grind⟩
theorem qj8 (h:qcW K vs H Q E):qlb K { nx:=λ_ H'=>Q .non H',rt:=Q } (L2.start ["form","slope","c","v"] vs) H:=by
 obtain ⟨o,T,B,L,b,n,m,S,rfl,⟨f,l,ws,ho,F,R,hl,PL,sS,cz⟩,k⟩:=h
 obtain ⟨z1,z2,z3,z4,z5,z6,z7,z8,z9,z10,z11,z12⟩:=cz
 refine qcn (qip rfl ho rfl (qnK (qh7 F R) 3 ⟨z1,z2,z4,z5,z6⟩ λt1 H1 s1 f1=>?_))
 have wl:=PL.len
 have n1:=z1.n1
 refine qww (qip rfl (s1 _ _ ho) rfl ⟨_,rfl,⟨_,SqT.of (s1 _ _ hl)⟩,ForT.by (xs:=ws) (λi σ H'=>i<=ws.length/\∃ (t:Addr) (c2 c3:Option V),σ=[some (.ref o),some (.ref t),c2,c3]/\Same H H'/\Fx H' t (2*b+10+30*sm3 (L.take i)) (n+m - 1+sm3 (L.take i)) (2*m - 1+sm3 (L.take i)) (nn T B*pd (L.take i)+dd B*lg (L.take i)) (dd B*pd (L.take i))) ⟨wae _,t1,none,none,rfl,s1,?_⟩ ?_ ?_ ?_⟩)
 ·have e1:nn T B*pd (L.take 0)+dd B*lg (L.take 0)=sr B*Sr.D (sr T) - sr T*Sr.D (sr B):=by show nn T B*1+dd B*0=nn T B;grind
  have e2:dd B*pd (L.take 0)=sr B*sr B:=by show dd B*1=dd B;grind
  rw [e1,e2]
  exact f1.mono ⋯ (Nat.le_add_right _ _) ⋯
 ·rintro i σ H' _ ⟨_,t,c2,c3,rfl,s,_⟩
  exact s _ _ hl
 ·rintro i x σ H2 hx ⟨_,t,c2,c3,rfl,s2,f2⟩
  have lt:i<ws.length:=(wap.mp hx).1
  obtain ⟨q,hq,⟨y,c,w,rfl,hy,hc,Pw⟩,sq,pt⟩:=(PL.tp (tpS s2)).get hx
  have e1:=qnN hq
  have e2:=qro L (i+1)
  have d1:=pt.d1
  have ql:=pt.len
  obtain ⟨g1,g2⟩:=qrr hq
  rw [e1,g1,g2]
  generalize sm3 (L.take i)=s at f2 e1 ⊢
  refine ⟨_,_,rfl,hy,rfl,_,_,rfl,_,_,rfl,rfl,?_⟩
  refine qji (qbs (qan rfl (qbs (qwx (i:=3) (j:=2) rfl rfl Pw pt sq hc ⋯ λr R H3 s3 P3 G3 l3 e3=>qan rfl ?_))))
  refine ⟨_,_,R,q.2.2,100,140,7,7,3,rfl,P3,Pw.same s3,G3.mono ⋯ ⋯,pt.g.mono ⋯ ⋯,pt.ne,⋯,⋯,λz=>(qep G3 z (n:=7) (e:=3) ⋯ ∅).mono ⋯,(qep pt.g pt.ne (n:=7) (e:=3) ⋯ ∅).mono ⋯,∅,∅,λt4 H4 X Y s4 ff lw eq=>?_⟩
  have g4:Fx H4 t4 (10*q.2.1+14) q.2.1 (q.2.1+1) (Sr.num (val q.1)*Sr.D (sr q.2.2)) (sr q.2.2):=⟨X,Y,ff,Rp.of lw G3 pt.g pt.ne l3 ql eq ⋯ ⋯,(Sr.Pol.num _).mul (qam _).D,qam _,qci pt.g.low pt.g.nz pt.ne,by rw [eq,e3]⟩
  refine qh8 ((f2.same s3).same s4) g4 5 ⟨C2.le z10 ⋯ ⋯ ⋯ ⋯ ⋯,⋯,⋯,⋯⟩ λt5 H5 s5 f5=>⟨lt,t5,_,_,rfl,((s2.trans s3).trans s4).trans s5,?_⟩
  have w1:nn T B*(pd (L.take i)*sr q.2.2)+dd B*(lg (L.take i)*sr q.2.2+pd (L.take i)*(Sr.num (val q.1)*Sr.D (sr q.2.2)))=(nn T B*pd (L.take i)+dd B*lg (L.take i))*sr q.2.2+Sr.num (val q.1)*Sr.D (sr q.2.2)*(dd B*pd (L.take i)):=by grind
  have w2:dd B*(pd (L.take i)*sr q.2.2)=dd B*pd (L.take i)*sr q.2.2:=by grind
  rw [w1,w2]
  exact f5.mono ⋯ ⋯ ⋯
 ·rintro σ H2 ⟨_,t,c2,c3,rfl,s2,f2⟩
  rw [wl,wa3] at f2
  exact qdu (qan rfl (k t H2 s2 (f2.mono ⋯ ⋯ ⋯).wt))
theorem qwy {H:Hp} {p q:Addr} {b n m b' n' m':Nat} {N D N' D':Sr} (f:Fx H p b n m N D) (g:Fx H q b' n' m' N' D'):∃ T B T' B',FF H p T B/\FF H q T' B'/\(N*D'=N'*D↔qtU T B=qtU T' B'):=by
 obtain ⟨T,B,F,R,W⟩:=f
 obtain ⟨T',B',F',R',W'⟩:=g
 refine ⟨T,B,T',B',F,F',λe=>?_,λe=>?_⟩
 ·obtain ⟨rfl,rfl⟩:=R.lw.uniq' R'.lw (W.pD.mul W'.pD) (Sr.ne_mul W.pD W'.pD W.D0 W'.D0) (by
   have h1:sr T*sr B'*(D*D')=(sr T*D)*sr B'*D':=by grind
   have h2:sr T'*sr B*(D*D')=(sr T'*D')*sr B*D:=by grind
   rw [h1,h2,W.eq,W'.eq]
   have h3:N*sr B*sr B'*D'=N*D'*sr B*sr B':=by grind
   rw [h3,e];grind)
  rfl
 ·unfold qtU at e
  injection e with e
  injection e with e1 e2
  injection e2 with e2
  have t1:=qj1 e1
  have t2:=qj1 e2
  subst t1 t2
  refine Sr.cancel (W.pN.mul W'.pD) (W'.pN.mul W.pD) (qam B) (qci R.lw.lb R.lw.nb R.lw.ne) ?_
  have h1:N*D'*sr B=N*sr B*D':=by grind
  have h2:N'*D*sr B=N'*sr B*D:=by grind
  rw [h1,h2,<-W.eq,<-W'.eq];grind
theorem qj9 (h:qbQ K vs H Q E):qlc K { nx:=λ_ H'=>Q .non H',rt:=Q } (L2.start ["f","form"] vs) H:=by
 obtain ⟨a,o,T,B,L,b,n,m,S,b',n',m',N,D,rfl,wa,fm,k⟩:=h
 refine qdu (qcO (qco (qan rfl ⟨_,T,B,L,b,n,m,S,rfl,fm,λt H1 s1 w1=>qan rfl ?_⟩)))
 obtain ⟨X,Y,X',Y',F,F',e⟩:=qwy w1.fx (wa.fx.same s1)
 obtain ⟨x,hx⟩:=qva (qtU X Y=qtU X' Y') ()
 exact ⟨_,_,x,qxH F,qxH F',okF _ _ 5,okF _ _ 5,hx,k x H1 s1 (hx.trans e.symm)⟩
theorem qrs (h:qdD K vs H Q E):qsA K { nx:=λ_ H'=>Q .non H',rt:=Q } (L2.start ["P"] vs) H:=by
 obtain ⟨p,l,rfl,P,k⟩:=h
 refine qdu (qbm (qan rfl (qnr (qbm (r_c (r_c ⟨qcP,λu hu=>⟨qjH,λv hv=>⟨qcP,λt ht=>?_⟩⟩⟩))))))
 have s1:=qaf hu (.tup [.int 1,.int 1])
 have s2:=qaf hv (.tup [.ref u])
 have s3:=qaf ht (.tup [.ref p,.ref v])
 exact k t _ ((s1.trans s2).trans s3) ⟨p,v,upd_same,P.same ((s1.trans s2).trans s3),⟨_,s3 _ _ upd_same,⟨u,rfl,s3 _ _ (s2 _ _ upd_same)⟩,trivial⟩⟩
theorem qmQ (h:qdS K vs H Q E):qoh K { nx:=λ_ H'=>Q .non H',rt:=Q } (L2.start ["c"] vs) H:=by
 obtain ⟨p,c,rfl,hp,k⟩:=h
 refine qdu (qco (qco (qgv (qan rfl ⟨qjH,λw hw=>?_⟩))))
 have s1:=qaf hw (.lst [.ref p])
 exact ⟨_,_,[c],rfl,upd_same,⟨⟨p,rfl,s1 _ _ hp⟩,trivial⟩,by simp,λr zs H1 s2 hr hz=>⟨_,_,rfl,⟨zs,hr,hz⟩,λt H2 s3 ff=>k t H2 ((s1.trans s2).trans s3) ff⟩⟩
theorem qvd {L:List (Nat×List Nu)} {i:Nat} {q:Nat×List Nu} (h:L[i]?=some q):sm (L.take (i+1))=sm (L.take i)+q.1:=by
 rw [wbv,h,qrl];rfl
theorem qxn (L:List (Nat×List Nu)) (i:Nat):sm (L.take i)<=sm L:=by
 have:=qrl (L.take i) (L.drop i)
 rw [wb3] at this
 omega
theorem qrt:∀ (A B:List (Nat×List Nu)),ppd (A++B)=ppd A*ppd B
 | [],B=>by show ppd B=1*ppd B;grind
 | q::A,B=>by
   show sr q.2*ppd (A++B)=sr q.2*ppd A*ppd B
   rw [qrt A B];grind
theorem qs4 {L:List (Nat×List Nu)} {i:Nat} {q:Nat×List Nu} (h:L[i]?=some q):ppd (L.take (i+1))=ppd (L.take i)*sr q.2:=by
 rw [wbv,h,qrt];show _*(sr q.2*1)=_;grind
theorem qwz {b c:Nat} (hb:1<=b) (hc:1<=c):Gq b c [((1:Int),(1:Int))]:=⟨λq hq=>by rw [wag.mp hq];exact qmK,λq hq=>by obtain rfl:(1,1)=q:=Option.some.inj hq;decide,1,⟨∅,λq hq=>by rw [wag.mp hq];exact wbp _⟩,Bd.mono (show Bd 1 1 by unfold Bd;decide) hc,λz hz=>by rw [show z=1 from wag.mp hz];exact Bd.mono (show Bd 1 1 by unfold Bd;decide) hb⟩
theorem qlz (h:qcA K vs H Q E):qmt K { nx:=λ_ H'=>Q .non H',rt:=Q } (L2.start ["_law_parts","_law_made","_law_part"] vs) H:=by
 obtain ⟨p,ws,L,rfl,hp,PL,s6,l6,k⟩:=h
 have wl:=PL.len
 refine qcp (qnr (qbm (r_c (r_c ⟨qcP,λu hu=>⟨qjH,λv hv=>?_⟩⟩))))
 have s1:=(qaf hu (.tup [.int 1,.int 1])).trans (qaf hv (.tup [.ref u]))
 have P1:Pl (upd (upd H u (.tup [.int 1,.int 1])) v (.tup [.ref u])) v [(1,1)]:=⟨_,upd_same,⟨u,rfl,qaf hv _ _ _ upd_same⟩,trivial⟩
 generalize upd (upd H u (.tup [.int 1,.int 1])) v (.tup [.ref u])=H1 at s1 P1 ⊢
 refine qly (qan rfl ⟨_,rfl,⟨_,SqL.of (s1 _ _ hp)⟩,ForL.by (xs:=ws) (λi σ H'=>i<=ws.length/\∃ (r:Addr) (c2:Option V) (R:List Nu),σ=[some (.ref p),some (.ref r),c2]/\Same H H'/\Pl H' r R/\Gq (8*sm (L.take i)+1) (2*sm (L.take i)+1) R/\R≠[]/\R.length<=sm (L.take i)+1/\sr R=ppd (L.take i)) ⟨wae _,v,none,[(1,1)],rfl,s1,P1,qwz ⋯ ⋯,by simp,by simp,qu8⟩ ?_ ?_ ?_⟩)
 ·rintro i σ H' _ ⟨_,r,c2,R,rfl,s,_⟩
  exact SqL.of (s _ _ hp)
 ·rintro i x σ H2 hx ⟨_,r,c2,R,rfl,s2,P2,G2,R0,lR,eR⟩
  have lt:i<ws.length:=(wap.mp hx).1
  obtain ⟨q,hq,⟨b,rfl,Pb⟩,pt⟩:=(PL.tp (tpS s2)).get hx
  have e1:=qvd hq
  have e2:=qxn L (i+1)
  have ql:=pt.len
  have d1:=pt.d1
  obtain ⟨z2,h2,n2⟩:=P2
  obtain ⟨zb,hb,nb⟩:=Pb
  refine qrU (qji (qbs (qan rfl (qan rfl ⟨_,_,z2,zb,R,q.2,_,_,_,_,rfl,h2,hb,n2,nb,G2,pt.g,⋯,⋯,⋯,⋯,⋯,⋯,λr3 R3 H3 s3 P3 G3 l3 e3=>?_⟩))))
  have o3:=qb8 e3
  rw [qs4 hq,e1]
  exact ⟨lt,r3,_,R3,rfl,s2.trans s3,P3,G3.mono ⋯ ⋯,λz=>Sr.ne_mul (qam _) (qam _) (qci G2.low G2.nz R0) (qci pt.g.low pt.g.nz pt.ne) (by rw [<-o3,z];exact qwQ),⋯,by rw [o3,eR]⟩
 ·rintro σ H2 ⟨_,r,c2,R,rfl,s2,P2,G2,R0,lR,eR⟩
  rw [wl,wa3] at G2 lR eR
  exact qdu (qan rfl (k r R H2 s2 P2 G2 R0 lR eR))
theorem Trs.tp {H H':Hp} (t:Tp H H') {ws:List V} {L:List (Nu×Nat×List Nu)}:Trs H ws L->Trs H' ws L:=l2 ws L ⟨λ_ _ h=>h.elim,λ_ _ h=>h.elim⟩ (λ_=>trivial) λ_ _ _ _ r h=>by obtain ⟨⟨a,w,c,e,q,h,P,n,z⟩,s,p,k⟩:=h;exact ⟨⟨a,w,c,e,q,t _ _ h,P.tp t,t _ _ n,t _ _ z⟩,s,p,r k⟩
theorem Trs.len {H:Hp} {ws:List V} {L:List (Nu×Nat×List Nu)}:Trs H ws L->ws.length=L.length:=l2 ws L ⟨λ_ _ h=>h.elim,λ_ _ h=>h.elim⟩ (λ_=>rfl) λ_ _ _ _ r h=>congrArg (·+1) (r h.2.2.2)
theorem Trs.get {H:Hp} {ws:List V} {L:List (Nu×Nat×List Nu)} {i:Nat} {v:V} (h:Trs H ws L) (e:ws[i]?=some v):∃ q,L[i]?=some q/\(∃ t w c e,v=.ref t/\H t=some (.tup [.ref w,.ref c,.ref e])/\Pl H w q.2.2/\Nm H c q.1.1 q.1.2/\Nm H e 0 1)/\Sn0 q.1/\Pt q.2.1 q.2.2:=by
 revert h e;generalize i=j;revert j
 exact l2 ws L ⟨λ_ _ _ h=>h.elim,λ_ _ _ h=>h.elim⟩ (λ_ _ e=>nomatch e) λ_ _ q _ r i h e=>by
  cases i with
  | zero=>exact ⟨q,rfl,by cases e;exact h.1,h.2.1,h.2.2.1⟩
  | succ i=>exact r i h.2.2.2 e
theorem Trs.app {H:Hp} {ws:List V} {L:List (Nu×Nat×List Nu)} {vs:List V} {M:List (Nu×Nat×List Nu)} (h:Trs H ws L) (k:Trs H vs M):Trs H (ws++vs) (L++M):=by
 revert h
 exact l2 ws L ⟨λ_ _ h=>h.elim,λ_ _ h=>h.elim⟩ (λ_=>k) λ_ _ _ _ r h=>⟨h.1,h.2.1,h.2.2.1,r h.2.2.2⟩
theorem qka (M:List (Nu×Nat×List Nu)):sm3 M=sm (M.map λq=>q.2):=by unfold sm3 sm;rw [List.map_map];rfl
structure Pc (H0 H:Hp) (p a f g:Addr) (ws:List V) (L:List (Nat×List Nu)) (i:Nat) (n:Int):Prop where
 g:H g=some (.lst ws)
 w:Pts H ws L
 m:∃ xs M,H f=some (.lst xs)/\Trs H xs M/\(M.map λq=>q.2)=L.take i/\Gd M
 st:Stt H p a n
 k:Kpa p a H0 H
theorem Pc.kp {H0 H H':Hp} {p a f g:Addr} {ws:List V} {L:List (Nat×List Nu)} {i:Nat} {n n':Int} (h:Pc H0 H p a f g ws L i n) (k:Kpa p a H H') (st:Stt H' p a n') (nf:f≠p/\f≠a) (ng:g≠p/\g≠a):Pc H0 H' p a f g ws L i n':=by
 obtain ⟨g1,w,⟨xs,M,hf,T,e,gd⟩,st0,k0⟩:=h
 have t:=k.tp st0
 exact ⟨k _ _ ng.1 ng.2 g1,w.tp t,⟨xs,M,k _ _ nf.1 nf.2 hf,T.tp t,e,gd⟩,st,k0.trans k⟩
theorem qtY {K:W.Frag} {H0 H:Hp} {D:Ends} {p a f g b c e:Addr} {ws:List V} {L:List (Nat×List Nu)} {i:Nat} {n t d:Int} {q:Nat×List Nu} {c1 c2 c3:Option V} (h:Pc H0 H p a f g ws L i n) (f0:H0 f=none) (nf:f≠p/\f≠a) (nfg:g≠f) (hq:L[i]?=some q) (q3:q.1<=3/\2<=q.2.length) (pt:Pt q.1 q.2) (Pb:Pl H b q.2) (hc:Nm H c t d) (he:Nm H e 0 1) (sn:Sn0 (t,d)) (t0:t≠0) (i9:i<=100)
  (k:∀ H',Pc H0 H' p a f g ws L (i+1) n->D.nx [some (.ref p),c1,c2,c3,some (.ref f),some (.ref b),some (.ref c),some (.ref e)] H'):qek K D [some (.ref p),c1,c2,c3,some (.ref f),some (.ref b),some (.ref c),some (.ref e)] H:=by
 obtain ⟨g1,w,⟨xs,M,hf,T,em,gd⟩,st0,k0⟩:=h
 have xl:=T.len
 have ml:M.length<=i:=by
  have:=congrArg List.length em
  rw [waa,waw] at this
  omega
 refine ⟨_,rfl,.inl ⟨rfl,_,SqL.of hf⟩,qgh (qwa (qan rfl (qan rfl (qan rfl ⟨qx3,λu hu=>?_⟩))))⟩
 have s1:=qaf hu (.tup [.ref b,.ref c,.ref e])
 have hu1:(upd H u (.tup [.ref b,.ref c,.ref e])) u=some (HO.tup [V.ref b,V.ref c,V.ref e]):=upd_same
 generalize upd H u (.tup [.ref b,.ref c,.ref e])=H1 at s1 hu1 ⊢
 have hf1:=s1 _ _ hf
 have t2:Tp H1 (upd H1 f (.lst (xs++[V.ref u]))):=qia hf1
 have t1:=(tpS s1).trans t2
 refine ⟨_,_,_,rfl,rfl,hf1,wav (by omega:xs.length<1000000) (sz (wac _)),k _ ⟨(qaA nfg).trans (s1 _ _ g1),w.tp t1,⟨_,M++[((t,d),q)],upd_same,(T.tp t1).app ⟨⟨u,b,c,e,rfl,t2 _ _ hu1,Pb.tp t1,t1 _ _ hc,t1 _ _ he⟩,sn,pt,trivial⟩,?_,λy hy=>?_⟩,(st0.same s1).upd nf.1 nf.2,λx o h1 h2 hx=>(qaA (qas hx f0)).trans (s1 _ _ (k0 x o h1 h2 hx))⟩⟩
 ·rw [wbj,em,wbv,hq];rfl
 ·rcases wa7.mp hy with z | z
  ·exact gd y z
  ·rw [wag.mp z];exact ⟨sn,t0,q3.1,q3.2⟩
theorem qmR (h:qdT K vs H Q E):qox K { nx:=λ_ H'=>Q .non H',rt:=Q } (L2.start ["_law_state","_law_many","_law_most","_law_odd","_law_pieces_here","_law_part","_law_c","_law_e"] vs) H:=by
 obtain ⟨p,a,m,r,n,rfl,st,n9,m0,m4,r0,r6,k⟩:=h
 refine ⟨sz ∅,λf hf=>?_⟩
 have s1:=qaf hf (.lst [])
 have hf1:(upd H f (.lst [])) f=some (HO.lst []):=upd_same
 have nf:f≠p/\f≠a:=st.pn hf
 generalize upd H f (.lst [])=H1 at s1 hf1 ⊢
 have st1:=st.same s1
 show qgB K _ _ _
 refine qly (qw3 (qan rfl (qan rfl (qan rfl ⟨p,a,m,r,n,rfl,st1,⋯,m0,m4,r0,r6,λg ws L n1 H2 g0 hg PW sL q3 nd lL ni st2 k2=>⟨_,rfl,⟨_,SqL.of hg⟩,?_⟩⟩))))
 have ng:g≠p/\g≠a:=st1.pn g0
 have nfg:g≠f:=Ne.symm (qas hf1 g0)
 have wl:=PW.len
 refine ForL.by (xs:=ws) (λi σ H'=>i<=ws.length/\∃ (c5 c6 c7:Option V) (n':Int),σ=[some (.ref p),some (.int m),some (.int r),some (.int 1),some (.ref f),c5,c6,c7]/\Pc H H' p a f g ws L i n'/\n'<=n1+4*i) ⟨wae _,none,none,none,n1,rfl,⟨hg,PW,⟨[],[],k2 _ _ nf.1 nf.2 hf1,trivial,rfl,λ_ h=>nomatch h⟩,st2,(Kpa.of s1).trans k2⟩,⋯⟩ ?_ ?_ ?_
 ·rintro i σ H' _ ⟨_,c5,c6,c7,n',rfl,h,_⟩
  exact SqL.of h.g
 ·rintro i x σ H3 hx ⟨_,c5,c6,c7,n',rfl,h3,hn⟩
  have lt:i<ws.length:=(wap.mp hx).1
  obtain ⟨q,hq,⟨b,rfl,Pb⟩,pt⟩:=h3.w.get hx
  have q3':=q3 q (wan hq)
  refine qrU (qcn (qan rfl (qlk h3.st ⋯ λc t d H4 hc lo t0 t1 d1 st4 k4=>?_)))
  have h4:=h3.kp k4 st4 nf ng
  refine qcp (qbm (r_c (r_c ⟨qcP,λe he=>?_⟩)))
  have s5:=qaf he (.tup [.int 0,.int 1])
  have he5:Nm (upd H4 e (.tup [.int 0,.int 1])) e 0 1:=upd_same
  generalize upd H4 e (.tup [.int 0,.int 1])=H5 at s5 he5 ⊢
  have h5:=h4.kp (Kpa.of s5) (st4.same s5) nf ng
  obtain ⟨zb,hb,nb⟩:=(Pb.tp (k4.tp h3.st)).same s5
  have hc5:Nm H5 c t d:=s5 _ _ hc
  refine qsw (qch (qcO (qco (qan rfl ⟨_,_,rfl,hb,r_c ⟨_,_,rfl,rfl,_,rfl,qck (λ_=>?_) (λ_=>?_)⟩⟩))))
  ·refine qch (qcO (qbs (qan rfl (qan rfl (qcx h5.st ⋯ ∅ ∅ λz H6 z0 z1 st6 k6=>r_c ⟨_,_,rfl,rfl,_,rfl,qck (λc1=>?_) (λ_=>?_)⟩)))))
   ·exact absurd (of_decide_eq_true c1) ⋯
   ·have t6:=k6.tp h5.st
    exact qtY (h5.kp k6 st6 nf ng) hf nf nfg hq q3' pt ⟨zb,t6 _ _ hb,nb.tp t6⟩ (t6 _ _ hc5) (t6 _ _ he5) ⟨lo,t1,d1⟩ t0 ⋯ λH7 h7=>⟨lt,_,_,_,_,rfl,h7,⋯⟩
  ·exact qtY h5 hf nf nfg hq q3' pt ⟨zb,hb,nb⟩ hc5 he5 ⟨lo,t1,d1⟩ t0 ⋯ λH7 h7=>⟨lt,_,_,_,_,rfl,h7,⋯⟩
 ·rintro σ H3 ⟨_,c5,c6,c7,n',rfl,⟨g1,w,⟨xs,M,hf3,T,em,gd⟩,st3,k3⟩,hn⟩
  rw [wl,wa3] at em
  refine qdu (qan rfl (k f xs M n' H3 hf hf3 T ?_ gd ?_ ?_ ⋯ st3 k3))
  ·rw [qka,em];exact sL
  ·have:(M.map λq=>q.2.2)=L.map λq=>q.2:=by rw [<-em,List.map_map];rfl
   rw [this];exact nd
  ·have:=congrArg List.length em
   rw [waa] at this
   omega
noncomputable def Fl (q:Nu×Nat×List Nu) (L:List (Nu×Nat×List Nu)):List (Nat×List Nu):=(L.filter λy=>decide (y.2.2≠q.2.2)).map λy=>y.2
theorem qru {q:Nu×Nat×List Nu}:∀ {L:List (Nu×Nat×List Nu)},(q.2.2∉L.map λy=>y.2.2)->Fl q L=L.map λy=>y.2
 | [],_=>rfl
 | y::L,h=>by
   have h1:y.2.2≠q.2.2:=λz=>h (wai.mpr ⟨y,wbh ..,z⟩)
   have ih:=qru (q:=q) (L:=L) λz=>h (by rw [wa1];exact wbi _ z)
   unfold Fl at ih ⊢
   rw [List.filter_cons_of_pos (by simpa using h1),wa1,ih,wa1]
theorem qmS:∀ L:List (Nu×Nat×List Nu),ppd (L.map λy=>y.2)=pd L
 | []=>rfl
 | q::L=>by show sr q.2.2*ppd (L.map λy=>y.2)=sr q.2.2*pd L;rw [qmS L]
theorem qtZ {q:Nu×Nat×List Nu}:∀ {L:List (Nu×Nat×List Nu)},(L.map λy=>y.2.2).Nodup->q∈L->ppd (Fl q L)*sr q.2.2=pd L/\sm (Fl q L)+q.2.1=sm3 L
 | [],_,h=>nomatch h
 | y::L,nd,h=>by
   rw [wa1] at nd
   obtain ⟨n1,n2⟩:=wbw.mp nd
   by_cases e:y.2.2=q.2.2
   ·have yq:y=q:=by
     rcases wau.mp h with z | z
     ·exact z.symm
     ·exact absurd (wai.mpr ⟨q,z,e.symm⟩) n1
    subst yq
    have e1:Fl y (y::L)=Fl y L:=by unfold Fl;rw [List.filter_cons_of_neg (by simp)]
    rw [e1,qru n1,qmS,<-qka]
    exact ⟨by show pd L*sr y.2.2=sr y.2.2*pd L;grind,by show sm3 L+y.2.1=y.2.1+sm3 L;omega⟩
   ·have hq:q∈L:=by
     rcases wau.mp h with z | z
     ·exact absurd (by rw [z]) e
     ·exact z
    obtain ⟨i1,i2⟩:=qtZ n2 hq
    have e1:Fl q (y::L)=y.2::Fl q L:=by unfold Fl;rw [List.filter_cons_of_pos (by simpa using e),wa1]
    rw [e1]
    refine ⟨?_,?_⟩
    ·show sr y.2.2*ppd (Fl q L)*sr q.2.2=sr y.2.2*pd L
     rw [<-i1];grind
    ·show y.2.1+sm (Fl q L)+q.2.1=y.2.1+sm3 L
     omega
theorem qwA:trim [((0:Int),(1:Int))]=[]:=by decide
theorem qs5 (h:qhh K vs H Q E):quC K { nx:=λ_ H'=>Q .non H',rt:=Q } (L2.start ["_law_pieces_here","_law_top_here","_law_part","_law_c","_law_e","_law_other_here","_law_own"] vs) H:=by
 obtain ⟨p,ws,L,rfl,hp,TL,s4,l3,q3,nd,k⟩:=h
 have wl:=TL.len
 refine ⟨sz ∅,λt0 ht0=>?_⟩
 have s1:=qaf ht0 (.tup [])
 have P1:Pl (upd H t0 (.tup [])) t0 []:=⟨_,upd_same,trivial⟩
 generalize upd H t0 (.tup [])=H1 at s1 P1 ⊢
 have gn:Gq 67 67 ([]:List Nu):=⟨(λ_ h=>nomatch h),(λ_ h=>nomatch h),1,⟨∅,λ_ h=>nomatch h⟩,Bd.mono (show Bd 1 1 by unfold Bd;decide) ∅,(λ_ h=>nomatch h)⟩
 show qli K _ _ _
 refine qly (qan rfl ⟨_,rfl,⟨_,SqL.of (s1 _ _ hp)⟩,ForL.by (xs:=ws) (λi σ H'=>i<=ws.length/\∃ (t:Addr) (c2 c3 c4 c5 c6:Option V) (R:List Nu),σ=[some (.ref p),some (.ref t),c2,c3,c4,c5,c6]/\Same H H'/\Pl H' t R/\Gq (68*2 ^ i - 1) (68*2 ^ i - 1) R/\R.length<=4/\sr R=lg (L.take i)*pd (L.drop i)) ⟨wae _,t0,none,none,none,none,none,[],rfl,s1,P1,gn,by simp,by rw [qwQ];show (0:Sr)=0*_;grind⟩ ?_ ?_ ?_⟩)
 ·rintro i σ H' _ ⟨_,t,c2,c3,c4,c5,c6,R,rfl,s,_⟩
  exact SqL.of (s _ _ hp)
 ·rintro i x σ H2 hx ⟨_,t,c2,c3,c4,c5,c6,R,rfl,s2,P2,G2,lR,eR⟩
  have lt:i<ws.length:=(wap.mp hx).1
  have TL2:=TL.tp (tpS s2)
  obtain ⟨q,hq,⟨y,w,c,e,rfl,hy,Pw,hc,he⟩,sn,pt⟩:=TL2.get hx
  have qm:=wan hq
  have d3:=q3 q qm
  have d1:=pt.d1
  have ql:=pt.len
  obtain ⟨f1,f2⟩:=qtZ nd qm
  obtain ⟨g1,g2⟩:=qrr hq
  have ed:L.drop i=q::L.drop (i+1):=by
   have e1:=wap.mp hq
   rw [List.drop_eq_getElem_cons e1.1,e1.2]
  have sq:Sn q.1:=⟨sn.1,wak sn.2.1 ∅,by have:=sn.2.2;omega⟩
  refine ⟨_,_,rfl,hy,rfl,_,_,rfl,_,_,rfl,_,_,rfl,rfl,?_⟩
  show qgC K _ _ _
  refine qcn (qnM (qan rfl ⟨_,rfl,⟨_,SqL.of (s2 _ _ hp)⟩,CompF.lst (xs:=ws) (λj ys H'=>j<=ws.length/\H2=H'/\Pts H2 ys (Fl q (L.take j))) ⟨wae _,rfl,trivial⟩ ?_ ?_ ?_⟩))
  ·rintro j ys H' ⟨hj,rfl,h⟩
   have hl:=h.len
   have:(Fl q (L.take j)).length<=j:=by
    unfold Fl
    rw [waa]
    exact wak (List.length_filter_le _ _) (by rw [waw];omega)
   exact ⟨hj,sz ⋯,SqL.of (s2 _ _ hp)⟩
  ·rintro j x ys H' hx2 ⟨hj,rfl,h⟩
   have lt2:j<ws.length:=(wap.mp hx2).1
   obtain ⟨z,hz,⟨y2,w2,cc,ee,rfl,hy2,Pw2,hc2,he2⟩,sn2,pt2⟩:=TL2.get hx2
   obtain ⟨z1,hw1,nw1⟩:=Pw
   obtain ⟨z2,hw2,nw2⟩:=Pw2
   have tk:L.take (j+1)=L.take j++[z]:=by rw [wbv,hz];rfl
   refine qrU (qch (qcO (qcO (qan rfl (r_c ⟨_,_,_,_,rfl,rfl,hy2,rfl,qan rfl ⟨_,_,decide (z.2.2=q.2.2),qtD hw2 nw2,qtD hw1 nw1,okP _ 6,okP _ 6,?_,_,rfl,qck (λb1=>?_) (λb1=>?_)⟩⟩)))))
   ·rw [decide_eq_true_eq]
    exact ⟨λe=>by rw [e],qj1⟩
   ·have ne:¬ z.2.2=q.2.2:=by simpa using b1
    refine qcO (qan rfl (r_c ⟨_,_,_,_,rfl,rfl,hy2,rfl,lt2,rfl,?_⟩))
    have e1:Fl q (L.take (j+1))=Fl q (L.take j)++[z.2]:=by
     unfold Fl
     rw [tk,List.filter_append,wbj,List.filter_cons_of_pos (by simpa using ne)];rfl
    rw [e1]
    exact h.app ⟨⟨w2,rfl,z2,hw2,nw2⟩,pt2,trivial⟩
   ·have ye:z.2.2=q.2.2:=by simpa using b1
    have e1:Fl q (L.take (j+1))=Fl q (L.take j):=by
     unfold Fl
     rw [tk,List.filter_append,List.filter_cons_of_neg (by simpa using ye)];simp
    exact ⟨lt2,rfl,by rw [e1];exact h⟩
  ·rintro ys H' ⟨_,rfl,h⟩ u hu
   rw [wl,wa3] at h
   have s3:=qaf hu (.lst ys)
   have flen:(Fl q L).length<=3:=by
    unfold Fl
    rw [waa]
    exact wak (List.length_filter_le _ _) l3
   refine ⟨_,ys,Fl q L,rfl,upd_same,h.tp (tpS s3),⋯,⋯,λr4 R4 H4 s4' P4 G4 R40 l4 e4=>?_⟩
   have s24:=s3.trans s4'
   refine qb0 (qwx (i:=2) (j:=3) rfl rfl (Pw.same s24) pt sq (s24 _ _ hc) ⋯ λr5 R5 H5 s5 P5 G5 l5 e5=>?_)
   refine qco (qgv (qan rfl ⟨qjH,λv hv=>?_⟩))
   have s6:=qaf hv (.lst [.ref e])
   have s26:=(s24.trans s5).trans s6
   refine ⟨_,_,[(0,1)],rfl,upd_same,⟨⟨e,rfl,s26 _ _ he⟩,trivial⟩,by simp,λr7 z7 H7 s7 h7 n7=>?_⟩
   rw [qwA] at n7
   obtain ⟨z5,h5,n5⟩:=(P5.same s6).same s7
   obtain ⟨M,O,bM,hb⟩:=G5.ov
   refine ⟨_,_,z5,z7,R5,[],M,_,_,rfl,h5,h7,n5,n7,G5.low,(λ_ h=>nomatch h),O,⟨O.1,λ_ h=>nomatch h⟩,bM,hb,(λ_ h=>nomatch h),⋯,⋯,⋯,by simp,λr8 R8 H8 s8 P8 G8 l8 e8=>?_⟩
   have e8':sr R8=Sr.num (val q.1)*Sr.D (sr q.2.2):=by
    rw [<-e5]
    exact Sr.ext' λk=>by show pwo R8 k=pwo R5 k;rw [e8,qa0 (l:=[]) (wae _)];grind
   have l8':R8.length<=q.2.1:=wak l8 (by simp;exact l5)
   have s28:=(s26.trans s7).trans s8
   obtain ⟨z8,h8,n8⟩:=P8
   obtain ⟨z2,h2,n2⟩:=P2.same s28
   obtain ⟨z4,h4,n4⟩:=P4.same (((s5.trans s6).trans s7).trans s8)
   refine qji (qbs (qan rfl (qbs (qan rfl (qan rfl ⟨_,_,z8,z4,R8,R4,_,_,_,_,rfl,h8,h4,n8,n4,G8,G4,⋯,⋯,⋯,⋯,⋯,⋯,λr9 R9 H9 s9 P9 G9 l9 e9=>?_⟩)))))
   obtain ⟨z9,h9,n9⟩:=P9
   have pw:2 ^ i<=4:=wbx (n:=2) ∅ (show i<=2 by omega)
   have p0:0<2 ^ i:=Nat.pow_pos ∅
   have ps:2 ^ (i+1)=2 ^ i*2:=wa6 ..
   have G9':=G9.mono (b':=68*2 ^ i - 1) (c':=68*2 ^ i - 1) ⋯ ⋯
   obtain ⟨Mm,O1,O2,bMm,q1,q2⟩:=qmL G2 G9'
   refine ⟨_,_,z2,z9,R,R9,Mm,_,_,rfl,s9 _ _ h2,h9,n2.tp (tpS s9),n9,G2.low,G9.low,O1,O2,bMm,q1,q2,⋯,⋯,⋯,⋯,λr10 R10 H10 s10 P10 G10 l10 e10=>?_⟩
   refine ⟨lt,r10,_,_,_,_,_,R10,rfl,((s2.trans s28).trans s9).trans s10,P10,G10.mono ⋯ ⋯,⋯,?_⟩
   have o9:=qb8 e9
   have o10:sr R10=sr R+sr R9:=Sr.ext' λk=>by show pwo R10 k=pwo R k+pwo R9 k;rw [e10];grind
   have hP:sr R4=pd (L.take i)*pd (L.drop (i+1)):=by
    refine Sr.cancel (qam _) ((qbI _).mul (qbI _)) (qam q.2.2) (qoL pt) ?_
    rw [e4,f1]
    have:=qeY (L.take i) (L.drop i)
    rw [wb3,ed,pdq] at this
    rw [this];grind
   rw [o10,o9,e8',hP,eR,ed,pdq,g2];grind
 ·rintro σ H2 ⟨_,t,c2,c3,c4,c5,c6,R,rfl,s2,P2,G2,lR,eR⟩
  rw [wl,wa3,List.drop_length] at eR
  have pw:2 ^ ws.length<=8:=wbx (n:=2) ∅ (show ws.length<=3 by omega)
  refine qdu (qan rfl (k t R H2 s2 P2 (G2.mono ⋯ ⋯) lR ?_))
  rw [eR];show lg L*1=lg L;grind
theorem qkb {X Y:List Nu} {N D:Sr} (h:Lw X Y) (pN:Sr.Pol N) (eq:sr X*D=N*sr Y):nn X Y*(D*D)=(D*Sr.D N - N*Sr.D D)*dd Y:=by
 unfold nn dd
 have e3:Sr.D (sr X)*D+sr X*Sr.D D=Sr.D N*sr Y+N*Sr.D (sr Y):=by rw [<-Sr.D_mul (qam X),<-Sr.D_mul pN,eq]
 have h1:Sr.D (sr X)*D=Sr.D N*sr Y+N*Sr.D (sr Y) - sr X*Sr.D D:=by rw [<-e3];grind
 have h2:(sr Y*Sr.D (sr X) - sr X*Sr.D (sr Y))*(D*D)=sr Y*D*(Sr.D (sr X)*D) - (sr X*D)*Sr.D (sr Y)*D:=by grind
 have h3:sr Y*D*(Sr.D N*sr Y+N*Sr.D (sr Y) - sr X*Sr.D D)=sr Y*D*(Sr.D N*sr Y+N*Sr.D (sr Y)) - sr Y*Sr.D D*(sr X*D):=by grind
 rw [h2,h1,h3,eq];grind
theorem qoM {X Y:List Nu} (h:Lw X Y):dd Y≠0:=Sr.ne_mul (qam _) (qam _) (qci h.lb h.nb h.ne) (qci h.lb h.nb h.ne)
theorem qdI (Y:List Nu):Sr.Pol (dd Y):=(qam _).mul (qam _)
theorem qlA {x:Rat} (h:x≠0):Sr.num x≠0:=λz=>one_ne (by rw [<-Sr.num_inv h,z];grind)
theorem qlB {c:Nu} (h:Low c.1 c.2) (n:c.1≠0):val c≠0:=λz=>by
 unfold val at z
 have h1:=qaI n
 have h2:=qaI (wad h.pos)
 grind
theorem D_ne {l:List Nu} (h:qap l) (nz:Nz l) (l2:2<=l.length):Sr.D (sr l)≠0:=λz=>by
 have e:(Sr.D (sr l)).c (l.length - 2)=0:=by rw [z,Sr.zero_c]
 have e2:(((l.length - 2:Nat):Rat)+1)*pwo l (l.length - 2+1)=0:=e
 rw [show l.length - 2+1=l.length - 1 by omega] at e2
 have p:=qbp h nz (λq=>by rw [q] at l2;simp at l2)
 have c:((l.length - 2:Nat):Rat)+1≠0:=by
  have:(((l.length - 2+1:Nat)):Rat)≠0:=by
   intro q
   have:=Rat.natCast_eq_zero_iff.mp q
   omega
  intro q
  exact this (by push_cast;exact q)
 grind
theorem qwB {T B X Y:List Nu} {L M:List (Nu×Nat×List Nu)} {F W G:Sr} (lY:dd Y≠0) (lB:dd B≠0) (pW:Sr.Pol W) (W0:W≠0) (pG:Sr.Pol G) (G0:G≠0) (M0:pd M≠0) (h:nn X Y*(dd B*F)=(nn T B*F+dd B*W)*dd Y) (eL:lg L=G*lg M) (eP:pd L=G*pd M) :
  ¬ ((nn X Y*pd M+dd Y*lg M)*(dd B*pd L)=(nn T B*pd L+dd B*lg L)*(dd Y*pd M)):=λe=>by
 have Z:dd B*W*dd Y*pd M*(dd B*(G*pd M))=0:=by
  rw [eL,eP] at e
  have e1:(nn X Y*pd M+dd Y*lg M)*(dd B*(G*pd M))*(dd B*F)=(nn X Y*(dd B*F)*pd M+dd Y*lg M*(dd B*F))*(dd B*(G*pd M)):=by grind
  have e2:=congrArg (·*(dd B*F)) e
  simp only [e1,h] at e2
  grind
 have pm:=qbI M
 exact Sr.ne_mul ((((qdI B).mul pW).mul (qdI Y)).mul pm) ((qdI B).mul (pG.mul pm)) (Sr.ne_mul (((qdI B).mul pW).mul (qdI Y)) pm (Sr.ne_mul ((qdI B).mul pW) (qdI Y) (Sr.ne_mul (qdI B) pW lB W0) lY) M0) (Sr.ne_mul (qdI B) (pG.mul pm) lB (Sr.ne_mul pG pm G0 M0)) Z
theorem qxo {T B:List Nu} {L L' M:List (Nu×Nat×List Nu)} {G:Sr} (lB:dd B≠0) (eL:lg L'=G*lg M) (eP:pd L'=G*pd M) (h:lg L'*pd L≠lg L*pd L') :
  ¬ ((nn T B*pd M+dd B*lg M)*(dd B*pd L)=(nn T B*pd L+dd B*lg L)*(dd B*pd M)):=λe=>h (by
 have e2:(nn T B*pd M+dd B*lg M)*(dd B*pd L)*G=(nn T B*pd L+dd B*lg L)*(dd B*pd M)*G:=by rw [e]
 have e3:dd B*dd B*(lg L'*pd L)=dd B*dd B*(lg L*pd L'):=by
  rw [eL,eP]
  grind
 refine Sr.cancel ((qrp _).mul (qbI _)) ((qrp _).mul (qbI _)) ((qdI B).mul (qdI B)) (Sr.ne_mul (qdI B) (qdI B) lB lB) ?_
 have a1:lg L'*pd L*(dd B*dd B)=dd B*dd B*(lg L'*pd L):=by grind
 have a2:lg L*pd L'*(dd B*dd B)=dd B*dd B*(lg L*pd L'):=by grind
 rw [a1,a2,e3])
theorem qrv (A:List (Nu×Nat×List Nu)) (q:Nu×Nat×List Nu):pd (A++[q])=pd A*sr q.2.2/\lg (A++[q])=lg A*sr q.2.2+pd A*(Sr.num (val q.1)*Sr.D (sr q.2.2)):=by
 rw [qeY,qgD]
 show _*(sr q.2.2*1)=_/\_*(sr q.2.2*1)+_*(Sr.num (val q.1)*Sr.D (sr q.2.2)*1+sr q.2.2*0)=_
 exact ⟨by grind,by grind⟩
theorem qx8 {L:List (Nu×Nat×List Nu)} {q:Nu×Nat×List Nu} (L0:pd L≠0) (c0:Sr.num (val q.1)≠0) (l0:Sr.D (sr q.2.2)≠0):lg (L++[q])*pd L≠lg L*pd (L++[q]):=λe=>by
 obtain ⟨h1,h2⟩:=qrv L q
 rw [h1,h2] at e
 have Z:pd L*pd L*(Sr.num (val q.1)*Sr.D (sr q.2.2))=0:=by grind
 exact Sr.ne_mul ((qbI L).mul (qbI L)) ((Sr.Pol.num _).mul (qam _).D) (Sr.ne_mul (qbI L) (qbI L) L0 L0) (Sr.ne_mul (Sr.Pol.num _) (qam _).D c0 l0) Z
theorem qx9 {A B:List (Nu×Nat×List Nu)} {q:Nu×Nat×List Nu} (L0:pd (A++B)≠0) (c0:Sr.num (val q.1)≠0) (l0:Sr.D (sr q.2.2)≠0):lg (A++B)*pd (A++q::B)≠lg (A++q::B)*pd (A++B):=λe=>by
 obtain ⟨h1,h2⟩:=qnO A B q
 rw [h1,h2] at e
 have Z:pd (A++B)*pd (A++B)*(Sr.num (val q.1)*Sr.D (sr q.2.2))=0:=by grind
 exact Sr.ne_mul ((qbI _).mul (qbI _)) ((Sr.Pol.num _).mul (qam _).D) (Sr.ne_mul (qbI _) (qbI _) L0 L0) (Sr.ne_mul (Sr.Pol.num _) (qam _).D c0 l0) Z
theorem qya {A B:List (Nu×Nat×List Nu)} {q:Nu×Nat×List Nu} {c':Nu} {m:Sr} {n:Nat} (L0:pd (A++B)≠0) (pm:Sr.Pol m) (m0:m≠0) (l0:Sr.D (sr q.2.2)≠0) (q0:sr q.2.2≠0) (ec:Sr.num (val c')=Sr.num (val q.1)+m):lg (A++B++[(c',n,q.2.2)])*pd (A++q::B)≠lg (A++q::B)*pd (A++B++[(c',n,q.2.2)]):=λe=>by
 obtain ⟨h1,h2⟩:=qnO A B q
 obtain ⟨h3,h4⟩:=qrv (A++B) (c',n,q.2.2)
 rw [h1,h2,h3,h4] at e
 simp only [] at e
 rw [ec] at e
 have Z:pd (A++B)*pd (A++B)*(sr q.2.2*(m*Sr.D (sr q.2.2)))=0:=by grind
 exact Sr.ne_mul ((qbI _).mul (qbI _)) ((qam _).mul (pm.mul (qam _).D)) (Sr.ne_mul (qbI _) (qbI _) L0 L0) (Sr.ne_mul (qam _) (pm.mul (qam _).D) q0 (Sr.ne_mul pm (qam _).D m0 l0)) Z
theorem qyb {A B:List (Nu×Nat×List Nu)} {q:Nu×Nat×List Nu} {R k:List Nu} {n:Nat} (L0:pd (A++B)≠0) (c0:Sr.num (val q.1)≠0) (q0:sr q.2.2≠0) (k0:Sr.D (sr k)≠0) (eR:sr R=sr q.2.2*sr k):lg (A++B++[(q.1,n,R)])*pd (A++q::B)≠lg (A++q::B)*pd (A++B++[(q.1,n,R)]):=λe=>by
 obtain ⟨h1,h2⟩:=qnO A B q
 obtain ⟨h3,h4⟩:=qrv (A++B) (q.1,n,R)
 rw [h1,h2,h3,h4] at e
 simp only [] at e
 rw [eR,Sr.D_mul (qam _)] at e
 have Z:pd (A++B)*pd (A++B)*(sr q.2.2*sr q.2.2*(Sr.num (val q.1)*Sr.D (sr k)))=0:=by grind
 exact Sr.ne_mul ((qbI _).mul (qbI _)) (((qam _).mul (qam _)).mul ((Sr.Pol.num _).mul (qam _).D)) (Sr.ne_mul (qbI _) (qbI _) L0 L0) (Sr.ne_mul ((qam _).mul (qam _)) ((Sr.Pol.num _).mul (qam _).D) (Sr.ne_mul (qam _) (qam _) q0 q0) (Sr.ne_mul (Sr.Pol.num _) (qam _).D c0 k0)) Z
noncomputable def Wf (H:Hp) (v:V) (T B:List Nu) (L:List (Nu×Nat×List Nu)):Prop:=∃ o T' B' L' b n m S,v=.ref o/\Fm H o T' B' L' b n m S/\¬ ((nn T' B'*pd L'+dd B'*lg L')*(dd B*pd L)=(nn T B*pd L+dd B*lg L)*(dd B'*pd L'))
theorem FF.tp {H H':Hp} {p:Addr} {T B:List Nu} (h:FF H p T B) (t:Tp H H'):FF H' p T B:=let ⟨u,v,a,b,c⟩:=h;⟨u,v,t _ _ a,b.tp t,c.tp t⟩
theorem Fm.tp {H H':Hp} {o:Addr} {T B:List Nu} {L:List (Nu×Nat×List Nu)} {b n m S:Nat} (h:Fm H o T B L b n m S) (t:Tp H H'):Fm H' o T B L b n m S:=by
 obtain ⟨f,l,ws,a1,a2,a3,a4,a5,a6⟩:=h
 exact ⟨f,l,ws,t _ _ a1,a2.tp t,a3,t _ _ a4,a5.tp t,a6⟩
theorem Wf.tp {H H':Hp} {v:V} {T B:List Nu} {L:List (Nu×Nat×List Nu)} (h:Wf H v T B L) (t:Tp H H'):Wf H' v T B L:=by
 obtain ⟨o,T',B',L',b,n,m,S,e,f,w⟩:=h
 exact ⟨o,T',B',L',b,n,m,S,e,f.tp t,w⟩
noncomputable instance (b n m S:Nat):Decidable (Cz b n m S):=by unfold Cz;infer_instance
theorem cz6:Cz 24 3 4 6:=by decide
theorem qfT {K:W.Frag} {H:Hp} {Q:VK} {kr g:Addr} {T B:List Nu} {ws:List V} {L L':List (Nu×Nat×List Nu)} (F:FF H kr T B) (R:Rp 24 3 4 T B) (hg:H g=some (.lst ws)) (PL:Prs H ws L') (s6:sm3 L'<=6) (l6:L'.length<=6) (ne:lg L'*pd L≠lg L*pd L')
  (k:∀ r H',Same H H'->(∀ o H'',Same H' H''->H'' o=some (.tup [.ref kr,.ref r])->Wf H'' (.ref o) T B L)->Q (.ref r) H'):qbX K [.ref g] H Q E0:=by
 refine ⟨_,ws,L',6,rfl,hg,PL,s6,wac _,l6,λr xs M G H1 hr PM sM pG G0 eL eP s1=>k r H1 s1 λo H2 s2 ho=>?_⟩
 exact ⟨o,T,B,M,24,3,4,6,rfl,⟨kr,r,xs,ho,(F.same s1).same s2,R,s2 _ _ hr,PM.tp (tpS s2),sM,cz6⟩,qxo (qoM R.lw) eL eP ne⟩
theorem Prs.rep {H:Hp} {ws:List V} {L:List (Nu×Nat×List Nu)}:Prs H ws L->RepA H ws (L.map λq=>.tuple [qnq q.1,qiu q.2.2]):=l2 ws L ⟨λ_ _ h=>h.elim,λ_ _ h=>h.elim⟩ (λ_=>.nil) λ_ _ _ _ r h=>by obtain ⟨⟨a,c,w,e,h,n,zs,hz,nz⟩,_,_,k⟩:=h;subst e;exact .cons (.tup h (.cons (qtC ⟨c,rfl,n⟩) (.cons (qtD hz nz) .nil))) (r k)
theorem ok3 (L:List (Nu×Nat×List Nu)):PySem.W.kqdOk 8 (.list (L.map λq=>.tuple [qnq q.1,qiu q.2.2]))=true:=by
 simp only [PySem.W.kqdOk,List.all_map]
 refine List.all_eq_true.mpr λq _=>?_
 show PySem.W.kqdOk 7 (.tuple [qnq q.1,qiu q.2.2])=true
 simp only [PySem.W.kqdOk,List.all_cons,List.all_nil,okP,okN,Bool.and_self]
theorem qve {H:Hp} {Q:VK} {w e:Addr} {ws:List V} {L:List (Nu×Nat×List Nu)} (hw:H w=some (.lst ws)) (P:Prs H ws L) (he:H e=some (.lst [])) (h:Q (.bl (!decide (L=[]))) H):neD (.ref w) (.ref e) H Q:=by
 refine ⟨_,_,decide (L=[]),.lst hw P.rep,.lst he .nil,ok3 L,∅,?_,h⟩
 rw [decide_eq_true_eq]
 constructor
 ·rintro rfl;rfl
 ·intro z
  have z1:L.map (λq=>PySem.W.Dat.tuple [qnq q.1,qiu q.2.2])=[]:=by injection z
  exact List.map_eq_nil_iff.mp z1
theorem qs6 {xs:List V} {m:Nat} (h:m<=xs.length):qg4 xs (some (m:Int)) none=xs.drop m:=by
 unfold qg4 HT.sIx
 simp only [wb2]
 rw [if_neg ⋯,Nat.min_eq_left h]
 exact List.take_of_length_le (by rw [wb5];omega)
theorem line_pt:Pt 2 [((-7:Int),(1:Int)),(1,1)]:=by
 refine ⟨⟨λq hq=>?_,λq hq=>?_,1,⟨∅,λq hq=>?_⟩,(show Bd 4 1 by unfold Bd;decide),λz hz=>?_⟩,by simp,by simp,∅⟩
 ·rcases wau.mp hq with rfl | hq
  ·exact ⟨∅,∅⟩
  ·rw [wag.mp hq];exact qmK
 ·obtain rfl:(1,1)=q:=Option.some.inj hq
  decide
 ·rcases wau.mp hq with rfl | hq
  ·exact wbp _
  ·rw [wag.mp hq];exact wbp _
 ·have e:ovN [((-7:Int),(1:Int)),(1,1)] 1=[-7,1]:=by decide
  rw [e] at hz
  show Bd 10 z
  unfold Bd
  rcases wau.mp hz with rfl | hz
  ·decide
  ·rw [wag.mp hz];decide
theorem qyc {c:Nu} (h:Sn0 c) (n0:c.1≠0):Gq 12 2 [((0:Int),(1:Int)),c]:=by
 obtain ⟨lo,h1,h2⟩:=h
 have p:=lo.pos
 refine ⟨λq hq=>?_,λq hq=>?_,c.2,⟨p,λq hq=>?_⟩,(by unfold Bd;omega),λz hz=>?_⟩
 ·rcases wau.mp hq with rfl | hq
  ·exact ⟨∅,∅⟩
  ·rw [wag.mp hq];exact lo
 ·obtain rfl:c=q:=Option.some.inj hq
  exact n0
 ·rcases wau.mp hq with rfl | hq
  ·exact Int.one_dvd _
  ·rw [wag.mp hq];exact wbp _
 ·have e:ovN [((0:Int),(1:Int)),c] c.2=[0*(c.2 / 1),c.1*(c.2 / c.2)]:=rfl
  rw [e,Int.ediv_self ⋯,Int.mul_one,Int.zero_mul] at hz
  unfold Bd
  rcases wau.mp hz with rfl | hz
  ·decide
  ·rw [wag.mp hz];omega
theorem qxp (c:Nu):Sr.D (sr [((0:Int),(1:Int)),c])=Sr.num (val c):=Sr.ext' λk=>by
 show ((k:Rat)+1)*pwo [((0:Int),(1:Int)),c] (k+1)=val c*qca k
 cases k with
 | zero=>show (((0:Nat):Rat)+1)*val c=val c*(1:Rat);push_cast;grind
 | succ k=>rw [qa0 (by simp)];show _=val c*0;grind
theorem qwC {K:W.Frag} {H:Hp} {Q:VK} {kr lo mo u v:Addr} {T B:List Nu} {ws:List V} {L M:List (Nu×Nat×List Nu)} {G:Sr} {c:Nu} (F:FF H kr T B) (R:Rp 24 3 4 T B) (hl:H lo=some (.tup ws)) (PM:Prs H ws M) (sM:sm3 M<=4) (pG:Sr.Pol G) (G0:G≠0) (eL:lg L=G*lg M) (eP:pd L=G*pd M) (hu:H u=some (.tup [.int 0,.int 1])) (hm:Nm H mo c.1 c.2) (hv:H v=some (.tup [.ref u,.ref mo])) (sn:Sn0 c) (n0:c.1≠0)
  (k:∀ t H',Same H H'->(∀ o H'',Same H' H''->H'' o=some (.tup [.ref t,.ref lo])->Wf H'' (.ref o) T B L)->Q (.ref t) H'):qdD K [.ref v] H (λy H1=>qbM K [.ref kr,y] H1 Q E0) E0:=by
 refine ⟨_,[((0:Int),(1:Int)),c],rfl,⟨_,hv,⟨u,rfl,hu⟩,⟨mo,rfl,hm⟩,trivial⟩,λt H1 s1 ff=>?_⟩
 have g:=qyc sn n0
 have g4:Fx H1 t 13 2 1 (sr [((0:Int),(1:Int)),c]) (sr [(1,1)]):=⟨_,_,ff,Rp.of (lw1 g.low g.nz) g (qwz (b:=1) (c:=1) ∅ ∅) (by simp) (by simp) (by simp) rfl ∅ ∅,Wt.self (lw1 g.low g.nz)⟩
 refine qh8 ((qh7 F R).same s1) g4 3 ∅ λt2 H2 s2 f2=>k t2 H2 (s1.trans s2) λo H3 s3 ho=>?_
 obtain ⟨X,Y,FX,RX,W⟩:=f2
 have s03:=(s1.trans s2).trans s3
 have h0:=qkb RX.lw W.pN W.eq
 refine ⟨o,X,Y,M,41,5,4,4,rfl,⟨t2,lo,ws,ho,FX.same s3,RX,s03 _ _ hl,PM.tp (tpS s03),sM,∅⟩,qwB (F:=1) (W:=Sr.num (val c)) (qoM RX.lw) (qoM R.lw) (Sr.Pol.num _) (qlA (qlB sn.1 n0)) pG G0 PM.pd_ne ?_ eL eP⟩
 rw [qu8] at h0
 have e1:sr B*1*(sr B*1)=dd B*1:=by unfold dd;grind
 have e2:sr B*(1:Sr)=sr B:=by grind
 rw [e1,e2] at h0
 rw [h0]
 have e3:Sr.D (sr T*1+sr [((0:Int),(1:Int)),c]*sr B)=Sr.D (sr T)+(Sr.num (val c)*sr B+sr [((0:Int),(1:Int)),c]*Sr.D (sr B)):=by
  rw [Sr.D_add,Sr.D_mul (qam [((0:Int),(1:Int)),c]),qxp]
  congr 2
  grind
 rw [e3]
 unfold nn dd;grind
theorem qwD {K:W.Frag} {H:Hp} {Q:VK} {kr lo u w:Addr} {T B l:List Nu} {ws:List V} {L M:List (Nu×Nat×List Nu)} {G:Sr} {d:Nat} (F:FF H kr T B) (R:Rp 24 3 4 T B) (hl:H lo=some (.tup ws)) (PM:Prs H ws M) (sM:sm3 M<=4) (pG:Sr.Pol G) (G0:G≠0) (eL:lg L=G*lg M) (eP:pd L=G*pd M) (Pu:Pl H u [(1,1)]) (Pw:Pl H w l) (pt:Pt d l) (d3:d<=3) (l2:2<=l.length)
  (k:∀ t H',Same H H'->(∀ o H'',Same H' H''->H'' o=some (.tup [.ref t,.ref lo])->Wf H'' (.ref o) T B L)->Q (.ref t) H'):qbr K [.ref u,.ref w] H (λy H1=>qbM K [.ref kr,y] H1 Q E0) E0:=by
 have ql:=pt.len
 have d1:=pt.d1
 have g1:=qwz (b:=1) (c:=1) ∅ ∅
 refine ⟨_,_,_,l,18,58,1,4,3,rfl,Pu,Pw,qwz ∅ ∅,pt.g.mono ⋯ ⋯,pt.ne,by simp,⋯,λz=>(qep g1 z (n:=1) (e:=3) (by simp) ∅).mono ∅,(qep pt.g pt.ne (n:=4) (e:=3) ⋯ ∅).mono ⋯,∅,∅,λt H1 X0 Y0 s1 ff lw eq=>?_⟩
 have g4:Fx H1 t 19 1 4 (sr [(1,1)]) (sr l):=⟨X0,Y0,ff,Rp.of lw g1 pt.g pt.ne (by simp) ⋯ eq ⋯ ⋯,qam _,qam _,qoL pt,eq⟩
 refine qh8 ((qh7 F R).same s1) g4 3 ∅ λt2 H2 s2 f2=>k t2 H2 (s1.trans s2) λo H3 s3 ho=>?_
 obtain ⟨X,Y,FX,RX,W⟩:=f2
 have s03:=(s1.trans s2).trans s3
 have h0:=qkb RX.lw W.pN W.eq
 have D0:=D_ne pt.g.low pt.g.nz l2
 refine ⟨o,X,Y,M,47,6,7,4,rfl,⟨t2,lo,ws,ho,FX.same s3,RX,s03 _ _ hl,PM.tp (tpS s03),sM,∅⟩,qwB (F:=sr l*sr l) (W:=-1*Sr.D (sr l)) (qoM RX.lw) (qoM R.lw) ?_ (λz=>D0 ?_) pG G0 PM.pd_ne ?_ eL eP⟩
 ·rw [<-qtS];exact (Sr.Pol.num _).mul (qam _).D
 ·have:Sr.D (sr l) = -1*(-1*Sr.D (sr l)):=by grind
  rw [this,z];grind
 ·rw [qu8] at h0
  have e1:sr B*sr l*(sr B*sr l)=dd B*(sr l*sr l):=by unfold dd;grind
  rw [e1] at h0
  rw [h0]
  have e2:(1:Sr)*sr B=sr B:=by grind
  rw [e2,Sr.D_add,Sr.D_mul (qam T),Sr.D_mul (qam B)]
  unfold nn dd;grind
theorem qwE {te:TE} {g:TG} {D:Ends} {rest:TS} {σ:L2.St} {H:Hp} (h:te σ H λx H1=>g x σ H1 λσ' H'=>rest D σ' H'):qaF (qaM te g) rest D σ H:=h
theorem qwF {x y:Nu} (h:Sn0 x) (g:Sn0 y):Sn (nadd x y):=by
 have hx:=h.1.pos
 have gx:=g.1.pos
 have w:=quo (qfr hx gx) (wa2 hx gx) (qi2 (n:=x.1*y.2+y.1*x.2) (wa2 hx gx))
 have p:=(qfr hx gx).pos
 refine ⟨qfr hx gx,wak w.1 ?_,?_⟩
 ·refine wak (Int.natAbs_add_le _ _) ?_
  rw [war,war]
  have a1:=wbl h.2.1 (show y.2.natAbs<=3 by have:=g.2.2;omega)
  have a2:=wbl g.2.1 (show x.2.natAbs<=3 by have:=h.2.2;omega)
  omega
 ·have a3:=wbl (show x.2.natAbs<=3 by have:=h.2.2;omega) (show y.2.natAbs<=3 by have:=g.2.2;omega)
  have e:=w.2
  rw [war] at e
  show (nadd x y).2<=9
  have:(nadd x y).2.natAbs<=9:=wak e a3
  omega
theorem Sn0.sn {c:Nu} (h:Sn0 c):Sn c:=⟨h.1,wak h.2.1 ∅,by have:=h.2.2;omega⟩
structure Wx (H0 H:Hp) (p a kr g mo ln lo f:Addr) (n:Int) (T B:List Nu) (ws:List V) (L:List (Nu×Nat×List Nu)) (xs:List V) (M:List (Nu×Nat×List Nu)) (c:Nu) (fs:List V):Prop where
 st:Stt H p a n
 k:Kpa p a H0 H
 F:FF H kr T B
 g:H g=some (.lst ws)
 P:Prs H ws L
 m:Nm H mo c.1 c.2
 n:Pl H ln [((-7:Int),(1:Int)),(1,1)]
 l:H lo=some (.tup xs)
 M:Prs H xs M
 f:H f=some (.lst fs)
 w:∀ v∈fs,Wf H v T B L
structure Wc (H0:Hp) (p a g f:Addr) (T B:List Nu) (L M:List (Nu×Nat×List Nu)) (G:Sr) (c:Nu):Prop where
 R:Rp 24 3 4 T B
 gd:Gd L
 s4:sm3 L<=4
 l3:L.length<=3
 sM:sm3 M<=4
 pG:Sr.Pol G
 G0:G≠0
 eL:lg L=G*lg M
 eP:pd L=G*pd M
 sn:Sn0 c
 c0:c.1≠0
 f0:H0 f=none
 fp:f≠p
 fa:f≠a
 gp:g≠p
 ga:g≠a
 gf:g≠f
section
variable {H0 H H':Hp} {p a kr g mo ln lo f:Addr} {n n':Int} {T B:List Nu} {ws:List V} {L:List (Nu×Nat×List Nu)} {xs:List V} {M:List (Nu×Nat×List Nu)} {G:Sr} {c:Nu} {fs:List V}
theorem Wx.kp (h:Wx H0 H p a kr g mo ln lo f n T B ws L xs M c fs) (C:Wc H0 p a g f T B L M G c) (k:Kpa p a H H') (st:Stt H' p a n'):Wx H0 H' p a kr g mo ln lo f n' T B ws L xs M c fs:=by
 have t:=k.tp h.st
 exact ⟨st,h.k.trans k,h.F.tp t,k _ _ C.gp C.ga h.g,h.P.tp t,t _ _ h.m,h.n.tp t,t _ _ h.l,h.M.tp t,k _ _ C.fp C.fa h.f,λv hv=>(h.w v hv).tp t⟩
theorem Wx.same (h:Wx H0 H p a kr g mo ln lo f n T B ws L xs M c fs) (C:Wc H0 p a g f T B L M G c) (s:Same H H'):Wx H0 H' p a kr g mo ln lo f n T B ws L xs M c fs:=h.kp C (Kpa.of s) (h.st.same s)
theorem Wx.push (h:Wx H0 H p a kr g mo ln lo f n T B ws L xs M c fs) (C:Wc H0 p a g f T B L M G c) {vs:List V} (hv:∀ v∈vs,Wf H v T B L):Wx H0 (upd H f (.lst (fs++vs))) p a kr g mo ln lo f n T B ws L xs M c (fs++vs):=by
 have t:Tp H (upd H f (.lst (fs++vs))):=qia h.f
 refine ⟨h.st.upd C.fp C.fa,λb o h1 h2 hb=>(qaA (qas hb C.f0)).trans (h.k b o h1 h2 hb),h.F.tp t,(qaA C.gf).trans h.g,h.P.tp t,t _ _ h.m,h.n.tp t,t _ _ h.l,h.M.tp t,upd_same,λv q=>?_⟩
 rcases wa7.mp q with z | z
 ·exact (h.w v z).tp t
 ·exact (hv v z).tp t
variable {K:W.Frag} {D:Ends} {cc pt lf:Addr} {A Bb:List (Nu×Nat×List Nu)} {q:Nu×Nat×List Nu} {ls:List V} {x7:Option V}
theorem wr5 (h:Wx H0 H p a kr g mo ln lo f n T B ws L xs M c fs) (C:Wc H0 p a g f T B L M G c) (Pp:Pl H pt q.2.2) (pp:Pt q.2.1 q.2.2) (hq:q∈L) (fl:fs.length<=20)
  (nx:∀ H' v,Wx H0 H' p a kr g mo ln lo f n T B ws L xs M c (fs++[v])->D.nx [some (.ref p),some (.ref kr),some (.ref g),some (.ref mo),some (.ref ln),some (.ref lo),some (.ref f),x7,some (.ref cc),some (.ref pt),some (.ref lf)] H'):qeU K D [some (.ref p),some (.ref kr),some (.ref g),some (.ref mo),some (.ref ln),some (.ref lo),some (.ref f),x7,some (.ref cc),some (.ref pt),some (.ref lf)] H:=by
 have gd:=C.gd q hq
 refine ⟨_,rfl,.inl ⟨rfl,_,SqL.of h.f⟩,qgh (qbm (qbs (qan rfl (qbs (qnr (qbm (r_c (r_c ⟨qcP,λu hu=>⟨qjH,λv hv=>qan rfl ?_⟩⟩))))))))⟩
 have s1:=(qaf hu (.tup [.int 1,.int 1])).trans (qaf hv (.tup [.ref u]))
 have h1:=h.same C s1
 refine qwD (L:=L) h1.F C.R h1.l h1.M C.sM C.pG C.G0 C.eL C.eP ⟨_,upd_same,⟨u,rfl,qaf hv _ _ _ upd_same⟩,trivial⟩ (Pp.same s1) pp gd.2.2.1 gd.2.2.2 λtt H2 s2 mk=>qan rfl ⟨qcP,λo ho=>?_⟩
 have s3:=qaf ho (.tup [.ref tt,.ref lo])
 have w2:=mk o _ s3 upd_same
 have h2:=(h1.same C s2).same C s3
 refine ⟨_,_,_,rfl,rfl,h2.f,wav (by omega:fs.length<1000000) (sz (wac _)),nx _ _ (h2.push C λv hv=>?_)⟩
 rw [wag.mp hv];exact w2
theorem wr4 (h:Wx H0 H p a kr g mo ln lo f n T B ws L xs M c fs) (C:Wc H0 p a g f T B L M G c) (Pp:Pl H pt q.2.2) (pp:Pt q.2.1 q.2.2) (hc:Nm H cc q.1.1 q.1.2) (sq:Sn0 q.1) (hq:q∈L) (eq:L=A++q::Bb) (hl:H lf=some (.lst ls)) (Pl':Prs H ls (A++Bb)) (nlf:lf≠f) (fl:fs.length<=10)
  (nx:∀ H' v v',Wx H0 H' p a kr g mo ln lo f n T B ws L xs M c (fs++[v]++[v'])->D.nx [some (.ref p),some (.ref kr),some (.ref g),some (.ref mo),some (.ref ln),some (.ref lo),some (.ref f),x7,some (.ref cc),some (.ref pt),some (.ref lf)] H'):qeV K D [some (.ref p),some (.ref kr),some (.ref g),some (.ref mo),some (.ref ln),some (.ref lo),some (.ref f),x7,some (.ref cc),some (.ref pt),some (.ref lf)] H:=by
 have gd:=C.gd q hq
 have s4:=C.s4
 have l3:=C.l3
 have sAB:sm3 (A++Bb)+q.2.1<=4:=by
  rw [eq,qcv,qfS] at s4
  rw [qcv];omega
 have lAB:(A++Bb).length+1<=3:=by
  rw [eq,wao,way] at l3
  rw [wao];omega
 have ll:=Pl'.len
 obtain ⟨z1,h1,n1⟩:=Pp
 obtain ⟨z2,h2,n2⟩:=h.n
 have ql:=pp.len
 have d1:=pp.d1
 refine ⟨_,rfl,.inl ⟨rfl,_,SqL.of h.f⟩,qgh (qbm (qan rfl (qco (qcO (qan rfl (qgv (qbm (qan rfl (qbs (qan rfl (qan rfl ⟨_,_,z1,z2,_,_,_,_,_,_,rfl,h1,h2,n1,n2,pp.g,line_pt.g,⋯,by simp,⋯,⋯,∅,∅,λr R H1 s1 P1 G1 l1 e1=>⟨qcP,λpr hpr=>⟨qjH,λlp hlp=>?_⟩⟩⟩)))))))))))⟩
 have s2:=qaf hpr (.tup [.ref cc,.ref r])
 have s3:=qaf hlp (.lst [.ref pr])
 have s03:=(s1.trans s2).trans s3
 refine ⟨_,_,ls,[V.ref pr],rfl,rfl,s03 _ _ hl,upd_same,sz (by show ls.length+1<=_;omega),λg2 hg2=>?_⟩
 have s4':=qaf hg2 (.lst (ls++[V.ref pr]))
 have s04:=s03.trans s4'
 have h4:=h.same C s04
 have o1:=qb8 e1
 refine qfT (L:=L) h4.F C.R upd_same (L':=A++Bb++[(q.1,q.2.1+2,R)]) ((Pl'.tp (tpS s04)).app ⟨⟨pr,cc,r,rfl,s4' _ _ (s3 _ _ upd_same),s04 _ _ hc,((P1.same s2).same s3).same s4'⟩,sq.sn,qtX pp line_pt G1 l1 e1 (by have:=gd.2.2.1;omega),trivial⟩) (by rw [qcv];show _+(q.2.1+2+0)<=6;omega) (by rw [wao];show _+1<=6;omega) ?_ λrr H5a s5a mk=>⟨qcP,λo ho=>?_⟩
 ·rw [eq]
  exact qyb Pl'.pd_ne (qlA (qlB sq.1 gd.2.1)) (qoL pp) (D_ne line_pt.g.low line_pt.g.nz (by simp)) o1
 ·have s5b:=qaf ho (.tup [.ref kr,.ref rr])
  have w5:=mk o _ s5b upd_same
  have s5:=s5a.trans s5b
  generalize upd H5a o (.tup [.ref kr,.ref rr])=H5 at w5 s5 ⊢
  have h5:=h4.same C s5
  refine ⟨_,_,_,rfl,rfl,h5.f,wav (by omega:fs.length<1000000) (sz (wac _)),?_⟩
  have h6:=h5.push C (vs:=[.ref o]) λv hv=>by rw [wag.mp hv];exact w5
  have t6:Tp H5 (upd H5 f (.lst (fs++[V.ref o]))):=qia h5.f
  exact wr5 h6 C (Pl.tp ⟨z1,(s04.trans s5) _ _ h1,n1.tp (tpS (s04.trans s5))⟩ t6) pp hq (by rw [wao];show _+1<=20;omega) λH7 v h7=>nx H7 _ _ h7
theorem wr3 (h:Wx H0 H p a kr g mo ln lo f n T B ws L xs M c fs) (C:Wc H0 p a g f T B L M G c) (Pp:Pl H pt q.2.2) (pp:Pt q.2.1 q.2.2) (hc:Nm H cc q.1.1 q.1.2) (sq:Sn0 q.1) (hq:q∈L) (eq:L=A++q::Bb) (hl:H lf=some (.lst ls)) (Pl':Prs H ls (A++Bb)) (nlf:lf≠f) (fl:fs.length<=2)
  (nx:∀ H' fs',Wx H0 H' p a kr g mo ln lo f n T B ws L xs M c fs'->fs'.length=fs.length+4->D.nx [some (.ref p),some (.ref kr),some (.ref g),some (.ref mo),some (.ref ln),some (.ref lo),some (.ref f),x7,some (.ref cc),some (.ref pt),some (.ref lf)] H'):qeW K D [some (.ref p),some (.ref kr),some (.ref g),some (.ref mo),some (.ref ln),some (.ref lo),some (.ref f),x7,some (.ref cc),some (.ref pt),some (.ref lf)] H:=by
 have gd:=C.gd q hq
 have s4:=C.s4
 have l3:=C.l3
 have sAB:sm3 (A++Bb)+q.2.1<=4:=by
  rw [eq,qcv,qfS] at s4
  rw [qcv];omega
 have lAB:(A++Bb).length+1<=3:=by
  rw [eq,wao,way] at l3
  rw [wao];omega
 have ll:=Pl'.len
 have cv0:=qlA (qlB sq.1 gd.2.1)
 have l0:=D_ne pp.g.low pp.g.nz gd.2.2.2
 have b1:=sq.sn.bd
 have b2:=C.sn.sn.bd
 refine ⟨_,rfl,.inl ⟨rfl,_,SqL.of h.f⟩,qgh (qtE (qbm (qan rfl (qco (qan rfl ?_)))))⟩
 refine qfT (L:=L) h.F C.R hl (L':=A++Bb) Pl' ⋯ ⋯ (by rw [eq];exact qx9 Pl'.pd_ne cv0 l0) λrr H1a s1a mk=>⟨qcP,λo1 ho1=>?_⟩
 have s1b:=qaf ho1 (.tup [.ref kr,.ref rr])
 have w1:=mk o1 _ s1b upd_same
 have s1:=s1a.trans s1b
 generalize upd H1a o1 (.tup [.ref kr,.ref rr])=H1 at w1 s1 ⊢
 have h1:=h.same C s1
 refine qbm (qan rfl (qco (qcO (qan rfl (qgv (qbm (qbs (qan rfl (qan rfl ⟨_,_,_,_,_,_,rfl,s1 _ _ hc,h1.m,sq.1.pos,C.sn.1.pos,b1.1.mono ∅,b1.2.mono ∅,b2.1.mono ∅,b2.2.mono ∅,λr hr=>qan rfl ⟨qcP,λpr hpr=>⟨qjH,λlp hlp=>?_⟩⟩⟩)))))))))
 have s2:=qaf hr (.tup [.int (nadd (q.1.1,q.1.2) (c.1,c.2)).1,.int (nadd (q.1.1,q.1.2) (c.1,c.2)).2])
 have s3:=qaf hpr (.tup [.ref r,.ref pt])
 have s4':=qaf hlp (.lst [.ref pr])
 have s14:=(s2.trans s3).trans s4'
 have s04:=s1.trans s14
 refine ⟨_,_,ls,[V.ref pr],rfl,rfl,s04 _ _ hl,upd_same,sz (by show ls.length+1<=_;omega),λg2 hg2=>?_⟩
 have s5:=qaf hg2 (.lst (ls++[V.ref pr]))
 have s05:=s04.trans s5
 have h5:=h.same C s05
 have ec:Sr.num (val (nadd q.1 c))=Sr.num (val q.1)+Sr.num (val c):=by
  rw [qha sq.1.pos C.sn.1.pos];exact Sr.num_add _ _
 refine qfT (L:=L) h5.F C.R upd_same (L':=A++Bb++[(nadd q.1 c,q.2.1,q.2.2)]) ((Pl'.tp (tpS s05)).app ⟨⟨pr,r,pt,rfl,s5 _ _ (s4' _ _ upd_same),s5 _ _ (s4' _ _ (s3 _ _ upd_same)),Pp.same s05⟩,qwF sq C.sn,pp,trivial⟩) (by rw [qcv];show _+(q.2.1+0)<=6;omega) (by rw [wao];show _+1<=6;omega) (by rw [eq];exact qya Pl'.pd_ne (Sr.Pol.num _) (qlA (qlB C.sn.1 C.c0)) l0 (qoL pp) ec) λrr2 H6a s6a mk2=>⟨qcP,λo2 ho2=>⟨qcP,λnl hnl=>?_⟩⟩
 have s6b:=qaf ho2 (.tup [.ref kr,.ref rr2])
 have w6:=mk2 o2 _ s6b upd_same
 have s6:=s6a.trans s6b
 generalize upd H6a o2 (.tup [.ref kr,.ref rr2])=H6 at w6 s6 hnl ⊢
 have s7:=qaf hnl (.lst [.ref o1,.ref o2])
 have h7:=(h5.same C s6).same C s7
 have s57:=s6.trans s7
 refine ⟨_,_,_,_,rfl,rfl,h7.f,upd_same,sz (by show fs.length+2<=_;omega),?_⟩
 have w1':=w1.tp (tpS ((s14.trans s5).trans s57))
 have h8:=h7.push C (vs:=[.ref o1,.ref o2]) λv hv=>by
  rcases wau.mp hv with rfl | hv
  ·exact w1'
  ·rw [wag.mp hv];exact w6.tp (tpS s7)
 have s07:=s05.trans s57
 have t8:Tp (upd H6 nl (.lst [.ref o1,.ref o2])) (upd (upd H6 nl (.lst [.ref o1,.ref o2])) f (.lst (fs++[V.ref o1,V.ref o2]))):=qia h7.f
 have t08:=(tpS s07).trans t8
 refine wr4 h8 C (Pp.tp t08) pp (t08 _ _ hc) sq hq eq ((qaA nlf).trans (s07 _ _ hl)) (Pl'.tp t08) nlf (by rw [wao];show _+2<=10;omega) λH9 v v' h9=>nx H9 _ h9 ?_
 rw [wao,wao,wao];rfl
end
theorem qoN (h:qeC K vs H Q E):qqF K { nx:=λ_ H'=>Q .non H',rt:=Q } (L2.start ["_law_state","_law_kr","_law_pairs","_law_more","_law_line","_law_logs","_law_forms","_law_at","_law_c","_law_part","_law_left"] vs) H:=by
 obtain ⟨p,a,kr,g,n,T,B,ws,L,rfl,st,n9,F,R,hg,ngp,nga,PL,s4,l3,gd,k⟩:=h
 refine qcn (qan rfl (qlk st ⋯ λmo t d H1 hm lo t0 t1 d1 st1 k1=>?_))
 have tp1:=k1.tp st
 have hg1:=k1 _ _ ngp nga hg
 have F1:=F.tp tp1
 have PL1:=PL.tp tp1
 have sn:Sn0 (t,d):=⟨lo,t1,d1⟩
 refine qcn ?_
 refine ⟨_,rfl,qcP,λw hw=>⟨w,[-7,1],rfl,upd_same,(show 2<=100 by decide),λln H2 s2 Pln=>?_⟩⟩
 have s12:=(qaf hw (.lst [.int (-7),.int 1])).trans s2
 refine qcn (qan rfl ⟨_,ws,L,4,rfl,s12 _ _ hg1,PL1.tp (tpS s12),s4,∅,⋯,λlo' xs M G H3 hl PM sM pG G0 eL eP s3=>?_⟩)
 have s13:=s12.trans s3
 refine qcp (qtE (qbm (qbs (qan rfl (qco (qbm (qbm (r_c (r_c ⟨qcP,λu hu=>qan rfl ⟨qcP,λv hv=>?_⟩⟩)))))))))
 have s4':=qaf hu (.tup [.int 0,.int 1])
 have s5:=qaf hv (.tup [.ref u,.ref mo])
 have s35:=s4'.trans s5
 have s15:=s13.trans s35
 refine qwC (c:=(t,d)) (L:=L) (F1.same s15) R (s35 _ _ hl) (PM.tp (tpS s35)) sM pG G0 eL eP (s5 _ _ upd_same) (s15 _ _ hm) upd_same sn t0 λta H6a s6a mk=>qan rfl ⟨qcP,λo1 ho1=>?_⟩
 have s6b:=qaf ho1 (.tup [.ref ta,.ref lo'])
 have w6:=mk o1 _ s6b upd_same
 have s6:=s6a.trans s6b
 generalize upd H6a o1 (.tup [.ref ta,.ref lo'])=H6 at w6 s6 ⊢
 have s16:=s15.trans s6
 refine qbm (qan rfl (qco (qcO (qan rfl (qgv (qbm (qan rfl (qan rfl ⟨qcP,λpr hpr=>⟨qjH,λlp hlp=>?_⟩⟩))))))))
 have s7:=qaf hpr (.tup [.ref mo,.ref ln])
 have s8:=qaf hlp (.lst [.ref pr])
 have s68:=s7.trans s8
 have s18:=s16.trans s68
 have wl:=PL.len
 refine ⟨_,_,ws,[V.ref pr],rfl,rfl,s18 _ _ hg1,upd_same,sz (by show ws.length+1<=_;omega),λg2 hg2=>?_⟩
 have s9:=qaf hg2 (.lst (ws++[V.ref pr]))
 have s69:=s68.trans s9
 have s19:=s16.trans s69
 have s29:=(((s3.trans s35).trans s6).trans s69)
 refine qfT (F1.same s19) R upd_same (L:=L) (L':=L++[((t,d),2,[((-7:Int),(1:Int)),(1,1)])]) ((PL1.tp (tpS s19)).app ⟨⟨pr,mo,ln,rfl,s9 _ _ (s8 _ _ upd_same),s19 _ _ hm,Pln.same s29⟩,sn.sn,line_pt,trivial⟩) (by rw [qcv];show _+(2+0)<=6;omega) (by rw [wao];show _+1<=6;omega) (qx8 PL.pd_ne (qlA (qlB lo t0)) (D_ne line_pt.g.low line_pt.g.nz (by simp))) λrb H10a s10a mk2=>⟨qcP,λo2 ho2=>⟨qcP,λf hf=>?_⟩⟩
 have s10b:=qaf ho2 (.tup [.ref kr,.ref rb])
 have w10:=mk2 o2 _ s10b upd_same
 have s10:=s10a.trans s10b
 generalize upd H10a o2 (.tup [.ref kr,.ref rb])=H10 at w10 s10 hf ⊢
 have s11:=qaf hf (.lst [.ref o1,.ref o2])
 have s1e:=(s19.trans s10).trans s11
 have s6e:=(s69.trans s10).trans s11
 have s3e:=(s35.trans s6).trans s6e
 have s2e:=s3.trans s3e
 have f1:H1 f=none:=(s19.trans s10).free hf
 have nf:f≠p/\f≠a:=st1.pn f1
 have f0:H f=none:=by
  cases e:H f with
  | none=>rfl
  | some o=>rw [k1 _ _ nf.1 nf.2 e] at f1;cases f1
 have C:Wc H p a g f T B L M G (t,d):=⟨R,gd,s4,l3,sM,pG,G0,eL,eP,sn,t0,f0,nf.1,nf.2,ngp,nga,qas hg1 f1⟩
 have W:Wx H (upd H10 f (.lst [.ref o1,.ref o2])) p a kr g mo ln lo' f (n+3) T B ws L xs M (t,d) [.ref o1,.ref o2]:=by
  refine ⟨st1.same s1e,(k1.same s1e),F1.same s1e,s1e _ _ hg1,PL1.tp (tpS s1e),s1e _ _ hm,Pln.same s2e,s3e _ _ hl,PM.tp (tpS s3e),upd_same,λv hv=>?_⟩
  rcases wau.mp hv with rfl | hv
  ·exact w6.tp (tpS s6e)
  ·rw [wag.mp hv];exact w10.tp (tpS s11)
 clear s11 s1e s6e s3e s2e
 generalize upd H10 f (.lst [.ref o1,.ref o2])=H11 at W ⊢
 have fin:∀ H' fs n' σ',σ'[6]?=some (some (V.ref f))->Wx H H' p a kr g mo ln lo' f n' T B ws L xs M (t,d) fs->n'<=n+10->1<=fs.length->fs.length<=6->qhZ K { nx:=λ_ H'=>Q .non H',rt:=Q } σ' H':=λH' fs n' σ' e6 W' hn f1 f6=>qdu (qan e6 (k f fs n' H' nf.1 nf.2 W'.f f1 f6 W'.w hn W'.st W'.k))
 refine qsw (qch (qcO (qan rfl ⟨sz ∅,λe he=>?_⟩)))
 have s12':=qaf he (.lst [])
 have W12:=W.same C s12'
 refine qve W12.g W12.P upd_same ⟨_,rfl,qck (λc0=>?_) (λ_=>fin _ _ _ _ rfl W12 ⋯ (show 1<=2 by decide) (show 2<=6 by decide))⟩
 have L0:L≠[]:=by simpa using c0
 generalize upd H11 e (.lst [])=H12 at W12 ⊢
 have w1:1<=ws.length:=by
  have:0<L.length:=waq.mpr L0
  omega
 refine qb0 (qan rfl (qjG (qan rfl ⟨_,_,rfl,W12.g,qcx W12.st ⋯ ⋯ ⋯ λdz H13 d0 d1' st13 k13=>?_⟩)))
 have W13:=W12.kp C k13 st13
 obtain ⟨kk,rfl⟩:=Int.eq_ofNat_of_zero_le d0
 have lt:kk<ws.length:=by omega
 obtain ⟨q,hq,⟨tt,cc,pt,e1,ht,hc,Pp⟩,sq,pp⟩:=W13.P.get (wah lt)
 have qm:=wan hq
 have gq:=gd q qm
 refine qwE (qcO (qan rfl (qan rfl ⟨_,_,_,V.ref tt,rfl,rfl,W13.g,qcg (j:=kk) rfl (by rw [wah lt,e1]),⟨_,_,rfl,ht,rfl,_,_,rfl,_,_,rfl,rfl,?_⟩⟩)))
 refine qcp (qcO ?_)
 refine ⟨_,rfl,_,rfl,_,rfl,_,_,rfl,W13.g,λw1 hw1=>?_⟩
 have c1:qg4 ws none (some (kk:Int))=ws.take kk:=qfv ⋯
 rw [c1]
 have sa:=qaf hw1 (.lst (ws.take kk))
 refine ⟨_,rfl,_,rfl,_,_,rfl,rfl,_,rfl,_,_,rfl,sa _ _ W13.g,λw2 hw2=>?_⟩
 have c2:qg4 ws (some ((kk:Int)+1)) none=ws.drop (kk+1):=qs6 (m:=kk+1) ⋯
 rw [c2]
 have sb:=qaf hw2 (.lst (ws.drop (kk+1)))
 refine ⟨_,_,ws.take kk,ws.drop (kk+1),rfl,rfl,sb _ _ upd_same,upd_same,sz (by rw [waw,wb5];omega),λlf hlf=>?_⟩
 have sc:=qaf hlf (.lst (ws.take kk++ws.drop (kk+1)))
 have sac:=(sa.trans sb).trans sc
 have W16:=W13.same C sac
 have Pc':Prs (upd (upd (upd H13 w1 (.lst (ws.take kk))) w2 (.lst (ws.drop (kk+1)))) lf (.lst (ws.take kk++ws.drop (kk+1)))) (ws.take kk++ws.drop (kk+1)) (L.take kk++L.drop (kk+1)):=Prs.app (W16.P.cut kk).1 (W16.P.cut (kk+1)).2
 have eqL:L=L.take kk++q::L.drop (kk+1):=by
  have e2:=wap.mp hq
  conv=>lhs;rw [<-wb3 kk L,List.drop_eq_getElem_cons e2.1,e2.2]
 have nlf:lf≠f:=Ne.symm (qas ((sa.trans sb) _ _ W13.f) hlf)
 refine wr3 W16 C (Pp.same sac) pp (sac _ _ hc) gq.1 qm eqL upd_same Pc' nlf (show 2<=2 by decide) λH17 fs' W17 l17=>fin _ _ _ _ rfl W17 ⋯ ⋯ (by rw [l17];exact (show 2+4<=6 by decide))
theorem qs7 {T B X Y:List Nu} {N:Sr} {c:Rat} (h:Lw X Y) (pN:Sr.Pol N) (eq:sr X*(sr B*1)=N*sr Y) (eN:N=sr T*1+Sr.num c*sr B):nn X Y*dd B=nn T B*dd Y:=by
 have h0:=qkb h pN eq
 have e1:sr B*1*(sr B*1)=dd B:=by unfold dd;grind
 have e2:sr B*(1:Sr)=sr B:=by grind
 rw [e1,e2,eN] at h0
 rw [h0,show sr T*(1:Sr)=sr T by grind,Sr.D_add,Sr.D_mul (Sr.Pol.num c),Sr.D_const]
 unfold nn dd;grind
theorem qyd {c:Nu} (h:Low c.1 c.2):sr (trim [c])=Sr.num (val c):=Sr.ext' λk=>by
 show pwo (trim [c]) k=val c*qca k
 rw [qdP (λq hq=>by rw [wag.mp hq];exact h)]
 cases k with
 | zero=>show val c=val c*(1:Rat);grind
 | succ k=>rw [qa0 (by simp)];show _=val c*0;grind
theorem qye {c:Nu} (h:Sn0 c):Gq 12 2 (trim [c]):=by
 obtain ⟨lo,h1,h2⟩:=h
 have p:=lo.pos
 refine ⟨λq hq=>by rw [wag.mp (qbC hq)];exact lo,qdN _,c.2,⟨p,λq hq=>by rw [wag.mp (qbC hq)];exact wbp _⟩,(by unfold Bd;omega),λz hz=>?_⟩
 obtain ⟨q,hq,rfl⟩:=wai.mp hz
 rw [wag.mp (qbC hq),Int.ediv_self ⋯,Int.mul_one]
 unfold Bd;omega
theorem qwG (h:qk0 K vs H Q E):qw8 K { nx:=λ_ H'=>Q .non H',rt:=Q } (L2.start ["_law_script","_law_state","_law_pieces_here","_law_parts","_law_kr","_law_pairs","_law_logs","_law_f","_law_forms","_law_turn"] vs) H:=by
 obtain ⟨s,ns,rfl,hS,h63,k⟩:=h
 refine qcn (qan rfl ⟨_,ns,rfl,hS,h63,λp a H1 p0 a0 s1 st=>?_⟩)
 refine qcp ?_
 refine ⟨_,rfl,?_⟩
 refine qbs (qan rfl (r_c (qcx st ∅ ∅ ∅ λd H2 d0 d1 st2 k2=>?_)))
 refine ⟨p,a,d,4,0+1,rfl,st2,∅,d0,⋯,∅,∅,λf ws L n' H3 f0 hf TL sL gd nd lL ni st3 k3=>?_⟩
 have nf:f≠p/\f≠a:=st2.pn f0
 have wl:=TL.len
 have l3:L.length<=3:=by omega
 have s4:sm3 L<=4:=by omega
 refine qcp (qh9 (qan rfl ⟨_,rfl,⟨_,SqL.of hf⟩,CompJ.lst (xs:=ws) (λi ys H'=>i<=ws.length/\H3=H'/\Pts H3 ys ((L.take i).map λq=>q.2)) ⟨wae _,rfl,trivial⟩ ?_ ?_ ?_⟩))
 ·rintro i ys H' ⟨hi,rfl,h⟩
  exact ⟨hi,sz (by rw [h.len,waa,waw];omega),SqL.of hf⟩
 ·rintro i x ys H' hx ⟨hi,rfl,h⟩
  have lt:i<ws.length:=(wap.mp hx).1
  obtain ⟨q,hq,⟨y,w,c,e,rfl,hy,Pw,hc,he⟩,sn,pt⟩:=TL.get hx
  refine qrU (qcO (qan rfl (r_c ⟨_,_,_,_,rfl,rfl,hy,rfl,lt,rfl,?_⟩)))
  rw [wbv,hq,wbj]
  exact h.app ⟨⟨w,rfl,Pw⟩,pt,trivial⟩
 ·rintro ys H' ⟨_,rfl,hP⟩ g hg
  rw [wl,wa3] at hP
  have s4':=qaf hg (.lst ys)
  have hg4:(upd H3 g (.lst ys)) g=some (HO.lst ys):=upd_same
  have ng:g≠p/\g≠a:=st3.pn hg
  generalize upd H3 g (.lst ys)=H4 at s4' hg4 ⊢
  have st4:=st3.same s4'
  have P4:=hP.tp (tpS s4')
  have q3:∀ q∈L.map (λq=>q.2),q.1<=3:=λq hq=>by
   obtain ⟨y,hy,rfl⟩:=wai.mp hq
   exact (gd y hy).2.2.1
  refine qb0 (qan rfl (qan rfl ⟨p,a,g,ys,_,n',rfl,st4,⋯,hg4,P4,q3,by rw [waa];omega,ng.1,ng.2,λkr T B n5 H5 F R n5' st5 k5=>?_⟩))
  have t45:=k5.tp st4
  have TL5:=(TL.tp (tpS s4')).tp t45
  have hf5:=k5 _ _ nf.1 nf.2 (s4' _ _ hf)
  have hg5:=k5 _ _ ng.1 ng.2 hg4
  have P5:=P4.tp t45
  refine qcp (qh9 (qan rfl ⟨_,rfl,⟨_,SqL.of hf5⟩,CompJ.lst (xs:=ws) (λi ys H'=>i<=ws.length/\Same H5 H'/\Prs H' ys (L.take i)) ⟨wae _,Same.refl H5,trivial⟩ ?_ ?_ ?_⟩))
  ·rintro i zs H' ⟨hi,s,h⟩
   exact ⟨hi,sz (by rw [h.len,waw];omega),SqL.of (s _ _ hf5)⟩
  ·rintro i x zs H' hx ⟨hi,s,h⟩
   have lt:i<ws.length:=(wap.mp hx).1
   obtain ⟨q,hq,⟨y,w,c,e,rfl,hy,Pw,hc,he⟩,sn,pt⟩:=(TL5.tp (tpS s)).get hx
   refine ⟨_,_,rfl,hy,rfl,_,_,rfl,_,_,rfl,_,_,rfl,rfl,?_⟩
   refine qbm (qan rfl (qan rfl ⟨qcP,λu hu=>⟨lt,s.trans (qaf hu _),?_⟩⟩))
   rw [wbv,hq]
   exact (h.tp (tpS (qaf hu _))).app ⟨⟨u,c,w,rfl,upd_same,qaf hu _ _ _ hc,Pw.same (qaf hu _)⟩,sn.sn,pt,trivial⟩
  ·rintro zs H' ⟨_,s6,hPr⟩ pr hpr
   rw [wl,wa3] at hPr
   have s7:=qaf hpr (.lst zs)
   have hpr7:(upd H' pr (.lst zs)) pr=some (HO.lst zs):=upd_same
   have s57:=s6.trans s7
   have npr:pr≠p/\pr≠a:=(st5.same s6).pn hpr
   have PL7:=hPr.tp (tpS s7)
   generalize upd H' pr (.lst zs)=H7 at s57 hpr7 PL7 ⊢
   refine qcn (qan rfl ⟨_,zs,L,4,rfl,hpr7,PL7,s4,∅,⋯,λlo xs M G H8 hl PM sM pG G0 eL eP s8=>?_⟩)
   have s58:=s57.trans s8
   refine qb0 (qco (qan rfl (qnK (qh7 (F.same s58) R) 3 ∅ λt9 H9 s9 f9=>?_)))
   have s59:=s58.trans s9
   refine qbs (qco (qan rfl ⟨_,ws,L,rfl,s59 _ _ hf5,TL5.tp (tpS s59),s4,l3,λq hq=>(gd q hq).2.2.1,nd,λtt R10 H10 s10 P10 G10 l10 e10=>?_⟩))
   have s5a:=s59.trans s10
   refine qco (qan rfl ⟨_,ys,_,rfl,s5a _ _ hg5,P5.tp (tpS s5a),by rw [<-qka];omega,by rw [waa];omega,λbb R11 H11 s11 P11 G11 R110 l11 e11=>?_⟩)
   rw [<-qka] at G11 l11
   rw [qmS] at e11
   refine ⟨_,_,R10,R11,600,640,4,5,3,rfl,P10.same s11,P11,G10,G11.mono ⋯ ⋯,R110,l10,⋯,λz=>(qep G10 z (n:=4) (e:=3) l10 ∅).mono ∅,(qep G11 R110 (n:=5) (e:=3) ⋯ ∅).mono ⋯,∅,∅,λt12 H12 X12 Y12 s12 ff12 lw12 eq12=>?_⟩
   have g12:Fx H12 t12 640 4 5 (sr R10) (sr R11):=⟨X12,Y12,ff12,Rp.of lw12 G10 G11 R110 l10 ⋯ eq12 ⋯ ⋯,qam _,qam _,qci G11.low G11.nz R110,eq12⟩
   have s9c:=(s10.trans s11).trans s12
   refine qh8 (f9.same s9c) g12 4 ∅ λtf H13 s13 f13=>?_
   rw [e10,e11] at f13
   have s5d:=(s59.trans s9c).trans s13
   have s8d:=(s9.trans s9c).trans s13
   have wf:WtF H13 tf _ _ _ (nn T B*pd L+lg L*dd B) (dd B*pd L):=f13.wt
   have pdL:=PL7.pd_ne
   have dB:=qoM R.lw
   have F13:=F.same s5d
   have l13:=s8d _ _ hl
   have M13:=PM.tp (tpS s8d)
   refine qsw (qch (qcO (qbs (qan rfl (qbm (qan rfl (qan rfl ⟨qcP,λo ho=>?_⟩)))))))
   have s14:=qaf ho (.tup [.ref kr,.ref lo])
   obtain ⟨Xf,Yf,w1,w2,w3⟩:=wf
   refine ⟨_,o,T,B,M,24,3,4,4,_,_,_,_,_,rfl,⟨Xf,Yf,w1.same s14,w2,w3⟩,⟨kr,lo,xs,upd_same,F13.same s14,R,s14 _ _ l13,M13.tp (tpS s14),sM,∅⟩,λx H15 s15 hx=>?_⟩
   have xt:x=true:=hx.mpr (by rw [eL,eP];grind)
   subst xt
   refine ⟨true,true,rfl,rfl,_,rfl,?_⟩
   have sE:=s14.trans s15
   refine qsw (qch (qcO (qbs (qan rfl (qbm (qbs (qan rfl (qco (qco (qan rfl (qga (((st5.same s5d).same sE)) ⋯ λcn ct cd H16 hcn lcn tcn dcn st16 k16=>?_)))))))))))
   have t16:=k16.tp ((st5.same s5d).same sE)
   have tE:=(tpS sE).trans t16
   have sc:Sn0 (ct,cd):=⟨lcn,tcn,dcn⟩
   have gc:=qye sc
   refine ⟨_,(ct,cd),rfl,hcn,λt17 H17 s17 ff17=>?_⟩
   have g17:Fx H17 t17 13 1 1 (sr (trim [(ct,cd)])) (sr [(1,1)]):=⟨_,_,ff17,Rp.of (lw1 gc.low gc.nz) gc (qwz (b:=1) (c:=1) ∅ ∅) (by simp) (wak (qcw _) (by simp)) (by simp) rfl ∅ ∅,Wt.self (lw1 gc.low gc.nz)⟩
   refine qh8 (qh7 ((F13.tp tE).same s17) R) g17 3 ∅ λt18 H18 s18 f18=>qan rfl ⟨qcP,λo2 ho2=>?_⟩
   have s19:=qaf ho2 (.tup [.ref t18,.ref lo])
   have sF:=(s17.trans s18).trans s19
   have tF:=tE.trans (tpS sF)
   obtain ⟨X,Y,FX,RX,W⟩:=f18
   have nd':nn X Y*dd B=nn T B*dd Y:=by
    have we:=W.eq
    rw [qu8] at we
    exact qs7 RX.lw W.pN (c:=val (ct,cd)) (by rw [we,qu8]) (by rw [qu8,qyd lcn])
   refine ⟨_,o2,X,Y,M,41,4,4,4,_,_,_,_,_,rfl,⟨Xf,Yf,w1.tp tF,w2,w3⟩,⟨t18,lo,xs,upd_same,FX.same s19,RX,tF _ _ l13,M13.tp tF,sM,∅⟩,λx H20 s20 hx=>?_⟩
   have xt:x=true:=hx.mpr (by
    rw [eL,eP]
    have e1:(nn X Y*pd M+dd Y*lg M)*(dd B*(G*pd M))=(nn X Y*dd B*pd M+dd Y*dd B*lg M)*(G*pd M):=by grind
    rw [e1,nd'];grind)
   subst xt
   refine ⟨true,true,rfl,rfl,_,rfl,?_⟩
   have sG:=sF.trans s20
   have st20:=st16.same sG
   have tG:=tF.trans (tpS s20)
   have npr20:H20 pr=some (.lst zs):=sG _ _ (k16 _ _ npr.1 npr.2 (sE _ _ (s8d _ _ (s8 _ _ hpr7))))
   have PL20:=((PL7.tp (tpS (s8.trans s8d))).tp tG)
   refine qux (qan rfl (qan rfl (qan rfl ⟨p,a,kr,pr,_,T,B,zs,L,rfl,st20,⋯,F13.tp tG,R,npr20,npr.1,npr.2,PL20,s4,l3,gd,λff fs n21 H21 nfp nfa hff f1 f6 wrong n21' st21 k21=>?_⟩)))
   have w21:=(w1.tp tG).tp (k21.tp st20)
   refine ⟨_,rfl,∅,∅,?_⟩
   refine ForR.by (λi σ H'=>∃ x9 n',σ=[some (.ref s),some (.ref p),some (.ref f),some (.ref g),some (.ref kr),some (.ref pr),some (.ref lo),some (.ref tf),some (.ref ff),x9]/\H' ff=some (.lst fs)/\Stt H' p a n'/\n'<=50000+i/\Tp H21 H') ⟨none,n21,rfl,hff,st21,⋯,λ_ _ h=>h⟩ ?_ ?_
   ·rintro i σ H22 hi ⟨x9,n22,rfl,hff22,st22,hn22,t22⟩
    have i3:i<3:=hi
    refine qrU (qch (qcO (qbs (qan rfl (qcO (qan rfl (qbs (qan rfl (qjG (qan rfl ⟨_,_,rfl,hff22,qcx st22 ⋯ ⋯ ⋯ λdz H23 d0' d1' st23 k23=>?_⟩))))))))))
    have t23:=k23.tp st22
    have hff23:=k23 _ _ nfp nfa hff22
    have dk:dz.toNat<fs.length:=by omega
    obtain ⟨o3,T',B',L',b,n3,m,SS,e3,fm,ne3⟩:=wrong fs[dz.toNat] (wb0 dk)
    have tt:=t22.trans t23
    refine ⟨_,_,_,V.ref o3,rfl,rfl,hff23,qcg (j:=dz.toNat) (Int.toNat_of_nonneg d0').symm (by rw [wah dk,e3]),?_⟩
    refine ⟨_,o3,T',B',L',b,n3,m,SS,_,_,_,_,_,rfl,⟨Xf,Yf,w21.tp tt,w2,w3⟩,fm.tp tt,λx H24 s24 hx=>?_⟩
    have xf:x=false:=by
     cases hxx:x with
     | false=>rfl
     | true=>exact absurd (hx.mp hxx) (λe=>ne3 (by rw [e];congr 1;grind))
    subst xf
    exact ⟨false,false,rfl,rfl,_,rfl,_,_,rfl,s24 _ _ hff23,st23.same s24,⋯,tt.trans (tpS s24)⟩
   ·rintro σ H22 ⟨x9,n22,rfl,hff22,st22,hn22,t22⟩
    exact k _
end Bs
namespace Bs
open PySem PySem.Spec PyProof.Rows L2
set_option maxHeartbeats 4000000
open Hd
structure Bl (K:W.Frag) (mg:Str->Option Value):Prop where
 abs:mg "abs" = none
 min:mg "min" = none
 len:mg "len" = none
 enumerate:mg "enumerate" = none
 list:mg "list" = none
 max:mg "max" = none
 range:mg "range" = none
 any:mg "any" = none
 zip:mg "zip" = none
 EXPONENTS:mg "EXPONENTS" = some (.ref (qcq K))
 tuple:mg "tuple" = none
 divmod:mg "divmod" = none
 xEXPONENTS:∀ H:Hp,SqT K H (qcq K) (exps.map λe:Nat=>V.int (e:Int))
section
variable (P:Program) (w:World) (K:W.Frag) (mg:Str->Option Value) (base:Heap)
noncomputable abbrev qa8:Prop:=Cal P w K mg base 1 "common_divisor" ["one", "other"] (qaH K)
noncomputable abbrev qnP:Prop:=Cal P w K mg base 1 "raised" ["whole", "n"] (qdz K)
noncomputable abbrev qib:Prop:=Cal P w K mg base 2 "content" ["row", "start"] (qcr K)
noncomputable abbrev qcX:Prop:=Cal P w K mg base 1 "row_trimmed" ["row"] (qbc K)
noncomputable abbrev qeq:Prop:=Cal P w K mg base 1 "row_parted" ["row", "divisor"] (qbD K)
noncomputable abbrev qic:Prop:=Cal P w K mg base 1 "row_times" ["row", "other"] (qb6 K)
noncomputable abbrev qjj:Prop:=Cal P w K mg base 1 "row_over" ["row", "divisor"] (qb2 K)
noncomputable abbrev qgi:Prop:=Cal P w K mg base 2 "row_less" ["row", "factor", "other", "weight", "shift"] (qb1 K)
noncomputable abbrev qfU:Prop:=Cal P w K mg base 4 "strand_rest" ["strand", "other"] (qbF K)
noncomputable abbrev qcj:Prop:=Cal P w K mg base 3 "strand_shortened" ["strand"] (qaQ K)
noncomputable abbrev qdc:Prop:=Cal P w K mg base 4 "row_shortened" ["row"] (qaX K)
noncomputable abbrev qer:Prop:=Cal P w K mg base 5 "strand_euclid" ["strand", "other"] (qa7 K)
noncomputable abbrev qd4:Prop:=Cal P w K mg base 1 "inverse_modulo" ["whole", "prime"] (qbd K)
noncomputable abbrev qeZ:Prop:=Cal P w K mg base 1 "rests_modulo" ["row", "prime"] (qbu K)
noncomputable abbrev qes:Prop:=Cal P w K mg base 2 "row_modulo" ["row", "prime"] (qbn K)
noncomputable abbrev qe0:Prop:=Cal P w K mg base 2 "monic_modulo" ["row", "prime"] (qa4 K)
noncomputable abbrev qe1:Prop:=Cal P w K mg base 3 "split_modulo" ["row", "divisor", "modulus"] (qbv K)
noncomputable abbrev qfV:Prop:=Cal P w K mg base 4 "rest_modulo" ["row", "divisor", "modulus"] (qbG K)
noncomputable abbrev qet:Prop:=Cal P w K mg base 5 "euclid_modulo" ["row", "other", "prime"] (qbj K)
noncomputable abbrev qlC:Prop:=Cal P w K mg base 1 "nearest" ["whole", "prime"] (qcZ K)
noncomputable abbrev qdJ:Prop:=Cal P w K mg base 6 "common_by_prime" ["row", "other", "prime"] (qa5 K)
noncomputable abbrev qgE:Prop:=Cal P w K mg base 7 "row_common" ["row", "other"] (qbO K)
noncomputable abbrev qeu:Prop:=Cal P w K mg base 2 "ratio" ["top", "bottom"] (qbP K)
noncomputable abbrev qrw:Prop:=Cal P w K mg base 3 "plus" ["one", "other"] (qhM K)
noncomputable abbrev qrx:Prop:=Cal P w K mg base 3 "minus" ["one", "other"] (qhg K)
noncomputable abbrev qmT:Prop:=Cal P w K mg base 3 "times" ["one", "other"] (qfw K)
noncomputable abbrev qt0:Prop:=Cal P w K mg base 3 "over" ["one", "other"] (qf9 K)
noncomputable abbrev qnQ:Prop:=Cal P w K mg base 1 "before" ["one", "other"] (qfx K)
noncomputable abbrev qfW:Prop:=Cal P w K mg base 1 "poly" ["row"] (qcs K)
noncomputable abbrev qkc:Prop:=Cal P w K mg base 1 "degree" ["P"] (qdC K)
noncomputable abbrev qfX:Prop:=Cal P w K mg base 2 "cleared" ["P"] (qbw K)
noncomputable abbrev qdX:Prop:=Cal P w K mg base 3 "uncleared" ["row", "bottom"] (qbA K)
noncomputable abbrev qfe:Prop:=Cal P w K mg base 1 "number_of" ["P", "place"] (qbo K)
noncomputable abbrev qkd:Prop:=Cal P w K mg base 4 "p_plus" ["P", "Q"] (qdA K)
noncomputable abbrev qlD:Prop:=Cal P w K mg base 4 "p_minus" ["P", "Q"] (qeA K)
noncomputable abbrev qcI:Prop:=Cal P w K mg base 4 "p_times" ["P", "Q"] (qaS K)
noncomputable abbrev qeF:Prop:=Cal P w K mg base 4 "p_scaled" ["P", "c"] (qbq K)
noncomputable abbrev qlE:Prop:=Cal P w K mg base 4 "p_split" ["P", "Q"] (qc0 K)
noncomputable abbrev qhn:Prop:=Cal P w K mg base 8 "common" ["P", "Q"] (qbW K)
noncomputable abbrev qfY:Prop:=Cal P w K mg base 4 "p_slope" ["P"] (qbx K)
noncomputable abbrev qdK:Prop:=Cal P w K mg base 9 "fraction" ["P", "Q"] (qbr K)
noncomputable abbrev qnR:Prop:=Cal P w K mg base 5 "evened" ["P", "Q"] (qdB K)
noncomputable abbrev qeG:Prop:=Cal P w K mg base 5 "quotient" ["P", "Q"] (qaV K)
noncomputable abbrev qke:Prop:=Cal P w K mg base 1 "f_poly" ["P"] (qdD K)
noncomputable abbrev qjk:Prop:=Cal P w K mg base 2 "f_number" ["c"] (qdS K)
noncomputable abbrev qho:Prop:=Cal P w K mg base 9 "f_plus" ["F", "G"] (qbM K)
noncomputable abbrev qid:Prop:=Cal P w K mg base 9 "f_slope" ["F"] (qc1 K)
noncomputable abbrev qgF:Prop:=Cal P w K mg base 10 "form_slope" ["form"] (qcW K)
noncomputable abbrev qgG:Prop:=Cal P w K mg base 11 "shows_form" ["f", "form"] (qbQ K)
noncomputable abbrev qlF:Prop:=Cal P w K mg base 1 "_law_begin" ["_law_script"] (qeB K)
noncomputable abbrev qdY:Prop:=Cal P w K mg base 1 "_law_take" ["_law_state", "_law_many"] (qbf K)
noncomputable abbrev qeH:Prop:=Cal P w K mg base 3 "_law_number" ["_law_state"] (qb3 K)
noncomputable abbrev qie:Prop:=Cal P w K mg base 4 "_law_other" ["_law_state"] (qct K)
noncomputable abbrev qfZ:Prop:=Cal P w K mg base 1 "_law_whole" ["_law_row"] (qbe K)
noncomputable abbrev qnS:Prop:=Cal P w K mg base 2 "_law_pool" ["_law_state"] (qfy K)
noncomputable abbrev qnT:Prop:=Cal P w K mg base 3 "_law_some" ["_law_state", "_law_many", "_law_most"] (qfz K)
noncomputable abbrev qff:Prop:=Cal P w K mg base 5 "_law_product" ["_law_parts"] (qcA K)
noncomputable abbrev qkf:Prop:=Cal P w K mg base 5 "_law_laid" ["_law_pairs"] (qbX K)
noncomputable abbrev qgH:Prop:=Cal P w K mg base 10 "_law_fraction" ["_law_state", "_law_parts"] (qcV K)
noncomputable abbrev qjl:Prop:=Cal P w K mg base 5 "_law_pieces" ["_law_state", "_law_many", "_law_most", "_law_odd"] (qdT K)
noncomputable abbrev qry:Prop:=Cal P w K mg base 6 "_law_top" ["_law_pieces_here"] (qhh K)
noncomputable abbrev qlG:Prop:=Cal P w K mg base 10 "_law_wrong" ["_law_state", "_law_kr", "_law_pairs"] (qeC K)
end
section
variable {P:Program} {w:World} {K:W.Frag} {mg:Str->Option Value} {base:Heap} {f:Addr} {fd:FuncData}
theorem okm {n:Str} {st:Stmt} {N ps:List Str} {k:Nat} {sp:Sp} {t:TS} (F:Fun K n n st f fd) (v:∀ {vs:List V} {H:Hp} {Q:VK} {E:XK},sp vs H Q E->t { nx:=λ_ H'=>Q .non H',rt:=Q } (start N vs) H) (d:∀ {cdv:Value} {A:Around} {outer:List Env} {s:Shared} {H:Hp} {E:XK} (hr:Room k (A.deeper (envOfC n (qbg st) s.heap.objs.size f cdv))) (nd:N.Nodup) (hu:(A.deeper (envOfC n (qbg st) s.heap.objs.size f cdv)).units<cLine) (hu64:(A.deeper (envOfC n (qbg st) s.heap.objs.size f cdv)).units+64<cLine),PSs (qua CX0 P w K mg base N n (qbg st) f cdv A outer s H E).nox (qcK st) t) (S:FnScope N ps (qbg st):=by exact ⟨rfl,rfl,rfl,by decide +kernel,rfl,by decide +kernel,by decide +kernel⟩) (len:∀ vs H Q E,sp vs H Q E->vs.length=ps.length:=by intro vs H Q E h;repeat (first | (obtain ⟨rfl,_⟩:=h;rfl) | obtain ⟨_,h⟩:=h)):FnOk P w K mg base CX0 (k+1) f fd ps sp:=F.ok S len λcdv A outer s H vs Q E hr h=>⟨t,d hr S.nd hr.units0 hr.units,v h⟩
theorem li {a:Prop} {α:Type} {x:α}:x=x\/a:=Or.inl rfl
theorem qgj (F:Fun K "common_divisor" "common_divisor" qgN f fd) (B:Bl K mg)  : FnOk P w K mg base CX0 1 f fd ["one", "other"] (qaH K):=okm F (qgb ) λhr nd hu ht=>(qad (qcb PassesOwn.never (qaE qlW (pv 1) qae (nomark _)) (qad (qaj (i:=2) nd rfl li (qaz qt5 (pv 0) (pv 1)))
  (qad (qaj (i:=0) nd rfl li (pv 1))
  (qah (qaj (i:=1) nd rfl li (pv 2))))))
  (qah (qay (qaw qhD rfl B.abs qpL (qaa (pv 0) qac)))))
theorem qrz (F:Fun K "raised" "raised" qr3 f fd) (B:Bl K mg)  : FnOk P w K mg base CX0 1 f fd ["whole", "n"] (qdz K):=okm F (qqG ) λhr nd hu ht=>(qad (qaj (i:=2) nd rfl li qae)
  (qad (qaj (i:=3) nd rfl li (pv 0))
  (qad (qcb PassesOwn.never (qaE qkr (pv 1) qae (nomark _)) (qad (qbY (qaE qfl (qaz qdf (pv 1) qae) qae (nomark _)) (qah (qgr (i:=2) nd rfl li (pv 3) qg6)) qaU)
  (qad (qgr (i:=1) nd rfl li qae qpW)
  (qah (qbY (qaE qkr (pv 1) qae (nomark _)) (qah (qgr (i:=3) nd rfl li (pv 3) qg6)) qaU)))))
  (qah (qay (pv 2))))))
theorem qoO (F:Fun K "content" "content" qps f fd) (B:Bl K mg) (c0:qa8 P w K mg base):FnOk P w K mg base CX0 2 f fd ["row", "start"] (qcr K):=okm F (qoB ) λhr nd hu ht=>(qad (qaj (i:=2) nd rfl li (c0.pe hr ∅ rfl (qaa (qul rfl B.min qvL (qnh (N:=["whole"]) (capt:=[none]) rfl (BlkOk.of rfl rfl rfl rfl (λ_ h=>nomatch h) rfl rfl rfl) (qbh (pv 0)) (λ_ _ _ _=>(qaB (i:=0) (show (["whole"]:List PySem.Str).Nodup by decide +kernel) rfl li)) (λ_ _ _ _=>(qaE qlW (pv 0) qae (nomark _))) (λ_ _ _ _=>(qaw qhD rfl B.abs qpL (qaa (pv 0) qac))))) (qaa (pv 1) qac))))
  (qad (qcd PassesOwn.never rfl (qbh (pv 0)) (qaB (i:=3) nd rfl li) (qad (qbY (qaE qfl (pv 2) qae (nomark _)) (qah (qay qae)) qaU)
  (qah (qaj (i:=2) nd rfl li (c0.pe hr ∅ rfl (qaa (pv 3) (qaa (pv 2) qac)))))))
  (qah (qay (pv 2)))))
theorem qiM (F:Fun K "row_trimmed" "row_trimmed" qjr f fd) (B:Bl K mg)  : FnOk P w K mg base CX0 1 f fd ["row"] (qbc K):=okm F (qiJ ) λhr nd hu ht=>(qad (qaj (i:=1) nd rfl li (qaw qaK rfl B.len qaZ (qaa (pv 0) qac)))
  (qad (qcb PassesOwn.never (PW.pt (qfk (qaE qkr (pv 1) qae (nomark _)) (qdM (qaE qfl (qax qaL (pv 0) (qaz qbK (pv 1) qae) (λ_ _=>rfl)) qae (nomark _))))) (qah (qgr (i:=1) nd rfl li qae qhu)))
  (qah (qay (qdg qf4 (pv 0) qd7 (qd8 (pv 1)))))))
theorem qkg (F:Fun K "row_parted" "row_parted" qkE f fd) (B:Bl K mg)  : FnOk P w K mg base CX0 1 f fd ["row", "divisor"] (qbD K):=okm F (qjT ) λhr nd hu ht=>(qah (qay (qbZ (N:=["whole", "divisor"]) (capt:=[none,some 1]) rfl (BlkOk.of rfl rfl rfl rfl (wbg.mpr rfl) rfl rfl rfl) (qbh (pv 0)) (λ_ _ _ _=>(qaB (i:=0) (show (["whole", "divisor"]:List PySem.Str).Nodup by decide +kernel) rfl li)) (λ_ _ _ _=>(qaz qg8 (pv 0) (pv 1))))))
theorem qlH (F:Fun K "row_times" "row_times" ql1 f fd) (B:Bl K mg)  : FnOk P w K mg base CX0 1 f fd ["row", "other"] (qb6 K):=okm F (qlt ) λhr nd hu ht=>(qad (qbY (PW.pt (qvt (qpa (qea (pv 0) (λ_=>rfl))) (qth (qpa (qea (pv 1) (λ_=>rfl)))))) (qah (qay (qaR qac))) qaU)
  (qad (qaj (i:=2) nd rfl li (qaz qkC (qaR (qaa qae qac)) (qaz qbK (qaz qb4 (qaw qaK rfl B.len qaZ (qaa (pv 0) qac)) (qaw qaK rfl B.len qaZ (qaa (pv 1) qac))) qae)))
  (qad (qcd PassesOwn.never rfl (qju rfl B.enumerate (qaa (pv 0) qac)) (qdt rfl (qaY (qaB (i:=3) nd rfl li) (qaY (qaB (i:=4) nd rfl li) qdr))) (qah (qbY (qaE qlW (pv 4) qae (nomark _)) (qah (qcd PassesOwn.never rfl (qju rfl B.enumerate (qaa (pv 1) qac)) (qdt rfl (qaY (qaB (i:=5) nd rfl li) (qaY (qaB (i:=6) nd rfl li) qdr))) (qah (qjo (pv 2) (qaz qb4 (pv 3) (pv 5)) qg7 (qaz qaP (pv 4) (pv 6)) qt6 qcS)))) qaU)))
  (qah (qay (pv 2))))))
theorem qmU (F:Fun K "row_over" "row_over" qn3 f fd) (B:Bl K mg)  : FnOk P w K mg base CX0 1 f fd ["row", "divisor"] (qb2 K):=okm F (qmB ) λhr nd hu ht=>(qad (qaj (i:=2) nd rfl li (qdx qi0 rfl B.list qpM (qaa (pv 0) qac)))
  (qad (qaj (i:=3) nd rfl li (qaz qbK (qaw qaK rfl B.len qaZ (qaa (pv 1) qac)) qae))
  (qad (qaj (i:=4) nd rfl li (qaz qkC (qaR (qaa qae qac)) (qaw (qd9 rfl) rfl B.max qkK (qaa (qaz qbK (qaw qaK rfl B.len qaZ (qaa (pv 0) qac)) (pv 3)) (qaa qae qac)))))
  (qad (qcd PassesOwn.never rfl (qkQ rfl B.range (qaa (qaz qbK (qaz qbK (qaw qaK rfl B.len qaZ (qaa (pv 0) qac)) (pv 3)) qae) (qaa (qbV qbb qae) (qaa (qbV qbb qae) qac)))) (qaB (i:=5) nd rfl li) (qad (qaj (i:=6) nd rfl li (qaz qcT (qax qaL (pv 2) (qaz qb4 (pv 5) (pv 3)) (λ_ _=>rfl)) (qax qaL (pv 1) (qbV qbb qae) (λ_ _=>rfl))))
  (qad (qbY (qaE qlW (qaz qaP (pv 6) (qax qaL (pv 1) (qbV qbb qae) (λ_ _=>rfl))) (qax qaL (pv 2) (qaz qb4 (pv 5) (pv 3)) (λ_ _=>rfl)) (nomark _)) (qah (qay qhq)) qaU)
  (qad (qgq (pv 6) (qhr (pv 4) (pv 5) qcS))
  (qah (qbY (qaE qlW (pv 6) qae (nomark _)) (qah (qcd PassesOwn.never rfl (qc4 rfl B.range (qaa (pv 3) qac)) (qaB (i:=7) nd rfl li) (qah (qjo (pv 2) (qaz qb4 (pv 5) (pv 7)) qg7 (qaz qaP (pv 6) (qax qaL (pv 1) (pv 7) (λ_ _=>rfl))) qhu qcS)))) qaU))))))
  (qah (qay (qg3 (qo9 (qaw (qp4 rfl) rfl B.any qvR (qaa (qdg qf4 (pv 2) qd7 (qd8 (pv 3))) qac))) qhq (pv 4))))))))
theorem qmV (F:Fun K "row_less" "row_less" qn4 f fd) (B:Bl K mg) (c0:qcX P w K mg base):FnOk P w K mg base CX0 2 f fd ["row", "factor", "other", "weight", "shift"] (qb1 K):=okm F (qmA ) λhr nd hu ht=>(qad (qf3 (i:=5) (N:=["whole", "factor"]) (capt:=[none,some 1]) nd rfl li rfl (BlkOk.of rfl rfl rfl rfl (wbg.mpr rfl) rfl rfl rfl) (qbh (pv 0)) (λ_ _ _ _=>(qaB (i:=0) (show (["whole", "factor"]:List PySem.Str).Nodup by decide +kernel) rfl li)) (λ_ _ _ _=>(qaz qaP (pv 1) (pv 0))))
  (qad (qd6 (qky PySem.F.plainAttrs_list PySem.F.slot_list_extend PySem.F.type_list_extend qkB (pv 5) (qaa (qaz qkC (qaR (qaa qae qac)) (qaz qbK (qaz qb4 (qaw qaK rfl B.len qaZ (qaa (pv 2) qac)) (pv 4)) (qaw qaK rfl B.len qaZ (qaa (pv 0) qac)))) qac)))
  (qad (qcd PassesOwn.never rfl (qju rfl B.enumerate (qaa (pv 2) qac)) (qdt rfl (qaY (qaB (i:=6) nd rfl li) (qaY (qaB (i:=7) nd rfl li) qdr))) (qah (qjo (pv 5) (qaz qb4 (pv 6) (pv 4)) qg7 (qaz qaP (pv 3) (pv 7)) qhu qcS)))
  (qah (qay (c0.pe hr ∅ rfl (qaa (pv 5) qac)))))))
theorem qiN (F:Fun K "strand_rest" "strand_rest" qjs f fd) (B:Bl K mg) (c0:qa8 P w K mg base) (c1:qgi P w K mg base) (c2:qcj P w K mg base):FnOk P w K mg base CX0 4 f fd ["strand", "other"] (qbF K):=okm F (qiL ) λhr nd hu ht=>(qad (qcb PassesOwn.never (qaE qvx (qaw qaK rfl B.len qaZ (qaa (qax qaL (pv 0) qae (λ_ _=>rfl)) qac)) (qaw qaK rfl B.len qaZ (qaa (qax qaL (pv 1) qae (λ_ _=>rfl)) qac)) (nomark _)) (qad (qaj (i:=2) nd rfl (Or.inr rfl) (qaz qbK (qaw qaK rfl B.len qaZ (qaa (qax qaL (pv 0) qae (λ_ _=>rfl)) qac)) (qaw qaK rfl B.len qaZ (qaa (qax qaL (pv 1) qae (λ_ _=>rfl)) qac))))
  (qad (qaj (i:=3) nd rfl li (qax qaL (qax qaL (pv 0) qae (λ_ _=>rfl)) (qbV qbb qae) (λ_ _=>rfl)))
  (qad (qaj (i:=4) nd rfl li (qax qaL (qax qaL (pv 1) qae (λ_ _=>rfl)) (qbV qbb qae) (λ_ _=>rfl)))
  (qad (qaj (i:=5) nd rfl li (c0.pe hr ∅ rfl (qaa (pv 3) (qaa (pv 4) qac))))
  (qad (qaj (i:=6) nd rfl (Or.inr rfl) (qaz qcT (pv 4) (pv 5)))
  (qad (qaj (i:=7) nd rfl (Or.inr rfl) (qaz qcT (pv 3) (pv 5)))
  (qah (qf3 (i:=0) (N:=["row", "follower", "factor", "weight", "shift"]) (capt:=[none,none,some 6,some 7,some 2]) nd rfl li rfl (BlkOk.of rfl rfl rfl rfl (wcc.mpr ⟨rfl,(wcc.mpr ⟨rfl,(wbg.mpr rfl)⟩)⟩) rfl rfl rfl) (qvQ rfl B.zip (qaa (pv 0) (qaa (pv 1) qac))) (λ_ _ _ _=>(qdt rfl (qaY (qaB (i:=0) (show (["row", "follower", "factor", "weight", "shift"]:List PySem.Str).Nodup by decide +kernel) rfl li) (qaY (qaB (i:=1) (show (["row", "follower", "factor", "weight", "shift"]:List PySem.Str).Nodup by decide +kernel) rfl li) qdr)))) (λ_ _ _ _=>(c1.pe hr ∅ rfl (qaa (pv 0) (qaa (pv 2) (qaa (pv 1) (qaa (pv 3) (qaa (pv 4) qac))))))))))))))))
  (qah (qay (c2.pe hr ∅ rfl (qaa (pv 0) qac)))))
theorem qfg (F:Fun K "strand_shortened" "strand_shortened" qfn f fd) (B:Bl K mg) (c0:qib P w K mg base) (c1:qeq P w K mg base):FnOk P w K mg base CX0 3 f fd ["strand"] (qaQ K):=okm F (qfb ) λhr nd hu ht=>(qad (qaj (i:=1) nd rfl (Or.inr rfl) qae)
  (qad (qcd PassesOwn.never rfl (qbh (pv 0)) (qaB (i:=2) nd rfl li) (qah (qaj (i:=1) nd rfl (Or.inr rfl) (c0.pe hr ∅ rfl (qaa (pv 2) (qaa (pv 1) qac))))))
  (qah (qay (qbZ (N:=["row", "shared"]) (capt:=[none,some 1]) rfl (BlkOk.of rfl rfl rfl rfl (wbg.mpr rfl) rfl rfl rfl) (qbh (pv 0)) (λ_ _ _ _=>(qaB (i:=0) (show (["row", "shared"]:List PySem.Str).Nodup by decide +kernel) rfl li)) (λ_ _ _ _=>(c1.pe hr ∅ rfl (qaa (pv 0) (qaa (pv 1) qac)))))))))
theorem qgZ (F:Fun K "row_shortened" "row_shortened" qhz f fd) (B:Bl K mg) (c0:qcj P w K mg base):FnOk P w K mg base CX0 4 f fd ["row"] (qaX K):=okm F (qgX ) λhr nd hu ht=>(qah (qay (qax qaL (c0.pe hr ∅ rfl (qaa (qaR (qaa (pv 0) qac)) qac)) qae (λ_ _=>rfl))))
theorem qg0 (F:Fun K "strand_euclid" "strand_euclid" qhA f fd) (B:Bl K mg) (c0:qfU P w K mg base):FnOk P w K mg base CX0 5 f fd ["strand", "other"] (qa7 K):=okm F (qgY ) λhr nd hu ht=>(qad (qcb PassesOwn.never (qea (qax qaL (pv 1) qae (λ_ _=>rfl)) (λ_=>rfl)) (qad (qbY (qaE qfl (qaw qaK rfl B.len qaZ (qaa (qax qaL (pv 1) qae (λ_ _=>rfl)) qac)) qae (nomark _)) (qah (qay (pv 1))) qaU)
  (qad (qaj (i:=2) nd rfl li (c0.pe hr ∅ rfl (qaa (pv 0) (qaa (pv 1) qac))))
  (qad (qaj (i:=0) nd rfl li (pv 1))
  (qah (qaj (i:=1) nd rfl li (pv 2)))))))
  (qah (qay (pv 0))))
theorem qgk (F:Fun K "inverse_modulo" "inverse_modulo" qgO f fd) (B:Bl K mg)  : FnOk P w K mg base CX0 1 f fd ["whole", "prime"] (qbd K):=okm F (qgc ) λhr nd hu ht=>(qad (qaj (i:=2) nd rfl li (pv 1))
  (qad (qaj (i:=3) nd rfl li (qaz qdf (pv 0) (pv 1)))
  (qad (qaj (i:=4) nd rfl li qae)
  (qad (qaj (i:=5) nd rfl li qae)
  (qad (qcb PassesOwn.never (qaE qlW (pv 3) qae (nomark _)) (qad (qaj (i:=6) nd rfl li (qaz qg8 (pv 2) (pv 3)))
  (qad (qaj (i:=7) nd rfl li (qaz qbK (pv 2) (qaz qaP (pv 6) (pv 3))))
  (qad (qaj (i:=2) nd rfl li (pv 3))
  (qad (qaj (i:=3) nd rfl li (pv 7))
  (qad (qaj (i:=7) nd rfl li (qaz qbK (pv 4) (qaz qaP (pv 6) (pv 5))))
  (qad (qaj (i:=4) nd rfl li (pv 5))
  (qah (qaj (i:=5) nd rfl li (pv 7))))))))))
  (qah (qay (qaz qdf (pv 4) (pv 1)))))))))
theorem qif (F:Fun K "rests_modulo" "rests_modulo" qiq f fd) (B:Bl K mg)  : FnOk P w K mg base CX0 1 f fd ["row", "prime"] (qbu K):=okm F (qh3 ) λhr nd hu ht=>(qah (qay (qbZ (N:=["whole", "prime"]) (capt:=[none,some 1]) rfl (BlkOk.of rfl rfl rfl rfl (wbg.mpr rfl) rfl rfl rfl) (qbh (pv 0)) (λ_ _ _ _=>(qaB (i:=0) (show (["whole", "prime"]:List PySem.Str).Nodup by decide +kernel) rfl li)) (λ_ _ _ _=>(qaz qdf (pv 0) (pv 1))))))
theorem qkh (F:Fun K "row_modulo" "row_modulo" qkF f fd) (B:Bl K mg) (c0:qeZ P w K mg base) (c1:qcX P w K mg base):FnOk P w K mg base CX0 2 f fd ["row", "prime"] (qbn K):=okm F (qjX ) λhr nd hu ht=>(qah (qay (c1.pe hr ∅ rfl (qaa (c0.pe hr ∅ rfl (qaa (pv 0) (qaa (pv 1) qac))) qac))))
theorem qig (F:Fun K "monic_modulo" "monic_modulo" qir f fd) (B:Bl K mg) (c0:qd4 P w K mg base):FnOk P w K mg base CX0 2 f fd ["row", "prime"] (qa4 K):=okm F (qh4 ) λhr nd hu ht=>(qad (qbY (qpa (qea (pv 0) (λ_=>rfl))) (qah (qay (qaR qac))) qaU)
  (qad (qaj (i:=2) nd rfl (Or.inr rfl) (c0.pe hr ∅ rfl (qaa (qax qaL (pv 0) (qbV qbb qae) (λ_ _=>rfl)) (qaa (pv 1) qac))))
  (qah (qay (qbZ (N:=["whole", "prime", "factor"]) (capt:=[none,some 1,some 2]) rfl (BlkOk.of rfl rfl rfl rfl (wcc.mpr ⟨rfl,(wbg.mpr rfl)⟩) rfl rfl rfl) (qbh (pv 0)) (λ_ _ _ _=>(qaB (i:=0) (show (["whole", "prime", "factor"]:List PySem.Str).Nodup by decide +kernel) rfl li)) (λ_ _ _ _=>(qaz qdf (qaz qaP (pv 0) (pv 2)) (pv 1))))))))
theorem qih (F:Fun K "split_modulo" "split_modulo" qis f fd) (B:Bl K mg) (c0:qcX P w K mg base) (c1:qes P w K mg base):FnOk P w K mg base CX0 3 f fd ["row", "divisor", "modulus"] (qbv K):=okm F (qh5 ) λhr nd hu ht=>(qad (qaj (i:=3) nd rfl li (qdx qi0 rfl B.list qpM (qaa (pv 0) qac)))
  (qad (qaj (i:=4) nd rfl li (qaz qbK (qaw qaK rfl B.len qaZ (qaa (pv 1) qac)) qae))
  (qad (qaj (i:=5) nd rfl li (qaz qkC (qaR (qaa qae qac)) (qaw (qd9 rfl) rfl B.max qkK (qaa (qaz qbK (qaw qaK rfl B.len qaZ (qaa (pv 0) qac)) (pv 4)) (qaa qae qac)))))
  (qad (qcd PassesOwn.never rfl (qkQ rfl B.range (qaa (qaz qbK (qaz qbK (qaw qaK rfl B.len qaZ (qaa (pv 0) qac)) (pv 4)) qae) (qaa (qbV qbb qae) (qaa (qbV qbb qae) qac)))) (qaB (i:=6) nd rfl li) (qad (qaj (i:=7) nd rfl li (qaz qdf (qax qaL (pv 3) (qaz qb4 (pv 6) (pv 4)) (λ_ _=>rfl)) (pv 2)))
  (qad (qgq (pv 7) (qhr (pv 5) (pv 6) qcS))
  (qah (qbY (qaE qlW (pv 7) qae (nomark _)) (qah (qcd PassesOwn.never rfl (qc4 rfl B.range (qaa (pv 4) qac)) (qaB (i:=8) nd rfl li) (qah (qjo (pv 3) (qaz qb4 (pv 6) (pv 8)) qg7 (qaz qaP (pv 7) (qax qaL (pv 1) (pv 8) (λ_ _=>rfl))) qhu qcS)))) qaU)))))
  (qah (qay (qaJ (qaa (c0.pe hr ∅ rfl (qaa (pv 5) qac)) (qaa (c1.pe hr ∅ rfl (qaa (qdg qf4 (pv 3) qd7 (qd8 (pv 4))) (qaa (pv 2) qac))) qac)))))))))
theorem qiO (F:Fun K "rest_modulo" "rest_modulo" qjt f fd) (B:Bl K mg) (c0:qe1 P w K mg base):FnOk P w K mg base CX0 4 f fd ["row", "divisor", "modulus"] (qbG K):=okm F (qiK ) λhr nd hu ht=>(qah (qay (qax qat (c0.pe hr ∅ rfl (qaa (pv 0) (qaa (pv 1) (qaa (pv 2) qac)))) qae (λ_ _=>rfl))))
theorem qg1 (F:Fun K "euclid_modulo" "euclid_modulo" qhB f fd) (B:Bl K mg) (c0:qes P w K mg base) (c1:qe0 P w K mg base) (c2:qfV P w K mg base):FnOk P w K mg base CX0 5 f fd ["row", "other", "prime"] (qbj K):=okm F (qgW ) λhr nd hu ht=>(qad (qaj (i:=0) nd rfl li (c1.pe hr ∅ rfl (qaa (c0.pe hr ∅ rfl (qaa (pv 0) (qaa (pv 2) qac))) (qaa (pv 2) qac))))
  (qad (qaj (i:=1) nd rfl li (c1.pe hr ∅ rfl (qaa (c0.pe hr ∅ rfl (qaa (pv 1) (qaa (pv 2) qac))) (qaa (pv 2) qac))))
  (qad (qcb PassesOwn.never (qea (pv 1) (λ_=>rfl)) (qad (qaj (i:=3) nd rfl li (c2.pe hr ∅ rfl (qaa (pv 0) (qaa (pv 1) (qaa (pv 2) qac)))))
  (qad (qaj (i:=0) nd rfl li (pv 1))
  (qah (qaj (i:=1) nd rfl li (c1.pe hr ∅ rfl (qaa (pv 3) (qaa (pv 2) qac))))))))
  (qah (qay (pv 0))))))
theorem qoP (F:Fun K "nearest" "nearest" qpt f fd) (B:Bl K mg)  : FnOk P w K mg base CX0 1 f fd ["whole", "prime"] (qcZ K):=okm F (qoC ) λhr nd hu ht=>(qad (qaj (i:=2) nd rfl li (qaz qdf (pv 0) (pv 1)))
  (qah (qay (qg3 (qaE qkr (qaz qaP qae (pv 2)) (pv 1) (nomark _)) (qaz qbK (pv 2) (pv 1)) (pv 2)))))
theorem qf0 (F:Fun K "common_by_prime" "common_by_prime" qf1 f fd) (B:Bl K mg) (c0:qa8 P w K mg base) (c1:qet P w K mg base) (c2:qlC P w K mg base) (c3:qdc P w K mg base) (c4:qjj P w K mg base):FnOk P w K mg base CX0 6 f fd ["row", "other", "prime"] (qa5 K):=okm F (qfP ) λhr nd hu ht=>(qad (qaj (i:=3) nd rfl (Or.inr rfl) (c0.pe hr ∅ rfl (qaa (qax qaL (pv 0) (qbV qbb qae) (λ_ _=>rfl)) (qaa (qax qaL (pv 1) (qbV qbb qae) (λ_ _=>rfl)) qac))))
  (qad (qbY (qaE qfl (qaz qdf (pv 3) (pv 2)) qae (nomark _)) (qah (qay qhq)) qaU)
  (qad (qaj (i:=4) nd rfl li (c1.pe hr ∅ rfl (qaa (pv 0) (qaa (pv 1) (qaa (pv 2) qac)))))
  (qad (qaj (i:=5) nd rfl li (c3.pe hr ∅ rfl (qaa (qbZ (N:=["whole", "prime", "lead"]) (capt:=[none,some 2,some 3]) rfl (BlkOk.of rfl rfl rfl rfl (wcc.mpr ⟨rfl,(wbg.mpr rfl)⟩) rfl rfl rfl) (qbh (pv 4)) (λ_ _ _ _=>(qaB (i:=0) (show (["whole", "prime", "lead"]:List PySem.Str).Nodup by decide +kernel) rfl li)) (λ_ _ _ _=>(c2.pe hr ∅ rfl (qaa (qaz qaP (pv 2) (pv 0)) (qaa (pv 1) qac))))) qac)))
  (qad (qbY (PW.pt (qvt (qaE qtj (c4.pe hr ∅ rfl (qaa (pv 0) (qaa (pv 5) qac))) qhq (nomark _)) (qth (qaE qtj (c4.pe hr ∅ rfl (qaa (pv 1) (qaa (pv 5) qac))) qhq (nomark _))))) (qah (qay qhq)) qaU)
  (qah (qay (pv 5))))))))
theorem qki (F:Fun K "row_common" "row_common" qkG f fd) (B:Bl K mg) (c0:qdc P w K mg base) (c1:qnP P w K mg base) (c2:qdJ P w K mg base) (c3:qer P w K mg base):FnOk P w K mg base CX0 7 f fd ["row", "other"] (qbO K):=okm F (qjY B.xEXPONENTS ) λhr nd hu ht=>(qad (qaj (i:=2) nd rfl li (c0.pe hr ∅ rfl (qaa (pv 0) qac)))
  (qad (qaj (i:=3) nd rfl li (c0.pe hr ∅ rfl (qaa (pv 1) qac)))
  (qad (qbY (PW.pt (qfk (qea (pv 0) (λ_=>rfl)) (qdM (qea (pv 1) (λ_=>rfl))))) (qah (qcd PassesOwn.never rfl (qhs (qt4 rfl B.EXPONENTS rfl)) (qaB (i:=4) nd rfl li) (qad (qaj (i:=5) nd rfl li (c2.pe hr ∅ rfl (qaa (pv 2) (qaa (pv 3) (qaa (qaz qbK (c1.pe hr ∅ rfl (qaa qae (qaa (pv 4) qac))) qae) qac)))))
  (qah (qbY (qaE qt7 (pv 5) qhq (nomark _)) (qah (qay (pv 5))) qaU))))) qaU)
  (qah (qay (qax qaL (c3.pe hr ∅ rfl (qaa (qaR (qaa (pv 2) qac)) (qaa (qaR (qaa (pv 3) qac)) qac))) qae (λ_ _=>rfl)))))))
theorem qs8 (F:Fun K "ratio" "ratio" que f fd) (B:Bl K mg) (c0:qa8 P w K mg base):FnOk P w K mg base CX0 2 f fd ["top", "bottom"] (qbP K):=okm F (qsJ ) λhr nd hu ht=>(qad (qaj (i:=2) nd rfl li (c0.pe hr ∅ rfl (qaa (pv 0) (qaa (pv 1) qac))))
  (qad (qbY (qaE qpk (pv 1) qae (nomark _)) (qah (qaj (i:=2) nd rfl li (qbV qbb (pv 2)))) qaU)
  (qah (qay (qaJ (qaa (qaz qcT (pv 0) (pv 2)) (qaa (qaz qcT (pv 1) (pv 2)) qac)))))))
theorem qvf (F:Fun K "plus" "plus" qvF f fd) (B:Bl K mg) (c0:qeu P w K mg base):FnOk P w K mg base CX0 3 f fd ["one", "other"] (qhM K):=okm F (qu3 ) λhr nd hu ht=>(qah (qay (c0.pe hr ∅ rfl (qaa (qaz qb4 (qaz qaP (qax qat (pv 0) qae (λ_ _=>rfl)) (qax qat (pv 1) qae (λ_ _=>rfl))) (qaz qaP (qax qat (pv 1) qae (λ_ _=>rfl)) (qax qat (pv 0) qae (λ_ _=>rfl)))) (qaa (qaz qaP (qax qat (pv 0) qae (λ_ _=>rfl)) (qax qat (pv 1) qae (λ_ _=>rfl))) qac)))))
theorem qs9 (F:Fun K "minus" "minus" quf f fd) (B:Bl K mg) (c0:qeu P w K mg base):FnOk P w K mg base CX0 3 f fd ["one", "other"] (qhg K):=okm F (qsU ) λhr nd hu ht=>(qah (qay (c0.pe hr ∅ rfl (qaa (qaz qbK (qaz qaP (qax qat (pv 0) qae (λ_ _=>rfl)) (qax qat (pv 1) qae (λ_ _=>rfl))) (qaz qaP (qax qat (pv 1) qae (λ_ _=>rfl)) (qax qat (pv 0) qae (λ_ _=>rfl)))) (qaa (qaz qaP (qax qat (pv 0) qae (λ_ _=>rfl)) (qax qat (pv 1) qae (λ_ _=>rfl))) qac)))))
theorem qta (F:Fun K "times" "times" qug f fd) (B:Bl K mg) (c0:qeu P w K mg base):FnOk P w K mg base CX0 3 f fd ["one", "other"] (qfw K):=okm F (qsQ ) λhr nd hu ht=>(qah (qay (c0.pe hr ∅ rfl (qaa (qaz qaP (qax qat (pv 0) qae (λ_ _=>rfl)) (qax qat (pv 1) qae (λ_ _=>rfl))) (qaa (qaz qaP (qax qat (pv 0) qae (λ_ _=>rfl)) (qax qat (pv 1) qae (λ_ _=>rfl))) qac)))))
theorem qvg (F:Fun K "over" "over" qvG f fd) (B:Bl K mg) (c0:qeu P w K mg base):FnOk P w K mg base CX0 3 f fd ["one", "other"] (qf9 K):=okm F (qu2 ) λhr nd hu ht=>(qah (qay (c0.pe hr ∅ rfl (qaa (qaz qaP (qax qat (pv 0) qae (λ_ _=>rfl)) (qax qat (pv 1) qae (λ_ _=>rfl))) (qaa (qaz qaP (qax qat (pv 0) qae (λ_ _=>rfl)) (qax qat (pv 1) qae (λ_ _=>rfl))) qac)))))
theorem qrA (F:Fun K "before" "before" qr4 f fd) (B:Bl K mg)  : FnOk P w K mg base CX0 1 f fd ["one", "other"] (qfx K):=okm F (qrh ) λhr nd hu ht=>(qah (qay (qlX qpk (qaz qaP (qax qat (pv 0) qae (λ_ _=>rfl)) (qax qat (pv 1) qae (λ_ _=>rfl))) (qaz qaP (qax qat (pv 1) qae (λ_ _=>rfl)) (qax qat (pv 0) qae (λ_ _=>rfl))) (nomark _))))
theorem qvh (F:Fun K "poly" "poly" qvH f fd) (B:Bl K mg)  : FnOk P w K mg base CX0 1 f fd ["row"] (qcs K):=okm F (quN ) λhr nd hu ht=>(qad (qaj (i:=1) nd rfl li (qaw qaK rfl B.len qaZ (qaa (pv 0) qac)))
  (qad (qcb PassesOwn.never (PW.pt (qfk (qaE qkr (pv 1) qae (nomark _)) (qdM (qaE qfl (qax qat (qax qaL (pv 0) (qaz qbK (pv 1) qae) (λ_ _=>rfl)) qae (λ_ _=>rfl)) qae (nomark _))))) (qah (qgr (i:=1) nd rfl li qae qhu)))
  (qah (qay (qdx qfq rfl B.tuple qg5 (qaa (qdg qf4 (pv 0) qd7 (qd8 (pv 1))) qac))))))
theorem qrB (F:Fun K "degree" "degree" qr5 f fd) (B:Bl K mg)  : FnOk P w K mg base CX0 1 f fd ["P"] (qdC K):=okm F (qri ) λhr nd hu ht=>(qah (qay (qaz qbK (qaw qbL rfl B.len qaZ (qaa (pv 0) qac)) qae)))
theorem qoQ (F:Fun K "cleared" "cleared" qpu f fd) (B:Bl K mg) (c0:qa8 P w K mg base):FnOk P w K mg base CX0 2 f fd ["P"] (qbw K):=okm F (qoA ) λhr nd hu ht=>(qad (qaj (i:=1) nd rfl (Or.inr rfl) qae)
  (qad (qcd PassesOwn.never rfl (qhs (pv 0)) (qaB (i:=2) nd rfl li) (qah (qgr (i:=1) nd rfl (Or.inr rfl) (qaz qg8 (qax qat (pv 2) qae (λ_ _=>rfl)) (c0.pe hr ∅ rfl (qaa (pv 1) (qaa (qax qat (pv 2) qae (λ_ _=>rfl)) qac)))) qg6)))
  (qah (qay (qaJ (qaa (qbZ (N:=["number", "bottom"]) (capt:=[none,some 1]) rfl (BlkOk.of rfl rfl rfl rfl (wbg.mpr rfl) rfl rfl rfl) (qhs (pv 0)) (λ_ _ _ _=>(qaB (i:=0) (show (["number", "bottom"]:List PySem.Str).Nodup by decide +kernel) rfl li)) (λ_ _ _ _=>(qaz qaP (qax qat (pv 0) qae (λ_ _=>rfl)) (qaz qg8 (pv 1) (qax qat (pv 0) qae (λ_ _=>rfl)))))) (qaa (pv 1) qac)))))))
theorem qlI (F:Fun K "uncleared" "uncleared" ql3 f fd) (B:Bl K mg) (c0:qeu P w K mg base) (c1:qfW P w K mg base):FnOk P w K mg base CX0 3 f fd ["row", "bottom"] (qbA K):=okm F (qlm ) λhr nd hu ht=>(qah (qay (c1.pe hr ∅ rfl (qaa (qbZ (N:=["whole", "bottom"]) (capt:=[none,some 1]) rfl (BlkOk.of rfl rfl rfl rfl (wbg.mpr rfl) rfl rfl rfl) (qbh (pv 0)) (λ_ _ _ _=>(qaB (i:=0) (show (["whole", "bottom"]:List PySem.Str).Nodup by decide +kernel) rfl li)) (λ_ _ _ _=>(c0.pe hr ∅ rfl (qaa (pv 0) (qaa (pv 1) qac))))) qac))))
theorem qlJ (F:Fun K "number_of" "number_of" ql4 f fd) (B:Bl K mg)  : FnOk P w K mg base CX0 1 f fd ["P", "place"] (qbo K):=okm F (qlu ) λhr nd hu ht=>(qah (qay (qg3 (qaE qpk (pv 1) (qaw qbL rfl B.len qaZ (qaa (pv 0) qac)) (nomark _)) (qax qat (pv 0) (pv 1) (λ_ _=>rfl)) (qaJ (qaa qae (qaa qae qac))))))
theorem qrC (F:Fun K "p_plus" "p_plus" qr6 f fd) (B:Bl K mg) (c0:qfe P w K mg base) (c1:qrw P w K mg base) (c2:qfW P w K mg base):FnOk P w K mg base CX0 4 f fd ["P", "Q"] (qdA K):=okm F (qq0 ) λhr nd hu ht=>(qah (qay (c2.pe hr ∅ rfl (qaa (qbZ (N:=["place", "P", "Q"]) (capt:=[none,some 0,some 1]) rfl (BlkOk.of rfl rfl rfl rfl (wcc.mpr ⟨rfl,(wbg.mpr rfl)⟩) rfl rfl rfl) (qc4 rfl B.range (qaa (qaw (qd9 rfl) rfl B.max qkK (qaa (qaw qbL rfl B.len qaZ (qaa (pv 0) qac)) (qaa (qaw qbL rfl B.len qaZ (qaa (pv 1) qac)) qac))) qac)) (λ_ _ _ _=>(qaB (i:=0) (show (["place", "P", "Q"]:List PySem.Str).Nodup by decide +kernel) rfl li)) (λ_ _ _ _=>(c1.pe hr ∅ rfl (qaa (c0.pe hr ∅ rfl (qaa (pv 1) (qaa (pv 0) qac))) (qaa (c0.pe hr ∅ rfl (qaa (pv 2) (qaa (pv 0) qac))) qac))))) qac))))
theorem qoR (F:Fun K "p_minus" "p_minus" qpv f fd) (B:Bl K mg) (c0:qfe P w K mg base) (c1:qrx P w K mg base) (c2:qfW P w K mg base):FnOk P w K mg base CX0 4 f fd ["P", "Q"] (qeA K):=okm F (qoF ) λhr nd hu ht=>(qah (qay (c2.pe hr ∅ rfl (qaa (qbZ (N:=["place", "P", "Q"]) (capt:=[none,some 0,some 1]) rfl (BlkOk.of rfl rfl rfl rfl (wcc.mpr ⟨rfl,(wbg.mpr rfl)⟩) rfl rfl rfl) (qc4 rfl B.range (qaa (qaw (qd9 rfl) rfl B.max qkK (qaa (qaw qbL rfl B.len qaZ (qaa (pv 0) qac)) (qaa (qaw qbL rfl B.len qaZ (qaa (pv 1) qac)) qac))) qac)) (λ_ _ _ _=>(qaB (i:=0) (show (["place", "P", "Q"]:List PySem.Str).Nodup by decide +kernel) rfl li)) (λ_ _ _ _=>(c1.pe hr ∅ rfl (qaa (c0.pe hr ∅ rfl (qaa (pv 1) (qaa (pv 0) qac))) (qaa (c0.pe hr ∅ rfl (qaa (pv 2) (qaa (pv 0) qac))) qac))))) qac))))
theorem qoS (F:Fun K "p_times" "p_times" qpw f fd) (B:Bl K mg) (c0:qfX P w K mg base) (c1:qic P w K mg base) (c2:qdX P w K mg base):FnOk P w K mg base CX0 4 f fd ["P", "Q"] (qaS K):=okm F (qoE ) λhr nd hu ht=>(qad (qaj (i:=2) nd rfl li (c0.pe hr ∅ rfl (qaa (pv 0) qac)))
  (qad (qaj (i:=3) nd rfl li (c0.pe hr ∅ rfl (qaa (pv 1) qac)))
  (qah (qay (c2.pe hr ∅ rfl (qaa (c1.pe hr ∅ rfl (qaa (qax qat (pv 2) qae (λ_ _=>rfl)) (qaa (qax qat (pv 3) qae (λ_ _=>rfl)) qac))) (qaa (qaz qaP (qax qat (pv 2) qae (λ_ _=>rfl)) (qax qat (pv 3) qae (λ_ _=>rfl))) qac)))))))
theorem qmW (F:Fun K "p_scaled" "p_scaled" qn5 f fd) (B:Bl K mg) (c0:qmT P w K mg base) (c1:qfW P w K mg base):FnOk P w K mg base CX0 4 f fd ["P", "c"] (qbq K):=okm F (qmH ) λhr nd hu ht=>(qah (qay (c1.pe hr ∅ rfl (qaa (qbZ (N:=["number", "c"]) (capt:=[none,some 1]) rfl (BlkOk.of rfl rfl rfl rfl (wbg.mpr rfl) rfl rfl rfl) (qhs (pv 0)) (λ_ _ _ _=>(qaB (i:=0) (show (["number", "c"]:List PySem.Str).Nodup by decide +kernel) rfl li)) (λ_ _ _ _=>(c0.pe hr ∅ rfl (qaa (pv 0) (qaa (pv 1) qac))))) qac))))
theorem qoT (F:Fun K "p_split" "p_split" qpx f fd) (B:Bl K mg) (c0:qfX P w K mg base) (c1:qeu P w K mg base) (c2:qa8 P w K mg base) (c3:qgi P w K mg base) (c4:qib P w K mg base) (c5:qeq P w K mg base) (c6:qfW P w K mg base) (c7:qdX P w K mg base):FnOk P w K mg base CX0 4 f fd ["P", "Q"] (qc0 K):=okm F (qoD ) λhr nd hu ht=>(qad (qaj (i:=2) nd rfl li (c0.pe hr ∅ rfl (qaa (pv 0) qac)))
  (qad (qaj (i:=3) nd rfl li (c0.pe hr ∅ rfl (qaa (pv 1) qac)))
  (qad (qaj (i:=4) nd rfl li (qax qat (pv 2) qae (λ_ _=>rfl)))
  (qad (qaj (i:=5) nd rfl li (qax qat (pv 2) qae (λ_ _=>rfl)))
  (qad (qaj (i:=6) nd rfl li (qax qaL (qax qat (pv 3) qae (λ_ _=>rfl)) (qbV qbb qae) (λ_ _=>rfl)))
  (qad (qaj (i:=7) nd rfl li (qaz qkC (qaR (qaa (qaJ (qaa qae (qaa qae qac))) qac)) (qaw (qd9 rfl) rfl B.max qkK (qaa (qaz qb4 (qaz qbK (qaw qbL rfl B.len qaZ (qaa (pv 0) qac)) (qaw qbL rfl B.len qaZ (qaa (pv 1) qac))) qae) (qaa qae qac)))))
  (qad (qcb PassesOwn.never (qaE qvx (qaw qaK rfl B.len qaZ (qaa (pv 4) qac)) (qaw qbL rfl B.len qaZ (qaa (pv 1) qac)) (nomark _)) (qad (qaj (i:=8) nd rfl li (qaz qbK (qaw qaK rfl B.len qaZ (qaa (pv 4) qac)) (qaw qbL rfl B.len qaZ (qaa (pv 1) qac))))
  (qad (qgq (c1.pe hr ∅ rfl (qaa (qaz qaP (qax qaL (pv 4) (qbV qbb qae) (λ_ _=>rfl)) (qax qat (pv 3) qae (λ_ _=>rfl))) (qaa (qaz qaP (pv 5) (pv 6)) qac))) (qhr (pv 7) (pv 8) qcS))
  (qad (qaj (i:=9) nd rfl li (c2.pe hr ∅ rfl (qaa (qax qaL (pv 4) (qbV qbb qae) (λ_ _=>rfl)) (qaa (pv 6) qac))))
  (qad (qaj (i:=4) nd rfl li (c3.pe hr ∅ rfl (qaa (pv 4) (qaa (qaz qcT (pv 6) (pv 9)) (qaa (qax qat (pv 3) qae (λ_ _=>rfl)) (qaa (qaz qcT (qax qaL (pv 4) (qbV qbb qae) (λ_ _=>rfl)) (pv 9)) (qaa (pv 8) qac)))))))
  (qad (qgr (i:=5) nd rfl li (qaz qcT (pv 6) (pv 9)) qg6)
  (qad (qaj (i:=10) nd rfl li (c4.pe hr ∅ rfl (qaa (pv 4) (qaa (pv 5) qac))))
  (qad (qaj (i:=4) nd rfl li (c5.pe hr ∅ rfl (qaa (pv 4) (qaa (pv 10) qac))))
  (qah (qgr (i:=5) nd rfl li (pv 10) qp7))))))))))
  (qah (qay (qaJ (qaa (c6.pe hr ∅ rfl (qaa (pv 7) qac)) (qaa (c7.pe hr ∅ rfl (qaa (pv 4) (qaa (pv 5) qac))) qac))))))))))))
theorem qrD (F:Fun K "common" "common" qr7 f fd) (B:Bl K mg) (c0:qfX P w K mg base) (c1:qgE P w K mg base) (c2:qdX P w K mg base):FnOk P w K mg base CX0 8 f fd ["P", "Q"] (qbW K):=okm F (qqR ) λhr nd hu ht=>(qad (qaj (i:=2) nd rfl li (c1.pe hr ∅ rfl (qaa (qax qat (c0.pe hr ∅ rfl (qaa (pv 0) qac)) qae (λ_ _=>rfl)) (qaa (qax qat (c0.pe hr ∅ rfl (qaa (pv 1) qac)) qae (λ_ _=>rfl)) qac))))
  (qah (qay (qg3 (qea (pv 2) (λ_=>rfl)) (c2.pe hr ∅ rfl (qaa (pv 2) (qaa (qax qaL (pv 2) (qbV qbb qae) (λ_ _=>rfl)) qac))) (qaJ qac)))))
theorem qoU (F:Fun K "p_slope" "p_slope" qpy f fd) (B:Bl K mg) (c0:qmT P w K mg base):FnOk P w K mg base CX0 4 f fd ["P"] (qbx K):=okm F (qoG ) λhr nd hu ht=>(qah (qay (qdx qfq rfl B.tuple qg5 (qaa (qbZ (N:=["place", "P"]) (capt:=[none,some 0]) rfl (BlkOk.of rfl rfl rfl rfl (wbg.mpr rfl) rfl rfl rfl) (qpd rfl B.range (qaa qae (qaa (qaw qbL rfl B.len qaZ (qaa (pv 0) qac)) qac))) (λ_ _ _ _=>(qaB (i:=0) (show (["place", "P"]:List PySem.Str).Nodup by decide +kernel) rfl li)) (λ_ _ _ _=>(c0.pe hr ∅ rfl (qaa (qax qat (pv 1) (pv 0) (λ_ _=>rfl)) (qaa (qaJ (qaa (pv 0) (qaa qae qac))) qac))))) qac))))
theorem qmX (F:Fun K "fraction" "fraction" qn6 f fd) (B:Bl K mg) (c0:qhn P w K mg base) (c1:qeG P w K mg base) (c2:qnR P w K mg base):FnOk P w K mg base CX0 9 f fd ["P", "Q"] (qbr K):=okm F (qmM ) λhr nd hu ht=>(qad (qaj (i:=2) nd rfl li (c0.pe hr ∅ rfl (qaa (pv 0) (qaa (pv 1) qac))))
  (qah (qay (c2.pe hr ∅ rfl (qaa (c1.pe hr ∅ rfl (qaa (pv 0) (qaa (pv 2) qac))) (qaa (c1.pe hr ∅ rfl (qaa (pv 1) (qaa (pv 2) qac))) qac))))))
theorem qrE (F:Fun K "evened" "evened" qr8 f fd) (B:Bl K mg) (c0:qt0 P w K mg base) (c1:qeF P w K mg base):FnOk P w K mg base CX0 5 f fd ["P", "Q"] (qdB K):=okm F (qqX ) λhr nd hu ht=>(qad (qaj (i:=2) nd rfl li (c0.pe hr ∅ rfl (qaa (qaJ (qaa qae (qaa qae qac))) (qaa (qax qat (pv 1) (qbV qbb qae) (λ_ _=>rfl)) qac))))
  (qah (qay (qaJ (qaa (c1.pe hr ∅ rfl (qaa (pv 0) (qaa (pv 2) qac))) (qaa (c1.pe hr ∅ rfl (qaa (pv 1) (qaa (pv 2) qac))) qac))))))
theorem qmY (F:Fun K "quotient" "quotient" qn7 f fd) (B:Bl K mg) (c0:qlE P w K mg base):FnOk P w K mg base CX0 5 f fd ["P", "Q"] (qaV K):=okm F (qmI ) λhr nd hu ht=>(qah (qay (qax qat (c0.pe hr ∅ rfl (qaa (pv 0) (qaa (pv 1) qac))) qae (λ_ _=>rfl))))
theorem qrF (F:Fun K "f_poly" "f_poly" qr9 f fd) (B:Bl K mg)  : FnOk P w K mg base CX0 1 f fd ["P"] (qdD K):=okm F (qrs ) λhr nd hu ht=>(qah (qay (qaJ (qaa (pv 0) (qaa (qaJ (qaa (qaJ (qaa qae (qaa qae qac))) qac)) qac)))))
theorem qmZ (F:Fun K "f_number" "f_number" qn8 f fd) (B:Bl K mg) (c0:qfW P w K mg base) (c1:qke P w K mg base):FnOk P w K mg base CX0 2 f fd ["c"] (qdS K):=okm F (qmQ ) λhr nd hu ht=>(qah (qay (c1.pe hr ∅ rfl (qaa (c0.pe hr ∅ rfl (qaa (qaR (qaa (pv 0) qac)) qac)) qac))))
theorem qrG (F:Fun K "f_plus" "f_plus" qsa f fd) (B:Bl K mg) (c0:qhn P w K mg base) (c1:qeG P w K mg base) (c2:qcI P w K mg base) (c3:qkd P w K mg base):FnOk P w K mg base CX0 9 f fd ["F", "G"] (qbM K):=okm F (qrd ) λhr nd hu ht=>(qad (qaj (i:=2) nd rfl li (c0.pe hr ∅ rfl (qaa (qax qat (pv 0) qae (λ_ _=>rfl)) (qaa (qax qat (pv 1) qae (λ_ _=>rfl)) qac))))
  (qad (qaj (i:=3) nd rfl li (c1.pe hr ∅ rfl (qaa (qax qat (pv 1) qae (λ_ _=>rfl)) (qaa (pv 2) qac))))
  (qad (qaj (i:=4) nd rfl li (c3.pe hr ∅ rfl (qaa (c2.pe hr ∅ rfl (qaa (qax qat (pv 0) qae (λ_ _=>rfl)) (qaa (pv 3) qac))) (qaa (c2.pe hr ∅ rfl (qaa (qax qat (pv 1) qae (λ_ _=>rfl)) (qaa (c1.pe hr ∅ rfl (qaa (qax qat (pv 0) qae (λ_ _=>rfl)) (qaa (pv 2) qac))) qac))) qac))))
  (qad (qaj (i:=5) nd rfl li (c0.pe hr ∅ rfl (qaa (pv 4) (qaa (pv 2) qac))))
  (qah (qay (qaJ (qaa (c1.pe hr ∅ rfl (qaa (pv 4) (qaa (pv 5) qac))) (qaa (c1.pe hr ∅ rfl (qaa (c2.pe hr ∅ rfl (qaa (qax qat (pv 0) qae (λ_ _=>rfl)) (qaa (pv 3) qac))) (qaa (pv 5) qac))) qac)))))))))
theorem qoV (F:Fun K "f_slope" "f_slope" qpz f fd) (B:Bl K mg) (c0:qfY P w K mg base) (c1:qhn P w K mg base) (c2:qeG P w K mg base) (c3:qcI P w K mg base) (c4:qlD P w K mg base):FnOk P w K mg base CX0 9 f fd ["F"] (qc1 K):=okm F (qoH ) λhr nd hu ht=>(qad (qaj (i:=1) nd rfl li (c0.pe hr ∅ rfl (qaa (qax qat (pv 0) qae (λ_ _=>rfl)) qac)))
  (qad (qaj (i:=2) nd rfl li (c1.pe hr ∅ rfl (qaa (qax qat (pv 0) qae (λ_ _=>rfl)) (qaa (pv 1) qac))))
  (qad (qaj (i:=3) nd rfl li (c2.pe hr ∅ rfl (qaa (qax qat (pv 0) qae (λ_ _=>rfl)) (qaa (pv 2) qac))))
  (qad (qaj (i:=4) nd rfl li (c4.pe hr ∅ rfl (qaa (c3.pe hr ∅ rfl (qaa (c0.pe hr ∅ rfl (qaa (qax qat (pv 0) qae (λ_ _=>rfl)) qac)) (qaa (pv 3) qac))) (qaa (c3.pe hr ∅ rfl (qaa (qax qat (pv 0) qae (λ_ _=>rfl)) (qaa (c2.pe hr ∅ rfl (qaa (pv 1) (qaa (pv 2) qac))) qac))) qac))))
  (qah (qay (qaJ (qaa (pv 4) (qaa (c3.pe hr ∅ rfl (qaa (qax qat (pv 0) qae (λ_ _=>rfl)) (qaa (pv 3) qac))) qac)))))))))
theorem qkj (F:Fun K "form_slope" "form_slope" qkH f fd) (B:Bl K mg) (c0:qid P w K mg base) (c1:qfY P w K mg base) (c2:qeF P w K mg base) (c3:qdK P w K mg base) (c4:qho P w K mg base):FnOk P w K mg base CX0 10 f fd ["form"] (qcW K):=okm F (qj8 ) λhr nd hu ht=>(qad (qaj (i:=1) nd rfl li (c0.pe hr ∅ rfl (qaa (qax qat (pv 0) qae (λ_ _=>rfl)) qac)))
  (qad (qcd PassesOwn.never rfl (qhs (qax qat (pv 0) qae (λ_ _=>rfl))) (qdt rfl (qaY (qaB (i:=2) nd rfl li) (qaY (qaB (i:=3) nd rfl li) qdr))) (qah (qaj (i:=1) nd rfl li (c4.pe hr ∅ rfl (qaa (pv 1) (qaa (c3.pe hr ∅ rfl (qaa (c2.pe hr ∅ rfl (qaa (c1.pe hr ∅ rfl (qaa (pv 3) qac)) (qaa (pv 2) qac))) (qaa (pv 3) qac))) qac))))))
  (qah (qay (pv 1)))))
theorem qkk (F:Fun K "shows_form" "shows_form" qkI f fd) (B:Bl K mg) (c0:qgF P w K mg base):FnOk P w K mg base CX0 11 f fd ["f", "form"] (qbQ K):=okm F (qj9 ) λhr nd hu ht=>(qah (qay (qlX (qpU ht) (c0.pe hr ∅ rfl (qaa (pv 1) qac)) (pv 0) (nomark _))))
theorem qoW (F:Fun K "_law_begin" "_law_begin" qpA f fd) (B:Bl K mg)  : FnOk P w K mg base CX0 1 f fd ["_law_script"] (qeB K):=okm F (qoK ) λhr nd hu ht=>(qad (qaj (i:=1) nd rfl li qae)
  (qad (qcd PassesOwn.never rfl (qbh (qdg qkS (pv 0) qd7 (qd8 qae))) (qaB (i:=2) nd rfl li) (qah (qaj (i:=1) nd rfl li (qaz qdf (qaz qb4 (qaz qb4 (qaz qaP (pv 1) qae) (qaz qdf (pv 2) qae)) qae) qae))))
  (qad (qf3 (i:=3) (N:=["_law_cell"]) (capt:=[none]) nd rfl li rfl (BlkOk.of rfl rfl rfl rfl (λ_ h=>nomatch h) rfl rfl rfl) (qbh (qdg qkS (pv 0) qd7 (qd8 qae))) (λ_ _ _ _=>(qaB (i:=0) (show (["_law_cell"]:List PySem.Str).Nodup by decide +kernel) rfl li)) (λ_ _ _ _=>(qaw qhD rfl B.abs qpL (qaa (pv 0) qac))))
  (qah (qay (qvY (qjx (pv 3) (qjx (pv 1) (qjx (qlX qfl (qaz qdf (pv 1) qae) qae (nomark _)) (qjx qae qvX)))) ∅ ∅ (by decide +kernel)))))))
theorem qrH (F:Fun K "_law_take" "_law_take" qsb f fd) (B:Bl K mg)  : FnOk P w K mg base CX0 1 f fd ["_law_state", "_law_many"] (qbf K):=okm F (qrf ) λhr nd hu ht=>(qad (qgq (qaz qb4 (qax qgR (pv 0) qc3 (λ_ _=>rfl)) qae) (qhr (pv 0) qc3 qtu))
  (qad (qbY (qo9 (qax qgR (pv 0) qc3 (λ_ _=>rfl))) (qad (qcb PassesOwn.never (PW.pt (qfk (qaE qkr (qaw qaK rfl B.len qaZ (qaa (qax qgR (pv 0) qc3 (λ_ _=>rfl)) qac)) qae (nomark _)) (qdM (qaE qfl (qax qaL (qax qgR (pv 0) qc3 (λ_ _=>rfl)) qae (λ_ _=>rfl)) qae (nomark _))))) (qah (qd6 (qky PySem.F.plainAttrs_list PySem.F.slot_list_pop PySem.F.type_list_pop qun (qax qgR (pv 0) qc3 (λ_ _=>rfl)) (qaa qae qac)))))
  (qad (qbY (qaE qfl (qaw qaK rfl B.len qaZ (qaa (qax qgR (pv 0) qc3 (λ_ _=>rfl)) qac)) qae (nomark _)) (qah (qay qae)) qaU)
  (qad (qgq (qaw call_divmod rfl B.divmod qqe (qaa (qax qaL (qax qgR (pv 0) qc3 (λ_ _=>rfl)) qae (λ_ _=>rfl)) (qaa (pv 1) qac))) (qdt rfl (qaY (qhr (qax qgR (pv 0) qc3 (λ_ _=>rfl)) qae qcS) (qaY (qaB (i:=2) nd rfl li) qdr))))
  (qah (qay (pv 2)))))) qaU)
  (qad (qaj (i:=3) nd rfl li (qaz qdf (qaz qaP (qaz qb4 (qax qgR (pv 0) qc3 (λ_ _=>rfl)) (qaz qaP qae (qax qgR (pv 0) qc3 (λ_ _=>rfl)))) qae) qae))
  (qad (qgq (qaz qb4 (qaz qdf (qaz qaP (pv 3) (pv 3)) qae) (qax qgR (pv 0) qc3 (λ_ _=>rfl))) (qhr (pv 0) qc3 qtu))
  (qah (qay (qaz qdf (qaz qsf (qax qgR (pv 0) qc3 (λ_ _=>rfl)) qae) (pv 1))))))))
theorem qm0 (F:Fun K "_law_number" "_law_number" qn9 f fd) (B:Bl K mg) (c0:qdY P w K mg base) (c1:qeu P w K mg base):FnOk P w K mg base CX0 3 f fd ["_law_state"] (qb3 K):=okm F (qmO ) λhr nd hu ht=>(qad (qaj (i:=1) nd rfl li (qaz qbK (c0.pe hr ∅ rfl (qaa (pv 0) (qaa qae qac))) qae))
  (qad (qbY (qaE qfl (c0.pe hr ∅ rfl (qaa (pv 0) (qaa qae qac))) qae (nomark _)) (qah (qaj (i:=1) nd rfl li (qaz qaP (pv 1) qae))) qaU)
  (qah (qay (c1.pe hr ∅ rfl (qaa (pv 1) (qaa (qaz qb4 qae (c0.pe hr ∅ rfl (qaa (pv 0) (qaa qae qac)))) qac)))))))
theorem qoX (F:Fun K "_law_other" "_law_other" qpB f fd) (B:Bl K mg) (c0:qeH P w K mg base):FnOk P w K mg base CX0 4 f fd ["_law_state"] (qct K):=okm F (qoI ) λhr nd hu ht=>(qad (qaj (i:=1) nd rfl li (c0.pe hr ∅ rfl (qaa (pv 0) qac)))
  (qad (qbY (qaE (qpU ht) (pv 1) (qaJ (qaa qae (qaa qae qac))) (nomark _)) (qah (qay (qaJ (qaa qae (qaa qae qac))))) qaU)
  (qah (qay (pv 1)))))
theorem qoY (F:Fun K "_law_whole" "_law_whole" qpC f fd) (B:Bl K mg)  : FnOk P w K mg base CX0 1 f fd ["_law_row"] (qbe K):=okm F (qoJ ) λhr nd hu ht=>(qah (qay (qdx qfq rfl B.tuple qg5 (qaa (qbZ (N:=["_law_number_here"]) (capt:=[none]) rfl (BlkOk.of rfl rfl rfl rfl (λ_ h=>nomatch h) rfl rfl rfl) (qbh (pv 0)) (λ_ _ _ _=>(qaB (i:=0) (show (["_law_number_here"]:List PySem.Str).Nodup by decide +kernel) rfl li)) (λ_ _ _ _=>(qaJ (qaa (pv 0) (qaa qae qac))))) qac))))
theorem qrI (F:Fun K "_law_pool" "_law_pool" qsc f fd) (B:Bl K mg) (c0:qfZ P w K mg base):FnOk P w K mg base CX0 2 f fd ["_law_state"] (qfy K):=okm F (qrk ) λhr nd hu ht=>(qad (qaj (i:=1) nd rfl li (qaz qhx (qbZ (N:=["_law_k"]) (capt:=[none]) rfl (BlkOk.of rfl rfl rfl rfl (λ_ h=>nomatch h) rfl rfl rfl) (qhs (qaJ (qaa qae (qaa qae (qaa (qbV qbb qae) (qaa qae (qaa (qbV qbb qae) (qaa qae qac)))))))) (λ_ _ _ _=>(qaB (i:=0) (show (["_law_k"]:List PySem.Str).Nodup by decide +kernel) rfl li)) (λ_ _ _ _=>(c0.pe hr ∅ rfl (qaa (qaR (qaa (qbV qbb (pv 0)) (qaa qae qac))) qac)))) (qaR (qaa (qaJ (qaa (qaJ (qaa qae (qaa qae qac))) (qaa (qaJ (qaa qae (qaa qae qac))) qac))) (qaa (qaJ (qaa (qaJ (qaa (qbV qbb qae) (qaa qae qac))) (qaa (qaJ (qaa qae (qaa qae qac))) qac))) qac)))))
  (qad (qaj (i:=2) nd rfl li (qaR (qaa (qaR (qaa (qbV qbb qae) (qaa qae (qaa qae qac)))) (qaa (qaR (qaa qae (qaa qae (qaa qae qac)))) (qaa (qaR (qaa qae (qaa qae (qaa qae qac)))) (qaa (qaR (qaa (qbV qbb qae) (qaa qae (qaa qae qac)))) (qaa (qaR (qaa (qbV qbb qae) (qaa qae (qaa qae qac)))) (qaa (qaR (qaa qae (qaa qae (qaa qae qac)))) (qaa (qaR (qaa (qbV qbb qae) (qaa qae (qaa qae qac)))) (qaa (qaR (qaa qae (qaa qae (qaa qae qac)))) qac))))))))))
  (qad (qaj (i:=3) nd rfl li (qaz qhx (pv 1) (qbZ (N:=["_law_row"]) (capt:=[none]) rfl (BlkOk.of rfl rfl rfl rfl (λ_ h=>nomatch h) rfl rfl rfl) (qbh (pv 2)) (λ_ _ _ _=>(qaB (i:=0) (show (["_law_row"]:List PySem.Str).Nodup by decide +kernel) rfl li)) (λ_ _ _ _=>(c0.pe hr ∅ rfl (qaa (pv 0) qac))))))
  (qad (qaj (i:=3) nd rfl li (qaz qhx (pv 3) (qbZ (N:=["_law_row"]) (capt:=[none]) rfl (BlkOk.of rfl rfl rfl rfl (λ_ h=>nomatch h) rfl rfl rfl) (qhs (qaJ (qaa (qaR (qaa (qbV qbb qae) (qaa qae (qaa qae (qaa qae qac))))) (qaa (qaR (qaa qae (qaa qae (qaa qae (qaa qae qac))))) (qaa (qaR (qaa (qbV qbb qae) (qaa (qbV qbb qae) (qaa qae (qaa qae qac))))) qac))))) (λ_ _ _ _=>(qaB (i:=0) (show (["_law_row"]:List PySem.Str).Nodup by decide +kernel) rfl li)) (λ_ _ _ _=>(c0.pe hr ∅ rfl (qaa (pv 0) qac))))))
  (qah (qay (pv 3)))))))
theorem qrJ (F:Fun K "_law_some" "_law_some" qsd f fd) (B:Bl K mg) (c0:qnS P w K mg base) (c1:qkc P w K mg base) (c2:qdY P w K mg base):FnOk P w K mg base CX0 3 f fd ["_law_state", "_law_many", "_law_most"] (qfz K):=okm F (qrn ) λhr nd hu ht=>(qad (qaj (i:=3) nd rfl li (c0.pe hr ∅ rfl (qaa (pv 0) qac)))
  (qad (qaj (i:=4) nd rfl (Or.inr rfl) (qaR qac))
  (qad (qaj (i:=5) nd rfl (Or.inr rfl) (pv 2))
  (qad (qcd PassesOwn.never rfl (qc4 rfl B.range (qaa (pv 1) qac)) (qaB (i:=6) nd rfl li) (qad (qsm (i:=7) (N:=["_law_part", "_law_room", "_law_found"]) (capt:=[none,some 5,some 4]) nd rfl li rfl (BlkOk.of rfl rfl rfl rfl (wcc.mpr ⟨rfl,(wbg.mpr rfl)⟩) rfl rfl rfl) (qbh (pv 3)) (λ_ _ _ _=>(qaB (i:=0) (show (["_law_part", "_law_room", "_law_found"]:List PySem.Str).Nodup by decide +kernel) rfl li)) (λ_ _ _ _=>(PW.pt (qfk (qaE qwS (c1.pe hr ∅ rfl (qaa (pv 0) qac)) (pv 1) (nomark _)) (qdM (qaE (qp8 ht) (pv 0) (pv 2) rfl))))) (λ_ _ _ _=>(pv 0)))
  (qah (qbY (qaE (qkO ht) (pv 7) (qaR qac) (nomark _)) (qad (qd6 (qky PySem.F.plainAttrs_list PySem.F.slot_list_append PySem.F.type_list_append qfm (pv 4) (qaa (qax qaL (pv 7) (c2.pe hr ∅ rfl (qaa (pv 0) (qaa (qaw qaK rfl B.len qaZ (qaa (pv 7) qac)) qac))) (λ_ _=>rfl)) qac)))
  (qah (qaj (i:=5) nd rfl (Or.inr rfl) (qaz qbK (pv 5) (c1.pe hr ∅ rfl (qaa (qax qaL (pv 4) (qbV qbb qae) (λ_ _=>rfl)) qac)))))) qaU))))
  (qah (qay (pv 4)))))))
theorem qlK (F:Fun K "_law_product" "_law_product" ql5 f fd) (B:Bl K mg) (c0:qcI P w K mg base):FnOk P w K mg base CX0 5 f fd ["_law_parts"] (qcA K):=okm F (qlz ) λhr nd hu ht=>(qad (qaj (i:=1) nd rfl li (qaJ (qaa (qaJ (qaa qae (qaa qae qac))) qac)))
  (qad (qcd PassesOwn.never rfl (qbh (pv 0)) (qaB (i:=2) nd rfl li) (qah (qaj (i:=1) nd rfl li (c0.pe hr ∅ rfl (qaa (pv 1) (qaa (pv 2) qac))))))
  (qah (qay (pv 1)))))
theorem qrK (F:Fun K "_law_laid" "_law_laid" qse f fd) (B:Bl K mg) (c0:qnQ P w K mg base) (c1:qcI P w K mg base):FnOk P w K mg base CX0 5 f fd ["_law_pairs"] (qbX K):=okm F (qrq ) λhr nd hu ht=>(qad (qaj (i:=1) nd rfl li (qaR qac))
  (qad (qcd PassesOwn.never rfl (qbh (pv 0)) (qdt rfl (qaY (qaB (i:=2) nd rfl li) (qaY (qaB (i:=3) nd rfl li) qdr))) (qad (qaj (i:=4) nd rfl li qae)
  (qad (qcb PassesOwn.never (PW.pt (qfk (qaE qpk (pv 4) (qaw qaK rfl B.len qaZ (qaa (pv 1) qac)) (nomark _)) (qdM (qo9 (c0.pe hr ∅ rfl (qaa (qax qat (qax qaL (pv 1) (pv 4) (λ_ _=>rfl)) qae (λ_ _=>rfl)) (qaa (pv 2) qac))))))) (qah (qaj (i:=4) nd rfl li (qaz qb4 (pv 4) qae))))
  (qah (qbY (PW.pt (qfk (qaE qpk (pv 4) (qaw qaK rfl B.len qaZ (qaa (pv 1) qac)) (nomark _)) (qdM (qaE (qpU ht) (qax qat (qax qaL (pv 1) (pv 4) (λ_ _=>rfl)) qae (λ_ _=>rfl)) (pv 2) (nomark _))))) (qah (qgq (qaJ (qaa (pv 2) (qaa (c1.pe hr ∅ rfl (qaa (qax qat (qax qaL (pv 1) (pv 4) (λ_ _=>rfl)) qae (λ_ _=>rfl)) (qaa (pv 3) qac))) qac))) (qhr (pv 1) (pv 4) qcS))) (qah (qbY (qaE (qkO ht) (pv 2) (qaJ (qaa qae (qaa qae qac))) (nomark _)) (qah (qd6 (qky PySem.F.plainAttrs_list PySem.F.slot_list_insert PySem.F.type_list_insert qqd (pv 1) (qaa (pv 4) (qaa (qaJ (qaa (pv 2) (qaa (pv 3) qac))) qac))))) qaU)))))))
  (qah (qay (qdx qfq rfl B.tuple qg5 (qaa (pv 1) qac))))))
theorem qkl (F:Fun K "_law_fraction" "_law_fraction" qkJ f fd) (B:Bl K mg) (c0:qdY P w K mg base) (c1:qeH P w K mg base) (c2:qfZ P w K mg base) (c3:qcI P w K mg base) (c4:qfW P w K mg base) (c5:qdK P w K mg base):FnOk P w K mg base CX0 10 f fd ["_law_state", "_law_parts"] (qcV K):=okm F (qj7 ) λhr nd hu ht=>(qad (qf3 (i:=2) (N:=["_law_k", "_law_state"]) (capt:=[none,some 0]) nd rfl li rfl (BlkOk.of rfl rfl rfl rfl (wbg.mpr rfl) rfl rfl rfl) (qc4 rfl B.range (qaa (qaz qb4 qae (c0.pe hr ∅ rfl (qaa (pv 0) (qaa qae qac)))) qac)) (λ_ _ _ _=>(qaB (i:=0) (show (["_law_k", "_law_state"]:List PySem.Str).Nodup by decide +kernel) rfl li)) (λ_ _ _ _=>(c1.pe hr ∅ rfl (qaa (pv 1) qac))))
  (qad (qaj (i:=3) nd rfl li (qaJ (qaa (qaJ (qaa qae (qaa qae qac))) qac)))
  (qad (qaj (i:=4) nd rfl li (c0.pe hr ∅ rfl (qaa (pv 0) (qaa qae qac))))
  (qad (qbY (PW.pt (qfk (qaE qfl (pv 4) qae (nomark _)) (qdM (qaE (qkO ht) (pv 1) (qaR qac) (nomark _))))) (qah (qaj (i:=3) nd rfl li (qax qaL (pv 1) qae (λ_ _=>rfl)))) qaU)
  (qad (qbY (qaE qfl (pv 4) qae (nomark _)) (qah (qaj (i:=3) nd rfl li (c3.pe hr ∅ rfl (qaa (c2.pe hr ∅ rfl (qaa (qaR (qaa qae (qaa qae qac))) qac)) (qaa (c2.pe hr ∅ rfl (qaa (qaR (qaa qae (qaa qae qac))) qac)) qac))))) qaU)
  (qad (qbY (qaE qfl (pv 4) qae (nomark _)) (qah (qaj (i:=3) nd rfl li (c2.pe hr ∅ rfl (qaa (qaR (qaa (qbV qbb qae) (qaa qae qac))) qac)))) qaU)
  (qah (qay (c5.pe hr ∅ rfl (qaa (c4.pe hr ∅ rfl (qaa (pv 2) qac)) (qaa (pv 3) qac)))))))))))
theorem qm1 (F:Fun K "_law_pieces" "_law_pieces" qoa f fd) (B:Bl K mg) (c0:qnT P w K mg base) (c1:qie P w K mg base) (c2:qkc P w K mg base) (c3:qdY P w K mg base):FnOk P w K mg base CX0 5 f fd ["_law_state", "_law_many", "_law_most", "_law_odd"] (qdT K):=okm F (qmR ) λhr nd hu ht=>(qad (qaj (i:=4) nd rfl li (qaR qac))
  (qad (qcd PassesOwn.never rfl (qbh (c0.pe hr ∅ rfl (qaa (pv 0) (qaa (pv 1) (qaa (pv 2) qac))))) (qaB (i:=5) nd rfl li) (qad (qaj (i:=6) nd rfl li (c1.pe hr ∅ rfl (qaa (pv 0) qac)))
  (qad (qaj (i:=7) nd rfl li (qaJ (qaa qae (qaa qae qac))))
  (qad (qbY (PW.pt (qfk (qaE qkr (c2.pe hr ∅ rfl (qaa (pv 5) qac)) qae (nomark _)) (qdM (qaE qkr (c3.pe hr ∅ rfl (qaa (pv 0) (qaa (pv 3) qac))) qae (nomark _))))) (qad (qaj (i:=7) nd rfl li (c1.pe hr ∅ rfl (qaa (pv 0) qac)))
  (qah (qbY (qaE qfl (c3.pe hr ∅ rfl (qaa (pv 0) (qaa qae qac))) qae (nomark _)) (qah (qaj (i:=6) nd rfl li (qaJ (qaa qae (qaa qae qac))))) qaU))) qaU)
  (qah (qd6 (qky PySem.F.plainAttrs_list PySem.F.slot_list_append PySem.F.type_list_append qfm (pv 4) (qaa (qaJ (qaa (pv 5) (qaa (pv 6) (qaa (pv 7) qac)))) qac))))))))
  (qah (qay (pv 4)))))
theorem qtb (F:Fun K "_law_top" "_law_top" quh f fd) (B:Bl K mg) (c0:qff P w K mg base) (c1:qfY P w K mg base) (c2:qeF P w K mg base) (c3:qfW P w K mg base) (c4:qkd P w K mg base) (c5:qcI P w K mg base):FnOk P w K mg base CX0 6 f fd ["_law_pieces_here"] (qhh K):=okm F (qs5 ) λhr nd hu ht=>(qad (qaj (i:=1) nd rfl li (qaJ qac))
  (qad (qcd PassesOwn.never rfl (qbh (pv 0)) (qdt rfl (qaY (qaB (i:=2) nd rfl (Or.inr rfl)) (qaY (qaB (i:=3) nd rfl li) (qaY (qaB (i:=4) nd rfl li) qdr)))) (qad (qaj (i:=5) nd rfl li (c0.pe hr ∅ rfl (qaa (qnh (N:=["_law_piece", "_law_part"]) (capt:=[none,some 2]) rfl (BlkOk.of rfl rfl rfl rfl (wbg.mpr rfl) rfl rfl rfl) (qbh (pv 0)) (λ_ _ _ _=>(qaB (i:=0) (show (["_law_piece", "_law_part"]:List PySem.Str).Nodup by decide +kernel) rfl li)) (λ_ _ _ _=>(qaE (qkO ht) (qax qat (pv 0) qae (λ_ _=>rfl)) (pv 1) (nomark _))) (λ_ _ _ _=>(qax qat (pv 0) qae (λ_ _=>rfl)))) qac)))
  (qad (qaj (i:=6) nd rfl li (c4.pe hr ∅ rfl (qaa (c2.pe hr ∅ rfl (qaa (c1.pe hr ∅ rfl (qaa (pv 2) qac)) (qaa (pv 3) qac))) (qaa (c3.pe hr ∅ rfl (qaa (qaR (qaa (pv 4) qac)) qac)) qac))))
  (qah (qaj (i:=1) nd rfl li (c4.pe hr ∅ rfl (qaa (pv 1) (qaa (c5.pe hr ∅ rfl (qaa (pv 6) (qaa (pv 5) qac))) qac))))))))
  (qah (qay (pv 1)))))
theorem qoZ (F:Fun K "_law_wrong" "_law_wrong" qpD f fd) (B:Bl K mg) (c0:qie P w K mg base) (c1:qfZ P w K mg base) (c2:qkf P w K mg base) (c3:qke P w K mg base) (c4:qho P w K mg base) (c5:qdY P w K mg base) (c6:qrw P w K mg base) (c7:qcI P w K mg base) (c8:qdK P w K mg base):FnOk P w K mg base CX0 10 f fd ["_law_state", "_law_kr", "_law_pairs"] (qeC K):=okm F (qoN ) λhr nd hu ht=>(qad (qaj (i:=3) nd rfl li (c0.pe hr ∅ rfl (qaa (pv 0) qac)))
  (qad (qaj (i:=4) nd rfl li (c1.pe hr ∅ rfl (qaa (qaR (qaa (qbV qbb qae) (qaa qae qac))) qac)))
  (qad (qaj (i:=5) nd rfl li (c2.pe hr ∅ rfl (qaa (pv 2) qac)))
  (qad (qaj (i:=6) nd rfl li (qaR (qaa (qaJ (qaa (c4.pe hr ∅ rfl (qaa (pv 1) (qaa (c3.pe hr ∅ rfl (qaa (qaJ (qaa (qaJ (qaa qae (qaa qae qac))) (qaa (pv 3) qac))) qac)) qac))) (qaa (pv 5) qac))) (qaa (qaJ (qaa (pv 1) (qaa (c2.pe hr ∅ rfl (qaa (qaz qhx (pv 2) (qaR (qaa (qaJ (qaa (pv 3) (qaa (pv 4) qac))) qac))) qac)) qac))) qac))))
  (qad (qbY (qaE (qkO ht) (pv 2) (qaR qac) (nomark _)) (qad (qaj (i:=7) nd rfl li (c5.pe hr ∅ rfl (qaa (pv 0) (qaa (qaw qaK rfl B.len qaZ (qaa (pv 2) qac)) qac))))
  (qad (qgq (qax qaL (pv 2) (pv 7) (λ_ _=>rfl)) (qdt rfl (qaY (qaB (i:=8) nd rfl li) (qaY (qaB (i:=9) nd rfl li) qdr))))
  (qad (qaj (i:=10) nd rfl li (qaz qhx (qdg qf4 (pv 2) qd7 (qd8 (pv 7))) (qdg qf4 (pv 2) (qd8 (qaz qb4 (pv 7) qae)) qd7)))
  (qad (qd6 (qky PySem.F.plainAttrs_list PySem.F.slot_list_extend PySem.F.type_list_extend qkB (pv 6) (qaa (qaR (qaa (qaJ (qaa (pv 1) (qaa (c2.pe hr ∅ rfl (qaa (pv 10) qac)) qac))) (qaa (qaJ (qaa (pv 1) (qaa (c2.pe hr ∅ rfl (qaa (qaz qhx (pv 10) (qaR (qaa (qaJ (qaa (c6.pe hr ∅ rfl (qaa (pv 8) (qaa (pv 3) qac))) (qaa (pv 9) qac))) qac))) qac)) qac))) qac))) qac)))
  (qad (qd6 (qky PySem.F.plainAttrs_list PySem.F.slot_list_append PySem.F.type_list_append qfm (pv 6) (qaa (qaJ (qaa (pv 1) (qaa (c2.pe hr ∅ rfl (qaa (qaz qhx (pv 10) (qaR (qaa (qaJ (qaa (pv 8) (qaa (c7.pe hr ∅ rfl (qaa (pv 9) (qaa (pv 4) qac))) qac))) qac))) qac)) qac))) qac)))
  (qah (qd6 (qky PySem.F.plainAttrs_list PySem.F.slot_list_append PySem.F.type_list_append qfm (pv 6) (qaa (qaJ (qaa (c4.pe hr ∅ rfl (qaa (pv 1) (qaa (c8.pe hr ∅ rfl (qaa (qaJ (qaa (qaJ (qaa qae (qaa qae qac))) qac)) (qaa (pv 9) qac))) qac))) (qaa (pv 5) qac))) qac))))))))) qaU)
  (qah (qay (pv 6))))))))
theorem qwH (F:Fun K "law" "law" qpE f fd) (B:Bl K mg) (c0:qlF P w K mg base) (c1:qdY P w K mg base) (c2:qjl P w K mg base) (c3:qgH P w K mg base) (c4:qkf P w K mg base) (c5:qid P w K mg base) (c6:qry P w K mg base) (c7:qff P w K mg base) (c8:qdK P w K mg base) (c9:qho P w K mg base) (c10:qgG P w K mg base) (c11:qeH P w K mg base) (c12:qjk P w K mg base) (c13:qlG P w K mg base):FnOk P w K mg base CX0 12 f fd ["_law_script"] (qk0 K):=okm F (qwG ) λhr nd hu ht=>(qad (qaj (i:=1) nd rfl li (c0.pe hr ∅ rfl (qaa (pv 0) qac)))
  (qad (qaj (i:=2) nd rfl li (c2.pe hr ∅ rfl (qaa (pv 1) (qaa (c1.pe hr ∅ rfl (qaa (pv 1) (qaa qae qac))) (qaa qae (qaa qae qac))))))
  (qad (qf3 (i:=3) (N:=["_law_piece"]) (capt:=[none]) nd rfl li rfl (BlkOk.of rfl rfl rfl rfl (λ_ h=>nomatch h) rfl rfl rfl) (qbh (pv 2)) (λ_ _ _ _=>(qaB (i:=0) (show (["_law_piece"]:List PySem.Str).Nodup by decide +kernel) rfl li)) (λ_ _ _ _=>(qax qat (pv 0) qae (λ_ _=>rfl))))
  (qad (qaj (i:=4) nd rfl li (c3.pe hr ∅ rfl (qaa (pv 1) (qaa (pv 3) qac))))
  (qad (qf3 (i:=5) (N:=["_law_part", "_law_c", "_law_e"]) (capt:=[none,none,none]) nd rfl li rfl (BlkOk.of rfl rfl rfl rfl (λ_ h=>nomatch h) rfl rfl rfl) (qbh (pv 2)) (λ_ _ _ _=>(qdt rfl (qaY (qaB (i:=0) (show (["_law_part", "_law_c", "_law_e"]:List PySem.Str).Nodup by decide +kernel) rfl li) (qaY (qaB (i:=1) (show (["_law_part", "_law_c", "_law_e"]:List PySem.Str).Nodup by decide +kernel) rfl li) (qaY (qaB (i:=2) (show (["_law_part", "_law_c", "_law_e"]:List PySem.Str).Nodup by decide +kernel) rfl li) qdr))))) (λ_ _ _ _=>(qaJ (qaa (pv 1) (qaa (pv 0) qac)))))
  (qad (qaj (i:=6) nd rfl li (c4.pe hr ∅ rfl (qaa (pv 5) qac)))
  (qad (qaj (i:=7) nd rfl li (c9.pe hr ∅ rfl (qaa (c5.pe hr ∅ rfl (qaa (pv 4) qac)) (qaa (c8.pe hr ∅ rfl (qaa (c6.pe hr ∅ rfl (qaa (pv 2) qac)) (qaa (c7.pe hr ∅ rfl (qaa (pv 3) qac)) qac))) qac))))
  (qad (qbY (qaE ql9 (c10.pe hr ∅ rfl (qaa (pv 7) (qaa (qaJ (qaa (pv 4) (qaa (pv 6) qac))) qac))) qlT (nomark _)) (qah (qay qlT)) qaU)
  (qad (qbY (qaE ql9 (c10.pe hr ∅ rfl (qaa (pv 7) (qaa (qaJ (qaa (c9.pe hr ∅ rfl (qaa (pv 4) (qaa (c12.pe hr ∅ rfl (qaa (c11.pe hr ∅ rfl (qaa (pv 1) qac)) qac)) qac))) (qaa (pv 6) qac))) qac))) qlT (nomark _)) (qah (qay qlT)) qaU)
  (qad (qaj (i:=8) nd rfl li (c13.pe hr ∅ rfl (qaa (pv 1) (qaa (pv 4) (qaa (pv 5) qac)))))
  (qad (qcd PassesOwn.never rfl (qc4 rfl B.range (qaa qae qac)) (qaB (i:=9) nd rfl li) (qah (qbY (qaE ql9 (c10.pe hr ∅ rfl (qaa (pv 7) (qaa (qax qaL (pv 8) (c1.pe hr ∅ rfl (qaa (pv 1) (qaa (qaw qaK rfl B.len qaZ (qaa (pv 8) qac)) qac))) (λ_ _=>rfl)) qac))) qlT (nomark _)) (qah (qay qlT)) qaU)))
  (qah (qay qlT)))))))))))))
end
end Bs
namespace Bs
open PySem PySem.Spec PyProof.Rows L2
set_option maxHeartbeats 4000000
open Hd
theorem qvi {K:W.Frag} {st:Stmt} {f c:Addr} {n:Str} {pm:Value} (l:K.lookup f=some (fnO n st pm c)) (e:PySem.W.codeIn K (.ref c) n=true) (k:PySem.W.keepIn K (.ref f)=true):Fun K n n st f (PySem.W.fnOf n n (qds st) (qcK st) (qbg st) .none .none .none pm none (.ref c) .none):=qvE (st:=st) l e k
theorem qwI {P:Program} {K:W.Frag} {w:World} {h base:Heap} {mg:Str->Option Value} {k:Nat} {f:Addr} {fd:FuncData} {n:Str} {ps:List Str} {sp:Sp} (X:K.In h) (G:h.Ns mainGlobals mg) (ok:FnOk P w K mg base CX0 k f fd ps sp) (b:Binds K fd ps []) (e:PySem.W.keepIn K (.ref f)=true) (a:PySem.W.nsIn K mainGlobals n=some (some (.ref f))):Cal P w K mg base k n ps sp:=⟨f,fd,ok,b,e,PySem.W.mg_of X G a⟩
theorem qwJ {us:List Value} {n:Nat} (h:us.length=n+1):∃ x t,us=x::t/\t.length=n:=by cases us with | nil=>cases h | cons x t=>exact ⟨x,t,rfl,Nat.succ.inj h⟩
theorem qxK (us:List Value) (h:us.length=1):∃ x0,us=[x0]:=by obtain ⟨x,t,rfl,q⟩:=qwJ h;exact ⟨x,by rw [waz.mp q]⟩
theorem qxL (us:List Value) (h:us.length=2):∃ x0 x1,us=[x0,x1]:=by obtain ⟨x,t,rfl,q⟩:=qwJ h;obtain ⟨x1,rfl⟩:=qxK t q;exact ⟨x,x1,rfl⟩
theorem qxM (us:List Value) (h:us.length=3):∃ x0 x1 x2,us=[x0,x1,x2]:=by obtain ⟨x,t,rfl,q⟩:=qwJ h;obtain ⟨x1,x2,rfl⟩:=qxL t q;exact ⟨x,x1,x2,rfl⟩
theorem qxN (us:List Value) (h:us.length=4):∃ x0 x1 x2 x3,us=[x0,x1,x2,x3]:=by obtain ⟨x,t,rfl,q⟩:=qwJ h;obtain ⟨x1,x2,x3,rfl⟩:=qxM t q;exact ⟨x,x1,x2,x3,rfl⟩
theorem qyf (us:List Value) (h:us.length=5):∃ x0 x1 x2 x3 x4,us=[x0,x1,x2,x3,x4]:=by obtain ⟨x,t,rfl,q⟩:=qwJ h;obtain ⟨x1,x2,x3,x4,rfl⟩:=qxN t q;exact ⟨x,x1,x2,x3,x4,rfl⟩
theorem qaT {P:Program} {K:W.Frag} {w:World} {h base:Heap} {mg:Str->Option Value} {k:Nat} {f c:Addr} {n:Str} {ps:List Str} {sp:Sp} {st:Stmt} {pm:Value} (X:K.In h) (G:h.Ns mainGlobals mg) (ok:Fun K n n st f (PySem.W.fnOf n n (qds st) (qcK st) (qbg st) .none .none .none pm none (.ref c) .none)->FnOk P w K mg base CX0 k f (PySem.W.fnOf n n (qds st) (qcK st) (qbg st) .none .none .none pm none (.ref c) .none) ps sp) (l:K.lookup f=some (fnO n st pm c):=by kernel_rfl) (e:PySem.W.codeIn K (.ref c) n=true:=by kernel_rfl) (q:PySem.W.keepIn K (.ref f)=true:=by kernel_rfl) (a:PySem.W.nsIn K mainGlobals n=some (some (.ref f)):=by kernel_rfl) (b:∀ (kV doc pm:Value) (an:Option Addr) (cdv ct:Value) (us:List Value),us.length=ps.length->bindArgs (PySem.W.fnOf n n (qds st) (qcK st) (qbg st) .none kV doc pm an cdv ct) ⟨us,[]⟩=pure (ps.zip us):=by first | exact λ_ _ _ _ _ _ us hl=>by obtain ⟨_,rfl⟩:=qxK us hl;rfl | exact λ_ _ _ _ _ _ us hl=>by obtain ⟨_,_,rfl⟩:=qxL us hl;rfl | exact λ_ _ _ _ _ _ us hl=>by obtain ⟨_,_,_,rfl⟩:=qxM us hl;rfl | exact λ_ _ _ _ _ _ us hl=>by obtain ⟨_,_,_,_,rfl⟩:=qxN us hl;rfl | exact λ_ _ _ _ _ _ us hl=>by obtain ⟨_,_,_,_,_,rfl⟩:=qyf us hl;rfl):Cal P w K mg base k n ps sp:=qwI X G (ok (qvi l e q)) ((qvi l e q).binds b) q a
section
variable {P:Program} {w:World} {mg:Str->Option Value} {base h:Heap} (X:(hp w.params).In h) (G:h.Ns mainGlobals mg) (B:Bl (hp w.params) mg)
include X G B
theorem qbk:qa8 P w (hp w.params) mg base:=qaT (f:=22) (c:=21) (pm:=mo0) X G λF=>qgj F B
theorem qtc:qnP P w (hp w.params) mg base:=qaT (f:=29) (c:=28) (pm:=mo0) X G λF=>qrz F B
theorem qdZ:qcX P w (hp w.params) mg base:=qaT (f:=41) (c:=40) (pm:=mo0) X G λF=>qiM F B
theorem qgI:qeq P w (hp w.params) mg base:=qaT (f:=46) (c:=45) (pm:=mo0) X G λF=>qkg F B
theorem qm2:qic P w (hp w.params) mg base:=qaT (f:=53) (c:=52) (pm:=mo0) X G λF=>qlH F B
theorem qo0:qjj P w (hp w.params) mg base:=qaT (f:=60) (c:=59) (pm:=mo0) X G λF=>qmU F B
theorem qg2:qd4 P w (hp w.params) mg base:=qaT (f:=96) (c:=95) (pm:=mo0) X G λF=>qgk F B
theorem qiP:qeZ P w (hp w.params) mg base:=qaT (f:=101) (c:=100) (pm:=mo0) X G λF=>qif F B
theorem qrL:qlC P w (hp w.params) mg base:=qaT (f:=141) (c:=140) (pm:=mo0) X G λF=>qoP F B
theorem qtd:qnQ P w (hp w.params) mg base:=qaT (f:=195) (c:=194) (pm:=mo1) X G λF=>qrA F B
theorem qgJ:qfW P w (hp w.params) mg base:=qaT (f:=202) (c:=201) (pm:=mo2) X G λF=>qvh F B
theorem qnU:qkc P w (hp w.params) mg base:=qaT (f:=209) (c:=208) (pm:=mo2) X G λF=>qrB F B
theorem qii:qfe P w (hp w.params) mg base:=qaT (f:=226) (c:=225) (pm:=mo2) X G λF=>qlJ F B
theorem qnV:qke P w (hp w.params) mg base:=qaT (f:=295) (c:=294) (pm:=mo3) X G λF=>qrF F B
theorem qrM:qlF P w (hp w.params) mg base:=qaT (f:=335) (c:=334) (pm:=mo6) X G λF=>qoW F B
theorem qeI:qdY P w (hp w.params) mg base:=qaT (f:=342) (c:=341) (pm:=mo6) X G λF=>qrH F B
theorem qij:qfZ P w (hp w.params) mg base:=qaT (f:=361) (c:=360) (pm:=mo6) X G λF=>qoY F B
theorem qlL:qib P w (hp w.params) mg base:=qaT (f:=34) (c:=33) (pm:=mo0) X G λF=>qoO F B (qbk X G B)
theorem qjm:qgi P w (hp w.params) mg base:=qaT (f:=65) (c:=64) (pm:=mo0) X G λF=>qmV F B (qdZ X G B)
theorem qgK:qes P w (hp w.params) mg base:=qaT (f:=108) (c:=107) (pm:=mo0) X G λF=>qkh F B (qiP X G B) (qdZ X G B)
theorem qiQ:qe0 P w (hp w.params) mg base:=qaT (f:=113) (c:=112) (pm:=mo0) X G λF=>qig F B (qg2 X G B)
theorem qfh:qeu P w (hp w.params) mg base:=qaT (f:=160) (c:=159) (pm:=mo1) X G λF=>qs8 F B (qbk X G B)
theorem qik:qfX P w (hp w.params) mg base:=qaT (f:=214) (c:=213) (pm:=mo2) X G λF=>qoQ F B (qbk X G B)
theorem qo1:qjk P w (hp w.params) mg base:=qaT (f:=302) (c:=301) (pm:=mo3) X G λF=>qmZ F B (qgJ X G B) (qnV X G B)
theorem qte:qnS P w (hp w.params) mg base:=qaT (f:=366) (c:=365) (pm:=mo6) X G λF=>qrI F B (qij X G B)
theorem qdq:qcj P w (hp w.params) mg base:=qaT (f:=75) (c:=74) (pm:=mo0) X G λF=>qfg F B (qlL X G B) (qgI X G B)
theorem qiR:qe1 P w (hp w.params) mg base:=qaT (f:=120) (c:=119) (pm:=mo0) X G λF=>qih F B (qdZ X G B) (qgK X G B)
theorem qt1:qrw P w (hp w.params) mg base:=qaT (f:=167) (c:=166) (pm:=mo1) X G λF=>qvf F B (qfh X G B)
theorem qvj:qrx P w (hp w.params) mg base:=qaT (f:=174) (c:=173) (pm:=mo1) X G λF=>qs9 F B (qfh X G B)
theorem qrN:qmT P w (hp w.params) mg base:=qaT (f:=181) (c:=180) (pm:=mo1) X G λF=>qta F B (qfh X G B)
theorem qwK:qt0 P w (hp w.params) mg base:=qaT (f:=188) (c:=187) (pm:=mo1) X G λF=>qvg F B (qfh X G B)
theorem qfi:qdX P w (hp w.params) mg base:=qaT (f:=219) (c:=218) (pm:=mo2) X G λF=>qlI F B (qfh X G B) (qgJ X G B)
theorem qgl:qeH P w (hp w.params) mg base:=qaT (f:=349) (c:=348) (pm:=mo6) X G λF=>qm0 F B (qeI X G B) (qfh X G B)
theorem qtf:qnT P w (hp w.params) mg base:=qaT (f:=371) (c:=370) (pm:=mo6) X G λF=>qrJ F B (qte X G B) (qnU X G B) (qeI X G B)
theorem qkm:qfU P w (hp w.params) mg base:=qaT (f:=70) (c:=69) (pm:=mo0) X G λF=>qiN F B (qbk X G B) (qjm X G B) (qdq X G B)
theorem qev:qdc P w (hp w.params) mg base:=qaT (f:=82) (c:=81) (pm:=mo0) X G λF=>qgZ F B (qdq X G B)
theorem qkn:qfV P w (hp w.params) mg base:=qaT (f:=127) (c:=126) (pm:=mo0) X G λF=>qiO F B (qiR X G B)
theorem qnW:qkd P w (hp w.params) mg base:=qaT (f:=231) (c:=230) (pm:=mo2) X G λF=>qrC F B (qii X G B) (qt1 X G B) (qgJ X G B)
theorem qrO:qlD P w (hp w.params) mg base:=qaT (f:=236) (c:=235) (pm:=mo2) X G λF=>qoR F B (qii X G B) (qvj X G B) (qgJ X G B)
theorem qdd:qcI P w (hp w.params) mg base:=qaT (f:=243) (c:=242) (pm:=mo2) X G λF=>qoS F B (qik X G B) (qm2 X G B) (qfi X G B)
theorem qgm:qeF P w (hp w.params) mg base:=qaT (f:=248) (c:=247) (pm:=mo2) X G λF=>qmW F B (qrN X G B) (qgJ X G B)
theorem qrP:qlE P w (hp w.params) mg base:=qaT (f:=255) (c:=254) (pm:=mo2) X G λF=>qoT F B (qik X G B) (qfh X G B) (qbk X G B) (qjm X G B) (qlL X G B) (qgI X G B) (qgJ X G B) (qfi X G B)
theorem qil:qfY P w (hp w.params) mg base:=qaT (f:=267) (c:=266) (pm:=mo2) X G λF=>qoU F B (qrN X G B)
theorem qlM:qie P w (hp w.params) mg base:=qaT (f:=356) (c:=355) (pm:=mo6) X G λF=>qoX F B (qgl X G B)
theorem qim:qer P w (hp w.params) mg base:=qaT (f:=89) (c:=88) (pm:=mo0) X G λF=>qg0 F B (qkm X G B)
theorem qin:qet P w (hp w.params) mg base:=qaT (f:=134) (c:=133) (pm:=mo0) X G λF=>qg1 F B (qgK X G B) (qiQ X G B) (qkn X G B)
theorem qtg:qnR P w (hp w.params) mg base:=qaT (f:=281) (c:=280) (pm:=mo3) X G λF=>qrE F B (qwK X G B) (qgm X G B)
theorem qgn:qeG P w (hp w.params) mg base:=qaT (f:=288) (c:=287) (pm:=mo3) X G λF=>qmY F B (qrP X G B)
theorem qio:qff P w (hp w.params) mg base:=qaT (f:=378) (c:=377) (pm:=mo6) X G λF=>qlK F B (qdd X G B)
theorem qnX:qkf P w (hp w.params) mg base:=qaT (f:=385) (c:=384) (pm:=mo6) X G λF=>qrK F B (qtd X G B) (qdd X G B)
theorem qo2:qjl P w (hp w.params) mg base:=qaT (f:=397) (c:=396) (pm:=mo6) X G λF=>qm1 F B (qtf X G B) (qlM X G B) (qnU X G B) (qeI X G B)
theorem qgo:qdJ P w (hp w.params) mg base:=qaT (f:=146) (c:=145) (pm:=mo0) X G λF=>qf0 F B (qbk X G B) (qin X G B) (qrL X G B) (qev X G B) (qo0 X G B)
theorem qvk:qry P w (hp w.params) mg base:=qaT (f:=402) (c:=401) (pm:=mo6) X G λF=>qtb F B (qio X G B) (qil X G B) (qgm X G B) (qgJ X G B) (qnW X G B) (qdd X G B)
theorem qlN:qgE P w (hp w.params) mg base:=qaT (f:=153) (c:=152) (pm:=mo0) X G λF=>qki F B (qev X G B) (qtc X G B) (qgo X G B) (qim X G B)
theorem qko:qhn P w (hp w.params) mg base:=qaT (f:=262) (c:=261) (pm:=mo2) X G λF=>qrD F B (qik X G B) (qlN X G B) (qfi X G B)
theorem qeJ:qdK P w (hp w.params) mg base:=qaT (f:=274) (c:=273) (pm:=mo3) X G λF=>qmX F B (qko X G B) (qgn X G B) (qtg X G B)
theorem qkp:qho P w (hp w.params) mg base:=qaT (f:=309) (c:=308) (pm:=mo3) X G λF=>qrG F B (qko X G B) (qgn X G B) (qdd X G B) (qnW X G B)
theorem qlO:qid P w (hp w.params) mg base:=qaT (f:=316) (c:=315) (pm:=mo3) X G λF=>qoV F B (qil X G B) (qko X G B) (qgn X G B) (qdd X G B) (qrO X G B)
theorem qlP:qgF P w (hp w.params) mg base:=qaT (f:=323) (c:=322) (pm:=mo4) X G λF=>qkj F B (qlO X G B) (qil X G B) (qgm X G B) (qeJ X G B) (qkp X G B)
theorem qlQ:qgH P w (hp w.params) mg base:=qaT (f:=390) (c:=389) (pm:=mo6) X G λF=>qkl F B (qeI X G B) (qgl X G B) (qij X G B) (qdd X G B) (qgJ X G B) (qeJ X G B)
theorem qrQ:qlG P w (hp w.params) mg base:=qaT (f:=409) (c:=408) (pm:=mo6) X G λF=>qoZ F B (qlM X G B) (qij X G B) (qnX X G B) (qnV X G B) (qkp X G B) (qeI X G B) (qt1 X G B) (qdd X G B) (qeJ X G B)
theorem qlR:qgG P w (hp w.params) mg base:=qaT (f:=330) (c:=329) (pm:=mo5) X G λF=>qkk F B (qlP X G B)
end
theorem all_mk {l:PySem.W.OpenLaw} {w:World} {h:Heap} {mg:Str->Option Value} {fa:Addr} (X:(hp w.params).In h) (G:h.Ns mainGlobals mg) (hfa:mg "law" = some (.ref fa))
  : ∃ fd:FuncData,(∀ (s:Shared) (v:Value),BindsTo s fd ⟨[v],[]⟩ [("_law_script", v)])/\∀ base:Heap,(hp w.params).In base->base.Ns mainGlobals mg->FnOk l.prog w (hp w.params) mg base CX0 12 fa fd ["_law_script"] (qk0 (hp w.params)):=by
 have e:=hfa.symm.trans (PySem.W.mg_of X G (n := "law") (v:=.ref 414) (by kernel_rfl))
 cases e
 have qEXPONENTS:qcq (hp w.params)=15:=by kernel_rfl
 have xEXPONENTS:∀ H:Hp,SqT (hp w.params) H (qcq (hp w.params)) (exps.map λe:Nat=>V.int (e:Int)):=λH=>.inr ⟨_,_,_,(show (hp w.params).lookup (qcq (hp w.params))=some ⟨.type "tuple", none,.seq #[(.int 61 189),(.int 127 190),(.int 521 191),(.int 1279 192),(.int 4423 193),(.int 9941 194),(.int 21701 195),(.int 44497 196)] 0,#[]⟩ by rw [qEXPONENTS];kernel_rfl),rfl,rfl,by show 8<=sizeLine;rw [sizeLine_eq];decide,.cons ⟨_,rfl⟩ (.cons ⟨_,rfl⟩ (.cons ⟨_,rfl⟩ (.cons ⟨_,rfl⟩ (.cons ⟨_,rfl⟩ (.cons ⟨_,rfl⟩ (.cons ⟨_,rfl⟩ (.cons ⟨_,rfl⟩ (.nil))))))))⟩
 have B:Bl (hp w.params) mg:=⟨PySem.W.mg_none_of X G (by kernel_rfl),PySem.W.mg_none_of X G (by kernel_rfl),PySem.W.mg_none_of X G (by kernel_rfl),PySem.W.mg_none_of X G (by kernel_rfl),PySem.W.mg_none_of X G (by kernel_rfl),PySem.W.mg_none_of X G (by kernel_rfl),PySem.W.mg_none_of X G (by kernel_rfl),PySem.W.mg_none_of X G (by kernel_rfl),PySem.W.mg_none_of X G (by kernel_rfl),by rw [qEXPONENTS];exact PySem.W.mg_of X G (by kernel_rfl),PySem.W.mg_none_of X G (by kernel_rfl),PySem.W.mg_none_of X G (by kernel_rfl),xEXPONENTS⟩
 have FL:=qvi (K:=hp w.params) (st:=qpE) (f:=414) (c:=413) (n := "law") (pm:=mo6) (by kernel_rfl) (by kernel_rfl) (by kernel_rfl)
 refine ⟨PySem.W.fnOf "law" "law" (qds qpE) (qcK qpE) (qbg qpE) .none .none .none mo6 none (.ref 413) .none,λs v=>.of_eq rfl,λbase _ _=>?_⟩
 exact qwH FL B (qrM X G B) (qeI X G B) (qo2 X G B) (qlQ X G B) (qnX X G B) (qlO X G B) (qvk X G B) (qio X G B) (qeJ X G B) (qkp X G B) (qlR X G B) (qgl X G B) (qo1 X G B) (qrQ X G B)
theorem walk {l:PySem.W.OpenLaw} {q:Program} {loose:List Str} {XP:(Str->Option Value)->Heap->Prop} {YP:World->Heap->Prop} {d:DefRec} {K:Params->W.Frag} (hn:l.most=some 63) (hdf:d.params.defaults=[]) (hq:importsNone q=true) (ht:∀ w,(model l.prog w).prog.given.tree=none)
  (hY:∀ (w:World) (h:Heap),YP w h->(K w.params).In h)
  (F:∀ (w:World) (mg:Str->Option Value) (fa:Addr) (h:Heap),(K w.params).In h->h.Ns mainGlobals mg->mg d.name=some (.ref fa)->
   ∃ fd:FuncData,(∀ (s:Shared) (u:Value),BindsTo s fd ⟨[u],[]⟩ [("_law_script", u)])/\∀ base:Heap,(K w.params).In base->base.Ns mainGlobals mg->FnOk l.prog w (K w.params) mg base CX0 12 fa fd ["_law_script"] (qk0 (K w.params))) :
  PySem.W.WalkO q loose XP YP l.row.toRowW d [] (λf vs=>PySem.call f vs):=
 L2.walk_of (n:=63) (k:=12) (x := "_law_script") (CX:=λ_=>CX0) (sp:=λw=>qk0 (K w.params)) hn ∅ hdf hq ht ⟨rfl,∅,∅⟩ hY F (λ_ _ a ns hl _ hS=>⟨a,ns,rfl,hS,hl,λ_=>rfl⟩) λ_ _ _ _ _ z=>z
end Bs
open PySem PySem.W PyProof.Rows
set_option maxRecDepth 100000 in
set_option maxHeartbeats 0 in
theorem PySem.Challenge.cw_backslope_k38_forms_shown_holds : PySem.Challenge.rw_backslope_k38_forms_shown.Holds := by
  w_on; o_law
  refine PySem.W.holds_open (q := Bs.Hd.vw) (loose := []) (Xt := fun s => PySem.W.xlAt Bs.Hd.vw [] s && PySem.W.recOk (PySem.W.RowW.records (PySem.W.OpenRow.toRowW (PySem.W.OpenLaw.row PySem.Challenge.rw_backslope_k38_forms_shown))) s) (XP := PySem.W.XL Bs.Hd.vw []) (Yf := Bs.Hd.hk.obs) (Ya := Bs.Hd.hk.val) (YP := Bs.Hd.hk.says) (N := 4054) Bs.Hd.left Bs.Hd.hk.of Bs.Hd.hk.keeps (fun s e => PySem.W.xl_of s (Bool.and_eq_true_iff.mp e).1) PySem.W.XL.keeps (by rfl) (by rfl) (by rfl) (fun s e => PySem.W.recFacts_of (Bool.and_eq_true_iff.mp e).2) (by rfl) (by first | assumption | decide +kernel) (by decide +kernel) ⟨rfl, rfl, rfl, rfl, rfl, by decide +kernel⟩ ?hw ?hc
  case hw => w_witness2
  case hc => exact Bs.walk (l := PySem.Challenge.rw_backslope_k38_forms_shown) (K := Bs.Hd.hp) rfl rfl (by decide +kernel) (fun _ => rfl) (fun w h Y => Y) (fun w mg fa h KX G hmg => Bs.all_mk KX G hmg)
#print axioms PySem.Challenge.cw_backslope_k38_forms_shown_holds
